import PyProof.Rows.All
import Wide.All
import OpenK.AllK
import Wide.FinOn
import Lean
import PyProof.EqAt
import PyProof.EqKinds
import PyProof.TupleCall
import PyProof.Rows.FStrParts
import KE.KRevIter
import PyProof.CollectIter
import PyProof.SumWalkG
import KE.KDictOf
import PyProof.IsiH_list
import PyProof.RaisesAny
import PyProof.P3In
import PyProof.Rows.SortRuns
import PyProof.Rows.SortShell
import KE.KSortTup
import PySem.Challenge.RW_sorthall_k58_whole_stopped_and_given_mor
local macro_rules | `(tactic| omega)=>`(tactic| first | with_reducible assumption | lia | omega (splitDisjunctions:=true))
set_option Elab.async false
set_option linter.all false
set_option maxRecDepth 100000
open Nat renaming le_refl→yAA,zero_le→yAI,le_trans→yAK,ne_of_lt→yAU,lt_of_lt_of_le→yAX,le_succ→yAZ,sub_self→yBI,min_eq_left→yBK,pow_succ→yBL,lt_irrefl→yBO,le_of_lt→yBP,pow_zero→yBV,lt_succ_self→yBW,zero_add→yCD,lt_or_ge→yCF,one_le_two_pow→yCJ
open List renaming length_append→yAB,length_map→yAC,mem_cons_of_mem→yAD,mem_cons→yAE,mem_cons_self→yAF,length_cons→yAG,getElem?_eq_some_iff→yAH,append_assoc→yAJ,getElem?_eq_getElem→yAL,length_take→yAM,map_append→yAN,size_toArray→yAO,append_nil→yAQ,length_drop→yAR,mem_singleton→yAS,length_singleton→yAT,mem_append_right→yAV,getElem?_map→yAW,map_cons→yAY,getElem?_append_right→yBA,mem_of_getElem?→yBB,not_mem_nil→yBC,mem_append→yBD,getElem?_append_left→yBH,take_append_drop→yBJ,mem_append_left→yBM,getElem?_of_mem→yBN,take_of_length_le→yBQ,length_nil→yBR,getElem?_drop→yBT,lookup_cons→yBU,getElem?_take_of_lt→yBX,getElem?_eq_none→yBY,pairwise_append→yBZ,extract_eq_drop_take→yCB,drop_eq_getElem_cons→yCC,pairwise_cons→yCE,map_drop→yCG,perm_append_comm→yCH,length_range'→yCI
open Array renaming length_toList→yAP,getElem?_toList→yBF,getElem?_eq_some_iff→yBG,toList_append→yBS,toList_extract→yCA
open Bool renaming false_ne_true→yBE
namespace L2
open PySem PySem.W
theorem left_boot {p q:Program} {loose:List Str} {Xt:Shared->Bool} {α:Type} {Yf:Shared->α} {Ya:World->α} {N:Nat} {g0:Bool}
  (open_:∀ w:World,(fencedOpening treeTable p w N).map (fun s=>(s.heap,s.gens,s.drawn,s.toks))=some (boot_heap w.params,Array.mk [],boot_drawn,boot_toks))
  (h:∀ (w:World) (os:OsState),(topFrom treeTable p w N ⟨boot_heap w.params,Array.mk [],boot_drawn,boot_toks,os⟩).map (fun s=>(openSeen q loose (importedModules p.main.body) Xt g0 s,Yf s))=some (openGood q loose,Ya w)):LeftO p q loose Xt Yf Ya N g0:=fun w=>by
 obtain ⟨⟨hh,gs,d,k,os⟩,e,e'⟩:=Option.map_eq_some_iff.mp (open_ w)
 obtain ⟨rfl,rfl,rfl,rfl⟩:hh=boot_heap w.params /\ gs=Array.mk [] /\ d=boot_drawn /\ k=boot_toks:=by simpa using e'
 unfold openEnds
 rw [e]
 exact h w os
theorem left_two {p q:Program} {loose:List Str} {Xt:Shared->Bool} {α:Type} {Yf:Shared->α} {Ya:World->α} {N:Nat} {g0:Bool}
  (open_:∀ w:World,(fencedOpening treeTable p w N).map (fun s=>(s.heap,s.gens,s.drawn,s.toks))=some (boot_heap w.params,Array.mk [],boot_drawn,boot_toks))
  (h1:∀ (w:World) (os:OsState),(topFrom treeTable p w N ⟨boot_heap w.params,Array.mk [],boot_drawn,boot_toks,os⟩).map (fun s=>openSeen q loose (importedModules p.main.body) Xt g0 s)=some (openGood q loose))
  (h2:∀ (w:World) (os:OsState),(topFrom treeTable p w N ⟨boot_heap w.params,Array.mk [],boot_drawn,boot_toks,os⟩).map (fun s=>Yf s)=some (Ya w)):LeftO p q loose Xt Yf Ya N g0 :=
 left_boot open_ fun w os=>by
  have a:=h1 w os
  have b:=h2 w os
  generalize topFrom treeTable p w N ⟨boot_heap w.params,Array.mk [],boot_drawn,boot_toks,os⟩=r at a b
  cases r with
  | none=>cases a
  | some s=>exact congrArg some (Prod.ext (Option.some.inj a) (Option.some.inj b))
noncomputable def s0B (w:World) (os:OsState):Shared:=⟨boot_heap w.params,Array.mk [],boot_drawn,boot_toks,os⟩
noncomputable def ofLB:List Obj->Nat->BT->BT
 | [],_,t=>t
 | o::r,n,t=>ofLB r (n+1) (t.ins n o)
noncomputable def sTB (w:World) (os:OsState):SharedT:=⟨ofLB (boot_heap w.params).objs.toList 0 .nil,(boot_heap w.params).objs.size,(boot_heap w.params).life,Array.mk [],boot_drawn,boot_toks,os⟩
noncomputable def topRunQ (p:Program) (w:World) (n₀:Nat) (ann:Option Value):Nat->SharedT->Thread->Option SharedT
 | 0,_,_=>none
 | n+1,s,t=>match through t with
  | true=>some s
  | false=>match PySem.W.Fast.tw6613529449190102663 n₀ ann t with
   | false=>none
   | true=>match PySem.W.Fast.tw10156331382660048174 (PySem.W.Fast.tw11892475500146522536 PySem.W.Fast.tw14364793385576792824) p w s t with
    | some (s',t')=>topRunQ p w n₀ ann n s' t'
    | none=>none
theorem topRunQ_spec {p:Program} {w:World} {n₀:Nat} {ann:Option Value}:∀ {n:Nat} {s s':SharedT} {t:Thread},topRunQ p w n₀ ann n s t=some s'->topRun treeTable p w n₀ ann n s.abs t=some s'.abs
 | 0,_,_,_,h=>by cases h
 | n+1,s,s',t,h=>by
  unfold topRunQ at h
  rw [<- PySem.W.Fast.te6613529449190102663,<- PySem.W.Fast.te10156331382660048174,<- PySem.W.Fast.te11892475500146522536,<- PySem.W.Fast.te14364793385576792824] at h
  unfold topRun
  cases he:through t with
  | true=>rw [he] at h;cases h;rfl
  | false=>
   rw [he] at h
   cases hk:stepOk n₀ ann t with
   | false=>rw [hk] at h;cases h
   | true=>
    rw [hk] at h
    cases hs:stepT (denote treeTable) p w s t with
    | none=>rw [hs] at h;cases h
    | some r=>obtain ⟨s₂,t₂⟩:=r;rw [hs] at h;rw [stepT_spec hs];exact topRunQ_spec h
set_option maxHeartbeats 0 in
theorem sTB_abs:∀ (w:World) (os:OsState),(sTB w os).abs=s0B w os:=by
 intro w os
 kernel_rfl
set_option maxHeartbeats 0 in
theorem s0B_ns:∀ (w:World) (os:OsState),((s0B w os).heap.isNs mainGlobals && (s0B w os).gens.size == 0)=true:=by
 intro w os
 kernel_rfl
noncomputable def topOkB (p:Program) (s₀ s₁:Shared):Bool:=staticsOk (importedModules p.main.body) s₀.heap s₁.heap && namesBound p s₁.heap && gensDone s₁ && laidKept s₀.heap s₁.heap
theorem via_tree {α:Type} {p:Program} {N:Nat} {F:Shared->α} {G:α} (w:World) (os:OsState)
  (h:(topRunQ p w (s0B w os).heap.objs.size ((s0B w os).heap.nsMap mainGlobals "__annotations__") N (sTB w os) (topStub p)).map (fun s=>(topOkB p (s0B w os) s.abs,F s.abs))=some (true,G)):(topFrom treeTable p w N ⟨boot_heap w.params,Array.mk [],boot_drawn,boot_toks,os⟩).map F=some G:=by
 obtain ⟨s',e1,e2⟩:=Option.map_eq_some_iff.mp h
 have r:=topRunQ_spec e1
 rw [sTB_abs] at r
 obtain ⟨e3,e4⟩:=Prod.mk.inj e2
 show (topFrom treeTable p w N (s0B w os)).map F=some G
 unfold topFrom
 rw [s0B_ns w os]
 dsimp only
 rw [r,Option.bind_some]
 unfold topOkB at e3
 rw [e3]
 exact congrArg some e4
noncomputable def vw (p:Program) (ix:List Nat):Program:={ p with main:={ p.main with body:=ix.filterMap fun i=>p.main.body[i]? } }
noncomputable def Vw:Program:=vw PySem.Challenge.pw_sorthall_k58_whole_stopped_and_given_mor [0,2,4,5,6,7,8,11,13,16,18,21,22,24,26,27,29,30,31,32,33,34,35,36]
set_option maxHeartbeats 0 in
theorem seen1:∀ (w:World) (os:OsState),(topFrom treeTable PySem.Challenge.pw_sorthall_k58_whole_stopped_and_given_mor w 5924 ⟨boot_heap w.params,Array.mk [],boot_drawn,boot_toks,os⟩).map (fun s=>openSeen L2.Vw (["stretch_from","filled","by_pile"]:List Str) (importedModules PySem.Challenge.pw_sorthall_k58_whole_stopped_and_given_mor.main.body) (fun s=>xlAt L2.Vw [] s && recOk (RowW.records (OpenRow.toRowW (OpenLaw.row PySem.Challenge.rw_sorthall_k58_whole_stopped_and_given_mor))) s) true s)=some (openGood L2.Vw (["stretch_from","filled","by_pile"]:List Str)):=by
 intro w os
 refine via_tree w os ?_
 rw [PySem.W.Fast.te4187177175401517315]
 kernel_rfl
local macro_rules | `(tactic| o_law)=>`(tactic| refine holds_law (by decide +kernel) fun said=>?_)
set_option hygiene false in
local macro_rules | `(tactic| o_head $H)=>`(tactic| (refine holds_open (q:=L2.Vw) (loose:=(["stretch_from","filled","by_pile"]:List Str)) (Xt:=fun s=>xlAt L2.Vw [] s && recOk (RowW.records _) s) (XP:=XL L2.Vw []) (Yf:=Hook.obs $H) (Ya:=Hook.val $H) (YP:=Hook.says $H) (N:=5924) ?hl (Hook.of $H) (Hook.keeps $H) (fun s e=>xl_of s (Bool.and_eq_true_iff.mp e).1) XL.keeps (by rfl) (by rfl) (by rfl) (fun s e=>recFacts_of (Bool.and_eq_true_iff.mp e).2) (by rfl) (by first | assumption | decide +kernel) (by decide +kernel) ⟨rfl,rfl,rfl,rfl,rfl,by decide +kernel⟩ ?hw ?hc;(case hl=>(refine L2.left_two (PySem.W.boot_open (by rfl) (by decide) (fun s=>rfl)) (fun w os=>?h1) (fun w os=>?h2);(case h1=>exact L2.seen1 w os);(case h2=>(refine L2.via_tree w os ?_;kernel_rfl))))))
set_option maxHeartbeats 0 in
open_top hd0 for PySem.Challenge.rw_sorthall_k58_whole_stopped_and_given_mor
end L2
namespace L2
open PySem PySem.Spec PyProof.Rows
noncomputable abbrev Key:=Sum Int Str
noncomputable def keyIs:Key->Value->Bool
 | .inl k,v=>Value.isInt k v
 | .inr x,v=>Value.isStrOf x v
noncomputable def keyH (w:World):Key->Int
 | .inl k=>hashInt k
 | .inr x=>hashStr w x
theorem ZAw:∀ {k:Key} {v:Value},keyIs k v=true->(∃ i t,k=Sum.inl i /\ v=Value.int i t)∨(∃ x t,k=Sum.inr x /\ v=Value.str x t)
 | .inl i,v,h=>by
  obtain ⟨t,e⟩:=Value.isInt_shape (k:=i) (v:=v) h
  exact .inl ⟨i,t,rfl,e⟩
 | .inr x,v,h=>by
  obtain ⟨t,e⟩:=Value.isStrOf_shape (x:=x) (v:=v) h
  exact .inr ⟨x,t,rfl,e⟩
theorem key_ll (a b:Int):decide ((Sum.inl a:Key)=Sum.inl b)=(a == b):=by
 by_cases e:a=b
 .subst e;simp
 .have h:¬ (Sum.inl a:Key)=Sum.inl b:=fun q=>e (Sum.inl.inj q)
  rw [decide_eq_false h]
  exact (beq_eq_false_iff_ne.mpr e).symm
theorem key_rr (a b:Str):decide ((Sum.inr a:Key)=Sum.inr b)=decide (a=b):=by
 by_cases e:a=b
 .subst e;simp
 .have h:¬ (Sum.inr a:Key)=Sum.inr b:=fun q=>e (Sum.inr.inj q)
  rw [decide_eq_false h,decide_eq_false e]
theorem key_lr (a:Int) (b:Str):decide ((Sum.inl a:Key)=Sum.inr b)=false:=decide_eq_false (fun q=>nomatch q)
theorem key_rl (a:Str) (b:Int):decide ((Sum.inr a:Key)=Sum.inl b)=false:=decide_eq_false (fun q=>nomatch q)
noncomputable def mixKind (prog:Program) (w:World):PySem.KeyKind prog w Key where
 is:=keyIs
 hash:=keyH w
 inj:=fun v a b ha hb=>by
  rcases ZAw ha with ⟨i,t,rfl,rfl⟩ | ⟨x,t,rfl,rfl⟩
  .rcases ZAw hb with ⟨j,u,rfl,e⟩ | ⟨y,u,rfl,e⟩
   .injection e with e1 _;rw [e1]
   .exact nomatch e
  .rcases ZAw hb with ⟨j,u,rfl,e⟩ | ⟨y,u,rfl,e⟩
   .exact nomatch e
   .injection e with e1 _;rw [e1]
 byValue:=fun k v h=>by
  rcases ZAw h with ⟨i,t,rfl,rfl⟩ | ⟨x,t,rfl,rfl⟩ <;> rfl
 pyHash:=fun hv h=>by
  rcases ZAw hv with ⟨i,t,rfl,rfl⟩ | ⟨x,t,rfl,rfl⟩
  .exact wpAny_pyHash_int h
  .exact wpAny_pyHash_str h
 eqBool:=fun hu hv h=>by
  rcases ZAw hu with ⟨i,t,rfl,rfl⟩ | ⟨x,t,rfl,rfl⟩
  .rcases ZAw hv with ⟨j,u,rfl,rfl⟩ | ⟨y,u,rfl,rfl⟩
   .rw [key_ll] at h;exact wpAny_eqBool_int h
   .rw [key_lr] at h;exact SeqAt.EqAt.int_str i t y u _ _ _ _ h
  .rcases ZAw hv with ⟨j,u,rfl,rfl⟩ | ⟨y,u,rfl,rfl⟩
   .rw [key_rl] at h;exact SeqAt.EqAt.str_int x t j u _ _ _ _ h
   .rw [key_rr] at h;exact wpAny_eqBool_str h
 «strs»:=fun k x t v h=>by
  rcases ZAw h with ⟨i,u,rfl,e⟩ | ⟨y,u,rfl,e⟩
  .exact nomatch e
  .injection e with e1 _
   subst e1
   cases v <;> rfl
inductive V where
 | non | bl (b:Bool) | int (i:Int) | str (x:Str) | byt (b:Array UInt8) | flt (b:UInt64) | ref (a:Addr) | ty (n:String)
 deriving DecidableEq
noncomputable def RelV:V->Value->Prop
 | .non,u=>u=Value.none
 | .bl b,u=>u=Value.bool b
 | .int i,u=>∃ t,u=Value.int i t
 | .str x,u=>∃ t,u=Value.str x t
 | .byt b,u=>∃ t,u=Value.bytes b t
 | .flt b,u=>∃ t,u=Value.float b t
 | .ref a,u=>u=Value.ref a
 | .ty n,u=>u=Value.type n
noncomputable abbrev Vals:List V->List Value->Prop:=Paired RelV
theorem Vals.length {xs:List V} {us:List Value} (r:Vals xs us):xs.length=us.length:=Paired.length r
theorem Vals.get:∀ {xs:List V} {us:List Value} {i:Nat} {x:V},Vals xs us->xs[i]?=some x->∃ u,us[i]?=some u /\ RelV x u
 | _,_,_,_,.nil,e=>by simp at e
 | _,_,0,_,.cons r _,e=>by simp at e;subst e;exact ⟨_,rfl,r⟩
 | _,_,i+1,x,.cons _ t,e=>by
  obtain ⟨u,h1,h2⟩:=Vals.get (i:=i) (x:=x) t (by simpa using e)
  exact ⟨u,by simpa using h1,h2⟩
theorem Vals.set {x:V} {u:Value} (r:RelV x u):∀ {xs:List V} {us:List Value} (i:Nat),Vals xs us->Vals (xs.set i x) (us.set i u)
 | _,_,_,.nil=>.nil
 | _,_,0,.cons _ t=>.cons r t
 | _,_,i+1,.cons q t=>.cons q (Vals.set r i t)
theorem Vals.append:∀ {xs ys:List V} {us ws:List Value},Vals xs us->Vals ys ws->Vals (xs++ys) (us++ws)
 | _,_,_,_,.nil,s=>s
 | _,_,_,_,.cons r t,s=>.cons r (Vals.append t s)
theorem Vals.take:∀ {xs:List V} {us:List Value} (n:Nat),Vals xs us->Vals (xs.take n) (us.take n)
 | _,_,0,_=>.nil
 | _,_,_+1,.nil=>.nil
 | _,_,n+1,.cons r t=>.cons r (Vals.take n t)
theorem Vals.drop:∀ {xs:List V} {us:List Value} (n:Nat),Vals xs us->Vals (xs.drop n) (us.drop n)
 | _,_,0,r=>r
 | _,_,_+1,.nil=>.nil
 | _,_,n+1,.cons _ t=>Vals.drop n t
noncomputable def RelO:Option V->Option Value->Prop
 | some v,some u=>RelV v u
 | none,none=>True
 | _,_=>False
noncomputable def KV {κ:Type}:List (κ×V)->List (κ×Value)->Prop:=Paired fun (p:κ×V) (q:κ×Value)=>p.1=q.1 /\ RelV p.2 q.2
noncomputable def kV:Key->V
 | .inl i=>.int i
 | .inr x=>.str x
inductive HO where
 | lst (xs:List V)
 | tup (xs:List V)
 | dK (kvs:List (Key×V)) | dT (kvs:List (List Key×V))
 | set (S:Int->Bool) (n:Nat)
 | ins (C dx:Addr) (fs:List (Str×V))
 | own (x:Addr)
 | xd (fs:List (Str×V))
 | met (f x:Addr)
 | rng (lo hi:Int)
 | frz (o:Obj) (u:HO)
 | tbl (ps:Array Value)
 | ext (φ:Heap->Prop)
noncomputable abbrev Hp:=Addr->Option HO
noncomputable def upd (H:Hp) (a:Addr) (o:HO):Hp:=fun b=>if b=a then some o else H b
theorem ZAG {H:Hp} {a:Addr} {o:HO}:upd H a o a=some o:=by unfold upd;rw [if_pos rfl]
theorem ZAI {H:Hp} {a b:Addr} {o:HO} (h:b≠a):upd H a o b=H b:=by unfold upd;rw [if_neg h]
theorem ZDP {H:Hp} {a:Addr} {o u:HO}:upd (upd H a o) a u=upd H a u:=by
 funext b;unfold upd;split <;> rfl
theorem ZAC {H:Hp} {a b:Addr} {o:HO} (h:H a=some o) (h':H b=none):a≠b:=by
 intro e;subst e;rw [h] at h';cases h'
section
variable (P:Program) (w:World)
noncomputable def ObjOk (H:Hp) (h:Heap) (a:Addr):HO->Prop
 | .lst xs=>xs.length <= sizeLine /\ ∃ (its:List Value) (n:Nat),Vals xs its /\ h.get? a=some { cls:=.type "list",data:=.seq its.toArray n }
 | .tup xs=>xs.length <= sizeLine /\ ∃ its:List Value,Vals xs its /\ IsTup h a its.toArray
 | .dK kvs=>kvs.length <= sizeLine /\ (a == sysModules)=false /\ ∃ vs,KV kvs vs /\ h.DictOf (mixKind P w) a vs
 | .dT kvs=>kvs.length <= sizeLine /\ (a == sysModules)=false /\ ∃ xs:List (List Key×Addr×Value),
   Paired (fun (p:List Key×V) (q:List Key×Addr×Value)=>p.1=q.1 /\ H q.2.1=some (.tup (p.1.map kV)) /\ RelV p.2 q.2.2) kvs xs /\
   ∃ o es ep,h.get? a=some o /\ o.ExactDict /\ o.data=.dict es ep /\ es.toList=xs.map (entryOfKey (tupleKind (mixKind P w))) /\ (xs.map (·.1)).Nodup
 | .set S n=>h.SetOf (intKind P w) a S n
 | .ins C dx fs=>H dx=some (.own a) /\ fs.length <= 1000 /\ dx≠a /\ h.get? a=some (PySem.W.instObj C dx) /\
   ∃ mA,h.Ns1 dx mA /\ (∀ f,RelO (fs.lookup f) (mA f)) /\ PySem.Within mA (fs.map (·.1))
 | .own _=>∃ o,h.get? a=some o
 | .xd fs=>∃ mA,h.Ns1 a mA /\ ∀ f,RelO (fs.lookup f) (mA f)
 | .rng lo hi=>∃ t u v,h.get? a=some { cls:=.type "range",data:=.fields #[.int lo t,.int hi u,.int 1 v] }
 | .frz o u=>h.get? a=some o /\ ObjOk H h a u
 | .tbl ps=>h.get? a=some { cls:=.none,data:=.fields ps }
 | .met f x=>h.get? a=some (PySem.W.methodObj (.ref f) (.ref x))
 | .ext φ=>φ h /\ (∃ o,h.get? a=some o) /\ ∀ h1 h2:Heap,φ h1->(∀ o,h1.get? a=some o->h2.get? a=some o)->φ h2
noncomputable def HOk (H:Hp) (h:Heap):Prop:=∀ a o,H a=some o->ObjOk P w H h a o
end
section
variable {P:Program} {w:World} {H H':Hp} {h h':Heap} {a:Addr} {o:HO}
theorem ObjOk.lt (x:ObjOk P w H h a o):a < h.objs.size:=by
 cases o with
 | lst xs=>obtain ⟨_,_,_,_,e⟩:=x;exact Heap.lt_size e
 | tup xs=>obtain ⟨_,_,_,p⟩:=x;exact p.lt
 | dK kvs=>obtain ⟨_,_,_,_,o,_,_,e,_⟩:=x;exact Heap.lt_size e
 | dT kvs=>obtain ⟨_,_,_,_,o,_,_,e,_⟩:=x;exact Heap.lt_size e
 | set S n=>obtain ⟨o,_,_,_,e,_⟩:=x;exact Heap.lt_size e
 | ins C dx fs=>obtain ⟨_,_,_,e,_⟩:=x;exact Heap.lt_size e
 | own y=>obtain ⟨_,e⟩:=x;exact Heap.lt_size e
 | xd fs=>obtain ⟨_,⟨_,_,_,e,_⟩,_⟩:=x;exact Heap.lt_size e
 | rng lo hi=>obtain ⟨_,_,_,e⟩:=x;exact Heap.lt_size e
 | frz ob u=>obtain ⟨e,_⟩:=x;exact Heap.lt_size e
 | tbl ps=>exact Heap.lt_size (show h.get? a=some _ from x)
 | met f y=>exact Heap.lt_size (show h.get? a=some _ from x)
 | ext φ=>obtain ⟨_,⟨_,e⟩,_⟩:=x;exact Heap.lt_size e
theorem Paired.mapP {α β:Type} {F G:α->β->Prop}:∀ {l₁:List α} {l₂:List β},Paired F l₁ l₂->(∀ a b,F a b->G a b)->Paired G l₁ l₂
 | _,_,.nil,_=>.nil
 | _,_,.cons r t,f=>.cons (f _ _ r) (Paired.mapP t f)
theorem ObjOk.stay (x:ObjOk P w H h a o) (k:∀ b u,(b=a∨H b=some (.own a))->h.get? b=some u->h'.get? b=some u)
  (ho:∀ b,H b=some (.own a)->H' b=some (.own a)) (ht:∀ b xs,H b=some (.tup xs)->H' b=some (.tup xs)):ObjOk P w H' h' a o:=by
 induction o with
 | lst xs=>obtain ⟨z,its,n,r,e⟩:=x;exact ⟨z,its,n,r,k _ _ (.inl rfl) e⟩
 | tup xs=>obtain ⟨z,its,r,ob,e,c⟩:=x;exact ⟨z,its,r,ob,k _ _ (.inl rfl) e,c⟩
 | dK kvs=>obtain ⟨z,y,vs,r,ob,es,ep,e,c⟩:=x;exact ⟨z,y,vs,r,ob,es,ep,k _ _ (.inl rfl) e,c⟩
 | dT kvs=>
  obtain ⟨z,y,xs,r,ob,es,ep,e,c⟩:=x
  exact ⟨z,y,xs,Paired.mapP r fun p q z=>⟨z.1,ht _ _ z.2.1,z.2.2⟩,ob,es,ep,k _ _ (.inl rfl) e,c⟩
 | set S n=>obtain ⟨ob,es,ep,t,e,c⟩:=x;exact ⟨ob,es,ep,t,k _ _ (.inl rfl) e,c⟩
 | ins C dx fs=>
  obtain ⟨d,z,ne,e,mA,⟨od,es,ep,e2,c⟩,r⟩:=x
  exact ⟨ho _ d,z,ne,k _ _ (.inl rfl) e,mA,⟨od,es,ep,k _ _ (.inr d) e2,c⟩,r⟩
 | own y=>obtain ⟨ob,e⟩:=x;exact ⟨ob,k _ _ (.inl rfl) e⟩
 | xd fs=>obtain ⟨mA,⟨od,es,ep,e,c⟩,r⟩:=x;exact ⟨mA,⟨od,es,ep,k _ _ (.inl rfl) e,c⟩,r⟩
 | rng lo hi=>obtain ⟨t,u,v,e⟩:=x;exact ⟨t,u,v,k _ _ (.inl rfl) e⟩
 | frz ob u ih=>obtain ⟨e,q⟩:=x;exact ⟨k _ _ (.inl rfl) e,ih q⟩
 | tbl ps=>
  have e:h.get? a=some { cls:=.none,data:=.fields ps }:=x
  show h'.get? a=some { cls:=.none,data:=.fields ps }
  exact k a _ (.inl rfl) e
 | met f y=>
  have e:h.get? a=some (PySem.W.methodObj (.ref f) (.ref y)):=x
  show h'.get? a=some (PySem.W.methodObj (.ref f) (.ref y))
  exact k a _ (.inl rfl) e
 | ext φ=>obtain ⟨p,⟨o,e⟩,st⟩:=x;exact ⟨st _ _ p fun o q=>k _ _ (.inl rfl) q,⟨o,k _ _ (.inl rfl) e⟩,st⟩
theorem HOk.lt (x:HOk P w H h) (e:H a=some o):a < h.objs.size:=(x a o e).lt
theorem HOk.fresh (x:HOk P w H h) (e:h.objs.size <= a):H a=none:=by
 cases q:H a with
 | none=>rfl
 | some u=>exact absurd (yAX (x.lt q) e) (yBO _)
theorem HOk.kept (x:HOk P w H h) (k:∀ b u,h.get? b=some u->h'.get? b=some u):HOk P w H h':=fun a o e=>
 (x a o e).stay (fun b u _ q=>k b u q) (fun _ q=>q) fun _ _ q=>q
theorem HOk.laid (x:HOk P w H h) (k:∀ b u,h.get? b=some u->h'.get? b=some u) (hp:h.objs.size <= a) (new:ObjOk P w (upd H a o) h' a o):HOk P w (upd H a o) h':=fun b u e=>by
 have hn:=x.fresh hp
 by_cases hb:b=a
 .subst hb;rw [ZAG] at e;cases e;exact new
 .rw [ZAI hb] at e
  exact (x b u e).stay (fun c v _ q=>k c v q) (fun c q=>by rw [ZAI (ZAC q hn)];exact q) fun c xs q=>by rw [ZAI (ZAC q hn)];exact q
end
noncomputable def Rd (H:Hp) (a:Addr) (u:HO):Prop:=H a=some u∨∃ o,H a=some (.frz o u)
theorem Rd.ok {P:Program} {w:World} {H:Hp} {h:Heap} {a:Addr} {u:HO} (r:Rd H a u) (x:HOk P w H h):ObjOk P w H h a u:=by
 rcases r with r | ⟨o,r⟩
 .exact x a u r
 .obtain ⟨_,q⟩:=x a _ r
  exact q
noncomputable def Mut:Option HO->Prop
 | some (.lst _)=>True
 | some (.dK _)=>True
 | some (.dT _)=>True
 | some (.set _ _)=>True
 | some (.ins _ _ _)=>True
 | some (.ext _)=>True
 | _=>False
section
variable {P:Program} {w:World} {H:Hp} {h h':Heap} {x e:Addr} {o':HO}
theorem HOk.write (ok:HOk P w H h) (mu:Mut (H x)) (he:e=x∨H e=some (.own x)) (k:∀ b u,b≠e->h.get? b=some u->h'.get? b=some u) (heo:∃ u,h'.get? e=some u)
  (new:ObjOk P w (upd H x o') h' x o'):HOk P w (upd H x o') h':=fun b u q=>by
 have nown:∀ c y,H c=some (.own y)->c≠x:=fun c y r z=>by subst z;rw [r] at mu;exact mu
 have ntup:∀ c xs,H c=some (.tup xs)->c≠x:=fun c xs r z=>by subst z;rw [r] at mu;exact mu
 by_cases hb:b=x
 .subst hb;rw [ZAG] at q;cases q;exact new
 .rw [ZAI hb] at q
  by_cases hbe:b=e
  .have q':H b=some (.own x):=by
    rcases he with z | z
    .exact absurd (hbe.trans z) hb
    .rw [hbe];exact z
   rw [q] at q';cases q'
   obtain ⟨v,hv⟩:=heo
   exact ⟨v,by rw [hbe];exact hv⟩
  .refine (ok b u q).stay (fun c v hc r=>k c v ?_ r) (fun c r=>by rw [ZAI (nown c b r)];exact r) fun c xs r=>by rw [ZAI (ntup c xs r)];exact r
   rcases hc with rfl | hc
   .exact hbe
   .rintro rfl
    rcases he with z | z
    .exact nown c b hc z
    .rw [hc] at z;cases z;exact hb rfl
end
structure Un (fs ex:List Addr) (H H':Hp) (h h':Heap):Prop where
 keep:∀ b o,h.get? b=some o->H b=none->b∉fs->b∉ex->h'.get? b=some o
 slot:∀ b o,h.get? b=some o->H b=none->b∈fs->b∉ex->∃ sl,h'.get? b=some { o with slots:=sl }
 free:∀ b o,h.get? b=some o->H b=none->b∉ex->H' b=none
 there:∀ b o,h.get? b=some o->b∉ex->∃ o',h'.get? b=some o'
 tups:∀ b xs,H b=some (.tup xs)->H' b=some (.tup xs)
 frzs:∀ b o u,H b=some (.frz o u)->H' b=some (.frz o u)
 tbls:∀ b ps,H b=some (.tbl ps)->∃ more,H' b=some (.tbl (ps++more))
section
variable {fs fs' ex ex':List Addr} {H H1 H2:Hp} {h h1 h2 h':Heap} {a x e:Addr} {o:HO}
theorem Un.any (u:Un fs ex H H1 h h1) {b:Addr} {ob:Obj} (q:h.get? b=some ob) (n:H b=none) (hx:b∉ex):∃ sl,h1.get? b=some { ob with slots:=sl }:=by
 by_cases hb:b∈fs
 .exact u.slot b ob q n hb hx
 .exact ⟨ob.slots,u.keep b ob q n hb hx⟩
theorem Un.trans (a:Un fs ex H H1 h h1) (b:Un fs ex H1 H2 h1 h2):Un fs ex H H2 h h2 where
 keep:=fun c ob q n hc hx=>b.keep c ob (a.keep c ob q n hc hx) (a.free c ob q n hx) hc hx
 slot:=fun c ob q n hc hx=>by
  obtain ⟨sl,e1⟩:=a.slot c ob q n hc hx
  obtain ⟨sl',e2⟩:=b.slot c _ e1 (a.free c ob q n hx) hc hx
  exact ⟨sl',e2⟩
 free:=fun c ob q n hx=>by
  obtain ⟨o',e1⟩:=a.there c ob q hx
  exact b.free c o' e1 (a.free c ob q n hx) hx
 there:=fun c ob q hx=>by
  obtain ⟨o',e1⟩:=a.there c ob q hx
  exact b.there c o' e1 hx
 tups:=fun c xs q=>b.tups c xs (a.tups c xs q)
 frzs:=fun c ob xs q=>b.frzs c ob xs (a.frzs c ob xs q)
 tbls:=fun c ps q=>by
  obtain ⟨m1,e1⟩:=a.tbls c ps q
  obtain ⟨m2,e2⟩:=b.tbls c _ e1
  exact ⟨m1++m2,by rw [e2,Array.append_assoc]⟩
theorem Un.kept (k:∀ b u,h.get? b=some u->h'.get? b=some u):Un fs ex H H h h' :=
 ⟨fun b ob q _ _ _=>k b ob q,fun b ob q _ _ _=>⟨ob.slots,k b ob q⟩,fun _ _ _ n _=>n,fun b ob q _=>⟨ob,k b ob q⟩,fun _ _ q=>q,fun _ _ _ q=>q,fun _ ps q=>⟨#[],by rw [q];simp⟩⟩
theorem Un.refl:Un fs ex H H h h:=Un.kept fun _ _ q=>q
theorem Un.laid (k:∀ b u,h.get? b=some u->h'.get? b=some u) (hp:h.objs.size <= a) (hn:H a=none):Un fs ex H (upd H a o) h h' where
 keep:=fun b u q _ _ _=>k b u q
 slot:=fun b u q _ _ _=>⟨u.slots,k b u q⟩
 free:=fun b u q n _=>by rw [ZAI (yAU (yAX (Heap.lt_size q) hp))];exact n
 there:=fun b u q _=>⟨u,k b u q⟩
 tups:=fun b xs q=>by rw [ZAI (ZAC q hn)];exact q
 frzs:=fun b u xs q=>by rw [ZAI (ZAC q hn)];exact q
 tbls:=fun b ps q=>⟨#[],by rw [ZAI (ZAC q hn),q];simp⟩
theorem Un.write (mu:Mut (H x)) (he:e=x∨H e=some (.own x)) (k:∀ b u,b≠e->h.get? b=some u->h'.get? b=some u) (heo:∃ u,h'.get? e=some u):Un fs ex H (upd H x o) h h':=by
 have hx:∀ b,H b=none->b≠x:=fun b n z=>by subst z;rw [n] at mu;exact mu
 have hb:∀ b,H b=none->b≠e:=fun b n z=>by
  subst z
  rcases he with r | r
  .exact hx b n r
  .rw [n] at r;cases r
 have hm:∀ b u,H b=some u->¬ Mut (some u)->b≠x:=fun b u q nm z=>by subst z;rw [q] at mu;exact nm mu
 refine ⟨fun b u q n _ _=>k b u (hb b n) q,fun b u q n _ _=>⟨u.slots,k b u (hb b n) q⟩,fun b u q n _=>by rw [ZAI (hx b n)];exact n,fun b u q _=>?_,
  fun b xs q=>by rw [ZAI (hm b _ q fun z=>z)];exact q,fun b u xs q=>by rw [ZAI (hm b _ q fun z=>z)];exact q,fun b ps q=>⟨#[],by rw [ZAI (hm b _ q fun z=>z),q];simp⟩⟩
 by_cases hbe:b=e
 .subst hbe;exact heo
 .exact ⟨u,k b u hbe q⟩
end
noncomputable def trk (h:Heap) (H:Hp):List Addr:=(List.range h.objs.size).filter fun a=>(H a).isSome
noncomputable def hidT (h:Heap) (H:Hp):Heap:=PySem.W.hideAll h (trk h H)
theorem hidT_size (h:Heap) (H:Hp):(hidT h H).objs.size=h.objs.size:=PySem.W.hideAll_size _ _
theorem hidT_get {h:Heap} {H:Hp} {b:Addr} {o:Obj} (e:h.get? b=some o) (n:H b=none):(hidT h H).get? b=some o :=
 PySem.W.hideAll_get _ e fun hm=>by
  have q:(H b).isSome=true:=(List.mem_filter.mp hm).2
  rw [n] at q;simp at q
theorem of_hidT {h:Heap} {H:Hp} {b:Addr} {o:Obj} (e:(hidT h H).get? b=some o):h.get? b=some o /\ H b=none:=by
 have e':h.get? b=some o:=PySem.W.of_hideAll (trk h H) e
 refine ⟨e',?_⟩
 cases q:H b with
 | none=>rfl
 | some x=>
  have hm:b∈trk h H:=List.mem_filter.mpr ⟨List.mem_range.mpr (Heap.lt_size e'),by simp [q]⟩
  have z:(hidT h H).get? b=none:=PySem.W.hideAll_none (trk h H) hm
  rw [z] at e;cases e
structure Mod (K:W.Frag) (mg:Str->Option Value) (base:Heap):Prop where
 kin:K.In base
 glob:base.Ns mainGlobals mg
 blt:∃ mb,base.Ns builtinsNs mb /\ ∀ x:Str,x≠"__name__"->mb x=bootBuiltins x
 nolimit:base.NoLimit
structure Cx where
 prog:Program
 w:World
 K:W.Frag
 mg:Str->Option Value
 base:Heap
 A:Around
 N:List Str
 s₀:Shared
 H₀:Hp
 env:Env
 outer:List Env
 stack:List Env
 ex:List Addr
 fn:Str->Bool
 calm:Bool
 pn:List (Addr×Obj)
 xe:Value->Shared->Prop
noncomputable def frs (l:List Env):List Addr:=l.filterMap (·.frame)
noncomputable abbrev Cx.fs (X:Cx):List Addr:=frs X.outer
noncomputable def Vis (sc:Scope) (x:Str):Prop:=sc.names.lookup x=some .local∨sc.names.lookup x=some .cell∨sc.names.lookup x=some .free
noncomputable def Loc (sc:Scope) (x:Str):Prop:=sc.names.lookup x=some .local∨sc.names.lookup x=some .cell
noncomputable def Look (env:Env) (h:Heap) (m:Str->Option Value) (x:Str) (u:Value):Prop :=
 (env.kindOf x=some .local /\ m x=some u)∨((env.kindOf x=some .cell∨env.kindOf x=some .free) /\ ∃ c,env.cells.lookup x=some c /\ h.IsCell c (some u))
structure Cx.Ok (X:Cx):Prop where
 mod:Mod X.K X.mg X.base
 kind:X.env.scope.kind=.function
 glob:X.env.globals=mainGlobals
 blt:X.env.builtins=builtinsNs
 above:X.s₀.heap.objs.size <= X.env.locals
 inj:∀ x y c,X.env.cells.lookup x=some c->X.env.cells.lookup y=some c->x=y
 has:∀ x,(X.env.kindOf x=some .cell∨X.env.kindOf x=some .free)->∃ c,X.env.cells.lookup x=some c
 cab:∀ x c,X.fn x=true->X.env.cells.lookup x=some c->X.s₀.heap.objs.size <= c
 hd:X.calm=true->X.A.handled=none
 frames:X.A.frames=some X.stack
 stk:X.stack=X.outer∨(X.stack=X.env::X.outer /\ X.env.frame=some X.env.locals)
 exf:∀ b∈X.ex,b≠X.env.locals /\ ∀ x c,X.env.cells.lookup x=some c->c≠b
 bs:∀ b o,X.base.get? b=some o->X.s₀.heap.get? b=some o /\ X.H₀ b=none
 bsz:X.base.objs.size <= X.s₀.heap.objs.size
 noex:∀ b o,X.base.get? b=some o->b∉X.ex
 exfs:∀ b∈X.ex,b∉X.fs
 funs:X.s₀.heap.FunFrames X.base X.outer
 frf:∀ b∈X.fs,X.H₀ b=none
structure Inv (X:Cx) (pins:List (Addr×Obj)) (σ:List (Option V)) (H:Hp) (s:Shared):Prop where
 ok:X.Ok
 os:s.os=X.s₀.os
 bare:AllBare s.gens
 base:Un X.fs X.ex X.H₀ H X.s₀.heap s.heap
 loc:∃ m,s.heap.Ns X.env.locals m /\ ∀ (i:Nat) (x:Str) (v:V),X.N[i]?=some x->σ[i]?=some (some v)->Vis X.env.scope x->∃ u,RelV v u /\ Look X.env s.heap m x u
 cell:∀ x c,X.env.cells.lookup x=some c->∃ v,s.heap.IsCell c v
 free:H X.env.locals=none
 freeC:∀ x c,X.env.cells.lookup x=some c->H c=none
 pin:∀ p∈X.pn++pins,s.heap.get? p.1=some p.2 /\ H p.1=none /\ p.1≠X.env.locals /\ p.1∉X.fs /\ ∀ v,p.2.data≠.cell v
 hok:HOk X.prog X.w H s.heap
 len:σ.length=X.N.length
section
variable {X:Cx} {pins:List (Addr×Obj)} {σ:List (Option V)} {H H':Hp} {s:Shared} {h':Heap}
theorem Cx.Ok.nofr (ok:X.Ok) {b:Addr} {o:Obj} (e:X.base.get? b=some o):b∉X.fs:=fun hb=>by
 have:=(ok.funs.mem hb).1
 rw [e] at this;cases this
theorem Inv.bs (I:Inv X pins σ H s):∀ b o,X.base.get? b=some o->s.heap.get? b=some o /\ H b=none:=fun b o e=>
 ⟨I.base.keep b o (I.ok.bs b o e).1 (I.ok.bs b o e).2 (I.ok.nofr e) (I.ok.noex b o e),I.base.free b o (I.ok.bs b o e).1 (I.ok.bs b o e).2 (I.ok.noex b o e)⟩
theorem Inv.bk (I:Inv X pins σ H s):∀ b o,X.base.get? b=some o->s.heap.get? b=some o:=fun b o e=>(I.bs b o e).1
theorem Inv.mod (I:Inv X pins σ H s):Mod X.K X.mg X.base:=I.ok.mod
theorem Inv.kIn (I:Inv X pins σ H s):X.K.In s.heap:=I.ok.mod.kin.keeps I.bk
theorem Inv.lt (I:Inv X pins σ H s):X.env.locals < s.heap.objs.size:=let ⟨_,hn,_⟩:=I.loc;hn.lt
theorem Inv.sz (I:Inv X pins σ H s):X.s₀.heap.objs.size <= s.heap.objs.size:=yAK I.ok.above (yBP I.lt)
theorem Inv.nofs (I:Inv X pins σ H s) {a:Addr} (h:s.heap.objs.size <= a):a∉X.fs:=fun hb=>by
 obtain ⟨_,o,ho,_⟩:=I.ok.funs.mem hb
 exact absurd (yAX (Heap.lt_size ho) (yAK I.sz h)) (yBO _)
theorem Inv.cne (I:Inv X pins σ H s):∀ x c,X.env.cells.lookup x=some c->c≠X.env.locals:=fun x c e z=>by
 obtain ⟨v,o,ho,hd⟩:=I.cell x c e
 obtain ⟨m,⟨o',es,ep,ho',hd',_⟩,_⟩:=I.loc
 rw [z,ho'] at ho;cases ho;rw [hd'] at hd;cases hd
theorem Inv.funs (I:Inv X pins σ H s):s.heap.FunFrames X.base X.outer:=by
 have all:∀ (l:List Env),(∀ b∈frs l,b∈X.fs)->X.s₀.heap.FunFrames X.base l->s.heap.FunFrames X.base l:=by
  intro l
  induction l with
  | nil=>intro _ _;trivial
  | cons env r ih=>
   intro hs hl
   obtain ⟨hk,⟨L,o,hf,hn,ho,hd⟩,hr⟩:=hl
   have hL:L∈X.fs:=hs L (by unfold frs;rw [List.filterMap_cons,hf];exact yAF)
   obtain ⟨sl,e⟩:=I.base.slot L o ho (I.ok.frf L hL) hL fun z=>I.ok.exfs L z hL
   exact ⟨hk,⟨L,_,hf,hn,e,hd⟩,ih (fun b hb=>hs b (by unfold frs;rw [List.filterMap_cons,hf];exact yAD _ hb)) hr⟩
 exact all X.outer (fun _ hb=>hb) I.ok.funs
theorem Inv.stack (I:Inv X pins σ H s):s.heap.FunFrames X.base X.stack:=by
 rcases I.ok.stk with e | ⟨e,hf⟩
 .rw [e];exact I.funs
 .rw [e]
  obtain ⟨m,hn,_⟩:=I.loc
  refine .cons (by rw [I.ok.kind];decide) hf hn ?_ I.funs
  exact Heap.get?_none_of_le (yAK I.ok.bsz I.ok.above)
theorem Inv.stkSub (I:Inv X pins σ H s):∀ b∈frs X.stack,b∈X.env.locals::X.fs:=fun b hb=>by
 rcases I.ok.stk with e | ⟨e,hf⟩
 .rw [e] at hb;exact yAD _ hb
 .rw [e] at hb
  unfold frs at hb
  rw [List.filterMap_cons,hf] at hb
  exact hb
theorem Inv.stkFree (I:Inv X pins σ H s):∀ b∈frs X.stack,H b=none:=fun b hb=>by
 rcases yAE.mp (I.stkSub b hb) with e | hb
 .rw [e];exact I.free
 .obtain ⟨_,o,ho,_⟩:=I.ok.funs.mem hb
  exact I.base.free b o ho (I.ok.frf b hb) fun z=>I.ok.exfs b z hb
theorem Inv.step {g':Array GenState} {t':Nat} {d':Drawn} {ch:List Addr} (I:Inv X pins σ H s)
  (hch:∀ b∈ch,(b∈X.ex∨X.s₀.heap.objs.size <= b) /\ b≠X.env.locals /\ (∀ x c,X.env.cells.lookup x=some c->c≠b) /\ ∀ p∈X.pn++pins,p.1≠b)
  (keep:∀ b o,b≠X.env.locals->b∉X.fs->b∉ch->s.heap.get? b=some o->H b=none->h'.get? b=some o)
  (slot:∀ b o,b≠X.env.locals->b∈X.fs->b∉ch->s.heap.get? b=some o->H b=none->∃ sl,h'.get? b=some { o with slots:=sl }) (free:∀ b o,b∉ch->s.heap.get? b=some o->H b=none->H' b=none)
  (there:∀ b o,b∉ch->s.heap.get? b=some o->∃ o',h'.get? b=some o')
  (tups:∀ b xs,H b=some (.tup xs)->H' b=some (.tup xs)) (frzs:∀ b o u,H b=some (.frz o u)->H' b=some (.frz o u)) (tbls:∀ b ps,H b=some (.tbl ps)->∃ more,H' b=some (.tbl (ps++more)))
  (ns:∀ m,s.heap.Ns X.env.locals m->h'.Ns X.env.locals m) (hok:HOk X.prog X.w H' h') (hg:AllBare g') :
  Inv X pins σ H' { s with heap:=h',gens:=g',drawn:=d',toks:=t' }:=by
 have neL:∀ b o,X.s₀.heap.get? b=some o->b≠X.env.locals:=fun b o e=>yAU (yAX (Heap.lt_size e) I.ok.above)
 have neC:∀ b o,X.s₀.heap.get? b=some o->b∉X.ex->b∉ch:=fun b o e hx hb=>by
  rcases (hch b hb).1 with z | z
  .exact hx z
  .exact absurd (yAX (Heap.lt_size e) z) (yBO _)
 have cellK:∀ x c,X.env.cells.lookup x=some c->∀ v,s.heap.IsCell c v->h'.IsCell c v:=fun x c e v ⟨o,ho,hd⟩=>by
  have nch:c∉ch:=fun z=>(hch c z).2.2.1 x c e rfl
  by_cases hc:c∈X.fs
  .obtain ⟨sl,q⟩:=slot c o (I.cne x c e) hc nch ho (I.freeC x c e)
   exact ⟨_,q,hd⟩
  .exact ⟨o,keep c o (I.cne x c e) hc nch ho (I.freeC x c e),hd⟩
 refine ⟨I.ok,I.os,hg,⟨fun b o e n hb hx=>?_,fun b o e n hb hx=>?_,fun b o e n hx=>?_,fun b o e hx=>?_,fun b xs e=>tups b xs (I.base.tups b xs e),fun b o xs e=>frzs b o xs (I.base.frzs b o xs e),fun b ps e=>?_⟩,?_,fun x c e=>?_,?_,fun x c e=>?_,fun p hp=>?_,hok,I.len⟩
 .exact keep b o (neL b o e) hb (neC b o e hx) (I.base.keep b o e n hb hx) (I.base.free b o e n hx)
 .obtain ⟨sl,e1⟩:=I.base.slot b o e n hb hx
  obtain ⟨sl',e2⟩:=slot b _ (neL b o e) hb (neC b o e hx) e1 (I.base.free b o e n hx)
  exact ⟨sl',e2⟩
 .obtain ⟨o',e1⟩:=I.base.there b o e hx
  exact free b o' (neC b o e hx) e1 (I.base.free b o e n hx)
 .obtain ⟨o',e1⟩:=I.base.there b o e hx
  exact there b o' (neC b o e hx) e1
 .obtain ⟨m1,e1⟩:=I.base.tbls b ps e
  obtain ⟨m2,e2⟩:=tbls b _ e1
  exact ⟨m1++m2,by rw [e2,Array.append_assoc]⟩
 .obtain ⟨m,hn,hl⟩:=I.loc
  refine ⟨m,ns m hn,fun i x v e1 e2 e3=>?_⟩
  obtain ⟨u,r,l⟩:=hl i x v e1 e2 e3
  refine ⟨u,r,?_⟩
  rcases l with l | ⟨k,c,e,z⟩
  .exact .inl l
  .exact .inr ⟨k,c,e,cellK x c e _ z⟩
 .obtain ⟨v,z⟩:=I.cell x c e
  exact ⟨v,cellK x c e v z⟩
 .obtain ⟨m,⟨o,_,_,ho,_⟩,_⟩:=I.loc
  exact free _ o (fun z=>(hch _ z).2.1 rfl) ho I.free
 .obtain ⟨v,o,ho,hd⟩:=I.cell x c e
  exact free c o (fun z=>(hch c z).2.2.1 x c e rfl) ho (I.freeC x c e)
 .obtain ⟨e,n,ne,nf,d⟩:=I.pin p hp
  have nch:p.1∉ch:=fun z=>(hch p.1 z).2.2.2 p hp rfl
  exact ⟨keep p.1 p.2 ne nf nch e n,free p.1 p.2 nch e n,ne,nf,d⟩
theorem Inv.un {t':Nat} (I:Inv X pins σ H s) (u:Un X.fs [] H H' s.heap h') (hok:HOk X.prog X.w H' h'):Inv X pins σ H' { s with heap:=h',toks:=t' }:=by
 obtain ⟨m,⟨o,es,ep,ho,r⟩,_⟩:=id I.loc
 obtain ⟨sl,hL⟩:=u.any ho I.free (by simp)
 exact I.step (g':=s.gens) (d':=s.drawn) (ch:=[]) (fun _ z=>nomatch z) (fun b o _ hb _ e n=>u.keep b o e n hb (by simp)) (fun b o _ hb _ e n=>u.slot b o e n hb (by simp)) (fun b o _ e n=>u.free b o e n (by simp)) (fun b o _ e=>u.there b o e (by simp)) u.tups u.frzs u.tbls (fun m' hm=>by
  obtain ⟨o',es',ep',ho',r'⟩:=hm
  rw [ho] at ho';cases ho'
  exact ⟨_,es',ep',hL,r'⟩) hok I.bare
theorem Inv.call {g':Array GenState} {t':Nat} {d':Drawn} {ch:List Addr} (I:Inv X pins σ H s) (u:Un (frs X.stack) ch H H' s.heap h') (hok:HOk X.prog X.w H' h') (hg:AllBare g')
  (hch:∀ b∈ch,(b∈X.ex∨X.s₀.heap.objs.size <= b) /\ b≠X.env.locals /\ (∀ x c,X.env.cells.lookup x=some c->c≠b) /\ ∀ p∈X.pn++pins,p.1≠b) :
  Inv X pins σ H' { s with heap:=h',gens:=g',drawn:=d',toks:=t' }:=by
 obtain ⟨m,⟨o,es,ep,ho,r⟩,_⟩:=id I.loc
 obtain ⟨sl,hL⟩:=u.any ho I.free fun z=>(hch _ z).2.1 rfl
 exact I.step (ch:=ch) hch (fun b o hL hb hc e n=>u.keep b o e n (fun z=>(yAE.mp (I.stkSub b z)).elim hL hb) hc) (fun b o _ _ hc e n=>u.any e n hc) (fun b o hc e n=>u.free b o e n hc) (fun b o hc e=>u.there b o e hc) u.tups u.frzs u.tbls (fun m' hm=>by
  obtain ⟨o',es',ep',ho',r'⟩:=hm
  rw [ho] at ho';cases ho'
  exact ⟨_,es',ep',hL,r'⟩) hok hg
theorem Inv.turned {t':Nat} {it:Addr} (I:Inv X pins σ H s) (k:∀ b o,b≠it->s.heap.get? b=some o->h'.get? b=some o) (hn:H it=none) (hL:it≠X.env.locals)
  (h1:it∈X.ex∨X.s₀.heap.objs.size <= it) (h2:∀ x c,X.env.cells.lookup x=some c->c≠it) (h3:∀ p∈X.pn++pins,p.1≠it):Inv X pins σ H { s with heap:=h',toks:=t' }:=by
 have nit:∀ b u,H b=some u->b≠it:=fun b u e z=>by rw [z,hn] at e;cases e
 refine I.step (g':=s.gens) (d':=s.drawn) (ch:=[it]) (fun b hb=>?_) (fun b o _ _ hc e _=>k b o (fun z=>hc (by simp [z])) e) (fun b o _ _ hc e _=>⟨o.slots,k b o (fun z=>hc (by simp [z])) e⟩) (fun _ _ _ _ n=>n)
  (fun b o hc e=>⟨o,k b o (fun z=>hc (by simp [z])) e⟩) (fun _ _ e=>e) (fun _ _ _ e=>e) (fun b ps e=>⟨#[],by rw [e];simp⟩) (fun m hm=>?_) (fun b u e=>?_) I.bare
 .have e:b=it:=by simpa using hb
  subst e
  exact ⟨h1,hL,h2,h3⟩
 .obtain ⟨o,es,ep,ho,r⟩:=hm
  exact ⟨o,es,ep,k _ o (Ne.symm hL) ho,r⟩
 .refine (I.hok b u e).stay (fun c v hc q=>k c v ?_ q) (fun _ q=>q) fun _ _ q=>q
  rcases hc with z | z
  .rw [z];exact nit b u e
  .exact nit c _ z
theorem Inv.tok (I:Inv X pins σ H s) (t:Nat):Inv X pins σ H { s with toks:=t }:=I.un (h':=s.heap) (t':=t) Un.refl I.hok
theorem Inv.kept {t':Nat} (I:Inv X pins σ H s) (k:∀ b u,s.heap.get? b=some u->h'.get? b=some u):Inv X pins σ H { s with heap:=h',toks:=t' }:=I.un (Un.kept k) (I.hok.kept k)
theorem Inv.laid {a:Addr} {o:HO} {t':Nat} (I:Inv X pins σ H s) (k:∀ b u,s.heap.get? b=some u->h'.get? b=some u) (hp:s.heap.objs.size <= a) (new:ObjOk X.prog X.w (upd H a o) h' a o) :
  Inv X pins σ (upd H a o) { s with heap:=h',toks:=t' }:=I.un (Un.laid k hp (I.hok.fresh hp)) (I.hok.laid k hp new)
theorem Inv.write {x e:Addr} {o:HO} {t':Nat} (I:Inv X pins σ H s) (mu:Mut (H x)) (he:e=x∨H e=some (.own x)) (k:∀ b u,b≠e->s.heap.get? b=some u->h'.get? b=some u) (heo:∃ u,h'.get? e=some u)
  (new:ObjOk X.prog X.w (upd H x o) h' x o):Inv X pins σ (upd H x o) { s with heap:=h',toks:=t' }:=I.un (Un.write mu he k heo) (I.hok.write mu he k heo new)
theorem Inv.pins_of {pins':List (Addr×Obj)} (I:Inv X pins σ H s) (h:∀ p∈pins',s.heap.get? p.1=some p.2 /\ H p.1=none /\ p.1≠X.env.locals /\ p.1∉X.fs /\ ∀ v,p.2.data≠.cell v):Inv X pins' σ H s :=
 ⟨I.ok,I.os,I.bare,I.base,I.loc,I.cell,I.free,I.freeC,fun p hp=>(yBD.mp hp).elim (fun z=>I.pin p (yBM _ z)) (h p),I.hok,I.len⟩
theorem ZDk {N:List Str} (hN:N.Nodup) {i j:Nat} {x:Str} (a:N[i]?=some x) (b:N[j]?=some x):i=j:=by
 obtain ⟨h1,e1⟩:=yAH.mp a
 obtain ⟨h2,e2⟩:=yAH.mp b
 exact (List.getElem_inj hN).mp (e1.trans e2.symm)
theorem store_ok2 {M:Model} {A:Around} {E:Value->Shared->Prop} {i:Nat} {x:Str} {v:V} {u:Value} {Q:Unit->Shared->Prop} (I:Inv X pins σ H s) (hN:X.N.Nodup) (hi:X.N[i]?=some x) (hx:Loc X.env.scope x) (r:RelV v u)
  (h:∀ s',Inv X pins (σ.set i (some v)) H s'->(∃ a,Heap.SameBut a s.heap s'.heap /\ (a=X.env.locals∨X.env.cells.lookup x=some a))->Q () s') (hf:X.fn x=true∨X.env.scope.names.lookup x=some .local:=by first | exact .inl rfl | exact .inr rfl | assumption):wpAny M A (storeName X.env x u) Q E s:=by
 obtain ⟨m,hn,hl⟩:=id I.loc
 have hcls:(X.env.scope.kind == .class || (X.env.scope.kind == .module && X.env.locals != X.env.globals))=false:=by rw [I.ok.kind];rfl
 have hiσ:i < σ.length:=by rw [I.len];exact (yAH.mp hi).1
 have cne:=I.cne
 have tracked:∀ {a:Addr} {h':Heap},(∃ o,s.heap.get? a=some o /\ H a=none)->Heap.SameBut a s.heap h'->HOk X.prog X.w H h':=fun {a h'} ha hs b ob e=>by
  obtain ⟨_,_,hfree⟩:=ha
  refine (I.hok b ob e).stay (fun c w' hc q=>(hs.2 c ?_).trans q) (fun _ q=>q) fun _ _ q=>q
  rintro rfl
  rcases hc with rfl | hc
  .rw [hfree] at e;cases e
  .rw [hfree] at hc;cases hc
 rcases hx with hk | hk
 .refine wpAny_storeName_local hk hn (fun h' hn' hs=>?_) hcls
  obtain ⟨oL,_,_,hoL,_⟩:=id hn
  refine h _ ⟨I.ok,I.os,I.bare,⟨fun b o e n hb hx=>?_,fun b o e n hb hx=>?_,I.base.free,fun b o e hx=>?_,I.base.tups,I.base.frzs,I.base.tbls⟩,⟨_,hn',fun j y v' e1 e2 e3=>?_⟩,fun y c e=>?_,I.free,I.freeC,fun p hp=>?_,tracked ⟨oL,hoL,I.free⟩ hs,by simpa using I.len⟩ ⟨_,hs,.inl rfl⟩
  .exact (hs.2 b (yAU (yAX (Heap.lt_size e) I.ok.above))).trans (I.base.keep b o e n hb hx)
  .obtain ⟨sl,e1⟩:=I.base.slot b o e n hb hx
   exact ⟨sl,(hs.2 b (yAU (yAX (Heap.lt_size e) I.ok.above))).trans e1⟩
  .obtain ⟨o',e1⟩:=I.base.there b o e hx
   exact ⟨o',(hs.2 b (yAU (yAX (Heap.lt_size e) I.ok.above))).trans e1⟩
  .by_cases hj:j=i
   .subst hj
    rw [hi] at e1;cases e1
    rw [List.getElem?_set_self hiσ] at e2
    cases e2
    exact ⟨u,r,.inl ⟨hk,by simp⟩⟩
   .rw [List.getElem?_set_ne (Ne.symm hj)] at e2
    obtain ⟨u',r',q⟩:=hl j y v' e1 e2 e3
    refine ⟨u',r',?_⟩
    rcases q with ⟨k,e⟩ | ⟨k,c,e,z⟩
    .refine .inl ⟨k,?_⟩
     have:y≠x:=fun e=>hj (ZDk hN e1 (e ▸ hi))
     simp [this,e]
    .exact .inr ⟨k,c,e,z.sameBut hs (cne y c e)⟩
  .obtain ⟨w',z⟩:=I.cell y c e
   exact ⟨w',z.sameBut hs (cne y c e)⟩
  .obtain ⟨e,n,ne,nf,d⟩:=I.pin p hp
   exact ⟨(hs.2 p.1 ne).trans e,n,ne,nf,d⟩
 .have hfn:X.fn x=true:=by
   rcases hf with z | z
   .exact z
   .rw [z] at hk;cases hk
  obtain ⟨c,hc⟩:=I.ok.has x (.inl hk)
  obtain ⟨w',z⟩:=I.cell x c hc
  refine wpAny_storeName_cell I.ok.kind hk hc z (fun h' hc' hs=>?_)
  obtain ⟨oc,hoc,hocd⟩:=id z
  refine h { s with heap:=h' } ⟨I.ok,I.os,I.bare,⟨fun b o e n hb hx=>?_,fun b o e n hb hx=>?_,I.base.free,fun b o e hx=>?_,I.base.tups,I.base.frzs,I.base.tbls⟩,⟨m,hn.sameBut hs (Ne.symm (cne x c hc)),fun j y v' e1 e2 e3=>?_⟩,fun y c' e=>?_,I.free,I.freeC,fun p hp=>?_,tracked ⟨oc,hoc,I.freeC x c hc⟩ hs,by simpa using I.len⟩ ⟨c,hs,.inr hc⟩
  .exact (hs.2 b (yAU (yAX (Heap.lt_size e) (I.ok.cab x c hfn hc)))).trans (I.base.keep b o e n hb hx)
  .obtain ⟨sl,e1⟩:=I.base.slot b o e n hb hx
   exact ⟨sl,(hs.2 b (yAU (yAX (Heap.lt_size e) (I.ok.cab x c hfn hc)))).trans e1⟩
  .obtain ⟨o',e1⟩:=I.base.there b o e hx
   exact ⟨o',(hs.2 b (yAU (yAX (Heap.lt_size e) (I.ok.cab x c hfn hc)))).trans e1⟩
  .by_cases hj:j=i
   .subst hj
    rw [hi] at e1;cases e1
    rw [List.getElem?_set_self hiσ] at e2
    cases e2
    exact ⟨u,r,.inr ⟨.inl hk,c,hc,hc'⟩⟩
   .rw [List.getElem?_set_ne (Ne.symm hj)] at e2
    obtain ⟨u',r',q⟩:=hl j y v' e1 e2 e3
    refine ⟨u',r',?_⟩
    rcases q with q | ⟨k,c',e,z'⟩
    .exact .inl q
    .refine .inr ⟨k,c',e,z'.sameBut hs ?_⟩
     rintro rfl
     exact hj (ZDk hN e1 (I.ok.inj _ _ _ e hc ▸ hi))
  .by_cases hcc:c'=c
   .subst hcc;exact ⟨_,hc'⟩
   .obtain ⟨w2,z2⟩:=I.cell y c' e
    exact ⟨w2,z2.sameBut hs hcc⟩
  .obtain ⟨e,n,ne,nf,d⟩:=I.pin p hp
   refine ⟨(hs.2 p.1 ?_).trans e,n,ne,nf,d⟩
   intro q
   rw [q,hoc] at e
   have q':oc=p.2:=Option.some.inj e
   exact d w' (by rw [<- q'];exact hocd)
theorem ZDT {M:Model} {A:Around} {E:Value->Shared->Prop} {i:Nat} {x:Str} {v:V} {u:Value} {Q:Unit->Shared->Prop} (I:Inv X pins σ H s) (hN:X.N.Nodup) (hi:X.N[i]?=some x) (hx:Loc X.env.scope x) (r:RelV v u)
  (h:∀ s',Inv X pins (σ.set i (some v)) H s'->Q () s') (hf:X.fn x=true∨X.env.scope.names.lookup x=some .local:=by first | exact .inl rfl | exact .inr rfl | assumption):wpAny M A (storeName X.env x u) Q E s :=
 store_ok2 I hN hi hx r (fun s' I' _=>h s' I') hf
theorem Inv.call' {s':Shared} {ch:List Addr} (I:Inv X pins σ H s) (ho:s'.os=s.os) (u:Un (frs X.stack) ch H H' s.heap s'.heap) (hok:HOk X.prog X.w H' s'.heap) (hg:AllBare s'.gens)
  (hch:∀ b∈ch,(b∈X.ex∨X.s₀.heap.objs.size <= b) /\ b≠X.env.locals /\ (∀ x c,X.env.cells.lookup x=some c->c≠b) /\ ∀ p∈X.pn++pins,p.1≠b):Inv X pins σ H' s':=by
 obtain ⟨h',g',d',t',o'⟩:=s'
 have e:o'=s.os:=ho
 subst e
 exact I.call (g':=g') (t':=t') (d':=d') u hok hg hch
end
noncomputable abbrev XK:=Value->Option Addr->Hp->Prop
noncomputable abbrev St:=List (Option V)
noncomputable abbrev VK:=V->Hp->Prop
noncomputable abbrev TE:=St->Hp->VK->Prop
noncomputable abbrev TT:=St->Hp->(Bool->Hp->Prop)->Prop
noncomputable abbrev TA:=St->Hp->(List V->Hp->Prop)->Prop
structure Ends where
 nx:St->Hp->Prop
 rt:VK
 bk:St->Hp->Prop:=fun _ _=>False
 ct:St->Hp->Prop:=fun _ _=>False
noncomputable abbrev TS:=Ends->St->Hp->Prop
noncomputable def EP (X:Cx) (pins:List (Addr×Obj)) (σ:St) (Q:VK) (u:Value) (s':Shared):Prop:=∃ v H',Inv X pins σ H' s' /\ RelV v u /\ Q v H'
noncomputable def TP (X:Cx) (pins:List (Addr×Obj)) (σ:St) (Q:Bool->Hp->Prop) (b:Bool) (s':Shared):Prop:=∃ H',Inv X pins σ H' s' /\ Q b H'
noncomputable def AP (X:Cx) (pins:List (Addr×Obj)) (σ:St) (Q:List V->Hp->Prop) (us:List Value) (s':Shared):Prop:=∃ vs H',Inv X pins σ H' s' /\ Vals vs us /\ Q vs H'
noncomputable def SP (X:Cx) (pins:List (Addr×Obj)) (D:Ends) (f:Flow) (s':Shared):Prop :=
 match f with
 | .next=>∃ σ' H',Inv X pins σ' H' s' /\ D.nx σ' H'
 | .brk=>∃ σ' H',Inv X pins σ' H' s' /\ D.bk σ' H'
 | .cont=>∃ σ' H',Inv X pins σ' H' s' /\ D.ct σ' H'
 | .ret u=>∃ v σ' H',Inv X pins σ' H' s' /\ RelV v u /\ D.rt v H'
noncomputable def PE (X:Cx) (e:Expr) (t:TE):Prop :=
 ∀ (pins:List (Addr×Obj)) (s:Shared) (σ:St) (H:Hp) (Q:VK),Inv X pins σ H s->t σ H Q->wpAny (model X.prog X.w) X.A (eval e X.env) (EP X pins σ Q) X.xe s
noncomputable def PT (X:Cx) (e:Expr) (t:TT):Prop :=
 ∀ (pins:List (Addr×Obj)) (s:Shared) (σ:St) (H:Hp) (Q:Bool->Hp->Prop),Inv X pins σ H s->t σ H Q->wpAny (model X.prog X.w) X.A (isTrue e X.env (eval e X.env)) (TP X pins σ Q) X.xe s
noncomputable def PW (X:Cx) (e:Expr) (t:TT):Prop :=
 ∀ (whole:Sem Value) (pins:List (Addr×Obj)) (s:Shared) (σ:St) (H:Hp) (Q:Bool->Hp->Prop),Inv X pins σ H s->t σ H Q->wpAny (model X.prog X.w) X.A (isTrue e X.env whole) (TP X pins σ Q) X.xe s
theorem PW.pt {X:Cx} {e:Expr} {t:TT} (h:PW X e t):PT X e t:=h _
noncomputable def PA (X:Cx) (es:List Expr) (t:TA):Prop :=
 ∀ (pos:Pos) (pins:List (Addr×Obj)) (s:Shared) (σ:St) (H:Hp) (Q:List V->Hp->Prop),Inv X pins σ H s->t σ H Q->wpAny (model X.prog X.w) X.A (spliced (backTo pos (starEach es X.env))) (AP X pins σ Q) X.xe s
noncomputable def PS (X:Cx) (st:Stmt) (t:TS):Prop :=
 ∀ (pins:List (Addr×Obj)) (s:Shared) (σ:St) (H:Hp) (D:Ends),Inv X pins σ H s->t D σ H->wpAny (model X.prog X.w) X.A (exec st X.env) (SP X pins D) X.xe s
noncomputable def PSs (X:Cx) (st:List Stmt) (t:TS):Prop :=
 ∀ (pins:List (Addr×Obj)) (s:Shared) (σ:St) (H:Hp) (D:Ends),Inv X pins σ H s->t D σ H->wpAny (model X.prog X.w) X.A (execs st X.env) (SP X pins D) X.xe s
theorem thn {α:Type} {t:Sem α} {Q Q':α->Shared->Prop} {M:Model} {A:Around} {E:Value->Shared->Prop} {s:Shared} (h:wpAny M A t Q E s) (hQ:∀ a s,Q a s->Q' a s):wpAny M A t Q' E s:=wpAny_mono h hQ fun _ _ x=>x
section
variable {X:Cx}
noncomputable def tVar (i:Nat):TE:=fun σ H Q=>∃ v,σ[i]?=some (some v) /\ Q v H
noncomputable def tC (v:V):TE:=fun _ H Q=>Q v H
theorem pe_var {i:Nat} {x:Str} {pos:Pos} (hN:X.N[i]?=some x) (hv:Vis X.env.scope x) (hd:(x == ("__debug__":Str))=false:=by decide) (hcd:(x == ("__classdict__":Str))=false:=by decide):PE X (.Name x pos) (tVar i):=by
 intro pins s σ H Q I h
 obtain ⟨v,e,h⟩:=h
 obtain ⟨m,hn,hl⟩:=I.loc
 obtain ⟨u,r,l⟩:=hl i x v hN e hv
 have fin:EP X pins σ Q u s:=⟨v,H,I,r,h⟩
 rcases l with ⟨hk,hm⟩ | ⟨hk,c,hc,hcell⟩
 .exact wpAny_Name (wpAny_loadName_local I.ok.kind hk hn hm fin) hd
 .rcases hk with hk | hk
  .exact wpAny_Name (wpAny_loadName_cell I.ok.kind hk hc hcell fin) hd
  .exact wpAny_Name (wpAny_loadName_free I.ok.kind hk hc hcell fin hcd) hd
theorem ZAF {i j pos}:PE X (.Constant (.int i) j pos) (tC (.int i)):=fun _ _ _ H _ I h=>wpAny_Constant_int ⟨.int i,H,I.tok _,⟨_,rfl⟩,h⟩
theorem ZDG {b j pos}:PE X (.Constant (.bool b) j pos) (tC (.bl b)):=fun _ _ _ H _ I h=>Constant_bool ⟨.bl b,H,I,rfl,h⟩
theorem ZBz {j pos}:PE X (.Constant .none j pos) (tC .non):=fun _ _ _ H _ I h=>Constant_none ⟨.non,H,I,rfl,h⟩
theorem ZDN {x j pos}:PE X (.Constant (.str x) j pos) (tC (.str x)):=fun _ _ _ H _ I h=>Calls.Constant_str ⟨.str x,H,I.tok _,⟨_,rfl⟩,h⟩
noncomputable def Gl (X:Cx) (x:Str):Prop:=X.env.kindOf x=some .globalImplicit
theorem ZB3 {E:Value->Shared->Prop} {pins:List (Addr×Obj)} {s:Shared} {σ:St} {H:Hp} {x:Str} {u:Value} {pos:Pos} {Q:Value->Shared->Prop} (I:Inv X pins σ H s) (hg:Gl X x) (hm:X.mg x=some u) (h:Q u s)
  (hd:(x == ("__debug__":Str))=false:=by decide):wpAny (model X.prog X.w) X.A (eval (.Name x pos) X.env) Q E s :=
 Calls.Name_function_global I.ok.kind hg (Calls.loadGlobal_global (by rw [I.ok.glob];exact I.mod.glob.keeps I.bk) hm h) hd
theorem ZD2 {E:Value->Shared->Prop} {pins:List (Addr×Obj)} {s:Shared} {σ:St} {H:Hp} {x:Str} {u:Value} {pos:Pos} {Q:Value->Shared->Prop} (I:Inv X pins σ H s) (hg:Gl X x) (hm:X.mg x=none) (hv:bootBuiltins x=some u) (h:Q u s)
  (hn:x≠"__name__":=by decide) (hd:(x == ("__debug__":Str))=false:=by decide):wpAny (model X.prog X.w) X.A (eval (.Name x pos) X.env) Q E s:=by
 obtain ⟨mb,h1,h2⟩:=I.mod.blt
 exact Calls.Name_function_global I.ok.kind hg (Calls.loadGlobal_builtin (by rw [I.ok.glob];exact I.mod.glob.keeps I.bk) hm (by rw [I.ok.blt];exact h1.keeps I.bk) ((h2 x hn).trans hv) h) hd
theorem pe_glob {x:Str} {v:V} {u:Value} {pos:Pos} (hg:Gl X x) (hm:X.mg x=some u) (r:RelV v u) (hd:(x == ("__debug__":Str))=false:=by decide):PE X (.Name x pos) (tC v) :=
 fun _ _ _ H _ I h=>ZB3 I hg hm ⟨v,H,I,r,h⟩ hd
variable {a b:Expr} {ta tb:TE} {pos:Pos}
noncomputable def tB (t:TE):TT:=fun σ H Q=>t σ H fun x H1=>∃ c,x=.bl c /\ Q c H1
theorem ZCd {e:Expr} {t:TE} (h:PE X e t) (he:∀ whole,isTrue e X.env whole=(do let v <- whole;standAt e.pos;holding [v] (truthy v)):=by intro _;rfl):PT X e (tB t):=by
 intro pins s σ H Q I hw
 refine isTrue_plain (thn (h pins s σ H _ I hw) fun v s1 zz=>?_) (he _)
 obtain ⟨x,H1,I1,r1,q1⟩:=zz
 obtain ⟨d,rfl,q⟩:=q1
 cases r1
 exact wpAny_truthy_bool ⟨H1,I1,q⟩
variable {tA tB':TT} {rest:List Expr}
noncomputable def tAnd (t u:TT):TT:=fun σ H Q=>t σ H fun c H1=>if c=true then u σ H1 Q else Q false H1
noncomputable def tOr (t u:TT):TT:=fun σ H Q=>t σ H fun c H1=>if c=true then Q true H1 else u σ H1 Q
noncomputable def tNot (t:TT):TT:=fun σ H Q=>t σ H fun c H1=>Q (!c) H1
theorem ZCU (ha:PT X a tA):PW X (.BoolOp .And [a] pos) tA:=by
 intro wh pins s σ H Q I h
 refine isTrue_and (thn (ha pins s σ H Q I h) fun c s1 e=>?_)
 cases c with
 | true=>exact isTrue_and_nil e
 | false=>exact e
theorem pw_or1 (ha:PT X a tA):PW X (.BoolOp .Or [a] pos) tA:=by
 intro wh pins s σ H Q I h
 refine isTrue_or (thn (ha pins s σ H Q I h) fun c s1 e=>?_)
 cases c with
 | false=>exact isTrue_or_nil e
 | true=>exact e
theorem ZC7 (ha:PT X a tA) (hb:PW X (.BoolOp .And (b::rest) pos) tB'):PW X (.BoolOp .And (a::b::rest) pos) (tAnd tA tB'):=by
 intro wh pins s σ H Q I h
 refine isTrue_and (thn (ha pins s σ H _ I h) fun c s1 ⟨H1,I1,q1⟩=>?_)
 cases c with
 | true=>exact hb wh pins s1 σ H1 Q I1 q1
 | false=>exact ⟨H1,I1,q1⟩
theorem pw_or (ha:PT X a tA) (hb:PW X (.BoolOp .Or (b::rest) pos) tB'):PW X (.BoolOp .Or (a::b::rest) pos) (tOr tA tB'):=by
 intro wh pins s σ H Q I h
 refine isTrue_or (thn (ha pins s σ H _ I h) fun c s1 ⟨H1,I1,q1⟩=>?_)
 cases c with
 | true=>exact ⟨H1,I1,q1⟩
 | false=>exact hb wh pins s1 σ H1 Q I1 q1
noncomputable def ZFF (ta tb:TE):TE:=fun σ H Q=>ta σ H fun x H1=>∃ c,x=.bl c /\ if c=true then tb σ H1 Q else Q (.bl false) H1
noncomputable def tOrV (ta tb:TE):TE:=fun σ H Q=>ta σ H fun x H1=>∃ c,x=.bl c /\ if c=true then Q (.bl true) H1 else tb σ H1 Q
noncomputable def ZFD (ta:TE):TE:=fun σ H Q=>ta σ H fun x H1=>∃ c,x=.bl c /\ Q (.bl (!c)) H1
theorem pe_one {op} {t:TE} (h:PE X a t):PE X (.BoolOp op [a] pos) t:=fun pins s σ H Q I hw=>BoolOp_one (h pins s σ H Q I hw)
theorem ZEq (ha:PE X a ta) (hb:PE X (.BoolOp .And (b::rest) pos) tb):PE X (.BoolOp .And (a::b::rest) pos) (ZFF ta tb):=by
 intro pins s σ H Q I h
 refine BoolOp_and (thn (ha pins s σ H _ I h) fun v s1 zz=>?_)
 obtain ⟨x,H1,I1,r1,q1⟩:=zz
 obtain ⟨c,rfl,q1⟩:=q1
 cases r1
 refine wpAny_truthy_bool ?_
 cases c with
 | true=>exact hb pins s1 σ H1 Q I1 q1
 | false=>exact ⟨.bl false,H1,I1,rfl,q1⟩
theorem pe_not (ha:PE X a ta):PE X (.UnaryOp .Not a pos) (ZFD ta):=by
 intro pins s σ H Q I h
 refine UnaryOp_ (thn (ha pins s σ H _ I h) fun v s1 zz=>?_)
 obtain ⟨x,H1,I1,r1,q1⟩:=zz
 obtain ⟨c,rfl,q1⟩:=q1
 cases r1
 exact not_of (wpAny_truthy_bool ⟨.bl (!c),H1,I1,rfl,q1⟩)
noncomputable def tIf (t:TT) (ta tb:TE):TE:=fun σ H Q=>t σ H fun c H1=>if c=true then ta σ H1 Q else tb σ H1 Q
theorem ZBZ {c:Expr} (hc:PT X c tA) (ha:PE X a ta) (hb:PE X b tb):PE X (.IfExp c a b pos) (tIf tA ta tb):=by
 intro pins s σ H Q I h
 refine wpAny_IfExp (thn (hc pins s σ H _ I h) fun d s1 ⟨H1,I1,q1⟩=>?_)
 cases d with
 | true=>exact ha pins s1 σ H1 Q I1 q1
 | false=>exact hb pins s1 σ H1 Q I1 q1
end
noncomputable def SqL (K:W.Frag) (H:Hp) (a:Addr) (xs:List V):Prop :=
 Rd H a (.lst xs) ∨
  ∃ (o:Obj) (its:Array Value) (n:Nat),K.lookup a=some o /\ o.cls=.type "list" /\ o.dict=none /\ o.data=.seq its n /\ its.size <= sizeLine /\ Vals xs its.toList
noncomputable def SqT (K:W.Frag) (H:Hp) (a:Addr) (xs:List V):Prop :=
 Rd H a (.tup xs) ∨
  ∃ (o:Obj) (its:Array Value) (n:Nat),K.lookup a=some o /\ o.cls=.type "tuple" /\ o.data=.seq its n /\ its.size <= sizeLine /\ Vals xs its.toList
noncomputable def absV:Value->Option V
 | .none=>some .non
 | .bool b=>some (.bl b)
 | .int i _=>some (.int i)
 | .str x _=>some (.str x)
 | .bytes b _=>some (.byt b)
 | .float b _=>some (.flt b)
 | .ref a=>some (.ref a)
 | .type n=>some (.ty n)
 | _=>none
theorem RelV.abs {x:V} {u:Value} (r:RelV x u):absV u=some x:=by
 cases x with
 | non=>cases r;rfl
 | bl _=>cases r;rfl
 | int _=>obtain ⟨t,rfl⟩:=r;rfl
 | str _=>obtain ⟨t,rfl⟩:=r;rfl
 | byt _=>obtain ⟨t,rfl⟩:=r;rfl
 | flt _=>obtain ⟨t,rfl⟩:=r;rfl
 | ref _=>cases r;rfl
 | ty _=>cases r;rfl
theorem RelV.inj {x y:V} {u:Value} (r:RelV x u) (q:RelV y u):x=y:=Option.some.inj (r.abs.symm.trans q.abs)
theorem Vals.inj:∀ {xs ys:List V} {us:List Value},Vals xs us->Vals ys us->xs=ys
 | _,_,_,.nil,.nil=>rfl
 | _,_,_,.cons r t,.cons r' t'=>by rw [r.inj r',Vals.inj t t']
section
variable {X:Cx} {pins:List (Addr×Obj)} {σ:St} {H:Hp} {s:Shared} {a:Addr} {xs ys:List V}
theorem SqL.of {K:W.Frag} (h:H a=some (.lst xs)):SqL K H a xs:=.inl (.inl h)
theorem SqT.of {K:W.Frag} (h:H a=some (.tup xs)):SqT K H a xs:=.inl (.inl h)
theorem Inv.list (I:Inv X pins σ H s) (h:SqL X.K H a xs):∃ its:List Value,Vals xs its /\ PlainL s.heap a its.toArray /\ xs.length <= sizeLine:=by
 rcases h with h | ⟨o,its,n,hk,hc,hd,hs,hz,r⟩
 .obtain ⟨z,its,n,r,e⟩:=h.ok I.hok
  exact ⟨its,r,⟨_,n,e,rfl,rfl,rfl⟩,z⟩
 .refine ⟨its.toList,r,⟨o,n,I.kIn a o hk,hc,hd,by simpa using hs⟩,?_⟩
  have e:=r.length
  simp only [yAP] at e
  omega
theorem Inv.tuple (I:Inv X pins σ H s) (h:SqT X.K H a xs):∃ its:List Value,Vals xs its /\ IsTup s.heap a its.toArray /\ xs.length <= sizeLine:=by
 rcases h with h | ⟨o,its,n,hk,hc,hs,hz,r⟩
 .obtain ⟨z,its,r,p⟩:=h.ok I.hok
  exact ⟨its,r,p,z⟩
 .refine ⟨its.toList,r,⟨o,I.kIn a o hk,hc,n,by simpa using hs⟩,?_⟩
  have e:=r.length
  simp only [yAP] at e
  omega
theorem Inv.list_inj (I:Inv X pins σ H s) (h:SqL X.K H a xs) (h':SqL X.K H a ys):xs=ys:=by
 obtain ⟨its,r,⟨o,n,e,_,_,d⟩,_⟩:=I.list h
 obtain ⟨its',r',⟨o',n',e',_,_,d'⟩,_⟩:=I.list h'
 rw [e] at e';cases e'
 rw [d] at d'
 injection d' with d1 _
 have:its=its':=by simpa using congrArg Array.toList d1
 subst this
 exact r.inj r'
end
noncomputable abbrev Cx.wish (X:Cx) (E:Value->Shared->Prop):Cx:={ X with xe:=E }
noncomputable abbrev Cx.nox (X:Cx):Cx:=X.wish fun _ _=>False
theorem Cx.Ok.wish {X:Cx} (ok:X.Ok) (E:Value->Shared->Prop):(X.wish E).Ok :=
 ⟨ok.mod,ok.kind,ok.glob,ok.blt,ok.above,ok.inj,ok.has,ok.cab,ok.hd,ok.frames,ok.stk,ok.exf,ok.bs,ok.bsz,ok.noex,ok.exfs,ok.funs,ok.frf⟩
theorem Cx.Ok.unwish {X:Cx} {E:Value->Shared->Prop} (ok:(X.wish E).Ok):X.Ok :=
 ⟨ok.mod,ok.kind,ok.glob,ok.blt,ok.above,ok.inj,ok.has,ok.cab,ok.hd,ok.frames,ok.stk,ok.exf,ok.bs,ok.bsz,ok.noex,ok.exfs,ok.funs,ok.frf⟩
section
variable {X:Cx} {pins:List (Addr×Obj)} {σ:St} {H:Hp} {s:Shared} {E:Value->Shared->Prop}
theorem Inv.wish (I:Inv X pins σ H s) (E:Value->Shared->Prop):Inv (X.wish E) pins σ H s:=⟨I.ok.wish E,I.os,I.bare,I.base,I.loc,I.cell,I.free,I.freeC,I.pin,I.hok,I.len⟩
theorem Inv.unwish (I:Inv (X.wish E) pins σ H s):Inv X pins σ H s:=⟨I.ok.unwish,I.os,I.bare,I.base,I.loc,I.cell,I.free,I.freeC,I.pin,I.hok,I.len⟩
theorem SP.unwish {D:Ends} {f:Flow} {s':Shared} (h:SP (X.wish E) pins D f s'):SP X pins D f s':=by
 cases f with
 | next=>obtain ⟨σ',H',I,q⟩:=h;exact ⟨σ',H',I.unwish,q⟩
 | brk=>obtain ⟨σ',H',I,q⟩:=h;exact ⟨σ',H',I.unwish,q⟩
 | cont=>obtain ⟨σ',H',I,q⟩:=h;exact ⟨σ',H',I.unwish,q⟩
 | ret u=>obtain ⟨v,σ',H',I,r,q⟩:=h;exact ⟨v,σ',H',I.unwish,r,q⟩
theorem PSs.nox {st:List Stmt} {t:TS} (h:PSs X.nox st t):PSs X st t:=fun pins s σ H D I hw=>
 wpAny_mono (h pins s σ H D (I.wish _) hw) (fun _ _ q=>q.unwish) fun _ _ z=>False.elim z
end
section
variable {X:Cx} {st:Stmt} {rest:List Stmt} {t u:TS} {e:Expr} {te:TE} {pos:Pos}
noncomputable def ZE0:TS:=fun D σ H=>D.nx σ H
noncomputable def tSeq (t u:TS):TS:=fun D σ H=>t { D with nx:=u D } σ H
theorem ZAe:PSs X [] ZE0:=fun _ _ σ H _ I h=>wpAny_execs_nil ⟨σ,H,I,h⟩
theorem ZAB (h1:PS X st t) (h2:PSs X rest u):PSs X (st::rest) (tSeq t u):=by
 intro pins s σ H D I h
 refine wpAny_execs_cons (thn (h1 pins s σ H { D with nx:=u D } I h) fun f s1 q=>?_)
 cases f with
 | next=>
  obtain ⟨σ',H',I',q⟩:=q
  exact h2 pins s1 σ' H' D I' q
 | ret v=>exact q
 | brk=>exact q
 | cont=>exact q
theorem ZAH (h1:PS X st t):PSs X [st] t:=by
 intro pins s σ H D I h
 refine wpAny_execs_cons (thn (h1 pins s σ H D I h) fun f s1 q=>?_)
 cases f with
 | next=>exact wpAny_execs_nil q
 | ret v=>exact q
 | brk=>exact q
 | cont=>exact q
noncomputable def tBreak:TS:=fun D σ H=>D.bk σ H
theorem ps_pass:PS X (.Pass pos) ZE0:=fun _ _ σ H _ I h=>wpAny_Pass ⟨σ,H,I,h⟩
theorem Inv.quiet {pins:List (Addr×Obj)} {σ:St} {H:Hp} {s:Shared} (I:Inv X pins σ H s):interactive X.env=false:=by simp [interactive,I.ok.kind]
noncomputable def ZFE (te:TE):TS:=fun D σ H=>te σ H fun _ H1=>D.nx σ H1
theorem ZAi (he:PE X e te) (hs:swapsWith e none pos.line X.env=pure false:=by rfl):PS X (.Expr e pos) (ZFE te):=by
 intro pins s σ H D I h
 exact wpAny_Expr_any (thn (he pins s σ H _ I h) fun v s1 ⟨x,H1,I1,r1,q1⟩=>⟨σ,H1,I1,q1⟩) I.quiet hs
noncomputable def tRet (te:TE):TS:=fun D σ H=>te σ H D.rt
theorem ZAX (he:PE X e te):PS X (.Return (some e) pos) (tRet te):=by
 intro pins s σ H D I h
 exact wpAny_Return_some (thn (he pins s σ H _ I h) fun v s1 ⟨x,H1,I1,r1,q1⟩=>⟨x,σ,H1,I1,r1,q1⟩)
noncomputable def tRetN:TS:=fun D _ H=>D.rt .non H
noncomputable def tIfS (c:TT) (t u:TS):TS:=fun D σ H=>c σ H fun b H1=>if b=true then t D σ H1 else u D σ H1
theorem ZBS {c:Expr} {a b:List Stmt} {tc:TT} (hc:PT X c tc) (ha:PSs X a t) (hb:PSs X b u):PS X (.If c a b pos) (tIfS tc t u):=by
 intro pins s σ H D I h
 refine wpAny_If (thn (hc pins s σ H _ I h) fun d s1 ⟨H1,I1,q1⟩=>?_)
 cases d with
 | true=>exact ha pins s1 σ H1 D I1 q1
 | false=>exact hb pins s1 σ H1 D I1 q1
noncomputable def tNever:TS:=fun _ _ _=>False
end
noncomputable abbrev TG:=V->St->Hp->(St->Hp->Prop)->Prop
noncomputable abbrev TGs:=List V->St->Hp->(St->Hp->Prop)->Prop
noncomputable def PG (X:Cx) (target:Expr) (t:TG):Prop :=
 ∀ (pins:List (Addr×Obj)) (s:Shared) (σ:St) (H:Hp) (v:V) (u:Value) (Q:St->Hp->Prop),Inv X pins σ H s->RelV v u->t v σ H Q ->
  wpAny (model X.prog X.w) X.A (assign target X.env u) (fun _ s'=>∃ σ' H',Inv X pins σ' H' s' /\ Q σ' H') X.xe s
noncomputable def PGs (X:Cx) (ts:List Expr) (t:TGs):Prop :=
 ∀ (pins:List (Addr×Obj)) (s:Shared) (σ:St) (H:Hp) (vs:List V) (us:List Value) (Q:St->Hp->Prop),Inv X pins σ H s->Vals vs us->t vs σ H Q ->
  wpAny (model X.prog X.w) X.A (assignInOrder ((assignEach ts X.env).map (·.2)) us) (fun _ s'=>∃ σ' H',Inv X pins σ' H' s' /\ Q σ' H') X.xe s
noncomputable abbrev TSet:=V->V->V->Hp->(Hp->Prop)->Prop
noncomputable def PSet (X:Cx) (t:TSet):Prop :=
 ∀ (pins:List (Addr×Obj)) (s:Shared) (σ:St) (H:Hp) (o i v:V) (ov iv u:Value) (Q:Hp->Prop),Inv X pins σ H s->RelV o ov->RelV i iv->RelV v u->t o i v H Q ->
  wpAny (model X.prog X.w) X.A (setItem ov iv u) (fun _ s'=>∃ H',Inv X pins σ H' s' /\ Q H') X.xe s
noncomputable abbrev TIp:=V->V->Hp->VK->Prop
noncomputable def PIp (X:Cx) (op:Operator) (t:TIp):Prop :=
 ∀ (pins:List (Addr×Obj)) (s:Shared) (σ:St) (H:Hp) (x y:V) (v u:Value) (Q:VK),Inv X pins σ H s->RelV x v->RelV y u->t x y H Q ->
  wpAny (model X.prog X.w) X.A (inplaceOp op v u) (EP X pins σ Q) X.xe s
section
variable {X:Cx} {pos:Pos}
noncomputable def ZE9 (i:Nat):TG:=fun v σ H Q=>Q (σ.set i (some v)) H
theorem ZBp {i:Nat} {x:Str} (hN:X.N.Nodup) (hi:X.N[i]?=some x) (hx:Loc X.env.scope x) (hf:X.fn x=true∨X.env.scope.names.lookup x=some .local:=by first | exact .inl rfl | exact .inr rfl | assumption):PG X (.Name x pos) (ZE9 i):=by
 intro pins s σ H v u Q I r h
 exact wpAny_assign_Name (ZDT I hN hi hx r (fun s' I'=>⟨_,H,I',h⟩) hf)
noncomputable def gNil:TGs:=fun vs σ H Q=>vs=[] /\ Q σ H
noncomputable def ZFS (t:TG) (u:TGs):TGs:=fun vs σ H Q=>∃ v r,vs=v::r /\ t v σ H fun σ' H'=>u r σ' H' Q
theorem pgs_nil:PGs X [] gNil:=by
 intro pins s σ H vs us Q I r h
 obtain ⟨e,h⟩:=h
 subst e
 cases r
 exact assignInOrder_nil ⟨σ,H,I,h⟩
theorem pgs_cons {e:Expr} {es:List Expr} {t:TG} {u:TGs} (h1:PG X e t) (h2:PGs X es u)
  (hs:(assignEach (e::es) X.env).map (·.2)=assign e X.env::(assignEach es X.env).map (·.2):=by rfl):PGs X (e::es) (ZFS t u):=by
 intro pins s σ H vs us Q I r h
 obtain ⟨v,vr,e1,h⟩:=h
 subst e1
 cases r with
 | cons r rr=>
  rw [hs]
  refine assignInOrder_cons (thn (h1 pins s σ H _ _ _ I r h) fun _ s1 zz=>?_)
  obtain ⟨σ1,H1,I1,q1⟩:=zz
  exact h2 pins s1 σ1 H1 _ _ Q I1 rr q1
noncomputable def gTup (K:W.Frag) (n:Nat) (t:TGs):TG:=fun v σ H Q=>∃ a xs,v=.ref a /\ SqT K H a xs /\ xs.length=n /\ t xs σ H Q
theorem pg_tup {es:List Expr} {k:Nat} {t:TGs} {n:Nat} (hc:X.calm=true) (h:PGs X es t)
  (hn:(assignEach es X.env).length=n:=by rfl) (hst:(assignEach es X.env).findIdx? (·.1)=none:=by rfl):PG X (.Tuple es k pos) (gTup X.K n t):=by
 intro pins s σ H v u Q I r hw
 obtain ⟨a,xs,e1,hq,hl,hw⟩:=hw
 subst e1
 cases r
 obtain ⟨its,rv,ht,hz⟩:=I.tuple hq
 refine assign_Tuple_tuple (I.ok.hd hc) ht (by simp [hn,<- hl,rv.length]) hst fun h' hx=>?_
 have I1:Inv X pins σ H { s with heap:=h' }:=I.kept (t':=s.toks) fun b o e=>hx b o (yAU (Heap.lt_size e)) e
 exact h pins _ σ H xs _ Q I1 (by simpa using rv) hw
noncomputable def gSub (to ti:TE) (t:TSet):TG:=fun v σ H Q=>to σ H fun o H1=>ti σ H1 fun i H2=>t o i v H2 fun H3=>Q σ H3
theorem pg_sub {o i:Expr} {to ti:TE} {t:TSet} (ho:PE X o to) (hi:PE X i ti) (hs:PSet X t)
  (ha:∀ v,assign (.Subscript o i pos) X.env v=(do
   let ov <- holding [v] (eval o X.env)
   let iv <- holding [v,ov] (eval i X.env)
   standAt pos
   holding [v,ov,iv] (setItem ov iv v)
   release [v,ov,iv] []):=by intro _;rfl):PG X (.Subscript o i pos) (gSub to ti t):=by
 intro pins s σ H v u Q I r h
 rw [ha]
 refine wpAny_bind (wpAny_holding (thn (ho pins s σ H _ I h) fun ov s1 zz=>?_))
 obtain ⟨x,H1,I1,r1,q1⟩:=zz
 refine wpAny_bind (wpAny_holding (thn (hi pins s1 σ H1 _ I1 q1) fun iv s2 zz=>?_))
 obtain ⟨y,H2,I2,r2,q2⟩:=zz
 refine wpAny_bind (wpAny_standAt (wpAny_bind (wpAny_holding (thn (hs pins s2 σ H2 x y v ov iv u _ I2 r1 r2 r q2) fun _ s3 ⟨H3,I3,q3⟩=>?_))))
 exact wpAny_release ⟨σ,H3,I3,q3⟩
noncomputable def tAsg (te:TE) (g:TG):TS:=fun D σ H=>te σ H fun x H1=>g x σ H1 D.nx
theorem ps_asg {tg e:Expr} {te:TE} {g:TG} (he:PE X e te) (hg:PG X tg g) (hs:swapsWithSole [tg] e pos.line X.env=pure false:=by rfl) (hw:swappedStores [tg] e X.env=pure none:=by rfl)
  (h1:(assignEach [tg] X.env).map (·.2)=[assign tg X.env]:=by rfl):PS X (.Assign [tg] e pos) (tAsg te g):=by
 intro pins s σ H D I h
 refine wpAny_Assign_stores (thn (he pins s σ H _ I h) fun v s1 zz=>?_) hs hw
 obtain ⟨x,H1,I1,r1,q1⟩:=zz
 rw [h1]
 exact thn (hg pins s1 σ H1 x v _ I1 r1 q1) fun _ s2 q=>q
theorem ZAJ {i:Nat} {x:Str} {e:Expr} {te:TE} {pos':Pos} (hN:X.N.Nodup) (hi:X.N[i]?=some x) (hx:Loc X.env.scope x) (he:PE X e te) (hs:swapsWith e (some (.Name x pos')) pos.line X.env=pure false:=by rfl) (hf:X.fn x=true∨X.env.scope.names.lookup x=some .local:=by first | exact .inl rfl | exact .inr rfl | assumption) :
  PS X (.Assign [.Name x pos'] e pos) (tAsg te (ZE9 i)):=by
 intro pins s σ H D I h
 refine wpAny_Assign_Name (thn (he pins s σ H _ I h) fun v s1 zz=>?_) hs
 obtain ⟨y,H1,I1,r1,q1⟩:=zz
 exact ZDT I1 hN hi hx r1 (fun s2 I2=>⟨_,H1,I2,q1⟩) hf
noncomputable def tPar (i j:Nat) (ta:TA):TS:=fun D σ H=>ta σ H fun vs H1=>∃ v w,vs=[v,w] /\ D.nx ((σ.set i (some v)).set j (some w)) H1
noncomputable def tAug (i:Nat) (te:TE) (ti:TIp):TS:=fun D σ H=>∃ x,σ[i]?=some (some x) /\ te σ H fun y H1=>ti x y H1 fun z H2=>D.nx (σ.set i (some z)) H2
theorem ZEU {i:Nat} {x:Str} {e:Expr} {te:TE} {op:Operator} {ti:TIp} {pos':Pos} (hN:X.N.Nodup) (hi:X.N[i]?=some x) (hx:Loc X.env.scope x) (he:PE X e te) (ho:PIp X op ti) (hf:X.fn x=true∨X.env.scope.names.lookup x=some .local:=by first | exact .inl rfl | exact .inr rfl | assumption) :
  PS X (.AugAssign (.Name x pos') op e pos) (tAug i te ti):=by
 intro pins s σ H D I h
 obtain ⟨v,e1,h⟩:=h
 obtain ⟨m,hn,hl⟩:=I.loc
 have vis:Vis X.env.scope x:=by rcases hx with k | k;exact .inl k;exact .inr (.inl k)
 obtain ⟨u,r,l⟩:=hl i x v hi e1 vis
 refine wpAny_AugAssign_Name ?_
 have go:wpAny (model X.prog X.w) X.A (eval e X.env) (fun w s₂=>wpAny (model X.prog X.w) X.A (inplaceOp op u w) (fun r s₃=>wpAny (model X.prog X.w) X.A (storeName X.env x r) (fun _=>SP X pins D .next) X.xe s₃) X.xe s₂) X.xe s:=by
  refine thn (he pins s σ H _ I h) fun w s1 zz=>?_
  obtain ⟨y,H1,I1,r1,q1⟩:=zz
  refine thn (ho pins s1 σ H1 v y u w _ I1 r r1 q1) fun z s2 zz=>?_
  obtain ⟨zv,H2,I2,r2,q2⟩:=zz
  exact ZDT I2 hN hi hx r2 (fun s3 I3=>⟨_,H2,I3,q2⟩) hf
 rcases l with ⟨hk,hm⟩ | ⟨hk,c,hc,hcell⟩
 .exact wpAny_loadName_local I.ok.kind hk hn hm go
 .rcases hk with hk | hk
  .exact wpAny_loadName_cell I.ok.kind hk hc hcell go
  .rcases hx with k | k
   .have:X.env.scope.names.lookup x=some .free:=hk
    rw [k] at this;cases this
   .have:X.env.scope.names.lookup x=some .free:=hk
    rw [k] at this;cases this
noncomputable def ipI (f:Int->Int->Int):TIp:=fun x y H Q=>∃ i j,x=.int i /\ y=.int j /\ Q (.int (f i j)) H
theorem ZEZ:PIp X .Add (ipI fun i j=>i+j):=by
 intro pins s σ H x y v u Q I r1 r2 h
 obtain ⟨i,j,e1,e2,q⟩:=h
 subst e1;subst e2
 obtain ⟨t,rfl⟩:=r1
 obtain ⟨t',rfl⟩:=r2
 exact iadd_int ⟨.int _,H,I.tok _,⟨_,rfl⟩,q⟩
end
section
variable {X:Cx} {pos:Pos}
noncomputable def tWhile (c:TT) (tb:TS):TS:=fun D σ H=>∃ W:Nat->St->Hp->Prop,(∃ m,W m σ H) /\ ∀ m σ H,W m σ H ->
 c σ H fun b H1=>if b=true then ∃ N:St->Hp->Prop,(∀ σ' H',N σ' H'->∃ m',m' < m /\ W m' σ' H') /\ tb { D with nx:=N,ct:=N,bk:=D.nx } σ H1 else D.nx σ H1
theorem ZBY {c:Expr} {body:List Stmt} {tc:TT} {tb:TS} (hp:PassesOwn (model X.prog X.w) X.A X.env X.xe) (hc:PT X c tc) (hb:PSs X body tb):PS X (.While c body [] pos) (tWhile tc tb):=by
 intro pins s σ H D I h
 obtain ⟨W,⟨m0,w0⟩,turn⟩:=h
 refine wpAny_While (codeAny_whileLoop (fun n s'=>∃ σ' H',Inv X pins σ' H' s' /\ W n σ' H') ?_ m0 ⟨σ,H,I,w0⟩)
 rintro n s1 ⟨σ1,H1,I1,w1⟩
 refine wpAny_passesOwn hp (thn (hc pins s1 σ1 H1 _ I1 (turn n σ1 H1 w1)) fun b s2 ⟨H2,I2,q2⟩=>?_)
 cases b with
 | true=>
  obtain ⟨N,hN,q2⟩:=q2
  rw [if_pos rfl]
  refine wpAny_passesOwn hp (thn (hb pins s2 σ1 H2 _ I2 q2) fun f s3 q3=>?_)
  cases f with
  | next=>
   obtain ⟨σ3,H3,I3,n3⟩:=q3
   obtain ⟨m',hm,w3⟩:=hN σ3 H3 n3
   exact ⟨m',hm,σ3,H3,I3,w3⟩
  | cont=>
   obtain ⟨σ3,H3,I3,n3⟩:=q3
   obtain ⟨m',hm,w3⟩:=hN σ3 H3 n3
   exact ⟨m',hm,σ3,H3,I3,w3⟩
  | brk=>exact q3
  | ret v=>exact q3
 | false=>
  rw [if_neg yBE]
  exact wpAny_execs_nil ⟨σ1,H2,I2,q2⟩
end
structure It where
 go:Nat->Hp->Prop
 yld:Nat->Hp->V->Hp->Prop
 stop:Nat->Hp->Prop
noncomputable def FpOk (X:Cx) (pins:List (Addr×Obj)) (H:Hp) (b:Addr):Prop :=
 H b=none /\ b≠X.env.locals /\ b∉X.fs /\ (b∈X.ex∨X.s₀.heap.objs.size <= b) /\ (∀ x c,X.env.cells.lookup x=some c->c≠b) /\ ∀ p∈X.pn++pins,p.1≠b
theorem Inv.fpOk {X:Cx} {pins:List (Addr×Obj)} {σ:St} {H H':Hp} {s:Shared} {b:Addr} (I:Inv X pins σ H s) (hb:s.heap.objs.size <= b) (hn:H' b=none):FpOk X pins H' b:=by
 refine ⟨hn,Nat.ne_of_gt (yAX I.lt hb),I.nofs hb,.inr (yAK I.sz hb),fun x c e z=>?_,fun p hp z=>?_⟩
 .obtain ⟨v,q⟩:=I.cell x c e
  exact absurd (yAX q.lt (by rw [z];exact hb)) (yBO _)
 .exact absurd (yAX (Heap.lt_size (I.pin p hp).1) (by rw [z];exact hb)) (yBO _)
structure Turn (P:Program) (w:World) (K:W.Frag) (tg:Expr) (J:It) (fp:List Addr) (it:Addr) (tn:Nat->Heap->Prop):Prop where
 mem:it∈fp
 obj:∀ i h,tn i h->∀ b∈fp,∃ o,h.get? b=some o /\ ∀ v,o.data≠.cell v
 keep:∀ i h h',tn i h->(∀ b∈fp,∀ o,h.get? b=some o->h'.get? b=some o)->tn i h'
 item:∀ (X:Cx),X.prog=P->X.w=w->X.K=K->X.calm=true->∀ (i:Nat) (pins:List (Addr×Obj)) (s:Shared) (σ:St) (H:Hp) (E:Value->Shared->Prop),Inv X pins σ H s->(∀ b∈fp,FpOk X pins H b)->tn i s.heap->J.go i H ->
  wpAny (model P w) X.A (pyNext (.ref it)) (fun r s1=>∃ u,r=some u /\
   wpAny (model P w) X.A (letOwnedTupleGo tg (.ref it) u) (fun _ s2=>∃ x H',Inv X pins σ H' s2 /\ RelV x u /\ J.yld i H x H' /\ tn (i+1) s2.heap /\ ∀ b∈fp,H' b=none) E s1) E s
 done:∀ (X:Cx),X.prog=P->X.w=w->X.K=K->X.calm=true->∀ (i:Nat) (pins:List (Addr×Obj)) (s:Shared) (σ:St) (H:Hp) (E:Value->Shared->Prop),Inv X pins σ H s->(∀ b∈fp,FpOk X pins H b)->tn i s.heap->J.stop i H ->
  wpAny (model P w) X.A (pyNext (.ref it)) (fun r s1=>r=none /\ Inv X pins σ H s1) E s
 self:∀ (A:Around) (i:Nat) (s:Shared) (Q:Value->Shared->Prop) (E:Value->Shared->Prop),tn i s.heap->Q (.ref it) s->wpAny (model P w) A (pyIter (.ref it)) Q E s
noncomputable abbrev TI:=St->Hp->(It->Hp->Prop)->Prop
noncomputable def PIE (X:Cx) (pins:List (Addr×Obj)) (σ:St) (tg:Expr) (R:It->Hp->Prop) (itv:Value) (s2:Shared):Prop :=
 ∃ (it:Addr) (fp:List Addr) (tn:Nat->Heap->Prop) (J:It) (H':Hp),itv=.ref it /\ Inv X pins σ H' s2 /\ Turn X.prog X.w X.K tg J fp it tn /\ tn 0 s2.heap /\ (∀ b∈fp,FpOk X pins H' b) /\ R J H'
noncomputable def PI (X:Cx) (tg iter:Expr) (wi:TI):Prop :=
 ∀ (pins:List (Addr×Obj)) (s:Shared) (σ:St) (H:Hp) (R:It->Hp->Prop),Inv X pins σ H s->wi σ H R ->
  wpAny (model X.prog X.w) X.A (eval iter X.env) (fun v s1=>wpAny (model X.prog X.w) X.A (pyIter v) (PIE X pins σ tg R) X.xe s1) X.xe s
theorem go_of {M:Model} {A:Around} {E:Value->Shared->Prop} {s:Shared} {tg:Expr} {it:Addr} {u:Value} {o:Obj} {n:String} {vs:Array Value} {Q:Unit->Shared->Prop} (ho:s.heap.get? it=some o) (hc:o.cls=.type n) (hd:o.data=.fields vs)
  (hn:["enumerate","zip","dict_itemiterator","dict_reverseitemiterator","odict_iterator","itertools.zip_longest","itertools.pairwise"].contains n=false) (hQ:Q () s):wpAny M A (letOwnedTupleGo tg (.ref it) u) Q E s:=by
 unfold letOwnedTupleGo
 cases tg <;> first
  | exact wpAny_pure hQ
  | (cases u <;> first
    | exact wpAny_pure hQ
    | (refine wpAny_bind (wpAny_load ho ?_)
       rw [hc,hd]
       show wpAny M A (if (["enumerate","zip","dict_itemiterator","dict_reverseitemiterator","odict_iterator","itertools.zip_longest","itertools.pairwise"].contains n && vs[0]? == some (rawInt _))=true then _ else _) Q E s
       rw [if_neg (by intro h;rw [hn,Bool.false_and] at h;cases h)]
       exact wpAny_pure hQ))
noncomputable def Itl (K:W.Frag) (a:Addr):It :=
 ⟨fun i H=>∃ xs x,SqL K H a xs /\ xs[i]?=some x,fun i H x H'=>H'=H /\ ∀ xs,SqL K H a xs->xs[i]?=some x,fun i H=>∃ xs,SqL K H a xs /\ xs.length <= i⟩
noncomputable def Itr (lo:Int) (n:Nat):It:=⟨fun i _=>i < n,fun i H x H'=>H'=H /\ x=.int (lo+i),fun i _=>n <= i⟩
theorem turn_list {P:Program} {w:World} {K:W.Frag} {tg:Expr} (a it:Addr):Turn P w K tg (Itl K a) [it] it (fun i h=>h.IsListIter it a i) where
 mem:=by simp
 obj:=fun i h st b hb=>by
  have e:b=it:=by simpa using hb
  subst e
  obtain ⟨o,e,c,d⟩:=st
  exact ⟨o,e,fun v z=>by rw [d] at z;cases z⟩
 keep:=fun i h h' st k=>st.at fun o e=>k it (by simp) o e
 item:=by
  intro X hP hw hK hc i pins s σ H E I hf st hg
  subst hP hw hK
  obtain ⟨xs,x,hq,hx⟩:=hg
  obtain ⟨its,rv,p,hz⟩:=I.list hq
  obtain ⟨u,hu,ru⟩:=rv.get hx
  obtain ⟨f0,f1,f2,f3,f4,f5⟩:=hf it (by simp)
  refine wpAny_pyNext_list_item st p.isList (x:=u) (by simpa using hu) fun h' st' sb=>?_
  have I1:Inv X pins σ H { s with heap:=h' }:=I.turned (t':=s.toks) (fun b o hb e=>(sb.2 b hb).trans e) f0 f1 f3 f4 f5
  obtain ⟨o,e,c,d⟩:=id st'
  exact ⟨u,rfl,go_of (s:={ s with heap:=h' }) e c d (by decide) ⟨x,H,I1,ru,⟨rfl,fun ys hy=>by rw [I.list_inj hy hq];exact hx⟩,st',fun b hb=>(hf b hb).1⟩⟩
 done:=by
  intro X hP hw hK hc i pins s σ H E I hf st hg
  subst hP hw hK
  obtain ⟨xs,hq,hx⟩:=hg
  obtain ⟨its,rv,p,hz⟩:=I.list hq
  obtain ⟨f0,f1,f2,f3,f4,f5⟩:=hf it (by simp)
  have hl:=rv.length
  exact wpAny_pyNext_list_end (I.ok.hd hc) st p.isList (by simp;omega) fun h' eb=>⟨rfl,I.turned (t':=s.toks) (fun b o hb e=>eb b o hb e) f0 f1 f3 f4 f5⟩
 self:=fun _ _ _ _ _ st h=>wpAny_pyIter_listiter st h
theorem turn_range {P:Program} {w:World} {K:W.Frag} {tg:Expr} (it:Addr) (lo:Int) (n:Nat):Turn P w K tg (Itr lo n) [it] it (fun i h=>IsRangeIter h it (lo+(i:Nat) * 1) ((n:Int)-(i:Nat)) 1) where
 mem:=by simp
 obj:=fun i h st b hb=>by
  have e:b=it:=by simpa using hb
  subst e
  exact ⟨_,st,fun v z=>by
   have z':Data.fields _=Data.cell v:=z
   cases z'⟩
 keep:=fun i h h' st k=>k it (by simp) _ st
 item:=by
  intro X hP hw hK hc i pins s σ H E I hf st hg
  subst hP hw hK
  obtain ⟨f0,f1,f2,f3,f4,f5⟩:=hf it (by simp)
  have W:=Walks.range (prog:=X.prog) (w:=X.w) (I.ok.hd hc) it lo 1 n
  refine W.item i s _ _ hg st fun v h' tk hv st' kk=>?_
  obtain ⟨t,rfl⟩:=hv
  have I1:Inv X pins σ H { s with heap:=h',toks:=tk }:=I.turned (fun b o hb e=>kk b o (by simpa using hb) e) f0 f1 f3 f4 f5
  refine ⟨_,rfl,go_of (s:={ s with heap:=h',toks:=tk }) (n:="range_iterator") st' rfl rfl (by decide) ⟨.int (lo+i),H,I1,⟨t,?_⟩,⟨rfl,rfl⟩,st',fun b hb=>(hf b hb).1⟩⟩
  rw [Int.mul_one]
 done:=by
  intro X hP hw hK hc i pins s σ H E I hf st hg
  subst hP hw hK
  obtain ⟨f0,f1,f2,f3,f4,f5⟩:=hf it (by simp)
  exact wpAny_pyNext_range_end (I.ok.hd hc) st (by have:n <= i:=hg;omega) fun h' eb=>⟨rfl,I.turned (t':=s.toks) (fun b o hb e=>eb b o hb e) f0 f1 f3 f4 f5⟩
 self:=fun _ _ _ _ _ st h=>wpAny_pyIter_rangeiter st h
section
variable {X:Cx} {tg:Expr}
noncomputable def ZFQ (K:W.Frag) (tl:TE):TI:=fun σ H R=>tl σ H fun x H1=>∃ a,x=.ref a /\ (∃ xs,SqL K H1 a xs) /\ R (Itl K a) H1
theorem ZDd {l:Expr} {tl:TE} (hl:PE X l tl):PI X tg l (ZFQ X.K tl):=by
 intro pins s σ H R I h
 refine thn (hl pins s σ H _ I h) fun v s1 zz=>?_
 obtain ⟨x,H1,I1,r1,q1⟩:=zz
 obtain ⟨a,e,⟨xs,hq⟩,q⟩:=q1
 subst e
 cases r1
 obtain ⟨its,rv,p,hz⟩:=I1.list hq
 refine wpAny_pyIter_list p.isList ?_
 refine ⟨s1.heap.objs.size,[s1.heap.objs.size],_,_,H1,rfl,I1.kept (t':=s1.toks) fun b o e=>Heap.get?_push_of_some _ e,turn_list a _,⟨_,Heap.get?_push_size _ rfl,rfl,rfl⟩,fun b hb=>?_,q⟩
 have e:b=s1.heap.objs.size:=by simpa using hb
 subst e
 exact I1.fpOk (yAA _) (I1.hok.fresh (yAA _))
theorem range_it {pins:List (Addr×Obj)} {σ:St} {H:Hp} {s:Shared} {R:It->Hp->Prop} {E:Value->Shared->Prop} {lo hi:Int} {t u v:Tok} {tk:Nat} (I:Inv X pins σ H s) (h1:-(2 ^ 62) <= lo) (h2:lo < 2 ^ 62) (h3:-(2 ^ 62) <= hi) (h4:hi < 2 ^ 62)
  (q:R (Itr lo (hi-lo).toNat) H):wpAny (model X.prog X.w) X.A (pyIter (.ref s.heap.objs.size)) (PIE X pins σ tg R) E { s with heap:=s.heap.push { cls:=.type "range",data:=.fields #[.int lo t,.int hi u,.int 1 v] },toks:=tk }:=by
 refine wpAny_pyIter_range (IsRange.new ..) (small_one h1 h2 h3 h4) ?_
 have I1:Inv X pins σ H { s with heap:=s.heap.push { cls:=.type "range",data:=.fields #[.int lo t,.int hi u,.int 1 v] },toks:=tk }:=I.kept fun b o e=>Heap.get?_push_of_some _ e
 refine ⟨(s.heap.push { cls:=.type "range",data:=.fields #[.int lo t,.int hi u,.int 1 v] }).objs.size,[(s.heap.push { cls:=.type "range",data:=.fields #[.int lo t,.int hi u,.int 1 v] }).objs.size],_,_,H,rfl,
  I1.kept (t':=tk) fun b o e=>Heap.get?_push_of_some _ e,turn_range _ lo (hi-lo).toNat,?_,fun b hb=>?_,q⟩
 .have e1:lo+((0:Nat):Int) * 1=lo:=by simp
  have e2:(((hi-lo).toNat:Nat):Int)-((0:Nat):Int)=Builtin.Range.rangeSize lo hi 1:=by rw [rangeSize_one];split <;> omega
  show IsRangeIter _ _ (lo+((0:Nat):Int) * 1) ((((hi-lo).toNat:Nat):Int)-((0:Nat):Int)) 1
  rw [e1,e2]
  exact Heap.get?_push_size _ rfl
 .have e:b=(s.heap.push { cls:=.type "range",data:=.fields #[.int lo t,.int hi u,.int 1 v] }).objs.size:=by simpa using hb
  subst e
  exact I1.fpOk (yAA _) (I1.hok.fresh (yAA _))
noncomputable def ZFP (ta:TA):TI:=fun σ H R=>ta σ H fun vs H1=>∃ j:Int,vs=[.int j] /\ -(2 ^ 62) <= j /\ j < 2 ^ 62 /\ R (Itr 0 j.toNat) H1
noncomputable def ZFO (ta:TA):TI:=fun σ H R=>ta σ H fun vs H1=>∃ i j:Int,vs=[.int i,.int j] /\ (-(2 ^ 62) <= i /\ i < 2 ^ 62 /\ -(2 ^ 62) <= j /\ j < 2 ^ 62) /\ R (Itr i (j-i).toNat) H1
theorem pi_range1 {a:Expr} {ta:TA} {p pos:Pos} (hg:Gl X "range") (hm:X.mg "range"=none) (ha:PA X [a] ta) (hs:starEach [a] X.env=[(false,eval a X.env)]:=by rfl):PI X tg (.Call (.Name "range" p) [a] [] pos) (ZFP ta):=by
 intro pins s σ H R I h
 refine Call_ (ZD2 I hg hm boot_range (PyProof.Rows.callWith_type1 (thn (ha pos pins s σ H _ I h) fun us s1 zz=>?_) hs rfl))
 obtain ⟨vs,H1,I1,r1,q1⟩:=zz
 obtain ⟨j,e,q1,q2,q⟩:=q1
 subst e
 cases r1 with
 | cons r rr=>
  cases rr
  obtain ⟨t,rfl⟩:=r
  exact call_range_1 (range_it I1 (by omega) (by omega) q1 q2 (by simpa using q))
theorem pi_range2 {a b:Expr} {ta:TA} {p pos:Pos} (hg:Gl X "range") (hm:X.mg "range"=none) (ha:PA X [a,b] ta) (hs:starEach [a,b] X.env=[(false,eval a X.env),(false,eval b X.env)]:=by rfl) (hs2:starEach [b] X.env=[(false,eval b X.env)]:=by rfl) :
  PI X tg (.Call (.Name "range" p) [a,b] [] pos) (ZFO ta):=by
 intro pins s σ H R I h
 refine Call_ (ZD2 I hg hm boot_range (PyProof.Rows.callWith_type1 (thn (ha pos pins s σ H _ I h) fun us s1 zz=>?_) (by rw [hs,hs2]) (by rw [hs2];rfl)))
 obtain ⟨vs,H1,I1,r1,q1⟩:=zz
 obtain ⟨i,j,e,⟨q1,q2,q3,q4⟩,q⟩:=q1
 subst e
 cases r1 with
 | cons r rr=>
  cases rr with
  | cons r' rr=>
   cases rr
   obtain ⟨t,rfl⟩:=r
   obtain ⟨t',rfl⟩:=r'
   exact call_range_2 (range_it I1 q1 q2 q3 q4 q)
noncomputable def tFor (wi:TI) (g:TG) (tb:TS):TS:=fun D σ H=>wi σ H fun J H1=>∃ W:Nat->Nat->St->Hp->Prop,(∃ m,W 0 m σ H1) /\ ∀ i m σ H,W i m σ H ->
 (J.stop i H /\ D.nx σ H)∨(J.go i H /\ ∃ N:St->Hp->Prop,(∀ σ' H',N σ' H'->∃ m',m' < m /\ W (i+1) m' σ' H') /\ ∀ x H',J.yld i H x H'->g x σ H' fun σ2 H2=>tb { D with nx:=N,ct:=N,bk:=D.nx } σ2 H2)
noncomputable def ZDz (fp:List Addr) (h:Heap):List (Addr×Obj):=fp.filterMap fun b=>(h.get? b).map fun o=>(b,o)
theorem ZCL {fp:List Addr} {h:Heap} {b:Addr} {o:Obj} (hb:b∈fp) (e:h.get? b=some o):(b,o)∈ZDz fp h:=List.mem_filterMap.mpr ⟨b,hb,by rw [e];rfl⟩
theorem of_pinsAt {fp:List Addr} {h:Heap} {p:Addr×Obj} (hp:p∈ZDz fp h):p.1∈fp /\ h.get? p.1=some p.2:=by
 obtain ⟨b,hb,e⟩:=List.mem_filterMap.mp hp
 cases q:h.get? b with
 | none=>rw [q] at e;cases e
 | some o=>
  rw [q] at e
  have e':(b,o)=p:=Option.some.inj e
  subst e'
  exact ⟨hb,q⟩
theorem Inv.pinned {pins:List (Addr×Obj)} {σ:St} {H:Hp} {s:Shared} {fp:List Addr} (I:Inv X pins σ H s) (hf:∀ b∈fp,FpOk X pins H b) (ho:∀ b∈fp,∃ o,s.heap.get? b=some o /\ ∀ v,o.data≠.cell v):Inv X (pins++ZDz fp s.heap) σ H s :=
 I.pins_of fun p hp=>(yBD.mp hp).elim (fun z=>I.pin p (yAV _ z)) fun z=>by
  obtain ⟨hb,e⟩:=of_pinsAt z
  obtain ⟨f0,f1,f2,_⟩:=hf p.1 hb
  obtain ⟨o,e',d⟩:=ho p.1 hb
  rw [e] at e';cases e'
  exact ⟨e,f0,f1,f2,d⟩
theorem Inv.unpinned {pins pl:List (Addr×Obj)} {σ:St} {H:Hp} {s:Shared} (I:Inv X (pins++pl) σ H s):Inv X pins σ H s:=I.pins_of fun p hp=>I.pin p (yAV _ (yBM _ hp))
theorem ZET {iter:Expr} {body:List Stmt} {wi:TI} {g:TG} {tb:TS} {pos:Pos} (hp:PassesOwn (model X.prog X.w) X.A X.env X.xe) (hc:X.calm=true) (hi:PI X tg iter wi) (hg:PG X tg g) (hb:PSs X body tb)
  (hs:∀ x,foldedSetIterable iter X.env x=pure x:=by intro _;rfl):PS X (.For tg iter body [] pos) (tFor wi g tb):=by
 intro pins s σ H D I h
 refine wpAny_For (thn (hi pins s σ H _ I h) fun v s1 h1=>thn h1 fun itv s2 h2=>?_) hs
 obtain ⟨it,fp,tn,J,H2,e,I2,T,st2,f2,W,⟨m0,w0⟩,turn⟩:=h2
 subst e
 have stat:∀ {H':Hp},(∀ b∈fp,H' b=none)->∀ b∈fp,FpOk X pins H' b:=fun hn b hb=>⟨hn b hb,(f2 b hb).2⟩
 refine codeAny_forLoop_any (fun n s'=>∃ i σ' H',Inv X pins σ' H' s' /\ tn i s'.heap /\ (∀ b∈fp,H' b=none) /\ W i n σ' H') ?_ m0 ⟨0,σ,H2,I2,st2,fun b hb=>(f2 b hb).1,w0⟩
 rintro n s3 ⟨i,σ3,H3,I3,st3,fr3,w3⟩
 rcases turn i n σ3 H3 w3 with ⟨stop,qn⟩ | ⟨go,N,hN,step⟩
 .refine wpAny_passesOwn hp (thn (T.done X rfl rfl rfl hc i pins s3 σ3 H3 X.xe I3 (stat fr3) st3 stop) fun r s4 ⟨hr,I4⟩=>?_)
  subst hr
  exact wpAny_execs_nil ⟨σ3,H3,I4,qn⟩
 .refine wpAny_passesOwn hp (thn (T.item X rfl rfl rfl hc i pins s3 σ3 H3 X.xe I3 (stat fr3) st3 go) fun r s4 ⟨u,hr,h4⟩=>?_)
  subst hr
  refine wpAny_passesOwn hp (thn h4 fun _ s5 zz=>?_)
  obtain ⟨x,H5,I5,r5,y5,st5,fr5⟩:=zz
  have I5':=I5.pinned (stat fr5) (T.obj _ _ st5)
  refine wpAny_passesOwn hp (thn (hg _ s5 σ3 H5 x u _ I5' r5 (step x H5 y5)) fun _ s6 zz=>?_)
  obtain ⟨σ6,H6,I6,q6⟩:=zz
  refine wpAny_passesOwn hp (thn (hb _ s6 σ6 H6 _ I6 q6) fun f s7 q7=>?_)
  have again:∀ {σ7:St} {H7:Hp},Inv X (pins++ZDz fp s5.heap) σ7 H7 s7->N σ7 H7->∃ m,m < n /\ ∃ i σ' H',Inv X pins σ' H' s7 /\ tn i s7.heap /\ (∀ b∈fp,H' b=none) /\ W i m σ' H':=fun {σ7 H7} I7 n7=>by
   obtain ⟨m',hm,w7⟩:=hN σ7 H7 n7
   refine ⟨m',hm,i+1,σ7,H7,I7.unpinned,T.keep _ _ _ st5 fun b hb o e=>(I7.pin (b,o) (yAV _ (yAV _ (ZCL hb e)))).1,fun b hb=>?_,w7⟩
   obtain ⟨o,e,d⟩:=T.obj _ _ st5 b hb
   exact (I7.pin (b,o) (yAV _ (yAV _ (ZCL hb e)))).2.1
  cases f with
  | next=>obtain ⟨σ7,H7,I7,n7⟩:=q7;exact again I7 n7
  | cont=>obtain ⟨σ7,H7,I7,n7⟩:=q7;exact again I7 n7
  | brk=>obtain ⟨σ7,H7,I7,q7⟩:=q7;exact ⟨σ7,H7,I7.unpinned,q7⟩
  | ret v=>obtain ⟨x7,σ7,H7,I7,r7,q7⟩:=q7;exact ⟨x7,σ7,H7,I7.unpinned,r7,q7⟩
end
theorem for_list {K:W.Frag} {a:Addr} {xs:List V} {g:TG} {tb:TS} {D:Ends} {σ:St} {H:Hp} (Pv:Nat->St->Hp->Prop) (h0:Pv 0 σ H) (hl:∀ i σ H,i <= xs.length->Pv i σ H->SqL K H a xs)
  (hs:∀ i x σ H,xs[i]?=some x->Pv i σ H->g x σ H fun σ2 H2=>tb { D with nx:=Pv (i+1),ct:=Pv (i+1),bk:=D.nx } σ2 H2) (hd:∀ σ H,Pv xs.length σ H->D.nx σ H) :
  ∃ W:Nat->Nat->St->Hp->Prop,(∃ m,W 0 m σ H) /\ ∀ i m σ H,W i m σ H ->
   ((Itl K a).stop i H /\ D.nx σ H)∨((Itl K a).go i H /\ ∃ N:St->Hp->Prop,(∀ σ' H',N σ' H'->∃ m',m' < m /\ W (i+1) m' σ' H') /\ ∀ x H',(Itl K a).yld i H x H'->g x σ H' fun σ2 H2=>tb { D with nx:=N,ct:=N,bk:=D.nx } σ2 H2):=by
 refine ⟨fun i m σ H=>m=xs.length-i /\ i <= xs.length /\ Pv i σ H,⟨xs.length,by simp,yAI _,h0⟩,?_⟩
 rintro i m σ H ⟨rfl,hi,p⟩
 have q:=hl i σ H hi p
 by_cases hlt:i < xs.length
 .refine .inr ⟨⟨xs,xs[i],q,by simp [hlt]⟩,Pv (i+1),fun σ' H' p'=>⟨xs.length-(i+1),by omega,rfl,hlt,p'⟩,fun x H' y=>?_⟩
  obtain ⟨e,y⟩:=y
  subst e
  exact hs i x σ _ (y xs q) p
 .have e:i=xs.length:=by omega
  subst e
  exact .inl ⟨⟨xs,q,yAA _⟩,hd σ H p⟩
theorem for_range {lo:Int} {n:Nat} {g:TG} {tb:TS} {D:Ends} {σ:St} {H:Hp} (Pv:Nat->St->Hp->Prop) (h0:Pv 0 σ H)
  (hs:∀ i σ H,i < n->Pv i σ H->g (.int (lo+i)) σ H fun σ2 H2=>tb { D with nx:=Pv (i+1),ct:=Pv (i+1),bk:=D.nx } σ2 H2) (hd:∀ σ H,Pv n σ H->D.nx σ H) :
  ∃ W:Nat->Nat->St->Hp->Prop,(∃ m,W 0 m σ H) /\ ∀ i m σ H,W i m σ H ->
   ((Itr lo n).stop i H /\ D.nx σ H)∨((Itr lo n).go i H /\ ∃ N:St->Hp->Prop,(∀ σ' H',N σ' H'->∃ m',m' < m /\ W (i+1) m' σ' H') /\ ∀ x H',(Itr lo n).yld i H x H'->g x σ H' fun σ2 H2=>tb { D with nx:=N,ct:=N,bk:=D.nx } σ2 H2):=by
 refine ⟨fun i m σ H=>m=n-i /\ i <= n /\ Pv i σ H,⟨n,by simp,yAI _,h0⟩,?_⟩
 rintro i m σ H ⟨rfl,hi,p⟩
 by_cases hlt:i < n
 .refine .inr ⟨hlt,Pv (i+1),fun σ' H' p'=>⟨n-(i+1),by omega,rfl,hlt,p'⟩,fun x H' y=>?_⟩
  obtain ⟨e,y⟩:=y
  subst e y
  exact hs i σ _ hlt p
 .have e:i=n:=by omega
  subst e
  exact .inl ⟨yAA _,hd σ H p⟩
noncomputable abbrev R2:=V->V->Hp->VK->Prop
noncomputable def OpR (X:Cx) (f:Value->Value->Sem Value) (r:R2):Prop :=
 ∀ (pins:List (Addr×Obj)) (s:Shared) (σ:St) (H:Hp) (x y:V) (v u:Value) (Q:VK),Inv X pins σ H s->RelV x v->RelV y u->r x y H Q ->
  wpAny (model X.prog X.w) X.A (f v u) (EP X pins σ Q) X.xe s
noncomputable def UnR (X:Cx) (f:Value->Sem Value) (r:V->Hp->VK->Prop):Prop :=
 ∀ (pins:List (Addr×Obj)) (s:Shared) (σ:St) (H:Hp) (x:V) (v:Value) (Q:VK),Inv X pins σ H s->RelV x v->r x H Q ->
  wpAny (model X.prog X.w) X.A (f v) (EP X pins σ Q) X.xe s
noncomputable def ZCN (X:Cx) (f:Value) (r:List V->Hp->VK->Prop):Prop :=
 ∀ (pins:List (Addr×Obj)) (s:Shared) (σ:St) (H:Hp) (xs:List V) (us:List Value) (Q:VK),Inv X pins σ H s->Vals xs us->r xs H Q ->
  wpAny (model X.prog X.w) X.A (call f us) (EP X pins σ Q) X.xe s
noncomputable def tOp (r:R2) (ta tb:TE):TE:=fun σ H Q=>ta σ H fun x H1=>tb σ H1 fun y H2=>r x y H2 Q
noncomputable def tUn (r:V->Hp->VK->Prop) (ta:TE):TE:=fun σ H Q=>ta σ H fun x H1=>r x H1 Q
noncomputable def rI (C:Int->Int->Prop) (g:Int->Int->V):R2:=fun x y H Q=>∃ i j,x=.int i /\ y=.int j /\ C i j /\ Q (g i j) H
noncomputable def rI0 (g:Int->Int->V):R2:=fun x y H Q=>∃ i j,x=.int i /\ y=.int j /\ Q (g i j) H
noncomputable def rU (g:Int->V):V->Hp->VK->Prop:=fun x H Q=>∃ i,x=.int i /\ Q (g i) H
section
variable {X:Cx} {a b c:Expr} {ta tb tc:TE} {pos:Pos}
theorem binT (ha:PE X a ta) (hb:PE X b tb) {pins:List (Addr×Obj)} {s:Shared} {σ:St} {H:Hp} {R:V->V->Hp->Prop} (I:Inv X pins σ H s)
  (h:ta σ H fun x H1=>tb σ H1 fun y H2=>R x y H2) {Q:Value->Shared->Prop} {f:Value->Value->Sem Value}
  (hf:∀ v u s2 x y H2,Inv X pins σ H2 s2->RelV x v->RelV y u->R x y H2->wpAny (model X.prog X.w) X.A (f v u) Q X.xe s2) :
  wpAny (model X.prog X.w) X.A (eval a X.env) (fun v s₁=>wpAny (model X.prog X.w) X.A (eval b X.env) (fun u s₂=>wpAny (model X.prog X.w) X.A (f v u) Q X.xe s₂) X.xe s₁) X.xe s:=by
 refine thn (ha pins s σ H _ I h) fun v s1 zz=>?_
 obtain ⟨x,H1,I1,r1,q1⟩:=zz
 refine thn (hb pins s1 σ H1 _ I1 q1) fun u s2 zz=>?_
 obtain ⟨y,H2,I2,r2,q2⟩:=zz
 exact hf v u s2 x y H2 I2 r1 r2 q2
theorem ZAO {op:Operator} {r:R2} (ho:OpR X (binaryOp op) r) (ha:PE X a ta) (hb:PE X b tb):PE X (.BinOp a op b pos) (tOp r ta tb):=by
 intro pins s σ H Q I h
 exact wpAny_BinOp (binT ha hb I h fun v u s2 x y H2 I2 rx ry q=>ho pins s2 σ H2 x y v u Q I2 rx ry q)
theorem ZFM {op:UnaryOp} {r:V->Hp->VK->Prop} (ho:UnR X (unaryOp op) r) (ha:PE X a ta):PE X (.UnaryOp op a pos) (tUn r ta):=by
 intro pins s σ H Q I h
 exact UnaryOp_ (thn (ha pins s σ H _ I h) fun v s1 ⟨x,H1,I1,r1,q1⟩=>ho pins s1 σ H1 x v Q I1 r1 q1)
theorem opI {f:Value->Value->Sem Value} {C:Int->Int->Prop} {g:Int->Int->Int}
  (rule:∀ (i j:Int) (t u:Tok) (s:Shared) (Q:Value->Shared->Prop) (E:Value->Shared->Prop),C i j->Q (.int (g i j) s.toks) { s with toks:=s.toks+1 }->wpAny (model X.prog X.w) X.A (f (.int i t) (.int j u)) Q E s) :
  OpR X f (rI C fun i j=>.int (g i j)):=by
 intro pins s σ H x y v u Q I rx ry h
 obtain ⟨i,j,rfl,rfl,hc,q⟩:=h
 obtain ⟨t,rfl⟩:=rx
 obtain ⟨t',rfl⟩:=ry
 exact rule i j t t' s _ _ hc ⟨.int (g i j),H,I.tok _,⟨_,rfl⟩,q⟩
theorem opI0 {f:Value->Value->Sem Value} {g:Int->Int->Int}
  (rule:∀ (i j:Int) (t u:Tok) (s:Shared) (Q:Value->Shared->Prop) (E:Value->Shared->Prop),Q (.int (g i j) s.toks) { s with toks:=s.toks+1 }->wpAny (model X.prog X.w) X.A (f (.int i t) (.int j u)) Q E s) :
  OpR X f (rI0 fun i j=>.int (g i j)):=by
 intro pins s σ H x y v u Q I rx ry h
 obtain ⟨i,j,rfl,rfl,q⟩:=h
 obtain ⟨t,rfl⟩:=rx
 obtain ⟨t',rfl⟩:=ry
 exact rule i j t t' s _ _ ⟨.int (g i j),H,I.tok _,⟨_,rfl⟩,q⟩
theorem opB0 {f:Value->Value->Sem Value} {g:Int->Int->Bool}
  (rule:∀ (i j:Int) (t u:Tok) (s:Shared) (Q:Value->Shared->Prop) (E:Value->Shared->Prop),Q (.bool (g i j)) s->wpAny (model X.prog X.w) X.A (f (.int i t) (.int j u)) Q E s) :
  OpR X f (rI0 fun i j=>.bl (g i j)):=by
 intro pins s σ H x y v u Q I rx ry h
 obtain ⟨i,j,rfl,rfl,q⟩:=h
 obtain ⟨t,rfl⟩:=rx
 obtain ⟨t',rfl⟩:=ry
 exact rule i j t t' s _ _ ⟨.bl (g i j),H,I,rfl,q⟩
noncomputable def CDiv (i j:Int):Prop:=0 < j /\ j < 1073741824
noncomputable def CPow (i j:Int):Prop:=0 <= j /\ j <= 1000000 /\ i.natAbs < 2 ^ 64
noncomputable def CMul (i j:Int):Prop:=(-(2 ^ 64) < i /\ i < 2 ^ 64)∨(-(2 ^ 64) < j /\ j < 2 ^ 64)
theorem CMul.ok {i j:Int} (h:CMul i j):IntMulOk i j:=by
 rcases h with ⟨h1,h2⟩ | ⟨h1,h2⟩
 .exact .of_left (intBits_le_64 h1 h2)
 .exact .of_right (intBits_le_64 h1 h2)
theorem ZAj:OpR X (binaryOp .Add) (rI0 fun i j=>.int (i+j)):=opI0 fun _ _ _ _ _ _ _ q=>add_int q
theorem ZB0:OpR X (binaryOp .Sub) (rI0 fun i j=>.int (i-j)):=opI0 fun _ _ _ _ _ _ _ q=>sub_int q
theorem ZB1:OpR X (binaryOp .Mult) (rI CMul fun i j=>.int (i * j)):=opI fun _ _ _ _ _ _ _ hc q=>mul_int q hc.ok
theorem ZBU:OpR X (binaryOp .FloorDiv) (rI CDiv fun i j=>.int (i / j)):=opI fun i j _ _ _ _ _ hc q=>by
 have h1:(0:Int) < j:=hc.1
 have h2:j < 1073741824:=hc.2
 exact floordiv_int (by omega) (by rw [Int.fdiv_eq_ediv_of_nonneg i (by omega)];exact q) (.inl (PyProof.noPylong_small (by omega)))
theorem ZA5:OpR X (binaryOp .Mod) (rI (fun _ j=>0 < j) fun i j=>.int (i % j)):=opI fun i j _ _ _ _ _ hc q=>by
 have h1:(0:Int) < j:=hc
 exact mod_int' (by omega) (by rw [Int.fmod_eq_emod_of_nonneg i (by omega)];exact q)
theorem op_pow:OpR X (binaryOp .Pow) (rI CPow fun i j=>.int (i ^ j.toNat)):=opI fun _ _ _ _ _ _ _ hc q=>pow_int_small hc.1 hc.2.1 hc.2.2 q
theorem unI {f:Value->Sem Value} {g:Int->Int}
  (rule:∀ (i:Int) (t:Tok) (s:Shared) (Q:Value->Shared->Prop) (E:Value->Shared->Prop),Q (.int (g i) s.toks) { s with toks:=s.toks+1 }->wpAny (model X.prog X.w) X.A (f (.int i t)) Q E s) :
  UnR X f (rU fun i=>.int (g i)):=by
 intro pins s σ H x v Q I rx h
 obtain ⟨i,rfl,q⟩:=h
 obtain ⟨t,rfl⟩:=rx
 exact rule i t s _ _ ⟨.int (g i),H,I.tok _,⟨_,rfl⟩,q⟩
theorem ZEh:UnR X (unaryOp .USub) (rU fun i=>.int (-i)):=unI fun _ _ _ _ _ q=>neg_int q
end
noncomputable def scal:V->V->Bool
 | .non,.non=>true | .non,.int _=>true | .int _,.non=>true | .non,.bl _=>true | .bl _,.non=>true | .non,.str _=>true | .str _,.non=>true
 | .int _,.int _=>true | .bl _,.bl _=>true | .str _,.str _=>true | .byt _,.byt _=>true
 | .int _,.str _=>true | .str _,.int _=>true | .bl _,.str _=>true | .str _,.bl _=>true
 | _,_=>false
noncomputable def rEq:R2:=fun x y H Q=>scal x y=true /\ Q (.bl (decide (x=y))) H
noncomputable def rNe:R2:=fun x y H Q=>scal x y=true /\ Q (.bl (!decide (x=y))) H
theorem dec_int {i j:Int}:decide (V.int i=V.int j)=(i == j):=by
 rw [Bool.eq_iff_iff]
 simp
theorem dec_bl {i j:Bool}:decide (V.bl i=V.bl j)=(i == j):=by
 rw [Bool.eq_iff_iff]
 simp
theorem dec_str {i j:Str}:decide (V.str i=V.str j)=(i == j):=by
 rw [Bool.eq_iff_iff]
 simp
theorem dec_byt {i j:Array UInt8}:decide (V.byt i=V.byt j)=(i.toList == j.toList):=by
 rw [Bool.eq_iff_iff]
 cases i
 cases j
 simp
section
variable {X:Cx} {a b c:Expr} {ta tb tc:TE} {pos:Pos}
theorem ZAh {pins:List (Addr×Obj)} {σ:St} {H:Hp} {s:Shared} {Q:VK} {k k':Bool} (I:Inv X pins σ H s) (q:Q (.bl k) H) (e:k=k'):EP X pins σ Q (.bool k') s:=by
 subst e
 exact ⟨.bl k,H,I,rfl,q⟩
theorem ZCu:OpR X (compareOp .Eq) rEq:=by
 intro pins s σ H x y v u Q I rx ry h
 obtain ⟨hs,q⟩:=h
 cases x with
 | non=>
  cases rx
  cases y with
  | non=>cases ry;exact PySem.EqNone.eq_none_none (ZAh I q (by simp))
  | bl j=>cases ry;exact PySem.EqNone.eq_none_bool (ZAh I q (by simp))
  | int j=>obtain ⟨t',rfl⟩:=ry;exact PySem.EqNone.eq_none_int (ZAh I q (by simp))
  | str j=>obtain ⟨t',rfl⟩:=ry;exact PySem.EqNone.eq_none_str (ZAh I q (by simp))
  | _=>exact absurd (show false=true from hs) yBE
 | bl i=>
  cases rx
  cases y with
  | non=>cases ry;exact PySem.EqNone.eq_bool_none (ZAh I q (by simp))
  | bl j=>cases ry;exact eq_bool (ZAh I q dec_bl)
  | str j=>obtain ⟨t',rfl⟩:=ry;exact PySem.EqMixed.eq_bool_str (ZAh I q (by simp))
  | _=>exact absurd (show false=true from hs) yBE
 | int i=>
  obtain ⟨t,rfl⟩:=rx
  cases y with
  | non=>cases ry;exact PySem.EqNone.eq_int_none (ZAh I q (by simp))
  | int j=>obtain ⟨t',rfl⟩:=ry;exact eq_int (ZAh I q dec_int)
  | str j=>obtain ⟨t',rfl⟩:=ry;exact PySem.EqMixed.eq_int_str (ZAh I q (by simp))
  | _=>exact absurd (show false=true from hs) yBE
 | str i=>
  obtain ⟨t,rfl⟩:=rx
  cases y with
  | non=>cases ry;exact PySem.EqNone.eq_str_none (ZAh I q (by simp))
  | bl j=>cases ry;exact PySem.EqMixed.eq_str_bool (ZAh I q (by simp))
  | int j=>obtain ⟨t',rfl⟩:=ry;exact PySem.EqMixed.eq_str_int (ZAh I q (by simp))
  | str j=>obtain ⟨t',rfl⟩:=ry;exact eq_str (ZAh I q dec_str)
  | _=>exact absurd (show false=true from hs) yBE
 | byt i=>
  obtain ⟨t,rfl⟩:=rx
  cases y with
  | byt j=>obtain ⟨t',rfl⟩:=ry;exact PySem.W.eq_bytes (ZAh I q dec_byt)
  | _=>exact absurd (show false=true from hs) yBE
 | _=>cases y <;> exact absurd (show false=true from hs) yBE
theorem op_ne:OpR X (compareOp .NotEq) rNe:=by
 intro pins s σ H x y v u Q I rx ry h
 obtain ⟨hs,q⟩:=h
 cases x with
 | non=>
  cases rx
  cases y with
  | non=>cases ry;exact PySem.EqNone.ne_none_none (ZAh I q (by simp))
  | bl j=>cases ry;exact PySem.EqNone.ne_none_bool (ZAh I q (by simp))
  | int j=>obtain ⟨t',rfl⟩:=ry;exact PySem.EqNone.ne_none_int (ZAh I q (by simp))
  | str j=>obtain ⟨t',rfl⟩:=ry;exact PySem.EqNone.ne_none_str (ZAh I q (by simp))
  | _=>exact absurd (show false=true from hs) yBE
 | bl i=>
  cases rx
  cases y with
  | non=>cases ry;exact PySem.EqNone.ne_bool_none (ZAh I q (by simp))
  | bl j=>cases ry;exact ne_bool (ZAh I q (congrArg not dec_bl))
  | str j=>obtain ⟨t',rfl⟩:=ry;exact PySem.EqMixed.ne_bool_str (ZAh I q (by simp))
  | _=>exact absurd (show false=true from hs) yBE
 | int i=>
  obtain ⟨t,rfl⟩:=rx
  cases y with
  | non=>cases ry;exact PySem.EqNone.ne_int_none (ZAh I q (by simp))
  | int j=>obtain ⟨t',rfl⟩:=ry;exact ne_int (ZAh I q (congrArg not dec_int))
  | str j=>obtain ⟨t',rfl⟩:=ry;exact PySem.EqMixed.ne_int_str (ZAh I q (by simp))
  | _=>exact absurd (show false=true from hs) yBE
 | str i=>
  obtain ⟨t,rfl⟩:=rx
  cases y with
  | non=>cases ry;exact PySem.EqNone.ne_str_none (ZAh I q (by simp))
  | bl j=>cases ry;exact PySem.EqMixed.ne_str_bool (ZAh I q (by simp))
  | int j=>obtain ⟨t',rfl⟩:=ry;exact PySem.EqMixed.ne_str_int (ZAh I q (by simp))
  | str j=>obtain ⟨t',rfl⟩:=ry;exact ne_str (ZAh I q (congrArg not dec_str))
  | _=>exact absurd (show false=true from hs) yBE
 | byt i=>
  obtain ⟨t,rfl⟩:=rx
  cases y with
  | byt j=>obtain ⟨t',rfl⟩:=ry;exact PySem.W.ne_bytes (ZAh I q (congrArg not dec_byt))
  | _=>exact absurd (show false=true from hs) yBE
 | _=>cases y <;> exact absurd (show false=true from hs) yBE
theorem ZDH:OpR X (compareOp .Lt) (rI0 fun i j=>.bl (decide (i < j))):=opB0 fun _ _ _ _ _ _ _ q=>lt_int q
theorem ZEr:OpR X (compareOp .Gt) (rI0 fun i j=>.bl (decide (j < i))):=opB0 fun _ _ _ _ _ _ _ q=>gt_int q
theorem op_ge:OpR X (compareOp .GtE) (rI0 fun i j=>.bl (decide (j <= i))):=opB0 fun _ _ _ _ _ _ _ q=>ge_int q
theorem ZEV:OpR X (compareOp .Is) (fun x y H Q=>y=.non /\ Q (.bl (decide (x=.non))) H):=by
 intro pins s σ H x y v u Q I rx ry h
 obtain ⟨rfl,q⟩:=h
 cases ry
 refine is_none_gen (ZAh I q ?_)
 cases x <;> first
  | (cases rx;rfl)
  | (obtain ⟨t,rfl⟩:=rx;rfl)
theorem ZDj:OpR X (compareOp .IsNot) (fun x y H Q=>y=.non /\ Q (.bl (!decide (x=.non))) H):=by
 intro pins s σ H x y v u Q I rx ry h
 obtain ⟨rfl,q⟩:=h
 cases ry
 refine isnot_none_gen (ZAh I q ?_)
 cases x <;> first
  | (cases rx;rfl)
  | (obtain ⟨t,rfl⟩:=rx;rfl)
theorem ZAV (b:Expr) {op:CmpOp} (h:op≠.In:=by decide) (h2:op≠.NotIn:=by decide):behindInMarks op b=false:=by
 have e1:(op == CmpOp.In)=false:=by cases op <;> first | rfl | exact absurd rfl h
 have e2:(op == CmpOp.NotIn)=false:=by cases op <;> first | rfl | exact absurd rfl h2
 cases b <;> simp [behindInMarks,e1,e2]
theorem ZCV {op:CmpOp} {r:R2} (ho:OpR X (compareOp op) r) (ha:PE X a ta) (hb:PE X b tb) (hm:behindInMarks op b=false):PE X (.Compare a [op] [b] pos) (tOp r ta tb):=by
 intro pins s σ H Q I h
 exact wpAny_Compare1 (binT ha hb I h fun v u s2 x y H2 I2 rx ry q=>ho pins s2 σ H2 x y v u Q I2 rx ry q) hm
noncomputable def ZFB (t:TE):TT:=fun σ H Q=>t σ H fun x H'=>∃ k,x=.bl k /\ Q k H'
theorem ZAS {op:CmpOp} {r:R2} (ho:OpR X (compareOp op) r) (ha:PE X a ta) (hb:PE X b tb) (hm:behindInMarks op b=false):PT X (.Compare a [op] [b] pos) (ZFB (tOp r ta tb)):=by
 intro pins s σ H Q I h
 refine wpAny_isTrue_Compare1 (thn (ha pins s σ H _ I h) fun v s1 ⟨x,H1,I1,r1,q1⟩=>thn (hb pins s1 σ H1 _ I1 q1) fun u s2 ⟨y,H2,I2,r2,q2⟩=>
  thn (ho pins s2 σ H2 x y v u _ I2 r1 r2 q2) fun c s3 ⟨z,H3,I3,r3,k,e,q3⟩=>?_) hm
 subst e
 cases r3
 exact wpAny_truthy_bool ⟨H3,I3,q3⟩
noncomputable def tChain (r r':R2) (ta tb tc:TE):TE:=fun σ H Q=>ta σ H fun x H1=>tb σ H1 fun y H2=>r x y H2 fun z H3=>∃ k,z=.bl k /\
 (if k=true then tc σ H3 fun w' H4=>r' y w' H4 Q else Q (.bl false) H3)
theorem ZEY:(sizeLine:Nat) < 2 ^ 63:=by rw [sizeLine_eq];decide
theorem ZDu {x:V} {us:List Value} (r:Vals [x] us):∃ u,us=[u] /\ RelV x u:=by
 cases r with
 | cons r1 r2=>cases r2;exact ⟨_,rfl,r1⟩
theorem ZD5 {x y:V} {us:List Value} (r:Vals [x,y] us):∃ u w',us=[u,w'] /\ RelV x u /\ RelV y w':=by
 cases r with
 | cons r1 r2=>
  cases r2 with
  | cons r3 r4=>cases r4;exact ⟨_,_,rfl,r1,r3⟩
theorem call_max2 (hc:X.calm=true):ZCN X (.builtin "max") (fun xs H Q=>∃ i j,xs=[.int i,.int j] /\ Q (.int (if j > i then j else i)) H):=by
 intro pins s σ H xs us Q I r h
 obtain ⟨i,j,rfl,q⟩:=h
 obtain ⟨u,w',rfl,⟨t,rfl⟩,⟨t',rfl⟩⟩:=ZD5 r
 refine max_two_ints (I.ok.hd hc) fun h' tk k=>⟨_,H,I.kept k,?_,q⟩
 by_cases hj:j > i
 .rw [if_pos hj,if_pos hj];exact ⟨_,rfl⟩
 .rw [if_neg hj,if_neg hj];exact ⟨_,rfl⟩
theorem ZCA (hc:X.calm=true):ZCN X (.builtin "min") (fun xs H Q=>∃ i j,xs=[.int i,.int j] /\ Q (.int (if j < i then j else i)) H):=by
 intro pins s σ H xs us Q I r h
 obtain ⟨i,j,rfl,q⟩:=h
 obtain ⟨u,w',rfl,⟨t,rfl⟩,⟨t',rfl⟩⟩:=ZD5 r
 refine min_two_ints (I.ok.hd hc) fun h' tk k=>⟨_,H,I.kept k,?_,q⟩
 by_cases hj:j < i
 .rw [if_pos hj,if_pos hj];exact ⟨_,rfl⟩
 .rw [if_neg hj,if_neg hj];exact ⟨_,rfl⟩
end
structure ObjM (h:Heap) (x dx C:Addr) (mA:Str->Option Value):Prop where
 obj:h.get? x=some (PySem.W.instObj C dx)
 ns:h.Ns1 dx mA
 ne:dx≠x
theorem ZC8 {h:Heap} {dx:Addr} {mA:Str->Option Value} (n:h.Ns1 dx mA):∃ od,h.get? dx=some od /\ ∀ name,PySem.W.lookIn name od=some (mA name):=by
 obtain ⟨o,es,ep,ho,hd,hk,_,hm⟩:=n
 refine ⟨o,ho,fun name=>?_⟩
 have e:=hm name
 unfold nsFind findBy at e
 rw [<- Array.find?_toList] at e
 unfold PySem.W.lookIn
 rw [hd]
 dsimp only
 split
 .rename_i y q
  rw [q] at e
  exact congrArg some e
 .rename_i q
  rw [q] at e
  have a:es.toList.any (·.refKey)=false:=by
   rw [List.any_eq_false]
   intro y hy
   obtain ⟨z,t,hkey⟩:=hk y (Array.mem_toList_iff.mp hy)
   simp [DictEntry.refKey,hkey]
  have a':¬ es.toList.any (·.refKey)=true:=by rw [a];exact yBE
  rw [if_neg a']
  exact congrArg some e
theorem ObjM.look {h:Heap} {x dx C:Addr} {mA:Str->Option Value} (I:ObjM h x dx C mA):∃ od,PySem.W.InstAt h x (PySem.W.instObj C dx) C (some od) /\ ∀ name,PySem.W.lookIn name od=some (mA name) :=
 let ⟨od,ho,hl⟩:=ZC8 I.ns
 ⟨od,⟨I.obj,rfl,rfl,ho⟩,hl⟩
section
variable {prog:Program} {w:World} {A:Around} {E:Value->Shared->Prop} {s:Shared} {K:W.Frag} {x dx C f:Addr} {mA:Str->Option Value} {name:Str} {v:Value}
theorem get_map {expr:Bool} {Q:Value->Shared->Prop} (X:K.In s.heap) (I:ObjM s.heap x dx C mA) (hg:PySem.W.plainGet K C name=true) (hh:PySem.W.hasDictIn K C=true)
  (ha:W.findIn K (.ref C) name=some none) (hv:mA name=some v) (hv':PySem.W.handedIn v=true) (h:Q v { s with toks:=s.toks+1 }) :
  wpAny (model prog w) A (getAttr (.ref x) name expr) Q E s:=by
 obtain ⟨od,J,hl⟩:=I.look
 exact PySem.W.get_value X J (PySem.W.plainGet_of hg).1 (PySem.W.findObj_own hh ha rfl (by rw [hl,hv])) hv' h
theorem get_meth {pl:Sem Bool} {Q:Value×List Value->Shared->Prop} (X:K.In s.heap) (I:ObjM s.heap x dx C mA) (hg:PySem.W.plainGet K C name=true)
  (hf:W.findIn K (.ref C) name=some (some (.ref f))) (ht:PySem.W.isFn K (.ref f)=true) (hv:mA name=none) (h:Q (.ref f,[.ref x]) s) :
  wpAny (model prog w) A (getMethod (.ref x) name pl) Q E s:=by
 obtain ⟨od,J,hl⟩:=I.look
 exact PySem.W.method_fn X J (PySem.W.plainGet_of hg).1 (PySem.W.plainGet_of hg).2 hf (beq_iff_eq.mp ht) (by show (PySem.W.lookIn name od).map (·.isSome)=some false;rw [hl,hv];rfl) h
theorem set_map {ns:List Str} {Q:Unit->Shared->Prop} (X:K.In s.heap) (I:ObjM s.heap x dx C mA)
  (hs:W.findIn K (.ref C) "__setattr__"=some (some (.builtin "object.__setattr__"))) (hp:PySem.W.plainOver K C=true) (ht:PySem.W.takerIn K C name=some none) (hh:PySem.W.hasDictIn K C=true)
  (hw:PySem.Within mA ns) (hsz:ns.length <= sizeLine)
  (h:∀ h',ObjM h' x dx C (fun y=>if y=name then some v else mA y)->Heap.SameBut dx s.heap h'->Q () { s with heap:=h',toks:=s.toks+2 }) :
  wpAny (model prog w) A (setAttr (.ref x) name v) Q E s:=by
 obtain ⟨od,J,hl⟩:=I.look
 refine PySem.W.set_plain X J hs (PySem.W.osa_open (s:={ s with toks:=s.toks+1 }) (r:=none) X J hp ht fun b=>?_)
 obtain ⟨cd,hc,hd'⟩:=PySem.W.any_some hh
 have hx:s.heap.get? x=some ⟨.ref C,some dx,.plain,#[]⟩:=I.obj
 refine wpAny_bind (wpAny_pure (wpAny_bind (wpAny_bind (wpAny_loadPart hx (wpAny_bind (PySem.W.Looks.here (s:={ s with toks:=s.toks+1 }) (PySem.W.looks_clsIn X hc) ?_))))))
 rw [hd']
 refine wpAny_pure (a:=some dx) (wpAny_bind (wpAny_pure (wpAny_bind ?_)))
 refine wpAny_nsSet1 (s:={ s with toks:=s.toks+1 }) I.ns fun h' hn2 hs2=>?_
 obtain ⟨oD,esD,epD,hoD,hdD,hcD⟩:=hn2.count (PySem.Within.cons name v hw)
 refine wpAny_bind (wpAny_lookBehind hoD (by rw [hdD];exact pastItsLine_dict (yAK hcD (by rw [yAG];omega))) ?_)
 exact wpAny_pure (h _ ⟨(hs2.2 _ (Ne.symm I.ne)).trans I.obj,hn2,I.ne⟩ hs2)
theorem make_map {R:Result->Shared->Prop} {vs:List Value} {kw:List (Str×Value)} (X:K.In s.heap) (hm:PySem.W.makesIn K C=true)
  (hi:W.findIn K (.ref C) "__init__"=some (some (.ref f))) (hf:PySem.W.typeIn K (.ref f)=some (.type "function"))
  (h:codeAny (model prog w) (A.under (.builtin "type.__call__" ⟨.ref C::vs,kw⟩)) (.call (.ref f) ⟨.ref (s.heap.objs.size+1)::vs,kw⟩) (PySem.W.InitBack (s.heap.objs.size+1) R)
   { s with heap:=(s.heap.push PySem.W.emptyDict).push (PySem.W.instObj C s.heap.objs.size) }) :
  codeAny (model prog w) A (.call (.ref C) ⟨vs,kw⟩) R s:=by
 obtain ⟨hh,g,d,t,os⟩:=s
 exact PySem.W.make_core (PySem.W.makes_of X hm) (PySem.W.looks_findIn X hi) (fun self=>PySem.W.bind_fn X self hf) (.inl rfl) h
end
noncomputable def putF (f:Str) (v:V):List (Str×V)->List (Str×V)
 | []=>[(f,v)]
 | (g,x)::r=>if g=f then (g,v)::r else (g,x)::putF f v r
theorem ZAW (f g:Str) (v:V):∀ fs:List (Str×V),(putF f v fs).lookup g=if g=f then some v else fs.lookup g
 | []=>by
  show List.lookup g [(f,v)]=_
  by_cases h:g=f
  .have hb:(g == f)=true:=beq_iff_eq.mpr h
   simp only [List.lookup,hb,if_pos h]
  .have hb:(g == f)=false:=beq_eq_false_iff_ne.mpr h
   simp only [List.lookup,hb,if_neg h]
 | (k,x)::r=>by
  have ih:=ZAW f g v r
  rw [show putF f v ((k,x)::r)=(if k=f then (k,v)::r else (k,x)::putF f v r) from rfl]
  by_cases hk:k=f
  .rw [if_pos hk]
   by_cases h:g=k
   .have hb:(g == k)=true:=beq_iff_eq.mpr h
    simp only [List.lookup,hb,if_pos (h.trans hk)]
   .have hb:(g == k)=false:=beq_eq_false_iff_ne.mpr h
    simp only [List.lookup,hb,if_neg (fun e:g=f=>h (e.trans hk.symm))]
  .rw [if_neg hk]
   by_cases h:g=k
   .have hb:(g == k)=true:=beq_iff_eq.mpr h
    simp only [List.lookup,hb,if_neg (fun e:g=f=>hk (h.symm.trans e))]
   .have hb:(g == k)=false:=beq_eq_false_iff_ne.mpr h
    simp only [List.lookup,hb]
    exact ih
theorem ZDB (f:Str) (v:V):∀ fs:List (Str×V),f∈(putF f v fs).map (·.1) /\ ∀ g,g∈fs.map (·.1)->g∈(putF f v fs).map (·.1)
 | []=>⟨by simp [putF],fun g h=>by simp at h⟩
 | (k,x)::r=>by
  obtain ⟨i1,i2⟩:=ZDB f v r
  rw [show putF f v ((k,x)::r)=(if k=f then (k,v)::r else (k,x)::putF f v r) from rfl]
  by_cases hk:k=f
  .rw [if_pos hk]
   subst hk
   exact ⟨by simp,fun g h=>by simpa using h⟩
  .rw [if_neg hk]
   refine ⟨?_,fun g h=>?_⟩
   .rw [yAY]
    exact yAD _ i1
   .rw [yAY] at h ⊢
    rcases yAE.mp h with e | e
    .exact yAE.mpr (.inl e)
    .exact yAD _ (i2 g e)
theorem ZCY (f:Str) (v:V):∀ fs:List (Str×V),(putF f v fs).length <= fs.length+1
 | []=>by simp [putF]
 | (k,x)::r=>by
  have ih:=ZCY f v r
  rw [show putF f v ((k,x)::r)=(if k=f then (k,v)::r else (k,x)::putF f v r) from rfl]
  by_cases hk:k=f
  .rw [if_pos hk,yAG,yAG];omega
  .rw [if_neg hk,yAG,yAG];omega
theorem RelO.some_of {v:V} {o:Option Value} (r:RelO (some v) o):∃ u,o=some u /\ RelV v u:=by
 cases o with
 | none=>exact (show False from r).elim
 | some u=>exact ⟨u,rfl,r⟩
theorem RelO.none_of {o:Option Value} (r:RelO none o):o=none:=by
 cases o with
 | none=>rfl
 | some u=>exact (show False from r).elim
theorem handed_of {v:V} {u:Value} (r:RelV v u):PySem.W.handedIn u=true:=by
 cases v with
 | non=>cases (show u=Value.none from r);rfl
 | bl b=>cases (show u=Value.bool b from r);rfl
 | int i=>obtain ⟨t,e⟩:=(show ∃ t,u=Value.int i t from r);cases e;rfl
 | str x=>obtain ⟨t,e⟩:=(show ∃ t,u=Value.str x t from r);cases e;rfl
 | byt b=>obtain ⟨t,e⟩:=(show ∃ t,u=Value.bytes b t from r);cases e;rfl
 | flt b=>obtain ⟨t,e⟩:=(show ∃ t,u=Value.float b t from r);cases e;rfl
 | ref a=>cases (show u=Value.ref a from r);rfl
 | ty n=>cases (show u=Value.type n from r);rfl
section
variable {P:Program} {w:World} {H H':Hp} {h h':Heap} {a C dx:Addr} {fs fs':List (Str×V)}
theorem ZEK (hok:HOk P w H h) (e:H a=some (.ins C dx fs)):∃ mA,ObjM h a dx C mA /\ (∀ f,RelO (fs.lookup f) (mA f)) /\ PySem.Within mA (fs.map (·.1)) /\ fs.length <= 1000 /\ H dx=some (.own a):=by
 obtain ⟨d,z,ne,ob,mA,n,r,q⟩:=(show ObjOk P w H h a (.ins C dx fs) from hok a _ e)
 exact ⟨mA,⟨ob,n,ne⟩,r,q,z,d⟩
end
structure Cls (K:W.Frag) (C:Addr):Prop where
 pg:PySem.W.plainGet K C Str.empty=true
 hd:PySem.W.hasDictIn K C=true
 po:PySem.W.plainOver K C=true
 sa:W.findIn K (.ref C) "__setattr__"=some (some (.builtin "object.__setattr__"))
theorem Cls.get {K:W.Frag} {C:Addr} (c:Cls K C) (f:Str):PySem.W.plainGet K C f=true:=c.pg
noncomputable def NoAttr (K:W.Frag) (C:Addr) (f:Str):Prop:=W.findIn K (.ref C) f=some none
theorem NoAttr.taker {K:W.Frag} {C:Addr} {f:Str} (n:NoAttr K C f):PySem.W.takerIn K C f=some none:=by
 unfold PySem.W.takerIn
 rw [show W.findIn K (.ref C) f=some none from n]
 rfl
structure Meth (K:W.Frag) (C:Addr) (m:Str) (f:Addr):Prop where
 at_:W.findIn K (.ref C) m=some (some (.ref f))
 fn:PySem.W.isFn K (.ref f)=true
 kp:W.keepIn K (.ref f)=true
section
variable {X:Cx} {pins:List (Addr×Obj)} {σ:St} {H:Hp} {s:Shared} {a C dx:Addr} {fs:List (Str×V)} {f:Str} {v:V} {A:Around} {E:Value->Shared->Prop}
theorem getattr_ok {b:Bool} {Q:Value->Shared->Prop} (I:Inv X pins σ H s) (e:H a=some (.ins C dx fs)) (c:Cls X.K C) (n:NoAttr X.K C f) (l:fs.lookup f=some v)
  (h:∀ u s',Inv X pins σ H s'->RelV v u->Q u s'):wpAny (model X.prog X.w) A (getAttr (.ref a) f b) Q E s:=by
 obtain ⟨mA,O,r,_,_,_⟩:=ZEK I.hok e
 obtain ⟨u,hu,ru⟩:=RelO.some_of (v:=v) (o:=mA f) (by rw [<- l];exact r f)
 exact get_map I.kIn O (c.get f) c.hd n hu (handed_of ru) (h u _ (I.tok _) ru)
theorem ZCw {m:Str} {g:Addr} {pl:Sem Bool} {Q:Value×List Value->Shared->Prop} (I:Inv X pins σ H s) (e:H a=some (.ins C dx fs)) (c:Cls X.K C) (k:Meth X.K C m g) (l:fs.lookup m=none)
  (h:Q (.ref g,[.ref a]) s):wpAny (model X.prog X.w) A (getMethod (.ref a) m pl) Q E s:=by
 obtain ⟨mA,O,r,_,_,_⟩:=ZEK I.hok e
 have hn:mA m=none:=RelO.none_of (by rw [<- l];exact r m)
 exact get_meth I.kIn O (c.get m) k.at_ k.fn hn h
theorem setattr_ok {y:V} {u:Value} {Q:Unit->Shared->Prop} (I:Inv X pins σ H s) (e:H a=some (.ins C dx fs)) (c:Cls X.K C) (n:NoAttr X.K C f) (hl:fs.length < 1000) (ry:RelV y u)
  (h:∀ s',Inv X pins σ (upd H a (.ins C dx (putF f y fs))) s'->Q () s'):wpAny (model X.prog X.w) A (setAttr (.ref a) f u) Q E s:=by
 obtain ⟨mA,O,r,wi,_,ho⟩:=ZEK I.hok e
 have hz:(fs.map (·.1)).length <= sizeLine:=by rw [yAC,sizeLine_eq];omega
 refine set_map I.kIn O c.sa c.po n.taker c.hd wi hz fun h' O' sb=>h _ ?_
 have hd:∃ o,h'.get? dx=some o:=let ⟨o,_,_,e',_⟩:=O'.ns;⟨o,e'⟩
 refine I.write (x:=a) (e:=dx) (by rw [e];exact True.intro) (.inr ho) (fun b q hb z=>(sb.2 b hb).trans z) hd ?_
 refine ⟨by rw [ZAI O.ne];exact ho,?_,O.ne,O'.obj,_,O'.ns,fun g=>?_,fun g hg=>?_⟩
 .have:=ZCY f y fs;omega
 .show RelO ((putF f y fs).lookup g) (if g=f then some u else mA g)
  rw [ZAW]
  by_cases q:g=f
  .rw [if_pos q,if_pos q];exact ry
  .rw [if_neg q,if_neg q];exact r g
 .by_cases q:g=f
  .rw [q];exact (ZDB f y fs).1
  .refine (ZDB f y fs).2 g (wi g fun z=>hg ?_)
   show (if g=f then some u else mA g)=none
   rw [if_neg q];exact z
theorem Inv.made (I:Inv X pins σ H s):Inv X pins σ (upd (upd H s.heap.objs.size (.own (s.heap.objs.size+1))) (s.heap.objs.size+1) (.ins C s.heap.objs.size []))
  { s with heap:=(s.heap.push PySem.W.emptyDict).push (PySem.W.instObj C s.heap.objs.size) }:=by
 have e1:(s.heap.push PySem.W.emptyDict).get? s.heap.objs.size=some PySem.W.emptyDict:=Heap.get?_push_size s.heap rfl
 have e2:((s.heap.push PySem.W.emptyDict).push (PySem.W.instObj C s.heap.objs.size)).get? (s.heap.objs.size+1)=some (PySem.W.instObj C s.heap.objs.size):=by
  have:=Heap.get?_push_size (s.heap.push PySem.W.emptyDict) (o:=PySem.W.instObj C s.heap.objs.size) rfl
  rwa [Heap.size_push] at this
 have e3:(s.heap.push PySem.W.emptyDict).Ns s.heap.objs.size (fun _=>none):=⟨PySem.W.emptyDict,#[],_,e1,rfl,(fun e he=>absurd he (by simp)),fun _=>rfl⟩
 have I1:=I.laid (a:=s.heap.objs.size) (o:=.own (s.heap.objs.size+1)) (h':=s.heap.push PySem.W.emptyDict) (t':=s.toks) (fun b u q=>Heap.get?_push_of_some _ q) (yAA _) ⟨_,e1⟩
 refine I1.laid (a:=s.heap.objs.size+1) (o:=.ins C s.heap.objs.size []) (t':=s.toks) (fun b u q=>Heap.get?_push_of_some _ q) (Nat.le_of_eq (Heap.size_push _ _)) ?_
 have ne:s.heap.objs.size≠s.heap.objs.size+1:=yAU (yBW _)
 refine ⟨by rw [ZAI ne,ZAG],yAI _,ne,e2,fun _=>none,(Heap.Ns1.of_empty e3).at fun o q=>Heap.get?_push_of_some _ q,fun _=>True.intro,fun y hy=>absurd rfl hy⟩
theorem attr_of {prog:Program} {w:World} {env:Env} {e:Expr} {f:Str} {pos:Pos} {s:Shared} {Q:Value->Shared->Prop} (hb:attributeBase e f env (eval e env)=eval e env)
  (h:wpAny (model prog w) A (eval e env) (fun o s₁=>wpAny (model prog w) A (getAttr o f true) Q E s₁) E s):wpAny (model prog w) A (eval (.Attribute e f pos) env) Q E s :=
 Attribute_any_ h (by rw [arm_eval_Attribute,hb])
end
noncomputable def tFld (K:W.Frag) (ta:TE) (f:Str):TE:=fun σ H Q=>ta σ H fun x H1=>∃ a C dx fs v,x=.ref a /\ H1 a=some (.ins C dx fs) /\ Cls K C /\ NoAttr K C f /\ fs.lookup f=some v /\ Q v H1
noncomputable def sFld (K:W.Frag) (ta tv:TE) (f:Str):TS:=fun D σ H=>tv σ H fun y H1=>ta σ H1 fun x H2=>∃ a C dx fs,x=.ref a /\ H2 a=some (.ins C dx fs) /\ Cls K C /\ NoAttr K C f /\ fs.length < 1000 /\
 D.nx σ (upd H2 a (.ins C dx (putF f y fs)))
noncomputable def InOp (X:Cx) (op:Operator) (rd:V->V->Hp->VK->Prop):Prop :=
 ∀ (pins:List (Addr×Obj)) (s:Shared) (σ:St) (H:Hp) (x y:V) (u v:Value) (Q:VK),Inv X pins σ H s->RelV x u->RelV y v->rd x y H Q->wpAny (model X.prog X.w) X.A (inplaceOp op u v) (EP X pins σ Q) X.xe s
noncomputable def sFldAug (K:W.Frag) (ta tv:TE) (rd:V->V->Hp->VK->Prop) (f:Str):TS:=fun D σ H=>ta σ H fun x H1=>∃ a C dx fs v,x=.ref a /\ H1 a=some (.ins C dx fs) /\ Cls K C /\ NoAttr K C f /\ fs.lookup f=some v /\
 tv σ H1 fun y H2=>rd v y H2 fun z H3=>∃ dx' fs',H3 a=some (.ins C dx' fs') /\ fs'.length < 1000 /\ D.nx σ (upd H3 a (.ins C dx' (putF f z fs')))
section
variable {X:Cx} {o e value:Expr} {f:Str} {pos pos' tpos:Pos} {ta tv:TE}
theorem ZAN (he:PE X e ta) (hb:attributeBase e f X.env (eval e X.env)=eval e X.env):PE X (.Attribute e f pos) (tFld X.K ta f):=by
 intro pins s σ H Q I h
 refine attr_of hb (thn (he pins s σ H _ I h) fun u s1 zz=>?_)
 obtain ⟨x,H1,I1,rx,a,C,dx,fs,v,ex,ea,c,n,l,q⟩:=zz
 subst ex
 obtain rfl:u=Value.ref a:=rx
 exact getattr_ok I1 ea c n l fun u' s2 I2 ru=>⟨v,H1,I2,ru,q⟩
theorem ZBE (ha:PE X o ta) (hv:PE X value tv) (hs:swapsWith value (some (.Attribute o f pos')) pos.line X.env=pure false):PS X (.Assign [.Attribute o f pos'] value pos) (sFld X.K ta tv f):=by
 intro pins s σ H D I h
 refine plainObj_wpAny_Assign_Attribute (thn (hv pins s σ H _ I h) fun u s1 ⟨y,H1,I1,ry,q⟩=>thn (ha pins s1 σ H1 _ I1 q) fun ov s2 zz=>?_) hs
 obtain ⟨x,H2,I2,rx,a,C,dx,fs,ex,ea,c,n,l,q2⟩:=zz
 subst ex
 obtain rfl:ov=Value.ref a:=rx
 exact setattr_ok I2 ea c n l ry fun s3 I3=>⟨σ,_,I3,q2⟩
theorem ps_fldaug {op:Operator} {rd:V->V->Hp->VK->Prop} (ha:PE X o ta) (hv:PE X value tv) (hop:InOp X op rd):PS X (.AugAssign (.Attribute o f tpos) op value pos) (sFldAug X.K ta tv rd f):=by
 intro pins s σ H D I h
 refine wpAny_AugAssign_AttributeAny (thn (ha pins s σ H _ I h) fun ov s1 zz=>?_)
 obtain ⟨x,H1,I1,rx,a,C,dx,fs,v,ex,ea,c,n,l,q⟩:=zz
 subst ex
 obtain rfl:ov=Value.ref a:=rx
 refine getattr_ok I1 ea c n l fun u s2 I2 ru=>thn (hv pins s2 σ H1 _ I2 q) fun w3 s3 ⟨y,H2,I3,ry,q3⟩=>thn (hop pins s3 σ H2 v y u w3 _ I3 ru ry q3) fun w4 s4 zz=>?_
 obtain ⟨z,H3,I4,rz,dx',fs',ea',l',q4⟩:=zz
 exact setattr_ok I4 ea' c n l' rz fun s5 I5=>⟨σ,_,I5,q4⟩
noncomputable def rAdd:V->V->Hp->VK->Prop:=fun x y H Q=>∃ i j,x=.int i /\ y=.int j /\ Q (.int (i+j)) H
theorem in_add:InOp X .Add rAdd:=by
 rintro pins s σ H x y u v Q I rx ry ⟨i,j,rfl,rfl,q⟩
 obtain ⟨t,rfl⟩:=(show ∃ t,u=Value.int i t from rx)
 obtain ⟨t',rfl⟩:=(show ∃ t',v=Value.int j t' from ry)
 exact PyProof.Rows.iadd_int ⟨.int (i+j),H,I.tok _,⟨_,rfl⟩,q⟩
end
section
variable {X:Cx} {pins:List (Addr×Obj)} {σ:St} {H:Hp} {s:Shared} {A:Around} {E:Value->Shared->Prop} {Q:Value->Shared->Prop} {c:Value} {b:Bool}
end
structure Room (k:Nat) (A:Around):Prop where
 hd:A.handled=none
 dp:A.depth+3 * k+5 < recursionLimit
 un:A.units+16 * k+200 < cLine
 gd:A.guards=some []
theorem Room.mono {j k:Nat} {A:Around} (r:Room k A) (h:j <= k):Room j A:=⟨r.hd,by have:=r.dp;omega,by have:=r.un;omega,r.gd⟩
theorem Room.deeper {k:Nat} {A:Around} (r:Room (k+1) A) (env:Env):Room k (A.deeper env) :=
 ⟨r.hd,by have:=r.dp;show A.depth+1+3 * k+5 < _;omega,by have:=r.un;show A.units+3+16 * k+200 < _;omega,r.gd⟩
theorem make_depth {A:Around} {C:Addr} {us:List Value} {kw:List (Str×Value)}:(A.under (.builtin "type.__call__" ⟨.ref C::us,kw⟩)).depth=A.depth+1:=by
 first | rfl | simp [Around.under,Code.weight,Code.isCreation,Code.isGuard,Code.isCaller,Code.frames,Code.isFrame,guardIds]
theorem make_units {A:Around} {C:Addr} {us:List Value} {kw:List (Str×Value)}:(A.under (.builtin "type.__call__" ⟨.ref C::us,kw⟩)).units=A.units+1:=by
 first | rfl | simp [Around.under,Code.cUnits,Code.frames,Code.isFrame]
theorem Room.make {k:Nat} {A:Around} (r:Room (k+1) A) (C:Addr) (us:List Value) (kw:List (Str×Value)):Room k (A.under (.builtin "type.__call__" ⟨.ref C::us,kw⟩)) :=
 ⟨r.hd,by have:=r.dp;rw [make_depth];omega,by have:=r.un;rw [make_units];omega,by have:=r.gd;first | exact this | simp [Around.under,Code.guards,Code.isGuard,guardIds,this]⟩
theorem Room.depth {k:Nat} {A:Around} (r:Room k A):A.depth < recursionLimit:=by have:=r.dp;omega
theorem Room.units {k:Nat} {A:Around} (r:Room k A):A.units+64 < cLine:=by have:=r.un;omega
noncomputable def tNil:TA:=fun _ H Q=>Q [] H
noncomputable def ZBx (ta:TE) (tr:TA):TA:=fun σ H Q=>ta σ H fun x H1=>tr σ H1 fun xs H2=>Q (x::xs) H2
section
variable {X:Cx} {e:Expr} {es:List Expr} {te:TE} {t:TA} {pos:Pos}
theorem ZAD:PA X [] tNil:=fun _ _ _ _ H Q I h=>Calls.spliced_nil ⟨[],H,I,.nil,h⟩
theorem ZAA (ha:PE X e te) (hr:PA X es t) (hs:starEach (e::es) X.env=(false,eval e X.env)::starEach es X.env:=by rfl):PA X (e::es) (ZBx te t):=by
 intro pos pins s σ H Q I h
 rw [hs]
 show wpAny _ _ (spliced ((false,eval e X.env)::backTo pos (starEach es X.env))) _ _ s
 refine Calls.spliced_cons (thn (ha pins s σ H _ I h) fun u s1 zz=>?_)
 obtain ⟨x,H1,I1,r1,q1⟩:=zz
 exact thn (hr pos pins s1 σ H1 _ I1 q1) fun us s2 ⟨xs,H2,I2,r2,q2⟩=>⟨x::xs,H2,I2,.cons r1 r2,q2⟩
noncomputable def tTup (t:TA):TE:=fun σ H Q=>t σ H fun xs H1=>xs.length <= sizeLine /\ ∀ p,H1 p=none->Q (.ref p) (upd H1 p (.tup xs))
noncomputable def tLst (t:TA):TE:=fun σ H Q=>t σ H fun xs H1=>xs.length <= sizeLine /\ ∀ p,H1 p=none->Q (.ref p) (upd H1 p (.lst xs))
theorem ZBJ {x1} (h:PA X es t):PE X (.Tuple es x1 pos) (tTup t):=by
 intro pins s σ H Q I hq
 refine wpAny_Tuple_spliced (thn (h pos pins s σ H _ I hq) fun us s1 ⟨xs,H1,I1,r,z,q⟩=>⟨by rw [<- r.length];exact z,?_⟩)
 have hf:H1 s1.heap.objs.size=none:=I1.hok.fresh (yAA _)
 refine ⟨.ref s1.heap.objs.size,upd H1 s1.heap.objs.size (.tup xs),I1.laid (t':=s1.toks) (fun b u e=>Heap.get?_push_of_some _ e) (yAA _) ?_,rfl,q _ hf⟩
 exact ⟨z,us,r,⟨_,Heap.get?_push_size _ rfl,rfl,_,rfl⟩⟩
theorem ZBK (h:PA X es t):PE X (.List es pos) (tLst t):=by
 intro pins s σ H Q I hq
 refine wpAny_List_spliced (thn (h pos pins s σ H _ I hq) fun us s1 ⟨xs,H1,I1,r,z,q⟩=>⟨by rw [<- r.length];exact z,?_⟩)
 have hf:H1 s1.heap.objs.size=none:=I1.hok.fresh (yAA _)
 refine ⟨.ref s1.heap.objs.size,upd H1 s1.heap.objs.size (.lst xs),I1.laid (t':=s1.toks) (fun b u e=>Heap.get?_push_of_some _ e) (yAA _) ?_,rfl,q _ hf⟩
 exact ⟨z,us,0,r,Heap.get?_push_size _ rfl⟩
end
noncomputable abbrev Sp:=List V->Hp->VK->XK->Prop
noncomputable abbrev CXT:=List Env->Hp->Shared->XK->Value->Shared->Prop
structure Env0 (P:Program) (w:World) (K:W.Frag) (mg:Str->Option Value) (base:Heap) (A:Around) (outer:List Env) (s:Shared) (H:Hp):Prop where
 frames:A.frames=some outer
 mod:Mod K mg base
 bs:∀ b o,base.get? b=some o->s.heap.get? b=some o /\ H b=none
 bsz:base.objs.size <= s.heap.objs.size
 funs:s.heap.FunFrames base outer
 frf:∀ b∈frs outer,H b=none
 hok:HOk P w H s.heap
 bare:AllBare s.gens
noncomputable def CE (outer:List Env) (P:Program) (w:World) (H:Hp) (s:Shared) (Q:VK) (u:Value) (s':Shared):Prop :=
 ∃ v H',s'.os=s.os /\ AllBare s'.gens /\ Un (frs outer) [] H H' s.heap s'.heap /\ HOk P w H' s'.heap /\ RelV v u /\ Q v H'
noncomputable def CR (CX:CXT) (outer:List Env) (P:Program) (w:World) (H:Hp) (s:Shared) (Q:VK) (E:XK) (r:Result) (s':Shared):Prop :=
 match r with
 | .ok (.ret u)=>CE outer P w H s Q u s'
 | .ok _=>False
 | .error e=>CX outer H s E e s'
structure FnOk (P:Program) (w:World) (K:W.Frag) (mg:Str->Option Value) (base:Heap) (CX:CXT) (k:Nat) (f:Addr) (fd:FuncData) (ps:List Str) (sp:Sp):Prop where
 len:∀ vs H Q E,sp vs H Q E->vs.length=ps.length
 run:∀ (A:Around) (outer:List Env) (s:Shared) (H:Hp) (args:Args) (us:List Value) (vs:List V) (Q:VK) (E:XK),Room k A->Env0 P w K mg base A outer s H->BindsTo s fd args (ps.zip us)->Vals vs us->sp vs H Q E ->
  codeAny (model P w) A (.call (.ref f) args) (CR CX outer P w H s Q E) s
theorem Env0.make {P:Program} {w:World} {K:W.Frag} {mg:Str->Option Value} {base:Heap} {A:Around} {outer:List Env} {s:Shared} {H:Hp} (e:Env0 P w K mg base A outer s H) (C:Addr) (us:List Value) (kw:List (Str×Value)) :
  Env0 P w K mg base (A.under (.builtin "type.__call__" ⟨.ref C::us,kw⟩)) outer s H:=⟨by first | exact e.frames | (simpa [Around.under,Code.envs,Code.isFrame,pushEnvs] using e.frames),e.mod,e.bs,e.bsz,e.funs,e.frf,e.hok,e.bare⟩
section
variable {X:Cx} {pins:List (Addr×Obj)} {σ:St} {H:Hp} {s s':Shared}
theorem Inv.env0 (I:Inv X pins σ H s):Env0 X.prog X.w X.K X.mg X.base X.A X.stack s H :=
 ⟨I.ok.frames,I.ok.mod,I.bs,yAK I.ok.bsz I.sz,I.stack,I.stkFree,I.hok,I.bare⟩
theorem Inv.after {Q:VK} {u:Value} (I:Inv X pins σ H s) (h:CE X.stack X.prog X.w H s Q u s'):EP X pins σ Q u s':=by
 obtain ⟨v,H',os,bare,un,hok,r,q⟩:=h
 obtain ⟨hh,g,d,t,os'⟩:=s'
 obtain rfl:os'=s.os:=os
 exact ⟨v,H',I.call (h':=hh) (g':=g) (d':=d) (t':=t) (ch:=[]) un hok bare (fun b z=>absurd z (by simp)),r,q⟩
end
noncomputable def ZE1 (sp:Sp) (dvs:List V) (E:XK) (t:TA):TE:=fun σ H Q=>t σ H fun vs H1=>sp (vs++dvs) H1 Q E
noncomputable def ZEe (C:Addr) (m:Str) (sp:Sp) (dvs:List V) (E:XK) (ta:TE) (t:TA):TE:=fun σ H Q=>ta σ H fun x H1=>∃ a dx fs,x=.ref a /\ H1 a=some (.ins C dx fs) /\ fs.lookup m=none /\
 t σ H1 fun vs H2=>sp (x::(vs++dvs)) H2 Q E
noncomputable def ZEj (C:Addr) (sp:Sp) (dvs:List V) (E:XK) (t:TA):TE:=fun σ H Q=>t σ H fun vs H1=>∀ x dx,H1 x=none->H1 dx=none->dx≠x ->
 sp (.ref x::(vs++dvs)) (upd (upd H1 dx (.own x)) x (.ins C dx [])) (fun v H2=>v=.non /\ Q (.ref x) H2) E
noncomputable def Binds (K:W.Frag) (fd:FuncData) (ps:List Str) (ds:List Value):Prop :=
 ∀ (s:Shared) (us:List Value),K.In s.heap->(us++ds).length=ps.length->BindsTo s fd ⟨us,[]⟩ (ps.zip (us++ds))
theorem Binds.all {K:W.Frag} {fd:FuncData} {ps:List Str} (h:∀ us:List Value,us.length=ps.length->bindArgs fd ⟨us,[]⟩=pure (ps.zip us)):Binds K fd ps []:=fun s us _ hl=>by
 rw [yAQ] at hl ⊢
 exact .of_eq (h us hl)
noncomputable def ZBH (CX:CXT) (X:Cx) (E:XK):Prop:=∀ (pins:List (Addr×Obj)) (σ:St) (H:Hp) (s:Shared) (e:Value) (s':Shared),Inv X pins σ H s->CX X.stack H s E e s'->X.xe e s'
section
variable {X:Cx} {CX:CXT} {k:Nat} {f C:Addr} {fd:FuncData} {ps:List Str} {sp:Sp} {dvs:List V} {ds:List Value} {E:XK} {x m:Str} {p pos apos:Pos} {e o:Expr} {es:List Expr} {ta:TE} {t:TA}
theorem ZER {pins:List (Addr×Obj)} {σ:St} {H:Hp} {s:Shared} {Q:VK} {us:List Value} {vs:List V} (F:FnOk X.prog X.w X.K X.mg X.base CX k f fd ps sp) (hr:Room k X.A) (hb:Binds X.K fd ps ds) (hd:Vals dvs ds) (hx:ZBH CX X E)
  (I:Inv X pins σ H s) (r:Vals vs us) (h:sp (vs++dvs) H Q E):wpAny (model X.prog X.w) X.A (call (.ref f) us) (EP X pins σ Q) X.xe s:=by
 have r2:Vals (vs++dvs) (us++ds):=r.append hd
 have hl:(us++ds).length=ps.length:=by rw [<- r2.length];exact F.len _ _ _ _ h
 refine wpAny_call (codeAny_mono (F.run X.A X.stack s H ⟨us,[]⟩ (us++ds) (vs++dvs) Q E hr I.env0 (hb s us I.kIn hl) r2 h) fun r s' hq=>?_)
 cases r with
 | error e=>exact hx pins σ H s e s' I hq
 | ok fl=>
  cases fl with
  | ret u=>exact I.after hq
  | next=>exact False.elim hq
  | brk=>exact False.elim hq
  | cont=>exact False.elim hq
theorem pe_call (F:FnOk X.prog X.w X.K X.mg X.base CX k f fd ps sp) (hr:Room k X.A) (hg:Gl X x) (hm:X.mg x=some (.ref f)) (hk:W.keepIn X.K (.ref f)=true) (hb:Binds X.K fd ps ds) (hd:Vals dvs ds) (hx:ZBH CX X E)
  (ha:PA X (e::es) t) (hdb:(x == ("__debug__":Str))=false:=by decide) (he:starEach (e::es) X.env=(false,eval e X.env)::starEach es X.env:=by rfl) (hpl:(backTo pos (starEach es X.env)).any (·.1)=false:=by rfl) :
  PE X (.Call (.Name x p) (e::es) [] pos) (ZE1 sp dvs E t):=by
 intro pins s σ H Q I h
 refine wpAny_Call_Name_kw (ZB3 I hg hm ?_ hdb)
 refine PySem.W.callWith_K (h₀:=X.base) I.ok.mod.kin hk (thn (ha pos pins s σ H _ I h) fun us s1 ⟨vs,H1,I1,r,q⟩=>⟨I1.kIn,?_⟩) he hpl
 exact ZER F hr hb hd hx I1 r q
theorem pe_meth {pl:Sem Bool} (he:PE X o ta) (c:Cls X.K C) (hm:Meth X.K C m f) (F:FnOk X.prog X.w X.K X.mg X.base CX k f fd ps sp) (hr:Room k X.A) (hb:Binds X.K fd ps ds) (hd:Vals dvs ds) (hx:ZBH CX X E) (ha:PA X (e::es) t)
  (hst:starEach (e::es) X.env=(false,eval e X.env)::starEach es X.env:=by rfl) (hpl:(backTo pos (starEach es X.env)).any (·.1)=false:=by rfl)
  (ht:eval (.Call (.Attribute o m apos) (e::es) [] pos) X.env=(do
   let ov <- eval o X.env
   standAt apos.atName
   let (f,first) <- holding [ov] (getMethod ov m pl)
   callWith pos f first (backTo pos (starEach (e::es) X.env)) (backToKw pos (keywordEach [] X.env))):=by rfl) :
  PE X (.Call (.Attribute o m apos) (e::es) [] pos) (ZEe C m sp dvs E ta t):=by
 intro pins s σ H Q I h
 refine PySem.W.methodCall_KW (pl:=pl) (thn (he pins s σ H _ I h) fun u s1 zz=>?_) ht
 obtain ⟨x,H1,I1,rx,a,dx,fs,ex,ea,l,q⟩:=zz
 subst ex
 obtain rfl:u=Value.ref a:=rx
 refine ZCw I1 ea c hm l ?_
 refine PySem.W.callWith_K (first:=[.ref a]) (h₀:=X.base) I.ok.mod.kin hm.kp (thn (ha pos pins s1 σ H1 _ I1 q) fun us s2 ⟨vs,H2,I2,r,q2⟩=>⟨I2.kIn,?_⟩) hst hpl
 exact ZER (us:=.ref a::us) (vs:=.ref a::vs) F hr hb hd hx I2 (.cons rfl r) q2
theorem pe_meth0 {pl:Sem Bool} (he:PE X o ta) (c:Cls X.K C) (hm:Meth X.K C m f) (F:FnOk X.prog X.w X.K X.mg X.base CX k f fd ps sp) (hr:Room k X.A) (hb:Binds X.K fd ps ds) (hd:Vals dvs ds) (hx:ZBH CX X E)
  (ht:eval (.Call (.Attribute o m apos) [] [] pos) X.env=(do
   let ov <- eval o X.env
   standAt apos.atName
   let (f,first) <- holding [ov] (getMethod ov m pl)
   callWith pos f first (backTo pos (starEach [] X.env)) (backToKw pos (keywordEach [] X.env))):=by rfl) :
  PE X (.Call (.Attribute o m apos) [] [] pos) (ZEe C m sp dvs E ta tNil):=by
 intro pins s σ H Q I h
 refine PySem.W.methodCall_KW (pl:=pl) (thn (he pins s σ H _ I h) fun u s1 zz=>?_) ht
 obtain ⟨x,H1,I1,rx,a,dx,fs,ex,ea,l,q⟩:=zz
 subst ex
 obtain rfl:u=Value.ref a:=rx
 refine ZCw I1 ea c hm l ?_
 exact PySem.W.callWith_K0 (first:=[.ref a]) I1.kIn hm.kp (ZER (us:=[.ref a]) (vs:=[.ref a]) F hr hb hd hx I1 (.cons rfl .nil) q)
structure Mk (K:W.Frag) (C f:Addr):Prop where
 makes:PySem.W.makesIn K C=true
 init:W.findIn K (.ref C) "__init__"=some (some (.ref f))
 fn:PySem.W.isFn K (.ref f)=true
 kp:W.keepIn K (.ref C)=true
theorem run_make {pins:List (Addr×Obj)} {σ:St} {H:Hp} {s:Shared} {Q:VK} {us:List Value} {vs:List V} (M:Mk X.K C f) (F:FnOk X.prog X.w X.K X.mg X.base CX k f fd ps sp) (hr:Room (k+1) X.A) (hb:Binds X.K fd ps ds) (hd:Vals dvs ds)
  (hx:ZBH CX X E) (I:Inv X pins σ H s) (r:Vals vs us)
  (h:∀ x dx,H x=none->H dx=none->dx≠x->sp (.ref x::(vs++dvs)) (upd (upd H dx (.own x)) x (.ins C dx [])) (fun v H2=>v=.non /\ Q (.ref x) H2) E) :
  wpAny (model X.prog X.w) X.A (call (.ref C) us) (EP X pins σ Q) X.xe s:=by
 have hq:=h (s.heap.objs.size+1) s.heap.objs.size (I.hok.fresh (yAZ _)) (I.hok.fresh (yAA _)) (yAU (yBW _))
 have I2:=Inv.made (C:=C) I
 have r2:Vals (V.ref (s.heap.objs.size+1)::(vs++dvs)) (Value.ref (s.heap.objs.size+1)::(us++ds)):=.cons rfl (r.append hd)
 have hl:(Value.ref (s.heap.objs.size+1)::us++ds).length=ps.length:=by
  have e:=r2.length
  rw [F.len _ _ _ _ hq] at e
  exact e.symm
 refine wpAny_call (make_map (f:=f) I.kIn M.makes M.init (beq_iff_eq.mp M.fn) (codeAny_mono (F.run _ X.stack _ _ ⟨Value.ref (s.heap.objs.size+1)::us,[]⟩ (Value.ref (s.heap.objs.size+1)::(us++ds)) _ _ E (hr.make C us [])
  (I2.env0.make C us []) (hb _ (Value.ref (s.heap.objs.size+1)::us) I2.kIn hl) r2 hq) fun r s' hq'=>?_))
 cases r with
 | error e=>exact hx pins σ _ _ e s' I2 hq'
 | ok fl=>
  cases fl with
  | ret u=>
   obtain ⟨v,H',I3,rv,ev,q3⟩:=I2.after hq'
   subst ev
   exact ⟨rv,⟨V.ref (s.heap.objs.size+1),H',I3,rfl,q3⟩⟩
  | next=>exact False.elim hq'
  | brk=>exact False.elim hq'
  | cont=>exact False.elim hq'
theorem pe_make (M:Mk X.K C f) (F:FnOk X.prog X.w X.K X.mg X.base CX k f fd ps sp) (hr:Room (k+1) X.A) (hg:Gl X x) (hm:X.mg x=some (.ref C)) (hb:Binds X.K fd ps ds) (hd:Vals dvs ds) (hx:ZBH CX X E)
  (ha:PA X (e::es) t) (hdb:(x == ("__debug__":Str))=false:=by decide) (he:starEach (e::es) X.env=(false,eval e X.env)::starEach es X.env:=by rfl) (hpl:(backTo pos (starEach es X.env)).any (·.1)=false:=by rfl) :
  PE X (.Call (.Name x p) (e::es) [] pos) (ZEj C sp dvs E t):=by
 intro pins s σ H Q I h
 refine wpAny_Call_Name_kw (ZB3 I hg hm ?_ hdb)
 refine PySem.W.callWith_K (h₀:=X.base) I.ok.mod.kin M.kp (thn (ha pos pins s σ H _ I h) fun us s1 ⟨vs,H1,I1,r,q⟩=>⟨I1.kIn,?_⟩) he hpl
 exact run_make M F hr hb hd hx I1 r q
end
section
variable {X:Cx} {CX:CXT} {k:Nat} {f C:Addr} {fd:FuncData} {ps ks:List Str} {sp:Sp} {E:XK} {x m:Str} {p pos apos kpos:Pos} {e o:Expr} {es:List Expr} {kws:List Keyword} {te ta:TE} {t tk:TA} {nm:Option Str}
variable {g:List Value->List Value->List Value} {gV:List V->List V->List V}
end
structure FnScope (N P:List Str) (sc:Scope):Prop where
 kind:sc.kind=.function
 co:sc.isCoroutine=false
 gen:sc.isGenerator=false
 nd:N.Nodup
 pre:N.take P.length=P
 par:∀ x∈P,sc.names.lookup x=some .local∨sc.names.lookup x=some .cell
 nofree:∀ y∈sc.names,y.2≠.free
theorem bindL_out {kindOf:Str->Option NameKind} {x:Str}:∀ {binds:List (Str×Value)} {m:Str->Option Value},(∀ v,(x,v)∉binds)->bindL kindOf binds m x=m x
 | [],_,_=>rfl
 | (n,v)::r,m,h=>by
  unfold bindL
  rw [bindL_out fun w hw=>h w (yAD _ hw)]
  split
  .have:x≠n:=by rintro rfl;exact h v yAF
   simp [this]
  .rfl
theorem bindC_out {kindOf:Str->Option NameKind} {x:Str}:∀ {binds:List (Str×Value)} {m:Str->Option Value},(∀ v,(x,v)∉binds)->bindC kindOf binds m x=m x
 | [],_,_=>rfl
 | (n,v)::r,m,h=>by
  unfold bindC
  rw [bindC_out fun w hw=>h w (yAD _ hw)]
  split
  .rfl
  .have:x≠n:=by rintro rfl;exact h v yAF
   simp [this]
theorem bindL_get {kindOf:Str->Option NameKind} {x:Str} {v:Value}:∀ {P:List Str} {vs:List Value} {i:Nat} {m:Str->Option Value},P.Nodup->P[i]?=some x->vs[i]?=some v->kindOf x=some .local ->
  bindL kindOf (P.zip vs) m x=some v
 | [],_,_,_,_,h,_,_=>by simp at h
 | _::_,[],_,_,_,_,h,_=>by simp at h
 | p::P,w::vs,0,m,nd,h1,h2,hk=>by
  simp at h1 h2;subst h1;subst h2
  show bindL kindOf ((p,w)::P.zip vs) m p=_
  unfold bindL
  rw [bindL_out fun v hv=>(List.nodup_cons.mp nd).1 (List.of_mem_zip hv).1,if_pos hk]
  simp
 | p::P,w::vs,i+1,m,nd,h1,h2,hk=>by
  show bindL kindOf ((p,w)::P.zip vs) m x=_
  unfold bindL
  exact bindL_get (i:=i) (List.nodup_cons.mp nd).2 (by simpa using h1) (by simpa using h2) hk
theorem bindC_get {kindOf:Str->Option NameKind} {x:Str} {v:Value}:∀ {P:List Str} {vs:List Value} {i:Nat} {m:Str->Option Value},P.Nodup->P[i]?=some x->vs[i]?=some v->kindOf x≠some .local ->
  bindC kindOf (P.zip vs) m x=some v
 | [],_,_,_,_,h,_,_=>by simp at h
 | _::_,[],_,_,_,_,h,_=>by simp at h
 | p::P,w::vs,0,m,nd,h1,h2,hk=>by
  simp at h1 h2;subst h1;subst h2
  show bindC kindOf ((p,w)::P.zip vs) m p=_
  unfold bindC
  rw [bindC_out fun v hv=>(List.nodup_cons.mp nd).1 (List.of_mem_zip hv).1,if_neg hk]
  simp
 | p::P,w::vs,i+1,m,nd,h1,h2,hk=>by
  show bindC kindOf ((p,w)::P.zip vs) m x=_
  unfold bindC
  exact bindC_get (i:=i) (List.nodup_cons.mp nd).2 (by simpa using h1) (by simpa using h2) hk
noncomputable def start (N:List Str) (vs:List V):St:=vs.map some++List.replicate (N.length-vs.length) none
noncomputable def cxOf (CX:CXT) (P:Program) (w:World) (K:W.Frag) (mg:Str->Option Value) (base:Heap) (N:List Str) (qual:Str) (scope:Scope) (f:Addr) (cd:Value) (A:Around) (outer:List Env) (s:Shared) (H:Hp) (E:XK):Cx where
 prog:=P
 w:=w
 K:=K
 mg:=mg
 base:=base
 A:=A.deeper (envOfC qual scope s.heap.objs.size f cd)
 N:=N
 s₀:=s
 H₀:=H
 env:=envOfC qual scope s.heap.objs.size f cd
 outer:=outer
 stack:=envOfC qual scope s.heap.objs.size f cd::outer
 ex:=[]
 calm:=true
 fn:=fun _=>true
 pn:=[]
 xe:=fun e s'=>wpAny (model P w) (A.deeper (envOfC qual scope s.heap.objs.size f cd)) (leaving (envOfC qual scope s.heap.objs.size f cd) e) (fun _ s''=>CX outer H s E e s'') (fun e' s''=>CX outer H s E e' s'') s'
theorem ZDs {sc:Scope} {n:Nat} {x:Str} (h:sc.names.lookup x=some .cell):∃ c,(cellsFrom n sc.names []).lookup x=some c:=by
 have q:=PySem.W.cellsFrom_some sc.names n [] (.inl h)
 exact Option.isSome_iff_exists.mp q
theorem inv_start {CX:CXT} {P:Program} {w:World} {K:W.Frag} {mg:Str->Option Value} {base:Heap} {N ps:List Str} {qual:Str} {scope:Scope} {f:Addr} {cd:Value} {A:Around} {outer:List Env} {s s1:Shared} {H:Hp} {E:XK} {us:List Value} {vs:List V}
  (S:FnScope N ps scope) (hd:A.handled=none) (e0:Env0 P w K mg base A outer s H) (hl:vs.length=ps.length) (r:Vals vs us)
  (x:InCallC s s.heap.objs.size (bindL (envOfC qual scope s.heap.objs.size f cd).kindOf (ps.zip us) fun _=>none) (cellsFrom (s.heap.objs.size+1) scope.names []) (bindC (envOfC qual scope s.heap.objs.size f cd).kindOf (ps.zip us) fun _=>none) s1) :
  Inv (cxOf CX P w K mg base N qual scope f cd A outer s H E) [] (start N vs) H s1:=by
 have hpl:ps.length <= N.length:=by have:=congrArg List.length S.pre;rw [yAM] at this;omega
 obtain ⟨h1,tk,rfl,hk⟩:=x.done
 have noA:∀ b:Addr,b∉(cxOf CX P w K mg base N qual scope f cd A outer s H E).ex:=fun b z=>absurd (show b∈([]:List Addr) from z) (by simp)
 refine ⟨⟨e0.mod,S.kind,rfl,rfl,yAA _,fun y z c h1 h2=>?_,fun y hy=>?_,fun y c _ h=>?_,fun _=>hd,Around.frames_deeper e0.frames,.inr ⟨rfl,rfl⟩,fun b z=>absurd z (noA b),e0.bs,e0.bsz,fun b _ _=>noA b,fun b z=>absurd z (noA b),e0.funs,e0.frf⟩,
  rfl,e0.bare,Un.kept hk,⟨_,x.toInCall.ns,fun i y v h1 h2 h3=>?_⟩,fun y c h=>⟨_,x.cell y c h⟩,e0.hok.fresh (yAA _),fun y c h=>?_,fun p hp=>absurd (show p∈([]:List (Addr×Obj)) from hp) (by simp),e0.hok.kept hk,?_⟩
 .exact name_of_addr x.apart (PySem.mem_of_lookup h1) (PySem.mem_of_lookup h2)
 .have hy:scope.names.lookup y=some .cell∨scope.names.lookup y=some .free:=hy
  rcases hy with hy | hy
  .exact ZDs hy
  .exact absurd rfl (S.nofree _ (PySem.mem_of_lookup hy))
 .exact yBP (x.above y c (PySem.mem_of_lookup h))
 .have hi:i < vs.length:=by
   unfold start at h2
   by_cases hi:i < vs.length
   .exact hi
   .rw [yBA (by simpa using hi)] at h2
    rw [List.getElem?_replicate] at h2
    split at h2 <;> cases h2
  have ha:vs[i]?=some v:=by
   unfold start at h2
   rw [yBH (by simpa using hi),yAW] at h2
   cases e:vs[i]? with
   | none=>rw [e] at h2;cases h2
   | some a=>rw [e] at h2;cases h2;rfl
  obtain ⟨u,hu,rv⟩:=r.get ha
  have hp:ps[i]?=some y:=by
   rw [<- S.pre,yBX (by omega)];exact h1
  have ndP:ps.Nodup:=by rw [<- S.pre];exact S.nd.sublist (List.take_sublist _ _)
  refine ⟨u,rv,?_⟩
  rcases S.par y (yBB hp) with k | k
  .exact .inl ⟨k,bindL_get ndP hp hu k⟩
  .obtain ⟨c,e⟩:=ZDs (n:=s.heap.objs.size+1) k
   refine .inr ⟨.inl k,c,e,?_⟩
   have q:=x.cell y c e
   rw [bindC_get ndP hp hu (by show scope.names.lookup y≠_;rw [k];decide)] at q
   exact q
 .exact e0.hok.fresh (yBP (x.above y c (PySem.mem_of_lookup h)))
 .unfold start
  show _=N.length
  rw [yAB,yAC,List.length_replicate]
  omega
theorem ZFA {CX:CXT} {P:Program} {w:World} {K:W.Frag} {mg:Str->Option Value} {base:Heap} {k:Nat} {f:Addr} {name qual:Str} {params:Arguments} {body:List Stmt} {scope:Scope} {dV kV doc pm cdv ct oc:Value} {an od:Option Addr}
  {osl:Array (Option Value)} {N ps:List Str} {sp:Sp} (lk:K.lookup f=some ⟨oc,od,.func (W.fnOf name qual params body scope dV kV doc pm an cdv ct),osl⟩) (hcd:W.codeIn K cdv qual=true) (S:FnScope N ps scope)
  (len:∀ vs H Q E,sp vs H Q E->vs.length=ps.length)
  (hbody:∀ (A:Around) (outer:List Env) (s:Shared) (H:Hp) (vs:List V) (Q:VK) (E:XK),Room k (A.deeper (envOfC qual scope s.heap.objs.size f cdv))->sp vs H Q E ->
   ∃ t,PSs (cxOf CX P w K mg base N qual scope f cdv A outer s H E) body t /\ t { nx:=fun _ H'=>Q .non H',rt:=Q } (start N vs) H) :
  FnOk P w K mg base CX (k+1) f (W.fnOf name qual params body scope dV kV doc pm an cdv ct) ps sp:=by
 refine ⟨len,fun A outer s H args us vs Q E hr e0 hb r hsp=>?_⟩
 have hl:=len _ _ _ _ hsp
 have KX:K.In s.heap:=e0.mod.kin.keeps fun b o e=>(e0.bs b o e).1
 have lim:s.heap.NoLimit:=e0.mod.nolimit.keeps fun b o e=>(e0.bs b o e).1
 have hkind:∀ y∈ps.zip us,scope.names.lookup y.1=some .local∨(scope.names.lookup y.1=some .cell /\ ((cellsFrom (s.heap.objs.size+1) scope.names []).lookup y.1).isSome=true):=fun ⟨n,v⟩ hy=>by
  rcases S.par n (List.of_mem_zip hy).1 with q | q
  .exact .inl q
  .exact .inr ⟨q,PySem.W.cellsFrom_some _ _ _ (.inl q)⟩
 refine codeAny_call_function hr.depth (KX _ _ lk) rfl S.co S.gen rfl (PySem.W.codeRec_of KX hcd) (hb _ _ _ _ ?_)
 refine wpAny_newFunctionEnv_cells S.kind hkind fun env he s1 x=>?_
 subst he
 refine ⟨lim.keeps x.toInCall.keep,codeAny_func ?_⟩
 obtain ⟨t,ht,hq⟩:=hbody A outer s H vs Q E (hr.deeper _) hsp
 have I:Inv (cxOf CX P w K mg base N qual scope f cdv A outer s H E) [] (start N vs) H s1:=inv_start S hr.hd e0 hl r x
 refine wpAny_mono (ht [] s1 (start N vs) H _ I hq) (fun fl s' hs=>?_) fun e s' hs=>hs
 have fin:∀ {σ':St} {H':Hp} {v:V} {u:Value},Inv (cxOf CX P w K mg base N qual scope f cdv A outer s H E) [] σ' H' s'->RelV v u->Q v H'->CE outer P w H s Q u s' :=
  fun {σ' H' v u} J rv q=>⟨v,H',J.os,J.bare,J.base,J.hok,rv,q⟩
 cases fl with
 | ret u=>
  obtain ⟨v,σ',H',J,rv,q⟩:=hs
  exact fin J rv q
 | next=>
  obtain ⟨σ',H',J,q⟩:=hs
  exact fin (v:=V.non) (u:=Value.none) J rfl q
 | brk=>
  obtain ⟨_,_,_,q⟩:=hs
  exact False.elim q
 | cont=>
  obtain ⟨_,_,_,q⟩:=hs
  exact False.elim q
section
variable {X:Cx} {x:Str} {p pos:Pos} {e:Expr} {es:List Expr} {t:TA} {id T:String} {r:List V->Hp->VK->Prop}
noncomputable def tCB (r:List V->Hp->VK->Prop) (t:TA):TE:=fun σ H Q=>t σ H fun vs H1=>r vs H1 Q
theorem ZAQ (hc:ZCN X (.builtin id) r) (hg:Gl X x) (hm:X.mg x=none) (hv:bootBuiltins x=some (.builtin id)) (ha:PA X (e::es) t) (hn:x≠"__name__":=by decide) (hdb:(x == ("__debug__":Str))=false:=by decide)
  (he:starEach (e::es) X.env=(false,eval e X.env)::starEach es X.env:=by rfl) (hpl:(backTo pos (starEach es X.env)).any (·.1)=false:=by rfl):PE X (.Call (.Name x p) (e::es) [] pos) (tCB r t):=by
 intro pins s σ H Q I h
 refine wpAny_Call_Name_kw (ZD2 I hg hm hv ?_ hn hdb)
 exact PyProof.Rows.callWith_builtin1 (thn (ha pos pins s σ H _ I h) fun us s1 ⟨vs,H1,I1,r1,q1⟩=>hc pins s1 σ H1 vs us Q I1 r1 q1) he hpl
theorem ZA6 (hc:ZCN X (.type T) r) (hg:Gl X x) (hm:X.mg x=none) (hv:bootBuiltins x=some (.type T)) (ha:PA X (e::es) t) (hn:x≠"__name__":=by decide) (hdb:(x == ("__debug__":Str))=false:=by decide)
  (he:starEach (e::es) X.env=(false,eval e X.env)::starEach es X.env:=by rfl) (hpl:(backTo pos (starEach es X.env)).any (·.1)=false:=by rfl):PE X (.Call (.Name x p) (e::es) [] pos) (tCB r t):=by
 intro pins s σ H Q I h
 refine wpAny_Call_Name_kw (ZD2 I hg hm hv ?_ hn hdb)
 exact PyProof.Rows.callWith_type1 (thn (ha pos pins s σ H _ I h) fun us s1 ⟨vs,H1,I1,r1,q1⟩=>hc pins s1 σ H1 vs us Q I1 r1 q1) he hpl
end
end L2
namespace HT
open PySem PyProof.Rows
section
open PySem.SeqAt
open PySem.AutoSeq1 (wpAny_loadPart')
open PySem.MeetsSeq PySem.MeetsSeq2 PySem.MeetsSeq3
end
section
variable {prog:Program} {w:World} {A:Around} {E:Value->Shared->Prop} {s:Shared}
noncomputable def sIx (n d:Nat):Option Int->Nat
 | none=>d
 | some v=>if v < 0 then (v+(n:Int)).toNat else min v.toNat n
theorem sIx_none (n d:Nat):sIx n d none=d:=rfl
theorem sIx_nat (n d k:Nat):sIx n d (some (k:Int))=min k n:=by
 show (if (k:Int) < 0 then ((k:Int)+(n:Int)).toNat else min (k:Int).toNat n)=min k n
 rw [if_neg (by omega),Int.toNat_natCast]
end
end HT
namespace L2
open PySem PySem.Spec PyProof.Rows
noncomputable abbrev TO:=St->Hp->(Option Int->Hp->Prop)->Prop
noncomputable def PO (X:Cx) (e:Option Expr) (t:TO):Prop :=
 ∀ (pins:List (Addr×Obj)) (s:Shared) (σ:St) (H:Hp) (Q:Option Int->Hp->Prop),Inv X pins σ H s->t σ H Q ->
  wpAny (model X.prog X.w) X.A (evalPart e X.env) (fun u s'=>∃ o H',Inv X pins σ H' s' /\ IsPart u o /\ Q o H') X.xe s
noncomputable def ZD7:TO:=fun _ H Q=>Q none H
noncomputable def ZFC (t:TE):TO:=fun σ H Q=>t σ H fun x H1=>∃ i,x=.int i /\ Q (some i) H1
theorem intsAre_of {ns:List Int}:∀ {us:List Value},Vals (ns.map V.int) us->IntsAre us ns:=by
 induction ns with
 | nil=>intro us r;rw [List.map_nil] at r;cases r;exact .nil
 | cons n ns ih=>
  intro us r
  rw [yAY] at r
  cases r with
  | cons r1 r2=>
   obtain ⟨t,e⟩:=r1
   subst e
   exact .cons n t (ih r2)
section
variable {X:Cx} {e:Expr} {te:TE} {lo hi:Option Expr} {tl th:TO} {pos p2:Pos}
theorem ZEE:PO X none ZD7:=by
 intro pins s σ H Q I h
 rw [evalPart_none]
 exact wpAny_pure ⟨none,H,I,.none,h⟩
theorem ZBo (h:PE X e te):PO X (some e) (ZFC te):=by
 intro pins s σ H Q I hw
 rw [evalPart_some]
 refine thn (h pins s σ H _ I hw) fun u s1 zz=>?_
 obtain ⟨x,H1,I1,r1,q1⟩:=zz
 obtain ⟨i,rfl,q⟩:=q1
 obtain ⟨t,rfl⟩:=r1
 exact ⟨some i,H1,I1,.int i t,q⟩
noncomputable def SlR (X:Cx) (r:V->Option Int->Option Int->Hp->VK->Prop):Prop :=
 ∀ (pins:List (Addr×Obj)) (s:Shared) (σ:St) (H:Hp) (x:V) (v vl vu:Value) (lo hi:Option Int) (sl:Addr) (Q:VK),Inv X pins σ H s->RelV x v->s.heap.IsSliceOf sl vl vu .none->IsPart vl lo->IsPart vu hi->r x lo hi H Q ->
  ∃ T id,typeLookup (.type T) "__getitem__"=pure (some (.builtin id)) /\ s.TypeIs v T /\ wpAny (model X.prog X.w) X.A (getItem v (.ref sl)) (EP X pins σ Q) X.xe s
noncomputable def tSl (r:V->Option Int->Option Int->Hp->VK->Prop) (te:TE) (tl th:TO):TE:=fun σ H Q=>te σ H fun x H1=>tl σ H1 fun l H2=>th σ H2 fun u H3=>r x l u H3 Q
theorem ZCJ {r:V->Option Int->Option Int->Hp->VK->Prop} (hr:SlR X r) (he:PE X e te) (hl:PO X lo tl) (hu:PO X hi th):PE X (.Subscript e (.Slice lo hi none p2) pos) (tSl r te tl th):=by
 intro pins s σ H Q I h
 refine Subscript_ (thn (he pins s σ H _ I h) fun v s1 zz=>?_)
 obtain ⟨x,H1,I1,r1,q1⟩:=zz
 refine wpAny_Slice (thn (hl pins s1 σ H1 _ I1 q1) fun vl s2 ⟨l,H2,I2,pl,q2⟩=>thn (hu pins s2 σ H2 _ I2 q2) fun vu s3 zz=>?_)
 obtain ⟨u,H3,I3,pu,q3⟩:=zz
 rw [evalPart_none]
 refine wpAny_pure ?_
 have I4:Inv X pins σ H3 { s3 with heap:=s3.heap.push { cls:=.type "slice",data:=.fields #[vl,vu,.none] } }:=I3.kept (t':=s3.toks) fun b ob q=>Heap.get?_push_of_some _ q
 obtain ⟨T,id,hT,ht,hg⟩:=hr pins { s3 with heap:=s3.heap.push { cls:=.type "slice",data:=.fields #[vl,vu,.none] } } σ H3 x v vl vu l u s3.heap.objs.size Q I4 r1 (Heap.IsSliceOf.new ..) pl pu q3
 show wpAny (model X.prog X.w) X.A (subscriptTail e (.Slice lo hi none p2) v (.ref s3.heap.objs.size)) (EP X pins σ Q) X.xe { s3 with heap:=s3.heap.push { cls:=.type "slice",data:=.fields #[vl,vu,.none] } }
 exact tail_any (ops:=[.ref s3.heap.objs.size,v]) ht hT hg (by with_unfolding_all rfl)
noncomputable def cutV (xs:List V) (lo hi:Option Int):List V:=(xs.drop (HT.sIx xs.length 0 lo)).take (HT.sIx xs.length xs.length hi-HT.sIx xs.length 0 lo)
theorem cutV_length (xs:List V) (lo hi:Option Int):(cutV xs lo hi).length <= xs.length:=by
 unfold cutV
 rw [yAM,yAR]
 omega
end
noncomputable def ixN (n:Nat) (i:Int):Option Nat:=if 0 <= i then (if i < n then some i.toNat else none) else if -(n:Int) <= i then some (i+n).toNat else none
noncomputable def atI {α:Type} (xs:List α) (i:Int):Option α:=(ixN xs.length i).bind fun j=>xs[j]?
theorem ixN_seq {n:Nat} {i:Int} {j:Nat} (h:ixN n i=some j):seqIndex? i n=some j /\ j < n /\ -(n:Int) <= i /\ i < n:=by
 unfold ixN at h
 by_cases h0:0 <= i
 .rw [if_pos h0] at h
  by_cases h1:i < n
  .rw [if_pos h1] at h
   have e:i.toNat=j:=Option.some.inj h
   exact ⟨by rw [seqIndex_of h0 h1,e],by omega,by omega,h1⟩
  .rw [if_neg h1] at h;cases h
 .rw [if_neg h0] at h
  by_cases h1:-(n:Int) <= i
  .rw [if_pos h1] at h
   have e:(i+n).toNat=j:=Option.some.inj h
   exact ⟨by rw [seqIndex_neg (by omega) h1,e],by omega,h1,by omega⟩
  .rw [if_neg h1] at h;cases h
theorem atI_get {α:Type} {xs:List α} {i:Int} {v:α} (h:atI xs i=some v):∃ j,seqIndex? i xs.length=some j /\ xs[j]?=some v /\ j < xs.length /\ -(xs.length:Int) <= i /\ i < xs.length:=by
 unfold atI at h
 cases e:ixN xs.length i with
 | none=>rw [e] at h;cases h
 | some j=>
  rw [e] at h
  obtain ⟨h1,h2,h3,h4⟩:=ixN_seq e
  exact ⟨j,h1,h,h2,h3,h4⟩
theorem atI_nat {α:Type} {xs:List α} {j:Nat} {v:α} (h:xs[j]?=some v):atI xs (j:Int)=some v:=by
 have hj:j < xs.length:=(yAH.mp h).1
 have e:ixN xs.length (j:Int)=some j:=by
  unfold ixN
  rw [if_pos (by omega),if_pos (by omega)];simp
 unfold atI;rw [e];exact h
noncomputable def PlainIx (b:Expr):Prop:=∀ o i,subscripted b false o i=operate [o,i] (getItem o i)
noncomputable def IxR (X:Cx) (r:R2):Prop :=
 ∀ (value slice:Expr) (pins:List (Addr×Obj)) (s:Shared) (σ:St) (H:Hp) (x y:V) (v u:Value) (Q:VK),Inv X pins σ H s->RelV x v->RelV y u->r x y H Q ->
  subscripted slice false v u=operate [v,u] (getItem v u)->wpAny (model X.prog X.w) X.A (subscriptTail value slice v u) (EP X pins σ Q) X.xe s
noncomputable def MtR (X:Cx) (id:String) (r:V->List V->Hp->VK->Prop):Prop :=
 ∀ (pins:List (Addr×Obj)) (s:Shared) (σ:St) (H:Hp) (x:V) (xs:List V) (v:Value) (us:List Value) (Q:VK),Inv X pins σ H s->RelV x v->Vals xs us->r x xs H Q ->
  wpAny (model X.prog X.w) X.A (call (.builtin id) (v::us)) (EP X pins σ Q) X.xe s
section
variable {X:Cx} {a b:Expr} {ta tb:TE} {pos:Pos}
theorem ZAu {r:R2} (hr:IxR X r) (ha:PE X a ta) (hb:PE X b tb) (hs:PlainIx b):PE X (.Subscript a b pos) (tOp r ta tb):=by
 intro pins s σ H Q I h
 exact Subscript_ (binT ha hb I h fun v u s2 x y H2 I2 rx ry q=>hr a b pins s2 σ H2 x y v u Q I2 rx ry q (hs _ _))
noncomputable def rIxL (K:W.Frag):R2:=fun x y H Q=>∃ p xs i v,x=.ref p /\ y=.int i /\ SqL K H p xs /\ atI xs i=some v /\ Q v H
noncomputable def rIxT (K:W.Frag):R2:=fun x y H Q=>∃ p xs i v,x=.ref p /\ y=.int i /\ SqT K H p xs /\ atI xs i=some v /\ Q v H
theorem ZAf:IxR X (rIxL X.K):=by
 intro value slice pins s σ H x y v u Q I rx ry h hs
 obtain ⟨p,xs,i,z,rfl,rfl,hq,he,q⟩:=h
 cases rx
 obtain ⟨t,rfl⟩:=ry
 obtain ⟨its,r,pl,hz⟩:=I.list hq
 obtain ⟨j,h1,h2,h3,h4,h5⟩:=atI_get he
 obtain ⟨w,ew,rw'⟩:=r.get h2
 have hl:=r.length
 have hn:=ZEY
 have fin:EP X pins σ Q w s:=⟨z,H,I,rw',q⟩
 by_cases h0:0 <= i
 .have hj:i.toNat=j:=by
   rw [seqIndex_of h0 h5] at h1
   exact Option.some.inj h1
  exact item_listR pl.isList h0 (by omega) (by rw [hj];simpa using ew) fin hs
 .have hj:(i+(its.toArray.size:Int)).toNat=j:=by
   rw [seqIndex_neg (by omega) h4] at h1
   rw [yAO,<- hl]
   exact Option.some.inj h1
  exact subscriptTail_builtinR (x:=w) pl.isList.typeIs slot_list_getitem.lookup
   (wpAny_getItem_list_neg (Q:=fun r s'=>r=w /\ EP X pins σ Q r s') pl.isList (by omega) (by rw [yAO] <;> omega) (by omega) (by rw [hj];simpa using ew) ⟨rfl,fin⟩) hs
theorem ZBd:IxR X (rIxT X.K):=by
 intro value slice pins s σ H x y v u Q I rx ry h hs
 obtain ⟨p,xs,i,z,rfl,rfl,hq,he,q⟩:=h
 cases rx
 obtain ⟨t,rfl⟩:=ry
 obtain ⟨its,r,pl,hz⟩:=I.tuple hq
 obtain ⟨j,h1,h2,h3,h4,h5⟩:=atI_get he
 obtain ⟨w,ew,rw'⟩:=r.get h2
 have hl:=r.length
 have hn:=ZEY
 have fin:EP X pins σ Q w s:=⟨z,H,I,rw',q⟩
 exact subscriptTail_builtinR (x:=w) pl.typeIs slot_tuple_getitem.lookup
  (getItem_tuple (j:=j) (Q:=fun r s'=>r=w /\ EP X pins σ Q r s') pl (by omega) (by omega) (by rw [yAO,<- hl];exact h1) (by simpa using ew) ⟨rfl,fin⟩) hs
theorem mapSeq_set (its:List Value) (n j:Nat) (u:Value):Obj.mapSeq (·.setIfInBounds j u) { cls:=.type "list",data:=.seq its.toArray n }={ cls:=.type "list",data:=.seq (its.set j u).toArray n }:=by
 simp [Obj.mapSeq]
theorem Inv.lst {pins:List (Addr×Obj)} {σ:St} {H:Hp} {s:Shared} {p:Addr} {xs:List V} (I:Inv X pins σ H s) (h:H p=some (.lst xs)) :
  ∃ (its:List Value) (n:Nat),Vals xs its /\ s.heap.get? p=some { cls:=.type "list",data:=.seq its.toArray n } /\ xs.length <= sizeLine:=by
 obtain ⟨z,its,n,r,e⟩:=I.hok p _ h
 exact ⟨its,n,r,e,z⟩
theorem Inv.lstUpd {pins:List (Addr×Obj)} {σ:St} {H:Hp} {s:Shared} {p:Addr} {xs ys:List V} {its its':List Value} {n n':Nat} {f:Obj->Obj} (I:Inv X pins σ H s) (h:H p=some (.lst xs))
  (ho:s.heap.get? p=some { cls:=.type "list",data:=.seq its.toArray n }) (hf:f { cls:=.type "list",data:=.seq its.toArray n }={ cls:=.type "list",data:=.seq its'.toArray n' }) (r:Vals ys its') (hz:ys.length <= sizeLine) (t:Nat) :
  Inv X pins σ (upd H p (.lst ys)) { s with heap:=s.heap.update p f,toks:=t }:=by
 have e:(s.heap.update p f).get? p=some { cls:=.type "list",data:=.seq its'.toArray n' }:=by
  rw [Heap.get?_update_self f ho (by rw [hf] <;> rfl),hf]
 refine I.write (x:=p) (e:=p) (by rw [h];trivial) (.inl rfl) (fun b u hb q=>(Heap.get?_update_other _ _ (Ne.symm hb)).trans q) ⟨_,e⟩ ?_
 exact ⟨hz,its',n',r,e⟩
noncomputable def rSetL:V->V->V->Hp->(Hp->Prop)->Prop:=fun o i v H Q=>∃ p xs k j,o=.ref p /\ i=.int k /\ H p=some (.lst xs) /\ ixN xs.length k=some j /\ Q (upd H p (.lst (xs.set j v)))
theorem set_list:PSet X rSetL:=by
 intro pins s σ H o i v ov iv u Q I ro ri rv h
 obtain ⟨p,xs,k,j,rfl,rfl,hp,hj,q⟩:=h
 cases ro
 obtain ⟨t,rfl⟩:=ri
 obtain ⟨its,n,r,ho,hz⟩:=I.lst hp
 obtain ⟨h1,h2,h3,h4⟩:=ixN_seq hj
 have hl:=r.length
 have hn:=ZEY
 have I':Inv X pins σ (upd H p (.lst (xs.set j v))) { s with heap:=s.heap.update p (Obj.mapSeq (·.setIfInBounds j u)) } :=
  I.lstUpd hp ho (mapSeq_set its n j u) (r.set rv j) (by rw [List.length_set];exact hz) s.toks
 by_cases h0:0 <= k
 .have hk:k.toNat=j:=by
   rw [seqIndex_of h0 h4] at h1
   exact Option.some.inj h1
  exact PySem.W.ki_setAt ho h0 (by omega) (by rw [yAO,<- hl];exact h4) (by rw [hk];exact ⟨_,I',q⟩)
 .have hk:(k+(its.toArray.size:Int)).toNat=j:=by
   rw [seqIndex_neg (by omega) h3] at h1
   rw [yAO,<- hl]
   exact Option.some.inj h1
  exact PySem.W.ki_setBack ho (by omega) (by rw [yAO,<- hl];exact h3) (by omega) (by rw [hk];exact ⟨_,I',q⟩)
theorem slice_bounds (lo hi:Option Int) (n:Nat):(sliceBounds lo hi none n).1=((HT.sIx n 0 lo:Nat):Int) /\ (sliceBounds lo hi none n).2.1=((HT.sIx n n hi:Nat):Int) /\ (sliceBounds lo hi none n).2.2=1:=by
 refine ⟨?_,?_,rfl⟩
 .cases lo with
  | none=>simp [sliceBounds,HT.sIx]
  | some i=>
   simp only [sliceBounds,HT.sIx,Option.getD_none,show (1:Int) > 0 by decide,if_true]
   by_cases h:i < 0
   .simp only [h,if_true] <;> omega
   .simp only [h,if_false] <;> omega
 .cases hi with
  | none=>simp [sliceBounds,HT.sIx]
  | some i=>
   simp only [sliceBounds,HT.sIx,Option.getD_none,show (1:Int) > 0 by decide,if_true]
   by_cases h:i < 0
   .simp only [h,if_true] <;> omega
   .simp only [h,if_false] <;> omega
theorem slicePick_cut (its:List Value) (lo hi:Option Int):slicePick its.toArray lo hi none=((its.drop (HT.sIx its.length 0 lo)).take (HT.sIx its.length its.length hi-HT.sIx its.length 0 lo)).toArray:=by
 obtain ⟨h1,h2,h3⟩:=slice_bounds lo hi its.toArray.size
 unfold slicePick
 rw [h1,h2,h3]
 simp only [sliceRange_one,pick_run,yAO] <;> rfl
noncomputable def rSlL (K:W.Frag):V->Option Int->Option Int->Hp->VK->Prop:=fun x lo hi H Q=>∃ a xs,x=.ref a /\ SqL K H a xs /\ ∀ p,H p=none->Q (.ref p) (upd H p (.lst (cutV xs lo hi)))
theorem ZCq:SlR X (rSlL X.K):=by
 intro pins s σ H x v vl vu lo hi sl Q I rx hs pl pu h
 obtain ⟨a,xs,rfl,hx,q⟩:=h
 cases rx
 obtain ⟨its,r,ht,hz⟩:=I.list hx
 have hlen:=r.length
 refine ⟨"list",_,slot_list_getitem.lookup,ht.isList.typeIs,?_⟩
 refine wpAny_getItem_list_slice ht.isList hs pl pu .none (by simp) ?_ (by rw [yAO] <;> omega)
 rw [slicePick_cut,<- hlen]
 refine ⟨.ref s.heap.objs.size,_,I.laid (t':=s.toks) (o:=.lst (cutV xs lo hi)) (fun b ob q=>Heap.get?_push_of_some _ q) (yAA _) ?_,rfl,q _ (I.hok.fresh (yAA _))⟩
 exact ⟨yAK (cutV_length xs lo hi) hz,_,0,(r.drop (HT.sIx xs.length 0 lo)).take (HT.sIx xs.length xs.length hi-HT.sIx xs.length 0 lo),Heap.get?_push_size _ rfl⟩
theorem ZAL:ZCN X (.builtin "len") (fun xs H Q=>∃ p ys,xs=[.ref p] /\ (SqL X.K H p ys∨SqT X.K H p ys) /\ Q (.int ys.length) H):=by
 intro pins s σ H xs us Q I r h
 obtain ⟨p,ys,rfl,hq,q⟩:=h
 obtain ⟨u,rfl,rx⟩:=ZDu r
 cases rx
 have hn:=ZEY
 rcases hq with hq | hq
 .obtain ⟨its,r',pl,hz⟩:=I.list hq
  have hlen:=r'.length
  exact Calls.call_len_list pl.isList (by simp only [yAO] <;> omega) ⟨.int ys.length,H,I.tok _,⟨s.toks+1,by rw [yAO,hlen]⟩,q⟩
 .obtain ⟨its,r',pl,hz⟩:=I.tuple hq
  have hlen:=r'.length
  exact len_tuple pl (by simp only [yAO] <;> omega) ⟨.int ys.length,H,I.tok _,⟨s.toks+1,by rw [yAO,hlen]⟩,q⟩
theorem ZBC:ZCN X (.type "list") (fun xs H Q=>∃ p ys,xs=[.ref p] /\ (SqL X.K H p ys∨SqT X.K H p ys) /\ ∀ l,H l=none->Q (.ref l) (upd H l (.lst ys))):=by
 intro pins s σ H xs us Q I r h
 obtain ⟨p,ys,rfl,hq,q⟩:=h
 obtain ⟨u,rfl,rx⟩:=ZDu r
 cases rx
 have fin:∀ (its:List Value),Vals ys its->ys.length <= sizeLine->∀ (h':Heap) (c':Nat),(∀ b o',s.heap.get? b=some o'->h'.get? b=some o') ->
   h'.get? s.heap.objs.size=some { cls:=.type "list",dict:=none,data:=.seq its.toArray c',slots:=#[] }->EP X pins σ Q (.ref s.heap.objs.size) { s with heap:=h' }:=fun its r' hz h' c' kp e=>
  ⟨.ref s.heap.objs.size,_,I.laid (t':=s.toks) kp (yAA _) (show ObjOk X.prog X.w _ h' _ (.lst ys) from ⟨hz,its,c',r',e⟩),rfl,q _ (I.hok.fresh (yAA _))⟩
 rcases hq with hq | hq
 .obtain ⟨its,r',pl,hz⟩:=I.list hq
  have hlen:=r'.length
  obtain ⟨o,ho,hc,n,hd⟩:=pl.isList
  exact call_list_seq p (.inl rfl) ho hc hd (fun h' c' kp e=>fin its r' hz h' c' kp e) (by simp only [yAO] <;> omega)
 .obtain ⟨its,r',pl,hz⟩:=I.tuple hq
  have hlen:=r'.length
  obtain ⟨o,ho,hc,n,hd⟩:=pl
  exact call_list_seq p (.inr rfl) ho hc hd (fun h' c' kp e=>fin its r' hz h' c' kp e) (by simp only [yAO] <;> omega)
noncomputable def tyV (K:W.Frag) (T:String) (x:V) (H:Hp):Prop:=match x with
 | .str _=>T="str"
 | .int _=>T="int"
 | .ref p=>(T="list" /\ ∃ xs,SqL K H p xs)∨(T="tuple" /\ ∃ o,K.lookup p=some o /\ o.cls=.type "tuple" /\ o.dict=none) ∨
   (T="dict" /\ ((∃ kvs,H p=some (.dK kvs))∨∃ kvs,H p=some (.dT kvs)))∨(T="set" /\ ∃ S n,H p=some (.set S n))
 | _=>False
theorem tyV_is {pins:List (Addr×Obj)} {σ:St} {H:Hp} {s:Shared} {T:String} {x:V} {v:Value} (I:Inv X pins σ H s) (r:RelV x v) (ty:tyV X.K T x H) :
  s.TypeIs v T /\ ∀ a,v=.ref a->∃ ob,s.heap.get? a=some ob /\ ob.dict=none:=by
 cases x with
 | str z=>
  obtain ⟨t,rfl⟩:=r
  cases (show T="str" from ty)
  exact ⟨typeIs_str s z t,fun _ e=>nomatch e⟩
 | int i=>
  obtain ⟨t,rfl⟩:=r
  cases (show T="int" from ty)
  exact ⟨typeIs_int s i t,fun _ e=>nomatch e⟩
 | ref p=>
  cases r
  rcases ty with ⟨rfl,xs,hq⟩ | ⟨rfl,o,hk,hc,hd⟩ | ⟨rfl,hk⟩ | ⟨rfl,S,n,hk⟩
  .obtain ⟨its,_,pl,_⟩:=I.list hq
   refine ⟨pl.isList.typeIs,fun a e=>?_⟩
   cases e
   obtain ⟨o,n,e,c,hd,_⟩:=pl
   exact ⟨o,e,hd⟩
  .refine ⟨⟨o,I.kIn p o hk,hc⟩,fun a e=>?_⟩
   cases e
   exact ⟨o,I.kIn _ o hk,hd⟩
  .have z:∃ o,s.heap.get? p=some o /\ o.ExactDict:=by
    rcases hk with ⟨kvs,hk⟩ | ⟨kvs,hk⟩
    .obtain ⟨_,_,_,_,o,_,_,e,ex,_⟩:=I.hok p _ hk
     exact ⟨o,e,ex⟩
    .obtain ⟨_,_,_,_,o,_,_,e,ex,_⟩:=I.hok p _ hk
     exact ⟨o,e,ex⟩
   obtain ⟨o,e,ex⟩:=z
   refine ⟨⟨o,e,ex.1⟩,fun a e2=>?_⟩
   cases e2
   exact ⟨o,e,ex.2.1⟩
  .obtain ⟨o,_,_,_,e,ex,_⟩:=I.hok p _ hk
   refine ⟨⟨o,e,ex.1⟩,fun a e2=>?_⟩
   cases e2
   exact ⟨o,e,ex.2.1⟩
 | _=>exact False.elim ty
noncomputable def tBM0 (K:W.Frag) (T:String) (r:V->List V->Hp->VK->Prop) (to:TE):TE:=fun σ H Q=>to σ H fun x H1=>tyV K T x H1 /\ r x [] H1 Q
noncomputable def tBM (K:W.Frag) (T:String) (r:V->List V->Hp->VK->Prop) (to:TE) (t:TA):TE:=fun σ H Q=>to σ H fun x H1=>tyV K T x H1 /\ t σ H1 fun xs H2=>r x xs H2 Q
variable {o e:Expr} {es:List Expr} {to:TE} {t:TA} {name:Str} {apos cpos:Pos} {T id:String} {r:V->List V->Hp->VK->Prop}
theorem pe_bm0 (pa:PlainAttrs T) (slot:Slot T name id) (hty:typeOf (.builtin id)=pure (.type "method_descriptor")) (hm:MtR X id r) (ho:PE X o to)
  (hbase:attributeBase o name X.env (eval o X.env)=eval o X.env:=by rfl) (hline:(apos.endLine == cpos.line)=true:=by rfl):PE X (.Call (.Attribute o name apos) [] [] cpos) (tBM0 X.K T r to):=by
 intro pins s σ H Q I h
 refine wpAny_Call_method0_late hbase hline (thn (ho pins s σ H _ I h) fun v s1 zz=>?_)
 obtain ⟨x,H1,I1,r1,ty,q1⟩:=zz
 obtain ⟨h1,h2⟩:=tyV_is I1 r1 ty
 exact ⟨T,id,pa,slot,hty,h1,h2,Calls.callWith_builtin rfl (PySem.evalArgs_none (hm pins s1 σ H1 x [] v [] Q I1 r1 .nil q1))⟩
theorem ZCt (pa:PlainAttrs T) (slot:Slot T name id) (hty:typeOf (.builtin id)=pure (.type "method_descriptor")) (hm:MtR X id r) (ho:PE X o to) (ha:PA X (e::es) t)
  (hbase:attributeBase o name X.env (eval o X.env)=eval o X.env:=by rfl)
  (hfew:((backTo cpos (starEach (e::es) X.env)).all (fun x=>!x.1) && (backToKw cpos (keywordEach [] X.env)).all (fun x=>x.1.isSome)
   && decide ((e::es).length+([]:List Keyword).length+(if ([]:List Keyword).isEmpty then 0 else 1) < 30))=true:=by rfl)
  (hline:(apos.endLine == cpos.line)=true:=by rfl) (hs:starEach (e::es) X.env=(false,eval e X.env)::starEach es X.env:=by rfl) (hplain:(backTo cpos (starEach es X.env)).any (·.1)=false:=by rfl) :
  PE X (.Call (.Attribute o name apos) (e::es) [] cpos) (tBM X.K T r to t):=by
 intro pins s σ H Q I h
 refine wpAny_Call_method_late hbase hfew hline rfl (thn (ho pins s σ H _ I h) fun v s1 zz=>?_)
 obtain ⟨x,H1,I1,r1,ty,q1⟩:=zz
 obtain ⟨h1,h2⟩:=tyV_is I1 r1 ty
 refine ⟨T,id,pa,slot,hty,h1,h2,?_⟩
 have hA:=ha cpos pins s1 σ H1 _ I1 q1
 rw [hs] at hA ⊢
 refine Calls.callWith_builtin (by show (false || (backTo cpos (starEach es X.env)).any (·.1))=false;rw [hplain] <;> rfl) (Calls.evalArgs_plain ?_)
 exact thn hA fun us s2 ⟨vs,H2,I2,r2,q2⟩=>hm pins s2 σ H2 x vs v us Q I2 r1 r2 q2
end
noncomputable def MtM (X:Cx) (id:String) (r:V->List V->Hp->VK->Prop):Prop :=
 ∀ (pins:List (Addr×Obj)) (s:Shared) (σ:St) (H:Hp) (x:V) (xs:List V) (v:Value) (us:List Value) (Q:VK),Inv X pins σ H s->RelV x v->Vals xs us->r x xs H Q ->
  wpAny (model X.prog X.w) X.A (call (.builtin id) (v::us)) (EP X pins σ Q) X.xe s
theorem Vals.one {x:V} {us:List Value} (r:Vals [x] us):∃ u,us=[u] /\ RelV x u:=ZDu r
theorem Vals.two {x y:V} {us:List Value} (r:Vals [x,y] us):∃ u v,us=[u,v] /\ RelV x u /\ RelV y v:=ZD5 r
theorem Vals.zero:∀ {us:List Value},Vals [] us->us=[]
 | _,.nil=>rfl
theorem Vals.eraseIdx:∀ {xs:List V} {us:List Value} (i:Nat),Vals xs us->Vals (xs.eraseIdx i) (us.eraseIdx i)
 | _,_,_,.nil=>.nil
 | _,_,0,.cons _ t=>t
 | _,_,i+1,.cons r t=>.cons r (Vals.eraseIdx i t)
theorem Vals.reverse {xs:List V} {us:List Value} (h:Vals xs us):Vals xs.reverse us.reverse:=by
 induction h with
 | nil=>exact .nil
 | cons r t ih=>rw [List.reverse_cons,List.reverse_cons];exact Vals.append ih (.cons r .nil)
theorem len_erase {α:Type}:∀ (l:List α) (i:Nat),(l.eraseIdx i).length <= l.length
 | [],_=>yAA _
 | _::_,0=>yAZ _
 | _::r,i+1=>Nat.succ_le_succ (len_erase r i)
section
variable {X:Cx} {pins:List (Addr×Obj)} {σ:St} {H:Hp} {s:Shared} {l b:Addr} {xs ys zs:List V}
theorem Inv.lset {its its':List Value} {n:Nat} {f:Array Value->Array Value} {t':Nat} (I:Inv X pins σ H s) (hH:H l=some (.lst xs))
  (e:s.heap.get? l=some { cls:=.type "list",data:=.seq its.toArray n }) (hf:f its.toArray=its'.toArray) (hv:Vals ys its') (hz:ys.length <= sizeLine) :
  Inv X pins σ (upd H l (.lst ys)) { s with heap:=s.heap.update l (Obj.mapSeq f),toks:=t' }:=by
 have q:=PySem.IsL.update e f
 rw [hf] at q
 refine I.write (x:=l) (e:=l) (by rw [hH];exact trivial) (.inl rfl) (fun b' u hb hu=>(Heap.get?_update_other s.heap (Obj.mapSeq f) (Ne.symm hb)).trans hu) ⟨_,q⟩ ?_
 exact ⟨hz,its',_,hv,q⟩
theorem Inv.lnew {its:List Value} {t':Nat} (I:Inv X pins σ H s) (hv:Vals ys its) (hz:ys.length <= sizeLine) :
  Inv X pins σ (upd H s.heap.objs.size (.lst ys)) { s with heap:=s.heap.push { cls:=.type "list",data:=.seq its.toArray },toks:=t' } :=
 I.laid (fun _ _ q=>Heap.get?_push_of_some _ q) (yAA _) ⟨hz,its,0,hv,Heap.get?_push_size _ rfl⟩
theorem Inv.fresh (I:Inv X pins σ H s):H s.heap.objs.size=none:=I.hok.fresh (yAA _)
theorem Inv.lstM (I:Inv X pins σ H s) (hH:H l=some (.lst xs)):xs.length <= sizeLine /\ ∃ (its:List Value) (n:Nat),Vals xs its /\ xs.length=its.length /\ s.heap.get? l=some { cls:=.type "list",data:=.seq its.toArray n }:=by
 obtain ⟨z,its,n,r,e⟩:=I.hok l _ hH
 exact ⟨z,its,n,r,r.length,e⟩
theorem notLongL {n:Nat} (h:n <= sizeLine):Builtin.List.listTooLong n=false:=by
 unfold Builtin.List.listTooLong
 exact decide_eq_false (by omega)
end
section
variable {X:Cx}
noncomputable def rAppend:V->List V->Hp->VK->Prop:=fun x vs H Q=>∃ l xs y,x=.ref l /\ vs=[y] /\ H l=some (.lst xs) /\ xs.length < sizeLine /\ Q .non (upd H l (.lst (xs++[y])))
theorem ZB2:MtM X "list.append" rAppend:=by
 intro pins s σ H x vs v us Q I rx rv h
 obtain ⟨l,xs,y,rfl,rfl,hH,hz,q⟩:=h
 cases rx
 obtain ⟨u,rfl,ru⟩:=rv.one
 obtain ⟨z,its,n,r,hl,e⟩:=I.lstM hH
 refine call_meets F.slot_list_append ⟨_,e,rfl⟩ F.entry_list_append (F.args_list_append_2 _ _) (PySem.list_append l its.toArray n u (by rw [yAO];omega)) ⟨e,?_⟩
 refine ⟨.non,_,I.lset (its':=its++[u]) hH e (by simp) (r.append (.cons ru .nil)) ?_,rfl,q⟩
 rw [yAB,yAT]
 omega
noncomputable def rExtend:V->List V->Hp->VK->Prop:=fun x vs H Q=>∃ l b xs zs,x=.ref l /\ vs=[.ref b] /\ H l=some (.lst xs) /\ H b=some (.lst zs) /\ xs.length+zs.length <= sizeLine /\ Q .non (upd H l (.lst (xs++zs)))
theorem mt_extend:MtM X "list.extend" rExtend:=by
 intro pins s σ H x vs v us Q I rx rv h
 obtain ⟨l,b,xs,zs,rfl,rfl,hH,hB,hz,q⟩:=h
 cases rx
 obtain ⟨u,rfl,ru⟩:=rv.one
 cases ru
 obtain ⟨z,its,n,r,hl,e⟩:=I.lstM hH
 obtain ⟨z2,its2,n2,r2,hl2,e2⟩:=I.lstM hB
 have hsz:its.toArray.size+its2.toArray.size <= sizeLine:=by rw [yAO,yAO];omega
 have hlong:¬ (!its.toArray.isEmpty && Builtin.List.listTooLong (its.toArray.size+its2.toArray.size))=true:=by
  rw [notLongL hsz,Bool.and_false]
  exact yBE
 refine call_meets F.slot_list_extend ⟨_,e,rfl⟩ F.entry_list_extend (F.args_list_extend_2 _ _)
  (AutoSeq1.list_extend_list_list_0 l its.toArray n b its2.toArray n2 hlong (by rw [yAO];omega) (by omega)) ⟨e,e2,?_⟩
 refine ⟨.non,_,I.lset (its':=its++its2) hH e (by simp) (r.append r2) ?_,rfl,q⟩
 rw [yAB]
 omega
noncomputable def rPopAt:V->List V->Hp->VK->Prop:=fun x vs H Q=>∃ l xs i k y,x=.ref l /\ vs=[.int i] /\ H l=some (.lst xs) /\ -(2 ^ 63) <= i /\ i < 2 ^ 63 /\ seqIndex? i xs.length=some k /\ xs[k]?=some y /\ Q y (upd H l (.lst (xs.eraseIdx k)))
theorem ZC2:MtM X "list.pop" rPopAt:=by
 intro pins s σ H x vs v us Q I rx rv h
 obtain ⟨l,xs,i,k,y,rfl,rfl,hH,h1,h2,hk,hy,q⟩:=h
 cases rx
 obtain ⟨u,rfl,ru⟩:=rv.one
 obtain ⟨t,rfl⟩:=ru
 obtain ⟨z,its,n,r,hl,e⟩:=I.lstM hH
 obtain ⟨w,hw,rw'⟩:=r.get hy
 refine call_meets F.slot_list_pop ⟨_,e,rfl⟩ F.entry_list_pop (F.args_list_pop_2 _ _)
  (MeetsSeq.list_pop_at l its.toArray n i t k w (fitsIndex_both h1 h2) (by rw [yAO,<- hl];exact hk) (by rw [<- yBF];exact hw) (by rw [yAO];omega)) ⟨e,?_⟩
 refine ⟨y,_,I.lset (its':=its.eraseIdx k) hH e ?_ (r.eraseIdx k) ?_,rw',q⟩
 .show its.toArray.eraseIdxIfInBounds k=(its.eraseIdx k).toArray
  rw [List.eraseIdxIfInBounds_toArray]
 .have:=len_erase xs k
  omega
noncomputable def rReverse:V->List V->Hp->VK->Prop:=fun x vs H Q=>∃ l xs,x=.ref l /\ vs=[] /\ H l=some (.lst xs) /\ Q .non (upd H l (.lst xs.reverse))
theorem mt_reverse:MtM X "list.reverse" rReverse:=by
 intro pins s σ H x vs v us Q I rx rv h
 obtain ⟨l,xs,rfl,rfl,hH,q⟩:=h
 cases rx
 have hus:=rv.zero
 subst hus
 obtain ⟨z,its,n,r,hl,e⟩:=I.lstM hH
 refine call_meets F.slot_list_reverse ⟨_,e,rfl⟩ F.entry_list_reverse (F.args_list_reverse_1 _) (AutoSeq1.list_reverse_list_0 l its.toArray n (by rw [yAO];omega)) ⟨e,?_⟩
 refine ⟨.non,_,I.lset (its':=its.reverse) hH e (by simp) r.reverse ?_,rfl,q⟩
 rw [List.length_reverse]
 omega
noncomputable def rCat:R2:=fun x y H Q=>∃ l b xs zs,x=.ref l /\ y=.ref b /\ H l=some (.lst xs) /\ H b=some (.lst zs) /\ xs.length+zs.length <= sizeLine /\ ∀ p,H p=none->Q (.ref p) (upd H p (.lst (xs++zs)))
theorem ZEW:OpR X (binaryOp .Add) rCat:=by
 intro pins s σ H x y v u Q I rx ry h
 obtain ⟨l,b,xs,zs,rfl,rfl,hH,hB,hz,q⟩:=h
 cases rx
 cases ry
 obtain ⟨z,its,n,r,hl,e⟩:=I.lstM hH
 obtain ⟨z2,its2,n2,r2,hl2,e2⟩:=I.lstM hB
 refine PySem.P.add_list e e2 ?_ (by rw [yAO,yAO];omega)
 have ea:its.toArray++its2.toArray=(its++its2).toArray:=by simp
 rw [ea]
 exact ⟨.ref _,_,I.lnew (t':=s.toks) (r.append r2) (by rw [yAB];omega),rfl,q _ I.fresh⟩
end
section
variable {prog:Program} {w:World} {A:Around} {E:Value->Shared->Prop} {s:Shared}
set_option maxRecDepth 100000 in
end
section
variable {X:Cx}
end
end L2
namespace Att
open PySem PySem.W PySem.Calls PyProof.Rows
theorem ints_of_wellAll {P:Params} {h:Heap}:∀ (ns:List Int) (vs:List Value),WellAll P h vs (ns.map WData.int)->IntsAre vs ns:=by
 intro ns
 induction ns with
 | nil=>
  intro vs w
  rw [List.map_nil] at w
  cases w
  exact .nil
 | cons n ns ih=>
  intro vs w
  rw [yAY] at w
  cases w with
  | cons a b=>
   cases a
   exact .cons _ _ (ih _ b)
theorem script_of {l:OpenLaw} {n:Nat} (hn:l.most=some n) {P:Params} {h:Heap} {args:List WData} {vals:List Value}
  (hpre:l.row.toRowW.claim.pre args=true) (hwl:WellAll P h vals args) :
  ∃ a vs ns,vals=[Value.ref a] /\ args=[WData.list (ns.map WData.int)] /\ h.get? a=some { cls:=.type "list",data:=.seq vs.toArray } /\ IntsAre vs ns /\ ns.length <= n:=by
 have hsh:WShape.hasAll [] args [.list .int]=true:=(pre_splitW hpre).1
 have hc:l.pre.holds [] { args:=args }=true:=(pre_splitW hpre).2
 obtain ⟨d,r,rfl,h1,h2⟩:=hasAllW_cons hsh
 obtain rfl:=hasAllW_nil h2
 obtain ⟨xs,rfl,h3⟩:=hasW_list h1
 obtain ⟨ns,rfl⟩:=items_int h3
 have hlen:ns.length <= n:=by
  unfold OpenLaw.pre at hc
  have h4:(WTm.not (.lt (.lit (.int (n:Int))) (.len (.arg 0)))).holds [] { args:=[.list (ns.map .int)] }=true:=by
   have h4:=(holds_andW hc).1
   rw [hn] at h4
   exact h4
  have h5:=condW_of h4 (w_not (w_lt w_lit (w_len_list (w_arg rfl))))
  rw [yAC] at h5
  refine Nat.le_of_not_lt fun q=>?_
  have q':(n:Int) < ((ns.length:Nat):Int):=by omega
  first
   | (rw [decide_eq_true q'] at h5;exact absurd h5 (by decide))
   | (simp at h5;omega)
 cases hwl with
 | cons w1 w2=>
  cases w2
  cases w1 with
  | list ho hall=>exact ⟨_,_,ns,rfl,rfl,ho,ints_of_wellAll ns _ hall,hlen⟩
theorem post_true (l:OpenLaw) (args:List WData):l.row.toRowW.claim.post args (.bool true) args=true :=
 postW_of (r:=l.row.toRowW) (X:=(true == true))
  (show WShape.has [] (.bool true) .bool=true by first | rfl | decide | simp [WShape.has,WShape.arms,WShape.armsAll])
  (show (WTm.eq .res (.lit (.bool true))).value [] { args:=args,res:=some (.bool true),after:=args }=some (.bool (true == true)) from w_eq_bool (w_res rfl) w_lit) rfl
theorem attach_call {l:OpenLaw} {n:Nat} {q:Program} {loose:List Str} {XP:(Str->Option Value)->Heap->Prop} {YP:World->Heap->Prop} {d:DefRec}
  (hn:l.most=some n) (hdf:d.params.defaults=[])
  (call:∀ (w:World) (s₀ s₁:Shared) (mg mb:Str->Option Value) (fa:Addr) (o:Obj) (pm cd doc:Value) (a:Addr) (vs:List Value) (ns:List Int),
   Ground q loose [] XP w s₀ mg mb s₁.heap->YP w s₁.heap ->
   s₁.heap.get? fa=some o->o.data=.func (docDef d.name d.params d.body d.scope pm cd doc)->s₁.heap.CodeRec cd d.name->mg d.name=some (.ref fa) ->
   s₁.heap.get? a=some { cls:=.type "list",data:=.seq vs.toArray }->IntsAre vs ns->ns.length <= n->s₁.gens=#[] ->
   codeAny (model l.prog w) callerA (.call (.ref fa) ⟨[.ref a],[]⟩) (fun r s'=>r=.ok (.ret (.bool true)) /\ OldK s₁.heap s'.heap /\ s'.os=s₁.os /\ AllBare s'.gens) s₁) :
  WalkO q loose XP YP l.row.toRowW d [] (fun f vs=>PySem.call f vs):=by
 intro w s₀ s₁ mg mb G Y fa o pm cd doc dV kV ho hd hcd hD hmg hg args vals as hpre hlay hrd hwl hlo
 obtain rfl:dV=.none:=Dflts.none hD hdf
 obtain rfl:kV=.none:=Dflts.noKw hD
 obtain ⟨a,vs,ns,rfl,rfl,hobj,hints,hlen⟩:=script_of hn hpre hwl
 refine enter_call (codeAny_mono (call w s₀ s₁ mg mb fa o pm cd doc a vs ns G Y ho (fd_plain hd) hcd hmg hobj hints hlen hg) fun r s' hq=>?_)
 obtain ⟨rfl,h2,h3,h4⟩:=hq
 exact ⟨.inl ⟨.bool true,.bool true,[],rfl,fun _=>rfl,.bool true,post_true l _,fun _=>⟨List.Pairwise.nil,fun _ hm=>(nomatch hm)⟩⟩,h2,h3,h4⟩
section
variable {prog:Program} {w:World} {A:Around} {E:Value->Shared->Prop} {s:Shared} {K:Frag}
end
end Att
namespace L2
open PySem PySem.Spec PyProof.Rows
theorem ZC4:∀ {vs:List Value} {ns:List Int},IntsAre vs ns->Vals (ns.map V.int) vs
 | _,_,.nil=>.nil
 | _,_,.cons n t h=>.cons ⟨t,rfl⟩ (ZC4 h)
noncomputable def Only (H:Hp):Prop:=∀ b,H b=none∨∃ o xs,H b=some (.frz o (.lst xs))
theorem law_call {P:Program} {w:World} {K:W.Frag} {mg mb:Str->Option Value} {CX:CXT} {k:Nat} {fa a:Addr} {fd:FuncData} {x:Str} {sp:Sp} {s₁:Shared} {vs:List Value} {ns:List Int}
  (KX:K.In s₁.heap) (hns:s₁.heap.Ns mainGlobals mg) (hb:s₁.heap.Ns builtinsNs mb) (hbb:∀ x:Str,x≠"__name__"->mb x=bootBuiltins x) (hlim:s₁.heap.NoLimit) (hg:s₁.gens=#[])
  (ha:s₁.heap.get? a=some { cls:=.type "list",data:=.seq vs.toArray }) (hi:IntsAre vs ns) (hl:ns.length <= sizeLine) (hr:Room k callerA)
  (F:∀ base:Heap,K.In base->base.Ns mainGlobals mg->FnOk P w K mg base CX k fa fd [x] sp) (hbind:∀ (s:Shared) (u:Value),BindsTo s fd ⟨[u],[]⟩ [(x,u)])
  (hsp:∀ H:Hp,Only H->SqL K H a (ns.map V.int)->sp [.ref a] H (fun v _=>v=.bl true) fun _ _ _=>False)
  (hCX:∀ H e s',CX [] H s₁ (fun _ _ _=>False) e s'->False) :
  codeAny (model P w) callerA (.call (.ref fa) ⟨[.ref a],[]⟩) (fun r s'=>r=.ok (.ret (.bool true)) /\ OldK s₁.heap s'.heap /\ s'.os=s₁.os /\ AllBare s'.gens) s₁:=by
 have rv:=ZC4 hi
 have lenV:=hi.length
 have core:∀ H:Hp,Only H->SqL K H a (ns.map V.int)->HOk P w H s₁.heap->(∀ b,H b≠none->b=a)->(H a≠none->K.lookup a=none) ->
   codeAny (model P w) callerA (.call (.ref fa) ⟨[.ref a],[]⟩) (fun r s'=>r=.ok (.ret (.bool true)) /\ OldK s₁.heap s'.heap /\ s'.os=s₁.os /\ AllBare s'.gens) s₁:=by
  intro H hO hS hok hA hK
  have base_of:∀ {b:Addr} {o:Obj},s₁.heap.get? b=some o->H b=none->(hidT s₁.heap H).get? b=some o:=fun e n=>hidT_get e n
  have noA:∀ {b:Addr} {o:Obj} {es:Array DictEntry} {ep:Nat},s₁.heap.get? b=some o->o.data=.dict es ep->H b=none:=fun {b o es ep} e d=>by
   cases q:H b with
   | none=>rfl
   | some u=>
    have e':b=a:=hA b (by rw [q];simp)
    subst e'
    rw [ha] at e;cases e
    have d':Data.seq vs.toArray _=Data.dict es ep:=d
    cases d'
  have nsK:∀ {b:Addr} {m:Str->Option Value},s₁.heap.Ns b m->(hidT s₁.heap H).Ns b m:=fun {b m} ⟨o,es,ep,e,d,r⟩=>⟨o,es,ep,base_of e (noA e d),d,r⟩
  have hKb:K.In (hidT s₁.heap H):=fun b o e=>base_of (KX b o e) (by
   cases q:H b with
   | none=>rfl
   | some u=>
    have e':b=a:=hA b (by rw [q];simp)
    subst e'
    rw [hK (by rw [q];simp)] at e;cases e)
  have hM:Mod K mg (hidT s₁.heap H):=⟨hKb,nsK hns,⟨mb,nsK hb,hbb⟩,let ⟨mc,h1,h2⟩:=hlim;⟨mc,nsK h1,h2⟩⟩
  have e0:Env0 P w K mg (hidT s₁.heap H) callerA [] s₁ H:=⟨rfl,hM,fun b o e=>of_hidT e,Nat.le_of_eq (hidT_size _ _),trivial,fun b hb=>absurd (show b∈([]:List Addr) from hb) (by simp),hok,.of_eq hg⟩
  refine codeAny_mono ((F _ hKb (nsK hns)).run callerA [] s₁ H ⟨[.ref a],[]⟩ [.ref a] [.ref a] _ _ hr e0 (hbind s₁ (.ref a)) (.cons rfl .nil) (hsp H hO hS)) fun r s' h=>?_
  cases r with
  | error e=>exact (hCX H e s' h).elim
  | ok fl=>
   cases fl with
   | next=>exact False.elim h
   | brk=>exact False.elim h
   | cont=>exact False.elim h
   | ret u=>
    obtain ⟨v,H',os,bare,un,hok',r',q⟩:=h
    have q':v=.bl true:=q
    subst q'
    obtain rfl:u=Value.bool true:=r'
    refine ⟨rfl,OldK.of_keep fun b o e=>?_,os,bare⟩
    cases q:H b with
    | none=>exact un.keep b o e q (by intro z;exact absurd (show b∈([]:List Addr) from z) (by simp)) (by simp)
    | some u=>
     rcases hO b with z | ⟨ob,xs,z⟩
     .rw [q] at z;cases z
     .have z2:=un.frzs b ob _ z
      obtain ⟨e1,_⟩:=hok b _ z
      obtain ⟨e2,_⟩:=hok' b _ z2
      rw [e] at e1;cases e1
      exact e2
 cases hk:K.lookup a with
 | some o=>
  have e:=KX a o hk
  rw [ha] at e
  cases e
  refine core (fun _=>none) (fun _=>.inl rfl) (.inr ⟨_,vs.toArray,_,hk,rfl,rfl,rfl,by rw [yAO,lenV];exact hl,by simpa using rv⟩) (fun b u z=>by have z':(none:Option HO)=some u:=z;cases z') (fun b z=>absurd rfl z) fun z=>absurd rfl z
 | none=>
  refine core (fun b=>if b=a then some (.frz { cls:=.type "list",data:=.seq vs.toArray } (.lst (ns.map V.int))) else none) (fun b=>?_) (.inl (.inr ⟨{ cls:=.type "list",data:=.seq vs.toArray },if_pos rfl⟩)) (fun b u z=>?_) (fun b z=>?_) fun _=>hk
  .by_cases hb:b=a
   .exact .inr ⟨_,_,if_pos hb⟩
   .exact .inl (if_neg hb)
  .by_cases hb:b=a
   .have z':=(if_pos hb).symm.trans z
    cases z'
    subst hb
    exact ⟨ha,by rw [yAC];exact hl,vs,_,rv,ha⟩
   .have z':=(if_neg hb).symm.trans z
    cases z'
  .by_cases hb:b=a
   .exact hb
   .exact absurd (if_neg hb) z
theorem walk_of {l:PySem.W.OpenLaw} {n k:Nat} {q:Program} {loose:List Str} {XP:(Str->Option Value)->Heap->Prop} {YP:World->Heap->Prop} {d:DefRec} {K:Params->W.Frag} {CX:World->CXT} {sp:World->Sp} {x:Str}
  (hn:l.most=some n) (hn2:n <= sizeLine) (hdf:d.params.defaults=[]) (hr:Room k callerA)
  (hY:∀ (w:World) (h:Heap),YP w h->(K w.params).In h)
  (F:∀ (w:World) (mg:Str->Option Value) (fa:Addr) (h:Heap),(K w.params).In h->h.Ns mainGlobals mg->mg d.name=some (.ref fa) ->
   ∃ fd:FuncData,(∀ (s:Shared) (u:Value),BindsTo s fd ⟨[u],[]⟩ [(x,u)]) /\
    ∀ base:Heap,(K w.params).In base->base.Ns mainGlobals mg->FnOk l.prog w (K w.params) mg base (CX w) k fa fd [x] (sp w))
  (hsp:∀ (w:World) (H:Hp) (a:Addr) (ns:List Int),ns.length <= n->Only H->SqL (K w.params) H a (ns.map V.int)->sp w [.ref a] H (fun v _=>v=.bl true) fun _ _ _=>False)
  (hCX:∀ (w:World) (H:Hp) (s:Shared) (e:Value) (s':Shared),CX w [] H s (fun _ _ _=>False) e s'->False) :
  PySem.W.WalkO q loose XP YP l.row.toRowW d [] (fun f vs=>PySem.call f vs):=by
 refine Att.attach_call hn hdf fun w s₀ s₁ mg mb fa o pm cd doc a vs ns G Y ho hd hcd hmg hobj hints hlen hg=>?_
 have KX:=hY w _ Y
 obtain ⟨fd,hb,hF⟩:=F w mg fa _ KX G.T.g hmg
 exact law_call KX G.T.g G.T.b G.T.builtins G.T.nolimit hg hobj hints (yAK hlen hn2) hr hF hb (fun H hO hS=>hsp w H a ns hlen hO hS) fun H e s'=>hCX w H s₁ e s'
end L2
namespace L2
open PySem PySem.Spec PyProof.Rows
noncomputable def ZAk (s:Stmt) (j:Nat):Stmt:=match s with
 | .ClassDef _ _ _ body _ _ _ _ _ _ _=>body.getD j (.Pass ⟨0,0,0,0⟩)
 | _=>.Pass ⟨0,0,0,0⟩
noncomputable def ZAP (s:Stmt):Arguments:=match s with
 | .FunctionDef _ a _ _ _ _ _ _ _ _=>a
 | _=>{ posonlyargs:=[],args:=[],vararg:=none,kwonlyargs:=[],kw_defaults:=[],kwarg:=none,defaults:=[] }
noncomputable def ZAM (s:Stmt):List Stmt:=match s with
 | .FunctionDef _ _ b _ _ _ _ _ _ _=>b
 | _=>[]
noncomputable def ZAE (s:Stmt):Scope:=match s with
 | .FunctionDef _ _ _ _ _ _ sc _ _ _=>sc
 | _=>{ kind:=.function,names:=[],isGenerator:=false,isCoroutine:=false }
noncomputable abbrev CX0:CXT:=fun _ _ _ _ _ _=>False
noncomputable abbrev E0:XK:=fun _ _ _=>False
theorem ZAY {X:Cx}:ZBH CX0 X E0:=fun _ _ _ _ _ _ _ h=>h.elim
structure Fun (K:W.Frag) (x qual:Str) (st:Stmt) (f:Addr) (fd:FuncData):Prop where
 ex:∃ (oc:Value) (od:Option Addr) (kV doc pm:Value) (an:Option Addr) (cdv ct:Value) (osl:Array (Option Value)),
  fd=W.fnOf x qual (ZAP st) (ZAM st) (ZAE st) .none kV doc pm an cdv ct /\ K.lookup f=some ⟨oc,od,.func fd,osl⟩ /\ W.codeIn K cdv qual=true
 kp:W.keepIn K (.ref f)=true
section
variable {P:Program} {w:World} {K:W.Frag} {mg:Str->Option Value} {base:Heap}
theorem Fun.ok {x qual:Str} {st:Stmt} {f:Addr} {fd:FuncData} {N ps:List Str} {k:Nat} {sp:Sp} (F:Fun K x qual st f fd) (S:FnScope N ps (ZAE st)) (len:∀ vs H Q E,sp vs H Q E->vs.length=ps.length)
  (hbody:∀ (cdv:Value) (A:Around) (outer:List Env) (s:Shared) (H:Hp) (vs:List V) (Q:VK) (E:XK),Room k (A.deeper (envOfC qual (ZAE st) s.heap.objs.size f cdv))->sp vs H Q E ->
   ∃ t,PSs (cxOf CX0 P w K mg base N qual (ZAE st) f cdv A outer s H E).nox (ZAM st) t /\ t { nx:=fun _ H'=>Q .non H',rt:=Q } (start N vs) H):FnOk P w K mg base CX0 (k+1) f fd ps sp:=by
 obtain ⟨oc,od,kV,doc,pm,an,cdv,ct,osl,rfl,lk,hcd⟩:=F.ex
 refine ZFA lk hcd S len fun A outer s H vs Q E hr hsp=>?_
 obtain ⟨t,h,q⟩:=hbody cdv A outer s H vs Q E hr hsp
 exact ⟨t,h.nox,q⟩
theorem Fun.binds {x qual:Str} {st:Stmt} {f:Addr} {fd:FuncData} {ps:List Str} (F:Fun K x qual st f fd)
  (h:∀ (kV doc pm:Value) (an:Option Addr) (cdv ct:Value) (us:List Value),us.length=ps.length->bindArgs (W.fnOf x qual (ZAP st) (ZAM st) (ZAE st) .none kV doc pm an cdv ct) ⟨us,[]⟩=pure (ps.zip us)):Binds K fd ps []:=by
 obtain ⟨oc,od,kV,doc,pm,an,cdv,ct,osl,rfl,lk,hcd⟩:=F.ex
 exact .all (h kV doc pm an cdv ct)
theorem ZAd {x qual:Str} {st:Stmt} {f:Addr} {oc:Value} {od an:Option Addr} {osl:Array (Option Value)} {kV doc pm cdv ct:Value} (l:K.lookup f=some ⟨oc,od,.func (W.fnOf x qual (ZAP st) (ZAM st) (ZAE st) .none kV doc pm an cdv ct),osl⟩)
  (c:W.codeIn K cdv qual=true) (k:W.keepIn K (.ref f)=true):Fun K x qual st f (W.fnOf x qual (ZAP st) (ZAM st) (ZAE st) .none kV doc pm an cdv ct):=⟨⟨oc,od,kV,doc,pm,an,cdv,ct,osl,rfl,l,c⟩,k⟩
end
theorem ZBc {n:Nat} (h:n <= 1000):n < sizeLine:=Nat.lt_of_le_of_lt h (by decide)
section
variable {X:Cx}
theorem pv (i:Nat) {x:Str} {pos:Pos} (hN:X.N[i]?=some x:=by rfl) (hv:Vis X.env.scope x:=by first | exact Or.inl rfl | exact Or.inr (Or.inl rfl) | exact Or.inr (Or.inr rfl)) (hd:(x == ("__debug__":Str))=false:=by decide)
  (hcd:(x == ("__classdict__":Str))=false:=by decide):PE X (.Name x pos) (tVar i):=pe_var hN hv hd hcd
end
noncomputable def Same (H H':Hp):Prop:=∀ b o,H b=some o->H' b=some o
theorem Same.refl (H:Hp):Same H H:=fun _ _ h=>h
theorem Same.trans {H H1 H2:Hp} (a:Same H H1) (b:Same H1 H2):Same H H2:=fun c o h=>b c o (a c o h)
theorem Same.free {H H':Hp} (e:Same H H') {l:Addr} (h:H' l=Option.none):H l=Option.none:=by
 cases q:H l with
 | none=>rfl
 | some o=>
  rw [e l o q] at h
  cases h
theorem Same.seq {K:W.Frag} {H H':Hp} {a:Addr} {xs:List V} (e:Same H H') (h:SqL K H a xs):SqL K H' a xs:=by
 rcases h with (h | ⟨o,h⟩) | h
 .exact .inl (.inl (e _ _ h))
 .exact .inl (.inr ⟨o,e _ _ h⟩)
 .exact .inr h
end L2
set_option maxHeartbeats 4000000
namespace L2
open PySem PySem.Spec PyProof.Rows
theorem natlt {a b:Addr} (h:a < b):@LT.lt Nat _ a b:=h
theorem ZDI {a b:Addr} {n:Nat} (h:a < n) (k:n <= b):a≠b:=yAU (yAX h k)
theorem ZA4:∀ (names:List (Str×NameKind)) (n:Nat) (acc:List (Str×Addr)),cellsFrom n names acc=cellsFrom n names []++acc
 | [],_,_=>rfl
 | (x,k)::r,n,acc=>by
  unfold cellsFrom
  split
  .rw [ZA4 r (n+1) ((x,n)::acc),ZA4 r (n+1) [(x,n)],yAJ];rfl
  .exact ZA4 r n acc
theorem ZBt:∀ (names:List (Str×NameKind)) (n:Nat) (acc:List (Str×Addr)) (y:Str) (c:Addr),(y,c)∈cellsFrom n names acc->(y,c)∈acc∨((y,NameKind.cell)∈names /\ n <= c)
 | [],_,_,_,_,h=>.inl h
 | (x,k)::r,n,acc,y,c,h=>by
  unfold cellsFrom at h
  split at h
  .rename_i hk
   have hk':k=.cell:=by simpa using hk
   rcases ZBt r (n+1) _ y c h with h | ⟨h,l⟩
   .rcases yAE.mp h with e | h
    .cases e;subst hk';exact .inr ⟨yAF,yAA _⟩
    .exact .inl h
   .exact .inr ⟨yAD _ h,Nat.le_of_succ_le l⟩
  .rcases ZBt r n _ y c h with h | ⟨h,l⟩
   .exact .inl h
   .exact .inr ⟨yAD _ h,l⟩
noncomputable def ZAl (cells:List (Str×Addr)):List (Str×NameKind)->List (Str×Addr)->List (Str×Addr)
 | [],acc=>acc
 | (x,k)::r,acc=>if k == .free then ZAl cells r ((x,(cells.lookup x).getD 0)::acc) else ZAl cells r acc
theorem ZB6 {cells:List (Str×Addr)}:∀ (names:List (Str×NameKind)) (acc:List (Str×Addr)) (y:Str) (c:Addr),(y,c)∈ZAl cells names acc->(y,c)∈acc∨((y,NameKind.free)∈names /\ c=(cells.lookup y).getD 0)
 | [],_,_,_,h=>.inl h
 | (x,k)::r,acc,y,c,h=>by
  unfold ZAl at h
  split at h
  .rename_i hk
   have hk':k=.free:=by simpa using hk
   rcases ZB6 r _ y c h with h | ⟨h,l⟩
   .rcases yAE.mp h with e | h
    .cases e;subst hk';exact .inr ⟨yAF,rfl⟩
    .exact .inl h
   .exact .inr ⟨yAD _ h,l⟩
  .rcases ZB6 r _ y c h with h | ⟨h,l⟩
   .exact .inl h
   .exact .inr ⟨yAD _ h,l⟩
theorem ZB8 {cells:List (Str×Addr)}:∀ (names:List (Str×NameKind)) (acc:List (Str×Addr)) (p:Str×Addr),p∈acc->p∈ZAl cells names acc
 | [],_,_,h=>h
 | (x,k)::r,acc,p,h=>by
  unfold ZAl
  split
  .exact ZB8 r _ p (yAD _ h)
  .exact ZB8 r _ p h
theorem ZB7 {cells:List (Str×Addr)}:∀ (names:List (Str×NameKind)) (acc:List (Str×Addr)) (y:Str),(y,NameKind.free)∈names->(y,(cells.lookup y).getD 0)∈ZAl cells names acc
 | [],_,_,h=>nomatch h
 | (x,k)::r,acc,y,h=>by
  unfold ZAl
  rcases yAE.mp h with e | h
  .cases e
   rw [if_pos (by rfl)]
   exact ZB8 r _ _ yAF
  .split
   .exact ZB7 r _ y h
   .exact ZB7 r _ y h
theorem ZBq {α:Type}:∀ {l:List (Str×α)} {y:Str} {c:α},(y,c)∈l->∃ c',l.lookup y=some c'
 | (k,v)::r,y,c,h=>by
  rw [yBU]
  cases hb:y == k with
  | true=>exact ⟨v,rfl⟩
  | false=>
   rcases yAE.mp h with e | h
   .cases e;rw [beq_self_eq_true] at hb;cases hb
   .exact ZBq h
theorem ZBs {env:Env} (f:Str×NameKind->List (Str×Addr)->Sem (ForInStep (List (Str×Addr))))
  (hf:∀ name kind cs,f (name,kind) cs=if kind == .free then (do let a <- cellOf env name;pure (.yield ((name,a)::cs))) else pure (.yield cs)) :
  ∀ (names:List (Str×NameKind)) (acc:List (Str×Addr)),(∀ x,(x,NameKind.free)∈names->∃ c,env.cells.lookup x=some c)->forIn names acc f=(pure (ZAl env.cells names acc):Sem (List (Str×Addr)))
 | [],acc,_=>by rw [List.forIn_nil];rfl
 | (x,k)::r,acc,h=>by
  have hr:∀ x,(x,NameKind.free)∈r->∃ c,env.cells.lookup x=some c:=fun y hy=>h y (yAD _ hy)
  rw [List.forIn_cons,hf]
  unfold ZAl
  split
  .rename_i hk
   have hk':k=.free:=by simpa using hk
   subst hk'
   obtain ⟨c,hc⟩:=h x yAF
   have e:cellOf env x=(pure c:Sem Addr):=by unfold cellOf;rw [hc]
   rw [e,hc]
   exact ZBs f hf r ((x,c)::acc) hr
  .exact ZBs f hf r acc hr
theorem closureFor_eq {scope:Scope} {env:Env} (h:∀ x,(x,NameKind.free)∈scope.names->∃ c,env.cells.lookup x=some c):closureFor scope env=pure (ZAl env.cells scope.names []):=by
 simp only [closureFor]
 rw [ZBs _ (fun name kind cs=>by cases hk:kind == NameKind.free <;> simp [hk]) scope.names [] h]
 rfl
section
variable {M:Model} {A:Around} {E:Value->Shared->Prop} {s:Shared}
theorem newEnv_comp {scope:Scope} {globals:Addr} {cl:List (Str×Addr)} {qual:Str} {env:Env} {Q:Env->Shared->Prop}
  (hQ:Q { scope:=scope,locals:=s.heap.objs.size,globals:=globals,cells:=cellsFrom (s.heap.objs.size+1) scope.names cl,qual:=qual,func:=none,code:=env.code,frame:=env.frame,builtins:=env.builtins }
   { s with heap:=pushCells (s.heap.push { cls:=.type "dict",data:=.dict #[] }) scope.names }) :
  wpAny M A (newFunctionEnv scope globals cl [] qual none .none (some env)) Q E s:=by
 simp only [newFunctionEnv,Option.isSome_some,if_true]
 refine wpAny_bind (wpAny_alloc ?_)
 refine wpAny_bind (wpAny_layCells _ (fun name kind cells=>by cases hkc:kind == NameKind.cell <;> simp [hkc]) _ _ _ _ ?_)
 rw [show ({ s with heap:=s.heap.push { cls:=.type "dict",data:=.dict #[] } }:Shared).heap.objs.size=s.heap.objs.size+1 from Heap.size_push ..]
 rw [List.forIn_nil]
 exact wpAny_bind (wpAny_pure (wpAny_pure hQ))
end
theorem relabel_lookup {scope:Scope} {env:Env} (x:Str):(relabel scope env).names.lookup x=(scope.names.lookup x).map fun k=>if (k == .free && env.scope.kind == .function && env.kindOf x == some .cell)=true then NameKind.cell else k:=by
 unfold relabel
 dsimp only
 generalize scope.names=names
 induction names with
 | nil=>rfl
 | cons p r ih=>
  obtain ⟨n,k⟩:=p
  rw [yAY,yBU (as:=r)]
  cases hx:x == n with
  | true=>
   have e:x=n:=beq_iff_eq.mp hx
   subst e
   by_cases hc:(k == NameKind.free && env.scope.kind == .function && env.kindOf x == some .cell)=true
   .simp only [hc,if_true,yBU,hx,Option.map_some]
   .simp only [hc,Bool.false_eq_true,if_false,yBU,hx,Option.map_some]
  | false=>
   by_cases hc:(k == NameKind.free && env.scope.kind == .function && env.kindOf n == some .cell)=true
   .simp only [hc,if_true,yBU,hx];exact ih
   .simp only [hc,Bool.false_eq_true,if_false,yBU,hx];exact ih
noncomputable def ZDr (N:List Str) (osc:Scope) (k:Nat) (js:List Nat) (N':List Str) (sc:Scope):Bool :=
 decide (sc.kind=.function) && decide (N'.length=k+js.length) && decide N'.Nodup &&
 sc.names.all (fun p=>decide (sc.names.lookup p.1=some p.2) && (decide (p.2≠.free) || decide (osc.names.lookup p.1=some .cell) || decide (osc.names.lookup p.1=some .free))) &&
 (List.range js.length).all (fun i=>decide (js[i]?.bind (fun j=>N[j]?)=N'[k+i]?) && decide ((N'[k+i]?).bind (fun y=>sc.names.lookup y)=some .free))
structure CmpOk (N:List Str) (osc:Scope) (k:Nat) (js:List Nat) (N':List Str) (sc:Scope):Prop where
 kind:sc.kind=.function
 len:N'.length=k+js.length
 nd:N'.Nodup
 look:∀ p∈sc.names,sc.names.lookup p.1=some p.2
 fr:∀ y,(y,NameKind.free)∈sc.names->osc.names.lookup y=some .cell∨osc.names.lookup y=some .free
 js:∀ i j,js[i]?=some j->∃ y,N'[k+i]?=some y /\ N[j]?=some y /\ sc.names.lookup y=some .free
theorem cmpOk {N:List Str} {osc:Scope} {k:Nat} {js:List Nat} {N':List Str} {sc:Scope} (h:ZDr N osc k js N' sc=true):CmpOk N osc k js N' sc:=by
 unfold ZDr at h
 simp only [Bool.and_eq_true,decide_eq_true_eq,List.all_eq_true,Bool.or_eq_true,List.mem_range] at h
 obtain ⟨⟨⟨⟨h1,h2⟩,h3⟩,h4⟩,h5⟩:=h
 refine ⟨h1,h2,h3,fun p hp=>(h4 p hp).1,fun y hy=>?_,fun i j hj=>?_⟩
 .rcases (h4 _ hy).2 with (z | z) | z
  .exact absurd rfl z
  .exact .inl z
  .exact .inr z
 .have hi:i < js.length:=(yAH.mp hj).1
  obtain ⟨a,b⟩:=h5 i hi
  rw [hj] at a
  cases e:N'[k+i]? with
  | none=>rw [e] at b;cases b
  | some y=>
   rw [e] at a b
   exact ⟨y,rfl,a,b⟩
noncomputable def ZDq (scope:Scope) (cl:List (Str×Addr)) (C:Addr) (env:Env):Env :=
 { scope:=relabel scope env,locals:=C,globals:=env.globals,cells:=cellsFrom (C+1) scope.names cl,qual:=env.qual,func:=none,code:=env.code,frame:=env.frame,builtins:=env.builtins }
noncomputable def ZCQ (X:Cx) (N':List Str) (scope:Scope) (C:Addr) (fp:List Addr) (s2:Shared) (H2:Hp):Cx where
 prog:=X.prog
 w:=X.w
 K:=X.K
 mg:=X.mg
 base:=X.base
 A:=X.A
 N:=N'
 s₀:=s2
 H₀:=H2
 env:=ZDq scope (ZAl X.env.cells scope.names []) C X.env
 outer:=X.stack
 stack:=X.stack
 ex:=fp
 fn:=fun x=>decide (scope.names.lookup x=some .cell)
 calm:=X.calm
 pn:=[]
 xe:=fun _ _=>False
noncomputable def up (k:Nat) (js:List Nat) (σ:St):St:=List.replicate k none++js.map fun j=>(σ[j]?).getD none
section
variable {X:Cx} {pins:List (Addr×Obj)} {σ:St} {H:Hp} {s2:Shared} {k:Nat} {js:List Nat} {N':List Str} {scope:Scope} {fp:List Addr}
theorem comp_inv (hc:CmpOk X.N X.env.scope k js N' scope) (I:Inv X pins σ H s2) (hfp:∀ b∈fp,FpOk X pins H b) (hlt:∀ b∈fp,b < s2.heap.objs.size) {h3:Heap} (hz:h3.objs.size=s2.heap.objs.size+1) (hk3:∀ b o,s2.heap.get? b=some o->h3.get? b=some o) :
  Inv (ZCQ X N' scope (s2.heap.objs.size+1) fp s2 H) [] (up k js σ) H { s2 with heap:=pushCells (h3.push { cls:=.type "dict",data:=.dict #[] }) scope.names }:=by
 have frLook:∀ y,(y,NameKind.free)∈scope.names->∃ c,X.env.cells.lookup y=some c:=fun y hy=>I.ok.has y (hc.fr y hy)
 have ok0:=cellsFrom_ok scope.names (h3.push { cls:=.type "dict",data:=.dict #[] }) (s2.heap.objs.size+2) [] ⟨fun _ _ hm=>(nomatch hm),List.Pairwise.nil⟩ (by rw [Heap.size_push,hz];exact yAA _)
 rw [Heap.size_push,hz] at ok0
 have parts:∀ y c,(ZDq scope (ZAl X.env.cells scope.names []) (s2.heap.objs.size+1) X.env).cells.lookup y=some c ->
   ((y,c)∈cellsFrom (s2.heap.objs.size+2) scope.names [] /\ (y,NameKind.cell)∈scope.names /\ s2.heap.objs.size+2 <= c)∨((y,NameKind.free)∈scope.names /\ X.env.cells.lookup y=some c):=fun y c e=>by
  have m:=PySem.mem_of_lookup e
  change (y,c)∈cellsFrom (s2.heap.objs.size+1+1) scope.names _ at m
  rw [ZA4] at m
  rcases yBD.mp m with m | m
  .rcases ZBt _ _ _ _ _ m with z | ⟨z,l⟩
   .cases z
   .exact .inl ⟨m,z,l⟩
  .rcases ZB6 _ _ _ _ m with z | ⟨z,l⟩
   .cases z
   .obtain ⟨c',e'⟩:=frLook y z
    rw [e'] at l
    exact .inr ⟨z,by rw [e'];exact congrArg some l.symm⟩
 have old:∀ y c,X.env.cells.lookup y=some c->c < s2.heap.objs.size:=fun y c e=>by
  obtain ⟨v,q⟩:=I.cell y c e
  exact q.lt
 have freeAt:∀ y,(y,NameKind.free)∈scope.names->∀ c,X.env.cells.lookup y=some c->(ZDq scope (ZAl X.env.cells scope.names []) (s2.heap.objs.size+1) X.env).cells.lookup y=some c:=fun y hy c e=>by
  have m:(y,c)∈cellsFrom (s2.heap.objs.size+1+1) scope.names (ZAl X.env.cells scope.names []):=by
   rw [ZA4]
   have q:=ZB7 (cells:=X.env.cells) scope.names [] y hy
   rw [e] at q
   exact yAV _ q
  obtain ⟨c',q⟩:=ZBq m
  rcases parts y c' q with ⟨_,z,_⟩ | ⟨_,z⟩
  .have z1:=hc.look _ z
   have z2:=hc.look _ hy
   rw [z1] at z2
   cases z2
  .rw [e] at z
   cases z
   exact q
 have keepAll:∀ b o,s2.heap.get? b=some o->(pushCells (h3.push { cls:=.type "dict",data:=.dict #[] }) scope.names).get? b=some o:=fun b o e=>pushCells_keeps _ _ b o (Heap.get?_push_of_some _ (hk3 b o e))
 refine ⟨⟨I.ok.mod,hc.kind,I.ok.glob,I.ok.blt,yAZ _,fun y z c h1 h2=>?_,fun y hy=>?_,fun y c h1 h2=>?_,I.ok.hd,I.ok.frames,.inl rfl,fun b hb=>⟨?_,fun y c e=>?_⟩,I.bs,yAK I.ok.bsz I.sz,fun b o e hb=>?_,fun b hb hs=>?_,I.stack,I.stkFree⟩,
  rfl,I.bare,Un.kept keepAll,⟨fun _=>none,?_,fun i y v e1 e2 e3=>?_⟩,fun y c e=>?_,I.hok.fresh (yAZ _),fun y c e=>?_,fun p hp=>absurd (show p∈([]:List (Addr×Obj)) from hp) (by simp),I.hok.kept keepAll,?_⟩
 .
  rcases parts y c h1 with ⟨a,_,l⟩ | ⟨_,a⟩ <;> rcases parts z c h2 with ⟨b,_,l'⟩ | ⟨_,b⟩
  .exact name_of_addr ok0.apart a b
  .have:=natlt (old z c b);omega
  .have:=natlt (old y c a);omega
  .exact I.ok.inj y z c a b
 .
  have hy':(relabel scope X.env).names.lookup y=some .cell∨(relabel scope X.env).names.lookup y=some .free:=hy
  rw [relabel_lookup] at hy'
  have q:scope.names.lookup y=some .cell∨scope.names.lookup y=some .free:=by
   cases e:scope.names.lookup y with
   | none=>rw [e] at hy';rcases hy' with z | z <;> cases z
   | some kk=>
    rw [e] at hy'
    cases kk <;> first | exact .inl rfl | exact .inr rfl | (rcases hy' with z | z <;> simp at z)
  rcases q with q | q
  .obtain ⟨c,e⟩:=ZDs (n:=s2.heap.objs.size+1+1) q
   have m:(y,c)∈cellsFrom (s2.heap.objs.size+1+1) scope.names (ZAl X.env.cells scope.names []):=by
    rw [ZA4]
    exact yBM _ (PySem.mem_of_lookup e)
   exact ZBq m
  .have m:=PySem.mem_of_lookup q
   obtain ⟨c,e⟩:=frLook y m
   exact ⟨c,freeAt y m c e⟩
 .
  have h1':scope.names.lookup y=some .cell:=of_decide_eq_true h1
  rcases parts y c h2 with ⟨_,_,l⟩ | ⟨z,_⟩
  .show s2.heap.objs.size <= c
   omega
  .have:=hc.look _ z
   rw [h1'] at this
   cases this
 .
  exact ZDI (hlt b hb) (yAZ _)
 .rcases parts y c e with ⟨_,_,l⟩ | ⟨_,z⟩
  .exact (ZDI (hlt b hb) (yAK (Nat.le_add_right _ 2) l)).symm
  .exact (hfp b hb).2.2.2.2.1 y c z
 .
  rcases (hfp b hb).2.2.2.1 with z | z
  .exact I.ok.noex b o e z
  .exact absurd (yAX (Heap.lt_size e) (yAK I.ok.bsz z)) (yBO _)
 .
  rcases yAE.mp (I.stkSub b hs) with z | z
  .exact (hfp b hb).2.1 z
  .exact (hfp b hb).2.2.1 z
 .
  have q:=(Heap.Ns.new h3 (.type "dict")).keeps (pushCells_keeps scope.names _)
  rw [hz] at q
  exact q
 .
  unfold up at e2
  have hik:k <= i:=by
   by_cases hi:i < k
   .rw [yBH (by simpa using hi),List.getElem?_replicate] at e2
    rw [if_pos hi] at e2
    cases e2
   .omega
  rw [yBA (by simpa using hik),List.length_replicate,yAW] at e2
  cases ej:js[i-k]? with
  | none=>rw [ej] at e2;cases e2
  | some j=>
   rw [ej] at e2
   have e2':(σ[j]?).getD none=some v:=Option.some.inj e2
   have e4:σ[j]?=some (some v):=by
    cases q:σ[j]? with
    | none=>rw [q] at e2';cases e2'
    | some z=>rw [q] at e2';exact congrArg some e2'
   obtain ⟨y',n1,n2,n3⟩:=hc.js _ _ ej
   rw [Nat.add_sub_cancel' hik] at n1
   have n0:N'[i]?=some y:=e1
   rw [n1] at n0
   cases n0
   have hm:=PySem.mem_of_lookup n3
   have hvis:Vis X.env.scope y:=.inr (hc.fr y hm)
   obtain ⟨m,hn,hl⟩:=I.loc
   obtain ⟨u,r,l⟩:=hl j y v n2 e4 hvis
   refine ⟨u,r,?_⟩
   rcases l with ⟨kk,_⟩ | ⟨kk,c,ec,ic⟩
   .have kk':X.env.scope.names.lookup y=some .local:=kk
    rcases hc.fr y hm with z | z <;> (rw [kk'] at z;cases z)
   .refine .inr ⟨?_,c,freeAt y hm c ec,ic.keeps keepAll⟩
    show (relabel scope X.env).names.lookup y=some .cell∨(relabel scope X.env).names.lookup y=some .free
    rw [relabel_lookup,n3]
    simp only [Option.map_some]
    split
    .exact .inl rfl
    .exact .inr rfl
 .
  rcases parts y c e with ⟨a,_,_⟩ | ⟨_,a⟩
  .exact ⟨none,(ok0.empty y c a).1⟩
  .obtain ⟨v,q⟩:=I.cell y c a
   exact ⟨v,q.keeps keepAll⟩
 .rcases parts y c e with ⟨_,_,l⟩ | ⟨_,a⟩
  .exact I.hok.fresh (by omega)
  .exact I.freeC y c a
 .unfold up
  show _=N'.length
  rw [yAB,List.length_replicate,yAC,hc.len]
theorem comp_end {σ':St} {H':Hp} {s':Shared} {C D:Addr} {its:List Value} {n:Nat} {ys:List V} (I:Inv X pins σ H s2) (hfp:∀ b∈fp,FpOk X pins H b) (hC:s2.heap.objs.size <= C) (hD:s2.heap.objs.size <= D) (hDC:D≠C)
  (I':Inv (ZCQ X N' scope C fp s2 H) [(D,{ cls:=.type "list",data:=.seq its.toArray n })] σ' H' s') (hv:Vals ys its) (hz:ys.length <= sizeLine) :
  H' D=none /\ ∀ h',Heap.SameBut C s'.heap h'->Inv X pins σ (upd H' D (.lst ys)) { s' with heap:=h' }:=by
 obtain ⟨eD,nD,_,_,_⟩:=I'.pin (D,{ cls:=.type "list",data:=.seq its.toArray n }) (yAV _ yAF)
 dsimp only at eD nD
 have nC:H' C=none:=I'.free
 refine ⟨nD,fun h' hs=>?_⟩
 have neC:∀ b o,s2.heap.get? b=some o->b≠C:=fun b o e=>ZDI (Heap.lt_size e) hC
 have neD:∀ b o,s2.heap.get? b=some o->b≠D:=fun b o e=>ZDI (Heap.lt_size e) hD
 have tr:∀ b u,H' b=some u->b≠D:=fun b u e z=>by rw [z,nD] at e;cases e
 have trC:∀ b u,H' b=some u->b≠C:=fun b u e z=>by rw [z,nC] at e;cases e
 have B:=I'.base
 refine I.call' (s':={ s' with heap:=h' }) (ch:=fp) I'.os ⟨fun b o e nn hb hx=>?_,fun b o e nn hb hx=>?_,fun b o e nn hx=>?_,fun b o e hx=>?_,fun b xs e=>?_,fun b o u e=>?_,fun b ps e=>?_⟩ (fun b u e=>?_) I'.bare fun b hb=>?_
 .exact (hs.2 b (neC b o e)).trans (B.keep b o e nn hb hx)
 .obtain ⟨sl,q⟩:=B.slot b o e nn hb hx
  exact ⟨sl,(hs.2 b (neC b o e)).trans q⟩
 .rw [ZAI (neD b o e)]
  exact B.free b o e nn hx
 .obtain ⟨o',q⟩:=B.there b o e hx
  exact ⟨o',(hs.2 b (neC b o e)).trans q⟩
 .have q:=B.tups b xs e
  rw [ZAI (tr b _ q)]
  exact q
 .have q:=B.frzs b o u e
  rw [ZAI (tr b _ q)]
  exact q
 .obtain ⟨more,q⟩:=B.tbls b ps e
  exact ⟨more,by rw [ZAI (tr b _ q)];exact q⟩
 .by_cases hb:b=D
  .subst hb
   rw [ZAG] at e
   cases e
   exact ⟨hz,its,n,hv,(hs.2 b hDC).trans eD⟩
  .rw [ZAI hb] at e
   refine (I'.hok b u e).stay (fun c v hcc q=>(hs.2 c ?_).trans q) (fun c q=>by rw [ZAI (tr c _ q)];exact q) fun c xs q=>by rw [ZAI (tr c _ q)];exact q
   rcases hcc with rfl | hcc
   .exact trC c _ e
   .exact trC c _ hcc
 .obtain ⟨_,f1,_,f3,f4,f5⟩:=hfp b hb
  exact ⟨f3,f1,f4,f5⟩
end
section
variable {prog:Program} {w:World} {A:Around} {R:Result->Shared->Prop} {s:Shared}
theorem codeAny_compLoop_any {elt target iter:Expr} {ifs:List Expr} {scope:Scope} {pos:Pos} {it acc:Value} {env:Env} (I:Nat->Shared->Prop)
  (turn:∀ n s,I n s->wpAny (model prog w) A (pyNext it) (fun r s₁=>match r with
   | none=>R (.ok .next) s₁
   | some v=>wpAny (model prog w) A (letOwnedTupleGo target it v) (fun _ s₁'=>wpAny (model prog w) A (assign target env v) (fun _ s₂=>
     wpAny (model prog w) A (forIn ifs true fun c r=>if r=true then do let ok <- isTrue c env (eval c env);pure (ForInStep.yield ok) else pure (ForInStep.yield r)) (fun ok s₃=>
      if ok=true then wpAny (model prog w) A (eval elt env) (fun x s₄=>
       wpAny (model prog w) A (call (.builtin "list.append") [acc,x]) (fun _ s₅=>∃ m,m < n /\ I m s₅) (notedBy (model prog w) A env fun e s'=>R (.error e) s') s₄) (notedBy (model prog w) A env fun e s'=>R (.error e) s') s₃
      else ∃ m,m < n /\ I m s₃) (notedBy (model prog w) A env fun e s'=>R (.error e) s') s₂) (notedBy (model prog w) A env fun e s'=>R (.error e) s') s₁') (notedBy (model prog w) A env fun e s'=>R (.error e) s') s₁) (notedBy (model prog w) A env fun e s'=>R (.error e) s') s)
  (n:Nat) (h:I n s) :
  codeAny (model prog w) A (.compLoop (.ListComp elt [⟨target,iter,ifs,0⟩] scope pos) 0 it acc env) R s:=by
 refine codeAny_loop rfl I (fun n s hI=>?_) n h
 show wpAny _ A ((compTurn (.ListComp elt [⟨target,iter,ifs,0⟩] scope pos) 0 it acc env).onRaise (fun x=>do noteFrame x env;theTreesLotGoes x)) _ _ s
 refine wpAny_noted ?_
 rw [compTurn_list]
 refine wpAny_bind (wpAny_standAt (wpAny_bind (wpAny_mono (turn n s hI) (fun r s₁ h₁=>?_) fun _ _ h'=>h')))
 cases r with
 | none=>exact wpAny_pure h₁
 | some v=>
  refine wpAny_bind (wpAny_mono h₁ (fun _ s₁' h₁'=>?_) fun _ _ h'=>h')
  refine wpAny_bind (wpAny_mono h₁' (fun _ s₂ h₂=>wpAny_bind (wpAny_mono h₂ (fun ok s₃ h₃=>?_) fun _ _ h'=>h')) fun _ _ h'=>h')
  cases ok with
  | false=>exact wpAny_pure ⟨rfl,h₃⟩
  | true=>exact wpAny_bind (wpAny_bind (wpAny_mono h₃ (fun x s₄ h₄=>wpAny_bind (wpAny_mono h₄ (fun _ s₅ h₅=>wpAny_pure (wpAny_pure ⟨rfl,h₅⟩)) fun _ _ h'=>h')) fun _ _ h'=>h'))
end
noncomputable def PIfs (X:Cx) (ifs:List Expr) (t:TT):Prop :=
 ∀ (pins:List (Addr×Obj)) (s:Shared) (σ:St) (H:Hp) (Q:Bool->Hp->Prop),Inv X pins σ H s->t σ H Q ->
  wpAny (model X.prog X.w) X.A (forIn ifs true fun c r=>if r=true then do let ok <- isTrue c X.env (eval c X.env);pure (ForInStep.yield ok) else pure (ForInStep.yield r)) (TP X pins σ Q) X.xe s
noncomputable def tYes:TT:=fun _ H Q=>Q true H
theorem ZCz {X:Cx}:PIfs X [] tYes:=fun _ _ _ H _ I h=>wpAny_tests_nil ⟨H,I,h⟩
noncomputable def ZDv (k:Nat) (js:List Nat) (wi:TI) (g:TG) (tt:TT) (te:TE):TE:=fun σ H Q=>wi σ H fun J H1=>∃ W:Nat->Nat->List V->St->Hp->Prop,(∃ m,W 0 m [] (up k js σ) H1) /\ ∀ i m ys σ H,W i m ys σ H ->
 (J.stop i H /\ ys.length <= sizeLine /\ ∀ p,H p=none->Q (.ref p) (upd H p (.lst ys))) ∨
 (J.go i H /\ ys.length < sizeLine /\ ∀ x H',J.yld i H x H'->g x σ H' fun σ2 H2=>tt σ2 H2 fun b H3=>if b=true then te σ2 H3 fun y H4=>∃ m',m' < m /\ W (i+1) m' (ys++[y]) σ2 H4 else ∃ m',m' < m /\ W (i+1) m' ys σ2 H3)
section
variable {X:Cx} {k:Nat} {js:List Nat} {N':List Str} {scope:Scope} {tg iter elt:Expr} {ifs:List Expr} {wi:TI} {g:TG} {tt:TT} {te:TE} {pos:Pos}
theorem comp_core {use:Option (Value->Sem Unit)} {Q':Value->Shared->Prop} (hcalm:X.calm=true) (hc:CmpOk X.N X.env.scope k js N' scope) (hi:PI X tg iter wi)
  (hg:∀ C fp s2 H2,PG (ZCQ X N' scope C fp s2 H2) tg g) (ht:∀ C fp s2 H2,PIfs (ZCQ X N' scope C fp s2 H2) ifs tt) (he:∀ C fp s2 H2,PE (ZCQ X N' scope C fp s2 H2) elt te)
  {pins:List (Addr×Obj)} {s:Shared} {σ:St} {H:Hp} {Q:VK} (I:Inv X pins σ H s) (h:ZDv k js wi g tt te σ H Q)
  (fin:∀ (C D:Addr) (s':Shared) (m:Str->Option Value) (H':Hp) (ys:List V),s'.heap.Ns C m->C≠X.env.locals->C∉X.fs->D≠C->H' C=none->X.s₀.heap.objs.size <= C->(∀ x c,X.env.cells.lookup x=some c->c≠C)->(∀ p∈X.pn++pins,p.1≠C)->(∀ h',Heap.SameBut C s'.heap h'->Inv X pins σ (upd H' D (.lst ys)) { s' with heap:=h' })->Q (.ref D) (upd H' D (.lst ys)) ->
   compPost (model X.prog X.w) X.A X.xe use Q' (.ref D) C (.ok .next) s')
  (hs:∀ x,foldedSetIterable iter X.env x=pure x) (p':Pos) :
  wpAny (model X.prog X.w) X.A (comprehension (.ListComp elt [⟨tg,iter,ifs,0⟩] scope pos) scope X.env p' (newList []) false (eval iter X.env) use) Q' X.xe s:=by
 have hclos:closureFor scope X.env=pure (ZAl X.env.cells scope.names []):=closureFor_eq fun y hy=>I.ok.has y (hc.fr y hy)
 refine wpAny_comprehension_free (g:=⟨tg,iter,ifs,0⟩) (gs:=[]) rfl hs hclos hc.kind (fun x hx hl=>by rw [hc.look x hx,hl]) ?_
 refine thn (hi pins s σ H _ I h) fun v s1 h1=>thn h1 fun itv s2 h2=>?_
 obtain ⟨it,fp,tn,J,H2,e,I2,T,st2,f2,W,⟨m0,w0⟩,turn⟩:=h2
 subst e
 have hlt:∀ b∈fp,b < s2.heap.objs.size:=fun b hb=>by
  obtain ⟨o,e,_⟩:=T.obj _ _ st2 b hb
  exact Heap.lt_size e
 refine wpAny_newObj_type (newEnv_comp ?_)
 have hz3:(s2.heap.push { cls:=.type "list",dict:=none,data:=.seq ([]:List Value).toArray }).objs.size=s2.heap.objs.size+1:=Heap.size_push ..
 have I3:=comp_inv (h3:=s2.heap.push { cls:=.type "list",dict:=none,data:=.seq ([]:List Value).toArray }) hc I2 f2 hlt hz3 (fun b o e=>Heap.get?_push_of_some _ e)
 dsimp only
 rw [hz3]
 generalize hS4:({ s2 with heap:=pushCells ((s2.heap.push { cls:=.type "list",dict:=none,data:=.seq ([]:List Value).toArray }).push { cls:=.type "dict",data:=.dict #[] }) scope.names }:Shared)=s4 at I3 ⊢
 have keep4:∀ b o,s2.heap.get? b=some o->s4.heap.get? b=some o:=fun b o e=>by
  rw [<- hS4]
  exact pushCells_keeps _ _ b o (Heap.get?_push_of_some _ (Heap.get?_push_of_some _ e))
 have eD4:s4.heap.get? s2.heap.objs.size=some { cls:=.type "list",data:=.seq ([]:List Value).toArray 0 }:=by
  rw [<- hS4]
  exact pushCells_keeps _ _ _ _ (Heap.get?_push_of_some _ (Heap.get?_push_size _ rfl))
 generalize hX':ZCQ X N' scope (s2.heap.objs.size+1) fp s2 H2=X' at I3
 have hC':X'.env.locals=s2.heap.objs.size+1:=by rw [<- hX'];rfl
 have hfs':X'.fs=frs X.stack:=by rw [<- hX'];rfl
 have nofsD:∀ a,s2.heap.objs.size <= a->a∉frs X.stack:=fun a ha hb=>by
  rcases yAE.mp (I2.stkSub a hb) with z | z
  .exact absurd z.symm (ZDI I2.lt ha)
  .exact I2.nofs ha z
 have cellD:∀ x c,X'.env.cells.lookup x=some c->c≠s2.heap.objs.size:=fun x c e z=>by
  obtain ⟨v,o,ho,hd⟩:=I3.cell x c e
  rw [z,eD4] at ho
  cases ho
  cases hd
 have pinD:∀ {σ':St} {H':Hp} {s':Shared} {its:List Value} {n:Nat},Inv X' [] σ' H' s'->s'.heap.get? s2.heap.objs.size=some { cls:=.type "list",data:=.seq its.toArray n }->H' s2.heap.objs.size=none ->
   Inv X' [(s2.heap.objs.size,{ cls:=.type "list",data:=.seq its.toArray n })] σ' H' s':=fun {σ' H' s' its n} J e nn=>J.pins_of fun p hp=>by
  have e':p=(s2.heap.objs.size,{ cls:=.type "list",data:=.seq its.toArray n }):=by simpa using hp
  subst e'
  refine ⟨e,nn,?_,?_,fun v z=>nomatch z⟩
  .rw [hC'];exact yAU (yBW _)
  .rw [hfs'];exact nofsD _ (yAA _)
 have I4:=pinD I3 eD4 (I2.hok.fresh (yAA _))
 have stat:∀ {H':Hp} {o:Obj},(∀ b∈fp,H' b=none)->∀ b∈fp,FpOk X' [(s2.heap.objs.size,o)] H' b:=fun {H' o} hn b hb=>by
  have hb':=hlt b hb
  refine ⟨hn b hb,?_,?_,.inl (by rw [<- hX'];exact hb),fun x c e z=>?_,fun p hp z=>?_⟩
  .rw [hC'];exact ZDI hb' (yAZ _)
  .rw [hfs']
   intro z
   rcases yAE.mp (I2.stkSub b z) with q | q
   .exact (f2 b hb).2.1 q
   .exact (f2 b hb).2.2.1 q
  .have q:=I3.ok.exf b (by rw [<- hX'];exact hb)
   exact q.2 x c e z
  .rw [show X'.pn=[] by rw [<- hX'];rfl] at hp
   have e':p=(s2.heap.objs.size,o):=by simpa using hp
   subst e'
   exact absurd hb' (by rw [<- z];exact yBO _)
 have hfin:∀ {σ':St} {H':Hp} {s':Shared} {its:List Value} {n:Nat} {ys:List V},Inv X' [(s2.heap.objs.size,{ cls:=.type "list",data:=.seq its.toArray n })] σ' H' s'->Vals ys its->ys.length <= sizeLine->(∀ p,H' p=none->Q (.ref p) (upd H' p (.lst ys))) ->
   compPost (model X.prog X.w) X.A X.xe use Q' (.ref s2.heap.objs.size) (s2.heap.objs.size+1) (.ok .next) s':=fun {σ' H' s' its n ys} J hv hz hq=>by
  obtain ⟨m,hn,_⟩:=id J.loc
  rw [hC'] at hn
  have nC:H' (s2.heap.objs.size+1)=none:=by rw [<- hC'];exact J.free
  have J':Inv (ZCQ X N' scope (s2.heap.objs.size+1) fp s2 H2) [(s2.heap.objs.size,{ cls:=.type "list",data:=.seq its.toArray n })] σ' H' s':=by rw [hX'];exact J
  obtain ⟨nD,E⟩:=comp_end I2 f2 (yAZ _) (yAA _) (yAU (yBW _)) J' hv hz
  refine fin _ _ s' m H' ys hn ?_ (I2.nofs (yAZ _)) (yAU (yBW _)) nC (yAK I2.sz (yAZ _)) (fun x c e z=>?_) (fun p hp z=>?_) E (hq _ nD)
  .exact (ZDI I2.lt (yAZ _)).symm
  .obtain ⟨v,q⟩:=I2.cell x c e
   exact absurd z (ZDI q.lt (yAZ _))
  .exact absurd z (ZDI (Heap.lt_size (I2.pin p hp).1) (yAZ _))
 have hprog:X'.prog=X.prog:=by rw [<- hX'];rfl
 have hw:X'.w=X.w:=by rw [<- hX'];rfl
 have hK:X'.K=X.K:=by rw [<- hX'];rfl
 have hcalm':X'.calm=true:=by rw [<- hX'];exact hcalm
 have hA:X'.A=X.A:=by rw [<- hX'];rfl
 have henv:ZDq scope (ZAl X.env.cells scope.names []) (s2.heap.objs.size+1) X.env=X'.env:=by rw [<- hX'];rfl
 have hgX:=hg (s2.heap.objs.size+1) fp s2 H2
 have htX:=ht (s2.heap.objs.size+1) fp s2 H2
 have heX:=he (s2.heap.objs.size+1) fp s2 H2
 rw [hX'] at hgX htX heX
 have hxe:∀ e s',X'.xe e s'->False:=fun e s' z=>by rw [<- hX'] at z;exact z
 have hXA:X'.pn=[]:=by rw [<- hX'];rfl
 have hs0:X'.s₀.heap.objs.size=s2.heap.objs.size:=by rw [<- hX'];rfl
 have loop:codeAny (model X.prog X.w) X.A (.compLoop (.ListComp elt [⟨tg,iter,ifs,0⟩] scope pos) 0 (.ref it) (.ref s2.heap.objs.size) X'.env) (compPost (model X.prog X.w) X.A X.xe use Q' (.ref s2.heap.objs.size) (s2.heap.objs.size+1)) s4:=by
  refine codeAny_compLoop_any (fun n s'=>∃ i σ' H' its nn ys,Inv X' [(s2.heap.objs.size,{ cls:=.type "list",data:=.seq its.toArray nn })] σ' H' s' /\ tn i s'.heap /\ (∀ b∈fp,H' b=none) /\ Vals ys its /\ W i n ys σ' H') ?_ m0
   ⟨0,_,H2,[],0,[],I4,T.keep _ _ _ st2 (fun b _ o e=>keep4 b o e),fun b hb=>(f2 b hb).1,.nil,w0⟩
  rintro n s5 ⟨i,σ5,H5,its,nn,ys,I5,st5,fr5,hv,w5⟩
  rcases turn i n ys σ5 H5 w5 with ⟨stop,hz,hq⟩ | ⟨go,hz,step⟩
  .have d:=T.done X' hprog hw hK hcalm' i _ s5 σ5 H5 (fun _ _=>False) I5 (stat fr5) st5 stop
   rw [hA] at d
   refine wpAny_mono d (fun r s6 ⟨hr,I6⟩=>?_) fun _ _ z=>z.elim
   subst hr
   exact hfin I6 hv hz hq
  .have d:=T.item X' hprog hw hK hcalm' i _ s5 σ5 H5 (fun _ _=>False) I5 (stat fr5) st5 go
   rw [hA] at d
   refine wpAny_mono d (fun r s6 ⟨u,hr,h6⟩=>?_) fun _ _ z=>z.elim
   subst hr
   refine wpAny_mono h6 (fun _ s7 zz=>?_) fun _ _ z=>z.elim
   obtain ⟨x,H7,I7,r7,y7,st7,fr7⟩:=zz
   have I7':=I7.pinned (stat fr7) (T.obj _ _ st7)
   have a1:=hgX _ s7 σ5 H7 x u _ I7' r7 (step x H7 y7)
   rw [hprog,hw,hA] at a1
   refine wpAny_mono a1 (fun _ s8 zz=>?_) fun _ _ z=>(hxe _ _ z).elim
   obtain ⟨σ8,H8,I8,q8⟩:=zz
   have a2:=htX _ s8 σ8 H8 _ I8 q8
   rw [hprog,hw,hA] at a2
   refine wpAny_mono a2 (fun ok s9 ⟨H9,I9,q9⟩=>?_) fun _ _ z=>(hxe _ _ z).elim
   have back:∀ {σ':St} {H':Hp} {s':Shared},Inv X' ([(s2.heap.objs.size,({ cls:=.type "list",data:=.seq its.toArray nn }:Obj))]++ZDz fp s7.heap) σ' H' s'->tn (i+1) s'.heap /\ (∀ b∈fp,H' b=none):=fun {σ' H' s'} J=>by
    refine ⟨T.keep _ _ _ st7 fun b hb o e=>(J.pin (b,o) (yAV _ (yAV _ (ZCL hb e)))).1,fun b hb=>?_⟩
    obtain ⟨o,e,d⟩:=T.obj _ _ st7 b hb
    exact (J.pin (b,o) (yAV _ (yAV _ (ZCL hb e)))).2.1
   cases ok with
   | false=>
    rw [if_neg yBE] at q9 ⊢
    obtain ⟨m',hm,w9⟩:=q9
    obtain ⟨t9,f9⟩:=back I9
    exact ⟨m',hm,i+1,σ8,H9,its,nn,ys,I9.unpinned,t9,f9,hv,w9⟩
   | true=>
    rw [if_pos rfl] at q9 ⊢
    have a3:=heX _ s9 σ8 H9 _ I9 q9
    rw [hprog,hw,hA] at a3
    refine wpAny_mono a3 (fun uy s10 zz=>?_) fun _ _ z=>(hxe _ _ z).elim
    obtain ⟨y,H10,I10,r10,m',hm,w10⟩:=zz
    obtain ⟨t10,f10⟩:=back I10
    have I11:=I10.unpinned
    obtain ⟨eD,nD,_,_,_⟩:=I11.pin (s2.heap.objs.size,{ cls:=.type "list",data:=.seq its.toArray nn }) (yAV _ yAF)
    dsimp only at eD nD
    have hsz:its.length < sizeLine:=by rw [<- hv.length];exact hz
    refine wpAny_list_append_plain ⟨nn,eD⟩ (fun h' hpl hsb=>?_) (by rw [yAO];omega)
    obtain ⟨n',e'⟩:=hpl
    have e'':h'.get? s2.heap.objs.size=some { cls:=.type "list",data:=.seq (its++[uy]).toArray n' }:=by rw [e'];simp
    have I12:Inv X' [] σ8 H10 s10:=I11.pins_of fun p hp=>absurd hp (by simp)
    have I13:=I12.turned (h':=h') (t':=s10.toks) (it:=s2.heap.objs.size) (fun b o hb e=>(hsb.2 b hb).trans e) nD (by rw [hC'];exact yAU (yBW _)) (.inr (by rw [hs0];exact yAA _)) cellD (fun p hp=>absurd hp (by rw [hXA];simp))
    refine ⟨m',hm,i+1,σ8,H10,its++[uy],n',ys++[y],pinD I13 e'' nD,T.keep _ _ _ t10 fun b hb o e=>?_,f10,hv.append (.cons r10 .nil),w10⟩
    exact (hsb.2 b (ZDI (hlt b hb) (yAA _))).trans e
 have hst:codeAny (model X.prog X.w) X.A (.compStart (.ListComp elt [⟨tg,iter,ifs,0⟩] scope pos) 0 (.ref it) (.ref s2.heap.objs.size) X'.env) (compPost (model X.prog X.w) X.A X.xe use Q' (.ref s2.heap.objs.size) (s2.heap.objs.size+1)) s4 :=
  codeAny_compStart_list loop (T.self X.A 0 s4 _ _ (T.keep _ _ _ st2 (fun b _ o e=>keep4 b o e)) loop)
 rw [<- henv] at hst
 exact hst
theorem ZDg (hcalm:X.calm=true) (hc:ZDr X.N X.env.scope k js N' scope=true) (hi:PI X tg iter wi)
  (hg:∀ C fp s2 H2,PG (ZCQ X N' scope C fp s2 H2) tg g) (ht:∀ C fp s2 H2,PIfs (ZCQ X N' scope C fp s2 H2) ifs tt) (he:∀ C fp s2 H2,PE (ZCQ X N' scope C fp s2 H2) elt te)
  (hs:∀ x,foldedSetIterable iter X.env x=pure x:=by intro _;rfl):PE X (.ListComp elt [⟨tg,iter,ifs,0⟩] scope pos) (ZDv k js wi g tt te):=by
 intro pins s σ H Q I h
 rw [eval_ListComp]
 refine comp_core (use:=none) hcalm (cmpOk hc) hi hg ht he I h (fun C D s' m H' ys hn _ _ _ _ _ _ _ E q=>?_) hs _
 exact ⟨m,hn,fun h' hsb=>⟨.ref D,_,E h' hsb,rfl,q⟩⟩
end
mutual
noncomputable def Dp (K:W.Frag) (H:Hp):PyData->V->Prop
 | .none,v=>v=.non
 | .bool b,v=>v=.bl b
 | .int i,v=>v=.int i
 | .str x,v=>v=.str x
 | .list ds,v=>∃ a xs,v=.ref a /\ SqL K H a xs /\ DpAll K H ds xs
 | .tuple ds,v=>∃ a xs,v=.ref a /\ SqT K H a xs /\ DpAll K H ds xs
 | .dict _,_=>False
noncomputable def DpAll (K:W.Frag) (H:Hp):List PyData->List V->Prop
 | [],vs=>vs=[]
 | d::ds,vs=>∃ v r,vs=v::r /\ Dp K H d v /\ DpAll K H ds r
end
theorem DpAll.nil {K:W.Frag} {H:Hp}:DpAll K H [] []:=by unfold DpAll;rfl
theorem DpAll.cons {K:W.Frag} {H:Hp} {d:PyData} {ds:List PyData} {v:V} {vs:List V} (a:Dp K H d v) (t:DpAll K H ds vs):DpAll K H (d::ds) (v::vs):=by unfold DpAll;exact ⟨v,vs,rfl,a,t⟩
theorem DpAll.two {K:W.Frag} {H:Hp} {d e:PyData} {v u:V} (a:Dp K H d v) (b:Dp K H e u):DpAll K H [d,e] [v,u]:=.cons a (.cons b .nil)
theorem DpAll.ints {K:W.Frag} {H:Hp}:∀ (ns:List Int),DpAll K H (ns.map PyData.int) (ns.map V.int)
 | []=>.nil
 | n::r=>.cons (by unfold Dp;rfl) (DpAll.ints r)
theorem ZCk {K:W.Frag} {H:Hp} (i:Int):Dp K H (.int i) (.int i):=by unfold Dp;rfl
theorem dp_str {K:W.Frag} {H:Hp} (i:Str):Dp K H (.str i) (.str i):=by unfold Dp;rfl
theorem ZFT {K:W.Frag} {H:Hp} (i:Bool):Dp K H (.bool i) (.bl i):=by unfold Dp;rfl
theorem ZEc {K:W.Frag} {H:Hp}:Dp K H .none .non:=by unfold Dp;rfl
theorem ZD3 {K:W.Frag} {H:Hp} {a:Addr} {xs:List V} {ds:List PyData} (h:SqL K H a xs) (t:DpAll K H ds xs):Dp K H (.list ds) (.ref a):=by unfold Dp;exact ⟨a,xs,rfl,h,t⟩
theorem ZDO {K:W.Frag} {H:Hp} {a:Addr} {xs:List V} {ds:List PyData} (h:SqT K H a xs) (t:DpAll K H ds xs):Dp K H (.tuple ds) (.ref a):=by unfold Dp;exact ⟨a,xs,rfl,h,t⟩
section
variable {X:Cx} {pins:List (Addr×Obj)} {σ:St} {H:Hp} {s:Shared}
mutual
theorem Inv.reads (I:Inv X pins σ H s):∀ {d:PyData} {v:V} {u:Value},Dp X.K H d v->RelV v u->∃ as,Reads s.heap u d as
 | .none,_,_,h,r=>by unfold Dp at h;subst h;cases (show _=Value.none from r);exact ⟨_,.none⟩
 | .bool b,_,_,h,r=>by unfold Dp at h;subst h;cases (show _=Value.bool b from r);exact ⟨_,.bool b⟩
 | .int i,_,_,h,r=>by unfold Dp at h;subst h;obtain ⟨t,q⟩:=(show ∃ t,_=Value.int i t from r);subst q;exact ⟨_,.int i t⟩
 | .str x,_,_,h,r=>by unfold Dp at h;subst h;obtain ⟨t,q⟩:=(show ∃ t,_=Value.str x t from r);subst q;exact ⟨_,.str x t⟩
 | .list ds,_,_,h,r=>by
  unfold Dp at h
  obtain ⟨a,xs,q,sq,t⟩:=h
  subst q
  cases (show _=Value.ref a from r)
  obtain ⟨its,rv,pl,_⟩:=I.list sq
  obtain ⟨as,ra⟩:=Inv.readsAll I t rv
  obtain ⟨o,n,e1,e2,_,e3⟩:=pl
  exact ⟨_,.list e1 e2 e3 (by simpa using ra)⟩
 | .tuple ds,_,_,h,r=>by
  unfold Dp at h
  obtain ⟨a,xs,q,sq,t⟩:=h
  subst q
  cases (show _=Value.ref a from r)
  obtain ⟨its,rv,pl,_⟩:=I.tuple sq
  obtain ⟨as,ra⟩:=Inv.readsAll I t rv
  obtain ⟨o,e1,e2,n,e3⟩:=pl
  exact ⟨_,.tuple e1 e2 e3 (by simpa using ra)⟩
 | .dict _,_,_,h,_=>by unfold Dp at h;exact h.elim
theorem Inv.readsAll (I:Inv X pins σ H s):∀ {ds:List PyData} {vs:List V} {us:List Value},DpAll X.K H ds vs->Vals vs us->∃ as,ReadsAll s.heap us ds as
 | [],_,_,h,r=>by unfold DpAll at h;subst h;cases r;exact ⟨_,.nil⟩
 | _::_,_,_,h,r=>by
  unfold DpAll at h
  obtain ⟨v,q,e,a,t⟩:=h
  subst e
  cases r with
  | cons r1 r2=>
   obtain ⟨as,h1⟩:=Inv.reads I a r1
   obtain ⟨bs,h2⟩:=Inv.readsAll I t r2
   exact ⟨_,.cons h1 h2⟩
end
noncomputable def rEqD (K:W.Frag):R2:=fun x y H Q=>∃ d e,Dp K H d x /\ Dp K H e y /\ d.canLay0=true /\ e.canLay0=true /\ d.depth <= 64 /\ Q (.bl (PyData.eqv d e)) H
noncomputable def rNeD (K:W.Frag):R2:=fun x y H Q=>∃ d e,Dp K H d x /\ Dp K H e y /\ d.canLay0=true /\ e.canLay0=true /\ d.depth <= 64 /\ Q (.bl (!PyData.eqv d e)) H
theorem op_eqD (hu:X.A.units+64 < cLine):OpR X (compareOp .Eq) (rEqD X.K):=by
 intro pins s σ H x y v u Q I rx ry h
 obtain ⟨d,e,h1,h2,c1,c2,dp,q⟩:=h
 obtain ⟨as,ra⟩:=I.reads h1 rx
 obtain ⟨bs,rb⟩:=I.reads h2 ry
 exact SeqAt.compareEq_reads ra rb c1 c2 (by omega) ⟨.bl _,H,I,rfl,q⟩
theorem ZCe (hu:X.A.units+64 < cLine):OpR X (compareOp .NotEq) (rNeD X.K):=by
 intro pins s σ H x y v u Q I rx ry h
 obtain ⟨d,e,h1,h2,c1,c2,dp,q⟩:=h
 obtain ⟨as,ra⟩:=I.reads h1 rx
 obtain ⟨bs,rb⟩:=I.reads h2 ry
 exact SeqAt.compareNe_reads ra rb c1 c2 (by omega) ⟨.bl _,H,I,rfl,q⟩
end
section
variable {X:Cx} {x:Str} {pos:Pos}
theorem ZBQ {y:Int} (hg:Gl X x) (h:∃ t,X.mg x=some (.int y t)) (hd:(x == ("__debug__":Str))=false:=by decide):PE X (.Name x pos) (tC (.int y)):=by
 obtain ⟨t,e⟩:=h
 exact pe_glob hg e ⟨t,rfl⟩ hd
theorem pe_gcls {C:Addr} (hg:Gl X x) (h:X.mg x=some (.ref C)) (hd:(x == ("__debug__":Str))=false:=by decide):PE X (.Name x pos) (tC (.ref C)):=pe_glob hg h rfl hd
end
structure Fn (P:Program) (w:World) (K:W.Frag) (mg:Str->Option Value) (base:Heap) (CX:CXT) (x:Str) (k:Nat) (ps:List Str) (sp:Sp):Prop where
 ex:∃ f fd,FnOk P w K mg base CX k f fd ps sp /\ Binds K fd ps [] /\ W.keepIn K (.ref f)=true /\ mg x=some (.ref f)
structure Mt (P:Program) (w:World) (K:W.Frag) (mg:Str->Option Value) (base:Heap) (CX:CXT) (C:Addr) (m:Str) (k:Nat) (ps:List Str) (sp:Sp):Prop where
 cl:Cls K C
 ex:∃ f fd,FnOk P w K mg base CX k f fd ps sp /\ Binds K fd ps [] /\ Meth K C m f
structure Kl (P:Program) (w:World) (K:W.Frag) (mg:Str->Option Value) (base:Heap) (CX:CXT) (x:Str) (C:Addr) (k:Nat) (ps:List Str) (sp:Sp):Prop where
 mgC:mg x=some (.ref C)
 ex:∃ f fd,FnOk P w K mg base CX k f fd ps sp /\ Binds K fd ps [] /\ Mk K C f
section
variable {X:Cx} {CX:CXT} {k:Nat} {ps:List Str} {sp:Sp} {E:XK} {x m:Str} {C:Addr} {p pos apos:Pos} {e o:Expr} {es:List Expr} {ta:TE} {t:TA}
theorem ZBD (F:Fn X.prog X.w X.K X.mg X.base CX x k ps sp) (hr:Room k X.A) (hg:Gl X x) (hx:ZBH CX X E) (ha:PA X (e::es) t) (hdb:(x == ("__debug__":Str))=false:=by decide) (he:starEach (e::es) X.env=(false,eval e X.env)::starEach es X.env:=by rfl) (hpl:(backTo pos (starEach es X.env)).any (·.1)=false:=by rfl) :
  PE X (.Call (.Name x p) (e::es) [] pos) (ZE1 sp [] E t):=by
 obtain ⟨f,fd,h1,h2,h3,h4⟩:=F.ex
 exact pe_call h1 hr hg h4 h3 h2 .nil hx ha hdb he hpl
theorem ZBT {pl:Sem Bool} (F:Mt X.prog X.w X.K X.mg X.base CX C m k ps sp) (hr:Room k X.A) (hx:ZBH CX X E) (he:PE X o ta) (ha:PA X (e::es) t)
  (hst:starEach (e::es) X.env=(false,eval e X.env)::starEach es X.env:=by rfl) (hpl:(backTo pos (starEach es X.env)).any (·.1)=false:=by rfl)
  (ht:eval (.Call (.Attribute o m apos) (e::es) [] pos) X.env=(do
   let ov <- eval o X.env
   standAt apos.atName
   let (f,first) <- holding [ov] (getMethod ov m pl)
   callWith pos f first (backTo pos (starEach (e::es) X.env)) (backToKw pos (keywordEach [] X.env))):=by rfl) :
  PE X (.Call (.Attribute o m apos) (e::es) [] pos) (ZEe C m sp [] E ta t):=by
 obtain ⟨f,fd,h1,h2,h3⟩:=F.ex
 exact pe_meth he F.cl h3 h1 hr h2 .nil hx ha hst hpl ht
theorem ZBF {pl:Sem Bool} (F:Mt X.prog X.w X.K X.mg X.base CX C m k ps sp) (hr:Room k X.A) (hx:ZBH CX X E) (he:PE X o ta)
  (ht:eval (.Call (.Attribute o m apos) [] [] pos) X.env=(do
   let ov <- eval o X.env
   standAt apos.atName
   let (f,first) <- holding [ov] (getMethod ov m pl)
   callWith pos f first (backTo pos (starEach [] X.env)) (backToKw pos (keywordEach [] X.env))):=by rfl) :
  PE X (.Call (.Attribute o m apos) [] [] pos) (ZEe C m sp [] E ta tNil):=by
 obtain ⟨f,fd,h1,h2,h3⟩:=F.ex
 exact pe_meth0 he F.cl h3 h1 hr h2 .nil hx ht
theorem ZDe (F:Kl X.prog X.w X.K X.mg X.base CX x C k ps sp) (hr:Room (k+1) X.A) (hg:Gl X x) (hx:ZBH CX X E) (ha:PA X (e::es) t) (hdb:(x == ("__debug__":Str))=false:=by decide) (he:starEach (e::es) X.env=(false,eval e X.env)::starEach es X.env:=by rfl) (hpl:(backTo pos (starEach es X.env)).any (·.1)=false:=by rfl) :
  PE X (.Call (.Name x p) (e::es) [] pos) (ZEj C sp [] E t):=by
 obtain ⟨f,fd,h1,h2,h3⟩:=F.ex
 exact pe_make h3 h1 hr hg F.mgC h2 .nil hx ha hdb he hpl
end
noncomputable def ZE8:V->Bool
 | .ty _=>true
 | .ref _=>true
 | _=>false
noncomputable def cval:V->Value
 | .ty n=>.type n
 | .ref a=>.ref a
 | _=>.none
section
variable {X:Cx}
end
theorem ZAg {v:V} {σ:St} {H:Hp} {Q:VK}:tVar 0 (some v::σ) H Q=Q v H:=by
 apply propext;unfold tVar;simp
theorem ZAm {i:Nat} {a:Option V} {σ:St} {H:Hp} {Q:VK}:tVar (i+1) (a::σ) H Q=tVar i σ H Q:=by
 apply propext;unfold tVar;simp
theorem rI0_int {g:Int->Int->V} {i j:Int} {H:Hp} {Q:VK}:rI0 g (.int i) (.int j) H Q=Q (g i j) H:=by
 apply propext;unfold rI0;simp
theorem rI_int {C:Int->Int->Prop} {g:Int->Int->V} {i j:Int} {H:Hp} {Q:VK}:rI C g (.int i) (.int j) H Q=(C i j /\ Q (g i j) H):=by
 apply propext;unfold rI;simp
theorem rU_int {g:Int->V} {i:Int} {H:Hp} {Q:VK}:rU g (.int i) H Q=Q (g i) H:=by
 apply propext;unfold rU;simp
theorem rEq_int {i j:Int} {H:Hp} {Q:VK}:rEq (.int i) (.int j) H Q=Q (.bl (decide (i=j))) H:=by
 exact propext ⟨fun h=>by simpa using h.2,fun h=>⟨rfl,by simpa using h⟩⟩
theorem rNe_int {i j:Int} {H:Hp} {Q:VK}:rNe (.int i) (.int j) H Q=Q (.bl (!decide (i=j))) H:=by
 exact propext ⟨fun h=>by simpa using h.2,fun h=>⟨rfl,by simpa using h⟩⟩
theorem rEq_bl {i j:Bool} {H:Hp} {Q:VK}:rEq (.bl i) (.bl j) H Q=Q (.bl (decide (i=j))) H:=by
 exact propext ⟨fun h=>by simpa using h.2,fun h=>⟨rfl,by simpa using h⟩⟩
theorem rNe_bl {i j:Bool} {H:Hp} {Q:VK}:rNe (.bl i) (.bl j) H Q=Q (.bl (!decide (i=j))) H:=by
 exact propext ⟨fun h=>by simpa using h.2,fun h=>⟨rfl,by simpa using h⟩⟩
theorem rEq_str {i j:Str} {H:Hp} {Q:VK}:rEq (.str i) (.str j) H Q=Q (.bl (decide (i=j))) H:=by
 exact propext ⟨fun h=>by simpa using h.2,fun h=>⟨rfl,by simpa using h⟩⟩
theorem rNe_str {i j:Str} {H:Hp} {Q:VK}:rNe (.str i) (.str j) H Q=Q (.bl (!decide (i=j))) H:=by
 exact propext ⟨fun h=>by simpa using h.2,fun h=>⟨rfl,by simpa using h⟩⟩
theorem ex_bl {c:Bool} {Q:Bool->Prop}:(∃ k,V.bl c=V.bl k /\ Q k)=Q c:=by
 apply propext;simp
theorem ex_int {c:Int} {Q:Int->Prop}:(∃ k,V.int c=V.int k /\ Q k)=Q c:=by
 apply propext;simp
theorem ZAU {n:Nat} (h:n <= 1000):n <= sizeLine:=yBP (ZBc h)
theorem ZAK {H:Hp} {p:Addr} (h:H p=none) (o:HO):Same H (upd H p o):=fun b u q=>by rw [ZAI (ZAC q h)];exact q
noncomputable def getF (K:W.Frag) (f:Str) (x:V) (H:Hp) (Q:VK):Prop:=∃ a C dx fs v,x=.ref a /\ H a=some (.ins C dx fs) /\ Cls K C /\ NoAttr K C f /\ fs.lookup f=some v /\ Q v H
theorem tFld_eq {K:W.Frag} {ta:TE} {f:Str} {σ:St} {H:Hp} {Q:VK}:tFld K ta f σ H Q=ta σ H (fun x H1=>getF K f x H1 Q):=rfl
theorem getF_of {K:W.Frag} {f:Str} {a C dx:Addr} {fs:List (Str×V)} {v:V} {H:Hp} {Q:VK} (h:H a=some (.ins C dx fs)) (cl:Cls K C) (n:NoAttr K C f) (l:fs.lookup f=some v) (q:Q v H):getF K f (.ref a) H Q:=⟨a,C,dx,fs,v,rfl,h,cl,n,l,q⟩
noncomputable def setF (K:W.Frag) (f:Str) (x y:V) (H:Hp) (Q:Hp->Prop):Prop:=∃ a C dx fs,x=.ref a /\ H a=some (.ins C dx fs) /\ Cls K C /\ NoAttr K C f /\ fs.length < 1000 /\ Q (upd H a (.ins C dx (putF f y fs)))
theorem sFld_eq {K:W.Frag} {ta tv:TE} {f:Str} {D:Ends} {σ:St} {H:Hp}:sFld K ta tv f D σ H=tv σ H (fun y H1=>ta σ H1 fun x H2=>setF K f x y H2 (D.nx σ)):=rfl
theorem setF_of {K:W.Frag} {f:Str} {a C dx:Addr} {fs:List (Str×V)} {y:V} {H:Hp} {Q:Hp->Prop} (h:H a=some (.ins C dx fs)) (cl:Cls K C) (n:NoAttr K C f) (l:fs.length < 1000) (q:Q (upd H a (.ins C dx (putF f y fs)))):setF K f (.ref a) y H Q:=⟨a,C,dx,fs,rfl,h,cl,n,l,q⟩
theorem ZAx {K:W.Frag} {p:Addr} {xs:List V} {i:Int} {v:V} {H:Hp} {Q:VK} (h:SqL K H p xs) (e:atI xs i=some v) (q:Q v H):rIxL K (.ref p) (.int i) H Q:=⟨p,xs,i,v,rfl,rfl,h,e,q⟩
theorem ZBe {K:W.Frag} {p:Addr} {xs:List V} {i:Int} {v:V} {H:Hp} {Q:VK} (h:SqT K H p xs) (e:atI xs i=some v) (q:Q v H):rIxT K (.ref p) (.int i) H Q:=⟨p,xs,i,v,rfl,rfl,h,e,q⟩
theorem ZAv {α:Type} {xs:List α} {i:Int} {v:α} (h0:0 <= i) (h:xs[i.toNat]?=some v):atI xs i=some v:=by
 have q:=atI_nat h
 rwa [Int.toNat_of_nonneg h0] at q
theorem atI_ints {xs:List Int} {i:Int} {v:Int} (h0:0 <= i) (h:xs[i.toNat]?=some v):atI (xs.map V.int) i=some (.int v):=ZAv h0 (by rw [yAW,h];rfl)
noncomputable def Nxt (P:Nat->List V->St->Hp->Prop) (n i:Nat) (ys:List V) (σ:St) (H:Hp):Prop:=∃ m',m' < n-i /\ m'=n-(i+1) /\ i+1 <= n /\ P (i+1) ys σ H
theorem Nxt.of {P:Nat->List V->St->Hp->Prop} {n i:Nat} {ys:List V} {σ:St} {H:Hp} (h:i < n) (p:P (i+1) ys σ H):Nxt P n i ys σ H:=⟨n-(i+1),by omega,rfl,h,p⟩
theorem comp_list {K:W.Frag} {a:Addr} {xs:List V} {g:TG} {tt:TT} {te:TE} {Q:VK} {σ0:St} {H:Hp} (P:Nat->List V->St->Hp->Prop) (h0:P 0 [] σ0 H) (hl:∀ i ys σ H,i <= xs.length->P i ys σ H->SqL K H a xs /\ ys.length <= i) (hz:xs.length <= sizeLine)
  (hs:∀ i ys x σ H,i < xs.length->xs[i]?=some x->P i ys σ H->g x σ H fun σ2 H2=>tt σ2 H2 fun b H3=>if b=true then te σ2 H3 fun y H4=>Nxt P xs.length i (ys++[y]) σ2 H4 else Nxt P xs.length i ys σ2 H3)
  (hd:∀ ys σ H,P xs.length ys σ H->∀ p,H p=none->Q (.ref p) (upd H p (.lst ys))) :
  ∃ W:Nat->Nat->List V->St->Hp->Prop,(∃ m,W 0 m [] σ0 H) /\ ∀ i m ys σ H,W i m ys σ H ->
   ((Itl K a).stop i H /\ ys.length <= sizeLine /\ ∀ p,H p=none->Q (.ref p) (upd H p (.lst ys))) ∨
   ((Itl K a).go i H /\ ys.length < sizeLine /\ ∀ x H',(Itl K a).yld i H x H'->g x σ H' fun σ2 H2=>tt σ2 H2 fun b H3=>if b=true then te σ2 H3 fun y H4=>∃ m',m' < m /\ W (i+1) m' (ys++[y]) σ2 H4 else ∃ m',m' < m /\ W (i+1) m' ys σ2 H3):=by
 refine ⟨fun i m ys σ H=>m=xs.length-i /\ i <= xs.length /\ P i ys σ H,⟨xs.length,by simp,yAI _,h0⟩,?_⟩
 rintro i m ys σ H ⟨rfl,hi,p⟩
 obtain ⟨q,ly⟩:=hl i ys σ H hi p
 by_cases hlt:i < xs.length
 .refine .inr ⟨⟨xs,xs[i],q,by simp [hlt]⟩,by omega,fun x H' y=>?_⟩
  obtain ⟨e,y⟩:=y
  subst e
  exact hs i ys x σ _ hlt (y xs q) p
 .have e:i=xs.length:=by omega
  subst e
  exact .inl ⟨⟨xs,q,yAA _⟩,by omega,hd ys σ H p⟩
theorem comp_range {lo:Int} {n:Nat} {g:TG} {tt:TT} {te:TE} {Q:VK} {σ0:St} {H:Hp} (P:Nat->List V->St->Hp->Prop) (h0:P 0 [] σ0 H) (hl:∀ i ys σ H,P i ys σ H->ys.length <= i) (hz:n <= sizeLine)
  (hs:∀ i ys σ H,i < n->P i ys σ H->g (.int (lo+i)) σ H fun σ2 H2=>tt σ2 H2 fun b H3=>if b=true then te σ2 H3 fun y H4=>Nxt P n i (ys++[y]) σ2 H4 else Nxt P n i ys σ2 H3)
  (hd:∀ ys σ H,P n ys σ H->∀ p,H p=none->Q (.ref p) (upd H p (.lst ys))) :
  ∃ W:Nat->Nat->List V->St->Hp->Prop,(∃ m,W 0 m [] σ0 H) /\ ∀ i m ys σ H,W i m ys σ H ->
   ((Itr lo n).stop i H /\ ys.length <= sizeLine /\ ∀ p,H p=none->Q (.ref p) (upd H p (.lst ys))) ∨
   ((Itr lo n).go i H /\ ys.length < sizeLine /\ ∀ x H',(Itr lo n).yld i H x H'->g x σ H' fun σ2 H2=>tt σ2 H2 fun b H3=>if b=true then te σ2 H3 fun y H4=>∃ m',m' < m /\ W (i+1) m' (ys++[y]) σ2 H4 else ∃ m',m' < m /\ W (i+1) m' ys σ2 H3):=by
 refine ⟨fun i m ys σ H=>m=n-i /\ i <= n /\ P i ys σ H,⟨n,by simp,yAI _,h0⟩,?_⟩
 rintro i m ys σ H ⟨rfl,hi,p⟩
 have ly:=hl i ys σ H p
 by_cases hlt:i < n
 .refine .inr ⟨hlt,by omega,fun x H' y=>?_⟩
  obtain ⟨e,y⟩:=y
  subst e y
  exact hs i ys σ _ hlt p
 .have e:i=n:=by omega
  subst e
  exact .inl ⟨yAA _,by omega,hd ys σ H p⟩
theorem Same.upd {H H':Hp} {p:Addr} {o:HO} (e:Same H H') (h:H p=none):Same H (upd H' p o):=fun b u q=>by rw [ZAI (ZAC q h)];exact e b u q
theorem Same.new {H H':Hp} {p:Addr} {o:HO} (e:Same H H') (h:H' p=none):Same H (L2.upd H' p o):=e.upd (e.free h)
theorem ZCm (ns:List Int) (lo hi:Option Int):cutV (ns.map V.int) lo hi=(((ns.drop (HT.sIx ns.length 0 lo)).take (HT.sIx ns.length ns.length hi-HT.sIx ns.length 0 lo)).map V.int):=by
 unfold cutV
 rw [yAC,List.map_take,yCG]
theorem get_ints {ns:List Int} {i:Nat} {x:V} (h:(ns.map V.int)[i]?=some x):∃ n,ns[i]?=some n /\ x=.int n:=by
 rw [yAW] at h
 cases e:ns[i]? with
 | none=>rw [e] at h;cases h
 | some n=>rw [e] at h;exact ⟨n,rfl,(Option.some.inj h).symm⟩
theorem ixN_of {n:Nat} {i:Int} (h0:0 <= i) (h:i < n):ixN n i=some i.toNat:=by unfold ixN;rw [if_pos h0,if_pos h]
theorem ZDK {K:W.Frag} {a:Addr} {xs:List V} {lo hi:Option Int} {H:Hp} {Q:VK} (h:SqL K H a xs) (q:∀ p,H p=none->Q (.ref p) (upd H p (.lst (cutV xs lo hi)))):rSlL K (.ref a) lo hi H Q:=⟨a,xs,rfl,h,q⟩
noncomputable def forL (K:W.Frag) (g:TG) (tb:TS) (D:Ends) (σ:St) (x:V) (H1:Hp):Prop:=∃ a,x=.ref a /\ (∃ xs,SqL K H1 a xs) /\ ∃ W:Nat->Nat->St->Hp->Prop,(∃ m,W 0 m σ H1) /\ ∀ i m σ H,W i m σ H ->
 ((Itl K a).stop i H /\ D.nx σ H)∨((Itl K a).go i H /\ ∃ N:St->Hp->Prop,(∀ σ' H',N σ' H'->∃ m',m' < m /\ W (i+1) m' σ' H') /\ ∀ x H',(Itl K a).yld i H x H'->g x σ H' fun σ2 H2=>tb { D with nx:=N,ct:=N,bk:=D.nx } σ2 H2)
theorem tForL_eq {K:W.Frag} {tl:TE} {g:TG} {tb:TS} {D:Ends} {σ:St} {H:Hp}:tFor (ZFQ K tl) g tb D σ H=tl σ H (fun x H1=>forL K g tb D σ x H1):=rfl
theorem forL_of {K:W.Frag} {g:TG} {tb:TS} {D:Ends} {σ:St} {H:Hp} {a:Addr} {xs:List V} (h:SqL K H a xs) (Pv:Nat->St->Hp->Prop) (h0:Pv 0 σ H) (hl:∀ i σ H,i <= xs.length->Pv i σ H->SqL K H a xs)
  (hs:∀ i x σ H,xs[i]?=some x->Pv i σ H->g x σ H fun σ2 H2=>tb { D with nx:=Pv (i+1),ct:=Pv (i+1),bk:=D.nx } σ2 H2) (hd:∀ σ H,Pv xs.length σ H->D.nx σ H):forL K g tb D σ (.ref a) H :=
 ⟨a,rfl,⟨xs,h⟩,for_list Pv h0 hl hs hd⟩
noncomputable def forR (lo:Int) (g:TG) (tb:TS) (D:Ends) (σ:St) (n:Nat) (H1:Hp):Prop:=∃ W:Nat->Nat->St->Hp->Prop,(∃ m,W 0 m σ H1) /\ ∀ i m σ H,W i m σ H ->
 ((Itr lo n).stop i H /\ D.nx σ H)∨((Itr lo n).go i H /\ ∃ N:St->Hp->Prop,(∀ σ' H',N σ' H'->∃ m',m' < m /\ W (i+1) m' σ' H') /\ ∀ x H',(Itr lo n).yld i H x H'->g x σ H' fun σ2 H2=>tb { D with nx:=N,ct:=N,bk:=D.nx } σ2 H2)
noncomputable def forR1 (g:TG) (tb:TS) (D:Ends) (σ:St) (x:V) (H1:Hp):Prop:=∃ j:Int,[x]=[.int j] /\ -(2 ^ 62) <= j /\ j < 2 ^ 62 /\ forR 0 g tb D σ j.toNat H1
noncomputable def forR2 (g:TG) (tb:TS) (D:Ends) (σ:St) (x y:V) (H1:Hp):Prop:=∃ i j:Int,[x,y]=[.int i,.int j] /\ (-(2 ^ 62) <= i /\ i < 2 ^ 62 /\ -(2 ^ 62) <= j /\ j < 2 ^ 62) /\ forR i g tb D σ (j-i).toNat H1
theorem tForR1_eq {t:TE} {g:TG} {tb:TS} {D:Ends} {σ:St} {H:Hp}:tFor (ZFP (ZBx t tNil)) g tb D σ H=t σ H (fun x H1=>forR1 g tb D σ x H1):=rfl
theorem tForR2_eq {t u:TE} {g:TG} {tb:TS} {D:Ends} {σ:St} {H:Hp}:tFor (ZFO (ZBx t (ZBx u tNil))) g tb D σ H=t σ H (fun x H1=>u σ H1 fun y H2=>forR2 g tb D σ x y H2):=rfl
theorem forR_of {lo:Int} {n:Nat} {g:TG} {tb:TS} {D:Ends} {σ:St} {H:Hp} (Pv:Nat->St->Hp->Prop) (h0:Pv 0 σ H)
  (hs:∀ i σ H,i < n->Pv i σ H->g (.int (lo+i)) σ H fun σ2 H2=>tb { D with nx:=Pv (i+1),ct:=Pv (i+1),bk:=D.nx } σ2 H2) (hd:∀ σ H,Pv n σ H->D.nx σ H):forR lo g tb D σ n H:=for_range Pv h0 hs hd
theorem forR1_of {j:Int} {g:TG} {tb:TS} {D:Ends} {σ:St} {H:Hp} (h:-1000 <= j /\ j <= 1000) (q:forR 0 g tb D σ j.toNat H):forR1 g tb D σ (.int j) H:=⟨j,rfl,by omega,by omega,q⟩
theorem forR2_of {i j:Int} {g:TG} {tb:TS} {D:Ends} {σ:St} {H:Hp} (h:-1000 <= i /\ i <= 1000 /\ -1000 <= j /\ j <= 1000) (q:forR i g tb D σ (j-i).toNat H):forR2 g tb D σ (.int i) (.int j) H:=⟨i,j,rfl,by omega,q⟩
noncomputable def compL (K:W.Frag) (g:TG) (tt:TT) (te:TE) (σ0:St) (Q:VK) (x:V) (H1:Hp):Prop:=∃ a,x=.ref a /\ (∃ xs,SqL K H1 a xs) /\ ∃ W:Nat->Nat->List V->St->Hp->Prop,(∃ m,W 0 m [] σ0 H1) /\ ∀ i m ys σ H,W i m ys σ H ->
 ((Itl K a).stop i H /\ ys.length <= sizeLine /\ ∀ p,H p=none->Q (.ref p) (upd H p (.lst ys))) ∨
 ((Itl K a).go i H /\ ys.length < sizeLine /\ ∀ x H',(Itl K a).yld i H x H'->g x σ H' fun σ2 H2=>tt σ2 H2 fun b H3=>if b=true then te σ2 H3 fun y H4=>∃ m',m' < m /\ W (i+1) m' (ys++[y]) σ2 H4 else ∃ m',m' < m /\ W (i+1) m' ys σ2 H3)
theorem tCompL_eq {k:Nat} {js:List Nat} {K:W.Frag} {tl:TE} {g:TG} {tt:TT} {te:TE} {σ:St} {H:Hp} {Q:VK}:ZDv k js (ZFQ K tl) g tt te σ H Q=tl σ H (fun x H1=>compL K g tt te (up k js σ) Q x H1):=rfl
theorem compL_of {K:W.Frag} {a:Addr} {xs:List V} {g:TG} {tt:TT} {te:TE} {Q:VK} {σ0:St} {H:Hp} (h:SqL K H a xs) (hz:xs.length <= 1000) (P:Nat->List V->St->Hp->Prop) (h0:P 0 [] σ0 H) (hl:∀ i ys σ H,i <= xs.length->P i ys σ H->SqL K H a xs /\ ys.length <= i)
  (hs:∀ i ys x σ H,i < xs.length->xs[i]?=some x->P i ys σ H->g x σ H fun σ2 H2=>tt σ2 H2 fun b H3=>if b=true then te σ2 H3 fun y H4=>Nxt P xs.length i (ys++[y]) σ2 H4 else Nxt P xs.length i ys σ2 H3)
  (hd:∀ ys σ H,P xs.length ys σ H->∀ p,H p=none->Q (.ref p) (upd H p (.lst ys))):compL K g tt te σ0 Q (.ref a) H:=⟨a,rfl,⟨xs,h⟩,comp_list P h0 hl (ZAU hz) hs hd⟩
noncomputable def compR (lo:Int) (g:TG) (tt:TT) (te:TE) (σ0:St) (Q:VK) (n:Nat) (H1:Hp):Prop:=∃ W:Nat->Nat->List V->St->Hp->Prop,(∃ m,W 0 m [] σ0 H1) /\ ∀ i m ys σ H,W i m ys σ H ->
 ((Itr lo n).stop i H /\ ys.length <= sizeLine /\ ∀ p,H p=none->Q (.ref p) (upd H p (.lst ys))) ∨
 ((Itr lo n).go i H /\ ys.length < sizeLine /\ ∀ x H',(Itr lo n).yld i H x H'->g x σ H' fun σ2 H2=>tt σ2 H2 fun b H3=>if b=true then te σ2 H3 fun y H4=>∃ m',m' < m /\ W (i+1) m' (ys++[y]) σ2 H4 else ∃ m',m' < m /\ W (i+1) m' ys σ2 H3)
noncomputable def compR1 (g:TG) (tt:TT) (te:TE) (σ0:St) (Q:VK) (x:V) (H1:Hp):Prop:=∃ j:Int,[x]=[.int j] /\ -(2 ^ 62) <= j /\ j < 2 ^ 62 /\ compR 0 g tt te σ0 Q j.toNat H1
theorem tCompR1_eq {k:Nat} {js:List Nat} {t:TE} {g:TG} {tt:TT} {te:TE} {σ:St} {H:Hp} {Q:VK}:ZDv k js (ZFP (ZBx t tNil)) g tt te σ H Q=t σ H (fun x H1=>compR1 g tt te (up k js σ) Q x H1):=rfl
theorem compR1_of {j:Int} {g:TG} {tt:TT} {te:TE} {Q:VK} {σ0:St} {H:Hp} (h:-1000 <= j /\ j <= 1000) (P:Nat->List V->St->Hp->Prop) (h0:P 0 [] σ0 H) (hl:∀ i ys σ H,P i ys σ H->ys.length <= i)
  (hs:∀ i ys σ H,i < j.toNat->P i ys σ H->g (.int (0+i)) σ H fun σ2 H2=>tt σ2 H2 fun b H3=>if b=true then te σ2 H3 fun y H4=>Nxt P j.toNat i (ys++[y]) σ2 H4 else Nxt P j.toNat i ys σ2 H3)
  (hd:∀ ys σ H,P j.toNat ys σ H->∀ p,H p=none->Q (.ref p) (upd H p (.lst ys))):compR1 g tt te σ0 Q (.int j) H:=⟨j,rfl,by omega,by omega,comp_range P h0 hl (ZAU (by omega)) hs hd⟩
noncomputable def CDivB (i j:Int):Prop:=0 < j /\ j < 2 ^ 250
section
variable {X:Cx}
theorem ZC1:OpR X (binaryOp .FloorDiv) (rI CDivB fun i j=>.int (i / j)):=opI fun i j _ _ _ _ _ hc q=>by
 have h1:(0:Int) < j:=hc.1
 have h2:j < 2 ^ 250:=hc.2
 have h3:j.natAbs < 2 ^ 250:=by
  have e:(j.natAbs:Int)=j:=Int.natAbs_of_nonneg (by omega)
  have e2:((2 ^ 250:Nat):Int)=2 ^ 250:=by rfl
  omega
 have h4:j.natAbs.log2 < 250:=(Nat.log2_lt (by omega)).mpr h3
 exact floordiv_int (by omega) (by rw [Int.fdiv_eq_ediv_of_nonneg i (by omega)];exact q) (.inl (PyProof.noPylong_of_log2 (by omega)))
end
theorem gCons_eq {t:TG} {u:TGs} {v:V} {r:List V} {σ:St} {H:Hp} {Q:St->Hp->Prop}:ZFS t u (v::r) σ H Q=t v σ H (fun σ' H'=>u r σ' H' Q):=by
 apply propext;unfold ZFS;constructor
 .rintro ⟨v',r',e,q⟩;cases e;exact q
 .exact fun q=>⟨v,r,rfl,q⟩
theorem gNil_eq {σ:St} {H:Hp} {Q:St->Hp->Prop}:gNil [] σ H Q=Q σ H:=by
 apply propext;unfold gNil;simp
theorem gTup_of {K:W.Frag} {n:Nat} {t:TGs} {a:Addr} {xs:List V} {σ:St} {H:Hp} {Q:St->Hp->Prop} (h:SqT K H a xs) (l:xs.length=n) (q:t xs σ H Q):gTup K n t (.ref a) σ H Q:=⟨a,xs,rfl,h,l,q⟩
section
variable {X:Cx} {tg l e o:Expr} {es:List Expr} {tl te to:TE} {t:TA} {pos apos cpos:Pos} {f:Str}
theorem ix_listK (K:W.Frag) (h:X.K=K:=by rfl):IxR X (rIxL K):=h ▸ ZAf
theorem ix_tupK (K:W.Frag) (h:X.K=K:=by rfl):IxR X (rIxT K):=h ▸ ZBd
theorem ZDf (K:W.Frag) (he:PE X e te) (hb:attributeBase e f X.env (eval e X.env)=eval e X.env) (h:X.K=K:=by rfl):PE X (.Attribute e f pos) (tFld K te f):=h ▸ ZAN he hb
theorem pg_tupK (K:W.Frag) {k:Nat} {tgs:TGs} {n:Nat} (hc:X.calm=true) (hg:PGs X es tgs)
  (hn:(assignEach es X.env).length=n:=by rfl) (hst:(assignEach es X.env).findIdx? (·.1)=none:=by rfl) (h:X.K=K:=by rfl):PG X (.Tuple es k pos) (gTup K n tgs):=h ▸ pg_tup hc hg hn hst
end
section
variable {X:Cx}
theorem tAug_eq {i:Nat} {te:TE} {ti:TIp} {D:Ends} {σ:St} {H:Hp}:tAug i te ti D σ H=tVar i σ H (fun x H0=>te σ H0 fun y H1=>ti x y H1 fun z H2=>D.nx (σ.set i (some z)) H2):=rfl
theorem ipI_int {f:Int->Int->Int} {i j:Int} {H:Hp} {Q:VK}:ipI f (.int i) (.int j) H Q=Q (.int (f i j)) H:=by
 refine propext ⟨?_,fun q=>⟨i,j,rfl,rfl,q⟩⟩
 rintro ⟨a,b,e1,e2,q⟩
 cases e1;cases e2;exact q
theorem cx_K {CX:CXT} {P:Program} {w:World} {K:W.Frag} {mg:Str->Option Value} {base:Heap} {N:List Str} {qual:Str} {scope:Scope} {f:Addr} {cd:Value} {A:Around} {outer:List Env} {s:Shared} {H:Hp} {E:XK}:(cxOf CX P w K mg base N qual scope f cd A outer s H E).K=K:=rfl
noncomputable def wBody (W:Nat->St->Hp->Prop) (m:Nat) (tb:TS) (D:Ends) (σ:St) (H1:Hp):Prop:=∃ N:St->Hp->Prop,(∀ σ' H',N σ' H'->∃ m',m' < m /\ W m' σ' H') /\ tb { D with nx:=N,ct:=N,bk:=D.nx } σ H1
theorem ZBW {W:Nat->St->Hp->Prop} {m:Nat} {tb:TS} {D:Ends} {σ:St} {H1:Hp} (h:tb { D with nx:=fun σ' H'=>∃ m',m' < m /\ W m' σ' H',ct:=fun σ' H'=>∃ m',m' < m /\ W m' σ' H',bk:=D.nx } σ H1):wBody W m tb D σ H1:=⟨_,fun _ _ q=>q,h⟩
theorem ZBV {c:TT} {tb:TS} {D:Ends} {σ:St} {H:Hp} (W:Nat->St->Hp->Prop) (h0:∃ m,W m σ H) (hs:∀ m σ H,W m σ H->c σ H fun b H1=>if b=true then wBody W m tb D σ H1 else D.nx σ H1):tWhile c tb D σ H:=⟨W,h0,hs⟩
noncomputable def insV (xs:List V) (i:Int) (y:V):List V:=let k:=if i < 0 then (i+(xs.length:Int)).toNat else min i.toNat xs.length;xs.take k++y::xs.drop k
noncomputable def rInsert:V->List V->Hp->VK->Prop:=fun x vs H Q=>∃ l xs i y,x=.ref l /\ vs=[.int i,y] /\ H l=some (.lst xs) /\ xs.length < sizeLine /\ (-(2 ^ 62) <= i /\ i < 2 ^ 62) /\ Q .non (upd H l (.lst (insV xs i y)))
theorem ins_arr (its:List Value) (k:Nat) (u:Value) (hk:k <= its.length):(its.toArray.extract 0 k).push u++its.toArray.extract k=(its.take k++u::its.drop k).toArray:=by
 apply Array.ext'
 simp
 exact yBQ (by rw [yAR];exact yAA _)
theorem insV_length (xs:List V) (i:Int) (y:V):(insV xs i y).length=xs.length+1:=by
 unfold insV
 dsimp only
 rw [yAB,yAG,yAM,yAR]
 omega
theorem Vals.ins {xs:List V} {us:List Value} {y:V} {u:Value} (r:Vals xs us) (q:RelV y u) (k:Nat):Vals (xs.take k++y::xs.drop k) (us.take k++u::us.drop k):=(r.take k).append (.cons q (r.drop k))
theorem mt_insert:MtM X "list.insert" rInsert:=by
 intro pins s σ H x vs v us Q I rx rv h
 obtain ⟨l,xs,i,y,rfl,rfl,hH,hz,hi,q⟩:=h
 cases rx
 obtain ⟨u,u2,rfl,ru,ru2⟩:=rv.two
 obtain ⟨t,rfl⟩:=ru
 obtain ⟨z,its,n,r,hl,e⟩:=I.lstM hH
 have hc0:¬(!Builtin.List.listFitsIndex i)=true:=by
  unfold Builtin.List.listFitsIndex
  have:(decide (-(2 ^ 63:Int) <= i) && decide (i < 2 ^ 63))=true:=by
   rw [Bool.and_eq_true];exact ⟨decide_eq_true (by omega),decide_eq_true (by omega)⟩
  simpa using this
 refine call_meets F.slot_list_insert ⟨_,e,rfl⟩ F.entry_list_insert (F.args_list_insert_3 _ _ _) (PySem.AutoListH.list_insert_list_int_val_1 l its.toArray n i t u2 hc0 (by rw [yAO];omega)) ⟨e,?_⟩
 have hk:(if i < 0 then (i+(its.length:Int)).toNat else min i.toNat its.length) <= its.length:=by split <;> omega
 refine ⟨.non,_,I.lset (its':=its.take (if i < 0 then (i+(its.length:Int)).toNat else min i.toNat its.length)++u2::its.drop (if i < 0 then (i+(its.length:Int)).toNat else min i.toNat its.length)) hH e ?_ (ys:=insV xs i y) ?_ ?_,rfl,q⟩
 .show (its.toArray.extract 0 _).push u2++its.toArray.extract _=_
  rw [yAO]
  exact ins_arr its _ u2 hk
 .unfold insV
  rw [hl]
  exact r.ins ru2 _
 .rw [insV_length];omega
end
structure Enc {α:Type} [DecidableEq α] (e:α->PyData) (n:Nat):Prop where
 eq:∀ a b,PyData.eqv (e a) (e b)=decide (a=b)
 lay:∀ a,(e a).canLay0=true
 dep:∀ a,(e a).depth <= n
theorem Enc.int:Enc PyData.int 0:=⟨fun a b=>by unfold PyData.eqv;rw [Bool.eq_iff_iff];simp,fun a=>by unfold PyData.canLay0;rfl,fun a=>by unfold PyData.depth;exact yAA _⟩
section
variable {α β γ:Type} [DecidableEq α] [DecidableEq β] [DecidableEq γ] {e:α->PyData} {f:β->PyData} {g:γ->PyData} {n m k:Nat}
theorem Enc.all (h:Enc e n):∀ xs ys:List α,PyData.eqvAll (xs.map e) (ys.map e)=decide (xs=ys)
 | [],[]=>by simp [PyData.eqvAll]
 | x::xs,[]=>by simp [PyData.eqvAll]
 | [],y::ys=>by simp [PyData.eqvAll]
 | x::xs,y::ys=>by
  rw [yAY,yAY]
  unfold PyData.eqvAll
  rw [h.eq,h.all xs ys,<- Bool.decide_and]
  exact decide_eq_decide.mpr (by rw [List.cons.injEq])
theorem Enc.layAll (h:Enc e n):∀ xs:List α,PyData.canLayAll0 (xs.map e)=true
 | []=>by simp [PyData.canLayAll0]
 | x::xs=>by rw [yAY];unfold PyData.canLayAll0;rw [h.lay,h.layAll xs];rfl
theorem Enc.depAll (h:Enc e n):∀ xs:List α,PyData.depthAll (xs.map e) <= n
 | []=>by simp [PyData.depthAll]
 | x::xs=>by
  rw [yAY];unfold PyData.depthAll
  have a:=h.dep x
  have b:=h.depAll xs
  omega
theorem Enc.list (h:Enc e n):Enc (fun xs:List α=>PyData.list (xs.map e)) (n+1) :=
 ⟨fun a b=>by unfold PyData.eqv;exact h.all a b,fun a=>by unfold PyData.canLay0;exact h.layAll a,fun a=>by unfold PyData.depth;have:=h.depAll a;omega⟩
theorem eqD_of {K:W.Frag} {H:Hp} {x y:V} {a b:α} {Q:VK} (h:Enc e n) (hn:n <= 64) (dx:Dp K H (e a) x) (dy:Dp K H (e b) y) (q:Q (.bl (decide (a=b))) H):rEqD K x y H Q :=
 ⟨_,_,dx,dy,h.lay a,h.lay b,yAK (h.dep a) hn,by rw [h.eq];exact q⟩
theorem ZEt {K:W.Frag} {H:Hp} {x y:V} {a b:α} {Q:VK} (h:Enc e n) (hn:n <= 64) (dx:Dp K H (e a) x) (dy:Dp K H (e b) y) (q:Q (.bl (!decide (a=b))) H):rNeD K x y H Q :=
 ⟨_,_,dx,dy,h.lay a,h.lay b,yAK (h.dep a) hn,by rw [h.eq];exact q⟩
end
theorem ZBh {K:W.Frag} {H:Hp} {a:Addr} {xs:List Int} (h:SqL K H a (xs.map V.int)):Dp K H (.list (xs.map PyData.int)) (.ref a):=ZD3 h (DpAll.ints xs)
section
variable {K:W.Frag} {H:Hp} {R:Bool->Prop}
end
structure FunD (K:W.Frag) (x qual:Str) (st:Stmt) (f:Addr) (fd:FuncData) (dv:List Value):Prop where
 ex:∃ (oc:Value) (od:Option Addr) (T:Addr) (kV doc pm:Value) (an:Option Addr) (cdv ct:Value) (osl:Array (Option Value)),
  fd=W.fnOf x qual (ZAP st) (ZAM st) (ZAE st) (.ref T) kV doc pm an cdv ct /\ K.lookup f=some ⟨oc,od,.func fd,osl⟩ /\ W.codeIn K cdv qual=true /\ ∃ o n,K.lookup T=some o /\ o.data=.seq dv.toArray n
 kp:W.keepIn K (.ref f)=true
section
variable {P:Program} {w:World} {K:W.Frag} {mg:Str->Option Value} {base:Heap}
theorem FunD.ok {x qual:Str} {st:Stmt} {f:Addr} {fd:FuncData} {dv:List Value} {N ps:List Str} {k:Nat} {sp:Sp} (F:FunD K x qual st f fd dv) (S:FnScope N ps (ZAE st)) (len:∀ vs H Q E,sp vs H Q E->vs.length=ps.length)
  (hbody:∀ (cdv:Value) (A:Around) (outer:List Env) (s:Shared) (H:Hp) (vs:List V) (Q:VK) (E:XK),Room k (A.deeper (envOfC qual (ZAE st) s.heap.objs.size f cdv))->sp vs H Q E ->
   ∃ t,PSs (cxOf CX0 P w K mg base N qual (ZAE st) f cdv A outer s H E).nox (ZAM st) t /\ t { nx:=fun _ H'=>Q .non H',rt:=Q } (start N vs) H):FnOk P w K mg base CX0 (k+1) f fd ps sp:=by
 obtain ⟨oc,od,T,kV,doc,pm,an,cdv,ct,osl,rfl,lk,hcd,_⟩:=F.ex
 refine ZFA lk hcd S len fun A outer s H vs Q E hr hsp=>?_
 obtain ⟨t,h,q⟩:=hbody cdv A outer s H vs Q E hr hsp
 exact ⟨t,h.nox,q⟩
theorem FunD.binds {x qual:Str} {st:Stmt} {f:Addr} {fd:FuncData} {dv ds:List Value} {ps:List Str} (F:FunD K x qual st f fd dv)
  (h:∀ (T:Addr) (kV doc pm:Value) (an:Option Addr) (cdv ct:Value) (us:List Value),(us++ds).length=ps.length->∃ k,bindArgs (W.fnOf x qual (ZAP st) (ZAM st) (ZAE st) (.ref T) kV doc pm an cdv ct) ⟨us,[]⟩=seqItems? (.ref T) >>= k /\ k (some dv.toArray)=pure (ps.zip (us++ds))):Binds K fd ps ds:=by
 obtain ⟨oc,od,T,kV,doc,pm,an,cdv,ct,osl,rfl,lk,hcd,o,n,hT,ho⟩:=F.ex
 intro s us KX hl
 obtain ⟨k,h1,h2⟩:=h T kV doc pm an cdv ct us hl
 exact PySem.W.binds_K KX rfl hT ho h1 h2
theorem ZDC {x qual:Str} {st:Stmt} {f T:Addr} {oc:Value} {od an:Option Addr} {osl:Array (Option Value)} {kV doc pm cdv ct:Value} {dv:List Value} {ocT:Value} {odT:Option Addr} {nT:Nat} {slT:Array (Option Value)} (l:K.lookup f=some ⟨oc,od,.func (W.fnOf x qual (ZAP st) (ZAM st) (ZAE st) (.ref T) kV doc pm an cdv ct),osl⟩)
  (c:W.codeIn K cdv qual=true) (k:W.keepIn K (.ref f)=true) (t:K.lookup T=some ⟨ocT,odT,.seq dv.toArray nT,slT⟩):FunD K x qual st f (W.fnOf x qual (ZAP st) (ZAM st) (ZAE st) (.ref T) kV doc pm an cdv ct) dv:=⟨⟨oc,od,T,kV,doc,pm,an,cdv,ct,osl,rfl,l,c,_,nT,t,rfl⟩,k⟩
end
structure KlD (P:Program) (w:World) (K:W.Frag) (mg:Str->Option Value) (base:Heap) (CX:CXT) (x:Str) (C:Addr) (k:Nat) (ps:List Str) (sp:Sp) (dvs:List V):Prop where
 mgC:mg x=some (.ref C)
 ex:∃ f fd ds,FnOk P w K mg base CX k f fd ps sp /\ Binds K fd ps ds /\ Vals dvs ds /\ Mk K C f
section
variable {X:Cx} {CX:CXT} {k:Nat} {ps:List Str} {sp:Sp} {dvs:List V} {E:XK} {x m:Str} {C:Addr} {p pos apos:Pos} {e o:Expr} {es:List Expr} {ta:TE} {t:TA}
theorem pe_mkD (F:KlD X.prog X.w X.K X.mg X.base CX x C k ps sp dvs) (hr:Room (k+1) X.A) (hg:Gl X x) (hx:ZBH CX X E) (ha:PA X (e::es) t) (hdb:(x == ("__debug__":Str))=false:=by decide) (he:starEach (e::es) X.env=(false,eval e X.env)::starEach es X.env:=by rfl) (hpl:(backTo pos (starEach es X.env)).any (·.1)=false:=by rfl) :
  PE X (.Call (.Name x p) (e::es) [] pos) (ZEj C sp dvs E t):=by
 obtain ⟨f,fd,ds,h1,h2,hv,h3⟩:=F.ex
 exact pe_make h3 h1 hr hg F.mgC h2 hv hx ha hdb he hpl
end
section
variable {X:Cx}
theorem rng_ok {P:Program} {w:World} {H:Hp} {h:Heap} {a:Addr} {lo hi:Int} {t u v:Tok} (e:h.get? a=some { cls:=.type "range",data:=.fields #[.int lo t,.int hi u,.int 1 v] }):ObjOk P w H h a (.rng lo hi):=⟨t,u,v,e⟩
theorem call_rng2:ZCN X (.type "range") (fun xs H Q=>∃ m n:Int,xs=[.int m,.int n] /\ ∀ p,H p=none->Q (.ref p) (upd H p (.rng m n))):=by
 intro pins s σ H xs us Q I r h
 obtain ⟨m,n,rfl,q⟩:=h
 obtain ⟨u,w',rfl,rx,ry⟩:=ZD5 r
 obtain ⟨t,rfl⟩:=rx
 obtain ⟨t',rfl⟩:=ry
 exact call_range_2 ⟨.ref s.heap.objs.size,_,I.laid (fun b o e=>Heap.get?_push_of_some _ e) (yAA _) (rng_ok (Heap.get?_push_size _ rfl)),rfl,q _ (I.hok.fresh (yAA _))⟩
noncomputable def ZDE (lo hi:Int):List Int:=(List.range (hi-lo).toNat).map fun i:Nat=>lo+(i:Int)
theorem ZBy (lo hi:Int):(ZDE lo hi).length=(hi-lo).toNat:=by unfold ZDE;rw [yAC,List.length_range]
theorem rints_get {lo hi:Int} {i:Nat} (h:i < (hi-lo).toNat):(ZDE lo hi)[i]?=some (lo+i):=by unfold ZDE;rw [yAW,List.getElem?_range h];rfl
theorem call_list_rng (hc:X.calm=true):ZCN X (.type "list") (fun xs H Q=>∃ (p:Addr) (lo hi:Int),xs=[.ref p] /\ H p=some (.rng lo hi) /\ (-1000 <= lo /\ lo <= 1000 /\ -1000 <= hi /\ hi <= 1000) /\ ∀ l,H l=none->Q (.ref l) (upd H l (.lst ((ZDE lo hi).map V.int)))):=by
 intro pins s σ H xs us Q I r h
 obtain ⟨p,lo,hi,rfl,hp,hb,q⟩:=h
 obtain ⟨u,rfl,rx⟩:=ZDu r
 cases rx
 obtain ⟨t,u,v,e⟩:=I.hok p _ hp
 have hh:X.A.handled=none:=I.ok.hd hc
 refine call_list_range (n:=(hi-lo).toNat) hh e (small_one (by omega) (by omega) (by omega) (by omega)) (by rw [rangeSize_one];split <;> omega) (by omega) fun h' tk acc' c' hk hS hacc=>?_
 have hz:(ZDE lo hi).length <= 1000 * 2:=by rw [ZBy];omega
 refine ⟨.ref s.heap.objs.size,_,I.laid (t':=tk) hk (yAA _) (o:=.lst ((ZDE lo hi).map V.int)) ⟨?_,acc'.toList,c',?_,by simpa using hS⟩,rfl,q _ (I.hok.fresh (yAA _))⟩
 .rw [yAC]
  exact yAK hz (by decide)
 .have hsz:acc'.size=(hi-lo).toNat:=hacc.1
  have gen:∀ (vs:List Value) (k:Nat) (zs:List Int),vs.length=zs.length->(∀ (j:Nat) v z,vs[j]?=some v->zs[j]?=some z->∃ t,v=Value.int z t)->Vals (zs.map V.int) vs:=by
   intro vs
   induction vs with
   | nil=>intro k zs h1 _;cases zs with
    | nil=>exact .nil
    | cons _ _=>cases h1
   | cons v r ih=>intro k zs h1 h2;cases zs with
    | nil=>cases h1
    | cons z zr=>exact .cons (h2 0 v z rfl rfl) (ih 0 zr (by simpa using h1) fun j v' z' a b=>h2 (j+1) v' z' (by simpa using a) (by simpa using b))
  refine gen acc'.toList 0 (ZDE lo hi) (by rw [ZBy,yAP,hsz]) fun j v z a b=>?_
  have a':acc'[j]?=some v:=by simpa using a
  obtain ⟨t,rfl⟩:=hacc.2 j v a'
  have hj:j < (hi-lo).toNat:=by have:=(yBG.mp a').1;omega
  rw [rints_get hj] at b
  cases b
  exact ⟨t,by rw [Int.mul_one]⟩
end
theorem Same.get {H H':Hp} {b:Addr} {o:HO} (s:Same H H') (h:H b=some o):H' b=some o:=s b o h
theorem newH {H:Hp} {p:Addr} (h:H p=none) (o:HO):∃ H',upd H p o=H' /\ Same H H' /\ H' p=some o:=⟨_,rfl,ZAK h o,ZAG⟩
section
variable {K:W.Frag} {a:Addr} {xs:List V} {te:TE} {Q:VK} {σ0 rest:St} {H:Hp}
end
section
variable {X:Cx} {pins:List (Addr×Obj)} {σ:St} {H:Hp} {s:Shared}
theorem Inv.turn2 (I:Inv X pins σ H s) {ch:List Addr} {h':Heap} {p:Addr} {o:HO} {t':Nat} (hf:∀ b∈ch,FpOk X pins H b) (k:∀ b ob,b∉ch->s.heap.get? b=some ob->h'.get? b=some ob)
  (hp:s.heap.objs.size <= p) (new:ObjOk X.prog X.w (upd H p o) h' p o):Inv X pins σ (upd H p o) { s with heap:=h',toks:=t' }:=by
 have hn:H p=none:=I.hok.fresh hp
 have tr:∀ b u,H b=some u->b∉ch:=fun b u e z=>by rw [(hf b z).1] at e;cases e
 refine I.call (g':=s.gens) (t':=t') (d':=s.drawn) (ch:=ch) ⟨fun b ob e n _ hx=>k b ob hx e,fun b ob e n _ hx=>⟨ob.slots,k b ob hx e⟩,fun b ob e n _=>?_,fun b ob e hx=>⟨ob,k b ob hx e⟩,fun b xs e=>?_,fun b ob u e=>?_,fun b qs e=>⟨#[],?_⟩⟩ (fun b u e=>?_) I.bare fun b hb=>?_
 .rw [ZAI (yAU (yAX (Heap.lt_size e) hp))];exact n
 .rw [ZAI (ZAC e hn)];exact e
 .rw [ZAI (ZAC e hn)];exact e
 .rw [ZAI (ZAC e hn),e];simp
 .by_cases hb:b=p
  .subst hb;rw [ZAG] at e;cases e;exact new
  .rw [ZAI hb] at e
   refine (I.hok b u e).stay (fun c v hc q=>k c v ?_ q) (fun c q=>by rw [ZAI (ZAC q hn)];exact q) fun c xs q=>by rw [ZAI (ZAC q hn)];exact q
   rcases hc with z | z
   .rw [z];exact tr b u e
   .exact tr c _ z
 .obtain ⟨a1,a2,a3,a4,a5,a6⟩:=hf b hb
  exact ⟨a4,a2,a5,a6⟩
end
noncomputable def Ite (K:W.Frag) (a:Addr):It :=
 ⟨fun i H=>∃ xs x,SqL K H a xs /\ xs[i]?=some x,fun i H v H'=>∃ p x,H p=none /\ (∀ xs,SqL K H a xs->xs[i]?=some x) /\ H'=upd H p (.tup [.int i,x]) /\ v=.ref p,fun i H=>∃ xs,SqL K H a xs /\ xs.length <= i⟩
theorem turn_enum {P:Program} {w:World} {K:W.Frag} {elts:List Expr} {x1} {tpos:Pos} (a e it:Addr) (hne:e≠it):Turn P w K (.Tuple elts x1 tpos) (Ite K a) [e,it] e (fun i h=>(∃ old,IsEnum h e it ((i:Nat):Int) old) /\ h.IsListIter it a i) where
 mem:=by simp
 obj:=fun i h st b hb=>by
  obtain ⟨⟨old,he⟩,o,e2,c,d⟩:=st
  have hb':b=e∨b=it:=by simpa using hb
  rcases hb' with rfl | rfl
  .exact ⟨_,he,fun v z=>by cases z⟩
  .exact ⟨o,e2,fun v z=>by rw [d] at z;cases z⟩
 keep:=fun i h h' st k=>⟨let ⟨old,he⟩:=st.1;⟨old,k e (by simp) _ he⟩,st.2.at fun o q=>k it (by simp) o q⟩
 item:=by
  intro X hP hw hK hc i pins s σ H E I hf st hg
  subst hP hw hK
  obtain ⟨xs,x,hq,hx⟩:=hg
  obtain ⟨its,rv,p,hz⟩:=I.list hq
  obtain ⟨u,hu,ru⟩:=rv.get hx
  obtain ⟨⟨old,he⟩,hit⟩:=st
  refine wpAny_pyNext_enum_item he hit p.isList (x:=u) (by simpa using hu) hne fun h1 heo hit1 ht1 hz1 hk1=>⟨_,rfl,?_⟩
  refine wpAny_letOwnedTupleGo_enum heo fun h2 he2 hs2=>?_
  replace hs2:Heap.SameBut e h1 h2:=hs2
  have hel:e < s.heap.objs.size:=Heap.lt_size he
  have ht2:h2.get? s.heap.objs.size=some { cls:=.type "tuple",data:=.seq #[.int i s.toks,u] }:=(hs2.2 _ (Nat.ne_of_gt hel)).trans ht1
  have hnew:H s.heap.objs.size=none:=I.hok.fresh (yAA _)
  refine ⟨.ref s.heap.objs.size,upd H s.heap.objs.size (.tup [.int i,x]),I.turn2 (ch:=[e,it]) (t':=s.toks+1) hf (fun b ob hb q=>?_) (yAA _) ?_,rfl,⟨_,x,hnew,fun ys hy=>by rw [I.list_inj hy hq];exact hx,rfl,rfl⟩,⟨⟨u,?_⟩,?_⟩,fun b hb=>?_⟩
  .have hbe:b≠e:=fun z=>hb (by simp [z])
   have hbi:b≠it:=fun z=>hb (by simp [z])
   exact (hs2.2 b hbe).trans (hk1 b ob hbe hbi q)
  .exact ⟨ZAU (show 2 <= 1000 by decide),[.int i s.toks,u],.cons ⟨_,rfl⟩ (.cons ru .nil),_,ht2,rfl,0,rfl⟩
  .have:((i+1:Nat):Int)=(i:Int)+1:=by push_cast;rfl
   rw [this];exact he2
  .exact hit1.at fun o q=>(hs2.2 it (Ne.symm hne)).trans q
  .have hn:=(hf b hb).1
   have hb':b=e∨b=it:=by simpa using hb
   obtain ⟨oi,hoi,_⟩:=hit
   have hlt:b < s.heap.objs.size:=by
    rcases hb' with rfl | rfl
    .exact hel
    .exact Heap.lt_size hoi
   rw [ZAI (yAU hlt)];exact hn
 done:=by
  intro X hP hw hK hc i pins s σ H E I hf st hg
  subst hP hw hK
  obtain ⟨xs,hq,hx⟩:=hg
  obtain ⟨its,rv,p,hz⟩:=I.list hq
  obtain ⟨⟨old,he⟩,hit⟩:=st
  obtain ⟨f0,f1,f2,f3,f4,f5⟩:=hf it (by simp)
  have hl:=rv.length
  exact wpAny_pyNext_enum_end (I.ok.hd hc) he hit p.isList (by rw [List.getElem?_toArray];exact yBY (by omega)) fun h' eb=>⟨rfl,I.turned (t':=s.toks) (fun b o hb e=>eb b o hb e) f0 f1 f3 f4 f5⟩
 self:=fun _ _ _ _ _ st h=>let ⟨_,he⟩:=st.1;wpAny_pyIter_enum he h
section
variable {X:Cx}
noncomputable def ZFR (K:W.Frag) (ta:TA):TI:=fun σ H R=>ta σ H fun vs H1=>∃ a,vs=[.ref a] /\ (∃ xs,SqL K H1 a xs) /\ R (Ite K a) H1
theorem pi_enum {elts:List Expr} {x1} {tpos:Pos} {l:Expr} {ta:TA} {p pos:Pos} (hg:Gl X "enumerate") (hm:X.mg "enumerate"=none) (ha:PA X [l] ta) (hs:starEach [l] X.env=[(false,eval l X.env)]:=by rfl) :
  PI X (.Tuple elts x1 tpos) (.Call (.Name "enumerate" p) [l] [] pos) (ZFR X.K ta):=by
 intro pins s σ H R I h
 refine Call_ (ZD2 I hg hm boot_enumerate (PyProof.Rows.callWith_type1 (thn (ha pos pins s σ H _ I h) fun us s1 zz=>?_) hs rfl))
 obtain ⟨vs,H1,I1,r1,q1⟩:=zz
 obtain ⟨a,e,⟨xs,hq⟩,q⟩:=q1
 subst e
 obtain ⟨u,rfl,ru⟩:=ZDu r1
 cases ru
 obtain ⟨its,rv,pl,hz⟩:=I1.list hq
 refine call_enumerate_list pl.isList fun h' he hit hsz hk=>wpAny_pyIter_enum he ?_
 have I2:Inv X pins σ H1 { s1 with heap:=h' }:=I1.kept (t':=s1.toks) hk
 refine ⟨s1.heap.objs.size+1,[s1.heap.objs.size+1,s1.heap.objs.size],_,Ite X.K a,H1,rfl,I2,turn_enum a _ _ (Nat.succ_ne_self _),⟨⟨_,he⟩,hit⟩,fun b hb=>?_,q⟩
 have hb':b=s1.heap.objs.size+1∨b=s1.heap.objs.size:=by simpa using hb
 have hle:s1.heap.objs.size <= b:=by
  rcases hb' with rfl | rfl
  .exact yAZ _
  .exact yAA _
 exact I1.fpOk hle (I1.hok.fresh hle)
end
section
variable {K:W.Frag} {a:Addr} {xs:List V} {g:TG} {tb:TS} {D:Ends} {σ:St} {H:Hp}
noncomputable def forE (K:W.Frag) (g:TG) (tb:TS) (D:Ends) (σ:St) (x:V) (H1:Hp):Prop:=∃ a,[x]=[.ref a] /\ (∃ xs,SqL K H1 a xs) /\ ∃ W:Nat->Nat->St->Hp->Prop,(∃ m,W 0 m σ H1) /\ ∀ i m σ H,W i m σ H ->
 ((Ite K a).stop i H /\ D.nx σ H)∨((Ite K a).go i H /\ ∃ N:St->Hp->Prop,(∀ σ' H',N σ' H'->∃ m',m' < m /\ W (i+1) m' σ' H') /\ ∀ x H',(Ite K a).yld i H x H'->g x σ H' fun σ2 H2=>tb { D with nx:=N,ct:=N,bk:=D.nx } σ2 H2)
theorem tForE_eq {t:TE}:tFor (ZFR K (ZBx t tNil)) g tb D σ H=t σ H (fun x H1=>forE K g tb D σ x H1):=rfl
variable {tt:TT} {te:TE} {Q:VK} {σ0:St}
noncomputable def compE (K:W.Frag) (g:TG) (tt:TT) (te:TE) (σ0:St) (Q:VK) (x:V) (H1:Hp):Prop:=∃ a,[x]=[.ref a] /\ (∃ xs,SqL K H1 a xs) /\ ∃ W:Nat->Nat->List V->St->Hp->Prop,(∃ m,W 0 m [] σ0 H1) /\ ∀ i m ys σ H,W i m ys σ H ->
 ((Ite K a).stop i H /\ ys.length <= sizeLine /\ ∀ p,H p=none->Q (.ref p) (upd H p (.lst ys))) ∨
 ((Ite K a).go i H /\ ys.length < sizeLine /\ ∀ x H',(Ite K a).yld i H x H'->g x σ H' fun σ2 H2=>tt σ2 H2 fun b H3=>if b=true then te σ2 H3 fun y H4=>∃ m',m' < m /\ W (i+1) m' (ys++[y]) σ2 H4 else ∃ m',m' < m /\ W (i+1) m' ys σ2 H3)
theorem tCompE_eq {k:Nat} {js:List Nat} {t:TE}:ZDv k js (ZFR K (ZBx t tNil)) g tt te σ H Q=t σ H (fun x H1=>compE K g tt te (up k js σ) Q x H1):=rfl
theorem compE_of (h:SqL K H a xs) (hz:xs.length <= 1000) (P:Nat->List V->St->Hp->Prop) (h0:P 0 [] σ0 H) (hl:∀ i ys σ H,i <= xs.length->P i ys σ H->SqL K H a xs /\ ys.length <= i)
  (hs:∀ (i:Nat) ys x σ H p,i < xs.length->xs[i]?=some x->P i ys σ H->H p=none->g (.ref p) σ (upd H p (.tup [.int i,x])) fun σ2 H2=>tt σ2 H2 fun b H3=>if b=true then te σ2 H3 fun y H4=>Nxt P xs.length i (ys++[y]) σ2 H4 else Nxt P xs.length i ys σ2 H3)
  (hd:∀ ys σ H,P xs.length ys σ H->∀ p,H p=none->Q (.ref p) (upd H p (.lst ys))):compE K g tt te σ0 Q (.ref a) H:=by
 have hz':=ZAU hz
 refine ⟨a,rfl,⟨xs,h⟩,fun i m ys σ H=>m=xs.length-i /\ i <= xs.length /\ P i ys σ H,⟨xs.length,by simp,yAI _,h0⟩,?_⟩
 rintro i m ys σ H ⟨rfl,hi,p⟩
 obtain ⟨q,ly⟩:=hl i ys σ H hi p
 by_cases hlt:i < xs.length
 .refine .inr ⟨⟨xs,xs[i],q,by simp [hlt]⟩,by omega,fun x H' y=>?_⟩
  obtain ⟨pp,x',hn,y,rfl,rfl⟩:=y
  exact hs i ys x' σ _ pp hlt (y xs q) p hn
 .have e:i=xs.length:=by omega
  subst e
  exact .inl ⟨⟨xs,q,yAA _⟩,by omega,hd ys σ H p⟩
end
noncomputable abbrev FZ (o:Obj):HO:=.frz o (.ext fun _=>True)
open Classical in
noncomputable def hid (cl:List (Str×Addr)) (H:Hp):Hp:=fun b=>if ∃ x,cl.lookup x=some b then none else H b
open Classical in
noncomputable def back (cl:List (Str×Addr)) (H H1:Hp):Hp:=fun b=>if ∃ x,cl.lookup x=some b then H b else H1 b
noncomputable def startC (N:List Str) (vs cs:List V):St:=vs.map some++(List.replicate (N.length-vs.length-cs.length) none++cs.map some)
noncomputable def cxClo (P:Program) (w:World) (K:W.Frag) (mg:Str->Option Value) (base:Heap) (N:List Str) (qual:Str) (scope:Scope) (f:Addr) (cd:Value) (cl:List (Str×Addr)) (A:Around) (outer:List Env) (s:Shared) (H:Hp):Cx where
 prog:=P
 w:=w
 K:=K
 mg:=mg
 base:=base
 A:=A.deeper (PySem.W.envX qual scope s.heap.objs.size f cd cl)
 N:=N
 s₀:=s
 H₀:=H
 env:=PySem.W.envX qual scope s.heap.objs.size f cd cl
 outer:=outer
 stack:=PySem.W.envX qual scope s.heap.objs.size f cd cl::outer
 ex:=[]
 calm:=true
 fn:=fun _=>false
 pn:=[]
 xe:=fun _ _=>False
section
variable {P:Program} {w:World} {K:W.Frag} {mg:Str->Option Value} {base:Heap} {A:Around} {outer:List Env} {s:Shared} {H:Hp} {g:Addr} {iname iq:Str} {ip:Arguments} {ib:List Stmt} {isc:Scope} {N ps fr:List Str} {cs vs:List V} {us:List Value} {cl:List (Str×Addr)} {k:Nat}
end
noncomputable def tCallV (r:V->List V->Hp->VK->Prop) (ta:TE) (t:TA):TE:=fun σ H Q=>ta σ H fun f H1=>(∃ g o,f=.ref g /\ H1 g=some (FZ o) /\ ∃ fd,o.data=.func fd) /\ t σ H1 fun vs H2=>r f vs H2 Q
section
variable {X:Cx} {pins:List (Addr×Obj)} {σ:St} {H:Hp} {s:Shared}
end
theorem cx_cloK {P:Program} {w:World} {K:W.Frag} {mg:Str->Option Value} {base:Heap} {N:List Str} {qual:Str} {scope:Scope} {f:Addr} {cd:Value} {cl:List (Str×Addr)} {A:Around} {outer:List Env} {s:Shared} {H:Hp}:(cxClo P w K mg base N qual scope f cd cl A outer s H).K=K:=rfl
section
variable {prog:Program} {w:World} {A:Around} {R:Result->Shared->Prop} {I:Addr} {fp wr:List Addr} {n:Nat} {P:Nat->Value->Prop} {St:Nat->Heap->Prop}
end
section
variable {prog:Program} {w:World} {A:Around} {E:Value->Shared->Prop} {s:Shared} {l:Addr}
end
noncomputable def maxD (d:Int):List Int->Int
 | []=>d
 | x::r=>r.foldl (fun m y=>if m < y then y else m) x
section
variable {X:Cx} {e d:Expr} {te td:TE} {p pos:Pos} {kpos:Pos}
noncomputable def tMaxD (K:W.Frag) (te td:TE):TE:=fun σ H Q=>te σ H fun x H1=>td σ H1 fun y H2=>∃ a ns dd,x=.ref a /\ y=.int dd /\ SqL K H2 a (ns.map V.int) /\ Q (.int (maxD dd ns)) H2
end
theorem lkc {k k':Str} {v:V} {r:List (Str×V)}:List.lookup k ((k',v)::r)=if k=k' then some v else List.lookup k r:=by
 rw [yBU]
 by_cases h:k=k'
 .subst h;simp
 .have:(k == k')=false:=by simpa using h
  rw [this,if_neg h]
theorem ZBR {f:Str} {v u:V}:∀ {fs:List (Str×V)},fs.lookup f=some u->(putF f v fs).length=fs.length
 | [],h=>by cases h
 | (g,w)::r,h=>by
  unfold putF
  by_cases e:g=f
  .rw [if_pos e];rfl
  .rw [if_neg e,yAG,yAG]
   rw [lkc,if_neg (fun z=>e z.symm)] at h
   rw [ZBR h]
structure Ins (H:Hp) (a C:Addr) (fl:List (Str×V)):Prop where
 ex:∃ dx fs,H a=some (.ins C dx fs) /\ fs.length <= 50 /\ ∀ f,fs.lookup f=fl.lookup f
theorem Ins.of {H:Hp} {a C dx:Addr} {fl:List (Str×V)} (h:H a=some (.ins C dx fl)) (hl:fl.length <= 50):Ins H a C fl:=⟨dx,fl,h,hl,fun _=>rfl⟩
theorem Ins.congr {H:Hp} {a C:Addr} {fl fl':List (Str×V)} (h:Ins H a C fl) (e:∀ f,fl.lookup f=fl'.lookup f):Ins H a C fl':=let ⟨dx,fs,h1,h2,h3⟩:=h.ex;⟨dx,fs,h1,h2,fun f=>(h3 f).trans (e f)⟩
theorem Ins.mono {H H':Hp} {a C:Addr} {fl:List (Str×V)} (h:Ins H a C fl) (s:Same H H'):Ins H' a C fl:=let ⟨dx,fs,h1,h2,h3⟩:=h.ex;⟨dx,fs,s _ _ h1,h2,h3⟩
theorem Ins.keep {H H':Hp} {a C:Addr} {fl:List (Str×V)} (h:Ins H a C fl) (s:H' a=H a):Ins H' a C fl:=let ⟨dx,fs,h1,h2,h3⟩:=h.ex;⟨dx,fs,s.trans h1,h2,h3⟩
theorem Ins.ne {H:Hp} {a b C:Addr} {fl:List (Str×V)} {o:HO} (h:Ins H a C fl) (hb:H b=some o) (n:∀ C dx fs,o≠.ins C dx fs):b≠a:=fun z=>by
 obtain ⟨dx,fs,h1,_⟩:=h.ex
 rw [z,h1] at hb
 exact n _ _ _ (Option.some.inj hb).symm
theorem Ins.neN {H:Hp} {a b C:Addr} {fl:List (Str×V)} (h:Ins H a C fl) (hb:H b=none):b≠a:=fun z=>by
 obtain ⟨dx,fs,h1,_⟩:=h.ex
 rw [z,h1] at hb;cases hb
section
variable {K:W.Frag} {f:Str} {a C:Addr} {fl:List (Str×V)} {v:V} {H:Hp}
theorem Ins.get {Q:VK} (h:Ins H a C fl) (cl:Cls K C) (n:NoAttr K C f) (l:fl.lookup f=some v) (q:Q v H):getF K f (.ref a) H Q:=by
 obtain ⟨dx,fs,h1,h2,h3⟩:=h.ex
 exact getF_of h1 cl n ((h3 f).trans l) q
theorem Ins.set {Q:Hp->Prop} (h:Ins H a C fl) (cl:Cls K C) (n:NoAttr K C f) (q:∀ H',Ins H' a C (putF f v fl)->(∀ b,b≠a->H' b=H b)->Q H') (hl:∃ u,fl.lookup f=some u):setF K f (.ref a) v H Q:=by
 obtain ⟨dx,fs,h1,h2,h3⟩:=h.ex
 obtain ⟨u,hu⟩:=hl
 refine setF_of h1 cl n (by omega) (q _ ⟨dx,_,ZAG,?_,fun g=>?_⟩ fun b hb=>ZAI hb)
 .rw [ZBR ((h3 f).trans hu)];exact h2
 .rw [ZAW,ZAW,h3]
theorem Ins.meth {m:Str} {R:Prop} (h:Ins H a C fl) (l:fl.lookup m=none) (q:R):∃ b dx fs,V.ref a=.ref b /\ H b=some (.ins C dx fs) /\ fs.lookup m=none /\ R:=by
 obtain ⟨dx,fs,h1,h2,h3⟩:=h.ex
 exact ⟨a,dx,fs,rfl,h1,(h3 m).trans l,q⟩
end
noncomputable def augA (K:W.Frag) (tv:TE) (rd:V->V->Hp->VK->Prop) (f:Str) (D:Ends) (σ:St) (x:V) (H1:Hp):Prop:=∃ a C dx fs v,x=.ref a /\ H1 a=some (.ins C dx fs) /\ Cls K C /\ NoAttr K C f /\ fs.lookup f=some v /\
 tv σ H1 fun y H2=>rd v y H2 fun z H3=>∃ dx' fs',H3 a=some (.ins C dx' fs') /\ fs'.length < 1000 /\ D.nx σ (upd H3 a (.ins C dx' (putF f z fs')))
theorem sFldAug_eq {K:W.Frag} {ta tv:TE} {rd:V->V->Hp->VK->Prop} {f:Str} {D:Ends} {σ:St} {H:Hp}:sFldAug K ta tv rd f D σ H=ta σ H (fun x H1=>augA K tv rd f D σ x H1):=rfl
theorem Ins.aug {K:W.Frag} {f:Str} {a C:Addr} {fl:List (Str×V)} {i j:Int} {H:Hp} {D:Ends} {σ:St} (h:Ins H a C fl) (cl:Cls K C) (n:NoAttr K C f) (l:fl.lookup f=some (.int i))
  (q:∀ H',Ins H' a C (putF f (.int (i+j)) fl)->(∀ b,b≠a->H' b=H b)->D.nx σ H'):augA K (tC (.int j)) rAdd f D σ (.ref a) H:=by
 obtain ⟨dx,fs,h1,h2,h3⟩:=h.ex
 refine ⟨a,C,dx,fs,_,rfl,h1,cl,n,(h3 f).trans l,i,j,rfl,rfl,dx,fs,h1,by omega,q _ ⟨dx,_,ZAG,?_,fun g=>?_⟩ fun b hb=>ZAI hb⟩
 .rw [ZBR ((h3 f).trans l)];exact h2
 .rw [ZAW,ZAW,h3]
theorem setX {K:W.Frag} {f:Str} {a C dx:Addr} {fs:List (Str×V)} {v:V} {H:Hp} {Q:Hp->Prop} (h:H a=some (.ins C dx fs)) (cl:Cls K C) (n:NoAttr K C f) (hl:fs.length <= 20) (q:∀ H',H' a=some (.ins C dx (putF f v fs))->(∀ b,b≠a->H' b=H b)->Q H'):setF K f (.ref a) v H Q :=
 setF_of h cl n (by omega) (q _ ZAG fun b hb=>ZAI hb)
theorem ZAR {f:Str} {v:V} {fs:List (Str×V)} {n:Nat} (h:fs.length <= n):(putF f v fs).length <= n+1:=yAK (ZCY f v fs) (Nat.succ_le_succ h)
theorem ZE5 {f0:Str} {v0:V}:(putF f0 v0 []).length <= 20:=yAK (ZAR (yAA 0)) (by decide)
theorem ZE4 {f0 f1:Str} {v0 v1:V}:(putF f1 v1 (putF f0 v0 [])).length <= 20:=yAK (ZAR (ZAR (yAA 0))) (by decide)
theorem ZE3 {f0 f1 f2:Str} {v0 v1 v2:V}:(putF f2 v2 (putF f1 v1 (putF f0 v0 []))).length <= 20:=yAK (ZAR (ZAR (ZAR (yAA 0)))) (by decide)
theorem ZFL {f0 f1 f2 f3:Str} {v0 v1 v2 v3:V}:(putF f3 v3 (putF f2 v2 (putF f1 v1 (putF f0 v0 [])))).length <= 20:=yAK (ZAR (ZAR (ZAR (ZAR (yAA 0))))) (by decide)
theorem putL5 {f0 f1 f2 f3 f4:Str} {v0 v1 v2 v3 v4:V}:(putF f4 v4 (putF f3 v3 (putF f2 v2 (putF f1 v1 (putF f0 v0 []))))).length <= 20:=yAK (ZAR (ZAR (ZAR (ZAR (ZAR (yAA 0)))))) (by decide)
theorem putL6 {f0 f1 f2 f3 f4 f5:Str} {v0 v1 v2 v3 v4 v5:V}:(putF f5 v5 (putF f4 v4 (putF f3 v3 (putF f2 v2 (putF f1 v1 (putF f0 v0 [])))))).length <= 20:=yAK (ZAR (ZAR (ZAR (ZAR (ZAR (ZAR (yAA 0))))))) (by decide)
theorem putL7 {f0 f1 f2 f3 f4 f5 f6:Str} {v0 v1 v2 v3 v4 v5 v6:V}:(putF f6 v6 (putF f5 v5 (putF f4 v4 (putF f3 v3 (putF f2 v2 (putF f1 v1 (putF f0 v0 []))))))).length <= 20:=yAK (ZAR (ZAR (ZAR (ZAR (ZAR (ZAR (ZAR (yAA 0)))))))) (by decide)
theorem putL8 {f0 f1 f2 f3 f4 f5 f6 f7:Str} {v0 v1 v2 v3 v4 v5 v6 v7:V}:(putF f7 v7 (putF f6 v6 (putF f5 v5 (putF f4 v4 (putF f3 v3 (putF f2 v2 (putF f1 v1 (putF f0 v0 [])))))))).length <= 20:=yAK (ZAR (ZAR (ZAR (ZAR (ZAR (ZAR (ZAR (ZAR (yAA 0))))))))) (by decide)
theorem mx_eq (p q:Int):(if q > p then q else p)=max p q:=by split <;> omega
theorem ZE7 (p q:Int):(if q < p then q else p)=min p q:=by split <;> omega
end L2
namespace PySem
open Sem (wp)
theorem ZBf (o : Obj) (f) : (o.mapFields f).dict = o.dict := by
  unfold Obj.mapFields
  split <;> rfl
structure Kpo (o o' : Obj) : Prop where
  fr : o'.isFreed = o.isFreed
  di : o'.dict = o.dict
theorem Kpo.refl (o : Obj) : Kpo o o := ⟨rfl, rfl⟩
theorem Kpo.set (i : Nat) (v : Value) (o : Obj) : Kpo o (o.mapFields (·.setIfInBounds i v)) := by
  unfold Obj.mapFields
  split
  · exact ⟨rfl, rfl⟩
  · exact .refl _
def Kph (h h' : Heap) : Prop := ∀ b o, h.get? b = some o → ∃ u, h'.get? b = some u ∧ Kpo o u
theorem Kph.trans {h h' k : Heap} (x : Kph h h') (y : Kph h' k) : Kph h k := fun b o e => by
  obtain ⟨u, e1, q1⟩ := x b o e
  obtain ⟨w, e2, q2⟩ := y b u e1
  exact ⟨w, e2, q2.fr.trans q1.fr, q2.di.trans q1.di⟩
theorem Kph.upd (h : Heap) (a : Addr) {f : Obj → Obj} (hf : ∀ o, Kpo o (f o)) : Kph h (h.update a f) := fun b o e => by
  by_cases q : a = b
  · subst q
    exact ⟨_, Heap.get?_update_self f e ((hf o).fr.trans (Heap.get?_some_iff.mp e).2), hf o⟩
  · exact ⟨o, (Heap.get?_update_other h f q).trans e, .refl o⟩
inductive Tame {α : Type} : Sem α → Prop
  | pure (a) : Tame (.pure a)
  | no (w) : Tame (.unsupported w)
  | load {a p k} : (∀ o, Tame (k o)) → Tame (.load a p k)
  | upd {a p f k} : (∀ o, Kpo o (f o)) → Tame (k ()) → Tame (.update a p f k)
  | new {o k} : (∀ a, Tame (k a)) → Tame (.alloc o k)
  | stack {k} : (∀ l, Tame (k l)) → Tame (.stack k)
section
variable {α β : Type} {M : Model} {Γ : Ctx} {A : Around} {E : Value → Shared → Prop} {s : Shared}
theorem Tame.wp {t : Sem α} (T : Tame t) {Q : α → Pos → Shared → Prop} {E : Value → Pos → Shared → Prop} {p : Pos} : ∀ {s : Shared}, wp M Γ t Q E p s → wp M Γ t (fun a p z => Q a p z ∧ Kph s.heap z.heap) E p s := by
  have go : ∀ {t : Sem α} {s s1 : Shared}, Kph s.heap s1.heap → (∀ {s : Shared}, Sem.wp M Γ t Q E p s → Sem.wp M Γ t (fun a p z => Q a p z ∧ Kph s.heap z.heap) E p s) → Sem.wp M Γ t Q E p s1 → Sem.wp M Γ t (fun a p z => Q a p z ∧ Kph s.heap z.heap) E p s1 :=
    fun k ih h => Sem.wp_mono M Γ _ (fun _ _ _ z => ⟨z.1, k.trans z.2⟩) (fun _ _ _ z => z) _ _ (ih h)
  induction T with
  | pure => exact fun h => ⟨h, fun b o e => ⟨o, e, .refl o⟩⟩
  | no => exact id
  | load _ ih => exact fun ⟨o, e, h⟩ => ⟨o, e, ih o h⟩
  | upd f _ ih => exact fun ⟨e, h⟩ => ⟨e, go (Kph.upd _ _ f) ih h⟩
  | @new o k _ ih => exact fun {s} h => go (t := k s.heap.objs.size) (s1 := { s with heap := s.heap.push o }) (fun b u e => ⟨u, Heap.get?_push_of_some _ e, .refl u⟩) (ih _) h
  | stack _ ih => exact fun h => ih _ h
theorem Tame.any {t : Sem α} (T : Tame t) {Q : α → Shared → Prop} (h : wpAny M A t Q E s) : wpAny M A t (fun a z => Q a z ∧ Kph s.heap z.heap) E s := fun Γ p hΓ => T.wp (h Γ p hΓ)
theorem Tame.bind {m : Sem α} {f : α → Sem β} (x : Tame m) (y : ∀ a, Tame (f a)) : Tame (m >>= f) := by
  show Tame (m.bind f)
  induction x with
  | pure a => exact y a
  | no w => exact .no w
  | load _ ih => exact .load ih
  | upd h _ ih => exact .upd h ih
  | new _ ih => exact .new ih
  | stack _ ih => exact .stack ih
theorem Tame.ite {c : Prop} [Decidable c] {x y : Sem α} (hx : Tame x) (hy : Tame y) : Tame (if c then x else y) := by split <;> assumption
theorem tame_field (v : Value) (i : Nat) : Tame (field v i) := by
  refine .bind (m := fieldsOf v) ?_ fun a => ?_
  · unfold fieldsOf
    split
    · refine .bind (.load fun o => .pure o) fun o => ?_
      split
      · exact .pure _
      · exact .no _
    · exact .no _
  · split
    · exact .pure _
    · exact .no _
theorem tame_setField (i : Nat) (v x : Value) : Tame (setField v i x) := by
  unfold setField
  split
  · unfold updateField
    refine .bind (.load fun o => .pure o) fun o => ?_
    split
    · exact .ite (.upd (Kpo.set i x) (.pure _)) (.no _)
    · exact .no _
  · exact .no _
theorem tame_ready (l : List Env) : Tame (readyFrames l) := by
  induction l with
  | nil => exact .pure _
  | cons env r ih =>
    unfold readyFrames
    split
    next f hf =>
      refine .bind (.load fun o => .pure o) fun o => .ite (.pure _) (.bind ?_ fun b => .bind ?_ fun c => .bind (.upd (fun o => ⟨by cases o with | mk a b d c => cases d <;> rfl, rfl⟩) (.pure _)) fun _ => ih)
      · unfold behindIsImport
        exact .ite (.pure _) (.ite (.pure _) (.bind (tame_field _ _) fun _ => .pure _))
      · unfold keptBack
        split
        · exact .ite (.pure _) (.bind (.bind (.stack fun l => .pure l) fun _ => .pure _) fun _ => .pure _)
        · exact .pure _
    · exact .no _
theorem tame_note (e : Value) (env : Env) : Tame (noteFrame e env) := by
  unfold noteFrame
  split
  next f hf =>
    have rest : ∀ head b, Tame (do setField e 1 (← EntryCells.newEntry head (← frameOf env) .none (rawInt f) .none (← entryPlaceOf f b))) := fun head b => by
      refine .bind ?_ fun a => .bind ?_ fun pl => .bind ?_ fun n => tame_setField _ _ _
      · unfold frameOf
        refine .bind (.bind (.stack fun l => .pure l) fun _ => .pure _) fun l => .bind ?_ fun o => ?_
        · unfold frameObject
          split
          · exact .pure _
          · exact .bind (tame_ready _) fun _ => .pure _
        · split
          · exact .pure _
          · exact .no _
      · unfold entryPlaceOf
        refine .bind (.stack fun l => .pure l) fun l => ?_
        split <;> exact .pure _
      · unfold EntryCells.newEntry newFields newObj
        exact .ite (.bind (.no _) fun _ => .bind (.new fun a => .pure a) fun a => .pure _) (.bind (.new fun a => .pure a) fun a => .pure _)
    refine .bind (tame_field _ _) fun head => .ite (.bind (tame_field _ _) fun y => .ite (.pure _) (.bind (tame_setField _ _ _) fun _ => rest _ _)) (rest _ _)
  · exact .no _
theorem tame_flight (e : Value) (o : Option Addr) : Tame (setFlight e o) := .bind (tame_field _ _) fun _ => .ite (tame_setField _ _ _) (.pure _)
theorem tame_leaving (env : Env) (e : Value) : Tame (leaving env e) := .bind (tame_note _ _) fun _ => tame_flight _ _
def Heap.Dx (h : Heap) (e : Addr) (d : Option Addr) : Prop := ∃ o, h.get? e = some o ∧ o.dict = d
theorem Heap.Dx.kept {h h' : Heap} {e : Addr} {d : Option Addr} (x : h.Dx e d) (k : Kph h h') : h'.Dx e d := by
  obtain ⟨o, h1, h3⟩ := x
  obtain ⟨u, h5, q⟩ := k e o h1
  exact ⟨u, h5, q.di.trans h3⟩
def Heap.TracedAtD (h base : Heap) (e : Addr) (cls : Value) (a0 : Value × Option Addr) (fl : Value) : Prop := h.TracedAtW base e cls a0.1 fl ∧ h.Dx e a0.2
abbrev Heap.TracedD (h base : Heap) (e : Addr) (cls : Value) (a0 : Value × Option Addr) : Prop := h.TracedAtD base e cls a0 .none
abbrev Heap.FlyD (base : Heap) (l : List Env) (e : Addr) (cls : Value) (a0 : Value × Option Addr) (fl : Value) (h : Heap) : Prop := base.StaysIn h ∧ base.get? e = none ∧ h.FunFrames base l ∧ h.TracedAtD base e cls a0 fl
abbrev Heap.FlyingD (base : Heap) (l : List Env) (e : Addr) (cls : Value) (a0 : Value × Option Addr) (h : Heap) : Prop := Heap.FlyD base l e cls a0 .none h
abbrev Heap.HeldD (base : Heap) (l : List Env) (e : Addr) (cls : Value) (a0 : Value × Option Addr) (L : Addr) (h : Heap) : Prop := Heap.FlyD base l e cls a0 (rawInt L) h
theorem Heap.FlyingD.thereD {base h : Heap} {l : List Env} {e : Addr} {cls : Value} {a0 : Value × Option Addr} (x : Heap.FlyingD base l e cls a0 h) : ∃ ob, h.get? e = some ob ∧ ob.cls = cls ∧ ob.dict = a0.2 ∧ ∃ vs, ob.data = .fields vs := by
  obtain ⟨_, _, _, ⟨oe, vs, _, _, _, he, hc, hd, _⟩, o, h1, h2⟩ := x
  rw [he] at h1
  cases h1
  exact ⟨oe, he, hc.1, h2, vs, hd⟩
theorem Heap.FlyingD.there {base h : Heap} {l : List Env} {e : Addr} {cls : Value} {a0 : Value × Option Addr} (x : Heap.FlyingD base l e cls a0 h) : ∃ ob, h.get? e = some ob ∧ ob.cls = cls :=
  let ⟨ob, h1, h2, _⟩ := Heap.FlyingD.thereD x
  ⟨ob, h1, h2⟩
variable {base : Heap} {env : Env} {l outer : List Env} {L e : Addr} {cls : Value} {a0 : Value × Option Addr} {Q : Unit → Shared → Prop}
theorem Tame.go {t : Sem Unit} (T : Tame t) {P : Heap → Prop} (w : wpAny M A t (fun _ z => ∃ h', z = { s with heap := h' } ∧ P h') E s) (hQ : ∀ h', P h' → Kph s.heap h' → Q () { s with heap := h' }) : wpAny M A t Q E s :=
  wpAny_mono (T.any w) (fun _ _ z => by
    obtain ⟨⟨h', rfl, p⟩, k⟩ := z
    exact hQ h' p k) fun _ _ z => z
theorem wpAny_leaves_onD (hfr : A.frames = some (env :: outer)) (hf : env.frame = some L) (x : Heap.FlyingD base (env :: outer) e cls a0 s.heap) (hQ : ∀ h', Heap.FlyingD base outer e cls a0 h' → s.heap.UpToSlots h' → Q () { s with heap := h' }) : wpAny M A (leaving env (.ref e)) Q E s := by
  obtain ⟨f1, f2, f3, f4, d⟩ := x
  refine (tame_leaving _ _).go (P := fun h' => Heap.FlyingW base outer e cls a0.1 h' ∧ s.heap.UpToSlots h') (wpAny_leaves_onW hfr hf ⟨f1, f2, f3, f4⟩ fun h' y u => ⟨h', rfl, y, u⟩) fun h' ⟨⟨y1, y2, y3, y4⟩, u⟩ k => hQ h' ⟨y1, y2, y3, y4, d.kept k⟩ u
theorem wpAny_looks_onD (hfr : A.frames = some (env :: outer)) (hf : env.frame = some L) (x : Heap.FlyingD base (env :: outer) e cls a0 s.heap) (hQ : ∀ h', Heap.HeldD base (env :: outer) e cls a0 L h' → s.heap.UpToSlots h' → Q () { s with heap := h' }) : wpAny M A (noteFrame (.ref e) env) Q E s := by
  obtain ⟨f1, f2, f3, f4, d⟩ := x
  refine (tame_note _ _).go (P := fun h' => Heap.HeldW base (env :: outer) e cls a0.1 L h' ∧ s.heap.UpToSlots h') (wpAny_looks_onW hfr hf ⟨f1, f2, f3, f4⟩ fun h' y u => ⟨h', rfl, y, u⟩) fun h' ⟨⟨y1, y2, y3, y4⟩, u⟩ k => hQ h' ⟨y1, y2, y3, y4, d.kept k⟩ u
theorem wpAny_noteFrame_againD (hf : env.frame = some L) (x : s.heap.TracedAtD base e cls a0 (rawInt L)) (h : Q () s) : wpAny M A (noteFrame (.ref e) env) Q E s := wpAny_noteFrame_againW hf x.1 h
theorem flightD_ {fl : Value} (o : Option Addr) (f1 : base.StaysIn s.heap) (f3 : s.heap.FunFrames base l) (f4 : s.heap.TracedAtD base e cls a0 fl)
    (hQ : ∀ h', base.StaysIn h' → h'.FunFrames base l → h'.TracedAtD base e cls a0 (o.elim .none fun f => rawInt f) → (∀ b o, s.heap.get? b = some o → (∀ vs, o.data ≠ .fields vs) → h'.get? b = some o) → Q () { s with heap := h' }) : wpAny M A (setFlight (.ref e) o) Q E s := by
  obtain ⟨⟨oe, vs, T, oT, ts, he, hc, hd, h1, hnT, hTe, hT, hdT, h3⟩, d⟩ := f4
  refine (tame_flight _ _).go (P := fun h' => h' = s.heap.update T (Obj.mapFields (·.setIfInBounds 3 (o.elim .none fun f => rawInt f)))) ?_ fun h' z k => ?_
  · refine wpAny_bind (wpAny_field he hd h1 ?_)
    show wpAny M A (setField (.ref T) 3 _) _ E s
    exact wpAny_setField hT hdT (Array.getElem?_eq_some_iff.mp h3).1 ⟨_, rfl, rfl⟩
  · subst z
    have ot : ∀ b u, s.heap.get? b = some u → b ≠ T → (s.heap.update T (Obj.mapFields (·.setIfInBounds 3 (o.elim .none fun f => rawInt f)))).get? b = some u := fun b u h n => (Heap.get?_update_other _ _ (Ne.symm n)).trans h
    have nt : ∀ b u, s.heap.get? b = some u → (∀ vs, u.data ≠ .fields vs) → b ≠ T := fun b u h n z => by
      subst z
      rw [hT] at h
      cases h
      exact n ts hdT
    exact hQ _ (fun b u h => ot b u (f1 b u h) (fun z => by subst z; rw [hnT] at h; cases h)) (f3.of_keeps fun b u h n => ⟨u, ot b u h (nt b u h n), rfl⟩)
      ⟨⟨oe, vs, T, _, _, ot e oe he (Ne.symm hTe), hc, hd, h1, hnT, hTe, Heap.get?_update_self _ hT (Obj.isFreed_of_fields (Obj.data_mapFields hdT _)), Obj.data_mapFields hdT _, by
        have := (Array.getElem?_eq_some_iff.mp h3).1
        simp [this]⟩, d.kept k⟩ fun b u h n => ot b u h (nt b u h n)
theorem wpAny_landsD (hh : Heap.HeldD base l e cls a0 L s.heap) (hQ : ∀ h', Heap.FlyingD base l e cls a0 h' → s.heap.UpToSlots h' → Q () { s with heap := h' }) : wpAny M A (setFlight (.ref e) none) Q E s :=
  flightD_ none hh.1 hh.2.2.1 hh.2.2.2 fun h' k1 k2 k3 k4 => hQ h' ⟨k1, hh.2.1, k2, k3⟩ fun b o y n => ⟨o.slots, k4 b o y n⟩
theorem LANDS2_ (hh : Heap.FlyingD base l e cls a0 s.heap) (hQ : ∀ h', Heap.FlyingD base l e cls a0 h' → s.heap.UpToSlots h' → Q () { s with heap := h' }) : wpAny M A (setFlight (.ref e) none) Q E s :=
  flightD_ none hh.1 hh.2.2.1 hh.2.2.2 fun h' k1 k2 k3 k4 => hQ h' ⟨k1, hh.2.1, k2, k3⟩ fun b o y n => ⟨o.slots, k4 b o y n⟩
theorem wpAny_setFlight_someD {fl : Value} (hkb : base.StaysIn s.heap) (hl : s.heap.FunFrames base l) (ht : s.heap.TracedAtD base e cls a0 fl)
    (h : ∀ h', base.StaysIn h' → h'.FunFrames base l → h'.TracedAtD base e cls a0 (rawInt L) → (∀ b o, s.heap.get? b = some o → (∀ vs, o.data ≠ .fields vs) → h'.get? b = some o) → Q () { s with heap := h' }) : wpAny M A (setFlight (.ref e) (some L)) Q E s := flightD_ (some L) hkb hl ht h
theorem wpAny_leaving_firstD {oe : Obj} {vs : Array Value} (hfr : A.frames = some (env :: outer)) (hl : s.heap.FunFrames base (env :: outer)) (hf : env.frame = some L) (he : s.heap.get? e = some oe) (hkb : base.StaysIn s.heap) (hen : base.get? e = none) (hd : oe.data = .fields vs) (h1 : vs[1]? = some .none)
    (h0 : vs[0]? = some a0.1 ∧ oe.dict = a0.2) (hQ : ∀ h', (base.StaysIn h' ∧ h'.FunFrames base (env :: outer) ∧ h'.TracedD base e oe.cls a0 ∧ s.heap.UpToSlots h') → Q () { s with heap := h' }) : wpAny M A (leaving env (.ref e)) Q E s :=
  (tame_leaving _ _).go (P := fun h' => Heap.LeftW base (env :: outer) e oe.cls a0.1 s.heap h') (wpAny_leaving_firstW hfr hl hf he hkb hen hd h1 h0.1 fun h' y => ⟨h', rfl, y⟩) fun h' ⟨y1, y2, y3, y4⟩ k => hQ h' ⟨y1, y2, ⟨y3, Heap.Dx.kept ⟨oe, he, h0.2⟩ k⟩, y4⟩
end
end PySem
namespace L2
open PySem PySem.Spec PyProof.Rows
noncomputable def Fly (l:List Env) (H:Hp) (h0:Heap) (e:Addr) (cls:Value) (dd:Option Addr) (h:Heap):Prop :=
 ∃ B a0,Heap.FlyingD B l e cls (a0,dd) h /\ H e=none /\ h0.get? e=none /\ ∀ b o,h.get? b=some o->b∉frs l->(H b≠none∨∃ o0,h0.get? b=some o0)->B.get? b=some o
noncomputable def CXE (P:Program) (w:World):CXT:=fun outer H s E e s'=>
 ∃ ea cls dd H',e=.ref ea /\ s'.os=s.os /\ AllBare s'.gens /\ Un (frs outer) [] H H' s.heap s'.heap /\ HOk P w H' s'.heap /\ Fly outer H' s.heap ea cls dd s'.heap /\ E cls dd H'
theorem passE {P:Program} {w:World} {X:Cx}:ZBH (CXE P w) X E0:=fun _ _ _ _ _ _ _ z=>by
 obtain ⟨_,_,_,_,_,_,_,_,_,_,h⟩:=z
 exact h.elim
section
variable {P:Program} {w:World} {l:List Env} {H H':Hp} {h h1 h2 B base:Heap}
theorem Un.fly (u:Un (frs l) [] H H' h h1) (hB:∀ b o,h1.get? b=some o->b∉frs l->(H' b≠none∨∃ o0,h.get? b=some o0)->B.get? b=some o) (st:B.StaysIn h2) (up:h1.UpToSlots h2) (hf:h1.FunFrames base l):Un (frs l) [] H H' h h2 where
 keep b o e n hb hx:=st b o (hB b o (u.keep b o e n hb hx) hb (.inr ⟨o,e⟩))
 slot b o e n hb hx:=by
  obtain ⟨sl,e1⟩:=u.slot b o e n hb hx
  obtain ⟨_,o',ho',hd⟩:=hf.mem hb
  rw [e1] at ho'
  cases ho'
  obtain ⟨sl2,e2⟩:=up b _ e1 hd
  exact ⟨sl2,e2⟩
 free:=u.free
 there b o e hx:=by
  obtain ⟨o',e1⟩:=u.there b o e hx
  by_cases hb:b∈frs l
  .obtain ⟨_,o2,ho2,hd⟩:=hf.mem hb
   rw [e1] at ho2
   cases ho2
   obtain ⟨sl,e2⟩:=up b _ e1 hd
   exact ⟨_,e2⟩
  .exact ⟨o',st b o' (hB b o' e1 hb (.inr ⟨o,e⟩))⟩
 tups:=u.tups
 frzs:=u.frzs
 tbls:=u.tbls
theorem HOk.fly (x:HOk P w H' h1) (hB:∀ b o,h1.get? b=some o->b∉frs l->(H' b≠none∨∃ o0,h.get? b=some o0)->B.get? b=some o) (st:B.StaysIn h2) (hn:∀ b∈frs l,H' b=none):HOk P w H' h2:=fun a o e=>by
 have k:∀ b o,H' b=some o->b∉frs l:=fun b o z m=>by rw [hn b m] at z;cases z
 refine (x a o e).stay (fun b v hc q=>?_) (fun _ q=>q) fun _ _ q=>q
 rcases hc with z | z
 .exact st b v (hB b v q (by rw [z];exact k _ _ e) (.inl (by rw [z,e];exact fun y=>nomatch y)))
 .exact st b v (hB b v q (k _ _ z) (.inl (by rw [z];exact fun y=>nomatch y)))
theorem Inv.stkFree2 {X:Cx} {pins:List (Addr×Obj)} {σ:St} {s:Shared} (I:Inv X pins σ H s) (u:Un (frs X.stack) [] H H' s.heap h1):∀ b∈frs X.stack,H' b=none:=fun b hb=>by
 obtain ⟨_,o,ho,_⟩:=I.stack.mem hb
 exact u.free b o ho (I.stkFree b hb) yBC
end
section
variable {P:Program} {w:World} {K:W.Frag} {mg:Str->Option Value} {base:Heap} {N:List Str} {qual:Str} {scope:Scope} {f:Addr} {cd:Value} {A:Around} {outer:List Env} {s:Shared} {H:Hp} {E:XK}
theorem ZEd {pins:List (Addr×Obj)} {σ:St} {H1 H':Hp} {s1 s2:Shared} {hm h' B B':Heap} {ea:Addr} {cls a0:Value} {dd:Option Addr} (I:Inv (cxOf (CXE P w) P w K mg base N qual scope f cd A outer s H E) pins σ H1 s1)
  (un:Un (frs (cxOf (CXE P w) P w K mg base N qual scope f cd A outer s H E).stack) [] H1 H' s1.heap hm) (hok:HOk P w H' hm)
  (hB:∀ b o,hm.get? b=some o->b∉frs (cxOf (CXE P w) P w K mg base N qual scope f cd A outer s H E).stack->(H' b≠none∨∃ o0,s1.heap.get? b=some o0)->B.get? b=some o)
  (ff:hm.FunFrames B' (cxOf (CXE P w) P w K mg base N qual scope f cd A outer s H E).stack) (up:hm.UpToSlots h') (fl:Heap.FlyingD B outer ea cls (a0,dd) h') (hout:H' ea=none) (hnew:s1.heap.get? ea=none) (os:s2.os=s1.os) (bare:AllBare s2.gens) (hE:E cls dd H') :
  CXE P w outer H s E (.ref ea) { s2 with heap:=h' }:=by
 have fr:=I.stkFree2 un
 have un2:=un.fly hB fl.1 up ff
 have hok2:=hok.fly hB fl.1 fr
 have I2:=I.call' (s':={ s2 with heap:=h' }) os un2 hok2 bare fun b z=>nomatch z
 have old:∀ b o,s.heap.get? b=some o->∃ o1,s1.heap.get? b=some o1:=fun b o q=>I.base.there b o q (fun z=>nomatch z)
 refine ⟨ea,cls,dd,H',rfl,I2.os,bare,I2.base,hok2,⟨B,a0,fl,hout,?_,fun b o ho hb hor=>?_⟩,hE⟩
 .cases q:s.heap.get? ea with
  | none=>rfl
  | some o=>
   obtain ⟨o1,h1⟩:=old ea o q
   rw [hnew] at h1;cases h1
 .have hb2:b∉frs (cxOf (CXE P w) P w K mg base N qual scope f cd A outer s H E).stack:=fun m=>by
   rcases yAE.mp (I2.stkSub b m) with z | z
   .rcases hor with y | ⟨o0,y⟩
    .exact y (by rw [z];exact I2.free)
    .exact absurd (yAX (Heap.lt_size y) I.ok.above) (by rw [z];exact yBO _)
   .exact hb z
  have:∃ o1,hm.get? b=some o1 /\ (H' b≠none∨∃ o0,s1.heap.get? b=some o0):=by
   rcases hor with y | ⟨o0,y⟩
   .obtain ⟨u,hu⟩:=Option.ne_none_iff_exists'.mp y
    have:=(hok b u hu).lt
    cases z:hm.get? b with
    | some o1=>exact ⟨o1,rfl,.inl y⟩
    | none=>
     exfalso
     have st2:=hok b u hu
     cases u with
     | lst xs=>obtain ⟨_,_,_,_,e⟩:=st2;rw [z] at e;cases e
     | tup xs=>obtain ⟨_,_,_,ob,e,_⟩:=st2;rw [z] at e;cases e
     | dK kvs=>obtain ⟨_,_,_,_,ob,es,ep,e,_⟩:=st2;rw [z] at e;cases e
     | dT kvs=>obtain ⟨_,_,_,_,ob,es,ep,e,_⟩:=st2;rw [z] at e;cases e
     | set S n=>obtain ⟨ob,es,ep,t,e,_⟩:=st2;rw [z] at e;cases e
     | ins C dx fs=>obtain ⟨_,_,_,e,_⟩:=st2;rw [z] at e;cases e
     | own y=>obtain ⟨_,e⟩:=st2;rw [z] at e;cases e
     | xd fs=>obtain ⟨_,⟨_,_,_,e,_⟩,_⟩:=st2;rw [z] at e;cases e
     | rng lo hi=>obtain ⟨_,_,_,e⟩:=st2;rw [z] at e;cases e
     | frz ob u=>obtain ⟨e,_⟩:=st2;rw [z] at e;cases e
     | tbl ps=>have e:hm.get? b=some _:=st2;rw [z] at e;cases e
     | met f y=>have e:hm.get? b=some _:=st2;rw [z] at e;cases e
     | ext φ=>obtain ⟨_,⟨_,e⟩,_⟩:=st2;rw [z] at e;cases e
   .obtain ⟨o1,h1⟩:=old b o0 y
    obtain ⟨o2,h2⟩:=un.there b o1 h1 (fun z=>nomatch z)
    exact ⟨o2,h2,.inr ⟨o1,h1⟩⟩
  obtain ⟨o1,q1,q2⟩:=this
  have q3:=hB b o1 q1 hb2 q2
  have q4:=fl.1 b o1 q3
  rw [ho] at q4
  cases q4
  exact q3
theorem ZDh:ZBH (CXE P w) (cxOf (CXE P w) P w K mg base N qual scope f cd A outer s H E) E:=by
 intro pins σ H1 s1 e s2 I hc
 obtain ⟨ea,cls,dd,H',rfl,os,bare,un,hok,⟨B,a0,fl,hout,hnew,hB⟩,hE⟩:=hc
 refine wpAny_leaves_onD (base:=B) I.ok.frames rfl fl fun h' fl' up=>?_
 exact ZEd I un hok hB fl.2.2.1 up fl' hout hnew os bare hE
theorem raisedD {pins:List (Addr×Obj)} {σ:St} {H1 H2:Hp} {s1 s2:Shared} {ea:Addr} {oe:Obj} {vs:Array Value} {cls a0:Value} {dd:Option Addr} (I:Inv (cxOf (CXE P w) P w K mg base N qual scope f cd A outer s H E) pins σ H1 s1)
  (un:Un (frs (cxOf (CXE P w) P w K mg base N qual scope f cd A outer s H E).stack) [] H1 H2 s1.heap s2.heap) (hok:HOk P w H2 s2.heap) (os:s2.os=s1.os) (bare:AllBare s2.gens) (hnew:s1.heap.get? ea=none) (hout:H2 ea=none)
  (he:s2.heap.get? ea=some oe) (hc:oe.cls=cls) (hd:oe.dict=dd) (hv:oe.data=.fields vs) (h1:vs[1]?=some .none) (h0:vs[0]?=some a0) (hE:E cls dd H2) :
  (cxOf (CXE P w) P w K mg base N qual scope f cd A outer s H E).xe (.ref ea) s2:=by
 have I2:=I.call' (s':=s2) os un hok bare fun b z=>nomatch z
 have hin:∀ env∈(cxOf (CXE P w) P w K mg base N qual scope f cd A outer s H E).stack,∀ b,env.frame=some b->b∈ea::frs (cxOf (CXE P w) P w K mg base N qual scope f cd A outer s H E).stack:=fun env he b hb=>yAD _ (List.mem_filterMap.mpr ⟨env,he,hb⟩)
 subst hc
 have eh:∀ b∈ea::frs (cxOf (CXE P w) P w K mg base N qual scope f cd A outer s H E).stack,(PySem.W.hideAll s2.heap (ea::frs (cxOf (CXE P w) P w K mg base N qual scope f cd A outer s H E).stack)).get? b=none:=fun b hb=>by
  exact PySem.W.hideAll_none _ hb
 refine wpAny_leaving_firstD (a0:=(a0,dd)) (base:=PySem.W.hideAll s2.heap (ea::frs (cxOf (CXE P w) P w K mg base N qual scope f cd A outer s H E).stack)) I.ok.frames (PySem.W.funFrames_hide I2.stack hin) rfl he (fun b o q=>PySem.W.of_hideAll _ q) (eh ea yAF) hv h1 ⟨h0,hd⟩ fun h' hL=>?_
 obtain ⟨k1,⟨_,_,k2⟩,k3,k4⟩:=hL
 refine ZEd (s2:=s2) (B:=PySem.W.hideAll s2.heap (ea::frs (cxOf (CXE P w) P w K mg base N qual scope f cd A outer s H E).stack)) I un hok (fun b o q nb hor=>PySem.W.hideAll_get _ q fun z=>?_) I2.stack k4 ⟨k1,eh ea yAF,k2,k3⟩ hout hnew os bare hE
 rcases yAE.mp z with z | z
 .subst z
  rcases hor with y | ⟨o0,y⟩
  .exact y hout
  .rw [hnew] at y;cases y
 .exact nb z
end
open PySem PySem.Spec PySem.W PySem.Calls PyProof.Rows Builtin.Getset_descriptor Builtin.ObjectAttr
structure ExcC (K:W.Frag) (C:Addr):Prop where
 ga:W.findIn K (.ref C) "__getattribute__"=some (some (.builtin "BaseException.__getattribute__"))
 gt:W.findIn K (.ref C) "__getattr__"=some none
 ca:W.findIn K (.ref C) "__class__"=some (some (.builtin "object.__class__"))
 sg:PySem.W.specialIn K (.builtin "object.__class__") "__get__"=some (some (.builtin "getset_descriptor.__get__"))
 tk:PySem.W.takesIn K (.builtin "object.__class__")=some true
 mo:PySem.W.mroIn K C (.type "object")=some true
 mb:PySem.W.mroIn K C (.type "BaseException")=some true
section
variable {prog:Program} {w:World} {A:Around} {E:Value->Shared->Prop} {K:W.Frag} {a C:Addr} {o:Obj} {h:Heap} {g:Array GenState} {d:Drawn} {t:Nat} {os:OsState}
theorem ZEb {M:Model} (hx:h.get? a=some o) (hc:o.cls=.ref C):Looks M h (typeOf (.ref a)) (.ref C):=hc ▸ (Looks.ld hx).andThen .now
theorem exc_get {R:Result->Shared->Prop} (X:K.In h) (F:ExcC K C) (hx:h.get? a=some o) (hc:o.cls=.ref C) (hq:R (.ok (.ret (.ref C))) ⟨h,g,d,t,os⟩) :
  codeAny (model prog w) A (.call (.builtin "getset_descriptor.__get__") ⟨[.builtin "object.__class__",.ref a,.ref C],[]⟩) R ⟨h,g,d,t,os⟩:=by
 have y0:=ZEb (M:=model prog w) hx hc
 have y1:=looks_mroIn (M:=model prog w) X F.mo
 refine codeAny_call_builtin KF.slot_gs.plain KF.entry_gs (KF.slot_gs.check _ _ _ _ _ _ _ _ KF.type_class (KF.args_gs _ _ _) ?_)
 simp only [Builtin.«getset_descriptor.__get__»,descrGet]
 rw [dga_obj]
 refine wpAny_bind (wpAny_pure ?_)
 simp only [descrGetter,descrCheckInstance,descrNameAndClass,isInstance,KF.owner_class]
 repeat lk
 refine ⟨Code.quiet_builtin _ (by decide +kernel),codeAny_builtin KF.entry_class ?_⟩
 simp only [Builtin.«object.__class__»,shownTypeOf]
 repeat lk
 exact hq
theorem exc_ga_check {M:Model} {nameV:Value} {Q:Unit->Shared->Prop} (X:K.In h) (F:ExcC K C) (hx:h.get? a=some o) (hc:o.cls=.ref C) (hq:Q () ⟨h,g,d,t,os⟩) :
  wpAny M A (checkBuiltinCall "BaseException.__getattribute__" ⟨[.ref a,nameV],[]⟩) Q E ⟨h,g,d,t,os⟩:=by
 have y0:=ZEb (M:=M) hx hc
 have y1:=looks_mroIn (M:=M) X F.mb
 have k1:builtinKind "BaseException.__getattribute__"=some .slot:=by decide +kernel
 have k2:splitId "BaseException.__getattribute__"=some ("BaseException","__getattribute__"):=by decide +kernel
 have k3:=PySem.F.args_bexc_ga (.ref a) nameV
 simp only [checkBuiltinCall,k1,k2]
 refine wpAny_bind ?_
 unfold isInstance
 repeat lk
 exact hq
theorem exc_class {Q:Option Value->Shared->Prop} (X:K.In h) (F:ExcC K C) (hx:h.get? a=some o) (hc:o.cls=.ref C) (hq:Q (some (.ref C)) ⟨h,g,d,t+1,os⟩) :
  wpAny (model prog w) A (getAttr? (.ref a) "__class__") Q E ⟨h,g,d,t,os⟩:=by
 have y0:=ZEb (M:=model prog w) hx hc
 have y1:=looks_findIn (M:=model prog w) X F.ga
 have y2:=looks_findIn (M:=model prog w) X F.gt
 have y3:=looks_findIn (M:=model prog w) X F.ca
 have y4:=looks_specialIn (M:=model prog w) X F.sg
 have y5:=looks_takesIn (M:=model prog w) X F.tk
 have bd:=PySem.F.attr_ValueError.ga.bind (.ref a)
 simp only [getAttr?,getAttrBy?,getAttrBy]
 refine wpAny_bind (wpAny_mkText (wpAny_bind (wpAny_attempt (wpAny_holding (wpAny_bind (y0.at (wpAny_bind (y1.at ?_))))))))
 show wpAny _ _ (getAttrByItsOwn _ _ _ _ _ _) _ _ _
 unfold getAttrByItsOwn
 refine wpAny_bind ?_
 show wpAny _ _ (typeLookup (.ref C) "__getattr__") _ _ _
 refine y2.at (wpAny_bind (wpAny_attempt (wpAny_holding ?_)))
 show wpAny _ _ (boundAndCalled _ _ _) _ _ _
 unfold boundAndCalled
 rw [bd]
 refine wpAny_bind (wpAny_pure (wpAny_call (codeAny_call_builtin PySem.F.attr_ValueError.ga.plain PySem.F.entry_bexc_ga (exc_ga_check X F hx hc ?_))))
 unfold Builtin.«object.__getattribute__»
 refine wpAny_bind (wpAny_pure (wpAny_bind (wpAny_pure (wpAny_bind (y0.at (wpAny_bind ?_))))))
 unfold find
 refine wpAny_bind (y3.at (wpAny_bind ?_))
 show wpAny _ _ (specialOf (.builtin "object.__class__") "__get__") _ _ _
 refine y4.at (wpAny_bind ?_)
 unfold dataDescriptor?
 refine wpAny_bind (y5.at ?_)
 rw [if_pos rfl]
 refine wpAny_pure (wpAny_bind (wpAny_rule (wpAny_pure ?_)))
 show wpAny _ _ (holding [_] (call (.builtin "getset_descriptor.__get__") [.builtin "object.__class__",.ref a,.ref C]) >>= ret) _ _ _
 refine wpAny_bind (wpAny_holding (wpAny_call (exc_get X F hx hc ?_)))
 exact wpAny_pure (handed_on rfl (wpAny_pure hq))
theorem kitx_exc {D:Addr} (F:ExcC K D) (hdct:hasDictIn K D=true):KitX K (.ref a) (.ref D) (fun h=>∃ o,h.get? a=some o /\ o.cls=.ref D) where
 ty:=fun _ _ _ ⟨_,h1,h2⟩=>ZEb h1 h2
 it:=fun _ _ X _=>by
  obtain ⟨cdD,hcD,_⟩:=any_some hdct
  unfold clsIn at hcD
  split at hcD
  .rename_i z
   intro A1 Q1 E1 s1 k1 q1
   simp only [isType,loadHead]
   exact wpAny_bind (wpAny_loadPart (k1 _ _ (X _ _ z)) (wpAny_pure q1))
  .cases hcD
 ne:=fun h tp dd its n sl X htp=>by
  obtain ⟨cdD,hcD,_⟩:=any_some hdct
  refine Bool.eq_false_iff.mpr fun q=>?_
  cases Value.ref.inj (beq_iff_eq.mp q)
  unfold clsIn at hcD
  split at hcD
  .rename_i z
   have y:=(X _ _ z).symm.trans htp
   cases y
  .cases hcD
 ca:=fun {_ _ _ _ _ s} X ⟨_,h1,h2⟩ k=>by
  obtain ⟨hh,g,d,t,os⟩:=s
  exact exc_class X F h1 h2 k
end
noncomputable def excO (a:Addr) (cls:Value) (dd:Option Addr):HO:=.ext fun h=>∃ o,h.get? a=some o /\ o.cls=cls /\ o.dict=dd /\ ∃ vs,o.data=.fields vs
section
variable {X:Cx}
theorem call_isExc:ZCN X (.builtin "isinstance") (fun xs H Q=>∃ a C c b dd,xs=[.ref a,c] /\ ZE8 c=true /\ H a=some (excO a (.ref C) dd) /\ ExcC X.K C /\ PySem.W.hasDictIn X.K C=true /\ PySem.W.kitOne X.K (.ref C) (cval c)=some b /\ Q (.bl b) H):=by
 intro pins s σ H xs us Q I r h
 obtain ⟨a,C,c,b,dd,rfl,hc,ha,F,hd,e,q⟩:=h
 obtain ⟨u,w',rfl,r1,r2⟩:=ZD5 r
 have e2:w'=cval c:=by
  cases c <;> first | (cases hc;done) | exact r2
 subst e2
 cases (show u=Value.ref a from r1)
 obtain ⟨⟨o,z1,z2,_⟩,_,_⟩:=(show ObjOk X.prog X.w H s.heap a (excO a (.ref C) dd) from I.hok a _ ha)
 have z:∃ o,s.heap.get? a=some o /\ o.cls=.ref C:=⟨o,z1,z2⟩
 exact kia_one (kitx_exc F hd) I.kIn z e (fun z=>nomatch z) fun tk=>⟨.bl b,H,I.tok tk,rfl,q⟩
end
open PySem PySem.Spec PySem.W PySem.Calls PyProof.Rows
theorem call_isExcK {X:Cx} (K:W.Frag) (h:X.K=K:=by rfl):ZCN X (.builtin "isinstance") (fun xs H Q=>∃ a C c b dd,xs=[.ref a,c] /\ ZE8 c=true /\ H a=some (excO a (.ref C) dd) /\ ExcC K C /\ PySem.W.hasDictIn K C=true /\ PySem.W.kitOne K (.ref C) (cval c)=some b /\ Q (.bl b) H):=h ▸ call_isExc
section
variable {X:Cx}
end
noncomputable abbrev bmV:List Value:=[.type "ValueError",.type "Exception",.type "BaseException",.type "object"]
noncomputable def tRaise (E:XK) (C:Addr):TS:=fun _ _ H=>E (.ref C) none H
section
variable {P:Program} {w:World} {K:W.Frag} {mg:Str->Option Value} {base:Heap} {N:List Str} {qual:Str} {scope:Scope} {f:Addr} {cd:Value} {A:Around} {outer:List Env} {s:Shared} {H:Hp} {E:XK}
theorem Fun.okX {x:Str} {st:Stmt} {fd:FuncData} {ps:List Str} {k:Nat} {sp:Sp} (F:Fun K x qual st f fd) (S:FnScope N ps (ZAE st)) (len:∀ vs H Q E,sp vs H Q E->vs.length=ps.length)
  (hbody:∀ (cdv:Value) (A:Around) (outer:List Env) (s:Shared) (H:Hp) (vs:List V) (Q:VK) (E:XK),Room k (A.deeper (envOfC qual (ZAE st) s.heap.objs.size f cdv))->sp vs H Q E ->
   ∃ t,PSs (cxOf (CXE P w) P w K mg base N qual (ZAE st) f cdv A outer s H E) (ZAM st) t /\ t { nx:=fun _ H'=>Q .non H',rt:=Q } (start N vs) H):FnOk P w K mg base (CXE P w) (k+1) f fd ps sp:=by
 obtain ⟨oc,od,kV,doc,pm,an,cdv,ct,osl,rfl,lk,hcd⟩:=F.ex
 exact ZFA lk hcd S len fun A outer s H vs Q E hr hsp=>hbody cdv A outer s H vs Q E hr hsp
end
theorem PS.nox {X:Cx} {st:Stmt} {t:TS} (h:PS X.nox st t):PS X st t:=fun pins s σ H D I hw=>
 wpAny_mono (h pins s σ H D (I.wish _) hw) (fun _ _ q=>q.unwish) fun _ _ z=>False.elim z
noncomputable def ZEP (CX:CXT) (X:Cx) (E:St->XK):Prop:=∀ (pins:List (Addr×Obj)) (σ:St) (H:Hp) (s:Shared) (e:Value) (s':Shared),Inv X pins σ H s->CX X.stack H s (E σ) e s'->X.xe e s'
noncomputable def ZEk (sp:Sp) (dvs:List V) (E:St->XK) (t:TA):TE:=fun σ H Q=>t σ H fun vs H1=>sp (vs++dvs) H1 Q (E σ)
section
variable {X:Cx} {CX:CXT} {k:Nat} {f:Addr} {fd:FuncData} {ps:List Str} {sp:Sp} {dvs:List V} {ds:List Value} {E:St->XK} {x:Str} {p pos:Pos} {e:Expr} {es:List Expr} {t:TA}
theorem run_fnS {pins:List (Addr×Obj)} {σ:St} {H:Hp} {s:Shared} {Q:VK} {E:XK} {us:List Value} {vs:List V} (F:FnOk X.prog X.w X.K X.mg X.base CX k f fd ps sp) (hr:Room k X.A) (hb:Binds X.K fd ps ds) (hd:Vals dvs ds) (hx:∀ e s',CX X.stack H s E e s'->X.xe e s')
  (I:Inv X pins σ H s) (r:Vals vs us) (h:sp (vs++dvs) H Q E):wpAny (model X.prog X.w) X.A (call (.ref f) us) (EP X pins σ Q) X.xe s:=by
 have r2:Vals (vs++dvs) (us++ds):=r.append hd
 have hl:(us++ds).length=ps.length:=by rw [<- r2.length];exact F.len _ _ _ _ h
 refine wpAny_call (codeAny_mono (F.run X.A X.stack s H ⟨us,[]⟩ (us++ds) (vs++dvs) Q E hr I.env0 (hb s us I.kIn hl) r2 h) fun r s' hq=>?_)
 cases r with
 | error e=>exact hx e s' hq
 | ok fl=>
  cases fl with
  | ret u=>exact I.after hq
  | next=>exact False.elim hq
  | brk=>exact False.elim hq
  | cont=>exact False.elim hq
theorem pe_fnS (F:Fn X.prog X.w X.K X.mg X.base CX x k ps sp) (hr:Room k X.A) (hg:Gl X x) (hx:ZEP CX X E)
  (ha:PA X (e::es) t) (hdb:(x == ("__debug__":Str))=false:=by decide) (he:starEach (e::es) X.env=(false,eval e X.env)::starEach es X.env:=by rfl) (hpl:(backTo pos (starEach es X.env)).any (·.1)=false:=by rfl) :
  PE X (.Call (.Name x p) (e::es) [] pos) (ZEk sp [] E t):=by
 obtain ⟨f,fd,h1,h2,h3,h4⟩:=F.ex
 intro pins s σ H Q I h
 refine wpAny_Call_Name_kw (ZB3 I hg h4 ?_ hdb)
 refine PySem.W.callWith_K (h₀:=X.base) I.ok.mod.kin h3 (thn (ha pos pins s σ H _ I h) fun us s1 ⟨vs,H1,I1,r,q⟩=>⟨I1.kIn,?_⟩) he hpl
 exact run_fnS h1 hr h2 .nil (fun e s' z=>hx pins σ H1 s1 e s' I1 z) I1 r q
end
noncomputable abbrev Cx.tries (X:Cx) (pn:List (Addr×Obj)) (xe:Value->Shared->Prop):Cx:={ X with pn:=pn,xe:=xe }
noncomputable abbrev Cx.handles (X:Cx) (e:Addr):Cx:={ X with A:=X.A.mark (some (.ref e)),calm:=false,xe:=fun _ _=>False }
section
variable {X:Cx} {pins pins':List (Addr×Obj)} {σ:St} {H:Hp} {s:Shared} {xe:Value->Shared->Prop} {e:Addr}
theorem Inv.toTry (I:Inv X pins σ H s):Inv (X.tries (X.pn++pins) xe) [] σ H s :=
 ⟨⟨I.ok.mod,I.ok.kind,I.ok.glob,I.ok.blt,I.ok.above,I.ok.inj,I.ok.has,I.ok.cab,I.ok.hd,I.ok.frames,I.ok.stk,I.ok.exf,I.ok.bs,I.ok.bsz,I.ok.noex,I.ok.exfs,I.ok.funs,I.ok.frf⟩,I.os,I.bare,I.base,I.loc,I.cell,I.free,I.freeC,fun p hp=>I.pin p (by simpa using hp),I.hok,I.len⟩
theorem Inv.ofTry (I:Inv (X.tries (X.pn++pins) xe) pins' σ H s):Inv X pins σ H s :=
 ⟨⟨I.ok.mod,I.ok.kind,I.ok.glob,I.ok.blt,I.ok.above,I.ok.inj,I.ok.has,I.ok.cab,I.ok.hd,I.ok.frames,I.ok.stk,I.ok.exf,I.ok.bs,I.ok.bsz,I.ok.noex,I.ok.exfs,I.ok.funs,I.ok.frf⟩,I.os,I.bare,I.base,I.loc,I.cell,I.free,I.freeC,fun p hp=>I.pin p (yBM _ hp),I.hok,I.len⟩
theorem Inv.toH (I:Inv X pins σ H s) (e:Addr):Inv (X.handles e) pins σ H s :=
 ⟨⟨I.ok.mod,I.ok.kind,I.ok.glob,I.ok.blt,I.ok.above,I.ok.inj,I.ok.has,I.ok.cab,(fun z=>nomatch z),I.ok.frames,I.ok.stk,I.ok.exf,I.ok.bs,I.ok.bsz,I.ok.noex,I.ok.exfs,I.ok.funs,I.ok.frf⟩,I.os,I.bare,I.base,I.loc,I.cell,I.free,I.freeC,I.pin,I.hok,I.len⟩
theorem Inv.ofH (I:Inv (X.handles e) pins σ H s) (ok:X.Ok):Inv X pins σ H s:=⟨ok,I.os,I.bare,I.base,I.loc,I.cell,I.free,I.freeC,I.pin,I.hok,I.len⟩
theorem SP.ofTry {D:Ends} {f:Flow} (h:SP (X.tries (X.pn++pins) xe) pins' D f s):SP X pins D f s:=by
 cases f with
 | next=>obtain ⟨σ',H',I,q⟩:=h;exact ⟨σ',H',I.ofTry,q⟩
 | brk=>obtain ⟨σ',H',I,q⟩:=h;exact ⟨σ',H',I.ofTry,q⟩
 | cont=>obtain ⟨σ',H',I,q⟩:=h;exact ⟨σ',H',I.ofTry,q⟩
 | ret u=>obtain ⟨v,σ',H',I,r,q⟩:=h;exact ⟨v,σ',H',I.ofTry,r,q⟩
theorem Inv.track {o:HO} (I:Inv X pins σ H s) (h0:X.s₀.heap.get? e=none) (hL:e≠X.env.locals) (hC:∀ x c,X.env.cells.lookup x=some c->c≠e) (hp:∀ p∈X.pn++pins,p.1≠e) (hn:H e=none) (new:ObjOk X.prog X.w (upd H e o) s.heap e o):Inv X pins σ (upd H e o) s:=by
 have k:∀ b u,H b=some u->upd H e o b=some u:=fun b u q=>by rw [ZAI (ZAC q hn)];exact q
 refine ⟨I.ok,I.os,I.bare,⟨I.base.keep,I.base.slot,fun b ob q n hx=>?_,I.base.there,fun b xs q=>k _ _ (I.base.tups b xs q),fun b ob u q=>k _ _ (I.base.frzs b ob u q),fun b ps q=>?_⟩,I.loc,I.cell,?_,fun x c q=>?_,fun p hp'=>?_,fun b u q=>?_,I.len⟩
 .rw [ZAI (fun z=>by rw [z,h0] at q;cases q)]
  exact I.base.free b ob q n hx
 .obtain ⟨m,hm⟩:=I.base.tbls b ps q
  exact ⟨m,k _ _ hm⟩
 .rw [ZAI (Ne.symm hL)];exact I.free
 .rw [ZAI (hC x c q)];exact I.freeC x c q
 .obtain ⟨q1,q2,q3,q4,q5⟩:=I.pin p hp'
  exact ⟨q1,by rw [ZAI (hp p hp')];exact q2,q3,q4,q5⟩
 .by_cases z:b=e
  .subst z
   rw [ZAG] at q
   cases q
   exact new
  .rw [ZAI z] at q
   exact (I.hok b u q).stay (fun _ _ _ y=>y) (fun c y=>k _ _ y) fun c xs y=>k _ _ y
theorem Inv.gone {i t':Nat} {x:Str} {m:Str->Option Value} {v:Option Value} {h':Heap} (I:Inv X pins σ H s) (hN:X.N.Nodup) (hi:X.N[i]?=some x) (hn:s.heap.Ns X.env.locals m) (hn':h'.Ns X.env.locals (fun y=>if y=x then v else m y)) (hs:Heap.SameBut X.env.locals s.heap h') :
  Inv X pins (σ.set i none) H { s with heap:=h',toks:=t' }:=by
 obtain ⟨m0,hn0,hl⟩:=I.loc
 obtain ⟨oL,_,_,hoL,_⟩:=id hn
 have hm:m0=m:=by
  obtain ⟨o1,es1,ep1,ho1,hd1,_,hf1⟩:=hn0
  obtain ⟨o2,es2,ep2,ho2,hd2,_,hf2⟩:=hn
  rw [ho1] at ho2
  cases ho2
  rw [hd1] at hd2
  cases hd2
  funext y
  rw [<- hf1 y,<- hf2 y]
 subst hm
 have nL:∀ b ob,X.s₀.heap.get? b=some ob->b≠X.env.locals:=fun b ob q=>yAU (yAX (Heap.lt_size q) I.ok.above)
 refine ⟨I.ok,I.os,I.bare,⟨fun b o q n hb hx=>(hs.2 b (nL b o q)).trans (I.base.keep b o q n hb hx),fun b o q n hb hx=>?_,I.base.free,fun b o q hx=>?_,I.base.tups,I.base.frzs,I.base.tbls⟩,⟨_,hn',fun j y v' q1 q2 q3=>?_⟩,fun y c q=>?_,I.free,I.freeC,fun p hp=>?_,fun b u q=>?_,by simpa using I.len⟩
 .obtain ⟨sl,q1⟩:=I.base.slot b o q n hb hx
  exact ⟨sl,(hs.2 b (nL b o q)).trans q1⟩
 .obtain ⟨o',q1⟩:=I.base.there b o q hx
  exact ⟨o',(hs.2 b (nL b o q)).trans q1⟩
 .by_cases hj:j=i
  .subst hj
   by_cases hlen:j < σ.length
   .rw [List.getElem?_set_self hlen] at q2;cases q2
   .rw [yBY (by rw [List.length_set];omega)] at q2;cases q2
  .rw [List.getElem?_set_ne (Ne.symm hj)] at q2
   obtain ⟨u',r',q⟩:=hl j y v' q1 q2 q3
   refine ⟨u',r',?_⟩
   rcases q with ⟨k,q⟩ | ⟨k,c,q,z⟩
   .have:y≠x:=fun z=>hj (ZDk hN q1 (z ▸ hi))
    exact .inl ⟨k,by simp [this,q]⟩
   .exact .inr ⟨k,c,q,z.sameBut hs (I.cne y c q)⟩
 .obtain ⟨w',z⟩:=I.cell y c q
  exact ⟨w',z.sameBut hs (I.cne y c q)⟩
 .obtain ⟨q,n,ne,nf,d⟩:=I.pin p hp
  exact ⟨(hs.2 p.1 ne).trans q,n,ne,nf,d⟩
 .refine (I.hok b u q).stay (fun c w' hc z=>(hs.2 c ?_).trans z) (fun _ z=>z) fun _ _ z=>z
  rintro rfl
  rcases hc with y | y
  .rw [<- y,I.free] at q;cases q
  .rw [I.free] at y;cases y
end
noncomputable def Ehit (K:W.Frag) (HC:Addr) (i:Nat) (ts:TS) (D:Ends):St->XK:=fun σ cls dd H'=>exmOne K cls (.ref HC)=some true /\ ∀ ea,H' ea=none ->
 ts { nx:=fun σ' H''=>D.nx (σ'.set i none) H'',rt:=D.rt,bk:=fun σ' H''=>D.bk (σ'.set i none) H'',ct:=fun σ' H''=>D.ct (σ'.set i none) H'' } (σ.set i (some (.ref ea))) (upd H' ea (excO ea cls dd))
noncomputable def tTry (K:W.Frag) (HC:Addr) (i:Nat) (tb:(St->XK)->TS) (ts:TS):TS:=fun D σ H=>tb (Ehit K HC i ts D) D σ H
theorem ps_try {X:Cx} {body suite:List Stmt} {b₀:Stmt} {x n:Str} {i:Nat} {HC:Addr} {np hpos pos:Pos} {tb:(St->XK)->TS} {ts:TS} (hstk:X.stack=X.env::X.outer /\ X.env.frame=some X.env.locals) (hex:X.ex=[]) (hg:Gl X x) (hm:X.mg x=some (.ref HC))
  (hN:X.N.Nodup) (hi:X.N[i]?=some n) (hl:X.env.scope.names.lookup n=some .local)
  (hb:∀ (pn:List (Addr×Obj)) (xe:Value->Shared->Prop) (E:St->XK),ZEP (CXE X.prog X.w) (X.tries pn xe) E->PSs (X.tries pn xe) body (tb E)) (hs:∀ e,PSs (X.handles e) (b₀::suite) ts) (hdb:(x == ("__debug__":Str))=false:=by decide) :
  PS X (.Try body [.ExceptHandler (some (.Name x np)) (some n) (b₀::suite) hpos] [] [] pos) (tTry X.K HC i tb ts):=by
 intro pins s σ H D I hw
 refine wpAny_Try_except ?_
 refine wpAny_mono (hb (X.pn++pins) _ (Ehit X.K HC i ts D) ?_ [] s σ H D I.toTry hw) (fun f s1 q=>?_) fun e s1 q=>q
 .intro pins' σ1 H1 s1 e s2 I1 hc
  obtain ⟨ea,cls,dd,H',rfl,os,bare,un,hok,⟨B,a0,fl,hout,hnew,hB⟩,hmt,hE⟩:=hc
  have J:Inv X pins σ1 H1 s1:=I1.ofTry
  obtain ⟨e1,e2⟩:=hstk
  have un:Un (frs X.stack) [] H1 H' s1.heap s2.heap:=un
  have fr:=J.stkFree2 un
  have af:X.A.frames=some (X.env::X.outer):=by rw [<- e1];exact J.ok.frames
  have fl:Heap.FlyingD B (X.env::X.outer) ea cls (a0,dd) s2.heap:=by rw [<- e1];exact fl
  have ff:s2.heap.FunFrames B X.stack:=by rw [e1];exact fl.2.2.1
  have nx:∀ h5,Heap.FlyingD B (X.env::X.outer) ea cls (a0,dd) h5->s2.heap.UpToSlots h5->Inv X pins σ1 H' { s2 with heap:=h5 }:=fun h5 f5 u5=>J.call' os (un.fly hB f5.1 u5 ff) (hok.fly hB f5.1 fr) bare fun b z=>nomatch z
  refine wpAny_looks_onD af e2 fl fun h3 held up3=>?_
  refine wpAny_landsD held fun h4 fl4 up4=>?_
  have I4:=nx h4 fl4 (up3.trans up4)
  obtain ⟨ob,hob,hcl⟩:=fl4.there
  refine wpAny_handleBy_cons (codeAny_handlers_test ?_) (by intro q;cases q)
  refine ZB3 (X:=X.handles ea) (I4.toH ea) hg hm ?_ hdb
  refine (exm_one I4.kIn (hcl ▸ (Looks.ld hob).andThen .now) hmt).here ?_
  refine codeAny_handlers_suite_as ?_
  refine PySem.LANDS2_ fl4 fun h6 fl6 up6=>?_
  have I6:=nx h6 fl6 ((up3.trans up4).trans up6)
  obtain ⟨ob6,hob6,hcl6,hdd6⟩:=fl6.thereD
  refine store_ok2 I6 hN hi (.inl hl) (show RelV (.ref ea) (.ref ea) from rfl) (fun s7 I7 hsb=>?_) (.inr hl)
  have nL:ea≠X.env.locals:=fun z=>by
   obtain ⟨m,⟨o,_,_,ho,_⟩,_⟩:=J.loc
   rw [<- z,hnew] at ho;cases ho
  have nC:∀ x c,X.env.cells.lookup x=some c->c≠ea:=fun x c q z=>by
   obtain ⟨v,o,ho,_⟩:=J.cell x c q
   rw [z,hnew] at ho;cases ho
  have hob7:s7.heap.get? ea=some ob6:=by
   obtain ⟨a,sb,z⟩:=hsb
   refine (sb.2 ea ?_).trans hob6
   rcases z with z | z
   .rw [z];exact nL
   .exact Ne.symm (nC _ _ z)
  have I8:=(I7.track (e:=ea) (o:=excO ea cls dd) (by
   cases q:X.s₀.heap.get? ea with
   | none=>rfl
   | some o=>
    obtain ⟨o1,z⟩:=J.base.there ea o q (by rw [hex];exact yBC)
    rw [hnew] at z;cases z) nL nC (fun p hp z=>by
   have:=(J.pin p hp).1
   rw [z,hnew] at this;cases this) hout ⟨⟨ob6,hob7,hcl6,hdd6⟩,⟨ob6,hob7⟩,fun g1 g2 ⟨o,z1,z2⟩ k=>⟨o,k o z1,z2⟩⟩).toH ea
  refine wpAny_mono (hs ea pins s7 _ _ _ I8 (hE ea hout)) (fun f s8 q8=>?_) fun _ _ z=>z.elim
  have kd:(X.env.scope.kind == .class || (X.env.scope.kind == .module && X.env.locals != X.env.globals))=false:=by rw [J.ok.kind];rfl
  cases f with
  | next=>
   obtain ⟨σ',H'',I',q⟩:=q8
   have I':=I'.ofH J.ok
   obtain ⟨m,hn,_⟩:=I'.loc
   exact wpAny_nameGoes_keeps hl hn kd fun h9 v hn9 sb9=>⟨_,_,I'.gone hN hi hn hn9 sb9,q⟩
  | brk=>
   obtain ⟨σ',H'',I',q⟩:=q8
   have I':=I'.ofH J.ok
   obtain ⟨m,hn,_⟩:=I'.loc
   exact wpAny_nameGoes_keeps hl hn kd fun h9 v hn9 sb9=>⟨_,_,I'.gone hN hi hn hn9 sb9,q⟩
  | cont=>
   obtain ⟨σ',H'',I',q⟩:=q8
   have I':=I'.ofH J.ok
   obtain ⟨m,hn,_⟩:=I'.loc
   exact wpAny_nameGoes_keeps hl hn kd fun h9 v hn9 sb9=>⟨_,_,I'.gone hN hi hn hn9 sb9,q⟩
  | ret u=>
   obtain ⟨v',σ',H'',I',r,q⟩:=q8
   have I':=I'.ofH J.ok
   obtain ⟨m,hn,_⟩:=I'.loc
   exact wpAny_nameGoes_keeps hl hn kd fun h9 v hn9 sb9=>⟨_,_,_,I'.gone hN hi hn hn9 sb9,r,q⟩
 .have q':SP X pins D f s1:=q.ofTry
  cases f with
  | next=>exact wpAny_execs_nil q'
  | brk=>exact q'
  | cont=>exact q'
  | ret u=>exact q'
open PySem PySem.Spec PySem.W PySem.Calls PyProof.Rows Builtin.Getset_descriptor Builtin.ObjectAttr
section
variable {prog:Program} {w:World} {A:Around} {E:Value->Shared->Prop} {K:W.Frag} {a C:Addr} {o:Obj} {h:Heap} {g:Array GenState} {d:Drawn} {t:Nat} {os:OsState}
theorem exc_value {name:Str} {v:Value} {od:Option Obj} {expr:Bool} {Q:Value->Shared->Prop} (X:K.In h) (F:ExcC K C) (I:PySem.W.InstAt h a o C od) (hf:findObj K C od name=some (.value v)) (hv:handedIn v=true) (hq:Q v ⟨h,g,d,t+1,os⟩) :
  wpAny (model prog w) A (getAttr (.ref a) name expr) Q E ⟨h,g,d,t,os⟩:=by
 have y0:=I.type (M:=model prog w)
 have y1:=looks_findIn (M:=model prog w) X F.ga
 have y2:=looks_findIn (M:=model prog w) X F.gt
 have y3:=looks_find (M:=model prog w) X I hf
 have bd:=PySem.F.attr_ValueError.ga.bind (.ref a)
 have hx0:(expr && onTheHeap (Value.builtin "BaseException.__getattribute__"))=false:=by cases expr <;> rfl
 simp only [getAttr,getAttrBy]
 refine wpAny_bind (wpAny_mkText (wpAny_holding (wpAny_bind (y0.at (wpAny_bind (y1.at ?_))))))
 show wpAny _ _ (getAttrByItsOwn _ _ _ _ _ _) _ _ _
 unfold getAttrByItsOwn
 refine wpAny_bind ?_
 show wpAny _ _ (typeLookup (.ref C) "__getattr__") _ _ _
 refine y2.at (wpAny_bind (wpAny_attempt (wpAny_holding ?_)))
 unfold callGetattribute
 rw [hx0]
 show wpAny _ _ (boundAndCalled _ _ _) _ _ _
 unfold boundAndCalled
 rw [bd]
 refine wpAny_bind (wpAny_pure (wpAny_call (codeAny_call_builtin PySem.F.attr_ValueError.ga.plain PySem.F.entry_bexc_ga (exc_ga_check X F I.at_ I.cls ?_))))
 unfold Builtin.«object.__getattribute__»
 refine wpAny_bind (wpAny_pure (wpAny_bind (wpAny_pure (wpAny_bind (y0.at (wpAny_bind (y3.at ?_)))))))
 refine wpAny_pure ?_
 show wpAny _ _ (handedOut v) _ _ _
 rw [handedOut_of hv]
 exact wpAny_pure hq
end
open PySem PySem.Spec PySem.W PySem.Calls PyProof.Rows
section
variable {prog:Program} {w:World} {A:Around} {E:Value->Shared->Prop} {h:Heap} {g:Array GenState} {d:Drawn} {t:Nat} {os:OsState}
variable {nm q:Str} {C N:Addr} {bs bm bmB:List Value} {hdct:Bool} {sn:List Str} {sub:List Value} {ab:Bool} {col:Option Bool} {dd:Option Addr} {k0 k1 k2 k3 k5:Option Value} {B Bn newId nid initId inN:String} {bmN:List Value}
theorem type_call_initU (Fn:ExcBaseFacts Bn newId inN bmN) (hBn:bmB.contains (.type Bn)=true) (F:ExcBaseFacts B nid initId bmB) (T:OwnTail h bmB bm) {mN:Str->Option Value} {rest:List Value} {fI:Addr} {oI:Obj} {Q:Fin->Shared->Prop}
  (hC:h.get? C=some (excClassObj nm q C N bs bm hdct sn sub ab col dd k0 k1 k2 k3 k5 newId)) (hn:h.Ns N mN) (hi:mN "__init__"=some (.ref fI)) (hfI:h.get? fI=some oI) (hfc:oI.cls=.type "function")
  (hq:∀ h' e,Heap.MadeExcOf h h' e (.ref C) rest->e=h.objs.size+1->wpAny (model prog w) A (call (.ref fI) (.ref e::rest)) (fun r s'=>r=.none /\ Q (.done (.ret (.ref e))) s') E ⟨h',g,d,t,os⟩) (hrest:rest.length <= sizeLine:=by size_fits) :
  wpAny (model prog w) A (Builtin.«type.__call__» ⟨.ref C::rest,[]⟩) Q E ⟨h,g,d,t,os⟩:=by
 repeat (first | with_reducible refine wpAny_loadPart_at hC ?_ | with_reducible refine wpAny_madeBy_exc hC ?_ | wp_step)
 refine codeAny_call_builtin_code (Code.quiet_builtin _ Fn.quiet) (wpAny_check_new_subU Fn hBn T hC ?_)
 refine codeAny_exc_new_subU Fn hBn F T hC ?_ hrest
 show wpAny _ _ _ _ _ _
 have kp:∀ b o,h.get? b=some o->((h.push { cls:=.type "tuple",data:=.seq rest.toArray }).push { cls:=.ref C,data:=.fields #[.ref h.objs.size,.none,.none,.none,.bool false,.none] }).get? b=some o:=fun b o e=>Heap.get?_push_of_some _ (Heap.get?_push_of_some _ e)
 have hC₁:=kp _ _ hC
 have hfI₁:=kp _ _ hfI
 have hn₁:=hn.keeps kp
 have hget:((h.push { cls:=.type "tuple",data:=.seq rest.toArray }).push
   { cls:=.ref C,data:=.fields #[.ref h.objs.size,.none,.none,.none,.bool false,.none] }).get? (h.objs.size+1)=some
   { cls:=.ref C,data:=.fields #[.ref h.objs.size,.none,.none,.none,.bool false,.none] }:=by heap_get
 have hcC:(Value.ref C::bm).contains (.ref C)=true:=by simp
 have T₁:=T.keeps kp
 unfold isInstance
 repeat (first | with_reducible refine wpAny_loadPart_at hget ?_ | (with_reducible refine wpAny_isSubtype_exc hC₁ ?_;rw [hcC]) | wp_step)
 show wpAny _ _ (typeLookup (.ref C) _) _ _ _
 refine wpAny_typeLookup_tail hC₁ hn₁ T₁ F.mroIs F.init.lookup ?_
 rw [hi]
 refine wpAny_holding (wpAny_bind ?_)
 unfold bindSpecial
 refine wpAny_bind (wpAny_typeOf (T:="function") ⟨_,hfI₁,hfc⟩ ?_)
 rw [if_pos (by decide)]
 refine wpAny_pure (wpAny_bind (wpAny_mono (hq _ (h.objs.size+1) ⟨kp,Heap.get?_none_of_le (yAZ _),h.objs.size,hget,Heap.get?_none_of_le (yAA _),?_⟩ rfl) (fun r s' hr=>?_) fun _ _ x=>x))
 .exact Heap.get?_push_of_some _ (Heap.get?_push_at rfl rfl)
 .obtain ⟨rfl,hQ⟩:=hr
  wp_walk
  exact hQ
theorem call_exc_initU (Fn:ExcBaseFacts Bn newId inN bmN) (hBn:bmB.contains (.type Bn)=true) (F:ExcBaseFacts B nid initId bmB) (T:OwnTail h bmB bm) {mN:Str->Option Value} {rest:List Value} {fI:Addr} {oI:Obj} {Q:Value->Shared->Prop}
  (hC:h.get? C=some (excClassObj nm q C N bs bm hdct sn sub ab col dd k0 k1 k2 k3 k5 newId)) (hn:h.Ns N mN) (hi:mN "__init__"=some (.ref fI)) (hfI:h.get? fI=some oI) (hfc:oI.cls=.type "function")
  (hq:∀ h' e,Heap.MadeExcOf h h' e (.ref C) rest->e=h.objs.size+1->wpAny (model prog w) (A.under (.builtin "type.__call__" ⟨.ref C::rest,[]⟩)) (call (.ref fI) (.ref e::rest)) (fun r s'=>r=.none /\ Q (.ref e) s') E ⟨h',g,d,t,os⟩) (hrest:rest.length <= sizeLine:=by size_fits) :
  wpAny (model prog w) A (call (.ref C) rest) Q E ⟨h,g,d,t,os⟩:=by
 have f1:=tc_lookup
 have f2:=tc_bind (.ref C)
 have hT:(⟨h,g,d,t,os⟩:Shared).TypeIs (.ref C) "type":=⟨_,hC,rfl⟩
 refine wpAny_call (codeAny_of_tree ?_)
 show wpAny _ _ (callAny (.ref C) _) _ _ _
 repeat (any_goals (first | assumption | with_reducible refine wpAny_loadPart_at hC ?_ | wp_step))
 refine ⟨rfl,?_⟩
 refine codeAny_call_builtin_at (Code.quiet_builtin _ (by decide +kernel)) entry_typeCall (wpAny_check_type_call_sub hC (type_call_initU (hrest:=hrest) Fn hBn F T hC hn hi hfI hfc fun h' e hm he=>?_))
 exact hq h' e hm he
end
section
variable {M:Model} {A:Around} {E:Value->Shared->Prop} {env:Env}
variable {nm q:Str} {C N:Addr} {bs bm:List Value} {hdct:Bool} {sn:List Str} {sub:List Value} {ab:Bool} {col:Option Bool} {dd:Option Addr} {k0 k1 k2 k3 k5:Option Value} {newId:String}
theorem raiseStmt_madeD {s:Shared} {x:Sem Value} {Q:Flow->Shared->Prop} (hbase:bm.contains (.type "BaseException")=true) (hh:A.handled=none)
  (h:wpAny M A x (fun v s₁=>∃ e oe vs,v=.ref e /\ s₁.heap.get? C=some (excClassObj nm q C N bs bm hdct sn sub ab col dd k0 k1 k2 k3 k5 newId) /\
   s₁.heap.get? e=some oe /\ oe.cls=.ref C /\ oe.data=.fields vs /\ vs[1]?=some .none /\ E (.ref e) s₁) E s) :
  wpAny M A (raiseStmt env (some x) none) Q E s:=by
 have hcB:(Value.ref C::bm).contains (.type "BaseException")=true:=by rw [List.contains_cons,hbase,Bool.or_true]
 unfold raiseStmt
 refine wpAny_bind (wpAny_mono h (fun v s₁ h₁=>?_) fun _ _ x=>x)
 obtain ⟨e,oe,vs,rfl,hC,he,hc,hd,h1,hE⟩:=h₁
 obtain ⟨oc,od,odt,osl⟩:=oe
 dsimp only at hc hd
 subst hc hd
 obtain ⟨hp,g,d,tk,os⟩:=s₁
 repeat (first | with_reducible refine wpAny_loadPart_at he ?_ | with_reducible refine wpAny_loadPart_at hC ?_ | (with_reducible refine wpAny_isSubtype_exc hC ?_;rw [hcB]) | wp_step)
 rw [h1]
 exact wpAny_pure (by rw [if_neg (by decide)];exact wpAny_pure (wpAny_raiseNew_none hh hE))
end
noncomputable def ZCx (K:W.Frag) (C fI:Addr) (bmB:List Value) (newId:String):Bool:=match K.lookup C with
 | none=>false
 | some o=>match o.data with
  | .cls cd=>o.cls == .type "type" && cd.mro.head? == some (.ref C) && o.slots.size == 6 && o.slots[4]? == some (some (.builtin newId)) && !cd.hasDel && tailIn K bmB cd.mro.tail && nsOkIn K cd.ns && nsIn K cd.ns "__init__" == some (some (.ref fI))
  | _=>false
theorem ns_some_of {K:W.Frag} {h:Heap} {N:Addr} {mg:Str->Option Value} {n:Str} {v:Value} (X:K.In h) (G:h.Ns N mg) (e:W.nsIn K N n=some (some v)):mg n=some v:=by
 obtain ⟨o,es,ep,ho,hd,_,hf⟩:=G
 unfold nsIn at e
 split at e
 .rename_i hl
  rw [X _ _ hl] at ho
  cases ho
  cases hd
  split at e
  .rename_i y he
   rw [<- hf]
   unfold nsFind findBy
   rw [<- Array.find?_toList,he]
   exact (Option.some.inj e)
  .split at e <;> cases e
 .cases e
theorem six_of {α:Type} {l:List α} {x:α} (h:l.length=6) (e:l[4]?=some x):∃ k0 k1 k2 k3 k5,l=[k0,k1,k2,k3,x,k5]:=by
 rcases l with _ | ⟨k0,_ | ⟨k1,_ | ⟨k2,_ | ⟨k3,_ | ⟨k4,_ | ⟨k5,_ | ⟨k6,l⟩⟩⟩⟩⟩⟩⟩
 case cons.cons.cons.cons.cons.cons.nil=>cases e;exact ⟨_,_,_,_,_,rfl⟩
 all_goals simp at h
theorem ZDp {K:W.Frag} {h:Heap} {C fI:Addr} {bmB:List Value} {newId:String} (X:K.In h) (q:ZCx K C fI bmB newId=true):∃ bm N nm qn bs hdct sn sub ab col dd k0 k1 k2 k3 k5 mN,
  h.get? C=some (excClassObj nm qn C N bs bm hdct sn sub ab col dd k0 k1 k2 k3 k5 newId) /\ h.Ns N mN /\ mN "__init__"=some (.ref fI) /\ OwnTail h bmB bm /\ K.lookup C=some (excClassObj nm qn C N bs bm hdct sn sub ab col dd k0 k1 k2 k3 k5 newId):=by
 unfold ZCx at q
 cases ho:K.lookup C with
 | none=>rw [ho] at q;cases q
 | some o=>
  rw [ho] at q
  obtain ⟨oc,dd,dt,⟨sl⟩⟩:=o
  cases dt with
  | cls cd=>
   simp only [Bool.and_eq_true,beq_iff_eq,Bool.not_eq_true'] at q
   obtain ⟨⟨⟨⟨⟨⟨⟨y0,y1⟩,y2⟩,y7⟩,y3⟩,y4⟩,y5⟩,y6⟩:=q
   obtain ⟨nm,bs,mro,ns,qn,hd,sn,sub,ab,col,del⟩:=cd
   dsimp only at y0 y1 y3 y4 y5 y6
   subst y0 y3
   obtain ⟨bm,rfl⟩:∃ bm,mro=.ref C::bm:=by
    cases mro with
    | nil=>cases y1
    | cons m bm=>cases y1;exact ⟨bm,rfl⟩
   obtain ⟨k0,k1,k2,k3,k5,rfl⟩:∃ k0 k1 k2 k3 k5,sl=[k0,k1,k2,k3,some (.builtin newId),k5]:=six_of (by simpa using y2) (by simpa using y7)
   have G:h.Ns ns (h.nsMap ns):=.of_isNs (isNs_of_in X y5)
   exact ⟨bm,ns,nm,qn,bs,hd,sn,sub,ab,col,dd,k0,k1,k2,k3,k5,_,X _ _ ho,G,ns_some_of X G y6,tail_of_in X y4,rfl⟩
  | _=>cases q
open PySem PySem.Spec PySem.W PySem.Calls PyProof.Rows Builtin.Getset_descriptor Builtin.ObjectAttr
noncomputable def excM (a:Addr) (cls:Value) (dd:Option Addr):HO:=.ext fun h=>∃ o,h.get? a=some o /\ o.cls=cls /\ o.dict=dd /\ ∃ vs,o.data=.fields vs /\ vs[1]?=some .none /\ ∃ a0,vs[0]?=some a0
theorem ZEO {P:Program} {w:World} {H:Hp} {h:Heap} {a:Addr} {cls:Value} {dd:Option Addr} {o:Obj} {vs:Array Value} {a0:Value} (e:h.get? a=some o) (e1:o.cls=cls) (e2:o.dict=dd) (e3:o.data=.fields vs) (e4:vs[1]?=some .none) (e5:vs[0]?=some a0):ObjOk P w H h a (excM a cls dd) :=
 ⟨⟨o,e,e1,e2,vs,e3,e4,a0,e5⟩,⟨o,e⟩,fun h1 h2 ⟨o,z1,z2⟩ k=>⟨o,k o z1,z2⟩⟩
theorem ZCi {P:Program} {w:World} {H:Hp} {h:Heap} {a:Addr} {cls:Value} {dd:Option Addr} (x:HOk P w H h) (e:H a=some (excM a cls dd)):∃ o vs a0,h.get? a=some o /\ o.cls=cls /\ o.dict=dd /\ o.data=.fields vs /\ vs[1]?=some .none /\ vs[0]?=some a0 :=
 let ⟨⟨o,e1,e2,e3,vs,e4,e5,a0,e6⟩,_⟩:=x a _ e;⟨o,vs,a0,e1,e2,e3,e4,e5,e6⟩
theorem upd_self {H:Hp} {a:Addr} {o:HO} (h:H a=some o):upd H a o=H:=funext fun b=>by
 by_cases z:b=a
 .rw [z,ZAG,h]
 .rw [ZAI z]
section
variable {X:Cx}
theorem call_verr (fI:Addr):ZCN X (.builtin "ValueError.__init__") (fun xs H Q=>∃ e C dd v,xs=[.ref e,v] /\ H e=some (excM e (.ref C) dd) /\ ZCx X.K C fI bmV "ValueError.__new__"=true /\ Q .non H):=by
 intro pins s σ H xs us Q I r h
 obtain ⟨e,C,dd,v,rfl,he,hm,q⟩:=h
 obtain ⟨u,w',rfl,r1,r2⟩:=ZD5 r
 cases (show u=Value.ref e from r1)
 obtain ⟨o,vs,a0,z1,z2,z3,z4,z5,z6⟩:=ZCi I.hok he
 have F:=PySem.F.excBase_ValueError
 obtain ⟨bm,N',nm,qn,bs,hdct,sn,sub,ab,col,d0,k0,k1,k2,k3,k5,mN,hC,hN,hni,T,hKC⟩:=ZDp I.kIn hm
 obtain ⟨h0,g,d,t,os⟩:=s
 refine wpAny_call (codeAny_call_builtin F.init.plain F.initEntry (wpAny_check_init_subU F T hC z1 z2 ?_))
 show wpAny _ _ (do Builtin.BaseException.bexcPut (.ref e) 0 (<- newTuple [w']);ret .none) _ _ _
 refine wpAny_bind (wpAny_newTuple ?_ (by rw [sizeLine_eq];simp))
 have z1':(h0.push { cls:=.type "tuple",data:=.seq [w'].toArray }).get? e=some o:=Heap.get?_push_of_some _ z1
 have hsz:0 < vs.size:=by
  cases hv:vs.size with
  | zero=>rw [Array.getElem?_eq_none (by omega)] at z6;cases z6
  | succ n=>omega
 unfold Builtin.BaseException.bexcPut
 refine wpAny_bind (wpAny_bind (wpAny_field z1' z4 z6 (wpAny_bind (wpAny_setField z1' z4 hsz ?_))))
 have h2:((h0.push { cls:=.type "tuple",data:=.seq [w'].toArray }).update e (Obj.mapFields (·.setIfInBounds 0 (.ref h0.objs.size)))).get? e=some (o.mapFields (·.setIfInBounds 0 (.ref h0.objs.size))) :=
  Heap.get?_update_self _ z1' (by obtain ⟨oc,od,odt,osl⟩:=o;cases z4;rfl)
 have fin:∀ tk,EP X pins σ Q .none ⟨(h0.push { cls:=.type "tuple",data:=.seq [w'].toArray }).update e (Obj.mapFields (·.setIfInBounds 0 (.ref h0.objs.size))),g,d,tk,os⟩:=fun tk=>by
  refine ⟨.non,H,?_,rfl,q⟩
  have J:=I.write (x:=e) (e:=e) (o:=excM e (.ref C) dd) (t':=tk) (h':=(h0.push { cls:=.type "tuple",data:=.seq [w'].toArray }).update e (Obj.mapFields (·.setIfInBounds 0 (.ref h0.objs.size)))) (by rw [he];exact True.intro) (.inl rfl)
   (fun b u hb q=>(Heap.get?_update_ne _ _ _ _ hb).trans (Heap.get?_push_of_some _ q)) ⟨_,h2⟩ (ZEO (vs:=vs.setIfInBounds 0 (.ref h0.objs.size)) (a0:=.ref h0.objs.size) h2 (by rw [Obj.cls_mapFields];exact z2) (by rw [ZBf];exact z3) (Obj.data_mapFields z4 _) (by rw [Array.getElem?_setIfInBounds_ne (by decide)];exact z5) (by rw [Array.getElem?_setIfInBounds_self_of_lt hsz]))
  rw [upd_self he] at J
  exact J
 cases a0 with
 | ref b=>exact wpAny_letGo (wpAny_pure (fin t))
 | _=>exact wpAny_pure (wpAny_pure (fin t))
end
section
variable {X:Cx} {x name:Str} {C:Addr} {np apos pos:Pos} {e:Expr} {es:List Expr} {t:TA} {r:List V->Hp->VK->Prop} {id:String}
theorem pe_clsB {pl:Sem Bool} (hc:ZCN X (.builtin id) r) (hg:Gl X x) (hm:X.mg x=some (.ref C)) (hgs:specialIn X.K (.ref C) "__getattribute__"=some (some (.builtin "type.__getattribute__"))) (hr:readsIn X.K C (.type "type")=true)
  (hf:findCls X.K (.ref C) (.type "type") name=some (.val (.builtin id))) (hid:handedIn (.builtin id)=true) (ha:PA X (e::es) t) (hdb:(x == ("__debug__":Str))=false:=by decide)
  (he:starEach (e::es) X.env=(false,eval e X.env)::starEach es X.env:=by rfl) (hpl:(backTo pos (starEach es X.env)).any (·.1)=false:=by rfl)
  (ht:eval (.Call (.Attribute (.Name x np) name apos) (e::es) [] pos) X.env=(do
   let ov <- eval (.Name x np) X.env
   standAt apos.atName
   let (f,first) <- holding [ov] (getMethod ov name pl)
   callWith pos f first (backTo pos (starEach (e::es) X.env)) (backToKw pos (keywordEach [] X.env))):=by rfl):PE X (.Call (.Attribute (.Name x np) name apos) (e::es) [] pos) (tCB r t):=by
 intro pins s σ H Q I h
 refine PySem.W.methodCall_KW (pl:=pl) (ZB3 I hg hm ?_ hdb) ht
 refine method_cls I.kIn hgs (cls_value I.kIn hr hf hid ?_)
 exact PyProof.Rows.callWith_builtin1 (thn (ha pos pins _ σ H _ (I.tok _) h) fun us s1 ⟨vs,H1,I1,r1,q1⟩=>hc pins s1 σ H1 vs us Q I1 r1 q1) he hpl
end
noncomputable def tFS (te:TE):TE:=fun σ H Q=>te σ H fun x H1=>∃ i:Int,x=.int i /\ i.natAbs.log2 < 1920 /\ ∀ y,Q (.str y) H1
section
variable {X:Cx} {v c1 c2:Expr} {s1 s2:Str} {te:TE} {p pos:Pos}
theorem pe_fs1 (h1:PE X c1 (tC (.str s1))) (hv:PE X v te) (hl:s1.length <= 1000:=by decide):PE X (.JoinedStr [c1,.FormattedValue v (-1) none p] pos) (tFS te):=by
 intro pins s σ H Q I h
 refine JoinedStr_many (joinParts_cons (thn (h1 pins s σ H (fun x H1=>x=.str s1 /\ H1=H) I ⟨rfl,rfl⟩) fun u st1 zz=>?_))
 obtain ⟨y,H1,I1,ry,e1,e2⟩:=zz
 subst e1 e2
 obtain ⟨tk,rfl⟩:=(show ∃ t,u=Value.str s1 t from ry)
 refine ⟨by rw [strLen_append,sizeLine_eq];show 0+s1.length <= _;omega,joinParts_cons (FormattedValue_plain (thn (hv pins st1 σ H1 _ I1 h) fun u2 st2 zz=>?_))⟩
 obtain ⟨y,H2,I2,ry,i,e1,hi,q⟩:=zz
 subst e1
 obtain ⟨tk2,rfl⟩:=(show ∃ t,u2=Value.int i t from ry)
 refine formatField_int_small hi ?_
 have hz:=int_text_length_le (k:=1920) (by decide) hi
 have hz':(Str.empty++s1++Str.ofString (toString i)).length <= sizeLine:=by rw [strLen_append,strLen_append,PySem.ofString_length,sizeLine_eq];show 0+s1.length+_ <= _;omega
 exact ⟨hz',joinParts_nil ⟨.str _,H2,I2.tok _,⟨_,rfl⟩,q _⟩ hz'⟩
end
noncomputable def ZC0:List Value->Bool
 | .ref c::r=>ZC0 r
 | l=>l == bmV
theorem over_pass (self:Value):∀ {l:List Value},ZC0 l=true->refuseLoop self "__setattr__" l=pure ()
 | .ref c::r,e=>by rw [refuseLoop_ref];exact over_pass self e
 | [],e=>by cases (beq_iff_eq.mp (show ([] == bmV)=true from e))
 | .type n::r,e=>by rw [show (Value.type n::r)=bmV from beq_iff_eq.mp e];exact PySem.F.store_ValueError.passes self
 | .none::r,e=>by cases (beq_iff_eq.mp (show (Value.none::r == bmV)=true from e))
 | .bool b::r,e=>by cases (beq_iff_eq.mp (show (Value.bool b::r == bmV)=true from e))
 | .int i t::r,e=>by cases (beq_iff_eq.mp (show (Value.int i t::r == bmV)=true from e))
 | .float b t::r,e=>by cases (beq_iff_eq.mp (show (Value.float b t::r == bmV)=true from e))
 | .str x t::r,e=>by cases (beq_iff_eq.mp (show (Value.str x t::r == bmV)=true from e))
 | .bytes x t::r,e=>by cases (beq_iff_eq.mp (show (Value.bytes x t::r == bmV)=true from e))
 | .ellipsis::r,e=>by cases (beq_iff_eq.mp (show (Value.ellipsis::r == bmV)=true from e))
 | .notImplemented::r,e=>by cases (beq_iff_eq.mp (show (Value.notImplemented::r == bmV)=true from e))
 | .builtin n::r,e=>by cases (beq_iff_eq.mp (show (Value.builtin n::r == bmV)=true from e))
theorem ZDi:∀ {l:List Value},ZC0 l=true->l.contains (.type "object")=true /\ l.isEmpty=false
 | .ref c::r,e=>⟨by rw [List.contains_cons,(ZDi (l:=r) e).1,Bool.or_true],rfl⟩
 | [],e=>by cases (beq_iff_eq.mp (show ([] == bmV)=true from e))
 | .type n::r,e=>by rw [show (Value.type n::r)=bmV from beq_iff_eq.mp e];exact ⟨by decide,rfl⟩
 | .none::r,e=>by cases (beq_iff_eq.mp (show (Value.none::r == bmV)=true from e))
 | .bool b::r,e=>by cases (beq_iff_eq.mp (show (Value.bool b::r == bmV)=true from e))
 | .int i t::r,e=>by cases (beq_iff_eq.mp (show (Value.int i t::r == bmV)=true from e))
 | .float b t::r,e=>by cases (beq_iff_eq.mp (show (Value.float b t::r == bmV)=true from e))
 | .str x t::r,e=>by cases (beq_iff_eq.mp (show (Value.str x t::r == bmV)=true from e))
 | .bytes x t::r,e=>by cases (beq_iff_eq.mp (show (Value.bytes x t::r == bmV)=true from e))
 | .ellipsis::r,e=>by cases (beq_iff_eq.mp (show (Value.ellipsis::r == bmV)=true from e))
 | .notImplemented::r,e=>by cases (beq_iff_eq.mp (show (Value.notImplemented::r == bmV)=true from e))
 | .builtin n::r,e=>by cases (beq_iff_eq.mp (show (Value.builtin n::r == bmV)=true from e))
noncomputable def ZEN (K:Frag) (C:Addr):Bool:=(clsIn K C).any fun cd=>ZC0 cd.mro
section
variable {prog:Program} {w:World} {A:Around} {R:Result->Shared->Prop} {s:Shared} {K:Frag} {x C:Addr}
theorem osa_openX {ox:Obj} {od:Option Obj} {name:Str} {tk:Tok} {v:Value} {r:Option Value} (X:K.In s.heap) (I:InstAt s.heap x ox C od) (hp:ZEN K C=true) (ht:takerIn K C name=some r)
  (h:∀ b,wpAny (model prog w) A.in1 (match r with | some a=>setByDescriptor a (.ref x) v | none=>storeInOwnDict (.ref x) (.ref C) (.str name tk) name v b)
   (fun fin s'=>match fin with | Fin.done f=>R (.ok f) s' | Fin.again c'=>c'.quiet=true /\ codeAny (model prog w) A c' R s') (fun e s'=>R (.error e) s') s) :
  codeAny (model prog w) A (.call (.builtin "object.__setattr__") ⟨[.ref x,.str name tk,v],[]⟩) R s:=by
 have SF:=PySem.F.store_object
 obtain ⟨cd,hc,ho⟩:=any_some hp
 have ne:cd.mro.isEmpty=false:=(ZDi ho).2
 have sub:Looks (model prog w) s.heap (isInstance (.ref x) (.type "object")) true:=I.type.andThen (looks_mroIn X (by unfold mroIn;rw [hc,Option.bind_some,if_neg (by rw [ne];decide),(ZDi ho).1]))
 refine codeAny_call_builtin SF.slot.plain SF.entry (@check_slot (model prog w) _ _ s "object.__setattr__" "object" "__setattr__" (.ref x) [.str name tk,v] [] _ SF.kind SF.split sub (SF.args (.ref x) (.str name tk) v) ?_)
 obtain ⟨attr,ha,hr⟩:=Option.bind_eq_some_iff.mp ht
 have hm:Looks (model prog w) s.heap (mroOf (.ref C)) cd.mro:=(looks_clsIn X hc).andThen .now
 have L3:Looks (model prog w) s.heap (storeTaker? attr) r:=by
  cases attr with
  | none=>cases hr;exact .now
  | some a=>
   obtain ⟨b,hb,rfl⟩:=Option.map_eq_some_iff.mp hr
   refine (looks_takesIn X hb).andThen ?_
   cases b <;> exact .now
 rw [osa_eq,refuse_eq]
 refine wpAny_bind (wpAny_bind (I.type.here (wpAny_bind (hm.here ?_))))
 rw [over_pass _ ho]
 refine wpAny_pure (wpAny_bind (I.type.here (wpAny_bind ((looks_findIn X ha).here (wpAny_bind (L3.here ?_))))))
 exact h _
end
noncomputable def xdM (d:Addr) (fs:List (Str×V)):HO:=.ext fun h=>∃ mA,h.Ns1 d mA /\ ∀ f,RelO (fs.lookup f) (mA f)
theorem xdM_ok {P:Program} {w:World} {H:Hp} {h:Heap} {d:Addr} {fs:List (Str×V)} {mA:Str->Option Value} (n:h.Ns1 d mA) (r:∀ f,RelO (fs.lookup f) (mA f)):ObjOk P w H h d (xdM d fs) :=
 ⟨⟨mA,n,r⟩,let ⟨o,_,_,e,_⟩:=n;⟨o,e⟩,fun h1 h2 ⟨mA,⟨o,es,ep,e,c⟩,r⟩ k=>⟨mA,⟨o,es,ep,k _ e,c⟩,r⟩⟩
structure XCls (K:Frag) (C:Addr):Prop where
 hd:hasDictIn K C=true
 ov:ZEN K C=true
 sa:findIn K (.ref C) "__setattr__"=some (some (.builtin "object.__setattr__"))
section
variable {X:Cx} {pins:List (Addr×Obj)} {σ:St} {H:Hp} {s:Shared} {A:Around} {E:Value->Shared->Prop} {a C:Addr} {f:Str}
theorem excset0 {y:V} {u:Value} {Q:Unit->Shared->Prop} (I:Inv X pins σ H s) (e:H a=some (excM a (.ref C) none)) (c:XCls X.K C) (n:NoAttr X.K C f) (ry:RelV y u)
  (h:∀ d s',H d=none->d≠a->Inv X pins σ (upd (upd H d (xdM d [(f,y)])) a (excM a (.ref C) (some d))) s'->Q () s'):wpAny (model X.prog X.w) A (setAttr (.ref a) f u) Q E s:=by
 obtain ⟨o,vs,a0,z1,z2,z3,z4,z5,z6⟩:=ZCi I.hok e
 have J:InstAt s.heap a o C none:=⟨z1,z2,by unfold notCls;rw [z4],by rw [z3];trivial⟩
 refine set_plain I.kIn J c.sa (osa_openX (s:={ s with toks:=s.toks+1 }) (r:=none) I.kIn J c.ov n.taker fun b=>?_)
 obtain ⟨cd,hc,hd'⟩:=any_some c.hd
 obtain ⟨oc,od,odt,osl⟩:=o
 dsimp only at z2 z3 z4
 subst z2 z3 z4
 refine wpAny_bind (wpAny_pure (wpAny_bind (wpAny_bind (wpAny_loadPart (s:={ s with toks:=s.toks+1 }) z1 (wpAny_bind (Looks.here (s:={ s with toks:=s.toks+1 }) (looks_clsIn I.kIn hc) ?_))))))
 rw [hd']
 have hax:a≠s.heap.objs.size:=yAU (Heap.lt_size z1)
 have hx1:(s.heap.push { cls:=.type "dict",data:=.dict #[] }).get? a=some ⟨.ref C,none,.fields vs,osl⟩:=Heap.get?_push_of_some _ z1
 rw [if_neg (by decide)]
 show wpAny _ _ (do
  let d <- alloc { cls:=Value.type "dict",data:=Data.dict #[] }
  update a fun o=>{ cls:=o.cls,dict:=some d,data:=o.data,slots:=o.slots }
  dictMade (.ref C) a d) _ _ _
 refine wpAny_bind (wpAny_alloc' ?_)
 refine wpAny_bind (wpAny_update' hx1 ?_)
 refine wpAny_pure ?_
 have hgd:((s.heap.push { cls:=.type "dict",data:=.dict #[] }).update a fun o=>{ cls:=o.cls,dict:=some s.heap.objs.size,data:=o.data,slots:=o.slots }).get? s.heap.objs.size=some { cls:=.type "dict",data:=.dict #[] } :=
  (Heap.get?_update_ne _ _ _ _ (Ne.symm hax)).trans (Heap.get?_push_at rfl rfl)
 have hnd:((s.heap.push { cls:=.type "dict",data:=.dict #[] }).update a fun o=>{ cls:=o.cls,dict:=some s.heap.objs.size,data:=o.data,slots:=o.slots }).Ns s.heap.objs.size (fun _=>none) :=
  ⟨_,#[],_,hgd,rfl,fun e he=>absurd he (by simp),fun _=>rfl⟩
 have hga:((s.heap.push { cls:=.type "dict",data:=.dict #[] }).update a fun o=>{ cls:=o.cls,dict:=some s.heap.objs.size,data:=o.data,slots:=o.slots }).get? a=some ⟨.ref C,some s.heap.objs.size,.fields vs,osl⟩:=Heap.get?_update_self _ hx1 rfl
 show wpAny _ _ (storeInDict s.heap.objs.size (.str f s.toks) f u) _ _ _
 unfold storeInDict newKeyGuard
 refine wpAny_bind (wpAny_pure (wpAny_bind (wpAny_nsSet1 (Heap.Ns1.of_empty hnd) fun h' hn' hs=>?_)))
 obtain ⟨oD,esD,epD,hoD,hdD,hcD⟩:=hn'.count (Within.cons f u Within.nil)
 refine wpAny_bind (wpAny_lookBehind hoD (by rw [hdD];exact pastItsLine_dict (yAK hcD (by rw [yAG,yBR,sizeLine_eq];omega))) ?_)
 refine wpAny_pure ?_
 have hfr:H s.heap.objs.size=none:=I.hok.fresh (yAA _)
 have keepB:∀ b ob,b≠a->s.heap.get? b=some ob->h'.get? b=some ob:=fun b ob hb q=>(hs.2 b (yAU (Heap.lt_size q))).trans ((Heap.get?_update_ne _ _ _ _ hb).trans (Heap.get?_push_of_some _ q))
 have ha':h'.get? a=some ⟨.ref C,some s.heap.objs.size,.fields vs,osl⟩:=(hs.2 a hax).trans hga
 have rel:∀ g,RelO ([(f,y)].lookup g) (if g=f then some u else none):=fun g=>by
  by_cases q:g=f
  .rw [if_pos q,q,List.lookup_cons_self];exact ry
  .rw [if_neg q,yBU,show (g == f)=false from by simpa using q];trivial
 have J1:=I.write (x:=a) (e:=a) (o:=excM a (.ref C) (some s.heap.objs.size)) (t':=s.toks+1+1) (h':=(s.heap.update a fun o=>{ cls:=o.cls,dict:=some s.heap.objs.size,data:=o.data,slots:=o.slots })) (by rw [e];exact True.intro) (.inl rfl)
  (fun b ob hb q=>(Heap.get?_update_ne _ _ _ _ hb).trans q) ⟨_,Heap.get?_update_self _ z1 rfl⟩ (ZEO (Heap.get?_update_self _ z1 rfl) rfl rfl rfl z5 z6)
 have hsz:(s.heap.update a fun o=>{ cls:=o.cls,dict:=some s.heap.objs.size,data:=o.data,slots:=o.slots }).objs.size=s.heap.objs.size:=Heap.size_update ..
 have J2:=J1.laid (a:=s.heap.objs.size) (o:=xdM s.heap.objs.size [(f,y)]) (t':=s.toks+1+1) (h':=h') (fun b ob q=>?_) (by rw [show ({ s with heap:=(s.heap.update a fun o=>{ cls:=o.cls,dict:=some s.heap.objs.size,data:=o.data,slots:=o.slots }),toks:=s.toks+1+1 }:Shared).heap.objs.size=_ from hsz];exact yAA _) (xdM_ok hn' rel)
 .have:=h s.heap.objs.size _ hfr (Ne.symm hax) (by
   have e2:upd (upd H s.heap.objs.size (xdM s.heap.objs.size [(f,y)])) a (excM a (.ref C) (some s.heap.objs.size))=upd (upd H a (excM a (.ref C) (some s.heap.objs.size))) s.heap.objs.size (xdM s.heap.objs.size [(f,y)]):=funext fun b=>by
    by_cases q1:b=a
    .rw [q1,ZAG,ZAI hax,ZAG]
    .rw [ZAI q1]
     by_cases q2:b=s.heap.objs.size
     .rw [q2,ZAG,ZAG]
     .rw [ZAI q2,ZAI q2,ZAI q1]
   rw [e2]
   exact J2)
  exact this
 .by_cases hb:b=a
  .rw [hb] at q ⊢
   rw [Heap.get?_update_self _ z1 rfl] at q
   rw [ha',<- q]
  .exact keepB b ob hb ((Heap.get?_update_ne _ _ _ _ hb).symm.trans q)
theorem excset1 {y:V} {u:Value} {Q:Unit->Shared->Prop} {d:Addr} {fs:List (Str×V)} (I:Inv X pins σ H s) (e:H a=some (excM a (.ref C) (some d))) (hda:d≠a) (ed:H d=some (xdM d fs)) (hl:fs.length < 1000) (c:XCls X.K C) (n:NoAttr X.K C f) (ry:RelV y u)
  (h:∀ s',Inv X pins σ (upd H d (xdM d (putF f y fs))) s'->Q () s'):wpAny (model X.prog X.w) A (setAttr (.ref a) f u) Q E s:=by
 obtain ⟨o,vs,a0,z1,z2,z3,z4,z5,z6⟩:=ZCi I.hok e
 obtain ⟨⟨mA,hns,r⟩,_,_⟩:=(show ObjOk X.prog X.w H s.heap d (xdM d fs) from I.hok d _ ed)
 obtain ⟨od,hod,hlk⟩:=ZC8 hns
 have J:InstAt s.heap a o C (some od):=⟨z1,z2,by unfold notCls;rw [z4],by rw [z3];exact hod⟩
 refine set_plain I.kIn J c.sa (osa_openX (s:={ s with toks:=s.toks+1 }) (r:=none) I.kIn J c.ov n.taker fun b=>?_)
 obtain ⟨cd,hc,hd'⟩:=any_some c.hd
 obtain ⟨oc,odd,odt,osl⟩:=o
 dsimp only at z2 z3 z4
 subst z2 z3 z4
 refine wpAny_bind (wpAny_pure (wpAny_bind (wpAny_bind (wpAny_loadPart (s:={ s with toks:=s.toks+1 }) z1 (wpAny_bind (Looks.here (s:={ s with toks:=s.toks+1 }) (looks_clsIn I.kIn hc) ?_))))))
 rw [hd',if_neg (by decide)]
 refine wpAny_pure (a:=some d) (wpAny_bind (wpAny_pure (wpAny_bind ?_)))
 refine wpAny_nsSet1 (s:={ s with toks:=s.toks+1 }) hns fun h' hn2 hs2=>?_
 have hw:Within mA (fs.map (·.1)):=fun g hg=>by
  have:=r g
  cases hg2:fs.lookup g with
  | none=>rw [hg2] at this;cases hm:mA g with
   | none=>exact absurd hm hg
   | some u=>rw [hm] at this;exact this.elim
  | some v=>exact List.mem_map.mpr ⟨(g,v),PySem.mem_of_lookup hg2,rfl⟩
 obtain ⟨oD,esD,epD,hoD,hdD,hcD⟩:=hn2.count (PySem.Within.cons f u hw)
 refine wpAny_bind (wpAny_lookBehind hoD (by rw [hdD];exact pastItsLine_dict (yAK hcD (by rw [yAG,yAC,sizeLine_eq];omega))) ?_)
 refine wpAny_pure (h _ ?_)
 exact I.write (x:=d) (e:=d) (o:=xdM d (putF f y fs)) (t':=s.toks+1+1) (h':=h') (by rw [ed];exact True.intro) (.inl rfl) (fun b ob hb q=>(hs2.2 b hb).trans q) ⟨oD,hoD⟩ (xdM_ok hn2 fun g=>by
  rw [ZAW]
  by_cases q:g=f
  .rw [if_pos q,if_pos q];exact ry
  .rw [if_neg q,if_neg q];exact r g)
end
noncomputable def ZFK (K:Frag) (ta tv:TE) (f:Str):TS:=fun D σ H=>tv σ H fun y H1=>ta σ H1 fun x H2=>∃ a C dd,x=.ref a /\ H2 a=some (excM a (.ref C) dd) /\ XCls K C /\ NoAttr K C f /\
 ((dd=none /\ ∀ d,H2 d=none->d≠a->D.nx σ (upd (upd H2 d (xdM d [(f,y)])) a (excM a (.ref C) (some d))))∨∃ d fs,dd=some d /\ d≠a /\ H2 d=some (xdM d fs) /\ fs.length < 1000 /\ D.nx σ (upd H2 d (xdM d (putF f y fs))))
theorem ps_xfld {X:Cx} {o value:Expr} {f:Str} {pos pos':Pos} {ta tv:TE} (ha:PE X o ta) (hv:PE X value tv) (hs:swapsWith value (some (.Attribute o f pos')) pos.line X.env=pure false):PS X (.Assign [.Attribute o f pos'] value pos) (ZFK X.K ta tv f):=by
 intro pins s σ H D I h
 refine plainObj_wpAny_Assign_Attribute (thn (hv pins s σ H _ I h) fun u s1 ⟨y,H1,I1,ry,q⟩=>thn (ha pins s1 σ H1 _ I1 q) fun ov s2 zz=>?_) hs
 obtain ⟨x,H2,I2,rx,a,C,dd,ex,ea,c,n,q2⟩:=zz
 subst ex
 obtain rfl:ov=Value.ref a:=rx
 rcases q2 with ⟨rfl,q2⟩ | ⟨d,fs,rfl,hda,ed,hl,q2⟩
 .exact excset0 I2 ea c n ry fun d s3 hd hda I3=>⟨σ,_,I3,q2 d hd hda⟩
 .exact excset1 I2 ea hda ed hl c n ry fun s3 I3=>⟨σ,_,I3,q2⟩
structure XMk (K:Frag) (C f:Addr):Prop where
 ii:ZCx K C f bmV "ValueError.__new__"=true
 fn:isFn K (.ref f)=true
 kp:keepIn K (.ref C)=true
section
variable {X:Cx} {CX:CXT} {k:Nat} {f C:Addr} {fd:FuncData} {ps:List Str} {sp:Sp} {x:Str} {p pos:Pos} {e:Expr} {es:List Expr} {t:TA} {E:XK}
theorem run_xmake {pins:List (Addr×Obj)} {σ:St} {H:Hp} {s:Shared} {Q:VK} {R:Value->Shared->Prop} {us:List Value} {vs:List V} (M:XMk X.K C f) (F:FnOk X.prog X.w X.K X.mg X.base CX k f fd ps sp) (hr:Room (k+1) X.A) (hb:Binds X.K fd ps [])
  (hx:ZBH CX X E) (I:Inv X pins σ H s) (r:Vals vs us) (hz:us.length <= sizeLine)
  (h:∀ x,H x=none->sp (.ref x::vs) (upd H x (excM x (.ref C) none)) (fun v H2=>v=.non /\ Q (.ref x) H2) E)
  (fin:∀ a H2 s2,s.heap.get? a=none->H a=none->Un (frs X.stack) [] H H2 s.heap s2.heap->HOk X.prog X.w H2 s2.heap->s2.os=s.os->AllBare s2.gens->Q (.ref a) H2->R (.ref a) s2) :
  wpAny (model X.prog X.w) X.A (call (.ref C) us) R X.xe s:=by
 obtain ⟨bm,N',nm,qn,bs,hdct,sn,sub,ab,col,d0,k0,k1,k2,k3,k5,mN,hC,hN,hni,T,hKC⟩:=ZDp I.kIn M.ii
 obtain ⟨oI,hoI,hcI⟩:∃ oI,s.heap.get? f=some oI /\ oI.cls=.type "function":=by
  have ht:=beq_iff_eq.mp M.fn
  unfold typeIn at ht
  obtain ⟨o,h1,h2⟩:=Option.map_eq_some_iff.mp ht
  exact ⟨o,I.kIn _ _ h1,h2⟩
 obtain ⟨h0,g,d,tk,os⟩:=s
 refine call_exc_initU (hrest:=hz) PySem.F.excBase_ValueError PySem.F.excBase_ValueError.hasB PySem.F.excBase_ValueError T hC hN hni hoI hcI fun h' a hm ha=>?_
 obtain ⟨t0,ht0,_⟩:=hm.there
 have hge:h0.objs.size <= a:=by rw [ha];exact yAZ _
 have hfr:H a=none:=I.hok.fresh hge
 have I2:=I.laid (a:=a) (o:=excM a (.ref C) none) (h':=h') (t':=tk) hm.keeps hge (ZEO ht0 rfl rfl rfl rfl rfl)
 have hq:=h a hfr
 have r2:Vals (V.ref a::vs) (Value.ref a::us):=.cons rfl r
 have hl:(Value.ref a::us).length=ps.length:=by rw [<- r2.length];exact F.len _ _ _ _ hq
 have hb2:=hb ⟨h',g,d,tk,os⟩ (Value.ref a::us) I2.kIn (by rw [yAQ];exact hl)
 rw [yAQ] at hb2
 refine wpAny_call (codeAny_mono (F.run _ X.stack ⟨h',g,d,tk,os⟩ _ ⟨Value.ref a::us,[]⟩ (Value.ref a::us) _ _ E (hr.make C us []) (I2.env0.make C us []) hb2 r2 hq) fun r s' hq'=>?_)
 cases r with
 | error e=>exact hx pins σ _ _ e s' I2 hq'
 | ok fl=>
  cases fl with
  | ret u=>
   obtain ⟨v,H2,ho,hba,un,hok,rv,ev,q3⟩:=hq'
   subst ev
   exact ⟨rv,fin a H2 s' hm.new hfr (Un.trans (Un.laid hm.keeps hge hfr) un) hok ho hba q3⟩
  | next=>exact False.elim hq'
  | brk=>exact False.elim hq'
  | cont=>exact False.elim hq'
noncomputable def tXMk (C:Addr) (sp:Sp) (E:XK) (t:TA):TE:=fun σ H Q=>t σ H fun vs H1=>vs.length <= 1000 /\ ∀ x,H1 x=none->sp (.ref x::vs) (upd H1 x (excM x (.ref C) none)) (fun v H2=>v=.non /\ Q (.ref x) H2) E
end
noncomputable def forget (H:Hp) (a:Addr):Hp:=fun b=>if b=a then none else H b
theorem ZBG {H:Hp} {a b:Addr} (h:b≠a):forget H a b=H b:=if_neg h
theorem forget_same {H:Hp} {a:Addr}:forget H a a=none:=if_pos rfl
theorem Un.forget {fs:List Addr} {H H2:Hp} {h h2:Heap} {a:Addr} (u:Un fs [] H H2 h h2) (hn:h.get? a=none) (hH:H a=none):Un fs [] H (L2.forget H2 a) h h2 where
 keep:=u.keep
 slot:=u.slot
 free:=fun b o q n hx=>by
  rw [ZBG (fun z=>by rw [z,hn] at q;cases q)]
  exact u.free b o q n hx
 there:=u.there
 tups:=fun b xs q=>by rw [ZBG (ZAC q hH)];exact u.tups b xs q
 frzs:=fun b o xs q=>by rw [ZBG (ZAC q hH)];exact u.frzs b o xs q
 tbls:=fun b ps q=>by
  obtain ⟨m,hm⟩:=u.tbls b ps q
  exact ⟨m,by rw [ZBG (ZAC q hH)];exact hm⟩
theorem HOk.forget {P:Program} {w:World} {H:Hp} {h:Heap} {a:Addr} {φ:Heap->Prop} (x:HOk P w H h) (ha:H a=some (.ext φ)):HOk P w (L2.forget H a) h:=fun b o q=>by
 by_cases z:b=a
 .rw [z,forget_same] at q;cases q
 .rw [ZBG z] at q
  refine (x b o q).stay (fun _ _ _ y=>y) (fun c y=>?_) fun c xs y=>?_
  .rw [ZBG (fun z=>by rw [z,ha] at y;cases y)];exact y
  .rw [ZBG (fun z=>by rw [z,ha] at y;cases y)];exact y
noncomputable def ZDS (E:XK) (C:Addr) (sp:Sp) (t:TA):TS:=fun _ σ H=>t σ H fun vs H1=>vs.length <= 1000 /\ ∀ x,H1 x=none->sp (.ref x::vs) (upd H1 x (excM x (.ref C) none)) (fun v H2=>v=.non /\ ∃ dd,H2 x=some (excM x (.ref C) dd) /\ E (.ref C) dd (forget H2 x)) E0
section
variable {P:Program} {w:World} {K:W.Frag} {mg:Str->Option Value} {base:Heap} {N:List Str} {qual:Str} {scope:Scope} {f:Addr} {cd:Value} {A:Around} {outer:List Env} {s:Shared} {H:Hp} {E:XK}
variable {CX:CXT} {k:Nat} {fI C:Addr} {fd:FuncData} {ps:List Str} {sp:Sp} {x:Str} {np cpos pos:Pos} {e:Expr} {es:List Expr} {t:TA}
theorem ps_raiseX (M:XMk K C fI) (F:FnOk P w K mg base CX k fI fd ps sp) (hr:Room (k+1) (cxOf (CXE P w) P w K mg base N qual scope f cd A outer s H E).A) (hg:Gl (cxOf (CXE P w) P w K mg base N qual scope f cd A outer s H E) x) (hm:mg x=some (.ref C)) (hb:Binds K fd ps []) (hx:ZBH CX (cxOf (CXE P w) P w K mg base N qual scope f cd A outer s H E) E0)
  (ha:PA (cxOf (CXE P w) P w K mg base N qual scope f cd A outer s H E) (e::es) t) (hdb:(x == ("__debug__":Str))=false:=by decide) (he:starEach (e::es) (cxOf (CXE P w) P w K mg base N qual scope f cd A outer s H E).env=(false,eval e (cxOf (CXE P w) P w K mg base N qual scope f cd A outer s H E).env)::starEach es (cxOf (CXE P w) P w K mg base N qual scope f cd A outer s H E).env:=by rfl) (hpl:(backTo cpos (starEach es (cxOf (CXE P w) P w K mg base N qual scope f cd A outer s H E).env)).any (·.1)=false:=by rfl) :
  PS (cxOf (CXE P w) P w K mg base N qual scope f cd A outer s H E) (.Raise (some (.Call (.Name x np) (e::es) [] cpos)) none pos) (ZDS E C sp t):=by
 intro pins s1 σ H1 D I h
 obtain ⟨bm,N',nm,qn,bs,hdct,sn,sub,ab,col,d0,k0,k1,k2,k3,k5,mN,hC,hN,hni,T,hKC⟩:=ZDp I.kIn M.ii
 rw [arm_exec_Raise]
 simp only [evalOpt,Option.map]
 refine wpAny_bind (wpAny_standAt (raiseStmt_madeD (C:=C) (nm:=nm) (q:=qn) (N:=N') (bs:=bs) (bm:=bm) (hdct:=hdct) (sn:=sn) (sub:=sub) (ab:=ab) (col:=col) (dd:=d0) (k0:=k0) (k1:=k1) (k2:=k2) (k3:=k3) (k5:=k5) (newId:="ValueError.__new__") (T.hasType PySem.F.excBase_ValueError.hasBase) (I.ok.hd rfl) ?_))
 refine wpAny_bind (wpAny_Call_Name_kw (ZB3 I hg hm ?_ hdb))
 refine PySem.W.callWith_K (h₀:=base) I.ok.mod.kin M.kp (thn (ha cpos pins s1 σ H1 _ I h) fun us s2 ⟨vs,H2,I2,r,hl,q⟩=>⟨I2.kIn,?_⟩) he hpl
 refine run_xmake (us:=us) (Q:=fun v H3=>match v with | .ref x=>∃ dd,H3 x=some (excM x (.ref C) dd) /\ E (.ref C) dd (forget H3 x) | _=>False) M F hr hb hx I2 r (by rw [<- r.length,sizeLine_eq];omega) q fun a H3 s3 hn hH un hok ho hba q2=>?_
 obtain ⟨dd,hxM,hE⟩:=q2
 obtain ⟨o,vs',a0,z1,z2,z3,z4,z5,z6⟩:=ZCi hok hxM
 have I3:=I2.call' (s':=s3) ho un hok hba fun b z=>nomatch z
 refine wpAny_bind (wpAny_standAt (wpAny_pure ?_))
 refine ⟨a,o,vs',rfl,I3.kIn _ _ hKC,z1,z2,z4,z5,?_⟩
 exact raisedD (s2:=s3) I2 (un.forget hn hH) (hok.forget hxM) ho hba hn forget_same z1 z2 z3 z4 z5 z6 hE
end
section
variable {X:Cx}
end
theorem ZBv {us ds:List Value} {ps:List Str} {n:Nat} (h:(us++ds).length=ps.length) (e:n+ds.length=ps.length):us.length=n:=by
 rw [yAB] at h;omega
noncomputable def Fr (S:List Addr) (H H':Hp):Prop:=∀ b o,b∉S->H b=some o->H' b=some o
theorem Fr.refl {S:List Addr} {H:Hp}:Fr S H H:=fun _ _ _ h=>h
theorem Fr.trans {S:List Addr} {H H' H'':Hp} (e:Fr S H H') (f:Fr S H' H''):Fr S H H'':=fun b o n h=>f b o n (e b o n h)
theorem Same.fr {S:List Addr} {H H':Hp} (e:Same H H'):Fr S H H':=fun b o _ h=>e b o h
theorem Fr.upd {S:List Addr} {H:Hp} {l:Addr} {o:HO} (h:l∈S):Fr S H (upd H l o):=fun b o' n e=>by
 have z:b≠l:=fun z=>n (by rw [z];exact h)
 rw [ZAI z];exact e
end L2
namespace PySem
namespace F
end F
section
variable {prog:Program} {w:World} {A:Around} {s:Shared} {R:Result->Shared->Prop}
variable {I:Addr} {fp wr:List Addr} {G:Array GenState->Array GenState->Prop} {n:Nat} {P:Nat->Value->Prop} {St:Nat->Shared->Prop}
end
section
variable {prog:Program} {w:World} {A:Around} {E:Value->Shared->Prop} {s:Shared}
variable {I:Addr} {fp wr:List Addr} {G:Array GenState->Array GenState->Prop} {n:Nat} {P:Nat->Value->Prop} {St:Nat->Shared->Prop}
end
end PySem
namespace L2
open PySem PySem.Spec PyProof.Rows
noncomputable def tRevL (K:W.Frag) (t:TA):TE:=fun σ H Q=>t σ H fun vs H1=>∃ (l:Addr) (ys:List V),vs=[.ref l] /\ SqL K H1 l ys /\ ∀ r,H1 r=none->Q (.ref r) (upd H1 r (.lst ys.reverse))
section
variable {X:Cx} {e:Expr} {ta:TA} {p p2 pos pos2:Pos}
end
theorem ZCK {K:W.Frag} {H:Hp} {x y:V} {d:PyData} {Q:VK} (hx:Dp K H d x) (hy:Dp K H d y) (hc:d.canLay0=true) (hd:d.depth <= 64) (q:Q (.bl false) H):rNeD K x y H Q :=
 ⟨d,d,hx,hy,hc,hc,hd,by rw [PySem.SeqAt.eqv_refl d hc];exact q⟩
noncomputable def compR2 (g:TG) (tt:TT) (te:TE) (σ0:St) (Q:VK) (x y:V) (H1:Hp):Prop:=∃ i j:Int,[x,y]=[.int i,.int j] /\ (-(2 ^ 62) <= i /\ i < 2 ^ 62 /\ -(2 ^ 62) <= j /\ j < 2 ^ 62) /\ compR i g tt te σ0 Q (j-i).toNat H1
theorem tCompR2_eq {k:Nat} {js:List Nat} {t u:TE} {g:TG} {tt:TT} {te:TE} {σ:St} {H:Hp} {Q:VK}:ZDv k js (ZFO (ZBx t (ZBx u tNil))) g tt te σ H Q=t σ H (fun x H1=>u σ H1 fun y H2=>compR2 g tt te (up k js σ) Q x y H2):=rfl
section
variable {X:Cx}
end
noncomputable def Itz (K:W.Frag) (a b:Addr):It :=
 ⟨fun i H=>∃ xs x ys y,SqL K H a xs /\ xs[i]?=some x /\ SqL K H b ys /\ ys[i]?=some y,fun i H v H'=>∃ p x y,H p=none /\ (∀ xs,SqL K H a xs->xs[i]?=some x) /\ (∀ ys,SqL K H b ys->ys[i]?=some y) /\ H'=upd H p (.tup [x,y]) /\ v=.ref p,fun i H=>∃ xs ys,SqL K H a xs /\ SqL K H b ys /\ (xs.length <= i∨ys.length <= i)⟩
section
variable {X:Cx}
noncomputable def iZip (K:W.Frag) (ta:TA):TI:=fun σ H R=>ta σ H fun vs H1=>∃ a b,vs=[.ref a,.ref b] /\ (∃ xs,SqL K H1 a xs) /\ (∃ xs,SqL K H1 b xs) /\ R (Itz K a b) H1
end
section
variable {K:W.Frag} {a b:Addr} {xs ys:List V} {g:TG} {tb:TS} {D:Ends} {σ:St} {H:Hp}
noncomputable def forZ (K:W.Frag) (g:TG) (tb:TS) (D:Ends) (σ:St) (x y:V) (H1:Hp):Prop:=∃ a b,[x,y]=[.ref a,.ref b] /\ (∃ xs,SqL K H1 a xs) /\ (∃ xs,SqL K H1 b xs) /\ ∃ W:Nat->Nat->St->Hp->Prop,(∃ m,W 0 m σ H1) /\ ∀ i m σ H,W i m σ H ->
 ((Itz K a b).stop i H /\ D.nx σ H)∨((Itz K a b).go i H /\ ∃ N:St->Hp->Prop,(∀ σ' H',N σ' H'->∃ m',m' < m /\ W (i+1) m' σ' H') /\ ∀ x H',(Itz K a b).yld i H x H'->g x σ H' fun σ2 H2=>tb { D with nx:=N,ct:=N,bk:=D.nx } σ2 H2)
theorem tForZ_eq {t u:TE}:tFor (iZip K (ZBx t (ZBx u tNil))) g tb D σ H=t σ H (fun x H1=>u σ H1 fun y H2=>forZ K g tb D σ x y H2):=rfl
end
section
open PySem.SeqAt
open PySem.AutoSeq1 (wpAny_loadPart')
open PySem.MeetsSeq PySem.MeetsSeq2 PySem.MeetsSeq3 HT
end
section
variable {prog:Program} {w:World} {A:Around} {E:Value->Shared->Prop} {s:Shared}
end
section
variable {X:Cx}
end
section
variable {κ:Type} [DecidableEq κ]
noncomputable def valV (kvs:List (κ×V)) (k:κ):Option V:=(kvs.find? fun kv=>decide (kv.1=k)).map (·.2)
noncomputable def putK (kvs:List (κ×V)) (k:κ) (v:V):List (κ×V) :=
 if (kvs.any fun kv=>decide (kv.1=k))=true then kvs.map (fun kv=>if kv.1=k then (kv.1,v) else kv) else kvs++[(k,v)]
end
section
variable {P:Program} {w:World} {H:Hp} {h:Heap} {a:Addr}
end
noncomputable def DGet (H:Hp) (a:Addr) (y:V) (r:Option V):Prop :=
 (∃ kvs k,Rd H a (.dK kvs) /\ y=kV k /\ r=valV kvs k)∨∃ kvs k b,Rd H a (.dT kvs) /\ y=.ref b /\ H b=some (.tup (k.map kV)) /\ r=valV kvs k
noncomputable def DPut (H:Hp) (a:Addr) (y v:V) (H':Hp):Prop :=
 (∃ kvs k,H a=some (.dK kvs) /\ y=kV k /\ kvs.length < sizeLine /\ H'=upd H a (.dK (putK kvs k v))) ∨
 ∃ kvs k b,H a=some (.dT kvs) /\ y=.ref b /\ H b=some (.tup (k.map kV)) /\ kvs.length < sizeLine /\ H'=upd H a (.dT (putK kvs k v))
section
variable {X:Cx} {pins:List (Addr×Obj)} {σ:St} {H:Hp} {s:Shared} {a:Addr} {y v:V} {u r:Value} {o:Option V} {A:Around} {E:Value->Shared->Prop}
end
section
variable {X:Cx} {pins:List (Addr×Obj)} {σ:St} {H:Hp} {s:Shared} {a:Addr} {kvs:List (Key×V)} {k:Key} {u:Value} {A:Around} {E:Value->Shared->Prop}
end
noncomputable def tDGet (td ty:TE):TE:=fun σ H Q=>td σ H fun x H1=>ty σ H1 fun y H2=>∃ a v,x=.ref a /\ DGet H2 a y (some v) /\ Q v H2
noncomputable def tDIn (ty td:TE):TE:=fun σ H Q=>ty σ H fun y H1=>td σ H1 fun x H2=>∃ a o,x=.ref a /\ DGet H2 a y o /\ Q (.bl o.isSome) H2
noncomputable def tDNotIn (ty td:TE):TE:=fun σ H Q=>ty σ H fun y H1=>td σ H1 fun x H2=>∃ a o,x=.ref a /\ DGet H2 a y o /\ Q (.bl (!o.isSome)) H2
noncomputable def sDPut (td ty tv:TE):TS:=fun D σ H=>tv σ H fun v H1=>td σ H1 fun x H2=>ty σ H2 fun y H3=>∃ a H4,x=.ref a /\ DPut H3 a y v H4 /\ D.nx σ H4
section
variable {X:Cx} {o i e value:Expr} {pos pos' tpos:Pos} {td ty tv:TE}
end
noncomputable def tDNewK:TE:=fun _ H Q=>∀ p,H p=none->Q (.ref p) (upd H p (.dK []))
noncomputable def tDNewT:TE:=fun _ H Q=>∀ p,H p=none->Q (.ref p) (upd H p (.dT []))
section
variable {X:Cx} {pos:Pos}
end
theorem call_absI {X:Cx}:ZCN X (.builtin "abs") (fun xs H Q=>∃ i,xs=[.int i] /\ Q (.int (if i < 0 then -i else i)) H):=by
 intro pins s σ H xs us Q I r h
 obtain ⟨i,rfl,q⟩:=h
 obtain ⟨u,rfl,⟨t,rfl⟩⟩:=ZDu r
 exact PyProof.Rows.call_abs_int fun u tk=>⟨.int (if i < 0 then -i else i),H,I.tok _,⟨_,rfl⟩,q⟩
end L2
namespace PySem
open Sem (wp)
namespace F
end F
section
variable {α:Type} {prog:Program} {w:World} {A:Around} {E:Value->Shared->Prop} {s:Shared}
end
section
variable {prog:Program} {w:World} {A:Around} {E:Value->Shared->Prop} {h:Heap} {g:Array GenState} {d:Drawn} {t:Nat} {os:OsState} {a:Addr} {its:Array Value} {n:Nat}
end
end PySem
namespace PySem
namespace F
end F
end PySem
namespace L2
open PySem PySem.Spec PyProof.Rows
section
variable {X:Cx} {pins:List (Addr×Obj)} {σ:St} {H:Hp} {s1:Shared} {A:Around}
end
end L2
namespace PySem
section
variable {prog:Program} {w:World} {A:Around} {E:Value->Shared->Prop} {s:Shared} {zo ti to:Addr} {f0 f1:Value}
end
end PySem
namespace L2
open PySem PySem.Spec PyProof.Rows
section
variable {X:Cx}
end
section
variable {K:W.Frag} {a b:Addr} {xs ys:List V} {g:TG} {σ:St} {H:Hp} {tt:TT} {te:TE} {Q:VK} {σ0:St}
noncomputable def compZ (K:W.Frag) (g:TG) (tt:TT) (te:TE) (σ0:St) (Q:VK) (x y:V) (H1:Hp):Prop:=∃ a b,[x,y]=[.ref a,.ref b] /\ (∃ xs,SqL K H1 a xs) /\ (∃ xs,SqL K H1 b xs) /\ ∃ W:Nat->Nat->List V->St->Hp->Prop,(∃ m,W 0 m [] σ0 H1) /\ ∀ i m zs σ H,W i m zs σ H ->
 ((Itz K a b).stop i H /\ zs.length <= sizeLine /\ ∀ p,H p=none->Q (.ref p) (upd H p (.lst zs))) ∨
 ((Itz K a b).go i H /\ zs.length < sizeLine /\ ∀ x H',(Itz K a b).yld i H x H'->g x σ H' fun σ2 H2=>tt σ2 H2 fun b H3=>if b=true then te σ2 H3 fun y H4=>∃ m',m' < m /\ W (i+1) m' (zs++[y]) σ2 H4 else ∃ m',m' < m /\ W (i+1) m' zs σ2 H3)
theorem tCompZ_eq {k:Nat} {js:List Nat} {t u:TE}:ZDv k js (iZip K (ZBx t (ZBx u tNil))) g tt te σ H Q=t σ H (fun x H1=>u σ H1 fun y H2=>compZ K g tt te (up k js σ) Q x y H2):=rfl
end
section
variable {X:Cx}
end
section
variable {X:Cx}
end
section
variable {X:Cx}
end
open PySem PySem.Spec PySem.W PySem.Calls PyProof.Rows Builtin.Getset_descriptor Builtin.ObjectAttr
structure XKl (P:Program) (w:World) (K:W.Frag) (mg:Str->Option Value) (base:Heap) (CX:CXT) (x:Str) (C:Addr) (k:Nat) (ps:List Str) (sp:Sp):Prop where
 mgC:mg x=some (.ref C)
 ex:∃ f fd,FnOk P w K mg base CX k f fd ps sp /\ Binds K fd ps [] /\ XMk K C f
structure XBase (K:W.Frag) (C:Addr):Prop where
 gs:specialIn K (.ref C) "__getattribute__"=some (some (.builtin "type.__getattribute__"))
 rd:readsIn K C (.type "type")=true
 fc:findCls K (.ref C) (.type "type") "__init__"=some (.val (.builtin "ValueError.__init__"))
section
variable {X:Cx} {CX:CXT} {k:Nat} {ps:List Str} {sp:Sp} {E:XK} {x m:Str} {C:Addr} {p np pos apos:Pos} {e o:Expr} {es:List Expr} {ta:TE} {t:TA}
theorem call_verrK:ZCN X (.builtin "ValueError.__init__") (fun xs H Q=>∃ e C dd v,xs=[.ref e,v] /\ H e=some (excM e (.ref C) dd) /\ (∃ fI,ZCx X.K C fI bmV "ValueError.__new__"=true) /\ Q .non H):=by
 intro pins s σ H xs us Q I r h
 obtain ⟨e,C,dd,v,h1,h2,⟨fI,h3⟩,q⟩:=h
 exact call_verr fI pins s σ H xs us Q I r ⟨e,C,dd,v,h1,h2,h3,q⟩
theorem pe_clsV {pl:Sem Bool} (B:XBase X.K C) (hm:X.mg x=some (.ref C)) (hg:Gl X x) (ha:PA X (e::es) t) (hdb:(x == ("__debug__":Str))=false:=by decide)
  (he:starEach (e::es) X.env=(false,eval e X.env)::starEach es X.env:=by rfl) (hpl:(backTo pos (starEach es X.env)).any (·.1)=false:=by rfl)
  (ht:eval (.Call (.Attribute (.Name x np) "__init__" apos) (e::es) [] pos) X.env=(do
   let ov <- eval (.Name x np) X.env
   standAt apos.atName
   let (f,first) <- holding [ov] (getMethod ov "__init__" pl)
   callWith pos f first (backTo pos (starEach (e::es) X.env)) (backToKw pos (keywordEach [] X.env))):=by rfl) :
  PE X (.Call (.Attribute (.Name x np) "__init__" apos) (e::es) [] pos) (tCB (fun xs H Q=>∃ e C dd v,xs=[.ref e,v] /\ H e=some (excM e (.ref C) dd) /\ (∃ fI,ZCx X.K C fI bmV "ValueError.__new__"=true) /\ Q .non H) t) :=
 pe_clsB (pl:=pl) call_verrK hg hm B.gs B.rd B.fc (by decide +kernel) ha hdb he hpl ht
end
section
variable {P:Program} {w:World} {K:W.Frag} {mg:Str->Option Value} {base:Heap} {N:List Str} {qual:Str} {scope:Scope} {f:Addr} {cd:Value} {A:Around} {outer:List Env} {s:Shared} {H:Hp} {E:XK}
variable {CX:CXT} {k:Nat} {C:Addr} {ps:List Str} {sp:Sp} {x:Str} {np cpos pos:Pos} {e:Expr} {es:List Expr} {t:TA}
theorem ps_raiseK (F:XKl P w K mg base CX x C k ps sp) (hr:Room (k+1) (cxOf (CXE P w) P w K mg base N qual scope f cd A outer s H E).A) (hg:Gl (cxOf (CXE P w) P w K mg base N qual scope f cd A outer s H E) x) (hx:ZBH CX (cxOf (CXE P w) P w K mg base N qual scope f cd A outer s H E) E0)
  (ha:PA (cxOf (CXE P w) P w K mg base N qual scope f cd A outer s H E) (e::es) t) (hdb:(x == ("__debug__":Str))=false:=by decide) (he:starEach (e::es) (cxOf (CXE P w) P w K mg base N qual scope f cd A outer s H E).env=(false,eval e (cxOf (CXE P w) P w K mg base N qual scope f cd A outer s H E).env)::starEach es (cxOf (CXE P w) P w K mg base N qual scope f cd A outer s H E).env:=by rfl) (hpl:(backTo cpos (starEach es (cxOf (CXE P w) P w K mg base N qual scope f cd A outer s H E).env)).any (·.1)=false:=by rfl) :
  PS (cxOf (CXE P w) P w K mg base N qual scope f cd A outer s H E) (.Raise (some (.Call (.Name x np) (e::es) [] cpos)) none pos) (ZDS E C sp t):=by
 obtain ⟨fI,fd,h1,h2,h3⟩:=F.ex
 exact ps_raiseX h3 h1 hr hg F.mgC h2 hx ha hdb he hpl
end
noncomputable def ZEi (C:Addr) (m:Str) (sp:Sp) (E:St->XK) (ta:TE) (t:TA):TE:=fun σ H Q=>ta σ H fun x H1=>∃ a dx fs,x=.ref a /\ H1 a=some (.ins C dx fs) /\ fs.lookup m=none /\ t σ H1 fun vs H2=>sp (x::vs) H2 Q (E σ)
section
variable {X:Cx} {CX:CXT} {k:Nat} {ps:List Str} {sp:Sp} {E:St->XK} {x m:Str} {C:Addr} {p pos apos:Pos} {e o:Expr} {es:List Expr} {ta:TE} {t:TA}
end
section
variable {P:Program} {w:World} {K:W.Frag} {mg:Str->Option Value} {base:Heap} {N ps:List Str} {qual:Str} {scope:Scope} {f:Addr} {cd:Value} {A:Around} {outer:List Env} {s s1:Shared} {H:Hp} {E:XK} {us:List Value} {vs:List V}
end
section
variable {X:Cx} {k:Nat} {ps:List Str} {sp:Sp} {x:Str} {p pos:Pos} {e:Expr} {es:List Expr} {t:TA}
end
noncomputable def ZEQ (K:W.Frag) (ta:TE) (f:Str):TE:=fun σ H Q=>ta σ H fun x H1=>∃ a C d fs v,x=.ref a /\ (H1 a=some (excO a (.ref C) (some d))∨H1 a=some (excM a (.ref C) (some d))) /\ H1 d=some (xdM d fs) /\ ExcC K C /\ PySem.W.hasDictIn K C=true /\ W.findIn K (.ref C) f=some none /\ fs.lookup f=some v /\ Q v H1
theorem pe_xfldM {X:Cx} {e:Expr} {f:Str} {pos:Pos} {ta:TE} (he:PE X e ta) (hb:attributeBase e f X.env (eval e X.env)=eval e X.env):PE X (.Attribute e f pos) (ZEQ X.K ta f):=by
 intro pins s σ H Q I h
 refine attr_of hb (thn (he pins s σ H _ I h) fun u s1 zz=>?_)
 obtain ⟨x,H1,I1,rx,a,C,d,fs,v,ex,ea,ed,F,hd,hn,l,q⟩:=zz
 subst ex
 obtain rfl:u=Value.ref a:=rx
 obtain ⟨o,z1,z2,z3,vs,z4⟩:∃ o,s1.heap.get? a=some o /\ o.cls=.ref C /\ o.dict=some d /\ ∃ vs,o.data=.fields vs:=by
  rcases ea with ea | ea
  .obtain ⟨⟨o,z1,z2,z3,vs,z4⟩,_,_⟩:=(show ObjOk X.prog X.w H1 s1.heap a (excO a (.ref C) (some d)) from I1.hok a _ ea)
   exact ⟨o,z1,z2,z3,vs,z4⟩
  .obtain ⟨o,vs,a0,z1,z2,z3,z4,_⟩:=ZCi I1.hok ea
   exact ⟨o,z1,z2,z3,vs,z4⟩
 obtain ⟨⟨mA,hns,r⟩,_,_⟩:=(show ObjOk X.prog X.w H1 s1.heap d (xdM d fs) from I1.hok d _ ed)
 obtain ⟨od,hod,hl⟩:=ZC8 hns
 obtain ⟨u',hu,ru⟩:=RelO.some_of (v:=v) (o:=mA f) (by rw [<- l];exact r f)
 have J:PySem.W.InstAt s1.heap a o C (some od):=⟨z1,z2,by unfold notCls;rw [z4],by rw [z3];exact hod⟩
 obtain ⟨hh,g,dd,t,os⟩:=s1
 exact exc_value I1.kIn F J (PySem.W.findObj_own hd hn rfl (by rw [hl,hu])) (handed_of ru) ⟨v,H1,I1.tok _,ru,q⟩
theorem pe_xfldMK {X:Cx} {e:Expr} {f:Str} {pos:Pos} {ta:TE} (K:W.Frag) (he:PE X e ta) (hb:attributeBase e f X.env (eval e X.env)=eval e X.env) (h:X.K=K:=by rfl):PE X (.Attribute e f pos) (ZEQ K ta f):=h ▸ pe_xfldM he hb
end L2
namespace PySem
section
variable {M:Model} {A:Around} {E:Value->Shared->Prop} {s:Shared}
end
end PySem
namespace L2
open PySem PySem.Spec PySem.W PySem.Calls PyProof.Rows
theorem ObjOk.ex {P:Program} {w:World} {H:Hp} {h:Heap} {a:Addr} {o:HO} (x:ObjOk P w H h a o):∃ ob,h.get? a=some ob:=by
 cases o with
 | lst xs=>obtain ⟨_,_,_,_,e⟩:=x;exact ⟨_,e⟩
 | tup xs=>obtain ⟨_,_,_,ob,e,_⟩:=x;exact ⟨_,e⟩
 | dK kvs=>obtain ⟨_,_,_,_,ob,es,ep,e,_⟩:=x;exact ⟨_,e⟩
 | dT kvs=>obtain ⟨_,_,_,_,ob,es,ep,e,_⟩:=x;exact ⟨_,e⟩
 | set S n=>obtain ⟨ob,es,ep,t,e,_⟩:=x;exact ⟨_,e⟩
 | ins C dx fs=>obtain ⟨_,_,_,e,_⟩:=x;exact ⟨_,e⟩
 | own y=>obtain ⟨_,e⟩:=x;exact ⟨_,e⟩
 | xd fs=>obtain ⟨_,⟨_,_,_,e,_⟩,_⟩:=x;exact ⟨_,e⟩
 | rng lo hi=>obtain ⟨_,_,_,e⟩:=x;exact ⟨_,e⟩
 | frz ob u=>obtain ⟨e,_⟩:=x;exact ⟨_,e⟩
 | tbl ps=>exact ⟨_,(show h.get? a=some _ from x)⟩
 | met f y=>exact ⟨_,(show h.get? a=some _ from x)⟩
 | ext φ=>obtain ⟨_,⟨_,e⟩,_⟩:=x;exact ⟨_,e⟩
noncomputable def XF (X:Cx) (E:XK):Value->Shared->Prop:=fun e s'=>∃ (pins:List (Addr×Obj)) (σ:St) (H1:Hp) (s1:Shared) (ea:Addr) (cls:Value) (dd:Option Addr) (H':Hp) (B:Heap) (a0:Value) (fl:Value),
 e=.ref ea /\ Inv X pins σ H1 s1 /\ s'.os=s1.os /\ AllBare s'.gens /\ Un (frs X.stack) [] H1 H' s1.heap s'.heap /\ HOk X.prog X.w H' s'.heap /\ H' ea=none /\ s1.heap.get? ea=none /\
 (fl=.none∨fl=rawInt X.env.locals) /\ B.StaysIn s'.heap /\ B.get? ea=none /\ s'.heap.FunFrames B X.stack /\ s'.heap.TracedAtD B ea cls (a0,dd) fl /\
 (∀ b o,s'.heap.get? b=some o->b∉frs X.stack->(H' b≠none∨∃ o0,s1.heap.get? b=some o0)->B.get? b=some o) /\ E cls dd H'
section
variable {X:Cx} {E:XK}
theorem ZD0 {P:Program} {w:World} (h1:X.prog=P:=by rfl) (h2:X.w=w:=by rfl):ZBH (CXE P w) (X.wish (XF X E)) E:=by
 subst h1 h2
 intro pins σ H s e s' I hc
 obtain ⟨ea,cls,dd,H',rfl,os,bare,un,hok,⟨B,a0,⟨f1,f2,f3,f4⟩,hout,hnew,hB⟩,hE⟩:=hc
 exact ⟨pins,σ,H,s,ea,cls,dd,H',B,a0,.none,rfl,I.unwish,os,bare,un,hok,hout,hnew,.inl rfl,f1,f2,f3,f4,hB,hE⟩
theorem XF.next {pins:List (Addr×Obj)} {σ:St} {H1 H':Hp} {s1 s':Shared} {h2:Heap} {ea:Addr} {cls:Value} {dd:Option Addr} {B:Heap} {a0 fl:Value} (I:Inv X pins σ H1 s1) (os:s'.os=s1.os) (bare:AllBare s'.gens) (un:Un (frs X.stack) [] H1 H' s1.heap s'.heap) (hok:HOk X.prog X.w H' s'.heap) (hout:H' ea=none) (hnew:s1.heap.get? ea=none)
  (ff:s'.heap.FunFrames B X.stack) (hB:∀ b o,s'.heap.get? b=some o->b∉frs X.stack->(H' b≠none∨∃ o0,s1.heap.get? b=some o0)->B.get? b=some o) (hE:E cls dd H') (hfl:fl=.none∨fl=rawInt X.env.locals)
  (up:s'.heap.UpToSlots h2) (k1:B.StaysIn h2) (k2:B.get? ea=none) (k3:h2.FunFrames B X.stack) (k4:h2.TracedAtD B ea cls (a0,dd) fl):XF X E (.ref ea) { s' with heap:=h2 }:=by
 refine ⟨pins,σ,H1,s1,ea,cls,dd,H',B,a0,fl,rfl,I,os,bare,un.fly hB k1 up ff,hok.fly hB k1 (I.stkFree2 un),hout,hnew,hfl,k1,k2,k3,k4,fun b o ho nb hor=>?_,hE⟩
 have:∃ o1,s'.heap.get? b=some o1:=by
  rcases hor with y | ⟨o0,y⟩
  .obtain ⟨u,hu⟩:=Option.ne_none_iff_exists'.mp y
   exact (hok b u hu).ex
  .exact un.there b o0 y (fun z=>nomatch z)
 obtain ⟨o1,h1⟩:=this
 have h3:=hB b o1 h1 nb hor
 have h4:=k1 b o1 h3
 rw [ho] at h4
 cases h4
 exact h3
theorem ZEF (hstk:X.stack=X.env::X.outer /\ X.env.frame=some X.env.locals):PassesOwn (model X.prog X.w) X.A X.env (XF X E):=by
 intro e s' hx
 obtain ⟨pins,σ,H1,s1,ea,cls,dd,H',B,a0,fl,rfl,I,os,bare,un,hok,hout,hnew,hfl,f1,f2,f3,f4,hB,hE⟩:=hx
 have af:X.A.frames=some (X.env::X.outer):=by rw [<- hstk.1];exact I.ok.frames
 have back:∀ h2,s'.heap.UpToSlots h2->B.StaysIn h2->h2.FunFrames B X.stack->h2.TracedAtD B ea cls (a0,dd) (rawInt X.env.locals)->cameBackBy (model X.prog X.w) X.A X.env (XF X E) (.ref ea) { s' with heap:=h2 }:=fun h2 up k1 k3 k4=>by
  obtain ⟨⟨oe,vs,T,oT,ts,he,hcls,hd,h1,hnT,hTe,hT,hdT,h3⟩,_⟩:=id k4
  show wpAny _ _ (do
   if (<- field (.ref ea) 1) == .none then unsupported "frame.own-activation:exception-without-traceback"
   setFlight (.ref ea) X.env.frame) _ _ _
  refine wpAny_bind (wpAny_field he hd h1 ?_)
  rw [if_neg (show ¬ ((Value.ref T == Value.none)=true) from by simp),hstk.2]
  refine wpAny_setFlight_someD k1 k3 k4 fun hh m1 m2 m3 m4=>?_
  have up2:s'.heap.UpToSlots hh:=up.trans fun b o hb hn=>⟨o.slots,m4 b o hb hn⟩
  have:=XF.next (s':=s') (h2:=hh) I os bare un hok hout hnew f3 hB hE (.inr rfl) up2 m1 f2 m2 m3
  exact this
 rcases hfl with rfl | rfl
 .have ff:Heap.FlyingD B (X.env::X.outer) ea cls (a0,dd) s'.heap:=⟨f1,f2,by rw [<- hstk.1];exact f3,f4⟩
  refine wpAny_looks_onD af hstk.2 ff fun h2 hH up=>?_
  obtain ⟨k1,_,k3,k4⟩:=hH
  exact back h2 up k1 (by rw [hstk.1];exact k3) k4
 .refine wpAny_noteFrame_againD hstk.2 f4 ?_
  exact back s'.heap (fun b o hb hn=>⟨o.slots,hb⟩) f1 f3 f4
end
section
variable {P:Program} {w:World} {K:W.Frag} {mg:Str->Option Value} {base:Heap} {N:List Str} {qual:Str} {scope:Scope} {f:Addr} {cd:Value} {A:Around} {outer:List Env} {s:Shared} {H:Hp} {E:XK}
theorem XF.xe {e:Value} {s':Shared} (hx:XF (cxOf (CXE P w) P w K mg base N qual scope f cd A outer s H E) E e s'):(cxOf (CXE P w) P w K mg base N qual scope f cd A outer s H E).xe e s':=by
 obtain ⟨pins,σ,H1,s1,ea,cls,dd,H',B,a0,fl,rfl,I,os,bare,un,hok,hout,hnew,hfl,f1,f2,f3,f4,hB,hE⟩:=hx
 rcases hfl with rfl | rfl
 .exact wpAny_leaves_onD (base:=B) I.ok.frames rfl ⟨f1,f2,f3,f4⟩ fun h' fl' up=>ZEd I un hok hB f3 up fl' hout hnew os bare hE
 .show wpAny _ _ (leaving _ _) _ _ _
  unfold leaving
  refine wpAny_bind (wpAny_noteFrame_againD rfl f4 ?_)
  refine wpAny_landsD (L:=(cxOf (CXE P w) P w K mg base N qual scope f cd A outer s H E).env.locals) ⟨f1,f2,f3,f4⟩ fun h' hfl up=>?_
  obtain ⟨k1,k2,⟨_,_,k3⟩,k4⟩:=hfl
  exact ZEd I un hok hB f3 up ⟨k1,k2,k3,k4⟩ hout hnew os bare hE
theorem PS.inX {st:Stmt} {t:TS} (h:PS ((cxOf (CXE P w) P w K mg base N qual scope f cd A outer s H E).wish (XF (cxOf (CXE P w) P w K mg base N qual scope f cd A outer s H E) E)) st t):PS (cxOf (CXE P w) P w K mg base N qual scope f cd A outer s H E) st t:=fun pins s1 σ H1 D I hw=>
 wpAny_mono (h pins s1 σ H1 D (I.wish _) hw) (fun _ _ q=>q.unwish) fun _ _ z=>z.xe
end
noncomputable def Ehit0 (K:W.Frag) (HC:Addr) (ts:TS) (D:Ends):St->XK:=fun σ cls dd H'=>exmOne K cls (.ref HC)=some true /\ ts D σ H'
noncomputable def tTry0 (K:W.Frag) (HC:Addr) (tb:(St->XK)->TS) (ts:TS):TS:=fun D σ H=>tb (Ehit0 K HC ts D) D σ H
theorem FunD.okX {P:Program} {w:World} {K:W.Frag} {mg:Str->Option Value} {base:Heap} {x qual:Str} {st:Stmt} {f:Addr} {fd:FuncData} {dv:List Value} {N ps:List Str} {k:Nat} {sp:Sp} (F:FunD K x qual st f fd dv) (S:FnScope N ps (ZAE st)) (len:∀ vs H Q E,sp vs H Q E->vs.length=ps.length)
  (hbody:∀ (cdv:Value) (A:Around) (outer:List Env) (s:Shared) (H:Hp) (vs:List V) (Q:VK) (E:XK),Room k (A.deeper (envOfC qual (ZAE st) s.heap.objs.size f cdv))->sp vs H Q E ->
   ∃ t,PSs (cxOf (CXE P w) P w K mg base N qual (ZAE st) f cdv A outer s H E) (ZAM st) t /\ t { nx:=fun _ H'=>Q .non H',rt:=Q } (start N vs) H):FnOk P w K mg base (CXE P w) (k+1) f fd ps sp:=by
 obtain ⟨oc,od,T,kV,doc,pm,an,cdv,ct,osl,rfl,lk,hcd,_⟩:=F.ex
 exact ZFA lk hcd S len fun A outer s H vs Q E hr hsp=>hbody cdv A outer s H vs Q E hr hsp
section
variable {X:Cx} {CX:CXT} {k:Nat} {ps:List Str} {sp:Sp} {E:St->XK} {m:Str} {C:Addr} {pos apos:Pos} {o:Expr} {ta:TE}
theorem pe_mtS0 {pl:Sem Bool} (F:Mt X.prog X.w X.K X.mg X.base CX C m k ps sp) (hr:Room k X.A) (hx:ZEP CX X E) (he:PE X o ta)
  (ht:eval (.Call (.Attribute o m apos) [] [] pos) X.env=(do
   let ov <- eval o X.env
   standAt apos.atName
   let (f,first) <- holding [ov] (getMethod ov m pl)
   callWith pos f first (backTo pos (starEach [] X.env)) (backToKw pos (keywordEach [] X.env))):=by rfl) :
  PE X (.Call (.Attribute o m apos) [] [] pos) (ZEi C m sp E ta tNil):=by
 obtain ⟨f,fd,h1,h2,h3⟩:=F.ex
 intro pins s σ H Q I h
 refine PySem.W.methodCall_KW (pl:=pl) (thn (he pins s σ H _ I h) fun u s1 zz=>?_) ht
 obtain ⟨x,H1,I1,rx,a,dx,fs,ex,ea,l,q⟩:=zz
 subst ex
 obtain rfl:u=Value.ref a:=rx
 refine ZCw I1 ea F.cl h3 l ?_
 have:=run_fnS (us:=[.ref a]) (vs:=[.ref a]) (dvs:=[]) (ds:=[]) h1 hr h2 .nil (fun e s' z=>hx pins σ H1 s1 e s' I1 z) I1 (.cons rfl .nil) (by rw [yAQ];exact q)
 exact PySem.W.callWith_K0 (first:=[.ref a]) I1.kIn h3.kp this
end
open PySem
noncomputable def tGFn (mg:Str->Option Value) (x:Str):TE:=fun _ H Q=>∀ f,mg x=some (.ref f)->Q (.ref f) H
noncomputable def ZEl (mg:Str->Option Value) (y:Str) (sp:Sp) (E:XK) (ta:TE) (t:TA):TE:=fun σ H Q=>ta σ H fun v H1=>(∃ f,v=.ref f /\ mg y=some (.ref f)) /\ t σ H1 fun vs H2=>sp vs H2 Q E
section
variable {X:Cx} {CX:CXT} {k:Nat} {ps:List Str} {sp:Sp} {E:XK} {x y:Str} {p pos:Pos} {e:Expr} {es:List Expr} {ta:TE} {t:TA}
theorem ZEp (F:Fn X.prog X.w X.K X.mg X.base CX x k ps sp) (hg:Gl X x) (hd:(x == ("__debug__":Str))=false:=by decide):PE X (.Name x p) (tGFn X.mg x):=by
 obtain ⟨f,fd,_,_,_,hm⟩:=F.ex
 intro pins s σ H Q I h
 exact ZB3 I hg hm ⟨.ref f,H,I,rfl,h f hm⟩ hd
theorem pe_callG (F:Fn X.prog X.w X.K X.mg X.base CX y k ps sp) (hr:Room k X.A) (hxe:ZBH CX X E) (hx:PE X (.Name x p) ta) (ha:PA X (e::es) t)
  (he:starEach (e::es) X.env=(false,eval e X.env)::starEach es X.env:=by rfl) (hpl:(backTo pos (starEach es X.env)).any (·.1)=false:=by rfl):PE X (.Call (.Name x p) (e::es) [] pos) (ZEl X.mg y sp E ta t):=by
 obtain ⟨f,fd,h1,h2,hk,hm⟩:=F.ex
 intro pins s σ H Q I h
 refine wpAny_Call_Name_kw (thn (hx pins s σ H _ I h) fun v s1 zz=>?_)
 obtain ⟨fv,H1,I1,rf,⟨f',eg,hm'⟩,q⟩:=zz
 rw [hm] at hm'
 cases hm'
 subst eg
 cases rf
 refine PySem.W.callWith_K (h₀:=X.base) I.ok.mod.kin hk (thn (ha pos pins s1 σ H1 _ I1 q) fun us s2 ⟨vs,H2,I2,r,q2⟩=>⟨I2.kIn,?_⟩) he hpl
 exact ZER (dvs:=[]) (ds:=[]) h1 hr h2 .nil hxe I2 r (by rw [yAQ];exact q2)
end
open PySem
noncomputable def gK21 (d:V) (vs zs:List V):List V:=match vs,zs with
 | [a,b],[c]=>[a,b,d,c]
 | _,_=>[]
noncomputable def tMakeK (C:Addr) (sp:Sp) (d:V) (E:XK) (t tk:TA):TE:=fun σ H Q=>t σ H fun vs H1=>tk σ H1 fun zs H2=>∀ x dx,H2 x=none->H2 dx=none->dx≠x ->
 sp (gK21 d (.ref x::vs) zs) (upd (upd H2 dx (.own x)) x (.ins C dx [])) (fun v H3=>v=.non /\ Q (.ref x) H3) E
section
variable {X:Cx} {CX:CXT} {k:Nat} {f C:Addr} {fd:FuncData} {ps:List Str} {sp:Sp} {E:XK} {x kn:Str} {p pos kpos:Pos} {e:Expr} {es:List Expr} {kws:List Keyword} {t tk:TA} {dv:Value} {d:V}
end
open PySem PySem.Spec PyProof.Rows
noncomputable def Itr3 (lo d:Int) (n:Nat):It:=⟨fun i _=>i < n,fun i H x H'=>H'=H /\ x=.int (lo+i * d),fun i _=>n <= i⟩
section
variable {X:Cx} {tg:Expr}
noncomputable def iRng3 (ta:TA):TI:=fun σ H R=>ta σ H fun vs H1=>∃ i j d:Int,vs=[.int i,.int j,.int d] /\ (0 <= i /\ i <= 1000 /\ 0 <= j /\ j <= 1000 /\ 0 < d /\ d <= 1000) /\ R (Itr3 i d (Builtin.Range.rangeSize i j d).toNat) H1
end
noncomputable def compR3 (g:TG) (tt:TT) (te:TE) (σ0:St) (Q:VK) (x y z:V) (H1:Hp):Prop:=∃ i j d:Int,[x,y,z]=[.int i,.int j,.int d] /\ (0 <= i /\ i <= 1000 /\ 0 <= j /\ j <= 1000 /\ 0 < d /\ d <= 1000) /\
 ∃ W:Nat->Nat->List V->St->Hp->Prop,(∃ m,W 0 m [] σ0 H1) /\ ∀ k m ys σ H,W k m ys σ H ->
   ((Itr3 i d (Builtin.Range.rangeSize i j d).toNat).stop k H /\ ys.length <= sizeLine /\ ∀ p,H p=none->Q (.ref p) (upd H p (.lst ys))) ∨
   ((Itr3 i d (Builtin.Range.rangeSize i j d).toNat).go k H /\ ys.length < sizeLine /\ ∀ x H',(Itr3 i d (Builtin.Range.rangeSize i j d).toNat).yld k H x H'->g x σ H' fun σ2 H2=>tt σ2 H2 fun b H3=>if b=true then te σ2 H3 fun y H4=>∃ m',m' < m /\ W (k+1) m' (ys++[y]) σ2 H4 else ∃ m',m' < m /\ W (k+1) m' ys σ2 H3)
theorem tCompR3_eq {k:Nat} {js:List Nat} {t u v:TE} {g:TG} {tt:TT} {te:TE} {σ:St} {H:Hp} {Q:VK}:ZDv k js (iRng3 (ZBx t (ZBx u (ZBx v tNil)))) g tt te σ H Q=t σ H (fun x H1=>u σ H1 fun y H2=>v σ H2 fun z H3=>compR3 g tt te (up k js σ) Q x y z H3):=rfl
noncomputable def tBL (K:W.Frag) (t:TE):TT:=fun σ H Q=>t σ H fun x H1=>∃ a xs,x=.ref a /\ SqL K H1 a xs /\ Q (!xs.isEmpty) H1
section
variable {X:Cx}
theorem pt_lst {e:Expr} {t:TE} (h:PE X e t) (he:∀ whole,isTrue e X.env whole=(do let v <- whole;standAt e.pos;holding [v] (truthy v)):=by intro _;rfl):PT X e (tBL X.K t):=by
 intro pins s σ H Q I hw
 refine isTrue_plain (thn (h pins s σ H _ I hw) fun v s1 zz=>?_) (he _)
 obtain ⟨x,H1,I1,r1,q1⟩:=zz
 obtain ⟨a,xs,rfl,hq,q⟩:=q1
 cases r1
 obtain ⟨its,rv,p,hz⟩:=I1.list hq
 have hl:=rv.length
 refine wpAny_truthy_list p.isList ?_ ?_
 .rw [yAO,<- hl]
  exact Int.lt_of_le_of_lt (Int.ofNat_le.mpr hz) (by decide)
 .refine ⟨H1,I1.kept (t':=s1.toks+1+1) (fun b o e=>e),?_⟩
  have:(!(its.toArray).isEmpty)=!xs.isEmpty:=by
   cases xs <;> cases its <;> first | rfl | cases hl
  rw [this];exact q
end
end L2
namespace L2S
open PySem PyProof.Rows
noncomputable def kn (f:Keyed->Int) (xs:Array Keyed) (i:Nat):Int:=((xs[i]?).map f).getD 0
theorem ZA3 {f:Keyed->Int} {xs ys:Array Keyed} {i j:Nat} (h:xs[i]?=ys[j]?):kn f xs i=kn f ys j:=by unfold kn;rw [h]
structure Asks (M:Model) (A:Around) (E:Value->Shared->Prop) (s:Shared) (κ:SortKind) (a₀:Array Keyed) (f:Keyed->Int):Prop where
 lt:∀ x y,x∈a₀.toList->y∈a₀.toList->∀ (st:SortSt) (Q:Option Bool->SortSt->Prop),kindOf st=κ->Q (some (decide (f x < f y))) st->wpS M A E s (lt' x y) Q st
structure SB (κ:SortKind) (a₀:Array Keyed) (st:SortSt):Prop where
 perm:(arrOf st).Perm a₀
 kind:kindOf st=κ
 fail:failedOf st=none
theorem SB.size {κ:SortKind} {a₀:Array Keyed} {st:SortSt} (h:SB κ a₀ st):(arrOf st).size=a₀.size:=h.perm.size_eq
theorem SB.arr {κ:SortKind} {a₀:Array Keyed} {st:SortSt} (h:SB κ a₀ st) {xs:Array Keyed} (hp:xs.Perm (arrOf st)):SB κ a₀ (setArr st xs):=⟨hp.trans h.perm,h.kind,h.fail⟩
theorem SB.get {κ:SortKind} {a₀:Array Keyed} {st:SortSt} {f:Keyed->Int} (h:SB κ a₀ st) {i:Nat} (hi:i < a₀.size):∃ x,(arrOf st)[i]?=some x /\ x∈a₀.toList /\ kn f (arrOf st) i=f x:=by
 have hi':i < (arrOf st).size:=by rw [h.size];exact hi
 refine ⟨(arrOf st)[i],getElem?_pos _ i hi',(Array.perm_iff_toList_perm.mp h.perm).mem_iff.mp (by simp),?_⟩
 unfold kn
 rw [getElem?_pos _ i hi']
 rfl
noncomputable def Up (f:Keyed->Int) (xs:Array Keyed) (lo n:Nat):Prop:=∀ i j,lo <= i->i <= j->j < lo+n->kn f xs i <= kn f xs j
noncomputable def Down (f:Keyed->Int) (xs:Array Keyed) (lo n:Nat):Prop:=∀ i j,lo <= i->i <= j->j < lo+n->kn f xs j <= kn f xs i
noncomputable def Kept (lo:Nat) (xs ys:Array Keyed):Prop:=∀ i,i < lo->ys[i]?=xs[i]?
theorem Kept.refl {lo:Nat} {xs:Array Keyed}:Kept lo xs xs:=fun _ _=>rfl
theorem Kept.trans {lo:Nat} {xs ys zs:Array Keyed} (a:Kept lo xs ys) (b:Kept lo ys zs):Kept lo xs zs:=fun i h=>(b i h).trans (a i h)
theorem ZDA {f:Keyed->Int} {xs:Array Keyed} {i j:Nat} (hj:j <= xs.size) (k:Nat):kn f (mirror xs i j ((j-i) / 2)) k=if i <= k /\ k < j then kn f xs (i+j-1-k) else kn f xs k:=by
 have e:=getElem?_mirror_all (i:=i) hj k
 split
 .rename_i h;rw [if_pos h] at e;exact ZA3 e
 .rename_i h;rw [if_neg h] at e;exact ZA3 e
theorem ZBr {lo:Nat} {xs:Array Keyed} {i j:Nat} (hj:j <= xs.size) (hi:lo <= i):Kept lo xs (mirror xs i j ((j-i) / 2)):=fun k hk=>by
 rw [getElem?_mirror_all hj k,if_neg (by omega)]
theorem ZC9 {f:Keyed->Int} {xs:Array Keyed} {i j:Nat} (hj:j <= xs.size) (he:∀ k,i <= k->k < j->kn f xs k=kn f xs (j-1)) (k:Nat):kn f (mirror xs i j ((j-i) / 2)) k=kn f xs k:=by
 rw [ZDA hj]
 split
 .rename_i h;rw [he _ (by omega) (by omega),he k h.1 h.2]
 .rfl
section
variable {M:Model} {A:Around} {E:Value->Shared->Prop} {s:Shared} {κ:SortKind} {a₀:Array Keyed} {f:Keyed->Int}
theorem ZD4 {st:SortSt} {i j:Nat} {Q:Option Bool->SortSt->Prop} (L:Asks M A E s κ a₀ f) (hB:SB κ a₀ st) (hi:i < a₀.size) (hj:j < a₀.size)
  (h:Q (some (decide (kn f (arrOf st) i < kn f (arrOf st) j))) st):wpS M A E s (ltAt' i j) Q st:=by
 obtain ⟨x,e1,m1,k1⟩:=hB.get (f:=f) hi
 obtain ⟨y,e2,m2,k2⟩:=hB.get (f:=f) hj
 rw [ltAt'_eq]
 refine wpS_bind (wpS_get ?_)
 show wpS _ _ _ _ (elem' (arrOf st) i >>= fun x=>elem' (arrOf st) j >>= fun y=>lt' x y) Q st
 rw [elem'_eq,elem'_eq,e1,e2]
 refine wpS_bind (wpS_pure (wpS_bind (wpS_pure (L.lt x y m1 m2 st Q hB.kind ?_))))
 rw [<- k1,<- k2]
 exact h
theorem ZES {st:SortSt} {i j:Nat} {Q:Unit->SortSt->Prop} (h:Q () (setArr st (mirror (arrOf st) i j ((j-i) / 2)))):wpS M A E s (reverseSlice' i j) Q st:=by
 rw [reverseSlice'_eq]
 exact wpS_modify h
noncomputable def ZCO (lo a nrem:Nat):StateT SortSt Sem AscSt :=
 forIn [a:nrem] ((none,a):AscSt) fun _ c=>do
  let r <- ltAt' (lo+c.snd) (lo+c.snd-1)
  match r with
  | some b=>if b=true then pure (ForInStep.done (none,c.snd)) else pure (ForInStep.yield (none,c.snd+1))
  | _=>pure (ForInStep.done (some none,c.snd))
noncomputable def ZD6 (lo n nrem:Nat):StateT SortSt Sem (Option Nat):=do
 reverseSlice' lo (lo+n)
 let c <- ZCO lo n nrem
 match c.fst with
 | some r=>pure r
 | none=>pure (some c.snd)
noncomputable def ZCM (lo n nrem:Nat):StateT SortSt Sem DescSt :=
 forIn [n:nrem] ((none,n,0):DescSt) fun _ c=>do
  let r <- ltAt' (lo+c.snd.fst) (lo+c.snd.fst-1)
  match r with
  | some b=>
   if b=true then
    if c.snd.snd > 0 then do
     reverseSlice' (lo+c.snd.fst-(c.snd.snd+1)) (lo+c.snd.fst)
     pure (ForInStep.yield (none,c.snd.fst+1,0))
    else pure (ForInStep.yield (none,c.snd.fst+1,0))
   else do
    let r2 <- ltAt' (lo+c.snd.fst-1) (lo+c.snd.fst)
    match r2 with
    | some b2=>
     if b2=true then pure (ForInStep.done (none,c.snd.fst,c.snd.snd))
     else pure (ForInStep.yield (none,c.snd.fst+1,c.snd.snd+1))
    | _=>pure (ForInStep.done (some none,c.snd.fst,c.snd.snd))
  | _=>pure (ForInStep.done (some none,c.snd.fst,c.snd.snd))
noncomputable def ZCl (lo n nrem:Nat):StateT SortSt Sem (Option Nat):=do
 liftM (rule "list.sort.descending-run")
 let c <- ZCM lo (n+1) nrem
 match c.fst with
 | some r=>pure r
 | none=>
  if c.snd.snd > 0 then do
   reverseSlice' (lo+c.snd.fst-(c.snd.snd+1)) (lo+c.snd.fst)
   ZD6 lo c.snd.fst nrem
  else ZD6 lo c.snd.fst nrem
theorem bnd {α β:Type} (m:StateT SortSt Sem α) {g h:α->StateT SortSt Sem β} (e:∀ a,g a=h a):(m >>= g)=(m >>= h):=by rw [show g=h from funext e]
theorem count_eq (lo nrem:Nat):countRun' lo nrem=(do
  let c <- ZCO lo 1 nrem
  match c.fst with
  | some r=>pure r
  | none=>
   if (c.snd == nrem)=true then pure (some c.snd)
   else if c.snd > 1 then do
    let r <- ltAt' lo (lo+c.snd-1)
    match r with
    | some b=>if b=true then pure (some c.snd) else do
      reverseSlice' lo (lo+c.snd)
      ZCl lo c.snd nrem
    | _=>pure none
   else ZCl lo c.snd nrem):=by
 have tl:∀ n2:Nat,ZD6 lo n2 nrem=(reverseSlice' lo (lo+n2) >>= fun _=>ZCO lo n2 nrem >>= fun c=>match c.fst with | some r=>pure r | none=>pure (some c.snd)):=fun _=>rfl
 rw [countRun'_eq]
 refine bnd (ZCO lo 1 nrem) fun c=>?_
 obtain ⟨r,n⟩:=c
 cases r with
 | some r=>rfl
 | none=>
  have dn:∀ n1:Nat,(liftM (rule "list.sort.descending-run") >>= fun _=>ZCM lo (n1+1) nrem >>= fun c=>match c.fst with
    | some r=>pure r
    | none=>if c.snd.snd > 0 then (reverseSlice' (lo+c.snd.fst-(c.snd.snd+1)) (lo+c.snd.fst) >>= fun _=>ZD6 lo c.snd.fst nrem) else ZD6 lo c.snd.fst nrem)=ZCl lo n1 nrem:=fun _=>rfl
  dsimp only
  split
  .rfl
  .split
   .refine bnd (ltAt' lo (lo+n-1)) fun x=>?_
    cases x with
    | none=>rfl
    | some rose=>
     dsimp only
     split
     .rfl
     .refine bnd _ fun _=>?_
      rw [<- dn]
      refine bnd _ fun _=>bnd (ZCM lo (n+1) nrem) fun s2=>?_
      obtain ⟨r2,n2,q2⟩:=s2
      cases r2 with
      | some r2=>rfl
      | none=>
       dsimp only
       split
       .refine bnd _ fun _=>?_
        rw [tl]
        refine bnd _ fun _=>bnd (ZCO lo n2 nrem) fun s3=>?_
        obtain ⟨r3,n3⟩:=s3
        cases r3 <;> rfl
       .rw [tl]
        refine bnd _ fun _=>bnd (ZCO lo n2 nrem) fun s3=>?_
        obtain ⟨r3,n3⟩:=s3
        cases r3 <;> rfl
   .rw [<- dn]
    refine bnd _ fun _=>bnd (ZCM lo (n+1) nrem) fun s2=>?_
    obtain ⟨r2,n2,q2⟩:=s2
    cases r2 with
    | some r2=>rfl
    | none=>
     dsimp only
     split
     .refine bnd _ fun _=>?_
      rw [tl]
      refine bnd _ fun _=>bnd (ZCO lo n2 nrem) fun s3=>?_
      obtain ⟨r3,n3⟩:=s3
      cases r3 <;> rfl
     .rw [tl]
      refine bnd _ fun _=>bnd (ZCO lo n2 nrem) fun s3=>?_
      obtain ⟨r3,n3⟩:=s3
      cases r3 <;> rfl
theorem up_one {xs:Array Keyed} {lo:Nat}:Up f xs lo 1:=fun i j h1 h2 h3=>by rw [show i=j by omega];exact Int.le_refl _
theorem up_loop {st:SortSt} {lo a nrem:Nat} {Q:AscSt->SortSt->Prop} (L:Asks M A E s κ a₀ f) (hn:lo+nrem <= a₀.size) (ha:1 <= a) (han:a <= nrem) (hB:SB κ a₀ st) (hs:Up f (arrOf st) lo a)
  (h:∀ n,a <= n->n <= nrem->Up f (arrOf st) lo n->(n=nrem∨kn f (arrOf st) (lo+n) < kn f (arrOf st) (lo+n-1))->Q (none,n) st):wpS M A E s (ZCO lo a nrem) Q st:=by
 unfold ZCO
 refine wpS_forRange (I:=fun x c st'=>st'=st /\ c=(none,x) /\ Up f (arrOf st) lo x) ?_ ?_ ⟨rfl,rfl,hs⟩
 .rintro x c st' hax hxn ⟨rfl,rfl,hs'⟩
  dsimp only
  refine wpS_bind (ZD4 L hB (by omega) (by omega) ?_)
  by_cases hl:kn f (arrOf st') (lo+x) < kn f (arrOf st') (lo+x-1)
  .rw [decide_eq_true hl]
   exact wpS_pure (h x hax (by omega) hs' (.inr hl))
  .rw [decide_eq_false hl]
   refine wpS_pure ⟨rfl,rfl,fun i j h1 h2 h3=>?_⟩
   by_cases hj:j < lo+x
   .exact hs' i j h1 h2 hj
   .by_cases hi:i=j
    .rw [hi];exact Int.le_refl _
    .have e1:=hs' i (lo+x-1) h1 (by omega) (by omega)
     rw [show j=lo+x by omega]
     omega
 .rintro c st' ⟨rfl,rfl,hs'⟩
  rw [Nat.max_eq_right han] at hs' ⊢
  exact h nrem han (yAA _) hs' (.inl rfl)
noncomputable abbrev ZEw (κ:SortKind) (a₀:Array Keyed) (f:Keyed->Int) (lo nrem:Nat) (xs:Array Keyed) (pd:Array (Nat×Nat×Nat)) (Q:Option Nat->SortSt->Prop):Prop :=
 ∀ m st',SB κ a₀ st'->1 <= m->m <= nrem->Up f (arrOf st') lo m->Kept lo xs (arrOf st')->pendingOf st'=pd->Q (some m) st'
theorem tail_l {st:SortSt} {lo n nrem:Nat} {xs:Array Keyed} {pd:Array (Nat×Nat×Nat)} {Q:Option Nat->SortSt->Prop} (L:Asks M A E s κ a₀ f) (hn:lo+nrem <= a₀.size) (h1:1 <= n) (hnn:n <= nrem) (hB:SB κ a₀ st)
  (hs:Down f (arrOf st) lo n) (hk:Kept lo xs (arrOf st)) (hp:pendingOf st=pd) (h:ZEw κ a₀ f lo nrem xs pd Q):wpS M A E s (ZD6 lo n nrem) Q st:=by
 unfold ZD6
 have hsz:lo+n <= (arrOf st).size:=by rw [hB.size];omega
 refine wpS_bind (ZES ?_)
 have hB':SB κ a₀ (setArr st (mirror (arrOf st) lo (lo+n) ((lo+n-lo) / 2))):=hB.arr (mirror_perm _ _ _ _)
 have hk':Kept lo xs (mirror (arrOf st) lo (lo+n) ((lo+n-lo) / 2)):=hk.trans (ZBr hsz (yAA _))
 refine wpS_bind (up_loop L hn h1 hnn hB' (fun i j z1 z2 z3=>?_) fun m hm1 hm2 hsm _=>wpS_pure (h m _ hB' (by omega) hm2 hsm hk' hp))
 show kn f (mirror (arrOf st) lo (lo+n) _) i <= kn f (mirror (arrOf st) lo (lo+n) _) j
 rw [ZDA hsz,ZDA hsz,if_pos (by omega),if_pos (by omega)]
 exact hs _ _ (by omega) (by omega) (by omega)
theorem down_loop {st:SortSt} {lo n nrem:Nat} {xs:Array Keyed} {pd:Array (Nat×Nat×Nat)} {Q:DescSt->SortSt->Prop} (L:Asks M A E s κ a₀ f) (hn:lo+nrem <= a₀.size) (h1:1 <= n) (hnn:n <= nrem) (hB:SB κ a₀ st)
  (hs:Down f (arrOf st) lo n) (hk:Kept lo xs (arrOf st)) (hp:pendingOf st=pd)
  (h:∀ m q st',SB κ a₀ st'->n <= m->m <= nrem->Down f (arrOf st') lo m->q+1 <= m->(∀ i,lo+m-(q+1) <= i->i < lo+m->kn f (arrOf st') i=kn f (arrOf st') (lo+m-1))->Kept lo xs (arrOf st')->pendingOf st'=pd->Q (none,m,q) st') :
  wpS M A E s (ZCM lo n nrem) Q st:=by
 unfold ZCM
 refine wpS_forRange (I:=fun x c st'=>∃ q,c=(none,x,q) /\ SB κ a₀ st' /\ Down f (arrOf st') lo x /\ q+1 <= x /\ (∀ i,lo+x-(q+1) <= i->i < lo+x->kn f (arrOf st') i=kn f (arrOf st') (lo+x-1)) /\ Kept lo xs (arrOf st') /\ pendingOf st'=pd) ?_ ?_
  ⟨0,rfl,hB,hs,by omega,fun i z1 z2=>by rw [show i=lo+n-1 by omega],hk,hp⟩
 .rintro x c st' hax hxn ⟨q,rfl,hB',hs',hq,he,hk',hp'⟩
  dsimp only
  have hsz:lo+x <= (arrOf st').size:=by rw [hB'.size];omega
  refine wpS_bind (ZD4 L hB' (by omega) (by omega) ?_)
  by_cases hl:kn f (arrOf st') (lo+x) < kn f (arrOf st') (lo+x-1)
  .rw [decide_eq_true hl]
   have more:∀ ys:Array Keyed,(∀ k,kn f ys k=kn f (arrOf st') k)->Down f ys lo (x+1):=fun ys hy i j z1 z2 z3=>by
    rw [hy,hy]
    by_cases hj:j < lo+x
    .exact hs' i j z1 z2 hj
    .by_cases hi:i=j
     .rw [hi];exact Int.le_refl _
     .have e1:=hs' i (lo+x-1) z1 (by omega) (by omega)
      rw [show j=lo+x by omega]
      omega
   dsimp only
   rw [if_pos rfl]
   by_cases hq0:q > 0
   .rw [if_pos hq0]
    refine wpS_bind (ZES (wpS_pure ⟨0,rfl,hB'.arr (mirror_perm _ _ _ _),more _ (ZC9 hsz he),by omega,fun i z1 z2=>by rw [show i=lo+(x+1)-1 by omega],hk'.trans (ZBr hsz (by omega)),hp'⟩))
   .rw [if_neg hq0]
    exact wpS_pure ⟨0,rfl,hB',more _ (fun _=>rfl),by omega,fun i z1 z2=>by rw [show i=lo+(x+1)-1 by omega],hk',hp'⟩
  .rw [decide_eq_false hl]
   dsimp only
   rw [if_neg (by decide)]
   refine wpS_bind (ZD4 L hB' (by omega) (by omega) ?_)
   by_cases hg:kn f (arrOf st') (lo+x-1) < kn f (arrOf st') (lo+x)
   .rw [decide_eq_true hg]
    exact wpS_pure (h x q st' hB' hax (by omega) hs' hq he hk' hp')
   .rw [decide_eq_false hg]
    have ex:kn f (arrOf st') (lo+x)=kn f (arrOf st') (lo+x-1):=by omega
    refine wpS_pure ⟨q+1,rfl,hB',fun i j z1 z2 z3=>?_,by omega,fun i z1 z2=>?_,hk',hp'⟩
    .by_cases hj:j < lo+x
     .exact hs' i j z1 z2 hj
     .by_cases hi:i=j
      .rw [hi];exact Int.le_refl _
      .have e1:=hs' i (lo+x-1) z1 (by omega) (by omega)
       rw [show j=lo+x by omega]
       omega
    .rw [show lo+(x+1)-1=lo+x by omega]
     by_cases hi:i=lo+x
     .rw [hi]
     .rw [ex];exact he i (by omega) (by omega)
 .rintro c st' ⟨q,rfl,hB',hs',hq,he,hk',hp'⟩
  rw [Nat.max_eq_right hnn] at hs' hq he ⊢
  exact h nrem q st' hB' hnn (yAA _) hs' hq he hk' hp'
theorem down_part {st:SortSt} {lo n nrem:Nat} {xs:Array Keyed} {pd:Array (Nat×Nat×Nat)} {Q:Option Nat->SortSt->Prop} (L:Asks M A E s κ a₀ f) (hn:lo+nrem <= a₀.size) (hnn:n+1 <= nrem) (hB:SB κ a₀ st)
  (hs:Down f (arrOf st) lo (n+1)) (hk:Kept lo xs (arrOf st)) (hp:pendingOf st=pd) (h:ZEw κ a₀ f lo nrem xs pd Q):wpS M A E s (ZCl lo n nrem) Q st:=by
 unfold ZCl
 refine wpS_bind (wpS_lift (wpAny_rule ⟨rfl,?_⟩))
 refine wpS_bind (down_loop L hn (by omega) hnn hB hs hk hp fun m q st' hB' hm1 hm2 hs' hq he hk' hp'=>?_)
 dsimp only
 have hsz:lo+m <= (arrOf st').size:=by rw [hB'.size];omega
 by_cases hq0:q > 0
 .rw [if_pos hq0]
  refine wpS_bind (ZES (tail_l L hn (by omega) hm2 (hB'.arr (mirror_perm _ _ _ _)) (fun i j z1 z2 z3=>?_) (hk'.trans (ZBr hsz (by omega))) hp' h))
  show kn f (mirror (arrOf st') _ _ _) j <= kn f (mirror (arrOf st') _ _ _) i
  rw [ZC9 hsz he,ZC9 hsz he]
  exact hs' i j z1 z2 z3
 .rw [if_neg hq0]
  exact tail_l L hn (by omega) hm2 hB' hs' hk' hp' h
theorem count_run {st:SortSt} {lo nrem:Nat} {Q:Option Nat->SortSt->Prop} (L:Asks M A E s κ a₀ f) (hn:lo+nrem <= a₀.size) (h1:1 <= nrem) (hB:SB κ a₀ st)
  (h:ZEw κ a₀ f lo nrem (arrOf st) (pendingOf st) Q):wpS M A E s (countRun' lo nrem) Q st:=by
 rw [count_eq]
 refine wpS_bind (up_loop L hn (yAA 1) h1 hB up_one fun n hn1 hn2 hsn hor=>?_)
 dsimp only
 by_cases hnn:n=nrem
 .rw [if_pos (by simpa using hnn)]
  exact wpS_pure (h n st hB hn1 hn2 hsn .refl rfl)
 rw [if_neg (by simpa using hnn)]
 have hlt:=hor.resolve_left hnn
 by_cases hgt:n > 1
 .rw [if_pos hgt]
  refine wpS_bind (ZD4 L hB (by omega) (by omega) ?_)
  by_cases hr:kn f (arrOf st) lo < kn f (arrOf st) (lo+n-1)
  .rw [decide_eq_true hr]
   exact wpS_pure (h n st hB hn1 hn2 hsn .refl rfl)
  rw [decide_eq_false hr]
  dsimp only
  rw [if_neg (by decide)]
  have hsz:lo+n <= (arrOf st).size:=by rw [hB.size];omega
  have hall:∀ k,lo <= k->k < lo+n->kn f (arrOf st) k=kn f (arrOf st) (lo+n-1):=fun k k1 k2=>by
   have a1:=hsn lo k (yAA _) k1 k2
   have a2:=hsn k (lo+n-1) k1 (by omega) (by omega)
   omega
  refine wpS_bind (ZES (down_part L hn (by omega) (hB.arr (mirror_perm _ _ _ _)) (fun i j z1 z2 z3=>?_) (ZBr hsz (yAA _)) rfl h))
  show kn f (mirror (arrOf st) _ _ _) j <= kn f (mirror (arrOf st) _ _ _) i
  rw [ZC9 hsz hall,ZC9 hsz hall]
  by_cases hj:j < lo+n
  .rw [hall i z1 (by omega),hall j (by omega) hj];exact Int.le_refl _
  .by_cases hi:i=j
   .rw [hi];exact Int.le_refl _
   .rw [hall i z1 (by omega),show j=lo+n by omega];exact Int.le_of_lt hlt
 .rw [if_neg hgt]
  have hn1':n=1:=by omega
  subst hn1'
  refine down_part L hn (by omega) hB (fun i j z1 z2 z3=>?_) .refl rfl h
  by_cases hi:i=j
  .rw [hi];exact Int.le_refl _
  .have e1:i=lo:=by omega
   have e2:j=lo+1:=by omega
   subst e1 e2
   exact Int.le_of_lt hlt
theorem kn_bubble {xs:Array Keyed} {src d:Nat} (hs:src < xs.size) (hd:d <= src) (k:Nat):kn f (bubble xs src d) k=if k=src-d then kn f xs src else if src-d < k /\ k <= src then kn f xs (k-1) else kn f xs k:=by
 have e:=getElem?_bubble hs d hd k
 split
 .rename_i h;rw [if_pos h] at e;exact ZA3 e
 .rename_i h
  rw [if_neg h] at e
  split
  .rename_i h2;rw [if_pos h2] at e;exact ZA3 e
  .rename_i h2;rw [if_neg h2] at e;exact ZA3 e
theorem kept_bubble {lo:Nat} {xs:Array Keyed} {src d:Nat} (hs:src < xs.size) (hd:lo+d <= src):Kept lo xs (bubble xs src d):=fun k hk=>by
 rw [getElem?_bubble hs d (by omega) k,if_neg (by omega),if_neg (by omega)]
theorem bin_sort {st:SortSt} {lo n ok:Nat} {Q:Bool->SortSt->Prop} (L:Asks M A E s κ a₀ f) (hn:lo+n <= a₀.size) (hok:ok <= n) (hB:SB κ a₀ st) (hs:Up f (arrOf st) lo ok)
  (h:∀ st',SB κ a₀ st'->Up f (arrOf st') lo n->Kept lo (arrOf st) (arrOf st')->pendingOf st'=pendingOf st->Q true st'):wpS M A E s (binarySort' lo n ok) Q st:=by
 rw [binarySort'_eq]
 refine wpS_bind (wpS_mono (wpS_forRange (I:=fun k c st'=>c=(none,()) /\ SB κ a₀ st' /\ Up f (arrOf st') lo (min k n) /\ Kept lo (arrOf st) (arrOf st') /\ pendingOf st'=pendingOf st)
  (Q:=fun c st'=>c=(none,()) /\ SB κ a₀ st' /\ Up f (arrOf st') lo n /\ Kept lo (arrOf st) (arrOf st') /\ pendingOf st'=pendingOf st) ?_ ?_ ?_) ?_)
 .rintro k c st' hak hkn ⟨rfl,hB',hs',hk',hp'⟩
  rw [show min k n=k by omega] at hs'
  have hk:lo+k < a₀.size:=by omega
  refine wpS_bind (wpS_mono (wpS_forRange (I:=fun x c st2=>st2=st' /\ ∃ l r,c=(none,l,r) /\ l <= r /\ r <= k /\ r-l <= k-x /\
    (∀ i,i < l->kn f (arrOf st') (lo+i) <= kn f (arrOf st') (lo+k)) /\ (∀ i,r <= i->i < k->kn f (arrOf st') (lo+k) < kn f (arrOf st') (lo+i)))
   (Q:=fun c st2=>st2=st' /\ ∃ l r,c=(none,l,r) /\ l <= k /\ (∀ i,i < l->kn f (arrOf st') (lo+i) <= kn f (arrOf st') (lo+k)) /\ (∀ i,l <= i->i < k->kn f (arrOf st') (lo+k) < kn f (arrOf st') (lo+i))) ?_ ?_ ?_) ?_)
  .rintro x c st2 _ hxk ⟨rfl,l,r,rfl,hlr,hrk,hm,hlo,hhi⟩
   dsimp only
   by_cases hge:l≥r
   .rw [if_pos hge]
    have:l=r:=by omega
    subst this
    exact wpS_pure ⟨rfl,l,l,rfl,hrk,hlo,hhi⟩
   rw [if_neg hge]
   refine wpS_bind (ZD4 L hB' hk (by omega) ?_)
   by_cases hl:kn f (arrOf st2) (lo+k) < kn f (arrOf st2) (lo+(l+r) / 2)
   .rw [decide_eq_true hl]
    refine wpS_pure ⟨rfl,l,(l+r) / 2,rfl,by omega,by omega,by omega,hlo,fun i z1 z2=>?_⟩
    exact Int.lt_of_lt_of_le hl (hs' _ _ (by omega) (by omega) (by omega))
   .rw [decide_eq_false hl]
    refine wpS_pure ⟨rfl,(l+r) / 2+1,r,rfl,by omega,by omega,by omega,fun i z1=>?_,hhi⟩
    have e1:=hs' (lo+i) (lo+(l+r) / 2) (by omega) (by omega) (by omega)
    omega
  .rintro c st2 ⟨rfl,l,r,rfl,hlr,hrk,hm,hlo,hhi⟩
   have:l=r:=by omega
   subst this
   exact ⟨rfl,l,l,rfl,hrk,hlo,hhi⟩
  .exact ⟨rfl,0,k,rfl,by omega,by omega,by omega,fun i hi=>by omega,fun i z1 z2=>by omega⟩
  .rintro c st2 ⟨rfl,l,r,rfl,hlk,hlo,hhi⟩
   show wpS _ _ _ _ (moveDown' (lo+k) (lo+l) >>= fun _=>pure (ForInStep.yield (none,()))) _ _
   rw [moveDown'_eq,show lo+k-(lo+l)=k-l by omega]
   have hks:lo+k < (arrOf st2).size:=by rw [hB'.size];exact hk
   refine wpS_bind (wpS_modify (wpS_pure ⟨rfl,hB'.arr (bubble_perm _ _ _),?_,hk'.trans (kept_bubble hks (by omega)),hp'⟩))
   rw [show min (k+1) n=k+1 by omega]
   intro i j z1 z2 z3
   show kn f (bubble (arrOf st2) (lo+k) (k-l)) i <= kn f (bubble (arrOf st2) (lo+k) (k-l)) j
   have at':∀ m,lo <= m->m < lo+k+1->kn f (bubble (arrOf st2) (lo+k) (k-l)) m=if m < lo+l then kn f (arrOf st2) m else if m=lo+l then kn f (arrOf st2) (lo+k) else kn f (arrOf st2) (m-1):=fun m m1 m2=>by
    rw [kn_bubble hks (by omega)]
    by_cases c1:m < lo+l
    .rw [if_pos c1,if_neg (by omega),if_neg (by omega)]
    .rw [if_neg c1]
     by_cases c2:m=lo+l
     .rw [if_pos c2,if_pos (by omega)]
     .rw [if_neg c2,if_neg (by omega),if_pos (by omega)]
   rw [at' i z1 (by omega),at' j (by omega) (by omega)]
   have lo':∀ m,lo <= m->m < lo+l->kn f (arrOf st2) m <= kn f (arrOf st2) (lo+k):=fun m m1 m2=>by
    have:=hlo (m-lo) (by omega)
    rw [show lo+(m-lo)=m by omega] at this
    exact this
   have hi':∀ m,lo+l <= m->m < lo+k->kn f (arrOf st2) (lo+k) < kn f (arrOf st2) m:=fun m m1 m2=>by
    have:=hhi (m-lo) (by omega) (by omega)
    rw [show lo+(m-lo)=m by omega] at this
    exact this
   by_cases c1:j < lo+l
   .rw [if_pos c1,if_pos (by omega)]
    exact hs' i j z1 z2 (by omega)
   rw [if_neg c1]
   by_cases c2:j=lo+l
   .rw [if_pos c2]
    by_cases c3:i < lo+l
    .rw [if_pos c3];exact lo' i z1 c3
    .rw [if_neg c3,if_pos (by omega)];exact Int.le_refl _
   .rw [if_neg c2]
    by_cases c3:i < lo+l
    .rw [if_pos c3];exact hs' i (j-1) z1 (by omega) (by omega)
    .rw [if_neg c3]
     by_cases c4:i=lo+l
     .rw [if_pos c4];exact Int.le_of_lt (hi' (j-1) (by omega) (by omega))
     .rw [if_neg c4];exact hs' (i-1) (j-1) (by omega) (by omega) (by omega)
 .rintro c st' ⟨hc,hB',hs',hk',hp'⟩
  rw [show min (max (max ok 1) n) n=n by omega] at hs'
  exact ⟨hc,hB',hs',hk',hp'⟩
 .refine ⟨rfl,hB,fun i j z1 z2 z3=>?_,.refl,rfl⟩
  by_cases h1:ok=0
  .rw [show i=j by omega];exact Int.le_refl _
  .exact hs i j z1 z2 (by omega)
 .rintro c st' ⟨rfl,hB',hs',hk',hp'⟩
  exact wpS_pure (h st' hB' hs' hk' hp')
end
end L2S
namespace L2S
open PySem PyProof.Rows
noncomputable def gal:Bool->Keyed->Array Keyed->Nat->Nat->Nat->StateT SortSt Sem (Option Nat):=sortPriv% PySem.Builtin.gallop
noncomputable def past (left:Bool) (key:Keyed) (arr:Array Keyed) (base i:Nat):StateT SortSt Sem (Option Bool):=do
 let y <- elem' arr (base+i)
 if left then lt' y key else return (<- lt' key y).map (!·)
theorem gal_eq (left:Bool) (key:Keyed) (arr:Array Keyed) (base n hint:Nat):gal left key arr base n hint=(do
 let mut o1:=0
 let mut o2:=1
 let mut p1:=0
 let mut p2:=0
 let some b0 <- past left key arr base hint | return none
 if b0 then
  let mx:=n-hint
  for _ in [0:n] do
   if o2≥mx then break
   let some b <- past left key arr base (hint+o2) | return none
   if !b then break
   o1:=o2
   o2:=2 * o2+1
  p1:=hint+o1+1
  p2:=hint+min o2 mx
 else
  let mx:=hint+1
  for _ in [0:n] do
   if o2≥mx then break
   let some b <- past left key arr base (hint-o2) | return none
   if b then break
   o1:=o2
   o2:=2 * o2+1
  p1:=hint+1-min o2 mx
  p2:=hint-o1
 for _ in [0:n] do
  if p1≥p2 then break
  let m:=p1+(p2-p1) / 2
  let some b <- past left key arr base m | return none
  if b then p1:=m+1 else p2:=m
 return some p2):=rfl
section
variable {M:Model} {A:Around} {E:Value->Shared->Prop} {s:Shared}
theorem gal_ok {left:Bool} {key:Keyed} {arr:Array Keyed} {base n hint:Nat} {st:SortSt} {Q:Option Nat->SortSt->Prop} (g:Nat->Bool) (hh:hint < n)
  (hp:∀ i,i < n->∀ Q:Option Bool->SortSt->Prop,Q (some (g i)) st->wpS M A E s (past left key arr base i) Q st) (hm:∀ i j,i <= j->j < n->g j=true->g i=true)
  (h:∀ k,k <= n->(∀ i,i < k->g i=true)->(∀ i,k <= i->i < n->g i=false)->Q (some k) st):wpS M A E s (gal left key arr base n hint) Q st:=by
 have hm':∀ i j,i <= j->j < n->g i=false->g j=false:=fun i j z1 z2 z3=>by
  cases e:g j with
  | false=>rfl
  | true=>rw [hm i j z1 z2 e] at z3;cases z3
 have last:∀ p1 p2:Nat,p1 <= p2->p2 <= n->(∀ i,i < p1->g i=true)->(∀ i,p2 <= i->i < n->g i=false) ->
   wpS M A E s (forIn [0:n] ((none,p1,p2):Option (Option Nat)×Nat×Nat) fun _ c=>if c.2.1≥c.2.2 then pure (ForInStep.done (none,c.2.1,c.2.2)) else do
    let r <- past left key arr base (c.2.1+(c.2.2-c.2.1) / 2)
    match r with
    | some b=>if b=true then pure (ForInStep.yield (none,c.2.1+(c.2.2-c.2.1) / 2+1,c.2.2)) else pure (ForInStep.yield (none,c.2.1,c.2.1+(c.2.2-c.2.1) / 2))
    | _=>pure (ForInStep.done (some none,c.2.1,c.2.2))) (fun c st'=>∃ k,c=(none,k,k) /\ st'=st /\ k <= n /\ (∀ i,i < k->g i=true) /\ (∀ i,k <= i->i < n->g i=false)) st:=by
  intro p1 p2 a1 a2 a3 a4
  refine wpS_forRange (I:=fun x c st'=>st'=st /\ ∃ p1 p2,c=(none,p1,p2) /\ p1 <= p2 /\ p2 <= n /\ p2-p1 <= n-x /\ (∀ i,i < p1->g i=true) /\ (∀ i,p2 <= i->i < n->g i=false)) ?_ ?_ ⟨rfl,p1,p2,rfl,a1,a2,by omega,a3,a4⟩
  .rintro x c st' _ hx ⟨rfl,p1,p2,rfl,b1,b2,b3,b4,b5⟩
   dsimp only
   by_cases hge:p1≥p2
   .rw [if_pos hge]
    have:p1=p2:=by omega
    subst this
    exact wpS_pure ⟨p1,rfl,rfl,b2,b4,b5⟩
   rw [if_neg hge]
   refine wpS_bind (hp _ (by omega) _ ?_)
   cases e:g (p1+(p2-p1) / 2) with
   | true=>exact wpS_pure ⟨rfl,_,_,rfl,by omega,b2,by omega,fun i hi=>hm i _ (by omega) (by omega) e,b5⟩
   | false=>exact wpS_pure ⟨rfl,_,_,rfl,by omega,by omega,by omega,b4,fun i i1 i2=>hm' _ i i1 i2 e⟩
  .rintro c st' ⟨rfl,p1,p2,rfl,b1,b2,b3,b4,b5⟩
   have:p1=p2:=by omega
   subst this
   exact ⟨p1,rfl,rfl,b2,b4,b5⟩
 rw [gal_eq]
 refine wpS_bind (hp hint hh _ ?_)
 cases e0:g hint with
 | true=>
  refine wpS_bind (wpS_mono (wpS_forRange (I:=fun x c st'=>st'=st /\ ∃ o1 o2,c=(none,o1,o2) /\ o1 < o2 /\ x+1 <= o2 /\ hint+o1 < n /\ g (hint+o1)=true)
   (Q:=fun c st'=>st'=st /\ ∃ o1 o2,c=(none,o1,o2) /\ o1 < o2 /\ hint+o1 < n /\ g (hint+o1)=true /\ (o2≥n-hint∨(hint+o2 < n /\ g (hint+o2)=false))) ?_ ?_ ⟨rfl,0,1,rfl,by omega,by omega,by omega,e0⟩) ?_)
  .rintro x c st' _ hx ⟨rfl,o1,o2,rfl,b1,b2,b3,b4⟩
   dsimp only
   by_cases hge:o2≥n-hint
   .rw [if_pos hge]
    exact wpS_pure ⟨rfl,o1,o2,rfl,b1,b3,b4,.inl hge⟩
   rw [if_neg hge]
   refine wpS_bind (hp _ (by omega) _ ?_)
   cases e:g (hint+o2) with
   | true=>exact wpS_pure ⟨rfl,_,_,rfl,by omega,by omega,by omega,e⟩
   | false=>exact wpS_pure ⟨rfl,_,_,rfl,b1,b3,b4,.inr ⟨by omega,e⟩⟩
  .rintro c st' ⟨rfl,o1,o2,rfl,b1,b2,b3,b4⟩
   exact ⟨rfl,o1,o2,rfl,b1,b3,b4,.inl (by omega)⟩
  .rintro c st' ⟨rfl,o1,o2,rfl,b1,b3,b4,b5⟩
   dsimp only
   refine wpS_bind (wpS_mono (last (hint+o1+1) (hint+min o2 (n-hint)) (by omega) (by omega) (fun i hi=>hm i _ (by omega) b3 b4) fun i i1 i2=>?_) ?_)
   .rcases b5 with z | ⟨z1,z2⟩
    .omega
    .exact hm' _ i (by omega) i2 z2
   .rintro c st' ⟨k,rfl,rfl,k1,k2,k3⟩
    exact wpS_pure (h k k1 k2 k3)
 | false=>
  refine wpS_bind (wpS_mono (wpS_forRange (I:=fun x c st'=>st'=st /\ ∃ o1 o2,c=(none,o1,o2) /\ o1 < o2 /\ x+1 <= o2 /\ o1 <= hint /\ g (hint-o1)=false)
   (Q:=fun c st'=>st'=st /\ ∃ o1 o2,c=(none,o1,o2) /\ o1 < o2 /\ o1 <= hint /\ g (hint-o1)=false /\ (o2≥hint+1∨(o2 < hint+1 /\ g (hint-o2)=true))) ?_ ?_ ⟨rfl,0,1,rfl,by omega,by omega,by omega,e0⟩) ?_)
  .rintro x c st' _ hx ⟨rfl,o1,o2,rfl,b1,b2,b3,b4⟩
   dsimp only
   by_cases hge:o2≥hint+1
   .rw [if_pos hge]
    exact wpS_pure ⟨rfl,o1,o2,rfl,b1,b3,b4,.inl hge⟩
   rw [if_neg hge]
   refine wpS_bind (hp _ (by omega) _ ?_)
   cases e:g (hint-o2) with
   | true=>exact wpS_pure ⟨rfl,_,_,rfl,b1,b3,b4,.inr ⟨by omega,e⟩⟩
   | false=>exact wpS_pure ⟨rfl,_,_,rfl,by omega,by omega,by omega,e⟩
  .rintro c st' ⟨rfl,o1,o2,rfl,b1,b2,b3,b4⟩
   exact ⟨rfl,o1,o2,rfl,b1,b3,b4,.inl (by omega)⟩
  .rintro c st' ⟨rfl,o1,o2,rfl,b1,b3,b4,b5⟩
   dsimp only
   refine wpS_bind (wpS_mono (last (hint+1-min o2 (hint+1)) (hint-o1) (by omega) (by omega) (fun i hi=>?_) fun i i1 i2=>hm' _ i i1 i2 b4) ?_)
   .rcases b5 with z | ⟨z1,z2⟩
    .omega
    .exact hm i _ (by omega) (by omega) z2
   .rintro c st' ⟨k,rfl,rfl,k1,k2,k3⟩
    exact wpS_pure (h k k1 k2 k3)
end
end L2S
namespace L2S
open PySem PyProof.Rows
noncomputable def mLo:Array Keyed->Array Keyed->StateT SortSt Sem (Array Keyed):=sortPriv% PySem.Builtin.mergeLo
noncomputable abbrev setG (st:SortSt) (g:Nat):SortSt:=SortSt.mk' (kindOf st) (arrOf st) (pendingOf st) g (failedOf st)
theorem mLo_eq (a b:Array Keyed):mLo a b=(do
 rule "list.sort.merge-lo"
 let tt:=a.size+b.size
 let dn (o:Array Keyed) (i j:Nat):=o++a.extract i a.size++b.extract j b.size
 let la (o:Array Keyed) (i j:Nat):=o++b.extract j b.size++a.extract i a.size
 let mut o:Array Keyed:=#[<- elem' b 0]
 let mut i:=0
 let mut j:=1
 if j == b.size then return dn o i j
 if i+1 == a.size then return la o i j
 let mut mg:=gallopOf (<- get)
 for _ in [0:tt] do
  let mut ac:=0
  let mut bc:=0
  for _ in [0:tt] do
   let some w <- lt' (<- elem' b j) (<- elem' a i) | return dn o i j
   if w then
    o:=o.push (<- elem' b j);j:=j+1;bc:=bc+1;ac:=0
    if j == b.size then return dn o i j
    if bc≥mg then break
   else
    o:=o.push (<- elem' a i);i:=i+1;ac:=ac+1;bc:=0
    if i+1 == a.size then return la o i j
    if ac≥mg then break
  rule "list.sort.gallop"
  mg:=mg+1
  for _ in [0:tt] do
   if mg > 1 then mg:=mg-1
   modify fun st=>setG st mg
   let some k <- gal false (<- elem' b j) a i (a.size-i) 0 | return dn o i j
   ac:=k
   if k > 0 then
    o:=o++a.extract i (i+k);i:=i+k
    if i+1 == a.size then return la o i j
    if i == a.size then return dn o i j
   o:=o.push (<- elem' b j);j:=j+1
   if j == b.size then return dn o i j
   let some k <- gal true (<- elem' a i) b j (b.size-j) 0 | return dn o i j
   bc:=k
   if k > 0 then
    o:=o++b.extract j (j+k);j:=j+k
    if j == b.size then return dn o i j
   o:=o.push (<- elem' a i);i:=i+1
   if i+1 == a.size then return la o i j
   if ac < 7 && bc < 7 then break
  mg:=mg+1
  modify fun st=>setG st mg
 unsupported "internal:list.sort.merge-bound"):=rfl
noncomputable def leK (f:Keyed->Int) (x y:Keyed):Prop:=f x <= f y
structure Jm (f:Keyed->Int) (as bs o:List Keyed) (i j:Nat):Prop where
 perm:o.Perm (as.take i++bs.take j)
 sa:(o++as.drop i).Pairwise (leK f)
 sb:(o++bs.drop j).Pairwise (leK f)
noncomputable def Good (f:Keyed->Int) (as bs r:List Keyed):Prop:=r.Perm (as++bs) /\ r.Pairwise (leK f)
theorem take_more (as:List Keyed) (i k:Nat):as.take (i+k)=as.take i++(as.drop i).take k:=List.take_add
theorem drop_more (as:List Keyed) (i k:Nat):as.drop i=(as.drop i).take k++as.drop (i+k):=by rw [<- List.drop_drop,yBJ]
section
variable {f:Keyed->Int} {as bs o:List Keyed} {i j:Nat}
theorem Jm.swap (h:Jm f as bs o i j):Jm f bs as o j i:=⟨h.perm.trans yCH,h.sb,h.sa⟩
theorem Jm.chunk (h:Jm f as bs o i j) (k:Nat) (hc:∀ x∈(as.drop i).take k,∀ y∈bs.drop j,f x <= f y):Jm f as bs (o++(as.drop i).take k) (i+k) j:=by
 have sa:=h.sa
 rw [drop_more as i k,<- yAJ] at sa
 refine ⟨?_,sa,?_⟩
 .rw [take_more]
  refine (List.Perm.append_right _ h.perm).trans ?_
  rw [yAJ,yAJ]
  exact List.Perm.append_left _ yCH
 .obtain ⟨p1,p2,p3⟩:=yBZ.mp h.sb
  obtain ⟨q1,q2,q3⟩:=yBZ.mp sa
  refine yBZ.mpr ⟨q1,p2,fun x hx y hy=>?_⟩
  rcases yBD.mp hx with z | z
  .exact p3 x z y hy
  .exact hc x z y hy
theorem Jm.dn (h:Jm f as bs o i j) (e:as.drop i=[]∨bs.drop j=[]):Good f as bs (o++as.drop i++bs.drop j):=by
 refine ⟨?_,?_⟩
 .have p:(o++as.drop i++bs.drop j).Perm ((as.take i++bs.take j)++as.drop i++bs.drop j):=List.Perm.append_right _ (List.Perm.append_right _ h.perm)
  refine p.trans ?_
  have e1:(as.take i++bs.take j++as.drop i++bs.drop j).Perm (as.take i++as.drop i++(bs.take j++bs.drop j)):=by
   rw [yAJ,yAJ,yAJ]
   refine List.Perm.append_left _ ?_
   rw [<- yAJ,<- yAJ]
   exact List.Perm.append_right _ yCH
  rw [yBJ,yBJ] at e1
  exact e1
 .rcases e with e | e
  .rw [e,yAQ];exact h.sb
  .rw [e,yAQ];exact h.sa
theorem Jm.la (h:Jm f as bs o i j) (hl:∀ x∈as.drop i,∀ y∈bs.drop j,f y <= f x):Good f as bs (o++bs.drop j++as.drop i):=by
 have c:=h.swap.chunk (bs.length-j) (fun x hx y hy=>hl y hy x (List.mem_of_mem_take hx))
 rw [yBQ (by rw [yAR];exact yAA _)] at c
 have g:=c.dn (.inl (List.drop_eq_nil_of_le (by omega)))
 rw [List.drop_eq_nil_of_le (as:=bs) (i:=j+(bs.length-j)) (by omega),yAQ] at g
 exact ⟨g.1.trans yCH,g.2⟩
end
theorem ZDo (a:Array Keyed) (i:Nat):(a.extract i a.size).toList=a.toList.drop i:=by
 rw [yCA,yCB]
 exact yBQ (by rw [yAR];simp)
theorem ZEM (a:Array Keyed) (i k:Nat):(a.extract i (i+k)).toList=(a.toList.drop i).take k:=by
 rw [yCA,yCB,show i+k-i=k by omega]
theorem ZEs {a:Array Keyed} {i:Nat} {x:Keyed} (h:a[i]?=some x):(a.toList.drop i).take 1=[x]:=by
 have hi:i < a.toList.length:=by
  rw [yAP]
  exact (yBG.mp h).1
 rw [yCC hi]
 have:a.toList[i]=x:=by
  rw [yBG] at h
  obtain ⟨_,e⟩:=h
  simpa using e
 rw [this]
 simp
structure Ev (st st':SortSt):Prop where
 k:kindOf st'=kindOf st
 a:arrOf st'=arrOf st
 p:pendingOf st'=pendingOf st
 f:failedOf st'=failedOf st
theorem Ev.refl {st:SortSt}:Ev st st:=⟨rfl,rfl,rfl,rfl⟩
theorem Ev.setG {st st':SortSt} (h:Ev st st') (g:Nat):Ev st (setG st' g):=⟨h.k,h.a,h.p,h.f⟩
section
variable {M:Model} {A:Around} {E:Value->Shared->Prop} {s:Shared} {κ:SortKind} {a₀:Array Keyed} {f:Keyed->Int}
theorem ZAq {a:Array Keyed} {i:Nat} {x:Keyed} {st:SortSt} {Q:Keyed->SortSt->Prop} (h:a[i]?=some x) (q:Q x st):wpS M A E s (elem' a i) Q st:=by
 rw [elem'_eq,h]
 exact wpS_pure q
noncomputable def InA (a₀ a:Array Keyed):Prop:=∀ x∈a.toList,x∈a₀.toList
theorem InA.get {a:Array Keyed} (h:InA a₀ a) {i:Nat} {x:Keyed} (e:a[i]?=some x):x∈a₀.toList:=h x (by rw [yBG] at e;obtain ⟨_,rfl⟩:=e;simp)
theorem ZBI {a:Array Keyed} {i:Nat} {x:Keyed} (e:a[i]?=some x):kn f a i=f x:=by unfold kn;rw [e];rfl
theorem ZCZ {a:Array Keyed} {i:Nat} (h:i < a.size):∃ x,a[i]?=some x:=⟨_,getElem?_pos a i h⟩
theorem past_at {left:Bool} {key x:Keyed} {arr:Array Keyed} {base i:Nat} {st:SortSt} {Q:Option Bool->SortSt->Prop} (L:Asks M A E s κ a₀ f) (hk:kindOf st=κ) (hx:arr[base+i]?=some x) (h1:x∈a₀.toList) (h2:key∈a₀.toList)
  (q:Q (some (if left=true then decide (f x < f key) else !decide (f key < f x))) st):wpS M A E s (past left key arr base i) Q st:=by
 unfold past
 refine wpS_bind (ZAq hx ?_)
 cases left with
 | true=>exact L.lt x key h1 h2 st _ hk q
 | false=>
  refine wpS_bind (L.lt key x h2 h1 st _ hk ?_)
  exact wpS_pure q
theorem ZEv {key:Keyed} {arr:Array Keyed} {base n hint:Nat} {st:SortSt} {Q:Option Nat->SortSt->Prop} (L:Asks M A E s κ a₀ f) (hk:kindOf st=κ) (hi:InA a₀ arr) (hkey:key∈a₀.toList) (hh:hint < n) (hs:base+n <= arr.size) (hu:Up f arr base n)
  (h:∀ k,k <= n->(∀ i,i < k->kn f arr (base+i) <= f key)->(∀ i,k <= i->i < n->f key < kn f arr (base+i))->Q (some k) st):wpS M A E s (gal false key arr base n hint) Q st:=by
 refine gal_ok (fun i=>!decide (f key < kn f arr (base+i))) hh (fun i hin Q q=>?_) (fun i j z1 z2 z3=>?_) fun k k1 k2 k3=>h k k1 (fun i z=>?_) fun i z1 z2=>?_
 .obtain ⟨x,hx⟩:=ZCZ (a:=arr) (i:=base+i) (by omega)
  refine past_at L hk hx (hi.get hx) hkey ?_
  rw [ZBI hx] at q
  exact q
 .have:=hu (base+i) (base+j) (by omega) (by omega) (by omega)
  simp at z3 ⊢
  omega
 .have:=k2 i z
  simp at this
  exact this
 .have:=k3 i z1 z2
  simp at this
  exact this
theorem ZEL {key:Keyed} {arr:Array Keyed} {base n hint:Nat} {st:SortSt} {Q:Option Nat->SortSt->Prop} (L:Asks M A E s κ a₀ f) (hk:kindOf st=κ) (hi:InA a₀ arr) (hkey:key∈a₀.toList) (hh:hint < n) (hs:base+n <= arr.size) (hu:Up f arr base n)
  (h:∀ k,k <= n->(∀ i,i < k->kn f arr (base+i) < f key)->(∀ i,k <= i->i < n->f key <= kn f arr (base+i))->Q (some k) st):wpS M A E s (gal true key arr base n hint) Q st:=by
 refine gal_ok (fun i=>decide (kn f arr (base+i) < f key)) hh (fun i hin Q q=>?_) (fun i j z1 z2 z3=>?_) fun k k1 k2 k3=>h k k1 (fun i z=>?_) fun i z1 z2=>?_
 .obtain ⟨x,hx⟩:=ZCZ (a:=arr) (i:=base+i) (by omega)
  refine past_at L hk hx (hi.get hx) hkey ?_
  rw [ZBI hx] at q
  exact q
 .have:=hu (base+i) (base+j) (by omega) (by omega) (by omega)
  simp at z3 ⊢
  omega
 .have:=k2 i z
  simp at this
  exact this
 .have:=k3 i z1 z2
  simp at this
  exact this
theorem ZC3 {a:Array Keyed} {i:Nat} {x:Keyed} (h:x∈a.toList.drop i):∃ k,i <= k /\ k < a.size /\ kn f a k=f x /\ a[k]?=some x:=by
 obtain ⟨n,hn⟩:=yBN h
 rw [yBT] at hn
 rw [yBF] at hn
 exact ⟨i+n,by omega,(yBG.mp hn).1,ZBI hn,hn⟩
theorem mem_take {a:Array Keyed} {i k:Nat} {x:Keyed} (h:x∈(a.toList.drop i).take k):∃ n,i <= n /\ n < i+k /\ n < a.size /\ kn f a n=f x:=by
 obtain ⟨n,hn⟩:=yBN h
 have hl:=(yAH.mp hn).1
 rw [yAM] at hl
 rw [yBX (by omega),yBT,yBF] at hn
 exact ⟨i+n,by omega,by omega,(yBG.mp hn).1,ZBI hn⟩
structure Two (a₀:Array Keyed) (f:Keyed->Int) (a b:Array Keyed):Prop where
 ia:InA a₀ a
 ib:InA a₀ b
 ua:Up f a 0 a.size
 ub:Up f b 0 b.size
 na:1 <= a.size
 nb:1 <= b.size
 lo:∀ i,i < a.size->kn f b 0 <= kn f a i
 hi:∀ j,j < b.size->kn f b j <= kn f a (a.size-1)
end
end L2S
namespace L2S
open PySem PyProof.Rows
noncomputable abbrev C5:=Option (Array Keyed)×Array Keyed×Nat×Nat×Nat
noncomputable abbrev C6:=Option (Array Keyed)×Array Keyed×Nat×Nat×Nat×Nat
noncomputable abbrev C7:=Option (Array Keyed)×Array Keyed×Nat×Nat×Nat×Nat×Nat
noncomputable abbrev SM (α:Type):=StateT SortSt Sem α
noncomputable abbrev dnA (a b o:Array Keyed) (i j:Nat):Array Keyed:=o++a.extract i a.size++b.extract j b.size
noncomputable abbrev laA (a b o:Array Keyed) (i j:Nat):Array Keyed:=o++b.extract j b.size++a.extract i a.size
noncomputable def lo1 (a b:Array Keyed) (mg:Nat) (c:C6):SM (ForInStep C6):=do
 let y <- elem' b c.2.2.2.1
 let x <- elem' a c.2.2.1
 let r <- lt' y x
 match r with
 | some w=>
  if w=true then do
   let y <- elem' b c.2.2.2.1
   if (c.2.2.2.1+1 == b.size)=true then pure (.done (some (dnA a b (c.2.1.push y) c.2.2.1 (c.2.2.2.1+1)),c.2.1.push y,c.2.2.1,c.2.2.2.1+1,0,c.2.2.2.2.2+1))
   else if c.2.2.2.2.2+1≥mg then pure (.done (none,c.2.1.push y,c.2.2.1,c.2.2.2.1+1,0,c.2.2.2.2.2+1))
   else pure (.yield (none,c.2.1.push y,c.2.2.1,c.2.2.2.1+1,0,c.2.2.2.2.2+1))
  else do
   let x <- elem' a c.2.2.1
   if (c.2.2.1+1+1 == a.size)=true then pure (.done (some (laA a b (c.2.1.push x) (c.2.2.1+1) c.2.2.2.1),c.2.1.push x,c.2.2.1+1,c.2.2.2.1,c.2.2.2.2.1+1,0))
   else if c.2.2.2.2.1+1≥mg then pure (.done (none,c.2.1.push x,c.2.2.1+1,c.2.2.2.1,c.2.2.2.2.1+1,0))
   else pure (.yield (none,c.2.1.push x,c.2.2.1+1,c.2.2.2.1,c.2.2.2.2.1+1,0))
 | _=>pure (.done (some (dnA a b c.2.1 c.2.2.1 c.2.2.2.1),c.2.1,c.2.2.1,c.2.2.2.1,c.2.2.2.2.1,c.2.2.2.2.2))
noncomputable def lo4 (a b:Array Keyed) (g ac bc:Nat) (o:Array Keyed) (i j:Nat):SM (ForInStep C7):=do
 let x <- elem' a i
 if (i+1+1 == a.size)=true then pure (.done (some (laA a b (o.push x) (i+1) j),o.push x,i+1,j,g,ac,bc))
 else if (decide (ac < 7) && decide (bc < 7))=true then pure (.done (none,o.push x,i+1,j,g,ac,bc))
 else pure (.yield (none,o.push x,i+1,j,g,ac,bc))
noncomputable def lo3 (a b:Array Keyed) (g ac bc:Nat) (o:Array Keyed) (i j:Nat):SM (ForInStep C7):=do
 let y <- elem' b j
 if (j+1 == b.size)=true then pure (.done (some (dnA a b (o.push y) i (j+1)),o.push y,i,j+1,g,ac,bc))
 else do
  let x <- elem' a i
  let r <- gal true x b (j+1) (b.size-(j+1)) 0
  match r with
  | some k=>
   if k > 0 then
    if (j+1+k == b.size)=true then pure (.done (some (dnA a b (o.push y++b.extract (j+1) (j+1+k)) i (j+1+k)),o.push y++b.extract (j+1) (j+1+k),i,j+1+k,g,ac,k))
    else lo4 a b g ac k (o.push y++b.extract (j+1) (j+1+k)) i (j+1+k)
   else lo4 a b g ac k (o.push y) i (j+1)
  | _=>pure (.done (some (dnA a b (o.push y) i (j+1)),o.push y,i,j+1,g,ac,bc))
noncomputable def lo2 (a b:Array Keyed) (g ac bc:Nat) (o:Array Keyed) (i j:Nat):SM (ForInStep C7):=do
 modify fun st=>setG st g
 let y <- elem' b j
 let r <- gal false y a i (a.size-i) 0
 match r with
 | some k=>
  if k > 0 then
   if (i+k+1 == a.size)=true then pure (.done (some (laA a b (o++a.extract i (i+k)) (i+k) j),o++a.extract i (i+k),i+k,j,g,k,bc))
   else if (i+k == a.size)=true then pure (.done (some (dnA a b (o++a.extract i (i+k)) (i+k) j),o++a.extract i (i+k),i+k,j,g,k,bc))
   else lo3 a b g k bc (o++a.extract i (i+k)) (i+k) j
  else lo3 a b g k bc o i j
 | _=>pure (.done (some (dnA a b o i j),o,i,j,g,ac,bc))
noncomputable def loB (a b:Array Keyed) (c:C7):SM (ForInStep C7) :=
 if c.2.2.2.2.1 > 1 then lo2 a b (c.2.2.2.2.1-1) c.2.2.2.2.2.1 c.2.2.2.2.2.2 c.2.1 c.2.2.1 c.2.2.2.1
 else lo2 a b c.2.2.2.2.1 c.2.2.2.2.2.1 c.2.2.2.2.2.2 c.2.1 c.2.2.1 c.2.2.2.1
noncomputable def loO (a b:Array Keyed) (c:C5):SM (ForInStep C5):=do
 let c1 <- forIn [0:a.size+b.size] ((none,c.2.1,c.2.2.1,c.2.2.2.1,0,0):C6) fun _ d=>lo1 a b c.2.2.2.2 d
 match c1.1 with
 | some r=>pure (.done (some r,c1.2.1,c1.2.2.1,c1.2.2.2.1,c.2.2.2.2))
 | none=>do
  liftM (rule "list.sort.gallop")
  let c2 <- forIn [0:a.size+b.size] ((none,c1.2.1,c1.2.2.1,c1.2.2.2.1,c.2.2.2.2+1,c1.2.2.2.2.1,c1.2.2.2.2.2):C7) fun _ d=>loB a b d
  match c2.1 with
  | some r=>pure (.done (some r,c2.2.1,c2.2.2.1,c2.2.2.2.1,c2.2.2.2.2.1))
  | none=>do
   modify fun st=>setG st (c2.2.2.2.2.1+1)
   pure (.yield (none,c2.2.1,c2.2.2.1,c2.2.2.2.1,c2.2.2.2.2.1+1))
theorem bnd2 {α β:Type} {m m':StateT SortSt Sem α} {g h:α->StateT SortSt Sem β} (e0:m=m') (e:∀ a,g a=h a):(m >>= g)=(m' >>= h):=by rw [e0,show g=h from funext e]
theorem for2 {β:Type} {r:Std.Legacy.Range} {c:β} {g h:Nat->β->StateT SortSt Sem (ForInStep β)} (e:∀ x c,g x c=h x c):forIn r c g=forIn r c h:=by rw [show g=h from funext fun x=>funext (e x)]
theorem if2 {α:Type} {c:Prop} [Decidable c] {x y x' y':α} (e1:x=x') (e2:y=y'):(if c then x else y)=(if c then x' else y'):=by rw [e1,e2]
theorem mLo_low (a b:Array Keyed):mLo a b=(do
 liftM (rule "list.sort.merge-lo")
 let y <- elem' b 0
 if (1 == b.size)=true then pure (dnA a b #[y] 0 1)
 else if (0+1 == a.size)=true then pure (laA a b #[y] 0 1)
 else do
  let st <- get
  let c <- forIn [0:a.size+b.size] ((none,#[y],0,1,gallopOf st):C5) fun _ d=>loO a b d
  match c.1 with
  | some r=>pure r
  | none=>liftM (unsupported "internal:list.sort.merge-bound":Sem (Array Keyed))):=by
 rw [mLo_eq]
 refine bnd _ fun _=>bnd _ fun y=>?_
 refine if2 rfl (if2 rfl ?_)
 refine bnd _ fun st=>bnd2 (for2 fun _ c=>?_) fun c=>?_
 .unfold loO
  refine bnd2 (for2 fun _ d=>?_) fun c1=>?_
  .rfl
  .obtain ⟨r,o,i,j,ac,bc⟩:=c1
   cases r with
   | some r=>rfl
   | none=>
    refine bnd2 rfl fun _=>bnd2 (for2 fun _ d=>?_) fun c2=>?_
    .unfold loB
     refine if2 ?_ ?_
     all_goals
      unfold lo2
      refine bnd2 rfl fun _=>bnd2 rfl fun y=>bnd2 rfl fun r=>?_
      cases r with
      | none=>rfl
      | some k=>
       refine if2 (if2 rfl (if2 rfl ?_)) ?_
       all_goals
        unfold lo3
        refine bnd2 rfl fun y2=>if2 rfl (bnd2 rfl fun x2=>bnd2 rfl fun r2=>?_)
        cases r2 with
        | none=>rfl
        | some k2=>
         refine if2 (if2 rfl ?_) ?_
         all_goals
          unfold lo4
          refine bnd2 rfl fun x3=>if2 rfl (if2 rfl rfl)
    .obtain ⟨r,o,i,j,g,ac,bc⟩:=c2
     cases r with
     | some r=>rfl
     | none=>rfl
 .obtain ⟨r,o,i,j,g⟩:=c
  cases r with
  | some r=>rfl
  | none=>rfl
end L2S
namespace L2S
open PySem PyProof.Rows
section
variable {M:Model} {A:Around} {E:Value->Shared->Prop} {s:Shared} {κ:SortKind} {a₀:Array Keyed} {f:Keyed->Int} {a b o:Array Keyed} {i j:Nat}
theorem ZEz {a:Array Keyed} (h:Up f a 0 a.size):a.toList.Pairwise (leK f):=by
 rw [List.pairwise_iff_getElem]
 intro i j hi hj hij
 rw [yAP] at hi hj
 have:=h i j (yAI _) (yBP hij) (by omega)
 rw [ZBI (getElem?_pos a i hi),ZBI (getElem?_pos a j hj)] at this
 simpa [leK] using this
noncomputable abbrev JA (f:Keyed->Int) (a b o:Array Keyed) (i j:Nat):Prop:=Jm f a.toList b.toList o.toList i j
noncomputable abbrev Fin (f:Keyed->Int) (a b r:Array Keyed):Prop:=Good f a.toList b.toList r.toList
theorem JA.dn (h:JA f a b o i j) (e:a.size <= i∨b.size <= j):Fin f a b (dnA a b o i j):=by
 have g:=Jm.dn h (e.imp (fun z=>List.drop_eq_nil_of_le (by rw [yAP];exact z)) (fun z=>List.drop_eq_nil_of_le (by rw [yAP];exact z)))
 unfold Fin dnA
 rw [yBS,yBS,ZDo,ZDo]
 exact g
theorem JA.la (h:JA f a b o i j) (T:Two a₀ f a b) (e:i+1=a.size):Fin f a b (laA a b o i j):=by
 have g:=Jm.la h fun x hx y hy=>by
  obtain ⟨k,k1,k2,k3,_⟩:=ZC3 (f:=f) hx
  obtain ⟨n,n1,n2,n3,_⟩:=ZC3 (f:=f) hy
  have:=T.hi n n2
  rw [show a.size-1=k by omega,k3,n3] at this
  exact this
 unfold Fin laA
 rw [yBS,yBS,ZDo,ZDo]
 exact g
theorem JA.pushA {x:Keyed} (h:JA f a b o i j) (hx:a[i]?=some x) (hc:∀ n,j <= n->n < b.size->f x <= kn f b n):JA f a b (o.push x) (i+1) j:=by
 have g:=Jm.chunk h 1 fun u hu y hy=>by
  rw [ZEs hx,yAS] at hu
  obtain ⟨n,n1,n2,n3,_⟩:=ZC3 (f:=f) hy
  rw [hu,<- n3]
  exact hc n n1 n2
 rw [ZEs hx] at g
 unfold JA
 rw [Array.toList_push]
 exact g
theorem JA.pushB {x:Keyed} (h:JA f a b o i j) (hx:b[j]?=some x) (hc:∀ n,i <= n->n < a.size->f x <= kn f a n):JA f a b (o.push x) i (j+1) :=
 (JA.pushA (Jm.swap h) hx hc).swap
theorem JA.chunkA (h:JA f a b o i j) (k:Nat) (hc:∀ n m,i <= n->n < i+k->n < a.size->j <= m->m < b.size->kn f a n <= kn f b m):JA f a b (o++a.extract i (i+k)) (i+k) j:=by
 have g:=Jm.chunk h k fun u hu y hy=>by
  obtain ⟨n,n1,n2,n3,n4⟩:=mem_take (f:=f) hu
  obtain ⟨m,m1,m2,m3,_⟩:=ZC3 (f:=f) hy
  rw [<- n4,<- m3]
  exact hc n m n1 n2 n3 m1 m2
 unfold JA
 rw [yBS,ZEM]
 exact g
theorem JA.chunkB (h:JA f a b o i j) (k:Nat) (hc:∀ n m,j <= n->n < j+k->n < b.size->i <= m->m < a.size->kn f b n <= kn f a m):JA f a b (o++b.extract j (j+k)) i (j+k) :=
 (JA.chunkA (Jm.swap h) k hc).swap
theorem Up.sub {xs:Array Keyed} {n:Nat} (h:Up f xs 0 n) {lo m:Nat} (e:lo+m <= n):Up f xs lo m:=fun i j z1 z2 z3=>h i j (yAI _) z2 (by omega)
noncomputable def R7 (f:Keyed->Int) (a b:Array Keyed) (st:SortSt) (x:Nat):ForInStep C7->SortSt->Prop
 | .done c,st'=>Ev st st' /\ ((∃ r z,c=(some r,z) /\ Fin f a b r)∨∃ o i j g ac bc,c=(none,o,i,j,g,ac,bc) /\ JA f a b o i j /\ i+1 < a.size /\ j < b.size /\ x+2 <= i+j)
 | .yield c,st'=>Ev st st' /\ ∃ o i j g ac bc,c=(none,o,i,j,g,ac,bc) /\ JA f a b o i j /\ i+1 < a.size /\ j < b.size /\ x+2 <= i+j
theorem mLo_ok {st:SortSt} {Q:Array Keyed->SortSt->Prop} (L:Asks M A E s κ a₀ f) (hk:kindOf st=κ) (T:Two a₀ f a b) (h:∀ r st',Ev st st'->Fin f a b r->Q r st'):wpS M A E s (mLo a b) Q st:=by
 have ta:=T.na
 have tb:=T.nb
 have ua:∀ n m,n <= m->m < a.size->kn f a n <= kn f a m:=fun n m z1 z2=>T.ua n m (yAI _) z1 (by omega)
 have ub:∀ n m,n <= m->m < b.size->kn f b n <= kn f b m:=fun n m z1 z2=>T.ub n m (yAI _) z1 (by omega)
 rw [mLo_low]
 refine wpS_bind (wpS_lift (wpAny_rule ⟨rfl,?_⟩))
 obtain ⟨y0,hy0⟩:=ZCZ (a:=b) (i:=0) (by omega)
 refine wpS_bind (ZAq hy0 ?_)
 have J0:JA f a b #[y0] 0 1:=by
  have e:JA f a b #[] 0 0:=⟨by simp,by simpa using ZEz T.ua,by simpa using ZEz T.ub⟩
  have:=JA.pushB e hy0 fun n _ n2=>by rw [<- ZBI (f:=f) hy0];exact T.lo n n2
  exact this
 by_cases c1:1=b.size
 .rw [if_pos (by simpa using c1)]
  exact wpS_pure (h _ st .refl (J0.dn (.inr (by omega))))
 rw [if_neg (by simpa using c1)]
 by_cases c2:0+1=a.size
 .rw [if_pos (by simpa using c2)]
  exact wpS_pure (h _ st .refl (J0.la T c2))
 rw [if_neg (by simpa using c2)]
 refine wpS_bind (wpS_get ?_)
 refine wpS_bind (wpS_mono (wpS_forRange (I:=fun x c st'=>Ev st st' /\ ∃ o i j g,c=(none,o,i,j,g) /\ JA f a b o i j /\ i+1 < a.size /\ j < b.size /\ x+1 <= i+j) (Q:=fun c st'=>Ev st st' /\ ∃ r z,c=(some r,z) /\ Fin f a b r) ?_ ?_ ⟨.refl,_,0,1,_,rfl,J0,by omega,by omega,by omega⟩) ?_)
 .rintro x c st1 _ hx ⟨e1,o,i,j,g,rfl,J,hi,hj,hp⟩
  unfold loO
  dsimp only
  refine wpS_bind (wpS_mono (wpS_forRange (I:=fun y c st'=>Ev st st' /\ ∃ o i j ac bc,c=(none,o,i,j,ac,bc) /\ JA f a b o i j /\ i+1 < a.size /\ j < b.size /\ x+1+y <= i+j)
   (Q:=fun c st'=>Ev st st' /\ ((∃ r z,c=(some r,z) /\ Fin f a b r)∨∃ o i j ac bc,c=(none,o,i,j,ac,bc) /\ JA f a b o i j /\ i+1 < a.size /\ j < b.size /\ x+2 <= i+j)) ?_ ?_ ⟨e1,o,i,j,0,0,rfl,J,hi,hj,by omega⟩) ?_)
  .rintro y c st2 _ hy ⟨e2,o,i,j,ac,bc,rfl,J,hi,hj,hp⟩
   unfold lo1
   dsimp only
   obtain ⟨yb,hyb⟩:=ZCZ (a:=b) hj
   obtain ⟨xa,hxa⟩:=ZCZ (a:=a) (i:=i) (by omega)
   refine wpS_bind (ZAq hyb ?_)
   refine wpS_bind (ZAq hxa ?_)
   refine wpS_bind (L.lt yb xa (T.ib.get hyb) (T.ia.get hxa) st2 _ (e2.k.trans hk) ?_)
   by_cases hw:f yb < f xa
   .rw [decide_eq_true hw]
    dsimp only
    rw [if_pos rfl]
    refine wpS_bind (ZAq hyb ?_)
    have J2:=J.pushB hyb fun n n1 n2=>by
     have:=ua i n n1 n2
     rw [ZBI hxa] at this
     omega
    by_cases c3:j+1=b.size
    .rw [if_pos (by simpa using c3)]
     exact wpS_pure ⟨e2,.inl ⟨_,_,rfl,J2.dn (.inr (by omega))⟩⟩
    rw [if_neg (by simpa using c3)]
    split
    .exact wpS_pure ⟨e2,.inr ⟨_,_,_,_,_,rfl,J2,hi,by omega,by omega⟩⟩
    .exact wpS_pure ⟨e2,_,_,_,_,_,rfl,J2,hi,by omega,by omega⟩
   .rw [decide_eq_false hw]
    dsimp only
    rw [if_neg (by decide)]
    refine wpS_bind (ZAq hxa ?_)
    have J2:=J.pushA hxa fun n n1 n2=>by
     have:=ub j n n1 n2
     rw [ZBI hyb] at this
     omega
    by_cases c3:i+1+1=a.size
    .rw [if_pos (by simpa using c3)]
     exact wpS_pure ⟨e2,.inl ⟨_,_,rfl,J2.la T c3⟩⟩
    rw [if_neg (by simpa using c3)]
    split
    .exact wpS_pure ⟨e2,.inr ⟨_,_,_,_,_,rfl,J2,by omega,hj,by omega⟩⟩
    .exact wpS_pure ⟨e2,_,_,_,_,_,rfl,J2,by omega,hj,by omega⟩
  .rintro c st2 ⟨e2,o,i,j,ac,bc,rfl,J,hi,hj,hp⟩
   exact ⟨e2,.inr ⟨_,_,_,_,_,rfl,J,hi,hj,by omega⟩⟩
  .rintro c st2 ⟨e2,⟨r,z,rfl,hr⟩ | ⟨o,i,j,ac,bc,rfl,J,hi,hj,hp⟩⟩
   .exact wpS_pure ⟨e2,r,_,rfl,hr⟩
   dsimp only
   refine wpS_bind (wpS_lift (wpAny_rule ⟨rfl,?_⟩))
   refine wpS_bind (wpS_mono (wpS_forRange (I:=fun y c st'=>Ev st st' /\ ∃ o i j g ac bc,c=(none,o,i,j,g,ac,bc) /\ JA f a b o i j /\ i+1 < a.size /\ j < b.size /\ x+2 <= i+j)
    (Q:=fun c st'=>Ev st st' /\ ((∃ r z,c=(some r,z) /\ Fin f a b r)∨∃ o i j g ac bc,c=(none,o,i,j,g,ac,bc) /\ JA f a b o i j /\ i+1 < a.size /\ j < b.size /\ x+2 <= i+j)) ?_ ?_ ⟨e2,o,i,j,_,ac,bc,rfl,J,hi,hj,hp⟩) ?_)
   .rintro y c st3 _ hy ⟨e3,o,i,j,g,ac,bc,rfl,J,hi,hj,hp⟩
    have four:∀ (g ac bc:Nat) (o:Array Keyed) (i j:Nat) (st4:SortSt) (xa:Keyed),Ev st st4->JA f a b o i j->i+1 < a.size->j < b.size->x+2 <= i+j->a[i]?=some xa->(∀ n,j <= n->n < b.size->f xa <= kn f b n) ->
      wpS M A E s (lo4 a b g ac bc o i j) (R7 f a b st x) st4:=by
     intro g ac bc o i j st4 xa e4 J hi hj hp hxa hle
     unfold lo4
     refine wpS_bind (ZAq hxa ?_)
     have J2:=J.pushA hxa hle
     by_cases c3:i+1+1=a.size
     .rw [if_pos (by simpa using c3)]
      exact wpS_pure ⟨e4,.inl ⟨_,_,rfl,J2.la T c3⟩⟩
     rw [if_neg (by simpa using c3)]
     split
     .exact wpS_pure ⟨e4,.inr ⟨_,_,_,_,_,_,rfl,J2,by omega,hj,by omega⟩⟩
     .exact wpS_pure ⟨e4,_,_,_,_,_,_,rfl,J2,by omega,hj,by omega⟩
    have three:∀ (g ac bc:Nat) (o:Array Keyed) (i j:Nat) (st4:SortSt) (yb:Keyed),Ev st st4->JA f a b o i j->i+1 < a.size->j < b.size->x+2 <= i+j->b[j]?=some yb->(∀ n,i <= n->n < a.size->f yb <= kn f a n) ->
      wpS M A E s (lo3 a b g ac bc o i j) (R7 f a b st x) st4:=by
     intro g ac bc o i j st4 yb e4 J hi hj hp hyb hle
     unfold lo3
     refine wpS_bind (ZAq hyb ?_)
     have J2:=J.pushB hyb hle
     by_cases c3:j+1=b.size
     .rw [if_pos (by simpa using c3)]
      exact wpS_pure ⟨e4,.inl ⟨_,_,rfl,J2.dn (.inr (by omega))⟩⟩
     rw [if_neg (by simpa using c3)]
     obtain ⟨xa,hxa⟩:=ZCZ (a:=a) (i:=i) (by omega)
     refine wpS_bind (ZAq hxa ?_)
     refine wpS_bind (ZEL L (e4.k.trans hk) T.ib (T.ia.get hxa) (by omega) (by omega) (T.ub.sub (by omega)) fun k k1 k2 k3=>?_)
     dsimp only
     have rest:∀ n,j+1+k <= n->n < b.size->f xa <= kn f b n:=fun n n1 n2=>by
      have:=k3 (n-(j+1)) (by omega) (by omega)
      rw [show j+1+(n-(j+1))=n by omega] at this
      exact this
     by_cases hk0:k > 0
     .rw [if_pos hk0]
      have J3:=J2.chunkB k fun n m n1 n2 n3 m1 m2=>by
       have z:=k2 (n-(j+1)) (by omega)
       rw [show j+1+(n-(j+1))=n by omega] at z
       have z2:=ua i m m1 m2
       rw [ZBI hxa] at z2
       omega
      by_cases c4:j+1+k=b.size
      .rw [if_pos (by simpa using c4)]
       exact wpS_pure ⟨e4,.inl ⟨_,_,rfl,J3.dn (.inr (by omega))⟩⟩
      rw [if_neg (by simpa using c4)]
      exact four _ _ _ _ _ _ _ xa e4 J3 hi (by omega) (by omega) hxa rest
     .rw [if_neg hk0]
      have:k=0:=by omega
      subst this
      exact four _ _ _ _ _ _ _ xa e4 J2 hi (by omega) (by omega) hxa rest
    have two:∀ (g ac bc:Nat),wpS M A E s (lo2 a b g ac bc o i j) (R7 f a b st x) st3:=by
     intro g ac bc
     unfold lo2
     obtain ⟨yb,hyb⟩:=ZCZ (a:=b) hj
     refine wpS_bind (wpS_modify ?_)
     have e4:=e3.setG g
     refine wpS_bind (ZAq hyb ?_)
     refine wpS_bind (ZEv L (e4.k.trans hk) T.ia (T.ib.get hyb) (by omega) (by omega) (T.ua.sub (by omega)) fun k k1 k2 k3=>?_)
     dsimp only
     have rest:∀ n,i+k <= n->n < a.size->f yb <= kn f a n:=fun n n1 n2=>by
      have:=k3 (n-i) (by omega) (by omega)
      rw [show i+(n-i)=n by omega] at this
      omega
     by_cases hk0:k > 0
     .rw [if_pos hk0]
      have J3:=J.chunkA k fun n m n1 n2 n3 m1 m2=>by
       have z:=k2 (n-i) (by omega)
       rw [show i+(n-i)=n by omega] at z
       have z2:=ub j m m1 m2
       rw [ZBI hyb] at z2
       omega
      by_cases c4:i+k+1=a.size
      .rw [if_pos (by simpa using c4)]
       exact wpS_pure ⟨e4,.inl ⟨_,_,rfl,J3.la T c4⟩⟩
      rw [if_neg (by simpa using c4)]
      by_cases c5:i+k=a.size
      .rw [if_pos (by simpa using c5)]
       exact wpS_pure ⟨e4,.inl ⟨_,_,rfl,J3.dn (.inl (by omega))⟩⟩
      rw [if_neg (by simpa using c5)]
      exact three _ _ _ _ _ _ _ yb e4 J3 (by omega) hj (by omega) hyb rest
     .rw [if_neg hk0]
      have:k=0:=by omega
      subst this
      exact three _ _ _ _ _ _ _ yb e4 J hi hj hp hyb rest
    unfold loB
    dsimp only
    split
    .exact wpS_mono (two _ _ _) fun r st' z=>by cases r <;> exact z
    .exact wpS_mono (two _ _ _) fun r st' z=>by cases r <;> exact z
   .rintro c st3 ⟨e3,o,i,j,g,ac,bc,rfl,J,hi,hj,hp⟩
    exact ⟨e3,.inr ⟨_,_,_,_,_,_,rfl,J,hi,hj,hp⟩⟩
   .rintro c st3 ⟨e3,⟨r,z,rfl,hr⟩ | ⟨o,i,j,g,ac,bc,rfl,J,hi,hj,hp⟩⟩
    .exact wpS_pure ⟨e3,r,_,rfl,hr⟩
    .dsimp only
     exact wpS_bind (wpS_modify (wpS_pure ⟨e3.setG _,_,_,_,_,rfl,J,hi,hj,by omega⟩))
 .rintro c st1 ⟨e1,o,i,j,g,rfl,J,hi,hj,hp⟩
  omega
 .rintro c st1 ⟨e1,r,z,rfl,hr⟩
  exact wpS_pure (h r st1 e1 hr)
end
end L2S
namespace L2S
open PySem PyProof.Rows
noncomputable def mHi:Array Keyed->Array Keyed->StateT SortSt Sem (Array Keyed):=sortPriv% PySem.Builtin.mergeHi
theorem mHi_eq (a b:Array Keyed):mHi a b=(do
 rule "list.sort.merge-hi"
 let tt:=a.size+b.size
 let dn (o:Array Keyed) (i j:Nat):=a.extract 0 i++b.extract 0 j++o.reverse
 let fb (o:Array Keyed) (i j:Nat):=b.extract 0 j++a.extract 0 i++o.reverse
 let mut i:=a.size-1
 let mut j:=b.size
 let mut o:Array Keyed:=#[<- elem' a i]
 if i == 0 then return dn o i j
 if j == 1 then return fb o i j
 let mut mg:=gallopOf (<- get)
 for _ in [0:tt] do
  let mut ac:=0
  let mut bc:=0
  for _ in [0:tt] do
   let some w <- lt' (<- elem' b (j-1)) (<- elem' a (i-1)) | return dn o i j
   if w then
    i:=i-1;o:=o.push (<- elem' a i);ac:=ac+1;bc:=0
    if i == 0 then return dn o i j
    if ac≥mg then break
   else
    j:=j-1;o:=o.push (<- elem' b j);bc:=bc+1;ac:=0
    if j == 1 then return fb o i j
    if bc≥mg then break
  rule "list.sort.gallop"
  mg:=mg+1
  for _ in [0:tt] do
   if mg > 1 then mg:=mg-1
   modify fun st=>setG st mg
   let some t <- gal false (<- elem' b (j-1)) a 0 i (i-1) | return dn o i j
   let k:=i-t
   ac:=k
   if k > 0 then
    o:=o++(a.extract t i).reverse;i:=t
    if i == 0 then return dn o i j
   j:=j-1;o:=o.push (<- elem' b j)
   if j == 1 then return fb o i j
   let some t <- gal true (<- elem' a (i-1)) b 0 j (j-1) | return dn o i j
   let k:=j-t
   bc:=k
   if k > 0 then
    o:=o++(b.extract t j).reverse;j:=t
    if j == 1 then return fb o i j
    if j == 0 then return dn o i j
   i:=i-1;o:=o.push (<- elem' a i)
   if i == 0 then return dn o i j
   if ac < 7 && bc < 7 then break
  mg:=mg+1
  modify fun st=>setG st mg
 unsupported "internal:list.sort.merge-bound"):=rfl
noncomputable abbrev D5:=Option (Array Keyed)×Nat×Nat×Array Keyed×Nat
noncomputable abbrev D6:=Option (Array Keyed)×Nat×Nat×Array Keyed×Nat×Nat
noncomputable abbrev D7:=Option (Array Keyed)×Nat×Nat×Array Keyed×Nat×Nat×Nat
noncomputable abbrev dnH (a b o:Array Keyed) (i j:Nat):Array Keyed:=a.extract 0 i++b.extract 0 j++o.reverse
noncomputable abbrev fbH (a b o:Array Keyed) (i j:Nat):Array Keyed:=b.extract 0 j++a.extract 0 i++o.reverse
noncomputable def hi1 (a b:Array Keyed) (mg:Nat) (c:D6):SM (ForInStep D6):=do
 let y <- elem' b (c.2.2.1-1)
 let x <- elem' a (c.2.1-1)
 let r <- lt' y x
 match r with
 | some w=>
  if w=true then do
   let x <- elem' a (c.2.1-1)
   if (c.2.1-1 == 0)=true then pure (.done (some (dnH a b (c.2.2.2.1.push x) (c.2.1-1) c.2.2.1),c.2.1-1,c.2.2.1,c.2.2.2.1.push x,c.2.2.2.2.1+1,0))
   else if c.2.2.2.2.1+1≥mg then pure (.done (none,c.2.1-1,c.2.2.1,c.2.2.2.1.push x,c.2.2.2.2.1+1,0))
   else pure (.yield (none,c.2.1-1,c.2.2.1,c.2.2.2.1.push x,c.2.2.2.2.1+1,0))
  else do
   let y <- elem' b (c.2.2.1-1)
   if (c.2.2.1-1 == 1)=true then pure (.done (some (fbH a b (c.2.2.2.1.push y) c.2.1 (c.2.2.1-1)),c.2.1,c.2.2.1-1,c.2.2.2.1.push y,0,c.2.2.2.2.2+1))
   else if c.2.2.2.2.2+1≥mg then pure (.done (none,c.2.1,c.2.2.1-1,c.2.2.2.1.push y,0,c.2.2.2.2.2+1))
   else pure (.yield (none,c.2.1,c.2.2.1-1,c.2.2.2.1.push y,0,c.2.2.2.2.2+1))
 | _=>pure (.done (some (dnH a b c.2.2.2.1 c.2.1 c.2.2.1),c.2.1,c.2.2.1,c.2.2.2.1,c.2.2.2.2.1,c.2.2.2.2.2))
noncomputable def hi4 (a b:Array Keyed) (g ac bc:Nat) (o:Array Keyed) (i j:Nat):SM (ForInStep D7):=do
 let x <- elem' a (i-1)
 if (i-1 == 0)=true then pure (.done (some (dnH a b (o.push x) (i-1) j),i-1,j,o.push x,g,ac,bc))
 else if (decide (ac < 7) && decide (bc < 7))=true then pure (.done (none,i-1,j,o.push x,g,ac,bc))
 else pure (.yield (none,i-1,j,o.push x,g,ac,bc))
noncomputable def hi3 (a b:Array Keyed) (g ac bc:Nat) (o:Array Keyed) (i j:Nat):SM (ForInStep D7):=do
 let y <- elem' b (j-1)
 if (j-1 == 1)=true then pure (.done (some (fbH a b (o.push y) i (j-1)),i,j-1,o.push y,g,ac,bc))
 else do
  let x <- elem' a (i-1)
  let r <- gal true x b 0 (j-1) (j-1-1)
  match r with
  | some t=>
   if j-1-t > 0 then
    if (t == 1)=true then pure (.done (some (fbH a b (o.push y++(b.extract t (j-1)).reverse) i t),i,t,o.push y++(b.extract t (j-1)).reverse,g,ac,j-1-t))
    else if (t == 0)=true then pure (.done (some (dnH a b (o.push y++(b.extract t (j-1)).reverse) i t),i,t,o.push y++(b.extract t (j-1)).reverse,g,ac,j-1-t))
    else hi4 a b g ac (j-1-t) (o.push y++(b.extract t (j-1)).reverse) i t
   else hi4 a b g ac (j-1-t) (o.push y) i (j-1)
  | _=>pure (.done (some (dnH a b (o.push y) i (j-1)),i,j-1,o.push y,g,ac,bc))
noncomputable def hi2 (a b:Array Keyed) (g ac bc:Nat) (o:Array Keyed) (i j:Nat):SM (ForInStep D7):=do
 modify fun st=>setG st g
 let y <- elem' b (j-1)
 let r <- gal false y a 0 i (i-1)
 match r with
 | some t=>
  if i-t > 0 then
   if (t == 0)=true then pure (.done (some (dnH a b (o++(a.extract t i).reverse) t j),t,j,o++(a.extract t i).reverse,g,i-t,bc))
   else hi3 a b g (i-t) bc (o++(a.extract t i).reverse) t j
  else hi3 a b g (i-t) bc o i j
 | _=>pure (.done (some (dnH a b o i j),i,j,o,g,ac,bc))
noncomputable def hiB (a b:Array Keyed) (c:D7):SM (ForInStep D7) :=
 if c.2.2.2.2.1 > 1 then hi2 a b (c.2.2.2.2.1-1) c.2.2.2.2.2.1 c.2.2.2.2.2.2 c.2.2.2.1 c.2.1 c.2.2.1
 else hi2 a b c.2.2.2.2.1 c.2.2.2.2.2.1 c.2.2.2.2.2.2 c.2.2.2.1 c.2.1 c.2.2.1
noncomputable def hiO (a b:Array Keyed) (c:D5):SM (ForInStep D5):=do
 let c1 <- forIn [0:a.size+b.size] ((none,c.2.1,c.2.2.1,c.2.2.2.1,0,0):D6) fun _ d=>hi1 a b c.2.2.2.2 d
 match c1.1 with
 | some r=>pure (.done (some r,c1.2.1,c1.2.2.1,c1.2.2.2.1,c.2.2.2.2))
 | none=>do
  liftM (rule "list.sort.gallop")
  let c2 <- forIn [0:a.size+b.size] ((none,c1.2.1,c1.2.2.1,c1.2.2.2.1,c.2.2.2.2+1,c1.2.2.2.2.1,c1.2.2.2.2.2):D7) fun _ d=>hiB a b d
  match c2.1 with
  | some r=>pure (.done (some r,c2.2.1,c2.2.2.1,c2.2.2.2.1,c2.2.2.2.2.1))
  | none=>do
   modify fun st=>setG st (c2.2.2.2.2.1+1)
   pure (.yield (none,c2.2.1,c2.2.2.1,c2.2.2.2.1,c2.2.2.2.2.1+1))
theorem mHi_low (a b:Array Keyed):mHi a b=(do
 liftM (rule "list.sort.merge-hi")
 let x <- elem' a (a.size-1)
 if (a.size-1 == 0)=true then pure (dnH a b #[x] (a.size-1) b.size)
 else if (b.size == 1)=true then pure (fbH a b #[x] (a.size-1) b.size)
 else do
  let st <- get
  let c <- forIn [0:a.size+b.size] ((none,a.size-1,b.size,#[x],gallopOf st):D5) fun _ d=>hiO a b d
  match c.1 with
  | some r=>pure r
  | none=>liftM (unsupported "internal:list.sort.merge-bound":Sem (Array Keyed))):=by
 rw [mHi_eq]
 refine bnd _ fun _=>bnd _ fun y=>?_
 refine if2 rfl (if2 rfl ?_)
 refine bnd _ fun st=>bnd2 (for2 fun _ c=>?_) fun c=>?_
 .unfold hiO
  refine bnd2 (for2 fun _ d=>?_) fun c1=>?_
  .rfl
  .obtain ⟨r,i,j,o,ac,bc⟩:=c1
   cases r with
   | some r=>rfl
   | none=>
    refine bnd2 rfl fun _=>bnd2 (for2 fun _ d=>?_) fun c2=>?_
    .unfold hiB
     refine if2 ?_ ?_
     all_goals
      unfold hi2
      refine bnd2 rfl fun _=>bnd2 rfl fun y=>bnd2 rfl fun r=>?_
      cases r with
      | none=>rfl
      | some k=>
       refine if2 (if2 rfl ?_) ?_
       all_goals
        unfold hi3
        refine bnd2 rfl fun y2=>if2 rfl (bnd2 rfl fun x2=>bnd2 rfl fun r2=>?_)
        cases r2 with
        | none=>rfl
        | some k2=>
         refine if2 (if2 rfl (if2 rfl ?_)) ?_
         all_goals
          unfold hi4
          refine bnd2 rfl fun x3=>if2 rfl (if2 rfl rfl)
    .obtain ⟨r,i,j,o,g,ac,bc⟩:=c2
     cases r with
     | some r=>rfl
     | none=>rfl
 .obtain ⟨r,i,j,o,g⟩:=c
  cases r with
  | some r=>rfl
  | none=>rfl
end L2S
namespace L2S
open PySem PyProof.Rows
section
variable {M:Model} {A:Around} {E:Value->Shared->Prop} {s:Shared} {κ:SortKind} {a₀:Array Keyed} {f:Keyed->Int} {a b o:Array Keyed} {i j:Nat}
noncomputable abbrev JH (f:Keyed->Int) (a b o:Array Keyed) (i j:Nat):Prop:=Jm (fun x=>- f x) a.toList.reverse b.toList.reverse o.toList (a.size-i) (b.size-j)
theorem ZBg {a:Array Keyed} {i:Nat} (h:i <= a.size):a.toList.reverse.drop (a.size-i)=(a.toList.take i).reverse:=by
 rw [List.drop_reverse,yAP,show a.size-(a.size-i)=i by omega]
theorem ZEa (a:Array Keyed) (i:Nat):(a.extract 0 i).toList=a.toList.take i:=by
 rw [yCA,yCB,Nat.sub_zero]
 rfl
theorem ZEH {a:Array Keyed} {i:Nat} {x:Keyed} (h:i <= a.size) (hx:x∈a.toList.reverse.drop (a.size-i)):∃ k,k < i /\ kn f a k=f x:=by
 rw [ZBg h,List.mem_reverse] at hx
 obtain ⟨n,hn⟩:=yBN hx
 have hl:=(yAH.mp hn).1
 rw [yAM] at hl
 rw [yBX (by omega),yBF] at hn
 exact ⟨n,by omega,ZBI hn⟩
theorem good_rev {as bs r:List Keyed} (h:Good (fun x=>- f x) as.reverse bs.reverse r):Good f as bs r.reverse:=by
 refine ⟨?_,?_⟩
 .refine (List.reverse_perm r).trans (h.1.trans ?_)
  exact List.Perm.append (List.reverse_perm as) (List.reverse_perm bs)
 .rw [List.pairwise_reverse]
  refine h.2.imp fun {x y} z=>?_
  have w:- f x <= - f y:=z
  show f y <= f x
  omega
theorem JH.dn (h:JH f a b o i j) (hi:i <= a.size) (hj:j <= b.size) (e:i=0∨j=0):Fin f a b (dnH a b o i j):=by
 have g:=Jm.dn (Jm.swap h) (e.symm.imp (fun z=>by rw [ZBg hj,z];rfl) (fun z=>by rw [ZBg hi,z];rfl))
 have g2:=good_rev g
 rw [ZBg hi,ZBg hj,List.reverse_append,List.reverse_append,List.reverse_reverse,List.reverse_reverse,<- yAJ] at g2
 unfold Fin dnH
 rw [yBS,yBS,ZEa,ZEa,Array.toList_reverse]
 exact ⟨g2.1.trans yCH,g2.2⟩
theorem JH.fb (h:JH f a b o i j) (T:Two a₀ f a b) (hi:i <= a.size) (hj:j <= b.size) (e:j=1):Fin f a b (fbH a b o i j):=by
 have g:=Jm.la (Jm.swap h) fun x hx y hy=>by
  obtain ⟨k,k1,k2⟩:=ZEH (f:=f) hj hx
  obtain ⟨n,n1,n2⟩:=ZEH (f:=f) hi hy
  have:=T.lo n (by omega)
  rw [show k=0 by omega] at k2
  rw [k2,n2] at this
  show-f y <= - f x
  omega
 have g2:=good_rev g
 rw [ZBg hi,ZBg hj,List.reverse_append,List.reverse_append,List.reverse_reverse,List.reverse_reverse,<- yAJ] at g2
 unfold Fin fbH
 rw [yBS,yBS,ZEa,ZEa,Array.toList_reverse]
 exact ⟨g2.1.trans yCH,g2.2⟩
theorem JH.chunkA (h:JH f a b o i j) {t:Nat} (ht:t <= i) (hi:i <= a.size) (hj:j <= b.size) (hc:∀ n m,t <= n->n < i->m < j->kn f b m <= kn f a n):JH f a b (o++(a.extract t i).reverse) t j:=by
 have e:(a.toList.reverse.drop (a.size-i)).take (i-t)=(a.extract t i).reverse.toList:=by
  rw [ZBg hi,List.take_reverse,Array.toList_reverse,yCA,yCB,yAM,yAP,yBK hi,show i-(i-t)=t by omega,List.drop_take]
 have g:=Jm.chunk h (i-t) fun u hu y hy=>by
  obtain ⟨m,m1,m2⟩:=ZEH (f:=f) hj hy
  rw [e,Array.toList_reverse,List.mem_reverse,show i=t+(i-t) by omega,ZEM] at hu
  obtain ⟨n,n1,n2,n3,n4⟩:=mem_take (f:=f) hu
  have:=hc n m n1 (by omega) m1
  show-f u <= - f y
  omega
 rw [e] at g
 unfold JH
 rw [yBS,show a.size-t=a.size-i+(i-t) by omega]
 exact g
theorem JH.chunkB (h:JH f a b o i j) {t:Nat} (ht:t <= j) (hi:i <= a.size) (hj:j <= b.size) (hc:∀ n m,t <= n->n < j->m < i->kn f a m <= kn f b n):JH f a b (o++(b.extract t j).reverse) i t :=
 (JH.chunkA (Jm.swap h) ht hj hi hc).swap
theorem one_rev {x:Keyed} (hx:a[i-1]?=some x) (hi:1 <= i):(a.extract (i-1) i).reverse=#[x]:=by
 have e:(a.extract (i-1) i).toList=[x]:=by
  have:=ZEM a (i-1) 1
  rw [show i-1+1=i by omega] at this
  rw [this]
  exact ZEs hx
 apply Array.toList_inj.mp
 rw [Array.toList_reverse,e]
 rfl
theorem JH.pushA {x:Keyed} (h:JH f a b o i j) (hx:a[i-1]?=some x) (h1:1 <= i) (hi:i <= a.size) (hj:j <= b.size) (hc:∀ m,m < j->kn f b m <= f x):JH f a b (o.push x) (i-1) j:=by
 have g:=JH.chunkA h (t:=i-1) (by omega) hi hj fun n m n1 n2 m1=>by
  rw [show n=i-1 by omega,ZBI hx]
  exact hc m m1
 rw [one_rev hx h1] at g
 rw [show o.push x=o++#[x] from rfl]
 exact g
theorem JH.pushB {x:Keyed} (h:JH f a b o i j) (hx:b[j-1]?=some x) (h1:1 <= j) (hi:i <= a.size) (hj:j <= b.size) (hc:∀ m,m < i->kn f a m <= f x):JH f a b (o.push x) i (j-1) :=
 (JH.pushA (Jm.swap h) hx h1 hj hi hc).swap
structure At (f:Keyed->Int) (a b:Array Keyed) (x:Nat) (i j:Nat) (o:Array Keyed):Prop where
 J:JH f a b o i j
 i1:1 <= i
 i2:i <= a.size
 j1:2 <= j
 j2:j <= b.size
 p:x+i+j <= a.size+b.size
noncomputable def R7h (f:Keyed->Int) (a b:Array Keyed) (st:SortSt) (x:Nat):ForInStep D7->SortSt->Prop
 | .done c,st'=>Ev st st' /\ ((∃ r z,c=(some r,z) /\ Fin f a b r)∨∃ i j o g ac bc,c=(none,i,j,o,g,ac,bc) /\ At f a b x i j o)
 | .yield c,st'=>Ev st st' /\ ∃ i j o g ac bc,c=(none,i,j,o,g,ac,bc) /\ At f a b x i j o
theorem mHi_ok {st:SortSt} {Q:Array Keyed->SortSt->Prop} (L:Asks M A E s κ a₀ f) (hk:kindOf st=κ) (T:Two a₀ f a b) (h:∀ r st',Ev st st'->Fin f a b r->Q r st'):wpS M A E s (mHi a b) Q st:=by
 have ta:=T.na
 have tb:=T.nb
 have ua:∀ n m,n <= m->m < a.size->kn f a n <= kn f a m:=fun n m z1 z2=>T.ua n m (yAI _) z1 (by omega)
 have ub:∀ n m,n <= m->m < b.size->kn f b n <= kn f b m:=fun n m z1 z2=>T.ub n m (yAI _) z1 (by omega)
 have pr:∀ l:List Keyed,l.Pairwise (leK f)->l.reverse.Pairwise (leK fun x=>- f x):=fun l z=>by
  rw [List.pairwise_reverse]
  refine z.imp fun {x y} w=>?_
  have w':f x <= f y:=w
  show-f y <= - f x
  omega
 rw [mHi_low]
 refine wpS_bind (wpS_lift (wpAny_rule ⟨rfl,?_⟩))
 obtain ⟨x0,hx0⟩:=ZCZ (a:=a) (i:=a.size-1) (by omega)
 refine wpS_bind (ZAq hx0 ?_)
 have J0:JH f a b #[x0] (a.size-1) b.size:=by
  have e:JH f a b #[] a.size b.size:=⟨by simp,by simpa using pr _ (ZEz T.ua),by simpa using pr _ (ZEz T.ub)⟩
  exact JH.pushA e hx0 ta (yAA _) (yAA _) fun m m1=>by rw [<- ZBI (f:=f) hx0];exact T.hi m m1
 by_cases c1:a.size-1=0
 .rw [if_pos (by simpa using c1)]
  exact wpS_pure (h _ st .refl (J0.dn (by omega) (yAA _) (.inl c1)))
 rw [if_neg (by simpa using c1)]
 by_cases c2:b.size=1
 .rw [if_pos (by simpa using c2)]
  exact wpS_pure (h _ st .refl (J0.fb T (by omega) (yAA _) c2))
 rw [if_neg (by simpa using c2)]
 refine wpS_bind (wpS_get ?_)
 refine wpS_bind (wpS_mono (wpS_forRange (I:=fun x c st'=>Ev st st' /\ ∃ i j o g,c=(none,i,j,o,g) /\ At f a b (x+1) i j o) (Q:=fun c st'=>Ev st st' /\ ∃ r z,c=(some r,z) /\ Fin f a b r) ?_ ?_ ⟨.refl,_,_,_,_,rfl,J0,by omega,by omega,by omega,by omega,by omega⟩) ?_)
 .rintro x c st1 _ hx ⟨e1,i,j,o,g,rfl,W⟩
  unfold hiO
  dsimp only
  refine wpS_bind (wpS_mono (wpS_forRange (I:=fun y c st'=>Ev st st' /\ ∃ i j o ac bc,c=(none,i,j,o,ac,bc) /\ At f a b (x+1+y) i j o)
   (Q:=fun c st'=>Ev st st' /\ ((∃ r z,c=(some r,z) /\ Fin f a b r)∨∃ i j o ac bc,c=(none,i,j,o,ac,bc) /\ At f a b (x+2) i j o)) ?_ ?_ ⟨e1,i,j,o,0,0,rfl,W⟩) ?_)
  .rintro y c st2 _ hy ⟨e2,i,j,o,ac,bc,rfl,J,i1,i2,j1,j2,hp⟩
   unfold hi1
   dsimp only
   obtain ⟨yb,hyb⟩:=ZCZ (a:=b) (i:=j-1) (by omega)
   obtain ⟨xa,hxa⟩:=ZCZ (a:=a) (i:=i-1) (by omega)
   refine wpS_bind (ZAq hyb ?_)
   refine wpS_bind (ZAq hxa ?_)
   refine wpS_bind (L.lt yb xa (T.ib.get hyb) (T.ia.get hxa) st2 _ (e2.k.trans hk) ?_)
   by_cases hw:f yb < f xa
   .rw [decide_eq_true hw]
    dsimp only
    rw [if_pos rfl]
    refine wpS_bind (ZAq hxa ?_)
    have J2:=J.pushA hxa i1 i2 j2 fun m m1=>by
     have:=ub m (j-1) (by omega) (by omega)
     rw [ZBI hyb] at this
     omega
    by_cases c3:i-1=0
    .rw [if_pos (by simpa using c3)]
     exact wpS_pure ⟨e2,.inl ⟨_,_,rfl,J2.dn (by omega) j2 (.inl c3)⟩⟩
    rw [if_neg (by simpa using c3)]
    split
    .exact wpS_pure ⟨e2,.inr ⟨_,_,_,_,_,rfl,J2,by omega,by omega,j1,j2,by omega⟩⟩
    .exact wpS_pure ⟨e2,_,_,_,_,_,rfl,J2,by omega,by omega,j1,j2,by omega⟩
   .rw [decide_eq_false hw]
    dsimp only
    rw [if_neg (by decide)]
    refine wpS_bind (ZAq hyb ?_)
    have J2:=J.pushB hyb (by omega) i2 j2 fun m m1=>by
     have:=ua m (i-1) (by omega) (by omega)
     rw [ZBI hxa] at this
     omega
    by_cases c3:j-1=1
    .rw [if_pos (by simpa using c3)]
     exact wpS_pure ⟨e2,.inl ⟨_,_,rfl,J2.fb T i2 (by omega) c3⟩⟩
    rw [if_neg (by simpa using c3)]
    split
    .exact wpS_pure ⟨e2,.inr ⟨_,_,_,_,_,rfl,J2,i1,i2,by omega,by omega,by omega⟩⟩
    .exact wpS_pure ⟨e2,_,_,_,_,_,rfl,J2,i1,i2,by omega,by omega,by omega⟩
  .rintro c st2 ⟨e2,i,j,o,ac,bc,rfl,J,i1,i2,j1,j2,hp⟩
   exact ⟨e2,.inr ⟨_,_,_,_,_,rfl,J,i1,i2,j1,j2,by omega⟩⟩
  .rintro c st2 ⟨e2,⟨r,z,rfl,hr⟩ | ⟨i,j,o,ac,bc,rfl,W⟩⟩
   .exact wpS_pure ⟨e2,r,_,rfl,hr⟩
   dsimp only
   refine wpS_bind (wpS_lift (wpAny_rule ⟨rfl,?_⟩))
   refine wpS_bind (wpS_mono (wpS_forRange (I:=fun y c st'=>Ev st st' /\ ∃ i j o g ac bc,c=(none,i,j,o,g,ac,bc) /\ At f a b (x+2) i j o)
    (Q:=fun c st'=>Ev st st' /\ ((∃ r z,c=(some r,z) /\ Fin f a b r)∨∃ i j o g ac bc,c=(none,i,j,o,g,ac,bc) /\ At f a b (x+2) i j o)) ?_ ?_ ⟨e2,i,j,o,_,ac,bc,rfl,W⟩) ?_)
   .rintro y c st3 _ hy ⟨e3,i,j,o,g,ac,bc,rfl,J,i1,i2,j1,j2,hp⟩
    have four:∀ (g ac bc:Nat) (o:Array Keyed) (i j:Nat) (st4:SortSt) (xa:Keyed),Ev st st4->At f a b (x+2) i j o->a[i-1]?=some xa->(∀ n,n < j->kn f b n <= f xa)->wpS M A E s (hi4 a b g ac bc o i j) (R7h f a b st (x+2)) st4:=by
     rintro g ac bc o i j st4 xa e4 ⟨J,i1,i2,j1,j2,hp⟩ hxa hle
     unfold hi4
     refine wpS_bind (ZAq hxa ?_)
     have J2:=J.pushA hxa i1 i2 j2 hle
     by_cases c3:i-1=0
     .rw [if_pos (by simpa using c3)]
      exact wpS_pure ⟨e4,.inl ⟨_,_,rfl,J2.dn (by omega) j2 (.inl c3)⟩⟩
     rw [if_neg (by simpa using c3)]
     split
     .exact wpS_pure ⟨e4,.inr ⟨_,_,_,_,_,_,rfl,J2,by omega,by omega,j1,j2,by omega⟩⟩
     .exact wpS_pure ⟨e4,_,_,_,_,_,_,rfl,J2,by omega,by omega,j1,j2,by omega⟩
    have three:∀ (g ac bc:Nat) (o:Array Keyed) (i j:Nat) (st4:SortSt) (yb:Keyed),Ev st st4->At f a b (x+2) i j o->b[j-1]?=some yb->(∀ n,n < i->kn f a n <= f yb)->wpS M A E s (hi3 a b g ac bc o i j) (R7h f a b st (x+2)) st4:=by
     rintro g ac bc o i j st4 yb e4 ⟨J,i1,i2,j1,j2,hp⟩ hyb hle
     unfold hi3
     refine wpS_bind (ZAq hyb ?_)
     have J2:=J.pushB hyb (by omega) i2 j2 hle
     by_cases c3:j-1=1
     .rw [if_pos (by simpa using c3)]
      exact wpS_pure ⟨e4,.inl ⟨_,_,rfl,J2.fb T i2 (by omega) c3⟩⟩
     rw [if_neg (by simpa using c3)]
     obtain ⟨xa,hxa⟩:=ZCZ (a:=a) (i:=i-1) (by omega)
     refine wpS_bind (ZAq hxa ?_)
     refine wpS_bind (ZEL L (e4.k.trans hk) T.ib (T.ia.get hxa) (by omega) (by omega) (T.ub.sub (by omega)) fun t k1 k2 k3=>?_)
     dsimp only
     have rest:∀ n,n < t->kn f b n <= f xa:=fun n n1=>by
      have:=k2 n n1
      rw [yCD] at this
      omega
     by_cases hk0:j-1-t > 0
     .rw [if_pos hk0]
      have J3:=J2.chunkB k1 i2 (by omega) fun n m n1 n2 m1=>by
       have z:=k3 n n1 n2
       rw [yCD] at z
       have z2:=ua m (i-1) (by omega) (by omega)
       rw [ZBI hxa] at z2
       omega
      by_cases c4:t=1
      .rw [if_pos (by simpa using c4)]
       exact wpS_pure ⟨e4,.inl ⟨_,_,rfl,J3.fb T i2 (by omega) c4⟩⟩
      rw [if_neg (by simpa using c4)]
      by_cases c5:t=0
      .rw [if_pos (by simpa using c5)]
       exact wpS_pure ⟨e4,.inl ⟨_,_,rfl,J3.dn i2 (by omega) (.inr c5)⟩⟩
      rw [if_neg (by simpa using c5)]
      exact four _ _ _ _ _ _ _ xa e4 ⟨J3,i1,i2,by omega,by omega,by omega⟩ hxa rest
     .rw [if_neg hk0]
      have:t=j-1:=by omega
      subst this
      exact four _ _ _ _ _ _ _ xa e4 ⟨J2,i1,i2,by omega,by omega,by omega⟩ hxa rest
    have two:∀ (g ac bc:Nat),wpS M A E s (hi2 a b g ac bc o i j) (R7h f a b st (x+2)) st3:=by
     intro g ac bc
     unfold hi2
     obtain ⟨yb,hyb⟩:=ZCZ (a:=b) (i:=j-1) (by omega)
     refine wpS_bind (wpS_modify ?_)
     have e4:=e3.setG g
     refine wpS_bind (ZAq hyb ?_)
     refine wpS_bind (ZEv L (e4.k.trans hk) T.ia (T.ib.get hyb) (by omega) (by omega) (T.ua.sub (by omega)) fun t k1 k2 k3=>?_)
     dsimp only
     have rest:∀ n,n < t->kn f a n <= f yb:=fun n n1=>by
      have:=k2 n n1
      rw [yCD] at this
      exact this
     by_cases hk0:i-t > 0
     .rw [if_pos hk0]
      have J3:=J.chunkA k1 i2 j2 fun n m n1 n2 m1=>by
       have z:=k3 n n1 n2
       rw [yCD] at z
       have z2:=ub m (j-1) (by omega) (by omega)
       rw [ZBI hyb] at z2
       omega
      by_cases c4:t=0
      .rw [if_pos (by simpa using c4)]
       exact wpS_pure ⟨e4,.inl ⟨_,_,rfl,J3.dn (by omega) j2 (.inl c4)⟩⟩
      rw [if_neg (by simpa using c4)]
      exact three _ _ _ _ _ _ _ yb e4 ⟨J3,by omega,by omega,j1,j2,by omega⟩ hyb rest
     .rw [if_neg hk0]
      have:t=i:=by omega
      subst this
      exact three _ _ _ _ _ _ _ yb e4 ⟨J,i1,i2,j1,j2,hp⟩ hyb rest
    unfold hiB
    dsimp only
    split
    .exact wpS_mono (two _ _ _) fun r st' z=>by cases r <;> exact z
    .exact wpS_mono (two _ _ _) fun r st' z=>by cases r <;> exact z
   .rintro c st3 ⟨e3,i,j,o,g,ac,bc,rfl,W⟩
    exact ⟨e3,.inr ⟨_,_,_,_,_,_,rfl,W⟩⟩
   .rintro c st3 ⟨e3,⟨r,z,rfl,hr⟩ | ⟨i,j,o,g,ac,bc,rfl,W⟩⟩
    .exact wpS_pure ⟨e3,r,_,rfl,hr⟩
    .dsimp only
     exact wpS_bind (wpS_modify (wpS_pure ⟨e3.setG _,_,_,_,_,rfl,W⟩))
 .rintro c st1 ⟨e1,i,j,o,g,rfl,J,i1,i2,j1,j2,hp⟩
  omega
 .rintro c st1 ⟨e1,r,z,rfl,hr⟩
  exact wpS_pure (h r st1 e1 hr)
end
end L2S
namespace L2S
open PySem PyProof.Rows
noncomputable abbrev PT:=Nat×Nat×Nat
noncomputable def ZDJ (xs m:Array Keyed) (lo:Nat):Array Keyed:=m.toList.zipIdx.foldl (fun a (p,j)=>a.setIfInBounds (lo+j) p) xs
theorem mAt_eq (i:Nat):mergeAt' i=(do
 let z <- get
 let (some (s1,n1,w1),some (s2,n2,_)):=((pendingOf z)[i]?,(pendingOf z)[i+1]?) | unsupported "internal:list.sort.pending"
 set (setPending z (((pendingOf z).setIfInBounds i (s1,n1+n2,w1)).eraseIdxIfInBounds (i+1)))
 let some k <- gal false (<- elem' (arrOf z) s2) (arrOf z) s1 n1 0 | return false
 let (s1,n1):=(s1+k,n1-k)
 if n1 == 0 then return true
 let some n2 <- gal true (<- elem' (arrOf z) (s1+n1-1)) (arrOf z) s2 n2 (n2-1) | return false
 if n2 == 0 then return true
 let x:=(arrOf z).extract s1 s2
 let y:=(arrOf z).extract s2 (s2+n2)
 let m <- if n1 <= n2 then mLo x y else mHi x y
 modify fun z=>setArr z (ZDJ (arrOf z) m s1)
 return (failedOf (<- get)).isNone):=rfl
theorem wpS_set {M:Model} {A:Around} {E:Value->Shared->Prop} {s:Shared} {σ:Type} {x:σ} {Q:PUnit->σ->Prop} {st:σ} (h:Q ⟨⟩ x):wpS M A E s (set x:StateT σ Sem PUnit) Q st:=by
 unfold wpS;rw [StateT.run_set];exact wpAny_pure ⟨rfl,h⟩
theorem lay_go (lo:Nat):∀ (l:List Keyed) (k:Nat) (xs:Array Keyed),lo+k+l.length <= xs.size ->
  (((l.zipIdx k).foldl (fun a (p:Keyed×Nat)=>a.setIfInBounds (lo+p.2) p.1) xs).size=xs.size) /\ ∀ n,((l.zipIdx k).foldl (fun a (p:Keyed×Nat)=>a.setIfInBounds (lo+p.2) p.1) xs)[n]?=if lo+k <= n /\ n < lo+k+l.length then l[n-(lo+k)]? else xs[n]?
 | [],k,xs,_=>by
  refine ⟨rfl,fun n=>?_⟩
  rw [if_neg (fun z=>by rw [yBR] at z;omega)]
  rfl
 | x::r,k,xs,h=>by
  rw [yAG] at h
  rw [List.zipIdx_cons,List.foldl_cons]
  obtain ⟨i1,i2⟩:=lay_go lo r (k+1) (xs.setIfInBounds (lo+k) x) (by rw [Array.size_setIfInBounds];omega)
  refine ⟨by rw [i1,Array.size_setIfInBounds],fun n=>?_⟩
  rw [i2,yAG]
  by_cases c1:lo+(k+1) <= n /\ n < lo+(k+1)+r.length
  .rw [if_pos c1,if_pos (by omega),show n-(lo+k)=(n-(lo+(k+1)))+1 by omega,List.getElem?_cons_succ]
  .rw [if_neg c1,Array.getElem?_setIfInBounds]
   by_cases c2:lo+k=n
   .rw [if_pos c2,if_pos (by omega),if_pos (by omega),show n-(lo+k)=0 by omega]
    rfl
   .rw [if_neg c2,if_neg (by omega)]
theorem ZEJ {xs m:Array Keyed} {lo:Nat} (h:lo+m.size <= xs.size) (n:Nat):(ZDJ xs m lo)[n]?=if lo <= n /\ n < lo+m.size then m[n-lo]? else xs[n]?:=by
 have:=(lay_go lo m.toList 0 xs (by rw [yAP];omega)).2 n
 rw [yAP,Nat.add_zero,yBF] at this
 exact this
theorem lay_list {xs m:Array Keyed} {lo:Nat} (h:lo+m.size <= xs.size):(ZDJ xs m lo).toList=xs.toList.take lo++m.toList++xs.toList.drop (lo+m.size):=by
 refine List.ext_getElem? fun n=>?_
 rw [yBF,ZEJ h]
 by_cases c1:n < lo
 .rw [if_neg (by omega),yAJ,yBH (by rw [yAM,yAP];omega),yBX c1,yBF]
 .by_cases c2:n < lo+m.size
  .rw [if_pos (by omega),yAJ,yBA (by rw [yAM,yAP];omega),yAM,yAP,yBK (by omega),yBH (by rw [yAP];omega),yBF]
  .rw [if_neg (by omega),yBA (by rw [yAB,yAM,yAP,yAP];omega),yAB,yAM,yAP,yAP,yBK (by omega),yBT,yBF]
   congr 1
   omega
section
variable {M:Model} {A:Around} {E:Value->Shared->Prop} {s:Shared} {κ:SortKind} {a₀:Array Keyed} {f:Keyed->Int}
theorem SB.inA {st:SortSt} (h:SB κ a₀ st):InA a₀ (arrOf st):=fun x hx=>(Array.perm_iff_toList_perm.mp h.perm).mem_iff.mp hx
theorem ext_get {xs:Array Keyed} {i j n:Nat} (h:j <= xs.size) (hn:n < j-i):(xs.extract i j)[n]?=xs[i+n]?:=by
 rw [Array.getElem?_extract]
 rw [if_pos (by omega)]
theorem merge_at {st:SortSt} {i sa na w nb v:Nat} {Q:Bool->SortSt->Prop} (L:Asks M A E s κ a₀ f) (hB:SB κ a₀ st) (p1:(pendingOf st)[i]?=some (sa,na,w)) (p2:(pendingOf st)[i+1]?=some (sa+na,nb,v)) (na1:1 <= na) (nb1:1 <= nb) (hz:sa+na+nb <= a₀.size)
  (ua:Up f (arrOf st) sa na) (ub:Up f (arrOf st) (sa+na) nb)
  (h:∀ st',SB κ a₀ st'->pendingOf st'=((pendingOf st).setIfInBounds i (sa,na+nb,w)).eraseIdxIfInBounds (i+1)->Up f (arrOf st') sa (na+nb)->(∀ k,k < sa∨sa+na+nb <= k->(arrOf st')[k]?=(arrOf st)[k]?)->Q true st'):wpS M A E s (mergeAt' i) Q st:=by
 have hsz:=hB.size
 rw [mAt_eq]
 refine wpS_bind (wpS_get ?_)
 rw [p1,p2]
 dsimp only
 refine wpS_bind (wpS_set ?_)
 have hB1:SB κ a₀ (setPending st (((pendingOf st).setIfInBounds i (sa,na+nb,w)).eraseIdxIfInBounds (i+1))):=⟨hB.perm,hB.kind,hB.fail⟩
 obtain ⟨b0,hb0⟩:=ZCZ (a:=arrOf st) (i:=sa+na) (by omega)
 refine wpS_bind (ZAq hb0 ?_)
 refine wpS_bind (ZEv L hB1.kind hB.inA (hB.inA.get hb0) (by omega) (by omega) ua fun k k1 k2 k3=>?_)
 dsimp only
 have lowA:∀ n,sa <= n->n < sa+k->kn f (arrOf st) n <= f b0:=fun n n1 n2=>by
  have:=k2 (n-sa) (by omega)
  rw [show sa+(n-sa)=n by omega] at this
  exact this
 have fromB:∀ n,sa+na <= n->n < sa+na+nb->f b0 <= kn f (arrOf st) n:=fun n n1 n2=>by
  have:=ub (sa+na) n (yAA _) n1 n2
  rw [ZBI hb0] at this
  exact this
 by_cases c1:na-k=0
 .rw [if_pos (by simpa using c1)]
  refine wpS_pure (h _ hB1 rfl (fun n m n1 n2 n3=>?_) fun _ _=>rfl)
  by_cases d1:m < sa+na
  .exact ua n m n1 n2 d1
  .by_cases d2:n < sa+na
   .have z1:=lowA n n1 (by omega)
    have z2:=fromB m (by omega) (by omega)
    show kn f (arrOf st) n <= kn f (arrOf st) m
    omega
   .exact ub n m (by omega) n2 (by omega)
 rw [if_neg (by simpa using c1)]
 rw [show sa+k+(na-k)-1=sa+na-1 by omega]
 obtain ⟨aN,haN⟩:=ZCZ (a:=arrOf st) (i:=sa+na-1) (by omega)
 refine wpS_bind (ZAq haN ?_)
 refine wpS_bind (ZEL L hB1.kind hB.inA (hB.inA.get haN) (by omega) (by omega) ub fun t t1 t2 t3=>?_)
 dsimp only
 have highB:∀ n,sa+na+t <= n->n < sa+na+nb->f aN <= kn f (arrOf st) n:=fun n n1 n2=>by
  have:=t3 (n-(sa+na)) (by omega) (by omega)
  rw [show sa+na+(n-(sa+na))=n by omega] at this
  exact this
 have toA:∀ n,sa <= n->n < sa+na->kn f (arrOf st) n <= f aN:=fun n n1 n2=>by
  have:=ua n (sa+na-1) n1 (by omega) (by omega)
  rw [ZBI haN] at this
  exact this
 by_cases c2:t=0
 .rw [if_pos (by simpa using c2)]
  refine wpS_pure (h _ hB1 rfl (fun n m n1 n2 n3=>?_) fun _ _=>rfl)
  by_cases d1:m < sa+na
  .exact ua n m n1 n2 d1
  .by_cases d2:n < sa+na
   .have z1:=toA n n1 d2
    have z2:=highB m (by omega) (by omega)
    show kn f (arrOf st) n <= kn f (arrOf st) m
    omega
   .exact ub n m (by omega) n2 (by omega)
 rw [if_neg (by simpa using c2)]
 have x1:((arrOf st).extract (sa+k) (sa+na)).size=na-k:=by rw [Array.size_extract];omega
 have y1:((arrOf st).extract (sa+na) (sa+na+t)).size=t:=by rw [Array.size_extract];omega
 have xg:∀ n,n < na-k->kn f ((arrOf st).extract (sa+k) (sa+na)) n=kn f (arrOf st) (sa+k+n):=fun n hn=>ZA3 (ext_get (by omega) (by omega))
 have yg:∀ n,n < t->kn f ((arrOf st).extract (sa+na) (sa+na+t)) n=kn f (arrOf st) (sa+na+n):=fun n hn=>ZA3 (ext_get (by omega) (by omega))
 have hiA:∀ n,sa+k <= n->n < sa+na->f b0 < kn f (arrOf st) n:=fun n n1 n2=>by
  have:=k3 (n-sa) (by omega) (by omega)
  rw [show sa+(n-sa)=n by omega] at this
  exact this
 have inx:∀ (lo hi:Nat),InA a₀ ((arrOf st).extract lo hi):=fun lo hi x hx=>by
  rw [yCA,yCB] at hx
  exact hB.inA x (List.mem_of_mem_drop (List.mem_of_mem_take hx))
 have T:Two a₀ f ((arrOf st).extract (sa+k) (sa+na)) ((arrOf st).extract (sa+na) (sa+na+t)):={
  ia:=inx _ _
  ib:=inx _ _
  ua:=fun n m _ n2 n3=>by
   rw [xg n (by omega),xg m (by omega)]
   exact ua _ _ (by omega) (by omega) (by omega)
  ub:=fun n m _ n2 n3=>by
   rw [yg n (by omega),yg m (by omega)]
   exact ub _ _ (by omega) (by omega) (by omega)
  na:=by omega
  nb:=by omega
  lo:=fun n hn=>by
   rw [xg n (by omega),yg 0 (by omega),Nat.add_zero,ZBI hb0]
   exact Int.le_of_lt (hiA _ (by omega) (by omega))
  hi:=fun n hn=>by
   rw [x1,xg _ (by omega),yg n (by omega),show sa+k+(na-k-1)=sa+na-1 by omega,ZBI haN]
   exact Int.le_of_lt (t2 n (by omega)) }
 have fin:∀ m st',Ev (setPending st (((pendingOf st).setIfInBounds i (sa,na+nb,w)).eraseIdxIfInBounds (i+1))) st'->Fin f ((arrOf st).extract (sa+k) (sa+na)) ((arrOf st).extract (sa+na) (sa+na+t)) m ->
   wpS M A E s (modify (fun z=>setArr z (ZDJ (arrOf z) m (sa+k))) >>= fun _=>get >>= fun z=>pure (failedOf z).isNone) Q st':=by
  intro m st' ev g
  have ea:arrOf st'=arrOf st:=ev.a
  have hm:m.size=na-k+t:=by
   have:=g.1.length_eq
   rw [yAP,yAB,yAP,yAP,x1,y1] at this
   exact this
  refine wpS_bind (wpS_modify (wpS_bind (wpS_get (wpS_pure ?_))))
  have hf:failedOf st'=none:=ev.f.trans hB.fail
  show Q (failedOf st').isNone _
  rw [hf]
  have hl:sa+k+m.size <= (arrOf st).size:=by omega
  have mel:∀ n,n < m.size->∃ p,sa+k <= p /\ p < sa+na+t /\ kn f m n=kn f (arrOf st) p:=fun n hn=>by
   obtain ⟨x,hx⟩:=ZCZ (a:=m) hn
   have hxm:x∈m.toList:=by
    rw [yBG] at hx
    obtain ⟨_,rfl⟩:=hx
    simp
   have:=g.1.mem_iff.mp hxm
   rw [ZBI hx]
   rcases yBD.mp this with z | z
   .obtain ⟨q,q1⟩:=yBN z
    rw [yBF] at q1
    have q2:=(yBG.mp q1).1
    refine ⟨sa+k+q,by omega,by omega,?_⟩
    rw [<- xg q (by omega),ZBI q1]
   .obtain ⟨q,q1⟩:=yBN z
    rw [yBF] at q1
    have q2:=(yBG.mp q1).1
    refine ⟨sa+na+q,by omega,by omega,?_⟩
    rw [<- yg q (by omega),ZBI q1]
  have ms:∀ n q,n <= q->q < m.size->kn f m n <= kn f m q:=fun n q n1 n2=>by
   by_cases e:n=q
   .rw [e];exact Int.le_refl _
   .have:=List.pairwise_iff_getElem.mp g.2 n q (by rw [yAP];omega) (by rw [yAP];omega) (by omega)
    rw [ZBI (getElem?_pos m n (by omega)),ZBI (getElem?_pos m q n2)]
    simpa [leK] using this
  have lk:∀ n,kn f (ZDJ (arrOf st') m (sa+k)) n=if sa+k <= n /\ n < sa+na+t then kn f m (n-(sa+k)) else kn f (arrOf st) n:=fun n=>by
   rw [ea]
   have:=ZEJ hl n
   by_cases e:sa+k <= n /\ n < sa+na+t
   .rw [if_pos e]
    rw [if_pos (by omega)] at this
    exact ZA3 this
   .rw [if_neg e]
    rw [if_neg (by omega)] at this
    exact ZA3 this
  refine h (setArr st' (ZDJ (arrOf st') m (sa+k))) ⟨?_,ev.k.trans hB.kind,hf⟩ ev.p (fun n q n1 n2 n3=>?_) fun n hn=>?_
  .show (ZDJ (arrOf st') m (sa+k)).Perm a₀
   rw [ea]
   refine Array.Perm.trans ?_ hB.perm
   rw [Array.perm_iff_toList_perm,lay_list hl]
   have e1:(arrOf st).toList=(arrOf st).toList.take (sa+k)++(((arrOf st).extract (sa+k) (sa+na)).toList++((arrOf st).extract (sa+na) (sa+na+t)).toList)++(arrOf st).toList.drop (sa+k+m.size):=by
    rw [yCA,yCA,yCB,yCB]
    have s1:((arrOf st).toList.drop (sa+k)).take (sa+na-(sa+k))++((arrOf st).toList.drop (sa+na)).take (sa+na+t-(sa+na))=((arrOf st).toList.drop (sa+k)).take m.size:=by
     rw [show m.size=(sa+na-(sa+k))+(sa+na+t-(sa+na)) by omega,List.take_add,List.drop_drop,show sa+k+(sa+na-(sa+k))=sa+na by omega]
    rw [s1,yAJ,show (arrOf st).toList.drop (sa+k+m.size)=((arrOf st).toList.drop (sa+k)).drop m.size by rw [List.drop_drop],yBJ,yBJ]
   conv=>rhs;rw [e1]
   exact List.Perm.append_right _ (List.Perm.append_left _ g.1)
  .show kn f (ZDJ (arrOf st') m (sa+k)) n <= kn f (ZDJ (arrOf st') m (sa+k)) q
   rw [lk,lk]
   by_cases c3:sa+k <= n /\ n < sa+na+t
   .rw [if_pos c3]
    by_cases c4:sa+k <= q /\ q < sa+na+t
    .rw [if_pos c4]
     exact ms _ _ (by omega) (by omega)
    .rw [if_neg c4]
     obtain ⟨p,q1,q2,q3⟩:=mel (n-(sa+k)) (by omega)
     rw [q3]
     by_cases c5:p < sa+na
     .have z1:=toA p (by omega) c5
      have z2:=highB q (by omega) (by omega)
      omega
     .exact ub p q (by omega) (by omega) (by omega)
   .rw [if_neg c3]
    by_cases c4:sa+k <= q /\ q < sa+na+t
    .rw [if_pos c4]
     obtain ⟨p,q1,q2,q3⟩:=mel (q-(sa+k)) (by omega)
     rw [q3]
     have z1:=lowA n n1 (by omega)
     by_cases c5:p < sa+na
     .exact ua n p n1 (by omega) c5
     .have z2:=fromB p (by omega) (by omega)
      omega
    .rw [if_neg c4]
     by_cases c5:q < sa+na
     .exact ua n q n1 n2 c5
     .by_cases c6:n < sa+na
      .have z1:=lowA n n1 (by omega)
       have z2:=fromB q (by omega) (by omega)
       omega
      .exact ub n q (by omega) n2 (by omega)
  .show (ZDJ (arrOf st') m (sa+k))[n]?=(arrOf st)[n]?
   rw [ea,ZEJ hl,if_neg (by omega)]
 by_cases c3:na-k <= t
 .rw [if_pos c3]
  exact wpS_bind (mLo_ok L hB1.kind T fin)
 .rw [if_neg c3]
  exact wpS_bind (mHi_ok L hB1.kind T fin)
end
end L2S
namespace L2S
open PySem PyProof.Rows
section
variable {M:Model} {A:Around} {E:Value->Shared->Prop} {s:Shared} {κ:SortKind} {a₀:Array Keyed} {f:Keyed->Int}
noncomputable def Chn (f:Keyed->Int) (xs:Array Keyed):Nat->List PT->Nat->Prop
 | a,[],e=>a=e
 | a,(b,n,_)::r,e=>b=a /\ 1 <= n /\ Up f xs a n /\ Chn f xs (a+n) r e
theorem Chn.le {xs:Array Keyed}:∀ {l:List PT} {a e:Nat},Chn f xs a l e->a+l.length <= e
 | [],a,e,h=>by have:a=e:=h;rw [yBR];omega
 | (b,n,w)::r,a,e,h=>by
  obtain ⟨_,h1,_,h2⟩:=h
  have:=h2.le
  rw [yAG]
  omega
theorem Chn.keep {xs ys:Array Keyed}:∀ {l:List PT} {a e:Nat},Chn f xs a l e->(∀ k,a <= k->k < e->ys[k]?=xs[k]?)->Chn f ys a l e
 | [],a,e,h,_=>h
 | (b,n,w)::r,a,e,⟨h0,h1,h2,h3⟩,k=>by
  have hl:=h3.le
  refine ⟨h0,h1,fun i j z1 z2 z3=>?_,h3.keep fun m m1 m2=>k m (by omega) m2⟩
  rw [ZA3 (k i z1 (by omega)),ZA3 (k j (by omega) (by omega))]
  exact h2 i j z1 z2 z3
theorem Chn.app {xs:Array Keyed}:∀ {l m:List PT} {a e:Nat},Chn f xs a (l++m) e↔∃ c,Chn f xs a l c /\ Chn f xs c m e
 | [],m,a,e=>⟨fun h=>⟨a,rfl,h⟩,fun ⟨c,h1,h2⟩=>by have:a=c:=h1;rw [this];exact h2⟩
 | (b,n,w)::r,m,a,e=>by
  constructor
  .rintro ⟨h0,h1,h2,h3⟩
   obtain ⟨c,h4,h5⟩:=Chn.app.mp h3
   exact ⟨c,⟨h0,h1,h2,h4⟩,h5⟩
  .rintro ⟨c,⟨h0,h1,h2,h4⟩,h5⟩
   exact ⟨h0,h1,h2,Chn.app.mpr ⟨c,h4,h5⟩⟩
theorem two_of {l:List PT} {i:Nat} (h:i+1 < l.length):∃ l1 x y l2,l=l1++x::y::l2 /\ l1.length=i:=by
 refine ⟨l.take i,l[i],l[i+1],l.drop (i+2),?_,by rw [yAM];omega⟩
 rw [<- yCC (by omega),<- yCC (by omega),yBJ]
theorem join_of {l1 l2:List PT} {x y v:PT} {i:Nat} (h:l1.length=i):((l1++x::y::l2).set i v).eraseIdx (i+1)=l1++v::l2:=by
 subst h
 rw [List.set_append_right _ _ (yAA _),yBI,List.set_cons_zero,List.eraseIdx_append_of_length_le (by omega),show l1.length+1-l1.length=1 by omega]
 rfl
theorem join_at {st:SortSt} {i lo:Nat} {Q:Bool->SortSt->Prop} (L:Asks M A E s κ a₀ f) (hB:SB κ a₀ st) (hc:Chn f (arrOf st) 0 (pendingOf st).toList lo) (hlo:lo <= a₀.size) (hi:i+1 < (pendingOf st).size)
  (h:∀ st',SB κ a₀ st'->Chn f (arrOf st') 0 (pendingOf st').toList lo->(pendingOf st').size+1=(pendingOf st).size->(∀ k,lo <= k->(arrOf st')[k]?=(arrOf st)[k]?)->Q true st'):wpS M A E s (mergeAt' i) Q st:=by
 obtain ⟨l1,⟨b1,n1,w1⟩,⟨b2,n2,w2⟩,l2,el,hl⟩:=two_of (l:=(pendingOf st).toList) (i:=i) (by rw [yAP];exact hi)
 have hc':=hc
 rw [el] at hc'
 obtain ⟨c,c1,rfl,c2,c3,rfl,c4,c5,c6⟩:=Chn.app.mp hc'
 have le:=c6.le
 have p1:(pendingOf st)[i]?=some (b1,n1,w1):=by
  rw [<- yBF,el,yBA (by omega),hl,yBI]
  rfl
 have p2:(pendingOf st)[i+1]?=some (b1+n1,n2,w2):=by
  rw [<- yBF,el,yBA (by omega),show i+1-l1.length=1 by omega]
  rfl
 refine merge_at L hB p1 p2 c2 c4 (by omega) c3 c5 fun st' hB' hp hu hk=>?_
 have e2:(pendingOf st').toList=l1++(b1,n1+n2,w1)::l2:=by
  rw [hp,Array.toList_eraseIdxIfInBounds,Array.toList_setIfInBounds,el]
  exact join_of hl
 refine h st' hB' ?_ ?_ fun k hk2=>hk k (.inr (by omega))
 .rw [e2]
  have le1:=c1.le
  refine Chn.app.mpr ⟨b1,c1.keep fun k k1 k2=>hk k (.inl k2),rfl,by omega,hu,?_⟩
  rw [show b1+(n1+n2)=b1+n1+n2 by omega]
  exact c6.keep fun k k1 k2=>hk k (.inr k1)
 .have z1:=congrArg List.length e2
  have z2:=congrArg List.length el
  rw [yAP,yAB,yAG] at z1 z2
  rw [yAG] at z2
  omega
theorem Chn.pow {xs:Array Keyed} {l:List PT} {b n w v a e:Nat} (h:Chn f xs a (l++[(b,n,w)]) e):Chn f xs a (l++[(b,n,v)]) e:=by
 obtain ⟨c,c1,c2,c3,c4,c5⟩:=Chn.app.mp h
 exact Chn.app.mpr ⟨c,c1,c2,c3,c4,c5⟩
noncomputable def more (sz pw:Nat):SM (Option Unit×Unit):=forIn [0:sz] ((none,()):Option Unit×Unit) fun _ _=>do
 let z <- get
 match if (pendingOf z).size > 1 then (pendingOf z)[(pendingOf z).size-2]? else none with
 | some (_,_,old)=>
  if old <= pw then pure (ForInStep.done (none,()))
  else do
   let b <- mergeAt' ((pendingOf z).size-2)
   if (!b)=true then pure (ForInStep.done (some (),())) else pure (ForInStep.yield (none,()))
 | _=>pure (ForInStep.done (none,()))
noncomputable def pile (sz lo n:Nat):SM (ForInStep (Option Unit×Nat)):=do
 let z <- get
 match (pendingOf z).back? with
 | some (s1,n1,_)=>do
  let c <- more sz (power' sz (2 * s1+n1) (2 * s1+n1+n1+n) sz)
  match c.fst with
  | some r=>pure (ForInStep.done (some r,lo))
  | none=>do
   modify fun z=>setPending z ((pendingOf z).modify ((pendingOf z).size-1) fun x=>(x.fst,x.2.fst,power' sz (2 * s1+n1) (2 * s1+n1+n1+n) sz))
   modify fun z=>setPending z ((pendingOf z).push (lo,n,0))
   pure (ForInStep.yield (none,lo+n))
 | _=>do
  modify fun z=>setPending z ((pendingOf z).push (lo,n,0))
  pure (ForInStep.yield (none,lo+n))
noncomputable abbrev PQ (κ:SortKind) (a₀:Array Keyed) (f:Keyed->Int) (lo n:Nat) (st:SortSt):Prop:=SB κ a₀ st /\ Chn f (arrOf st) 0 (pendingOf st).toList lo /\ Up f (arrOf st) lo n
theorem more_ok {sz pw lo n:Nat} {st:SortSt} {Q:Option Unit×Unit->SortSt->Prop} (L:Asks M A E s κ a₀ f) (hlo:lo <= a₀.size) (hq:PQ κ a₀ f lo n st) (h:∀ st',PQ κ a₀ f lo n st'->Q (none,()) st'):wpS M A E s (more sz pw) Q st:=by
 unfold more
 refine wpS_forRange (I:=fun x c st'=>c=(none,()) /\ PQ κ a₀ f lo n st') ?_ ?_ ⟨rfl,hq⟩
 .rintro x c st1 _ _ ⟨rfl,hB,hc,hu⟩
  refine wpS_bind (wpS_get ?_)
  by_cases h1:(pendingOf st1).size > 1
  .rw [if_pos h1,getElem?_pos (pendingOf st1) ((pendingOf st1).size-2) (by omega)]
   dsimp only
   split
   .exact wpS_pure (h _ ⟨hB,hc,hu⟩)
   .refine wpS_bind (join_at L hB hc hlo (by omega) fun st2 hB2 hc2 _ hk2=>?_)
    exact wpS_pure ⟨rfl,hB2,hc2,fun i j z1 z2 z3=>by rw [ZA3 (hk2 i z1),ZA3 (hk2 j (by omega))];exact hu i j z1 z2 z3⟩
  .rw [if_neg h1]
   exact wpS_pure (h _ ⟨hB,hc,hu⟩)
 .rintro c st1 ⟨rfl,hq⟩
  exact h _ hq
theorem modify_last {p:Array PT} {w:Nat} {l:List PT} {b n v:Nat} (h:p.toList=l++[(b,n,v)]):(p.modify (p.size-1) fun x=>(x.fst,x.2.fst,w)).toList=l++[(b,n,w)]:=by
 have hs:p.size=l.length+1:=by rw [<- yAP,h,yAB];rfl
 refine List.ext_getElem? fun i=>?_
 rw [yBF,Array.getElem?_modify]
 rw [<- yBF,h]
 by_cases c:p.size-1=i
 .rw [if_pos c,yBA (by omega),yBA (by omega),show i-l.length=0 by omega]
  rfl
 .rw [if_neg c]
  by_cases c2:i < l.length
  .rw [yBH c2,yBH c2]
  .rw [yBY (by rw [yAB,yAT];omega),yBY (by rw [yAB,yAT];omega)]
theorem pile_ok {lo n:Nat} {st:SortSt} {Q:ForInStep (Option Unit×Nat)->SortSt->Prop} (L:Asks M A E s κ a₀ f) (hn:1 <= n) (hln:lo+n <= a₀.size) (hq:PQ κ a₀ f lo n st)
  (h:∀ st',SB κ a₀ st'->Chn f (arrOf st') 0 (pendingOf st').toList (lo+n)->Q (.yield (none,lo+n)) st'):wpS M A E s (pile a₀.size lo n) Q st:=by
 have fin:∀ st3:SortSt,PQ κ a₀ f lo n st3->wpS M A E s (modify (fun z=>setPending z ((pendingOf z).push (lo,n,0))) >>= fun _=>pure (ForInStep.yield ((none,lo+n):Option Unit×Nat))) Q st3:=by
  rintro st3 ⟨hB3,hc3,hu3⟩
  refine wpS_bind (wpS_modify (wpS_pure (h _ ⟨hB3.perm,hB3.kind,hB3.fail⟩ ?_)))
  show Chn f (arrOf st3) 0 ((pendingOf st3).push (lo,n,0)).toList (lo+n)
  rw [Array.toList_push]
  exact Chn.app.mpr ⟨lo,hc3,rfl,hn,hu3,rfl⟩
 unfold pile
 refine wpS_bind (wpS_get ?_)
 cases hb:(pendingOf st).back? with
 | none=>exact fin st hq
 | some t=>
  obtain ⟨s1,n1,w1⟩:=t
  dsimp only
  refine wpS_bind (more_ok L (by omega) hq fun st2 hq2=>?_)
  dsimp only
  refine wpS_bind (wpS_modify (fin _ ?_))
  obtain ⟨hB2,hc2,hu2⟩:=hq2
  refine ⟨⟨hB2.perm,hB2.kind,hB2.fail⟩,?_,hu2⟩
  show Chn f (arrOf st2) 0 ((pendingOf st2).modify _ _).toList lo
  rcases List.eq_nil_or_concat (pendingOf st2).toList with e | ⟨l,⟨b,k,v⟩,e⟩
  .have:pendingOf st2=#[]:=by rw [<- Array.toList_inj,e]
   rw [this] at hc2 ⊢
   exact hc2
  .rw [List.concat_eq_append] at e
   rw [modify_last e]
   rw [e] at hc2
   exact hc2.pow
theorem ite_less (c:Prop) [Decidable c] (n:Nat):(if c then n-1 else n) <= n:=by split <;> omega
theorem wpS_cast {α:Type} {m m':SM α} {Q Q':α->SortSt->Prop} {st:SortSt} (e:m=m') (h:wpS M A E s m' Q' st) (q:∀ a st',Q' a st'->Q a st'):wpS M A E s m Q st:=by rw [e];exact wpS_mono h q
theorem sort_runs {st:SortSt} {Q:Unit->SortSt->Prop} (L:Asks M A E s κ a₀ f) (hB:SB κ a₀ st) (hp:pendingOf st=#[]) (h2:2 <= a₀.size)
  (h:∀ st',SB κ a₀ st'->Up f (arrOf st') 0 a₀.size->Q () st'):wpS M A E s sortRuns' Q st:=by
 rw [sortRuns'_eq]
 refine wpS_bind (wpS_get ?_)
 dsimp only
 rw [hB.size]
 generalize minRun' a₀.size a₀.size 0=mr
 refine wpS_bind (wpS_mono (wpS_forRange (I:=fun x c st'=>∃ lo,c=(none,lo) /\ SB κ a₀ st' /\ Chn f (arrOf st') 0 (pendingOf st').toList lo /\ lo <= a₀.size /\ min x a₀.size <= lo)
  (Q:=fun c st'=>c=(none,a₀.size) /\ SB κ a₀ st' /\ Chn f (arrOf st') 0 (pendingOf st').toList a₀.size) ?_ ?_ ⟨0,rfl,hB,by rw [hp];rfl,by omega,by omega⟩) ?_)
 .rintro x c st1 _ hx ⟨lo,rfl,hB1,hc1,hlo,hxl⟩
  dsimp only
  by_cases hge:lo≥a₀.size
  .rw [if_pos hge]
   have:lo=a₀.size:=by omega
   subst this
   exact wpS_pure ⟨rfl,hB1,hc1⟩
  rw [if_neg hge]
  refine wpS_bind (count_run L (by omega) (by omega) hB1 fun m st2 hB2 hm1 hm2 hu2 hk2 hp2=>?_)
  dsimp only
  have hc2:Chn f (arrOf st2) 0 (pendingOf st2).toList lo:=by
   rw [hp2]
   exact hc1.keep fun k _ k2=>hk2 k k2
  have done:∀ (n:Nat) (st3:SortSt),1 <= n->lo+n <= a₀.size->PQ κ a₀ f lo n st3->wpS M A E s (pile a₀.size lo n)
    (fun r st'=>match r with | .done c'=>c'=(none,a₀.size) /\ SB κ a₀ st' /\ Chn f (arrOf st') 0 (pendingOf st').toList a₀.size | .yield c'=>∃ lo,c'=(none,lo) /\ SB κ a₀ st' /\ Chn f (arrOf st') 0 (pendingOf st').toList lo /\ lo <= a₀.size /\ min (x+1) a₀.size <= lo) st3 :=
   fun n st3 hn hln hq=>pile_ok L hn hln hq fun st' hB' hc'=>⟨lo+n,rfl,hB',hc',hln,by omega⟩
  by_cases hlt:m < mr
  .rw [if_pos hlt]
   refine wpS_bind (wpS_lift (wpAny_rule ⟨rfl,?_⟩))
   refine wpS_bind (bin_sort L (by omega) (by omega) hB2 hu2 fun st3 hB3 hu3 hk3 hp3=>?_)
   rw [if_neg (by decide)]
   refine wpS_cast (by
    refine bnd _ fun z=>?_
    cases (pendingOf z).back? with
    | none=>rfl
    | some t=>
     obtain ⟨s1,n1,w1⟩:=t
     refine bnd2 (for2 fun _ c=>bnd _ fun z2=>?_) fun c=>?_
     .generalize (if (pendingOf z2).size > 1 then (pendingOf z2)[(pendingOf z2).size-2]? else none)=t2
      cases t2 with
      | none=>rfl
      | some t2=>rfl
     .obtain ⟨r,u⟩:=c
      cases r with
      | none=>rfl
      | some r=>rfl) (done _ st3 (by omega) (by omega) ⟨hB3,by rw [hp3];exact hc2.keep fun k _ k2=>hk3 k k2,hu3⟩) fun r st' z=>by cases r <;> exact z
  .rw [if_neg hlt]
   refine wpS_cast (by
    refine bnd _ fun z=>?_
    cases (pendingOf z).back? with
    | none=>rfl
    | some t=>
     obtain ⟨s1,n1,w1⟩:=t
     refine bnd2 (for2 fun _ c=>bnd _ fun z2=>?_) fun c=>?_
     .generalize (if (pendingOf z2).size > 1 then (pendingOf z2)[(pendingOf z2).size-2]? else none)=t2
      cases t2 with
      | none=>rfl
      | some t2=>rfl
     .obtain ⟨r,u⟩:=c
      cases r with
      | none=>rfl
      | some r=>rfl) (done m st2 hm1 (by omega) ⟨hB2,hc2,hu2⟩) fun r st' z=>by cases r <;> exact z
 .rintro c st1 ⟨lo,rfl,hB1,hc1,hlo,hxl⟩
  have:lo=a₀.size:=by omega
  subst this
  exact ⟨rfl,hB1,hc1⟩
 .rintro c st1 ⟨rfl,hB1,hc1⟩
  dsimp only
  refine wpS_bind (wpS_mono (wpS_forRange (I:=fun x c st'=>c=(none,()) /\ SB κ a₀ st' /\ Chn f (arrOf st') 0 (pendingOf st').toList a₀.size /\ ((pendingOf st').size+x <= a₀.size∨(pendingOf st').size <= 1))
   (Q:=fun c st'=>c=(none,()) /\ SB κ a₀ st' /\ Chn f (arrOf st') 0 (pendingOf st').toList a₀.size /\ (pendingOf st').size <= 1) ?_ ?_ ?_) ?_)
  .rintro x c st2 _ hx ⟨rfl,hB2,hc2,hz2⟩
   refine wpS_bind (wpS_get ?_)
   by_cases h1:(pendingOf st2).size <= 1
   .rw [if_pos h1]
    exact wpS_pure ⟨rfl,hB2,hc2,h1⟩
   rw [if_neg h1]
   have go:∀ i,i+1 < (pendingOf st2).size->wpS M A E s (mergeAt' i >>= fun b=>if (!b)=true then pure (ForInStep.done (some (),())) else pure (ForInStep.yield ((none,()):Option Unit×Unit)))
     (fun r st'=>match r with | .done c'=>c'=(none,()) /\ SB κ a₀ st' /\ Chn f (arrOf st') 0 (pendingOf st').toList a₀.size /\ (pendingOf st').size <= 1 | .yield c'=>c'=(none,()) /\ SB κ a₀ st' /\ Chn f (arrOf st') 0 (pendingOf st').toList a₀.size /\ ((pendingOf st').size+(x+1) <= a₀.size∨(pendingOf st').size <= 1)) st2:=fun i hi=>by
    refine wpS_bind (join_at L hB2 hc2 (yAA _) hi fun st3 hB3 hc3 hz3 _=>?_)
    exact wpS_pure ⟨rfl,hB3,hc3,by omega⟩
   refine wpS_mono (go _ ?_) fun r st' z=>by cases r <;> exact z
   exact Nat.lt_of_le_of_lt (Nat.add_le_add_right (ite_less _ _) 1) (by omega)
  .rintro c st2 ⟨rfl,hB2,hc2,hz2⟩
   exact ⟨rfl,hB2,hc2,by omega⟩
  .refine ⟨rfl,hB1,hc1,.inl ?_⟩
   have:=hc1.le
   rw [yAP] at this
   omega
  .rintro c st2 ⟨rfl,hB2,hc2,hz2⟩
   refine wpS_pure (h st2 hB2 ?_)
   cases e:(pendingOf st2).toList with
   | nil=>
    rw [e] at hc2
    have:0=a₀.size:=hc2
    omega
   | cons t r=>
    have hl:=congrArg List.length e
    rw [yAP,yAG] at hl
    have hr:r=[]:=List.length_eq_zero_iff.mp (by omega)
    subst hr
    obtain ⟨b,n,w⟩:=t
    rw [e] at hc2
    obtain ⟨_,_,hu,hn⟩:=hc2
    have:0+n=a₀.size:=hn
    rw [yCD] at this
    rw [<- this]
    exact hu
end
end L2S
namespace L2S
open PySem PyProof.Rows
noncomputable abbrev ZCW (h:Heap) (a:Addr) (vs:List Value):Heap:=((h.update a (Obj.mapSeq fun _=>#[])).push (seqObj "tuple" vs.toArray 0)).push (seqObj "list" #[] 0)
section
variable {prog:Program} {w:World} {A:Around} {E:Value->Shared->Prop} {s:Shared}
theorem mid_old {h:Heap} {a b:Addr} {vs:List Value} {o:Obj} (hb:b≠a) (e:h.get? b=some o):(ZCW h a vs).get? b=some o:=by
 refine Heap.get?_push_of_some _ (Heap.get?_push_of_some _ ?_)
 exact (Heap.get?_update_other _ _ (Ne.symm hb)).trans e
theorem sort_any {a:Addr} {vs:List Value} {n:Nat} {κ:SortKind} {f:Keyed->Int} {P:PySem.Fin->Shared->Prop} (ho:s.heap.get? a=some (seqObj "list" vs.toArray n)) (hz:vs.length <= 1000)
  (hkind:2 <= vs.length->∀ Q':SortKind->Shared->Prop,Q' κ { s with heap:=ZCW s.heap a vs }->wpAny (model prog w) A (keyKind' vs.toArray) Q' E { s with heap:=ZCW s.heap a vs })
  (hask:2 <= vs.length->Asks (model prog w) A E { s with heap:=ZCW s.heap a vs } κ (pairsOf vs) f)
  (h:∀ out:Array Keyed,out.Perm (pairsOf vs)->Up f out 0 vs.length->P (.done (.ret .none)) { s with heap:=sortedHeap s.heap a vs (out.map (·.2)) }):wpAny (model prog w) A (Builtin.«list.sort» ⟨[.ref a],[]⟩) P E s:=by
 rw [list_sort_plain]
 have ha:a < s.heap.objs.size:=Heap.lt_size ho
 refine wpAny_bind (listItems_at ho rfl ?_)
 refine wpAny_bind (listUpdate_at ho rfl ?_)
 obtain ⟨e1,ho1⟩:∃ e1,(s.heap.update a (Obj.mapSeq fun _=>#[])).get? a=some (seqObj "list" #[] e1):=⟨_,get?_update_seq ho (fun _=>#[])⟩
 refine wpAny_bind (seqEpoch_at ho1 rfl ?_)
 refine wpAny_bind (wpAny_newTuple (wpAny_bind (wpAny_newList (wpAny_holding ?_))))
 have ho6:(ZCW s.heap a vs).get? a=some (seqObj "list" #[] e1):=Heap.get?_push_of_some _ (Heap.get?_push_of_some _ ho1)
 show wpAny (model prog w) A _ P E { s with heap:=ZCW s.heap a vs }
 dsimp only
 have hsz:vs.toArray.size=vs.length:=yAO ..
 have hl:vs.length <= sizeLine:=yAK hz (by decide)
 rw [hsz]
 by_cases h2:vs.length < 2
 .rw [if_pos h2,if_pos h2]
  refine wpAny_bind (wpAny_pure ?_)
  rw [StateT.run_pure]
  refine wpAny_bind (wpAny_pure ?_)
  dsimp only
  refine wpAny_bind (seqEpoch_at ho6 rfl ?_)
  refine wpAny_bind (listUpdate_at ho6 rfl ?_ (hsz2:=by rw [Array.size_map];show (pairsOf vs).size <= _;rw [pairsOf_size];omega))
  rw [if_neg (by simp)]
  exact wpAny_pure (h (pairsOf vs) (Array.Perm.refl _) fun i j _ z2 z3=>by rw [show i=j by omega];exact Int.le_refl _)
 .rw [if_neg h2,if_neg h2]
  refine wpAny_bind (hkind (by omega) _ ?_)
  refine wpAny_bind (wpAny_mono (sort_runs (st:=SortSt.mk' κ (vs.toArray.zip vs.toArray) #[] 7 none) (Q:=fun _ st'=>SB κ (pairsOf vs) st' /\ Up f (arrOf st') 0 (pairsOf vs).size) (hask (by omega)) ⟨Array.Perm.refl _,rfl,rfl⟩ rfl (by rw [pairsOf_size];omega) fun st' a1 a2=>⟨a1,a2⟩) ?_ fun _ _ e=>e)
  rintro ⟨⟨⟩,st'⟩ s' ⟨rfl,hB,hu⟩
  dsimp only
  refine wpAny_bind (seqEpoch_at ho6 rfl ?_)
  have hs:(arrOf st').size=(pairsOf vs).size:=hB.size
  rw [pairsOf_size] at hs hu
  refine wpAny_bind (listUpdate_at ho6 rfl ?_ (hsz2:=by rw [Array.size_map];omega))
  rw [hB.fail,if_neg (by simp)]
  exact wpAny_pure (h _ hB.perm hu)
theorem sorted_any {l:Addr} {vs:List Value} {κ:SortKind} {f:Keyed->Int} {Q:Value->Shared->Prop} (hl:s.heap.IsList l vs.toArray) (hz:vs.length <= 1000)
  (hkind:∀ h':Heap,(∀ b o,s.heap.get? b=some o->h'.get? b=some o)->2 <= vs.length->∀ (A':Around) (E':Value->Shared->Prop) (Q':SortKind->Shared->Prop),A'.units <= A.units+8->Q' κ { s with heap:=h' }->wpAny (model prog w) A' (keyKind' vs.toArray) Q' E' { s with heap:=h' })
  (hask:∀ h':Heap,(∀ b o,s.heap.get? b=some o->h'.get? b=some o)->2 <= vs.length->∀ (A':Around) (E':Value->Shared->Prop),A'.units <= A.units+8->Asks (model prog w) A' E' { s with heap:=h' } κ (pairsOf vs) f)
  (h:∀ out:Array Keyed,out.Perm (pairsOf vs)->Up f out 0 vs.length->Q (.ref (s.heap.objs.size+1)) { s with heap:=sortedAll s.heap vs (out.map (·.2)) }):wpAny (model prog w) A (call (.builtin "sorted") [.ref l]) Q E s:=by
 refine Calls.call_function_entry kind_sorted plain_sorted entry_sorted (args_sorted1 _) ?_
 unfold Builtin.«sorted»
 refine wpAny_bind (m:=checkCount "sorted" 1 1 _) (wpAny_pure ?_)
 refine wpAny_bind (collect_list hl ?_ (yAK hz (by decide)))
 refine wpAny_bind (wpAny_newList ?_)
 have z1:((s.heap.push (seqObj "list" #[] 0)).update s.heap.objs.size (Obj.mapSeq (·++vs.toArray))).objs.size=s.heap.objs.size+1:=(Heap.size_update ..).trans (size_push' ..)
 have g1:(((s.heap.push (seqObj "list" #[] 0)).update s.heap.objs.size (Obj.mapSeq (·++vs.toArray))).push (seqObj "list" vs.toArray 0)).get? (s.heap.objs.size+1)=some (seqObj "list" vs.toArray 0):=by
  rw [<- z1];exact Heap.get?_push_size _ rfl
 have old:∀ b o,s.heap.get? b=some o->(ZCW (((s.heap.push (seqObj "list" #[] 0)).update s.heap.objs.size (Obj.mapSeq (·++vs.toArray))).push (seqObj "list" vs.toArray 0)) (s.heap.objs.size+1) vs).get? b=some o:=fun b o e=>by
  have lt:=Heap.lt_size e
  refine mid_old (yAU (Nat.lt_succ_of_lt lt)) (Heap.get?_push_of_some _ ?_)
  exact (Heap.get?_update_other _ _ (Nat.ne_of_gt lt)).trans (Heap.get?_push_of_some _ e)
 show wpAny _ _ _ _ _ { s with heap:=((s.heap.push (seqObj "list" #[] 0)).update s.heap.objs.size (Obj.mapSeq (·++vs.toArray))).push (seqObj "list" vs.toArray 0) }
 rw [z1]
 refine wpAny_bind (wpAny_holding (wpAny_call_entry slot_list_sort ⟨_,g1,rfl⟩ entry_list_sort (sort_any g1 hz (fun h2 Q' q=>hkind _ old h2 _ _ Q' ?_ q) (fun h2=>hask _ old h2 _ _ ?_) fun out a1 a2=>⟨_,rfl,?_⟩) (args_list_sort _)))
 .show A.units+1+1 <= A.units+8;omega
 .show A.units+1+1 <= A.units+8;omega
 .exact wpAny_pure ⟨_,rfl,h out a1 a2⟩
end
end L2S
namespace L2
open PySem PySem.Spec PyProof.Rows L2S
theorem kn_K {xs:Array Keyed} {i:Nat}:kn (fun p=>numOf p.1) xs i=PyProof.Rows.K xs i:=by
 unfold kn PyProof.Rows.K
 cases xs[i]? <;> rfl
section
variable {prog:Program} {w:World} {A:Around} {E:Value->Shared->Prop} {s:Shared}
theorem asks_ints {a₀:Array Keyed} (h0:IntKeys a₀):Asks (model prog w) A E s oneType' a₀ fun p=>numOf p.1 where
 lt:=fun x y hx hy st Q hk q=>by
  obtain ⟨n,t,e1⟩:=h0 x hx
  obtain ⟨m,u,e2⟩:=h0 y hy
  rw [lt'_eq]
  refine wpS_bind (wpS_get ?_)
  rw [hk,keyLt'_oneType]
  rw [e1,e2] at q ⊢
  exact wpS_bind (wpS_lift (wpAny_attempt (oneLt_int ⟨rfl,wpS_pure q⟩)))
theorem kind_of_ints {vs:List Value} {ns:List Int} (hI:IntsAre vs ns) (h2:2 <= vs.length):keyKind' vs.toArray=pure oneType':=by
 cases vs with
 | nil=>exact absurd h2 (by simp)
 | cons v₁ r=>
  cases r with
  | nil=>exact absurd h2 (by simp)
  | cons v₂ r=>exact keyKind_ints hI
theorem sorted_intsB {l:Addr} {vs:List Value} {ns:List Int} {Q:Value->Shared->Prop} (hl:s.heap.IsList l vs.toArray) (hI:IntsAre vs ns) (hz:vs.length <= 1000)
  (h:∀ (out:Array Value) (ns':List Int),IntsAre out.toList ns'->ns'.Perm ns->ns'.Pairwise (· <= ·)->Q (.ref (s.heap.objs.size+1)) { s with heap:=sortedAll s.heap vs out }):wpAny (model prog w) A (call (.builtin "sorted") [.ref l]) Q E s:=by
 refine sorted_any (κ:=oneType') (f:=fun p=>numOf p.1) hl hz (fun h' _ h2 A' E' Q' _ q=>?_) (fun h' _ h2 A' E' _=>asks_ints hI.intKeys) fun out hp hu=>?_
 .rw [kind_of_ints hI h2]
  exact wpAny_pure q
 .obtain ⟨ns',a1,a2,a3⟩:=sorted_out hI hp (fun i j z1 z2=>by
   rw [pairsOf_size] at z2
   have:=hu i j (yAI _) z1 (by omega)
   rw [kn_K,kn_K] at this
   exact this)
  exact h _ ns' a1 a2 a3
end
section
variable {X:Cx}
theorem ZB9:ZCN X (.builtin "sorted") (fun xs H Q=>∃ (p:Addr) (ns:List Int),xs=[.ref p] /\ SqL X.K H p (ns.map V.int) /\ ns.length <= 1000 /\ ∀ (l:Addr) (ms:List Int),H l=none->ms.Perm ns->ms.Pairwise (· <= ·)->Q (.ref l) (upd H l (.lst (ms.map V.int)))):=by
 intro pins s σ H xs us Q I r h
 obtain ⟨p,ns,rfl,hq,hn,q⟩:=h
 obtain ⟨u,rfl,rx⟩:=ZDu r
 cases rx
 obtain ⟨its,r',pl,hz⟩:=I.list hq
 have hlen:=r'.length
 rw [yAC] at hlen
 refine sorted_intsB pl.isList (intsAre_of r') (by omega) fun out ns' a1 a2 a3=>?_
 obtain ⟨e,he⟩:=sortedAll_at s.heap its out
 have hl':ns'.length=ns.length:=a2.length_eq
 refine ⟨.ref (s.heap.objs.size+1),_,I.laid (t':=s.toks) (fun b o e=>sortedAll_old e) (yAZ _) (o:=.lst (ns'.map V.int)) ⟨?_,out.toList,e,ZC4 a1,by simpa using he⟩,rfl,q _ ns' (I.hok.fresh (yAZ _)) a2 a3⟩
 rw [yAC]
 exact ZAU (by omega)
end
open PySem PySem.Spec PyProof.Rows L2S
noncomputable def lxP (x y:Int×Int):Prop:=x.1 < y.1∨(x.1=y.1 /\ x.2 < y.2)
noncomputable instance (x y:Int×Int):Decidable (lxP x y):=by unfold lxP;exact inferInstance
noncomputable abbrev PrA:=Addr×Int×Int
noncomputable def ZDF (zs:List PrA) (v:Int×Int):Nat:=zs.countP fun z=>decide (lxP z.2 v)
theorem rank_lt {zs:List PrA} {x:PrA} {v:Int×Int} (hx:x∈zs):ZDF zs x.2 < ZDF zs v↔lxP x.2 v:=by
 have mono:∀ (l:List PrA) (a b:Int×Int),(∀ z:Int×Int,lxP z a->lxP z b)->l.countP (fun z=>decide (lxP z.2 a)) <= l.countP (fun z=>decide (lxP z.2 b)):=fun l a b h=>
  List.countP_mono_left fun z _ e=>decide_eq_true (h _ (of_decide_eq_true e))
 constructor
 .intro h
  by_cases e:lxP x.2 v
  .exact e
  .have:=mono zs v x.2 fun z hz=>by unfold lxP at *;omega
   unfold ZDF at h
   omega
 .intro h
  obtain ⟨s,t,rfl⟩:=List.append_of_mem hx
  unfold ZDF
  rw [List.countP_append,List.countP_append,List.countP_cons,List.countP_cons]
  have m:∀ z:Int×Int,lxP z x.2->lxP z v:=fun z hz=>by unfold lxP at *;omega
  have h1:=mono s x.2 v m
  have h2:=mono t x.2 v m
  have h3:decide (lxP x.2 x.2)=false:=decide_eq_false (by unfold lxP;omega)
  rw [h3,decide_eq_true h]
  simp only [Bool.false_eq_true,if_false,if_true]
  omega
section
variable {prog:Program} {w:World} {A:Around} {E:Value->Shared->Prop} {s:Shared}
noncomputable def PairAt (h:Heap) (z:PrA):Prop:=∃ o t u n,h.get? z.1=some o /\ o.cls=.type "tuple" /\ o.data=.seq #[.int z.2.1 t,.int z.2.2 u] n
theorem PairAt.keep {h h':Heap} {z:PrA} (p:PairAt h z) (k:∀ b o,h.get? b=some o->h'.get? b=some o):PairAt h' z:=let ⟨o,t,u,n,a,b,c⟩:=p;⟨o,t,u,n,k _ _ a,b,c⟩
noncomputable def ZEy (zs:List PrA):Value->Int×Int
 | .ref a=>((zs.find? fun z=>decide (z.1=a)).map (·.2)).getD (0,0)
 | _=>(0,0)
theorem ZEg {h:Heap} {zs:List PrA} (hp:∀ z∈zs,PairAt h z) {z:PrA} (hz:z∈zs):ZEy zs (.ref z.1)=z.2:=by
 show ((zs.find? fun y=>decide (y.1=z.1)).map (·.2)).getD (0,0)=z.2
 cases e:zs.find? fun y=>decide (y.1=z.1) with
 | none=>exact absurd (List.find?_eq_none.mp e z hz) (by simp)
 | some y=>
  have h1:y.1=z.1:=by simpa using List.find?_some e
  have h2:=List.mem_of_find?_eq_some e
  obtain ⟨o,t,u,n,a1,_,a3⟩:=hp y h2
  obtain ⟨o',t',u',n',b1,_,b3⟩:=hp z hz
  rw [h1,b1] at a1
  cases a1
  rw [b3] at a3
  have e1:y.2=z.2:=by
   injection a3 with a4 a5
   have a6:=congrArg Array.toList a4
   simp at a6
   exact Prod.ext a6.1.1.symm a6.2.1.symm
  exact e1
theorem kat_ints {a b a' b':Int} {t u t' u':Tok} {Q:Bool->Shared->Prop} (h:Q (decide (lxP (a,b) (a',b'))) s):PySem.W.KatLex prog w A true false Q [(.int a t,.int a' t'),(.int b u,.int b' u')] 0 s:=by
 refine PySem.W.kat_cons (wpAny_eqBool_int ?_)
 by_cases e:a=a'
 .rw [show (a == a')=true by simpa using e]
  refine PySem.W.kat_yes (PySem.W.kat_cons (wpAny_eqBool_int ?_))
  by_cases e2:b=b'
  .rw [show (b == b')=true by simpa using e2]
   refine PySem.W.kat_yes (PySem.W.kat_nil ?_)
   rw [decide_eq_false (by unfold lxP;dsimp only;omega)] at h
   exact h
  .rw [show (b == b')=false by simpa using e2]
   refine PySem.W.kat_no (PySem.W.kat_one _ _ (lt_int ?_))
   have e3:decide (lxP (a,b) (a',b'))=decide (b < b'):=by
    by_cases z:b < b'
    .rw [decide_eq_true z];exact decide_eq_true (by unfold lxP;dsimp only;omega)
    .rw [decide_eq_false z];exact decide_eq_false (by unfold lxP;dsimp only;omega)
   rw [e3] at h
   exact h
 .rw [show (a == a')=false by simpa using e]
  refine PySem.W.kat_no ?_
  have e3:decide (lxP (a,b) (a',b'))=decide (a < a'):=by
   by_cases z:a < a'
   .rw [decide_eq_true z];exact decide_eq_true (by unfold lxP;dsimp only;omega)
   .rw [decide_eq_false z];exact decide_eq_false (by unfold lxP;dsimp only;omega)
  rw [e3] at h
  exact oneLt_int h
theorem asks_pairs {zs:List PrA} (hp:∀ z∈zs,PairAt s.heap z):Asks (model prog w) A E s (tuples' true) (pairsOf (zs.map fun z=>Value.ref z.1)) fun p=>(ZDF zs (ZEy zs p.1):Int) where
 lt:=fun x y hx hy st Q hk q=>by
  have of:∀ p:Keyed,p∈(pairsOf (zs.map fun z=>Value.ref z.1)).toList->∃ z∈zs,p.1=.ref z.1:=fun p hpm=>by
   rw [pairsOf_toList] at hpm
   obtain ⟨z,hz,e⟩:=List.mem_map.mp (mem_zip_self hpm).2
   exact ⟨z,hz,e.symm⟩
  obtain ⟨z,hz,ez⟩:=of x hx
  obtain ⟨y',hy',ey⟩:=of y hy
  rw [ez,ey,ZEg hp hz,ZEg hp hy'] at q
  have er:decide ((ZDF zs z.2:Int) < (ZDF zs y'.2:Int))=decide (lxP z.2 y'.2):=by
   have:=rank_lt (v:=y'.2) hz
   by_cases e:lxP z.2 y'.2
   .rw [decide_eq_true e];exact decide_eq_true (by have:=this.mpr e;omega)
   .rw [decide_eq_false e];exact decide_eq_false (fun c=>e (this.mp (by omega)))
  rw [er] at q
  rw [lt'_eq]
  refine wpS_bind (wpS_get ?_)
  rw [hk,ez,ey]
  obtain ⟨o,t,u,n,a1,a2,a3⟩:=hp z hz
  obtain ⟨o',t',u',n',b1,b2,b3⟩:=hp y' hy'
  exact wpS_bind (wpS_lift (wpAny_attempt (PySem.W.kat_lt a1 a3 b1 b3 (kat_ints ⟨rfl,wpS_pure q⟩))))
theorem tups_of {h:Heap}:∀ {zs:List PrA},(∀ z∈zs,PairAt h z)->∃ fs,PySem.W.KatTups h (zs.map fun z=>Value.ref z.1) fs /\ fs.length=zs.length /\ ∀ v∈fs,∃ n t,v=Value.int n t
 | [],_=>⟨[],trivial,rfl,fun v h=>by cases h⟩
 | z::r,hp=>by
  obtain ⟨fs,f1,f2,f3⟩:=tups_of (zs:=r) fun y hy=>hp y (yAD _ hy)
  obtain ⟨o,t,u,n,a1,a2,a3⟩:=hp z yAF
  refine ⟨.int z.2.1 t::fs,PySem.W.KatTups.cons a1 a2 a3 rfl f1,by rw [yAG,yAG,f2],fun v hv=>?_⟩
  rcases yAE.mp hv with e | e
  .exact ⟨_,_,e⟩
  .exact f3 v e
theorem perm_map {α β:Type} (g:α->β):∀ {l:List β} {zs:List α},l.Perm (zs.map g)->∃ ms:List α,ms.Perm zs /\ l=ms.map g
 | [],zs,h=>by
  have:zs=[]:=by
   have:=h.length_eq
   rw [yBR,yAC] at this
   exact List.length_eq_zero_iff.mp this.symm
  subst this
  exact ⟨[],.nil,rfl⟩
 | x::r,zs,h=>by
  obtain ⟨z,hz,e⟩:=List.mem_map.mp (h.mem_iff.mp yAF)
  obtain ⟨a,b,rfl⟩:=List.append_of_mem hz
  have h2:(x::r).Perm (x::(a++b).map g):=by
   refine h.trans ?_
   rw [yAN,yAY,e,yAN]
   exact List.perm_middle
  obtain ⟨ms,m1,m2⟩:=perm_map g (List.Perm.cons_inv h2)
  exact ⟨z::ms,(m1.cons z).trans List.perm_middle.symm,by rw [m2,yAY,e]⟩
theorem sorted_pairs {l:Addr} {zs:List PrA} {Q:Value->Shared->Prop} (hl:s.heap.IsList l (zs.map fun z=>Value.ref z.1).toArray) (hp:∀ z∈zs,PairAt s.heap z) (hz:zs.length <= 1000)
  (h:∀ (ms:List PrA),ms.Perm zs->ms.Pairwise (fun x y=>¬ lxP y.2 x.2)->Q (.ref (s.heap.objs.size+1)) { s with heap:=sortedAll s.heap (zs.map fun z=>Value.ref z.1) (ms.map fun z=>Value.ref z.1).toArray }):wpAny (model prog w) A (call (.builtin "sorted") [.ref l]) Q E s:=by
 refine sorted_any (κ:=tuples' true) (f:=fun p=>(ZDF zs (ZEy zs p.1):Int)) hl (by rw [yAC];exact hz) (fun h' k h2 A' E' Q' _ q=>?_) (fun h' k h2 A' E' _=>asks_pairs (s:={ s with heap:=h' }) fun z hz=>(hp z hz).keep k) fun out ho hu=>?_
 .obtain ⟨fs,f1,f2,f3⟩:=tups_of (h:=h') fun z hz=>(hp z hz).keep k
  rw [yAC] at h2
  refine PySem.W.kat_kind (T:=.type "int") f1 (by omega) (fun v hv=>?_) rfl q
  obtain ⟨n,t,rfl⟩:=f3 v hv
  exact .now
 .have hl2:out.toList.Perm (zs.map fun z=>((Value.ref z.1,Value.ref z.1):Keyed)):=by
   have:=Array.perm_iff_toList_perm.mp ho
   rw [pairsOf_toList] at this
   rw [show (zs.map fun z=>((Value.ref z.1,Value.ref z.1):Keyed))=(zs.map fun z=>Value.ref z.1).zip (zs.map fun z=>Value.ref z.1) by rw [List.zip_map']]
   exact this
  obtain ⟨ms,m1,m2⟩:=perm_map _ hl2
  have e:out.map (·.2)=(ms.map fun z=>Value.ref z.1).toArray:=by
   apply Array.toList_inj.mp
   rw [Array.toList_map,m2,List.map_map]
   rfl
  rw [e]
  refine h ms m1 ?_
  rw [List.pairwise_iff_getElem]
  intro i j hi hj hij hlt
  have hln:ms.length=zs.length:=m1.length_eq
  have at':∀ k (hk:k < ms.length),kn (fun p=>(ZDF zs (ZEy zs p.1):Int)) out k=ZDF zs ms[k].2:=fun k hk=>by
   have:out[k]?=some ((Value.ref ms[k].1,Value.ref ms[k].1):Keyed):=by
    rw [<- yBF,m2,yAW,yAL hk]
    rfl
   rw [ZBI this]
   dsimp only
   rw [ZEg hp (m1.mem_iff.mp (List.getElem_mem hk))]
  have z:=hu i j (yAI _) (yBP hij) (by rw [yAC];omega)
  rw [at' i hi,at' j hj] at z
  have:=(rank_lt (zs:=zs) (v:=ms[i].2) (m1.mem_iff.mp (List.getElem_mem hj))).mpr hlt
  omega
end
theorem vals_refs:∀ {zs:List PrA} {its:List Value},Vals (zs.map fun z=>V.ref z.1) its->its=zs.map fun z=>Value.ref z.1
 | [],_,.nil=>rfl
 | z::r,_,.cons a b=>by
  have e:=vals_refs b
  cases a
  rw [e]
  rfl
theorem refs_vals:∀ ms:List PrA,Vals (ms.map fun z=>V.ref z.1) (ms.map fun z=>Value.ref z.1)
 | []=>.nil
 | _::r=>.cons rfl (refs_vals r)
section
variable {X:Cx}
theorem call_sortedT:ZCN X (.builtin "sorted") (fun xs H Q=>∃ (p:Addr) (zs:List PrA),xs=[.ref p] /\ SqL X.K H p (zs.map fun z=>V.ref z.1) /\ (∀ z∈zs,SqT X.K H z.1 [.int z.2.1,.int z.2.2]) /\ zs.length <= 1000 /\ ∀ (l:Addr) (ms:List PrA),H l=none->ms.Perm zs->ms.Pairwise (fun x y=>¬ lxP y.2 x.2)->Q (.ref l) (upd H l (.lst (ms.map fun z=>V.ref z.1)))):=by
 intro pins s σ H xs us Q I r h
 obtain ⟨p,zs,rfl,hq,hz,hn,q⟩:=h
 obtain ⟨u,rfl,rx⟩:=ZDu r
 cases rx
 obtain ⟨its,r',pl,hzl⟩:=I.list hq
 obtain rfl:=vals_refs r'
 have hpa:∀ z∈zs,PairAt s.heap z:=fun z hzm=>by
  obtain ⟨it,rt,pt,_⟩:=I.tuple (hz z hzm)
  obtain ⟨a,b,rfl,⟨t,rfl⟩,⟨t',rfl⟩⟩:=ZD5 rt
  obtain ⟨o,ho,hc,n,hd⟩:=pt
  exact ⟨o,t,t',n,ho,hc,hd⟩
 refine sorted_pairs pl.isList hpa hn fun ms m1 m2=>?_
 obtain ⟨e,he⟩:=sortedAll_at s.heap (zs.map fun z=>Value.ref z.1) (ms.map fun z=>Value.ref z.1).toArray
 have hln:ms.length=zs.length:=m1.length_eq
 refine ⟨.ref (s.heap.objs.size+1),_,I.laid (t':=s.toks) (fun b o e=>sortedAll_old e) (yAZ _) (o:=.lst (ms.map fun z=>V.ref z.1)) ⟨?_,(ms.map fun z=>Value.ref z.1),e,refs_vals ms,he⟩,rfl,q _ ms (I.hok.fresh (yAZ _)) m1 m2⟩
 rw [yAC]
 exact ZAU (by omega)
end
end L2
namespace L2S
open PySem PyProof.Rows L2
section
variable {prog:Program} {w:World} {A:Around} {E:Value->Shared->Prop} {s:Shared}
end
end L2S
namespace L2
open PySem PySem.Spec PyProof.Rows L2S
section
variable {X:Cx} {e d:Expr} {te td:TE} {p pos:Pos} {kpos:Pos}
noncomputable def tSortR (K:W.Frag) (te td:TE):TE:=fun σ H Q=>te σ H fun x H1=>td σ H1 fun y H2=>∃ a ns,x=.ref a /\ y=.bl true /\ SqL K H2 a (ns.map V.int) /\ ns.length <= 1000 /\ ∀ (l:Addr) (ms:List Int),H2 l=none->ms.Perm ns->ms.Pairwise (·≥·)->Q (.ref l) (upd H2 l (.lst (ms.map V.int)))
end
end L2
namespace Gr
noncomputable def qt (m a:Int) (p:Nat):Int:=a * 2 ^ p / (2 * m)
structure IsG (m a b:Int) (g:Nat):Prop where
 pos:1 <= g
 eq:∀ q,1 <= q->q < g->qt m a q=qt m b q
 ne:qt m a g≠qt m b g
theorem p2pos (p:Nat):(0:Int) < 2 ^ p:=Int.pow_pos (by decide)
theorem IsG.uniq {m a b:Int} {g h:Nat} (x:IsG m a b g) (y:IsG m a b h):g=h:=by
 rcases Nat.lt_trichotomy g h with l | l | l
 .exact absurd (y.eq g x.pos l) x.ne
 .exact l
 .exact absurd (x.eq h y.pos l) y.ne
theorem qt_ne {m a b:Int} {p:Nat} (hm:0 < m) (hab:a+2 <= b) (hp:m <= 2 ^ p):qt m a p≠qt m b p:=by
 unfold qt
 have h1:a * 2 ^ p+2 * m <= b * 2 ^ p:=by
  have:(a+2) * 2 ^ p <= b * 2 ^ p:=Int.mul_le_mul_of_nonneg_right hab (Int.le_of_lt (p2pos p))
  rw [Int.add_mul] at this
  omega
 have h2:(a * 2 ^ p+2 * m) / (2 * m) <= b * 2 ^ p / (2 * m):=Int.ediv_le_ediv (by omega) h1
 rw [Int.add_ediv_of_dvd_right (Int.dvd_refl _),Int.ediv_self (by omega)] at h2
 omega
end Gr
namespace Gr
end Gr
namespace L2
open PySem
theorem tVar_1 {v:V} {a0:Option V} {σ:St} {H:Hp} {Q:VK}:tVar 1 (a0::some v::σ) H Q=Q v H:=by
 simp only [ZAm,ZAg]
theorem tVar_2 {v:V} {a0 a1:Option V} {σ:St} {H:Hp} {Q:VK}:tVar 2 (a0::a1::some v::σ) H Q=Q v H:=by
 simp only [ZAm,ZAg]
theorem tVar_3 {v:V} {a0 a1 a2:Option V} {σ:St} {H:Hp} {Q:VK}:tVar 3 (a0::a1::a2::some v::σ) H Q=Q v H:=by
 simp only [ZAm,ZAg]
theorem tVar_4 {v:V} {a0 a1 a2 a3:Option V} {σ:St} {H:Hp} {Q:VK}:tVar 4 (a0::a1::a2::a3::some v::σ) H Q=Q v H:=by
 simp only [ZAm,ZAg]
theorem tVar_5 {v:V} {a0 a1 a2 a3 a4:Option V} {σ:St} {H:Hp} {Q:VK}:tVar 5 (a0::a1::a2::a3::a4::some v::σ) H Q=Q v H:=by
 simp only [ZAm,ZAg]
theorem tVar_6 {v:V} {a0 a1 a2 a3 a4 a5:Option V} {σ:St} {H:Hp} {Q:VK}:tVar 6 (a0::a1::a2::a3::a4::a5::some v::σ) H Q=Q v H:=by
 simp only [ZAm,ZAg]
theorem tVar_7 {v:V} {a0 a1 a2 a3 a4 a5 a6:Option V} {σ:St} {H:Hp} {Q:VK}:tVar 7 (a0::a1::a2::a3::a4::a5::a6::some v::σ) H Q=Q v H:=by
 simp only [ZAm,ZAg]
theorem tVar_8 {v:V} {a0 a1 a2 a3 a4 a5 a6 a7:Option V} {σ:St} {H:Hp} {Q:VK}:tVar 8 (a0::a1::a2::a3::a4::a5::a6::a7::some v::σ) H Q=Q v H:=by
 simp only [ZAm,ZAg]
theorem tVar_9 {v:V} {a0 a1 a2 a3 a4 a5 a6 a7 a8:Option V} {σ:St} {H:Hp} {Q:VK}:tVar 9 (a0::a1::a2::a3::a4::a5::a6::a7::a8::some v::σ) H Q=Q v H:=by
 simp only [ZAm,ZAg]
theorem tVar_10 {v:V} {a0 a1 a2 a3 a4 a5 a6 a7 a8 a9:Option V} {σ:St} {H:Hp} {Q:VK}:tVar 10 (a0::a1::a2::a3::a4::a5::a6::a7::a8::a9::some v::σ) H Q=Q v H:=by
 simp only [ZAm,ZAg]
theorem tVar_11 {v:V} {a0 a1 a2 a3 a4 a5 a6 a7 a8 a9 a10:Option V} {σ:St} {H:Hp} {Q:VK}:tVar 11 (a0::a1::a2::a3::a4::a5::a6::a7::a8::a9::a10::some v::σ) H Q=Q v H:=by
 simp only [ZAm,ZAg]
theorem tVar_12 {v:V} {a0 a1 a2 a3 a4 a5 a6 a7 a8 a9 a10 a11:Option V} {σ:St} {H:Hp} {Q:VK}:tVar 12 (a0::a1::a2::a3::a4::a5::a6::a7::a8::a9::a10::a11::some v::σ) H Q=Q v H:=by
 simp only [ZAm,ZAg]
theorem tVar_13 {v:V} {a0 a1 a2 a3 a4 a5 a6 a7 a8 a9 a10 a11 a12:Option V} {σ:St} {H:Hp} {Q:VK}:tVar 13 (a0::a1::a2::a3::a4::a5::a6::a7::a8::a9::a10::a11::a12::some v::σ) H Q=Q v H:=by
 simp only [ZAm,ZAg]
theorem tVar_14 {v:V} {a0 a1 a2 a3 a4 a5 a6 a7 a8 a9 a10 a11 a12 a13:Option V} {σ:St} {H:Hp} {Q:VK}:tVar 14 (a0::a1::a2::a3::a4::a5::a6::a7::a8::a9::a10::a11::a12::a13::some v::σ) H Q=Q v H:=by
 simp only [ZAm,ZAg]
theorem tVar_15 {v:V} {a0 a1 a2 a3 a4 a5 a6 a7 a8 a9 a10 a11 a12 a13 a14:Option V} {σ:St} {H:Hp} {Q:VK}:tVar 15 (a0::a1::a2::a3::a4::a5::a6::a7::a8::a9::a10::a11::a12::a13::a14::some v::σ) H Q=Q v H:=by
 simp only [ZAm,ZAg]
theorem tVar_16 {v:V} {a0 a1 a2 a3 a4 a5 a6 a7 a8 a9 a10 a11 a12 a13 a14 a15:Option V} {σ:St} {H:Hp} {Q:VK}:tVar 16 (a0::a1::a2::a3::a4::a5::a6::a7::a8::a9::a10::a11::a12::a13::a14::a15::some v::σ) H Q=Q v H:=by
 simp only [ZAm,ZAg]
theorem tVar_17 {v:V} {a0 a1 a2 a3 a4 a5 a6 a7 a8 a9 a10 a11 a12 a13 a14 a15 a16:Option V} {σ:St} {H:Hp} {Q:VK}:tVar 17 (a0::a1::a2::a3::a4::a5::a6::a7::a8::a9::a10::a11::a12::a13::a14::a15::a16::some v::σ) H Q=Q v H:=by
 simp only [ZAm,ZAg]
theorem tVar_18 {v:V} {a0 a1 a2 a3 a4 a5 a6 a7 a8 a9 a10 a11 a12 a13 a14 a15 a16 a17:Option V} {σ:St} {H:Hp} {Q:VK}:tVar 18 (a0::a1::a2::a3::a4::a5::a6::a7::a8::a9::a10::a11::a12::a13::a14::a15::a16::a17::some v::σ) H Q=Q v H:=by
 simp only [ZAm,ZAg]
theorem tVar_19 {v:V} {a0 a1 a2 a3 a4 a5 a6 a7 a8 a9 a10 a11 a12 a13 a14 a15 a16 a17 a18:Option V} {σ:St} {H:Hp} {Q:VK}:tVar 19 (a0::a1::a2::a3::a4::a5::a6::a7::a8::a9::a10::a11::a12::a13::a14::a15::a16::a17::a18::some v::σ) H Q=Q v H:=by
 simp only [ZAm,ZAg]
theorem tVar_20 {v:V} {a0 a1 a2 a3 a4 a5 a6 a7 a8 a9 a10 a11 a12 a13 a14 a15 a16 a17 a18 a19:Option V} {σ:St} {H:Hp} {Q:VK}:tVar 20 (a0::a1::a2::a3::a4::a5::a6::a7::a8::a9::a10::a11::a12::a13::a14::a15::a16::a17::a18::a19::some v::σ) H Q=Q v H:=by
 simp only [ZAm,ZAg]
theorem tVar_21 {v:V} {a0 a1 a2 a3 a4 a5 a6 a7 a8 a9 a10 a11 a12 a13 a14 a15 a16 a17 a18 a19 a20:Option V} {σ:St} {H:Hp} {Q:VK}:tVar 21 (a0::a1::a2::a3::a4::a5::a6::a7::a8::a9::a10::a11::a12::a13::a14::a15::a16::a17::a18::a19::a20::some v::σ) H Q=Q v H:=by
 simp only [ZAm,ZAg]
theorem tVar_22 {v:V} {a0 a1 a2 a3 a4 a5 a6 a7 a8 a9 a10 a11 a12 a13 a14 a15 a16 a17 a18 a19 a20 a21:Option V} {σ:St} {H:Hp} {Q:VK}:tVar 22 (a0::a1::a2::a3::a4::a5::a6::a7::a8::a9::a10::a11::a12::a13::a14::a15::a16::a17::a18::a19::a20::a21::some v::σ) H Q=Q v H:=by
 simp only [ZAm,ZAg]
theorem tVar_23 {v:V} {a0 a1 a2 a3 a4 a5 a6 a7 a8 a9 a10 a11 a12 a13 a14 a15 a16 a17 a18 a19 a20 a21 a22:Option V} {σ:St} {H:Hp} {Q:VK}:tVar 23 (a0::a1::a2::a3::a4::a5::a6::a7::a8::a9::a10::a11::a12::a13::a14::a15::a16::a17::a18::a19::a20::a21::a22::some v::σ) H Q=Q v H:=by
 simp only [ZAm,ZAg]
theorem tVar_24 {v:V} {a0 a1 a2 a3 a4 a5 a6 a7 a8 a9 a10 a11 a12 a13 a14 a15 a16 a17 a18 a19 a20 a21 a22 a23:Option V} {σ:St} {H:Hp} {Q:VK}:tVar 24 (a0::a1::a2::a3::a4::a5::a6::a7::a8::a9::a10::a11::a12::a13::a14::a15::a16::a17::a18::a19::a20::a21::a22::a23::some v::σ) H Q=Q v H:=by
 simp only [ZAm,ZAg]
theorem tVar_25 {v:V} {a0 a1 a2 a3 a4 a5 a6 a7 a8 a9 a10 a11 a12 a13 a14 a15 a16 a17 a18 a19 a20 a21 a22 a23 a24:Option V} {σ:St} {H:Hp} {Q:VK}:tVar 25 (a0::a1::a2::a3::a4::a5::a6::a7::a8::a9::a10::a11::a12::a13::a14::a15::a16::a17::a18::a19::a20::a21::a22::a23::a24::some v::σ) H Q=Q v H:=by
 simp only [ZAm,ZAg]
theorem tVar_26 {v:V} {a0 a1 a2 a3 a4 a5 a6 a7 a8 a9 a10 a11 a12 a13 a14 a15 a16 a17 a18 a19 a20 a21 a22 a23 a24 a25:Option V} {σ:St} {H:Hp} {Q:VK}:tVar 26 (a0::a1::a2::a3::a4::a5::a6::a7::a8::a9::a10::a11::a12::a13::a14::a15::a16::a17::a18::a19::a20::a21::a22::a23::a24::a25::some v::σ) H Q=Q v H:=by
 simp only [ZAm,ZAg]
theorem tVar_27 {v:V} {a0 a1 a2 a3 a4 a5 a6 a7 a8 a9 a10 a11 a12 a13 a14 a15 a16 a17 a18 a19 a20 a21 a22 a23 a24 a25 a26:Option V} {σ:St} {H:Hp} {Q:VK}:tVar 27 (a0::a1::a2::a3::a4::a5::a6::a7::a8::a9::a10::a11::a12::a13::a14::a15::a16::a17::a18::a19::a20::a21::a22::a23::a24::a25::a26::some v::σ) H Q=Q v H:=by
 simp only [ZAm,ZAg]
theorem tVar_28 {v:V} {a0 a1 a2 a3 a4 a5 a6 a7 a8 a9 a10 a11 a12 a13 a14 a15 a16 a17 a18 a19 a20 a21 a22 a23 a24 a25 a26 a27:Option V} {σ:St} {H:Hp} {Q:VK}:tVar 28 (a0::a1::a2::a3::a4::a5::a6::a7::a8::a9::a10::a11::a12::a13::a14::a15::a16::a17::a18::a19::a20::a21::a22::a23::a24::a25::a26::a27::some v::σ) H Q=Q v H:=by
 simp only [ZAm,ZAg]
theorem tVar_29 {v:V} {a0 a1 a2 a3 a4 a5 a6 a7 a8 a9 a10 a11 a12 a13 a14 a15 a16 a17 a18 a19 a20 a21 a22 a23 a24 a25 a26 a27 a28:Option V} {σ:St} {H:Hp} {Q:VK}:tVar 29 (a0::a1::a2::a3::a4::a5::a6::a7::a8::a9::a10::a11::a12::a13::a14::a15::a16::a17::a18::a19::a20::a21::a22::a23::a24::a25::a26::a27::a28::some v::σ) H Q=Q v H:=by
 simp only [ZAm,ZAg]
theorem tVar_30 {v:V} {a0 a1 a2 a3 a4 a5 a6 a7 a8 a9 a10 a11 a12 a13 a14 a15 a16 a17 a18 a19 a20 a21 a22 a23 a24 a25 a26 a27 a28 a29:Option V} {σ:St} {H:Hp} {Q:VK}:tVar 30 (a0::a1::a2::a3::a4::a5::a6::a7::a8::a9::a10::a11::a12::a13::a14::a15::a16::a17::a18::a19::a20::a21::a22::a23::a24::a25::a26::a27::a28::a29::some v::σ) H Q=Q v H:=by
 simp only [ZAm,ZAg]
open PySem
noncomputable def Cut (t:TS):TS:=t
theorem ZAT {X:Cx} {rest:List Stmt} {u:TS} (h:PSs X rest u):PSs X rest (Cut u):=h
theorem ZAa {u:TS} {D:Ends} {σ:St} {H:Hp} (h:u D σ H):Cut u D σ H:=h
theorem us0 {l:List Value} (h:l.length=0):l=[]:=List.length_eq_zero_iff.mp h
theorem us1 {l:List Value} (h:l.length=1):∃ a0,l=[a0]:=by
 cases l with
 | nil=>cases h
 | cons a l=>
  obtain rfl:=us0 (l:=l) (Nat.succ.inj h)
  exact ⟨a,rfl⟩
theorem us2 {l:List Value} (h:l.length=2):∃ a0 a1,l=[a0,a1]:=by
 cases l with
 | nil=>cases h
 | cons a l=>
  obtain ⟨b0,rfl⟩:=us1 (l:=l) (Nat.succ.inj h)
  exact ⟨a,b0,rfl⟩
theorem us3 {l:List Value} (h:l.length=3):∃ a0 a1 a2,l=[a0,a1,a2]:=by
 cases l with
 | nil=>cases h
 | cons a l=>
  obtain ⟨b0,b1,rfl⟩:=us2 (l:=l) (Nat.succ.inj h)
  exact ⟨a,b0,b1,rfl⟩
theorem us4 {l:List Value} (h:l.length=4):∃ a0 a1 a2 a3,l=[a0,a1,a2,a3]:=by
 cases l with
 | nil=>cases h
 | cons a l=>
  obtain ⟨b0,b1,b2,rfl⟩:=us3 (l:=l) (Nat.succ.inj h)
  exact ⟨a,b0,b1,b2,rfl⟩
end L2
namespace Law
open PySem L2
local macro_rules | `(tactic| walk_at "o")=>`(tactic| first | exact Or.inl rfl | exact Or.inr rfl)
set_option hygiene false in
local macro_rules | `(tactic| walk_at "rd")=>`(tactic| ((try dsimp only [cx_K,tDNewT,tDNewK,tDNotIn,tDIn,tDGet,sDPut,tChain,tForZ_eq,tRevL,tCompR2_eq,sFldAug_eq,cx_cloK,tCallV,startC,tForE_eq,tCompE_eq,tMaxD,tAug_eq,ipI_int,gSub,gCons_eq,gNil_eq,tSeq,tIfS,ZFB,tB,tOr,tAnd,tNot,tOp,tUn,tC,ZAg,tTry,ZEk,tRaise,ZEi,ZDS,tXMk,tFS,ZFK,ZEQ,tTry0,tSortR,tCompZ_eq,tBreak,tPar,tCompR3_eq,tBL,tMakeK,gK21,tGFn,ZEl,tVar_1,tVar_2,tVar_3,tVar_4,tVar_5,tVar_6,tVar_7,tVar_8,tVar_9,tVar_10,tVar_11,tVar_12,tVar_13,tVar_14,tVar_15,tVar_16,tVar_17,tVar_18,tVar_19,tVar_20,tVar_21,tVar_22,tVar_23,tVar_24,tVar_25,tVar_26,tVar_27,tVar_28,tVar_29,tVar_30,rI0_int,rI_int,rU_int,rEq_int,rNe_int,rEq_bl,rNe_bl,rEq_str,rNe_str,ex_bl,ex_int,tAsg,ZE9,tRet,tRetN,ZFE,ZE0,tNever,ZFF,tOrV,ZFD,tIf,List.set_cons_zero,List.set_cons_succ,ZE1,ZEe,ZBx,tNil,List.cons_append,List.nil_append,yAQ,tCB,tFld_eq,sFld_eq,tForL_eq,tForR1_eq,tForR2_eq,tCompL_eq,tCompR1_eq,tYes,tBM,tBM0,tLst,tTup,ZEj,true_and,tSl,ZFC,ZD7,decide_eq_true_eq,Bool.not_eq_true',decide_eq_false_iff_not,L2.start,yAY,List.map_nil,yAG,yBR,Nat.reduceAdd,Nat.reduceSub,yCD,yBI,List.replicate_zero,List.replicate_succ,if_true,if_false,Bool.false_eq_true,Bool.true_eq_false,Bool.not_true,Bool.not_false]);(try simp only [cx_K,tDNewT,tDNewK,tDNotIn,tDIn,tDGet,sDPut,tChain,tForZ_eq,tRevL,tCompR2_eq,sFldAug_eq,cx_cloK,tCallV,startC,tForE_eq,tCompE_eq,tMaxD,tAug_eq,ipI_int,gSub,gCons_eq,gNil_eq,tSeq,tIfS,ZFB,tB,tOr,tAnd,tNot,tOp,tUn,tC,ZAg,tTry,ZEk,tRaise,ZEi,ZDS,tXMk,tFS,ZFK,ZEQ,tTry0,tSortR,tCompZ_eq,tBreak,tPar,tCompR3_eq,tBL,tMakeK,gK21,tGFn,ZEl,tVar_1,tVar_2,tVar_3,tVar_4,tVar_5,tVar_6,tVar_7,tVar_8,tVar_9,tVar_10,tVar_11,tVar_12,tVar_13,tVar_14,tVar_15,tVar_16,tVar_17,tVar_18,tVar_19,tVar_20,tVar_21,tVar_22,tVar_23,tVar_24,tVar_25,tVar_26,tVar_27,tVar_28,tVar_29,tVar_30,rI0_int,rI_int,rU_int,rEq_int,rNe_int,rEq_bl,rNe_bl,rEq_str,rNe_str,ex_bl,ex_int,tAsg,ZE9,tRet,tRetN,ZFE,ZE0,tNever,ZFF,tOrV,ZFD,tIf,List.set_cons_zero,List.set_cons_succ,ZE1,ZEe,ZBx,tNil,List.cons_append,List.nil_append,yAQ,tCB,tFld_eq,sFld_eq,tForL_eq,tForR1_eq,tForR2_eq,tCompL_eq,tCompR1_eq,tYes,tBM,tBM0,tLst,tTup,ZEj,true_and,tSl,ZFC,ZD7,decide_eq_true_eq,Bool.not_eq_true',decide_eq_false_iff_not,L2.start,yAY,List.map_nil,yAG,yBR,Nat.reduceAdd,Nat.reduceSub,yCD,yBI,List.replicate_zero,List.replicate_succ,if_true,if_false,Bool.false_eq_true,Bool.true_eq_false,Bool.not_true,Bool.not_false])))
local macro_rules | `(tactic| walk_at "up")=>`(tactic| first | assumption | (refine Same.get (by assumption) ?_;walk_at "up"))
local macro_rules | `(tactic| walk_at "lk")=>`(tactic| ((repeat (first | rw [lkc,if_pos rfl] | rw [lkc,if_neg (by decide +kernel)]));first | done | rfl))
noncomputable def top (i:Nat):Stmt:=PySem.Challenge.pw_sorthall_k58_whole_stopped_and_given_mor.main.body.getD i (.Pass ⟨0,0,0,0⟩)
noncomputable abbrev ZDL:Stmt:=top 2
noncomputable abbrev ZBP:Stmt:=ZAk (top 7) 0
noncomputable abbrev ZAt:Stmt:=ZAk (top 7) 1
noncomputable abbrev ZA9:Stmt:=ZAk (top 7) 2
noncomputable abbrev ZAz:Stmt:=ZAk (top 7) 3
noncomputable abbrev ZAo:Stmt:=ZAk (top 7) 4
noncomputable abbrev ZBb:Stmt:=ZAk (top 7) 5
noncomputable abbrev ZA0:Stmt:=ZAk (top 7) 6
noncomputable abbrev ZCG:Stmt:=top 8
noncomputable abbrev ZAy:Stmt:=top 10
noncomputable abbrev ZBl:Stmt:=top 11
noncomputable abbrev ZBj:Stmt:=top 13
noncomputable abbrev ZCH:Stmt:=top 14
noncomputable abbrev ZCr:Stmt:=top 16
noncomputable abbrev ZBO:Stmt:=ZAk (top 18) 0
noncomputable abbrev ZAn:Stmt:=ZAk (top 18) 1
noncomputable abbrev ZAZ:Stmt:=ZAk (top 18) 2
noncomputable abbrev ZAs:Stmt:=ZAk (top 18) 3
noncomputable abbrev ZAb:Stmt:=ZAk (top 18) 4
noncomputable abbrev ZBa:Stmt:=ZAk (top 18) 5
noncomputable abbrev ZBN:Stmt:=ZAk (top 18) 6
noncomputable abbrev ZAr:Stmt:=ZAk (top 18) 7
noncomputable abbrev ZA8:Stmt:=ZAk (top 18) 8
noncomputable abbrev ZBn:Stmt:=top 19
noncomputable abbrev ZA7:Stmt:=ZAk (top 22) 0
noncomputable abbrev ZBB:Stmt:=ZAk (top 24) 0
noncomputable abbrev ZBA:Stmt:=ZAk (top 24) 1
noncomputable abbrev ZA2:Stmt:=ZAk (top 24) 2
noncomputable abbrev ZA1:Stmt:=ZAk (top 24) 4
noncomputable abbrev ZAp:Stmt:=ZAk (top 27) 0
noncomputable abbrev ZAc:Stmt:=ZAk (top 27) 1
noncomputable abbrev ZBm:Stmt:=top 29
noncomputable abbrev ZCI:Stmt:=top 30
noncomputable abbrev ZBk:Stmt:=top 31
noncomputable abbrev ZCF:Stmt:=top 32
noncomputable abbrev ZCs:Stmt:=top 33
noncomputable abbrev ZBi:Stmt:=top 34
noncomputable abbrev ZBM:Stmt:=top 35
noncomputable abbrev ZDc:Stmt:=top 36
theorem sc_leap:FnScope ["asker","order","first","place","low","high","wide","middle"] ["asker","order","first","place"] (ZAE ZDL):=⟨rfl,rfl,rfl,by decide +kernel,rfl,by decide +kernel,by decide +kernel⟩
theorem sc_Join_init:FnScope ["self","asker","left","right"] ["self","asker","left","right"] (ZAE ZBP):=⟨rfl,rfl,rfl,by decide +kernel,rfl,by decide +kernel,by decide +kernel⟩
theorem sc_Join_has_more:FnScope ["self","side"] ["self","side"] (ZAE ZAt):=⟨rfl,rfl,rfl,by decide +kernel,rfl,by decide +kernel,by decide +kernel⟩
theorem sc_Join_front:FnScope ["self","side"] ["self","side"] (ZAE ZA9):=⟨rfl,rfl,rfl,by decide +kernel,rfl,by decide +kernel,by decide +kernel⟩
theorem sc_Join_take_on:FnScope ["self","side","more","start"] ["self","side","more"] (ZAE ZAz):=⟨rfl,rfl,rfl,by decide +kernel,rfl,by decide +kernel,by decide +kernel⟩
theorem sc_Join_take_rest:FnScope ["self","side"] ["self","side"] (ZAE ZAo):=⟨rfl,rfl,rfl,by decide +kernel,rfl,by decide +kernel,by decide +kernel⟩
theorem sc_Join_win:FnScope ["self","side"] ["self"] (ZAE ZBb):=⟨rfl,rfl,rfl,by decide +kernel,rfl,by decide +kernel,by decide +kernel⟩
theorem sc_Join_leap_on:FnScope ["self","side","other"] ["self","side"] (ZAE ZA0):=⟨rfl,rfl,rfl,by decide +kernel,rfl,by decide +kernel,by decide +kernel⟩
theorem sc_joined:FnScope ["asker","left","right","join","wins","winner","side"] ["asker","left","right"] (ZAE ZCG):=⟨rfl,rfl,rfl,by decide +kernel,rfl,by decide +kernel,by decide +kernel⟩
theorem sc_stretch_from:FnScope ["asker","first","end","stop","beyond","falling"] ["asker","first","end"] (ZAE ZAy):=⟨rfl,rfl,rfl,by decide +kernel,rfl,by decide +kernel,by decide +kernel⟩
theorem sc_in_turn:FnScope ["first","beyond","falling","places"] ["first","beyond","falling"] (ZAE ZBl):=⟨rfl,rfl,rfl,by decide +kernel,rfl,by decide +kernel,by decide +kernel⟩
theorem sc_spot_of:FnScope ["asker","order","place","low","high","middle"] ["asker","order","place"] (ZAE ZBj):=⟨rfl,rfl,rfl,by decide +kernel,rfl,by decide +kernel,by decide +kernel⟩
theorem sc_filled:FnScope ["asker","first","least","end","stop","part","found","order","place"] ["asker","first","least","end"] (ZAE ZCH):=⟨rfl,rfl,rfl,by decide +kernel,rfl,by decide +kernel,by decide +kernel⟩
theorem sc_grade:FnScope ["many","first","middle","beyond","lower","upper","found"] ["many","first","middle","beyond"] (ZAE ZCr):=⟨rfl,rfl,rfl,by decide +kernel,rfl,by decide +kernel,by decide +kernel⟩
theorem sc_Pile_init:FnScope ["self","asker","least","part"] ["self","asker","least","part"] (ZAE ZBO):=⟨rfl,rfl,rfl,by decide +kernel,rfl,by decide +kernel,by decide +kernel⟩
theorem sc_Pile_beyond_of:FnScope ["self","number"] ["self","number"] (ZAE ZAn):=⟨rfl,rfl,rfl,by decide +kernel,rfl,by decide +kernel,by decide +kernel⟩
theorem sc_Pile_is_due_beneath:FnScope ["self"] ["self"] (ZAE ZAZ):=⟨rfl,rfl,rfl,by decide +kernel,rfl,by decide +kernel,by decide +kernel⟩
theorem sc_Pile_join_two:FnScope ["self","lower","order","deed"] ["self","lower"] (ZAE ZAs):=⟨rfl,rfl,rfl,by decide +kernel,rfl,by decide +kernel,by decide +kernel⟩
theorem sc_Pile_grade_on_top:FnScope ["self","middle","beyond"] ["self","middle","beyond"] (ZAE ZAb):=⟨rfl,rfl,rfl,by decide +kernel,rfl,by decide +kernel,by decide +kernel⟩
theorem sc_Pile_lay:FnScope ["self","first","found","beyond"] ["self"] (ZAE ZBa):=⟨rfl,rfl,rfl,by decide +kernel,rfl,by decide +kernel,by decide +kernel⟩
theorem sc_Pile_step:FnScope ["self"] ["self"] (ZAE ZBN):=⟨rfl,rfl,rfl,by decide +kernel,rfl,by decide +kernel,by decide +kernel⟩
theorem sc_Pile_standing:FnScope ["self","grades"] ["self"] (ZAE ZAr):=⟨rfl,rfl,rfl,by decide +kernel,rfl,by decide +kernel,by decide +kernel⟩
theorem sc_Pile_paper:FnScope ["self","told","order"] ["self"] (ZAE ZA8):=⟨rfl,rfl,rfl,by decide +kernel,rfl,by decide +kernel,by decide +kernel⟩
theorem sc_by_pile:FnScope ["asker","least","part","pile"] ["asker","least","part"] (ZAE ZBn):=⟨rfl,rfl,rfl,by decide +kernel,rfl,by decide +kernel,by decide +kernel⟩
theorem sc_Spent_init:FnScope ["self","asked"] ["self","asked"] (ZAE ZA7):=⟨rfl,rfl,rfl,by decide +kernel,rfl,by decide +kernel,by decide +kernel⟩
theorem sc_Asker_init:FnScope ["self","row","rule","most"] ["self","row","rule","most"] (ZAE ZBB):=⟨rfl,rfl,rfl,by decide +kernel,rfl,by decide +kernel,by decide +kernel⟩
theorem sc_Asker_many:FnScope ["self"] ["self"] (ZAE ZBA):=⟨rfl,rfl,rfl,by decide +kernel,rfl,by decide +kernel,by decide +kernel⟩
theorem sc_Asker_ahead:FnScope ["self","p","q","later","earlier","said"] ["self","p","q"] (ZAE ZA2):=⟨rfl,rfl,rfl,by decide +kernel,rfl,by decide +kernel,by decide +kernel⟩
theorem sc_Asker_widen:FnScope ["self","more"] ["self","more"] (ZAE ZA1):=⟨rfl,rfl,rfl,by decide +kernel,rfl,by decide +kernel,by decide +kernel⟩
theorem sc_AskedRule_init:FnScope ["self","teller"] ["self","teller"] (ZAE ZAp):=⟨rfl,rfl,rfl,by decide +kernel,rfl,by decide +kernel,by decide +kernel⟩
theorem sc_AskedRule_before:FnScope ["self","x","y","teller"] ["self","x","y"] (ZAE ZAc):=⟨rfl,rfl,rfl,by decide +kernel,rfl,by decide +kernel,by decide +kernel⟩
theorem sc_cell_at:FnScope ["_law_script","_law_k"] ["_law_script","_law_k"] (ZAE ZBm):=⟨rfl,rfl,rfl,by decide +kernel,rfl,by decide +kernel,by decide +kernel⟩
theorem sc_blocks:FnScope ["_law_keys","_law_one","_law_two","_law_row","_law_k","_law_block"] ["_law_keys","_law_one","_law_two"] (ZAE ZCI):=⟨rfl,rfl,rfl,by decide +kernel,rfl,by decide +kernel,by decide +kernel⟩
theorem sc_keys_by:FnScope ["_law_script","_law_many","_law_most","_law_number","_law_keys","_law_k"] ["_law_script","_law_many","_law_most"] (ZAE ZBk):=⟨rfl,rfl,rfl,by decide +kernel,rfl,by decide +kernel,by decide +kernel⟩
theorem sc_row_by:FnScope ["_law_script","_law_many","_law_keys","_law_way","_law_one","_law_two"] ["_law_script"] (ZAE ZCF):=⟨rfl,rfl,rfl,by decide +kernel,rfl,by decide +kernel,by decide +kernel⟩
theorem sc_first:FnScope ["_law_one","_law_other"] ["_law_one","_law_other"] (ZAE ZCs):=⟨rfl,rfl,rfl,by decide +kernel,rfl,by decide +kernel,by decide +kernel⟩
theorem sc_stepped:FnScope ["_law_pile","_law_asker","_law_more","_law_stood","_law_given","e"] ["_law_pile","_law_asker","_law_more"] (ZAE ZBi):=⟨rfl,rfl,rfl,by decide +kernel,rfl,by decide +kernel,by decide +kernel⟩
theorem sc_l_by_pile:FnScope ["_law_row","_law_least","_law_bounds","_law_most","_law_asker","_law_found","e"] ["_law_row","_law_least","_law_bounds","_law_most"] (ZAE ZBM):=⟨rfl,rfl,rfl,by decide +kernel,rfl,by decide +kernel,by decide +kernel⟩
theorem sc_law:FnScope ["_law_script","_law_row","_law_least","_law_low","_law_bounds","_law_free","_law_plain","_law_asker","_law_pile","_law_step","_law_needed","_law_paper","_law_more","_law_fewer"] ["_law_script"] (ZAE ZDc):=⟨rfl,rfl,rfl,by decide +kernel,rfl,by decide +kernel,by decide +kernel⟩
structure Bt (K:W.Frag) (mg:Str->Option Value) (C_Join C_Pile C_Asker C_AskedRule C_HallError C_Spent:Addr):Prop where
 b_len:mg "len"=none
 b_range:mg "range"=none
 b_list:mg "list"=none
 b_isinstance:mg "isinstance"=none
 b_max:mg "max"=none
 b_min:mg "min"=none
 b_abs:mg "abs"=none
 b_sorted:mg "sorted"=none
 b_enumerate:mg "enumerate"=none
 b_ValueError:mg "ValueError"=none
 c_LEFT:∃ t,mg "LEFT"=some (.int 0 t)
 c_RIGHT:∃ t,mg "RIGHT"=some (.int 1 t)
 c_WINS_TO_LEAP:∃ t,mg "WINS_TO_LEAP"=some (.int 4 t)
 m_Join:mg "Join"=some (.ref C_Join)
 cl_Join:Cls K C_Join
 n_Join_asker:NoAttr K C_Join "asker"
 n_Join_sides:NoAttr K C_Join "sides"
 n_Join_taken:NoAttr K C_Join "taken"
 n_Join_places:NoAttr K C_Join "places"
 m_Pile:mg "Pile"=some (.ref C_Pile)
 cl_Pile:Cls K C_Pile
 n_Pile_asker:NoAttr K C_Pile "asker"
 n_Pile_least:NoAttr K C_Pile "least"
 n_Pile_start:NoAttr K C_Pile "start"
 n_Pile_end:NoAttr K C_Pile "end"
 n_Pile_reached:NoAttr K C_Pile "reached"
 n_Pile_firsts:NoAttr K C_Pile "firsts"
 n_Pile_orders:NoAttr K C_Pile "orders"
 n_Pile_grades:NoAttr K C_Pile "grades"
 m_Asker:mg "Asker"=some (.ref C_Asker)
 cl_Asker:Cls K C_Asker
 n_Asker_row:NoAttr K C_Asker "row"
 n_Asker_rule:NoAttr K C_Asker "rule"
 n_Asker_most:NoAttr K C_Asker "most"
 n_Asker_asked:NoAttr K C_Asker "asked"
 n_Asker_told:NoAttr K C_Asker "told"
 m_AskedRule:mg "AskedRule"=some (.ref C_AskedRule)
 cl_AskedRule:Cls K C_AskedRule
 n_AskedRule_teller:NoAttr K C_AskedRule "teller"
 m_HallError:mg "HallError"=some (.ref C_HallError)
 m_Spent:mg "Spent"=some (.ref C_Spent)
 xc_Spent:ExcC K C_Spent
 xk_Spent:XCls K C_Spent
 xi_Spent:∃ fI,ZCx K C_Spent fI bmV "ValueError.__new__"=true
 xm_Spent_HallError:PySem.W.exmOne K (.ref C_Spent) (.ref C_HallError)=some true
 xm_Spent_Spent:PySem.W.exmOne K (.ref C_Spent) (.ref C_Spent)=some true
 n_Spent_asked:NoAttr K C_Spent "asked"
 xb_HallError:XBase K C_HallError
 kit_int_bool:PySem.W.kitOne K (.type "int") (.type "bool")=some false
 kit_Spent_Spent:PySem.W.kitOne K (.ref C_Spent) (.ref C_Spent)=some true
noncomputable def ZE2 (K:W.Frag):Sp:=fun vs H Q _=>∃ (a:Addr) (ns:List Int),vs=[.ref a] /\ SqL K H a (ns.map V.int) /\ ns.length <= 63 /\ ∀ H',Q (.bl true) H'
noncomputable def cellOf (ns:List Int) (k:Int):Int:=if k < (ns.length:Int) then (ns[k.toNat]?).getD 0 else 0
noncomputable def ZDy (K:W.Frag):Sp:=fun vs H Q _=>∃ (a:Addr) (ns:List Int) (k:Int),vs=[.ref a,.int k] /\ SqL K H a (ns.map V.int) /\ 0 <= k /\ Q (.int (cellOf ns k)) H
noncomputable def ZEC:Sp:=fun vs H Q _=>∃ m a b c:Int,vs=[.int m,.int a,.int b,.int c] /\ 1 < m /\ m < 2 ^ 240 /\ 0 <= a /\ a < b /\ b < c /\ c <= m /\ ∀ g:Nat,Gr.IsG m (a+b) (b+c) g->g <= 240->Q (.int g) H
theorem pow240 {p:Nat} {m:Int} (hm:m < 2 ^ 240) (hp:240 <= p):m <= 2 ^ p:=by
 obtain ⟨d,rfl⟩:∃ d,p=240+d:=⟨p-240,by omega⟩
 have h1:(1:Int) <= 2 ^ d:=Gr.p2pos d
 rw [Int.pow_add]
 have h2:(2:Int) ^ 240 * 1 <= 2 ^ 240 * 2 ^ d:=Int.mul_le_mul_of_nonneg_left h1 (by decide)
 omega
theorem dbl (x:Int) (p:Nat):2 * (x * 2 ^ p)=x * 2 ^ (p+1):=by rw [Int.pow_succ,Int.mul_comm 2,Int.mul_assoc]
theorem smallL {n:Nat} (h:n <= 90000):n < sizeLine:=Nat.lt_of_le_of_lt h (by decide)
noncomputable abbrev fA (rl ru:Addr) (m:V) (n:Int) (tl:Addr):List (Str×V):=[("told",.ref tl),("asked",.int n),("most",m),("rule",.ref ru),("row",.ref rl)]
noncomputable abbrev fR (g:Addr):List (Str×V):=[("teller",.ref g)]
theorem fA_canon {rl ru tl:Addr} {m:V} {n:Int}:∀ f,(putF "told" (.ref tl) (putF "asked" (.int n) (putF "most" m (putF "rule" (.ref ru) (putF "row" (.ref rl) []))))).lookup f=(fA rl ru m n tl).lookup f:=fun f=>by
 simp only [ZAW,lkc]
theorem fA_asked {rl ru tl:Addr} {m:V} {n k:Int}:∀ f,(putF "asked" (.int k) (fA rl ru m n tl)).lookup f=(fA rl ru m k tl).lookup f:=fun f=>by
 rw [ZAW]
 by_cases h:f=("asked":Str)
 .subst h
  rw [if_pos rfl]
  exact (show List.lookup _ (fA rl ru m k tl)=some (.int k) by walk_at "lk").symm
 .simp only [lkc,h,if_false]
theorem fA_most {rl ru tl:Addr} {m m':V} {n:Int}:∀ f,(putF "most" m' (fA rl ru m n tl)).lookup f=(fA rl ru m' n tl).lookup f:=fun f=>by
 rw [ZAW]
 by_cases h:f=("most":Str)
 .subst h
  rw [if_pos rfl]
  exact (show List.lookup _ (fA rl ru m' n tl)=some m' by walk_at "lk").symm
 .simp only [lkc,h,if_false]
theorem insAugV {K:W.Frag} {f:Str} {a C:Addr} {fl:List (Str×V)} {i j:Int} {H:Hp} {D:Ends} {σ:St} (h:Ins H a C fl) (cl:Cls K C) (n:NoAttr K C f) (l:fl.lookup f=some (.int i))
  {te:TE} (hte:∀ Q:VK,Q (.int j) H->te σ H Q)
  (q:∀ H',Ins H' a C (putF f (.int (i+j)) fl)->(∀ b,b≠a->H' b=H b)->D.nx σ H'):augA K te rAdd f D σ (.ref a) H:=by
 obtain ⟨dx,fs,h1,h2,h3⟩:=h.ex
 refine ⟨a,C,dx,fs,_,rfl,h1,cl,n,(h3 f).trans l,hte _ ⟨i,j,rfl,rfl,dx,fs,h1,by omega,q _ ⟨dx,_,ZAG,?_,fun g=>?_⟩ fun b hb=>ZAI hb⟩⟩
 .rw [ZBR ((h3 f).trans l)];exact h2
 .rw [ZAW,ZAW,h3]
noncomputable abbrev fS (n:Int):List (Str×V):=[("asked",.int n)]
noncomputable def ZCS (C:Addr):Sp:=fun vs H Q _=>∃ (e:Addr) (n:Int),vs=[.ref e,.int n] /\ H e=some (excM e (.ref C) none) /\ n.natAbs.log2 < 1920 /\ ∀ d,H d=none->d≠e->Q .non (upd (upd H d (xdM d (fS n))) e (excM e (.ref C) (some d)))
noncomputable def ZBL (CA:Addr):Sp:=fun vs H Q _=>∃ (x dx r:Addr) (ru:Addr) (m:V) (xs:List V),vs=[.ref x,.ref r,.ref ru,m] /\ H x=some (.ins CA dx []) /\ H r=some (.lst xs) /\
 ∀ rl tl H',(∀ b o,b≠x->H b=some o->H' b=some o)->H rl=none->H tl=none->rl≠tl->Ins H' x CA (fA rl ru m 0 tl)->H' rl=some (.lst xs)->H' tl=some (.lst [])->Q .non H'
noncomputable def ZCC (CR:Addr):Sp:=fun vs H Q _=>∃ (x dx g:Addr),vs=[.ref x,.ref g] /\ H x=some (.ins CR dx []) /\ ∀ H',(∀ b o,b≠x->H b=some o->H' b=some o)->Ins H' x CR (fR g)->Q .non H'
noncomputable def ZCy (CR:Addr) (r:V->List V->Hp->VK->Prop):Sp:=fun vs H Q _=>∃ (ru g:Addr) (x y:V),vs=[.ref ru,x,y] /\ Ins H ru CR (fR g) /\ r (.ref g) [x,y] H Q
noncomputable def wdn (m:V) (i:Int):V:=match m with | .int k=>.int (k+i) | m=>m
noncomputable def ZD8 (CA:Addr):Sp:=fun vs H Q _=>∃ (a rl ru tl:Addr) (m:V) (n i:Int),vs=[.ref a,.int i] /\ Ins H a CA (fA rl ru m n tl) /\ (m=.non∨∃ k,m=.int k) /\ ∀ H',(∀ b,b≠a->H' b=H b)->Ins H' a CA (fA rl ru (wdn m i) n tl)->Q .non H'
noncomputable def ZCT (CA CR CS:Addr) (r:V->List V->Hp->VK->Prop):Sp:=fun vs H Q E=>∃ (a rl ru tl:Addr) (m:V) (n p q:Int),vs=[.ref a,.int p,.int q] /\ Ins H a CA (fA rl ru m n tl) /\ n.natAbs.log2 < 1920 /\
 ((∃ k,m=.int k /\ k <= n /\ ∀ d H',Same H H'->H d=none->H' d=some (xdM d (fS n))->E (.ref CS) (some d) H') ∨
 ((m=.non∨∃ k,m=.int k /\ n < k) /\ ∃ (xs ts:List V) (x y:V),H rl=some (.lst xs) /\ p≠q /\ 0 <= p /\ 0 <= q /\ xs[(max p q).toNat]?=some x /\ xs[(min p q).toNat]?=some y /\ ZCy CR r [.ref ru,x,y] H (fun v H1=>∃ b,v=.bl b /\ Ins H1 a CA (fA rl ru m n tl) /\ H1 tl=some (.lst ts) /\ ts.length <= 90000 /\
  ∀ t H2,H1 t=none->Ins H2 a CA (fA rl ru m (n+1) tl)->H2 tl=some (.lst (ts++[.ref t]))->H2 t=some (.tup [.int (max p q),.int (min p q),.bl b])->(∀ c,c≠a->c≠tl->c≠t->H2 c=H1 c)->Q (.bl (if q < p then b else !b)) H2) E0))
noncomputable def ZDx (CA:Addr):Sp:=fun vs H Q _=>∃ (a rl ru tl:Addr) (m:V) (n:Int) (xs:List V),vs=[.ref a] /\ Ins H a CA (fA rl ru m n tl) /\ H rl=some (.lst xs) /\ Q (.int xs.length) H
noncomputable def kat (ks:List Int) (p:Nat):Int:=(ks[p]?).getD 0
structure Told (H:Hp) (ks:List Int) (pr:List (Nat×Nat)) (ts:List V):Prop where
 len:ts.length=pr.length
 get:∀ (j p q:Nat),pr[j]?=some (p,q)->∃ t,ts[j]?=some (V.ref t) /\ H t=some (.tup [.int p,.int q,.bl (decide (kat ks p < kat ks q))])
theorem Told.keep {H H':Hp} {ks:List Int} {pr:List (Nat×Nat)} {ts:List V} (e:∀ t x,H t=some (.tup x)->H' t=some (.tup x)) (h:Told H ks pr ts):Told H' ks pr ts :=
 ⟨h.len,fun j p q hj=>let ⟨t,a,b⟩:=h.get j p q hj;⟨t,a,e _ _ b⟩⟩
theorem Told.snoc {H:Hp} {ks:List Int} {pr:List (Nat×Nat)} {ts:List V} {p q:Nat} {t:Addr} (h:Told H ks pr ts) (ht:H t=some (.tup [.int p,.int q,.bl (decide (kat ks p < kat ks q))])):Told H ks (pr++[(p,q)]) (ts++[.ref t]):=by
 refine ⟨by rw [yAB,yAB,h.len];rfl,fun j p' q' hj=>?_⟩
 by_cases hl:j < pr.length
 .rw [yBH hl] at hj
  obtain ⟨t',a,b⟩:=h.get j p' q' hj
  exact ⟨t',by rw [yBH (by rw [h.len];exact hl)];exact a,b⟩
 .have e:=(yAH.mp hj).1
  rw [yAB] at e
  have hj':j=pr.length:=by have:([(p,q)]:List (Nat×Nat)).length=1:=rfl;omega
  subst hj'
  rw [yBA (yAA _),yBI] at hj
  cases hj
  exact ⟨t,by rw [<- h.len,yBA (yAA _),yBI];rfl,ht⟩
theorem ZB4 {H H':Hp} {S:List Addr} {a C:Addr} {fl:List (Str×V)} (e:Fr S H H') (n:a∉S) (h:Ins H a C fl):Ins H' a C fl:=let ⟨dx,fs,h1,h2,h3⟩:=h.ex;⟨dx,fs,e _ _ n h1,h2,h3⟩
structure RuM where
 c:Addr
 m:Str->Option Value
noncomputable def ZCp:Sp:=fun vs H Q _=>∃ (x y:Addr) (k k2 i j:Int),vs=[.ref x,.ref y] /\ H x=some (.tup [.int k,.int i]) /\ H y=some (.tup [.int k2,.int j]) /\ Q (.bl (decide (k < k2))) H
noncomputable def ZBw (mg:Str->Option Value):V->List V->Hp->VK->Prop:=fun f vs H Q=>(∃ g,f=.ref g /\ mg "_law_first"=some (.ref g)) /\ ZCp vs H Q E0
theorem rT_mono {mg:Str->Option Value} {f:V} {vs:List V} {H:Hp} {Q Q':VK} (m:∀ v H,Q v H->Q' v H) (h:ZBw mg f vs H Q):ZBw mg f vs H Q':=by
 obtain ⟨g,x,y,k,k2,i,j,e1,h1,h2,q⟩:=h
 exact ⟨g,x,y,k,k2,i,j,e1,h1,h2,m _ _ q⟩
structure RowC where
 v:List V
 c:Nat
structure Lgd (H:Hp) (c:Nat) (pr:List (Nat×Nat)) (ws:List V):Prop where
 tt:True
theorem Lgd.keep {H H':Hp} {c:Nat} {pr:List (Nat×Nat)} {ts:List V} (e:∀ t x,H t=some (.tup x)->H' t=some (.tup x)) (h:Lgd H c pr ts):Lgd H' c pr ts:=⟨trivial⟩
noncomputable def Bd (mo:V) (n:Nat):Prop:=mo=.non∨∃ k:Nat,mo=.int k /\ n <= k
theorem small_log2 {n:Nat} (h:n <= 100000):((n:Int)).natAbs.log2 < 1920:=by
 rw [Int.natAbs_natCast]
 exact Nat.lt_of_le_of_lt (show n.log2 <= 20 by
  by_cases e:n=0
  .rw [e];decide
  .have:=(Nat.log2_lt (k:=20) e).mpr (by omega);omega) (by decide)
structure SitL (mo:V) (CA:Addr) (CR:RuM) (H:Hp) (ks:List Int) (xs:RowC) (a rl ru tl g lg:Addr) (pr:List (Nat×Nat)):Prop where
 ha:Ins H a CA (fA rl ru mo pr.length tl)
 hrl:H rl=some (.lst xs.v)
 hru:Ins H ru CR.c (fR g)
 clo:CR.m "_law_first"=some (.ref g)
 elt:lg=tl
 len:xs.v.length=ks.length
 row:∀ (i:Nat) k,ks[i]?=some k->∃ r,xs.v[i]?=some (V.ref r) /\ H r=some (.tup [.int k,.int i])
 hlg:∃ ws,H lg=some (.lst ws) /\ Lgd H xs.c pr ws
 htl:∃ ts,H tl=some (.lst ts) /\ Told H ks pr ts
 ne:True /\ rl∉[a,lg,tl] /\ ru≠a
 hmo:Bd mo pr.length
section
variable {mo:V} {CA:Addr} {CR:RuM} {H H':Hp} {ks:List Int} {xs:RowC} {a rl ru tl g lg:Addr} {pr:List (Nat×Nat)}
theorem SitL.tupS (h:SitL mo CA CR H ks xs a rl ru tl g lg pr) {b:Addr} {o:HO} (hb:H b=some o) (n1:∀ x,o≠.lst x) (n2:∀ C d f,o≠.ins C d f):b∉[a,lg,tl]:=by
 obtain ⟨ws,hlg,_⟩:=h.hlg
 obtain ⟨ts,htl,_⟩:=h.htl
 intro z
 rcases yAE.mp z with z | z
 .exact h.ha.ne hb n2 z
 rcases yAE.mp z with z | z
 .rw [z,hlg] at hb;exact n1 _ (Option.some.inj hb).symm
 .rw [yAS.mp z,htl] at hb;exact n1 _ (Option.some.inj hb).symm
theorem SitL.ruS (h:SitL mo CA CR H ks xs a rl ru tl g lg pr):ru∉[a,lg,tl]:=by
 obtain ⟨ws,hlg,_⟩:=h.hlg
 obtain ⟨ts,htl,_⟩:=h.htl
 obtain ⟨d1,f1,e1,_⟩:=h.hru.ex
 intro z
 rcases yAE.mp z with z | z
 .exact h.ne.2.2 z
 rcases yAE.mp z with z | z
 .rw [z,hlg] at e1;cases e1
 .rw [yAS.mp z,htl] at e1;cases e1
theorem SitL.keep (h:SitL mo CA CR H ks xs a rl ru tl g lg pr) (e:Fr [a,lg,tl] H H') {pr':List (Nat×Nat)} {ts' ws':List V} (h1:Ins H' a CA (fA rl ru mo pr'.length tl)) (h2:H' tl=some (.lst ts')) (h3:Told H' ks pr' ts') (h4:H' lg=some (.lst ws')) (h5:Lgd H' xs.c pr' ws') (h6:Bd mo pr'.length):SitL mo CA CR H' ks xs a rl ru tl g lg pr' where
 ha:=h1
 hrl:=e _ _ h.ne.2.1 h.hrl
 hru:=ZB4 e h.ruS h.hru
 clo:=h.clo
 elt:=h.elt
 len:=h.len
 row:=fun i k hk=>let ⟨r,a1,a2⟩:=h.row i k hk;⟨r,a1,e _ _ (h.tupS a2 (fun _ z=>by cases z) (fun _ _ _ z=>by cases z)) a2⟩
 hlg:=⟨_,h4,h5⟩
 htl:=⟨_,h2,h3⟩
 ne:=h.ne
 hmo:=h6
theorem SitL.mono (h:SitL mo CA CR H ks xs a rl ru tl g lg pr) (e:Same H H'):SitL mo CA CR H' ks xs a rl ru tl g lg pr :=
 let ⟨_,h2,h3⟩:=h.htl;let ⟨_,h4,h5⟩:=h.hlg;h.keep e.fr (h.ha.mono e) (e _ _ h2) (h3.keep fun _ _ z=>e _ _ z) (e _ _ h4) (h5.keep fun _ _ z=>e _ _ z) h.hmo
end
noncomputable def XE (mo:V) (CA:Addr) (CR:RuM) (CS:Addr) (ks:List Int) (xs:RowC) (a rl ru tl g lg:Addr) (n0:Nat) (Tr:Nat->Prop) (H:Hp) (E:XK):Prop:=∀ (k n:Nat) (H':Hp) (d:Addr) (pr':List (Nat×Nat)),mo=.int k->pr'.length=k->Tr n->k < n0+n->Fr [a,lg,tl] H H'->H' d=some (xdM d (fS k))->SitL mo CA CR H' ks xs a rl ru tl g lg pr'->E (.ref CS) (some d) H'
theorem XE.sub {mo:V} {CA:Addr} {CR:RuM} {CS:Addr} {ks:List Int} {xs:RowC} {a rl ru tl g lg:Addr} {n0 n1:Nat} {Tr Tr':Nat->Prop} {H H1:Hp} {E:XK} (h:XE mo CA CR CS ks xs a rl ru tl g lg n0 Tr H E) (f:Fr [a,lg,tl] H H1) (hs:∀ n,Tr' n->∃ m,Tr m /\ n1+n <= n0+m):XE mo CA CR CS ks xs a rl ru tl g lg n1 Tr' H1 E:=fun k n H' d pr' e1 e2 e3 e4 e5 e6 e7=>by
 obtain ⟨m,h1,h2⟩:=hs n e3
 exact h k m H' d pr' e1 e2 h1 (by omega) (f.trans e5) e6 e7
section
variable {mo:V} {CA:Addr} {CR:RuM} {H H':Hp} {ks:List Int} {xs:RowC} {a rl ru tl g lg:Addr} {pr:List (Nat×Nat)}
theorem SitL.ahead (h:SitL mo CA CR H ks xs a rl ru tl g lg pr) {p q:Nat} (hpq:p≠q) (hp:p < ks.length) (hq:q < ks.length) (hpr:pr.length <= 80000) {Q:VK} {CS:Addr} {E:XK} (ex:XE mo CA CR CS ks xs a rl ru tl g lg pr.length (fun n=>n=1) H E)
  (fin:∀ H',Fr [a,lg,tl] H H'->SitL mo CA CR H' ks xs a rl ru tl g lg (pr++[(max p q,min p q)])->Q (.bl (if q < p then decide (kat ks p < kat ks q) else !decide (kat ks q < kat ks p))) H'):ZCT CA CR.c CS (ZBw CR.m) [.ref a,.int p,.int q] H Q E:=by
 have hcase:(∃ k:Nat,mo=.int k /\ pr.length=k)∨(mo=.non∨∃ k:Int,mo=.int k /\ (pr.length:Int) < k):=by
  rcases id h.hmo with z | ⟨k,z1,z2⟩
  .exact .inr (.inl z)
  .by_cases e:pr.length=k
   .exact .inl ⟨k,z1,e⟩
   .exact .inr (.inr ⟨k,z1,by omega⟩)
 rcases hcase with ⟨k,z1,z2⟩ | hmost
 .refine ⟨a,rl,ru,tl,mo,pr.length,p,q,rfl,h.ha,small_log2 (by omega),.inl ⟨k,z1,by omega,fun d H' s1 hd h1=>?_⟩⟩
  exact ex k 1 H' d pr z1 z2 rfl (by omega) s1.fr (by rw [h1,z2]) (h.mono s1)
 obtain ⟨ts,htl,hts⟩:=h.htl
 have hmx:max p q < ks.length:=by omega
 have hmn:min p q < ks.length:=by omega
 obtain ⟨x,hx,tx⟩:=h.row (max p q) _ (yAL hmx)
 obtain ⟨y,hy,ty⟩:=h.row (min p q) _ (yAL hmn)
 have emx:(max (p:Int) q).toNat=max p q:=by omega
 have emn:(min (p:Int) q).toNat=min p q:=by omega
 have kx:ks[max p q]=kat ks (max p q):=by unfold kat;rw [yAL hmx];rfl
 have ky':ks[min p q]=kat ks (min p q):=by unfold kat;rw [yAL hmn];rfl
 refine ⟨a,rl,ru,tl,mo,pr.length,p,q,rfl,h.ha,small_log2 (by omega),.inr ⟨hmost,xs.v,ts,.ref x,.ref y,h.hrl,by omega,by omega,by omega,by rw [emx];exact hx,by rw [emn];exact hy,?_⟩⟩
 rw [kx] at tx
 rw [ky'] at ty
 refine ⟨ru,g,.ref x,.ref y,rfl,h.hru,⟨g,rfl,h.clo⟩,x,y,_,_,_,_,rfl,tx,ty,?_⟩
 refine ⟨_,rfl,h.ha,htl,by rw [hts.len];omega,fun t2 H2 hn2 ha2 htl2 ht2 k2=>?_⟩
 have fr:Fr [a,lg,tl] H H2:=fun b o n hb=>by
  have m1:b≠a:=fun z=>n (by rw [z];exact yAF)
  have m3:b≠tl:=fun z=>n (by rw [z];exact yAD _ (yAD _ yAF))
  rw [k2 b m1 m3 (ZAC hb hn2)]
  exact hb
 have tk:∀ b x,H b=some (.tup x)->H2 b=some (.tup x):=fun b x hb=>fr _ _ (h.tupS hb (fun _ z=>by cases z) (fun _ _ _ z=>by cases z)) hb
 have ht2':H2 t2=some (.tup [.int ((max p q:Nat):Int),.int ((min p q:Nat):Int),.bl (decide (kat ks (max p q) < kat ks (min p q)))]):=by
  rw [show (((max p q:Nat):Int))=max (p:Int) q by omega,show (((min p q:Nat):Int))=min (p:Int) q by omega]
  exact ht2
 have st:=h.keep fr (pr':=pr++[(max p q,min p q)]) (by rw [yAB];exact ha2) htl2 ((hts.keep tk).snoc ht2') (by rw [h.elt];exact htl2) ⟨trivial⟩ (by
  rcases hmost with z | ⟨k,z1,z2⟩
  .exact .inl z
  .exact .inr ⟨k.toNat,by rw [z1,Int.toNat_of_nonneg (by omega)],by rw [yAB,yAT];omega⟩)
 have g':=fin H2 fr st
 by_cases hlt:q < p
 .rw [if_pos hlt] at g'
  rw [if_pos (by omega),show max p q=p by omega,show min p q=q by omega]
  exact g'
 .rw [if_neg hlt] at g'
  rw [if_neg (by omega),show max p q=q by omega,show min p q=p by omega]
  exact g'
theorem SitL.newS (h:SitL mo CA CR H ks xs a rl ru tl g lg pr) {b:Addr} (hb:H b=none):b∉[a,lg,tl]:=fun z=>by
 obtain ⟨ws,h1,_⟩:=h.hlg
 obtain ⟨us,h2,_⟩:=h.htl
 rcases yAE.mp z with z | z
 .exact h.ha.neN hb z
 rcases yAE.mp z with z | z
 .rw [z,h1] at hb;cases hb
 .rw [yAS.mp z,h2] at hb;cases hb
end
noncomputable def dec (ks:List Int) (i:Nat):Bool:=decide (kat ks i < kat ks (i-1))
noncomputable def Beyond (ks:List Int) (first stop j:Nat) (f:Bool):Prop :=
 (first+1=stop /\ j=stop /\ f=false)∨(first+1 < stop /\ f=dec ks (first+1) /\ first+1 < j /\ j <= stop /\ (∀ i,first+1 <= i->i < j->dec ks i=f) /\ (j < stop->dec ks j≠f))
theorem Beyond.uniq {ks:List Int} {first stop j j':Nat} {f f':Bool} (h:Beyond ks first stop j f) (h':Beyond ks first stop j' f'):j=j' /\ f=f':=by
 rcases h with ⟨a,b,c⟩ | ⟨a,b,c,d,e,g⟩ <;> rcases h' with ⟨a',b',c'⟩ | ⟨a',b',c',d',e',g'⟩
 .exact ⟨b.trans b'.symm,c.trans c'.symm⟩
 .omega
 .omega
 .have ef:f=f':=b.trans b'.symm
  subst ef
  refine ⟨?_,rfl⟩
  rcases Nat.lt_trichotomy j j' with z | z | z
  .exact absurd (e' j (by omega) z) (g (by omega))
  .exact z
  .exact absurd (e j' (by omega) z) (g' (by omega))
noncomputable def asks (first e:Nat):List (Nat×Nat):=(List.range' (first+1) (e-(first+1))).map fun k=>(k,k-1)
theorem ZBu (first e:Nat):(asks first e).length=e-(first+1):=by unfold asks;rw [yAC,yCI]
theorem asks_snoc {first k:Nat} (h:first+1 <= k):asks first (k+1)=asks first k++[(k,k-1)]:=by
 unfold asks
 rw [show k+1-(first+1)=(k-(first+1))+1 by omega,List.range'_concat,yAN]
 congr 1
 show [(first+1+1 * (k-(first+1)),first+1+1 * (k-(first+1))-1)]=_
 rw [show first+1+1 * (k-(first+1))=k by omega]
theorem asks_none {first e:Nat} (h:e <= first+1):asks first e=[]:=by unfold asks;rw [show e-(first+1)=0 by omega];rfl
theorem Beyond_ex {ks:List Int} {first stop:Nat} (h0:first+1 < stop):∀ (n k:Nat),stop-k=n->first+1 < k->k <= stop->(∀ i,first+1 <= i->i < k->dec ks i=dec ks (first+1))->∃ j f,Beyond ks first stop j f /\ k <= j:=by
 intro n
 induction n with
 | zero=>intro k hn h1 h2 h3;exact ⟨k,_,.inr ⟨by omega,rfl,h1,h2,h3,fun z=>by omega⟩,yAA _⟩
 | succ n ih=>
  intro k hn h1 h2 h3
  by_cases hd:dec ks k=dec ks (first+1)
  .obtain ⟨j,f,a,b⟩:=ih (k+1) (by omega) (by omega) (by omega) fun i z1 z2=>by
    by_cases z:i=k
    .rw [z];exact hd
    .exact h3 i z1 (by omega)
   exact ⟨j,f,a,by omega⟩
  .exact ⟨k,_,.inr ⟨by omega,rfl,h1,h2,h3,fun _=>hd⟩,yAA _⟩
theorem str_more {ks:List Int} {first stop k n:Nat} {pr:List (Nat×Nat)} (h1:first+1 < k) (h2:k < stop) (h3:∀ i,first+1 <= i->i < k->dec ks i=dec ks (first+1)) (hn:n=1):∃ m,(∃ j f,Beyond ks first stop j f /\ m=(asks first (min (j+1) stop)).length) /\ (pr++asks first k).length+n <= pr.length+m:=by
 obtain ⟨j,f,a,b⟩:=Beyond_ex (stop:=stop) (by omega) _ k rfl h1 (by omega) h3
 exact ⟨_,⟨j,f,a,rfl⟩,by rw [yAB,ZBu,ZBu];omega⟩
theorem str_first {ks:List Int} {first stop n n0:Nat} (h1:first+1 < stop) (hn:n=1):∃ m,(∃ j f,Beyond ks first stop j f /\ m=(asks first (min (j+1) stop)).length) /\ n0+n <= n0+m:=by
 obtain ⟨j,f,a,b⟩:=Beyond_ex (stop:=stop) h1 _ (first+2) rfl (by omega) (by omega) fun i z1 z2=>by rw [show i=first+1 by omega]
 exact ⟨_,⟨j,f,a,rfl⟩,by rw [ZBu];omega⟩
noncomputable def ZCo (CA:Addr) (CR:RuM) (CS:Addr):Sp:=fun vs H Q E=>∃ (mo:V) (ks:List Int) (xs:RowC) (a rl ru tl g lg:Addr) (pr:List (Nat×Nat)) (first stop:Nat) (e:V),vs=[.ref a,.int first,e] /\ SitL mo CA CR H ks xs a rl ru tl g lg pr /\ ((e=.non /\ stop=ks.length)∨e=.int stop) /\ first < stop /\ stop <= ks.length /\ ks.length <= 119 /\ pr.length <= 50000 /\ XE mo CA CR CS ks xs a rl ru tl g lg pr.length (fun n=>∃ j f,Beyond ks first stop j f /\ n=(asks first (min (j+1) stop)).length) H E /\
 ∀ H' t j f,Fr [a,lg,tl] H H'->H' t=some (.tup [.int (j:Nat),.bl f])->Beyond ks first stop j f->SitL mo CA CR H' ks xs a rl ru tl g lg (pr++asks first (min (j+1) stop))->Q (.ref t) H'
noncomputable def ZBX (first j:Nat) (f:Bool):List Nat:=if f=true then (List.range' first (j-first)).reverse else List.range' first (j-first)
theorem ZCa (first j:Nat) (f:Bool):(ZBX first j f).length=j-first:=by unfold ZBX;split <;> simp
theorem turnN_mem {first j:Nat} {f:Bool} {x:Nat}:x∈ZBX first j f↔first <= x /\ x < j:=by
 unfold ZBX
 split
 .rw [List.mem_reverse,List.mem_range'_1];omega
 .rw [List.mem_range'_1];omega
theorem turnN_up {first j i:Nat} (h:i < j-first):(ZBX first j false)[i]?=some (first+i):=by
 unfold ZBX
 rw [if_neg (by decide),List.getElem?_range' h,Nat.one_mul]
theorem turnN_down {first j i:Nat} (h:i < j-first):(ZBX first j true)[i]?=some (j-1-i):=by
 unfold ZBX
 rw [if_pos rfl,List.getElem?_reverse (by rw [yCI];exact h),yCI,List.getElem?_range' (by omega),Nat.one_mul]
 congr 1
 omega
noncomputable abbrev nL (l:List Nat):List V:=l.map fun (x:Nat)=>V.int (x:Int)
theorem ZCv (l:List Nat):nL l=(l.map fun (x:Nat)=>(x:Int)).map V.int:=by rw [List.map_map];rfl
theorem rints_nat {lo hi:Nat}:(ZDE (lo:Int) (hi:Int)).map V.int=nL (List.range' lo (hi-lo)):=by
 refine List.ext_getElem? fun i=>?_
 unfold nL
 rw [yAW,yAW]
 by_cases h:i < hi-lo
 .rw [List.getElem?_range' h,rints_get (by omega)]
  show some (V.int ((lo:Int)+i))=some (V.int ((lo+1 * i:Nat):Int))
  congr 2
  omega
 .rw [yBY (by rw [ZBy];omega),yBY (by rw [yCI];omega)]
  rfl
noncomputable def ZDY:Sp:=fun vs H Q _=>∃ (first j:Nat) (f:Bool),vs=[.int first,.int j,.bl f] /\ first <= 1000 /\ j <= 1000 /\ ∀ l H',Same H H'->H l=none->H' l=some (.lst (nL (ZBX first j f)))->Q (.ref l) H'
noncomputable def lx (ks:List Int) (x y:Nat):Prop:=kat ks x < kat ks y∨(kat ks x=kat ks y /\ x < y)
inductive Halv (ks:List Int) (os:List Nat) (pl:Nat):Nat->Nat->Nat->List (Nat×Nat)->Prop
 | done {low high:Nat}:¬ low < high->Halv ks os pl low high low []
 | less {low high r o:Nat} {l:List (Nat×Nat)}:low < high->os[(low+high) / 2]?=some o->kat ks pl < kat ks o->Halv ks os pl low ((low+high) / 2) r l->Halv ks os pl low high r ((pl,o)::l)
 | more {low high r o:Nat} {l:List (Nat×Nat)}:low < high->os[(low+high) / 2]?=some o->¬ kat ks pl < kat ks o->Halv ks os pl ((low+high) / 2+1) high r l->Halv ks os pl low high r ((pl,o)::l)
theorem Halv.bounds {ks:List Int} {os:List Nat} {pl low high r:Nat} {l:List (Nat×Nat)} (h:Halv ks os pl low high r l):low <= high->low <= r /\ r <= high:=by
 induction h with
 | done n=>intro h;omega
 | less a _ _ _ ih=>intro _;have:=ih (by omega);omega
 | more a _ _ _ ih=>intro _;have:=ih (by omega);omega
theorem Halv.len {ks:List Int} {os:List Nat} {pl low high r:Nat} {l:List (Nat×Nat)} (h:Halv ks os pl low high r l):l.length <= high-low:=by
 induction h with
 | done n=>simp
 | less a _ _ _ ih=>rw [yAG];omega
 | more a _ _ _ ih=>rw [yAG];omega
theorem Halv.asked {ks:List Int} {os:List Nat} {pl low high r:Nat} {l:List (Nat×Nat)} (h:Halv ks os pl low high r l):low <= high ->
  (∀ x,low < r->os[r-1]?=some x->(pl,x)∈l) /\ (∀ x,r < high->os[r]?=some x->(pl,x)∈l):=by
 induction h with
 | done n=>intro h;exact ⟨fun x z=>by omega,fun x z=>by omega⟩
 | @less low high r o l a b c d ih=>
  intro _
  have hb:=d.bounds (by omega)
  obtain ⟨i1,i2⟩:=ih (by omega)
  refine ⟨fun x z e=>yAD _ (i1 x z e),fun x z e=>?_⟩
  by_cases hr:r < (low+high) / 2
  .exact yAD _ (i2 x hr e)
  .have:r=(low+high) / 2:=by omega
   rw [this,b] at e
   cases e
   exact yAF
 | @more low high r o l a b c d ih=>
  intro _
  have hb:=d.bounds (by omega)
  obtain ⟨i1,i2⟩:=ih (by omega)
  refine ⟨fun x z e=>?_,fun x z e=>yAD _ (i2 x z e)⟩
  by_cases hr:(low+high) / 2+1 < r
  .exact yAD _ (i1 x hr e)
  .have:r-1=(low+high) / 2:=by omega
   rw [this,b] at e
   cases e
   exact yAF
theorem Halv.each {ks:List Int} {os:List Nat} {pl low high r:Nat} {l:List (Nat×Nat)} (h:Halv ks os pl low high r l):∀ c∈l,c.1=pl /\ c.2∈os:=by
 induction h with
 | done n=>intro c h;cases h
 | less a b _ _ ih=>
  intro c h
  rcases yAE.mp h with z | z
  .rw [z];exact ⟨rfl,yBB b⟩
  .exact ih c z
 | more a b _ _ ih=>
  intro c h
  rcases yAE.mp h with z | z
  .rw [z];exact ⟨rfl,yBB b⟩
  .exact ih c z
theorem ZCf {ks:List Int} {x y z:Nat} (a:lx ks x y) (b:lx ks y z):lx ks x z:=by unfold lx at *;omega
theorem ZDM {ks:List Int} {os:List Nat} (h:os.Pairwise (lx ks)) {i j x y:Nat} (hij:i < j) (hx:os[i]?=some x) (hy:os[j]?=some y):lx ks x y:=by
 obtain ⟨h1,e1⟩:=yAH.mp hx
 obtain ⟨h2,e2⟩:=yAH.mp hy
 have:=List.pairwise_iff_getElem.mp h i j h1 h2 hij
 rw [e1,e2] at this
 exact this
theorem Halv.spot {ks:List Int} {os:List Nat} {pl low high r:Nat} {l:List (Nat×Nat)} (hs:os.Pairwise (lx ks)) (h:Halv ks os pl low high r l):low <= high ->
  (∀ i x,low <= i->i < r->os[i]?=some x->¬ kat ks pl < kat ks x) /\ (∀ i x,r <= i->i < high->os[i]?=some x->kat ks pl < kat ks x):=by
 induction h with
 | done n=>intro h;exact ⟨fun i x z1 z2=>by omega,fun i x z1 z2=>by omega⟩
 | @less low high r o l a b c d ih=>
  intro _
  have hb:=d.bounds (by omega)
  obtain ⟨i1,i2⟩:=ih (by omega)
  refine ⟨i1,fun i x z1 z2 e=>?_⟩
  by_cases hr:i < (low+high) / 2
  .exact i2 i x z1 hr e
  .by_cases hi:i=(low+high) / 2
   .rw [hi,b] at e;cases e;exact c
   .have:=ZDM hs (show (low+high) / 2 < i by omega) b e
    unfold lx at this
    omega
 | @more low high r o l a b c d ih=>
  intro _
  have hb:=d.bounds (by omega)
  obtain ⟨i1,i2⟩:=ih (by omega)
  refine ⟨fun i x z1 z2 e=>?_,i2⟩
  by_cases hr:(low+high) / 2 < i
  .exact i1 i x hr z2 e
  .by_cases hi:i=(low+high) / 2
   .rw [hi,b] at e;cases e;exact c
   .have:=ZDM hs (show i < (low+high) / 2 by omega) e b
    unfold lx at this
    omega
noncomputable def insN (os:List Nat) (r pl:Nat):List Nat:=os.take r++pl::os.drop r
theorem ZDm {os:List Nat} {r pl:Nat}:(insN os r pl).length=os.length+1:=by
 unfold insN
 rw [yAB,yAG,yAM,yAR]
 omega
theorem insN_mem {os:List Nat} {r pl x:Nat}:x∈insN os r pl↔x=pl∨x∈os:=by
 unfold insN
 rw [yBD,yAE]
 have:x∈os↔x∈os.take r∨x∈os.drop r:=by rw [<- yBD,yBJ]
 rw [this]
 exact ⟨fun h=>h.elim (fun z=>.inr (.inl z)) (fun z=>z.elim .inl fun z=>.inr (.inr z)),fun h=>h.elim (fun z=>.inr (.inl z)) fun z=>z.elim .inl fun z=>.inr (.inr z)⟩
theorem insN_sorted {ks:List Int} {os:List Nat} {pl r:Nat} {l:List (Nat×Nat)} (hs:os.Pairwise (lx ks)) (hlt:∀ x∈os,x < pl) (h:Halv ks os pl 0 os.length r l):(insN os r pl).Pairwise (lx ks):=by
 obtain ⟨s1,s2⟩:=h.spot hs (yAI _)
 have hb:=h.bounds (yAI _)
 have hsp:(os.take r++os.drop r).Pairwise (lx ks):=by rw [yBJ];exact hs
 obtain ⟨p1,p2,p3⟩:=yBZ.mp hsp
 have ha:∀ x∈os.take r,lx ks x pl:=fun x hx=>by
  obtain ⟨i,hi⟩:=yBN hx
  have hir:i < r:=by
   have:=(yAH.mp hi).1
   rw [yAM] at this
   omega
  rw [yBX hir] at hi
  have z1:=s1 i x (yAI _) hir hi
  have z2:=hlt x (yBB hi)
  unfold lx
  omega
 have hd:∀ y∈os.drop r,lx ks pl y:=fun y hy=>by
  obtain ⟨i,hi⟩:=yBN hy
  rw [yBT] at hi
  exact .inl (s2 (r+i) y (by omega) (yAH.mp hi).1 hi)
 unfold insN
 refine yBZ.mpr ⟨p1,yCE.mpr ⟨hd,p2⟩,fun x hx y hy=>?_⟩
 rcases yAE.mp hy with z | z
 .rw [z];exact ha x hx
 .exact p3 x hx y z
noncomputable def Adj (os:List Nat) (pr:List (Nat×Nat)):Prop:=∀ (i x y:Nat),os[i]?=some x->os[i+1]?=some y->(max x y,min x y)∈pr
theorem insN_get {os:List Nat} {r pl i:Nat} (hr:r <= os.length):(insN os r pl)[i]?=if i < r then os[i]? else if i=r then some pl else os[i-1]?:=by
 unfold insN
 by_cases h:i < r
 .rw [if_pos h,yBH (by rw [yAM];omega),yBX h]
 .rw [if_neg h,yBA (by rw [yAM];omega),yAM,yBK hr]
  by_cases e:i=r
  .rw [if_pos e,e,yBI];rfl
  .rw [if_neg e,show i-r=(i-r-1)+1 by omega,List.getElem?_cons_succ,yBT]
   congr 1
   omega
theorem insN_adj {ks:List Int} {os:List Nat} {pr:List (Nat×Nat)} {pl r:Nat} {l:List (Nat×Nat)} (hlt:∀ x∈os,x < pl) (h:Halv ks os pl 0 os.length r l) (ha:Adj os pr):Adj (insN os r pl) (pr++l):=by
 have hb:=h.bounds (yAI _)
 obtain ⟨a1,a2⟩:=h.asked (yAI _)
 intro i x y hx hy
 rw [insN_get hb.2] at hx hy
 by_cases h1:i+1 < r
 .rw [if_pos (by omega)] at hx
  rw [if_pos h1] at hy
  exact yBM _ (ha i x y hx hy)
 rw [if_neg h1] at hy
 by_cases h2:i+1=r
 .rw [if_pos (by omega)] at hx
  rw [if_pos h2] at hy
  cases hy
  have:=hlt x (yBB hx)
  rw [show max x pl=pl by omega,show min x pl=x by omega]
  exact yAV _ (a1 x (by omega) (by rw [show r-1=i by omega];exact hx))
 rw [if_neg h2] at hy
 rw [if_neg (by omega)] at hx
 rw [show i+1-1=i by omega] at hy
 by_cases h3:i=r
 .rw [if_pos h3] at hx
  cases hx
  have:=hlt y (yBB hy)
  rw [show max pl y=pl by omega,show min pl y=y by omega]
  rw [h3] at hy
  exact yAV _ (a2 y (yAH.mp hy).1 hy)
 .rw [if_neg h3] at hx
  refine yBM _ (ha (i-1) x y hx (by rw [show i-1+1=i by omega];exact hy))
inductive Put (ks:List Int):List Nat->Nat->Nat->List Nat->List (Nat×Nat)->Prop
 | nil {os:List Nat} {p e:Nat}:¬ p < e->Put ks os p e os []
 | cons {os os':List Nat} {p e r:Nat} {l l':List (Nat×Nat)}:p < e->Halv ks os p 0 os.length r l->Put ks (insN os r p) (p+1) e os' l'->Put ks os p e os' (l++l')
structure OrdN (ks:List Int) (first place:Nat) (os:List Nat):Prop where
 len:os.length=place-first
 mem:∀ x,x∈os↔first <= x /\ x < place
 srt:os.Pairwise (lx ks)
theorem OrdN.ins {ks:List Int} {first place:Nat} {os:List Nat} {r:Nat} {l:List (Nat×Nat)} (hf:first <= place) (o:OrdN ks first place os) (h:Halv ks os place 0 os.length r l):OrdN ks first (place+1) (insN os r place) :=
 ⟨by rw [ZDm,o.len];omega,fun x=>by rw [insN_mem,o.mem];omega,insN_sorted o.srt (fun x hx=>((o.mem x).mp hx).2) h⟩
theorem Beyond.adj {ks:List Int} {first stop j:Nat} {f:Bool} (h:Beyond ks first stop j f):∀ (i x y:Nat),(ZBX first j f)[i]?=some x->(ZBX first j f)[i+1]?=some y->lx ks x y /\ (max x y,min x y)∈asks first (min (j+1) stop):=by
 intro i x y hx hy
 have hlt:=(yAH.mp hy).1
 rw [ZCa] at hlt
 have hj:j <= stop:=by rcases h with ⟨z1,z2,_⟩ | ⟨_,_,z1,z2,_⟩ <;> omega
 have hd:∀ i,first+1 <= i->i < j->dec ks i=f:=by
  rcases h with ⟨a,b,_⟩ | ⟨_,_,_,_,e,_⟩
  .intro i h1 h2;omega
  .exact e
 have ha:∀ k,first+1 <= k->k < j->(k,k-1)∈asks first (min (j+1) stop):=fun k h1 h2=>by
  unfold asks
  exact List.mem_map.mpr ⟨k,List.mem_range'_1.mpr (by omega),rfl⟩
 cases f with
 | false=>
  rw [turnN_up (by omega)] at hx
  rw [turnN_up (by omega)] at hy
  cases hx
  cases hy
  have z:=hd (first+i+1) (by omega) (by omega)
  have z':=of_decide_eq_false z
  rw [show first+i+1-1=first+i by omega] at z'
  have m:=ha (first+i+1) (by omega) (by omega)
  rw [show first+i+1-1=first+i by omega] at m
  rw [show first+(i+1)=first+i+1 by omega,show max (first+i) (first+i+1)=first+i+1 by omega,show min (first+i) (first+i+1)=first+i by omega]
  refine ⟨?_,m⟩
  unfold lx
  omega
 | true=>
  rw [turnN_down (by omega)] at hx
  rw [turnN_down (by omega)] at hy
  cases hx
  cases hy
  have z:=hd (j-1-i) (by omega) (by omega)
  have z':=of_decide_eq_true z
  have m:=ha (j-1-i) (by omega) (by omega)
  rw [show j-1-i-1=j-1-(i+1) by omega] at z' m
  rw [show max (j-1-i) (j-1-(i+1))=j-1-i by omega,show min (j-1-i) (j-1-(i+1))=j-1-(i+1) by omega]
  exact ⟨.inl z',m⟩
theorem pw_of_adj {ks:List Int}:∀ {os:List Nat},(∀ (i x y:Nat),os[i]?=some x->os[i+1]?=some y->lx ks x y)->os.Pairwise (lx ks)
 | [],_=>.nil
 | [x],_=>List.pairwise_singleton _ _
 | x::y::r,h=>by
  have ih:=pw_of_adj (ks:=ks) (os:=y::r) fun i a b ha hb=>h (i+1) a b ha hb
  have hxy:=h 0 x y rfl rfl
  refine yCE.mpr ⟨fun z hz=>?_,ih⟩
  rcases yAE.mp hz with e | e
  .rw [e];exact hxy
  .exact ZCf hxy ((yCE.mp ih).1 z e)
theorem Beyond.ord {ks:List Int} {first stop j:Nat} {f:Bool} (h:Beyond ks first stop j f):OrdN ks first j (ZBX first j f) :=
 ⟨ZCa _ _ _,fun _=>turnN_mem,pw_of_adj fun i x y hx hy=>(h.adj i x y hx hy).1⟩
theorem ZEI {a lg tl b:Addr} (n1:b≠a) (n2:b≠lg) (n3:b≠tl):b∉[a,lg,tl]:=fun z=>by
 rcases yAE.mp z with z | z
 .exact n1 z
 rcases yAE.mp z with z | z
 .exact n2 z
 .exact n3 (yAS.mp z)
theorem SitL.upd {mo:V} {CA:Addr} {CR:RuM} {H:Hp} {ks:List Int} {xs:RowC} {a rl ru tl g lg:Addr} {pr:List (Nat×Nat)} (h:SitL mo CA CR H ks xs a rl ru tl g lg pr) {l:Addr} {us us':List V} (hl:H l=some (.lst us)) (n:rl≠l /\ lg≠l /\ tl≠l):SitL mo CA CR (upd H l (.lst us')) ks xs a rl ru tl g lg pr:=by
 have k:∀ t o,H t=some o->(∀ x,o≠.lst x)->L2.upd H l (.lst us') t=some o:=fun t o z no=>by
  rw [ZAI (fun e=>by rw [e,hl] at z;exact no _ (Option.some.inj z).symm)];exact z
 have nla:l≠a:=h.ha.ne hl fun _ _ _ z=>by cases z
 refine ⟨h.ha.keep (ZAI (Ne.symm nla)),by rw [ZAI n.1];exact h.hrl,?_,?_,h.elt,h.len,fun i c hk=>?_,?_,?_,h.ne,h.hmo⟩
 .obtain ⟨d1,f1,e1,e2,e3⟩:=h.hru.ex
  exact ⟨d1,f1,k _ _ e1 (fun _ z=>by cases z),e2,e3⟩
 .exact h.clo
 .obtain ⟨r,a1,a2⟩:=h.row i c hk
  exact ⟨r,a1,k _ _ a2 (fun _ z=>by cases z)⟩
 .obtain ⟨ts,a1,a2⟩:=h.hlg
  exact ⟨ts,by rw [ZAI n.2.1];exact a1,a2.keep fun t x z=>k _ _ z (fun _ z=>by cases z)⟩
 .obtain ⟨ts,a1,a2⟩:=h.htl
  exact ⟨ts,by rw [ZAI n.2.2];exact a1,a2.keep fun t x z=>k _ _ z (fun _ z=>by cases z)⟩
theorem Halv_ex {ks:List Int} {os:List Nat} {pl:Nat}:∀ (n:Nat) {low high:Nat},high-low=n->high <= os.length->∃ r l,Halv ks os pl low high r l:=by
 intro n
 induction n using Nat.strongRecOn with
 | ind n ih=>
  intro low high hn hh
  by_cases h:low < high
  .have e:=yAL (show (low+high) / 2 < os.length by omega)
   by_cases c:kat ks pl < kat ks os[(low+high) / 2]
   .obtain ⟨r,l,z⟩:=ih ((low+high) / 2-low) (by omega) (low:=low) rfl (by omega)
    exact ⟨_,_,.less h e c z⟩
   .obtain ⟨r,l,z⟩:=ih (high-((low+high) / 2+1)) (by omega) (low:=(low+high) / 2+1) rfl hh
    exact ⟨_,_,.more h e c z⟩
  .exact ⟨_,_,.done h⟩
theorem halv_more {ks:List Int} {os:List Nat} {pl low high n:Nat} {pr dn:List (Nat×Nat)} (h1:low < high) (h2:high <= os.length) (hh:∀ r l,Halv ks os pl low high r l->Halv ks os pl 0 os.length r (dn++l)) (hn:n=1):∃ m,(∃ r l,Halv ks os pl 0 os.length r l /\ m=l.length) /\ (pr++dn).length+n <= pr.length+m:=by
 obtain ⟨r,l,z⟩:=Halv_ex (ks:=ks) (pl:=pl) _ (low:=low) rfl h2
 have:1 <= l.length:=by
  cases z with
  | done a=>exact absurd h1 a
  | less a b c d=>rw [yAG];omega
  | more a b c d=>rw [yAG];omega
 exact ⟨_,⟨_,_,hh r l z,rfl⟩,by rw [yAB,yAB];omega⟩
noncomputable def ZDU (CA:Addr) (CR:RuM) (CS:Addr):Sp:=fun vs H Q E=>∃ (mo:V) (ks:List Int) (xs:RowC) (a rl ru tl g lg ol:Addr) (pr:List (Nat×Nat)) (os:List Nat) (pl:Nat),vs=[.ref a,.ref ol,.int pl] /\ SitL mo CA CR H ks xs a rl ru tl g lg pr /\ H ol=some (.lst (nL os)) /\ ol∉[a,lg,tl] /\ os.length <= 500 /\ (∀ x∈os,x < pl) /\ pl < ks.length /\ pr.length <= 70000 /\ XE mo CA CR CS ks xs a rl ru tl g lg pr.length (fun n=>∃ r l,Halv ks os pl 0 os.length r l /\ n=l.length) H E /\
 ∀ H' r l,Fr [a,lg,tl] H H'->Halv ks os pl 0 os.length r l->SitL mo CA CR H' ks xs a rl ru tl g lg (pr++l)->Q (.int (r:Nat)) H'
theorem ZDD {os:List Nat} {m o:Nat} (h:os[m]?=some o):atI (nL os) (m:Int)=some (.int o):=ZAv (by omega) (by rw [Int.toNat_natCast,yAW,h];rfl)
theorem Put_ex {ks:List Int} {e:Nat}:∀ (n:Nat) {os:List Nat} {p:Nat},e-p=n->∃ os' l,Put ks os p e os' l:=by
 intro n
 induction n with
 | zero=>intro os p hn;exact ⟨_,_,.nil (by omega)⟩
 | succ n ih=>
  intro os p hn
  obtain ⟨r,l,z⟩:=Halv_ex (ks:=ks) (os:=os) (pl:=p) _ (low:=0) rfl (yAA os.length)
  obtain ⟨os',l',y⟩:=ih (os:=insN os r p) (p:=p+1) (by omega)
  exact ⟨_,_,.cons (by omega) z y⟩
theorem fil_first {ks:List Int} {first stop least n n0:Nat} (hn:∃ j f,Beyond ks first stop j f /\ n=(asks first (min (j+1) stop)).length):∃ m,(∃ j f os l,Beyond ks first stop j f /\ Put ks (ZBX first j f) j (min (first+least) stop) os l /\ m=(asks first (min (j+1) stop)++l).length) /\ n0+n <= n0+m:=by
 obtain ⟨j,f,a,b⟩:=hn
 obtain ⟨os,l,z⟩:=Put_ex (ks:=ks) (e:=min (first+least) stop) _ (os:=ZBX first j f) (p:=j) rfl
 exact ⟨_,⟨j,f,os,l,a,z,rfl⟩,by rw [yAB];omega⟩
theorem fil_more {ks:List Int} {first stop least j i n:Nat} {f:Bool} {os:List Nat} {pr dn:List (Nat×Nat)} (hb:Beyond ks first stop j f) (hi:j+i < min (first+least) stop) (hput:∀ os' l,Put ks os (j+i) (min (first+least) stop) os' l->Put ks (ZBX first j f) j (min (first+least) stop) os' (dn++l)) (hn:∃ r l,Halv ks os (j+i) 0 os.length r l /\ n=l.length):∃ m,(∃ j f os l,Beyond ks first stop j f /\ Put ks (ZBX first j f) j (min (first+least) stop) os l /\ m=(asks first (min (j+1) stop)++l).length) /\ (pr++(asks first (min (j+1) stop)++dn)).length+n <= pr.length+m:=by
 obtain ⟨r,l,z,e⟩:=hn
 obtain ⟨os',l',y⟩:=Put_ex (ks:=ks) (e:=min (first+least) stop) _ (os:=insN os r (j+i)) (p:=j+i+1) rfl
 exact ⟨_,⟨j,f,_,_,hb,hput _ _ (.cons hi z y),rfl⟩,by simp only [yAB];omega⟩
noncomputable def ZDa (CA:Addr) (CR:RuM) (CS:Addr):Sp:=fun vs H Q E=>∃ (mo:V) (ks:List Int) (xs:RowC) (a rl ru tl g lg:Addr) (pr:List (Nat×Nat)) (first least stop:Nat) (e:V),vs=[.ref a,.int first,.int least,e] /\ SitL mo CA CR H ks xs a rl ru tl g lg pr /\ pr.length <= 30000 /\ ((e=.non /\ stop=ks.length)∨e=.int stop) /\ first < stop /\ stop <= ks.length /\ ks.length <= 119 /\ least <= 500 /\ XE mo CA CR CS ks xs a rl ru tl g lg pr.length (fun n=>∃ j f os l,Beyond ks first stop j f /\ Put ks (ZBX first j f) j (min (first+least) stop) os l /\ n=(asks first (min (j+1) stop)++l).length) H E /\
 ∀ H' t ol j f os l,Fr [a,lg,tl] H H'->H ol=none->ol∉[a,lg,tl]->H' t=some (.tup [.int (j:Nat),.ref ol])->H' ol=some (.lst (nL os))->Beyond ks first stop j f->Put ks (ZBX first j f) j (min (first+least) stop) os l->SitL mo CA CR H' ks xs a rl ru tl g lg (pr++(asks first (min (j+1) stop)++l))->Q (.ref t) H'
theorem insV_nL {os:List Nat} {r pl:Nat} (h:r <= os.length):insV (nL os) (r:Int) (.int pl)=nL (insN os r pl):=by
 unfold insV insN nL
 dsimp only
 rw [if_neg (by omega),Int.toNat_natCast,yAC,yBK h,yAN,yAY,List.map_take,yCG]
theorem Put.few {ks:List Int} {os os':List Nat} {p e:Nat} {l:List (Nat×Nat)} (h:Put ks os p e os' l):l.length <= (e-p) * (os.length+(e-p)):=by
 induction h with
 | nil n=>simp
 | @cons os os' p e r l l' a b c ih=>
  have hb:=b.len
  rw [ZDm,show os.length+1+(e-(p+1))=os.length+(e-p) by omega] at ih
  rw [yAB,show e-p=(e-(p+1))+1 by omega,Nat.add_mul,Nat.one_mul]
  rw [show os.length+(e-(p+1)+1)=os.length+(e-p) by omega]
  omega
theorem Put.all {ks:List Int} {first p e:Nat} {os os':List Nat} {l:List (Nat×Nat)} (h:Put ks os p e os' l):∀ pr,first <= p->OrdN ks first p os->Adj os pr->OrdN ks first (max p e) os' /\ Adj os' (pr++l) /\ ∀ c∈l,c.2 < c.1:=by
 induction h with
 | nil n=>intro pr hf ho ha;exact ⟨by rw [show max _ _=_ from Nat.max_eq_left (Nat.not_lt.mp n)];exact ho,by rw [yAQ];exact ha,fun c h=>by cases h⟩
 | @cons os os' p e r l l' a b c ih=>
  intro pr hf ho ha
  have hlt:∀ x∈os,x < p:=fun x hx=>((ho.mem x).mp hx).2
  obtain ⟨i1,i2,i3⟩:=ih (pr++l) (by omega) (ho.ins hf b) (insN_adj hlt b ha)
  rw [show max (p+1) e=max p e by omega] at i1
  refine ⟨i1,by rw [<- yAJ];exact i2,fun x hx=>?_⟩
  rcases yBD.mp hx with z | z
  .obtain ⟨z1,z2⟩:=b.each x z
   rw [z1]
   exact hlt _ z2
  .exact i3 x z
theorem ZFN {M G:Prop} (h:M->G) (t:M):G:=h t
theorem ZEG {γ:Type} {M:γ->Prop} (P:γ->Prop) {G:Prop} (h:(∀ z,P z->M z)->G) (t:∀ z,P z->M z):G:=h t
theorem ZCX {ks:List Int} {x y:Nat} (a:lx ks x y):¬ lx ks y x:=by unfold lx at *;omega
theorem ZEX {ks:List Int} {x y:Nat} (a:x≠y) (b:¬ lx ks x y):lx ks y x:=by unfold lx at *;omega
noncomputable instance (ks:List Int) (x y:Nat):Decidable (lx ks x y):=by unfold lx;exact inferInstance
theorem ZDt {ks:List Int} {o pl:Nat} (h:o≠pl):(if pl < o then decide (kat ks o < kat ks pl) else !decide (kat ks pl < kat ks o))=decide (lx ks o pl):=by
 by_cases z:pl < o
 .rw [if_pos z]
  by_cases e:kat ks o < kat ks pl
  .rw [decide_eq_true e];exact (decide_eq_true (by unfold lx;omega)).symm
  .rw [decide_eq_false e];exact (decide_eq_false (by unfold lx;omega)).symm
 .rw [if_neg z]
  by_cases e:kat ks pl < kat ks o
  .rw [decide_eq_true e];exact (decide_eq_false (by unfold lx;omega)).symm
  .rw [decide_eq_false e];exact (decide_eq_true (by unfold lx;omega)).symm
theorem ZE6 {α β:Type} {M:α->β->Prop} (P:α->β->Prop) {G:Prop} (h:(∀ x y,P x y->M x y)->G) (t:∀ x y,P x y->M x y):G:=h t
theorem once4 {α β γ δ:Type} {M:α->β->γ->δ->Prop} (P:α->β->γ->δ->Prop) {G:Prop} (h:(∀ x y z u,P x y z u->M x y z u)->G) (t:∀ x y z u,P x y z u->M x y z u):G:=h t
noncomputable def Things (H:Hp) (ks:List Int) (xs:List V):Prop:=xs.length=ks.length /\ ∀ (i:Nat) k,ks[i]?=some k->∃ r,xs[i]?=some (V.ref r) /\ H r=some (.tup [.int k,.int i])
theorem insV_ints (rs:List Int) (i y:Int):∃ us:List Int,insV (rs.map V.int) i (.int y)=us.map V.int /\ us.length=rs.length+1:=by
 unfold insV
 dsimp only
 generalize (if i < 0 then (i+((rs.map V.int).length:Int)).toNat else min i.toNat (rs.map V.int).length)=k
 refine ⟨rs.take k++y::rs.drop k,by rw [yAN,yAY,List.map_take,yCG],?_⟩
 rw [yAB,yAG,yAM,yAR]
 omega
theorem er_map {α β:Type} (f:α->β) (l:List α) (k:Nat):(l.map f).eraseIdx k=(l.eraseIdx k).map f:=by
 rw [List.eraseIdx_eq_take_drop_succ,List.eraseIdx_eq_take_drop_succ,yAN,List.map_take,yCG]
noncomputable def ZFJ:Sp:=fun vs H Q _=>∃ (a:Addr) (c1 c2:Int) (ks:List Int),vs=[.ref a,.int c1,.int c2] /\ H a=some (.lst (ks.map V.int)) /\ ks.length <= 24 /\ ∀ l H' (rs:List Int),Same H H'->H l=none->H' l=some (.lst (rs.map V.int))->rs.length <= 24->Q (.ref l) H'
noncomputable def ZDW (K:W.Frag):Sp:=fun vs H Q _=>∃ (a:Addr) (ns:List Int) (m:Int),vs=[.ref a,.int m,.int 24] /\ SqL K H a (ns.map V.int) /\ ns.length <= 63 /\ 0 < m /\ m <= 10 ^ 60 /\ ∀ l H' (rs:List Int),Same H H'->H l=none->H' l=some (.lst (rs.map V.int))->rs.length <= 24->Q (.ref l) H'
noncomputable def ZD9 (K:W.Frag):Sp:=fun vs H Q _=>∃ (a:Addr) (ns:List Int),vs=[.ref a] /\ SqL K H a (ns.map V.int) /\ ns.length <= 63 /\ ∀ l H' ks xs,Same H H'->H l=none->H' l=some (.lst xs)->ks.length <= 24->Things H' ks xs->Q (.ref l) H'
inductive Bin (z:Nat):Nat->Nat->List Nat->Prop
 | done {i:Nat}:Bin z i i []
 | more {lo hi:Nat} {l:List Nat}:lo < hi->(lo+hi-1) / 2 < z->Bin z ((lo+hi-1) / 2+1) hi l->Bin z lo hi ((lo+hi-1) / 2::l)
 | less {lo hi:Nat} {l:List Nat}:lo < hi->z <= (lo+hi-1) / 2->Bin z lo ((lo+hi-1) / 2) l->Bin z lo hi ((lo+hi-1) / 2::l)
inductive Gal (z n f:Nat):Nat->Nat->List Nat->Prop
 | out {lo far:Nat} {l:List Nat}:n <= far->Bin z lo n l->Gal z n f lo far l
 | stop {lo far:Nat} {l:List Nat}:far < n->z <= far->Bin z lo far l->Gal z n f lo far (far::l)
 | more {lo far:Nat} {l:List Nat}:far < n->far < z->Gal z n f (far+1) (2 * far-f+1) l->Gal z n f lo far (far::l)
theorem Bin.uniq {z lo hi:Nat} {l:List Nat} (h:Bin z lo hi l):∀ {l'},Bin z lo hi l'->l=l':=by
 induction h with
 | done=>intro l' h';cases h' with
  | done=>rfl
  | more a=>omega
  | less a=>omega
 | more a b c ih=>intro l' h';cases h' with
  | done=>omega
  | more a' b' c'=>rw [ih c']
  | less a' b' c'=>omega
 | less a b c ih=>intro l' h';cases h' with
  | done=>omega
  | more a' b' c'=>omega
  | less a' b' c'=>rw [ih c']
theorem Gal.uniq {z n f lo far:Nat} {l:List Nat} (h:Gal z n f lo far l):∀ {l'},Gal z n f lo far l'->l=l':=by
 induction h with
 | out a b=>intro l' h';cases h' with
  | out a' b'=>exact b.uniq b'
  | stop a'=>omega
  | more a'=>omega
 | stop a b c=>intro l' h';cases h' with
  | out a' b'=>omega
  | stop a' b' c'=>rw [c.uniq c']
  | more a' b'=>omega
 | more a b c ih=>intro l' h';cases h' with
  | out a' b'=>omega
  | stop a' b' c'=>omega
  | more a' b' c'=>rw [ih c']
theorem Bin.len {z lo hi:Nat} {l:List Nat} (h:Bin z lo hi l):l.length <= hi-lo:=by
 induction h with
 | done=>simp
 | more a b c ih=>rw [yAG];omega
 | less a b c ih=>rw [yAG];omega
theorem Bin.bits {z lo hi:Nat} {l:List Nat} (h:Bin z lo hi l):∀ k,hi-lo < 2 ^ k->l.length <= k:=by
 induction h with
 | done=>intro k _;simp
 | @more lo hi l a b c ih=>
  intro k hk
  cases k with
  | zero=>rw [yBV] at hk;omega
  | succ k=>
   rw [yBL] at hk
   rw [yAG]
   have:=ih k (by omega)
   omega
 | @less lo hi l a b c ih=>
  intro k hk
  cases k with
  | zero=>rw [yBV] at hk;omega
  | succ k=>
   rw [yBL] at hk
   rw [yAG]
   have:=ih k (by omega)
   omega
theorem ZCg (j:Nat):2 ^ (j+1) / 2=2 ^ j:=by rw [yBL];omega
theorem lt_two_pow' (j:Nat):j+1 <= 2 ^ j:=Nat.lt_two_pow_self
theorem Gal.all {z n f lo far:Nat} {l:List Nat} (h:Gal z n f lo far l):∀ j:Nat,lo=f+2 ^ j / 2->far+1=f+2 ^ j->f <= n->lo <= n->z=n->l.length+j <= n-f:=by
 induction h with
 | @out lo far l a c=>
  intro j e1 e2 h1 h2 h3
  have:=c.len
  cases j with
  | zero=>rw [yBV] at e1;omega
  | succ j=>
   rw [ZCg] at e1
   have:=lt_two_pow' j
   omega
 | @stop lo far l a c d=>intro j e1 e2 h1 h2 h3;omega
 | @more lo far l a c d ih=>
  intro j e1 e2 h1 h2 h3
  have hp:=yCJ (n:=j)
  have:=ih (j+1) (by rw [ZCg];omega) (by rw [yBL];omega) h1 (by omega) h3
  rw [yAG]
  omega
theorem ZEx {z:Nat}:∀ (n:Nat) {lo hi:Nat},hi-lo=n->lo <= z->z <= hi->∃ L,Bin z lo hi L:=by
 intro n
 induction n using Nat.strongRecOn with
 | ind n ih=>
  intro lo hi hn h1 h2
  by_cases e:lo < hi
  .by_cases c:(lo+hi-1) / 2 < z
   .obtain ⟨L,hL⟩:=ih (hi-((lo+hi-1) / 2+1)) (by omega) rfl c h2
    exact ⟨_,.more e c hL⟩
   .obtain ⟨L,hL⟩:=ih ((lo+hi-1) / 2-lo) (by omega) rfl h1 (by omega)
    exact ⟨_,.less e (by omega) hL⟩
  .have e:lo=hi:=by omega
   subst e
   exact ⟨_,.done⟩
theorem Gal_ex {z m f:Nat} (hz:z <= m):∀ (n:Nat) {lo far:Nat},m-far=n->lo <= z->lo <= far->f <= far->∃ L,Gal z m f lo far L:=by
 intro n
 induction n using Nat.strongRecOn with
 | ind n ih=>
  intro lo far hn h1 h2 h3
  by_cases e:far < m
  .by_cases c:far < z
   .obtain ⟨L,hL⟩:=ih (m-(2 * far-f+1)) (by omega) (lo:=far+1) rfl c (by omega) (by omega)
    exact ⟨_,.more e c hL⟩
   .obtain ⟨L,hL⟩:=ZEx _ (z:=z) (lo:=lo) (hi:=far) rfl h1 (by omega)
    exact ⟨_,.stop e (by omega) hL⟩
  .obtain ⟨L,hL⟩:=ZEx _ (z:=z) (lo:=lo) (hi:=m) rfl h1 hz
   exact ⟨_,.out (by omega) hL⟩
theorem gal_more {z m f lo far n:Nat} {dn:List Nat} {as:List (Nat×Nat)} {u:Nat->Nat×Nat} (hf:far < m) (h1:lo <= z) (h2:lo <= far) (h3:f <= far) (hz:z <= m) (hg:∀ L,Gal z m f lo far L->Gal z m f f f (dn++L)) (hn:n=1):∃ k,(∃ G,Gal z m f f f G /\ k=G.length) /\ (as++dn.map u).length+n <= as.length+k:=by
 obtain ⟨L,hL⟩:=Gal_ex hz _ rfl h1 h2 h3
 have:1 <= L.length:=by
  cases hL with
  | out a b=>omega
  | stop a b c=>rw [yAG];omega
  | more a b c=>rw [yAG];omega
 exact ⟨_,⟨_,hg L hL,rfl⟩,by rw [yAB,yAB,yAC];omega⟩
theorem bin_more {z m f lo hi n:Nat} {dn:List Nat} {as:List (Nat×Nat)} {u:Nat->Nat×Nat} (hl:lo < hi) (h1:lo <= z) (h2:z <= hi) (hg:∀ L,Bin z lo hi L->Gal z m f f f (dn++L)) (hn:n=1):∃ k,(∃ G,Gal z m f f f G /\ k=G.length) /\ (as++dn.map u).length+n <= as.length+k:=by
 obtain ⟨L,hL⟩:=ZEx _ (z:=z) rfl h1 h2
 have:1 <= L.length:=by
  cases hL with
  | done=>omega
  | more a b c=>rw [yAG];omega
  | less a b c=>rw [yAG];omega
 exact ⟨_,⟨_,hg L hL,rfl⟩,by rw [yAB,yAB,yAC];omega⟩
noncomputable def ask1 (os:List Nat) (pl i:Nat):Nat×Nat:=(max ((os[i]?).getD 0) pl,min ((os[i]?).getD 0) pl)
noncomputable def ZEo (CA:Addr) (CR:RuM) (CS:Addr):Sp:=fun vs H Q E=>∃ (mo:V) (ks:List Int) (xs:RowC) (a rl ru tl g lg ol:Addr) (pr:List (Nat×Nat)) (os:List Nat) (f pl z:Nat),vs=[.ref a,.ref ol,.int f,.int pl] /\ SitL mo CA CR H ks xs a rl ru tl g lg pr /\ H ol=some (.lst (nL os)) /\ ol∉[a,lg,tl] /\ os.length <= 500 /\ (∀ x∈os,x < ks.length /\ x≠pl) /\ pl < ks.length /\ pr.length <= 70000 /\ f <= z /\ z <= os.length /\ (∀ i x,f <= i->os[i]?=some x->(lx ks x pl↔i < z)) /\ XE mo CA CR CS ks xs a rl ru tl g lg pr.length (fun n=>∃ G,Gal z os.length f f f G /\ n=G.length) H E /\
 ∀ H' L,Fr [a,lg,tl] H H'->Gal z os.length f f f L->SitL mo CA CR H' ks xs a rl ru tl g lg (pr++L.map (ask1 os pl))->Q (.int (z-f:Nat)) H'
structure LIn1 (mo:V) (CA:Addr) (CR:RuM) (ks:List Int) (xs:RowC) (a rl ru tl g lg:Addr) (pr:List (Nat×Nat)) (os:List Nat) (f pl z:Nat) (H:Hp) (lo far:Nat) (dn:List Nat) (H':Hp):Prop where
 h1:f <= lo
 h2:lo <= z
 h3:lo <= far
 h4:dn.length+f <= lo
 fr:Fr [a,lg,tl] H H'
 st:SitL mo CA CR H' ks xs a rl ru tl g lg (pr++dn.map (ask1 os pl))
 hg:∀ L,Gal z os.length f lo far L->Gal z os.length f f f (dn++L)
structure LIn2 (mo:V) (CA:Addr) (CR:RuM) (ks:List Int) (xs:RowC) (a rl ru tl g lg:Addr) (pr:List (Nat×Nat)) (os:List Nat) (f pl z:Nat) (H:Hp) (lo hi:Nat) (dn:List Nat) (H':Hp):Prop where
 h1:f <= lo
 h2:lo <= z
 h3:z <= hi
 h4:hi <= os.length
 h5:dn.length+(hi-lo) <= 2 * os.length+1
 fr:Fr [a,lg,tl] H H'
 st:SitL mo CA CR H' ks xs a rl ru tl g lg (pr++dn.map (ask1 os pl))
 hg:∀ L,Bin z lo hi L->Gal z os.length f f f (dn++L)
noncomputable def nw (w:Nat) (s:Bool):Nat:=if s then w+1 else 1
inductive JT (ks:List Int):List Nat->List Nat->Nat->Nat->Nat->Bool->List Nat->List (Nat×Nat)->Prop
 | done {ls rs:List Nat} {i j w:Nat} {s:Bool}:¬ (i < ls.length /\ j < rs.length)->JT ks ls rs i j w s (ls.drop i++rs.drop j) []
 | step {ls rs ps:List Nat} {i j w x y:Nat} {s:Bool} {L:List (Nat×Nat)}:ls[i]?=some x->rs[j]?=some y->lx ks x y->nw w s≠4->JT ks ls rs (i+1) j (nw w s) true ps L->JT ks ls rs i j w s (x::ps) ((max x y,min x y)::L)
 | leap {ls rs ps G:List Nat} {i j w x y z:Nat} {s:Bool} {L:List (Nat×Nat)}:ls[i]?=some x->rs[j]?=some y->lx ks x y->nw w s=4->i+1 <= z->z < ls.length->(∀ k u,i+1 <= k->ls[k]?=some u->(lx ks u y↔k < z))->Gal z ls.length (i+1) (i+1) (i+1) G->JT ks ls rs z (j+1) 0 true ps L->JT ks ls rs i j w s ((ls.drop i).take (z-i)++y::ps) ((max x y,min x y)::(G.map (ask1 ls y)++L))
 | last {ls rs ps G:List Nat} {i j w x y:Nat} {s:Bool} {L:List (Nat×Nat)}:ls[i]?=some x->rs[j]?=some y->lx ks x y->nw w s=4->(∀ k u,i+1 <= k->ls[k]?=some u->lx ks u y)->Gal ls.length ls.length (i+1) (i+1) (i+1) G->JT ks ls rs ls.length j 0 true ps L->JT ks ls rs i j w s (ls.drop i++ps) ((max x y,min x y)::(G.map (ask1 ls y)++L))
 | swap {ls rs ps:List Nat} {i j w:Nat} {s:Bool} {L:List (Nat×Nat)}:JT ks rs ls j i w (!s) ps L->JT ks ls rs i j w s ps L
theorem ZB5 {os:List Nat} {i x:Nat} (h:os[i]?=some x):os.drop i=x::os.drop (i+1):=by
 obtain ⟨h1,e⟩:=yAH.mp h
 rw [yCC h1,e]
theorem drop_seg {os:List Nat} {i z:Nat} (h:i <= z):os.drop i=(os.drop i).take (z-i)++os.drop z:=by
 have:os.drop z=(os.drop i).drop (z-i):=by rw [List.drop_drop,show i+(z-i)=z by omega]
 rw [this,yBJ]
theorem JT.mem {ks:List Int} {ls rs ps:List Nat} {i j w:Nat} {s:Bool} {L:List (Nat×Nat)} (h:JT ks ls rs i j w s ps L):∀ u,u∈ps↔u∈ls.drop i∨u∈rs.drop j:=by
 induction h with
 | done _=>intro u;rw [yBD]
 | step a b c d e ih=>
  intro u
  rw [ZB5 a,yAE,yAE,ih]
  exact ⟨fun z=>z.elim (fun z=>.inl (.inl z)) fun z=>z.elim (fun z=>.inl (.inr z)) .inr,fun z=>z.elim (fun z=>z.elim .inl fun z=>.inr (.inl z)) fun z=>.inr (.inr z)⟩
 | @leap ls rs ps G i j w x y z s L a b c d e f g k l ih=>
  intro u
  rw [drop_seg (os:=ls) (show i <= z by omega),ZB5 b,yBD,yBD,yAE,yAE,ih,List.take_append_of_le_length (by rw [yAM,yAR];omega),yBQ (by rw [yAM];omega)]
  exact ⟨fun z=>z.elim (fun z=>.inl (.inl z)) fun z=>z.elim (fun z=>.inr (.inl z)) fun z=>z.elim (fun z=>.inl (.inr z)) fun z=>.inr (.inr z),fun z=>z.elim (fun z=>z.elim .inl fun z=>.inr (.inr (.inl z))) fun z=>z.elim (fun z=>.inr (.inl z)) fun z=>.inr (.inr (.inr z))⟩
 | @last ls rs ps G i j w x y s L a b c d g k l ih=>
  intro u
  rw [yBD,ih,List.drop_of_length_le (yAA _)]
  exact ⟨fun z=>z.elim .inl fun z=>z.elim (fun z=>by cases z) .inr,fun z=>z.elim .inl fun z=>.inr (.inr z)⟩
 | swap h ih=>intro u;rw [ih];exact Or.comm
theorem ZCj {os:List Nat} {i u:Nat} (h:u∈os.drop i):∃ k,i <= k /\ os[k]?=some u:=by
 obtain ⟨n,hn⟩:=yBN h
 rw [yBT] at hn
 exact ⟨i+n,by omega,hn⟩
theorem seg_mem {os:List Nat} {i z u:Nat} (h:u∈(os.drop i).take (z-i)):∃ k,i <= k /\ k < z /\ os[k]?=some u:=by
 obtain ⟨n,hn⟩:=yBN h
 have h1:=(yAH.mp hn).1
 rw [yAM] at h1
 rw [yBX (by omega),yBT] at hn
 exact ⟨i+n,by omega,by omega,hn⟩
theorem drop_ge {ks:List Int} {os:List Nat} {j y u:Nat} (hs:os.Pairwise (lx ks)) (hy:os[j]?=some y) (hu:u∈os.drop j):u=y∨lx ks y u:=by
 obtain ⟨k,hk,e⟩:=ZCj hu
 by_cases z:k=j
 .rw [z,hy] at e;cases e;exact .inl rfl
 .exact .inr (ZDM hs (by omega) hy e)
theorem seg_pw {ks:List Int} {os:List Nat} {i n:Nat} (hs:os.Pairwise (lx ks)):((os.drop i).take n).Pairwise (lx ks):=(hs.sublist (List.drop_sublist _ _)).sublist (List.take_sublist _ _)
theorem JT.sorted {ks:List Int} {ls rs ps:List Nat} {i j w:Nat} {s:Bool} {L:List (Nat×Nat)} (h:JT ks ls rs i j w s ps L):ls.Pairwise (lx ks)->rs.Pairwise (lx ks)->(∀ x∈ls,∀ y∈rs,x≠y)->ps.Pairwise (lx ks):=by
 induction h with
 | @done ls rs i j w s n=>
  intro h1 h2 h3
  rcases yCF i ls.length with z | z
  .rw [List.drop_of_length_le (l:=rs) (by omega),yAQ]
   exact h1.sublist (List.drop_sublist _ _)
  .rw [List.drop_of_length_le (l:=ls) z]
   exact h2.sublist (List.drop_sublist _ _)
 | step a b c d e ih=>
  intro h1 h2 h3
  refine yCE.mpr ⟨fun u hu=>?_,ih h1 h2 h3⟩
  rcases (e.mem u).mp hu with z | z
  .obtain ⟨k,hk,e2⟩:=ZCj z
   exact ZDM h1 (by omega) a e2
  .rcases drop_ge h2 b z with z | z
   .rw [z];exact c
   .exact ZCf c z
 | @leap ls rs ps G i j w x y z s L a b c d e f g k l ih=>
  intro h1 h2 h3
  have hy:∀ u∈ps,lx ks y u:=fun u hu=>by
   rcases (l.mem u).mp hu with v | v
   .obtain ⟨n,hn,e2⟩:=ZCj v
    exact ZEX (h3 u (yBB e2) y (yBB b)) fun t=>by have:=(g n u (by omega) e2).mp t;omega
   .obtain ⟨n,hn,e2⟩:=ZCj v
    exact ZDM h2 (by omega) b e2
  have hm:∀ u∈(ls.drop i).take (z-i),lx ks u y:=fun u hu=>by
   obtain ⟨n,h4,h5,e2⟩:=seg_mem hu
   by_cases v:n=i
   .rw [v,a] at e2;cases e2;exact c
   .exact (g n u (by omega) e2).mpr h5
  refine yBZ.mpr ⟨seg_pw h1,yCE.mpr ⟨hy,ih h1 h2 h3⟩,fun u hu v hv=>?_⟩
  rcases yAE.mp hv with t | t
  .rw [t];exact hm u hu
  .exact ZCf (hm u hu) (hy v t)
 | @last ls rs ps G i j w x y s L a b c d g k l ih=>
  intro h1 h2 h3
  refine yBZ.mpr ⟨h1.sublist (List.drop_sublist _ _),ih h1 h2 h3,fun u hu v hv=>?_⟩
  have hm:lx ks u y:=by
   obtain ⟨n,h4,e2⟩:=ZCj hu
   by_cases t:n=i
   .rw [t,a] at e2;cases e2;exact c
   .exact g n u (by omega) e2
  rcases (l.mem v).mp hv with t | t
  .rw [List.drop_of_length_le (yAA _)] at t;cases t
  .rcases drop_ge h2 b t with t | t
   .rw [t];exact hm
   .exact ZCf hm t
 | swap h ih=>intro h1 h2 h3;exact ih h2 h1 fun x hx y hy e=>h3 y hy x hx e.symm
theorem ZEu {ks:List Int}:∀ {a b:List Nat},a.Pairwise (lx ks)->b.Pairwise (lx ks)->(∀ x,x∈a↔x∈b)->a=b
 | [],[],_,_,_=>rfl
 | [],y::b,_,_,h=>by have:=(h y).mpr yAF;cases this
 | x::a,[],_,_,h=>by have:=(h x).mp yAF;cases this
 | x::a,y::b,ha,hb,h=>by
  obtain ⟨a1,a2⟩:=yCE.mp ha
  obtain ⟨b1,b2⟩:=yCE.mp hb
  have e:x=y:=by
   rcases yAE.mp ((h x).mp yAF) with t | t
   .exact t
   .rcases yAE.mp ((h y).mpr yAF) with t' | t'
    .exact t'.symm
    .exact absurd (a1 y t') (ZCX (b1 x t))
  subst e
  rw [ZEu a2 b2 fun u=>⟨fun hu=>?_,fun hu=>?_⟩]
  .rcases yAE.mp ((h u).mp (yAD _ hu)) with t | t
   .exact absurd (a1 u hu) (by rw [t];exact fun z=>ZCX z z)
   .exact t
  .rcases yAE.mp ((h u).mpr (yAD _ hu)) with t | t
   .exact absurd (b1 u hu) (by rw [t];exact fun z=>ZCX z z)
   .exact t
theorem mm_comm (x y:Nat):(max x y,min x y)=(max y x,min y x):=by rw [Nat.max_comm,Nat.min_comm]
theorem spot_ex {ks:List Int} {os:List Nat} {pl:Nat} (hs:os.Pairwise (lx ks)):∀ n f,f+n=os.length->∃ z,f <= z /\ z <= os.length /\ ∀ i x,f <= i->os[i]?=some x->(lx ks x pl↔i < z):=by
 intro n
 induction n with
 | zero=>intro f hf;exact ⟨f,yAA _,by omega,fun i x h e=>by have:=(yAH.mp e).1;omega⟩
 | succ n ih=>
  intro f hf
  have hfl:f < os.length:=by omega
  by_cases h:lx ks os[f] pl
  .obtain ⟨z,z1,z2,z3⟩:=ih (f+1) (by omega)
   refine ⟨z,by omega,z2,fun i x hi e=>?_⟩
   by_cases t:i=f
   .subst t
    rw [yAL hfl] at e;cases e
    exact ⟨fun _=>by omega,fun _=>h⟩
   .exact z3 i x (by omega) e
  .refine ⟨f,yAA _,by omega,fun i x hi e=>⟨fun r=>?_,fun r=>by omega⟩⟩
   by_cases t:i=f
   .subst t
    rw [yAL hfl] at e;cases e
    exact absurd r h
   .exact absurd (ZCf (ZDM hs (by omega) (yAL hfl) e) r) h
theorem two_pow_lin (n:Nat):2 * (n+1) <= 2 ^ n+2:=by
 induction n with
 | zero=>decide
 | succ n ih=>
  rw [yBL]
  cases n with
  | zero=>decide
  | succ n=>rw [yBL] at *;have:=yCJ (n:=n);omega
theorem bits_lin {g b:Nat} (h:∀ c,g < 2 ^ c->b <= c):max 1 (2 * b) <= g+2 /\ (g < 2->max 1 (2 * b) <= g+1):=by
 cases b with
 | zero=>omega
 | succ b=>
  have:2 ^ b <= g:=by
   rcases yCF g (2 ^ b) with z | z
   .have:=h b z;omega
   .exact z
  have:=two_pow_lin b
  refine ⟨by omega,fun z=>?_⟩
  cases b with
  | zero=>rw [yBV] at this;omega
  | succ b=>rw [yBL] at *;have:=yCJ (n:=b);omega
theorem Gal.most' {z n f lo far:Nat} {l:List Nat} (h:Gal z n f lo far l):∀ (j b:Nat),lo=f+2 ^ j / 2->far+1=f+2 ^ j->f <= z->z <= n->z-f < 2 ^ b->(∀ c,z-f < 2 ^ c->b <= c)->j <= b->l.length+j <= max 1 (2 * b):=by
 induction h with
 | @out lo far l a c=>
  intro j b e1 e2 h1 h2 h3 h4 h5
  have hb:=h4 j (by omega)
  have ej:j=b:=by omega
  subst ej
  cases j with
  | zero=>
   rw [yBV] at e1 e2
   have:=c.len
   omega
  | succ j=>
   rw [ZCg] at e1
   rw [yBL] at e2
   have:=c.bits j (by have:=yCJ (n:=j);omega)
   omega
 | @stop lo far l a c d=>
  intro j b e1 e2 h1 h2 h3 h4 h5
  have hb:=h4 j (by omega)
  have ej:j=b:=by omega
  subst ej
  rw [yAG]
  cases j with
  | zero=>
   rw [yBV] at e1 e2
   have:=d.len
   omega
  | succ j=>
   rw [ZCg] at e1
   rw [yBL] at e2
   have:=d.bits j (by have:=yCJ (n:=j);omega)
   omega
 | @more lo far l a c d ih=>
  intro j b e1 e2 h1 h2 h3 h4 h5
  have hjb:j+1 <= b:=by
   rcases yCF j b with z | z
   .exact z
   .have:=Nat.pow_le_pow_right (show 2 > 0 by decide) z
    omega
  have hp:=yCJ (n:=j)
  have:=ih (j+1) b (by rw [ZCg];omega) (by rw [yBL];omega) h1 h2 h3 h4 hjb
  rw [yAG]
  omega
noncomputable def ZD1 (g:Nat):Nat:=if g=0 then 0 else g.log2+1
theorem nbits_lt (g:Nat):g < 2 ^ ZD1 g:=by
 unfold ZD1
 split
 .omega
 .exact (Nat.log2_lt (by omega)).mp (yBW _)
theorem ZDl {g c:Nat} (h:g < 2 ^ c):ZD1 g <= c:=by
 unfold ZD1
 split
 .exact yAI _
 .exact (Nat.log2_lt (by omega)).mpr h
theorem Gal.looks {z n f:Nat} {l:List Nat} (h:Gal z n f f f l) (h1:f <= z) (h2:z <= n):l.length <= max 1 (2 * ZD1 (z-f)):=by
 have:=h.most' 0 (ZD1 (z-f)) (by simp) (by simp) h1 h2 (nbits_lt _) (fun c=>ZDl) (yAI _)
 omega
theorem Gal.lin {z n f:Nat} {l:List Nat} (h:Gal z n f f f l) (h1:f <= z) (h2:z <= n):7 * l.length <= 8 * (z-f)+12:=by
 have h3:=h.looks h1 h2
 obtain ⟨g1,g2⟩:=bits_lin (g:=z-f) (b:=ZD1 (z-f)) fun c=>ZDl
 clear h
 generalize z-f=g at *
 generalize max 1 (2 * ZD1 g)=m at *
 clear h1 h2
 omega
theorem JT.most7 {ks:List Int} {ls rs ps:List Nat} {i j w:Nat} {s:Bool} {L:List (Nat×Nat)} (h:JT ks ls rs i j w s ps L):w <= 3->i <= ls.length->j <= rs.length->1 <= (ls.length-i)+(rs.length-j)->7 * (L.length+1) <= 8 * ((ls.length-i)+(rs.length-j))+w:=by
 induction h with
 | done n=>intro h1 h2 h3 h4;rw [yBR];omega
 | @step ls rs ps i j w x y s L a b c d e ih=>
  intro h1 h2 h3 h4
  have hi:=(yAH.mp a).1
  have hj:=(yAH.mp b).1
  have hn:nw w s <= w+1:=by unfold nw;split <;> omega
  have:=ih (by omega) (by omega) h3 (by omega)
  rw [yAG]
  omega
 | @leap ls rs ps G i j w x y z s L a b c d e f g k l ih=>
  intro h1 h2 h3 h4
  have hi:=(yAH.mp a).1
  have hj:=(yAH.mp b).1
  have hw:w=3:=by unfold nw at d;split at d <;> omega
  have:=ih (by omega) (by omega) (by omega) (by omega)
  have hG:=k.lin e (yBP f)
  rw [yAG,yAB,yAC]
  omega
 | @last ls rs ps G i j w x y s L a b c d g k l ih=>
  intro h1 h2 h3 h4
  have hi:=(yAH.mp a).1
  have hj:=(yAH.mp b).1
  have:=ih (by omega) (by omega) (by omega) (by omega)
  have hG:=k.all 0 (by simp) (by simp) hi hi rfl
  rw [yAG,yAB,yAC]
  omega
 | @swap ls rs ps i j w s L h ih=>
  intro h1 h2 h3 h4
  have:=ih h1 h3 h2 (by omega)
  omega
theorem JT.most {ks:List Int} {ls rs ps:List Nat} {i j w:Nat} {s:Bool} {L:List (Nat×Nat)} (h:JT ks ls rs i j w s ps L) (h1:w <= 3) (h2:i <= ls.length) (h3:j <= rs.length) (h4:1 <= (ls.length-i)+(rs.length-j)):L.length+1 <= (ls.length-i)+(rs.length-j)+((ls.length-i)+(rs.length-j)+w) / 7:=by
 have:=h.most7 h1 h2 h3 h4
 clear h
 omega
theorem JT.len {ks:List Int} {ls rs ps:List Nat} {i j w:Nat} {s:Bool} {L:List (Nat×Nat)} (h:JT ks ls rs i j w s ps L):w <= 3->i <= ls.length->j <= rs.length->L.length <= 2 * ((ls.length-i)+(rs.length-j)):=by
 intro h1 h2 h3
 by_cases t:1 <= (ls.length-i)+(rs.length-j)
 .have:=h.most h1 h2 h3 t
  omega
 .have:∀ {ls rs ps:List Nat} {i j w:Nat} {s:Bool} {L:List (Nat×Nat)},JT ks ls rs i j w s ps L->ls.length <= i->rs.length <= j->L=[]:=by
   intro ls rs ps i j w s L h
   induction h with
   | done n=>intro _ _;rfl
   | step a=>intro h _;have:=(yAH.mp a).1;omega
   | leap a=>intro h _;have:=(yAH.mp a).1;omega
   | last a=>intro h _;have:=(yAH.mp a).1;omega
   | swap h ih=>intro h1 h2;exact ih h2 h1
  rw [this h (by omega) (by omega)]
  exact yAI _
theorem JT.order {ks:List Int} {os ls rs ps:List Nat} {L:List (Nat×Nat)} (h:JT ks ls rs 0 0 0 true ps L) (h1:ls.Pairwise (lx ks)) (h2:rs.Pairwise (lx ks)) (h3:∀ x∈ls,∀ y∈rs,x≠y) (ho:os.Pairwise (lx ks)) (hm:∀ x,x∈os↔x∈ls∨x∈rs):ps=os :=
 ZEu (h.sorted h1 h2 h3) ho fun x=>by rw [h.mem,hm];rfl
theorem JT_exA {ks:List Int} {ls rs:List Nat} {i j w n x y:Nat} {s:Bool} (ih:∀ {i j w:Nat} {s:Bool},(ls.length-i)+(rs.length-j) < n->∃ ps L,JT ks ls rs i j w s ps L) (hn:(ls.length-i)+(rs.length-j)=n) (hp:ls.Pairwise (lx ks)) (a:ls[i]?=some x) (b:rs[j]?=some y) (c:lx ks x y):∃ ps L,JT ks ls rs i j w s ps L:=by
 have hi:=(yAH.mp a).1
 have hj:=(yAH.mp b).1
 by_cases h4:nw w s=4
 .obtain ⟨z,z1,z2,z3⟩:=spot_ex hp (pl:=y) (ls.length-(i+1)) (i+1) (by omega)
  obtain ⟨G,hG⟩:=Gal_ex (f:=i+1) z2 _ (lo:=i+1) (far:=i+1) rfl z1 (yAA _) (yAA _)
  by_cases hz:z < ls.length
  .obtain ⟨ps,L,h⟩:=ih (i:=z) (j:=j+1) (w:=0) (s:=true) (by omega)
   exact ⟨_,_,.leap a b c h4 z1 hz z3 hG h⟩
  .have ez:z=ls.length:=by omega
   subst ez
   obtain ⟨ps,L,h⟩:=ih (i:=ls.length) (j:=j) (w:=0) (s:=true) (by omega)
   exact ⟨_,_,.last a b c h4 (fun k u h1 h2=>(z3 k u h1 h2).mpr (yAH.mp h2).1) hG h⟩
 .obtain ⟨ps,L,h⟩:=ih (i:=i+1) (j:=j) (w:=nw w s) (s:=true) (by omega)
  exact ⟨_,_,.step a b c h4 h⟩
theorem ZFU {ks:List Int} {ls rs:List Nat} (hlp:ls.Pairwise (lx ks)) (hrp:rs.Pairwise (lx ks)) (hdis:∀ x∈ls,∀ y∈rs,x≠y):∀ (n:Nat) {i j w:Nat} {s:Bool},(ls.length-i)+(rs.length-j)=n->∃ ps L,JT ks ls rs i j w s ps L:=by
 intro n
 induction n using Nat.strongRecOn with
 | ind n ih=>
  intro i j w s hn
  by_cases hb:i < ls.length /\ j < rs.length
  .have a:=yAL hb.1
   have b:=yAL hb.2
   have hxy:=hdis _ (yBB a) _ (yBB b)
   by_cases c:lx ks ls[i] rs[j]
   .exact JT_exA (n:=n) (fun z=>ih _ z rfl) hn hlp a b c
   .obtain ⟨ps,L,h⟩:=JT_exA (n:=n) (w:=w) (s:=!s) (fun {i j w s} z=>by
     obtain ⟨ps,L,h⟩:=ih _ z (i:=j) (j:=i) (w:=w) (s:=!s) (by omega)
     exact ⟨ps,L,JT.swap h⟩) (by omega) hrp b a (ZEX hxy c)
    exact ⟨ps,L,JT.swap h⟩
  .exact ⟨_,_,.done hb⟩
theorem JT.pos {ks:List Int} {ls rs ps:List Nat} {i j w:Nat} {s:Bool} {L:List (Nat×Nat)} (h:JT ks ls rs i j w s ps L):i < ls.length->j < rs.length->1 <= L.length:=by
 induction h with
 | done n=>intro a b;exact absurd ⟨a,b⟩ n
 | step a b c d e ih=>intro _ _;rw [yAG];omega
 | leap a b c d e f g k l ih=>intro _ _;rw [yAG];omega
 | last a b c d g k l ih=>intro _ _;rw [yAG];omega
 | swap h ih=>intro a b;exact ih b a
theorem jt_more {ks:List Int} {ls rs dn:List Nat} {pr as:List (Nat×Nat)} {i j w n:Nat} {s:Bool} (hlp:ls.Pairwise (lx ks)) (hrp:rs.Pairwise (lx ks)) (hdis:∀ x∈ls,∀ y∈rs,x≠y) (hi:i < ls.length) (hj:j < rs.length) (hg:∀ ps L,JT ks ls rs i j w s ps L->JT ks ls rs 0 0 0 true (dn++ps) (as++L)) (hn:n=1):∃ m,(∃ ps L,JT ks ls rs 0 0 0 true ps L /\ m=L.length) /\ (pr++as).length+n <= pr.length+m:=by
 obtain ⟨ps,L,h⟩:=ZFU hlp hrp hdis _ (i:=i) (j:=j) (w:=w) (s:=s) rfl
 have:=h.pos hi hj
 exact ⟨_,⟨_,_,hg ps L h,rfl⟩,by rw [yAB,yAB];omega⟩
theorem jt_leap {ks:List Int} {ls rs ms ts dn:List Nat} {pr as:List (Nat×Nat)} {mi tj u v z w n:Nat} {b sb:Bool} {la ra ma ta:Addr} (hb:(b=true /\ ma=la /\ ta=ra /\ ms=ls /\ ts=rs)∨(b=false /\ ma=ra /\ ta=la /\ ms=rs /\ ts=ls)) (hlp:ls.Pairwise (lx ks)) (hrp:rs.Pairwise (lx ks)) (hdis:∀ x∈ls,∀ y∈rs,x≠y)
  (hu:ms[mi]?=some u) (hv:ts[tj]?=some v) (huv:lx ks u v) (h4:nw w sb=4) (z1:mi+1 <= z) (z2:z <= ms.length) (z3:∀ k c,mi+1 <= k->ms[k]?=some c->(lx ks c v↔k < z)) (hg:∀ ps L,JT ks ms ts mi tj w sb ps L->JT ks ms ts 0 0 0 b (dn++ps) (as++L)) (hn:∃ G,Gal z ms.length (mi+1) (mi+1) (mi+1) G /\ n=G.length):∃ m,(∃ ps L,JT ks ls rs 0 0 0 true ps L /\ m=L.length) /\ (pr++(as++[(max u v,min u v)])).length+n <= pr.length+m:=by
 obtain ⟨G,hG,rfl⟩:=hn
 have exJ:∀ {i j:Nat},∃ ps L,JT ks ms ts i j 0 true ps L:=fun {i j}=>by
  rcases hb with ⟨_,_,_,rfl,rfl⟩ | ⟨_,_,_,rfl,rfl⟩
  .exact ZFU hlp hrp hdis _ rfl
  .exact ZFU hrp hlp (fun x hx y hy e=>hdis y hy x hx e.symm) _ rfl
 obtain ⟨ps,L,J⟩:∃ ps L,JT ks ms ts 0 0 0 b ps (as++(max u v,min u v)::(G.map (ask1 ms v)++L)):=by
  by_cases hz:z < ms.length
  .obtain ⟨ps,L,h⟩:=exJ (i:=z) (j:=tj+1)
   exact ⟨_,_,hg _ _ (JT.leap hu hv huv h4 z1 hz z3 hG h)⟩
  .have ez:z=ms.length:=by omega
   subst ez
   obtain ⟨ps,L,h⟩:=exJ (i:=ms.length) (j:=tj)
   exact ⟨_,_,hg _ _ (JT.last hu hv huv h4 (fun k c h1 h2=>(z3 k c h1 h2).mpr (yAH.mp h2).1) hG h)⟩
 have hl:(pr++(as++[(max u v,min u v)])).length+G.length <= pr.length+(as++(max u v,min u v)::(G.map (ask1 ms v)++L)).length:=by
  simp only [yAB,yAG,yAC,yBR]
  omega
 rcases hb with ⟨rfl,_,_,rfl,rfl⟩ | ⟨rfl,_,_,rfl,rfl⟩
 .exact ⟨_,⟨_,_,J,rfl⟩,hl⟩
 .exact ⟨_,⟨_,_,JT.swap (s:=true) J,rfl⟩,hl⟩
noncomputable abbrev fJ (ak sd tk pc:Addr):List (Str×V):=[("places",.ref pc),("taken",.ref tk),("sides",.ref sd),("asker",.ref ak)]
noncomputable def pk {α:Type} (b:Bool) (x y:α):List α:=if b then [x,y] else [y,x]
noncomputable def sv (b:Bool):Int:=if b then 0 else 1
theorem ZCP {b:Bool} {x y:V}:atI (pk b x y) (sv b)=some x:=by cases b <;> exact ZAv (by decide) rfl
theorem pk_swap {α:Type} {b:Bool} {x y:α}:pk (!b) y x=pk b x y:=by cases b <;> rfl
theorem pk_len {α:Type} {b:Bool} {x y:α}:(pk b x y).length=2:=by cases b <;> rfl
theorem pk_set {b:Bool} {x y z:V}:(pk b x y).set (sv b).toNat z=pk b z y:=by cases b <;> rfl
structure JS (CJ:Addr) (H:Hp) (b:Bool) (jn ak sd ma ta tk pc:Addr) (ms ts:List Nat) (i j:Nat) (dn:List Nat):Prop where
 hj:Ins H jn CJ (fJ ak sd tk pc)
 hsd:H sd=some (.tup (pk b (.ref ma) (.ref ta)))
 hma:H ma=some (.lst (nL ms))
 hta:H ta=some (.lst (nL ts))
 htk:H tk=some (.lst (pk b (.int i) (.int j)))
 hpc:H pc=some (.lst (nL dn))
 ne:tk≠pc /\ ma≠tk /\ ma≠pc /\ ta≠tk /\ ta≠pc
section
variable {CJ:Addr} {H H':Hp} {b:Bool} {jn ak sd ma ta tk pc:Addr} {ms ts:List Nat} {i j:Nat} {dn:List Nat}
theorem JS.swap (h:JS CJ H b jn ak sd ma ta tk pc ms ts i j dn):JS CJ H (!b) jn ak sd ta ma tk pc ts ms j i dn :=
 ⟨h.hj,by rw [pk_swap];exact h.hsd,h.hta,h.hma,by rw [pk_swap];exact h.htk,h.hpc,h.ne.1,h.ne.2.2.2.1,h.ne.2.2.2.2,h.ne.2.1,h.ne.2.2.1⟩
theorem JS.keep {i' j':Nat} {dn':List Nat} (h:JS CJ H b jn ak sd ma ta tk pc ms ts i j dn) (e:Fr [tk,pc] H H') (h1:H' tk=some (.lst (pk b (.int i') (.int j')))) (h2:H' pc=some (.lst (nL dn'))):JS CJ H' b jn ak sd ma ta tk pc ms ts i' j' dn':=by
 have n2:∀ {x:Addr},x≠tk->x≠pc->x∉[tk,pc]:=fun a b z=>(yAE.mp z).elim a fun z=>b (yAS.mp z)
 have hj:jn∉[tk,pc]:=n2 (Ne.symm (h.hj.ne h.htk fun _ _ _ z=>by cases z)) (Ne.symm (h.hj.ne h.hpc fun _ _ _ z=>by cases z))
 have hs:sd∉[tk,pc]:=n2 (fun z=>by have:=h.hsd;rw [z,h.htk] at this;cases this) (fun z=>by have:=h.hsd;rw [z,h.hpc] at this;cases this)
 exact ⟨ZB4 e hj h.hj,e _ _ hs h.hsd,e _ _ (n2 h.ne.2.1 h.ne.2.2.1) h.hma,e _ _ (n2 h.ne.2.2.2.1 h.ne.2.2.2.2) h.hta,h1,h2,h.ne⟩
theorem JS.fr {S:List Addr} (h:JS CJ H b jn ak sd ma ta tk pc ms ts i j dn) (e:Fr S H H') (n:jn∉S /\ sd∉S /\ ma∉S /\ ta∉S /\ tk∉S /\ pc∉S):JS CJ H' b jn ak sd ma ta tk pc ms ts i j dn :=
 ⟨ZB4 e n.1 h.hj,e _ _ n.2.1 h.hsd,e _ _ n.2.2.1 h.hma,e _ _ n.2.2.2.1 h.hta,e _ _ n.2.2.2.2.1 h.htk,e _ _ n.2.2.2.2.2 h.hpc,h.ne⟩
theorem JS.mono (h:JS CJ H b jn ak sd ma ta tk pc ms ts i j dn) (e:Same H H'):JS CJ H' b jn ak sd ma ta tk pc ms ts i j dn :=
 h.fr (S:=[]) e.fr ⟨yBC,yBC,yBC,yBC,yBC,yBC⟩
end
noncomputable def ZEB (CJ:Addr):Sp:=fun vs H Q _=>∃ (x dx ak al ar:Addr) (ls rs:List Nat),vs=[.ref x,.ref ak,.ref al,.ref ar] /\ H x=some (.ins CJ dx []) /\ H al=some (.lst (nL ls)) /\ H ar=some (.lst (nL rs)) /\
 ∀ sd la ra tk pc H',(∀ b o,b≠x->H b=some o->H' b=some o)->H sd=none->H la=none->H ra=none->H tk=none->H pc=none->JS CJ H' true x ak sd la ra tk pc ls rs 0 0 []->Q .non H'
noncomputable def ZCc (CJ:Addr):Sp:=fun vs H Q _=>∃ (b:Bool) (jn ak sd ma ta tk pc:Addr) (ms ts:List Nat) (i j:Nat) (dn:List Nat),vs=[.ref jn,.int (sv b)] /\ JS CJ H b jn ak sd ma ta tk pc ms ts i j dn /\ Q (.bl (decide (i < ms.length))) H
noncomputable def ZDZ (CJ:Addr):Sp:=fun vs H Q _=>∃ (b:Bool) (jn ak sd ma ta tk pc:Addr) (ms ts:List Nat) (i j:Nat) (dn:List Nat) (x:Nat),vs=[.ref jn,.int (sv b)] /\ JS CJ H b jn ak sd ma ta tk pc ms ts i j dn /\ ms[i]?=some x /\ Q (.int x) H
noncomputable def ZCb (CJ:Addr):Sp:=fun vs H Q _=>∃ (b:Bool) (jn ak sd ma ta tk pc:Addr) (ms ts:List Nat) (i j:Nat) (dn:List Nat) (m:Nat),vs=[.ref jn,.int (sv b),.int m] /\ JS CJ H b jn ak sd ma ta tk pc ms ts i j dn /\ i+m <= ms.length /\ dn.length+ms.length <= 1000 /\
 ∀ H',Fr [tk,pc] H H'->JS CJ H' b jn ak sd ma ta tk pc ms ts (i+m) j (dn++(ms.drop i).take m)->Q .non H'
noncomputable def ZCn (CJ:Addr):Sp:=fun vs H Q _=>∃ (b:Bool) (jn ak sd ma ta tk pc:Addr) (ms ts:List Nat) (i j:Nat) (dn:List Nat),vs=[.ref jn,.int (sv b)] /\ JS CJ H b jn ak sd ma ta tk pc ms ts i j dn /\ i <= ms.length /\ dn.length+ms.length <= 1000 /\
 ∀ H',Fr [tk,pc] H H'->JS CJ H' b jn ak sd ma ta tk pc ms ts ms.length j (dn++ms.drop i)->Q .non H'
theorem SitL.apart {mo:V} {CA:Addr} {CR:RuM} {H H':Hp} {ks:List Int} {xs:RowC} {a rl ru tl g lg:Addr} {pr:List (Nat×Nat)} {S:List Addr} (h:SitL mo CA CR H ks xs a rl ru tl g lg pr) (e:Fr S H H') (hS:∀ b∈S,∃ l,H b=some (.lst l)) (n:rl∉S /\ lg∉S /\ tl∉S):SitL mo CA CR H' ks xs a rl ru tl g lg pr:=by
 have k:∀ {b:Addr} {o:HO},H b=some o->(∀ l,o≠.lst l)->H' b=some o:=fun {b o} hb z=>e _ _ (fun m=>by obtain ⟨l,hl⟩:=hS b m;rw [hl] at hb;exact z _ (Option.some.inj hb).symm) hb
 have ki:∀ {b C:Addr} {fl:List (Str×V)},Ins H b C fl->Ins H' b C fl:=fun hi=>let ⟨dx,fs,h1,h2,h3⟩:=hi.ex;⟨dx,fs,k h1 (fun _ z=>by cases z),h2,h3⟩
 obtain ⟨ws,h4,h5⟩:=h.hlg
 obtain ⟨us,h6,h7⟩:=h.htl
 have hrow:∀ (i:Nat) kk,ks[i]?=some kk->∃ r,xs.v[i]?=some (V.ref r) /\ H' r=some (.tup [.int kk,.int i]):=fun i kk hk=>by
  obtain ⟨r,a1,a2⟩:=h.row i kk hk
  exact ⟨r,a1,k a2 (fun _ z=>by cases z)⟩
 have hclo:=h.clo
 have hl:=h5.keep (H':=H') (fun _ _ z=>k z (fun _ y=>by cases y))
 have ht:=h7.keep (H':=H') (fun _ _ z=>k z (fun _ y=>by cases y))
 exact ⟨ki h.ha,e _ _ n.1 h.hrl,ki h.hru,hclo,h.elt,h.len,hrow,⟨ws,e _ _ n.2.1 h4,hl⟩,⟨us,e _ _ n.2.2 h6,ht⟩,h.ne,h.hmo⟩
structure NX (a rl lg tl jn sd ma ta tk pc:Addr):Prop where
 n1:jn∉[a,lg,tl] /\ sd∉[a,lg,tl] /\ ma∉[a,lg,tl] /\ ta∉[a,lg,tl] /\ tk∉[a,lg,tl] /\ pc∉[a,lg,tl]
 n2:rl∉[tk,pc] /\ lg∉[tk,pc] /\ tl∉[tk,pc]
theorem NX.swap {a rl lg tl jn sd ma ta tk pc:Addr} (h:NX a rl lg tl jn sd ma ta tk pc):NX a rl lg tl jn sd ta ma tk pc:=⟨⟨h.n1.1,h.n1.2.1,h.n1.2.2.2.1,h.n1.2.2.1,h.n1.2.2.2.2⟩,h.n2⟩
theorem fr_sub {S S':List Addr} {H H':Hp} (h:Fr S H H') (k:∀ b∈S,b∈S'):Fr S' H H':=fun b o n hb=>h b o (fun m=>n (k b m)) hb
theorem fr5a {a lg tl tk pc:Addr} {H H':Hp} (h:Fr [a,lg,tl] H H'):Fr [a,lg,tl,tk,pc] H H':=fr_sub h fun b hb=>by
 rcases yAE.mp hb with z | z
 .rw [z];exact yAF
 rcases yAE.mp z with z | z
 .rw [z];exact yAD _ yAF
 .rw [yAS.mp z];exact yAD _ (yAD _ yAF)
theorem fr5b {a lg tl tk pc:Addr} {H H':Hp} (h:Fr [tk,pc] H H'):Fr [a,lg,tl,tk,pc] H H'  :=fr_sub h fun b hb=>yAD _ (yAD _ (yAD _ hb))
section
variable {mo:V} {CA:Addr} {CR:RuM} {CJ:Addr} {H H':Hp} {b:Bool} {ks:List Int} {xs:RowC} {jn a rl ru tl g lg sd ma ta tk pc:Addr} {ms ts:List Nat} {i j:Nat} {dn:List Nat} {pr:List (Nat×Nat)}
theorem JS.lsts (h:JS CJ H b jn a sd ma ta tk pc ms ts i j dn):∀ c∈[tk,pc],∃ l,H c=some (.lst l):=fun c hc=>by
 rcases yAE.mp hc with z | z
 .rw [z];exact ⟨_,h.htk⟩
 .rw [yAS.mp z];exact ⟨_,h.hpc⟩
end
noncomputable def ZFG (CA:Addr) (CR:RuM) (CJ:Addr) (CS:Addr):Sp:=fun vs H Q E=>∃ (mo:V) (ks:List Int) (xs:RowC) (a rl ru tl g lg jn sd la ra tk pc:Addr) (pr:List (Nat×Nat)) (ls rs dn:List Nat) (i j x y:Nat),vs=[.ref jn] /\ SitL mo CA CR H ks xs a rl ru tl g lg pr /\ JS CJ H true jn a sd la ra tk pc ls rs i j dn /\ NX a rl lg tl jn sd la ra tk pc /\ ls[i]?=some x /\ rs[j]?=some y /\ x≠y /\ x < ks.length /\ y < ks.length /\ pr.length <= 70000 /\ dn.length+ls.length <= 1000 /\ dn.length+rs.length <= 1000 /\ XE mo CA CR CS ks xs a rl ru tl g lg pr.length (fun n=>n=1) H E /\
 ∀ H',Fr [a,lg,tl,tk,pc] H H'->SitL mo CA CR H' ks xs a rl ru tl g lg (pr++[(max x y,min x y)])->(lx ks x y->JS CJ H' true jn a sd la ra tk pc ls rs (i+1) j (dn++[x]))->(¬ lx ks x y->JS CJ H' true jn a sd la ra tk pc ls rs i (j+1) (dn++[y]))->Q (.int (sv (decide (lx ks x y)))) H'
noncomputable def ZDV (CA:Addr) (CR:RuM) (CJ:Addr) (CS:Addr):Sp:=fun vs H Q E=>∃ (mo:V) (ks:List Int) (xs:RowC) (a rl ru tl g lg jn sd ma ta tk pc:Addr) (b:Bool) (pr:List (Nat×Nat)) (ms ts dn:List Nat) (i j y z:Nat),vs=[.ref jn,.int (sv b)] /\ SitL mo CA CR H ks xs a rl ru tl g lg pr /\ JS CJ H b jn a sd ma ta tk pc ms ts i j dn /\ NX a rl lg tl jn sd ma ta tk pc /\ ts[j]?=some y /\ ms.length <= 500 /\ (∀ x∈ms,x < ks.length /\ x≠y) /\ y < ks.length /\ pr.length <= 70000 /\ dn.length+ms.length+ts.length <= 1000 /\ i <= z /\ z <= ms.length /\ (∀ k u,i <= k->ms[k]?=some u->(lx ks u y↔k < z)) /\ XE mo CA CR CS ks xs a rl ru tl g lg pr.length (fun n=>∃ G,Gal z ms.length i i i G /\ n=G.length) H E /\
 ∀ H' G,Fr [a,lg,tl,tk,pc] H H'->Gal z ms.length i i i G->SitL mo CA CR H' ks xs a rl ru tl g lg (pr++G.map (ask1 ms y))->(z < ms.length->JS CJ H' b jn a sd ma ta tk pc ms ts z (j+1) (dn++(ms.drop i).take (z-i)++[y]))->(z=ms.length->JS CJ H' b jn a sd ma ta tk pc ms ts z j (dn++(ms.drop i).take (z-i)))->Q .non H'
noncomputable def ZDX (CA:Addr) (CR:RuM) (CS:Addr):Sp:=fun vs H Q E=>∃ (mo:V) (ks:List Int) (xs:RowC) (a rl ru tl g lg al ar:Addr) (pr:List (Nat×Nat)) (ls rs:List Nat),vs=[.ref a,.ref al,.ref ar] /\ SitL mo CA CR H ks xs a rl ru tl g lg pr /\ H al=some (.lst (nL ls)) /\ H ar=some (.lst (nL rs)) /\ ls.length <= 250 /\ rs.length <= 250 /\ (∀ x∈ls,x < ks.length) /\ (∀ x∈rs,x < ks.length) /\ ls.Pairwise (lx ks) /\ rs.Pairwise (lx ks) /\ (∀ x∈ls,∀ y∈rs,x≠y) /\ pr.length <= 60000 /\ XE mo CA CR CS ks xs a rl ru tl g lg pr.length (fun n=>∃ ps L,JT ks ls rs 0 0 0 true ps L /\ n=L.length) H E /\
 ∀ l H' ps L,Fr [a,lg,tl] H H'->H l=none->H' l=some (.lst (nL ps))->JT ks ls rs 0 0 0 true ps L->SitL mo CA CR H' ks xs a rl ru tl g lg (pr++L)->Q (.ref l) H'
theorem seg_cons {os:List Nat} {i x z:Nat} (h:os[i]?=some x) (hz:i+1 <= z):(os.drop i).take (z-i)=x::(os.drop (i+1)).take (z-(i+1)):=by
 rw [ZB5 h,show z-i=z-(i+1)+1 by omega,List.take_succ_cons]
theorem ZDR {os:List Nat} {i x:Nat} (h:os[i]?=some x):(os.drop i).take 1=[x]:=by
 rw [ZB5 h];rfl
noncomputable def JInv (mo:V) (C_Asker:Addr) (C_AskedRule:RuM) (C_Join:Addr) (ks:List Int) (xs:RowC) (a rl ru tl g lg al ar jn sd la ra tk pc:Addr) (pr:List (Nat×Nat)) (ls rs:List Nat) (H2:Hp) (mm':Nat) (σ:St) (H':Hp):Prop:=∃ (i j w:Nat) (s:Bool) (v6:Option V) (dn:List Nat) (as:List (Nat×Nat)),mm'=(ls.length-i)+(rs.length-j) /\ σ=[some (.ref a),some (.ref al),some (.ref ar),some (.ref jn),some (.int w),some (.int (sv s)),v6] /\ i <= ls.length /\ j <= rs.length /\ w <= 3 /\ dn.length=i+j /\ as.length <= 20 * (i+j) /\ Fr [a,lg,tl,tk,pc] H2 H' /\ SitL mo C_Asker C_AskedRule H' ks xs a rl ru tl g lg (pr++as) /\ JS C_Join H' true jn a sd la ra tk pc ls rs i j dn /\ ∀ ps L,JT ks ls rs i j w s ps L->JT ks ls rs 0 0 0 true (dn++ps) (as++L)
theorem JInv.of {mo:V} {C_Asker:Addr} {C_AskedRule:RuM} {C_Join:Addr} {ks:List Int} {xs:RowC} {a rl ru tl g lg al ar jn sd la ra tk pc:Addr} {pr:List (Nat×Nat)} {ls rs:List Nat} {H2:Hp} {H':Hp} {i j w:Nat} {s:Bool} {v6:Option V} {dn:List Nat} {as:List (Nat×Nat)} (h1:i <= ls.length) (h2:j <= rs.length) (h3:w <= 3) (h4:dn.length=i+j) (h5:as.length <= 20 * (i+j)) (h6:Fr [a,lg,tl,tk,pc] H2 H') (h7:SitL mo C_Asker C_AskedRule H' ks xs a rl ru tl g lg (pr++as)) (h8:JS C_Join H' true jn a sd la ra tk pc ls rs i j dn) (h9:∀ ps L,JT ks ls rs i j w s ps L->JT ks ls rs 0 0 0 true (dn++ps) (as++L)):JInv mo C_Asker C_AskedRule C_Join ks xs a rl ru tl g lg al ar jn sd la ra tk pc pr ls rs H2 ((ls.length-i)+(rs.length-j)) [some (.ref a),some (.ref al),some (.ref ar),some (.ref jn),some (.int w),some (.int (sv s)),v6] H':=⟨i,j,w,s,v6,dn,as,rfl,rfl,h1,h2,h3,h4,h5,h6,h7,h8,h9⟩
theorem JInv.fin {mo:V} {C_Asker:Addr} {C_AskedRule:RuM} {C_Join:Addr} {ks:List Int} {xs:RowC} {a rl ru tl g lg al ar jn sd la ra tk pc:Addr} {pr:List (Nat×Nat)} {ls rs:List Nat} {H2:Hp} {i j:Nat} {b:Bool} {ma ta:Addr} {ms ts:List Nat} {mi tj:Nat} {x6:Option V} {w':Nat} {H4:Hp} {dn':List Nat} {as':List (Nat×Nat)} (hb:(b=true /\ ma=la /\ ta=ra /\ ms=ls /\ ts=rs)∨(b=false /\ ma=ra /\ ta=la /\ ms=rs /\ ts=ls)) (h1:mi <= ms.length) (h2:tj <= ts.length) (h3:w' <= 3) (h4:i+j < mi+tj) (h5:dn'.length=mi+tj) (h6:as'.length <= 20 * (mi+tj)) (h7:Fr [a,lg,tl,tk,pc] H2 H4) (h8:SitL mo C_Asker C_AskedRule H4 ks xs a rl ru tl g lg (pr++as')) (h9:JS C_Join H4 b jn a sd ma ta tk pc ms ts mi tj dn') (h10:∀ ps L,JT ks ms ts mi tj w' true ps L->JT ks ms ts 0 0 0 b (dn'++ps) (as'++L)) (hi:i <= ls.length) (hj:j <= rs.length):∃ m',m' < ls.length-i+(rs.length-j) /\ JInv mo C_Asker C_AskedRule C_Join ks xs a rl ru tl g lg al ar jn sd la ra tk pc pr ls rs H2 m' [some (V.ref a),some (.ref al),some (.ref ar),some (.ref jn),some (.int w'),some (.int (sv b)),x6] H4:=by
 rcases hb with ⟨rfl,rfl,rfl,rfl,rfl⟩ | ⟨rfl,rfl,rfl,rfl,rfl⟩
 .exact ⟨_,by omega,JInv.of h1 h2 h3 h5 h6 h7 h8 h9 h10⟩
 .exact ⟨_,by omega,JInv.of (s:=false) h2 h1 h3 (by omega) (by omega) h7 h8 h9.swap fun ps L h=>JT.swap (h10 ps L (JT.swap (s:=true) h))⟩
theorem cut_var {P:TS} {D:Ends} {x y:Option V} {H:Hp} {o1 o2:Int} {c:Prop} [Decidable c] (h:∀ o:Int,(c /\ o=o1)∨(¬ c /\ o=o2)->Cut P D [x,y,some (.int o)] H):if c then Cut P D [x,y,some (.int o1)] H else Cut P D [x,y,some (.int o2)] H:=by
 split
 .rename_i h1;exact h o1 (.inl ⟨h1,rfl⟩)
 .rename_i h1;exact h o2 (.inr ⟨h1,rfl⟩)
theorem onceP (P:Prop) {M G:Prop} (h:(P->M)->G) (t:P->M):G:=h t
noncomputable abbrev fPl (a:Addr) (ls s e r:Int) (fs od gr:Addr):List (Str×V):=[("grades",.ref gr),("orders",.ref od),("firsts",.ref fs),("reached",.int r),("end",.int e),("start",.int s),("least",.int ls),("asker",.ref a)]
theorem fPl_reached {a fs od gr:Addr} {ls s e r r':Int}:∀ f,(putF "reached" (.int r') (fPl a ls s e r fs od gr)).lookup f=(fPl a ls s e r' fs od gr).lookup f:=fun f=>by
 rw [ZAW]
 by_cases h:f=("reached":Str)
 .subst h
  rw [if_pos rfl]
  exact (show List.lookup _ (fPl a ls s e r' fs od gr)=some (.int r') by walk_at "lk").symm
 .simp only [lkc,h,if_false]
noncomputable def Ch (ks:List Int):Nat->List (Nat×List Nat)->Nat->Prop
 | x,[],y=>x=y
 | x,(f,o)::r,y=>f=x /\ ∃ m,x < m /\ OrdN ks x m o /\ Ch ks m r y
theorem Ch.app {ks:List Int}:∀ {x y:Nat} {A B:List (Nat×List Nat)},Ch ks x (A++B) y↔∃ m,Ch ks x A m /\ Ch ks m B y
 | x,y,[],B=>⟨fun h=>⟨x,rfl,h⟩,fun ⟨m,h1,h2⟩=>by have e:x=m:=h1;rw [e];exact h2⟩
 | x,y,(f,o)::r,B=>by
  constructor
  .rintro ⟨h1,m,h2,h3,h4⟩
   obtain ⟨m',h5,h6⟩:=Ch.app.mp h4
   exact ⟨m',⟨h1,m,h2,h3,h5⟩,h6⟩
  .rintro ⟨m',⟨h1,m,h2,h3,h5⟩,h6⟩
   exact ⟨h1,m,h2,h3,Ch.app.mpr ⟨m',h5,h6⟩⟩
theorem Ch.le {ks:List Int}:∀ {x y:Nat} {ps:List (Nat×List Nat)},Ch ks x ps y->x+ps.length <= y
 | x,y,[],h=>by have e:x=y:=h;rw [e];exact yAA _
 | x,y,(f,o)::r,⟨h1,m,h2,h3,h4⟩=>by have:=Ch.le h4;rw [yAG];omega
noncomputable def flt (ps:List (Nat×List Nat)):List Nat:=(ps.map Prod.snd).flatten
theorem flt_app (A B:List (Nat×List Nat)):flt (A++B)=flt A++flt B:=by unfold flt;rw [yAN,List.flatten_append]
theorem Ch.flen {ks:List Int}:∀ {x y:Nat} {ps:List (Nat×List Nat)},Ch ks x ps y->(flt ps).length=y-x
 | x,y,[],h=>by have e:x=y:=h;rw [e];show 0=_;omega
 | x,y,(f,o)::r,⟨h1,m,h2,h3,h4⟩=>by
  have h5:=Ch.flen h4
  have h6:=Ch.le h4
  show (o++flt r).length=_
  rw [yAB,h3.len,h5]
  omega
noncomputable def bB:List (Nat×List Nat)->Nat->Nat
 | [],r=>r
 | p::_,_=>p.1
theorem Ch.bey {ks:List Int} {x y:Nat} {ps:List (Nat×List Nat)} (h:Ch ks x ps y):bB ps y=x:=by
 cases ps with
 | nil=>exact h.symm
 | cons p r=>exact h.1
theorem ordN_of {ks:List Int} {x y:Nat} {o:List Nat} (h1:o.Pairwise (lx ks)) (h2:∀ u,u∈o↔x <= u /\ u < y):OrdN ks x y o:=by
 refine ⟨?_,h2,h1⟩
 have n1:o.Nodup:=h1.imp fun {a b} h e=>by subst e;exact ZCX h h
 have hp:o.Perm (List.range' x (y-x)):=(List.perm_ext_iff_of_nodup n1 List.nodup_range').mpr fun u=>by rw [h2,List.mem_range'_1];omega
 rw [hp.length_eq,yCI]
theorem OrdN.join {ks:List Int} {x m y:Nat} {o1 o2 o:List Nat} {L:List (Nat×Nat)} (h1:OrdN ks x m o1) (h2:OrdN ks m y o2) (a:x < m) (b:m < y) (h:JT ks o1 o2 0 0 0 true o L):OrdN ks x y o :=
 ordN_of (h.sorted h1.srt h2.srt fun u hu v hv=>by have:=(h1.mem u).mp hu;have:=(h2.mem v).mp hv;omega) fun u=>by
  rw [h.mem,List.drop_zero,List.drop_zero,h1.mem,h2.mem]
  omega
theorem Ch.two {ks:List Int} {x y v1 v2:Nat} {o1 o2:List Nat} {A B:List (Nat×List Nat)} (h:Ch ks x (A++(v1,o1)::(v2,o2)::B) y):∃ v3,Ch ks x A v1 /\ v1 < v2 /\ v2 < v3 /\ OrdN ks v1 v2 o1 /\ OrdN ks v2 v3 o2 /\ Ch ks v3 B y /\ bB B y=v3:=by
 obtain ⟨m,h1,h2,m2,h3,h4,h5,m3,h6,h7,h8⟩:=Ch.app.mp h
 subst h2 h5
 exact ⟨m3,h1,h3,h6,h4,h7,h8,h8.bey⟩
theorem Ch.join {ks:List Int} {x y v1 v2:Nat} {o1 o2 o:List Nat} {A B:List (Nat×List Nat)} {L:List (Nat×Nat)} (h:Ch ks x (A++(v1,o1)::(v2,o2)::B) y) (hj:JT ks o1 o2 0 0 0 true o L):Ch ks x (A++(v1,o)::B) y:=by
 obtain ⟨v3,h1,h2,h3,h4,h5,h6,_⟩:=h.two
 exact Ch.app.mpr ⟨v1,h1,rfl,v3,by omega,h4.join h5 h2 h3 hj,h6⟩
noncomputable def dueB (gs:List Nat):Bool:=match gs.reverse with
 | g2::g1::_=>decide (g2 < g1)
 | _=>false
theorem dueB_two (G:List Nat) (g1 g2:Nat):dueB (G++[g1,g2])=decide (g2 < g1):=by unfold dueB;rw [List.reverse_append];rfl
theorem dueB_few {gs:List Nat} (h:gs.length <= 1):dueB gs=false:=by
 match gs,h with
 | [],_=>rfl
 | [g],_=>rfl
theorem ZDQ {α:Type} {l:List α} (h:2 <= l.length):∃ A x y,l=A++[x,y]:=by
 refine ⟨l.take (l.length-2),l[l.length-2],l[l.length-1],?_⟩
 have e1:l.drop (l.length-2)=[l[l.length-2],l[l.length-1]]:=by
  rw [yCC (by omega),show l.length-2+1=l.length-1 by omega,yCC (by omega),show l.length-1+1=l.length by omega,List.drop_length]
 rw [<- e1,yBJ]
structure PInv (ks:List Int) (s e r:Nat) (ps:List (Nat×List Nat)) (gs:List Nat):Prop where
 ch:Ch ks s ps r
 re:r <= e
 gl:gs.length=ps.length-1
 gb:∀ g∈gs,g <= 240
structure StJ (ks:List Int) (e:Nat) (ps:List (Nat×List Nat)) (gs:List Nat) (r v1 v2 v3:Nat) (L:List (Nat×Nat)) (ps':List (Nat×List Nat)) (gs':List Nat) (A:List (Nat×List Nat)) (o1 o2 o:List Nat) (B:List (Nat×List Nat)):Prop where
 e1:ps=A++(v1,o1)::(v2,o2)::B
 e2:ps'=A++(v1,o)::B
 e3:v3=bB B r
 jt:JT ks o1 o2 0 0 0 true o L
 e4:gs'=gs.eraseIdx A.length
 wh:(dueB gs=true /\ B.length=1)∨(dueB gs=false /\ r=e /\ B=[])
structure StL (ks:List Int) (ls s e:Nat) (ps:List (Nat×List Nat)) (gs:List Nat) (r v1 v2 v3:Nat) (L:List (Nat×Nat)) (ps':List (Nat×List Nat)) (gs':List Nat) (r':Nat) (f:Bool) (os:List Nat) (l:List (Nat×Nat)):Prop where
 e1:v1=r
 lt:r < e
 by':Beyond ks r e v2 f
 put:Put ks (ZBX r v2 f) v2 (min (r+ls) e) os l
 e2:L=asks r (min (v2+1) e)++l
 e3:v3=max v2 (min (r+ls) e)
 e4:r'=v3
 e5:ps'=ps++[(r,os)]
 wh:dueB gs=false
 gr:(ps=[] /\ gs'=gs)∨∃ A p g,ps=A++[p] /\ gs'=gs++[g] /\ Gr.IsG ((e:Int)-s) (((p.1:Int)-s)+((r:Int)-s)) (((r:Int)-s)+((v3:Int)-s)) g /\ g <= 240
noncomputable def Stp (ks:List Int) (ls s e:Nat) (ps:List (Nat×List Nat)) (gs:List Nat) (r:Nat) (k:Bool) (v1 v2 v3:Nat) (L:List (Nat×Nat)) (ps':List (Nat×List Nat)) (gs':List Nat) (r':Nat):Prop :=
 (k=true /\ r'=r /\ ∃ A o1 o2 o B,StJ ks e ps gs r v1 v2 v3 L ps' gs' A o1 o2 o B)∨(k=false /\ ∃ f os l,StL ks ls s e ps gs r v1 v2 v3 L ps' gs' r' f os l)
theorem Beyond.two {ks:List Int} {first stop j:Nat} {f:Bool} (h:Beyond ks first stop j f):first < j /\ j <= stop:=by rcases h with ⟨z1,z2,_⟩ | ⟨_,_,z1,z2,_⟩ <;> omega
theorem StL.ord {ks:List Int} {ls s e:Nat} {ps:List (Nat×List Nat)} {gs:List Nat} {r v1 v2 v3:Nat} {L:List (Nat×Nat)} {ps':List (Nat×List Nat)} {gs':List Nat} {r':Nat} {f:Bool} {os:List Nat} {l:List (Nat×Nat)} (h:StL ks ls s e ps gs r v1 v2 v3 L ps' gs' r' f os l):OrdN ks r v3 os /\ r < v3 /\ v3 <= e:=by
 have hb:=h.by'.two
 have:=h.lt
 have e3:=h.e3
 obtain ⟨o1,_,_⟩:=h.put.all (first:=r) (asks r (min (v2+1) e)) (by omega) h.by'.ord (fun i x y hx hy=>(h.by'.adj i x y hx hy).2)
 rw [<- e3] at o1
 exact ⟨o1,by omega,by omega⟩
theorem Stp.inv {ks:List Int} {ls s e:Nat} {ps:List (Nat×List Nat)} {gs:List Nat} {r:Nat} {k:Bool} {v1 v2 v3:Nat} {L:List (Nat×Nat)} {ps':List (Nat×List Nat)} {gs':List Nat} {r':Nat} (h:Stp ks ls s e ps gs r k v1 v2 v3 L ps' gs' r') (i:PInv ks s e r ps gs):PInv ks s e r' ps' gs':=by
 rcases h with ⟨_,rfl,A,o1,o2,o,B,j⟩ | ⟨_,f,os,l,j⟩
 .have e1:=j.e1
  subst e1
  have gl:=i.gl
  refine ⟨by rw [j.e2];exact i.ch.join j.jt,i.re,?_,fun g hg=>i.gb g ?_⟩
  .rw [j.e4,j.e2,List.length_eraseIdx_of_lt (by rw [gl];simp),gl]
   simp
  .rw [j.e4] at hg
   exact List.mem_of_mem_eraseIdx hg
 .obtain ⟨o1,o2,o3⟩:=j.ord
  have e4:=j.e4
  subst e4
  have gl:=i.gl
  have hc:Ch ks s ps' r':=by rw [j.e5];exact Ch.app.mpr ⟨r,i.ch,rfl,r',o2,o1,rfl⟩
  rcases j.gr with ⟨g1,g2⟩ | ⟨A,p,g,g1,g2,g3,g4⟩
  .refine ⟨hc,o3,?_,fun g hg=>i.gb g (by rw [<- g2];exact hg)⟩
   rw [g2,j.e5,gl,g1];rfl
  .refine ⟨hc,o3,?_,fun g' hg=>?_⟩
   .rw [g2,j.e5,yAB,yAB,gl,g1,yAB];simp
   .rw [g2] at hg
    rcases yBD.mp hg with z | z
    .exact i.gb _ z
    .rw [yAS.mp z];exact g4
theorem Stp.less {ks:List Int} {ls s e:Nat} {ps:List (Nat×List Nat)} {gs:List Nat} {r:Nat} {k:Bool} {v1 v2 v3:Nat} {L:List (Nat×Nat)} {ps':List (Nat×List Nat)} {gs':List Nat} {r':Nat} (h:Stp ks ls s e ps gs r k v1 v2 v3 L ps' gs' r'):2 * (e-r')+ps'.length < 2 * (e-r)+ps.length:=by
 rcases h with ⟨_,rfl,A,o1,o2,o,B,j⟩ | ⟨_,f,os,l,j⟩
 .rw [j.e1,j.e2];simp
 .obtain ⟨o1,o2,o3⟩:=j.ord
  rw [j.e5,j.e4,yAB,yAT]
  omega
theorem cost_a {L a b c:Nat} (h:L <= 126):L+126 * (a+(b+1))+c <= 126 * (a+(b+1+1))+c:=by omega
theorem cost_b {v2 r w s a l p:Nat} (h1:r < v2) (h2:a <= v2-r) (h3:l <= w * 63) (h4:s <= r):a+l+126 * (p+1)+191 * (r-s) <= 126 * p+191 * (v2+w-s):=by omega
theorem cost_c {a b c d l s r e:Nat} (h1:l <= 2 * (b-a-0+(c-b-0))) (h2:s <= a) (h3:c <= r) (h4:r <= e) (h5:e-s <= 63) (h6:a < b) (h7:b < c):l <= 126:=by omega
theorem max_sub (a b:Nat):max a b=a+(b-a):=by omega
theorem Stp.cost {ks:List Int} {ls s e:Nat} {ps:List (Nat×List Nat)} {gs:List Nat} {r:Nat} {k:Bool} {v1 v2 v3:Nat} {L:List (Nat×Nat)} {ps':List (Nat×List Nat)} {gs':List Nat} {r':Nat} (h:Stp ks ls s e ps gs r k v1 v2 v3 L ps' gs' r') (i:PInv ks s e r ps gs) (hes:e-s <= 63) (hse:s <= r):L.length+126 * ps'.length+191 * (r-s) <= 126 * ps.length+191 * (r' - s):=by
 rcases h with ⟨_,rfl,A,o1,o2,o,B,j⟩ | ⟨_,f,os,l,j⟩
 .have e1:=j.e1
  subst e1
  obtain ⟨v3',h1,h2,h3,h4,h5,h6,_⟩:=i.ch.two
  have l1:=j.jt.len (by decide) (yAI _) (yAI _)
  rw [h4.len,h5.len] at l1
  have hL:=cost_c (d:=0) l1 (yAK (Nat.le_add_right _ _) h1.le) (yAK (Nat.le_add_right _ _) h6.le) i.re hes h2 h3
  rw [j.e2]
  simp only [yAB,yAG]
  exact cost_a hL
 .have hb:=j.by'.two
  have f1:=j.put.few
  have hm:=Nat.min_le_right (r+ls) e
  rw [ZCa] at f1
  rw [j.e5,j.e4,j.e2,yAB,yAB,yAT,ZBu,j.e3,max_sub]
  have hq:=Nat.min_le_left (v2+1) e
  generalize min (r+ls) e=m at f1 hm ⊢
  generalize min (v2+1) e=q at hq ⊢
  clear j i
  exact cost_b hb.1 (by omega) (yAK f1 (Nat.mul_le_mul_left _ (by omega))) hse
theorem Halv.uniq {ks:List Int} {os:List Nat} {pl low high r r':Nat} {l l':List (Nat×Nat)} (h:Halv ks os pl low high r l) (h':Halv ks os pl low high r' l'):r=r' /\ l=l':=by
 induction h generalizing r' l' with
 | done n=>cases h' with
  | done _=>exact ⟨rfl,rfl⟩
  | less a=>exact absurd a n
  | more a=>exact absurd a n
 | less a b c d ih=>cases h' with
  | done n=>exact absurd a n
  | less a' b' c' d'=>rw [b] at b';cases b';obtain ⟨e1,e2⟩:=ih d';exact ⟨e1,by rw [e2]⟩
  | more a' b' c' d'=>rw [b] at b';cases b';exact absurd c c'
 | more a b c d ih=>cases h' with
  | done n=>exact absurd a n
  | less a' b' c' d'=>rw [b] at b';cases b';exact absurd c' c
  | more a' b' c' d'=>rw [b] at b';cases b';obtain ⟨e1,e2⟩:=ih d';exact ⟨e1,by rw [e2]⟩
theorem Put.uniq {ks:List Int} {os os1 os2:List Nat} {p e:Nat} {l1 l2:List (Nat×Nat)} (h:Put ks os p e os1 l1) (h':Put ks os p e os2 l2):os1=os2 /\ l1=l2:=by
 induction h generalizing os2 l2 with
 | nil n=>cases h' with
  | nil _=>exact ⟨rfl,rfl⟩
  | cons a=>exact absurd a n
 | cons a b c ih=>cases h' with
  | nil n=>exact absurd a n
  | cons a' b' c'=>
   obtain ⟨e1,e2⟩:=b.uniq b'
   subst e1 e2
   obtain ⟨e3,e4⟩:=ih c'
   exact ⟨e3,by rw [e4]⟩
noncomputable def OrdAt (H:Hp):List Addr->List (Nat×List Nat)->Prop
 | [],[]=>True
 | b::bs,p::ps=>H b=some (.lst (nL p.2)) /\ OrdAt H bs ps
 | _,_=>False
theorem OrdAt.len {H:Hp}:∀ {oa:List Addr} {ps:List (Nat×List Nat)},OrdAt H oa ps->oa.length=ps.length
 | [],[],_=>rfl
 | b::bs,p::ps,h=>by rw [yAG,yAG,OrdAt.len h.2]
 | [],p::ps,h=>h.elim
 | b::bs,[],h=>h.elim
theorem OrdAt.keep {H H':Hp}:∀ {oa:List Addr} {ps:List (Nat×List Nat)},OrdAt H oa ps->(∀ b∈oa,∀ o,H b=some o->H' b=some o)->OrdAt H' oa ps
 | [],[],_,_=>trivial
 | b::bs,p::ps,h,e=>⟨e b yAF _ h.1,OrdAt.keep h.2 fun c hc=>e c (yAD _ hc)⟩
 | [],p::ps,h,_=>h.elim
 | b::bs,[],h,_=>h.elim
theorem OrdAt.split {H:Hp}:∀ {P:List (Nat×List Nat)} {oa:List Addr} {Q:List (Nat×List Nat)},OrdAt H oa (P++Q)->∃ A B,oa=A++B /\ A.length=P.length /\ OrdAt H A P /\ OrdAt H B Q
 | [],oa,Q,h=>⟨[],oa,rfl,rfl,trivial,h⟩
 | p::P,[],Q,h=>h.elim
 | p::P,b::bs,Q,h=>by
  obtain ⟨A,B,e1,e2,e3,e4⟩:=OrdAt.split (P:=P) h.2
  exact ⟨b::A,B,by rw [e1];rfl,by rw [yAG,yAG,e2],⟨h.1,e3⟩,e4⟩
theorem OrdAt.app {H:Hp}:∀ {P:List (Nat×List Nat)} {A B:List Addr} {Q:List (Nat×List Nat)},OrdAt H A P->OrdAt H B Q->OrdAt H (A++B) (P++Q)
 | [],[],B,Q,_,h=>h
 | p::P,[],B,Q,h,_=>h.elim
 | [],b::bs,B,Q,h,_=>h.elim
 | p::P,b::bs,B,Q,h,h'=>⟨h.1,OrdAt.app h.2 h'⟩
theorem OrdAt.get {H:Hp}:∀ {ps:List (Nat×List Nat)} {oa:List Addr} {i:Nat} {b:Addr},OrdAt H oa ps->oa[i]?=some b->∃ p,ps[i]?=some p /\ H b=some (.lst (nL p.2))
 | [],[],i,b,_,e=>by simp at e
 | p::P,[],i,b,h,_=>h.elim
 | [],c::bs,i,b,h,_=>h.elim
 | p::P,c::bs,0,b,h,e=>by cases e;exact ⟨p,rfl,h.1⟩
 | p::P,c::bs,i+1,b,h,e=>by
  obtain ⟨p',a1,a2⟩:=OrdAt.get (ps:=P) (oa:=bs) (i:=i) h.2 (by simpa using e)
  exact ⟨p',by simpa using a1,a2⟩
theorem OrdAt.two {H:Hp} {oa:List Addr} {A B:List (Nat×List Nat)} {p1 p2:Nat×List Nat} (h:OrdAt H oa (A++p1::p2::B)):∃ OA b1 b2 OB,oa=OA++b1::b2::OB /\ OA.length=A.length /\ OrdAt H OA A /\ H b1=some (.lst (nL p1.2)) /\ H b2=some (.lst (nL p2.2)) /\ OrdAt H OB B:=by
 obtain ⟨OA,R,e1,e2,e3,e4⟩:=h.split
 match R,e4 with
 | b1::b2::OB,e4=>exact ⟨OA,b1,b2,OB,e1,e2,e3,e4.1,e4.2.1,e4.2.2⟩
 | [b1],e4=>exact e4.2.elim
 | [],e4=>exact e4.elim
theorem atI_refs {oa:List Addr} {m:Nat} {b:Addr} (h:oa[m]?=some b):atI (oa.map V.ref) (m:Int)=some (.ref b):=ZAv (by omega) (by rw [Int.toNat_natCast,yAW,h];rfl)
theorem ZDn {α:Type} (X:List α) (x:α) (Y:List α):(X++x::Y)[X.length]?=some x:=by rw [yBA (yAA _),yBI];rfl
theorem ZCh {α:Type} (X:List α) (x y:α) (Y:List α):(X++x::y::Y)[X.length+1]?=some y:=by rw [yBA (by omega),Nat.add_sub_cancel_left];rfl
theorem set_mid {α:Type} (X:List α) (x y:α) (Y:List α):(X++x::Y).set X.length y=X++y::Y:=by rw [List.set_append_right _ _ (yAA _),yBI];rfl
theorem er_mid2 {α:Type} (X:List α) (x y:α) (Y:List α):(X++x::y::Y).eraseIdx (X.length+1)=X++x::Y:=by rw [List.eraseIdx_append_of_length_le (by omega),Nat.add_sub_cancel_left];rfl
theorem atI_m2 {l:List V} {x y:V}:atI (l++[x,y]) (-2)=some x:=by
 unfold atI ixN
 rw [yAB,show ([x,y]:List V).length=2 from rfl,if_neg (by decide),if_pos (by omega),show ((-2:Int)+((l.length+2:Nat):Int)).toNat=l.length by omega]
 exact ZDn l x [y]
theorem atI_m1 {l:List V} {y:V}:atI (l++[y]) (-1)=some y:=by
 unfold atI ixN
 rw [yAB,show ([y]:List V).length=1 from rfl,if_neg (by decide),if_pos (by omega),show ((-1:Int)+((l.length+1:Nat):Int)).toNat=l.length by omega]
 exact ZDn l y []
structure PileAt (CP:Addr) (H:Hp) (x a fs od gr:Addr) (ls s e r:Nat) (oa:List Addr) (ps:List (Nat×List Nat)) (gs:List Nat):Prop where
 hp:Ins H x CP (fPl a ls s e r fs od gr)
 hfs:H fs=some (.lst (nL (ps.map Prod.fst)))
 hod:H od=some (.lst (oa.map V.ref))
 hgr:H gr=some (.lst (nL gs))
 oat:OrdAt H oa ps
 ne:fs≠od /\ fs≠gr /\ od≠gr
 nb:∀ b∈oa,b∉[fs,od,gr]
structure PXl (a rl ru lg tl x fs od gr:Addr) (oa:List Addr):Prop where
 n1:x∉[a,lg,tl] /\ fs∉[a,lg,tl] /\ od∉[a,lg,tl] /\ gr∉[a,lg,tl]
 n2:∀ b∈oa,b∉[a,lg,tl]
 n3:rl∉[fs,od,gr]
 nr:ru≠x
section
variable {CP:Addr} {H H':Hp} {x a fs od gr:Addr} {ls s e r:Nat} {oa:List Addr} {ps:List (Nat×List Nat)} {gs:List Nat}
theorem PileAt.fr {S:List Addr} (h:PileAt CP H x a fs od gr ls s e r oa ps gs) (f:Fr S H H') (n:x∉S /\ fs∉S /\ od∉S /\ gr∉S) (n2:∀ b∈oa,b∉S):PileAt CP H' x a fs od gr ls s e r oa ps gs :=
 ⟨ZB4 f n.1 h.hp,f _ _ n.2.1 h.hfs,f _ _ n.2.2.1 h.hod,f _ _ n.2.2.2 h.hgr,h.oat.keep fun b hb o=>f b o (n2 b hb),h.ne,h.nb⟩
theorem PileAt.mono (h:PileAt CP H x a fs od gr ls s e r oa ps gs) (f:Same H H'):PileAt CP H' x a fs od gr ls s e r oa ps gs:=h.fr (S:=[]) f.fr ⟨yBC,yBC,yBC,yBC⟩ fun _ _=>yBC
theorem PileAt.lsts (h:PileAt CP H x a fs od gr ls s e r oa ps gs):∀ c∈[fs,od,gr],∃ l,H c=some (.lst l):=fun c hc=>by
 rcases yAE.mp hc with z | z
 .rw [z];exact ⟨_,h.hfs⟩
 rcases yAE.mp z with z | z
 .rw [z];exact ⟨_,h.hod⟩
 .rw [yAS.mp z];exact ⟨_,h.hgr⟩
theorem PileAt.xl (h:PileAt CP H x a fs od gr ls s e r oa ps gs):x∉[fs,od,gr]:=fun z=>by
 obtain ⟨l,hl⟩:=h.lsts x z
 exact h.hp.ne hl (fun _ _ _ z=>by cases z) rfl
end
theorem SitL.butN {mo:V} {CA C d x:Addr} {CR:RuM} {f:List (Str×V)} {H H':Hp} {ks:List Int} {xs:RowC} {a rl ru tl g lg:Addr} {pr:List (Nat×Nat)} (h:SitL mo CA CR H ks xs a rl ru tl g lg pr) (hx:H x=some (.ins C d f)) (nx:x∉[a,lg,tl]) (nru:ru≠x) (e:∀ b o,b≠x->H b=some o->H' b=some o):SitL mo CA CR H' ks xs a rl ru tl g lg pr:=by
 have k:∀ {b:Addr} {o:HO},H b=some o->(∀ C d f,o≠.ins C d f)->H' b=some o:=fun {b o} hb z=>e b o (fun m=>by rw [m,hx] at hb;exact z _ _ _ (Option.some.inj hb).symm) hb
 have ki:∀ {b C:Addr} {fl:List (Str×V)},b≠x->Ins H b C fl->Ins H' b C fl:=fun n hi=>let ⟨dx,fs,h1,h2,h3⟩:=hi.ex;⟨dx,fs,e _ _ n h1,h2,h3⟩
 have na:a≠x:=fun z=>nx (by rw [<- z];exact yAF)
 obtain ⟨ws,h4,h5⟩:=h.hlg
 obtain ⟨us,h6,h7⟩:=h.htl
 exact ⟨ki na h.ha,k h.hrl (fun _ _ _ z=>by cases z),ki nru h.hru,h.clo,h.elt,h.len,fun i kk hk=>let ⟨r,a1,a2⟩:=h.row i kk hk;⟨r,a1,k a2 (fun _ _ _ z=>by cases z)⟩,⟨ws,k h4 (fun _ _ _ z=>by cases z),h5.keep fun _ _ z=>k z (fun _ _ _ y=>by cases y)⟩,⟨us,k h6 (fun _ _ _ z=>by cases z),h7.keep fun _ _ z=>k z (fun _ _ _ y=>by cases y)⟩,h.ne,h.hmo⟩
noncomputable def ZCD (CA CP:Addr):Sp:=fun vs H Q _=>∃ (x dx a:Addr) (ls s e:Nat) (pz:V),vs=[.ref x,.ref a,.int ls,pz] /\ H x=some (.ins CP dx []) /\ ((∃ pt,pz=.ref pt /\ H pt=some (.tup [.int s,.int e]))∨(pz=.non /\ s=0 /\ a≠x /\ ∃ rl ru m n tl xs,Ins H a CA (fA rl ru m n tl) /\ H rl=some (.lst xs) /\ xs.length=e)) /\
 ∀ fs od gr H',(∀ b o,b≠x->H b=some o->H' b=some o)->H fs=none->H od=none->H gr=none->PileAt CP H' x a fs od gr ls s e s [] [] []->Q .non H'
noncomputable def ZCE (CP:Addr):Sp:=fun vs H Q _=>∃ (x a fs od gr:Addr) (ls s e r:Nat) (oa:List Addr) (A:List (Nat×List Nat)) (p:Nat×List Nat) (B:List (Nat×List Nat)) (gs:List Nat),vs=[.ref x,.int (A.length:Nat)] /\ PileAt CP H x a fs od gr ls s e r oa (A++p::B) gs /\ Q (.int (bB B r:Nat)) H
noncomputable def ZFI (CP:Addr):Sp:=fun vs H Q _=>∃ (x a fs od gr:Addr) (ls s e r:Nat) (oa:List Addr) (ps:List (Nat×List Nat)) (gs:List Nat),vs=[.ref x] /\ PileAt CP H x a fs od gr ls s e r oa ps gs /\ Q (.bl (dueB gs)) H
noncomputable def ZEA (CP:Addr):Sp:=fun vs H Q _=>∃ (x a fs od gr:Addr) (ls s e r:Nat) (oa:List Addr) (A:List (Nat×List Nat)) (p:Nat×List Nat) (gs:List Nat) (m b:Nat),vs=[.ref x,.int m,.int b] /\ PileAt CP H x a fs od gr ls s e r oa (A++[p]) gs /\ s <= p.1 /\ p.1 < m /\ m < b /\ b <= e /\ e <= 63 /\ ∀ g:Nat,Gr.IsG ((e:Int)-s) (((p.1:Int)-s)+((m:Int)-s)) (((m:Int)-s)+((b:Int)-s)) g->g <= 240->Q (.int g) H
noncomputable def kS (k:Bool):V:=if k then .str "join" else .str "lay"
noncomputable def StN (ks:List Int) (ls e:Nat) (ps:List (Nat×List Nat)) (gs:List Nat) (r n:Nat):Prop :=
 (∃ A v1 o1 v2 o2 B o L,ps=A++(v1,o1)::(v2,o2)::B /\ ((dueB gs=true /\ B.length=1)∨(dueB gs=false /\ r=e /\ B=[])) /\ JT ks o1 o2 0 0 0 true o L /\ n=L.length) ∨
 (dueB gs=false /\ r < e /\ ∃ j f os l,Beyond ks r e j f /\ Put ks (ZBX r j f) j (min (r+ls) e) os l /\ n=(asks r (min (j+1) e)++l).length)
theorem stn_j {ks:List Int} {ls e r n n0 v1 v2:Nat} {o1 o2 gs:List Nat} {ps A B:List (Nat×List Nat)} (e1:ps=A++(v1,o1)::(v2,o2)::B) (w:(dueB gs=true /\ B.length=1)∨(dueB gs=false /\ r=e /\ B=[])) (hn:∃ o L,JT ks o1 o2 0 0 0 true o L /\ n=L.length):∃ m,StN ks ls e ps gs r m /\ n0+n <= n0+m :=
 let ⟨o,L,a,b⟩:=hn;⟨n,.inl ⟨A,v1,o1,v2,o2,B,o,L,e1,w,a,b⟩,yAA _⟩
noncomputable def Left (mo:V) (CA:Addr) (CR:RuM) (CP:Addr) (H:Hp) (ks:List Int) (xs:RowC) (a rl ru tl g lg x fs od gr:Addr) (pr:List (Nat×Nat)) (ls s e:Nat) (oa:List Addr) (k:Bool) (v1 v2 v3:Nat) (L:List (Nat×Nat)) (oa':List Addr) (ps':List (Nat×List Nat)) (gs':List Nat) (r':Nat) (t:Addr) (H':Hp):Prop :=
 Fr [x,fs,od,gr,a,lg,tl] H H' /\ (∀ b∈oa',b∈oa∨H b=none) /\ H' t=some (.tup [kS k,.int v1,.int v2,.int v3]) /\ PileAt CP H' x a fs od gr ls s e r' oa' ps' gs' /\ PXl a rl ru lg tl x fs od gr oa' /\ SitL mo CA CR H' ks xs a rl ru tl g lg (pr++L)
noncomputable def ZC6 (CA:Addr) (CR:RuM) (CP:Addr) (CS:Addr):Sp:=fun vs H Q E=>∃ (mo:V) (ks:List Int) (xs:RowC) (a rl ru tl g lg x fs od gr:Addr) (pr:List (Nat×Nat)) (ls s e r:Nat) (oa:List Addr) (A:List (Nat×List Nat)) (v1 v2:Nat) (o1 o2:List Nat) (B:List (Nat×List Nat)) (gs:List Nat),vs=[.ref x,.int (A.length:Nat)] /\ SitL mo CA CR H ks xs a rl ru tl g lg pr /\ PileAt CP H x a fs od gr ls s e r oa (A++(v1,o1)::(v2,o2)::B) gs /\ PXl a rl ru lg tl x fs od gr oa /\ Ch ks s (A++(v1,o1)::(v2,o2)::B) r /\ A.length < gs.length /\ r <= ks.length /\ ks.length <= 63 /\ pr.length <= 29999 /\ XE mo CA CR CS ks xs a rl ru tl g lg pr.length (fun n=>∃ o L,JT ks o1 o2 0 0 0 true o L /\ n=L.length) H E /\
 ∀ t H' o L oa',JT ks o1 o2 0 0 0 true o L->Left mo CA CR CP H ks xs a rl ru tl g lg x fs od gr pr ls s e oa true v1 v2 (bB B r) L oa' (A++(v1,o)::B) (gs.eraseIdx A.length) r t H'->Q (.ref t) H'
noncomputable def ZFH (CA:Addr) (CR:RuM) (CP:Addr) (CS:Addr):Sp:=fun vs H Q E=>∃ (mo:V) (ks:List Int) (xs:RowC) (a rl ru tl g lg x fs od gr:Addr) (pr:List (Nat×Nat)) (ls s e r:Nat) (oa:List Addr) (ps:List (Nat×List Nat)) (gs:List Nat),vs=[.ref x] /\ SitL mo CA CR H ks xs a rl ru tl g lg pr /\ PileAt CP H x a fs od gr ls s e r oa ps gs /\ PXl a rl ru lg tl x fs od gr oa /\ PInv ks s e r ps gs /\ dueB gs=false /\ r < e /\ e <= ks.length /\ ks.length <= 63 /\ ls <= 500 /\ pr.length <= 29999 /\ XE mo CA CR CS ks xs a rl ru tl g lg pr.length (fun n=>∃ j f os l,Beyond ks r e j f /\ Put ks (ZBX r j f) j (min (r+ls) e) os l /\ n=(asks r (min (j+1) e)++l).length) H E /\
 ∀ t H' v2 v3 L oa' ps' gs' f os l,StL ks ls s e ps gs r r v2 v3 L ps' gs' v3 f os l->Left mo CA CR CP H ks xs a rl ru tl g lg x fs od gr pr ls s e oa false r v2 v3 L oa' ps' gs' v3 t H'->Q (.ref t) H'
noncomputable def ZDw (CA:Addr) (CR:RuM) (CP:Addr) (CS:Addr):Sp:=fun vs H Q E=>∃ (mo:V) (ks:List Int) (xs:RowC) (a rl ru tl g lg x fs od gr:Addr) (pr:List (Nat×Nat)) (ls s e r:Nat) (oa:List Addr) (ps:List (Nat×List Nat)) (gs:List Nat),vs=[.ref x] /\ SitL mo CA CR H ks xs a rl ru tl g lg pr /\ PileAt CP H x a fs od gr ls s e r oa ps gs /\ PXl a rl ru lg tl x fs od gr oa /\ PInv ks s e r ps gs /\ e <= ks.length /\ ks.length <= 63 /\ ls <= 500 /\ pr.length <= 29999 /\ XE mo CA CR CS ks xs a rl ru tl g lg pr.length (fun n=>StN ks ls e ps gs r n) H E /\
 (dueB gs=false->r=e->ps.length <= 1->Q .non H) /\
 ∀ t H' k v1 v2 v3 L oa' ps' gs' r',Stp ks ls s e ps gs r k v1 v2 v3 L ps' gs' r'->Left mo CA CR CP H ks xs a rl ru tl g lg x fs od gr pr ls s e oa k v1 v2 v3 L oa' ps' gs' r' t H'->Q (.ref t) H'
noncomputable def ZC5 (CP:Addr):Sp:=fun vs H Q _=>∃ (x a fs od gr:Addr) (ls s e r:Nat) (oa:List Addr) (ps:List (Nat×List Nat)) (gs:List Nat),vs=[.ref x] /\ PileAt CP H x a fs od gr ls s e r oa ps gs /\ (flt ps).length <= 63 /\ r <= e /\ e <= 63 /\ ∀ l H',Same H H'->H l=none->H' l=some (.lst (nL (flt ps++List.range' r (e-r))))->Q (.ref l) H'
noncomputable def NF (ks:List Int) (ls rs:List Nat) (i j w:Nat) (s:Bool) (L:List (Nat×Nat)):Prop:=∀ x y,ls[i]?=some x->rs[j]?=some y->lx ks x y ->
 (nw w s≠4->∃ ps' L',JT ks ls rs (i+1) j (nw w s) true ps' L' /\ L=(max x y,min x y)::L') /\
 (nw w s=4->∃ z G ps' L',i+1 <= z /\ z <= ls.length /\ (∀ k u,i+1 <= k->ls[k]?=some u->(lx ks u y↔k < z)) /\ Gal z ls.length (i+1) (i+1) (i+1) G /\ JT ks ls rs z (if z < ls.length then j+1 else j) 0 true ps' L' /\ L=(max x y,min x y)::(G.map (ask1 ls y)++L'))
theorem JT.inv {ks:List Int} {ls rs ps:List Nat} {i j w:Nat} {s:Bool} {L:List (Nat×Nat)} (h:JT ks ls rs i j w s ps L):NF ks ls rs i j w s L /\ NF ks rs ls j i w (!s) L /\ (¬ (i < ls.length /\ j < rs.length)->L=[]):=by
 induction h with
 | done n=>
  refine ⟨fun x y a b=>absurd ⟨(yAH.mp a).1,(yAH.mp b).1⟩ n,fun x y a b=>absurd ⟨(yAH.mp b).1,(yAH.mp a).1⟩ n,fun _=>rfl⟩
 | step a b c d e ih=>
  refine ⟨fun x y a' b' c'=>?_,fun x y a' b' c'=>?_,fun n=>absurd ⟨(yAH.mp a).1,(yAH.mp b).1⟩ n⟩
  .rw [a] at a';cases a';rw [b] at b';cases b'
   exact ⟨fun _=>⟨_,_,e,rfl⟩,fun z=>absurd z d⟩
  .rw [a] at b';cases b';rw [b] at a';cases a'
   exact absurd c' (ZCX c)
 | leap a b c d e f g k l ih=>
  refine ⟨fun x y a' b' c'=>?_,fun x y a' b' c'=>?_,fun n=>absurd ⟨(yAH.mp a).1,(yAH.mp b).1⟩ n⟩
  .rw [a] at a';cases a';rw [b] at b';cases b'
   exact ⟨fun z=>absurd d z,fun _=>⟨_,_,_,_,e,yBP f,g,k,by rw [if_pos f];exact l,rfl⟩⟩
  .rw [a] at b';cases b';rw [b] at a';cases a'
   exact absurd c' (ZCX c)
 | last a b c d g k l ih=>
  refine ⟨fun x y a' b' c'=>?_,fun x y a' b' c'=>?_,fun n=>absurd ⟨(yAH.mp a).1,(yAH.mp b).1⟩ n⟩
  .rw [a] at a';cases a';rw [b] at b';cases b'
   exact ⟨fun z=>absurd d z,fun _=>⟨_,_,_,_,(yAH.mp a).1,yAA _,fun k u h1 h2=>⟨fun _=>(yAH.mp h2).1,fun _=>g k u h1 h2⟩,k,by rw [if_neg (yBO _)];exact l,rfl⟩⟩
  .rw [a] at b';cases b';rw [b] at a';cases a'
   exact absurd c' (ZCX c)
 | swap h ih=>
  obtain ⟨i1,i2,i3⟩:=ih
  rw [Bool.not_not] at i2
  exact ⟨i2,i1,fun n=>i3 fun z=>n ⟨z.2,z.1⟩⟩
theorem spot_uniq {ks:List Int} {os:List Nat} {f y z z':Nat} (h1:f <= z) (h2:z <= os.length) (h3:∀ k u,f <= k->os[k]?=some u->(lx ks u y↔k < z)) (h1':f <= z') (h2':z' <= os.length) (h3':∀ k u,f <= k->os[k]?=some u->(lx ks u y↔k < z')):z=z':=by
 rcases Nat.lt_trichotomy z z' with h | h | h
 .have e:=yAL (show z < os.length by omega)
  exact absurd ((h3 z _ h1 e).mp ((h3' z _ h1 e).mpr h)) (by omega)
 .exact h
 .have e:=yAL (show z' < os.length by omega)
  exact absurd ((h3' z' _ h1' e).mp ((h3 z' _ h1' e).mpr h)) (by omega)
theorem NF.uniq {ks:List Int} {ls rs:List Nat} {i j w x y n:Nat} {s:Bool} {L L':List (Nat×Nat)} (ih:∀ {i j w:Nat} {s:Bool} {ps ps':List Nat} {L L':List (Nat×Nat)},(ls.length-i)+(rs.length-j) < n->JT ks ls rs i j w s ps L->JT ks ls rs i j w s ps' L'->L=L')
  (hn:(ls.length-i)+(rs.length-j)=n) (a:ls[i]?=some x) (b:rs[j]?=some y) (c:lx ks x y) (h:NF ks ls rs i j w s L) (h':NF ks ls rs i j w s L'):L=L':=by
 have hi:=(yAH.mp a).1
 obtain ⟨s1,s2⟩:=h x y a b c
 obtain ⟨t1,t2⟩:=h' x y a b c
 by_cases z:nw w s=4
 .obtain ⟨z1,G,p,K,a1,a2,a3,a4,a5,rfl⟩:=s2 z
  obtain ⟨z2,G',p',K',b1,b2,b3,b4,b5,rfl⟩:=t2 z
  clear s1 s2 t1 t2
  have ez:=spot_uniq a1 a2 a3 b1 b2 b3
  subst ez
  have eG:=a4.uniq b4
  subst eG
  rw [ih (by split <;> omega) a5 b5]
 .obtain ⟨p,K,a1,rfl⟩:=s1 z
  obtain ⟨p',K',b1,rfl⟩:=t1 z
  clear s1 s2 t1 t2
  rw [ih (by omega) a1 b1]
theorem JT.uniq {ks:List Int}:∀ (n:Nat) {ls rs ps ps':List Nat} {i j w:Nat} {s:Bool} {L L':List (Nat×Nat)},(ls.length-i)+(rs.length-j)=n->(∀ x∈ls,∀ y∈rs,x≠y)->JT ks ls rs i j w s ps L->JT ks ls rs i j w s ps' L'->L=L':=by
 intro n
 induction n using Nat.strongRecOn with
 | ind n ih=>
  intro ls rs ps ps' i j w s L L' hn hd h h'
  obtain ⟨u1,u2,u3⟩:=h.inv
  obtain ⟨v1,v2,v3⟩:=h'.inv
  by_cases hb:i < ls.length /\ j < rs.length
  .have a:=yAL hb.1
   have b:=yAL hb.2
   have hxy:=hd _ (yBB a) _ (yBB b)
   by_cases c:lx ks ls[i] rs[j]
   .exact NF.uniq (n:=n) (fun z p q=>ih _ z rfl hd p q) hn a b c u1 v1
   .exact NF.uniq (n:=n) (fun z p q=>ih _ z rfl (fun x hx y hy e=>hd y hy x hx e.symm) p q) (by omega) b a (ZEX hxy c) u2 v2
  .rw [u3 hb,v3 hb]
noncomputable def spn:List (Nat×List Nat)->List Nat->Nat->List (Nat×Nat×Nat)
 | [],_,_=>[]
 | p::ps,gs,r=>(p.1,bB ps r,gs.headD 0)::spn ps gs.tail r
theorem spn_len (ps:List (Nat×List Nat)) (gs:List Nat) (r:Nat):(spn ps gs r).length=ps.length:=by
 induction ps generalizing gs with
 | nil=>rfl
 | cons p ps ih=>show (spn ps gs.tail r).length+1=ps.length+1;rw [ih]
theorem spn_get {r:Nat}:∀ {ps:List (Nat×List Nat)} {gs:List Nat} {i:Nat} {p:Nat×List Nat},ps[i]?=some p->(spn ps gs r)[i]?=some (p.1,bB (ps.drop (i+1)) r,(gs[i]?).getD 0)
 | [],gs,i,p,h=>by simp at h
 | q::ps,gs,0,p,h=>by
  cases h
  show some (q.1,bB ps r,gs.headD 0)=_
  cases gs <;> rfl
 | q::ps,gs,i+1,p,h=>by
  show (spn ps gs.tail r)[i]?=_
  rw [spn_get (ps:=ps) (gs:=gs.tail) (i:=i) (by simpa using h)]
  cases gs <;> rfl
structure Spans (H:Hp) (ss:List (Nat×Nat×Nat)) (ts:List V):Prop where
 len:ts.length=ss.length
 get:∀ (j x y z:Nat),ss[j]?=some (x,y,z)->∃ t,ts[j]?=some (V.ref t) /\ H t=some (.tup [.int x,.int y,.int z])
theorem Spans.keep {H H':Hp} {ss:List (Nat×Nat×Nat)} {ts:List V} (h:Spans H ss ts) (e:∀ t x,H t=some (.tup x)->H' t=some (.tup x)):Spans H' ss ts :=
 ⟨h.len,fun j x y z hj=>let ⟨t,a,b⟩:=h.get j x y z hj;⟨t,a,e _ _ b⟩⟩
theorem Spans.snoc {H:Hp} {ss:List (Nat×Nat×Nat)} {ts:List V} {x y z:Nat} {t:Addr} (h:Spans H ss ts) (ht:H t=some (.tup [.int x,.int y,.int z])):Spans H (ss++[(x,y,z)]) (ts++[.ref t]):=by
 refine ⟨by rw [yAB,yAB,h.len];rfl,fun j x' y' z' hj=>?_⟩
 by_cases hl:j < ss.length
 .rw [yBH hl] at hj
  obtain ⟨t',a,b⟩:=h.get j x' y' z' hj
  exact ⟨t',by rw [yBH (by rw [h.len];exact hl)];exact a,b⟩
 .have e:=(yAH.mp hj).1
  rw [yAB] at e
  have hj':j=ss.length:=by have:([(x,y,z)]:List (Nat×Nat×Nat)).length=1:=rfl;omega
  subst hj'
  rw [yBA (yAA _),yBI] at hj
  cases hj
  exact ⟨t,by rw [<- h.len,yBA (yAA _),yBI];rfl,ht⟩
noncomputable def ZCB (CP:Addr):Sp:=fun vs H Q _=>∃ (x a fs od gr:Addr) (ls s e r:Nat) (oa:List Addr) (ps:List (Nat×List Nat)) (gs:List Nat),vs=[.ref x] /\ PileAt CP H x a fs od gr ls s e r oa ps gs /\ ps.length <= 63 /\ gs.length=ps.length-1 /\ ∀ l H' ts,Same H H'->H l=none->H' l=some (.lst ts)->Spans H' (spn ps gs r) ts->Q (.ref l) H'
theorem two_eq {α:Type} {A A':List α} {x y x' y':α} {B B':List α} (h:A++x::y::B=A'++x'::y'::B') (hb:B.length=B'.length):A=A' /\ x=x' /\ y=y' /\ B=B':=by
 have hl:A.length=A'.length:=by
  have:=congrArg List.length h
  rw [yAB,yAB,yAG,yAG,yAG,yAG] at this
  omega
 obtain ⟨e1,e2⟩:=List.append_inj h hl
 injection e2 with e3 e4
 injection e4 with e4 e5
 exact ⟨e1,e3,e4,e5⟩
theorem one_eq {α:Type} {A A':List α} {x x':α} (h:A++[x]=A'++[x']):A=A' /\ x=x':=by
 have hl:A.length=A'.length:=by
  have:=congrArg List.length h
  rw [yAB,yAB] at this
  exact Nat.add_right_cancel this
 obtain ⟨e1,e2⟩:=List.append_inj h hl
 exact ⟨e1,(List.cons.inj e2).1⟩
theorem gr_eq {s e r v3:Nat} {ps:List (Nat×List Nat)} {gs gs1 gs2:List Nat} (h1:(ps=[] /\ gs1=gs)∨∃ A p g,ps=A++[p] /\ gs1=gs++[g] /\ Gr.IsG ((e:Int)-s) (((p.1:Int)-s)+((r:Int)-s)) (((r:Int)-s)+((v3:Int)-s)) g /\ g <= 240) (h2:(ps=[] /\ gs2=gs)∨∃ A p g,ps=A++[p] /\ gs2=gs++[g] /\ Gr.IsG ((e:Int)-s) (((p.1:Int)-s)+((r:Int)-s)) (((r:Int)-s)+((v3:Int)-s)) g /\ g <= 240):gs1=gs2:=by
 rcases h1 with ⟨a1,a2⟩ | ⟨A,p,g,a1,a2,a3,a4⟩ <;> rcases h2 with ⟨b1,b2⟩ | ⟨A',p',g',b1,b2,b3,b4⟩
 .rw [a2,b2]
 .rw [a1] at b1;simp at b1
 .rw [b1] at a1;simp at a1
 .rw [a1] at b1
  obtain ⟨_,rfl⟩:=one_eq b1
  rw [a2,b2,a3.uniq b3]
theorem wh_len {gs:List Nat} {r e:Nat} {B B':List (Nat×List Nat)} (h1:(dueB gs=true /\ B.length=1)∨(dueB gs=false /\ r=e /\ B=[])) (h2:(dueB gs=true /\ B'.length=1)∨(dueB gs=false /\ r=e /\ B'=[])):B.length=B'.length:=by
 rcases h1 with ⟨a1,a2⟩ | ⟨a1,_,a2⟩ <;> rcases h2 with ⟨b1,b2⟩ | ⟨b1,_,b2⟩
 .rw [a2,b2]
 .rw [a1] at b1;cases b1
 .rw [a1] at b1;cases b1
 .rw [a2,b2]
theorem Stp.uniq {ks:List Int} {ls s e:Nat} {ps:List (Nat×List Nat)} {gs:List Nat} {r:Nat} {k:Bool} {v1 v2 v3:Nat} {L:List (Nat×Nat)} {ps':List (Nat×List Nat)} {gs':List Nat} {r':Nat} {k2:Bool} {u1 u2 u3:Nat} {L2:List (Nat×Nat)} {ps2:List (Nat×List Nat)} {gs2:List Nat} {r2:Nat} (h:Stp ks ls s e ps gs r k v1 v2 v3 L ps' gs' r') (d:Stp ks ls s e ps gs r k2 u1 u2 u3 L2 ps2 gs2 r2) (i:PInv ks s e r ps gs):(L=L2 /\ ps'=ps2 /\ gs'=gs2 /\ r'=r2) /\ k=k2 /\ v1=u1 /\ v2=u2 /\ v3=u3:=by
 rcases h with ⟨rfl,rfl,A,o1,o2,o,B,j⟩ | ⟨rfl,f,os,l,j⟩ <;> rcases d with ⟨rfl,rfl,A',q1,q2,q,B',j2⟩ | ⟨rfl,f',os',l',j2⟩
 .have hb:=wh_len j.wh j2.wh
  obtain ⟨rfl,e1,e2,rfl⟩:=two_eq (j.e1.symm.trans j2.e1) hb
  cases e1
  cases e2
  have ch:=i.ch
  rw [j.e1] at ch
  obtain ⟨v3',c1,c2,c3,c4,c5,c6,c7⟩:=ch.two
  have dis:∀ x∈o1,∀ y∈o2,x≠y:=fun u hu v hv=>by have:=(c4.mem u).mp hu;have:=(c5.mem v).mp hv;omega
  have eL:=JT.uniq _ rfl dis j.jt j2.jt
  have oj:=c4.join c5 c2 c3 j2.jt
  have eo:o=q:=j.jt.order c4.srt c5.srt dis oj.srt fun u=>by rw [oj.mem,c4.mem,c5.mem];omega
  subst eo
  exact ⟨⟨eL,by rw [j.e2,j2.e2],by rw [j.e4,j2.e4],rfl⟩,rfl,rfl,rfl,by rw [j.e3,j2.e3]⟩
 .rcases j.wh with ⟨w1,_⟩ | ⟨_,w2,_⟩
  .rw [j2.wh] at w1;cases w1
  .have:=j2.lt;omega
 .rcases j2.wh with ⟨w1,_⟩ | ⟨_,w2,_⟩
  .rw [j.wh] at w1;cases w1
  .have:=j.lt;omega
 .obtain ⟨rfl,rfl⟩:=j.by'.uniq j2.by'
  obtain ⟨rfl,rfl⟩:=j.put.uniq j2.put
  have ev:v3=u3:=j.e3.trans j2.e3.symm
  subst ev
  have eg:=gr_eq j.gr j2.gr
  exact ⟨⟨by rw [j.e2,j2.e2],by rw [j.e5,j2.e5],eg,by rw [j.e4,j2.e4]⟩,rfl,by rw [j.e1,j2.e1],rfl,rfl⟩
inductive Rn (ks:List Int) (ls s e:Nat):List (Nat×List Nat)->List Nat->Nat->List (Nat×Nat)->List (Nat×List Nat)->List Nat->Nat->Prop
 | nil {ps:List (Nat×List Nat)} {gs:List Nat} {r:Nat}:Rn ks ls s e ps gs r [] ps gs r
 | snoc {ps ps1 ps2:List (Nat×List Nat)} {gs gs1 gs2:List Nat} {r r1 r2:Nat} {L L':List (Nat×Nat)} {k:Bool} {v1 v2 v3:Nat}:Rn ks ls s e ps gs r L ps1 gs1 r1->Stp ks ls s e ps1 gs1 r1 k v1 v2 v3 L' ps2 gs2 r2->Rn ks ls s e ps gs r (L++L') ps2 gs2 r2
theorem Rn.inv {ks:List Int} {ls s e:Nat} {ps ps1:List (Nat×List Nat)} {gs gs1:List Nat} {r r1:Nat} {L:List (Nat×Nat)} (h:Rn ks ls s e ps gs r L ps1 gs1 r1) (i:PInv ks s e r ps gs):PInv ks s e r1 ps1 gs1:=by
 induction h with
 | nil=>exact i
 | snoc a b ih=>exact b.inv (ih i)
noncomputable def Fin' (e:Nat) (ps:List (Nat×List Nat)) (gs:List Nat) (r:Nat):Prop:=dueB gs=false /\ r=e /\ ps.length <= 1
theorem Fin'.no {ks:List Int} {ls s e:Nat} {ps:List (Nat×List Nat)} {gs:List Nat} {r:Nat} {k:Bool} {v1 v2 v3:Nat} {L:List (Nat×Nat)} {ps':List (Nat×List Nat)} {gs':List Nat} {r':Nat} (f:Fin' e ps gs r) (h:Stp ks ls s e ps gs r k v1 v2 v3 L ps' gs' r'):False:=by
 obtain ⟨f1,f2,f3⟩:=f
 rcases h with ⟨_,_,A,o1,o2,o,B,j⟩ | ⟨_,f,os,l,j⟩
 .rw [j.e1,yAB,yAG,yAG] at f3;omega
 .have:=j.lt;omega
theorem Rn.head {ks:List Int} {ls s e:Nat} {ps ps2:List (Nat×List Nat)} {gs gs2:List Nat} {r r2:Nat} {L:List (Nat×Nat)} (h:Rn ks ls s e ps gs r L ps2 gs2 r2):(L=[] /\ ps=ps2 /\ gs=gs2 /\ r=r2)∨∃ k v1 v2 v3 L1 L2 ps1 gs1 r1,L=L1++L2 /\ Stp ks ls s e ps gs r k v1 v2 v3 L1 ps1 gs1 r1 /\ Rn ks ls s e ps1 gs1 r1 L2 ps2 gs2 r2:=by
 induction h with
 | nil=>exact .inl ⟨rfl,rfl,rfl,rfl⟩
 | snoc a b ih=>
  rcases ih with ⟨rfl,rfl,rfl,rfl⟩ | ⟨k',w1,w2,w3,L1,L2,ps3,gs3,r3,rfl,c1,c2⟩
  .exact .inr ⟨_,_,_,_,_,[],_,_,_,by simp,b,.nil⟩
  .exact .inr ⟨k',w1,w2,w3,L1,_,ps3,gs3,r3,yAJ ..,c1,.snoc c2 b⟩
noncomputable def ZDb (CA:Addr) (CR:RuM) (CS:Addr):Sp:=fun vs H Q E=>∃ (mo:V) (ks:List Int) (xs:RowC) (a rl ru tl g lg:Addr) (ls s e:Nat) (pz:V) (L0:List (Nat×Nat)) (p0:List (Nat×List Nat)) (g0:List Nat) (r0:Nat),vs=[.ref a,.int ls,pz] /\ SitL mo CA CR H ks xs a rl ru tl g lg [] /\ ((∃ pt,pz=.ref pt /\ H pt=some (.tup [.int s,.int e]))∨(pz=.non /\ s=0 /\ e=ks.length)) /\ s <= e /\ e <= ks.length /\ ks.length <= 63 /\ ls <= 500 /\ Rn ks ls s e [] [] s L0 p0 g0 r0 /\ Fin' e p0 g0 r0 /\ XE mo CA CR CS ks xs a rl ru tl g lg 0 (fun n=>n=L0.length) H E /\
 ∀ l H',Fr [a,lg,tl] H H'->H l=none->H' l=some (.lst (nL (flt p0)))->SitL mo CA CR H' ks xs a rl ru tl g lg L0->Q (.ref l) H'
theorem seven {x fs od gr a lg tl b:Addr} (h0:b≠x) (h1:b≠fs) (h2:b≠od) (h3:b≠gr) (h4:b∉[a,lg,tl]):b∉[x,fs,od,gr,a,lg,tl]:=fun z=>by
 rcases yAE.mp z with z | z
 .exact h0 z
 rcases yAE.mp z with z | z
 .exact h1 z
 rcases yAE.mp z with z | z
 .exact h2 z
 rcases yAE.mp z with z | z
 .exact h3 z
 .exact h4 z
theorem Rn.cost {ks:List Int} {ls s e:Nat} {ps ps1:List (Nat×List Nat)} {gs gs1:List Nat} {r r1:Nat} {L:List (Nat×Nat)} (h:Rn ks ls s e ps gs r L ps1 gs1 r1) (i:PInv ks s e r ps gs) (hes:e-s <= 63):L.length+126 * ps1.length+191 * (r-s) <= 126 * ps.length+191 * (r1-s):=by
 induction h with
 | nil=>simp
 | snoc a b ih=>
  have i1:=a.inv i
  have:=b.cost i1 hes (by have:=i1.ch.le;omega)
  rw [yAB]
  have:=ih i
  omega
theorem StN.of {ks:List Int} {ls s e:Nat} {ps:List (Nat×List Nat)} {gs:List Nat} {r:Nat} {k:Bool} {v1 v2 v3 n:Nat} {L:List (Nat×Nat)} {ps':List (Nat×List Nat)} {gs':List Nat} {r':Nat} (h:Stp ks ls s e ps gs r k v1 v2 v3 L ps' gs' r') (d:StN ks ls e ps gs r n) (i:PInv ks s e r ps gs):n=L.length:=by
 rcases h with ⟨rfl,rfl,A,o1,o2,o,B,j⟩ | ⟨rfl,f,os,l,j⟩ <;> rcases d with ⟨A',w1,q1,w2,q2,B',q,L2,x1,x2,x3,rfl⟩ | ⟨x1,x2,j',f',os',l',x3,x4,rfl⟩
 .have hb:=wh_len j.wh x2
  obtain ⟨rfl,e1,e2,rfl⟩:=two_eq (j.e1.symm.trans x1) hb
  cases e1
  cases e2
  have ch:=i.ch
  rw [j.e1] at ch
  obtain ⟨v3',c1,c2,c3,c4,c5,c6,c7⟩:=ch.two
  rw [JT.uniq _ rfl (fun u hu v hv=>by have:=(c4.mem u).mp hu;have:=(c5.mem v).mp hv;omega) j.jt x3]
 .rcases j.wh with ⟨w1,_⟩ | ⟨_,w2,_⟩
  .rw [x1] at w1;cases w1
  .omega
 .rcases x2 with ⟨w1,_⟩ | ⟨_,w2,_⟩
  .rw [j.wh] at w1;cases w1
  .have:=j.lt;omega
 .obtain ⟨rfl,rfl⟩:=j.by'.uniq x3
  obtain ⟨rfl,rfl⟩:=j.put.uniq x4
  rw [j.e2]
theorem SitL.free {mo:V} {CA:Addr} {CR:RuM} {H H':Hp} {ks:List Int} {xs:RowC} {a rl ru tl g lg:Addr} {pr:List (Nat×Nat)} (st:SitL mo CA CR H' ks xs a rl ru tl g lg pr) (f:Fr [a,lg,tl] H H') {l:Addr} (hl:H' l=none):H l=none:=by
 cases e:H l with
 | none=>rfl
 | some o=>exact absurd hl (by rw [f l o (st.newS hl) e];exact fun z=>by cases z)
theorem rn_done {ks:List Int} {ls s e:Nat} {ps p0:List (Nat×List Nat)} {gs g0:List Nat} {r r0:Nat} {L:List (Nat×Nat)} (h:Rn ks ls s e ps gs r L p0 g0 r0) (f:Fin' e ps gs r):L=[] /\ ps=p0 /\ gs=g0 /\ r=r0:=by
 rcases h.head with z | ⟨k,v1,v2,v3,M1,N1,q1,c1,s1,rfl,a1,a2⟩
 .exact z
 .exact (f.no a1).elim
theorem rn_next {ks:List Int} {ls s e:Nat} {ps p0:List (Nat×List Nat)} {gs g0:List Nat} {r r0:Nat} {Lr:List (Nat×Nat)} (h:Rn ks ls s e ps gs r Lr p0 g0 r0) (f:Fin' e p0 g0 r0) {k:Bool} {v1 v2 v3:Nat} {L:List (Nat×Nat)} {ps':List (Nat×List Nat)} {gs':List Nat} {r':Nat} (stp:Stp ks ls s e ps gs r k v1 v2 v3 L ps' gs' r') (i:PInv ks s e r ps gs):∃ L2,Lr=L++L2 /\ Rn ks ls s e ps' gs' r' L2 p0 g0 r0:=by
 rcases h.head with ⟨rfl,rfl,rfl,rfl⟩ | ⟨k,w1,w2,w3,M1,N1,q1,c1,s1,rfl,a1,a2⟩
 .exact (f.no stp).elim
 .obtain ⟨⟨rfl,rfl,rfl,rfl⟩,_⟩:=a1.uniq stp i
  exact ⟨_,rfl,a2⟩
theorem rn_left {ks:List Int} {ls s e:Nat} {ps p0:List (Nat×List Nat)} {gs g0:List Nat} {r r0 n:Nat} {Lr:List (Nat×Nat)} (h:Rn ks ls s e ps gs r Lr p0 g0 r0) (f:Fin' e p0 g0 r0) (hn:StN ks ls e ps gs r n) (i:PInv ks s e r ps gs):n <= Lr.length:=by
 rcases h.head with ⟨rfl,rfl,rfl,rfl⟩ | ⟨k,w1,w2,w3,M1,N1,q1,c1,s1,rfl,a1,a2⟩
 .obtain ⟨f1,f2,f3⟩:=f
  rcases hn with ⟨A',w1,q1,w2,q2,B',q,L2,x1,x2,x3,rfl⟩ | ⟨x1,x2,_⟩
  .rw [x1,yAB,yAG,yAG] at f3;omega
  .omega
 .rw [StN.of a1 hn i,yAB];omega
theorem Spans.dp {K:W.Frag} {H:Hp}:∀ {ss:List (Nat×Nat×Nat)} {ts:List V},Spans H ss ts->DpAll K H (ss.map fun c=>.tuple [.int (c.1:Nat),.int (c.2.1:Nat),.int (c.2.2:Nat)]) ts
 | [],ts,h=>by
  have:ts=[]:=List.length_eq_zero_iff.mp h.len
  subst this
  exact .nil
 | c::r,[],h=>by have:=h.len;cases this
 | (x,y,z)::r,v::ts,h=>by
  obtain ⟨t,a,b⟩:=h.get 0 x y z rfl
  have ev:v=.ref t:=Option.some.inj a
  subst ev
  refine .cons (ZDO (SqT.of b) (.cons (ZCk _) (.two (ZCk _) (ZCk _)))) (Spans.dp ⟨by have:=h.len;simpa using this,fun j x' y' z' hj=>?_⟩)
  obtain ⟨t',a',b'⟩:=h.get (j+1) x' y' z' (by simpa using hj)
  exact ⟨t',by simpa using a',b'⟩
theorem ZEm:∀ ss:List (Nat×Nat×Nat),PyData.canLayAll0 (ss.map fun c=>PyData.tuple [.int (c.1:Nat),.int (c.2.1:Nat),.int (c.2.2:Nat)])=true
 | []=>by unfold PyData.canLayAll0 List.map;rfl
 | c::r=>by
  rw [yAY]
  unfold PyData.canLayAll0
  rw [ZEm r]
  unfold PyData.canLay0 PyData.canLayAll0 PyData.canLayAll0 PyData.canLayAll0 PyData.canLayAll0 PyData.canLay0
  rfl
theorem ZEn:∀ ss:List (Nat×Nat×Nat),PyData.depthAll (ss.map fun c=>PyData.tuple [.int (c.1:Nat),.int (c.2.1:Nat),.int (c.2.2:Nat)]) <= 1
 | []=>by unfold List.map PyData.depthAll;decide
 | c::r=>by
  rw [yAY]
  unfold PyData.depthAll
  have h1:=ZEn r
  have h2:(PyData.tuple [.int (c.1:Nat),.int (c.2.1:Nat),.int (c.2.2:Nat)]).depth <= 1:=by unfold PyData.depth PyData.depthAll PyData.depthAll PyData.depthAll PyData.depthAll PyData.depth;decide
  omega
theorem Halv.log {ks:List Int} {os:List Nat} {pl low high r:Nat} {l:List (Nat×Nat)} (h:Halv ks os pl low high r l):∀ b,high-low < 2 ^ b->l.length <= b:=by
 induction h with
 | done n=>intro b _;simp
 | @less low high r o l a c d e ih=>
  intro b hb
  cases b with
  | zero=>rw [yBV] at hb;omega
  | succ b=>rw [yBL] at hb;rw [yAG];have:=ih b (by omega);omega
 | @more low high r o l a c d e ih=>
  intro b hb
  cases b with
  | zero=>rw [yBV] at hb;omega
  | succ b=>rw [yBL] at hb;rw [yAG];have:=ih b (by omega);omega
theorem Put.five {ks:List Int} {os os':List Nat} {p e:Nat} {l:List (Nat×Nat)} (h:Put ks os p e os' l):os.length+(e-p) <= 31->l.length <= 5 * (e-p):=by
 induction h with
 | nil n=>intro _;simp
 | @cons os os' p e r l l' a b c ih=>
  intro hl
  have h1:=b.log 5 (by show _ < 32;omega)
  have h2:=ih (by rw [ZDm];omega)
  rw [yAB]
  omega
theorem StN.few {ks:List Int} {ls s e n:Nat} {ps:List (Nat×List Nat)} {gs:List Nat} {r:Nat} (h:StN ks ls e ps gs r n) (i:PInv ks s e r ps gs) (he:e <= 24):n <= 200:=by
 rcases h with ⟨A,w1,q1,w2,q2,B,q,L2,x1,x2,x3,rfl⟩ | ⟨x1,x2,j,f,os,l,x3,x4,rfl⟩
 .have ch:=i.ch
  rw [x1] at ch
  obtain ⟨v3,c1,c2,c3,c4,c5,c6,c7⟩:=ch.two
  have l1:=x3.len (by decide) (yAI _) (yAI _)
  rw [c4.len,c5.len] at l1
  have:=c6.le
  have:=i.re
  clear x3 ch i
  omega
 .have hb:=x3.two
  have hm:=Nat.min_le_right (r+ls) e
  have hq:=Nat.min_le_left (j+1) e
  rw [yAB,ZBu]
  generalize min (r+ls) e=m at x4 hm
  generalize min (j+1) e=q at hq ⊢
  have f1:=x4.five (by rw [ZCa];clear x4 i;omega)
  clear x4 x3 i
  omega
theorem SitL.widened {mo mo':V} {CA:Addr} {CR:RuM} {H H':Hp} {ks:List Int} {xs:RowC} {a rl ru tl g lg:Addr} {pr:List (Nat×Nat)} (h:SitL mo CA CR H ks xs a rl ru tl g lg pr) (k:∀ b,b≠a->H' b=H b) (ha:Ins H' a CA (fA rl ru mo' pr.length tl)) (hb:Bd mo' pr.length):SitL mo' CA CR H' ks xs a rl ru tl g lg pr:=by
 obtain ⟨ws,h4,h5⟩:=h.hlg
 obtain ⟨us,h6,h7⟩:=h.htl
 have kk:∀ {b:Addr} {o:HO},H b=some o->(∀ C d f,o≠.ins C d f)->H' b=some o:=fun {b o} hb n=>(k b (h.ha.ne hb n)).trans hb
 exact ⟨ha,kk h.hrl (fun _ _ _ z=>by cases z),ZB4 (S:=[a]) (fun b o n hb=>(k b (fun z=>n (by rw [z];exact yAF))).trans hb) (fun z=>h.ne.2.2 (yAS.mp z)) h.hru,h.clo,h.elt,h.len,
  fun i kx hk=>let ⟨r,a1,a2⟩:=h.row i kx hk;⟨r,a1,kk a2 (fun _ _ _ z=>by cases z)⟩,⟨ws,kk h4 (fun _ _ _ z=>by cases z),h5.keep fun _ _ z=>kk z (fun _ _ _ z=>by cases z)⟩,⟨us,kk h6 (fun _ _ _ z=>by cases z),h7.keep fun _ _ z=>kk z (fun _ _ _ z=>by cases z)⟩,h.ne,hb⟩
noncomputable def ZCR (CA:Addr) (CR:RuM) (CP:Addr):Sp:=fun vs H Q _=>∃ (k0:Nat) (ks:List Int) (xs:RowC) (a rl ru tl g x fs od gr:Addr) (pr:List (Nat×Nat)) (ls s e r:Nat) (oa:List Addr) (ps:List (Nat×List Nat)) (gs:List Nat) (mr:Nat),vs=[.ref x,.ref a,.int mr] /\ SitL (.int k0) CA CR H ks xs a rl ru tl g tl pr /\ PileAt CP H x a fs od gr ls s e r oa ps gs /\ PXl a rl ru tl tl x fs od gr oa /\ PInv ks s e r ps gs /\ e <= ks.length /\ ks.length <= 24 /\ ls <= 500 /\ pr.length <= 29000 /\
 (Fin' e ps gs r->∀ H' k1 pr1,Fr [a,tl,tl] H H'->pr1.length <= pr.length+400->SitL (.int (k1:Nat)) CA CR H' ks xs a rl ru tl g tl pr1->Q .non H') /\
 (∀ t H' k1 pr1 k v1 v2 v3 L oa' ps' gs' r',Stp ks ls s e ps gs r k v1 v2 v3 L ps' gs' r'->pr1.length <= pr.length+400->Left (.int (k1:Nat)) CA CR CP H ks xs a rl ru tl g tl x fs od gr pr1 ls s e oa k v1 v2 v3 L oa' ps' gs' r' t H'->Q (.ref t) H')
theorem Left.from {mo:V} {CA:Addr} {CR:RuM} {CP:Addr} {H H1:Hp} {ks:List Int} {xs:RowC} {a rl ru tl g lg x fs od gr:Addr} {pr pr1:List (Nat×Nat)} {ls s e:Nat} {oa:List Addr} {k:Bool} {v1 v2 v3:Nat} {L:List (Nat×Nat)} {oa':List Addr} {ps':List (Nat×List Nat)} {gs':List Nat} {r':Nat} {t:Addr} {H':Hp} (h:Left mo CA CR CP H1 ks xs a rl ru tl g lg x fs od gr pr ls s e oa k v1 v2 v3 L oa' ps' gs' r' t H') (st:SitL mo CA CR H1 ks xs a rl ru tl g lg pr1) (f:Fr [a,lg,tl] H H1):Left mo CA CR CP H ks xs a rl ru tl g lg x fs od gr pr ls s e oa k v1 v2 v3 L oa' ps' gs' r' t H':=by
 obtain ⟨f1,f2,f3,f4,f5,f6⟩:=h
 refine ⟨fun b o n hb=>f1 b o n (f b o (fun z=>n (yAV [x,fs,od,gr] z)) hb),fun b hb=>(f2 b hb).imp id fun z=>st.free f z,f3,f4,f5,f6⟩
theorem two_lists {K:W.Frag} {H:Hp} {x y a b c d:Addr} {ss:List (Nat×Nat×Nat)} {ts us:List V} {ns:List Nat} {Q:VK} (hx:H x=some (.lst [.ref a,.ref b])) (hy:H y=some (.lst [.ref c,.ref d])) (ha:H a=some (.lst ts)) (hc:H c=some (.lst us)) (hb:H b=some (.lst (nL ns))) (hd:H d=some (.lst (nL ns))) (h1:Spans H ss ts) (h2:Spans H ss us) (q:Q (.bl false) H):rNeD K (.ref x) (.ref y) H Q:=by
 have dp:∀ {z u v:Addr} {ws:List V},H z=some (.lst [.ref u,.ref v])->H u=some (.lst ws)->Spans H ss ws->H v=some (.lst (nL ns))->Dp K H (.list [.list (ss.map fun c=>.tuple [.int (c.1:Nat),.int (c.2.1:Nat),.int (c.2.2:Nat)]),.list ((ns.map fun (n:Nat)=>(n:Int)).map PyData.int)]) (.ref z):=fun hz hu hs hv=>ZD3 (SqL.of hz) (.two (ZD3 (SqL.of hu) hs.dp) (ZBh (SqL.of (by rw [hv,ZCv]))))
 refine ZCK (dp hx ha h1 hb) (dp hy hc h2 hd) ?_ ?_ q
 .unfold PyData.canLay0 PyData.canLayAll0 PyData.canLayAll0 PyData.canLayAll0
  have:=Enc.int.list.lay (ns.map fun (n:Nat)=>(n:Int))
  rw [this]
  unfold PyData.canLay0
  rw [ZEm ss]
  rfl
 .unfold PyData.depth PyData.depthAll PyData.depthAll PyData.depthAll
  have h1:=Enc.int.list.dep (ns.map fun (n:Nat)=>(n:Int))
  have h2:(PyData.list (ss.map fun c=>.tuple [.int (c.1:Nat),.int (c.2.1:Nat),.int (c.2.2:Nat)])).depth <= 60:=by unfold PyData.depth;have:=ZEn ss;omega
  omega
noncomputable def ZED:Sp:=fun vs H Q _=>∃ (ks:List Int) (xs:List V) (rw pt:Addr) (ls s e m:Nat) (L0:List (Nat×Nat)) (p0:List (Nat×List Nat)) (g0:List Nat) (r0:Nat),vs=[.ref rw,.int ls,.ref pt,.int m] /\ H rw=some (.lst xs) /\ Things H ks xs /\ H pt=some (.tup [.int s,.int e]) /\ s <= e /\ e <= ks.length /\ ks.length <= 63 /\ ls <= 500 /\ Rn ks ls s e [] [] s L0 p0 g0 r0 /\ Fin' e p0 g0 r0 /\
 (L0.length <= m->∀ t l H',Same H H'->H' t=some (.tup [.bl false,.ref l])->H' l=some (.lst (nL (flt p0)))->Q (.ref t) H') /\ (m < L0.length->∀ t H',Same H H'->H' t=some (.tup [.bl true,.non])->Q (.ref t) H')
theorem isX {R:Bool->Prop} {K:W.Frag} {H:Hp} {ea C:Addr} {c:V} {b:Bool} {dd:Option Addr} (h:H ea=some (excO ea (.ref C) dd)) (x:ExcC K C) (hd:PySem.W.hasDictIn K C=true) (k:PySem.W.kitOne K (.ref C) (cval c)=some b) (hc:ZE8 c=true) (q:R b) :
  ∃ a C' c' b' dd',[V.ref ea,c]=[.ref a,c'] /\ ZE8 c'=true /\ H a=some (excO a (.ref C') dd') /\ ExcC K C' /\ PySem.W.hasDictIn K C'=true /\ PySem.W.kitOne K (.ref C') (cval c')=some b' /\ R b':=⟨ea,C,c,b,dd,rfl,hc,h,x,hd,k,q⟩
theorem SitL.off {mo:V} {CA:Addr} {CR:RuM} {H H':Hp} {ks:List Int} {xs:RowC} {a rl ru tl g:Addr} {pr:List (Nat×Nat)} {S:List Addr} (h:SitL mo CA CR H ks xs a rl ru tl g tl pr) (e:Fr S H H') (hS:∀ b∈S,(∃ l,H b=some (.lst l))∨∃ C d f,H b=some (.ins C d f)) (n:a∉S /\ rl∉S /\ ru∉S /\ tl∉S):SitL mo CA CR H' ks xs a rl ru tl g tl pr:=by
 obtain ⟨us,h6,h7⟩:=h.htl
 have kt:∀ t x,H t=some (.tup x)->H' t=some (.tup x):=fun t x z=>e _ _ (fun m=>by rcases hS t m with ⟨l,hl⟩ | ⟨C,d,f,hl⟩ <;> · rw [hl] at z;cases z) z
 exact ⟨ZB4 e n.1 h.ha,e _ _ n.2.1 h.hrl,ZB4 e n.2.2.1 h.hru,h.clo,h.elt,h.len,fun i kk hk=>let ⟨r,a1,a2⟩:=h.row i kk hk;⟨r,a1,kt _ _ a2⟩,⟨us,e _ _ n.2.2.2 h6,⟨trivial⟩⟩,⟨us,e _ _ n.2.2.2 h6,h7.keep kt⟩,h.ne,h.hmo⟩
structure P58 (mo:V) (CA:Addr) (CR:RuM) (CP:Addr) (X:Hp) (ks:List Int) (xs:RowC) (ak rl ru tl g x fs od gr:Addr) (pr:List (Nat×Nat)) (ls s e r:Nat) (oa:List Addr) (ps:List (Nat×List Nat)) (gs:List Nat):Prop where
 st:SitL mo CA CR X ks xs ak rl ru tl g tl pr
 pa:PileAt CP X x ak fs od gr ls s e r oa ps gs
 px:PXl ak rl ru tl tl x fs od gr oa
noncomputable abbrev O58 (ak rl ru tl x fs od gr:Addr):List Addr:=[x,fs,od,gr,ak,tl,rl,ru]
theorem P58.off {mo:V} {CA:Addr} {CR:RuM} {CP:Addr} {X Y:Hp} {ks:List Int} {xs:RowC} {ak rl ru tl g x fs od gr:Addr} {pr:List (Nat×Nat)} {ls s e r:Nat} {oa:List Addr} {ps:List (Nat×List Nat)} {gs:List Nat} {S:List Addr} (w:P58 mo CA CR CP X ks xs ak rl ru tl g x fs od gr pr ls s e r oa ps gs) (f:Fr S X Y) (hS:∀ b∈S,(∃ l,X b=some (.lst l))∨∃ C d f,X b=some (.ins C d f)) (n:∀ b∈S,b∉O58 ak rl ru tl x fs od gr) (n2:∀ b∈oa,b∉S):P58 mo CA CR CP Y ks xs ak rl ru tl g x fs od gr pr ls s e r oa ps gs:=by
 have hn:∀ {b:Addr},b∈O58 ak rl ru tl x fs od gr->b∉S:=fun {b} h z=>n b z h
 exact ⟨w.st.off f hS ⟨hn (by simp [O58]),hn (by simp [O58]),hn (by simp [O58]),hn (by simp [O58])⟩,w.pa.fr f ⟨hn (by simp [O58]),hn (by simp [O58]),hn (by simp [O58]),hn (by simp [O58])⟩ n2,w.px⟩
theorem P58.mono {mo:V} {CA:Addr} {CR:RuM} {CP:Addr} {X Y:Hp} {ks:List Int} {xs:RowC} {ak rl ru tl g x fs od gr:Addr} {pr:List (Nat×Nat)} {ls s e r:Nat} {oa:List Addr} {ps:List (Nat×List Nat)} {gs:List Nat} (w:P58 mo CA CR CP X ks xs ak rl ru tl g x fs od gr pr ls s e r oa ps gs) (f:Same X Y):P58 mo CA CR CP Y ks xs ak rl ru tl g x fs od gr pr ls s e r oa ps gs:=⟨w.st.mono f,w.pa.mono f,w.px⟩
theorem P58.muts {mo:V} {CA:Addr} {CR:RuM} {CP:Addr} {X:Hp} {ks:List Int} {xs:RowC} {ak rl ru tl g x fs od gr:Addr} {pr:List (Nat×Nat)} {ls s e r:Nat} {oa:List Addr} {ps:List (Nat×List Nat)} {gs:List Nat} (w:P58 mo CA CR CP X ks xs ak rl ru tl g x fs od gr pr ls s e r oa ps gs):∀ b∈O58 ak rl ru tl x fs od gr,(∃ l,X b=some (.lst l))∨∃ C d f,X b=some (.ins C d f):=by
 obtain ⟨us,h6,_⟩:=w.st.htl
 obtain ⟨d1,f1,e1,_⟩:=w.pa.hp.ex
 obtain ⟨d2,f2,e2,_⟩:=w.st.ha.ex
 obtain ⟨d3,f3,e3,_⟩:=w.st.hru.ex
 intro b hb
 simp only [O58,yAE,yBC,or_false] at hb
 rcases hb with rfl | rfl | rfl | rfl | rfl | rfl | rfl | rfl
 .exact .inr ⟨_,_,_,e1⟩
 .exact .inl ⟨_,w.pa.hfs⟩
 .exact .inl ⟨_,w.pa.hod⟩
 .exact .inl ⟨_,w.pa.hgr⟩
 .exact .inr ⟨_,_,_,e2⟩
 .exact .inl ⟨_,h6⟩
 .exact .inl ⟨_,w.st.hrl⟩
 .exact .inr ⟨_,_,_,e3⟩
theorem ZEf {S S':List Addr} {X Y:Hp} (h:Fr S X Y) (k:∀ b∈S,b∈S'):Fr S' X Y:=fun b o n hb=>h b o (fun z=>n (k b z)) hb
theorem m7_58 {ak rl ru tl x fs od gr:Addr}:∀ b∈[x,fs,od,gr,ak,tl,tl],b∈O58 ak rl ru tl x fs od gr:=fun b hb=>by
 simp only [O58,yAE,yBC,or_false] at hb ⊢
 rcases hb with h | h | h | h | h | h | h <;> simp [h]
theorem m3_58 {ak rl ru tl x fs od gr:Addr}:∀ b∈[ak,tl,tl],b∈O58 ak rl ru tl x fs od gr:=fun b hb=>by
 simp only [O58,yAE,yBC,or_false] at hb ⊢
 rcases hb with h | h | h <;> simp [h]
structure J58 (CA:Addr) (CR:RuM) (CP:Addr) (X0 X:Hp) (ks:List Int) (xs:RowC) (ak rl ru tl g x fs od gr bk rm rv tm gg y fs2 od2 gr2:Addr) (ls s e:Nat) (pr1 pr2:List (Nat×Nat)) (k2 r:Nat) (oa1 oa2:List Addr) (ps:List (Nat×List Nat)) (gs:List Nat):Prop where
 fr:Fr (O58 ak rl ru tl x fs od gr++O58 bk rm rv tm y fs2 od2 gr2) X0 X
 w1:P58 .non CA CR CP X ks xs ak rl ru tl g x fs od gr pr1 ls s e r oa1 ps gs
 w2:P58 (.int (k2:Nat)) CA CR CP X ks xs bk rm rv tm gg y fs2 od2 gr2 pr2 ls s e r oa2 ps gs
 pi:PInv ks s e r ps gs
 rn:Rn ks ls s e [] [] s pr1 ps gs r
 o1:∀ b∈oa1,b∉O58 bk rm rv tm y fs2 od2 gr2
 o2:∀ b∈oa2,b∉O58 ak rl ru tl x fs od gr
theorem J58.mono {CA:Addr} {CR:RuM} {CP:Addr} {X0 X Y:Hp} {ks:List Int} {xs:RowC} {ak rl ru tl g x fs od gr bk rm rv tm gg y fs2 od2 gr2:Addr} {ls s e:Nat} {pr1 pr2:List (Nat×Nat)} {k2 r:Nat} {oa1 oa2:List Addr} {ps:List (Nat×List Nat)} {gs:List Nat} (J:J58 CA CR CP X0 X ks xs ak rl ru tl g x fs od gr bk rm rv tm gg y fs2 od2 gr2 ls s e pr1 pr2 k2 r oa1 oa2 ps gs) (f:Same X Y):J58 CA CR CP X0 Y ks xs ak rl ru tl g x fs od gr bk rm rv tm gg y fs2 od2 gr2 ls s e pr1 pr2 k2 r oa1 oa2 ps gs:=⟨J.fr.trans f.fr,J.w1.mono f,J.w2.mono f,J.pi,J.rn,J.o1,J.o2⟩
theorem Stp.stn {ks:List Int} {ls s e:Nat} {ps:List (Nat×List Nat)} {gs:List Nat} {r:Nat} {k:Bool} {v1 v2 v3:Nat} {L:List (Nat×Nat)} {ps':List (Nat×List Nat)} {gs':List Nat} {r':Nat} (h:Stp ks ls s e ps gs r k v1 v2 v3 L ps' gs' r'):StN ks ls e ps gs r L.length:=by
 rcases h with ⟨_,_,A,o1,o2,o,B,j⟩ | ⟨_,f,os,l,j⟩
 .exact .inl ⟨A,v1,o1,v2,o2,B,o,L,j.e1,j.wh,j.jt,rfl⟩
 .exact .inr ⟨j.wh,j.lt,v2,f,os,l,j.by',j.put,by rw [j.e2]⟩
theorem deed_ne {K:W.Frag} {H:Hp} {t u:Addr} {k:Bool} {v1 v2 v3:Nat} {Q:VK} (h1:H t=some (.tup [kS k,.int v1,.int v2,.int v3])) (h2:H u=some (.tup [kS k,.int v1,.int v2,.int v3])) (q:Q (.bl false) H):rNeD K (.ref t) (.ref u) H Q:=by
 have dk:∀ k:Bool,∃ z:Str,kS k=.str z /\ PyData.strOk z=true:=fun k=>by cases k <;> exact ⟨_,rfl,by decide +kernel⟩
 obtain ⟨z,hz,hz2⟩:=dk k
 rw [hz] at h1 h2
 exact ZCK (d:=.tuple [.str z,.int v1,.int v2,.int v3]) (ZDO (SqT.of h1) (.cons (dp_str _) (.cons (ZCk _) (.two (ZCk _) (ZCk _))))) (ZDO (SqT.of h2) (.cons (dp_str _) (.cons (ZCk _) (.two (ZCk _) (ZCk _))))) (by unfold PyData.canLay0 PyData.canLayAll0 PyData.canLayAll0 PyData.canLayAll0 PyData.canLayAll0 PyData.canLayAll0 PyData.canLay0;rw [hz2];rfl) (by unfold PyData.depth PyData.depthAll PyData.depthAll PyData.depthAll PyData.depthAll PyData.depthAll PyData.depth;decide) q
theorem none_ne {K:W.Frag} {H:Hp} {Q:VK} (q:Q (.bl false) H):rNeD K .non .non H Q:=ZCK (d:=.none) ZEc ZEc (by unfold PyData.canLay0;rfl) (by unfold PyData.depth;decide) q
theorem span_ne {K:W.Frag} {H:Hp} {x y:Addr} {ss:List (Nat×Nat×Nat)} {ts us:List V} {Q:VK} (hx:H x=some (.lst ts)) (hy:H y=some (.lst us)) (h1:Spans H ss ts) (h2:Spans H ss us) (q:Q (.bl false) H):rNeD K (.ref x) (.ref y) H Q :=
 ZCK (d:=.list (ss.map fun c=>.tuple [.int (c.1:Nat),.int (c.2.1:Nat),.int (c.2.2:Nat)])) (ZD3 (SqL.of hx) h1.dp) (ZD3 (SqL.of hy) h2.dp) (by unfold PyData.canLay0;exact ZEm ss) (by unfold PyData.depth;have:=ZEn ss;omega) q
theorem nL_ne {K:W.Frag} {H:Hp} {x y:Addr} {ps:List Nat} {Q:VK} (hx:H x=some (.lst (nL ps))) (hy:H y=some (.lst (nL ps))) (q:Q (.bl false) H):rNeD K (.ref x) (.ref y) H Q :=
 ZEt Enc.int.list (by decide) (a:=ps.map fun (x:Nat)=>(x:Int)) (b:=ps.map fun (x:Nat)=>(x:Int)) (ZBh (SqL.of (by rw [hx,ZCv]))) (ZBh (SqL.of (by rw [hy,ZCv]))) (by rw [decide_eq_true rfl];exact q)
theorem PXl.new {mo:V} {CA:Addr} {CR:RuM} {H:Hp} {ks:List Int} {xs:RowC} {a rl ru tl g x fs od gr:Addr} {pr:List (Nat×Nat)} (st:SitL mo CA CR H ks xs a rl ru tl g tl pr) (nx:H x=none) (nfs:H fs=none) (nod:H od=none) (ngr:H gr=none):PXl a rl ru tl tl x fs od gr [] :=
 ⟨⟨st.newS nx,st.newS nfs,st.newS nod,st.newS ngr⟩,fun b hb=>(by cases hb),fun z=>by
  rcases yAE.mp z with z | z
  .exact ZAC st.hrl nfs z
  rcases yAE.mp z with z | z
  .exact ZAC st.hrl nod z
  .exact ZAC st.hrl ngr (yAS.mp z),by
  obtain ⟨d1,f1,e1,_⟩:=st.hru.ex
  exact ZAC e1 nx⟩
theorem Things.zz {H:Hp} {ks:List Int} {xs:List V} (h:Things H ks xs):∃ zz:List PrA,xs=zz.map (fun z=>V.ref z.1) /\ zz.length=ks.length /\ ∀ (i:Nat) z,zz[i]?=some z->z.2=(kat ks i,(i:Int)) /\ H z.1=some (.tup [.int (kat ks i),.int i]):=by
 have key:∀ n,n <= ks.length->∃ zz:List PrA,xs.take n=zz.map (fun z=>V.ref z.1) /\ zz.length=n /\ ∀ (i:Nat) z,zz[i]?=some z->z.2=(kat ks i,(i:Int)) /\ H z.1=some (.tup [.int (kat ks i),.int i]):=by
  intro n
  induction n with
  | zero=>intro _;exact ⟨[],rfl,rfl,fun i z e=>by simp at e⟩
  | succ n ih=>
   intro hn
   obtain ⟨zz,a1,a2,a3⟩:=ih (by omega)
   obtain ⟨r,b1,b2⟩:=h.2 n _ (yAL (show n < ks.length by omega))
   have ek:ks[n]=kat ks n:=by unfold kat;rw [yAL (show n < ks.length by omega)];rfl
   rw [ek] at b2
   refine ⟨zz++[(r,kat ks n,(n:Int))],?_,by rw [yAB,a2];rfl,fun i z e=>?_⟩
   .rw [List.take_add_one,b1,a1,yAN]
    rfl
   .by_cases hi:i < zz.length
    .rw [yBH hi] at e
     exact a3 i z e
    .have h1:=(yAH.mp e).1
     rw [yAB,yAT] at h1
     have:i=n:=by omega
     subst this
     rw [yBA (by omega),show i-zz.length=0 by omega] at e
     cases e
     exact ⟨rfl,b2⟩
 obtain ⟨zz,a1,a2,a3⟩:=key ks.length (yAA _)
 rw [yBQ (by rw [h.1];exact yAA _)] at a1
 exact ⟨zz,a1,a2,a3⟩
theorem nL_eq {K:W.Frag} {H:Hp} {x y:Addr} {ps:List Nat} {Q:VK} (hx:H x=some (.lst (nL ps))) (hy:H y=some (.lst (nL ps))) (q:Q (.bl true) H):rEqD K (.ref x) (.ref y) H Q :=
 eqD_of Enc.int.list (by decide) (a:=ps.map fun (x:Nat)=>(x:Int)) (b:=ps.map fun (x:Nat)=>(x:Int)) (ZBh (SqL.of (by rw [hx,ZCv]))) (ZBh (SqL.of (by rw [hy,ZCv]))) (by rw [decide_eq_true rfl];exact q)
theorem tld_ne {K:W.Frag} {H:Hp} {t u l l2:Addr} {ps:List Nat} {Q:VK} (h1:H t=some (.tup [.bl false,.ref l])) (h2:H u=some (.tup [.bl false,.ref l2])) (hl:H l=some (.lst (nL ps))) (hl2:H l2=some (.lst (nL ps))) (q:Q (.bl false) H):rNeD K (.ref t) (.ref u) H Q:=by
 have dp:∀ {t l:Addr},H t=some (.tup [.bl false,.ref l])->H l=some (.lst (nL ps))->Dp K H (.tuple [.bool false,.list ((ps.map fun (n:Nat)=>(n:Int)).map PyData.int)]) (.ref t):=fun ht hl=>ZDO (SqT.of ht) (.two (ZFT _) (ZBh (SqL.of (by rw [hl,ZCv]))))
 refine ZCK (dp h1 hl) (dp h2 hl2) ?_ ?_ q
 .unfold PyData.canLay0 PyData.canLayAll0 PyData.canLayAll0 PyData.canLayAll0
  have:=Enc.int.list.lay (ps.map fun (n:Nat)=>(n:Int))
  rw [this]
  unfold PyData.canLay0
  rfl
 .unfold PyData.depth PyData.depthAll PyData.depthAll PyData.depthAll
  have h1:=Enc.int.list.dep (ps.map fun (n:Nat)=>(n:Int))
  have h2:(PyData.bool false).depth <= 60:=by unfold PyData.depth;decide
  omega
theorem spent_ne {K:W.Frag} {H:Hp} {t u:Addr} {Q:VK} (h1:H t=some (.tup [.bl true,.non])) (h2:H u=some (.tup [.bl true,.non])) (q:Q (.bl false) H):rNeD K (.ref t) (.ref u) H Q :=
 ZCK (d:=.tuple [.bool true,.none]) (ZDO (SqT.of h1) (.two (ZFT _) ZEc)) (ZDO (SqT.of h2) (.two (ZFT _) ZEc)) (by unfold PyData.canLay0 PyData.canLayAll0 PyData.canLayAll0 PyData.canLayAll0 PyData.canLay0;rfl) (by unfold PyData.depth PyData.depthAll PyData.depthAll PyData.depthAll PyData.depth;decide) q
theorem flt_fin {ks:List Int} {s e r:Nat} {ps:List (Nat×List Nat)} {gs:List Nat} (i:PInv ks s e r ps gs) (f:Fin' e ps gs r):(flt ps).Pairwise (lx ks) /\ ∀ x,x∈flt ps↔s <= x /\ x < e:=by
 obtain ⟨_,hr,hl⟩:=f
 have ch:=i.ch
 rcases ps with _ | ⟨⟨v,o⟩,_ | ⟨_,_⟩⟩
 .have h:s=r:=ch
  exact ⟨.nil,fun x=>⟨fun z=>(by cases z),fun z=>(by omega)⟩⟩
 rotate_left
 .exact absurd hl (by simp)
 .obtain ⟨h1,m,h2,h3,h4⟩:=ch
  have h4:m=r:=h4
  have e1:flt [(v,o)]=o:=by unfold flt;simp
  rw [e1]
  exact ⟨h3.srt,fun x=>by rw [h3.mem];omega⟩
section
variable {P:Program} {w:World} {K:W.Frag} {mg:Str->Option Value} {base:Heap} {C_Join C_Pile C_Asker C_AskedRule C_HallError C_Spent:Addr}
theorem ok_Spent_init {f:Addr} {fd:FuncData} (F:Fun K "__init__" "Spent.__init__" ZA7 f fd) (T:Bt K mg C_Join C_Pile C_Asker C_AskedRule C_HallError C_Spent)
 :FnOk P w K mg base CX0 1 f fd ["self","asked"] (ZCS C_Spent):=by
 refine F.ok sc_Spent_init (fun vs H Q E h=>?_) (fun cdv A outer s H vs Q E hr h=>?_)
 .obtain ⟨e,n,rfl,he,hn,q⟩:=h
  rfl
 obtain ⟨e,n,rfl,he,hn,q⟩:=h
 refine ⟨_,(ZAB (ZAi (pe_clsV T.xb_HallError T.m_HallError rfl (ZAA (pv 0) (ZAA (pe_fs1 ZDN (pv 1)) ZAD))))
  (ZAH (ps_xfld (pv 0) (pv 1) rfl))),?_⟩
 walk_at "rd"
 exact ⟨hn,fun y=>⟨e,_,none,_,rfl,he,T.xi_Spent,e,_,none,rfl,he,T.xk_Spent,T.n_Spent_asked,.inl ⟨rfl,fun d hd hde=>q d hd hde⟩⟩⟩
theorem ok_Asker_widen {f:Addr} {fd:FuncData} (F:Fun K "widen" "Asker.widen" ZA1 f fd) (T:Bt K mg C_Join C_Pile C_Asker C_AskedRule C_HallError C_Spent)
 :FnOk P w K mg base CX0 1 f fd ["self","more"] (ZD8 C_Asker):=by
 refine F.ok sc_Asker_widen (fun vs H Q E h=>?_) (fun cdv A outer s H vs Q E hr h=>?_)
 .obtain ⟨a,rl,ru,tl,m,n,i,rfl,ha,hm,q⟩:=h
  rfl
 obtain ⟨a,rl,ru,tl,m,n,i,rfl,ha,hm,q⟩:=h
 refine ⟨_,(ZAH (ZBS (ZAS ZDj (ZAN (pv 0) rfl) ZBz (ZAV _))
  (ZAH (ps_fldaug (pv 0) (pv 1) in_add)) ZAe)),?_⟩
 walk_at "rd"
 refine ha.get T.cl_Asker T.n_Asker_most (by walk_at "lk") ?_
 rcases hm with rfl | ⟨k,rfl⟩
 .rw [if_neg (by simp)]
  exact q H (fun _ _=>rfl) ha
 .rw [if_pos (by simp)]
  refine insAugV ha (j:=i) T.cl_Asker T.n_Asker_most (by walk_at "lk") (fun Q h=>by walk_at "rd";exact h) fun H2 ha2 k2=>?_
  walk_at "rd"
  exact q H2 k2 (ha2.congr fA_most)
theorem ok_first {f:Addr} {fd:FuncData} (F:Fun K "_law_first" "_law_first" ZCs f fd) (T:Bt K mg C_Join C_Pile C_Asker C_AskedRule C_HallError C_Spent)
 :FnOk P w K mg base CX0 1 f fd ["_law_one","_law_other"] (ZCp):=by
 refine F.ok sc_first (fun vs H Q E h=>?_) (fun cdv A outer s H vs Q E hr h=>?_)
 .obtain ⟨x,y,k,k2,i,j,rfl,hx,hy,q⟩:=h
  rfl
 obtain ⟨x,y,k,k2,i,j,rfl,hx,hy,q⟩:=h
 refine ⟨_,(ZAH (ZAX (ZCV ZDH (ZAu ZBd (pv 0) ZAF (fun _ _=>rfl)) (ZAu ZBd (pv 1) ZAF (fun _ _=>rfl)) (ZAV _)))),?_⟩
 walk_at "rd"
 exact ZBe (SqT.of hx) (ZAv (by decide) rfl) (ZBe (SqT.of hy) (ZAv (by decide) rfl) ⟨_,_,rfl,rfl,q⟩)
theorem ok_Asker_init {f:Addr} {fd:FuncData} {dv:List Value} (F:FunD K "__init__" "Asker.__init__" ZBB f fd dv) (T:Bt K mg C_Join C_Pile C_Asker C_AskedRule C_HallError C_Spent)
 :FnOk P w K mg base CX0 1 f fd ["self","row","rule","most"] (ZBL C_Asker):=by
 refine F.ok sc_Asker_init (fun vs H Q E h=>?_) (fun cdv A outer s H vs Q E hr h=>?_)
 .obtain ⟨x,dx,r,ru,m,xs,rfl,hx,hr',q⟩:=h
  rfl
 obtain ⟨x,dx,r,ru,m,xs,rfl,hx,hr',q⟩:=h
 refine ⟨_,(ZAB (ZBE (pv 0) (ZA6 ZBC rfl T.b_list PyProof.Rows.boot_list (ZAA (pv 1) ZAD)) rfl)
  (ZAB (ZBE (pv 0) (pv 2) rfl)
  (ZAB (ZBE (pv 0) (pv 3) rfl)
  (ZAB (ZBE (pv 0) ZAF rfl)
  (ZAH (ZBE (pv 0) (ZBK ZAD) rfl)))))),?_⟩
 walk_at "rd"
 refine ⟨r,xs,rfl,.inl (SqL.of hr'),fun rl hrl=>?_⟩
 have hxr:x≠rl:=ZAC hx hrl
 obtain ⟨H1,e1,s1,h1⟩:=newH hrl (.lst xs)
 rw [e1];clear e1
 refine setX (s1 _ _ hx) T.cl_Asker T.n_Asker_row (by decide) fun H2 x2 k2=>?_
 walk_at "rd"
 refine setX x2 T.cl_Asker T.n_Asker_rule ZE5 fun H3 x3 k3=>?_
 walk_at "rd"
 refine setX x3 T.cl_Asker T.n_Asker_most ZE4 fun H4 x4 k4=>?_
 walk_at "rd"
 refine setX x4 T.cl_Asker T.n_Asker_asked ZE3 fun H5 x5 k5=>?_
 walk_at "rd"
 refine ⟨ZAU (by decide),fun tl htl=>?_⟩
 obtain ⟨H6,e6,s6,h6⟩:=newH htl (.lst [])
 rw [e6];clear e6
 have hxt:x≠tl:=ZAC x5 htl
 refine setX (s6 _ _ x5) T.cl_Asker T.n_Asker_told ZFL fun H7 x7 k7=>?_
 have up:∀ b o,b≠x->H b=some o->H5 b=some o:=fun b o n e=>by rw [k5 b n,k4 b n,k3 b n,k2 b n];exact s1 b o e
 have h5:H5 rl=some (.lst xs):=by rw [k5 rl (Ne.symm hxr),k4 rl (Ne.symm hxr),k3 rl (Ne.symm hxr),k2 rl (Ne.symm hxr)];exact h1
 refine q rl tl H7 (fun b o n e=>by rw [k7 b n];exact s6 _ _ (up b o n e)) hrl ?_ (ZAC h5 htl) ((Ins.of x7 (yAK putL5 (by decide))).congr fA_canon) (by rw [k7 rl (Ne.symm hxr)];exact s6 _ _ h5) (by rw [k7 tl (Ne.symm hxt)];exact h6)
 cases e:H tl with
 | none=>rfl
 | some o=>rw [up tl o (Ne.symm hxt) e] at htl;cases htl
theorem ok_Asker_many {f:Addr} {fd:FuncData} (F:Fun K "many" "Asker.many" ZBA f fd) (T:Bt K mg C_Join C_Pile C_Asker C_AskedRule C_HallError C_Spent)
 :FnOk P w K mg base CX0 1 f fd ["self"] (ZDx C_Asker):=by
 refine F.ok sc_Asker_many (fun vs H Q E h=>?_) (fun cdv A outer s H vs Q E hr h=>?_)
 .obtain ⟨a,rl,ru,tl,m,n,xs,rfl,ha,hrl,q⟩:=h
  rfl
 obtain ⟨a,rl,ru,tl,m,n,xs,rfl,ha,hrl,q⟩:=h
 refine ⟨_,(ZAH (ZAX (ZAQ ZAL rfl T.b_len PySem.boot_len (ZAA (ZAN (pv 0) rfl) ZAD)))),?_⟩
 walk_at "rd"
 refine ha.get T.cl_Asker T.n_Asker_row (by walk_at "lk") ⟨rl,xs,rfl,.inl (SqL.of hrl),q⟩
theorem ok_AskedRule_init {f:Addr} {fd:FuncData} (F:Fun K "__init__" "AskedRule.__init__" ZAp f fd) (T:Bt K mg C_Join C_Pile C_Asker C_AskedRule C_HallError C_Spent)
 :FnOk P w K mg base CX0 1 f fd ["self","teller"] (ZCC C_AskedRule):=by
 refine F.ok sc_AskedRule_init (fun vs H Q E h=>?_) (fun cdv A outer s H vs Q E hr h=>?_)
 .obtain ⟨x,dx,g,rfl,hx,q⟩:=h
  rfl
 obtain ⟨x,dx,g,rfl,hx,q⟩:=h
 refine ⟨_,(ZAH (ZBE (pv 0) (pv 1) rfl)),?_⟩
 walk_at "rd"
 refine setX hx T.cl_AskedRule T.n_AskedRule_teller (by decide) fun H2 x2 k2=>?_
 exact q H2 (fun b o n e=>by rw [k2 b n];exact e) ((Ins.of x2 (yAK ZE5 (by decide))).congr fun f=>by simp only [ZAW,lkc])
theorem ok_AskedRule_before {f:Addr} {fd:FuncData} (F:Fun K "before" "AskedRule.before" ZAc f fd) (T:Bt K mg C_Join C_Pile C_Asker C_AskedRule C_HallError C_Spent)
  (f_first:Fn P w K mg base CX0 "_law_first" 1 ["_law_one","_law_other"] (ZCp))
 :FnOk P w K mg base CX0 2 f fd ["self","x","y"] (ZCy C_AskedRule (ZBw mg)):=by
 refine F.ok sc_AskedRule_before (fun vs H Q E h=>?_) (fun cdv A outer s H vs Q E hr h=>?_)
 .obtain ⟨ru,g,x,y,rfl,hru,q⟩:=h
  rfl
 obtain ⟨ru,g,x,y,rfl,hru,q⟩:=h
 refine ⟨_,(ZAB (ZAJ (i:=3) sc_AskedRule_before.nd rfl (by walk_at "o") (ZAN (pv 0) rfl))
  (ZAH (ZAX (pe_callG f_first (hr.mono (by decide)) ZAY (pv 3) (ZAA (pv 1) (ZAA (pv 2) ZAD)))))),?_⟩
 walk_at "rd"
 refine hru.get T.cl_AskedRule T.n_AskedRule_teller (by walk_at "lk") ?_
 exact q
theorem ok_Asker_ahead {f:Addr} {fd:FuncData} (F:Fun K "ahead" "Asker.ahead" ZA2 f fd) (T:Bt K mg C_Join C_Pile C_Asker C_AskedRule C_HallError C_Spent)
  (t_AskedRule_before:Mt P w K mg base CX0 C_AskedRule "before" 2 ["self","x","y"] (ZCy C_AskedRule (ZBw mg)))
  (kx_Spent:XKl P w K mg base CX0 "Spent" C_Spent 1 ["self","asked"] (ZCS C_Spent))
 :FnOk P w K mg base (CXE P w) 3 f fd ["self","p","q"] (ZCT C_Asker C_AskedRule C_Spent (ZBw mg)):=by
 refine F.okX sc_Asker_ahead (fun vs H Q E h=>?_) (fun cdv A outer s H vs Q E hr h=>?_)
 .obtain ⟨a,rl,ru,tl,m,n,p,q,rfl,ha,hn,hc⟩:=h
  rfl
 obtain ⟨a,rl,ru,tl,m,n,p,q,rfl,ha,hn,hc⟩:=h
 refine ⟨_,(ZAB (ZBS (PW.pt (ZC7 (ZAS ZDj (ZAN (pv 0) rfl) ZBz (ZAV _)) (ZCU (ZAS op_ge (ZAN (pv 0) rfl) (ZAN (pv 0) rfl) (ZAV _)))))
  (ZAH (ps_raiseK kx_Spent (hr.mono (by decide)) rfl ZAY (ZAA (ZAN (pv 0) rfl) ZAD))) ZAe)
  (ZAT
  (ZAB (PS.nox (ZAJ (i:=3) sc_Asker_ahead.nd rfl (by walk_at "o") (ZAQ (call_max2 rfl) rfl T.b_max PyProof.Rows.boot_max (ZAA (pv 1) (ZAA (pv 2) ZAD)))))
  (ZAB (PS.nox (ZAJ (i:=4) sc_Asker_ahead.nd rfl (by walk_at "o") (ZAQ (ZCA rfl) rfl T.b_min PyProof.Rows.boot_min (ZAA (pv 1) (ZAA (pv 2) ZAD)))))
  (ZAB (PS.nox (ZAJ (i:=5) sc_Asker_ahead.nd rfl (by walk_at "o") (ZBT t_AskedRule_before (hr.mono (by decide)) ZAY (ZAN (pv 0) rfl) (ZAA (ZAu ZAf (ZAN (pv 0) rfl) (pv 3) (fun _ _=>rfl)) (ZAA (ZAu ZAf (ZAN (pv 0) rfl) (pv 4) (fun _ _=>rfl)) ZAD)))))
  (ZAT
  (ZAB (PS.nox (ps_fldaug (pv 0) ZAF in_add))
  (ZAB (PS.nox (ZAi (ZCt PySem.F.plainAttrs_list PySem.F.slot_list_append PySem.F.type_list_append ZB2 (ZAN (pv 0) rfl) (ZAA (ZBJ (ZAA (pv 3) (ZAA (pv 4) (ZAA (pv 5) ZAD)))) ZAD))))
  (ZAH (PS.nox (ZAX (ZBZ (ZAS ZCu (pv 1) (pv 3) (ZAV _)) (pv 5) (pe_not (pv 5)))))))))))))),?_⟩
 walk_at "rd"
 rcases hc with ⟨k,hk0,hk,hE⟩ | ⟨hm,hc⟩
 .refine ha.get T.cl_Asker T.n_Asker_most (by walk_at "lk") ?_
  rw [if_pos (by rw [hk0];simp)]
  refine ha.get T.cl_Asker T.n_Asker_asked (by walk_at "lk") (ha.get T.cl_Asker T.n_Asker_most (by walk_at "lk") ⟨_,_,rfl,hk0,_,rfl,?_⟩)
  rw [if_pos (by simpa using hk)]
  refine ha.get T.cl_Asker T.n_Asker_asked (by walk_at "lk") ⟨by decide,fun e he=>⟨e,n,rfl,ZAG,hn,fun d hd hde=>⟨rfl,some d,ZAG,?_⟩⟩⟩
  have hdH:H d=none:=by rw [ZAI hde] at hd;exact hd
  refine hE d _ (fun b o hb=>?_) hdH ?_
  .rw [ZBG (ZAC hb he),ZAI (ZAC hb he),ZAI (ZAC hb hdH),ZAI (ZAC hb he)];exact hb
  .rw [ZBG hde,ZAI hde,ZAG]
 apply ZFN
 .intro tailp
  refine ha.get T.cl_Asker T.n_Asker_most (by walk_at "lk") ?_
  rcases hm with hm | ⟨k,hm,hk⟩
  .rw [if_neg (by rw [hm];simp)]
   exact tailp
  .rw [if_pos (by rw [hm];simp)]
   refine ha.get T.cl_Asker T.n_Asker_asked (by walk_at "lk") (ha.get T.cl_Asker T.n_Asker_most (by walk_at "lk") ⟨_,_,rfl,hm,_,rfl,?_⟩)
   rw [if_neg (by simp;omega)]
   exact tailp
 obtain ⟨xs,ts,x,y,hrl,hpq,hp0,hq0,hx,hy,hb⟩:=hc
 obtain ⟨ru',g,x',y',e,hru,hrT⟩:=hb
 cases e
 refine ZAa ?_
 walk_at "rd"
 refine ⟨p,q,rfl,p,q,rfl,ha.get T.cl_Asker T.n_Asker_rule (by walk_at "lk") (hru.meth (by walk_at "lk") ?_)⟩
 rw [mx_eq,ZE7]
 refine ha.get T.cl_Asker T.n_Asker_row (by walk_at "lk") (ZAx (SqL.of hrl) (ZAv (by omega) hx) ?_)
 refine ha.get T.cl_Asker T.n_Asker_row (by walk_at "lk") (ZAx (SqL.of hrl) (ZAv (by omega) hy) ?_)
 refine ⟨ru,g,x,y,rfl,hru,rT_mono (fun v H1 h=>?_) hrT⟩
 obtain ⟨b,rfl,ha1,htl1,hts,hq⟩:=h
 have nta:tl≠a:=ha1.ne htl1 fun _ _ _ z=>by cases z
 refine ZAa ?_
 walk_at "rd"
 refine ha1.aug T.cl_Asker T.n_Asker_asked (by walk_at "lk") fun H2 ha2 k2=>?_
 have ha2':=ha2.congr fA_asked
 have htl2:H2 tl=some (.lst ts):=by rw [k2 tl nta];exact htl1
 walk_at "rd"
 refine ha2'.get T.cl_Asker T.n_Asker_told (by walk_at "lk") ?_
 walk_at "rd"
 refine ⟨.inl ⟨rfl,_,SqL.of htl2⟩,ZAU (by decide),fun t ht=>?_⟩
 have ntt:t≠tl:=fun z=>by rw [z,htl2] at ht;cases ht
 have nat':t≠a:=ha2'.neN ht
 refine ⟨tl,ts,_,rfl,rfl,ZAK ht _ _ _ htl2,smallL (by omega),?_⟩
 have fin:=hq t (upd (upd H2 t (.tup [.int (max p q),.int (min p q),.bl b])) tl (.lst (ts++[.ref t]))) (by rw [<- k2 t nat'];exact ht) (ha2'.keep (by rw [ZAI (Ne.symm nta),ZAI (Ne.symm nat')])) ZAG (by rw [ZAI ntt,ZAG]) (fun c h1 h2 h3=>by rw [ZAI h2,ZAI h3,k2 c h1])
 by_cases hlt:q < p
 .rw [if_pos hlt] at fin
  show (if _ then _ else _)
  rw [if_pos (by omega)]
  exact fin
 .rw [if_neg hlt] at fin
  show (if _ then _ else _)
  rw [if_neg (by omega)]
  exact fin
theorem ok_stretch_from {f:Addr} {fd:FuncData} {dv:List Value} (F:FunD K "stretch_from" "stretch_from" ZAy f fd dv) (T:Bt K mg C_Join C_Pile C_Asker C_AskedRule C_HallError C_Spent)
  (t_Asker_ahead:Mt P w K mg base (CXE P w) C_Asker "ahead" 3 ["self","p","q"] (ZCT C_Asker C_AskedRule C_Spent (ZBw mg)))
  (t_Asker_many:Mt P w K mg base CX0 C_Asker "many" 1 ["self"] (ZDx C_Asker))
 :FnOk P w K mg base (CXE P w) 4 f fd ["asker","first","end"] (ZCo C_Asker (RuM.mk C_AskedRule mg) C_Spent):=by
 refine F.okX sc_stretch_from (fun vs H Q E h=>?_) (fun cdv A outer s H vs Q E hr h=>?_)
 .obtain ⟨mo,ks,xs,a,rl,ru,tl,g,lg,pr,first,stop,e,rfl,st,he,hf,hstop,hk,hpr,ex,q⟩:=h
  rfl
 obtain ⟨mo,ks,xs,a,rl,ru,tl,g,lg,pr,first,stop,e,rfl,st,he,hf,hstop,hk,hpr,ex,q⟩:=h
 refine ⟨_,(ZAB (PS.nox (ZAJ (i:=3) sc_stretch_from.nd rfl (by walk_at "o") (ZBZ (ZAS ZEV (pv 2) ZBz (ZAV _)) (ZBF t_Asker_many (hr.mono (by decide)) ZAY (pv 0)) (pv 2))))
  (ZAT
  (ZAB (PS.nox (ZAJ (i:=4) sc_stretch_from.nd rfl (by walk_at "o") (ZAO ZAj (pv 1) ZAF)))
  (ZAB (PS.nox (ZBS (ZAS op_ge (pv 4) (pv 3) (ZAV _))
  (ZAH (ZAX (ZBJ (ZAA (pv 4) (ZAA ZDG ZAD))))) ZAe))
  (ZAB (ZAJ (i:=5) sc_stretch_from.nd rfl (by walk_at "o") (ZBT t_Asker_ahead (hr.mono (by decide)) ZDh (pv 0) (ZAA (pv 4) (ZAA (pv 1) ZAD))))
  (ZAB (PS.nox (ZEU (i:=4) sc_stretch_from.nd rfl (by walk_at "o") ZAF ZEZ))
  (ZAB (PS.inX (ZBY (ZEF ⟨rfl,rfl⟩) (PW.pt (ZC7 (ZAS ZDH (pv 4) (pv 3) (ZAV _)) (ZCU (ZAS ZCu (ZBT t_Asker_ahead (hr.mono (by decide)) ZD0 (pv 0) (ZAA (pv 4) (ZAA (ZAO ZB0 (pv 4) ZAF) ZAD))) (pv 5) (ZAV _)))))
  (ZAH (ZEU (i:=4) sc_stretch_from.nd rfl (by walk_at "o") ZAF ZEZ))))
  (ZAH (PS.nox (ZAX (ZBJ (ZAA (pv 4) (ZAA (pv 5) ZAD))))))))))))),?_⟩
 walk_at "rd"
 apply ZFN
 .intro tailp
  rcases he with ⟨he1,es⟩ | he2
  .rw [if_pos he1]
   refine st.ha.meth (by walk_at "lk") ⟨a,rl,ru,tl,mo,_,xs.v,rfl,st.ha,st.hrl,?_⟩
   walk_at "rd"
   rw [st.len,<- es]
   exact tailp
  .subst he2
   rw [if_neg (by simp)]
   walk_at "rd"
   exact tailp
 refine ZAa ?_
 walk_at "rd"
 by_cases h1:first+1=stop
 .rw [if_pos (by omega)]
  refine ⟨ZAU (by decide),fun t ht=>q _ t (first+1) false (ZAK ht _).fr ZAG (.inl ⟨h1,h1,rfl⟩) ?_⟩
  rw [show asks first (min (first+1+1) stop)=[] from asks_none (by omega),yAQ]
  exact st.mono (ZAK ht _)
 rw [if_neg (by omega)]
 refine st.ha.meth (by walk_at "lk") ?_
 rw [show ((first:Int)+1)=((first+1:Nat):Int) by omega]
 refine st.ahead (p:=first+1) (q:=first) (by omega) (by omega) (by omega) (by omega) (ex.sub .refl fun n hn=>str_first (by omega) hn) fun H1 f1 s1=>?_
 rw [if_pos (by omega)]
 refine ZBV (fun m σ H'=>∃ (k:Nat) (v2:Option V),m=stop-k /\ σ=[some (.ref a),some (.int first),v2,some (.int stop),some (.int k),some (.bl (dec ks (first+1)))] /\ first+1 < k /\ k <= stop /\ Fr [a,lg,tl] H H' /\ SitL mo C_Asker (RuM.mk C_AskedRule mg) H' ks xs a rl ru tl g lg (pr++asks first k) /\ ∀ i,first+1 <= i->i < k->dec ks i=dec ks (first+1)) ⟨_,first+2,_,rfl,rfl,by omega,by omega,f1,?_,fun i h1 h2=>by rw [show i=first+1 by omega]⟩ ?_
 .rw [show asks first (first+2)=[(first+1,first)] by rw [show first+2=(first+1)+1 from rfl,asks_snoc (yAA _),asks_none (yAA _)];rfl]
  rw [show max (first+1) first=first+1 by omega,show min (first+1) first=first by omega] at s1
  exact s1
 rintro m σ H' ⟨k,v2,rfl,rfl,hk1,hk2,fr,s,hall⟩
 walk_at "rd"
 have hlen:(pr++asks first k).length <= 80000:=by rw [yAB,ZBu];omega
 by_cases hks:k < stop
 .rw [if_pos (by omega)]
  refine s.ha.meth (by walk_at "lk") ?_
  rw [show ((k:Int)-1)=((k-1:Nat):Int) by omega]
  refine s.ahead (p:=k) (q:=k-1) (by omega) (by omega) (by omega) hlen (ex.sub fr fun n hn=>str_more hk1 hks hall hn) fun H2 f2 s2=>?_
  rw [if_pos (by omega)]
  rw [show max k (k-1)=k by omega,show min k (k-1)=k-1 by omega,yAJ,<- asks_snoc (by omega)] at s2
  walk_at "rd"
  by_cases hd:dec ks k=dec ks (first+1)
  .rw [if_pos (show decide (kat ks k < kat ks (k-1))=dec ks (first+1) from hd)]
   refine ZBW ?_
   walk_at "rd"
   exact ⟨stop-(k+1),by omega,k+1,_,rfl,by rw [show ((k:Int)+1)=((k+1:Nat):Int) by omega],by omega,by omega,fr.trans f2,s2,fun i h1 h2=>by
    by_cases z:i=k
    .rw [z];exact hd
    .exact hall i h1 (by omega)⟩
  .rw [if_neg (show ¬ decide (kat ks k < kat ks (k-1))=dec ks (first+1) from hd)]
   refine ⟨ZAU (by decide),fun t ht=>q _ t k _ (fr.trans (f2.trans (ZAK ht _).fr)) ZAG (.inr ⟨by omega,rfl,hk1,hk2,hall,fun _=>hd⟩) ?_⟩
   rw [show min (k+1) stop=k+1 by omega]
   exact s2.mono (ZAK ht _)
 .rw [if_neg (by omega)]
  walk_at "rd"
  refine ⟨ZAU (by decide),fun t ht=>q _ t k _ (fr.trans (ZAK ht _).fr) ZAG (.inr ⟨by omega,rfl,hk1,hk2,hall,fun z=>absurd z hks⟩) ?_⟩
  rw [show min (k+1) stop=k by omega]
  exact s.mono (ZAK ht _)
theorem ok_in_turn {f:Addr} {fd:FuncData} (F:Fun K "in_turn" "in_turn" ZBl f fd) (T:Bt K mg C_Join C_Pile C_Asker C_AskedRule C_HallError C_Spent)
 :FnOk P w K mg base CX0 1 f fd ["first","beyond","falling"] (ZDY):=by
 refine F.ok sc_in_turn (fun vs H Q E h=>?_) (fun cdv A outer s H vs Q E hr h=>?_)
 .obtain ⟨first,j,f,rfl,hf,hj,q⟩:=h
  rfl
 obtain ⟨first,j,f,rfl,hf,hj,q⟩:=h
 refine ⟨_,(ZAB (ZAJ (i:=3) sc_in_turn.nd rfl (by walk_at "o") (ZA6 (call_list_rng rfl) rfl T.b_list PyProof.Rows.boot_list (ZAA (ZA6 call_rng2 rfl T.b_range PyProof.Rows.boot_range (ZAA (pv 0) (ZAA (pv 1) ZAD))) ZAD)))
  (ZAB (ZBS (ZCd (pv 2))
  (ZAH (ZAi (pe_bm0 PySem.F.plainAttrs_list PySem.F.slot_list_reverse PySem.F.type_list_reverse mt_reverse (pv 3)))) ZAe)
  (ZAH (ZAX (pv 3))))),?_⟩
 walk_at "rd"
 refine ⟨first,j,rfl,fun p hp=>⟨p,first,j,rfl,ZAG,by omega,fun l hl=>?_⟩⟩
 have S:Same H (upd (upd H p (.rng first j)) l (.lst ((ZDE (first:Int) (j:Int)).map V.int))):=((Same.refl H).new hp).new hl
 have hn:H l=none:=((Same.refl H).new hp).free hl
 rw [rints_nat] at S ⊢
 cases f with
 | true=>
  rw [if_pos rfl]
  refine ⟨.inl ⟨rfl,_,SqL.of ZAG⟩,l,_,rfl,rfl,ZAG,?_⟩
  rw [ZDP]
  refine q l _ (((Same.refl H).new hp).new hl) hn ?_
  rw [ZAG]
  unfold ZBX nL
  rw [if_pos rfl,List.map_reverse]
 | false=>
  rw [if_neg (by decide)]
  refine q l _ S hn ?_
  rw [ZAG]
  rfl
theorem ok_spot_of {f:Addr} {fd:FuncData} (F:Fun K "spot_of" "spot_of" ZBj f fd) (T:Bt K mg C_Join C_Pile C_Asker C_AskedRule C_HallError C_Spent)
  (t_Asker_ahead:Mt P w K mg base (CXE P w) C_Asker "ahead" 3 ["self","p","q"] (ZCT C_Asker C_AskedRule C_Spent (ZBw mg)))
 :FnOk P w K mg base (CXE P w) 4 f fd ["asker","order","place"] (ZDU C_Asker (RuM.mk C_AskedRule mg) C_Spent):=by
 refine F.okX sc_spot_of (fun vs H Q E h=>?_) (fun cdv A outer s H vs Q E hr h=>?_)
 .obtain ⟨mo,ks,xs,a,rl,ru,tl,g,lg,ol,pr,os,pl,rfl,st,hol,nol,hos,hlt',hpl,hpr,ex,q⟩:=h
  rfl
 obtain ⟨mo,ks,xs,a,rl,ru,tl,g,lg,ol,pr,os,pl,rfl,st,hol,nol,hos,hlt',hpl,hpr,ex,q⟩:=h
 refine ⟨_,(ZAB (PS.nox (ZAJ (i:=3) sc_spot_of.nd rfl (by walk_at "o") ZAF))
  (ZAB (PS.nox (ZAJ (i:=4) sc_spot_of.nd rfl (by walk_at "o") (ZAQ ZAL rfl T.b_len PySem.boot_len (ZAA (pv 1) ZAD))))
  (ZAB (PS.inX (ZBY (ZEF ⟨rfl,rfl⟩) (ZAS ZDH (pv 3) (pv 4) (ZAV _))
  (ZAB (ZAJ (i:=5) sc_spot_of.nd rfl (by walk_at "o") (ZAO ZBU (ZAO ZAj (pv 3) (pv 4)) ZAF))
  (ZAH (ZBS (ZCd (ZBT t_Asker_ahead (hr.mono (by decide)) ZD0 (pv 0) (ZAA (ZAu ZAf (pv 1) (pv 5) (fun _ _=>rfl)) (ZAA (pv 2) ZAD))))
  (ZAH (ZAJ (i:=3) sc_spot_of.nd rfl (by walk_at "o") (ZAO ZAj (pv 5) ZAF)))
  (ZAH (ZAJ (i:=4) sc_spot_of.nd rfl (by walk_at "o") (pv 5))))))))
  (ZAH (PS.nox (ZAX (pv 3))))))),?_⟩
 walk_at "rd"
 refine ⟨ol,_,rfl,.inl (SqL.of hol),?_⟩
 rw [yAC]
 refine ZBV (fun m σ H'=>∃ (low high:Nat) (v5:Option V) (dn:List (Nat×Nat)),m=high-low /\ σ=[some (.ref a),some (.ref ol),some (.int pl),some (.int low),some (.int high),v5] /\ low <= high /\ high <= os.length /\ dn.length+(high-low) <= os.length /\ Fr [a,lg,tl] H H' /\ SitL mo C_Asker (RuM.mk C_AskedRule mg) H' ks xs a rl ru tl g lg (pr++dn) /\ ∀ r l,Halv ks os pl low high r l->Halv ks os pl 0 os.length r (dn++l)) ⟨_,0,os.length,_,[],rfl,rfl,yAI _,yAA _,by simp,.refl,by rw [yAQ];exact st,fun r l h=>h⟩ ?_
 rintro m σ H' ⟨low,high,v5,dn,rfl,rfl,hlh,hho,hdn,fr,s,hh⟩
 walk_at "rd"
 by_cases hlt:low < high
 .rw [if_pos (by omega)]
  refine ZBW ?_
  walk_at "rd"
  have hm:(low+high) / 2 < os.length:=by omega
  obtain ⟨o,ho⟩:∃ o,os[(low+high) / 2]?=some o:=⟨_,yAL hm⟩
  have hop:=hlt' o (yBB ho)
  have hem:((low:Int)+high) / 2=((low+high) / 2:Nat):=by omega
  refine ⟨⟨by decide,by decide⟩,?_⟩
  rw [hem]
  refine s.ha.meth (by walk_at "lk") ?_
  refine ZAx (SqL.of (fr _ _ nol hol)) (ZDD ho) ?_
  refine s.ahead (p:=o) (q:=pl) (by omega) (by omega) hpl (by rw [yAB];omega) (ex.sub fr fun n hn=>halv_more hlt hho hh hn) fun H2 f2 s2=>?_
  rw [if_neg (by omega)]
  rw [show max o pl=pl by omega,show min o pl=o by omega,yAJ] at s2
  refine ⟨_,rfl,?_⟩
  by_cases hd:kat ks pl < kat ks o
  .rw [decide_eq_true hd,if_neg (by decide)]
   exact ⟨(low+high) / 2-low,by omega,low,(low+high) / 2,_,dn++[(pl,o)],rfl,rfl,by omega,by omega,by rw [yAB,yAT];omega,fr.trans f2,s2,fun r l h=>by rw [yAJ];exact hh _ _ (.less hlt ho hd h)⟩
  .rw [decide_eq_false hd,if_pos (by decide)]
   exact ⟨high-((low+high) / 2+1),by omega,(low+high) / 2+1,high,_,dn++[(pl,o)],rfl,rfl,by omega,by omega,by rw [yAB,yAT];omega,fr.trans f2,s2,fun r l h=>by rw [yAJ];exact hh _ _ (.more hlt ho hd h)⟩
 .rw [if_neg (by omega)]
  walk_at "rd"
  have z:=hh low [] (.done hlt)
  rw [yAQ] at z
  exact q H' low dn fr z s
theorem ok_filled {f:Addr} {fd:FuncData} {dv:List Value} (F:FunD K "filled" "filled" ZCH f fd dv) (T:Bt K mg C_Join C_Pile C_Asker C_AskedRule C_HallError C_Spent)
  (f_stretch_from:Fn P w K mg base (CXE P w) "stretch_from" 4 ["asker","first","end"] (ZCo C_Asker (RuM.mk C_AskedRule mg) C_Spent))
  (f_in_turn:Fn P w K mg base CX0 "in_turn" 1 ["first","beyond","falling"] (ZDY))
  (f_spot_of:Fn P w K mg base (CXE P w) "spot_of" 4 ["asker","order","place"] (ZDU C_Asker (RuM.mk C_AskedRule mg) C_Spent))
  (t_Asker_many:Mt P w K mg base CX0 C_Asker "many" 1 ["self"] (ZDx C_Asker))
 :FnOk P w K mg base (CXE P w) 5 f fd ["asker","first","least","end"] (ZDa C_Asker (RuM.mk C_AskedRule mg) C_Spent):=by
 refine F.okX sc_filled (fun vs H Q E h=>?_) (fun cdv A outer s H vs Q E hr h=>?_)
 .obtain ⟨mo,ks,xs,a,rl,ru,tl,g,lg,pr,first,least,stop,e,rfl,st,hprl,he,hf,hstop,hk,hls,ex,q⟩:=h
  rfl
 obtain ⟨mo,ks,xs,a,rl,ru,tl,g,lg,pr,first,least,stop,e,rfl,st,hprl,he,hf,hstop,hk,hls,ex,q⟩:=h
 refine ⟨_,(ZAB (PS.nox (ZAJ (i:=4) sc_filled.nd rfl (by walk_at "o") (ZBZ (ZAS ZEV (pv 3) ZBz (ZAV _)) (ZBF t_Asker_many (hr.mono (by decide)) ZAY (pv 0)) (pv 3))))
  (ZAT
  (ZAB (ZAJ (i:=5) sc_filled.nd rfl (by walk_at "o") (ZBD f_stretch_from (hr.mono (by decide)) rfl ZDh (ZAA (pv 0) (ZAA (pv 1) (ZAA (pv 4) ZAD)))))
  (ZAB (PS.nox (ZAJ (i:=6) sc_filled.nd rfl (by walk_at "o") (ZAu ZBd (pv 5) ZAF (fun _ _=>rfl))))
  (ZAB (PS.nox (ZAJ (i:=7) sc_filled.nd rfl (by walk_at "o") (ZBD f_in_turn (hr.mono (by decide)) rfl ZAY (ZAA (pv 1) (ZAA (pv 6) (ZAA (ZAu ZBd (pv 5) ZAF (fun _ _=>rfl)) ZAD))))))
  (ZAT
  (ZAB (PS.inX (ZET (ZEF ⟨rfl,rfl⟩) rfl (pi_range2 rfl T.b_range (ZAA (pv 6) (ZAA (ZAQ (ZCA rfl) rfl T.b_min PyProof.Rows.boot_min (ZAA (ZAO ZAj (pv 1) (pv 2)) (ZAA (pv 4) ZAD))) ZAD))) (ZBp (i:=8) sc_filled.nd rfl (by walk_at "o"))
  (ZAH (ZAi (ZCt PySem.F.plainAttrs_list PySem.F.slot_list_insert PySem.F.type_list_insert mt_insert (pv 7) (ZAA (ZBD f_spot_of (hr.mono (by decide)) rfl ZD0 (ZAA (pv 0) (ZAA (pv 7) (ZAA (pv 8) ZAD)))) (ZAA (pv 8) ZAD)))))))
  (ZAH (PS.nox (ZAX (ZBJ (ZAA (pv 6) (ZAA (pv 7) ZAD))))))))))))),?_⟩
 walk_at "rd"
 apply ZFN
 .intro tailp
  rcases he with ⟨he1,es⟩ | he2
  .rw [if_pos he1]
   refine st.ha.meth (by walk_at "lk") ⟨a,rl,ru,tl,mo,_,xs.v,rfl,st.ha,st.hrl,?_⟩
   walk_at "rd"
   rw [st.len,<- es]
   exact tailp
  .subst he2
   rw [if_neg (by simp)]
   walk_at "rd"
   exact tailp
 refine ZAa ?_
 walk_at "rd"
 refine ⟨mo,ks,xs,a,rl,ru,tl,g,lg,pr,first,stop,.int stop,rfl,st,.inr rfl,hf,hstop,hk,by omega,ex.sub .refl fun n hn=>fil_first hn,fun H1 t j f fr1 ht hb st1=>?_⟩
 have hj:first+1 <= j /\ j <= stop:=by rcases hb with ⟨z1,z2,_⟩ | ⟨_,_,z1,z2,_⟩ <;> omega
 refine ZBe (SqT.of ht) (ZAv (by decide) rfl) ?_
 refine ZBe (SqT.of ht) (ZAv (by decide) rfl) ⟨first,j,f,rfl,by omega,by omega,fun ol H2 s2 hnol hol=>?_⟩
 have st2:=st1.mono s2
 have nol:ol∉[a,lg,tl]:=by
  obtain ⟨ws,hlg,_⟩:=st1.hlg
  obtain ⟨ts,htl,_⟩:=st1.htl
  intro z
  rcases yAE.mp z with z | z
  .exact st1.ha.neN hnol z
  rcases yAE.mp z with z | z
  .rw [z,hlg] at hnol;cases hnol
  .rw [yAS.mp z,htl] at hnol;cases hnol
 have nrl:rl≠ol /\ lg≠ol /\ tl≠ol:=by
  refine ⟨ZAC st1.hrl hnol,fun z=>nol (by rw [<- z];exact yAD _ yAF),fun z=>nol (by rw [<- z];exact yAD _ (yAD _ yAF))⟩
 have hnH:H ol=none:=by
  cases z:H ol with
  | none=>rfl
  | some o=>rw [fr1 _ _ nol z] at hnol;cases hnol
 refine ZAa ?_
 walk_at "rd"
 refine ⟨_,_,rfl,?_⟩
 rw [ZE7,show min ((first:Int)+least) stop=(min (first+least) stop:Nat) by omega]
 have o0:=hb.ord
 refine forR2_of (by omega) (forR_of (fun i σ H'=>∃ (v3 v8:Option V) (os:List Nat) (dn:List (Nat×Nat)),σ=[some (.ref a),some (.int first),some (.int least),v3,some (.int stop),some (.ref t),some (.int j),some (.ref ol),v8] /\ H' ol=some (.lst (nL os)) /\ OrdN ks first (j+i) os /\ dn.length <= i * 120 /\ Fr [a,lg,tl] H H' /\ H' t=some (.tup [.int (j:Nat),.bl f]) /\ SitL mo C_Asker (RuM.mk C_AskedRule mg) H' ks xs a rl ru tl g lg (pr++(asks first (min (j+1) stop)++dn)) /\ ∀ os' l,Put ks os (j+i) (min (first+least) stop) os' l->Put ks (ZBX first j f) j (min (first+least) stop) os' (dn++l)) ⟨_,_,ZBX first j f,[],rfl,hol,o0,by simp,fr1.trans s2.fr,s2 _ _ ht,by rw [yAQ];exact st2,fun os' l h=>h⟩ ?_ ?_)
 .rintro i σ H' hi ⟨v3,v8,os,dn,rfl,hol',ho,hdn,fr,ht',st',hput⟩
  walk_at "rd"
  have hi':j+i < min (first+least) stop:=by omega
  have hlen:=ho.len
  rw [show ((j:Int)+i)=((j+i:Nat):Int) by omega]
  refine ⟨.inl ⟨rfl,_,SqL.of hol'⟩,mo,ks,xs,a,rl,ru,tl,g,lg,ol,_,os,j+i,rfl,st',hol',nol,by omega,fun x hx=>((ho.mem x).mp hx).2,by omega,by rw [yAB,yAB,ZBu];omega,ex.sub fr fun n hn=>fil_more hb hi' hput hn,fun H3 r l fr3 hh st3=>?_⟩
  have hb2:=hh.bounds (yAI _)
  have hol3:=fr3 _ _ nol hol'
  refine ⟨ol,_,_,_,rfl,rfl,hol3,ZBc (by rw [yAC];omega),by omega,?_⟩
  rw [insV_nL hb2.2]
  have ll:=hh.len
  refine ⟨_,_,insN os r (j+i),dn++l,rfl,ZAG,by rw [show j+(i+1)=j+i+1 by omega];exact ho.ins (by omega) hh,by rw [yAB];omega,fun b o n h=>?_,?_,?_,fun os' l' hp=>?_⟩
  .rw [ZAI (ZAC h hnH)]
   exact fr3 _ _ n (fr _ _ n h)
  .have nt:t≠ol:=fun z=>by rw [z,hol'] at ht';cases ht'
   rw [ZAI nt]
   exact fr3 _ _ (st'.tupS ht' (fun _ z=>by cases z) (fun _ _ _ z=>by cases z)) ht'
  .rw [show pr++(asks first (min (j+1) stop)++(dn++l))=pr++(asks first (min (j+1) stop)++dn)++l by simp only [yAJ]]
   exact st3.upd hol3 nrl
  .rw [yAJ]
   exact hput _ _ (.cons hi' hh (by rw [show j+i+1=j+(i+1) by omega];exact hp))
 rintro σ H' ⟨v3,v8,os,dn,rfl,hol',ho,hdn,fr,ht',st',hput⟩
 walk_at "rd"
 refine ⟨ZAU (by decide),fun t2 ht2=>?_⟩
 have z:=hput os [] (.nil (by omega))
 rw [yAQ] at z
 exact q _ t2 ol j f os dn (fr.trans (ZAK ht2 _).fr) hnH nol ZAG (ZAK ht2 _ _ _ hol') hb z (st'.mono (ZAK ht2 _))
theorem ok_leap {f:Addr} {fd:FuncData} (F:Fun K "leap" "leap" ZDL f fd) (T:Bt K mg C_Join C_Pile C_Asker C_AskedRule C_HallError C_Spent)
  (t_Asker_ahead:Mt P w K mg base (CXE P w) C_Asker "ahead" 3 ["self","p","q"] (ZCT C_Asker C_AskedRule C_Spent (ZBw mg)))
 :FnOk P w K mg base (CXE P w) 4 f fd ["asker","order","first","place"] (ZEo C_Asker (RuM.mk C_AskedRule mg) C_Spent):=by
 refine F.okX sc_leap (fun vs H Q E h=>?_) (fun cdv A outer s H vs Q E hr h=>?_)
 .obtain ⟨mo,ks,xs,a,rl,ru,tl,g,lg,ol,pr,os,f,pl,z,rfl,st,hol,nol,hos,hlt',hpl,hpr,hfz,hzn,hlx,ex,q⟩:=h
  rfl
 obtain ⟨mo,ks,xs,a,rl,ru,tl,g,lg,ol,pr,os,f,pl,z,rfl,st,hol,nol,hos,hlt',hpl,hpr,hfz,hzn,hlx,ex,q⟩:=h
 refine ⟨_,(ZAB (PS.nox (ZAJ (i:=4) sc_leap.nd rfl (by walk_at "o") (ZAO ZB0 (pv 2) ZAF)))
  (ZAB (PS.nox (ZAJ (i:=5) sc_leap.nd rfl (by walk_at "o") (pv 2)))
  (ZAB (PS.nox (ZAJ (i:=6) sc_leap.nd rfl (by walk_at "o") ZAF))
  (ZAB (PS.inX (ZBY (ZEF ⟨rfl,rfl⟩) (PW.pt (ZC7 (ZAS ZDH (pv 5) (ZAQ ZAL rfl T.b_len PySem.boot_len (ZAA (pv 1) ZAD)) (ZAV _)) (ZCU (ZCd (ZBT t_Asker_ahead (hr.mono (by decide)) ZD0 (pv 0) (ZAA (ZAu ZAf (pv 1) (pv 5) (fun _ _=>rfl)) (ZAA (pv 3) ZAD)))))))
  (ZAB (ZAJ (i:=4) sc_leap.nd rfl (by walk_at "o") (pv 5))
  (ZAB (ZEU (i:=5) sc_leap.nd rfl (by walk_at "o") (pv 6) ZEZ)
  (ZAH (ZAJ (i:=6) sc_leap.nd rfl (by walk_at "o") (ZAO ZB1 (pv 6) ZAF)))))))
  (ZAB (PS.nox (ZAJ (i:=5) sc_leap.nd rfl (by walk_at "o") (ZAQ (ZCA rfl) rfl T.b_min PyProof.Rows.boot_min (ZAA (pv 5) (ZAA (ZAQ ZAL rfl T.b_len PySem.boot_len (ZAA (pv 1) ZAD)) ZAD)))))
  (ZAT
  (ZAB (PS.inX (ZBY (ZEF ⟨rfl,rfl⟩) (ZAS ZEr (ZAO ZB0 (pv 5) (pv 4)) ZAF (ZAV _))
  (ZAB (ZAJ (i:=7) sc_leap.nd rfl (by walk_at "o") (ZAO ZBU (ZAO ZAj (pv 4) (pv 5)) ZAF))
  (ZAH (ZBS (ZCd (ZBT t_Asker_ahead (hr.mono (by decide)) ZD0 (pv 0) (ZAA (ZAu ZAf (pv 1) (pv 7) (fun _ _=>rfl)) (ZAA (pv 3) ZAD))))
  (ZAH (ZAJ (i:=4) sc_leap.nd rfl (by walk_at "o") (pv 7)))
  (ZAH (ZAJ (i:=5) sc_leap.nd rfl (by walk_at "o") (pv 7))))))))
  (ZAH (PS.nox (ZAX (ZAO ZB0 (pv 5) (pv 2)))))))))))),?_⟩
 walk_at "rd"
 apply once4 (fun (lo hi:Nat) (_:Int) (H':Hp)=>f <= lo /\ lo <= z /\ z <= hi /\ hi <= os.length /\ ∃ dn:List Nat,dn.length <= os.length+1 /\ Fr [a,lg,tl] H H' /\ SitL mo C_Asker (RuM.mk C_AskedRule mg) H' ks xs a rl ru tl g lg (pr++dn.map (ask1 os pl)) /\ ∀ L,Bin z lo hi L->Gal z os.length f f f (dn++L))
 .intro tailp
  refine ZBV (fun m σ H'=>∃ (lo far:Nat) (dn:List Nat),m=os.length-lo /\ σ=[some (.ref a),some (.ref ol),some (.int f),some (.int pl),some (.int ((lo:Int)-1)),some (.int far),some (.int ((far:Int)-f+1)),none] /\ LIn1 mo C_Asker (RuM.mk C_AskedRule mg) ks xs a rl ru tl g lg pr os f pl z H lo far dn H') ⟨_,f,f,[],rfl,by rw [show (f:Int)-f+1=1 by omega],yAA _,hfz,yAA _,by simp,.refl,by rw [List.map_nil,yAQ];exact st,fun L h=>h⟩ ?_
  rintro m σ H' ⟨lo,far,dn,rfl,rfl,h1,h2,h3,h4,fr,s,hg⟩
  walk_at "rd"
  have hol':=fr _ _ nol hol
  refine ⟨ol,_,rfl,.inl (SqL.of hol'),?_⟩
  rw [yAC]
  by_cases hf:far < os.length
  .rw [if_pos (by omega)]
   obtain ⟨o,ho⟩:∃ o,os[far]?=some o:=⟨_,yAL hf⟩
   have hop:=hlt' o (yBB ho)
   have hlo:=hlx far o (by omega) ho
   refine s.ha.meth (by walk_at "lk") ?_
   refine ZAx (SqL.of hol') (ZDD ho) ?_
   refine s.ahead (p:=o) (q:=pl) hop.2 hop.1 hpl (by rw [yAB,yAC];omega) (ex.sub fr fun n hn=>gal_more hf h2 h3 (yAK h1 h3) hzn hg hn) fun H2 f2 s2=>?_
   rw [ZDt hop.2]
   have ea:[(max o pl,min o pl)]=[far].map (ask1 os pl):=by
    show _=[ask1 os pl far]
    unfold ask1
    rw [ho]
    rfl
   rw [yAJ,ea,<- yAN] at s2
   refine ⟨_,rfl,?_⟩
   by_cases hd:lx ks o pl
   .rw [decide_eq_true hd,if_pos rfl]
    refine ZBW ?_
    walk_at "rd"
    have hfz':=hlo.mp hd
    exact ⟨.inr ⟨by decide,by decide⟩,os.length-(far+1),by omega,far+1,2 * far-f+1,dn++[far],rfl,by rw [show ((far+1:Nat):Int)-1=far by omega,show (far:Int)+(far-f+1)=((2 * far-f+1:Nat):Int) by omega,show (far:Int)-f+1=(far:Int)-f+1 from rfl,show ((far:Int)-f+1) * 2=((2 * far-f+1:Nat):Int)-f+1 by omega],by omega,by omega,by omega,by rw [yAB,yAT];omega,fr.trans f2,s2,fun L h=>by rw [yAJ];exact hg _ (.more hf hfz' h)⟩
   .rw [decide_eq_false hd,if_neg (by decide)]
    have hfz':z <= far:=by
     rcases yCF far z with y | y
     .exact absurd (hlo.mpr y) hd
     .exact y
    refine ⟨ol,_,rfl,.inl (SqL.of (f2 _ _ nol hol')),_,_,rfl,?_⟩
    rw [yAC,ZE7,show min (far:Int) os.length=(far:Nat) by omega]
    generalize (far:Int)-f+1=wd
    exact tailp lo far wd H2 ⟨h1,h2,hfz',by omega,dn++[far],by rw [yAB,yAT];omega,fr.trans f2,s2,fun L h=>by rw [yAJ];exact hg _ (.stop hf hfz' h)⟩
  .rw [if_neg (by omega)]
   refine ⟨ol,_,rfl,.inl (SqL.of hol'),_,_,rfl,?_⟩
   rw [yAC,ZE7,show min (far:Int) os.length=(os.length:Nat) by omega]
   exact tailp lo os.length _ H' ⟨h1,h2,hzn,yAA _,dn,by omega,fr,s,fun L h=>hg _ (.out (by omega) h)⟩
 rintro lo hi wd H1 ⟨h1,h2,h3,h4,dn,h5,fr1,st1,hg⟩
 refine ZAa ?_
 walk_at "rd"
 refine ZBV (fun m σ H'=>∃ (lo hi:Nat) (v7:Option V) (dn:List Nat),m=hi-lo /\ σ=[some (.ref a),some (.ref ol),some (.int f),some (.int pl),some (.int ((lo:Int)-1)),some (.int hi),some (.int wd),v7] /\ LIn2 mo C_Asker (RuM.mk C_AskedRule mg) ks xs a rl ru tl g lg pr os f pl z H lo hi dn H') ⟨_,lo,hi,_,dn,rfl,rfl,h1,h2,h3,h4,by omega,fr1,st1,hg⟩ ?_
 clear h1 h2 h3 h4 h5 fr1 st1 hg
 rintro m σ H' ⟨lo,hi,v7,dn,rfl,rfl,h1,h2,h3,h4,h5,fr,s,hg⟩
 walk_at "rd"
 by_cases hlt:lo < hi
 .rw [if_pos (by omega)]
  refine ZBW ?_
  walk_at "rd"
  refine ⟨⟨by decide,by decide⟩,?_⟩
  rw [show ((lo:Int)-1+hi) / 2=((lo+hi-1) / 2:Nat) by omega]
  have hm:(lo+hi-1) / 2 < os.length:=by omega
  obtain ⟨o,ho⟩:∃ o,os[(lo+hi-1) / 2]?=some o:=⟨_,yAL hm⟩
  have hop:=hlt' o (yBB ho)
  have hlo:=hlx _ o (by omega) ho
  have hol':=fr _ _ nol hol
  refine s.ha.meth (by walk_at "lk") ?_
  refine ZAx (SqL.of hol') (ZDD ho) ?_
  refine s.ahead (p:=o) (q:=pl) hop.2 hop.1 hpl (by rw [yAB,yAC];omega) (ex.sub fr fun n hn=>bin_more hlt h2 h3 hg hn) fun H2 f2 s2=>?_
  rw [ZDt hop.2]
  have ea:[(max o pl,min o pl)]=[(lo+hi-1) / 2].map (ask1 os pl):=by
   show _=[ask1 os pl ((lo+hi-1) / 2)]
   unfold ask1
   rw [ho]
   rfl
  rw [yAJ,ea,<- yAN] at s2
  refine ⟨_,rfl,?_⟩
  by_cases hd:lx ks o pl
  .rw [decide_eq_true hd,if_pos rfl]
   exact ⟨hi-((lo+hi-1) / 2+1),by omega,(lo+hi-1) / 2+1,hi,_,dn++[(lo+hi-1) / 2],rfl,by rw [show (((lo+hi-1) / 2+1:Nat):Int)-1=((lo+hi-1) / 2:Nat) by omega],by omega,hlo.mp hd,h3,h4,by rw [yAB,yAT];omega,fr.trans f2,s2,fun L h=>by rw [yAJ];exact hg _ (.more hlt (hlo.mp hd) h)⟩
  .rw [decide_eq_false hd,if_neg (by decide)]
   have hz':z <= (lo+hi-1) / 2:=by
    rcases yCF ((lo+hi-1) / 2) z with y | y
    .exact absurd (hlo.mpr y) hd
    .exact y
   exact ⟨(lo+hi-1) / 2-lo,by omega,lo,(lo+hi-1) / 2,_,dn++[(lo+hi-1) / 2],rfl,rfl,h1,h2,hz',by omega,by rw [yAB,yAT];omega,fr.trans f2,s2,fun L h=>by rw [yAJ];exact hg _ (.less hlt hz' h)⟩
 .rw [if_neg (by omega)]
  walk_at "rd"
  have e:lo=hi:=by omega
  subst e
  have y:=hg [] .done
  rw [yAQ] at y
  rw [show (lo:Int)-f=((z-f:Nat):Int) by omega]
  exact q H' dn fr y s
theorem ok_Join_init {f:Addr} {fd:FuncData} (F:Fun K "__init__" "Join.__init__" ZBP f fd) (T:Bt K mg C_Join C_Pile C_Asker C_AskedRule C_HallError C_Spent)
 :FnOk P w K mg base CX0 1 f fd ["self","asker","left","right"] (ZEB C_Join):=by
 refine F.ok sc_Join_init (fun vs H Q E h=>?_) (fun cdv A outer s H vs Q E hr h=>?_)
 .obtain ⟨x,dx,ak,al,ar,ls,rs,rfl,hx,hal,har,q⟩:=h
  rfl
 obtain ⟨x,dx,ak,al,ar,ls,rs,rfl,hx,hal,har,q⟩:=h
 refine ⟨_,(ZAB (ZBE (pv 0) (pv 1) rfl)
  (ZAB (ZBE (pv 0) (ZBJ (ZAA (ZA6 ZBC rfl T.b_list PyProof.Rows.boot_list (ZAA (pv 2) ZAD)) (ZAA (ZA6 ZBC rfl T.b_list PyProof.Rows.boot_list (ZAA (pv 3) ZAD)) ZAD))) rfl)
  (ZAB (ZBE (pv 0) (ZBK (ZAA ZAF (ZAA ZAF ZAD))) rfl)
  (ZAH (ZBE (pv 0) (ZBK ZAD) rfl))))),?_⟩
 walk_at "rd"
 have nal:al≠x:=fun z=>by rw [z,hx] at hal;cases hal
 have nar:ar≠x:=fun z=>by rw [z,hx] at har;cases har
 refine setX hx T.cl_Join T.n_Join_asker (by decide) fun H2 x2 k2=>?_
 walk_at "rd"
 refine ⟨al,_,rfl,.inl (SqL.of (by rw [k2 al nal];exact hal)),fun la hla=>?_⟩
 obtain ⟨H3,e3,s3,h3⟩:=newH hla (.lst (nL ls))
 rw [e3];clear e3
 refine ⟨ar,_,rfl,.inl (SqL.of (s3 _ _ (by rw [k2 ar nar];exact har))),fun ra hra=>?_⟩
 obtain ⟨H4,e4,s4,h4⟩:=newH hra (.lst (nL rs))
 rw [e4];clear e4
 refine ⟨ZAU (by decide),fun sd hsd=>?_⟩
 obtain ⟨H5,e5,s5,h5⟩:=newH hsd (.tup [.ref la,.ref ra])
 rw [e5];clear e5
 have x5:=s5 _ _ (s4 _ _ (s3 _ _ x2))
 refine setX x5 T.cl_Join T.n_Join_sides ZE5 fun H6 x6 k6=>?_
 walk_at "rd"
 refine ⟨ZAU (by decide),fun tk htk=>?_⟩
 obtain ⟨H7,e7,s7,h7⟩:=newH htk (.lst [.int 0,.int 0])
 rw [e7];clear e7
 have x7:=s7 _ _ x6
 refine setX x7 T.cl_Join T.n_Join_taken ZE4 fun H8 x8 k8=>?_
 walk_at "rd"
 refine ⟨ZAU (by decide),fun pc hpc=>?_⟩
 obtain ⟨H9,e9,s9,h9⟩:=newH hpc (.lst [])
 rw [e9];clear e9
 have x9:=s9 _ _ x8
 refine setX x9 T.cl_Join T.n_Join_places ZE3 fun HA xA kA=>?_
 have nla:la≠x:=Ne.symm (ZAC x2 hla)
 have nra:ra≠x:=Ne.symm (ZAC (s3 _ _ x2) hra)
 have nsd:sd≠x:=Ne.symm (ZAC (s4 _ _ (s3 _ _ x2)) hsd)
 have ntk:tk≠x:=Ne.symm (ZAC x6 htk)
 have npc:pc≠x:=Ne.symm (ZAC x8 hpc)
 have up5:∀ b o,b≠x->H5 b=some o->HA b=some o:=fun b o n e=>by
  rw [kA b n]
  refine s9 _ _ ?_
  rw [k8 b n]
  refine s7 _ _ ?_
  rw [k6 b n]
  exact e
 have up:∀ b o,b≠x->H b=some o->H5 b=some o:=fun b o n e=>s5 _ _ (s4 _ _ (s3 _ _ (by rw [k2 b n];exact e)))
 have gla:=up5 la _ nla (s5 _ _ (s4 _ _ h3))
 have gra:=up5 ra _ nra (s5 _ _ h4)
 have gsd:=up5 sd _ nsd h5
 have g8:H8 tk=some (.lst [.int 0,.int 0]):=by rw [k8 tk ntk];exact h7
 have gtk:HA tk=some (.lst [.int 0,.int 0]):=by rw [kA tk ntk];exact s9 _ _ g8
 have gpc:HA pc=some (.lst []):=by rw [kA pc npc];exact h9
 have f6:∀ b,b≠x->H6 b=none->H b=none:=fun b n e=>by
  cases eb:H b with
  | none=>rfl
  | some o=>have:=up b o n eb;rw [k6 b n,this] at e;cases e
 have f8:∀ b,b≠x->H8 b=none->H b=none:=fun b n e=>f6 b n (s7.free (by rw [<- k8 b n];exact e))
 have l5:H6 la=some (.lst (nL ls)):=by rw [k6 la nla];exact s5 _ _ (s4 _ _ h3)
 have r5:H6 ra=some (.lst (nL rs)):=by rw [k6 ra nra];exact s5 _ _ h4
 have l8:H8 la=some (.lst (nL ls)):=by rw [k8 la nla];exact s7 _ _ l5
 have r8:H8 ra=some (.lst (nL rs)):=by rw [k8 ra nra];exact s7 _ _ r5
 refine q sd la ra tk pc HA (fun b o n e=>up5 b o n (up b o n e)) ?_ ?_ ?_ (f6 tk ntk htk) (f8 pc npc hpc) ⟨(Ins.of xA (yAK ZFL (by decide))).congr fun f=>by simp only [ZAW,lkc],gsd,gla,gra,gtk,gpc,ZAC g8 hpc,ZAC l5 htk,ZAC l8 hpc,ZAC r5 htk,ZAC r8 hpc⟩
 .cases eb:H sd with
  | none=>rfl
  | some o=>have:=s4 _ _ (s3 _ _ (by rw [k2 sd nsd];exact eb));rw [this] at hsd;cases hsd
 .cases eb:H la with
  | none=>rfl
  | some o=>rw [k2 la nla,eb] at hla;cases hla
 .cases eb:H ra with
  | none=>rfl
  | some o=>have:=s3 ra o (by rw [k2 ra nra];exact eb);rw [this] at hra;cases hra
theorem ok_Join_has_more {f:Addr} {fd:FuncData} (F:Fun K "has_more" "Join.has_more" ZAt f fd) (T:Bt K mg C_Join C_Pile C_Asker C_AskedRule C_HallError C_Spent)
 :FnOk P w K mg base CX0 1 f fd ["self","side"] (ZCc C_Join):=by
 refine F.ok sc_Join_has_more (fun vs H Q E h=>?_) (fun cdv A outer s H vs Q E hr h=>?_)
 .obtain ⟨b,jn,ak,sd,ma,ta,tk,pc,ms,ts,i,j,dn,rfl,js,q⟩:=h
  rfl
 obtain ⟨b,jn,ak,sd,ma,ta,tk,pc,ms,ts,i,j,dn,rfl,js,q⟩:=h
 refine ⟨_,(ZAH (ZAX (ZCV ZDH (ZAu ZAf (ZAN (pv 0) rfl) (pv 1) (fun _ _=>rfl)) (ZAQ ZAL rfl T.b_len PySem.boot_len (ZAA (ZAu ZBd (ZAN (pv 0) rfl) (pv 1) (fun _ _=>rfl)) ZAD)) (ZAV _)))),?_⟩
 walk_at "rd"
 refine js.hj.get T.cl_Join T.n_Join_taken (by walk_at "lk") (ZAx (SqL.of js.htk) ZCP ?_)
 refine js.hj.get T.cl_Join T.n_Join_sides (by walk_at "lk") (ZBe (SqT.of js.hsd) ZCP ⟨ma,_,rfl,.inl (SqL.of js.hma),?_⟩)
 rw [yAC]
 refine ⟨_,_,rfl,rfl,?_⟩
 have e:decide ((i:Int) < ms.length)=decide (i < ms.length):=by rw [decide_eq_decide];omega
 rw [<- e] at q
 exact q
theorem ok_Join_front {f:Addr} {fd:FuncData} (F:Fun K "front" "Join.front" ZA9 f fd) (T:Bt K mg C_Join C_Pile C_Asker C_AskedRule C_HallError C_Spent)
 :FnOk P w K mg base CX0 1 f fd ["self","side"] (ZDZ C_Join):=by
 refine F.ok sc_Join_front (fun vs H Q E h=>?_) (fun cdv A outer s H vs Q E hr h=>?_)
 .obtain ⟨b,jn,ak,sd,ma,ta,tk,pc,ms,ts,i,j,dn,x,rfl,js,hx,q⟩:=h
  rfl
 obtain ⟨b,jn,ak,sd,ma,ta,tk,pc,ms,ts,i,j,dn,x,rfl,js,hx,q⟩:=h
 refine ⟨_,(ZAH (ZAX (ZAu ZAf (ZAu ZBd (ZAN (pv 0) rfl) (pv 1) (fun _ _=>rfl)) (ZAu ZAf (ZAN (pv 0) rfl) (pv 1) (fun _ _=>rfl)) (fun _ _=>rfl)))),?_⟩
 walk_at "rd"
 refine js.hj.get T.cl_Join T.n_Join_sides (by walk_at "lk") (ZBe (SqT.of js.hsd) ZCP ?_)
 refine js.hj.get T.cl_Join T.n_Join_taken (by walk_at "lk") (ZAx (SqL.of js.htk) ZCP ?_)
 exact ZAx (SqL.of js.hma) (ZDD hx) q
theorem ok_Join_take_on {f:Addr} {fd:FuncData} (F:Fun K "take_on" "Join.take_on" ZAz f fd) (T:Bt K mg C_Join C_Pile C_Asker C_AskedRule C_HallError C_Spent)
 :FnOk P w K mg base CX0 1 f fd ["self","side","more"] (ZCb C_Join):=by
 refine F.ok sc_Join_take_on (fun vs H Q E h=>?_) (fun cdv A outer s H vs Q E hr h=>?_)
 .obtain ⟨b,jn,ak,sd,ma,ta,tk,pc,ms,ts,i,j,dn,m,rfl,js,hm,hl,q⟩:=h
  rfl
 obtain ⟨b,jn,ak,sd,ma,ta,tk,pc,ms,ts,i,j,dn,m,rfl,js,hm,hl,q⟩:=h
 refine ⟨_,(ZAB (ZAJ (i:=3) sc_Join_take_on.nd rfl (by walk_at "o") (ZAu ZAf (ZAN (pv 0) rfl) (pv 1) (fun _ _=>rfl)))
  (ZAB (ZAi (ZCt PySem.F.plainAttrs_list PySem.F.slot_list_extend PySem.F.type_list_extend mt_extend (ZAN (pv 0) rfl) (ZAA (ZCJ ZCq (ZAu ZBd (ZAN (pv 0) rfl) (pv 1) (fun _ _=>rfl)) (ZBo (pv 3)) (ZBo (ZAO ZAj (pv 3) (pv 2)))) ZAD)))
  (ZAH (ps_asg (ZAO ZAj (pv 3) (pv 2)) (pg_sub (ZAN (pv 0) rfl) (pv 1) set_list))))),?_⟩
 walk_at "rd"
 refine js.hj.get T.cl_Join T.n_Join_taken (by walk_at "lk") (ZAx (SqL.of js.htk) ZCP ?_)
 walk_at "rd"
 refine js.hj.get T.cl_Join T.n_Join_places (by walk_at "lk") ?_
 walk_at "rd"
 refine ⟨.inl ⟨rfl,_,SqL.of js.hpc⟩,?_⟩
 refine js.hj.get T.cl_Join T.n_Join_sides (by walk_at "lk") (ZBe (SqT.of js.hsd) ZCP ?_)
 walk_at "rd"
 refine ZDK (SqL.of js.hma) fun c hc=>?_
 have ec:cutV (nL ms) (some (i:Int)) (some ((i:Int)+m))=nL ((ms.drop i).take m):=by
  unfold cutV
  rw [show (i:Int)+m=((i+m:Nat):Int) by omega,HT.sIx_nat,HT.sIx_nat,yAC,yBK (show i <= ms.length by omega),yBK (show i+m <= ms.length by omega),Nat.add_sub_cancel_left]
  unfold nL
  rw [<- yCG,<- List.map_take]
 rw [ec]
 obtain ⟨H1,e1,s1,h1⟩:=newH hc (.lst (nL ((ms.drop i).take m)))
 rw [e1];clear e1
 have js1:=js.mono s1
 refine ⟨pc,c,_,_,rfl,rfl,js1.hpc,h1,ZAU (by rw [yAC,yAC,yAM,yAR];omega),?_⟩
 have npt:tk≠pc:=js.ne.1
 have hj2:JS C_Join (upd H1 pc (.lst (nL dn++nL ((ms.drop i).take m)))) b jn ak sd ma ta tk pc ms ts i j (dn++(ms.drop i).take m):=js1.keep (Fr.upd (yAD _ yAF)) (by rw [ZAI npt];exact js1.htk) (by rw [ZAG];unfold nL;rw [yAN])
 have f1:Fr [tk,pc] H (upd H1 pc (.lst (nL dn++nL ((ms.drop i).take m)))):=s1.fr.trans (Fr.upd (yAD _ yAF))
 generalize upd H1 pc (.lst (nL dn++nL ((ms.drop i).take m)))=H2 at hj2 f1 ⊢
 refine hj2.hj.get T.cl_Join T.n_Join_taken (by walk_at "lk") ?_
 walk_at "rd"
 refine ⟨tk,_,_,_,rfl,rfl,hj2.htk,ixN_of (by cases b <;> decide) (by rw [pk_len];cases b <;> decide),?_⟩
 rw [pk_set,show (i:Int)+m=((i+m:Nat):Int) by omega]
 refine q _ (f1.trans (Fr.upd yAF)) (hj2.keep (Fr.upd yAF) ZAG (by rw [ZAI (Ne.symm npt)];exact hj2.hpc))
theorem ok_Join_take_rest {f:Addr} {fd:FuncData} (F:Fun K "take_rest" "Join.take_rest" ZAo f fd) (T:Bt K mg C_Join C_Pile C_Asker C_AskedRule C_HallError C_Spent)
  (t_Join_take_on:Mt P w K mg base CX0 C_Join "take_on" 1 ["self","side","more"] (ZCb C_Join))
 :FnOk P w K mg base CX0 2 f fd ["self","side"] (ZCn C_Join):=by
 refine F.ok sc_Join_take_rest (fun vs H Q E h=>?_) (fun cdv A outer s H vs Q E hr h=>?_)
 .obtain ⟨b,jn,ak,sd,ma,ta,tk,pc,ms,ts,i,j,dn,rfl,js,hi,hl,q⟩:=h
  rfl
 obtain ⟨b,jn,ak,sd,ma,ta,tk,pc,ms,ts,i,j,dn,rfl,js,hi,hl,q⟩:=h
 refine ⟨_,(ZAH (ZAi (ZBT t_Join_take_on (hr.mono (by decide)) ZAY (pv 0) (ZAA (pv 1) (ZAA (ZAO ZB0 (ZAQ ZAL rfl T.b_len PySem.boot_len (ZAA (ZAu ZBd (ZAN (pv 0) rfl) (pv 1) (fun _ _=>rfl)) ZAD)) (ZAu ZAf (ZAN (pv 0) rfl) (pv 1) (fun _ _=>rfl))) ZAD))))),?_⟩
 walk_at "rd"
 refine js.hj.meth (by walk_at "lk") ?_
 refine js.hj.get T.cl_Join T.n_Join_sides (by walk_at "lk") (ZBe (SqT.of js.hsd) ZCP ⟨ma,_,rfl,.inl (SqL.of js.hma),?_⟩)
 refine js.hj.get T.cl_Join T.n_Join_taken (by walk_at "lk") (ZAx (SqL.of js.htk) ZCP ?_)
 walk_at "rd"
 rw [yAC,show (ms.length:Int)-i=((ms.length-i:Nat):Int) by omega]
 refine ⟨b,jn,ak,sd,ma,ta,tk,pc,ms,ts,i,j,dn,ms.length-i,rfl,js,by omega,hl,fun H' f' js'=>?_⟩
 rw [show i+(ms.length-i)=ms.length by omega,yBQ (by rw [yAR];exact yAA _)] at js'
 exact q H' f' js'
theorem ok_Join_win {f:Addr} {fd:FuncData} (F:Fun K "win" "Join.win" ZBb f fd) (T:Bt K mg C_Join C_Pile C_Asker C_AskedRule C_HallError C_Spent)
  (t_Join_take_on:Mt P w K mg base CX0 C_Join "take_on" 1 ["self","side","more"] (ZCb C_Join))
  (t_Asker_ahead:Mt P w K mg base (CXE P w) C_Asker "ahead" 3 ["self","p","q"] (ZCT C_Asker C_AskedRule C_Spent (ZBw mg)))
  (t_Join_front:Mt P w K mg base CX0 C_Join "front" 1 ["self","side"] (ZDZ C_Join))
 :FnOk P w K mg base (CXE P w) 4 f fd ["self"] (ZFG C_Asker (RuM.mk C_AskedRule mg) C_Join C_Spent):=by
 refine F.okX sc_Join_win (fun vs H Q E h=>?_) (fun cdv A outer s H vs Q E hr h=>?_)
 .obtain ⟨mo,ks,xs,a,rl,ru,tl,g,lg,jn,sd,la,ra,tk,pc,pr,ls,rs,dn,i,j,x,y,rfl,st,js,nx,hx,hy,hxy,hxk,hyk,hpr,hd1,hd2,ex,q⟩:=h
  rfl
 obtain ⟨mo,ks,xs,a,rl,ru,tl,g,lg,jn,sd,la,ra,tk,pc,pr,ls,rs,dn,i,j,x,y,rfl,st,js,nx,hx,hy,hxy,hxk,hyk,hpr,hd1,hd2,ex,q⟩:=h
 refine ⟨_,(ZAB (ZAJ (i:=1) sc_Join_win.nd rfl (by walk_at "o") (ZBZ (ZCd (ZBT t_Asker_ahead (hr.mono (by decide)) ZDh (ZAN (pv 0) rfl) (ZAA (ZBT t_Join_front (hr.mono (by decide)) ZAY (pv 0) (ZAA (ZBQ rfl T.c_LEFT) ZAD)) (ZAA (ZBT t_Join_front (hr.mono (by decide)) ZAY (pv 0) (ZAA (ZBQ rfl T.c_RIGHT) ZAD)) ZAD)))) (ZBQ rfl T.c_LEFT) (ZBQ rfl T.c_RIGHT)))
  (ZAB (PS.nox (ZAi (ZBT t_Join_take_on (hr.mono (by decide)) ZAY (pv 0) (ZAA (pv 1) (ZAA ZAF ZAD)))))
  (ZAH (PS.nox (ZAX (pv 1)))))),?_⟩
 walk_at "rd"
 refine js.hj.get T.cl_Join T.n_Join_asker (by walk_at "lk") (st.ha.meth (by walk_at "lk") ?_)
 refine js.hj.meth (by walk_at "lk") ⟨true,jn,a,sd,la,ra,tk,pc,ls,rs,i,j,dn,x,rfl,js,hx,?_⟩
 refine js.hj.meth (by walk_at "lk") ⟨false,jn,a,sd,ra,la,tk,pc,rs,ls,j,i,dn,y,rfl,js.swap,hy,?_⟩
 refine st.ahead (p:=x) (q:=y) hxy hxk hyk (by omega) ex fun H2 f2 s2=>?_
 rw [ZDt hxy]
 have js2:=js.fr f2 nx.n1
 have hi:=(yAH.mp hx).1
 have hj:=(yAH.mp hy).1
 refine ⟨_,rfl,?_⟩
 by_cases hd:lx ks x y
 .rw [decide_eq_true hd,if_pos rfl]
  walk_at "rd"
  refine js2.hj.meth (by walk_at "lk") ⟨true,jn,a,sd,la,ra,tk,pc,ls,rs,i,j,dn,1,rfl,js2,by omega,by omega,fun H3 f3 js3=>?_⟩
  rw [ZDR hx] at js3
  have e:=q H3 ((fr5a f2).trans (fr5b f3)) (s2.apart f3 js2.lsts nx.n2) (fun _=>js3) (fun z=>absurd hd z)
  rw [decide_eq_true hd] at e
  exact e
 .rw [decide_eq_false hd,if_neg (by decide)]
  walk_at "rd"
  refine js2.hj.meth (by walk_at "lk") ⟨false,jn,a,sd,ra,la,tk,pc,rs,ls,j,i,dn,1,rfl,js2.swap,by omega,by omega,fun H3 f3 js3=>?_⟩
  rw [ZDR hy] at js3
  have e:=q H3 ((fr5a f2).trans (fr5b f3)) (s2.apart f3 js2.lsts nx.n2) (fun z=>absurd z hd) (fun _=>js3.swap)
  rw [decide_eq_false hd] at e
  exact e
theorem ok_Join_leap_on {f:Addr} {fd:FuncData} (F:Fun K "leap_on" "Join.leap_on" ZA0 f fd) (T:Bt K mg C_Join C_Pile C_Asker C_AskedRule C_HallError C_Spent)
  (f_leap:Fn P w K mg base (CXE P w) "leap" 4 ["asker","order","first","place"] (ZEo C_Asker (RuM.mk C_AskedRule mg) C_Spent))
  (t_Join_take_on:Mt P w K mg base CX0 C_Join "take_on" 1 ["self","side","more"] (ZCb C_Join))
  (t_Join_has_more:Mt P w K mg base CX0 C_Join "has_more" 1 ["self","side"] (ZCc C_Join))
  (t_Join_front:Mt P w K mg base CX0 C_Join "front" 1 ["self","side"] (ZDZ C_Join))
 :FnOk P w K mg base (CXE P w) 5 f fd ["self","side"] (ZDV C_Asker (RuM.mk C_AskedRule mg) C_Join C_Spent):=by
 refine F.okX sc_Join_leap_on (fun vs H Q E h=>?_) (fun cdv A outer s H vs Q E hr h=>?_)
 .obtain ⟨mo,ks,xs,a,rl,ru,tl,g,lg,jn,sd,ma,ta,tk,pc,b,pr,ms,ts,dn,i,j,y,z,rfl,st,js,nx,hy,hml,hmk,hyk,hpr,hd,hiz,hzn,hlx,ex,q⟩:=h
  rfl
 obtain ⟨mo,ks,xs,a,rl,ru,tl,g,lg,jn,sd,ma,ta,tk,pc,b,pr,ms,ts,dn,i,j,y,z,rfl,st,js,nx,hy,hml,hmk,hyk,hpr,hd,hiz,hzn,hlx,ex,q⟩:=h
 refine ⟨_,(ZAB (PS.nox (ZAJ (i:=2) sc_Join_leap_on.nd rfl (by walk_at "o") (ZBZ (ZAS ZCu (pv 1) (ZBQ rfl T.c_LEFT) (ZAV _)) (ZBQ rfl T.c_RIGHT) (ZBQ rfl T.c_LEFT))))
  (ZAT
  (ZAB (ZAi (ZBT t_Join_take_on (hr.mono (by decide)) ZAY (pv 0) (ZAA (pv 1) (ZAA (ZBD f_leap (hr.mono (by decide)) rfl ZDh (ZAA (ZAN (pv 0) rfl) (ZAA (ZAu ZBd (ZAN (pv 0) rfl) (pv 1) (fun _ _=>rfl)) (ZAA (ZAu ZAf (ZAN (pv 0) rfl) (pv 1) (fun _ _=>rfl)) (ZAA (ZBT t_Join_front (hr.mono (by decide)) ZAY (pv 0) (ZAA (pv 2) ZAD)) ZAD))))) ZAD))))
  (ZAH (PS.nox (ZBS (ZCd (ZBT t_Join_has_more (hr.mono (by decide)) ZAY (pv 0) (ZAA (pv 1) ZAD)))
  (ZAH (ZAi (ZBT t_Join_take_on (hr.mono (by decide)) ZAY (pv 0) (ZAA (pv 2) (ZAA ZAF ZAD))))) ZAe)))))),?_⟩
 walk_at "rd"
 have hj:=(yAH.mp hy).1
 refine cut_var fun o ho=>?_
 obtain rfl:o=sv (!b):=by
  rcases ho with ⟨h,e⟩ | ⟨h,e⟩
  .revert h;cases b <;> intro h
   .cases h
   .exact e
  .revert h;cases b <;> intro h
   .exact e
   .exact absurd rfl h
 refine ZAa ?_
 walk_at "rd"
 refine js.hj.meth (by walk_at "lk") ?_
 refine js.hj.get T.cl_Join T.n_Join_asker (by walk_at "lk") ?_
 refine js.hj.get T.cl_Join T.n_Join_sides (by walk_at "lk") (ZBe (SqT.of js.hsd) ZCP ?_)
 refine js.hj.get T.cl_Join T.n_Join_taken (by walk_at "lk") (ZAx (SqL.of js.htk) ZCP ?_)
 refine js.hj.meth (by walk_at "lk") ⟨!b,jn,a,sd,ta,ma,tk,pc,ts,ms,j,i,dn,y,rfl,js.swap,hy,?_⟩
 refine ⟨mo,ks,xs,a,rl,ru,tl,g,lg,ma,pr,ms,i,y,z,rfl,st,js.hma,nx.n1.2.2.1,hml,hmk,hyk,hpr,hiz,hzn,hlx,ex,fun H2 G f2 hG s2=>?_⟩
 have js2:=js.fr f2 nx.n1
 refine ⟨b,jn,a,sd,ma,ta,tk,pc,ms,ts,i,j,dn,z-i,rfl,js2,by omega,by omega,fun H3 f3 js3=>?_⟩
 rw [show i+(z-i)=z by omega] at js3
 have s3:=s2.apart f3 js2.lsts nx.n2
 have f13:=(fr5a f2 (tk:=tk) (pc:=pc)).trans (fr5b f3)
 refine js3.hj.meth (by walk_at "lk") ⟨b,jn,a,sd,ma,ta,tk,pc,ms,ts,z,j,_,rfl,js3,?_⟩
 refine ⟨_,rfl,?_⟩
 by_cases hz:z < ms.length
 .rw [decide_eq_true hz,if_pos rfl]
  walk_at "rd"
  refine js3.hj.meth (by walk_at "lk") ⟨!b,jn,a,sd,ta,ma,tk,pc,ts,ms,j,z,_,1,rfl,js3.swap,by omega,by rw [yAB,yAM,yAR];omega,fun H4 f4 js4=>?_⟩
  have js5:=js4.swap
  rw [Bool.not_not,ZDR hy] at js5
  exact q H4 G (f13.trans (fr5b f4)) hG (s3.apart f4 js3.lsts nx.n2) (fun _=>js5) (fun e=>by omega)
 .rw [decide_eq_false hz,if_neg (by decide)]
  exact q H3 G f13 hG s3 (fun e=>absurd e hz) (fun _=>js3)
theorem ok_joined {f:Addr} {fd:FuncData} (F:Fun K "joined" "joined" ZCG f fd) (T:Bt K mg C_Join C_Pile C_Asker C_AskedRule C_HallError C_Spent)
  (t_Join_take_rest:Mt P w K mg base CX0 C_Join "take_rest" 2 ["self","side"] (ZCn C_Join))
  (t_Join_has_more:Mt P w K mg base CX0 C_Join "has_more" 1 ["self","side"] (ZCc C_Join))
  (t_Join_win:Mt P w K mg base (CXE P w) C_Join "win" 4 ["self"] (ZFG C_Asker (RuM.mk C_AskedRule mg) C_Join C_Spent))
  (t_Join_leap_on:Mt P w K mg base (CXE P w) C_Join "leap_on" 5 ["self","side"] (ZDV C_Asker (RuM.mk C_AskedRule mg) C_Join C_Spent))
  (k_Join:Kl P w K mg base CX0 "Join" C_Join 1 ["self","asker","left","right"] (ZEB C_Join))
 :FnOk P w K mg base (CXE P w) 6 f fd ["asker","left","right"] (ZDX C_Asker (RuM.mk C_AskedRule mg) C_Spent):=by
 refine F.okX sc_joined (fun vs H Q E h=>?_) (fun cdv A outer s H vs Q E hr h=>?_)
 .obtain ⟨mo,ks,xs,a,rl,ru,tl,g,lg,al,ar,pr,ls,rs,rfl,st,hal,har,hll,hrl,hlk,hrk,hlp,hrp,hdis,hpr,ex,q⟩:=h
  rfl
 obtain ⟨mo,ks,xs,a,rl,ru,tl,g,lg,al,ar,pr,ls,rs,rfl,st,hal,har,hll,hrl,hlk,hrk,hlp,hrp,hdis,hpr,ex,q⟩:=h
 refine ⟨_,(ZAB (PS.nox (ZAJ (i:=3) sc_joined.nd rfl (by walk_at "o") (ZDe k_Join (hr.mono (by decide)) rfl ZAY (ZAA (pv 0) (ZAA (pv 1) (ZAA (pv 2) ZAD))))))
  (ZAB (PS.nox (ZAJ (i:=4) sc_joined.nd rfl (by walk_at "o") ZAF))
  (ZAB (PS.nox (ZAJ (i:=5) sc_joined.nd rfl (by walk_at "o") (ZBQ rfl T.c_LEFT)))
  (ZAB (PS.inX (ZBY (ZEF ⟨rfl,rfl⟩) (PW.pt (ZC7 (ZCd (ZBT t_Join_has_more (hr.mono (by decide)) ZAY (pv 3) (ZAA (ZBQ rfl T.c_LEFT) ZAD))) (ZCU (ZCd (ZBT t_Join_has_more (hr.mono (by decide)) ZAY (pv 3) (ZAA (ZBQ rfl T.c_RIGHT) ZAD))))))
  (ZAB (ZAJ (i:=6) sc_joined.nd rfl (by walk_at "o") (ZBF t_Join_win (hr.mono (by decide)) ZD0 (pv 3)))
  (ZAB (ZAJ (i:=4) sc_joined.nd rfl (by walk_at "o") (ZBZ (ZAS ZCu (pv 6) (pv 5) (ZAV _)) (ZAO ZAj (pv 4) ZAF) ZAF))
  (ZAB (ZAJ (i:=5) sc_joined.nd rfl (by walk_at "o") (pv 6))
  (ZAH (ZBS (ZAS ZCu (pv 4) (ZBQ rfl T.c_WINS_TO_LEAP) (ZAV _))
  (ZAB (ZAi (ZBT t_Join_leap_on (hr.mono (by decide)) ZD0 (pv 3) (ZAA (pv 6) ZAD)))
  (ZAH (ZAJ (i:=4) sc_joined.nd rfl (by walk_at "o") ZAF))) ZAe)))))))
  (ZAB (PS.nox (ZAi (ZBT t_Join_take_rest (hr.mono (by decide)) ZAY (pv 3) (ZAA (ZBQ rfl T.c_LEFT) ZAD))))
  (ZAB (PS.nox (ZAi (ZBT t_Join_take_rest (hr.mono (by decide)) ZAY (pv 3) (ZAA (ZBQ rfl T.c_RIGHT) ZAD))))
  (ZAH (PS.nox (ZAX (ZA6 ZBC rfl T.b_list PyProof.Rows.boot_list (ZAA (ZAN (pv 3) rfl) ZAD))))))))))),?_⟩
 walk_at "rd"
 intro jn dj hjn hdj njd
 have hjn':upd H dj (.own jn) jn=none:=by rw [ZAI (Ne.symm njd)];exact hjn
 have s1:Same H (upd (upd H dj (.own jn)) jn (.ins C_Join dj [])):=(ZAK hdj _).trans (ZAK hjn' _)
 refine ⟨jn,dj,a,al,ar,ls,rs,rfl,ZAG,s1 _ _ hal,s1 _ _ har,fun sd la ra tk pc H2 k2 nsd nla nra ntk npc js=>⟨rfl,?_⟩⟩
 have u2:Same H H2:=fun b o h=>k2 b o (ZAC h hjn) (s1 _ _ h)
 have st2:=st.mono u2
 have fH:∀ {b:Addr},upd (upd H dj (.own jn)) jn (.ins C_Join dj []) b=none->H b=none:=fun h=>s1.free h
 have n3:∀ {b:Addr},H b=none->b∉[a,lg,tl]:=fun {b} hb=>by
  obtain ⟨w1,h1,_⟩:=st.hlg
  obtain ⟨w2,h2,_⟩:=st.htl
  exact ZEI (st.ha.neN hb) (Ne.symm (ZAC h1 hb)) (Ne.symm (ZAC h2 hb))
 have n2:∀ {b:Addr} {o:HO},H b=some o->b∉[tk,pc]:=fun {b o} hb z=>by
  rcases yAE.mp z with z | z
  .exact ZAC hb (fH ntk) z
  .exact ZAC hb (fH npc) (yAS.mp z)
 have nx:NX a rl lg tl jn sd la ra tk pc:=by
  obtain ⟨w1,h1,_⟩:=st.hlg
  obtain ⟨w2,h2,_⟩:=st.htl
  exact ⟨⟨n3 hjn,n3 (fH nsd),n3 (fH nla),n3 (fH nra),n3 (fH ntk),n3 (fH npc)⟩,n2 st.hrl,n2 h1,n2 h2⟩
 have fr0:∀ {H':Hp},Fr [a,lg,tl,tk,pc] H2 H'->Fr [a,lg,tl] H H':=fun f b o n h=>f b o (fun z=>by
  rcases yAE.mp z with z | z
  .exact n (by rw [z];exact yAF)
  rcases yAE.mp z with z | z
  .exact n (by rw [z];exact yAD _ yAF)
  rcases yAE.mp z with z | z
  .exact n (by rw [z];exact yAD _ (yAD _ yAF))
  .exact n2 h z) (u2 _ _ h)
 refine ZBV (JInv mo C_Asker (RuM.mk C_AskedRule mg) C_Join ks xs a rl ru tl g lg al ar jn sd la ra tk pc pr ls rs H2) ⟨_,JInv.of (i:=0) (j:=0) (w:=0) (s:=true) (dn:=[]) (as:=[]) (yAI _) (yAI _) (by decide) rfl (yAA _) .refl (by rw [yAQ];exact st2) js fun ps L h=>h⟩ ?_
 rintro mm' σ H' ⟨i,j,w,s,v6,dn,as,rfl,rfl,hi,hj,hw,hdl,hal',fr,s',js',hg⟩
 walk_at "rd"
 apply onceP (¬ (i < ls.length /\ j < rs.length))
 .intro tailp
  refine js'.hj.meth (by walk_at "lk") ⟨true,jn,a,sd,la,ra,tk,pc,ls,rs,i,j,dn,rfl,js',?_⟩
  refine ⟨_,rfl,?_⟩
  by_cases hil:i < ls.length
  .rw [decide_eq_true hil,if_pos rfl]
   refine js'.hj.meth (by walk_at "lk") ⟨false,jn,a,sd,ra,la,tk,pc,rs,ls,j,i,dn,rfl,js'.swap,?_⟩
   refine ⟨_,rfl,?_⟩
   by_cases hjr:j < rs.length
   .rw [decide_eq_true hjr,if_pos rfl]
    refine ZBW ?_
    walk_at "rd"
    have hx:=yAL hil
    have hy:=yAL hjr
    generalize ls[i]=x at hx
    generalize rs[j]=y at hy
    have hxm:=yBB hx
    have hym:=yBB hy
    have hxy:=hdis x hxm y hym
    refine js'.hj.meth (by walk_at "lk") ⟨mo,ks,xs,a,rl,ru,tl,g,lg,jn,sd,la,ra,tk,pc,_,ls,rs,dn,i,j,x,y,rfl,s',js',nx,hx,hy,hxy,hlk x hxm,hrk y hym,by rw [yAB];omega,by omega,by omega,ex.sub (fr0 fr) fun n hn=>jt_more hlp hrp hdis hil hjr hg hn,fun H3 f3 s3 jL jR=>?_⟩
    rw [yAJ] at s3
    walk_at "rd"
    obtain ⟨b,ma,ta,ms,ts,mi,tj,u,v,eb,hbb,hmi,hu,hv,huv,jB,nxB,hmp,hml,htl',hmk,hvk,emm,eij,hgB⟩:∃ (b:Bool) (ma ta:Addr) (ms ts:List Nat) (mi tj u v:Nat),decide (lx ks x y)=b /\ ((b=true /\ ma=la /\ ta=ra /\ ms=ls /\ ts=rs)∨(b=false /\ ma=ra /\ ta=la /\ ms=rs /\ ts=ls)) /\ mi < ms.length /\ ms[mi]?=some u /\ ts[tj]?=some v /\ lx ks u v /\ JS C_Join H3 b jn a sd ma ta tk pc ms ts (mi+1) tj (dn++[u]) /\ NX a rl lg tl jn sd ma ta tk pc /\ ms.Pairwise (lx ks) /\ ms.length <= 250 /\ ts.length <= 250 /\ (∀ c∈ms,c < ks.length /\ c≠v) /\ v < ks.length /\ (max x y,min x y)=(max u v,min u v) /\ mi+tj=i+j /\ ∀ ps L,JT ks ms ts mi tj w (if b then s else !s) ps L->JT ks ms ts 0 0 0 b (dn++ps) (as++L):=by
     by_cases hd:lx ks x y
     .exact ⟨true,la,ra,ls,rs,i,j,x,y,decide_eq_true hd,.inl ⟨rfl,rfl,rfl,rfl,rfl⟩,hil,hx,hy,hd,jL hd,nx,hlp,hll,hrl,fun c hc=>⟨hlk c hc,hdis c hc y hym⟩,hrk y hym,rfl,rfl,fun ps L h=>hg ps L h⟩
     .exact ⟨false,ra,la,rs,ls,j,i,y,x,decide_eq_false hd,.inr ⟨rfl,rfl,rfl,rfl,rfl⟩,hjr,hy,hx,ZEX hxy hd,(jR hd).swap,nx.swap,hrp,hrl,hll,fun c hc=>⟨hrk c hc,fun e=>hdis x hxm c hc e.symm⟩,hlk x hxm,mm_comm x y,Nat.add_comm _ _,fun ps L h=>JT.swap (hg ps L (JT.swap h))⟩
    rw [eb]
    rw [emm] at s3
    have htj:=(yAH.mp hv).1
    clear jL jR eb emm
    apply ZEG (fun (n:Int)=>n=(nw w (if b then s else !s):Nat))
    .intro tailp
     by_cases hs:sv b=sv s
     .rw [if_pos hs]
      obtain ⟨n,hn⟩:∃ n:Int,n=w+1:=⟨_,rfl⟩
      rw [<- hn]
      refine tailp n ?_
      rw [hn]
      revert hs
      cases b <;> cases s <;> intro hs <;> first | rfl | cases hs
     .rw [if_neg hs]
      refine tailp 1 ?_
      revert hs
      cases b <;> cases s <;> intro hs <;> first | rfl | exact absurd rfl hs
    rintro n rfl
    generalize (if b then s else !s)=sb at hgB
    have hnw:nw w sb <= 4:=by unfold nw;split <;> omega
    have hdB:=jB.hpc
    by_cases h4:nw w sb=4
    .rw [if_pos (by omega)]
     obtain ⟨z,z1,z2,z3⟩:=spot_ex hmp (pl:=v) (ms.length-(mi+1)) (mi+1) (by omega)
     refine jB.hj.meth (by walk_at "lk") ⟨mo,ks,xs,a,rl,ru,tl,g,lg,jn,sd,ma,ta,tk,pc,b,_,ms,ts,_,mi+1,tj,v,z,rfl,s3,jB,nxB,hv,by omega,hmk,hvk,by rw [yAB,yAB,yAT];omega,by rw [yAB,yAT];omega,z1,z2,z3,ex.sub (fr0 (fr.trans f3)) fun n hn=>jt_leap hbb hlp hrp hdis hu hv huv h4 z1 z2 z3 hgB hn,fun H4 G f4 hG s4 j1 j2=>?_⟩
     have hGl:G.length <= 18:=by
      have:=hG.looks z1 z2
      have:=ZDl (g:=z-(mi+1)) (c:=9) (by show _ < 512;omega)
      omega
     rw [yAJ,yAJ] at s4
     have hasl:(as++([(max u v,min u v)]++List.map (ask1 ms v) G)).length <= as.length+19:=by rw [yAB,yAB,yAT,yAC];omega
     by_cases hz:z < ms.length
     .refine JInv.fin hbb (w':=0) z2 (show tj+1 <= ts.length by omega) (by decide) (by omega) ?_ (by omega) ((fr.trans f3).trans f4) s4 (j1 hz) (fun ps L h=>?_) hi hj
      .rw [yAB,yAB,yAB,yAM,yAR,yAT,yAT];omega
      .have:=hgB _ _ (JT.leap hu hv huv h4 z1 hz z3 hG h)
       rw [seg_cons hu z1] at this
       simpa [yAJ] using this
     .have ez:z=ms.length:=by omega
      have j2:=j2 ez
      subst ez
      refine JInv.fin hbb (w':=0) (yAA _) (yBP htj) (by decide) (by omega) ?_ (by omega) ((fr.trans f3).trans f4) s4 j2 (fun ps L h=>?_) hi hj
      .rw [yAB,yAB,yAM,yAR,yAT];omega
      .have:=hgB _ _ (JT.last hu hv huv h4 (fun k c h1 h2=>(z3 k c h1 h2).mpr (yAH.mp h2).1) hG h)
       rw [ZB5 hu] at this
       rw [yBQ (by rw [yAR];exact yAA _)]
       simpa [yAJ] using this
    .rw [if_neg (by omega)]
     refine JInv.fin hbb hmi (yBP htj) (by omega) (by omega) ?_ ?_ (fr.trans f3) s3 jB (fun ps L h=>?_) hi hj
     .rw [yAB,yAT];omega
     .rw [yAB,yAT];omega
     .have:=hgB _ _ (JT.step hu hv huv h4 h)
      simpa [yAJ] using this
   .rw [decide_eq_false hjr,if_neg (by decide)]
    exact tailp (by omega)
  .rw [decide_eq_false hil,if_neg (by decide)]
   exact tailp (by omega)
 intro hn
 have hdone:=hg _ _ (JT.done (s:=s) (w:=w) hn)
 refine js'.hj.meth (by walk_at "lk") ⟨true,jn,a,sd,la,ra,tk,pc,ls,rs,i,j,dn,rfl,js',hi,by omega,fun H3 f3 js3=>?_⟩
 have s3:=s'.apart f3 js'.lsts nx.n2
 refine js3.hj.meth (by walk_at "lk") ⟨false,jn,a,sd,ra,la,tk,pc,rs,ls,j,ls.length,_,rfl,js3.swap,hj,by rw [yAB,yAR];omega,fun H4 f4 js4=>?_⟩
 have s4:=s3.apart f4 js3.lsts nx.n2
 rw [yAJ] at js4
 rw [yAQ] at hdone
 refine js4.hj.get T.cl_Join T.n_Join_places (by walk_at "lk") ⟨pc,_,rfl,.inl (SqL.of js4.hpc),fun l hl=>?_⟩
 have fr4:Fr [a,lg,tl,tk,pc] H2 H4:=(fr.trans (fr5b f3)).trans (fr5b f4)
 refine q l _ _ as ((fr0 fr4).trans (ZAK hl _).fr) ?_ ZAG hdone (s4.mono (ZAK hl _))
 cases e:H l with
 | none=>rfl
 | some o=>
  by_cases hm:l∈[a,lg,tl]
  .obtain ⟨ws4,h5,_⟩:=s4.hlg
   obtain ⟨us4,h6,_⟩:=s4.htl
   rcases yAE.mp hm with z | z
   .exact absurd z (s4.ha.neN hl)
   rcases yAE.mp z with z | z
   .rw [z,h5] at hl;cases hl
   .rw [yAS.mp z,h6] at hl;cases hl
  .rw [fr0 fr4 l o hm e] at hl;cases hl
theorem ok_grade {f:Addr} {fd:FuncData} (F:Fun K "grade" "grade" ZCr f fd) (T:Bt K mg C_Join C_Pile C_Asker C_AskedRule C_HallError C_Spent)
 :FnOk P w K mg base CX0 1 f fd ["many","first","middle","beyond"] (ZEC):=by
 refine F.ok sc_grade (fun vs H Q E h=>?_) (fun cdv A outer s H vs Q E hr h=>?_)
 .obtain ⟨m,a,b,c,rfl,h1,hm,ha,hab,hbc,hcm,q⟩:=h
  rfl
 obtain ⟨m,a,b,c,rfl,h1,hm,ha,hab,hbc,hcm,q⟩:=h
 refine ⟨_,(ZAB (ZAJ (i:=4) sc_grade.nd rfl (by walk_at "o") (ZAO ZB1 ZAF (ZAO ZAj (pv 1) (pv 2))))
  (ZAB (ZAJ (i:=5) sc_grade.nd rfl (by walk_at "o") (ZAO ZB1 ZAF (ZAO ZAj (pv 2) (pv 3))))
  (ZAB (ZAJ (i:=6) sc_grade.nd rfl (by walk_at "o") ZAF)
  (ZAB (ZBY PassesOwn.never (ZAS ZCu (ZAO ZC1 (pv 4) (ZAO ZB1 ZAF (pv 0))) (ZAO ZC1 (pv 5) (ZAO ZB1 ZAF (pv 0))) (ZAV _))
  (ZAB (ZAJ (i:=4) sc_grade.nd rfl (by walk_at "o") (ZAO ZB1 ZAF (pv 4)))
  (ZAB (ZAJ (i:=5) sc_grade.nd rfl (by walk_at "o") (ZAO ZB1 ZAF (pv 5)))
  (ZAH (ZEU (i:=6) sc_grade.nd rfl (by walk_at "o") ZAF ZEZ)))))
  (ZAH (ZAX (pv 6))))))),?_⟩
 walk_at "rd"
 refine ⟨.inl ⟨by decide,by decide⟩,.inl ⟨by decide,by decide⟩,?_⟩
 refine ZBV (fun n σ H'=>∃ p:Nat,n=240-p /\ H'=H /\ σ=[some (.int m),some (.int a),some (.int b),some (.int c),some (.int ((a+b) * 2 ^ p)),some (.int ((b+c) * 2 ^ p)),some (.int p)] /\ 1 <= p /\ p <= 240 /\ ∀ r,1 <= r->r < p->Gr.qt m (a+b) r=Gr.qt m (b+c) r) ⟨_,1,rfl,rfl,?_,yAA _,by decide,fun r h1 h2=>by omega⟩ ?_
 .rw [Int.pow_one,Int.mul_comm (a+b),Int.mul_comm (b+c)];rfl
 rintro n σ H' ⟨p,rfl,rfl,rfl,hp1,hp2,hq⟩
 walk_at "rd"
 refine ⟨.inl ⟨by decide,by decide⟩,⟨by omega,by omega⟩,.inl ⟨by decide,by decide⟩,⟨by omega,by omega⟩,?_⟩
 split
 .rename_i he
  have hp3:p < 240:=by
   rcases yCF p 240 with l | l
   .exact l
   .exact absurd he (Gr.qt_ne (by omega) (by omega) (pow240 hm l))
  refine ZBW ?_
  walk_at "rd"
  refine ⟨.inl ⟨by decide,by decide⟩,.inl ⟨by decide,by decide⟩,?_⟩
  walk_at "rd"
  refine ⟨_,?_,p+1,rfl,?_,by omega,by omega,fun r h1 h2=>?_⟩
  .omega
  .rw [dbl,dbl];rfl
  .rcases yCF r p with l | l
   .exact hq r h1 l
   .obtain rfl:r=p:=by omega
    exact he
 .rename_i he
  exact q p ⟨hp1,hq,he⟩ hp2
theorem ok_cell_at {f:Addr} {fd:FuncData} (F:Fun K "_law_cell_at" "_law_cell_at" ZBm f fd) (T:Bt K mg C_Join C_Pile C_Asker C_AskedRule C_HallError C_Spent)
 :FnOk P w K mg base CX0 1 f fd ["_law_script","_law_k"] (ZDy K):=by
 refine F.ok sc_cell_at (fun vs H Q E h=>?_) (fun cdv A outer s H vs Q E hr h=>?_)
 .obtain ⟨a,ns,k,rfl,hS,h0,q⟩:=h
  rfl
 obtain ⟨a,ns,k,rfl,hS,h0,q⟩:=h
 refine ⟨_,(ZAB (ZBS (ZAS ZDH (pv 1) (ZAQ ZAL rfl T.b_len PySem.boot_len (ZAA (pv 0) ZAD)) (ZAV _))
  (ZAH (ZAX (ZAu ZAf (pv 0) (pv 1) (fun _ _=>rfl)))) ZAe)
  (ZAH (ZAX ZAF))),?_⟩
 walk_at "rd"
 refine ⟨a,_,rfl,.inl hS,?_⟩
 walk_at "rd"
 rw [yAC]
 unfold cellOf at q
 split
 .rename_i hk
  rw [if_pos hk] at q
  have hk':k.toNat < ns.length:=by omega
  refine ZAx hS (atI_ints h0 (yAL hk')) ?_
  rw [yAL hk'] at q
  exact q
 .rename_i hk
  rw [if_neg hk] at q
  exact q
theorem ok_blocks {f:Addr} {fd:FuncData} (F:Fun K "_law_blocks" "_law_blocks" ZCI f fd) (T:Bt K mg C_Join C_Pile C_Asker C_AskedRule C_HallError C_Spent)
 :FnOk P w K mg base CX0 1 f fd ["_law_keys","_law_one","_law_two"] (ZFJ):=by
 refine F.ok sc_blocks (fun vs H Q E h=>?_) (fun cdv A outer s H vs Q E hr h=>?_)
 .obtain ⟨a,c1,c2,ks,rfl,ha,hk,q⟩:=h
  rfl
 obtain ⟨a,c1,c2,ks,rfl,ha,hk,q⟩:=h
 refine ⟨_,(ZAB (ZAJ (i:=3) sc_blocks.nd rfl (by walk_at "o") (ZBK ZAD))
  (ZAB (ZAJ (i:=4) sc_blocks.nd rfl (by walk_at "o") ZAF)
  (ZAB (ZBY PassesOwn.never (ZAS ZDH (ZAQ ZAL rfl T.b_len PySem.boot_len (ZAA (pv 3) ZAD)) (ZAQ ZAL rfl T.b_len PySem.boot_len (ZAA (pv 0) ZAD)) (ZAV _))
  (ZAB (ZAJ (i:=5) sc_blocks.nd rfl (by walk_at "o") (ZAQ ZB9 rfl T.b_sorted PyProof.Rows.boot_sorted (ZAA (ZCJ ZCq (pv 0) (ZBo (ZAQ ZAL rfl T.b_len PySem.boot_len (ZAA (pv 3) ZAD))) (ZBo (ZAO ZAj (ZAO ZAj (ZAQ ZAL rfl T.b_len PySem.boot_len (ZAA (pv 3) ZAD)) ZAF) (ZAu ZAf (ZBK (ZAA (ZAO ZA5 (pv 1) ZAF) (ZAA (ZAO ZA5 (pv 2) ZAF) ZAD))) (ZAO ZA5 (pv 4) ZAF) (fun _ _=>rfl))))) ZAD)))
  (ZAB (ZBS (ZAS ZCu (ZAO ZA5 (ZAO ZC1 (ZAO ZBU (pv 1) ZAF) (ZAO ZAj (pv 4) ZAF)) ZAF) ZAF (ZAV _))
  (ZAH (ZAi (pe_bm0 PySem.F.plainAttrs_list PySem.F.slot_list_reverse PySem.F.type_list_reverse mt_reverse (pv 5)))) ZAe)
  (ZAB (ZAJ (i:=3) sc_blocks.nd rfl (by walk_at "o") (ZAO ZEW (pv 3) (pv 5)))
  (ZAH (ZAJ (i:=4) sc_blocks.nd rfl (by walk_at "o") (ZAO ZAj (pv 4) ZAF)))))))
  (ZAH (ZAX (pv 3)))))),?_⟩
 walk_at "rd"
 refine ⟨yAI _,fun r0 hr0=>?_⟩
 obtain ⟨H1,e1,s1,h1⟩:=newH hr0 (.lst [])
 rw [e1];clear e1
 refine ZBV (fun m σ H'=>∃ (rw:Addr) (k:Nat) (v5:Option V) (rs:List Int),m=ks.length-rs.length /\ σ=[some (.ref a),some (.int c1),some (.int c2),some (.ref rw),some (.int k),v5] /\ k <= rs.length /\ rs.length <= ks.length /\ Same H H' /\ H rw=none /\ H' rw=some (.lst (rs.map V.int))) ⟨_,r0,0,_,[],rfl,rfl,yAI _,yAI _,s1,hr0,h1⟩ ?_
 rintro m σ H' ⟨rw,k,v5,rs,rfl,rfl,hkr,hrs,s2,hrw0,hrw⟩
 walk_at "rd"
 refine ⟨rw,_,rfl,.inl (SqL.of hrw),a,_,rfl,.inl (SqL.of (s2 _ _ ha)),?_⟩
 rw [yAC,yAC]
 walk_at "rd"
 by_cases hlt:rs.length < ks.length
 .rw [if_pos (by omega)]
  refine ZBW ?_
  walk_at "rd"
  refine ⟨rw,_,rfl,.inl (SqL.of hrw),rw,_,rfl,.inl (SqL.of hrw),by decide,by decide,ZAU (by decide),fun p hp=>⟨by decide,?_⟩⟩
  rw [yAC]
  obtain ⟨H3,e3,s3,h3⟩:=newH hp (.lst [.int (c1 % 17),.int (c2 % 40)])
  rw [e3];clear e3
  obtain ⟨b,hb0,hb⟩:∃ b:Nat,0 <= b /\ atI [V.int (c1 % 17),V.int (c2 % 40)] ((k:Int) % 2)=some (V.int (b:Int)):=by
   have m0:(k:Int) % 2=0∨(k:Int) % 2=1:=by omega
   have g1:=Int.emod_nonneg c1 (show (17:Int)≠0 by decide)
   have g2:=Int.emod_nonneg c2 (show (40:Int)≠0 by decide)
   rcases m0 with e | e <;> rw [e]
   .exact ⟨(c1 % 17).toNat,yAI _,by rw [Int.toNat_of_nonneg g1];exact ZAv (by decide) rfl⟩
   .exact ⟨(c2 % 40).toNat,yAI _,by rw [Int.toNat_of_nonneg g2];exact ZAv (by decide) rfl⟩
  refine ZAx (SqL.of h3) hb ?_
  walk_at "rd"
  refine ZDK (SqL.of (s3 _ _ (s2 _ _ ha))) fun sl hsl=>?_
  rw [ZCm,show (rs.length:Int)+1+(b:Int)=((rs.length+1+b:Nat):Int) by omega,HT.sIx_nat,HT.sIx_nat,yBK hrs]
  obtain ⟨bl,ebl⟩:∃ bl,(ks.drop rs.length).take (min (rs.length+1+b) ks.length-rs.length)=bl:=⟨_,rfl⟩
  have hbl:1 <= bl.length /\ rs.length+bl.length <= ks.length:=by rw [<- ebl,yAM,yAR];omega
  rw [ebl];clear ebl
  obtain ⟨H4,e4,s4,h4⟩:=newH hsl (.lst (bl.map V.int))
  rw [e4];clear e4
  refine ⟨sl,bl,rfl,SqL.of h4,by omega,fun l ms hl hperm _=>⟨⟨by decide,by decide⟩,⟨by omega,by omega⟩,by decide,?_⟩⟩
  have hml:=hperm.length_eq
  have S4:Same H H4:=s2.trans (s3.trans s4)
  have hrw4:=s4 _ _ (s3 _ _ hrw)
  have nrl:rw≠l:=ZAC hrw4 hl
  apply ZEG (fun X:Hp=>Same H X /\ X rw=some (.lst (rs.map V.int)) /\ ∃ us:List Int,us.length=bl.length /\ X l=some (.lst (us.map V.int)))
  .intro tailp
   by_cases hc:c1 / 17 / ((k:Int)+1) % 2=1
   .rw [if_pos hc]
    refine ⟨.inl ⟨rfl,_,SqL.of ZAG⟩,l,_,rfl,rfl,ZAG,?_⟩
    rw [ZDP,<- List.map_reverse]
    obtain ⟨X,eX,sX,hX⟩:=newH hl (.lst (ms.reverse.map V.int))
    rw [eX];clear eX
    exact tailp X ⟨S4.trans sX,sX _ _ hrw4,ms.reverse,by rw [List.length_reverse,hml],hX⟩
   .rw [if_neg hc]
    obtain ⟨X,eX,sX,hX⟩:=newH hl (.lst (ms.map V.int))
    rw [eX];clear eX
    exact tailp X ⟨S4.trans sX,sX _ _ hrw4,ms,hml,hX⟩
  rintro X ⟨sX,hrwX,us,hul,hX⟩
  refine ⟨rw,l,_,_,rfl,rfl,hrwX,hX,ZAU (by rw [yAC,yAC];omega),fun p2 hp2=>?_⟩
  refine ⟨_,?_,p2,k+1,_,rs++us,rfl,by rw [show (k:Int)+1=((k+1:Nat):Int) by omega],?_,?_,sX.new hp2,sX.free hp2,by rw [ZAG,yAN]⟩ <;> rw [yAB] <;> omega
 .rw [if_neg (by omega)]
  walk_at "rd"
  exact q rw H' rs s2 hrw0 hrw (by omega)
theorem ok_keys_by {f:Addr} {fd:FuncData} (F:Fun K "_law_keys_by" "_law_keys_by" ZBk f fd) (T:Bt K mg C_Join C_Pile C_Asker C_AskedRule C_HallError C_Spent)
  (f_cell_at:Fn P w K mg base CX0 "_law_cell_at" 1 ["_law_script","_law_k"] (ZDy K))
 :FnOk P w K mg base CX0 2 f fd ["_law_script","_law_many","_law_most"] (ZDW K):=by
 refine F.ok sc_keys_by (fun vs H Q E h=>?_) (fun cdv A outer s H vs Q E hr h=>?_)
 .obtain ⟨a,ns,m,rfl,hS,h63,hm0,hm1,q⟩:=h
  rfl
 obtain ⟨a,ns,m,rfl,hS,h63,hm0,hm1,q⟩:=h
 refine ⟨_,(ZAB (ZBS (ZAS ZCu (ZAO ZA5 (ZAO ZBU (ZBD f_cell_at (hr.mono (by decide)) rfl ZAY (ZAA (pv 0) (ZAA ZAF ZAD))) ZAF) ZAF) ZAF (ZAV _))
  (ZAH (ZAX (ZDg rfl (k:=1) (js:=[1]) (N':=["_law_cell","_law_many"]) (by rfl) (ZDd (ZCJ ZCq (pv 0) (ZBo ZAF) (ZBo (ZAO ZAj ZAF (pv 2))))) (fun _ _ _ _=>ZBp (i:=0) (show (["_law_cell","_law_many"]:List Str).Nodup by decide +kernel) rfl (by walk_at "o")) (fun _ _ _ _=>ZCz) (fun _ _ _ _=>(ZAO ZA5 (pv 0) (pv 1)))))) ZAe)
  (ZAT
  (ZAB (ZAJ (i:=3) sc_keys_by.nd rfl (by walk_at "o") (ZAO ZBU (ZBD f_cell_at (hr.mono (by decide)) rfl ZAY (ZAA (pv 0) (ZAA ZAF ZAD))) (ZAO ZAj (ZAQ (ZCA rfl) rfl T.b_min PyProof.Rows.boot_min (ZAA (pv 2) (ZAA ZAF ZAD))) ZAF)))
  (ZAB (ZAJ (i:=4) sc_keys_by.nd rfl (by walk_at "o") (ZBK ZAD))
  (ZAB (ZET PassesOwn.never rfl (pi_range1 rfl T.b_range (ZAA (ZAO ZA5 (ZBD f_cell_at (hr.mono (by decide)) rfl ZAY (ZAA (pv 0) (ZAA ZAF ZAD))) (ZAO ZAj (ZAQ (ZCA rfl) rfl T.b_min PyProof.Rows.boot_min (ZAA (pv 2) (ZAA ZAF ZAD))) ZAF)) ZAD)) (ZBp (i:=5) sc_keys_by.nd rfl (by walk_at "o"))
  (ZAB (ZBS (ZAS ZDH (pv 3) ZAF (ZAV _))
  (ZAH (ZAJ (i:=3) sc_keys_by.nd rfl (by walk_at "o") (ZAO ZAj (ZAO ZB1 (ZAQ call_absI rfl T.b_abs PyProof.Rows.boot_abs (ZAA (ZBD f_cell_at (hr.mono (by decide)) rfl ZAY (ZAA (pv 0) (ZAA (ZAO ZAj ZAF (pv 5)) ZAD))) ZAD)) ZAF) (ZAO ZB1 (ZAO ZB1 ZAF (pv 5)) (pv 5))))) ZAe)
  (ZAB (ZAi (ZCt PySem.F.plainAttrs_list PySem.F.slot_list_append PySem.F.type_list_append ZB2 (pv 4) (ZAA (ZAO ZA5 (pv 3) (pv 1)) ZAD)))
  (ZAH (ZAJ (i:=3) sc_keys_by.nd rfl (by walk_at "o") (ZAO ZC1 (pv 3) (pv 1)))))))
  (ZAH (ZAX (pv 4)))))))),?_⟩
 walk_at "rd"
 refine ⟨a,ns,1,rfl,hS,by decide,?_⟩
 generalize cellOf ns 1=c1
 walk_at "rd"
 refine ⟨⟨by decide,by decide⟩,by decide,?_⟩
 by_cases hc:c1 / 4 % 2=0
 .rw [if_pos hc]
  refine ZDK hS fun sl hsl=>?_
  rw [ZCm]
  obtain ⟨bl,ebl⟩:∃ bl,(ns.drop (HT.sIx ns.length 0 (some 5))).take (HT.sIx ns.length ns.length (some (5+24))-HT.sIx ns.length 0 (some 5))=bl:=⟨_,rfl⟩
  have hbl:bl.length <= 24:=by
   rw [<- ebl,yAM,yAR,show (some (5+24:Int))=some ((29:Nat):Int) from rfl,show (some (5:Int))=some ((5:Nat):Int) from rfl,HT.sIx_nat,HT.sIx_nat];omega
  rw [ebl];clear ebl
  obtain ⟨H4,e4,s4,h4⟩:=newH hsl (.lst (bl.map V.int))
  rw [e4];clear e4
  refine compL_of (SqL.of h4) (by rw [yAC];omega) (fun i ys σ H'=>∃ v,σ=[v,some (.int m)] /\ H'=H4 /\ ∃ cs:List Int,ys=cs.map V.int /\ cs.length=i) ⟨_,rfl,rfl,[],rfl,rfl⟩ (fun i ys σ H' _ ⟨_,_,e,cs,e2,e3⟩=>⟨by rw [e];exact SqL.of h4,by rw [e2,yAC];omega⟩) ?_ ?_
  .rintro i ys x σ H' hi hx ⟨v,rfl,rfl,cs,rfl,hcs⟩
   obtain ⟨n,hn',rfl⟩:=get_ints hx
   walk_at "rd"
   refine ⟨hm0,?_⟩
   exact Nxt.of hi ⟨_,rfl,rfl,cs++[_],by rw [yAN];rfl,by rw [yAB,hcs];rfl⟩
  rintro ys σ H2 ⟨v,rfl,rfl,cs,rfl,hcs⟩ k1 hk1
  rw [yAC] at hcs
  exact q k1 _ cs (s4.trans (ZAK hk1 _)) (s4.free hk1) ZAG (by omega)
 rw [if_neg hc]
 refine ZAa ?_
 walk_at "rd"
 refine ⟨a,ns,5,rfl,hS,by decide,_,_,rfl,?_⟩
 generalize cellOf ns 5=c5
 walk_at "rd"
 rw [show ((if (60:Int) < 24 then (60:Int) else 24)+1)=25 from rfl]
 refine ⟨⟨by decide,by decide⟩,yAI _,fun p hp=>?_⟩
 obtain ⟨H1,e1,s1,h1⟩:=newH hp (.lst [])
 rw [e1];clear e1
 refine ⟨a,ns,5,rfl,s1.seq hS,by decide,_,_,rfl,?_⟩
 generalize cellOf ns 5=c6
 walk_at "rd"
 rw [show ((if (60:Int) < 24 then (60:Int) else 24)+1)=25 from rfl]
 refine ⟨by decide,?_⟩
 have r0:=Int.emod_nonneg c6 (show (25:Int)≠0 by decide)
 have r1:=Int.emod_lt_of_pos c6 (show (0:Int) < 25 by decide)
 obtain ⟨z0,ez⟩:∃ z0,c5 / 25=z0:=⟨_,rfl⟩
 rw [ez]
 refine forR1_of (by omega) (forR_of (fun i σ H'=>∃ (z:Int) (rs:List Int) (v5:Option V),σ=[some (.ref a),some (.int m),some (.int 24),some (.int z),some (.ref p),v5] /\ Same H H' /\ H' p=some (.lst (rs.map V.int)) /\ rs.length=i) ⟨z0,[],_,rfl,s1,h1,rfl⟩ ?_ ?_)
 .rintro i σ H' hi ⟨z,rs,v5,rfl,s2,h2,hz⟩
  walk_at "rd"
  apply ZEG (fun y:Int=>True)
  .intro tailp
   by_cases hz1:z < 1
   .rw [if_pos hz1]
    refine ⟨a,ns,6+(0+(i:Int)),rfl,s2.seq hS,by omega,_,rfl,?_⟩
    walk_at "rd"
    refine ⟨.inr ⟨by decide,by decide⟩,.inr ⟨by omega,by omega⟩,.inr ⟨by omega,by omega⟩,?_⟩
    obtain ⟨y,ey⟩:∃ y,(if cellOf ns (6+(0+(i:Int))) < 0 then -cellOf ns (6+(0+(i:Int))) else cellOf ns (6+(0+(i:Int)))) * 48271+16807 * (0+(i:Int)) * (0+(i:Int))=y:=⟨_,rfl⟩
    rw [ey]
    exact tailp y trivial
   .rw [if_neg hz1]
    exact tailp z trivial
  intro y _
  refine ⟨.inl ⟨rfl,_,SqL.of h2⟩,hm0,p,_,_,rfl,rfl,h2,ZBc (by rw [yAC];omega),⟨hm0,Int.lt_of_le_of_lt hm1 (by decide)⟩,?_⟩
  exact ⟨_,rs++[_],_,rfl,s2.upd hp,by rw [ZAG,yAN];rfl,by rw [yAB,hz];rfl⟩
 .rintro σ H' ⟨z,rs,v5,rfl,s2,h2,hz⟩
  walk_at "rd"
  exact q p H' rs s2 hp h2 (by omega)
theorem ok_row_by {f:Addr} {fd:FuncData} (F:Fun K "_law_row_by" "_law_row_by" ZCF f fd) (T:Bt K mg C_Join C_Pile C_Asker C_AskedRule C_HallError C_Spent)
  (f_keys_by:Fn P w K mg base CX0 "_law_keys_by" 2 ["_law_script","_law_many","_law_most"] (ZDW K))
  (f_cell_at:Fn P w K mg base CX0 "_law_cell_at" 1 ["_law_script","_law_k"] (ZDy K))
  (f_blocks:Fn P w K mg base CX0 "_law_blocks" 1 ["_law_keys","_law_one","_law_two"] (ZFJ))
 :FnOk P w K mg base CX0 3 f fd ["_law_script"] (ZD9 K):=by
 refine F.ok sc_row_by (fun vs H Q E h=>?_) (fun cdv A outer s H vs Q E hr h=>?_)
 .obtain ⟨a,ns,rfl,hS,h63,q⟩:=h
  rfl
 obtain ⟨a,ns,rfl,hS,h63,q⟩:=h
 refine ⟨_,(ZAB (ZAJ (i:=1) sc_row_by.nd rfl (by walk_at "o") (ZAu ZAf (ZBK (ZAA ZAF (ZAA ZAF (ZAA ZAF (ZAA (ZAO op_pow ZAF ZAF) ZAD))))) (ZAO ZA5 (ZBD f_cell_at (hr.mono (by decide)) rfl ZAY (ZAA (pv 0) (ZAA ZAF ZAD))) ZAF) (fun _ _=>rfl)))
  (ZAT
  (ZAB (ZAJ (i:=2) sc_row_by.nd rfl (by walk_at "o") (ZBD f_keys_by (hr.mono (by decide)) rfl ZAY (ZAA (pv 0) (ZAA (pv 1) (ZAA ZAF ZAD)))))
  (ZAT
  (ZAB (ZAJ (i:=3) sc_row_by.nd rfl (by walk_at "o") (ZAO ZA5 (ZBD f_cell_at (hr.mono (by decide)) rfl ZAY (ZAA (pv 0) (ZAA ZAF ZAD))) ZAF))
  (ZAB (ZAJ (i:=4) sc_row_by.nd rfl (by walk_at "o") (ZBD f_cell_at (hr.mono (by decide)) rfl ZAY (ZAA (pv 0) (ZAA ZAF ZAD))))
  (ZAB (ZAJ (i:=5) sc_row_by.nd rfl (by walk_at "o") (ZBD f_cell_at (hr.mono (by decide)) rfl ZAY (ZAA (pv 0) (ZAA ZAF ZAD))))
  (ZAT
  (ZAB (ZBS (ZAS ZCu (pv 3) ZAF (ZAV _))
  (ZAH (ZAJ (i:=2) sc_row_by.nd rfl (by walk_at "o") (ZBD f_blocks (hr.mono (by decide)) rfl ZAY (ZAA (pv 2) (ZAA (pv 4) (ZAA (pv 5) ZAD)))))) ZAe)
  (ZAT
  (ZAB (ZBS (PW.pt (ZC7 (ZAS ZCu (pv 3) ZAF (ZAV _)) (ZCU (ZAS (ZCe hr.units) (pv 2) (ZBK ZAD) (ZAV _)))))
  (ZAB (ZAJ (i:=2) sc_row_by.nd rfl (by walk_at "o") (ZAQ ZB9 rfl T.b_sorted PyProof.Rows.boot_sorted (ZAA (pv 2) ZAD)))
  (ZAH (ZAi (ZCt PySem.F.plainAttrs_list PySem.F.slot_list_insert PySem.F.type_list_insert mt_insert (pv 2) (ZAA (ZAO ZA5 (pv 5) (ZAQ ZAL rfl T.b_len PySem.boot_len (ZAA (pv 2) ZAD))) (ZAA (ZCt PySem.F.plainAttrs_list PySem.F.slot_list_pop PySem.F.type_list_pop ZC2 (pv 2) (ZAA (ZAO ZA5 (pv 4) (ZAQ ZAL rfl T.b_len PySem.boot_len (ZAA (pv 2) ZAD))) ZAD)) ZAD)))))) ZAe)
  (ZAT
  (ZAB (ZBS (PW.pt (ZC7 (ZAS ZCu (pv 3) ZAF (ZAV _)) (ZCU (ZAS (ZCe hr.units) (pv 2) (ZBK ZAD) (ZAV _)))))
  (ZAH (ZAJ (i:=2) sc_row_by.nd rfl (by walk_at "o") (ZAO ZEW (ZCJ ZCq (pv 2) ZEE (ZBo (ZAO ZA5 (pv 4) (ZAQ ZAL rfl T.b_len PySem.boot_len (ZAA (pv 2) ZAD))))) (ZAQ ZB9 rfl T.b_sorted PyProof.Rows.boot_sorted (ZAA (ZCJ ZCq (pv 2) (ZBo (ZAO ZA5 (pv 4) (ZAQ ZAL rfl T.b_len PySem.boot_len (ZAA (pv 2) ZAD)))) ZEE) ZAD))))) ZAe)
  (ZAT
  (ZAH (ZAX (ZDg rfl (k:=1) (js:=[2]) (N':=["_law_k","_law_keys"]) (by rfl) (pi_range1 rfl T.b_range (ZAA (ZAQ ZAL rfl T.b_len PySem.boot_len (ZAA (pv 2) ZAD)) ZAD)) (fun _ _ _ _=>ZBp (i:=0) (show (["_law_k","_law_keys"]:List Str).Nodup by decide +kernel) rfl (by walk_at "o")) (fun _ _ _ _=>ZCz) (fun _ _ _ _=>(ZBJ (ZAA (ZAu (ix_listK K) (pv 1) (pv 0) (fun _ _=>rfl)) (ZAA (pv 0) ZAD))))))))))))))))))))),?_⟩
 walk_at "rd"
 refine ⟨⟨by decide,by decide,by decide⟩,ZAU (by decide),fun p hp=>?_⟩
 obtain ⟨H1,e1,s1,h1⟩:=newH hp (.lst [.int 2,.int 5,.int 100,.int (10 ^ Int.toNat 60)])
 rw [e1];clear e1
 refine ⟨a,ns,0,rfl,s1.seq hS,by decide,?_⟩
 generalize cellOf ns 0=c0
 walk_at "rd"
 refine ⟨by decide,?_⟩
 obtain ⟨b,hb0,hb1,hb⟩:∃ b:Int,0 < b /\ b <= 10 ^ 60 /\ atI [V.int 2,V.int 5,V.int 100,V.int (10 ^ Int.toNat 60)] (c0 % 4)=some (V.int b):=by
  have m0:c0 % 4=0∨c0 % 4=1∨c0 % 4=2∨c0 % 4=3:=by omega
  rcases m0 with e | e | e | e <;> rw [e]
  .exact ⟨2,by decide,by decide,ZAv (by decide) rfl⟩
  .exact ⟨5,by decide,by decide,ZAv (by decide) rfl⟩
  .exact ⟨100,by decide,by decide,ZAv (by decide) rfl⟩
  .exact ⟨10 ^ Int.toNat 60,by decide,by decide,ZAv (by decide) rfl⟩
 refine ZAx (SqL.of h1) hb ?_
 refine ZAa ?_
 walk_at "rd"
 refine ⟨a,ns,b,rfl,s1.seq hS,h63,hb0,hb1,fun k1 H2 r1 s2 hk1 h2 hr1=>?_⟩
 have S2:Same H H2:=s1.trans s2
 refine ZAa ?_
 walk_at "rd"
 refine ⟨a,ns,1,rfl,S2.seq hS,by decide,?_⟩
 generalize cellOf ns 1=c1
 walk_at "rd"
 refine ⟨by decide,a,ns,2,rfl,S2.seq hS,by decide,a,ns,3,rfl,S2.seq hS,by decide,?_⟩
 generalize c1 % 4=cw
 generalize cellOf ns 2=c2
 generalize cellOf ns 3=c3
 refine ZAa ?_
 walk_at "rd"
 apply ZE6 (fun (ky:Addr) (H4:Hp)=>Same H H4 /\ H ky=none /\ ∃ ks:List Int,H4 ky=some (.lst (ks.map V.int)) /\ ks.length <= 24)
 .intro tailp
  by_cases h1:cw=1
  .rw [if_pos h1]
   refine ⟨k1,c2,c3,r1,rfl,h2,hr1,fun l H' rs s' hl h' hr=>?_⟩
   exact tailp l H' ⟨S2.trans s',S2.free hl,rs,h',hr⟩
  .rw [if_neg h1]
   exact tailp k1 H2 ⟨S2,s1.free hk1,r1,h2,hr1⟩
 rintro ky H4 ⟨S4,hky,ks,h4,hks⟩
 clear h2 hr1 s2
 refine ZAa ?_
 walk_at "rd"
 apply ZE6 (fun (ky:Addr) (H4:Hp)=>Same H H4 /\ H ky=none /\ ∃ ks:List Int,H4 ky=some (.lst (ks.map V.int)) /\ ks.length <= 24)
 .intro tailp
  by_cases h1:cw=2
  .rw [if_pos h1]
   refine ⟨yAI _,fun p2 hp2=>?_⟩
   obtain ⟨H5,e5,s5,h5⟩:=newH hp2 (.lst [])
   rw [e5];clear e5
   have S5:=S4.trans s5
   refine ZEt Enc.int.list (by decide) (a:=ks) (b:=[]) (ZBh (SqL.of (s5 _ _ h4))) (ZBh (xs:=[]) (SqL.of h5)) ⟨_,rfl,?_⟩
   by_cases hkn:ks≠[]
   .rw [if_pos (by simp [hkn])]
    refine ⟨ky,ks,rfl,SqL.of (s5 _ _ h4),by omega,fun l ms hl hperm _=>?_⟩
    obtain ⟨H6,e6,s6,h6⟩:=newH hl (.lst (ms.map V.int))
    rw [e6];clear e6
    have hml:=hperm.length_eq
    have hpos:0 < ms.length:=by rw [hml];exact List.length_pos_iff.mpr hkn
    refine ⟨.inl ⟨rfl,_,SqL.of h6⟩,l,_,rfl,.inl (SqL.of h6),?_⟩
    rw [yAC]
    refine ⟨by omega,.inl ⟨rfl,_,SqL.of h6⟩,l,_,rfl,.inl (SqL.of h6),?_⟩
    rw [yAC]
    have g0:=Int.emod_nonneg c2 (show (ms.length:Int)≠0 by omega)
    have g1:=Int.emod_lt_of_pos c2 (show (0:Int) < ms.length by omega)
    have g2:=Int.emod_nonneg c3 (show (ms.length:Int)≠0 by omega)
    have g3:=Int.emod_lt_of_pos c3 (show (0:Int) < ms.length by omega)
    have hi:(c2 % (ms.length:Int)).toNat < ms.length:=by omega
    refine ⟨by omega,l,_,_,(c2 % (ms.length:Int)).toNat,V.int ms[(c2 % (ms.length:Int)).toNat],rfl,rfl,h6,by omega,by omega,PySem.StrLaws.seqIndex_nonneg g0 (by rw [yAC];omega),by rw [yAW,yAL hi];rfl,?_⟩
    rw [er_map]
    obtain ⟨us,eu,ul⟩:=insV_ints (ms.eraseIdx (c2 % (ms.length:Int)).toNat) (c3 % (ms.length:Int)) ms[(c2 % (ms.length:Int)).toNat]
    have el:=List.length_eraseIdx_of_lt hi
    refine ⟨l,_,_,_,rfl,rfl,ZAG,ZBc (by rw [yAC];omega),by omega,?_⟩
    rw [ZDP,eu]
    have sl6:Same H (upd H6 l (.lst (us.map V.int))):=(S5.trans s6).upd (S5.free hl)
    have hl6:upd H6 l (.lst (us.map V.int)) l=some (.lst (us.map V.int)):=ZAG
    generalize upd H6 l (.lst (us.map V.int))=H7 at sl6 hl6 ⊢
    exact tailp l H7 ⟨sl6,S5.free hl,us,hl6,by omega⟩
   .rw [if_neg (by simpa using hkn)]
    exact tailp ky H5 ⟨S5,hky,ks,s5 _ _ h4,hks⟩
  .rw [if_neg h1]
   exact tailp ky H4 ⟨S4,hky,ks,h4,hks⟩
 clear h4 hks hky S4
 clear ks H4 ky
 rintro ky H4 ⟨S4,hky,ks,h4,hks⟩
 refine ZAa ?_
 walk_at "rd"
 apply ZE6 (fun (ky:Addr) (H4:Hp)=>Same H H4 /\ H ky=none /\ ∃ ks:List Int,H4 ky=some (.lst (ks.map V.int)) /\ ks.length <= 24)
 .intro tailp
  by_cases h1:cw=3
  .rw [if_pos h1]
   refine ⟨yAI _,fun p2 hp2=>?_⟩
   obtain ⟨H5,e5,s5,h5⟩:=newH hp2 (.lst [])
   rw [e5];clear e5
   have S5:=S4.trans s5
   refine ZEt Enc.int.list (by decide) (a:=ks) (b:=[]) (ZBh (SqL.of (s5 _ _ h4))) (ZBh (xs:=[]) (SqL.of h5)) ⟨_,rfl,?_⟩
   by_cases hkn:ks≠[]
   .rw [if_pos (by simp [hkn])]
    have hpos:0 < ks.length:=List.length_pos_iff.mpr hkn
    have hk5:=s5 _ _ h4
    refine ⟨ky,_,rfl,.inl (SqL.of hk5),?_⟩
    rw [yAC]
    have g0:=Int.emod_nonneg c2 (show (ks.length:Int)≠0 by omega)
    have g1:=Int.emod_lt_of_pos c2 (show (0:Int) < ks.length by omega)
    obtain ⟨d,ed⟩:∃ d:Nat,c2 % (ks.length:Int)=d:=⟨(c2 % (ks.length:Int)).toNat,by omega⟩
    rw [ed] at g0 g1 ⊢
    walk_at "rd"
    refine ⟨by omega,ZDK (SqL.of hk5) fun l1 hl1=>?_⟩
    rw [ZCm,HT.sIx_none,HT.sIx_nat,yBK (show d <= ks.length by omega),Nat.sub_zero]
    obtain ⟨H6,e6,s6,h6⟩:=newH hl1 (.lst (((ks.drop 0).take d).map V.int))
    rw [e6];clear e6
    have hk6:=s6 _ _ hk5
    refine ⟨ky,_,rfl,.inl (SqL.of hk6),?_⟩
    rw [yAC,ed]
    walk_at "rd"
    refine ⟨by omega,ZDK (SqL.of hk6) fun l2 hl2=>?_⟩
    rw [ZCm,HT.sIx_none,HT.sIx_nat,yBK (show d <= ks.length by omega)]
    obtain ⟨H7,e7,s7,h7⟩:=newH hl2 (.lst (((ks.drop d).take (ks.length-d)).map V.int))
    rw [e7];clear e7
    refine ⟨l2,_,rfl,SqL.of h7,by rw [yAM,yAR];omega,fun l3 ms hl3 hperm _=>?_⟩
    have hml:=hperm.length_eq
    rw [yAM,yAR] at hml
    obtain ⟨H8,e8,s8,h8⟩:=newH hl3 (.lst (ms.map V.int))
    rw [e8];clear e8
    refine ⟨l1,l3,_,_,rfl,rfl,s8 _ _ (s7 _ _ h6),h8,ZAU (by rw [yAC,yAC,yAM,yAR];omega),fun p3 hp3=>?_⟩
    rw [<- yAN]
    obtain ⟨H9,e9,s9,h9⟩:=newH hp3 (.lst (((ks.drop 0).take d++ms).map V.int))
    rw [e9];clear e9
    have S8:Same H H8:=S5.trans (s6.trans (s7.trans s8))
    exact tailp p3 H9 ⟨S8.trans s9,S8.free hp3,_,h9,by rw [yAB,yAM,yAR];omega⟩
   .rw [if_neg (by simpa using hkn)]
    exact tailp ky H5 ⟨S5,hky,ks,s5 _ _ h4,hks⟩
  .rw [if_neg h1]
   exact tailp ky H4 ⟨S4,hky,ks,h4,hks⟩
 clear h4 hks hky S4
 clear ks H4 ky
 rintro ky H4 ⟨S4,hky,ks,h4,hks⟩
 refine ZAa ?_
 walk_at "rd"
 refine ⟨ky,_,rfl,.inl (SqL.of h4),?_⟩
 rw [yAC]
 refine compR1_of (by omega) (fun i ys σ H'=>∃ v,σ=[v,some (.ref ky)] /\ Same H4 H' /\ ys.length=i /\ ∀ (j:Nat) k,j < i->ks[j]?=some k->∃ r,ys[j]?=some (V.ref r) /\ H' r=some (.tup [.int k,.int j])) ⟨_,rfl,.refl _,rfl,fun _ _ h=>by omega⟩ (fun i ys σ H' ⟨_,_,_,l,_⟩=>Nat.le_of_eq l) ?_ ?_
 .rintro i ys σ H' hi ⟨v,rfl,s5,hl,hth⟩
  have hi':i < ks.length:=by omega
  walk_at "rd"
  rw [show (0+(i:Int))=i by omega]
  refine ZAx (SqL.of (s5 _ _ h4)) (atI_ints (v:=ks[i]) (by omega) (by rw [Int.toNat_natCast];exact yAL hi')) ⟨ZAU (by decide),fun t ht=>?_⟩
  refine Nxt.of hi ⟨_,rfl,s5.new ht,by rw [yAB,hl];rfl,fun j k' hj hk'=>?_⟩
  by_cases z:j < i
  .obtain ⟨r,a1,a2⟩:=hth j k' z hk'
   exact ⟨r,by rw [yBH (by omega)];exact a1,ZAK ht _ _ _ a2⟩
  .have:j=i:=by omega
   subst this
   rw [yAL hi'] at hk';cases hk'
   exact ⟨t,by rw [<- hl,yBA (yAA _),yBI];rfl,ZAG⟩
 rintro xs σ H5 ⟨v,rfl,s5,hxl,hth⟩ xl hxl0
 refine q xl _ ks xs (S4.trans (s5.new hxl0)) (S4.free (s5.free hxl0)) ZAG hks ⟨by omega,fun i k hk=>?_⟩
 have hi:=(yAH.mp hk).1
 obtain ⟨r,a1,a2⟩:=hth i k (by omega) hk
 exact ⟨r,a1,ZAK hxl0 _ _ _ a2⟩
theorem ok_Pile_init {f:Addr} {fd:FuncData} {dv:List Value} (F:FunD K "__init__" "Pile.__init__" ZBO f fd dv) (T:Bt K mg C_Join C_Pile C_Asker C_AskedRule C_HallError C_Spent)
  (t_Asker_many:Mt P w K mg base CX0 C_Asker "many" 1 ["self"] (ZDx C_Asker))
 :FnOk P w K mg base CX0 2 f fd ["self","asker","least","part"] (ZCD C_Asker C_Pile):=by
 refine F.ok sc_Pile_init (fun vs H Q E h=>?_) (fun cdv A outer s H vs Q E hr h=>?_)
 .obtain ⟨x,dx,a,ls,s,e,pz,rfl,hx,hpv,q⟩:=h
  rfl
 obtain ⟨x,dx,a,ls,s,e,pz,rfl,hx,hpv,q⟩:=h
 refine ⟨_,(ZAB (ZBE (pv 0) (pv 1) rfl)
  (ZAB (ZBE (pv 0) (pv 2) rfl)
  (ZAB (ZBE (pv 0) (ZBZ (ZAS ZEV (pv 3) ZBz (ZAV _)) ZAF (ZAu ZBd (pv 3) ZAF (fun _ _=>rfl))) rfl)
  (ZAT
  (ZAB (ZBE (pv 0) (ZBZ (ZAS ZEV (pv 3) ZBz (ZAV _)) (ZBF t_Asker_many (hr.mono (by decide)) ZAY (pv 1)) (ZAu ZBd (pv 3) ZAF (fun _ _=>rfl))) rfl)
  (ZAT
  (ZAB (ZBE (pv 0) (ZAN (pv 0) rfl) rfl)
  (ZAB (ZBE (pv 0) (ZBK ZAD) rfl)
  (ZAB (ZBE (pv 0) (ZBK ZAD) rfl)
  (ZAH (ZBE (pv 0) (ZBK ZAD) rfl))))))))))),?_⟩
 walk_at "rd"
 refine setX hx T.cl_Pile T.n_Pile_asker (by decide) fun H2 x2 k2=>?_
 walk_at "rd"
 refine setX x2 T.cl_Pile T.n_Pile_least ZE5 fun H3 x3 k3=>?_
 walk_at "rd"
 have u3:∀ b o,b≠x->H b=some o->H3 b=some o:=fun b o n h=>by rw [k3 b n,k2 b n];exact h
 apply ZEG (fun H4:Hp=>H4 x=some (.ins C_Pile dx (putF "start" (.int s) (putF "least" (.int ls) (putF "asker" (.ref a) [])))) /\ ∀ b,b≠x->H4 b=H3 b)
 .intro tailp
  rcases hpv with ⟨pt,hz,hpt⟩ | ⟨hz,hs0,nax,rl,ru,m,n,tl,us,ha,hrl,hul⟩
  .rw [if_neg (by rw [hz];simp)]
   have hix:∀ {Q':VK},Q' (.int s) H3->rIxT K pz (.int 0) H3 Q':=fun h=>by rw [hz];exact ZBe (SqT.of (u3 _ _ (fun z=>by rw [z,hx] at hpt;cases hpt) hpt)) (ZAv (by decide) rfl) h
   exact hix (setX x3 T.cl_Pile T.n_Pile_start ZE4 fun H4 x4 k4=>tailp H4 ⟨x4,k4⟩)
  .rw [if_pos hz]
   exact setX x3 T.cl_Pile T.n_Pile_start ZE4 fun H4 x4 k4=>tailp H4 ⟨by rw [hs0];exact x4,k4⟩
 rintro H4 ⟨x4,k4⟩
 refine ZAa ?_
 walk_at "rd"
 have u4:∀ b o,b≠x->H b=some o->H4 b=some o:=fun b o n h=>by rw [k4 b n];exact u3 b o n h
 apply ZEG (fun H5:Hp=>H5 x=some (.ins C_Pile dx (putF "end" (.int e) (putF "start" (.int s) (putF "least" (.int ls) (putF "asker" (.ref a) []))))) /\ ∀ b,b≠x->H5 b=H4 b)
 .intro tailp
  rcases hpv with ⟨pt,hz,hpt⟩ | ⟨hz,hs0,nax,rl,ru,m,n,tl,us,ha,hrl,hul⟩
  .rw [if_neg (by rw [hz];simp)]
   have hix:∀ {Q':VK},Q' (.int e) H4->rIxT K pz (.int 1) H4 Q':=fun h=>by rw [hz];exact ZBe (SqT.of (u4 _ _ (fun z=>by rw [z,hx] at hpt;cases hpt) hpt)) (ZAv (by decide) rfl) h
   exact hix (setX x4 T.cl_Pile T.n_Pile_end ZE3 fun H5 x5 k5=>tailp H5 ⟨x5,k5⟩)
  .rw [if_pos hz]
   have nrl:rl≠x:=fun z=>by rw [z,hx] at hrl;cases hrl
   have ha4:Ins H4 a C_Asker (fA rl ru m n tl):=let ⟨d1,f1,e1,e2,e3⟩:=ha.ex;⟨d1,f1,u4 _ _ nax e1,e2,e3⟩
   refine ha4.meth (by walk_at "lk") ⟨a,rl,ru,tl,m,n,us,rfl,ha4,u4 _ _ nrl hrl,?_⟩
   rw [hul]
   exact setX x4 T.cl_Pile T.n_Pile_end ZE3 fun H5 x5 k5=>tailp H5 ⟨x5,k5⟩
 clear hpv
 rintro H5 ⟨x5,k5⟩
 have u5:∀ b o,b≠x->H b=some o->H5 b=some o:=fun b o n h=>by rw [k5 b n];exact u4 b o n h
 clear u3 u4 k2 k3 k4 k5 x2 x3 x4
 refine ZAa ?_
 walk_at "rd"
 refine getF_of x5 T.cl_Pile T.n_Pile_start (by simp only [ZAW,lkc];walk_at "lk") ?_
 refine setX x5 T.cl_Pile T.n_Pile_reached ZFL fun H6 x6 k6=>?_
 walk_at "rd"
 refine ⟨yAI _,fun fs hfs=>?_⟩
 obtain ⟨H7,e7,s7,h7⟩:=newH hfs (.lst [])
 rw [e7];clear e7
 refine setX (s7 _ _ x6) T.cl_Pile T.n_Pile_firsts putL5 fun H8 x8 k8=>?_
 walk_at "rd"
 refine ⟨yAI _,fun od hod=>?_⟩
 obtain ⟨H9,e9,s9,h9⟩:=newH hod (.lst [])
 rw [e9];clear e9
 refine setX (s9 _ _ x8) T.cl_Pile T.n_Pile_orders putL6 fun HA xA kA=>?_
 walk_at "rd"
 refine ⟨yAI _,fun gr hgr=>?_⟩
 obtain ⟨HB,eB,sB,hB⟩:=newH hgr (.lst [])
 rw [eB];clear eB
 refine setX (sB _ _ xA) T.cl_Pile T.n_Pile_grades putL7 fun HC xC kC=>?_
 have nfs:fs≠x:=Ne.symm (ZAC x6 hfs)
 have nod:od≠x:=Ne.symm (ZAC x8 hod)
 have ngr:gr≠x:=Ne.symm (ZAC xA hgr)
 have h8:H8 fs=some (.lst []):=by rw [k8 fs nfs];exact h7
 have hAf:HA fs=some (.lst []):=by rw [kA fs nfs];exact s9 _ _ h8
 have hAo:HA od=some (.lst []):=by rw [kA od nod];exact h9
 have f6:∀ b,b≠x->H6 b=none->H b=none:=fun b n e=>by
  cases eb:H b with
  | none=>rfl
  | some o=>have:=u5 b o n eb;rw [k6 b n,this] at e;cases e
 have f8:∀ b,b≠x->H8 b=none->H b=none:=fun b n e=>f6 b n (s7.free (by rw [<- k8 b n];exact e))
 have fA':∀ b,b≠x->HA b=none->H b=none:=fun b n e=>f8 b n (s9.free (by rw [<- kA b n];exact e))
 refine q fs od gr HC (fun b o n h=>?_) (f6 fs nfs hfs) (f8 od nod hod) (fA' gr ngr hgr) ⟨(Ins.of xC (yAK putL8 (by decide))).congr fun f=>by simp only [ZAW,lkc],by rw [kC fs nfs];exact sB _ _ hAf,by rw [kC od nod];exact sB _ _ hAo,by rw [kC gr ngr];exact hB,trivial,⟨ZAC h8 hod,ZAC hAf hgr,ZAC hAo hgr⟩,fun b hb=>by cases hb⟩
 rw [kC b n]
 refine sB _ _ ?_
 rw [kA b n]
 refine s9 _ _ ?_
 rw [k8 b n]
 refine s7 _ _ ?_
 rw [k6 b n]
 exact u5 b o n h
theorem ok_Pile_beyond_of {f:Addr} {fd:FuncData} (F:Fun K "beyond_of" "Pile.beyond_of" ZAn f fd) (T:Bt K mg C_Join C_Pile C_Asker C_AskedRule C_HallError C_Spent)
 :FnOk P w K mg base CX0 1 f fd ["self","number"] (ZCE C_Pile):=by
 refine F.ok sc_Pile_beyond_of (fun vs H Q E h=>?_) (fun cdv A outer s H vs Q E hr h=>?_)
 .obtain ⟨x,a,fs,od,gr,ls,s,e,r,oa,A,p,B,gs,rfl,pa,q⟩:=h
  rfl
 obtain ⟨x,a,fs,od,gr,ls,s,e,r,oa,A,p,B,gs,rfl,pa,q⟩:=h
 refine ⟨_,(ZAH (ZAX (ZBZ (ZAS ZDH (ZAO ZAj (pv 1) ZAF) (ZAQ ZAL rfl T.b_len PySem.boot_len (ZAA (ZAN (pv 0) rfl) ZAD)) (ZAV _)) (ZAu ZAf (ZAN (pv 0) rfl) (ZAO ZAj (pv 1) ZAF) (fun _ _=>rfl)) (ZAN (pv 0) rfl)))),?_⟩
 walk_at "rd"
 refine pa.hp.get T.cl_Pile T.n_Pile_firsts (by walk_at "lk") ⟨fs,_,rfl,.inl (SqL.of pa.hfs),?_⟩
 rw [yAC,yAC,yAB,yAG]
 cases B with
 | nil=>
  rw [if_neg (by rw [yBR];omega)]
  exact pa.hp.get T.cl_Pile T.n_Pile_reached (by walk_at "lk") q
 | cons p2 B=>
  rw [if_pos (by rw [yAG];omega)]
  refine pa.hp.get T.cl_Pile T.n_Pile_firsts (by walk_at "lk") ?_
  rw [show (A.length:Int)+1=((A.length+1:Nat):Int) by omega]
  exact ZAx (SqL.of pa.hfs) (ZDD (by rw [yAW,ZCh];rfl)) q
theorem ok_Pile_is_due_beneath {f:Addr} {fd:FuncData} (F:Fun K "is_due_beneath" "Pile.is_due_beneath" ZAZ f fd) (T:Bt K mg C_Join C_Pile C_Asker C_AskedRule C_HallError C_Spent)
 :FnOk P w K mg base CX0 1 f fd ["self"] (ZFI C_Pile):=by
 refine F.ok sc_Pile_is_due_beneath (fun vs H Q E h=>?_) (fun cdv A outer s H vs Q E hr h=>?_)
 .obtain ⟨x,a,fs,od,gr,ls,s,e,r,oa,ps,gs,rfl,pa,q⟩:=h
  rfl
 obtain ⟨x,a,fs,od,gr,ls,s,e,r,oa,ps,gs,rfl,pa,q⟩:=h
 refine ⟨_,(ZAH (ZAX (ZEq (ZCV ZEr (ZAQ ZAL rfl T.b_len PySem.boot_len (ZAA (ZAN (pv 0) rfl) ZAD)) ZAF (ZAV _)) (pe_one (ZCV ZEr (ZAu ZAf (ZAN (pv 0) rfl) (ZFM ZEh ZAF) (fun _ _=>rfl)) (ZAu ZAf (ZAN (pv 0) rfl) (ZFM ZEh ZAF) (fun _ _=>rfl)) (ZAV _)))))),?_⟩
 walk_at "rd"
 refine pa.hp.get T.cl_Pile T.n_Pile_grades (by walk_at "lk") ⟨gr,_,rfl,.inl (SqL.of pa.hgr),?_⟩
 rw [yAC]
 by_cases h2:2 <= gs.length
 .rw [if_pos (by omega)]
  obtain ⟨G,g1,g2,rfl⟩:=ZDQ h2
  have hg:=pa.hgr
  rw [show nL (G++[g1,g2])=nL G++[.int (g1:Nat),.int (g2:Nat)] by unfold nL;rw [yAN];rfl] at hg
  refine pa.hp.get T.cl_Pile T.n_Pile_grades (by walk_at "lk") (ZAx (SqL.of hg) atI_m2 ?_)
  refine pa.hp.get T.cl_Pile T.n_Pile_grades (by walk_at "lk") ?_
  rw [show nL G++[V.int (g1:Nat),V.int (g2:Nat)]=(nL G++[.int (g1:Nat)])++[.int (g2:Nat)] by rw [yAJ];rfl] at hg
  refine ZAx (SqL.of hg) atI_m1 ⟨_,_,rfl,rfl,?_⟩
  rw [dueB_two] at q
  have e:decide ((g2:Int) < g1)=decide (g2 < g1):=by rw [decide_eq_decide];omega
  rw [<- e] at q
  exact q
 .rw [if_neg (by omega)]
  rw [dueB_few (by omega)] at q
  exact q
theorem ok_Pile_grade_on_top {f:Addr} {fd:FuncData} (F:Fun K "grade_on_top" "Pile.grade_on_top" ZAb f fd) (T:Bt K mg C_Join C_Pile C_Asker C_AskedRule C_HallError C_Spent)
  (f_grade:Fn P w K mg base CX0 "grade" 1 ["many","first","middle","beyond"] (ZEC))
 :FnOk P w K mg base CX0 2 f fd ["self","middle","beyond"] (ZEA C_Pile):=by
 refine F.ok sc_Pile_grade_on_top (fun vs H Q E h=>?_) (fun cdv A outer s H vs Q E hr h=>?_)
 .obtain ⟨x,a,fs,od,gr,ls,s,e,r,oa,A,p,gs,m,b,rfl,pa,h1,h2,h3,h4,h5,q⟩:=h
  rfl
 obtain ⟨x,a,fs,od,gr,ls,s,e,r,oa,A,p,gs,m,b,rfl,pa,h1,h2,h3,h4,h5,q⟩:=h
 refine ⟨_,(ZAH (ZAX (ZBD f_grade (hr.mono (by decide)) rfl ZAY (ZAA (ZAO ZB0 (ZAN (pv 0) rfl) (ZAN (pv 0) rfl)) (ZAA (ZAO ZB0 (ZAu ZAf (ZAN (pv 0) rfl) (ZFM ZEh ZAF) (fun _ _=>rfl)) (ZAN (pv 0) rfl)) (ZAA (ZAO ZB0 (pv 1) (ZAN (pv 0) rfl)) (ZAA (ZAO ZB0 (pv 2) (ZAN (pv 0) rfl)) ZAD))))))),?_⟩
 walk_at "rd"
 have hf:=pa.hfs
 rw [yAN,show nL (A.map Prod.fst++[p].map Prod.fst)=nL (A.map Prod.fst)++[.int (p.1:Nat)] by unfold nL;rw [yAN];rfl] at hf
 refine pa.hp.get T.cl_Pile T.n_Pile_end (by walk_at "lk") (pa.hp.get T.cl_Pile T.n_Pile_start (by walk_at "lk") ⟨_,_,rfl,rfl,?_⟩)
 refine pa.hp.get T.cl_Pile T.n_Pile_firsts (by walk_at "lk") (ZAx (SqL.of hf) atI_m1 (pa.hp.get T.cl_Pile T.n_Pile_start (by walk_at "lk") ⟨_,_,rfl,rfl,?_⟩))
 refine pa.hp.get T.cl_Pile T.n_Pile_start (by walk_at "lk") ⟨_,_,rfl,rfl,pa.hp.get T.cl_Pile T.n_Pile_start (by walk_at "lk") ⟨_,_,rfl,rfl,?_⟩⟩
 exact ⟨_,_,_,_,rfl,by omega,by omega,by omega,by omega,by omega,by omega,q⟩
theorem ok_Pile_join_two {f:Addr} {fd:FuncData} (F:Fun K "join_two" "Pile.join_two" ZAs f fd) (T:Bt K mg C_Join C_Pile C_Asker C_AskedRule C_HallError C_Spent)
  (f_joined:Fn P w K mg base (CXE P w) "joined" 6 ["asker","left","right"] (ZDX C_Asker (RuM.mk C_AskedRule mg) C_Spent))
  (t_Pile_beyond_of:Mt P w K mg base CX0 C_Pile "beyond_of" 1 ["self","number"] (ZCE C_Pile))
 :FnOk P w K mg base (CXE P w) 7 f fd ["self","lower"] (ZC6 C_Asker (RuM.mk C_AskedRule mg) C_Pile C_Spent):=by
 refine F.okX sc_Pile_join_two (fun vs H Q E h=>?_) (fun cdv A outer s H vs Q E hr h=>?_)
 .obtain ⟨mo,ks,xs,a,rl,ru,tl,g,lg,x,fs,od,gr,pr,ls,s,e,r,oa,A,v1,v2,o1,o2,B,gs,rfl,st,pa,px,ch,hgl,hrk,hk,hpr,ex,q⟩:=h
  rfl
 obtain ⟨mo,ks,xs,a,rl,ru,tl,g,lg,x,fs,od,gr,pr,ls,s,e,r,oa,A,v1,v2,o1,o2,B,gs,rfl,st,pa,px,ch,hgl,hrk,hk,hpr,ex,q⟩:=h
 refine ⟨_,(ZAB (ZAJ (i:=2) sc_Pile_join_two.nd rfl (by walk_at "o") (ZBD f_joined (hr.mono (by decide)) rfl ZDh (ZAA (ZAN (pv 0) rfl) (ZAA (ZAu ZAf (ZAN (pv 0) rfl) (pv 1) (fun _ _=>rfl)) (ZAA (ZAu ZAf (ZAN (pv 0) rfl) (ZAO ZAj (pv 1) ZAF) (fun _ _=>rfl)) ZAD)))))
  (ZAT
  (ZAB (PS.nox (ZAJ (i:=3) sc_Pile_join_two.nd rfl (by walk_at "o") (ZBJ (ZAA ZDN (ZAA (ZAu ZAf (ZAN (pv 0) rfl) (pv 1) (fun _ _=>rfl)) (ZAA (ZAu ZAf (ZAN (pv 0) rfl) (ZAO ZAj (pv 1) ZAF) (fun _ _=>rfl)) (ZAA (ZBT t_Pile_beyond_of (hr.mono (by decide)) ZAY (pv 0) (ZAA (ZAO ZAj (pv 1) ZAF) ZAD)) ZAD)))))))
  (ZAT
  (ZAB (PS.nox (ps_asg (pv 2) (pg_sub (ZAN (pv 0) rfl) (pv 1) set_list)))
  (ZAB (PS.nox (ZAi (ZCt PySem.F.plainAttrs_list PySem.F.slot_list_pop PySem.F.type_list_pop ZC2 (ZAN (pv 0) rfl) (ZAA (ZAO ZAj (pv 1) ZAF) ZAD))))
  (ZAB (PS.nox (ZAi (ZCt PySem.F.plainAttrs_list PySem.F.slot_list_pop PySem.F.type_list_pop ZC2 (ZAN (pv 0) rfl) (ZAA (ZAO ZAj (pv 1) ZAF) ZAD))))
  (ZAB (PS.nox (ZAi (ZCt PySem.F.plainAttrs_list PySem.F.slot_list_pop PySem.F.type_list_pop ZC2 (ZAN (pv 0) rfl) (ZAA (pv 1) ZAD))))
  (ZAH (PS.nox (ZAX (pv 3)))))))))))),?_⟩
 walk_at "rd"
 obtain ⟨OA,b1,b2,OB,rfl,hoa,at1,hb1,hb2,at2⟩:=pa.oat.two
 obtain ⟨v3,c1,c2,c3,c4,c5,c6,c7⟩:=ch.two
 have l1:=c4.len
 have l2:=c5.len
 have l6:=c6.le
 have hlr:(OA.map V.ref).length <= 63:=by rw [yAC,hoa];have:=c1.le;omega
 have m1:b1∈OA++b1::b2::OB:=yAV _ yAF
 have m2:b2∈OA++b1::b2::OB:=yAV _ (yAD _ yAF)
 refine pa.hp.get T.cl_Pile T.n_Pile_asker (by walk_at "lk") (pa.hp.get T.cl_Pile T.n_Pile_orders (by walk_at "lk") (ZAx (SqL.of pa.hod) (atI_refs (b:=b1) (by rw [<- hoa];exact ZDn ..)) ?_))
 refine pa.hp.get T.cl_Pile T.n_Pile_orders (by walk_at "lk") ?_
 rw [show (A.length:Int)+1=((A.length+1:Nat):Int) by omega]
 refine ZAx (SqL.of pa.hod) (atI_refs (b:=b2) (by rw [<- hoa];exact ZCh ..)) ?_
 refine ⟨mo,ks,xs,a,rl,ru,tl,g,lg,b1,b2,pr,o1,o2,rfl,st,hb1,hb2,by omega,by omega,fun u hu=>by have:=(c4.mem u).mp hu;omega,fun u hu=>by have:=(c5.mem u).mp hu;omega,c4.srt,c5.srt,fun u hu v hv=>by have:=(c4.mem u).mp hu;have:=(c5.mem v).mp hv;omega,by omega,ex,fun l H1 o L fr1 hl0 hl1 hJ st1=>?_⟩
 have pa1:=pa.fr fr1 px.n1 px.n2
 refine ZAa ?_
 walk_at "rd"
 refine pa1.hp.get T.cl_Pile T.n_Pile_firsts (by walk_at "lk") (ZAx (SqL.of pa1.hfs) (ZDD (o:=v1) (by rw [yAW,ZDn];rfl)) ?_)
 refine pa1.hp.get T.cl_Pile T.n_Pile_firsts (by walk_at "lk") ?_
 rw [show (A.length:Int)+1=((A.length+1:Nat):Int) by omega]
 refine ZAx (SqL.of pa1.hfs) (ZDD (o:=v2) (by rw [yAW,ZCh];rfl)) ?_
 refine pa1.hp.meth (by walk_at "lk") ⟨x,a,fs,od,gr,ls,s,e,r,_,A++[(v1,o1)],(v2,o2),B,gs,by rw [yAB];rfl,by rw [yAJ];exact pa1,?_⟩
 refine ⟨ZAU (by decide),fun t ht=>?_⟩
 obtain ⟨H2,e2,s2,h2⟩:=newH ht (.tup [.str "join",.int (v1:Nat),.int (v2:Nat),.int (bB B r:Nat)])
 rw [e2];clear e2
 have pa2:=pa1.mono s2
 have st2:=st1.mono s2
 refine ZAa ?_
 walk_at "rd"
 have nxl:=pa2.xl
 have nx1:x≠fs:=fun z=>nxl (by rw [z];exact yAF)
 have nx2:x≠od:=fun z=>nxl (by rw [z];exact yAD _ yAF)
 have nx3:x≠gr:=fun z=>nxl (by rw [z];exact yAD _ (yAD _ yAF))
 obtain ⟨ne1,ne2,ne3⟩:=pa.ne
 refine pa2.hp.get T.cl_Pile T.n_Pile_orders (by walk_at "lk") ⟨od,_,_,_,rfl,rfl,pa2.hod,ixN_of (by omega) (by rw [yAC,yAB,yAG];omega),?_⟩
 rw [Int.toNat_natCast,yAN,yAY,yAY,show A.length=(OA.map V.ref).length by rw [yAC,hoa],set_mid]
 have hp3:Ins (upd H2 od (.lst (OA.map V.ref++.ref l::.ref b2::OB.map V.ref))) x C_Pile (fPl a ls s e r fs od gr):=pa2.hp.keep (ZAI nx2)
 refine hp3.get T.cl_Pile T.n_Pile_orders (by walk_at "lk") ?_
 walk_at "rd"
 refine ⟨.inl ⟨rfl,_,SqL.of ZAG⟩,od,_,_,(OA.map V.ref).length+1,_,rfl,rfl,ZAG,by omega,by omega,?_,ZCh ..,?_⟩
 .rw [show ((OA.map V.ref).length:Int)+1=(((OA.map V.ref).length+1:Nat):Int) by omega]
  exact PySem.StrLaws.seqIndex_nonneg (by omega) (by rw [yAB,yAG,yAG];omega)
 rw [er_mid2,ZDP]
 have hp4:Ins (upd H2 od (.lst (OA.map V.ref++.ref l::OB.map V.ref))) x C_Pile (fPl a ls s e r fs od gr):=pa2.hp.keep (ZAI nx2)
 have hf4:upd H2 od (.lst (OA.map V.ref++.ref l::OB.map V.ref)) fs=some (.lst (nL (A.map Prod.fst)++.int (v1:Nat)::.int (v2:Nat)::nL (B.map Prod.fst))):=by
  rw [ZAI ne1,pa2.hfs,yAN];unfold nL;rw [yAN];rfl
 have la:(nL (A.map Prod.fst)).length=(OA.map V.ref).length:=by rw [yAC,yAC,yAC,hoa]
 refine hp4.get T.cl_Pile T.n_Pile_firsts (by walk_at "lk") ?_
 walk_at "rd"
 refine ⟨.inl ⟨rfl,_,SqL.of hf4⟩,fs,_,_,(nL (A.map Prod.fst)).length+1,_,rfl,rfl,hf4,by omega,by omega,?_,ZCh ..,?_⟩
 .rw [<- la,show ((nL (A.map Prod.fst)).length:Int)+1=(((nL (A.map Prod.fst)).length+1:Nat):Int) by omega]
  exact PySem.StrLaws.seqIndex_nonneg (by omega) (by rw [yAB,yAG,yAG];omega)
 rw [er_mid2]
 have hp5:Ins (upd (upd H2 od (.lst (OA.map V.ref++.ref l::OB.map V.ref))) fs (.lst (nL (A.map Prod.fst)++.int (v1:Nat)::nL (B.map Prod.fst)))) x C_Pile (fPl a ls s e r fs od gr):=hp4.keep (ZAI nx1)
 have hg5:upd (upd H2 od (.lst (OA.map V.ref++.ref l::OB.map V.ref))) fs (.lst (nL (A.map Prod.fst)++.int (v1:Nat)::nL (B.map Prod.fst))) gr=some (.lst (nL gs)):=by rw [ZAI (Ne.symm ne2),ZAI (Ne.symm ne3)];exact pa2.hgr
 refine hp5.get T.cl_Pile T.n_Pile_grades (by walk_at "lk") ?_
 walk_at "rd"
 refine ⟨.inl ⟨rfl,_,SqL.of hg5⟩,gr,_,_,A.length,.int (gs[A.length]:Nat),rfl,rfl,hg5,by omega,by omega,?_,by rw [yAW,yAL hgl];rfl,?_⟩
 .rw [show (OA.map V.ref).length=A.length by rw [yAC,hoa]]
  exact PySem.StrLaws.seqIndex_nonneg (by omega) (by rw [yAC];omega)
 rw [er_map]
 have F3:Fr [fs,od,gr] H2 (upd (upd (upd H2 od (.lst (OA.map V.ref++.ref l::OB.map V.ref))) fs (.lst (nL (A.map Prod.fst)++.int (v1:Nat)::nL (B.map Prod.fst)))) gr (.lst (nL (gs.eraseIdx A.length)))):=((Fr.upd (yAD _ yAF)).trans (Fr.upd yAF)).trans (Fr.upd (yAD _ (yAD _ yAF)))
 have hp6:Ins (upd (upd (upd H2 od (.lst (OA.map V.ref++.ref l::OB.map V.ref))) fs (.lst (nL (A.map Prod.fst)++.int (v1:Nat)::nL (B.map Prod.fst)))) gr (.lst (nL (gs.eraseIdx A.length)))) x C_Pile (fPl a ls s e r fs od gr):=hp5.keep (ZAI nx3)
 have hf6:(upd (upd (upd H2 od (.lst (OA.map V.ref++.ref l::OB.map V.ref))) fs (.lst (nL (A.map Prod.fst)++.int (v1:Nat)::nL (B.map Prod.fst)))) gr (.lst (nL (gs.eraseIdx A.length)))) fs=some (.lst (nL (A.map Prod.fst)++.int (v1:Nat)::nL (B.map Prod.fst))):=by rw [ZAI ne2,ZAG]
 have ho6:(upd (upd (upd H2 od (.lst (OA.map V.ref++.ref l::OB.map V.ref))) fs (.lst (nL (A.map Prod.fst)++.int (v1:Nat)::nL (B.map Prod.fst)))) gr (.lst (nL (gs.eraseIdx A.length)))) od=some (.lst (OA.map V.ref++.ref l::OB.map V.ref)):=by rw [ZAI ne3,ZAI (Ne.symm ne1),ZAG]
 have hg6:(upd (upd (upd H2 od (.lst (OA.map V.ref++.ref l::OB.map V.ref))) fs (.lst (nL (A.map Prod.fst)++.int (v1:Nat)::nL (B.map Prod.fst)))) gr (.lst (nL (gs.eraseIdx A.length)))) gr=some (.lst (nL (gs.eraseIdx A.length))):=ZAG
 generalize (upd (upd (upd H2 od (.lst (OA.map V.ref++.ref l::OB.map V.ref))) fs (.lst (nL (A.map Prod.fst)++.int (v1:Nat)::nL (B.map Prod.fst)))) gr (.lst (nL (gs.eraseIdx A.length))))=H3 at F3 hp6 hf6 ho6 hg6 ⊢
 have nl3:l∉[fs,od,gr]:=fun z=>by obtain ⟨y,hy⟩:=pa.lsts l z;rw [hy] at hl0;cases hl0
 have nt3:t∉[fs,od,gr]:=fun z=>by obtain ⟨y,hy⟩:=pa1.lsts t z;rw [hy] at ht;cases ht
 have nb':∀ b∈OA++l::OB,b∉[fs,od,gr] /\ b∉[a,lg,tl] /\ (b∈OA++b1::b2::OB∨H b=none):=fun b hb=>by
  rcases yBD.mp hb with z | z
  .have m:=yBM (b1::b2::OB) z
   exact ⟨pa.nb b m,px.n2 b m,.inl m⟩
  rcases yAE.mp z with z | z
  .rw [z];exact ⟨nl3,st.newS hl0,.inr hl0⟩
  .have m:b∈OA++b1::b2::OB:=yAV _ (yAD _ (yAD _ z))
   exact ⟨pa.nb b m,px.n2 b m,.inl m⟩
 have kp:∀ b∈OA++b1::b2::OB,∀ o,H b=some o->H3 b=some o:=fun b hb o h=>F3 _ _ (pa.nb b hb) (s2 _ _ (fr1 _ _ (px.n2 b hb) h))
 refine q t H3 o L (OA++l::OB) hJ ⟨fun b o n h=>?_,fun b hb=>(nb' b hb).2.2,F3 _ _ nt3 h2,⟨hp6,?_,?_,hg6,?_,pa.ne,fun b hb=>(nb' b hb).1⟩,⟨px.n1,fun b hb=>(nb' b hb).2.1,px.n3,px.nr⟩,?_⟩
 .refine F3 _ _ (fun z=>n (yAD _ ?_)) (s2 _ _ (fr1 _ _ (fun z=>n (yAD _ (yAD _ (yAD _ (yAD _ z))))) h))
  exact yBM [a,lg,tl] z
 .rw [hf6,yAN];unfold nL;rw [yAN];rfl
 .rw [ho6,yAN];rfl
 .exact (at1.keep fun b hb=>kp b (yBM _ hb)).app ⟨F3 _ _ nl3 (s2 _ _ hl1),at2.keep fun b hb=>kp b (yAV _ (yAD _ (yAD _ hb)))⟩
 .refine st2.apart F3 pa2.lsts ⟨px.n3,?_,?_⟩
  .intro z
   obtain ⟨w1,w2,w3,w4⟩:=px.n1
   rcases yAE.mp z with z | z
   .exact w2 (by rw [<- z];exact yAD _ yAF)
   rcases yAE.mp z with z | z
   .exact w3 (by rw [<- z];exact yAD _ yAF)
   .exact w4 (by rw [<- yAS.mp z];exact yAD _ yAF)
  .intro z
   obtain ⟨w1,w2,w3,w4⟩:=px.n1
   rcases yAE.mp z with z | z
   .exact w2 (by rw [<- z];exact yAD _ (yAD _ yAF))
   rcases yAE.mp z with z | z
   .exact w3 (by rw [<- z];exact yAD _ (yAD _ yAF))
   .exact w4 (by rw [<- yAS.mp z];exact yAD _ (yAD _ yAF))
theorem ok_Pile_lay {f:Addr} {fd:FuncData} (F:Fun K "lay" "Pile.lay" ZBa f fd) (T:Bt K mg C_Join C_Pile C_Asker C_AskedRule C_HallError C_Spent)
  (f_filled:Fn P w K mg base (CXE P w) "filled" 5 ["asker","first","least","end"] (ZDa C_Asker (RuM.mk C_AskedRule mg) C_Spent))
  (t_Pile_grade_on_top:Mt P w K mg base CX0 C_Pile "grade_on_top" 2 ["self","middle","beyond"] (ZEA C_Pile))
 :FnOk P w K mg base (CXE P w) 6 f fd ["self"] (ZFH C_Asker (RuM.mk C_AskedRule mg) C_Pile C_Spent):=by
 refine F.okX sc_Pile_lay (fun vs H Q E h=>?_) (fun cdv A outer s H vs Q E hr h=>?_)
 .obtain ⟨mo,ks,xs,a,rl,ru,tl,g,lg,x,fs,od,gr,pr,ls,s,e,r,oa,ps,gs,rfl,st,pa,px,pi,hdue,hre,hek,hk,hls,hpr,ex,q⟩:=h
  rfl
 obtain ⟨mo,ks,xs,a,rl,ru,tl,g,lg,x,fs,od,gr,pr,ls,s,e,r,oa,ps,gs,rfl,st,pa,px,pi,hdue,hre,hek,hk,hls,hpr,ex,q⟩:=h
 refine ⟨_,(ZAB (PS.nox (ZAJ (i:=1) sc_Pile_lay.nd rfl (by walk_at "o") (ZAN (pv 0) rfl)))
  (ZAB (ZAJ (i:=2) sc_Pile_lay.nd rfl (by walk_at "o") (ZBD f_filled (hr.mono (by decide)) rfl ZDh (ZAA (ZAN (pv 0) rfl) (ZAA (pv 1) (ZAA (ZAN (pv 0) rfl) (ZAA (ZAN (pv 0) rfl) ZAD))))))
  (ZAT
  (ZAB (PS.nox (ZAJ (i:=3) sc_Pile_lay.nd rfl (by walk_at "o") (ZAO ZAj (pv 1) (ZAQ ZAL rfl T.b_len PySem.boot_len (ZAA (ZAu ZBd (pv 2) ZAF (fun _ _=>rfl)) ZAD)))))
  (ZAT
  (ZAB (PS.nox (ZBS (pt_lst (ZAN (pv 0) rfl))
  (ZAH (ZAi (ZCt PySem.F.plainAttrs_list PySem.F.slot_list_append PySem.F.type_list_append ZB2 (ZAN (pv 0) rfl) (ZAA (ZBT t_Pile_grade_on_top (hr.mono (by decide)) ZAY (pv 0) (ZAA (pv 1) (ZAA (pv 3) ZAD))) ZAD)))) ZAe))
  (ZAT
  (ZAB (PS.nox (ZAi (ZCt PySem.F.plainAttrs_list PySem.F.slot_list_append PySem.F.type_list_append ZB2 (ZAN (pv 0) rfl) (ZAA (pv 1) ZAD))))
  (ZAB (PS.nox (ZAi (ZCt PySem.F.plainAttrs_list PySem.F.slot_list_append PySem.F.type_list_append ZB2 (ZAN (pv 0) rfl) (ZAA (ZAu ZBd (pv 2) ZAF (fun _ _=>rfl)) ZAD))))
  (ZAB (PS.nox (ZBE (pv 0) (pv 3) rfl))
  (ZAH (PS.nox (ZAX (ZBJ (ZAA ZDN (ZAA (pv 1) (ZAA (ZAu ZBd (pv 2) ZAF (fun _ _=>rfl)) (ZAA (pv 3) ZAD)))))))))))))))))),?_⟩
 walk_at "rd"
 have hcl:=pi.ch.le
 refine pa.hp.get T.cl_Pile T.n_Pile_reached (by walk_at "lk") (pa.hp.get T.cl_Pile T.n_Pile_asker (by walk_at "lk") (pa.hp.get T.cl_Pile T.n_Pile_least (by walk_at "lk") (pa.hp.get T.cl_Pile T.n_Pile_end (by walk_at "lk") ?_)))
 refine ⟨mo,ks,xs,a,rl,ru,tl,g,lg,pr,r,ls,e,.int e,rfl,st,by omega,.inr rfl,hre,hek,by omega,hls,ex,fun H1 t ol j f os l fr1 hol0 nol ht hol hb hput st1=>?_⟩
 have pa1:=pa.fr fr1 px.n1 px.n2
 have hj:=hb.two
 obtain ⟨o1,_,_⟩:=hput.all (first:=r) (asks r (min (j+1) e)) (by omega) hb.ord (fun i x y hx hy=>(hb.adj i x y hx hy).2)
 obtain ⟨v3,ev3⟩:∃ v3,v3=max j (min (r+ls) e):=⟨_,rfl⟩
 rw [<- ev3] at o1
 have hv3:r < v3 /\ v3 <= e:=by omega
 have hol1:=o1.len
 refine ZAa ?_
 walk_at "rd"
 refine ZBe (SqT.of ht) (ZAv (by decide) rfl) ⟨ol,_,rfl,.inl (SqL.of hol),?_⟩
 rw [yAC]
 walk_at "rd"
 rw [show (r:Int)+(os.length:Int)=(v3:Nat) by omega]
 refine ZAa ?_
 walk_at "rd"
 have nt3:t∉[fs,od,gr]:=fun z=>by obtain ⟨y,hy⟩:=pa1.lsts t z;rw [hy] at ht;cases ht
 have nol3:ol∉[fs,od,gr]:=fun z=>by obtain ⟨y,hy⟩:=pa.lsts ol z;rw [hy] at hol0;cases hol0
 apply ZEG (fun X:Hp=>∃ gs',((ps=[] /\ gs'=gs)∨∃ A p g,ps=A++[p] /\ gs'=gs++[g] /\ Gr.IsG ((e:Int)-s) (((p.1:Int)-s)+((r:Int)-s)) (((r:Int)-s)+((v3:Int)-s)) g /\ g <= 240) /\ PileAt C_Pile X x a fs od gr ls s e r oa ps gs' /\ Fr [fs,od,gr] H1 X)
 .intro tailp
  refine pa1.hp.get T.cl_Pile T.n_Pile_firsts (by walk_at "lk") ⟨fs,_,rfl,SqL.of pa1.hfs,?_⟩
  by_cases hps:ps≠[]
  .obtain ⟨A,p,rfl⟩:∃ A p,ps=A++[p]:=⟨ps.dropLast,ps.getLast hps,(List.dropLast_concat_getLast _).symm⟩
   rw [if_pos (by simp)]
   obtain ⟨m,c1,c2,m2,c3,c4,c5⟩:=Ch.app.mp pi.ch
   have c5:m2=r:=c5
   have c1':=c1.le
   have hgl:=pi.gl
   rw [yAB,yAT] at hgl hcl
   refine pa1.hp.get T.cl_Pile T.n_Pile_grades (by walk_at "lk") ?_
   walk_at "rd"
   refine ⟨.inl ⟨rfl,_,SqL.of pa1.hgr⟩,pa1.hp.meth (by walk_at "lk") ⟨x,a,fs,od,gr,ls,s,e,r,oa,A,p,gs,r,v3,rfl,pa1,by omega,by omega,by omega,by omega,by omega,fun gg hg1 hg2=>?_⟩⟩
   refine ⟨gr,_,_,rfl,rfl,pa1.hgr,ZBc (by rw [yAC];omega),?_⟩
   have F:Fr [fs,od,gr] H1 (upd H1 gr (.lst (nL gs++[.int (gg:Nat)]))):=Fr.upd (yAD _ (yAD _ yAF))
   have P:PileAt C_Pile (upd H1 gr (.lst (nL gs++[.int (gg:Nat)]))) x a fs od gr ls s e r oa (A++[p]) (gs++[gg]):=⟨ZB4 F pa1.xl pa1.hp,by rw [ZAI pa1.ne.2.1];exact pa1.hfs,by rw [ZAI pa1.ne.2.2];exact pa1.hod,by rw [ZAG];unfold nL;rw [yAN];rfl,pa1.oat.keep fun b hb o h=>F _ _ (pa1.nb b hb) h,pa1.ne,pa1.nb⟩
   generalize upd H1 gr (.lst (nL gs++[.int (gg:Nat)]))=X at F P ⊢
   exact tailp X ⟨gs++[gg],.inr ⟨A,p,gg,rfl,rfl,hg1,hg2⟩,P,F⟩
  .have hps:ps=[]:=Classical.byContradiction hps
   rw [if_neg (by rw [hps];simp)]
   exact tailp H1 ⟨gs,.inl ⟨hps,rfl⟩,pa1,.refl⟩
 rintro X ⟨gs',hgr',paX,FX⟩
 have htX:=FX _ _ nt3 ht
 have holX:=FX _ _ nol3 hol
 have hoal:=paX.oat.len
 have nxl:=paX.xl
 have nx1:x≠fs:=fun z=>nxl (by rw [z];exact yAF)
 have nx2:x≠od:=fun z=>nxl (by rw [z];exact yAD _ yAF)
 have nx3:x≠gr:=fun z=>nxl (by rw [z];exact yAD _ (yAD _ yAF))
 obtain ⟨ne1,ne2,ne3⟩:=paX.ne
 refine ZAa ?_
 walk_at "rd"
 refine paX.hp.get T.cl_Pile T.n_Pile_firsts (by walk_at "lk") ?_
 walk_at "rd"
 refine ⟨.inl ⟨rfl,_,SqL.of paX.hfs⟩,fs,_,_,rfl,rfl,paX.hfs,ZBc (by rw [yAC,yAC];omega),?_⟩
 obtain ⟨us,eus⟩:∃ us,nL (ps.map Prod.fst)++[.int (r:Nat)]=us:=⟨_,rfl⟩
 rw [eus]
 have hp3:Ins (upd X fs (.lst us)) x C_Pile (fPl a ls s e r fs od gr):=paX.hp.keep (ZAI nx1)
 have hod3:upd X fs (.lst us) od=some (.lst (oa.map V.ref)):=by rw [ZAI (Ne.symm ne1)];exact paX.hod
 refine hp3.get T.cl_Pile T.n_Pile_orders (by walk_at "lk") ?_
 walk_at "rd"
 refine ⟨.inl ⟨rfl,_,SqL.of hod3⟩,ZBe (SqT.of (by rw [ZAI (fun z=>nt3 (by rw [z];exact yAF))];exact htX)) (ZAv (by decide) rfl) ⟨od,_,_,rfl,rfl,hod3,ZBc (by rw [yAC];omega),?_⟩⟩
 have F2:Fr [fs,od,gr] X (upd (upd X fs (.lst us)) od (.lst (oa.map V.ref++[.ref ol]))):=(Fr.upd yAF).trans (Fr.upd (yAD _ yAF))
 have hp4:Ins (upd (upd X fs (.lst us)) od (.lst (oa.map V.ref++[.ref ol]))) x C_Pile (fPl a ls s e r fs od gr):=hp3.keep (ZAI nx2)
 have hf4:(upd (upd X fs (.lst us)) od (.lst (oa.map V.ref++[.ref ol]))) fs=some (.lst us):=by rw [ZAI ne1,ZAG]
 have ho4:(upd (upd X fs (.lst us)) od (.lst (oa.map V.ref++[.ref ol]))) od=some (.lst (oa.map V.ref++[.ref ol])):=ZAG
 have hg4:(upd (upd X fs (.lst us)) od (.lst (oa.map V.ref++[.ref ol]))) gr=some (.lst (nL gs')):=by rw [ZAI (Ne.symm ne3),ZAI (Ne.symm ne2)];exact paX.hgr
 generalize (upd (upd X fs (.lst us)) od (.lst (oa.map V.ref++[.ref ol])))=Y at F2 hp4 hf4 ho4 hg4 ⊢
 refine hp4.set T.cl_Pile T.n_Pile_reached (fun Z hpZ kZ=>?_) ⟨_,by walk_at "lk"⟩
 have ltop:∀ {b:Addr} {us:List V},Y b=some (.lst us)->Z b=some (.lst us):=fun {b us} h=>by rw [kZ b (hp4.ne h fun _ _ _ z=>by cases z)];exact h
 have htY:=F2 _ _ nt3 htX
 have htZ:Z t=some (.tup [.int (j:Nat),.ref ol]):=by rw [kZ t (hp4.ne htY fun _ _ _ z=>by cases z)];exact htY
 walk_at "rd"
 refine ZBe (SqT.of htZ) (ZAv (by decide) rfl) ⟨ZAU (by decide),fun t2 ht2=>?_⟩
 obtain ⟨W,eW,sW,hW⟩:=newH ht2 (.tup [.str "lay",.int (r:Nat),.int (j:Nat),.int (v3:Nat)])
 rw [eW];clear eW
 have FY:Fr [fs,od,gr] H1 Y:=FX.trans F2
 have nb':∀ b∈oa++[ol],b∉[fs,od,gr] /\ b∉[a,lg,tl] /\ (b∈oa∨H b=none):=fun b hb=>by
  rcases yBD.mp hb with z | z
  .exact ⟨pa.nb b z,px.n2 b z,.inl z⟩
  .rw [yAS.mp z];exact ⟨nol3,nol,.inr hol0⟩
 have oatW:OrdAt W (oa++[ol]) (ps++[(r,os)]):=by
  refine OrdAt.app ?_ ⟨sW _ _ (ltop (F2 _ _ nol3 holX)),trivial⟩
  refine paX.oat.keep fun b hb o h=>sW _ _ ?_
  obtain ⟨i,hi⟩:=yBN hb
  obtain ⟨p',_,hp'⟩:=paX.oat.get hi
  have e1:o=.lst (nL p'.2):=Option.some.inj (h.symm.trans hp')
  rw [e1]
  exact ltop (F2 _ _ (paX.nb b hb) hp')
 obtain ⟨dx,fl,hxY,_,_⟩:=hp4.ex
 have stY:SitL mo C_Asker (RuM.mk C_AskedRule mg) Y ks xs a rl ru tl g lg (pr++(asks r (min (j+1) e)++l)):=st1.apart FY pa1.lsts ⟨px.n3,fun z=>(by
   obtain ⟨w1,w2,w3,w4⟩:=px.n1
   rcases yAE.mp z with z | z
   .exact w2 (by rw [<- z];exact yAD _ yAF)
   rcases yAE.mp z with z | z
   .exact w3 (by rw [<- z];exact yAD _ yAF)
   .exact w4 (by rw [<- yAS.mp z];exact yAD _ yAF)),fun z=>by
   obtain ⟨w1,w2,w3,w4⟩:=px.n1
   rcases yAE.mp z with z | z
   .exact w2 (by rw [<- z];exact yAD _ (yAD _ yAF))
   rcases yAE.mp z with z | z
   .exact w3 (by rw [<- z];exact yAD _ (yAD _ yAF))
   .exact w4 (by rw [<- yAS.mp z];exact yAD _ (yAD _ yAF))⟩
 have stZ:=stY.butN hxY px.n1.1 px.nr (H':=Z) fun b o n h=>by rw [kZ b n];exact h
 refine q t2 W j v3 _ (oa++[ol]) (ps++[(r,os)]) gs' f os l ⟨rfl,hre,hb,hput,rfl,ev3,rfl,rfl,hdue,hgr'⟩ ⟨fun b o n h=>?_,fun b hb=>(nb' b hb).2.2,hW,⟨?_,?_,?_,?_,oatW,paX.ne,fun b hb=>(nb' b hb).1⟩,⟨px.n1,fun b hb=>(nb' b hb).2.1,px.n3,px.nr⟩,stZ.mono sW⟩
 .refine sW _ _ ?_
  rw [kZ b (fun z=>n (by rw [z];exact yAF))]
  refine FY _ _ (fun z=>n (yAD _ (yBM [a,lg,tl] z))) (fr1 _ _ (fun z=>n (yAD _ (yAD _ (yAD _ (yAD _ z))))) h)
 .exact (hpZ.congr fPl_reached).mono sW
 .refine sW _ _ (ltop ?_)
  rw [hf4,<- eus,yAN];unfold nL;rw [yAN];rfl
 .refine sW _ _ (ltop ?_)
  rw [ho4,yAN];rfl
 .exact sW _ _ (ltop hg4)
theorem ok_Pile_step {f:Addr} {fd:FuncData} (F:Fun K "step" "Pile.step" ZBN f fd) (T:Bt K mg C_Join C_Pile C_Asker C_AskedRule C_HallError C_Spent)
  (t_Pile_is_due_beneath:Mt P w K mg base CX0 C_Pile "is_due_beneath" 1 ["self"] (ZFI C_Pile))
  (t_Pile_join_two:Mt P w K mg base (CXE P w) C_Pile "join_two" 7 ["self","lower"] (ZC6 C_Asker (RuM.mk C_AskedRule mg) C_Pile C_Spent))
  (t_Pile_lay:Mt P w K mg base (CXE P w) C_Pile "lay" 6 ["self"] (ZFH C_Asker (RuM.mk C_AskedRule mg) C_Pile C_Spent))
 :FnOk P w K mg base (CXE P w) 8 f fd ["self"] (ZDw C_Asker (RuM.mk C_AskedRule mg) C_Pile C_Spent):=by
 refine F.okX sc_Pile_step (fun vs H Q E h=>?_) (fun cdv A outer s H vs Q E hr h=>?_)
 .obtain ⟨mo,ks,xs,a,rl,ru,tl,g,lg,x,fs,od,gr,pr,ls,s,e,r,oa,ps,gs,rfl,st,pa,px,pi,hek,hk,hls,hpr,ex,q0,q⟩:=h
  rfl
 obtain ⟨mo,ks,xs,a,rl,ru,tl,g,lg,x,fs,od,gr,pr,ls,s,e,r,oa,ps,gs,rfl,st,pa,px,pi,hek,hk,hls,hpr,ex,q0,q⟩:=h
 refine ⟨_,(ZAB (ZBS (ZCd (ZBF t_Pile_is_due_beneath (hr.mono (by decide)) ZAY (pv 0)))
  (ZAH (ZAX (ZBT t_Pile_join_two (hr.mono (by decide)) ZDh (pv 0) (ZAA (ZAO ZB0 (ZAQ ZAL rfl T.b_len PySem.boot_len (ZAA (ZAN (pv 0) rfl) ZAD)) ZAF) ZAD)))) ZAe)
  (ZAB (ZBS (ZAS ZDH (ZAN (pv 0) rfl) (ZAN (pv 0) rfl) (ZAV _))
  (ZAH (ZAX (ZBF t_Pile_lay (hr.mono (by decide)) ZDh (pv 0)))) ZAe)
  (ZAB (ZBS (ZAS ZEr (ZAQ ZAL rfl T.b_len PySem.boot_len (ZAA (ZAN (pv 0) rfl) ZAD)) ZAF (ZAV _))
  (ZAH (ZAX (ZBT t_Pile_join_two (hr.mono (by decide)) ZDh (pv 0) (ZAA (ZAO ZB0 (ZAQ ZAL rfl T.b_len PySem.boot_len (ZAA (ZAN (pv 0) rfl) ZAD)) ZAF) ZAD)))) ZAe)
  (ZAH (PS.nox (ZAX ZBz)))))),?_⟩
 walk_at "rd"
 have hol:=pa.oat.len
 have hgl:=pi.gl
 have hcl:=pi.ch.le
 have hre:=pi.re
 refine pa.hp.meth (by walk_at "lk") ⟨x,a,fs,od,gr,ls,s,e,r,oa,ps,gs,rfl,pa,_,rfl,?_⟩
 cases hd:dueB gs with
 | true=>
  rw [if_pos rfl]
  have h2:2 <= gs.length:=Nat.lt_of_not_le fun z=>by rw [dueB_few z] at hd;cases hd
  obtain ⟨A',p2,p3,rfl⟩:=ZDQ (l:=ps) (by omega)
  rw [yAB] at hgl hol hcl
  have hA:1 <= A'.length:=by have:([p2,p3]:List (Nat×List Nat)).length=2:=rfl;omega
  obtain ⟨A,p1,rfl⟩:∃ A p1,A'=A++[p1]:=⟨A'.dropLast,A'.getLast (List.ne_nil_of_length_pos hA),(List.dropLast_concat_getLast _).symm⟩
  rw [yAJ] at pa
  have pic:=pi.ch
  rw [yAJ] at pic
  obtain ⟨v1,o1⟩:=p1
  obtain ⟨v2,o2⟩:=p2
  rw [yAB,yAT] at hgl hol hcl
  have t2:([(v2,o2),p3]:List (Nat×List Nat)).length=2:=rfl
  refine pa.hp.meth (by walk_at "lk") (pa.hp.get T.cl_Pile T.n_Pile_orders (by walk_at "lk") ⟨od,_,rfl,.inl (SqL.of pa.hod),?_⟩)
  refine ⟨mo,ks,xs,a,rl,ru,tl,g,lg,x,fs,od,gr,pr,ls,s,e,r,oa,A,v1,v2,o1,o2,[p3],gs,?_,st,pa,px,pic,by omega,by omega,hk,hpr,ex.sub .refl fun n hn=>stn_j (yAJ ..) (.inl ⟨hd,rfl⟩) hn,fun t H' o L oa' hJ lf=>?_⟩
  .rw [yAC];congr 3;omega
  .exact q t H' true v1 v2 _ L oa' _ _ r (.inl ⟨rfl,rfl,A,o1,o2,o,[p3],⟨yAJ ..,rfl,rfl,hJ,rfl,.inl ⟨hd,rfl⟩⟩⟩) lf
 | false=>
  rw [if_neg (by decide)]
  refine pa.hp.get T.cl_Pile T.n_Pile_reached (by walk_at "lk") (pa.hp.get T.cl_Pile T.n_Pile_end (by walk_at "lk") ⟨_,_,rfl,rfl,_,rfl,?_⟩)
  by_cases hlt:r < e
  .rw [if_pos (decide_eq_true (by omega))]
   refine pa.hp.meth (by walk_at "lk") ⟨mo,ks,xs,a,rl,ru,tl,g,lg,x,fs,od,gr,pr,ls,s,e,r,oa,ps,gs,rfl,st,pa,px,pi,hd,hlt,hek,hk,hls,hpr,ex.sub .refl fun n hn=>⟨n,.inr ⟨hd,hlt,hn⟩,yAA _⟩,fun t H' v2 v3 L oa' ps' gs' f os l sl lf=>?_⟩
   exact q t H' false r v2 v3 L oa' ps' gs' v3 (.inr ⟨rfl,f,os,l,sl⟩) lf
  .rw [if_neg (by simp;omega)]
   have hre':r=e:=by omega
   refine pa.hp.get T.cl_Pile T.n_Pile_orders (by walk_at "lk") ⟨od,_,rfl,.inl (SqL.of pa.hod),?_⟩
   rw [yAC]
   by_cases h2:2 <= ps.length
   .rw [if_pos (by omega)]
    obtain ⟨A,p1,p2,rfl⟩:=ZDQ (l:=ps) h2
    obtain ⟨v1,o1⟩:=p1
    obtain ⟨v2,o2⟩:=p2
    rw [yAB] at hgl hol hcl
    have t2:([(v1,o1),(v2,o2)]:List (Nat×List Nat)).length=2:=rfl
    refine pa.hp.meth (by walk_at "lk") (pa.hp.get T.cl_Pile T.n_Pile_orders (by walk_at "lk") ⟨od,_,rfl,.inl (SqL.of pa.hod),?_⟩)
    refine ⟨mo,ks,xs,a,rl,ru,tl,g,lg,x,fs,od,gr,pr,ls,s,e,r,oa,A,v1,v2,o1,o2,[],gs,?_,st,pa,px,pi.ch,by omega,by omega,hk,hpr,ex.sub .refl fun n hn=>stn_j rfl (.inr ⟨hd,hre',rfl⟩) hn,fun t H' o L oa' hJ lf=>?_⟩
    .rw [yAC];congr 3;omega
    .exact q t H' true v1 v2 _ L oa' _ _ r (.inl ⟨rfl,rfl,A,o1,o2,o,[],⟨rfl,rfl,rfl,hJ,rfl,.inr ⟨hd,hre',rfl⟩⟩⟩) lf
   .rw [if_neg (by omega)]
    exact q0 hd hre' (by omega)
theorem ok_Pile_paper {f:Addr} {fd:FuncData} (F:Fun K "paper" "Pile.paper" ZA8 f fd) (T:Bt K mg C_Join C_Pile C_Asker C_AskedRule C_HallError C_Spent)
 :FnOk P w K mg base CX0 1 f fd ["self"] (ZC5 C_Pile):=by
 refine F.ok sc_Pile_paper (fun vs H Q E h=>?_) (fun cdv A outer s H vs Q E hr h=>?_)
 .obtain ⟨x,a,fs,od,gr,ls,s,e,r,oa,ps,gs,rfl,pa,hfl,hre,he,q⟩:=h
  rfl
 obtain ⟨x,a,fs,od,gr,ls,s,e,r,oa,ps,gs,rfl,pa,hfl,hre,he,q⟩:=h
 refine ⟨_,(ZAB (ZAJ (i:=1) sc_Pile_paper.nd rfl (by walk_at "o") (ZBK ZAD))
  (ZAB (ZET PassesOwn.never rfl (ZDd (ZAN (pv 0) rfl)) (ZBp (i:=2) sc_Pile_paper.nd rfl (by walk_at "o"))
  (ZAH (ZAi (ZCt PySem.F.plainAttrs_list PySem.F.slot_list_extend PySem.F.type_list_extend mt_extend (pv 1) (ZAA (pv 2) ZAD)))))
  (ZAH (ZAX (ZAO ZEW (pv 1) (ZA6 (call_list_rng rfl) rfl T.b_list PyProof.Rows.boot_list (ZAA (ZA6 call_rng2 rfl T.b_range PyProof.Rows.boot_range (ZAA (ZAN (pv 0) rfl) (ZAA (ZAN (pv 0) rfl) ZAD))) ZAD))))))),?_⟩
 walk_at "rd"
 refine ⟨yAI _,fun p hp=>?_⟩
 obtain ⟨H1,e1,s1,h1⟩:=newH hp (.lst [])
 rw [e1];clear e1
 have pa1:=pa.mono s1
 have hol:=pa.oat.len
 refine pa1.hp.get T.cl_Pile T.n_Pile_orders (by walk_at "lk") ?_
 refine forL_of (SqL.of pa1.hod) (fun i σ X=>∃ v2,σ=[some (.ref x),some (.ref p),v2] /\ Same H X /\ X p=some (.lst (nL (flt (ps.take i))))) ⟨_,rfl,s1,h1⟩ (fun i σ X _ ⟨_,_,sX,_⟩=>SqL.of (sX _ _ pa.hod)) ?_ ?_
 .rintro i y σ X hy ⟨v2,rfl,sX,hX⟩
  obtain ⟨b,hb,rfl⟩:∃ b,oa[i]?=some b /\ y=.ref b:=by
   rw [yAW] at hy
   cases hz:oa[i]? with
   | none=>rw [hz] at hy;cases hy
   | some b=>rw [hz] at hy;exact ⟨b,rfl,(Option.some.inj hy).symm⟩
  obtain ⟨p1,g1,g2⟩:=pa.oat.get hb
  have e1:flt (ps.take (i+1))=flt (ps.take i)++p1.2:=by
   rw [List.take_add_one,g1,flt_app]
   congr 1
   unfold flt
   simp
  have hle:(flt (ps.take i)).length+p1.2.length <= 63:=by
   have e2:flt ps=flt (ps.take (i+1))++flt (ps.drop (i+1)):=by rw [<- flt_app,yBJ]
   rw [e2,e1,yAB,yAB] at hfl
   omega
  walk_at "rd"
  refine ⟨.inl ⟨rfl,_,SqL.of hX⟩,p,b,_,_,rfl,rfl,hX,sX _ _ g2,ZAU (by rw [yAC,yAC];omega),?_⟩
  refine ⟨_,rfl,sX.upd hp,?_⟩
  rw [ZAG,e1]
  unfold nL
  rw [yAN]
 rintro σ X ⟨v2,rfl,sX,hX⟩
 rw [yAC,hol,List.take_length] at hX
 walk_at "rd"
 have paX:=pa.mono sX
 refine paX.hp.get T.cl_Pile T.n_Pile_reached (by walk_at "lk") (paX.hp.get T.cl_Pile T.n_Pile_end (by walk_at "lk") ⟨_,_,rfl,fun p2 hp2=>?_⟩)
 obtain ⟨H3,e3,s3,h3⟩:=newH hp2 (.rng r e)
 rw [e3];clear e3
 refine ⟨p2,r,e,rfl,h3,by omega,fun l2 hl2=>?_⟩
 rw [rints_nat]
 obtain ⟨H4,e4,s4,h4⟩:=newH hl2 (.lst (nL (List.range' r (e-r))))
 rw [e4];clear e4
 refine ⟨p,l2,_,_,rfl,rfl,s4 _ _ (s3 _ _ hX),h4,ZAU (by rw [yAC,yAC,yCI];omega),fun l hl=>?_⟩
 refine q l _ (sX.trans (s3.trans (s4.new hl))) ((sX.trans (s3.trans s4)).free hl) ?_
 rw [ZAG]
 unfold nL
 rw [yAN]
theorem ok_Pile_standing {f:Addr} {fd:FuncData} (F:Fun K "standing" "Pile.standing" ZAr f fd) (T:Bt K mg C_Join C_Pile C_Asker C_AskedRule C_HallError C_Spent)
  (t_Pile_beyond_of:Mt P w K mg base CX0 C_Pile "beyond_of" 1 ["self","number"] (ZCE C_Pile))
 :FnOk P w K mg base CX0 2 f fd ["self"] (ZCB C_Pile):=by
 refine F.ok sc_Pile_standing (fun vs H Q E h=>?_) (fun cdv A outer s H vs Q E hr h=>?_)
 .obtain ⟨x,a,fs,od,gr,ls,s,e,r,oa,ps,gs,rfl,pa,hps,hgs,q⟩:=h
  rfl
 obtain ⟨x,a,fs,od,gr,ls,s,e,r,oa,ps,gs,rfl,pa,hps,hgs,q⟩:=h
 refine ⟨_,(ZAB (ZAJ (i:=1) sc_Pile_standing.nd rfl (by walk_at "o") (ZAO ZEW (ZAN (pv 0) rfl) (ZBK (ZAA ZAF ZAD))))
  (ZAH (ZAX (ZDg rfl (k:=2) (js:=[0,1]) (N':=["number","first","self","grades"]) (by rfl) (pi_enum rfl T.b_enumerate (ZAA (ZAN (pv 0) rfl) ZAD)) (fun _ _ _ _=>pg_tupK (n:=2) K rfl (pgs_cons (ZBp (i:=0) (show (["number","first","self","grades"]:List Str).Nodup by decide +kernel) rfl (by walk_at "o")) (pgs_cons (ZBp (i:=1) (show (["number","first","self","grades"]:List Str).Nodup by decide +kernel) rfl (by walk_at "o")) pgs_nil))) (fun _ _ _ _=>ZCz) (fun _ _ _ _=>(ZBJ (ZAA (pv 1) (ZAA (ZBT t_Pile_beyond_of (hr.mono (by decide)) ZAY (pv 2) (ZAA (pv 0) ZAD)) (ZAA (ZAu (ix_listK K) (pv 3) (pv 0) (fun _ _=>rfl)) ZAD))))))))),?_⟩
 walk_at "rd"
 refine pa.hp.get T.cl_Pile T.n_Pile_grades (by walk_at "lk") ⟨ZAU (by decide),fun p hp=>?_⟩
 obtain ⟨H1,e1,s1,h1⟩:=newH hp (.lst [.int 0])
 rw [e1];clear e1
 have pa1:=pa.mono s1
 refine ⟨gr,p,_,_,rfl,rfl,pa1.hgr,h1,ZAU (by rw [yAC];show gs.length+1 <= _;omega),fun g2 hg2=>?_⟩
 obtain ⟨H2,e2,s2,h2⟩:=newH hg2 (.lst (nL gs++[.int 0]))
 rw [e2];clear e2
 have pa2:=pa1.mono s2
 refine pa2.hp.get T.cl_Pile T.n_Pile_firsts (by walk_at "lk") ?_
 refine compE_of (SqL.of pa2.hfs) (by rw [yAC,yAC];omega) (fun i ys σ X=>∃ v w,σ=[v,w,some (.ref x),some (.ref g2)] /\ Same H2 X /\ Spans X ((spn ps gs r).take i) ys) ⟨_,_,rfl,.refl _,rfl,fun j x y z h=>by simp at h⟩ (fun i ys σ X hi ⟨_,_,_,sX,hS⟩=>⟨SqL.of (sX _ _ pa2.hfs),by rw [hS.len,yAM];omega⟩) ?_ ?_
 .rintro i ys y σ X pt hi hy ⟨v,w,rfl,sX,hS⟩ hpt
  rw [yAC,yAC] at hi
  obtain ⟨p1,hp1⟩:∃ p1,ps[i]?=some p1:=⟨_,yAL hi⟩
  obtain rfl:y=.int (p1.1:Nat):=by
   rw [yAW,yAW,hp1] at hy
   exact (Option.some.inj hy).symm
  refine gTup_of (SqT.of ZAG) rfl ?_
  walk_at "rd"
  have paX:=(pa2.mono sX).mono (ZAK hpt (.tup [.int i,.int (p1.1:Nat)]))
  have eps:ps=ps.take i++p1::ps.drop (i+1):=by
   have:=yAH.mp hp1
   rw [<- this.2,<- yCC,yBJ]
  refine paX.hp.meth (by walk_at "lk") ⟨x,a,fs,od,gr,ls,s,e,r,oa,ps.take i,p1,ps.drop (i+1),gs,by rw [yAM,yBK (by omega)],by rw [<- eps];exact paX,?_⟩
  have hg:atI (nL gs++[V.int 0]) (i:Int)=some (.int ((gs[i]?).getD 0:Nat)):=by
   refine ZAv (by omega) ?_
   rw [Int.toNat_natCast]
   by_cases hig:i < gs.length
   .rw [yBH (by rw [yAC];exact hig),yAW,yAL hig];rfl
   .rw [yBA (by rw [yAC];omega),yAC,show i-gs.length=0 by omega,show gs[i]?=none from yBY (by omega)];rfl
  refine ZAx (SqL.of (ZAK hpt _ _ _ (sX _ _ h2))) hg ⟨ZAU (by decide),fun t ht=>?_⟩
  refine Nxt.of (by rw [yAC,yAC];exact hi) ⟨_,_,rfl,(sX.new hpt).new ht,?_⟩
  rw [List.take_add_one,spn_get hp1]
  exact ((hS.keep fun _ _ z=>ZAK hpt _ _ _ z).keep fun _ _ z=>ZAK ht _ _ _ z).snoc ZAG
 rintro ys σ X ⟨v,w,rfl,sX,hS⟩ l hl
 have S:Same H X:=s1.trans (s2.trans sX)
 refine q l _ ys (S.new hl) (S.free hl) ZAG ?_
 rw [yAC,yAC,yBQ (by rw [spn_len];exact yAA _)] at hS
 exact hS.keep fun _ _ z=>ZAK hl _ _ _ z
theorem ok_by_pile {f:Addr} {fd:FuncData} {dv:List Value} (F:FunD K "by_pile" "by_pile" ZBn f fd dv) (T:Bt K mg C_Join C_Pile C_Asker C_AskedRule C_HallError C_Spent)
  (t_Pile_paper:Mt P w K mg base CX0 C_Pile "paper" 1 ["self"] (ZC5 C_Pile))
  (t_Pile_step:Mt P w K mg base (CXE P w) C_Pile "step" 8 ["self"] (ZDw C_Asker (RuM.mk C_AskedRule mg) C_Pile C_Spent))
  (k_Pile:Kl P w K mg base CX0 "Pile" C_Pile 2 ["self","asker","least","part"] (ZCD C_Asker C_Pile))
 :FnOk P w K mg base (CXE P w) 9 f fd ["asker","least","part"] (ZDb C_Asker (RuM.mk C_AskedRule mg) C_Spent):=by
 refine F.okX sc_by_pile (fun vs H Q E h=>?_) (fun cdv A outer s H vs Q E hr h=>?_)
 .obtain ⟨mo,ks,xs,a,rl,ru,tl,g,lg,ls,s,e,pz,L0,p0,g0,r0,rfl,st,hpz,hse,hek,hkl,hls,hR0,hf0,ex,q⟩:=h
  rfl
 obtain ⟨mo,ks,xs,a,rl,ru,tl,g,lg,ls,s,e,pz,L0,p0,g0,r0,rfl,st,hpz,hse,hek,hkl,hls,hR0,hf0,ex,q⟩:=h
 refine ⟨_,(ZAB (PS.nox (ZAJ (i:=3) sc_by_pile.nd rfl (by walk_at "o") (ZDe k_Pile (hr.mono (by decide)) rfl ZAY (ZAA (pv 0) (ZAA (pv 1) (ZAA (pv 2) ZAD))))))
  (ZAB (PS.inX (ZBY (ZEF ⟨rfl,rfl⟩) (ZAS ZDj (ZBF t_Pile_step (hr.mono (by decide)) ZD0 (pv 3)) ZBz (ZAV _))
  (ZAH (ps_pass))))
  (ZAH (PS.nox (ZAX (ZBF t_Pile_paper (hr.mono (by decide)) ZAY (pv 3))))))),?_⟩
 walk_at "rd"
 intro x dx hx hdx nxd
 have hx':upd H dx (.own x) x=none:=by rw [ZAI (Ne.symm nxd)];exact hx
 have sB:Same H (upd (upd H dx (.own x)) x (.ins C_Pile dx [])):=(ZAK hdx _).trans (ZAK hx' _)
 have hB:(upd (upd H dx (.own x)) x (.ins C_Pile dx [])) x=some (.ins C_Pile dx []):=ZAG
 generalize upd (upd H dx (.own x)) x (.ins C_Pile dx [])=HB at sB hB ⊢
 obtain ⟨d0,f0',ea0,_,_⟩:=st.ha.ex
 refine ⟨x,dx,a,ls,s,e,pz,rfl,hB,hpz.imp (fun ⟨pt,a1,a2⟩=>⟨pt,a1,sB _ _ a2⟩) (fun ⟨a1,a2,a3⟩=>⟨a1,a2,ZAC ea0 hx,rl,ru,mo,_,tl,xs.v,st.ha.mono sB,sB _ _ st.hrl,by rw [a3];exact st.len⟩),fun fs od gr HC kC nfs nod ngr paC=>⟨rfl,?_⟩⟩
 have kA:Same H HC:=fun b o h=>kC b o (ZAC h hx) (sB _ _ h)
 have px:PXl a rl ru lg tl x fs od gr []:=⟨⟨st.newS hx,st.newS (sB.free nfs),st.newS (sB.free nod),st.newS (sB.free ngr)⟩,fun b hb=>(by cases hb),fun z=>by
  rcases yAE.mp z with z | z
  .exact ZAC st.hrl (sB.free nfs) z
  rcases yAE.mp z with z | z
  .exact ZAC st.hrl (sB.free nod) z
  .exact ZAC st.hrl (sB.free ngr) (yAS.mp z),by
  obtain ⟨d1,f1,e1,_⟩:=st.hru.ex
  exact ZAC e1 hx⟩
 have pi0:PInv ks s e s [] []:=⟨rfl,hse,rfl,fun g hg=>by cases hg⟩
 walk_at "rd"
 refine ZBV (fun n σ X=>∃ L Lr ps gs r oa,n=2 * (e-r)+ps.length /\ σ=[some (.ref a),some (.int ls),some pz,some (.ref x)] /\ Rn ks ls s e [] [] s L ps gs r /\ (L0=L++Lr /\ Rn ks ls s e ps gs r Lr p0 g0 r0) /\ PileAt C_Pile X x a fs od gr ls s e r oa ps gs /\ PXl a rl ru lg tl x fs od gr oa /\ SitL mo C_Asker (RuM.mk C_AskedRule mg) X ks xs a rl ru tl g lg L /\ Fr [x,fs,od,gr,a,lg,tl] HC X) ⟨_,[],L0,[],[],s,[],rfl,rfl,.nil,⟨rfl,hR0⟩,paC,px,st.mono kA,.refl⟩ ?_
 rintro n σ X ⟨L,Lr,ps,gs,r,oa,rfl,rfl,hR,⟨eL0,hRr⟩,pa,pxX,stX,fX⟩
 have pi:=hR.inv pi0
 have hc:=hR.cost pi0 (by omega)
 have hre:=pi.re
 have hcl:=pi.ch.le
 walk_at "rd"
 have fin:∀ {Z:Hp},Same X Z->Fr [a,lg,tl] H Z:=fun {Z} sZ b o n h=>sZ _ _ (fX _ _ (seven (ZAC h hx) (ZAC h (sB.free nfs)) (ZAC h (sB.free nod)) (ZAC h (sB.free ngr)) n) (kA _ _ h))
 refine pa.hp.meth (by walk_at "lk") ⟨mo,ks,xs,a,rl,ru,tl,g,lg,x,fs,od,gr,L,ls,s,e,r,oa,ps,gs,rfl,stX,pa,pxX,pi,hek,hkl,hls,by simp at hc;omega,ex.sub (fin (.refl _)) fun n hn=>⟨_,rfl,by have:=rn_left hRr hf0 hn pi;rw [eL0,yAB];omega⟩,fun z1 z2 z3=>?_,fun t Y k v1 v2 v3 L' oa' ps' gs' r' stp lf=>?_⟩
 .refine pa.hp.meth (by walk_at "lk") ⟨x,a,fs,od,gr,ls,s,e,r,oa,ps,gs,rfl,pa,by rw [pi.ch.flen];omega,hre,by omega,fun l Z sZ hl0 hl=>?_⟩
  obtain ⟨rfl,rfl,rfl,rfl⟩:=rn_done hRr ⟨z1,z2,z3⟩
  rw [yAQ] at eL0
  subst eL0
  refine q l Z (fin sZ) (stX.free (fin (.refl _)) hl0) ?_ (stX.mono sZ)
  rw [hl,z2,yBI]
  show some (HO.lst (nL (flt ps++[])))=_
  rw [yAQ]
 .refine ZBW ?_
  walk_at "rd"
  obtain ⟨f1,f2,f3,f4,f5,f6⟩:=lf
  obtain ⟨L2,rfl,hR2⟩:=rn_next hRr hf0 stp pi
  exact ⟨_,stp.less,L++L',L2,ps',gs',r',oa',rfl,.snoc hR stp,⟨by rw [eL0,yAJ],hR2⟩,f4,f5,f6,fX.trans f1⟩
theorem ok_stepped {f:Addr} {fd:FuncData} (F:Fun K "_law_stepped" "_law_stepped" ZBi f fd) (T:Bt K mg C_Join C_Pile C_Asker C_AskedRule C_HallError C_Spent)
  (t_Pile_step:Mt P w K mg base (CXE P w) C_Pile "step" 8 ["self"] (ZDw C_Asker (RuM.mk C_AskedRule mg) C_Pile C_Spent))
  (t_Asker_widen:Mt P w K mg base CX0 C_Asker "widen" 1 ["self","more"] (ZD8 C_Asker))
  (t_Pile_standing:Mt P w K mg base CX0 C_Pile "standing" 2 ["self"] (ZCB C_Pile))
  (t_Pile_paper:Mt P w K mg base CX0 C_Pile "paper" 1 ["self"] (ZC5 C_Pile))
 :FnOk P w K mg base CX0 9 f fd ["_law_pile","_law_asker","_law_more"] (ZCR C_Asker (RuM.mk C_AskedRule mg) C_Pile):=by
 refine F.ok sc_stepped (fun vs H Q E h=>?_) (fun cdv A outer s H vs Q E hr h=>?_)
 .obtain ⟨k0,ks,xs,a,rl,ru,tl,g,x,fs,od,gr,pr,ls,s,e,r,oa,ps,gs,mr,rfl,st,pa,px,pi,hek,hk24,hls,hpr,q0,q⟩:=h
  rfl
 obtain ⟨k0,ks,xs,a,rl,ru,tl,g,x,fs,od,gr,pr,ls,s,e,r,oa,ps,gs,mr,rfl,st,pa,px,pi,hek,hk24,hls,hpr,q0,q⟩:=h
 refine ⟨_,(ZAB (ZAJ (i:=3) sc_stepped.nd rfl (by walk_at "o") (ZBK (ZAA (ZA6 ZBC rfl T.b_list PyProof.Rows.boot_list (ZAA (ZBF t_Pile_standing (hr.mono (by decide)) ZAY (pv 0)) ZAD)) (ZAA (ZA6 ZBC rfl T.b_list PyProof.Rows.boot_list (ZAA (ZBF t_Pile_paper (hr.mono (by decide)) ZAY (pv 0)) ZAD)) ZAD))))
  (ZAB (ZET PassesOwn.never rfl (ZDd (ZBK (ZAA (pv 2) (ZAA ZAF ZAD)))) (ZBp (i:=4) sc_stepped.nd rfl (by walk_at "o"))
  (ZAB (ps_try (i:=5) ⟨rfl,rfl⟩ rfl rfl T.m_Spent sc_stepped.nd rfl rfl (fun pn xe E hp=>
  (ZAH (ZAX (pe_mtS0 t_Pile_step (hr.mono (by decide)) hp (pv 0))))) (fun e=>
  (ZAH (ZBS (PW.pt (pw_or (ZAS op_ne (pe_xfldMK K (pv 5) rfl) (ZDf K (pv 1) rfl) (ZAV _)) (pw_or1 (ZAS op_ne (ZDf K (pv 1) rfl) (ZDf K (pv 1) rfl) (ZAV _)))))
  (ZAH (ZAX (ZBJ (ZAA ZDN ZAD)))) ZAe))))
  (ZAB (ZBS (ZAS (ZCe hr.units) (ZBK (ZAA (ZBF t_Pile_standing (hr.mono (by decide)) ZAY (pv 0)) (ZAA (ZBF t_Pile_paper (hr.mono (by decide)) ZAY (pv 0)) ZAD))) (pv 3) (ZAV _))
  (ZAH (ZAX (ZBJ (ZAA ZDN ZAD)))) ZAe)
  (ZAH (ZAi (ZBT t_Asker_widen (hr.mono (by decide)) ZAY (pv 1) (ZAA (pv 4) ZAD)))))))
  (ZAH (ZAX (ZBF t_Pile_step (hr.mono (by decide)) passE (pv 0)))))),?_⟩
 walk_at "rd"
 have hcl:=pi.ch.le
 have hre:=pi.re
 have hfl:=pi.ch.flen
 have hgl:=pi.gl
 refine pa.hp.meth (by walk_at "lk") ⟨x,a,fs,od,gr,ls,s,e,r,oa,ps,gs,rfl,pa,by omega,hgl,fun l1 H1 ts s1 hl1 hl1' hsp=>?_⟩
 refine ⟨l1,ts,rfl,.inl (SqL.of hl1'),fun l2 hl2=>?_⟩
 obtain ⟨H2,e2,s2,h2⟩:=newH hl2 (.lst ts)
 rw [e2];clear e2
 have S2:=s1.trans s2
 refine (pa.mono S2).hp.meth (by walk_at "lk") ⟨x,a,fs,od,gr,ls,s,e,r,oa,ps,gs,rfl,pa.mono S2,by omega,hre,by omega,fun l3 H3 s3 hl3 hl3'=>?_⟩
 refine ⟨l3,_,rfl,.inl (SqL.of hl3'),fun l4 hl4=>?_⟩
 obtain ⟨H5,e5,s5,h5⟩:=newH hl4 (.lst (nL (flt ps++List.range' r (e-r))))
 rw [e5];clear e5
 refine ⟨ZAU (by decide),fun so hso=>?_⟩
 obtain ⟨HS,eS,sS,hS⟩:=newH hso (.lst [.ref l2,.ref l4])
 rw [eS];clear eS
 have SS:Same H HS:=S2.trans (s3.trans (s5.trans sS))
 refine ⟨ZAU (by decide),fun lp hlp=>?_⟩
 obtain ⟨HL,eL,sL,hL⟩:=newH hlp (.lst [.int mr,.int 200])
 rw [eL];clear eL
 have SL:=SS.trans sL
 have alp:=st.newS (SS.free hlp)
 have aso:=st.newS ((S2.trans (s3.trans s5)).free hso)
 have al2:=st.newS (s1.free hl2)
 have al4:=st.newS ((S2.trans s3).free hl4)
 have hsoL:=sL _ _ hS
 have hl2L:HL l2=some (.lst ts):=sL _ _ (sS _ _ (s5 _ _ (s3 _ _ h2)))
 have hl4L:=sL _ _ (sS _ _ h5)
 have hspL:=hsp.keep fun t x h=>sL _ _ (sS _ _ (s5 _ _ (s3 _ _ (s2 _ _ h))))
 refine forL_of (SqL.of hL) (fun i σ X=>∃ v4 v5 k' pr',σ=[some (.ref x),some (.ref a),some (.int mr),some (.ref so),v4,v5] /\ Fr [a,tl,tl] HL X /\ SitL (.int (k':Nat)) C_Asker (RuM.mk C_AskedRule mg) X ks xs a rl ru tl g tl pr' /\ pr'.length <= pr.length+200 * i /\ (2 <= i->k'=pr'.length+200)) ⟨_,_,k0,pr,rfl,.refl,st.mono SL,by omega,fun z=>by omega⟩ (fun i σ X _ ⟨_,_,_,_,_,e,_⟩=>SqL.of (e _ _ alp hL)) ?_ ?_
 .rintro i y σ X hy ⟨v4,v5,k',pr',rfl,fX,sX,hlen,hk2⟩
  have hi:i < 2:=(yAH.mp hy).1
  obtain ⟨gv,rfl,hgv⟩:∃ gv:Nat,y=.int gv /\ (i=1->gv=200):=by
   rcases i with _ | _ | i
   .cases hy;exact ⟨mr,rfl,fun z=>by omega⟩
   .cases hy;exact ⟨200,rfl,fun _=>rfl⟩
   .cases hy
  have paX:=(pa.mono SL).fr fX px.n1 px.n2
  walk_at "rd"
  refine paX.hp.meth (by walk_at "lk") ⟨.int k',ks,xs,a,rl,ru,tl,g,tl,x,fs,od,gr,pr',ls,s,e,r,oa,ps,gs,rfl,sX,paX,px,pi,hek,by omega,hls,by omega,fun k n Y d pr2 ek hk hn hlt fY hd sY=>?_,fun z1 z2 z3=>?_,fun t Y k v1 v2 v3 L oa' ps' gs' r' stp lf=>?_⟩
  .have hn2:=hn.few pi (by omega)
   injection ek with ek
   have ek:k=k':=by omega
   subst ek
   refine ⟨T.xm_Spent_Spent,fun ea hea=>?_⟩
   obtain ⟨Y2,e2',sY2,h2'⟩:=newH hea (excO ea (.ref C_Spent) (some d))
   rw [e2'];clear e2'
   walk_at "rd"
   refine ⟨ea,_,d,_,_,rfl,.inl h2',sY2 _ _ hd,T.xc_Spent,T.xk_Spent.hd,T.n_Spent_asked,by walk_at "lk",?_⟩
   have sZ:=sY.mono sY2
   refine sZ.ha.get T.cl_Asker T.n_Asker_asked (by walk_at "lk") ?_
   walk_at "rd"
   rw [if_neg (by rw [hk];simp)]
   refine sZ.ha.get T.cl_Asker T.n_Asker_asked (by walk_at "lk") (sZ.ha.get T.cl_Asker T.n_Asker_most (by walk_at "lk") ?_)
   walk_at "rd"
   rw [if_neg (by rw [hk];simp)]
   have fY2:Fr [a,tl,tl] HL Y2:=fX.trans (fY.trans sY2.fr)
   have paY:=(pa.mono SL).fr fY2 px.n1 px.n2
   refine paY.hp.meth (by walk_at "lk") ⟨x,a,fs,od,gr,ls,s,e,r,oa,ps,gs,rfl,paY,by omega,hgl,fun m1 Z1 us t1 hm1 hm1' hsp2=>?_⟩
   refine (paY.mono t1).hp.meth (by walk_at "lk") ⟨x,a,fs,od,gr,ls,s,e,r,oa,ps,gs,rfl,paY.mono t1,by omega,hre,by omega,fun m2 Z2 t2 hm2 hm2'=>⟨ZAU (by decide),fun m3 hm3=>?_⟩⟩
   obtain ⟨Z3,e3,t3,h3⟩:=newH hm3 (.lst [.ref m1,.ref m2])
   rw [e3];clear e3
   have T3:=t1.trans (t2.trans t3)
   have fZ:=fY2.trans T3.fr
   refine two_lists h3 (fZ _ _ aso hsoL) ((t2.trans t3) _ _ hm1') (fZ _ _ al2 hl2L) (t3 _ _ hm2') (fZ _ _ al4 hl4L) (hsp2.keep fun t x h=>(t2.trans t3) _ _ h) (hspL.keep fun t x h=>fZ _ _ ((st.mono SL).tupS h (fun _ z=>by cases z) (fun _ _ _ z=>by cases z)) h) ⟨_,rfl,?_⟩
   rw [if_neg (by decide)]
   have s3':=sZ.mono T3
   refine s3'.ha.meth (by walk_at "lk") ⟨a,rl,ru,tl,_,_,(gv:Nat),rfl,s3'.ha,.inr ⟨_,rfl⟩,fun W kW haW=>?_⟩
   have ew:wdn (V.int (k:Nat)) (gv:Nat)=V.int ((k+gv:Nat):Int):=by show V.int _=_;rw [Int.natCast_add]
   rw [ew] at haW
   exact ⟨_,_,k+gv,pr2,rfl,fZ.trans (fun b o n h=>(kW b (fun z=>n (by rw [z];exact yAF))).trans h),s3'.widened kW haW (.inr ⟨_,rfl,by omega⟩),by omega,fun z=>by have:=hgv (by omega);omega⟩
  .exact q0 ⟨z1,z2,z3⟩ X k' pr' (SL.fr.trans fX) (by omega) sX
  .exact q t Y k' pr' k v1 v2 v3 L oa' ps' gs' r' stp (by omega) (lf.from sX (SL.fr.trans fX))
 rintro σ X ⟨v4,v5,k',pr',rfl,fX,sX,hlen,hk2⟩
 have hk2:=hk2 (yAA _)
 have hlen:pr'.length <= pr.length+400:=hlen
 have paX:=(pa.mono SL).fr fX px.n1 px.n2
 walk_at "rd"
 refine paX.hp.meth (by walk_at "lk") ⟨.int k',ks,xs,a,rl,ru,tl,g,tl,x,fs,od,gr,pr',ls,s,e,r,oa,ps,gs,rfl,sX,paX,px,pi,hek,by omega,hls,by omega,fun k n Y d pr2 ek hk hn hlt fY hd sY=>?_,fun z1 z2 z3=>?_,fun t Y k v1 v2 v3 L oa' ps' gs' r' stp lf=>?_⟩
 .have hn2:=hn.few pi (by omega)
  injection ek with ek
  omega
 .exact q0 ⟨z1,z2,z3⟩ X k' pr' (SL.fr.trans fX) (by omega) sX
 .exact q t Y k' pr' k v1 v2 v3 L oa' ps' gs' r' stp (by omega) (lf.from sX (SL.fr.trans fX))
theorem ok_l_by_pile {f:Addr} {fd:FuncData} (F:Fun K "_law_by_pile" "_law_by_pile" ZBM f fd) (T:Bt K mg C_Join C_Pile C_Asker C_AskedRule C_HallError C_Spent)
  (f_by_pile:Fn P w K mg base (CXE P w) "by_pile" 9 ["asker","least","part"] (ZDb C_Asker (RuM.mk C_AskedRule mg) C_Spent))
  (f_first:Fn P w K mg base CX0 "_law_first" 1 ["_law_one","_law_other"] (ZCp))
  (k_Asker:Kl P w K mg base CX0 "Asker" C_Asker 1 ["self","row","rule","most"] (ZBL C_Asker))
  (k_AskedRule:Kl P w K mg base CX0 "AskedRule" C_AskedRule 1 ["self","teller"] (ZCC C_AskedRule))
 :FnOk P w K mg base CX0 10 f fd ["_law_row","_law_least","_law_bounds","_law_most"] (ZED):=by
 refine F.ok sc_l_by_pile (fun vs H Q E h=>?_) (fun cdv A outer s H vs Q E hr h=>?_)
 .obtain ⟨ks,xs,rw,pt,ls,s,e,m,L0,p0,g0,r0,rfl,hrw0,hth0,hpt,hse,hek,hkl,hls,hR0,hf0,q1,q2⟩:=h
  rfl
 obtain ⟨ks,xs,rw,pt,ls,s,e,m,L0,p0,g0,r0,rfl,hrw0,hth0,hpt,hse,hek,hkl,hls,hR0,hf0,q1,q2⟩:=h
 refine ⟨_,(ZAB (ZAJ (i:=4) sc_l_by_pile.nd rfl (by walk_at "o") (ZDe k_Asker (hr.mono (by decide)) rfl ZAY (ZAA (pv 0) (ZAA (ZDe k_AskedRule (hr.mono (by decide)) rfl ZAY (ZAA (ZEp f_first rfl) ZAD)) (ZAA (pv 3) ZAD)))))
  (ZAB (ps_try (i:=6) ⟨rfl,rfl⟩ rfl rfl T.m_HallError sc_l_by_pile.nd rfl rfl (fun pn xe E hp=>
  (ZAH (ZAJ (i:=5) sc_l_by_pile.nd rfl (by walk_at "o") (pe_fnS f_by_pile (hr.mono (by decide)) rfl hp (ZAA (pv 4) (ZAA (pv 1) (ZAA (pv 2) ZAD))))))) (fun e=>
  (ZAH (ZAX (ZBJ (ZAA (ZEq (ZAQ (call_isExcK K) rfl T.b_isinstance PyProof.Rows.boot_isinstance (ZAA (pv 6) (ZAA (pe_gcls rfl T.m_Spent) ZAD))) (ZEq (ZCV ZCu (pe_xfldMK K (pv 6) rfl) (pv 3) (ZAV _)) (pe_one (ZCV ZCu (ZDf K (pv 4) rfl) (pv 3) (ZAV _))))) (ZAA ZBz ZAD)))))))
  (ZAH (ZAX (ZBJ (ZAA ZDG (ZAA (pv 5) ZAD))))))),?_⟩
 walk_at "rd"
 obtain ⟨H0,eH0⟩:∃ H0,H0=H:=⟨_,rfl⟩
 rw [<- eH0] at hrw0 hth0 hpt ⊢
 have hbd1:Bd (.int (m:Nat)) ([]:List (Nat×Nat)).length:=.inr ⟨m,rfl,yAI _⟩
 intro g hmg
 have hmg:mg "_law_first"=some (.ref g):=hmg
 intro ru drQ hru hdrQ nrdQ
 have hru':upd H0 drQ (.own ru) ru=none:=by rw [ZAI (Ne.symm nrdQ)];exact hru
 have s6Q:Same H0 (upd (upd H0 drQ (.own ru)) ru (.ins C_AskedRule drQ [])):=(ZAK hdrQ _).trans (ZAK hru' _)
 refine ⟨ru,drQ,g,rfl,ZAG,fun H7Q k7Q irQ=>⟨rfl,?_⟩⟩
 have k7Q':Same H0 H7Q:=fun b o h=>k7Q b o (ZAC h hru) (s6Q _ _ h)
 skip
 intro ak daQ hak hdaQ nadQ
 have hak':upd H7Q daQ (.own ak) ak=none:=by rw [ZAI (Ne.symm nadQ)];exact hak
 have s8Q:Same H7Q (upd (upd H7Q daQ (.own ak)) ak (.ins C_Asker daQ [])):=(ZAK hdaQ _).trans (ZAK hak' _)
 refine ⟨ak,daQ,rw,ru,_,xs,rfl,ZAG,s8Q _ _ (k7Q' _ _ hrw0),fun rl tl HA k9Q nrl ntl nrtQ iaQ hrl htl=>⟨rfl,?_⟩⟩
 have u9Q:Same H7Q HA:=fun b o h=>k9Q b o (ZAC h hak) (s8Q _ _ h)
 have uA:Same H0 HA:=k7Q'.trans u9Q
 have h8ak:upd (upd H7Q daQ (.own ak)) ak (.ins C_Asker daQ []) ak=some (.ins C_Asker daQ []):=ZAG
 obtain ⟨drQ',fsQ'',erQ,_,_⟩:=irQ.ex
 have nakru:ru≠ak:=ZAC erQ hak
 have st:SitL _ C_Asker (RuM.mk C_AskedRule mg) HA ks ⟨xs,0⟩ ak rl ru tl g tl []:={
  ha:=iaQ
  hrl:=hrl
  hru:=ZB4 (S:=[ak]) (fun b o n h=>k9Q b o (fun z=>n (by rw [z];exact yAF)) (s8Q _ _ h)) (fun z=>nakru (yAS.mp z)) irQ
  clo:=hmg
  elt:=rfl
  len:=hth0.1
  row:=fun i k hk=>by
   obtain ⟨r,a1,a2⟩:=hth0.2 i k hk
   exact ⟨r,a1,uA _ _ a2⟩
  hlg:=⟨[],htl,⟨trivial⟩⟩
  htl:=⟨[],htl,rfl,fun j p q h=>by simp at h⟩
  ne:=⟨trivial,ZEI (Ne.symm (ZAC h8ak nrl)) nrtQ nrtQ,nakru⟩
  hmo:=hbd1 }
 have fresh1:∀ b o,H0 b=some o->b∉[ak,tl,tl]:=fun b o h=>ZEI (ZAC (k7Q' _ _ h) hak) (ZAC (s8Q _ _ (k7Q' _ _ h)) ntl) (ZAC (s8Q _ _ (k7Q' _ _ h)) ntl)
 have freO1:H0 ru=none /\ H0 rl=none /\ H0 ak=none /\ H0 tl=none:=⟨hru,(k7Q'.trans s8Q).free nrl,k7Q'.free hak,(k7Q'.trans s8Q).free ntl⟩
 clear u9Q k9Q k7Q k7Q' s8Q s6Q erQ h8ak nakru iaQ hrl htl hru hru' hak' hdrQ hdaQ
 have apt:=fresh1 _ _ hpt
 walk_at "rd"
 have back:∀ {Y:Hp},Fr [ak,tl,tl] HA Y->Same H Y:=fun {Y} f b o h=>by rw [<- eH0] at h;exact f _ _ (fresh1 _ _ h) (uA _ _ h)
 refine ⟨_,ks,⟨xs,0⟩,ak,rl,ru,tl,g,tl,ls,s,e,.ref pt,L0,p0,g0,r0,rfl,st,.inl ⟨pt,rfl,uA _ _ hpt⟩,hse,hek,hkl,hls,hR0,hf0,fun k n H1 d pr' ek hk hn hlt f1 hd st1=>?_,fun l H1 f1 hl0 hl st1=>?_⟩
 .injection ek with ek
  have ek:k=m:=by omega
  subst ek
  refine ⟨T.xm_Spent_HallError,fun ea hea=>?_⟩
  obtain ⟨H2,e2,s2,h2⟩:=newH hea (excO ea (.ref C_Spent) (some d))
  rw [e2];clear e2
  walk_at "rd"
  refine isX h2 T.xc_Spent T.xk_Spent.hd T.kit_Spent_Spent rfl ?_
  rw [if_pos rfl]
  refine ⟨ea,_,d,_,_,rfl,.inl h2,s2 _ _ hd,T.xc_Spent,T.xk_Spent.hd,T.n_Spent_asked,by walk_at "lk",?_⟩
  walk_at "rd"
  refine (st1.mono s2).ha.get T.cl_Asker T.n_Asker_asked (by walk_at "lk") ?_
  walk_at "rd"
  refine ⟨ZAU (by decide),fun t ht=>?_⟩
  refine q2 (by omega) t _ (back (f1.trans (s2.trans (ZAK ht _)).fr)) ?_
  rw [ZAG,decide_eq_true (by rw [hk])]
 .have hle:L0.length <= m:=by
   rcases st1.hmo with z | ⟨k,z1,z2⟩
   .cases z
   .injection z1 with z1;omega
  refine ⟨ZAU (by decide),fun t ht=>?_⟩
  exact q1 hle t l _ (back (f1.trans (ZAK ht _).fr)) ZAG (ZAK ht _ _ _ hl)
theorem ok_law {f:Addr} {fd:FuncData} (F:Fun K "law" "law" ZDc f fd) (T:Bt K mg C_Join C_Pile C_Asker C_AskedRule C_HallError C_Spent)
  (f_row_by:Fn P w K mg base CX0 "_law_row_by" 3 ["_law_script"] (ZD9 K))
  (f_l_by_pile:Fn P w K mg base CX0 "_law_by_pile" 10 ["_law_row","_law_least","_law_bounds","_law_most"] (ZED))
  (f_first:Fn P w K mg base CX0 "_law_first" 1 ["_law_one","_law_other"] (ZCp))
  (f_cell_at:Fn P w K mg base CX0 "_law_cell_at" 1 ["_law_script","_law_k"] (ZDy K))
  (f_stepped:Fn P w K mg base CX0 "_law_stepped" 9 ["_law_pile","_law_asker","_law_more"] (ZCR C_Asker (RuM.mk C_AskedRule mg) C_Pile))
  (t_Pile_paper:Mt P w K mg base CX0 C_Pile "paper" 1 ["self"] (ZC5 C_Pile))
  (t_Pile_step:Mt P w K mg base (CXE P w) C_Pile "step" 8 ["self"] (ZDw C_Asker (RuM.mk C_AskedRule mg) C_Pile C_Spent))
  (t_Pile_standing:Mt P w K mg base CX0 C_Pile "standing" 2 ["self"] (ZCB C_Pile))
  (k_Asker_3:KlD P w K mg base CX0 "Asker" C_Asker 1 ["self","row","rule","most"] (ZBL C_Asker) [.non])
  (k_Pile:Kl P w K mg base CX0 "Pile" C_Pile 2 ["self","asker","least","part"] (ZCD C_Asker C_Pile))
  (k_Asker:Kl P w K mg base CX0 "Asker" C_Asker 1 ["self","row","rule","most"] (ZBL C_Asker))
  (k_AskedRule:Kl P w K mg base CX0 "AskedRule" C_AskedRule 1 ["self","teller"] (ZCC C_AskedRule))
 :FnOk P w K mg base CX0 11 f fd ["_law_script"] (ZE2 K):=by
 refine F.ok sc_law (fun vs H Q E h=>?_) (fun cdv A outer s H vs Q E hr h=>?_)
 .obtain ⟨a,ns,rfl,hS,h63,q⟩:=h
  rfl
 obtain ⟨a,ns,rfl,hS,h63,q⟩:=h
 refine ⟨_,(ZAB (ZAJ (i:=1) sc_law.nd rfl (by walk_at "o") (ZBD f_row_by (hr.mono (by decide)) rfl ZAY (ZAA (pv 0) ZAD)))
  (ZAT
  (ZAB (ZAJ (i:=2) sc_law.nd rfl (by walk_at "o") (ZAu ZAf (ZBK (ZAA ZAF (ZAA ZAF (ZAA (ZAO ZAj ZAF (ZAO ZA5 (ZAO ZBU (ZBD f_cell_at (hr.mono (by decide)) rfl ZAY (ZAA (pv 0) (ZAA ZAF ZAD))) ZAF) ZAF)) ZAD)))) (ZAO ZA5 (ZAO ZBU (ZBD f_cell_at (hr.mono (by decide)) rfl ZAY (ZAA (pv 0) (ZAA ZAF ZAD))) ZAF) ZAF) (fun _ _=>rfl)))
  (ZAT
  (ZAB (ZAJ (i:=3) sc_law.nd rfl (by walk_at "o") (ZAO ZB1 (ZAO ZA5 (ZAO ZBU (ZBD f_cell_at (hr.mono (by decide)) rfl ZAY (ZAA (pv 0) (ZAA ZAF ZAD))) ZAF) ZAF) (ZAO ZA5 (ZAO ZBU (ZBD f_cell_at (hr.mono (by decide)) rfl ZAY (ZAA (pv 0) (ZAA ZAF ZAD))) ZAF) (ZAO ZAj (ZAQ ZAL rfl T.b_len PySem.boot_len (ZAA (pv 1) ZAD)) ZAF))))
  (ZAT
  (ZAB (ZAJ (i:=4) sc_law.nd rfl (by walk_at "o") (ZBJ (ZAA (pv 3) (ZAA (ZAQ ZAL rfl T.b_len PySem.boot_len (ZAA (pv 1) ZAD)) ZAD))))
  (ZAT
  (ZAB (ZAJ (i:=5) sc_law.nd rfl (by walk_at "o") (pe_mkD k_Asker_3 (hr.mono (by decide)) rfl ZAY (ZAA (pv 1) (ZAA (ZDe k_AskedRule (hr.mono (by decide)) rfl ZAY (ZAA (ZEp f_first rfl) ZAD)) ZAD))))
  (ZAT
  (ZAB (ZAJ (i:=6) sc_law.nd rfl (by walk_at "o") (ZDe k_Pile (hr.mono (by decide)) rfl ZAY (ZAA (pv 5) (ZAA (pv 2) (ZAA (pv 4) ZAD)))))
  (ZAT
  (ZAB (ZAJ (i:=7) sc_law.nd rfl (by walk_at "o") (ZDe k_Asker (hr.mono (by decide)) rfl ZAY (ZAA (pv 1) (ZAA (ZDe k_AskedRule (hr.mono (by decide)) rfl ZAY (ZAA (ZEp f_first rfl) ZAD)) (ZAA (ZAO ZA5 (ZBD f_cell_at (hr.mono (by decide)) rfl ZAY (ZAA (pv 0) (ZAA ZAF ZAD))) ZAF) ZAD)))))
  (ZAT
  (ZAB (ZAJ (i:=8) sc_law.nd rfl (by walk_at "o") (ZDe k_Pile (hr.mono (by decide)) rfl ZAY (ZAA (pv 7) (ZAA (pv 2) (ZAA (pv 4) ZAD)))))
  (ZAT
  (ZAB (ZAJ (i:=9) sc_law.nd rfl (by walk_at "o") (ZBJ (ZAA ZDN ZAD)))
  (ZAT
  (ZAB (ZBY PassesOwn.never (ZAS ZDj (pv 9) ZBz (ZAV _))
  (ZAB (ZAJ (i:=9) sc_law.nd rfl (by walk_at "o") (ZBF t_Pile_step (hr.mono (by decide)) passE (pv 6)))
   (ZAT
  (ZAB (ZBS (ZAS (ZCe hr.units) (ZBD f_stepped (hr.mono (by decide)) rfl ZAY (ZAA (pv 8) (ZAA (pv 7) (ZAA (ZAO ZA5 (ZAO ZBU (ZBD f_cell_at (hr.mono (by decide)) rfl ZAY (ZAA (pv 0) (ZAA ZAF ZAD))) ZAF) ZAF) ZAD)))) (pv 9) (ZAV _))
  (ZAH (ZAX ZDG)) ZAe)
   (ZAT
  (ZAH (ZBS (PW.pt (pw_or (ZAS (ZCe hr.units) (ZBF t_Pile_standing (hr.mono (by decide)) ZAY (pv 8)) (ZBF t_Pile_standing (hr.mono (by decide)) ZAY (pv 6)) (ZAV _)) (pw_or1 (ZAS (ZCe hr.units) (ZBF t_Pile_paper (hr.mono (by decide)) ZAY (pv 8)) (ZBF t_Pile_paper (hr.mono (by decide)) ZAY (pv 6)) (ZAV _)))))
  (ZAH (ZAX ZDG)) ZAe)))))))
  (ZAT
  (ZAB (ZAJ (i:=10) sc_law.nd rfl (by walk_at "o") (ZAN (pv 5) rfl))
  (ZAT
  (ZAB (ZAJ (i:=11) sc_law.nd rfl (by walk_at "o") (ZBF t_Pile_paper (hr.mono (by decide)) ZAY (pv 6)))
  (ZAT
  (ZAB (ZAJ (i:=12) sc_law.nd rfl (by walk_at "o") (ZAO ZAj ZAF (ZAO ZA5 (ZAO ZBU (ZBD f_cell_at (hr.mono (by decide)) rfl ZAY (ZAA (pv 0) (ZAA ZAF ZAD))) ZAF) (ZAO op_pow ZAF ZAF))))
  (ZAT
  (ZAB (ZBS (ZAS (ZCe hr.units) (ZBD f_l_by_pile (hr.mono (by decide)) rfl ZAY (ZAA (pv 1) (ZAA (pv 2) (ZAA (pv 4) (ZAA (pv 10) ZAD))))) (ZBJ (ZAA ZDG (ZAA (pv 11) ZAD))) (ZAV _))
  (ZAH (ZAX ZDG)) ZAe)
  (ZAT
  (ZAB (ZBS (ZAS (ZCe hr.units) (ZBD f_l_by_pile (hr.mono (by decide)) rfl ZAY (ZAA (pv 1) (ZAA (pv 2) (ZAA (pv 4) (ZAA (ZAO ZAj (pv 10) (pv 12)) ZAD))))) (ZBJ (ZAA ZDG (ZAA (pv 11) ZAD))) (ZAV _))
  (ZAH (ZAX ZDG)) ZAe)
  (ZAT
  (ZAB (ZAJ (i:=13) sc_law.nd rfl (by walk_at "o") (ZAO ZA5 (ZAO ZBU (ZBD f_cell_at (hr.mono (by decide)) rfl ZAY (ZAA (pv 0) (ZAA ZAF ZAD))) ZAF) (ZAQ (call_max2 rfl) rfl T.b_max PyProof.Rows.boot_max (ZAA ZAF (ZAA (pv 10) ZAD)))))
  (ZAT
  (ZAB (ZBS (PW.pt (ZC7 (ZAS ZEr (pv 10) ZAF (ZAV _)) (ZCU (ZAS (ZCe hr.units) (ZBD f_l_by_pile (hr.mono (by decide)) rfl ZAY (ZAA (pv 1) (ZAA (pv 2) (ZAA (pv 4) (ZAA (pv 13) ZAD))))) (ZBJ (ZAA ZDG (ZAA ZBz ZAD))) (ZAV _)))))
  (ZAH (ZAX ZDG)) ZAe)
  (ZAT
  (ZAH (ZAX (ZCV (op_eqD hr.units) (pv 11) (ZDg rfl (k:=1) (js:=[]) (N':=["_law_pair"]) (by rfl) (ZDd (ZAQ call_sortedT rfl T.b_sorted PyProof.Rows.boot_sorted (ZAA (ZCJ ZCq (pv 1) (ZBo (pv 3)) ZEE) ZAD))) (fun _ _ _ _=>ZBp (i:=0) (show (["_law_pair"]:List Str).Nodup by decide +kernel) rfl (by walk_at "o")) (fun _ _ _ _=>ZCz) (fun _ _ _ _=>(ZAu (ix_tupK K) (pv 0) ZAF (fun _ _=>rfl)))) (ZAV _)))))))))))))))))))))))))))))))))))))),?_⟩
 walk_at "rd"
 refine ⟨a,ns,rfl,hS,h63,fun rw H1 ks xs S1 hrw hrw1 hkl hth1=>?_⟩
 refine ZAa ?_
 walk_at "rd"
 refine ⟨a,ns,0,rfl,S1.seq hS,by decide,?_⟩
 generalize cellOf ns 0=c0
 walk_at "rd"
 refine ⟨⟨by decide,by decide⟩,by decide,ZAU (by decide),fun p1 hp1=>?_⟩
 obtain ⟨H2,e2,s2,h2⟩:=newH hp1 (.lst [.int 1,.int 1,.int (1+c0 / 12 % 20)])
 rw [e2];clear e2
 refine ⟨a,ns,0,rfl,(S1.trans s2).seq hS,by decide,?_⟩
 generalize cellOf ns 0=c1
 walk_at "rd"
 refine ⟨⟨by decide,by decide⟩,by decide,?_⟩
 obtain ⟨ls,hls1,hls2,hls⟩:∃ ls:Nat,1 <= ls /\ ls <= 20 /\ atI [V.int 1,V.int 1,V.int (1+c0 / 12 % 20)] (c1 / 4 % 3)=some (.int ls):=by
  have z1:=Int.emod_nonneg (c0 / 12) (show (20:Int)≠0 by decide)
  have z2:=Int.emod_lt_of_pos (c0 / 12) (show (0:Int) < 20 by decide)
  have z3:=Int.emod_nonneg (c1 / 4) (show (3:Int)≠0 by decide)
  have z4:=Int.emod_lt_of_pos (c1 / 4) (show (0:Int) < 3 by decide)
  generalize c1 / 4 % 3=i at z3 z4
  by_cases h0:i=0
  .exact ⟨1,by omega,by omega,by rw [h0];exact ZAv (by decide) rfl⟩
  by_cases h1:i=1
  .exact ⟨1,by omega,by omega,by rw [h1];exact ZAv (by decide) rfl⟩
  .refine ⟨(1+c0 / 12 % 20).toNat,by omega,by omega,?_⟩
   rw [show i=2 by omega,Int.toNat_of_nonneg (by omega)]
   exact ZAv (by decide) rfl
 refine ZAx (SqL.of h2) hls ?_
 refine ZAa ?_
 walk_at "rd"
 have S2:=S1.trans s2
 refine ⟨a,ns,3,rfl,S2.seq hS,by decide,?_⟩
 generalize cellOf ns 3=c3
 walk_at "rd"
 refine ⟨⟨by decide,by decide⟩,by decide,?_⟩
 refine ⟨a,ns,3,rfl,S2.seq hS,by decide,?_⟩
 generalize cellOf ns 3=c4
 walk_at "rd"
 refine ⟨⟨by decide,by decide⟩,?_⟩
 refine ⟨rw,_,rfl,.inl (SqL.of (s2 _ _ hrw1)),?_⟩
 rw [hth1.1]
 walk_at "rd"
 have m0:=Int.emod_nonneg (c3 / 40) (show (2:Int)≠0 by decide)
 have m1:=Int.emod_lt_of_pos (c3 / 40) (show (0:Int) < 2 by decide)
 have m2:=Int.emod_nonneg (c4 / 80) (show ((ks.length:Int)+1)≠0 by omega)
 have m3:=Int.emod_lt_of_pos (c4 / 80) (show (0:Int) < (ks.length:Int)+1 by omega)
 refine ⟨by omega,.inr ⟨by omega,by omega⟩,?_⟩
 obtain ⟨s,hsv,hse⟩:∃ s:Nat,c3 / 40 % 2 * (c4 / 80 % ((ks.length:Int)+1))=(s:Int) /\ s <= ks.length:=by
  generalize c4 / 80 % ((ks.length:Int)+1)=j at m2 m3
  rcases (show c3 / 40 % 2=0∨c3 / 40 % 2=1 by omega) with h | h
  .exact ⟨0,by rw [h];simp,yAI _⟩
  .exact ⟨j.toNat,by rw [h];omega,by omega⟩
 rw [hsv]
 clear m0 m1 m2 m3
 refine ZAa ?_
 walk_at "rd"
 refine ⟨rw,_,rfl,.inl (SqL.of (s2 _ _ hrw1)),?_⟩
 rw [hth1.1]
 refine ⟨ZAU (by decide),fun pt hpt0=>?_⟩
 obtain ⟨H0,e0,s3,hpt⟩:=newH hpt0 (.tup [.int s,.int (ks.length:Nat)])
 rw [e0];clear e0
 have hrw0:=s3 _ _ (s2 _ _ hrw1)
 have hth0:Things H0 ks xs:=⟨hth1.1,fun i k hk=>let ⟨r,a1,a2⟩:=hth1.2 i k hk;⟨r,a1,s3 _ _ (s2 _ _ a2)⟩⟩
 have S0:Same H H0:=S2.trans s3
 have hbd1:Bd .non ([]:List (Nat×Nat)).length:=.inl rfl
 refine ZAa ?_
 walk_at "rd"
 intro g hmg
 have hmg:mg "_law_first"=some (.ref g):=hmg
 intro ru drQ hru hdrQ nrdQ
 have hru':upd H0 drQ (.own ru) ru=none:=by rw [ZAI (Ne.symm nrdQ)];exact hru
 have s6Q:Same H0 (upd (upd H0 drQ (.own ru)) ru (.ins C_AskedRule drQ [])):=(ZAK hdrQ _).trans (ZAK hru' _)
 refine ⟨ru,drQ,g,rfl,ZAG,fun H7Q k7Q irQ=>⟨rfl,?_⟩⟩
 have k7Q':Same H0 H7Q:=fun b o h=>k7Q b o (ZAC h hru) (s6Q _ _ h)
 skip
 intro ak daQ hak hdaQ nadQ
 have hak':upd H7Q daQ (.own ak) ak=none:=by rw [ZAI (Ne.symm nadQ)];exact hak
 have s8Q:Same H7Q (upd (upd H7Q daQ (.own ak)) ak (.ins C_Asker daQ [])):=(ZAK hdaQ _).trans (ZAK hak' _)
 refine ⟨ak,daQ,rw,ru,_,xs,rfl,ZAG,s8Q _ _ (k7Q' _ _ hrw0),fun rl tl HA k9Q nrl ntl nrtQ iaQ hrl htl=>⟨rfl,?_⟩⟩
 have u9Q:Same H7Q HA:=fun b o h=>k9Q b o (ZAC h hak) (s8Q _ _ h)
 have uA:Same H0 HA:=k7Q'.trans u9Q
 have h8ak:upd (upd H7Q daQ (.own ak)) ak (.ins C_Asker daQ []) ak=some (.ins C_Asker daQ []):=ZAG
 obtain ⟨drQ',fsQ'',erQ,_,_⟩:=irQ.ex
 have nakru:ru≠ak:=ZAC erQ hak
 have st:SitL _ C_Asker (RuM.mk C_AskedRule mg) HA ks ⟨xs,0⟩ ak rl ru tl g tl []:={
  ha:=iaQ
  hrl:=hrl
  hru:=ZB4 (S:=[ak]) (fun b o n h=>k9Q b o (fun z=>n (by rw [z];exact yAF)) (s8Q _ _ h)) (fun z=>nakru (yAS.mp z)) irQ
  clo:=hmg
  elt:=rfl
  len:=hth0.1
  row:=fun i k hk=>by
   obtain ⟨r,a1,a2⟩:=hth0.2 i k hk
   exact ⟨r,a1,uA _ _ a2⟩
  hlg:=⟨[],htl,⟨trivial⟩⟩
  htl:=⟨[],htl,rfl,fun j p q h=>by simp at h⟩
  ne:=⟨trivial,ZEI (Ne.symm (ZAC h8ak nrl)) nrtQ nrtQ,nakru⟩
  hmo:=hbd1 }
 have fresh1:∀ b o,H0 b=some o->b∉[ak,tl,tl]:=fun b o h=>ZEI (ZAC (k7Q' _ _ h) hak) (ZAC (s8Q _ _ (k7Q' _ _ h)) ntl) (ZAC (s8Q _ _ (k7Q' _ _ h)) ntl)
 have freO1:H0 ru=none /\ H0 rl=none /\ H0 ak=none /\ H0 tl=none:=⟨hru,(k7Q'.trans s8Q).free nrl,k7Q'.free hak,(k7Q'.trans s8Q).free ntl⟩
 clear u9Q k9Q k7Q k7Q' s8Q s6Q erQ h8ak nakru iaQ hrl htl hru hru' hak' hdrQ hdaQ
 refine ZAa ?_
 walk_at "rd"
 intro x dx hx hdx nxd
 have hx':upd HA dx (.own x) x=none:=by rw [ZAI (Ne.symm nxd)];exact hx
 have sB:Same HA (upd (upd HA dx (.own x)) x (.ins C_Pile dx [])):=(ZAK hdx _).trans (ZAK hx' _)
 have hB:(upd (upd HA dx (.own x)) x (.ins C_Pile dx [])) x=some (.ins C_Pile dx []):=ZAG
 generalize upd (upd HA dx (.own x)) x (.ins C_Pile dx [])=HB at sB hB ⊢
 refine ⟨x,dx,ak,ls,s,ks.length,.ref pt,rfl,hB,.inl ⟨pt,rfl,sB _ _ (uA _ _ hpt)⟩,fun fs od gr P0 kC nfs nod ngr paC=>⟨rfl,?_⟩⟩
 have kA:Same HA P0:=fun b o h=>kC b o (ZAC h hx) (sB _ _ h)
 have w1:P58 .non C_Asker (RuM.mk C_AskedRule mg) C_Pile P0 ks ⟨xs,0⟩ ak rl ru tl g x fs od gr [] ls s ks.length s [] [] []:=⟨st.mono kA,paC,PXl.new st hx (sB.free nfs) (sB.free nod) (sB.free ngr)⟩
 have hrwP:=kA _ _ (uA _ _ hrw0)
 have hptP:=kA _ _ (uA _ _ hpt)
 have hthP:Things P0 ks xs:=⟨hth0.1,fun i k hk=>let ⟨r,a1,a2⟩:=hth0.2 i k hk;⟨r,a1,kA _ _ (uA _ _ a2)⟩⟩
 have fre1:∀ b∈O58 ak rl ru tl x fs od gr,H0 b=none:=fun b z=>by
  simp only [O58,yAE,yBC,or_false] at z
  rcases z with rfl | rfl | rfl | rfl | rfl | rfl | rfl | rfl
  .exact uA.free hx
  .exact uA.free (sB.free nfs)
  .exact uA.free (sB.free nod)
  .exact uA.free (sB.free ngr)
  .exact freO1.2.2.1
  .exact freO1.2.2.2
  .exact freO1.2.1
  .exact freO1.1
 clear paC kC nfs nod ngr hB sB hx' hdx nxd
 refine ZAa ?_
 walk_at "rd"
 intro gg hmgg
 have hmgg:mg "_law_first"=some (.ref gg):=hmgg
 intro rv drQ hrv hdrQ nrdQ
 have hrv':upd P0 drQ (.own rv) rv=none:=by rw [ZAI (Ne.symm nrdQ)];exact hrv
 have s6Q:Same P0 (upd (upd P0 drQ (.own rv)) rv (.ins C_AskedRule drQ [])):=(ZAK hdrQ _).trans (ZAK hrv' _)
 refine ⟨rv,drQ,gg,rfl,ZAG,fun H7Q k7Q irQ=>⟨rfl,?_⟩⟩
 have k7Q':Same P0 H7Q:=fun b o h=>k7Q b o (ZAC h hrv) (s6Q _ _ h)
 refine ⟨a,ns,4,rfl,(((S0.trans uA).trans kA).trans k7Q').seq hS,by decide,?_⟩
 obtain ⟨c5,ec5⟩:∃ c5,cellOf ns 4=c5:=⟨_,rfl⟩
 rw [ec5]
 walk_at "rd"
 refine ⟨by decide,?_⟩
 obtain ⟨k0,ek0,hk0⟩:∃ k0:Nat,c5 % 41=(k0:Int) /\ k0 <= 40:=by
  have z1:=Int.emod_nonneg c5 (show (41:Int)≠0 by decide)
  have z2:=Int.emod_lt_of_pos c5 (show (0:Int) < 41 by decide)
  exact ⟨(c5 % 41).toNat,by omega,by omega⟩
 rw [ek0]
 have hbd2:Bd (.int (k0:Nat)) ([]:List (Nat×Nat)).length:=.inr ⟨k0,rfl,yAI _⟩
 intro bk daQ hbk hdaQ nadQ
 have hbk':upd H7Q daQ (.own bk) bk=none:=by rw [ZAI (Ne.symm nadQ)];exact hbk
 have s8Q:Same H7Q (upd (upd H7Q daQ (.own bk)) bk (.ins C_Asker daQ [])):=(ZAK hdaQ _).trans (ZAK hbk' _)
 refine ⟨bk,daQ,rw,rv,_,xs,rfl,ZAG,s8Q _ _ (k7Q' _ _ hrwP),fun rm tm PA k9Q nrm ntm nrtQ iaQ hrm htm=>⟨rfl,?_⟩⟩
 have u9Q:Same H7Q PA:=fun b o h=>k9Q b o (ZAC h hbk) (s8Q _ _ h)
 have uB:Same P0 PA:=k7Q'.trans u9Q
 have h8bk:upd (upd H7Q daQ (.own bk)) bk (.ins C_Asker daQ []) bk=some (.ins C_Asker daQ []):=ZAG
 obtain ⟨drQ',fsQ'',erQ,_,_⟩:=irQ.ex
 have nakrv:rv≠bk:=ZAC erQ hbk
 have sto:SitL _ C_Asker (RuM.mk C_AskedRule mg) PA ks ⟨xs,0⟩ bk rm rv tm gg tm []:={
  ha:=iaQ
  hrl:=hrm
  hru:=ZB4 (S:=[bk]) (fun b o n h=>k9Q b o (fun z=>n (by rw [z];exact yAF)) (s8Q _ _ h)) (fun z=>nakrv (yAS.mp z)) irQ
  clo:=hmgg
  elt:=rfl
  len:=hthP.1
  row:=fun i k hk=>by
   obtain ⟨r,a1,a2⟩:=hthP.2 i k hk
   exact ⟨r,a1,uB _ _ a2⟩
  hlg:=⟨[],htm,⟨trivial⟩⟩
  htl:=⟨[],htm,rfl,fun j p q h=>by simp at h⟩
  ne:=⟨trivial,ZEI (Ne.symm (ZAC h8bk nrm)) nrtQ nrtQ,nakrv⟩
  hmo:=hbd2 }
 have fresh2:∀ b o,P0 b=some o->b∉[bk,tm,tm]:=fun b o h=>ZEI (ZAC (k7Q' _ _ h) hbk) (ZAC (s8Q _ _ (k7Q' _ _ h)) ntm) (ZAC (s8Q _ _ (k7Q' _ _ h)) ntm)
 have freO2:P0 rv=none /\ P0 rm=none /\ P0 bk=none /\ P0 tm=none:=⟨hrv,(k7Q'.trans s8Q).free nrm,k7Q'.free hbk,(k7Q'.trans s8Q).free ntm⟩
 clear u9Q k9Q k7Q k7Q' s8Q s6Q erQ h8bk nakrv iaQ hrm htm hrv hrv' hbk' hdrQ hdaQ
 refine ZAa ?_
 walk_at "rd"
 intro y dy hy hdy nyd
 have hy':upd PA dy (.own y) y=none:=by rw [ZAI (Ne.symm nyd)];exact hy
 have sB:Same PA (upd (upd PA dy (.own y)) y (.ins C_Pile dy [])):=(ZAK hdy _).trans (ZAK hy' _)
 have hB:(upd (upd PA dy (.own y)) y (.ins C_Pile dy [])) y=some (.ins C_Pile dy []):=ZAG
 generalize upd (upd PA dy (.own y)) y (.ins C_Pile dy [])=HB2 at sB hB ⊢
 refine ⟨y,dy,bk,ls,s,ks.length,.ref pt,rfl,hB,.inl ⟨pt,rfl,sB _ _ (uB _ _ hptP)⟩,fun fs2 od2 gr2 XB kC nfs nod ngr paC=>⟨rfl,?_⟩⟩
 have kB:Same PA XB:=fun b o h=>kC b o (ZAC h hy) (sB _ _ h)
 have w2:P58 (.int (k0:Nat)) C_Asker (RuM.mk C_AskedRule mg) C_Pile XB ks ⟨xs,0⟩ bk rm rv tm gg y fs2 od2 gr2 [] ls s ks.length s [] [] []:=⟨sto.mono kB,paC,PXl.new sto hy (sB.free nfs) (sB.free nod) (sB.free ngr)⟩
 have SB:Same P0 XB:=uB.trans kB
 have fre2:∀ b∈O58 bk rm rv tm y fs2 od2 gr2,P0 b=none:=fun b z=>by
  simp only [O58,yAE,yBC,or_false] at z
  rcases z with rfl | rfl | rfl | rfl | rfl | rfl | rfl | rfl
  .exact uB.free hy
  .exact uB.free (sB.free nfs)
  .exact uB.free (sB.free nod)
  .exact uB.free (sB.free ngr)
  .exact freO2.2.2.1
  .exact freO2.2.2.2
  .exact freO2.2.1
  .exact freO2.1
 have sep:∀ b∈O58 ak rl ru tl x fs od gr,b∉O58 bk rm rv tm y fs2 od2 gr2:=fun b hb z=>by
  have h1:=fre2 b z
  rcases w1.muts b hb with ⟨l,hl⟩ | ⟨C,d,f,hl⟩ <;> · rw [hl] at h1;cases h1
 have out0:∀ b o,H0 b=some o->b∉O58 ak rl ru tl x fs od gr++O58 bk rm rv tm y fs2 od2 gr2:=fun b o h z=>by
  rcases yBD.mp z with z | z
  .rw [fre1 b z] at h;cases h
  .have h1:=fre2 b z;rw [kA _ _ (uA _ _ h)] at h1;cases h1
 refine ZAa ?_
 walk_at "rd"
 refine ⟨ZAU (by decide),fun t0 ht0=>?_⟩
 obtain ⟨X0,eX0,sX0,hX0⟩:=newH ht0 (.tup [.str ""])
 rw [eX0];clear eX0
 have pi0:PInv ks s ks.length s [] []:=⟨rfl,hse,rfl,fun g hg=>by cases hg⟩
 have J0:J58 C_Asker (RuM.mk C_AskedRule mg) C_Pile X0 X0 ks ⟨xs,0⟩ ak rl ru tl g x fs od gr bk rm rv tm gg y fs2 od2 gr2 ls s ks.length [] [] k0 s [] [] [] []:=⟨.refl,(w1.mono SB).mono sX0,w2.mono sX0,pi0,.nil,fun b h=>(by cases h),fun b h=>(by cases h)⟩
 have SX:Same H0 X0:=uA.trans (kA.trans (SB.trans sX0))
 have up:∀ {X:Hp} {b:Addr} {o:HO},Fr (O58 ak rl ru tl x fs od gr++O58 bk rm rv tm y fs2 od2 gr2) X0 X->H0 b=some o->X b=some o:=fun f h=>f _ _ (out0 _ _ h) (SX _ _ h)
 have scr:∀ {X:Hp},Fr (O58 ak rl ru tl x fs od gr++O58 bk rm rv tm y fs2 od2 gr2) X0 X->SqL K X a (ns.map V.int):=fun {X} f=>(show Same H X from fun b o h=>up f (S0 _ _ h)).seq hS
 clear w1 w2 paC kC nfs nod ngr hB sB hy' hdy nyd st sto
 refine ZAa ?_
 walk_at "rd"
 refine ZBV (fun n σ X=>∃ sv pr1 pr2 k2 r oa1 oa2 ps gs,n=(if sv=V.non then 0 else 2 * (ks.length-r)+ps.length+1) /\ σ=[some (.ref a),some (.ref rw),some (.int ls),some (.int s),some (.ref pt),some (.ref ak),some (.ref x),some (.ref bk),some (.ref y),some sv,none,none,none,none] /\ J58 C_Asker (RuM.mk C_AskedRule mg) C_Pile X0 X ks ⟨xs,0⟩ ak rl ru tl g x fs od gr bk rm rv tm gg y fs2 od2 gr2 ls s ks.length pr1 pr2 k2 r oa1 oa2 ps gs /\ (sv=.non->Fin' ks.length ps gs r) /\ (sv≠.non->pr2.length+600 * (2 * (ks.length-r)+ps.length) <= 29000)) ⟨_,.ref t0,[],[],k0,s,[],[],[],[],rfl,rfl,J0,(fun z=>nomatch z),fun _=>by simp;omega⟩ ?_
 clear J0
 rintro n σ X ⟨sv,pr1,pr2,k2,r,oa1,oa2,ps,gs,rfl,rfl,J,hfin,hfew⟩
 have hre:=J.pi.re
 have hcl:=J.pi.ch.le
 have hc:=J.rn.cost pi0 (by omega)
 have hgl:=J.pi.gl
 walk_at "rd"
 by_cases hsv:sv=.non
 case neg=>
  rw [if_pos (by simp [hsv])]
  have hfew:=hfew hsv
  refine ZBW ?_
  walk_at "rd"
  apply ZE6 (fun (sv':V) (Y:Hp)=>∃ pr1' pr2' k2' r' oa1' oa2' ps' gs',J58 C_Asker (RuM.mk C_AskedRule mg) C_Pile X0 Y ks ⟨xs,0⟩ ak rl ru tl g x fs od gr bk rm rv tm gg y fs2 od2 gr2 ls s ks.length pr1' pr2' k2' r' oa1' oa2' ps' gs' /\ (sv'=.non->Fin' ks.length ps' gs' r') /\ (sv'≠.non->pr2'.length+600 * (2 * (ks.length-r')+ps'.length) <= 29000 /\ 2 * (ks.length-r')+ps'.length < 2 * (ks.length-r)+ps.length))
  .intro tailp
   refine J.w1.pa.hp.meth (by walk_at "lk") ⟨.non,ks,⟨xs,0⟩,ak,rl,ru,tl,g,tl,x,fs,od,gr,pr1,ls,s,ks.length,r,oa1,ps,gs,rfl,J.w1.st,J.w1.pa,J.w1.px,J.pi,yAA _,by omega,by omega,by simp at hc;omega,(fun k n H' d pr' ek=>nomatch ek),fun z1 z2 z3=>?_,fun t1 X1 k v1 v2 v3 L oa1' ps' gs' r' stp lf=>?_⟩
   rotate_left
   .obtain ⟨fL,hoa,ht1,pa1,px1,st1⟩:=lf
    have fX1:Fr (O58 ak rl ru tl x fs od gr) X X1:=ZEf fL m7_58
    have w1X:P58 .non C_Asker (RuM.mk C_AskedRule mg) C_Pile X1 ks ⟨xs,0⟩ ak rl ru tl g x fs od gr (pr1++L) ls s ks.length r' oa1' ps' gs':=⟨st1,pa1,px1⟩
    have w2X:=J.w2.off fX1 J.w1.muts (fun b h z=>sep b h z) J.o2
    have fJ:=J.fr.trans (ZEf fX1 fun b h=>yBM (O58 bk rm rv tm y fs2 od2 gr2) h)
    refine ZAa ?_
    walk_at "rd"
    refine ⟨a,ns,4,rfl,scr fJ,by decide,?_⟩
    obtain ⟨c6,ec6⟩:∃ c6,cellOf ns 4=c6:=⟨_,rfl⟩
    rw [ec6]
    walk_at "rd"
    refine ⟨⟨by decide,by decide⟩,by decide,?_⟩
    obtain ⟨mr,emr⟩:∃ mr:Nat,c6 / 41 % 8=(mr:Int):=⟨(c6 / 41 % 8).toNat,by have:=Int.emod_nonneg (c6 / 41) (show (8:Int)≠0 by decide);omega⟩
    rw [emr]
    refine ⟨k2,ks,⟨xs,0⟩,bk,rm,rv,tm,gg,y,fs2,od2,gr2,pr2,ls,s,ks.length,r,oa2,ps,gs,mr,rfl,w2X.st,w2X.pa,w2X.px,J.pi,yAA _,hkl,by omega,by omega,fun hF=>(hF.no stp).elim,fun t2 Y k1 prY k' u1 u2 u3 L2 oa2' ps2 gs2 r2 stp2 hl2 lf2=>?_⟩
    obtain ⟨⟨rfl,rfl,rfl,rfl⟩,rfl,rfl,rfl,rfl⟩:=stp.uniq stp2 J.pi
    obtain ⟨fL2,hoa2,ht2,pa2,px2,st2⟩:=lf2
    have fY2:Fr (O58 bk rm rv tm y fs2 od2 gr2) X1 Y:=ZEf fL2 m7_58
    have nt1:t1∉O58 bk rm rv tm y fs2 od2 gr2:=fun z=>by
     rcases w2X.muts t1 z with ⟨l,hl⟩ | ⟨C,d,f,hl⟩ <;> · rw [hl] at ht1;cases ht1
    refine deed_ne ht2 (fY2 _ _ nt1 ht1) ⟨_,rfl,?_⟩
    rw [if_neg (by decide)]
    have o1':∀ b∈oa1',b∉O58 bk rm rv tm y fs2 od2 gr2:=fun b hb z=>by
     rcases hoa b hb with h | h
     .exact J.o1 b h z
     .rcases J.w2.muts b z with ⟨l,hl⟩ | ⟨C,d,f,hl⟩ <;> · rw [hl] at h;cases h
    have o2':∀ b∈oa2',b∉O58 ak rl ru tl x fs od gr:=fun b hb z=>by
     rcases hoa2 b hb with h | h
     .exact J.o2 b h z
     .rcases w1X.muts b z with ⟨l,hl⟩ | ⟨C,d,f,hl⟩ <;> · rw [hl] at h;cases h
    have hL:=stp.stn.few J.pi hkl
    have hless:=stp.less
    obtain ⟨sv',esv⟩:∃ sv',sv'=V.ref t1:=⟨_,rfl⟩
    rw [<- esv]
    exact tailp sv' Y ⟨_,_,k1,_,oa1',oa2',_,_,⟨fJ.trans (ZEf fY2 fun b h=>yAV _ h),w1X.off fY2 w2X.muts (fun b h z=>sep b z h) o1',⟨st2,pa2,px2⟩,stp.inv J.pi,.snoc J.rn stp,o1',o2'⟩,fun z=>(by rw [esv] at z;cases z),fun _=>⟨by rw [yAB];omega,hless⟩⟩
   .refine ZAa ?_
    walk_at "rd"
    refine ⟨a,ns,4,rfl,scr J.fr,by decide,?_⟩
    obtain ⟨c6,ec6⟩:∃ c6,cellOf ns 4=c6:=⟨_,rfl⟩
    rw [ec6]
    walk_at "rd"
    refine ⟨⟨by decide,by decide⟩,by decide,?_⟩
    obtain ⟨mr,emr⟩:∃ mr:Nat,c6 / 41 % 8=(mr:Int):=⟨(c6 / 41 % 8).toNat,by have:=Int.emod_nonneg (c6 / 41) (show (8:Int)≠0 by decide);omega⟩
    rw [emr]
    refine ⟨k2,ks,⟨xs,0⟩,bk,rm,rv,tm,gg,y,fs2,od2,gr2,pr2,ls,s,ks.length,r,oa2,ps,gs,mr,rfl,J.w2.st,J.w2.pa,J.w2.px,J.pi,yAA _,hkl,by omega,by omega,fun _ Y k1 prY fY hlY sY=>?_,fun t2 Y k1 prY k v1 v2 v3 L oa' ps' gs' r' stp _ _=>(Fin'.no ⟨z1,z2,z3⟩ stp).elim⟩
    refine none_ne ⟨_,rfl,?_⟩
    rw [if_neg (by decide)]
    have fY2:Fr (O58 bk rm rv tm y fs2 od2 gr2) X Y:=ZEf fY m3_58
    exact tailp .non Y ⟨pr1,prY,k1,r,oa1,oa2,ps,gs,⟨J.fr.trans (ZEf fY2 fun b h=>yAV _ h),J.w1.off fY2 J.w2.muts (fun b h z=>sep b z h) J.o1,⟨sY,J.w2.pa.fr fY J.w2.px.n1 J.w2.px.n2,J.w2.px⟩,J.pi,J.rn,J.o1,J.o2⟩,fun _=>⟨z1,z2,z3⟩,fun z=>absurd rfl z⟩
  rintro sv' Y ⟨pr1',pr2',k2',r',oa1',oa2',ps',gs',J',hfin',hless⟩
  have hcl':=J'.pi.ch.le
  have hre':=J'.pi.re
  have hfl':=J'.pi.ch.flen
  refine ZAa ?_
  walk_at "rd"
  refine J'.w2.pa.hp.meth (by walk_at "lk") ⟨y,bk,fs2,od2,gr2,ls,s,ks.length,r',oa2',ps',gs',rfl,J'.w2.pa,by omega,J'.pi.gl,fun l1 Y1 ts1 q1 hl1 hl1' hsp1=>?_⟩
  refine (J'.w1.mono q1).pa.hp.meth (by walk_at "lk") ⟨x,ak,fs,od,gr,ls,s,ks.length,r',oa1',ps',gs',rfl,(J'.w1.mono q1).pa,by omega,J'.pi.gl,fun l2 Y2 ts2 q2 hl2 hl2' hsp2=>?_⟩
  refine span_ne (q2 _ _ hl1') hl2' (hsp1.keep fun t x h=>q2 _ _ h) hsp2 ⟨_,rfl,?_⟩
  rw [if_neg (by decide)]
  have J2:=(J'.mono q1).mono q2
  refine J2.w2.pa.hp.meth (by walk_at "lk") ⟨y,bk,fs2,od2,gr2,ls,s,ks.length,r',oa2',ps',gs',rfl,J2.w2.pa,by omega,hre',by omega,fun l3 Y3 q3 hl3 hl3'=>?_⟩
  refine (J2.w1.mono q3).pa.hp.meth (by walk_at "lk") ⟨x,ak,fs,od,gr,ls,s,ks.length,r',oa1',ps',gs',rfl,(J2.w1.mono q3).pa,by omega,hre',by omega,fun l4 Y4 q4 hl4 hl4'=>?_⟩
  refine nL_ne (q4 _ _ hl3') hl4' ⟨_,rfl,?_⟩
  rw [if_neg (by decide)]
  refine ⟨_,?_,sv',pr1',pr2',k2',r',oa1',oa2',ps',gs',rfl,rfl,(J2.mono q3).mono q4,hfin',fun z=>(hless z).1⟩
  rw [if_neg hsv]
  by_cases z:sv'=.non
  .rw [if_pos z];omega
  .rw [if_neg z];have:=(hless z).2;omega
 rw [if_neg (by simp [hsv])]
 have hF:=hfin hsv
 subst hsv
 refine ZAa ?_
 walk_at "rd"
 refine J.w1.st.ha.get T.cl_Asker T.n_Asker_asked (by walk_at "lk") ?_
 refine ZAa ?_
 walk_at "rd"
 refine J.w1.pa.hp.meth (by walk_at "lk") ⟨x,ak,fs,od,gr,ls,s,ks.length,r,oa1,ps,gs,rfl,J.w1.pa,by rw [J.pi.ch.flen];omega,hre,by omega,fun lq Z1 q1 hlq hlq'=>?_⟩
 rw [hF.2.1,yBI,show List.range' ks.length 0=[] from rfl,yAQ] at hlq'
 have hrn:=J.rn
 have hfl:=flt_fin J.pi hF
 have F1:=J.fr.trans q1.fr
 clear hfew hfin
 refine ZAa ?_
 walk_at "rd"
 refine ⟨a,ns,4,rfl,scr F1,by decide,?_⟩
 generalize cellOf ns 4=c6
 walk_at "rd"
 refine ⟨⟨by decide,by decide⟩,⟨by decide,by decide,by decide⟩,by decide,?_⟩
 obtain ⟨m2,em2⟩:∃ m2:Nat,1+c6 / 328 % 10 ^ Int.toNat 60=(m2:Int):=⟨(1+c6 / 328 % 10 ^ Int.toNat 60).toNat,by have:=Int.emod_nonneg (c6 / 328) (show (10 ^ Int.toNat 60:Int)≠0 by decide);omega⟩
 rw [em2]
 refine ZAa ?_
 walk_at "rd"
 have hth:∀ {Z:Hp},Fr (O58 ak rl ru tl x fs od gr++O58 bk rm rv tm y fs2 od2 gr2) X0 Z->Things Z ks xs:=fun f=>⟨hth0.1,fun i k hk=>let ⟨r,a1,a2⟩:=hth0.2 i k hk;⟨r,a1,up f a2⟩⟩
 refine ⟨ks,xs,rw,pt,ls,s,ks.length,pr1.length,pr1,ps,gs,r,rfl,up F1 hrw0,hth F1,up F1 hpt,hse,yAA _,by omega,by omega,hrn,hF,fun _ t l Z2 q2 ht hl=>⟨ZAU (by decide),fun u hu=>?_⟩,fun z=>absurd z (yBO _)⟩
 obtain ⟨Z3,e3,q3,h3⟩:=newH hu (.tup [.bl false,.ref lq])
 rw [e3];clear e3
 refine tld_ne (q3 _ _ ht) h3 (q3 _ _ hl) (q3 _ _ (q2 _ _ hlq')) ⟨_,rfl,?_⟩
 rw [if_neg (by decide)]
 have Q3:=q2.trans q3
 have F3:=F1.trans Q3.fr
 have hlq3:=Q3 _ _ hlq'
 clear ht hl hu h3 q2 q3 Q3
 refine ZAa ?_
 walk_at "rd"
 rw [<- Int.natCast_add]
 refine ⟨ks,xs,rw,pt,ls,s,ks.length,pr1.length+m2,pr1,ps,gs,r,rfl,up F3 hrw0,hth F3,up F3 hpt,hse,yAA _,by omega,by omega,hrn,hF,fun _ t l Z4 q4 ht hl=>⟨ZAU (by decide),fun u hu=>?_⟩,fun z=>absurd z (by omega)⟩
 obtain ⟨Z5,e5,q5,h5⟩:=newH hu (.tup [.bl false,.ref lq])
 rw [e5];clear e5
 refine tld_ne (q5 _ _ ht) h5 (q5 _ _ hl) (q5 _ _ (q4 _ _ hlq3)) ⟨_,rfl,?_⟩
 rw [if_neg (by decide)]
 have Q5:=q4.trans q5
 have F5:=F3.trans Q5.fr
 have hlq5:=Q5 _ _ hlq3
 clear ht hl hu h5 q4 q5 Q5
 refine ZAa ?_
 walk_at "rd"
 refine ⟨a,ns,4,rfl,scr F5,by decide,?_⟩
 generalize cellOf ns 4=c7
 walk_at "rd"
 refine ⟨⟨by decide,by decide⟩,_,_,rfl,?_⟩
 rw [show (if (pr1.length:Int) > 1 then (pr1.length:Int) else 1)=((max 1 pr1.length:Nat):Int) by split <;> omega]
 walk_at "rd"
 refine ⟨by omega,?_⟩
 obtain ⟨m3,em3,hm3⟩:∃ m3:Nat,c7 / 41 % ((max 1 pr1.length:Nat):Int)=(m3:Int) /\ m3 < max 1 pr1.length:=by
  have z1:=Int.emod_nonneg (c7 / 41) (show ((max 1 pr1.length:Nat):Int)≠0 by omega)
  have z2:=Int.emod_lt_of_pos (c7 / 41) (show (0:Int) < ((max 1 pr1.length:Nat):Int) by omega)
  exact ⟨(c7 / 41 % ((max 1 pr1.length:Nat):Int)).toNat,by omega,by omega⟩
 rw [em3]
 refine ZAa ?_
 walk_at "rd"
 walk_at "rd"
 apply ZEG (fun Z:Hp=>Same Z5 Z)
 .intro tailp
  by_cases h0:0 < pr1.length
  .rw [if_pos (by omega)]
   refine ⟨ks,xs,rw,pt,ls,s,ks.length,m3,pr1,ps,gs,r,rfl,up F5 hrw0,hth F5,up F5 hpt,hse,yAA _,by omega,by omega,hrn,hF,(fun z=>absurd z (by omega)),fun _ t Z6 q6 ht=>⟨ZAU (by decide),fun u hu=>?_⟩⟩
   obtain ⟨Z7,e7,q7,h7⟩:=newH hu (.tup [.bl true,.non])
   rw [e7];clear e7
   refine spent_ne (q7 _ _ ht) h7 ⟨_,rfl,?_⟩
   rw [if_neg (by decide)]
   exact tailp Z7 (q6.trans q7)
  .rw [if_neg (by omega)]
   exact tailp Z5 (.refl _)
 intro Z hZ
 have FZ:=F5.trans hZ.fr
 have hlqZ:=hZ _ _ hlq5
 refine ZAa ?_
 walk_at "rd"
 obtain ⟨zz,ezz,hzzl,hzz⟩:=(hth FZ).zz
 refine ZDK (SqL.of (up FZ hrw0)) fun sl hsl=>?_
 have ecut:cutV xs (some (s:Int)) none=(zz.drop s).map fun z=>V.ref z.1:=by
  unfold cutV
  rw [HT.sIx_none,HT.sIx_nat,yCG,<- ezz,yBK (by rw [hth0.1];exact hse)]
  exact yBQ (by rw [yAR];exact yAA _)
 rw [ecut]
 obtain ⟨HG,eG,sG,hG⟩:=newH hsl (.lst ((zz.drop s).map fun z=>V.ref z.1))
 rw [eG];clear eG
 have hz:∀ z∈zz.drop s,∃ q:Nat,z.2=(kat ks q,(q:Int)) /\ (s <= q /\ q < ks.length) /\ HG z.1=some (.tup [.int (kat ks q),.int q]):=fun z hzm=>by
  obtain ⟨i,hi⟩:=yBN hzm
  rw [yBT] at hi
  obtain ⟨a1,a2⟩:=hzz (s+i) z hi
  have:=(yAH.mp hi).1
  exact ⟨s+i,a1,by omega,sG _ _ a2⟩
 have hzp:(zz.drop s).Pairwise (fun (x y:PrA)=>x.2.2≠y.2.2):=by
  refine List.Pairwise.sublist (List.drop_sublist _ _) ?_
  rw [List.pairwise_iff_getElem]
  intro i j hi hj hij
  have a1:=(hzz i _ (yAL hi)).1
  have a2:=(hzz j _ (yAL hj)).1
  rw [a1,a2]
  show (i:Int)≠j
  omega
 refine ⟨sl,zz.drop s,rfl,SqL.of hG,fun z hzm=>?_,by rw [yAR];omega,fun sl2 ms hsl2 hperm hsorted=>?_⟩
 .obtain ⟨q,a1,_,a4⟩:=hz z hzm
  rw [a1]
  exact SqT.of a4
 obtain ⟨HE,eE,sE,hE⟩:=newH hsl2 (.lst (ms.map fun z=>V.ref z.1))
 rw [eE];clear eE
 have hml:ms.length <= 24:=by rw [hperm.length_eq,yAR];omega
 have hms:∀ z∈ms,∃ q:Nat,z.2=(kat ks q,(q:Int)) /\ (s <= q /\ q < ks.length) /\ HE z.1=some (.tup [.int (kat ks q),.int q]):=fun z hzm=>by
  obtain ⟨q,a1,a2,a4⟩:=hz z (hperm.mem_iff.mp hzm)
  exact ⟨q,a1,a2,sE _ _ a4⟩
 have hdis:ms.Pairwise (fun (x y:PrA)=>x.2.2≠y.2.2):=(hperm.pairwise_iff fun {x y} z=>Ne.symm z).mpr hzp
 have hos:(ms.map fun z=>z.2.2.toNat).Pairwise (lx ks):=by
  rw [List.pairwise_map]
  refine (hsorted.and hdis).imp_of_mem fun {x y} hx hy z=>?_
  obtain ⟨q1,a1,_,_⟩:=hms x hx
  obtain ⟨q2,b1,_,_⟩:=hms y hy
  have z1:=z.1
  have z2:=z.2
  rw [a1,b1] at z1 z2
  rw [a1,b1]
  show lx ks (q1:Int).toNat (q2:Int).toNat
  rw [Int.toNat_natCast,Int.toNat_natCast]
  unfold lxP at z1
  dsimp only at z1 z2
  unfold lx
  omega
 have hosm:∀ x,x∈ms.map (fun z=>z.2.2.toNat)↔s <= x /\ x < ks.length:=fun x=>by
  constructor
  .intro hx
   obtain ⟨z,hzm,rfl⟩:=List.mem_map.mp hx
   obtain ⟨q,a1,a2,_⟩:=hms z hzm
   rw [a1]
   show s <= (q:Int).toNat /\ (q:Int).toNat < _
   rw [Int.toNat_natCast]
   exact a2
  .intro hx
   have hx':x < zz.length:=by omega
   have hmem:zz[x]∈zz.drop s:=yBB (i:=x-s) (by rw [yBT,show s+(x-s)=x by omega];exact yAL hx')
   refine List.mem_map.mpr ⟨zz[x],hperm.mem_iff.mpr hmem,?_⟩
   rw [(hzz x _ (yAL hx')).1]
   exact Int.toNat_natCast x
 have eos:flt ps=ms.map (fun z=>z.2.2.toNat):=ZEu hfl.1 hos fun x=>by rw [hfl.2,hosm]
 refine compL_of (SqL.of hE) (by rw [yAC];omega) (fun i ys σ H'=>∃ v,σ=[v] /\ H'=HE /\ ys=nL ((ms.map fun z=>z.2.2.toNat).take i)) ⟨_,rfl,rfl,rfl⟩ (fun i ys σ H' _ ⟨_,_,e,e2⟩=>⟨by rw [e];exact SqL.of hE,by rw [e2,yAC,yAM];omega⟩) ?_ ?_
 .rintro i ys x σ H' hi hx ⟨v,rfl,rfl,rfl⟩
  rw [yAC] at hi
  rw [yAW,yAL hi] at hx
  cases hx
  obtain ⟨q,a1,a2,a4⟩:=hms ms[i] (List.getElem_mem hi)
  walk_at "rd"
  refine ZBe (SqT.of a4) (ZAv (by decide) rfl) ?_
  refine Nxt.of (by rw [yAC];exact hi) ⟨_,rfl,rfl,?_⟩
  rw [List.take_add_one,yAW,yAL hi]
  unfold nL
  rw [yAN]
  show _=_++[V.int ((ms[i].2.2.toNat:Nat):Int)]
  rw [a1]
  show _=_++[V.int (((q:Int).toNat:Nat):Int)]
  rw [Int.toNat_natCast]
 rintro ys σ HF ⟨v,rfl,rfl,rfl⟩ od9 hod9
 rw [yAC,yBQ (by rw [yAC];exact yAA _),<- eos]
 obtain ⟨HQ,eQ,sQ,hQ⟩:=newH hod9 (.lst (nL (flt ps)))
 rw [eQ];clear eQ
 exact nL_eq (sQ _ _ (sE _ _ (sG _ _ hlqZ))) hQ (q HQ)
end
theorem all_mk {l:PySem.W.OpenLaw} {w:World} {K:W.Frag} {h:Heap} {mg:Str->Option Value} {fa C_zaP f_zat f_zai f_zap f_zal f_zaf f_zay f_zak C_zaQ f_zau T_zau f_zae f_zaa f_zab f_zah f_zax f_zav f_zao f_zag C_zaO f_zam f_zas T_zas f_zaq f_zan C_zaN f_zad f_zac C_HallError C_Spent f_zar f_zaJ f_zaj T_zaj f_zaD f_zaA f_zaG T_zaG f_zaL f_zaI f_zaK f_zaB f_zaF f_zaz f_zaH f_zaE T_zaE f_zaC f_zaw f_zaM:Addr} {td_zau_0 td_zaE_0 t_LEFT t_RIGHT t_WINS_TO_LEAP:Tok} (X:K.In h) (G:h.Ns mainGlobals mg) (hfa:mg "law"=some (.ref fa))
  {od_zat an_zat:Option Addr} {sl_zat:Array (Option Value)} {oc_zat kV_zat dc_zat pm_zat cd_zat ct_zat:Value}
  {od_zai an_zai:Option Addr} {sl_zai:Array (Option Value)} {oc_zai kV_zai dc_zai pm_zai cd_zai ct_zai:Value}
  {od_zap an_zap:Option Addr} {sl_zap:Array (Option Value)} {oc_zap kV_zap dc_zap pm_zap cd_zap ct_zap:Value}
  {od_zal an_zal:Option Addr} {sl_zal:Array (Option Value)} {oc_zal kV_zal dc_zal pm_zal cd_zal ct_zal:Value}
  {od_zaf an_zaf:Option Addr} {sl_zaf:Array (Option Value)} {oc_zaf kV_zaf dc_zaf pm_zaf cd_zaf ct_zaf:Value}
  {od_zay an_zay:Option Addr} {sl_zay:Array (Option Value)} {oc_zay kV_zay dc_zay pm_zay cd_zay ct_zay:Value}
  {od_zak an_zak:Option Addr} {sl_zak:Array (Option Value)} {oc_zak kV_zak dc_zak pm_zak cd_zak ct_zak:Value}
  {ocT_zau:Value} {odT_zau:Option Addr} {nT_zau:Nat} {slT_zau:Array (Option Value)}
  {od_zau an_zau:Option Addr} {sl_zau:Array (Option Value)} {oc_zau kV_zau dc_zau pm_zau cd_zau ct_zau:Value}
  {od_zae an_zae:Option Addr} {sl_zae:Array (Option Value)} {oc_zae kV_zae dc_zae pm_zae cd_zae ct_zae:Value}
  {od_zaa an_zaa:Option Addr} {sl_zaa:Array (Option Value)} {oc_zaa kV_zaa dc_zaa pm_zaa cd_zaa ct_zaa:Value}
  {od_zab an_zab:Option Addr} {sl_zab:Array (Option Value)} {oc_zab kV_zab dc_zab pm_zab cd_zab ct_zab:Value}
  {od_zah an_zah:Option Addr} {sl_zah:Array (Option Value)} {oc_zah kV_zah dc_zah pm_zah cd_zah ct_zah:Value}
  {od_zax an_zax:Option Addr} {sl_zax:Array (Option Value)} {oc_zax kV_zax dc_zax pm_zax cd_zax ct_zax:Value}
  {od_zav an_zav:Option Addr} {sl_zav:Array (Option Value)} {oc_zav kV_zav dc_zav pm_zav cd_zav ct_zav:Value}
  {od_zao an_zao:Option Addr} {sl_zao:Array (Option Value)} {oc_zao kV_zao dc_zao pm_zao cd_zao ct_zao:Value}
  {od_zag an_zag:Option Addr} {sl_zag:Array (Option Value)} {oc_zag kV_zag dc_zag pm_zag cd_zag ct_zag:Value}
  {od_zam an_zam:Option Addr} {sl_zam:Array (Option Value)} {oc_zam kV_zam dc_zam pm_zam cd_zam ct_zam:Value}
  {ocT_zas:Value} {odT_zas:Option Addr} {nT_zas:Nat} {slT_zas:Array (Option Value)}
  {od_zas an_zas:Option Addr} {sl_zas:Array (Option Value)} {oc_zas kV_zas dc_zas pm_zas cd_zas ct_zas:Value}
  {od_zaq an_zaq:Option Addr} {sl_zaq:Array (Option Value)} {oc_zaq kV_zaq dc_zaq pm_zaq cd_zaq ct_zaq:Value}
  {od_zan an_zan:Option Addr} {sl_zan:Array (Option Value)} {oc_zan kV_zan dc_zan pm_zan cd_zan ct_zan:Value}
  {od_zad an_zad:Option Addr} {sl_zad:Array (Option Value)} {oc_zad kV_zad dc_zad pm_zad cd_zad ct_zad:Value}
  {od_zac an_zac:Option Addr} {sl_zac:Array (Option Value)} {oc_zac kV_zac dc_zac pm_zac cd_zac ct_zac:Value}
  {od_zar an_zar:Option Addr} {sl_zar:Array (Option Value)} {oc_zar kV_zar dc_zar pm_zar cd_zar ct_zar:Value}
  {od_zaJ an_zaJ:Option Addr} {sl_zaJ:Array (Option Value)} {oc_zaJ kV_zaJ dc_zaJ pm_zaJ cd_zaJ ct_zaJ:Value}
  {ocT_zaj:Value} {odT_zaj:Option Addr} {nT_zaj:Nat} {slT_zaj:Array (Option Value)}
  {od_zaj an_zaj:Option Addr} {sl_zaj:Array (Option Value)} {oc_zaj kV_zaj dc_zaj pm_zaj cd_zaj ct_zaj:Value}
  {od_zaD an_zaD:Option Addr} {sl_zaD:Array (Option Value)} {oc_zaD kV_zaD dc_zaD pm_zaD cd_zaD ct_zaD:Value}
  {od_zaA an_zaA:Option Addr} {sl_zaA:Array (Option Value)} {oc_zaA kV_zaA dc_zaA pm_zaA cd_zaA ct_zaA:Value}
  {ocT_zaG:Value} {odT_zaG:Option Addr} {nT_zaG:Nat} {slT_zaG:Array (Option Value)}
  {od_zaG an_zaG:Option Addr} {sl_zaG:Array (Option Value)} {oc_zaG kV_zaG dc_zaG pm_zaG cd_zaG ct_zaG:Value}
  {od_zaL an_zaL:Option Addr} {sl_zaL:Array (Option Value)} {oc_zaL kV_zaL dc_zaL pm_zaL cd_zaL ct_zaL:Value}
  {od_zaI an_zaI:Option Addr} {sl_zaI:Array (Option Value)} {oc_zaI kV_zaI dc_zaI pm_zaI cd_zaI ct_zaI:Value}
  {od_zaK an_zaK:Option Addr} {sl_zaK:Array (Option Value)} {oc_zaK kV_zaK dc_zaK pm_zaK cd_zaK ct_zaK:Value}
  {od_zaB an_zaB:Option Addr} {sl_zaB:Array (Option Value)} {oc_zaB kV_zaB dc_zaB pm_zaB cd_zaB ct_zaB:Value}
  {od_zaF an_zaF:Option Addr} {sl_zaF:Array (Option Value)} {oc_zaF kV_zaF dc_zaF pm_zaF cd_zaF ct_zaF:Value}
  {od_zaz an_zaz:Option Addr} {sl_zaz:Array (Option Value)} {oc_zaz kV_zaz dc_zaz pm_zaz cd_zaz ct_zaz:Value}
  {od_zaH an_zaH:Option Addr} {sl_zaH:Array (Option Value)} {oc_zaH kV_zaH dc_zaH pm_zaH cd_zaH ct_zaH:Value}
  {ocT_zaE:Value} {odT_zaE:Option Addr} {nT_zaE:Nat} {slT_zaE:Array (Option Value)}
  {od_zaE an_zaE:Option Addr} {sl_zaE:Array (Option Value)} {oc_zaE kV_zaE dc_zaE pm_zaE cd_zaE ct_zaE:Value}
  {od_zaC an_zaC:Option Addr} {sl_zaC:Array (Option Value)} {oc_zaC kV_zaC dc_zaC pm_zaC cd_zaC ct_zaC:Value}
  {od_zaw an_zaw:Option Addr} {sl_zaw:Array (Option Value)} {oc_zaw kV_zaw dc_zaw pm_zaw cd_zaw ct_zaw:Value}
  {od_zaM an_zaM:Option Addr} {sl_zaM:Array (Option Value)} {oc_zaM kV_zaM dc_zaM pm_zaM cd_zaM ct_zaM:Value}
  (a_zaP:W.nsIn K mainGlobals "Join"=some (some (.ref C_zaP)))
  (pg_zaP:PySem.W.plainGet K C_zaP Str.empty=true)
  (hd_zaP:PySem.W.hasDictIn K C_zaP=true)
  (po_zaP:PySem.W.plainOver K C_zaP=true)
  (sa_zaP:W.findIn K (.ref C_zaP) "__setattr__"=some (some (.builtin "object.__setattr__")))
  (mk_zaP:PySem.W.makesIn K C_zaP=true)
  (kc_zaP:W.keepIn K (.ref C_zaP)=true)
  (n_zaP_asker:W.findIn K (.ref C_zaP) "asker"=some none)
  (n_zaP_sides:W.findIn K (.ref C_zaP) "sides"=some none)
  (n_zaP_taken:W.findIn K (.ref C_zaP) "taken"=some none)
  (n_zaP_places:W.findIn K (.ref C_zaP) "places"=some none)
  (a_zat:W.findIn K (.ref C_zaP) "__init__"=some (some (.ref f_zat)))
  (i_zat:PySem.W.isFn K (.ref f_zat)=true)
  (l_zat:K.lookup f_zat=some ⟨oc_zat,od_zat,.func (W.fnOf "__init__" "Join.__init__" (ZAP ZBP) (ZAM ZBP) (ZAE ZBP) .none kV_zat dc_zat pm_zat an_zat cd_zat ct_zat),sl_zat⟩)
  (c_zat:W.codeIn K cd_zat "Join.__init__"=true)
  (k_zat:W.keepIn K (.ref f_zat)=true)
  (a_zai:W.findIn K (.ref C_zaP) "has_more"=some (some (.ref f_zai)))
  (i_zai:PySem.W.isFn K (.ref f_zai)=true)
  (l_zai:K.lookup f_zai=some ⟨oc_zai,od_zai,.func (W.fnOf "has_more" "Join.has_more" (ZAP ZAt) (ZAM ZAt) (ZAE ZAt) .none kV_zai dc_zai pm_zai an_zai cd_zai ct_zai),sl_zai⟩)
  (c_zai:W.codeIn K cd_zai "Join.has_more"=true)
  (k_zai:W.keepIn K (.ref f_zai)=true)
  (a_zap:W.findIn K (.ref C_zaP) "front"=some (some (.ref f_zap)))
  (i_zap:PySem.W.isFn K (.ref f_zap)=true)
  (l_zap:K.lookup f_zap=some ⟨oc_zap,od_zap,.func (W.fnOf "front" "Join.front" (ZAP ZA9) (ZAM ZA9) (ZAE ZA9) .none kV_zap dc_zap pm_zap an_zap cd_zap ct_zap),sl_zap⟩)
  (c_zap:W.codeIn K cd_zap "Join.front"=true)
  (k_zap:W.keepIn K (.ref f_zap)=true)
  (a_zal:W.findIn K (.ref C_zaP) "take_on"=some (some (.ref f_zal)))
  (i_zal:PySem.W.isFn K (.ref f_zal)=true)
  (l_zal:K.lookup f_zal=some ⟨oc_zal,od_zal,.func (W.fnOf "take_on" "Join.take_on" (ZAP ZAz) (ZAM ZAz) (ZAE ZAz) .none kV_zal dc_zal pm_zal an_zal cd_zal ct_zal),sl_zal⟩)
  (c_zal:W.codeIn K cd_zal "Join.take_on"=true)
  (k_zal:W.keepIn K (.ref f_zal)=true)
  (a_zaf:W.findIn K (.ref C_zaP) "take_rest"=some (some (.ref f_zaf)))
  (i_zaf:PySem.W.isFn K (.ref f_zaf)=true)
  (l_zaf:K.lookup f_zaf=some ⟨oc_zaf,od_zaf,.func (W.fnOf "take_rest" "Join.take_rest" (ZAP ZAo) (ZAM ZAo) (ZAE ZAo) .none kV_zaf dc_zaf pm_zaf an_zaf cd_zaf ct_zaf),sl_zaf⟩)
  (c_zaf:W.codeIn K cd_zaf "Join.take_rest"=true)
  (k_zaf:W.keepIn K (.ref f_zaf)=true)
  (a_zay:W.findIn K (.ref C_zaP) "win"=some (some (.ref f_zay)))
  (i_zay:PySem.W.isFn K (.ref f_zay)=true)
  (l_zay:K.lookup f_zay=some ⟨oc_zay,od_zay,.func (W.fnOf "win" "Join.win" (ZAP ZBb) (ZAM ZBb) (ZAE ZBb) .none kV_zay dc_zay pm_zay an_zay cd_zay ct_zay),sl_zay⟩)
  (c_zay:W.codeIn K cd_zay "Join.win"=true)
  (k_zay:W.keepIn K (.ref f_zay)=true)
  (a_zak:W.findIn K (.ref C_zaP) "leap_on"=some (some (.ref f_zak)))
  (i_zak:PySem.W.isFn K (.ref f_zak)=true)
  (l_zak:K.lookup f_zak=some ⟨oc_zak,od_zak,.func (W.fnOf "leap_on" "Join.leap_on" (ZAP ZA0) (ZAM ZA0) (ZAE ZA0) .none kV_zak dc_zak pm_zak an_zak cd_zak ct_zak),sl_zak⟩)
  (c_zak:W.codeIn K cd_zak "Join.leap_on"=true)
  (k_zak:W.keepIn K (.ref f_zak)=true)
  (a_zaQ:W.nsIn K mainGlobals "Pile"=some (some (.ref C_zaQ)))
  (pg_zaQ:PySem.W.plainGet K C_zaQ Str.empty=true)
  (hd_zaQ:PySem.W.hasDictIn K C_zaQ=true)
  (po_zaQ:PySem.W.plainOver K C_zaQ=true)
  (sa_zaQ:W.findIn K (.ref C_zaQ) "__setattr__"=some (some (.builtin "object.__setattr__")))
  (mk_zaQ:PySem.W.makesIn K C_zaQ=true)
  (kc_zaQ:W.keepIn K (.ref C_zaQ)=true)
  (n_zaQ_asker:W.findIn K (.ref C_zaQ) "asker"=some none)
  (n_zaQ_least:W.findIn K (.ref C_zaQ) "least"=some none)
  (n_zaQ_start:W.findIn K (.ref C_zaQ) "start"=some none)
  (n_zaQ_end:W.findIn K (.ref C_zaQ) "end"=some none)
  (n_zaQ_reached:W.findIn K (.ref C_zaQ) "reached"=some none)
  (n_zaQ_firsts:W.findIn K (.ref C_zaQ) "firsts"=some none)
  (n_zaQ_orders:W.findIn K (.ref C_zaQ) "orders"=some none)
  (n_zaQ_grades:W.findIn K (.ref C_zaQ) "grades"=some none)
  (a_zau:W.findIn K (.ref C_zaQ) "__init__"=some (some (.ref f_zau)))
  (i_zau:PySem.W.isFn K (.ref f_zau)=true)
  (l_zau:K.lookup f_zau=some ⟨oc_zau,od_zau,.func (W.fnOf "__init__" "Pile.__init__" (ZAP ZBO) (ZAM ZBO) (ZAE ZBO) (.ref T_zau) kV_zau dc_zau pm_zau an_zau cd_zau ct_zau),sl_zau⟩)
  (c_zau:W.codeIn K cd_zau "Pile.__init__"=true)
  (d_zau:K.lookup T_zau=some ⟨ocT_zau,odT_zau,.seq ([.int 1 td_zau_0,.none]:List Value).toArray nT_zau,slT_zau⟩)
  (k_zau:W.keepIn K (.ref f_zau)=true)
  (a_zae:W.findIn K (.ref C_zaQ) "beyond_of"=some (some (.ref f_zae)))
  (i_zae:PySem.W.isFn K (.ref f_zae)=true)
  (l_zae:K.lookup f_zae=some ⟨oc_zae,od_zae,.func (W.fnOf "beyond_of" "Pile.beyond_of" (ZAP ZAn) (ZAM ZAn) (ZAE ZAn) .none kV_zae dc_zae pm_zae an_zae cd_zae ct_zae),sl_zae⟩)
  (c_zae:W.codeIn K cd_zae "Pile.beyond_of"=true)
  (k_zae:W.keepIn K (.ref f_zae)=true)
  (a_zaa:W.findIn K (.ref C_zaQ) "is_due_beneath"=some (some (.ref f_zaa)))
  (i_zaa:PySem.W.isFn K (.ref f_zaa)=true)
  (l_zaa:K.lookup f_zaa=some ⟨oc_zaa,od_zaa,.func (W.fnOf "is_due_beneath" "Pile.is_due_beneath" (ZAP ZAZ) (ZAM ZAZ) (ZAE ZAZ) .none kV_zaa dc_zaa pm_zaa an_zaa cd_zaa ct_zaa),sl_zaa⟩)
  (c_zaa:W.codeIn K cd_zaa "Pile.is_due_beneath"=true)
  (k_zaa:W.keepIn K (.ref f_zaa)=true)
  (a_zab:W.findIn K (.ref C_zaQ) "grade_on_top"=some (some (.ref f_zab)))
  (i_zab:PySem.W.isFn K (.ref f_zab)=true)
  (l_zab:K.lookup f_zab=some ⟨oc_zab,od_zab,.func (W.fnOf "grade_on_top" "Pile.grade_on_top" (ZAP ZAb) (ZAM ZAb) (ZAE ZAb) .none kV_zab dc_zab pm_zab an_zab cd_zab ct_zab),sl_zab⟩)
  (c_zab:W.codeIn K cd_zab "Pile.grade_on_top"=true)
  (k_zab:W.keepIn K (.ref f_zab)=true)
  (a_zah:W.findIn K (.ref C_zaQ) "join_two"=some (some (.ref f_zah)))
  (i_zah:PySem.W.isFn K (.ref f_zah)=true)
  (l_zah:K.lookup f_zah=some ⟨oc_zah,od_zah,.func (W.fnOf "join_two" "Pile.join_two" (ZAP ZAs) (ZAM ZAs) (ZAE ZAs) .none kV_zah dc_zah pm_zah an_zah cd_zah ct_zah),sl_zah⟩)
  (c_zah:W.codeIn K cd_zah "Pile.join_two"=true)
  (k_zah:W.keepIn K (.ref f_zah)=true)
  (a_zax:W.findIn K (.ref C_zaQ) "lay"=some (some (.ref f_zax)))
  (i_zax:PySem.W.isFn K (.ref f_zax)=true)
  (l_zax:K.lookup f_zax=some ⟨oc_zax,od_zax,.func (W.fnOf "lay" "Pile.lay" (ZAP ZBa) (ZAM ZBa) (ZAE ZBa) .none kV_zax dc_zax pm_zax an_zax cd_zax ct_zax),sl_zax⟩)
  (c_zax:W.codeIn K cd_zax "Pile.lay"=true)
  (k_zax:W.keepIn K (.ref f_zax)=true)
  (a_zav:W.findIn K (.ref C_zaQ) "step"=some (some (.ref f_zav)))
  (i_zav:PySem.W.isFn K (.ref f_zav)=true)
  (l_zav:K.lookup f_zav=some ⟨oc_zav,od_zav,.func (W.fnOf "step" "Pile.step" (ZAP ZBN) (ZAM ZBN) (ZAE ZBN) .none kV_zav dc_zav pm_zav an_zav cd_zav ct_zav),sl_zav⟩)
  (c_zav:W.codeIn K cd_zav "Pile.step"=true)
  (k_zav:W.keepIn K (.ref f_zav)=true)
  (a_zao:W.findIn K (.ref C_zaQ) "paper"=some (some (.ref f_zao)))
  (i_zao:PySem.W.isFn K (.ref f_zao)=true)
  (l_zao:K.lookup f_zao=some ⟨oc_zao,od_zao,.func (W.fnOf "paper" "Pile.paper" (ZAP ZA8) (ZAM ZA8) (ZAE ZA8) .none kV_zao dc_zao pm_zao an_zao cd_zao ct_zao),sl_zao⟩)
  (c_zao:W.codeIn K cd_zao "Pile.paper"=true)
  (k_zao:W.keepIn K (.ref f_zao)=true)
  (a_zag:W.findIn K (.ref C_zaQ) "standing"=some (some (.ref f_zag)))
  (i_zag:PySem.W.isFn K (.ref f_zag)=true)
  (l_zag:K.lookup f_zag=some ⟨oc_zag,od_zag,.func (W.fnOf "standing" "Pile.standing" (ZAP ZAr) (ZAM ZAr) (ZAE ZAr) .none kV_zag dc_zag pm_zag an_zag cd_zag ct_zag),sl_zag⟩)
  (c_zag:W.codeIn K cd_zag "Pile.standing"=true)
  (k_zag:W.keepIn K (.ref f_zag)=true)
  (a_zaO:W.nsIn K mainGlobals "Asker"=some (some (.ref C_zaO)))
  (pg_zaO:PySem.W.plainGet K C_zaO Str.empty=true)
  (hd_zaO:PySem.W.hasDictIn K C_zaO=true)
  (po_zaO:PySem.W.plainOver K C_zaO=true)
  (sa_zaO:W.findIn K (.ref C_zaO) "__setattr__"=some (some (.builtin "object.__setattr__")))
  (mk_zaO:PySem.W.makesIn K C_zaO=true)
  (kc_zaO:W.keepIn K (.ref C_zaO)=true)
  (n_zaO_row:W.findIn K (.ref C_zaO) "row"=some none)
  (n_zaO_rule:W.findIn K (.ref C_zaO) "rule"=some none)
  (n_zaO_most:W.findIn K (.ref C_zaO) "most"=some none)
  (n_zaO_asked:W.findIn K (.ref C_zaO) "asked"=some none)
  (n_zaO_told:W.findIn K (.ref C_zaO) "told"=some none)
  (a_zam:W.findIn K (.ref C_zaO) "widen"=some (some (.ref f_zam)))
  (i_zam:PySem.W.isFn K (.ref f_zam)=true)
  (l_zam:K.lookup f_zam=some ⟨oc_zam,od_zam,.func (W.fnOf "widen" "Asker.widen" (ZAP ZA1) (ZAM ZA1) (ZAE ZA1) .none kV_zam dc_zam pm_zam an_zam cd_zam ct_zam),sl_zam⟩)
  (c_zam:W.codeIn K cd_zam "Asker.widen"=true)
  (k_zam:W.keepIn K (.ref f_zam)=true)
  (a_zas:W.findIn K (.ref C_zaO) "__init__"=some (some (.ref f_zas)))
  (i_zas:PySem.W.isFn K (.ref f_zas)=true)
  (l_zas:K.lookup f_zas=some ⟨oc_zas,od_zas,.func (W.fnOf "__init__" "Asker.__init__" (ZAP ZBB) (ZAM ZBB) (ZAE ZBB) (.ref T_zas) kV_zas dc_zas pm_zas an_zas cd_zas ct_zas),sl_zas⟩)
  (c_zas:W.codeIn K cd_zas "Asker.__init__"=true)
  (d_zas:K.lookup T_zas=some ⟨ocT_zas,odT_zas,.seq ([.none]:List Value).toArray nT_zas,slT_zas⟩)
  (k_zas:W.keepIn K (.ref f_zas)=true)
  (a_zaq:W.findIn K (.ref C_zaO) "many"=some (some (.ref f_zaq)))
  (i_zaq:PySem.W.isFn K (.ref f_zaq)=true)
  (l_zaq:K.lookup f_zaq=some ⟨oc_zaq,od_zaq,.func (W.fnOf "many" "Asker.many" (ZAP ZBA) (ZAM ZBA) (ZAE ZBA) .none kV_zaq dc_zaq pm_zaq an_zaq cd_zaq ct_zaq),sl_zaq⟩)
  (c_zaq:W.codeIn K cd_zaq "Asker.many"=true)
  (k_zaq:W.keepIn K (.ref f_zaq)=true)
  (a_zan:W.findIn K (.ref C_zaO) "ahead"=some (some (.ref f_zan)))
  (i_zan:PySem.W.isFn K (.ref f_zan)=true)
  (l_zan:K.lookup f_zan=some ⟨oc_zan,od_zan,.func (W.fnOf "ahead" "Asker.ahead" (ZAP ZA2) (ZAM ZA2) (ZAE ZA2) .none kV_zan dc_zan pm_zan an_zan cd_zan ct_zan),sl_zan⟩)
  (c_zan:W.codeIn K cd_zan "Asker.ahead"=true)
  (k_zan:W.keepIn K (.ref f_zan)=true)
  (a_zaN:W.nsIn K mainGlobals "AskedRule"=some (some (.ref C_zaN)))
  (pg_zaN:PySem.W.plainGet K C_zaN Str.empty=true)
  (hd_zaN:PySem.W.hasDictIn K C_zaN=true)
  (po_zaN:PySem.W.plainOver K C_zaN=true)
  (sa_zaN:W.findIn K (.ref C_zaN) "__setattr__"=some (some (.builtin "object.__setattr__")))
  (mk_zaN:PySem.W.makesIn K C_zaN=true)
  (kc_zaN:W.keepIn K (.ref C_zaN)=true)
  (n_zaN_teller:W.findIn K (.ref C_zaN) "teller"=some none)
  (a_zad:W.findIn K (.ref C_zaN) "__init__"=some (some (.ref f_zad)))
  (i_zad:PySem.W.isFn K (.ref f_zad)=true)
  (l_zad:K.lookup f_zad=some ⟨oc_zad,od_zad,.func (W.fnOf "__init__" "AskedRule.__init__" (ZAP ZAp) (ZAM ZAp) (ZAE ZAp) .none kV_zad dc_zad pm_zad an_zad cd_zad ct_zad),sl_zad⟩)
  (c_zad:W.codeIn K cd_zad "AskedRule.__init__"=true)
  (k_zad:W.keepIn K (.ref f_zad)=true)
  (a_zac:W.findIn K (.ref C_zaN) "before"=some (some (.ref f_zac)))
  (i_zac:PySem.W.isFn K (.ref f_zac)=true)
  (l_zac:K.lookup f_zac=some ⟨oc_zac,od_zac,.func (W.fnOf "before" "AskedRule.before" (ZAP ZAc) (ZAM ZAc) (ZAE ZAc) .none kV_zac dc_zac pm_zac an_zac cd_zac ct_zac),sl_zac⟩)
  (c_zac:W.codeIn K cd_zac "AskedRule.before"=true)
  (k_zac:W.keepIn K (.ref f_zac)=true)
  (a_HallError:W.nsIn K mainGlobals "HallError"=some (some (.ref C_HallError)))
  (a_Spent:W.nsIn K mainGlobals "Spent"=some (some (.ref C_Spent)))
  (a_zar:W.findIn K (.ref C_Spent) "__init__"=some (some (.ref f_zar)))
  (i_zar:PySem.W.isFn K (.ref f_zar)=true)
  (l_zar:K.lookup f_zar=some ⟨oc_zar,od_zar,.func (W.fnOf "__init__" "Spent.__init__" (ZAP ZA7) (ZAM ZA7) (ZAE ZA7) .none kV_zar dc_zar pm_zar an_zar cd_zar ct_zar),sl_zar⟩)
  (c_zar:W.codeIn K cd_zar "Spent.__init__"=true)
  (k_zar:W.keepIn K (.ref f_zar)=true)
  (xg_Spent:W.findIn K (.ref C_Spent) "__getattribute__"=some (some (.builtin "BaseException.__getattribute__")))
  (xh_Spent:W.findIn K (.ref C_Spent) "__getattr__"=some none)
  (xa_Spent:W.findIn K (.ref C_Spent) "__class__"=some (some (.builtin "object.__class__")))
  (xs_Spent:PySem.W.specialIn K (.builtin "object.__class__") "__get__"=some (some (.builtin "getset_descriptor.__get__")))
  (xt_Spent:PySem.W.takesIn K (.builtin "object.__class__")=some true)
  (xo_Spent:PySem.W.mroIn K C_Spent (.type "object")=some true)
  (xb_Spent:PySem.W.mroIn K C_Spent (.type "BaseException")=some true)
  (xd_Spent:PySem.W.hasDictIn K C_Spent=true)
  (xv_Spent:ZEN K C_Spent=true)
  (xw_Spent:W.findIn K (.ref C_Spent) "__setattr__"=some (some (.builtin "object.__setattr__")))
  (xi_Spent:ZCx K C_Spent f_zar bmV "ValueError.__new__"=true)
  (xp_Spent:W.keepIn K (.ref C_Spent)=true)
  (xm_Spent_HallError:PySem.W.exmOne K (.ref C_Spent) (.ref C_HallError)=some true)
  (xm_Spent_Spent:PySem.W.exmOne K (.ref C_Spent) (.ref C_Spent)=some true)
  (n_Spent_asked:W.findIn K (.ref C_Spent) "asked"=some none)
  (xbg_HallError:PySem.W.specialIn K (.ref C_HallError) "__getattribute__"=some (some (.builtin "type.__getattribute__")))
  (xbr_HallError:PySem.W.readsIn K C_HallError (.type "type")=true)
  (xbf_HallError:PySem.W.findCls K (.ref C_HallError) (.type "type") "__init__"=some (.val (.builtin "ValueError.__init__")))
  (a_zaJ:W.nsIn K mainGlobals "_law_first"=some (some (.ref f_zaJ)))
  (l_zaJ:K.lookup f_zaJ=some ⟨oc_zaJ,od_zaJ,.func (W.fnOf "_law_first" "_law_first" (ZAP ZCs) (ZAM ZCs) (ZAE ZCs) .none kV_zaJ dc_zaJ pm_zaJ an_zaJ cd_zaJ ct_zaJ),sl_zaJ⟩)
  (c_zaJ:W.codeIn K cd_zaJ "_law_first"=true)
  (k_zaJ:W.keepIn K (.ref f_zaJ)=true)
  (a_zaj:W.nsIn K mainGlobals "stretch_from"=some (some (.ref f_zaj)))
  (l_zaj:K.lookup f_zaj=some ⟨oc_zaj,od_zaj,.func (W.fnOf "stretch_from" "stretch_from" (ZAP ZAy) (ZAM ZAy) (ZAE ZAy) (.ref T_zaj) kV_zaj dc_zaj pm_zaj an_zaj cd_zaj ct_zaj),sl_zaj⟩)
  (c_zaj:W.codeIn K cd_zaj "stretch_from"=true)
  (d_zaj:K.lookup T_zaj=some ⟨ocT_zaj,odT_zaj,.seq ([.none]:List Value).toArray nT_zaj,slT_zaj⟩)
  (k_zaj:W.keepIn K (.ref f_zaj)=true)
  (a_zaD:W.nsIn K mainGlobals "in_turn"=some (some (.ref f_zaD)))
  (l_zaD:K.lookup f_zaD=some ⟨oc_zaD,od_zaD,.func (W.fnOf "in_turn" "in_turn" (ZAP ZBl) (ZAM ZBl) (ZAE ZBl) .none kV_zaD dc_zaD pm_zaD an_zaD cd_zaD ct_zaD),sl_zaD⟩)
  (c_zaD:W.codeIn K cd_zaD "in_turn"=true)
  (k_zaD:W.keepIn K (.ref f_zaD)=true)
  (a_zaA:W.nsIn K mainGlobals "spot_of"=some (some (.ref f_zaA)))
  (l_zaA:K.lookup f_zaA=some ⟨oc_zaA,od_zaA,.func (W.fnOf "spot_of" "spot_of" (ZAP ZBj) (ZAM ZBj) (ZAE ZBj) .none kV_zaA dc_zaA pm_zaA an_zaA cd_zaA ct_zaA),sl_zaA⟩)
  (c_zaA:W.codeIn K cd_zaA "spot_of"=true)
  (k_zaA:W.keepIn K (.ref f_zaA)=true)
  (a_zaG:W.nsIn K mainGlobals "filled"=some (some (.ref f_zaG)))
  (l_zaG:K.lookup f_zaG=some ⟨oc_zaG,od_zaG,.func (W.fnOf "filled" "filled" (ZAP ZCH) (ZAM ZCH) (ZAE ZCH) (.ref T_zaG) kV_zaG dc_zaG pm_zaG an_zaG cd_zaG ct_zaG),sl_zaG⟩)
  (c_zaG:W.codeIn K cd_zaG "filled"=true)
  (d_zaG:K.lookup T_zaG=some ⟨ocT_zaG,odT_zaG,.seq ([.none]:List Value).toArray nT_zaG,slT_zaG⟩)
  (k_zaG:W.keepIn K (.ref f_zaG)=true)
  (a_zaL:W.nsIn K mainGlobals "leap"=some (some (.ref f_zaL)))
  (l_zaL:K.lookup f_zaL=some ⟨oc_zaL,od_zaL,.func (W.fnOf "leap" "leap" (ZAP ZDL) (ZAM ZDL) (ZAE ZDL) .none kV_zaL dc_zaL pm_zaL an_zaL cd_zaL ct_zaL),sl_zaL⟩)
  (c_zaL:W.codeIn K cd_zaL "leap"=true)
  (k_zaL:W.keepIn K (.ref f_zaL)=true)
  (a_zaI:W.nsIn K mainGlobals "joined"=some (some (.ref f_zaI)))
  (l_zaI:K.lookup f_zaI=some ⟨oc_zaI,od_zaI,.func (W.fnOf "joined" "joined" (ZAP ZCG) (ZAM ZCG) (ZAE ZCG) .none kV_zaI dc_zaI pm_zaI an_zaI cd_zaI ct_zaI),sl_zaI⟩)
  (c_zaI:W.codeIn K cd_zaI "joined"=true)
  (k_zaI:W.keepIn K (.ref f_zaI)=true)
  (a_zaK:W.nsIn K mainGlobals "grade"=some (some (.ref f_zaK)))
  (l_zaK:K.lookup f_zaK=some ⟨oc_zaK,od_zaK,.func (W.fnOf "grade" "grade" (ZAP ZCr) (ZAM ZCr) (ZAE ZCr) .none kV_zaK dc_zaK pm_zaK an_zaK cd_zaK ct_zaK),sl_zaK⟩)
  (c_zaK:W.codeIn K cd_zaK "grade"=true)
  (k_zaK:W.keepIn K (.ref f_zaK)=true)
  (a_zaB:W.nsIn K mainGlobals "_law_cell_at"=some (some (.ref f_zaB)))
  (l_zaB:K.lookup f_zaB=some ⟨oc_zaB,od_zaB,.func (W.fnOf "_law_cell_at" "_law_cell_at" (ZAP ZBm) (ZAM ZBm) (ZAE ZBm) .none kV_zaB dc_zaB pm_zaB an_zaB cd_zaB ct_zaB),sl_zaB⟩)
  (c_zaB:W.codeIn K cd_zaB "_law_cell_at"=true)
  (k_zaB:W.keepIn K (.ref f_zaB)=true)
  (a_zaF:W.nsIn K mainGlobals "_law_blocks"=some (some (.ref f_zaF)))
  (l_zaF:K.lookup f_zaF=some ⟨oc_zaF,od_zaF,.func (W.fnOf "_law_blocks" "_law_blocks" (ZAP ZCI) (ZAM ZCI) (ZAE ZCI) .none kV_zaF dc_zaF pm_zaF an_zaF cd_zaF ct_zaF),sl_zaF⟩)
  (c_zaF:W.codeIn K cd_zaF "_law_blocks"=true)
  (k_zaF:W.keepIn K (.ref f_zaF)=true)
  (a_zaz:W.nsIn K mainGlobals "_law_keys_by"=some (some (.ref f_zaz)))
  (l_zaz:K.lookup f_zaz=some ⟨oc_zaz,od_zaz,.func (W.fnOf "_law_keys_by" "_law_keys_by" (ZAP ZBk) (ZAM ZBk) (ZAE ZBk) .none kV_zaz dc_zaz pm_zaz an_zaz cd_zaz ct_zaz),sl_zaz⟩)
  (c_zaz:W.codeIn K cd_zaz "_law_keys_by"=true)
  (k_zaz:W.keepIn K (.ref f_zaz)=true)
  (a_zaH:W.nsIn K mainGlobals "_law_row_by"=some (some (.ref f_zaH)))
  (l_zaH:K.lookup f_zaH=some ⟨oc_zaH,od_zaH,.func (W.fnOf "_law_row_by" "_law_row_by" (ZAP ZCF) (ZAM ZCF) (ZAE ZCF) .none kV_zaH dc_zaH pm_zaH an_zaH cd_zaH ct_zaH),sl_zaH⟩)
  (c_zaH:W.codeIn K cd_zaH "_law_row_by"=true)
  (k_zaH:W.keepIn K (.ref f_zaH)=true)
  (a_zaE:W.nsIn K mainGlobals "by_pile"=some (some (.ref f_zaE)))
  (l_zaE:K.lookup f_zaE=some ⟨oc_zaE,od_zaE,.func (W.fnOf "by_pile" "by_pile" (ZAP ZBn) (ZAM ZBn) (ZAE ZBn) (.ref T_zaE) kV_zaE dc_zaE pm_zaE an_zaE cd_zaE ct_zaE),sl_zaE⟩)
  (c_zaE:W.codeIn K cd_zaE "by_pile"=true)
  (d_zaE:K.lookup T_zaE=some ⟨ocT_zaE,odT_zaE,.seq ([.int 1 td_zaE_0,.none]:List Value).toArray nT_zaE,slT_zaE⟩)
  (k_zaE:W.keepIn K (.ref f_zaE)=true)
  (a_zaC:W.nsIn K mainGlobals "_law_stepped"=some (some (.ref f_zaC)))
  (l_zaC:K.lookup f_zaC=some ⟨oc_zaC,od_zaC,.func (W.fnOf "_law_stepped" "_law_stepped" (ZAP ZBi) (ZAM ZBi) (ZAE ZBi) .none kV_zaC dc_zaC pm_zaC an_zaC cd_zaC ct_zaC),sl_zaC⟩)
  (c_zaC:W.codeIn K cd_zaC "_law_stepped"=true)
  (k_zaC:W.keepIn K (.ref f_zaC)=true)
  (a_zaw:W.nsIn K mainGlobals "_law_by_pile"=some (some (.ref f_zaw)))
  (l_zaw:K.lookup f_zaw=some ⟨oc_zaw,od_zaw,.func (W.fnOf "_law_by_pile" "_law_by_pile" (ZAP ZBM) (ZAM ZBM) (ZAE ZBM) .none kV_zaw dc_zaw pm_zaw an_zaw cd_zaw ct_zaw),sl_zaw⟩)
  (c_zaw:W.codeIn K cd_zaw "_law_by_pile"=true)
  (k_zaw:W.keepIn K (.ref f_zaw)=true)
  (a_zaM:W.nsIn K mainGlobals "law"=some (some (.ref f_zaM)))
  (l_zaM:K.lookup f_zaM=some ⟨oc_zaM,od_zaM,.func (W.fnOf "law" "law" (ZAP ZDc) (ZAM ZDc) (ZAE ZDc) .none kV_zaM dc_zaM pm_zaM an_zaM cd_zaM ct_zaM),sl_zaM⟩)
  (c_zaM:W.codeIn K cd_zaM "law"=true)
  (k_zaM:W.keepIn K (.ref f_zaM)=true)
  (z_LEFT:W.nsIn K mainGlobals "LEFT"=some (some (.int 0 t_LEFT)))
  (z_RIGHT:W.nsIn K mainGlobals "RIGHT"=some (some (.int 1 t_RIGHT)))
  (z_WINS_TO_LEAP:W.nsIn K mainGlobals "WINS_TO_LEAP"=some (some (.int 4 t_WINS_TO_LEAP)))
  (z_len:W.nsIn K mainGlobals "len"=some none)
  (z_range:W.nsIn K mainGlobals "range"=some none)
  (z_list:W.nsIn K mainGlobals "list"=some none)
  (z_isinstance:W.nsIn K mainGlobals "isinstance"=some none)
  (z_max:W.nsIn K mainGlobals "max"=some none)
  (z_min:W.nsIn K mainGlobals "min"=some none)
  (z_abs:W.nsIn K mainGlobals "abs"=some none)
  (z_sorted:W.nsIn K mainGlobals "sorted"=some none)
  (z_enumerate:W.nsIn K mainGlobals "enumerate"=some none)
  (z_ValueError:W.nsIn K mainGlobals "ValueError"=some none)
  (kit_int_bool:PySem.W.kitOne K (.type "int") (.type "bool")=some false)
  (kit_Spent_Spent:PySem.W.kitOne K (.ref C_Spent) (.ref C_Spent)=some true) :
  ∃ fd:FuncData,(∀ (s:Shared) (v:Value),BindsTo s fd ⟨[v],[]⟩ [("_law_script",v)]) /\ ∀ base:Heap,K.In base->base.Ns mainGlobals mg->FnOk l.prog w K mg base CX0 11 fa fd ["_law_script"] (ZE2 K):=by
 have e:=hfa.symm.trans (PySem.W.mg_of X G a_zaM)
 cases e
 have cl_zaP:Cls K C_zaP:=⟨pg_zaP,hd_zaP,po_zaP,sa_zaP⟩
 have F_zat:=ZAd (st:=ZBP) l_zat c_zat k_zat
 have b_zat:=F_zat.binds (ps:=["self","asker","left","right"]) fun _ _ _ _ _ _ us hl=>by obtain ⟨_,_,_,_,rfl⟩:=us4 hl;rfl
 have F_zai:=ZAd (st:=ZAt) l_zai c_zai k_zai
 have b_zai:=F_zai.binds (ps:=["self","side"]) fun _ _ _ _ _ _ us hl=>by obtain ⟨_,_,rfl⟩:=us2 hl;rfl
 have F_zap:=ZAd (st:=ZA9) l_zap c_zap k_zap
 have b_zap:=F_zap.binds (ps:=["self","side"]) fun _ _ _ _ _ _ us hl=>by obtain ⟨_,_,rfl⟩:=us2 hl;rfl
 have F_zal:=ZAd (st:=ZAz) l_zal c_zal k_zal
 have b_zal:=F_zal.binds (ps:=["self","side","more"]) fun _ _ _ _ _ _ us hl=>by obtain ⟨_,_,_,rfl⟩:=us3 hl;rfl
 have F_zaf:=ZAd (st:=ZAo) l_zaf c_zaf k_zaf
 have b_zaf:=F_zaf.binds (ps:=["self","side"]) fun _ _ _ _ _ _ us hl=>by obtain ⟨_,_,rfl⟩:=us2 hl;rfl
 have F_zay:=ZAd (st:=ZBb) l_zay c_zay k_zay
 have b_zay:=F_zay.binds (ps:=["self"]) fun _ _ _ _ _ _ us hl=>by obtain ⟨_,rfl⟩:=us1 hl;rfl
 have F_zak:=ZAd (st:=ZA0) l_zak c_zak k_zak
 have b_zak:=F_zak.binds (ps:=["self","side"]) fun _ _ _ _ _ _ us hl=>by obtain ⟨_,_,rfl⟩:=us2 hl;rfl
 have cl_zaQ:Cls K C_zaQ:=⟨pg_zaQ,hd_zaQ,po_zaQ,sa_zaQ⟩
 have F_zau:=ZDC (st:=ZBO) l_zau c_zau k_zau d_zau
 have b_zau_4:=F_zau.binds (ps:=["self","asker","least","part"]) (ds:=[]) fun _ _ _ _ _ _ _ us hl=>by obtain ⟨_,_,_,_,rfl⟩:=us4 (ZBv (n:=4) hl rfl);exact ⟨_,rfl,rfl⟩
 have b_zau_3:=F_zau.binds (ps:=["self","asker","least","part"]) (ds:=[.none]) fun _ _ _ _ _ _ _ us hl=>by obtain ⟨_,_,_,rfl⟩:=us3 (ZBv (n:=3) hl rfl);exact ⟨_,rfl,rfl⟩
 have b_zau_2:=F_zau.binds (ps:=["self","asker","least","part"]) (ds:=[.int 1 td_zau_0,.none]) fun _ _ _ _ _ _ _ us hl=>by obtain ⟨_,_,rfl⟩:=us2 (ZBv (n:=2) hl rfl);exact ⟨_,rfl,rfl⟩
 have F_zae:=ZAd (st:=ZAn) l_zae c_zae k_zae
 have b_zae:=F_zae.binds (ps:=["self","number"]) fun _ _ _ _ _ _ us hl=>by obtain ⟨_,_,rfl⟩:=us2 hl;rfl
 have F_zaa:=ZAd (st:=ZAZ) l_zaa c_zaa k_zaa
 have b_zaa:=F_zaa.binds (ps:=["self"]) fun _ _ _ _ _ _ us hl=>by obtain ⟨_,rfl⟩:=us1 hl;rfl
 have F_zab:=ZAd (st:=ZAb) l_zab c_zab k_zab
 have b_zab:=F_zab.binds (ps:=["self","middle","beyond"]) fun _ _ _ _ _ _ us hl=>by obtain ⟨_,_,_,rfl⟩:=us3 hl;rfl
 have F_zah:=ZAd (st:=ZAs) l_zah c_zah k_zah
 have b_zah:=F_zah.binds (ps:=["self","lower"]) fun _ _ _ _ _ _ us hl=>by obtain ⟨_,_,rfl⟩:=us2 hl;rfl
 have F_zax:=ZAd (st:=ZBa) l_zax c_zax k_zax
 have b_zax:=F_zax.binds (ps:=["self"]) fun _ _ _ _ _ _ us hl=>by obtain ⟨_,rfl⟩:=us1 hl;rfl
 have F_zav:=ZAd (st:=ZBN) l_zav c_zav k_zav
 have b_zav:=F_zav.binds (ps:=["self"]) fun _ _ _ _ _ _ us hl=>by obtain ⟨_,rfl⟩:=us1 hl;rfl
 have F_zao:=ZAd (st:=ZA8) l_zao c_zao k_zao
 have b_zao:=F_zao.binds (ps:=["self"]) fun _ _ _ _ _ _ us hl=>by obtain ⟨_,rfl⟩:=us1 hl;rfl
 have F_zag:=ZAd (st:=ZAr) l_zag c_zag k_zag
 have b_zag:=F_zag.binds (ps:=["self"]) fun _ _ _ _ _ _ us hl=>by obtain ⟨_,rfl⟩:=us1 hl;rfl
 have cl_zaO:Cls K C_zaO:=⟨pg_zaO,hd_zaO,po_zaO,sa_zaO⟩
 have F_zam:=ZAd (st:=ZA1) l_zam c_zam k_zam
 have b_zam:=F_zam.binds (ps:=["self","more"]) fun _ _ _ _ _ _ us hl=>by obtain ⟨_,_,rfl⟩:=us2 hl;rfl
 have F_zas:=ZDC (st:=ZBB) l_zas c_zas k_zas d_zas
 have b_zas_4:=F_zas.binds (ps:=["self","row","rule","most"]) (ds:=[]) fun _ _ _ _ _ _ _ us hl=>by obtain ⟨_,_,_,_,rfl⟩:=us4 (ZBv (n:=4) hl rfl);exact ⟨_,rfl,rfl⟩
 have b_zas_3:=F_zas.binds (ps:=["self","row","rule","most"]) (ds:=[.none]) fun _ _ _ _ _ _ _ us hl=>by obtain ⟨_,_,_,rfl⟩:=us3 (ZBv (n:=3) hl rfl);exact ⟨_,rfl,rfl⟩
 have F_zaq:=ZAd (st:=ZBA) l_zaq c_zaq k_zaq
 have b_zaq:=F_zaq.binds (ps:=["self"]) fun _ _ _ _ _ _ us hl=>by obtain ⟨_,rfl⟩:=us1 hl;rfl
 have F_zan:=ZAd (st:=ZA2) l_zan c_zan k_zan
 have b_zan:=F_zan.binds (ps:=["self","p","q"]) fun _ _ _ _ _ _ us hl=>by obtain ⟨_,_,_,rfl⟩:=us3 hl;rfl
 have cl_zaN:Cls K C_zaN:=⟨pg_zaN,hd_zaN,po_zaN,sa_zaN⟩
 have F_zad:=ZAd (st:=ZAp) l_zad c_zad k_zad
 have b_zad:=F_zad.binds (ps:=["self","teller"]) fun _ _ _ _ _ _ us hl=>by obtain ⟨_,_,rfl⟩:=us2 hl;rfl
 have F_zac:=ZAd (st:=ZAc) l_zac c_zac k_zac
 have b_zac:=F_zac.binds (ps:=["self","x","y"]) fun _ _ _ _ _ _ us hl=>by obtain ⟨_,_,_,rfl⟩:=us3 hl;rfl
 have F_zar:=ZAd (st:=ZA7) l_zar c_zar k_zar
 have b_zar:=F_zar.binds (ps:=["self","asked"]) fun _ _ _ _ _ _ us hl=>by obtain ⟨_,_,rfl⟩:=us2 hl;rfl
 have F_zaJ:=ZAd (st:=ZCs) l_zaJ c_zaJ k_zaJ
 have b_zaJ:=F_zaJ.binds (ps:=["_law_one","_law_other"]) fun _ _ _ _ _ _ us hl=>by obtain ⟨_,_,rfl⟩:=us2 hl;rfl
 have F_zaj:=ZDC (st:=ZAy) l_zaj c_zaj k_zaj d_zaj
 have b_zaj_3:=F_zaj.binds (ps:=["asker","first","end"]) (ds:=[]) fun _ _ _ _ _ _ _ us hl=>by obtain ⟨_,_,_,rfl⟩:=us3 (ZBv (n:=3) hl rfl);exact ⟨_,rfl,rfl⟩
 have b_zaj_2:=F_zaj.binds (ps:=["asker","first","end"]) (ds:=[.none]) fun _ _ _ _ _ _ _ us hl=>by obtain ⟨_,_,rfl⟩:=us2 (ZBv (n:=2) hl rfl);exact ⟨_,rfl,rfl⟩
 have F_zaD:=ZAd (st:=ZBl) l_zaD c_zaD k_zaD
 have b_zaD:=F_zaD.binds (ps:=["first","beyond","falling"]) fun _ _ _ _ _ _ us hl=>by obtain ⟨_,_,_,rfl⟩:=us3 hl;rfl
 have F_zaA:=ZAd (st:=ZBj) l_zaA c_zaA k_zaA
 have b_zaA:=F_zaA.binds (ps:=["asker","order","place"]) fun _ _ _ _ _ _ us hl=>by obtain ⟨_,_,_,rfl⟩:=us3 hl;rfl
 have F_zaG:=ZDC (st:=ZCH) l_zaG c_zaG k_zaG d_zaG
 have b_zaG_4:=F_zaG.binds (ps:=["asker","first","least","end"]) (ds:=[]) fun _ _ _ _ _ _ _ us hl=>by obtain ⟨_,_,_,_,rfl⟩:=us4 (ZBv (n:=4) hl rfl);exact ⟨_,rfl,rfl⟩
 have b_zaG_3:=F_zaG.binds (ps:=["asker","first","least","end"]) (ds:=[.none]) fun _ _ _ _ _ _ _ us hl=>by obtain ⟨_,_,_,rfl⟩:=us3 (ZBv (n:=3) hl rfl);exact ⟨_,rfl,rfl⟩
 have F_zaL:=ZAd (st:=ZDL) l_zaL c_zaL k_zaL
 have b_zaL:=F_zaL.binds (ps:=["asker","order","first","place"]) fun _ _ _ _ _ _ us hl=>by obtain ⟨_,_,_,_,rfl⟩:=us4 hl;rfl
 have F_zaI:=ZAd (st:=ZCG) l_zaI c_zaI k_zaI
 have b_zaI:=F_zaI.binds (ps:=["asker","left","right"]) fun _ _ _ _ _ _ us hl=>by obtain ⟨_,_,_,rfl⟩:=us3 hl;rfl
 have F_zaK:=ZAd (st:=ZCr) l_zaK c_zaK k_zaK
 have b_zaK:=F_zaK.binds (ps:=["many","first","middle","beyond"]) fun _ _ _ _ _ _ us hl=>by obtain ⟨_,_,_,_,rfl⟩:=us4 hl;rfl
 have F_zaB:=ZAd (st:=ZBm) l_zaB c_zaB k_zaB
 have b_zaB:=F_zaB.binds (ps:=["_law_script","_law_k"]) fun _ _ _ _ _ _ us hl=>by obtain ⟨_,_,rfl⟩:=us2 hl;rfl
 have F_zaF:=ZAd (st:=ZCI) l_zaF c_zaF k_zaF
 have b_zaF:=F_zaF.binds (ps:=["_law_keys","_law_one","_law_two"]) fun _ _ _ _ _ _ us hl=>by obtain ⟨_,_,_,rfl⟩:=us3 hl;rfl
 have F_zaz:=ZAd (st:=ZBk) l_zaz c_zaz k_zaz
 have b_zaz:=F_zaz.binds (ps:=["_law_script","_law_many","_law_most"]) fun _ _ _ _ _ _ us hl=>by obtain ⟨_,_,_,rfl⟩:=us3 hl;rfl
 have F_zaH:=ZAd (st:=ZCF) l_zaH c_zaH k_zaH
 have b_zaH:=F_zaH.binds (ps:=["_law_script"]) fun _ _ _ _ _ _ us hl=>by obtain ⟨_,rfl⟩:=us1 hl;rfl
 have F_zaE:=ZDC (st:=ZBn) l_zaE c_zaE k_zaE d_zaE
 have b_zaE_3:=F_zaE.binds (ps:=["asker","least","part"]) (ds:=[]) fun _ _ _ _ _ _ _ us hl=>by obtain ⟨_,_,_,rfl⟩:=us3 (ZBv (n:=3) hl rfl);exact ⟨_,rfl,rfl⟩
 have b_zaE_2:=F_zaE.binds (ps:=["asker","least","part"]) (ds:=[.none]) fun _ _ _ _ _ _ _ us hl=>by obtain ⟨_,_,rfl⟩:=us2 (ZBv (n:=2) hl rfl);exact ⟨_,rfl,rfl⟩
 have b_zaE_1:=F_zaE.binds (ps:=["asker","least","part"]) (ds:=[.int 1 td_zaE_0,.none]) fun _ _ _ _ _ _ _ us hl=>by obtain ⟨_,rfl⟩:=us1 (ZBv (n:=1) hl rfl);exact ⟨_,rfl,rfl⟩
 have F_zaC:=ZAd (st:=ZBi) l_zaC c_zaC k_zaC
 have b_zaC:=F_zaC.binds (ps:=["_law_pile","_law_asker","_law_more"]) fun _ _ _ _ _ _ us hl=>by obtain ⟨_,_,_,rfl⟩:=us3 hl;rfl
 have F_zaw:=ZAd (st:=ZBM) l_zaw c_zaw k_zaw
 have b_zaw:=F_zaw.binds (ps:=["_law_row","_law_least","_law_bounds","_law_most"]) fun _ _ _ _ _ _ us hl=>by obtain ⟨_,_,_,_,rfl⟩:=us4 hl;rfl
 have F_zaM:=ZAd (st:=ZDc) l_zaM c_zaM k_zaM
 have b_zaM:=F_zaM.binds (ps:=["_law_script"]) fun _ _ _ _ _ _ us hl=>by obtain ⟨_,rfl⟩:=us1 hl;rfl
 have T:Bt K mg C_zaP C_zaQ C_zaO C_zaN C_HallError C_Spent:=⟨PySem.W.mg_none_of X G z_len,PySem.W.mg_none_of X G z_range,PySem.W.mg_none_of X G z_list,PySem.W.mg_none_of X G z_isinstance,PySem.W.mg_none_of X G z_max,PySem.W.mg_none_of X G z_min,PySem.W.mg_none_of X G z_abs,PySem.W.mg_none_of X G z_sorted,PySem.W.mg_none_of X G z_enumerate,PySem.W.mg_none_of X G z_ValueError,⟨_,PySem.W.mg_of X G z_LEFT⟩,⟨_,PySem.W.mg_of X G z_RIGHT⟩,⟨_,PySem.W.mg_of X G z_WINS_TO_LEAP⟩,PySem.W.mg_of X G a_zaP,cl_zaP,n_zaP_asker,n_zaP_sides,n_zaP_taken,n_zaP_places,PySem.W.mg_of X G a_zaQ,cl_zaQ,n_zaQ_asker,n_zaQ_least,n_zaQ_start,n_zaQ_end,n_zaQ_reached,n_zaQ_firsts,n_zaQ_orders,n_zaQ_grades,PySem.W.mg_of X G a_zaO,cl_zaO,n_zaO_row,n_zaO_rule,n_zaO_most,n_zaO_asked,n_zaO_told,PySem.W.mg_of X G a_zaN,cl_zaN,n_zaN_teller,PySem.W.mg_of X G a_HallError,PySem.W.mg_of X G a_Spent,⟨xg_Spent,xh_Spent,xa_Spent,xs_Spent,xt_Spent,xo_Spent,xb_Spent⟩,⟨xd_Spent,xv_Spent,xw_Spent⟩,⟨_,xi_Spent⟩,xm_Spent_HallError,xm_Spent_Spent,n_Spent_asked,⟨xbg_HallError,xbr_HallError,xbf_HallError⟩,kit_int_bool,kit_Spent_Spent⟩
 refine ⟨W.fnOf "law" "law" (ZAP ZDc) (ZAM ZDc) (ZAE ZDc) .none kV_zaM dc_zaM pm_zaM an_zaM cd_zaM ct_zaM,fun s v=>.of_eq rfl,fun base _ _=>?_⟩
 have f_zaB':Fn l.prog w K mg base CX0 "_law_cell_at" 1 ["_law_script","_law_k"] (ZDy K):=⟨_,_,ok_cell_at F_zaB T ,b_zaB,k_zaB,PySem.W.mg_of X G a_zaB⟩
 have f_zaz':Fn l.prog w K mg base CX0 "_law_keys_by" 2 ["_law_script","_law_many","_law_most"] (ZDW K):=⟨_,_,ok_keys_by F_zaz T f_zaB',b_zaz,k_zaz,PySem.W.mg_of X G a_zaz⟩
 have f_zaF':Fn l.prog w K mg base CX0 "_law_blocks" 1 ["_law_keys","_law_one","_law_two"] (ZFJ):=⟨_,_,ok_blocks F_zaF T ,b_zaF,k_zaF,PySem.W.mg_of X G a_zaF⟩
 have f_zaH':Fn l.prog w K mg base CX0 "_law_row_by" 3 ["_law_script"] (ZD9 K):=⟨_,_,ok_row_by F_zaH T f_zaz' f_zaB' f_zaF',b_zaH,k_zaH,PySem.W.mg_of X G a_zaH⟩
 have t_Pile_paper':Mt l.prog w K mg base CX0 C_zaQ "paper" 1 ["self"] (ZC5 C_zaQ):=⟨cl_zaQ,_,_,ok_Pile_paper F_zao T ,b_zao,a_zao,i_zao,k_zao⟩
 have t_Pile_is_due_beneath':Mt l.prog w K mg base CX0 C_zaQ "is_due_beneath" 1 ["self"] (ZFI C_zaQ):=⟨cl_zaQ,_,_,ok_Pile_is_due_beneath F_zaa T ,b_zaa,a_zaa,i_zaa,k_zaa⟩
 have t_Join_take_on':Mt l.prog w K mg base CX0 C_zaP "take_on" 1 ["self","side","more"] (ZCb C_zaP):=⟨cl_zaP,_,_,ok_Join_take_on F_zal T ,b_zal,a_zal,i_zal,k_zal⟩
 have t_Join_take_rest':Mt l.prog w K mg base CX0 C_zaP "take_rest" 2 ["self","side"] (ZCn C_zaP):=⟨cl_zaP,_,_,ok_Join_take_rest F_zaf T t_Join_take_on',b_zaf,a_zaf,i_zaf,k_zaf⟩
 have t_Join_has_more':Mt l.prog w K mg base CX0 C_zaP "has_more" 1 ["self","side"] (ZCc C_zaP):=⟨cl_zaP,_,_,ok_Join_has_more F_zai T ,b_zai,a_zai,i_zai,k_zai⟩
 have f_zaJ':Fn l.prog w K mg base CX0 "_law_first" 1 ["_law_one","_law_other"] (ZCp):=⟨_,_,ok_first F_zaJ T ,b_zaJ,k_zaJ,PySem.W.mg_of X G a_zaJ⟩
 have t_AskedRule_before':Mt l.prog w K mg base CX0 C_zaN "before" 2 ["self","x","y"] (ZCy C_zaN (ZBw mg)):=⟨cl_zaN,_,_,ok_AskedRule_before F_zac T f_zaJ',b_zac,a_zac,i_zac,k_zac⟩
 have kx_Spent':XKl l.prog w K mg base CX0 "Spent" C_Spent 1 ["self","asked"] (ZCS C_Spent):=⟨PySem.W.mg_of X G a_Spent,_,_,ok_Spent_init F_zar T ,b_zar,xi_Spent,i_zar,xp_Spent⟩
 have t_Asker_ahead':Mt l.prog w K mg base (CXE l.prog w) C_zaO "ahead" 3 ["self","p","q"] (ZCT C_zaO C_zaN C_Spent (ZBw mg)):=⟨cl_zaO,_,_,ok_Asker_ahead F_zan T t_AskedRule_before' kx_Spent',b_zan,a_zan,i_zan,k_zan⟩
 have t_Join_front':Mt l.prog w K mg base CX0 C_zaP "front" 1 ["self","side"] (ZDZ C_zaP):=⟨cl_zaP,_,_,ok_Join_front F_zap T ,b_zap,a_zap,i_zap,k_zap⟩
 have t_Join_win':Mt l.prog w K mg base (CXE l.prog w) C_zaP "win" 4 ["self"] (ZFG C_zaO (RuM.mk C_zaN mg) C_zaP C_Spent):=⟨cl_zaP,_,_,ok_Join_win F_zay T t_Join_take_on' t_Asker_ahead' t_Join_front',b_zay,a_zay,i_zay,k_zay⟩
 have f_zaL':Fn l.prog w K mg base (CXE l.prog w) "leap" 4 ["asker","order","first","place"] (ZEo C_zaO (RuM.mk C_zaN mg) C_Spent):=⟨_,_,ok_leap F_zaL T t_Asker_ahead',b_zaL,k_zaL,PySem.W.mg_of X G a_zaL⟩
 have t_Join_leap_on':Mt l.prog w K mg base (CXE l.prog w) C_zaP "leap_on" 5 ["self","side"] (ZDV C_zaO (RuM.mk C_zaN mg) C_zaP C_Spent):=⟨cl_zaP,_,_,ok_Join_leap_on F_zak T f_zaL' t_Join_take_on' t_Join_has_more' t_Join_front',b_zak,a_zak,i_zak,k_zak⟩
 have k_zaP':Kl l.prog w K mg base CX0 "Join" C_zaP 1 ["self","asker","left","right"] (ZEB C_zaP):=⟨PySem.W.mg_of X G a_zaP,_,_,ok_Join_init F_zat T ,b_zat,mk_zaP,a_zat,i_zat,kc_zaP⟩
 have f_zaI':Fn l.prog w K mg base (CXE l.prog w) "joined" 6 ["asker","left","right"] (ZDX C_zaO (RuM.mk C_zaN mg) C_Spent):=⟨_,_,ok_joined F_zaI T t_Join_take_rest' t_Join_has_more' t_Join_win' t_Join_leap_on' k_zaP',b_zaI,k_zaI,PySem.W.mg_of X G a_zaI⟩
 have t_Pile_beyond_of':Mt l.prog w K mg base CX0 C_zaQ "beyond_of" 1 ["self","number"] (ZCE C_zaQ):=⟨cl_zaQ,_,_,ok_Pile_beyond_of F_zae T ,b_zae,a_zae,i_zae,k_zae⟩
 have t_Pile_join_two':Mt l.prog w K mg base (CXE l.prog w) C_zaQ "join_two" 7 ["self","lower"] (ZC6 C_zaO (RuM.mk C_zaN mg) C_zaQ C_Spent):=⟨cl_zaQ,_,_,ok_Pile_join_two F_zah T f_zaI' t_Pile_beyond_of',b_zah,a_zah,i_zah,k_zah⟩
 have t_Asker_many':Mt l.prog w K mg base CX0 C_zaO "many" 1 ["self"] (ZDx C_zaO):=⟨cl_zaO,_,_,ok_Asker_many F_zaq T ,b_zaq,a_zaq,i_zaq,k_zaq⟩
 have f_zaj':Fn l.prog w K mg base (CXE l.prog w) "stretch_from" 4 ["asker","first","end"] (ZCo C_zaO (RuM.mk C_zaN mg) C_Spent):=⟨_,_,ok_stretch_from F_zaj T t_Asker_ahead' t_Asker_many',b_zaj_3,k_zaj,PySem.W.mg_of X G a_zaj⟩
 have f_zaD':Fn l.prog w K mg base CX0 "in_turn" 1 ["first","beyond","falling"] (ZDY):=⟨_,_,ok_in_turn F_zaD T ,b_zaD,k_zaD,PySem.W.mg_of X G a_zaD⟩
 have f_zaA':Fn l.prog w K mg base (CXE l.prog w) "spot_of" 4 ["asker","order","place"] (ZDU C_zaO (RuM.mk C_zaN mg) C_Spent):=⟨_,_,ok_spot_of F_zaA T t_Asker_ahead',b_zaA,k_zaA,PySem.W.mg_of X G a_zaA⟩
 have f_zaG':Fn l.prog w K mg base (CXE l.prog w) "filled" 5 ["asker","first","least","end"] (ZDa C_zaO (RuM.mk C_zaN mg) C_Spent):=⟨_,_,ok_filled F_zaG T f_zaj' f_zaD' f_zaA' t_Asker_many',b_zaG_4,k_zaG,PySem.W.mg_of X G a_zaG⟩
 have f_zaK':Fn l.prog w K mg base CX0 "grade" 1 ["many","first","middle","beyond"] (ZEC):=⟨_,_,ok_grade F_zaK T ,b_zaK,k_zaK,PySem.W.mg_of X G a_zaK⟩
 have t_Pile_grade_on_top':Mt l.prog w K mg base CX0 C_zaQ "grade_on_top" 2 ["self","middle","beyond"] (ZEA C_zaQ):=⟨cl_zaQ,_,_,ok_Pile_grade_on_top F_zab T f_zaK',b_zab,a_zab,i_zab,k_zab⟩
 have t_Pile_lay':Mt l.prog w K mg base (CXE l.prog w) C_zaQ "lay" 6 ["self"] (ZFH C_zaO (RuM.mk C_zaN mg) C_zaQ C_Spent):=⟨cl_zaQ,_,_,ok_Pile_lay F_zax T f_zaG' t_Pile_grade_on_top',b_zax,a_zax,i_zax,k_zax⟩
 have t_Pile_step':Mt l.prog w K mg base (CXE l.prog w) C_zaQ "step" 8 ["self"] (ZDw C_zaO (RuM.mk C_zaN mg) C_zaQ C_Spent):=⟨cl_zaQ,_,_,ok_Pile_step F_zav T t_Pile_is_due_beneath' t_Pile_join_two' t_Pile_lay',b_zav,a_zav,i_zav,k_zav⟩
 have k_zaQ':Kl l.prog w K mg base CX0 "Pile" C_zaQ 2 ["self","asker","least","part"] (ZCD C_zaO C_zaQ):=⟨PySem.W.mg_of X G a_zaQ,_,_,ok_Pile_init F_zau T t_Asker_many',b_zau_4,mk_zaQ,a_zau,i_zau,kc_zaQ⟩
 have f_zaE':Fn l.prog w K mg base (CXE l.prog w) "by_pile" 9 ["asker","least","part"] (ZDb C_zaO (RuM.mk C_zaN mg) C_Spent):=⟨_,_,ok_by_pile F_zaE T t_Pile_paper' t_Pile_step' k_zaQ',b_zaE_3,k_zaE,PySem.W.mg_of X G a_zaE⟩
 have k_zaO':Kl l.prog w K mg base CX0 "Asker" C_zaO 1 ["self","row","rule","most"] (ZBL C_zaO):=⟨PySem.W.mg_of X G a_zaO,_,_,ok_Asker_init F_zas T ,b_zas_4,mk_zaO,a_zas,i_zas,kc_zaO⟩
 have k_zaN':Kl l.prog w K mg base CX0 "AskedRule" C_zaN 1 ["self","teller"] (ZCC C_zaN):=⟨PySem.W.mg_of X G a_zaN,_,_,ok_AskedRule_init F_zad T ,b_zad,mk_zaN,a_zad,i_zad,kc_zaN⟩
 have f_zaw':Fn l.prog w K mg base CX0 "_law_by_pile" 10 ["_law_row","_law_least","_law_bounds","_law_most"] (ZED):=⟨_,_,ok_l_by_pile F_zaw T f_zaE' f_zaJ' k_zaO' k_zaN',b_zaw,k_zaw,PySem.W.mg_of X G a_zaw⟩
 have t_Asker_widen':Mt l.prog w K mg base CX0 C_zaO "widen" 1 ["self","more"] (ZD8 C_zaO):=⟨cl_zaO,_,_,ok_Asker_widen F_zam T ,b_zam,a_zam,i_zam,k_zam⟩
 have t_Pile_standing':Mt l.prog w K mg base CX0 C_zaQ "standing" 2 ["self"] (ZCB C_zaQ):=⟨cl_zaQ,_,_,ok_Pile_standing F_zag T t_Pile_beyond_of',b_zag,a_zag,i_zag,k_zag⟩
 have f_zaC':Fn l.prog w K mg base CX0 "_law_stepped" 9 ["_law_pile","_law_asker","_law_more"] (ZCR C_zaO (RuM.mk C_zaN mg) C_zaQ):=⟨_,_,ok_stepped F_zaC T t_Pile_step' t_Asker_widen' t_Pile_standing' t_Pile_paper',b_zaC,k_zaC,PySem.W.mg_of X G a_zaC⟩
 have k_zaO_3':KlD l.prog w K mg base CX0 "Asker" C_zaO 1 ["self","row","rule","most"] (ZBL C_zaO) [.non]:=⟨PySem.W.mg_of X G a_zaO,_,_,_,ok_Asker_init F_zas T ,b_zas_3,(.cons rfl .nil),mk_zaO,a_zas,i_zas,kc_zaO⟩
 exact ok_law F_zaM T f_zaH' f_zaw' f_zaJ' f_zaB' f_zaC' t_Pile_paper' t_Pile_step' t_Pile_standing' k_zaO_3' k_zaQ' k_zaO' k_zaN'
theorem walk {l:PySem.W.OpenLaw} {q:Program} {loose:List Str} {XP:(Str->Option Value)->Heap->Prop} {YP:World->Heap->Prop} {d:DefRec} {K:Params->W.Frag} (hn:l.most=some 63) (hdf:d.params.defaults=[])
  (hY:∀ (w:World) (h:Heap),YP w h->(K w.params).In h)
  (F:∀ (w:World) (mg:Str->Option Value) (fa:Addr) (h:Heap),(K w.params).In h->h.Ns mainGlobals mg->mg d.name=some (.ref fa) ->
   ∃ fd:FuncData,(∀ (s:Shared) (u:Value),BindsTo s fd ⟨[u],[]⟩ [("_law_script",u)]) /\ ∀ base:Heap,(K w.params).In base->base.Ns mainGlobals mg->FnOk l.prog w (K w.params) mg base CX0 11 fa fd ["_law_script"] (ZE2 (K w.params))) :
  PySem.W.WalkO q loose XP YP l.row.toRowW d [] (fun f vs=>PySem.call f vs) :=
 L2.walk_of (n:=63) (k:=11) (x:="_law_script") (CX:=fun _=>CX0) (sp:=fun w=>ZE2 (K w.params)) hn (by decide) hdf ⟨rfl,by decide,by decide,rfl⟩ hY F (fun _ _ a ns hl _ hS=>⟨a,ns,rfl,hS,hl,fun _=>rfl⟩) fun _ _ _ _ _ z=>z
end Law
open PySem PySem.W PyProof.Rows
set_option maxRecDepth 100000 in
set_option maxHeartbeats 0 in
theorem PySem.Challenge.cw_sorthall_k58_whole_stopped_and_given_mor_holds : PySem.Challenge.rw_sorthall_k58_whole_stopped_and_given_mor.Holds := by
 refine L2.hd0 ?_
 k_fill
 refine Law.walk (l:=PySem.Challenge.rw_sorthall_k58_whole_stopped_and_given_mor) rfl rfl (fun w h Y=>PySem.W.kIn_of Y) ?F
 case F=>
  intro w mg fa h KX G hmg
  refine' Law.all_mk KX G hmg ?a_zaP ?pg_zaP ?hd_zaP ?po_zaP ?sa_zaP ?mk_zaP ?kc_zaP ?n_zaP_asker ?n_zaP_sides ?n_zaP_taken ?n_zaP_places ?a_zat ?i_zat ?l_zat ?c_zat ?k_zat ?a_zai ?i_zai ?l_zai ?c_zai ?k_zai ?a_zap ?i_zap ?l_zap ?c_zap ?k_zap ?a_zal ?i_zal ?l_zal ?c_zal ?k_zal ?a_zaf ?i_zaf ?l_zaf ?c_zaf ?k_zaf ?a_zay ?i_zay ?l_zay ?c_zay ?k_zay ?a_zak ?i_zak ?l_zak ?c_zak ?k_zak ?a_zaQ ?pg_zaQ ?hd_zaQ ?po_zaQ ?sa_zaQ ?mk_zaQ ?kc_zaQ ?n_zaQ_asker ?n_zaQ_least ?n_zaQ_start ?n_zaQ_end ?n_zaQ_reached ?n_zaQ_firsts ?n_zaQ_orders ?n_zaQ_grades ?a_zau ?i_zau ?l_zau ?c_zau ?d_zau ?k_zau ?a_zae ?i_zae ?l_zae ?c_zae ?k_zae ?a_zaa ?i_zaa ?l_zaa ?c_zaa ?k_zaa ?a_zab ?i_zab ?l_zab ?c_zab ?k_zab ?a_zah ?i_zah ?l_zah ?c_zah ?k_zah ?a_zax ?i_zax ?l_zax ?c_zax ?k_zax ?a_zav ?i_zav ?l_zav ?c_zav ?k_zav ?a_zao ?i_zao ?l_zao ?c_zao ?k_zao ?a_zag ?i_zag ?l_zag ?c_zag ?k_zag ?a_zaO ?pg_zaO ?hd_zaO ?po_zaO ?sa_zaO ?mk_zaO ?kc_zaO ?n_zaO_row ?n_zaO_rule ?n_zaO_most ?n_zaO_asked ?n_zaO_told ?a_zam ?i_zam ?l_zam ?c_zam ?k_zam ?a_zas ?i_zas ?l_zas ?c_zas ?d_zas ?k_zas ?a_zaq ?i_zaq ?l_zaq ?c_zaq ?k_zaq ?a_zan ?i_zan ?l_zan ?c_zan ?k_zan ?a_zaN ?pg_zaN ?hd_zaN ?po_zaN ?sa_zaN ?mk_zaN ?kc_zaN ?n_zaN_teller ?a_zad ?i_zad ?l_zad ?c_zad ?k_zad ?a_zac ?i_zac ?l_zac ?c_zac ?k_zac ?a_HallError ?a_Spent ?a_zar ?i_zar ?l_zar ?c_zar ?k_zar ?xg_Spent ?xh_Spent ?xa_Spent ?xs_Spent ?xt_Spent ?xo_Spent ?xb_Spent ?xd_Spent ?xv_Spent ?xw_Spent ?xi_Spent ?xp_Spent ?xm_Spent_HallError ?xm_Spent_Spent ?n_Spent_asked ?xbg_HallError ?xbr_HallError ?xbf_HallError ?a_zaJ ?l_zaJ ?c_zaJ ?k_zaJ ?a_zaj ?l_zaj ?c_zaj ?d_zaj ?k_zaj ?a_zaD ?l_zaD ?c_zaD ?k_zaD ?a_zaA ?l_zaA ?c_zaA ?k_zaA ?a_zaG ?l_zaG ?c_zaG ?d_zaG ?k_zaG ?a_zaL ?l_zaL ?c_zaL ?k_zaL ?a_zaI ?l_zaI ?c_zaI ?k_zaI ?a_zaK ?l_zaK ?c_zaK ?k_zaK ?a_zaB ?l_zaB ?c_zaB ?k_zaB ?a_zaF ?l_zaF ?c_zaF ?k_zaF ?a_zaz ?l_zaz ?c_zaz ?k_zaz ?a_zaH ?l_zaH ?c_zaH ?k_zaH ?a_zaE ?l_zaE ?c_zaE ?d_zaE ?k_zaE ?a_zaC ?l_zaC ?c_zaC ?k_zaC ?a_zaw ?l_zaw ?c_zaw ?k_zaw ?a_zaM ?l_zaM ?c_zaM ?k_zaM ?z_LEFT ?z_RIGHT ?z_WINS_TO_LEAP ?z_len ?z_range ?z_list ?z_isinstance ?z_max ?z_min ?z_abs ?z_sorted ?z_enumerate ?z_ValueError ?kit_int_bool ?kit_Spent_Spent
  (case a_zaP=>k_is)
  (case pg_zaP=>k_is)
  (case hd_zaP=>k_is)
  (case po_zaP=>k_is)
  (case sa_zaP=>k_is)
  (case mk_zaP=>k_is)
  (case kc_zaP=>k_is)
  (case n_zaP_asker=>k_is)
  (case n_zaP_sides=>k_is)
  (case n_zaP_taken=>k_is)
  (case n_zaP_places=>k_is)
  (case a_zat=>k_is)
  (case i_zat=>k_is)
  (case l_zat=>k_is)
  (case c_zat=>k_is)
  (case k_zat=>k_is)
  (case a_zai=>k_is)
  (case i_zai=>k_is)
  (case l_zai=>k_is)
  (case c_zai=>k_is)
  (case k_zai=>k_is)
  (case a_zap=>k_is)
  (case i_zap=>k_is)
  (case l_zap=>k_is)
  (case c_zap=>k_is)
  (case k_zap=>k_is)
  (case a_zal=>k_is)
  (case i_zal=>k_is)
  (case l_zal=>k_is)
  (case c_zal=>k_is)
  (case k_zal=>k_is)
  (case a_zaf=>k_is)
  (case i_zaf=>k_is)
  (case l_zaf=>k_is)
  (case c_zaf=>k_is)
  (case k_zaf=>k_is)
  (case a_zay=>k_is)
  (case i_zay=>k_is)
  (case l_zay=>k_is)
  (case c_zay=>k_is)
  (case k_zay=>k_is)
  (case a_zak=>k_is)
  (case i_zak=>k_is)
  (case l_zak=>k_is)
  (case c_zak=>k_is)
  (case k_zak=>k_is)
  (case a_zaQ=>k_is)
  (case pg_zaQ=>k_is)
  (case hd_zaQ=>k_is)
  (case po_zaQ=>k_is)
  (case sa_zaQ=>k_is)
  (case mk_zaQ=>k_is)
  (case kc_zaQ=>k_is)
  (case n_zaQ_asker=>k_is)
  (case n_zaQ_least=>k_is)
  (case n_zaQ_start=>k_is)
  (case n_zaQ_end=>k_is)
  (case n_zaQ_reached=>k_is)
  (case n_zaQ_firsts=>k_is)
  (case n_zaQ_orders=>k_is)
  (case n_zaQ_grades=>k_is)
  (case a_zau=>k_is)
  (case i_zau=>k_is)
  (case l_zau=>k_is)
  (case c_zau=>k_is)
  (case d_zau=>k_is)
  (case k_zau=>k_is)
  (case a_zae=>k_is)
  (case i_zae=>k_is)
  (case l_zae=>k_is)
  (case c_zae=>k_is)
  (case k_zae=>k_is)
  (case a_zaa=>k_is)
  (case i_zaa=>k_is)
  (case l_zaa=>k_is)
  (case c_zaa=>k_is)
  (case k_zaa=>k_is)
  (case a_zab=>k_is)
  (case i_zab=>k_is)
  (case l_zab=>k_is)
  (case c_zab=>k_is)
  (case k_zab=>k_is)
  (case a_zah=>k_is)
  (case i_zah=>k_is)
  (case l_zah=>k_is)
  (case c_zah=>k_is)
  (case k_zah=>k_is)
  (case a_zax=>k_is)
  (case i_zax=>k_is)
  (case l_zax=>k_is)
  (case c_zax=>k_is)
  (case k_zax=>k_is)
  (case a_zav=>k_is)
  (case i_zav=>k_is)
  (case l_zav=>k_is)
  (case c_zav=>k_is)
  (case k_zav=>k_is)
  (case a_zao=>k_is)
  (case i_zao=>k_is)
  (case l_zao=>k_is)
  (case c_zao=>k_is)
  (case k_zao=>k_is)
  (case a_zag=>k_is)
  (case i_zag=>k_is)
  (case l_zag=>k_is)
  (case c_zag=>k_is)
  (case k_zag=>k_is)
  (case a_zaO=>k_is)
  (case pg_zaO=>k_is)
  (case hd_zaO=>k_is)
  (case po_zaO=>k_is)
  (case sa_zaO=>k_is)
  (case mk_zaO=>k_is)
  (case kc_zaO=>k_is)
  (case n_zaO_row=>k_is)
  (case n_zaO_rule=>k_is)
  (case n_zaO_most=>k_is)
  (case n_zaO_asked=>k_is)
  (case n_zaO_told=>k_is)
  (case a_zam=>k_is)
  (case i_zam=>k_is)
  (case l_zam=>k_is)
  (case c_zam=>k_is)
  (case k_zam=>k_is)
  (case a_zas=>k_is)
  (case i_zas=>k_is)
  (case l_zas=>k_is)
  (case c_zas=>k_is)
  (case d_zas=>k_is)
  (case k_zas=>k_is)
  (case a_zaq=>k_is)
  (case i_zaq=>k_is)
  (case l_zaq=>k_is)
  (case c_zaq=>k_is)
  (case k_zaq=>k_is)
  (case a_zan=>k_is)
  (case i_zan=>k_is)
  (case l_zan=>k_is)
  (case c_zan=>k_is)
  (case k_zan=>k_is)
  (case a_zaN=>k_is)
  (case pg_zaN=>k_is)
  (case hd_zaN=>k_is)
  (case po_zaN=>k_is)
  (case sa_zaN=>k_is)
  (case mk_zaN=>k_is)
  (case kc_zaN=>k_is)
  (case n_zaN_teller=>k_is)
  (case a_zad=>k_is)
  (case i_zad=>k_is)
  (case l_zad=>k_is)
  (case c_zad=>k_is)
  (case k_zad=>k_is)
  (case a_zac=>k_is)
  (case i_zac=>k_is)
  (case l_zac=>k_is)
  (case c_zac=>k_is)
  (case k_zac=>k_is)
  (case a_HallError=>k_is)
  (case a_Spent=>k_is)
  (case a_zar=>k_is)
  (case i_zar=>k_is)
  (case l_zar=>k_is)
  (case c_zar=>k_is)
  (case k_zar=>k_is)
  (case xg_Spent=>k_is)
  (case xh_Spent=>k_is)
  (case xa_Spent=>k_is)
  (case xs_Spent=>k_is)
  (case xt_Spent=>k_is)
  (case xo_Spent=>k_is)
  (case xb_Spent=>k_is)
  (case xd_Spent=>k_is)
  (case xv_Spent=>kernel_rfl)
  (case xw_Spent=>k_is)
  (case xi_Spent=>kernel_rfl)
  (case xp_Spent=>k_is)
  (case xm_Spent_HallError=>kts_exm)
  (case xm_Spent_Spent=>kts_exm)
  (case n_Spent_asked=>k_is)
  (case xbg_HallError=>k_is)
  (case xbr_HallError=>k_is)
  (case xbf_HallError=>k_is)
  (case a_zaJ=>k_is)
  (case l_zaJ=>k_is)
  (case c_zaJ=>k_is)
  (case k_zaJ=>k_is)
  (case a_zaj=>k_is)
  (case l_zaj=>k_is)
  (case c_zaj=>k_is)
  (case d_zaj=>k_is)
  (case k_zaj=>k_is)
  (case a_zaD=>k_is)
  (case l_zaD=>k_is)
  (case c_zaD=>k_is)
  (case k_zaD=>k_is)
  (case a_zaA=>k_is)
  (case l_zaA=>k_is)
  (case c_zaA=>k_is)
  (case k_zaA=>k_is)
  (case a_zaG=>k_is)
  (case l_zaG=>k_is)
  (case c_zaG=>k_is)
  (case d_zaG=>k_is)
  (case k_zaG=>k_is)
  (case a_zaL=>k_is)
  (case l_zaL=>k_is)
  (case c_zaL=>k_is)
  (case k_zaL=>k_is)
  (case a_zaI=>k_is)
  (case l_zaI=>k_is)
  (case c_zaI=>k_is)
  (case k_zaI=>k_is)
  (case a_zaK=>k_is)
  (case l_zaK=>k_is)
  (case c_zaK=>k_is)
  (case k_zaK=>k_is)
  (case a_zaB=>k_is)
  (case l_zaB=>k_is)
  (case c_zaB=>k_is)
  (case k_zaB=>k_is)
  (case a_zaF=>k_is)
  (case l_zaF=>k_is)
  (case c_zaF=>k_is)
  (case k_zaF=>k_is)
  (case a_zaz=>k_is)
  (case l_zaz=>k_is)
  (case c_zaz=>k_is)
  (case k_zaz=>k_is)
  (case a_zaH=>k_is)
  (case l_zaH=>k_is)
  (case c_zaH=>k_is)
  (case k_zaH=>k_is)
  (case a_zaE=>k_is)
  (case l_zaE=>k_is)
  (case c_zaE=>k_is)
  (case d_zaE=>k_is)
  (case k_zaE=>k_is)
  (case a_zaC=>k_is)
  (case l_zaC=>k_is)
  (case c_zaC=>k_is)
  (case k_zaC=>k_is)
  (case a_zaw=>k_is)
  (case l_zaw=>k_is)
  (case c_zaw=>k_is)
  (case k_zaw=>k_is)
  (case a_zaM=>k_is)
  (case l_zaM=>k_is)
  (case c_zaM=>k_is)
  (case k_zaM=>k_is)
  (case z_LEFT=>k_is)
  (case z_RIGHT=>k_is)
  (case z_WINS_TO_LEAP=>k_is)
  (case z_len=>k_is)
  (case z_range=>k_is)
  (case z_list=>k_is)
  (case z_isinstance=>k_is)
  (case z_max=>k_is)
  (case z_min=>k_is)
  (case z_abs=>k_is)
  (case z_sorted=>k_is)
  (case z_enumerate=>k_is)
  (case z_ValueError=>k_is)
  (case kit_int_bool=>kit_is)
  (case kit_Spent_Spent=>kit_is)
