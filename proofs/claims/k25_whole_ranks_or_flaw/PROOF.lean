import PyProof.Rows.All
import Wide.All
import OpenK.AllK
import Wide.FinOn
import Lean
import PyProof.EqAt
import PyProof.EqKinds
import PyProof.TupleCall
import KE.KRevIter
import PyProof.CollectIter
import PyProof.SumWalkG
import KE.KDictOf
import PyProof.IsiH_list
import PyProof.RaisesAny
import PyProof.P3In
import PyProof.Rows.StrWeight2
import PyProof.StrCalls
import PyProof.Rows.FinIter
import PySem.Challenge.RW_sorthall_k25_whole_ranks_or_flaw
local macro_rules | `(tactic| omega)=>`(tactic| first | with_reducible assumption | lia | omega (splitDisjunctions:=true))
set_option Elab.async false
set_option linter.all false
set_option maxRecDepth 100000
open Nat renaming le_refl→yAA,le_trans→yAF,ne_of_lt→yAG,lt_of_lt_of_le→yAI,sub_self→yAV,le_succ→yAY,lt_irrefl→yBE,lt_succ_self→yBI
open List renaming length_map→yAB,mem_of_getElem?→yAC,length_append→yAD,getElem?_eq_some_iff→yAE,getElem?_eq_getElem→yAH,getElem?_map→yAJ,size_toArray→yAK,length_range→yAL,getElem?_append_left→yAN,mem_singleton→yAO,mem_cons_self→yAP,mem_append_right→yAQ,mem_cons→yAR,getElem?_append_right→yAS,mem_cons_of_mem→yAT,mem_append→yAU,map_append→yAW,map_cons→yAX,length_cons→yAZ,getD_eq_getElem?_getD→yBA,mem_range→yBB,lookup_cons→yBC,getElem?_range→yBD,getElem?_eq_none→yBF,mem_map→yBG,range_succ→yBH,length_replicate→yBJ
open Bool renaming false_ne_true→yAM
namespace L2
open PySem PySem.W
theorem left_boot {p q:Program} {loose:List Str} {Xt:Shared->Bool} {α:Type} {Yf:Shared->α} {Ya:World->α} {N:Nat} {g0:Bool}
  (open_:∀ w:World,(fencedOpening treeTable p w N).map (fun s=>(s.heap,s.gens,s.drawn,s.toks))=some (boot_heap w.params,Array.mk [],boot_drawn,boot_toks))
  (h:∀ (w:World) (os:OsState),(topFrom treeTable p w N ⟨boot_heap w.params,Array.mk [],boot_drawn,boot_toks,os⟩).map (fun s=>(openSeen q loose (importedModules p.main.body) Xt g0 s,Yf s))=some (openGood q loose,Ya w)):LeftO p q loose Xt Yf Ya N g0:=fun w=>by
 obtain ⟨⟨hh,gs,d,k,os⟩,e,e'⟩:=Option.map_eq_some_iff.mp (open_ w)
 obtain ⟨rfl,rfl,rfl,rfl⟩:hh=boot_heap w.params /\ gs=Array.mk [] /\ d=boot_drawn /\ k=boot_toks:=by simpa using e'
 unfold openEnds
 rw [e]
 exact h w os
theorem left_two {p q:Program} {loose:List Str} {Xt:Shared->Bool} {α:Type} {Yf:Shared->α} {Ya:World->α} {N:Nat} {g0:Bool}
  (open_:∀ w:World,(fencedOpening treeTable p w N).map (fun s=>(s.heap,s.gens,s.drawn,s.toks))=some (boot_heap w.params,Array.mk [],boot_drawn,boot_toks))
  (h1:∀ (w:World) (os:OsState),(topFrom treeTable p w N ⟨boot_heap w.params,Array.mk [],boot_drawn,boot_toks,os⟩).map (fun s=>openSeen q loose (importedModules p.main.body) Xt g0 s)=some (openGood q loose))
  (h2:∀ (w:World) (os:OsState),(topFrom treeTable p w N ⟨boot_heap w.params,Array.mk [],boot_drawn,boot_toks,os⟩).map (fun s=>Yf s)=some (Ya w)):LeftO p q loose Xt Yf Ya N g0 :=
 left_boot open_ fun w os=>by
  have a:=h1 w os
  have b:=h2 w os
  generalize topFrom treeTable p w N ⟨boot_heap w.params,Array.mk [],boot_drawn,boot_toks,os⟩=r at a b
  cases r with
  | none=>cases a
  | some s=>exact congrArg some (Prod.ext (Option.some.inj a) (Option.some.inj b))
noncomputable def s0B (w:World) (os:OsState):Shared:=⟨boot_heap w.params,Array.mk [],boot_drawn,boot_toks,os⟩
noncomputable def ofLB:List Obj->Nat->BT->BT
 | [],_,t=>t
 | o::r,n,t=>ofLB r (n+1) (t.ins n o)
noncomputable def sTB (w:World) (os:OsState):SharedT:=⟨ofLB (boot_heap w.params).objs.toList 0 .nil,(boot_heap w.params).objs.size,(boot_heap w.params).life,Array.mk [],boot_drawn,boot_toks,os⟩
noncomputable def topRunQ (p:Program) (w:World) (n₀:Nat) (ann:Option Value):Nat->SharedT->Thread->Option SharedT
 | 0,_,_=>none
 | n+1,s,t=>match through t with
  | true=>some s
  | false=>match PySem.W.Fast.tw6613529449190102663 n₀ ann t with
   | false=>none
   | true=>match PySem.W.Fast.tw10156331382660048174 (PySem.W.Fast.tw11892475500146522536 PySem.W.Fast.tw14364793385576792824) p w s t with
    | some (s',t')=>topRunQ p w n₀ ann n s' t'
    | none=>none
theorem topRunQ_spec {p:Program} {w:World} {n₀:Nat} {ann:Option Value}:∀ {n:Nat} {s s':SharedT} {t:Thread},topRunQ p w n₀ ann n s t=some s'->topRun treeTable p w n₀ ann n s.abs t=some s'.abs
 | 0,_,_,_,h=>by cases h
 | n+1,s,s',t,h=>by
  unfold topRunQ at h
  rw [<- PySem.W.Fast.te6613529449190102663,<- PySem.W.Fast.te10156331382660048174,<- PySem.W.Fast.te11892475500146522536,<- PySem.W.Fast.te14364793385576792824] at h
  unfold topRun
  cases he:through t with
  | true=>rw [he] at h;cases h;rfl
  | false=>
   rw [he] at h
   cases hk:stepOk n₀ ann t with
   | false=>rw [hk] at h;cases h
   | true=>
    rw [hk] at h
    cases hs:stepT (denote treeTable) p w s t with
    | none=>rw [hs] at h;cases h
    | some r=>obtain ⟨s₂,t₂⟩:=r;rw [hs] at h;rw [stepT_spec hs];exact topRunQ_spec h
set_option maxHeartbeats 0 in
theorem sTB_abs:∀ (w:World) (os:OsState),(sTB w os).abs=s0B w os:=by
 intro w os
 kernel_rfl
set_option maxHeartbeats 0 in
theorem s0B_ns:∀ (w:World) (os:OsState),((s0B w os).heap.isNs mainGlobals && (s0B w os).gens.size == 0)=true:=by
 intro w os
 kernel_rfl
noncomputable def topOkB (p:Program) (s₀ s₁:Shared):Bool:=staticsOk (importedModules p.main.body) s₀.heap s₁.heap && namesBound p s₁.heap && gensDone s₁ && laidKept s₀.heap s₁.heap
theorem via_tree {α:Type} {p:Program} {N:Nat} {F:Shared->α} {G:α} (w:World) (os:OsState)
  (h:(topRunQ p w (s0B w os).heap.objs.size ((s0B w os).heap.nsMap mainGlobals "__annotations__") N (sTB w os) (topStub p)).map (fun s=>(topOkB p (s0B w os) s.abs,F s.abs))=some (true,G)):(topFrom treeTable p w N ⟨boot_heap w.params,Array.mk [],boot_drawn,boot_toks,os⟩).map F=some G:=by
 obtain ⟨s',e1,e2⟩:=Option.map_eq_some_iff.mp h
 have r:=topRunQ_spec e1
 rw [sTB_abs] at r
 obtain ⟨e3,e4⟩:=Prod.mk.inj e2
 show (topFrom treeTable p w N (s0B w os)).map F=some G
 unfold topFrom
 rw [s0B_ns w os]
 dsimp only
 rw [r,Option.bind_some]
 unfold topOkB at e3
 rw [e3]
 exact congrArg some e4
noncomputable def vw (p:Program) (ix:List Nat):Program:={ p with main:={ p.main with body:=ix.filterMap fun i=>p.main.body[i]? } }
noncomputable def Vw:Program:=vw PySem.Challenge.pw_sorthall_k25_whole_ranks_or_flaw [0,2,3,5,7,8,9,10,11,12,13,15,16,17,18,19,20,21,22,23,24,25,26,27,29,30,31,32,33,34,35,36,37,38,39,40,41,42,43,44,45,46]
set_option maxHeartbeats 0 in
theorem seen1:∀ (w:World) (os:OsState),(topFrom treeTable PySem.Challenge.pw_sorthall_k25_whole_ranks_or_flaw w 7566 ⟨boot_heap w.params,Array.mk [],boot_drawn,boot_toks,os⟩).map (fun s=>openSeen L2.Vw [] (importedModules PySem.Challenge.pw_sorthall_k25_whole_ranks_or_flaw.main.body) (fun s=>xlAt L2.Vw [] s && recOk (RowW.records (OpenRow.toRowW (OpenLaw.row PySem.Challenge.rw_sorthall_k25_whole_ranks_or_flaw))) s) true s)=some (openGood L2.Vw []):=by
 intro w os
 refine via_tree w os ?_
 rw [PySem.W.Fast.te4187177175401517315]
 kernel_rfl
local macro_rules | `(tactic| o_law)=>`(tactic| refine holds_law (by decide +kernel) fun said=>?_)
set_option hygiene false in
local macro_rules | `(tactic| o_head $H)=>`(tactic| (refine holds_open (q:=L2.Vw) (loose:=[]) (Xt:=fun s=>xlAt L2.Vw [] s && recOk (RowW.records _) s) (XP:=XL L2.Vw []) (Yf:=Hook.obs $H) (Ya:=Hook.val $H) (YP:=Hook.says $H) (N:=7566) ?hl (Hook.of $H) (Hook.keeps $H) (fun s e=>xl_of s (Bool.and_eq_true_iff.mp e).1) XL.keeps (by rfl) (by rfl) (by rfl) (fun s e=>recFacts_of (Bool.and_eq_true_iff.mp e).2) (by rfl) (by first | assumption | decide +kernel) (by decide +kernel) ⟨rfl,rfl,rfl,rfl,rfl,by decide +kernel⟩ ?hw ?hc;(case hl=>(refine L2.left_two (PySem.W.boot_open (by rfl) (by decide) (fun s=>rfl)) (fun w os=>?h1) (fun w os=>?h2);(case h1=>exact L2.seen1 w os);(case h2=>(refine L2.via_tree w os ?_;kernel_rfl))))))
set_option maxHeartbeats 0 in
open_top hd0 for PySem.Challenge.rw_sorthall_k25_whole_ranks_or_flaw
end L2
namespace L2
open PySem PySem.Spec PyProof.Rows
noncomputable abbrev Key:=Sum Int Str
noncomputable def keyIs:Key->Value->Bool
 | .inl k,v=>Value.isInt k v
 | .inr x,v=>Value.isStrOf x v
noncomputable def keyH (w:World):Key->Int
 | .inl k=>hashInt k
 | .inr x=>hashStr w x
theorem ZBB:∀ {k:Key} {v:Value},keyIs k v=true->(∃ i t,k=Sum.inl i /\ v=Value.int i t)∨(∃ x t,k=Sum.inr x /\ v=Value.str x t)
 | .inl i,v,h=>by
  obtain ⟨t,e⟩:=Value.isInt_shape (k:=i) (v:=v) h
  exact .inl ⟨i,t,rfl,e⟩
 | .inr x,v,h=>by
  obtain ⟨t,e⟩:=Value.isStrOf_shape (x:=x) (v:=v) h
  exact .inr ⟨x,t,rfl,e⟩
theorem key_ll (a b:Int):decide ((Sum.inl a:Key)=Sum.inl b)=(a == b):=by
 by_cases e:a=b
 .subst e;simp
 .have h:¬ (Sum.inl a:Key)=Sum.inl b:=fun q=>e (Sum.inl.inj q)
  rw [decide_eq_false h]
  exact (beq_eq_false_iff_ne.mpr e).symm
theorem key_rr (a b:Str):decide ((Sum.inr a:Key)=Sum.inr b)=decide (a=b):=by
 by_cases e:a=b
 .subst e;simp
 .have h:¬ (Sum.inr a:Key)=Sum.inr b:=fun q=>e (Sum.inr.inj q)
  rw [decide_eq_false h,decide_eq_false e]
theorem key_lr (a:Int) (b:Str):decide ((Sum.inl a:Key)=Sum.inr b)=false:=decide_eq_false (fun q=>nomatch q)
theorem key_rl (a:Str) (b:Int):decide ((Sum.inr a:Key)=Sum.inl b)=false:=decide_eq_false (fun q=>nomatch q)
noncomputable def mixKind (prog:Program) (w:World):PySem.KeyKind prog w Key where
 is:=keyIs
 hash:=keyH w
 inj:=fun v a b ha hb=>by
  rcases ZBB ha with ⟨i,t,rfl,rfl⟩ | ⟨x,t,rfl,rfl⟩
  .rcases ZBB hb with ⟨j,u,rfl,e⟩ | ⟨y,u,rfl,e⟩
   .injection e with e1 _;rw [e1]
   .exact nomatch e
  .rcases ZBB hb with ⟨j,u,rfl,e⟩ | ⟨y,u,rfl,e⟩
   .exact nomatch e
   .injection e with e1 _;rw [e1]
 byValue:=fun k v h=>by
  rcases ZBB h with ⟨i,t,rfl,rfl⟩ | ⟨x,t,rfl,rfl⟩ <;> rfl
 pyHash:=fun hv h=>by
  rcases ZBB hv with ⟨i,t,rfl,rfl⟩ | ⟨x,t,rfl,rfl⟩
  .exact wpAny_pyHash_int h
  .exact wpAny_pyHash_str h
 eqBool:=fun hu hv h=>by
  rcases ZBB hu with ⟨i,t,rfl,rfl⟩ | ⟨x,t,rfl,rfl⟩
  .rcases ZBB hv with ⟨j,u,rfl,rfl⟩ | ⟨y,u,rfl,rfl⟩
   .rw [key_ll] at h;exact wpAny_eqBool_int h
   .rw [key_lr] at h;exact SeqAt.EqAt.int_str i t y u _ _ _ _ h
  .rcases ZBB hv with ⟨j,u,rfl,rfl⟩ | ⟨y,u,rfl,rfl⟩
   .rw [key_rl] at h;exact SeqAt.EqAt.str_int x t j u _ _ _ _ h
   .rw [key_rr] at h;exact wpAny_eqBool_str h
 «strs»:=fun k x t v h=>by
  rcases ZBB h with ⟨i,u,rfl,e⟩ | ⟨y,u,rfl,e⟩
  .exact nomatch e
  .injection e with e1 _
   subst e1
   cases v <;> rfl
inductive V where
 | non | bl (b:Bool) | int (i:Int) | str (x:Str) | byt (b:Array UInt8) | flt (b:UInt64) | ref (a:Addr) | ty (n:String)
 deriving DecidableEq
noncomputable def RelV:V->Value->Prop
 | .non,u=>u=Value.none
 | .bl b,u=>u=Value.bool b
 | .int i,u=>∃ t,u=Value.int i t
 | .str x,u=>∃ t,u=Value.str x t
 | .byt b,u=>∃ t,u=Value.bytes b t
 | .flt b,u=>∃ t,u=Value.float b t
 | .ref a,u=>u=Value.ref a
 | .ty n,u=>u=Value.type n
noncomputable abbrev Vals:List V->List Value->Prop:=Paired RelV
theorem Vals.length {xs:List V} {us:List Value} (r:Vals xs us):xs.length=us.length:=Paired.length r
theorem Vals.get:∀ {xs:List V} {us:List Value} {i:Nat} {x:V},Vals xs us->xs[i]?=some x->∃ u,us[i]?=some u /\ RelV x u
 | _,_,_,_,.nil,e=>by simp at e
 | _,_,0,_,.cons r _,e=>by simp at e;subst e;exact ⟨_,rfl,r⟩
 | _,_,i+1,x,.cons _ t,e=>by
  obtain ⟨u,h1,h2⟩:=Vals.get (i:=i) (x:=x) t (by simpa using e)
  exact ⟨u,by simpa using h1,h2⟩
theorem Vals.set {x:V} {u:Value} (r:RelV x u):∀ {xs:List V} {us:List Value} (i:Nat),Vals xs us->Vals (xs.set i x) (us.set i u)
 | _,_,_,.nil=>.nil
 | _,_,0,.cons _ t=>.cons r t
 | _,_,i+1,.cons q t=>.cons q (Vals.set r i t)
theorem Vals.append:∀ {xs ys:List V} {us ws:List Value},Vals xs us->Vals ys ws->Vals (xs++ys) (us++ws)
 | _,_,_,_,.nil,s=>s
 | _,_,_,_,.cons r t,s=>.cons r (Vals.append t s)
theorem Vals.take:∀ {xs:List V} {us:List Value} (n:Nat),Vals xs us->Vals (xs.take n) (us.take n)
 | _,_,0,_=>.nil
 | _,_,_+1,.nil=>.nil
 | _,_,n+1,.cons r t=>.cons r (Vals.take n t)
theorem Vals.drop:∀ {xs:List V} {us:List Value} (n:Nat),Vals xs us->Vals (xs.drop n) (us.drop n)
 | _,_,0,r=>r
 | _,_,_+1,.nil=>.nil
 | _,_,n+1,.cons _ t=>Vals.drop n t
noncomputable def RelO:Option V->Option Value->Prop
 | some v,some u=>RelV v u
 | none,none=>True
 | _,_=>False
noncomputable def KV {κ:Type}:List (κ×V)->List (κ×Value)->Prop:=Paired fun (p:κ×V) (q:κ×Value)=>p.1=q.1 /\ RelV p.2 q.2
noncomputable def kV:Key->V
 | .inl i=>.int i
 | .inr x=>.str x
inductive HO where
 | lst (xs:List V)
 | tup (xs:List V)
 | dK (kvs:List (Key×V)) | dT (kvs:List (List Key×V))
 | set (S:Int->Bool) (n:Nat)
 | ins (C dx:Addr) (fs:List (Str×V))
 | own (x:Addr)
 | xd (fs:List (Str×V))
 | met (f x:Addr)
 | rng (lo hi:Int)
 | frz (o:Obj) (u:HO)
 | tbl (ps:Array Value)
 | ext (φ:Heap->Prop)
noncomputable abbrev Hp:=Addr->Option HO
noncomputable def upd (H:Hp) (a:Addr) (o:HO):Hp:=fun b=>if b=a then some o else H b
theorem ZAG {H:Hp} {a:Addr} {o:HO}:upd H a o a=some o:=by unfold upd;rw [if_pos rfl]
theorem ZAO {H:Hp} {a b:Addr} {o:HO} (h:b≠a):upd H a o b=H b:=by unfold upd;rw [if_neg h]
theorem ZAT {H:Hp} {a b:Addr} {o:HO} (h:H a=some o) (h':H b=none):a≠b:=by
 intro e;subst e;rw [h] at h';cases h'
section
variable (P:Program) (w:World)
noncomputable def ObjOk (H:Hp) (h:Heap) (a:Addr):HO->Prop
 | .lst xs=>xs.length <= sizeLine /\ ∃ (its:List Value) (n:Nat),Vals xs its /\ h.get? a=some { cls:=.type "list",data:=.seq its.toArray n }
 | .tup xs=>xs.length <= sizeLine /\ ∃ its:List Value,Vals xs its /\ IsTup h a its.toArray
 | .dK kvs=>kvs.length <= sizeLine /\ (a == sysModules)=false /\ ∃ vs,KV kvs vs /\ h.DictOf (mixKind P w) a vs
 | .dT kvs=>kvs.length <= sizeLine /\ (a == sysModules)=false /\ ∃ xs:List (List Key×Addr×Value),
   Paired (fun (p:List Key×V) (q:List Key×Addr×Value)=>p.1=q.1 /\ H q.2.1=some (.tup (p.1.map kV)) /\ RelV p.2 q.2.2) kvs xs /\
   ∃ o es ep,h.get? a=some o /\ o.ExactDict /\ o.data=.dict es ep /\ es.toList=xs.map (entryOfKey (tupleKind (mixKind P w))) /\ (xs.map (·.1)).Nodup
 | .set S n=>h.SetOf (intKind P w) a S n
 | .ins C dx fs=>H dx=some (.own a) /\ fs.length <= 1000 /\ dx≠a /\ h.get? a=some (PySem.W.instObj C dx) /\
   ∃ mA,h.Ns1 dx mA /\ (∀ f,RelO (fs.lookup f) (mA f)) /\ PySem.Within mA (fs.map (·.1))
 | .own _=>∃ o,h.get? a=some o
 | .xd fs=>∃ mA,h.Ns1 a mA /\ ∀ f,RelO (fs.lookup f) (mA f)
 | .rng lo hi=>∃ t u v,h.get? a=some { cls:=.type "range",data:=.fields #[.int lo t,.int hi u,.int 1 v] }
 | .frz o u=>h.get? a=some o /\ ObjOk H h a u
 | .tbl ps=>h.get? a=some { cls:=.none,data:=.fields ps }
 | .met f x=>h.get? a=some (PySem.W.methodObj (.ref f) (.ref x))
 | .ext φ=>φ h /\ (∃ o,h.get? a=some o) /\ ∀ h1 h2:Heap,φ h1->(∀ o,h1.get? a=some o->h2.get? a=some o)->φ h2
noncomputable def HOk (H:Hp) (h:Heap):Prop:=∀ a o,H a=some o->ObjOk P w H h a o
end
section
variable {P:Program} {w:World} {H H':Hp} {h h':Heap} {a:Addr} {o:HO}
theorem ObjOk.lt (x:ObjOk P w H h a o):a < h.objs.size:=by
 cases o with
 | lst xs=>obtain ⟨_,_,_,_,e⟩:=x;exact Heap.lt_size e
 | tup xs=>obtain ⟨_,_,_,p⟩:=x;exact p.lt
 | dK kvs=>obtain ⟨_,_,_,_,o,_,_,e,_⟩:=x;exact Heap.lt_size e
 | dT kvs=>obtain ⟨_,_,_,_,o,_,_,e,_⟩:=x;exact Heap.lt_size e
 | set S n=>obtain ⟨o,_,_,_,e,_⟩:=x;exact Heap.lt_size e
 | ins C dx fs=>obtain ⟨_,_,_,e,_⟩:=x;exact Heap.lt_size e
 | own y=>obtain ⟨_,e⟩:=x;exact Heap.lt_size e
 | xd fs=>obtain ⟨_,⟨_,_,_,e,_⟩,_⟩:=x;exact Heap.lt_size e
 | rng lo hi=>obtain ⟨_,_,_,e⟩:=x;exact Heap.lt_size e
 | frz ob u=>obtain ⟨e,_⟩:=x;exact Heap.lt_size e
 | tbl ps=>exact Heap.lt_size (show h.get? a=some _ from x)
 | met f y=>exact Heap.lt_size (show h.get? a=some _ from x)
 | ext φ=>obtain ⟨_,⟨_,e⟩,_⟩:=x;exact Heap.lt_size e
theorem Paired.mapP {α β:Type} {F G:α->β->Prop}:∀ {l₁:List α} {l₂:List β},Paired F l₁ l₂->(∀ a b,F a b->G a b)->Paired G l₁ l₂
 | _,_,.nil,_=>.nil
 | _,_,.cons r t,f=>.cons (f _ _ r) (Paired.mapP t f)
theorem ObjOk.stay (x:ObjOk P w H h a o) (k:∀ b u,(b=a∨H b=some (.own a))->h.get? b=some u->h'.get? b=some u)
  (ho:∀ b,H b=some (.own a)->H' b=some (.own a)) (ht:∀ b xs,H b=some (.tup xs)->H' b=some (.tup xs)):ObjOk P w H' h' a o:=by
 induction o with
 | lst xs=>obtain ⟨z,its,n,r,e⟩:=x;exact ⟨z,its,n,r,k _ _ (.inl rfl) e⟩
 | tup xs=>obtain ⟨z,its,r,ob,e,c⟩:=x;exact ⟨z,its,r,ob,k _ _ (.inl rfl) e,c⟩
 | dK kvs=>obtain ⟨z,y,vs,r,ob,es,ep,e,c⟩:=x;exact ⟨z,y,vs,r,ob,es,ep,k _ _ (.inl rfl) e,c⟩
 | dT kvs=>
  obtain ⟨z,y,xs,r,ob,es,ep,e,c⟩:=x
  exact ⟨z,y,xs,Paired.mapP r fun p q z=>⟨z.1,ht _ _ z.2.1,z.2.2⟩,ob,es,ep,k _ _ (.inl rfl) e,c⟩
 | set S n=>obtain ⟨ob,es,ep,t,e,c⟩:=x;exact ⟨ob,es,ep,t,k _ _ (.inl rfl) e,c⟩
 | ins C dx fs=>
  obtain ⟨d,z,ne,e,mA,⟨od,es,ep,e2,c⟩,r⟩:=x
  exact ⟨ho _ d,z,ne,k _ _ (.inl rfl) e,mA,⟨od,es,ep,k _ _ (.inr d) e2,c⟩,r⟩
 | own y=>obtain ⟨ob,e⟩:=x;exact ⟨ob,k _ _ (.inl rfl) e⟩
 | xd fs=>obtain ⟨mA,⟨od,es,ep,e,c⟩,r⟩:=x;exact ⟨mA,⟨od,es,ep,k _ _ (.inl rfl) e,c⟩,r⟩
 | rng lo hi=>obtain ⟨t,u,v,e⟩:=x;exact ⟨t,u,v,k _ _ (.inl rfl) e⟩
 | frz ob u ih=>obtain ⟨e,q⟩:=x;exact ⟨k _ _ (.inl rfl) e,ih q⟩
 | tbl ps=>
  have e:h.get? a=some { cls:=.none,data:=.fields ps }:=x
  show h'.get? a=some { cls:=.none,data:=.fields ps }
  exact k a _ (.inl rfl) e
 | met f y=>
  have e:h.get? a=some (PySem.W.methodObj (.ref f) (.ref y)):=x
  show h'.get? a=some (PySem.W.methodObj (.ref f) (.ref y))
  exact k a _ (.inl rfl) e
 | ext φ=>obtain ⟨p,⟨o,e⟩,st⟩:=x;exact ⟨st _ _ p fun o q=>k _ _ (.inl rfl) q,⟨o,k _ _ (.inl rfl) e⟩,st⟩
theorem HOk.lt (x:HOk P w H h) (e:H a=some o):a < h.objs.size:=(x a o e).lt
theorem HOk.fresh (x:HOk P w H h) (e:h.objs.size <= a):H a=none:=by
 cases q:H a with
 | none=>rfl
 | some u=>exact absurd (yAI (x.lt q) e) (yBE _)
theorem HOk.kept (x:HOk P w H h) (k:∀ b u,h.get? b=some u->h'.get? b=some u):HOk P w H h':=fun a o e=>
 (x a o e).stay (fun b u _ q=>k b u q) (fun _ q=>q) fun _ _ q=>q
theorem HOk.laid (x:HOk P w H h) (k:∀ b u,h.get? b=some u->h'.get? b=some u) (hp:h.objs.size <= a) (new:ObjOk P w (upd H a o) h' a o):HOk P w (upd H a o) h':=fun b u e=>by
 have hn:=x.fresh hp
 by_cases hb:b=a
 .subst hb;rw [ZAG] at e;cases e;exact new
 .rw [ZAO hb] at e
  exact (x b u e).stay (fun c v _ q=>k c v q) (fun c q=>by rw [ZAO (ZAT q hn)];exact q) fun c xs q=>by rw [ZAO (ZAT q hn)];exact q
end
noncomputable def Rd (H:Hp) (a:Addr) (u:HO):Prop:=H a=some u∨∃ o,H a=some (.frz o u)
theorem Rd.ok {P:Program} {w:World} {H:Hp} {h:Heap} {a:Addr} {u:HO} (r:Rd H a u) (x:HOk P w H h):ObjOk P w H h a u:=by
 rcases r with r | ⟨o,r⟩
 .exact x a u r
 .obtain ⟨_,q⟩:=x a _ r
  exact q
noncomputable def Mut:Option HO->Prop
 | some (.lst _)=>True
 | some (.dK _)=>True
 | some (.dT _)=>True
 | some (.set _ _)=>True
 | some (.ins _ _ _)=>True
 | some (.ext _)=>True
 | _=>False
section
variable {P:Program} {w:World} {H:Hp} {h h':Heap} {x e:Addr} {o':HO}
theorem HOk.write (ok:HOk P w H h) (mu:Mut (H x)) (he:e=x∨H e=some (.own x)) (k:∀ b u,b≠e->h.get? b=some u->h'.get? b=some u) (heo:∃ u,h'.get? e=some u)
  (new:ObjOk P w (upd H x o') h' x o'):HOk P w (upd H x o') h':=fun b u q=>by
 have nown:∀ c y,H c=some (.own y)->c≠x:=fun c y r z=>by subst z;rw [r] at mu;exact mu
 have ntup:∀ c xs,H c=some (.tup xs)->c≠x:=fun c xs r z=>by subst z;rw [r] at mu;exact mu
 by_cases hb:b=x
 .subst hb;rw [ZAG] at q;cases q;exact new
 .rw [ZAO hb] at q
  by_cases hbe:b=e
  .have q':H b=some (.own x):=by
    rcases he with z | z
    .exact absurd (hbe.trans z) hb
    .rw [hbe];exact z
   rw [q] at q';cases q'
   obtain ⟨v,hv⟩:=heo
   exact ⟨v,by rw [hbe];exact hv⟩
  .refine (ok b u q).stay (fun c v hc r=>k c v ?_ r) (fun c r=>by rw [ZAO (nown c b r)];exact r) fun c xs r=>by rw [ZAO (ntup c xs r)];exact r
   rcases hc with rfl | hc
   .exact hbe
   .rintro rfl
    rcases he with z | z
    .exact nown c b hc z
    .rw [hc] at z;cases z;exact hb rfl
end
structure Un (fs ex:List Addr) (H H':Hp) (h h':Heap):Prop where
 keep:∀ b o,h.get? b=some o->H b=none->b∉fs->b∉ex->h'.get? b=some o
 slot:∀ b o,h.get? b=some o->H b=none->b∈fs->b∉ex->∃ sl,h'.get? b=some { o with slots:=sl }
 free:∀ b o,h.get? b=some o->H b=none->b∉ex->H' b=none
 there:∀ b o,h.get? b=some o->b∉ex->∃ o',h'.get? b=some o'
 tups:∀ b xs,H b=some (.tup xs)->H' b=some (.tup xs)
 frzs:∀ b o u,H b=some (.frz o u)->H' b=some (.frz o u)
 tbls:∀ b ps,H b=some (.tbl ps)->∃ more,H' b=some (.tbl (ps++more))
section
variable {fs fs' ex ex':List Addr} {H H1 H2:Hp} {h h1 h2 h':Heap} {a x e:Addr} {o:HO}
theorem Un.any (u:Un fs ex H H1 h h1) {b:Addr} {ob:Obj} (q:h.get? b=some ob) (n:H b=none) (hx:b∉ex):∃ sl,h1.get? b=some { ob with slots:=sl }:=by
 by_cases hb:b∈fs
 .exact u.slot b ob q n hb hx
 .exact ⟨ob.slots,u.keep b ob q n hb hx⟩
theorem Un.kept (k:∀ b u,h.get? b=some u->h'.get? b=some u):Un fs ex H H h h' :=
 ⟨fun b ob q _ _ _=>k b ob q,fun b ob q _ _ _=>⟨ob.slots,k b ob q⟩,fun _ _ _ n _=>n,fun b ob q _=>⟨ob,k b ob q⟩,fun _ _ q=>q,fun _ _ _ q=>q,fun _ ps q=>⟨#[],by rw [q];simp⟩⟩
theorem Un.refl:Un fs ex H H h h:=Un.kept fun _ _ q=>q
theorem Un.laid (k:∀ b u,h.get? b=some u->h'.get? b=some u) (hp:h.objs.size <= a) (hn:H a=none):Un fs ex H (upd H a o) h h' where
 keep:=fun b u q _ _ _=>k b u q
 slot:=fun b u q _ _ _=>⟨u.slots,k b u q⟩
 free:=fun b u q n _=>by rw [ZAO (yAG (yAI (Heap.lt_size q) hp))];exact n
 there:=fun b u q _=>⟨u,k b u q⟩
 tups:=fun b xs q=>by rw [ZAO (ZAT q hn)];exact q
 frzs:=fun b u xs q=>by rw [ZAO (ZAT q hn)];exact q
 tbls:=fun b ps q=>⟨#[],by rw [ZAO (ZAT q hn),q];simp⟩
theorem Un.write (mu:Mut (H x)) (he:e=x∨H e=some (.own x)) (k:∀ b u,b≠e->h.get? b=some u->h'.get? b=some u) (heo:∃ u,h'.get? e=some u):Un fs ex H (upd H x o) h h':=by
 have hx:∀ b,H b=none->b≠x:=fun b n z=>by subst z;rw [n] at mu;exact mu
 have hb:∀ b,H b=none->b≠e:=fun b n z=>by
  subst z
  rcases he with r | r
  .exact hx b n r
  .rw [n] at r;cases r
 have hm:∀ b u,H b=some u->¬ Mut (some u)->b≠x:=fun b u q nm z=>by subst z;rw [q] at mu;exact nm mu
 refine ⟨fun b u q n _ _=>k b u (hb b n) q,fun b u q n _ _=>⟨u.slots,k b u (hb b n) q⟩,fun b u q n _=>by rw [ZAO (hx b n)];exact n,fun b u q _=>?_,
  fun b xs q=>by rw [ZAO (hm b _ q fun z=>z)];exact q,fun b u xs q=>by rw [ZAO (hm b _ q fun z=>z)];exact q,fun b ps q=>⟨#[],by rw [ZAO (hm b _ q fun z=>z),q];simp⟩⟩
 by_cases hbe:b=e
 .subst hbe;exact heo
 .exact ⟨u,k b u hbe q⟩
end
noncomputable def trk (h:Heap) (H:Hp):List Addr:=(List.range h.objs.size).filter fun a=>(H a).isSome
noncomputable def hidT (h:Heap) (H:Hp):Heap:=PySem.W.hideAll h (trk h H)
theorem hidT_size (h:Heap) (H:Hp):(hidT h H).objs.size=h.objs.size:=PySem.W.hideAll_size _ _
theorem hidT_get {h:Heap} {H:Hp} {b:Addr} {o:Obj} (e:h.get? b=some o) (n:H b=none):(hidT h H).get? b=some o :=
 PySem.W.hideAll_get _ e fun hm=>by
  have q:(H b).isSome=true:=(List.mem_filter.mp hm).2
  rw [n] at q;simp at q
theorem of_hidT {h:Heap} {H:Hp} {b:Addr} {o:Obj} (e:(hidT h H).get? b=some o):h.get? b=some o /\ H b=none:=by
 have e':h.get? b=some o:=PySem.W.of_hideAll (trk h H) e
 refine ⟨e',?_⟩
 cases q:H b with
 | none=>rfl
 | some x=>
  have hm:b∈trk h H:=List.mem_filter.mpr ⟨yBB.mpr (Heap.lt_size e'),by simp [q]⟩
  have z:(hidT h H).get? b=none:=PySem.W.hideAll_none (trk h H) hm
  rw [z] at e;cases e
structure Mod (K:W.Frag) (mg:Str->Option Value) (base:Heap):Prop where
 kin:K.In base
 glob:base.Ns mainGlobals mg
 blt:∃ mb,base.Ns builtinsNs mb /\ ∀ x:Str,x≠"__name__"->mb x=bootBuiltins x
 nolimit:base.NoLimit
structure Cx where
 prog:Program
 w:World
 K:W.Frag
 mg:Str->Option Value
 base:Heap
 A:Around
 N:List Str
 s₀:Shared
 H₀:Hp
 env:Env
 outer:List Env
 stack:List Env
 ex:List Addr
 fn:Str->Bool
 calm:Bool
 pn:List (Addr×Obj)
 xe:Value->Shared->Prop
noncomputable def frs (l:List Env):List Addr:=l.filterMap (·.frame)
noncomputable abbrev Cx.fs (X:Cx):List Addr:=frs X.outer
noncomputable def Vis (sc:Scope) (x:Str):Prop:=sc.names.lookup x=some .local∨sc.names.lookup x=some .cell∨sc.names.lookup x=some .free
noncomputable def Loc (sc:Scope) (x:Str):Prop:=sc.names.lookup x=some .local∨sc.names.lookup x=some .cell
noncomputable def Look (env:Env) (h:Heap) (m:Str->Option Value) (x:Str) (u:Value):Prop :=
 (env.kindOf x=some .local /\ m x=some u)∨((env.kindOf x=some .cell∨env.kindOf x=some .free) /\ ∃ c,env.cells.lookup x=some c /\ h.IsCell c (some u))
structure Cx.Ok (X:Cx):Prop where
 mod:Mod X.K X.mg X.base
 kind:X.env.scope.kind=.function
 glob:X.env.globals=mainGlobals
 blt:X.env.builtins=builtinsNs
 above:X.s₀.heap.objs.size <= X.env.locals
 inj:∀ x y c,X.env.cells.lookup x=some c->X.env.cells.lookup y=some c->x=y
 has:∀ x,(X.env.kindOf x=some .cell∨X.env.kindOf x=some .free)->∃ c,X.env.cells.lookup x=some c
 cab:∀ x c,X.fn x=true->X.env.cells.lookup x=some c->X.s₀.heap.objs.size <= c
 hd:X.calm=true->X.A.handled=none
 frames:X.A.frames=some X.stack
 stk:X.stack=X.outer∨(X.stack=X.env::X.outer /\ X.env.frame=some X.env.locals)
 exf:∀ b∈X.ex,b≠X.env.locals /\ ∀ x c,X.env.cells.lookup x=some c->c≠b
 bs:∀ b o,X.base.get? b=some o->X.s₀.heap.get? b=some o /\ X.H₀ b=none
 bsz:X.base.objs.size <= X.s₀.heap.objs.size
 noex:∀ b o,X.base.get? b=some o->b∉X.ex
 exfs:∀ b∈X.ex,b∉X.fs
 funs:X.s₀.heap.FunFrames X.base X.outer
 frf:∀ b∈X.fs,X.H₀ b=none
structure Inv (X:Cx) (pins:List (Addr×Obj)) (σ:List (Option V)) (H:Hp) (s:Shared):Prop where
 ok:X.Ok
 os:s.os=X.s₀.os
 bare:AllBare s.gens
 base:Un X.fs X.ex X.H₀ H X.s₀.heap s.heap
 loc:∃ m,s.heap.Ns X.env.locals m /\ ∀ (i:Nat) (x:Str) (v:V),X.N[i]?=some x->σ[i]?=some (some v)->Vis X.env.scope x->∃ u,RelV v u /\ Look X.env s.heap m x u
 cell:∀ x c,X.env.cells.lookup x=some c->∃ v,s.heap.IsCell c v
 free:H X.env.locals=none
 freeC:∀ x c,X.env.cells.lookup x=some c->H c=none
 pin:∀ p∈X.pn++pins,s.heap.get? p.1=some p.2 /\ H p.1=none /\ p.1≠X.env.locals /\ p.1∉X.fs /\ ∀ v,p.2.data≠.cell v
 hok:HOk X.prog X.w H s.heap
 len:σ.length=X.N.length
section
variable {X:Cx} {pins:List (Addr×Obj)} {σ:List (Option V)} {H H':Hp} {s:Shared} {h':Heap}
theorem Cx.Ok.nofr (ok:X.Ok) {b:Addr} {o:Obj} (e:X.base.get? b=some o):b∉X.fs:=fun hb=>by
 have:=(ok.funs.mem hb).1
 rw [e] at this;cases this
theorem Inv.bs (I:Inv X pins σ H s):∀ b o,X.base.get? b=some o->s.heap.get? b=some o /\ H b=none:=fun b o e=>
 ⟨I.base.keep b o (I.ok.bs b o e).1 (I.ok.bs b o e).2 (I.ok.nofr e) (I.ok.noex b o e),I.base.free b o (I.ok.bs b o e).1 (I.ok.bs b o e).2 (I.ok.noex b o e)⟩
theorem Inv.bk (I:Inv X pins σ H s):∀ b o,X.base.get? b=some o->s.heap.get? b=some o:=fun b o e=>(I.bs b o e).1
theorem Inv.mod (I:Inv X pins σ H s):Mod X.K X.mg X.base:=I.ok.mod
theorem Inv.kIn (I:Inv X pins σ H s):X.K.In s.heap:=I.ok.mod.kin.keeps I.bk
theorem Inv.lt (I:Inv X pins σ H s):X.env.locals < s.heap.objs.size:=let ⟨_,hn,_⟩:=I.loc;hn.lt
theorem Inv.sz (I:Inv X pins σ H s):X.s₀.heap.objs.size <= s.heap.objs.size:=yAF I.ok.above (Nat.le_of_lt I.lt)
theorem Inv.nofs (I:Inv X pins σ H s) {a:Addr} (h:s.heap.objs.size <= a):a∉X.fs:=fun hb=>by
 obtain ⟨_,o,ho,_⟩:=I.ok.funs.mem hb
 exact absurd (yAI (Heap.lt_size ho) (yAF I.sz h)) (yBE _)
theorem Inv.cne (I:Inv X pins σ H s):∀ x c,X.env.cells.lookup x=some c->c≠X.env.locals:=fun x c e z=>by
 obtain ⟨v,o,ho,hd⟩:=I.cell x c e
 obtain ⟨m,⟨o',es,ep,ho',hd',_⟩,_⟩:=I.loc
 rw [z,ho'] at ho;cases ho;rw [hd'] at hd;cases hd
theorem Inv.funs (I:Inv X pins σ H s):s.heap.FunFrames X.base X.outer:=by
 have all:∀ (l:List Env),(∀ b∈frs l,b∈X.fs)->X.s₀.heap.FunFrames X.base l->s.heap.FunFrames X.base l:=by
  intro l
  induction l with
  | nil=>intro _ _;trivial
  | cons env r ih=>
   intro hs hl
   obtain ⟨hk,⟨L,o,hf,hn,ho,hd⟩,hr⟩:=hl
   have hL:L∈X.fs:=hs L (by unfold frs;rw [List.filterMap_cons,hf];exact yAP)
   obtain ⟨sl,e⟩:=I.base.slot L o ho (I.ok.frf L hL) hL fun z=>I.ok.exfs L z hL
   exact ⟨hk,⟨L,_,hf,hn,e,hd⟩,ih (fun b hb=>hs b (by unfold frs;rw [List.filterMap_cons,hf];exact yAT _ hb)) hr⟩
 exact all X.outer (fun _ hb=>hb) I.ok.funs
theorem Inv.stack (I:Inv X pins σ H s):s.heap.FunFrames X.base X.stack:=by
 rcases I.ok.stk with e | ⟨e,hf⟩
 .rw [e];exact I.funs
 .rw [e]
  obtain ⟨m,hn,_⟩:=I.loc
  refine .cons (by rw [I.ok.kind];decide) hf hn ?_ I.funs
  exact Heap.get?_none_of_le (yAF I.ok.bsz I.ok.above)
theorem Inv.stkSub (I:Inv X pins σ H s):∀ b∈frs X.stack,b∈X.env.locals::X.fs:=fun b hb=>by
 rcases I.ok.stk with e | ⟨e,hf⟩
 .rw [e] at hb;exact yAT _ hb
 .rw [e] at hb
  unfold frs at hb
  rw [List.filterMap_cons,hf] at hb
  exact hb
theorem Inv.stkFree (I:Inv X pins σ H s):∀ b∈frs X.stack,H b=none:=fun b hb=>by
 rcases yAR.mp (I.stkSub b hb) with e | hb
 .rw [e];exact I.free
 .obtain ⟨_,o,ho,_⟩:=I.ok.funs.mem hb
  exact I.base.free b o ho (I.ok.frf b hb) fun z=>I.ok.exfs b z hb
theorem Inv.step {g':Array GenState} {t':Nat} {d':Drawn} {ch:List Addr} (I:Inv X pins σ H s)
  (hch:∀ b∈ch,(b∈X.ex∨X.s₀.heap.objs.size <= b) /\ b≠X.env.locals /\ (∀ x c,X.env.cells.lookup x=some c->c≠b) /\ ∀ p∈X.pn++pins,p.1≠b)
  (keep:∀ b o,b≠X.env.locals->b∉X.fs->b∉ch->s.heap.get? b=some o->H b=none->h'.get? b=some o)
  (slot:∀ b o,b≠X.env.locals->b∈X.fs->b∉ch->s.heap.get? b=some o->H b=none->∃ sl,h'.get? b=some { o with slots:=sl }) (free:∀ b o,b∉ch->s.heap.get? b=some o->H b=none->H' b=none)
  (there:∀ b o,b∉ch->s.heap.get? b=some o->∃ o',h'.get? b=some o')
  (tups:∀ b xs,H b=some (.tup xs)->H' b=some (.tup xs)) (frzs:∀ b o u,H b=some (.frz o u)->H' b=some (.frz o u)) (tbls:∀ b ps,H b=some (.tbl ps)->∃ more,H' b=some (.tbl (ps++more)))
  (ns:∀ m,s.heap.Ns X.env.locals m->h'.Ns X.env.locals m) (hok:HOk X.prog X.w H' h') (hg:AllBare g') :
  Inv X pins σ H' { s with heap:=h',gens:=g',drawn:=d',toks:=t' }:=by
 have neL:∀ b o,X.s₀.heap.get? b=some o->b≠X.env.locals:=fun b o e=>yAG (yAI (Heap.lt_size e) I.ok.above)
 have neC:∀ b o,X.s₀.heap.get? b=some o->b∉X.ex->b∉ch:=fun b o e hx hb=>by
  rcases (hch b hb).1 with z | z
  .exact hx z
  .exact absurd (yAI (Heap.lt_size e) z) (yBE _)
 have cellK:∀ x c,X.env.cells.lookup x=some c->∀ v,s.heap.IsCell c v->h'.IsCell c v:=fun x c e v ⟨o,ho,hd⟩=>by
  have nch:c∉ch:=fun z=>(hch c z).2.2.1 x c e rfl
  by_cases hc:c∈X.fs
  .obtain ⟨sl,q⟩:=slot c o (I.cne x c e) hc nch ho (I.freeC x c e)
   exact ⟨_,q,hd⟩
  .exact ⟨o,keep c o (I.cne x c e) hc nch ho (I.freeC x c e),hd⟩
 refine ⟨I.ok,I.os,hg,⟨fun b o e n hb hx=>?_,fun b o e n hb hx=>?_,fun b o e n hx=>?_,fun b o e hx=>?_,fun b xs e=>tups b xs (I.base.tups b xs e),fun b o xs e=>frzs b o xs (I.base.frzs b o xs e),fun b ps e=>?_⟩,?_,fun x c e=>?_,?_,fun x c e=>?_,fun p hp=>?_,hok,I.len⟩
 .exact keep b o (neL b o e) hb (neC b o e hx) (I.base.keep b o e n hb hx) (I.base.free b o e n hx)
 .obtain ⟨sl,e1⟩:=I.base.slot b o e n hb hx
  obtain ⟨sl',e2⟩:=slot b _ (neL b o e) hb (neC b o e hx) e1 (I.base.free b o e n hx)
  exact ⟨sl',e2⟩
 .obtain ⟨o',e1⟩:=I.base.there b o e hx
  exact free b o' (neC b o e hx) e1 (I.base.free b o e n hx)
 .obtain ⟨o',e1⟩:=I.base.there b o e hx
  exact there b o' (neC b o e hx) e1
 .obtain ⟨m1,e1⟩:=I.base.tbls b ps e
  obtain ⟨m2,e2⟩:=tbls b _ e1
  exact ⟨m1++m2,by rw [e2,Array.append_assoc]⟩
 .obtain ⟨m,hn,hl⟩:=I.loc
  refine ⟨m,ns m hn,fun i x v e1 e2 e3=>?_⟩
  obtain ⟨u,r,l⟩:=hl i x v e1 e2 e3
  refine ⟨u,r,?_⟩
  rcases l with l | ⟨k,c,e,z⟩
  .exact .inl l
  .exact .inr ⟨k,c,e,cellK x c e _ z⟩
 .obtain ⟨v,z⟩:=I.cell x c e
  exact ⟨v,cellK x c e v z⟩
 .obtain ⟨m,⟨o,_,_,ho,_⟩,_⟩:=I.loc
  exact free _ o (fun z=>(hch _ z).2.1 rfl) ho I.free
 .obtain ⟨v,o,ho,hd⟩:=I.cell x c e
  exact free c o (fun z=>(hch c z).2.2.1 x c e rfl) ho (I.freeC x c e)
 .obtain ⟨e,n,ne,nf,d⟩:=I.pin p hp
  have nch:p.1∉ch:=fun z=>(hch p.1 z).2.2.2 p hp rfl
  exact ⟨keep p.1 p.2 ne nf nch e n,free p.1 p.2 nch e n,ne,nf,d⟩
theorem Inv.un {t':Nat} (I:Inv X pins σ H s) (u:Un X.fs [] H H' s.heap h') (hok:HOk X.prog X.w H' h'):Inv X pins σ H' { s with heap:=h',toks:=t' }:=by
 obtain ⟨m,⟨o,es,ep,ho,r⟩,_⟩:=id I.loc
 obtain ⟨sl,hL⟩:=u.any ho I.free (by simp)
 exact I.step (g':=s.gens) (d':=s.drawn) (ch:=[]) (fun _ z=>nomatch z) (fun b o _ hb _ e n=>u.keep b o e n hb (by simp)) (fun b o _ hb _ e n=>u.slot b o e n hb (by simp)) (fun b o _ e n=>u.free b o e n (by simp)) (fun b o _ e=>u.there b o e (by simp)) u.tups u.frzs u.tbls (fun m' hm=>by
  obtain ⟨o',es',ep',ho',r'⟩:=hm
  rw [ho] at ho';cases ho'
  exact ⟨_,es',ep',hL,r'⟩) hok I.bare
theorem Inv.call {g':Array GenState} {t':Nat} {d':Drawn} {ch:List Addr} (I:Inv X pins σ H s) (u:Un (frs X.stack) ch H H' s.heap h') (hok:HOk X.prog X.w H' h') (hg:AllBare g')
  (hch:∀ b∈ch,(b∈X.ex∨X.s₀.heap.objs.size <= b) /\ b≠X.env.locals /\ (∀ x c,X.env.cells.lookup x=some c->c≠b) /\ ∀ p∈X.pn++pins,p.1≠b) :
  Inv X pins σ H' { s with heap:=h',gens:=g',drawn:=d',toks:=t' }:=by
 obtain ⟨m,⟨o,es,ep,ho,r⟩,_⟩:=id I.loc
 obtain ⟨sl,hL⟩:=u.any ho I.free fun z=>(hch _ z).2.1 rfl
 exact I.step (ch:=ch) hch (fun b o hL hb hc e n=>u.keep b o e n (fun z=>(yAR.mp (I.stkSub b z)).elim hL hb) hc) (fun b o _ _ hc e n=>u.any e n hc) (fun b o hc e n=>u.free b o e n hc) (fun b o hc e=>u.there b o e hc) u.tups u.frzs u.tbls (fun m' hm=>by
  obtain ⟨o',es',ep',ho',r'⟩:=hm
  rw [ho] at ho';cases ho'
  exact ⟨_,es',ep',hL,r'⟩) hok hg
theorem Inv.turned {t':Nat} {it:Addr} (I:Inv X pins σ H s) (k:∀ b o,b≠it->s.heap.get? b=some o->h'.get? b=some o) (hn:H it=none) (hL:it≠X.env.locals)
  (h1:it∈X.ex∨X.s₀.heap.objs.size <= it) (h2:∀ x c,X.env.cells.lookup x=some c->c≠it) (h3:∀ p∈X.pn++pins,p.1≠it):Inv X pins σ H { s with heap:=h',toks:=t' }:=by
 have nit:∀ b u,H b=some u->b≠it:=fun b u e z=>by rw [z,hn] at e;cases e
 refine I.step (g':=s.gens) (d':=s.drawn) (ch:=[it]) (fun b hb=>?_) (fun b o _ _ hc e _=>k b o (fun z=>hc (by simp [z])) e) (fun b o _ _ hc e _=>⟨o.slots,k b o (fun z=>hc (by simp [z])) e⟩) (fun _ _ _ _ n=>n)
  (fun b o hc e=>⟨o,k b o (fun z=>hc (by simp [z])) e⟩) (fun _ _ e=>e) (fun _ _ _ e=>e) (fun b ps e=>⟨#[],by rw [e];simp⟩) (fun m hm=>?_) (fun b u e=>?_) I.bare
 .have e:b=it:=by simpa using hb
  subst e
  exact ⟨h1,hL,h2,h3⟩
 .obtain ⟨o,es,ep,ho,r⟩:=hm
  exact ⟨o,es,ep,k _ o (Ne.symm hL) ho,r⟩
 .refine (I.hok b u e).stay (fun c v hc q=>k c v ?_ q) (fun _ q=>q) fun _ _ q=>q
  rcases hc with z | z
  .rw [z];exact nit b u e
  .exact nit c _ z
theorem Inv.tok (I:Inv X pins σ H s) (t:Nat):Inv X pins σ H { s with toks:=t }:=I.un (h':=s.heap) (t':=t) Un.refl I.hok
theorem Inv.kept {t':Nat} (I:Inv X pins σ H s) (k:∀ b u,s.heap.get? b=some u->h'.get? b=some u):Inv X pins σ H { s with heap:=h',toks:=t' }:=I.un (Un.kept k) (I.hok.kept k)
theorem Inv.laid {a:Addr} {o:HO} {t':Nat} (I:Inv X pins σ H s) (k:∀ b u,s.heap.get? b=some u->h'.get? b=some u) (hp:s.heap.objs.size <= a) (new:ObjOk X.prog X.w (upd H a o) h' a o) :
  Inv X pins σ (upd H a o) { s with heap:=h',toks:=t' }:=I.un (Un.laid k hp (I.hok.fresh hp)) (I.hok.laid k hp new)
theorem Inv.write {x e:Addr} {o:HO} {t':Nat} (I:Inv X pins σ H s) (mu:Mut (H x)) (he:e=x∨H e=some (.own x)) (k:∀ b u,b≠e->s.heap.get? b=some u->h'.get? b=some u) (heo:∃ u,h'.get? e=some u)
  (new:ObjOk X.prog X.w (upd H x o) h' x o):Inv X pins σ (upd H x o) { s with heap:=h',toks:=t' }:=I.un (Un.write mu he k heo) (I.hok.write mu he k heo new)
theorem Inv.pins_of {pins':List (Addr×Obj)} (I:Inv X pins σ H s) (h:∀ p∈pins',s.heap.get? p.1=some p.2 /\ H p.1=none /\ p.1≠X.env.locals /\ p.1∉X.fs /\ ∀ v,p.2.data≠.cell v):Inv X pins' σ H s :=
 ⟨I.ok,I.os,I.bare,I.base,I.loc,I.cell,I.free,I.freeC,fun p hp=>(yAU.mp hp).elim (fun z=>I.pin p (List.mem_append_left _ z)) (h p),I.hok,I.len⟩
theorem nodup_ix {N:List Str} (hN:N.Nodup) {i j:Nat} {x:Str} (a:N[i]?=some x) (b:N[j]?=some x):i=j:=by
 obtain ⟨h1,e1⟩:=yAE.mp a
 obtain ⟨h2,e2⟩:=yAE.mp b
 exact (List.getElem_inj hN).mp (e1.trans e2.symm)
theorem store_ok2 {M:Model} {A:Around} {E:Value->Shared->Prop} {i:Nat} {x:Str} {v:V} {u:Value} {Q:Unit->Shared->Prop} (I:Inv X pins σ H s) (hN:X.N.Nodup) (hi:X.N[i]?=some x) (hx:Loc X.env.scope x) (r:RelV v u)
  (h:∀ s',Inv X pins (σ.set i (some v)) H s'->(∃ a,Heap.SameBut a s.heap s'.heap /\ (a=X.env.locals∨X.env.cells.lookup x=some a))->Q () s') (hf:X.fn x=true∨X.env.scope.names.lookup x=some .local:=by first | exact .inl rfl | exact .inr rfl | assumption):wpAny M A (storeName X.env x u) Q E s:=by
 obtain ⟨m,hn,hl⟩:=id I.loc
 have hcls:(X.env.scope.kind == .class || (X.env.scope.kind == .module && X.env.locals != X.env.globals))=false:=by rw [I.ok.kind];rfl
 have hiσ:i < σ.length:=by rw [I.len];exact (yAE.mp hi).1
 have cne:=I.cne
 have tracked:∀ {a:Addr} {h':Heap},(∃ o,s.heap.get? a=some o /\ H a=none)->Heap.SameBut a s.heap h'->HOk X.prog X.w H h':=fun {a h'} ha hs b ob e=>by
  obtain ⟨_,_,hfree⟩:=ha
  refine (I.hok b ob e).stay (fun c w' hc q=>(hs.2 c ?_).trans q) (fun _ q=>q) fun _ _ q=>q
  rintro rfl
  rcases hc with rfl | hc
  .rw [hfree] at e;cases e
  .rw [hfree] at hc;cases hc
 rcases hx with hk | hk
 .refine wpAny_storeName_local hk hn (fun h' hn' hs=>?_) hcls
  obtain ⟨oL,_,_,hoL,_⟩:=id hn
  refine h _ ⟨I.ok,I.os,I.bare,⟨fun b o e n hb hx=>?_,fun b o e n hb hx=>?_,I.base.free,fun b o e hx=>?_,I.base.tups,I.base.frzs,I.base.tbls⟩,⟨_,hn',fun j y v' e1 e2 e3=>?_⟩,fun y c e=>?_,I.free,I.freeC,fun p hp=>?_,tracked ⟨oL,hoL,I.free⟩ hs,by simpa using I.len⟩ ⟨_,hs,.inl rfl⟩
  .exact (hs.2 b (yAG (yAI (Heap.lt_size e) I.ok.above))).trans (I.base.keep b o e n hb hx)
  .obtain ⟨sl,e1⟩:=I.base.slot b o e n hb hx
   exact ⟨sl,(hs.2 b (yAG (yAI (Heap.lt_size e) I.ok.above))).trans e1⟩
  .obtain ⟨o',e1⟩:=I.base.there b o e hx
   exact ⟨o',(hs.2 b (yAG (yAI (Heap.lt_size e) I.ok.above))).trans e1⟩
  .by_cases hj:j=i
   .subst hj
    rw [hi] at e1;cases e1
    rw [List.getElem?_set_self hiσ] at e2
    cases e2
    exact ⟨u,r,.inl ⟨hk,by simp⟩⟩
   .rw [List.getElem?_set_ne (Ne.symm hj)] at e2
    obtain ⟨u',r',q⟩:=hl j y v' e1 e2 e3
    refine ⟨u',r',?_⟩
    rcases q with ⟨k,e⟩ | ⟨k,c,e,z⟩
    .refine .inl ⟨k,?_⟩
     have:y≠x:=fun e=>hj (nodup_ix hN e1 (e ▸ hi))
     simp [this,e]
    .exact .inr ⟨k,c,e,z.sameBut hs (cne y c e)⟩
  .obtain ⟨w',z⟩:=I.cell y c e
   exact ⟨w',z.sameBut hs (cne y c e)⟩
  .obtain ⟨e,n,ne,nf,d⟩:=I.pin p hp
   exact ⟨(hs.2 p.1 ne).trans e,n,ne,nf,d⟩
 .have hfn:X.fn x=true:=by
   rcases hf with z | z
   .exact z
   .rw [z] at hk;cases hk
  obtain ⟨c,hc⟩:=I.ok.has x (.inl hk)
  obtain ⟨w',z⟩:=I.cell x c hc
  refine wpAny_storeName_cell I.ok.kind hk hc z (fun h' hc' hs=>?_)
  obtain ⟨oc,hoc,hocd⟩:=id z
  refine h { s with heap:=h' } ⟨I.ok,I.os,I.bare,⟨fun b o e n hb hx=>?_,fun b o e n hb hx=>?_,I.base.free,fun b o e hx=>?_,I.base.tups,I.base.frzs,I.base.tbls⟩,⟨m,hn.sameBut hs (Ne.symm (cne x c hc)),fun j y v' e1 e2 e3=>?_⟩,fun y c' e=>?_,I.free,I.freeC,fun p hp=>?_,tracked ⟨oc,hoc,I.freeC x c hc⟩ hs,by simpa using I.len⟩ ⟨c,hs,.inr hc⟩
  .exact (hs.2 b (yAG (yAI (Heap.lt_size e) (I.ok.cab x c hfn hc)))).trans (I.base.keep b o e n hb hx)
  .obtain ⟨sl,e1⟩:=I.base.slot b o e n hb hx
   exact ⟨sl,(hs.2 b (yAG (yAI (Heap.lt_size e) (I.ok.cab x c hfn hc)))).trans e1⟩
  .obtain ⟨o',e1⟩:=I.base.there b o e hx
   exact ⟨o',(hs.2 b (yAG (yAI (Heap.lt_size e) (I.ok.cab x c hfn hc)))).trans e1⟩
  .by_cases hj:j=i
   .subst hj
    rw [hi] at e1;cases e1
    rw [List.getElem?_set_self hiσ] at e2
    cases e2
    exact ⟨u,r,.inr ⟨.inl hk,c,hc,hc'⟩⟩
   .rw [List.getElem?_set_ne (Ne.symm hj)] at e2
    obtain ⟨u',r',q⟩:=hl j y v' e1 e2 e3
    refine ⟨u',r',?_⟩
    rcases q with q | ⟨k,c',e,z'⟩
    .exact .inl q
    .refine .inr ⟨k,c',e,z'.sameBut hs ?_⟩
     rintro rfl
     exact hj (nodup_ix hN e1 (I.ok.inj _ _ _ e hc ▸ hi))
  .by_cases hcc:c'=c
   .subst hcc;exact ⟨_,hc'⟩
   .obtain ⟨w2,z2⟩:=I.cell y c' e
    exact ⟨w2,z2.sameBut hs hcc⟩
  .obtain ⟨e,n,ne,nf,d⟩:=I.pin p hp
   refine ⟨(hs.2 p.1 ?_).trans e,n,ne,nf,d⟩
   intro q
   rw [q,hoc] at e
   have q':oc=p.2:=Option.some.inj e
   exact d w' (by rw [<- q'];exact hocd)
theorem ZCg {M:Model} {A:Around} {E:Value->Shared->Prop} {i:Nat} {x:Str} {v:V} {u:Value} {Q:Unit->Shared->Prop} (I:Inv X pins σ H s) (hN:X.N.Nodup) (hi:X.N[i]?=some x) (hx:Loc X.env.scope x) (r:RelV v u)
  (h:∀ s',Inv X pins (σ.set i (some v)) H s'->Q () s') (hf:X.fn x=true∨X.env.scope.names.lookup x=some .local:=by first | exact .inl rfl | exact .inr rfl | assumption):wpAny M A (storeName X.env x u) Q E s :=
 store_ok2 I hN hi hx r (fun s' I' _=>h s' I') hf
theorem Inv.call' {s':Shared} {ch:List Addr} (I:Inv X pins σ H s) (ho:s'.os=s.os) (u:Un (frs X.stack) ch H H' s.heap s'.heap) (hok:HOk X.prog X.w H' s'.heap) (hg:AllBare s'.gens)
  (hch:∀ b∈ch,(b∈X.ex∨X.s₀.heap.objs.size <= b) /\ b≠X.env.locals /\ (∀ x c,X.env.cells.lookup x=some c->c≠b) /\ ∀ p∈X.pn++pins,p.1≠b):Inv X pins σ H' s':=by
 obtain ⟨h',g',d',t',o'⟩:=s'
 have e:o'=s.os:=ho
 subst e
 exact I.call (g':=g') (t':=t') (d':=d') u hok hg hch
end
noncomputable abbrev XK:=Value->Option Addr->Hp->Prop
noncomputable abbrev St:=List (Option V)
noncomputable abbrev VK:=V->Hp->Prop
noncomputable abbrev TE:=St->Hp->VK->Prop
noncomputable abbrev TT:=St->Hp->(Bool->Hp->Prop)->Prop
noncomputable abbrev TA:=St->Hp->(List V->Hp->Prop)->Prop
structure Ends where
 nx:St->Hp->Prop
 rt:VK
 bk:St->Hp->Prop:=fun _ _=>False
 ct:St->Hp->Prop:=fun _ _=>False
noncomputable abbrev TS:=Ends->St->Hp->Prop
noncomputable def EP (X:Cx) (pins:List (Addr×Obj)) (σ:St) (Q:VK) (u:Value) (s':Shared):Prop:=∃ v H',Inv X pins σ H' s' /\ RelV v u /\ Q v H'
noncomputable def TP (X:Cx) (pins:List (Addr×Obj)) (σ:St) (Q:Bool->Hp->Prop) (b:Bool) (s':Shared):Prop:=∃ H',Inv X pins σ H' s' /\ Q b H'
noncomputable def AP (X:Cx) (pins:List (Addr×Obj)) (σ:St) (Q:List V->Hp->Prop) (us:List Value) (s':Shared):Prop:=∃ vs H',Inv X pins σ H' s' /\ Vals vs us /\ Q vs H'
noncomputable def SP (X:Cx) (pins:List (Addr×Obj)) (D:Ends) (f:Flow) (s':Shared):Prop :=
 match f with
 | .next=>∃ σ' H',Inv X pins σ' H' s' /\ D.nx σ' H'
 | .brk=>∃ σ' H',Inv X pins σ' H' s' /\ D.bk σ' H'
 | .cont=>∃ σ' H',Inv X pins σ' H' s' /\ D.ct σ' H'
 | .ret u=>∃ v σ' H',Inv X pins σ' H' s' /\ RelV v u /\ D.rt v H'
noncomputable def PE (X:Cx) (e:Expr) (t:TE):Prop :=
 ∀ (pins:List (Addr×Obj)) (s:Shared) (σ:St) (H:Hp) (Q:VK),Inv X pins σ H s->t σ H Q->wpAny (model X.prog X.w) X.A (eval e X.env) (EP X pins σ Q) X.xe s
noncomputable def PT (X:Cx) (e:Expr) (t:TT):Prop :=
 ∀ (pins:List (Addr×Obj)) (s:Shared) (σ:St) (H:Hp) (Q:Bool->Hp->Prop),Inv X pins σ H s->t σ H Q->wpAny (model X.prog X.w) X.A (isTrue e X.env (eval e X.env)) (TP X pins σ Q) X.xe s
noncomputable def PW (X:Cx) (e:Expr) (t:TT):Prop :=
 ∀ (whole:Sem Value) (pins:List (Addr×Obj)) (s:Shared) (σ:St) (H:Hp) (Q:Bool->Hp->Prop),Inv X pins σ H s->t σ H Q->wpAny (model X.prog X.w) X.A (isTrue e X.env whole) (TP X pins σ Q) X.xe s
theorem PW.pt {X:Cx} {e:Expr} {t:TT} (h:PW X e t):PT X e t:=h _
noncomputable def PA (X:Cx) (es:List Expr) (t:TA):Prop :=
 ∀ (pos:Pos) (pins:List (Addr×Obj)) (s:Shared) (σ:St) (H:Hp) (Q:List V->Hp->Prop),Inv X pins σ H s->t σ H Q->wpAny (model X.prog X.w) X.A (spliced (backTo pos (starEach es X.env))) (AP X pins σ Q) X.xe s
noncomputable def PS (X:Cx) (st:Stmt) (t:TS):Prop :=
 ∀ (pins:List (Addr×Obj)) (s:Shared) (σ:St) (H:Hp) (D:Ends),Inv X pins σ H s->t D σ H->wpAny (model X.prog X.w) X.A (exec st X.env) (SP X pins D) X.xe s
noncomputable def PSs (X:Cx) (st:List Stmt) (t:TS):Prop :=
 ∀ (pins:List (Addr×Obj)) (s:Shared) (σ:St) (H:Hp) (D:Ends),Inv X pins σ H s->t D σ H->wpAny (model X.prog X.w) X.A (execs st X.env) (SP X pins D) X.xe s
theorem thn {α:Type} {t:Sem α} {Q Q':α->Shared->Prop} {M:Model} {A:Around} {E:Value->Shared->Prop} {s:Shared} (h:wpAny M A t Q E s) (hQ:∀ a s,Q a s->Q' a s):wpAny M A t Q' E s:=wpAny_mono h hQ fun _ _ x=>x
section
variable {X:Cx}
noncomputable def tVar (i:Nat):TE:=fun σ H Q=>∃ v,σ[i]?=some (some v) /\ Q v H
noncomputable def tC (v:V):TE:=fun _ H Q=>Q v H
theorem pe_var {i:Nat} {x:Str} {pos:Pos} (hN:X.N[i]?=some x) (hv:Vis X.env.scope x) (hd:(x == ("__debug__":Str))=false:=by decide) (hcd:(x == ("__classdict__":Str))=false:=by decide):PE X (.Name x pos) (tVar i):=by
 intro pins s σ H Q I h
 obtain ⟨v,e,h⟩:=h
 obtain ⟨m,hn,hl⟩:=I.loc
 obtain ⟨u,r,l⟩:=hl i x v hN e hv
 have fin:EP X pins σ Q u s:=⟨v,H,I,r,h⟩
 rcases l with ⟨hk,hm⟩ | ⟨hk,c,hc,hcell⟩
 .exact wpAny_Name (wpAny_loadName_local I.ok.kind hk hn hm fin) hd
 .rcases hk with hk | hk
  .exact wpAny_Name (wpAny_loadName_cell I.ok.kind hk hc hcell fin) hd
  .exact wpAny_Name (wpAny_loadName_free I.ok.kind hk hc hcell fin hcd) hd
theorem ZAE {i j pos}:PE X (.Constant (.int i) j pos) (tC (.int i)):=fun _ _ _ H _ I h=>wpAny_Constant_int ⟨.int i,H,I.tok _,⟨_,rfl⟩,h⟩
theorem ZCG {b j pos}:PE X (.Constant (.bool b) j pos) (tC (.bl b)):=fun _ _ _ H _ I h=>Constant_bool ⟨.bl b,H,I,rfl,h⟩
theorem ZDs {j pos}:PE X (.Constant .none j pos) (tC .non):=fun _ _ _ H _ I h=>Constant_none ⟨.non,H,I,rfl,h⟩
theorem ZBh {x j pos}:PE X (.Constant (.str x) j pos) (tC (.str x)):=fun _ _ _ H _ I h=>Calls.Constant_str ⟨.str x,H,I.tok _,⟨_,rfl⟩,h⟩
noncomputable def Gl (X:Cx) (x:Str):Prop:=X.env.kindOf x=some .globalImplicit
theorem ZDl {E:Value->Shared->Prop} {pins:List (Addr×Obj)} {s:Shared} {σ:St} {H:Hp} {x:Str} {u:Value} {pos:Pos} {Q:Value->Shared->Prop} (I:Inv X pins σ H s) (hg:Gl X x) (hm:X.mg x=some u) (h:Q u s)
  (hd:(x == ("__debug__":Str))=false:=by decide):wpAny (model X.prog X.w) X.A (eval (.Name x pos) X.env) Q E s :=
 Calls.Name_function_global I.ok.kind hg (Calls.loadGlobal_global (by rw [I.ok.glob];exact I.mod.glob.keeps I.bk) hm h) hd
theorem ZDW {E:Value->Shared->Prop} {pins:List (Addr×Obj)} {s:Shared} {σ:St} {H:Hp} {x:Str} {u:Value} {pos:Pos} {Q:Value->Shared->Prop} (I:Inv X pins σ H s) (hg:Gl X x) (hm:X.mg x=none) (hv:bootBuiltins x=some u) (h:Q u s)
  (hn:x≠"__name__":=by decide) (hd:(x == ("__debug__":Str))=false:=by decide):wpAny (model X.prog X.w) X.A (eval (.Name x pos) X.env) Q E s:=by
 obtain ⟨mb,h1,h2⟩:=I.mod.blt
 exact Calls.Name_function_global I.ok.kind hg (Calls.loadGlobal_builtin (by rw [I.ok.glob];exact I.mod.glob.keeps I.bk) hm (by rw [I.ok.blt];exact h1.keeps I.bk) ((h2 x hn).trans hv) h) hd
theorem pe_glob {x:Str} {v:V} {u:Value} {pos:Pos} (hg:Gl X x) (hm:X.mg x=some u) (r:RelV v u) (hd:(x == ("__debug__":Str))=false:=by decide):PE X (.Name x pos) (tC v) :=
 fun _ _ _ H _ I h=>ZDl I hg hm ⟨v,H,I,r,h⟩ hd
theorem pe_bltn {x:Str} {v:V} {u:Value} {pos:Pos} (hg:Gl X x) (hm:X.mg x=none) (hv:bootBuiltins x=some u) (r:RelV v u) (hn:x≠"__name__":=by decide) (hd:(x == ("__debug__":Str))=false:=by decide):PE X (.Name x pos) (tC v) :=
 fun _ _ _ H _ I h=>ZDW I hg hm hv ⟨v,H,I,r,h⟩ hn hd
variable {a b:Expr} {ta tb:TE} {pos:Pos}
noncomputable def tB (t:TE):TT:=fun σ H Q=>t σ H fun x H1=>∃ c,x=.bl c /\ Q c H1
theorem ZBZ {e:Expr} {t:TE} (h:PE X e t) (he:∀ whole,isTrue e X.env whole=(do let v <- whole;standAt e.pos;holding [v] (truthy v)):=by intro _;rfl):PT X e (tB t):=by
 intro pins s σ H Q I hw
 refine isTrue_plain (thn (h pins s σ H _ I hw) fun v s1 zz=>?_) (he _)
 obtain ⟨x,H1,I1,r1,q1⟩:=zz
 obtain ⟨d,rfl,q⟩:=q1
 cases r1
 exact wpAny_truthy_bool ⟨H1,I1,q⟩
variable {tA tB':TT} {rest:List Expr}
noncomputable def tAnd (t u:TT):TT:=fun σ H Q=>t σ H fun c H1=>if c=true then u σ H1 Q else Q false H1
noncomputable def tOr (t u:TT):TT:=fun σ H Q=>t σ H fun c H1=>if c=true then Q true H1 else u σ H1 Q
noncomputable def tNot (t:TT):TT:=fun σ H Q=>t σ H fun c H1=>Q (!c) H1
theorem ZDj (ha:PT X a tA):PW X (.BoolOp .And [a] pos) tA:=by
 intro wh pins s σ H Q I h
 refine isTrue_and (thn (ha pins s σ H Q I h) fun c s1 e=>?_)
 cases c with
 | true=>exact isTrue_and_nil e
 | false=>exact e
theorem ZCr (ha:PT X a tA):PW X (.BoolOp .Or [a] pos) tA:=by
 intro wh pins s σ H Q I h
 refine isTrue_or (thn (ha pins s σ H Q I h) fun c s1 e=>?_)
 cases c with
 | false=>exact isTrue_or_nil e
 | true=>exact e
theorem ZEA (ha:PT X a tA) (hb:PW X (.BoolOp .And (b::rest) pos) tB'):PW X (.BoolOp .And (a::b::rest) pos) (tAnd tA tB'):=by
 intro wh pins s σ H Q I h
 refine isTrue_and (thn (ha pins s σ H _ I h) fun c s1 ⟨H1,I1,q1⟩=>?_)
 cases c with
 | true=>exact hb wh pins s1 σ H1 Q I1 q1
 | false=>exact ⟨H1,I1,q1⟩
theorem ZCx (ha:PT X a tA) (hb:PW X (.BoolOp .Or (b::rest) pos) tB'):PW X (.BoolOp .Or (a::b::rest) pos) (tOr tA tB'):=by
 intro wh pins s σ H Q I h
 refine isTrue_or (thn (ha pins s σ H _ I h) fun c s1 ⟨H1,I1,q1⟩=>?_)
 cases c with
 | true=>exact ⟨H1,I1,q1⟩
 | false=>exact hb wh pins s1 σ H1 Q I1 q1
theorem ZCs (ha:PT X a tA):PT X (.UnaryOp .Not a pos) (tNot tA):=by
 intro pins s σ H Q I h
 exact isTrue_not (ha pins s σ H (fun c H1=>Q (!c) H1) I h)
noncomputable def ZEO (ta tb:TE):TE:=fun σ H Q=>ta σ H fun x H1=>∃ c,x=.bl c /\ if c=true then tb σ H1 Q else Q (.bl false) H1
noncomputable def tOrV (ta tb:TE):TE:=fun σ H Q=>ta σ H fun x H1=>∃ c,x=.bl c /\ if c=true then Q (.bl true) H1 else tb σ H1 Q
noncomputable def ZEL (ta:TE):TE:=fun σ H Q=>ta σ H fun x H1=>∃ c,x=.bl c /\ Q (.bl (!c)) H1
theorem ZCd {op} {t:TE} (h:PE X a t):PE X (.BoolOp op [a] pos) t:=fun pins s σ H Q I hw=>BoolOp_one (h pins s σ H Q I hw)
theorem ZBt (ha:PE X a ta) (hb:PE X (.BoolOp .And (b::rest) pos) tb):PE X (.BoolOp .And (a::b::rest) pos) (ZEO ta tb):=by
 intro pins s σ H Q I h
 refine BoolOp_and (thn (ha pins s σ H _ I h) fun v s1 zz=>?_)
 obtain ⟨x,H1,I1,r1,q1⟩:=zz
 obtain ⟨c,rfl,q1⟩:=q1
 cases r1
 refine wpAny_truthy_bool ?_
 cases c with
 | true=>exact hb pins s1 σ H1 Q I1 q1
 | false=>exact ⟨.bl false,H1,I1,rfl,q1⟩
theorem ZDr (ha:PE X a ta):PE X (.UnaryOp .Not a pos) (ZEL ta):=by
 intro pins s σ H Q I h
 refine UnaryOp_ (thn (ha pins s σ H _ I h) fun v s1 zz=>?_)
 obtain ⟨x,H1,I1,r1,q1⟩:=zz
 obtain ⟨c,rfl,q1⟩:=q1
 cases r1
 exact not_of (wpAny_truthy_bool ⟨.bl (!c),H1,I1,rfl,q1⟩)
noncomputable def tIf (t:TT) (ta tb:TE):TE:=fun σ H Q=>t σ H fun c H1=>if c=true then ta σ H1 Q else tb σ H1 Q
theorem ZDJ {c:Expr} (hc:PT X c tA) (ha:PE X a ta) (hb:PE X b tb):PE X (.IfExp c a b pos) (tIf tA ta tb):=by
 intro pins s σ H Q I h
 refine wpAny_IfExp (thn (hc pins s σ H _ I h) fun d s1 ⟨H1,I1,q1⟩=>?_)
 cases d with
 | true=>exact ha pins s1 σ H1 Q I1 q1
 | false=>exact hb pins s1 σ H1 Q I1 q1
end
noncomputable def SqL (K:W.Frag) (H:Hp) (a:Addr) (xs:List V):Prop :=
 Rd H a (.lst xs) ∨
  ∃ (o:Obj) (its:Array Value) (n:Nat),K.lookup a=some o /\ o.cls=.type "list" /\ o.dict=none /\ o.data=.seq its n /\ its.size <= sizeLine /\ Vals xs its.toList
noncomputable def SqT (K:W.Frag) (H:Hp) (a:Addr) (xs:List V):Prop :=
 Rd H a (.tup xs) ∨
  ∃ (o:Obj) (its:Array Value) (n:Nat),K.lookup a=some o /\ o.cls=.type "tuple" /\ o.data=.seq its n /\ its.size <= sizeLine /\ Vals xs its.toList
noncomputable def absV:Value->Option V
 | .none=>some .non
 | .bool b=>some (.bl b)
 | .int i _=>some (.int i)
 | .str x _=>some (.str x)
 | .bytes b _=>some (.byt b)
 | .float b _=>some (.flt b)
 | .ref a=>some (.ref a)
 | .type n=>some (.ty n)
 | _=>none
theorem RelV.abs {x:V} {u:Value} (r:RelV x u):absV u=some x:=by
 cases x with
 | non=>cases r;rfl
 | bl _=>cases r;rfl
 | int _=>obtain ⟨t,rfl⟩:=r;rfl
 | str _=>obtain ⟨t,rfl⟩:=r;rfl
 | byt _=>obtain ⟨t,rfl⟩:=r;rfl
 | flt _=>obtain ⟨t,rfl⟩:=r;rfl
 | ref _=>cases r;rfl
 | ty _=>cases r;rfl
theorem RelV.inj {x y:V} {u:Value} (r:RelV x u) (q:RelV y u):x=y:=Option.some.inj (r.abs.symm.trans q.abs)
theorem Vals.inj:∀ {xs ys:List V} {us:List Value},Vals xs us->Vals ys us->xs=ys
 | _,_,_,.nil,.nil=>rfl
 | _,_,_,.cons r t,.cons r' t'=>by rw [r.inj r',Vals.inj t t']
section
variable {X:Cx} {pins:List (Addr×Obj)} {σ:St} {H:Hp} {s:Shared} {a:Addr} {xs ys:List V}
theorem SqL.of {K:W.Frag} (h:H a=some (.lst xs)):SqL K H a xs:=.inl (.inl h)
theorem SqT.of {K:W.Frag} (h:H a=some (.tup xs)):SqT K H a xs:=.inl (.inl h)
theorem Inv.list (I:Inv X pins σ H s) (h:SqL X.K H a xs):∃ its:List Value,Vals xs its /\ PlainL s.heap a its.toArray /\ xs.length <= sizeLine:=by
 rcases h with h | ⟨o,its,n,hk,hc,hd,hs,hz,r⟩
 .obtain ⟨z,its,n,r,e⟩:=h.ok I.hok
  exact ⟨its,r,⟨_,n,e,rfl,rfl,rfl⟩,z⟩
 .refine ⟨its.toList,r,⟨o,n,I.kIn a o hk,hc,hd,by simpa using hs⟩,?_⟩
  have e:=r.length
  simp only [Array.length_toList] at e
  omega
theorem Inv.tuple (I:Inv X pins σ H s) (h:SqT X.K H a xs):∃ its:List Value,Vals xs its /\ IsTup s.heap a its.toArray /\ xs.length <= sizeLine:=by
 rcases h with h | ⟨o,its,n,hk,hc,hs,hz,r⟩
 .obtain ⟨z,its,r,p⟩:=h.ok I.hok
  exact ⟨its,r,p,z⟩
 .refine ⟨its.toList,r,⟨o,I.kIn a o hk,hc,n,by simpa using hs⟩,?_⟩
  have e:=r.length
  simp only [Array.length_toList] at e
  omega
theorem Inv.list_inj (I:Inv X pins σ H s) (h:SqL X.K H a xs) (h':SqL X.K H a ys):xs=ys:=by
 obtain ⟨its,r,⟨o,n,e,_,_,d⟩,_⟩:=I.list h
 obtain ⟨its',r',⟨o',n',e',_,_,d'⟩,_⟩:=I.list h'
 rw [e] at e';cases e'
 rw [d] at d'
 injection d' with d1 _
 have:its=its':=by simpa using congrArg Array.toList d1
 subst this
 exact r.inj r'
theorem Inv.tuple_inj (I:Inv X pins σ H s) (h:SqT X.K H a xs) (h':SqT X.K H a ys):xs=ys:=by
 obtain ⟨its,r,⟨o,e,_,n,d⟩,_⟩:=I.tuple h
 obtain ⟨its',r',⟨o',e',_,n',d'⟩,_⟩:=I.tuple h'
 rw [e] at e';cases e'
 rw [d] at d'
 injection d' with d1 _
 have:its=its':=by simpa using congrArg Array.toList d1
 subst this
 exact r.inj r'
end
noncomputable abbrev Cx.wish (X:Cx) (E:Value->Shared->Prop):Cx:={ X with xe:=E }
noncomputable abbrev Cx.nox (X:Cx):Cx:=X.wish fun _ _=>False
theorem Cx.Ok.wish {X:Cx} (ok:X.Ok) (E:Value->Shared->Prop):(X.wish E).Ok :=
 ⟨ok.mod,ok.kind,ok.glob,ok.blt,ok.above,ok.inj,ok.has,ok.cab,ok.hd,ok.frames,ok.stk,ok.exf,ok.bs,ok.bsz,ok.noex,ok.exfs,ok.funs,ok.frf⟩
theorem Cx.Ok.unwish {X:Cx} {E:Value->Shared->Prop} (ok:(X.wish E).Ok):X.Ok :=
 ⟨ok.mod,ok.kind,ok.glob,ok.blt,ok.above,ok.inj,ok.has,ok.cab,ok.hd,ok.frames,ok.stk,ok.exf,ok.bs,ok.bsz,ok.noex,ok.exfs,ok.funs,ok.frf⟩
section
variable {X:Cx} {pins:List (Addr×Obj)} {σ:St} {H:Hp} {s:Shared} {E:Value->Shared->Prop}
theorem Inv.wish (I:Inv X pins σ H s) (E:Value->Shared->Prop):Inv (X.wish E) pins σ H s:=⟨I.ok.wish E,I.os,I.bare,I.base,I.loc,I.cell,I.free,I.freeC,I.pin,I.hok,I.len⟩
theorem Inv.unwish (I:Inv (X.wish E) pins σ H s):Inv X pins σ H s:=⟨I.ok.unwish,I.os,I.bare,I.base,I.loc,I.cell,I.free,I.freeC,I.pin,I.hok,I.len⟩
theorem SP.unwish {D:Ends} {f:Flow} {s':Shared} (h:SP (X.wish E) pins D f s'):SP X pins D f s':=by
 cases f with
 | next=>obtain ⟨σ',H',I,q⟩:=h;exact ⟨σ',H',I.unwish,q⟩
 | brk=>obtain ⟨σ',H',I,q⟩:=h;exact ⟨σ',H',I.unwish,q⟩
 | cont=>obtain ⟨σ',H',I,q⟩:=h;exact ⟨σ',H',I.unwish,q⟩
 | ret u=>obtain ⟨v,σ',H',I,r,q⟩:=h;exact ⟨v,σ',H',I.unwish,r,q⟩
theorem PSs.nox {st:List Stmt} {t:TS} (h:PSs X.nox st t):PSs X st t:=fun pins s σ H D I hw=>
 wpAny_mono (h pins s σ H D (I.wish _) hw) (fun _ _ q=>q.unwish) fun _ _ z=>False.elim z
end
section
variable {X:Cx} {st:Stmt} {rest:List Stmt} {t u:TS} {e:Expr} {te:TE} {pos:Pos}
noncomputable def ZEM:TS:=fun D σ H=>D.nx σ H
noncomputable def tSeq (t u:TS):TS:=fun D σ H=>t { D with nx:=u D } σ H
theorem ZAV:PSs X [] ZEM:=fun _ _ σ H _ I h=>wpAny_execs_nil ⟨σ,H,I,h⟩
theorem ZAD (h1:PS X st t) (h2:PSs X rest u):PSs X (st::rest) (tSeq t u):=by
 intro pins s σ H D I h
 refine wpAny_execs_cons (thn (h1 pins s σ H { D with nx:=u D } I h) fun f s1 q=>?_)
 cases f with
 | next=>
  obtain ⟨σ',H',I',q⟩:=q
  exact h2 pins s1 σ' H' D I' q
 | ret v=>exact q
 | brk=>exact q
 | cont=>exact q
theorem ZAF (h1:PS X st t):PSs X [st] t:=by
 intro pins s σ H D I h
 refine wpAny_execs_cons (thn (h1 pins s σ H D I h) fun f s1 q=>?_)
 cases f with
 | next=>exact wpAny_execs_nil q
 | ret v=>exact q
 | brk=>exact q
 | cont=>exact q
theorem Inv.quiet {pins:List (Addr×Obj)} {σ:St} {H:Hp} {s:Shared} (I:Inv X pins σ H s):interactive X.env=false:=by simp [interactive,I.ok.kind]
noncomputable def ZEN (te:TE):TS:=fun D σ H=>te σ H fun _ H1=>D.nx σ H1
theorem ZBW (he:PE X e te) (hs:swapsWith e none pos.line X.env=pure false:=by rfl):PS X (.Expr e pos) (ZEN te):=by
 intro pins s σ H D I h
 exact wpAny_Expr_any (thn (he pins s σ H _ I h) fun v s1 ⟨x,H1,I1,r1,q1⟩=>⟨σ,H1,I1,q1⟩) I.quiet hs
noncomputable def tRet (te:TE):TS:=fun D σ H=>te σ H D.rt
theorem ZAR (he:PE X e te):PS X (.Return (some e) pos) (tRet te):=by
 intro pins s σ H D I h
 exact wpAny_Return_some (thn (he pins s σ H _ I h) fun v s1 ⟨x,H1,I1,r1,q1⟩=>⟨x,σ,H1,I1,r1,q1⟩)
noncomputable def tRetN:TS:=fun D _ H=>D.rt .non H
noncomputable def tIfS (c:TT) (t u:TS):TS:=fun D σ H=>c σ H fun b H1=>if b=true then t D σ H1 else u D σ H1
theorem ZA0 {c:Expr} {a b:List Stmt} {tc:TT} (hc:PT X c tc) (ha:PSs X a t) (hb:PSs X b u):PS X (.If c a b pos) (tIfS tc t u):=by
 intro pins s σ H D I h
 refine wpAny_If (thn (hc pins s σ H _ I h) fun d s1 ⟨H1,I1,q1⟩=>?_)
 cases d with
 | true=>exact ha pins s1 σ H1 D I1 q1
 | false=>exact hb pins s1 σ H1 D I1 q1
noncomputable def ZD2:TS:=fun _ _ _=>False
theorem ZCP:PS X st ZD2:=fun _ _ _ _ _ _ h=>h.elim
end
noncomputable abbrev TG:=V->St->Hp->(St->Hp->Prop)->Prop
noncomputable abbrev TGs:=List V->St->Hp->(St->Hp->Prop)->Prop
noncomputable def PG (X:Cx) (target:Expr) (t:TG):Prop :=
 ∀ (pins:List (Addr×Obj)) (s:Shared) (σ:St) (H:Hp) (v:V) (u:Value) (Q:St->Hp->Prop),Inv X pins σ H s->RelV v u->t v σ H Q ->
  wpAny (model X.prog X.w) X.A (assign target X.env u) (fun _ s'=>∃ σ' H',Inv X pins σ' H' s' /\ Q σ' H') X.xe s
noncomputable def PGs (X:Cx) (ts:List Expr) (t:TGs):Prop :=
 ∀ (pins:List (Addr×Obj)) (s:Shared) (σ:St) (H:Hp) (vs:List V) (us:List Value) (Q:St->Hp->Prop),Inv X pins σ H s->Vals vs us->t vs σ H Q ->
  wpAny (model X.prog X.w) X.A (assignInOrder ((assignEach ts X.env).map (·.2)) us) (fun _ s'=>∃ σ' H',Inv X pins σ' H' s' /\ Q σ' H') X.xe s
noncomputable abbrev TSet:=V->V->V->Hp->(Hp->Prop)->Prop
noncomputable def PSet (X:Cx) (t:TSet):Prop :=
 ∀ (pins:List (Addr×Obj)) (s:Shared) (σ:St) (H:Hp) (o i v:V) (ov iv u:Value) (Q:Hp->Prop),Inv X pins σ H s->RelV o ov->RelV i iv->RelV v u->t o i v H Q ->
  wpAny (model X.prog X.w) X.A (setItem ov iv u) (fun _ s'=>∃ H',Inv X pins σ H' s' /\ Q H') X.xe s
noncomputable abbrev TIp:=V->V->Hp->VK->Prop
section
variable {X:Cx} {pos:Pos}
noncomputable def ZD0 (i:Nat):TG:=fun v σ H Q=>Q (σ.set i (some v)) H
theorem ZAK {i:Nat} {x:Str} (hN:X.N.Nodup) (hi:X.N[i]?=some x) (hx:Loc X.env.scope x) (hf:X.fn x=true∨X.env.scope.names.lookup x=some .local:=by first | exact .inl rfl | exact .inr rfl | assumption):PG X (.Name x pos) (ZD0 i):=by
 intro pins s σ H v u Q I r h
 exact wpAny_assign_Name (ZCg I hN hi hx r (fun s' I'=>⟨_,H,I',h⟩) hf)
noncomputable def gNil:TGs:=fun vs σ H Q=>vs=[] /\ Q σ H
noncomputable def ZEV (t:TG) (u:TGs):TGs:=fun vs σ H Q=>∃ v r,vs=v::r /\ t v σ H fun σ' H'=>u r σ' H' Q
theorem ZB6:PGs X [] gNil:=by
 intro pins s σ H vs us Q I r h
 obtain ⟨e,h⟩:=h
 subst e
 cases r
 exact assignInOrder_nil ⟨σ,H,I,h⟩
theorem ZA1 {e:Expr} {es:List Expr} {t:TG} {u:TGs} (h1:PG X e t) (h2:PGs X es u)
  (hs:(assignEach (e::es) X.env).map (·.2)=assign e X.env::(assignEach es X.env).map (·.2):=by rfl):PGs X (e::es) (ZEV t u):=by
 intro pins s σ H vs us Q I r h
 obtain ⟨v,vr,e1,h⟩:=h
 subst e1
 cases r with
 | cons r rr=>
  rw [hs]
  refine assignInOrder_cons (thn (h1 pins s σ H _ _ _ I r h) fun _ s1 zz=>?_)
  obtain ⟨σ1,H1,I1,q1⟩:=zz
  exact h2 pins s1 σ1 H1 _ _ Q I1 rr q1
noncomputable def gTup (K:W.Frag) (n:Nat) (t:TGs):TG:=fun v σ H Q=>∃ a xs,v=.ref a /\ SqT K H a xs /\ xs.length=n /\ t xs σ H Q
theorem ZCc {es:List Expr} {k:Nat} {t:TGs} {n:Nat} (hc:X.calm=true) (h:PGs X es t)
  (hn:(assignEach es X.env).length=n:=by rfl) (hst:(assignEach es X.env).findIdx? (·.1)=none:=by rfl):PG X (.Tuple es k pos) (gTup X.K n t):=by
 intro pins s σ H v u Q I r hw
 obtain ⟨a,xs,e1,hq,hl,hw⟩:=hw
 subst e1
 cases r
 obtain ⟨its,rv,ht,hz⟩:=I.tuple hq
 refine assign_Tuple_tuple (I.ok.hd hc) ht (by simp [hn,<- hl,rv.length]) hst fun h' hx=>?_
 have I1:Inv X pins σ H { s with heap:=h' }:=I.kept (t':=s.toks) fun b o e=>hx b o (yAG (Heap.lt_size e)) e
 exact h pins _ σ H xs _ Q I1 (by simpa using rv) hw
noncomputable def gSub (to ti:TE) (t:TSet):TG:=fun v σ H Q=>to σ H fun o H1=>ti σ H1 fun i H2=>t o i v H2 fun H3=>Q σ H3
theorem pg_sub {o i:Expr} {to ti:TE} {t:TSet} (ho:PE X o to) (hi:PE X i ti) (hs:PSet X t)
  (ha:∀ v,assign (.Subscript o i pos) X.env v=(do
   let ov <- holding [v] (eval o X.env)
   let iv <- holding [v,ov] (eval i X.env)
   standAt pos
   holding [v,ov,iv] (setItem ov iv v)
   release [v,ov,iv] []):=by intro _;rfl):PG X (.Subscript o i pos) (gSub to ti t):=by
 intro pins s σ H v u Q I r h
 rw [ha]
 refine wpAny_bind (wpAny_holding (thn (ho pins s σ H _ I h) fun ov s1 zz=>?_))
 obtain ⟨x,H1,I1,r1,q1⟩:=zz
 refine wpAny_bind (wpAny_holding (thn (hi pins s1 σ H1 _ I1 q1) fun iv s2 zz=>?_))
 obtain ⟨y,H2,I2,r2,q2⟩:=zz
 refine wpAny_bind (wpAny_standAt (wpAny_bind (wpAny_holding (thn (hs pins s2 σ H2 x y v ov iv u _ I2 r1 r2 r q2) fun _ s3 ⟨H3,I3,q3⟩=>?_))))
 exact wpAny_release ⟨σ,H3,I3,q3⟩
noncomputable def tAsg (te:TE) (g:TG):TS:=fun D σ H=>te σ H fun x H1=>g x σ H1 D.nx
theorem ps_asg {tg e:Expr} {te:TE} {g:TG} (he:PE X e te) (hg:PG X tg g) (hs:swapsWithSole [tg] e pos.line X.env=pure false:=by rfl) (hw:swappedStores [tg] e X.env=pure none:=by rfl)
  (h1:(assignEach [tg] X.env).map (·.2)=[assign tg X.env]:=by rfl):PS X (.Assign [tg] e pos) (tAsg te g):=by
 intro pins s σ H D I h
 refine wpAny_Assign_stores (thn (he pins s σ H _ I h) fun v s1 zz=>?_) hs hw
 obtain ⟨x,H1,I1,r1,q1⟩:=zz
 rw [h1]
 exact thn (hg pins s1 σ H1 x v _ I1 r1 q1) fun _ s2 q=>q
theorem ZAa {i:Nat} {x:Str} {e:Expr} {te:TE} {pos':Pos} (hN:X.N.Nodup) (hi:X.N[i]?=some x) (hx:Loc X.env.scope x) (he:PE X e te) (hs:swapsWith e (some (.Name x pos')) pos.line X.env=pure false:=by rfl) (hf:X.fn x=true∨X.env.scope.names.lookup x=some .local:=by first | exact .inl rfl | exact .inr rfl | assumption) :
  PS X (.Assign [.Name x pos'] e pos) (tAsg te (ZD0 i)):=by
 intro pins s σ H D I h
 refine wpAny_Assign_Name (thn (he pins s σ H _ I h) fun v s1 zz=>?_) hs
 obtain ⟨y,H1,I1,r1,q1⟩:=zz
 exact ZCg I1 hN hi hx r1 (fun s2 I2=>⟨_,H1,I2,q1⟩) hf
noncomputable def tAug (i:Nat) (te:TE) (ti:TIp):TS:=fun D σ H=>∃ x,σ[i]?=some (some x) /\ te σ H fun y H1=>ti x y H1 fun z H2=>D.nx (σ.set i (some z)) H2
noncomputable def ipI (f:Int->Int->Int):TIp:=fun x y H Q=>∃ i j,x=.int i /\ y=.int j /\ Q (.int (f i j)) H
end
section
variable {X:Cx} {pos:Pos}
end
structure It where
 go:Nat->Hp->Prop
 yld:Nat->Hp->V->Hp->Prop
 stop:Nat->Hp->Prop
noncomputable def FpOk (X:Cx) (pins:List (Addr×Obj)) (H:Hp) (b:Addr):Prop :=
 H b=none /\ b≠X.env.locals /\ b∉X.fs /\ (b∈X.ex∨X.s₀.heap.objs.size <= b) /\ (∀ x c,X.env.cells.lookup x=some c->c≠b) /\ ∀ p∈X.pn++pins,p.1≠b
theorem Inv.fpOk {X:Cx} {pins:List (Addr×Obj)} {σ:St} {H H':Hp} {s:Shared} {b:Addr} (I:Inv X pins σ H s) (hb:s.heap.objs.size <= b) (hn:H' b=none):FpOk X pins H' b:=by
 refine ⟨hn,Nat.ne_of_gt (yAI I.lt hb),I.nofs hb,.inr (yAF I.sz hb),fun x c e z=>?_,fun p hp z=>?_⟩
 .obtain ⟨v,q⟩:=I.cell x c e
  exact absurd (yAI q.lt (by rw [z];exact hb)) (yBE _)
 .exact absurd (yAI (Heap.lt_size (I.pin p hp).1) (by rw [z];exact hb)) (yBE _)
structure Turn (P:Program) (w:World) (K:W.Frag) (tg:Expr) (J:It) (fp:List Addr) (it:Addr) (tn:Nat->Heap->Prop):Prop where
 mem:it∈fp
 obj:∀ i h,tn i h->∀ b∈fp,∃ o,h.get? b=some o /\ ∀ v,o.data≠.cell v
 keep:∀ i h h',tn i h->(∀ b∈fp,∀ o,h.get? b=some o->h'.get? b=some o)->tn i h'
 item:∀ (X:Cx),X.prog=P->X.w=w->X.K=K->X.calm=true->∀ (i:Nat) (pins:List (Addr×Obj)) (s:Shared) (σ:St) (H:Hp) (E:Value->Shared->Prop),Inv X pins σ H s->(∀ b∈fp,FpOk X pins H b)->tn i s.heap->J.go i H ->
  wpAny (model P w) X.A (pyNext (.ref it)) (fun r s1=>∃ u,r=some u /\
   wpAny (model P w) X.A (letOwnedTupleGo tg (.ref it) u) (fun _ s2=>∃ x H',Inv X pins σ H' s2 /\ RelV x u /\ J.yld i H x H' /\ tn (i+1) s2.heap /\ ∀ b∈fp,H' b=none) E s1) E s
 done:∀ (X:Cx),X.prog=P->X.w=w->X.K=K->X.calm=true->∀ (i:Nat) (pins:List (Addr×Obj)) (s:Shared) (σ:St) (H:Hp) (E:Value->Shared->Prop),Inv X pins σ H s->(∀ b∈fp,FpOk X pins H b)->tn i s.heap->J.stop i H ->
  wpAny (model P w) X.A (pyNext (.ref it)) (fun r s1=>r=none /\ Inv X pins σ H s1) E s
 self:∀ (A:Around) (i:Nat) (s:Shared) (Q:Value->Shared->Prop) (E:Value->Shared->Prop),tn i s.heap->Q (.ref it) s->wpAny (model P w) A (pyIter (.ref it)) Q E s
noncomputable abbrev TI:=St->Hp->(It->Hp->Prop)->Prop
noncomputable def PIE (X:Cx) (pins:List (Addr×Obj)) (σ:St) (tg:Expr) (R:It->Hp->Prop) (itv:Value) (s2:Shared):Prop :=
 ∃ (it:Addr) (fp:List Addr) (tn:Nat->Heap->Prop) (J:It) (H':Hp),itv=.ref it /\ Inv X pins σ H' s2 /\ Turn X.prog X.w X.K tg J fp it tn /\ tn 0 s2.heap /\ (∀ b∈fp,FpOk X pins H' b) /\ R J H'
noncomputable def PI (X:Cx) (tg iter:Expr) (wi:TI):Prop :=
 ∀ (pins:List (Addr×Obj)) (s:Shared) (σ:St) (H:Hp) (R:It->Hp->Prop),Inv X pins σ H s->wi σ H R ->
  wpAny (model X.prog X.w) X.A (eval iter X.env) (fun v s1=>wpAny (model X.prog X.w) X.A (pyIter v) (PIE X pins σ tg R) X.xe s1) X.xe s
theorem ZEU {M:Model} {A:Around} {E:Value->Shared->Prop} {s:Shared} {tg:Expr} {it:Addr} {u:Value} {o:Obj} {n:String} {vs:Array Value} {Q:Unit->Shared->Prop} (ho:s.heap.get? it=some o) (hc:o.cls=.type n) (hd:o.data=.fields vs)
  (hn:["enumerate","zip","dict_itemiterator","dict_reverseitemiterator","odict_iterator","itertools.zip_longest","itertools.pairwise"].contains n=false) (hQ:Q () s):wpAny M A (letOwnedTupleGo tg (.ref it) u) Q E s:=by
 unfold letOwnedTupleGo
 cases tg <;> first
  | exact wpAny_pure hQ
  | (cases u <;> first
    | exact wpAny_pure hQ
    | (refine wpAny_bind (wpAny_load ho ?_)
       rw [hc,hd]
       show wpAny M A (if (["enumerate","zip","dict_itemiterator","dict_reverseitemiterator","odict_iterator","itertools.zip_longest","itertools.pairwise"].contains n && vs[0]? == some (rawInt _))=true then _ else _) Q E s
       rw [if_neg (by intro h;rw [hn,Bool.false_and] at h;cases h)]
       exact wpAny_pure hQ))
noncomputable def Itl (K:W.Frag) (a:Addr):It :=
 ⟨fun i H=>∃ xs x,SqL K H a xs /\ xs[i]?=some x,fun i H x H'=>H'=H /\ ∀ xs,SqL K H a xs->xs[i]?=some x,fun i H=>∃ xs,SqL K H a xs /\ xs.length <= i⟩
noncomputable def Itt (K:W.Frag) (a:Addr):It :=
 ⟨fun i H=>∃ xs x,SqT K H a xs /\ xs[i]?=some x,fun i H x H'=>H'=H /\ ∀ xs,SqT K H a xs->xs[i]?=some x,fun i H=>∃ xs,SqT K H a xs /\ xs.length <= i⟩
noncomputable def Itr (lo:Int) (n:Nat):It:=⟨fun i _=>i < n,fun i H x H'=>H'=H /\ x=.int (lo+i),fun i _=>n <= i⟩
theorem turn_list {P:Program} {w:World} {K:W.Frag} {tg:Expr} (a it:Addr):Turn P w K tg (Itl K a) [it] it (fun i h=>h.IsListIter it a i) where
 mem:=by simp
 obj:=fun i h st b hb=>by
  have e:b=it:=by simpa using hb
  subst e
  obtain ⟨o,e,c,d⟩:=st
  exact ⟨o,e,fun v z=>by rw [d] at z;cases z⟩
 keep:=fun i h h' st k=>st.at fun o e=>k it (by simp) o e
 item:=by
  intro X hP hw hK hc i pins s σ H E I hf st hg
  subst hP hw hK
  obtain ⟨xs,x,hq,hx⟩:=hg
  obtain ⟨its,rv,p,hz⟩:=I.list hq
  obtain ⟨u,hu,ru⟩:=rv.get hx
  obtain ⟨f0,f1,f2,f3,f4,f5⟩:=hf it (by simp)
  refine wpAny_pyNext_list_item st p.isList (x:=u) (by simpa using hu) fun h' st' sb=>?_
  have I1:Inv X pins σ H { s with heap:=h' }:=I.turned (t':=s.toks) (fun b o hb e=>(sb.2 b hb).trans e) f0 f1 f3 f4 f5
  obtain ⟨o,e,c,d⟩:=id st'
  exact ⟨u,rfl,ZEU (s:={ s with heap:=h' }) e c d (by decide) ⟨x,H,I1,ru,⟨rfl,fun ys hy=>by rw [I.list_inj hy hq];exact hx⟩,st',fun b hb=>(hf b hb).1⟩⟩
 done:=by
  intro X hP hw hK hc i pins s σ H E I hf st hg
  subst hP hw hK
  obtain ⟨xs,hq,hx⟩:=hg
  obtain ⟨its,rv,p,hz⟩:=I.list hq
  obtain ⟨f0,f1,f2,f3,f4,f5⟩:=hf it (by simp)
  have hl:=rv.length
  exact wpAny_pyNext_list_end (I.ok.hd hc) st p.isList (by simp;omega) fun h' eb=>⟨rfl,I.turned (t':=s.toks) (fun b o hb e=>eb b o hb e) f0 f1 f3 f4 f5⟩
 self:=fun _ _ _ _ _ st h=>wpAny_pyIter_listiter st h
theorem turn_tuple {P:Program} {w:World} {K:W.Frag} {tg:Expr} (a it:Addr):Turn P w K tg (Itt K a) [it] it (fun i h=>h.IsTupleIter it a i) where
 mem:=by simp
 obj:=fun i h st b hb=>by
  have e:b=it:=by simpa using hb
  subst e
  obtain ⟨o,e,c,d⟩:=st
  exact ⟨o,e,fun v z=>by rw [d] at z;cases z⟩
 keep:=fun i h h' st k=>st.at fun o e=>k it (by simp) o e
 item:=by
  intro X hP hw hK hc i pins s σ H E I hf st hg
  subst hP hw hK
  obtain ⟨xs,x,hq,hx⟩:=hg
  obtain ⟨its,rv,p,hz⟩:=I.tuple hq
  obtain ⟨u,hu,ru⟩:=rv.get hx
  obtain ⟨f0,f1,f2,f3,f4,f5⟩:=hf it (by simp)
  refine wpAny_pyNext_tuple_item st (show s.heap.IsTuple a its.toArray from p) (x:=u) (by simpa using hu) fun h' st' sb=>?_
  have I1:Inv X pins σ H { s with heap:=h' }:=I.turned (t':=s.toks) (fun b o hb e=>(sb.2 b hb).trans e) f0 f1 f3 f4 f5
  obtain ⟨o,e,c,d⟩:=id st'
  exact ⟨u,rfl,ZEU (s:={ s with heap:=h' }) e c d (by decide) ⟨x,H,I1,ru,⟨rfl,fun ys hy=>by rw [I.tuple_inj hy hq];exact hx⟩,st',fun b hb=>(hf b hb).1⟩⟩
 done:=by
  intro X hP hw hK hc i pins s σ H E I hf st hg
  subst hP hw hK
  obtain ⟨xs,hq,hx⟩:=hg
  obtain ⟨its,rv,p,hz⟩:=I.tuple hq
  obtain ⟨f0,f1,f2,f3,f4,f5⟩:=hf it (by simp)
  have hl:=rv.length
  exact wpAny_pyNext_tuple_end (I.ok.hd hc) st (show s.heap.IsTuple a its.toArray from p) (by simp;omega) fun h' eb=>⟨rfl,I.turned (t':=s.toks) (fun b o hb e=>eb b o hb e) f0 f1 f3 f4 f5⟩
 self:=fun _ _ _ _ _ st h=>wpAny_pyIter_tupleiter st h
theorem turn_range {P:Program} {w:World} {K:W.Frag} {tg:Expr} (it:Addr) (lo:Int) (n:Nat):Turn P w K tg (Itr lo n) [it] it (fun i h=>IsRangeIter h it (lo+(i:Nat) * 1) ((n:Int)-(i:Nat)) 1) where
 mem:=by simp
 obj:=fun i h st b hb=>by
  have e:b=it:=by simpa using hb
  subst e
  exact ⟨_,st,fun v z=>by
   have z':Data.fields _=Data.cell v:=z
   cases z'⟩
 keep:=fun i h h' st k=>k it (by simp) _ st
 item:=by
  intro X hP hw hK hc i pins s σ H E I hf st hg
  subst hP hw hK
  obtain ⟨f0,f1,f2,f3,f4,f5⟩:=hf it (by simp)
  have W:=Walks.range (prog:=X.prog) (w:=X.w) (I.ok.hd hc) it lo 1 n
  refine W.item i s _ _ hg st fun v h' tk hv st' kk=>?_
  obtain ⟨t,rfl⟩:=hv
  have I1:Inv X pins σ H { s with heap:=h',toks:=tk }:=I.turned (fun b o hb e=>kk b o (by simpa using hb) e) f0 f1 f3 f4 f5
  refine ⟨_,rfl,ZEU (s:={ s with heap:=h',toks:=tk }) (n:="range_iterator") st' rfl rfl (by decide) ⟨.int (lo+i),H,I1,⟨t,?_⟩,⟨rfl,rfl⟩,st',fun b hb=>(hf b hb).1⟩⟩
  rw [Int.mul_one]
 done:=by
  intro X hP hw hK hc i pins s σ H E I hf st hg
  subst hP hw hK
  obtain ⟨f0,f1,f2,f3,f4,f5⟩:=hf it (by simp)
  exact wpAny_pyNext_range_end (I.ok.hd hc) st (by have:n <= i:=hg;omega) fun h' eb=>⟨rfl,I.turned (t':=s.toks) (fun b o hb e=>eb b o hb e) f0 f1 f3 f4 f5⟩
 self:=fun _ _ _ _ _ st h=>wpAny_pyIter_rangeiter st h
section
variable {X:Cx} {tg:Expr}
noncomputable def ZEH (K:W.Frag) (tl:TE):TI:=fun σ H R=>tl σ H fun x H1=>∃ a,x=.ref a /\ (∃ xs,SqL K H1 a xs) /\ R (Itl K a) H1
noncomputable def iTup (K:W.Frag) (tl:TE):TI:=fun σ H R=>tl σ H fun x H1=>∃ a,x=.ref a /\ (∃ xs,SqT K H1 a xs) /\ R (Itt K a) H1
theorem ZAu {l:Expr} {tl:TE} (hl:PE X l tl):PI X tg l (ZEH X.K tl):=by
 intro pins s σ H R I h
 refine thn (hl pins s σ H _ I h) fun v s1 zz=>?_
 obtain ⟨x,H1,I1,r1,q1⟩:=zz
 obtain ⟨a,e,⟨xs,hq⟩,q⟩:=q1
 subst e
 cases r1
 obtain ⟨its,rv,p,hz⟩:=I1.list hq
 refine wpAny_pyIter_list p.isList ?_
 refine ⟨s1.heap.objs.size,[s1.heap.objs.size],_,_,H1,rfl,I1.kept (t':=s1.toks) fun b o e=>Heap.get?_push_of_some _ e,turn_list a _,⟨_,Heap.get?_push_size _ rfl,rfl,rfl⟩,fun b hb=>?_,q⟩
 have e:b=s1.heap.objs.size:=by simpa using hb
 subst e
 exact I1.fpOk (yAA _) (I1.hok.fresh (yAA _))
theorem pi_tup {l:Expr} {tl:TE} (hl:PE X l tl):PI X tg l (iTup X.K tl):=by
 intro pins s σ H R I h
 refine thn (hl pins s σ H _ I h) fun v s1 zz=>?_
 obtain ⟨x,H1,I1,r1,q1⟩:=zz
 obtain ⟨a,e,⟨xs,hq⟩,q⟩:=q1
 subst e
 cases r1
 obtain ⟨its,rv,p,hz⟩:=I1.tuple hq
 refine wpAny_pyIter_tuple (show s1.heap.IsTuple a its.toArray from p) ?_
 refine ⟨s1.heap.objs.size,[s1.heap.objs.size],_,_,H1,rfl,I1.kept (t':=s1.toks) fun b o e=>Heap.get?_push_of_some _ e,turn_tuple a _,⟨_,Heap.get?_push_size _ rfl,rfl,rfl⟩,fun b hb=>?_,q⟩
 have e:b=s1.heap.objs.size:=by simpa using hb
 subst e
 exact I1.fpOk (yAA _) (I1.hok.fresh (yAA _))
theorem range_it {pins:List (Addr×Obj)} {σ:St} {H:Hp} {s:Shared} {R:It->Hp->Prop} {E:Value->Shared->Prop} {lo hi:Int} {t u v:Tok} {tk:Nat} (I:Inv X pins σ H s) (h1:-(2 ^ 62) <= lo) (h2:lo < 2 ^ 62) (h3:-(2 ^ 62) <= hi) (h4:hi < 2 ^ 62)
  (q:R (Itr lo (hi-lo).toNat) H):wpAny (model X.prog X.w) X.A (pyIter (.ref s.heap.objs.size)) (PIE X pins σ tg R) E { s with heap:=s.heap.push { cls:=.type "range",data:=.fields #[.int lo t,.int hi u,.int 1 v] },toks:=tk }:=by
 refine wpAny_pyIter_range (IsRange.new ..) (small_one h1 h2 h3 h4) ?_
 have I1:Inv X pins σ H { s with heap:=s.heap.push { cls:=.type "range",data:=.fields #[.int lo t,.int hi u,.int 1 v] },toks:=tk }:=I.kept fun b o e=>Heap.get?_push_of_some _ e
 refine ⟨(s.heap.push { cls:=.type "range",data:=.fields #[.int lo t,.int hi u,.int 1 v] }).objs.size,[(s.heap.push { cls:=.type "range",data:=.fields #[.int lo t,.int hi u,.int 1 v] }).objs.size],_,_,H,rfl,
  I1.kept (t':=tk) fun b o e=>Heap.get?_push_of_some _ e,turn_range _ lo (hi-lo).toNat,?_,fun b hb=>?_,q⟩
 .have e1:lo+((0:Nat):Int) * 1=lo:=by simp
  have e2:(((hi-lo).toNat:Nat):Int)-((0:Nat):Int)=Builtin.Range.rangeSize lo hi 1:=by rw [rangeSize_one];split <;> omega
  show IsRangeIter _ _ (lo+((0:Nat):Int) * 1) ((((hi-lo).toNat:Nat):Int)-((0:Nat):Int)) 1
  rw [e1,e2]
  exact Heap.get?_push_size _ rfl
 .have e:b=(s.heap.push { cls:=.type "range",data:=.fields #[.int lo t,.int hi u,.int 1 v] }).objs.size:=by simpa using hb
  subst e
  exact I1.fpOk (yAA _) (I1.hok.fresh (yAA _))
noncomputable def ZES (ta:TA):TI:=fun σ H R=>ta σ H fun vs H1=>∃ j:Int,vs=[.int j] /\ -(2 ^ 62) <= j /\ j < 2 ^ 62 /\ R (Itr 0 j.toNat) H1
noncomputable def iRng2 (ta:TA):TI:=fun σ H R=>ta σ H fun vs H1=>∃ i j:Int,vs=[.int i,.int j] /\ (-(2 ^ 62) <= i /\ i < 2 ^ 62 /\ -(2 ^ 62) <= j /\ j < 2 ^ 62) /\ R (Itr i (j-i).toNat) H1
theorem ZA8 {a:Expr} {ta:TA} {p pos:Pos} (hg:Gl X "range") (hm:X.mg "range"=none) (ha:PA X [a] ta) (hs:starEach [a] X.env=[(false,eval a X.env)]:=by rfl):PI X tg (.Call (.Name "range" p) [a] [] pos) (ZES ta):=by
 intro pins s σ H R I h
 refine Call_ (ZDW I hg hm boot_range (PyProof.Rows.callWith_type1 (thn (ha pos pins s σ H _ I h) fun us s1 zz=>?_) hs rfl))
 obtain ⟨vs,H1,I1,r1,q1⟩:=zz
 obtain ⟨j,e,q1,q2,q⟩:=q1
 subst e
 cases r1 with
 | cons r rr=>
  cases rr
  obtain ⟨t,rfl⟩:=r
  exact call_range_1 (range_it I1 (by omega) (by omega) q1 q2 (by simpa using q))
noncomputable def tFor (wi:TI) (g:TG) (tb:TS):TS:=fun D σ H=>wi σ H fun J H1=>∃ W:Nat->Nat->St->Hp->Prop,(∃ m,W 0 m σ H1) /\ ∀ i m σ H,W i m σ H ->
 (J.stop i H /\ D.nx σ H)∨(J.go i H /\ ∃ N:St->Hp->Prop,(∀ σ' H',N σ' H'->∃ m',m' < m /\ W (i+1) m' σ' H') /\ ∀ x H',J.yld i H x H'->g x σ H' fun σ2 H2=>tb { D with nx:=N,ct:=N,bk:=D.nx } σ2 H2)
noncomputable def ZDT (fp:List Addr) (h:Heap):List (Addr×Obj):=fp.filterMap fun b=>(h.get? b).map fun o=>(b,o)
theorem ZCF {fp:List Addr} {h:Heap} {b:Addr} {o:Obj} (hb:b∈fp) (e:h.get? b=some o):(b,o)∈ZDT fp h:=List.mem_filterMap.mpr ⟨b,hb,by rw [e];rfl⟩
theorem of_pinsAt {fp:List Addr} {h:Heap} {p:Addr×Obj} (hp:p∈ZDT fp h):p.1∈fp /\ h.get? p.1=some p.2:=by
 obtain ⟨b,hb,e⟩:=List.mem_filterMap.mp hp
 cases q:h.get? b with
 | none=>rw [q] at e;cases e
 | some o=>
  rw [q] at e
  have e':(b,o)=p:=Option.some.inj e
  subst e'
  exact ⟨hb,q⟩
theorem Inv.pinned {pins:List (Addr×Obj)} {σ:St} {H:Hp} {s:Shared} {fp:List Addr} (I:Inv X pins σ H s) (hf:∀ b∈fp,FpOk X pins H b) (ho:∀ b∈fp,∃ o,s.heap.get? b=some o /\ ∀ v,o.data≠.cell v):Inv X (pins++ZDT fp s.heap) σ H s :=
 I.pins_of fun p hp=>(yAU.mp hp).elim (fun z=>I.pin p (yAQ _ z)) fun z=>by
  obtain ⟨hb,e⟩:=of_pinsAt z
  obtain ⟨f0,f1,f2,_⟩:=hf p.1 hb
  obtain ⟨o,e',d⟩:=ho p.1 hb
  rw [e] at e';cases e'
  exact ⟨e,f0,f1,f2,d⟩
theorem Inv.unpinned {pins pl:List (Addr×Obj)} {σ:St} {H:Hp} {s:Shared} (I:Inv X (pins++pl) σ H s):Inv X pins σ H s:=I.pins_of fun p hp=>I.pin p (yAQ _ (List.mem_append_left _ hp))
theorem ZBT {iter:Expr} {body:List Stmt} {wi:TI} {g:TG} {tb:TS} {pos:Pos} (hp:PassesOwn (model X.prog X.w) X.A X.env X.xe) (hc:X.calm=true) (hi:PI X tg iter wi) (hg:PG X tg g) (hb:PSs X body tb)
  (hs:∀ x,foldedSetIterable iter X.env x=pure x:=by intro _;rfl):PS X (.For tg iter body [] pos) (tFor wi g tb):=by
 intro pins s σ H D I h
 refine wpAny_For (thn (hi pins s σ H _ I h) fun v s1 h1=>thn h1 fun itv s2 h2=>?_) hs
 obtain ⟨it,fp,tn,J,H2,e,I2,T,st2,f2,W,⟨m0,w0⟩,turn⟩:=h2
 subst e
 have stat:∀ {H':Hp},(∀ b∈fp,H' b=none)->∀ b∈fp,FpOk X pins H' b:=fun hn b hb=>⟨hn b hb,(f2 b hb).2⟩
 refine codeAny_forLoop_any (fun n s'=>∃ i σ' H',Inv X pins σ' H' s' /\ tn i s'.heap /\ (∀ b∈fp,H' b=none) /\ W i n σ' H') ?_ m0 ⟨0,σ,H2,I2,st2,fun b hb=>(f2 b hb).1,w0⟩
 rintro n s3 ⟨i,σ3,H3,I3,st3,fr3,w3⟩
 rcases turn i n σ3 H3 w3 with ⟨stop,qn⟩ | ⟨go,N,hN,step⟩
 .refine wpAny_passesOwn hp (thn (T.done X rfl rfl rfl hc i pins s3 σ3 H3 X.xe I3 (stat fr3) st3 stop) fun r s4 ⟨hr,I4⟩=>?_)
  subst hr
  exact wpAny_execs_nil ⟨σ3,H3,I4,qn⟩
 .refine wpAny_passesOwn hp (thn (T.item X rfl rfl rfl hc i pins s3 σ3 H3 X.xe I3 (stat fr3) st3 go) fun r s4 ⟨u,hr,h4⟩=>?_)
  subst hr
  refine wpAny_passesOwn hp (thn h4 fun _ s5 zz=>?_)
  obtain ⟨x,H5,I5,r5,y5,st5,fr5⟩:=zz
  have I5':=I5.pinned (stat fr5) (T.obj _ _ st5)
  refine wpAny_passesOwn hp (thn (hg _ s5 σ3 H5 x u _ I5' r5 (step x H5 y5)) fun _ s6 zz=>?_)
  obtain ⟨σ6,H6,I6,q6⟩:=zz
  refine wpAny_passesOwn hp (thn (hb _ s6 σ6 H6 _ I6 q6) fun f s7 q7=>?_)
  have again:∀ {σ7:St} {H7:Hp},Inv X (pins++ZDT fp s5.heap) σ7 H7 s7->N σ7 H7->∃ m,m < n /\ ∃ i σ' H',Inv X pins σ' H' s7 /\ tn i s7.heap /\ (∀ b∈fp,H' b=none) /\ W i m σ' H':=fun {σ7 H7} I7 n7=>by
   obtain ⟨m',hm,w7⟩:=hN σ7 H7 n7
   refine ⟨m',hm,i+1,σ7,H7,I7.unpinned,T.keep _ _ _ st5 fun b hb o e=>(I7.pin (b,o) (yAQ _ (yAQ _ (ZCF hb e)))).1,fun b hb=>?_,w7⟩
   obtain ⟨o,e,d⟩:=T.obj _ _ st5 b hb
   exact (I7.pin (b,o) (yAQ _ (yAQ _ (ZCF hb e)))).2.1
  cases f with
  | next=>obtain ⟨σ7,H7,I7,n7⟩:=q7;exact again I7 n7
  | cont=>obtain ⟨σ7,H7,I7,n7⟩:=q7;exact again I7 n7
  | brk=>obtain ⟨σ7,H7,I7,q7⟩:=q7;exact ⟨σ7,H7,I7.unpinned,q7⟩
  | ret v=>obtain ⟨x7,σ7,H7,I7,r7,q7⟩:=q7;exact ⟨x7,σ7,H7,I7.unpinned,r7,q7⟩
end
theorem for_list {K:W.Frag} {a:Addr} {xs:List V} {g:TG} {tb:TS} {D:Ends} {σ:St} {H:Hp} (Pv:Nat->St->Hp->Prop) (h0:Pv 0 σ H) (hl:∀ i σ H,i <= xs.length->Pv i σ H->SqL K H a xs)
  (hs:∀ i x σ H,xs[i]?=some x->Pv i σ H->g x σ H fun σ2 H2=>tb { D with nx:=Pv (i+1),ct:=Pv (i+1),bk:=D.nx } σ2 H2) (hd:∀ σ H,Pv xs.length σ H->D.nx σ H) :
  ∃ W:Nat->Nat->St->Hp->Prop,(∃ m,W 0 m σ H) /\ ∀ i m σ H,W i m σ H ->
   ((Itl K a).stop i H /\ D.nx σ H)∨((Itl K a).go i H /\ ∃ N:St->Hp->Prop,(∀ σ' H',N σ' H'->∃ m',m' < m /\ W (i+1) m' σ' H') /\ ∀ x H',(Itl K a).yld i H x H'->g x σ H' fun σ2 H2=>tb { D with nx:=N,ct:=N,bk:=D.nx } σ2 H2):=by
 refine ⟨fun i m σ H=>m=xs.length-i /\ i <= xs.length /\ Pv i σ H,⟨xs.length,by simp,Nat.zero_le _,h0⟩,?_⟩
 rintro i m σ H ⟨rfl,hi,p⟩
 have q:=hl i σ H hi p
 by_cases hlt:i < xs.length
 .refine .inr ⟨⟨xs,xs[i],q,by simp [hlt]⟩,Pv (i+1),fun σ' H' p'=>⟨xs.length-(i+1),by omega,rfl,hlt,p'⟩,fun x H' y=>?_⟩
  obtain ⟨e,y⟩:=y
  subst e
  exact hs i x σ _ (y xs q) p
 .have e:i=xs.length:=by omega
  subst e
  exact .inl ⟨⟨xs,q,yAA _⟩,hd σ H p⟩
theorem for_tup {K:W.Frag} {a:Addr} {xs:List V} {g:TG} {tb:TS} {D:Ends} {σ:St} {H:Hp} (Pv:Nat->St->Hp->Prop) (h0:Pv 0 σ H) (hl:∀ i σ H,i <= xs.length->Pv i σ H->SqT K H a xs)
  (hs:∀ i x σ H,xs[i]?=some x->Pv i σ H->g x σ H fun σ2 H2=>tb { D with nx:=Pv (i+1),ct:=Pv (i+1),bk:=D.nx } σ2 H2) (hd:∀ σ H,Pv xs.length σ H->D.nx σ H) :
  ∃ W:Nat->Nat->St->Hp->Prop,(∃ m,W 0 m σ H) /\ ∀ i m σ H,W i m σ H ->
   ((Itt K a).stop i H /\ D.nx σ H)∨((Itt K a).go i H /\ ∃ N:St->Hp->Prop,(∀ σ' H',N σ' H'->∃ m',m' < m /\ W (i+1) m' σ' H') /\ ∀ x H',(Itt K a).yld i H x H'->g x σ H' fun σ2 H2=>tb { D with nx:=N,ct:=N,bk:=D.nx } σ2 H2):=by
 refine ⟨fun i m σ H=>m=xs.length-i /\ i <= xs.length /\ Pv i σ H,⟨xs.length,by simp,Nat.zero_le _,h0⟩,?_⟩
 rintro i m σ H ⟨rfl,hi,p⟩
 have q:=hl i σ H hi p
 by_cases hlt:i < xs.length
 .refine .inr ⟨⟨xs,xs[i],q,by simp [hlt]⟩,Pv (i+1),fun σ' H' p'=>⟨xs.length-(i+1),by omega,rfl,hlt,p'⟩,fun x H' y=>?_⟩
  obtain ⟨e,y⟩:=y
  subst e
  exact hs i x σ _ (y xs q) p
 .have e:i=xs.length:=by omega
  subst e
  exact .inl ⟨⟨xs,q,yAA _⟩,hd σ H p⟩
theorem for_range {lo:Int} {n:Nat} {g:TG} {tb:TS} {D:Ends} {σ:St} {H:Hp} (Pv:Nat->St->Hp->Prop) (h0:Pv 0 σ H)
  (hs:∀ i σ H,i < n->Pv i σ H->g (.int (lo+i)) σ H fun σ2 H2=>tb { D with nx:=Pv (i+1),ct:=Pv (i+1),bk:=D.nx } σ2 H2) (hd:∀ σ H,Pv n σ H->D.nx σ H) :
  ∃ W:Nat->Nat->St->Hp->Prop,(∃ m,W 0 m σ H) /\ ∀ i m σ H,W i m σ H ->
   ((Itr lo n).stop i H /\ D.nx σ H)∨((Itr lo n).go i H /\ ∃ N:St->Hp->Prop,(∀ σ' H',N σ' H'->∃ m',m' < m /\ W (i+1) m' σ' H') /\ ∀ x H',(Itr lo n).yld i H x H'->g x σ H' fun σ2 H2=>tb { D with nx:=N,ct:=N,bk:=D.nx } σ2 H2):=by
 refine ⟨fun i m σ H=>m=n-i /\ i <= n /\ Pv i σ H,⟨n,by simp,Nat.zero_le _,h0⟩,?_⟩
 rintro i m σ H ⟨rfl,hi,p⟩
 by_cases hlt:i < n
 .refine .inr ⟨hlt,Pv (i+1),fun σ' H' p'=>⟨n-(i+1),by omega,rfl,hlt,p'⟩,fun x H' y=>?_⟩
  obtain ⟨e,y⟩:=y
  subst e y
  exact hs i σ _ hlt p
 .have e:i=n:=by omega
  subst e
  exact .inl ⟨yAA _,hd σ H p⟩
noncomputable abbrev R2:=V->V->Hp->VK->Prop
noncomputable def OpR (X:Cx) (f:Value->Value->Sem Value) (r:R2):Prop :=
 ∀ (pins:List (Addr×Obj)) (s:Shared) (σ:St) (H:Hp) (x y:V) (v u:Value) (Q:VK),Inv X pins σ H s->RelV x v->RelV y u->r x y H Q ->
  wpAny (model X.prog X.w) X.A (f v u) (EP X pins σ Q) X.xe s
noncomputable def ZCf (X:Cx) (f:Value) (r:List V->Hp->VK->Prop):Prop :=
 ∀ (pins:List (Addr×Obj)) (s:Shared) (σ:St) (H:Hp) (xs:List V) (us:List Value) (Q:VK),Inv X pins σ H s->Vals xs us->r xs H Q ->
  wpAny (model X.prog X.w) X.A (call f us) (EP X pins σ Q) X.xe s
noncomputable def tOp (r:R2) (ta tb:TE):TE:=fun σ H Q=>ta σ H fun x H1=>tb σ H1 fun y H2=>r x y H2 Q
noncomputable def tUn (r:V->Hp->VK->Prop) (ta:TE):TE:=fun σ H Q=>ta σ H fun x H1=>r x H1 Q
noncomputable def rI (C:Int->Int->Prop) (g:Int->Int->V):R2:=fun x y H Q=>∃ i j,x=.int i /\ y=.int j /\ C i j /\ Q (g i j) H
noncomputable def rI0 (g:Int->Int->V):R2:=fun x y H Q=>∃ i j,x=.int i /\ y=.int j /\ Q (g i j) H
noncomputable def rU (g:Int->V):V->Hp->VK->Prop:=fun x H Q=>∃ i,x=.int i /\ Q (g i) H
section
variable {X:Cx} {a b c:Expr} {ta tb tc:TE} {pos:Pos}
theorem binT (ha:PE X a ta) (hb:PE X b tb) {pins:List (Addr×Obj)} {s:Shared} {σ:St} {H:Hp} {R:V->V->Hp->Prop} (I:Inv X pins σ H s)
  (h:ta σ H fun x H1=>tb σ H1 fun y H2=>R x y H2) {Q:Value->Shared->Prop} {f:Value->Value->Sem Value}
  (hf:∀ v u s2 x y H2,Inv X pins σ H2 s2->RelV x v->RelV y u->R x y H2->wpAny (model X.prog X.w) X.A (f v u) Q X.xe s2) :
  wpAny (model X.prog X.w) X.A (eval a X.env) (fun v s₁=>wpAny (model X.prog X.w) X.A (eval b X.env) (fun u s₂=>wpAny (model X.prog X.w) X.A (f v u) Q X.xe s₂) X.xe s₁) X.xe s:=by
 refine thn (ha pins s σ H _ I h) fun v s1 zz=>?_
 obtain ⟨x,H1,I1,r1,q1⟩:=zz
 refine thn (hb pins s1 σ H1 _ I1 q1) fun u s2 zz=>?_
 obtain ⟨y,H2,I2,r2,q2⟩:=zz
 exact hf v u s2 x y H2 I2 r1 r2 q2
theorem ZAM {op:Operator} {r:R2} (ho:OpR X (binaryOp op) r) (ha:PE X a ta) (hb:PE X b tb):PE X (.BinOp a op b pos) (tOp r ta tb):=by
 intro pins s σ H Q I h
 exact wpAny_BinOp (binT ha hb I h fun v u s2 x y H2 I2 rx ry q=>ho pins s2 σ H2 x y v u Q I2 rx ry q)
theorem opI {f:Value->Value->Sem Value} {C:Int->Int->Prop} {g:Int->Int->Int}
  (rule:∀ (i j:Int) (t u:Tok) (s:Shared) (Q:Value->Shared->Prop) (E:Value->Shared->Prop),C i j->Q (.int (g i j) s.toks) { s with toks:=s.toks+1 }->wpAny (model X.prog X.w) X.A (f (.int i t) (.int j u)) Q E s) :
  OpR X f (rI C fun i j=>.int (g i j)):=by
 intro pins s σ H x y v u Q I rx ry h
 obtain ⟨i,j,rfl,rfl,hc,q⟩:=h
 obtain ⟨t,rfl⟩:=rx
 obtain ⟨t',rfl⟩:=ry
 exact rule i j t t' s _ _ hc ⟨.int (g i j),H,I.tok _,⟨_,rfl⟩,q⟩
theorem opI0 {f:Value->Value->Sem Value} {g:Int->Int->Int}
  (rule:∀ (i j:Int) (t u:Tok) (s:Shared) (Q:Value->Shared->Prop) (E:Value->Shared->Prop),Q (.int (g i j) s.toks) { s with toks:=s.toks+1 }->wpAny (model X.prog X.w) X.A (f (.int i t) (.int j u)) Q E s) :
  OpR X f (rI0 fun i j=>.int (g i j)):=by
 intro pins s σ H x y v u Q I rx ry h
 obtain ⟨i,j,rfl,rfl,q⟩:=h
 obtain ⟨t,rfl⟩:=rx
 obtain ⟨t',rfl⟩:=ry
 exact rule i j t t' s _ _ ⟨.int (g i j),H,I.tok _,⟨_,rfl⟩,q⟩
theorem opB0 {f:Value->Value->Sem Value} {g:Int->Int->Bool}
  (rule:∀ (i j:Int) (t u:Tok) (s:Shared) (Q:Value->Shared->Prop) (E:Value->Shared->Prop),Q (.bool (g i j)) s->wpAny (model X.prog X.w) X.A (f (.int i t) (.int j u)) Q E s) :
  OpR X f (rI0 fun i j=>.bl (g i j)):=by
 intro pins s σ H x y v u Q I rx ry h
 obtain ⟨i,j,rfl,rfl,q⟩:=h
 obtain ⟨t,rfl⟩:=rx
 obtain ⟨t',rfl⟩:=ry
 exact rule i j t t' s _ _ ⟨.bl (g i j),H,I,rfl,q⟩
noncomputable def CDiv (i j:Int):Prop:=0 < j /\ j < 1073741824
noncomputable def CPow (i j:Int):Prop:=0 <= j /\ j <= 1000000 /\ i.natAbs < 2 ^ 64
noncomputable def CMul (i j:Int):Prop:=(-(2 ^ 64) < i /\ i < 2 ^ 64)∨(-(2 ^ 64) < j /\ j < 2 ^ 64)
theorem CMul.ok {i j:Int} (h:CMul i j):IntMulOk i j:=by
 rcases h with ⟨h1,h2⟩ | ⟨h1,h2⟩
 .exact .of_left (intBits_le_64 h1 h2)
 .exact .of_right (intBits_le_64 h1 h2)
theorem ZBK:OpR X (binaryOp .Add) (rI0 fun i j=>.int (i+j)):=opI0 fun _ _ _ _ _ _ _ q=>add_int q
theorem ZCR:OpR X (binaryOp .Sub) (rI0 fun i j=>.int (i-j)):=opI0 fun _ _ _ _ _ _ _ q=>sub_int q
theorem ZBa:OpR X (binaryOp .Mult) (rI CMul fun i j=>.int (i * j)):=opI fun _ _ _ _ _ _ _ hc q=>mul_int q hc.ok
theorem ZBF:OpR X (binaryOp .FloorDiv) (rI CDiv fun i j=>.int (i / j)):=opI fun i j _ _ _ _ _ hc q=>by
 have h1:(0:Int) < j:=hc.1
 have h2:j < 1073741824:=hc.2
 exact floordiv_int (by omega) (by rw [Int.fdiv_eq_ediv_of_nonneg i (by omega)];exact q) (.inl (PyProof.noPylong_small (by omega)))
theorem ZAp:OpR X (binaryOp .Mod) (rI (fun _ j=>0 < j) fun i j=>.int (i % j)):=opI fun i j _ _ _ _ _ hc q=>by
 have h1:(0:Int) < j:=hc
 exact mod_int' (by omega) (by rw [Int.fmod_eq_emod_of_nonneg i (by omega)];exact q)
theorem ZEB:OpR X (binaryOp .Pow) (rI CPow fun i j=>.int (i ^ j.toNat)):=opI fun _ _ _ _ _ _ _ hc q=>pow_int_small hc.1 hc.2.1 hc.2.2 q
theorem op_shl:OpR X (binaryOp .LShift) (rI CPow fun i j=>.int (i * 2 ^ j.toNat)):=opI fun _ _ _ _ _ _ _ hc q=>lshift_int_small hc.1 hc.2.1 hc.2.2 q
end
noncomputable def scal:V->V->Bool
 | .non,.non=>true | .non,.int _=>true | .int _,.non=>true | .non,.bl _=>true | .bl _,.non=>true | .non,.str _=>true | .str _,.non=>true
 | .int _,.int _=>true | .bl _,.bl _=>true | .str _,.str _=>true | .byt _,.byt _=>true
 | .int _,.str _=>true | .str _,.int _=>true | .bl _,.str _=>true | .str _,.bl _=>true
 | _,_=>false
noncomputable def rEq:R2:=fun x y H Q=>scal x y=true /\ Q (.bl (decide (x=y))) H
noncomputable def rNe:R2:=fun x y H Q=>scal x y=true /\ Q (.bl (!decide (x=y))) H
theorem dec_int {i j:Int}:decide (V.int i=V.int j)=(i == j):=by
 rw [Bool.eq_iff_iff]
 simp
theorem dec_bl {i j:Bool}:decide (V.bl i=V.bl j)=(i == j):=by
 rw [Bool.eq_iff_iff]
 simp
theorem dec_str {i j:Str}:decide (V.str i=V.str j)=(i == j):=by
 rw [Bool.eq_iff_iff]
 simp
theorem dec_byt {i j:Array UInt8}:decide (V.byt i=V.byt j)=(i.toList == j.toList):=by
 rw [Bool.eq_iff_iff]
 cases i
 cases j
 simp
section
variable {X:Cx} {a b c:Expr} {ta tb tc:TE} {pos:Pos}
theorem ZAr {pins:List (Addr×Obj)} {σ:St} {H:Hp} {s:Shared} {Q:VK} {k k':Bool} (I:Inv X pins σ H s) (q:Q (.bl k) H) (e:k=k'):EP X pins σ Q (.bool k') s:=by
 subst e
 exact ⟨.bl k,H,I,rfl,q⟩
theorem ZBR:OpR X (compareOp .Eq) rEq:=by
 intro pins s σ H x y v u Q I rx ry h
 obtain ⟨hs,q⟩:=h
 cases x with
 | non=>
  cases rx
  cases y with
  | non=>cases ry;exact PySem.EqNone.eq_none_none (ZAr I q (by simp))
  | bl j=>cases ry;exact PySem.EqNone.eq_none_bool (ZAr I q (by simp))
  | int j=>obtain ⟨t',rfl⟩:=ry;exact PySem.EqNone.eq_none_int (ZAr I q (by simp))
  | str j=>obtain ⟨t',rfl⟩:=ry;exact PySem.EqNone.eq_none_str (ZAr I q (by simp))
  | _=>exact absurd (show false=true from hs) yAM
 | bl i=>
  cases rx
  cases y with
  | non=>cases ry;exact PySem.EqNone.eq_bool_none (ZAr I q (by simp))
  | bl j=>cases ry;exact eq_bool (ZAr I q dec_bl)
  | str j=>obtain ⟨t',rfl⟩:=ry;exact PySem.EqMixed.eq_bool_str (ZAr I q (by simp))
  | _=>exact absurd (show false=true from hs) yAM
 | int i=>
  obtain ⟨t,rfl⟩:=rx
  cases y with
  | non=>cases ry;exact PySem.EqNone.eq_int_none (ZAr I q (by simp))
  | int j=>obtain ⟨t',rfl⟩:=ry;exact eq_int (ZAr I q dec_int)
  | str j=>obtain ⟨t',rfl⟩:=ry;exact PySem.EqMixed.eq_int_str (ZAr I q (by simp))
  | _=>exact absurd (show false=true from hs) yAM
 | str i=>
  obtain ⟨t,rfl⟩:=rx
  cases y with
  | non=>cases ry;exact PySem.EqNone.eq_str_none (ZAr I q (by simp))
  | bl j=>cases ry;exact PySem.EqMixed.eq_str_bool (ZAr I q (by simp))
  | int j=>obtain ⟨t',rfl⟩:=ry;exact PySem.EqMixed.eq_str_int (ZAr I q (by simp))
  | str j=>obtain ⟨t',rfl⟩:=ry;exact eq_str (ZAr I q dec_str)
  | _=>exact absurd (show false=true from hs) yAM
 | byt i=>
  obtain ⟨t,rfl⟩:=rx
  cases y with
  | byt j=>obtain ⟨t',rfl⟩:=ry;exact PySem.W.eq_bytes (ZAr I q dec_byt)
  | _=>exact absurd (show false=true from hs) yAM
 | _=>cases y <;> exact absurd (show false=true from hs) yAM
theorem ZCt:OpR X (compareOp .NotEq) rNe:=by
 intro pins s σ H x y v u Q I rx ry h
 obtain ⟨hs,q⟩:=h
 cases x with
 | non=>
  cases rx
  cases y with
  | non=>cases ry;exact PySem.EqNone.ne_none_none (ZAr I q (by simp))
  | bl j=>cases ry;exact PySem.EqNone.ne_none_bool (ZAr I q (by simp))
  | int j=>obtain ⟨t',rfl⟩:=ry;exact PySem.EqNone.ne_none_int (ZAr I q (by simp))
  | str j=>obtain ⟨t',rfl⟩:=ry;exact PySem.EqNone.ne_none_str (ZAr I q (by simp))
  | _=>exact absurd (show false=true from hs) yAM
 | bl i=>
  cases rx
  cases y with
  | non=>cases ry;exact PySem.EqNone.ne_bool_none (ZAr I q (by simp))
  | bl j=>cases ry;exact ne_bool (ZAr I q (congrArg not dec_bl))
  | str j=>obtain ⟨t',rfl⟩:=ry;exact PySem.EqMixed.ne_bool_str (ZAr I q (by simp))
  | _=>exact absurd (show false=true from hs) yAM
 | int i=>
  obtain ⟨t,rfl⟩:=rx
  cases y with
  | non=>cases ry;exact PySem.EqNone.ne_int_none (ZAr I q (by simp))
  | int j=>obtain ⟨t',rfl⟩:=ry;exact ne_int (ZAr I q (congrArg not dec_int))
  | str j=>obtain ⟨t',rfl⟩:=ry;exact PySem.EqMixed.ne_int_str (ZAr I q (by simp))
  | _=>exact absurd (show false=true from hs) yAM
 | str i=>
  obtain ⟨t,rfl⟩:=rx
  cases y with
  | non=>cases ry;exact PySem.EqNone.ne_str_none (ZAr I q (by simp))
  | bl j=>cases ry;exact PySem.EqMixed.ne_str_bool (ZAr I q (by simp))
  | int j=>obtain ⟨t',rfl⟩:=ry;exact PySem.EqMixed.ne_str_int (ZAr I q (by simp))
  | str j=>obtain ⟨t',rfl⟩:=ry;exact ne_str (ZAr I q (congrArg not dec_str))
  | _=>exact absurd (show false=true from hs) yAM
 | byt i=>
  obtain ⟨t,rfl⟩:=rx
  cases y with
  | byt j=>obtain ⟨t',rfl⟩:=ry;exact PySem.W.ne_bytes (ZAr I q (congrArg not dec_byt))
  | _=>exact absurd (show false=true from hs) yAM
 | _=>cases y <;> exact absurd (show false=true from hs) yAM
theorem ZB3:OpR X (compareOp .Lt) (rI0 fun i j=>.bl (decide (i < j))):=opB0 fun _ _ _ _ _ _ _ q=>lt_int q
theorem ZCy:OpR X (compareOp .Gt) (rI0 fun i j=>.bl (decide (j < i))):=opB0 fun _ _ _ _ _ _ _ q=>gt_int q
theorem op_ge:OpR X (compareOp .GtE) (rI0 fun i j=>.bl (decide (j <= i))):=opB0 fun _ _ _ _ _ _ _ q=>ge_int q
theorem op_notN:OpR X (compareOp .IsNot) (fun x y H Q=>y=.non /\ Q (.bl (!decide (x=.non))) H):=by
 intro pins s σ H x y v u Q I rx ry h
 obtain ⟨rfl,q⟩:=h
 cases ry
 refine isnot_none_gen (ZAr I q ?_)
 cases x <;> first
  | (cases rx;rfl)
  | (obtain ⟨t,rfl⟩:=rx;rfl)
theorem ZAI (b:Expr) {op:CmpOp} (h:op≠.In:=by decide) (h2:op≠.NotIn:=by decide):behindInMarks op b=false:=by
 have e1:(op == CmpOp.In)=false:=by cases op <;> first | rfl | exact absurd rfl h
 have e2:(op == CmpOp.NotIn)=false:=by cases op <;> first | rfl | exact absurd rfl h2
 cases b <;> simp [behindInMarks,e1,e2]
theorem ZAo {op:CmpOp} {r:R2} (ho:OpR X (compareOp op) r) (ha:PE X a ta) (hb:PE X b tb) (hm:behindInMarks op b=false):PE X (.Compare a [op] [b] pos) (tOp r ta tb):=by
 intro pins s σ H Q I h
 exact wpAny_Compare1 (binT ha hb I h fun v u s2 x y H2 I2 rx ry q=>ho pins s2 σ H2 x y v u Q I2 rx ry q) hm
noncomputable def ZEJ (t:TE):TT:=fun σ H Q=>t σ H fun x H'=>∃ k,x=.bl k /\ Q k H'
theorem ZAQ {op:CmpOp} {r:R2} (ho:OpR X (compareOp op) r) (ha:PE X a ta) (hb:PE X b tb) (hm:behindInMarks op b=false):PT X (.Compare a [op] [b] pos) (ZEJ (tOp r ta tb)):=by
 intro pins s σ H Q I h
 refine wpAny_isTrue_Compare1 (thn (ha pins s σ H _ I h) fun v s1 ⟨x,H1,I1,r1,q1⟩=>thn (hb pins s1 σ H1 _ I1 q1) fun u s2 ⟨y,H2,I2,r2,q2⟩=>
  thn (ho pins s2 σ H2 x y v u _ I2 r1 r2 q2) fun c s3 ⟨z,H3,I3,r3,k,e,q3⟩=>?_) hm
 subst e
 cases r3
 exact wpAny_truthy_bool ⟨H3,I3,q3⟩
noncomputable def tChain (r r':R2) (ta tb tc:TE):TE:=fun σ H Q=>ta σ H fun x H1=>tb σ H1 fun y H2=>r x y H2 fun z H3=>∃ k,z=.bl k /\
 (if k=true then tc σ H3 fun w' H4=>r' y w' H4 Q else Q (.bl false) H3)
theorem ZDt:(sizeLine:Nat) < 2 ^ 63:=by rw [sizeLine_eq];decide
theorem ZDS {x:V} {us:List Value} (r:Vals [x] us):∃ u,us=[u] /\ RelV x u:=by
 cases r with
 | cons r1 r2=>cases r2;exact ⟨_,rfl,r1⟩
theorem ZEI {x y:V} {us:List Value} (r:Vals [x,y] us):∃ u w',us=[u,w'] /\ RelV x u /\ RelV y w':=by
 cases r with
 | cons r1 r2=>
  cases r2 with
  | cons r3 r4=>cases r4;exact ⟨_,_,rfl,r1,r3⟩
theorem call_max2 (hc:X.calm=true):ZCf X (.builtin "max") (fun xs H Q=>∃ i j,xs=[.int i,.int j] /\ Q (.int (if j > i then j else i)) H):=by
 intro pins s σ H xs us Q I r h
 obtain ⟨i,j,rfl,q⟩:=h
 obtain ⟨u,w',rfl,⟨t,rfl⟩,⟨t',rfl⟩⟩:=ZEI r
 refine max_two_ints (I.ok.hd hc) fun h' tk k=>⟨_,H,I.kept k,?_,q⟩
 by_cases hj:j > i
 .rw [if_pos hj,if_pos hj];exact ⟨_,rfl⟩
 .rw [if_neg hj,if_neg hj];exact ⟨_,rfl⟩
theorem call_min2 (hc:X.calm=true):ZCf X (.builtin "min") (fun xs H Q=>∃ i j,xs=[.int i,.int j] /\ Q (.int (if j < i then j else i)) H):=by
 intro pins s σ H xs us Q I r h
 obtain ⟨i,j,rfl,q⟩:=h
 obtain ⟨u,w',rfl,⟨t,rfl⟩,⟨t',rfl⟩⟩:=ZEI r
 refine min_two_ints (I.ok.hd hc) fun h' tk k=>⟨_,H,I.kept k,?_,q⟩
 by_cases hj:j < i
 .rw [if_pos hj,if_pos hj];exact ⟨_,rfl⟩
 .rw [if_neg hj,if_neg hj];exact ⟨_,rfl⟩
theorem call_int1:ZCf X (.type "int") (fun xs H Q=>(∃ i,xs=[.int i] /\ Q (.int i) H)∨∃ k,xs=[.bl k] /\ Q (.int (if k then 1 else 0)) H):=by
 intro pins s σ H xs us Q I r h
 rcases h with ⟨i,rfl,q⟩ | ⟨k,rfl,q⟩
 .obtain ⟨u,rfl,t,rfl⟩:=ZDS r
  exact call_int_int ⟨.int i,H,I,⟨_,rfl⟩,q⟩
 .obtain ⟨u,rfl,r1⟩:=ZDS r
  cases r1
  exact call_int_bool ⟨.int (if k then 1 else 0),H,I.tok _,⟨_,rfl⟩,q⟩
end
structure ObjM (h:Heap) (x dx C:Addr) (mA:Str->Option Value):Prop where
 obj:h.get? x=some (PySem.W.instObj C dx)
 ns:h.Ns1 dx mA
 ne:dx≠x
theorem lookIn_ns {h:Heap} {dx:Addr} {mA:Str->Option Value} (n:h.Ns1 dx mA):∃ od,h.get? dx=some od /\ ∀ name,PySem.W.lookIn name od=some (mA name):=by
 obtain ⟨o,es,ep,ho,hd,hk,_,hm⟩:=n
 refine ⟨o,ho,fun name=>?_⟩
 have e:=hm name
 unfold nsFind findBy at e
 rw [<- Array.find?_toList] at e
 unfold PySem.W.lookIn
 rw [hd]
 dsimp only
 split
 .rename_i y q
  rw [q] at e
  exact congrArg some e
 .rename_i q
  rw [q] at e
  have a:es.toList.any (·.refKey)=false:=by
   rw [List.any_eq_false]
   intro y hy
   obtain ⟨z,t,hkey⟩:=hk y (Array.mem_toList_iff.mp hy)
   simp [DictEntry.refKey,hkey]
  have a':¬ es.toList.any (·.refKey)=true:=by rw [a];exact yAM
  rw [if_neg a']
  exact congrArg some e
theorem ObjM.look {h:Heap} {x dx C:Addr} {mA:Str->Option Value} (I:ObjM h x dx C mA):∃ od,PySem.W.InstAt h x (PySem.W.instObj C dx) C (some od) /\ ∀ name,PySem.W.lookIn name od=some (mA name) :=
 let ⟨od,ho,hl⟩:=lookIn_ns I.ns
 ⟨od,⟨I.obj,rfl,rfl,ho⟩,hl⟩
section
variable {prog:Program} {w:World} {A:Around} {E:Value->Shared->Prop} {s:Shared} {K:W.Frag} {x dx C f:Addr} {mA:Str->Option Value} {name:Str} {v:Value}
theorem get_map {expr:Bool} {Q:Value->Shared->Prop} (X:K.In s.heap) (I:ObjM s.heap x dx C mA) (hg:PySem.W.plainGet K C name=true) (hh:PySem.W.hasDictIn K C=true)
  (ha:W.findIn K (.ref C) name=some none) (hv:mA name=some v) (hv':PySem.W.handedIn v=true) (h:Q v { s with toks:=s.toks+1 }) :
  wpAny (model prog w) A (getAttr (.ref x) name expr) Q E s:=by
 obtain ⟨od,J,hl⟩:=I.look
 exact PySem.W.get_value X J (PySem.W.plainGet_of hg).1 (PySem.W.findObj_own hh ha rfl (by rw [hl,hv])) hv' h
theorem get_meth {pl:Sem Bool} {Q:Value×List Value->Shared->Prop} (X:K.In s.heap) (I:ObjM s.heap x dx C mA) (hg:PySem.W.plainGet K C name=true)
  (hf:W.findIn K (.ref C) name=some (some (.ref f))) (ht:PySem.W.isFn K (.ref f)=true) (hv:mA name=none) (h:Q (.ref f,[.ref x]) s) :
  wpAny (model prog w) A (getMethod (.ref x) name pl) Q E s:=by
 obtain ⟨od,J,hl⟩:=I.look
 exact PySem.W.method_fn X J (PySem.W.plainGet_of hg).1 (PySem.W.plainGet_of hg).2 hf (beq_iff_eq.mp ht) (by show (PySem.W.lookIn name od).map (·.isSome)=some false;rw [hl,hv];rfl) h
theorem set_map {ns:List Str} {Q:Unit->Shared->Prop} (X:K.In s.heap) (I:ObjM s.heap x dx C mA)
  (hs:W.findIn K (.ref C) "__setattr__"=some (some (.builtin "object.__setattr__"))) (hp:PySem.W.plainOver K C=true) (ht:PySem.W.takerIn K C name=some none) (hh:PySem.W.hasDictIn K C=true)
  (hw:PySem.Within mA ns) (hsz:ns.length <= sizeLine)
  (h:∀ h',ObjM h' x dx C (fun y=>if y=name then some v else mA y)->Heap.SameBut dx s.heap h'->Q () { s with heap:=h',toks:=s.toks+2 }) :
  wpAny (model prog w) A (setAttr (.ref x) name v) Q E s:=by
 obtain ⟨od,J,hl⟩:=I.look
 refine PySem.W.set_plain X J hs (PySem.W.osa_open (s:={ s with toks:=s.toks+1 }) (r:=none) X J hp ht fun b=>?_)
 obtain ⟨cd,hc,hd'⟩:=PySem.W.any_some hh
 have hx:s.heap.get? x=some ⟨.ref C,some dx,.plain,#[]⟩:=I.obj
 refine wpAny_bind (wpAny_pure (wpAny_bind (wpAny_bind (wpAny_loadPart hx (wpAny_bind (PySem.W.Looks.here (s:={ s with toks:=s.toks+1 }) (PySem.W.looks_clsIn X hc) ?_))))))
 rw [hd']
 refine wpAny_pure (a:=some dx) (wpAny_bind (wpAny_pure (wpAny_bind ?_)))
 refine wpAny_nsSet1 (s:={ s with toks:=s.toks+1 }) I.ns fun h' hn2 hs2=>?_
 obtain ⟨oD,esD,epD,hoD,hdD,hcD⟩:=hn2.count (PySem.Within.cons name v hw)
 refine wpAny_bind (wpAny_lookBehind hoD (by rw [hdD];exact pastItsLine_dict (yAF hcD (by rw [yAZ];omega))) ?_)
 exact wpAny_pure (h _ ⟨(hs2.2 _ (Ne.symm I.ne)).trans I.obj,hn2,I.ne⟩ hs2)
theorem make_map {R:Result->Shared->Prop} {vs:List Value} {kw:List (Str×Value)} (X:K.In s.heap) (hm:PySem.W.makesIn K C=true)
  (hi:W.findIn K (.ref C) "__init__"=some (some (.ref f))) (hf:PySem.W.typeIn K (.ref f)=some (.type "function"))
  (h:codeAny (model prog w) (A.under (.builtin "type.__call__" ⟨.ref C::vs,kw⟩)) (.call (.ref f) ⟨.ref (s.heap.objs.size+1)::vs,kw⟩) (PySem.W.InitBack (s.heap.objs.size+1) R)
   { s with heap:=(s.heap.push PySem.W.emptyDict).push (PySem.W.instObj C s.heap.objs.size) }) :
  codeAny (model prog w) A (.call (.ref C) ⟨vs,kw⟩) R s:=by
 obtain ⟨hh,g,d,t,os⟩:=s
 exact PySem.W.make_core (PySem.W.makes_of X hm) (PySem.W.looks_findIn X hi) (fun self=>PySem.W.bind_fn X self hf) (.inl rfl) h
end
noncomputable def putF (f:Str) (v:V):List (Str×V)->List (Str×V)
 | []=>[(f,v)]
 | (g,x)::r=>if g=f then (g,v)::r else (g,x)::putF f v r
theorem ZA3 (f g:Str) (v:V):∀ fs:List (Str×V),(putF f v fs).lookup g=if g=f then some v else fs.lookup g
 | []=>by
  show List.lookup g [(f,v)]=_
  by_cases h:g=f
  .have hb:(g == f)=true:=beq_iff_eq.mpr h
   simp only [List.lookup,hb,if_pos h]
  .have hb:(g == f)=false:=beq_eq_false_iff_ne.mpr h
   simp only [List.lookup,hb,if_neg h]
 | (k,x)::r=>by
  have ih:=ZA3 f g v r
  rw [show putF f v ((k,x)::r)=(if k=f then (k,v)::r else (k,x)::putF f v r) from rfl]
  by_cases hk:k=f
  .rw [if_pos hk]
   by_cases h:g=k
   .have hb:(g == k)=true:=beq_iff_eq.mpr h
    simp only [List.lookup,hb,if_pos (h.trans hk)]
   .have hb:(g == k)=false:=beq_eq_false_iff_ne.mpr h
    simp only [List.lookup,hb,if_neg (fun e:g=f=>h (e.trans hk.symm))]
  .rw [if_neg hk]
   by_cases h:g=k
   .have hb:(g == k)=true:=beq_iff_eq.mpr h
    simp only [List.lookup,hb,if_neg (fun e:g=f=>hk (h.symm.trans e))]
   .have hb:(g == k)=false:=beq_eq_false_iff_ne.mpr h
    simp only [List.lookup,hb]
    exact ih
theorem ZCu (f:Str) (v:V):∀ fs:List (Str×V),f∈(putF f v fs).map (·.1) /\ ∀ g,g∈fs.map (·.1)->g∈(putF f v fs).map (·.1)
 | []=>⟨by simp [putF],fun g h=>by simp at h⟩
 | (k,x)::r=>by
  obtain ⟨i1,i2⟩:=ZCu f v r
  rw [show putF f v ((k,x)::r)=(if k=f then (k,v)::r else (k,x)::putF f v r) from rfl]
  by_cases hk:k=f
  .rw [if_pos hk]
   subst hk
   exact ⟨by simp,fun g h=>by simpa using h⟩
  .rw [if_neg hk]
   refine ⟨?_,fun g h=>?_⟩
   .rw [yAX]
    exact yAT _ i1
   .rw [yAX] at h ⊢
    rcases yAR.mp h with e | e
    .exact yAR.mpr (.inl e)
    .exact yAT _ (i2 g e)
theorem ZCJ (f:Str) (v:V):∀ fs:List (Str×V),(putF f v fs).length <= fs.length+1
 | []=>by simp [putF]
 | (k,x)::r=>by
  have ih:=ZCJ f v r
  rw [show putF f v ((k,x)::r)=(if k=f then (k,v)::r else (k,x)::putF f v r) from rfl]
  by_cases hk:k=f
  .rw [if_pos hk,yAZ,yAZ];omega
  .rw [if_neg hk,yAZ,yAZ];omega
theorem RelO.some_of {v:V} {o:Option Value} (r:RelO (some v) o):∃ u,o=some u /\ RelV v u:=by
 cases o with
 | none=>exact (show False from r).elim
 | some u=>exact ⟨u,rfl,r⟩
theorem RelO.none_of {o:Option Value} (r:RelO none o):o=none:=by
 cases o with
 | none=>rfl
 | some u=>exact (show False from r).elim
theorem handed_of {v:V} {u:Value} (r:RelV v u):PySem.W.handedIn u=true:=by
 cases v with
 | non=>cases (show u=Value.none from r);rfl
 | bl b=>cases (show u=Value.bool b from r);rfl
 | int i=>obtain ⟨t,e⟩:=(show ∃ t,u=Value.int i t from r);cases e;rfl
 | str x=>obtain ⟨t,e⟩:=(show ∃ t,u=Value.str x t from r);cases e;rfl
 | byt b=>obtain ⟨t,e⟩:=(show ∃ t,u=Value.bytes b t from r);cases e;rfl
 | flt b=>obtain ⟨t,e⟩:=(show ∃ t,u=Value.float b t from r);cases e;rfl
 | ref a=>cases (show u=Value.ref a from r);rfl
 | ty n=>cases (show u=Value.type n from r);rfl
section
variable {P:Program} {w:World} {H H':Hp} {h h':Heap} {a C dx:Addr} {fs fs':List (Str×V)}
theorem ZDN (hok:HOk P w H h) (e:H a=some (.ins C dx fs)):∃ mA,ObjM h a dx C mA /\ (∀ f,RelO (fs.lookup f) (mA f)) /\ PySem.Within mA (fs.map (·.1)) /\ fs.length <= 1000 /\ H dx=some (.own a):=by
 obtain ⟨d,z,ne,ob,mA,n,r,q⟩:=(show ObjOk P w H h a (.ins C dx fs) from hok a _ e)
 exact ⟨mA,⟨ob,n,ne⟩,r,q,z,d⟩
end
structure Cls (K:W.Frag) (C:Addr):Prop where
 pg:PySem.W.plainGet K C Str.empty=true
 hd:PySem.W.hasDictIn K C=true
 po:PySem.W.plainOver K C=true
 sa:W.findIn K (.ref C) "__setattr__"=some (some (.builtin "object.__setattr__"))
theorem Cls.get {K:W.Frag} {C:Addr} (c:Cls K C) (f:Str):PySem.W.plainGet K C f=true:=c.pg
noncomputable def NoAttr (K:W.Frag) (C:Addr) (f:Str):Prop:=W.findIn K (.ref C) f=some none
theorem NoAttr.taker {K:W.Frag} {C:Addr} {f:Str} (n:NoAttr K C f):PySem.W.takerIn K C f=some none:=by
 unfold PySem.W.takerIn
 rw [show W.findIn K (.ref C) f=some none from n]
 rfl
structure Meth (K:W.Frag) (C:Addr) (m:Str) (f:Addr):Prop where
 at_:W.findIn K (.ref C) m=some (some (.ref f))
 fn:PySem.W.isFn K (.ref f)=true
 kp:W.keepIn K (.ref f)=true
section
variable {X:Cx} {pins:List (Addr×Obj)} {σ:St} {H:Hp} {s:Shared} {a C dx:Addr} {fs:List (Str×V)} {f:Str} {v:V} {A:Around} {E:Value->Shared->Prop}
theorem getattr_ok {b:Bool} {Q:Value->Shared->Prop} (I:Inv X pins σ H s) (e:H a=some (.ins C dx fs)) (c:Cls X.K C) (n:NoAttr X.K C f) (l:fs.lookup f=some v)
  (h:∀ u s',Inv X pins σ H s'->RelV v u->Q u s'):wpAny (model X.prog X.w) A (getAttr (.ref a) f b) Q E s:=by
 obtain ⟨mA,O,r,_,_,_⟩:=ZDN I.hok e
 obtain ⟨u,hu,ru⟩:=RelO.some_of (v:=v) (o:=mA f) (by rw [<- l];exact r f)
 exact get_map I.kIn O (c.get f) c.hd n hu (handed_of ru) (h u _ (I.tok _) ru)
theorem getmeth_ok {m:Str} {g:Addr} {pl:Sem Bool} {Q:Value×List Value->Shared->Prop} (I:Inv X pins σ H s) (e:H a=some (.ins C dx fs)) (c:Cls X.K C) (k:Meth X.K C m g) (l:fs.lookup m=none)
  (h:Q (.ref g,[.ref a]) s):wpAny (model X.prog X.w) A (getMethod (.ref a) m pl) Q E s:=by
 obtain ⟨mA,O,r,_,_,_⟩:=ZDN I.hok e
 have hn:mA m=none:=RelO.none_of (by rw [<- l];exact r m)
 exact get_meth I.kIn O (c.get m) k.at_ k.fn hn h
theorem setattr_ok {y:V} {u:Value} {Q:Unit->Shared->Prop} (I:Inv X pins σ H s) (e:H a=some (.ins C dx fs)) (c:Cls X.K C) (n:NoAttr X.K C f) (hl:fs.length < 1000) (ry:RelV y u)
  (h:∀ s',Inv X pins σ (upd H a (.ins C dx (putF f y fs))) s'->Q () s'):wpAny (model X.prog X.w) A (setAttr (.ref a) f u) Q E s:=by
 obtain ⟨mA,O,r,wi,_,ho⟩:=ZDN I.hok e
 have hz:(fs.map (·.1)).length <= sizeLine:=by rw [yAB,sizeLine_eq];omega
 refine set_map I.kIn O c.sa c.po n.taker c.hd wi hz fun h' O' sb=>h _ ?_
 have hd:∃ o,h'.get? dx=some o:=let ⟨o,_,_,e',_⟩:=O'.ns;⟨o,e'⟩
 refine I.write (x:=a) (e:=dx) (by rw [e];exact True.intro) (.inr ho) (fun b q hb z=>(sb.2 b hb).trans z) hd ?_
 refine ⟨by rw [ZAO O.ne];exact ho,?_,O.ne,O'.obj,_,O'.ns,fun g=>?_,fun g hg=>?_⟩
 .have:=ZCJ f y fs;omega
 .show RelO ((putF f y fs).lookup g) (if g=f then some u else mA g)
  rw [ZA3]
  by_cases q:g=f
  .rw [if_pos q,if_pos q];exact ry
  .rw [if_neg q,if_neg q];exact r g
 .by_cases q:g=f
  .rw [q];exact (ZCu f y fs).1
  .refine (ZCu f y fs).2 g (wi g fun z=>hg ?_)
   show (if g=f then some u else mA g)=none
   rw [if_neg q];exact z
theorem Inv.made (I:Inv X pins σ H s):Inv X pins σ (upd (upd H s.heap.objs.size (.own (s.heap.objs.size+1))) (s.heap.objs.size+1) (.ins C s.heap.objs.size []))
  { s with heap:=(s.heap.push PySem.W.emptyDict).push (PySem.W.instObj C s.heap.objs.size) }:=by
 have e1:(s.heap.push PySem.W.emptyDict).get? s.heap.objs.size=some PySem.W.emptyDict:=Heap.get?_push_size s.heap rfl
 have e2:((s.heap.push PySem.W.emptyDict).push (PySem.W.instObj C s.heap.objs.size)).get? (s.heap.objs.size+1)=some (PySem.W.instObj C s.heap.objs.size):=by
  have:=Heap.get?_push_size (s.heap.push PySem.W.emptyDict) (o:=PySem.W.instObj C s.heap.objs.size) rfl
  rwa [Heap.size_push] at this
 have e3:(s.heap.push PySem.W.emptyDict).Ns s.heap.objs.size (fun _=>none):=⟨PySem.W.emptyDict,#[],_,e1,rfl,(fun e he=>absurd he (by simp)),fun _=>rfl⟩
 have I1:=I.laid (a:=s.heap.objs.size) (o:=.own (s.heap.objs.size+1)) (h':=s.heap.push PySem.W.emptyDict) (t':=s.toks) (fun b u q=>Heap.get?_push_of_some _ q) (yAA _) ⟨_,e1⟩
 refine I1.laid (a:=s.heap.objs.size+1) (o:=.ins C s.heap.objs.size []) (t':=s.toks) (fun b u q=>Heap.get?_push_of_some _ q) (Nat.le_of_eq (Heap.size_push _ _)) ?_
 have ne:s.heap.objs.size≠s.heap.objs.size+1:=yAG (yBI _)
 refine ⟨by rw [ZAO ne,ZAG],Nat.zero_le _,ne,e2,fun _=>none,(Heap.Ns1.of_empty e3).at fun o q=>Heap.get?_push_of_some _ q,fun _=>True.intro,fun y hy=>absurd rfl hy⟩
theorem attr_of {prog:Program} {w:World} {env:Env} {e:Expr} {f:Str} {pos:Pos} {s:Shared} {Q:Value->Shared->Prop} (hb:attributeBase e f env (eval e env)=eval e env)
  (h:wpAny (model prog w) A (eval e env) (fun o s₁=>wpAny (model prog w) A (getAttr o f true) Q E s₁) E s):wpAny (model prog w) A (eval (.Attribute e f pos) env) Q E s :=
 Attribute_any_ h (by rw [arm_eval_Attribute,hb])
end
noncomputable def tFld (K:W.Frag) (ta:TE) (f:Str):TE:=fun σ H Q=>ta σ H fun x H1=>∃ a C dx fs v,x=.ref a /\ H1 a=some (.ins C dx fs) /\ Cls K C /\ NoAttr K C f /\ fs.lookup f=some v /\ Q v H1
noncomputable def sFld (K:W.Frag) (ta tv:TE) (f:Str):TS:=fun D σ H=>tv σ H fun y H1=>ta σ H1 fun x H2=>∃ a C dx fs,x=.ref a /\ H2 a=some (.ins C dx fs) /\ Cls K C /\ NoAttr K C f /\ fs.length < 1000 /\
 D.nx σ (upd H2 a (.ins C dx (putF f y fs)))
noncomputable def sFldAug (K:W.Frag) (ta tv:TE) (rd:V->V->Hp->VK->Prop) (f:Str):TS:=fun D σ H=>ta σ H fun x H1=>∃ a C dx fs v,x=.ref a /\ H1 a=some (.ins C dx fs) /\ Cls K C /\ NoAttr K C f /\ fs.lookup f=some v /\
 tv σ H1 fun y H2=>rd v y H2 fun z H3=>∃ dx' fs',H3 a=some (.ins C dx' fs') /\ fs'.length < 1000 /\ D.nx σ (upd H3 a (.ins C dx' (putF f z fs')))
section
variable {X:Cx} {o e value:Expr} {f:Str} {pos pos' tpos:Pos} {ta tv:TE}
theorem ZBi (he:PE X e ta) (hb:attributeBase e f X.env (eval e X.env)=eval e X.env):PE X (.Attribute e f pos) (tFld X.K ta f):=by
 intro pins s σ H Q I h
 refine attr_of hb (thn (he pins s σ H _ I h) fun u s1 zz=>?_)
 obtain ⟨x,H1,I1,rx,a,C,dx,fs,v,ex,ea,c,n,l,q⟩:=zz
 subst ex
 obtain rfl:u=Value.ref a:=rx
 exact getattr_ok I1 ea c n l fun u' s2 I2 ru=>⟨v,H1,I2,ru,q⟩
theorem ZCH (ha:PE X o ta) (hv:PE X value tv) (hs:swapsWith value (some (.Attribute o f pos')) pos.line X.env=pure false):PS X (.Assign [.Attribute o f pos'] value pos) (sFld X.K ta tv f):=by
 intro pins s σ H D I h
 refine plainObj_wpAny_Assign_Attribute (thn (hv pins s σ H _ I h) fun u s1 ⟨y,H1,I1,ry,q⟩=>thn (ha pins s1 σ H1 _ I1 q) fun ov s2 zz=>?_) hs
 obtain ⟨x,H2,I2,rx,a,C,dx,fs,ex,ea,c,n,l,q2⟩:=zz
 subst ex
 obtain rfl:ov=Value.ref a:=rx
 exact setattr_ok I2 ea c n l ry fun s3 I3=>⟨σ,_,I3,q2⟩
end
section
variable {X:Cx} {pins:List (Addr×Obj)} {σ:St} {H:Hp} {s:Shared} {A:Around} {E:Value->Shared->Prop} {Q:Value->Shared->Prop} {c:Value} {b:Bool}
inductive TyOf (K:W.Frag) (H:Hp):V->Value->Prop where
 | non:TyOf K H .non (.type "NoneType")
 | bl (x:Bool):TyOf K H (.bl x) (.type "bool")
 | int (i:Int):TyOf K H (.int i) (.type "int")
 | str (x:Str):TyOf K H (.str x) (.type "str")
 | flt (x:UInt64):TyOf K H (.flt x) (.type "float")
 | lst {a:Addr} {xs:List V} (e:H a=some (.lst xs)):TyOf K H (.ref a) (.type "list")
 | frz {a:Addr} {o:Obj} {xs:List V} (e:H a=some (.frz o (.lst xs))):TyOf K H (.ref a) (.type "list")
 | tup {a:Addr} {xs:List V} (e:H a=some (.tup xs)):TyOf K H (.ref a) (.type "tuple")
 | dK {a:Addr} {kvs:List (Key×V)} (e:H a=some (.dK kvs)):TyOf K H (.ref a) (.type "dict")
 | dT {a:Addr} {kvs:List (List Key×V)} (e:H a=some (.dT kvs)):TyOf K H (.ref a) (.type "dict")
 | ins {a C dx:Addr} {fs:List (Str×V)} (e:H a=some (.ins C dx fs)) (cl:Cls K C) (ha:W.findIn K (.ref C) "__class__"=some (some (.builtin "object.__class__")))
   (hn:PySem.W.specialIn K (.builtin "object.__class__") "__get__"=some (some (.builtin "getset_descriptor.__get__"))) (htk:PySem.W.takesIn K (.builtin "object.__class__")=some true)
   (hm:PySem.W.mroIn K C (.type "object")=some true):TyOf K H (.ref a) (.ref C)
theorem isinst_ok {x:V} {u t:Value} (I:Inv X pins σ H s) (rx:RelV x u) (ty:TyOf X.K H x t) (e:PySem.W.kitOne X.K t c=some b) (h:∀ tk,Q (.bool b) { s with toks:=tk }) :
  wpAny (model X.prog X.w) A (call (.builtin "isinstance") [u,c]) Q E s:=by
 cases ty with
 | non=>cases (show u=Value.none from rx);exact PySem.W.kia_one PySem.W.kitx_none I.kIn True.intro e (fun z=>nomatch z) h
 | bl y=>cases (show u=Value.bool y from rx);exact PySem.W.kia_one PySem.W.kitx_bool I.kIn True.intro e (fun z=>nomatch z) h
 | int i=>obtain ⟨t,q⟩:=(show ∃ t,u=Value.int i t from rx);cases q;exact PySem.W.kia_one PySem.W.kitx_int I.kIn True.intro e (fun z=>nomatch z) h
 | str y=>obtain ⟨t,q⟩:=(show ∃ t,u=Value.str y t from rx);cases q;exact PySem.W.kia_one PySem.W.kitx_str I.kIn True.intro e (fun z=>nomatch z) h
 | flt y=>obtain ⟨t,q⟩:=(show ∃ t,u=Value.float y t from rx);cases q;exact PySem.W.kia_one PySem.W.kitx_float I.kIn True.intro e (fun z=>nomatch z) h
 | @lst a xs ea=>
  cases (show u=Value.ref a from rx)
  obtain ⟨_,_,n,_,h1⟩:=(show ObjOk X.prog X.w H s.heap a (.lst xs) from I.hok a _ ea)
  exact PySem.W.kia_one PySem.W.kitx_list I.kIn ⟨_,h1,rfl⟩ e (fun z=>nomatch z) h
 | @frz a ob xs ea=>
  cases (show u=Value.ref a from rx)
  obtain ⟨_,_,_,n,_,h1⟩:=(show ObjOk X.prog X.w H s.heap a (.frz ob (.lst xs)) from I.hok a _ ea)
  exact PySem.W.kia_one PySem.W.kitx_list I.kIn ⟨_,h1,rfl⟩ e (fun z=>nomatch z) h
 | @tup a xs ea=>
  cases (show u=Value.ref a from rx)
  obtain ⟨_,_,_,p⟩:=(show ObjOk X.prog X.w H s.heap a (.tup xs) from I.hok a _ ea)
  obtain ⟨o,h1,h2,_⟩:=p
  exact PySem.W.kia_one PySem.W.kitx_tuple I.kIn ⟨o,h1,h2⟩ e (fun z=>nomatch z) h
 | @dK a kvs ea=>
  cases (show u=Value.ref a from rx)
  obtain ⟨_,_,vs,_,p⟩:=(show ObjOk X.prog X.w H s.heap a (.dK kvs) from I.hok a _ ea)
  obtain ⟨o,es,ep,h1,h2,_⟩:=p
  exact PySem.W.kia_one PySem.W.kitx_dict I.kIn ⟨o,h1,h2.1⟩ e (fun z=>nomatch z) h
 | @dT a kvs ea=>
  cases (show u=Value.ref a from rx)
  obtain ⟨_,_,xs,_,o,es,ep,h1,h2,_⟩:=(show ObjOk X.prog X.w H s.heap a (.dT kvs) from I.hok a _ ea)
  exact PySem.W.kia_one PySem.W.kitx_dict I.kIn ⟨o,h1,h2.1⟩ e (fun z=>nomatch z) h
 | @ins a C dx fs ea cl ha hn htk hm=>
  cases (show u=Value.ref a from rx)
  obtain ⟨mA,O,_⟩:=ZDN I.hok ea
  obtain ⟨od,J,_⟩:=O.look
  exact PySem.W.kia_one (PySem.W.kitx_own (cl.get _) cl.hd ha hn htk hm) I.kIn J e (fun z=>nomatch z) h
end
structure Room (k:Nat) (A:Around):Prop where
 hd:A.handled=none
 dp:A.depth+3 * k+5 < recursionLimit
 un:A.units+16 * k+200 < cLine
 gd:A.guards=some []
theorem Room.mono {j k:Nat} {A:Around} (r:Room k A) (h:j <= k):Room j A:=⟨r.hd,by have:=r.dp;omega,by have:=r.un;omega,r.gd⟩
theorem Room.deeper {k:Nat} {A:Around} (r:Room (k+1) A) (env:Env):Room k (A.deeper env) :=
 ⟨r.hd,by have:=r.dp;show A.depth+1+3 * k+5 < _;omega,by have:=r.un;show A.units+3+16 * k+200 < _;omega,r.gd⟩
theorem make_depth {A:Around} {C:Addr} {us:List Value} {kw:List (Str×Value)}:(A.under (.builtin "type.__call__" ⟨.ref C::us,kw⟩)).depth=A.depth+1:=by
 first | rfl | simp [Around.under,Code.weight,Code.isCreation,Code.isGuard,Code.isCaller,Code.frames,Code.isFrame,guardIds]
theorem make_units {A:Around} {C:Addr} {us:List Value} {kw:List (Str×Value)}:(A.under (.builtin "type.__call__" ⟨.ref C::us,kw⟩)).units=A.units+1:=by
 first | rfl | simp [Around.under,Code.cUnits,Code.frames,Code.isFrame]
theorem Room.make {k:Nat} {A:Around} (r:Room (k+1) A) (C:Addr) (us:List Value) (kw:List (Str×Value)):Room k (A.under (.builtin "type.__call__" ⟨.ref C::us,kw⟩)) :=
 ⟨r.hd,by have:=r.dp;rw [make_depth];omega,by have:=r.un;rw [make_units];omega,by have:=r.gd;first | exact this | simp [Around.under,Code.guards,Code.isGuard,guardIds,this]⟩
theorem Room.depth {k:Nat} {A:Around} (r:Room k A):A.depth < recursionLimit:=by have:=r.dp;omega
theorem Room.units {k:Nat} {A:Around} (r:Room k A):A.units+64 < cLine:=by have:=r.un;omega
noncomputable def tNil:TA:=fun _ H Q=>Q [] H
noncomputable def ZBw (ta:TE) (tr:TA):TA:=fun σ H Q=>ta σ H fun x H1=>tr σ H1 fun xs H2=>Q (x::xs) H2
section
variable {X:Cx} {e:Expr} {es:List Expr} {te:TE} {t:TA} {pos:Pos}
theorem ZAC:PA X [] tNil:=fun _ _ _ _ H Q I h=>Calls.spliced_nil ⟨[],H,I,.nil,h⟩
theorem ZAA (ha:PE X e te) (hr:PA X es t) (hs:starEach (e::es) X.env=(false,eval e X.env)::starEach es X.env:=by rfl):PA X (e::es) (ZBw te t):=by
 intro pos pins s σ H Q I h
 rw [hs]
 show wpAny _ _ (spliced ((false,eval e X.env)::backTo pos (starEach es X.env))) _ _ s
 refine Calls.spliced_cons (thn (ha pins s σ H _ I h) fun u s1 zz=>?_)
 obtain ⟨x,H1,I1,r1,q1⟩:=zz
 exact thn (hr pos pins s1 σ H1 _ I1 q1) fun us s2 ⟨xs,H2,I2,r2,q2⟩=>⟨x::xs,H2,I2,.cons r1 r2,q2⟩
noncomputable def tTup (t:TA):TE:=fun σ H Q=>t σ H fun xs H1=>xs.length <= sizeLine /\ ∀ p,H1 p=none->Q (.ref p) (upd H1 p (.tup xs))
noncomputable def tLst (t:TA):TE:=fun σ H Q=>t σ H fun xs H1=>xs.length <= sizeLine /\ ∀ p,H1 p=none->Q (.ref p) (upd H1 p (.lst xs))
theorem ZB2 {x1} (h:PA X es t):PE X (.Tuple es x1 pos) (tTup t):=by
 intro pins s σ H Q I hq
 refine wpAny_Tuple_spliced (thn (h pos pins s σ H _ I hq) fun us s1 ⟨xs,H1,I1,r,z,q⟩=>⟨by rw [<- r.length];exact z,?_⟩)
 have hf:H1 s1.heap.objs.size=none:=I1.hok.fresh (yAA _)
 refine ⟨.ref s1.heap.objs.size,upd H1 s1.heap.objs.size (.tup xs),I1.laid (t':=s1.toks) (fun b u e=>Heap.get?_push_of_some _ e) (yAA _) ?_,rfl,q _ hf⟩
 exact ⟨z,us,r,⟨_,Heap.get?_push_size _ rfl,rfl,_,rfl⟩⟩
theorem ZB7 (h:PA X es t):PE X (.List es pos) (tLst t):=by
 intro pins s σ H Q I hq
 refine wpAny_List_spliced (thn (h pos pins s σ H _ I hq) fun us s1 ⟨xs,H1,I1,r,z,q⟩=>⟨by rw [<- r.length];exact z,?_⟩)
 have hf:H1 s1.heap.objs.size=none:=I1.hok.fresh (yAA _)
 refine ⟨.ref s1.heap.objs.size,upd H1 s1.heap.objs.size (.lst xs),I1.laid (t':=s1.toks) (fun b u e=>Heap.get?_push_of_some _ e) (yAA _) ?_,rfl,q _ hf⟩
 exact ⟨z,us,0,r,Heap.get?_push_size _ rfl⟩
end
noncomputable abbrev Sp:=List V->Hp->VK->XK->Prop
noncomputable abbrev CXT:=List Env->Hp->Shared->XK->Value->Shared->Prop
structure Env0 (P:Program) (w:World) (K:W.Frag) (mg:Str->Option Value) (base:Heap) (A:Around) (outer:List Env) (s:Shared) (H:Hp):Prop where
 frames:A.frames=some outer
 mod:Mod K mg base
 bs:∀ b o,base.get? b=some o->s.heap.get? b=some o /\ H b=none
 bsz:base.objs.size <= s.heap.objs.size
 funs:s.heap.FunFrames base outer
 frf:∀ b∈frs outer,H b=none
 hok:HOk P w H s.heap
 bare:AllBare s.gens
noncomputable def CE (outer:List Env) (P:Program) (w:World) (H:Hp) (s:Shared) (Q:VK) (u:Value) (s':Shared):Prop :=
 ∃ v H',s'.os=s.os /\ AllBare s'.gens /\ Un (frs outer) [] H H' s.heap s'.heap /\ HOk P w H' s'.heap /\ RelV v u /\ Q v H'
noncomputable def CR (CX:CXT) (outer:List Env) (P:Program) (w:World) (H:Hp) (s:Shared) (Q:VK) (E:XK) (r:Result) (s':Shared):Prop :=
 match r with
 | .ok (.ret u)=>CE outer P w H s Q u s'
 | .ok _=>False
 | .error e=>CX outer H s E e s'
structure FnOk (P:Program) (w:World) (K:W.Frag) (mg:Str->Option Value) (base:Heap) (CX:CXT) (k:Nat) (f:Addr) (fd:FuncData) (ps:List Str) (sp:Sp):Prop where
 len:∀ vs H Q E,sp vs H Q E->vs.length=ps.length
 run:∀ (A:Around) (outer:List Env) (s:Shared) (H:Hp) (args:Args) (us:List Value) (vs:List V) (Q:VK) (E:XK),Room k A->Env0 P w K mg base A outer s H->BindsTo s fd args (ps.zip us)->Vals vs us->sp vs H Q E ->
  codeAny (model P w) A (.call (.ref f) args) (CR CX outer P w H s Q E) s
theorem Env0.make {P:Program} {w:World} {K:W.Frag} {mg:Str->Option Value} {base:Heap} {A:Around} {outer:List Env} {s:Shared} {H:Hp} (e:Env0 P w K mg base A outer s H) (C:Addr) (us:List Value) (kw:List (Str×Value)) :
  Env0 P w K mg base (A.under (.builtin "type.__call__" ⟨.ref C::us,kw⟩)) outer s H:=⟨by first | exact e.frames | (simpa [Around.under,Code.envs,Code.isFrame,pushEnvs] using e.frames),e.mod,e.bs,e.bsz,e.funs,e.frf,e.hok,e.bare⟩
section
variable {X:Cx} {pins:List (Addr×Obj)} {σ:St} {H:Hp} {s s':Shared}
theorem Inv.env0 (I:Inv X pins σ H s):Env0 X.prog X.w X.K X.mg X.base X.A X.stack s H :=
 ⟨I.ok.frames,I.ok.mod,I.bs,yAF I.ok.bsz I.sz,I.stack,I.stkFree,I.hok,I.bare⟩
theorem Inv.after {Q:VK} {u:Value} (I:Inv X pins σ H s) (h:CE X.stack X.prog X.w H s Q u s'):EP X pins σ Q u s':=by
 obtain ⟨v,H',os,bare,un,hok,r,q⟩:=h
 obtain ⟨hh,g,d,t,os'⟩:=s'
 obtain rfl:os'=s.os:=os
 exact ⟨v,H',I.call (h':=hh) (g':=g) (d':=d) (t':=t) (ch:=[]) un hok bare (fun b z=>absurd z (by simp)),r,q⟩
end
noncomputable def ZEG (sp:Sp) (dvs:List V) (E:XK) (t:TA):TE:=fun σ H Q=>t σ H fun vs H1=>sp (vs++dvs) H1 Q E
noncomputable def ZEE (C:Addr) (m:Str) (sp:Sp) (dvs:List V) (E:XK) (ta:TE) (t:TA):TE:=fun σ H Q=>ta σ H fun x H1=>∃ a dx fs,x=.ref a /\ H1 a=some (.ins C dx fs) /\ fs.lookup m=none /\
 t σ H1 fun vs H2=>sp (x::(vs++dvs)) H2 Q E
noncomputable def ZEF (C:Addr) (sp:Sp) (dvs:List V) (E:XK) (t:TA):TE:=fun σ H Q=>t σ H fun vs H1=>∀ x dx,H1 x=none->H1 dx=none->dx≠x ->
 sp (.ref x::(vs++dvs)) (upd (upd H1 dx (.own x)) x (.ins C dx [])) (fun v H2=>v=.non /\ Q (.ref x) H2) E
noncomputable def Binds (K:W.Frag) (fd:FuncData) (ps:List Str) (ds:List Value):Prop :=
 ∀ (s:Shared) (us:List Value),K.In s.heap->(us++ds).length=ps.length->BindsTo s fd ⟨us,[]⟩ (ps.zip (us++ds))
theorem Binds.all {K:W.Frag} {fd:FuncData} {ps:List Str} (h:∀ us:List Value,us.length=ps.length->bindArgs fd ⟨us,[]⟩=pure (ps.zip us)):Binds K fd ps []:=fun s us _ hl=>by
 rw [List.append_nil] at hl ⊢
 exact .of_eq (h us hl)
noncomputable def ZCS (CX:CXT) (X:Cx) (E:XK):Prop:=∀ (pins:List (Addr×Obj)) (σ:St) (H:Hp) (s:Shared) (e:Value) (s':Shared),Inv X pins σ H s->CX X.stack H s E e s'->X.xe e s'
section
variable {X:Cx} {CX:CXT} {k:Nat} {f C:Addr} {fd:FuncData} {ps:List Str} {sp:Sp} {dvs:List V} {ds:List Value} {E:XK} {x m:Str} {p pos apos:Pos} {e o:Expr} {es:List Expr} {ta:TE} {t:TA}
theorem run_fn {pins:List (Addr×Obj)} {σ:St} {H:Hp} {s:Shared} {Q:VK} {us:List Value} {vs:List V} (F:FnOk X.prog X.w X.K X.mg X.base CX k f fd ps sp) (hr:Room k X.A) (hb:Binds X.K fd ps ds) (hd:Vals dvs ds) (hx:ZCS CX X E)
  (I:Inv X pins σ H s) (r:Vals vs us) (h:sp (vs++dvs) H Q E):wpAny (model X.prog X.w) X.A (call (.ref f) us) (EP X pins σ Q) X.xe s:=by
 have r2:Vals (vs++dvs) (us++ds):=r.append hd
 have hl:(us++ds).length=ps.length:=by rw [<- r2.length];exact F.len _ _ _ _ h
 refine wpAny_call (codeAny_mono (F.run X.A X.stack s H ⟨us,[]⟩ (us++ds) (vs++dvs) Q E hr I.env0 (hb s us I.kIn hl) r2 h) fun r s' hq=>?_)
 cases r with
 | error e=>exact hx pins σ H s e s' I hq
 | ok fl=>
  cases fl with
  | ret u=>exact I.after hq
  | next=>exact False.elim hq
  | brk=>exact False.elim hq
  | cont=>exact False.elim hq
theorem pe_call (F:FnOk X.prog X.w X.K X.mg X.base CX k f fd ps sp) (hr:Room k X.A) (hg:Gl X x) (hm:X.mg x=some (.ref f)) (hk:W.keepIn X.K (.ref f)=true) (hb:Binds X.K fd ps ds) (hd:Vals dvs ds) (hx:ZCS CX X E)
  (ha:PA X (e::es) t) (hdb:(x == ("__debug__":Str))=false:=by decide) (he:starEach (e::es) X.env=(false,eval e X.env)::starEach es X.env:=by rfl) (hpl:(backTo pos (starEach es X.env)).any (·.1)=false:=by rfl) :
  PE X (.Call (.Name x p) (e::es) [] pos) (ZEG sp dvs E t):=by
 intro pins s σ H Q I h
 refine wpAny_Call_Name_kw (ZDl I hg hm ?_ hdb)
 refine PySem.W.callWith_K (h₀:=X.base) I.ok.mod.kin hk (thn (ha pos pins s σ H _ I h) fun us s1 ⟨vs,H1,I1,r,q⟩=>⟨I1.kIn,?_⟩) he hpl
 exact run_fn F hr hb hd hx I1 r q
theorem pe_meth {pl:Sem Bool} (he:PE X o ta) (c:Cls X.K C) (hm:Meth X.K C m f) (F:FnOk X.prog X.w X.K X.mg X.base CX k f fd ps sp) (hr:Room k X.A) (hb:Binds X.K fd ps ds) (hd:Vals dvs ds) (hx:ZCS CX X E) (ha:PA X (e::es) t)
  (hst:starEach (e::es) X.env=(false,eval e X.env)::starEach es X.env:=by rfl) (hpl:(backTo pos (starEach es X.env)).any (·.1)=false:=by rfl)
  (ht:eval (.Call (.Attribute o m apos) (e::es) [] pos) X.env=(do
   let ov <- eval o X.env
   standAt apos.atName
   let (f,first) <- holding [ov] (getMethod ov m pl)
   callWith pos f first (backTo pos (starEach (e::es) X.env)) (backToKw pos (keywordEach [] X.env))):=by rfl) :
  PE X (.Call (.Attribute o m apos) (e::es) [] pos) (ZEE C m sp dvs E ta t):=by
 intro pins s σ H Q I h
 refine PySem.W.methodCall_KW (pl:=pl) (thn (he pins s σ H _ I h) fun u s1 zz=>?_) ht
 obtain ⟨x,H1,I1,rx,a,dx,fs,ex,ea,l,q⟩:=zz
 subst ex
 obtain rfl:u=Value.ref a:=rx
 refine getmeth_ok I1 ea c hm l ?_
 refine PySem.W.callWith_K (first:=[.ref a]) (h₀:=X.base) I.ok.mod.kin hm.kp (thn (ha pos pins s1 σ H1 _ I1 q) fun us s2 ⟨vs,H2,I2,r,q2⟩=>⟨I2.kIn,?_⟩) hst hpl
 exact run_fn (us:=.ref a::us) (vs:=.ref a::vs) F hr hb hd hx I2 (.cons rfl r) q2
structure Mk (K:W.Frag) (C f:Addr):Prop where
 makes:PySem.W.makesIn K C=true
 init:W.findIn K (.ref C) "__init__"=some (some (.ref f))
 fn:PySem.W.isFn K (.ref f)=true
 kp:W.keepIn K (.ref C)=true
theorem run_make {pins:List (Addr×Obj)} {σ:St} {H:Hp} {s:Shared} {Q:VK} {us:List Value} {vs:List V} (M:Mk X.K C f) (F:FnOk X.prog X.w X.K X.mg X.base CX k f fd ps sp) (hr:Room (k+1) X.A) (hb:Binds X.K fd ps ds) (hd:Vals dvs ds)
  (hx:ZCS CX X E) (I:Inv X pins σ H s) (r:Vals vs us)
  (h:∀ x dx,H x=none->H dx=none->dx≠x->sp (.ref x::(vs++dvs)) (upd (upd H dx (.own x)) x (.ins C dx [])) (fun v H2=>v=.non /\ Q (.ref x) H2) E) :
  wpAny (model X.prog X.w) X.A (call (.ref C) us) (EP X pins σ Q) X.xe s:=by
 have hq:=h (s.heap.objs.size+1) s.heap.objs.size (I.hok.fresh (yAY _)) (I.hok.fresh (yAA _)) (yAG (yBI _))
 have I2:=Inv.made (C:=C) I
 have r2:Vals (V.ref (s.heap.objs.size+1)::(vs++dvs)) (Value.ref (s.heap.objs.size+1)::(us++ds)):=.cons rfl (r.append hd)
 have hl:(Value.ref (s.heap.objs.size+1)::us++ds).length=ps.length:=by
  have e:=r2.length
  rw [F.len _ _ _ _ hq] at e
  exact e.symm
 refine wpAny_call (make_map (f:=f) I.kIn M.makes M.init (beq_iff_eq.mp M.fn) (codeAny_mono (F.run _ X.stack _ _ ⟨Value.ref (s.heap.objs.size+1)::us,[]⟩ (Value.ref (s.heap.objs.size+1)::(us++ds)) _ _ E (hr.make C us [])
  (I2.env0.make C us []) (hb _ (Value.ref (s.heap.objs.size+1)::us) I2.kIn hl) r2 hq) fun r s' hq'=>?_))
 cases r with
 | error e=>exact hx pins σ _ _ e s' I2 hq'
 | ok fl=>
  cases fl with
  | ret u=>
   obtain ⟨v,H',I3,rv,ev,q3⟩:=I2.after hq'
   subst ev
   exact ⟨rv,⟨V.ref (s.heap.objs.size+1),H',I3,rfl,q3⟩⟩
  | next=>exact False.elim hq'
  | brk=>exact False.elim hq'
  | cont=>exact False.elim hq'
theorem pe_make (M:Mk X.K C f) (F:FnOk X.prog X.w X.K X.mg X.base CX k f fd ps sp) (hr:Room (k+1) X.A) (hg:Gl X x) (hm:X.mg x=some (.ref C)) (hb:Binds X.K fd ps ds) (hd:Vals dvs ds) (hx:ZCS CX X E)
  (ha:PA X (e::es) t) (hdb:(x == ("__debug__":Str))=false:=by decide) (he:starEach (e::es) X.env=(false,eval e X.env)::starEach es X.env:=by rfl) (hpl:(backTo pos (starEach es X.env)).any (·.1)=false:=by rfl) :
  PE X (.Call (.Name x p) (e::es) [] pos) (ZEF C sp dvs E t):=by
 intro pins s σ H Q I h
 refine wpAny_Call_Name_kw (ZDl I hg hm ?_ hdb)
 refine PySem.W.callWith_K (h₀:=X.base) I.ok.mod.kin M.kp (thn (ha pos pins s σ H _ I h) fun us s1 ⟨vs,H1,I1,r,q⟩=>⟨I1.kIn,?_⟩) he hpl
 exact run_make M F hr hb hd hx I1 r q
end
section
variable {X:Cx} {CX:CXT} {k:Nat} {f C:Addr} {fd:FuncData} {ps ks:List Str} {sp:Sp} {E:XK} {x m:Str} {p pos apos kpos:Pos} {e o:Expr} {es:List Expr} {kws:List Keyword} {te ta:TE} {t tk:TA} {nm:Option Str}
variable {g:List Value->List Value->List Value} {gV:List V->List V->List V}
end
structure FnScope (N P:List Str) (sc:Scope):Prop where
 kind:sc.kind=.function
 co:sc.isCoroutine=false
 gen:sc.isGenerator=false
 nd:N.Nodup
 pre:N.take P.length=P
 par:∀ x∈P,sc.names.lookup x=some .local∨sc.names.lookup x=some .cell
 nofree:∀ y∈sc.names,y.2≠.free
theorem bindL_out {kindOf:Str->Option NameKind} {x:Str}:∀ {binds:List (Str×Value)} {m:Str->Option Value},(∀ v,(x,v)∉binds)->bindL kindOf binds m x=m x
 | [],_,_=>rfl
 | (n,v)::r,m,h=>by
  unfold bindL
  rw [bindL_out fun w hw=>h w (yAT _ hw)]
  split
  .have:x≠n:=by rintro rfl;exact h v yAP
   simp [this]
  .rfl
theorem bindC_out {kindOf:Str->Option NameKind} {x:Str}:∀ {binds:List (Str×Value)} {m:Str->Option Value},(∀ v,(x,v)∉binds)->bindC kindOf binds m x=m x
 | [],_,_=>rfl
 | (n,v)::r,m,h=>by
  unfold bindC
  rw [bindC_out fun w hw=>h w (yAT _ hw)]
  split
  .rfl
  .have:x≠n:=by rintro rfl;exact h v yAP
   simp [this]
theorem bindL_get {kindOf:Str->Option NameKind} {x:Str} {v:Value}:∀ {P:List Str} {vs:List Value} {i:Nat} {m:Str->Option Value},P.Nodup->P[i]?=some x->vs[i]?=some v->kindOf x=some .local ->
  bindL kindOf (P.zip vs) m x=some v
 | [],_,_,_,_,h,_,_=>by simp at h
 | _::_,[],_,_,_,_,h,_=>by simp at h
 | p::P,w::vs,0,m,nd,h1,h2,hk=>by
  simp at h1 h2;subst h1;subst h2
  show bindL kindOf ((p,w)::P.zip vs) m p=_
  unfold bindL
  rw [bindL_out fun v hv=>(List.nodup_cons.mp nd).1 (List.of_mem_zip hv).1,if_pos hk]
  simp
 | p::P,w::vs,i+1,m,nd,h1,h2,hk=>by
  show bindL kindOf ((p,w)::P.zip vs) m x=_
  unfold bindL
  exact bindL_get (i:=i) (List.nodup_cons.mp nd).2 (by simpa using h1) (by simpa using h2) hk
theorem bindC_get {kindOf:Str->Option NameKind} {x:Str} {v:Value}:∀ {P:List Str} {vs:List Value} {i:Nat} {m:Str->Option Value},P.Nodup->P[i]?=some x->vs[i]?=some v->kindOf x≠some .local ->
  bindC kindOf (P.zip vs) m x=some v
 | [],_,_,_,_,h,_,_=>by simp at h
 | _::_,[],_,_,_,_,h,_=>by simp at h
 | p::P,w::vs,0,m,nd,h1,h2,hk=>by
  simp at h1 h2;subst h1;subst h2
  show bindC kindOf ((p,w)::P.zip vs) m p=_
  unfold bindC
  rw [bindC_out fun v hv=>(List.nodup_cons.mp nd).1 (List.of_mem_zip hv).1,if_neg hk]
  simp
 | p::P,w::vs,i+1,m,nd,h1,h2,hk=>by
  show bindC kindOf ((p,w)::P.zip vs) m x=_
  unfold bindC
  exact bindC_get (i:=i) (List.nodup_cons.mp nd).2 (by simpa using h1) (by simpa using h2) hk
noncomputable def start (N:List Str) (vs:List V):St:=vs.map some++List.replicate (N.length-vs.length) none
noncomputable def cxOf (CX:CXT) (P:Program) (w:World) (K:W.Frag) (mg:Str->Option Value) (base:Heap) (N:List Str) (qual:Str) (scope:Scope) (f:Addr) (cd:Value) (A:Around) (outer:List Env) (s:Shared) (H:Hp) (E:XK):Cx where
 prog:=P
 w:=w
 K:=K
 mg:=mg
 base:=base
 A:=A.deeper (envOfC qual scope s.heap.objs.size f cd)
 N:=N
 s₀:=s
 H₀:=H
 env:=envOfC qual scope s.heap.objs.size f cd
 outer:=outer
 stack:=envOfC qual scope s.heap.objs.size f cd::outer
 ex:=[]
 calm:=true
 fn:=fun _=>true
 pn:=[]
 xe:=fun e s'=>wpAny (model P w) (A.deeper (envOfC qual scope s.heap.objs.size f cd)) (leaving (envOfC qual scope s.heap.objs.size f cd) e) (fun _ s''=>CX outer H s E e s'') (fun e' s''=>CX outer H s E e' s'') s'
theorem ZCj {sc:Scope} {n:Nat} {x:Str} (h:sc.names.lookup x=some .cell):∃ c,(cellsFrom n sc.names []).lookup x=some c:=by
 have q:=PySem.W.cellsFrom_some sc.names n [] (.inl h)
 exact Option.isSome_iff_exists.mp q
theorem inv_start {CX:CXT} {P:Program} {w:World} {K:W.Frag} {mg:Str->Option Value} {base:Heap} {N ps:List Str} {qual:Str} {scope:Scope} {f:Addr} {cd:Value} {A:Around} {outer:List Env} {s s1:Shared} {H:Hp} {E:XK} {us:List Value} {vs:List V}
  (S:FnScope N ps scope) (hd:A.handled=none) (e0:Env0 P w K mg base A outer s H) (hl:vs.length=ps.length) (r:Vals vs us)
  (x:InCallC s s.heap.objs.size (bindL (envOfC qual scope s.heap.objs.size f cd).kindOf (ps.zip us) fun _=>none) (cellsFrom (s.heap.objs.size+1) scope.names []) (bindC (envOfC qual scope s.heap.objs.size f cd).kindOf (ps.zip us) fun _=>none) s1) :
  Inv (cxOf CX P w K mg base N qual scope f cd A outer s H E) [] (start N vs) H s1:=by
 have hpl:ps.length <= N.length:=by have:=congrArg List.length S.pre;rw [List.length_take] at this;omega
 obtain ⟨h1,tk,rfl,hk⟩:=x.done
 have noA:∀ b:Addr,b∉(cxOf CX P w K mg base N qual scope f cd A outer s H E).ex:=fun b z=>absurd (show b∈([]:List Addr) from z) (by simp)
 refine ⟨⟨e0.mod,S.kind,rfl,rfl,yAA _,fun y z c h1 h2=>?_,fun y hy=>?_,fun y c _ h=>?_,fun _=>hd,Around.frames_deeper e0.frames,.inr ⟨rfl,rfl⟩,fun b z=>absurd z (noA b),e0.bs,e0.bsz,fun b _ _=>noA b,fun b z=>absurd z (noA b),e0.funs,e0.frf⟩,
  rfl,e0.bare,Un.kept hk,⟨_,x.toInCall.ns,fun i y v h1 h2 h3=>?_⟩,fun y c h=>⟨_,x.cell y c h⟩,e0.hok.fresh (yAA _),fun y c h=>?_,fun p hp=>absurd (show p∈([]:List (Addr×Obj)) from hp) (by simp),e0.hok.kept hk,?_⟩
 .exact name_of_addr x.apart (PySem.mem_of_lookup h1) (PySem.mem_of_lookup h2)
 .have hy:scope.names.lookup y=some .cell∨scope.names.lookup y=some .free:=hy
  rcases hy with hy | hy
  .exact ZCj hy
  .exact absurd rfl (S.nofree _ (PySem.mem_of_lookup hy))
 .exact Nat.le_of_lt (x.above y c (PySem.mem_of_lookup h))
 .have hi:i < vs.length:=by
   unfold start at h2
   by_cases hi:i < vs.length
   .exact hi
   .rw [yAS (by simpa using hi)] at h2
    rw [List.getElem?_replicate] at h2
    split at h2 <;> cases h2
  have ha:vs[i]?=some v:=by
   unfold start at h2
   rw [yAN (by simpa using hi),yAJ] at h2
   cases e:vs[i]? with
   | none=>rw [e] at h2;cases h2
   | some a=>rw [e] at h2;cases h2;rfl
  obtain ⟨u,hu,rv⟩:=r.get ha
  have hp:ps[i]?=some y:=by
   rw [<- S.pre,List.getElem?_take_of_lt (by omega)];exact h1
  have ndP:ps.Nodup:=by rw [<- S.pre];exact S.nd.sublist (List.take_sublist _ _)
  refine ⟨u,rv,?_⟩
  rcases S.par y (yAC hp) with k | k
  .exact .inl ⟨k,bindL_get ndP hp hu k⟩
  .obtain ⟨c,e⟩:=ZCj (n:=s.heap.objs.size+1) k
   refine .inr ⟨.inl k,c,e,?_⟩
   have q:=x.cell y c e
   rw [bindC_get ndP hp hu (by show scope.names.lookup y≠_;rw [k];decide)] at q
   exact q
 .exact e0.hok.fresh (Nat.le_of_lt (x.above y c (PySem.mem_of_lookup h)))
 .unfold start
  show _=N.length
  rw [yAD,yAB,yBJ]
  omega
theorem fn_of {CX:CXT} {P:Program} {w:World} {K:W.Frag} {mg:Str->Option Value} {base:Heap} {k:Nat} {f:Addr} {name qual:Str} {params:Arguments} {body:List Stmt} {scope:Scope} {dV kV doc pm cdv ct oc:Value} {an od:Option Addr}
  {osl:Array (Option Value)} {N ps:List Str} {sp:Sp} (lk:K.lookup f=some ⟨oc,od,.func (W.fnOf name qual params body scope dV kV doc pm an cdv ct),osl⟩) (hcd:W.codeIn K cdv qual=true) (S:FnScope N ps scope)
  (len:∀ vs H Q E,sp vs H Q E->vs.length=ps.length)
  (hbody:∀ (A:Around) (outer:List Env) (s:Shared) (H:Hp) (vs:List V) (Q:VK) (E:XK),Room k (A.deeper (envOfC qual scope s.heap.objs.size f cdv))->sp vs H Q E ->
   ∃ t,PSs (cxOf CX P w K mg base N qual scope f cdv A outer s H E) body t /\ t { nx:=fun _ H'=>Q .non H',rt:=Q } (start N vs) H) :
  FnOk P w K mg base CX (k+1) f (W.fnOf name qual params body scope dV kV doc pm an cdv ct) ps sp:=by
 refine ⟨len,fun A outer s H args us vs Q E hr e0 hb r hsp=>?_⟩
 have hl:=len _ _ _ _ hsp
 have KX:K.In s.heap:=e0.mod.kin.keeps fun b o e=>(e0.bs b o e).1
 have lim:s.heap.NoLimit:=e0.mod.nolimit.keeps fun b o e=>(e0.bs b o e).1
 have hkind:∀ y∈ps.zip us,scope.names.lookup y.1=some .local∨(scope.names.lookup y.1=some .cell /\ ((cellsFrom (s.heap.objs.size+1) scope.names []).lookup y.1).isSome=true):=fun ⟨n,v⟩ hy=>by
  rcases S.par n (List.of_mem_zip hy).1 with q | q
  .exact .inl q
  .exact .inr ⟨q,PySem.W.cellsFrom_some _ _ _ (.inl q)⟩
 refine codeAny_call_function hr.depth (KX _ _ lk) rfl S.co S.gen rfl (PySem.W.codeRec_of KX hcd) (hb _ _ _ _ ?_)
 refine wpAny_newFunctionEnv_cells S.kind hkind fun env he s1 x=>?_
 subst he
 refine ⟨lim.keeps x.toInCall.keep,codeAny_func ?_⟩
 obtain ⟨t,ht,hq⟩:=hbody A outer s H vs Q E (hr.deeper _) hsp
 have I:Inv (cxOf CX P w K mg base N qual scope f cdv A outer s H E) [] (start N vs) H s1:=inv_start S hr.hd e0 hl r x
 refine wpAny_mono (ht [] s1 (start N vs) H _ I hq) (fun fl s' hs=>?_) fun e s' hs=>hs
 have fin:∀ {σ':St} {H':Hp} {v:V} {u:Value},Inv (cxOf CX P w K mg base N qual scope f cdv A outer s H E) [] σ' H' s'->RelV v u->Q v H'->CE outer P w H s Q u s' :=
  fun {σ' H' v u} J rv q=>⟨v,H',J.os,J.bare,J.base,J.hok,rv,q⟩
 cases fl with
 | ret u=>
  obtain ⟨v,σ',H',J,rv,q⟩:=hs
  exact fin J rv q
 | next=>
  obtain ⟨σ',H',J,q⟩:=hs
  exact fin (v:=V.non) (u:=Value.none) J rfl q
 | brk=>
  obtain ⟨_,_,_,q⟩:=hs
  exact False.elim q
 | cont=>
  obtain ⟨_,_,_,q⟩:=hs
  exact False.elim q
section
variable {X:Cx} {x:Str} {p pos:Pos} {e:Expr} {es:List Expr} {t:TA} {id T:String} {r:List V->Hp->VK->Prop}
noncomputable def tCB (r:List V->Hp->VK->Prop) (t:TA):TE:=fun σ H Q=>t σ H fun vs H1=>r vs H1 Q
theorem ZAX (hc:ZCf X (.builtin id) r) (hg:Gl X x) (hm:X.mg x=none) (hv:bootBuiltins x=some (.builtin id)) (ha:PA X (e::es) t) (hn:x≠"__name__":=by decide) (hdb:(x == ("__debug__":Str))=false:=by decide)
  (he:starEach (e::es) X.env=(false,eval e X.env)::starEach es X.env:=by rfl) (hpl:(backTo pos (starEach es X.env)).any (·.1)=false:=by rfl):PE X (.Call (.Name x p) (e::es) [] pos) (tCB r t):=by
 intro pins s σ H Q I h
 refine wpAny_Call_Name_kw (ZDW I hg hm hv ?_ hn hdb)
 exact PyProof.Rows.callWith_builtin1 (thn (ha pos pins s σ H _ I h) fun us s1 ⟨vs,H1,I1,r1,q1⟩=>hc pins s1 σ H1 vs us Q I1 r1 q1) he hpl
theorem ZBQ (hc:ZCf X (.type T) r) (hg:Gl X x) (hm:X.mg x=none) (hv:bootBuiltins x=some (.type T)) (ha:PA X (e::es) t) (hn:x≠"__name__":=by decide) (hdb:(x == ("__debug__":Str))=false:=by decide)
  (he:starEach (e::es) X.env=(false,eval e X.env)::starEach es X.env:=by rfl) (hpl:(backTo pos (starEach es X.env)).any (·.1)=false:=by rfl):PE X (.Call (.Name x p) (e::es) [] pos) (tCB r t):=by
 intro pins s σ H Q I h
 refine wpAny_Call_Name_kw (ZDW I hg hm hv ?_ hn hdb)
 exact PyProof.Rows.callWith_type1 (thn (ha pos pins s σ H _ I h) fun us s1 ⟨vs,H1,I1,r1,q1⟩=>hc pins s1 σ H1 vs us Q I1 r1 q1) he hpl
end
end L2
namespace HT
open PySem PyProof.Rows
section
open PySem.SeqAt
open PySem.AutoSeq1 (wpAny_loadPart')
open PySem.MeetsSeq PySem.MeetsSeq2 PySem.MeetsSeq3
end
section
variable {prog:Program} {w:World} {A:Around} {E:Value->Shared->Prop} {s:Shared}
noncomputable def sIx (n d:Nat):Option Int->Nat
 | none=>d
 | some v=>if v < 0 then (v+(n:Int)).toNat else min v.toNat n
end
end HT
namespace L2
open PySem PySem.Spec PyProof.Rows
noncomputable abbrev TO:=St->Hp->(Option Int->Hp->Prop)->Prop
noncomputable def PO (X:Cx) (e:Option Expr) (t:TO):Prop :=
 ∀ (pins:List (Addr×Obj)) (s:Shared) (σ:St) (H:Hp) (Q:Option Int->Hp->Prop),Inv X pins σ H s->t σ H Q ->
  wpAny (model X.prog X.w) X.A (evalPart e X.env) (fun u s'=>∃ o H',Inv X pins σ H' s' /\ IsPart u o /\ Q o H') X.xe s
noncomputable def tNoPart:TO:=fun _ H Q=>Q none H
noncomputable def ZEK (t:TE):TO:=fun σ H Q=>t σ H fun x H1=>∃ i,x=.int i /\ Q (some i) H1
section
variable {X:Cx} {e:Expr} {te:TE} {lo hi:Option Expr} {tl th:TO} {pos p2:Pos}
theorem po_some (h:PE X e te):PO X (some e) (ZEK te):=by
 intro pins s σ H Q I hw
 rw [evalPart_some]
 refine thn (h pins s σ H _ I hw) fun u s1 zz=>?_
 obtain ⟨x,H1,I1,r1,q1⟩:=zz
 obtain ⟨i,rfl,q⟩:=q1
 obtain ⟨t,rfl⟩:=r1
 exact ⟨some i,H1,I1,.int i t,q⟩
noncomputable def SlR (X:Cx) (r:V->Option Int->Option Int->Hp->VK->Prop):Prop :=
 ∀ (pins:List (Addr×Obj)) (s:Shared) (σ:St) (H:Hp) (x:V) (v vl vu:Value) (lo hi:Option Int) (sl:Addr) (Q:VK),Inv X pins σ H s->RelV x v->s.heap.IsSliceOf sl vl vu .none->IsPart vl lo->IsPart vu hi->r x lo hi H Q ->
  ∃ T id,typeLookup (.type T) "__getitem__"=pure (some (.builtin id)) /\ s.TypeIs v T /\ wpAny (model X.prog X.w) X.A (getItem v (.ref sl)) (EP X pins σ Q) X.xe s
noncomputable def tSl (r:V->Option Int->Option Int->Hp->VK->Prop) (te:TE) (tl th:TO):TE:=fun σ H Q=>te σ H fun x H1=>tl σ H1 fun l H2=>th σ H2 fun u H3=>r x l u H3 Q
theorem pe_slice {r:V->Option Int->Option Int->Hp->VK->Prop} (hr:SlR X r) (he:PE X e te) (hl:PO X lo tl) (hu:PO X hi th):PE X (.Subscript e (.Slice lo hi none p2) pos) (tSl r te tl th):=by
 intro pins s σ H Q I h
 refine Subscript_ (thn (he pins s σ H _ I h) fun v s1 zz=>?_)
 obtain ⟨x,H1,I1,r1,q1⟩:=zz
 refine wpAny_Slice (thn (hl pins s1 σ H1 _ I1 q1) fun vl s2 ⟨l,H2,I2,pl,q2⟩=>thn (hu pins s2 σ H2 _ I2 q2) fun vu s3 zz=>?_)
 obtain ⟨u,H3,I3,pu,q3⟩:=zz
 rw [evalPart_none]
 refine wpAny_pure ?_
 have I4:Inv X pins σ H3 { s3 with heap:=s3.heap.push { cls:=.type "slice",data:=.fields #[vl,vu,.none] } }:=I3.kept (t':=s3.toks) fun b ob q=>Heap.get?_push_of_some _ q
 obtain ⟨T,id,hT,ht,hg⟩:=hr pins { s3 with heap:=s3.heap.push { cls:=.type "slice",data:=.fields #[vl,vu,.none] } } σ H3 x v vl vu l u s3.heap.objs.size Q I4 r1 (Heap.IsSliceOf.new ..) pl pu q3
 show wpAny (model X.prog X.w) X.A (subscriptTail e (.Slice lo hi none p2) v (.ref s3.heap.objs.size)) (EP X pins σ Q) X.xe { s3 with heap:=s3.heap.push { cls:=.type "slice",data:=.fields #[vl,vu,.none] } }
 exact tail_any (ops:=[.ref s3.heap.objs.size,v]) ht hT hg (by with_unfolding_all rfl)
noncomputable def cutV (xs:List V) (lo hi:Option Int):List V:=(xs.drop (HT.sIx xs.length 0 lo)).take (HT.sIx xs.length xs.length hi-HT.sIx xs.length 0 lo)
theorem cutV_length (xs:List V) (lo hi:Option Int):(cutV xs lo hi).length <= xs.length:=by
 unfold cutV
 rw [List.length_take,List.length_drop]
 omega
end
noncomputable def ixN (n:Nat) (i:Int):Option Nat:=if 0 <= i then (if i < n then some i.toNat else none) else if -(n:Int) <= i then some (i+n).toNat else none
noncomputable def atI {α:Type} (xs:List α) (i:Int):Option α:=(ixN xs.length i).bind fun j=>xs[j]?
theorem ixN_seq {n:Nat} {i:Int} {j:Nat} (h:ixN n i=some j):seqIndex? i n=some j /\ j < n /\ -(n:Int) <= i /\ i < n:=by
 unfold ixN at h
 by_cases h0:0 <= i
 .rw [if_pos h0] at h
  by_cases h1:i < n
  .rw [if_pos h1] at h
   have e:i.toNat=j:=Option.some.inj h
   exact ⟨by rw [seqIndex_of h0 h1,e],by omega,by omega,h1⟩
  .rw [if_neg h1] at h;cases h
 .rw [if_neg h0] at h
  by_cases h1:-(n:Int) <= i
  .rw [if_pos h1] at h
   have e:(i+n).toNat=j:=Option.some.inj h
   exact ⟨by rw [seqIndex_neg (by omega) h1,e],by omega,h1,by omega⟩
  .rw [if_neg h1] at h;cases h
theorem atI_get {α:Type} {xs:List α} {i:Int} {v:α} (h:atI xs i=some v):∃ j,seqIndex? i xs.length=some j /\ xs[j]?=some v /\ j < xs.length /\ -(xs.length:Int) <= i /\ i < xs.length:=by
 unfold atI at h
 cases e:ixN xs.length i with
 | none=>rw [e] at h;cases h
 | some j=>
  rw [e] at h
  obtain ⟨h1,h2,h3,h4⟩:=ixN_seq e
  exact ⟨j,h1,h,h2,h3,h4⟩
theorem atI_nat {α:Type} {xs:List α} {j:Nat} {v:α} (h:xs[j]?=some v):atI xs (j:Int)=some v:=by
 have hj:j < xs.length:=(yAE.mp h).1
 have e:ixN xs.length (j:Int)=some j:=by
  unfold ixN
  rw [if_pos (by omega),if_pos (by omega)];simp
 unfold atI;rw [e];exact h
noncomputable def PlainIx (b:Expr):Prop:=∀ o i,subscripted b false o i=operate [o,i] (getItem o i)
noncomputable def IxR (X:Cx) (r:R2):Prop :=
 ∀ (value slice:Expr) (pins:List (Addr×Obj)) (s:Shared) (σ:St) (H:Hp) (x y:V) (v u:Value) (Q:VK),Inv X pins σ H s->RelV x v->RelV y u->r x y H Q ->
  subscripted slice false v u=operate [v,u] (getItem v u)->wpAny (model X.prog X.w) X.A (subscriptTail value slice v u) (EP X pins σ Q) X.xe s
noncomputable def MtR (X:Cx) (id:String) (r:V->List V->Hp->VK->Prop):Prop :=
 ∀ (pins:List (Addr×Obj)) (s:Shared) (σ:St) (H:Hp) (x:V) (xs:List V) (v:Value) (us:List Value) (Q:VK),Inv X pins σ H s->RelV x v->Vals xs us->r x xs H Q ->
  wpAny (model X.prog X.w) X.A (call (.builtin id) (v::us)) (EP X pins σ Q) X.xe s
section
variable {X:Cx} {a b:Expr} {ta tb:TE} {pos:Pos}
theorem IxR.or {r r':R2} (h:IxR X r) (h':IxR X r'):IxR X (fun x y H Q=>r x y H Q∨r' x y H Q):=by
 intro value slice pins s σ H x y v u Q I rx ry q hs
 rcases q with q | q
 .exact h value slice pins s σ H x y v u Q I rx ry q hs
 .exact h' value slice pins s σ H x y v u Q I rx ry q hs
theorem ZAS {r:R2} (hr:IxR X r) (ha:PE X a ta) (hb:PE X b tb) (hs:PlainIx b):PE X (.Subscript a b pos) (tOp r ta tb):=by
 intro pins s σ H Q I h
 exact Subscript_ (binT ha hb I h fun v u s2 x y H2 I2 rx ry q=>hr a b pins s2 σ H2 x y v u Q I2 rx ry q (hs _ _))
noncomputable def rIxL (K:W.Frag):R2:=fun x y H Q=>∃ p xs i v,x=.ref p /\ y=.int i /\ SqL K H p xs /\ atI xs i=some v /\ Q v H
noncomputable def rIxT (K:W.Frag):R2:=fun x y H Q=>∃ p xs i v,x=.ref p /\ y=.int i /\ SqT K H p xs /\ atI xs i=some v /\ Q v H
theorem ZAU:IxR X (rIxL X.K):=by
 intro value slice pins s σ H x y v u Q I rx ry h hs
 obtain ⟨p,xs,i,z,rfl,rfl,hq,he,q⟩:=h
 cases rx
 obtain ⟨t,rfl⟩:=ry
 obtain ⟨its,r,pl,hz⟩:=I.list hq
 obtain ⟨j,h1,h2,h3,h4,h5⟩:=atI_get he
 obtain ⟨w,ew,rw'⟩:=r.get h2
 have hl:=r.length
 have hn:=ZDt
 have fin:EP X pins σ Q w s:=⟨z,H,I,rw',q⟩
 by_cases h0:0 <= i
 .have hj:i.toNat=j:=by
   rw [seqIndex_of h0 h5] at h1
   exact Option.some.inj h1
  exact item_listR pl.isList h0 (by omega) (by rw [hj];simpa using ew) fin hs
 .have hj:(i+(its.toArray.size:Int)).toNat=j:=by
   rw [seqIndex_neg (by omega) h4] at h1
   rw [yAK,<- hl]
   exact Option.some.inj h1
  exact subscriptTail_builtinR (x:=w) pl.isList.typeIs slot_list_getitem.lookup
   (wpAny_getItem_list_neg (Q:=fun r s'=>r=w /\ EP X pins σ Q r s') pl.isList (by omega) (by rw [yAK] <;> omega) (by omega) (by rw [hj];simpa using ew) ⟨rfl,fin⟩) hs
theorem ZA2:IxR X (rIxT X.K):=by
 intro value slice pins s σ H x y v u Q I rx ry h hs
 obtain ⟨p,xs,i,z,rfl,rfl,hq,he,q⟩:=h
 cases rx
 obtain ⟨t,rfl⟩:=ry
 obtain ⟨its,r,pl,hz⟩:=I.tuple hq
 obtain ⟨j,h1,h2,h3,h4,h5⟩:=atI_get he
 obtain ⟨w,ew,rw'⟩:=r.get h2
 have hl:=r.length
 have hn:=ZDt
 have fin:EP X pins σ Q w s:=⟨z,H,I,rw',q⟩
 exact subscriptTail_builtinR (x:=w) pl.typeIs slot_tuple_getitem.lookup
  (getItem_tuple (j:=j) (Q:=fun r s'=>r=w /\ EP X pins σ Q r s') pl (by omega) (by omega) (by rw [yAK,<- hl];exact h1) (by simpa using ew) ⟨rfl,fin⟩) hs
theorem mapSeq_set (its:List Value) (n j:Nat) (u:Value):Obj.mapSeq (·.setIfInBounds j u) { cls:=.type "list",data:=.seq its.toArray n }={ cls:=.type "list",data:=.seq (its.set j u).toArray n }:=by
 simp [Obj.mapSeq]
theorem Inv.lst {pins:List (Addr×Obj)} {σ:St} {H:Hp} {s:Shared} {p:Addr} {xs:List V} (I:Inv X pins σ H s) (h:H p=some (.lst xs)) :
  ∃ (its:List Value) (n:Nat),Vals xs its /\ s.heap.get? p=some { cls:=.type "list",data:=.seq its.toArray n } /\ xs.length <= sizeLine:=by
 obtain ⟨z,its,n,r,e⟩:=I.hok p _ h
 exact ⟨its,n,r,e,z⟩
theorem Inv.lstUpd {pins:List (Addr×Obj)} {σ:St} {H:Hp} {s:Shared} {p:Addr} {xs ys:List V} {its its':List Value} {n n':Nat} {f:Obj->Obj} (I:Inv X pins σ H s) (h:H p=some (.lst xs))
  (ho:s.heap.get? p=some { cls:=.type "list",data:=.seq its.toArray n }) (hf:f { cls:=.type "list",data:=.seq its.toArray n }={ cls:=.type "list",data:=.seq its'.toArray n' }) (r:Vals ys its') (hz:ys.length <= sizeLine) (t:Nat) :
  Inv X pins σ (upd H p (.lst ys)) { s with heap:=s.heap.update p f,toks:=t }:=by
 have e:(s.heap.update p f).get? p=some { cls:=.type "list",data:=.seq its'.toArray n' }:=by
  rw [Heap.get?_update_self f ho (by rw [hf] <;> rfl),hf]
 refine I.write (x:=p) (e:=p) (by rw [h];trivial) (.inl rfl) (fun b u hb q=>(Heap.get?_update_other _ _ (Ne.symm hb)).trans q) ⟨_,e⟩ ?_
 exact ⟨hz,its',n',r,e⟩
noncomputable def rSetL:V->V->V->Hp->(Hp->Prop)->Prop:=fun o i v H Q=>∃ p xs k j,o=.ref p /\ i=.int k /\ H p=some (.lst xs) /\ ixN xs.length k=some j /\ Q (upd H p (.lst (xs.set j v)))
theorem set_list:PSet X rSetL:=by
 intro pins s σ H o i v ov iv u Q I ro ri rv h
 obtain ⟨p,xs,k,j,rfl,rfl,hp,hj,q⟩:=h
 cases ro
 obtain ⟨t,rfl⟩:=ri
 obtain ⟨its,n,r,ho,hz⟩:=I.lst hp
 obtain ⟨h1,h2,h3,h4⟩:=ixN_seq hj
 have hl:=r.length
 have hn:=ZDt
 have I':Inv X pins σ (upd H p (.lst (xs.set j v))) { s with heap:=s.heap.update p (Obj.mapSeq (·.setIfInBounds j u)) } :=
  I.lstUpd hp ho (mapSeq_set its n j u) (r.set rv j) (by rw [List.length_set];exact hz) s.toks
 by_cases h0:0 <= k
 .have hk:k.toNat=j:=by
   rw [seqIndex_of h0 h4] at h1
   exact Option.some.inj h1
  exact PySem.W.ki_setAt ho h0 (by omega) (by rw [yAK,<- hl];exact h4) (by rw [hk];exact ⟨_,I',q⟩)
 .have hk:(k+(its.toArray.size:Int)).toNat=j:=by
   rw [seqIndex_neg (by omega) h3] at h1
   rw [yAK,<- hl]
   exact Option.some.inj h1
  exact PySem.W.ki_setBack ho (by omega) (by rw [yAK,<- hl];exact h3) (by omega) (by rw [hk];exact ⟨_,I',q⟩)
theorem slice_bounds (lo hi:Option Int) (n:Nat):(sliceBounds lo hi none n).1=((HT.sIx n 0 lo:Nat):Int) /\ (sliceBounds lo hi none n).2.1=((HT.sIx n n hi:Nat):Int) /\ (sliceBounds lo hi none n).2.2=1:=by
 refine ⟨?_,?_,rfl⟩
 .cases lo with
  | none=>simp [sliceBounds,HT.sIx]
  | some i=>
   simp only [sliceBounds,HT.sIx,Option.getD_none,show (1:Int) > 0 by decide,if_true]
   by_cases h:i < 0
   .simp only [h,if_true] <;> omega
   .simp only [h,if_false] <;> omega
 .cases hi with
  | none=>simp [sliceBounds,HT.sIx]
  | some i=>
   simp only [sliceBounds,HT.sIx,Option.getD_none,show (1:Int) > 0 by decide,if_true]
   by_cases h:i < 0
   .simp only [h,if_true] <;> omega
   .simp only [h,if_false] <;> omega
theorem slicePick_cut (its:List Value) (lo hi:Option Int):slicePick its.toArray lo hi none=((its.drop (HT.sIx its.length 0 lo)).take (HT.sIx its.length its.length hi-HT.sIx its.length 0 lo)).toArray:=by
 obtain ⟨h1,h2,h3⟩:=slice_bounds lo hi its.toArray.size
 unfold slicePick
 rw [h1,h2,h3]
 simp only [sliceRange_one,pick_run,yAK] <;> rfl
noncomputable def rSlL (K:W.Frag):V->Option Int->Option Int->Hp->VK->Prop:=fun x lo hi H Q=>∃ a xs,x=.ref a /\ SqL K H a xs /\ ∀ p,H p=none->Q (.ref p) (upd H p (.lst (cutV xs lo hi)))
theorem sl_list:SlR X (rSlL X.K):=by
 intro pins s σ H x v vl vu lo hi sl Q I rx hs pl pu h
 obtain ⟨a,xs,rfl,hx,q⟩:=h
 cases rx
 obtain ⟨its,r,ht,hz⟩:=I.list hx
 have hlen:=r.length
 refine ⟨"list",_,slot_list_getitem.lookup,ht.isList.typeIs,?_⟩
 refine wpAny_getItem_list_slice ht.isList hs pl pu .none (by simp) ?_ (by rw [yAK] <;> omega)
 rw [slicePick_cut,<- hlen]
 refine ⟨.ref s.heap.objs.size,_,I.laid (t':=s.toks) (o:=.lst (cutV xs lo hi)) (fun b ob q=>Heap.get?_push_of_some _ q) (yAA _) ?_,rfl,q _ (I.hok.fresh (yAA _))⟩
 exact ⟨yAF (cutV_length xs lo hi) hz,_,0,(r.drop (HT.sIx xs.length 0 lo)).take (HT.sIx xs.length xs.length hi-HT.sIx xs.length 0 lo),Heap.get?_push_size _ rfl⟩
theorem ZAP:ZCf X (.builtin "len") (fun xs H Q=>∃ p ys,xs=[.ref p] /\ (SqL X.K H p ys∨SqT X.K H p ys) /\ Q (.int ys.length) H):=by
 intro pins s σ H xs us Q I r h
 obtain ⟨p,ys,rfl,hq,q⟩:=h
 obtain ⟨u,rfl,rx⟩:=ZDS r
 cases rx
 have hn:=ZDt
 rcases hq with hq | hq
 .obtain ⟨its,r',pl,hz⟩:=I.list hq
  have hlen:=r'.length
  exact Calls.call_len_list pl.isList (by simp only [yAK] <;> omega) ⟨.int ys.length,H,I.tok _,⟨s.toks+1,by rw [yAK,hlen]⟩,q⟩
 .obtain ⟨its,r',pl,hz⟩:=I.tuple hq
  have hlen:=r'.length
  exact len_tuple pl (by simp only [yAK] <;> omega) ⟨.int ys.length,H,I.tok _,⟨s.toks+1,by rw [yAK,hlen]⟩,q⟩
theorem ZBY:ZCf X (.type "list") (fun xs H Q=>∃ p ys,xs=[.ref p] /\ (SqL X.K H p ys∨SqT X.K H p ys) /\ ∀ l,H l=none->Q (.ref l) (upd H l (.lst ys))):=by
 intro pins s σ H xs us Q I r h
 obtain ⟨p,ys,rfl,hq,q⟩:=h
 obtain ⟨u,rfl,rx⟩:=ZDS r
 cases rx
 have fin:∀ (its:List Value),Vals ys its->ys.length <= sizeLine->∀ (h':Heap) (c':Nat),(∀ b o',s.heap.get? b=some o'->h'.get? b=some o') ->
   h'.get? s.heap.objs.size=some { cls:=.type "list",dict:=none,data:=.seq its.toArray c',slots:=#[] }->EP X pins σ Q (.ref s.heap.objs.size) { s with heap:=h' }:=fun its r' hz h' c' kp e=>
  ⟨.ref s.heap.objs.size,_,I.laid (t':=s.toks) kp (yAA _) (show ObjOk X.prog X.w _ h' _ (.lst ys) from ⟨hz,its,c',r',e⟩),rfl,q _ (I.hok.fresh (yAA _))⟩
 rcases hq with hq | hq
 .obtain ⟨its,r',pl,hz⟩:=I.list hq
  have hlen:=r'.length
  obtain ⟨o,ho,hc,n,hd⟩:=pl.isList
  exact call_list_seq p (.inl rfl) ho hc hd (fun h' c' kp e=>fin its r' hz h' c' kp e) (by simp only [yAK] <;> omega)
 .obtain ⟨its,r',pl,hz⟩:=I.tuple hq
  have hlen:=r'.length
  obtain ⟨o,ho,hc,n,hd⟩:=pl
  exact call_list_seq p (.inr rfl) ho hc hd (fun h' c' kp e=>fin its r' hz h' c' kp e) (by simp only [yAK] <;> omega)
noncomputable def tyV (K:W.Frag) (T:String) (x:V) (H:Hp):Prop:=match x with
 | .str _=>T="str"
 | .int _=>T="int"
 | .ref p=>(T="list" /\ ∃ xs,SqL K H p xs)∨(T="tuple" /\ ∃ o,K.lookup p=some o /\ o.cls=.type "tuple" /\ o.dict=none) ∨
   (T="dict" /\ ((∃ kvs,H p=some (.dK kvs))∨∃ kvs,H p=some (.dT kvs)))∨(T="set" /\ ∃ S n,H p=some (.set S n))
 | _=>False
theorem tyV_is {pins:List (Addr×Obj)} {σ:St} {H:Hp} {s:Shared} {T:String} {x:V} {v:Value} (I:Inv X pins σ H s) (r:RelV x v) (ty:tyV X.K T x H) :
  s.TypeIs v T /\ ∀ a,v=.ref a->∃ ob,s.heap.get? a=some ob /\ ob.dict=none:=by
 cases x with
 | str z=>
  obtain ⟨t,rfl⟩:=r
  cases (show T="str" from ty)
  exact ⟨typeIs_str s z t,fun _ e=>nomatch e⟩
 | int i=>
  obtain ⟨t,rfl⟩:=r
  cases (show T="int" from ty)
  exact ⟨typeIs_int s i t,fun _ e=>nomatch e⟩
 | ref p=>
  cases r
  rcases ty with ⟨rfl,xs,hq⟩ | ⟨rfl,o,hk,hc,hd⟩ | ⟨rfl,hk⟩ | ⟨rfl,S,n,hk⟩
  .obtain ⟨its,_,pl,_⟩:=I.list hq
   refine ⟨pl.isList.typeIs,fun a e=>?_⟩
   cases e
   obtain ⟨o,n,e,c,hd,_⟩:=pl
   exact ⟨o,e,hd⟩
  .refine ⟨⟨o,I.kIn p o hk,hc⟩,fun a e=>?_⟩
   cases e
   exact ⟨o,I.kIn _ o hk,hd⟩
  .have z:∃ o,s.heap.get? p=some o /\ o.ExactDict:=by
    rcases hk with ⟨kvs,hk⟩ | ⟨kvs,hk⟩
    .obtain ⟨_,_,_,_,o,_,_,e,ex,_⟩:=I.hok p _ hk
     exact ⟨o,e,ex⟩
    .obtain ⟨_,_,_,_,o,_,_,e,ex,_⟩:=I.hok p _ hk
     exact ⟨o,e,ex⟩
   obtain ⟨o,e,ex⟩:=z
   refine ⟨⟨o,e,ex.1⟩,fun a e2=>?_⟩
   cases e2
   exact ⟨o,e,ex.2.1⟩
  .obtain ⟨o,_,_,_,e,ex,_⟩:=I.hok p _ hk
   refine ⟨⟨o,e,ex.1⟩,fun a e2=>?_⟩
   cases e2
   exact ⟨o,e,ex.2.1⟩
 | _=>exact False.elim ty
noncomputable def tBM0 (K:W.Frag) (T:String) (r:V->List V->Hp->VK->Prop) (to:TE):TE:=fun σ H Q=>to σ H fun x H1=>tyV K T x H1 /\ r x [] H1 Q
noncomputable def tBM (K:W.Frag) (T:String) (r:V->List V->Hp->VK->Prop) (to:TE) (t:TA):TE:=fun σ H Q=>to σ H fun x H1=>tyV K T x H1 /\ t σ H1 fun xs H2=>r x xs H2 Q
variable {o e:Expr} {es:List Expr} {to:TE} {t:TA} {name:Str} {apos cpos:Pos} {T id:String} {r:V->List V->Hp->VK->Prop}
theorem ZDV (pa:PlainAttrs T) (slot:Slot T name id) (hty:typeOf (.builtin id)=pure (.type "method_descriptor")) (hm:MtR X id r) (ho:PE X o to) (ha:PA X (e::es) t)
  (hbase:attributeBase o name X.env (eval o X.env)=eval o X.env:=by rfl)
  (hfew:((backTo cpos (starEach (e::es) X.env)).all (fun x=>!x.1) && (backToKw cpos (keywordEach [] X.env)).all (fun x=>x.1.isSome)
   && decide ((e::es).length+([]:List Keyword).length+(if ([]:List Keyword).isEmpty then 0 else 1) < 30))=true:=by rfl)
  (hline:(apos.endLine == cpos.line)=true:=by rfl) (hs:starEach (e::es) X.env=(false,eval e X.env)::starEach es X.env:=by rfl) (hplain:(backTo cpos (starEach es X.env)).any (·.1)=false:=by rfl) :
  PE X (.Call (.Attribute o name apos) (e::es) [] cpos) (tBM X.K T r to t):=by
 intro pins s σ H Q I h
 refine wpAny_Call_method_late hbase hfew hline rfl (thn (ho pins s σ H _ I h) fun v s1 zz=>?_)
 obtain ⟨x,H1,I1,r1,ty,q1⟩:=zz
 obtain ⟨h1,h2⟩:=tyV_is I1 r1 ty
 refine ⟨T,id,pa,slot,hty,h1,h2,?_⟩
 have hA:=ha cpos pins s1 σ H1 _ I1 q1
 rw [hs] at hA ⊢
 refine Calls.callWith_builtin (by show (false || (backTo cpos (starEach es X.env)).any (·.1))=false;rw [hplain] <;> rfl) (Calls.evalArgs_plain ?_)
 exact thn hA fun us s2 ⟨vs,H2,I2,r2,q2⟩=>hm pins s2 σ H2 x vs v us Q I2 r1 r2 q2
end
noncomputable def MtM (X:Cx) (id:String) (r:V->List V->Hp->VK->Prop):Prop :=
 ∀ (pins:List (Addr×Obj)) (s:Shared) (σ:St) (H:Hp) (x:V) (xs:List V) (v:Value) (us:List Value) (Q:VK),Inv X pins σ H s->RelV x v->Vals xs us->r x xs H Q ->
  wpAny (model X.prog X.w) X.A (call (.builtin id) (v::us)) (EP X pins σ Q) X.xe s
theorem Vals.one {x:V} {us:List Value} (r:Vals [x] us):∃ u,us=[u] /\ RelV x u:=ZDS r
section
variable {X:Cx} {pins:List (Addr×Obj)} {σ:St} {H:Hp} {s:Shared} {l b:Addr} {xs ys zs:List V}
theorem Inv.lset {its its':List Value} {n:Nat} {f:Array Value->Array Value} {t':Nat} (I:Inv X pins σ H s) (hH:H l=some (.lst xs))
  (e:s.heap.get? l=some { cls:=.type "list",data:=.seq its.toArray n }) (hf:f its.toArray=its'.toArray) (hv:Vals ys its') (hz:ys.length <= sizeLine) :
  Inv X pins σ (upd H l (.lst ys)) { s with heap:=s.heap.update l (Obj.mapSeq f),toks:=t' }:=by
 have q:=PySem.IsL.update e f
 rw [hf] at q
 refine I.write (x:=l) (e:=l) (by rw [hH];exact trivial) (.inl rfl) (fun b' u hb hu=>(Heap.get?_update_other s.heap (Obj.mapSeq f) (Ne.symm hb)).trans hu) ⟨_,q⟩ ?_
 exact ⟨hz,its',_,hv,q⟩
theorem Inv.lstM (I:Inv X pins σ H s) (hH:H l=some (.lst xs)):xs.length <= sizeLine /\ ∃ (its:List Value) (n:Nat),Vals xs its /\ xs.length=its.length /\ s.heap.get? l=some { cls:=.type "list",data:=.seq its.toArray n }:=by
 obtain ⟨z,its,n,r,e⟩:=I.hok l _ hH
 exact ⟨z,its,n,r,r.length,e⟩
end
section
variable {X:Cx}
noncomputable def rAppend:V->List V->Hp->VK->Prop:=fun x vs H Q=>∃ l xs y,x=.ref l /\ vs=[y] /\ H l=some (.lst xs) /\ xs.length < sizeLine /\ Q .non (upd H l (.lst (xs++[y])))
theorem ZBX:MtM X "list.append" rAppend:=by
 intro pins s σ H x vs v us Q I rx rv h
 obtain ⟨l,xs,y,rfl,rfl,hH,hz,q⟩:=h
 cases rx
 obtain ⟨u,rfl,ru⟩:=rv.one
 obtain ⟨z,its,n,r,hl,e⟩:=I.lstM hH
 refine call_meets F.slot_list_append ⟨_,e,rfl⟩ F.entry_list_append (F.args_list_append_2 _ _) (PySem.list_append l its.toArray n u (by rw [yAK];omega)) ⟨e,?_⟩
 refine ⟨.non,_,I.lset (its':=its++[u]) hH e (by simp) (r.append (.cons ru .nil)) ?_,rfl,q⟩
 rw [yAD,List.length_singleton]
 omega
end
section
variable {prog:Program} {w:World} {A:Around} {E:Value->Shared->Prop} {s:Shared}
set_option maxRecDepth 100000 in
end
section
variable {X:Cx}
end
end L2
namespace Att
open PySem PySem.W PySem.Calls PyProof.Rows
theorem ints_of_wellAll {P:Params} {h:Heap}:∀ (ns:List Int) (vs:List Value),WellAll P h vs (ns.map WData.int)->IntsAre vs ns:=by
 intro ns
 induction ns with
 | nil=>
  intro vs w
  rw [List.map_nil] at w
  cases w
  exact .nil
 | cons n ns ih=>
  intro vs w
  rw [yAX] at w
  cases w with
  | cons a b=>
   cases a
   exact .cons _ _ (ih _ b)
theorem script_of {l:OpenLaw} {n:Nat} (hn:l.most=some n) {P:Params} {h:Heap} {args:List WData} {vals:List Value}
  (hpre:l.row.toRowW.claim.pre args=true) (hwl:WellAll P h vals args) :
  ∃ a vs ns,vals=[Value.ref a] /\ args=[WData.list (ns.map WData.int)] /\ h.get? a=some { cls:=.type "list",data:=.seq vs.toArray } /\ IntsAre vs ns /\ ns.length <= n:=by
 have hsh:WShape.hasAll [] args [.list .int]=true:=(pre_splitW hpre).1
 have hc:l.pre.holds [] { args:=args }=true:=(pre_splitW hpre).2
 obtain ⟨d,r,rfl,h1,h2⟩:=hasAllW_cons hsh
 obtain rfl:=hasAllW_nil h2
 obtain ⟨xs,rfl,h3⟩:=hasW_list h1
 obtain ⟨ns,rfl⟩:=items_int h3
 have hlen:ns.length <= n:=by
  unfold OpenLaw.pre at hc
  have h4:(WTm.not (.lt (.lit (.int (n:Int))) (.len (.arg 0)))).holds [] { args:=[.list (ns.map .int)] }=true:=by
   have h4:=(holds_andW hc).1
   rw [hn] at h4
   exact h4
  have h5:=condW_of h4 (w_not (w_lt w_lit (w_len_list (w_arg rfl))))
  rw [yAB] at h5
  refine Nat.le_of_not_lt fun q=>?_
  have q':(n:Int) < ((ns.length:Nat):Int):=by omega
  first
   | (rw [decide_eq_true q'] at h5;exact absurd h5 (by decide))
   | (simp at h5;omega)
 cases hwl with
 | cons w1 w2=>
  cases w2
  cases w1 with
  | list ho hall=>exact ⟨_,_,ns,rfl,rfl,ho,ints_of_wellAll ns _ hall,hlen⟩
theorem post_true (l:OpenLaw) (args:List WData):l.row.toRowW.claim.post args (.bool true) args=true :=
 postW_of (r:=l.row.toRowW) (X:=(true == true))
  (show WShape.has [] (.bool true) .bool=true by first | rfl | decide | simp [WShape.has,WShape.arms,WShape.armsAll])
  (show (WTm.eq .res (.lit (.bool true))).value [] { args:=args,res:=some (.bool true),after:=args }=some (.bool (true == true)) from w_eq_bool (w_res rfl) w_lit) rfl
theorem attach_call {l:OpenLaw} {n:Nat} {q:Program} {loose:List Str} {XP:(Str->Option Value)->Heap->Prop} {YP:World->Heap->Prop} {d:DefRec}
  (hn:l.most=some n) (hdf:d.params.defaults=[])
  (call:∀ (w:World) (s₀ s₁:Shared) (mg mb:Str->Option Value) (fa:Addr) (o:Obj) (pm cd doc:Value) (a:Addr) (vs:List Value) (ns:List Int),
   Ground q loose [] XP w s₀ mg mb s₁.heap->YP w s₁.heap ->
   s₁.heap.get? fa=some o->o.data=.func (docDef d.name d.params d.body d.scope pm cd doc)->s₁.heap.CodeRec cd d.name->mg d.name=some (.ref fa) ->
   s₁.heap.get? a=some { cls:=.type "list",data:=.seq vs.toArray }->IntsAre vs ns->ns.length <= n->s₁.gens=#[] ->
   codeAny (model l.prog w) callerA (.call (.ref fa) ⟨[.ref a],[]⟩) (fun r s'=>r=.ok (.ret (.bool true)) /\ OldK s₁.heap s'.heap /\ s'.os=s₁.os /\ AllBare s'.gens) s₁) :
  WalkO q loose XP YP l.row.toRowW d [] (fun f vs=>PySem.call f vs):=by
 intro w s₀ s₁ mg mb G Y fa o pm cd doc dV kV ho hd hcd hD hmg hg args vals as hpre hlay hrd hwl hlo
 obtain rfl:dV=.none:=Dflts.none hD hdf
 obtain rfl:kV=.none:=Dflts.noKw hD
 obtain ⟨a,vs,ns,rfl,rfl,hobj,hints,hlen⟩:=script_of hn hpre hwl
 refine enter_call (codeAny_mono (call w s₀ s₁ mg mb fa o pm cd doc a vs ns G Y ho (fd_plain hd) hcd hmg hobj hints hlen hg) fun r s' hq=>?_)
 obtain ⟨rfl,h2,h3,h4⟩:=hq
 exact ⟨.inl ⟨.bool true,.bool true,[],rfl,fun _=>rfl,.bool true,post_true l _,fun _=>⟨List.Pairwise.nil,fun _ hm=>(nomatch hm)⟩⟩,h2,h3,h4⟩
section
variable {prog:Program} {w:World} {A:Around} {E:Value->Shared->Prop} {s:Shared} {K:Frag}
end
end Att
namespace L2
open PySem PySem.Spec PyProof.Rows
theorem vals_ints:∀ {vs:List Value} {ns:List Int},IntsAre vs ns->Vals (ns.map V.int) vs
 | _,_,.nil=>.nil
 | _,_,.cons n t h=>.cons ⟨t,rfl⟩ (vals_ints h)
end L2
namespace L2
open PySem PySem.Spec PyProof.Rows
noncomputable def ZBS (s:Stmt) (j:Nat):Stmt:=match s with
 | .ClassDef _ _ _ body _ _ _ _ _ _ _=>body.getD j (.Pass ⟨0,0,0,0⟩)
 | _=>.Pass ⟨0,0,0,0⟩
noncomputable def ZAJ (s:Stmt):Arguments:=match s with
 | .FunctionDef _ a _ _ _ _ _ _ _ _=>a
 | _=>{ posonlyargs:=[],args:=[],vararg:=none,kwonlyargs:=[],kw_defaults:=[],kwarg:=none,defaults:=[] }
noncomputable def ZAH (s:Stmt):List Stmt:=match s with
 | .FunctionDef _ _ b _ _ _ _ _ _ _=>b
 | _=>[]
noncomputable def ZAB (s:Stmt):Scope:=match s with
 | .FunctionDef _ _ _ _ _ _ sc _ _ _=>sc
 | _=>{ kind:=.function,names:=[],isGenerator:=false,isCoroutine:=false }
noncomputable abbrev CX0:CXT:=fun _ _ _ _ _ _=>False
noncomputable abbrev E0:XK:=fun _ _ _=>False
theorem ZAW {X:Cx}:ZCS CX0 X E0:=fun _ _ _ _ _ _ _ h=>h.elim
structure Fun (K:W.Frag) (x qual:Str) (st:Stmt) (f:Addr) (fd:FuncData):Prop where
 ex:∃ (oc:Value) (od:Option Addr) (kV doc pm:Value) (an:Option Addr) (cdv ct:Value) (osl:Array (Option Value)),
  fd=W.fnOf x qual (ZAJ st) (ZAH st) (ZAB st) .none kV doc pm an cdv ct /\ K.lookup f=some ⟨oc,od,.func fd,osl⟩ /\ W.codeIn K cdv qual=true
 kp:W.keepIn K (.ref f)=true
section
variable {P:Program} {w:World} {K:W.Frag} {mg:Str->Option Value} {base:Heap}
theorem Fun.ok {x qual:Str} {st:Stmt} {f:Addr} {fd:FuncData} {N ps:List Str} {k:Nat} {sp:Sp} (F:Fun K x qual st f fd) (S:FnScope N ps (ZAB st)) (len:∀ vs H Q E,sp vs H Q E->vs.length=ps.length)
  (hbody:∀ (cdv:Value) (A:Around) (outer:List Env) (s:Shared) (H:Hp) (vs:List V) (Q:VK) (E:XK),Room k (A.deeper (envOfC qual (ZAB st) s.heap.objs.size f cdv))->sp vs H Q E ->
   ∃ t,PSs (cxOf CX0 P w K mg base N qual (ZAB st) f cdv A outer s H E).nox (ZAH st) t /\ t { nx:=fun _ H'=>Q .non H',rt:=Q } (start N vs) H):FnOk P w K mg base CX0 (k+1) f fd ps sp:=by
 obtain ⟨oc,od,kV,doc,pm,an,cdv,ct,osl,rfl,lk,hcd⟩:=F.ex
 refine fn_of lk hcd S len fun A outer s H vs Q E hr hsp=>?_
 obtain ⟨t,h,q⟩:=hbody cdv A outer s H vs Q E hr hsp
 exact ⟨t,h.nox,q⟩
theorem Fun.binds {x qual:Str} {st:Stmt} {f:Addr} {fd:FuncData} {ps:List Str} (F:Fun K x qual st f fd)
  (h:∀ (kV doc pm:Value) (an:Option Addr) (cdv ct:Value) (us:List Value),us.length=ps.length->bindArgs (W.fnOf x qual (ZAJ st) (ZAH st) (ZAB st) .none kV doc pm an cdv ct) ⟨us,[]⟩=pure (ps.zip us)):Binds K fd ps []:=by
 obtain ⟨oc,od,kV,doc,pm,an,cdv,ct,osl,rfl,lk,hcd⟩:=F.ex
 exact .all (h kV doc pm an cdv ct)
theorem ZAZ {x qual:Str} {st:Stmt} {f:Addr} {oc:Value} {od an:Option Addr} {osl:Array (Option Value)} {kV doc pm cdv ct:Value} (l:K.lookup f=some ⟨oc,od,.func (W.fnOf x qual (ZAJ st) (ZAH st) (ZAB st) .none kV doc pm an cdv ct),osl⟩)
  (c:W.codeIn K cdv qual=true) (k:W.keepIn K (.ref f)=true):Fun K x qual st f (W.fnOf x qual (ZAJ st) (ZAH st) (ZAB st) .none kV doc pm an cdv ct):=⟨⟨oc,od,kV,doc,pm,an,cdv,ct,osl,rfl,l,c⟩,k⟩
end
theorem ZB4 {n:Nat} (h:n <= 1000):n < sizeLine:=Nat.lt_of_le_of_lt h (by decide)
section
variable {X:Cx}
theorem pv (i:Nat) {x:Str} {pos:Pos} (hN:X.N[i]?=some x:=by rfl) (hv:Vis X.env.scope x:=by first | exact Or.inl rfl | exact Or.inr (Or.inl rfl) | exact Or.inr (Or.inr rfl)) (hd:(x == ("__debug__":Str))=false:=by decide)
  (hcd:(x == ("__classdict__":Str))=false:=by decide):PE X (.Name x pos) (tVar i):=pe_var hN hv hd hcd
end
noncomputable def Same (H H':Hp):Prop:=∀ b o,H b=some o->H' b=some o
theorem Same.refl (H:Hp):Same H H:=fun _ _ h=>h
theorem Same.trans {H H1 H2:Hp} (a:Same H H1) (b:Same H1 H2):Same H H2:=fun c o h=>b c o (a c o h)
theorem Same.free {H H':Hp} (e:Same H H') {l:Addr} (h:H' l=Option.none):H l=Option.none:=by
 cases q:H l with
 | none=>rfl
 | some o=>
  rw [e l o q] at h
  cases h
theorem Same.seq {K:W.Frag} {H H':Hp} {a:Addr} {xs:List V} (e:Same H H') (h:SqL K H a xs):SqL K H' a xs:=by
 rcases h with (h | ⟨o,h⟩) | h
 .exact .inl (.inl (e _ _ h))
 .exact .inl (.inr ⟨o,e _ _ h⟩)
 .exact .inr h
end L2
set_option maxHeartbeats 4000000
namespace L2
open PySem PySem.Spec PyProof.Rows
theorem natlt {a b:Addr} (h:a < b):@LT.lt Nat _ a b:=h
theorem ZCz {a b:Addr} {n:Nat} (h:a < n) (k:n <= b):a≠b:=yAG (yAI h k)
theorem ZBJ:∀ (names:List (Str×NameKind)) (n:Nat) (acc:List (Str×Addr)),cellsFrom n names acc=cellsFrom n names []++acc
 | [],_,_=>rfl
 | (x,k)::r,n,acc=>by
  unfold cellsFrom
  split
  .rw [ZBJ r (n+1) ((x,n)::acc),ZBJ r (n+1) [(x,n)],List.append_assoc];rfl
  .exact ZBJ r n acc
theorem ZB1:∀ (names:List (Str×NameKind)) (n:Nat) (acc:List (Str×Addr)) (y:Str) (c:Addr),(y,c)∈cellsFrom n names acc->(y,c)∈acc∨((y,NameKind.cell)∈names /\ n <= c)
 | [],_,_,_,_,h=>.inl h
 | (x,k)::r,n,acc,y,c,h=>by
  unfold cellsFrom at h
  split at h
  .rename_i hk
   have hk':k=.cell:=by simpa using hk
   rcases ZB1 r (n+1) _ y c h with h | ⟨h,l⟩
   .rcases yAR.mp h with e | h
    .cases e;subst hk';exact .inr ⟨yAP,yAA _⟩
    .exact .inl h
   .exact .inr ⟨yAT _ h,Nat.le_of_succ_le l⟩
  .rcases ZB1 r n _ y c h with h | ⟨h,l⟩
   .exact .inl h
   .exact .inr ⟨yAT _ h,l⟩
noncomputable def closFrom (cells:List (Str×Addr)):List (Str×NameKind)->List (Str×Addr)->List (Str×Addr)
 | [],acc=>acc
 | (x,k)::r,acc=>if k == .free then closFrom cells r ((x,(cells.lookup x).getD 0)::acc) else closFrom cells r acc
theorem ZBl {cells:List (Str×Addr)}:∀ (names:List (Str×NameKind)) (acc:List (Str×Addr)) (y:Str) (c:Addr),(y,c)∈closFrom cells names acc->(y,c)∈acc∨((y,NameKind.free)∈names /\ c=(cells.lookup y).getD 0)
 | [],_,_,_,h=>.inl h
 | (x,k)::r,acc,y,c,h=>by
  unfold closFrom at h
  split at h
  .rename_i hk
   have hk':k=.free:=by simpa using hk
   rcases ZBl r _ y c h with h | ⟨h,l⟩
   .rcases yAR.mp h with e | h
    .cases e;subst hk';exact .inr ⟨yAP,rfl⟩
    .exact .inl h
   .exact .inr ⟨yAT _ h,l⟩
  .rcases ZBl r _ y c h with h | ⟨h,l⟩
   .exact .inl h
   .exact .inr ⟨yAT _ h,l⟩
theorem ZB9 {cells:List (Str×Addr)}:∀ (names:List (Str×NameKind)) (acc:List (Str×Addr)) (p:Str×Addr),p∈acc->p∈closFrom cells names acc
 | [],_,_,h=>h
 | (x,k)::r,acc,p,h=>by
  unfold closFrom
  split
  .exact ZB9 r _ p (yAT _ h)
  .exact ZB9 r _ p h
theorem ZBm {cells:List (Str×Addr)}:∀ (names:List (Str×NameKind)) (acc:List (Str×Addr)) (y:Str),(y,NameKind.free)∈names->(y,(cells.lookup y).getD 0)∈closFrom cells names acc
 | [],_,_,h=>nomatch h
 | (x,k)::r,acc,y,h=>by
  unfold closFrom
  rcases yAR.mp h with e | h
  .cases e
   rw [if_pos (by rfl)]
   exact ZB9 r _ _ yAP
  .split
   .exact ZBm r _ y h
   .exact ZBm r _ y h
theorem ZBb {α:Type}:∀ {l:List (Str×α)} {y:Str} {c:α},(y,c)∈l->∃ c',l.lookup y=some c'
 | (k,v)::r,y,c,h=>by
  rw [yBC]
  cases hb:y == k with
  | true=>exact ⟨v,rfl⟩
  | false=>
   rcases yAR.mp h with e | h
   .cases e;rw [beq_self_eq_true] at hb;cases hb
   .exact ZBb h
theorem ZB0 {env:Env} (f:Str×NameKind->List (Str×Addr)->Sem (ForInStep (List (Str×Addr))))
  (hf:∀ name kind cs,f (name,kind) cs=if kind == .free then (do let a <- cellOf env name;pure (.yield ((name,a)::cs))) else pure (.yield cs)) :
  ∀ (names:List (Str×NameKind)) (acc:List (Str×Addr)),(∀ x,(x,NameKind.free)∈names->∃ c,env.cells.lookup x=some c)->forIn names acc f=(pure (closFrom env.cells names acc):Sem (List (Str×Addr)))
 | [],acc,_=>by rw [List.forIn_nil];rfl
 | (x,k)::r,acc,h=>by
  have hr:∀ x,(x,NameKind.free)∈r->∃ c,env.cells.lookup x=some c:=fun y hy=>h y (yAT _ hy)
  rw [List.forIn_cons,hf]
  unfold closFrom
  split
  .rename_i hk
   have hk':k=.free:=by simpa using hk
   subst hk'
   obtain ⟨c,hc⟩:=h x yAP
   have e:cellOf env x=(pure c:Sem Addr):=by unfold cellOf;rw [hc]
   rw [e,hc]
   exact ZB0 f hf r ((x,c)::acc) hr
  .exact ZB0 f hf r acc hr
theorem closureFor_eq {scope:Scope} {env:Env} (h:∀ x,(x,NameKind.free)∈scope.names->∃ c,env.cells.lookup x=some c):closureFor scope env=pure (closFrom env.cells scope.names []):=by
 simp only [closureFor]
 rw [ZB0 _ (fun name kind cs=>by cases hk:kind == NameKind.free <;> simp [hk]) scope.names [] h]
 rfl
section
variable {M:Model} {A:Around} {E:Value->Shared->Prop} {s:Shared}
theorem newEnv_comp {scope:Scope} {globals:Addr} {cl:List (Str×Addr)} {qual:Str} {env:Env} {Q:Env->Shared->Prop}
  (hQ:Q { scope:=scope,locals:=s.heap.objs.size,globals:=globals,cells:=cellsFrom (s.heap.objs.size+1) scope.names cl,qual:=qual,func:=none,code:=env.code,frame:=env.frame,builtins:=env.builtins }
   { s with heap:=pushCells (s.heap.push { cls:=.type "dict",data:=.dict #[] }) scope.names }) :
  wpAny M A (newFunctionEnv scope globals cl [] qual none .none (some env)) Q E s:=by
 simp only [newFunctionEnv,Option.isSome_some,if_true]
 refine wpAny_bind (wpAny_alloc ?_)
 refine wpAny_bind (wpAny_layCells _ (fun name kind cells=>by cases hkc:kind == NameKind.cell <;> simp [hkc]) _ _ _ _ ?_)
 rw [show ({ s with heap:=s.heap.push { cls:=.type "dict",data:=.dict #[] } }:Shared).heap.objs.size=s.heap.objs.size+1 from Heap.size_push ..]
 rw [List.forIn_nil]
 exact wpAny_bind (wpAny_pure (wpAny_pure hQ))
end
theorem relabel_lookup {scope:Scope} {env:Env} (x:Str):(relabel scope env).names.lookup x=(scope.names.lookup x).map fun k=>if (k == .free && env.scope.kind == .function && env.kindOf x == some .cell)=true then NameKind.cell else k:=by
 unfold relabel
 dsimp only
 generalize scope.names=names
 induction names with
 | nil=>rfl
 | cons p r ih=>
  obtain ⟨n,k⟩:=p
  rw [yAX,yBC (as:=r)]
  cases hx:x == n with
  | true=>
   have e:x=n:=beq_iff_eq.mp hx
   subst e
   by_cases hc:(k == NameKind.free && env.scope.kind == .function && env.kindOf x == some .cell)=true
   .simp only [hc,if_true,yBC,hx,Option.map_some]
   .simp only [hc,Bool.false_eq_true,if_false,yBC,hx,Option.map_some]
  | false=>
   by_cases hc:(k == NameKind.free && env.scope.kind == .function && env.kindOf n == some .cell)=true
   .simp only [hc,if_true,yBC,hx];exact ih
   .simp only [hc,Bool.false_eq_true,if_false,yBC,hx];exact ih
noncomputable def ZCi (N:List Str) (osc:Scope) (k:Nat) (js:List Nat) (N':List Str) (sc:Scope):Bool :=
 decide (sc.kind=.function) && decide (N'.length=k+js.length) && decide N'.Nodup &&
 sc.names.all (fun p=>decide (sc.names.lookup p.1=some p.2) && (decide (p.2≠.free) || decide (osc.names.lookup p.1=some .cell) || decide (osc.names.lookup p.1=some .free))) &&
 (List.range js.length).all (fun i=>decide (js[i]?.bind (fun j=>N[j]?)=N'[k+i]?) && decide ((N'[k+i]?).bind (fun y=>sc.names.lookup y)=some .free))
structure CmpOk (N:List Str) (osc:Scope) (k:Nat) (js:List Nat) (N':List Str) (sc:Scope):Prop where
 kind:sc.kind=.function
 len:N'.length=k+js.length
 nd:N'.Nodup
 look:∀ p∈sc.names,sc.names.lookup p.1=some p.2
 fr:∀ y,(y,NameKind.free)∈sc.names->osc.names.lookup y=some .cell∨osc.names.lookup y=some .free
 js:∀ i j,js[i]?=some j->∃ y,N'[k+i]?=some y /\ N[j]?=some y /\ sc.names.lookup y=some .free
theorem cmpOk {N:List Str} {osc:Scope} {k:Nat} {js:List Nat} {N':List Str} {sc:Scope} (h:ZCi N osc k js N' sc=true):CmpOk N osc k js N' sc:=by
 unfold ZCi at h
 simp only [Bool.and_eq_true,decide_eq_true_eq,List.all_eq_true,Bool.or_eq_true,yBB] at h
 obtain ⟨⟨⟨⟨h1,h2⟩,h3⟩,h4⟩,h5⟩:=h
 refine ⟨h1,h2,h3,fun p hp=>(h4 p hp).1,fun y hy=>?_,fun i j hj=>?_⟩
 .rcases (h4 _ hy).2 with (z | z) | z
  .exact absurd rfl z
  .exact .inl z
  .exact .inr z
 .have hi:i < js.length:=(yAE.mp hj).1
  obtain ⟨a,b⟩:=h5 i hi
  rw [hj] at a
  cases e:N'[k+i]? with
  | none=>rw [e] at b;cases b
  | some y=>
   rw [e] at a b
   exact ⟨y,rfl,a,b⟩
noncomputable def ZDR (scope:Scope) (cl:List (Str×Addr)) (C:Addr) (env:Env):Env :=
 { scope:=relabel scope env,locals:=C,globals:=env.globals,cells:=cellsFrom (C+1) scope.names cl,qual:=env.qual,func:=none,code:=env.code,frame:=env.frame,builtins:=env.builtins }
noncomputable def ZBu (X:Cx) (N':List Str) (scope:Scope) (C:Addr) (fp:List Addr) (s2:Shared) (H2:Hp):Cx where
 prog:=X.prog
 w:=X.w
 K:=X.K
 mg:=X.mg
 base:=X.base
 A:=X.A
 N:=N'
 s₀:=s2
 H₀:=H2
 env:=ZDR scope (closFrom X.env.cells scope.names []) C X.env
 outer:=X.stack
 stack:=X.stack
 ex:=fp
 fn:=fun x=>decide (scope.names.lookup x=some .cell)
 calm:=X.calm
 pn:=[]
 xe:=fun _ _=>False
noncomputable def up (k:Nat) (js:List Nat) (σ:St):St:=List.replicate k none++js.map fun j=>(σ[j]?).getD none
section
variable {X:Cx} {pins:List (Addr×Obj)} {σ:St} {H:Hp} {s2:Shared} {k:Nat} {js:List Nat} {N':List Str} {scope:Scope} {fp:List Addr}
theorem comp_inv (hc:CmpOk X.N X.env.scope k js N' scope) (I:Inv X pins σ H s2) (hfp:∀ b∈fp,FpOk X pins H b) (hlt:∀ b∈fp,b < s2.heap.objs.size) {h3:Heap} (hz:h3.objs.size=s2.heap.objs.size+1) (hk3:∀ b o,s2.heap.get? b=some o->h3.get? b=some o) :
  Inv (ZBu X N' scope (s2.heap.objs.size+1) fp s2 H) [] (up k js σ) H { s2 with heap:=pushCells (h3.push { cls:=.type "dict",data:=.dict #[] }) scope.names }:=by
 have frLook:∀ y,(y,NameKind.free)∈scope.names->∃ c,X.env.cells.lookup y=some c:=fun y hy=>I.ok.has y (hc.fr y hy)
 have ok0:=cellsFrom_ok scope.names (h3.push { cls:=.type "dict",data:=.dict #[] }) (s2.heap.objs.size+2) [] ⟨fun _ _ hm=>(nomatch hm),List.Pairwise.nil⟩ (by rw [Heap.size_push,hz];exact yAA _)
 rw [Heap.size_push,hz] at ok0
 have parts:∀ y c,(ZDR scope (closFrom X.env.cells scope.names []) (s2.heap.objs.size+1) X.env).cells.lookup y=some c ->
   ((y,c)∈cellsFrom (s2.heap.objs.size+2) scope.names [] /\ (y,NameKind.cell)∈scope.names /\ s2.heap.objs.size+2 <= c)∨((y,NameKind.free)∈scope.names /\ X.env.cells.lookup y=some c):=fun y c e=>by
  have m:=PySem.mem_of_lookup e
  change (y,c)∈cellsFrom (s2.heap.objs.size+1+1) scope.names _ at m
  rw [ZBJ] at m
  rcases yAU.mp m with m | m
  .rcases ZB1 _ _ _ _ _ m with z | ⟨z,l⟩
   .cases z
   .exact .inl ⟨m,z,l⟩
  .rcases ZBl _ _ _ _ m with z | ⟨z,l⟩
   .cases z
   .obtain ⟨c',e'⟩:=frLook y z
    rw [e'] at l
    exact .inr ⟨z,by rw [e'];exact congrArg some l.symm⟩
 have old:∀ y c,X.env.cells.lookup y=some c->c < s2.heap.objs.size:=fun y c e=>by
  obtain ⟨v,q⟩:=I.cell y c e
  exact q.lt
 have freeAt:∀ y,(y,NameKind.free)∈scope.names->∀ c,X.env.cells.lookup y=some c->(ZDR scope (closFrom X.env.cells scope.names []) (s2.heap.objs.size+1) X.env).cells.lookup y=some c:=fun y hy c e=>by
  have m:(y,c)∈cellsFrom (s2.heap.objs.size+1+1) scope.names (closFrom X.env.cells scope.names []):=by
   rw [ZBJ]
   have q:=ZBm (cells:=X.env.cells) scope.names [] y hy
   rw [e] at q
   exact yAQ _ q
  obtain ⟨c',q⟩:=ZBb m
  rcases parts y c' q with ⟨_,z,_⟩ | ⟨_,z⟩
  .have z1:=hc.look _ z
   have z2:=hc.look _ hy
   rw [z1] at z2
   cases z2
  .rw [e] at z
   cases z
   exact q
 have keepAll:∀ b o,s2.heap.get? b=some o->(pushCells (h3.push { cls:=.type "dict",data:=.dict #[] }) scope.names).get? b=some o:=fun b o e=>pushCells_keeps _ _ b o (Heap.get?_push_of_some _ (hk3 b o e))
 refine ⟨⟨I.ok.mod,hc.kind,I.ok.glob,I.ok.blt,yAY _,fun y z c h1 h2=>?_,fun y hy=>?_,fun y c h1 h2=>?_,I.ok.hd,I.ok.frames,.inl rfl,fun b hb=>⟨?_,fun y c e=>?_⟩,I.bs,yAF I.ok.bsz I.sz,fun b o e hb=>?_,fun b hb hs=>?_,I.stack,I.stkFree⟩,
  rfl,I.bare,Un.kept keepAll,⟨fun _=>none,?_,fun i y v e1 e2 e3=>?_⟩,fun y c e=>?_,I.hok.fresh (yAY _),fun y c e=>?_,fun p hp=>absurd (show p∈([]:List (Addr×Obj)) from hp) (by simp),I.hok.kept keepAll,?_⟩
 .
  rcases parts y c h1 with ⟨a,_,l⟩ | ⟨_,a⟩ <;> rcases parts z c h2 with ⟨b,_,l'⟩ | ⟨_,b⟩
  .exact name_of_addr ok0.apart a b
  .have:=natlt (old z c b);omega
  .have:=natlt (old y c a);omega
  .exact I.ok.inj y z c a b
 .
  have hy':(relabel scope X.env).names.lookup y=some .cell∨(relabel scope X.env).names.lookup y=some .free:=hy
  rw [relabel_lookup] at hy'
  have q:scope.names.lookup y=some .cell∨scope.names.lookup y=some .free:=by
   cases e:scope.names.lookup y with
   | none=>rw [e] at hy';rcases hy' with z | z <;> cases z
   | some kk=>
    rw [e] at hy'
    cases kk <;> first | exact .inl rfl | exact .inr rfl | (rcases hy' with z | z <;> simp at z)
  rcases q with q | q
  .obtain ⟨c,e⟩:=ZCj (n:=s2.heap.objs.size+1+1) q
   have m:(y,c)∈cellsFrom (s2.heap.objs.size+1+1) scope.names (closFrom X.env.cells scope.names []):=by
    rw [ZBJ]
    exact List.mem_append_left _ (PySem.mem_of_lookup e)
   exact ZBb m
  .have m:=PySem.mem_of_lookup q
   obtain ⟨c,e⟩:=frLook y m
   exact ⟨c,freeAt y m c e⟩
 .
  have h1':scope.names.lookup y=some .cell:=of_decide_eq_true h1
  rcases parts y c h2 with ⟨_,_,l⟩ | ⟨z,_⟩
  .show s2.heap.objs.size <= c
   omega
  .have:=hc.look _ z
   rw [h1'] at this
   cases this
 .
  exact ZCz (hlt b hb) (yAY _)
 .rcases parts y c e with ⟨_,_,l⟩ | ⟨_,z⟩
  .exact (ZCz (hlt b hb) (yAF (Nat.le_add_right _ 2) l)).symm
  .exact (hfp b hb).2.2.2.2.1 y c z
 .
  rcases (hfp b hb).2.2.2.1 with z | z
  .exact I.ok.noex b o e z
  .exact absurd (yAI (Heap.lt_size e) (yAF I.ok.bsz z)) (yBE _)
 .
  rcases yAR.mp (I.stkSub b hs) with z | z
  .exact (hfp b hb).2.1 z
  .exact (hfp b hb).2.2.1 z
 .
  have q:=(Heap.Ns.new h3 (.type "dict")).keeps (pushCells_keeps scope.names _)
  rw [hz] at q
  exact q
 .
  unfold up at e2
  have hik:k <= i:=by
   by_cases hi:i < k
   .rw [yAN (by simpa using hi),List.getElem?_replicate] at e2
    rw [if_pos hi] at e2
    cases e2
   .omega
  rw [yAS (by simpa using hik),yBJ,yAJ] at e2
  cases ej:js[i-k]? with
  | none=>rw [ej] at e2;cases e2
  | some j=>
   rw [ej] at e2
   have e2':(σ[j]?).getD none=some v:=Option.some.inj e2
   have e4:σ[j]?=some (some v):=by
    cases q:σ[j]? with
    | none=>rw [q] at e2';cases e2'
    | some z=>rw [q] at e2';exact congrArg some e2'
   obtain ⟨y',n1,n2,n3⟩:=hc.js _ _ ej
   rw [Nat.add_sub_cancel' hik] at n1
   have n0:N'[i]?=some y:=e1
   rw [n1] at n0
   cases n0
   have hm:=PySem.mem_of_lookup n3
   have hvis:Vis X.env.scope y:=.inr (hc.fr y hm)
   obtain ⟨m,hn,hl⟩:=I.loc
   obtain ⟨u,r,l⟩:=hl j y v n2 e4 hvis
   refine ⟨u,r,?_⟩
   rcases l with ⟨kk,_⟩ | ⟨kk,c,ec,ic⟩
   .have kk':X.env.scope.names.lookup y=some .local:=kk
    rcases hc.fr y hm with z | z <;> (rw [kk'] at z;cases z)
   .refine .inr ⟨?_,c,freeAt y hm c ec,ic.keeps keepAll⟩
    show (relabel scope X.env).names.lookup y=some .cell∨(relabel scope X.env).names.lookup y=some .free
    rw [relabel_lookup,n3]
    simp only [Option.map_some]
    split
    .exact .inl rfl
    .exact .inr rfl
 .
  rcases parts y c e with ⟨a,_,_⟩ | ⟨_,a⟩
  .exact ⟨none,(ok0.empty y c a).1⟩
  .obtain ⟨v,q⟩:=I.cell y c a
   exact ⟨v,q.keeps keepAll⟩
 .rcases parts y c e with ⟨_,_,l⟩ | ⟨_,a⟩
  .exact I.hok.fresh (by omega)
  .exact I.freeC y c a
 .unfold up
  show _=N'.length
  rw [yAD,yBJ,yAB,hc.len]
theorem comp_end {σ':St} {H':Hp} {s':Shared} {C D:Addr} {its:List Value} {n:Nat} {ys:List V} (I:Inv X pins σ H s2) (hfp:∀ b∈fp,FpOk X pins H b) (hC:s2.heap.objs.size <= C) (hD:s2.heap.objs.size <= D) (hDC:D≠C)
  (I':Inv (ZBu X N' scope C fp s2 H) [(D,{ cls:=.type "list",data:=.seq its.toArray n })] σ' H' s') (hv:Vals ys its) (hz:ys.length <= sizeLine) :
  H' D=none /\ ∀ h',Heap.SameBut C s'.heap h'->Inv X pins σ (upd H' D (.lst ys)) { s' with heap:=h' }:=by
 obtain ⟨eD,nD,_,_,_⟩:=I'.pin (D,{ cls:=.type "list",data:=.seq its.toArray n }) (yAQ _ yAP)
 dsimp only at eD nD
 have nC:H' C=none:=I'.free
 refine ⟨nD,fun h' hs=>?_⟩
 have neC:∀ b o,s2.heap.get? b=some o->b≠C:=fun b o e=>ZCz (Heap.lt_size e) hC
 have neD:∀ b o,s2.heap.get? b=some o->b≠D:=fun b o e=>ZCz (Heap.lt_size e) hD
 have tr:∀ b u,H' b=some u->b≠D:=fun b u e z=>by rw [z,nD] at e;cases e
 have trC:∀ b u,H' b=some u->b≠C:=fun b u e z=>by rw [z,nC] at e;cases e
 have B:=I'.base
 refine I.call' (s':={ s' with heap:=h' }) (ch:=fp) I'.os ⟨fun b o e nn hb hx=>?_,fun b o e nn hb hx=>?_,fun b o e nn hx=>?_,fun b o e hx=>?_,fun b xs e=>?_,fun b o u e=>?_,fun b ps e=>?_⟩ (fun b u e=>?_) I'.bare fun b hb=>?_
 .exact (hs.2 b (neC b o e)).trans (B.keep b o e nn hb hx)
 .obtain ⟨sl,q⟩:=B.slot b o e nn hb hx
  exact ⟨sl,(hs.2 b (neC b o e)).trans q⟩
 .rw [ZAO (neD b o e)]
  exact B.free b o e nn hx
 .obtain ⟨o',q⟩:=B.there b o e hx
  exact ⟨o',(hs.2 b (neC b o e)).trans q⟩
 .have q:=B.tups b xs e
  rw [ZAO (tr b _ q)]
  exact q
 .have q:=B.frzs b o u e
  rw [ZAO (tr b _ q)]
  exact q
 .obtain ⟨more,q⟩:=B.tbls b ps e
  exact ⟨more,by rw [ZAO (tr b _ q)];exact q⟩
 .by_cases hb:b=D
  .subst hb
   rw [ZAG] at e
   cases e
   exact ⟨hz,its,n,hv,(hs.2 b hDC).trans eD⟩
  .rw [ZAO hb] at e
   refine (I'.hok b u e).stay (fun c v hcc q=>(hs.2 c ?_).trans q) (fun c q=>by rw [ZAO (tr c _ q)];exact q) fun c xs q=>by rw [ZAO (tr c _ q)];exact q
   rcases hcc with rfl | hcc
   .exact trC c _ e
   .exact trC c _ hcc
 .obtain ⟨_,f1,_,f3,f4,f5⟩:=hfp b hb
  exact ⟨f3,f1,f4,f5⟩
end
section
variable {prog:Program} {w:World} {A:Around} {R:Result->Shared->Prop} {s:Shared}
theorem codeAny_compLoop_any {elt target iter:Expr} {ifs:List Expr} {scope:Scope} {pos:Pos} {it acc:Value} {env:Env} (I:Nat->Shared->Prop)
  (turn:∀ n s,I n s->wpAny (model prog w) A (pyNext it) (fun r s₁=>match r with
   | none=>R (.ok .next) s₁
   | some v=>wpAny (model prog w) A (letOwnedTupleGo target it v) (fun _ s₁'=>wpAny (model prog w) A (assign target env v) (fun _ s₂=>
     wpAny (model prog w) A (forIn ifs true fun c r=>if r=true then do let ok <- isTrue c env (eval c env);pure (ForInStep.yield ok) else pure (ForInStep.yield r)) (fun ok s₃=>
      if ok=true then wpAny (model prog w) A (eval elt env) (fun x s₄=>
       wpAny (model prog w) A (call (.builtin "list.append") [acc,x]) (fun _ s₅=>∃ m,m < n /\ I m s₅) (notedBy (model prog w) A env fun e s'=>R (.error e) s') s₄) (notedBy (model prog w) A env fun e s'=>R (.error e) s') s₃
      else ∃ m,m < n /\ I m s₃) (notedBy (model prog w) A env fun e s'=>R (.error e) s') s₂) (notedBy (model prog w) A env fun e s'=>R (.error e) s') s₁') (notedBy (model prog w) A env fun e s'=>R (.error e) s') s₁) (notedBy (model prog w) A env fun e s'=>R (.error e) s') s)
  (n:Nat) (h:I n s) :
  codeAny (model prog w) A (.compLoop (.ListComp elt [⟨target,iter,ifs,0⟩] scope pos) 0 it acc env) R s:=by
 refine codeAny_loop rfl I (fun n s hI=>?_) n h
 show wpAny _ A ((compTurn (.ListComp elt [⟨target,iter,ifs,0⟩] scope pos) 0 it acc env).onRaise (fun x=>do noteFrame x env;theTreesLotGoes x)) _ _ s
 refine wpAny_noted ?_
 rw [compTurn_list]
 refine wpAny_bind (wpAny_standAt (wpAny_bind (wpAny_mono (turn n s hI) (fun r s₁ h₁=>?_) fun _ _ h'=>h')))
 cases r with
 | none=>exact wpAny_pure h₁
 | some v=>
  refine wpAny_bind (wpAny_mono h₁ (fun _ s₁' h₁'=>?_) fun _ _ h'=>h')
  refine wpAny_bind (wpAny_mono h₁' (fun _ s₂ h₂=>wpAny_bind (wpAny_mono h₂ (fun ok s₃ h₃=>?_) fun _ _ h'=>h')) fun _ _ h'=>h')
  cases ok with
  | false=>exact wpAny_pure ⟨rfl,h₃⟩
  | true=>exact wpAny_bind (wpAny_bind (wpAny_mono h₃ (fun x s₄ h₄=>wpAny_bind (wpAny_mono h₄ (fun _ s₅ h₅=>wpAny_pure (wpAny_pure ⟨rfl,h₅⟩)) fun _ _ h'=>h')) fun _ _ h'=>h'))
end
noncomputable def PIfs (X:Cx) (ifs:List Expr) (t:TT):Prop :=
 ∀ (pins:List (Addr×Obj)) (s:Shared) (σ:St) (H:Hp) (Q:Bool->Hp->Prop),Inv X pins σ H s->t σ H Q ->
  wpAny (model X.prog X.w) X.A (forIn ifs true fun c r=>if r=true then do let ok <- isTrue c X.env (eval c X.env);pure (ForInStep.yield ok) else pure (ForInStep.yield r)) (TP X pins σ Q) X.xe s
noncomputable def tYes:TT:=fun _ H Q=>Q true H
theorem ZAs {X:Cx}:PIfs X [] tYes:=fun _ _ _ H _ I h=>wpAny_tests_nil ⟨H,I,h⟩
theorem ZCQ {X:Cx} {c:Expr} {t:TT} (hc:PT X c t):PIfs X [c] t:=fun pins s σ H Q I h=>wpAny_tests_one (hc pins s σ H Q I h)
noncomputable def ZC7 (k:Nat) (js:List Nat) (wi:TI) (g:TG) (tt:TT) (te:TE):TE:=fun σ H Q=>wi σ H fun J H1=>∃ W:Nat->Nat->List V->St->Hp->Prop,(∃ m,W 0 m [] (up k js σ) H1) /\ ∀ i m ys σ H,W i m ys σ H ->
 (J.stop i H /\ ys.length <= sizeLine /\ ∀ p,H p=none->Q (.ref p) (upd H p (.lst ys))) ∨
 (J.go i H /\ ys.length < sizeLine /\ ∀ x H',J.yld i H x H'->g x σ H' fun σ2 H2=>tt σ2 H2 fun b H3=>if b=true then te σ2 H3 fun y H4=>∃ m',m' < m /\ W (i+1) m' (ys++[y]) σ2 H4 else ∃ m',m' < m /\ W (i+1) m' ys σ2 H3)
section
variable {X:Cx} {k:Nat} {js:List Nat} {N':List Str} {scope:Scope} {tg iter elt:Expr} {ifs:List Expr} {wi:TI} {g:TG} {tt:TT} {te:TE} {pos:Pos}
theorem comp_core {use:Option (Value->Sem Unit)} {Q':Value->Shared->Prop} (hcalm:X.calm=true) (hc:CmpOk X.N X.env.scope k js N' scope) (hi:PI X tg iter wi)
  (hg:∀ C fp s2 H2,PG (ZBu X N' scope C fp s2 H2) tg g) (ht:∀ C fp s2 H2,PIfs (ZBu X N' scope C fp s2 H2) ifs tt) (he:∀ C fp s2 H2,PE (ZBu X N' scope C fp s2 H2) elt te)
  {pins:List (Addr×Obj)} {s:Shared} {σ:St} {H:Hp} {Q:VK} (I:Inv X pins σ H s) (h:ZC7 k js wi g tt te σ H Q)
  (fin:∀ (C D:Addr) (s':Shared) (m:Str->Option Value) (H':Hp) (ys:List V),s'.heap.Ns C m->C≠X.env.locals->C∉X.fs->D≠C->H' C=none->X.s₀.heap.objs.size <= C->(∀ x c,X.env.cells.lookup x=some c->c≠C)->(∀ p∈X.pn++pins,p.1≠C)->(∀ h',Heap.SameBut C s'.heap h'->Inv X pins σ (upd H' D (.lst ys)) { s' with heap:=h' })->Q (.ref D) (upd H' D (.lst ys)) ->
   compPost (model X.prog X.w) X.A X.xe use Q' (.ref D) C (.ok .next) s')
  (hs:∀ x,foldedSetIterable iter X.env x=pure x) (p':Pos) :
  wpAny (model X.prog X.w) X.A (comprehension (.ListComp elt [⟨tg,iter,ifs,0⟩] scope pos) scope X.env p' (newList []) false (eval iter X.env) use) Q' X.xe s:=by
 have hclos:closureFor scope X.env=pure (closFrom X.env.cells scope.names []):=closureFor_eq fun y hy=>I.ok.has y (hc.fr y hy)
 refine wpAny_comprehension_free (g:=⟨tg,iter,ifs,0⟩) (gs:=[]) rfl hs hclos hc.kind (fun x hx hl=>by rw [hc.look x hx,hl]) ?_
 refine thn (hi pins s σ H _ I h) fun v s1 h1=>thn h1 fun itv s2 h2=>?_
 obtain ⟨it,fp,tn,J,H2,e,I2,T,st2,f2,W,⟨m0,w0⟩,turn⟩:=h2
 subst e
 have hlt:∀ b∈fp,b < s2.heap.objs.size:=fun b hb=>by
  obtain ⟨o,e,_⟩:=T.obj _ _ st2 b hb
  exact Heap.lt_size e
 refine wpAny_newObj_type (newEnv_comp ?_)
 have hz3:(s2.heap.push { cls:=.type "list",dict:=none,data:=.seq ([]:List Value).toArray }).objs.size=s2.heap.objs.size+1:=Heap.size_push ..
 have I3:=comp_inv (h3:=s2.heap.push { cls:=.type "list",dict:=none,data:=.seq ([]:List Value).toArray }) hc I2 f2 hlt hz3 (fun b o e=>Heap.get?_push_of_some _ e)
 dsimp only
 rw [hz3]
 generalize hS4:({ s2 with heap:=pushCells ((s2.heap.push { cls:=.type "list",dict:=none,data:=.seq ([]:List Value).toArray }).push { cls:=.type "dict",data:=.dict #[] }) scope.names }:Shared)=s4 at I3 ⊢
 have keep4:∀ b o,s2.heap.get? b=some o->s4.heap.get? b=some o:=fun b o e=>by
  rw [<- hS4]
  exact pushCells_keeps _ _ b o (Heap.get?_push_of_some _ (Heap.get?_push_of_some _ e))
 have eD4:s4.heap.get? s2.heap.objs.size=some { cls:=.type "list",data:=.seq ([]:List Value).toArray 0 }:=by
  rw [<- hS4]
  exact pushCells_keeps _ _ _ _ (Heap.get?_push_of_some _ (Heap.get?_push_size _ rfl))
 generalize hX':ZBu X N' scope (s2.heap.objs.size+1) fp s2 H2=X' at I3
 have hC':X'.env.locals=s2.heap.objs.size+1:=by rw [<- hX'];rfl
 have hfs':X'.fs=frs X.stack:=by rw [<- hX'];rfl
 have nofsD:∀ a,s2.heap.objs.size <= a->a∉frs X.stack:=fun a ha hb=>by
  rcases yAR.mp (I2.stkSub a hb) with z | z
  .exact absurd z.symm (ZCz I2.lt ha)
  .exact I2.nofs ha z
 have cellD:∀ x c,X'.env.cells.lookup x=some c->c≠s2.heap.objs.size:=fun x c e z=>by
  obtain ⟨v,o,ho,hd⟩:=I3.cell x c e
  rw [z,eD4] at ho
  cases ho
  cases hd
 have pinD:∀ {σ':St} {H':Hp} {s':Shared} {its:List Value} {n:Nat},Inv X' [] σ' H' s'->s'.heap.get? s2.heap.objs.size=some { cls:=.type "list",data:=.seq its.toArray n }->H' s2.heap.objs.size=none ->
   Inv X' [(s2.heap.objs.size,{ cls:=.type "list",data:=.seq its.toArray n })] σ' H' s':=fun {σ' H' s' its n} J e nn=>J.pins_of fun p hp=>by
  have e':p=(s2.heap.objs.size,{ cls:=.type "list",data:=.seq its.toArray n }):=by simpa using hp
  subst e'
  refine ⟨e,nn,?_,?_,fun v z=>nomatch z⟩
  .rw [hC'];exact yAG (yBI _)
  .rw [hfs'];exact nofsD _ (yAA _)
 have I4:=pinD I3 eD4 (I2.hok.fresh (yAA _))
 have stat:∀ {H':Hp} {o:Obj},(∀ b∈fp,H' b=none)->∀ b∈fp,FpOk X' [(s2.heap.objs.size,o)] H' b:=fun {H' o} hn b hb=>by
  have hb':=hlt b hb
  refine ⟨hn b hb,?_,?_,.inl (by rw [<- hX'];exact hb),fun x c e z=>?_,fun p hp z=>?_⟩
  .rw [hC'];exact ZCz hb' (yAY _)
  .rw [hfs']
   intro z
   rcases yAR.mp (I2.stkSub b z) with q | q
   .exact (f2 b hb).2.1 q
   .exact (f2 b hb).2.2.1 q
  .have q:=I3.ok.exf b (by rw [<- hX'];exact hb)
   exact q.2 x c e z
  .rw [show X'.pn=[] by rw [<- hX'];rfl] at hp
   have e':p=(s2.heap.objs.size,o):=by simpa using hp
   subst e'
   exact absurd hb' (by rw [<- z];exact yBE _)
 have hfin:∀ {σ':St} {H':Hp} {s':Shared} {its:List Value} {n:Nat} {ys:List V},Inv X' [(s2.heap.objs.size,{ cls:=.type "list",data:=.seq its.toArray n })] σ' H' s'->Vals ys its->ys.length <= sizeLine->(∀ p,H' p=none->Q (.ref p) (upd H' p (.lst ys))) ->
   compPost (model X.prog X.w) X.A X.xe use Q' (.ref s2.heap.objs.size) (s2.heap.objs.size+1) (.ok .next) s':=fun {σ' H' s' its n ys} J hv hz hq=>by
  obtain ⟨m,hn,_⟩:=id J.loc
  rw [hC'] at hn
  have nC:H' (s2.heap.objs.size+1)=none:=by rw [<- hC'];exact J.free
  have J':Inv (ZBu X N' scope (s2.heap.objs.size+1) fp s2 H2) [(s2.heap.objs.size,{ cls:=.type "list",data:=.seq its.toArray n })] σ' H' s':=by rw [hX'];exact J
  obtain ⟨nD,E⟩:=comp_end I2 f2 (yAY _) (yAA _) (yAG (yBI _)) J' hv hz
  refine fin _ _ s' m H' ys hn ?_ (I2.nofs (yAY _)) (yAG (yBI _)) nC (yAF I2.sz (yAY _)) (fun x c e z=>?_) (fun p hp z=>?_) E (hq _ nD)
  .exact (ZCz I2.lt (yAY _)).symm
  .obtain ⟨v,q⟩:=I2.cell x c e
   exact absurd z (ZCz q.lt (yAY _))
  .exact absurd z (ZCz (Heap.lt_size (I2.pin p hp).1) (yAY _))
 have hprog:X'.prog=X.prog:=by rw [<- hX'];rfl
 have hw:X'.w=X.w:=by rw [<- hX'];rfl
 have hK:X'.K=X.K:=by rw [<- hX'];rfl
 have hcalm':X'.calm=true:=by rw [<- hX'];exact hcalm
 have hA:X'.A=X.A:=by rw [<- hX'];rfl
 have henv:ZDR scope (closFrom X.env.cells scope.names []) (s2.heap.objs.size+1) X.env=X'.env:=by rw [<- hX'];rfl
 have hgX:=hg (s2.heap.objs.size+1) fp s2 H2
 have htX:=ht (s2.heap.objs.size+1) fp s2 H2
 have heX:=he (s2.heap.objs.size+1) fp s2 H2
 rw [hX'] at hgX htX heX
 have hxe:∀ e s',X'.xe e s'->False:=fun e s' z=>by rw [<- hX'] at z;exact z
 have hXA:X'.pn=[]:=by rw [<- hX'];rfl
 have hs0:X'.s₀.heap.objs.size=s2.heap.objs.size:=by rw [<- hX'];rfl
 have loop:codeAny (model X.prog X.w) X.A (.compLoop (.ListComp elt [⟨tg,iter,ifs,0⟩] scope pos) 0 (.ref it) (.ref s2.heap.objs.size) X'.env) (compPost (model X.prog X.w) X.A X.xe use Q' (.ref s2.heap.objs.size) (s2.heap.objs.size+1)) s4:=by
  refine codeAny_compLoop_any (fun n s'=>∃ i σ' H' its nn ys,Inv X' [(s2.heap.objs.size,{ cls:=.type "list",data:=.seq its.toArray nn })] σ' H' s' /\ tn i s'.heap /\ (∀ b∈fp,H' b=none) /\ Vals ys its /\ W i n ys σ' H') ?_ m0
   ⟨0,_,H2,[],0,[],I4,T.keep _ _ _ st2 (fun b _ o e=>keep4 b o e),fun b hb=>(f2 b hb).1,.nil,w0⟩
  rintro n s5 ⟨i,σ5,H5,its,nn,ys,I5,st5,fr5,hv,w5⟩
  rcases turn i n ys σ5 H5 w5 with ⟨stop,hz,hq⟩ | ⟨go,hz,step⟩
  .have d:=T.done X' hprog hw hK hcalm' i _ s5 σ5 H5 (fun _ _=>False) I5 (stat fr5) st5 stop
   rw [hA] at d
   refine wpAny_mono d (fun r s6 ⟨hr,I6⟩=>?_) fun _ _ z=>z.elim
   subst hr
   exact hfin I6 hv hz hq
  .have d:=T.item X' hprog hw hK hcalm' i _ s5 σ5 H5 (fun _ _=>False) I5 (stat fr5) st5 go
   rw [hA] at d
   refine wpAny_mono d (fun r s6 ⟨u,hr,h6⟩=>?_) fun _ _ z=>z.elim
   subst hr
   refine wpAny_mono h6 (fun _ s7 zz=>?_) fun _ _ z=>z.elim
   obtain ⟨x,H7,I7,r7,y7,st7,fr7⟩:=zz
   have I7':=I7.pinned (stat fr7) (T.obj _ _ st7)
   have a1:=hgX _ s7 σ5 H7 x u _ I7' r7 (step x H7 y7)
   rw [hprog,hw,hA] at a1
   refine wpAny_mono a1 (fun _ s8 zz=>?_) fun _ _ z=>(hxe _ _ z).elim
   obtain ⟨σ8,H8,I8,q8⟩:=zz
   have a2:=htX _ s8 σ8 H8 _ I8 q8
   rw [hprog,hw,hA] at a2
   refine wpAny_mono a2 (fun ok s9 ⟨H9,I9,q9⟩=>?_) fun _ _ z=>(hxe _ _ z).elim
   have back:∀ {σ':St} {H':Hp} {s':Shared},Inv X' ([(s2.heap.objs.size,({ cls:=.type "list",data:=.seq its.toArray nn }:Obj))]++ZDT fp s7.heap) σ' H' s'->tn (i+1) s'.heap /\ (∀ b∈fp,H' b=none):=fun {σ' H' s'} J=>by
    refine ⟨T.keep _ _ _ st7 fun b hb o e=>(J.pin (b,o) (yAQ _ (yAQ _ (ZCF hb e)))).1,fun b hb=>?_⟩
    obtain ⟨o,e,d⟩:=T.obj _ _ st7 b hb
    exact (J.pin (b,o) (yAQ _ (yAQ _ (ZCF hb e)))).2.1
   cases ok with
   | false=>
    rw [if_neg yAM] at q9 ⊢
    obtain ⟨m',hm,w9⟩:=q9
    obtain ⟨t9,f9⟩:=back I9
    exact ⟨m',hm,i+1,σ8,H9,its,nn,ys,I9.unpinned,t9,f9,hv,w9⟩
   | true=>
    rw [if_pos rfl] at q9 ⊢
    have a3:=heX _ s9 σ8 H9 _ I9 q9
    rw [hprog,hw,hA] at a3
    refine wpAny_mono a3 (fun uy s10 zz=>?_) fun _ _ z=>(hxe _ _ z).elim
    obtain ⟨y,H10,I10,r10,m',hm,w10⟩:=zz
    obtain ⟨t10,f10⟩:=back I10
    have I11:=I10.unpinned
    obtain ⟨eD,nD,_,_,_⟩:=I11.pin (s2.heap.objs.size,{ cls:=.type "list",data:=.seq its.toArray nn }) (yAQ _ yAP)
    dsimp only at eD nD
    have hsz:its.length < sizeLine:=by rw [<- hv.length];exact hz
    refine wpAny_list_append_plain ⟨nn,eD⟩ (fun h' hpl hsb=>?_) (by rw [yAK];omega)
    obtain ⟨n',e'⟩:=hpl
    have e'':h'.get? s2.heap.objs.size=some { cls:=.type "list",data:=.seq (its++[uy]).toArray n' }:=by rw [e'];simp
    have I12:Inv X' [] σ8 H10 s10:=I11.pins_of fun p hp=>absurd hp (by simp)
    have I13:=I12.turned (h':=h') (t':=s10.toks) (it:=s2.heap.objs.size) (fun b o hb e=>(hsb.2 b hb).trans e) nD (by rw [hC'];exact yAG (yBI _)) (.inr (by rw [hs0];exact yAA _)) cellD (fun p hp=>absurd hp (by rw [hXA];simp))
    refine ⟨m',hm,i+1,σ8,H10,its++[uy],n',ys++[y],pinD I13 e'' nD,T.keep _ _ _ t10 fun b hb o e=>?_,f10,hv.append (.cons r10 .nil),w10⟩
    exact (hsb.2 b (ZCz (hlt b hb) (yAA _))).trans e
 have hst:codeAny (model X.prog X.w) X.A (.compStart (.ListComp elt [⟨tg,iter,ifs,0⟩] scope pos) 0 (.ref it) (.ref s2.heap.objs.size) X'.env) (compPost (model X.prog X.w) X.A X.xe use Q' (.ref s2.heap.objs.size) (s2.heap.objs.size+1)) s4 :=
  codeAny_compStart_list loop (T.self X.A 0 s4 _ _ (T.keep _ _ _ st2 (fun b _ o e=>keep4 b o e)) loop)
 rw [<- henv] at hst
 exact hst
theorem ZBP (hcalm:X.calm=true) (hc:ZCi X.N X.env.scope k js N' scope=true) (hi:PI X tg iter wi)
  (hg:∀ C fp s2 H2,PG (ZBu X N' scope C fp s2 H2) tg g) (ht:∀ C fp s2 H2,PIfs (ZBu X N' scope C fp s2 H2) ifs tt) (he:∀ C fp s2 H2,PE (ZBu X N' scope C fp s2 H2) elt te)
  (hs:∀ x,foldedSetIterable iter X.env x=pure x:=by intro _;rfl):PE X (.ListComp elt [⟨tg,iter,ifs,0⟩] scope pos) (ZC7 k js wi g tt te):=by
 intro pins s σ H Q I h
 rw [eval_ListComp]
 refine comp_core (use:=none) hcalm (cmpOk hc) hi hg ht he I h (fun C D s' m H' ys hn _ _ _ _ _ _ _ E q=>?_) hs _
 exact ⟨m,hn,fun h' hsb=>⟨.ref D,_,E h' hsb,rfl,q⟩⟩
theorem ZBH {i:Nat} {x:Str} {px spos:Pos} (hN:X.N.Nodup) (hix:X.N[i]?=some x) (hx:Loc X.env.scope x) (hcalm:X.calm=true) (hc:ZCi X.N X.env.scope k js N' scope=true) (hi:PI X tg iter wi)
  (hg:∀ C fp s2 H2,PG (ZBu X N' scope C fp s2 H2) tg g) (ht:∀ C fp s2 H2,PIfs (ZBu X N' scope C fp s2 H2) ifs tt) (he:∀ C fp s2 H2,PE (ZBu X N' scope C fp s2 H2) elt te)
  (hs:∀ x,foldedSetIterable iter X.env x=pure x:=by intro _;rfl) (hsw:swapsWith (.ListComp elt [⟨tg,iter,ifs,0⟩] scope pos) (some (.Name x px)) spos.line X.env=pure true:=by rfl)
  (hf:X.fn x=true∨X.env.scope.names.lookup x=some .local:=by first | exact .inl rfl | exact .inr rfl | assumption) :
  PS X (.Assign [.Name x px] (.ListComp elt [⟨tg,iter,ifs,0⟩] scope pos) spos) (tAsg (ZC7 k js wi g tt te) (ZD0 i)):=by
 intro pins s σ H D I h
 rw [exec_Assign_Name_used _ _ _ _ hsw]
 refine wpAny_bind (wpAny_standAt (wpAny_bind ?_))
 show wpAny _ X.A (do let _ <- comprehension (.ListComp elt [⟨tg,iter,ifs,0⟩] scope pos) scope X.env _ (newList []) false (eval iter X.env) (some (assign (.Name x px) X.env))) _ _ s
 refine wpAny_bind (wpAny_mono (comp_core (use:=some (assign (.Name x px) X.env)) (Q':=fun _ s'=>SP X pins D .next s') hcalm (cmpOk hc) hi hg ht he I h (fun C Dd s' m H' ys hn c1 c2 c3 c4 c5 c6 c7 E q=>?_) hs _) (fun _ s' hq=>wpAny_pure (wpAny_pure hq)) fun _ _ e=>e)
 have J:=E s'.heap (.refl ..)
 obtain ⟨oC,es,ep,eC,dC,rC⟩:=id hn
 have J':Inv X (pins++[(C,oC)]) σ (upd H' Dd (.lst ys)) s':=J.pins_of fun p hp=>by
  rcases yAU.mp hp with z | z
  .exact J.pin p (yAQ _ z)
  .have e':p=(C,oC):=by simpa using z
   subst e'
   refine ⟨eC,?_,c1,c2,fun v z=>?_⟩
   .show upd H' Dd _ C=none
    rw [ZAO (Ne.symm c3)]
    exact c4
   .have z':oC.data=.cell v:=z
    rw [dC] at z'
    cases z'
 show wpAny _ X.A (assign (.Name x px) X.env (.ref Dd)) _ _ _
 refine wpAny_assign_Name (ZCg (Q:=fun _ s''=>∃ m,s''.heap.Ns C m /\ ∀ h',Heap.SameBut C s''.heap h'->SP X pins D .next { s'' with heap:=h' }) J' hN hix hx (v:=.ref Dd) (u:=.ref Dd) rfl (fun s'' K'=>?_) hf)
 obtain ⟨e2,n2,_,_,_⟩:=K'.pin (C,oC) (yAQ _ (yAQ _ yAP))
 dsimp only at e2 n2
 refine ⟨m,⟨oC,es,ep,e2,dC,rC⟩,fun h' hsb=>⟨_,_,K'.unpinned.turned (it:=C) (t':=s''.toks) (fun b o hb e=>(hsb.2 b hb).trans e) n2 c1 (.inr c5) c6 c7,q⟩⟩
end
mutual
noncomputable def Dp (K:W.Frag) (H:Hp):PyData->V->Prop
 | .none,v=>v=.non
 | .bool b,v=>v=.bl b
 | .int i,v=>v=.int i
 | .str x,v=>v=.str x
 | .list ds,v=>∃ a xs,v=.ref a /\ SqL K H a xs /\ DpAll K H ds xs
 | .tuple ds,v=>∃ a xs,v=.ref a /\ SqT K H a xs /\ DpAll K H ds xs
 | .dict _,_=>False
noncomputable def DpAll (K:W.Frag) (H:Hp):List PyData->List V->Prop
 | [],vs=>vs=[]
 | d::ds,vs=>∃ v r,vs=v::r /\ Dp K H d v /\ DpAll K H ds r
end
theorem Same.seqT {K:W.Frag} {H H':Hp} {a:Addr} {xs:List V} (e:Same H H') (h:SqT K H a xs):SqT K H' a xs:=by
 rcases h with (h | ⟨o,h⟩) | h
 .exact .inl (.inl (e _ _ h))
 .exact .inl (.inr ⟨o,e _ _ h⟩)
 .exact .inr h
mutual
theorem Dp.mono {K:W.Frag} {H H':Hp} (e:Same H H'):∀ {d:PyData} {v:V},Dp K H d v->Dp K H' d v
 | .none,_,h=>h
 | .bool _,_,h=>h
 | .int _,_,h=>h
 | .str _,_,h=>h
 | .list ds,_,h=>by
  unfold Dp at h ⊢
  obtain ⟨a,xs,r,q,t⟩:=h
  exact ⟨a,xs,r,e.seq q,DpAll.mono e t⟩
 | .tuple ds,_,h=>by
  unfold Dp at h ⊢
  obtain ⟨a,xs,r,q,t⟩:=h
  exact ⟨a,xs,r,e.seqT q,DpAll.mono e t⟩
 | .dict _,_,h=>by unfold Dp at h;exact h.elim
theorem DpAll.mono {K:W.Frag} {H H':Hp} (e:Same H H'):∀ {ds:List PyData} {vs:List V},DpAll K H ds vs->DpAll K H' ds vs
 | [],_,h=>h
 | _::_,_,h=>by
  unfold DpAll at h ⊢
  obtain ⟨v,r,q,a,t⟩:=h
  exact ⟨v,r,q,Dp.mono e a,DpAll.mono e t⟩
end
theorem DpAll.length {K:W.Frag} {H:Hp}:∀ {ds:List PyData} {vs:List V},DpAll K H ds vs->vs.length=ds.length
 | [],_,h=>by unfold DpAll at h;subst h;rfl
 | _::_,_,h=>by
  unfold DpAll at h
  obtain ⟨v,r,q,a,t⟩:=h
  subst q
  rw [yAZ,yAZ,DpAll.length t]
theorem DpAll.get {K:W.Frag} {H:Hp}:∀ {ds:List PyData} {vs:List V} {i:Nat} {d:PyData},DpAll K H ds vs->ds[i]?=some d->∃ v,vs[i]?=some v /\ Dp K H d v
 | [],_,_,_,_,e=>by simp at e
 | _::_,_,0,_,h,e=>by
  unfold DpAll at h
  obtain ⟨v,r,q,a,t⟩:=h
  subst q
  simp at e
  subst e
  exact ⟨v,rfl,a⟩
 | _::_,_,i+1,_,h,e=>by
  unfold DpAll at h
  obtain ⟨v,r,q,a,t⟩:=h
  subst q
  simp at e
  obtain ⟨u,h1,h2⟩:=DpAll.get t e
  exact ⟨u,by simpa using h1,h2⟩
theorem DpAll.of_get {K:W.Frag} {H:Hp} {ds:List PyData} {vs:List V} {i:Nat} {v:V} (h:DpAll K H ds vs) (e:vs[i]?=some v):∃ d,ds[i]?=some d /\ Dp K H d v:=by
 have hi:i < ds.length:=by rw [<- h.length];exact (yAE.mp e).1
 obtain ⟨u,h1,h2⟩:=h.get (yAH hi)
 rw [e] at h1
 cases h1
 exact ⟨_,yAH hi,h2⟩
theorem DpAll.append {K:W.Frag} {H:Hp}:∀ {ds es:List PyData} {vs us:List V},DpAll K H ds vs->DpAll K H es us->DpAll K H (ds++es) (vs++us)
 | [],_,_,_,h,k=>by unfold DpAll at h;subst h;exact k
 | _::_,_,_,_,h,k=>by
  unfold DpAll at h
  obtain ⟨v,r,q,a,t⟩:=h
  subst q
  exact (show DpAll K H (_::_) (_::_) by unfold DpAll;exact ⟨v,_,rfl,a,DpAll.append t k⟩)
theorem DpAll.nil {K:W.Frag} {H:Hp}:DpAll K H [] []:=by unfold DpAll;rfl
theorem DpAll.cons {K:W.Frag} {H:Hp} {d:PyData} {ds:List PyData} {v:V} {vs:List V} (a:Dp K H d v) (t:DpAll K H ds vs):DpAll K H (d::ds) (v::vs):=by unfold DpAll;exact ⟨v,vs,rfl,a,t⟩
theorem DpAll.snoc {K:W.Frag} {H:Hp} {d:PyData} {ds:List PyData} {v:V} {vs:List V} (t:DpAll K H ds vs) (a:Dp K H d v):DpAll K H (ds++[d]) (vs++[v]):=t.append (.cons a .nil)
theorem DpAll.one {K:W.Frag} {H:Hp} {d:PyData} {v:V} (a:Dp K H d v):DpAll K H [d] [v]:=.cons a .nil
theorem DpAll.two {K:W.Frag} {H:Hp} {d e:PyData} {v u:V} (a:Dp K H d v) (b:Dp K H e u):DpAll K H [d,e] [v,u]:=.cons a (.cons b .nil)
theorem DpAll.ints {K:W.Frag} {H:Hp}:∀ (ns:List Int),DpAll K H (ns.map PyData.int) (ns.map V.int)
 | []=>.nil
 | n::r=>.cons (by unfold Dp;rfl) (DpAll.ints r)
theorem dp_int {K:W.Frag} {H:Hp} (i:Int):Dp K H (.int i) (.int i):=by unfold Dp;rfl
theorem dp_str {K:W.Frag} {H:Hp} (i:Str):Dp K H (.str i) (.str i):=by unfold Dp;rfl
theorem ZDX {K:W.Frag} {H:Hp} {a:Addr} {xs:List V} {ds:List PyData} (h:SqL K H a xs) (t:DpAll K H ds xs):Dp K H (.list ds) (.ref a):=by unfold Dp;exact ⟨a,xs,rfl,h,t⟩
theorem ZED {K:W.Frag} {H:Hp} {a:Addr} {xs:List V} {ds:List PyData} (h:SqT K H a xs) (t:DpAll K H ds xs):Dp K H (.tuple ds) (.ref a):=by unfold Dp;exact ⟨a,xs,rfl,h,t⟩
theorem Dp.asT {K:W.Frag} {H:Hp} {v:V} {ds:List PyData} (h:Dp K H (.tuple ds) v):∃ a xs,v=.ref a /\ SqT K H a xs /\ DpAll K H ds xs:=by unfold Dp at h;exact h
theorem Dp.asI {K:W.Frag} {H:Hp} {v:V} {i:Int} (h:Dp K H (.int i) v):v=.int i:=by unfold Dp at h;exact h
theorem Dp.asS {K:W.Frag} {H:Hp} {v:V} {i:Str} (h:Dp K H (.str i) v):v=.str i:=by unfold Dp at h;exact h
section
variable {X:Cx} {pins:List (Addr×Obj)} {σ:St} {H:Hp} {s:Shared}
mutual
theorem Inv.reads (I:Inv X pins σ H s):∀ {d:PyData} {v:V} {u:Value},Dp X.K H d v->RelV v u->∃ as,Reads s.heap u d as
 | .none,_,_,h,r=>by unfold Dp at h;subst h;cases (show _=Value.none from r);exact ⟨_,.none⟩
 | .bool b,_,_,h,r=>by unfold Dp at h;subst h;cases (show _=Value.bool b from r);exact ⟨_,.bool b⟩
 | .int i,_,_,h,r=>by unfold Dp at h;subst h;obtain ⟨t,q⟩:=(show ∃ t,_=Value.int i t from r);subst q;exact ⟨_,.int i t⟩
 | .str x,_,_,h,r=>by unfold Dp at h;subst h;obtain ⟨t,q⟩:=(show ∃ t,_=Value.str x t from r);subst q;exact ⟨_,.str x t⟩
 | .list ds,_,_,h,r=>by
  unfold Dp at h
  obtain ⟨a,xs,q,sq,t⟩:=h
  subst q
  cases (show _=Value.ref a from r)
  obtain ⟨its,rv,pl,_⟩:=I.list sq
  obtain ⟨as,ra⟩:=Inv.readsAll I t rv
  obtain ⟨o,n,e1,e2,_,e3⟩:=pl
  exact ⟨_,.list e1 e2 e3 (by simpa using ra)⟩
 | .tuple ds,_,_,h,r=>by
  unfold Dp at h
  obtain ⟨a,xs,q,sq,t⟩:=h
  subst q
  cases (show _=Value.ref a from r)
  obtain ⟨its,rv,pl,_⟩:=I.tuple sq
  obtain ⟨as,ra⟩:=Inv.readsAll I t rv
  obtain ⟨o,e1,e2,n,e3⟩:=pl
  exact ⟨_,.tuple e1 e2 e3 (by simpa using ra)⟩
 | .dict _,_,_,h,_=>by unfold Dp at h;exact h.elim
theorem Inv.readsAll (I:Inv X pins σ H s):∀ {ds:List PyData} {vs:List V} {us:List Value},DpAll X.K H ds vs->Vals vs us->∃ as,ReadsAll s.heap us ds as
 | [],_,_,h,r=>by unfold DpAll at h;subst h;cases r;exact ⟨_,.nil⟩
 | _::_,_,_,h,r=>by
  unfold DpAll at h
  obtain ⟨v,q,e,a,t⟩:=h
  subst e
  cases r with
  | cons r1 r2=>
   obtain ⟨as,h1⟩:=Inv.reads I a r1
   obtain ⟨bs,h2⟩:=Inv.readsAll I t r2
   exact ⟨_,.cons h1 h2⟩
end
noncomputable def rEqD (K:W.Frag):R2:=fun x y H Q=>∃ d e,Dp K H d x /\ Dp K H e y /\ d.canLay0=true /\ e.canLay0=true /\ d.depth <= 64 /\ Q (.bl (PyData.eqv d e)) H
theorem op_eqD (hu:X.A.units+64 < cLine):OpR X (compareOp .Eq) (rEqD X.K):=by
 intro pins s σ H x y v u Q I rx ry h
 obtain ⟨d,e,h1,h2,c1,c2,dp,q⟩:=h
 obtain ⟨as,ra⟩:=I.reads h1 rx
 obtain ⟨bs,rb⟩:=I.reads h2 ry
 exact SeqAt.compareEq_reads ra rb c1 c2 (by omega) ⟨.bl _,H,I,rfl,q⟩
end
section
variable {X:Cx} {x:Str} {pos:Pos}
theorem ZDk {y:Str} (hg:Gl X x) (h:∃ t,X.mg x=some (.str y t)) (hd:(x == ("__debug__":Str))=false:=by decide):PE X (.Name x pos) (tC (.str y)):=by
 obtain ⟨t,e⟩:=h
 exact pe_glob hg e ⟨t,rfl⟩ hd
theorem pe_gint {y:Int} (hg:Gl X x) (h:∃ t,X.mg x=some (.int y t)) (hd:(x == ("__debug__":Str))=false:=by decide):PE X (.Name x pos) (tC (.int y)):=by
 obtain ⟨t,e⟩:=h
 exact pe_glob hg e ⟨t,rfl⟩ hd
theorem ZDU {n:String} (hg:Gl X x) (hm:X.mg x=none) (hv:bootBuiltins x=some (.type n)) (hn:x≠"__name__":=by decide) (hd:(x == ("__debug__":Str))=false:=by decide):PE X (.Name x pos) (tC (.ty n)):=pe_bltn hg hm hv rfl hn hd
end
structure Fn (P:Program) (w:World) (K:W.Frag) (mg:Str->Option Value) (base:Heap) (CX:CXT) (x:Str) (k:Nat) (ps:List Str) (sp:Sp):Prop where
 ex:∃ f fd,FnOk P w K mg base CX k f fd ps sp /\ Binds K fd ps [] /\ W.keepIn K (.ref f)=true /\ mg x=some (.ref f)
structure Mt (P:Program) (w:World) (K:W.Frag) (mg:Str->Option Value) (base:Heap) (CX:CXT) (C:Addr) (m:Str) (k:Nat) (ps:List Str) (sp:Sp):Prop where
 cl:Cls K C
 ex:∃ f fd,FnOk P w K mg base CX k f fd ps sp /\ Binds K fd ps [] /\ Meth K C m f
structure Kl (P:Program) (w:World) (K:W.Frag) (mg:Str->Option Value) (base:Heap) (CX:CXT) (x:Str) (C:Addr) (k:Nat) (ps:List Str) (sp:Sp):Prop where
 mgC:mg x=some (.ref C)
 ex:∃ f fd,FnOk P w K mg base CX k f fd ps sp /\ Binds K fd ps [] /\ Mk K C f
section
variable {X:Cx} {CX:CXT} {k:Nat} {ps:List Str} {sp:Sp} {E:XK} {x m:Str} {C:Addr} {p pos apos:Pos} {e o:Expr} {es:List Expr} {ta:TE} {t:TA}
theorem ZAm (F:Fn X.prog X.w X.K X.mg X.base CX x k ps sp) (hr:Room k X.A) (hg:Gl X x) (hx:ZCS CX X E) (ha:PA X (e::es) t) (hdb:(x == ("__debug__":Str))=false:=by decide) (he:starEach (e::es) X.env=(false,eval e X.env)::starEach es X.env:=by rfl) (hpl:(backTo pos (starEach es X.env)).any (·.1)=false:=by rfl) :
  PE X (.Call (.Name x p) (e::es) [] pos) (ZEG sp [] E t):=by
 obtain ⟨f,fd,h1,h2,h3,h4⟩:=F.ex
 exact pe_call h1 hr hg h4 h3 h2 .nil hx ha hdb he hpl
theorem ZBs {pl:Sem Bool} (F:Mt X.prog X.w X.K X.mg X.base CX C m k ps sp) (hr:Room k X.A) (hx:ZCS CX X E) (he:PE X o ta) (ha:PA X (e::es) t)
  (hst:starEach (e::es) X.env=(false,eval e X.env)::starEach es X.env:=by rfl) (hpl:(backTo pos (starEach es X.env)).any (·.1)=false:=by rfl)
  (ht:eval (.Call (.Attribute o m apos) (e::es) [] pos) X.env=(do
   let ov <- eval o X.env
   standAt apos.atName
   let (f,first) <- holding [ov] (getMethod ov m pl)
   callWith pos f first (backTo pos (starEach (e::es) X.env)) (backToKw pos (keywordEach [] X.env))):=by rfl) :
  PE X (.Call (.Attribute o m apos) (e::es) [] pos) (ZEE C m sp [] E ta t):=by
 obtain ⟨f,fd,h1,h2,h3⟩:=F.ex
 exact pe_meth he F.cl h3 h1 hr h2 .nil hx ha hst hpl ht
theorem ZDI (F:Kl X.prog X.w X.K X.mg X.base CX x C k ps sp) (hr:Room (k+1) X.A) (hg:Gl X x) (hx:ZCS CX X E) (ha:PA X (e::es) t) (hdb:(x == ("__debug__":Str))=false:=by decide) (he:starEach (e::es) X.env=(false,eval e X.env)::starEach es X.env:=by rfl) (hpl:(backTo pos (starEach es X.env)).any (·.1)=false:=by rfl) :
  PE X (.Call (.Name x p) (e::es) [] pos) (ZEF C sp [] E t):=by
 obtain ⟨f,fd,h1,h2,h3⟩:=F.ex
 exact pe_make h3 h1 hr hg F.mgC h2 .nil hx ha hdb he hpl
end
noncomputable def ZDm:V->Bool
 | .ty _=>true
 | .ref _=>true
 | _=>false
noncomputable def cval:V->Value
 | .ty n=>.type n
 | .ref a=>.ref a
 | _=>.none
section
variable {X:Cx}
theorem ZBj:ZCf X (.builtin "isinstance") (fun xs H Q=>∃ x c ty b,xs=[x,c] /\ ZDm c=true /\ TyOf X.K H x ty /\ PySem.W.kitOne X.K ty (cval c)=some b /\ Q (.bl b) H):=by
 intro pins s σ H xs us Q I r h
 obtain ⟨x,c,ty,b,rfl,hc,hty,e,q⟩:=h
 obtain ⟨u,w',rfl,r1,r2⟩:=ZEI r
 have e2:w'=cval c:=by
  cases c <;> first | (cases hc;done) | exact r2
 subst e2
 exact isinst_ok I r1 hty e fun tk=>⟨.bl b,H,I.tok tk,rfl,q⟩
end
theorem ZAh {v:V} {σ:St} {H:Hp} {Q:VK}:tVar 0 (some v::σ) H Q=Q v H:=by
 apply propext;unfold tVar;simp
theorem ZAt {i:Nat} {a:Option V} {σ:St} {H:Hp} {Q:VK}:tVar (i+1) (a::σ) H Q=tVar i σ H Q:=by
 apply propext;unfold tVar;simp
theorem rI0_int {g:Int->Int->V} {i j:Int} {H:Hp} {Q:VK}:rI0 g (.int i) (.int j) H Q=Q (g i j) H:=by
 apply propext;unfold rI0;simp
theorem rI_int {C:Int->Int->Prop} {g:Int->Int->V} {i j:Int} {H:Hp} {Q:VK}:rI C g (.int i) (.int j) H Q=(C i j /\ Q (g i j) H):=by
 apply propext;unfold rI;simp
theorem rU_int {g:Int->V} {i:Int} {H:Hp} {Q:VK}:rU g (.int i) H Q=Q (g i) H:=by
 apply propext;unfold rU;simp
theorem rEq_int {i j:Int} {H:Hp} {Q:VK}:rEq (.int i) (.int j) H Q=Q (.bl (decide (i=j))) H:=by
 exact propext ⟨fun h=>by simpa using h.2,fun h=>⟨rfl,by simpa using h⟩⟩
theorem rNe_int {i j:Int} {H:Hp} {Q:VK}:rNe (.int i) (.int j) H Q=Q (.bl (!decide (i=j))) H:=by
 exact propext ⟨fun h=>by simpa using h.2,fun h=>⟨rfl,by simpa using h⟩⟩
theorem rEq_bl {i j:Bool} {H:Hp} {Q:VK}:rEq (.bl i) (.bl j) H Q=Q (.bl (decide (i=j))) H:=by
 exact propext ⟨fun h=>by simpa using h.2,fun h=>⟨rfl,by simpa using h⟩⟩
theorem rNe_bl {i j:Bool} {H:Hp} {Q:VK}:rNe (.bl i) (.bl j) H Q=Q (.bl (!decide (i=j))) H:=by
 exact propext ⟨fun h=>by simpa using h.2,fun h=>⟨rfl,by simpa using h⟩⟩
theorem rEq_str {i j:Str} {H:Hp} {Q:VK}:rEq (.str i) (.str j) H Q=Q (.bl (decide (i=j))) H:=by
 exact propext ⟨fun h=>by simpa using h.2,fun h=>⟨rfl,by simpa using h⟩⟩
theorem rNe_str {i j:Str} {H:Hp} {Q:VK}:rNe (.str i) (.str j) H Q=Q (.bl (!decide (i=j))) H:=by
 exact propext ⟨fun h=>by simpa using h.2,fun h=>⟨rfl,by simpa using h⟩⟩
theorem ex_bl {c:Bool} {Q:Bool->Prop}:(∃ k,V.bl c=V.bl k /\ Q k)=Q c:=by
 apply propext;simp
theorem ex_int {c:Int} {Q:Int->Prop}:(∃ k,V.int c=V.int k /\ Q k)=Q c:=by
 apply propext;simp
theorem ZAv {n:Nat} (h:n <= 1000):n <= sizeLine:=Nat.le_of_lt (ZB4 h)
theorem ZAL {H:Hp} {p:Addr} (h:H p=none) (o:HO):Same H (upd H p o):=fun b u q=>by rw [ZAO (ZAT q h)];exact q
theorem ZCk {H:Hp} {p a:Addr} {o u:HO} (h:H p=none) (e:H a=some u):upd H p o a=some u:=by rw [ZAO (ZAT e h)];exact e
noncomputable def getF (K:W.Frag) (f:Str) (x:V) (H:Hp) (Q:VK):Prop:=∃ a C dx fs v,x=.ref a /\ H a=some (.ins C dx fs) /\ Cls K C /\ NoAttr K C f /\ fs.lookup f=some v /\ Q v H
theorem tFld_eq {K:W.Frag} {ta:TE} {f:Str} {σ:St} {H:Hp} {Q:VK}:tFld K ta f σ H Q=ta σ H (fun x H1=>getF K f x H1 Q):=rfl
theorem getF_of {K:W.Frag} {f:Str} {a C dx:Addr} {fs:List (Str×V)} {v:V} {H:Hp} {Q:VK} (h:H a=some (.ins C dx fs)) (cl:Cls K C) (n:NoAttr K C f) (l:fs.lookup f=some v) (q:Q v H):getF K f (.ref a) H Q:=⟨a,C,dx,fs,v,rfl,h,cl,n,l,q⟩
noncomputable def setF (K:W.Frag) (f:Str) (x y:V) (H:Hp) (Q:Hp->Prop):Prop:=∃ a C dx fs,x=.ref a /\ H a=some (.ins C dx fs) /\ Cls K C /\ NoAttr K C f /\ fs.length < 1000 /\ Q (upd H a (.ins C dx (putF f y fs)))
theorem sFld_eq {K:W.Frag} {ta tv:TE} {f:Str} {D:Ends} {σ:St} {H:Hp}:sFld K ta tv f D σ H=tv σ H (fun y H1=>ta σ H1 fun x H2=>setF K f x y H2 (D.nx σ)):=rfl
theorem setF_of {K:W.Frag} {f:Str} {a C dx:Addr} {fs:List (Str×V)} {y:V} {H:Hp} {Q:Hp->Prop} (h:H a=some (.ins C dx fs)) (cl:Cls K C) (n:NoAttr K C f) (l:fs.length < 1000) (q:Q (upd H a (.ins C dx (putF f y fs)))):setF K f (.ref a) y H Q:=⟨a,C,dx,fs,rfl,h,cl,n,l,q⟩
theorem ZAY {K:W.Frag} {p:Addr} {xs:List V} {i:Int} {v:V} {H:Hp} {Q:VK} (h:SqL K H p xs) (e:atI xs i=some v) (q:Q v H):rIxL K (.ref p) (.int i) H Q:=⟨p,xs,i,v,rfl,rfl,h,e,q⟩
theorem ZAq {K:W.Frag} {p:Addr} {xs:List V} {i:Int} {v:V} {H:Hp} {Q:VK} (h:SqT K H p xs) (e:atI xs i=some v) (q:Q v H):rIxT K (.ref p) (.int i) H Q:=⟨p,xs,i,v,rfl,rfl,h,e,q⟩
theorem ZAb {α:Type} {xs:List α} {i:Int} {v:α} (h0:0 <= i) (h:xs[i.toNat]?=some v):atI xs i=some v:=by
 have q:=atI_nat h
 rwa [Int.toNat_of_nonneg h0] at q
theorem ZAg {xs:List Int} {i:Int} {v:Int} (h0:0 <= i) (h:xs[i.toNat]?=some v):atI (xs.map V.int) i=some (.int v):=ZAb h0 (by rw [yAJ,h];rfl)
noncomputable def Nxt (P:Nat->List V->St->Hp->Prop) (n i:Nat) (ys:List V) (σ:St) (H:Hp):Prop:=∃ m',m' < n-i /\ m'=n-(i+1) /\ i+1 <= n /\ P (i+1) ys σ H
theorem Nxt.of {P:Nat->List V->St->Hp->Prop} {n i:Nat} {ys:List V} {σ:St} {H:Hp} (h:i < n) (p:P (i+1) ys σ H):Nxt P n i ys σ H:=⟨n-(i+1),by omega,rfl,h,p⟩
theorem comp_list {K:W.Frag} {a:Addr} {xs:List V} {g:TG} {tt:TT} {te:TE} {Q:VK} {σ0:St} {H:Hp} (P:Nat->List V->St->Hp->Prop) (h0:P 0 [] σ0 H) (hl:∀ i ys σ H,i <= xs.length->P i ys σ H->SqL K H a xs /\ ys.length <= i) (hz:xs.length <= sizeLine)
  (hs:∀ i ys x σ H,i < xs.length->xs[i]?=some x->P i ys σ H->g x σ H fun σ2 H2=>tt σ2 H2 fun b H3=>if b=true then te σ2 H3 fun y H4=>Nxt P xs.length i (ys++[y]) σ2 H4 else Nxt P xs.length i ys σ2 H3)
  (hd:∀ ys σ H,P xs.length ys σ H->∀ p,H p=none->Q (.ref p) (upd H p (.lst ys))) :
  ∃ W:Nat->Nat->List V->St->Hp->Prop,(∃ m,W 0 m [] σ0 H) /\ ∀ i m ys σ H,W i m ys σ H ->
   ((Itl K a).stop i H /\ ys.length <= sizeLine /\ ∀ p,H p=none->Q (.ref p) (upd H p (.lst ys))) ∨
   ((Itl K a).go i H /\ ys.length < sizeLine /\ ∀ x H',(Itl K a).yld i H x H'->g x σ H' fun σ2 H2=>tt σ2 H2 fun b H3=>if b=true then te σ2 H3 fun y H4=>∃ m',m' < m /\ W (i+1) m' (ys++[y]) σ2 H4 else ∃ m',m' < m /\ W (i+1) m' ys σ2 H3):=by
 refine ⟨fun i m ys σ H=>m=xs.length-i /\ i <= xs.length /\ P i ys σ H,⟨xs.length,by simp,Nat.zero_le _,h0⟩,?_⟩
 rintro i m ys σ H ⟨rfl,hi,p⟩
 obtain ⟨q,ly⟩:=hl i ys σ H hi p
 by_cases hlt:i < xs.length
 .refine .inr ⟨⟨xs,xs[i],q,by simp [hlt]⟩,by omega,fun x H' y=>?_⟩
  obtain ⟨e,y⟩:=y
  subst e
  exact hs i ys x σ _ hlt (y xs q) p
 .have e:i=xs.length:=by omega
  subst e
  exact .inl ⟨⟨xs,q,yAA _⟩,by omega,hd ys σ H p⟩
theorem comp_range {lo:Int} {n:Nat} {g:TG} {tt:TT} {te:TE} {Q:VK} {σ0:St} {H:Hp} (P:Nat->List V->St->Hp->Prop) (h0:P 0 [] σ0 H) (hl:∀ i ys σ H,P i ys σ H->ys.length <= i) (hz:n <= sizeLine)
  (hs:∀ i ys σ H,i < n->P i ys σ H->g (.int (lo+i)) σ H fun σ2 H2=>tt σ2 H2 fun b H3=>if b=true then te σ2 H3 fun y H4=>Nxt P n i (ys++[y]) σ2 H4 else Nxt P n i ys σ2 H3)
  (hd:∀ ys σ H,P n ys σ H->∀ p,H p=none->Q (.ref p) (upd H p (.lst ys))) :
  ∃ W:Nat->Nat->List V->St->Hp->Prop,(∃ m,W 0 m [] σ0 H) /\ ∀ i m ys σ H,W i m ys σ H ->
   ((Itr lo n).stop i H /\ ys.length <= sizeLine /\ ∀ p,H p=none->Q (.ref p) (upd H p (.lst ys))) ∨
   ((Itr lo n).go i H /\ ys.length < sizeLine /\ ∀ x H',(Itr lo n).yld i H x H'->g x σ H' fun σ2 H2=>tt σ2 H2 fun b H3=>if b=true then te σ2 H3 fun y H4=>∃ m',m' < m /\ W (i+1) m' (ys++[y]) σ2 H4 else ∃ m',m' < m /\ W (i+1) m' ys σ2 H3):=by
 refine ⟨fun i m ys σ H=>m=n-i /\ i <= n /\ P i ys σ H,⟨n,by simp,Nat.zero_le _,h0⟩,?_⟩
 rintro i m ys σ H ⟨rfl,hi,p⟩
 have ly:=hl i ys σ H p
 by_cases hlt:i < n
 .refine .inr ⟨hlt,by omega,fun x H' y=>?_⟩
  obtain ⟨e,y⟩:=y
  subst e y
  exact hs i ys σ _ hlt p
 .have e:i=n:=by omega
  subst e
  exact .inl ⟨yAA _,by omega,hd ys σ H p⟩
theorem Same.upd {H H':Hp} {p:Addr} {o:HO} (e:Same H H') (h:H p=none):Same H (upd H' p o):=fun b u q=>by rw [ZAO (ZAT q h)];exact e b u q
theorem Same.new {H H':Hp} {p:Addr} {o:HO} (e:Same H H') (h:H' p=none):Same H (L2.upd H' p o):=e.upd (e.free h)
theorem ZDK {K:W.Frag} {t:Value} (h:(t == t)=true):PySem.W.kitOne K t t=some true:=by unfold PySem.W.kitOne;rw [if_pos h]
theorem cutV_ints (ns:List Int) (lo hi:Option Int):cutV (ns.map V.int) lo hi=(((ns.drop (HT.sIx ns.length 0 lo)).take (HT.sIx ns.length ns.length hi-HT.sIx ns.length 0 lo)).map V.int):=by
 unfold cutV
 rw [yAB,List.map_take,List.map_drop]
theorem ZDO {ns:List Int} {i:Nat} {x:V} (h:(ns.map V.int)[i]?=some x):∃ n,ns[i]?=some n /\ x=.int n:=by
 rw [yAJ] at h
 cases e:ns[i]? with
 | none=>rw [e] at h;cases h
 | some n=>rw [e] at h;exact ⟨n,rfl,(Option.some.inj h).symm⟩
theorem ixN_of {n:Nat} {i:Int} (h0:0 <= i) (h:i < n):ixN n i=some i.toNat:=by unfold ixN;rw [if_pos h0,if_pos h]
theorem slL_of {K:W.Frag} {a:Addr} {xs:List V} {lo hi:Option Int} {H:Hp} {Q:VK} (h:SqL K H a xs) (q:∀ p,H p=none->Q (.ref p) (upd H p (.lst (cutV xs lo hi)))):rSlL K (.ref a) lo hi H Q:=⟨a,xs,rfl,h,q⟩
noncomputable def forL (K:W.Frag) (g:TG) (tb:TS) (D:Ends) (σ:St) (x:V) (H1:Hp):Prop:=∃ a,x=.ref a /\ (∃ xs,SqL K H1 a xs) /\ ∃ W:Nat->Nat->St->Hp->Prop,(∃ m,W 0 m σ H1) /\ ∀ i m σ H,W i m σ H ->
 ((Itl K a).stop i H /\ D.nx σ H)∨((Itl K a).go i H /\ ∃ N:St->Hp->Prop,(∀ σ' H',N σ' H'->∃ m',m' < m /\ W (i+1) m' σ' H') /\ ∀ x H',(Itl K a).yld i H x H'->g x σ H' fun σ2 H2=>tb { D with nx:=N,ct:=N,bk:=D.nx } σ2 H2)
theorem tForL_eq {K:W.Frag} {tl:TE} {g:TG} {tb:TS} {D:Ends} {σ:St} {H:Hp}:tFor (ZEH K tl) g tb D σ H=tl σ H (fun x H1=>forL K g tb D σ x H1):=rfl
theorem ZCb {K:W.Frag} {g:TG} {tb:TS} {D:Ends} {σ:St} {H:Hp} {a:Addr} {xs:List V} (h:SqL K H a xs) (Pv:Nat->St->Hp->Prop) (h0:Pv 0 σ H) (hl:∀ i σ H,i <= xs.length->Pv i σ H->SqL K H a xs)
  (hs:∀ i x σ H,xs[i]?=some x->Pv i σ H->g x σ H fun σ2 H2=>tb { D with nx:=Pv (i+1),ct:=Pv (i+1),bk:=D.nx } σ2 H2) (hd:∀ σ H,Pv xs.length σ H->D.nx σ H):forL K g tb D σ (.ref a) H :=
 ⟨a,rfl,⟨xs,h⟩,for_list Pv h0 hl hs hd⟩
noncomputable def forR (lo:Int) (g:TG) (tb:TS) (D:Ends) (σ:St) (n:Nat) (H1:Hp):Prop:=∃ W:Nat->Nat->St->Hp->Prop,(∃ m,W 0 m σ H1) /\ ∀ i m σ H,W i m σ H ->
 ((Itr lo n).stop i H /\ D.nx σ H)∨((Itr lo n).go i H /\ ∃ N:St->Hp->Prop,(∀ σ' H',N σ' H'->∃ m',m' < m /\ W (i+1) m' σ' H') /\ ∀ x H',(Itr lo n).yld i H x H'->g x σ H' fun σ2 H2=>tb { D with nx:=N,ct:=N,bk:=D.nx } σ2 H2)
noncomputable def forR1 (g:TG) (tb:TS) (D:Ends) (σ:St) (x:V) (H1:Hp):Prop:=∃ j:Int,[x]=[.int j] /\ -(2 ^ 62) <= j /\ j < 2 ^ 62 /\ forR 0 g tb D σ j.toNat H1
noncomputable def forR2 (g:TG) (tb:TS) (D:Ends) (σ:St) (x y:V) (H1:Hp):Prop:=∃ i j:Int,[x,y]=[.int i,.int j] /\ (-(2 ^ 62) <= i /\ i < 2 ^ 62 /\ -(2 ^ 62) <= j /\ j < 2 ^ 62) /\ forR i g tb D σ (j-i).toNat H1
theorem tForR1_eq {t:TE} {g:TG} {tb:TS} {D:Ends} {σ:St} {H:Hp}:tFor (ZES (ZBw t tNil)) g tb D σ H=t σ H (fun x H1=>forR1 g tb D σ x H1):=rfl
theorem tForR2_eq {t u:TE} {g:TG} {tb:TS} {D:Ends} {σ:St} {H:Hp}:tFor (iRng2 (ZBw t (ZBw u tNil))) g tb D σ H=t σ H (fun x H1=>u σ H1 fun y H2=>forR2 g tb D σ x y H2):=rfl
theorem ZCK {lo:Int} {n:Nat} {g:TG} {tb:TS} {D:Ends} {σ:St} {H:Hp} (Pv:Nat->St->Hp->Prop) (h0:Pv 0 σ H)
  (hs:∀ i σ H,i < n->Pv i σ H->g (.int (lo+i)) σ H fun σ2 H2=>tb { D with nx:=Pv (i+1),ct:=Pv (i+1),bk:=D.nx } σ2 H2) (hd:∀ σ H,Pv n σ H->D.nx σ H):forR lo g tb D σ n H:=for_range Pv h0 hs hd
theorem ZBz {j:Int} {g:TG} {tb:TS} {D:Ends} {σ:St} {H:Hp} (h:-1000 <= j /\ j <= 1000) (q:forR 0 g tb D σ j.toNat H):forR1 g tb D σ (.int j) H:=⟨j,rfl,by omega,by omega,q⟩
noncomputable def ZEW (K:W.Frag) (g:TG) (tt:TT) (te:TE) (σ0:St) (Q:VK) (x:V) (H1:Hp):Prop:=∃ a,x=.ref a /\ (∃ xs,SqL K H1 a xs) /\ ∃ W:Nat->Nat->List V->St->Hp->Prop,(∃ m,W 0 m [] σ0 H1) /\ ∀ i m ys σ H,W i m ys σ H ->
 ((Itl K a).stop i H /\ ys.length <= sizeLine /\ ∀ p,H p=none->Q (.ref p) (upd H p (.lst ys))) ∨
 ((Itl K a).go i H /\ ys.length < sizeLine /\ ∀ x H',(Itl K a).yld i H x H'->g x σ H' fun σ2 H2=>tt σ2 H2 fun b H3=>if b=true then te σ2 H3 fun y H4=>∃ m',m' < m /\ W (i+1) m' (ys++[y]) σ2 H4 else ∃ m',m' < m /\ W (i+1) m' ys σ2 H3)
theorem tCompL_eq {k:Nat} {js:List Nat} {K:W.Frag} {tl:TE} {g:TG} {tt:TT} {te:TE} {σ:St} {H:Hp} {Q:VK}:ZC7 k js (ZEH K tl) g tt te σ H Q=tl σ H (fun x H1=>ZEW K g tt te (up k js σ) Q x H1):=rfl
theorem ZBI {K:W.Frag} {a:Addr} {xs:List V} {g:TG} {tt:TT} {te:TE} {Q:VK} {σ0:St} {H:Hp} (h:SqL K H a xs) (hz:xs.length <= 1000) (P:Nat->List V->St->Hp->Prop) (h0:P 0 [] σ0 H) (hl:∀ i ys σ H,i <= xs.length->P i ys σ H->SqL K H a xs /\ ys.length <= i)
  (hs:∀ i ys x σ H,i < xs.length->xs[i]?=some x->P i ys σ H->g x σ H fun σ2 H2=>tt σ2 H2 fun b H3=>if b=true then te σ2 H3 fun y H4=>Nxt P xs.length i (ys++[y]) σ2 H4 else Nxt P xs.length i ys σ2 H3)
  (hd:∀ ys σ H,P xs.length ys σ H->∀ p,H p=none->Q (.ref p) (upd H p (.lst ys))):ZEW K g tt te σ0 Q (.ref a) H:=⟨a,rfl,⟨xs,h⟩,comp_list P h0 hl (ZAv hz) hs hd⟩
noncomputable def compR (lo:Int) (g:TG) (tt:TT) (te:TE) (σ0:St) (Q:VK) (n:Nat) (H1:Hp):Prop:=∃ W:Nat->Nat->List V->St->Hp->Prop,(∃ m,W 0 m [] σ0 H1) /\ ∀ i m ys σ H,W i m ys σ H ->
 ((Itr lo n).stop i H /\ ys.length <= sizeLine /\ ∀ p,H p=none->Q (.ref p) (upd H p (.lst ys))) ∨
 ((Itr lo n).go i H /\ ys.length < sizeLine /\ ∀ x H',(Itr lo n).yld i H x H'->g x σ H' fun σ2 H2=>tt σ2 H2 fun b H3=>if b=true then te σ2 H3 fun y H4=>∃ m',m' < m /\ W (i+1) m' (ys++[y]) σ2 H4 else ∃ m',m' < m /\ W (i+1) m' ys σ2 H3)
noncomputable def compR1 (g:TG) (tt:TT) (te:TE) (σ0:St) (Q:VK) (x:V) (H1:Hp):Prop:=∃ j:Int,[x]=[.int j] /\ -(2 ^ 62) <= j /\ j < 2 ^ 62 /\ compR 0 g tt te σ0 Q j.toNat H1
theorem tCompR1_eq {k:Nat} {js:List Nat} {t:TE} {g:TG} {tt:TT} {te:TE} {σ:St} {H:Hp} {Q:VK}:ZC7 k js (ZES (ZBw t tNil)) g tt te σ H Q=t σ H (fun x H1=>compR1 g tt te (up k js σ) Q x H1):=rfl
theorem ZBv {j:Int} {g:TG} {tt:TT} {te:TE} {Q:VK} {σ0:St} {H:Hp} (h:-1000 <= j /\ j <= 1000) (P:Nat->List V->St->Hp->Prop) (h0:P 0 [] σ0 H) (hl:∀ i ys σ H,P i ys σ H->ys.length <= i)
  (hs:∀ i ys σ H,i < j.toNat->P i ys σ H->g (.int (0+i)) σ H fun σ2 H2=>tt σ2 H2 fun b H3=>if b=true then te σ2 H3 fun y H4=>Nxt P j.toNat i (ys++[y]) σ2 H4 else Nxt P j.toNat i ys σ2 H3)
  (hd:∀ ys σ H,P j.toNat ys σ H->∀ p,H p=none->Q (.ref p) (upd H p (.lst ys))):compR1 g tt te σ0 Q (.int j) H:=⟨j,rfl,by omega,by omega,comp_range P h0 hl (ZAv (by omega)) hs hd⟩
noncomputable def CDivB (i j:Int):Prop:=0 < j /\ j < 2 ^ 250
section
variable {X:Cx}
theorem op_fdivB:OpR X (binaryOp .FloorDiv) (rI CDivB fun i j=>.int (i / j)):=opI fun i j _ _ _ _ _ hc q=>by
 have h1:(0:Int) < j:=hc.1
 have h2:j < 2 ^ 250:=hc.2
 have h3:j.natAbs < 2 ^ 250:=by
  have e:(j.natAbs:Int)=j:=Int.natAbs_of_nonneg (by omega)
  have e2:((2 ^ 250:Nat):Int)=2 ^ 250:=by rfl
  omega
 have h4:j.natAbs.log2 < 250:=(Nat.log2_lt (by omega)).mpr h3
 exact floordiv_int (by omega) (by rw [Int.fdiv_eq_ediv_of_nonneg i (by omega)];exact q) (.inl (PyProof.noPylong_of_log2 (by omega)))
end
theorem gCons_eq {t:TG} {u:TGs} {v:V} {r:List V} {σ:St} {H:Hp} {Q:St->Hp->Prop}:ZEV t u (v::r) σ H Q=t v σ H (fun σ' H'=>u r σ' H' Q):=by
 apply propext;unfold ZEV;constructor
 .rintro ⟨v',r',e,q⟩;cases e;exact q
 .exact fun q=>⟨v,r,rfl,q⟩
theorem gNil_eq {σ:St} {H:Hp} {Q:St->Hp->Prop}:gNil [] σ H Q=Q σ H:=by
 apply propext;unfold gNil;simp
theorem ZB8 {K:W.Frag} {n:Nat} {t:TGs} {a:Addr} {xs:List V} {σ:St} {H:Hp} {Q:St->Hp->Prop} (h:SqT K H a xs) (l:xs.length=n) (q:t xs σ H Q):gTup K n t (.ref a) σ H Q:=⟨a,xs,rfl,h,l,q⟩
section
variable {X:Cx} {tg l e o:Expr} {es:List Expr} {tl te to:TE} {t:TA} {pos apos cpos:Pos} {f:Str}
theorem ZAf (K:W.Frag) (h:X.K=K:=by rfl):IxR X (rIxL K):=h ▸ ZAU
theorem ZCv (K:W.Frag) (h:X.K=K:=by rfl):IxR X (rIxT K):=h ▸ ZA2
theorem pi_listK (K:W.Frag) (hl:PE X l tl) (h:X.K=K:=by rfl):PI X tg l (ZEH K tl):=h ▸ ZAu hl
theorem call_len_seqK (K:W.Frag) (h:X.K=K:=by rfl):ZCf X (.builtin "len") (fun xs H Q=>∃ p ys,xs=[.ref p] /\ (SqL K H p ys∨SqT K H p ys) /\ Q (.int ys.length) H):=h ▸ ZAP
theorem call_list_ofK (K:W.Frag) (h:X.K=K:=by rfl):ZCf X (.type "list") (fun xs H Q=>∃ p ys,xs=[.ref p] /\ (SqL K H p ys∨SqT K H p ys) /\ ∀ l,H l=none->Q (.ref l) (upd H l (.lst ys))):=h ▸ ZBY
end
section
variable {X:Cx}
theorem tAug_eq {i:Nat} {te:TE} {ti:TIp} {D:Ends} {σ:St} {H:Hp}:tAug i te ti D σ H=tVar i σ H (fun x H0=>te σ H0 fun y H1=>ti x y H1 fun z H2=>D.nx (σ.set i (some z)) H2):=rfl
theorem ipI_int {f:Int->Int->Int} {i j:Int} {H:Hp} {Q:VK}:ipI f (.int i) (.int j) H Q=Q (.int (f i j)) H:=by
 refine propext ⟨?_,fun q=>⟨i,j,rfl,rfl,q⟩⟩
 rintro ⟨a,b,e1,e2,q⟩
 cases e1;cases e2;exact q
theorem cx_K {CX:CXT} {P:Program} {w:World} {K:W.Frag} {mg:Str->Option Value} {base:Heap} {N:List Str} {qual:Str} {scope:Scope} {f:Addr} {cd:Value} {A:Around} {outer:List Env} {s:Shared} {H:Hp} {E:XK}:(cxOf CX P w K mg base N qual scope f cd A outer s H E).K=K:=rfl
end
structure Enc {α:Type} [DecidableEq α] (e:α->PyData) (n:Nat):Prop where
 eq:∀ a b,PyData.eqv (e a) (e b)=decide (a=b)
 lay:∀ a,(e a).canLay0=true
 dep:∀ a,(e a).depth <= n
theorem Enc.int:Enc PyData.int 0:=⟨fun a b=>by unfold PyData.eqv;rw [Bool.eq_iff_iff];simp,fun a=>by unfold PyData.canLay0;rfl,fun a=>by unfold PyData.depth;exact yAA _⟩
section
variable {α β γ:Type} [DecidableEq α] [DecidableEq β] [DecidableEq γ] {e:α->PyData} {f:β->PyData} {g:γ->PyData} {n m k:Nat}
theorem Enc.all (h:Enc e n):∀ xs ys:List α,PyData.eqvAll (xs.map e) (ys.map e)=decide (xs=ys)
 | [],[]=>by simp [PyData.eqvAll]
 | x::xs,[]=>by simp [PyData.eqvAll]
 | [],y::ys=>by simp [PyData.eqvAll]
 | x::xs,y::ys=>by
  rw [yAX,yAX]
  unfold PyData.eqvAll
  rw [h.eq,h.all xs ys,<- Bool.decide_and]
  exact decide_eq_decide.mpr (by rw [List.cons.injEq])
theorem Enc.layAll (h:Enc e n):∀ xs:List α,PyData.canLayAll0 (xs.map e)=true
 | []=>by simp [PyData.canLayAll0]
 | x::xs=>by rw [yAX];unfold PyData.canLayAll0;rw [h.lay,h.layAll xs];rfl
theorem Enc.depAll (h:Enc e n):∀ xs:List α,PyData.depthAll (xs.map e) <= n
 | []=>by simp [PyData.depthAll]
 | x::xs=>by
  rw [yAX];unfold PyData.depthAll
  have a:=h.dep x
  have b:=h.depAll xs
  omega
theorem Enc.list (h:Enc e n):Enc (fun xs:List α=>PyData.list (xs.map e)) (n+1) :=
 ⟨fun a b=>by unfold PyData.eqv;exact h.all a b,fun a=>by unfold PyData.canLay0;exact h.layAll a,fun a=>by unfold PyData.depth;have:=h.depAll a;omega⟩
theorem Enc.tuple (h:Enc e n):Enc (fun xs:List α=>PyData.tuple (xs.map e)) (n+1) :=
 ⟨fun a b=>by unfold PyData.eqv;exact h.all a b,fun a=>by unfold PyData.canLay0;exact h.layAll a,fun a=>by unfold PyData.depth;have:=h.depAll a;omega⟩
theorem eqD_of {K:W.Frag} {H:Hp} {x y:V} {a b:α} {Q:VK} (h:Enc e n) (hn:n <= 64) (dx:Dp K H (e a) x) (dy:Dp K H (e b) y) (q:Q (.bl (decide (a=b))) H):rEqD K x y H Q :=
 ⟨_,_,dx,dy,h.lay a,h.lay b,yAF (h.dep a) hn,by rw [h.eq];exact q⟩
end
section
variable {K:W.Frag} {H:Hp} {R:Bool->Prop}
theorem ZDM {x c:V} {ty:Value} {b:Bool} (hc:ZDm c=true) (t:TyOf K H x ty) (k:PySem.W.kitOne K ty (cval c)=some b) (q:R b):∃ x' c' ty b,[x,c]=[x',c'] /\ ZDm c'=true /\ TyOf K H x' ty /\ PySem.W.kitOne K ty (cval c')=some b /\ R b:=⟨x,c,ty,b,rfl,hc,t,k,q⟩
theorem inst_int {i:Int} (q:R true):∃ x' c' ty b,[V.int i,V.ty "int"]=[x',c'] /\ ZDm c'=true /\ TyOf K H x' ty /\ PySem.W.kitOne K ty (cval c')=some b /\ R b:=ZDM rfl (.int i) (ZDK rfl) q
theorem inst_int_bl {i:Int} (k:PySem.W.kitOne K (.type "int") (.type "bool")=some false) (q:R false):∃ x' c' ty b,[V.int i,V.ty "bool"]=[x',c'] /\ ZDm c'=true /\ TyOf K H x' ty /\ PySem.W.kitOne K ty (cval c')=some b /\ R b:=ZDM rfl (.int i) k q
theorem inst_lst {a:Addr} {xs:List V} (h:H a=some (.lst xs)) (q:R true):∃ x' c' ty b,[V.ref a,V.ty "list"]=[x',c'] /\ ZDm c'=true /\ TyOf K H x' ty /\ PySem.W.kitOne K ty (cval c')=some b /\ R b:=ZDM rfl (.lst h) (ZDK rfl) q
theorem ZDL {a:Addr} {xs:List V} (h:H a=some (.tup xs)) (q:R true):∃ x' c' ty b,[V.ref a,V.ty "tuple"]=[x',c'] /\ ZDm c'=true /\ TyOf K H x' ty /\ PySem.W.kitOne K ty (cval c')=some b /\ R b:=ZDM rfl (.tup h) (ZDK rfl) q
end
section
variable {P:Program} {w:World} {K:W.Frag} {mg:Str->Option Value} {base:Heap}
end
section
variable {X:Cx} {CX:CXT} {k:Nat} {ps:List Str} {sp:Sp} {dvs:List V} {E:XK} {x m:Str} {C:Addr} {p pos apos:Pos} {e o:Expr} {es:List Expr} {ta:TE} {t:TA}
end
section
variable {X:Cx}
theorem rng_ok {P:Program} {w:World} {H:Hp} {h:Heap} {a:Addr} {lo hi:Int} {t u v:Tok} (e:h.get? a=some { cls:=.type "range",data:=.fields #[.int lo t,.int hi u,.int 1 v] }):ObjOk P w H h a (.rng lo hi):=⟨t,u,v,e⟩
theorem call_rng1:ZCf X (.type "range") (fun xs H Q=>∃ n:Int,xs=[.int n] /\ ∀ p,H p=none->Q (.ref p) (upd H p (.rng 0 n))):=by
 intro pins s σ H xs us Q I r h
 obtain ⟨n,rfl,q⟩:=h
 obtain ⟨u,rfl,rx⟩:=ZDS r
 obtain ⟨t,rfl⟩:=rx
 exact call_range_1 ⟨.ref s.heap.objs.size,_,I.laid (fun b o e=>Heap.get?_push_of_some _ e) (yAA _) (rng_ok (Heap.get?_push_size _ rfl)),rfl,q _ (I.hok.fresh (yAA _))⟩
noncomputable def ZDF (lo hi:Int):List Int:=(List.range (hi-lo).toNat).map fun i:Nat=>lo+(i:Int)
theorem ZB5 (lo hi:Int):(ZDF lo hi).length=(hi-lo).toNat:=by unfold ZDF;rw [yAB,yAL]
theorem rints_get {lo hi:Int} {i:Nat} (h:i < (hi-lo).toNat):(ZDF lo hi)[i]?=some (lo+i):=by unfold ZDF;rw [yAJ,yBD h];rfl
theorem call_list_rng (hc:X.calm=true):ZCf X (.type "list") (fun xs H Q=>∃ (p:Addr) (lo hi:Int),xs=[.ref p] /\ H p=some (.rng lo hi) /\ (-1000 <= lo /\ lo <= 1000 /\ -1000 <= hi /\ hi <= 1000) /\ ∀ l,H l=none->Q (.ref l) (upd H l (.lst ((ZDF lo hi).map V.int)))):=by
 intro pins s σ H xs us Q I r h
 obtain ⟨p,lo,hi,rfl,hp,hb,q⟩:=h
 obtain ⟨u,rfl,rx⟩:=ZDS r
 cases rx
 obtain ⟨t,u,v,e⟩:=I.hok p _ hp
 have hh:X.A.handled=none:=I.ok.hd hc
 refine call_list_range (n:=(hi-lo).toNat) hh e (small_one (by omega) (by omega) (by omega) (by omega)) (by rw [rangeSize_one];split <;> omega) (by omega) fun h' tk acc' c' hk hS hacc=>?_
 have hz:(ZDF lo hi).length <= 1000 * 2:=by rw [ZB5];omega
 refine ⟨.ref s.heap.objs.size,_,I.laid (t':=tk) hk (yAA _) (o:=.lst ((ZDF lo hi).map V.int)) ⟨?_,acc'.toList,c',?_,by simpa using hS⟩,rfl,q _ (I.hok.fresh (yAA _))⟩
 .rw [yAB]
  exact yAF hz (by decide)
 .have hsz:acc'.size=(hi-lo).toNat:=hacc.1
  have gen:∀ (vs:List Value) (k:Nat) (zs:List Int),vs.length=zs.length->(∀ (j:Nat) v z,vs[j]?=some v->zs[j]?=some z->∃ t,v=Value.int z t)->Vals (zs.map V.int) vs:=by
   intro vs
   induction vs with
   | nil=>intro k zs h1 _;cases zs with
    | nil=>exact .nil
    | cons _ _=>cases h1
   | cons v r ih=>intro k zs h1 h2;cases zs with
    | nil=>cases h1
    | cons z zr=>exact .cons (h2 0 v z rfl rfl) (ih 0 zr (by simpa using h1) fun j v' z' a b=>h2 (j+1) v' z' (by simpa using a) (by simpa using b))
  refine gen acc'.toList 0 (ZDF lo hi) (by rw [ZB5,Array.length_toList,hsz]) fun j v z a b=>?_
  have a':acc'[j]?=some v:=by simpa using a
  obtain ⟨t,rfl⟩:=hacc.2 j v a'
  have hj:j < (hi-lo).toNat:=by have:=(Array.getElem?_eq_some_iff.mp a').1;omega
  rw [rints_get hj] at b
  cases b
  exact ⟨t,by rw [Int.mul_one]⟩
end
theorem Same.get {H H':Hp} {b:Addr} {o:HO} (s:Same H H') (h:H b=some o):H' b=some o:=s b o h
theorem newH {H:Hp} {p:Addr} (h:H p=none) (o:HO):∃ H',upd H p o=H' /\ Same H H' /\ H' p=some o:=⟨_,rfl,ZAL h o,ZAG⟩
section
variable {K:W.Frag} {a:Addr} {xs:List V} {te:TE} {Q:VK} {σ0 rest:St} {H:Hp}
end
section
variable {X:Cx} {pins:List (Addr×Obj)} {σ:St} {H:Hp} {s:Shared}
theorem Inv.turn2 (I:Inv X pins σ H s) {ch:List Addr} {h':Heap} {p:Addr} {o:HO} {t':Nat} (hf:∀ b∈ch,FpOk X pins H b) (k:∀ b ob,b∉ch->s.heap.get? b=some ob->h'.get? b=some ob)
  (hp:s.heap.objs.size <= p) (new:ObjOk X.prog X.w (upd H p o) h' p o):Inv X pins σ (upd H p o) { s with heap:=h',toks:=t' }:=by
 have hn:H p=none:=I.hok.fresh hp
 have tr:∀ b u,H b=some u->b∉ch:=fun b u e z=>by rw [(hf b z).1] at e;cases e
 refine I.call (g':=s.gens) (t':=t') (d':=s.drawn) (ch:=ch) ⟨fun b ob e n _ hx=>k b ob hx e,fun b ob e n _ hx=>⟨ob.slots,k b ob hx e⟩,fun b ob e n _=>?_,fun b ob e hx=>⟨ob,k b ob hx e⟩,fun b xs e=>?_,fun b ob u e=>?_,fun b qs e=>⟨#[],?_⟩⟩ (fun b u e=>?_) I.bare fun b hb=>?_
 .rw [ZAO (yAG (yAI (Heap.lt_size e) hp))];exact n
 .rw [ZAO (ZAT e hn)];exact e
 .rw [ZAO (ZAT e hn)];exact e
 .rw [ZAO (ZAT e hn),e];simp
 .by_cases hb:b=p
  .subst hb;rw [ZAG] at e;cases e;exact new
  .rw [ZAO hb] at e
   refine (I.hok b u e).stay (fun c v hc q=>k c v ?_ q) (fun c q=>by rw [ZAO (ZAT q hn)];exact q) fun c xs q=>by rw [ZAO (ZAT q hn)];exact q
   rcases hc with z | z
   .rw [z];exact tr b u e
   .exact tr c _ z
 .obtain ⟨a1,a2,a3,a4,a5,a6⟩:=hf b hb
  exact ⟨a4,a2,a5,a6⟩
end
noncomputable def Ite (K:W.Frag) (a:Addr):It :=
 ⟨fun i H=>∃ xs x,SqL K H a xs /\ xs[i]?=some x,fun i H v H'=>∃ p x,H p=none /\ (∀ xs,SqL K H a xs->xs[i]?=some x) /\ H'=upd H p (.tup [.int i,x]) /\ v=.ref p,fun i H=>∃ xs,SqL K H a xs /\ xs.length <= i⟩
theorem turn_enum {P:Program} {w:World} {K:W.Frag} {elts:List Expr} {x1} {tpos:Pos} (a e it:Addr) (hne:e≠it):Turn P w K (.Tuple elts x1 tpos) (Ite K a) [e,it] e (fun i h=>(∃ old,IsEnum h e it ((i:Nat):Int) old) /\ h.IsListIter it a i) where
 mem:=by simp
 obj:=fun i h st b hb=>by
  obtain ⟨⟨old,he⟩,o,e2,c,d⟩:=st
  have hb':b=e∨b=it:=by simpa using hb
  rcases hb' with rfl | rfl
  .exact ⟨_,he,fun v z=>by cases z⟩
  .exact ⟨o,e2,fun v z=>by rw [d] at z;cases z⟩
 keep:=fun i h h' st k=>⟨let ⟨old,he⟩:=st.1;⟨old,k e (by simp) _ he⟩,st.2.at fun o q=>k it (by simp) o q⟩
 item:=by
  intro X hP hw hK hc i pins s σ H E I hf st hg
  subst hP hw hK
  obtain ⟨xs,x,hq,hx⟩:=hg
  obtain ⟨its,rv,p,hz⟩:=I.list hq
  obtain ⟨u,hu,ru⟩:=rv.get hx
  obtain ⟨⟨old,he⟩,hit⟩:=st
  refine wpAny_pyNext_enum_item he hit p.isList (x:=u) (by simpa using hu) hne fun h1 heo hit1 ht1 hz1 hk1=>⟨_,rfl,?_⟩
  refine wpAny_letOwnedTupleGo_enum heo fun h2 he2 hs2=>?_
  replace hs2:Heap.SameBut e h1 h2:=hs2
  have hel:e < s.heap.objs.size:=Heap.lt_size he
  have ht2:h2.get? s.heap.objs.size=some { cls:=.type "tuple",data:=.seq #[.int i s.toks,u] }:=(hs2.2 _ (Nat.ne_of_gt hel)).trans ht1
  have hnew:H s.heap.objs.size=none:=I.hok.fresh (yAA _)
  refine ⟨.ref s.heap.objs.size,upd H s.heap.objs.size (.tup [.int i,x]),I.turn2 (ch:=[e,it]) (t':=s.toks+1) hf (fun b ob hb q=>?_) (yAA _) ?_,rfl,⟨_,x,hnew,fun ys hy=>by rw [I.list_inj hy hq];exact hx,rfl,rfl⟩,⟨⟨u,?_⟩,?_⟩,fun b hb=>?_⟩
  .have hbe:b≠e:=fun z=>hb (by simp [z])
   have hbi:b≠it:=fun z=>hb (by simp [z])
   exact (hs2.2 b hbe).trans (hk1 b ob hbe hbi q)
  .exact ⟨ZAv (show 2 <= 1000 by decide),[.int i s.toks,u],.cons ⟨_,rfl⟩ (.cons ru .nil),_,ht2,rfl,0,rfl⟩
  .have:((i+1:Nat):Int)=(i:Int)+1:=by push_cast;rfl
   rw [this];exact he2
  .exact hit1.at fun o q=>(hs2.2 it (Ne.symm hne)).trans q
  .have hn:=(hf b hb).1
   have hb':b=e∨b=it:=by simpa using hb
   obtain ⟨oi,hoi,_⟩:=hit
   have hlt:b < s.heap.objs.size:=by
    rcases hb' with rfl | rfl
    .exact hel
    .exact Heap.lt_size hoi
   rw [ZAO (yAG hlt)];exact hn
 done:=by
  intro X hP hw hK hc i pins s σ H E I hf st hg
  subst hP hw hK
  obtain ⟨xs,hq,hx⟩:=hg
  obtain ⟨its,rv,p,hz⟩:=I.list hq
  obtain ⟨⟨old,he⟩,hit⟩:=st
  obtain ⟨f0,f1,f2,f3,f4,f5⟩:=hf it (by simp)
  have hl:=rv.length
  exact wpAny_pyNext_enum_end (I.ok.hd hc) he hit p.isList (by rw [List.getElem?_toArray];exact yBF (by omega)) fun h' eb=>⟨rfl,I.turned (t':=s.toks) (fun b o hb e=>eb b o hb e) f0 f1 f3 f4 f5⟩
 self:=fun _ _ _ _ _ st h=>let ⟨_,he⟩:=st.1;wpAny_pyIter_enum he h
section
variable {X:Cx}
noncomputable def ZET (K:W.Frag) (ta:TA):TI:=fun σ H R=>ta σ H fun vs H1=>∃ a,vs=[.ref a] /\ (∃ xs,SqL K H1 a xs) /\ R (Ite K a) H1
theorem ZDH {elts:List Expr} {x1} {tpos:Pos} {l:Expr} {ta:TA} {p pos:Pos} (hg:Gl X "enumerate") (hm:X.mg "enumerate"=none) (ha:PA X [l] ta) (hs:starEach [l] X.env=[(false,eval l X.env)]:=by rfl) :
  PI X (.Tuple elts x1 tpos) (.Call (.Name "enumerate" p) [l] [] pos) (ZET X.K ta):=by
 intro pins s σ H R I h
 refine Call_ (ZDW I hg hm boot_enumerate (PyProof.Rows.callWith_type1 (thn (ha pos pins s σ H _ I h) fun us s1 zz=>?_) hs rfl))
 obtain ⟨vs,H1,I1,r1,q1⟩:=zz
 obtain ⟨a,e,⟨xs,hq⟩,q⟩:=q1
 subst e
 obtain ⟨u,rfl,ru⟩:=ZDS r1
 cases ru
 obtain ⟨its,rv,pl,hz⟩:=I1.list hq
 refine call_enumerate_list pl.isList fun h' he hit hsz hk=>wpAny_pyIter_enum he ?_
 have I2:Inv X pins σ H1 { s1 with heap:=h' }:=I1.kept (t':=s1.toks) hk
 refine ⟨s1.heap.objs.size+1,[s1.heap.objs.size+1,s1.heap.objs.size],_,Ite X.K a,H1,rfl,I2,turn_enum a _ _ (Nat.succ_ne_self _),⟨⟨_,he⟩,hit⟩,fun b hb=>?_,q⟩
 have hb':b=s1.heap.objs.size+1∨b=s1.heap.objs.size:=by simpa using hb
 have hle:s1.heap.objs.size <= b:=by
  rcases hb' with rfl | rfl
  .exact yAY _
  .exact yAA _
 exact I1.fpOk hle (I1.hok.fresh hle)
end
section
variable {K:W.Frag} {a:Addr} {xs:List V} {g:TG} {tb:TS} {D:Ends} {σ:St} {H:Hp}
noncomputable def forE (K:W.Frag) (g:TG) (tb:TS) (D:Ends) (σ:St) (x:V) (H1:Hp):Prop:=∃ a,[x]=[.ref a] /\ (∃ xs,SqL K H1 a xs) /\ ∃ W:Nat->Nat->St->Hp->Prop,(∃ m,W 0 m σ H1) /\ ∀ i m σ H,W i m σ H ->
 ((Ite K a).stop i H /\ D.nx σ H)∨((Ite K a).go i H /\ ∃ N:St->Hp->Prop,(∀ σ' H',N σ' H'->∃ m',m' < m /\ W (i+1) m' σ' H') /\ ∀ x H',(Ite K a).yld i H x H'->g x σ H' fun σ2 H2=>tb { D with nx:=N,ct:=N,bk:=D.nx } σ2 H2)
theorem tForE_eq {t:TE}:tFor (ZET K (ZBw t tNil)) g tb D σ H=t σ H (fun x H1=>forE K g tb D σ x H1):=rfl
theorem ZDQ (h:SqL K H a xs) (Pv:Nat->St->Hp->Prop) (h0:Pv 0 σ H) (hl:∀ i σ H,i <= xs.length->Pv i σ H->SqL K H a xs)
  (hs:∀ (i:Nat) x σ H p,xs[i]?=some x->Pv i σ H->H p=none->g (.ref p) σ (upd H p (.tup [.int i,x])) fun σ2 H2=>tb { D with nx:=Pv (i+1),ct:=Pv (i+1),bk:=D.nx } σ2 H2) (hd:∀ σ H,Pv xs.length σ H->D.nx σ H):forE K g tb D σ (.ref a) H:=by
 refine ⟨a,rfl,⟨xs,h⟩,fun i m σ H=>m=xs.length-i /\ i <= xs.length /\ Pv i σ H,⟨xs.length,by simp,Nat.zero_le _,h0⟩,?_⟩
 rintro i m σ H ⟨rfl,hi,p⟩
 have q:=hl i σ H hi p
 by_cases hlt:i < xs.length
 .refine .inr ⟨⟨xs,xs[i],q,by simp [hlt]⟩,Pv (i+1),fun σ' H' p'=>⟨xs.length-(i+1),by omega,rfl,hlt,p'⟩,fun x H' y=>?_⟩
  obtain ⟨pp,x',hn,y,rfl,rfl⟩:=y
  exact hs i x' σ _ pp (y xs q) p hn
 .have e:i=xs.length:=by omega
  subst e
  exact .inl ⟨⟨xs,q,yAA _⟩,hd σ H p⟩
variable {tt:TT} {te:TE} {Q:VK} {σ0:St}
noncomputable def compE (K:W.Frag) (g:TG) (tt:TT) (te:TE) (σ0:St) (Q:VK) (x:V) (H1:Hp):Prop:=∃ a,[x]=[.ref a] /\ (∃ xs,SqL K H1 a xs) /\ ∃ W:Nat->Nat->List V->St->Hp->Prop,(∃ m,W 0 m [] σ0 H1) /\ ∀ i m ys σ H,W i m ys σ H ->
 ((Ite K a).stop i H /\ ys.length <= sizeLine /\ ∀ p,H p=none->Q (.ref p) (upd H p (.lst ys))) ∨
 ((Ite K a).go i H /\ ys.length < sizeLine /\ ∀ x H',(Ite K a).yld i H x H'->g x σ H' fun σ2 H2=>tt σ2 H2 fun b H3=>if b=true then te σ2 H3 fun y H4=>∃ m',m' < m /\ W (i+1) m' (ys++[y]) σ2 H4 else ∃ m',m' < m /\ W (i+1) m' ys σ2 H3)
theorem tCompE_eq {k:Nat} {js:List Nat} {t:TE}:ZC7 k js (ZET K (ZBw t tNil)) g tt te σ H Q=t σ H (fun x H1=>compE K g tt te (up k js σ) Q x H1):=rfl
end
noncomputable abbrev FZ (o:Obj):HO:=.frz o (.ext fun _=>True)
theorem ZEC {P:Program} {w:World} {H:Hp} {h:Heap} {a:Addr} {o:Obj} (e:h.get? a=some o):ObjOk P w H h a (FZ o):=⟨e,trivial,⟨o,e⟩,fun _ _ _ _=>trivial⟩
theorem ZC5 {P:Program} {w:World} {H:Hp} {h:Heap} {a:Addr} {o:Obj} (x:HOk P w H h) (e:H a=some (FZ o)):h.get? a=some o:=(x a _ e).1
noncomputable def CodeAt (H:Hp) (c:Addr) (qual:Str):Prop:=∃ oc vs t,H c=some (FZ oc) /\ oc.data=.fields vs /\ vs[1]?=some (.str qual t)
theorem CodeAt.rec {P:Program} {w:World} {H:Hp} {h:Heap} {c:Addr} {qual:Str} (x:HOk P w H h) (k:CodeAt H c qual):h.CodeRec (.ref c) qual :=
 let ⟨oc,vs,t,e,d,v⟩:=k;⟨c,oc,vs,t,rfl,ZC5 x e,d,v⟩
structure CloL (H:Hp) (g:Addr) (iname iq:Str) (ip:Arguments) (ib:List Stmt) (isc:Scope) (fr:List Str) (cs:List V) (cl:List (Str×Addr)):Prop where
 obj:∃ (doc pm ctv:Value) (c':Addr),H g=some (FZ (PySem.W.fnMade iname iq ip ib isc cl doc pm c' ctv)) /\ CodeAt H c' iq
 keys:∀ x c,cl.lookup x=some c->x∈fr
 inj:∀ x y c,cl.lookup x=some c->cl.lookup y=some c->x=y
 cell:∀ (i:Nat) (x:Str),fr[i]?=some x->∃ v c u o,cs[i]?=some v /\ cl.lookup x=some c /\ RelV v u /\ H c=some (FZ o) /\ o.data=.cell (some u)
 len:cs.length=fr.length
noncomputable def Clo (H:Hp) (g:Addr) (iname iq:Str) (ip:Arguments) (ib:List Stmt) (isc:Scope) (fr:List Str) (cs:List V):Prop:=∃ cl,CloL H g iname iq ip ib isc fr cs cl
noncomputable def ZDZ (H H':Hp):Prop:=∀ b o,H b=some (FZ o)->H' b=some (FZ o)
theorem CodeAt.mono {H H':Hp} {c:Addr} {q:Str} (e:ZDZ H H') (k:CodeAt H c q):CodeAt H' c q:=let ⟨oc,vs,t,a,d,v⟩:=k;⟨oc,vs,t,e _ _ a,d,v⟩
theorem CloL.mono {H H':Hp} {g:Addr} {iname iq:Str} {ip:Arguments} {ib:List Stmt} {isc:Scope} {fr:List Str} {cs:List V} {cl:List (Str×Addr)} (e:ZDZ H H') (k:CloL H g iname iq ip ib isc fr cs cl):CloL H' g iname iq ip ib isc fr cs cl where
 obj:=let ⟨doc,pm,ctv,c',a,b⟩:=k.obj;⟨doc,pm,ctv,c',e _ _ a,b.mono e⟩
 keys:=k.keys
 inj:=k.inj
 cell:=fun i x h=>let ⟨v,c,u,o,a1,a2,a3,a4,a5⟩:=k.cell i x h;⟨v,c,u,o,a1,a2,a3,e _ _ a4,a5⟩
 len:=k.len
theorem Clo.mono {H H':Hp} {g:Addr} {iname iq:Str} {ip:Arguments} {ib:List Stmt} {isc:Scope} {fr:List Str} {cs:List V} (e:ZDZ H H') (k:Clo H g iname iq ip ib isc fr cs):Clo H' g iname iq ip ib isc fr cs:=let ⟨cl,x⟩:=k;⟨cl,x.mono e⟩
theorem CloL.inj' {H:Hp} {g:Addr} {iname iq:Str} {ip:Arguments} {ib:List Stmt} {isc:Scope} {fr:List Str} {cs cs':List V} {cl cl':List (Str×Addr)} (k:CloL H g iname iq ip ib isc fr cs cl) (k':CloL H g iname iq ip ib isc fr cs' cl'):cs=cs':=by
 obtain ⟨d1,p1,t1,c1,e1,_⟩:=k.obj
 obtain ⟨d2,p2,t2,c2,e2,_⟩:=k'.obj
 rw [e1] at e2
 have ecl:cl=cl':=by
  have:=Option.some.inj e2
  injection this with h1 h2
  injection h1 with h3 h4 h5
  injection h5 with h6
  injection h6
 subst ecl
 refine List.ext_getElem? fun i=>?_
 by_cases hi:i < fr.length
 .obtain ⟨v,c,u,o,a1,a2,a3,a4,a5⟩:=k.cell i _ (yAH hi)
  obtain ⟨v',c',u',o',b1,b2,b3,b4,b5⟩:=k'.cell i _ (yAH hi)
  rw [a2] at b2
  cases b2
  rw [a4] at b4
  have eo:o=o':=by
   have:=Option.some.inj b4
   injection this
  subst eo
  rw [a5] at b5
  have eu:u=u':=by injection b5 with h;injection h
  subst eu
  rw [a1,b1,a3.inj b3]
 .rw [yBF (by rw [k.len];omega),yBF (by rw [k'.len];omega)]
open Classical in
noncomputable def hid (cl:List (Str×Addr)) (H:Hp):Hp:=fun b=>if ∃ x,cl.lookup x=some b then none else H b
open Classical in
noncomputable def back (cl:List (Str×Addr)) (H H1:Hp):Hp:=fun b=>if ∃ x,cl.lookup x=some b then H b else H1 b
theorem ZDn {cl:List (Str×Addr)} {H:Hp} {x:Str} {b:Addr} (h:cl.lookup x=some b):hid cl H b=none:=by unfold hid;rw [if_pos ⟨x,h⟩]
theorem ZC0 {cl:List (Str×Addr)} {H:Hp} {b:Addr} (h:¬ ∃ x,cl.lookup x=some b):hid cl H b=H b:=by unfold hid;rw [if_neg h]
theorem ZDv {cl:List (Str×Addr)} {H H1:Hp} {x:Str} {b:Addr} (h:cl.lookup x=some b):back cl H H1 b=H b:=by unfold back;rw [if_pos ⟨x,h⟩]
theorem ZCe {cl:List (Str×Addr)} {H H1:Hp} {b:Addr} (h:¬ ∃ x,cl.lookup x=some b):back cl H H1 b=H1 b:=by unfold back;rw [if_neg h]
theorem hid_le {cl:List (Str×Addr)} {H:Hp} {b:Addr} {o:HO} (h:hid cl H b=some o):H b=some o:=by
 by_cases q:∃ x,cl.lookup x=some b
 .obtain ⟨x,q⟩:=q;rw [ZDn q] at h;cases h
 .rw [ZC0 q] at h;exact h
noncomputable def Cells (cl:List (Str×Addr)) (H:Hp):Prop:=∀ x c,cl.lookup x=some c->∃ u o,H c=some (FZ o) /\ o.data=.cell u
theorem CloL.cells {H:Hp} {g:Addr} {iname iq:Str} {ip:Arguments} {ib:List Stmt} {isc:Scope} {fr:List Str} {cs:List V} {cl:List (Str×Addr)} (k:CloL H g iname iq ip ib isc fr cs cl):Cells cl H:=fun x c h=>by
 obtain ⟨i,hi⟩:=List.getElem?_of_mem (k.keys x c h)
 obtain ⟨v,c2,u,o,_,h2,_,h4,h5⟩:=k.cell i x hi
 rw [h] at h2
 cases h2
 exact ⟨_,o,h4,h5⟩
theorem ZBk {cl:List (Str×Addr)} {H:Hp} {b:Addr} {o:HO} (C:Cells cl H) (h:H b=some o) (n:∀ ob,o≠FZ ob):hid cl H b=some o:=by
 rw [ZC0,h]
 rintro ⟨x,q⟩
 obtain ⟨u,ob,e,_⟩:=C x b q
 rw [h] at e
 exact n ob (Option.some.inj e)
theorem back_hid {cl:List (Str×Addr)} {H:Hp}:back cl H (hid cl H)=H:=by
 funext b
 by_cases q:∃ x,cl.lookup x=some b
 .obtain ⟨x,q⟩:=q;rw [ZDv q]
 .rw [ZCe q,ZC0 q]
noncomputable def NoC (cl:List (Str×Addr)) (H:Hp):Prop:=∀ x c,cl.lookup x=some c->H c=none
structure CloScope (N ps fr:List Str) (sc:Scope):Prop where
 kind:sc.kind=.function
 co:sc.isCoroutine=false
 gen:sc.isGenerator=false
 nd:N.Nodup
 pre:N.take ps.length=ps
 suf:N.drop (N.length-fr.length)=fr
 two:ps.length+fr.length <= N.length
 par:∀ x∈ps,sc.names.lookup x=some .local
 nocell:∀ y∈sc.names,y.2≠.cell
 free:∀ x∈fr,sc.names.lookup x=some .free
 only:∀ x,sc.names.lookup x=some .free->x∈fr
noncomputable def ZCL (N:List Str) (vs cs:List V):St:=vs.map some++(List.replicate (N.length-vs.length-cs.length) none++cs.map some)
noncomputable def ZD1 (P:Program) (w:World) (K:W.Frag) (mg:Str->Option Value) (base:Heap) (N:List Str) (qual:Str) (scope:Scope) (f:Addr) (cd:Value) (cl:List (Str×Addr)) (A:Around) (outer:List Env) (s:Shared) (H:Hp):Cx where
 prog:=P
 w:=w
 K:=K
 mg:=mg
 base:=base
 A:=A.deeper (PySem.W.envX qual scope s.heap.objs.size f cd cl)
 N:=N
 s₀:=s
 H₀:=H
 env:=PySem.W.envX qual scope s.heap.objs.size f cd cl
 outer:=outer
 stack:=PySem.W.envX qual scope s.heap.objs.size f cd cl::outer
 ex:=[]
 calm:=true
 fn:=fun _=>false
 pn:=[]
 xe:=fun _ _=>False
theorem startC_get {N:List Str} {vs cs:List V} {i:Nat} {v:V} (hl:vs.length+cs.length <= N.length) (h:(ZCL N vs cs)[i]?=some (some v)) :
  vs[i]?=some v∨(N.length-cs.length <= i /\ cs[i-(N.length-cs.length)]?=some v):=by
 unfold ZCL at h
 by_cases h1:i < vs.length
 .rw [yAN (by simpa using h1),yAJ] at h
  cases e:vs[i]? with
  | none=>rw [e] at h;cases h
  | some a=>rw [e] at h;cases h;exact .inl rfl
 .rw [yAS (by simpa using Nat.le_of_not_lt h1),yAB] at h
  by_cases h2:i-vs.length < N.length-vs.length-cs.length
  .rw [yAN (by simpa using h2),List.getElem?_replicate,if_pos h2] at h
   cases h
  .rw [yAS (by simpa using Nat.le_of_not_lt h2),yBJ,yAJ] at h
   right
   refine ⟨by omega,?_⟩
   rw [show i-(N.length-cs.length)=i-vs.length-(N.length-vs.length-cs.length) by omega]
   cases e:cs[i-vs.length-(N.length-vs.length-cs.length)]? with
   | none=>rw [e] at h;cases h
   | some a=>rw [e] at h;cases h;rfl
theorem zip_fst_sub:∀ (ps:List Str) (us:List Value),((ps.zip us).map (·.1)).Sublist ps
 | [],_=>by simp
 | p::ps,[]=>by simp
 | p::ps,u::us=>by rw [List.zip_cons_cons,yAX];exact (zip_fst_sub ps us).cons₂ p
theorem lookup_nodup {α:Type}:∀ {cs:List (Str×α)} {n:Str} {c:α},(cs.map (·.1)).Nodup->(n,c)∈cs->cs.lookup n=some c
 | (m,d)::r,n,c,hn,h=>by
  rw [yAX] at hn
  have hn':=List.nodup_cons.mp hn
  rw [yBC]
  rcases yAR.mp h with e | h
  .cases e;simp
  .have:n≠m:=fun z=>hn'.1 (z ▸ List.mem_map_of_mem (f:=(·.1)) h)
   have:(n == m)=false:=by simpa using this
   rw [this]
   exact lookup_nodup hn'.2 h
theorem zip_lookup {ps:List Str} {us:List Value} (nd:ps.Nodup) {i:Nat} {x:Str} {u:Value} (h1:ps[i]?=some x) (h2:us[i]?=some u):((ps.zip us).reverse).lookup x=some u:=by
 have hm:(x,u)∈(ps.zip us).reverse:=by
  rw [List.mem_reverse]
  refine yAC (i:=i) ?_
  rw [List.getElem?_zip_eq_some]
  exact ⟨h1,h2⟩
 have hnd:((ps.zip us).reverse.map (·.1)).Nodup:=by
  rw [List.map_reverse]
  exact List.pairwise_reverse.mpr (List.Pairwise.imp (fun h=>Ne.symm h) (nd.sublist (zip_fst_sub ps us)))
 exact lookup_nodup hnd hm
section
variable {P:Program} {w:World} {K:W.Frag} {mg:Str->Option Value} {base:Heap} {A:Around} {outer:List Env} {s:Shared} {H:Hp} {g:Addr} {iname iq:Str} {ip:Arguments} {ib:List Stmt} {isc:Scope} {N ps fr:List Str} {cs vs:List V} {us:List Value} {cl:List (Str×Addr)} {k:Nat}
theorem clo_call {Q:VK} (C:CloL H g iname iq ip ib isc fr cs cl) (S:CloScope N ps fr isc) (hr:Room (k+1) A) (e0:Env0 P w K mg base A outer s H) (hl:vs.length=ps.length) (r:Vals vs us)
  (hbind:∀ (doc pm ctv:Value) (c':Addr),bindArgs (PySem.W.fnX iname iq ip ib isc cl .none .none doc pm none (.ref c') ctv) ⟨us,[]⟩=pure (ps.zip us))
  (hbody:∀ (cd:Value) (A':Around),Room k A'->∃ t,PSs (ZD1 P w K mg base N iq isc g cd cl A outer s (hid cl H)) ib t /\ t { nx:=fun _ H'=>NoC cl H'->Q .non (back cl H H'),rt:=fun v H'=>NoC cl H'->Q v (back cl H H') } (ZCL N vs cs) (hid cl H)) :
  codeAny (model P w) A (.call (.ref g) ⟨us,[]⟩) (fun r s'=>match r with | .ok (.ret u)=>CE outer P w H s Q u s' | _=>False) s:=by
 obtain ⟨doc,pm,ctv,c',hg,hc⟩:=C.obj
 have hget:=ZC5 e0.hok hg
 have lim:s.heap.NoLimit:=e0.mod.nolimit.keeps fun b o e=>(e0.bs b o e).1
 have hnd:ps.Nodup:=by rw [<- S.pre];exact S.nd.sublist (List.take_sublist _ _)
 refine codeAny_call_def (o:=PySem.W.fnMade iname iq ip ib isc cl doc pm c' ctv) (fd:=PySem.W.fnX iname iq ip ib isc cl .none .none doc pm none (.ref c') ctv) (body:=ib) (binds:=ps.zip us) hr.depth hget rfl lim (hc.rec e0.hok) rfl (.of_eq (hbind doc pm ctv c')) S.nocell (fun y hy=>S.par _ (List.of_mem_zip hy).1) (fun h₁ hns hk₁=>?_) S.co S.gen S.kind
 obtain ⟨t,ht,hq⟩:=hbody (.ref c') _ (hr.deeper (PySem.W.envX iq isc s.heap.objs.size g (.ref c') cl))
 have cellAt:∀ x c,cl.lookup x=some c->∃ o u,H c=some (FZ o) /\ s.heap.get? c=some o /\ o.data=.cell u:=fun x c h=>by
  obtain ⟨u,o,e,d⟩:=C.cells x c h
  exact ⟨o,u,e,ZC5 e0.hok e,d⟩
 have cfs:∀ x c,cl.lookup x=some c->c∉frs outer:=fun x c h hb=>by
  obtain ⟨o,u,e,_⟩:=cellAt x c h
  rw [e0.frf c hb] at e;cases e
 have hpl:ps.length <= N.length:=by have:=S.two;omega
 have I:Inv (ZD1 P w K mg base N iq isc g (.ref c') cl A outer s (hid cl H)) [] (ZCL N vs cs) (hid cl H) { s with heap:=h₁,toks:=s.toks+(ps.zip us).length }:=by
  refine ⟨⟨e0.mod,S.kind,rfl,rfl,yAA _,C.inj,fun x hx=>?_,fun y c h=>absurd h (by simp [ZD1]),fun _=>hr.hd,Around.frames_deeper e0.frames,.inr ⟨rfl,rfl⟩,fun b z=>absurd (show b∈([]:List Addr) from z) (by simp),fun b o e=>?_,e0.bsz,fun b _ _ z=>absurd (show b∈([]:List Addr) from z) (by simp),fun b z=>absurd (show b∈([]:List Addr) from z) (by simp),e0.funs,fun b hb=>?_⟩,
   rfl,e0.bare,Un.kept hk₁,⟨_,hns,fun i x v h1 h2 h3=>?_⟩,fun x c h=>?_,?_,fun x c h=>ZDn h,fun p hp=>absurd (show p∈([]:List (Addr×Obj)) from hp) (by simp),?_,?_⟩
  .have hx:isc.names.lookup x=some .cell∨isc.names.lookup x=some .free:=hx
   rcases hx with hx | hx
   .exact absurd rfl (S.nocell _ (PySem.mem_of_lookup hx))
   .obtain ⟨i,hi⟩:=List.getElem?_of_mem (S.only x hx)
    obtain ⟨v,c,u,o,_,h2,_⟩:=C.cell i x hi
    exact ⟨c,h2⟩
  .refine ⟨(e0.bs b o e).1,?_⟩
   show hid cl H b=none
   by_cases q:∃ x,cl.lookup x=some b
   .obtain ⟨x,q⟩:=q;exact ZDn q
   .rw [ZC0 q];exact (e0.bs b o e).2
  .show hid cl H b=none
   rw [ZC0]
   .exact e0.frf b hb
   .rintro ⟨x,q⟩;exact cfs x b q hb
  .have h1:N[i]?=some x:=h1
   have hcl:=C.len
   rcases startC_get (by rw [hl,hcl];exact S.two) h2 with h4 | ⟨h4,h5⟩
   .obtain ⟨u,hu,rv⟩:=r.get h4
    have hi:i < vs.length:=(yAE.mp h4).1
    have hp:ps[i]?=some x:=by rw [<- S.pre,List.getElem?_take_of_lt (by omega)];exact h1
    exact ⟨u,rv,.inl ⟨S.par x (yAC hp),zip_lookup hnd hp hu⟩⟩
   .have hf:fr[i-(N.length-cs.length)]?=some x:=by
     rw [<- S.suf,List.getElem?_drop,<- hcl,show N.length-cs.length+(i-(N.length-cs.length))=i by omega]
     exact h1
    obtain ⟨v',c,u,o,a1,a2,a3,a4,a5⟩:=C.cell _ x hf
    rw [h5] at a1
    cases a1
    refine ⟨u,a3,.inr ⟨.inr (S.free x (yAC hf)),c,a2,o,hk₁ _ _ (ZC5 e0.hok a4),a5⟩⟩
  .obtain ⟨o,u,e,e2,d⟩:=cellAt x c h
   exact ⟨u,o,hk₁ _ _ e2,d⟩
  .show hid cl H s.heap.objs.size=none
   have hn:=e0.hok.fresh (yAA _)
   rw [ZC0]
   .exact hn
   .rintro ⟨x,q⟩
    obtain ⟨o,u,e,_⟩:=cellAt x _ q
    rw [hn] at e;cases e
  .intro b o e
   have e':=hid_le e
   refine (e0.hok b o e').stay (fun c v _ q=>hk₁ c v q) (fun c q=>?_) fun c xs q=>?_
   .exact ZBk C.cells q (fun ob z=>by cases z)
   .exact ZBk C.cells q (fun ob z=>by cases z)
  .unfold ZCL
   show _=N.length
   have:=S.two
   have:=C.len
   simp only [yAD,yAB,yBJ]
   omega
 refine wpAny_mono (ht [] _ (ZCL N vs cs) (hid cl H) _ I hq) (fun fl s' hs=>?_) fun e s' hs=>False.elim hs
 have fin:∀ {σ':St} {H':Hp} {v:V} {u:Value},Inv (ZD1 P w K mg base N iq isc g (.ref c') cl A outer s (hid cl H)) [] σ' H' s'->RelV v u->(NoC cl H'->Q v (back cl H H'))->CE outer P w H s Q u s' :=
  fun {σ' H' v u} J rv q=>by
   have un:Un (frs outer) [] (hid cl H) H' s.heap s'.heap:=J.base
   have nex:∀ b:Addr,b∉([]:List Addr):=fun b=>by simp
   have keepC:∀ x c o,cl.lookup x=some c->s.heap.get? c=some o->s'.heap.get? c=some o:=fun x c o h e=>un.keep c o e (ZDn h) (cfs x c h) (nex c)
   have freeC:∀ x c,cl.lookup x=some c->H' c=none:=fun x c h=>by
    obtain ⟨o,u,e,e2,d⟩:=cellAt x c h
    exact un.free c o e2 (ZDn h) (nex c)
   refine ⟨v,back cl H H',J.os,J.bare,⟨fun b o e n hb hx=>?_,fun b o e n hb hx=>?_,fun b o e n hx=>?_,un.there,fun b xs e=>?_,fun b o u' e=>?_,fun b ps' e=>?_⟩,fun b o e=>?_,rv,q freeC⟩
   .refine un.keep b o e ?_ hb hx
    by_cases q:∃ x,cl.lookup x=some b
    .obtain ⟨x,q⟩:=q;exact ZDn q
    .rw [ZC0 q];exact n
   .refine un.slot b o e ?_ hb hx
    by_cases q:∃ x,cl.lookup x=some b
    .obtain ⟨x,q⟩:=q;exact ZDn q
    .rw [ZC0 q];exact n
   .have nc:¬ ∃ x,cl.lookup x=some b:=by
     rintro ⟨x,q⟩
     obtain ⟨o,u,e,_⟩:=cellAt x b q
     rw [n] at e;cases e
    rw [ZCe nc]
    exact un.free b o e (by rw [ZC0 nc];exact n) hx
   .have e2:=un.tups b xs (ZBk C.cells e (fun ob z=>by cases z))
    rw [ZCe]
    .exact e2
    .rintro ⟨x,q⟩;rw [freeC x b q] at e2;cases e2
   .by_cases q:∃ x,cl.lookup x=some b
    .obtain ⟨x,q⟩:=q;rw [ZDv q];exact e
    .rw [ZCe q];exact un.frzs b o u' (by rw [ZC0 q];exact e)
   .obtain ⟨more,e2⟩:=un.tbls b ps' (ZBk C.cells e (fun ob z=>by cases z))
    refine ⟨more,?_⟩
    rw [ZCe]
    .exact e2
    .rintro ⟨x,q⟩;rw [freeC x b q] at e2;cases e2
   .have up:∀ c oc,H' c=some oc->back cl H H' c=some oc:=fun c oc q=>by
     rw [ZCe]
     .exact q
     .rintro ⟨x,z⟩;rw [freeC x c z] at q;cases q
    by_cases q:∃ x,cl.lookup x=some b
    .obtain ⟨x,q⟩:=q
     rw [ZDv q] at e
     obtain ⟨o2,u2,e2,e3,d⟩:=cellAt x b q
     rw [e] at e2
     cases e2
     exact ZEC (keepC x b _ q e3)
    .rw [ZCe q] at e
     exact (J.hok b o e).stay (fun c v _ q=>q) (fun c q=>up c _ q) fun c xs q=>up c _ q
 cases fl with
 | ret u=>
  obtain ⟨v,σ',H',J,rv,q⟩:=hs
  exact fin J rv q
 | next=>
  obtain ⟨σ',H',J,q⟩:=hs
  exact fin (v:=V.non) (u:=Value.none) J rfl q
 | brk=>
  obtain ⟨_,_,_,q⟩:=hs
  exact False.elim q
 | cont=>
  obtain ⟨_,_,_,q⟩:=hs
  exact False.elim q
end
noncomputable def ZD3 (r:V->List V->Hp->VK->Prop) (ta:TE) (t:TA):TE:=fun σ H Q=>ta σ H fun f H1=>(∃ g o,f=.ref g /\ H1 g=some (FZ o) /\ ∃ fd,o.data=.func fd) /\ t σ H1 fun vs H2=>r f vs H2 Q
noncomputable def CloR (X:Cx) (r:V->List V->Hp->VK->Prop):Prop :=
 ∀ (pins:List (Addr×Obj)) (s:Shared) (σ:St) (H:Hp) (f:Addr) (vs:List V) (us:List Value) (Q:VK),Inv X pins σ H s->Vals vs us->r (.ref f) vs H Q ->
  PySem.W.FnAt f s.heap /\ wpAny (model X.prog X.w) X.A (call (.ref f) us) (EP X pins σ Q) X.xe s
theorem fnAt_of {h:Heap} {g:Addr} {o:Obj} {fd:FuncData} (e:h.get? g=some o) (d:o.data=.func fd):PySem.W.FnAt g h:=by
 obtain ⟨oc,od,dt,sl⟩:=o
 have d':dt=.func fd:=d
 subst d'
 exact ⟨oc,od,fd,sl,e⟩
theorem pe_callV {X:Cx} {x:Str} {p pos:Pos} {e:Expr} {es:List Expr} {ta:TE} {t:TA} {r:V->List V->Hp->VK->Prop} (hc:CloR X r) (hx:PE X (.Name x p) ta) (ha:PA X (e::es) t)
  (he:starEach (e::es) X.env=(false,eval e X.env)::starEach es X.env:=by rfl) (hpl:(backTo pos (starEach es X.env)).any (·.1)=false:=by rfl):PE X (.Call (.Name x p) (e::es) [] pos) (ZD3 r ta t):=by
 intro pins s σ H Q I h
 refine wpAny_Call_Name_kw (thn (hx pins s σ H _ I h) fun v s1 zz=>?_)
 obtain ⟨f,H1,I1,rf,⟨g,o,eg,hg,fd,hd⟩,q⟩:=zz
 subst eg
 cases rf
 refine PySem.W.callWith_F (fnAt_of (ZC5 I1.hok hg) hd) (thn (ha pos pins s1 σ H1 _ I1 q) fun us s2 zz=>?_) he hpl
 obtain ⟨vs,H2,I2,r2,q2⟩:=zz
 exact hc pins s2 σ H2 g vs us Q I2 r2 q2
structure CloOk (P:Program) (w:World) (K:W.Frag) (mg:Str->Option Value) (base:Heap) (k:Nat) (r:V->List V->Hp->VK->Prop):Prop where
 run:∀ (A:Around) (outer:List Env) (s:Shared) (H:Hp) (f:Addr) (vs:List V) (us:List Value) (Q:VK),Room k A->Env0 P w K mg base A outer s H->Vals vs us->r (.ref f) vs H Q ->
  PySem.W.FnAt f s.heap /\ codeAny (model P w) A (.call (.ref f) ⟨us,[]⟩) (fun r s'=>match r with | .ok (.ret u)=>CE outer P w H s Q u s' | _=>False) s
theorem CloOk.at {X:Cx} {k:Nat} {r:V->List V->Hp->VK->Prop} (C:CloOk X.prog X.w X.K X.mg X.base k r) (hr:Room k X.A):CloR X r:=by
 intro pins s σ H f vs us Q I rv h
 obtain ⟨h1,h2⟩:=C.run X.A X.stack s H f vs us Q hr I.env0 rv h
 refine ⟨h1,wpAny_call (codeAny_mono h2 fun r s' hq=>?_)⟩
 cases r with
 | error e=>exact False.elim hq
 | ok fl=>
  cases fl with
  | ret u=>exact I.after hq
  | next=>exact False.elim hq
  | brk=>exact False.elim hq
  | cont=>exact False.elim hq
theorem Clo.fnAt {P:Program} {w:World} {H:Hp} {h:Heap} {g:Addr} {iname iq:Str} {ip:Arguments} {ib:List Stmt} {isc:Scope} {fr:List Str} {cs:List V} {cl:List (Str×Addr)} (x:HOk P w H h) (C:CloL H g iname iq ip ib isc fr cs cl):PySem.W.FnAt g h:=by
 obtain ⟨doc,pm,ctv,c',e,_⟩:=C.obj
 exact fnAt_of (ZC5 x e) rfl
theorem clo_of {P:Program} {w:World} {K:W.Frag} {mg:Str->Option Value} {base:Heap} {iname iq:Str} {ip:Arguments} {ib:List Stmt} {isc:Scope} {N ps fr:List Str} {k:Nat} {r:V->List V->Hp->VK->Prop} (S:CloScope N ps fr isc)
  (hcl:∀ f vs H Q,r f vs H Q->∃ g cs,f=.ref g /\ Clo H g iname iq ip ib isc fr cs) (len:∀ f vs H Q,r f vs H Q->vs.length=ps.length)
  (hbind:∀ (cl:List (Str×Addr)) (doc pm ctv:Value) (c':Addr) (us:List Value),us.length=ps.length->bindArgs (PySem.W.fnX iname iq ip ib isc cl .none .none doc pm none (.ref c') ctv) ⟨us,[]⟩=pure (ps.zip us))
  (hbody:∀ (g:Addr) (cs:List V) (cl:List (Str×Addr)) (cd:Value) (A:Around) (outer:List Env) (s:Shared) (H:Hp) (vs:List V) (Q:VK),Room k (A.deeper (PySem.W.envX iq isc s.heap.objs.size g cd cl))->CloL H g iname iq ip ib isc fr cs cl->r (.ref g) vs H Q ->
   ∃ t,PSs (ZD1 P w K mg base N iq isc g cd cl A outer s (hid cl H)) ib t /\ t { nx:=fun _ H'=>NoC cl H'->Q .non (back cl H H'),rt:=fun v H'=>NoC cl H'->Q v (back cl H H') } (ZCL N vs cs) (hid cl H)):CloOk P w K mg base (k+1) r:=by
 refine ⟨fun A outer s H f vs us Q hr e0 rv h=>?_⟩
 obtain ⟨g,cs,eg,cl,C⟩:=hcl _ _ _ _ h
 cases eg
 have hl:=len _ _ _ _ h
 refine ⟨Clo.fnAt e0.hok C,clo_call (k:=k) C S hr e0 hl rv (fun doc pm ctv c'=>hbind cl doc pm ctv c' us (by rw [<- rv.length];exact hl)) fun cd A' hr'=>?_⟩
 exact hbody f cs cl cd A outer s H vs Q (hr.deeper _) C h
noncomputable def TabSt (H:Hp) (Pt:Addr) (pos:Pos) (iq:Str):Prop:=H Pt=some (.tbl #[])∨∃ c',H Pt=some (.tbl #[rawInt pos.line,rawInt pos.col,.ref c']) /\ CodeAt H c' iq
theorem TabSt.mono {H H':Hp} {Pt:Addr} {pos:Pos} {iq:Str} (e:H' Pt=H Pt) (f:ZDZ H H') (k:TabSt H Pt pos iq):TabSt H' Pt pos iq:=by
 rcases k with k | ⟨c',k,q⟩
 .exact .inl (e.trans k)
 .exact .inr ⟨c',e.trans k,q.mono f⟩
noncomputable def ZDa (mg:Str->Option Value) (h:Heap):Prop:=∃ bm ob,mg "__builtins__"=some (.ref bm) /\ bm≠builtinsNs /\ h.get? bm=some ob /\ ob.cls=.type "module" /\ ob.dict=some builtinsNs /\ ob.data=.plain
structure MadeDef (H H':Hp) (Pt:Addr) (pos:Pos) (g:Addr) (iname iq:Str) (ip:Arguments) (ib:List Stmt) (isc:Scope) (fr:List Str) (cs:List V):Prop where
 same:∀ b o,b≠Pt->H b=some o->H' b=some o
 tab:TabSt H' Pt pos iq
 clo:Clo H' g iname iq ip ib isc fr cs
 fresh:H g=none
section
variable {X:Cx} {pins:List (Addr×Obj)} {σ:St} {H:Hp} {s:Shared}
structure MadeMid (H H':Hp) (Pt:Addr) (pos:Pos) (g:Addr) (iname iq:Str) (ip:Arguments) (ib:List Stmt) (isc:Scope) (cl:List (Str×Addr)):Prop where
 same:∀ b o,b≠Pt->H b=some o->H' b=some o
 tab:TabSt H' Pt pos iq
 obj:∃ (doc pm ctv:Value) (c':Addr),H' g=some (FZ (PySem.W.fnMade iname iq ip ib isc cl doc pm c' ctv)) /\ CodeAt H' c' iq
 fresh:H g=none
theorem Inv.made3 (I:Inv X pins σ H s) {Pt c':Addr} {ps more:Array Value} {h':Heap} {oc fo:Obj} {tk:Nat} (hP:H Pt=some (.tbl ps)) (hx:Heap.ExtBut Pt s.heap h') (hge:s.heap.objs.size <= c') (hlt:c' < h'.objs.size) (hoc:h'.get? c'=some oc)
  (hPt:h'.get? Pt=some (PySem.W.tabObj (ps++more))) (hfo:fo.isFreed=false):Inv X pins σ (upd (upd (upd H Pt (.tbl (ps++more))) c' (FZ oc)) h'.objs.size (FZ fo)) { s with heap:=h'.push fo,toks:=tk }:=by
 have gn:∀ b o,s.heap.get? b=some o->b≠h'.objs.size /\ b≠c':=fun b o e=>by
  have l:=Heap.lt_size e
  exact ⟨yAG (Nat.lt_trans (yAI l hge) hlt),yAG (yAI l hge)⟩
 have gt:∀ b o,H b=some o->b≠h'.objs.size /\ b≠c':=fun b o e=>by
  have l:=I.hok.lt e
  exact ⟨yAG (Nat.lt_trans (yAI l hge) hlt),yAG (yAI l hge)⟩
 have np:∀ b,H b=none->b≠Pt:=fun b n z=>by rw [z,hP] at n;cases n
 have cg:c'≠h'.objs.size:=yAG hlt
 have old:∀ b o,b≠Pt->H b=some o->upd (upd (upd H Pt (.tbl (ps++more))) c' (FZ oc)) h'.objs.size (FZ fo) b=some o:=fun b o n e=>by
  rw [ZAO (gt b o e).1,ZAO (gt b o e).2,ZAO n];exact e
 have atP:upd (upd (upd H Pt (.tbl (ps++more))) c' (FZ oc)) h'.objs.size (FZ fo) Pt=some (.tbl (ps++more)):=by
  rw [ZAO (gt Pt _ hP).1,ZAO (gt Pt _ hP).2,ZAG]
 refine I.un (h':=h'.push fo) (t':=tk) ⟨fun b o e n _ _=>?_,fun b o e n _ _=>?_,fun b o e n _=>?_,fun b o e _=>?_,fun b xs e=>?_,fun b o u e=>?_,fun b qs e=>?_⟩ fun b o e=>?_
 .exact Heap.get?_push_of_some _ (hx b o (np b n) e)
 .exact ⟨o.slots,Heap.get?_push_of_some _ (hx b o (np b n) e)⟩
 .rw [ZAO (gn b o e).1,ZAO (gn b o e).2,ZAO (np b n)];exact n
 .by_cases q:b=Pt
  .subst q;exact ⟨_,Heap.get?_push_of_some _ hPt⟩
  .exact ⟨o,Heap.get?_push_of_some _ (hx b o q e)⟩
 .exact old b _ (fun z=>by rw [z,hP] at e;cases e) e
 .exact old b _ (fun z=>by rw [z,hP] at e;cases e) e
 .by_cases q:b=Pt
  .subst q
   rw [hP] at e
   cases e
   exact ⟨more,atP⟩
  .exact ⟨#[],by rw [old b _ q e];simp⟩
 .by_cases q1:b=h'.objs.size
  .subst q1;rw [ZAG] at e;cases e;exact ZEC (Heap.get?_push_size _ hfo)
  .rw [ZAO q1] at e
   by_cases q2:b=c'
   .subst q2;rw [ZAG] at e;cases e;exact ZEC (Heap.get?_push_of_some _ hoc)
   .rw [ZAO q2] at e
    by_cases q3:b=Pt
    .subst q3;rw [ZAG] at e;cases e;exact Heap.get?_push_of_some _ hPt
    .rw [ZAO q3] at e
     refine (I.hok b o e).stay (fun c u hc q=>?_) (fun c q=>?_) fun c xs q=>?_
     .refine Heap.get?_push_of_some _ (hx c u ?_ q)
      rcases hc with z | z
      .rw [z];exact q3
      .intro z2;rw [z2,hP] at z;cases z
     .exact old c _ (fun z=>by rw [z,hP] at q;cases q) q
     .exact old c _ (fun z=>by rw [z,hP] at q;cases q) q
theorem Inv.made1 (I:Inv X pins σ H s) {h':Heap} {fo:Obj} {tk:Nat} (hk:∀ b o,s.heap.get? b=some o->h'.get? b=some o) (hsz:s.heap.objs.size <= h'.objs.size) (hfo:fo.isFreed=false):Inv X pins σ (upd H h'.objs.size (FZ fo)) { s with heap:=h'.push fo,toks:=tk } :=
 I.laid (fun b u q=>Heap.get?_push_of_some _ (hk b u q)) hsz (ZEC (Heap.get?_push_size _ hfo))
noncomputable def tDef (i:Nat) (Pt:Addr) (pos:Pos) (iname iq:Str) (ip:Arguments) (ib:List Stmt) (isc:Scope) (cl:List (Str×Addr)):TS:=fun D σ H=>TabSt H Pt pos iq /\ ∀ g H',MadeMid H H' Pt pos g iname iq ip ib isc cl->D.nx (σ.set i (some (.ref g))) H'
theorem ps_def {i:Nat} {Pt c:Addr} {pos:Pos} {iname iq:Str} {ip:Arguments} {ib:List Stmt} {isc:Scope} (hN:X.N.Nodup) (hi:X.N[i]?=some iname) (hx:Loc X.env.scope iname) (hf:X.fn iname=true∨X.env.scope.names.lookup iname=some .local)
  (hcode:X.env.code=.ref c) (C:PySem.W.CodeHd X.base c Pt) (B:ZDa X.mg X.base) (hq:qualnameIn X.env iname iname=iq) (hd0:ip.defaults=[]) (hk0:ip.kw_defaults=[]) (ha:annTrees ip none X.env=[])
  (hfr:∀ x,(x,NameKind.free)∈isc.names->∃ c,X.env.cells.lookup x=some c) :
  PS X (.FunctionDef iname ip ib [] none [] isc none iname pos) (tDef i Pt pos iname iq ip ib isc (closFrom X.env.cells isc.names [])):=by
 intro pins s σ H D I h
 obtain ⟨ht,h⟩:=h
 refine PySem.W.nestDef_K hd0 hk0 ha ?_
 rw [hq]
 have hgs:=I.ok.mod.glob.keeps I.bk
 have hC:=C.keeps I.bk
 have hcl:=closureFor_eq (scope:=isc) (env:=X.env) hfr
 obtain ⟨bm,ob,b1,b2,b3,b4,b5,b6⟩:=B
 have hbG:bm≠mainGlobals:=fun q=>by
  obtain ⟨o,es,ep,e,hd,_⟩:=I.ok.mod.glob
  rw [q,e] at b3;cases b3;rw [hd] at b6;cases b6
 have apart:∀ {qs:Array Value},s.heap.get? Pt=some (PySem.W.tabObj qs)->mainGlobals≠Pt /\ s.heap.BuiltinsAt X.mg Pt:=fun {qs} hm=>by
  refine ⟨fun q=>?_,bm,ob,b1,b2,hbG,fun q=>?_,I.bk _ _ b3,b4,b5,b6⟩
  .obtain ⟨o,es,ep,e,hd,_⟩:=hgs
   rw [q,hm] at e;cases e;cases hd
  .have e:=I.bk _ _ b3
   rw [q,hm] at e;cases e;cases b4
 have fin:∀ {g:Addr} {H':Hp} {s':Shared},Inv X pins σ H' s'->MadeMid H H' Pt pos g iname iq ip ib isc (closFrom X.env.cells isc.names []) ->
   wpAny (model X.prog X.w) X.A (storeName X.env iname (.ref g)) (fun _ s''=>SP X pins D .next s'') X.xe s':=fun {g H' s'} J M=>
  ZCg J hN hi hx (v:=.ref g) rfl (fun s'' J'=>⟨_,H',J',h g H' M⟩) hf
 rcases ht with ht | ⟨c1,ht,hc1⟩
 .have hP:s.heap.get? Pt=some (PySem.W.tabObj #[]):=I.hok Pt _ ht
  obtain ⟨a1,a2⟩:=apart hP
  refine PySem.W.makeFunction_K hcl I.ok.glob hgs hcode hC hP trivial rfl a1 a2 fun c' ctv doc h' tk hx2 hge hlt hrec htb=>?_
  obtain ⟨c2,oc,vs,t,e2,hoc,hd,hv⟩:=hrec
  cases e2
  have J:=I.made3 (tk:=tk) (fo:=PySem.W.fnMade iname iq ip ib isc (closFrom X.env.cells isc.names []) doc ((X.mg "__name__").getD .none) c' ctv) ht hx2 hge hlt hoc htb rfl
  have gt:∀ b o,H b=some o->b≠h'.objs.size /\ b≠c':=fun b o e=>by
   have l:=I.hok.lt e
   exact ⟨yAG (Nat.lt_trans (yAI l hge) hlt),yAG (yAI l hge)⟩
  have hcc:CodeAt (upd (upd (upd H Pt (.tbl (#[]++#[rawInt pos.line,rawInt pos.col,.ref c']))) c' (FZ oc)) h'.objs.size (FZ (PySem.W.fnMade iname iq ip ib isc (closFrom X.env.cells isc.names []) doc ((X.mg "__name__").getD .none) c' ctv))) c' iq :=
   ⟨oc,vs,t,by rw [ZAO (yAG hlt),ZAG],hd,hv⟩
  refine fin J ⟨fun b o n e=>?_,.inr ⟨c',?_,hcc⟩,⟨doc,_,ctv,c',ZAG,hcc⟩,?_⟩
  .rw [ZAO (gt b o e).1,ZAO (gt b o e).2,ZAO n];exact e
  .rw [ZAO (gt Pt _ ht).1,ZAO (gt Pt _ ht).2,ZAG];rfl
  .exact I.hok.fresh (yAF hge (Nat.le_of_lt hlt))
 .have hP:s.heap.get? Pt=some (PySem.W.tabObj #[rawInt pos.line,rawInt pos.col,.ref c1]):=I.hok Pt _ ht
  obtain ⟨a1,a2⟩:=apart hP
  refine PySem.W.makeFunction_hit (cv:=.ref c1) hcl I.ok.glob hgs hcode hC hP trivial ?_ a2 fun ctv doc h' tk hk hsz=>?_
  .simp [codeAmong,rawInt]
  have J:=I.made1 (tk:=tk) (fo:=PySem.W.fnMade iname iq ip ib isc (closFrom X.env.cells isc.names []) doc ((X.mg "__name__").getD .none) c1 ctv) hk hsz rfl
  have gt:∀ b o,H b=some o->b≠h'.objs.size:=fun b o e=>yAG (yAI (I.hok.lt e) hsz)
  have old:∀ b o,H b=some o->upd H h'.objs.size (FZ (PySem.W.fnMade iname iq ip ib isc (closFrom X.env.cells isc.names []) doc ((X.mg "__name__").getD .none) c1 ctv)) b=some o:=fun b o e=>by rw [ZAO (gt b o e)];exact e
  have hcc:=hc1.mono (H':=upd H h'.objs.size (FZ (PySem.W.fnMade iname iq ip ib isc (closFrom X.env.cells isc.names []) doc ((X.mg "__name__").getD .none) c1 ctv))) fun b o e=>old b _ e
  exact fin J ⟨fun b o _ e=>old b o e,.inr ⟨c1,old _ _ ht,hcc⟩,⟨doc,_,ctv,c1,ZAG,hcc⟩,I.hok.fresh hsz⟩
end
noncomputable def ZDp (Pt:Addr) (pos:Pos) (iname iq:Str) (ip:Arguments) (ib:List Stmt) (isc:Scope) (fr:List Str) (ix:List Nat) (n:Nat):Sp:=fun vs H Q _=>
 vs.length=n /\ TabSt H Pt pos iq /\ ∀ g H',MadeDef H H' Pt pos g iname iq ip ib isc fr (ix.map fun i=>vs.getD i .non)->Q (.ref g) H'
theorem teller_ok {P:Program} {w:World} {K:W.Frag} {mg:Str->Option Value} {base:Heap} {x qual:Str} {st:Stmt} {f c Pt:Addr} {fd:FuncData} {ps:List Str} {iname iq:Str} {ip:Arguments} {ib:List Stmt} {isc:Scope} {pos rp rpos:Pos} {fr:List Str} {ix:List Nat}
  (F:Fun K x qual st f fd) (S:FnScope (ps++[iname]) ps (ZAB st)) (hcd:fd.code=.ref c) (C:PySem.W.CodeHd base c Pt) (B:ZDa mg base)
  (hb:ZAH st=[.FunctionDef iname ip ib [] none [] isc none iname pos,.Return (some (.Name iname rp)) rpos]) (hiq:∀ L cd,qualnameIn (envOfC qual (ZAB st) L f cd) iname iname=iq) (hd0:ip.defaults=[]) (hk0:ip.kw_defaults=[]) (ha:∀ L cd,annTrees ip none (envOfC qual (ZAB st) L f cd)=[])
  (hloc:(ZAB st).names.lookup iname=some .local) (hdb:(iname == ("__debug__":Str))=false) (hcdn:(iname == ("__classdict__":Str))=false)
  (hfree:∀ y∈isc.names,y.2=.free->y.1∈fr) (hhas:∀ y∈fr,(y,NameKind.free)∈isc.names) (hfc:∀ y∈fr,(ZAB st).names.lookup y=some .cell) (hix:∀ (j:Nat) (y:Str),fr[j]?=some y->∃ i,ix[j]?=some i /\ ps[i]?=some y) (hixl:ix.length=fr.length) :
  FnOk P w K mg base CX0 1 f fd ps (ZDp Pt pos iname iq ip ib isc fr ix ps.length):=by
 obtain ⟨oc,od,kV,doc,pm,an,cdv,ct,osl,rfl,lk,hcd2⟩:=F.ex
 have hcd':cdv=.ref c:=hcd
 refine ⟨fun vs H Q E h=>h.1,fun A outer s H args us vs Q E hr e0 hbn r hsp=>?_⟩
 obtain ⟨hl,hT,hQ⟩:=hsp
 have KX:K.In s.heap:=e0.mod.kin.keeps fun b o e=>(e0.bs b o e).1
 have lim:s.heap.NoLimit:=e0.mod.nolimit.keeps fun b o e=>(e0.bs b o e).1
 have hkind:∀ y∈ps.zip us,(ZAB st).names.lookup y.1=some .local∨((ZAB st).names.lookup y.1=some .cell /\ ((cellsFrom (s.heap.objs.size+1) (ZAB st).names []).lookup y.1).isSome=true):=fun ⟨n,v⟩ hy=>by
  rcases S.par n (List.of_mem_zip hy).1 with q | q
  .exact .inl q
  .exact .inr ⟨q,PySem.W.cellsFrom_some _ _ _ (.inl q)⟩
 refine codeAny_call_function hr.depth (KX _ _ lk) rfl S.co S.gen rfl (PySem.W.codeRec_of KX hcd2) (hbn _ _ _ _ ?_)
 refine wpAny_newFunctionEnv_cells S.kind hkind fun env he s1 xx=>?_
 subst he
 refine ⟨lim.keeps xx.toInCall.keep,codeAny_func ?_⟩
 have I:Inv (cxOf CX0 P w K mg base (ps++[iname]) qual (ZAB st) f cdv A outer s H E).nox [] (start (ps++[iname]) vs) H s1:=(inv_start S hr.hd e0 hl r xx).wish _
 have cellHas:∀ y∈fr,∃ cc,(cellsFrom (s.heap.objs.size+1) (ZAB st).names []).lookup y=some cc:=fun y hy=>ZCj (hfc y hy)
 rw [hb]
 have hiN:(ps++[iname])[ps.length]?=some iname:=by simp
 have d1:=ps_def (X:=(cxOf CX0 P w K mg base (ps++[iname]) qual (ZAB st) f cdv A outer s H E).nox) (i:=ps.length) (pos:=pos) (Pt:=Pt) (c:=c) (iq:=iq) (ip:=ip) (ib:=ib) (isc:=isc) S.nd hiN (.inl hloc) (.inr hloc) hcd' C B (hiq _ _) hd0 hk0 (ha _ _) fun y hy=>cellHas y (hfree _ hy rfl)
 have hlen:(start (ps++[iname]) vs).length=ps.length+1:=by
  unfold start
  simp only [yAD,yAB,yBJ,yAZ,List.length_nil]
  omega
 have run:=d1 [] s1 (start (ps++[iname]) vs) H { nx:=fun σ' H'=>∃ g,σ'=(start (ps++[iname]) vs).set ps.length (some (.ref g)) /\ MadeMid H H' Pt pos g iname iq ip ib isc (closFrom (cellsFrom (s.heap.objs.size+1) (ZAB st).names []) isc.names []),rt:=fun _ _=>False } I ⟨hT,fun g H' M=>⟨g,rfl,M⟩⟩
 refine wpAny_execs_cons (wpAny_mono run (fun fl s2 q=>?_) fun e s' z=>z.elim)
 cases fl with
 | ret v=>obtain ⟨_,_,_,_,_,q⟩:=q;exact q.elim
 | brk=>obtain ⟨_,_,_,q⟩:=q;exact q.elim
 | cont=>obtain ⟨_,_,_,q⟩:=q;exact q.elim
 | next=>
  obtain ⟨σ',H',J,g,rfl,M⟩:=q
  have v1:=pe_var (pos:=rp) (X:=(cxOf CX0 P w K mg base (ps++[iname]) qual (ZAB st) f cdv A outer s H E).nox) hiN (.inl hloc) hdb hcdn [] s2 _ H' (fun v H2=>v=.ref g /\ H2=H') J ⟨.ref g,by rw [List.getElem?_set_self (by rw [hlen];omega)],rfl,rfl⟩
  refine wpAny_execs_cons (wpAny_Return_some (wpAny_mono v1 (fun u s3 q=>?_) fun e s' z=>z.elim))
  obtain ⟨v,H2,J2,rv,rfl,rfl⟩:=q
  cases rv
  have un:Un (frs outer) [] H H2 s.heap s3.heap:=J2.base
  have nex:∀ b:Addr,b∉([]:List Addr):=fun b=>by simp
  have inj:=J2.ok.inj
  have cAt:∀ (j:Nat) (y:Str),fr[j]?=some y->∃ v cc uu,(ix.map fun i=>vs.getD i .non)[j]?=some v /\ (cellsFrom (s.heap.objs.size+1) (ZAB st).names []).lookup y=some cc /\ RelV v uu /\ s3.heap.IsCell cc (some uu):=fun j y hj=>by
   obtain ⟨i,h1,h2⟩:=hix j y hj
   have hi:i < ps.length:=(yAE.mp h2).1
   obtain ⟨v,hv⟩:∃ v,vs[i]?=some v:=⟨_,yAH (by omega)⟩
   obtain ⟨m,_,hm⟩:=J2.loc
   have hs:((start (ps++[iname]) vs).set ps.length (some (.ref g)))[i]?=some (some v):=by
    rw [List.getElem?_set_ne (by omega)]
    unfold start
    rw [yAN (by rw [yAB];omega),yAJ,hv]
    rfl
   have hN:(ps++[iname])[i]?=some y:=by rw [yAN hi];exact h2
   obtain ⟨uu,ru,lk2⟩:=hm i y v hN hs (.inr (.inl (hfc y (yAC hj))))
   refine ⟨v,?_⟩
   rcases lk2 with ⟨k1,_⟩ | ⟨_,cc,e1,e2⟩
   .have k2:(ZAB st).names.lookup y=some .local:=k1
    rw [hfc y (yAC hj)] at k2
    cases k2
   .refine ⟨cc,uu,?_,e1,ru,e2⟩
    rw [yAJ,h1]
    show some (vs.getD i .non)=some v
    rw [yBA,hv]
    rfl
  have clk:∀ y cc,(closFrom (cellsFrom (s.heap.objs.size+1) (ZAB st).names []) isc.names []).lookup y=some cc->y∈fr /\ (cellsFrom (s.heap.objs.size+1) (ZAB st).names []).lookup y=some cc:=fun y cc h=>by
   rcases ZBl _ _ y cc (PySem.mem_of_lookup h) with z | ⟨z1,z2⟩
   .cases z
   .have hy:=hfree _ z1 rfl
    obtain ⟨c3,h3⟩:=cellHas y hy
    rw [h3] at z2
    exact ⟨hy,by rw [h3];exact congrArg some z2.symm⟩
  have clh:∀ y cc,y∈fr->(cellsFrom (s.heap.objs.size+1) (ZAB st).names []).lookup y=some cc->(closFrom (cellsFrom (s.heap.objs.size+1) (ZAB st).names []) isc.names []).lookup y=some cc:=fun y cc hy h=>by
   obtain ⟨c3,h3⟩:=ZBb (ZBm (cells:=cellsFrom (s.heap.objs.size+1) (ZAB st).names []) isc.names [] y (hhas y hy))
   have:=(clk y c3 h3).2
   rw [h] at this
   rw [h3,Option.some.inj this]
  have cnew:∀ y cc,(closFrom (cellsFrom (s.heap.objs.size+1) (ZAB st).names []) isc.names []).lookup y=some cc->s.heap.objs.size <= cc /\ H2 cc=none /\ ∃ o u,s3.heap.get? cc=some o /\ o.data=.cell u:=fun y cc h=>by
   obtain ⟨hy,h2⟩:=clk y cc h
   obtain ⟨u,o,e1,e2⟩:=J2.cell y cc h2
   exact ⟨Nat.le_of_lt (xx.above y cc (PySem.mem_of_lookup h2)),J2.freeC y cc h2,o,u,e1,e2⟩
  generalize closFrom (cellsFrom (s.heap.objs.size+1) (ZAB st).names []) isc.names []=cl at M clk clh cnew
  have tr:∀ b,¬ (∃ y,cl.lookup y=some b)->back cl (fun b=>(s3.heap.get? b).map FZ) H2 b=H2 b:=fun b n=>ZCe n
  have tc:∀ y b o,cl.lookup y=some b->s3.heap.get? b=some o->back cl (fun b=>(s3.heap.get? b).map FZ) H2 b=some (FZ o):=fun y b o h e=>by rw [ZDv h,e];rfl
  have oldn:∀ b,b < s.heap.objs.size->¬ ∃ y,cl.lookup y=some b:=fun b hb ⟨y,z⟩=>absurd (cnew y b z).1 (Nat.not_le.mpr hb)
  have up:∀ b o,H2 b=some o->back cl (fun b=>(s3.heap.get? b).map FZ) H2 b=some o:=fun b o e=>by
   rw [tr b fun ⟨y,z⟩=>by rw [(cnew y b z).2.1] at e;cases e];exact e
  refine ⟨.ref g,back cl (fun b=>(s3.heap.get? b).map FZ) H2,J2.os,J2.bare,⟨un.keep,un.slot,fun b o e n hx=>?_,un.there,fun b xs e=>up _ _ (un.tups b xs e),fun b o u e=>up _ _ (un.frzs b o u e),fun b qs e=>?_⟩,fun b o e=>?_,rfl,hQ g _ ⟨fun b o n e=>up _ _ (M.same b o n e),?_,⟨cl,?_,fun y cc h=>(clk y cc h).1,fun y z cc h1 h2=>inj y z cc (clk y cc h1).2 (clk z cc h2).2,fun j y hj=>?_,?_⟩,M.fresh⟩⟩
  .rw [tr b (oldn b (Heap.lt_size e))];exact un.free b o e n hx
  .obtain ⟨more,e2⟩:=un.tbls b qs e
   exact ⟨more,up _ _ e2⟩
  .by_cases q:∃ y,cl.lookup y=some b
   .obtain ⟨y,q⟩:=q
    obtain ⟨_,_,o2,u2,e2,_⟩:=cnew y b q
    rw [tc y b o2 q e2] at e
    cases e
    exact ZEC e2
   .rw [tr b q] at e
    exact (J2.hok b o e).stay (fun c v _ q=>q) (fun c q=>up c _ q) fun c xs q=>up c _ q
  .exact M.tab.mono (by
    rcases M.tab with z | ⟨_,z,_⟩
    .rw [z];exact up _ _ z
    .rw [z];exact up _ _ z) fun b o e=>up b _ e
  .obtain ⟨d1,d2,d3,c3,e1,e2⟩:=M.obj
   exact ⟨d1,d2,d3,c3,up _ _ e1,e2.mono fun b o e=>up b _ e⟩
  .obtain ⟨v,cc,uu,a1,a2,a3,o,a4,a5⟩:=cAt j y hj
   have hl2:=clh y cc (yAC hj) a2
   exact ⟨v,cc,uu,o,a1,hl2,a3,tc y cc o hl2 a4,a5⟩
  .rw [yAB];exact hixl
noncomputable def ZEX (tabs:List (Addr×Addr)) (H:Hp):Prop:=∀ q∈tabs,H q.2=some (.tbl #[])
theorem law_callT {P:Program} {w:World} {K:W.Frag} {mg mb:Str->Option Value} {CX:CXT} {k:Nat} {fa a:Addr} {fd:FuncData} {x:Str} {sp:Sp} {s₁:Shared} {vs:List Value} {ns:List Int} {tabs:List (Addr×Addr)}
  (KX:K.In s₁.heap) (hns:s₁.heap.Ns mainGlobals mg) (hb:s₁.heap.Ns builtinsNs mb) (hbb:∀ x:Str,x≠"__name__"->mb x=bootBuiltins x) (hlim:s₁.heap.NoLimit) (hg:s₁.gens=#[])
  (ha:s₁.heap.get? a=some { cls:=.type "list",data:=.seq vs.toArray }) (hi:IntsAre vs ns) (hl:ns.length <= sizeLine) (hr:Room k callerA)
  (hT:∀ q∈tabs,PySem.W.CodeHd s₁.heap q.1 q.2 /\ s₁.heap.get? q.2=some (PySem.W.tabObj #[])) (nt:PySem.W.noTabs K=true) (hbm:ZDa mg s₁.heap)
  (F:∀ base:Heap,K.In base->base.Ns mainGlobals mg->(∀ q∈tabs,PySem.W.CodeHd base q.1 q.2)->ZDa mg base->FnOk P w K mg base CX k fa fd [x] sp) (hbind:∀ (s:Shared) (u:Value),BindsTo s fd ⟨[u],[]⟩ [(x,u)])
  (hsp:∀ H:Hp,ZEX tabs H->SqL K H a (ns.map V.int)->sp [.ref a] H (fun v _=>v=.bl true) fun _ _ _=>False)
  (hCX:∀ H e s',CX [] H s₁ (fun _ _ _=>False) e s'->False) :
  codeAny (model P w) callerA (.call (.ref fa) ⟨[.ref a],[]⟩) (fun r s'=>r=.ok (.ret (.bool true)) /\ OldK s₁.heap s'.heap /\ s'.os=s₁.os /\ AllBare s'.gens) s₁:=by
 have rv:=vals_ints hi
 have lenV:=hi.length
 have core:∀ H:Hp,SqL K H a (ns.map V.int)->HOk P w H s₁.heap->(∀ b o,H b=some o->(b=a /\ K.lookup a=none /\ ∃ ob xs,o=.frz ob (.lst xs))∨(o=.tbl #[] /\ ∃ q∈tabs,q.2=b))->ZEX tabs H ->
   codeAny (model P w) callerA (.call (.ref fa) ⟨[.ref a],[]⟩) (fun r s'=>r=.ok (.ret (.bool true)) /\ OldK s₁.heap s'.heap /\ s'.os=s₁.os /\ AllBare s'.gens) s₁:=by
  intro H hS hok hA hO
  have base_of:∀ {b:Addr} {o:Obj},s₁.heap.get? b=some o->H b=none->(hidT s₁.heap H).get? b=some o:=fun e n=>hidT_get e n
  have noObj:∀ {b:Addr} {o:Obj},s₁.heap.get? b=some o->(∀ vs' n',o.data≠.seq vs' n')->(o.cls=.none->∀ vs',o.data≠.fields vs')->H b=none:=fun {b o} e d1 d2=>by
   cases q:H b with
   | none=>rfl
   | some u=>
    rcases hA b u q with ⟨e',_⟩ | ⟨_,q',hq,e'⟩
    .subst e'
     rw [ha] at e;cases e
     exact absurd rfl (d1 _ _)
    .subst e'
     rw [(hT q' hq).2] at e;cases e
     exact absurd rfl (d2 rfl _)
  have nsK:∀ {b:Addr} {m:Str->Option Value},s₁.heap.Ns b m->(hidT s₁.heap H).Ns b m:=fun {b m} ⟨o,es,ep,e,d,r⟩=>⟨o,es,ep,base_of e (noObj e (by rw [d];intro _ _ z;cases z) (fun _=>by rw [d];intro _ z;cases z)),d,r⟩
  have hKb:K.In (hidT s₁.heap H):=fun b o e=>base_of (KX b o e) (by
   cases q:H b with
   | none=>rfl
   | some u=>
    rcases hA b u q with ⟨e',n,_⟩ | ⟨_,q',hq,e'⟩
    .subst e';rw [n] at e;cases e
    .subst e'
     have e2:=KX _ _ e
     rw [(hT q' hq).2] at e2
     cases e2
     have h2:=List.all_eq_true.mp nt _ (PySem.W.mem_of_lookupK e)
     exact absurd (show false=true from h2) yAM)
  have hM:Mod K mg (hidT s₁.heap H):=⟨hKb,nsK hns,⟨mb,nsK hb,hbb⟩,let ⟨mc,h1,h2⟩:=hlim;⟨mc,nsK h1,h2⟩⟩
  have e0:Env0 P w K mg (hidT s₁.heap H) callerA [] s₁ H:=⟨rfl,hM,fun b o e=>of_hidT e,Nat.le_of_eq (hidT_size _ _),trivial,fun b hb=>absurd (show b∈([]:List Addr) from hb) (by simp),hok,.of_eq hg⟩
  have hC:∀ q∈tabs,PySem.W.CodeHd (hidT s₁.heap H) q.1 q.2:=fun q hq=>by
   obtain ⟨o,vs,file,tf,flags,tg,inF,text,tt,e1,e2,e3,r⟩:=(hT q hq).1
   exact ⟨o,vs,file,tf,flags,tg,inF,text,tt,base_of e1 (noObj e1 (by rw [e3];intro _ _ z;cases z) (fun z=>by rw [e2] at z;cases z)),e2,e3,r⟩
  have hB:ZDa mg (hidT s₁.heap H):=by
   obtain ⟨bm,ob,b1,b2,b3,b4,b5,b6⟩:=hbm
   exact ⟨bm,ob,b1,b2,base_of b3 (noObj b3 (by rw [b6];intro _ _ z;cases z) (fun z=>by rw [b4] at z;cases z)),b4,b5,b6⟩
  refine codeAny_mono ((F _ hKb (nsK hns) hC hB).run callerA [] s₁ H ⟨[.ref a],[]⟩ [.ref a] [.ref a] _ _ hr e0 (hbind s₁ (.ref a)) (.cons rfl .nil) (hsp H hO hS)) fun r s' h=>?_
  cases r with
  | error e=>exact (hCX H e s' h).elim
  | ok fl=>
   cases fl with
   | next=>exact False.elim h
   | brk=>exact False.elim h
   | cont=>exact False.elim h
   | ret u=>
    obtain ⟨v,H',os,bare,un,hok',r',q⟩:=h
    have q':v=.bl true:=q
    subst q'
    obtain rfl:u=Value.bool true:=r'
    have nfs:∀ b:Addr,b∉frs ([]:List Env):=fun b z=>absurd (show b∈([]:List Addr) from z) (by simp)
    refine ⟨rfl,⟨fun b o e=>?_,fun b o e=>un.there b o e (by simp)⟩,os,bare⟩
    cases q:H b with
    | none=>exact .inl (un.keep b o e q (nfs b) (by simp))
    | some u=>
     rcases hA b u q with ⟨_,_,ob,xs,z⟩ | ⟨z,q',hq,e'⟩
     .subst z
      have z2:=un.frzs b ob _ q
      obtain ⟨e1,_⟩:=hok b _ q
      obtain ⟨e2,_⟩:=hok' b _ z2
      rw [e] at e1;cases e1
      exact .inl e2
     .subst z
      subst e'
      obtain ⟨more,z2⟩:=un.tbls _ _ q
      have e2:s'.heap.get? q'.2=some (PySem.W.tabObj (#[]++more)):=hok' _ _ z2
      have e3:=(hT q' hq).2
      rw [e] at e3
      have e4:o=PySem.W.tabObj #[]:=Option.some.inj e3
      subst e4
      exact .inr (.inl ⟨((hT q' hq).1.tab (hT q' hq).2).isCodeTable,rfl,#[],more,rfl,e2⟩)
 have tabA:∀ q∈tabs,q.2≠a:=fun q hq z=>by
  have e:=(hT q hq).2
  rw [z,ha] at e;cases e
 cases hk:K.lookup a with
 | some o=>
  have e:=KX a o hk
  rw [ha] at e
  cases e
  refine core (fun b=>if b∈tabs.map (·.2) then some (.tbl #[]) else none) (.inr ⟨_,vs.toArray,_,hk,rfl,rfl,rfl,by rw [yAK,lenV];exact hl,by simpa using rv⟩) (fun b u z=>?_) (fun b u z=>?_) fun q hq=>if_pos (List.mem_map_of_mem hq)
  .by_cases hb:b∈tabs.map (·.2)
   .have z':=(if_pos hb).symm.trans z
    cases z'
    obtain ⟨q,hq,rfl⟩:=yBG.mp hb
    exact (hT q hq).2
   .have z':=(if_neg hb).symm.trans z
    cases z'
  .by_cases hb:b∈tabs.map (·.2)
   .have z':=(if_pos hb).symm.trans z
    cases z'
    obtain ⟨q,hq,e⟩:=yBG.mp hb
    exact .inr ⟨rfl,q,hq,e⟩
   .have z':=(if_neg hb).symm.trans z
    cases z'
 | none=>
  refine core (fun b=>if b∈tabs.map (·.2) then some (.tbl #[]) else if b=a then some (.frz { cls:=.type "list",data:=.seq vs.toArray } (.lst (ns.map V.int))) else none) (.inl (.inr ⟨{ cls:=.type "list",data:=.seq vs.toArray },?_⟩)) (fun b u z=>?_) (fun b u z=>?_) fun q hq=>if_pos (List.mem_map_of_mem hq)
  .dsimp only
   rw [if_neg,if_pos rfl]
   intro z
   obtain ⟨q,hq,e⟩:=yBG.mp z
   exact tabA q hq e
  .by_cases hb:b∈tabs.map (·.2)
   .have z':=(if_pos hb).symm.trans z
    cases z'
    obtain ⟨q,hq,rfl⟩:=yBG.mp hb
    exact (hT q hq).2
   .have z':=(if_neg hb).symm.trans z
    by_cases hba:b=a
    .have z':=(if_pos hba).symm.trans z'
     cases z'
     subst hba
     exact ⟨ha,by rw [yAB];exact hl,vs,_,rv,ha⟩
    .have z':=(if_neg hba).symm.trans z'
     cases z'
  .by_cases hb:b∈tabs.map (·.2)
   .have z':=(if_pos hb).symm.trans z
    cases z'
    obtain ⟨q,hq,e⟩:=yBG.mp hb
    exact .inr ⟨rfl,q,hq,e⟩
   .have z':=(if_neg hb).symm.trans z
    by_cases hba:b=a
    .have z':=(if_pos hba).symm.trans z'
     cases z'
     exact .inl ⟨hba,hk,_,_,rfl⟩
    .have z':=(if_neg hba).symm.trans z'
     cases z'
noncomputable def ZD7 (K:W.Frag) (tabs:List (Addr×Addr)):Sp:=fun vs H Q _=>∃ (a:Addr) (ns:List Int),vs=[.ref a] /\ SqL K H a (ns.map V.int) /\ ns.length <= 63 /\ ZEX tabs H /\ ∀ H',Q (.bl true) H'
theorem tabIn_of {K:W.Frag} {x:Str} {f c Pt:Addr} {oc oc2:Value} {od od2:Option Addr} {fd:FuncData} {sl sl2:Array (Option Value)} {vs:Array Value} (a:W.nsIn K mainGlobals x=some (some (.ref f))) (l:K.lookup f=some ⟨oc,od,.func fd,sl⟩) (hc:fd.code=.ref c)
  (lc:K.lookup c=some ⟨oc2,od2,.fields vs,sl2⟩) (tp:vs[11]?=some (.ref Pt)):PySem.W.tabIn K x=some (c,Pt):=by
 unfold PySem.W.tabIn
 rw [a]
 dsimp only
 rw [l]
 dsimp only
 rw [hc]
 dsimp only
 rw [lc]
 dsimp only
 rw [tp]
theorem walk_ofT2 {l:PySem.W.OpenLaw} {k:Nat} {q:Program} {loose:List Str} {XP:(Str->Option Value)->Heap->Prop} {YP:World->Heap->Prop} {d:DefRec} {K:Params->W.Frag} {x:Str} {names:List Str}
  (hn:l.most=some 63) (hdf:d.params.defaults=[]) (hr:Room k callerA)
  (hY:∀ (w:World) (h:Heap),YP w h->(K w.params).In h) (hrec:∀ y∈names,∃ dr,(recsOf q).find? (fun e=>e.name == y)=some dr)
  (F:∀ (w:World) (mg:Str->Option Value) (fa:Addr) (h:Heap),(K w.params).In h->h.Ns mainGlobals mg->mg d.name=some (.ref fa) ->
   ∃ (tabs:List (Addr×Addr)) (fd:FuncData),PySem.W.noTabs (K w.params)=true /\ (∀ t∈tabs,∃ y∈names,PySem.W.tabIn (K w.params) y=some t) /\ (∀ (s:Shared) (u:Value),BindsTo s fd ⟨[u],[]⟩ [(x,u)]) /\
    ∀ base:Heap,(K w.params).In base->base.Ns mainGlobals mg->(∀ t∈tabs,PySem.W.CodeHd base t.1 t.2)->ZDa mg base->FnOk l.prog w (K w.params) mg base CX0 k fa fd [x] (ZD7 (K w.params) tabs)) :
  PySem.W.WalkO q loose XP YP l.row.toRowW d [] (fun f vs=>PySem.call f vs):=by
 refine Att.attach_call hn hdf fun w s₀ s₁ mg mb fa o pm cd doc a vs ns G Y ho hd hcd hmg hobj hints hlen hg=>?_
 have KX:=hY w _ Y
 obtain ⟨tabs,fd,nt,ht,hb,hF⟩:=F w mg fa _ KX G.T.g hmg
 refine law_callT (tabs:=tabs) KX G.T.g G.T.b G.T.builtins G.T.nolimit hg hobj hints (yAF hlen (by decide)) hr (fun t h2=>?_) nt G.T.bmain hF hb (fun H hO hS=>⟨a,ns,rfl,hS,hlen,hO,fun _=>rfl⟩) fun H e s' z=>z
 obtain ⟨y,hy,e2⟩:=ht t h2
 obtain ⟨dr,e1⟩:=hrec y hy
 exact PySem.W.tab_of G.T KX e1 e2
theorem hix_of {ix:List Nat} {ps fr:List Str} (h:ix.map (fun i=>ps[i]?)=fr.map some):∀ (j:Nat) (y:Str),fr[j]?=some y->∃ i,ix[j]?=some i /\ ps[i]?=some y:=fun j y e=>by
 have:=congrArg (fun l=>l[j]?) h
 simp only [yAJ,e,Option.map_some] at this
 cases q:ix[j]? with
 | none=>rw [q] at this;cases this
 | some i=>rw [q] at this;exact ⟨i,rfl,by simpa using this⟩
noncomputable def inBody (s:Stmt) (j:Nat):Stmt:=(ZAH s).getD j (.Pass ⟨0,0,0,0⟩)
noncomputable def ZDu (s:Stmt):Pos:=match s with
 | .FunctionDef _ _ _ _ _ _ _ _ _ pos=>pos
 | _=>⟨0,0,0,0⟩
theorem cx_cloK {P:Program} {w:World} {K:W.Frag} {mg:Str->Option Value} {base:Heap} {N:List Str} {qual:Str} {scope:Scope} {f:Addr} {cd:Value} {cl:List (Str×Addr)} {A:Around} {outer:List Env} {s:Shared} {H:Hp}:(ZD1 P w K mg base N qual scope f cd cl A outer s H).K=K:=rfl
section
variable {prog:Program} {w:World} {A:Around} {R:Result->Shared->Prop} {I:Addr} {fp wr:List Addr} {n:Nat} {P:Nat->Value->Prop} {St:Nat->Heap->Prop}
end
section
variable {prog:Program} {w:World} {A:Around} {E:Value->Shared->Prop} {s:Shared} {l:Addr}
end
noncomputable def maxD (d:Int):List Int->Int
 | []=>d
 | x::r=>r.foldl (fun m y=>if m < y then y else m) x
section
variable {X:Cx} {e d:Expr} {te td:TE} {p pos:Pos} {kpos:Pos}
noncomputable def tMaxD (K:W.Frag) (te td:TE):TE:=fun σ H Q=>te σ H fun x H1=>td σ H1 fun y H2=>∃ a ns dd,x=.ref a /\ y=.int dd /\ SqL K H2 a (ns.map V.int) /\ Q (.int (maxD dd ns)) H2
end
theorem lkc {k k':Str} {v:V} {r:List (Str×V)}:List.lookup k ((k',v)::r)=if k=k' then some v else List.lookup k r:=by
 rw [yBC]
 by_cases h:k=k'
 .subst h;simp
 .have:(k == k')=false:=by simpa using h
  rw [this,if_neg h]
structure Ins (H:Hp) (a C:Addr) (fl:List (Str×V)):Prop where
 ex:∃ dx fs,H a=some (.ins C dx fs) /\ fs.length <= 50 /\ ∀ f,fs.lookup f=fl.lookup f
theorem Ins.of {H:Hp} {a C dx:Addr} {fl:List (Str×V)} (h:H a=some (.ins C dx fl)) (hl:fl.length <= 50):Ins H a C fl:=⟨dx,fl,h,hl,fun _=>rfl⟩
theorem Ins.congr {H:Hp} {a C:Addr} {fl fl':List (Str×V)} (h:Ins H a C fl) (e:∀ f,fl.lookup f=fl'.lookup f):Ins H a C fl':=let ⟨dx,fs,h1,h2,h3⟩:=h.ex;⟨dx,fs,h1,h2,fun f=>(h3 f).trans (e f)⟩
theorem Ins.mono {H H':Hp} {a C:Addr} {fl:List (Str×V)} (h:Ins H a C fl) (s:Same H H'):Ins H' a C fl:=let ⟨dx,fs,h1,h2,h3⟩:=h.ex;⟨dx,fs,s _ _ h1,h2,h3⟩
section
variable {K:W.Frag} {f:Str} {a C:Addr} {fl:List (Str×V)} {v:V} {H:Hp}
theorem Ins.get {Q:VK} (h:Ins H a C fl) (cl:Cls K C) (n:NoAttr K C f) (l:fl.lookup f=some v) (q:Q v H):getF K f (.ref a) H Q:=by
 obtain ⟨dx,fs,h1,h2,h3⟩:=h.ex
 exact getF_of h1 cl n ((h3 f).trans l) q
theorem Ins.meth {m:Str} {R:Prop} (h:Ins H a C fl) (l:fl.lookup m=none) (q:R):∃ b dx fs,V.ref a=.ref b /\ H b=some (.ins C dx fs) /\ fs.lookup m=none /\ R:=by
 obtain ⟨dx,fs,h1,h2,h3⟩:=h.ex
 exact ⟨a,dx,fs,rfl,h1,(h3 m).trans l,q⟩
end
noncomputable def augA (K:W.Frag) (tv:TE) (rd:V->V->Hp->VK->Prop) (f:Str) (D:Ends) (σ:St) (x:V) (H1:Hp):Prop:=∃ a C dx fs v,x=.ref a /\ H1 a=some (.ins C dx fs) /\ Cls K C /\ NoAttr K C f /\ fs.lookup f=some v /\
 tv σ H1 fun y H2=>rd v y H2 fun z H3=>∃ dx' fs',H3 a=some (.ins C dx' fs') /\ fs'.length < 1000 /\ D.nx σ (upd H3 a (.ins C dx' (putF f z fs')))
theorem sFldAug_eq {K:W.Frag} {ta tv:TE} {rd:V->V->Hp->VK->Prop} {f:Str} {D:Ends} {σ:St} {H:Hp}:sFldAug K ta tv rd f D σ H=ta σ H (fun x H1=>augA K tv rd f D σ x H1):=rfl
theorem setX {K:W.Frag} {f:Str} {a C dx:Addr} {fs:List (Str×V)} {v:V} {H:Hp} {Q:Hp->Prop} (h:H a=some (.ins C dx fs)) (cl:Cls K C) (n:NoAttr K C f) (hl:fs.length <= 20) (q:∀ H',H' a=some (.ins C dx (putF f v fs))->(∀ b,b≠a->H' b=H b)->Q H'):setF K f (.ref a) v H Q :=
 setF_of h cl n (by omega) (q _ ZAG fun b hb=>ZAO hb)
theorem ZDG {f:Str} {v:V} {fs:List (Str×V)} {n:Nat} (h:fs.length <= n):(putF f v fs).length <= n+1:=yAF (ZCJ f v fs) (Nat.succ_le_succ h)
theorem ZDz {f0:Str} {v0:V}:(putF f0 v0 []).length <= 20:=yAF (ZDG (yAA 0)) (by decide)
theorem ZER {f0 f1:Str} {v0 v1:V}:(putF f1 v1 (putF f0 v0 [])).length <= 20:=yAF (ZDG (ZDG (yAA 0))) (by decide)
section
variable {X:Cx}
end
end L2
namespace PySem
namespace F
end F
section
variable {prog:Program} {w:World} {A:Around} {s:Shared} {R:Result->Shared->Prop}
variable {I:Addr} {fp wr:List Addr} {G:Array GenState->Array GenState->Prop} {n:Nat} {P:Nat->Value->Prop} {St:Nat->Shared->Prop}
end
section
variable {prog:Program} {w:World} {A:Around} {E:Value->Shared->Prop} {s:Shared}
variable {I:Addr} {fp wr:List Addr} {G:Array GenState->Array GenState->Prop} {n:Nat} {P:Nat->Value->Prop} {St:Nat->Shared->Prop}
end
end PySem
namespace L2
open PySem PySem.Spec PyProof.Rows
noncomputable def tRevL (K:W.Frag) (t:TA):TE:=fun σ H Q=>t σ H fun vs H1=>∃ (l:Addr) (ys:List V),vs=[.ref l] /\ SqL K H1 l ys /\ ∀ r,H1 r=none->Q (.ref r) (upd H1 r (.lst ys.reverse))
section
variable {X:Cx} {e:Expr} {ta:TA} {p p2 pos pos2:Pos}
end
noncomputable def compR2 (g:TG) (tt:TT) (te:TE) (σ0:St) (Q:VK) (x y:V) (H1:Hp):Prop:=∃ i j:Int,[x,y]=[.int i,.int j] /\ (-(2 ^ 62) <= i /\ i < 2 ^ 62 /\ -(2 ^ 62) <= j /\ j < 2 ^ 62) /\ compR i g tt te σ0 Q (j-i).toNat H1
theorem tCompR2_eq {k:Nat} {js:List Nat} {t u:TE} {g:TG} {tt:TT} {te:TE} {σ:St} {H:Hp} {Q:VK}:ZC7 k js (iRng2 (ZBw t (ZBw u tNil))) g tt te σ H Q=t σ H (fun x H1=>u σ H1 fun y H2=>compR2 g tt te (up k js σ) Q x y H2):=rfl
section
variable {X:Cx}
end
noncomputable def Itz (K:W.Frag) (a b:Addr):It :=
 ⟨fun i H=>∃ xs x ys y,SqL K H a xs /\ xs[i]?=some x /\ SqL K H b ys /\ ys[i]?=some y,fun i H v H'=>∃ p x y,H p=none /\ (∀ xs,SqL K H a xs->xs[i]?=some x) /\ (∀ ys,SqL K H b ys->ys[i]?=some y) /\ H'=upd H p (.tup [x,y]) /\ v=.ref p,fun i H=>∃ xs ys,SqL K H a xs /\ SqL K H b ys /\ (xs.length <= i∨ys.length <= i)⟩
section
variable {X:Cx}
noncomputable def iZip (K:W.Frag) (ta:TA):TI:=fun σ H R=>ta σ H fun vs H1=>∃ a b,vs=[.ref a,.ref b] /\ (∃ xs,SqL K H1 a xs) /\ (∃ xs,SqL K H1 b xs) /\ R (Itz K a b) H1
end
section
variable {K:W.Frag} {a b:Addr} {xs ys:List V} {g:TG} {tb:TS} {D:Ends} {σ:St} {H:Hp}
noncomputable def forZ (K:W.Frag) (g:TG) (tb:TS) (D:Ends) (σ:St) (x y:V) (H1:Hp):Prop:=∃ a b,[x,y]=[.ref a,.ref b] /\ (∃ xs,SqL K H1 a xs) /\ (∃ xs,SqL K H1 b xs) /\ ∃ W:Nat->Nat->St->Hp->Prop,(∃ m,W 0 m σ H1) /\ ∀ i m σ H,W i m σ H ->
 ((Itz K a b).stop i H /\ D.nx σ H)∨((Itz K a b).go i H /\ ∃ N:St->Hp->Prop,(∀ σ' H',N σ' H'->∃ m',m' < m /\ W (i+1) m' σ' H') /\ ∀ x H',(Itz K a b).yld i H x H'->g x σ H' fun σ2 H2=>tb { D with nx:=N,ct:=N,bk:=D.nx } σ2 H2)
theorem tForZ_eq {t u:TE}:tFor (iZip K (ZBw t (ZBw u tNil))) g tb D σ H=t σ H (fun x H1=>u σ H1 fun y H2=>forZ K g tb D σ x y H2):=rfl
end
section
open PySem.SeqAt
open PySem.AutoSeq1 (wpAny_loadPart')
open PySem.MeetsSeq PySem.MeetsSeq2 PySem.MeetsSeq3 HT
end
section
variable {prog:Program} {w:World} {A:Around} {E:Value->Shared->Prop} {s:Shared}
end
section
variable {X:Cx}
end
open PySem
theorem tVar_1 {v:V} {a0:Option V} {σ:St} {H:Hp} {Q:VK}:tVar 1 (a0::some v::σ) H Q=Q v H:=by
 simp only [ZAt,ZAh]
theorem tVar_2 {v:V} {a0 a1:Option V} {σ:St} {H:Hp} {Q:VK}:tVar 2 (a0::a1::some v::σ) H Q=Q v H:=by
 simp only [ZAt,ZAh]
theorem tVar_3 {v:V} {a0 a1 a2:Option V} {σ:St} {H:Hp} {Q:VK}:tVar 3 (a0::a1::a2::some v::σ) H Q=Q v H:=by
 simp only [ZAt,ZAh]
theorem tVar_4 {v:V} {a0 a1 a2 a3:Option V} {σ:St} {H:Hp} {Q:VK}:tVar 4 (a0::a1::a2::a3::some v::σ) H Q=Q v H:=by
 simp only [ZAt,ZAh]
theorem tVar_5 {v:V} {a0 a1 a2 a3 a4:Option V} {σ:St} {H:Hp} {Q:VK}:tVar 5 (a0::a1::a2::a3::a4::some v::σ) H Q=Q v H:=by
 simp only [ZAt,ZAh]
theorem tVar_6 {v:V} {a0 a1 a2 a3 a4 a5:Option V} {σ:St} {H:Hp} {Q:VK}:tVar 6 (a0::a1::a2::a3::a4::a5::some v::σ) H Q=Q v H:=by
 simp only [ZAt,ZAh]
theorem tVar_7 {v:V} {a0 a1 a2 a3 a4 a5 a6:Option V} {σ:St} {H:Hp} {Q:VK}:tVar 7 (a0::a1::a2::a3::a4::a5::a6::some v::σ) H Q=Q v H:=by
 simp only [ZAt,ZAh]
theorem tVar_8 {v:V} {a0 a1 a2 a3 a4 a5 a6 a7:Option V} {σ:St} {H:Hp} {Q:VK}:tVar 8 (a0::a1::a2::a3::a4::a5::a6::a7::some v::σ) H Q=Q v H:=by
 simp only [ZAt,ZAh]
theorem tVar_9 {v:V} {a0 a1 a2 a3 a4 a5 a6 a7 a8:Option V} {σ:St} {H:Hp} {Q:VK}:tVar 9 (a0::a1::a2::a3::a4::a5::a6::a7::a8::some v::σ) H Q=Q v H:=by
 simp only [ZAt,ZAh]
theorem tVar_10 {v:V} {a0 a1 a2 a3 a4 a5 a6 a7 a8 a9:Option V} {σ:St} {H:Hp} {Q:VK}:tVar 10 (a0::a1::a2::a3::a4::a5::a6::a7::a8::a9::some v::σ) H Q=Q v H:=by
 simp only [ZAt,ZAh]
theorem tVar_11 {v:V} {a0 a1 a2 a3 a4 a5 a6 a7 a8 a9 a10:Option V} {σ:St} {H:Hp} {Q:VK}:tVar 11 (a0::a1::a2::a3::a4::a5::a6::a7::a8::a9::a10::some v::σ) H Q=Q v H:=by
 simp only [ZAt,ZAh]
theorem tVar_12 {v:V} {a0 a1 a2 a3 a4 a5 a6 a7 a8 a9 a10 a11:Option V} {σ:St} {H:Hp} {Q:VK}:tVar 12 (a0::a1::a2::a3::a4::a5::a6::a7::a8::a9::a10::a11::some v::σ) H Q=Q v H:=by
 simp only [ZAt,ZAh]
theorem tVar_13 {v:V} {a0 a1 a2 a3 a4 a5 a6 a7 a8 a9 a10 a11 a12:Option V} {σ:St} {H:Hp} {Q:VK}:tVar 13 (a0::a1::a2::a3::a4::a5::a6::a7::a8::a9::a10::a11::a12::some v::σ) H Q=Q v H:=by
 simp only [ZAt,ZAh]
theorem tVar_14 {v:V} {a0 a1 a2 a3 a4 a5 a6 a7 a8 a9 a10 a11 a12 a13:Option V} {σ:St} {H:Hp} {Q:VK}:tVar 14 (a0::a1::a2::a3::a4::a5::a6::a7::a8::a9::a10::a11::a12::a13::some v::σ) H Q=Q v H:=by
 simp only [ZAt,ZAh]
theorem tVar_15 {v:V} {a0 a1 a2 a3 a4 a5 a6 a7 a8 a9 a10 a11 a12 a13 a14:Option V} {σ:St} {H:Hp} {Q:VK}:tVar 15 (a0::a1::a2::a3::a4::a5::a6::a7::a8::a9::a10::a11::a12::a13::a14::some v::σ) H Q=Q v H:=by
 simp only [ZAt,ZAh]
theorem tVar_16 {v:V} {a0 a1 a2 a3 a4 a5 a6 a7 a8 a9 a10 a11 a12 a13 a14 a15:Option V} {σ:St} {H:Hp} {Q:VK}:tVar 16 (a0::a1::a2::a3::a4::a5::a6::a7::a8::a9::a10::a11::a12::a13::a14::a15::some v::σ) H Q=Q v H:=by
 simp only [ZAt,ZAh]
theorem tVar_17 {v:V} {a0 a1 a2 a3 a4 a5 a6 a7 a8 a9 a10 a11 a12 a13 a14 a15 a16:Option V} {σ:St} {H:Hp} {Q:VK}:tVar 17 (a0::a1::a2::a3::a4::a5::a6::a7::a8::a9::a10::a11::a12::a13::a14::a15::a16::some v::σ) H Q=Q v H:=by
 simp only [ZAt,ZAh]
theorem tVar_18 {v:V} {a0 a1 a2 a3 a4 a5 a6 a7 a8 a9 a10 a11 a12 a13 a14 a15 a16 a17:Option V} {σ:St} {H:Hp} {Q:VK}:tVar 18 (a0::a1::a2::a3::a4::a5::a6::a7::a8::a9::a10::a11::a12::a13::a14::a15::a16::a17::some v::σ) H Q=Q v H:=by
 simp only [ZAt,ZAh]
theorem tVar_19 {v:V} {a0 a1 a2 a3 a4 a5 a6 a7 a8 a9 a10 a11 a12 a13 a14 a15 a16 a17 a18:Option V} {σ:St} {H:Hp} {Q:VK}:tVar 19 (a0::a1::a2::a3::a4::a5::a6::a7::a8::a9::a10::a11::a12::a13::a14::a15::a16::a17::a18::some v::σ) H Q=Q v H:=by
 simp only [ZAt,ZAh]
theorem tVar_20 {v:V} {a0 a1 a2 a3 a4 a5 a6 a7 a8 a9 a10 a11 a12 a13 a14 a15 a16 a17 a18 a19:Option V} {σ:St} {H:Hp} {Q:VK}:tVar 20 (a0::a1::a2::a3::a4::a5::a6::a7::a8::a9::a10::a11::a12::a13::a14::a15::a16::a17::a18::a19::some v::σ) H Q=Q v H:=by
 simp only [ZAt,ZAh]
theorem tVar_21 {v:V} {a0 a1 a2 a3 a4 a5 a6 a7 a8 a9 a10 a11 a12 a13 a14 a15 a16 a17 a18 a19 a20:Option V} {σ:St} {H:Hp} {Q:VK}:tVar 21 (a0::a1::a2::a3::a4::a5::a6::a7::a8::a9::a10::a11::a12::a13::a14::a15::a16::a17::a18::a19::a20::some v::σ) H Q=Q v H:=by
 simp only [ZAt,ZAh]
theorem tVar_22 {v:V} {a0 a1 a2 a3 a4 a5 a6 a7 a8 a9 a10 a11 a12 a13 a14 a15 a16 a17 a18 a19 a20 a21:Option V} {σ:St} {H:Hp} {Q:VK}:tVar 22 (a0::a1::a2::a3::a4::a5::a6::a7::a8::a9::a10::a11::a12::a13::a14::a15::a16::a17::a18::a19::a20::a21::some v::σ) H Q=Q v H:=by
 simp only [ZAt,ZAh]
theorem tVar_23 {v:V} {a0 a1 a2 a3 a4 a5 a6 a7 a8 a9 a10 a11 a12 a13 a14 a15 a16 a17 a18 a19 a20 a21 a22:Option V} {σ:St} {H:Hp} {Q:VK}:tVar 23 (a0::a1::a2::a3::a4::a5::a6::a7::a8::a9::a10::a11::a12::a13::a14::a15::a16::a17::a18::a19::a20::a21::a22::some v::σ) H Q=Q v H:=by
 simp only [ZAt,ZAh]
theorem tVar_24 {v:V} {a0 a1 a2 a3 a4 a5 a6 a7 a8 a9 a10 a11 a12 a13 a14 a15 a16 a17 a18 a19 a20 a21 a22 a23:Option V} {σ:St} {H:Hp} {Q:VK}:tVar 24 (a0::a1::a2::a3::a4::a5::a6::a7::a8::a9::a10::a11::a12::a13::a14::a15::a16::a17::a18::a19::a20::a21::a22::a23::some v::σ) H Q=Q v H:=by
 simp only [ZAt,ZAh]
theorem tVar_25 {v:V} {a0 a1 a2 a3 a4 a5 a6 a7 a8 a9 a10 a11 a12 a13 a14 a15 a16 a17 a18 a19 a20 a21 a22 a23 a24:Option V} {σ:St} {H:Hp} {Q:VK}:tVar 25 (a0::a1::a2::a3::a4::a5::a6::a7::a8::a9::a10::a11::a12::a13::a14::a15::a16::a17::a18::a19::a20::a21::a22::a23::a24::some v::σ) H Q=Q v H:=by
 simp only [ZAt,ZAh]
theorem tVar_26 {v:V} {a0 a1 a2 a3 a4 a5 a6 a7 a8 a9 a10 a11 a12 a13 a14 a15 a16 a17 a18 a19 a20 a21 a22 a23 a24 a25:Option V} {σ:St} {H:Hp} {Q:VK}:tVar 26 (a0::a1::a2::a3::a4::a5::a6::a7::a8::a9::a10::a11::a12::a13::a14::a15::a16::a17::a18::a19::a20::a21::a22::a23::a24::a25::some v::σ) H Q=Q v H:=by
 simp only [ZAt,ZAh]
theorem tVar_27 {v:V} {a0 a1 a2 a3 a4 a5 a6 a7 a8 a9 a10 a11 a12 a13 a14 a15 a16 a17 a18 a19 a20 a21 a22 a23 a24 a25 a26:Option V} {σ:St} {H:Hp} {Q:VK}:tVar 27 (a0::a1::a2::a3::a4::a5::a6::a7::a8::a9::a10::a11::a12::a13::a14::a15::a16::a17::a18::a19::a20::a21::a22::a23::a24::a25::a26::some v::σ) H Q=Q v H:=by
 simp only [ZAt,ZAh]
theorem tVar_28 {v:V} {a0 a1 a2 a3 a4 a5 a6 a7 a8 a9 a10 a11 a12 a13 a14 a15 a16 a17 a18 a19 a20 a21 a22 a23 a24 a25 a26 a27:Option V} {σ:St} {H:Hp} {Q:VK}:tVar 28 (a0::a1::a2::a3::a4::a5::a6::a7::a8::a9::a10::a11::a12::a13::a14::a15::a16::a17::a18::a19::a20::a21::a22::a23::a24::a25::a26::a27::some v::σ) H Q=Q v H:=by
 simp only [ZAt,ZAh]
theorem tVar_29 {v:V} {a0 a1 a2 a3 a4 a5 a6 a7 a8 a9 a10 a11 a12 a13 a14 a15 a16 a17 a18 a19 a20 a21 a22 a23 a24 a25 a26 a27 a28:Option V} {σ:St} {H:Hp} {Q:VK}:tVar 29 (a0::a1::a2::a3::a4::a5::a6::a7::a8::a9::a10::a11::a12::a13::a14::a15::a16::a17::a18::a19::a20::a21::a22::a23::a24::a25::a26::a27::a28::some v::σ) H Q=Q v H:=by
 simp only [ZAt,ZAh]
theorem tVar_30 {v:V} {a0 a1 a2 a3 a4 a5 a6 a7 a8 a9 a10 a11 a12 a13 a14 a15 a16 a17 a18 a19 a20 a21 a22 a23 a24 a25 a26 a27 a28 a29:Option V} {σ:St} {H:Hp} {Q:VK}:tVar 30 (a0::a1::a2::a3::a4::a5::a6::a7::a8::a9::a10::a11::a12::a13::a14::a15::a16::a17::a18::a19::a20::a21::a22::a23::a24::a25::a26::a27::a28::a29::some v::σ) H Q=Q v H:=by
 simp only [ZAt,ZAh]
open PySem
noncomputable def Cut (t:TS):TS:=t
theorem ZAl {X:Cx} {rest:List Stmt} {u:TS} (h:PSs X rest u):PSs X rest (Cut u):=h
theorem ZBE {u:TS} {D:Ends} {σ:St} {H:Hp} (h:u D σ H):Cut u D σ H:=h
theorem us0 {l:List Value} (h:l.length=0):l=[]:=List.length_eq_zero_iff.mp h
theorem us1 {l:List Value} (h:l.length=1):∃ a0,l=[a0]:=by
 cases l with
 | nil=>cases h
 | cons a l=>
  obtain rfl:=us0 (l:=l) (Nat.succ.inj h)
  exact ⟨a,rfl⟩
theorem us2 {l:List Value} (h:l.length=2):∃ a0 a1,l=[a0,a1]:=by
 cases l with
 | nil=>cases h
 | cons a l=>
  obtain ⟨b0,rfl⟩:=us1 (l:=l) (Nat.succ.inj h)
  exact ⟨a,b0,rfl⟩
theorem us3 {l:List Value} (h:l.length=3):∃ a0 a1 a2,l=[a0,a1,a2]:=by
 cases l with
 | nil=>cases h
 | cons a l=>
  obtain ⟨b0,b1,rfl⟩:=us2 (l:=l) (Nat.succ.inj h)
  exact ⟨a,b0,b1,rfl⟩
theorem us4 {l:List Value} (h:l.length=4):∃ a0 a1 a2 a3,l=[a0,a1,a2,a3]:=by
 cases l with
 | nil=>cases h
 | cons a l=>
  obtain ⟨b0,b1,b2,rfl⟩:=us3 (l:=l) (Nat.succ.inj h)
  exact ⟨a,b0,b1,b2,rfl⟩
theorem us5 {l:List Value} (h:l.length=5):∃ a0 a1 a2 a3 a4,l=[a0,a1,a2,a3,a4]:=by
 cases l with
 | nil=>cases h
 | cons a l=>
  obtain ⟨b0,b1,b2,b3,rfl⟩:=us4 (l:=l) (Nat.succ.inj h)
  exact ⟨a,b0,b1,b2,b3,rfl⟩
noncomputable def tMakeN (C:Addr):TE:=fun σ H Q=>∀ x dx,H x=none->H dx=none->dx≠x->Q (.ref x) (upd (upd H dx (.own x)) x (.ins C dx []))
noncomputable def ZDc (t u:TE):TE:=fun σ H Q=>t σ H Q∨u σ H Q
theorem ZAn {X:Cx} {e:Expr} {t u:TE} (h:PE X e t) (k:PE X e u):PE X e (ZDc t u):=fun pins s σ H Q I z=>z.elim (h pins s σ H Q I) (k pins s σ H Q I)
end L2
namespace PySem
open Sem (wp)
namespace Heap
end Heap
section
variable {M:Model} {A:Around} {E:Value->Shared->Prop} {s:Shared}
end
end PySem
namespace L2
open PySem PySem.Spec PyProof.Rows
section
variable {P:Program} {w:World} {l:List Env} {H H':Hp} {h h1 h2 B base:Heap}
end
section
variable {P:Program} {w:World} {K:W.Frag} {mg:Str->Option Value} {base:Heap} {N:List Str} {qual:Str} {scope:Scope} {f:Addr} {cd:Value} {A:Around} {outer:List Env} {s:Shared} {H:Hp} {E:XK}
end
open PySem PySem.Spec PySem.W PySem.Calls PyProof.Rows Builtin.Getset_descriptor Builtin.ObjectAttr
section
variable {prog:Program} {w:World} {A:Around} {E:Value->Shared->Prop} {K:W.Frag} {a C:Addr} {o:Obj} {h:Heap} {g:Array GenState} {d:Drawn} {t:Nat} {os:OsState}
end
noncomputable def excO (a:Addr) (cls:Value) (dd:Option Addr):HO:=.ext fun h=>∃ o,h.get? a=some o /\ o.cls=cls /\ o.dict=dd /\ ∃ vs,o.data=.fields vs
section
variable {X:Cx}
end
open PySem PySem.Spec PySem.W PySem.Calls PyProof.Rows
section
variable {X:Cx}
end
noncomputable def tRaise (E:XK) (C:Addr):TS:=fun _ _ H=>E (.ref C) none H
section
variable {P:Program} {w:World} {K:W.Frag} {mg:Str->Option Value} {base:Heap} {N:List Str} {qual:Str} {scope:Scope} {f:Addr} {cd:Value} {A:Around} {outer:List Env} {s:Shared} {H:Hp} {E:XK}
end
noncomputable def tCallS (sp:Sp) (dvs:List V) (E:St->XK) (t:TA):TE:=fun σ H Q=>t σ H fun vs H1=>sp (vs++dvs) H1 Q (E σ)
section
variable {X:Cx} {CX:CXT} {k:Nat} {f:Addr} {fd:FuncData} {ps:List Str} {sp:Sp} {dvs:List V} {ds:List Value} {E:St->XK} {x:Str} {p pos:Pos} {e:Expr} {es:List Expr} {t:TA}
end
section
variable {X:Cx} {pins pins':List (Addr×Obj)} {σ:St} {H:Hp} {s:Shared} {xe:Value->Shared->Prop} {e:Addr}
end
noncomputable def Ehit (K:W.Frag) (HC:Addr) (i:Nat) (ts:TS) (D:Ends):St->XK:=fun σ cls dd H'=>exmOne K cls (.ref HC)=some true /\ ∀ ea,H' ea=none ->
 ts { nx:=fun σ' H''=>D.nx (σ'.set i none) H'',rt:=D.rt,bk:=fun σ' H''=>D.bk (σ'.set i none) H'',ct:=fun σ' H''=>D.ct (σ'.set i none) H'' } (σ.set i (some (.ref ea))) (upd H' ea (excO ea cls dd))
noncomputable def tTry (K:W.Frag) (HC:Addr) (i:Nat) (tb:(St->XK)->TS) (ts:TS):TS:=fun D σ H=>tb (Ehit K HC i ts D) D σ H
section
variable {κ:Type} [DecidableEq κ]
end
section
variable {P:Program} {w:World} {H:Hp} {h:Heap} {a:Addr}
end
section
variable {X:Cx} {pins:List (Addr×Obj)} {σ:St} {H:Hp} {s:Shared} {a:Addr} {y v:V} {u r:Value} {o:Option V} {A:Around} {E:Value->Shared->Prop}
end
section
variable {X:Cx} {pins:List (Addr×Obj)} {σ:St} {H:Hp} {s:Shared} {a:Addr} {kvs:List (Key×V)} {k:Key} {u:Value} {A:Around} {E:Value->Shared->Prop}
end
section
variable {X:Cx} {o i e value:Expr} {pos pos' tpos:Pos} {td ty tv:TE}
end
section
variable {X:Cx} {pos:Pos}
end
end L2
namespace PySem
open Sem (wp)
namespace F
end F
section
variable {α:Type} {prog:Program} {w:World} {A:Around} {E:Value->Shared->Prop} {s:Shared}
end
section
variable {prog:Program} {w:World} {A:Around} {E:Value->Shared->Prop} {h:Heap} {g:Array GenState} {d:Drawn} {t:Nat} {os:OsState} {a:Addr} {its:Array Value} {n:Nat}
end
end PySem
namespace PySem
namespace F
end F
end PySem
namespace L2
open PySem PySem.Spec PyProof.Rows
section
variable {X:Cx} {pins:List (Addr×Obj)} {σ:St} {H:Hp} {s1:Shared} {A:Around}
end
end L2
namespace PySem
section
variable {prog:Program} {w:World} {A:Around} {E:Value->Shared->Prop} {s:Shared} {zo ti to:Addr} {f0 f1:Value}
end
end PySem
namespace L2
open PySem PySem.Spec PyProof.Rows
section
variable {X:Cx}
end
section
variable {K:W.Frag} {a b:Addr} {xs ys:List V} {g:TG} {σ:St} {H:Hp} {tt:TT} {te:TE} {Q:VK} {σ0:St}
end
section
variable {X:Cx}
end
section
variable {X:Cx}
end
section
variable {X:Cx}
end
noncomputable def Itr3 (lo d:Int) (n:Nat):It:=⟨fun i _=>i < n,fun i H x H'=>H'=H /\ x=.int (lo+i * d),fun i _=>n <= i⟩
section
variable {X:Cx} {tg:Expr}
noncomputable def iRng3 (ta:TA):TI:=fun σ H R=>ta σ H fun vs H1=>∃ i j d:Int,vs=[.int i,.int j,.int d] /\ (0 <= i /\ i <= 1000 /\ 0 <= j /\ j <= 1000 /\ 0 < d /\ d <= 1000) /\ R (Itr3 i d (Builtin.Range.rangeSize i j d).toNat) H1
end
noncomputable def compR3 (g:TG) (tt:TT) (te:TE) (σ0:St) (Q:VK) (x y z:V) (H1:Hp):Prop:=∃ i j d:Int,[x,y,z]=[.int i,.int j,.int d] /\ (0 <= i /\ i <= 1000 /\ 0 <= j /\ j <= 1000 /\ 0 < d /\ d <= 1000) /\
 ∃ W:Nat->Nat->List V->St->Hp->Prop,(∃ m,W 0 m [] σ0 H1) /\ ∀ k m ys σ H,W k m ys σ H ->
   ((Itr3 i d (Builtin.Range.rangeSize i j d).toNat).stop k H /\ ys.length <= sizeLine /\ ∀ p,H p=none->Q (.ref p) (upd H p (.lst ys))) ∨
   ((Itr3 i d (Builtin.Range.rangeSize i j d).toNat).go k H /\ ys.length < sizeLine /\ ∀ x H',(Itr3 i d (Builtin.Range.rangeSize i j d).toNat).yld k H x H'->g x σ H' fun σ2 H2=>tt σ2 H2 fun b H3=>if b=true then te σ2 H3 fun y H4=>∃ m',m' < m /\ W (k+1) m' (ys++[y]) σ2 H4 else ∃ m',m' < m /\ W (k+1) m' ys σ2 H3)
theorem tCompR3_eq {k:Nat} {js:List Nat} {t u v:TE} {g:TG} {tt:TT} {te:TE} {σ:St} {H:Hp} {Q:VK}:ZC7 k js (iRng3 (ZBw t (ZBw u (ZBw v tNil)))) g tt te σ H Q=t σ H (fun x H1=>u σ H1 fun y H2=>v σ H2 fun z H3=>compR3 g tt te (up k js σ) Q x y z H3):=rfl
noncomputable def tBL (K:W.Frag) (t:TE):TT:=fun σ H Q=>t σ H fun x H1=>∃ a xs,x=.ref a /\ SqL K H1 a xs /\ Q (!xs.isEmpty) H1
section
variable {X:Cx}
theorem pt_lst {e:Expr} {t:TE} (h:PE X e t) (he:∀ whole,isTrue e X.env whole=(do let v <- whole;standAt e.pos;holding [v] (truthy v)):=by intro _;rfl):PT X e (tBL X.K t):=by
 intro pins s σ H Q I hw
 refine isTrue_plain (thn (h pins s σ H _ I hw) fun v s1 zz=>?_) (he _)
 obtain ⟨x,H1,I1,r1,q1⟩:=zz
 obtain ⟨a,xs,rfl,hq,q⟩:=q1
 cases r1
 obtain ⟨its,rv,p,hz⟩:=I1.list hq
 have hl:=rv.length
 refine wpAny_truthy_list p.isList ?_ ?_
 .rw [yAK,<- hl]
  exact Int.lt_of_le_of_lt (Int.ofNat_le.mpr hz) (by decide)
 .refine ⟨H1,I1.kept (t':=s1.toks+1+1) (fun b o e=>e),?_⟩
  have:(!(its.toArray).isEmpty)=!xs.isEmpty:=by
   cases xs <;> cases its <;> first | rfl | cases hl
  rw [this];exact q
end
section
variable {X:Cx} {tg:Expr}
noncomputable def iRng3N (ta:TA):TI:=fun σ H R=>ta σ H fun vs H1=>∃ i j d:Int,vs=[.int i,.int j,.int d] /\ (0 <= i /\ i <= 1000 /\ -1000 <= j /\ j <= 1000 /\ 0 < d /\ d <= 1000) /\ R (Itr3 i d (Builtin.Range.rangeSize i j d).toNat) H1
end
noncomputable def forR3 (g:TG) (tb:TS) (D:Ends) (σ:St) (x y z:V) (H1:Hp):Prop:=∃ i j d:Int,[x,y,z]=[.int i,.int j,.int d] /\ (0 <= i /\ i <= 1000 /\ -1000 <= j /\ j <= 1000 /\ 0 < d /\ d <= 1000) /\ ∃ W:Nat->Nat->St->Hp->Prop,(∃ m,W 0 m σ H1) /\ ∀ k m σ H,W k m σ H ->
 ((Itr3 i d (Builtin.Range.rangeSize i j d).toNat).stop k H /\ D.nx σ H)∨((Itr3 i d (Builtin.Range.rangeSize i j d).toNat).go k H /\ ∃ N:St->Hp->Prop,(∀ σ' H',N σ' H'->∃ m',m' < m /\ W (k+1) m' σ' H') /\ ∀ x H',(Itr3 i d (Builtin.Range.rangeSize i j d).toNat).yld k H x H'->g x σ H' fun σ2 H2=>tb { D with nx:=N,ct:=N,bk:=D.nx } σ2 H2)
theorem tForR3_eq {t u v:TE} {g:TG} {tb:TS} {D:Ends} {σ:St} {H:Hp}:tFor (iRng3N (ZBw t (ZBw u (ZBw v tNil)))) g tb D σ H=t σ H (fun x H1=>u σ H1 fun y H2=>v σ H2 fun z H3=>forR3 g tb D σ x y z H3):=rfl
section
variable {X:Cx}
end
noncomputable def forT (K:W.Frag) (g:TG) (tb:TS) (D:Ends) (σ:St) (x:V) (H1:Hp):Prop:=∃ a,x=.ref a /\ (∃ xs,SqT K H1 a xs) /\ ∃ W:Nat->Nat->St->Hp->Prop,(∃ m,W 0 m σ H1) /\ ∀ i m σ H,W i m σ H ->
 ((Itt K a).stop i H /\ D.nx σ H)∨((Itt K a).go i H /\ ∃ N:St->Hp->Prop,(∀ σ' H',N σ' H'->∃ m',m' < m /\ W (i+1) m' σ' H') /\ ∀ x H',(Itt K a).yld i H x H'->g x σ H' fun σ2 H2=>tb { D with nx:=N,ct:=N,bk:=D.nx } σ2 H2)
theorem tForT_eq {K:W.Frag} {tl:TE} {g:TG} {tb:TS} {D:Ends} {σ:St} {H:Hp}:tFor (iTup K tl) g tb D σ H=tl σ H (fun x H1=>forT K g tb D σ x H1):=rfl
theorem forT_of {K:W.Frag} {g:TG} {tb:TS} {D:Ends} {σ:St} {H:Hp} {a:Addr} {xs:List V} (h:SqT K H a xs) (Pv:Nat->St->Hp->Prop) (h0:Pv 0 σ H) (hl:∀ i σ H,i <= xs.length->Pv i σ H->SqT K H a xs)
  (hs:∀ i x σ H,xs[i]?=some x->Pv i σ H->g x σ H fun σ2 H2=>tb { D with nx:=Pv (i+1),ct:=Pv (i+1),bk:=D.nx } σ2 H2) (hd:∀ σ H,Pv xs.length σ H->D.nx σ H):forT K g tb D σ (.ref a) H :=
 ⟨a,rfl,⟨xs,h⟩,for_tup Pv h0 hl hs hd⟩
noncomputable def compT (K:W.Frag) (g:TG) (tt:TT) (te:TE) (σ0:St) (Q:VK) (x:V) (H1:Hp):Prop:=∃ a,x=.ref a /\ (∃ xs,SqT K H1 a xs) /\ ∃ W:Nat->Nat->List V->St->Hp->Prop,(∃ m,W 0 m [] σ0 H1) /\ ∀ i m ys σ H,W i m ys σ H ->
 ((Itt K a).stop i H /\ ys.length <= sizeLine /\ ∀ p,H p=none->Q (.ref p) (upd H p (.lst ys))) ∨
 ((Itt K a).go i H /\ ys.length < sizeLine /\ ∀ x H',(Itt K a).yld i H x H'->g x σ H' fun σ2 H2=>tt σ2 H2 fun b H3=>if b=true then te σ2 H3 fun y H4=>∃ m',m' < m /\ W (i+1) m' (ys++[y]) σ2 H4 else ∃ m',m' < m /\ W (i+1) m' ys σ2 H3)
theorem tCompT_eq {k:Nat} {js:List Nat} {K:W.Frag} {tl:TE} {g:TG} {tt:TT} {te:TE} {σ:St} {H:Hp} {Q:VK}:ZC7 k js (iTup K tl) g tt te σ H Q=tl σ H (fun x H1=>compT K g tt te (up k js σ) Q x H1):=rfl
end L2
namespace Law
open PySem L2
local macro_rules | `(tactic| walk_at "o")=>`(tactic| first | exact Or.inl rfl | exact Or.inr rfl)
set_option hygiene false in
local macro_rules | `(tactic| walk_at "rd")=>`(tactic| ((try dsimp only [cx_K,tChain,tForZ_eq,tRevL,tCompR2_eq,sFldAug_eq,cx_cloK,ZD3,ZCL,tForE_eq,tCompE_eq,tMaxD,tAug_eq,ipI_int,gSub,gCons_eq,gNil_eq,tSeq,tIfS,ZEJ,tB,tOr,tAnd,tNot,tOp,tUn,tC,ZAh,tTry,tCallS,tRaise,tForT_eq,tCompT_eq,tForR3_eq,ZDc,tMakeN,tCompR3_eq,tBL,tVar_1,tVar_2,tVar_3,tVar_4,tVar_5,tVar_6,tVar_7,tVar_8,tVar_9,tVar_10,tVar_11,tVar_12,tVar_13,tVar_14,tVar_15,tVar_16,tVar_17,tVar_18,tVar_19,tVar_20,tVar_21,tVar_22,tVar_23,tVar_24,tVar_25,tVar_26,tVar_27,tVar_28,tVar_29,tVar_30,rI0_int,rI_int,rU_int,rEq_int,rNe_int,rEq_bl,rNe_bl,rEq_str,rNe_str,ex_bl,ex_int,tAsg,ZD0,tRet,tRetN,ZEN,ZEM,ZD2,ZEO,tOrV,ZEL,tIf,List.set_cons_zero,List.set_cons_succ,ZEG,ZEE,ZBw,tNil,List.cons_append,List.nil_append,List.append_nil,tCB,tFld_eq,sFld_eq,tForL_eq,tForR1_eq,tForR2_eq,tCompL_eq,tCompR1_eq,tYes,tBM,tBM0,tLst,tTup,ZEF,true_and,tSl,ZEK,tNoPart,decide_eq_true_eq,Bool.not_eq_true',decide_eq_false_iff_not,L2.start,yAX,List.map_nil,yAZ,List.length_nil,Nat.reduceAdd,Nat.reduceSub,Nat.zero_add,yAV,List.replicate_zero,List.replicate_succ,if_true,if_false,Bool.false_eq_true,Bool.true_eq_false,Bool.not_true,Bool.not_false]);(try simp only [cx_K,tChain,tForZ_eq,tRevL,tCompR2_eq,sFldAug_eq,cx_cloK,ZD3,ZCL,tForE_eq,tCompE_eq,tMaxD,tAug_eq,ipI_int,gSub,gCons_eq,gNil_eq,tSeq,tIfS,ZEJ,tB,tOr,tAnd,tNot,tOp,tUn,tC,ZAh,tTry,tCallS,tRaise,tForT_eq,tCompT_eq,tForR3_eq,ZDc,tMakeN,tCompR3_eq,tBL,tVar_1,tVar_2,tVar_3,tVar_4,tVar_5,tVar_6,tVar_7,tVar_8,tVar_9,tVar_10,tVar_11,tVar_12,tVar_13,tVar_14,tVar_15,tVar_16,tVar_17,tVar_18,tVar_19,tVar_20,tVar_21,tVar_22,tVar_23,tVar_24,tVar_25,tVar_26,tVar_27,tVar_28,tVar_29,tVar_30,rI0_int,rI_int,rU_int,rEq_int,rNe_int,rEq_bl,rNe_bl,rEq_str,rNe_str,ex_bl,ex_int,tAsg,ZD0,tRet,tRetN,ZEN,ZEM,ZD2,ZEO,tOrV,ZEL,tIf,List.set_cons_zero,List.set_cons_succ,ZEG,ZEE,ZBw,tNil,List.cons_append,List.nil_append,List.append_nil,tCB,tFld_eq,sFld_eq,tForL_eq,tForR1_eq,tForR2_eq,tCompL_eq,tCompR1_eq,tYes,tBM,tBM0,tLst,tTup,ZEF,true_and,tSl,ZEK,tNoPart,decide_eq_true_eq,Bool.not_eq_true',decide_eq_false_iff_not,L2.start,yAX,List.map_nil,yAZ,List.length_nil,Nat.reduceAdd,Nat.reduceSub,Nat.zero_add,yAV,List.replicate_zero,List.replicate_succ,if_true,if_false,Bool.false_eq_true,Bool.true_eq_false,Bool.not_true,Bool.not_false])))
local macro_rules | `(tactic| walk_at "up")=>`(tactic| first | assumption | (refine Same.get (by assumption) ?_;walk_at "up"))
local macro_rules | `(tactic| walk_at "lk")=>`(tactic| ((repeat (first | rw [lkc,if_pos rfl] | rw [lkc,if_neg (by decide +kernel)]));first | done | rfl))
noncomputable def top (i:Nat):Stmt:=PySem.Challenge.pw_sorthall_k25_whole_ranks_or_flaw.main.body.getD i (.Pass ⟨0,0,0,0⟩)
noncomputable abbrev ZBe:Stmt:=top 5
noncomputable abbrev ZBM:Stmt:=top 7
noncomputable abbrev ZA4:Stmt:=top 8
noncomputable abbrev ZBV:Stmt:=top 9
noncomputable abbrev ZBN:Stmt:=top 10
noncomputable abbrev ZBG:Stmt:=top 11
noncomputable abbrev ZBp:Stmt:=top 12
noncomputable abbrev ZCD:Stmt:=top 13
noncomputable abbrev ZBf:Stmt:=top 18
noncomputable abbrev ZBC:Stmt:=top 19
noncomputable abbrev ZBD:Stmt:=ZBS (top 21) 0
noncomputable abbrev ZAx:Stmt:=ZBS (top 21) 1
noncomputable abbrev ZA7:Stmt:=ZBS (top 22) 0
noncomputable abbrev ZAk:Stmt:=ZBS (top 22) 1
noncomputable abbrev ZA6:Stmt:=ZBS (top 23) 0
noncomputable abbrev ZAj:Stmt:=ZBS (top 23) 1
noncomputable abbrev ZAw:Stmt:=ZBS (top 24) 0
noncomputable abbrev ZAc:Stmt:=ZBS (top 24) 1
noncomputable abbrev ZA5:Stmt:=ZBS (top 25) 0
noncomputable abbrev ZAi:Stmt:=ZBS (top 25) 1
noncomputable abbrev ZAy:Stmt:=ZBS (top 26) 0
noncomputable abbrev ZAd:Stmt:=ZBS (top 26) 1
noncomputable abbrev ZAz:Stmt:=ZBS (top 27) 0
noncomputable abbrev ZAe:Stmt:=ZBS (top 27) 1
noncomputable abbrev ZBr:Stmt:=top 29
noncomputable abbrev ZCW:Stmt:=top 30
noncomputable abbrev ZCY:Stmt:=top 31
noncomputable abbrev ZBo:Stmt:=top 32
noncomputable abbrev ZCC:Stmt:=top 33
noncomputable abbrev ZBd:Stmt:=top 34
noncomputable abbrev ZBc:Stmt:=top 35
noncomputable abbrev ZCE:Stmt:=top 36
noncomputable abbrev ZCX:Stmt:=top 37
noncomputable abbrev ZBq:Stmt:=top 38
noncomputable abbrev ZC1:Stmt:=top 39
noncomputable abbrev ZBy:Stmt:=top 40
noncomputable abbrev ZDx:Stmt:=top 41
noncomputable abbrev ZC2:Stmt:=top 42
noncomputable abbrev ZCZ:Stmt:=top 43
noncomputable abbrev ZC4:Stmt:=top 44
noncomputable abbrev ZC3:Stmt:=top 45
noncomputable abbrev ZDE:Stmt:=top 46
theorem sc_straight:FnScope ["many"] ["many"] (ZAB ZBe):=⟨rfl,rfl,rfl,by decide +kernel,rfl,by decide +kernel,by decide +kernel⟩
theorem sc_told_pairs:FnScope ["row","rule"] ["row","rule"] (ZAB ZBM):=⟨rfl,rfl,rfl,by decide +kernel,rfl,by decide +kernel,by decide +kernel⟩
theorem sc_counted_ranks:FnScope ["pairs","places"] ["pairs"] (ZAB ZA4):=⟨rfl,rfl,rfl,by decide +kernel,rfl,by decide +kernel,by decide +kernel⟩
theorem sc_are_ranks:FnScope ["pairs","ranks","p","told","q","said"] ["pairs","ranks"] (ZAB ZBV):=⟨rfl,rfl,rfl,by decide +kernel,rfl,by decide +kernel,by decide +kernel⟩
theorem sc_odd_thirds:FnScope ["pairs","p","q"] ["pairs","p","q"] (ZAB ZBN):=⟨rfl,rfl,rfl,by decide +kernel,rfl,by decide +kernel,by decide +kernel⟩
theorem sc_flaw_of_two:FnScope ["pairs","p","q","thirds"] ["pairs","p","q"] (ZAB ZBG):=⟨rfl,rfl,rfl,by decide +kernel,rfl,by decide +kernel,by decide +kernel⟩
theorem sc_flaw_of:FnScope ["pairs","p","told","q","said","found"] ["pairs"] (ZAB ZBp):=⟨rfl,rfl,rfl,by decide +kernel,rfl,by decide +kernel,by decide +kernel⟩
theorem sc_ranked:FnScope ["row","rule","pairs","ranks"] ["row","rule"] (ZAB ZCD):=⟨rfl,rfl,rfl,by decide +kernel,rfl,by decide +kernel,by decide +kernel⟩
theorem sc_check_at:FnScope ["at"] ["at"] (ZAB ZBf):=⟨rfl,rfl,rfl,by decide +kernel,rfl,by decide +kernel,by decide +kernel⟩
theorem sc_check_column:FnScope ["at","way"] ["at","way"] (ZAB ZBC):=⟨rfl,rfl,rfl,by decide +kernel,rfl,by decide +kernel,by decide +kernel⟩
theorem sc_KeyRule_init:FnScope ["self","columns","at","way"] ["self","columns"] (ZAB ZBD):=⟨rfl,rfl,rfl,by decide +kernel,rfl,by decide +kernel,by decide +kernel⟩
theorem sc_KeyRule_before:FnScope ["self","x","y","at","way"] ["self","x","y"] (ZAB ZAx):=⟨rfl,rfl,rfl,by decide +kernel,rfl,by decide +kernel,by decide +kernel⟩
theorem sc_NearRule_init:FnScope ["self","at","gap"] ["self","at","gap"] (ZAB ZA7):=⟨rfl,rfl,rfl,by decide +kernel,rfl,by decide +kernel,by decide +kernel⟩
theorem sc_NearRule_before:FnScope ["self","x","y"] ["self","x","y"] (ZAB ZAk):=⟨rfl,rfl,rfl,by decide +kernel,rfl,by decide +kernel,by decide +kernel⟩
theorem sc_RingRule_init:FnScope ["self","at","size"] ["self","at","size"] (ZAB ZA6):=⟨rfl,rfl,rfl,by decide +kernel,rfl,by decide +kernel,by decide +kernel⟩
theorem sc_RingRule_before:FnScope ["self","x","y","up_to"] ["self","x","y"] (ZAB ZAj):=⟨rfl,rfl,rfl,by decide +kernel,rfl,by decide +kernel,by decide +kernel⟩
theorem sc_TableRule_init:FnScope ["self","at","table","truths"] ["self","at","table"] (ZAB ZAw):=⟨rfl,rfl,rfl,by decide +kernel,rfl,by decide +kernel,by decide +kernel⟩
theorem sc_TableRule_before:FnScope ["self","x","y"] ["self","x","y"] (ZAB ZAc):=⟨rfl,rfl,rfl,by decide +kernel,rfl,by decide +kernel,by decide +kernel⟩
theorem sc_VoteRule_init:FnScope ["self","rules"] ["self","rules"] (ZAB ZA5):=⟨rfl,rfl,rfl,by decide +kernel,rfl,by decide +kernel,by decide +kernel⟩
theorem sc_VoteRule_before:FnScope ["self","x","y","for_x","for_y"] ["self","x","y"] (ZAB ZAi):=⟨rfl,rfl,rfl,by decide +kernel,rfl,by decide +kernel,by decide +kernel⟩
theorem sc_ChainRule_init:FnScope ["self","rules"] ["self","rules"] (ZAB ZAy):=⟨rfl,rfl,rfl,by decide +kernel,rfl,by decide +kernel,by decide +kernel⟩
theorem sc_ChainRule_before:FnScope ["self","x","y","rule"] ["self","x","y"] (ZAB ZAd):=⟨rfl,rfl,rfl,by decide +kernel,rfl,by decide +kernel,by decide +kernel⟩
theorem sc_AskedRule_init:FnScope ["self","teller"] ["self","teller"] (ZAB ZAz):=⟨rfl,rfl,rfl,by decide +kernel,rfl,by decide +kernel,by decide +kernel⟩
theorem sc_AskedRule_before:FnScope ["self","x","y","teller"] ["self","x","y"] (ZAB ZAe):=⟨rfl,rfl,rfl,by decide +kernel,rfl,by decide +kernel,by decide +kernel⟩
theorem sc_cell_at:FnScope ["_law_script","_law_k"] ["_law_script","_law_k"] (ZAB ZBr):=⟨rfl,rfl,rfl,by decide +kernel,rfl,by decide +kernel,by decide +kernel⟩
theorem sc_whole:FnScope ["_law_found"] ["_law_found"] (ZAB ZCW):=⟨rfl,rfl,rfl,by decide +kernel,rfl,by decide +kernel,by decide +kernel⟩
theorem sc_table:FnScope ["_law_many","_law_cell","_law_turns","_law_ranks_here","_law_number","_law_k","_law_table_here","_law_p","_law_q"] ["_law_many","_law_cell","_law_turns"] (ZAB ZCY):=⟨rfl,rfl,rfl,by decide +kernel,rfl,by decide +kernel,by decide +kernel⟩
theorem sc_reserve:FnScope ["_law_cell","_law_k","_law_number"] ["_law_cell","_law_k"] (ZAB ZBo):=⟨rfl,rfl,rfl,by decide +kernel,rfl,by decide +kernel,by decide +kernel⟩
theorem sc_signed:FnScope ["_law_digit"] ["_law_digit"] (ZAB ZCC):=⟨rfl,rfl,rfl,by decide +kernel,rfl,by decide +kernel,by decide +kernel⟩
theorem sc_table_of:FnScope ["_law_many","_law_cell","_law_table_here","_law_first","_law_p"] ["_law_many","_law_cell"] (ZAB ZBd):=⟨rfl,rfl,rfl,by decide +kernel,rfl,by decide +kernel,by decide +kernel⟩
theorem sc_thing_of:FnScope ["_law_cell","_law_width","_law_numbers","_law_first","_law_k"] ["_law_cell","_law_width"] (ZAB ZBc):=⟨rfl,rfl,rfl,by decide +kernel,rfl,by decide +kernel,by decide +kernel⟩
theorem sc_column:FnScope ["_law_one","_law_other","_law_at","_law_way"] ["_law_one","_law_other","_law_at","_law_way"] (ZAB ZCE):=⟨rfl,rfl,rfl,by decide +kernel,rfl,by decide +kernel,by decide +kernel⟩
theorem sc_votes:FnScope ["_law_one","_law_other","_law_columns","_law_votes_here","_law_at","_law_way"] ["_law_one","_law_other","_law_columns"] (ZAB ZCX):=⟨rfl,rfl,rfl,by decide +kernel,rfl,by decide +kernel,by decide +kernel⟩
theorem sc_chained:FnScope ["_law_one","_law_other","_law_gap","_law_way"] ["_law_one","_law_other","_law_gap","_law_way"] (ZAB ZBq):=⟨rfl,rfl,rfl,by decide +kernel,rfl,by decide +kernel,by decide +kernel⟩
theorem sc_rung:FnScope ["_law_one","_law_other","_law_size","_law_far"] ["_law_one","_law_other","_law_size"] (ZAB ZC1):=⟨rfl,rfl,rfl,by decide +kernel,rfl,by decide +kernel,by decide +kernel⟩
theorem sc_teller:FnScope ["_law_table_here","_law_teller_here"] ["_law_table_here"] (ZAB ZBy):=⟨rfl,rfl,rfl,by decide +kernel,rfl,by decide +kernel,by decide +kernel⟩
theorem sc_due:FnScope ["_law_kind","_law_row","_law_table_here","_law_number","_law_columns","_law_goes","_law_one"] ["_law_kind","_law_row","_law_table_here","_law_number","_law_columns"] (ZAB ZDx):=⟨rfl,rfl,rfl,by decide +kernel,rfl,by decide +kernel,by decide +kernel⟩
theorem sc_rule:FnScope ["_law_kind","_law_table_here","_law_number","_law_columns"] ["_law_kind","_law_table_here","_law_number","_law_columns"] (ZAB ZC2):=⟨rfl,rfl,rfl,by decide +kernel,rfl,by decide +kernel,by decide +kernel⟩
theorem sc_ranks:FnScope ["_law_goes","_law_ranks_here","_law_p","_law_ahead","_law_q"] ["_law_goes","_law_ranks_here"] (ZAB ZCZ):=⟨rfl,rfl,rfl,by decide +kernel,rfl,by decide +kernel,by decide +kernel⟩
theorem sc_flaw:FnScope ["_law_goes","_law_word","_law_places","_law_place","_law_p","_law_q","_law_r"] ["_law_goes","_law_word","_law_places"] (ZAB ZC4):=⟨rfl,rfl,rfl,by decide +kernel,rfl,by decide +kernel,by decide +kernel⟩
theorem sc_good:FnScope ["_law_goes","_law_found"] ["_law_goes","_law_found"] (ZAB ZC3):=⟨rfl,rfl,rfl,by decide +kernel,rfl,by decide +kernel,by decide +kernel⟩
theorem sc_law:FnScope ["_law_script","_law_cells","_law_kind","_law_size","_law_number","_law_width","_law_ways","_law_columns","_law_low","_law_row","_law_table_here","_law_goes","_law_rule_here","_law_handed"] ["_law_script"] (ZAB ZDE):=⟨rfl,rfl,rfl,by decide +kernel,rfl,by decide +kernel,by decide +kernel⟩
noncomputable abbrev ZAN:Stmt:=inBody ZBy 0
theorem csc_teller:CloScope ["_law_one","_law_other","_law_table_here"] ["_law_one","_law_other"] ["_law_table_here"] (ZAB ZAN):=⟨rfl,rfl,rfl,by decide +kernel,rfl,rfl,by decide,by decide +kernel,by decide +kernel,by decide +kernel,fun x h=>(show ∀ y∈(ZAB ZAN).names,y.2=.free->y.1∈(["_law_table_here"]:List Str) by decide +kernel) _ (PySem.mem_of_lookup h) rfl⟩
structure Bt (K:W.Frag) (mg:Str->Option Value) (C_KeyRule C_NearRule C_RingRule C_TableRule C_VoteRule C_ChainRule C_AskedRule:Addr):Prop where
 b_len:mg "len"=none
 b_range:mg "range"=none
 b_tuple:mg "tuple"=none
 b_list:mg "list"=none
 b_isinstance:mg "isinstance"=none
 b_bool:mg "bool"=none
 b_int:mg "int"=none
 b_max:mg "max"=none
 b_min:mg "min"=none
 b_enumerate:mg "enumerate"=none
 b_ValueError:mg "ValueError"=none
 c_GREATEST_AT:∃ t,mg "GREATEST_AT"=some (.int 7 t)
 c_UP:∃ t,mg "UP"=some (.str "up" t)
 c_DOWN:∃ t,mg "DOWN"=some (.str "down" t)
 m_KeyRule:mg "KeyRule"=some (.ref C_KeyRule)
 cl_KeyRule:Cls K C_KeyRule
 n_KeyRule_columns:NoAttr K C_KeyRule "columns"
 m_NearRule:mg "NearRule"=some (.ref C_NearRule)
 cl_NearRule:Cls K C_NearRule
 n_NearRule_at:NoAttr K C_NearRule "at"
 n_NearRule_gap:NoAttr K C_NearRule "gap"
 m_RingRule:mg "RingRule"=some (.ref C_RingRule)
 cl_RingRule:Cls K C_RingRule
 n_RingRule_at:NoAttr K C_RingRule "at"
 n_RingRule_size:NoAttr K C_RingRule "size"
 m_TableRule:mg "TableRule"=some (.ref C_TableRule)
 cl_TableRule:Cls K C_TableRule
 n_TableRule_at:NoAttr K C_TableRule "at"
 n_TableRule_table:NoAttr K C_TableRule "table"
 m_VoteRule:mg "VoteRule"=some (.ref C_VoteRule)
 cl_VoteRule:Cls K C_VoteRule
 n_VoteRule_rules:NoAttr K C_VoteRule "rules"
 m_ChainRule:mg "ChainRule"=some (.ref C_ChainRule)
 cl_ChainRule:Cls K C_ChainRule
 n_ChainRule_rules:NoAttr K C_ChainRule "rules"
 m_AskedRule:mg "AskedRule"=some (.ref C_AskedRule)
 cl_AskedRule:Cls K C_AskedRule
 n_AskedRule_teller:NoAttr K C_AskedRule "teller"
 kit_int_bool:PySem.W.kitOne K (.type "int") (.type "bool")=some false
noncomputable def cellOf (ns:List Int) (k:Int):Int:=if k < (ns.length:Int) then (ns[k.toNat]?).getD 0 else 0
noncomputable def ZD9 (K:W.Frag):Sp:=fun vs H Q _=>∃ (a:Addr) (ns:List Int) (k:Int),vs=[.ref a,.int k] /\ SqL K H a (ns.map V.int) /\ 0 <= k /\ Q (.int (cellOf ns k)) H
noncomputable def at0 (xs:List Int) (a:Int):Int:=(xs[a.toNat]?).getD 0
noncomputable def keyB:List (Int×Bool)->List Int->List Int->Bool
 | [],_,_=>false
 | (a,u)::r,x,y=>if at0 x a=at0 y a then keyB r x y else if u=true then decide (at0 x a < at0 y a) else decide (at0 y a < at0 x a)
noncomputable def wayS (u:Bool):Str:=if u=true then "up" else "down"
noncomputable def colD (c:Int×Bool):PyData:=.tuple [.int c.1,.str (wayS c.2)]
theorem wayS_up {u:Bool}:wayS u=("up":Str)↔u=true:=by
 cases u
 .exact ⟨fun h=>absurd h (by decide +kernel),fun h=>by cases h⟩
 .exact ⟨fun _=>rfl,fun _=>rfl⟩
theorem wayS_ok (u:Bool):wayS u=("up":Str)∨wayS u=("down":Str):=by
 cases u
 .exact .inr rfl
 .exact .inl rfl
theorem ZBL {xs:List Int} {a:Int} (h0:0 <= a) (h:a < (xs.length:Int)):xs[a.toNat]?=some (at0 xs a):=by
 unfold at0
 rw [yAH (by omega)]
 rfl
theorem dp_col {K:W.Frag} {H:Hp} {c:Int×Bool} {v:V} (h:Dp K H (colD c) v):∃ t,v=.ref t /\ SqT K H t [.int c.1,.str (wayS c.2)]:=by
 unfold colD at h
 obtain ⟨t,xs,rfl,hs,hd⟩:=h.asT
 unfold DpAll at hd
 obtain ⟨v1,r1,rfl,d1,hd⟩:=hd
 unfold DpAll at hd
 obtain ⟨v2,r2,rfl,d2,hd⟩:=hd
 unfold DpAll at hd
 subst hd
 rw [d1.asI,d2.asS] at hs
 exact ⟨t,rfl,hs⟩
theorem ZC6 {K:W.Frag} {H:Hp} {cols:List (Int×Bool)} {xs:List V} {i:Nat} {v:V} (h:DpAll K H (cols.map colD) xs) (e:xs[i]?=some v):∃ c t,cols[i]?=some c /\ v=.ref t /\ SqT K H t [.int c.1,.str (wayS c.2)]:=by
 obtain ⟨d,hd,dd⟩:=h.of_get e
 rw [yAJ] at hd
 cases ec:cols[i]? with
 | none=>rw [ec] at hd;cases hd
 | some c=>
  rw [ec] at hd
  have hd':colD c=d:=Option.some.inj hd
  subst hd'
  obtain ⟨t,rfl,ht⟩:=dp_col dd
  exact ⟨c,t,rfl,rfl,ht⟩
theorem keyB_drop {cols:List (Int×Bool)} {i:Nat} {c:Int×Bool} (e:cols[i]?=some c) (x y:List Int):keyB (cols.drop i) x y=if at0 x c.1=at0 y c.1 then keyB (cols.drop (i+1)) x y else if c.2=true then decide (at0 x c.1 < at0 y c.1) else decide (at0 y c.1 < at0 x c.1):=by
 obtain ⟨hi,he⟩:=yAE.mp e
 rw [List.drop_eq_getElem_cons hi,he]
 rfl
noncomputable def ZCV:Sp:=fun vs H Q _=>∃ i:Int,vs=[.int i] /\ 0 <= i /\ i <= 7 /\ Q .non H
noncomputable def ZCU:Sp:=fun vs H Q _=>∃ (i:Int) (u:Bool),vs=[.int i,.str (wayS u)] /\ 0 <= i /\ i <= 7 /\ Q .non H
noncomputable def ZCN (K:W.Frag) (C:Addr):Sp:=fun vs H Q _=>∃ (p dx c:Addr) (xs:List V) (cols:List (Int×Bool)),vs=[.ref p,.ref c] /\ H p=some (.ins C dx []) /\ SqL K H c xs /\ DpAll K H (cols.map colD) xs /\ (∀ c∈cols,0 <= c.1 /\ c.1 <= 7) /\
 ∀ l,H l=none->Q .non (upd (upd H l (.lst xs)) p (.ins C dx (putF "columns" (.ref l) [])))
noncomputable def ZBU (K:W.Frag) (C:Addr):Sp:=fun vs H Q _=>∃ (p dx c x y:Addr) (xs:List V) (cols:List (Int×Bool)) (xi yi:List Int),vs=[.ref p,.ref x,.ref y] /\ H p=some (.ins C dx (putF "columns" (.ref c) [])) /\ SqL K H c xs /\ DpAll K H (cols.map colD) xs /\
 SqT K H x (xi.map V.int) /\ SqT K H y (yi.map V.int) /\ (∀ c∈cols,0 <= c.1 /\ c.1 < (xi.length:Int) /\ c.1 < (yi.length:Int)) /\ Q (.bl (keyB cols xi yi)) H
theorem putF1 {f:Str} {v:V}:(putF f v []).lookup f=some v:=by rw [ZA3,if_pos rfl]
theorem putF1n {f g:Str} {v:V} (h:¬ g=f):(putF f v []).lookup g=none:=by
 rw [ZA3,if_neg h]
 rfl
noncomputable def rkN (n:Nat) (m:Nat->Nat->Bool) (q:Nat):Nat:=(List.range n).countP fun p=>m p q
noncomputable def ArR (n:Nat) (m:Nat->Nat->Bool):Prop:=∀ p,p < n->∀ q,q < n->m p q=decide (rkN n m p < rkN n m q)
noncomputable def Fl2 (n:Nat) (m:Nat->Nat->Bool) (p q:Nat):Prop:=m p q=true /\ (p=q∨m q p=true∨∃ r,r < n /\ m p r=false /\ m r q=false)
theorem countP_lt {l:List Nat} {a b:Nat->Bool} (h:∀ x∈l,a x=true->b x=true) {y:Nat} (hy:y∈l) (hb:b y=true) (ha:a y=false):l.countP a < l.countP b:=by
 induction l with
 | nil=>cases hy
 | cons x r ih=>
  rw [List.countP_cons,List.countP_cons]
  have hr:r.countP a <= r.countP b:=List.countP_mono_left fun z hz=>h z (yAT _ hz)
  rcases yAR.mp hy with e | e
  .subst e
   rw [if_pos hb,if_neg (by rw [ha];decide)]
   omega
  .have:=ih (fun z hz=>h z (yAT _ hz)) e
   have h0:=h x yAP
   by_cases hx:a x=true
   .rw [if_pos hx,if_pos (h0 hx)];omega
   .rw [if_neg hx];omega
theorem ranks_of {n:Nat} {m:Nat->Nat->Bool} (h:∀ p,p < n->∀ q,q < n->¬ Fl2 n m p q):ArR n m:=by
 have irr:∀ p,p < n->m p p=false:=fun p hp=>Bool.eq_false_iff.mpr fun z=>h p hp p hp ⟨z,.inl rfl⟩
 have asy:∀ p,p < n->∀ q,q < n->m p q=true->m q p=false:=fun p hp q hq z=>Bool.eq_false_iff.mpr fun z'=>h p hp q hq ⟨z,.inr (.inl z')⟩
 have neg:∀ p,p < n->∀ q,q < n->m p q=true->∀ r,r < n->m p r=false->m r q=true:=fun p hp q hq z r hr z1=>(Bool.not_eq_false _).mp fun z2=>h p hp q hq ⟨z,.inr (.inr ⟨r,hr,z1,z2⟩)⟩
 intro p hp q hq
 cases e:m p q
 .refine (decide_eq_false fun hlt=>?_).symm
  have:rkN n m q <= rkN n m p:=List.countP_mono_left fun x hx hm=>by
   have hx':=yBB.mp hx
   exact (Bool.not_eq_false _).mp fun z=>by
    have:=neg x hx' q hq hm p hp z
    rw [e] at this;cases this
  omega
 .refine (decide_eq_true ?_).symm
  refine countP_lt (y:=p) (fun x hx hm=>?_) (yBB.mpr hp) e (irr p hp)
  have hx':=yBB.mp hx
  exact neg p hp q hq e x hx' (asy x hx' p hp hm)
noncomputable def MAt (H:Hp) (l:Addr) (n:Nat) (m:Nat->Nat->Bool):Prop:=∃ rs:List V,H l=some (.lst rs) /\ rs.length=n /\ ∀ p,p < n->∃ r,rs[p]?=some (V.ref r) /\ H r=some (.lst ((List.range n).map fun q=>V.bl (m p q)))
theorem MAt.mono {H H':Hp} {l:Addr} {n:Nat} {m:Nat->Nat->Bool} (s:Same H H') (h:MAt H l n m):MAt H' l n m:=by
 obtain ⟨rs,a,b,c⟩:=h
 exact ⟨rs,s _ _ a,b,fun p hp=>by obtain ⟨r,x,y⟩:=c p hp;exact ⟨r,x,s _ _ y⟩⟩
theorem ZCq {n p:Nat} {g:Nat->V} (h:p < n):atI ((List.range n).map g) (p:Int)=some (g p):=ZAb (by omega) (by rw [Int.toNat_natCast,yAJ,yBD h];rfl)
noncomputable def ZCA:Sp:=fun vs H Q _=>∃ (n:Nat),vs=[.int n] /\ n <= 500 /\ ∀ l H',Same H H'->H l=none->H' l=some (.lst ((List.range n).map fun p=>V.int (p:Nat)))->Q (.ref l) H'
noncomputable def ZDh:Sp:=fun vs H Q _=>∃ (l:Addr) (n:Nat) (m:Nat->Nat->Bool),vs=[.ref l] /\ MAt H l n m /\ n <= 100 /\ ∀ l2 H',Same H H'->H l2=none->H' l2=some (.lst ((List.range n).map fun q=>V.int (rkN n m q:Nat)))->Q (.ref l2) H'
noncomputable def ZDi:Sp:=fun vs H Q _=>∃ (l l2:Addr) (n:Nat) (m:Nat->Nat->Bool),vs=[.ref l,.ref l2] /\ MAt H l n m /\ n <= 100 /\ H l2=some (.lst ((List.range n).map fun q=>V.int (rkN n m q:Nat))) /\ ∀ H',Same H H'->(ArR n m->Q (.bl true) H') /\ (¬ ArR n m->Q (.bl false) H')
noncomputable def ZDe:Sp:=fun vs H Q _=>∃ (l:Addr) (p q n:Nat) (m:Nat->Nat->Bool),vs=[.ref l,.int p,.int q] /\ MAt H l n m /\ n <= 100 /\ p < n /\ q < n /\ ∀ l2 H',Same H H'->H l2=none->H' l2=some (.lst (((List.range n).filter fun r=>!m p r && !m r q).map fun r=>V.int (r:Nat)))->Q (.ref l2) H'
noncomputable def Flw (n:Nat) (m:Nat->Nat->Bool) (w:Str) (a b c:Nat):Prop:=a < n /\ b < n /\ c < n /\ m a b=true /\ ((w=Str.ofString "self" /\ a=b /\ b=c)∨(w=Str.ofString "both" /\ a≠b /\ a=c /\ m b a=true)∨(w=Str.ofString "tie" /\ a≠b /\ b≠c /\ a≠c /\ m a c=false /\ m c b=false))
noncomputable def FlAt (H:Hp) (t:Addr) (n:Nat) (m:Nat->Nat->Bool):Prop:=∃ (t3:Addr) (w:Str) (a b c:Nat),H t=some (.tup [.str (Str.ofString "flaw"),.str w,.ref t3]) /\ H t3=some (.tup [.int a,.int b,.int c]) /\ Flw n m w a b c
noncomputable def ZEP:Sp:=fun vs H Q _=>∃ (l:Addr) (p q n:Nat) (m:Nat->Nat->Bool),vs=[.ref l,.int p,.int q] /\ MAt H l n m /\ n <= 100 /\ p < n /\ q < n /\ m p q=true /\ (∀ t H',Same H H'->FlAt H' t n m->Q (.ref t) H') /\ (¬ Fl2 n m p q->∀ H',Same H H'->Q .non H')
noncomputable def ZD8:Sp:=fun vs H Q _=>∃ (l:Addr) (n:Nat) (m:Nat->Nat->Bool),vs=[.ref l] /\ MAt H l n m /\ n <= 100 /\ ¬ ArR n m /\ ∀ t H',Same H H'->FlAt H' t n m->Q (.ref t) H'
structure Pl where
 kd:Nat
 key:Nat
 num:Int
structure Pl.Ok (p:Pl):Prop where
 kd:p.kd < 4
 key:p.key < 8
 n0:0 <= p.num
 n1:p.kd=3->1 <= p.num
noncomputable def ZDy (s d:Int):Bool:=decide (0 < d % s) && decide (2 * (d % s) < s)
noncomputable def ZBO (p:Pl) (x y:List Int):Bool :=
 if p.kd=0 then decide (at0 x p.key < at0 y p.key) else if p.kd=1 then decide (at0 y p.key < at0 x p.key) else if p.kd=2 then decide (p.num < at0 y p.key-at0 x p.key) else ZDy p.num (at0 y p.key-at0 x p.key)
theorem goes_key {p:Pl} (h:p.kd < 2) (x y:List Int):keyB [((p.key:Int),decide (p.kd=0))] x y=ZBO p x y:=by
 unfold ZBO keyB keyB
 by_cases z:p.kd=0
 .rw [if_pos z,decide_eq_true z,if_pos rfl]
  by_cases e:at0 x p.key=at0 y p.key
  .rw [if_pos e,decide_eq_false (by omega)]
  .rw [if_neg e]
 .rw [if_neg z,decide_eq_false z,if_pos (show p.kd=1 by omega)]
  by_cases e:at0 x p.key=at0 y p.key
  .rw [if_pos e,decide_eq_false (by omega)]
  .rw [if_neg e,if_neg (show ¬ (false=true) by decide)]
noncomputable abbrev fN (a gp:Int):List (Str×V):=[("gap",.int gp),("at",.int a)]
noncomputable abbrev fRg (a sz:Int):List (Str×V):=[("size",.int sz),("at",.int a)]
noncomputable abbrev fV (l:Addr):List (Str×V):=[("rules",.ref l)]
noncomputable def ZCB (C:Addr):Sp:=fun vs H Q _=>∃ (x dx:Addr) (a gp:Int),vs=[.ref x,.int a,.int gp] /\ H x=some (.ins C dx []) /\ 0 <= a /\ a <= 7 /\ 0 <= gp /\ ∀ H',(∀ b o,b≠x->H b=some o->H' b=some o)->Ins H' x C (fN a gp)->Q .non H'
noncomputable def ZCT (C:Addr):Sp:=fun vs H Q _=>∃ (x dx:Addr) (a sz:Int),vs=[.ref x,.int a,.int sz] /\ H x=some (.ins C dx []) /\ 0 <= a /\ a <= 7 /\ 1 <= sz /\ ∀ H',(∀ b o,b≠x->H b=some o->H' b=some o)->Ins H' x C (fRg a sz)->Q .non H'
noncomputable def ZBA (K:W.Frag) (C:Addr):Sp:=fun vs H Q _=>∃ (p x y:Addr) (a gp:Int) (xi yi:List Int),vs=[.ref p,.ref x,.ref y] /\ Ins H p C (fN a gp) /\ SqT K H x (xi.map V.int) /\ SqT K H y (yi.map V.int) /\ 0 <= a /\ a < (xi.length:Int) /\ a < (yi.length:Int) /\ Q (.bl (decide (gp < at0 yi a-at0 xi a))) H
noncomputable def ZA9 (K:W.Frag) (C:Addr):Sp:=fun vs H Q _=>∃ (p x y:Addr) (a sz:Int) (xi yi:List Int),vs=[.ref p,.ref x,.ref y] /\ Ins H p C (fRg a sz) /\ SqT K H x (xi.map V.int) /\ SqT K H y (yi.map V.int) /\ 0 <= a /\ a < (xi.length:Int) /\ a < (yi.length:Int) /\ 1 <= sz /\ Q (.bl (ZDy sz (at0 yi a-at0 xi a))) H
noncomputable def SgAt (K:W.Frag) (CK CN CR:Addr) (H:Hp) (r:Addr) (p:Pl):Prop :=
 (p.kd < 2 /\ ∃ dx c xs,H r=some (.ins CK dx (putF "columns" (.ref c) [])) /\ SqL K H c xs /\ DpAll K H ([((p.key:Int),decide (p.kd=0))].map colD) xs)∨(p.kd=2 /\ Ins H r CN (fN p.key p.num))∨(p.kd=3 /\ Ins H r CR (fRg p.key p.num))
theorem SgAt.mono {K:W.Frag} {CK CN CR:Addr} {H H':Hp} {r:Addr} {p:Pl} (e:Same H H') (h:SgAt K CK CN CR H r p):SgAt K CK CN CR H' r p:=by
 rcases h with ⟨h0,dx,c,xs,h1,h2,h3⟩ | ⟨h0,h1⟩ | ⟨h0,h1⟩
 .exact .inl ⟨h0,dx,c,xs,e _ _ h1,e.seq h2,h3.mono e⟩
 .exact .inr (.inl ⟨h0,h1.mono e⟩)
 .exact .inr (.inr ⟨h0,h1.mono e⟩)
noncomputable abbrev MtO (C r:Addr) (m:Str) (H:Hp) (R:Prop):Prop:=∃ b dx fs,V.ref r=.ref b /\ H b=some (.ins C dx fs) /\ fs.lookup m=none /\ R
theorem ZCp {K:W.Frag} {CK CN CR:Addr} {H:Hp} {r x y:Addr} {p:Pl} {xi yi:List Int} {Q:VK} {E:XK} (h:SgAt K CK CN CR H r p) (ok:p.Ok) (hx:SqT K H x (xi.map V.int)) (hy:SqT K H y (yi.map V.int)) (lx:p.key < xi.length) (ly:p.key < yi.length) (q:Q (.bl (ZBO p xi yi)) H) :
  MtO CK r (Str.ofString "before") H (ZBU K CK [.ref r,.ref x,.ref y] H Q E)∨MtO CN r (Str.ofString "before") H (ZBA K CN [.ref r,.ref x,.ref y] H Q E)∨MtO CR r (Str.ofString "before") H (ZA9 K CR [.ref r,.ref x,.ref y] H Q E):=by
 have hk:=ok.key
 rcases h with ⟨h0,dx,c,xs,h1,h2,h3⟩ | ⟨h0,h1⟩ | ⟨h0,h1⟩
 .refine .inl ⟨r,dx,_,rfl,h1,putF1n (by decide +kernel),r,dx,c,x,y,xs,_,xi,yi,rfl,h1,h2,h3,hx,hy,fun c' hc=>?_,by rw [goes_key h0];exact q⟩
  rw [yAO.mp hc]
  exact ⟨by omega,by omega,by omega⟩
 .refine .inr (.inl (h1.meth (by walk_at "lk") ⟨r,x,y,_,_,xi,yi,rfl,h1,hx,hy,by omega,by omega,by omega,?_⟩))
  unfold ZBO at q
  rw [if_neg (by omega),if_neg (by omega),if_pos h0] at q
  exact q
 .refine .inr (.inr (h1.meth (by walk_at "lk") ⟨r,x,y,_,_,xi,yi,rfl,h1,hx,hy,by omega,by omega,by omega,ok.n1 h0,?_⟩))
  unfold ZBO at q
  rw [if_neg (by omega),if_neg (by omega),if_neg (by omega)] at q
  exact q
structure Sgs (K:W.Frag) (CK CN CR:Addr) (H:Hp) (xs:List V) (ps:List Pl):Prop where
 len:xs.length=ps.length
 get:∀ (i:Nat) p,ps[i]?=some p->∃ r,xs[i]?=some (V.ref r) /\ SgAt K CK CN CR H r p
theorem Sgs.mono {K:W.Frag} {CK CN CR:Addr} {H H':Hp} {xs:List V} {ps:List Pl} (e:Same H H') (h:Sgs K CK CN CR H xs ps):Sgs K CK CN CR H' xs ps:=⟨h.len,fun i p hp=>by
 obtain ⟨r,a,b⟩:=h.get i p hp
 exact ⟨r,a,b.mono e⟩⟩
theorem Sgs.at {K:W.Frag} {CK CN CR:Addr} {H:Hp} {xs:List V} {ps:List Pl} {i:Nat} {x:V} (h:Sgs K CK CN CR H xs ps) (hx:xs[i]?=some x):∃ p r,ps[i]?=some p /\ x=.ref r /\ SgAt K CK CN CR H r p:=by
 have hi:i < ps.length:=by rw [<- h.len];exact (yAE.mp hx).1
 obtain ⟨r,a,b⟩:=h.get i ps[i] (yAH hi)
 rw [hx] at a
 cases a
 exact ⟨_,r,yAH hi,rfl,b⟩
noncomputable abbrev Prt:=Bool×List Pl
structure PrtOk (q:Prt):Prop where
 ok:∀ p∈q.2,p.Ok
 ne:q.2≠[]
 le:q.2.length <= 3
 one:q.1=false->∃ p,q.2=[p]
noncomputable def b2i (b:Bool):Int:=if b then 1 else 0
noncomputable def vts:List Pl->List Int->List Int->Int
 | [],_,_=>0
 | p::r,x,y=>vts r x y+b2i (ZBO p x y)-b2i (ZBO p y x)
noncomputable def cnt (ps:List Pl) (x y:List Int):Nat:=(ps.filter fun p=>ZBO p x y).length
theorem vts_cnt (x y:List Int):∀ ps:List Pl,vts ps x y=(cnt ps x y:Int)-(cnt ps y x:Int)
 | []=>rfl
 | p::r=>by
  unfold vts cnt b2i
  rw [vts_cnt x y r,List.filter_cons,List.filter_cons]
  unfold cnt
  cases ZBO p x y <;> cases ZBO p y x <;> simp <;> omega
noncomputable def ZCa (q:Prt) (x y:List Int):Bool:=if q.1=true then decide (0 < vts q.2 x y) else q.2.any fun p=>ZBO p x y
noncomputable def befB:List Prt->List Int->List Int->Bool
 | [],_,_=>false
 | q::r,x,y=>if ZCa q x y=true then true else if ZCa q y x=true then false else befB r x y
noncomputable def VtAt (K:W.Frag) (CK CN CR CV:Addr) (H:Hp) (r:Addr) (ps:List Pl):Prop:=∃ l xs,Ins H r CV (fV l) /\ H l=some (.lst xs) /\ Sgs K CK CN CR H xs ps
noncomputable def PrAt (K:W.Frag) (CK CN CR CV:Addr) (H:Hp) (r:Addr) (q:Prt):Prop:=(q.1=false /\ ∃ p,q.2=[p] /\ SgAt K CK CN CR H r p)∨(q.1=true /\ VtAt K CK CN CR CV H r q.2)
theorem VtAt.mono {K:W.Frag} {CK CN CR CV:Addr} {H H':Hp} {r:Addr} {ps:List Pl} (e:Same H H') (h:VtAt K CK CN CR CV H r ps):VtAt K CK CN CR CV H' r ps:=by
 obtain ⟨l,xs,a,b,c⟩:=h
 exact ⟨l,xs,a.mono e,e _ _ b,c.mono e⟩
theorem VtAt.meth {K:W.Frag} {CK CN CR CV:Addr} {H:Hp} {r:Addr} {ps:List Pl} {m:Str} {R:Prop} (h:VtAt K CK CN CR CV H r ps) (hm:m=Str.ofString "before"∨m=Str.ofString "widest") (q:R):MtO CV r m H R:=by
 obtain ⟨l,xs,a,b,c⟩:=h
 rcases hm with rfl | rfl
 .exact a.meth (by walk_at "lk") q
 .exact a.meth (by walk_at "lk") q
theorem PrAt.mono {K:W.Frag} {CK CN CR CV:Addr} {H H':Hp} {r:Addr} {q:Prt} (e:Same H H') (h:PrAt K CK CN CR CV H r q):PrAt K CK CN CR CV H' r q:=by
 rcases h with ⟨h0,p,a,b⟩ | ⟨h0,a⟩
 .exact .inl ⟨h0,p,a,b.mono e⟩
 .exact .inr ⟨h0,a.mono e⟩
structure Prs (K:W.Frag) (CK CN CR CV:Addr) (H:Hp) (xs:List V) (ps:List Prt):Prop where
 len:xs.length=ps.length
 get:∀ (i:Nat) q,ps[i]?=some q->∃ r,xs[i]?=some (V.ref r) /\ PrAt K CK CN CR CV H r q
theorem Prs.mono {K:W.Frag} {CK CN CR CV:Addr} {H H':Hp} {xs:List V} {ps:List Prt} (e:Same H H') (h:Prs K CK CN CR CV H xs ps):Prs K CK CN CR CV H' xs ps:=⟨h.len,fun i p hp=>by
 obtain ⟨r,a,b⟩:=h.get i p hp
 exact ⟨r,a,b.mono e⟩⟩
theorem Prs.at {K:W.Frag} {CK CN CR CV:Addr} {H:Hp} {xs:List V} {ps:List Prt} {i:Nat} {x:V} (h:Prs K CK CN CR CV H xs ps) (hx:xs[i]?=some x):∃ p r,ps[i]?=some p /\ x=.ref r /\ PrAt K CK CN CR CV H r p:=by
 have hi:i < ps.length:=by rw [<- h.len];exact (yAE.mp hx).1
 obtain ⟨r,a,b⟩:=h.get i ps[i] (yAH hi)
 rw [hx] at a
 cases a
 exact ⟨_,r,yAH hi,rfl,b⟩
noncomputable def ChAt (K:W.Frag) (CK CN CR CV CC:Addr) (H:Hp) (r:Addr) (ps:List Prt):Prop:=∃ l xs,Ins H r CC (fV l) /\ H l=some (.lst xs) /\ Prs K CK CN CR CV H xs ps
theorem ChAt.mono {K:W.Frag} {CK CN CR CV CC:Addr} {H H':Hp} {r:Addr} {ps:List Prt} (e:Same H H') (h:ChAt K CK CN CR CV CC H r ps):ChAt K CK CN CR CV CC H' r ps:=by
 obtain ⟨l,xs,a,b,c⟩:=h
 exact ⟨l,xs,a.mono e,e _ _ b,c.mono e⟩
theorem ChAt.meth {K:W.Frag} {CK CN CR CV CC:Addr} {H:Hp} {r:Addr} {ps:List Prt} {m:Str} {R:Prop} (h:ChAt K CK CN CR CV CC H r ps) (hm:m=Str.ofString "before"∨m=Str.ofString "widest") (q:R):MtO CC r m H R:=by
 obtain ⟨l,xs,a,b,c⟩:=h
 rcases hm with rfl | rfl
 .exact a.meth (by walk_at "lk") q
 .exact a.meth (by walk_at "lk") q
noncomputable def ZCI (C:Addr):Sp:=fun vs H Q _=>∃ (p dx c:Addr) (xs:List V),vs=[.ref p,.ref c] /\ H p=some (.ins C dx []) /\ H c=some (.lst xs) /\ ∀ l H',H l=none->l≠p->(∀ b o,b≠p->H b=some o->H' b=some o)->H' l=some (.lst xs)->Ins H' p C (fV l)->Q .non H'
noncomputable def ZBn (K:W.Frag) (CK CN CR CV:Addr):Sp:=fun vs H Q _=>∃ (r x y:Addr) (ps:List Pl) (xi yi:List Int),vs=[.ref r,.ref x,.ref y] /\ VtAt K CK CN CR CV H r ps /\ ps.length <= 100 /\ (∀ p∈ps,p.Ok) /\ SqT K H x (xi.map V.int) /\ SqT K H y (yi.map V.int) /\ (∀ p∈ps,p.key < xi.length) /\ (∀ p∈ps,p.key < yi.length) /\ ∀ H',Same H H'->Q (.bl (decide (0 < vts ps xi yi))) H'
noncomputable def ZCO (K:W.Frag) (CK CN CR CV CC:Addr):Sp:=fun vs H Q _=>∃ (r x y:Addr) (ps:List Prt) (xi yi:List Int),vs=[.ref r,.ref x,.ref y] /\ ChAt K CK CN CR CV CC H r ps /\ (∀ q∈ps,PrtOk q) /\ ps.length <= 100 /\ SqT K H x (xi.map V.int) /\ SqT K H y (yi.map V.int) /\ (∀ q∈ps,∀ p∈q.2,p.key < xi.length) /\ (∀ q∈ps,∀ p∈q.2,p.key < yi.length) /\ ∀ H',Same H H'->Q (.bl (befB ps xi yi)) H'
theorem pr_before {K:W.Frag} {CK CN CR CV:Addr} {H:Hp} {r x y:Addr} {q:Prt} {xi yi:List Int} {Q:VK} {E:XK} (h:PrAt K CK CN CR CV H r q) (ok:PrtOk q) (hx:SqT K H x (xi.map V.int)) (hy:SqT K H y (yi.map V.int)) (lx:∀ p∈q.2,p.key < xi.length) (ly:∀ p∈q.2,p.key < yi.length) (k:∀ H',Same H H'->Q (.bl (ZCa q xi yi)) H') :
  MtO CK r (Str.ofString "before") H (ZBU K CK [.ref r,.ref x,.ref y] H Q E)∨MtO CN r (Str.ofString "before") H (ZBA K CN [.ref r,.ref x,.ref y] H Q E)∨MtO CR r (Str.ofString "before") H (ZA9 K CR [.ref r,.ref x,.ref y] H Q E)∨MtO CV r (Str.ofString "before") H (ZBn K CK CN CR CV [.ref r,.ref x,.ref y] H Q E):=by
 rcases h with ⟨h0,p,e,b⟩ | ⟨h0,b⟩
 .have:=k H (.refl _)
  unfold ZCa at this
  rw [h0,if_neg (by decide),e] at this
  rcases ZCp (E:=E) (Q:=Q) b (ok.ok p (by rw [e];exact yAP)) hx hy (lx p (by rw [e];exact yAP)) (ly p (by rw [e];exact yAP)) (by simpa using this) with z | z | z
  .exact .inl z
  .exact .inr (.inl z)
  .exact .inr (.inr (.inl z))
 .refine .inr (.inr (.inr (VtAt.meth b (.inl rfl) ⟨r,x,y,q.2,xi,yi,rfl,b,yAF ok.le (by decide),ok.ok,hx,hy,lx,ly,fun H' s=>?_⟩)))
  have:=k H' s
  unfold ZCa at this
  rw [h0,if_pos rfl] at this
  exact this
theorem cnt_le (ps:List Pl) (x y:List Int) (i:Nat):cnt (ps.take i) x y <= i:=yAF (List.length_filter_le _ _) (by rw [List.length_take];omega)
theorem cnt_next {ps:List Pl} {i:Nat} {p:Pl} (x y:List Int) (h:ps[i]?=some p):cnt (ps.take (i+1)) x y=cnt (ps.take i) x y+(if ZBO p x y=true then 1 else 0):=by
 unfold cnt
 rw [List.take_add_one,h,List.filter_append,yAD]
 congr 1
 show (List.filter _ [p]).length=_
 rw [List.filter_cons]
 cases ZBO p x y <;> rfl
theorem vts_app (x y:List Int) (p:Pl):∀ ls:List Pl,vts (ls++[p]) x y=vts ls x y+b2i (ZBO p x y)-b2i (ZBO p y x)
 | []=>rfl
 | q::r=>by
  show vts (r++[p]) x y+b2i (ZBO q x y)-b2i (ZBO q y x)=vts r x y+b2i (ZBO q x y)-b2i (ZBO q y x)+b2i (ZBO p x y)-b2i (ZBO p y x)
  rw [vts_app x y p r];omega
theorem vts_next {ls:List Pl} {i:Nat} {p:Pl} {x y:List Int} (h:ls[i]?=some p):vts (ls.take (i+1)) x y=vts (ls.take i) x y+b2i (ZBO p x y)-b2i (ZBO p y x):=by
 rw [List.take_add_one,h]
 exact vts_app x y p _
theorem befB_drop {ps:List Prt} {i:Nat} {p:Prt} (h:ps[i]?=some p) (x y:List Int):befB (ps.drop i) x y=if ZCa p x y=true then true else if ZCa p y x=true then false else befB (ps.drop (i+1)) x y:=by
 obtain ⟨hi,he⟩:=yAE.mp h
 rw [List.drop_eq_getElem_cons hi,he]
 rfl
theorem Sgs.snoc {K:W.Frag} {CK CN CR:Addr} {H:Hp} {xs:List V} {ps:List Pl} {r:Addr} {p:Pl} (h:Sgs K CK CN CR H xs ps) (hr:SgAt K CK CN CR H r p):Sgs K CK CN CR H (xs++[.ref r]) (ps++[p]):=by
 refine ⟨by rw [yAD,yAD,h.len];rfl,fun i ms hi=>?_⟩
 by_cases z:i < ps.length
 .rw [yAN z] at hi
  obtain ⟨t',a,b⟩:=h.get i ms hi
  exact ⟨t',by rw [yAN (by rw [h.len];exact z)];exact a,b⟩
 .have e:=(yAE.mp hi).1
  rw [yAD] at e
  have e1:i=ps.length:=by have:[p].length=1:=rfl;omega
  subst e1
  rw [yAS (yAA _),yAV] at hi
  cases hi
  exact ⟨r,by rw [<- h.len,yAS (yAA _),yAV];rfl,hr⟩
theorem Prs.snoc {K:W.Frag} {CK CN CR CV:Addr} {H:Hp} {xs:List V} {ps:List Prt} {r:Addr} {p:Prt} (h:Prs K CK CN CR CV H xs ps) (hr:PrAt K CK CN CR CV H r p):Prs K CK CN CR CV H (xs++[.ref r]) (ps++[p]):=by
 refine ⟨by rw [yAD,yAD,h.len];rfl,fun i ms hi=>?_⟩
 by_cases z:i < ps.length
 .rw [yAN z] at hi
  obtain ⟨t',a,b⟩:=h.get i ms hi
  exact ⟨t',by rw [yAN (by rw [h.len];exact z)];exact a,b⟩
 .have e:=(yAE.mp hi).1
  rw [yAD] at e
  have e1:i=ps.length:=by have:[p].length=1:=rfl;omega
  subst e1
  rw [yAS (yAA _),yAV] at hi
  cases hi
  exact ⟨r,by rw [<- h.len,yAS (yAA _),yAV];rfl,hr⟩
theorem ZBg {G:Hp} {x dx C:Addr} (hx:G x=none) (hdx:G dx=none):Same G (upd (upd G dx (.own x)) x (.ins C dx [])):=fun b o e=>by
 rw [ZAO (ZAT e hx),ZAO (ZAT e hdx)];exact e
theorem vmade {C:Addr} {G:Hp} {p2 x dx:Addr} {ys:List V} {Q:VK} {E:XK} (h:G p2=some (.lst ys)) (hx:G x=none) (hdx:G dx=none) (q:∀ l H',Same G H'->H' l=some (.lst ys)->Ins H' x C (fV l)->Q (.ref x) H'):ZCI C [.ref x,.ref p2] (upd (upd G dx (.own x)) x (.ins C dx [])) (fun v H2=>v=.non /\ Q (.ref x) H2) E :=
 ⟨x,dx,p2,ys,rfl,ZAG,ZBg hx hdx _ _ h,fun l H' hl hlp k hl' hI=>⟨rfl,q l H' (fun b o e=>k b o (ZAT e hx) (ZBg hx hdx _ _ e)) hl' hI⟩⟩
noncomputable abbrev fT (a:Int) (l:Addr):List (Str×V):=[("table",.ref l),("at",.int a)]
noncomputable abbrev fG (g:Addr):List (Str×V):=[("teller",.ref g)]
noncomputable def ZCm (C:Addr):Sp:=fun vs H Q _=>∃ (x dx l:Addr) (n:Nat) (m:Nat->Nat->Bool),vs=[.ref x,.int 0,.ref l] /\ H x=some (.ins C dx []) /\ MAt H l n m /\ n <= 100 /\ ∀ l2 H',(∀ b o,b≠x->H b=some o->H' b=some o)->MAt H' l2 n m->Ins H' x C (fT 0 l2)->Q .non H'
noncomputable def ZBx (K:W.Frag) (C:Addr):Sp:=fun vs H Q _=>∃ (r x y l n':Addr) (n:Nat) (m:Nat->Nat->Bool) (xi yi:List Int) (i j:Nat),vs=[.ref r,.ref x,.ref y] /\ Ins H r C (fT 0 l) /\ MAt H l n m /\ SqT K H x (xi.map V.int) /\ SqT K H y (yi.map V.int) /\ xi[0]?=some (i:Int) /\ yi[0]?=some (j:Int) /\ i < n /\ j < n /\ Q (.bl (m i j)) H
noncomputable abbrev rT25:V->List V->Hp->VK->Prop:=fun f vs H Q=>∃ (g x y l:Addr) (n:Nat) (m:Nat->Nat->Bool) (i j:Nat) (xs ys:List V),f=.ref g /\ vs=[.ref x,.ref y] /\ Clo H g "_law_teller_here" "_law_teller.<locals>._law_teller_here" (ZAJ ZAN) (ZAH ZAN) (ZAB ZAN) ["_law_table_here"] [.ref l] /\ MAt H l n m /\ H x=some (.lst (.int i::xs)) /\ H y=some (.lst (.int j::ys)) /\ i < n /\ j < n /\ Q (.bl (m i j)) H
noncomputable def ZCo (CR:Addr):Sp:=fun vs H Q _=>∃ (x dx g:Addr),vs=[.ref x,.ref g] /\ H x=some (.ins CR dx []) /\ ∀ H',(∀ b o,b≠x->H b=some o->H' b=some o)->Ins H' x CR (fG g)->Q .non H'
noncomputable def ZDq (CR:Addr):Sp:=fun vs H Q _=>∃ (ru g:Addr) (x y:V),vs=[.ref ru,x,y] /\ Ins H ru CR (fG g) /\ (∃ o,H g=some (FZ o) /\ ∃ fd,o.data=.func fd) /\ rT25 (.ref g) [x,y] H Q
noncomputable def DI (K:W.Frag) (CA CT CK CN CR CV CC:Addr) (ru:Addr) (x y:V) (H:Hp) (Q:VK) (E:XK):Prop :=
 MtO CA ru (Str.ofString "before") H (ZDq CA [.ref ru,x,y] H Q E)∨MtO CT ru (Str.ofString "before") H (ZBx K CT [.ref ru,x,y] H Q E)∨MtO CN ru (Str.ofString "before") H (ZBA K CN [.ref ru,x,y] H Q E)∨MtO CR ru (Str.ofString "before") H (ZA9 K CR [.ref ru,x,y] H Q E)∨MtO CV ru (Str.ofString "before") H (ZBn K CK CN CR CV [.ref ru,x,y] H Q E)∨MtO CC ru (Str.ofString "before") H (ZCO K CK CN CR CV CC [.ref ru,x,y] H Q E)
noncomputable def Bf (K:W.Frag) (CA CT CK CN CR CV CC:Addr) (H:Hp) (ru:Addr) (xs:List V) (gb:Nat->Nat->Bool):Prop:=∀ (i j:Nat) x y,xs[i]?=some x->xs[j]?=some y->∀ H' Q E,Same H H'->(∀ H'',Same H' H''->Q (.bl (gb i j)) H'')->DI K CA CT CK CN CR CV CC ru x y H' Q E
noncomputable def ZDA (K:W.Frag) (CA CT CK CN CR CV CC:Addr):Sp:=fun vs H Q _=>∃ (rw ru:Addr) (xs:List V) (gb:Nat->Nat->Bool),vs=[.ref rw,.ref ru] /\ H rw=some (.lst xs) /\ xs.length <= 100 /\ Bf K CA CT CK CN CR CV CC H ru xs gb /\ ∀ l H',Same H H'->MAt H' l xs.length gb->Q (.ref l) H'
noncomputable def RkAt (H:Hp) (t:Addr) (n:Nat) (m:Nat->Nat->Bool):Prop:=(ArR n m /\ ∃ l,H t=some (.tup [.str (Str.ofString "ranks"),.ref l]) /\ H l=some (.lst ((List.range n).map fun q=>V.int (rkN n m q:Nat))))∨FlAt H t n m
noncomputable def ZD6 (K:W.Frag) (CA CT CK CN CR CV CC:Addr):Sp:=fun vs H Q _=>∃ (rw ru:Addr) (xs:List V) (gb:Nat->Nat->Bool),vs=[.ref rw,.ref ru] /\ H rw=some (.lst xs) /\ xs.length <= 100 /\ Bf K CA CT CK CN CR CV CC H ru xs gb /\ ∀ t H',Same H H'->RkAt H' t xs.length gb->Q (.ref t) H'
noncomputable def ZC8:Sp:=fun vs H Q _=>∃ i:Int,vs=[.int i] /\ Q (.bl true) H
noncomputable def ZDD:Sp:=fun vs H Q _=>∃ (l l2:Addr) (n:Nat) (m:Nat->Nat->Bool),vs=[.ref l,.ref l2] /\ MAt H l n m /\ n <= 100 /\ ArR n m /\ H l2=some (.lst ((List.range n).map fun q=>V.int (rkN n m q:Nat))) /\ ∀ H',Same H H'->Q (.bl true) H'
noncomputable def ZDg:Sp:=fun vs H Q _=>∃ (l t3:Addr) (n:Nat) (m:Nat->Nat->Bool) (w:Str) (a b c:Nat),vs=[.ref l,.str w,.ref t3] /\ MAt H l n m /\ n <= 100 /\ H t3=some (.tup [.int a,.int b,.int c]) /\ Flw n m w a b c /\ ∀ H',Same H H'->Q (.bl true) H'
noncomputable def ZDf:Sp:=fun vs H Q _=>∃ (l t:Addr) (n:Nat) (m:Nat->Nat->Bool),vs=[.ref l,.ref t] /\ MAt H l n m /\ n <= 100 /\ RkAt H t n m /\ ∀ H',Same H H'->Q (.bl true) H'
noncomputable def udP (u:Bool) (k:Nat):Pl:=⟨if u=true then 0 else 1,k,0⟩
theorem ZDb (u:Bool) (k:Nat) (x y:List Int):ZBO (udP u k) x y=if u=true then decide (at0 x k < at0 y k) else decide (at0 y k < at0 x k):=by
 cases u <;> rfl
noncomputable def ZDB:Sp:=fun vs H Q _=>∃ d:Int,vs=[.int d] /\ 0 <= d /\ ∀ n:Int,Q (.int n) H
noncomputable def ZCM:Sp:=fun vs H Q _=>∃ c k:Int,vs=[.int c,.int k] /\ 0 <= k /\ k <= 1000 /\ ∀ n:Int,1 <= n->Q (.int n) H
noncomputable def ZCh (K:W.Frag):Sp:=fun vs H Q _=>∃ (x y:Addr) (k:Nat) (u:Bool) (xi yi:List Int),vs=[.ref x,.ref y,.int k,.str (wayS u)] /\ SqT K H x (xi.map V.int) /\ SqT K H y (yi.map V.int) /\ k < xi.length /\ k < yi.length /\ Q (.bl (ZBO (udP u k) xi yi)) H
noncomputable def ZD5 (K:W.Frag):Sp:=fun vs H Q _=>∃ (x y:Addr) (sz:Int) (xi yi:List Int),vs=[.ref x,.ref y,.int sz] /\ SqT K H x (xi.map V.int) /\ SqT K H y (yi.map V.int) /\ 0 < xi.length /\ 0 < yi.length /\ 1 <= sz /\ Q (.bl (ZDy sz (at0 yi 0-at0 xi 0))) H
noncomputable def ZCn (K:W.Frag):Sp:=fun vs H Q _=>∃ (x y:Addr) (gp:Int) (u:Bool) (xi yi:List Int),vs=[.ref x,.ref y,.int gp,.str (wayS u)] /\ SqT K H x (xi.map V.int) /\ SqT K H y (yi.map V.int) /\ 1 < xi.length /\ 1 < yi.length /\ Q (.bl (befB [(false,[⟨2,0,gp⟩]),(false,[udP u 1])] xi yi)) H
noncomputable def ZC9 (K:W.Frag):Sp:=fun vs H Q _=>∃ (x y l:Addr) (cs:List V) (cols:List (Int×Bool)) (xi yi:List Int),vs=[.ref x,.ref y,.ref l] /\ SqT K H x (xi.map V.int) /\ SqT K H y (yi.map V.int) /\ H l=some (.lst cs) /\ DpAll K H (cols.map colD) cs /\ (∀ c∈cols,0 <= c.1 /\ c.1.toNat < xi.length /\ c.1.toNat < yi.length) /\ Q (.bl (decide (0 < vts (cols.map fun c=>udP c.2 c.1.toNat) xi yi))) H
theorem up_way (u:Bool):(wayS u=Str.ofString "up")↔u=true:=wayS_up
theorem onceX {α:Type} {P:TS} {D:Ends} (σ:α->St) (X:α->Hp) (p:α->Prop) {G:Prop} (h:(∀ x,p x->Cut P D (σ x) (X x))->G) (t:∀ x,p x->Cut P D (σ x) (X x)):G:=h t
noncomputable def MRw (H:Hp) (rs:List V) (rows:List (List Bool)):Prop:=rs.length=rows.length /\ ∀ (p:Nat) row,rows[p]?=some row->∃ r,rs[p]?=some (V.ref r) /\ H r=some (.lst (row.map V.bl))
theorem MRw.mono {H H':Hp} {rs:List V} {rows:List (List Bool)} (s:Same H H') (h:MRw H rs rows):MRw H' rs rows:=⟨h.1,fun p row e=>by obtain ⟨r,a,b⟩:=h.2 p row e;exact ⟨r,a,s _ _ b⟩⟩
theorem MRw.nil {H:Hp}:MRw H [] []:=⟨rfl,fun p row h=>by simp at h⟩
theorem MRw.snoc {H:Hp} {rs:List V} {rows:List (List Bool)} {r:Addr} {row:List Bool} (h:MRw H rs rows) (hr:H r=some (.lst (row.map V.bl))):MRw H (rs++[.ref r]) (rows++[row]):=by
 refine ⟨by rw [yAD,yAD,h.1];rfl,fun i ms hi=>?_⟩
 by_cases z:i < rows.length
 .rw [yAN z] at hi
  obtain ⟨t',a,b⟩:=h.2 i ms hi
  exact ⟨t',by rw [yAN (by rw [h.1];exact z)];exact a,b⟩
 .have e:=(yAE.mp hi).1
  rw [yAD] at e
  have e1:i=rows.length:=by have:[row].length=1:=rfl;omega
  subst e1
  rw [yAS (yAA _),yAV] at hi
  cases hi
  exact ⟨r,by rw [<- h.1,yAS (yAA _),yAV];rfl,hr⟩
theorem MRw.upd {H:Hp} {rs:List V} {rows:List (List Bool)} {l:Addr} {o:HO} (h:MRw H rs rows) (hne:∀ b,V.ref b∈rs->b≠l):MRw (upd H l o) rs rows:=⟨h.1,fun p row e=>by
 obtain ⟨r,a,b⟩:=h.2 p row e
 exact ⟨r,a,by rw [ZAO (hne r (yAC a))];exact b⟩⟩
theorem MRw.alive {H:Hp} {rs:List V} {rows:List (List Bool)} {b:Addr} (h:MRw H rs rows) (hb:V.ref b∈rs):∃ row:List Bool,H b=some (.lst (row.map V.bl)):=by
 obtain ⟨k,hk⟩:=List.getElem?_of_mem hb
 have hlt:k < rows.length:=by rw [<- h.1];exact (yAE.mp hk).1
 obtain ⟨r,a1,b1⟩:=h.2 k rows[k] (yAH hlt)
 rw [hk] at a1;cases a1
 exact ⟨_,b1⟩
theorem MRw.flip {H:Hp} {rs:List V} {rows:List (List Bool)} {p:Nat} {r:Addr} {row':List Bool} (h:MRw H rs rows) (hnd:rs.Nodup) (hr:rs[p]?=some (V.ref r)):MRw (L2.upd H r (.lst (row'.map V.bl))) rs (rows.set p row'):=by
 refine ⟨by rw [List.length_set];exact h.1,fun i row e=>?_⟩
 by_cases z:i=p
 .subst z
  have hlt:i < rows.length:=by have:=(yAE.mp e).1;rw [List.length_set] at this;exact this
  rw [List.getElem?_set_self hlt] at e
  cases e
  exact ⟨r,hr,ZAG⟩
 .rw [List.getElem?_set_ne (Ne.symm z)] at e
  obtain ⟨ri,a1,b1⟩:=h.2 i row e
  refine ⟨ri,a1,?_⟩
  have hne:ri≠r:=fun zz=>by
   rw [zz] at a1
   obtain ⟨l1,e1⟩:=yAE.mp a1
   obtain ⟨l2,e2⟩:=yAE.mp hr
   have pw:=List.pairwise_iff_getElem.mp hnd
   rcases Nat.lt_or_gt_of_ne z with lt | gt
   .exact pw i p l1 l2 lt (e1.trans e2.symm)
   .exact pw p i l2 l1 gt (e2.trans e1.symm)
  show L2.upd H r _ ri=_
  rw [ZAO hne];exact b1
noncomputable def mOf (rows:List (List Bool)) (p q:Nat):Bool:=(rows.getD p []).getD q false
theorem MRw.mat {H:Hp} {l:Addr} {rs:List V} {rows:List (List Bool)} {n:Nat} (hl:H l=some (.lst rs)) (h:MRw H rs rows) (hn:rows.length=n) (hw:∀ row∈rows,row.length=n):MAt H l n (mOf rows):=by
 refine ⟨rs,hl,by rw [h.1,hn],fun p hp=>?_⟩
 obtain ⟨r,a,b⟩:=h.2 p rows[p] (yAH (by omega))
 refine ⟨r,a,?_⟩
 rw [b]
 have hlen:=hw rows[p] (List.getElem_mem (by omega))
 congr 2
 refine List.ext_getElem? fun q=>?_
 by_cases hq:q < n
 .rw [yAJ,yAJ,yBD hq]
  show Option.map V.bl rows[p][q]?=some (V.bl (mOf rows p q))
  unfold mOf
  rw [yBA,yBA,yAH (show p < rows.length by omega)]
  show _=some (V.bl ((rows[p])[q]?.getD false))
  rw [yAH (show q < rows[p].length by omega)]
  rfl
 .rw [yBF (by rw [yAB];omega),yBF (by rw [yAB,yAL];omega)]
noncomputable def ZDd:Sp:=fun vs H Q _=>∃ (n:Nat) (c:Int),vs=[.int n,.int c] /\ n <= 20 /\ ∀ l H' m,Same H H'->H l=none->MAt H' l n m->Q (.ref l) H'
noncomputable def ZD4:Sp:=fun vs H Q _=>∃ (n:Nat) (c t:Int),vs=[.int n,.int c,.int t] /\ n <= 20 /\ ∀ l H' m,Same H H'->H l=none->MAt H' l n m->Q (.ref l) H'
noncomputable def ZCl:Sp:=fun vs H Q _=>∃ (c w:Int),vs=[.int c,.int w] /\ 0 < w /\ w < 2 ^ 250 /\ ∀ t H' (ms:List Int),Same H H'->H' t=some (.tup (ms.map V.int))->ms.length=3->Q (.ref t) H'
structure Row25 (H:Hp) (kd:Int) (xs:List V) (ts:List (List Int)):Prop where
 len:xs.length=ts.length
 get:∀ (i:Nat) t,ts[i]?=some t->∃ a,xs[i]?=some (V.ref a) /\ ((kd=0 /\ H a=some (.lst (t.map V.int)))∨(kd≠0 /\ H a=some (.tup (t.map V.int))))
theorem Row25.mono {H H':Hp} {kd:Int} {xs:List V} {ts:List (List Int)} (s:Same H H') (h:Row25 H kd xs ts):Row25 H' kd xs ts:=⟨h.len,fun i t e=>by
 obtain ⟨a,x,y⟩:=h.get i t e
 exact ⟨a,x,y.imp (fun z=>⟨z.1,s _ _ z.2⟩) fun z=>⟨z.1,s _ _ z.2⟩⟩⟩
theorem Row25.at {H:Hp} {kd:Int} {xs:List V} {ts:List (List Int)} {i:Nat} {x:V} (h:Row25 H kd xs ts) (hx:xs[i]?=some x):∃ t a,ts[i]?=some t /\ x=.ref a /\ ((kd=0 /\ H a=some (.lst (t.map V.int)))∨(kd≠0 /\ H a=some (.tup (t.map V.int)))):=by
 have hi:i < ts.length:=by rw [<- h.len];exact (yAE.mp hx).1
 obtain ⟨r,a,b⟩:=h.get i ts[i] (yAH hi)
 rw [hx] at a
 cases a
 exact ⟨_,r,yAH hi,rfl,b⟩
noncomputable def gbK (kd nb:Int) (m:Nat->Nat->Bool) (cols:List (Int×Bool)) (u0:Bool) (t u:List Int):Bool :=
 if kd < 2 then m (at0 t 0).toNat (at0 u 0).toNat else if kd=2 then decide (nb < at0 u 0-at0 t 0) else if kd=3 then ZDy (nb+1) (at0 u 0-at0 t 0) else if kd=4 then decide (0 < vts (cols.map fun c=>udP c.2 c.1.toNat) t u) else befB [(false,[⟨2,0,nb⟩]),(false,[udP u0 1])] t u
structure Dat25 (kd nb:Int) (sz:Nat) (cols:List (Int×Bool)) (u0:Bool) (ts:List (List Int)):Prop where
 small:kd < 2->∀ t∈ts,0 < t.length /\ 0 <= at0 t 0 /\ (at0 t 0).toNat < sz
 three:2 <= kd->∀ t∈ts,t.length=3
 nb0:0 <= nb
 cl:∀ c∈cols,0 <= c.1 /\ c.1.toNat < 3
 c0:∃ k0:Int,cols[0]?=some (k0,u0)
 len:ts.length <= 60
noncomputable def gM (kd nb:Int) (m:Nat->Nat->Bool) (cols:List (Int×Bool)) (u0:Bool) (ts:List (List Int)) (i j:Nat):Bool:=gbK kd nb m cols u0 (ts.getD i []) (ts.getD j [])
noncomputable def ZEQ (K:W.Frag):Sp:=fun vs H Q _=>∃ (kd nb:Int) (rw tb cl:Addr) (xs cs:List V) (ts:List (List Int)) (sz:Nat) (m:Nat->Nat->Bool) (cols:List (Int×Bool)) (u0:Bool),vs=[.int kd,.ref rw,.ref tb,.int nb,.ref cl] /\ H rw=some (.lst xs) /\ Row25 H kd xs ts /\ MAt H tb sz m /\ H cl=some (.lst cs) /\ DpAll K H (cols.map colD) cs /\ Dat25 kd nb sz cols u0 ts /\ ∀ l H',Same H H'->H l=none->MAt H' l ts.length (gM kd nb m cols u0 ts)->Q (.ref l) H'
theorem ZCw {K:W.Frag} {a:Addr} {xs:List V} {te:TE} {Q:VK} {σ0 rest:St} {H:Hp} (h:SqL K H a xs) (hz:xs.length <= 1000) (e0:σ0=none::rest) (g:Nat->Bool)
  (hs:∀ (i:Nat) x,xs[i]?=some x->∀ Q':VK,Q' (.bl (g i)) H->te (some x::rest) H Q')
  (hd:∀ p,H p=none->Q (.ref p) (upd H p (.lst ((List.range xs.length).map fun i=>V.bl (g i))))):ZEW K (ZD0 0) tYes te σ0 Q (.ref a) H:=by
 subst e0
 refine ZBI h hz (fun i ys σ H'=>∃ v,σ=v::rest /\ H'=H /\ ys=(List.range i).map fun i=>V.bl (g i)) ⟨_,rfl,rfl,rfl⟩ ?_ ?_ ?_
 .rintro i ys σ H' _ ⟨v,rfl,rfl,rfl⟩
  exact ⟨h,by rw [yAB,yAL];exact yAA _⟩
 .rintro i ys x σ H' hi hx ⟨v,rfl,rfl,rfl⟩
  show te (some x::rest) H' _
  refine hs i x hx _ (Nxt.of hi ⟨_,rfl,rfl,?_⟩)
  rw [yBH,yAW]
  rfl
 .rintro ys σ H' ⟨v,rfl,rfl,rfl⟩ p hp
  exact hd p hp
section bf
variable {K:W.Frag} {CA CT CK CN CR CV CC:Addr} {H:Hp} {ru:Addr} {xs:List V} {ts:List (List Int)} {kd nb:Int} {sz:Nat} {m:Nat->Nat->Bool} {cols:List (Int×Bool)} {u0:Bool}
theorem ZDP {ts:List (List Int)} {i:Nat} {t:List Int} (h:ts[i]?=some t):ts.getD i []=t:=by rw [yBA,h];rfl
theorem Row25.pair (hk:kd≠0) (hR:Row25 H kd xs ts) {i j:Nat} {x y:V} (hx:xs[i]?=some x) (hy:xs[j]?=some y):∃ t u a b,t∈ts /\ u∈ts /\ ts.getD i []=t /\ ts.getD j []=u /\ x=.ref a /\ y=.ref b /\ SqT K H a (t.map V.int) /\ SqT K H b (u.map V.int):=by
 obtain ⟨t,a,ht,rfl,ha⟩:=hR.at hx
 obtain ⟨u,b,hu,rfl,hb⟩:=hR.at hy
 refine ⟨t,u,a,b,yAC ht,yAC hu,ZDP ht,ZDP hu,rfl,rfl,?_,?_⟩
 .rcases ha with ⟨z,_⟩ | ⟨_,h⟩
  .exact absurd z hk
  .exact SqT.of h
 .rcases hb with ⟨z,_⟩ | ⟨_,h⟩
  .exact absurd z hk
  .exact SqT.of h
theorem bf_tab {l:Addr} (e:kd=1) (hI:Ins H ru CT (fT 0 l)) (hM:MAt H l sz m) (hR:Row25 H kd xs ts) (hD:Dat25 kd nb sz cols u0 ts):Bf K CA CT CK CN CR CV CC H ru xs (gM kd nb m cols u0 ts):=fun i j x y hx hy H' Q E s k=>by
 obtain ⟨t,u,a,b,mt,mu,gt,gu,rfl,rfl,ha,hb⟩:=Row25.pair (K:=K) (by omega) (hR.mono s) hx hy
 obtain ⟨l1,n1,z1⟩:=hD.small (by omega) t mt
 obtain ⟨l2,n2,z2⟩:=hD.small (by omega) u mu
 have:=k H' (.refl _)
 unfold gM gbK at this
 rw [gt,gu,if_pos (by omega)] at this
 exact .inr (.inl ((hI.mono s).meth (by walk_at "lk") ⟨ru,a,b,l,l,sz,m,t,u,_,_,rfl,hI.mono s,hM.mono s,ha,hb,by rw [show (((at0 t 0).toNat:Nat):Int)=at0 t 0 by omega];exact ZBL (a:=0) (by decide) (by omega),by rw [show (((at0 u 0).toNat:Nat):Int)=at0 u 0 by omega];exact ZBL (a:=0) (by decide) (by omega),z1,z2,this⟩))
theorem bf_near (e:kd=2) (hI:Ins H ru CN (fN 0 nb)) (hR:Row25 H kd xs ts) (hD:Dat25 kd nb sz cols u0 ts):Bf K CA CT CK CN CR CV CC H ru xs (gM kd nb m cols u0 ts):=fun i j x y hx hy H' Q E s k=>by
 obtain ⟨t,u,a,b,mt,mu,gt,gu,rfl,rfl,ha,hb⟩:=Row25.pair (K:=K) (by omega) (hR.mono s) hx hy
 have l1:=hD.three (by omega) t mt
 have l2:=hD.three (by omega) u mu
 have:=k H' (.refl _)
 unfold gM gbK at this
 rw [gt,gu,if_neg (by omega),if_pos e] at this
 exact .inr (.inr (.inl ((hI.mono s).meth (by walk_at "lk") ⟨ru,a,b,0,nb,t,u,rfl,hI.mono s,ha,hb,by decide,by omega,by omega,this⟩)))
theorem bf_ring (e:kd=3) (hI:Ins H ru CR (fRg 0 (nb+1))) (hR:Row25 H kd xs ts) (hD:Dat25 kd nb sz cols u0 ts):Bf K CA CT CK CN CR CV CC H ru xs (gM kd nb m cols u0 ts):=fun i j x y hx hy H' Q E s k=>by
 obtain ⟨t,u,a,b,mt,mu,gt,gu,rfl,rfl,ha,hb⟩:=Row25.pair (K:=K) (by omega) (hR.mono s) hx hy
 have l1:=hD.three (by omega) t mt
 have l2:=hD.three (by omega) u mu
 have h0:=hD.nb0
 have:=k H' (.refl _)
 unfold gM gbK at this
 rw [gt,gu,if_neg (by omega),if_neg (by omega),if_pos e] at this
 exact .inr (.inr (.inr (.inl ((hI.mono s).meth (by walk_at "lk") ⟨ru,a,b,0,nb+1,t,u,rfl,hI.mono s,ha,hb,by decide,by omega,by omega,by omega,this⟩))))
theorem ZDo {u:Bool} {k:Nat} (h:k < 8):(udP u k).Ok:=by
 refine ⟨?_,h,Int.le_refl _,?_⟩
 .show (if u=true then 0 else 1) < 4
  split <;> decide
 .show (if u=true then 0 else 1)=3->_
  split <;> intro z <;> cases z
theorem bf_vote (e:kd=4) (hv:VtAt K CK CN CR CV H ru (cols.map fun c=>udP c.2 c.1.toNat)) (hcl:cols.length <= 10) (hR:Row25 H kd xs ts) (hD:Dat25 kd nb sz cols u0 ts):Bf K CA CT CK CN CR CV CC H ru xs (gM kd nb m cols u0 ts):=fun i j x y hx hy H' Q E s k=>by
 obtain ⟨t,u,a,b,mt,mu,gt,gu,rfl,rfl,ha,hb⟩:=Row25.pair (K:=K) (by omega) (hR.mono s) hx hy
 have l1:=hD.three (by omega) t mt
 have l2:=hD.three (by omega) u mu
 have hc:∀ p∈cols.map (fun c=>udP c.2 c.1.toNat),p.Ok /\ p.key < 3:=fun p hp=>by
  obtain ⟨c,hc,rfl⟩:=yBG.mp hp
  have:=hD.cl c hc
  exact ⟨ZDo (by omega),this.2⟩
 refine .inr (.inr (.inr (.inr (.inl (VtAt.meth (hv.mono s) (.inl rfl) ⟨ru,a,b,_,t,u,rfl,hv.mono s,by rw [yAB];omega,fun p hp=>(hc p hp).1,ha,hb,fun p hp=>by have:=(hc p hp).2;omega,fun p hp=>by have:=(hc p hp).2;omega,fun H'' s''=>?_⟩)))))
 have:=k H'' s''
 unfold gM gbK at this
 rw [gt,gu,if_neg (by omega),if_neg (by omega),if_neg (by omega),if_pos e] at this
 exact this
theorem bf_chain (e:kd=5) (hv:ChAt K CK CN CR CV CC H ru [(false,[⟨2,0,nb⟩]),(false,[udP u0 1])]) (hR:Row25 H kd xs ts) (hD:Dat25 kd nb sz cols u0 ts):Bf K CA CT CK CN CR CV CC H ru xs (gM kd nb m cols u0 ts):=fun i j x y hx hy H' Q E s k=>by
 obtain ⟨t,u,a,b,mt,mu,gt,gu,rfl,rfl,ha,hb⟩:=Row25.pair (K:=K) (by omega) (hR.mono s) hx hy
 have l1:=hD.three (by omega) t mt
 have l2:=hD.three (by omega) u mu
 have h0:=hD.nb0
 have ok:∀ q∈[((false,[⟨2,0,nb⟩]):Prt),(false,[udP u0 1])],PrtOk q /\ ∀ p∈q.2,p.key < 3:=fun q hq=>by
  simp only [yAR,List.not_mem_nil,or_false] at hq
  rcases hq with rfl | rfl
  .refine ⟨⟨fun p hp=>?_,List.cons_ne_nil _ _,Nat.le_add_left 1 2,fun _=>⟨_,rfl⟩⟩,fun p hp=>?_⟩
   .rw [yAO.mp hp]
    exact ⟨(by show (2:Nat) < 4;decide),(by show (0:Nat) < 8;decide),h0,(fun z=>by cases z)⟩
   .rw [yAO.mp hp];show (0:Nat) < 3;decide
  .refine ⟨⟨fun p hp=>?_,List.cons_ne_nil _ _,Nat.le_add_left 1 2,fun _=>⟨_,rfl⟩⟩,fun p hp=>?_⟩
   .rw [yAO.mp hp];exact ZDo (by decide)
   .rw [yAO.mp hp];show (1:Nat) < 3;decide
 refine .inr (.inr (.inr (.inr (.inr (ChAt.meth (hv.mono s) (.inl rfl) ⟨ru,a,b,_,t,u,rfl,hv.mono s,fun q hq=>(ok q hq).1,Nat.le_add_left 2 98,ha,hb,fun q hq p hp=>by have:=(ok q hq).2 p hp;omega,fun q hq p hp=>by have:=(ok q hq).2 p hp;omega,fun H'' s''=>?_⟩)))))
 have:=k H'' s''
 unfold gM gbK at this
 rw [gt,gu,if_neg (by omega),if_neg (by omega),if_neg (by omega),if_neg (by omega)] at this
 exact this
end bf
theorem fzOf {H H':Hp} (s:Same H H'):ZDZ H H':=fun b o e=>s _ _ e
theorem bf_ask {K:W.Frag} {CA CT CK CN CR CV CC:Addr} {H:Hp} {ru g l:Addr} {xs:List V} {ts:List (List Int)} {kd nb:Int} {sz:Nat} {m:Nat->Nat->Bool} {cols:List (Int×Bool)} {u0:Bool} (e:kd=0) (hI:Ins H ru CA (fG g)) (hg:∃ o,H g=some (FZ o) /\ ∃ fd,o.data=.func fd) (hc:Clo H g "_law_teller_here" "_law_teller.<locals>._law_teller_here" (ZAJ ZAN) (ZAH ZAN) (ZAB ZAN) ["_law_table_here"] [.ref l]) (hM:MAt H l sz m) (hR:Row25 H kd xs ts) (hD:Dat25 kd nb sz cols u0 ts):Bf K CA CT CK CN CR CV CC H ru xs (gM kd nb m cols u0 ts):=fun i j x y hx hy H' Q E s k=>by
 obtain ⟨t,a,ht,rfl,ha⟩:=(hR.mono s).at hx
 obtain ⟨u,b,hu,rfl,hb⟩:=(hR.mono s).at hy
 have ha:H' a=some (.lst (t.map V.int)):=ha.elim (fun z=>z.2) fun z=>absurd e z.1
 have hb:H' b=some (.lst (u.map V.int)):=hb.elim (fun z=>z.2) fun z=>absurd e z.1
 obtain ⟨l1,n1,z1⟩:=hD.small (by omega) t (yAC ht)
 obtain ⟨l2,n2,z2⟩:=hD.small (by omega) u (yAC hu)
 have hd:∀ {t:List Int},0 < t.length->0 <= at0 t 0->t.map V.int=.int (((at0 t 0).toNat:Nat):Int)::(t.drop 1).map V.int:=fun {t} h1 h2=>by
  cases t with
  | nil=>cases h1
  | cons t0 r=>
   rw [show (((at0 (t0::r) 0).toNat:Nat):Int)=at0 (t0::r) 0 by omega]
   rfl
 have:=k H' (.refl _)
 unfold gM gbK at this
 rw [ZDP ht,ZDP hu,if_pos (by omega)] at this
 obtain ⟨o,ho,hfd⟩:=hg
 refine .inl ((hI.mono s).meth (by walk_at "lk") ⟨ru,g,.ref a,.ref b,rfl,hI.mono s,⟨o,s _ _ ho,hfd⟩,g,a,b,l,sz,m,_,_,(t.drop 1).map V.int,(u.drop 1).map V.int,rfl,rfl,hc.mono (fzOf s),hM.mono s,by rw [ha,hd l1 n1],by rw [hb,hd l2 n2],z1,z2,this⟩)
noncomputable def SameB (H H':Hp):Prop:=∀ b o,(∀ t,o≠.tbl t)->H b=some o->H' b=some o
theorem ZDw {H H':Hp} (s:Same H H'):SameB H H':=fun b o _ e=>s b o e
theorem SameB.trans {A B C:Hp} (s:SameB A B) (t:SameB B C):SameB A C:=fun b o n e=>t b o n (s b o n e)
theorem Row25.monoB {H H':Hp} {kd:Int} {xs:List V} {ts:List (List Int)} (s:SameB H H') (h:Row25 H kd xs ts):Row25 H' kd xs ts:=⟨h.len,fun i t e=>by
 obtain ⟨a,x,y⟩:=h.get i t e
 exact ⟨a,x,y.imp (fun z=>⟨z.1,s _ _ (fun _ z=>by cases z) z.2⟩) fun z=>⟨z.1,s _ _ (fun _ z=>by cases z) z.2⟩⟩⟩
theorem MAt.monoB {H H':Hp} {l:Addr} {n:Nat} {m:Nat->Nat->Bool} (s:SameB H H') (h:MAt H l n m):MAt H' l n m:=by
 obtain ⟨rs,a,b,c⟩:=h
 refine ⟨rs,s _ _ (fun _ z=>by cases z) a,b,fun p hp=>?_⟩
 obtain ⟨r,d,e⟩:=c p hp
 exact ⟨r,d,s _ _ (fun _ z=>by cases z) e⟩
noncomputable abbrev TabT (H:Hp) (Pt:Addr):Prop:=TabSt H Pt (ZDu ZAN) "_law_teller.<locals>._law_teller_here"
noncomputable def ZDC (K:W.Frag) (CA CT CK CN CR CV CC Pt:Addr):Sp:=fun vs H Q _=>∃ (kd nb:Int) (tb cl:Addr) (xs cs:List V) (ts:List (List Int)) (sz:Nat) (m:Nat->Nat->Bool) (cols:List (Int×Bool)) (u0:Bool),vs=[.int kd,.ref tb,.int nb,.ref cl] /\ TabT H Pt /\ Row25 H kd xs ts /\ MAt H tb sz m /\ sz <= 100 /\ H cl=some (.lst cs) /\ DpAll K H (cols.map colD) cs /\ Dat25 kd nb sz cols u0 ts /\ cols.length <= 10 /\ 0 <= kd /\ kd <= 5 /\ ∀ r H',SameB H H'->Bf K CA CT CK CN CR CV CC H' r xs (gM kd nb m cols u0 ts)->Q (.ref r) H'
theorem kmadeT {K:W.Frag} {CK CN CR:Addr} {G:Hp} {x dx p1 t:Addr} {p:Pl} {R:Hp->Prop} {E:XK} (ok:p.Ok) (hk:p.kd < 2) (hx:G x=none) (hdx:G dx=none) (h1:G p1=some (.lst [.ref t])) (ht:SqT K G t [.int p.key,.str (wayS (decide (p.kd=0)))]) (q:∀ H',Same G H'->SgAt K CK CN CR H' x p->R H'):ZCN K CK [.ref x,.ref p1] (upd (upd G dx (.own x)) x (.ins CK dx [])) (fun v H2=>v=.non /\ R H2) E:=by
 have S:=ZBg (C:=CK) hx hdx
 have hd:∀ H',Same G H'->DpAll K H' ([((p.key:Int),decide (p.kd=0))].map colD) [V.ref t]:=fun H' s=>.one (ZED (s.seqT ht) (.two (dp_int _) (dp_str _)))
 refine ⟨x,dx,p1,[.ref t],_,rfl,ZAG,SqL.of (S _ _ h1),hd _ S,fun c' hc=>?_,fun l hl=>⟨rfl,?_⟩⟩
 .rw [yAO.mp hc]
  have:=ok.key
  exact ⟨by show (0:Int) <= (p.key:Int);omega,by show (p.key:Int) <= 7;omega⟩
 .have hlx:l≠x:=fun z=>by rw [z,ZAG] at hl;cases hl
  have s2:Same G (upd (upd (upd (upd G dx (.own x)) x (.ins CK dx [])) l (.lst [V.ref t])) x (.ins CK dx (putF "columns" (.ref l) []))):=(S.new hl).upd hx
  exact q _ s2 (.inl ⟨hk,dx,l,_,ZAG,SqL.of (by rw [ZAO hlx,ZAG]),hd _ s2⟩)
theorem nmadeT {K:W.Frag} {CK CN CR:Addr} {G:Hp} {x dx:Addr} {a nb:Int} {R:Hp->Prop} {E:XK} (h0:0 <= a) (h7:a <= 7) (hn:0 <= nb) (hx:G x=none) (hdx:G dx=none) (q:∀ H',Same G H'->SgAt K CK CN CR H' x ⟨2,a.toNat,nb⟩->R H'):ZCB CN [.ref x,.int a,.int nb] (upd (upd G dx (.own x)) x (.ins CN dx [])) (fun v H2=>v=.non /\ R H2) E :=
 ⟨x,dx,_,_,rfl,ZAG,h0,h7,hn,fun H' k hI=>⟨rfl,q H' (fun b o e=>k b o (ZAT e hx) (ZBg hx hdx _ _ e)) (.inr (.inl ⟨rfl,by show Ins H' x CN (fN ((a.toNat:Nat):Int) nb);rw [Int.toNat_of_nonneg h0];exact hI⟩))⟩⟩
theorem ud_lt (u:Bool) (k:Nat):(udP u k).kd < 2:=by
 show (if u=true then 0 else 1) < 2
 split <;> decide
theorem ud_way (u:Bool) (k:Nat):wayS (decide ((udP u k).kd=0))=wayS u:=by cases u <;> rfl
theorem once1 {γ:Type} {M:γ->Prop} (P:γ->Prop) {G:Prop} (h:(∀ z,P z->M z)->G) (t:∀ z,P z->M z):G:=h t
theorem once3 {α β γ:Type} {M:α->β->γ->Prop} (P:α->β->γ->Prop) {G:Prop} (h:(∀ x y z,P x y z->M x y z)->G) (t:∀ x y z,P x y z->M x y z):G:=h t
structure RwD (H:Hp) (rw:Addr) (kd:Int) (sz:Nat) (xs:List V) (ts:List (List Int)):Prop where
 hl:H rw=some (.lst xs)
 row:Row25 H kd xs ts
 small:kd < 2->∀ t∈ts,0 < t.length /\ 0 <= at0 t 0 /\ (at0 t 0).toNat < sz
 three:2 <= kd->∀ t∈ts,t.length=3
 len:ts.length <= 20
theorem RwD.mono {H H':Hp} {rw:Addr} {kd:Int} {sz:Nat} {xs:List V} {ts:List (List Int)} (s:Same H H') (h:RwD H rw kd sz xs ts):RwD H' rw kd sz xs ts:=⟨s _ _ h.hl,h.row.mono s,h.small,h.three,h.len⟩
theorem Row25.nil {H:Hp} {kd:Int}:Row25 H kd [] []:=⟨rfl,fun i p h=>by simp at h⟩
theorem Row25.snoc {H:Hp} {kd:Int} {xs:List V} {ts:List (List Int)} {a:Addr} {t:List Int} (h:Row25 H kd xs ts) (ha:(kd=0 /\ H a=some (.lst (t.map V.int)))∨(kd≠0 /\ H a=some (.tup (t.map V.int)))):Row25 H kd (xs++[.ref a]) (ts++[t]):=by
 refine ⟨by rw [yAD,yAD,h.len];rfl,fun i ms hi=>?_⟩
 by_cases z:i < ts.length
 .rw [yAN z] at hi
  obtain ⟨t',c,b⟩:=h.get i ms hi
  exact ⟨t',by rw [yAN (by rw [h.len];exact z)];exact c,b⟩
 .have e:=(yAE.mp hi).1
  rw [yAD] at e
  have e1:i=ts.length:=by have:[t].length=1:=rfl;omega
  subst e1
  rw [yAS (yAA _),yAV] at hi
  cases hi
  exact ⟨a,by rw [<- h.len,yAS (yAA _),yAV];rfl,ha⟩
theorem Row25.dp {K:W.Frag} {H:Hp} {kd:Int} {xs:List V} {ts:List (List Int)} (h:Row25 H kd xs ts):DpAll K H (ts.map fun t=>if kd=0 then .list (t.map PyData.int) else .tuple (t.map PyData.int)) xs:=by
 induction ts generalizing xs with
 | nil=>
  cases xs with
  | nil=>exact .nil
  | cons x r=>exact absurd h.len (by simp)
 | cons t r ih=>
  cases xs with
  | nil=>exact absurd h.len (by simp)
  | cons x ys=>
   obtain ⟨a,e,ha⟩:=h.get 0 t rfl
   have e':x=.ref a:=Option.some.inj e
   subst e'
   refine .cons ?_ (ih ⟨by have:=h.len;simp at this;exact this,fun i u hu=>h.get (i+1) u hu⟩)
   rcases ha with ⟨z,ha⟩ | ⟨z,ha⟩
   .dsimp only;rw [if_pos z];exact ZDX (SqL.of ha) (DpAll.ints _)
   .dsimp only;rw [if_neg z];exact ZED (SqT.of ha) (DpAll.ints _)
noncomputable def ZDY (f:Nat->Bool) (i:Nat):List (Int×Bool):=(List.range i).map fun (k:Nat)=>((k:Int),f k)
theorem colsN_succ (f:Nat->Bool) (i:Nat):(ZDY f (i+1)).map colD=(ZDY f i).map colD++[colD ((i:Int),f i)]:=by
 unfold ZDY;rw [yBH,yAW,yAW];rfl
section
variable {P:Program} {w:World} {K:W.Frag} {mg:Str->Option Value} {base:Heap} {C_KeyRule C_NearRule C_RingRule C_TableRule C_VoteRule C_ChainRule C_AskedRule:Addr} {cc_teller Pt_teller:Addr}
theorem ok_teller {f:Addr} {fd:FuncData} (F:Fun K "_law_teller" "_law_teller" ZBy f fd) (hcd:fd.code=.ref cc_teller) (C:PySem.W.CodeHd base cc_teller Pt_teller) (B:ZDa mg base):FnOk P w K mg base CX0 1 f fd ["_law_table_here"] (ZDp Pt_teller (ZDu ZAN) "_law_teller_here" "_law_teller.<locals>._law_teller_here" (ZAJ ZAN) (ZAH ZAN) (ZAB ZAN) ["_law_table_here"] [0] 1) :=
 teller_ok F sc_teller hcd C B rfl (fun _ _=>rfl) rfl rfl (fun _ _=>rfl) rfl (by decide) (by decide) (by decide +kernel) (by decide +kernel) (by decide +kernel) (hix_of rfl) rfl
theorem clo_teller (T:Bt K mg C_KeyRule C_NearRule C_RingRule C_TableRule C_VoteRule C_ChainRule C_AskedRule):CloOk P w K mg base 1 (rT25):=by
 refine clo_of (k:=0) (iname:="_law_teller_here") (iq:="_law_teller.<locals>._law_teller_here") (ip:=ZAJ ZAN) (ib:=ZAH ZAN) (isc:=ZAB ZAN) csc_teller (fun f vs H Q h=>?_) (fun f vs H Q h=>?_) (fun cl doc pm ctv c' us hl=>match us,hl with | [_,_],_=>rfl) (fun g cs cl cd A outer s H vs Q hr C h=>?_)
 .obtain ⟨g,x,y,l,n,m,i,j,xs,ys,rfl,rfl,hclo,hM,hx,hy,hi,hj,q⟩:=h
  exact ⟨_,_,rfl,hclo⟩
 .obtain ⟨g,x,y,l,n,m,i,j,xs,ys,rfl,rfl,hclo,hM,hx,hy,hi,hj,q⟩:=h
  rfl
 obtain ⟨g,x,y,l,n,m,i,j,xs,ys,eg,rfl,hclo,hM,hx,hy,hi,hj,q⟩:=h
 cases eg
 obtain ⟨cl2,C2⟩:=hclo
 obtain rfl:=C.inj' C2
 refine ⟨_,(ZAF (ZAR (ZAS ZAU (ZAS ZAU (pv 2) (ZAS ZAU (pv 0) ZAE (fun _ _=>rfl)) (fun _ _=>rfl)) (ZAS ZAU (pv 1) ZAE (fun _ _=>rfl)) (fun _ _=>rfl)))),?_⟩
 walk_at "rd"
 have cells:=C.cells
 obtain ⟨rs,hl,hrl,hm⟩:=hM
 obtain ⟨r,hr1,hr2⟩:=hm i hi
 have hx':hid cl H x=some (.lst (.int i::xs)):=ZBk cells hx (by intro ob z;cases z)
 have hy':hid cl H y=some (.lst (.int j::ys)):=ZBk cells hy (by intro ob z;cases z)
 have hl':hid cl H l=some (.lst rs):=ZBk cells hl (by intro ob z;cases z)
 have hr':hid cl H r=some (.lst ((List.range n).map fun q=>V.bl (m i q))):=ZBk cells hr2 (by intro ob z;cases z)
 refine ZAY (SqL.of hx') (ZAb (by decide) rfl) ?_
 refine ZAY (SqL.of hl') (ZAb (by omega) (by rw [Int.toNat_natCast];exact hr1)) ?_
 refine ZAY (SqL.of hy') (ZAb (by decide) rfl) ?_
 refine ZAY (SqL.of hr') (ZCq hj) fun _=>?_
 rw [back_hid]
 exact q
theorem ok_straight {f:Addr} {fd:FuncData} (F:Fun K "straight" "straight" ZBe f fd) (T:Bt K mg C_KeyRule C_NearRule C_RingRule C_TableRule C_VoteRule C_ChainRule C_AskedRule)
 :FnOk P w K mg base CX0 1 f fd ["many"] (ZCA):=by
 refine F.ok sc_straight (fun vs H Q E h=>?_) (fun cdv A outer s H vs Q E hr h=>?_)
 .obtain ⟨n,rfl,hn,q⟩:=h
  rfl
 obtain ⟨n,rfl,hn,q⟩:=h
 refine ⟨_,(ZAF (ZAR (ZBQ (call_list_rng rfl) rfl T.b_list PyProof.Rows.boot_list (ZAA (ZBQ call_rng1 rfl T.b_range PyProof.Rows.boot_range (ZAA (pv 0) ZAC)) ZAC)))),?_⟩
 walk_at "rd"
 refine ⟨_,rfl,fun p hp=>⟨p,0,n,rfl,ZAG,by omega,fun l hl=>?_⟩⟩
 have e:(ZDF 0 n).map V.int=(List.range n).map fun p=>V.int (p:Nat):=by
  refine List.ext_getElem? fun i=>?_
  by_cases hi:i < n
  .rw [yAJ,rints_get (by omega),yAJ,yBD hi]
   show some (V.int (0+(i:Int)))=some (V.int (i:Int))
   rw [Int.zero_add]
  .rw [yBF (by rw [yAB,ZB5];omega),yBF (by rw [yAB,yAL];omega)]
 rw [e]
 exact q l _ (((Same.refl _).new hp).new hl) ((ZAL hp _).free hl) ZAG
theorem ok_counted_ranks {f:Addr} {fd:FuncData} (F:Fun K "counted_ranks" "counted_ranks" ZA4 f fd) (T:Bt K mg C_KeyRule C_NearRule C_RingRule C_TableRule C_VoteRule C_ChainRule C_AskedRule)
  (f_straight:Fn P w K mg base CX0 "straight" 1 ["many"] (ZCA))
 :FnOk P w K mg base CX0 2 f fd ["pairs"] (ZDh):=by
 refine F.ok sc_counted_ranks (fun vs H Q E h=>?_) (fun cdv A outer s H vs Q E hr h=>?_)
 .obtain ⟨l,n,m,rfl,hM,hn,q⟩:=h
  rfl
 obtain ⟨l,n,m,rfl,hM,hn,q⟩:=h
 refine ⟨_,(ZAD (ZAa (i:=1) sc_counted_ranks.nd rfl (by walk_at "o") (ZAm f_straight (hr.mono (by decide)) rfl ZAW (ZAA (ZAX ZAP rfl T.b_len PySem.boot_len (ZAA (pv 0) ZAC)) ZAC)))
  (ZAF (ZAR (ZBP rfl (k:=1) (js:=[1,0]) (N':=["q","places","pairs"]) (by rfl) (ZAu (pv 1)) (fun _ _ _ _=>ZAK (i:=0) (show (["q","places","pairs"]:List Str).Nodup by decide +kernel) rfl (by walk_at "o")) (fun _ _ _ _=>ZAs) (fun _ _ _ _=>(ZAX (call_len_seqK K) rfl T.b_len PySem.boot_len (ZAA (ZBP rfl (k:=1) (js:=[2,0]) (N':=["p","pairs","q"]) (by rfl) (pi_listK K (pv 1)) (fun _ _ _ _=>ZAK (i:=0) (show (["p","pairs","q"]:List Str).Nodup by decide +kernel) rfl (by walk_at "o")) (fun _ _ _ _=>(ZCQ (ZBZ (ZAS (ZAf K) (ZAS (ZAf K) (pv 1) (pv 0) (fun _ _=>rfl)) (pv 2) (fun _ _=>rfl))))) (fun _ _ _ _=>(pv 0))) ZAC))))))),?_⟩
 walk_at "rd"
 obtain ⟨rs,hl,hrl,hm⟩:=hM
 refine ⟨l,_,rfl,.inl (SqL.of hl),?_⟩
 rw [hrl]
 refine ⟨n,rfl,by omega,fun pl H1 s1 npl hpl=>?_⟩
 dsimp only
 have hl1:=s1 _ _ hl
 have hrn:((List.range n).map fun p=>V.int ((p:Nat):Int)).length=n:=by rw [yAB,yAL]
 have hri:∀ (i:Nat) x,((List.range n).map fun p=>V.int ((p:Nat):Int))[i]?=some x->i < n /\ x=.int i:=fun i x hx=>by
  have h1:=(yAE.mp hx).1
  rw [hrn] at h1
  rw [yAJ,yBD h1] at hx
  cases hx
  exact ⟨h1,rfl⟩
 refine ZBI (SqL.of hpl) (by rw [hrn];omega) (fun i ys σ H'=>∃ v,σ=[v,some (.ref pl),some (.ref l)] /\ Same H1 H' /\ ys=(List.range i).map fun q=>V.int (rkN n m q:Nat)) ⟨_,rfl,.refl _,rfl⟩ (fun i ys σ H' _ h=>by obtain ⟨_,_,e,e2⟩:=h;rw [e2,yAB,yAL];exact ⟨SqL.of (e _ _ hpl),yAA _⟩) ?_ ?_
 .rintro i ys x σ H' hi hx ⟨v,rfl,sA,rfl⟩
  obtain ⟨hit,rfl⟩:=hri i x hx
  walk_at "rd"
  refine ZBI (SqL.of (sA _ _ hpl)) (by rw [hrn];omega) (fun j zs σ H2=>∃ v,σ=[v,some (.ref l),some (.int i)] /\ H2=H' /\ zs.length=(List.range j).countP fun x=>m x i) ⟨_,rfl,rfl,rfl⟩ (fun j zs σ H2 hj h=>by obtain ⟨_,_,e,e2⟩:=h;rw [e,e2];exact ⟨SqL.of (sA _ _ hpl),yAF List.countP_le_length (by rw [yAL];exact yAA _)⟩) ?_ ?_
  .rintro j zs y σ H2 hj hy ⟨v,rfl,rfl,hz⟩
   obtain ⟨hjt,rfl⟩:=hri j y hy
   obtain ⟨r,hr1,hr2⟩:=hm j hjt
   have ec:(List.range (j+1)).countP (fun x=>m x i)=(List.range j).countP (fun x=>m x i)+(if m j i=true then 1 else 0):=by
    rw [yBH,List.countP_append]
    simp [List.countP_cons]
   walk_at "rd"
   refine ZAY (SqL.of (sA _ _ hl1)) (ZAb (by omega) (by rw [Int.toNat_natCast];exact hr1)) ?_
   refine ZAY (SqL.of (sA _ _ (s1 _ _ hr2))) (ZCq hit) ?_
   refine ⟨_,rfl,?_⟩
   cases hk:m j i with
   | true=>
    rw [if_pos rfl]
    exact Nxt.of hj ⟨_,rfl,rfl,by rw [ec,hk,yAD,hz];rfl⟩
   | false=>
    rw [if_neg yAM]
    exact Nxt.of hj ⟨_,rfl,rfl,by rw [ec,hk,hz];rfl⟩
  rintro zs σ H2 ⟨v,rfl,rfl,hz⟩ cl hcl
  rw [hrn] at hz
  refine ⟨cl,_,rfl,.inl (SqL.of ZAG),?_⟩
  refine Nxt.of hi ⟨_,rfl,sA.new hcl,?_⟩
  rw [hz,yBH,yAW]
  rfl
 rintro ys σ H' ⟨v,rfl,sA,rfl⟩ l2 hl2
 rw [hrn]
 exact q l2 _ (s1.trans (sA.new hl2)) ((s1.trans sA).free hl2) ZAG
theorem ok_are_ranks {f:Addr} {fd:FuncData} (F:Fun K "are_ranks" "are_ranks" ZBV f fd) (T:Bt K mg C_KeyRule C_NearRule C_RingRule C_TableRule C_VoteRule C_ChainRule C_AskedRule)
 :FnOk P w K mg base CX0 1 f fd ["pairs","ranks"] (ZDi):=by
 refine F.ok sc_are_ranks (fun vs H Q E h=>?_) (fun cdv A outer s H vs Q E hr h=>?_)
 .obtain ⟨l,l2,n,m,rfl,hM,hn,hl2,q⟩:=h
  rfl
 obtain ⟨l,l2,n,m,rfl,hM,hn,hl2,q⟩:=h
 refine ⟨_,(ZAD (ZBT PassesOwn.never rfl (ZDH rfl T.b_enumerate (ZAA (pv 0) ZAC)) (ZCc (n:=2) rfl (ZA1 (ZAK (i:=2) sc_are_ranks.nd rfl (by walk_at "o")) (ZA1 (ZAK (i:=3) sc_are_ranks.nd rfl (by walk_at "o")) ZB6)))
  (ZAF (ZBT PassesOwn.never rfl (ZDH rfl T.b_enumerate (ZAA (pv 3) ZAC)) (ZCc (n:=2) rfl (ZA1 (ZAK (i:=4) sc_are_ranks.nd rfl (by walk_at "o")) (ZA1 (ZAK (i:=5) sc_are_ranks.nd rfl (by walk_at "o")) ZB6)))
  (ZAF (ZA0 (ZAQ ZCt (pv 5) (ZAo ZB3 (ZAS ZAU (pv 1) (pv 2) (fun _ _=>rfl)) (ZAS ZAU (pv 1) (pv 4) (fun _ _=>rfl)) (ZAI _)) (ZAI _))
  (ZAF (ZAR ZCG)) ZAV)))))
  (ZAF (ZAR ZCG))),?_⟩
 walk_at "rd"
 obtain ⟨rs,hl,hrl,hm⟩:=hM
 refine ZDQ (SqL.of hl) (fun i σ H'=>∃ v2 v3 v4 v5,σ=[some (.ref l),some (.ref l2),v2,v3,v4,v5] /\ Same H H' /\ ∀ p,p < i->∀ q,q < n->m p q=decide (rkN n m p < rkN n m q)) ⟨_,_,_,_,rfl,.refl _,fun p h=>by omega⟩ (fun i σ H' _ h=>by obtain ⟨_,_,_,_,_,e,_⟩:=h;exact SqL.of (e _ _ hl)) ?_ ?_
 .rintro i x σ H' p hx ⟨v2,v3,v4,v5,rfl,sA,hpre⟩ hp
  have hi:i < n:=by rw [<- hrl];exact (yAE.mp hx).1
  obtain ⟨r,hr1,hr2⟩:=hm i hi
  rw [hx] at hr1;cases hr1
  refine ZB8 (SqT.of ZAG) rfl ?_
  have sB:=sA.new hp (o:=.tup [.int i,.ref r])
  generalize upd H' p (.tup [.int i,.ref r])=H2 at sB ⊢
  walk_at "rd"
  refine ZDQ (SqL.of (sB _ _ hr2)) (fun j σ H'=>∃ v4 v5,σ=[some (.ref l),some (.ref l2),some (.int i),some (.ref r),v4,v5] /\ Same H H' /\ ∀ q,q < j->m i q=decide (rkN n m i < rkN n m q)) ⟨_,_,rfl,sB,fun q h=>by omega⟩ (fun j σ H' _ h=>by obtain ⟨_,_,_,e,_⟩:=h;exact SqL.of (e _ _ hr2)) ?_ ?_
  .rintro j y σ H3 p2 hy ⟨v4,v5,rfl,sC,hpj⟩ hp2
   have hj:j < n:=by have:=(yAE.mp hy).1;rw [yAB,yAL] at this;exact this
   rw [yAJ,yBD hj] at hy
   cases hy
   refine ZB8 (SqT.of ZAG) rfl ?_
   have sD:=sC.new hp2 (o:=.tup [.int j,.bl (m i j)])
   generalize upd H3 p2 (.tup [.int j,.bl (m i j)])=H4 at sD ⊢
   walk_at "rd"
   refine ZAY (SqL.of (sD _ _ hl2)) (ZCq hi) (ZAY (SqL.of (sD _ _ hl2)) (ZCq hj) ?_)
   walk_at "rd"
   by_cases ek:m i j=decide (rkN n m i < rkN n m j)
   .rw [if_neg (fun z=>z (by rw [ek,decide_eq_decide];omega))]
    refine ⟨_,_,rfl,sD,fun q hq=>?_⟩
    by_cases hqj:q < j
    .exact hpj q hqj
    .rw [show q=j by omega];exact ek
   .rw [if_pos (fun z=>ek (z.trans (decide_eq_decide.mpr (by omega))))]
    exact (q _ sD).2 fun hA=>ek (hA i hi j hj)
  .rintro σ H3 ⟨v4,v5,rfl,sC,hpj⟩
   rw [yAB,yAL] at hpj
   refine ⟨_,_,_,_,rfl,sC,fun p' hp'=>?_⟩
   by_cases hpi:p' < i
   .exact hpre p' hpi
   .rw [show p'=i by omega];exact hpj
 rintro σ H' ⟨v2,v3,v4,v5,rfl,sA,hpre⟩
 walk_at "rd"
 rw [hrl] at hpre
 exact (q _ sA).1 hpre
theorem ok_odd_thirds {f:Addr} {fd:FuncData} (F:Fun K "odd_thirds" "odd_thirds" ZBN f fd) (T:Bt K mg C_KeyRule C_NearRule C_RingRule C_TableRule C_VoteRule C_ChainRule C_AskedRule)
  (f_straight:Fn P w K mg base CX0 "straight" 1 ["many"] (ZCA))
 :FnOk P w K mg base CX0 2 f fd ["pairs","p","q"] (ZDe):=by
 refine F.ok sc_odd_thirds (fun vs H Q E h=>?_) (fun cdv A outer s H vs Q E hr h=>?_)
 .obtain ⟨l,p,q',n,m,rfl,hM,hn,hp,hq,q⟩:=h
  rfl
 obtain ⟨l,p,q',n,m,rfl,hM,hn,hp,hq,q⟩:=h
 refine ⟨_,(ZAF (ZAR (ZBP rfl (k:=1) (js:=[0,1,2]) (N':=["r","pairs","p","q"]) (by rfl) (ZAu (ZAm f_straight (hr.mono (by decide)) rfl ZAW (ZAA (ZAX ZAP rfl T.b_len PySem.boot_len (ZAA (pv 0) ZAC)) ZAC))) (fun _ _ _ _=>ZAK (i:=0) (show (["r","pairs","p","q"]:List Str).Nodup by decide +kernel) rfl (by walk_at "o")) (fun _ _ _ _=>(ZCQ (PW.pt (ZEA (ZCs (ZBZ (ZAS (ZAf K) (ZAS (ZAf K) (pv 1) (pv 2) (fun _ _=>rfl)) (pv 0) (fun _ _=>rfl)))) (ZDj (ZCs (ZBZ (ZAS (ZAf K) (ZAS (ZAf K) (pv 1) (pv 0) (fun _ _=>rfl)) (pv 3) (fun _ _=>rfl))))))))) (fun _ _ _ _=>(pv 0))))),?_⟩
 walk_at "rd"
 obtain ⟨rs,hl,hrl,hm⟩:=hM
 refine ⟨l,_,rfl,.inl (SqL.of hl),?_⟩
 rw [hrl]
 refine ⟨n,rfl,by omega,fun pl H1 s1 npl hpl=>?_⟩
 dsimp only
 have hl1:=s1 _ _ hl
 have hrn:((List.range n).map fun p=>V.int ((p:Nat):Int)).length=n:=by rw [yAB,yAL]
 have hri:∀ (i:Nat) x,((List.range n).map fun p=>V.int ((p:Nat):Int))[i]?=some x->i < n /\ x=.int i:=fun i x hx=>by
  have h1:=(yAE.mp hx).1
  rw [hrn] at h1
  rw [yAJ,yBD h1] at hx
  cases hx
  exact ⟨h1,rfl⟩
 have rowOf:∀ i,i < n->∃ r,atI rs (i:Int)=some (.ref r) /\ H1 r=some (.lst ((List.range n).map fun q=>V.bl (m i q))):=fun i hi=>by
  obtain ⟨r,a,b⟩:=hm i hi
  exact ⟨r,ZAb (by omega) (by rw [Int.toNat_natCast];exact a),s1 _ _ b⟩
 obtain ⟨rp,ap,bp⟩:=rowOf p hp
 refine ZBI (SqL.of hpl) (by rw [hrn];omega) (fun i ys σ H'=>∃ v,σ=[v,some (.ref l),some (.int p),some (.int q')] /\ H'=H1 /\ ys=((List.range i).filter fun r=>!m p r && !m r q').map fun r=>V.int (r:Nat)) ⟨_,rfl,rfl,rfl⟩ (fun i ys σ H' _ h=>by obtain ⟨_,_,e,e2⟩:=h;rw [e,e2,yAB];exact ⟨SqL.of hpl,yAF (List.length_filter_le _ _) (by rw [yAL];exact yAA _)⟩) ?_ ?_
 .rintro i ys x σ H' hi hx ⟨v,rfl,rfl,rfl⟩
  obtain ⟨hit,rfl⟩:=hri i x hx
  obtain ⟨ri,ai,bi⟩:=rowOf i hit
  have ef:(List.range (i+1)).filter (fun r=>!m p r && !m r q')=(List.range i).filter (fun r=>!m p r && !m r q')++if (!m p i && !m i q')=true then [i] else []:=by
   rw [yBH,List.filter_append]
   congr 1
   rw [List.filter_cons]
   rfl
  walk_at "rd"
  refine ZAY (SqL.of hl1) ap (ZAY (SqL.of bp) (ZCq hit) ⟨_,rfl,?_⟩)
  cases h1:m p i
  .rw [if_pos rfl]
   refine ZAY (SqL.of hl1) ai (ZAY (SqL.of bi) (ZCq hq) ⟨_,rfl,?_⟩)
   cases h2:m i q'
   .walk_at "rd"
    refine Nxt.of hi ⟨_,rfl,rfl,?_⟩
    rw [ef,h1,h2,yAW];rfl
   .walk_at "rd"
    refine Nxt.of hi ⟨_,rfl,rfl,?_⟩
    rw [ef,h1,h2,yAW];exact (List.append_nil _).symm
  .rw [if_neg (by decide)]
   refine Nxt.of hi ⟨_,rfl,rfl,?_⟩
   rw [ef,h1,yAW];exact (List.append_nil _).symm
 rintro ys σ H' ⟨v,rfl,rfl,rfl⟩ l2 hl2
 rw [hrn]
 exact q l2 _ (s1.trans (ZAL hl2 _)) (s1.free hl2) ZAG
theorem ok_flaw_of_two {f:Addr} {fd:FuncData} (F:Fun K "flaw_of_two" "flaw_of_two" ZBG f fd) (T:Bt K mg C_KeyRule C_NearRule C_RingRule C_TableRule C_VoteRule C_ChainRule C_AskedRule)
  (f_odd_thirds:Fn P w K mg base CX0 "odd_thirds" 2 ["pairs","p","q"] (ZDe))
 :FnOk P w K mg base CX0 3 f fd ["pairs","p","q"] (ZEP):=by
 refine F.ok sc_flaw_of_two (fun vs H Q E h=>?_) (fun cdv A outer s H vs Q E hr h=>?_)
 .obtain ⟨l,p,q',n,m,rfl,hM,hn,hp,hq,hpq,q1,q2⟩:=h
  rfl
 obtain ⟨l,p,q',n,m,rfl,hM,hn,hp,hq,hpq,q1,q2⟩:=h
 refine ⟨_,(ZAD (ZA0 (ZAQ ZBR (pv 1) (pv 2) (ZAI _))
  (ZAF (ZAR (ZB2 (ZAA ZBh (ZAA ZBh (ZAA (ZB2 (ZAA (pv 1) (ZAA (pv 1) (ZAA (pv 1) ZAC)))) ZAC)))))) ZAV)
  (ZAD (ZA0 (ZBZ (ZAS ZAU (ZAS ZAU (pv 0) (pv 2) (fun _ _=>rfl)) (pv 1) (fun _ _=>rfl)))
  (ZAF (ZAR (ZB2 (ZAA ZBh (ZAA ZBh (ZAA (ZB2 (ZAA (pv 1) (ZAA (pv 2) (ZAA (pv 1) ZAC)))) ZAC)))))) ZAV)
  (ZAD (ZAa (i:=3) sc_flaw_of_two.nd rfl (by walk_at "o") (ZAm f_odd_thirds (hr.mono (by decide)) rfl ZAW (ZAA (pv 0) (ZAA (pv 1) (ZAA (pv 2) ZAC)))))
  (ZAF (ZAR (ZDJ (pt_lst (pv 3)) (ZB2 (ZAA ZBh (ZAA ZBh (ZAA (ZB2 (ZAA (pv 1) (ZAA (pv 2) (ZAA (ZAS ZAU (pv 3) ZAE (fun _ _=>rfl)) ZAC)))) ZAC)))) ZDs)))))),?_⟩
 walk_at "rd"
 have mk:∀ (G:Hp) (w:Str) (a b c:Nat),Same H G->Flw n m w a b c->3 <= sizeLine /\ ∀ t3,G t3=none->3 <= sizeLine /\ ∀ t,upd G t3 (.tup [.int a,.int b,.int c]) t=none->Q (.ref t) (upd (upd G t3 (.tup [.int a,.int b,.int c])) t (.tup [.str (Str.ofString "flaw"),.str w,.ref t3])):=fun G w a b c sG hF=>⟨ZAv (by decide),fun t3 h3=>⟨ZAv (by decide),fun t ht=>q1 t _ (sG.trans ((ZAL h3 _).trans (ZAL ht _))) ⟨t3,w,a,b,c,ZAG,ZAL ht _ _ _ ZAG,hF⟩⟩⟩
 by_cases e:p=q'
 .rw [if_pos (by omega)]
  subst e
  exact mk H _ p p p (.refl _) ⟨hp,hp,hp,hpq,.inl ⟨rfl,rfl,rfl⟩⟩
 rw [if_neg (by omega)]
 obtain ⟨rs,hl,hrl,hm⟩:=id hM
 obtain ⟨r,hr1,hr2⟩:=hm q' hq
 refine ZAY (SqL.of hl) (ZAb (by omega) (by rw [Int.toNat_natCast];exact hr1)) (ZAY (SqL.of hr2) (ZCq hp) ⟨_,rfl,?_⟩)
 cases hk:m q' p
 .rw [if_neg (by decide)]
  refine ⟨l,p,q',n,m,rfl,hM,hn,hp,hq,fun l2 H2 s2 hn2 h2=>⟨l2,_,rfl,SqL.of h2,?_⟩⟩
  rcases ht:(List.range n).filter (fun r=>!m p r && !m r q') with _ | ⟨t0,ts⟩
  .rw [if_neg (by decide)]
   refine q2 (fun z=>?_) _ s2
   rcases z.2 with z | z | ⟨x,hx,z1,z2⟩
   .exact e z
   .rw [hk] at z;cases z
   .have:x∈(List.range n).filter (fun r=>!m p r && !m r q'):=List.mem_filter.mpr ⟨yBB.mpr hx,by rw [z1,z2];rfl⟩
    rw [ht] at this;cases this
  .rw [if_pos (show (List.map (fun r=>V.int ((r:Nat):Int)) (t0::ts)).isEmpty=false from rfl)]
   rw [ht] at h2
   have hm0:t0∈(List.range n).filter (fun r=>!m p r && !m r q'):=by rw [ht];exact yAP
   obtain ⟨h1,hb⟩:=List.mem_filter.mp hm0
   have ht0:=yBB.mp h1
   rw [Bool.and_eq_true,Bool.not_eq_true',Bool.not_eq_true'] at hb
   refine ZAY (SqL.of h2) (ZAb (by decide) rfl) ?_
   refine mk H2 _ p q' t0 s2 ⟨hp,hq,ht0,hpq,.inr (.inr ⟨rfl,e,fun z=>?_,fun z=>?_,hb.1,hb.2⟩)⟩
   .rw [<- z,hpq] at hb;cases hb.1
   .rw [<- z,hpq] at hb;cases hb.2
 .rw [if_pos rfl]
  exact mk H _ p q' p (.refl _) ⟨hp,hq,hp,hpq,.inr (.inl ⟨rfl,e,rfl,hk⟩)⟩
theorem ok_flaw_of {f:Addr} {fd:FuncData} (F:Fun K "flaw_of" "flaw_of" ZBp f fd) (T:Bt K mg C_KeyRule C_NearRule C_RingRule C_TableRule C_VoteRule C_ChainRule C_AskedRule)
  (f_flaw_of_two:Fn P w K mg base CX0 "flaw_of_two" 3 ["pairs","p","q"] (ZEP))
 :FnOk P w K mg base CX0 4 f fd ["pairs"] (ZD8):=by
 refine F.ok sc_flaw_of (fun vs H Q E h=>?_) (fun cdv A outer s H vs Q E hr h=>?_)
 .obtain ⟨l,n,m,rfl,hM,hn,hA,q⟩:=h
  rfl
 obtain ⟨l,n,m,rfl,hM,hn,hA,q⟩:=h
 refine ⟨_,(ZAD (ZBT PassesOwn.never rfl (ZDH rfl T.b_enumerate (ZAA (pv 0) ZAC)) (ZCc (n:=2) rfl (ZA1 (ZAK (i:=1) sc_flaw_of.nd rfl (by walk_at "o")) (ZA1 (ZAK (i:=2) sc_flaw_of.nd rfl (by walk_at "o")) ZB6)))
  (ZAF (ZBT PassesOwn.never rfl (ZDH rfl T.b_enumerate (ZAA (pv 2) ZAC)) (ZCc (n:=2) rfl (ZA1 (ZAK (i:=3) sc_flaw_of.nd rfl (by walk_at "o")) (ZA1 (ZAK (i:=4) sc_flaw_of.nd rfl (by walk_at "o")) ZB6)))
  (ZAD (ZAa (i:=5) sc_flaw_of.nd rfl (by walk_at "o") (ZDJ (ZBZ (pv 4)) (ZAm f_flaw_of_two (hr.mono (by decide)) rfl ZAW (ZAA (pv 0) (ZAA (pv 1) (ZAA (pv 3) ZAC)))) ZDs))
  (ZAF (ZA0 (ZAQ op_notN (pv 5) ZDs (ZAI _))
  (ZAF (ZAR (pv 5))) ZAV))))))
  (ZAF (ZAR ZDs))),?_⟩
 walk_at "rd"
 obtain ⟨rs,hl,hrl,hm⟩:=id hM
 refine ZDQ (SqL.of hl) (fun i σ H'=>∃ v1 v2 v3 v4 v5,σ=[some (.ref l),v1,v2,v3,v4,v5] /\ Same H H' /\ ∀ p,p < i->∀ q,q < n->¬ Fl2 n m p q) ⟨_,_,_,_,_,rfl,.refl _,fun p h=>by omega⟩ (fun i σ H' _ h=>by obtain ⟨_,_,_,_,_,_,e,_⟩:=h;exact SqL.of (e _ _ hl)) ?_ ?_
 .rintro i x σ H' p hx ⟨v1,v2,v3,v4,v5,rfl,sA,hpre⟩ hp
  have hi:i < n:=by rw [<- hrl];exact (yAE.mp hx).1
  obtain ⟨r,hr1,hr2⟩:=hm i hi
  rw [hx] at hr1;cases hr1
  refine ZB8 (SqT.of ZAG) rfl ?_
  have sB:=sA.new hp (o:=.tup [.int i,.ref r])
  generalize upd H' p (.tup [.int i,.ref r])=H2 at sB ⊢
  walk_at "rd"
  refine ZDQ (SqL.of (sB _ _ hr2)) (fun j σ H'=>∃ v3 v4 v5,σ=[some (.ref l),some (.int i),some (.ref r),v3,v4,v5] /\ Same H H' /\ ∀ q,q < j->¬ Fl2 n m i q) ⟨_,_,_,rfl,sB,fun q h=>by omega⟩ (fun j σ H' _ h=>by obtain ⟨_,_,_,_,e,_⟩:=h;exact SqL.of (e _ _ hr2)) ?_ ?_
  .rintro j y σ H3 p2 hy ⟨v3,v4,v5,rfl,sC,hpj⟩ hp2
   have hj:j < n:=by have:=(yAE.mp hy).1;rw [yAB,yAL] at this;exact this
   rw [yAJ,yBD hj] at hy
   cases hy
   refine ZB8 (SqT.of ZAG) rfl ?_
   have sD:=sC.new hp2 (o:=.tup [.int j,.bl (m i j)])
   generalize upd H3 p2 (.tup [.int j,.bl (m i j)])=H4 at sD ⊢
   walk_at "rd"
   have nx:¬ Fl2 n m i j->∀ q,q < j+1->¬ Fl2 n m i q:=fun h q hq=>by
    by_cases hqj:q < j
    .exact hpj q hqj
    .rw [show q=j by omega];exact h
   cases hk:m i j
   .rw [if_neg (by decide),if_neg (fun z=>z trivial)]
    exact ⟨_,_,_,rfl,sD,nx fun z=>by have:=z.1;rw [hk] at this;cases this⟩
   .rw [if_pos rfl]
    refine ⟨l,i,j,n,m,rfl,hM.mono sD,hn,hi,hj,hk,fun t H5 s5 hF=>?_,fun hno H5 s5=>?_⟩
    .dsimp only
     rw [if_pos (show ¬ (V.ref t=.non) from fun z=>by cases z)]
     exact q t H5 (sD.trans s5) hF
    .dsimp only
     rw [if_neg (show ¬ ¬ (V.non=.non) from fun z=>z rfl)]
     exact ⟨_,_,_,rfl,sD.trans s5,nx hno⟩
  .rintro σ H3 ⟨v3,v4,v5,rfl,sC,hpj⟩
   rw [yAB,yAL] at hpj
   refine ⟨_,_,_,_,_,rfl,sC,fun p' hp'=>?_⟩
   by_cases hpi:p' < i
   .exact hpre p' hpi
   .rw [show p'=i by omega];exact hpj
 rintro σ H' ⟨v1,v2,v3,v4,v5,rfl,sA,hpre⟩
 rw [hrl] at hpre
 exact absurd (ranks_of hpre) hA
theorem ok_check_at {f:Addr} {fd:FuncData} (F:Fun K "check_at" "check_at" ZBf f fd) (T:Bt K mg C_KeyRule C_NearRule C_RingRule C_TableRule C_VoteRule C_ChainRule C_AskedRule)
 :FnOk P w K mg base CX0 1 f fd ["at"] (ZCV):=by
 refine F.ok sc_check_at (fun vs H Q E h=>?_) (fun cdv A outer s H vs Q E hr h=>?_)
 .obtain ⟨i,rfl,h0,h7,q⟩:=h
  rfl
 obtain ⟨i,rfl,h0,h7,q⟩:=h
 refine ⟨_,(ZAF (ZA0 (PW.pt (ZCx (ZAQ ZB3 (pv 0) ZAE (ZAI _)) (ZCr (ZAQ ZCy (pv 0) (pe_gint rfl T.c_GREATEST_AT) (ZAI _)))))
  (ZAF (ZCP)) ZAV)),?_⟩
 walk_at "rd"
 rw [if_neg (by omega),if_neg (by omega)]
 exact q
theorem ok_check_column {f:Addr} {fd:FuncData} (F:Fun K "check_column" "check_column" ZBC f fd) (T:Bt K mg C_KeyRule C_NearRule C_RingRule C_TableRule C_VoteRule C_ChainRule C_AskedRule)
  (f_check_at:Fn P w K mg base CX0 "check_at" 1 ["at"] (ZCV))
 :FnOk P w K mg base CX0 2 f fd ["at","way"] (ZCU):=by
 refine F.ok sc_check_column (fun vs H Q E h=>?_) (fun cdv A outer s H vs Q E hr h=>?_)
 .obtain ⟨i,u,rfl,h0,h7,q⟩:=h
  rfl
 obtain ⟨i,u,rfl,h0,h7,q⟩:=h
 refine ⟨_,(ZAD (ZBW (ZAm f_check_at (hr.mono (by decide)) rfl ZAW (ZAA (pv 0) ZAC)))
  (ZAF (ZA0 (PW.pt (ZEA (ZAQ ZCt (pv 1) (ZDk rfl T.c_UP) (ZAI _)) (ZDj (ZAQ ZCt (pv 1) (ZDk rfl T.c_DOWN) (ZAI _)))))
  (ZAF (ZCP)) ZAV))),?_⟩
 walk_at "rd"
 refine ⟨i,rfl,h0,h7,?_⟩
 walk_at "rd"
 split
 .rename_i h1
  rw [if_neg (fun h2=>(wayS_ok u).elim h1 h2)]
  exact q
 .exact q
theorem ok_KeyRule_init {f:Addr} {fd:FuncData} (F:Fun K "__init__" "KeyRule.__init__" ZBD f fd) (T:Bt K mg C_KeyRule C_NearRule C_RingRule C_TableRule C_VoteRule C_ChainRule C_AskedRule)
  (f_check_column:Fn P w K mg base CX0 "check_column" 2 ["at","way"] (ZCU))
 :FnOk P w K mg base CX0 3 f fd ["self","columns"] (ZCN K C_KeyRule):=by
 refine F.ok sc_KeyRule_init (fun vs H Q E h=>?_) (fun cdv A outer s H vs Q E hr h=>?_)
 .obtain ⟨p,dx,c,xs,cols,rfl,hp,hc,hd,hb,q⟩:=h
  rfl
 obtain ⟨p,dx,c,xs,cols,rfl,hp,hc,hd,hb,q⟩:=h
 refine ⟨_,(ZAD (ZBT PassesOwn.never rfl (ZAu (pv 1)) (ZCc (n:=2) rfl (ZA1 (ZAK (i:=2) sc_KeyRule_init.nd rfl (by walk_at "o")) (ZA1 (ZAK (i:=3) sc_KeyRule_init.nd rfl (by walk_at "o")) ZB6)))
  (ZAF (ZBW (ZAm f_check_column (hr.mono (by decide)) rfl ZAW (ZAA (pv 2) (ZAA (pv 3) ZAC))))))
  (ZAF (ZCH (pv 0) (ZBQ ZBY rfl T.b_list PyProof.Rows.boot_list (ZAA (pv 1) ZAC)) rfl))),?_⟩
 walk_at "rd"
 refine ZCb hc (fun i σ H'=>H'=H /\ ∃ v2 v3,σ=[some (.ref p),some (.ref c),v2,v3]) ⟨rfl,_,_,rfl⟩ (fun i σ H' _ h=>by rw [h.1];exact hc) ?_ ?_
 .rintro i x σ H' hx ⟨rfl,v2,v3,rfl⟩
  obtain ⟨c',t,ec,rfl,ht⟩:=ZC6 hd hx
  have hb':=hb c' (yAC ec)
  refine ZB8 ht rfl ?_
  walk_at "rd"
  exact ⟨c'.1,c'.2,rfl,hb'.1,hb'.2,rfl,_,_,rfl⟩
 .rintro σ H' ⟨rfl,v2,v3,rfl⟩
  walk_at "rd"
  refine ⟨c,xs,rfl,.inl hc,fun l hl=>?_⟩
  exact setF_of (ZCk hl hp) T.cl_KeyRule T.n_KeyRule_columns (by decide) (q l hl)
theorem ok_KeyRule_before {f:Addr} {fd:FuncData} (F:Fun K "before" "KeyRule.before" ZAx f fd) (T:Bt K mg C_KeyRule C_NearRule C_RingRule C_TableRule C_VoteRule C_ChainRule C_AskedRule)
 :FnOk P w K mg base CX0 1 f fd ["self","x","y"] (ZBU K C_KeyRule):=by
 refine F.ok sc_KeyRule_before (fun vs H Q E h=>?_) (fun cdv A outer s H vs Q E hr h=>?_)
 .obtain ⟨p,dx,c,x,y,xs,cols,xi,yi,rfl,hp,hc,hd,hx,hy,hb,q⟩:=h
  rfl
 obtain ⟨p,dx,c,x,y,xs,cols,xi,yi,rfl,hp,hc,hd,hx,hy,hb,q⟩:=h
 refine ⟨_,(ZAD (ZBT PassesOwn.never rfl (ZAu (ZBi (pv 0) rfl)) (ZCc (n:=2) rfl (ZA1 (ZAK (i:=3) sc_KeyRule_before.nd rfl (by walk_at "o")) (ZA1 (ZAK (i:=4) sc_KeyRule_before.nd rfl (by walk_at "o")) ZB6)))
  (ZAF (ZA0 (ZAQ ZCt (ZAS ZA2 (pv 1) (pv 3) (fun _ _=>rfl)) (ZAS ZA2 (pv 2) (pv 3) (fun _ _=>rfl)) (ZAI _))
  (ZAF (ZAR (ZDJ (ZAQ ZBR (pv 4) (ZDk rfl T.c_UP) (ZAI _)) (ZAo ZB3 (ZAS ZA2 (pv 1) (pv 3) (fun _ _=>rfl)) (ZAS ZA2 (pv 2) (pv 3) (fun _ _=>rfl)) (ZAI _)) (ZAo ZCy (ZAS ZA2 (pv 1) (pv 3) (fun _ _=>rfl)) (ZAS ZA2 (pv 2) (pv 3) (fun _ _=>rfl)) (ZAI _))))) ZAV)))
  (ZAF (ZAR ZCG))),?_⟩
 walk_at "rd"
 refine getF_of hp T.cl_KeyRule T.n_KeyRule_columns putF1 ?_
 refine ZCb hc (fun i σ H'=>H'=H /\ keyB cols xi yi=keyB (cols.drop i) xi yi /\ ∃ v3 v4,σ=[some (.ref p),some (.ref x),some (.ref y),v3,v4]) ⟨rfl,rfl,_,_,rfl⟩ (fun i σ H' _ h=>by rw [h.1];exact hc) ?_ ?_
 .rintro i v σ H' hv ⟨rfl,ek,v3,v4,rfl⟩
  obtain ⟨c',t,ec,rfl,ht⟩:=ZC6 hd hv
  obtain ⟨h0,hxl,hyl⟩:=hb c' (yAC ec)
  have ax:=ZAg h0 (ZBL h0 hxl)
  have ay:=ZAg h0 (ZBL h0 hyl)
  rw [keyB_drop ec] at ek
  refine ZB8 ht rfl ?_
  walk_at "rd"
  refine ZAq hx ax (ZAq hy ay ?_)
  walk_at "rd"
  split
  .rename_i hne
   rw [if_neg hne] at ek
   split
   .rename_i hu
    rw [if_pos (wayS_up.mp hu)] at ek
    refine ZAq hx ax (ZAq hy ay ?_)
    walk_at "rd"
    rw [<- ek]
    exact q
   .rename_i hu
    rw [if_neg (fun z=>hu (wayS_up.mpr z))] at ek
    refine ZAq hx ax (ZAq hy ay ?_)
    walk_at "rd"
    rw [<- ek]
    exact q
  .rename_i he
   rw [if_pos (Decidable.of_not_not he)] at ek
   exact ⟨ek,_,_,rfl⟩
 .rintro σ H' ⟨rfl,ek,v3,v4,rfl⟩
  have hl:xs.length=cols.length:=by rw [hd.length,yAB]
  rw [hl,List.drop_length] at ek
  walk_at "rd"
  rw [show false=keyB cols xi yi by rw [ek];rfl]
  exact q
theorem ok_NearRule_init {f:Addr} {fd:FuncData} (F:Fun K "__init__" "NearRule.__init__" ZA7 f fd) (T:Bt K mg C_KeyRule C_NearRule C_RingRule C_TableRule C_VoteRule C_ChainRule C_AskedRule)
  (f_check_at:Fn P w K mg base CX0 "check_at" 1 ["at"] (ZCV))
 :FnOk P w K mg base CX0 2 f fd ["self","at","gap"] (ZCB C_NearRule):=by
 refine F.ok sc_NearRule_init (fun vs H Q E h=>?_) (fun cdv A outer s H vs Q E hr h=>?_)
 .obtain ⟨x,dx,a,gp,rfl,hx,h0,h7,hg,q⟩:=h
  rfl
 obtain ⟨x,dx,a,gp,rfl,hx,h0,h7,hg,q⟩:=h
 refine ⟨_,(ZAD (ZBW (ZAm f_check_at (hr.mono (by decide)) rfl ZAW (ZAA (pv 1) ZAC)))
  (ZAD (ZA0 (ZAQ ZB3 (pv 2) ZAE (ZAI _))
  (ZAF (ZCP)) ZAV)
  (ZAD (ZCH (pv 0) (pv 1) rfl)
  (ZAF (ZCH (pv 0) (pv 2) rfl))))),?_⟩
 walk_at "rd"
 refine ⟨a,rfl,h0,h7,?_⟩
 dsimp only
 rw [if_neg (by omega)]
 refine setX hx T.cl_NearRule T.n_NearRule_at (by decide) fun H2 x2 k2=>?_
 walk_at "rd"
 refine setX x2 T.cl_NearRule T.n_NearRule_gap ZDz fun H3 x3 k3=>?_
 exact q H3 (fun b o n e=>by rw [k3 b n,k2 b n];exact e) ((Ins.of x3 (yAF ZER (by decide))).congr fun f=>by simp only [ZA3,lkc])
theorem ok_NearRule_before {f:Addr} {fd:FuncData} (F:Fun K "before" "NearRule.before" ZAk f fd) (T:Bt K mg C_KeyRule C_NearRule C_RingRule C_TableRule C_VoteRule C_ChainRule C_AskedRule)
 :FnOk P w K mg base CX0 1 f fd ["self","x","y"] (ZBA K C_NearRule):=by
 refine F.ok sc_NearRule_before (fun vs H Q E h=>?_) (fun cdv A outer s H vs Q E hr h=>?_)
 .obtain ⟨p,x,y,a,gp,xi,yi,rfl,hp,hx,hy,h0,h1,h2,q⟩:=h
  rfl
 obtain ⟨p,x,y,a,gp,xi,yi,rfl,hp,hx,hy,h0,h1,h2,q⟩:=h
 refine ⟨_,(ZAF (ZAR (ZAo ZCy (ZAM ZCR (ZAS ZA2 (pv 2) (ZBi (pv 0) rfl) (fun _ _=>rfl)) (ZAS ZA2 (pv 1) (ZBi (pv 0) rfl) (fun _ _=>rfl))) (ZBi (pv 0) rfl) (ZAI _)))),?_⟩
 walk_at "rd"
 refine hp.get T.cl_NearRule T.n_NearRule_at (by walk_at "lk") (ZAq hy (ZAg h0 (ZBL h0 h2)) ?_)
 refine hp.get T.cl_NearRule T.n_NearRule_at (by walk_at "lk") (ZAq hx (ZAg h0 (ZBL h0 h1)) ?_)
 walk_at "rd"
 refine hp.get T.cl_NearRule T.n_NearRule_gap (by walk_at "lk") ?_
 walk_at "rd"
 exact q
theorem ok_RingRule_init {f:Addr} {fd:FuncData} (F:Fun K "__init__" "RingRule.__init__" ZA6 f fd) (T:Bt K mg C_KeyRule C_NearRule C_RingRule C_TableRule C_VoteRule C_ChainRule C_AskedRule)
  (f_check_at:Fn P w K mg base CX0 "check_at" 1 ["at"] (ZCV))
 :FnOk P w K mg base CX0 2 f fd ["self","at","size"] (ZCT C_RingRule):=by
 refine F.ok sc_RingRule_init (fun vs H Q E h=>?_) (fun cdv A outer s H vs Q E hr h=>?_)
 .obtain ⟨x,dx,a,gp,rfl,hx,h0,h7,hg,q⟩:=h
  rfl
 obtain ⟨x,dx,a,gp,rfl,hx,h0,h7,hg,q⟩:=h
 refine ⟨_,(ZAD (ZBW (ZAm f_check_at (hr.mono (by decide)) rfl ZAW (ZAA (pv 1) ZAC)))
  (ZAD (ZA0 (ZAQ ZB3 (pv 2) ZAE (ZAI _))
  (ZAF (ZCP)) ZAV)
  (ZAD (ZCH (pv 0) (pv 1) rfl)
  (ZAF (ZCH (pv 0) (pv 2) rfl))))),?_⟩
 walk_at "rd"
 refine ⟨a,rfl,h0,h7,?_⟩
 dsimp only
 rw [if_neg (by omega)]
 refine setX hx T.cl_RingRule T.n_RingRule_at (by decide) fun H2 x2 k2=>?_
 walk_at "rd"
 refine setX x2 T.cl_RingRule T.n_RingRule_size ZDz fun H3 x3 k3=>?_
 exact q H3 (fun b o n e=>by rw [k3 b n,k2 b n];exact e) ((Ins.of x3 (yAF ZER (by decide))).congr fun f=>by simp only [ZA3,lkc])
theorem ok_RingRule_before {f:Addr} {fd:FuncData} (F:Fun K "before" "RingRule.before" ZAj f fd) (T:Bt K mg C_KeyRule C_NearRule C_RingRule C_TableRule C_VoteRule C_ChainRule C_AskedRule)
 :FnOk P w K mg base CX0 1 f fd ["self","x","y"] (ZA9 K C_RingRule):=by
 refine F.ok sc_RingRule_before (fun vs H Q E h=>?_) (fun cdv A outer s H vs Q E hr h=>?_)
 .obtain ⟨p,x,y,a,sz,xi,yi,rfl,hp,hx,hy,h0,h1,h2,hsz,q⟩:=h
  rfl
 obtain ⟨p,x,y,a,sz,xi,yi,rfl,hp,hx,hy,h0,h1,h2,hsz,q⟩:=h
 refine ⟨_,(ZAD (ZAa (i:=3) sc_RingRule_before.nd rfl (by walk_at "o") (ZAM ZAp (ZAM ZCR (ZAS ZA2 (pv 2) (ZBi (pv 0) rfl) (fun _ _=>rfl)) (ZAS ZA2 (pv 1) (ZBi (pv 0) rfl) (fun _ _=>rfl))) (ZBi (pv 0) rfl)))
  (ZAF (ZAR (ZBt (ZAo ZCy (pv 3) ZAE (ZAI _)) (ZCd (ZAo ZB3 (ZAM ZBa ZAE (pv 3)) (ZBi (pv 0) rfl) (ZAI _))))))),?_⟩
 walk_at "rd"
 refine hp.get T.cl_RingRule T.n_RingRule_at (by walk_at "lk") (ZAq hy (ZAg h0 (ZBL h0 h2)) ?_)
 refine hp.get T.cl_RingRule T.n_RingRule_at (by walk_at "lk") (ZAq hx (ZAg h0 (ZBL h0 h1)) ?_)
 walk_at "rd"
 refine hp.get T.cl_RingRule T.n_RingRule_size (by walk_at "lk") ?_
 walk_at "rd"
 refine ⟨by omega,?_⟩
 unfold ZDy at q
 by_cases h:0 < (at0 yi a-at0 xi a) % sz
 .rw [if_pos h]
  rw [decide_eq_true h] at q
  refine ⟨.inl ⟨by decide,by decide⟩,hp.get T.cl_RingRule T.n_RingRule_size (by walk_at "lk") ?_⟩
  walk_at "rd"
  exact q
 .rw [if_neg h]
  rw [decide_eq_false h] at q
  exact q
theorem ok_TableRule_init {f:Addr} {fd:FuncData} (F:Fun K "__init__" "TableRule.__init__" ZAw f fd) (T:Bt K mg C_KeyRule C_NearRule C_RingRule C_TableRule C_VoteRule C_ChainRule C_AskedRule)
  (f_check_at:Fn P w K mg base CX0 "check_at" 1 ["at"] (ZCV))
 :FnOk P w K mg base CX0 2 f fd ["self","at","table"] (ZCm C_TableRule):=by
 refine F.ok sc_TableRule_init (fun vs H Q E h=>?_) (fun cdv A outer s H vs Q E hr h=>?_)
 .obtain ⟨x,dx,l,n,m,rfl,hx,hM,hn,q⟩:=h
  rfl
 obtain ⟨x,dx,l,n,m,rfl,hx,hM,hn,q⟩:=h
 refine ⟨_,(ZAD (ZBW (ZAm f_check_at (hr.mono (by decide)) rfl ZAW (ZAA (pv 1) ZAC)))
  (ZAD (ZBT PassesOwn.never rfl (ZAu (pv 2)) (ZAK (i:=3) sc_TableRule_init.nd rfl (by walk_at "o"))
  (ZAF (ZA0 (ZAQ ZCt (ZAX ZAP rfl T.b_len PySem.boot_len (ZAA (pv 3) ZAC)) (ZAX ZAP rfl T.b_len PySem.boot_len (ZAA (pv 2) ZAC)) (ZAI _))
  (ZAF (ZCP)) ZAV)))
  (ZAD (ZCH (pv 0) (pv 1) rfl)
  (ZAF (ZCH (pv 0) (ZBP rfl (k:=1) (js:=[]) (N':=["truths"]) (by rfl) (ZAu (pv 2)) (fun _ _ _ _=>ZAK (i:=0) (show (["truths"]:List Str).Nodup by decide +kernel) rfl (by walk_at "o")) (fun _ _ _ _=>ZAs) (fun _ _ _ _=>(ZBQ (call_list_ofK K) rfl T.b_list PyProof.Rows.boot_list (ZAA (pv 0) ZAC)))) rfl))))),?_⟩
 walk_at "rd"
 refine ⟨0,rfl,by decide,by decide,?_⟩
 obtain ⟨rs,hl,hrl,hm⟩:=id hM
 have hlx:l≠x:=fun z=>by rw [z,hx] at hl;cases hl
 walk_at "rd"
 refine ZCb (SqL.of hl) (fun i σ X=>∃ v,σ=[some (.ref x),some (.int 0),some (.ref l),v] /\ X=H) ⟨_,rfl,rfl⟩ (fun i σ X _ z=>?_) (fun i u σ X hu z=>?_) fun σ X z=>?_
 .obtain ⟨_,_,e⟩:=z
  rw [e];exact SqL.of hl
 .obtain ⟨v,rfl,rfl⟩:=z
  have hi:i < n:=by rw [<- hrl];exact (yAE.mp hu).1
  obtain ⟨r,hr1,hr2⟩:=hm i hi
  rw [hu] at hr1
  cases hr1
  walk_at "rd"
  refine ⟨r,_,rfl,.inl (SqL.of hr2),l,_,rfl,.inl (SqL.of hl),?_⟩
  rw [yAB,yAL,hrl,if_neg (fun z=>z rfl)]
  exact ⟨_,rfl,trivial⟩
 obtain ⟨v,rfl,rfl⟩:=z
 walk_at "rd"
 refine setX hx T.cl_TableRule T.n_TableRule_at (by decide) fun H2 x2 k2=>?_
 walk_at "rd"
 have hl2:H2 l=some (.lst rs):=by rw [k2 l hlx];exact hl
 have hm2:∀ p,p < n->∃ r,rs[p]?=some (V.ref r) /\ H2 r=some (.lst ((List.range n).map fun q=>V.bl (m p q))):=fun p hp=>by
  obtain ⟨r,a,b⟩:=hm p hp
  exact ⟨r,a,by rw [k2 r (fun z=>by rw [z,hx] at b;cases b)];exact b⟩
 refine ZBI (SqL.of hl2) (by omega) (fun i ys σ X=>∃ v,σ=[v] /\ Same H2 X /\ ys.length=i /\ ∀ p,p < i->∃ r,ys[p]?=some (V.ref r) /\ X r=some (.lst ((List.range n).map fun q=>V.bl (m p q)))) ⟨_,rfl,.refl _,rfl,fun p h=>by omega⟩ (fun i ys σ X _ z=>?_) (fun i ys u σ X hi hu z=>?_) fun ys σ X z p2 hp2=>?_
 .obtain ⟨_,_,e,e2,_⟩:=z
  exact ⟨SqL.of (e _ _ hl2),Nat.le_of_eq e2⟩
 .obtain ⟨v,rfl,sX,hyl,hall⟩:=z
  obtain ⟨r,hr1,hr2⟩:=hm2 i (by omega)
  rw [hu] at hr1
  cases hr1
  walk_at "rd"
  refine ⟨r,_,rfl,.inl (SqL.of (sX _ _ hr2)),fun r2 hr2'=>.of hi ⟨_,rfl,sX.trans (ZAL hr2' _),by rw [yAD,hyl];rfl,fun p hp=>?_⟩⟩
  by_cases hpi:p < i
  .obtain ⟨r3,a,b⟩:=hall p hpi
   exact ⟨r3,by rw [yAN (by omega)];exact a,ZAL hr2' _ _ _ b⟩
  .rw [show p=i by omega]
   exact ⟨r2,by rw [<- hyl,yAS (yAA _),yAV];rfl,ZAG⟩
 obtain ⟨v,rfl,sX,hyl,hall⟩:=z
 have sY:=sX.trans (ZAL hp2 (.lst ys))
 have x3:=sY _ _ x2
 refine setX x3 T.cl_TableRule T.n_TableRule_table ZDz fun H3 x4 k3=>?_
 have nx:∀ b o,upd X p2 (.lst ys) b=some o->(∀ C d f,o≠.ins C d f)->H3 b=some o:=fun b o e hno=>by
  rw [k3 b (fun z=>by rw [z,x3] at e;cases e;exact hno _ _ _ rfl)];exact e
 refine q p2 H3 (fun b o nb e=>?_) ⟨ys,nx _ _ ZAG (fun _ _ _ z=>by cases z),by rw [hyl,hrl],fun p hp=>?_⟩ ((Ins.of x4 (yAF ZER (by decide))).congr fun f=>by simp only [ZA3,lkc])
 .rw [k3 b nb]
  exact sY _ _ (by rw [k2 b nb];exact e)
 .obtain ⟨r,a,b⟩:=hall p (by omega)
  exact ⟨r,a,nx _ _ (ZAL hp2 _ _ _ b) (fun _ _ _ z=>by cases z)⟩
theorem ok_TableRule_before {f:Addr} {fd:FuncData} (F:Fun K "before" "TableRule.before" ZAc f fd) (T:Bt K mg C_KeyRule C_NearRule C_RingRule C_TableRule C_VoteRule C_ChainRule C_AskedRule)
 :FnOk P w K mg base CX0 1 f fd ["self","x","y"] (ZBx K C_TableRule):=by
 refine F.ok sc_TableRule_before (fun vs H Q E h=>?_) (fun cdv A outer s H vs Q E hr h=>?_)
 .obtain ⟨r,x,y,l,n',n,m,xi,yi,i,j,rfl,hI,hM,hx,hy,hxi,hyj,hi,hj,q⟩:=h
  rfl
 obtain ⟨r,x,y,l,n',n,m,xi,yi,i,j,rfl,hI,hM,hx,hy,hxi,hyj,hi,hj,q⟩:=h
 refine ⟨_,(ZAF (ZAR (ZAS ZAU (ZAS ZAU (ZBi (pv 0) rfl) (ZAS ZA2 (pv 1) (ZBi (pv 0) rfl) (fun _ _=>rfl)) (fun _ _=>rfl)) (ZAS ZA2 (pv 2) (ZBi (pv 0) rfl) (fun _ _=>rfl)) (fun _ _=>rfl)))),?_⟩
 walk_at "rd"
 obtain ⟨rs,hl,hrl,hm⟩:=id hM
 obtain ⟨rr,hr1,hr2⟩:=hm i hi
 refine hI.get T.cl_TableRule T.n_TableRule_table (by walk_at "lk") ?_
 refine hI.get T.cl_TableRule T.n_TableRule_at (by walk_at "lk") ?_
 refine ZAq hx (ZAg (i:=0) (by decide) hxi) ?_
 refine ZAY (SqL.of hl) (ZAb (by omega) (by rw [Int.toNat_natCast];exact hr1)) ?_
 refine hI.get T.cl_TableRule T.n_TableRule_at (by walk_at "lk") ?_
 refine ZAq hy (ZAg (i:=0) (by decide) hyj) ?_
 exact ZAY (SqL.of hr2) (ZCq hj) q
theorem ok_VoteRule_init {f:Addr} {fd:FuncData} (F:Fun K "__init__" "VoteRule.__init__" ZA5 f fd) (T:Bt K mg C_KeyRule C_NearRule C_RingRule C_TableRule C_VoteRule C_ChainRule C_AskedRule)
 :FnOk P w K mg base CX0 1 f fd ["self","rules"] (ZCI C_VoteRule):=by
 refine F.ok sc_VoteRule_init (fun vs H Q E h=>?_) (fun cdv A outer s H vs Q E hr h=>?_)
 .obtain ⟨p,dx,c,xs,rfl,hp,hc,q⟩:=h
  rfl
 obtain ⟨p,dx,c,xs,rfl,hp,hc,q⟩:=h
 refine ⟨_,(ZAF (ZCH (pv 0) (ZBQ ZBY rfl T.b_list PyProof.Rows.boot_list (ZAA (pv 1) ZAC)) rfl)),?_⟩
 walk_at "rd"
 refine ⟨c,xs,rfl,.inl (SqL.of hc),fun l hl=>?_⟩
 refine setX (ZCk hl hp) T.cl_VoteRule T.n_VoteRule_rules (by decide) fun H2 x2 k2=>?_
 have hlp:l≠p:=fun z=>by rw [z,hp] at hl;cases hl
 exact q l H2 hl hlp (fun b o n e=>by rw [k2 b n,ZAO (ZAT e hl)];exact e) (by rw [k2 l hlp,ZAG]) ((Ins.of x2 (yAF ZDz (by decide))).congr fun f=>by simp only [ZA3,lkc])
theorem ok_VoteRule_before {f:Addr} {fd:FuncData} (F:Fun K "before" "VoteRule.before" ZAi f fd) (T:Bt K mg C_KeyRule C_NearRule C_RingRule C_TableRule C_VoteRule C_ChainRule C_AskedRule)
  (t_KeyRule_before:Mt P w K mg base CX0 C_KeyRule "before" 1 ["self","x","y"] (ZBU K C_KeyRule))
  (t_NearRule_before:Mt P w K mg base CX0 C_NearRule "before" 1 ["self","x","y"] (ZBA K C_NearRule))
  (t_RingRule_before:Mt P w K mg base CX0 C_RingRule "before" 1 ["self","x","y"] (ZA9 K C_RingRule))
 :FnOk P w K mg base CX0 2 f fd ["self","x","y"] (ZBn K C_KeyRule C_NearRule C_RingRule C_VoteRule):=by
 refine F.ok sc_VoteRule_before (fun vs H Q E h=>?_) (fun cdv A outer s H vs Q E hr h=>?_)
 .obtain ⟨r,x,y,ps,xi,yi,rfl,hv,hps,ok,hx,hy,lx,ly,q⟩:=h
  rfl
 obtain ⟨r,x,y,ps,xi,yi,rfl,hv,hps,ok,hx,hy,lx,ly,q⟩:=h
 refine ⟨_,(ZAD (ZBH (i:=3) sc_VoteRule_before.nd rfl (Or.inl rfl) rfl (k:=1) (js:=[1,2]) (N':=["rule","x","y"]) (by rfl) (ZAu (ZBi (pv 0) rfl)) (fun _ _ _ _=>ZAK (i:=0) (show (["rule","x","y"]:List Str).Nodup by decide +kernel) rfl (by walk_at "o")) (fun _ _ _ _=>(ZCQ (ZBZ (ZAn (ZBs t_KeyRule_before (hr.mono (by decide)) ZAW (pv 0) (ZAA (pv 1) (ZAA (pv 2) ZAC))) (ZAn (ZBs t_NearRule_before (hr.mono (by decide)) ZAW (pv 0) (ZAA (pv 1) (ZAA (pv 2) ZAC))) (ZBs t_RingRule_before (hr.mono (by decide)) ZAW (pv 0) (ZAA (pv 1) (ZAA (pv 2) ZAC)))))))) (fun _ _ _ _=>(pv 0)))
  (ZAD (ZBH (i:=4) sc_VoteRule_before.nd rfl (Or.inl rfl) rfl (k:=1) (js:=[2,1]) (N':=["rule","y","x"]) (by rfl) (ZAu (ZBi (pv 0) rfl)) (fun _ _ _ _=>ZAK (i:=0) (show (["rule","y","x"]:List Str).Nodup by decide +kernel) rfl (by walk_at "o")) (fun _ _ _ _=>(ZCQ (ZBZ (ZAn (ZBs t_KeyRule_before (hr.mono (by decide)) ZAW (pv 0) (ZAA (pv 1) (ZAA (pv 2) ZAC))) (ZAn (ZBs t_NearRule_before (hr.mono (by decide)) ZAW (pv 0) (ZAA (pv 1) (ZAA (pv 2) ZAC))) (ZBs t_RingRule_before (hr.mono (by decide)) ZAW (pv 0) (ZAA (pv 1) (ZAA (pv 2) ZAC)))))))) (fun _ _ _ _=>(pv 0)))
  (ZAF (ZAR (ZAo ZCy (ZAX ZAP rfl T.b_len PySem.boot_len (ZAA (pv 3) ZAC)) (ZAX ZAP rfl T.b_len PySem.boot_len (ZAA (pv 4) ZAC)) (ZAI _)))))),?_⟩
 walk_at "rd"
 obtain ⟨l,xs,hI,hl,hs⟩:=hv
 have hxl:=hs.len
 refine hI.get T.cl_VoteRule T.n_VoteRule_rules (by walk_at "lk") ?_
 refine ZBI (SqL.of hl) (by omega) (fun i ys σ X=>∃ v,σ=[v,some (.ref x),some (.ref y)] /\ X=H /\ ys.length=cnt (ps.take i) xi yi) ⟨_,rfl,rfl,rfl⟩ (fun i ys σ X _ z=>?_) (fun i ys u σ X hi hu z=>?_) fun ys σ X z p hp=>?_
 .obtain ⟨v,_,e,e2⟩:=z
  rw [e,e2]
  exact ⟨SqL.of hl,cnt_le _ _ _ _⟩
 .obtain ⟨v,rfl,rfl,e2⟩:=z
  obtain ⟨p,a,hp,rfl,ha⟩:=hs.at hu
  walk_at "rd"
  refine ZCp ha (ok p (yAC hp)) hx hy (lx p (yAC hp)) (ly p (yAC hp)) ⟨_,rfl,?_⟩
  have ec:=cnt_next xi yi hp
  cases hg:ZBO p xi yi
  .rw [hg] at ec
   rw [if_neg (by decide)]
   exact .of hi ⟨_,rfl,rfl,by rw [e2,ec];rfl⟩
  .rw [hg] at ec
   rw [if_pos rfl]
   exact .of hi ⟨_,rfl,rfl,by rw [yAD,e2,ec];rfl⟩
 obtain ⟨v,rfl,rfl,e2⟩:=z
 rw [hxl,List.take_of_length_le (yAA _)] at e2
 obtain ⟨X1,e1,s1,h1⟩:=newH hp (.lst ys)
 rw [e1];clear e1
 have hs1:=hs.mono s1
 have hl1:=s1 _ _ hl
 have hx1:=s1.seqT hx
 have hy1:=s1.seqT hy
 refine (hI.mono s1).get T.cl_VoteRule T.n_VoteRule_rules (by walk_at "lk") ?_
 refine ZBI (SqL.of hl1) (by omega) (fun i zs σ X=>∃ v,σ=[v,some (.ref y),some (.ref x)] /\ X=X1 /\ zs.length=cnt (ps.take i) yi xi) ⟨_,rfl,rfl,rfl⟩ (fun i zs σ X _ z=>?_) (fun i zs u σ X hi hu z=>?_) fun zs σ X z p2 hp2=>?_
 .obtain ⟨v,_,e,e2⟩:=z
  rw [e,e2]
  exact ⟨SqL.of hl1,cnt_le _ _ _ _⟩
 .obtain ⟨v,rfl,rfl,e2⟩:=z
  obtain ⟨p,a,hp,rfl,ha⟩:=hs1.at hu
  walk_at "rd"
  refine ZCp ha (ok p (yAC hp)) hy1 hx1 (ly p (yAC hp)) (lx p (yAC hp)) ⟨_,rfl,?_⟩
  have ec:=cnt_next yi xi hp
  cases hg:ZBO p yi xi
  .rw [hg] at ec
   rw [if_neg (by decide)]
   exact .of hi ⟨_,rfl,rfl,by rw [e2,ec];rfl⟩
  .rw [hg] at ec
   rw [if_pos rfl]
   exact .of hi ⟨_,rfl,rfl,by rw [yAD,e2,ec];rfl⟩
 obtain ⟨v,rfl,rfl,e3⟩:=z
 rw [hxl,List.take_of_length_le (yAA _)] at e3
 have s2:=ZAL hp2 (.lst zs)
 refine ⟨p,ys,rfl,.inl (SqL.of (s2 _ _ h1)),p2,zs,rfl,.inl (SqL.of ZAG),?_⟩
 rw [e2,e3]
 have:=q _ (s1.trans s2)
 rw [vts_cnt] at this
 rw [show decide ((cnt ps yi xi:Int) < (cnt ps xi yi:Int))=decide (0 < (cnt ps xi yi:Int)-(cnt ps yi xi:Int)) from decide_eq_decide.mpr (by omega)]
 exact this
theorem ok_ChainRule_init {f:Addr} {fd:FuncData} (F:Fun K "__init__" "ChainRule.__init__" ZAy f fd) (T:Bt K mg C_KeyRule C_NearRule C_RingRule C_TableRule C_VoteRule C_ChainRule C_AskedRule)
 :FnOk P w K mg base CX0 1 f fd ["self","rules"] (ZCI C_ChainRule):=by
 refine F.ok sc_ChainRule_init (fun vs H Q E h=>?_) (fun cdv A outer s H vs Q E hr h=>?_)
 .obtain ⟨p,dx,c,xs,rfl,hp,hc,q⟩:=h
  rfl
 obtain ⟨p,dx,c,xs,rfl,hp,hc,q⟩:=h
 refine ⟨_,(ZAF (ZCH (pv 0) (ZBQ ZBY rfl T.b_list PyProof.Rows.boot_list (ZAA (pv 1) ZAC)) rfl)),?_⟩
 walk_at "rd"
 refine ⟨c,xs,rfl,.inl (SqL.of hc),fun l hl=>?_⟩
 refine setX (ZCk hl hp) T.cl_ChainRule T.n_ChainRule_rules (by decide) fun H2 x2 k2=>?_
 have hlp:l≠p:=fun z=>by rw [z,hp] at hl;cases hl
 exact q l H2 hl hlp (fun b o n e=>by rw [k2 b n,ZAO (ZAT e hl)];exact e) (by rw [k2 l hlp,ZAG]) ((Ins.of x2 (yAF ZDz (by decide))).congr fun f=>by simp only [ZA3,lkc])
theorem ok_ChainRule_before {f:Addr} {fd:FuncData} (F:Fun K "before" "ChainRule.before" ZAd f fd) (T:Bt K mg C_KeyRule C_NearRule C_RingRule C_TableRule C_VoteRule C_ChainRule C_AskedRule)
  (t_KeyRule_before:Mt P w K mg base CX0 C_KeyRule "before" 1 ["self","x","y"] (ZBU K C_KeyRule))
  (t_NearRule_before:Mt P w K mg base CX0 C_NearRule "before" 1 ["self","x","y"] (ZBA K C_NearRule))
  (t_RingRule_before:Mt P w K mg base CX0 C_RingRule "before" 1 ["self","x","y"] (ZA9 K C_RingRule))
  (t_VoteRule_before:Mt P w K mg base CX0 C_VoteRule "before" 2 ["self","x","y"] (ZBn K C_KeyRule C_NearRule C_RingRule C_VoteRule))
 :FnOk P w K mg base CX0 3 f fd ["self","x","y"] (ZCO K C_KeyRule C_NearRule C_RingRule C_VoteRule C_ChainRule):=by
 refine F.ok sc_ChainRule_before (fun vs H Q E h=>?_) (fun cdv A outer s H vs Q E hr h=>?_)
 .obtain ⟨r,x,y,ps,xi,yi,rfl,hv,ok,hps,hx,hy,lx,ly,q⟩:=h
  rfl
 obtain ⟨r,x,y,ps,xi,yi,rfl,hv,ok,hps,hx,hy,lx,ly,q⟩:=h
 refine ⟨_,(ZAD (ZBT PassesOwn.never rfl (ZAu (ZBi (pv 0) rfl)) (ZAK (i:=3) sc_ChainRule_before.nd rfl (by walk_at "o"))
  (ZAD (ZA0 (ZBZ (ZAn (ZBs t_KeyRule_before (hr.mono (by decide)) ZAW (pv 3) (ZAA (pv 1) (ZAA (pv 2) ZAC))) (ZAn (ZBs t_NearRule_before (hr.mono (by decide)) ZAW (pv 3) (ZAA (pv 1) (ZAA (pv 2) ZAC))) (ZAn (ZBs t_RingRule_before (hr.mono (by decide)) ZAW (pv 3) (ZAA (pv 1) (ZAA (pv 2) ZAC))) (ZBs t_VoteRule_before (hr.mono (by decide)) ZAW (pv 3) (ZAA (pv 1) (ZAA (pv 2) ZAC)))))))
  (ZAF (ZAR ZCG)) ZAV)
  (ZAF (ZA0 (ZBZ (ZAn (ZBs t_KeyRule_before (hr.mono (by decide)) ZAW (pv 3) (ZAA (pv 2) (ZAA (pv 1) ZAC))) (ZAn (ZBs t_NearRule_before (hr.mono (by decide)) ZAW (pv 3) (ZAA (pv 2) (ZAA (pv 1) ZAC))) (ZAn (ZBs t_RingRule_before (hr.mono (by decide)) ZAW (pv 3) (ZAA (pv 2) (ZAA (pv 1) ZAC))) (ZBs t_VoteRule_before (hr.mono (by decide)) ZAW (pv 3) (ZAA (pv 2) (ZAA (pv 1) ZAC)))))))
  (ZAF (ZAR ZCG)) ZAV))))
  (ZAF (ZAR ZCG))),?_⟩
 walk_at "rd"
 obtain ⟨l,xs,hI,hl,hs⟩:=hv
 refine hI.get T.cl_ChainRule T.n_ChainRule_rules (by walk_at "lk") ?_
 have hxl:=hs.len
 refine ZCb (SqL.of hl) (fun i σ X=>∃ v,σ=[some (.ref r),some (.ref x),some (.ref y),v] /\ Same H X /\ befB ps xi yi=befB (ps.drop i) xi yi) ⟨_,rfl,.refl _,rfl⟩ (fun i σ X _ z=>?_) (fun i u σ X hu z=>?_) fun σ X z=>?_
 .obtain ⟨v,_,e,_⟩:=z
  exact SqL.of (e _ _ hl)
 .obtain ⟨v,rfl,sX,eb⟩:=z
  obtain ⟨p,a,hp,rfl,ha⟩:=(hs.mono sX).at hu
  have okp:=ok p (yAC hp)
  rw [befB_drop hp] at eb
  walk_at "rd"
  refine pr_before ha okp (sX.seqT hx) (sX.seqT hy) (lx p (yAC hp)) (ly p (yAC hp)) fun X2 s2=>⟨_,rfl,?_⟩
  have sX2:=sX.trans s2
  by_cases h1:ZCa p xi yi=true
  .rw [if_pos h1] at eb ⊢
   rw [<- eb];exact q _ sX2
  rw [if_neg h1] at eb ⊢
  refine pr_before (ha.mono s2) okp (sX2.seqT hy) (sX2.seqT hx) (ly p (yAC hp)) (lx p (yAC hp)) fun X3 s3=>⟨_,rfl,?_⟩
  by_cases h2:ZCa p yi xi=true
  .rw [if_pos h2] at eb ⊢
   rw [<- eb];exact q _ (sX2.trans s3)
  rw [if_neg h2] at eb ⊢
  exact ⟨_,rfl,sX2.trans s3,eb⟩
 .obtain ⟨v,rfl,sX,eb⟩:=z
  walk_at "rd"
  rw [hxl,List.drop_length] at eb
  rw [show false=befB ps xi yi by rw [eb];rfl]
  exact q _ sX
theorem ok_AskedRule_init {f:Addr} {fd:FuncData} (F:Fun K "__init__" "AskedRule.__init__" ZAz f fd) (T:Bt K mg C_KeyRule C_NearRule C_RingRule C_TableRule C_VoteRule C_ChainRule C_AskedRule)
 :FnOk P w K mg base CX0 1 f fd ["self","teller"] (ZCo C_AskedRule):=by
 refine F.ok sc_AskedRule_init (fun vs H Q E h=>?_) (fun cdv A outer s H vs Q E hr h=>?_)
 .obtain ⟨x,dx,g,rfl,hx,q⟩:=h
  rfl
 obtain ⟨x,dx,g,rfl,hx,q⟩:=h
 refine ⟨_,(ZAF (ZCH (pv 0) (pv 1) rfl)),?_⟩
 walk_at "rd"
 refine setX hx T.cl_AskedRule T.n_AskedRule_teller (by decide) fun H2 x2 k2=>?_
 exact q H2 (fun b o n e=>by rw [k2 b n];exact e) ((Ins.of x2 (yAF ZDz (by decide))).congr fun f=>by simp only [ZA3,lkc])
theorem ok_AskedRule_before {f:Addr} {fd:FuncData} (F:Fun K "before" "AskedRule.before" ZAe f fd) (T:Bt K mg C_KeyRule C_NearRule C_RingRule C_TableRule C_VoteRule C_ChainRule C_AskedRule)
  (clo_teller:CloOk P w K mg base 1 (rT25))
 :FnOk P w K mg base CX0 2 f fd ["self","x","y"] (ZDq C_AskedRule):=by
 refine F.ok sc_AskedRule_before (fun vs H Q E h=>?_) (fun cdv A outer s H vs Q E hr h=>?_)
 .obtain ⟨ru,g,x,y,rfl,hru,⟨o,ho,hfd⟩,q⟩:=h
  rfl
 obtain ⟨ru,g,x,y,rfl,hru,⟨o,ho,hfd⟩,q⟩:=h
 refine ⟨_,(ZAD (ZAa (i:=3) sc_AskedRule_before.nd rfl (by walk_at "o") (ZBi (pv 0) rfl))
  (ZAF (ZAR (pe_callV (clo_teller.at (hr.mono (by decide))) (pv 3) (ZAA (pv 1) (ZAA (pv 2) ZAC)))))),?_⟩
 walk_at "rd"
 refine hru.get T.cl_AskedRule T.n_AskedRule_teller (by walk_at "lk") ⟨⟨g,o,rfl,ho,hfd⟩,?_⟩
 exact q
theorem ok_told_pairs {f:Addr} {fd:FuncData} (F:Fun K "told_pairs" "told_pairs" ZBM f fd) (T:Bt K mg C_KeyRule C_NearRule C_RingRule C_TableRule C_VoteRule C_ChainRule C_AskedRule)
  (t_NearRule_before:Mt P w K mg base CX0 C_NearRule "before" 1 ["self","x","y"] (ZBA K C_NearRule))
  (t_RingRule_before:Mt P w K mg base CX0 C_RingRule "before" 1 ["self","x","y"] (ZA9 K C_RingRule))
  (t_TableRule_before:Mt P w K mg base CX0 C_TableRule "before" 1 ["self","x","y"] (ZBx K C_TableRule))
  (t_VoteRule_before:Mt P w K mg base CX0 C_VoteRule "before" 2 ["self","x","y"] (ZBn K C_KeyRule C_NearRule C_RingRule C_VoteRule))
  (t_ChainRule_before:Mt P w K mg base CX0 C_ChainRule "before" 3 ["self","x","y"] (ZCO K C_KeyRule C_NearRule C_RingRule C_VoteRule C_ChainRule))
  (t_AskedRule_before:Mt P w K mg base CX0 C_AskedRule "before" 2 ["self","x","y"] (ZDq C_AskedRule))
 :FnOk P w K mg base CX0 4 f fd ["row","rule"] (ZDA K C_AskedRule C_TableRule C_KeyRule C_NearRule C_RingRule C_VoteRule C_ChainRule):=by
 refine F.ok sc_told_pairs (fun vs H Q E h=>?_) (fun cdv A outer s H vs Q E hr h=>?_)
 .obtain ⟨rw,ru,xs,gb,rfl,hl,hn,hB,q⟩:=h
  rfl
 obtain ⟨rw,ru,xs,gb,rfl,hl,hn,hB,q⟩:=h
 refine ⟨_,(ZAF (ZAR (ZBP rfl (k:=1) (js:=[0,1]) (N':=["x","row","rule"]) (by rfl) (ZAu (pv 0)) (fun _ _ _ _=>ZAK (i:=0) (show (["x","row","rule"]:List Str).Nodup by decide +kernel) rfl (by walk_at "o")) (fun _ _ _ _=>ZAs) (fun _ _ _ _=>(ZBP rfl (k:=1) (js:=[2,0]) (N':=["y","rule","x"]) (by rfl) (pi_listK K (pv 1)) (fun _ _ _ _=>ZAK (i:=0) (show (["y","rule","x"]:List Str).Nodup by decide +kernel) rfl (by walk_at "o")) (fun _ _ _ _=>ZAs) (fun _ _ _ _=>(ZAn (ZBs t_AskedRule_before (hr.mono (by decide)) ZAW (pv 1) (ZAA (pv 2) (ZAA (pv 0) ZAC))) (ZAn (ZBs t_TableRule_before (hr.mono (by decide)) ZAW (pv 1) (ZAA (pv 2) (ZAA (pv 0) ZAC))) (ZAn (ZBs t_NearRule_before (hr.mono (by decide)) ZAW (pv 1) (ZAA (pv 2) (ZAA (pv 0) ZAC))) (ZAn (ZBs t_RingRule_before (hr.mono (by decide)) ZAW (pv 1) (ZAA (pv 2) (ZAA (pv 0) ZAC))) (ZAn (ZBs t_VoteRule_before (hr.mono (by decide)) ZAW (pv 1) (ZAA (pv 2) (ZAA (pv 0) ZAC))) (ZBs t_ChainRule_before (hr.mono (by decide)) ZAW (pv 1) (ZAA (pv 2) (ZAA (pv 0) ZAC)))))))))))))),?_⟩
 walk_at "rd"
 refine ZBI (SqL.of hl) (by omega) (fun i ys σ X=>∃ v,σ=[v,some (.ref rw),some (.ref ru)] /\ Same H X /\ ys.length=i /\ ∀ p,p < i->∃ r,ys[p]?=some (V.ref r) /\ X r=some (.lst ((List.range xs.length).map fun q=>V.bl (gb p q)))) ⟨_,rfl,.refl _,rfl,fun p h=>by omega⟩ (fun i ys σ X _ z=>?_) (fun i ys x σ X hi hx z=>?_) fun ys σ X z p2 hp2=>?_
 .obtain ⟨_,_,e,e2,_⟩:=z
  exact ⟨SqL.of (e _ _ hl),Nat.le_of_eq e2⟩
 .obtain ⟨v,rfl,sX,hyl,hall⟩:=z
  walk_at "rd"
  refine ZBI (SqL.of (sX _ _ hl)) (by omega) (fun j zs σ Y=>∃ v,σ=[v,some (.ref ru),some x] /\ Same X Y /\ zs=(List.range j).map fun q=>V.bl (gb i q)) ⟨_,rfl,.refl _,rfl⟩ (fun j zs σ Y _ z=>?_) (fun j zs y σ Y hj hy z=>?_) fun zs σ Y z p3 hp3=>?_
  .obtain ⟨_,_,e,e2⟩:=z
   rw [e2,yAB,yAL]
   exact ⟨SqL.of (e _ _ (sX _ _ hl)),yAA _⟩
  .obtain ⟨v,rfl,sY,rfl⟩:=z
   walk_at "rd"
   refine hB i j x y hx hy Y _ _ (sX.trans sY) fun Y2 s2=>.of hj ⟨_,rfl,sY.trans s2,?_⟩
   rw [yBH,yAW];rfl
  obtain ⟨v,rfl,sY,rfl⟩:=z
  refine .of hi ⟨_,rfl,sX.trans (sY.trans (ZAL hp3 _)),by rw [yAD,hyl];rfl,fun p hp=>?_⟩
  by_cases hpi:p < i
  .obtain ⟨r3,a,b⟩:=hall p hpi
   exact ⟨r3,by rw [yAN (by omega)];exact a,ZAL hp3 _ _ _ (sY _ _ b)⟩
  .rw [show p=i by omega]
   exact ⟨p3,by rw [<- hyl,yAS (yAA _),yAV];rfl,ZAG⟩
 obtain ⟨v,rfl,sX,hyl,hall⟩:=z
 refine q p2 _ (sX.trans (ZAL hp2 _)) ⟨ys,ZAG,hyl,fun p hp=>?_⟩
 obtain ⟨r,a,b⟩:=hall p hp
 exact ⟨r,a,ZAL hp2 _ _ _ b⟩
theorem ok_ranked {f:Addr} {fd:FuncData} (F:Fun K "ranked" "ranked" ZCD f fd) (T:Bt K mg C_KeyRule C_NearRule C_RingRule C_TableRule C_VoteRule C_ChainRule C_AskedRule)
  (f_told_pairs:Fn P w K mg base CX0 "told_pairs" 4 ["row","rule"] (ZDA K C_AskedRule C_TableRule C_KeyRule C_NearRule C_RingRule C_VoteRule C_ChainRule))
  (f_counted_ranks:Fn P w K mg base CX0 "counted_ranks" 2 ["pairs"] (ZDh))
  (f_are_ranks:Fn P w K mg base CX0 "are_ranks" 1 ["pairs","ranks"] (ZDi))
  (f_flaw_of:Fn P w K mg base CX0 "flaw_of" 4 ["pairs"] (ZD8))
 :FnOk P w K mg base CX0 5 f fd ["row","rule"] (ZD6 K C_AskedRule C_TableRule C_KeyRule C_NearRule C_RingRule C_VoteRule C_ChainRule):=by
 refine F.ok sc_ranked (fun vs H Q E h=>?_) (fun cdv A outer s H vs Q E hr h=>?_)
 .obtain ⟨rw,ru,xs,gb,rfl,hl,hn,hB,q⟩:=h
  rfl
 obtain ⟨rw,ru,xs,gb,rfl,hl,hn,hB,q⟩:=h
 refine ⟨_,(ZAD (ZAa (i:=2) sc_ranked.nd rfl (by walk_at "o") (ZAm f_told_pairs (hr.mono (by decide)) rfl ZAW (ZAA (pv 0) (ZAA (pv 1) ZAC))))
  (ZAD (ZAa (i:=3) sc_ranked.nd rfl (by walk_at "o") (ZAm f_counted_ranks (hr.mono (by decide)) rfl ZAW (ZAA (pv 2) ZAC)))
  (ZAD (ZA0 (ZBZ (ZAm f_are_ranks (hr.mono (by decide)) rfl ZAW (ZAA (pv 2) (ZAA (pv 3) ZAC))))
  (ZAF (ZAR (ZB2 (ZAA ZBh (ZAA (pv 3) ZAC))))) ZAV)
  (ZAF (ZAR (ZAm f_flaw_of (hr.mono (by decide)) rfl ZAW (ZAA (pv 2) ZAC))))))),?_⟩
 walk_at "rd"
 refine ⟨rw,ru,xs,gb,rfl,hl,hn,hB,fun l H1 s1 hM=>?_⟩
 refine ⟨l,_,gb,rfl,hM,hn,fun l2 H2 s2 hn2 h2=>?_⟩
 dsimp only
 refine ⟨l,l2,_,gb,rfl,hM.mono s2,hn,h2,fun H3 s3=>⟨fun hA=>⟨_,rfl,?_⟩,fun hA=>⟨_,rfl,?_⟩⟩⟩
 .rw [if_pos rfl]
  exact ⟨ZAv (by decide),fun t ht=>q t _ (s1.trans (s2.trans (s3.trans (ZAL ht _)))) (.inl ⟨hA,l2,ZAG,ZAL ht _ _ _ (s3 _ _ h2)⟩)⟩
 .rw [if_neg (by decide)]
  exact ⟨l,_,gb,rfl,(hM.mono s2).mono s3,hn,hA,fun t H4 s4 hF=>q t H4 (s1.trans (s2.trans (s3.trans s4))) (.inr hF)⟩
theorem ok_whole {f:Addr} {fd:FuncData} (F:Fun K "_law_whole" "_law_whole" ZCW f fd) (T:Bt K mg C_KeyRule C_NearRule C_RingRule C_TableRule C_VoteRule C_ChainRule C_AskedRule)
 :FnOk P w K mg base CX0 1 f fd ["_law_found"] (ZC8):=by
 refine F.ok sc_whole (fun vs H Q E h=>?_) (fun cdv A outer s H vs Q E hr h=>?_)
 .obtain ⟨i,rfl,q⟩:=h
  rfl
 obtain ⟨i,rfl,q⟩:=h
 refine ⟨_,(ZAF (ZAR (ZBt (ZAX ZBj rfl T.b_isinstance PyProof.Rows.boot_isinstance (ZAA (pv 0) (ZAA (ZDU rfl T.b_int PyProof.Rows.boot_int) ZAC))) (ZCd (ZDr (ZAX ZBj rfl T.b_isinstance PyProof.Rows.boot_isinstance (ZAA (pv 0) (ZAA (ZDU rfl T.b_bool PyProof.Rows.boot_bool) ZAC)))))))),?_⟩
 walk_at "rd"
 refine inst_int ?_
 walk_at "rd"
 refine inst_int_bl T.kit_int_bool ?_
 walk_at "rd"
 exact q
theorem ok_ranks {f:Addr} {fd:FuncData} (F:Fun K "_law_ranks" "_law_ranks" ZCZ f fd) (T:Bt K mg C_KeyRule C_NearRule C_RingRule C_TableRule C_VoteRule C_ChainRule C_AskedRule)
  (f_whole:Fn P w K mg base CX0 "_law_whole" 1 ["_law_found"] (ZC8))
 :FnOk P w K mg base CX0 2 f fd ["_law_goes","_law_ranks_here"] (ZDD):=by
 refine F.ok sc_ranks (fun vs H Q E h=>?_) (fun cdv A outer s H vs Q E hr h=>?_)
 .obtain ⟨l,l2,n,m,rfl,hM,hn,hA,h2,q⟩:=h
  rfl
 obtain ⟨l,l2,n,m,rfl,hM,hn,hA,h2,q⟩:=h
 refine ⟨_,(ZAD (ZA0 (PW.pt (ZCx (ZCs (ZBZ (ZAX ZBj rfl T.b_isinstance PyProof.Rows.boot_isinstance (ZAA (pv 1) (ZAA (ZDU rfl T.b_list PyProof.Rows.boot_list) ZAC))))) (ZCr (ZAQ ZCt (ZAX ZAP rfl T.b_len PySem.boot_len (ZAA (pv 1) ZAC)) (ZAX ZAP rfl T.b_len PySem.boot_len (ZAA (pv 0) ZAC)) (ZAI _)))))
  (ZAF (ZAR ZCG)) ZAV)
  (ZAD (ZBT PassesOwn.never rfl (ZA8 rfl T.b_range (ZAA (ZAX ZAP rfl T.b_len PySem.boot_len (ZAA (pv 0) ZAC)) ZAC)) (ZAK (i:=2) sc_ranks.nd rfl (by walk_at "o"))
  (ZAD (ZBH (i:=3) sc_ranks.nd rfl (Or.inl rfl) rfl (k:=1) (js:=[0,2]) (N':=["_law_q","_law_goes","_law_p"]) (by rfl) (ZA8 rfl T.b_range (ZAA (ZAX ZAP rfl T.b_len PySem.boot_len (ZAA (pv 0) ZAC)) ZAC)) (fun _ _ _ _=>ZAK (i:=0) (show (["_law_q","_law_goes","_law_p"]:List Str).Nodup by decide +kernel) rfl (by walk_at "o")) (fun _ _ _ _=>(ZCQ (ZBZ (ZAS (ZAf K) (ZAS (ZAf K) (pv 1) (pv 0) (fun _ _=>rfl)) (pv 2) (fun _ _=>rfl))))) (fun _ _ _ _=>(pv 0)))
  (ZAF (ZA0 (PW.pt (ZCx (ZCs (ZBZ (ZAm f_whole (hr.mono (by decide)) rfl ZAW (ZAA (ZAS ZAU (pv 1) (pv 2) (fun _ _=>rfl)) ZAC)))) (ZCr (ZAQ ZCt (ZAS ZAU (pv 1) (pv 2) (fun _ _=>rfl)) (ZAX ZAP rfl T.b_len PySem.boot_len (ZAA (pv 3) ZAC)) (ZAI _)))))
  (ZAF (ZAR ZCG)) ZAV))))
  (ZAD (ZBT PassesOwn.never rfl (ZA8 rfl T.b_range (ZAA (ZAX ZAP rfl T.b_len PySem.boot_len (ZAA (pv 0) ZAC)) ZAC)) (ZAK (i:=2) sc_ranks.nd rfl (by walk_at "o"))
  (ZAF (ZBT PassesOwn.never rfl (ZA8 rfl T.b_range (ZAA (ZAX ZAP rfl T.b_len PySem.boot_len (ZAA (pv 0) ZAC)) ZAC)) (ZAK (i:=4) sc_ranks.nd rfl (by walk_at "o"))
  (ZAF (ZA0 (ZAQ ZCt (ZAS ZAU (ZAS ZAU (pv 0) (pv 2) (fun _ _=>rfl)) (pv 4) (fun _ _=>rfl)) (ZAo ZB3 (ZAS ZAU (pv 1) (pv 2) (fun _ _=>rfl)) (ZAS ZAU (pv 1) (pv 4) (fun _ _=>rfl)) (ZAI _)) (ZAI _))
  (ZAF (ZAR ZCG)) ZAV)))))
  (ZAF (ZAR ZCG))))),?_⟩
 walk_at "rd"
 obtain ⟨rs,hl,hrl,hm⟩:=id hM
 have row:∀ X,Same H X->∀ i,i < n->∃ r,atI rs (0+(i:Int))=some (.ref r) /\ X r=some (.lst ((List.range n).map fun q=>V.bl (m i q))):=fun X s i hi=>by
  obtain ⟨r,a,b⟩:=hm i hi
  exact ⟨r,ZAb (by omega) (by rw [show (0+(i:Int)).toNat=i by omega];exact a),s _ _ b⟩
 have at0':∀ {g:Nat->V} {i:Nat},i < n->atI ((List.range n).map g) (0+(i:Int))=some (g i):=fun {g i} hi=>by rw [Int.zero_add];exact ZCq hi
 refine inst_lst h2 ?_
 walk_at "rd"
 refine ⟨l2,_,rfl,.inl (SqL.of h2),l,_,rfl,.inl (SqL.of hl),?_⟩
 rw [yAB,yAL,hrl,if_neg (fun z=>z rfl)]
 refine ⟨l,_,rfl,.inl (SqL.of hl),?_⟩
 rw [hrl]
 refine ZBz (by omega) (ZCK (fun i σ X=>∃ v2 v3 v4,σ=[some (.ref l),some (.ref l2),v2,v3,v4] /\ Same H X) ⟨_,_,_,rfl,.refl _⟩ (fun i σ X hi z=>?_) fun σ X z=>?_)
 .obtain ⟨v2,v3,v4,rfl,sX⟩:=z
  have hi':i < n:=by omega
  walk_at "rd"
  refine ⟨l,_,rfl,.inl (SqL.of (sX _ _ hl)),?_⟩
  rw [hrl]
  refine ZBv (by omega) (fun j ys σ Y=>∃ v,σ=[v,some (.ref l),some (.int (0+(i:Int)))] /\ Y=X /\ ys.length=(List.range j).countP fun x=>m x i) ⟨_,rfl,rfl,rfl⟩ (fun j ys σ Y z=>?_) (fun j ys σ Y hj z=>?_) fun ys σ Y z p2 hp2=>?_
  .obtain ⟨_,_,e,e2⟩:=z
   rw [e2];exact yAF List.countP_le_length (by rw [yAL];exact yAA _)
  .obtain ⟨v,rfl,rfl,e2⟩:=z
   have hj':j < n:=by omega
   obtain ⟨r,a,b⟩:=row Y sX j hj'
   have ec:(List.range (j+1)).countP (fun x=>m x i)=(List.range j).countP (fun x=>m x i)+(if m j i=true then 1 else 0):=by
    rw [yBH,List.countP_append]
    simp [List.countP_cons]
   walk_at "rd"
   refine ZAY (SqL.of (sX _ _ hl)) a (ZAY (SqL.of b) (at0' hi') ⟨_,rfl,?_⟩)
   cases hk:m j i with
   | true=>
    rw [if_pos rfl]
    exact .of hj ⟨_,rfl,rfl,by rw [ec,hk,yAD,e2];rfl⟩
   | false=>
    rw [if_neg yAM]
    exact .of hj ⟨_,rfl,rfl,by rw [ec,hk,e2];rfl⟩
  obtain ⟨v,rfl,rfl,e2⟩:=z
  have e3:ys.length=rkN n m i:=by rw [e2,Int.toNat_natCast];rfl
  have s2:=ZAL hp2 (.lst ys)
  refine ZAY (SqL.of (s2 _ _ (sX _ _ h2))) (at0' hi') ⟨_,rfl,⟨_,rfl,?_⟩⟩
  rw [if_neg (by decide)]
  refine ZAY (SqL.of (s2 _ _ (sX _ _ h2))) (at0' hi') ⟨p2,_,rfl,.inl (SqL.of ZAG),?_⟩
  walk_at "rd"
  rw [e3,if_neg (fun z=>z rfl)]
  exact ⟨_,_,_,rfl,sX.trans s2⟩
 .obtain ⟨v2,v3,v4,rfl,sX⟩:=z
  walk_at "rd"
  refine ⟨l,_,rfl,.inl (SqL.of (sX _ _ hl)),?_⟩
  rw [hrl]
  refine ZBz (by omega) (ZCK (fun i σ Y=>∃ v2 v3 v4,σ=[some (.ref l),some (.ref l2),v2,v3,v4] /\ Y=X) ⟨_,_,_,rfl,rfl⟩ (fun i σ Y hi z=>?_) fun σ Y z=>?_)
  .obtain ⟨v2,v3,v4,rfl,rfl⟩:=z
   have hi':i < n:=by omega
   obtain ⟨r,a,b⟩:=row Y sX i hi'
   walk_at "rd"
   refine ⟨l,_,rfl,.inl (SqL.of (sX _ _ hl)),?_⟩
   rw [hrl]
   refine ZBz (by omega) (ZCK (fun j σ Z=>∃ v3 v4,σ=[some (.ref l),some (.ref l2),some (.int (0+(i:Int))),v3,v4] /\ Z=Y) ⟨_,_,rfl,rfl⟩ (fun j σ Z hj z=>?_) fun σ Z z=>?_)
   .obtain ⟨v3,v4,rfl,rfl⟩:=z
    have hj':j < n:=by omega
    walk_at "rd"
    refine ZAY (SqL.of (sX _ _ hl)) a (ZAY (SqL.of b) (at0' hj') ?_)
    refine ZAY (SqL.of (sX _ _ h2)) (at0' hi') (ZAY (SqL.of (sX _ _ h2)) (at0' hj') ?_)
    walk_at "rd"
    rw [if_neg (fun z=>z (by rw [hA i hi' j hj',decide_eq_decide];omega))]
    exact ⟨_,_,rfl,trivial⟩
   .obtain ⟨v3,v4,rfl,rfl⟩:=z
    exact ⟨_,_,_,rfl,rfl⟩
  .obtain ⟨v2,v3,v4,rfl,rfl⟩:=z
   walk_at "rd"
   exact q _ sX
theorem ok_flaw {f:Addr} {fd:FuncData} (F:Fun K "_law_flaw" "_law_flaw" ZC4 f fd) (T:Bt K mg C_KeyRule C_NearRule C_RingRule C_TableRule C_VoteRule C_ChainRule C_AskedRule)
  (f_whole:Fn P w K mg base CX0 "_law_whole" 1 ["_law_found"] (ZC8))
 :FnOk P w K mg base CX0 2 f fd ["_law_goes","_law_word","_law_places"] (ZDg):=by
 refine F.ok sc_flaw (fun vs H Q E h=>?_) (fun cdv A outer s H vs Q E hr h=>?_)
 .obtain ⟨l,t3,n,m,w,a,b,c,rfl,hM,hn,h3,hF,q⟩:=h
  rfl
 obtain ⟨l,t3,n,m,w,a,b,c,rfl,hM,hn,h3,hF,q⟩:=h
 refine ⟨_,(ZAD (ZA0 (PW.pt (ZCx (ZCs (ZBZ (ZAX ZBj rfl T.b_isinstance PyProof.Rows.boot_isinstance (ZAA (pv 2) (ZAA (ZDU rfl T.b_tuple PyProof.Rows.boot_tuple) ZAC))))) (ZCr (ZAQ ZCt (ZAX ZAP rfl T.b_len PySem.boot_len (ZAA (pv 2) ZAC)) ZAE (ZAI _)))))
  (ZAF (ZAR ZCG)) ZAV)
  (ZAD (ZBT PassesOwn.never rfl (pi_tup (pv 2)) (ZAK (i:=3) sc_flaw.nd rfl (by walk_at "o"))
  (ZAF (ZA0 (PW.pt (ZCx (ZCs (ZBZ (ZAm f_whole (hr.mono (by decide)) rfl ZAW (ZAA (pv 3) ZAC)))) (ZCx (ZAQ ZB3 (pv 3) ZAE (ZAI _)) (ZCr (ZAQ op_ge (pv 3) (ZAX ZAP rfl T.b_len PySem.boot_len (ZAA (pv 0) ZAC)) (ZAI _))))))
  (ZAF (ZAR ZCG)) ZAV)))
  (ZAD (ps_asg (pv 2) (ZCc (n:=3) rfl (ZA1 (ZAK (i:=4) sc_flaw.nd rfl (by walk_at "o")) (ZA1 (ZAK (i:=5) sc_flaw.nd rfl (by walk_at "o")) (ZA1 (ZAK (i:=6) sc_flaw.nd rfl (by walk_at "o")) ZB6)))))
  (ZAl
  (ZAD (ZA0 (ZAQ ZBR (pv 1) ZBh (ZAI _))
  (ZAF (ZAR (ZBt (ZAo ZBR (pv 4) (pv 5) (ZAI _)) (ZBt (ZAo ZBR (pv 5) (pv 6) (ZAI _)) (ZCd (ZAS ZAU (ZAS ZAU (pv 0) (pv 4) (fun _ _=>rfl)) (pv 4) (fun _ _=>rfl))))))) ZAV)
  (ZAl
  (ZAD (ZA0 (ZAQ ZBR (pv 1) ZBh (ZAI _))
  (ZAF (ZAR (ZBt (ZAo ZCt (pv 4) (pv 5) (ZAI _)) (ZBt (ZAo ZBR (pv 4) (pv 6) (ZAI _)) (ZBt (ZAS ZAU (ZAS ZAU (pv 0) (pv 4) (fun _ _=>rfl)) (pv 5) (fun _ _=>rfl)) (ZCd (ZAS ZAU (ZAS ZAU (pv 0) (pv 5) (fun _ _=>rfl)) (pv 4) (fun _ _=>rfl)))))))) ZAV)
  (ZAl
  (ZAD (ZA0 (PW.pt (ZCx (ZAQ ZCt (pv 1) ZBh (ZAI _)) (ZCx (ZAQ ZBR (pv 4) (pv 5) (ZAI _)) (ZCx (ZAQ ZBR (pv 5) (pv 6) (ZAI _)) (ZCr (ZAQ ZBR (pv 4) (pv 6) (ZAI _)))))))
  (ZAF (ZAR ZCG)) ZAV)
  (ZAl
  (ZAF (ZAR (ZBt (ZAS ZAU (ZAS ZAU (pv 0) (pv 4) (fun _ _=>rfl)) (pv 5) (fun _ _=>rfl)) (ZBt (ZDr (ZAS ZAU (ZAS ZAU (pv 0) (pv 4) (fun _ _=>rfl)) (pv 6) (fun _ _=>rfl))) (ZCd (ZDr (ZAS ZAU (ZAS ZAU (pv 0) (pv 6) (fun _ _=>rfl)) (pv 5) (fun _ _=>rfl)))))))))))))))))),?_⟩
 walk_at "rd"
 obtain ⟨ha,hb,hc,hab,hw⟩:=hF
 obtain ⟨rs,hl,hrl,hm⟩:=id hM
 have row:∀ i,i < n->∃ r,atI rs (i:Int)=some (.ref r) /\ H r=some (.lst ((List.range n).map fun q=>V.bl (m i q))):=fun i hi=>by
  obtain ⟨r,x,y⟩:=hm i hi
  exact ⟨r,ZAb (by omega) (by rw [Int.toNat_natCast];exact x),y⟩
 have ixm:∀ {i j:Nat} {Q':VK},i < n->j < n->Q' (.bl (m i j)) H->rIxL K (.ref l) (.int i) H fun x H1=>rIxL K x (.int j) H1 Q':=fun {i j Q'} hi hj k=>by
  obtain ⟨r,x,y⟩:=row i hi
  exact ZAY (SqL.of hl) x (ZAY (SqL.of y) (ZCq hj) k)
 have e3:(([V.int (a:Int),V.int (b:Int),V.int (c:Int)].length:Nat):Int)=3:=rfl
 refine ZDL h3 ?_
 walk_at "rd"
 refine ⟨t3,_,rfl,.inr (SqT.of h3),?_⟩
 rw [if_neg (fun z=>z e3)]
 refine forT_of (SqT.of h3) (fun i σ X=>∃ v3 v4 v5 v6,σ=[some (.ref l),some (.str w),some (.ref t3),v3,v4,v5,v6] /\ X=H) ⟨_,_,_,_,rfl,rfl⟩ (fun i σ X _ z=>?_) (fun i u σ X hu z=>?_) fun σ X z=>?_
 .obtain ⟨_,_,_,_,_,e⟩:=z
  rw [e];exact SqT.of h3
 .obtain ⟨v3,v4,v5,v6,rfl,rfl⟩:=z
  obtain ⟨k,rfl,hk⟩:∃ k:Nat,u=.int k /\ k < n:=by
   have:=yAC hu
   simp only [yAR,List.not_mem_nil,or_false] at this
   rcases this with rfl | rfl | rfl
   .exact ⟨a,rfl,ha⟩
   .exact ⟨b,rfl,hb⟩
   .exact ⟨c,rfl,hc⟩
  walk_at "rd"
  refine ⟨_,rfl,⟨_,rfl,?_⟩⟩
  rw [if_neg (by decide),if_neg (by omega)]
  refine ⟨l,_,rfl,.inl (SqL.of hl),?_⟩
  rw [hrl,if_neg (by omega)]
  exact ⟨_,_,_,_,rfl,rfl⟩
 obtain ⟨v3,v4,v5,v6,rfl,rfl⟩:=z
 walk_at "rd"
 refine ZB8 (SqT.of h3) rfl ?_
 have d1:Str.ofString "both"≠Str.ofString "self":=by decide +kernel
 have d2:Str.ofString "tie"≠Str.ofString "self":=by decide +kernel
 have d3:Str.ofString "tie"≠Str.ofString "both":=by decide +kernel
 walk_at "rd"
 refine ZBE ?_
 walk_at "rd"
 rcases hw with ⟨rfl,e1,e2⟩ | ⟨rfl,e1,e2,e4⟩ | ⟨rfl,e1,e2,e4,e5,e6⟩
 .rw [if_pos rfl]
  subst e1 e2
  rw [if_pos rfl,if_pos rfl]
  refine ixm ha ha ?_
  rw [hab]
  exact q _ (.refl _)
 .rw [if_neg d1]
  refine ZBE ?_
  walk_at "rd"
  rw [if_pos (by omega),if_pos (by omega)]
  refine ixm ha hb ⟨_,rfl,?_⟩
  rw [hab,if_pos rfl]
  refine ixm hb ha ?_
  rw [e4]
  exact q _ (.refl _)
 .rw [if_neg d2]
  refine ZBE ?_
  walk_at "rd"
  rw [if_neg d3]
  refine ZBE ?_
  walk_at "rd"
  rw [if_neg (fun z=>z trivial),if_neg (by omega),if_neg (by omega),if_neg (by omega)]
  refine ZBE ?_
  walk_at "rd"
  refine ixm ha hb ⟨_,rfl,?_⟩
  rw [hab,if_pos rfl]
  refine ixm ha hc ⟨_,rfl,?_⟩
  rw [e5,if_pos rfl]
  refine ixm hc hb ⟨_,rfl,?_⟩
  rw [e6]
  exact q _ (.refl _)
theorem ok_good {f:Addr} {fd:FuncData} (F:Fun K "_law_good" "_law_good" ZC3 f fd) (T:Bt K mg C_KeyRule C_NearRule C_RingRule C_TableRule C_VoteRule C_ChainRule C_AskedRule)
  (f_ranks:Fn P w K mg base CX0 "_law_ranks" 2 ["_law_goes","_law_ranks_here"] (ZDD))
  (f_flaw:Fn P w K mg base CX0 "_law_flaw" 2 ["_law_goes","_law_word","_law_places"] (ZDg))
 :FnOk P w K mg base CX0 3 f fd ["_law_goes","_law_found"] (ZDf):=by
 refine F.ok sc_good (fun vs H Q E h=>?_) (fun cdv A outer s H vs Q E hr h=>?_)
 .obtain ⟨l,t,n,m,rfl,hM,hn,hR,q⟩:=h
  rfl
 obtain ⟨l,t,n,m,rfl,hM,hn,hR,q⟩:=h
 refine ⟨_,(ZAD (ZA0 (PW.pt (ZCx (ZCs (ZBZ (ZAX ZBj rfl T.b_isinstance PyProof.Rows.boot_isinstance (ZAA (pv 1) (ZAA (ZDU rfl T.b_tuple PyProof.Rows.boot_tuple) ZAC))))) (ZCr (ZAQ ZB3 (ZAX ZAP rfl T.b_len PySem.boot_len (ZAA (pv 1) ZAC)) ZAE (ZAI _)))))
  (ZAF (ZAR ZCG)) ZAV)
  (ZAD (ZA0 (PW.pt (ZEA (ZAQ ZBR (ZAS ZA2 (pv 1) ZAE (fun _ _=>rfl)) ZBh (ZAI _)) (ZDj (ZAQ ZBR (ZAX ZAP rfl T.b_len PySem.boot_len (ZAA (pv 1) ZAC)) ZAE (ZAI _)))))
  (ZAF (ZAR (ZAm f_ranks (hr.mono (by decide)) rfl ZAW (ZAA (pv 0) (ZAA (ZAS ZA2 (pv 1) ZAE (fun _ _=>rfl)) ZAC))))) ZAV)
  (ZAF (ZAR (ZBt (ZAo ZBR (ZAS ZA2 (pv 1) ZAE (fun _ _=>rfl)) ZBh (ZAI _)) (ZBt (ZAo ZBR (ZAX ZAP rfl T.b_len PySem.boot_len (ZAA (pv 1) ZAC)) ZAE (ZAI _)) (ZCd (ZAm f_flaw (hr.mono (by decide)) rfl ZAW (ZAA (pv 0) (ZAA (ZAS ZA2 (pv 1) ZAE (fun _ _=>rfl)) (ZAA (ZAS ZA2 (pv 1) ZAE (fun _ _=>rfl)) ZAC))))))))))),?_⟩
 walk_at "rd"
 have sr:Str.ofString "flaw"≠Str.ofString "ranks":=by decide +kernel
 rcases hR with ⟨hA,l2,ht,h2⟩ | ⟨t3,w,a,b,c,ht,h3,hF⟩
 .have e2:(([V.str (Str.ofString "ranks"),V.ref l2].length:Nat):Int)=2:=rfl
  refine ZDL ht ?_
  walk_at "rd"
  refine ⟨t,_,rfl,.inr (SqT.of ht),?_⟩
  rw [e2,if_neg (by decide)]
  refine ZAq (SqT.of ht) (ZAb (by decide) rfl) ?_
  walk_at "rd"
  refine ⟨t,_,rfl,.inr (SqT.of ht),?_⟩
  rw [if_pos e2]
  exact ZAq (SqT.of ht) (ZAb (by decide) rfl) ⟨l,l2,n,m,rfl,hM,hn,hA,h2,q⟩
 .have e3:(([V.str (Str.ofString "flaw"),V.str w,V.ref t3].length:Nat):Int)=3:=rfl
  refine ZDL ht ?_
  walk_at "rd"
  refine ⟨t,_,rfl,.inr (SqT.of ht),?_⟩
  rw [e3,if_neg (by decide)]
  refine ZAq (SqT.of ht) (ZAb (by decide) rfl) ?_
  walk_at "rd"
  rw [if_neg sr]
  refine ZAq (SqT.of ht) (ZAb (by decide) rfl) ?_
  walk_at "rd"
  refine ⟨t,_,rfl,.inr (SqT.of ht),?_⟩
  rw [if_pos e3]
  refine ZAq (SqT.of ht) (ZAb (by decide) rfl) ?_
  exact ZAq (SqT.of ht) (ZAb (by decide) rfl) ⟨l,t3,n,m,w,a,b,c,rfl,hM,hn,h3,hF,q⟩
theorem ok_cell_at {f:Addr} {fd:FuncData} (F:Fun K "_law_cell_at" "_law_cell_at" ZBr f fd) (T:Bt K mg C_KeyRule C_NearRule C_RingRule C_TableRule C_VoteRule C_ChainRule C_AskedRule)
 :FnOk P w K mg base CX0 1 f fd ["_law_script","_law_k"] (ZD9 K):=by
 refine F.ok sc_cell_at (fun vs H Q E h=>?_) (fun cdv A outer s H vs Q E hr h=>?_)
 .obtain ⟨a,ns,k,rfl,hS,h0,q⟩:=h
  rfl
 obtain ⟨a,ns,k,rfl,hS,h0,q⟩:=h
 refine ⟨_,(ZAD (ZA0 (ZAQ ZB3 (pv 1) (ZAX ZAP rfl T.b_len PySem.boot_len (ZAA (pv 0) ZAC)) (ZAI _))
  (ZAF (ZAR (ZAS ZAU (pv 0) (pv 1) (fun _ _=>rfl)))) ZAV)
  (ZAF (ZAR ZAE))),?_⟩
 walk_at "rd"
 refine ⟨a,_,rfl,.inl hS,?_⟩
 walk_at "rd"
 rw [yAB]
 unfold cellOf at q
 split
 .rename_i hk
  rw [if_pos hk] at q
  have hk':k.toNat < ns.length:=by omega
  refine ZAY hS (ZAg h0 (yAH hk')) ?_
  rw [yAH hk'] at q
  exact q
 .rename_i hk
  rw [if_neg hk] at q
  exact q
theorem ok_signed {f:Addr} {fd:FuncData} (F:Fun K "_law_signed" "_law_signed" ZCC f fd) (T:Bt K mg C_KeyRule C_NearRule C_RingRule C_TableRule C_VoteRule C_ChainRule C_AskedRule)
 :FnOk P w K mg base CX0 1 f fd ["_law_digit"] (ZDB):=by
 refine F.ok sc_signed (fun vs H Q E h=>?_) (fun cdv A outer s H vs Q E hr h=>?_)
 .obtain ⟨d,rfl,hd,q⟩:=h
  rfl
 obtain ⟨d,rfl,hd,q⟩:=h
 refine ⟨_,(ZAF (ZAR (ZAM ZBa (ZAM ZBF (ZAM ZBK (pv 0) ZAE) ZAE) (ZAM ZCR ZAE (ZAM ZBa (ZAM ZAp (pv 0) ZAE) ZAE))))),?_⟩
 walk_at "rd"
 exact ⟨⟨by decide,by decide⟩,by decide,.inr ⟨by decide,by decide⟩,.inr ⟨by omega,by omega⟩,q _⟩
theorem ok_reserve {f:Addr} {fd:FuncData} (F:Fun K "_law_reserve" "_law_reserve" ZBo f fd) (T:Bt K mg C_KeyRule C_NearRule C_RingRule C_TableRule C_VoteRule C_ChainRule C_AskedRule)
 :FnOk P w K mg base CX0 1 f fd ["_law_cell","_law_k"] (ZCM):=by
 refine F.ok sc_reserve (fun vs H Q E h=>?_) (fun cdv A outer s H vs Q E hr h=>?_)
 .obtain ⟨c,k,rfl,h0,h1,q⟩:=h
  rfl
 obtain ⟨c,k,rfl,h0,h1,q⟩:=h
 refine ⟨_,(ZAD (ZAa (i:=2) sc_reserve.nd rfl (by walk_at "o") (ZAM ZAp (ZAM ZBK (ZAM ZAp (pv 0) ZAE) (ZAM ZBa ZAE (ZAM ZBK (pv 1) ZAE))) ZAE))
  (ZAF (ZAR (ZAM ZBK ZAE (ZAM ZAp (ZAM ZBK (ZAM ZBK (ZAM ZBa (pv 2) (pv 2)) (ZAM ZBa ZAE (pv 2))) (ZAM ZBa ZAE (pv 1))) ZAE))))),?_⟩
 walk_at "rd"
 have hb:0 <= (c % 2147483629+48271 * (k+1)) % 2147483629 /\ (c % 2147483629+48271 * (k+1)) % 2147483629 < 2147483629:=by omega
 generalize (c % 2147483629+48271 * (k+1)) % 2147483629=z at hb ⊢
 refine ⟨by decide,.inl ⟨by decide,by decide⟩,by decide,.inl ⟨by omega,by omega⟩,.inl ⟨by decide,by decide⟩,.inl ⟨by decide,by decide⟩,by decide,q _ ?_⟩
 generalize z * z+48271 * z+7 * k=y
 omega
theorem ok_column {f:Addr} {fd:FuncData} (F:Fun K "_law_column" "_law_column" ZCE f fd) (T:Bt K mg C_KeyRule C_NearRule C_RingRule C_TableRule C_VoteRule C_ChainRule C_AskedRule)
 :FnOk P w K mg base CX0 1 f fd ["_law_one","_law_other","_law_at","_law_way"] (ZCh K):=by
 refine F.ok sc_column (fun vs H Q E h=>?_) (fun cdv A outer s H vs Q E hr h=>?_)
 .obtain ⟨x,y,k,u,xi,yi,rfl,hx,hy,lx,ly,q⟩:=h
  rfl
 obtain ⟨x,y,k,u,xi,yi,rfl,hx,hy,lx,ly,q⟩:=h
 refine ⟨_,(ZAD (ZA0 (ZAQ ZBR (pv 3) ZBh (ZAI _))
  (ZAF (ZAR (ZAo ZB3 (ZAS ZA2 (pv 0) (pv 2) (fun _ _=>rfl)) (ZAS ZA2 (pv 1) (pv 2) (fun _ _=>rfl)) (ZAI _)))) ZAV)
  (ZAF (ZAR (ZAo ZB3 (ZAS ZA2 (pv 1) (pv 2) (fun _ _=>rfl)) (ZAS ZA2 (pv 0) (pv 2) (fun _ _=>rfl)) (ZAI _))))),?_⟩
 walk_at "rd"
 have ax:atI (xi.map V.int) (k:Int)=some (.int (at0 xi k)):=ZAg (by omega) (ZBL (by omega) (by omega))
 have ay:atI (yi.map V.int) (k:Int)=some (.int (at0 yi k)):=ZAg (by omega) (ZBL (by omega) (by omega))
 rw [ZDb] at q
 by_cases hu:u=true
 .rw [if_pos ((up_way u).mpr hu)]
  rw [if_pos hu] at q
  refine ZAq hx ax (ZAq hy ay ?_)
  walk_at "rd"
  exact q
 .rw [if_neg (fun z=>hu ((up_way u).mp z))]
  rw [if_neg hu] at q
  refine ZAq hy ay (ZAq hx ax ?_)
  walk_at "rd"
  exact q
theorem ok_rung {f:Addr} {fd:FuncData} (F:Fun K "_law_rung" "_law_rung" ZC1 f fd) (T:Bt K mg C_KeyRule C_NearRule C_RingRule C_TableRule C_VoteRule C_ChainRule C_AskedRule)
 :FnOk P w K mg base CX0 1 f fd ["_law_one","_law_other","_law_size"] (ZD5 K):=by
 refine F.ok sc_rung (fun vs H Q E h=>?_) (fun cdv A outer s H vs Q E hr h=>?_)
 .obtain ⟨x,y,sz,xi,yi,rfl,hx,hy,lx,ly,hsz,q⟩:=h
  rfl
 obtain ⟨x,y,sz,xi,yi,rfl,hx,hy,lx,ly,hsz,q⟩:=h
 refine ⟨_,(ZAD (ZAa (i:=3) sc_rung.nd rfl (by walk_at "o") (ZAM ZAp (ZAM ZCR (ZAS ZA2 (pv 1) ZAE (fun _ _=>rfl)) (ZAS ZA2 (pv 0) ZAE (fun _ _=>rfl))) (pv 2)))
  (ZAF (ZAR (ZBt (ZAo ZB3 ZAE (pv 3) (ZAI _)) (ZCd (ZAo ZB3 (ZAM ZBK (pv 3) (pv 3)) (pv 2) (ZAI _))))))),?_⟩
 walk_at "rd"
 have ax:atI (xi.map V.int) 0=some (.int (at0 xi 0)):=ZAg (by omega) (ZBL (by omega) (by omega))
 have ay:atI (yi.map V.int) 0=some (.int (at0 yi 0)):=ZAg (by omega) (ZBL (by omega) (by omega))
 refine ZAq hy ay (ZAq hx ax ?_)
 walk_at "rd"
 refine ⟨by omega,?_⟩
 unfold ZDy at q
 walk_at "rd"
 by_cases h:0 < (at0 yi 0-at0 xi 0) % sz
 .rw [if_pos h]
  rw [decide_eq_true h,Bool.true_and] at q
  rw [show ∀ z:Int,z+z=2 * z from fun z=>by omega]
  exact q
 .rw [if_neg h]
  rw [decide_eq_false h,Bool.false_and] at q
  exact q
theorem ok_chained {f:Addr} {fd:FuncData} (F:Fun K "_law_chained" "_law_chained" ZBq f fd) (T:Bt K mg C_KeyRule C_NearRule C_RingRule C_TableRule C_VoteRule C_ChainRule C_AskedRule)
  (f_column:Fn P w K mg base CX0 "_law_column" 1 ["_law_one","_law_other","_law_at","_law_way"] (ZCh K))
 :FnOk P w K mg base CX0 2 f fd ["_law_one","_law_other","_law_gap","_law_way"] (ZCn K):=by
 refine F.ok sc_chained (fun vs H Q E h=>?_) (fun cdv A outer s H vs Q E hr h=>?_)
 .obtain ⟨x,y,gp,u,xi,yi,rfl,hx,hy,lx,ly,q⟩:=h
  rfl
 obtain ⟨x,y,gp,u,xi,yi,rfl,hx,hy,lx,ly,q⟩:=h
 refine ⟨_,(ZAD (ZA0 (ZAQ ZCy (ZAM ZCR (ZAS ZA2 (pv 1) ZAE (fun _ _=>rfl)) (ZAS ZA2 (pv 0) ZAE (fun _ _=>rfl))) (pv 2) (ZAI _))
  (ZAF (ZAR ZCG)) ZAV)
  (ZAD (ZA0 (ZAQ ZCy (ZAM ZCR (ZAS ZA2 (pv 0) ZAE (fun _ _=>rfl)) (ZAS ZA2 (pv 1) ZAE (fun _ _=>rfl))) (pv 2) (ZAI _))
  (ZAF (ZAR ZCG)) ZAV)
  (ZAF (ZAR (ZAm f_column (hr.mono (by decide)) rfl ZAW (ZAA (pv 0) (ZAA (pv 1) (ZAA ZAE (ZAA (pv 3) ZAC))))))))),?_⟩
 walk_at "rd"
 have ax:atI (xi.map V.int) 0=some (.int (at0 xi 0)):=ZAg (by omega) (ZBL (by omega) (by omega))
 have ay:atI (yi.map V.int) 0=some (.int (at0 yi 0)):=ZAg (by omega) (ZBL (by omega) (by omega))
 have e:befB [(false,[⟨2,0,gp⟩]),(false,[udP u 1])] xi yi=if gp < at0 yi 0-at0 xi 0 then true else if gp < at0 xi 0-at0 yi 0 then false else ZBO (udP u 1) xi yi:=by
  have p1:∀ a b:List Int,ZCa (false,[⟨2,0,gp⟩]) a b=decide (gp < at0 b 0-at0 a 0):=fun a b=>by
   unfold ZCa ZBO
   simp
  have p2:∀ a b:List Int,ZCa (false,[udP u 1]) a b=ZBO (udP u 1) a b:=fun a b=>by
   unfold ZCa
   simp
  unfold befB
  rw [p1,p1]
  by_cases h1:gp < at0 yi 0-at0 xi 0
  .rw [if_pos h1,if_pos (decide_eq_true h1)]
  .rw [if_neg h1,if_neg (by simpa using h1)]
   by_cases h2:gp < at0 xi 0-at0 yi 0
   .rw [if_pos h2,if_pos (decide_eq_true h2)]
   .rw [if_neg h2,if_neg (by simpa using h2)]
    unfold befB befB
    rw [p2,p2]
    rw [ZDb,ZDb]
    cases u
    .by_cases h3:at0 yi 1 < at0 xi 1
     .simp [h3]
     .simp [h3]
    .by_cases h3:at0 xi 1 < at0 yi 1
     .simp [h3]
     .simp [h3]
 rw [e] at q
 refine ZAq hy ay (ZAq hx ax ?_)
 walk_at "rd"
 by_cases h1:gp < at0 yi 0-at0 xi 0
 .rw [if_pos h1] at q ⊢
  exact q
 rw [if_neg h1] at q ⊢
 refine ZAq hx ax (ZAq hy ay ?_)
 walk_at "rd"
 by_cases h2:gp < at0 xi 0-at0 yi 0
 .rw [if_pos h2] at q ⊢
  exact q
 rw [if_neg h2] at q ⊢
 exact ⟨x,y,1,u,xi,yi,rfl,hx,hy,lx,ly,q⟩
theorem ok_votes {f:Addr} {fd:FuncData} (F:Fun K "_law_votes" "_law_votes" ZCX f fd) (T:Bt K mg C_KeyRule C_NearRule C_RingRule C_TableRule C_VoteRule C_ChainRule C_AskedRule)
  (f_column:Fn P w K mg base CX0 "_law_column" 1 ["_law_one","_law_other","_law_at","_law_way"] (ZCh K))
 :FnOk P w K mg base CX0 2 f fd ["_law_one","_law_other","_law_columns"] (ZC9 K):=by
 refine F.ok sc_votes (fun vs H Q E h=>?_) (fun cdv A outer s H vs Q E hr h=>?_)
 .obtain ⟨x,y,l,cs,cols,xi,yi,rfl,hx,hy,hl,hd,hc,q⟩:=h
  rfl
 obtain ⟨x,y,l,cs,cols,xi,yi,rfl,hx,hy,hl,hd,hc,q⟩:=h
 refine ⟨_,(ZAD (ZAa (i:=3) sc_votes.nd rfl (by walk_at "o") ZAE)
  (ZAD (ZBT PassesOwn.never rfl (ZAu (pv 2)) (ZCc (n:=2) rfl (ZA1 (ZAK (i:=4) sc_votes.nd rfl (by walk_at "o")) (ZA1 (ZAK (i:=5) sc_votes.nd rfl (by walk_at "o")) ZB6)))
  (ZAF (ZAa (i:=3) sc_votes.nd rfl (by walk_at "o") (ZAM ZCR (ZAM ZBK (pv 3) (ZBQ call_int1 rfl T.b_int PyProof.Rows.boot_int (ZAA (ZAm f_column (hr.mono (by decide)) rfl ZAW (ZAA (pv 0) (ZAA (pv 1) (ZAA (pv 4) (ZAA (pv 5) ZAC))))) ZAC))) (ZBQ call_int1 rfl T.b_int PyProof.Rows.boot_int (ZAA (ZAm f_column (hr.mono (by decide)) rfl ZAW (ZAA (pv 1) (ZAA (pv 0) (ZAA (pv 4) (ZAA (pv 5) ZAC))))) ZAC))))))
  (ZAF (ZAR (ZAo ZCy (pv 3) ZAE (ZAI _)))))),?_⟩
 walk_at "rd"
 have hcl:cs.length=cols.length:=by rw [hd.length,yAB]
 refine ZCb (SqL.of hl) (fun i σ X=>∃ v4 v5,σ=[some (.ref x),some (.ref y),some (.ref l),some (.int (vts ((cols.map fun c=>udP c.2 c.1.toNat).take i) xi yi)),v4,v5] /\ X=H) ⟨_,_,rfl,rfl⟩ (fun i σ X _ z=>?_) (fun i u σ X hu z=>?_) fun σ X z=>?_
 .obtain ⟨_,_,_,e⟩:=z
  rw [e];exact SqL.of hl
 .obtain ⟨v4,v5,rfl,rfl⟩:=z
  obtain ⟨c',t,ec,rfl,ht⟩:=ZC6 hd hu
  obtain ⟨b0,b1,b2⟩:=hc c' (yAC ec)
  have ei:c'.1=((c'.1.toNat:Nat):Int):=by omega
  have hp:(cols.map fun c=>udP c.2 c.1.toNat)[i]?=some (udP c'.2 c'.1.toNat):=by rw [yAJ,ec];rfl
  refine ZB8 ht rfl ?_
  rw [ei]
  walk_at "rd"
  refine ⟨x,y,c'.1.toNat,c'.2,xi,yi,rfl,hx,hy,b1,b2,.inr ⟨_,rfl,?_⟩⟩
  walk_at "rd"
  refine ⟨y,x,c'.1.toNat,c'.2,yi,xi,rfl,hy,hx,b2,b1,.inr ⟨_,rfl,?_⟩⟩
  walk_at "rd"
  rw [vts_next hp]
  exact ⟨_,_,rfl,trivial⟩
 obtain ⟨v4,v5,rfl,rfl⟩:=z
 walk_at "rd"
 rw [hcl,List.take_of_length_le (by rw [yAB];exact yAA _)]
 exact q
theorem ok_table_of {f:Addr} {fd:FuncData} (F:Fun K "_law_table_of" "_law_table_of" ZBd f fd) (T:Bt K mg C_KeyRule C_NearRule C_RingRule C_TableRule C_VoteRule C_ChainRule C_AskedRule)
  (f_reserve:Fn P w K mg base CX0 "_law_reserve" 1 ["_law_cell","_law_k"] (ZCM))
 :FnOk P w K mg base CX0 2 f fd ["_law_many","_law_cell"] (ZDd):=by
 refine F.ok sc_table_of (fun vs H Q E h=>?_) (fun cdv A outer s H vs Q E hr h=>?_)
 .obtain ⟨n,c,rfl,hn,q⟩:=h
  rfl
 obtain ⟨n,c,rfl,hn,q⟩:=h
 refine ⟨_,(ZAD (ZAa (i:=2) sc_table_of.nd rfl (by walk_at "o") (ZB7 ZAC))
  (ZAD (ZAa (i:=3) sc_table_of.nd rfl (by walk_at "o") (pv 1))
  (ZAD (ZBT PassesOwn.never rfl (ZA8 rfl T.b_range (ZAA (pv 0) ZAC)) (ZAK (i:=4) sc_table_of.nd rfl (by walk_at "o"))
  (ZAD (ZA0 (ZAQ ZB3 (pv 1) ZAE (ZAI _))
  (ZAF (ZAa (i:=1) sc_table_of.nd rfl (by walk_at "o") (ZAm f_reserve (hr.mono (by decide)) rfl ZAW (ZAA (pv 3) (ZAA (pv 4) ZAC))))) ZAV)
   (ZAl
  (ZAD (ZBW (ZDV PySem.F.plainAttrs_list PySem.F.slot_list_append PySem.F.type_list_append ZBX (pv 2) (ZAA (ZBP rfl (k:=1) (js:=[1]) (N':=["_law_q","_law_cell"]) (by rfl) (ZA8 rfl T.b_range (ZAA (pv 0) ZAC)) (fun _ _ _ _=>ZAK (i:=0) (show (["_law_q","_law_cell"]:List Str).Nodup by decide +kernel) rfl (by walk_at "o")) (fun _ _ _ _=>ZAs) (fun _ _ _ _=>(ZAo ZBR (ZAM ZAp (ZAM ZBF (pv 1) (ZAM op_shl ZAE (pv 0))) ZAE) ZAE (ZAI _)))) ZAC)))
  (ZAF (ZAa (i:=1) sc_table_of.nd rfl (by walk_at "o") (ZAM ZBF (pv 1) (ZAM op_shl ZAE (pv 0)))))))))
  (ZAF (ZAR (pv 2)))))),?_⟩
 walk_at "rd"
 refine ⟨ZAv (by decide),fun p hp=>?_⟩
 refine ZBz (by omega) (ZCK (fun i σ X=>∃ c' v4 rs rows,σ=[some (.int n),some (.int c'),some (.ref p),some (.int c),v4] /\ Same H X /\ X p=some (.lst rs) /\ MRw X rs rows /\ (∀ b,V.ref b∈rs->b≠p) /\ rows.length=i /\ ∀ row∈rows,row.length=n) ⟨c,_,[],[],rfl,ZAL hp _,ZAG,MRw.nil,(fun b h=>by cases h),rfl,fun row h=>by cases h⟩ (fun i σ X hi z=>?_) fun σ X z=>?_)
 .obtain ⟨c',v4,rs,rows,rfl,sX,hX,hR,hne,hlen,hw⟩:=z
  walk_at "rd"
  have hsm:rs.length+1 <= sizeLine:=by rw [hR.1,hlen];exact ZB4 (by omega)
  have pw:∀ j:Nat,j <= 20->CPow 1 (j:Int) /\ CDiv 0 (1 * 2 ^ ((j:Int)).toNat):=fun j hj=>by
   refine ⟨⟨by omega,by omega,by decide⟩,?_⟩
   rw [Int.toNat_natCast]
   have h1:(2:Nat) ^ j <= 2 ^ 20:=Nat.pow_le_pow_right (by decide) hj
   have h2:0 < (2:Nat) ^ j:=Nat.pow_pos (by decide)
   have e:(1 * 2 ^ j:Int)=((2 ^ j:Nat):Int):=by rw [Int.one_mul];norm_cast
   rw [e]
   exact ⟨by omega,by omega⟩
  apply onceX (fun d:Int=>[some (.int n),some (.int d),some (.ref p),some (.int c),some (.int (0+(i:Int)))]) (fun _=>X) (fun _=>True)
  .intro rest
   by_cases h1:c' < 1
   .rw [if_pos h1]
    exact ⟨c,_,rfl,by omega,by omega,fun d _=>rest d trivial⟩
   .rw [if_neg h1];exact rest c' trivial
  intro d _
  refine ZBE ?_
  walk_at "rd"
  refine ⟨.inl ⟨rfl,_,SqL.of hX⟩,?_⟩
  refine ZBv (by omega) (fun j ys σ Y=>∃ v row,σ=[v,some (.int d)] /\ Y=X /\ ys=List.map V.bl row /\ row.length=j) ⟨_,[],rfl,rfl,rfl,rfl⟩ (fun j ys σ Y z=>?_) (fun j ys σ Y hj z=>?_) fun ys σ Y z p2 hp2=>?_
  .obtain ⟨v,row,_,_,e,e2⟩:=z
   rw [e,yAB,e2];exact yAA _
  .obtain ⟨v,row,rfl,rfl,rfl,e2⟩:=z
   obtain ⟨w1,w2⟩:=pw j (by omega)
   walk_at "rd"
   rw [Int.zero_add]
   exact ⟨w1,w2,by decide,.of hj ⟨_,row++[_],rfl,rfl,by rw [yAW];rfl,by rw [yAD,e2];rfl⟩⟩
  obtain ⟨v,row,rfl,rfl,rfl,e2⟩:=z
  rw [Int.toNat_natCast] at e2
  have hpp:p2≠p:=fun z=>by rw [z,hX] at hp2;cases hp2
  have s2:=ZAL hp2 (.lst (row.map V.bl))
  obtain ⟨w1,w2⟩:=pw n (by omega)
  refine ⟨p,rs,_,rfl,rfl,s2 _ _ hX,hsm,?_⟩
  walk_at "rd"
  refine ⟨w1,w2,_,_,rs++[.ref p2],rows++[row],rfl,(sX.trans s2).upd hp,ZAG,((hR.mono s2).snoc ZAG).upd (fun b hb=>?_),fun b hb=>?_,by rw [yAD,hlen];rfl,fun r hr=>?_⟩
  .rcases yAU.mp hb with z | z
   .exact hne b z
   .cases yAO.mp z;exact hpp
  .rcases yAU.mp hb with z | z
   .exact hne b z
   .cases yAO.mp z;exact hpp
  .rcases yAU.mp hr with z | z
   .exact hw r z
   .rw [yAO.mp z];exact e2
 .obtain ⟨c',v4,rs,rows,rfl,sX,hX,hR,hne,hlen,hw⟩:=z
  walk_at "rd"
  exact q p X _ sX hp (MRw.mat hX hR (by omega) hw)
theorem ok_thing_of {f:Addr} {fd:FuncData} (F:Fun K "_law_thing_of" "_law_thing_of" ZBc f fd) (T:Bt K mg C_KeyRule C_NearRule C_RingRule C_TableRule C_VoteRule C_ChainRule C_AskedRule)
  (f_reserve:Fn P w K mg base CX0 "_law_reserve" 1 ["_law_cell","_law_k"] (ZCM))
  (f_signed:Fn P w K mg base CX0 "_law_signed" 1 ["_law_digit"] (ZDB))
 :FnOk P w K mg base CX0 2 f fd ["_law_cell","_law_width"] (ZCl):=by
 refine F.ok sc_thing_of (fun vs H Q E h=>?_) (fun cdv A outer s H vs Q E hr h=>?_)
 .obtain ⟨c,w,rfl,hw0,hw1,q⟩:=h
  rfl
 obtain ⟨c,w,rfl,hw0,hw1,q⟩:=h
 refine ⟨_,(ZAD (ZAa (i:=2) sc_thing_of.nd rfl (by walk_at "o") (ZB7 ZAC))
  (ZAD (ZAa (i:=3) sc_thing_of.nd rfl (by walk_at "o") (pv 0))
  (ZAD (ZBT PassesOwn.never rfl (ZA8 rfl T.b_range (ZAA ZAE ZAC)) (ZAK (i:=4) sc_thing_of.nd rfl (by walk_at "o"))
  (ZAD (ZA0 (ZAQ ZB3 (pv 0) ZAE (ZAI _))
  (ZAF (ZAa (i:=0) sc_thing_of.nd rfl (by walk_at "o") (ZAm f_reserve (hr.mono (by decide)) rfl ZAW (ZAA (pv 3) (ZAA (pv 4) ZAC))))) ZAV)
   (ZAl
  (ZAD (ZBW (ZDV PySem.F.plainAttrs_list PySem.F.slot_list_append PySem.F.type_list_append ZBX (pv 2) (ZAA (ZAm f_signed (hr.mono (by decide)) rfl ZAW (ZAA (ZAM ZAp (pv 0) (pv 1)) ZAC)) ZAC)))
  (ZAF (ZAa (i:=0) sc_thing_of.nd rfl (by walk_at "o") (ZAM op_fdivB (pv 0) (pv 1))))))))
  (ZAF (ZAR (ZB2 (ZAA (ZAS ZAU (pv 2) ZAE (fun _ _=>rfl)) (ZAA (ZAS ZAU (pv 2) ZAE (fun _ _=>rfl)) (ZAA (ZAS ZAU (pv 2) ZAE (fun _ _=>rfl)) ZAC))))))))),?_⟩
 walk_at "rd"
 refine ⟨ZAv (by decide),fun p hp=>?_⟩
 refine ZBz (by omega) (ZCK (fun i σ X=>∃ c' v4 ms,σ=[some (.int c'),some (.int w),some (.ref p),some (.int c),v4] /\ Same H X /\ X p=some (.lst (List.map V.int ms)) /\ ms.length=i) ⟨c,_,[],rfl,ZAL hp _,ZAG,rfl⟩ (fun i σ X hi z=>?_) fun σ X z=>?_)
 .obtain ⟨c',v4,ms,rfl,sX,hX,hlen⟩:=z
  walk_at "rd"
  apply onceX (fun d:Int=>[some (.int d),some (.int w),some (.ref p),some (.int c),some (.int (0+(i:Int)))]) (fun _=>X) (fun _=>True)
  .intro rest
   by_cases h1:c' < 1
   .rw [if_pos h1]
    exact ⟨c,_,rfl,by omega,by omega,fun d _=>rest d trivial⟩
   .rw [if_neg h1];exact rest c' trivial
  intro d _
  refine ZBE ?_
  walk_at "rd"
  refine ⟨.inl ⟨rfl,_,SqL.of hX⟩,hw0,_,rfl,Int.emod_nonneg _ (by omega),fun k=>⟨p,_,_,rfl,rfl,hX,by rw [yAB,hlen];exact ZB4 (by omega),?_⟩⟩
  walk_at "rd"
  exact ⟨⟨hw0,hw1⟩,_,_,ms++[k],rfl,sX.upd hp,by rw [ZAG,yAW];rfl,by rw [yAD,hlen];rfl⟩
 .obtain ⟨c',v4,ms,rfl,sX,hX,hlen⟩:=z
  obtain ⟨m0,m1,m2,rfl⟩:∃ m0 m1 m2,ms=[m0,m1,m2]:=by
   have hlen:ms.length=3:=hlen
   rcases ms with _ | ⟨m0,_ | ⟨m1,_ | ⟨m2,_ | ⟨m3,r⟩⟩⟩⟩
   .cases hlen
   .cases hlen
   .cases hlen
   .exact ⟨m0,m1,m2,rfl⟩
   .simp at hlen
  walk_at "rd"
  refine ZAY (SqL.of hX) (ZAb (by decide) rfl) (ZAY (SqL.of hX) (ZAb (by decide) rfl) (ZAY (SqL.of hX) (ZAb (by decide) rfl) ⟨ZAv (by decide),fun t ht=>?_⟩))
  exact q t _ [m0,m1,m2] (sX.trans (ZAL ht _)) ZAG rfl
theorem ok_table {f:Addr} {fd:FuncData} (F:Fun K "_law_table" "_law_table" ZCY f fd) (T:Bt K mg C_KeyRule C_NearRule C_RingRule C_TableRule C_VoteRule C_ChainRule C_AskedRule)
 :FnOk P w K mg base CX0 1 f fd ["_law_many","_law_cell","_law_turns"] (ZD4):=by
 refine F.ok sc_table (fun vs H Q E h=>?_) (fun cdv A outer s H vs Q E hr h=>?_)
 .obtain ⟨n,c,t,rfl,hn,q⟩:=h
  rfl
 obtain ⟨n,c,t,rfl,hn,q⟩:=h
 refine ⟨_,(ZAD (ZAa (i:=3) sc_table.nd rfl (by walk_at "o") (ZB7 ZAC))
  (ZAD (ZAa (i:=4) sc_table.nd rfl (by walk_at "o") (ZAM ZBK (ZAM ZAp (pv 1) ZAE) ZAE))
  (ZAD (ZBT PassesOwn.never rfl (ZA8 rfl T.b_range (ZAA (pv 0) ZAC)) (ZAK (i:=5) sc_table.nd rfl (by walk_at "o"))
  (ZAD (ZAa (i:=4) sc_table.nd rfl (by walk_at "o") (ZAM ZAp (ZAM ZBK (ZAM ZBK (ZAM ZBK (ZAM ZBa (pv 4) (pv 4)) (ZAM ZBa ZAE (pv 4))) (ZAM ZBa ZAE (pv 5))) ZAE) ZAE))
  (ZAF (ZBW (ZDV PySem.F.plainAttrs_list PySem.F.slot_list_append PySem.F.type_list_append ZBX (pv 3) (ZAA (ZAM ZAp (pv 4) (ZAM ZBK ZAE (ZAM ZAp (ZAM ZBF (pv 4) ZAE) (ZAX (call_max2 rfl) rfl T.b_max PyProof.Rows.boot_max (ZAA ZAE (ZAA (pv 0) ZAC)))))) ZAC))))))
  (ZAl
  (ZAD (ZBH (i:=6) sc_table.nd rfl (Or.inl rfl) rfl (k:=1) (js:=[0,3]) (N':=["_law_p","_law_many","_law_ranks_here"]) (by rfl) (ZA8 rfl T.b_range (ZAA (pv 0) ZAC)) (fun _ _ _ _=>ZAK (i:=0) (show (["_law_p","_law_many","_law_ranks_here"]:List Str).Nodup by decide +kernel) rfl (by walk_at "o")) (fun _ _ _ _=>ZAs) (fun _ _ _ _=>(ZBP rfl (k:=1) (js:=[2,0]) (N':=["_law_q","_law_ranks_here","_law_p"]) (by rfl) (ZA8 rfl T.b_range (ZAA (pv 1) ZAC)) (fun _ _ _ _=>ZAK (i:=0) (show (["_law_q","_law_ranks_here","_law_p"]:List Str).Nodup by decide +kernel) rfl (by walk_at "o")) (fun _ _ _ _=>ZAs) (fun _ _ _ _=>(ZAo ZB3 (ZAS (ZAf K) (pv 1) (pv 2) (fun _ _=>rfl)) (ZAS (ZAf K) (pv 1) (pv 0) (fun _ _=>rfl)) (ZAI _))))))
  (ZAl
  (ZAD (ZBT PassesOwn.never rfl (ZA8 rfl T.b_range (ZAA (ZAM ZBa (ZAM ZAp (pv 2) ZAE) (ZAX (call_min2 rfl) rfl T.b_min PyProof.Rows.boot_min (ZAA (pv 0) (ZAA ZAE ZAC)))) ZAC)) (ZAK (i:=5) sc_table.nd rfl (by walk_at "o"))
  (ZAD (ZAa (i:=7) sc_table.nd rfl (by walk_at "o") (ZAM ZAp (ZAM ZBK (ZAM ZBF (pv 4) (ZAM ZBK (ZAM ZBa ZAE (pv 5)) ZAE)) (ZAM ZBF (pv 2) ZAE)) (pv 0)))
  (ZAD (ZAa (i:=8) sc_table.nd rfl (by walk_at "o") (ZAM ZAp (ZAM ZBK (ZAM ZBF (pv 4) (ZAM ZBK (ZAM ZBa ZAE (pv 5)) ZAE)) (ZAM ZBF (pv 2) ZAE)) (pv 0)))
  (ZAF (ps_asg (ZDr (ZAS ZAU (ZAS ZAU (pv 6) (pv 7) (fun _ _=>rfl)) (pv 8) (fun _ _=>rfl))) (pg_sub (ZAS ZAU (pv 6) (pv 7) (fun _ _=>rfl)) (pv 8) set_list))))))
  (ZAl
  (ZAF (ZAR (pv 6))))))))))),?_⟩
 walk_at "rd"
 refine ⟨ZAv (by decide),fun p hp=>⟨by decide,?_⟩⟩
 refine ZBz (by omega) (ZCK (fun i σ X=>∃ z v5 ms,σ=[some (.int n),some (.int c),some (.int t),some (.ref p),some (.int z),v5,none,none,none] /\ (0 <= z /\ z < 4294967296) /\ Same H X /\ X p=some (.lst (List.map V.int ms)) /\ ms.length=i) ⟨c % 2147483629+48271,_,[],rfl,⟨by omega,by omega⟩,ZAL hp _,ZAG,rfl⟩ (fun i σ X hi z=>?_) fun σ X z=>?_)
 .obtain ⟨z,v5,ms,rfl,hz,sX,hX,hlen⟩:=z
  walk_at "rd"
  have hsm:(List.map V.int ms).length+1 <= sizeLine:=by rw [yAB,hlen];exact ZB4 (by omega)
  refine ⟨.inl ⟨by omega,by omega⟩,.inl ⟨by decide,by decide⟩,.inl ⟨by decide,by decide⟩,by decide,.inl ⟨rfl,_,SqL.of hX⟩,⟨by decide,by decide⟩,1,(n:Int),rfl,?_⟩
  have hmx:(0:Int) < if (n:Int) > 1 then (n:Int) else 1:=by split <;> omega
  generalize (if (n:Int) > 1 then (n:Int) else 1)=mx at hmx ⊢
  have hb:0 <= (z * z+48271 * z+7 * (0+(i:Int))+1) % 2147483629 /\ (z * z+48271 * z+7 * (0+(i:Int))+1) % 2147483629 < 2147483629:=⟨Int.emod_nonneg _ (by decide),Int.emod_lt_of_pos _ (by decide)⟩
  generalize (z * z+48271 * z+7 * (0+(i:Int))+1) % 2147483629=z2 at hb ⊢
  have h2:=Int.emod_nonneg (z2 / 3000) (show mx≠0 by omega)
  refine ⟨hmx,by omega,p,_,_,rfl,rfl,hX,hsm,z2,_,ms++[_],rfl,⟨hb.1,by omega⟩,sX.upd hp,by rw [ZAG,yAW];rfl,by rw [yAD,hlen];rfl⟩
 obtain ⟨z,v5,ms,rfl,hz,sX,hX,hlen⟩:=z
 have hml:ms.length=n:=by omega
 walk_at "rd"
 refine ZBE ?_
 walk_at "rd"
 refine ZBv (by omega) (fun i ys σ Y=>∃ v rows,σ=[v,some (.int n),some (.ref p)] /\ Same X Y /\ MRw Y ys rows /\ ys.Nodup /\ (∀ b,V.ref b∈ys->X b=none) /\ rows.length=i /\ ∀ row∈rows,row.length=n) ⟨_,[],rfl,.refl _,MRw.nil,List.nodup_nil,(fun b h=>by cases h),rfl,fun row h=>by cases h⟩ (fun i ys σ Y z=>?_) (fun i ys σ Y hi z=>?_) fun ys σ Y z p2 hp2=>?_
 .obtain ⟨v,rows,_,_,e,_,_,e2,_⟩:=z
  rw [e.1,e2];exact yAA _
 .obtain ⟨v,rows,rfl,sY,hR,hnd,hfr,hrl,hw⟩:=z
  have hi':i < ms.length:=by omega
  have aI:atI (ms.map V.int) (0+(i:Int))=some (.int ms[i]):=ZAg (by omega) (by rw [show (0+(i:Int)).toNat=i by omega];exact yAH hi')
  have hXp:=SqL.of (K:=K) (sY _ _ hX)
  walk_at "rd"
  refine ZBv (by omega) (fun j zs σ Z=>∃ v row,σ=[v,some (.ref p),some (.int (0+(i:Int)))] /\ Z=Y /\ zs=List.map V.bl row /\ row.length=j) ⟨_,[],rfl,rfl,rfl,rfl⟩ (fun j zs σ Z z=>?_) (fun j zs σ Z hj z=>?_) fun zs σ Z z p3 hp3=>?_
  .obtain ⟨v,row,_,_,e,e2⟩:=z
   rw [e,yAB,e2];exact yAA _
  .obtain ⟨v,row,rfl,rfl,rfl,e2⟩:=z
   have hj':j < ms.length:=by omega
   have aJ:atI (ms.map V.int) (0+(j:Int))=some (.int ms[j]):=ZAg (by omega) (by rw [show (0+(j:Int)).toNat=j by omega];exact yAH hj')
   walk_at "rd"
   refine ZAY hXp aI (ZAY hXp aJ ?_)
   walk_at "rd"
   exact .of hj ⟨_,row++[_],rfl,rfl,by rw [yAW];rfl,by rw [yAD,e2];rfl⟩
  obtain ⟨v,row,rfl,rfl,rfl,e2⟩:=z
  rw [Int.toNat_natCast] at e2
  refine .of hi ⟨_,rows++[row],rfl,sY.trans (ZAL hp3 _),(hR.mono (ZAL hp3 _)).snoc ZAG,?_,fun b hb=>?_,by rw [yAD,hrl];rfl,fun r hr=>?_⟩
  .refine List.nodup_append.mpr ⟨hnd,by simp,fun a ha b hb=>?_⟩
   rw [yAO.mp hb]
   intro z
   rw [z] at ha
   obtain ⟨_,b1⟩:=hR.alive ha
   rw [hp3] at b1;cases b1
  .rcases yAU.mp hb with z | z
   .exact hfr b z
   .cases yAO.mp z;exact sY.free hp3
  .rcases yAU.mp hr with z | z
   .exact hw r z
   .rw [yAO.mp z];exact e2
 obtain ⟨v,rows,rfl,sY,hR,hnd,hfr,hrl,hw⟩:=z
 rw [Int.toNat_natCast] at hrl
 have s2:=ZAL hp2 (.lst ys)
 have hR2:=hR.mono s2
 have S2:=sX.trans (sY.trans s2)
 have hn2:H p2=none:=sX.free (sY.free hp2)
 have hfr2:∀ b,V.ref b∈ys->H b=none:=fun b hb=>sX.free (hfr b hb)
 have hT2:upd Y p2 (.lst ys) p2=some (.lst ys):=ZAG
 have hne2:∀ b,V.ref b∈ys->b≠p2:=fun b hb z=>by
  obtain ⟨_,b1⟩:=hR.alive hb
  rw [z,hp2] at b1;cases b1
 generalize upd Y p2 (.lst ys)=Y2 at hR2 S2 hT2 ⊢
 clear s2 hR sY hp2 hfr hX sX
 refine ZBE ?_
 walk_at "rd"
 refine ⟨by decide,(n:Int),1,rfl,.inl ⟨by omega,by omega⟩,?_⟩
 have hz0:n=0->t % 4 * (if (1:Int) < (n:Int) then 1 else (n:Int))=0:=fun e=>by rw [e];simp
 have hb4:0 <= t % 4 * (if (1:Int) < (n:Int) then 1 else (n:Int)) /\ t % 4 * (if (1:Int) < (n:Int) then 1 else (n:Int)) <= 3:=by
  split
  .omega
  .have:(n:Int)=0∨(n:Int)=1:=by omega
   rcases this with e | e <;> rw [e] <;> omega
 generalize t % 4 * (if (1:Int) < (n:Int) then 1 else (n:Int))=reps at hz0 hb4 ⊢
 refine ZBz (by omega) (ZCK (fun i σ X=>∃ v5 v7 v8 rows,σ=[some (.int n),some (.int c),some (.int t),some (.ref p),some (.int z),v5,some (.ref p2),v7,v8] /\ Same H X /\ X p2=some (.lst ys) /\ MRw X ys rows /\ rows.length=n /\ ∀ row∈rows,row.length=n) ⟨_,_,_,rows,rfl,S2,hT2,hR2,hrl,hw⟩ (fun i σ X hi z=>?_) fun σ X z=>?_)
 .obtain ⟨v5,v7,v8,rows,rfl,sX,hX,hR,hrl,hw⟩:=z
  have hn0:0 < n:=Nat.pos_of_ne_zero fun e=>by have:=hz0 e;omega
  walk_at "rd"
  refine ⟨.inl ⟨by decide,by decide⟩,⟨by omega,by omega⟩,⟨by decide,by decide⟩,by omega,.inl ⟨by decide,by decide⟩,⟨by omega,by omega⟩,⟨by decide,by decide⟩,by omega,?_⟩
  have pa:=Int.emod_nonneg (z / (7 * (0+(i:Int))+1)+t / 4) (show (n:Int)≠0 by omega)
  have pb:=Int.emod_lt_of_pos (z / (7 * (0+(i:Int))+1)+t / 4) (show (0:Int) < (n:Int) by omega)
  have qa:=Int.emod_nonneg (z / (11 * (0+(i:Int))+3)+t / 28) (show (n:Int)≠0 by omega)
  have qb:=Int.emod_lt_of_pos (z / (11 * (0+(i:Int))+3)+t / 28) (show (0:Int) < (n:Int) by omega)
  generalize (z / (7 * (0+(i:Int))+1)+t / 4) % (n:Int)=pp at pa pb ⊢
  generalize (z / (11 * (0+(i:Int))+3)+t / 28) % (n:Int)=qq at qa qb ⊢
  have hpl:pp.toNat < rows.length:=by omega
  obtain ⟨r,a1,b1⟩:=hR.2 pp.toNat rows[pp.toNat] (yAH hpl)
  have hrw:=hw rows[pp.toNat] (List.getElem_mem hpl)
  have hql:qq.toNat < rows[pp.toNat].length:=by omega
  have aP:atI ys pp=some (.ref r):=ZAb pa a1
  have aQ:atI (rows[pp.toNat].map V.bl) qq=some (.bl (rows[pp.toNat])[qq.toNat]):=ZAb qa (by rw [yAJ,yAH hql];rfl)
  refine ZAY (SqL.of hX) aP (ZAY (SqL.of b1) aQ ⟨_,rfl,ZAY (SqL.of hX) aP ?_⟩)
  have hmem:V.ref r∈ys:=yAC a1
  have em:(rows[pp.toNat].map V.bl).set qq.toNat (V.bl !(rows[pp.toNat])[qq.toNat])=(rows[pp.toNat].set qq.toNat (!(rows[pp.toNat])[qq.toNat])).map V.bl:=by rw [List.map_set]
  refine ⟨r,_,qq,qq.toNat,rfl,rfl,b1,ixN_of qa (by rw [yAB];omega),?_⟩
  rw [em]
  refine ⟨_,_,_,rows.set pp.toNat (rows[pp.toNat].set qq.toNat (!(rows[pp.toNat])[qq.toNat])),rfl,sX.upd (hfr2 r hmem),by rw [ZAO (Ne.symm (hne2 r hmem))];exact hX,hR.flip hnd a1,by rw [List.length_set];exact hrl,fun row hrow=>?_⟩
  rcases List.mem_or_eq_of_mem_set hrow with z | z
  .exact hw row z
  .rw [z,List.length_set];exact hrw
 .obtain ⟨v5,v7,v8,rows,rfl,sX,hX,hR,hrl,hw⟩:=z
  walk_at "rd"
  refine ZBE ?_
  walk_at "rd"
  exact q p2 X _ sX hn2 (MRw.mat hX hR hrl hw)
theorem ok_due {f:Addr} {fd:FuncData} (F:Fun K "_law_due" "_law_due" ZDx f fd) (T:Bt K mg C_KeyRule C_NearRule C_RingRule C_TableRule C_VoteRule C_ChainRule C_AskedRule)
  (f_rung:Fn P w K mg base CX0 "_law_rung" 1 ["_law_one","_law_other","_law_size"] (ZD5 K))
  (f_votes:Fn P w K mg base CX0 "_law_votes" 2 ["_law_one","_law_other","_law_columns"] (ZC9 K))
  (f_chained:Fn P w K mg base CX0 "_law_chained" 2 ["_law_one","_law_other","_law_gap","_law_way"] (ZCn K))
 :FnOk P w K mg base CX0 3 f fd ["_law_kind","_law_row","_law_table_here","_law_number","_law_columns"] (ZEQ K):=by
 refine F.ok sc_due (fun vs H Q E h=>?_) (fun cdv A outer s H vs Q E hr h=>?_)
 .obtain ⟨kd,nb,rw,tb,cl,xs,cs,ts,sz,m,cols,u0,rfl,hrw,hX,hM,hcl,hd,hD,q⟩:=h
  rfl
 obtain ⟨kd,nb,rw,tb,cl,xs,cs,ts,sz,m,cols,u0,rfl,hrw,hX,hM,hcl,hd,hD,q⟩:=h
 refine ⟨_,(ZAD (ZAa (i:=5) sc_due.nd rfl (by walk_at "o") (ZB7 ZAC))
  (ZAD (ZBT PassesOwn.never rfl (ZAu (pv 1)) (ZAK (i:=6) sc_due.nd rfl (by walk_at "o"))
  (ZAF (ZA0 (ZAQ ZB3 (pv 0) ZAE (ZAI _))
  (ZAF (ZBW (ZDV PySem.F.plainAttrs_list PySem.F.slot_list_append PySem.F.type_list_append ZBX (pv 5) (ZAA (ZBP rfl (k:=1) (js:=[2,6]) (N':=["_law_other","_law_table_here","_law_one"]) (by rfl) (ZAu (pv 1)) (fun _ _ _ _=>ZAK (i:=0) (show (["_law_other","_law_table_here","_law_one"]:List Str).Nodup by decide +kernel) rfl (by walk_at "o")) (fun _ _ _ _=>ZAs) (fun _ _ _ _=>(ZAS (ZAf K) (ZAS (ZAf K) (pv 1) (ZAS (IxR.or (ZAf K) (ZCv K)) (pv 2) ZAE (fun _ _=>rfl)) (fun _ _=>rfl)) (ZAS (IxR.or (ZAf K) (ZCv K)) (pv 0) ZAE (fun _ _=>rfl)) (fun _ _=>rfl)))) ZAC))))
  (ZAF (ZA0 (ZAQ ZBR (pv 0) ZAE (ZAI _))
  (ZAF (ZBW (ZDV PySem.F.plainAttrs_list PySem.F.slot_list_append PySem.F.type_list_append ZBX (pv 5) (ZAA (ZBP rfl (k:=1) (js:=[6,3]) (N':=["_law_other","_law_one","_law_number"]) (by rfl) (ZAu (pv 1)) (fun _ _ _ _=>ZAK (i:=0) (show (["_law_other","_law_one","_law_number"]:List Str).Nodup by decide +kernel) rfl (by walk_at "o")) (fun _ _ _ _=>ZAs) (fun _ _ _ _=>(ZAo ZCy (ZAM ZCR (ZAS (IxR.or (ZAf K) (ZCv K)) (pv 0) ZAE (fun _ _=>rfl)) (ZAS (IxR.or (ZAf K) (ZCv K)) (pv 1) ZAE (fun _ _=>rfl))) (pv 2) (ZAI _)))) ZAC))))
  (ZAF (ZA0 (ZAQ ZBR (pv 0) ZAE (ZAI _))
  (ZAF (ZBW (ZDV PySem.F.plainAttrs_list PySem.F.slot_list_append PySem.F.type_list_append ZBX (pv 5) (ZAA (ZBP rfl (k:=1) (js:=[6,3]) (N':=["_law_other","_law_one","_law_number"]) (by rfl) (ZAu (pv 1)) (fun _ _ _ _=>ZAK (i:=0) (show (["_law_other","_law_one","_law_number"]:List Str).Nodup by decide +kernel) rfl (by walk_at "o")) (fun _ _ _ _=>ZAs) (fun _ _ _ _=>(ZAm f_rung (hr.mono (by decide)) rfl ZAW (ZAA (pv 1) (ZAA (pv 0) (ZAA (ZAM ZBK (pv 2) ZAE) ZAC)))))) ZAC))))
  (ZAF (ZA0 (ZAQ ZBR (pv 0) ZAE (ZAI _))
  (ZAF (ZBW (ZDV PySem.F.plainAttrs_list PySem.F.slot_list_append PySem.F.type_list_append ZBX (pv 5) (ZAA (ZBP rfl (k:=1) (js:=[6,4]) (N':=["_law_other","_law_one","_law_columns"]) (by rfl) (ZAu (pv 1)) (fun _ _ _ _=>ZAK (i:=0) (show (["_law_other","_law_one","_law_columns"]:List Str).Nodup by decide +kernel) rfl (by walk_at "o")) (fun _ _ _ _=>ZAs) (fun _ _ _ _=>(ZAm f_votes (hr.mono (by decide)) rfl ZAW (ZAA (pv 1) (ZAA (pv 0) (ZAA (pv 2) ZAC)))))) ZAC))))
  (ZAF (ZBW (ZDV PySem.F.plainAttrs_list PySem.F.slot_list_append PySem.F.type_list_append ZBX (pv 5) (ZAA (ZBP rfl (k:=1) (js:=[6,3,4]) (N':=["_law_other","_law_one","_law_number","_law_columns"]) (by rfl) (ZAu (pv 1)) (fun _ _ _ _=>ZAK (i:=0) (show (["_law_other","_law_one","_law_number","_law_columns"]:List Str).Nodup by decide +kernel) rfl (by walk_at "o")) (fun _ _ _ _=>ZAs) (fun _ _ _ _=>(ZAm f_chained (hr.mono (by decide)) rfl ZAW (ZAA (pv 1) (ZAA (pv 0) (ZAA (pv 2) (ZAA (ZAS (ZCv K) (ZAS (ZAf K) (pv 3) ZAE (fun _ _=>rfl)) ZAE (fun _ _=>rfl)) ZAC))))))) ZAC)))))))))))))
  (ZAF (ZAR (pv 5))))),?_⟩
 walk_at "rd"
 refine ⟨ZAv (by decide),fun p hp=>?_⟩
 have hxl:=hX.len
 have hlen:=hD.len
 have hrw1:=ZAL hp (.lst []) _ _ hrw
 refine ZCb (SqL.of hrw1) (fun i σ X=>∃ v6 rs,σ=[some (.int kd),some (.ref rw),some (.ref tb),some (.int nb),some (.ref cl),some (.ref p),v6] /\ Same H X /\ X p=some (.lst rs) /\ rs.length=i /\ (∀ b,V.ref b∈rs->b≠p) /\ ∀ a,a < i->∃ r,rs[a]?=some (V.ref r) /\ X r=some (.lst ((List.range ts.length).map fun b=>V.bl (gM kd nb m cols u0 ts a b)))) ⟨_,[],rfl,ZAL hp _,ZAG,rfl,(fun b h=>by cases h),fun a h=>by omega⟩ (fun i σ X _ z=>?_) (fun i x σ X hx z=>?_) fun σ X z=>?_
 .obtain ⟨_,_,_,e,_⟩:=z
  exact SqL.of (e _ _ hrw)
 .obtain ⟨v6,rs,rfl,sX,hXp,hrl,hne,hall⟩:=z
  obtain ⟨t,a,ht,rfl,ha⟩:=(hX.mono sX).at hx
  have hti:=yAC ht
  have hil:i < ts.length:=(yAE.mp ht).1
  have hgt:ts.getD i []=t:=by rw [yBA,ht];rfl
  have hsm:rs.length+1 <= sizeLine:=by rw [hrl];exact ZB4 (by omega)
  have tail:∀ (Y:Hp) (zs:List V) (p3:Addr),Same X Y->Y p3=none->zs=(List.range ts.length).map (fun b=>V.bl (gM kd nb m cols u0 ts i b))->upd Y p3 (.lst zs) p=some (.lst rs) /\ Same H (upd (upd Y p3 (.lst zs)) p (.lst (rs++[.ref p3]))) /\ (∀ b,V.ref b∈rs++[V.ref p3]->b≠p) /\ ∀ a,a < i+1->∃ r,(rs++[V.ref p3])[a]?=some (V.ref r) /\ (upd (upd Y p3 (.lst zs)) p (.lst (rs++[.ref p3]))) r=some (.lst ((List.range ts.length).map fun b=>V.bl (gM kd nb m cols u0 ts a b))):=by
   intro Y zs p3 sY hp3 hz
   have s3:=ZAL hp3 (.lst zs)
   have hpp:p3≠p:=fun z=>by rw [z,sY _ _ hXp] at hp3;cases hp3
   have hne':∀ b,V.ref b∈rs++[V.ref p3]->b≠p:=fun b hb=>by
    rcases yAU.mp hb with z | z
    .exact hne b z
    .cases yAO.mp z;exact hpp
   refine ⟨s3 _ _ (sY _ _ hXp),(sX.trans (sY.trans s3)).upd hp,hne',fun a ha=>?_⟩
   by_cases hai:a < i
   .obtain ⟨r,r1,r2⟩:=hall a hai
    have r1':(rs++[V.ref p3])[a]?=some (V.ref r):=by rw [yAN (by omega)];exact r1
    exact ⟨r,r1',by rw [ZAO (hne' r (yAC r1'))];exact s3 _ _ (sY _ _ r2)⟩
   .rw [show a=i by omega]
    exact ⟨p3,by rw [<- hrl,yAS (yAA _),yAV];rfl,by rw [ZAO hpp,ZAG,hz]⟩
  have ix0:∀ {t:List Int} {a:Addr} {Q':VK},0 < t.length->((kd=0 /\ X a=some (.lst (t.map V.int)))∨(kd≠0 /\ X a=some (.tup (t.map V.int))))->Q' (.int (at0 t 0)) X->(rIxL K (.ref a) (.int 0) X Q'∨rIxT K (.ref a) (.int 0) X Q'):=fun {t a Q'} h0 h k=>by
   have ax:atI (t.map V.int) 0=some (.int (at0 t 0)):=ZAg (by omega) (ZBL (by omega) (by omega))
   rcases h with ⟨_,h⟩ | ⟨_,h⟩
   .exact .inl (ZAY (SqL.of h) ax k)
   .exact .inr (ZAq (SqT.of h) ax k)
  have hrwX:=sX _ _ hrw
  have hxx:xs.length <= 1000:=by omega
  walk_at "rd"
  by_cases k2:kd < 2
  .rw [if_pos k2]
   refine ⟨.inl ⟨rfl,_,SqL.of hXp⟩,ZCw (SqL.of hrwX) hxx (rest:=[some (.ref tb),some (.ref a)]) rfl (gM kd nb m cols u0 ts i) (fun j y hy Q' k=>?_) fun p3 hp3=>?_⟩
   .obtain ⟨u,b,hu,rfl,hb⟩:=(hX.mono sX).at hy
    obtain ⟨l1,n1,z1⟩:=hD.small k2 t hti
    obtain ⟨l2,n2,z2⟩:=hD.small k2 u (yAC hu)
    obtain ⟨rs',hl',hrl',hm'⟩:=hM.mono sX
    obtain ⟨r,r1,r2⟩:=hm' _ z1
    walk_at "rd"
    refine ix0 l1 ha ?_
    refine ZAY (SqL.of hl') (ZAb n1 r1) ?_
    refine ix0 l2 hb ?_
    refine ZAY (SqL.of r2) (by have:=ZCq (g:=fun q=>V.bl (m (at0 t 0).toNat q)) z2;rw [show (((at0 u 0).toNat:Nat):Int)=at0 u 0 by omega] at this;exact this) ?_
    unfold gM gbK at k
    rw [hgt,show ts.getD j []=u by rw [yBA,hu];rfl,if_pos k2] at k
    exact k
   .rw [hxl]
    obtain ⟨c1,c2,c3,c4⟩:=tail X _ p3 (.refl _) hp3 rfl
    exact ⟨p,rs,_,rfl,rfl,c1,hsm,_,_,rfl,c2,ZAG,by rw [yAD,hrl];rfl,c3,c4⟩
  rw [if_neg k2]
  have h3:∀ t∈ts,t.length=3:=hD.three (by omega)
  have tup:∀ {t:List Int} {a:Addr},((kd=0 /\ X a=some (.lst (t.map V.int)))∨(kd≠0 /\ X a=some (.tup (t.map V.int))))->SqT K X a (t.map V.int):=fun {t a} h=>by
   rcases h with ⟨z,_⟩ | ⟨_,h⟩
   .omega
   .exact SqT.of h
  have l1:=h3 t hti
  have fin:∀ p3,X p3=none->rAppend (.ref p) [.ref p3] (upd X p3 (.lst ((List.range xs.length).map fun j=>V.bl (gM kd nb m cols u0 ts i j)))) fun _ H1=>∃ v6 rs,[some (V.int kd),some (V.ref rw),some (V.ref tb),some (V.int nb),some (V.ref cl),some (V.ref p),some (V.ref a)]=[some (V.int kd),some (V.ref rw),some (V.ref tb),some (V.int nb),some (V.ref cl),some (V.ref p),v6] /\ Same H H1 /\ H1 p=some (HO.lst rs) /\ rs.length=i+1 /\ (∀ (b:Addr),V.ref b∈rs->b≠p) /\ ∀ (a:Nat),a < i+1->∃ r,rs[a]?=some (V.ref r) /\ H1 r=some (HO.lst (List.map (fun b=>V.bl (gM kd nb m cols u0 ts a b)) (List.range ts.length))):=fun p3 hp3=>by
   rw [hxl]
   obtain ⟨c1,c2,c3,c4⟩:=tail X _ p3 (.refl _) hp3 rfl
   exact ⟨p,rs,_,rfl,rfl,c1,hsm,_,_,rfl,c2,ZAG,by rw [yAD,hrl];rfl,c3,c4⟩
  by_cases e2:kd=2
  .rw [if_pos e2]
   refine ⟨.inl ⟨rfl,_,SqL.of hXp⟩,ZCw (SqL.of hrwX) hxx (rest:=[some (.ref a),some (.int nb)]) rfl (gM kd nb m cols u0 ts i) (fun j y hy Q' k=>?_) fin⟩
   obtain ⟨u,b,hu,rfl,hb⟩:=(hX.mono sX).at hy
   have l2:=h3 u (yAC hu)
   unfold gM gbK at k
   rw [hgt,show ts.getD j []=u by rw [yBA,hu];rfl,if_neg k2,if_pos e2] at k
   walk_at "rd"
   refine ix0 (by omega) hb (ix0 (by omega) ha ?_)
   walk_at "rd"
   exact k
  rw [if_neg e2]
  by_cases e3:kd=3
  .rw [if_pos e3]
   refine ⟨.inl ⟨rfl,_,SqL.of hXp⟩,ZCw (SqL.of hrwX) hxx (rest:=[some (.ref a),some (.int nb)]) rfl (gM kd nb m cols u0 ts i) (fun j y hy Q' k=>?_) fin⟩
   obtain ⟨u,b,hu,rfl,hb⟩:=(hX.mono sX).at hy
   have l2:=h3 u (yAC hu)
   have hnb:=hD.nb0
   unfold gM gbK at k
   rw [hgt,show ts.getD j []=u by rw [yBA,hu];rfl,if_neg k2,if_neg e2,if_pos e3] at k
   walk_at "rd"
   exact ⟨a,b,_,t,u,rfl,tup ha,tup hb,by omega,by omega,by omega,k⟩
  rw [if_neg e3]
  by_cases e4:kd=4
  .rw [if_pos e4]
   refine ⟨.inl ⟨rfl,_,SqL.of hXp⟩,ZCw (SqL.of hrwX) hxx (rest:=[some (.ref a),some (.ref cl)]) rfl (gM kd nb m cols u0 ts i) (fun j y hy Q' k=>?_) fin⟩
   obtain ⟨u,b,hu,rfl,hb⟩:=(hX.mono sX).at hy
   have l2:=h3 u (yAC hu)
   unfold gM gbK at k
   rw [hgt,show ts.getD j []=u by rw [yBA,hu];rfl,if_neg k2,if_neg e2,if_neg e3,if_pos e4] at k
   walk_at "rd"
   exact ⟨a,b,cl,cs,cols,t,u,rfl,tup ha,tup hb,sX _ _ hcl,hd.mono sX,fun c hc=>by have:=hD.cl c hc;omega,k⟩
  rw [if_neg e4]
  obtain ⟨k0,hk0⟩:=hD.c0
  refine ⟨.inl ⟨rfl,_,SqL.of hXp⟩,ZCw (SqL.of hrwX) hxx (rest:=[some (.ref a),some (.int nb),some (.ref cl)]) rfl (gM kd nb m cols u0 ts i) (fun j y hy Q' k=>?_) fin⟩
  obtain ⟨u,b,hu,rfl,hb⟩:=(hX.mono sX).at hy
  have l2:=h3 u (yAC hu)
  unfold gM gbK at k
  rw [hgt,show ts.getD j []=u by rw [yBA,hu];rfl,if_neg k2,if_neg e2,if_neg e3,if_neg e4] at k
  obtain ⟨v0,hv0⟩:∃ v0,cs[0]?=some v0:=⟨_,yAH (by have:=(yAE.mp hk0).1;rw [hd.length,yAB];exact this)⟩
  obtain ⟨c',tt,ec,rfl,htt⟩:=ZC6 hd hv0
  rw [hk0] at ec
  cases ec
  walk_at "rd"
  refine ZAY (SqL.of (sX _ _ hcl)) (ZAb (by decide) hv0) (ZAq (sX.seqT htt) (ZAb (by decide) rfl) ?_)
  exact ⟨a,b,nb,u0,t,u,rfl,tup ha,tup hb,by omega,by omega,k⟩
 .obtain ⟨v6,rs,rfl,sX,hXp,hrl,hne,hall⟩:=z
  walk_at "rd"
  exact q p X sX hp ⟨rs,hXp,by omega,fun a ha=>hall a (by omega)⟩
theorem ok_rule {f:Addr} {fd:FuncData} (F:Fun K "_law_rule" "_law_rule" ZC2 f fd) (T:Bt K mg C_KeyRule C_NearRule C_RingRule C_TableRule C_VoteRule C_ChainRule C_AskedRule)
  (f_teller:Fn P w K mg base CX0 "_law_teller" 1 ["_law_table_here"] (ZDp Pt_teller (ZDu ZAN) "_law_teller_here" "_law_teller.<locals>._law_teller_here" (ZAJ ZAN) (ZAH ZAN) (ZAB ZAN) ["_law_table_here"] [0] 1))
  (k_ChainRule:Kl P w K mg base CX0 "ChainRule" C_ChainRule 1 ["self","rules"] (ZCI C_ChainRule))
  (k_AskedRule:Kl P w K mg base CX0 "AskedRule" C_AskedRule 1 ["self","teller"] (ZCo C_AskedRule))
  (k_TableRule:Kl P w K mg base CX0 "TableRule" C_TableRule 2 ["self","at","table"] (ZCm C_TableRule))
  (k_NearRule:Kl P w K mg base CX0 "NearRule" C_NearRule 2 ["self","at","gap"] (ZCB C_NearRule))
  (k_RingRule:Kl P w K mg base CX0 "RingRule" C_RingRule 2 ["self","at","size"] (ZCT C_RingRule))
  (k_VoteRule:Kl P w K mg base CX0 "VoteRule" C_VoteRule 1 ["self","rules"] (ZCI C_VoteRule))
  (k_KeyRule:Kl P w K mg base CX0 "KeyRule" C_KeyRule 3 ["self","columns"] (ZCN K C_KeyRule))
 :FnOk P w K mg base CX0 5 f fd ["_law_kind","_law_table_here","_law_number","_law_columns"] (ZDC K C_AskedRule C_TableRule C_KeyRule C_NearRule C_RingRule C_VoteRule C_ChainRule Pt_teller):=by
 refine F.ok sc_rule (fun vs H Q E h=>?_) (fun cdv A outer s H vs Q E hr h=>?_)
 .obtain ⟨kd,nb,tb,cl,xs,cs,ts,sz,m,cols,u0,rfl,hT,hX,hM,hsz,hcl,hd,hD,hc10,hk0,hk5,q⟩:=h
  rfl
 obtain ⟨kd,nb,tb,cl,xs,cs,ts,sz,m,cols,u0,rfl,hT,hX,hM,hsz,hcl,hd,hD,hc10,hk0,hk5,q⟩:=h
 refine ⟨_,(ZAD (ZA0 (ZAQ ZBR (pv 0) ZAE (ZAI _))
  (ZAF (ZAR (ZDI k_AskedRule (hr.mono (by decide)) rfl ZAW (ZAA (ZAm f_teller (hr.mono (by decide)) rfl ZAW (ZAA (pv 1) ZAC)) ZAC)))) ZAV)
  (ZAD (ZA0 (ZAQ ZBR (pv 0) ZAE (ZAI _))
  (ZAF (ZAR (ZDI k_TableRule (hr.mono (by decide)) rfl ZAW (ZAA ZAE (ZAA (pv 1) ZAC))))) ZAV)
  (ZAD (ZA0 (ZAQ ZBR (pv 0) ZAE (ZAI _))
  (ZAF (ZAR (ZDI k_NearRule (hr.mono (by decide)) rfl ZAW (ZAA ZAE (ZAA (pv 2) ZAC))))) ZAV)
  (ZAD (ZA0 (ZAQ ZBR (pv 0) ZAE (ZAI _))
  (ZAF (ZAR (ZDI k_RingRule (hr.mono (by decide)) rfl ZAW (ZAA ZAE (ZAA (ZAM ZBK (pv 2) ZAE) ZAC))))) ZAV)
  (ZAD (ZA0 (ZAQ ZBR (pv 0) ZAE (ZAI _))
  (ZAF (ZAR (ZDI k_VoteRule (hr.mono (by decide)) rfl ZAW (ZAA (ZBP rfl (k:=1) (js:=[]) (N':=["_law_column_here"]) (by rfl) (ZAu (pv 3)) (fun _ _ _ _=>ZAK (i:=0) (show (["_law_column_here"]:List Str).Nodup by decide +kernel) rfl (by walk_at "o")) (fun _ _ _ _=>ZAs) (fun _ _ _ _=>(ZDI k_KeyRule (hr.mono (by decide)) rfl ZAW (ZAA (ZB7 (ZAA (pv 0) ZAC)) ZAC)))) ZAC)))) ZAV)
  (ZAF (ZAR (ZDI k_ChainRule (hr.mono (by decide)) rfl ZAW (ZAA (ZB7 (ZAA (ZDI k_NearRule (hr.mono (by decide)) rfl ZAW (ZAA ZAE (ZAA (pv 2) ZAC))) (ZAA (ZDI k_KeyRule (hr.mono (by decide)) rfl ZAW (ZAA (ZB7 (ZAA (ZB2 (ZAA ZAE (ZAA (ZAS ZA2 (ZAS ZAU (pv 3) ZAE (fun _ _=>rfl)) ZAE (fun _ _=>rfl)) ZAC))) ZAC)) ZAC)) ZAC))) ZAC))))))))),?_⟩
 walk_at "rd"
 by_cases e0:kd=0
 .rw [if_pos e0]
  obtain ⟨tPt,hPt⟩:∃ t,H Pt_teller=some (.tbl t):=by
   rcases hT with h | ⟨c',h,_⟩ <;> exact ⟨_,h⟩
  refine ⟨rfl,hT,fun g H1 md ru dr hru hdr nrd=>?_⟩
  have sB:SameB H H1:=fun b o n e=>md.same b o (fun z=>by rw [z,hPt] at e;exact n _ (Option.some.inj e).symm) e
  have hru':upd H1 dr (.own ru) ru=none:=by rw [ZAO (Ne.symm nrd)];exact hru
  have s6:Same H1 (upd (upd H1 dr (.own ru)) ru (.ins C_AskedRule dr [])):=(ZAL hdr _).trans (ZAL hru' _)
  refine ⟨ru,dr,g,rfl,ZAG,fun H7 k7 ir=>⟨rfl,?_⟩⟩
  have s7:Same H1 H7:=fun b o h=>k7 b o (ZAT h hru) (s6 _ _ h)
  have s8:=sB.trans (ZDw s7)
  refine q ru H7 s8 (bf_ask e0 ir ?_ (md.clo.mono (fzOf s7)) (hM.monoB s8) (hX.monoB s8) hD)
  obtain ⟨cl',hcl'⟩:=md.clo
  obtain ⟨doc,pm,ctv,c',a,b⟩:=hcl'.obj
  exact ⟨_,s7 _ _ a,_,rfl⟩
 rw [if_neg e0]
 by_cases e1:kd=1
 .rw [if_pos e1]
  intro x dx hx hdx nd
  have S:=ZBg (C:=C_TableRule) hx hdx
  refine ⟨x,dx,tb,sz,m,rfl,ZAG,hM.mono S,hsz,fun l2 H' k hM' hI=>⟨rfl,?_⟩⟩
  have s7:Same H H':=fun b o h=>k b o (ZAT h hx) (S _ _ h)
  exact q x H' (ZDw s7) (bf_tab e1 hI hM' (hX.mono s7) hD)
 rw [if_neg e1]
 have hnb:=hD.nb0
 by_cases e2:kd=2
 .rw [if_pos e2]
  intro x dx hx hdx nd
  have S:=ZBg (C:=C_NearRule) hx hdx
  refine ⟨x,dx,0,nb,rfl,ZAG,by decide,by decide,hnb,fun H' k hI=>⟨rfl,?_⟩⟩
  have s7:Same H H':=fun b o h=>k b o (ZAT h hx) (S _ _ h)
  exact q x H' (ZDw s7) (bf_near e2 hI (hX.mono s7) hD)
 rw [if_neg e2]
 by_cases e3:kd=3
 .rw [if_pos e3]
  intro x dx hx hdx nd
  have S:=ZBg (C:=C_RingRule) hx hdx
  refine ⟨x,dx,0,nb+1,rfl,ZAG,by decide,by decide,by omega,fun H' k hI=>⟨rfl,?_⟩⟩
  have s7:Same H H':=fun b o h=>k b o (ZAT h hx) (S _ _ h)
  exact q x H' (ZDw s7) (bf_ring e3 hI (hX.mono s7) hD)
 rw [if_neg e3]
 have hcsl:cs.length=cols.length:=by rw [hd.length,yAB]
 by_cases e4:kd=4
 .rw [if_pos e4]
  refine ZBI (SqL.of hcl) (by omega) (fun i ys σ X=>∃ v,σ=[v] /\ Same H X /\ Sgs K C_KeyRule C_NearRule C_RingRule X ys ((cols.take i).map fun c=>udP c.2 c.1.toNat)) ⟨_,rfl,.refl _,⟨rfl,fun i p h=>by simp at h⟩⟩ (fun i ys σ X _ z=>?_) (fun i ys u σ X hi hu z=>?_) fun ys σ X z p2 hp2=>?_
  .obtain ⟨v,_,e,e2⟩:=z
   rw [e2.len,yAB,List.length_take]
   exact ⟨SqL.of (e _ _ hcl),by omega⟩
  .obtain ⟨v,rfl,sX,hS⟩:=z
   obtain ⟨c',tt,ec,rfl,htt⟩:=ZC6 hd hu
   have hc':=hD.cl c' (yAC ec)
   walk_at "rd"
   refine ⟨ZAv (by decide),fun p1 hp1 x dx hx hdx nd=>?_⟩
   have s1:=ZAL hp1 (.lst [V.ref tt])
   refine kmadeT (CN:=C_NearRule) (CR:=C_RingRule) (p:=udP c'.2 c'.1.toNat) (ZDo (by omega)) (ud_lt _ _) hx hdx ZAG ?_ fun H' s' h'=>.of hi ⟨_,rfl,sX.trans (s1.trans s'),?_⟩
   .rw [ud_way,show (((udP c'.2 c'.1.toNat).key:Nat):Int)=c'.1 from Int.toNat_of_nonneg hc'.1]
    exact s1.seqT (sX.seqT htt)
   .rw [List.take_add_one,ec,yAW]
    exact (hS.mono (s1.trans s')).snoc h'
  obtain ⟨v,rfl,sX,hS⟩:=z
  rw [hcsl,List.take_of_length_le (yAA _)] at hS
  intro x dx hx hdx _
  have sA:=ZAL hp2 (.lst ys)
  exact vmade ZAG hx hdx fun l2 H' s h hI=>q x H' (ZDw (sX.trans (sA.trans s))) (bf_vote e4 ⟨l2,ys,hI,h,hS.mono (sA.trans s)⟩ hc10 (hX.mono (sX.trans (sA.trans s))) hD)
 rw [if_neg e4]
 have e5:kd=5:=by omega
 obtain ⟨k0,hk0'⟩:=hD.c0
 obtain ⟨v0,hv0⟩:∃ v0,cs[0]?=some v0:=⟨_,yAH (by have:=(yAE.mp hk0').1;omega)⟩
 obtain ⟨c',tt,ec,rfl,htt⟩:=ZC6 hd hv0
 rw [hk0'] at ec
 cases ec
 intro x dx hx hdx nd
 refine nmadeT (K:=K) (CK:=C_KeyRule) (CR:=C_RingRule) (by decide) (by decide) hnb hx hdx fun H1 s1 h1=>?_
 refine ZAY (SqL.of (s1 _ _ hcl)) (ZAb (by decide) hv0) (ZAq (s1.seqT htt) (ZAb (by decide) rfl) ?_)
 refine ⟨ZAv (by decide),fun t ht=>⟨ZAv (by decide),fun p1 hp1 x2 dx2 hx2 hdx2 nd2=>?_⟩⟩
 have s2:=ZAL ht (.tup [.int 1,.str (wayS u0)])
 have s3:=ZAL hp1 (.lst [V.ref t])
 refine kmadeT (CN:=C_NearRule) (CR:=C_RingRule) (p:=udP u0 1) (ZDo (by decide)) (ud_lt _ _) hx2 hdx2 ZAG (by rw [ud_way];exact SqT.of (s3 _ _ ZAG)) fun H2 s4 h2=>⟨ZAv (by decide),fun p2 hp2 x3 dx3 hx3 hdx3 nd3=>?_⟩
 have s5:=ZAL hp2 (.lst [V.ref x,V.ref x2])
 refine vmade ZAG hx3 hdx3 fun l2 H' s h hI=>?_
 have S1:=s2.trans (s3.trans (s4.trans (s5.trans s)))
 refine q x3 H' (ZDw (s1.trans S1)) (bf_chain e5 ⟨l2,_,hI,h,?_⟩ (hX.mono (s1.trans S1)) hD)
 exact (Prs.snoc (Prs.snoc ⟨rfl,fun i p h=>by simp at h⟩ (.inl ⟨rfl,_,rfl,h1.mono S1⟩)) (.inl ⟨rfl,_,rfl,h2.mono (s5.trans s)⟩):Prs K C_KeyRule C_NearRule C_RingRule C_VoteRule H' ([]++[V.ref x]++[V.ref x2]) ([]++[(false,[⟨2,0,nb⟩])]++[(false,[udP u0 1])]))
theorem ok_law {f:Addr} {fd:FuncData} (F:Fun K "law" "law" ZDE f fd) (T:Bt K mg C_KeyRule C_NearRule C_RingRule C_TableRule C_VoteRule C_ChainRule C_AskedRule)
  (f_table:Fn P w K mg base CX0 "_law_table" 1 ["_law_many","_law_cell","_law_turns"] (ZD4))
  (f_due:Fn P w K mg base CX0 "_law_due" 3 ["_law_kind","_law_row","_law_table_here","_law_number","_law_columns"] (ZEQ K))
  (f_rule:Fn P w K mg base CX0 "_law_rule" 5 ["_law_kind","_law_table_here","_law_number","_law_columns"] (ZDC K C_AskedRule C_TableRule C_KeyRule C_NearRule C_RingRule C_VoteRule C_ChainRule Pt_teller))
  (f_cell_at:Fn P w K mg base CX0 "_law_cell_at" 1 ["_law_script","_law_k"] (ZD9 K))
  (f_table_of:Fn P w K mg base CX0 "_law_table_of" 2 ["_law_many","_law_cell"] (ZDd))
  (f_good:Fn P w K mg base CX0 "_law_good" 3 ["_law_goes","_law_found"] (ZDf))
  (f_ranked:Fn P w K mg base CX0 "ranked" 5 ["row","rule"] (ZD6 K C_AskedRule C_TableRule C_KeyRule C_NearRule C_RingRule C_VoteRule C_ChainRule))
  (f_thing_of:Fn P w K mg base CX0 "_law_thing_of" 2 ["_law_cell","_law_width"] (ZCl))
 :FnOk P w K mg base CX0 6 f fd ["_law_script"] (ZD7 K [(cc_teller,Pt_teller)]):=by
 refine F.ok sc_law (fun vs H Q E h=>?_) (fun cdv A outer s H vs Q E hr h=>?_)
 .obtain ⟨a,ns,rfl,hS,h63,hT,q⟩:=h
  rfl
 obtain ⟨a,ns,rfl,hS,h63,hT,q⟩:=h
 refine ⟨_,(ZAD (ZAa (i:=1) sc_law.nd rfl (by walk_at "o") (pe_slice sl_list (pv 0) (po_some ZAE) (po_some ZAE)))
  (ZAD (ZAa (i:=2) sc_law.nd rfl (by walk_at "o") (ZAM ZAp (ZAm f_cell_at (hr.mono (by decide)) rfl ZAW (ZAA (pv 0) (ZAA ZAE ZAC))) ZAE))
  (ZAl
  (ZAD (ZAa (i:=3) sc_law.nd rfl (by walk_at "o") (ZAM ZBK ZAE (ZAM ZAp (ZAm f_cell_at (hr.mono (by decide)) rfl ZAW (ZAA (pv 0) (ZAA ZAE ZAC))) ZAE)))
  (ZAD (ZAa (i:=4) sc_law.nd rfl (by walk_at "o") (ZAM ZAp (ZAM ZBF (ZAm f_cell_at (hr.mono (by decide)) rfl ZAW (ZAA (pv 0) (ZAA ZAE ZAC))) ZAE) ZAE))
  (ZAl
  (ZAD (ZA0 (ZAQ ZBR (ZAM ZAp (ZAm f_cell_at (hr.mono (by decide)) rfl ZAW (ZAA (pv 0) (ZAA ZAE ZAC))) ZAE) ZAE (ZAI _))
  (ZAF (ZAa (i:=4) sc_law.nd rfl (by walk_at "o") (ZAM ZAp (ZAM ZBF (ZAm f_cell_at (hr.mono (by decide)) rfl ZAW (ZAA (pv 0) (ZAA ZAE ZAC))) ZAE) (ZAM ZEB ZAE ZAE))))
  (ZAF (ZA0 (ZAQ ZBR (pv 2) ZAE (ZAI _))
  (ZAF (ZAa (i:=4) sc_law.nd rfl (by walk_at "o") (ZAM ZAp (ZAM ZBF (ZAm f_cell_at (hr.mono (by decide)) rfl ZAW (ZAA (pv 0) (ZAA ZAE ZAC))) ZAE) ZAE))) ZAV)))
  (ZAl
  (ZAD (ZAa (i:=5) sc_law.nd rfl (by walk_at "o") (ZAS ZAU (ZB7 (ZAA ZAE (ZAA ZAE (ZAA (ZAM ZEB ZAE ZAE) ZAC)))) (ZAM ZAp (ZAM ZBF (ZAm f_cell_at (hr.mono (by decide)) rfl ZAW (ZAA (pv 0) (ZAA ZAE ZAC))) ZAE) ZAE) (fun _ _=>rfl)))
  (ZAl
  (ZAD (ZAa (i:=6) sc_law.nd rfl (by walk_at "o") (ZB7 (ZAA ZBh (ZAA ZBh ZAC))))
  (ZAD (ZBH (i:=7) sc_law.nd rfl (Or.inl rfl) rfl (k:=1) (js:=[6,0]) (N':=["_law_k","_law_ways","_law_script"]) (by rfl) (ZA8 rfl T.b_range (ZAA ZAE ZAC)) (fun _ _ _ _=>ZAK (i:=0) (show (["_law_k","_law_ways","_law_script"]:List Str).Nodup by decide +kernel) rfl (by walk_at "o")) (fun _ _ _ _=>ZAs) (fun _ _ _ _=>(ZB2 (ZAA (pv 0) (ZAA (ZAS (ZAf K) (pv 1) (ZAM ZAp (ZAM ZBF (ZAm f_cell_at (hr.mono (by decide)) rfl ZAW (ZAA (pv 2) (ZAA ZAE ZAC))) (ZAM ZBK (ZAM ZBa (ZAM ZBa ZAE (pv 0)) (pv 0)) ZAE)) ZAE) (fun _ _=>rfl)) ZAC)))))
  (ZAl
  (ZAD (ZAa (i:=8) sc_law.nd rfl (by walk_at "o") (ZAS ZAU (ZB7 (ZAA ZAE (ZAA ZAE (ZAA (ZAM ZBa ZAE (ZAM ZEB ZAE ZAE)) ZAC)))) (ZAM ZAp (ZAM ZBF (ZAm f_cell_at (hr.mono (by decide)) rfl ZAW (ZAA (pv 0) (ZAA ZAE ZAC))) ZAE) ZAE) (fun _ _=>rfl)))
  (ZAl
  (ZAD (ZBH (i:=9) sc_law.nd rfl (Or.inl rfl) rfl (k:=1) (js:=[5,8]) (N':=["_law_cell","_law_width","_law_low"]) (by rfl) (ZAu (pv 1)) (fun _ _ _ _=>ZAK (i:=0) (show (["_law_cell","_law_width","_law_low"]:List Str).Nodup by decide +kernel) rfl (by walk_at "o")) (fun _ _ _ _=>ZAs) (fun _ _ _ _=>(ZB2 (ZAA (ZAM ZCR (ZAM ZAp (pv 0) (pv 1)) (pv 2)) (ZAA (ZAM ZAp (ZAM ZBF (pv 0) ZAE) ZAE) (ZAA (ZAM ZAp (ZAM ZBF (pv 0) ZAE) ZAE) ZAC))))))
  (ZAl
  (ZAD (ZA0 (ZAQ ZBR (pv 2) ZAE (ZAI _))
  (ZAD (ZAa (i:=3) sc_law.nd rfl (by walk_at "o") (ZAX ZAP rfl T.b_len PySem.boot_len (ZAA (pv 1) ZAC)))
  (ZAF (ZBH (i:=9) sc_law.nd rfl (Or.inl rfl) rfl (k:=1) (js:=[1]) (N':=["_law_k","_law_cells"]) (by rfl) (ZA8 rfl T.b_range (ZAA (pv 3) ZAC)) (fun _ _ _ _=>ZAK (i:=0) (show (["_law_k","_law_cells"]:List Str).Nodup by decide +kernel) rfl (by walk_at "o")) (fun _ _ _ _=>ZAs) (fun _ _ _ _=>(ZB7 (ZAA (pv 0) (ZAA (ZAM ZAp (ZAS (ZAf K) (pv 1) (pv 0) (fun _ _=>rfl)) ZAE) ZAC))))))) ZAV)
  (ZAl
  (ZAD (ZA0 (ZAQ ZBR (pv 2) ZAE (ZAI _))
  (ZAF (ZBH (i:=9) sc_law.nd rfl (Or.inl rfl) rfl (k:=1) (js:=[3]) (N':=["_law_cell","_law_size"]) (by rfl) (ZAu (pv 1)) (fun _ _ _ _=>ZAK (i:=0) (show (["_law_cell","_law_size"]:List Str).Nodup by decide +kernel) rfl (by walk_at "o")) (fun _ _ _ _=>ZAs) (fun _ _ _ _=>(ZB2 (ZAA (ZAM ZAp (pv 0) (pv 1)) (ZAA (ZAM ZAp (ZAM ZBF (pv 0) ZAE) ZAE) ZAC)))))) ZAV)
  (ZAl
  (ZAD (ZAa (i:=10) sc_law.nd rfl (by walk_at "o") (ZAm f_table (hr.mono (by decide)) rfl ZAW (ZAA (pv 3) (ZAA (ZAm f_cell_at (hr.mono (by decide)) rfl ZAW (ZAA (pv 0) (ZAA ZAE ZAC))) (ZAA (ZAm f_cell_at (hr.mono (by decide)) rfl ZAW (ZAA (pv 0) (ZAA ZAE ZAC))) ZAC)))))
  (ZAl
  (ZAD (ZA0 (ZAQ ZBR (ZAM ZAp (ZAm f_cell_at (hr.mono (by decide)) rfl ZAW (ZAA (pv 0) (ZAA ZAE ZAC))) ZAE) ZAE (ZAI _))
  (ZAD (ZAa (i:=10) sc_law.nd rfl (by walk_at "o") (ZAm f_table_of (hr.mono (by decide)) rfl ZAW (ZAA (pv 3) (ZAA (ZAm f_cell_at (hr.mono (by decide)) rfl ZAW (ZAA (pv 0) (ZAA ZAE ZAC))) ZAC))))
  (ZAF (ZA0 (ZAQ ZCy (pv 2) ZAE (ZAI _))
  (ZAF (ZBH (i:=9) sc_law.nd rfl (Or.inl rfl) rfl (k:=1) (js:=[5]) (N':=["_law_cell","_law_width"]) (by rfl) (ZAu (pv 1)) (fun _ _ _ _=>ZAK (i:=0) (show (["_law_cell","_law_width"]:List Str).Nodup by decide +kernel) rfl (by walk_at "o")) (fun _ _ _ _=>ZAs) (fun _ _ _ _=>(ZAm f_thing_of (hr.mono (by decide)) rfl ZAW (ZAA (pv 0) (ZAA (pv 1) ZAC)))))) ZAV))) ZAV)
  (ZAl
  (ZAD (ZAa (i:=11) sc_law.nd rfl (by walk_at "o") (ZAm f_due (hr.mono (by decide)) rfl ZAW (ZAA (pv 2) (ZAA (pv 9) (ZAA (pv 10) (ZAA (pv 4) (ZAA (pv 7) ZAC)))))))
  (ZAl
  (ZAD (ZAa (i:=12) sc_law.nd rfl (by walk_at "o") (ZAm f_rule (hr.mono (by decide)) rfl ZAW (ZAA (pv 2) (ZAA (pv 10) (ZAA (pv 4) (ZAA (pv 7) ZAC))))))
  (ZAl
  (ZAD (ZAa (i:=13) sc_law.nd rfl (by walk_at "o") (ZBQ ZBY rfl T.b_list PyProof.Rows.boot_list (ZAA (pv 9) ZAC)))
  (ZAl
  (ZAF (ZAR (ZBt (ZAm f_good (hr.mono (by decide)) rfl ZAW (ZAA (pv 11) (ZAA (ZAm f_ranked (hr.mono (by decide)) rfl ZAW (ZAA (pv 13) (ZAA (pv 12) ZAC))) ZAC))) (ZCd (ZAo (op_eqD hr.units) (pv 13) (pv 9) (ZAI _))))))))))))))))))))))))))))))))))))),?_⟩
 walk_at "rd"
 refine slL_of hS fun p0 hp0=>?_
 rw [cutV_ints]
 have hzl:((ns.drop (HT.sIx ns.length 0 (some 6))).take (HT.sIx ns.length ns.length (some 26)-HT.sIx ns.length 0 (some 6))).length <= 20:=by
  rw [List.length_take,List.length_drop]
  have e6:HT.sIx ns.length 0 (some 6)=min 6 ns.length:=rfl
  have e26:HT.sIx ns.length ns.length (some 26)=min 26 ns.length:=rfl
  rw [e6,e26]
  omega
 generalize (ns.drop (HT.sIx ns.length 0 (some 6))).take (HT.sIx ns.length ns.length (some 26)-HT.sIx ns.length 0 (some 6))=zs at hzl ⊢
 obtain ⟨H1,e1,s1,h1⟩:=newH hp0 (.lst (zs.map V.int))
 rw [e1];clear e1
 refine ⟨a,ns,0,rfl,s1.seq hS,by decide,?_⟩
 generalize cellOf ns 0=c0
 walk_at "rd"
 refine ⟨by decide,?_⟩
 have k0:=Int.emod_nonneg c0 (show (6:Int)≠0 by decide)
 have k5:=Int.emod_lt_of_pos c0 (show (0:Int) < 6 by decide)
 generalize c0 % 6=kd at k0 k5 ⊢
 refine ZBE ?_
 walk_at "rd"
 refine ⟨a,ns,1,rfl,s1.seq hS,by decide,?_⟩
 walk_at "rd"
 refine ⟨by decide,?_⟩
 refine ⟨a,ns,2,rfl,s1.seq hS,by decide,?_⟩
 walk_at "rd"
 refine ⟨⟨by decide,by decide⟩,by decide,?_⟩
 have z0:=Int.emod_nonneg (cellOf ns 1) (show (7:Int)≠0 by decide)
 have z1:=Int.emod_lt_of_pos (cellOf ns 1) (show (0:Int) < 7 by decide)
 obtain ⟨sz,esz,hsz⟩:∃ n:Nat,1+cellOf ns 1 % 7=n /\ 1 <= n /\ n <= 7:=⟨(1+cellOf ns 1 % 7).toNat,by omega,by omega,by omega⟩
 rw [esz]
 clear z0 z1 esz
 have n0:=Int.emod_nonneg (cellOf ns 2 / 3) (show (4:Int)≠0 by decide)
 generalize cellOf ns 2 / 3 % 4=nb0 at n0 ⊢
 refine ZBE ?_
 walk_at "rd"
 refine ⟨a,ns,2,rfl,s1.seq hS,by decide,?_⟩
 walk_at "rd"
 refine ⟨by decide,?_⟩
 apply once1 (fun nb:Int=>0 <= nb)
 .intro tailp
  by_cases e:cellOf ns 2 % 3=0
  .rw [if_pos e]
   refine ⟨a,ns,2,rfl,s1.seq hS,by decide,?_⟩
   walk_at "rd"
   refine ⟨⟨by decide,by decide⟩,⟨by decide,by decide,by decide⟩,by decide,?_⟩
   have n1:=Int.emod_nonneg (cellOf ns 2 / 3) (show (10 ^ Int.toNat 60:Int)≠0 by decide)
   generalize cellOf ns 2 / 3 % 10 ^ Int.toNat 60=nb at n1 ⊢
   exact tailp nb n1
  rw [if_neg e]
  by_cases e3:kd=3
  .rw [if_pos e3]
   refine ⟨a,ns,2,rfl,s1.seq hS,by decide,?_⟩
   walk_at "rd"
   refine ⟨⟨by decide,by decide⟩,by decide,?_⟩
   have n1:=Int.emod_nonneg (cellOf ns 2 / 3) (show (12:Int)≠0 by decide)
   generalize cellOf ns 2 / 3 % 12=nb at n1 ⊢
   exact tailp nb n1
  rw [if_neg e3]
  exact tailp nb0 n0
 intro nb hnb
 clear n0
 refine ZBE ?_
 walk_at "rd"
 refine ⟨⟨by decide,by decide,by decide⟩,ZAv (by decide),fun p1 hp1=>?_⟩
 obtain ⟨H2,e2,s2,h2⟩:=newH hp1 (.lst [.int 3,.int 40,.int (10 ^ Int.toNat 60)])
 rw [e2];clear e2
 have S2:=s1.trans s2
 refine ⟨a,ns,1,rfl,S2.seq hS,by decide,?_⟩
 walk_at "rd"
 refine ⟨⟨by decide,by decide⟩,by decide,?_⟩
 obtain ⟨w,hw,hw0,hw1⟩:∃ w:Int,atI [V.int 3,V.int 40,V.int (10 ^ Int.toNat 60)] (cellOf ns 1 / 7 % 3)=some (V.int w) /\ 0 < w /\ w < 2 ^ 250:=by
  have m0:cellOf ns 1 / 7 % 3=0∨cellOf ns 1 / 7 % 3=1∨cellOf ns 1 / 7 % 3=2:=by omega
  rcases m0 with e | e | e <;> rw [e]
  .exact ⟨3,ZAb (by decide) rfl,by decide,by decide⟩
  .exact ⟨40,ZAb (by decide) rfl,by decide,by decide⟩
  .exact ⟨10 ^ Int.toNat 60,ZAb (by decide) rfl,by decide,by decide⟩
 refine ZAY (SqL.of h2) hw ?_
 refine ZBE ?_
 walk_at "rd"
 refine ⟨ZAv (by decide),fun p2 hp2=>?_⟩
 obtain ⟨H3,e3,s3,h3⟩:=newH hp2 (.lst [.str (Str.ofString "up"),.str (Str.ofString "down")])
 rw [e3];clear e3
 have S3:=S2.trans s3
 clear hw hp1 hp2 h2
 refine ZBv (by decide) (fun i ys σ X=>∃ v,σ=[v,some (.ref p2),some (.ref a)] /\ Same H3 X /\ DpAll K X ((ZDY (fun k=>decide (cellOf ns 5 / (2 * (k:Int) * (k:Int)+1) % 2=0)) i).map colD) ys) ⟨_,rfl,.refl _,.nil⟩ (fun i ys σ X z=>?_) (fun i ys σ X hi z=>?_) fun cs σ X z cl hcl=>?_
 .obtain ⟨v,_,_,d⟩:=z
  rw [d.length,yAB]
  unfold ZDY
  rw [yAB,yAL];exact yAA _
 .obtain ⟨v,rfl,sX,d⟩:=z
  walk_at "rd"
  refine ⟨a,ns,5,rfl,sX.seq (S3.seq hS),by decide,?_⟩
  walk_at "rd"
  have hi3:i < 3:=by omega
  rw [show (0+(i:Int))=i by omega]
  have hpos:0 < 2 * (i:Int) * (i:Int)+1:=by
   have:0 <= 2 * (i:Int) * (i:Int):=Int.mul_nonneg (by omega) (by omega)
   omega
  have hbig:2 * (i:Int) * (i:Int)+1 < 1000:=by
   rcases (show i=0∨i=1∨i=2 by omega) with e | e | e <;> subst e <;> decide
  refine ⟨.inl ⟨by omega,by omega⟩,.inl ⟨by omega,by omega⟩,⟨by omega,by omega⟩,by decide,?_⟩
  have e2:=Int.emod_nonneg (cellOf ns 5 / (2 * (i:Int) * (i:Int)+1)) (show (2:Int)≠0 by decide)
  have e3:=Int.emod_lt_of_pos (cellOf ns 5 / (2 * (i:Int) * (i:Int)+1)) (show (0:Int) < 2 by decide)
  have hat:atI [V.str (Str.ofString "up"),V.str (Str.ofString "down")] (cellOf ns 5 / (2 * (i:Int) * (i:Int)+1) % 2)=some (.str (wayS (decide (cellOf ns 5 / (2 * (i:Int) * (i:Int)+1) % 2=0)))):=by
   generalize cellOf ns 5 / (2 * (i:Int) * (i:Int)+1) % 2=r at e2 e3
   rcases (show r=0∨r=1 by omega) with e | e <;> subst e <;> exact ZAb (by decide) rfl
  refine ZAY (SqL.of (sX _ _ h3)) hat ⟨ZAv (by decide),fun t ht=>.of hi ⟨_,rfl,sX.new ht,?_⟩⟩
  rw [colsN_succ]
  exact (d.mono (ZAL ht _)).snoc (ZED (SqT.of ZAG) (.two (dp_int _) (dp_str _)))
 obtain ⟨v,rfl,sX,d⟩:=z
 generalize (fun k:Nat=>decide (cellOf ns 5 / (2 * (k:Int) * (k:Int)+1) % 2=0))=uf at d
 obtain ⟨H4,e4,s4,h4⟩:=newH hcl (.lst cs)
 rw [e4];clear e4
 have hd4:=d.mono s4
 have S4:=S3.trans (sX.trans s4)
 have h14:H4 p0=some (.lst (zs.map V.int)):=(s2.trans (s3.trans (sX.trans s4))) _ _ h1
 clear d sX s4 h3 hcl s3 s2 S2 S3 h1 s1
 refine ZBE ?_
 walk_at "rd"
 refine ⟨⟨by decide,by decide,by decide⟩,.inl ⟨by decide,by decide⟩,ZAv (by decide),fun p3 hp3=>?_⟩
 obtain ⟨H5,e5,s5,h5⟩:=newH hp3 (.lst [.int 0,.int 20,.int (5 * 10 ^ Int.toNat 59)])
 rw [e5];clear e5
 have S5:=S4.trans s5
 refine ⟨a,ns,5,rfl,S5.seq hS,by decide,?_⟩
 walk_at "rd"
 refine ⟨⟨by decide,by decide⟩,by decide,?_⟩
 obtain ⟨lo,hlo⟩:∃ lo:Int,atI [V.int 0,V.int 20,V.int (5 * 10 ^ Int.toNat 59)] (cellOf ns 5 / 97 % 3)=some (V.int lo):=by
  have m0:cellOf ns 5 / 97 % 3=0∨cellOf ns 5 / 97 % 3=1∨cellOf ns 5 / 97 % 3=2:=by omega
  rcases m0 with e | e | e <;> rw [e]
  .exact ⟨0,ZAb (by decide) rfl⟩
  .exact ⟨20,ZAb (by decide) rfl⟩
  .exact ⟨5 * 10 ^ Int.toNat 59,ZAb (by decide) rfl⟩
 refine ZAY (SqL.of h5) hlo ?_
 have h15:=s5 _ _ h14
 have hd5:=hd4.mono s5
 have hcl5:=s5 _ _ h4
 clear hlo h5 hp3 S4 h14 hd4 h4 s5
 refine ZBE ?_
 walk_at "rd"
 refine ZBI (SqL.of h15) (by rw [yAB];omega) (fun i ys σ X=>∃ v,σ=[v,some (.int w),some (.int lo)] /\ Same H5 X /\ ∃ ts,Row25 X 2 ys ts /\ (∀ t∈ts,t.length=3) /\ ts.length=i) ⟨_,rfl,.refl _,[],.nil,(fun t h=>by cases h),rfl⟩ (fun i ys σ X _ z=>?_) (fun i ys u σ X hi hu z=>?_) fun rs σ X z rw hrw=>?_
 .obtain ⟨v,_,sX,ts,hR,_,e⟩:=z
  exact ⟨SqL.of (sX _ _ h15),by rw [hR.len,e];exact yAA _⟩
 .obtain ⟨v,rfl,sX,ts,hR,h3,e⟩:=z
  obtain ⟨c,hc,rfl⟩:=ZDO hu
  walk_at "rd"
  refine ⟨hw0,⟨by decide,by decide⟩,by decide,⟨by decide,by decide⟩,by decide,ZAv (by decide),fun t ht=>.of hi ⟨_,rfl,sX.new ht,ts++[[c % w-lo,c / 3 % 5,c / 17 % 3]],(hR.mono (ZAL ht _)).snoc (.inr ⟨by decide,ZAG⟩),fun t h=>?_,by rw [yAD,e];rfl⟩⟩
  rcases yAU.mp h with z | z
  .exact h3 t z
  .rw [yAO.mp z];rfl
 obtain ⟨v,rfl,sX,ts0,hR0,h30,el0⟩:=z
 rw [yAB] at el0
 obtain ⟨H6,e6,s6,h6⟩:=newH hrw (.lst rs)
 rw [e6];clear e6
 have hR6:=hR0.mono s6
 have s56:=sX.trans s6
 clear sX s6 hrw hR0
 refine ZBE ?_
 walk_at "rd"
 apply once3 (fun (sz:Nat) (rw:Addr) (X:Hp)=>Same H5 X /\ sz <= 20 /\ (kd≠1->∃ xs ts,RwD X rw kd sz xs ts) /\ (kd=1->1 <= sz))
 .intro tailp
  by_cases e0:kd=0
  .rw [if_pos e0]
   refine ⟨p0,_,rfl,.inl (SqL.of (s56 _ _ h15)),?_⟩
   rw [yAB]
   obtain ⟨n,en⟩:∃ n,zs.length=n:=⟨_,rfl⟩
   rw [en]
   refine ZBv (by omega) (fun i ys σ X=>∃ v,σ=[v,some (.ref p0)] /\ Same H6 X /\ ∃ ts,Row25 X kd ys ts /\ (∀ t∈ts,0 < t.length /\ 0 <= at0 t 0 /\ (at0 t 0).toNat < i) /\ ts.length=i) ⟨_,rfl,.refl _,[],.nil,(fun t h=>by cases h),rfl⟩ (fun i ys σ X z=>?_) (fun i ys σ X hi z=>?_) fun ys σ X z rw2 hrw2=>?_
   .obtain ⟨v,_,sX,ts,hR,_,e⟩:=z
    rw [hR.len,e];exact yAA _
   .obtain ⟨v,rfl,sX,ts,hR,h3,e⟩:=z
    have hin:i < zs.length:=by omega
    walk_at "rd"
    rw [show (0+(i:Int))=i by omega]
    refine ZAY (SqL.of (sX _ _ (s56 _ _ h15))) (ZAg (v:=zs[i]) (by omega) (by rw [Int.toNat_natCast];exact yAH hin)) ?_
    walk_at "rd"
    refine ⟨by decide,ZAv (by decide),fun t ht=>.of hi ⟨_,rfl,sX.new ht,ts++[[(i:Int),zs[i] % 2]],(hR.mono (ZAL ht _)).snoc (.inl ⟨e0,ZAG⟩),fun t h=>?_,by rw [yAD,e];rfl⟩⟩
    rcases yAU.mp h with z | z
    .obtain ⟨z1,z2,z3⟩:=h3 t z
     exact ⟨z1,z2,by omega⟩
    .rw [yAO.mp z]
     exact ⟨by simp,by show (0:Int) <= (i:Int);omega,by show ((i:Int)).toNat < i+1;omega⟩
   obtain ⟨v,rfl,sX,ts,hR,h3,e⟩:=z
   rw [show ((n:Nat):Int).toNat=n from Int.toNat_natCast n] at h3 e
   obtain ⟨H7,e7,s7,h7⟩:=newH hrw2 (.lst ys)
   rw [e7];clear e7
   exact tailp n rw2 H7 ⟨s56.trans (sX.trans s7),by omega,fun _=>⟨ys,ts,h7,hR.mono s7,fun _=>h3,(fun z=>by omega),by omega⟩,fun z=>by omega⟩
  .rw [if_neg e0]
   refine tailp sz rw H6 ⟨s56,by omega,fun n1=>⟨rs,ts0,h6,⟨hR6.len,fun i t h=>?_⟩,(fun z=>by omega),fun _=>h30,by omega⟩,fun _=>hsz.1⟩
   obtain ⟨b,z1,z2⟩:=hR6.get i t h
   exact ⟨b,z1,z2.elim (fun z=>absurd z.1 (by decide)) fun z=>.inr ⟨e0,z.2⟩⟩
 clear h6 hR6 h30 el0 s56 hsz
 rintro sz rw H6 ⟨s6,hsz,hA,hB⟩
 refine ZBE ?_
 walk_at "rd"
 have once2:∀ {α β:Type} {M:α->β->Prop} (P:α->β->Prop) {G:Prop},((∀ x y,P x y->M x y)->G)->(∀ x y,P x y->M x y)->G:=fun _ _ h t=>h t
 apply once2 (fun (rw:Addr) (X:Hp)=>Same H5 X /\ ∃ xs ts,RwD X rw kd sz xs ts)
 .intro tailp
  by_cases e1:kd=1
  .rw [if_pos e1]
   have hsz1:=hB e1
   refine ZBI (SqL.of (s6 _ _ h15)) (by rw [yAB];omega) (fun i ys σ X=>∃ v,σ=[v,some (.int (sz:Int))] /\ Same H6 X /\ ∃ ts,Row25 X kd ys ts /\ (∀ t∈ts,0 < t.length /\ 0 <= at0 t 0 /\ (at0 t 0).toNat < sz) /\ ts.length=i) ⟨_,rfl,.refl _,[],.nil,(fun t h=>by cases h),rfl⟩ (fun i ys σ X _ z=>?_) (fun i ys u σ X hi hu z=>?_) fun ys σ X z rw2 hrw2=>?_
   .obtain ⟨v,_,sX,ts,hR,_,e⟩:=z
    exact ⟨SqL.of (sX _ _ (s6 _ _ h15)),by rw [hR.len,e];exact yAA _⟩
   .obtain ⟨v,rfl,sX,ts,hR,h3,e⟩:=z
    obtain ⟨c,hc,rfl⟩:=ZDO hu
    walk_at "rd"
    refine ⟨by omega,⟨by decide,by decide⟩,by decide,ZAv (by decide),fun t ht=>.of hi ⟨_,rfl,sX.new ht,ts++[[c % (sz:Int),c / 7 % 2]],(hR.mono (ZAL ht _)).snoc (.inr ⟨by omega,ZAG⟩),fun t h=>?_,by rw [yAD,e];rfl⟩⟩
    rcases yAU.mp h with z | z
    .exact h3 t z
    .rw [yAO.mp z]
     have m0:=Int.emod_nonneg c (show (sz:Int)≠0 by omega)
     have m1:=Int.emod_lt_of_pos c (show (0:Int) < (sz:Int) by omega)
     exact ⟨by simp,m0,by show (c % (sz:Int)).toNat < sz;omega⟩
   obtain ⟨v,rfl,sX,ts,hR,h3,e⟩:=z
   rw [yAB] at e
   obtain ⟨H7,e7,s7,h7⟩:=newH hrw2 (.lst ys)
   rw [e7];clear e7
   exact tailp rw2 H7 ⟨s6.trans (sX.trans s7),ys,ts,h7,hR.mono s7,fun _=>h3,(fun z=>by omega),by omega⟩
  .rw [if_neg e1]
   exact tailp rw H6 ⟨s6,hA e1⟩
 clear hA hB s6
 rintro rw H6 ⟨s6,xs0,ts0,hW0⟩
 refine ZBE ?_
 walk_at "rd"
 have S6:=S5.trans s6
 refine ⟨a,ns,3,rfl,S6.seq hS,by decide,?_⟩
 refine ⟨a,ns,4,rfl,S6.seq hS,by decide,?_⟩
 refine ⟨sz,_,_,rfl,by omega,fun tb H7 m0 s7 _ hM0=>?_⟩
 have hW7:=hW0.mono s7
 have s57:=s6.trans s7
 clear s6 s7 hW0
 refine ZBE ?_
 walk_at "rd"
 have S7:=S5.trans s57
 refine ⟨a,ns,4,rfl,S7.seq hS,by decide,?_⟩
 walk_at "rd"
 refine ⟨by decide,?_⟩
 apply once3 (fun (tb rw:Addr) (X:Hp)=>Same H5 X /\ (∃ m,MAt X tb sz m) /\ ∃ xs ts,RwD X rw kd sz xs ts)
 .intro tailp
  by_cases e1:cellOf ns 4 % 2=1
  .rw [if_pos e1]
   refine ⟨a,ns,3,rfl,S7.seq hS,by decide,?_⟩
   refine ⟨sz,_,rfl,by omega,fun tb2 H8 m1 s8 _ hM1=>?_⟩
   walk_at "rd"
   by_cases k1:1 < kd
   .rw [if_pos k1]
    have s58:=s57.trans s8
    refine ZBI (SqL.of (s58 _ _ h15)) (by rw [yAB];omega) (fun i ys σ X=>∃ v,σ=[v,some (.int w)] /\ Same H8 X /\ ∃ ts,Row25 X kd ys ts /\ (∀ t∈ts,t.length=3) /\ ts.length=i) ⟨_,rfl,.refl _,[],.nil,(fun t h=>by cases h),rfl⟩ (fun i ys σ X _ z=>?_) (fun i ys u σ X hi hu z=>?_) fun ys σ X z rw2 hrw2=>?_
    .obtain ⟨v,_,sX,ts,hR,_,e⟩:=z
     exact ⟨SqL.of (sX _ _ (s58 _ _ h15)),by rw [hR.len,e];exact yAA _⟩
    .obtain ⟨v,rfl,sX,ts,hR,h3,e⟩:=z
     obtain ⟨c,hc,rfl⟩:=ZDO hu
     walk_at "rd"
     refine ⟨c,w,rfl,hw0,hw1,fun t X2 ms s2 ht hms=>.of hi ⟨_,rfl,sX.trans s2,ts++[ms],(hR.mono s2).snoc (.inr ⟨by omega,ht⟩),fun t h=>?_,by rw [yAD,e];rfl⟩⟩
     rcases yAU.mp h with z | z
     .exact h3 t z
     .rw [yAO.mp z];exact hms
    obtain ⟨v,rfl,sX,ts,hR,h3,e⟩:=z
    rw [yAB] at e
    obtain ⟨H9,e9,s9,h9⟩:=newH hrw2 (.lst ys)
    rw [e9];clear e9
    exact tailp tb2 rw2 H9 ⟨s58.trans (sX.trans s9),⟨m1,hM1.mono (sX.trans s9)⟩,ys,ts,h9,hR.mono s9,(fun z=>by omega),fun _=>h3,by omega⟩
   .rw [if_neg k1]
    exact tailp tb2 rw H8 ⟨s57.trans s8,⟨m1,hM1⟩,_,_,hW7.mono s8⟩
  .rw [if_neg e1]
   exact tailp tb rw H7 ⟨s57,⟨m0,hM0⟩,_,_,hW7⟩
 clear hM0 hW7 s57 S7 m0 xs0 ts0 S6
 rintro tb rw H7 ⟨s7,⟨m,hM⟩,xs,ts,hW⟩
 have hD:Dat25 kd nb sz (ZDY uf 3) (uf 0) ts:=⟨hW.small,hW.three,hnb,(fun c hc=>by
  obtain ⟨k,hk,rfl⟩:=yBG.mp hc
  have:=yBB.mp hk
  exact ⟨by show (0:Int) <= (k:Int);omega,by show ((k:Int)).toNat < 3;omega⟩),⟨0,rfl⟩,by have:=hW.len;omega⟩
 have hlen:=hW.len
 have hxl:=hW.row.len
 have hcl7:=s7 _ _ hcl5
 have hd7:=hd5.mono s7
 refine ZBE ?_
 walk_at "rd"
 refine ⟨kd,nb,rw,tb,cl,xs,cs,ts,sz,m,ZDY uf 3,uf 0,rfl,hW.hl,hW.row,hM,hcl7,hd7,hD,fun gl H8 s8 _ hG=>?_⟩
 refine ZBE ?_
 walk_at "rd"
 have hPt:H Pt_teller=some (.tbl #[]):=hT _ yAP
 refine ⟨kd,nb,tb,cl,xs,cs,ts,sz,m,ZDY uf 3,uf 0,rfl,.inl (s8 _ _ (s7 _ _ (S5 _ _ hPt))),hW.row.mono s8,hM.mono s8,by omega,s8 _ _ hcl7,hd7.mono s8,hD,(by show 3 <= 10;decide),k0,by omega,fun ru H9 s9 hB=>?_⟩
 have hG9:=hG.monoB s9
 have hrow9:=(hW.row.mono s8).monoB s9
 have hl9:=s9 _ _ (fun _ z=>by cases z) (s8 _ _ hW.hl)
 clear hG hd7 hcl7 hM hW
 refine ZBE ?_
 walk_at "rd"
 refine ⟨rw,xs,rfl,.inl (SqL.of hl9),fun hn hhn=>?_⟩
 obtain ⟨HA,eA,sA,hA⟩:=newH hhn (.lst xs)
 rw [eA];clear eA
 refine ZBE ?_
 walk_at "rd"
 refine ⟨hn,ru,xs,_,rfl,hA,by omega,(fun i j x y hx hy X Q E s k=>hB i j x y hx hy X Q E (sA.trans s) k),fun t HB sB hR=>?_⟩
 rw [hxl] at hR
 refine ⟨gl,t,ts.length,_,rfl,(hG9.mono sA).mono sB,by omega,hR,fun HC sC=>⟨_,rfl,?_⟩⟩
 rw [if_pos rfl]
 have SC:=sA.trans (sB.trans sC)
 have d1:=(hrow9.mono SC).dp (K:=K)
 have hhnC:=sC _ _ (sB _ _ hA)
 have hrwC:=SC _ _ hl9
 by_cases e0:kd=0
 .simp only [if_pos e0] at d1
  refine eqD_of (Enc.list (Enc.list Enc.int)) (by decide) (a:=ts) (b:=ts) (ZDX (SqL.of hhnC) d1) (ZDX (SqL.of hrwC) d1) ?_
  rw [decide_eq_true rfl]
  exact q _
 .simp only [if_neg e0] at d1
  refine eqD_of (Enc.list (Enc.tuple Enc.int)) (by decide) (a:=ts) (b:=ts) (ZDX (SqL.of hhnC) d1) (ZDX (SqL.of hrwC) d1) ?_
  rw [decide_eq_true rfl]
  exact q _
end
theorem all_mk {l:PySem.W.OpenLaw} {w:World} {K:W.Frag} {h:Heap} {mg:Str->Option Value} {fa C_zaW f_zao f_zaj C_zaU f_zak f_zae C_zaT f_zal f_zad C_zaQ f_zai f_zab C_zaV f_zam f_zaf C_zaS f_zag f_zaa C_zaR f_zah f_zac f_zax f_zan f_zat f_zar f_zaq f_zay f_zaw f_zap f_zas f_zaF f_zaG f_zaJ f_zaK f_zaL f_zaB f_zaC f_zaA f_zaD f_zaM f_zaz f_zaI f_zav f_zau f_zaH f_zaO f_zaN f_zaP f_zaE cc_zaE Pt_zaE:Addr} {t_GREATEST_AT t_UP t_DOWN:Tok} (X:K.In h) (G:h.Ns mainGlobals mg) (hfa:mg "law"=some (.ref fa))
  {od_zao an_zao:Option Addr} {sl_zao:Array (Option Value)} {oc_zao kV_zao dc_zao pm_zao cd_zao ct_zao:Value}
  {od_zaj an_zaj:Option Addr} {sl_zaj:Array (Option Value)} {oc_zaj kV_zaj dc_zaj pm_zaj cd_zaj ct_zaj:Value}
  {od_zak an_zak:Option Addr} {sl_zak:Array (Option Value)} {oc_zak kV_zak dc_zak pm_zak cd_zak ct_zak:Value}
  {od_zae an_zae:Option Addr} {sl_zae:Array (Option Value)} {oc_zae kV_zae dc_zae pm_zae cd_zae ct_zae:Value}
  {od_zal an_zal:Option Addr} {sl_zal:Array (Option Value)} {oc_zal kV_zal dc_zal pm_zal cd_zal ct_zal:Value}
  {od_zad an_zad:Option Addr} {sl_zad:Array (Option Value)} {oc_zad kV_zad dc_zad pm_zad cd_zad ct_zad:Value}
  {od_zai an_zai:Option Addr} {sl_zai:Array (Option Value)} {oc_zai kV_zai dc_zai pm_zai cd_zai ct_zai:Value}
  {od_zab an_zab:Option Addr} {sl_zab:Array (Option Value)} {oc_zab kV_zab dc_zab pm_zab cd_zab ct_zab:Value}
  {od_zam an_zam:Option Addr} {sl_zam:Array (Option Value)} {oc_zam kV_zam dc_zam pm_zam cd_zam ct_zam:Value}
  {od_zaf an_zaf:Option Addr} {sl_zaf:Array (Option Value)} {oc_zaf kV_zaf dc_zaf pm_zaf cd_zaf ct_zaf:Value}
  {od_zag an_zag:Option Addr} {sl_zag:Array (Option Value)} {oc_zag kV_zag dc_zag pm_zag cd_zag ct_zag:Value}
  {od_zaa an_zaa:Option Addr} {sl_zaa:Array (Option Value)} {oc_zaa kV_zaa dc_zaa pm_zaa cd_zaa ct_zaa:Value}
  {od_zah an_zah:Option Addr} {sl_zah:Array (Option Value)} {oc_zah kV_zah dc_zah pm_zah cd_zah ct_zah:Value}
  {od_zac an_zac:Option Addr} {sl_zac:Array (Option Value)} {oc_zac kV_zac dc_zac pm_zac cd_zac ct_zac:Value}
  {od_zax an_zax:Option Addr} {sl_zax:Array (Option Value)} {oc_zax kV_zax dc_zax pm_zax cd_zax ct_zax:Value}
  {od_zan an_zan:Option Addr} {sl_zan:Array (Option Value)} {oc_zan kV_zan dc_zan pm_zan cd_zan ct_zan:Value}
  {od_zat an_zat:Option Addr} {sl_zat:Array (Option Value)} {oc_zat kV_zat dc_zat pm_zat cd_zat ct_zat:Value}
  {od_zar an_zar:Option Addr} {sl_zar:Array (Option Value)} {oc_zar kV_zar dc_zar pm_zar cd_zar ct_zar:Value}
  {od_zaq an_zaq:Option Addr} {sl_zaq:Array (Option Value)} {oc_zaq kV_zaq dc_zaq pm_zaq cd_zaq ct_zaq:Value}
  {od_zay an_zay:Option Addr} {sl_zay:Array (Option Value)} {oc_zay kV_zay dc_zay pm_zay cd_zay ct_zay:Value}
  {od_zaw an_zaw:Option Addr} {sl_zaw:Array (Option Value)} {oc_zaw kV_zaw dc_zaw pm_zaw cd_zaw ct_zaw:Value}
  {od_zap an_zap:Option Addr} {sl_zap:Array (Option Value)} {oc_zap kV_zap dc_zap pm_zap cd_zap ct_zap:Value}
  {od_zas an_zas:Option Addr} {sl_zas:Array (Option Value)} {oc_zas kV_zas dc_zas pm_zas cd_zas ct_zas:Value}
  {od_zaF an_zaF:Option Addr} {sl_zaF:Array (Option Value)} {oc_zaF kV_zaF dc_zaF pm_zaF cd_zaF ct_zaF:Value}
  {od_zaG an_zaG:Option Addr} {sl_zaG:Array (Option Value)} {oc_zaG kV_zaG dc_zaG pm_zaG cd_zaG ct_zaG:Value}
  {od_zaJ an_zaJ:Option Addr} {sl_zaJ:Array (Option Value)} {oc_zaJ kV_zaJ dc_zaJ pm_zaJ cd_zaJ ct_zaJ:Value}
  {od_zaK an_zaK:Option Addr} {sl_zaK:Array (Option Value)} {oc_zaK kV_zaK dc_zaK pm_zaK cd_zaK ct_zaK:Value}
  {od_zaL an_zaL:Option Addr} {sl_zaL:Array (Option Value)} {oc_zaL kV_zaL dc_zaL pm_zaL cd_zaL ct_zaL:Value}
  {od_zaB an_zaB:Option Addr} {sl_zaB:Array (Option Value)} {oc_zaB kV_zaB dc_zaB pm_zaB cd_zaB ct_zaB:Value}
  {od_zaC an_zaC:Option Addr} {sl_zaC:Array (Option Value)} {oc_zaC kV_zaC dc_zaC pm_zaC cd_zaC ct_zaC:Value}
  {od_zaA an_zaA:Option Addr} {sl_zaA:Array (Option Value)} {oc_zaA kV_zaA dc_zaA pm_zaA cd_zaA ct_zaA:Value}
  {od_zaD an_zaD:Option Addr} {sl_zaD:Array (Option Value)} {oc_zaD kV_zaD dc_zaD pm_zaD cd_zaD ct_zaD:Value}
  {od_zaM an_zaM:Option Addr} {sl_zaM:Array (Option Value)} {oc_zaM kV_zaM dc_zaM pm_zaM cd_zaM ct_zaM:Value}
  {od_zaz an_zaz:Option Addr} {sl_zaz:Array (Option Value)} {oc_zaz kV_zaz dc_zaz pm_zaz cd_zaz ct_zaz:Value}
  {od_zaI an_zaI:Option Addr} {sl_zaI:Array (Option Value)} {oc_zaI kV_zaI dc_zaI pm_zaI cd_zaI ct_zaI:Value}
  {od_zav an_zav:Option Addr} {sl_zav:Array (Option Value)} {oc_zav kV_zav dc_zav pm_zav cd_zav ct_zav:Value}
  {od_zau an_zau:Option Addr} {sl_zau:Array (Option Value)} {oc_zau kV_zau dc_zau pm_zau cd_zau ct_zau:Value}
  {od_zaH an_zaH:Option Addr} {sl_zaH:Array (Option Value)} {oc_zaH kV_zaH dc_zaH pm_zaH cd_zaH ct_zaH:Value}
  {od_zaO an_zaO:Option Addr} {sl_zaO:Array (Option Value)} {oc_zaO kV_zaO dc_zaO pm_zaO cd_zaO ct_zaO:Value}
  {od_zaN an_zaN:Option Addr} {sl_zaN:Array (Option Value)} {oc_zaN kV_zaN dc_zaN pm_zaN cd_zaN ct_zaN:Value}
  {od_zaP an_zaP:Option Addr} {sl_zaP:Array (Option Value)} {oc_zaP kV_zaP dc_zaP pm_zaP cd_zaP ct_zaP:Value}
  {oc2_zaE:Value} {od2_zaE:Option Addr} {vs_zaE:Array Value} {sl2_zaE:Array (Option Value)}
  {od_zaE an_zaE:Option Addr} {sl_zaE:Array (Option Value)} {oc_zaE kV_zaE dc_zaE pm_zaE ct_zaE:Value}
  (a_zaW:W.nsIn K mainGlobals "KeyRule"=some (some (.ref C_zaW)))
  (pg_zaW:PySem.W.plainGet K C_zaW Str.empty=true)
  (hd_zaW:PySem.W.hasDictIn K C_zaW=true)
  (po_zaW:PySem.W.plainOver K C_zaW=true)
  (sa_zaW:W.findIn K (.ref C_zaW) "__setattr__"=some (some (.builtin "object.__setattr__")))
  (mk_zaW:PySem.W.makesIn K C_zaW=true)
  (kc_zaW:W.keepIn K (.ref C_zaW)=true)
  (n_zaW_columns:W.findIn K (.ref C_zaW) "columns"=some none)
  (a_zao:W.findIn K (.ref C_zaW) "__init__"=some (some (.ref f_zao)))
  (i_zao:PySem.W.isFn K (.ref f_zao)=true)
  (l_zao:K.lookup f_zao=some ⟨oc_zao,od_zao,.func (W.fnOf "__init__" "KeyRule.__init__" (ZAJ ZBD) (ZAH ZBD) (ZAB ZBD) .none kV_zao dc_zao pm_zao an_zao cd_zao ct_zao),sl_zao⟩)
  (c_zao:W.codeIn K cd_zao "KeyRule.__init__"=true)
  (k_zao:W.keepIn K (.ref f_zao)=true)
  (a_zaj:W.findIn K (.ref C_zaW) "before"=some (some (.ref f_zaj)))
  (i_zaj:PySem.W.isFn K (.ref f_zaj)=true)
  (l_zaj:K.lookup f_zaj=some ⟨oc_zaj,od_zaj,.func (W.fnOf "before" "KeyRule.before" (ZAJ ZAx) (ZAH ZAx) (ZAB ZAx) .none kV_zaj dc_zaj pm_zaj an_zaj cd_zaj ct_zaj),sl_zaj⟩)
  (c_zaj:W.codeIn K cd_zaj "KeyRule.before"=true)
  (k_zaj:W.keepIn K (.ref f_zaj)=true)
  (a_zaU:W.nsIn K mainGlobals "NearRule"=some (some (.ref C_zaU)))
  (pg_zaU:PySem.W.plainGet K C_zaU Str.empty=true)
  (hd_zaU:PySem.W.hasDictIn K C_zaU=true)
  (po_zaU:PySem.W.plainOver K C_zaU=true)
  (sa_zaU:W.findIn K (.ref C_zaU) "__setattr__"=some (some (.builtin "object.__setattr__")))
  (mk_zaU:PySem.W.makesIn K C_zaU=true)
  (kc_zaU:W.keepIn K (.ref C_zaU)=true)
  (n_zaU_at:W.findIn K (.ref C_zaU) "at"=some none)
  (n_zaU_gap:W.findIn K (.ref C_zaU) "gap"=some none)
  (a_zak:W.findIn K (.ref C_zaU) "__init__"=some (some (.ref f_zak)))
  (i_zak:PySem.W.isFn K (.ref f_zak)=true)
  (l_zak:K.lookup f_zak=some ⟨oc_zak,od_zak,.func (W.fnOf "__init__" "NearRule.__init__" (ZAJ ZA7) (ZAH ZA7) (ZAB ZA7) .none kV_zak dc_zak pm_zak an_zak cd_zak ct_zak),sl_zak⟩)
  (c_zak:W.codeIn K cd_zak "NearRule.__init__"=true)
  (k_zak:W.keepIn K (.ref f_zak)=true)
  (a_zae:W.findIn K (.ref C_zaU) "before"=some (some (.ref f_zae)))
  (i_zae:PySem.W.isFn K (.ref f_zae)=true)
  (l_zae:K.lookup f_zae=some ⟨oc_zae,od_zae,.func (W.fnOf "before" "NearRule.before" (ZAJ ZAk) (ZAH ZAk) (ZAB ZAk) .none kV_zae dc_zae pm_zae an_zae cd_zae ct_zae),sl_zae⟩)
  (c_zae:W.codeIn K cd_zae "NearRule.before"=true)
  (k_zae:W.keepIn K (.ref f_zae)=true)
  (a_zaT:W.nsIn K mainGlobals "RingRule"=some (some (.ref C_zaT)))
  (pg_zaT:PySem.W.plainGet K C_zaT Str.empty=true)
  (hd_zaT:PySem.W.hasDictIn K C_zaT=true)
  (po_zaT:PySem.W.plainOver K C_zaT=true)
  (sa_zaT:W.findIn K (.ref C_zaT) "__setattr__"=some (some (.builtin "object.__setattr__")))
  (mk_zaT:PySem.W.makesIn K C_zaT=true)
  (kc_zaT:W.keepIn K (.ref C_zaT)=true)
  (n_zaT_at:W.findIn K (.ref C_zaT) "at"=some none)
  (n_zaT_size:W.findIn K (.ref C_zaT) "size"=some none)
  (a_zal:W.findIn K (.ref C_zaT) "__init__"=some (some (.ref f_zal)))
  (i_zal:PySem.W.isFn K (.ref f_zal)=true)
  (l_zal:K.lookup f_zal=some ⟨oc_zal,od_zal,.func (W.fnOf "__init__" "RingRule.__init__" (ZAJ ZA6) (ZAH ZA6) (ZAB ZA6) .none kV_zal dc_zal pm_zal an_zal cd_zal ct_zal),sl_zal⟩)
  (c_zal:W.codeIn K cd_zal "RingRule.__init__"=true)
  (k_zal:W.keepIn K (.ref f_zal)=true)
  (a_zad:W.findIn K (.ref C_zaT) "before"=some (some (.ref f_zad)))
  (i_zad:PySem.W.isFn K (.ref f_zad)=true)
  (l_zad:K.lookup f_zad=some ⟨oc_zad,od_zad,.func (W.fnOf "before" "RingRule.before" (ZAJ ZAj) (ZAH ZAj) (ZAB ZAj) .none kV_zad dc_zad pm_zad an_zad cd_zad ct_zad),sl_zad⟩)
  (c_zad:W.codeIn K cd_zad "RingRule.before"=true)
  (k_zad:W.keepIn K (.ref f_zad)=true)
  (a_zaQ:W.nsIn K mainGlobals "TableRule"=some (some (.ref C_zaQ)))
  (pg_zaQ:PySem.W.plainGet K C_zaQ Str.empty=true)
  (hd_zaQ:PySem.W.hasDictIn K C_zaQ=true)
  (po_zaQ:PySem.W.plainOver K C_zaQ=true)
  (sa_zaQ:W.findIn K (.ref C_zaQ) "__setattr__"=some (some (.builtin "object.__setattr__")))
  (mk_zaQ:PySem.W.makesIn K C_zaQ=true)
  (kc_zaQ:W.keepIn K (.ref C_zaQ)=true)
  (n_zaQ_at:W.findIn K (.ref C_zaQ) "at"=some none)
  (n_zaQ_table:W.findIn K (.ref C_zaQ) "table"=some none)
  (a_zai:W.findIn K (.ref C_zaQ) "__init__"=some (some (.ref f_zai)))
  (i_zai:PySem.W.isFn K (.ref f_zai)=true)
  (l_zai:K.lookup f_zai=some ⟨oc_zai,od_zai,.func (W.fnOf "__init__" "TableRule.__init__" (ZAJ ZAw) (ZAH ZAw) (ZAB ZAw) .none kV_zai dc_zai pm_zai an_zai cd_zai ct_zai),sl_zai⟩)
  (c_zai:W.codeIn K cd_zai "TableRule.__init__"=true)
  (k_zai:W.keepIn K (.ref f_zai)=true)
  (a_zab:W.findIn K (.ref C_zaQ) "before"=some (some (.ref f_zab)))
  (i_zab:PySem.W.isFn K (.ref f_zab)=true)
  (l_zab:K.lookup f_zab=some ⟨oc_zab,od_zab,.func (W.fnOf "before" "TableRule.before" (ZAJ ZAc) (ZAH ZAc) (ZAB ZAc) .none kV_zab dc_zab pm_zab an_zab cd_zab ct_zab),sl_zab⟩)
  (c_zab:W.codeIn K cd_zab "TableRule.before"=true)
  (k_zab:W.keepIn K (.ref f_zab)=true)
  (a_zaV:W.nsIn K mainGlobals "VoteRule"=some (some (.ref C_zaV)))
  (pg_zaV:PySem.W.plainGet K C_zaV Str.empty=true)
  (hd_zaV:PySem.W.hasDictIn K C_zaV=true)
  (po_zaV:PySem.W.plainOver K C_zaV=true)
  (sa_zaV:W.findIn K (.ref C_zaV) "__setattr__"=some (some (.builtin "object.__setattr__")))
  (mk_zaV:PySem.W.makesIn K C_zaV=true)
  (kc_zaV:W.keepIn K (.ref C_zaV)=true)
  (n_zaV_rules:W.findIn K (.ref C_zaV) "rules"=some none)
  (a_zam:W.findIn K (.ref C_zaV) "__init__"=some (some (.ref f_zam)))
  (i_zam:PySem.W.isFn K (.ref f_zam)=true)
  (l_zam:K.lookup f_zam=some ⟨oc_zam,od_zam,.func (W.fnOf "__init__" "VoteRule.__init__" (ZAJ ZA5) (ZAH ZA5) (ZAB ZA5) .none kV_zam dc_zam pm_zam an_zam cd_zam ct_zam),sl_zam⟩)
  (c_zam:W.codeIn K cd_zam "VoteRule.__init__"=true)
  (k_zam:W.keepIn K (.ref f_zam)=true)
  (a_zaf:W.findIn K (.ref C_zaV) "before"=some (some (.ref f_zaf)))
  (i_zaf:PySem.W.isFn K (.ref f_zaf)=true)
  (l_zaf:K.lookup f_zaf=some ⟨oc_zaf,od_zaf,.func (W.fnOf "before" "VoteRule.before" (ZAJ ZAi) (ZAH ZAi) (ZAB ZAi) .none kV_zaf dc_zaf pm_zaf an_zaf cd_zaf ct_zaf),sl_zaf⟩)
  (c_zaf:W.codeIn K cd_zaf "VoteRule.before"=true)
  (k_zaf:W.keepIn K (.ref f_zaf)=true)
  (a_zaS:W.nsIn K mainGlobals "ChainRule"=some (some (.ref C_zaS)))
  (pg_zaS:PySem.W.plainGet K C_zaS Str.empty=true)
  (hd_zaS:PySem.W.hasDictIn K C_zaS=true)
  (po_zaS:PySem.W.plainOver K C_zaS=true)
  (sa_zaS:W.findIn K (.ref C_zaS) "__setattr__"=some (some (.builtin "object.__setattr__")))
  (mk_zaS:PySem.W.makesIn K C_zaS=true)
  (kc_zaS:W.keepIn K (.ref C_zaS)=true)
  (n_zaS_rules:W.findIn K (.ref C_zaS) "rules"=some none)
  (a_zag:W.findIn K (.ref C_zaS) "__init__"=some (some (.ref f_zag)))
  (i_zag:PySem.W.isFn K (.ref f_zag)=true)
  (l_zag:K.lookup f_zag=some ⟨oc_zag,od_zag,.func (W.fnOf "__init__" "ChainRule.__init__" (ZAJ ZAy) (ZAH ZAy) (ZAB ZAy) .none kV_zag dc_zag pm_zag an_zag cd_zag ct_zag),sl_zag⟩)
  (c_zag:W.codeIn K cd_zag "ChainRule.__init__"=true)
  (k_zag:W.keepIn K (.ref f_zag)=true)
  (a_zaa:W.findIn K (.ref C_zaS) "before"=some (some (.ref f_zaa)))
  (i_zaa:PySem.W.isFn K (.ref f_zaa)=true)
  (l_zaa:K.lookup f_zaa=some ⟨oc_zaa,od_zaa,.func (W.fnOf "before" "ChainRule.before" (ZAJ ZAd) (ZAH ZAd) (ZAB ZAd) .none kV_zaa dc_zaa pm_zaa an_zaa cd_zaa ct_zaa),sl_zaa⟩)
  (c_zaa:W.codeIn K cd_zaa "ChainRule.before"=true)
  (k_zaa:W.keepIn K (.ref f_zaa)=true)
  (a_zaR:W.nsIn K mainGlobals "AskedRule"=some (some (.ref C_zaR)))
  (pg_zaR:PySem.W.plainGet K C_zaR Str.empty=true)
  (hd_zaR:PySem.W.hasDictIn K C_zaR=true)
  (po_zaR:PySem.W.plainOver K C_zaR=true)
  (sa_zaR:W.findIn K (.ref C_zaR) "__setattr__"=some (some (.builtin "object.__setattr__")))
  (mk_zaR:PySem.W.makesIn K C_zaR=true)
  (kc_zaR:W.keepIn K (.ref C_zaR)=true)
  (n_zaR_teller:W.findIn K (.ref C_zaR) "teller"=some none)
  (a_zah:W.findIn K (.ref C_zaR) "__init__"=some (some (.ref f_zah)))
  (i_zah:PySem.W.isFn K (.ref f_zah)=true)
  (l_zah:K.lookup f_zah=some ⟨oc_zah,od_zah,.func (W.fnOf "__init__" "AskedRule.__init__" (ZAJ ZAz) (ZAH ZAz) (ZAB ZAz) .none kV_zah dc_zah pm_zah an_zah cd_zah ct_zah),sl_zah⟩)
  (c_zah:W.codeIn K cd_zah "AskedRule.__init__"=true)
  (k_zah:W.keepIn K (.ref f_zah)=true)
  (a_zac:W.findIn K (.ref C_zaR) "before"=some (some (.ref f_zac)))
  (i_zac:PySem.W.isFn K (.ref f_zac)=true)
  (l_zac:K.lookup f_zac=some ⟨oc_zac,od_zac,.func (W.fnOf "before" "AskedRule.before" (ZAJ ZAe) (ZAH ZAe) (ZAB ZAe) .none kV_zac dc_zac pm_zac an_zac cd_zac ct_zac),sl_zac⟩)
  (c_zac:W.codeIn K cd_zac "AskedRule.before"=true)
  (k_zac:W.keepIn K (.ref f_zac)=true)
  (a_zax:W.nsIn K mainGlobals "straight"=some (some (.ref f_zax)))
  (l_zax:K.lookup f_zax=some ⟨oc_zax,od_zax,.func (W.fnOf "straight" "straight" (ZAJ ZBe) (ZAH ZBe) (ZAB ZBe) .none kV_zax dc_zax pm_zax an_zax cd_zax ct_zax),sl_zax⟩)
  (c_zax:W.codeIn K cd_zax "straight"=true)
  (k_zax:W.keepIn K (.ref f_zax)=true)
  (a_zan:W.nsIn K mainGlobals "counted_ranks"=some (some (.ref f_zan)))
  (l_zan:K.lookup f_zan=some ⟨oc_zan,od_zan,.func (W.fnOf "counted_ranks" "counted_ranks" (ZAJ ZA4) (ZAH ZA4) (ZAB ZA4) .none kV_zan dc_zan pm_zan an_zan cd_zan ct_zan),sl_zan⟩)
  (c_zan:W.codeIn K cd_zan "counted_ranks"=true)
  (k_zan:W.keepIn K (.ref f_zan)=true)
  (a_zat:W.nsIn K mainGlobals "are_ranks"=some (some (.ref f_zat)))
  (l_zat:K.lookup f_zat=some ⟨oc_zat,od_zat,.func (W.fnOf "are_ranks" "are_ranks" (ZAJ ZBV) (ZAH ZBV) (ZAB ZBV) .none kV_zat dc_zat pm_zat an_zat cd_zat ct_zat),sl_zat⟩)
  (c_zat:W.codeIn K cd_zat "are_ranks"=true)
  (k_zat:W.keepIn K (.ref f_zat)=true)
  (a_zar:W.nsIn K mainGlobals "odd_thirds"=some (some (.ref f_zar)))
  (l_zar:K.lookup f_zar=some ⟨oc_zar,od_zar,.func (W.fnOf "odd_thirds" "odd_thirds" (ZAJ ZBN) (ZAH ZBN) (ZAB ZBN) .none kV_zar dc_zar pm_zar an_zar cd_zar ct_zar),sl_zar⟩)
  (c_zar:W.codeIn K cd_zar "odd_thirds"=true)
  (k_zar:W.keepIn K (.ref f_zar)=true)
  (a_zaq:W.nsIn K mainGlobals "flaw_of_two"=some (some (.ref f_zaq)))
  (l_zaq:K.lookup f_zaq=some ⟨oc_zaq,od_zaq,.func (W.fnOf "flaw_of_two" "flaw_of_two" (ZAJ ZBG) (ZAH ZBG) (ZAB ZBG) .none kV_zaq dc_zaq pm_zaq an_zaq cd_zaq ct_zaq),sl_zaq⟩)
  (c_zaq:W.codeIn K cd_zaq "flaw_of_two"=true)
  (k_zaq:W.keepIn K (.ref f_zaq)=true)
  (a_zay:W.nsIn K mainGlobals "flaw_of"=some (some (.ref f_zay)))
  (l_zay:K.lookup f_zay=some ⟨oc_zay,od_zay,.func (W.fnOf "flaw_of" "flaw_of" (ZAJ ZBp) (ZAH ZBp) (ZAB ZBp) .none kV_zay dc_zay pm_zay an_zay cd_zay ct_zay),sl_zay⟩)
  (c_zay:W.codeIn K cd_zay "flaw_of"=true)
  (k_zay:W.keepIn K (.ref f_zay)=true)
  (a_zaw:W.nsIn K mainGlobals "check_at"=some (some (.ref f_zaw)))
  (l_zaw:K.lookup f_zaw=some ⟨oc_zaw,od_zaw,.func (W.fnOf "check_at" "check_at" (ZAJ ZBf) (ZAH ZBf) (ZAB ZBf) .none kV_zaw dc_zaw pm_zaw an_zaw cd_zaw ct_zaw),sl_zaw⟩)
  (c_zaw:W.codeIn K cd_zaw "check_at"=true)
  (k_zaw:W.keepIn K (.ref f_zaw)=true)
  (a_zap:W.nsIn K mainGlobals "check_column"=some (some (.ref f_zap)))
  (l_zap:K.lookup f_zap=some ⟨oc_zap,od_zap,.func (W.fnOf "check_column" "check_column" (ZAJ ZBC) (ZAH ZBC) (ZAB ZBC) .none kV_zap dc_zap pm_zap an_zap cd_zap ct_zap),sl_zap⟩)
  (c_zap:W.codeIn K cd_zap "check_column"=true)
  (k_zap:W.keepIn K (.ref f_zap)=true)
  (a_zas:W.nsIn K mainGlobals "told_pairs"=some (some (.ref f_zas)))
  (l_zas:K.lookup f_zas=some ⟨oc_zas,od_zas,.func (W.fnOf "told_pairs" "told_pairs" (ZAJ ZBM) (ZAH ZBM) (ZAB ZBM) .none kV_zas dc_zas pm_zas an_zas cd_zas ct_zas),sl_zas⟩)
  (c_zas:W.codeIn K cd_zas "told_pairs"=true)
  (k_zas:W.keepIn K (.ref f_zas)=true)
  (a_zaF:W.nsIn K mainGlobals "ranked"=some (some (.ref f_zaF)))
  (l_zaF:K.lookup f_zaF=some ⟨oc_zaF,od_zaF,.func (W.fnOf "ranked" "ranked" (ZAJ ZCD) (ZAH ZCD) (ZAB ZCD) .none kV_zaF dc_zaF pm_zaF an_zaF cd_zaF ct_zaF),sl_zaF⟩)
  (c_zaF:W.codeIn K cd_zaF "ranked"=true)
  (k_zaF:W.keepIn K (.ref f_zaF)=true)
  (a_zaG:W.nsIn K mainGlobals "_law_whole"=some (some (.ref f_zaG)))
  (l_zaG:K.lookup f_zaG=some ⟨oc_zaG,od_zaG,.func (W.fnOf "_law_whole" "_law_whole" (ZAJ ZCW) (ZAH ZCW) (ZAB ZCW) .none kV_zaG dc_zaG pm_zaG an_zaG cd_zaG ct_zaG),sl_zaG⟩)
  (c_zaG:W.codeIn K cd_zaG "_law_whole"=true)
  (k_zaG:W.keepIn K (.ref f_zaG)=true)
  (a_zaJ:W.nsIn K mainGlobals "_law_ranks"=some (some (.ref f_zaJ)))
  (l_zaJ:K.lookup f_zaJ=some ⟨oc_zaJ,od_zaJ,.func (W.fnOf "_law_ranks" "_law_ranks" (ZAJ ZCZ) (ZAH ZCZ) (ZAB ZCZ) .none kV_zaJ dc_zaJ pm_zaJ an_zaJ cd_zaJ ct_zaJ),sl_zaJ⟩)
  (c_zaJ:W.codeIn K cd_zaJ "_law_ranks"=true)
  (k_zaJ:W.keepIn K (.ref f_zaJ)=true)
  (a_zaK:W.nsIn K mainGlobals "_law_flaw"=some (some (.ref f_zaK)))
  (l_zaK:K.lookup f_zaK=some ⟨oc_zaK,od_zaK,.func (W.fnOf "_law_flaw" "_law_flaw" (ZAJ ZC4) (ZAH ZC4) (ZAB ZC4) .none kV_zaK dc_zaK pm_zaK an_zaK cd_zaK ct_zaK),sl_zaK⟩)
  (c_zaK:W.codeIn K cd_zaK "_law_flaw"=true)
  (k_zaK:W.keepIn K (.ref f_zaK)=true)
  (a_zaL:W.nsIn K mainGlobals "_law_good"=some (some (.ref f_zaL)))
  (l_zaL:K.lookup f_zaL=some ⟨oc_zaL,od_zaL,.func (W.fnOf "_law_good" "_law_good" (ZAJ ZC3) (ZAH ZC3) (ZAB ZC3) .none kV_zaL dc_zaL pm_zaL an_zaL cd_zaL ct_zaL),sl_zaL⟩)
  (c_zaL:W.codeIn K cd_zaL "_law_good"=true)
  (k_zaL:W.keepIn K (.ref f_zaL)=true)
  (a_zaB:W.nsIn K mainGlobals "_law_cell_at"=some (some (.ref f_zaB)))
  (l_zaB:K.lookup f_zaB=some ⟨oc_zaB,od_zaB,.func (W.fnOf "_law_cell_at" "_law_cell_at" (ZAJ ZBr) (ZAH ZBr) (ZAB ZBr) .none kV_zaB dc_zaB pm_zaB an_zaB cd_zaB ct_zaB),sl_zaB⟩)
  (c_zaB:W.codeIn K cd_zaB "_law_cell_at"=true)
  (k_zaB:W.keepIn K (.ref f_zaB)=true)
  (a_zaC:W.nsIn K mainGlobals "_law_signed"=some (some (.ref f_zaC)))
  (l_zaC:K.lookup f_zaC=some ⟨oc_zaC,od_zaC,.func (W.fnOf "_law_signed" "_law_signed" (ZAJ ZCC) (ZAH ZCC) (ZAB ZCC) .none kV_zaC dc_zaC pm_zaC an_zaC cd_zaC ct_zaC),sl_zaC⟩)
  (c_zaC:W.codeIn K cd_zaC "_law_signed"=true)
  (k_zaC:W.keepIn K (.ref f_zaC)=true)
  (a_zaA:W.nsIn K mainGlobals "_law_reserve"=some (some (.ref f_zaA)))
  (l_zaA:K.lookup f_zaA=some ⟨oc_zaA,od_zaA,.func (W.fnOf "_law_reserve" "_law_reserve" (ZAJ ZBo) (ZAH ZBo) (ZAB ZBo) .none kV_zaA dc_zaA pm_zaA an_zaA cd_zaA ct_zaA),sl_zaA⟩)
  (c_zaA:W.codeIn K cd_zaA "_law_reserve"=true)
  (k_zaA:W.keepIn K (.ref f_zaA)=true)
  (a_zaD:W.nsIn K mainGlobals "_law_column"=some (some (.ref f_zaD)))
  (l_zaD:K.lookup f_zaD=some ⟨oc_zaD,od_zaD,.func (W.fnOf "_law_column" "_law_column" (ZAJ ZCE) (ZAH ZCE) (ZAB ZCE) .none kV_zaD dc_zaD pm_zaD an_zaD cd_zaD ct_zaD),sl_zaD⟩)
  (c_zaD:W.codeIn K cd_zaD "_law_column"=true)
  (k_zaD:W.keepIn K (.ref f_zaD)=true)
  (a_zaM:W.nsIn K mainGlobals "_law_rung"=some (some (.ref f_zaM)))
  (l_zaM:K.lookup f_zaM=some ⟨oc_zaM,od_zaM,.func (W.fnOf "_law_rung" "_law_rung" (ZAJ ZC1) (ZAH ZC1) (ZAB ZC1) .none kV_zaM dc_zaM pm_zaM an_zaM cd_zaM ct_zaM),sl_zaM⟩)
  (c_zaM:W.codeIn K cd_zaM "_law_rung"=true)
  (k_zaM:W.keepIn K (.ref f_zaM)=true)
  (a_zaz:W.nsIn K mainGlobals "_law_chained"=some (some (.ref f_zaz)))
  (l_zaz:K.lookup f_zaz=some ⟨oc_zaz,od_zaz,.func (W.fnOf "_law_chained" "_law_chained" (ZAJ ZBq) (ZAH ZBq) (ZAB ZBq) .none kV_zaz dc_zaz pm_zaz an_zaz cd_zaz ct_zaz),sl_zaz⟩)
  (c_zaz:W.codeIn K cd_zaz "_law_chained"=true)
  (k_zaz:W.keepIn K (.ref f_zaz)=true)
  (a_zaI:W.nsIn K mainGlobals "_law_votes"=some (some (.ref f_zaI)))
  (l_zaI:K.lookup f_zaI=some ⟨oc_zaI,od_zaI,.func (W.fnOf "_law_votes" "_law_votes" (ZAJ ZCX) (ZAH ZCX) (ZAB ZCX) .none kV_zaI dc_zaI pm_zaI an_zaI cd_zaI ct_zaI),sl_zaI⟩)
  (c_zaI:W.codeIn K cd_zaI "_law_votes"=true)
  (k_zaI:W.keepIn K (.ref f_zaI)=true)
  (a_zav:W.nsIn K mainGlobals "_law_table_of"=some (some (.ref f_zav)))
  (l_zav:K.lookup f_zav=some ⟨oc_zav,od_zav,.func (W.fnOf "_law_table_of" "_law_table_of" (ZAJ ZBd) (ZAH ZBd) (ZAB ZBd) .none kV_zav dc_zav pm_zav an_zav cd_zav ct_zav),sl_zav⟩)
  (c_zav:W.codeIn K cd_zav "_law_table_of"=true)
  (k_zav:W.keepIn K (.ref f_zav)=true)
  (a_zau:W.nsIn K mainGlobals "_law_thing_of"=some (some (.ref f_zau)))
  (l_zau:K.lookup f_zau=some ⟨oc_zau,od_zau,.func (W.fnOf "_law_thing_of" "_law_thing_of" (ZAJ ZBc) (ZAH ZBc) (ZAB ZBc) .none kV_zau dc_zau pm_zau an_zau cd_zau ct_zau),sl_zau⟩)
  (c_zau:W.codeIn K cd_zau "_law_thing_of"=true)
  (k_zau:W.keepIn K (.ref f_zau)=true)
  (a_zaH:W.nsIn K mainGlobals "_law_table"=some (some (.ref f_zaH)))
  (l_zaH:K.lookup f_zaH=some ⟨oc_zaH,od_zaH,.func (W.fnOf "_law_table" "_law_table" (ZAJ ZCY) (ZAH ZCY) (ZAB ZCY) .none kV_zaH dc_zaH pm_zaH an_zaH cd_zaH ct_zaH),sl_zaH⟩)
  (c_zaH:W.codeIn K cd_zaH "_law_table"=true)
  (k_zaH:W.keepIn K (.ref f_zaH)=true)
  (a_zaO:W.nsIn K mainGlobals "_law_due"=some (some (.ref f_zaO)))
  (l_zaO:K.lookup f_zaO=some ⟨oc_zaO,od_zaO,.func (W.fnOf "_law_due" "_law_due" (ZAJ ZDx) (ZAH ZDx) (ZAB ZDx) .none kV_zaO dc_zaO pm_zaO an_zaO cd_zaO ct_zaO),sl_zaO⟩)
  (c_zaO:W.codeIn K cd_zaO "_law_due"=true)
  (k_zaO:W.keepIn K (.ref f_zaO)=true)
  (a_zaN:W.nsIn K mainGlobals "_law_rule"=some (some (.ref f_zaN)))
  (l_zaN:K.lookup f_zaN=some ⟨oc_zaN,od_zaN,.func (W.fnOf "_law_rule" "_law_rule" (ZAJ ZC2) (ZAH ZC2) (ZAB ZC2) .none kV_zaN dc_zaN pm_zaN an_zaN cd_zaN ct_zaN),sl_zaN⟩)
  (c_zaN:W.codeIn K cd_zaN "_law_rule"=true)
  (k_zaN:W.keepIn K (.ref f_zaN)=true)
  (a_zaP:W.nsIn K mainGlobals "law"=some (some (.ref f_zaP)))
  (l_zaP:K.lookup f_zaP=some ⟨oc_zaP,od_zaP,.func (W.fnOf "law" "law" (ZAJ ZDE) (ZAH ZDE) (ZAB ZDE) .none kV_zaP dc_zaP pm_zaP an_zaP cd_zaP ct_zaP),sl_zaP⟩)
  (c_zaP:W.codeIn K cd_zaP "law"=true)
  (k_zaP:W.keepIn K (.ref f_zaP)=true)
  (a_zaE:W.nsIn K mainGlobals "_law_teller"=some (some (.ref f_zaE)))
  (l_zaE:K.lookup f_zaE=some ⟨oc_zaE,od_zaE,.func (W.fnOf "_law_teller" "_law_teller" (ZAJ ZBy) (ZAH ZBy) (ZAB ZBy) .none kV_zaE dc_zaE pm_zaE an_zaE (.ref cc_zaE) ct_zaE),sl_zaE⟩)
  (c_zaE:W.codeIn K (.ref cc_zaE) "_law_teller"=true)
  (lc_zaE:K.lookup cc_zaE=some ⟨oc2_zaE,od2_zaE,.fields vs_zaE,sl2_zaE⟩)
  (tp_zaE:vs_zaE[11]?=some (.ref Pt_zaE))
  (k_zaE:W.keepIn K (.ref f_zaE)=true)
  (z_GREATEST_AT:W.nsIn K mainGlobals "GREATEST_AT"=some (some (.int 7 t_GREATEST_AT)))
  (z_UP:W.nsIn K mainGlobals "UP"=some (some (.str "up" t_UP)))
  (z_DOWN:W.nsIn K mainGlobals "DOWN"=some (some (.str "down" t_DOWN)))
  (z_len:W.nsIn K mainGlobals "len"=some none)
  (z_range:W.nsIn K mainGlobals "range"=some none)
  (z_tuple:W.nsIn K mainGlobals "tuple"=some none)
  (z_list:W.nsIn K mainGlobals "list"=some none)
  (z_isinstance:W.nsIn K mainGlobals "isinstance"=some none)
  (z_bool:W.nsIn K mainGlobals "bool"=some none)
  (z_int:W.nsIn K mainGlobals "int"=some none)
  (z_max:W.nsIn K mainGlobals "max"=some none)
  (z_min:W.nsIn K mainGlobals "min"=some none)
  (z_enumerate:W.nsIn K mainGlobals "enumerate"=some none)
  (z_ValueError:W.nsIn K mainGlobals "ValueError"=some none)
  (kit_int_bool:PySem.W.kitOne K (.type "int") (.type "bool")=some false)
  (nt:PySem.W.noTabs K=true) :
  ∃ (tabs:List (Addr×Addr)) (fd:FuncData),PySem.W.noTabs K=true /\ (∀ t∈tabs,∃ y∈(["_law_teller"]:List Str),PySem.W.tabIn K y=some t) /\ (∀ (s:Shared) (v:Value),BindsTo s fd ⟨[v],[]⟩ [("_law_script",v)]) /\ ∀ base:Heap,K.In base->base.Ns mainGlobals mg->(∀ t∈tabs,PySem.W.CodeHd base t.1 t.2)->ZDa mg base->FnOk l.prog w K mg base CX0 6 fa fd ["_law_script"] (ZD7 K tabs):=by
 have e:=hfa.symm.trans (PySem.W.mg_of X G a_zaP)
 cases e
 have cl_zaW:Cls K C_zaW:=⟨pg_zaW,hd_zaW,po_zaW,sa_zaW⟩
 have F_zao:=ZAZ (st:=ZBD) l_zao c_zao k_zao
 have b_zao:=F_zao.binds (ps:=["self","columns"]) fun _ _ _ _ _ _ us hl=>by obtain ⟨_,_,rfl⟩:=us2 hl;rfl
 have F_zaj:=ZAZ (st:=ZAx) l_zaj c_zaj k_zaj
 have b_zaj:=F_zaj.binds (ps:=["self","x","y"]) fun _ _ _ _ _ _ us hl=>by obtain ⟨_,_,_,rfl⟩:=us3 hl;rfl
 have cl_zaU:Cls K C_zaU:=⟨pg_zaU,hd_zaU,po_zaU,sa_zaU⟩
 have F_zak:=ZAZ (st:=ZA7) l_zak c_zak k_zak
 have b_zak:=F_zak.binds (ps:=["self","at","gap"]) fun _ _ _ _ _ _ us hl=>by obtain ⟨_,_,_,rfl⟩:=us3 hl;rfl
 have F_zae:=ZAZ (st:=ZAk) l_zae c_zae k_zae
 have b_zae:=F_zae.binds (ps:=["self","x","y"]) fun _ _ _ _ _ _ us hl=>by obtain ⟨_,_,_,rfl⟩:=us3 hl;rfl
 have cl_zaT:Cls K C_zaT:=⟨pg_zaT,hd_zaT,po_zaT,sa_zaT⟩
 have F_zal:=ZAZ (st:=ZA6) l_zal c_zal k_zal
 have b_zal:=F_zal.binds (ps:=["self","at","size"]) fun _ _ _ _ _ _ us hl=>by obtain ⟨_,_,_,rfl⟩:=us3 hl;rfl
 have F_zad:=ZAZ (st:=ZAj) l_zad c_zad k_zad
 have b_zad:=F_zad.binds (ps:=["self","x","y"]) fun _ _ _ _ _ _ us hl=>by obtain ⟨_,_,_,rfl⟩:=us3 hl;rfl
 have cl_zaQ:Cls K C_zaQ:=⟨pg_zaQ,hd_zaQ,po_zaQ,sa_zaQ⟩
 have F_zai:=ZAZ (st:=ZAw) l_zai c_zai k_zai
 have b_zai:=F_zai.binds (ps:=["self","at","table"]) fun _ _ _ _ _ _ us hl=>by obtain ⟨_,_,_,rfl⟩:=us3 hl;rfl
 have F_zab:=ZAZ (st:=ZAc) l_zab c_zab k_zab
 have b_zab:=F_zab.binds (ps:=["self","x","y"]) fun _ _ _ _ _ _ us hl=>by obtain ⟨_,_,_,rfl⟩:=us3 hl;rfl
 have cl_zaV:Cls K C_zaV:=⟨pg_zaV,hd_zaV,po_zaV,sa_zaV⟩
 have F_zam:=ZAZ (st:=ZA5) l_zam c_zam k_zam
 have b_zam:=F_zam.binds (ps:=["self","rules"]) fun _ _ _ _ _ _ us hl=>by obtain ⟨_,_,rfl⟩:=us2 hl;rfl
 have F_zaf:=ZAZ (st:=ZAi) l_zaf c_zaf k_zaf
 have b_zaf:=F_zaf.binds (ps:=["self","x","y"]) fun _ _ _ _ _ _ us hl=>by obtain ⟨_,_,_,rfl⟩:=us3 hl;rfl
 have cl_zaS:Cls K C_zaS:=⟨pg_zaS,hd_zaS,po_zaS,sa_zaS⟩
 have F_zag:=ZAZ (st:=ZAy) l_zag c_zag k_zag
 have b_zag:=F_zag.binds (ps:=["self","rules"]) fun _ _ _ _ _ _ us hl=>by obtain ⟨_,_,rfl⟩:=us2 hl;rfl
 have F_zaa:=ZAZ (st:=ZAd) l_zaa c_zaa k_zaa
 have b_zaa:=F_zaa.binds (ps:=["self","x","y"]) fun _ _ _ _ _ _ us hl=>by obtain ⟨_,_,_,rfl⟩:=us3 hl;rfl
 have cl_zaR:Cls K C_zaR:=⟨pg_zaR,hd_zaR,po_zaR,sa_zaR⟩
 have F_zah:=ZAZ (st:=ZAz) l_zah c_zah k_zah
 have b_zah:=F_zah.binds (ps:=["self","teller"]) fun _ _ _ _ _ _ us hl=>by obtain ⟨_,_,rfl⟩:=us2 hl;rfl
 have F_zac:=ZAZ (st:=ZAe) l_zac c_zac k_zac
 have b_zac:=F_zac.binds (ps:=["self","x","y"]) fun _ _ _ _ _ _ us hl=>by obtain ⟨_,_,_,rfl⟩:=us3 hl;rfl
 have F_zax:=ZAZ (st:=ZBe) l_zax c_zax k_zax
 have b_zax:=F_zax.binds (ps:=["many"]) fun _ _ _ _ _ _ us hl=>by obtain ⟨_,rfl⟩:=us1 hl;rfl
 have F_zan:=ZAZ (st:=ZA4) l_zan c_zan k_zan
 have b_zan:=F_zan.binds (ps:=["pairs"]) fun _ _ _ _ _ _ us hl=>by obtain ⟨_,rfl⟩:=us1 hl;rfl
 have F_zat:=ZAZ (st:=ZBV) l_zat c_zat k_zat
 have b_zat:=F_zat.binds (ps:=["pairs","ranks"]) fun _ _ _ _ _ _ us hl=>by obtain ⟨_,_,rfl⟩:=us2 hl;rfl
 have F_zar:=ZAZ (st:=ZBN) l_zar c_zar k_zar
 have b_zar:=F_zar.binds (ps:=["pairs","p","q"]) fun _ _ _ _ _ _ us hl=>by obtain ⟨_,_,_,rfl⟩:=us3 hl;rfl
 have F_zaq:=ZAZ (st:=ZBG) l_zaq c_zaq k_zaq
 have b_zaq:=F_zaq.binds (ps:=["pairs","p","q"]) fun _ _ _ _ _ _ us hl=>by obtain ⟨_,_,_,rfl⟩:=us3 hl;rfl
 have F_zay:=ZAZ (st:=ZBp) l_zay c_zay k_zay
 have b_zay:=F_zay.binds (ps:=["pairs"]) fun _ _ _ _ _ _ us hl=>by obtain ⟨_,rfl⟩:=us1 hl;rfl
 have F_zaw:=ZAZ (st:=ZBf) l_zaw c_zaw k_zaw
 have b_zaw:=F_zaw.binds (ps:=["at"]) fun _ _ _ _ _ _ us hl=>by obtain ⟨_,rfl⟩:=us1 hl;rfl
 have F_zap:=ZAZ (st:=ZBC) l_zap c_zap k_zap
 have b_zap:=F_zap.binds (ps:=["at","way"]) fun _ _ _ _ _ _ us hl=>by obtain ⟨_,_,rfl⟩:=us2 hl;rfl
 have F_zas:=ZAZ (st:=ZBM) l_zas c_zas k_zas
 have b_zas:=F_zas.binds (ps:=["row","rule"]) fun _ _ _ _ _ _ us hl=>by obtain ⟨_,_,rfl⟩:=us2 hl;rfl
 have F_zaF:=ZAZ (st:=ZCD) l_zaF c_zaF k_zaF
 have b_zaF:=F_zaF.binds (ps:=["row","rule"]) fun _ _ _ _ _ _ us hl=>by obtain ⟨_,_,rfl⟩:=us2 hl;rfl
 have F_zaG:=ZAZ (st:=ZCW) l_zaG c_zaG k_zaG
 have b_zaG:=F_zaG.binds (ps:=["_law_found"]) fun _ _ _ _ _ _ us hl=>by obtain ⟨_,rfl⟩:=us1 hl;rfl
 have F_zaJ:=ZAZ (st:=ZCZ) l_zaJ c_zaJ k_zaJ
 have b_zaJ:=F_zaJ.binds (ps:=["_law_goes","_law_ranks_here"]) fun _ _ _ _ _ _ us hl=>by obtain ⟨_,_,rfl⟩:=us2 hl;rfl
 have F_zaK:=ZAZ (st:=ZC4) l_zaK c_zaK k_zaK
 have b_zaK:=F_zaK.binds (ps:=["_law_goes","_law_word","_law_places"]) fun _ _ _ _ _ _ us hl=>by obtain ⟨_,_,_,rfl⟩:=us3 hl;rfl
 have F_zaL:=ZAZ (st:=ZC3) l_zaL c_zaL k_zaL
 have b_zaL:=F_zaL.binds (ps:=["_law_goes","_law_found"]) fun _ _ _ _ _ _ us hl=>by obtain ⟨_,_,rfl⟩:=us2 hl;rfl
 have F_zaB:=ZAZ (st:=ZBr) l_zaB c_zaB k_zaB
 have b_zaB:=F_zaB.binds (ps:=["_law_script","_law_k"]) fun _ _ _ _ _ _ us hl=>by obtain ⟨_,_,rfl⟩:=us2 hl;rfl
 have F_zaC:=ZAZ (st:=ZCC) l_zaC c_zaC k_zaC
 have b_zaC:=F_zaC.binds (ps:=["_law_digit"]) fun _ _ _ _ _ _ us hl=>by obtain ⟨_,rfl⟩:=us1 hl;rfl
 have F_zaA:=ZAZ (st:=ZBo) l_zaA c_zaA k_zaA
 have b_zaA:=F_zaA.binds (ps:=["_law_cell","_law_k"]) fun _ _ _ _ _ _ us hl=>by obtain ⟨_,_,rfl⟩:=us2 hl;rfl
 have F_zaD:=ZAZ (st:=ZCE) l_zaD c_zaD k_zaD
 have b_zaD:=F_zaD.binds (ps:=["_law_one","_law_other","_law_at","_law_way"]) fun _ _ _ _ _ _ us hl=>by obtain ⟨_,_,_,_,rfl⟩:=us4 hl;rfl
 have F_zaM:=ZAZ (st:=ZC1) l_zaM c_zaM k_zaM
 have b_zaM:=F_zaM.binds (ps:=["_law_one","_law_other","_law_size"]) fun _ _ _ _ _ _ us hl=>by obtain ⟨_,_,_,rfl⟩:=us3 hl;rfl
 have F_zaz:=ZAZ (st:=ZBq) l_zaz c_zaz k_zaz
 have b_zaz:=F_zaz.binds (ps:=["_law_one","_law_other","_law_gap","_law_way"]) fun _ _ _ _ _ _ us hl=>by obtain ⟨_,_,_,_,rfl⟩:=us4 hl;rfl
 have F_zaI:=ZAZ (st:=ZCX) l_zaI c_zaI k_zaI
 have b_zaI:=F_zaI.binds (ps:=["_law_one","_law_other","_law_columns"]) fun _ _ _ _ _ _ us hl=>by obtain ⟨_,_,_,rfl⟩:=us3 hl;rfl
 have F_zav:=ZAZ (st:=ZBd) l_zav c_zav k_zav
 have b_zav:=F_zav.binds (ps:=["_law_many","_law_cell"]) fun _ _ _ _ _ _ us hl=>by obtain ⟨_,_,rfl⟩:=us2 hl;rfl
 have F_zau:=ZAZ (st:=ZBc) l_zau c_zau k_zau
 have b_zau:=F_zau.binds (ps:=["_law_cell","_law_width"]) fun _ _ _ _ _ _ us hl=>by obtain ⟨_,_,rfl⟩:=us2 hl;rfl
 have F_zaH:=ZAZ (st:=ZCY) l_zaH c_zaH k_zaH
 have b_zaH:=F_zaH.binds (ps:=["_law_many","_law_cell","_law_turns"]) fun _ _ _ _ _ _ us hl=>by obtain ⟨_,_,_,rfl⟩:=us3 hl;rfl
 have F_zaO:=ZAZ (st:=ZDx) l_zaO c_zaO k_zaO
 have b_zaO:=F_zaO.binds (ps:=["_law_kind","_law_row","_law_table_here","_law_number","_law_columns"]) fun _ _ _ _ _ _ us hl=>by obtain ⟨_,_,_,_,_,rfl⟩:=us5 hl;rfl
 have F_zaN:=ZAZ (st:=ZC2) l_zaN c_zaN k_zaN
 have b_zaN:=F_zaN.binds (ps:=["_law_kind","_law_table_here","_law_number","_law_columns"]) fun _ _ _ _ _ _ us hl=>by obtain ⟨_,_,_,_,rfl⟩:=us4 hl;rfl
 have F_zaP:=ZAZ (st:=ZDE) l_zaP c_zaP k_zaP
 have b_zaP:=F_zaP.binds (ps:=["_law_script"]) fun _ _ _ _ _ _ us hl=>by obtain ⟨_,rfl⟩:=us1 hl;rfl
 have F_zaE:=ZAZ (st:=ZBy) l_zaE c_zaE k_zaE
 have b_zaE:=F_zaE.binds (ps:=["_law_table_here"]) fun _ _ _ _ _ _ us hl=>by obtain ⟨_,rfl⟩:=us1 hl;rfl
 have T:Bt K mg C_zaW C_zaU C_zaT C_zaQ C_zaV C_zaS C_zaR:=⟨PySem.W.mg_none_of X G z_len,PySem.W.mg_none_of X G z_range,PySem.W.mg_none_of X G z_tuple,PySem.W.mg_none_of X G z_list,PySem.W.mg_none_of X G z_isinstance,PySem.W.mg_none_of X G z_bool,PySem.W.mg_none_of X G z_int,PySem.W.mg_none_of X G z_max,PySem.W.mg_none_of X G z_min,PySem.W.mg_none_of X G z_enumerate,PySem.W.mg_none_of X G z_ValueError,⟨_,PySem.W.mg_of X G z_GREATEST_AT⟩,⟨_,PySem.W.mg_of X G z_UP⟩,⟨_,PySem.W.mg_of X G z_DOWN⟩,PySem.W.mg_of X G a_zaW,cl_zaW,n_zaW_columns,PySem.W.mg_of X G a_zaU,cl_zaU,n_zaU_at,n_zaU_gap,PySem.W.mg_of X G a_zaT,cl_zaT,n_zaT_at,n_zaT_size,PySem.W.mg_of X G a_zaQ,cl_zaQ,n_zaQ_at,n_zaQ_table,PySem.W.mg_of X G a_zaV,cl_zaV,n_zaV_rules,PySem.W.mg_of X G a_zaS,cl_zaS,n_zaS_rules,PySem.W.mg_of X G a_zaR,cl_zaR,n_zaR_teller,kit_int_bool⟩
 refine ⟨[(cc_zaE,Pt_zaE)],W.fnOf "law" "law" (ZAJ ZDE) (ZAH ZDE) (ZAB ZDE) .none kV_zaP dc_zaP pm_zaP an_zaP cd_zaP ct_zaP,nt,List.forall_mem_cons.mpr ⟨⟨"_law_teller",by simp,tabIn_of a_zaE l_zaE rfl lc_zaE tp_zaE⟩,fun _ h=>nomatch h⟩,fun s v=>.of_eq rfl,fun base _ _ hC hB=>?_⟩
 have f_zaH':Fn l.prog w K mg base CX0 "_law_table" 1 ["_law_many","_law_cell","_law_turns"] (ZD4):=⟨_,_,ok_table F_zaH T ,b_zaH,k_zaH,PySem.W.mg_of X G a_zaH⟩
 have f_zaM':Fn l.prog w K mg base CX0 "_law_rung" 1 ["_law_one","_law_other","_law_size"] (ZD5 K):=⟨_,_,ok_rung F_zaM T ,b_zaM,k_zaM,PySem.W.mg_of X G a_zaM⟩
 have f_zaD':Fn l.prog w K mg base CX0 "_law_column" 1 ["_law_one","_law_other","_law_at","_law_way"] (ZCh K):=⟨_,_,ok_column F_zaD T ,b_zaD,k_zaD,PySem.W.mg_of X G a_zaD⟩
 have f_zaI':Fn l.prog w K mg base CX0 "_law_votes" 2 ["_law_one","_law_other","_law_columns"] (ZC9 K):=⟨_,_,ok_votes F_zaI T f_zaD',b_zaI,k_zaI,PySem.W.mg_of X G a_zaI⟩
 have f_zaz':Fn l.prog w K mg base CX0 "_law_chained" 2 ["_law_one","_law_other","_law_gap","_law_way"] (ZCn K):=⟨_,_,ok_chained F_zaz T f_zaD',b_zaz,k_zaz,PySem.W.mg_of X G a_zaz⟩
 have f_zaO':Fn l.prog w K mg base CX0 "_law_due" 3 ["_law_kind","_law_row","_law_table_here","_law_number","_law_columns"] (ZEQ K):=⟨_,_,ok_due F_zaO T f_zaM' f_zaI' f_zaz',b_zaO,k_zaO,PySem.W.mg_of X G a_zaO⟩
 have f_zaE':Fn l.prog w K mg base CX0 "_law_teller" 1 ["_law_table_here"] (ZDp Pt_zaE (ZDu ZAN) "_law_teller_here" "_law_teller.<locals>._law_teller_here" (ZAJ ZAN) (ZAH ZAN) (ZAB ZAN) ["_law_table_here"] [0] 1):=⟨_,_,ok_teller F_zaE rfl (hC (cc_zaE,Pt_zaE) (by simp)) hB,b_zaE,k_zaE,PySem.W.mg_of X G a_zaE⟩
 have k_zaS':Kl l.prog w K mg base CX0 "ChainRule" C_zaS 1 ["self","rules"] (ZCI C_zaS):=⟨PySem.W.mg_of X G a_zaS,_,_,ok_ChainRule_init F_zag T ,b_zag,mk_zaS,a_zag,i_zag,kc_zaS⟩
 have k_zaR':Kl l.prog w K mg base CX0 "AskedRule" C_zaR 1 ["self","teller"] (ZCo C_zaR):=⟨PySem.W.mg_of X G a_zaR,_,_,ok_AskedRule_init F_zah T ,b_zah,mk_zaR,a_zah,i_zah,kc_zaR⟩
 have f_zaw':Fn l.prog w K mg base CX0 "check_at" 1 ["at"] (ZCV):=⟨_,_,ok_check_at F_zaw T ,b_zaw,k_zaw,PySem.W.mg_of X G a_zaw⟩
 have k_zaQ':Kl l.prog w K mg base CX0 "TableRule" C_zaQ 2 ["self","at","table"] (ZCm C_zaQ):=⟨PySem.W.mg_of X G a_zaQ,_,_,ok_TableRule_init F_zai T f_zaw',b_zai,mk_zaQ,a_zai,i_zai,kc_zaQ⟩
 have k_zaU':Kl l.prog w K mg base CX0 "NearRule" C_zaU 2 ["self","at","gap"] (ZCB C_zaU):=⟨PySem.W.mg_of X G a_zaU,_,_,ok_NearRule_init F_zak T f_zaw',b_zak,mk_zaU,a_zak,i_zak,kc_zaU⟩
 have k_zaT':Kl l.prog w K mg base CX0 "RingRule" C_zaT 2 ["self","at","size"] (ZCT C_zaT):=⟨PySem.W.mg_of X G a_zaT,_,_,ok_RingRule_init F_zal T f_zaw',b_zal,mk_zaT,a_zal,i_zal,kc_zaT⟩
 have k_zaV':Kl l.prog w K mg base CX0 "VoteRule" C_zaV 1 ["self","rules"] (ZCI C_zaV):=⟨PySem.W.mg_of X G a_zaV,_,_,ok_VoteRule_init F_zam T ,b_zam,mk_zaV,a_zam,i_zam,kc_zaV⟩
 have f_zap':Fn l.prog w K mg base CX0 "check_column" 2 ["at","way"] (ZCU):=⟨_,_,ok_check_column F_zap T f_zaw',b_zap,k_zap,PySem.W.mg_of X G a_zap⟩
 have k_zaW':Kl l.prog w K mg base CX0 "KeyRule" C_zaW 3 ["self","columns"] (ZCN K C_zaW):=⟨PySem.W.mg_of X G a_zaW,_,_,ok_KeyRule_init F_zao T f_zap',b_zao,mk_zaW,a_zao,i_zao,kc_zaW⟩
 have f_zaN':Fn l.prog w K mg base CX0 "_law_rule" 5 ["_law_kind","_law_table_here","_law_number","_law_columns"] (ZDC K C_zaR C_zaQ C_zaW C_zaU C_zaT C_zaV C_zaS Pt_zaE):=⟨_,_,ok_rule F_zaN T f_zaE' k_zaS' k_zaR' k_zaQ' k_zaU' k_zaT' k_zaV' k_zaW',b_zaN,k_zaN,PySem.W.mg_of X G a_zaN⟩
 have f_zaB':Fn l.prog w K mg base CX0 "_law_cell_at" 1 ["_law_script","_law_k"] (ZD9 K):=⟨_,_,ok_cell_at F_zaB T ,b_zaB,k_zaB,PySem.W.mg_of X G a_zaB⟩
 have f_zaA':Fn l.prog w K mg base CX0 "_law_reserve" 1 ["_law_cell","_law_k"] (ZCM):=⟨_,_,ok_reserve F_zaA T ,b_zaA,k_zaA,PySem.W.mg_of X G a_zaA⟩
 have f_zav':Fn l.prog w K mg base CX0 "_law_table_of" 2 ["_law_many","_law_cell"] (ZDd):=⟨_,_,ok_table_of F_zav T f_zaA',b_zav,k_zav,PySem.W.mg_of X G a_zav⟩
 have f_zaG':Fn l.prog w K mg base CX0 "_law_whole" 1 ["_law_found"] (ZC8):=⟨_,_,ok_whole F_zaG T ,b_zaG,k_zaG,PySem.W.mg_of X G a_zaG⟩
 have f_zaJ':Fn l.prog w K mg base CX0 "_law_ranks" 2 ["_law_goes","_law_ranks_here"] (ZDD):=⟨_,_,ok_ranks F_zaJ T f_zaG',b_zaJ,k_zaJ,PySem.W.mg_of X G a_zaJ⟩
 have f_zaK':Fn l.prog w K mg base CX0 "_law_flaw" 2 ["_law_goes","_law_word","_law_places"] (ZDg):=⟨_,_,ok_flaw F_zaK T f_zaG',b_zaK,k_zaK,PySem.W.mg_of X G a_zaK⟩
 have f_zaL':Fn l.prog w K mg base CX0 "_law_good" 3 ["_law_goes","_law_found"] (ZDf):=⟨_,_,ok_good F_zaL T f_zaJ' f_zaK',b_zaL,k_zaL,PySem.W.mg_of X G a_zaL⟩
 have t_NearRule_before':Mt l.prog w K mg base CX0 C_zaU "before" 1 ["self","x","y"] (ZBA K C_zaU):=⟨cl_zaU,_,_,ok_NearRule_before F_zae T ,b_zae,a_zae,i_zae,k_zae⟩
 have t_RingRule_before':Mt l.prog w K mg base CX0 C_zaT "before" 1 ["self","x","y"] (ZA9 K C_zaT):=⟨cl_zaT,_,_,ok_RingRule_before F_zad T ,b_zad,a_zad,i_zad,k_zad⟩
 have t_TableRule_before':Mt l.prog w K mg base CX0 C_zaQ "before" 1 ["self","x","y"] (ZBx K C_zaQ):=⟨cl_zaQ,_,_,ok_TableRule_before F_zab T ,b_zab,a_zab,i_zab,k_zab⟩
 have t_KeyRule_before':Mt l.prog w K mg base CX0 C_zaW "before" 1 ["self","x","y"] (ZBU K C_zaW):=⟨cl_zaW,_,_,ok_KeyRule_before F_zaj T ,b_zaj,a_zaj,i_zaj,k_zaj⟩
 have t_VoteRule_before':Mt l.prog w K mg base CX0 C_zaV "before" 2 ["self","x","y"] (ZBn K C_zaW C_zaU C_zaT C_zaV):=⟨cl_zaV,_,_,ok_VoteRule_before F_zaf T t_KeyRule_before' t_NearRule_before' t_RingRule_before',b_zaf,a_zaf,i_zaf,k_zaf⟩
 have t_ChainRule_before':Mt l.prog w K mg base CX0 C_zaS "before" 3 ["self","x","y"] (ZCO K C_zaW C_zaU C_zaT C_zaV C_zaS):=⟨cl_zaS,_,_,ok_ChainRule_before F_zaa T t_KeyRule_before' t_NearRule_before' t_RingRule_before' t_VoteRule_before',b_zaa,a_zaa,i_zaa,k_zaa⟩
 have clo_teller':CloOk l.prog w K mg base 1 (rT25):=clo_teller T
 have t_AskedRule_before':Mt l.prog w K mg base CX0 C_zaR "before" 2 ["self","x","y"] (ZDq C_zaR):=⟨cl_zaR,_,_,ok_AskedRule_before F_zac T clo_teller',b_zac,a_zac,i_zac,k_zac⟩
 have f_zas':Fn l.prog w K mg base CX0 "told_pairs" 4 ["row","rule"] (ZDA K C_zaR C_zaQ C_zaW C_zaU C_zaT C_zaV C_zaS):=⟨_,_,ok_told_pairs F_zas T t_NearRule_before' t_RingRule_before' t_TableRule_before' t_VoteRule_before' t_ChainRule_before' t_AskedRule_before',b_zas,k_zas,PySem.W.mg_of X G a_zas⟩
 have f_zax':Fn l.prog w K mg base CX0 "straight" 1 ["many"] (ZCA):=⟨_,_,ok_straight F_zax T ,b_zax,k_zax,PySem.W.mg_of X G a_zax⟩
 have f_zan':Fn l.prog w K mg base CX0 "counted_ranks" 2 ["pairs"] (ZDh):=⟨_,_,ok_counted_ranks F_zan T f_zax',b_zan,k_zan,PySem.W.mg_of X G a_zan⟩
 have f_zat':Fn l.prog w K mg base CX0 "are_ranks" 1 ["pairs","ranks"] (ZDi):=⟨_,_,ok_are_ranks F_zat T ,b_zat,k_zat,PySem.W.mg_of X G a_zat⟩
 have f_zar':Fn l.prog w K mg base CX0 "odd_thirds" 2 ["pairs","p","q"] (ZDe):=⟨_,_,ok_odd_thirds F_zar T f_zax',b_zar,k_zar,PySem.W.mg_of X G a_zar⟩
 have f_zaq':Fn l.prog w K mg base CX0 "flaw_of_two" 3 ["pairs","p","q"] (ZEP):=⟨_,_,ok_flaw_of_two F_zaq T f_zar',b_zaq,k_zaq,PySem.W.mg_of X G a_zaq⟩
 have f_zay':Fn l.prog w K mg base CX0 "flaw_of" 4 ["pairs"] (ZD8):=⟨_,_,ok_flaw_of F_zay T f_zaq',b_zay,k_zay,PySem.W.mg_of X G a_zay⟩
 have f_zaF':Fn l.prog w K mg base CX0 "ranked" 5 ["row","rule"] (ZD6 K C_zaR C_zaQ C_zaW C_zaU C_zaT C_zaV C_zaS):=⟨_,_,ok_ranked F_zaF T f_zas' f_zan' f_zat' f_zay',b_zaF,k_zaF,PySem.W.mg_of X G a_zaF⟩
 have f_zaC':Fn l.prog w K mg base CX0 "_law_signed" 1 ["_law_digit"] (ZDB):=⟨_,_,ok_signed F_zaC T ,b_zaC,k_zaC,PySem.W.mg_of X G a_zaC⟩
 have f_zau':Fn l.prog w K mg base CX0 "_law_thing_of" 2 ["_law_cell","_law_width"] (ZCl):=⟨_,_,ok_thing_of F_zau T f_zaA' f_zaC',b_zau,k_zau,PySem.W.mg_of X G a_zau⟩
 exact ok_law F_zaP T f_zaH' f_zaO' f_zaN' f_zaB' f_zav' f_zaL' f_zaF' f_zau'
end Law
open PySem PySem.W PyProof.Rows
set_option maxRecDepth 100000 in
set_option maxHeartbeats 0 in
theorem PySem.Challenge.cw_sorthall_k25_whole_ranks_or_flaw_holds : PySem.Challenge.rw_sorthall_k25_whole_ranks_or_flaw.Holds := by
 refine L2.hd0 ?_
 k_fill
 refine L2.walk_ofT2 (l:=PySem.Challenge.rw_sorthall_k25_whole_ranks_or_flaw) (k:=6) (x:="_law_script") (names:=["_law_teller"]) rfl rfl ⟨rfl,by decide,by decide,rfl⟩ (fun w h Y=>PySem.W.km_in_of Y) (List.forall_mem_cons.mpr ⟨⟨_,rfl⟩,fun _ h=>nomatch h⟩) ?F
 case F=>
  intro w mg fa h KX G hmg
  refine' Law.all_mk KX G hmg ?a_zaW ?pg_zaW ?hd_zaW ?po_zaW ?sa_zaW ?mk_zaW ?kc_zaW ?n_zaW_columns ?a_zao ?i_zao ?l_zao ?c_zao ?k_zao ?a_zaj ?i_zaj ?l_zaj ?c_zaj ?k_zaj ?a_zaU ?pg_zaU ?hd_zaU ?po_zaU ?sa_zaU ?mk_zaU ?kc_zaU ?n_zaU_at ?n_zaU_gap ?a_zak ?i_zak ?l_zak ?c_zak ?k_zak ?a_zae ?i_zae ?l_zae ?c_zae ?k_zae ?a_zaT ?pg_zaT ?hd_zaT ?po_zaT ?sa_zaT ?mk_zaT ?kc_zaT ?n_zaT_at ?n_zaT_size ?a_zal ?i_zal ?l_zal ?c_zal ?k_zal ?a_zad ?i_zad ?l_zad ?c_zad ?k_zad ?a_zaQ ?pg_zaQ ?hd_zaQ ?po_zaQ ?sa_zaQ ?mk_zaQ ?kc_zaQ ?n_zaQ_at ?n_zaQ_table ?a_zai ?i_zai ?l_zai ?c_zai ?k_zai ?a_zab ?i_zab ?l_zab ?c_zab ?k_zab ?a_zaV ?pg_zaV ?hd_zaV ?po_zaV ?sa_zaV ?mk_zaV ?kc_zaV ?n_zaV_rules ?a_zam ?i_zam ?l_zam ?c_zam ?k_zam ?a_zaf ?i_zaf ?l_zaf ?c_zaf ?k_zaf ?a_zaS ?pg_zaS ?hd_zaS ?po_zaS ?sa_zaS ?mk_zaS ?kc_zaS ?n_zaS_rules ?a_zag ?i_zag ?l_zag ?c_zag ?k_zag ?a_zaa ?i_zaa ?l_zaa ?c_zaa ?k_zaa ?a_zaR ?pg_zaR ?hd_zaR ?po_zaR ?sa_zaR ?mk_zaR ?kc_zaR ?n_zaR_teller ?a_zah ?i_zah ?l_zah ?c_zah ?k_zah ?a_zac ?i_zac ?l_zac ?c_zac ?k_zac ?a_zax ?l_zax ?c_zax ?k_zax ?a_zan ?l_zan ?c_zan ?k_zan ?a_zat ?l_zat ?c_zat ?k_zat ?a_zar ?l_zar ?c_zar ?k_zar ?a_zaq ?l_zaq ?c_zaq ?k_zaq ?a_zay ?l_zay ?c_zay ?k_zay ?a_zaw ?l_zaw ?c_zaw ?k_zaw ?a_zap ?l_zap ?c_zap ?k_zap ?a_zas ?l_zas ?c_zas ?k_zas ?a_zaF ?l_zaF ?c_zaF ?k_zaF ?a_zaG ?l_zaG ?c_zaG ?k_zaG ?a_zaJ ?l_zaJ ?c_zaJ ?k_zaJ ?a_zaK ?l_zaK ?c_zaK ?k_zaK ?a_zaL ?l_zaL ?c_zaL ?k_zaL ?a_zaB ?l_zaB ?c_zaB ?k_zaB ?a_zaC ?l_zaC ?c_zaC ?k_zaC ?a_zaA ?l_zaA ?c_zaA ?k_zaA ?a_zaD ?l_zaD ?c_zaD ?k_zaD ?a_zaM ?l_zaM ?c_zaM ?k_zaM ?a_zaz ?l_zaz ?c_zaz ?k_zaz ?a_zaI ?l_zaI ?c_zaI ?k_zaI ?a_zav ?l_zav ?c_zav ?k_zav ?a_zau ?l_zau ?c_zau ?k_zau ?a_zaH ?l_zaH ?c_zaH ?k_zaH ?a_zaO ?l_zaO ?c_zaO ?k_zaO ?a_zaN ?l_zaN ?c_zaN ?k_zaN ?a_zaP ?l_zaP ?c_zaP ?k_zaP ?a_zaE ?l_zaE ?c_zaE ?lc_zaE ?tp_zaE ?k_zaE ?z_GREATEST_AT ?z_UP ?z_DOWN ?z_len ?z_range ?z_tuple ?z_list ?z_isinstance ?z_bool ?z_int ?z_max ?z_min ?z_enumerate ?z_ValueError ?kit_int_bool ?nt
  (case a_zaW=>k_is)
  (case pg_zaW=>k_is)
  (case hd_zaW=>k_is)
  (case po_zaW=>k_is)
  (case sa_zaW=>k_is)
  (case mk_zaW=>k_is)
  (case kc_zaW=>k_is)
  (case n_zaW_columns=>k_is)
  (case a_zao=>k_is)
  (case i_zao=>k_is)
  (case l_zao=>k_is)
  (case c_zao=>k_is)
  (case k_zao=>k_is)
  (case a_zaj=>k_is)
  (case i_zaj=>k_is)
  (case l_zaj=>k_is)
  (case c_zaj=>k_is)
  (case k_zaj=>k_is)
  (case a_zaU=>k_is)
  (case pg_zaU=>k_is)
  (case hd_zaU=>k_is)
  (case po_zaU=>k_is)
  (case sa_zaU=>k_is)
  (case mk_zaU=>k_is)
  (case kc_zaU=>k_is)
  (case n_zaU_at=>k_is)
  (case n_zaU_gap=>k_is)
  (case a_zak=>k_is)
  (case i_zak=>k_is)
  (case l_zak=>k_is)
  (case c_zak=>k_is)
  (case k_zak=>k_is)
  (case a_zae=>k_is)
  (case i_zae=>k_is)
  (case l_zae=>k_is)
  (case c_zae=>k_is)
  (case k_zae=>k_is)
  (case a_zaT=>k_is)
  (case pg_zaT=>k_is)
  (case hd_zaT=>k_is)
  (case po_zaT=>k_is)
  (case sa_zaT=>k_is)
  (case mk_zaT=>k_is)
  (case kc_zaT=>k_is)
  (case n_zaT_at=>k_is)
  (case n_zaT_size=>k_is)
  (case a_zal=>k_is)
  (case i_zal=>k_is)
  (case l_zal=>k_is)
  (case c_zal=>k_is)
  (case k_zal=>k_is)
  (case a_zad=>k_is)
  (case i_zad=>k_is)
  (case l_zad=>k_is)
  (case c_zad=>k_is)
  (case k_zad=>k_is)
  (case a_zaQ=>k_is)
  (case pg_zaQ=>k_is)
  (case hd_zaQ=>k_is)
  (case po_zaQ=>k_is)
  (case sa_zaQ=>k_is)
  (case mk_zaQ=>k_is)
  (case kc_zaQ=>k_is)
  (case n_zaQ_at=>k_is)
  (case n_zaQ_table=>k_is)
  (case a_zai=>k_is)
  (case i_zai=>k_is)
  (case l_zai=>k_is)
  (case c_zai=>k_is)
  (case k_zai=>k_is)
  (case a_zab=>k_is)
  (case i_zab=>k_is)
  (case l_zab=>k_is)
  (case c_zab=>k_is)
  (case k_zab=>k_is)
  (case a_zaV=>k_is)
  (case pg_zaV=>k_is)
  (case hd_zaV=>k_is)
  (case po_zaV=>k_is)
  (case sa_zaV=>k_is)
  (case mk_zaV=>k_is)
  (case kc_zaV=>k_is)
  (case n_zaV_rules=>k_is)
  (case a_zam=>k_is)
  (case i_zam=>k_is)
  (case l_zam=>k_is)
  (case c_zam=>k_is)
  (case k_zam=>k_is)
  (case a_zaf=>k_is)
  (case i_zaf=>k_is)
  (case l_zaf=>k_is)
  (case c_zaf=>k_is)
  (case k_zaf=>k_is)
  (case a_zaS=>k_is)
  (case pg_zaS=>k_is)
  (case hd_zaS=>k_is)
  (case po_zaS=>k_is)
  (case sa_zaS=>k_is)
  (case mk_zaS=>k_is)
  (case kc_zaS=>k_is)
  (case n_zaS_rules=>k_is)
  (case a_zag=>k_is)
  (case i_zag=>k_is)
  (case l_zag=>k_is)
  (case c_zag=>k_is)
  (case k_zag=>k_is)
  (case a_zaa=>k_is)
  (case i_zaa=>k_is)
  (case l_zaa=>k_is)
  (case c_zaa=>k_is)
  (case k_zaa=>k_is)
  (case a_zaR=>k_is)
  (case pg_zaR=>k_is)
  (case hd_zaR=>k_is)
  (case po_zaR=>k_is)
  (case sa_zaR=>k_is)
  (case mk_zaR=>k_is)
  (case kc_zaR=>k_is)
  (case n_zaR_teller=>k_is)
  (case a_zah=>k_is)
  (case i_zah=>k_is)
  (case l_zah=>k_is)
  (case c_zah=>k_is)
  (case k_zah=>k_is)
  (case a_zac=>k_is)
  (case i_zac=>k_is)
  (case l_zac=>k_is)
  (case c_zac=>k_is)
  (case k_zac=>k_is)
  (case a_zax=>k_is)
  (case l_zax=>k_is)
  (case c_zax=>k_is)
  (case k_zax=>k_is)
  (case a_zan=>k_is)
  (case l_zan=>k_is)
  (case c_zan=>k_is)
  (case k_zan=>k_is)
  (case a_zat=>k_is)
  (case l_zat=>k_is)
  (case c_zat=>k_is)
  (case k_zat=>k_is)
  (case a_zar=>k_is)
  (case l_zar=>k_is)
  (case c_zar=>k_is)
  (case k_zar=>k_is)
  (case a_zaq=>k_is)
  (case l_zaq=>k_is)
  (case c_zaq=>k_is)
  (case k_zaq=>k_is)
  (case a_zay=>k_is)
  (case l_zay=>k_is)
  (case c_zay=>k_is)
  (case k_zay=>k_is)
  (case a_zaw=>k_is)
  (case l_zaw=>k_is)
  (case c_zaw=>k_is)
  (case k_zaw=>k_is)
  (case a_zap=>k_is)
  (case l_zap=>k_is)
  (case c_zap=>k_is)
  (case k_zap=>k_is)
  (case a_zas=>k_is)
  (case l_zas=>k_is)
  (case c_zas=>k_is)
  (case k_zas=>k_is)
  (case a_zaF=>k_is)
  (case l_zaF=>k_is)
  (case c_zaF=>k_is)
  (case k_zaF=>k_is)
  (case a_zaG=>k_is)
  (case l_zaG=>k_is)
  (case c_zaG=>k_is)
  (case k_zaG=>k_is)
  (case a_zaJ=>k_is)
  (case l_zaJ=>k_is)
  (case c_zaJ=>k_is)
  (case k_zaJ=>k_is)
  (case a_zaK=>k_is)
  (case l_zaK=>k_is)
  (case c_zaK=>k_is)
  (case k_zaK=>k_is)
  (case a_zaL=>k_is)
  (case l_zaL=>k_is)
  (case c_zaL=>k_is)
  (case k_zaL=>k_is)
  (case a_zaB=>k_is)
  (case l_zaB=>k_is)
  (case c_zaB=>k_is)
  (case k_zaB=>k_is)
  (case a_zaC=>k_is)
  (case l_zaC=>k_is)
  (case c_zaC=>k_is)
  (case k_zaC=>k_is)
  (case a_zaA=>k_is)
  (case l_zaA=>k_is)
  (case c_zaA=>k_is)
  (case k_zaA=>k_is)
  (case a_zaD=>k_is)
  (case l_zaD=>k_is)
  (case c_zaD=>k_is)
  (case k_zaD=>k_is)
  (case a_zaM=>k_is)
  (case l_zaM=>k_is)
  (case c_zaM=>k_is)
  (case k_zaM=>k_is)
  (case a_zaz=>k_is)
  (case l_zaz=>k_is)
  (case c_zaz=>k_is)
  (case k_zaz=>k_is)
  (case a_zaI=>k_is)
  (case l_zaI=>k_is)
  (case c_zaI=>k_is)
  (case k_zaI=>k_is)
  (case a_zav=>k_is)
  (case l_zav=>k_is)
  (case c_zav=>k_is)
  (case k_zav=>k_is)
  (case a_zau=>k_is)
  (case l_zau=>k_is)
  (case c_zau=>k_is)
  (case k_zau=>k_is)
  (case a_zaH=>k_is)
  (case l_zaH=>k_is)
  (case c_zaH=>k_is)
  (case k_zaH=>k_is)
  (case a_zaO=>k_is)
  (case l_zaO=>k_is)
  (case c_zaO=>k_is)
  (case k_zaO=>k_is)
  (case a_zaN=>k_is)
  (case l_zaN=>k_is)
  (case c_zaN=>k_is)
  (case k_zaN=>k_is)
  (case a_zaP=>k_is)
  (case l_zaP=>k_is)
  (case c_zaP=>k_is)
  (case k_zaP=>k_is)
  (case a_zaE=>k_is)
  (case l_zaE=>k_is)
  (case c_zaE=>k_is)
  (case lc_zaE=>k_is)
  (case tp_zaE=>rfl)
  (case k_zaE=>k_is)
  (case z_GREATEST_AT=>k_is)
  (case z_UP=>k_is)
  (case z_DOWN=>k_is)
  (case z_len=>k_is)
  (case z_range=>k_is)
  (case z_tuple=>k_is)
  (case z_list=>k_is)
  (case z_isinstance=>k_is)
  (case z_bool=>k_is)
  (case z_int=>k_is)
  (case z_max=>k_is)
  (case z_min=>k_is)
  (case z_enumerate=>k_is)
  (case z_ValueError=>k_is)
  (case kit_int_bool=>kit_is)
  (case nt=>kernel_rfl)
