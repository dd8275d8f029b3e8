import PyProof.Rows.All
import Wide.All
import OpenK.AllK
import Wide.FinOn
import Lean
import PyProof.EqAt
import PyProof.EqKinds
import PyProof.TupleCall
import KE.KRevIter
import PyProof.CollectIter
import PyProof.SumWalkG
import KE.KDictOf
import PyProof.IsiH_list
import PyProof.RaisesAny
import PyProof.P3In
import PyProof.Rows.SortRuns
import PyProof.Rows.SortShell
import KE.KSortTup
import PySem.Challenge.RW_sorthall_k55_whole_paper_at_each_step
local macro_rules | `(tactic| omega)=>`(tactic| first | with_reducible assumption | lia | omega (splitDisjunctions:=true))
set_option Elab.async false
set_option linter.all false
set_option maxRecDepth 100000
open Nat renaming le_refl→yAA,zero_le→yAI,ne_of_lt→yAO,le_trans→yAP,lt_of_lt_of_le→yBA,sub_self→yBF,le_succ→yBG,min_eq_left→yBN,le_of_lt→yBO,lt_succ_self→yBR,lt_irrefl→yBU,pow_succ→yBW,lt_or_ge→yCA,zero_add→yCJ,le_add_right→yCM,one_le_two_pow→yCS
open List renaming length_map→yAB,mem_cons_of_mem→yAC,length_append→yAD,mem_cons→yAE,mem_cons_self→yAF,length_cons→yAG,getElem?_eq_some_iff→yAH,getElem?_eq_getElem→yAJ,mem_of_getElem?→yAK,append_assoc→yAL,mem_singleton→yAM,length_take→yAN,mem_append_right→yAQ,map_append→yAR,size_toArray→yAT,length_drop→yAU,mem_append→yAV,getElem?_map→yAW,map_cons→yAX,getElem?_append_right→yAY,getElem?_append_left→yAZ,append_nil→yBB,mem_append_left→yBC,length_singleton→yBD,getElem?_eq_none→yBI,getElem?_drop→yBJ,getElem?_of_mem→yBK,not_mem_nil→yBL,take_append_drop→yBM,take_of_length_le→yBP,mem_map→yBQ,getElem?_take_of_lt→yBS,length_nil→yBT,drop_of_length_le→yBY,drop_eq_getElem_cons→yBZ,lookup_cons→yCB,length_range'→yCD,mem_range→yCE,length_replicate→yCF,pairwise_append→yCG,extract_eq_drop_take→yCI,forIn_nil→yCK,map_drop→yCN,ext_getElem?→yCO,find?_cons→yCP,perm_append_comm→yCQ,mem_range'_1→yCR
open Array renaming length_toList→yAS,getElem?_toList→yBH,toList_append→yBV,getElem?_eq_some_iff→yBX,toList_extract→yCH
open Bool renaming false_ne_true→yBE,false_eq_true→yCL
open Option renaming map_some→yCC
namespace L2
open PySem PySem.W
theorem left_boot {p q:Program} {loose:List Str} {Xt:Shared->Bool} {α:Type} {Yf:Shared->α} {Ya:World->α} {N:Nat} {g0:Bool}
  (open_:∀ w:World,(fencedOpening treeTable p w N).map (fun s=>(s.heap,s.gens,s.drawn,s.toks))=some (boot_heap w.params,Array.mk [],boot_drawn,boot_toks))
  (h:∀ (w:World) (os:OsState),(topFrom treeTable p w N ⟨boot_heap w.params,Array.mk [],boot_drawn,boot_toks,os⟩).map (fun s=>(openSeen q loose (importedModules p.main.body) Xt g0 s,Yf s))=some (openGood q loose,Ya w)):LeftO p q loose Xt Yf Ya N g0:=fun w=>by
 obtain ⟨⟨hh,gs,d,k,os⟩,e,e'⟩:=Option.map_eq_some_iff.mp (open_ w)
 obtain ⟨rfl,rfl,rfl,rfl⟩:hh=boot_heap w.params /\ gs=Array.mk [] /\ d=boot_drawn /\ k=boot_toks:=by simpa using e'
 unfold openEnds
 rw [e]
 exact h w os
theorem left_two {p q:Program} {loose:List Str} {Xt:Shared->Bool} {α:Type} {Yf:Shared->α} {Ya:World->α} {N:Nat} {g0:Bool}
  (open_:∀ w:World,(fencedOpening treeTable p w N).map (fun s=>(s.heap,s.gens,s.drawn,s.toks))=some (boot_heap w.params,Array.mk [],boot_drawn,boot_toks))
  (h1:∀ (w:World) (os:OsState),(topFrom treeTable p w N ⟨boot_heap w.params,Array.mk [],boot_drawn,boot_toks,os⟩).map (fun s=>openSeen q loose (importedModules p.main.body) Xt g0 s)=some (openGood q loose))
  (h2:∀ (w:World) (os:OsState),(topFrom treeTable p w N ⟨boot_heap w.params,Array.mk [],boot_drawn,boot_toks,os⟩).map (fun s=>Yf s)=some (Ya w)):LeftO p q loose Xt Yf Ya N g0 :=
 left_boot open_ fun w os=>by
  have a:=h1 w os
  have b:=h2 w os
  generalize topFrom treeTable p w N ⟨boot_heap w.params,Array.mk [],boot_drawn,boot_toks,os⟩=r at a b
  cases r with
  | none=>cases a
  | some s=>exact congrArg some (Prod.ext (Option.some.inj a) (Option.some.inj b))
noncomputable def s0B (w:World) (os:OsState):Shared:=⟨boot_heap w.params,Array.mk [],boot_drawn,boot_toks,os⟩
def ofLB:List Obj->Nat->BT->BT
 | [],_,t=>t
 | o::r,n,t=>ofLB r (n+1) (t.ins n o)
noncomputable def sTB (w:World) (os:OsState):SharedT:=⟨ofLB (boot_heap w.params).objs.toList 0 .nil,(boot_heap w.params).objs.size,(boot_heap w.params).life,Array.mk [],boot_drawn,boot_toks,os⟩
noncomputable def topRunQ (p:Program) (w:World) (n₀:Nat) (ann:Option Value):Nat->SharedT->Thread->Option SharedT
 | 0,_,_=>none
 | n+1,s,t=>match through t with
  | true=>some s
  | false=>match PySem.W.Fast.tw6613529449190102663 n₀ ann t with
   | false=>none
   | true=>match PySem.W.Fast.tw10156331382660048174 (PySem.W.Fast.tw11892475500146522536 PySem.W.Fast.tw14364793385576792824) p w s t with
    | some (s',t')=>topRunQ p w n₀ ann n s' t'
    | none=>none
theorem topRunQ_spec {p:Program} {w:World} {n₀:Nat} {ann:Option Value}:∀ {n:Nat} {s s':SharedT} {t:Thread},topRunQ p w n₀ ann n s t=some s'->topRun treeTable p w n₀ ann n s.abs t=some s'.abs
 | 0,_,_,_,h=>by cases h
 | n+1,s,s',t,h=>by
  unfold topRunQ at h
  rw [<- PySem.W.Fast.te6613529449190102663,<- PySem.W.Fast.te10156331382660048174,<- PySem.W.Fast.te11892475500146522536,<- PySem.W.Fast.te14364793385576792824] at h
  unfold topRun
  cases he:through t with
  | true=>rw [he] at h;cases h;rfl
  | false=>
   rw [he] at h
   cases hk:stepOk n₀ ann t with
   | false=>rw [hk] at h;cases h
   | true=>
    rw [hk] at h
    cases hs:stepT (denote treeTable) p w s t with
    | none=>rw [hs] at h;cases h
    | some r=>obtain ⟨s₂,t₂⟩:=r;rw [hs] at h;rw [stepT_spec hs];exact topRunQ_spec h
set_option maxHeartbeats 0 in
theorem sTB_abs:∀ (w:World) (os:OsState),(sTB w os).abs=s0B w os:=by
 intro w os
 kernel_rfl
set_option maxHeartbeats 0 in
theorem s0B_ns:∀ (w:World) (os:OsState),((s0B w os).heap.isNs mainGlobals && (s0B w os).gens.size == 0)=true:=by
 intro w os
 kernel_rfl
def topOkB (p:Program) (s₀ s₁:Shared):Bool:=staticsOk (importedModules p.main.body) s₀.heap s₁.heap && namesBound p s₁.heap && gensDone s₁ && laidKept s₀.heap s₁.heap
theorem via_tree {α:Type} {p:Program} {N:Nat} {F:Shared->α} {G:α} (w:World) (os:OsState)
  (h:(topRunQ p w (s0B w os).heap.objs.size ((s0B w os).heap.nsMap mainGlobals "__annotations__") N (sTB w os) (topStub p)).map (fun s=>(topOkB p (s0B w os) s.abs,F s.abs))=some (true,G)):(topFrom treeTable p w N ⟨boot_heap w.params,Array.mk [],boot_drawn,boot_toks,os⟩).map F=some G:=by
 obtain ⟨s',e1,e2⟩:=Option.map_eq_some_iff.mp h
 have r:=topRunQ_spec e1
 rw [sTB_abs] at r
 obtain ⟨e3,e4⟩:=Prod.mk.inj e2
 show (topFrom treeTable p w N (s0B w os)).map F=some G
 unfold topFrom
 rw [s0B_ns w os]
 dsimp only
 rw [r,Option.bind_some]
 unfold topOkB at e3
 rw [e3]
 exact congrArg some e4
def vw (p:Program) (ix:List Nat):Program:={ p with main:={ p.main with body:=ix.filterMap fun i=>p.main.body[i]? } }
def Vw:Program:=vw PySem.Challenge.pw_sorthall_k55_whole_paper_at_each_step [0,2,4,5,6,7,8,11,13,16,18,20,21,22,24,26,27,28,29,30,31,32,34,35,37,38,39,40,41,42,43,44,45,46,47]
set_option maxHeartbeats 0 in
theorem seen1:∀ (w:World) (os:OsState),(topFrom treeTable PySem.Challenge.pw_sorthall_k55_whole_paper_at_each_step w 6880 ⟨boot_heap w.params,Array.mk [],boot_drawn,boot_toks,os⟩).map (fun s=>openSeen L2.Vw (["stretch_from","filled"]:List Str) (importedModules PySem.Challenge.pw_sorthall_k55_whole_paper_at_each_step.main.body) (fun s=>xlAt L2.Vw [] s && recOk (RowW.records (OpenRow.toRowW (OpenLaw.row PySem.Challenge.rw_sorthall_k55_whole_paper_at_each_step))) s) true s)=some (openGood L2.Vw (["stretch_from","filled"]:List Str)):=by
 intro w os
 refine via_tree w os ?_
 rw [PySem.W.Fast.te4187177175401517315]
 kernel_rfl
local macro_rules | `(tactic| o_law)=>`(tactic| refine holds_law (by decide +kernel) fun said=>?_)
set_option hygiene false in
local macro_rules | `(tactic| o_head $H)=>`(tactic| (refine holds_open (q:=L2.Vw) (loose:=(["stretch_from","filled"]:List Str)) (Xt:=fun s=>xlAt L2.Vw [] s && recOk (RowW.records _) s) (XP:=XL L2.Vw []) (Yf:=Hook.obs $H) (Ya:=Hook.val $H) (YP:=Hook.says $H) (N:=6880) ?hl (Hook.of $H) (Hook.keeps $H) (fun s e=>xl_of s (Bool.and_eq_true_iff.mp e).1) XL.keeps (by rfl) (by rfl) (by rfl) (fun s e=>recFacts_of (Bool.and_eq_true_iff.mp e).2) (by rfl) (by first | assumption | decide +kernel) (by decide +kernel) ⟨rfl,rfl,rfl,rfl,rfl,by decide +kernel⟩ ?hw ?hc;(case hl=>(refine L2.left_two (PySem.W.boot_open (by rfl) (by decide) (fun s=>rfl)) (fun w os=>?h1) (fun w os=>?h2);(case h1=>exact L2.seen1 w os);(case h2=>(refine L2.via_tree w os ?_;kernel_rfl))))))
set_option maxHeartbeats 0 in
open_top hd0 for PySem.Challenge.rw_sorthall_k55_whole_paper_at_each_step
end L2
namespace L2
open PySem PySem.Spec PyProof.Rows
abbrev Key:=Sum Int Str
def ZFC:Key->Value->Bool
 | .inl k,v=>Value.isInt k v
 | .inr x,v=>Value.isStrOf x v
def keyH (w:World):Key->Int
 | .inl k=>hashInt k
 | .inr x=>hashStr w x
theorem ZA1:∀ {k:Key} {v:Value},ZFC k v=true->(∃ i t,k=Sum.inl i /\ v=Value.int i t)∨(∃ x t,k=Sum.inr x /\ v=Value.str x t)
 | .inl i,v,h=>by
  obtain ⟨t,e⟩:=Value.isInt_shape (k:=i) (v:=v) h
  exact .inl ⟨i,t,rfl,e⟩
 | .inr x,v,h=>by
  obtain ⟨t,e⟩:=Value.isStrOf_shape (x:=x) (v:=v) h
  exact .inr ⟨x,t,rfl,e⟩
theorem keyIs_int (i:Int) (t:Tok):ZFC (.inl i) (.int i t)=true:=by simp [ZFC,Value.isInt]
theorem keyIs_str (x:Str) (t:Tok):ZFC (.inr x) (.str x t)=true:=by simp [ZFC,Value.isStrOf]
theorem key_ll (a b:Int):decide ((Sum.inl a:Key)=Sum.inl b)=(a == b):=by
 by_cases e:a=b
 .subst e;simp
 .have h:¬ (Sum.inl a:Key)=Sum.inl b:=fun q=>e (Sum.inl.inj q)
  rw [decide_eq_false h]
  exact (beq_eq_false_iff_ne.mpr e).symm
theorem key_rr (a b:Str):decide ((Sum.inr a:Key)=Sum.inr b)=decide (a=b):=by
 by_cases e:a=b
 .subst e;simp
 .have h:¬ (Sum.inr a:Key)=Sum.inr b:=fun q=>e (Sum.inr.inj q)
  rw [decide_eq_false h,decide_eq_false e]
theorem key_lr (a:Int) (b:Str):decide ((Sum.inl a:Key)=Sum.inr b)=false:=decide_eq_false (fun q=>nomatch q)
theorem key_rl (a:Str) (b:Int):decide ((Sum.inr a:Key)=Sum.inl b)=false:=decide_eq_false (fun q=>nomatch q)
def ZA7 (prog:Program) (w:World):PySem.KeyKind prog w Key where
 is:=ZFC
 hash:=keyH w
 inj:=fun v a b ha hb=>by
  rcases ZA1 ha with ⟨i,t,rfl,rfl⟩ | ⟨x,t,rfl,rfl⟩
  .rcases ZA1 hb with ⟨j,u,rfl,e⟩ | ⟨y,u,rfl,e⟩
   .injection e with e1 _;rw [e1]
   .exact nomatch e
  .rcases ZA1 hb with ⟨j,u,rfl,e⟩ | ⟨y,u,rfl,e⟩
   .exact nomatch e
   .injection e with e1 _;rw [e1]
 byValue:=fun k v h=>by
  rcases ZA1 h with ⟨i,t,rfl,rfl⟩ | ⟨x,t,rfl,rfl⟩ <;> rfl
 pyHash:=fun hv h=>by
  rcases ZA1 hv with ⟨i,t,rfl,rfl⟩ | ⟨x,t,rfl,rfl⟩
  .exact wpAny_pyHash_int h
  .exact wpAny_pyHash_str h
 eqBool:=fun hu hv h=>by
  rcases ZA1 hu with ⟨i,t,rfl,rfl⟩ | ⟨x,t,rfl,rfl⟩
  .rcases ZA1 hv with ⟨j,u,rfl,rfl⟩ | ⟨y,u,rfl,rfl⟩
   .rw [key_ll] at h;exact wpAny_eqBool_int h
   .rw [key_lr] at h;exact SeqAt.EqAt.int_str i t y u _ _ _ _ h
  .rcases ZA1 hv with ⟨j,u,rfl,rfl⟩ | ⟨y,u,rfl,rfl⟩
   .rw [key_rl] at h;exact SeqAt.EqAt.str_int x t j u _ _ _ _ h
   .rw [key_rr] at h;exact wpAny_eqBool_str h
 «strs»:=fun k x t v h=>by
  rcases ZA1 h with ⟨i,u,rfl,e⟩ | ⟨y,u,rfl,e⟩
  .exact nomatch e
  .injection e with e1 _
   subst e1
   cases v <;> rfl
theorem mixKind_int (prog:Program) (w:World) (i:Int) (t:Tok):(ZA7 prog w).is (.inl i) (.int i t)=true:=keyIs_int i t
theorem mixKind_str (prog:Program) (w:World) (x:Str) (t:Tok):(ZA7 prog w).is (.inr x) (.str x t)=true:=keyIs_str x t
inductive V where
 | non | bl (b:Bool) | int (i:Int) | str (x:Str) | byt (b:Array UInt8) | flt (b:UInt64) | ref (a:Addr) | ty (n:String)
 deriving DecidableEq
def RelV:V->Value->Prop
 | .non,u=>u=Value.none
 | .bl b,u=>u=Value.bool b
 | .int i,u=>∃ t,u=Value.int i t
 | .str x,u=>∃ t,u=Value.str x t
 | .byt b,u=>∃ t,u=Value.bytes b t
 | .flt b,u=>∃ t,u=Value.float b t
 | .ref a,u=>u=Value.ref a
 | .ty n,u=>u=Value.type n
abbrev Vals:List V->List Value->Prop:=Paired RelV
theorem Vals.length {xs:List V} {us:List Value} (r:Vals xs us):xs.length=us.length:=Paired.length r
theorem Vals.get:∀ {xs:List V} {us:List Value} {i:Nat} {x:V},Vals xs us->xs[i]?=some x->∃ u,us[i]?=some u /\ RelV x u
 | _,_,_,_,.nil,e=>by simp at e
 | _,_,0,_,.cons r _,e=>by simp at e;subst e;exact ⟨_,rfl,r⟩
 | _,_,i+1,x,.cons _ t,e=>by
  obtain ⟨u,h1,h2⟩:=Vals.get (i:=i) (x:=x) t (by simpa using e)
  exact ⟨u,by simpa using h1,h2⟩
theorem Vals.set {x:V} {u:Value} (r:RelV x u):∀ {xs:List V} {us:List Value} (i:Nat),Vals xs us->Vals (xs.set i x) (us.set i u)
 | _,_,_,.nil=>.nil
 | _,_,0,.cons _ t=>.cons r t
 | _,_,i+1,.cons q t=>.cons q (Vals.set r i t)
theorem Vals.append:∀ {xs ys:List V} {us ws:List Value},Vals xs us->Vals ys ws->Vals (xs++ys) (us++ws)
 | _,_,_,_,.nil,s=>s
 | _,_,_,_,.cons r t,s=>.cons r (Vals.append t s)
theorem Vals.take:∀ {xs:List V} {us:List Value} (n:Nat),Vals xs us->Vals (xs.take n) (us.take n)
 | _,_,0,_=>.nil
 | _,_,_+1,.nil=>.nil
 | _,_,n+1,.cons r t=>.cons r (Vals.take n t)
theorem Vals.drop:∀ {xs:List V} {us:List Value} (n:Nat),Vals xs us->Vals (xs.drop n) (us.drop n)
 | _,_,0,r=>r
 | _,_,_+1,.nil=>.nil
 | _,_,n+1,.cons _ t=>Vals.drop n t
def RelO:Option V->Option Value->Prop
 | some v,some u=>RelV v u
 | none,none=>True
 | _,_=>False
def KV {κ:Type}:List (κ×V)->List (κ×Value)->Prop:=Paired fun (p:κ×V) (q:κ×Value)=>p.1=q.1 /\ RelV p.2 q.2
def kV:Key->V
 | .inl i=>.int i
 | .inr x=>.str x
inductive HO where
 | lst (xs:List V)
 | tup (xs:List V)
 | dK (kvs:List (Key×V)) | dT (kvs:List (List Key×V))
 | set (S:Int->Bool) (n:Nat)
 | ins (C dx:Addr) (fs:List (Str×V))
 | own (x:Addr)
 | xd (fs:List (Str×V))
 | met (f x:Addr)
 | rng (lo hi:Int)
 | frz (o:Obj) (u:HO)
 | tbl (ps:Array Value)
 | ext (φ:Heap->Prop)
abbrev Hp:=Addr->Option HO
def upd (H:Hp) (a:Addr) (o:HO):Hp:=fun b=>if b=a then some o else H b
theorem ZAF {H:Hp} {a:Addr} {o:HO}:upd H a o a=some o:=by unfold upd;rw [if_pos rfl]
theorem ZAI {H:Hp} {a b:Addr} {o:HO} (h:b≠a):upd H a o b=H b:=by unfold upd;rw [if_neg h]
theorem ZDu {H:Hp} {a:Addr} {o u:HO}:upd (upd H a o) a u=upd H a u:=by
 funext b;unfold upd;split <;> rfl
theorem ne_of {H:Hp} {a b:Addr} {o u:HO} (h:H a=some o) (h':H b=some u) (d:o≠u):a≠b:=by
 intro e;subst e;rw [h] at h';exact d (Option.some.inj h')
theorem ZAE {H:Hp} {a b:Addr} {o:HO} (h:H a=some o) (h':H b=none):a≠b:=by
 intro e;subst e;rw [h] at h';cases h'
section
variable (P:Program) (w:World)
def ObjOk (H:Hp) (h:Heap) (a:Addr):HO->Prop
 | .lst xs=>xs.length <= sizeLine /\ ∃ (its:List Value) (n:Nat),Vals xs its /\ h.get? a=some { cls:=.type "list",data:=.seq its.toArray n }
 | .tup xs=>xs.length <= sizeLine /\ ∃ its:List Value,Vals xs its /\ IsTup h a its.toArray
 | .dK kvs=>kvs.length <= sizeLine /\ (a == sysModules)=false /\ ∃ vs,KV kvs vs /\ h.DictOf (ZA7 P w) a vs
 | .dT kvs=>kvs.length <= sizeLine /\ (a == sysModules)=false /\ ∃ xs:List (List Key×Addr×Value),
   Paired (fun (p:List Key×V) (q:List Key×Addr×Value)=>p.1=q.1 /\ H q.2.1=some (.tup (p.1.map kV)) /\ RelV p.2 q.2.2) kvs xs /\
   ∃ o es ep,h.get? a=some o /\ o.ExactDict /\ o.data=.dict es ep /\ es.toList=xs.map (entryOfKey (tupleKind (ZA7 P w))) /\ (xs.map (·.1)).Nodup
 | .set S n=>h.SetOf (intKind P w) a S n
 | .ins C dx fs=>H dx=some (.own a) /\ fs.length <= 1000 /\ dx≠a /\ h.get? a=some (PySem.W.instObj C dx) /\
   ∃ mA,h.Ns1 dx mA /\ (∀ f,RelO (fs.lookup f) (mA f)) /\ PySem.Within mA (fs.map (·.1))
 | .own _=>∃ o,h.get? a=some o
 | .xd fs=>∃ mA,h.Ns1 a mA /\ ∀ f,RelO (fs.lookup f) (mA f)
 | .rng lo hi=>∃ t u v,h.get? a=some { cls:=.type "range",data:=.fields #[.int lo t,.int hi u,.int 1 v] }
 | .frz o u=>h.get? a=some o /\ ObjOk H h a u
 | .tbl ps=>h.get? a=some { cls:=.none,data:=.fields ps }
 | .met f x=>h.get? a=some (PySem.W.methodObj (.ref f) (.ref x))
 | .ext φ=>φ h /\ (∃ o,h.get? a=some o) /\ ∀ h1 h2:Heap,φ h1->(∀ o,h1.get? a=some o->h2.get? a=some o)->φ h2
def HOk (H:Hp) (h:Heap):Prop:=∀ a o,H a=some o->ObjOk P w H h a o
end
section
variable {P:Program} {w:World} {H H':Hp} {h h':Heap} {a:Addr} {o:HO}
theorem ObjOk.lt (x:ObjOk P w H h a o):a < h.objs.size:=by
 cases o with
 | lst xs=>obtain ⟨_,_,_,_,e⟩:=x;exact Heap.lt_size e
 | tup xs=>obtain ⟨_,_,_,p⟩:=x;exact p.lt
 | dK kvs=>obtain ⟨_,_,_,_,o,_,_,e,_⟩:=x;exact Heap.lt_size e
 | dT kvs=>obtain ⟨_,_,_,_,o,_,_,e,_⟩:=x;exact Heap.lt_size e
 | set S n=>obtain ⟨o,_,_,_,e,_⟩:=x;exact Heap.lt_size e
 | ins C dx fs=>obtain ⟨_,_,_,e,_⟩:=x;exact Heap.lt_size e
 | own y=>obtain ⟨_,e⟩:=x;exact Heap.lt_size e
 | xd fs=>obtain ⟨_,⟨_,_,_,e,_⟩,_⟩:=x;exact Heap.lt_size e
 | rng lo hi=>obtain ⟨_,_,_,e⟩:=x;exact Heap.lt_size e
 | frz ob u=>obtain ⟨e,_⟩:=x;exact Heap.lt_size e
 | tbl ps=>exact Heap.lt_size (show h.get? a=some _ from x)
 | met f y=>exact Heap.lt_size (show h.get? a=some _ from x)
 | ext φ=>obtain ⟨_,⟨_,e⟩,_⟩:=x;exact Heap.lt_size e
theorem Paired.mapP {α β:Type} {F G:α->β->Prop}:∀ {l₁:List α} {l₂:List β},Paired F l₁ l₂->(∀ a b,F a b->G a b)->Paired G l₁ l₂
 | _,_,.nil,_=>.nil
 | _,_,.cons r t,f=>.cons (f _ _ r) (Paired.mapP t f)
theorem ObjOk.stay (x:ObjOk P w H h a o) (k:∀ b u,(b=a∨H b=some (.own a))->h.get? b=some u->h'.get? b=some u)
  (ho:∀ b,H b=some (.own a)->H' b=some (.own a)) (ht:∀ b xs,H b=some (.tup xs)->H' b=some (.tup xs)):ObjOk P w H' h' a o:=by
 induction o with
 | lst xs=>obtain ⟨z,its,n,r,e⟩:=x;exact ⟨z,its,n,r,k _ _ (.inl rfl) e⟩
 | tup xs=>obtain ⟨z,its,r,ob,e,c⟩:=x;exact ⟨z,its,r,ob,k _ _ (.inl rfl) e,c⟩
 | dK kvs=>obtain ⟨z,y,vs,r,ob,es,ep,e,c⟩:=x;exact ⟨z,y,vs,r,ob,es,ep,k _ _ (.inl rfl) e,c⟩
 | dT kvs=>
  obtain ⟨z,y,xs,r,ob,es,ep,e,c⟩:=x
  exact ⟨z,y,xs,Paired.mapP r fun p q z=>⟨z.1,ht _ _ z.2.1,z.2.2⟩,ob,es,ep,k _ _ (.inl rfl) e,c⟩
 | set S n=>obtain ⟨ob,es,ep,t,e,c⟩:=x;exact ⟨ob,es,ep,t,k _ _ (.inl rfl) e,c⟩
 | ins C dx fs=>
  obtain ⟨d,z,ne,e,mA,⟨od,es,ep,e2,c⟩,r⟩:=x
  exact ⟨ho _ d,z,ne,k _ _ (.inl rfl) e,mA,⟨od,es,ep,k _ _ (.inr d) e2,c⟩,r⟩
 | own y=>obtain ⟨ob,e⟩:=x;exact ⟨ob,k _ _ (.inl rfl) e⟩
 | xd fs=>obtain ⟨mA,⟨od,es,ep,e,c⟩,r⟩:=x;exact ⟨mA,⟨od,es,ep,k _ _ (.inl rfl) e,c⟩,r⟩
 | rng lo hi=>obtain ⟨t,u,v,e⟩:=x;exact ⟨t,u,v,k _ _ (.inl rfl) e⟩
 | frz ob u ih=>obtain ⟨e,q⟩:=x;exact ⟨k _ _ (.inl rfl) e,ih q⟩
 | tbl ps=>
  have e:h.get? a=some { cls:=.none,data:=.fields ps }:=x
  show h'.get? a=some { cls:=.none,data:=.fields ps }
  exact k a _ (.inl rfl) e
 | met f y=>
  have e:h.get? a=some (PySem.W.methodObj (.ref f) (.ref y)):=x
  show h'.get? a=some (PySem.W.methodObj (.ref f) (.ref y))
  exact k a _ (.inl rfl) e
 | ext φ=>obtain ⟨p,⟨o,e⟩,st⟩:=x;exact ⟨st _ _ p fun o q=>k _ _ (.inl rfl) q,⟨o,k _ _ (.inl rfl) e⟩,st⟩
theorem HOk.lt (x:HOk P w H h) (e:H a=some o):a < h.objs.size:=(x a o e).lt
theorem HOk.fresh (x:HOk P w H h) (e:h.objs.size <= a):H a=none:=by
 cases q:H a with
 | none=>rfl
 | some u=>exact absurd (yBA (x.lt q) e) (yBU _)
theorem HOk.kept (x:HOk P w H h) (k:∀ b u,h.get? b=some u->h'.get? b=some u):HOk P w H h':=fun a o e=>
 (x a o e).stay (fun b u _ q=>k b u q) (fun _ q=>q) fun _ _ q=>q
theorem HOk.laid (x:HOk P w H h) (k:∀ b u,h.get? b=some u->h'.get? b=some u) (hp:h.objs.size <= a) (new:ObjOk P w (upd H a o) h' a o):HOk P w (upd H a o) h':=fun b u e=>by
 have hn:=x.fresh hp
 by_cases hb:b=a
 .subst hb;rw [ZAF] at e;cases e;exact new
 .rw [ZAI hb] at e
  exact (x b u e).stay (fun c v _ q=>k c v q) (fun c q=>by rw [ZAI (ZAE q hn)];exact q) fun c xs q=>by rw [ZAI (ZAE q hn)];exact q
end
def Rd (H:Hp) (a:Addr) (u:HO):Prop:=H a=some u∨∃ o,H a=some (.frz o u)
theorem Rd.ok {P:Program} {w:World} {H:Hp} {h:Heap} {a:Addr} {u:HO} (r:Rd H a u) (x:HOk P w H h):ObjOk P w H h a u:=by
 rcases r with r | ⟨o,r⟩
 .exact x a u r
 .obtain ⟨_,q⟩:=x a _ r
  exact q
def Mut:Option HO->Prop
 | some (.lst _)=>True
 | some (.dK _)=>True
 | some (.dT _)=>True
 | some (.set _ _)=>True
 | some (.ins _ _ _)=>True
 | some (.ext _)=>True
 | _=>False
section
variable {P:Program} {w:World} {H:Hp} {h h':Heap} {x e:Addr} {o':HO}
theorem HOk.write (ok:HOk P w H h) (mu:Mut (H x)) (he:e=x∨H e=some (.own x)) (k:∀ b u,b≠e->h.get? b=some u->h'.get? b=some u) (heo:∃ u,h'.get? e=some u)
  (new:ObjOk P w (upd H x o') h' x o'):HOk P w (upd H x o') h':=fun b u q=>by
 have nown:∀ c y,H c=some (.own y)->c≠x:=fun c y r z=>by subst z;rw [r] at mu;exact mu
 have ntup:∀ c xs,H c=some (.tup xs)->c≠x:=fun c xs r z=>by subst z;rw [r] at mu;exact mu
 by_cases hb:b=x
 .subst hb;rw [ZAF] at q;cases q;exact new
 .rw [ZAI hb] at q
  by_cases hbe:b=e
  .have q':H b=some (.own x):=by
    rcases he with z | z
    .exact absurd (hbe.trans z) hb
    .rw [hbe];exact z
   rw [q] at q';cases q'
   obtain ⟨v,hv⟩:=heo
   exact ⟨v,by rw [hbe];exact hv⟩
  .refine (ok b u q).stay (fun c v hc r=>k c v ?_ r) (fun c r=>by rw [ZAI (nown c b r)];exact r) fun c xs r=>by rw [ZAI (ntup c xs r)];exact r
   rcases hc with rfl | hc
   .exact hbe
   .rintro rfl
    rcases he with z | z
    .exact nown c b hc z
    .rw [hc] at z;cases z;exact hb rfl
end
structure Un (fs ex:List Addr) (H H':Hp) (h h':Heap):Prop where
 keep:∀ b o,h.get? b=some o->H b=none->b∉fs->b∉ex->h'.get? b=some o
 slot:∀ b o,h.get? b=some o->H b=none->b∈fs->b∉ex->∃ sl,h'.get? b=some { o with slots:=sl }
 free:∀ b o,h.get? b=some o->H b=none->b∉ex->H' b=none
 there:∀ b o,h.get? b=some o->b∉ex->∃ o',h'.get? b=some o'
 tups:∀ b xs,H b=some (.tup xs)->H' b=some (.tup xs)
 frzs:∀ b o u,H b=some (.frz o u)->H' b=some (.frz o u)
 tbls:∀ b ps,H b=some (.tbl ps)->∃ more,H' b=some (.tbl (ps++more))
section
variable {fs fs' ex ex':List Addr} {H H1 H2:Hp} {h h1 h2 h':Heap} {a x e:Addr} {o:HO}
theorem Un.any (u:Un fs ex H H1 h h1) {b:Addr} {ob:Obj} (q:h.get? b=some ob) (n:H b=none) (hx:b∉ex):∃ sl,h1.get? b=some { ob with slots:=sl }:=by
 by_cases hb:b∈fs
 .exact u.slot b ob q n hb hx
 .exact ⟨ob.slots,u.keep b ob q n hb hx⟩
theorem Un.kept (k:∀ b u,h.get? b=some u->h'.get? b=some u):Un fs ex H H h h' :=
 ⟨fun b ob q _ _ _=>k b ob q,fun b ob q _ _ _=>⟨ob.slots,k b ob q⟩,fun _ _ _ n _=>n,fun b ob q _=>⟨ob,k b ob q⟩,fun _ _ q=>q,fun _ _ _ q=>q,fun _ ps q=>⟨#[],by rw [q];simp⟩⟩
theorem Un.refl:Un fs ex H H h h:=Un.kept fun _ _ q=>q
theorem Un.laid (k:∀ b u,h.get? b=some u->h'.get? b=some u) (hp:h.objs.size <= a) (hn:H a=none):Un fs ex H (upd H a o) h h' where
 keep:=fun b u q _ _ _=>k b u q
 slot:=fun b u q _ _ _=>⟨u.slots,k b u q⟩
 free:=fun b u q n _=>by rw [ZAI (yAO (yBA (Heap.lt_size q) hp))];exact n
 there:=fun b u q _=>⟨u,k b u q⟩
 tups:=fun b xs q=>by rw [ZAI (ZAE q hn)];exact q
 frzs:=fun b u xs q=>by rw [ZAI (ZAE q hn)];exact q
 tbls:=fun b ps q=>⟨#[],by rw [ZAI (ZAE q hn),q];simp⟩
theorem Un.write (mu:Mut (H x)) (he:e=x∨H e=some (.own x)) (k:∀ b u,b≠e->h.get? b=some u->h'.get? b=some u) (heo:∃ u,h'.get? e=some u):Un fs ex H (upd H x o) h h':=by
 have hx:∀ b,H b=none->b≠x:=fun b n z=>by subst z;rw [n] at mu;exact mu
 have hb:∀ b,H b=none->b≠e:=fun b n z=>by
  subst z
  rcases he with r | r
  .exact hx b n r
  .rw [n] at r;cases r
 have hm:∀ b u,H b=some u->¬ Mut (some u)->b≠x:=fun b u q nm z=>by subst z;rw [q] at mu;exact nm mu
 refine ⟨fun b u q n _ _=>k b u (hb b n) q,fun b u q n _ _=>⟨u.slots,k b u (hb b n) q⟩,fun b u q n _=>by rw [ZAI (hx b n)];exact n,fun b u q _=>?_,
  fun b xs q=>by rw [ZAI (hm b _ q fun z=>z)];exact q,fun b u xs q=>by rw [ZAI (hm b _ q fun z=>z)];exact q,fun b ps q=>⟨#[],by rw [ZAI (hm b _ q fun z=>z),q];simp⟩⟩
 by_cases hbe:b=e
 .subst hbe;exact heo
 .exact ⟨u,k b u hbe q⟩
end
def trk (h:Heap) (H:Hp):List Addr:=(List.range h.objs.size).filter fun a=>(H a).isSome
def hidT (h:Heap) (H:Hp):Heap:=PySem.W.hideAll h (trk h H)
theorem hidT_size (h:Heap) (H:Hp):(hidT h H).objs.size=h.objs.size:=PySem.W.hideAll_size _ _
theorem hidT_get {h:Heap} {H:Hp} {b:Addr} {o:Obj} (e:h.get? b=some o) (n:H b=none):(hidT h H).get? b=some o :=
 PySem.W.hideAll_get _ e fun hm=>by
  have q:(H b).isSome=true:=(List.mem_filter.mp hm).2
  rw [n] at q;simp at q
theorem of_hidT {h:Heap} {H:Hp} {b:Addr} {o:Obj} (e:(hidT h H).get? b=some o):h.get? b=some o /\ H b=none:=by
 have e':h.get? b=some o:=PySem.W.of_hideAll (trk h H) e
 refine ⟨e',?_⟩
 cases q:H b with
 | none=>rfl
 | some x=>
  have hm:b∈trk h H:=List.mem_filter.mpr ⟨yCE.mpr (Heap.lt_size e'),by simp [q]⟩
  have z:(hidT h H).get? b=none:=PySem.W.hideAll_none (trk h H) hm
  rw [z] at e;cases e
structure Mod (K:W.Frag) (mg:Str->Option Value) (base:Heap):Prop where
 kin:K.In base
 glob:base.Ns mainGlobals mg
 blt:∃ mb,base.Ns builtinsNs mb /\ ∀ x:Str,x≠"__name__"->mb x=bootBuiltins x
 nolimit:base.NoLimit
structure Cx where
 prog:Program
 w:World
 K:W.Frag
 mg:Str->Option Value
 base:Heap
 A:Around
 N:List Str
 s₀:Shared
 H₀:Hp
 env:Env
 outer:List Env
 stack:List Env
 ex:List Addr
 fn:Str->Bool
 calm:Bool
 pn:List (Addr×Obj)
 xe:Value->Shared->Prop
def frs (l:List Env):List Addr:=l.filterMap (·.frame)
abbrev Cx.fs (X:Cx):List Addr:=frs X.outer
def Vis (sc:Scope) (x:Str):Prop:=sc.names.lookup x=some .local∨sc.names.lookup x=some .cell∨sc.names.lookup x=some .free
def Loc (sc:Scope) (x:Str):Prop:=sc.names.lookup x=some .local∨sc.names.lookup x=some .cell
def Look (env:Env) (h:Heap) (m:Str->Option Value) (x:Str) (u:Value):Prop :=
 (env.kindOf x=some .local /\ m x=some u)∨((env.kindOf x=some .cell∨env.kindOf x=some .free) /\ ∃ c,env.cells.lookup x=some c /\ h.IsCell c (some u))
structure Cx.Ok (X:Cx):Prop where
 mod:Mod X.K X.mg X.base
 kind:X.env.scope.kind=.function
 glob:X.env.globals=mainGlobals
 blt:X.env.builtins=builtinsNs
 above:X.s₀.heap.objs.size <= X.env.locals
 inj:∀ x y c,X.env.cells.lookup x=some c->X.env.cells.lookup y=some c->x=y
 has:∀ x,(X.env.kindOf x=some .cell∨X.env.kindOf x=some .free)->∃ c,X.env.cells.lookup x=some c
 cab:∀ x c,X.fn x=true->X.env.cells.lookup x=some c->X.s₀.heap.objs.size <= c
 hd:X.calm=true->X.A.handled=none
 frames:X.A.frames=some X.stack
 stk:X.stack=X.outer∨(X.stack=X.env::X.outer /\ X.env.frame=some X.env.locals)
 exf:∀ b∈X.ex,b≠X.env.locals /\ ∀ x c,X.env.cells.lookup x=some c->c≠b
 bs:∀ b o,X.base.get? b=some o->X.s₀.heap.get? b=some o /\ X.H₀ b=none
 bsz:X.base.objs.size <= X.s₀.heap.objs.size
 noex:∀ b o,X.base.get? b=some o->b∉X.ex
 exfs:∀ b∈X.ex,b∉X.fs
 funs:X.s₀.heap.FunFrames X.base X.outer
 frf:∀ b∈X.fs,X.H₀ b=none
structure Inv (X:Cx) (pins:List (Addr×Obj)) (σ:List (Option V)) (H:Hp) (s:Shared):Prop where
 ok:X.Ok
 os:s.os=X.s₀.os
 bare:AllBare s.gens
 base:Un X.fs X.ex X.H₀ H X.s₀.heap s.heap
 loc:∃ m,s.heap.Ns X.env.locals m /\ ∀ (i:Nat) (x:Str) (v:V),X.N[i]?=some x->σ[i]?=some (some v)->Vis X.env.scope x->∃ u,RelV v u /\ Look X.env s.heap m x u
 cell:∀ x c,X.env.cells.lookup x=some c->∃ v,s.heap.IsCell c v
 free:H X.env.locals=none
 freeC:∀ x c,X.env.cells.lookup x=some c->H c=none
 pin:∀ p∈X.pn++pins,s.heap.get? p.1=some p.2 /\ H p.1=none /\ p.1≠X.env.locals /\ p.1∉X.fs /\ ∀ v,p.2.data≠.cell v
 hok:HOk X.prog X.w H s.heap
 len:σ.length=X.N.length
section
variable {X:Cx} {pins:List (Addr×Obj)} {σ:List (Option V)} {H H':Hp} {s:Shared} {h':Heap}
theorem Cx.Ok.nofr (ok:X.Ok) {b:Addr} {o:Obj} (e:X.base.get? b=some o):b∉X.fs:=fun hb=>by
 have:=(ok.funs.mem hb).1
 rw [e] at this;cases this
theorem Inv.bs (I:Inv X pins σ H s):∀ b o,X.base.get? b=some o->s.heap.get? b=some o /\ H b=none:=fun b o e=>
 ⟨I.base.keep b o (I.ok.bs b o e).1 (I.ok.bs b o e).2 (I.ok.nofr e) (I.ok.noex b o e),I.base.free b o (I.ok.bs b o e).1 (I.ok.bs b o e).2 (I.ok.noex b o e)⟩
theorem Inv.bk (I:Inv X pins σ H s):∀ b o,X.base.get? b=some o->s.heap.get? b=some o:=fun b o e=>(I.bs b o e).1
theorem Inv.mod (I:Inv X pins σ H s):Mod X.K X.mg X.base:=I.ok.mod
theorem Inv.kIn (I:Inv X pins σ H s):X.K.In s.heap:=I.ok.mod.kin.keeps I.bk
theorem Inv.lt (I:Inv X pins σ H s):X.env.locals < s.heap.objs.size:=let ⟨_,hn,_⟩:=I.loc;hn.lt
theorem Inv.sz (I:Inv X pins σ H s):X.s₀.heap.objs.size <= s.heap.objs.size:=yAP I.ok.above (yBO I.lt)
theorem Inv.nofs (I:Inv X pins σ H s) {a:Addr} (h:s.heap.objs.size <= a):a∉X.fs:=fun hb=>by
 obtain ⟨_,o,ho,_⟩:=I.ok.funs.mem hb
 exact absurd (yBA (Heap.lt_size ho) (yAP I.sz h)) (yBU _)
theorem Inv.cne (I:Inv X pins σ H s):∀ x c,X.env.cells.lookup x=some c->c≠X.env.locals:=fun x c e z=>by
 obtain ⟨v,o,ho,hd⟩:=I.cell x c e
 obtain ⟨m,⟨o',es,ep,ho',hd',_⟩,_⟩:=I.loc
 rw [z,ho'] at ho;cases ho;rw [hd'] at hd;cases hd
theorem Inv.funs (I:Inv X pins σ H s):s.heap.FunFrames X.base X.outer:=by
 have all:∀ (l:List Env),(∀ b∈frs l,b∈X.fs)->X.s₀.heap.FunFrames X.base l->s.heap.FunFrames X.base l:=by
  intro l
  induction l with
  | nil=>intro _ _;trivial
  | cons env r ih=>
   intro hs hl
   obtain ⟨hk,⟨L,o,hf,hn,ho,hd⟩,hr⟩:=hl
   have hL:L∈X.fs:=hs L (by unfold frs;rw [List.filterMap_cons,hf];exact yAF)
   obtain ⟨sl,e⟩:=I.base.slot L o ho (I.ok.frf L hL) hL fun z=>I.ok.exfs L z hL
   exact ⟨hk,⟨L,_,hf,hn,e,hd⟩,ih (fun b hb=>hs b (by unfold frs;rw [List.filterMap_cons,hf];exact yAC _ hb)) hr⟩
 exact all X.outer (fun _ hb=>hb) I.ok.funs
theorem Inv.stack (I:Inv X pins σ H s):s.heap.FunFrames X.base X.stack:=by
 rcases I.ok.stk with e | ⟨e,hf⟩
 .rw [e];exact I.funs
 .rw [e]
  obtain ⟨m,hn,_⟩:=I.loc
  refine .cons (by rw [I.ok.kind];decide) hf hn ?_ I.funs
  exact Heap.get?_none_of_le (yAP I.ok.bsz I.ok.above)
theorem Inv.stkSub (I:Inv X pins σ H s):∀ b∈frs X.stack,b∈X.env.locals::X.fs:=fun b hb=>by
 rcases I.ok.stk with e | ⟨e,hf⟩
 .rw [e] at hb;exact yAC _ hb
 .rw [e] at hb
  unfold frs at hb
  rw [List.filterMap_cons,hf] at hb
  exact hb
theorem Inv.stkFree (I:Inv X pins σ H s):∀ b∈frs X.stack,H b=none:=fun b hb=>by
 rcases yAE.mp (I.stkSub b hb) with e | hb
 .rw [e];exact I.free
 .obtain ⟨_,o,ho,_⟩:=I.ok.funs.mem hb
  exact I.base.free b o ho (I.ok.frf b hb) fun z=>I.ok.exfs b z hb
theorem Inv.step {g':Array GenState} {t':Nat} {d':Drawn} {ch:List Addr} (I:Inv X pins σ H s)
  (hch:∀ b∈ch,(b∈X.ex∨X.s₀.heap.objs.size <= b) /\ b≠X.env.locals /\ (∀ x c,X.env.cells.lookup x=some c->c≠b) /\ ∀ p∈X.pn++pins,p.1≠b)
  (keep:∀ b o,b≠X.env.locals->b∉X.fs->b∉ch->s.heap.get? b=some o->H b=none->h'.get? b=some o)
  (slot:∀ b o,b≠X.env.locals->b∈X.fs->b∉ch->s.heap.get? b=some o->H b=none->∃ sl,h'.get? b=some { o with slots:=sl }) (free:∀ b o,b∉ch->s.heap.get? b=some o->H b=none->H' b=none)
  (there:∀ b o,b∉ch->s.heap.get? b=some o->∃ o',h'.get? b=some o')
  (tups:∀ b xs,H b=some (.tup xs)->H' b=some (.tup xs)) (frzs:∀ b o u,H b=some (.frz o u)->H' b=some (.frz o u)) (tbls:∀ b ps,H b=some (.tbl ps)->∃ more,H' b=some (.tbl (ps++more)))
  (ns:∀ m,s.heap.Ns X.env.locals m->h'.Ns X.env.locals m) (hok:HOk X.prog X.w H' h') (hg:AllBare g') :
  Inv X pins σ H' { s with heap:=h',gens:=g',drawn:=d',toks:=t' }:=by
 have neL:∀ b o,X.s₀.heap.get? b=some o->b≠X.env.locals:=fun b o e=>yAO (yBA (Heap.lt_size e) I.ok.above)
 have neC:∀ b o,X.s₀.heap.get? b=some o->b∉X.ex->b∉ch:=fun b o e hx hb=>by
  rcases (hch b hb).1 with z | z
  .exact hx z
  .exact absurd (yBA (Heap.lt_size e) z) (yBU _)
 have cellK:∀ x c,X.env.cells.lookup x=some c->∀ v,s.heap.IsCell c v->h'.IsCell c v:=fun x c e v ⟨o,ho,hd⟩=>by
  have nch:c∉ch:=fun z=>(hch c z).2.2.1 x c e rfl
  by_cases hc:c∈X.fs
  .obtain ⟨sl,q⟩:=slot c o (I.cne x c e) hc nch ho (I.freeC x c e)
   exact ⟨_,q,hd⟩
  .exact ⟨o,keep c o (I.cne x c e) hc nch ho (I.freeC x c e),hd⟩
 refine ⟨I.ok,I.os,hg,⟨fun b o e n hb hx=>?_,fun b o e n hb hx=>?_,fun b o e n hx=>?_,fun b o e hx=>?_,fun b xs e=>tups b xs (I.base.tups b xs e),fun b o xs e=>frzs b o xs (I.base.frzs b o xs e),fun b ps e=>?_⟩,?_,fun x c e=>?_,?_,fun x c e=>?_,fun p hp=>?_,hok,I.len⟩
 .exact keep b o (neL b o e) hb (neC b o e hx) (I.base.keep b o e n hb hx) (I.base.free b o e n hx)
 .obtain ⟨sl,e1⟩:=I.base.slot b o e n hb hx
  obtain ⟨sl',e2⟩:=slot b _ (neL b o e) hb (neC b o e hx) e1 (I.base.free b o e n hx)
  exact ⟨sl',e2⟩
 .obtain ⟨o',e1⟩:=I.base.there b o e hx
  exact free b o' (neC b o e hx) e1 (I.base.free b o e n hx)
 .obtain ⟨o',e1⟩:=I.base.there b o e hx
  exact there b o' (neC b o e hx) e1
 .obtain ⟨m1,e1⟩:=I.base.tbls b ps e
  obtain ⟨m2,e2⟩:=tbls b _ e1
  exact ⟨m1++m2,by rw [e2,Array.append_assoc]⟩
 .obtain ⟨m,hn,hl⟩:=I.loc
  refine ⟨m,ns m hn,fun i x v e1 e2 e3=>?_⟩
  obtain ⟨u,r,l⟩:=hl i x v e1 e2 e3
  refine ⟨u,r,?_⟩
  rcases l with l | ⟨k,c,e,z⟩
  .exact .inl l
  .exact .inr ⟨k,c,e,cellK x c e _ z⟩
 .obtain ⟨v,z⟩:=I.cell x c e
  exact ⟨v,cellK x c e v z⟩
 .obtain ⟨m,⟨o,_,_,ho,_⟩,_⟩:=I.loc
  exact free _ o (fun z=>(hch _ z).2.1 rfl) ho I.free
 .obtain ⟨v,o,ho,hd⟩:=I.cell x c e
  exact free c o (fun z=>(hch c z).2.2.1 x c e rfl) ho (I.freeC x c e)
 .obtain ⟨e,n,ne,nf,d⟩:=I.pin p hp
  have nch:p.1∉ch:=fun z=>(hch p.1 z).2.2.2 p hp rfl
  exact ⟨keep p.1 p.2 ne nf nch e n,free p.1 p.2 nch e n,ne,nf,d⟩
theorem Inv.un {t':Nat} (I:Inv X pins σ H s) (u:Un X.fs [] H H' s.heap h') (hok:HOk X.prog X.w H' h'):Inv X pins σ H' { s with heap:=h',toks:=t' }:=by
 obtain ⟨m,⟨o,es,ep,ho,r⟩,_⟩:=id I.loc
 obtain ⟨sl,hL⟩:=u.any ho I.free (by simp)
 exact I.step (g':=s.gens) (d':=s.drawn) (ch:=[]) (fun _ z=>nomatch z) (fun b o _ hb _ e n=>u.keep b o e n hb (by simp)) (fun b o _ hb _ e n=>u.slot b o e n hb (by simp)) (fun b o _ e n=>u.free b o e n (by simp)) (fun b o _ e=>u.there b o e (by simp)) u.tups u.frzs u.tbls (fun m' hm=>by
  obtain ⟨o',es',ep',ho',r'⟩:=hm
  rw [ho] at ho';cases ho'
  exact ⟨_,es',ep',hL,r'⟩) hok I.bare
theorem Inv.call {g':Array GenState} {t':Nat} {d':Drawn} {ch:List Addr} (I:Inv X pins σ H s) (u:Un (frs X.stack) ch H H' s.heap h') (hok:HOk X.prog X.w H' h') (hg:AllBare g')
  (hch:∀ b∈ch,(b∈X.ex∨X.s₀.heap.objs.size <= b) /\ b≠X.env.locals /\ (∀ x c,X.env.cells.lookup x=some c->c≠b) /\ ∀ p∈X.pn++pins,p.1≠b) :
  Inv X pins σ H' { s with heap:=h',gens:=g',drawn:=d',toks:=t' }:=by
 obtain ⟨m,⟨o,es,ep,ho,r⟩,_⟩:=id I.loc
 obtain ⟨sl,hL⟩:=u.any ho I.free fun z=>(hch _ z).2.1 rfl
 exact I.step (ch:=ch) hch (fun b o hL hb hc e n=>u.keep b o e n (fun z=>(yAE.mp (I.stkSub b z)).elim hL hb) hc) (fun b o _ _ hc e n=>u.any e n hc) (fun b o hc e n=>u.free b o e n hc) (fun b o hc e=>u.there b o e hc) u.tups u.frzs u.tbls (fun m' hm=>by
  obtain ⟨o',es',ep',ho',r'⟩:=hm
  rw [ho] at ho';cases ho'
  exact ⟨_,es',ep',hL,r'⟩) hok hg
theorem Inv.turned {t':Nat} {it:Addr} (I:Inv X pins σ H s) (k:∀ b o,b≠it->s.heap.get? b=some o->h'.get? b=some o) (hn:H it=none) (hL:it≠X.env.locals)
  (h1:it∈X.ex∨X.s₀.heap.objs.size <= it) (h2:∀ x c,X.env.cells.lookup x=some c->c≠it) (h3:∀ p∈X.pn++pins,p.1≠it):Inv X pins σ H { s with heap:=h',toks:=t' }:=by
 have nit:∀ b u,H b=some u->b≠it:=fun b u e z=>by rw [z,hn] at e;cases e
 refine I.step (g':=s.gens) (d':=s.drawn) (ch:=[it]) (fun b hb=>?_) (fun b o _ _ hc e _=>k b o (fun z=>hc (by simp [z])) e) (fun b o _ _ hc e _=>⟨o.slots,k b o (fun z=>hc (by simp [z])) e⟩) (fun _ _ _ _ n=>n)
  (fun b o hc e=>⟨o,k b o (fun z=>hc (by simp [z])) e⟩) (fun _ _ e=>e) (fun _ _ _ e=>e) (fun b ps e=>⟨#[],by rw [e];simp⟩) (fun m hm=>?_) (fun b u e=>?_) I.bare
 .have e:b=it:=by simpa using hb
  subst e
  exact ⟨h1,hL,h2,h3⟩
 .obtain ⟨o,es,ep,ho,r⟩:=hm
  exact ⟨o,es,ep,k _ o (Ne.symm hL) ho,r⟩
 .refine (I.hok b u e).stay (fun c v hc q=>k c v ?_ q) (fun _ q=>q) fun _ _ q=>q
  rcases hc with z | z
  .rw [z];exact nit b u e
  .exact nit c _ z
theorem Inv.tok (I:Inv X pins σ H s) (t:Nat):Inv X pins σ H { s with toks:=t }:=I.un (h':=s.heap) (t':=t) Un.refl I.hok
theorem Inv.kept {t':Nat} (I:Inv X pins σ H s) (k:∀ b u,s.heap.get? b=some u->h'.get? b=some u):Inv X pins σ H { s with heap:=h',toks:=t' }:=I.un (Un.kept k) (I.hok.kept k)
theorem Inv.laid {a:Addr} {o:HO} {t':Nat} (I:Inv X pins σ H s) (k:∀ b u,s.heap.get? b=some u->h'.get? b=some u) (hp:s.heap.objs.size <= a) (new:ObjOk X.prog X.w (upd H a o) h' a o) :
  Inv X pins σ (upd H a o) { s with heap:=h',toks:=t' }:=I.un (Un.laid k hp (I.hok.fresh hp)) (I.hok.laid k hp new)
theorem Inv.write {x e:Addr} {o:HO} {t':Nat} (I:Inv X pins σ H s) (mu:Mut (H x)) (he:e=x∨H e=some (.own x)) (k:∀ b u,b≠e->s.heap.get? b=some u->h'.get? b=some u) (heo:∃ u,h'.get? e=some u)
  (new:ObjOk X.prog X.w (upd H x o) h' x o):Inv X pins σ (upd H x o) { s with heap:=h',toks:=t' }:=I.un (Un.write mu he k heo) (I.hok.write mu he k heo new)
theorem Inv.pins_of {pins':List (Addr×Obj)} (I:Inv X pins σ H s) (h:∀ p∈pins',s.heap.get? p.1=some p.2 /\ H p.1=none /\ p.1≠X.env.locals /\ p.1∉X.fs /\ ∀ v,p.2.data≠.cell v):Inv X pins' σ H s :=
 ⟨I.ok,I.os,I.bare,I.base,I.loc,I.cell,I.free,I.freeC,fun p hp=>(yAV.mp hp).elim (fun z=>I.pin p (yBC _ z)) (h p),I.hok,I.len⟩
theorem nodup_ix {N:List Str} (hN:N.Nodup) {i j:Nat} {x:Str} (a:N[i]?=some x) (b:N[j]?=some x):i=j:=by
 obtain ⟨h1,e1⟩:=yAH.mp a
 obtain ⟨h2,e2⟩:=yAH.mp b
 exact (List.getElem_inj hN).mp (e1.trans e2.symm)
theorem store_ok2 {M:Model} {A:Around} {E:Value->Shared->Prop} {i:Nat} {x:Str} {v:V} {u:Value} {Q:Unit->Shared->Prop} (I:Inv X pins σ H s) (hN:X.N.Nodup) (hi:X.N[i]?=some x) (hx:Loc X.env.scope x) (r:RelV v u)
  (h:∀ s',Inv X pins (σ.set i (some v)) H s'->(∃ a,Heap.SameBut a s.heap s'.heap /\ (a=X.env.locals∨X.env.cells.lookup x=some a))->Q () s') (hf:X.fn x=true∨X.env.scope.names.lookup x=some .local:=by first | exact .inl rfl | exact .inr rfl | assumption):wpAny M A (storeName X.env x u) Q E s:=by
 obtain ⟨m,hn,hl⟩:=id I.loc
 have hcls:(X.env.scope.kind == .class || (X.env.scope.kind == .module && X.env.locals != X.env.globals))=false:=by rw [I.ok.kind];rfl
 have hiσ:i < σ.length:=by rw [I.len];exact (yAH.mp hi).1
 have cne:=I.cne
 have tracked:∀ {a:Addr} {h':Heap},(∃ o,s.heap.get? a=some o /\ H a=none)->Heap.SameBut a s.heap h'->HOk X.prog X.w H h':=fun {a h'} ha hs b ob e=>by
  obtain ⟨_,_,hfree⟩:=ha
  refine (I.hok b ob e).stay (fun c w' hc q=>(hs.2 c ?_).trans q) (fun _ q=>q) fun _ _ q=>q
  rintro rfl
  rcases hc with rfl | hc
  .rw [hfree] at e;cases e
  .rw [hfree] at hc;cases hc
 rcases hx with hk | hk
 .refine wpAny_storeName_local hk hn (fun h' hn' hs=>?_) hcls
  obtain ⟨oL,_,_,hoL,_⟩:=id hn
  refine h _ ⟨I.ok,I.os,I.bare,⟨fun b o e n hb hx=>?_,fun b o e n hb hx=>?_,I.base.free,fun b o e hx=>?_,I.base.tups,I.base.frzs,I.base.tbls⟩,⟨_,hn',fun j y v' e1 e2 e3=>?_⟩,fun y c e=>?_,I.free,I.freeC,fun p hp=>?_,tracked ⟨oL,hoL,I.free⟩ hs,by simpa using I.len⟩ ⟨_,hs,.inl rfl⟩
  .exact (hs.2 b (yAO (yBA (Heap.lt_size e) I.ok.above))).trans (I.base.keep b o e n hb hx)
  .obtain ⟨sl,e1⟩:=I.base.slot b o e n hb hx
   exact ⟨sl,(hs.2 b (yAO (yBA (Heap.lt_size e) I.ok.above))).trans e1⟩
  .obtain ⟨o',e1⟩:=I.base.there b o e hx
   exact ⟨o',(hs.2 b (yAO (yBA (Heap.lt_size e) I.ok.above))).trans e1⟩
  .by_cases hj:j=i
   .subst hj
    rw [hi] at e1;cases e1
    rw [List.getElem?_set_self hiσ] at e2
    cases e2
    exact ⟨u,r,.inl ⟨hk,by simp⟩⟩
   .rw [List.getElem?_set_ne (Ne.symm hj)] at e2
    obtain ⟨u',r',q⟩:=hl j y v' e1 e2 e3
    refine ⟨u',r',?_⟩
    rcases q with ⟨k,e⟩ | ⟨k,c,e,z⟩
    .refine .inl ⟨k,?_⟩
     have:y≠x:=fun e=>hj (nodup_ix hN e1 (e ▸ hi))
     simp [this,e]
    .exact .inr ⟨k,c,e,z.sameBut hs (cne y c e)⟩
  .obtain ⟨w',z⟩:=I.cell y c e
   exact ⟨w',z.sameBut hs (cne y c e)⟩
  .obtain ⟨e,n,ne,nf,d⟩:=I.pin p hp
   exact ⟨(hs.2 p.1 ne).trans e,n,ne,nf,d⟩
 .have hfn:X.fn x=true:=by
   rcases hf with z | z
   .exact z
   .rw [z] at hk;cases hk
  obtain ⟨c,hc⟩:=I.ok.has x (.inl hk)
  obtain ⟨w',z⟩:=I.cell x c hc
  refine wpAny_storeName_cell I.ok.kind hk hc z (fun h' hc' hs=>?_)
  obtain ⟨oc,hoc,hocd⟩:=id z
  refine h { s with heap:=h' } ⟨I.ok,I.os,I.bare,⟨fun b o e n hb hx=>?_,fun b o e n hb hx=>?_,I.base.free,fun b o e hx=>?_,I.base.tups,I.base.frzs,I.base.tbls⟩,⟨m,hn.sameBut hs (Ne.symm (cne x c hc)),fun j y v' e1 e2 e3=>?_⟩,fun y c' e=>?_,I.free,I.freeC,fun p hp=>?_,tracked ⟨oc,hoc,I.freeC x c hc⟩ hs,by simpa using I.len⟩ ⟨c,hs,.inr hc⟩
  .exact (hs.2 b (yAO (yBA (Heap.lt_size e) (I.ok.cab x c hfn hc)))).trans (I.base.keep b o e n hb hx)
  .obtain ⟨sl,e1⟩:=I.base.slot b o e n hb hx
   exact ⟨sl,(hs.2 b (yAO (yBA (Heap.lt_size e) (I.ok.cab x c hfn hc)))).trans e1⟩
  .obtain ⟨o',e1⟩:=I.base.there b o e hx
   exact ⟨o',(hs.2 b (yAO (yBA (Heap.lt_size e) (I.ok.cab x c hfn hc)))).trans e1⟩
  .by_cases hj:j=i
   .subst hj
    rw [hi] at e1;cases e1
    rw [List.getElem?_set_self hiσ] at e2
    cases e2
    exact ⟨u,r,.inr ⟨.inl hk,c,hc,hc'⟩⟩
   .rw [List.getElem?_set_ne (Ne.symm hj)] at e2
    obtain ⟨u',r',q⟩:=hl j y v' e1 e2 e3
    refine ⟨u',r',?_⟩
    rcases q with q | ⟨k,c',e,z'⟩
    .exact .inl q
    .refine .inr ⟨k,c',e,z'.sameBut hs ?_⟩
     rintro rfl
     exact hj (nodup_ix hN e1 (I.ok.inj _ _ _ e hc ▸ hi))
  .by_cases hcc:c'=c
   .subst hcc;exact ⟨_,hc'⟩
   .obtain ⟨w2,z2⟩:=I.cell y c' e
    exact ⟨w2,z2.sameBut hs hcc⟩
  .obtain ⟨e,n,ne,nf,d⟩:=I.pin p hp
   refine ⟨(hs.2 p.1 ?_).trans e,n,ne,nf,d⟩
   intro q
   rw [q,hoc] at e
   have q':oc=p.2:=Option.some.inj e
   exact d w' (by rw [<- q'];exact hocd)
theorem ZDK {M:Model} {A:Around} {E:Value->Shared->Prop} {i:Nat} {x:Str} {v:V} {u:Value} {Q:Unit->Shared->Prop} (I:Inv X pins σ H s) (hN:X.N.Nodup) (hi:X.N[i]?=some x) (hx:Loc X.env.scope x) (r:RelV v u)
  (h:∀ s',Inv X pins (σ.set i (some v)) H s'->Q () s') (hf:X.fn x=true∨X.env.scope.names.lookup x=some .local:=by first | exact .inl rfl | exact .inr rfl | assumption):wpAny M A (storeName X.env x u) Q E s :=
 store_ok2 I hN hi hx r (fun s' I' _=>h s' I') hf
theorem Inv.call' {s':Shared} {ch:List Addr} (I:Inv X pins σ H s) (ho:s'.os=s.os) (u:Un (frs X.stack) ch H H' s.heap s'.heap) (hok:HOk X.prog X.w H' s'.heap) (hg:AllBare s'.gens)
  (hch:∀ b∈ch,(b∈X.ex∨X.s₀.heap.objs.size <= b) /\ b≠X.env.locals /\ (∀ x c,X.env.cells.lookup x=some c->c≠b) /\ ∀ p∈X.pn++pins,p.1≠b):Inv X pins σ H' s':=by
 obtain ⟨h',g',d',t',o'⟩:=s'
 have e:o'=s.os:=ho
 subst e
 exact I.call (g':=g') (t':=t') (d':=d') u hok hg hch
end
abbrev XK:=Value->Option Addr->Hp->Prop
abbrev St:=List (Option V)
abbrev VK:=V->Hp->Prop
abbrev TE:=St->Hp->VK->Prop
abbrev TT:=St->Hp->(Bool->Hp->Prop)->Prop
abbrev TA:=St->Hp->(List V->Hp->Prop)->Prop
structure Ends where
 nx:St->Hp->Prop
 rt:VK
 bk:St->Hp->Prop:=fun _ _=>False
 ct:St->Hp->Prop:=fun _ _=>False
abbrev TS:=Ends->St->Hp->Prop
def EP (X:Cx) (pins:List (Addr×Obj)) (σ:St) (Q:VK) (u:Value) (s':Shared):Prop:=∃ v H',Inv X pins σ H' s' /\ RelV v u /\ Q v H'
def TP (X:Cx) (pins:List (Addr×Obj)) (σ:St) (Q:Bool->Hp->Prop) (b:Bool) (s':Shared):Prop:=∃ H',Inv X pins σ H' s' /\ Q b H'
def AP (X:Cx) (pins:List (Addr×Obj)) (σ:St) (Q:List V->Hp->Prop) (us:List Value) (s':Shared):Prop:=∃ vs H',Inv X pins σ H' s' /\ Vals vs us /\ Q vs H'
def SP (X:Cx) (pins:List (Addr×Obj)) (D:Ends) (f:Flow) (s':Shared):Prop :=
 match f with
 | .next=>∃ σ' H',Inv X pins σ' H' s' /\ D.nx σ' H'
 | .brk=>∃ σ' H',Inv X pins σ' H' s' /\ D.bk σ' H'
 | .cont=>∃ σ' H',Inv X pins σ' H' s' /\ D.ct σ' H'
 | .ret u=>∃ v σ' H',Inv X pins σ' H' s' /\ RelV v u /\ D.rt v H'
def PE (X:Cx) (e:Expr) (t:TE):Prop :=
 ∀ (pins:List (Addr×Obj)) (s:Shared) (σ:St) (H:Hp) (Q:VK),Inv X pins σ H s->t σ H Q->wpAny (model X.prog X.w) X.A (eval e X.env) (EP X pins σ Q) X.xe s
def PT (X:Cx) (e:Expr) (t:TT):Prop :=
 ∀ (pins:List (Addr×Obj)) (s:Shared) (σ:St) (H:Hp) (Q:Bool->Hp->Prop),Inv X pins σ H s->t σ H Q->wpAny (model X.prog X.w) X.A (isTrue e X.env (eval e X.env)) (TP X pins σ Q) X.xe s
def PW (X:Cx) (e:Expr) (t:TT):Prop :=
 ∀ (whole:Sem Value) (pins:List (Addr×Obj)) (s:Shared) (σ:St) (H:Hp) (Q:Bool->Hp->Prop),Inv X pins σ H s->t σ H Q->wpAny (model X.prog X.w) X.A (isTrue e X.env whole) (TP X pins σ Q) X.xe s
theorem PW.pt {X:Cx} {e:Expr} {t:TT} (h:PW X e t):PT X e t:=h _
def PA (X:Cx) (es:List Expr) (t:TA):Prop :=
 ∀ (pos:Pos) (pins:List (Addr×Obj)) (s:Shared) (σ:St) (H:Hp) (Q:List V->Hp->Prop),Inv X pins σ H s->t σ H Q->wpAny (model X.prog X.w) X.A (spliced (backTo pos (starEach es X.env))) (AP X pins σ Q) X.xe s
def PS (X:Cx) (st:Stmt) (t:TS):Prop :=
 ∀ (pins:List (Addr×Obj)) (s:Shared) (σ:St) (H:Hp) (D:Ends),Inv X pins σ H s->t D σ H->wpAny (model X.prog X.w) X.A (exec st X.env) (SP X pins D) X.xe s
def PSs (X:Cx) (st:List Stmt) (t:TS):Prop :=
 ∀ (pins:List (Addr×Obj)) (s:Shared) (σ:St) (H:Hp) (D:Ends),Inv X pins σ H s->t D σ H->wpAny (model X.prog X.w) X.A (execs st X.env) (SP X pins D) X.xe s
theorem thn {α:Type} {t:Sem α} {Q Q':α->Shared->Prop} {M:Model} {A:Around} {E:Value->Shared->Prop} {s:Shared} (h:wpAny M A t Q E s) (hQ:∀ a s,Q a s->Q' a s):wpAny M A t Q' E s:=wpAny_mono h hQ fun _ _ x=>x
section
variable {X:Cx}
def tVar (i:Nat):TE:=fun σ H Q=>∃ v,σ[i]?=some (some v) /\ Q v H
def tC (v:V):TE:=fun _ H Q=>Q v H
theorem pe_var {i:Nat} {x:Str} {pos:Pos} (hN:X.N[i]?=some x) (hv:Vis X.env.scope x) (hd:(x == ("__debug__":Str))=false:=by decide) (hcd:(x == ("__classdict__":Str))=false:=by decide):PE X (.Name x pos) (tVar i):=by
 intro pins s σ H Q I h
 obtain ⟨v,e,h⟩:=h
 obtain ⟨m,hn,hl⟩:=I.loc
 obtain ⟨u,r,l⟩:=hl i x v hN e hv
 have fin:EP X pins σ Q u s:=⟨v,H,I,r,h⟩
 rcases l with ⟨hk,hm⟩ | ⟨hk,c,hc,hcell⟩
 .exact wpAny_Name (wpAny_loadName_local I.ok.kind hk hn hm fin) hd
 .rcases hk with hk | hk
  .exact wpAny_Name (wpAny_loadName_cell I.ok.kind hk hc hcell fin) hd
  .exact wpAny_Name (wpAny_loadName_free I.ok.kind hk hc hcell fin hcd) hd
theorem ZAG {i j pos}:PE X (.Constant (.int i) j pos) (tC (.int i)):=fun _ _ _ H _ I h=>wpAny_Constant_int ⟨.int i,H,I.tok _,⟨_,rfl⟩,h⟩
theorem ZCl {b j pos}:PE X (.Constant (.bool b) j pos) (tC (.bl b)):=fun _ _ _ H _ I h=>Constant_bool ⟨.bl b,H,I,rfl,h⟩
theorem ZCJ {j pos}:PE X (.Constant .none j pos) (tC .non):=fun _ _ _ H _ I h=>Constant_none ⟨.non,H,I,rfl,h⟩
theorem ZFU {x j pos}:PE X (.Constant (.str x) j pos) (tC (.str x)):=fun _ _ _ H _ I h=>Calls.Constant_str ⟨.str x,H,I.tok _,⟨_,rfl⟩,h⟩
def Gl (X:Cx) (x:Str):Prop:=X.env.kindOf x=some .globalImplicit
theorem ZED {E:Value->Shared->Prop} {pins:List (Addr×Obj)} {s:Shared} {σ:St} {H:Hp} {x:Str} {u:Value} {pos:Pos} {Q:Value->Shared->Prop} (I:Inv X pins σ H s) (hg:Gl X x) (hm:X.mg x=some u) (h:Q u s)
  (hd:(x == ("__debug__":Str))=false:=by decide):wpAny (model X.prog X.w) X.A (eval (.Name x pos) X.env) Q E s :=
 Calls.Name_function_global I.ok.kind hg (Calls.loadGlobal_global (by rw [I.ok.glob];exact I.mod.glob.keeps I.bk) hm h) hd
theorem ZDd {E:Value->Shared->Prop} {pins:List (Addr×Obj)} {s:Shared} {σ:St} {H:Hp} {x:Str} {u:Value} {pos:Pos} {Q:Value->Shared->Prop} (I:Inv X pins σ H s) (hg:Gl X x) (hm:X.mg x=none) (hv:bootBuiltins x=some u) (h:Q u s)
  (hn:x≠"__name__":=by decide) (hd:(x == ("__debug__":Str))=false:=by decide):wpAny (model X.prog X.w) X.A (eval (.Name x pos) X.env) Q E s:=by
 obtain ⟨mb,h1,h2⟩:=I.mod.blt
 exact Calls.Name_function_global I.ok.kind hg (Calls.loadGlobal_builtin (by rw [I.ok.glob];exact I.mod.glob.keeps I.bk) hm (by rw [I.ok.blt];exact h1.keeps I.bk) ((h2 x hn).trans hv) h) hd
theorem pe_glob {x:Str} {v:V} {u:Value} {pos:Pos} (hg:Gl X x) (hm:X.mg x=some u) (r:RelV v u) (hd:(x == ("__debug__":Str))=false:=by decide):PE X (.Name x pos) (tC v) :=
 fun _ _ _ H _ I h=>ZED I hg hm ⟨v,H,I,r,h⟩ hd
theorem pe_bltn {x:Str} {v:V} {u:Value} {pos:Pos} (hg:Gl X x) (hm:X.mg x=none) (hv:bootBuiltins x=some u) (r:RelV v u) (hn:x≠"__name__":=by decide) (hd:(x == ("__debug__":Str))=false:=by decide):PE X (.Name x pos) (tC v) :=
 fun _ _ _ H _ I h=>ZDd I hg hm hv ⟨v,H,I,r,h⟩ hn hd
variable {a b:Expr} {ta tb:TE} {pos:Pos}
def PC (X:Cx) (op:CmpOp) (a b:Expr) (t:TE):Prop :=
 ∀ (pins:List (Addr×Obj)) (s:Shared) (σ:St) (H:Hp) (Q:VK),Inv X pins σ H s->t σ H Q ->
  wpAny (model X.prog X.w) X.A (eval a X.env) (fun v s₁=>wpAny (model X.prog X.w) X.A (eval b X.env) (fun u s₂=>wpAny (model X.prog X.w) X.A (compareOp op v u) (EP X pins σ Q) X.xe s₂) X.xe s₁) X.xe s
def tB (t:TE):TT:=fun σ H Q=>t σ H fun x H1=>∃ c,x=.bl c /\ Q c H1
theorem pe_cmp {op:CmpOp} {t:TE} (h:PC X op a b t) (h1:behindInMarks op b=false:=by first | exact nobehind _ (by decide) (by decide) | rfl):PE X (.Compare a [op] [b] pos) t:=fun pins s σ H Q I hw=>wpAny_Compare1 (h pins s σ H Q I hw) h1
theorem pt_cmp {op:CmpOp} {t:TE} (h:PC X op a b t) (h1:behindInMarks op b=false:=by first | exact nobehind _ (by decide) (by decide) | rfl):PT X (.Compare a [op] [b] pos) (tB t):=by
 intro pins s σ H Q I hw
 refine wpAny_isTrue_Compare1 (thn (h pins s σ H _ I hw) fun v s1 h1=>thn h1 fun u s2 h2=>thn h2 fun c s3 ⟨x,H1,I1,r1,q1⟩=>?_) h1
 obtain ⟨d,rfl,q⟩:=q1
 cases r1
 exact wpAny_truthy_bool ⟨H1,I1,q⟩
theorem ZBZ {e:Expr} {t:TE} (h:PE X e t) (he:∀ whole,isTrue e X.env whole=(do let v <- whole;standAt e.pos;holding [v] (truthy v)):=by intro _;rfl):PT X e (tB t):=by
 intro pins s σ H Q I hw
 refine isTrue_plain (thn (h pins s σ H _ I hw) fun v s1 ⟨x,H1,I1,r1,q1⟩=>?_) (he _)
 obtain ⟨d,rfl,q⟩:=q1
 cases r1
 exact wpAny_truthy_bool ⟨H1,I1,q⟩
variable {tA tB':TT} {rest:List Expr}
def tAnd (t u:TT):TT:=fun σ H Q=>t σ H fun c H1=>if c=true then u σ H1 Q else Q false H1
def tOr (t u:TT):TT:=fun σ H Q=>t σ H fun c H1=>if c=true then Q true H1 else u σ H1 Q
def tNot (t:TT):TT:=fun σ H Q=>t σ H fun c H1=>Q (!c) H1
theorem ZCR (ha:PT X a tA):PW X (.BoolOp .And [a] pos) tA:=by
 intro wh pins s σ H Q I h
 refine isTrue_and (thn (ha pins s σ H Q I h) fun c s1 e=>?_)
 cases c with
 | true=>exact isTrue_and_nil e
 | false=>exact e
theorem ZDp (ha:PT X a tA):PW X (.BoolOp .Or [a] pos) tA:=by
 intro wh pins s σ H Q I h
 refine isTrue_or (thn (ha pins s σ H Q I h) fun c s1 e=>?_)
 cases c with
 | false=>exact isTrue_or_nil e
 | true=>exact e
theorem ZDF (ha:PT X a tA) (hb:PW X (.BoolOp .And (b::rest) pos) tB'):PW X (.BoolOp .And (a::b::rest) pos) (tAnd tA tB'):=by
 intro wh pins s σ H Q I h
 refine isTrue_and (thn (ha pins s σ H _ I h) fun c s1 ⟨H1,I1,q1⟩=>?_)
 cases c with
 | true=>exact hb wh pins s1 σ H1 Q I1 q1
 | false=>exact ⟨H1,I1,q1⟩
theorem ZFA (ha:PT X a tA) (hb:PW X (.BoolOp .Or (b::rest) pos) tB'):PW X (.BoolOp .Or (a::b::rest) pos) (tOr tA tB'):=by
 intro wh pins s σ H Q I h
 refine isTrue_or (thn (ha pins s σ H _ I h) fun c s1 ⟨H1,I1,q1⟩=>?_)
 cases c with
 | true=>exact ⟨H1,I1,q1⟩
 | false=>exact hb wh pins s1 σ H1 Q I1 q1
theorem ZDG (ha:PT X a tA):PT X (.UnaryOp .Not a pos) (tNot tA):=by
 intro pins s σ H Q I h
 exact isTrue_not (ha pins s σ H (fun c H1=>Q (!c) H1) I h)
def ZFw (ta tb:TE):TE:=fun σ H Q=>ta σ H fun x H1=>∃ c,x=.bl c /\ if c=true then tb σ H1 Q else Q (.bl false) H1
def tOrV (ta tb:TE):TE:=fun σ H Q=>ta σ H fun x H1=>∃ c,x=.bl c /\ if c=true then Q (.bl true) H1 else tb σ H1 Q
def ZFt (ta:TE):TE:=fun σ H Q=>ta σ H fun x H1=>∃ c,x=.bl c /\ Q (.bl (!c)) H1
theorem ZFV {op} {t:TE} (h:PE X a t):PE X (.BoolOp op [a] pos) t:=fun pins s σ H Q I hw=>BoolOp_one (h pins s σ H Q I hw)
theorem pe_and (ha:PE X a ta) (hb:PE X (.BoolOp .And (b::rest) pos) tb):PE X (.BoolOp .And (a::b::rest) pos) (ZFw ta tb):=by
 intro pins s σ H Q I h
 refine BoolOp_and (thn (ha pins s σ H _ I h) fun v s1 ⟨x,H1,I1,r1,q1⟩=>?_)
 obtain ⟨c,rfl,q1⟩:=q1
 cases r1
 refine wpAny_truthy_bool ?_
 cases c with
 | true=>exact hb pins s1 σ H1 Q I1 q1
 | false=>exact ⟨.bl false,H1,I1,rfl,q1⟩
theorem pe_or (ha:PE X a ta) (hb:PE X (.BoolOp .Or (b::rest) pos) tb):PE X (.BoolOp .Or (a::b::rest) pos) (tOrV ta tb):=by
 intro pins s σ H Q I h
 refine BoolOp_or (thn (ha pins s σ H _ I h) fun v s1 ⟨x,H1,I1,r1,q1⟩=>?_)
 obtain ⟨c,rfl,q1⟩:=q1
 cases r1
 refine wpAny_truthy_bool ?_
 cases c with
 | false=>exact hb pins s1 σ H1 Q I1 q1
 | true=>exact ⟨.bl true,H1,I1,rfl,q1⟩
theorem pe_not (ha:PE X a ta):PE X (.UnaryOp .Not a pos) (ZFt ta):=by
 intro pins s σ H Q I h
 refine UnaryOp_ (thn (ha pins s σ H _ I h) fun v s1 ⟨x,H1,I1,r1,q1⟩=>?_)
 obtain ⟨c,rfl,q1⟩:=q1
 cases r1
 exact not_of (wpAny_truthy_bool ⟨.bl (!c),H1,I1,rfl,q1⟩)
def tIf (t:TT) (ta tb:TE):TE:=fun σ H Q=>t σ H fun c H1=>if c=true then ta σ H1 Q else tb σ H1 Q
theorem ZBe {c:Expr} (hc:PT X c tA) (ha:PE X a ta) (hb:PE X b tb):PE X (.IfExp c a b pos) (tIf tA ta tb):=by
 intro pins s σ H Q I h
 refine wpAny_IfExp (thn (hc pins s σ H _ I h) fun d s1 ⟨H1,I1,q1⟩=>?_)
 cases d with
 | true=>exact ha pins s1 σ H1 Q I1 q1
 | false=>exact hb pins s1 σ H1 Q I1 q1
end
def SqL (K:W.Frag) (H:Hp) (a:Addr) (xs:List V):Prop :=
 Rd H a (.lst xs) ∨
  ∃ (o:Obj) (its:Array Value) (n:Nat),K.lookup a=some o /\ o.cls=.type "list" /\ o.dict=none /\ o.data=.seq its n /\ its.size <= sizeLine /\ Vals xs its.toList
def SqT (K:W.Frag) (H:Hp) (a:Addr) (xs:List V):Prop :=
 Rd H a (.tup xs) ∨
  ∃ (o:Obj) (its:Array Value) (n:Nat),K.lookup a=some o /\ o.cls=.type "tuple" /\ o.data=.seq its n /\ its.size <= sizeLine /\ Vals xs its.toList
def absV:Value->Option V
 | .none=>some .non
 | .bool b=>some (.bl b)
 | .int i _=>some (.int i)
 | .str x _=>some (.str x)
 | .bytes b _=>some (.byt b)
 | .float b _=>some (.flt b)
 | .ref a=>some (.ref a)
 | .type n=>some (.ty n)
 | _=>none
theorem RelV.abs {x:V} {u:Value} (r:RelV x u):absV u=some x:=by
 cases x with
 | non=>cases r;rfl
 | bl _=>cases r;rfl
 | int _=>obtain ⟨t,rfl⟩:=r;rfl
 | str _=>obtain ⟨t,rfl⟩:=r;rfl
 | byt _=>obtain ⟨t,rfl⟩:=r;rfl
 | flt _=>obtain ⟨t,rfl⟩:=r;rfl
 | ref _=>cases r;rfl
 | ty _=>cases r;rfl
theorem RelV.inj {x y:V} {u:Value} (r:RelV x u) (q:RelV y u):x=y:=Option.some.inj (r.abs.symm.trans q.abs)
theorem Vals.inj:∀ {xs ys:List V} {us:List Value},Vals xs us->Vals ys us->xs=ys
 | _,_,_,.nil,.nil=>rfl
 | _,_,_,.cons r t,.cons r' t'=>by rw [r.inj r',Vals.inj t t']
section
variable {X:Cx} {pins:List (Addr×Obj)} {σ:St} {H:Hp} {s:Shared} {a:Addr} {xs ys:List V}
theorem SqL.of {K:W.Frag} (h:H a=some (.lst xs)):SqL K H a xs:=.inl (.inl h)
theorem SqT.of {K:W.Frag} (h:H a=some (.tup xs)):SqT K H a xs:=.inl (.inl h)
theorem Inv.list (I:Inv X pins σ H s) (h:SqL X.K H a xs):∃ its:List Value,Vals xs its /\ PlainL s.heap a its.toArray /\ xs.length <= sizeLine:=by
 rcases h with h | ⟨o,its,n,hk,hc,hd,hs,hz,r⟩
 .obtain ⟨z,its,n,r,e⟩:=h.ok I.hok
  exact ⟨its,r,⟨_,n,e,rfl,rfl,rfl⟩,z⟩
 .refine ⟨its.toList,r,⟨o,n,I.kIn a o hk,hc,hd,by simpa using hs⟩,?_⟩
  have e:=r.length
  simp only [yAS] at e
  omega
theorem Inv.tuple (I:Inv X pins σ H s) (h:SqT X.K H a xs):∃ its:List Value,Vals xs its /\ IsTup s.heap a its.toArray /\ xs.length <= sizeLine:=by
 rcases h with h | ⟨o,its,n,hk,hc,hs,hz,r⟩
 .obtain ⟨z,its,r,p⟩:=h.ok I.hok
  exact ⟨its,r,p,z⟩
 .refine ⟨its.toList,r,⟨o,I.kIn a o hk,hc,n,by simpa using hs⟩,?_⟩
  have e:=r.length
  simp only [yAS] at e
  omega
theorem Inv.list_inj (I:Inv X pins σ H s) (h:SqL X.K H a xs) (h':SqL X.K H a ys):xs=ys:=by
 obtain ⟨its,r,⟨o,n,e,_,_,d⟩,_⟩:=I.list h
 obtain ⟨its',r',⟨o',n',e',_,_,d'⟩,_⟩:=I.list h'
 rw [e] at e';cases e'
 rw [d] at d'
 injection d' with d1 _
 have:its=its':=by simpa using congrArg Array.toList d1
 subst this
 exact r.inj r'
end
abbrev Cx.wish (X:Cx) (E:Value->Shared->Prop):Cx:={ X with xe:=E }
abbrev Cx.nox (X:Cx):Cx:=X.wish fun _ _=>False
theorem Cx.Ok.wish {X:Cx} (ok:X.Ok) (E:Value->Shared->Prop):(X.wish E).Ok :=
 ⟨ok.mod,ok.kind,ok.glob,ok.blt,ok.above,ok.inj,ok.has,ok.cab,ok.hd,ok.frames,ok.stk,ok.exf,ok.bs,ok.bsz,ok.noex,ok.exfs,ok.funs,ok.frf⟩
theorem Cx.Ok.unwish {X:Cx} {E:Value->Shared->Prop} (ok:(X.wish E).Ok):X.Ok :=
 ⟨ok.mod,ok.kind,ok.glob,ok.blt,ok.above,ok.inj,ok.has,ok.cab,ok.hd,ok.frames,ok.stk,ok.exf,ok.bs,ok.bsz,ok.noex,ok.exfs,ok.funs,ok.frf⟩
section
variable {X:Cx} {pins:List (Addr×Obj)} {σ:St} {H:Hp} {s:Shared} {E:Value->Shared->Prop}
theorem Inv.wish (I:Inv X pins σ H s) (E:Value->Shared->Prop):Inv (X.wish E) pins σ H s:=⟨I.ok.wish E,I.os,I.bare,I.base,I.loc,I.cell,I.free,I.freeC,I.pin,I.hok,I.len⟩
theorem Inv.unwish (I:Inv (X.wish E) pins σ H s):Inv X pins σ H s:=⟨I.ok.unwish,I.os,I.bare,I.base,I.loc,I.cell,I.free,I.freeC,I.pin,I.hok,I.len⟩
theorem SP.unwish {D:Ends} {f:Flow} {s':Shared} (h:SP (X.wish E) pins D f s'):SP X pins D f s':=by
 cases f with
 | next=>obtain ⟨σ',H',I,q⟩:=h;exact ⟨σ',H',I.unwish,q⟩
 | brk=>obtain ⟨σ',H',I,q⟩:=h;exact ⟨σ',H',I.unwish,q⟩
 | cont=>obtain ⟨σ',H',I,q⟩:=h;exact ⟨σ',H',I.unwish,q⟩
 | ret u=>obtain ⟨v,σ',H',I,r,q⟩:=h;exact ⟨v,σ',H',I.unwish,r,q⟩
theorem PSs.nox {st:List Stmt} {t:TS} (h:PSs X.nox st t):PSs X st t:=fun pins s σ H D I hw=>
 wpAny_mono (h pins s σ H D (I.wish _) hw) (fun _ _ q=>q.unwish) fun _ _ z=>False.elim z
end
section
variable {X:Cx} {st:Stmt} {rest:List Stmt} {t u:TS} {e:Expr} {te:TE} {pos:Pos}
def ZFu:TS:=fun D σ H=>D.nx σ H
def tSeq (t u:TS):TS:=fun D σ H=>t { D with nx:=u D } σ H
theorem ZAb:PSs X [] ZFu:=fun _ _ σ H _ I h=>wpAny_execs_nil ⟨σ,H,I,h⟩
theorem ZAB (h1:PS X st t) (h2:PSs X rest u):PSs X (st::rest) (tSeq t u):=by
 intro pins s σ H D I h
 refine wpAny_execs_cons (thn (h1 pins s σ H { D with nx:=u D } I h) fun f s1 q=>?_)
 cases f with
 | next=>
  obtain ⟨σ',H',I',q⟩:=q
  exact h2 pins s1 σ' H' D I' q
 | ret v=>exact q
 | brk=>exact q
 | cont=>exact q
theorem ZAH (h1:PS X st t):PSs X [st] t:=by
 intro pins s σ H D I h
 refine wpAny_execs_cons (thn (h1 pins s σ H D I h) fun f s1 q=>?_)
 cases f with
 | next=>exact wpAny_execs_nil q
 | ret v=>exact q
 | brk=>exact q
 | cont=>exact q
def tBreak:TS:=fun D σ H=>D.bk σ H
theorem Inv.quiet {pins:List (Addr×Obj)} {σ:St} {H:Hp} {s:Shared} (I:Inv X pins σ H s):interactive X.env=false:=by simp [interactive,I.ok.kind]
def ZFv (te:TE):TS:=fun D σ H=>te σ H fun _ H1=>D.nx σ H1
theorem ZAk (he:PE X e te) (hs:swapsWith e none pos.line X.env=pure false:=by rfl):PS X (.Expr e pos) (ZFv te):=by
 intro pins s σ H D I h
 exact wpAny_Expr_any (thn (he pins s σ H _ I h) fun v s1 ⟨x,H1,I1,r1,q1⟩=>⟨σ,H1,I1,q1⟩) I.quiet hs
def tRet (te:TE):TS:=fun D σ H=>te σ H D.rt
theorem ZAV (he:PE X e te):PS X (.Return (some e) pos) (tRet te):=by
 intro pins s σ H D I h
 exact wpAny_Return_some (thn (he pins s σ H _ I h) fun v s1 ⟨x,H1,I1,r1,q1⟩=>⟨x,σ,H1,I1,r1,q1⟩)
def tRetN:TS:=fun D _ H=>D.rt .non H
def tIfS (c:TT) (t u:TS):TS:=fun D σ H=>c σ H fun b H1=>if b=true then t D σ H1 else u D σ H1
theorem ZBB {c:Expr} {a b:List Stmt} {tc:TT} (hc:PT X c tc) (ha:PSs X a t) (hb:PSs X b u):PS X (.If c a b pos) (tIfS tc t u):=by
 intro pins s σ H D I h
 refine wpAny_If (thn (hc pins s σ H _ I h) fun d s1 ⟨H1,I1,q1⟩=>?_)
 cases d with
 | true=>exact ha pins s1 σ H1 D I1 q1
 | false=>exact hb pins s1 σ H1 D I1 q1
def ZFH:TS:=fun _ _ _=>False
theorem ps_never:PS X st ZFH:=fun _ _ _ _ _ _ h=>h.elim
end
abbrev TG:=V->St->Hp->(St->Hp->Prop)->Prop
abbrev TGs:=List V->St->Hp->(St->Hp->Prop)->Prop
def PG (X:Cx) (target:Expr) (t:TG):Prop :=
 ∀ (pins:List (Addr×Obj)) (s:Shared) (σ:St) (H:Hp) (v:V) (u:Value) (Q:St->Hp->Prop),Inv X pins σ H s->RelV v u->t v σ H Q ->
  wpAny (model X.prog X.w) X.A (assign target X.env u) (fun _ s'=>∃ σ' H',Inv X pins σ' H' s' /\ Q σ' H') X.xe s
def PGs (X:Cx) (ts:List Expr) (t:TGs):Prop :=
 ∀ (pins:List (Addr×Obj)) (s:Shared) (σ:St) (H:Hp) (vs:List V) (us:List Value) (Q:St->Hp->Prop),Inv X pins σ H s->Vals vs us->t vs σ H Q ->
  wpAny (model X.prog X.w) X.A (assignInOrder ((assignEach ts X.env).map (·.2)) us) (fun _ s'=>∃ σ' H',Inv X pins σ' H' s' /\ Q σ' H') X.xe s
abbrev TSet:=V->V->V->Hp->(Hp->Prop)->Prop
def PSet (X:Cx) (t:TSet):Prop :=
 ∀ (pins:List (Addr×Obj)) (s:Shared) (σ:St) (H:Hp) (o i v:V) (ov iv u:Value) (Q:Hp->Prop),Inv X pins σ H s->RelV o ov->RelV i iv->RelV v u->t o i v H Q ->
  wpAny (model X.prog X.w) X.A (setItem ov iv u) (fun _ s'=>∃ H',Inv X pins σ H' s' /\ Q H') X.xe s
abbrev TIp:=V->V->Hp->VK->Prop
def PIp (X:Cx) (op:Operator) (t:TIp):Prop :=
 ∀ (pins:List (Addr×Obj)) (s:Shared) (σ:St) (H:Hp) (x y:V) (v u:Value) (Q:VK),Inv X pins σ H s->RelV x v->RelV y u->t x y H Q ->
  wpAny (model X.prog X.w) X.A (inplaceOp op v u) (EP X pins σ Q) X.xe s
section
variable {X:Cx} {pos:Pos}
def ZFe (i:Nat):TG:=fun v σ H Q=>Q (σ.set i (some v)) H
theorem ZAp {i:Nat} {x:Str} (hN:X.N.Nodup) (hi:X.N[i]?=some x) (hx:Loc X.env.scope x) (hf:X.fn x=true∨X.env.scope.names.lookup x=some .local:=by first | exact .inl rfl | exact .inr rfl | assumption):PG X (.Name x pos) (ZFe i):=by
 intro pins s σ H v u Q I r h
 exact wpAny_assign_Name (ZDK I hN hi hx r (fun s' I'=>⟨_,H,I',h⟩) hf)
def gNil:TGs:=fun vs σ H Q=>vs=[] /\ Q σ H
def ZGA (t:TG) (u:TGs):TGs:=fun vs σ H Q=>∃ v r,vs=v::r /\ t v σ H fun σ' H'=>u r σ' H' Q
theorem ZEB:PGs X [] gNil:=by
 intro pins s σ H vs us Q I r h
 obtain ⟨e,h⟩:=h
 subst e
 cases r
 exact assignInOrder_nil ⟨σ,H,I,h⟩
theorem ZBX {e:Expr} {es:List Expr} {t:TG} {u:TGs} (h1:PG X e t) (h2:PGs X es u)
  (hs:(assignEach (e::es) X.env).map (·.2)=assign e X.env::(assignEach es X.env).map (·.2):=by rfl):PGs X (e::es) (ZGA t u):=by
 intro pins s σ H vs us Q I r h
 obtain ⟨v,vr,e1,h⟩:=h
 subst e1
 cases r with
 | cons r rr=>
  rw [hs]
  refine assignInOrder_cons (thn (h1 pins s σ H _ _ _ I r h) fun _ s1 ⟨σ1,H1,I1,q1⟩=>?_)
  exact h2 pins s1 σ1 H1 _ _ Q I1 rr q1
def gTup (K:W.Frag) (n:Nat) (t:TGs):TG:=fun v σ H Q=>∃ a xs,v=.ref a /\ SqT K H a xs /\ xs.length=n /\ t xs σ H Q
theorem pg_tup {es:List Expr} {k:Nat} {t:TGs} {n:Nat} (hc:X.calm=true) (h:PGs X es t)
  (hn:(assignEach es X.env).length=n:=by rfl) (hst:(assignEach es X.env).findIdx? (·.1)=none:=by rfl):PG X (.Tuple es k pos) (gTup X.K n t):=by
 intro pins s σ H v u Q I r hw
 obtain ⟨a,xs,e1,hq,hl,hw⟩:=hw
 subst e1
 cases r
 obtain ⟨its,rv,ht,hz⟩:=I.tuple hq
 refine assign_Tuple_tuple (I.ok.hd hc) ht (by simp [hn,<- hl,rv.length]) hst fun h' hx=>?_
 have I1:Inv X pins σ H { s with heap:=h' }:=I.kept (t':=s.toks) fun b o e=>hx b o (yAO (Heap.lt_size e)) e
 exact h pins _ σ H xs _ Q I1 (by simpa using rv) hw
def gSub (to ti:TE) (t:TSet):TG:=fun v σ H Q=>to σ H fun o H1=>ti σ H1 fun i H2=>t o i v H2 fun H3=>Q σ H3
theorem ZFT {o i:Expr} {to ti:TE} {t:TSet} (ho:PE X o to) (hi:PE X i ti) (hs:PSet X t)
  (ha:∀ v,assign (.Subscript o i pos) X.env v=(do
   let ov <- holding [v] (eval o X.env)
   let iv <- holding [v,ov] (eval i X.env)
   standAt pos
   holding [v,ov,iv] (setItem ov iv v)
   release [v,ov,iv] []):=by intro _;rfl):PG X (.Subscript o i pos) (gSub to ti t):=by
 intro pins s σ H v u Q I r h
 rw [ha]
 refine wpAny_bind (wpAny_holding (thn (ho pins s σ H _ I h) fun ov s1 ⟨x,H1,I1,r1,q1⟩=>?_))
 refine wpAny_bind (wpAny_holding (thn (hi pins s1 σ H1 _ I1 q1) fun iv s2 ⟨y,H2,I2,r2,q2⟩=>?_))
 refine wpAny_bind (wpAny_standAt (wpAny_bind (wpAny_holding (thn (hs pins s2 σ H2 x y v ov iv u _ I2 r1 r2 r q2) fun _ s3 ⟨H3,I3,q3⟩=>?_))))
 exact wpAny_release ⟨σ,H3,I3,q3⟩
def tAsg (te:TE) (g:TG):TS:=fun D σ H=>te σ H fun x H1=>g x σ H1 D.nx
theorem ZFS {tg e:Expr} {te:TE} {g:TG} (he:PE X e te) (hg:PG X tg g) (hs:swapsWithSole [tg] e pos.line X.env=pure false:=by rfl) (hw:swappedStores [tg] e X.env=pure none:=by rfl)
  (h1:(assignEach [tg] X.env).map (·.2)=[assign tg X.env]:=by rfl):PS X (.Assign [tg] e pos) (tAsg te g):=by
 intro pins s σ H D I h
 refine wpAny_Assign_stores (thn (he pins s σ H _ I h) fun v s1 ⟨x,H1,I1,r1,q1⟩=>?_) hs hw
 rw [h1]
 exact thn (hg pins s1 σ H1 x v _ I1 r1 q1) fun _ s2 q=>q
theorem ZAM {i:Nat} {x:Str} {e:Expr} {te:TE} {pos':Pos} (hN:X.N.Nodup) (hi:X.N[i]?=some x) (hx:Loc X.env.scope x) (he:PE X e te) (hs:swapsWith e (some (.Name x pos')) pos.line X.env=pure false:=by rfl) (hf:X.fn x=true∨X.env.scope.names.lookup x=some .local:=by first | exact .inl rfl | exact .inr rfl | assumption) :
  PS X (.Assign [.Name x pos'] e pos) (tAsg te (ZFe i)):=by
 intro pins s σ H D I h
 refine wpAny_Assign_Name (thn (he pins s σ H _ I h) fun v s1 ⟨y,H1,I1,r1,q1⟩=>?_) hs
 exact ZDK I1 hN hi hx r1 (fun s2 I2=>⟨_,H1,I2,q1⟩) hf
def tPar (i j:Nat) (ta:TA):TS:=fun D σ H=>ta σ H fun vs H1=>∃ v w,vs=[v,w] /\ D.nx ((σ.set i (some v)).set j (some w)) H1
def tAug (i:Nat) (te:TE) (ti:TIp):TS:=fun D σ H=>∃ x,σ[i]?=some (some x) /\ te σ H fun y H1=>ti x y H1 fun z H2=>D.nx (σ.set i (some z)) H2
theorem ZEy {i:Nat} {x:Str} {e:Expr} {te:TE} {op:Operator} {ti:TIp} {pos':Pos} (hN:X.N.Nodup) (hi:X.N[i]?=some x) (hx:Loc X.env.scope x) (he:PE X e te) (ho:PIp X op ti) (hf:X.fn x=true∨X.env.scope.names.lookup x=some .local:=by first | exact .inl rfl | exact .inr rfl | assumption) :
  PS X (.AugAssign (.Name x pos') op e pos) (tAug i te ti):=by
 intro pins s σ H D I h
 obtain ⟨v,e1,h⟩:=h
 obtain ⟨m,hn,hl⟩:=I.loc
 have vis:Vis X.env.scope x:=by rcases hx with k | k;exact .inl k;exact .inr (.inl k)
 obtain ⟨u,r,l⟩:=hl i x v hi e1 vis
 refine wpAny_AugAssign_Name ?_
 have go:wpAny (model X.prog X.w) X.A (eval e X.env) (fun w s₂=>wpAny (model X.prog X.w) X.A (inplaceOp op u w) (fun r s₃=>wpAny (model X.prog X.w) X.A (storeName X.env x r) (fun _=>SP X pins D .next) X.xe s₃) X.xe s₂) X.xe s:=by
  refine thn (he pins s σ H _ I h) fun w s1 ⟨y,H1,I1,r1,q1⟩=>?_
  refine thn (ho pins s1 σ H1 v y u w _ I1 r r1 q1) fun z s2 ⟨zv,H2,I2,r2,q2⟩=>?_
  exact ZDK I2 hN hi hx r2 (fun s3 I3=>⟨_,H2,I3,q2⟩) hf
 rcases l with ⟨hk,hm⟩ | ⟨hk,c,hc,hcell⟩
 .exact wpAny_loadName_local I.ok.kind hk hn hm go
 .rcases hk with hk | hk
  .exact wpAny_loadName_cell I.ok.kind hk hc hcell go
  .rcases hx with k | k
   .have:X.env.scope.names.lookup x=some .free:=hk
    rw [k] at this;cases this
   .have:X.env.scope.names.lookup x=some .free:=hk
    rw [k] at this;cases this
def ipI (f:Int->Int->Int):TIp:=fun x y H Q=>∃ i j,x=.int i /\ y=.int j /\ Q (.int (f i j)) H
theorem ZE5:PIp X .Add (ipI fun i j=>i+j):=by
 intro pins s σ H x y v u Q I r1 r2 h
 obtain ⟨i,j,e1,e2,q⟩:=h
 subst e1;subst e2
 obtain ⟨t,rfl⟩:=r1
 obtain ⟨t',rfl⟩:=r2
 exact iadd_int ⟨.int _,H,I.tok _,⟨_,rfl⟩,q⟩
end
section
variable {X:Cx} {pos:Pos}
def tWhile (c:TT) (tb:TS):TS:=fun D σ H=>∃ W:Nat->St->Hp->Prop,(∃ m,W m σ H) /\ ∀ m σ H,W m σ H ->
 c σ H fun b H1=>if b=true then ∃ N:St->Hp->Prop,(∀ σ' H',N σ' H'->∃ m',m' < m /\ W m' σ' H') /\ tb { D with nx:=N,ct:=N,bk:=D.nx } σ H1 else D.nx σ H1
theorem ZBs {c:Expr} {body:List Stmt} {tc:TT} {tb:TS} (hp:PassesOwn (model X.prog X.w) X.A X.env X.xe) (hc:PT X c tc) (hb:PSs X body tb):PS X (.While c body [] pos) (tWhile tc tb):=by
 intro pins s σ H D I h
 obtain ⟨W,⟨m0,w0⟩,turn⟩:=h
 refine wpAny_While (codeAny_whileLoop (fun n s'=>∃ σ' H',Inv X pins σ' H' s' /\ W n σ' H') ?_ m0 ⟨σ,H,I,w0⟩)
 rintro n s1 ⟨σ1,H1,I1,w1⟩
 refine wpAny_passesOwn hp (thn (hc pins s1 σ1 H1 _ I1 (turn n σ1 H1 w1)) fun b s2 ⟨H2,I2,q2⟩=>?_)
 cases b with
 | true=>
  obtain ⟨N,hN,q2⟩:=q2
  rw [if_pos rfl]
  refine wpAny_passesOwn hp (thn (hb pins s2 σ1 H2 _ I2 q2) fun f s3 q3=>?_)
  cases f with
  | next=>
   obtain ⟨σ3,H3,I3,n3⟩:=q3
   obtain ⟨m',hm,w3⟩:=hN σ3 H3 n3
   exact ⟨m',hm,σ3,H3,I3,w3⟩
  | cont=>
   obtain ⟨σ3,H3,I3,n3⟩:=q3
   obtain ⟨m',hm,w3⟩:=hN σ3 H3 n3
   exact ⟨m',hm,σ3,H3,I3,w3⟩
  | brk=>exact q3
  | ret v=>exact q3
 | false=>
  rw [if_neg yBE]
  exact wpAny_execs_nil ⟨σ1,H2,I2,q2⟩
end
structure It where
 go:Nat->Hp->Prop
 yld:Nat->Hp->V->Hp->Prop
 stop:Nat->Hp->Prop
def FpOk (X:Cx) (pins:List (Addr×Obj)) (H:Hp) (b:Addr):Prop :=
 H b=none /\ b≠X.env.locals /\ b∉X.fs /\ (b∈X.ex∨X.s₀.heap.objs.size <= b) /\ (∀ x c,X.env.cells.lookup x=some c->c≠b) /\ ∀ p∈X.pn++pins,p.1≠b
theorem Inv.fpOk {X:Cx} {pins:List (Addr×Obj)} {σ:St} {H H':Hp} {s:Shared} {b:Addr} (I:Inv X pins σ H s) (hb:s.heap.objs.size <= b) (hn:H' b=none):FpOk X pins H' b:=by
 refine ⟨hn,Nat.ne_of_gt (yBA I.lt hb),I.nofs hb,.inr (yAP I.sz hb),fun x c e z=>?_,fun p hp z=>?_⟩
 .obtain ⟨v,q⟩:=I.cell x c e
  exact absurd (yBA q.lt (by rw [z];exact hb)) (yBU _)
 .exact absurd (yBA (Heap.lt_size (I.pin p hp).1) (by rw [z];exact hb)) (yBU _)
structure Turn (P:Program) (w:World) (K:W.Frag) (tg:Expr) (J:It) (fp:List Addr) (it:Addr) (tn:Nat->Heap->Prop):Prop where
 mem:it∈fp
 obj:∀ i h,tn i h->∀ b∈fp,∃ o,h.get? b=some o /\ ∀ v,o.data≠.cell v
 keep:∀ i h h',tn i h->(∀ b∈fp,∀ o,h.get? b=some o->h'.get? b=some o)->tn i h'
 item:∀ (X:Cx),X.prog=P->X.w=w->X.K=K->X.calm=true->∀ (i:Nat) (pins:List (Addr×Obj)) (s:Shared) (σ:St) (H:Hp) (E:Value->Shared->Prop),Inv X pins σ H s->(∀ b∈fp,FpOk X pins H b)->tn i s.heap->J.go i H ->
  wpAny (model P w) X.A (pyNext (.ref it)) (fun r s1=>∃ u,r=some u /\
   wpAny (model P w) X.A (letOwnedTupleGo tg (.ref it) u) (fun _ s2=>∃ x H',Inv X pins σ H' s2 /\ RelV x u /\ J.yld i H x H' /\ tn (i+1) s2.heap /\ ∀ b∈fp,H' b=none) E s1) E s
 done:∀ (X:Cx),X.prog=P->X.w=w->X.K=K->X.calm=true->∀ (i:Nat) (pins:List (Addr×Obj)) (s:Shared) (σ:St) (H:Hp) (E:Value->Shared->Prop),Inv X pins σ H s->(∀ b∈fp,FpOk X pins H b)->tn i s.heap->J.stop i H ->
  wpAny (model P w) X.A (pyNext (.ref it)) (fun r s1=>r=none /\ Inv X pins σ H s1) E s
 self:∀ (A:Around) (i:Nat) (s:Shared) (Q:Value->Shared->Prop) (E:Value->Shared->Prop),tn i s.heap->Q (.ref it) s->wpAny (model P w) A (pyIter (.ref it)) Q E s
abbrev TI:=St->Hp->(It->Hp->Prop)->Prop
def PIE (X:Cx) (pins:List (Addr×Obj)) (σ:St) (tg:Expr) (R:It->Hp->Prop) (itv:Value) (s2:Shared):Prop :=
 ∃ (it:Addr) (fp:List Addr) (tn:Nat->Heap->Prop) (J:It) (H':Hp),itv=.ref it /\ Inv X pins σ H' s2 /\ Turn X.prog X.w X.K tg J fp it tn /\ tn 0 s2.heap /\ (∀ b∈fp,FpOk X pins H' b) /\ R J H'
def PI (X:Cx) (tg iter:Expr) (wi:TI):Prop :=
 ∀ (pins:List (Addr×Obj)) (s:Shared) (σ:St) (H:Hp) (R:It->Hp->Prop),Inv X pins σ H s->wi σ H R ->
  wpAny (model X.prog X.w) X.A (eval iter X.env) (fun v s1=>wpAny (model X.prog X.w) X.A (pyIter v) (PIE X pins σ tg R) X.xe s1) X.xe s
theorem go_of {M:Model} {A:Around} {E:Value->Shared->Prop} {s:Shared} {tg:Expr} {it:Addr} {u:Value} {o:Obj} {n:String} {vs:Array Value} {Q:Unit->Shared->Prop} (ho:s.heap.get? it=some o) (hc:o.cls=.type n) (hd:o.data=.fields vs)
  (hn:["enumerate","zip","dict_itemiterator","dict_reverseitemiterator","odict_iterator","itertools.zip_longest","itertools.pairwise"].contains n=false) (hQ:Q () s):wpAny M A (letOwnedTupleGo tg (.ref it) u) Q E s:=by
 unfold letOwnedTupleGo
 cases tg <;> first
  | exact wpAny_pure hQ
  | (cases u <;> first
    | exact wpAny_pure hQ
    | (refine wpAny_bind (wpAny_load ho ?_)
       rw [hc,hd]
       show wpAny M A (if (["enumerate","zip","dict_itemiterator","dict_reverseitemiterator","odict_iterator","itertools.zip_longest","itertools.pairwise"].contains n && vs[0]? == some (rawInt _))=true then _ else _) Q E s
       rw [if_neg (by intro h;rw [hn,Bool.false_and] at h;cases h)]
       exact wpAny_pure hQ))
def Itl (K:W.Frag) (a:Addr):It :=
 ⟨fun i H=>∃ xs x,SqL K H a xs /\ xs[i]?=some x,fun i H x H'=>H'=H /\ ∀ xs,SqL K H a xs->xs[i]?=some x,fun i H=>∃ xs,SqL K H a xs /\ xs.length <= i⟩
def Itr (lo:Int) (n:Nat):It:=⟨fun i _=>i < n,fun i H x H'=>H'=H /\ x=.int (lo+i),fun i _=>n <= i⟩
theorem turn_list {P:Program} {w:World} {K:W.Frag} {tg:Expr} (a it:Addr):Turn P w K tg (Itl K a) [it] it (fun i h=>h.IsListIter it a i) where
 mem:=by simp
 obj:=fun i h st b hb=>by
  have e:b=it:=by simpa using hb
  subst e
  obtain ⟨o,e,c,d⟩:=st
  exact ⟨o,e,fun v z=>by rw [d] at z;cases z⟩
 keep:=fun i h h' st k=>st.at fun o e=>k it (by simp) o e
 item:=by
  intro X hP hw hK hc i pins s σ H E I hf st hg
  subst hP hw hK
  obtain ⟨xs,x,hq,hx⟩:=hg
  obtain ⟨its,rv,p,hz⟩:=I.list hq
  obtain ⟨u,hu,ru⟩:=rv.get hx
  obtain ⟨f0,f1,f2,f3,f4,f5⟩:=hf it (by simp)
  refine wpAny_pyNext_list_item st p.isList (x:=u) (by simpa using hu) fun h' st' sb=>?_
  have I1:Inv X pins σ H { s with heap:=h' }:=I.turned (t':=s.toks) (fun b o hb e=>(sb.2 b hb).trans e) f0 f1 f3 f4 f5
  obtain ⟨o,e,c,d⟩:=id st'
  exact ⟨u,rfl,go_of (s:={ s with heap:=h' }) e c d (by decide) ⟨x,H,I1,ru,⟨rfl,fun ys hy=>by rw [I.list_inj hy hq];exact hx⟩,st',fun b hb=>(hf b hb).1⟩⟩
 done:=by
  intro X hP hw hK hc i pins s σ H E I hf st hg
  subst hP hw hK
  obtain ⟨xs,hq,hx⟩:=hg
  obtain ⟨its,rv,p,hz⟩:=I.list hq
  obtain ⟨f0,f1,f2,f3,f4,f5⟩:=hf it (by simp)
  have hl:=rv.length
  exact wpAny_pyNext_list_end (I.ok.hd hc) st p.isList (by simp;omega) fun h' eb=>⟨rfl,I.turned (t':=s.toks) (fun b o hb e=>eb b o hb e) f0 f1 f3 f4 f5⟩
 self:=fun _ _ _ _ _ st h=>wpAny_pyIter_listiter st h
theorem turn_range {P:Program} {w:World} {K:W.Frag} {tg:Expr} (it:Addr) (lo:Int) (n:Nat):Turn P w K tg (Itr lo n) [it] it (fun i h=>IsRangeIter h it (lo+(i:Nat) * 1) ((n:Int)-(i:Nat)) 1) where
 mem:=by simp
 obj:=fun i h st b hb=>by
  have e:b=it:=by simpa using hb
  subst e
  exact ⟨_,st,fun v z=>by
   have z':Data.fields _=Data.cell v:=z
   cases z'⟩
 keep:=fun i h h' st k=>k it (by simp) _ st
 item:=by
  intro X hP hw hK hc i pins s σ H E I hf st hg
  subst hP hw hK
  obtain ⟨f0,f1,f2,f3,f4,f5⟩:=hf it (by simp)
  have W:=Walks.range (prog:=X.prog) (w:=X.w) (I.ok.hd hc) it lo 1 n
  refine W.item i s _ _ hg st fun v h' tk hv st' kk=>?_
  obtain ⟨t,rfl⟩:=hv
  have I1:Inv X pins σ H { s with heap:=h',toks:=tk }:=I.turned (fun b o hb e=>kk b o (by simpa using hb) e) f0 f1 f3 f4 f5
  refine ⟨_,rfl,go_of (s:={ s with heap:=h',toks:=tk }) (n:="range_iterator") st' rfl rfl (by decide) ⟨.int (lo+i),H,I1,⟨t,?_⟩,⟨rfl,rfl⟩,st',fun b hb=>(hf b hb).1⟩⟩
  rw [Int.mul_one]
 done:=by
  intro X hP hw hK hc i pins s σ H E I hf st hg
  subst hP hw hK
  obtain ⟨f0,f1,f2,f3,f4,f5⟩:=hf it (by simp)
  exact wpAny_pyNext_range_end (I.ok.hd hc) st (by have:n <= i:=hg;omega) fun h' eb=>⟨rfl,I.turned (t':=s.toks) (fun b o hb e=>eb b o hb e) f0 f1 f3 f4 f5⟩
 self:=fun _ _ _ _ _ st h=>wpAny_pyIter_rangeiter st h
section
variable {X:Cx} {tg:Expr}
def ZF7 (K:W.Frag) (tl:TE):TI:=fun σ H R=>tl σ H fun x H1=>∃ a,x=.ref a /\ (∃ xs,SqL K H1 a xs) /\ R (Itl K a) H1
theorem ZCB {l:Expr} {tl:TE} (hl:PE X l tl):PI X tg l (ZF7 X.K tl):=by
 intro pins s σ H R I h
 refine thn (hl pins s σ H _ I h) fun v s1 ⟨x,H1,I1,r1,q1⟩=>?_
 obtain ⟨a,e,⟨xs,hq⟩,q⟩:=q1
 subst e
 cases r1
 obtain ⟨its,rv,p,hz⟩:=I1.list hq
 refine wpAny_pyIter_list p.isList ?_
 refine ⟨s1.heap.objs.size,[s1.heap.objs.size],_,_,H1,rfl,I1.kept (t':=s1.toks) fun b o e=>Heap.get?_push_of_some _ e,turn_list a _,⟨_,Heap.get?_push_size _ rfl,rfl,rfl⟩,fun b hb=>?_,q⟩
 have e:b=s1.heap.objs.size:=by simpa using hb
 subst e
 exact I1.fpOk (yAA _) (I1.hok.fresh (yAA _))
theorem range_it {pins:List (Addr×Obj)} {σ:St} {H:Hp} {s:Shared} {R:It->Hp->Prop} {E:Value->Shared->Prop} {lo hi:Int} {t u v:Tok} {tk:Nat} (I:Inv X pins σ H s) (h1:-(2 ^ 62) <= lo) (h2:lo < 2 ^ 62) (h3:-(2 ^ 62) <= hi) (h4:hi < 2 ^ 62)
  (q:R (Itr lo (hi-lo).toNat) H):wpAny (model X.prog X.w) X.A (pyIter (.ref s.heap.objs.size)) (PIE X pins σ tg R) E { s with heap:=s.heap.push { cls:=.type "range",data:=.fields #[.int lo t,.int hi u,.int 1 v] },toks:=tk }:=by
 refine wpAny_pyIter_range (IsRange.new ..) (small_one h1 h2 h3 h4) ?_
 have I1:Inv X pins σ H { s with heap:=s.heap.push { cls:=.type "range",data:=.fields #[.int lo t,.int hi u,.int 1 v] },toks:=tk }:=I.kept fun b o e=>Heap.get?_push_of_some _ e
 refine ⟨(s.heap.push { cls:=.type "range",data:=.fields #[.int lo t,.int hi u,.int 1 v] }).objs.size,[(s.heap.push { cls:=.type "range",data:=.fields #[.int lo t,.int hi u,.int 1 v] }).objs.size],_,_,H,rfl,
  I1.kept (t':=tk) fun b o e=>Heap.get?_push_of_some _ e,turn_range _ lo (hi-lo).toNat,?_,fun b hb=>?_,q⟩
 .have e1:lo+((0:Nat):Int) * 1=lo:=by simp
  have e2:(((hi-lo).toNat:Nat):Int)-((0:Nat):Int)=Builtin.Range.rangeSize lo hi 1:=by rw [rangeSize_one];split <;> omega
  show IsRangeIter _ _ (lo+((0:Nat):Int) * 1) ((((hi-lo).toNat:Nat):Int)-((0:Nat):Int)) 1
  rw [e1,e2]
  exact Heap.get?_push_size _ rfl
 .have e:b=(s.heap.push { cls:=.type "range",data:=.fields #[.int lo t,.int hi u,.int 1 v] }).objs.size:=by simpa using hb
  subst e
  exact I1.fpOk (yAA _) (I1.hok.fresh (yAA _))
def ZF6 (ta:TA):TI:=fun σ H R=>ta σ H fun vs H1=>∃ j:Int,vs=[.int j] /\ -(2 ^ 62) <= j /\ j < 2 ^ 62 /\ R (Itr 0 j.toNat) H1
def ZF5 (ta:TA):TI:=fun σ H R=>ta σ H fun vs H1=>∃ i j:Int,vs=[.int i,.int j] /\ (-(2 ^ 62) <= i /\ i < 2 ^ 62 /\ -(2 ^ 62) <= j /\ j < 2 ^ 62) /\ R (Itr i (j-i).toNat) H1
theorem ZDb {a:Expr} {ta:TA} {p pos:Pos} (hg:Gl X "range") (hm:X.mg "range"=none) (ha:PA X [a] ta) (hs:starEach [a] X.env=[(false,eval a X.env)]:=by rfl):PI X tg (.Call (.Name "range" p) [a] [] pos) (ZF6 ta):=by
 intro pins s σ H R I h
 refine Call_ (ZDd I hg hm boot_range (PyProof.Rows.callWith_type1 (thn (ha pos pins s σ H _ I h) fun us s1 ⟨vs,H1,I1,r1,q1⟩=>?_) hs rfl))
 obtain ⟨j,e,q1,q2,q⟩:=q1
 subst e
 cases r1 with
 | cons r rr=>
  cases rr
  obtain ⟨t,rfl⟩:=r
  exact call_range_1 (range_it I1 (by omega) (by omega) q1 q2 (by simpa using q))
theorem pi_range2 {a b:Expr} {ta:TA} {p pos:Pos} (hg:Gl X "range") (hm:X.mg "range"=none) (ha:PA X [a,b] ta) (hs:starEach [a,b] X.env=[(false,eval a X.env),(false,eval b X.env)]:=by rfl) (hs2:starEach [b] X.env=[(false,eval b X.env)]:=by rfl) :
  PI X tg (.Call (.Name "range" p) [a,b] [] pos) (ZF5 ta):=by
 intro pins s σ H R I h
 refine Call_ (ZDd I hg hm boot_range (PyProof.Rows.callWith_type1 (thn (ha pos pins s σ H _ I h) fun us s1 ⟨vs,H1,I1,r1,q1⟩=>?_) (by rw [hs,hs2]) (by rw [hs2];rfl)))
 obtain ⟨i,j,e,⟨q1,q2,q3,q4⟩,q⟩:=q1
 subst e
 cases r1 with
 | cons r rr=>
  cases rr with
  | cons r' rr=>
   cases rr
   obtain ⟨t,rfl⟩:=r
   obtain ⟨t',rfl⟩:=r'
   exact call_range_2 (range_it I1 q1 q2 q3 q4 q)
def tFor (wi:TI) (g:TG) (tb:TS):TS:=fun D σ H=>wi σ H fun J H1=>∃ W:Nat->Nat->St->Hp->Prop,(∃ m,W 0 m σ H1) /\ ∀ i m σ H,W i m σ H ->
 (J.stop i H /\ D.nx σ H)∨(J.go i H /\ ∃ N:St->Hp->Prop,(∀ σ' H',N σ' H'->∃ m',m' < m /\ W (i+1) m' σ' H') /\ ∀ x H',J.yld i H x H'->g x σ H' fun σ2 H2=>tb { D with nx:=N,ct:=N,bk:=D.nx } σ2 H2)
def ZEV (fp:List Addr) (h:Heap):List (Addr×Obj):=fp.filterMap fun b=>(h.get? b).map fun o=>(b,o)
theorem ZCb {fp:List Addr} {h:Heap} {b:Addr} {o:Obj} (hb:b∈fp) (e:h.get? b=some o):(b,o)∈ZEV fp h:=List.mem_filterMap.mpr ⟨b,hb,by rw [e];rfl⟩
theorem of_pinsAt {fp:List Addr} {h:Heap} {p:Addr×Obj} (hp:p∈ZEV fp h):p.1∈fp /\ h.get? p.1=some p.2:=by
 obtain ⟨b,hb,e⟩:=List.mem_filterMap.mp hp
 cases q:h.get? b with
 | none=>rw [q] at e;cases e
 | some o=>
  rw [q] at e
  have e':(b,o)=p:=Option.some.inj e
  subst e'
  exact ⟨hb,q⟩
theorem Inv.pinned {pins:List (Addr×Obj)} {σ:St} {H:Hp} {s:Shared} {fp:List Addr} (I:Inv X pins σ H s) (hf:∀ b∈fp,FpOk X pins H b) (ho:∀ b∈fp,∃ o,s.heap.get? b=some o /\ ∀ v,o.data≠.cell v):Inv X (pins++ZEV fp s.heap) σ H s :=
 I.pins_of fun p hp=>(yAV.mp hp).elim (fun z=>I.pin p (yAQ _ z)) fun z=>by
  obtain ⟨hb,e⟩:=of_pinsAt z
  obtain ⟨f0,f1,f2,_⟩:=hf p.1 hb
  obtain ⟨o,e',d⟩:=ho p.1 hb
  rw [e] at e';cases e'
  exact ⟨e,f0,f1,f2,d⟩
theorem Inv.unpinned {pins pl:List (Addr×Obj)} {σ:St} {H:Hp} {s:Shared} (I:Inv X (pins++pl) σ H s):Inv X pins σ H s:=I.pins_of fun p hp=>I.pin p (yAQ _ (yBC _ hp))
theorem ZDH {iter:Expr} {body:List Stmt} {wi:TI} {g:TG} {tb:TS} {pos:Pos} (hp:PassesOwn (model X.prog X.w) X.A X.env X.xe) (hc:X.calm=true) (hi:PI X tg iter wi) (hg:PG X tg g) (hb:PSs X body tb)
  (hs:∀ x,foldedSetIterable iter X.env x=pure x:=by intro _;rfl):PS X (.For tg iter body [] pos) (tFor wi g tb):=by
 intro pins s σ H D I h
 refine wpAny_For (thn (hi pins s σ H _ I h) fun v s1 h1=>thn h1 fun itv s2 h2=>?_) hs
 obtain ⟨it,fp,tn,J,H2,e,I2,T,st2,f2,W,⟨m0,w0⟩,turn⟩:=h2
 subst e
 have stat:∀ {H':Hp},(∀ b∈fp,H' b=none)->∀ b∈fp,FpOk X pins H' b:=fun hn b hb=>⟨hn b hb,(f2 b hb).2⟩
 refine codeAny_forLoop_any (fun n s'=>∃ i σ' H',Inv X pins σ' H' s' /\ tn i s'.heap /\ (∀ b∈fp,H' b=none) /\ W i n σ' H') ?_ m0 ⟨0,σ,H2,I2,st2,fun b hb=>(f2 b hb).1,w0⟩
 rintro n s3 ⟨i,σ3,H3,I3,st3,fr3,w3⟩
 rcases turn i n σ3 H3 w3 with ⟨stop,qn⟩ | ⟨go,N,hN,step⟩
 .refine wpAny_passesOwn hp (thn (T.done X rfl rfl rfl hc i pins s3 σ3 H3 X.xe I3 (stat fr3) st3 stop) fun r s4 ⟨hr,I4⟩=>?_)
  subst hr
  exact wpAny_execs_nil ⟨σ3,H3,I4,qn⟩
 .refine wpAny_passesOwn hp (thn (T.item X rfl rfl rfl hc i pins s3 σ3 H3 X.xe I3 (stat fr3) st3 go) fun r s4 ⟨u,hr,h4⟩=>?_)
  subst hr
  refine wpAny_passesOwn hp (thn h4 fun _ s5 ⟨x,H5,I5,r5,y5,st5,fr5⟩=>?_)
  have I5':=I5.pinned (stat fr5) (T.obj _ _ st5)
  refine wpAny_passesOwn hp (thn (hg _ s5 σ3 H5 x u _ I5' r5 (step x H5 y5)) fun _ s6 ⟨σ6,H6,I6,q6⟩=>?_)
  refine wpAny_passesOwn hp (thn (hb _ s6 σ6 H6 _ I6 q6) fun f s7 q7=>?_)
  have again:∀ {σ7:St} {H7:Hp},Inv X (pins++ZEV fp s5.heap) σ7 H7 s7->N σ7 H7->∃ m,m < n /\ ∃ i σ' H',Inv X pins σ' H' s7 /\ tn i s7.heap /\ (∀ b∈fp,H' b=none) /\ W i m σ' H':=fun {σ7 H7} I7 n7=>by
   obtain ⟨m',hm,w7⟩:=hN σ7 H7 n7
   refine ⟨m',hm,i+1,σ7,H7,I7.unpinned,T.keep _ _ _ st5 fun b hb o e=>(I7.pin (b,o) (yAQ _ (yAQ _ (ZCb hb e)))).1,fun b hb=>?_,w7⟩
   obtain ⟨o,e,d⟩:=T.obj _ _ st5 b hb
   exact (I7.pin (b,o) (yAQ _ (yAQ _ (ZCb hb e)))).2.1
  cases f with
  | next=>obtain ⟨σ7,H7,I7,n7⟩:=q7;exact again I7 n7
  | cont=>obtain ⟨σ7,H7,I7,n7⟩:=q7;exact again I7 n7
  | brk=>obtain ⟨σ7,H7,I7,q7⟩:=q7;exact ⟨σ7,H7,I7.unpinned,q7⟩
  | ret v=>obtain ⟨x7,σ7,H7,I7,r7,q7⟩:=q7;exact ⟨x7,σ7,H7,I7.unpinned,r7,q7⟩
end
theorem for_list {K:W.Frag} {a:Addr} {xs:List V} {g:TG} {tb:TS} {D:Ends} {σ:St} {H:Hp} (Pv:Nat->St->Hp->Prop) (h0:Pv 0 σ H) (hl:∀ i σ H,i <= xs.length->Pv i σ H->SqL K H a xs)
  (hs:∀ i x σ H,xs[i]?=some x->Pv i σ H->g x σ H fun σ2 H2=>tb { D with nx:=Pv (i+1),ct:=Pv (i+1),bk:=D.nx } σ2 H2) (hd:∀ σ H,Pv xs.length σ H->D.nx σ H) :
  ∃ W:Nat->Nat->St->Hp->Prop,(∃ m,W 0 m σ H) /\ ∀ i m σ H,W i m σ H ->
   ((Itl K a).stop i H /\ D.nx σ H)∨((Itl K a).go i H /\ ∃ N:St->Hp->Prop,(∀ σ' H',N σ' H'->∃ m',m' < m /\ W (i+1) m' σ' H') /\ ∀ x H',(Itl K a).yld i H x H'->g x σ H' fun σ2 H2=>tb { D with nx:=N,ct:=N,bk:=D.nx } σ2 H2):=by
 refine ⟨fun i m σ H=>m=xs.length-i /\ i <= xs.length /\ Pv i σ H,⟨xs.length,by simp,yAI _,h0⟩,?_⟩
 rintro i m σ H ⟨rfl,hi,p⟩
 have q:=hl i σ H hi p
 by_cases hlt:i < xs.length
 .refine .inr ⟨⟨xs,xs[i],q,by simp [hlt]⟩,Pv (i+1),fun σ' H' p'=>⟨xs.length-(i+1),by omega,rfl,hlt,p'⟩,fun x H' y=>?_⟩
  obtain ⟨e,y⟩:=y
  subst e
  exact hs i x σ _ (y xs q) p
 .have e:i=xs.length:=by omega
  subst e
  exact .inl ⟨⟨xs,q,yAA _⟩,hd σ H p⟩
theorem for_range {lo:Int} {n:Nat} {g:TG} {tb:TS} {D:Ends} {σ:St} {H:Hp} (Pv:Nat->St->Hp->Prop) (h0:Pv 0 σ H)
  (hs:∀ i σ H,i < n->Pv i σ H->g (.int (lo+i)) σ H fun σ2 H2=>tb { D with nx:=Pv (i+1),ct:=Pv (i+1),bk:=D.nx } σ2 H2) (hd:∀ σ H,Pv n σ H->D.nx σ H) :
  ∃ W:Nat->Nat->St->Hp->Prop,(∃ m,W 0 m σ H) /\ ∀ i m σ H,W i m σ H ->
   ((Itr lo n).stop i H /\ D.nx σ H)∨((Itr lo n).go i H /\ ∃ N:St->Hp->Prop,(∀ σ' H',N σ' H'->∃ m',m' < m /\ W (i+1) m' σ' H') /\ ∀ x H',(Itr lo n).yld i H x H'->g x σ H' fun σ2 H2=>tb { D with nx:=N,ct:=N,bk:=D.nx } σ2 H2):=by
 refine ⟨fun i m σ H=>m=n-i /\ i <= n /\ Pv i σ H,⟨n,by simp,yAI _,h0⟩,?_⟩
 rintro i m σ H ⟨rfl,hi,p⟩
 by_cases hlt:i < n
 .refine .inr ⟨hlt,Pv (i+1),fun σ' H' p'=>⟨n-(i+1),by omega,rfl,hlt,p'⟩,fun x H' y=>?_⟩
  obtain ⟨e,y⟩:=y
  subst e y
  exact hs i σ _ hlt p
 .have e:i=n:=by omega
  subst e
  exact .inl ⟨yAA _,hd σ H p⟩
abbrev R2:=V->V->Hp->VK->Prop
def OpR (X:Cx) (f:Value->Value->Sem Value) (r:R2):Prop :=
 ∀ (pins:List (Addr×Obj)) (s:Shared) (σ:St) (H:Hp) (x y:V) (v u:Value) (Q:VK),Inv X pins σ H s->RelV x v->RelV y u->r x y H Q ->
  wpAny (model X.prog X.w) X.A (f v u) (EP X pins σ Q) X.xe s
def UnR (X:Cx) (f:Value->Sem Value) (r:V->Hp->VK->Prop):Prop :=
 ∀ (pins:List (Addr×Obj)) (s:Shared) (σ:St) (H:Hp) (x:V) (v:Value) (Q:VK),Inv X pins σ H s->RelV x v->r x H Q ->
  wpAny (model X.prog X.w) X.A (f v) (EP X pins σ Q) X.xe s
def ZCM (X:Cx) (f:Value) (r:List V->Hp->VK->Prop):Prop :=
 ∀ (pins:List (Addr×Obj)) (s:Shared) (σ:St) (H:Hp) (xs:List V) (us:List Value) (Q:VK),Inv X pins σ H s->Vals xs us->r xs H Q ->
  wpAny (model X.prog X.w) X.A (call f us) (EP X pins σ Q) X.xe s
def tOp (r:R2) (ta tb:TE):TE:=fun σ H Q=>ta σ H fun x H1=>tb σ H1 fun y H2=>r x y H2 Q
def tUn (r:V->Hp->VK->Prop) (ta:TE):TE:=fun σ H Q=>ta σ H fun x H1=>r x H1 Q
def rI (C:Int->Int->Prop) (g:Int->Int->V):R2:=fun x y H Q=>∃ i j,x=.int i /\ y=.int j /\ C i j /\ Q (g i j) H
def rI0 (g:Int->Int->V):R2:=fun x y H Q=>∃ i j,x=.int i /\ y=.int j /\ Q (g i j) H
def rU (g:Int->V):V->Hp->VK->Prop:=fun x H Q=>∃ i,x=.int i /\ Q (g i) H
section
variable {X:Cx} {a b c:Expr} {ta tb tc:TE} {pos:Pos}
theorem binT (ha:PE X a ta) (hb:PE X b tb) {pins:List (Addr×Obj)} {s:Shared} {σ:St} {H:Hp} {R:V->V->Hp->Prop} (I:Inv X pins σ H s)
  (h:ta σ H fun x H1=>tb σ H1 fun y H2=>R x y H2) {Q:Value->Shared->Prop} {f:Value->Value->Sem Value}
  (hf:∀ v u s2 x y H2,Inv X pins σ H2 s2->RelV x v->RelV y u->R x y H2->wpAny (model X.prog X.w) X.A (f v u) Q X.xe s2) :
  wpAny (model X.prog X.w) X.A (eval a X.env) (fun v s₁=>wpAny (model X.prog X.w) X.A (eval b X.env) (fun u s₂=>wpAny (model X.prog X.w) X.A (f v u) Q X.xe s₂) X.xe s₁) X.xe s:=by
 refine thn (ha pins s σ H _ I h) fun v s1 ⟨x,H1,I1,r1,q1⟩=>?_
 refine thn (hb pins s1 σ H1 _ I1 q1) fun u s2 ⟨y,H2,I2,r2,q2⟩=>?_
 exact hf v u s2 x y H2 I2 r1 r2 q2
theorem ZAP {op:Operator} {r:R2} (ho:OpR X (binaryOp op) r) (ha:PE X a ta) (hb:PE X b tb):PE X (.BinOp a op b pos) (tOp r ta tb):=by
 intro pins s σ H Q I h
 exact wpAny_BinOp (binT ha hb I h fun v u s2 x y H2 I2 rx ry q=>ho pins s2 σ H2 x y v u Q I2 rx ry q)
theorem ZF3 {op:UnaryOp} {r:V->Hp->VK->Prop} (ho:UnR X (unaryOp op) r) (ha:PE X a ta):PE X (.UnaryOp op a pos) (tUn r ta):=by
 intro pins s σ H Q I h
 exact UnaryOp_ (thn (ha pins s σ H _ I h) fun v s1 ⟨x,H1,I1,r1,q1⟩=>ho pins s1 σ H1 x v Q I1 r1 q1)
theorem opI {f:Value->Value->Sem Value} {C:Int->Int->Prop} {g:Int->Int->Int}
  (rule:∀ (i j:Int) (t u:Tok) (s:Shared) (Q:Value->Shared->Prop) (E:Value->Shared->Prop),C i j->Q (.int (g i j) s.toks) { s with toks:=s.toks+1 }->wpAny (model X.prog X.w) X.A (f (.int i t) (.int j u)) Q E s) :
  OpR X f (rI C fun i j=>.int (g i j)):=by
 intro pins s σ H x y v u Q I rx ry h
 obtain ⟨i,j,rfl,rfl,hc,q⟩:=h
 obtain ⟨t,rfl⟩:=rx
 obtain ⟨t',rfl⟩:=ry
 exact rule i j t t' s _ _ hc ⟨.int (g i j),H,I.tok _,⟨_,rfl⟩,q⟩
theorem opI0 {f:Value->Value->Sem Value} {g:Int->Int->Int}
  (rule:∀ (i j:Int) (t u:Tok) (s:Shared) (Q:Value->Shared->Prop) (E:Value->Shared->Prop),Q (.int (g i j) s.toks) { s with toks:=s.toks+1 }->wpAny (model X.prog X.w) X.A (f (.int i t) (.int j u)) Q E s) :
  OpR X f (rI0 fun i j=>.int (g i j)):=by
 intro pins s σ H x y v u Q I rx ry h
 obtain ⟨i,j,rfl,rfl,q⟩:=h
 obtain ⟨t,rfl⟩:=rx
 obtain ⟨t',rfl⟩:=ry
 exact rule i j t t' s _ _ ⟨.int (g i j),H,I.tok _,⟨_,rfl⟩,q⟩
theorem opB0 {f:Value->Value->Sem Value} {g:Int->Int->Bool}
  (rule:∀ (i j:Int) (t u:Tok) (s:Shared) (Q:Value->Shared->Prop) (E:Value->Shared->Prop),Q (.bool (g i j)) s->wpAny (model X.prog X.w) X.A (f (.int i t) (.int j u)) Q E s) :
  OpR X f (rI0 fun i j=>.bl (g i j)):=by
 intro pins s σ H x y v u Q I rx ry h
 obtain ⟨i,j,rfl,rfl,q⟩:=h
 obtain ⟨t,rfl⟩:=rx
 obtain ⟨t',rfl⟩:=ry
 exact rule i j t t' s _ _ ⟨.bl (g i j),H,I,rfl,q⟩
def CDiv (i j:Int):Prop:=0 < j /\ j < 1073741824
def CPow (i j:Int):Prop:=0 <= j /\ j <= 1000000 /\ i.natAbs < 2 ^ 64
def CMul (i j:Int):Prop:=(-(2 ^ 64) < i /\ i < 2 ^ 64)∨(-(2 ^ 64) < j /\ j < 2 ^ 64)
theorem CMul.ok {i j:Int} (h:CMul i j):IntMulOk i j:=by
 rcases h with ⟨h1,h2⟩ | ⟨h1,h2⟩
 .exact .of_left (intBits_le_64 h1 h2)
 .exact .of_right (intBits_le_64 h1 h2)
theorem ZAg:OpR X (binaryOp .Add) (rI0 fun i j=>.int (i+j)):=opI0 fun _ _ _ _ _ _ _ q=>add_int q
theorem ZBa:OpR X (binaryOp .Sub) (rI0 fun i j=>.int (i-j)):=opI0 fun _ _ _ _ _ _ _ q=>sub_int q
theorem ZCf:OpR X (binaryOp .Mult) (rI CMul fun i j=>.int (i * j)):=opI fun _ _ _ _ _ _ _ hc q=>mul_int q hc.ok
theorem ZB0:OpR X (binaryOp .FloorDiv) (rI CDiv fun i j=>.int (i / j)):=opI fun i j _ _ _ _ _ hc q=>by
 have h1:(0:Int) < j:=hc.1
 have h2:j < 1073741824:=hc.2
 exact floordiv_int (by omega) (by rw [Int.fdiv_eq_ediv_of_nonneg i (by omega)];exact q) (.inl (PyProof.noPylong_small (by omega)))
theorem ZBM:OpR X (binaryOp .Mod) (rI (fun _ j=>0 < j) fun i j=>.int (i % j)):=opI fun i j _ _ _ _ _ hc q=>by
 have h1:(0:Int) < j:=hc
 exact mod_int' (by omega) (by rw [Int.fmod_eq_emod_of_nonneg i (by omega)];exact q)
theorem op_pow:OpR X (binaryOp .Pow) (rI CPow fun i j=>.int (i ^ j.toNat)):=opI fun _ _ _ _ _ _ _ hc q=>pow_int_small hc.1 hc.2.1 hc.2.2 q
theorem unI {f:Value->Sem Value} {g:Int->Int}
  (rule:∀ (i:Int) (t:Tok) (s:Shared) (Q:Value->Shared->Prop) (E:Value->Shared->Prop),Q (.int (g i) s.toks) { s with toks:=s.toks+1 }->wpAny (model X.prog X.w) X.A (f (.int i t)) Q E s) :
  UnR X f (rU fun i=>.int (g i)):=by
 intro pins s σ H x v Q I rx h
 obtain ⟨i,rfl,q⟩:=h
 obtain ⟨t,rfl⟩:=rx
 exact rule i t s _ _ ⟨.int (g i),H,I.tok _,⟨_,rfl⟩,q⟩
theorem ZFG:UnR X (unaryOp .USub) (rU fun i=>.int (-i)):=unI fun _ _ _ _ _ q=>neg_int q
end
def scal:V->V->Bool
 | .non,.non=>true | .non,.int _=>true | .int _,.non=>true | .non,.bl _=>true | .bl _,.non=>true | .non,.str _=>true | .str _,.non=>true
 | .int _,.int _=>true | .bl _,.bl _=>true | .str _,.str _=>true | .byt _,.byt _=>true
 | .int _,.str _=>true | .str _,.int _=>true | .bl _,.str _=>true | .str _,.bl _=>true
 | _,_=>false
def rEq:R2:=fun x y H Q=>scal x y=true /\ Q (.bl (decide (x=y))) H
def rNe:R2:=fun x y H Q=>scal x y=true /\ Q (.bl (!decide (x=y))) H
theorem dec_int {i j:Int}:decide (V.int i=V.int j)=(i == j):=by
 rw [Bool.eq_iff_iff]
 simp
theorem dec_bl {i j:Bool}:decide (V.bl i=V.bl j)=(i == j):=by
 rw [Bool.eq_iff_iff]
 simp
theorem dec_str {i j:Str}:decide (V.str i=V.str j)=(i == j):=by
 rw [Bool.eq_iff_iff]
 simp
theorem dec_byt {i j:Array UInt8}:decide (V.byt i=V.byt j)=(i.toList == j.toList):=by
 rw [Bool.eq_iff_iff]
 cases i
 cases j
 simp
section
variable {X:Cx} {a b c:Expr} {ta tb tc:TE} {pos:Pos}
theorem ZAn {pins:List (Addr×Obj)} {σ:St} {H:Hp} {s:Shared} {Q:VK} {k k':Bool} (I:Inv X pins σ H s) (q:Q (.bl k) H) (e:k=k'):EP X pins σ Q (.bool k') s:=by
 subst e
 exact ⟨.bl k,H,I,rfl,q⟩
theorem ZCm:OpR X (compareOp .Eq) rEq:=by
 intro pins s σ H x y v u Q I rx ry h
 obtain ⟨hs,q⟩:=h
 cases x with
 | non=>
  cases rx
  cases y with
  | non=>cases ry;exact PySem.EqNone.eq_none_none (ZAn I q (by simp))
  | bl j=>cases ry;exact PySem.EqNone.eq_none_bool (ZAn I q (by simp))
  | int j=>obtain ⟨t',rfl⟩:=ry;exact PySem.EqNone.eq_none_int (ZAn I q (by simp))
  | str j=>obtain ⟨t',rfl⟩:=ry;exact PySem.EqNone.eq_none_str (ZAn I q (by simp))
  | _=>exact absurd (show false=true from hs) yBE
 | bl i=>
  cases rx
  cases y with
  | non=>cases ry;exact PySem.EqNone.eq_bool_none (ZAn I q (by simp))
  | bl j=>cases ry;exact eq_bool (ZAn I q dec_bl)
  | str j=>obtain ⟨t',rfl⟩:=ry;exact PySem.EqMixed.eq_bool_str (ZAn I q (by simp))
  | _=>exact absurd (show false=true from hs) yBE
 | int i=>
  obtain ⟨t,rfl⟩:=rx
  cases y with
  | non=>cases ry;exact PySem.EqNone.eq_int_none (ZAn I q (by simp))
  | int j=>obtain ⟨t',rfl⟩:=ry;exact eq_int (ZAn I q dec_int)
  | str j=>obtain ⟨t',rfl⟩:=ry;exact PySem.EqMixed.eq_int_str (ZAn I q (by simp))
  | _=>exact absurd (show false=true from hs) yBE
 | str i=>
  obtain ⟨t,rfl⟩:=rx
  cases y with
  | non=>cases ry;exact PySem.EqNone.eq_str_none (ZAn I q (by simp))
  | bl j=>cases ry;exact PySem.EqMixed.eq_str_bool (ZAn I q (by simp))
  | int j=>obtain ⟨t',rfl⟩:=ry;exact PySem.EqMixed.eq_str_int (ZAn I q (by simp))
  | str j=>obtain ⟨t',rfl⟩:=ry;exact eq_str (ZAn I q dec_str)
  | _=>exact absurd (show false=true from hs) yBE
 | byt i=>
  obtain ⟨t,rfl⟩:=rx
  cases y with
  | byt j=>obtain ⟨t',rfl⟩:=ry;exact PySem.W.eq_bytes (ZAn I q dec_byt)
  | _=>exact absurd (show false=true from hs) yBE
 | _=>cases y <;> exact absurd (show false=true from hs) yBE
theorem op_ne:OpR X (compareOp .NotEq) rNe:=by
 intro pins s σ H x y v u Q I rx ry h
 obtain ⟨hs,q⟩:=h
 cases x with
 | non=>
  cases rx
  cases y with
  | non=>cases ry;exact PySem.EqNone.ne_none_none (ZAn I q (by simp))
  | bl j=>cases ry;exact PySem.EqNone.ne_none_bool (ZAn I q (by simp))
  | int j=>obtain ⟨t',rfl⟩:=ry;exact PySem.EqNone.ne_none_int (ZAn I q (by simp))
  | str j=>obtain ⟨t',rfl⟩:=ry;exact PySem.EqNone.ne_none_str (ZAn I q (by simp))
  | _=>exact absurd (show false=true from hs) yBE
 | bl i=>
  cases rx
  cases y with
  | non=>cases ry;exact PySem.EqNone.ne_bool_none (ZAn I q (by simp))
  | bl j=>cases ry;exact ne_bool (ZAn I q (congrArg not dec_bl))
  | str j=>obtain ⟨t',rfl⟩:=ry;exact PySem.EqMixed.ne_bool_str (ZAn I q (by simp))
  | _=>exact absurd (show false=true from hs) yBE
 | int i=>
  obtain ⟨t,rfl⟩:=rx
  cases y with
  | non=>cases ry;exact PySem.EqNone.ne_int_none (ZAn I q (by simp))
  | int j=>obtain ⟨t',rfl⟩:=ry;exact ne_int (ZAn I q (congrArg not dec_int))
  | str j=>obtain ⟨t',rfl⟩:=ry;exact PySem.EqMixed.ne_int_str (ZAn I q (by simp))
  | _=>exact absurd (show false=true from hs) yBE
 | str i=>
  obtain ⟨t,rfl⟩:=rx
  cases y with
  | non=>cases ry;exact PySem.EqNone.ne_str_none (ZAn I q (by simp))
  | bl j=>cases ry;exact PySem.EqMixed.ne_str_bool (ZAn I q (by simp))
  | int j=>obtain ⟨t',rfl⟩:=ry;exact PySem.EqMixed.ne_str_int (ZAn I q (by simp))
  | str j=>obtain ⟨t',rfl⟩:=ry;exact ne_str (ZAn I q (congrArg not dec_str))
  | _=>exact absurd (show false=true from hs) yBE
 | byt i=>
  obtain ⟨t,rfl⟩:=rx
  cases y with
  | byt j=>obtain ⟨t',rfl⟩:=ry;exact PySem.W.ne_bytes (ZAn I q (congrArg not dec_byt))
  | _=>exact absurd (show false=true from hs) yBE
 | _=>cases y <;> exact absurd (show false=true from hs) yBE
theorem ZDB:OpR X (compareOp .Lt) (rI0 fun i j=>.bl (decide (i < j))):=opB0 fun _ _ _ _ _ _ _ q=>lt_int q
theorem ZFX:OpR X (compareOp .Gt) (rI0 fun i j=>.bl (decide (j < i))):=opB0 fun _ _ _ _ _ _ _ q=>gt_int q
theorem ZFn:OpR X (compareOp .GtE) (rI0 fun i j=>.bl (decide (j <= i))):=opB0 fun _ _ _ _ _ _ _ q=>ge_int q
theorem ZE1:OpR X (compareOp .Is) (fun x y H Q=>y=.non /\ Q (.bl (decide (x=.non))) H):=by
 intro pins s σ H x y v u Q I rx ry h
 obtain ⟨rfl,q⟩:=h
 cases ry
 refine is_none_gen (ZAn I q ?_)
 cases x <;> first
  | (cases rx;rfl)
  | (obtain ⟨t,rfl⟩:=rx;rfl)
theorem ZDA:OpR X (compareOp .IsNot) (fun x y H Q=>y=.non /\ Q (.bl (!decide (x=.non))) H):=by
 intro pins s σ H x y v u Q I rx ry h
 obtain ⟨rfl,q⟩:=h
 cases ry
 refine isnot_none_gen (ZAn I q ?_)
 cases x <;> first
  | (cases rx;rfl)
  | (obtain ⟨t,rfl⟩:=rx;rfl)
theorem ZAW (b:Expr) {op:CmpOp} (h:op≠.In:=by decide) (h2:op≠.NotIn:=by decide):behindInMarks op b=false:=by
 have e1:(op == CmpOp.In)=false:=by cases op <;> first | rfl | exact absurd rfl h
 have e2:(op == CmpOp.NotIn)=false:=by cases op <;> first | rfl | exact absurd rfl h2
 cases b <;> simp [behindInMarks,e1,e2]
theorem ZBz {op:CmpOp} {r:R2} (ho:OpR X (compareOp op) r) (ha:PE X a ta) (hb:PE X b tb) (hm:behindInMarks op b=false):PE X (.Compare a [op] [b] pos) (tOp r ta tb):=by
 intro pins s σ H Q I h
 exact wpAny_Compare1 (binT ha hb I h fun v u s2 x y H2 I2 rx ry q=>ho pins s2 σ H2 x y v u Q I2 rx ry q) hm
def ZFr (t:TE):TT:=fun σ H Q=>t σ H fun x H'=>∃ k,x=.bl k /\ Q k H'
theorem ZAS {op:CmpOp} {r:R2} (ho:OpR X (compareOp op) r) (ha:PE X a ta) (hb:PE X b tb) (hm:behindInMarks op b=false):PT X (.Compare a [op] [b] pos) (ZFr (tOp r ta tb)):=by
 intro pins s σ H Q I h
 refine wpAny_isTrue_Compare1 (thn (ha pins s σ H _ I h) fun v s1 ⟨x,H1,I1,r1,q1⟩=>thn (hb pins s1 σ H1 _ I1 q1) fun u s2 ⟨y,H2,I2,r2,q2⟩=>
  thn (ho pins s2 σ H2 x y v u _ I2 r1 r2 q2) fun c s3 ⟨z,H3,I3,r3,k,e,q3⟩=>?_) hm
 subst e
 cases r3
 exact wpAny_truthy_bool ⟨H3,I3,q3⟩
def tChain (r r':R2) (ta tb tc:TE):TE:=fun σ H Q=>ta σ H fun x H1=>tb σ H1 fun y H2=>r x y H2 fun z H3=>∃ k,z=.bl k /\
 (if k=true then tc σ H3 fun w' H4=>r' y w' H4 Q else Q (.bl false) H3)
theorem ZE4:(sizeLine:Nat) < 2 ^ 63:=by rw [sizeLine_eq];decide
theorem ZDS {x:V} {us:List Value} (r:Vals [x] us):∃ u,us=[u] /\ RelV x u:=by
 cases r with
 | cons r1 r2=>cases r2;exact ⟨_,rfl,r1⟩
theorem ZFF {x y:V} {us:List Value} (r:Vals [x,y] us):∃ u w',us=[u,w'] /\ RelV x u /\ RelV y w':=by
 cases r with
 | cons r1 r2=>
  cases r2 with
  | cons r3 r4=>cases r4;exact ⟨_,_,rfl,r1,r3⟩
theorem call_max2 (hc:X.calm=true):ZCM X (.builtin "max") (fun xs H Q=>∃ i j,xs=[.int i,.int j] /\ Q (.int (if j > i then j else i)) H):=by
 intro pins s σ H xs us Q I r h
 obtain ⟨i,j,rfl,q⟩:=h
 obtain ⟨u,w',rfl,⟨t,rfl⟩,⟨t',rfl⟩⟩:=ZFF r
 refine max_two_ints (I.ok.hd hc) fun h' tk k=>⟨_,H,I.kept k,?_,q⟩
 by_cases hj:j > i
 .rw [if_pos hj,if_pos hj];exact ⟨_,rfl⟩
 .rw [if_neg hj,if_neg hj];exact ⟨_,rfl⟩
theorem ZB8 (hc:X.calm=true):ZCM X (.builtin "min") (fun xs H Q=>∃ i j,xs=[.int i,.int j] /\ Q (.int (if j < i then j else i)) H):=by
 intro pins s σ H xs us Q I r h
 obtain ⟨i,j,rfl,q⟩:=h
 obtain ⟨u,w',rfl,⟨t,rfl⟩,⟨t',rfl⟩⟩:=ZFF r
 refine min_two_ints (I.ok.hd hc) fun h' tk k=>⟨_,H,I.kept k,?_,q⟩
 by_cases hj:j < i
 .rw [if_pos hj,if_pos hj];exact ⟨_,rfl⟩
 .rw [if_neg hj,if_neg hj];exact ⟨_,rfl⟩
end
structure ObjM (h:Heap) (x dx C:Addr) (mA:Str->Option Value):Prop where
 obj:h.get? x=some (PySem.W.instObj C dx)
 ns:h.Ns1 dx mA
 ne:dx≠x
theorem lookIn_ns {h:Heap} {dx:Addr} {mA:Str->Option Value} (n:h.Ns1 dx mA):∃ od,h.get? dx=some od /\ ∀ name,PySem.W.lookIn name od=some (mA name):=by
 obtain ⟨o,es,ep,ho,hd,hk,_,hm⟩:=n
 refine ⟨o,ho,fun name=>?_⟩
 have e:=hm name
 unfold nsFind findBy at e
 rw [<- Array.find?_toList] at e
 unfold PySem.W.lookIn
 rw [hd]
 dsimp only
 split
 .rename_i y q
  rw [q] at e
  exact congrArg some e
 .rename_i q
  rw [q] at e
  have a:es.toList.any (·.refKey)=false:=by
   rw [List.any_eq_false]
   intro y hy
   obtain ⟨z,t,hkey⟩:=hk y (Array.mem_toList_iff.mp hy)
   simp [DictEntry.refKey,hkey]
  have a':¬ es.toList.any (·.refKey)=true:=by rw [a];exact yBE
  rw [if_neg a']
  exact congrArg some e
theorem ObjM.look {h:Heap} {x dx C:Addr} {mA:Str->Option Value} (I:ObjM h x dx C mA):∃ od,PySem.W.InstAt h x (PySem.W.instObj C dx) C (some od) /\ ∀ name,PySem.W.lookIn name od=some (mA name) :=
 let ⟨od,ho,hl⟩:=lookIn_ns I.ns
 ⟨od,⟨I.obj,rfl,rfl,ho⟩,hl⟩
section
variable {prog:Program} {w:World} {A:Around} {E:Value->Shared->Prop} {s:Shared} {K:W.Frag} {x dx C f:Addr} {mA:Str->Option Value} {name:Str} {v:Value}
theorem get_map {expr:Bool} {Q:Value->Shared->Prop} (X:K.In s.heap) (I:ObjM s.heap x dx C mA) (hg:PySem.W.plainGet K C name=true) (hh:PySem.W.hasDictIn K C=true)
  (ha:W.findIn K (.ref C) name=some none) (hv:mA name=some v) (hv':PySem.W.handedIn v=true) (h:Q v { s with toks:=s.toks+1 }) :
  wpAny (model prog w) A (getAttr (.ref x) name expr) Q E s:=by
 obtain ⟨od,J,hl⟩:=I.look
 exact PySem.W.get_value X J (PySem.W.plainGet_of hg).1 (PySem.W.findObj_own hh ha rfl (by rw [hl,hv])) hv' h
theorem get_meth {pl:Sem Bool} {Q:Value×List Value->Shared->Prop} (X:K.In s.heap) (I:ObjM s.heap x dx C mA) (hg:PySem.W.plainGet K C name=true)
  (hf:W.findIn K (.ref C) name=some (some (.ref f))) (ht:PySem.W.isFn K (.ref f)=true) (hv:mA name=none) (h:Q (.ref f,[.ref x]) s) :
  wpAny (model prog w) A (getMethod (.ref x) name pl) Q E s:=by
 obtain ⟨od,J,hl⟩:=I.look
 exact PySem.W.method_fn X J (PySem.W.plainGet_of hg).1 (PySem.W.plainGet_of hg).2 hf (beq_iff_eq.mp ht) (by show (PySem.W.lookIn name od).map (·.isSome)=some false;rw [hl,hv];rfl) h
theorem set_map {ns:List Str} {Q:Unit->Shared->Prop} (X:K.In s.heap) (I:ObjM s.heap x dx C mA)
  (hs:W.findIn K (.ref C) "__setattr__"=some (some (.builtin "object.__setattr__"))) (hp:PySem.W.plainOver K C=true) (ht:PySem.W.takerIn K C name=some none) (hh:PySem.W.hasDictIn K C=true)
  (hw:PySem.Within mA ns) (hsz:ns.length <= sizeLine)
  (h:∀ h',ObjM h' x dx C (fun y=>if y=name then some v else mA y)->Heap.SameBut dx s.heap h'->Q () { s with heap:=h',toks:=s.toks+2 }) :
  wpAny (model prog w) A (setAttr (.ref x) name v) Q E s:=by
 obtain ⟨od,J,hl⟩:=I.look
 refine PySem.W.set_plain X J hs (PySem.W.osa_open (s:={ s with toks:=s.toks+1 }) (r:=none) X J hp ht fun b=>?_)
 obtain ⟨cd,hc,hd'⟩:=PySem.W.any_some hh
 have hx:s.heap.get? x=some ⟨.ref C,some dx,.plain,#[]⟩:=I.obj
 refine wpAny_bind (wpAny_pure (wpAny_bind (wpAny_bind (wpAny_loadPart hx (wpAny_bind (PySem.W.Looks.here (s:={ s with toks:=s.toks+1 }) (PySem.W.looks_clsIn X hc) ?_))))))
 rw [hd']
 refine wpAny_pure (a:=some dx) (wpAny_bind (wpAny_pure (wpAny_bind ?_)))
 refine wpAny_nsSet1 (s:={ s with toks:=s.toks+1 }) I.ns fun h' hn2 hs2=>?_
 obtain ⟨oD,esD,epD,hoD,hdD,hcD⟩:=hn2.count (PySem.Within.cons name v hw)
 refine wpAny_bind (wpAny_lookBehind hoD (by rw [hdD];exact pastItsLine_dict (yAP hcD (by rw [yAG];omega))) ?_)
 exact wpAny_pure (h _ ⟨(hs2.2 _ (Ne.symm I.ne)).trans I.obj,hn2,I.ne⟩ hs2)
theorem make_map {R:Result->Shared->Prop} {vs:List Value} {kw:List (Str×Value)} (X:K.In s.heap) (hm:PySem.W.makesIn K C=true)
  (hi:W.findIn K (.ref C) "__init__"=some (some (.ref f))) (hf:PySem.W.typeIn K (.ref f)=some (.type "function"))
  (h:codeAny (model prog w) (A.under (.builtin "type.__call__" ⟨.ref C::vs,kw⟩)) (.call (.ref f) ⟨.ref (s.heap.objs.size+1)::vs,kw⟩) (PySem.W.InitBack (s.heap.objs.size+1) R)
   { s with heap:=(s.heap.push PySem.W.emptyDict).push (PySem.W.instObj C s.heap.objs.size) }) :
  codeAny (model prog w) A (.call (.ref C) ⟨vs,kw⟩) R s:=by
 obtain ⟨hh,g,d,t,os⟩:=s
 exact PySem.W.make_core (PySem.W.makes_of X hm) (PySem.W.looks_findIn X hi) (fun self=>PySem.W.bind_fn X self hf) (.inl rfl) h
end
def putF (f:Str) (v:V):List (Str×V)->List (Str×V)
 | []=>[(f,v)]
 | (g,x)::r=>if g=f then (g,v)::r else (g,x)::putF f v r
theorem ZAj (f g:Str) (v:V):∀ fs:List (Str×V),(putF f v fs).lookup g=if g=f then some v else fs.lookup g
 | []=>by
  show List.lookup g [(f,v)]=_
  by_cases h:g=f
  .have hb:(g == f)=true:=beq_iff_eq.mpr h
   simp only [List.lookup,hb,if_pos h]
  .have hb:(g == f)=false:=beq_eq_false_iff_ne.mpr h
   simp only [List.lookup,hb,if_neg h]
 | (k,x)::r=>by
  have ih:=ZAj f g v r
  rw [show putF f v ((k,x)::r)=(if k=f then (k,v)::r else (k,x)::putF f v r) from rfl]
  by_cases hk:k=f
  .rw [if_pos hk]
   by_cases h:g=k
   .have hb:(g == k)=true:=beq_iff_eq.mpr h
    simp only [List.lookup,hb,if_pos (h.trans hk)]
   .have hb:(g == k)=false:=beq_eq_false_iff_ne.mpr h
    simp only [List.lookup,hb,if_neg (fun e:g=f=>h (e.trans hk.symm))]
  .rw [if_neg hk]
   by_cases h:g=k
   .have hb:(g == k)=true:=beq_iff_eq.mpr h
    simp only [List.lookup,hb,if_neg (fun e:g=f=>hk (h.symm.trans e))]
   .have hb:(g == k)=false:=beq_eq_false_iff_ne.mpr h
    simp only [List.lookup,hb]
    exact ih
theorem ZDg (f:Str) (v:V):∀ fs:List (Str×V),f∈(putF f v fs).map (·.1) /\ ∀ g,g∈fs.map (·.1)->g∈(putF f v fs).map (·.1)
 | []=>⟨by simp [putF],fun g h=>by simp at h⟩
 | (k,x)::r=>by
  obtain ⟨i1,i2⟩:=ZDg f v r
  rw [show putF f v ((k,x)::r)=(if k=f then (k,v)::r else (k,x)::putF f v r) from rfl]
  by_cases hk:k=f
  .rw [if_pos hk]
   subst hk
   exact ⟨by simp,fun g h=>by simpa using h⟩
  .rw [if_neg hk]
   refine ⟨?_,fun g h=>?_⟩
   .rw [yAX]
    exact yAC _ i1
   .rw [yAX] at h ⊢
    rcases yAE.mp h with e | e
    .exact yAE.mpr (.inl e)
    .exact yAC _ (i2 g e)
theorem ZCo (f:Str) (v:V):∀ fs:List (Str×V),(putF f v fs).length <= fs.length+1
 | []=>by simp [putF]
 | (k,x)::r=>by
  have ih:=ZCo f v r
  rw [show putF f v ((k,x)::r)=(if k=f then (k,v)::r else (k,x)::putF f v r) from rfl]
  by_cases hk:k=f
  .rw [if_pos hk,yAG,yAG];omega
  .rw [if_neg hk,yAG,yAG];omega
theorem RelO.some_of {v:V} {o:Option Value} (r:RelO (some v) o):∃ u,o=some u /\ RelV v u:=by
 cases o with
 | none=>exact (show False from r).elim
 | some u=>exact ⟨u,rfl,r⟩
theorem RelO.none_of {o:Option Value} (r:RelO none o):o=none:=by
 cases o with
 | none=>rfl
 | some u=>exact (show False from r).elim
theorem handed_of {v:V} {u:Value} (r:RelV v u):PySem.W.handedIn u=true:=by
 cases v with
 | non=>cases (show u=Value.none from r);rfl
 | bl b=>cases (show u=Value.bool b from r);rfl
 | int i=>obtain ⟨t,e⟩:=(show ∃ t,u=Value.int i t from r);cases e;rfl
 | str x=>obtain ⟨t,e⟩:=(show ∃ t,u=Value.str x t from r);cases e;rfl
 | byt b=>obtain ⟨t,e⟩:=(show ∃ t,u=Value.bytes b t from r);cases e;rfl
 | flt b=>obtain ⟨t,e⟩:=(show ∃ t,u=Value.float b t from r);cases e;rfl
 | ref a=>cases (show u=Value.ref a from r);rfl
 | ty n=>cases (show u=Value.type n from r);rfl
section
variable {P:Program} {w:World} {H H':Hp} {h h':Heap} {a C dx:Addr} {fs fs':List (Str×V)}
theorem ZEF (hok:HOk P w H h) (e:H a=some (.ins C dx fs)):∃ mA,ObjM h a dx C mA /\ (∀ f,RelO (fs.lookup f) (mA f)) /\ PySem.Within mA (fs.map (·.1)) /\ fs.length <= 1000 /\ H dx=some (.own a):=by
 obtain ⟨d,z,ne,ob,mA,n,r,q⟩:=(show ObjOk P w H h a (.ins C dx fs) from hok a _ e)
 exact ⟨mA,⟨ob,n,ne⟩,r,q,z,d⟩
end
structure Cls (K:W.Frag) (C:Addr):Prop where
 pg:PySem.W.plainGet K C Str.empty=true
 hd:PySem.W.hasDictIn K C=true
 po:PySem.W.plainOver K C=true
 sa:W.findIn K (.ref C) "__setattr__"=some (some (.builtin "object.__setattr__"))
theorem Cls.get {K:W.Frag} {C:Addr} (c:Cls K C) (f:Str):PySem.W.plainGet K C f=true:=c.pg
def NoAttr (K:W.Frag) (C:Addr) (f:Str):Prop:=W.findIn K (.ref C) f=some none
theorem NoAttr.taker {K:W.Frag} {C:Addr} {f:Str} (n:NoAttr K C f):PySem.W.takerIn K C f=some none:=by
 unfold PySem.W.takerIn
 rw [show W.findIn K (.ref C) f=some none from n]
 rfl
structure Meth (K:W.Frag) (C:Addr) (m:Str) (f:Addr):Prop where
 at_:W.findIn K (.ref C) m=some (some (.ref f))
 fn:PySem.W.isFn K (.ref f)=true
 kp:W.keepIn K (.ref f)=true
section
variable {X:Cx} {pins:List (Addr×Obj)} {σ:St} {H:Hp} {s:Shared} {a C dx:Addr} {fs:List (Str×V)} {f:Str} {v:V} {A:Around} {E:Value->Shared->Prop}
theorem getattr_ok {b:Bool} {Q:Value->Shared->Prop} (I:Inv X pins σ H s) (e:H a=some (.ins C dx fs)) (c:Cls X.K C) (n:NoAttr X.K C f) (l:fs.lookup f=some v)
  (h:∀ u s',Inv X pins σ H s'->RelV v u->Q u s'):wpAny (model X.prog X.w) A (getAttr (.ref a) f b) Q E s:=by
 obtain ⟨mA,O,r,_,_,_⟩:=ZEF I.hok e
 obtain ⟨u,hu,ru⟩:=RelO.some_of (v:=v) (o:=mA f) (by rw [<- l];exact r f)
 exact get_map I.kIn O (c.get f) c.hd n hu (handed_of ru) (h u _ (I.tok _) ru)
theorem getmeth_ok {m:Str} {g:Addr} {pl:Sem Bool} {Q:Value×List Value->Shared->Prop} (I:Inv X pins σ H s) (e:H a=some (.ins C dx fs)) (c:Cls X.K C) (k:Meth X.K C m g) (l:fs.lookup m=none)
  (h:Q (.ref g,[.ref a]) s):wpAny (model X.prog X.w) A (getMethod (.ref a) m pl) Q E s:=by
 obtain ⟨mA,O,r,_,_,_⟩:=ZEF I.hok e
 have hn:mA m=none:=RelO.none_of (by rw [<- l];exact r m)
 exact get_meth I.kIn O (c.get m) k.at_ k.fn hn h
theorem setattr_ok {y:V} {u:Value} {Q:Unit->Shared->Prop} (I:Inv X pins σ H s) (e:H a=some (.ins C dx fs)) (c:Cls X.K C) (n:NoAttr X.K C f) (hl:fs.length < 1000) (ry:RelV y u)
  (h:∀ s',Inv X pins σ (upd H a (.ins C dx (putF f y fs))) s'->Q () s'):wpAny (model X.prog X.w) A (setAttr (.ref a) f u) Q E s:=by
 obtain ⟨mA,O,r,wi,_,ho⟩:=ZEF I.hok e
 have hz:(fs.map (·.1)).length <= sizeLine:=by rw [yAB,sizeLine_eq];omega
 refine set_map I.kIn O c.sa c.po n.taker c.hd wi hz fun h' O' sb=>h _ ?_
 have hd:∃ o,h'.get? dx=some o:=let ⟨o,_,_,e',_⟩:=O'.ns;⟨o,e'⟩
 refine I.write (x:=a) (e:=dx) (by rw [e];exact True.intro) (.inr ho) (fun b q hb z=>(sb.2 b hb).trans z) hd ?_
 refine ⟨by rw [ZAI O.ne];exact ho,?_,O.ne,O'.obj,_,O'.ns,fun g=>?_,fun g hg=>?_⟩
 .have:=ZCo f y fs;omega
 .show RelO ((putF f y fs).lookup g) (if g=f then some u else mA g)
  rw [ZAj]
  by_cases q:g=f
  .rw [if_pos q,if_pos q];exact ry
  .rw [if_neg q,if_neg q];exact r g
 .by_cases q:g=f
  .rw [q];exact (ZDg f y fs).1
  .refine (ZDg f y fs).2 g (wi g fun z=>hg ?_)
   show (if g=f then some u else mA g)=none
   rw [if_neg q];exact z
theorem Inv.made (I:Inv X pins σ H s):Inv X pins σ (upd (upd H s.heap.objs.size (.own (s.heap.objs.size+1))) (s.heap.objs.size+1) (.ins C s.heap.objs.size []))
  { s with heap:=(s.heap.push PySem.W.emptyDict).push (PySem.W.instObj C s.heap.objs.size) }:=by
 have e1:(s.heap.push PySem.W.emptyDict).get? s.heap.objs.size=some PySem.W.emptyDict:=Heap.get?_push_size s.heap rfl
 have e2:((s.heap.push PySem.W.emptyDict).push (PySem.W.instObj C s.heap.objs.size)).get? (s.heap.objs.size+1)=some (PySem.W.instObj C s.heap.objs.size):=by
  have:=Heap.get?_push_size (s.heap.push PySem.W.emptyDict) (o:=PySem.W.instObj C s.heap.objs.size) rfl
  rwa [Heap.size_push] at this
 have e3:(s.heap.push PySem.W.emptyDict).Ns s.heap.objs.size (fun _=>none):=⟨PySem.W.emptyDict,#[],_,e1,rfl,(fun e he=>absurd he (by simp)),fun _=>rfl⟩
 have I1:=I.laid (a:=s.heap.objs.size) (o:=.own (s.heap.objs.size+1)) (h':=s.heap.push PySem.W.emptyDict) (t':=s.toks) (fun b u q=>Heap.get?_push_of_some _ q) (yAA _) ⟨_,e1⟩
 refine I1.laid (a:=s.heap.objs.size+1) (o:=.ins C s.heap.objs.size []) (t':=s.toks) (fun b u q=>Heap.get?_push_of_some _ q) (Nat.le_of_eq (Heap.size_push _ _)) ?_
 have ne:s.heap.objs.size≠s.heap.objs.size+1:=yAO (yBR _)
 refine ⟨by rw [ZAI ne,ZAF],yAI _,ne,e2,fun _=>none,(Heap.Ns1.of_empty e3).at fun o q=>Heap.get?_push_of_some _ q,fun _=>True.intro,fun y hy=>absurd rfl hy⟩
theorem attr_of {prog:Program} {w:World} {env:Env} {e:Expr} {f:Str} {pos:Pos} {s:Shared} {Q:Value->Shared->Prop} (hb:attributeBase e f env (eval e env)=eval e env)
  (h:wpAny (model prog w) A (eval e env) (fun o s₁=>wpAny (model prog w) A (getAttr o f true) Q E s₁) E s):wpAny (model prog w) A (eval (.Attribute e f pos) env) Q E s :=
 Attribute_any_ h (by rw [arm_eval_Attribute,hb])
end
def tFld (K:W.Frag) (ta:TE) (f:Str):TE:=fun σ H Q=>ta σ H fun x H1=>∃ a C dx fs v,x=.ref a /\ H1 a=some (.ins C dx fs) /\ Cls K C /\ NoAttr K C f /\ fs.lookup f=some v /\ Q v H1
def sFld (K:W.Frag) (ta tv:TE) (f:Str):TS:=fun D σ H=>tv σ H fun y H1=>ta σ H1 fun x H2=>∃ a C dx fs,x=.ref a /\ H2 a=some (.ins C dx fs) /\ Cls K C /\ NoAttr K C f /\ fs.length < 1000 /\
 D.nx σ (upd H2 a (.ins C dx (putF f y fs)))
def InOp (X:Cx) (op:Operator) (rd:V->V->Hp->VK->Prop):Prop :=
 ∀ (pins:List (Addr×Obj)) (s:Shared) (σ:St) (H:Hp) (x y:V) (u v:Value) (Q:VK),Inv X pins σ H s->RelV x u->RelV y v->rd x y H Q->wpAny (model X.prog X.w) X.A (inplaceOp op u v) (EP X pins σ Q) X.xe s
def sFldAug (K:W.Frag) (ta tv:TE) (rd:V->V->Hp->VK->Prop) (f:Str):TS:=fun D σ H=>ta σ H fun x H1=>∃ a C dx fs v,x=.ref a /\ H1 a=some (.ins C dx fs) /\ Cls K C /\ NoAttr K C f /\ fs.lookup f=some v /\
 tv σ H1 fun y H2=>rd v y H2 fun z H3=>∃ dx' fs',H3 a=some (.ins C dx' fs') /\ fs'.length < 1000 /\ D.nx σ (upd H3 a (.ins C dx' (putF f z fs')))
section
variable {X:Cx} {o e value:Expr} {f:Str} {pos pos' tpos:Pos} {ta tv:TE}
theorem ZAR (he:PE X e ta) (hb:attributeBase e f X.env (eval e X.env)=eval e X.env):PE X (.Attribute e f pos) (tFld X.K ta f):=by
 intro pins s σ H Q I h
 refine attr_of hb (thn (he pins s σ H _ I h) fun u s1 ⟨x,H1,I1,rx,a,C,dx,fs,v,ex,ea,c,n,l,q⟩=>?_)
 subst ex
 obtain rfl:u=Value.ref a:=rx
 exact getattr_ok I1 ea c n l fun u' s2 I2 ru=>⟨v,H1,I2,ru,q⟩
theorem ZBL (ha:PE X o ta) (hv:PE X value tv) (hs:swapsWith value (some (.Attribute o f pos')) pos.line X.env=pure false):PS X (.Assign [.Attribute o f pos'] value pos) (sFld X.K ta tv f):=by
 intro pins s σ H D I h
 refine plainObj_wpAny_Assign_Attribute (thn (hv pins s σ H _ I h) fun u s1 ⟨y,H1,I1,ry,q⟩=>thn (ha pins s1 σ H1 _ I1 q) fun ov s2 ⟨x,H2,I2,rx,a,C,dx,fs,ex,ea,c,n,l,q2⟩=>?_) hs
 subst ex
 obtain rfl:ov=Value.ref a:=rx
 exact setattr_ok I2 ea c n l ry fun s3 I3=>⟨σ,_,I3,q2⟩
theorem ps_fldaug {op:Operator} {rd:V->V->Hp->VK->Prop} (ha:PE X o ta) (hv:PE X value tv) (hop:InOp X op rd):PS X (.AugAssign (.Attribute o f tpos) op value pos) (sFldAug X.K ta tv rd f):=by
 intro pins s σ H D I h
 refine wpAny_AugAssign_AttributeAny (thn (ha pins s σ H _ I h) fun ov s1 ⟨x,H1,I1,rx,a,C,dx,fs,v,ex,ea,c,n,l,q⟩=>?_)
 subst ex
 obtain rfl:ov=Value.ref a:=rx
 refine getattr_ok I1 ea c n l fun u s2 I2 ru=>thn (hv pins s2 σ H1 _ I2 q) fun w3 s3 ⟨y,H2,I3,ry,q3⟩=>thn (hop pins s3 σ H2 v y u w3 _ I3 ru ry q3) fun w4 s4 ⟨z,H3,I4,rz,dx',fs',ea',l',q4⟩=>?_
 exact setattr_ok I4 ea' c n l' rz fun s5 I5=>⟨σ,_,I5,q4⟩
def rAdd:V->V->Hp->VK->Prop:=fun x y H Q=>∃ i j,x=.int i /\ y=.int j /\ Q (.int (i+j)) H
theorem in_add:InOp X .Add rAdd:=by
 rintro pins s σ H x y u v Q I rx ry ⟨i,j,rfl,rfl,q⟩
 obtain ⟨t,rfl⟩:=(show ∃ t,u=Value.int i t from rx)
 obtain ⟨t',rfl⟩:=(show ∃ t',v=Value.int j t' from ry)
 exact PyProof.Rows.iadd_int ⟨.int (i+j),H,I.tok _,⟨_,rfl⟩,q⟩
end
section
variable {X:Cx} {pins:List (Addr×Obj)} {σ:St} {H:Hp} {s:Shared} {A:Around} {E:Value->Shared->Prop} {Q:Value->Shared->Prop} {c:Value} {b:Bool}
inductive TyOf (K:W.Frag) (H:Hp):V->Value->Prop where
 | non:TyOf K H .non (.type "NoneType")
 | bl (x:Bool):TyOf K H (.bl x) (.type "bool")
 | int (i:Int):TyOf K H (.int i) (.type "int")
 | str (x:Str):TyOf K H (.str x) (.type "str")
 | flt (x:UInt64):TyOf K H (.flt x) (.type "float")
 | lst {a:Addr} {xs:List V} (e:H a=some (.lst xs)):TyOf K H (.ref a) (.type "list")
 | frz {a:Addr} {o:Obj} {xs:List V} (e:H a=some (.frz o (.lst xs))):TyOf K H (.ref a) (.type "list")
 | tup {a:Addr} {xs:List V} (e:H a=some (.tup xs)):TyOf K H (.ref a) (.type "tuple")
 | dK {a:Addr} {kvs:List (Key×V)} (e:H a=some (.dK kvs)):TyOf K H (.ref a) (.type "dict")
 | dT {a:Addr} {kvs:List (List Key×V)} (e:H a=some (.dT kvs)):TyOf K H (.ref a) (.type "dict")
 | ins {a C dx:Addr} {fs:List (Str×V)} (e:H a=some (.ins C dx fs)) (cl:Cls K C) (ha:W.findIn K (.ref C) "__class__"=some (some (.builtin "object.__class__")))
   (hn:PySem.W.specialIn K (.builtin "object.__class__") "__get__"=some (some (.builtin "getset_descriptor.__get__"))) (htk:PySem.W.takesIn K (.builtin "object.__class__")=some true)
   (hm:PySem.W.mroIn K C (.type "object")=some true):TyOf K H (.ref a) (.ref C)
theorem isinst_ok {x:V} {u t:Value} (I:Inv X pins σ H s) (rx:RelV x u) (ty:TyOf X.K H x t) (e:PySem.W.kitOne X.K t c=some b) (h:∀ tk,Q (.bool b) { s with toks:=tk }) :
  wpAny (model X.prog X.w) A (call (.builtin "isinstance") [u,c]) Q E s:=by
 cases ty with
 | non=>cases (show u=Value.none from rx);exact PySem.W.kia_one PySem.W.kitx_none I.kIn True.intro e (fun z=>nomatch z) h
 | bl y=>cases (show u=Value.bool y from rx);exact PySem.W.kia_one PySem.W.kitx_bool I.kIn True.intro e (fun z=>nomatch z) h
 | int i=>obtain ⟨t,q⟩:=(show ∃ t,u=Value.int i t from rx);cases q;exact PySem.W.kia_one PySem.W.kitx_int I.kIn True.intro e (fun z=>nomatch z) h
 | str y=>obtain ⟨t,q⟩:=(show ∃ t,u=Value.str y t from rx);cases q;exact PySem.W.kia_one PySem.W.kitx_str I.kIn True.intro e (fun z=>nomatch z) h
 | flt y=>obtain ⟨t,q⟩:=(show ∃ t,u=Value.float y t from rx);cases q;exact PySem.W.kia_one PySem.W.kitx_float I.kIn True.intro e (fun z=>nomatch z) h
 | @lst a xs ea=>
  cases (show u=Value.ref a from rx)
  obtain ⟨_,_,n,_,h1⟩:=(show ObjOk X.prog X.w H s.heap a (.lst xs) from I.hok a _ ea)
  exact PySem.W.kia_one PySem.W.kitx_list I.kIn ⟨_,h1,rfl⟩ e (fun z=>nomatch z) h
 | @frz a ob xs ea=>
  cases (show u=Value.ref a from rx)
  obtain ⟨_,_,_,n,_,h1⟩:=(show ObjOk X.prog X.w H s.heap a (.frz ob (.lst xs)) from I.hok a _ ea)
  exact PySem.W.kia_one PySem.W.kitx_list I.kIn ⟨_,h1,rfl⟩ e (fun z=>nomatch z) h
 | @tup a xs ea=>
  cases (show u=Value.ref a from rx)
  obtain ⟨_,_,_,p⟩:=(show ObjOk X.prog X.w H s.heap a (.tup xs) from I.hok a _ ea)
  obtain ⟨o,h1,h2,_⟩:=p
  exact PySem.W.kia_one PySem.W.kitx_tuple I.kIn ⟨o,h1,h2⟩ e (fun z=>nomatch z) h
 | @dK a kvs ea=>
  cases (show u=Value.ref a from rx)
  obtain ⟨_,_,vs,_,p⟩:=(show ObjOk X.prog X.w H s.heap a (.dK kvs) from I.hok a _ ea)
  obtain ⟨o,es,ep,h1,h2,_⟩:=p
  exact PySem.W.kia_one PySem.W.kitx_dict I.kIn ⟨o,h1,h2.1⟩ e (fun z=>nomatch z) h
 | @dT a kvs ea=>
  cases (show u=Value.ref a from rx)
  obtain ⟨_,_,xs,_,o,es,ep,h1,h2,_⟩:=(show ObjOk X.prog X.w H s.heap a (.dT kvs) from I.hok a _ ea)
  exact PySem.W.kia_one PySem.W.kitx_dict I.kIn ⟨o,h1,h2.1⟩ e (fun z=>nomatch z) h
 | @ins a C dx fs ea cl ha hn htk hm=>
  cases (show u=Value.ref a from rx)
  obtain ⟨mA,O,_⟩:=ZEF I.hok ea
  obtain ⟨od,J,_⟩:=O.look
  exact PySem.W.kia_one (PySem.W.kitx_own (cl.get _) cl.hd ha hn htk hm) I.kIn J e (fun z=>nomatch z) h
end
structure Room (k:Nat) (A:Around):Prop where
 hd:A.handled=none
 dp:A.depth+3 * k+5 < recursionLimit
 un:A.units+16 * k+200 < cLine
theorem Room.mono {j k:Nat} {A:Around} (r:Room k A) (h:j <= k):Room j A:=⟨r.hd,by have:=r.dp;omega,by have:=r.un;omega⟩
theorem Room.deeper {k:Nat} {A:Around} (r:Room (k+1) A) (env:Env):Room k (A.deeper env) :=
 ⟨r.hd,by have:=r.dp;show A.depth+1+3 * k+5 < _;omega,by have:=r.un;show A.units+3+16 * k+200 < _;omega⟩
theorem make_depth {A:Around} {C:Addr} {us:List Value} {kw:List (Str×Value)}:(A.under (.builtin "type.__call__" ⟨.ref C::us,kw⟩)).depth=A.depth+1:=by
 first | rfl | simp [Around.under,Code.weight,Code.isCreation,Code.isGuard,Code.isCaller,Code.frames,Code.isFrame,guardIds]
theorem make_units {A:Around} {C:Addr} {us:List Value} {kw:List (Str×Value)}:(A.under (.builtin "type.__call__" ⟨.ref C::us,kw⟩)).units=A.units+1:=by
 first | rfl | simp [Around.under,Code.cUnits,Code.frames,Code.isFrame]
theorem Room.make {k:Nat} {A:Around} (r:Room (k+1) A) (C:Addr) (us:List Value) (kw:List (Str×Value)):Room k (A.under (.builtin "type.__call__" ⟨.ref C::us,kw⟩)) :=
 ⟨r.hd,by have:=r.dp;rw [make_depth];omega,by have:=r.un;rw [make_units];omega⟩
theorem Room.depth {k:Nat} {A:Around} (r:Room k A):A.depth < recursionLimit:=by have:=r.dp;omega
theorem Room.units {k:Nat} {A:Around} (r:Room k A):A.units+64 < cLine:=by have:=r.un;omega
def tNil:TA:=fun _ H Q=>Q [] H
def ZB9 (ta:TE) (tr:TA):TA:=fun σ H Q=>ta σ H fun x H1=>tr σ H1 fun xs H2=>Q (x::xs) H2
section
variable {X:Cx} {e:Expr} {es:List Expr} {te:TE} {t:TA} {pos:Pos}
theorem ZAD:PA X [] tNil:=fun _ _ _ _ H Q I h=>Calls.spliced_nil ⟨[],H,I,.nil,h⟩
theorem ZAA (ha:PE X e te) (hr:PA X es t) (hs:starEach (e::es) X.env=(false,eval e X.env)::starEach es X.env:=by rfl):PA X (e::es) (ZB9 te t):=by
 intro pos pins s σ H Q I h
 rw [hs]
 show wpAny _ _ (spliced ((false,eval e X.env)::backTo pos (starEach es X.env))) _ _ s
 refine Calls.spliced_cons (thn (ha pins s σ H _ I h) fun u s1 ⟨x,H1,I1,r1,q1⟩=>?_)
 exact thn (hr pos pins s1 σ H1 _ I1 q1) fun us s2 ⟨xs,H2,I2,r2,q2⟩=>⟨x::xs,H2,I2,.cons r1 r2,q2⟩
def tTup (t:TA):TE:=fun σ H Q=>t σ H fun xs H1=>xs.length <= sizeLine /\ ∀ p,H1 p=none->Q (.ref p) (upd H1 p (.tup xs))
def tLst (t:TA):TE:=fun σ H Q=>t σ H fun xs H1=>xs.length <= sizeLine /\ ∀ p,H1 p=none->Q (.ref p) (upd H1 p (.lst xs))
theorem ZBO {x1} (h:PA X es t):PE X (.Tuple es x1 pos) (tTup t):=by
 intro pins s σ H Q I hq
 refine wpAny_Tuple_spliced (thn (h pos pins s σ H _ I hq) fun us s1 ⟨xs,H1,I1,r,z,q⟩=>⟨by rw [<- r.length];exact z,?_⟩)
 have hf:H1 s1.heap.objs.size=none:=I1.hok.fresh (yAA _)
 refine ⟨.ref s1.heap.objs.size,upd H1 s1.heap.objs.size (.tup xs),I1.laid (t':=s1.toks) (fun b u e=>Heap.get?_push_of_some _ e) (yAA _) ?_,rfl,q _ hf⟩
 exact ⟨z,us,r,⟨_,Heap.get?_push_size _ rfl,rfl,_,rfl⟩⟩
theorem ZBP (h:PA X es t):PE X (.List es pos) (tLst t):=by
 intro pins s σ H Q I hq
 refine wpAny_List_spliced (thn (h pos pins s σ H _ I hq) fun us s1 ⟨xs,H1,I1,r,z,q⟩=>⟨by rw [<- r.length];exact z,?_⟩)
 have hf:H1 s1.heap.objs.size=none:=I1.hok.fresh (yAA _)
 refine ⟨.ref s1.heap.objs.size,upd H1 s1.heap.objs.size (.lst xs),I1.laid (t':=s1.toks) (fun b u e=>Heap.get?_push_of_some _ e) (yAA _) ?_,rfl,q _ hf⟩
 exact ⟨z,us,0,r,Heap.get?_push_size _ rfl⟩
end
abbrev Sp:=List V->Hp->VK->XK->Prop
abbrev CXT:=List Env->Hp->Shared->XK->Value->Shared->Prop
structure Env0 (P:Program) (w:World) (K:W.Frag) (mg:Str->Option Value) (base:Heap) (A:Around) (outer:List Env) (s:Shared) (H:Hp):Prop where
 frames:A.frames=some outer
 mod:Mod K mg base
 bs:∀ b o,base.get? b=some o->s.heap.get? b=some o /\ H b=none
 bsz:base.objs.size <= s.heap.objs.size
 funs:s.heap.FunFrames base outer
 frf:∀ b∈frs outer,H b=none
 hok:HOk P w H s.heap
 bare:AllBare s.gens
def CE (outer:List Env) (P:Program) (w:World) (H:Hp) (s:Shared) (Q:VK) (u:Value) (s':Shared):Prop :=
 ∃ v H',s'.os=s.os /\ AllBare s'.gens /\ Un (frs outer) [] H H' s.heap s'.heap /\ HOk P w H' s'.heap /\ RelV v u /\ Q v H'
def CR (CX:CXT) (outer:List Env) (P:Program) (w:World) (H:Hp) (s:Shared) (Q:VK) (E:XK) (r:Result) (s':Shared):Prop :=
 match r with
 | .ok (.ret u)=>CE outer P w H s Q u s'
 | .ok _=>False
 | .error e=>CX outer H s E e s'
structure FnOk (P:Program) (w:World) (K:W.Frag) (mg:Str->Option Value) (base:Heap) (CX:CXT) (k:Nat) (f:Addr) (fd:FuncData) (ps:List Str) (sp:Sp):Prop where
 len:∀ vs H Q E,sp vs H Q E->vs.length=ps.length
 run:∀ (A:Around) (outer:List Env) (s:Shared) (H:Hp) (args:Args) (us:List Value) (vs:List V) (Q:VK) (E:XK),Room k A->Env0 P w K mg base A outer s H->BindsTo s fd args (ps.zip us)->Vals vs us->sp vs H Q E ->
  codeAny (model P w) A (.call (.ref f) args) (CR CX outer P w H s Q E) s
theorem Env0.make {P:Program} {w:World} {K:W.Frag} {mg:Str->Option Value} {base:Heap} {A:Around} {outer:List Env} {s:Shared} {H:Hp} (e:Env0 P w K mg base A outer s H) (C:Addr) (us:List Value) (kw:List (Str×Value)) :
  Env0 P w K mg base (A.under (.builtin "type.__call__" ⟨.ref C::us,kw⟩)) outer s H:=⟨by first | exact e.frames | (simpa [Around.under,Code.envs,Code.isFrame,pushEnvs] using e.frames),e.mod,e.bs,e.bsz,e.funs,e.frf,e.hok,e.bare⟩
section
variable {X:Cx} {pins:List (Addr×Obj)} {σ:St} {H:Hp} {s s':Shared}
theorem Inv.env0 (I:Inv X pins σ H s):Env0 X.prog X.w X.K X.mg X.base X.A X.stack s H :=
 ⟨I.ok.frames,I.ok.mod,I.bs,yAP I.ok.bsz I.sz,I.stack,I.stkFree,I.hok,I.bare⟩
theorem Inv.after {Q:VK} {u:Value} (I:Inv X pins σ H s) (h:CE X.stack X.prog X.w H s Q u s'):EP X pins σ Q u s':=by
 obtain ⟨v,H',os,bare,un,hok,r,q⟩:=h
 obtain ⟨hh,g,d,t,os'⟩:=s'
 obtain rfl:os'=s.os:=os
 exact ⟨v,H',I.call (h':=hh) (g':=g) (d':=d) (t':=t) (ch:=[]) un hok bare (fun b z=>absurd z (by simp)),r,q⟩
end
def ZFj (sp:Sp) (dvs:List V) (E:XK) (t:TA):TE:=fun σ H Q=>t σ H fun vs H1=>sp (vs++dvs) H1 Q E
def ZE9 (C:Addr) (m:Str) (sp:Sp) (dvs:List V) (E:XK) (ta:TE) (t:TA):TE:=fun σ H Q=>ta σ H fun x H1=>∃ a dx fs,x=.ref a /\ H1 a=some (.ins C dx fs) /\ fs.lookup m=none /\
 t σ H1 fun vs H2=>sp (x::(vs++dvs)) H2 Q E
def ZFJ (C:Addr) (sp:Sp) (dvs:List V) (E:XK) (t:TA):TE:=fun σ H Q=>t σ H fun vs H1=>∀ x dx,H1 x=none->H1 dx=none->dx≠x ->
 sp (.ref x::(vs++dvs)) (upd (upd H1 dx (.own x)) x (.ins C dx [])) (fun v H2=>v=.non /\ Q (.ref x) H2) E
def Binds (K:W.Frag) (fd:FuncData) (ps:List Str) (ds:List Value):Prop :=
 ∀ (s:Shared) (us:List Value),K.In s.heap->(us++ds).length=ps.length->BindsTo s fd ⟨us,[]⟩ (ps.zip (us++ds))
theorem Binds.all {K:W.Frag} {fd:FuncData} {ps:List Str} (h:∀ us:List Value,us.length=ps.length->bindArgs fd ⟨us,[]⟩=pure (ps.zip us)):Binds K fd ps []:=fun s us _ hl=>by
 rw [yBB] at hl ⊢
 exact .of_eq (h us hl)
def ZBy (CX:CXT) (X:Cx) (E:XK):Prop:=∀ (pins:List (Addr×Obj)) (σ:St) (H:Hp) (s:Shared) (e:Value) (s':Shared),Inv X pins σ H s->CX X.stack H s E e s'->X.xe e s'
section
variable {X:Cx} {CX:CXT} {k:Nat} {f C:Addr} {fd:FuncData} {ps:List Str} {sp:Sp} {dvs:List V} {ds:List Value} {E:XK} {x m:Str} {p pos apos:Pos} {e o:Expr} {es:List Expr} {ta:TE} {t:TA}
theorem ZFR {pins:List (Addr×Obj)} {σ:St} {H:Hp} {s:Shared} {Q:VK} {us:List Value} {vs:List V} (F:FnOk X.prog X.w X.K X.mg X.base CX k f fd ps sp) (hr:Room k X.A) (hb:Binds X.K fd ps ds) (hd:Vals dvs ds) (hx:ZBy CX X E)
  (I:Inv X pins σ H s) (r:Vals vs us) (h:sp (vs++dvs) H Q E):wpAny (model X.prog X.w) X.A (call (.ref f) us) (EP X pins σ Q) X.xe s:=by
 have r2:Vals (vs++dvs) (us++ds):=r.append hd
 have hl:(us++ds).length=ps.length:=by rw [<- r2.length];exact F.len _ _ _ _ h
 refine wpAny_call (codeAny_mono (F.run X.A X.stack s H ⟨us,[]⟩ (us++ds) (vs++dvs) Q E hr I.env0 (hb s us I.kIn hl) r2 h) fun r s' hq=>?_)
 cases r with
 | error e=>exact hx pins σ H s e s' I hq
 | ok fl=>
  cases fl with
  | ret u=>exact I.after hq
  | next=>exact False.elim hq
  | brk=>exact False.elim hq
  | cont=>exact False.elim hq
theorem pe_call (F:FnOk X.prog X.w X.K X.mg X.base CX k f fd ps sp) (hr:Room k X.A) (hg:Gl X x) (hm:X.mg x=some (.ref f)) (hk:W.keepIn X.K (.ref f)=true) (hb:Binds X.K fd ps ds) (hd:Vals dvs ds) (hx:ZBy CX X E)
  (ha:PA X (e::es) t) (hdb:(x == ("__debug__":Str))=false:=by decide) (he:starEach (e::es) X.env=(false,eval e X.env)::starEach es X.env:=by rfl) (hpl:(backTo pos (starEach es X.env)).any (·.1)=false:=by rfl) :
  PE X (.Call (.Name x p) (e::es) [] pos) (ZFj sp dvs E t):=by
 intro pins s σ H Q I h
 refine wpAny_Call_Name_kw (ZED I hg hm ?_ hdb)
 refine PySem.W.callWith_K (h₀:=X.base) I.ok.mod.kin hk (thn (ha pos pins s σ H _ I h) fun us s1 ⟨vs,H1,I1,r,q⟩=>⟨I1.kIn,?_⟩) he hpl
 exact ZFR F hr hb hd hx I1 r q
theorem pe_meth {pl:Sem Bool} (he:PE X o ta) (c:Cls X.K C) (hm:Meth X.K C m f) (F:FnOk X.prog X.w X.K X.mg X.base CX k f fd ps sp) (hr:Room k X.A) (hb:Binds X.K fd ps ds) (hd:Vals dvs ds) (hx:ZBy CX X E) (ha:PA X (e::es) t)
  (hst:starEach (e::es) X.env=(false,eval e X.env)::starEach es X.env:=by rfl) (hpl:(backTo pos (starEach es X.env)).any (·.1)=false:=by rfl)
  (ht:eval (.Call (.Attribute o m apos) (e::es) [] pos) X.env=(do
   let ov <- eval o X.env
   standAt apos.atName
   let (f,first) <- holding [ov] (getMethod ov m pl)
   callWith pos f first (backTo pos (starEach (e::es) X.env)) (backToKw pos (keywordEach [] X.env))):=by rfl) :
  PE X (.Call (.Attribute o m apos) (e::es) [] pos) (ZE9 C m sp dvs E ta t):=by
 intro pins s σ H Q I h
 refine PySem.W.methodCall_KW (pl:=pl) (thn (he pins s σ H _ I h) fun u s1 ⟨x,H1,I1,rx,a,dx,fs,ex,ea,l,q⟩=>?_) ht
 subst ex
 obtain rfl:u=Value.ref a:=rx
 refine getmeth_ok I1 ea c hm l ?_
 refine PySem.W.callWith_K (first:=[.ref a]) (h₀:=X.base) I.ok.mod.kin hm.kp (thn (ha pos pins s1 σ H1 _ I1 q) fun us s2 ⟨vs,H2,I2,r,q2⟩=>⟨I2.kIn,?_⟩) hst hpl
 exact ZFR (us:=.ref a::us) (vs:=.ref a::vs) F hr hb hd hx I2 (.cons rfl r) q2
theorem pe_meth0 {pl:Sem Bool} (he:PE X o ta) (c:Cls X.K C) (hm:Meth X.K C m f) (F:FnOk X.prog X.w X.K X.mg X.base CX k f fd ps sp) (hr:Room k X.A) (hb:Binds X.K fd ps ds) (hd:Vals dvs ds) (hx:ZBy CX X E)
  (ht:eval (.Call (.Attribute o m apos) [] [] pos) X.env=(do
   let ov <- eval o X.env
   standAt apos.atName
   let (f,first) <- holding [ov] (getMethod ov m pl)
   callWith pos f first (backTo pos (starEach [] X.env)) (backToKw pos (keywordEach [] X.env))):=by rfl) :
  PE X (.Call (.Attribute o m apos) [] [] pos) (ZE9 C m sp dvs E ta tNil):=by
 intro pins s σ H Q I h
 refine PySem.W.methodCall_KW (pl:=pl) (thn (he pins s σ H _ I h) fun u s1 ⟨x,H1,I1,rx,a,dx,fs,ex,ea,l,q⟩=>?_) ht
 subst ex
 obtain rfl:u=Value.ref a:=rx
 refine getmeth_ok I1 ea c hm l ?_
 exact PySem.W.callWith_K0 (first:=[.ref a]) I1.kIn hm.kp (ZFR (us:=[.ref a]) (vs:=[.ref a]) F hr hb hd hx I1 (.cons rfl .nil) q)
structure Mk (K:W.Frag) (C f:Addr):Prop where
 makes:PySem.W.makesIn K C=true
 init:W.findIn K (.ref C) "__init__"=some (some (.ref f))
 fn:PySem.W.isFn K (.ref f)=true
 kp:W.keepIn K (.ref C)=true
theorem run_make {pins:List (Addr×Obj)} {σ:St} {H:Hp} {s:Shared} {Q:VK} {us:List Value} {vs:List V} (M:Mk X.K C f) (F:FnOk X.prog X.w X.K X.mg X.base CX k f fd ps sp) (hr:Room (k+1) X.A) (hb:Binds X.K fd ps ds) (hd:Vals dvs ds)
  (hx:ZBy CX X E) (I:Inv X pins σ H s) (r:Vals vs us)
  (h:∀ x dx,H x=none->H dx=none->dx≠x->sp (.ref x::(vs++dvs)) (upd (upd H dx (.own x)) x (.ins C dx [])) (fun v H2=>v=.non /\ Q (.ref x) H2) E) :
  wpAny (model X.prog X.w) X.A (call (.ref C) us) (EP X pins σ Q) X.xe s:=by
 have hq:=h (s.heap.objs.size+1) s.heap.objs.size (I.hok.fresh (yBG _)) (I.hok.fresh (yAA _)) (yAO (yBR _))
 have I2:=Inv.made (C:=C) I
 have r2:Vals (V.ref (s.heap.objs.size+1)::(vs++dvs)) (Value.ref (s.heap.objs.size+1)::(us++ds)):=.cons rfl (r.append hd)
 have hl:(Value.ref (s.heap.objs.size+1)::us++ds).length=ps.length:=by
  have e:=r2.length
  rw [F.len _ _ _ _ hq] at e
  exact e.symm
 refine wpAny_call (make_map (f:=f) I.kIn M.makes M.init (beq_iff_eq.mp M.fn) (codeAny_mono (F.run _ X.stack _ _ ⟨Value.ref (s.heap.objs.size+1)::us,[]⟩ (Value.ref (s.heap.objs.size+1)::(us++ds)) _ _ E (hr.make C us [])
  (I2.env0.make C us []) (hb _ (Value.ref (s.heap.objs.size+1)::us) I2.kIn hl) r2 hq) fun r s' hq'=>?_))
 cases r with
 | error e=>exact hx pins σ _ _ e s' I2 hq'
 | ok fl=>
  cases fl with
  | ret u=>
   obtain ⟨v,H',I3,rv,ev,q3⟩:=I2.after hq'
   subst ev
   exact ⟨rv,⟨V.ref (s.heap.objs.size+1),H',I3,rfl,q3⟩⟩
  | next=>exact False.elim hq'
  | brk=>exact False.elim hq'
  | cont=>exact False.elim hq'
theorem pe_make (M:Mk X.K C f) (F:FnOk X.prog X.w X.K X.mg X.base CX k f fd ps sp) (hr:Room (k+1) X.A) (hg:Gl X x) (hm:X.mg x=some (.ref C)) (hb:Binds X.K fd ps ds) (hd:Vals dvs ds) (hx:ZBy CX X E)
  (ha:PA X (e::es) t) (hdb:(x == ("__debug__":Str))=false:=by decide) (he:starEach (e::es) X.env=(false,eval e X.env)::starEach es X.env:=by rfl) (hpl:(backTo pos (starEach es X.env)).any (·.1)=false:=by rfl) :
  PE X (.Call (.Name x p) (e::es) [] pos) (ZFJ C sp dvs E t):=by
 intro pins s σ H Q I h
 refine wpAny_Call_Name_kw (ZED I hg hm ?_ hdb)
 refine PySem.W.callWith_K (h₀:=X.base) I.ok.mod.kin M.kp (thn (ha pos pins s σ H _ I h) fun us s1 ⟨vs,H1,I1,r,q⟩=>⟨I1.kIn,?_⟩) he hpl
 exact run_make M F hr hb hd hx I1 r q
end
def PK (X:Cx) (kws:List Keyword) (t:TA):Prop :=
 ∀ (pos:Pos) (pins:List (Addr×Obj)) (s:Shared) (σ:St) (H:Hp) (Q:List V->Hp->Prop),Inv X pins σ H s->t σ H Q->wpAny (model X.prog X.w) X.A (evalAll ((backToKw pos (keywordEach kws X.env)).map (·.2))) (AP X pins σ Q) X.xe s
section
variable {X:Cx} {CX:CXT} {k:Nat} {f C:Addr} {fd:FuncData} {ps ks:List Str} {sp:Sp} {E:XK} {x m:Str} {p pos apos kpos:Pos} {e o:Expr} {es:List Expr} {kws:List Keyword} {te ta:TE} {t tk:TA} {nm:Option Str}
theorem pk_nil:PK X [] tNil:=fun _ _ _ _ H Q I h=>wpAny_evalAll_nil ⟨[],H,I,.nil,h⟩
theorem pk_cons (ha:PE X e te) (hr:PK X kws t):PK X (⟨nm,e,kpos⟩::kws) (ZB9 te t):=by
 intro pos pins s σ H Q I h
 show wpAny _ _ (evalAll ((do let v <- eval e X.env;standAt pos;pure v)::(backToKw pos (keywordEach kws X.env)).map (·.2))) _ _ s
 refine wpAny_evalAll_cons (wpAny_bind (thn (ha pins s σ H _ I h) fun u s1 ⟨x,H1,I1,r1,q1⟩=>wpAny_bind (wpAny_standAt (wpAny_pure ?_))))
 exact thn (hr pos pins s1 σ H1 _ I1 q1) fun us s2 ⟨xs,H2,I2,r2,q2⟩=>⟨x::xs,H2,I2,.cons r1 r2,q2⟩
structure KBinds (K:W.Frag) (fd:FuncData) (ps ks:List Str) (g:List Value->List Value->List Value) (gV:List V->List V->List V):Prop where
 to:∀ (s:Shared) (us ws:List Value),K.In s.heap->(g us ws).length=ps.length->BindsTo s fd ⟨us,ks.zip ws⟩ (ps.zip (g us ws))
 rel:∀ {vs:List V} {us:List Value} {zs:List V} {ws:List Value},Vals vs us->Vals zs ws->Vals (gV vs zs) (g us ws)
variable {g:List Value->List Value->List Value} {gV:List V->List V->List V}
end
structure FnScope (N P:List Str) (sc:Scope):Prop where
 kind:sc.kind=.function
 co:sc.isCoroutine=false
 gen:sc.isGenerator=false
 nd:N.Nodup
 pre:N.take P.length=P
 par:∀ x∈P,sc.names.lookup x=some .local∨sc.names.lookup x=some .cell
 nofree:∀ y∈sc.names,y.2≠.free
theorem bindL_out {kindOf:Str->Option NameKind} {x:Str}:∀ {binds:List (Str×Value)} {m:Str->Option Value},(∀ v,(x,v)∉binds)->bindL kindOf binds m x=m x
 | [],_,_=>rfl
 | (n,v)::r,m,h=>by
  unfold bindL
  rw [bindL_out fun w hw=>h w (yAC _ hw)]
  split
  .have:x≠n:=by rintro rfl;exact h v yAF
   simp [this]
  .rfl
theorem bindC_out {kindOf:Str->Option NameKind} {x:Str}:∀ {binds:List (Str×Value)} {m:Str->Option Value},(∀ v,(x,v)∉binds)->bindC kindOf binds m x=m x
 | [],_,_=>rfl
 | (n,v)::r,m,h=>by
  unfold bindC
  rw [bindC_out fun w hw=>h w (yAC _ hw)]
  split
  .rfl
  .have:x≠n:=by rintro rfl;exact h v yAF
   simp [this]
theorem bindL_get {kindOf:Str->Option NameKind} {x:Str} {v:Value}:∀ {P:List Str} {vs:List Value} {i:Nat} {m:Str->Option Value},P.Nodup->P[i]?=some x->vs[i]?=some v->kindOf x=some .local ->
  bindL kindOf (P.zip vs) m x=some v
 | [],_,_,_,_,h,_,_=>by simp at h
 | _::_,[],_,_,_,_,h,_=>by simp at h
 | p::P,w::vs,0,m,nd,h1,h2,hk=>by
  simp at h1 h2;subst h1;subst h2
  show bindL kindOf ((p,w)::P.zip vs) m p=_
  unfold bindL
  rw [bindL_out fun v hv=>(List.nodup_cons.mp nd).1 (List.of_mem_zip hv).1,if_pos hk]
  simp
 | p::P,w::vs,i+1,m,nd,h1,h2,hk=>by
  show bindL kindOf ((p,w)::P.zip vs) m x=_
  unfold bindL
  exact bindL_get (i:=i) (List.nodup_cons.mp nd).2 (by simpa using h1) (by simpa using h2) hk
theorem bindC_get {kindOf:Str->Option NameKind} {x:Str} {v:Value}:∀ {P:List Str} {vs:List Value} {i:Nat} {m:Str->Option Value},P.Nodup->P[i]?=some x->vs[i]?=some v->kindOf x≠some .local ->
  bindC kindOf (P.zip vs) m x=some v
 | [],_,_,_,_,h,_,_=>by simp at h
 | _::_,[],_,_,_,_,h,_=>by simp at h
 | p::P,w::vs,0,m,nd,h1,h2,hk=>by
  simp at h1 h2;subst h1;subst h2
  show bindC kindOf ((p,w)::P.zip vs) m p=_
  unfold bindC
  rw [bindC_out fun v hv=>(List.nodup_cons.mp nd).1 (List.of_mem_zip hv).1,if_neg hk]
  simp
 | p::P,w::vs,i+1,m,nd,h1,h2,hk=>by
  show bindC kindOf ((p,w)::P.zip vs) m x=_
  unfold bindC
  exact bindC_get (i:=i) (List.nodup_cons.mp nd).2 (by simpa using h1) (by simpa using h2) hk
def start (N:List Str) (vs:List V):St:=vs.map some++List.replicate (N.length-vs.length) none
def cxOf (CX:CXT) (P:Program) (w:World) (K:W.Frag) (mg:Str->Option Value) (base:Heap) (N:List Str) (qual:Str) (scope:Scope) (f:Addr) (cd:Value) (A:Around) (outer:List Env) (s:Shared) (H:Hp) (E:XK):Cx where
 prog:=P
 w:=w
 K:=K
 mg:=mg
 base:=base
 A:=A.deeper (envOfC qual scope s.heap.objs.size f cd)
 N:=N
 s₀:=s
 H₀:=H
 env:=envOfC qual scope s.heap.objs.size f cd
 outer:=outer
 stack:=envOfC qual scope s.heap.objs.size f cd::outer
 ex:=[]
 calm:=true
 fn:=fun _=>true
 pn:=[]
 xe:=fun e s'=>wpAny (model P w) (A.deeper (envOfC qual scope s.heap.objs.size f cd)) (leaving (envOfC qual scope s.heap.objs.size f cd) e) (fun _ s''=>CX outer H s E e s'') (fun e' s''=>CX outer H s E e' s'') s'
theorem ZDQ {sc:Scope} {n:Nat} {x:Str} (h:sc.names.lookup x=some .cell):∃ c,(cellsFrom n sc.names []).lookup x=some c:=by
 have q:=PySem.W.cellsFrom_some sc.names n [] (.inl h)
 exact Option.isSome_iff_exists.mp q
theorem inv_start {CX:CXT} {P:Program} {w:World} {K:W.Frag} {mg:Str->Option Value} {base:Heap} {N ps:List Str} {qual:Str} {scope:Scope} {f:Addr} {cd:Value} {A:Around} {outer:List Env} {s s1:Shared} {H:Hp} {E:XK} {us:List Value} {vs:List V}
  (S:FnScope N ps scope) (hd:A.handled=none) (e0:Env0 P w K mg base A outer s H) (hl:vs.length=ps.length) (r:Vals vs us)
  (x:InCallC s s.heap.objs.size (bindL (envOfC qual scope s.heap.objs.size f cd).kindOf (ps.zip us) fun _=>none) (cellsFrom (s.heap.objs.size+1) scope.names []) (bindC (envOfC qual scope s.heap.objs.size f cd).kindOf (ps.zip us) fun _=>none) s1) :
  Inv (cxOf CX P w K mg base N qual scope f cd A outer s H E) [] (start N vs) H s1:=by
 have hpl:ps.length <= N.length:=by have:=congrArg List.length S.pre;rw [yAN] at this;omega
 obtain ⟨h1,tk,rfl,hk⟩:=x.done
 have noA:∀ b:Addr,b∉(cxOf CX P w K mg base N qual scope f cd A outer s H E).ex:=fun b z=>absurd (show b∈([]:List Addr) from z) (by simp)
 refine ⟨⟨e0.mod,S.kind,rfl,rfl,yAA _,fun y z c h1 h2=>?_,fun y hy=>?_,fun y c _ h=>?_,fun _=>hd,Around.frames_deeper e0.frames,.inr ⟨rfl,rfl⟩,fun b z=>absurd z (noA b),e0.bs,e0.bsz,fun b _ _=>noA b,fun b z=>absurd z (noA b),e0.funs,e0.frf⟩,
  rfl,e0.bare,Un.kept hk,⟨_,x.toInCall.ns,fun i y v h1 h2 h3=>?_⟩,fun y c h=>⟨_,x.cell y c h⟩,e0.hok.fresh (yAA _),fun y c h=>?_,fun p hp=>absurd (show p∈([]:List (Addr×Obj)) from hp) (by simp),e0.hok.kept hk,?_⟩
 .exact name_of_addr x.apart (PySem.mem_of_lookup h1) (PySem.mem_of_lookup h2)
 .have hy:scope.names.lookup y=some .cell∨scope.names.lookup y=some .free:=hy
  rcases hy with hy | hy
  .exact ZDQ hy
  .exact absurd rfl (S.nofree _ (PySem.mem_of_lookup hy))
 .exact yBO (x.above y c (PySem.mem_of_lookup h))
 .have hi:i < vs.length:=by
   unfold start at h2
   by_cases hi:i < vs.length
   .exact hi
   .rw [yAY (by simpa using hi)] at h2
    rw [List.getElem?_replicate] at h2
    split at h2 <;> cases h2
  have ha:vs[i]?=some v:=by
   unfold start at h2
   rw [yAZ (by simpa using hi),yAW] at h2
   cases e:vs[i]? with
   | none=>rw [e] at h2;cases h2
   | some a=>rw [e] at h2;cases h2;rfl
  obtain ⟨u,hu,rv⟩:=r.get ha
  have hp:ps[i]?=some y:=by
   rw [<- S.pre,yBS (by omega)];exact h1
  have ndP:ps.Nodup:=by rw [<- S.pre];exact S.nd.sublist (List.take_sublist _ _)
  refine ⟨u,rv,?_⟩
  rcases S.par y (yAK hp) with k | k
  .exact .inl ⟨k,bindL_get ndP hp hu k⟩
  .obtain ⟨c,e⟩:=ZDQ (n:=s.heap.objs.size+1) k
   refine .inr ⟨.inl k,c,e,?_⟩
   have q:=x.cell y c e
   rw [bindC_get ndP hp hu (by show scope.names.lookup y≠_;rw [k];decide)] at q
   exact q
 .exact e0.hok.fresh (yBO (x.above y c (PySem.mem_of_lookup h)))
 .unfold start
  show _=N.length
  rw [yAD,yAB,yCF]
  omega
theorem fn_of {CX:CXT} {P:Program} {w:World} {K:W.Frag} {mg:Str->Option Value} {base:Heap} {k:Nat} {f:Addr} {name qual:Str} {params:Arguments} {body:List Stmt} {scope:Scope} {dV kV doc pm cdv ct oc:Value} {an od:Option Addr}
  {osl:Array (Option Value)} {N ps:List Str} {sp:Sp} (lk:K.lookup f=some ⟨oc,od,.func (W.fnOf name qual params body scope dV kV doc pm an cdv ct),osl⟩) (hcd:W.codeIn K cdv qual=true) (S:FnScope N ps scope)
  (len:∀ vs H Q E,sp vs H Q E->vs.length=ps.length)
  (hbody:∀ (A:Around) (outer:List Env) (s:Shared) (H:Hp) (vs:List V) (Q:VK) (E:XK),Room k (A.deeper (envOfC qual scope s.heap.objs.size f cdv))->sp vs H Q E ->
   ∃ t,PSs (cxOf CX P w K mg base N qual scope f cdv A outer s H E) body t /\ t { nx:=fun _ H'=>Q .non H',rt:=Q } (start N vs) H) :
  FnOk P w K mg base CX (k+1) f (W.fnOf name qual params body scope dV kV doc pm an cdv ct) ps sp:=by
 refine ⟨len,fun A outer s H args us vs Q E hr e0 hb r hsp=>?_⟩
 have hl:=len _ _ _ _ hsp
 have KX:K.In s.heap:=e0.mod.kin.keeps fun b o e=>(e0.bs b o e).1
 have lim:s.heap.NoLimit:=e0.mod.nolimit.keeps fun b o e=>(e0.bs b o e).1
 have hkind:∀ y∈ps.zip us,scope.names.lookup y.1=some .local∨(scope.names.lookup y.1=some .cell /\ ((cellsFrom (s.heap.objs.size+1) scope.names []).lookup y.1).isSome=true):=fun ⟨n,v⟩ hy=>by
  rcases S.par n (List.of_mem_zip hy).1 with q | q
  .exact .inl q
  .exact .inr ⟨q,PySem.W.cellsFrom_some _ _ _ (.inl q)⟩
 refine codeAny_call_function hr.depth (KX _ _ lk) rfl S.co S.gen rfl (PySem.W.codeRec_of KX hcd) (hb _ _ _ _ ?_)
 refine wpAny_newFunctionEnv_cells S.kind hkind fun env he s1 x=>?_
 subst he
 refine ⟨lim.keeps x.toInCall.keep,codeAny_func ?_⟩
 obtain ⟨t,ht,hq⟩:=hbody A outer s H vs Q E (hr.deeper _) hsp
 have I:Inv (cxOf CX P w K mg base N qual scope f cdv A outer s H E) [] (start N vs) H s1:=inv_start S hr.hd e0 hl r x
 refine wpAny_mono (ht [] s1 (start N vs) H _ I hq) (fun fl s' hs=>?_) fun e s' hs=>hs
 have fin:∀ {σ':St} {H':Hp} {v:V} {u:Value},Inv (cxOf CX P w K mg base N qual scope f cdv A outer s H E) [] σ' H' s'->RelV v u->Q v H'->CE outer P w H s Q u s' :=
  fun {σ' H' v u} J rv q=>⟨v,H',J.os,J.bare,J.base,J.hok,rv,q⟩
 cases fl with
 | ret u=>
  obtain ⟨v,σ',H',J,rv,q⟩:=hs
  exact fin J rv q
 | next=>
  obtain ⟨σ',H',J,q⟩:=hs
  exact fin (v:=V.non) (u:=Value.none) J rfl q
 | brk=>
  obtain ⟨_,_,_,q⟩:=hs
  exact False.elim q
 | cont=>
  obtain ⟨_,_,_,q⟩:=hs
  exact False.elim q
section
variable {X:Cx} {x:Str} {p pos:Pos} {e:Expr} {es:List Expr} {t:TA} {id T:String} {r:List V->Hp->VK->Prop}
def tCB (r:List V->Hp->VK->Prop) (t:TA):TE:=fun σ H Q=>t σ H fun vs H1=>r vs H1 Q
theorem ZAL (hc:ZCM X (.builtin id) r) (hg:Gl X x) (hm:X.mg x=none) (hv:bootBuiltins x=some (.builtin id)) (ha:PA X (e::es) t) (hn:x≠"__name__":=by decide) (hdb:(x == ("__debug__":Str))=false:=by decide)
  (he:starEach (e::es) X.env=(false,eval e X.env)::starEach es X.env:=by rfl) (hpl:(backTo pos (starEach es X.env)).any (·.1)=false:=by rfl):PE X (.Call (.Name x p) (e::es) [] pos) (tCB r t):=by
 intro pins s σ H Q I h
 refine wpAny_Call_Name_kw (ZDd I hg hm hv ?_ hn hdb)
 exact PyProof.Rows.callWith_builtin1 (thn (ha pos pins s σ H _ I h) fun us s1 ⟨vs,H1,I1,r1,q1⟩=>hc pins s1 σ H1 vs us Q I1 r1 q1) he hpl
theorem ZAl (hc:ZCM X (.type T) r) (hg:Gl X x) (hm:X.mg x=none) (hv:bootBuiltins x=some (.type T)) (ha:PA X (e::es) t) (hn:x≠"__name__":=by decide) (hdb:(x == ("__debug__":Str))=false:=by decide)
  (he:starEach (e::es) X.env=(false,eval e X.env)::starEach es X.env:=by rfl) (hpl:(backTo pos (starEach es X.env)).any (·.1)=false:=by rfl):PE X (.Call (.Name x p) (e::es) [] pos) (tCB r t):=by
 intro pins s σ H Q I h
 refine wpAny_Call_Name_kw (ZDd I hg hm hv ?_ hn hdb)
 exact PyProof.Rows.callWith_type1 (thn (ha pos pins s σ H _ I h) fun us s1 ⟨vs,H1,I1,r1,q1⟩=>hc pins s1 σ H1 vs us Q I1 r1 q1) he hpl
end
end L2
namespace HT
open PySem PyProof.Rows
def lexLt:List Int->List Int->Bool
 | [],[]=>false
 | [],_::_=>true
 | _::_,[]=>false
 | x::xs,y::ys=>if x=y then lexLt xs ys else decide (x < y)
theorem lexLt_cons (x y:Int) (xs ys:List Int):lexLt (x::xs) (y::ys)=if x=y then lexLt xs ys else decide (x < y):=rfl
theorem lexLt_nil_nil:lexLt [] []=false:=rfl
theorem lexLt_nil_cons (y:Int) (ys:List Int):lexLt [] (y::ys)=true:=rfl
theorem lexLt_cons_nil (x:Int) (xs:List Int):lexLt (x::xs) []=false:=rfl
theorem eqAt_int (A:Around) (s:Shared) (a:Int) (t:Tok) (c:Int) (u:Tok):∃ e,SeqAt.EqAt A s (.int a t) (.int c u) e /\ (e=true↔a=c) :=
 ⟨(a == c),SeqAt.EqAt.int_int a t c u,by simp⟩
section
open PySem.SeqAt
open PySem.AutoSeq1 (wpAny_loadPart')
open PySem.MeetsSeq PySem.MeetsSeq2 PySem.MeetsSeq3
end
section
variable {prog:Program} {w:World} {A:Around} {E:Value->Shared->Prop} {s:Shared}
def sIx (n d:Nat):Option Int->Nat
 | none=>d
 | some v=>if v < 0 then (v+(n:Int)).toNat else min v.toNat n
theorem sIx_none (n d:Nat):sIx n d none=d:=rfl
theorem sIx_nat (n d k:Nat):sIx n d (some (k:Int))=min k n:=by
 show (if (k:Int) < 0 then ((k:Int)+(n:Int)).toNat else min (k:Int).toNat n)=min k n
 rw [if_neg (by omega),Int.toNat_natCast]
end
end HT
namespace L2
open PySem PySem.Spec PyProof.Rows
abbrev TO:=St->Hp->(Option Int->Hp->Prop)->Prop
def PO (X:Cx) (e:Option Expr) (t:TO):Prop :=
 ∀ (pins:List (Addr×Obj)) (s:Shared) (σ:St) (H:Hp) (Q:Option Int->Hp->Prop),Inv X pins σ H s->t σ H Q ->
  wpAny (model X.prog X.w) X.A (evalPart e X.env) (fun u s'=>∃ o H',Inv X pins σ H' s' /\ IsPart u o /\ Q o H') X.xe s
def ZEc:TO:=fun _ H Q=>Q none H
def ZFs (t:TE):TO:=fun σ H Q=>t σ H fun x H1=>∃ i,x=.int i /\ Q (some i) H1
theorem ZB7 {ns:List Int}:∀ {us:List Value},Vals (ns.map V.int) us->IntsAre us ns:=by
 induction ns with
 | nil=>intro us r;rw [List.map_nil] at r;cases r;exact .nil
 | cons n ns ih=>
  intro us r
  rw [yAX] at r
  cases r with
  | cons r1 r2=>
   obtain ⟨t,e⟩:=r1
   subst e
   exact .cons n t (ih r2)
section
variable {X:Cx} {e:Expr} {te:TE} {lo hi:Option Expr} {tl th:TO} {pos p2:Pos}
theorem ZDa:PO X none ZEc:=by
 intro pins s σ H Q I h
 rw [evalPart_none]
 exact wpAny_pure ⟨none,H,I,.none,h⟩
theorem ZBl (h:PE X e te):PO X (some e) (ZFs te):=by
 intro pins s σ H Q I hw
 rw [evalPart_some]
 refine thn (h pins s σ H _ I hw) fun u s1 ⟨x,H1,I1,r1,q1⟩=>?_
 obtain ⟨i,rfl,q⟩:=q1
 obtain ⟨t,rfl⟩:=r1
 exact ⟨some i,H1,I1,.int i t,q⟩
def SlR (X:Cx) (r:V->Option Int->Option Int->Hp->VK->Prop):Prop :=
 ∀ (pins:List (Addr×Obj)) (s:Shared) (σ:St) (H:Hp) (x:V) (v vl vu:Value) (lo hi:Option Int) (sl:Addr) (Q:VK),Inv X pins σ H s->RelV x v->s.heap.IsSliceOf sl vl vu .none->IsPart vl lo->IsPart vu hi->r x lo hi H Q ->
  ∃ T id,typeLookup (.type T) "__getitem__"=pure (some (.builtin id)) /\ s.TypeIs v T /\ wpAny (model X.prog X.w) X.A (getItem v (.ref sl)) (EP X pins σ Q) X.xe s
def tSl (r:V->Option Int->Option Int->Hp->VK->Prop) (te:TE) (tl th:TO):TE:=fun σ H Q=>te σ H fun x H1=>tl σ H1 fun l H2=>th σ H2 fun u H3=>r x l u H3 Q
theorem ZBu {r:V->Option Int->Option Int->Hp->VK->Prop} (hr:SlR X r) (he:PE X e te) (hl:PO X lo tl) (hu:PO X hi th):PE X (.Subscript e (.Slice lo hi none p2) pos) (tSl r te tl th):=by
 intro pins s σ H Q I h
 refine Subscript_ (thn (he pins s σ H _ I h) fun v s1 ⟨x,H1,I1,r1,q1⟩=>?_)
 refine wpAny_Slice (thn (hl pins s1 σ H1 _ I1 q1) fun vl s2 ⟨l,H2,I2,pl,q2⟩=>thn (hu pins s2 σ H2 _ I2 q2) fun vu s3 ⟨u,H3,I3,pu,q3⟩=>?_)
 rw [evalPart_none]
 refine wpAny_pure ?_
 have I4:Inv X pins σ H3 { s3 with heap:=s3.heap.push { cls:=.type "slice",data:=.fields #[vl,vu,.none] } }:=I3.kept (t':=s3.toks) fun b ob q=>Heap.get?_push_of_some _ q
 obtain ⟨T,id,hT,ht,hg⟩:=hr pins { s3 with heap:=s3.heap.push { cls:=.type "slice",data:=.fields #[vl,vu,.none] } } σ H3 x v vl vu l u s3.heap.objs.size Q I4 r1 (Heap.IsSliceOf.new ..) pl pu q3
 show wpAny (model X.prog X.w) X.A (subscriptTail e (.Slice lo hi none p2) v (.ref s3.heap.objs.size)) (EP X pins σ Q) X.xe { s3 with heap:=s3.heap.push { cls:=.type "slice",data:=.fields #[vl,vu,.none] } }
 exact tail_any (ops:=[.ref s3.heap.objs.size,v]) ht hT hg (by with_unfolding_all rfl)
def cutV (xs:List V) (lo hi:Option Int):List V:=(xs.drop (HT.sIx xs.length 0 lo)).take (HT.sIx xs.length xs.length hi-HT.sIx xs.length 0 lo)
theorem cutV_length (xs:List V) (lo hi:Option Int):(cutV xs lo hi).length <= xs.length:=by
 unfold cutV
 rw [yAN,yAU]
 omega
end
def ixN (n:Nat) (i:Int):Option Nat:=if 0 <= i then (if i < n then some i.toNat else none) else if -(n:Int) <= i then some (i+n).toNat else none
def atI {α:Type} (xs:List α) (i:Int):Option α:=(ixN xs.length i).bind fun j=>xs[j]?
theorem ixN_seq {n:Nat} {i:Int} {j:Nat} (h:ixN n i=some j):seqIndex? i n=some j /\ j < n /\ -(n:Int) <= i /\ i < n:=by
 unfold ixN at h
 by_cases h0:0 <= i
 .rw [if_pos h0] at h
  by_cases h1:i < n
  .rw [if_pos h1] at h
   have e:i.toNat=j:=Option.some.inj h
   exact ⟨by rw [seqIndex_of h0 h1,e],by omega,by omega,h1⟩
  .rw [if_neg h1] at h;cases h
 .rw [if_neg h0] at h
  by_cases h1:-(n:Int) <= i
  .rw [if_pos h1] at h
   have e:(i+n).toNat=j:=Option.some.inj h
   exact ⟨by rw [seqIndex_neg (by omega) h1,e],by omega,h1,by omega⟩
  .rw [if_neg h1] at h;cases h
theorem atI_get {α:Type} {xs:List α} {i:Int} {v:α} (h:atI xs i=some v):∃ j,seqIndex? i xs.length=some j /\ xs[j]?=some v /\ j < xs.length /\ -(xs.length:Int) <= i /\ i < xs.length:=by
 unfold atI at h
 cases e:ixN xs.length i with
 | none=>rw [e] at h;cases h
 | some j=>
  rw [e] at h
  obtain ⟨h1,h2,h3,h4⟩:=ixN_seq e
  exact ⟨j,h1,h,h2,h3,h4⟩
theorem atI_nat {α:Type} {xs:List α} {j:Nat} {v:α} (h:xs[j]?=some v):atI xs (j:Int)=some v:=by
 have hj:j < xs.length:=(yAH.mp h).1
 have e:ixN xs.length (j:Int)=some j:=by
  unfold ixN
  rw [if_pos (by omega),if_pos (by omega)];simp
 unfold atI;rw [e];exact h
def PlainIx (b:Expr):Prop:=∀ o i,subscripted b false o i=operate [o,i] (getItem o i)
def IxR (X:Cx) (r:R2):Prop :=
 ∀ (value slice:Expr) (pins:List (Addr×Obj)) (s:Shared) (σ:St) (H:Hp) (x y:V) (v u:Value) (Q:VK),Inv X pins σ H s->RelV x v->RelV y u->r x y H Q ->
  subscripted slice false v u=operate [v,u] (getItem v u)->wpAny (model X.prog X.w) X.A (subscriptTail value slice v u) (EP X pins σ Q) X.xe s
def MtR (X:Cx) (id:String) (r:V->List V->Hp->VK->Prop):Prop :=
 ∀ (pins:List (Addr×Obj)) (s:Shared) (σ:St) (H:Hp) (x:V) (xs:List V) (v:Value) (us:List Value) (Q:VK),Inv X pins σ H s->RelV x v->Vals xs us->r x xs H Q ->
  wpAny (model X.prog X.w) X.A (call (.builtin id) (v::us)) (EP X pins σ Q) X.xe s
section
variable {X:Cx} {a b:Expr} {ta tb:TE} {pos:Pos}
theorem ZAc {r:R2} (hr:IxR X r) (ha:PE X a ta) (hb:PE X b tb) (hs:PlainIx b):PE X (.Subscript a b pos) (tOp r ta tb):=by
 intro pins s σ H Q I h
 exact Subscript_ (binT ha hb I h fun v u s2 x y H2 I2 rx ry q=>hr a b pins s2 σ H2 x y v u Q I2 rx ry q (hs _ _))
def rIxL (K:W.Frag):R2:=fun x y H Q=>∃ p xs i v,x=.ref p /\ y=.int i /\ SqL K H p xs /\ atI xs i=some v /\ Q v H
def rIxT (K:W.Frag):R2:=fun x y H Q=>∃ p xs i v,x=.ref p /\ y=.int i /\ SqT K H p xs /\ atI xs i=some v /\ Q v H
theorem ZAa:IxR X (rIxL X.K):=by
 intro value slice pins s σ H x y v u Q I rx ry h hs
 obtain ⟨p,xs,i,z,rfl,rfl,hq,he,q⟩:=h
 cases rx
 obtain ⟨t,rfl⟩:=ry
 obtain ⟨its,r,pl,hz⟩:=I.list hq
 obtain ⟨j,h1,h2,h3,h4,h5⟩:=atI_get he
 obtain ⟨w,ew,rw'⟩:=r.get h2
 have hl:=r.length
 have hn:=ZE4
 have fin:EP X pins σ Q w s:=⟨z,H,I,rw',q⟩
 by_cases h0:0 <= i
 .have hj:i.toNat=j:=by
   rw [seqIndex_of h0 h5] at h1
   exact Option.some.inj h1
  exact item_listR pl.isList h0 (by omega) (by rw [hj];simpa using ew) fin hs
 .have hj:(i+(its.toArray.size:Int)).toNat=j:=by
   rw [seqIndex_neg (by omega) h4] at h1
   rw [yAT,<- hl]
   exact Option.some.inj h1
  exact subscriptTail_builtinR (x:=w) pl.isList.typeIs slot_list_getitem.lookup
   (wpAny_getItem_list_neg (Q:=fun r s'=>r=w /\ EP X pins σ Q r s') pl.isList (by omega) (by rw [yAT] <;> omega) (by omega) (by rw [hj];simpa using ew) ⟨rfl,fin⟩) hs
theorem ZA2:IxR X (rIxT X.K):=by
 intro value slice pins s σ H x y v u Q I rx ry h hs
 obtain ⟨p,xs,i,z,rfl,rfl,hq,he,q⟩:=h
 cases rx
 obtain ⟨t,rfl⟩:=ry
 obtain ⟨its,r,pl,hz⟩:=I.tuple hq
 obtain ⟨j,h1,h2,h3,h4,h5⟩:=atI_get he
 obtain ⟨w,ew,rw'⟩:=r.get h2
 have hl:=r.length
 have hn:=ZE4
 have fin:EP X pins σ Q w s:=⟨z,H,I,rw',q⟩
 exact subscriptTail_builtinR (x:=w) pl.typeIs slot_tuple_getitem.lookup
  (getItem_tuple (j:=j) (Q:=fun r s'=>r=w /\ EP X pins σ Q r s') pl (by omega) (by omega) (by rw [yAT,<- hl];exact h1) (by simpa using ew) ⟨rfl,fin⟩) hs
theorem mapSeq_set (its:List Value) (n j:Nat) (u:Value):Obj.mapSeq (·.setIfInBounds j u) { cls:=.type "list",data:=.seq its.toArray n }={ cls:=.type "list",data:=.seq (its.set j u).toArray n }:=by
 simp [Obj.mapSeq]
theorem Inv.lst {pins:List (Addr×Obj)} {σ:St} {H:Hp} {s:Shared} {p:Addr} {xs:List V} (I:Inv X pins σ H s) (h:H p=some (.lst xs)) :
  ∃ (its:List Value) (n:Nat),Vals xs its /\ s.heap.get? p=some { cls:=.type "list",data:=.seq its.toArray n } /\ xs.length <= sizeLine:=by
 obtain ⟨z,its,n,r,e⟩:=I.hok p _ h
 exact ⟨its,n,r,e,z⟩
theorem Inv.lstUpd {pins:List (Addr×Obj)} {σ:St} {H:Hp} {s:Shared} {p:Addr} {xs ys:List V} {its its':List Value} {n n':Nat} {f:Obj->Obj} (I:Inv X pins σ H s) (h:H p=some (.lst xs))
  (ho:s.heap.get? p=some { cls:=.type "list",data:=.seq its.toArray n }) (hf:f { cls:=.type "list",data:=.seq its.toArray n }={ cls:=.type "list",data:=.seq its'.toArray n' }) (r:Vals ys its') (hz:ys.length <= sizeLine) (t:Nat) :
  Inv X pins σ (upd H p (.lst ys)) { s with heap:=s.heap.update p f,toks:=t }:=by
 have e:(s.heap.update p f).get? p=some { cls:=.type "list",data:=.seq its'.toArray n' }:=by
  rw [Heap.get?_update_self f ho (by rw [hf] <;> rfl),hf]
 refine I.write (x:=p) (e:=p) (by rw [h];trivial) (.inl rfl) (fun b u hb q=>(Heap.get?_update_other _ _ (Ne.symm hb)).trans q) ⟨_,e⟩ ?_
 exact ⟨hz,its',n',r,e⟩
def rSetL:V->V->V->Hp->(Hp->Prop)->Prop:=fun o i v H Q=>∃ p xs k j,o=.ref p /\ i=.int k /\ H p=some (.lst xs) /\ ixN xs.length k=some j /\ Q (upd H p (.lst (xs.set j v)))
theorem ZD9:PSet X rSetL:=by
 intro pins s σ H o i v ov iv u Q I ro ri rv h
 obtain ⟨p,xs,k,j,rfl,rfl,hp,hj,q⟩:=h
 cases ro
 obtain ⟨t,rfl⟩:=ri
 obtain ⟨its,n,r,ho,hz⟩:=I.lst hp
 obtain ⟨h1,h2,h3,h4⟩:=ixN_seq hj
 have hl:=r.length
 have hn:=ZE4
 have I':Inv X pins σ (upd H p (.lst (xs.set j v))) { s with heap:=s.heap.update p (Obj.mapSeq (·.setIfInBounds j u)) } :=
  I.lstUpd hp ho (mapSeq_set its n j u) (r.set rv j) (by rw [List.length_set];exact hz) s.toks
 by_cases h0:0 <= k
 .have hk:k.toNat=j:=by
   rw [seqIndex_of h0 h4] at h1
   exact Option.some.inj h1
  exact PySem.W.ki_setAt ho h0 (by omega) (by rw [yAT,<- hl];exact h4) (by rw [hk];exact ⟨_,I',q⟩)
 .have hk:(k+(its.toArray.size:Int)).toNat=j:=by
   rw [seqIndex_neg (by omega) h3] at h1
   rw [yAT,<- hl]
   exact Option.some.inj h1
  exact PySem.W.ki_setBack ho (by omega) (by rw [yAT,<- hl];exact h3) (by omega) (by rw [hk];exact ⟨_,I',q⟩)
theorem slice_bounds (lo hi:Option Int) (n:Nat):(sliceBounds lo hi none n).1=((HT.sIx n 0 lo:Nat):Int) /\ (sliceBounds lo hi none n).2.1=((HT.sIx n n hi:Nat):Int) /\ (sliceBounds lo hi none n).2.2=1:=by
 refine ⟨?_,?_,rfl⟩
 .cases lo with
  | none=>simp [sliceBounds,HT.sIx]
  | some i=>
   simp only [sliceBounds,HT.sIx,Option.getD_none,show (1:Int) > 0 by decide,if_true]
   by_cases h:i < 0
   .simp only [h,if_true] <;> omega
   .simp only [h,if_false] <;> omega
 .cases hi with
  | none=>simp [sliceBounds,HT.sIx]
  | some i=>
   simp only [sliceBounds,HT.sIx,Option.getD_none,show (1:Int) > 0 by decide,if_true]
   by_cases h:i < 0
   .simp only [h,if_true] <;> omega
   .simp only [h,if_false] <;> omega
theorem slicePick_cut (its:List Value) (lo hi:Option Int):slicePick its.toArray lo hi none=((its.drop (HT.sIx its.length 0 lo)).take (HT.sIx its.length its.length hi-HT.sIx its.length 0 lo)).toArray:=by
 obtain ⟨h1,h2,h3⟩:=slice_bounds lo hi its.toArray.size
 unfold slicePick
 rw [h1,h2,h3]
 simp only [sliceRange_one,pick_run,yAT] <;> rfl
def rSlL (K:W.Frag):V->Option Int->Option Int->Hp->VK->Prop:=fun x lo hi H Q=>∃ a xs,x=.ref a /\ SqL K H a xs /\ ∀ p,H p=none->Q (.ref p) (upd H p (.lst (cutV xs lo hi)))
theorem ZCP:SlR X (rSlL X.K):=by
 intro pins s σ H x v vl vu lo hi sl Q I rx hs pl pu h
 obtain ⟨a,xs,rfl,hx,q⟩:=h
 cases rx
 obtain ⟨its,r,ht,hz⟩:=I.list hx
 have hlen:=r.length
 refine ⟨"list",_,slot_list_getitem.lookup,ht.isList.typeIs,?_⟩
 refine wpAny_getItem_list_slice ht.isList hs pl pu .none (by simp) ?_ (by rw [yAT] <;> omega)
 rw [slicePick_cut,<- hlen]
 refine ⟨.ref s.heap.objs.size,_,I.laid (t':=s.toks) (o:=.lst (cutV xs lo hi)) (fun b ob q=>Heap.get?_push_of_some _ q) (yAA _) ?_,rfl,q _ (I.hok.fresh (yAA _))⟩
 exact ⟨yAP (cutV_length xs lo hi) hz,_,0,(r.drop (HT.sIx xs.length 0 lo)).take (HT.sIx xs.length xs.length hi-HT.sIx xs.length 0 lo),Heap.get?_push_size _ rfl⟩
theorem ZAK:ZCM X (.builtin "len") (fun xs H Q=>∃ p ys,xs=[.ref p] /\ (SqL X.K H p ys∨SqT X.K H p ys) /\ Q (.int ys.length) H):=by
 intro pins s σ H xs us Q I r h
 obtain ⟨p,ys,rfl,hq,q⟩:=h
 obtain ⟨u,rfl,rx⟩:=ZDS r
 cases rx
 have hn:=ZE4
 rcases hq with hq | hq
 .obtain ⟨its,r',pl,hz⟩:=I.list hq
  have hlen:=r'.length
  exact Calls.call_len_list pl.isList (by simp only [yAT] <;> omega) ⟨.int ys.length,H,I.tok _,⟨s.toks+1,by rw [yAT,hlen]⟩,q⟩
 .obtain ⟨its,r',pl,hz⟩:=I.tuple hq
  have hlen:=r'.length
  exact len_tuple pl (by simp only [yAT] <;> omega) ⟨.int ys.length,H,I.tok _,⟨s.toks+1,by rw [yAT,hlen]⟩,q⟩
theorem ZBI:ZCM X (.type "list") (fun xs H Q=>∃ p ys,xs=[.ref p] /\ (SqL X.K H p ys∨SqT X.K H p ys) /\ ∀ l,H l=none->Q (.ref l) (upd H l (.lst ys))):=by
 intro pins s σ H xs us Q I r h
 obtain ⟨p,ys,rfl,hq,q⟩:=h
 obtain ⟨u,rfl,rx⟩:=ZDS r
 cases rx
 have fin:∀ (its:List Value),Vals ys its->ys.length <= sizeLine->∀ (h':Heap) (c':Nat),(∀ b o',s.heap.get? b=some o'->h'.get? b=some o') ->
   h'.get? s.heap.objs.size=some { cls:=.type "list",dict:=none,data:=.seq its.toArray c',slots:=#[] }->EP X pins σ Q (.ref s.heap.objs.size) { s with heap:=h' }:=fun its r' hz h' c' kp e=>
  ⟨.ref s.heap.objs.size,_,I.laid (t':=s.toks) kp (yAA _) (show ObjOk X.prog X.w _ h' _ (.lst ys) from ⟨hz,its,c',r',e⟩),rfl,q _ (I.hok.fresh (yAA _))⟩
 rcases hq with hq | hq
 .obtain ⟨its,r',pl,hz⟩:=I.list hq
  have hlen:=r'.length
  obtain ⟨o,ho,hc,n,hd⟩:=pl.isList
  exact call_list_seq p (.inl rfl) ho hc hd (fun h' c' kp e=>fin its r' hz h' c' kp e) (by simp only [yAT] <;> omega)
 .obtain ⟨its,r',pl,hz⟩:=I.tuple hq
  have hlen:=r'.length
  obtain ⟨o,ho,hc,n,hd⟩:=pl
  exact call_list_seq p (.inr rfl) ho hc hd (fun h' c' kp e=>fin its r' hz h' c' kp e) (by simp only [yAT] <;> omega)
def tyV (K:W.Frag) (T:String) (x:V) (H:Hp):Prop:=match x with
 | .str _=>T="str"
 | .int _=>T="int"
 | .ref p=>(T="list" /\ ∃ xs,SqL K H p xs)∨(T="tuple" /\ ∃ o,K.lookup p=some o /\ o.cls=.type "tuple" /\ o.dict=none) ∨
   (T="dict" /\ ((∃ kvs,H p=some (.dK kvs))∨∃ kvs,H p=some (.dT kvs)))∨(T="set" /\ ∃ S n,H p=some (.set S n))
 | _=>False
theorem tyV_is {pins:List (Addr×Obj)} {σ:St} {H:Hp} {s:Shared} {T:String} {x:V} {v:Value} (I:Inv X pins σ H s) (r:RelV x v) (ty:tyV X.K T x H) :
  s.TypeIs v T /\ ∀ a,v=.ref a->∃ ob,s.heap.get? a=some ob /\ ob.dict=none:=by
 cases x with
 | str z=>
  obtain ⟨t,rfl⟩:=r
  cases (show T="str" from ty)
  exact ⟨typeIs_str s z t,fun _ e=>nomatch e⟩
 | int i=>
  obtain ⟨t,rfl⟩:=r
  cases (show T="int" from ty)
  exact ⟨typeIs_int s i t,fun _ e=>nomatch e⟩
 | ref p=>
  cases r
  rcases ty with ⟨rfl,xs,hq⟩ | ⟨rfl,o,hk,hc,hd⟩ | ⟨rfl,hk⟩ | ⟨rfl,S,n,hk⟩
  .obtain ⟨its,_,pl,_⟩:=I.list hq
   refine ⟨pl.isList.typeIs,fun a e=>?_⟩
   cases e
   obtain ⟨o,n,e,c,hd,_⟩:=pl
   exact ⟨o,e,hd⟩
  .refine ⟨⟨o,I.kIn p o hk,hc⟩,fun a e=>?_⟩
   cases e
   exact ⟨o,I.kIn _ o hk,hd⟩
  .have z:∃ o,s.heap.get? p=some o /\ o.ExactDict:=by
    rcases hk with ⟨kvs,hk⟩ | ⟨kvs,hk⟩
    .obtain ⟨_,_,_,_,o,_,_,e,ex,_⟩:=I.hok p _ hk
     exact ⟨o,e,ex⟩
    .obtain ⟨_,_,_,_,o,_,_,e,ex,_⟩:=I.hok p _ hk
     exact ⟨o,e,ex⟩
   obtain ⟨o,e,ex⟩:=z
   refine ⟨⟨o,e,ex.1⟩,fun a e2=>?_⟩
   cases e2
   exact ⟨o,e,ex.2.1⟩
  .obtain ⟨o,_,_,_,e,ex,_⟩:=I.hok p _ hk
   refine ⟨⟨o,e,ex.1⟩,fun a e2=>?_⟩
   cases e2
   exact ⟨o,e,ex.2.1⟩
 | _=>exact False.elim ty
def tBM0 (K:W.Frag) (T:String) (r:V->List V->Hp->VK->Prop) (to:TE):TE:=fun σ H Q=>to σ H fun x H1=>tyV K T x H1 /\ r x [] H1 Q
def tBM (K:W.Frag) (T:String) (r:V->List V->Hp->VK->Prop) (to:TE) (t:TA):TE:=fun σ H Q=>to σ H fun x H1=>tyV K T x H1 /\ t σ H1 fun xs H2=>r x xs H2 Q
variable {o e:Expr} {es:List Expr} {to:TE} {t:TA} {name:Str} {apos cpos:Pos} {T id:String} {r:V->List V->Hp->VK->Prop}
theorem ZE0 (pa:PlainAttrs T) (slot:Slot T name id) (hty:typeOf (.builtin id)=pure (.type "method_descriptor")) (hm:MtR X id r) (ho:PE X o to)
  (hbase:attributeBase o name X.env (eval o X.env)=eval o X.env:=by rfl) (hline:(apos.endLine == cpos.line)=true:=by rfl):PE X (.Call (.Attribute o name apos) [] [] cpos) (tBM0 X.K T r to):=by
 intro pins s σ H Q I h
 refine wpAny_Call_method0_late hbase hline (thn (ho pins s σ H _ I h) fun v s1 ⟨x,H1,I1,r1,ty,q1⟩=>?_)
 obtain ⟨h1,h2⟩:=tyV_is I1 r1 ty
 exact ⟨T,id,pa,slot,hty,h1,h2,Calls.callWith_builtin rfl (PySem.evalArgs_none (hm pins s1 σ H1 x [] v [] Q I1 r1 .nil q1))⟩
theorem ZCk (pa:PlainAttrs T) (slot:Slot T name id) (hty:typeOf (.builtin id)=pure (.type "method_descriptor")) (hm:MtR X id r) (ho:PE X o to) (ha:PA X (e::es) t)
  (hbase:attributeBase o name X.env (eval o X.env)=eval o X.env:=by rfl)
  (hfew:((backTo cpos (starEach (e::es) X.env)).all (fun x=>!x.1) && (backToKw cpos (keywordEach [] X.env)).all (fun x=>x.1.isSome)
   && decide ((e::es).length+([]:List Keyword).length+(if ([]:List Keyword).isEmpty then 0 else 1) < 30))=true:=by rfl)
  (hline:(apos.endLine == cpos.line)=true:=by rfl) (hs:starEach (e::es) X.env=(false,eval e X.env)::starEach es X.env:=by rfl) (hplain:(backTo cpos (starEach es X.env)).any (·.1)=false:=by rfl) :
  PE X (.Call (.Attribute o name apos) (e::es) [] cpos) (tBM X.K T r to t):=by
 intro pins s σ H Q I h
 refine wpAny_Call_method_late hbase hfew hline rfl (thn (ho pins s σ H _ I h) fun v s1 ⟨x,H1,I1,r1,ty,q1⟩=>?_)
 obtain ⟨h1,h2⟩:=tyV_is I1 r1 ty
 refine ⟨T,id,pa,slot,hty,h1,h2,?_⟩
 have hA:=ha cpos pins s1 σ H1 _ I1 q1
 rw [hs] at hA ⊢
 refine Calls.callWith_builtin (by show (false || (backTo cpos (starEach es X.env)).any (·.1))=false;rw [hplain] <;> rfl) (Calls.evalArgs_plain ?_)
 exact thn hA fun us s2 ⟨vs,H2,I2,r2,q2⟩=>hm pins s2 σ H2 x vs v us Q I2 r1 r2 q2
end
def MtM (X:Cx) (id:String) (r:V->List V->Hp->VK->Prop):Prop :=
 ∀ (pins:List (Addr×Obj)) (s:Shared) (σ:St) (H:Hp) (x:V) (xs:List V) (v:Value) (us:List Value) (Q:VK),Inv X pins σ H s->RelV x v->Vals xs us->r x xs H Q ->
  wpAny (model X.prog X.w) X.A (call (.builtin id) (v::us)) (EP X pins σ Q) X.xe s
theorem Vals.one:∀ {x:V} {us:List Value},Vals [x] us->∃ u,us=[u] /\ RelV x u
 | _,_,.cons r .nil=>⟨_,rfl,r⟩
theorem Vals.two:∀ {x y:V} {us:List Value},Vals [x,y] us->∃ u v,us=[u,v] /\ RelV x u /\ RelV y v
 | _,_,_,.cons r (.cons q .nil)=>⟨_,_,rfl,r,q⟩
theorem Vals.zero:∀ {us:List Value},Vals [] us->us=[]
 | _,.nil=>rfl
theorem Vals.eraseIdx:∀ {xs:List V} {us:List Value} (i:Nat),Vals xs us->Vals (xs.eraseIdx i) (us.eraseIdx i)
 | _,_,_,.nil=>.nil
 | _,_,0,.cons _ t=>t
 | _,_,i+1,.cons r t=>.cons r (Vals.eraseIdx i t)
theorem Vals.reverse {xs:List V} {us:List Value} (h:Vals xs us):Vals xs.reverse us.reverse:=by
 induction h with
 | nil=>exact .nil
 | cons r t ih=>rw [List.reverse_cons,List.reverse_cons];exact Vals.append ih (.cons r .nil)
theorem len_erase {α:Type}:∀ (l:List α) (i:Nat),(l.eraseIdx i).length <= l.length
 | [],_=>yAA _
 | _::_,0=>yBG _
 | _::r,i+1=>Nat.succ_le_succ (len_erase r i)
section
variable {X:Cx} {pins:List (Addr×Obj)} {σ:St} {H:Hp} {s:Shared} {l b:Addr} {xs ys zs:List V}
theorem Inv.lset {its its':List Value} {n:Nat} {f:Array Value->Array Value} {t':Nat} (I:Inv X pins σ H s) (hH:H l=some (.lst xs))
  (e:s.heap.get? l=some { cls:=.type "list",data:=.seq its.toArray n }) (hf:f its.toArray=its'.toArray) (hv:Vals ys its') (hz:ys.length <= sizeLine) :
  Inv X pins σ (upd H l (.lst ys)) { s with heap:=s.heap.update l (Obj.mapSeq f),toks:=t' }:=by
 have q:=PySem.IsL.update e f
 rw [hf] at q
 refine I.write (x:=l) (e:=l) (by rw [hH];exact trivial) (.inl rfl) (fun b' u hb hu=>(Heap.get?_update_other s.heap (Obj.mapSeq f) (Ne.symm hb)).trans hu) ⟨_,q⟩ ?_
 exact ⟨hz,its',_,hv,q⟩
theorem Inv.lnew {its:List Value} {t':Nat} (I:Inv X pins σ H s) (hv:Vals ys its) (hz:ys.length <= sizeLine) :
  Inv X pins σ (upd H s.heap.objs.size (.lst ys)) { s with heap:=s.heap.push { cls:=.type "list",data:=.seq its.toArray },toks:=t' } :=
 I.laid (fun _ _ q=>Heap.get?_push_of_some _ q) (yAA _) ⟨hz,its,0,hv,Heap.get?_push_size _ rfl⟩
theorem Inv.fresh (I:Inv X pins σ H s):H s.heap.objs.size=none:=I.hok.fresh (yAA _)
theorem Inv.lstM (I:Inv X pins σ H s) (hH:H l=some (.lst xs)):xs.length <= sizeLine /\ ∃ (its:List Value) (n:Nat),Vals xs its /\ xs.length=its.length /\ s.heap.get? l=some { cls:=.type "list",data:=.seq its.toArray n }:=by
 obtain ⟨z,its,n,r,e⟩:=I.hok l _ hH
 exact ⟨z,its,n,r,r.length,e⟩
theorem notLongL {n:Nat} (h:n <= sizeLine):Builtin.List.listTooLong n=false:=by
 unfold Builtin.List.listTooLong
 exact decide_eq_false (by omega)
end
section
variable {X:Cx}
def rAppend:V->List V->Hp->VK->Prop:=fun x vs H Q=>∃ l xs y,x=.ref l /\ vs=[y] /\ H l=some (.lst xs) /\ xs.length < sizeLine /\ Q .non (upd H l (.lst (xs++[y])))
theorem ZBm:MtM X "list.append" rAppend:=by
 intro pins s σ H x vs v us Q I rx rv h
 obtain ⟨l,xs,y,rfl,rfl,hH,hz,q⟩:=h
 cases rx
 obtain ⟨u,rfl,ru⟩:=rv.one
 obtain ⟨z,its,n,r,hl,e⟩:=I.lstM hH
 refine call_meets F.slot_list_append ⟨_,e,rfl⟩ F.entry_list_append (F.args_list_append_2 _ _) (PySem.list_append l its.toArray n u (by rw [yAT];omega)) ⟨e,?_⟩
 refine ⟨.non,_,I.lset (its':=its++[u]) hH e (by simp) (r.append (.cons ru .nil)) ?_,rfl,q⟩
 rw [yAD,yBD]
 omega
def rExtend:V->List V->Hp->VK->Prop:=fun x vs H Q=>∃ l b xs zs,x=.ref l /\ vs=[.ref b] /\ H l=some (.lst xs) /\ H b=some (.lst zs) /\ xs.length+zs.length <= sizeLine /\ Q .non (upd H l (.lst (xs++zs)))
theorem mt_extend:MtM X "list.extend" rExtend:=by
 intro pins s σ H x vs v us Q I rx rv h
 obtain ⟨l,b,xs,zs,rfl,rfl,hH,hB,hz,q⟩:=h
 cases rx
 obtain ⟨u,rfl,ru⟩:=rv.one
 cases ru
 obtain ⟨z,its,n,r,hl,e⟩:=I.lstM hH
 obtain ⟨z2,its2,n2,r2,hl2,e2⟩:=I.lstM hB
 have hsz:its.toArray.size+its2.toArray.size <= sizeLine:=by rw [yAT,yAT];omega
 have hlong:¬ (!its.toArray.isEmpty && Builtin.List.listTooLong (its.toArray.size+its2.toArray.size))=true:=by
  rw [notLongL hsz,Bool.and_false]
  exact yBE
 refine call_meets F.slot_list_extend ⟨_,e,rfl⟩ F.entry_list_extend (F.args_list_extend_2 _ _)
  (AutoSeq1.list_extend_list_list_0 l its.toArray n b its2.toArray n2 hlong (by rw [yAT];omega) (by omega)) ⟨e,e2,?_⟩
 refine ⟨.non,_,I.lset (its':=its++its2) hH e (by simp) (r.append r2) ?_,rfl,q⟩
 rw [yAD]
 omega
def rPopAt:V->List V->Hp->VK->Prop:=fun x vs H Q=>∃ l xs i k y,x=.ref l /\ vs=[.int i] /\ H l=some (.lst xs) /\ -(2 ^ 63) <= i /\ i < 2 ^ 63 /\ seqIndex? i xs.length=some k /\ xs[k]?=some y /\ Q y (upd H l (.lst (xs.eraseIdx k)))
theorem ZDN:MtM X "list.pop" rPopAt:=by
 intro pins s σ H x vs v us Q I rx rv h
 obtain ⟨l,xs,i,k,y,rfl,rfl,hH,h1,h2,hk,hy,q⟩:=h
 cases rx
 obtain ⟨u,rfl,ru⟩:=rv.one
 obtain ⟨t,rfl⟩:=ru
 obtain ⟨z,its,n,r,hl,e⟩:=I.lstM hH
 obtain ⟨w,hw,rw'⟩:=r.get hy
 refine call_meets F.slot_list_pop ⟨_,e,rfl⟩ F.entry_list_pop (F.args_list_pop_2 _ _)
  (MeetsSeq.list_pop_at l its.toArray n i t k w (fitsIndex_both h1 h2) (by rw [yAT,<- hl];exact hk) (by rw [<- yBH];exact hw) (by rw [yAT];omega)) ⟨e,?_⟩
 refine ⟨y,_,I.lset (its':=its.eraseIdx k) hH e ?_ (r.eraseIdx k) ?_,rw',q⟩
 .show its.toArray.eraseIdxIfInBounds k=(its.eraseIdx k).toArray
  rw [List.eraseIdxIfInBounds_toArray]
 .have:=len_erase xs k
  omega
def rReverse:V->List V->Hp->VK->Prop:=fun x vs H Q=>∃ l xs,x=.ref l /\ vs=[] /\ H l=some (.lst xs) /\ Q .non (upd H l (.lst xs.reverse))
theorem ZDC:MtM X "list.reverse" rReverse:=by
 intro pins s σ H x vs v us Q I rx rv h
 obtain ⟨l,xs,rfl,rfl,hH,q⟩:=h
 cases rx
 have hus:=rv.zero
 subst hus
 obtain ⟨z,its,n,r,hl,e⟩:=I.lstM hH
 refine call_meets F.slot_list_reverse ⟨_,e,rfl⟩ F.entry_list_reverse (F.args_list_reverse_1 _) (AutoSeq1.list_reverse_list_0 l its.toArray n (by rw [yAT];omega)) ⟨e,?_⟩
 refine ⟨.non,_,I.lset (its':=its.reverse) hH e (by simp) r.reverse ?_,rfl,q⟩
 rw [List.length_reverse]
 omega
def rClear:V->List V->Hp->VK->Prop:=fun x vs H Q=>∃ l xs,x=.ref l /\ vs=[] /\ H l=some (.lst xs) /\ Q .non (upd H l (.lst []))
theorem mt_clear:MtM X "list.clear" rClear:=by
 intro pins s σ H x vs v us Q I rx rv h
 obtain ⟨l,xs,rfl,rfl,hH,q⟩:=h
 cases rx
 have hus:=rv.zero
 subst hus
 obtain ⟨z,its,n,r,hl,e⟩:=I.lstM hH
 refine call_meets F.slot_list_clear ⟨_,e,rfl⟩ F.entry_list_clear (F.args_list_clear_1 _) (AutoSeq1.list_clear_list_0 l its.toArray n (by rw [yAT];omega)) ⟨e,?_⟩
 exact ⟨.non,_,I.lset (its':=[]) (ys:=[]) hH e rfl .nil (yAI _),rfl,q⟩
def rCat:R2:=fun x y H Q=>∃ l b xs zs,x=.ref l /\ y=.ref b /\ H l=some (.lst xs) /\ H b=some (.lst zs) /\ xs.length+zs.length <= sizeLine /\ ∀ p,H p=none->Q (.ref p) (upd H p (.lst (xs++zs)))
theorem ZE2:OpR X (binaryOp .Add) rCat:=by
 intro pins s σ H x y v u Q I rx ry h
 obtain ⟨l,b,xs,zs,rfl,rfl,hH,hB,hz,q⟩:=h
 cases rx
 cases ry
 obtain ⟨z,its,n,r,hl,e⟩:=I.lstM hH
 obtain ⟨z2,its2,n2,r2,hl2,e2⟩:=I.lstM hB
 refine PySem.P.add_list e e2 ?_ (by rw [yAT,yAT];omega)
 have ea:its.toArray++its2.toArray=(its++its2).toArray:=by simp
 rw [ea]
 exact ⟨.ref _,_,I.lnew (t':=s.toks) (r.append r2) (by rw [yAD];omega),rfl,q _ I.fresh⟩
end
section
variable {prog:Program} {w:World} {A:Around} {E:Value->Shared->Prop} {s:Shared}
set_option maxRecDepth 100000 in
end
section
variable {X:Cx}
end
end L2
namespace Att
open PySem PySem.W PySem.Calls PyProof.Rows
theorem ints_of_wellAll {P:Params} {h:Heap}:∀ (ns:List Int) (vs:List Value),WellAll P h vs (ns.map WData.int)->IntsAre vs ns:=by
 intro ns
 induction ns with
 | nil=>
  intro vs w
  rw [List.map_nil] at w
  cases w
  exact .nil
 | cons n ns ih=>
  intro vs w
  rw [yAX] at w
  cases w with
  | cons a b=>
   cases a
   exact .cons _ _ (ih _ b)
theorem script_of {l:OpenLaw} {n:Nat} (hn:l.most=some n) {P:Params} {h:Heap} {args:List WData} {vals:List Value}
  (hpre:l.row.toRowW.claim.pre args=true) (hwl:WellAll P h vals args) :
  ∃ a vs ns,vals=[Value.ref a] /\ args=[WData.list (ns.map WData.int)] /\ h.get? a=some { cls:=.type "list",data:=.seq vs.toArray } /\ IntsAre vs ns /\ ns.length <= n:=by
 have hsh:WShape.hasAll [] args [.list .int]=true:=(pre_splitW hpre).1
 have hc:l.pre.holds [] { args:=args }=true:=(pre_splitW hpre).2
 obtain ⟨d,r,rfl,h1,h2⟩:=hasAllW_cons hsh
 obtain rfl:=hasAllW_nil h2
 obtain ⟨xs,rfl,h3⟩:=hasW_list h1
 obtain ⟨ns,rfl⟩:=items_int h3
 have hlen:ns.length <= n:=by
  unfold OpenLaw.pre at hc
  have h4:(WTm.not (.lt (.lit (.int (n:Int))) (.len (.arg 0)))).holds [] { args:=[.list (ns.map .int)] }=true:=by
   have h4:=(holds_andW hc).1
   rw [hn] at h4
   exact h4
  have h5:=condW_of h4 (w_not (w_lt w_lit (w_len_list (w_arg rfl))))
  rw [yAB] at h5
  refine Nat.le_of_not_lt fun q=>?_
  have q':(n:Int) < ((ns.length:Nat):Int):=by omega
  first
   | (rw [decide_eq_true q'] at h5;exact absurd h5 (by decide))
   | (simp at h5;omega)
 cases hwl with
 | cons w1 w2=>
  cases w2
  cases w1 with
  | list ho hall=>exact ⟨_,_,ns,rfl,rfl,ho,ints_of_wellAll ns _ hall,hlen⟩
theorem post_true (l:OpenLaw) (args:List WData):l.row.toRowW.claim.post args (.bool true) args=true :=
 postW_of (r:=l.row.toRowW) (X:=(true == true))
  (show WShape.has [] (.bool true) .bool=true by first | rfl | decide | simp [WShape.has,WShape.arms,WShape.armsAll])
  (show (WTm.eq .res (.lit (.bool true))).value [] { args:=args,res:=some (.bool true),after:=args }=some (.bool (true == true)) from w_eq_bool (w_res rfl) w_lit) rfl
theorem attach_call {l:OpenLaw} {n:Nat} {q:Program} {loose:List Str} {XP:(Str->Option Value)->Heap->Prop} {YP:World->Heap->Prop} {d:DefRec}
  (hn:l.most=some n) (hdf:d.params.defaults=[])
  (call:∀ (w:World) (s₀ s₁:Shared) (mg mb:Str->Option Value) (fa:Addr) (o:Obj) (pm cd doc:Value) (a:Addr) (vs:List Value) (ns:List Int),
   Ground q loose [] XP w s₀ mg mb s₁.heap->YP w s₁.heap ->
   s₁.heap.get? fa=some o->o.data=.func (docDef d.name d.params d.body d.scope pm cd doc)->s₁.heap.CodeRec cd d.name->mg d.name=some (.ref fa) ->
   s₁.heap.get? a=some { cls:=.type "list",data:=.seq vs.toArray }->IntsAre vs ns->ns.length <= n->s₁.gens=#[] ->
   codeAny (model l.prog w) callerA (.call (.ref fa) ⟨[.ref a],[]⟩) (fun r s'=>r=.ok (.ret (.bool true)) /\ OldK s₁.heap s'.heap /\ s'.os=s₁.os /\ AllBare s'.gens) s₁) :
  WalkO q loose XP YP l.row.toRowW d [] (fun f vs=>PySem.call f vs):=by
 intro w s₀ s₁ mg mb G Y fa o pm cd doc dV kV ho hd hcd hD hmg hg args vals as hpre hlay hrd hwl hlo
 obtain rfl:dV=.none:=Dflts.none hD hdf
 obtain rfl:kV=.none:=Dflts.noKw hD
 obtain ⟨a,vs,ns,rfl,rfl,hobj,hints,hlen⟩:=script_of hn hpre hwl
 refine enter_call (codeAny_mono (call w s₀ s₁ mg mb fa o pm cd doc a vs ns G Y ho (fd_plain hd) hcd hmg hobj hints hlen hg) fun r s' hq=>?_)
 obtain ⟨rfl,h2,h3,h4⟩:=hq
 exact ⟨.inl ⟨.bool true,.bool true,[],rfl,fun _=>rfl,.bool true,post_true l _,fun _=>⟨List.Pairwise.nil,fun _ hm=>(nomatch hm)⟩⟩,h2,h3,h4⟩
section
variable {prog:Program} {w:World} {A:Around} {E:Value->Shared->Prop} {s:Shared} {K:Frag}
end
end Att
namespace L2
open PySem PySem.Spec PyProof.Rows
theorem ZDR:∀ {vs:List Value} {ns:List Int},IntsAre vs ns->Vals (ns.map V.int) vs
 | _,_,.nil=>.nil
 | _,_,.cons n t h=>.cons ⟨t,rfl⟩ (ZDR h)
end L2
namespace L2
open PySem PySem.Spec PyProof.Rows
def ZAr (s:Stmt) (j:Nat):Stmt:=match s with
 | .ClassDef _ _ _ body _ _ _ _ _ _ _=>body.getD j (.Pass ⟨0,0,0,0⟩)
 | _=>.Pass ⟨0,0,0,0⟩
def ZAN (s:Stmt):Arguments:=match s with
 | .FunctionDef _ a _ _ _ _ _ _ _ _=>a
 | _=>{ posonlyargs:=[],args:=[],vararg:=none,kwonlyargs:=[],kw_defaults:=[],kwarg:=none,defaults:=[] }
def ZAJ (s:Stmt):List Stmt:=match s with
 | .FunctionDef _ _ b _ _ _ _ _ _ _=>b
 | _=>[]
def ZAC (s:Stmt):Scope:=match s with
 | .FunctionDef _ _ _ _ _ _ sc _ _ _=>sc
 | _=>{ kind:=.function,names:=[],isGenerator:=false,isCoroutine:=false }
abbrev CX0:CXT:=fun _ _ _ _ _ _=>False
abbrev E0:XK:=fun _ _ _=>False
theorem ZAY {X:Cx}:ZBy CX0 X E0:=fun _ _ _ _ _ _ _ h=>h.elim
structure Fun (K:W.Frag) (x qual:Str) (st:Stmt) (f:Addr) (fd:FuncData):Prop where
 ex:∃ (oc:Value) (od:Option Addr) (kV doc pm:Value) (an:Option Addr) (cdv ct:Value) (osl:Array (Option Value)),
  fd=W.fnOf x qual (ZAN st) (ZAJ st) (ZAC st) .none kV doc pm an cdv ct /\ K.lookup f=some ⟨oc,od,.func fd,osl⟩ /\ W.codeIn K cdv qual=true
 kp:W.keepIn K (.ref f)=true
section
variable {P:Program} {w:World} {K:W.Frag} {mg:Str->Option Value} {base:Heap}
theorem Fun.ok {x qual:Str} {st:Stmt} {f:Addr} {fd:FuncData} {N ps:List Str} {k:Nat} {sp:Sp} (F:Fun K x qual st f fd) (S:FnScope N ps (ZAC st)) (len:∀ vs H Q E,sp vs H Q E->vs.length=ps.length)
  (hbody:∀ (cdv:Value) (A:Around) (outer:List Env) (s:Shared) (H:Hp) (vs:List V) (Q:VK) (E:XK),Room k (A.deeper (envOfC qual (ZAC st) s.heap.objs.size f cdv))->sp vs H Q E ->
   ∃ t,PSs (cxOf CX0 P w K mg base N qual (ZAC st) f cdv A outer s H E).nox (ZAJ st) t /\ t { nx:=fun _ H'=>Q .non H',rt:=Q } (start N vs) H):FnOk P w K mg base CX0 (k+1) f fd ps sp:=by
 obtain ⟨oc,od,kV,doc,pm,an,cdv,ct,osl,rfl,lk,hcd⟩:=F.ex
 refine fn_of lk hcd S len fun A outer s H vs Q E hr hsp=>?_
 obtain ⟨t,h,q⟩:=hbody cdv A outer s H vs Q E hr hsp
 exact ⟨t,h.nox,q⟩
theorem Fun.binds {x qual:Str} {st:Stmt} {f:Addr} {fd:FuncData} {ps:List Str} (F:Fun K x qual st f fd)
  (h:∀ (kV doc pm:Value) (an:Option Addr) (cdv ct:Value) (us:List Value),us.length=ps.length->bindArgs (W.fnOf x qual (ZAN st) (ZAJ st) (ZAC st) .none kV doc pm an cdv ct) ⟨us,[]⟩=pure (ps.zip us)):Binds K fd ps []:=by
 obtain ⟨oc,od,kV,doc,pm,an,cdv,ct,osl,rfl,lk,hcd⟩:=F.ex
 exact .all (h kV doc pm an cdv ct)
theorem ZAd {x qual:Str} {st:Stmt} {f:Addr} {oc:Value} {od an:Option Addr} {osl:Array (Option Value)} {kV doc pm cdv ct:Value} (l:K.lookup f=some ⟨oc,od,.func (W.fnOf x qual (ZAN st) (ZAJ st) (ZAC st) .none kV doc pm an cdv ct),osl⟩)
  (c:W.codeIn K cdv qual=true) (k:W.keepIn K (.ref f)=true):Fun K x qual st f (W.fnOf x qual (ZAN st) (ZAJ st) (ZAC st) .none kV doc pm an cdv ct):=⟨⟨oc,od,kV,doc,pm,an,cdv,ct,osl,rfl,l,c⟩,k⟩
end
theorem ZF9 {A:Around} {k:Nat} (hr:Room k A):A.units+1 < cLine:=Nat.lt_of_le_of_lt (Nat.add_le_add_left (by decide:1 <= 64) _) hr.units
theorem ZBY {n:Nat} (h:n <= 1000):n < sizeLine:=Nat.lt_of_le_of_lt h (by decide)
section
variable {X:Cx}
theorem pv (i:Nat) {x:Str} {pos:Pos} (hN:X.N[i]?=some x:=by rfl) (hv:Vis X.env.scope x:=by first | exact Or.inl rfl | exact Or.inr (Or.inl rfl) | exact Or.inr (Or.inr rfl)) (hd:(x == ("__debug__":Str))=false:=by decide)
  (hcd:(x == ("__classdict__":Str))=false:=by decide):PE X (.Name x pos) (tVar i):=pe_var hN hv hd hcd
end
def Same (H H':Hp):Prop:=∀ b o,H b=some o->H' b=some o
theorem Same.refl (H:Hp):Same H H:=fun _ _ h=>h
theorem Same.trans {H H1 H2:Hp} (a:Same H H1) (b:Same H1 H2):Same H H2:=fun c o h=>b c o (a c o h)
theorem Same.free {H H':Hp} (e:Same H H') {l:Addr} (h:H' l=Option.none):H l=Option.none:=by
 cases q:H l with
 | none=>rfl
 | some o=>
  rw [e l o q] at h
  cases h
theorem Same.seq {K:W.Frag} {H H':Hp} {a:Addr} {xs:List V} (e:Same H H') (h:SqL K H a xs):SqL K H' a xs:=by
 rcases h with (h | ⟨o,h⟩) | h
 .exact .inl (.inl (e _ _ h))
 .exact .inl (.inr ⟨o,e _ _ h⟩)
 .exact .inr h
end L2
set_option maxHeartbeats 4000000
namespace L2
open PySem PySem.Spec PyProof.Rows
theorem natlt {a b:Addr} (h:a < b):@LT.lt Nat _ a b:=h
theorem ZDj {a b:Addr} {n:Nat} (h:a < n) (k:n <= b):a≠b:=yAO (yBA h k)
theorem ZBD:∀ (names:List (Str×NameKind)) (n:Nat) (acc:List (Str×Addr)),cellsFrom n names acc=cellsFrom n names []++acc
 | [],_,_=>rfl
 | (x,k)::r,n,acc=>by
  unfold cellsFrom
  split
  .rw [ZBD r (n+1) ((x,n)::acc),ZBD r (n+1) [(x,n)],yAL];rfl
  .exact ZBD r n acc
theorem ZCG:∀ (names:List (Str×NameKind)) (n:Nat) (acc:List (Str×Addr)) (y:Str) (c:Addr),(y,c)∈cellsFrom n names acc->(y,c)∈acc∨((y,NameKind.cell)∈names /\ n <= c)
 | [],_,_,_,_,h=>.inl h
 | (x,k)::r,n,acc,y,c,h=>by
  unfold cellsFrom at h
  split at h
  .rename_i hk
   have hk':k=.cell:=by simpa using hk
   rcases ZCG r (n+1) _ y c h with h | ⟨h,l⟩
   .rcases yAE.mp h with e | h
    .cases e;subst hk';exact .inr ⟨yAF,yAA _⟩
    .exact .inl h
   .exact .inr ⟨yAC _ h,Nat.le_of_succ_le l⟩
  .rcases ZCG r n _ y c h with h | ⟨h,l⟩
   .exact .inl h
   .exact .inr ⟨yAC _ h,l⟩
def closFrom (cells:List (Str×Addr)):List (Str×NameKind)->List (Str×Addr)->List (Str×Addr)
 | [],acc=>acc
 | (x,k)::r,acc=>if k == .free then closFrom cells r ((x,(cells.lookup x).getD 0)::acc) else closFrom cells r acc
theorem ZBw {cells:List (Str×Addr)}:∀ (names:List (Str×NameKind)) (acc:List (Str×Addr)) (y:Str) (c:Addr),(y,c)∈closFrom cells names acc->(y,c)∈acc∨((y,NameKind.free)∈names /\ c=(cells.lookup y).getD 0)
 | [],_,_,_,h=>.inl h
 | (x,k)::r,acc,y,c,h=>by
  unfold closFrom at h
  split at h
  .rename_i hk
   have hk':k=.free:=by simpa using hk
   rcases ZBw r _ y c h with h | ⟨h,l⟩
   .rcases yAE.mp h with e | h
    .cases e;subst hk';exact .inr ⟨yAF,rfl⟩
    .exact .inl h
   .exact .inr ⟨yAC _ h,l⟩
  .rcases ZBw r _ y c h with h | ⟨h,l⟩
   .exact .inl h
   .exact .inr ⟨yAC _ h,l⟩
theorem ZCT {cells:List (Str×Addr)}:∀ (names:List (Str×NameKind)) (acc:List (Str×Addr)) (p:Str×Addr),p∈acc->p∈closFrom cells names acc
 | [],_,_,h=>h
 | (x,k)::r,acc,p,h=>by
  unfold closFrom
  split
  .exact ZCT r _ p (yAC _ h)
  .exact ZCT r _ p h
theorem ZBx {cells:List (Str×Addr)}:∀ (names:List (Str×NameKind)) (acc:List (Str×Addr)) (y:Str),(y,NameKind.free)∈names->(y,(cells.lookup y).getD 0)∈closFrom cells names acc
 | [],_,_,h=>nomatch h
 | (x,k)::r,acc,y,h=>by
  unfold closFrom
  rcases yAE.mp h with e | h
  .cases e
   rw [if_pos (by rfl)]
   exact ZCT r _ _ yAF
  .split
   .exact ZBx r _ y h
   .exact ZBx r _ y h
theorem ZBf {α:Type}:∀ {l:List (Str×α)} {y:Str} {c:α},(y,c)∈l->∃ c',l.lookup y=some c'
 | (k,v)::r,y,c,h=>by
  rw [yCB]
  cases hb:y == k with
  | true=>exact ⟨v,rfl⟩
  | false=>
   rcases yAE.mp h with e | h
   .cases e;rw [beq_self_eq_true] at hb;cases hb
   .exact ZBf h
theorem ZCF {env:Env} (f:Str×NameKind->List (Str×Addr)->Sem (ForInStep (List (Str×Addr))))
  (hf:∀ name kind cs,f (name,kind) cs=if kind == .free then (do let a <- cellOf env name;pure (.yield ((name,a)::cs))) else pure (.yield cs)) :
  ∀ (names:List (Str×NameKind)) (acc:List (Str×Addr)),(∀ x,(x,NameKind.free)∈names->∃ c,env.cells.lookup x=some c)->forIn names acc f=(pure (closFrom env.cells names acc):Sem (List (Str×Addr)))
 | [],acc,_=>by rw [yCK];rfl
 | (x,k)::r,acc,h=>by
  have hr:∀ x,(x,NameKind.free)∈r->∃ c,env.cells.lookup x=some c:=fun y hy=>h y (yAC _ hy)
  rw [List.forIn_cons,hf]
  unfold closFrom
  split
  .rename_i hk
   have hk':k=.free:=by simpa using hk
   subst hk'
   obtain ⟨c,hc⟩:=h x yAF
   have e:cellOf env x=(pure c:Sem Addr):=by unfold cellOf;rw [hc]
   rw [e,hc]
   exact ZCF f hf r ((x,c)::acc) hr
  .exact ZCF f hf r acc hr
theorem closureFor_eq {scope:Scope} {env:Env} (h:∀ x,(x,NameKind.free)∈scope.names->∃ c,env.cells.lookup x=some c):closureFor scope env=pure (closFrom env.cells scope.names []):=by
 simp only [closureFor]
 rw [ZCF _ (fun name kind cs=>by cases hk:kind == NameKind.free <;> simp [hk]) scope.names [] h]
 rfl
section
variable {M:Model} {A:Around} {E:Value->Shared->Prop} {s:Shared}
theorem newEnv_comp {scope:Scope} {globals:Addr} {cl:List (Str×Addr)} {qual:Str} {env:Env} {Q:Env->Shared->Prop}
  (hQ:Q { scope:=scope,locals:=s.heap.objs.size,globals:=globals,cells:=cellsFrom (s.heap.objs.size+1) scope.names cl,qual:=qual,func:=none,code:=env.code,frame:=env.frame,builtins:=env.builtins }
   { s with heap:=pushCells (s.heap.push { cls:=.type "dict",data:=.dict #[] }) scope.names }) :
  wpAny M A (newFunctionEnv scope globals cl [] qual none .none (some env)) Q E s:=by
 simp only [newFunctionEnv,Option.isSome_some,if_true]
 refine wpAny_bind (wpAny_alloc ?_)
 refine wpAny_bind (wpAny_layCells _ (fun name kind cells=>by cases hkc:kind == NameKind.cell <;> simp [hkc]) _ _ _ _ ?_)
 rw [show ({ s with heap:=s.heap.push { cls:=.type "dict",data:=.dict #[] } }:Shared).heap.objs.size=s.heap.objs.size+1 from Heap.size_push ..]
 rw [yCK]
 exact wpAny_bind (wpAny_pure (wpAny_pure hQ))
end
theorem relabel_lookup {scope:Scope} {env:Env} (x:Str):(relabel scope env).names.lookup x=(scope.names.lookup x).map fun k=>if (k == .free && env.scope.kind == .function && env.kindOf x == some .cell)=true then NameKind.cell else k:=by
 unfold relabel
 dsimp only
 generalize scope.names=names
 induction names with
 | nil=>rfl
 | cons p r ih=>
  obtain ⟨n,k⟩:=p
  rw [yAX,yCB (as:=r)]
  cases hx:x == n with
  | true=>
   have e:x=n:=beq_iff_eq.mp hx
   subst e
   by_cases hc:(k == NameKind.free && env.scope.kind == .function && env.kindOf x == some .cell)=true
   .simp only [hc,if_true,yCB,hx,yCC]
   .simp only [hc,yCL,if_false,yCB,hx,yCC]
  | false=>
   by_cases hc:(k == NameKind.free && env.scope.kind == .function && env.kindOf n == some .cell)=true
   .simp only [hc,if_true,yCB,hx];exact ih
   .simp only [hc,yCL,if_false,yCB,hx];exact ih
def ZEO (N:List Str) (osc:Scope) (k:Nat) (js:List Nat) (N':List Str) (sc:Scope):Bool :=
 decide (sc.kind=.function) && decide (N'.length=k+js.length) && decide N'.Nodup &&
 sc.names.all (fun p=>decide (sc.names.lookup p.1=some p.2) && (decide (p.2≠.free) || decide (osc.names.lookup p.1=some .cell) || decide (osc.names.lookup p.1=some .free))) &&
 (List.range js.length).all (fun i=>decide (js[i]?.bind (fun j=>N[j]?)=N'[k+i]?) && decide ((N'[k+i]?).bind (fun y=>sc.names.lookup y)=some .free))
structure CmpOk (N:List Str) (osc:Scope) (k:Nat) (js:List Nat) (N':List Str) (sc:Scope):Prop where
 kind:sc.kind=.function
 len:N'.length=k+js.length
 nd:N'.Nodup
 look:∀ p∈sc.names,sc.names.lookup p.1=some p.2
 fr:∀ y,(y,NameKind.free)∈sc.names->osc.names.lookup y=some .cell∨osc.names.lookup y=some .free
 js:∀ i j,js[i]?=some j->∃ y,N'[k+i]?=some y /\ N[j]?=some y /\ sc.names.lookup y=some .free
theorem cmpOk {N:List Str} {osc:Scope} {k:Nat} {js:List Nat} {N':List Str} {sc:Scope} (h:ZEO N osc k js N' sc=true):CmpOk N osc k js N' sc:=by
 unfold ZEO at h
 simp only [Bool.and_eq_true,decide_eq_true_eq,List.all_eq_true,Bool.or_eq_true,yCE] at h
 obtain ⟨⟨⟨⟨h1,h2⟩,h3⟩,h4⟩,h5⟩:=h
 refine ⟨h1,h2,h3,fun p hp=>(h4 p hp).1,fun y hy=>?_,fun i j hj=>?_⟩
 .rcases (h4 _ hy).2 with (z | z) | z
  .exact absurd rfl z
  .exact .inl z
  .exact .inr z
 .have hi:i < js.length:=(yAH.mp hj).1
  obtain ⟨a,b⟩:=h5 i hi
  rw [hj] at a
  cases e:N'[k+i]? with
  | none=>rw [e] at b;cases b
  | some y=>
   rw [e] at a b
   exact ⟨y,rfl,a,b⟩
def ZEN (scope:Scope) (cl:List (Str×Addr)) (C:Addr) (env:Env):Env :=
 { scope:=relabel scope env,locals:=C,globals:=env.globals,cells:=cellsFrom (C+1) scope.names cl,qual:=env.qual,func:=none,code:=env.code,frame:=env.frame,builtins:=env.builtins }
def ZCg (X:Cx) (N':List Str) (scope:Scope) (C:Addr) (fp:List Addr) (s2:Shared) (H2:Hp):Cx where
 prog:=X.prog
 w:=X.w
 K:=X.K
 mg:=X.mg
 base:=X.base
 A:=X.A
 N:=N'
 s₀:=s2
 H₀:=H2
 env:=ZEN scope (closFrom X.env.cells scope.names []) C X.env
 outer:=X.stack
 stack:=X.stack
 ex:=fp
 fn:=fun x=>decide (scope.names.lookup x=some .cell)
 calm:=X.calm
 pn:=[]
 xe:=fun _ _=>False
def up (k:Nat) (js:List Nat) (σ:St):St:=List.replicate k none++js.map fun j=>(σ[j]?).getD none
section
variable {X:Cx} {pins:List (Addr×Obj)} {σ:St} {H:Hp} {s2:Shared} {k:Nat} {js:List Nat} {N':List Str} {scope:Scope} {fp:List Addr}
theorem comp_inv (hc:CmpOk X.N X.env.scope k js N' scope) (I:Inv X pins σ H s2) (hfp:∀ b∈fp,FpOk X pins H b) (hlt:∀ b∈fp,b < s2.heap.objs.size) {h3:Heap} (hz:h3.objs.size=s2.heap.objs.size+1) (hk3:∀ b o,s2.heap.get? b=some o->h3.get? b=some o) :
  Inv (ZCg X N' scope (s2.heap.objs.size+1) fp s2 H) [] (up k js σ) H { s2 with heap:=pushCells (h3.push { cls:=.type "dict",data:=.dict #[] }) scope.names }:=by
 have frLook:∀ y,(y,NameKind.free)∈scope.names->∃ c,X.env.cells.lookup y=some c:=fun y hy=>I.ok.has y (hc.fr y hy)
 have ok0:=cellsFrom_ok scope.names (h3.push { cls:=.type "dict",data:=.dict #[] }) (s2.heap.objs.size+2) [] ⟨fun _ _ hm=>(nomatch hm),List.Pairwise.nil⟩ (by rw [Heap.size_push,hz];exact yAA _)
 rw [Heap.size_push,hz] at ok0
 have parts:∀ y c,(ZEN scope (closFrom X.env.cells scope.names []) (s2.heap.objs.size+1) X.env).cells.lookup y=some c ->
   ((y,c)∈cellsFrom (s2.heap.objs.size+2) scope.names [] /\ (y,NameKind.cell)∈scope.names /\ s2.heap.objs.size+2 <= c)∨((y,NameKind.free)∈scope.names /\ X.env.cells.lookup y=some c):=fun y c e=>by
  have m:=PySem.mem_of_lookup e
  change (y,c)∈cellsFrom (s2.heap.objs.size+1+1) scope.names _ at m
  rw [ZBD] at m
  rcases yAV.mp m with m | m
  .rcases ZCG _ _ _ _ _ m with z | ⟨z,l⟩
   .cases z
   .exact .inl ⟨m,z,l⟩
  .rcases ZBw _ _ _ _ m with z | ⟨z,l⟩
   .cases z
   .obtain ⟨c',e'⟩:=frLook y z
    rw [e'] at l
    exact .inr ⟨z,by rw [e'];exact congrArg some l.symm⟩
 have old:∀ y c,X.env.cells.lookup y=some c->c < s2.heap.objs.size:=fun y c e=>by
  obtain ⟨v,q⟩:=I.cell y c e
  exact q.lt
 have freeAt:∀ y,(y,NameKind.free)∈scope.names->∀ c,X.env.cells.lookup y=some c->(ZEN scope (closFrom X.env.cells scope.names []) (s2.heap.objs.size+1) X.env).cells.lookup y=some c:=fun y hy c e=>by
  have m:(y,c)∈cellsFrom (s2.heap.objs.size+1+1) scope.names (closFrom X.env.cells scope.names []):=by
   rw [ZBD]
   have q:=ZBx (cells:=X.env.cells) scope.names [] y hy
   rw [e] at q
   exact yAQ _ q
  obtain ⟨c',q⟩:=ZBf m
  rcases parts y c' q with ⟨_,z,_⟩ | ⟨_,z⟩
  .have z1:=hc.look _ z
   have z2:=hc.look _ hy
   rw [z1] at z2
   cases z2
  .rw [e] at z
   cases z
   exact q
 have keepAll:∀ b o,s2.heap.get? b=some o->(pushCells (h3.push { cls:=.type "dict",data:=.dict #[] }) scope.names).get? b=some o:=fun b o e=>pushCells_keeps _ _ b o (Heap.get?_push_of_some _ (hk3 b o e))
 refine ⟨⟨I.ok.mod,hc.kind,I.ok.glob,I.ok.blt,yBG _,fun y z c h1 h2=>?_,fun y hy=>?_,fun y c h1 h2=>?_,I.ok.hd,I.ok.frames,.inl rfl,fun b hb=>⟨?_,fun y c e=>?_⟩,I.bs,yAP I.ok.bsz I.sz,fun b o e hb=>?_,fun b hb hs=>?_,I.stack,I.stkFree⟩,
  rfl,I.bare,Un.kept keepAll,⟨fun _=>none,?_,fun i y v e1 e2 e3=>?_⟩,fun y c e=>?_,I.hok.fresh (yBG _),fun y c e=>?_,fun p hp=>absurd (show p∈([]:List (Addr×Obj)) from hp) (by simp),I.hok.kept keepAll,?_⟩
 .
  rcases parts y c h1 with ⟨a,_,l⟩ | ⟨_,a⟩ <;> rcases parts z c h2 with ⟨b,_,l'⟩ | ⟨_,b⟩
  .exact name_of_addr ok0.apart a b
  .have:=natlt (old z c b);omega
  .have:=natlt (old y c a);omega
  .exact I.ok.inj y z c a b
 .
  have hy':(relabel scope X.env).names.lookup y=some .cell∨(relabel scope X.env).names.lookup y=some .free:=hy
  rw [relabel_lookup] at hy'
  have q:scope.names.lookup y=some .cell∨scope.names.lookup y=some .free:=by
   cases e:scope.names.lookup y with
   | none=>rw [e] at hy';rcases hy' with z | z <;> cases z
   | some kk=>
    rw [e] at hy'
    cases kk <;> first | exact .inl rfl | exact .inr rfl | (rcases hy' with z | z <;> simp at z)
  rcases q with q | q
  .obtain ⟨c,e⟩:=ZDQ (n:=s2.heap.objs.size+1+1) q
   have m:(y,c)∈cellsFrom (s2.heap.objs.size+1+1) scope.names (closFrom X.env.cells scope.names []):=by
    rw [ZBD]
    exact yBC _ (PySem.mem_of_lookup e)
   exact ZBf m
  .have m:=PySem.mem_of_lookup q
   obtain ⟨c,e⟩:=frLook y m
   exact ⟨c,freeAt y m c e⟩
 .
  have h1':scope.names.lookup y=some .cell:=of_decide_eq_true h1
  rcases parts y c h2 with ⟨_,_,l⟩ | ⟨z,_⟩
  .show s2.heap.objs.size <= c
   omega
  .have:=hc.look _ z
   rw [h1'] at this
   cases this
 .
  exact ZDj (hlt b hb) (yBG _)
 .rcases parts y c e with ⟨_,_,l⟩ | ⟨_,z⟩
  .exact (ZDj (hlt b hb) (yAP (yCM _ 2) l)).symm
  .exact (hfp b hb).2.2.2.2.1 y c z
 .
  rcases (hfp b hb).2.2.2.1 with z | z
  .exact I.ok.noex b o e z
  .exact absurd (yBA (Heap.lt_size e) (yAP I.ok.bsz z)) (yBU _)
 .
  rcases yAE.mp (I.stkSub b hs) with z | z
  .exact (hfp b hb).2.1 z
  .exact (hfp b hb).2.2.1 z
 .
  have q:=(Heap.Ns.new h3 (.type "dict")).keeps (pushCells_keeps scope.names _)
  rw [hz] at q
  exact q
 .
  unfold up at e2
  have hik:k <= i:=by
   by_cases hi:i < k
   .rw [yAZ (by simpa using hi),List.getElem?_replicate] at e2
    rw [if_pos hi] at e2
    cases e2
   .omega
  rw [yAY (by simpa using hik),yCF,yAW] at e2
  cases ej:js[i-k]? with
  | none=>rw [ej] at e2;cases e2
  | some j=>
   rw [ej] at e2
   have e2':(σ[j]?).getD none=some v:=Option.some.inj e2
   have e4:σ[j]?=some (some v):=by
    cases q:σ[j]? with
    | none=>rw [q] at e2';cases e2'
    | some z=>rw [q] at e2';exact congrArg some e2'
   obtain ⟨y',n1,n2,n3⟩:=hc.js _ _ ej
   rw [Nat.add_sub_cancel' hik] at n1
   have n0:N'[i]?=some y:=e1
   rw [n1] at n0
   cases n0
   have hm:=PySem.mem_of_lookup n3
   have hvis:Vis X.env.scope y:=.inr (hc.fr y hm)
   obtain ⟨m,hn,hl⟩:=I.loc
   obtain ⟨u,r,l⟩:=hl j y v n2 e4 hvis
   refine ⟨u,r,?_⟩
   rcases l with ⟨kk,_⟩ | ⟨kk,c,ec,ic⟩
   .have kk':X.env.scope.names.lookup y=some .local:=kk
    rcases hc.fr y hm with z | z <;> (rw [kk'] at z;cases z)
   .refine .inr ⟨?_,c,freeAt y hm c ec,ic.keeps keepAll⟩
    show (relabel scope X.env).names.lookup y=some .cell∨(relabel scope X.env).names.lookup y=some .free
    rw [relabel_lookup,n3]
    simp only [yCC]
    split
    .exact .inl rfl
    .exact .inr rfl
 .
  rcases parts y c e with ⟨a,_,_⟩ | ⟨_,a⟩
  .exact ⟨none,(ok0.empty y c a).1⟩
  .obtain ⟨v,q⟩:=I.cell y c a
   exact ⟨v,q.keeps keepAll⟩
 .rcases parts y c e with ⟨_,_,l⟩ | ⟨_,a⟩
  .exact I.hok.fresh (by omega)
  .exact I.freeC y c a
 .unfold up
  show _=N'.length
  rw [yAD,yCF,yAB,hc.len]
theorem comp_end {σ':St} {H':Hp} {s':Shared} {C D:Addr} {its:List Value} {n:Nat} {ys:List V} (I:Inv X pins σ H s2) (hfp:∀ b∈fp,FpOk X pins H b) (hC:s2.heap.objs.size <= C) (hD:s2.heap.objs.size <= D) (hDC:D≠C)
  (I':Inv (ZCg X N' scope C fp s2 H) [(D,{ cls:=.type "list",data:=.seq its.toArray n })] σ' H' s') (hv:Vals ys its) (hz:ys.length <= sizeLine) :
  H' D=none /\ ∀ h',Heap.SameBut C s'.heap h'->Inv X pins σ (upd H' D (.lst ys)) { s' with heap:=h' }:=by
 obtain ⟨eD,nD,_,_,_⟩:=I'.pin (D,{ cls:=.type "list",data:=.seq its.toArray n }) (yAQ _ yAF)
 dsimp only at eD nD
 have nC:H' C=none:=I'.free
 refine ⟨nD,fun h' hs=>?_⟩
 have neC:∀ b o,s2.heap.get? b=some o->b≠C:=fun b o e=>ZDj (Heap.lt_size e) hC
 have neD:∀ b o,s2.heap.get? b=some o->b≠D:=fun b o e=>ZDj (Heap.lt_size e) hD
 have tr:∀ b u,H' b=some u->b≠D:=fun b u e z=>by rw [z,nD] at e;cases e
 have trC:∀ b u,H' b=some u->b≠C:=fun b u e z=>by rw [z,nC] at e;cases e
 have B:=I'.base
 refine I.call' (s':={ s' with heap:=h' }) (ch:=fp) I'.os ⟨fun b o e nn hb hx=>?_,fun b o e nn hb hx=>?_,fun b o e nn hx=>?_,fun b o e hx=>?_,fun b xs e=>?_,fun b o u e=>?_,fun b ps e=>?_⟩ (fun b u e=>?_) I'.bare fun b hb=>?_
 .exact (hs.2 b (neC b o e)).trans (B.keep b o e nn hb hx)
 .obtain ⟨sl,q⟩:=B.slot b o e nn hb hx
  exact ⟨sl,(hs.2 b (neC b o e)).trans q⟩
 .rw [ZAI (neD b o e)]
  exact B.free b o e nn hx
 .obtain ⟨o',q⟩:=B.there b o e hx
  exact ⟨o',(hs.2 b (neC b o e)).trans q⟩
 .have q:=B.tups b xs e
  rw [ZAI (tr b _ q)]
  exact q
 .have q:=B.frzs b o u e
  rw [ZAI (tr b _ q)]
  exact q
 .obtain ⟨more,q⟩:=B.tbls b ps e
  exact ⟨more,by rw [ZAI (tr b _ q)];exact q⟩
 .by_cases hb:b=D
  .subst hb
   rw [ZAF] at e
   cases e
   exact ⟨hz,its,n,hv,(hs.2 b hDC).trans eD⟩
  .rw [ZAI hb] at e
   refine (I'.hok b u e).stay (fun c v hcc q=>(hs.2 c ?_).trans q) (fun c q=>by rw [ZAI (tr c _ q)];exact q) fun c xs q=>by rw [ZAI (tr c _ q)];exact q
   rcases hcc with rfl | hcc
   .exact trC c _ e
   .exact trC c _ hcc
 .obtain ⟨_,f1,_,f3,f4,f5⟩:=hfp b hb
  exact ⟨f3,f1,f4,f5⟩
end
section
variable {prog:Program} {w:World} {A:Around} {R:Result->Shared->Prop} {s:Shared}
theorem codeAny_compLoop_any {elt target iter:Expr} {ifs:List Expr} {scope:Scope} {pos:Pos} {it acc:Value} {env:Env} (I:Nat->Shared->Prop)
  (turn:∀ n s,I n s->wpAny (model prog w) A (pyNext it) (fun r s₁=>match r with
   | none=>R (.ok .next) s₁
   | some v=>wpAny (model prog w) A (letOwnedTupleGo target it v) (fun _ s₁'=>wpAny (model prog w) A (assign target env v) (fun _ s₂=>
     wpAny (model prog w) A (forIn ifs true fun c r=>if r=true then do let ok <- isTrue c env (eval c env);pure (ForInStep.yield ok) else pure (ForInStep.yield r)) (fun ok s₃=>
      if ok=true then wpAny (model prog w) A (eval elt env) (fun x s₄=>
       wpAny (model prog w) A (call (.builtin "list.append") [acc,x]) (fun _ s₅=>∃ m,m < n /\ I m s₅) (notedBy (model prog w) A env fun e s'=>R (.error e) s') s₄) (notedBy (model prog w) A env fun e s'=>R (.error e) s') s₃
      else ∃ m,m < n /\ I m s₃) (notedBy (model prog w) A env fun e s'=>R (.error e) s') s₂) (notedBy (model prog w) A env fun e s'=>R (.error e) s') s₁') (notedBy (model prog w) A env fun e s'=>R (.error e) s') s₁) (notedBy (model prog w) A env fun e s'=>R (.error e) s') s)
  (n:Nat) (h:I n s) :
  codeAny (model prog w) A (.compLoop (.ListComp elt [⟨target,iter,ifs,0⟩] scope pos) 0 it acc env) R s:=by
 refine codeAny_loop rfl I (fun n s hI=>?_) n h
 show wpAny _ A ((compTurn (.ListComp elt [⟨target,iter,ifs,0⟩] scope pos) 0 it acc env).onRaise (fun x=>do noteFrame x env;theTreesLotGoes x)) _ _ s
 refine wpAny_noted ?_
 rw [compTurn_list]
 refine wpAny_bind (wpAny_standAt (wpAny_bind (wpAny_mono (turn n s hI) (fun r s₁ h₁=>?_) fun _ _ h'=>h')))
 cases r with
 | none=>exact wpAny_pure h₁
 | some v=>
  refine wpAny_bind (wpAny_mono h₁ (fun _ s₁' h₁'=>?_) fun _ _ h'=>h')
  refine wpAny_bind (wpAny_mono h₁' (fun _ s₂ h₂=>wpAny_bind (wpAny_mono h₂ (fun ok s₃ h₃=>?_) fun _ _ h'=>h')) fun _ _ h'=>h')
  cases ok with
  | false=>exact wpAny_pure ⟨rfl,h₃⟩
  | true=>exact wpAny_bind (wpAny_bind (wpAny_mono h₃ (fun x s₄ h₄=>wpAny_bind (wpAny_mono h₄ (fun _ s₅ h₅=>wpAny_pure (wpAny_pure ⟨rfl,h₅⟩)) fun _ _ h'=>h')) fun _ _ h'=>h'))
end
def PIfs (X:Cx) (ifs:List Expr) (t:TT):Prop :=
 ∀ (pins:List (Addr×Obj)) (s:Shared) (σ:St) (H:Hp) (Q:Bool->Hp->Prop),Inv X pins σ H s->t σ H Q ->
  wpAny (model X.prog X.w) X.A (forIn ifs true fun c r=>if r=true then do let ok <- isTrue c X.env (eval c X.env);pure (ForInStep.yield ok) else pure (ForInStep.yield r)) (TP X pins σ Q) X.xe s
def tYes:TT:=fun _ H Q=>Q true H
theorem ZBt {X:Cx}:PIfs X [] tYes:=fun _ _ _ H _ I h=>wpAny_tests_nil ⟨H,I,h⟩
theorem pifs_one {X:Cx} {c:Expr} {t:TT} (hc:PT X c t):PIfs X [c] t:=fun pins s σ H Q I h=>wpAny_tests_one (hc pins s σ H Q I h)
def ZES (k:Nat) (js:List Nat) (wi:TI) (g:TG) (tt:TT) (te:TE):TE:=fun σ H Q=>wi σ H fun J H1=>∃ W:Nat->Nat->List V->St->Hp->Prop,(∃ m,W 0 m [] (up k js σ) H1) /\ ∀ i m ys σ H,W i m ys σ H ->
 (J.stop i H /\ ys.length <= sizeLine /\ ∀ p,H p=none->Q (.ref p) (upd H p (.lst ys))) ∨
 (J.go i H /\ ys.length < sizeLine /\ ∀ x H',J.yld i H x H'->g x σ H' fun σ2 H2=>tt σ2 H2 fun b H3=>if b=true then te σ2 H3 fun y H4=>∃ m',m' < m /\ W (i+1) m' (ys++[y]) σ2 H4 else ∃ m',m' < m /\ W (i+1) m' ys σ2 H3)
section
variable {X:Cx} {k:Nat} {js:List Nat} {N':List Str} {scope:Scope} {tg iter elt:Expr} {ifs:List Expr} {wi:TI} {g:TG} {tt:TT} {te:TE} {pos:Pos}
theorem comp_core {use:Option (Value->Sem Unit)} {Q':Value->Shared->Prop} (hcalm:X.calm=true) (hc:CmpOk X.N X.env.scope k js N' scope) (hi:PI X tg iter wi)
  (hg:∀ C fp s2 H2,PG (ZCg X N' scope C fp s2 H2) tg g) (ht:∀ C fp s2 H2,PIfs (ZCg X N' scope C fp s2 H2) ifs tt) (he:∀ C fp s2 H2,PE (ZCg X N' scope C fp s2 H2) elt te)
  {pins:List (Addr×Obj)} {s:Shared} {σ:St} {H:Hp} {Q:VK} (I:Inv X pins σ H s) (h:ZES k js wi g tt te σ H Q)
  (fin:∀ (C D:Addr) (s':Shared) (m:Str->Option Value) (H':Hp) (ys:List V),s'.heap.Ns C m->C≠X.env.locals->C∉X.fs->D≠C->H' C=none->X.s₀.heap.objs.size <= C->(∀ x c,X.env.cells.lookup x=some c->c≠C)->(∀ p∈X.pn++pins,p.1≠C)->(∀ h',Heap.SameBut C s'.heap h'->Inv X pins σ (upd H' D (.lst ys)) { s' with heap:=h' })->Q (.ref D) (upd H' D (.lst ys)) ->
   compPost (model X.prog X.w) X.A X.xe use Q' (.ref D) C (.ok .next) s')
  (hs:∀ x,foldedSetIterable iter X.env x=pure x) (p':Pos) :
  wpAny (model X.prog X.w) X.A (comprehension (.ListComp elt [⟨tg,iter,ifs,0⟩] scope pos) scope X.env p' (newList []) false (eval iter X.env) use) Q' X.xe s:=by
 have hclos:closureFor scope X.env=pure (closFrom X.env.cells scope.names []):=closureFor_eq fun y hy=>I.ok.has y (hc.fr y hy)
 refine wpAny_comprehension_free (g:=⟨tg,iter,ifs,0⟩) (gs:=[]) rfl hs hclos hc.kind (fun x hx hl=>by rw [hc.look x hx,hl]) ?_
 refine thn (hi pins s σ H _ I h) fun v s1 h1=>thn h1 fun itv s2 h2=>?_
 obtain ⟨it,fp,tn,J,H2,e,I2,T,st2,f2,W,⟨m0,w0⟩,turn⟩:=h2
 subst e
 have hlt:∀ b∈fp,b < s2.heap.objs.size:=fun b hb=>by
  obtain ⟨o,e,_⟩:=T.obj _ _ st2 b hb
  exact Heap.lt_size e
 refine wpAny_newObj_type (newEnv_comp ?_)
 have hz3:(s2.heap.push { cls:=.type "list",dict:=none,data:=.seq ([]:List Value).toArray }).objs.size=s2.heap.objs.size+1:=Heap.size_push ..
 have I3:=comp_inv (h3:=s2.heap.push { cls:=.type "list",dict:=none,data:=.seq ([]:List Value).toArray }) hc I2 f2 hlt hz3 (fun b o e=>Heap.get?_push_of_some _ e)
 dsimp only
 rw [hz3]
 generalize hS4:({ s2 with heap:=pushCells ((s2.heap.push { cls:=.type "list",dict:=none,data:=.seq ([]:List Value).toArray }).push { cls:=.type "dict",data:=.dict #[] }) scope.names }:Shared)=s4 at I3 ⊢
 have keep4:∀ b o,s2.heap.get? b=some o->s4.heap.get? b=some o:=fun b o e=>by
  rw [<- hS4]
  exact pushCells_keeps _ _ b o (Heap.get?_push_of_some _ (Heap.get?_push_of_some _ e))
 have eD4:s4.heap.get? s2.heap.objs.size=some { cls:=.type "list",data:=.seq ([]:List Value).toArray 0 }:=by
  rw [<- hS4]
  exact pushCells_keeps _ _ _ _ (Heap.get?_push_of_some _ (Heap.get?_push_size _ rfl))
 generalize hX':ZCg X N' scope (s2.heap.objs.size+1) fp s2 H2=X' at I3
 have hC':X'.env.locals=s2.heap.objs.size+1:=by rw [<- hX'];rfl
 have hfs':X'.fs=frs X.stack:=by rw [<- hX'];rfl
 have nofsD:∀ a,s2.heap.objs.size <= a->a∉frs X.stack:=fun a ha hb=>by
  rcases yAE.mp (I2.stkSub a hb) with z | z
  .exact absurd z.symm (ZDj I2.lt ha)
  .exact I2.nofs ha z
 have cellD:∀ x c,X'.env.cells.lookup x=some c->c≠s2.heap.objs.size:=fun x c e z=>by
  obtain ⟨v,o,ho,hd⟩:=I3.cell x c e
  rw [z,eD4] at ho
  cases ho
  cases hd
 have pinD:∀ {σ':St} {H':Hp} {s':Shared} {its:List Value} {n:Nat},Inv X' [] σ' H' s'->s'.heap.get? s2.heap.objs.size=some { cls:=.type "list",data:=.seq its.toArray n }->H' s2.heap.objs.size=none ->
   Inv X' [(s2.heap.objs.size,{ cls:=.type "list",data:=.seq its.toArray n })] σ' H' s':=fun {σ' H' s' its n} J e nn=>J.pins_of fun p hp=>by
  have e':p=(s2.heap.objs.size,{ cls:=.type "list",data:=.seq its.toArray n }):=by simpa using hp
  subst e'
  refine ⟨e,nn,?_,?_,fun v z=>nomatch z⟩
  .rw [hC'];exact yAO (yBR _)
  .rw [hfs'];exact nofsD _ (yAA _)
 have I4:=pinD I3 eD4 (I2.hok.fresh (yAA _))
 have stat:∀ {H':Hp} {o:Obj},(∀ b∈fp,H' b=none)->∀ b∈fp,FpOk X' [(s2.heap.objs.size,o)] H' b:=fun {H' o} hn b hb=>by
  have hb':=hlt b hb
  refine ⟨hn b hb,?_,?_,.inl (by rw [<- hX'];exact hb),fun x c e z=>?_,fun p hp z=>?_⟩
  .rw [hC'];exact ZDj hb' (yBG _)
  .rw [hfs']
   intro z
   rcases yAE.mp (I2.stkSub b z) with q | q
   .exact (f2 b hb).2.1 q
   .exact (f2 b hb).2.2.1 q
  .have q:=I3.ok.exf b (by rw [<- hX'];exact hb)
   exact q.2 x c e z
  .rw [show X'.pn=[] by rw [<- hX'];rfl] at hp
   have e':p=(s2.heap.objs.size,o):=by simpa using hp
   subst e'
   exact absurd hb' (by rw [<- z];exact yBU _)
 have hfin:∀ {σ':St} {H':Hp} {s':Shared} {its:List Value} {n:Nat} {ys:List V},Inv X' [(s2.heap.objs.size,{ cls:=.type "list",data:=.seq its.toArray n })] σ' H' s'->Vals ys its->ys.length <= sizeLine->(∀ p,H' p=none->Q (.ref p) (upd H' p (.lst ys))) ->
   compPost (model X.prog X.w) X.A X.xe use Q' (.ref s2.heap.objs.size) (s2.heap.objs.size+1) (.ok .next) s':=fun {σ' H' s' its n ys} J hv hz hq=>by
  obtain ⟨m,hn,_⟩:=id J.loc
  rw [hC'] at hn
  have nC:H' (s2.heap.objs.size+1)=none:=by rw [<- hC'];exact J.free
  have J':Inv (ZCg X N' scope (s2.heap.objs.size+1) fp s2 H2) [(s2.heap.objs.size,{ cls:=.type "list",data:=.seq its.toArray n })] σ' H' s':=by rw [hX'];exact J
  obtain ⟨nD,E⟩:=comp_end I2 f2 (yBG _) (yAA _) (yAO (yBR _)) J' hv hz
  refine fin _ _ s' m H' ys hn ?_ (I2.nofs (yBG _)) (yAO (yBR _)) nC (yAP I2.sz (yBG _)) (fun x c e z=>?_) (fun p hp z=>?_) E (hq _ nD)
  .exact (ZDj I2.lt (yBG _)).symm
  .obtain ⟨v,q⟩:=I2.cell x c e
   exact absurd z (ZDj q.lt (yBG _))
  .exact absurd z (ZDj (Heap.lt_size (I2.pin p hp).1) (yBG _))
 have hprog:X'.prog=X.prog:=by rw [<- hX'];rfl
 have hw:X'.w=X.w:=by rw [<- hX'];rfl
 have hK:X'.K=X.K:=by rw [<- hX'];rfl
 have hcalm':X'.calm=true:=by rw [<- hX'];exact hcalm
 have hA:X'.A=X.A:=by rw [<- hX'];rfl
 have henv:ZEN scope (closFrom X.env.cells scope.names []) (s2.heap.objs.size+1) X.env=X'.env:=by rw [<- hX'];rfl
 have hgX:=hg (s2.heap.objs.size+1) fp s2 H2
 have htX:=ht (s2.heap.objs.size+1) fp s2 H2
 have heX:=he (s2.heap.objs.size+1) fp s2 H2
 rw [hX'] at hgX htX heX
 have hxe:∀ e s',X'.xe e s'->False:=fun e s' z=>by rw [<- hX'] at z;exact z
 have hXA:X'.pn=[]:=by rw [<- hX'];rfl
 have hs0:X'.s₀.heap.objs.size=s2.heap.objs.size:=by rw [<- hX'];rfl
 have loop:codeAny (model X.prog X.w) X.A (.compLoop (.ListComp elt [⟨tg,iter,ifs,0⟩] scope pos) 0 (.ref it) (.ref s2.heap.objs.size) X'.env) (compPost (model X.prog X.w) X.A X.xe use Q' (.ref s2.heap.objs.size) (s2.heap.objs.size+1)) s4:=by
  refine codeAny_compLoop_any (fun n s'=>∃ i σ' H' its nn ys,Inv X' [(s2.heap.objs.size,{ cls:=.type "list",data:=.seq its.toArray nn })] σ' H' s' /\ tn i s'.heap /\ (∀ b∈fp,H' b=none) /\ Vals ys its /\ W i n ys σ' H') ?_ m0
   ⟨0,_,H2,[],0,[],I4,T.keep _ _ _ st2 (fun b _ o e=>keep4 b o e),fun b hb=>(f2 b hb).1,.nil,w0⟩
  rintro n s5 ⟨i,σ5,H5,its,nn,ys,I5,st5,fr5,hv,w5⟩
  rcases turn i n ys σ5 H5 w5 with ⟨stop,hz,hq⟩ | ⟨go,hz,step⟩
  .have d:=T.done X' hprog hw hK hcalm' i _ s5 σ5 H5 (fun _ _=>False) I5 (stat fr5) st5 stop
   rw [hA] at d
   refine wpAny_mono d (fun r s6 ⟨hr,I6⟩=>?_) fun _ _ z=>z.elim
   subst hr
   exact hfin I6 hv hz hq
  .have d:=T.item X' hprog hw hK hcalm' i _ s5 σ5 H5 (fun _ _=>False) I5 (stat fr5) st5 go
   rw [hA] at d
   refine wpAny_mono d (fun r s6 ⟨u,hr,h6⟩=>?_) fun _ _ z=>z.elim
   subst hr
   refine wpAny_mono h6 (fun _ s7 ⟨x,H7,I7,r7,y7,st7,fr7⟩=>?_) fun _ _ z=>z.elim
   have I7':=I7.pinned (stat fr7) (T.obj _ _ st7)
   have a1:=hgX _ s7 σ5 H7 x u _ I7' r7 (step x H7 y7)
   rw [hprog,hw,hA] at a1
   refine wpAny_mono a1 (fun _ s8 ⟨σ8,H8,I8,q8⟩=>?_) fun _ _ z=>(hxe _ _ z).elim
   have a2:=htX _ s8 σ8 H8 _ I8 q8
   rw [hprog,hw,hA] at a2
   refine wpAny_mono a2 (fun ok s9 ⟨H9,I9,q9⟩=>?_) fun _ _ z=>(hxe _ _ z).elim
   have back:∀ {σ':St} {H':Hp} {s':Shared},Inv X' ([(s2.heap.objs.size,({ cls:=.type "list",data:=.seq its.toArray nn }:Obj))]++ZEV fp s7.heap) σ' H' s'->tn (i+1) s'.heap /\ (∀ b∈fp,H' b=none):=fun {σ' H' s'} J=>by
    refine ⟨T.keep _ _ _ st7 fun b hb o e=>(J.pin (b,o) (yAQ _ (yAQ _ (ZCb hb e)))).1,fun b hb=>?_⟩
    obtain ⟨o,e,d⟩:=T.obj _ _ st7 b hb
    exact (J.pin (b,o) (yAQ _ (yAQ _ (ZCb hb e)))).2.1
   cases ok with
   | false=>
    rw [if_neg yBE] at q9 ⊢
    obtain ⟨m',hm,w9⟩:=q9
    obtain ⟨t9,f9⟩:=back I9
    exact ⟨m',hm,i+1,σ8,H9,its,nn,ys,I9.unpinned,t9,f9,hv,w9⟩
   | true=>
    rw [if_pos rfl] at q9 ⊢
    have a3:=heX _ s9 σ8 H9 _ I9 q9
    rw [hprog,hw,hA] at a3
    refine wpAny_mono a3 (fun uy s10 ⟨y,H10,I10,r10,m',hm,w10⟩=>?_) fun _ _ z=>(hxe _ _ z).elim
    obtain ⟨t10,f10⟩:=back I10
    have I11:=I10.unpinned
    obtain ⟨eD,nD,_,_,_⟩:=I11.pin (s2.heap.objs.size,{ cls:=.type "list",data:=.seq its.toArray nn }) (yAQ _ yAF)
    dsimp only at eD nD
    have hsz:its.length < sizeLine:=by rw [<- hv.length];exact hz
    refine wpAny_list_append_plain ⟨nn,eD⟩ (fun h' hpl hsb=>?_) (by rw [yAT];omega)
    obtain ⟨n',e'⟩:=hpl
    have e'':h'.get? s2.heap.objs.size=some { cls:=.type "list",data:=.seq (its++[uy]).toArray n' }:=by rw [e'];simp
    have I12:Inv X' [] σ8 H10 s10:=I11.pins_of fun p hp=>absurd hp (by simp)
    have I13:=I12.turned (h':=h') (t':=s10.toks) (it:=s2.heap.objs.size) (fun b o hb e=>(hsb.2 b hb).trans e) nD (by rw [hC'];exact yAO (yBR _)) (.inr (by rw [hs0];exact yAA _)) cellD (fun p hp=>absurd hp (by rw [hXA];simp))
    refine ⟨m',hm,i+1,σ8,H10,its++[uy],n',ys++[y],pinD I13 e'' nD,T.keep _ _ _ t10 fun b hb o e=>?_,f10,hv.append (.cons r10 .nil),w10⟩
    exact (hsb.2 b (ZDj (hlt b hb) (yAA _))).trans e
 have hst:codeAny (model X.prog X.w) X.A (.compStart (.ListComp elt [⟨tg,iter,ifs,0⟩] scope pos) 0 (.ref it) (.ref s2.heap.objs.size) X'.env) (compPost (model X.prog X.w) X.A X.xe use Q' (.ref s2.heap.objs.size) (s2.heap.objs.size+1)) s4 :=
  codeAny_compStart_list loop (T.self X.A 0 s4 _ _ (T.keep _ _ _ st2 (fun b _ o e=>keep4 b o e)) loop)
 rw [<- henv] at hst
 exact hst
theorem ZCC (hcalm:X.calm=true) (hc:ZEO X.N X.env.scope k js N' scope=true) (hi:PI X tg iter wi)
  (hg:∀ C fp s2 H2,PG (ZCg X N' scope C fp s2 H2) tg g) (ht:∀ C fp s2 H2,PIfs (ZCg X N' scope C fp s2 H2) ifs tt) (he:∀ C fp s2 H2,PE (ZCg X N' scope C fp s2 H2) elt te)
  (hs:∀ x,foldedSetIterable iter X.env x=pure x:=by intro _;rfl):PE X (.ListComp elt [⟨tg,iter,ifs,0⟩] scope pos) (ZES k js wi g tt te):=by
 intro pins s σ H Q I h
 rw [eval_ListComp]
 refine comp_core (use:=none) hcalm (cmpOk hc) hi hg ht he I h (fun C D s' m H' ys hn _ _ _ _ _ _ _ E q=>?_) hs _
 exact ⟨m,hn,fun h' hsb=>⟨.ref D,_,E h' hsb,rfl,q⟩⟩
end
mutual
def Dp (K:W.Frag) (H:Hp):PyData->V->Prop
 | .none,v=>v=.non
 | .bool b,v=>v=.bl b
 | .int i,v=>v=.int i
 | .str x,v=>v=.str x
 | .list ds,v=>∃ a xs,v=.ref a /\ SqL K H a xs /\ DpAll K H ds xs
 | .tuple ds,v=>∃ a xs,v=.ref a /\ SqT K H a xs /\ DpAll K H ds xs
 | .dict _,_=>False
def DpAll (K:W.Frag) (H:Hp):List PyData->List V->Prop
 | [],vs=>vs=[]
 | d::ds,vs=>∃ v r,vs=v::r /\ Dp K H d v /\ DpAll K H ds r
end
theorem DpAll.nil {K:W.Frag} {H:Hp}:DpAll K H [] []:=by unfold DpAll;rfl
theorem DpAll.cons {K:W.Frag} {H:Hp} {d:PyData} {ds:List PyData} {v:V} {vs:List V} (a:Dp K H d v) (t:DpAll K H ds vs):DpAll K H (d::ds) (v::vs):=by unfold DpAll;exact ⟨v,vs,rfl,a,t⟩
theorem DpAll.two {K:W.Frag} {H:Hp} {d e:PyData} {v u:V} (a:Dp K H d v) (b:Dp K H e u):DpAll K H [d,e] [v,u]:=.cons a (.cons b .nil)
theorem DpAll.ints {K:W.Frag} {H:Hp}:∀ (ns:List Int),DpAll K H (ns.map PyData.int) (ns.map V.int)
 | []=>.nil
 | n::r=>.cons (by unfold Dp;rfl) (DpAll.ints r)
theorem dp_int {K:W.Frag} {H:Hp} (i:Int):Dp K H (.int i) (.int i):=by unfold Dp;rfl
theorem ZFg {K:W.Frag} {H:Hp} {a:Addr} {xs:List V} {ds:List PyData} (h:SqL K H a xs) (t:DpAll K H ds xs):Dp K H (.list ds) (.ref a):=by unfold Dp;exact ⟨a,xs,rfl,h,t⟩
theorem dp_tup {K:W.Frag} {H:Hp} {a:Addr} {xs:List V} {ds:List PyData} (h:SqT K H a xs) (t:DpAll K H ds xs):Dp K H (.tuple ds) (.ref a):=by unfold Dp;exact ⟨a,xs,rfl,h,t⟩
section
variable {X:Cx} {pins:List (Addr×Obj)} {σ:St} {H:Hp} {s:Shared}
mutual
theorem Inv.reads (I:Inv X pins σ H s):∀ {d:PyData} {v:V} {u:Value},Dp X.K H d v->RelV v u->∃ as,Reads s.heap u d as
 | .none,_,_,h,r=>by unfold Dp at h;subst h;cases (show _=Value.none from r);exact ⟨_,.none⟩
 | .bool b,_,_,h,r=>by unfold Dp at h;subst h;cases (show _=Value.bool b from r);exact ⟨_,.bool b⟩
 | .int i,_,_,h,r=>by unfold Dp at h;subst h;obtain ⟨t,q⟩:=(show ∃ t,_=Value.int i t from r);subst q;exact ⟨_,.int i t⟩
 | .str x,_,_,h,r=>by unfold Dp at h;subst h;obtain ⟨t,q⟩:=(show ∃ t,_=Value.str x t from r);subst q;exact ⟨_,.str x t⟩
 | .list ds,_,_,h,r=>by
  unfold Dp at h
  obtain ⟨a,xs,q,sq,t⟩:=h
  subst q
  cases (show _=Value.ref a from r)
  obtain ⟨its,rv,pl,_⟩:=I.list sq
  obtain ⟨as,ra⟩:=Inv.readsAll I t rv
  obtain ⟨o,n,e1,e2,_,e3⟩:=pl
  exact ⟨_,.list e1 e2 e3 (by simpa using ra)⟩
 | .tuple ds,_,_,h,r=>by
  unfold Dp at h
  obtain ⟨a,xs,q,sq,t⟩:=h
  subst q
  cases (show _=Value.ref a from r)
  obtain ⟨its,rv,pl,_⟩:=I.tuple sq
  obtain ⟨as,ra⟩:=Inv.readsAll I t rv
  obtain ⟨o,e1,e2,n,e3⟩:=pl
  exact ⟨_,.tuple e1 e2 e3 (by simpa using ra)⟩
 | .dict _,_,_,h,_=>by unfold Dp at h;exact h.elim
theorem Inv.readsAll (I:Inv X pins σ H s):∀ {ds:List PyData} {vs:List V} {us:List Value},DpAll X.K H ds vs->Vals vs us->∃ as,ReadsAll s.heap us ds as
 | [],_,_,h,r=>by unfold DpAll at h;subst h;cases r;exact ⟨_,.nil⟩
 | _::_,_,_,h,r=>by
  unfold DpAll at h
  obtain ⟨v,q,e,a,t⟩:=h
  subst e
  cases r with
  | cons r1 r2=>
   obtain ⟨as,h1⟩:=Inv.reads I a r1
   obtain ⟨bs,h2⟩:=Inv.readsAll I t r2
   exact ⟨_,.cons h1 h2⟩
end
def rEqD (K:W.Frag):R2:=fun x y H Q=>∃ d e,Dp K H d x /\ Dp K H e y /\ d.canLay0=true /\ e.canLay0=true /\ d.depth <= 64 /\ Q (.bl (PyData.eqv d e)) H
def rNeD (K:W.Frag):R2:=fun x y H Q=>∃ d e,Dp K H d x /\ Dp K H e y /\ d.canLay0=true /\ e.canLay0=true /\ d.depth <= 64 /\ Q (.bl (!PyData.eqv d e)) H
theorem op_eqD (hu:X.A.units+64 < cLine):OpR X (compareOp .Eq) (rEqD X.K):=by
 intro pins s σ H x y v u Q I rx ry h
 obtain ⟨d,e,h1,h2,c1,c2,dp,q⟩:=h
 obtain ⟨as,ra⟩:=I.reads h1 rx
 obtain ⟨bs,rb⟩:=I.reads h2 ry
 exact SeqAt.compareEq_reads ra rb c1 c2 (by omega) ⟨.bl _,H,I,rfl,q⟩
theorem ZEW (hu:X.A.units+64 < cLine):OpR X (compareOp .NotEq) (rNeD X.K):=by
 intro pins s σ H x y v u Q I rx ry h
 obtain ⟨d,e,h1,h2,c1,c2,dp,q⟩:=h
 obtain ⟨as,ra⟩:=I.reads h1 rx
 obtain ⟨bs,rb⟩:=I.reads h2 ry
 exact SeqAt.compareNe_reads ra rb c1 c2 (by omega) ⟨.bl _,H,I,rfl,q⟩
end
section
variable {X:Cx} {x:Str} {pos:Pos}
theorem ZBV {y:Int} (hg:Gl X x) (h:∃ t,X.mg x=some (.int y t)) (hd:(x == ("__debug__":Str))=false:=by decide):PE X (.Name x pos) (tC (.int y)):=by
 obtain ⟨t,e⟩:=h
 exact pe_glob hg e ⟨t,rfl⟩ hd
theorem ZEz {n:String} (hg:Gl X x) (hm:X.mg x=none) (hv:bootBuiltins x=some (.type n)) (hn:x≠"__name__":=by decide) (hd:(x == ("__debug__":Str))=false:=by decide):PE X (.Name x pos) (tC (.ty n)):=pe_bltn hg hm hv rfl hn hd
end
structure Fn (P:Program) (w:World) (K:W.Frag) (mg:Str->Option Value) (base:Heap) (CX:CXT) (x:Str) (k:Nat) (ps:List Str) (sp:Sp):Prop where
 ex:∃ f fd,FnOk P w K mg base CX k f fd ps sp /\ Binds K fd ps [] /\ W.keepIn K (.ref f)=true /\ mg x=some (.ref f)
structure Mt (P:Program) (w:World) (K:W.Frag) (mg:Str->Option Value) (base:Heap) (CX:CXT) (C:Addr) (m:Str) (k:Nat) (ps:List Str) (sp:Sp):Prop where
 cl:Cls K C
 ex:∃ f fd,FnOk P w K mg base CX k f fd ps sp /\ Binds K fd ps [] /\ Meth K C m f
structure Kl (P:Program) (w:World) (K:W.Frag) (mg:Str->Option Value) (base:Heap) (CX:CXT) (x:Str) (C:Addr) (k:Nat) (ps:List Str) (sp:Sp):Prop where
 mgC:mg x=some (.ref C)
 ex:∃ f fd,FnOk P w K mg base CX k f fd ps sp /\ Binds K fd ps [] /\ Mk K C f
section
variable {X:Cx} {CX:CXT} {k:Nat} {ps:List Str} {sp:Sp} {E:XK} {x m:Str} {C:Addr} {p pos apos:Pos} {e o:Expr} {es:List Expr} {ta:TE} {t:TA}
theorem ZA8 (F:Fn X.prog X.w X.K X.mg X.base CX x k ps sp) (hr:Room k X.A) (hg:Gl X x) (hx:ZBy CX X E) (ha:PA X (e::es) t) (hdb:(x == ("__debug__":Str))=false:=by decide) (he:starEach (e::es) X.env=(false,eval e X.env)::starEach es X.env:=by rfl) (hpl:(backTo pos (starEach es X.env)).any (·.1)=false:=by rfl) :
  PE X (.Call (.Name x p) (e::es) [] pos) (ZFj sp [] E t):=by
 obtain ⟨f,fd,h1,h2,h3,h4⟩:=F.ex
 exact pe_call h1 hr hg h4 h3 h2 .nil hx ha hdb he hpl
theorem ZBc {pl:Sem Bool} (F:Mt X.prog X.w X.K X.mg X.base CX C m k ps sp) (hr:Room k X.A) (hx:ZBy CX X E) (he:PE X o ta) (ha:PA X (e::es) t)
  (hst:starEach (e::es) X.env=(false,eval e X.env)::starEach es X.env:=by rfl) (hpl:(backTo pos (starEach es X.env)).any (·.1)=false:=by rfl)
  (ht:eval (.Call (.Attribute o m apos) (e::es) [] pos) X.env=(do
   let ov <- eval o X.env
   standAt apos.atName
   let (f,first) <- holding [ov] (getMethod ov m pl)
   callWith pos f first (backTo pos (starEach (e::es) X.env)) (backToKw pos (keywordEach [] X.env))):=by rfl) :
  PE X (.Call (.Attribute o m apos) (e::es) [] pos) (ZE9 C m sp [] E ta t):=by
 obtain ⟨f,fd,h1,h2,h3⟩:=F.ex
 exact pe_meth he F.cl h3 h1 hr h2 .nil hx ha hst hpl ht
theorem ZCK {pl:Sem Bool} (F:Mt X.prog X.w X.K X.mg X.base CX C m k ps sp) (hr:Room k X.A) (hx:ZBy CX X E) (he:PE X o ta)
  (ht:eval (.Call (.Attribute o m apos) [] [] pos) X.env=(do
   let ov <- eval o X.env
   standAt apos.atName
   let (f,first) <- holding [ov] (getMethod ov m pl)
   callWith pos f first (backTo pos (starEach [] X.env)) (backToKw pos (keywordEach [] X.env))):=by rfl) :
  PE X (.Call (.Attribute o m apos) [] [] pos) (ZE9 C m sp [] E ta tNil):=by
 obtain ⟨f,fd,h1,h2,h3⟩:=F.ex
 exact pe_meth0 he F.cl h3 h1 hr h2 .nil hx ht
theorem ZF4 (F:Kl X.prog X.w X.K X.mg X.base CX x C k ps sp) (hr:Room (k+1) X.A) (hg:Gl X x) (hx:ZBy CX X E) (ha:PA X (e::es) t) (hdb:(x == ("__debug__":Str))=false:=by decide) (he:starEach (e::es) X.env=(false,eval e X.env)::starEach es X.env:=by rfl) (hpl:(backTo pos (starEach es X.env)).any (·.1)=false:=by rfl) :
  PE X (.Call (.Name x p) (e::es) [] pos) (ZFJ C sp [] E t):=by
 obtain ⟨f,fd,h1,h2,h3⟩:=F.ex
 exact pe_make h3 h1 hr hg F.mgC h2 .nil hx ha hdb he hpl
end
def ZFD:V->Bool
 | .ty _=>true
 | .ref _=>true
 | _=>false
def cval:V->Value
 | .ty n=>.type n
 | .ref a=>.ref a
 | _=>.none
section
variable {X:Cx}
theorem ZCH:ZCM X (.builtin "isinstance") (fun xs H Q=>∃ x c ty b,xs=[x,c] /\ ZFD c=true /\ TyOf X.K H x ty /\ PySem.W.kitOne X.K ty (cval c)=some b /\ Q (.bl b) H):=by
 intro pins s σ H xs us Q I r h
 obtain ⟨x,c,ty,b,rfl,hc,hty,e,q⟩:=h
 obtain ⟨u,w',rfl,r1,r2⟩:=ZFF r
 have e2:w'=cval c:=by
  cases c <;> first | (cases hc;done) | exact r2
 subst e2
 exact isinst_ok I r1 hty e fun tk=>⟨.bl b,H,I.tok tk,rfl,q⟩
end
theorem ZAo {v:V} {σ:St} {H:Hp} {Q:VK}:tVar 0 (some v::σ) H Q=Q v H:=by
 apply propext;unfold tVar;simp
theorem ZAq {i:Nat} {a:Option V} {σ:St} {H:Hp} {Q:VK}:tVar (i+1) (a::σ) H Q=tVar i σ H Q:=by
 apply propext;unfold tVar;simp
theorem rI0_int {g:Int->Int->V} {i j:Int} {H:Hp} {Q:VK}:rI0 g (.int i) (.int j) H Q=Q (g i j) H:=by
 apply propext;unfold rI0;simp
theorem rI_int {C:Int->Int->Prop} {g:Int->Int->V} {i j:Int} {H:Hp} {Q:VK}:rI C g (.int i) (.int j) H Q=(C i j /\ Q (g i j) H):=by
 apply propext;unfold rI;simp
theorem rU_int {g:Int->V} {i:Int} {H:Hp} {Q:VK}:rU g (.int i) H Q=Q (g i) H:=by
 apply propext;unfold rU;simp
theorem rEq_int {i j:Int} {H:Hp} {Q:VK}:rEq (.int i) (.int j) H Q=Q (.bl (decide (i=j))) H:=by
 apply propext;unfold rEq;simp [scal]
theorem rNe_int {i j:Int} {H:Hp} {Q:VK}:rNe (.int i) (.int j) H Q=Q (.bl (!decide (i=j))) H:=by
 apply propext;unfold rNe;simp [scal]
theorem rEq_bl {i j:Bool} {H:Hp} {Q:VK}:rEq (.bl i) (.bl j) H Q=Q (.bl (decide (i=j))) H:=by
 apply propext;unfold rEq;simp [scal]
theorem rNe_bl {i j:Bool} {H:Hp} {Q:VK}:rNe (.bl i) (.bl j) H Q=Q (.bl (!decide (i=j))) H:=by
 apply propext;unfold rNe;simp [scal]
theorem rEq_str {i j:Str} {H:Hp} {Q:VK}:rEq (.str i) (.str j) H Q=Q (.bl (decide (i=j))) H:=by
 apply propext;unfold rEq;simp [scal]
theorem rNe_str {i j:Str} {H:Hp} {Q:VK}:rNe (.str i) (.str j) H Q=Q (.bl (!decide (i=j))) H:=by
 apply propext;unfold rNe;simp [scal]
theorem ex_bl {c:Bool} {Q:Bool->Prop}:(∃ k,V.bl c=V.bl k /\ Q k)=Q c:=by
 apply propext;simp
theorem ex_int {c:Int} {Q:Int->Prop}:(∃ k,V.int c=V.int k /\ Q k)=Q c:=by
 apply propext;simp
theorem ZAX {n:Nat} (h:n <= 1000):n <= sizeLine:=yBO (ZBY h)
theorem ZAQ {H:Hp} {p:Addr} (h:H p=none) (o:HO):Same H (upd H p o):=fun b u q=>by rw [ZAI (ZAE q h)];exact q
def getF (K:W.Frag) (f:Str) (x:V) (H:Hp) (Q:VK):Prop:=∃ a C dx fs v,x=.ref a /\ H a=some (.ins C dx fs) /\ Cls K C /\ NoAttr K C f /\ fs.lookup f=some v /\ Q v H
theorem tFld_eq {K:W.Frag} {ta:TE} {f:Str} {σ:St} {H:Hp} {Q:VK}:tFld K ta f σ H Q=ta σ H (fun x H1=>getF K f x H1 Q):=rfl
theorem getF_of {K:W.Frag} {f:Str} {a C dx:Addr} {fs:List (Str×V)} {v:V} {H:Hp} {Q:VK} (h:H a=some (.ins C dx fs)) (cl:Cls K C) (n:NoAttr K C f) (l:fs.lookup f=some v) (q:Q v H):getF K f (.ref a) H Q:=⟨a,C,dx,fs,v,rfl,h,cl,n,l,q⟩
def setF (K:W.Frag) (f:Str) (x y:V) (H:Hp) (Q:Hp->Prop):Prop:=∃ a C dx fs,x=.ref a /\ H a=some (.ins C dx fs) /\ Cls K C /\ NoAttr K C f /\ fs.length < 1000 /\ Q (upd H a (.ins C dx (putF f y fs)))
theorem sFld_eq {K:W.Frag} {ta tv:TE} {f:Str} {D:Ends} {σ:St} {H:Hp}:sFld K ta tv f D σ H=tv σ H (fun y H1=>ta σ H1 fun x H2=>setF K f x y H2 (D.nx σ)):=rfl
theorem setF_of {K:W.Frag} {f:Str} {a C dx:Addr} {fs:List (Str×V)} {y:V} {H:Hp} {Q:Hp->Prop} (h:H a=some (.ins C dx fs)) (cl:Cls K C) (n:NoAttr K C f) (l:fs.length < 1000) (q:Q (upd H a (.ins C dx (putF f y fs)))):setF K f (.ref a) y H Q:=⟨a,C,dx,fs,rfl,h,cl,n,l,q⟩
theorem ZAh {K:W.Frag} {p:Addr} {xs:List V} {i:Int} {v:V} {H:Hp} {Q:VK} (h:SqL K H p xs) (e:atI xs i=some v) (q:Q v H):rIxL K (.ref p) (.int i) H Q:=⟨p,xs,i,v,rfl,rfl,h,e,q⟩
theorem ZA0 {K:W.Frag} {p:Addr} {xs:List V} {i:Int} {v:V} {H:Hp} {Q:VK} (h:SqT K H p xs) (e:atI xs i=some v) (q:Q v H):rIxT K (.ref p) (.int i) H Q:=⟨p,xs,i,v,rfl,rfl,h,e,q⟩
theorem ZAf {α:Type} {xs:List α} {i:Int} {v:α} (h0:0 <= i) (h:xs[i.toNat]?=some v):atI xs i=some v:=by
 have q:=atI_nat h
 rwa [Int.toNat_of_nonneg h0] at q
theorem atI_ints {xs:List Int} {i:Int} {v:Int} (h0:0 <= i) (h:xs[i.toNat]?=some v):atI (xs.map V.int) i=some (.int v):=ZAf h0 (by rw [yAW,h];rfl)
def Nxt (P:Nat->List V->St->Hp->Prop) (n i:Nat) (ys:List V) (σ:St) (H:Hp):Prop:=∃ m',m' < n-i /\ m'=n-(i+1) /\ i+1 <= n /\ P (i+1) ys σ H
theorem Nxt.of {P:Nat->List V->St->Hp->Prop} {n i:Nat} {ys:List V} {σ:St} {H:Hp} (h:i < n) (p:P (i+1) ys σ H):Nxt P n i ys σ H:=⟨n-(i+1),by omega,rfl,h,p⟩
theorem comp_list {K:W.Frag} {a:Addr} {xs:List V} {g:TG} {tt:TT} {te:TE} {Q:VK} {σ0:St} {H:Hp} (P:Nat->List V->St->Hp->Prop) (h0:P 0 [] σ0 H) (hl:∀ i ys σ H,i <= xs.length->P i ys σ H->SqL K H a xs /\ ys.length <= i) (hz:xs.length <= sizeLine)
  (hs:∀ i ys x σ H,i < xs.length->xs[i]?=some x->P i ys σ H->g x σ H fun σ2 H2=>tt σ2 H2 fun b H3=>if b=true then te σ2 H3 fun y H4=>Nxt P xs.length i (ys++[y]) σ2 H4 else Nxt P xs.length i ys σ2 H3)
  (hd:∀ ys σ H,P xs.length ys σ H->∀ p,H p=none->Q (.ref p) (upd H p (.lst ys))) :
  ∃ W:Nat->Nat->List V->St->Hp->Prop,(∃ m,W 0 m [] σ0 H) /\ ∀ i m ys σ H,W i m ys σ H ->
   ((Itl K a).stop i H /\ ys.length <= sizeLine /\ ∀ p,H p=none->Q (.ref p) (upd H p (.lst ys))) ∨
   ((Itl K a).go i H /\ ys.length < sizeLine /\ ∀ x H',(Itl K a).yld i H x H'->g x σ H' fun σ2 H2=>tt σ2 H2 fun b H3=>if b=true then te σ2 H3 fun y H4=>∃ m',m' < m /\ W (i+1) m' (ys++[y]) σ2 H4 else ∃ m',m' < m /\ W (i+1) m' ys σ2 H3):=by
 refine ⟨fun i m ys σ H=>m=xs.length-i /\ i <= xs.length /\ P i ys σ H,⟨xs.length,by simp,yAI _,h0⟩,?_⟩
 rintro i m ys σ H ⟨rfl,hi,p⟩
 obtain ⟨q,ly⟩:=hl i ys σ H hi p
 by_cases hlt:i < xs.length
 .refine .inr ⟨⟨xs,xs[i],q,by simp [hlt]⟩,by omega,fun x H' y=>?_⟩
  obtain ⟨e,y⟩:=y
  subst e
  exact hs i ys x σ _ hlt (y xs q) p
 .have e:i=xs.length:=by omega
  subst e
  exact .inl ⟨⟨xs,q,yAA _⟩,by omega,hd ys σ H p⟩
theorem comp_range {lo:Int} {n:Nat} {g:TG} {tt:TT} {te:TE} {Q:VK} {σ0:St} {H:Hp} (P:Nat->List V->St->Hp->Prop) (h0:P 0 [] σ0 H) (hl:∀ i ys σ H,P i ys σ H->ys.length <= i) (hz:n <= sizeLine)
  (hs:∀ i ys σ H,i < n->P i ys σ H->g (.int (lo+i)) σ H fun σ2 H2=>tt σ2 H2 fun b H3=>if b=true then te σ2 H3 fun y H4=>Nxt P n i (ys++[y]) σ2 H4 else Nxt P n i ys σ2 H3)
  (hd:∀ ys σ H,P n ys σ H->∀ p,H p=none->Q (.ref p) (upd H p (.lst ys))) :
  ∃ W:Nat->Nat->List V->St->Hp->Prop,(∃ m,W 0 m [] σ0 H) /\ ∀ i m ys σ H,W i m ys σ H ->
   ((Itr lo n).stop i H /\ ys.length <= sizeLine /\ ∀ p,H p=none->Q (.ref p) (upd H p (.lst ys))) ∨
   ((Itr lo n).go i H /\ ys.length < sizeLine /\ ∀ x H',(Itr lo n).yld i H x H'->g x σ H' fun σ2 H2=>tt σ2 H2 fun b H3=>if b=true then te σ2 H3 fun y H4=>∃ m',m' < m /\ W (i+1) m' (ys++[y]) σ2 H4 else ∃ m',m' < m /\ W (i+1) m' ys σ2 H3):=by
 refine ⟨fun i m ys σ H=>m=n-i /\ i <= n /\ P i ys σ H,⟨n,by simp,yAI _,h0⟩,?_⟩
 rintro i m ys σ H ⟨rfl,hi,p⟩
 have ly:=hl i ys σ H p
 by_cases hlt:i < n
 .refine .inr ⟨hlt,by omega,fun x H' y=>?_⟩
  obtain ⟨e,y⟩:=y
  subst e y
  exact hs i ys σ _ hlt p
 .have e:i=n:=by omega
  subst e
  exact .inl ⟨yAA _,by omega,hd ys σ H p⟩
theorem Same.upd {H H':Hp} {p:Addr} {o:HO} (e:Same H H') (h:H p=none):Same H (upd H' p o):=fun b u q=>by rw [ZAI (ZAE q h)];exact e b u q
theorem Same.new {H H':Hp} {p:Addr} {o:HO} (e:Same H H') (h:H' p=none):Same H (L2.upd H' p o):=e.upd (e.free h)
theorem kit_same {K:W.Frag} {t:Value} (h:(t == t)=true):PySem.W.kitOne K t t=some true:=by unfold PySem.W.kitOne;rw [if_pos h]
theorem ZC0 (ns:List Int) (lo hi:Option Int):cutV (ns.map V.int) lo hi=(((ns.drop (HT.sIx ns.length 0 lo)).take (HT.sIx ns.length ns.length hi-HT.sIx ns.length 0 lo)).map V.int):=by
 unfold cutV
 rw [yAB,List.map_take,yCN]
theorem get_ints {ns:List Int} {i:Nat} {x:V} (h:(ns.map V.int)[i]?=some x):∃ n,ns[i]?=some n /\ x=.int n:=by
 rw [yAW] at h
 cases e:ns[i]? with
 | none=>rw [e] at h;cases h
 | some n=>rw [e] at h;exact ⟨n,rfl,(Option.some.inj h).symm⟩
theorem ZFc {n:Nat} {i:Int} (h0:0 <= i) (h:i < n):ixN n i=some i.toNat:=by unfold ixN;rw [if_pos h0,if_pos h]
theorem ZDE {K:W.Frag} {a:Addr} {xs:List V} {lo hi:Option Int} {H:Hp} {Q:VK} (h:SqL K H a xs) (q:∀ p,H p=none->Q (.ref p) (upd H p (.lst (cutV xs lo hi)))):rSlL K (.ref a) lo hi H Q:=⟨a,xs,rfl,h,q⟩
def forL (K:W.Frag) (g:TG) (tb:TS) (D:Ends) (σ:St) (x:V) (H1:Hp):Prop:=∃ a,x=.ref a /\ (∃ xs,SqL K H1 a xs) /\ ∃ W:Nat->Nat->St->Hp->Prop,(∃ m,W 0 m σ H1) /\ ∀ i m σ H,W i m σ H ->
 ((Itl K a).stop i H /\ D.nx σ H)∨((Itl K a).go i H /\ ∃ N:St->Hp->Prop,(∀ σ' H',N σ' H'->∃ m',m' < m /\ W (i+1) m' σ' H') /\ ∀ x H',(Itl K a).yld i H x H'->g x σ H' fun σ2 H2=>tb { D with nx:=N,ct:=N,bk:=D.nx } σ2 H2)
theorem tForL_eq {K:W.Frag} {tl:TE} {g:TG} {tb:TS} {D:Ends} {σ:St} {H:Hp}:tFor (ZF7 K tl) g tb D σ H=tl σ H (fun x H1=>forL K g tb D σ x H1):=rfl
theorem ZEs {K:W.Frag} {g:TG} {tb:TS} {D:Ends} {σ:St} {H:Hp} {a:Addr} {xs:List V} (h:SqL K H a xs) (Pv:Nat->St->Hp->Prop) (h0:Pv 0 σ H) (hl:∀ i σ H,i <= xs.length->Pv i σ H->SqL K H a xs)
  (hs:∀ i x σ H,xs[i]?=some x->Pv i σ H->g x σ H fun σ2 H2=>tb { D with nx:=Pv (i+1),ct:=Pv (i+1),bk:=D.nx } σ2 H2) (hd:∀ σ H,Pv xs.length σ H->D.nx σ H):forL K g tb D σ (.ref a) H :=
 ⟨a,rfl,⟨xs,h⟩,for_list Pv h0 hl hs hd⟩
def forR (lo:Int) (g:TG) (tb:TS) (D:Ends) (σ:St) (n:Nat) (H1:Hp):Prop:=∃ W:Nat->Nat->St->Hp->Prop,(∃ m,W 0 m σ H1) /\ ∀ i m σ H,W i m σ H ->
 ((Itr lo n).stop i H /\ D.nx σ H)∨((Itr lo n).go i H /\ ∃ N:St->Hp->Prop,(∀ σ' H',N σ' H'->∃ m',m' < m /\ W (i+1) m' σ' H') /\ ∀ x H',(Itr lo n).yld i H x H'->g x σ H' fun σ2 H2=>tb { D with nx:=N,ct:=N,bk:=D.nx } σ2 H2)
def forR1 (g:TG) (tb:TS) (D:Ends) (σ:St) (x:V) (H1:Hp):Prop:=∃ j:Int,[x]=[.int j] /\ -(2 ^ 62) <= j /\ j < 2 ^ 62 /\ forR 0 g tb D σ j.toNat H1
def forR2 (g:TG) (tb:TS) (D:Ends) (σ:St) (x y:V) (H1:Hp):Prop:=∃ i j:Int,[x,y]=[.int i,.int j] /\ (-(2 ^ 62) <= i /\ i < 2 ^ 62 /\ -(2 ^ 62) <= j /\ j < 2 ^ 62) /\ forR i g tb D σ (j-i).toNat H1
theorem tForR1_eq {t:TE} {g:TG} {tb:TS} {D:Ends} {σ:St} {H:Hp}:tFor (ZF6 (ZB9 t tNil)) g tb D σ H=t σ H (fun x H1=>forR1 g tb D σ x H1):=rfl
theorem tForR2_eq {t u:TE} {g:TG} {tb:TS} {D:Ends} {σ:St} {H:Hp}:tFor (ZF5 (ZB9 t (ZB9 u tNil))) g tb D σ H=t σ H (fun x H1=>u σ H1 fun y H2=>forR2 g tb D σ x y H2):=rfl
theorem ZEJ {lo:Int} {n:Nat} {g:TG} {tb:TS} {D:Ends} {σ:St} {H:Hp} (Pv:Nat->St->Hp->Prop) (h0:Pv 0 σ H)
  (hs:∀ i σ H,i < n->Pv i σ H->g (.int (lo+i)) σ H fun σ2 H2=>tb { D with nx:=Pv (i+1),ct:=Pv (i+1),bk:=D.nx } σ2 H2) (hd:∀ σ H,Pv n σ H->D.nx σ H):forR lo g tb D σ n H:=for_range Pv h0 hs hd
theorem forR1_of {j:Int} {g:TG} {tb:TS} {D:Ends} {σ:St} {H:Hp} (h:-1000 <= j /\ j <= 1000) (q:forR 0 g tb D σ j.toNat H):forR1 g tb D σ (.int j) H:=⟨j,rfl,by omega,by omega,q⟩
theorem forR2_of {i j:Int} {g:TG} {tb:TS} {D:Ends} {σ:St} {H:Hp} (h:-1000 <= i /\ i <= 1000 /\ -1000 <= j /\ j <= 1000) (q:forR i g tb D σ (j-i).toNat H):forR2 g tb D σ (.int i) (.int j) H:=⟨i,j,rfl,by omega,q⟩
def ZFq (K:W.Frag) (g:TG) (tt:TT) (te:TE) (σ0:St) (Q:VK) (x:V) (H1:Hp):Prop:=∃ a,x=.ref a /\ (∃ xs,SqL K H1 a xs) /\ ∃ W:Nat->Nat->List V->St->Hp->Prop,(∃ m,W 0 m [] σ0 H1) /\ ∀ i m ys σ H,W i m ys σ H ->
 ((Itl K a).stop i H /\ ys.length <= sizeLine /\ ∀ p,H p=none->Q (.ref p) (upd H p (.lst ys))) ∨
 ((Itl K a).go i H /\ ys.length < sizeLine /\ ∀ x H',(Itl K a).yld i H x H'->g x σ H' fun σ2 H2=>tt σ2 H2 fun b H3=>if b=true then te σ2 H3 fun y H4=>∃ m',m' < m /\ W (i+1) m' (ys++[y]) σ2 H4 else ∃ m',m' < m /\ W (i+1) m' ys σ2 H3)
theorem tCompL_eq {k:Nat} {js:List Nat} {K:W.Frag} {tl:TE} {g:TG} {tt:TT} {te:TE} {σ:St} {H:Hp} {Q:VK}:ZES k js (ZF7 K tl) g tt te σ H Q=tl σ H (fun x H1=>ZFq K g tt te (up k js σ) Q x H1):=rfl
theorem ZEM {K:W.Frag} {a:Addr} {xs:List V} {g:TG} {tt:TT} {te:TE} {Q:VK} {σ0:St} {H:Hp} (h:SqL K H a xs) (hz:xs.length <= 1000) (P:Nat->List V->St->Hp->Prop) (h0:P 0 [] σ0 H) (hl:∀ i ys σ H,i <= xs.length->P i ys σ H->SqL K H a xs /\ ys.length <= i)
  (hs:∀ i ys x σ H,i < xs.length->xs[i]?=some x->P i ys σ H->g x σ H fun σ2 H2=>tt σ2 H2 fun b H3=>if b=true then te σ2 H3 fun y H4=>Nxt P xs.length i (ys++[y]) σ2 H4 else Nxt P xs.length i ys σ2 H3)
  (hd:∀ ys σ H,P xs.length ys σ H->∀ p,H p=none->Q (.ref p) (upd H p (.lst ys))):ZFq K g tt te σ0 Q (.ref a) H:=⟨a,rfl,⟨xs,h⟩,comp_list P h0 hl (ZAX hz) hs hd⟩
def compR (lo:Int) (g:TG) (tt:TT) (te:TE) (σ0:St) (Q:VK) (n:Nat) (H1:Hp):Prop:=∃ W:Nat->Nat->List V->St->Hp->Prop,(∃ m,W 0 m [] σ0 H1) /\ ∀ i m ys σ H,W i m ys σ H ->
 ((Itr lo n).stop i H /\ ys.length <= sizeLine /\ ∀ p,H p=none->Q (.ref p) (upd H p (.lst ys))) ∨
 ((Itr lo n).go i H /\ ys.length < sizeLine /\ ∀ x H',(Itr lo n).yld i H x H'->g x σ H' fun σ2 H2=>tt σ2 H2 fun b H3=>if b=true then te σ2 H3 fun y H4=>∃ m',m' < m /\ W (i+1) m' (ys++[y]) σ2 H4 else ∃ m',m' < m /\ W (i+1) m' ys σ2 H3)
def compR1 (g:TG) (tt:TT) (te:TE) (σ0:St) (Q:VK) (x:V) (H1:Hp):Prop:=∃ j:Int,[x]=[.int j] /\ -(2 ^ 62) <= j /\ j < 2 ^ 62 /\ compR 0 g tt te σ0 Q j.toNat H1
theorem tCompR1_eq {k:Nat} {js:List Nat} {t:TE} {g:TG} {tt:TT} {te:TE} {σ:St} {H:Hp} {Q:VK}:ZES k js (ZF6 (ZB9 t tNil)) g tt te σ H Q=t σ H (fun x H1=>compR1 g tt te (up k js σ) Q x H1):=rfl
theorem compR1_of {j:Int} {g:TG} {tt:TT} {te:TE} {Q:VK} {σ0:St} {H:Hp} (h:-1000 <= j /\ j <= 1000) (P:Nat->List V->St->Hp->Prop) (h0:P 0 [] σ0 H) (hl:∀ i ys σ H,P i ys σ H->ys.length <= i)
  (hs:∀ i ys σ H,i < j.toNat->P i ys σ H->g (.int (0+i)) σ H fun σ2 H2=>tt σ2 H2 fun b H3=>if b=true then te σ2 H3 fun y H4=>Nxt P j.toNat i (ys++[y]) σ2 H4 else Nxt P j.toNat i ys σ2 H3)
  (hd:∀ ys σ H,P j.toNat ys σ H->∀ p,H p=none->Q (.ref p) (upd H p (.lst ys))):compR1 g tt te σ0 Q (.int j) H:=⟨j,rfl,by omega,by omega,comp_range P h0 hl (ZAX (by omega)) hs hd⟩
def CDivB (i j:Int):Prop:=0 < j /\ j < 2 ^ 250
section
variable {X:Cx}
theorem ZDM:OpR X (binaryOp .FloorDiv) (rI CDivB fun i j=>.int (i / j)):=opI fun i j _ _ _ _ _ hc q=>by
 have h1:(0:Int) < j:=hc.1
 have h2:j < 2 ^ 250:=hc.2
 have h3:j.natAbs < 2 ^ 250:=by
  have e:(j.natAbs:Int)=j:=Int.natAbs_of_nonneg (by omega)
  have e2:((2 ^ 250:Nat):Int)=2 ^ 250:=by rfl
  omega
 have h4:j.natAbs.log2 < 250:=(Nat.log2_lt (by omega)).mpr h3
 exact floordiv_int (by omega) (by rw [Int.fdiv_eq_ediv_of_nonneg i (by omega)];exact q) (.inl (PyProof.noPylong_of_log2 (by omega)))
end
theorem gCons_eq {t:TG} {u:TGs} {v:V} {r:List V} {σ:St} {H:Hp} {Q:St->Hp->Prop}:ZGA t u (v::r) σ H Q=t v σ H (fun σ' H'=>u r σ' H' Q):=by
 apply propext;unfold ZGA;constructor
 .rintro ⟨v',r',e,q⟩;cases e;exact q
 .exact fun q=>⟨v,r,rfl,q⟩
theorem gNil_eq {σ:St} {H:Hp} {Q:St->Hp->Prop}:gNil [] σ H Q=Q σ H:=by
 apply propext;unfold gNil;simp
theorem ZEH {K:W.Frag} {n:Nat} {t:TGs} {a:Addr} {xs:List V} {σ:St} {H:Hp} {Q:St->Hp->Prop} (h:SqT K H a xs) (l:xs.length=n) (q:t xs σ H Q):gTup K n t (.ref a) σ H Q:=⟨a,xs,rfl,h,l,q⟩
section
variable {X:Cx} {tg l e o:Expr} {es:List Expr} {tl te to:TE} {t:TA} {pos apos cpos:Pos} {f:Str}
theorem ZDP (K:W.Frag) (h:X.K=K:=by rfl):IxR X (rIxL K):=h ▸ ZAa
theorem ZEE (K:W.Frag) (h:X.K=K:=by rfl):IxR X (rIxT K):=h ▸ ZA2
theorem ZEl (K:W.Frag) {k:Nat} {tgs:TGs} {n:Nat} (hc:X.calm=true) (hg:PGs X es tgs)
  (hn:(assignEach es X.env).length=n:=by rfl) (hst:(assignEach es X.env).findIdx? (·.1)=none:=by rfl) (h:X.K=K:=by rfl):PG X (.Tuple es k pos) (gTup K n tgs):=h ▸ pg_tup hc hg hn hst
end
section
variable {X:Cx}
theorem tAug_eq {i:Nat} {te:TE} {ti:TIp} {D:Ends} {σ:St} {H:Hp}:tAug i te ti D σ H=tVar i σ H (fun x H0=>te σ H0 fun y H1=>ti x y H1 fun z H2=>D.nx (σ.set i (some z)) H2):=rfl
theorem ipI_int {f:Int->Int->Int} {i j:Int} {H:Hp} {Q:VK}:ipI f (.int i) (.int j) H Q=Q (.int (f i j)) H:=by
 refine propext ⟨?_,fun q=>⟨i,j,rfl,rfl,q⟩⟩
 rintro ⟨a,b,e1,e2,q⟩
 cases e1;cases e2;exact q
theorem cx_K {CX:CXT} {P:Program} {w:World} {K:W.Frag} {mg:Str->Option Value} {base:Heap} {N:List Str} {qual:Str} {scope:Scope} {f:Addr} {cd:Value} {A:Around} {outer:List Env} {s:Shared} {H:Hp} {E:XK}:(cxOf CX P w K mg base N qual scope f cd A outer s H E).K=K:=rfl
def wBody (W:Nat->St->Hp->Prop) (m:Nat) (tb:TS) (D:Ends) (σ:St) (H1:Hp):Prop:=∃ N:St->Hp->Prop,(∀ σ' H',N σ' H'->∃ m',m' < m /\ W m' σ' H') /\ tb { D with nx:=N,ct:=N,bk:=D.nx } σ H1
theorem ZBq {W:Nat->St->Hp->Prop} {m:Nat} {tb:TS} {D:Ends} {σ:St} {H1:Hp} (h:tb { D with nx:=fun σ' H'=>∃ m',m' < m /\ W m' σ' H',ct:=fun σ' H'=>∃ m',m' < m /\ W m' σ' H',bk:=D.nx } σ H1):wBody W m tb D σ H1:=⟨_,fun _ _ q=>q,h⟩
theorem ZBp {c:TT} {tb:TS} {D:Ends} {σ:St} {H:Hp} (W:Nat->St->Hp->Prop) (h0:∃ m,W m σ H) (hs:∀ m σ H,W m σ H->c σ H fun b H1=>if b=true then wBody W m tb D σ H1 else D.nx σ H1):tWhile c tb D σ H:=⟨W,h0,hs⟩
def insV (xs:List V) (i:Int) (y:V):List V:=let k:=if i < 0 then (i+(xs.length:Int)).toNat else min i.toNat xs.length;xs.take k++y::xs.drop k
def rInsert:V->List V->Hp->VK->Prop:=fun x vs H Q=>∃ l xs i y,x=.ref l /\ vs=[.int i,y] /\ H l=some (.lst xs) /\ xs.length < sizeLine /\ (-(2 ^ 62) <= i /\ i < 2 ^ 62) /\ Q .non (upd H l (.lst (insV xs i y)))
theorem ins_arr (its:List Value) (k:Nat) (u:Value) (hk:k <= its.length):(its.toArray.extract 0 k).push u++its.toArray.extract k=(its.take k++u::its.drop k).toArray:=by
 apply Array.ext'
 simp
 exact yBP (by rw [yAU];exact yAA _)
theorem insV_length (xs:List V) (i:Int) (y:V):(insV xs i y).length=xs.length+1:=by
 unfold insV
 dsimp only
 rw [yAD,yAG,yAN,yAU]
 omega
theorem Vals.ins {xs:List V} {us:List Value} {y:V} {u:Value} (r:Vals xs us) (q:RelV y u) (k:Nat):Vals (xs.take k++y::xs.drop k) (us.take k++u::us.drop k):=(r.take k).append (.cons q (r.drop k))
theorem mt_insert:MtM X "list.insert" rInsert:=by
 intro pins s σ H x vs v us Q I rx rv h
 obtain ⟨l,xs,i,y,rfl,rfl,hH,hz,hi,q⟩:=h
 cases rx
 obtain ⟨u,u2,rfl,ru,ru2⟩:=rv.two
 obtain ⟨t,rfl⟩:=ru
 obtain ⟨z,its,n,r,hl,e⟩:=I.lstM hH
 have hc0:¬(!Builtin.List.listFitsIndex i)=true:=by
  unfold Builtin.List.listFitsIndex
  have:(decide (-(2 ^ 63:Int) <= i) && decide (i < 2 ^ 63))=true:=by
   rw [Bool.and_eq_true];exact ⟨decide_eq_true (by omega),decide_eq_true (by omega)⟩
  simpa using this
 refine call_meets F.slot_list_insert ⟨_,e,rfl⟩ F.entry_list_insert (F.args_list_insert_3 _ _ _) (PySem.AutoListH.list_insert_list_int_val_1 l its.toArray n i t u2 hc0 (by rw [yAT];omega)) ⟨e,?_⟩
 have hk:(if i < 0 then (i+(its.length:Int)).toNat else min i.toNat its.length) <= its.length:=by split <;> omega
 refine ⟨.non,_,I.lset (its':=its.take (if i < 0 then (i+(its.length:Int)).toNat else min i.toNat its.length)++u2::its.drop (if i < 0 then (i+(its.length:Int)).toNat else min i.toNat its.length)) hH e ?_ (ys:=insV xs i y) ?_ ?_,rfl,q⟩
 .show (its.toArray.extract 0 _).push u2++its.toArray.extract _=_
  rw [yAT]
  exact ins_arr its _ u2 hk
 .unfold insV
  rw [hl]
  exact r.ins ru2 _
 .rw [insV_length];omega
end
structure Enc {α:Type} [DecidableEq α] (e:α->PyData) (n:Nat):Prop where
 eq:∀ a b,PyData.eqv (e a) (e b)=decide (a=b)
 lay:∀ a,(e a).canLay0=true
 dep:∀ a,(e a).depth <= n
theorem Enc.int:Enc PyData.int 0:=⟨fun a b=>by unfold PyData.eqv;rw [Bool.eq_iff_iff];simp,fun a=>by unfold PyData.canLay0;rfl,fun a=>by unfold PyData.depth;exact yAA _⟩
section
variable {α β γ:Type} [DecidableEq α] [DecidableEq β] [DecidableEq γ] {e:α->PyData} {f:β->PyData} {g:γ->PyData} {n m k:Nat}
theorem Enc.all (h:Enc e n):∀ xs ys:List α,PyData.eqvAll (xs.map e) (ys.map e)=decide (xs=ys)
 | [],[]=>by simp [PyData.eqvAll]
 | x::xs,[]=>by simp [PyData.eqvAll]
 | [],y::ys=>by simp [PyData.eqvAll]
 | x::xs,y::ys=>by
  rw [yAX,yAX]
  unfold PyData.eqvAll
  rw [h.eq,h.all xs ys,<- Bool.decide_and]
  exact decide_eq_decide.mpr (by rw [List.cons.injEq])
theorem Enc.layAll (h:Enc e n):∀ xs:List α,PyData.canLayAll0 (xs.map e)=true
 | []=>by simp [PyData.canLayAll0]
 | x::xs=>by rw [yAX];unfold PyData.canLayAll0;rw [h.lay,h.layAll xs];rfl
theorem Enc.depAll (h:Enc e n):∀ xs:List α,PyData.depthAll (xs.map e) <= n
 | []=>by simp [PyData.depthAll]
 | x::xs=>by
  rw [yAX];unfold PyData.depthAll
  have a:=h.dep x
  have b:=h.depAll xs
  omega
theorem Enc.list (h:Enc e n):Enc (fun xs:List α=>PyData.list (xs.map e)) (n+1) :=
 ⟨fun a b=>by unfold PyData.eqv;exact h.all a b,fun a=>by unfold PyData.canLay0;exact h.layAll a,fun a=>by unfold PyData.depth;have:=h.depAll a;omega⟩
theorem eqD_of {K:W.Frag} {H:Hp} {x y:V} {a b:α} {Q:VK} (h:Enc e n) (hn:n <= 64) (dx:Dp K H (e a) x) (dy:Dp K H (e b) y) (q:Q (.bl (decide (a=b))) H):rEqD K x y H Q :=
 ⟨_,_,dx,dy,h.lay a,h.lay b,yAP (h.dep a) hn,by rw [h.eq];exact q⟩
theorem ZE3 {K:W.Frag} {H:Hp} {x y:V} {a b:α} {Q:VK} (h:Enc e n) (hn:n <= 64) (dx:Dp K H (e a) x) (dy:Dp K H (e b) y) (q:Q (.bl (!decide (a=b))) H):rNeD K x y H Q :=
 ⟨_,_,dx,dy,h.lay a,h.lay b,yAP (h.dep a) hn,by rw [h.eq];exact q⟩
end
theorem ZBd {K:W.Frag} {H:Hp} {a:Addr} {xs:List Int} (h:SqL K H a (xs.map V.int)):Dp K H (.list (xs.map PyData.int)) (.ref a):=ZFg h (DpAll.ints xs)
section
variable {K:W.Frag} {H:Hp} {R:Bool->Prop}
theorem ZEp {x c:V} {ty:Value} {b:Bool} (hc:ZFD c=true) (t:TyOf K H x ty) (k:PySem.W.kitOne K ty (cval c)=some b) (q:R b):∃ x' c' ty b,[x,c]=[x',c'] /\ ZFD c'=true /\ TyOf K H x' ty /\ PySem.W.kitOne K ty (cval c')=some b /\ R b:=⟨x,c,ty,b,rfl,hc,t,k,q⟩
theorem inst_int {i:Int} (q:R true):∃ x' c' ty b,[V.int i,V.ty "int"]=[x',c'] /\ ZFD c'=true /\ TyOf K H x' ty /\ PySem.W.kitOne K ty (cval c')=some b /\ R b:=ZEp rfl (.int i) (kit_same rfl) q
theorem inst_int_bl {i:Int} (k:PySem.W.kitOne K (.type "int") (.type "bool")=some false) (q:R false):∃ x' c' ty b,[V.int i,V.ty "bool"]=[x',c'] /\ ZFD c'=true /\ TyOf K H x' ty /\ PySem.W.kitOne K ty (cval c')=some b /\ R b:=ZEp rfl (.int i) k q
theorem inst_lst {a:Addr} {xs:List V} (h:H a=some (.lst xs)) (q:R true):∃ x' c' ty b,[V.ref a,V.ty "list"]=[x',c'] /\ ZFD c'=true /\ TyOf K H x' ty /\ PySem.W.kitOne K ty (cval c')=some b /\ R b:=ZEp rfl (.lst h) (kit_same rfl) q
end
structure FunD (K:W.Frag) (x qual:Str) (st:Stmt) (f:Addr) (fd:FuncData) (dv:List Value):Prop where
 ex:∃ (oc:Value) (od:Option Addr) (T:Addr) (kV doc pm:Value) (an:Option Addr) (cdv ct:Value) (osl:Array (Option Value)),
  fd=W.fnOf x qual (ZAN st) (ZAJ st) (ZAC st) (.ref T) kV doc pm an cdv ct /\ K.lookup f=some ⟨oc,od,.func fd,osl⟩ /\ W.codeIn K cdv qual=true /\ ∃ o n,K.lookup T=some o /\ o.data=.seq dv.toArray n
 kp:W.keepIn K (.ref f)=true
section
variable {P:Program} {w:World} {K:W.Frag} {mg:Str->Option Value} {base:Heap}
theorem FunD.ok {x qual:Str} {st:Stmt} {f:Addr} {fd:FuncData} {dv:List Value} {N ps:List Str} {k:Nat} {sp:Sp} (F:FunD K x qual st f fd dv) (S:FnScope N ps (ZAC st)) (len:∀ vs H Q E,sp vs H Q E->vs.length=ps.length)
  (hbody:∀ (cdv:Value) (A:Around) (outer:List Env) (s:Shared) (H:Hp) (vs:List V) (Q:VK) (E:XK),Room k (A.deeper (envOfC qual (ZAC st) s.heap.objs.size f cdv))->sp vs H Q E ->
   ∃ t,PSs (cxOf CX0 P w K mg base N qual (ZAC st) f cdv A outer s H E).nox (ZAJ st) t /\ t { nx:=fun _ H'=>Q .non H',rt:=Q } (start N vs) H):FnOk P w K mg base CX0 (k+1) f fd ps sp:=by
 obtain ⟨oc,od,T,kV,doc,pm,an,cdv,ct,osl,rfl,lk,hcd,_⟩:=F.ex
 refine fn_of lk hcd S len fun A outer s H vs Q E hr hsp=>?_
 obtain ⟨t,h,q⟩:=hbody cdv A outer s H vs Q E hr hsp
 exact ⟨t,h.nox,q⟩
theorem FunD.binds {x qual:Str} {st:Stmt} {f:Addr} {fd:FuncData} {dv ds:List Value} {ps:List Str} (F:FunD K x qual st f fd dv)
  (h:∀ (T:Addr) (kV doc pm:Value) (an:Option Addr) (cdv ct:Value) (us:List Value),(us++ds).length=ps.length->∃ k,bindArgs (W.fnOf x qual (ZAN st) (ZAJ st) (ZAC st) (.ref T) kV doc pm an cdv ct) ⟨us,[]⟩=seqItems? (.ref T) >>= k /\ k (some dv.toArray)=pure (ps.zip (us++ds))):Binds K fd ps ds:=by
 obtain ⟨oc,od,T,kV,doc,pm,an,cdv,ct,osl,rfl,lk,hcd,o,n,hT,ho⟩:=F.ex
 intro s us KX hl
 obtain ⟨k,h1,h2⟩:=h T kV doc pm an cdv ct us hl
 exact PySem.W.binds_K KX rfl hT ho h1 h2
theorem ZEI {x qual:Str} {st:Stmt} {f T:Addr} {oc:Value} {od an:Option Addr} {osl:Array (Option Value)} {kV doc pm cdv ct:Value} {dv:List Value} {ocT:Value} {odT:Option Addr} {nT:Nat} {slT:Array (Option Value)} (l:K.lookup f=some ⟨oc,od,.func (W.fnOf x qual (ZAN st) (ZAJ st) (ZAC st) (.ref T) kV doc pm an cdv ct),osl⟩)
  (c:W.codeIn K cdv qual=true) (k:W.keepIn K (.ref f)=true) (t:K.lookup T=some ⟨ocT,odT,.seq dv.toArray nT,slT⟩):FunD K x qual st f (W.fnOf x qual (ZAN st) (ZAJ st) (ZAC st) (.ref T) kV doc pm an cdv ct) dv:=⟨⟨oc,od,T,kV,doc,pm,an,cdv,ct,osl,rfl,l,c,_,nT,t,rfl⟩,k⟩
end
structure KlD (P:Program) (w:World) (K:W.Frag) (mg:Str->Option Value) (base:Heap) (CX:CXT) (x:Str) (C:Addr) (k:Nat) (ps:List Str) (sp:Sp) (dvs:List V):Prop where
 mgC:mg x=some (.ref C)
 ex:∃ f fd ds,FnOk P w K mg base CX k f fd ps sp /\ Binds K fd ps ds /\ Vals dvs ds /\ Mk K C f
section
variable {X:Cx} {CX:CXT} {k:Nat} {ps:List Str} {sp:Sp} {dvs:List V} {E:XK} {x m:Str} {C:Addr} {p pos apos:Pos} {e o:Expr} {es:List Expr} {ta:TE} {t:TA}
theorem ZFW (F:KlD X.prog X.w X.K X.mg X.base CX x C k ps sp dvs) (hr:Room (k+1) X.A) (hg:Gl X x) (hx:ZBy CX X E) (ha:PA X (e::es) t) (hdb:(x == ("__debug__":Str))=false:=by decide) (he:starEach (e::es) X.env=(false,eval e X.env)::starEach es X.env:=by rfl) (hpl:(backTo pos (starEach es X.env)).any (·.1)=false:=by rfl) :
  PE X (.Call (.Name x p) (e::es) [] pos) (ZFJ C sp dvs E t):=by
 obtain ⟨f,fd,ds,h1,h2,hv,h3⟩:=F.ex
 exact pe_make h3 h1 hr hg F.mgC h2 hv hx ha hdb he hpl
end
section
variable {X:Cx}
theorem all_range {bs:List Bool}:(List.range bs.length).all (fun i=>bs.getD i true)=bs.all id:=by
 induction bs with
 | nil=>rfl
 | cons b r ih=>
  rw [yAG,List.range_succ_eq_map,List.all_cons,List.all_map,List.all_cons]
  show (b && (List.range r.length).all fun i=>r.getD i true)=_
  rw [ih]
  rfl
theorem ZEP (hc:X.calm=true):ZCM X (.builtin "all") (fun xs H Q=>∃ (p:Addr) (bs:List Bool),xs=[.ref p] /\ SqL X.K H p (bs.map V.bl) /\ Q (.bl (bs.all id)) H):=by
 intro pins s σ H xs us Q I r h
 obtain ⟨p,bs,rfl,hq,q⟩:=h
 obtain ⟨u,rfl,rx⟩:=ZDS r
 cases rx
 obtain ⟨its,r',pl,hz⟩:=I.list hq
 have hlen:=r'.length
 rw [yAB] at hlen
 have hh:X.A.handled=none:=I.ok.hd hc
 have hl:=pl.isList
 have hlt:p < s.heap.objs.size:=by obtain ⟨_,e,_⟩:=hl;exact Heap.lt_size e
 refine call_all_walk (wpAny_pyIter_list hl ⟨s.heap.objs.size,_,_,_,_,_,fun i=>bs.getD i true,rfl,Walks.list (A:=X.A.in1) hh s.heap.objs.size p (yAO hlt) its.toArray,⟨⟨_,Heap.get?_push_size _ rfl,rfl,rfl⟩,hl.push _⟩,?_,fun h' tk hk=>?_⟩)
 .intro i v s' Q' E' hP hQ
  have hP':its[i]?=some v:=by simpa using hP
  have hi:i < its.length:=(yAH.mp hP').1
  obtain ⟨b,hb⟩:∃ b,bs[i]?=some b:=⟨_,yAJ (by omega)⟩
  obtain ⟨u,hu,ru⟩:=r'.get (i:=i) (x:=.bl b) (by rw [yAW,hb];rfl)
  rw [hP'] at hu
  cases hu
  cases ru
  have hQ':Q' b s':=by
   have e:bs.getD i true=b:=by rw [List.getD_eq_getElem?_getD,hb];rfl
   rw [<- e];exact hQ
  exact wpAny_truthy_bool hQ'
 .refine ⟨.bl (bs.all id),H,I.kept (t':=tk) (fun b o e=>hk b o ?_ (Heap.get?_push_of_some _ e)),?_,q⟩
  .intro z
   have:b=s.heap.objs.size:=by simpa using z
   exact absurd (Heap.lt_size e) (by rw [this];exact yBU _)
  .have:its.toArray.size=bs.length:=by simp [hlen]
   rw [this,all_range]
   rfl
theorem rng_ok {P:Program} {w:World} {H:Hp} {h:Heap} {a:Addr} {lo hi:Int} {t u v:Tok} (e:h.get? a=some { cls:=.type "range",data:=.fields #[.int lo t,.int hi u,.int 1 v] }):ObjOk P w H h a (.rng lo hi):=⟨t,u,v,e⟩
theorem call_rng1:ZCM X (.type "range") (fun xs H Q=>∃ n:Int,xs=[.int n] /\ ∀ p,H p=none->Q (.ref p) (upd H p (.rng 0 n))):=by
 intro pins s σ H xs us Q I r h
 obtain ⟨n,rfl,q⟩:=h
 obtain ⟨u,rfl,rx⟩:=ZDS r
 obtain ⟨t,rfl⟩:=rx
 exact call_range_1 ⟨.ref s.heap.objs.size,_,I.laid (fun b o e=>Heap.get?_push_of_some _ e) (yAA _) (rng_ok (Heap.get?_push_size _ rfl)),rfl,q _ (I.hok.fresh (yAA _))⟩
theorem ZC1:ZCM X (.type "range") (fun xs H Q=>∃ m n:Int,xs=[.int m,.int n] /\ ∀ p,H p=none->Q (.ref p) (upd H p (.rng m n))):=by
 intro pins s σ H xs us Q I r h
 obtain ⟨m,n,rfl,q⟩:=h
 obtain ⟨u,w',rfl,rx,ry⟩:=ZFF r
 obtain ⟨t,rfl⟩:=rx
 obtain ⟨t',rfl⟩:=ry
 exact call_range_2 ⟨.ref s.heap.objs.size,_,I.laid (fun b o e=>Heap.get?_push_of_some _ e) (yAA _) (rng_ok (Heap.get?_push_size _ rfl)),rfl,q _ (I.hok.fresh (yAA _))⟩
def ZDI (lo hi:Int):List Int:=(List.range (hi-lo).toNat).map fun i:Nat=>lo+(i:Int)
theorem ZCQ (lo hi:Int):(ZDI lo hi).length=(hi-lo).toNat:=by unfold ZDI;rw [yAB,List.length_range]
theorem rints_get {lo hi:Int} {i:Nat} (h:i < (hi-lo).toNat):(ZDI lo hi)[i]?=some (lo+i):=by unfold ZDI;rw [yAW,List.getElem?_range h];rfl
theorem ZBN (hc:X.calm=true):ZCM X (.type "list") (fun xs H Q=>∃ (p:Addr) (lo hi:Int),xs=[.ref p] /\ H p=some (.rng lo hi) /\ (-1000 <= lo /\ lo <= 1000 /\ -1000 <= hi /\ hi <= 1000) /\ ∀ l,H l=none->Q (.ref l) (upd H l (.lst ((ZDI lo hi).map V.int)))):=by
 intro pins s σ H xs us Q I r h
 obtain ⟨p,lo,hi,rfl,hp,hb,q⟩:=h
 obtain ⟨u,rfl,rx⟩:=ZDS r
 cases rx
 obtain ⟨t,u,v,e⟩:=I.hok p _ hp
 have hh:X.A.handled=none:=I.ok.hd hc
 refine call_list_range (n:=(hi-lo).toNat) hh e (small_one (by omega) (by omega) (by omega) (by omega)) (by rw [rangeSize_one];split <;> omega) (by omega) fun h' tk acc' c' hk hS hacc=>?_
 have hz:(ZDI lo hi).length <= 1000 * 2:=by rw [ZCQ];omega
 refine ⟨.ref s.heap.objs.size,_,I.laid (t':=tk) hk (yAA _) (o:=.lst ((ZDI lo hi).map V.int)) ⟨?_,acc'.toList,c',?_,by simpa using hS⟩,rfl,q _ (I.hok.fresh (yAA _))⟩
 .rw [yAB]
  exact yAP hz (by decide)
 .have hsz:acc'.size=(hi-lo).toNat:=hacc.1
  have gen:∀ (vs:List Value) (k:Nat) (zs:List Int),vs.length=zs.length->(∀ (j:Nat) v z,vs[j]?=some v->zs[j]?=some z->∃ t,v=Value.int z t)->Vals (zs.map V.int) vs:=by
   intro vs
   induction vs with
   | nil=>intro k zs h1 _;cases zs with
    | nil=>exact .nil
    | cons _ _=>cases h1
   | cons v r ih=>intro k zs h1 h2;cases zs with
    | nil=>cases h1
    | cons z zr=>exact .cons (h2 0 v z rfl rfl) (ih 0 zr (by simpa using h1) fun j v' z' a b=>h2 (j+1) v' z' (by simpa using a) (by simpa using b))
  refine gen acc'.toList 0 (ZDI lo hi) (by rw [ZCQ,yAS,hsz]) fun j v z a b=>?_
  have a':acc'[j]?=some v:=by simpa using a
  obtain ⟨t,rfl⟩:=hacc.2 j v a'
  have hj:j < (hi-lo).toNat:=by have:=(yBX.mp a').1;omega
  rw [rints_get hj] at b
  cases b
  exact ⟨t,by rw [Int.mul_one]⟩
end
theorem Same.get {H H':Hp} {b:Addr} {o:HO} (s:Same H H') (h:H b=some o):H' b=some o:=s b o h
theorem newH {H:Hp} {p:Addr} (h:H p=none) (o:HO):∃ H',upd H p o=H' /\ Same H H' /\ H' p=some o:=⟨_,rfl,ZAQ h o,ZAF⟩
section
variable {K:W.Frag} {a:Addr} {xs:List V} {te:TE} {Q:VK} {σ0 rest:St} {H:Hp}
theorem compL_gen (h:SqL K H a xs) (hz:xs.length <= 1000) (e0:σ0=none::rest) (R:V->V->Hp->Prop) (mono:∀ x y H1 H2,Same H1 H2->R x y H1->R x y H2)
  (hs:∀ (i:Nat) x H',xs[i]?=some x->Same H H'->∀ Q':VK,(∀ y H4,Same H' H4->R x y H4->Q' y H4)->te (some x::rest) H' Q')
  (hd:∀ ys H' p,ys.length=xs.length->(∀ (j:Nat) x y,xs[j]?=some x->ys[j]?=some y->R x y H')->Same H H'->H' p=none->Q (.ref p) (upd H' p (.lst ys))):ZFq K (ZFe 0) tYes te σ0 Q (.ref a) H:=by
 subst e0
 refine ZEM h hz (fun i ys σ H'=>∃ v,σ=v::rest /\ Same H H' /\ ys.length=i /\ ∀ (j:Nat) x y,xs[j]?=some x->ys[j]?=some y->R x y H') ⟨_,rfl,.refl _,rfl,fun j x y _ q=>by cases q⟩ ?_ ?_ ?_
 .rintro i ys σ H' _ ⟨v,rfl,e,hl,_⟩
  exact ⟨e.seq h,Nat.le_of_eq hl⟩
 .rintro i ys x σ H' hi hx ⟨v,rfl,e,hl,hR⟩
  show te (some x::rest) H' _
  refine hs i x H' hx e _ fun y H4 q1 q2=>?_
  refine Nxt.of hi ⟨_,rfl,e.trans q1,by rw [yAD,hl];rfl,fun j x' y' hx' hy'=>?_⟩
  by_cases hj:j < ys.length
  .rw [yAZ hj] at hy'
   exact mono _ _ _ _ q1 (hR j x' y' hx' hy')
  .rw [yAY (by omega)] at hy'
   have:j-ys.length=0:=by
    rcases Nat.eq_zero_or_pos (j-ys.length) with z | z
    .exact z
    .rw [yBI (show [y].length <= j-ys.length from z)] at hy'
     cases hy'
   rw [this] at hy'
   cases hy'
   rw [show j=i by omega,hx] at hx'
   cases hx'
   exact q2
 .rintro ys σ H' ⟨v,rfl,e,hl,hR⟩ p hp
  exact hd ys H' p hl hR e hp
end
section
variable {X:Cx} {pins:List (Addr×Obj)} {σ:St} {H:Hp} {s:Shared}
theorem Inv.turn2 (I:Inv X pins σ H s) {ch:List Addr} {h':Heap} {p:Addr} {o:HO} {t':Nat} (hf:∀ b∈ch,FpOk X pins H b) (k:∀ b ob,b∉ch->s.heap.get? b=some ob->h'.get? b=some ob)
  (hp:s.heap.objs.size <= p) (new:ObjOk X.prog X.w (upd H p o) h' p o):Inv X pins σ (upd H p o) { s with heap:=h',toks:=t' }:=by
 have hn:H p=none:=I.hok.fresh hp
 have tr:∀ b u,H b=some u->b∉ch:=fun b u e z=>by rw [(hf b z).1] at e;cases e
 refine I.call (g':=s.gens) (t':=t') (d':=s.drawn) (ch:=ch) ⟨fun b ob e n _ hx=>k b ob hx e,fun b ob e n _ hx=>⟨ob.slots,k b ob hx e⟩,fun b ob e n _=>?_,fun b ob e hx=>⟨ob,k b ob hx e⟩,fun b xs e=>?_,fun b ob u e=>?_,fun b qs e=>⟨#[],?_⟩⟩ (fun b u e=>?_) I.bare fun b hb=>?_
 .rw [ZAI (yAO (yBA (Heap.lt_size e) hp))];exact n
 .rw [ZAI (ZAE e hn)];exact e
 .rw [ZAI (ZAE e hn)];exact e
 .rw [ZAI (ZAE e hn),e];simp
 .by_cases hb:b=p
  .subst hb;rw [ZAF] at e;cases e;exact new
  .rw [ZAI hb] at e
   refine (I.hok b u e).stay (fun c v hc q=>k c v ?_ q) (fun c q=>by rw [ZAI (ZAE q hn)];exact q) fun c xs q=>by rw [ZAI (ZAE q hn)];exact q
   rcases hc with z | z
   .rw [z];exact tr b u e
   .exact tr c _ z
 .obtain ⟨a1,a2,a3,a4,a5,a6⟩:=hf b hb
  exact ⟨a4,a2,a5,a6⟩
end
def Ite (K:W.Frag) (a:Addr):It :=
 ⟨fun i H=>∃ xs x,SqL K H a xs /\ xs[i]?=some x,fun i H v H'=>∃ p x,H p=none /\ (∀ xs,SqL K H a xs->xs[i]?=some x) /\ H'=upd H p (.tup [.int i,x]) /\ v=.ref p,fun i H=>∃ xs,SqL K H a xs /\ xs.length <= i⟩
theorem turn_enum {P:Program} {w:World} {K:W.Frag} {elts:List Expr} {x1} {tpos:Pos} (a e it:Addr) (hne:e≠it):Turn P w K (.Tuple elts x1 tpos) (Ite K a) [e,it] e (fun i h=>(∃ old,IsEnum h e it ((i:Nat):Int) old) /\ h.IsListIter it a i) where
 mem:=by simp
 obj:=fun i h st b hb=>by
  obtain ⟨⟨old,he⟩,o,e2,c,d⟩:=st
  have hb':b=e∨b=it:=by simpa using hb
  rcases hb' with rfl | rfl
  .exact ⟨_,he,fun v z=>by cases z⟩
  .exact ⟨o,e2,fun v z=>by rw [d] at z;cases z⟩
 keep:=fun i h h' st k=>⟨let ⟨old,he⟩:=st.1;⟨old,k e (by simp) _ he⟩,st.2.at fun o q=>k it (by simp) o q⟩
 item:=by
  intro X hP hw hK hc i pins s σ H E I hf st hg
  subst hP hw hK
  obtain ⟨xs,x,hq,hx⟩:=hg
  obtain ⟨its,rv,p,hz⟩:=I.list hq
  obtain ⟨u,hu,ru⟩:=rv.get hx
  obtain ⟨⟨old,he⟩,hit⟩:=st
  refine wpAny_pyNext_enum_item he hit p.isList (x:=u) (by simpa using hu) hne fun h1 heo hit1 ht1 hz1 hk1=>⟨_,rfl,?_⟩
  refine wpAny_letOwnedTupleGo_enum heo fun h2 he2 hs2=>?_
  replace hs2:Heap.SameBut e h1 h2:=hs2
  have hel:e < s.heap.objs.size:=Heap.lt_size he
  have ht2:h2.get? s.heap.objs.size=some { cls:=.type "tuple",data:=.seq #[.int i s.toks,u] }:=(hs2.2 _ (Nat.ne_of_gt hel)).trans ht1
  have hnew:H s.heap.objs.size=none:=I.hok.fresh (yAA _)
  refine ⟨.ref s.heap.objs.size,upd H s.heap.objs.size (.tup [.int i,x]),I.turn2 (ch:=[e,it]) (t':=s.toks+1) hf (fun b ob hb q=>?_) (yAA _) ?_,rfl,⟨_,x,hnew,fun ys hy=>by rw [I.list_inj hy hq];exact hx,rfl,rfl⟩,⟨⟨u,?_⟩,?_⟩,fun b hb=>?_⟩
  .have hbe:b≠e:=fun z=>hb (by simp [z])
   have hbi:b≠it:=fun z=>hb (by simp [z])
   exact (hs2.2 b hbe).trans (hk1 b ob hbe hbi q)
  .exact ⟨ZAX (show 2 <= 1000 by decide),[.int i s.toks,u],.cons ⟨_,rfl⟩ (.cons ru .nil),_,ht2,rfl,0,rfl⟩
  .have:((i+1:Nat):Int)=(i:Int)+1:=by push_cast;rfl
   rw [this];exact he2
  .exact hit1.at fun o q=>(hs2.2 it (Ne.symm hne)).trans q
  .have hn:=(hf b hb).1
   have hb':b=e∨b=it:=by simpa using hb
   obtain ⟨oi,hoi,_⟩:=hit
   have hlt:b < s.heap.objs.size:=by
    rcases hb' with rfl | rfl
    .exact hel
    .exact Heap.lt_size hoi
   rw [ZAI (yAO hlt)];exact hn
 done:=by
  intro X hP hw hK hc i pins s σ H E I hf st hg
  subst hP hw hK
  obtain ⟨xs,hq,hx⟩:=hg
  obtain ⟨its,rv,p,hz⟩:=I.list hq
  obtain ⟨⟨old,he⟩,hit⟩:=st
  obtain ⟨f0,f1,f2,f3,f4,f5⟩:=hf it (by simp)
  have hl:=rv.length
  exact wpAny_pyNext_enum_end (I.ok.hd hc) he hit p.isList (by rw [List.getElem?_toArray];exact yBI (by omega)) fun h' eb=>⟨rfl,I.turned (t':=s.toks) (fun b o hb e=>eb b o hb e) f0 f1 f3 f4 f5⟩
 self:=fun _ _ _ _ _ st h=>let ⟨_,he⟩:=st.1;wpAny_pyIter_enum he h
section
variable {X:Cx}
def ZF8 (K:W.Frag) (ta:TA):TI:=fun σ H R=>ta σ H fun vs H1=>∃ a,vs=[.ref a] /\ (∃ xs,SqL K H1 a xs) /\ R (Ite K a) H1
theorem pi_enum {elts:List Expr} {x1} {tpos:Pos} {l:Expr} {ta:TA} {p pos:Pos} (hg:Gl X "enumerate") (hm:X.mg "enumerate"=none) (ha:PA X [l] ta) (hs:starEach [l] X.env=[(false,eval l X.env)]:=by rfl) :
  PI X (.Tuple elts x1 tpos) (.Call (.Name "enumerate" p) [l] [] pos) (ZF8 X.K ta):=by
 intro pins s σ H R I h
 refine Call_ (ZDd I hg hm boot_enumerate (PyProof.Rows.callWith_type1 (thn (ha pos pins s σ H _ I h) fun us s1 ⟨vs,H1,I1,r1,q1⟩=>?_) hs rfl))
 obtain ⟨a,e,⟨xs,hq⟩,q⟩:=q1
 subst e
 obtain ⟨u,rfl,ru⟩:=ZDS r1
 cases ru
 obtain ⟨its,rv,pl,hz⟩:=I1.list hq
 refine call_enumerate_list pl.isList fun h' he hit hsz hk=>wpAny_pyIter_enum he ?_
 have I2:Inv X pins σ H1 { s1 with heap:=h' }:=I1.kept (t':=s1.toks) hk
 refine ⟨s1.heap.objs.size+1,[s1.heap.objs.size+1,s1.heap.objs.size],_,Ite X.K a,H1,rfl,I2,turn_enum a _ _ (Nat.succ_ne_self _),⟨⟨_,he⟩,hit⟩,fun b hb=>?_,q⟩
 have hb':b=s1.heap.objs.size+1∨b=s1.heap.objs.size:=by simpa using hb
 have hle:s1.heap.objs.size <= b:=by
  rcases hb' with rfl | rfl
  .exact yBG _
  .exact yAA _
 exact I1.fpOk hle (I1.hok.fresh hle)
end
section
variable {K:W.Frag} {a:Addr} {xs:List V} {g:TG} {tb:TS} {D:Ends} {σ:St} {H:Hp}
def forE (K:W.Frag) (g:TG) (tb:TS) (D:Ends) (σ:St) (x:V) (H1:Hp):Prop:=∃ a,[x]=[.ref a] /\ (∃ xs,SqL K H1 a xs) /\ ∃ W:Nat->Nat->St->Hp->Prop,(∃ m,W 0 m σ H1) /\ ∀ i m σ H,W i m σ H ->
 ((Ite K a).stop i H /\ D.nx σ H)∨((Ite K a).go i H /\ ∃ N:St->Hp->Prop,(∀ σ' H',N σ' H'->∃ m',m' < m /\ W (i+1) m' σ' H') /\ ∀ x H',(Ite K a).yld i H x H'->g x σ H' fun σ2 H2=>tb { D with nx:=N,ct:=N,bk:=D.nx } σ2 H2)
theorem tForE_eq {t:TE}:tFor (ZF8 K (ZB9 t tNil)) g tb D σ H=t σ H (fun x H1=>forE K g tb D σ x H1):=rfl
theorem forE_of (h:SqL K H a xs) (Pv:Nat->St->Hp->Prop) (h0:Pv 0 σ H) (hl:∀ i σ H,i <= xs.length->Pv i σ H->SqL K H a xs)
  (hs:∀ (i:Nat) x σ H p,xs[i]?=some x->Pv i σ H->H p=none->g (.ref p) σ (upd H p (.tup [.int i,x])) fun σ2 H2=>tb { D with nx:=Pv (i+1),ct:=Pv (i+1),bk:=D.nx } σ2 H2) (hd:∀ σ H,Pv xs.length σ H->D.nx σ H):forE K g tb D σ (.ref a) H:=by
 refine ⟨a,rfl,⟨xs,h⟩,fun i m σ H=>m=xs.length-i /\ i <= xs.length /\ Pv i σ H,⟨xs.length,by simp,yAI _,h0⟩,?_⟩
 rintro i m σ H ⟨rfl,hi,p⟩
 have q:=hl i σ H hi p
 by_cases hlt:i < xs.length
 .refine .inr ⟨⟨xs,xs[i],q,by simp [hlt]⟩,Pv (i+1),fun σ' H' p'=>⟨xs.length-(i+1),by omega,rfl,hlt,p'⟩,fun x H' y=>?_⟩
  obtain ⟨pp,x',hn,y,rfl,rfl⟩:=y
  exact hs i x' σ _ pp (y xs q) p hn
 .have e:i=xs.length:=by omega
  subst e
  exact .inl ⟨⟨xs,q,yAA _⟩,hd σ H p⟩
variable {tt:TT} {te:TE} {Q:VK} {σ0:St}
def compE (K:W.Frag) (g:TG) (tt:TT) (te:TE) (σ0:St) (Q:VK) (x:V) (H1:Hp):Prop:=∃ a,[x]=[.ref a] /\ (∃ xs,SqL K H1 a xs) /\ ∃ W:Nat->Nat->List V->St->Hp->Prop,(∃ m,W 0 m [] σ0 H1) /\ ∀ i m ys σ H,W i m ys σ H ->
 ((Ite K a).stop i H /\ ys.length <= sizeLine /\ ∀ p,H p=none->Q (.ref p) (upd H p (.lst ys))) ∨
 ((Ite K a).go i H /\ ys.length < sizeLine /\ ∀ x H',(Ite K a).yld i H x H'->g x σ H' fun σ2 H2=>tt σ2 H2 fun b H3=>if b=true then te σ2 H3 fun y H4=>∃ m',m' < m /\ W (i+1) m' (ys++[y]) σ2 H4 else ∃ m',m' < m /\ W (i+1) m' ys σ2 H3)
theorem tCompE_eq {k:Nat} {js:List Nat} {t:TE}:ZES k js (ZF8 K (ZB9 t tNil)) g tt te σ H Q=t σ H (fun x H1=>compE K g tt te (up k js σ) Q x H1):=rfl
theorem compE_of (h:SqL K H a xs) (hz:xs.length <= 1000) (P:Nat->List V->St->Hp->Prop) (h0:P 0 [] σ0 H) (hl:∀ i ys σ H,i <= xs.length->P i ys σ H->SqL K H a xs /\ ys.length <= i)
  (hs:∀ (i:Nat) ys x σ H p,i < xs.length->xs[i]?=some x->P i ys σ H->H p=none->g (.ref p) σ (upd H p (.tup [.int i,x])) fun σ2 H2=>tt σ2 H2 fun b H3=>if b=true then te σ2 H3 fun y H4=>Nxt P xs.length i (ys++[y]) σ2 H4 else Nxt P xs.length i ys σ2 H3)
  (hd:∀ ys σ H,P xs.length ys σ H->∀ p,H p=none->Q (.ref p) (upd H p (.lst ys))):compE K g tt te σ0 Q (.ref a) H:=by
 have hz':=ZAX hz
 refine ⟨a,rfl,⟨xs,h⟩,fun i m ys σ H=>m=xs.length-i /\ i <= xs.length /\ P i ys σ H,⟨xs.length,by simp,yAI _,h0⟩,?_⟩
 rintro i m ys σ H ⟨rfl,hi,p⟩
 obtain ⟨q,ly⟩:=hl i ys σ H hi p
 by_cases hlt:i < xs.length
 .refine .inr ⟨⟨xs,xs[i],q,by simp [hlt]⟩,by omega,fun x H' y=>?_⟩
  obtain ⟨pp,x',hn,y,rfl,rfl⟩:=y
  exact hs i ys x' σ _ pp hlt (y xs q) p hn
 .have e:i=xs.length:=by omega
  subst e
  exact .inl ⟨⟨xs,q,yAA _⟩,by omega,hd ys σ H p⟩
end
abbrev FZ (o:Obj):HO:=.frz o (.ext fun _=>True)
theorem ZFf {P:Program} {w:World} {H:Hp} {h:Heap} {a:Addr} {o:Obj} (e:h.get? a=some o):ObjOk P w H h a (FZ o):=⟨e,trivial,⟨o,e⟩,fun _ _ _ _=>trivial⟩
theorem ZDs {P:Program} {w:World} {H:Hp} {h:Heap} {a:Addr} {o:Obj} (x:HOk P w H h) (e:H a=some (FZ o)):h.get? a=some o:=(x a _ e).1
def CodeAt (H:Hp) (c:Addr) (qual:Str):Prop:=∃ oc vs t,H c=some (FZ oc) /\ oc.data=.fields vs /\ vs[1]?=some (.str qual t)
theorem CodeAt.rec {P:Program} {w:World} {H:Hp} {h:Heap} {c:Addr} {qual:Str} (x:HOk P w H h) (k:CodeAt H c qual):h.CodeRec (.ref c) qual :=
 let ⟨oc,vs,t,e,d,v⟩:=k;⟨c,oc,vs,t,rfl,ZDs x e,d,v⟩
structure CloL (H:Hp) (g:Addr) (iname iq:Str) (ip:Arguments) (ib:List Stmt) (isc:Scope) (fr:List Str) (cs:List V) (cl:List (Str×Addr)):Prop where
 obj:∃ (doc pm ctv:Value) (c':Addr),H g=some (FZ (PySem.W.fnMade iname iq ip ib isc cl doc pm c' ctv)) /\ CodeAt H c' iq
 keys:∀ x c,cl.lookup x=some c->x∈fr
 inj:∀ x y c,cl.lookup x=some c->cl.lookup y=some c->x=y
 cell:∀ (i:Nat) (x:Str),fr[i]?=some x->∃ v c u o,cs[i]?=some v /\ cl.lookup x=some c /\ RelV v u /\ H c=some (FZ o) /\ o.data=.cell (some u)
 len:cs.length=fr.length
def Clo (H:Hp) (g:Addr) (iname iq:Str) (ip:Arguments) (ib:List Stmt) (isc:Scope) (fr:List Str) (cs:List V):Prop:=∃ cl,CloL H g iname iq ip ib isc fr cs cl
def ZE8 (H H':Hp):Prop:=∀ b o,H b=some (FZ o)->H' b=some (FZ o)
theorem CodeAt.mono {H H':Hp} {c:Addr} {q:Str} (e:ZE8 H H') (k:CodeAt H c q):CodeAt H' c q:=let ⟨oc,vs,t,a,d,v⟩:=k;⟨oc,vs,t,e _ _ a,d,v⟩
theorem CloL.mono {H H':Hp} {g:Addr} {iname iq:Str} {ip:Arguments} {ib:List Stmt} {isc:Scope} {fr:List Str} {cs:List V} {cl:List (Str×Addr)} (e:ZE8 H H') (k:CloL H g iname iq ip ib isc fr cs cl):CloL H' g iname iq ip ib isc fr cs cl where
 obj:=let ⟨doc,pm,ctv,c',a,b⟩:=k.obj;⟨doc,pm,ctv,c',e _ _ a,b.mono e⟩
 keys:=k.keys
 inj:=k.inj
 cell:=fun i x h=>let ⟨v,c,u,o,a1,a2,a3,a4,a5⟩:=k.cell i x h;⟨v,c,u,o,a1,a2,a3,e _ _ a4,a5⟩
 len:=k.len
theorem Clo.mono {H H':Hp} {g:Addr} {iname iq:Str} {ip:Arguments} {ib:List Stmt} {isc:Scope} {fr:List Str} {cs:List V} (e:ZE8 H H') (k:Clo H g iname iq ip ib isc fr cs):Clo H' g iname iq ip ib isc fr cs:=let ⟨cl,x⟩:=k;⟨cl,x.mono e⟩
theorem CloL.inj' {H:Hp} {g:Addr} {iname iq:Str} {ip:Arguments} {ib:List Stmt} {isc:Scope} {fr:List Str} {cs cs':List V} {cl cl':List (Str×Addr)} (k:CloL H g iname iq ip ib isc fr cs cl) (k':CloL H g iname iq ip ib isc fr cs' cl'):cs=cs':=by
 obtain ⟨d1,p1,t1,c1,e1,_⟩:=k.obj
 obtain ⟨d2,p2,t2,c2,e2,_⟩:=k'.obj
 rw [e1] at e2
 have ecl:cl=cl':=by
  have:=Option.some.inj e2
  injection this with h1 h2
  injection h1 with h3 h4 h5
  injection h5 with h6
  injection h6
 subst ecl
 refine yCO fun i=>?_
 by_cases hi:i < fr.length
 .obtain ⟨v,c,u,o,a1,a2,a3,a4,a5⟩:=k.cell i _ (yAJ hi)
  obtain ⟨v',c',u',o',b1,b2,b3,b4,b5⟩:=k'.cell i _ (yAJ hi)
  rw [a2] at b2
  cases b2
  rw [a4] at b4
  have eo:o=o':=by
   have:=Option.some.inj b4
   injection this
  subst eo
  rw [a5] at b5
  have eu:u=u':=by injection b5 with h;injection h
  subst eu
  rw [a1,b1,a3.inj b3]
 .rw [yBI (by rw [k.len];omega),yBI (by rw [k'.len];omega)]
open Classical in
noncomputable def hid (cl:List (Str×Addr)) (H:Hp):Hp:=fun b=>if ∃ x,cl.lookup x=some b then none else H b
open Classical in
noncomputable def back (cl:List (Str×Addr)) (H H1:Hp):Hp:=fun b=>if ∃ x,cl.lookup x=some b then H b else H1 b
theorem ZEq {cl:List (Str×Addr)} {H:Hp} {x:Str} {b:Addr} (h:cl.lookup x=some b):hid cl H b=none:=by unfold hid;rw [if_pos ⟨x,h⟩]
theorem ZDh {cl:List (Str×Addr)} {H:Hp} {b:Addr} (h:¬ ∃ x,cl.lookup x=some b):hid cl H b=H b:=by unfold hid;rw [if_neg h]
theorem ZDt {cl:List (Str×Addr)} {H H1:Hp} {x:Str} {b:Addr} (h:cl.lookup x=some b):back cl H H1 b=H b:=by unfold back;rw [if_pos ⟨x,h⟩]
theorem ZCh {cl:List (Str×Addr)} {H H1:Hp} {b:Addr} (h:¬ ∃ x,cl.lookup x=some b):back cl H H1 b=H1 b:=by unfold back;rw [if_neg h]
theorem hid_le {cl:List (Str×Addr)} {H:Hp} {b:Addr} {o:HO} (h:hid cl H b=some o):H b=some o:=by
 by_cases q:∃ x,cl.lookup x=some b
 .obtain ⟨x,q⟩:=q;rw [ZEq q] at h;cases h
 .rw [ZDh q] at h;exact h
def ZGF (cl:List (Str×Addr)) (H:Hp):Prop:=∀ x c,cl.lookup x=some c->∃ u o,H c=some (FZ o) /\ o.data=.cell u
theorem CloL.cells {H:Hp} {g:Addr} {iname iq:Str} {ip:Arguments} {ib:List Stmt} {isc:Scope} {fr:List Str} {cs:List V} {cl:List (Str×Addr)} (k:CloL H g iname iq ip ib isc fr cs cl):ZGF cl H:=fun x c h=>by
 obtain ⟨i,hi⟩:=yBK (k.keys x c h)
 obtain ⟨v,c2,u,o,_,h2,_,h4,h5⟩:=k.cell i x hi
 rw [h] at h2
 cases h2
 exact ⟨_,o,h4,h5⟩
theorem ZCE {cl:List (Str×Addr)} {H:Hp} {b:Addr} {o:HO} (C:ZGF cl H) (h:H b=some o) (n:∀ ob,o≠FZ ob):hid cl H b=some o:=by
 rw [ZDh,h]
 rintro ⟨x,q⟩
 obtain ⟨u,ob,e,_⟩:=C x b q
 rw [h] at e
 exact n ob (Option.some.inj e)
theorem hid_none {cl:List (Str×Addr)} {H:Hp} {b:Addr} (C:ZGF cl H) (h:hid cl H b=none) (n:¬ ∃ x,cl.lookup x=some b):H b=none:=by rw [ZDh n] at h;exact h
theorem back_upd {cl:List (Str×Addr)} {H H1:Hp} {l:Addr} {o:HO} (n:¬ ∃ x,cl.lookup x=some l):back cl H (upd H1 l o)=upd (back cl H H1) l o:=by
 funext b
 by_cases q:∃ x,cl.lookup x=some b
 .have:b≠l:=fun e=>n (e ▸ q)
  obtain ⟨x,q⟩:=q
  rw [ZDt q,ZAI this,ZDt q]
 .rw [ZCh q]
  by_cases e:b=l
  .subst e;rw [ZAF,ZAF]
  .rw [ZAI e,ZAI e,ZCh q]
theorem back_hid {cl:List (Str×Addr)} {H:Hp}:back cl H (hid cl H)=H:=by
 funext b
 by_cases q:∃ x,cl.lookup x=some b
 .obtain ⟨x,q⟩:=q;rw [ZDt q]
 .rw [ZCh q,ZDh q]
def NoC (cl:List (Str×Addr)) (H:Hp):Prop:=∀ x c,cl.lookup x=some c->H c=none
structure CloScope (N ps fr:List Str) (sc:Scope):Prop where
 kind:sc.kind=.function
 co:sc.isCoroutine=false
 gen:sc.isGenerator=false
 nd:N.Nodup
 pre:N.take ps.length=ps
 suf:N.drop (N.length-fr.length)=fr
 two:ps.length+fr.length <= N.length
 par:∀ x∈ps,sc.names.lookup x=some .local
 nocell:∀ y∈sc.names,y.2≠.cell
 free:∀ x∈fr,sc.names.lookup x=some .free
 only:∀ x,sc.names.lookup x=some .free->x∈fr
def ZCr (N:List Str) (vs cs:List V):St:=vs.map some++(List.replicate (N.length-vs.length-cs.length) none++cs.map some)
def ZFE (P:Program) (w:World) (K:W.Frag) (mg:Str->Option Value) (base:Heap) (N:List Str) (qual:Str) (scope:Scope) (f:Addr) (cd:Value) (cl:List (Str×Addr)) (A:Around) (outer:List Env) (s:Shared) (H:Hp):Cx where
 prog:=P
 w:=w
 K:=K
 mg:=mg
 base:=base
 A:=A.deeper (PySem.W.envX qual scope s.heap.objs.size f cd cl)
 N:=N
 s₀:=s
 H₀:=H
 env:=PySem.W.envX qual scope s.heap.objs.size f cd cl
 outer:=outer
 stack:=PySem.W.envX qual scope s.heap.objs.size f cd cl::outer
 ex:=[]
 calm:=true
 fn:=fun _=>false
 pn:=[]
 xe:=fun _ _=>False
theorem startC_get {N:List Str} {vs cs:List V} {i:Nat} {v:V} (hl:vs.length+cs.length <= N.length) (h:(ZCr N vs cs)[i]?=some (some v)) :
  vs[i]?=some v∨(N.length-cs.length <= i /\ cs[i-(N.length-cs.length)]?=some v):=by
 unfold ZCr at h
 by_cases h1:i < vs.length
 .rw [yAZ (by simpa using h1),yAW] at h
  cases e:vs[i]? with
  | none=>rw [e] at h;cases h
  | some a=>rw [e] at h;cases h;exact .inl rfl
 .rw [yAY (by simpa using Nat.le_of_not_lt h1),yAB] at h
  by_cases h2:i-vs.length < N.length-vs.length-cs.length
  .rw [yAZ (by simpa using h2),List.getElem?_replicate,if_pos h2] at h
   cases h
  .rw [yAY (by simpa using Nat.le_of_not_lt h2),yCF,yAW] at h
   right
   refine ⟨by omega,?_⟩
   rw [show i-(N.length-cs.length)=i-vs.length-(N.length-vs.length-cs.length) by omega]
   cases e:cs[i-vs.length-(N.length-vs.length-cs.length)]? with
   | none=>rw [e] at h;cases h
   | some a=>rw [e] at h;cases h;rfl
theorem zip_fst_sub:∀ (ps:List Str) (us:List Value),((ps.zip us).map (·.1)).Sublist ps
 | [],_=>by simp
 | p::ps,[]=>by simp
 | p::ps,u::us=>by rw [List.zip_cons_cons,yAX];exact (zip_fst_sub ps us).cons₂ p
theorem lookup_nodup {α:Type}:∀ {cs:List (Str×α)} {n:Str} {c:α},(cs.map (·.1)).Nodup->(n,c)∈cs->cs.lookup n=some c
 | (m,d)::r,n,c,hn,h=>by
  rw [yAX] at hn
  have hn':=List.nodup_cons.mp hn
  rw [yCB]
  rcases yAE.mp h with e | h
  .cases e;simp
  .have:n≠m:=fun z=>hn'.1 (z ▸ List.mem_map_of_mem (f:=(·.1)) h)
   have:(n == m)=false:=by simpa using this
   rw [this]
   exact lookup_nodup hn'.2 h
theorem zip_lookup {ps:List Str} {us:List Value} (nd:ps.Nodup) {i:Nat} {x:Str} {u:Value} (h1:ps[i]?=some x) (h2:us[i]?=some u):((ps.zip us).reverse).lookup x=some u:=by
 have hm:(x,u)∈(ps.zip us).reverse:=by
  rw [List.mem_reverse]
  refine yAK (i:=i) ?_
  rw [List.getElem?_zip_eq_some]
  exact ⟨h1,h2⟩
 have hnd:((ps.zip us).reverse.map (·.1)).Nodup:=by
  rw [List.map_reverse]
  exact List.pairwise_reverse.mpr (List.Pairwise.imp (fun h=>Ne.symm h) (nd.sublist (zip_fst_sub ps us)))
 exact lookup_nodup hnd hm
section
variable {P:Program} {w:World} {K:W.Frag} {mg:Str->Option Value} {base:Heap} {A:Around} {outer:List Env} {s:Shared} {H:Hp} {g:Addr} {iname iq:Str} {ip:Arguments} {ib:List Stmt} {isc:Scope} {N ps fr:List Str} {cs vs:List V} {us:List Value} {cl:List (Str×Addr)} {k:Nat}
theorem clo_call {Q:VK} (C:CloL H g iname iq ip ib isc fr cs cl) (S:CloScope N ps fr isc) (hr:Room (k+1) A) (e0:Env0 P w K mg base A outer s H) (hl:vs.length=ps.length) (r:Vals vs us)
  (hbind:∀ (doc pm ctv:Value) (c':Addr),bindArgs (PySem.W.fnX iname iq ip ib isc cl .none .none doc pm none (.ref c') ctv) ⟨us,[]⟩=pure (ps.zip us))
  (hbody:∀ (cd:Value) (A':Around),Room k A'->∃ t,PSs (ZFE P w K mg base N iq isc g cd cl A outer s (hid cl H)) ib t /\ t { nx:=fun _ H'=>NoC cl H'->Q .non (back cl H H'),rt:=fun v H'=>NoC cl H'->Q v (back cl H H') } (ZCr N vs cs) (hid cl H)) :
  codeAny (model P w) A (.call (.ref g) ⟨us,[]⟩) (fun r s'=>match r with | .ok (.ret u)=>CE outer P w H s Q u s' | _=>False) s:=by
 obtain ⟨doc,pm,ctv,c',hg,hc⟩:=C.obj
 have hget:=ZDs e0.hok hg
 have lim:s.heap.NoLimit:=e0.mod.nolimit.keeps fun b o e=>(e0.bs b o e).1
 have hnd:ps.Nodup:=by rw [<- S.pre];exact S.nd.sublist (List.take_sublist _ _)
 refine codeAny_call_def (o:=PySem.W.fnMade iname iq ip ib isc cl doc pm c' ctv) (fd:=PySem.W.fnX iname iq ip ib isc cl .none .none doc pm none (.ref c') ctv) (body:=ib) (binds:=ps.zip us) hr.depth hget rfl lim (hc.rec e0.hok) rfl (.of_eq (hbind doc pm ctv c')) S.nocell (fun y hy=>S.par _ (List.of_mem_zip hy).1) (fun h₁ hns hk₁=>?_) S.co S.gen S.kind
 obtain ⟨t,ht,hq⟩:=hbody (.ref c') _ (hr.deeper (PySem.W.envX iq isc s.heap.objs.size g (.ref c') cl))
 have cellAt:∀ x c,cl.lookup x=some c->∃ o u,H c=some (FZ o) /\ s.heap.get? c=some o /\ o.data=.cell u:=fun x c h=>by
  obtain ⟨u,o,e,d⟩:=C.cells x c h
  exact ⟨o,u,e,ZDs e0.hok e,d⟩
 have cfs:∀ x c,cl.lookup x=some c->c∉frs outer:=fun x c h hb=>by
  obtain ⟨o,u,e,_⟩:=cellAt x c h
  rw [e0.frf c hb] at e;cases e
 have hpl:ps.length <= N.length:=by have:=S.two;omega
 have I:Inv (ZFE P w K mg base N iq isc g (.ref c') cl A outer s (hid cl H)) [] (ZCr N vs cs) (hid cl H) { s with heap:=h₁,toks:=s.toks+(ps.zip us).length }:=by
  refine ⟨⟨e0.mod,S.kind,rfl,rfl,yAA _,C.inj,fun x hx=>?_,fun y c h=>absurd h (by simp [ZFE]),fun _=>hr.hd,Around.frames_deeper e0.frames,.inr ⟨rfl,rfl⟩,fun b z=>absurd (show b∈([]:List Addr) from z) (by simp),fun b o e=>?_,e0.bsz,fun b _ _ z=>absurd (show b∈([]:List Addr) from z) (by simp),fun b z=>absurd (show b∈([]:List Addr) from z) (by simp),e0.funs,fun b hb=>?_⟩,
   rfl,e0.bare,Un.kept hk₁,⟨_,hns,fun i x v h1 h2 h3=>?_⟩,fun x c h=>?_,?_,fun x c h=>ZEq h,fun p hp=>absurd (show p∈([]:List (Addr×Obj)) from hp) (by simp),?_,?_⟩
  .have hx:isc.names.lookup x=some .cell∨isc.names.lookup x=some .free:=hx
   rcases hx with hx | hx
   .exact absurd rfl (S.nocell _ (PySem.mem_of_lookup hx))
   .obtain ⟨i,hi⟩:=yBK (S.only x hx)
    obtain ⟨v,c,u,o,_,h2,_⟩:=C.cell i x hi
    exact ⟨c,h2⟩
  .refine ⟨(e0.bs b o e).1,?_⟩
   show hid cl H b=none
   by_cases q:∃ x,cl.lookup x=some b
   .obtain ⟨x,q⟩:=q;exact ZEq q
   .rw [ZDh q];exact (e0.bs b o e).2
  .show hid cl H b=none
   rw [ZDh]
   .exact e0.frf b hb
   .rintro ⟨x,q⟩;exact cfs x b q hb
  .have h1:N[i]?=some x:=h1
   have hcl:=C.len
   rcases startC_get (by rw [hl,hcl];exact S.two) h2 with h4 | ⟨h4,h5⟩
   .obtain ⟨u,hu,rv⟩:=r.get h4
    have hi:i < vs.length:=(yAH.mp h4).1
    have hp:ps[i]?=some x:=by rw [<- S.pre,yBS (by omega)];exact h1
    exact ⟨u,rv,.inl ⟨S.par x (yAK hp),zip_lookup hnd hp hu⟩⟩
   .have hf:fr[i-(N.length-cs.length)]?=some x:=by
     rw [<- S.suf,yBJ,<- hcl,show N.length-cs.length+(i-(N.length-cs.length))=i by omega]
     exact h1
    obtain ⟨v',c,u,o,a1,a2,a3,a4,a5⟩:=C.cell _ x hf
    rw [h5] at a1
    cases a1
    refine ⟨u,a3,.inr ⟨.inr (S.free x (yAK hf)),c,a2,o,hk₁ _ _ (ZDs e0.hok a4),a5⟩⟩
  .obtain ⟨o,u,e,e2,d⟩:=cellAt x c h
   exact ⟨u,o,hk₁ _ _ e2,d⟩
  .show hid cl H s.heap.objs.size=none
   have hn:=e0.hok.fresh (yAA _)
   rw [ZDh]
   .exact hn
   .rintro ⟨x,q⟩
    obtain ⟨o,u,e,_⟩:=cellAt x _ q
    rw [hn] at e;cases e
  .intro b o e
   have e':=hid_le e
   refine (e0.hok b o e').stay (fun c v _ q=>hk₁ c v q) (fun c q=>?_) fun c xs q=>?_
   .exact ZCE C.cells q (fun ob z=>by cases z)
   .exact ZCE C.cells q (fun ob z=>by cases z)
  .unfold ZCr
   show _=N.length
   have:=S.two
   have:=C.len
   simp only [yAD,yAB,yCF]
   omega
 refine wpAny_mono (ht [] _ (ZCr N vs cs) (hid cl H) _ I hq) (fun fl s' hs=>?_) fun e s' hs=>False.elim hs
 have fin:∀ {σ':St} {H':Hp} {v:V} {u:Value},Inv (ZFE P w K mg base N iq isc g (.ref c') cl A outer s (hid cl H)) [] σ' H' s'->RelV v u->(NoC cl H'->Q v (back cl H H'))->CE outer P w H s Q u s' :=
  fun {σ' H' v u} J rv q=>by
   have un:Un (frs outer) [] (hid cl H) H' s.heap s'.heap:=J.base
   have nex:∀ b:Addr,b∉([]:List Addr):=fun b=>by simp
   have keepC:∀ x c o,cl.lookup x=some c->s.heap.get? c=some o->s'.heap.get? c=some o:=fun x c o h e=>un.keep c o e (ZEq h) (cfs x c h) (nex c)
   have freeC:∀ x c,cl.lookup x=some c->H' c=none:=fun x c h=>by
    obtain ⟨o,u,e,e2,d⟩:=cellAt x c h
    exact un.free c o e2 (ZEq h) (nex c)
   refine ⟨v,back cl H H',J.os,J.bare,⟨fun b o e n hb hx=>?_,fun b o e n hb hx=>?_,fun b o e n hx=>?_,un.there,fun b xs e=>?_,fun b o u' e=>?_,fun b ps' e=>?_⟩,fun b o e=>?_,rv,q freeC⟩
   .refine un.keep b o e ?_ hb hx
    by_cases q:∃ x,cl.lookup x=some b
    .obtain ⟨x,q⟩:=q;exact ZEq q
    .rw [ZDh q];exact n
   .refine un.slot b o e ?_ hb hx
    by_cases q:∃ x,cl.lookup x=some b
    .obtain ⟨x,q⟩:=q;exact ZEq q
    .rw [ZDh q];exact n
   .have nc:¬ ∃ x,cl.lookup x=some b:=by
     rintro ⟨x,q⟩
     obtain ⟨o,u,e,_⟩:=cellAt x b q
     rw [n] at e;cases e
    rw [ZCh nc]
    exact un.free b o e (by rw [ZDh nc];exact n) hx
   .have e2:=un.tups b xs (ZCE C.cells e (fun ob z=>by cases z))
    rw [ZCh]
    .exact e2
    .rintro ⟨x,q⟩;rw [freeC x b q] at e2;cases e2
   .by_cases q:∃ x,cl.lookup x=some b
    .obtain ⟨x,q⟩:=q;rw [ZDt q];exact e
    .rw [ZCh q];exact un.frzs b o u' (by rw [ZDh q];exact e)
   .obtain ⟨more,e2⟩:=un.tbls b ps' (ZCE C.cells e (fun ob z=>by cases z))
    refine ⟨more,?_⟩
    rw [ZCh]
    .exact e2
    .rintro ⟨x,q⟩;rw [freeC x b q] at e2;cases e2
   .have up:∀ c oc,H' c=some oc->back cl H H' c=some oc:=fun c oc q=>by
     rw [ZCh]
     .exact q
     .rintro ⟨x,z⟩;rw [freeC x c z] at q;cases q
    by_cases q:∃ x,cl.lookup x=some b
    .obtain ⟨x,q⟩:=q
     rw [ZDt q] at e
     obtain ⟨o2,u2,e2,e3,d⟩:=cellAt x b q
     rw [e] at e2
     cases e2
     exact ZFf (keepC x b _ q e3)
    .rw [ZCh q] at e
     exact (J.hok b o e).stay (fun c v _ q=>q) (fun c q=>up c _ q) fun c xs q=>up c _ q
 cases fl with
 | ret u=>
  obtain ⟨v,σ',H',J,rv,q⟩:=hs
  exact fin J rv q
 | next=>
  obtain ⟨σ',H',J,q⟩:=hs
  exact fin (v:=V.non) (u:=Value.none) J rfl q
 | brk=>
  obtain ⟨_,_,_,q⟩:=hs
  exact False.elim q
 | cont=>
  obtain ⟨_,_,_,q⟩:=hs
  exact False.elim q
end
def ZFL (r:V->List V->Hp->VK->Prop) (ta:TE) (t:TA):TE:=fun σ H Q=>ta σ H fun f H1=>(∃ g o,f=.ref g /\ H1 g=some (FZ o) /\ ∃ fd,o.data=.func fd) /\ t σ H1 fun vs H2=>r f vs H2 Q
def CloR (X:Cx) (r:V->List V->Hp->VK->Prop):Prop :=
 ∀ (pins:List (Addr×Obj)) (s:Shared) (σ:St) (H:Hp) (f:Addr) (vs:List V) (us:List Value) (Q:VK),Inv X pins σ H s->Vals vs us->r (.ref f) vs H Q ->
  PySem.W.FnAt f s.heap /\ wpAny (model X.prog X.w) X.A (call (.ref f) us) (EP X pins σ Q) X.xe s
theorem fnAt_of {h:Heap} {g:Addr} {o:Obj} {fd:FuncData} (e:h.get? g=some o) (d:o.data=.func fd):PySem.W.FnAt g h:=by
 obtain ⟨oc,od,dt,sl⟩:=o
 have d':dt=.func fd:=d
 subst d'
 exact ⟨oc,od,fd,sl,e⟩
theorem pe_callV {X:Cx} {x:Str} {p pos:Pos} {e:Expr} {es:List Expr} {ta:TE} {t:TA} {r:V->List V->Hp->VK->Prop} (hc:CloR X r) (hx:PE X (.Name x p) ta) (ha:PA X (e::es) t)
  (he:starEach (e::es) X.env=(false,eval e X.env)::starEach es X.env:=by rfl) (hpl:(backTo pos (starEach es X.env)).any (·.1)=false:=by rfl):PE X (.Call (.Name x p) (e::es) [] pos) (ZFL r ta t):=by
 intro pins s σ H Q I h
 refine wpAny_Call_Name_kw (thn (hx pins s σ H _ I h) fun v s1 ⟨f,H1,I1,rf,⟨g,o,eg,hg,fd,hd⟩,q⟩=>?_)
 subst eg
 cases rf
 refine PySem.W.callWith_F (fnAt_of (ZDs I1.hok hg) hd) (thn (ha pos pins s1 σ H1 _ I1 q) fun us s2 ⟨vs,H2,I2,r2,q2⟩=>?_) he hpl
 exact hc pins s2 σ H2 g vs us Q I2 r2 q2
structure CloOk (P:Program) (w:World) (K:W.Frag) (mg:Str->Option Value) (base:Heap) (k:Nat) (r:V->List V->Hp->VK->Prop):Prop where
 run:∀ (A:Around) (outer:List Env) (s:Shared) (H:Hp) (f:Addr) (vs:List V) (us:List Value) (Q:VK),Room k A->Env0 P w K mg base A outer s H->Vals vs us->r (.ref f) vs H Q ->
  PySem.W.FnAt f s.heap /\ codeAny (model P w) A (.call (.ref f) ⟨us,[]⟩) (fun r s'=>match r with | .ok (.ret u)=>CE outer P w H s Q u s' | _=>False) s
theorem CloOk.at {X:Cx} {k:Nat} {r:V->List V->Hp->VK->Prop} (C:CloOk X.prog X.w X.K X.mg X.base k r) (hr:Room k X.A):CloR X r:=by
 intro pins s σ H f vs us Q I rv h
 obtain ⟨h1,h2⟩:=C.run X.A X.stack s H f vs us Q hr I.env0 rv h
 refine ⟨h1,wpAny_call (codeAny_mono h2 fun r s' hq=>?_)⟩
 cases r with
 | error e=>exact False.elim hq
 | ok fl=>
  cases fl with
  | ret u=>exact I.after hq
  | next=>exact False.elim hq
  | brk=>exact False.elim hq
  | cont=>exact False.elim hq
theorem Clo.fnAt {P:Program} {w:World} {H:Hp} {h:Heap} {g:Addr} {iname iq:Str} {ip:Arguments} {ib:List Stmt} {isc:Scope} {fr:List Str} {cs:List V} {cl:List (Str×Addr)} (x:HOk P w H h) (C:CloL H g iname iq ip ib isc fr cs cl):PySem.W.FnAt g h:=by
 obtain ⟨doc,pm,ctv,c',e,_⟩:=C.obj
 exact fnAt_of (ZDs x e) rfl
theorem clo_of {P:Program} {w:World} {K:W.Frag} {mg:Str->Option Value} {base:Heap} {iname iq:Str} {ip:Arguments} {ib:List Stmt} {isc:Scope} {N ps fr:List Str} {k:Nat} {r:V->List V->Hp->VK->Prop} (S:CloScope N ps fr isc)
  (hcl:∀ f vs H Q,r f vs H Q->∃ g cs,f=.ref g /\ Clo H g iname iq ip ib isc fr cs) (len:∀ f vs H Q,r f vs H Q->vs.length=ps.length)
  (hbind:∀ (cl:List (Str×Addr)) (doc pm ctv:Value) (c':Addr) (us:List Value),us.length=ps.length->bindArgs (PySem.W.fnX iname iq ip ib isc cl .none .none doc pm none (.ref c') ctv) ⟨us,[]⟩=pure (ps.zip us))
  (hbody:∀ (g:Addr) (cs:List V) (cl:List (Str×Addr)) (cd:Value) (A:Around) (outer:List Env) (s:Shared) (H:Hp) (vs:List V) (Q:VK),Room k (A.deeper (PySem.W.envX iq isc s.heap.objs.size g cd cl))->CloL H g iname iq ip ib isc fr cs cl->r (.ref g) vs H Q ->
   ∃ t,PSs (ZFE P w K mg base N iq isc g cd cl A outer s (hid cl H)) ib t /\ t { nx:=fun _ H'=>NoC cl H'->Q .non (back cl H H'),rt:=fun v H'=>NoC cl H'->Q v (back cl H H') } (ZCr N vs cs) (hid cl H)):CloOk P w K mg base (k+1) r:=by
 refine ⟨fun A outer s H f vs us Q hr e0 rv h=>?_⟩
 obtain ⟨g,cs,eg,cl,C⟩:=hcl _ _ _ _ h
 cases eg
 have hl:=len _ _ _ _ h
 refine ⟨Clo.fnAt e0.hok C,clo_call (k:=k) C S hr e0 hl rv (fun doc pm ctv c'=>hbind cl doc pm ctv c' us (by rw [<- rv.length];exact hl)) fun cd A' hr'=>?_⟩
 exact hbody f cs cl cd A outer s H vs Q (hr.deeper _) C h
theorem NoC.ne {cl:List (Str×Addr)} {H:Hp} {b:Addr} {o:HO} (n:NoC cl H) (h:H b=some o):¬ ∃ x,cl.lookup x=some b:=fun ⟨x,e⟩=>by rw [n x b e] at h;cases h
def TabSt (H:Hp) (Pt:Addr) (pos:Pos) (iq:Str):Prop:=H Pt=some (.tbl #[])∨∃ c',H Pt=some (.tbl #[rawInt pos.line,rawInt pos.col,.ref c']) /\ CodeAt H c' iq
theorem TabSt.mono {H H':Hp} {Pt:Addr} {pos:Pos} {iq:Str} (e:H' Pt=H Pt) (f:ZE8 H H') (k:TabSt H Pt pos iq):TabSt H' Pt pos iq:=by
 rcases k with k | ⟨c',k,q⟩
 .exact .inl (e.trans k)
 .exact .inr ⟨c',e.trans k,q.mono f⟩
def ZEa (mg:Str->Option Value) (h:Heap):Prop:=∃ bm ob,mg "__builtins__"=some (.ref bm) /\ bm≠builtinsNs /\ h.get? bm=some ob /\ ob.cls=.type "module" /\ ob.dict=some builtinsNs /\ ob.data=.plain
structure MadeDef (H H':Hp) (Pt:Addr) (pos:Pos) (g:Addr) (iname iq:Str) (ip:Arguments) (ib:List Stmt) (isc:Scope) (fr:List Str) (cs:List V):Prop where
 same:∀ b o,b≠Pt->H b=some o->H' b=some o
 tab:TabSt H' Pt pos iq
 clo:Clo H' g iname iq ip ib isc fr cs
 fresh:H g=none
section
variable {X:Cx} {pins:List (Addr×Obj)} {σ:St} {H:Hp} {s:Shared}
structure MadeMid (H H':Hp) (Pt:Addr) (pos:Pos) (g:Addr) (iname iq:Str) (ip:Arguments) (ib:List Stmt) (isc:Scope) (cl:List (Str×Addr)):Prop where
 same:∀ b o,b≠Pt->H b=some o->H' b=some o
 tab:TabSt H' Pt pos iq
 obj:∃ (doc pm ctv:Value) (c':Addr),H' g=some (FZ (PySem.W.fnMade iname iq ip ib isc cl doc pm c' ctv)) /\ CodeAt H' c' iq
 fresh:H g=none
theorem Inv.made3 (I:Inv X pins σ H s) {Pt c':Addr} {ps more:Array Value} {h':Heap} {oc fo:Obj} {tk:Nat} (hP:H Pt=some (.tbl ps)) (hx:Heap.ExtBut Pt s.heap h') (hge:s.heap.objs.size <= c') (hlt:c' < h'.objs.size) (hoc:h'.get? c'=some oc)
  (hPt:h'.get? Pt=some (PySem.W.tabObj (ps++more))) (hfo:fo.isFreed=false):Inv X pins σ (upd (upd (upd H Pt (.tbl (ps++more))) c' (FZ oc)) h'.objs.size (FZ fo)) { s with heap:=h'.push fo,toks:=tk }:=by
 have gn:∀ b o,s.heap.get? b=some o->b≠h'.objs.size /\ b≠c':=fun b o e=>by
  have l:=Heap.lt_size e
  exact ⟨yAO (Nat.lt_trans (yBA l hge) hlt),yAO (yBA l hge)⟩
 have gt:∀ b o,H b=some o->b≠h'.objs.size /\ b≠c':=fun b o e=>by
  have l:=I.hok.lt e
  exact ⟨yAO (Nat.lt_trans (yBA l hge) hlt),yAO (yBA l hge)⟩
 have np:∀ b,H b=none->b≠Pt:=fun b n z=>by rw [z,hP] at n;cases n
 have cg:c'≠h'.objs.size:=yAO hlt
 have old:∀ b o,b≠Pt->H b=some o->upd (upd (upd H Pt (.tbl (ps++more))) c' (FZ oc)) h'.objs.size (FZ fo) b=some o:=fun b o n e=>by
  rw [ZAI (gt b o e).1,ZAI (gt b o e).2,ZAI n];exact e
 have atP:upd (upd (upd H Pt (.tbl (ps++more))) c' (FZ oc)) h'.objs.size (FZ fo) Pt=some (.tbl (ps++more)):=by
  rw [ZAI (gt Pt _ hP).1,ZAI (gt Pt _ hP).2,ZAF]
 refine I.un (h':=h'.push fo) (t':=tk) ⟨fun b o e n _ _=>?_,fun b o e n _ _=>?_,fun b o e n _=>?_,fun b o e _=>?_,fun b xs e=>?_,fun b o u e=>?_,fun b qs e=>?_⟩ fun b o e=>?_
 .exact Heap.get?_push_of_some _ (hx b o (np b n) e)
 .exact ⟨o.slots,Heap.get?_push_of_some _ (hx b o (np b n) e)⟩
 .rw [ZAI (gn b o e).1,ZAI (gn b o e).2,ZAI (np b n)];exact n
 .by_cases q:b=Pt
  .subst q;exact ⟨_,Heap.get?_push_of_some _ hPt⟩
  .exact ⟨o,Heap.get?_push_of_some _ (hx b o q e)⟩
 .exact old b _ (fun z=>by rw [z,hP] at e;cases e) e
 .exact old b _ (fun z=>by rw [z,hP] at e;cases e) e
 .by_cases q:b=Pt
  .subst q
   rw [hP] at e
   cases e
   exact ⟨more,atP⟩
  .exact ⟨#[],by rw [old b _ q e];simp⟩
 .by_cases q1:b=h'.objs.size
  .subst q1;rw [ZAF] at e;cases e;exact ZFf (Heap.get?_push_size _ hfo)
  .rw [ZAI q1] at e
   by_cases q2:b=c'
   .subst q2;rw [ZAF] at e;cases e;exact ZFf (Heap.get?_push_of_some _ hoc)
   .rw [ZAI q2] at e
    by_cases q3:b=Pt
    .subst q3;rw [ZAF] at e;cases e;exact Heap.get?_push_of_some _ hPt
    .rw [ZAI q3] at e
     refine (I.hok b o e).stay (fun c u hc q=>?_) (fun c q=>?_) fun c xs q=>?_
     .refine Heap.get?_push_of_some _ (hx c u ?_ q)
      rcases hc with z | z
      .rw [z];exact q3
      .intro z2;rw [z2,hP] at z;cases z
     .exact old c _ (fun z=>by rw [z,hP] at q;cases q) q
     .exact old c _ (fun z=>by rw [z,hP] at q;cases q) q
theorem Inv.made1 (I:Inv X pins σ H s) {h':Heap} {fo:Obj} {tk:Nat} (hk:∀ b o,s.heap.get? b=some o->h'.get? b=some o) (hsz:s.heap.objs.size <= h'.objs.size) (hfo:fo.isFreed=false):Inv X pins σ (upd H h'.objs.size (FZ fo)) { s with heap:=h'.push fo,toks:=tk } :=
 I.laid (fun b u q=>Heap.get?_push_of_some _ (hk b u q)) hsz (ZFf (Heap.get?_push_size _ hfo))
def tDef (i:Nat) (Pt:Addr) (pos:Pos) (iname iq:Str) (ip:Arguments) (ib:List Stmt) (isc:Scope) (cl:List (Str×Addr)):TS:=fun D σ H=>TabSt H Pt pos iq /\ ∀ g H',MadeMid H H' Pt pos g iname iq ip ib isc cl->D.nx (σ.set i (some (.ref g))) H'
theorem ps_def {i:Nat} {Pt c:Addr} {pos:Pos} {iname iq:Str} {ip:Arguments} {ib:List Stmt} {isc:Scope} (hN:X.N.Nodup) (hi:X.N[i]?=some iname) (hx:Loc X.env.scope iname) (hf:X.fn iname=true∨X.env.scope.names.lookup iname=some .local)
  (hcode:X.env.code=.ref c) (C:PySem.W.CodeHd X.base c Pt) (B:ZEa X.mg X.base) (hq:qualnameIn X.env iname iname=iq) (hd0:ip.defaults=[]) (hk0:ip.kw_defaults=[]) (ha:annTrees ip none X.env=[])
  (hfr:∀ x,(x,NameKind.free)∈isc.names->∃ c,X.env.cells.lookup x=some c) :
  PS X (.FunctionDef iname ip ib [] none [] isc none iname pos) (tDef i Pt pos iname iq ip ib isc (closFrom X.env.cells isc.names [])):=by
 intro pins s σ H D I h
 obtain ⟨ht,h⟩:=h
 refine PySem.W.nestDef_K hd0 hk0 ha ?_
 rw [hq]
 have hgs:=I.ok.mod.glob.keeps I.bk
 have hC:=C.keeps I.bk
 have hcl:=closureFor_eq (scope:=isc) (env:=X.env) hfr
 obtain ⟨bm,ob,b1,b2,b3,b4,b5,b6⟩:=B
 have hbG:bm≠mainGlobals:=fun q=>by
  obtain ⟨o,es,ep,e,hd,_⟩:=I.ok.mod.glob
  rw [q,e] at b3;cases b3;rw [hd] at b6;cases b6
 have apart:∀ {qs:Array Value},s.heap.get? Pt=some (PySem.W.tabObj qs)->mainGlobals≠Pt /\ s.heap.BuiltinsAt X.mg Pt:=fun {qs} hm=>by
  refine ⟨fun q=>?_,bm,ob,b1,b2,hbG,fun q=>?_,I.bk _ _ b3,b4,b5,b6⟩
  .obtain ⟨o,es,ep,e,hd,_⟩:=hgs
   rw [q,hm] at e;cases e;cases hd
  .have e:=I.bk _ _ b3
   rw [q,hm] at e;cases e;cases b4
 have fin:∀ {g:Addr} {H':Hp} {s':Shared},Inv X pins σ H' s'->MadeMid H H' Pt pos g iname iq ip ib isc (closFrom X.env.cells isc.names []) ->
   wpAny (model X.prog X.w) X.A (storeName X.env iname (.ref g)) (fun _ s''=>SP X pins D .next s'') X.xe s':=fun {g H' s'} J M=>
  ZDK J hN hi hx (v:=.ref g) rfl (fun s'' J'=>⟨_,H',J',h g H' M⟩) hf
 rcases ht with ht | ⟨c1,ht,hc1⟩
 .have hP:s.heap.get? Pt=some (PySem.W.tabObj #[]):=I.hok Pt _ ht
  obtain ⟨a1,a2⟩:=apart hP
  refine PySem.W.makeFunction_K hcl I.ok.glob hgs hcode hC hP trivial rfl a1 a2 fun c' ctv doc h' tk hx2 hge hlt hrec htb=>?_
  obtain ⟨c2,oc,vs,t,e2,hoc,hd,hv⟩:=hrec
  cases e2
  have J:=I.made3 (tk:=tk) (fo:=PySem.W.fnMade iname iq ip ib isc (closFrom X.env.cells isc.names []) doc ((X.mg "__name__").getD .none) c' ctv) ht hx2 hge hlt hoc htb rfl
  have gt:∀ b o,H b=some o->b≠h'.objs.size /\ b≠c':=fun b o e=>by
   have l:=I.hok.lt e
   exact ⟨yAO (Nat.lt_trans (yBA l hge) hlt),yAO (yBA l hge)⟩
  have hcc:CodeAt (upd (upd (upd H Pt (.tbl (#[]++#[rawInt pos.line,rawInt pos.col,.ref c']))) c' (FZ oc)) h'.objs.size (FZ (PySem.W.fnMade iname iq ip ib isc (closFrom X.env.cells isc.names []) doc ((X.mg "__name__").getD .none) c' ctv))) c' iq :=
   ⟨oc,vs,t,by rw [ZAI (yAO hlt),ZAF],hd,hv⟩
  refine fin J ⟨fun b o n e=>?_,.inr ⟨c',?_,hcc⟩,⟨doc,_,ctv,c',ZAF,hcc⟩,?_⟩
  .rw [ZAI (gt b o e).1,ZAI (gt b o e).2,ZAI n];exact e
  .rw [ZAI (gt Pt _ ht).1,ZAI (gt Pt _ ht).2,ZAF];rfl
  .exact I.hok.fresh (yAP hge (yBO hlt))
 .have hP:s.heap.get? Pt=some (PySem.W.tabObj #[rawInt pos.line,rawInt pos.col,.ref c1]):=I.hok Pt _ ht
  obtain ⟨a1,a2⟩:=apart hP
  refine PySem.W.makeFunction_hit (cv:=.ref c1) hcl I.ok.glob hgs hcode hC hP trivial ?_ a2 fun ctv doc h' tk hk hsz=>?_
  .simp [codeAmong,rawInt]
  have J:=I.made1 (tk:=tk) (fo:=PySem.W.fnMade iname iq ip ib isc (closFrom X.env.cells isc.names []) doc ((X.mg "__name__").getD .none) c1 ctv) hk hsz rfl
  have gt:∀ b o,H b=some o->b≠h'.objs.size:=fun b o e=>yAO (yBA (I.hok.lt e) hsz)
  have old:∀ b o,H b=some o->upd H h'.objs.size (FZ (PySem.W.fnMade iname iq ip ib isc (closFrom X.env.cells isc.names []) doc ((X.mg "__name__").getD .none) c1 ctv)) b=some o:=fun b o e=>by rw [ZAI (gt b o e)];exact e
  have hcc:=hc1.mono (H':=upd H h'.objs.size (FZ (PySem.W.fnMade iname iq ip ib isc (closFrom X.env.cells isc.names []) doc ((X.mg "__name__").getD .none) c1 ctv))) fun b o e=>old b _ e
  exact fin J ⟨fun b o _ e=>old b o e,.inr ⟨c1,old _ _ ht,hcc⟩,⟨doc,_,ctv,c1,ZAF,hcc⟩,I.hok.fresh hsz⟩
end
def ZEv (Pt:Addr) (pos:Pos) (iname iq:Str) (ip:Arguments) (ib:List Stmt) (isc:Scope) (fr:List Str) (ix:List Nat) (n:Nat):Sp:=fun vs H Q _=>
 vs.length=n /\ TabSt H Pt pos iq /\ ∀ g H',MadeDef H H' Pt pos g iname iq ip ib isc fr (ix.map fun i=>vs.getD i .non)->Q (.ref g) H'
theorem teller_ok {P:Program} {w:World} {K:W.Frag} {mg:Str->Option Value} {base:Heap} {x qual:Str} {st:Stmt} {f c Pt:Addr} {fd:FuncData} {ps:List Str} {iname iq:Str} {ip:Arguments} {ib:List Stmt} {isc:Scope} {pos rp rpos:Pos} {fr:List Str} {ix:List Nat}
  (F:Fun K x qual st f fd) (S:FnScope (ps++[iname]) ps (ZAC st)) (hcd:fd.code=.ref c) (C:PySem.W.CodeHd base c Pt) (B:ZEa mg base)
  (hb:ZAJ st=[.FunctionDef iname ip ib [] none [] isc none iname pos,.Return (some (.Name iname rp)) rpos]) (hiq:∀ L cd,qualnameIn (envOfC qual (ZAC st) L f cd) iname iname=iq) (hd0:ip.defaults=[]) (hk0:ip.kw_defaults=[]) (ha:∀ L cd,annTrees ip none (envOfC qual (ZAC st) L f cd)=[])
  (hloc:(ZAC st).names.lookup iname=some .local) (hdb:(iname == ("__debug__":Str))=false) (hcdn:(iname == ("__classdict__":Str))=false)
  (hfree:∀ y∈isc.names,y.2=.free->y.1∈fr) (hhas:∀ y∈fr,(y,NameKind.free)∈isc.names) (hfc:∀ y∈fr,(ZAC st).names.lookup y=some .cell) (hix:∀ (j:Nat) (y:Str),fr[j]?=some y->∃ i,ix[j]?=some i /\ ps[i]?=some y) (hixl:ix.length=fr.length) :
  FnOk P w K mg base CX0 1 f fd ps (ZEv Pt pos iname iq ip ib isc fr ix ps.length):=by
 obtain ⟨oc,od,kV,doc,pm,an,cdv,ct,osl,rfl,lk,hcd2⟩:=F.ex
 have hcd':cdv=.ref c:=hcd
 refine ⟨fun vs H Q E h=>h.1,fun A outer s H args us vs Q E hr e0 hbn r hsp=>?_⟩
 obtain ⟨hl,hT,hQ⟩:=hsp
 have KX:K.In s.heap:=e0.mod.kin.keeps fun b o e=>(e0.bs b o e).1
 have lim:s.heap.NoLimit:=e0.mod.nolimit.keeps fun b o e=>(e0.bs b o e).1
 have hkind:∀ y∈ps.zip us,(ZAC st).names.lookup y.1=some .local∨((ZAC st).names.lookup y.1=some .cell /\ ((cellsFrom (s.heap.objs.size+1) (ZAC st).names []).lookup y.1).isSome=true):=fun ⟨n,v⟩ hy=>by
  rcases S.par n (List.of_mem_zip hy).1 with q | q
  .exact .inl q
  .exact .inr ⟨q,PySem.W.cellsFrom_some _ _ _ (.inl q)⟩
 refine codeAny_call_function hr.depth (KX _ _ lk) rfl S.co S.gen rfl (PySem.W.codeRec_of KX hcd2) (hbn _ _ _ _ ?_)
 refine wpAny_newFunctionEnv_cells S.kind hkind fun env he s1 xx=>?_
 subst he
 refine ⟨lim.keeps xx.toInCall.keep,codeAny_func ?_⟩
 have I:Inv (cxOf CX0 P w K mg base (ps++[iname]) qual (ZAC st) f cdv A outer s H E).nox [] (start (ps++[iname]) vs) H s1:=(inv_start S hr.hd e0 hl r xx).wish _
 have cellHas:∀ y∈fr,∃ cc,(cellsFrom (s.heap.objs.size+1) (ZAC st).names []).lookup y=some cc:=fun y hy=>ZDQ (hfc y hy)
 rw [hb]
 have hiN:(ps++[iname])[ps.length]?=some iname:=by simp
 have d1:=ps_def (X:=(cxOf CX0 P w K mg base (ps++[iname]) qual (ZAC st) f cdv A outer s H E).nox) (i:=ps.length) (pos:=pos) (Pt:=Pt) (c:=c) (iq:=iq) (ip:=ip) (ib:=ib) (isc:=isc) S.nd hiN (.inl hloc) (.inr hloc) hcd' C B (hiq _ _) hd0 hk0 (ha _ _) fun y hy=>cellHas y (hfree _ hy rfl)
 have hlen:(start (ps++[iname]) vs).length=ps.length+1:=by
  unfold start
  simp only [yAD,yAB,yCF,yAG,yBT]
  omega
 have run:=d1 [] s1 (start (ps++[iname]) vs) H { nx:=fun σ' H'=>∃ g,σ'=(start (ps++[iname]) vs).set ps.length (some (.ref g)) /\ MadeMid H H' Pt pos g iname iq ip ib isc (closFrom (cellsFrom (s.heap.objs.size+1) (ZAC st).names []) isc.names []),rt:=fun _ _=>False } I ⟨hT,fun g H' M=>⟨g,rfl,M⟩⟩
 refine wpAny_execs_cons (wpAny_mono run (fun fl s2 q=>?_) fun e s' z=>z.elim)
 cases fl with
 | ret v=>obtain ⟨_,_,_,_,_,q⟩:=q;exact q.elim
 | brk=>obtain ⟨_,_,_,q⟩:=q;exact q.elim
 | cont=>obtain ⟨_,_,_,q⟩:=q;exact q.elim
 | next=>
  obtain ⟨σ',H',J,g,rfl,M⟩:=q
  have v1:=pe_var (pos:=rp) (X:=(cxOf CX0 P w K mg base (ps++[iname]) qual (ZAC st) f cdv A outer s H E).nox) hiN (.inl hloc) hdb hcdn [] s2 _ H' (fun v H2=>v=.ref g /\ H2=H') J ⟨.ref g,by rw [List.getElem?_set_self (by rw [hlen];omega)],rfl,rfl⟩
  refine wpAny_execs_cons (wpAny_Return_some (wpAny_mono v1 (fun u s3 q=>?_) fun e s' z=>z.elim))
  obtain ⟨v,H2,J2,rv,rfl,rfl⟩:=q
  cases rv
  have un:Un (frs outer) [] H H2 s.heap s3.heap:=J2.base
  have nex:∀ b:Addr,b∉([]:List Addr):=fun b=>by simp
  have inj:=J2.ok.inj
  have cAt:∀ (j:Nat) (y:Str),fr[j]?=some y->∃ v cc uu,(ix.map fun i=>vs.getD i .non)[j]?=some v /\ (cellsFrom (s.heap.objs.size+1) (ZAC st).names []).lookup y=some cc /\ RelV v uu /\ s3.heap.IsCell cc (some uu):=fun j y hj=>by
   obtain ⟨i,h1,h2⟩:=hix j y hj
   have hi:i < ps.length:=(yAH.mp h2).1
   obtain ⟨v,hv⟩:∃ v,vs[i]?=some v:=⟨_,yAJ (by omega)⟩
   obtain ⟨m,_,hm⟩:=J2.loc
   have hs:((start (ps++[iname]) vs).set ps.length (some (.ref g)))[i]?=some (some v):=by
    rw [List.getElem?_set_ne (by omega)]
    unfold start
    rw [yAZ (by rw [yAB];omega),yAW,hv]
    rfl
   have hN:(ps++[iname])[i]?=some y:=by rw [yAZ hi];exact h2
   obtain ⟨uu,ru,lk2⟩:=hm i y v hN hs (.inr (.inl (hfc y (yAK hj))))
   refine ⟨v,?_⟩
   rcases lk2 with ⟨k1,_⟩ | ⟨_,cc,e1,e2⟩
   .have k2:(ZAC st).names.lookup y=some .local:=k1
    rw [hfc y (yAK hj)] at k2
    cases k2
   .refine ⟨cc,uu,?_,e1,ru,e2⟩
    rw [yAW,h1]
    show some (vs.getD i .non)=some v
    rw [List.getD_eq_getElem?_getD,hv]
    rfl
  have clk:∀ y cc,(closFrom (cellsFrom (s.heap.objs.size+1) (ZAC st).names []) isc.names []).lookup y=some cc->y∈fr /\ (cellsFrom (s.heap.objs.size+1) (ZAC st).names []).lookup y=some cc:=fun y cc h=>by
   rcases ZBw _ _ y cc (PySem.mem_of_lookup h) with z | ⟨z1,z2⟩
   .cases z
   .have hy:=hfree _ z1 rfl
    obtain ⟨c3,h3⟩:=cellHas y hy
    rw [h3] at z2
    exact ⟨hy,by rw [h3];exact congrArg some z2.symm⟩
  have clh:∀ y cc,y∈fr->(cellsFrom (s.heap.objs.size+1) (ZAC st).names []).lookup y=some cc->(closFrom (cellsFrom (s.heap.objs.size+1) (ZAC st).names []) isc.names []).lookup y=some cc:=fun y cc hy h=>by
   obtain ⟨c3,h3⟩:=ZBf (ZBx (cells:=cellsFrom (s.heap.objs.size+1) (ZAC st).names []) isc.names [] y (hhas y hy))
   have:=(clk y c3 h3).2
   rw [h] at this
   rw [h3,Option.some.inj this]
  have cnew:∀ y cc,(closFrom (cellsFrom (s.heap.objs.size+1) (ZAC st).names []) isc.names []).lookup y=some cc->s.heap.objs.size <= cc /\ H2 cc=none /\ ∃ o u,s3.heap.get? cc=some o /\ o.data=.cell u:=fun y cc h=>by
   obtain ⟨hy,h2⟩:=clk y cc h
   obtain ⟨u,o,e1,e2⟩:=J2.cell y cc h2
   exact ⟨yBO (xx.above y cc (PySem.mem_of_lookup h2)),J2.freeC y cc h2,o,u,e1,e2⟩
  generalize closFrom (cellsFrom (s.heap.objs.size+1) (ZAC st).names []) isc.names []=cl at M clk clh cnew
  have tr:∀ b,¬ (∃ y,cl.lookup y=some b)->back cl (fun b=>(s3.heap.get? b).map FZ) H2 b=H2 b:=fun b n=>ZCh n
  have tc:∀ y b o,cl.lookup y=some b->s3.heap.get? b=some o->back cl (fun b=>(s3.heap.get? b).map FZ) H2 b=some (FZ o):=fun y b o h e=>by rw [ZDt h,e];rfl
  have oldn:∀ b,b < s.heap.objs.size->¬ ∃ y,cl.lookup y=some b:=fun b hb ⟨y,z⟩=>absurd (cnew y b z).1 (Nat.not_le.mpr hb)
  have up:∀ b o,H2 b=some o->back cl (fun b=>(s3.heap.get? b).map FZ) H2 b=some o:=fun b o e=>by
   rw [tr b fun ⟨y,z⟩=>by rw [(cnew y b z).2.1] at e;cases e];exact e
  refine ⟨.ref g,back cl (fun b=>(s3.heap.get? b).map FZ) H2,J2.os,J2.bare,⟨un.keep,un.slot,fun b o e n hx=>?_,un.there,fun b xs e=>up _ _ (un.tups b xs e),fun b o u e=>up _ _ (un.frzs b o u e),fun b qs e=>?_⟩,fun b o e=>?_,rfl,hQ g _ ⟨fun b o n e=>up _ _ (M.same b o n e),?_,⟨cl,?_,fun y cc h=>(clk y cc h).1,fun y z cc h1 h2=>inj y z cc (clk y cc h1).2 (clk z cc h2).2,fun j y hj=>?_,?_⟩,M.fresh⟩⟩
  .rw [tr b (oldn b (Heap.lt_size e))];exact un.free b o e n hx
  .obtain ⟨more,e2⟩:=un.tbls b qs e
   exact ⟨more,up _ _ e2⟩
  .by_cases q:∃ y,cl.lookup y=some b
   .obtain ⟨y,q⟩:=q
    obtain ⟨_,_,o2,u2,e2,_⟩:=cnew y b q
    rw [tc y b o2 q e2] at e
    cases e
    exact ZFf e2
   .rw [tr b q] at e
    exact (J2.hok b o e).stay (fun c v _ q=>q) (fun c q=>up c _ q) fun c xs q=>up c _ q
  .exact M.tab.mono (by
    rcases M.tab with z | ⟨_,z,_⟩
    .rw [z];exact up _ _ z
    .rw [z];exact up _ _ z) fun b o e=>up b _ e
  .obtain ⟨d1,d2,d3,c3,e1,e2⟩:=M.obj
   exact ⟨d1,d2,d3,c3,up _ _ e1,e2.mono fun b o e=>up b _ e⟩
  .obtain ⟨v,cc,uu,a1,a2,a3,o,a4,a5⟩:=cAt j y hj
   have hl2:=clh y cc (yAK hj) a2
   exact ⟨v,cc,uu,o,a1,hl2,a3,tc y cc o hl2 a4,a5⟩
  .rw [yAB];exact hixl
def ZGD (tabs:List (Addr×Addr)) (H:Hp):Prop:=∀ q∈tabs,H q.2=some (.tbl #[])
theorem law_callT {P:Program} {w:World} {K:W.Frag} {mg mb:Str->Option Value} {CX:CXT} {k:Nat} {fa a:Addr} {fd:FuncData} {x:Str} {sp:Sp} {s₁:Shared} {vs:List Value} {ns:List Int} {tabs:List (Addr×Addr)}
  (KX:K.In s₁.heap) (hns:s₁.heap.Ns mainGlobals mg) (hb:s₁.heap.Ns builtinsNs mb) (hbb:∀ x:Str,x≠"__name__"->mb x=bootBuiltins x) (hlim:s₁.heap.NoLimit) (hg:s₁.gens=#[])
  (ha:s₁.heap.get? a=some { cls:=.type "list",data:=.seq vs.toArray }) (hi:IntsAre vs ns) (hl:ns.length <= sizeLine) (hr:Room k callerA)
  (hT:∀ q∈tabs,PySem.W.CodeHd s₁.heap q.1 q.2 /\ s₁.heap.get? q.2=some (PySem.W.tabObj #[])) (nt:PySem.W.noTabs K=true) (hbm:ZEa mg s₁.heap)
  (F:∀ base:Heap,K.In base->base.Ns mainGlobals mg->(∀ q∈tabs,PySem.W.CodeHd base q.1 q.2)->ZEa mg base->FnOk P w K mg base CX k fa fd [x] sp) (hbind:∀ (s:Shared) (u:Value),BindsTo s fd ⟨[u],[]⟩ [(x,u)])
  (hsp:∀ H:Hp,ZGD tabs H->SqL K H a (ns.map V.int)->sp [.ref a] H (fun v _=>v=.bl true) fun _ _ _=>False)
  (hCX:∀ H e s',CX [] H s₁ (fun _ _ _=>False) e s'->False) :
  codeAny (model P w) callerA (.call (.ref fa) ⟨[.ref a],[]⟩) (fun r s'=>r=.ok (.ret (.bool true)) /\ OldK s₁.heap s'.heap /\ s'.os=s₁.os /\ AllBare s'.gens) s₁:=by
 have rv:=ZDR hi
 have lenV:=hi.length
 have core:∀ H:Hp,SqL K H a (ns.map V.int)->HOk P w H s₁.heap->(∀ b o,H b=some o->(b=a /\ K.lookup a=none /\ ∃ ob xs,o=.frz ob (.lst xs))∨(o=.tbl #[] /\ ∃ q∈tabs,q.2=b))->ZGD tabs H ->
   codeAny (model P w) callerA (.call (.ref fa) ⟨[.ref a],[]⟩) (fun r s'=>r=.ok (.ret (.bool true)) /\ OldK s₁.heap s'.heap /\ s'.os=s₁.os /\ AllBare s'.gens) s₁:=by
  intro H hS hok hA hO
  have base_of:∀ {b:Addr} {o:Obj},s₁.heap.get? b=some o->H b=none->(hidT s₁.heap H).get? b=some o:=fun e n=>hidT_get e n
  have noObj:∀ {b:Addr} {o:Obj},s₁.heap.get? b=some o->(∀ vs' n',o.data≠.seq vs' n')->(o.cls=.none->∀ vs',o.data≠.fields vs')->H b=none:=fun {b o} e d1 d2=>by
   cases q:H b with
   | none=>rfl
   | some u=>
    rcases hA b u q with ⟨e',_⟩ | ⟨_,q',hq,e'⟩
    .subst e'
     rw [ha] at e;cases e
     exact absurd rfl (d1 _ _)
    .subst e'
     rw [(hT q' hq).2] at e;cases e
     exact absurd rfl (d2 rfl _)
  have nsK:∀ {b:Addr} {m:Str->Option Value},s₁.heap.Ns b m->(hidT s₁.heap H).Ns b m:=fun {b m} ⟨o,es,ep,e,d,r⟩=>⟨o,es,ep,base_of e (noObj e (by rw [d];intro _ _ z;cases z) (fun _=>by rw [d];intro _ z;cases z)),d,r⟩
  have hKb:K.In (hidT s₁.heap H):=fun b o e=>base_of (KX b o e) (by
   cases q:H b with
   | none=>rfl
   | some u=>
    rcases hA b u q with ⟨e',n,_⟩ | ⟨_,q',hq,e'⟩
    .subst e';rw [n] at e;cases e
    .subst e'
     have e2:=KX _ _ e
     rw [(hT q' hq).2] at e2
     cases e2
     have h2:=List.all_eq_true.mp nt _ (PySem.W.mem_of_lookupK e)
     exact absurd (show false=true from h2) yBE)
  have hM:Mod K mg (hidT s₁.heap H):=⟨hKb,nsK hns,⟨mb,nsK hb,hbb⟩,let ⟨mc,h1,h2⟩:=hlim;⟨mc,nsK h1,h2⟩⟩
  have e0:Env0 P w K mg (hidT s₁.heap H) callerA [] s₁ H:=⟨rfl,hM,fun b o e=>of_hidT e,Nat.le_of_eq (hidT_size _ _),trivial,fun b hb=>absurd (show b∈([]:List Addr) from hb) (by simp),hok,.of_eq hg⟩
  have hC:∀ q∈tabs,PySem.W.CodeHd (hidT s₁.heap H) q.1 q.2:=fun q hq=>by
   obtain ⟨o,vs,file,tf,flags,tg,inF,text,tt,e1,e2,e3,r⟩:=(hT q hq).1
   exact ⟨o,vs,file,tf,flags,tg,inF,text,tt,base_of e1 (noObj e1 (by rw [e3];intro _ _ z;cases z) (fun z=>by rw [e2] at z;cases z)),e2,e3,r⟩
  have hB:ZEa mg (hidT s₁.heap H):=by
   obtain ⟨bm,ob,b1,b2,b3,b4,b5,b6⟩:=hbm
   exact ⟨bm,ob,b1,b2,base_of b3 (noObj b3 (by rw [b6];intro _ _ z;cases z) (fun z=>by rw [b4] at z;cases z)),b4,b5,b6⟩
  refine codeAny_mono ((F _ hKb (nsK hns) hC hB).run callerA [] s₁ H ⟨[.ref a],[]⟩ [.ref a] [.ref a] _ _ hr e0 (hbind s₁ (.ref a)) (.cons rfl .nil) (hsp H hO hS)) fun r s' h=>?_
  cases r with
  | error e=>exact (hCX H e s' h).elim
  | ok fl=>
   cases fl with
   | next=>exact False.elim h
   | brk=>exact False.elim h
   | cont=>exact False.elim h
   | ret u=>
    obtain ⟨v,H',os,bare,un,hok',r',q⟩:=h
    have q':v=.bl true:=q
    subst q'
    obtain rfl:u=Value.bool true:=r'
    have nfs:∀ b:Addr,b∉frs ([]:List Env):=fun b z=>absurd (show b∈([]:List Addr) from z) (by simp)
    refine ⟨rfl,⟨fun b o e=>?_,fun b o e=>un.there b o e (by simp)⟩,os,bare⟩
    cases q:H b with
    | none=>exact .inl (un.keep b o e q (nfs b) (by simp))
    | some u=>
     rcases hA b u q with ⟨_,_,ob,xs,z⟩ | ⟨z,q',hq,e'⟩
     .subst z
      have z2:=un.frzs b ob _ q
      obtain ⟨e1,_⟩:=hok b _ q
      obtain ⟨e2,_⟩:=hok' b _ z2
      rw [e] at e1;cases e1
      exact .inl e2
     .subst z
      subst e'
      obtain ⟨more,z2⟩:=un.tbls _ _ q
      have e2:s'.heap.get? q'.2=some (PySem.W.tabObj (#[]++more)):=hok' _ _ z2
      have e3:=(hT q' hq).2
      rw [e] at e3
      have e4:o=PySem.W.tabObj #[]:=Option.some.inj e3
      subst e4
      exact .inr (.inl ⟨((hT q' hq).1.tab (hT q' hq).2).isCodeTable,rfl,#[],more,rfl,e2⟩)
 have tabA:∀ q∈tabs,q.2≠a:=fun q hq z=>by
  have e:=(hT q hq).2
  rw [z,ha] at e;cases e
 cases hk:K.lookup a with
 | some o=>
  have e:=KX a o hk
  rw [ha] at e
  cases e
  refine core (fun b=>if b∈tabs.map (·.2) then some (.tbl #[]) else none) (.inr ⟨_,vs.toArray,_,hk,rfl,rfl,rfl,by rw [yAT,lenV];exact hl,by simpa using rv⟩) (fun b u z=>?_) (fun b u z=>?_) fun q hq=>if_pos (List.mem_map_of_mem hq)
  .by_cases hb:b∈tabs.map (·.2)
   .have z':=(if_pos hb).symm.trans z
    cases z'
    obtain ⟨q,hq,rfl⟩:=yBQ.mp hb
    exact (hT q hq).2
   .have z':=(if_neg hb).symm.trans z
    cases z'
  .by_cases hb:b∈tabs.map (·.2)
   .have z':=(if_pos hb).symm.trans z
    cases z'
    obtain ⟨q,hq,e⟩:=yBQ.mp hb
    exact .inr ⟨rfl,q,hq,e⟩
   .have z':=(if_neg hb).symm.trans z
    cases z'
 | none=>
  refine core (fun b=>if b∈tabs.map (·.2) then some (.tbl #[]) else if b=a then some (.frz { cls:=.type "list",data:=.seq vs.toArray } (.lst (ns.map V.int))) else none) (.inl (.inr ⟨{ cls:=.type "list",data:=.seq vs.toArray },?_⟩)) (fun b u z=>?_) (fun b u z=>?_) fun q hq=>if_pos (List.mem_map_of_mem hq)
  .dsimp only
   rw [if_neg,if_pos rfl]
   intro z
   obtain ⟨q,hq,e⟩:=yBQ.mp z
   exact tabA q hq e
  .by_cases hb:b∈tabs.map (·.2)
   .have z':=(if_pos hb).symm.trans z
    cases z'
    obtain ⟨q,hq,rfl⟩:=yBQ.mp hb
    exact (hT q hq).2
   .have z':=(if_neg hb).symm.trans z
    by_cases hba:b=a
    .have z':=(if_pos hba).symm.trans z'
     cases z'
     subst hba
     exact ⟨ha,by rw [yAB];exact hl,vs,_,rv,ha⟩
    .have z':=(if_neg hba).symm.trans z'
     cases z'
  .by_cases hb:b∈tabs.map (·.2)
   .have z':=(if_pos hb).symm.trans z
    cases z'
    obtain ⟨q,hq,e⟩:=yBQ.mp hb
    exact .inr ⟨rfl,q,hq,e⟩
   .have z':=(if_neg hb).symm.trans z
    by_cases hba:b=a
    .have z':=(if_pos hba).symm.trans z'
     cases z'
     exact .inl ⟨hba,hk,_,_,rfl⟩
    .have z':=(if_neg hba).symm.trans z'
     cases z'
def ZFO (K:W.Frag) (tabs:List (Addr×Addr)):Sp:=fun vs H Q _=>∃ (a:Addr) (ns:List Int),vs=[.ref a] /\ SqL K H a (ns.map V.int) /\ ns.length <= 63 /\ ZGD tabs H /\ ∀ H',Q (.bl true) H'
theorem tabIn_of {K:W.Frag} {x:Str} {f c Pt:Addr} {oc oc2:Value} {od od2:Option Addr} {fd:FuncData} {sl sl2:Array (Option Value)} {vs:Array Value} (a:W.nsIn K mainGlobals x=some (some (.ref f))) (l:K.lookup f=some ⟨oc,od,.func fd,sl⟩) (hc:fd.code=.ref c)
  (lc:K.lookup c=some ⟨oc2,od2,.fields vs,sl2⟩) (tp:vs[11]?=some (.ref Pt)):PySem.W.tabIn K x=some (c,Pt):=by
 unfold PySem.W.tabIn
 rw [a]
 dsimp only
 rw [l]
 dsimp only
 rw [hc]
 dsimp only
 rw [lc]
 dsimp only
 rw [tp]
theorem walk_ofT2 {l:PySem.W.OpenLaw} {k:Nat} {q:Program} {loose:List Str} {XP:(Str->Option Value)->Heap->Prop} {YP:World->Heap->Prop} {d:DefRec} {K:Params->W.Frag} {x:Str} {names:List Str}
  (hn:l.most=some 63) (hdf:d.params.defaults=[]) (hr:Room k callerA)
  (hY:∀ (w:World) (h:Heap),YP w h->(K w.params).In h) (hrec:∀ y∈names,∃ dr,(recsOf q).find? (fun e=>e.name == y)=some dr)
  (F:∀ (w:World) (mg:Str->Option Value) (fa:Addr) (h:Heap),(K w.params).In h->h.Ns mainGlobals mg->mg d.name=some (.ref fa) ->
   ∃ (tabs:List (Addr×Addr)) (fd:FuncData),PySem.W.noTabs (K w.params)=true /\ (∀ t∈tabs,∃ y∈names,PySem.W.tabIn (K w.params) y=some t) /\ (∀ (s:Shared) (u:Value),BindsTo s fd ⟨[u],[]⟩ [(x,u)]) /\
    ∀ base:Heap,(K w.params).In base->base.Ns mainGlobals mg->(∀ t∈tabs,PySem.W.CodeHd base t.1 t.2)->ZEa mg base->FnOk l.prog w (K w.params) mg base CX0 k fa fd [x] (ZFO (K w.params) tabs)) :
  PySem.W.WalkO q loose XP YP l.row.toRowW d [] (fun f vs=>PySem.call f vs):=by
 refine Att.attach_call hn hdf fun w s₀ s₁ mg mb fa o pm cd doc a vs ns G Y ho hd hcd hmg hobj hints hlen hg=>?_
 have KX:=hY w _ Y
 obtain ⟨tabs,fd,nt,ht,hb,hF⟩:=F w mg fa _ KX G.T.g hmg
 refine law_callT (tabs:=tabs) KX G.T.g G.T.b G.T.builtins G.T.nolimit hg hobj hints (yAP hlen (by decide)) hr (fun t h2=>?_) nt G.T.bmain hF hb (fun H hO hS=>⟨a,ns,rfl,hS,hlen,hO,fun _=>rfl⟩) fun H e s' z=>z
 obtain ⟨y,hy,e2⟩:=ht t h2
 obtain ⟨dr,e1⟩:=hrec y hy
 exact PySem.W.tab_of G.T KX e1 e2
theorem hix_of {ix:List Nat} {ps fr:List Str} (h:ix.map (fun i=>ps[i]?)=fr.map some):∀ (j:Nat) (y:Str),fr[j]?=some y->∃ i,ix[j]?=some i /\ ps[i]?=some y:=fun j y e=>by
 have:=congrArg (fun l=>l[j]?) h
 simp only [yAW,e,yCC] at this
 cases q:ix[j]? with
 | none=>rw [q] at this;cases this
 | some i=>rw [q] at this;exact ⟨i,rfl,by simpa using this⟩
def inBody (s:Stmt) (j:Nat):Stmt:=(ZAJ s).getD j (.Pass ⟨0,0,0,0⟩)
def ZEY (s:Stmt):Pos:=match s with
 | .FunctionDef _ _ _ _ _ _ _ _ _ pos=>pos
 | _=>⟨0,0,0,0⟩
theorem cx_cloK {P:Program} {w:World} {K:W.Frag} {mg:Str->Option Value} {base:Heap} {N:List Str} {qual:Str} {scope:Scope} {f:Addr} {cd:Value} {cl:List (Str×Addr)} {A:Around} {outer:List Env} {s:Shared} {H:Hp}:(ZFE P w K mg base N qual scope f cd cl A outer s H).K=K:=rfl
section
variable {prog:Program} {w:World} {A:Around} {R:Result->Shared->Prop} {I:Addr} {fp wr:List Addr} {n:Nat} {P:Nat->Value->Prop} {St:Nat->Heap->Prop}
end
section
variable {prog:Program} {w:World} {A:Around} {E:Value->Shared->Prop} {s:Shared} {l:Addr}
end
def maxD (d:Int):List Int->Int
 | []=>d
 | x::r=>r.foldl (fun m y=>if m < y then y else m) x
section
variable {X:Cx} {e d:Expr} {te td:TE} {p pos:Pos} {kpos:Pos}
def tMaxD (K:W.Frag) (te td:TE):TE:=fun σ H Q=>te σ H fun x H1=>td σ H1 fun y H2=>∃ a ns dd,x=.ref a /\ y=.int dd /\ SqL K H2 a (ns.map V.int) /\ Q (.int (maxD dd ns)) H2
end
theorem lkc {k k':Str} {v:V} {r:List (Str×V)}:List.lookup k ((k',v)::r)=if k=k' then some v else List.lookup k r:=by
 rw [yCB]
 by_cases h:k=k'
 .subst h;simp
 .have:(k == k')=false:=by simpa using h
  rw [this,if_neg h]
theorem ZB1 {f:Str} {v u:V}:∀ {fs:List (Str×V)},fs.lookup f=some u->(putF f v fs).length=fs.length
 | [],h=>by cases h
 | (g,w)::r,h=>by
  unfold putF
  by_cases e:g=f
  .rw [if_pos e];rfl
  .rw [if_neg e,yAG,yAG]
   rw [lkc,if_neg (fun z=>e z.symm)] at h
   rw [ZB1 h]
structure Ins (H:Hp) (a C:Addr) (fl:List (Str×V)):Prop where
 ex:∃ dx fs,H a=some (.ins C dx fs) /\ fs.length <= 50 /\ ∀ f,fs.lookup f=fl.lookup f
theorem Ins.of {H:Hp} {a C dx:Addr} {fl:List (Str×V)} (h:H a=some (.ins C dx fl)) (hl:fl.length <= 50):Ins H a C fl:=⟨dx,fl,h,hl,fun _=>rfl⟩
theorem Ins.congr {H:Hp} {a C:Addr} {fl fl':List (Str×V)} (h:Ins H a C fl) (e:∀ f,fl.lookup f=fl'.lookup f):Ins H a C fl':=let ⟨dx,fs,h1,h2,h3⟩:=h.ex;⟨dx,fs,h1,h2,fun f=>(h3 f).trans (e f)⟩
theorem Ins.mono {H H':Hp} {a C:Addr} {fl:List (Str×V)} (h:Ins H a C fl) (s:Same H H'):Ins H' a C fl:=let ⟨dx,fs,h1,h2,h3⟩:=h.ex;⟨dx,fs,s _ _ h1,h2,h3⟩
theorem Ins.keep {H H':Hp} {a C:Addr} {fl:List (Str×V)} (h:Ins H a C fl) (s:H' a=H a):Ins H' a C fl:=let ⟨dx,fs,h1,h2,h3⟩:=h.ex;⟨dx,fs,s.trans h1,h2,h3⟩
theorem Ins.ne {H:Hp} {a b C:Addr} {fl:List (Str×V)} {o:HO} (h:Ins H a C fl) (hb:H b=some o) (n:∀ C dx fs,o≠.ins C dx fs):b≠a:=fun z=>by
 obtain ⟨dx,fs,h1,_⟩:=h.ex
 rw [z,h1] at hb
 exact n _ _ _ (Option.some.inj hb).symm
theorem Ins.neN {H:Hp} {a b C:Addr} {fl:List (Str×V)} (h:Ins H a C fl) (hb:H b=none):b≠a:=fun z=>by
 obtain ⟨dx,fs,h1,_⟩:=h.ex
 rw [z,h1] at hb;cases hb
section
variable {K:W.Frag} {f:Str} {a C:Addr} {fl:List (Str×V)} {v:V} {H:Hp}
theorem Ins.get {Q:VK} (h:Ins H a C fl) (cl:Cls K C) (n:NoAttr K C f) (l:fl.lookup f=some v) (q:Q v H):getF K f (.ref a) H Q:=by
 obtain ⟨dx,fs,h1,h2,h3⟩:=h.ex
 exact getF_of h1 cl n ((h3 f).trans l) q
theorem Ins.set {Q:Hp->Prop} (h:Ins H a C fl) (cl:Cls K C) (n:NoAttr K C f) (q:∀ H',Ins H' a C (putF f v fl)->(∀ b,b≠a->H' b=H b)->Q H') (hl:∃ u,fl.lookup f=some u):setF K f (.ref a) v H Q:=by
 obtain ⟨dx,fs,h1,h2,h3⟩:=h.ex
 obtain ⟨u,hu⟩:=hl
 refine setF_of h1 cl n (by omega) (q _ ⟨dx,_,ZAF,?_,fun g=>?_⟩ fun b hb=>ZAI hb)
 .rw [ZB1 ((h3 f).trans hu)];exact h2
 .rw [ZAj,ZAj,h3]
theorem Ins.meth {m:Str} {R:Prop} (h:Ins H a C fl) (l:fl.lookup m=none) (q:R):∃ b dx fs,V.ref a=.ref b /\ H b=some (.ins C dx fs) /\ fs.lookup m=none /\ R:=by
 obtain ⟨dx,fs,h1,h2,h3⟩:=h.ex
 exact ⟨a,dx,fs,rfl,h1,(h3 m).trans l,q⟩
end
def augA (K:W.Frag) (tv:TE) (rd:V->V->Hp->VK->Prop) (f:Str) (D:Ends) (σ:St) (x:V) (H1:Hp):Prop:=∃ a C dx fs v,x=.ref a /\ H1 a=some (.ins C dx fs) /\ Cls K C /\ NoAttr K C f /\ fs.lookup f=some v /\
 tv σ H1 fun y H2=>rd v y H2 fun z H3=>∃ dx' fs',H3 a=some (.ins C dx' fs') /\ fs'.length < 1000 /\ D.nx σ (upd H3 a (.ins C dx' (putF f z fs')))
theorem sFldAug_eq {K:W.Frag} {ta tv:TE} {rd:V->V->Hp->VK->Prop} {f:Str} {D:Ends} {σ:St} {H:Hp}:sFldAug K ta tv rd f D σ H=ta σ H (fun x H1=>augA K tv rd f D σ x H1):=rfl
theorem Ins.aug {K:W.Frag} {f:Str} {a C:Addr} {fl:List (Str×V)} {i j:Int} {H:Hp} {D:Ends} {σ:St} (h:Ins H a C fl) (cl:Cls K C) (n:NoAttr K C f) (l:fl.lookup f=some (.int i))
  (q:∀ H',Ins H' a C (putF f (.int (i+j)) fl)->(∀ b,b≠a->H' b=H b)->D.nx σ H'):augA K (tC (.int j)) rAdd f D σ (.ref a) H:=by
 obtain ⟨dx,fs,h1,h2,h3⟩:=h.ex
 refine ⟨a,C,dx,fs,_,rfl,h1,cl,n,(h3 f).trans l,i,j,rfl,rfl,dx,fs,h1,by omega,q _ ⟨dx,_,ZAF,?_,fun g=>?_⟩ fun b hb=>ZAI hb⟩
 .rw [ZB1 ((h3 f).trans l)];exact h2
 .rw [ZAj,ZAj,h3]
theorem setX {K:W.Frag} {f:Str} {a C dx:Addr} {fs:List (Str×V)} {v:V} {H:Hp} {Q:Hp->Prop} (h:H a=some (.ins C dx fs)) (cl:Cls K C) (n:NoAttr K C f) (hl:fs.length <= 20) (q:∀ H',H' a=some (.ins C dx (putF f v fs))->(∀ b,b≠a->H' b=H b)->Q H'):setF K f (.ref a) v H Q :=
 setF_of h cl n (by omega) (q _ ZAF fun b hb=>ZAI hb)
theorem ZAU {f:Str} {v:V} {fs:List (Str×V)} {n:Nat} (h:fs.length <= n):(putF f v fs).length <= n+1:=yAP (ZCo f v fs) (Nat.succ_le_succ h)
theorem ZFm {f0:Str} {v0:V}:(putF f0 v0 []).length <= 20:=yAP (ZAU (yAA 0)) (by decide)
theorem ZFl {f0 f1:Str} {v0 v1:V}:(putF f1 v1 (putF f0 v0 [])).length <= 20:=yAP (ZAU (ZAU (yAA 0))) (by decide)
theorem ZFk {f0 f1 f2:Str} {v0 v1 v2:V}:(putF f2 v2 (putF f1 v1 (putF f0 v0 []))).length <= 20:=yAP (ZAU (ZAU (ZAU (yAA 0)))) (by decide)
theorem ZF2 {f0 f1 f2 f3:Str} {v0 v1 v2 v3:V}:(putF f3 v3 (putF f2 v2 (putF f1 v1 (putF f0 v0 [])))).length <= 20:=yAP (ZAU (ZAU (ZAU (ZAU (yAA 0))))) (by decide)
theorem putL5 {f0 f1 f2 f3 f4:Str} {v0 v1 v2 v3 v4:V}:(putF f4 v4 (putF f3 v3 (putF f2 v2 (putF f1 v1 (putF f0 v0 []))))).length <= 20:=yAP (ZAU (ZAU (ZAU (ZAU (ZAU (yAA 0)))))) (by decide)
theorem putL6 {f0 f1 f2 f3 f4 f5:Str} {v0 v1 v2 v3 v4 v5:V}:(putF f5 v5 (putF f4 v4 (putF f3 v3 (putF f2 v2 (putF f1 v1 (putF f0 v0 [])))))).length <= 20:=yAP (ZAU (ZAU (ZAU (ZAU (ZAU (ZAU (yAA 0))))))) (by decide)
theorem putL7 {f0 f1 f2 f3 f4 f5 f6:Str} {v0 v1 v2 v3 v4 v5 v6:V}:(putF f6 v6 (putF f5 v5 (putF f4 v4 (putF f3 v3 (putF f2 v2 (putF f1 v1 (putF f0 v0 []))))))).length <= 20:=yAP (ZAU (ZAU (ZAU (ZAU (ZAU (ZAU (ZAU (yAA 0)))))))) (by decide)
theorem putL8 {f0 f1 f2 f3 f4 f5 f6 f7:Str} {v0 v1 v2 v3 v4 v5 v6 v7:V}:(putF f7 v7 (putF f6 v6 (putF f5 v5 (putF f4 v4 (putF f3 v3 (putF f2 v2 (putF f1 v1 (putF f0 v0 [])))))))).length <= 20:=yAP (ZAU (ZAU (ZAU (ZAU (ZAU (ZAU (ZAU (ZAU (yAA 0))))))))) (by decide)
theorem mx_eq (p q:Int):(if q > p then q else p)=max p q:=by split <;> omega
theorem ZFa (p q:Int):(if q < p then q else p)=min p q:=by split <;> omega
section
variable {X:Cx}
end
theorem ZCq {us ds:List Value} {ps:List Str} {n:Nat} (h:(us++ds).length=ps.length) (e:n+ds.length=ps.length):us.length=n:=by
 rw [yAD] at h;omega
def Fr (S:List Addr) (H H':Hp):Prop:=∀ b o,b∉S->H b=some o->H' b=some o
theorem Fr.refl {S:List Addr} {H:Hp}:Fr S H H:=fun _ _ _ h=>h
theorem Fr.trans {S:List Addr} {H H' H'':Hp} (e:Fr S H H') (f:Fr S H' H''):Fr S H H'':=fun b o n h=>f b o n (e b o n h)
theorem Same.fr {S:List Addr} {H H':Hp} (e:Same H H'):Fr S H H':=fun b o _ h=>e b o h
theorem Fr.upd {S:List Addr} {H:Hp} {l:Addr} {o:HO} (h:l∈S):Fr S H (upd H l o):=fun b o' n e=>by
 have z:b≠l:=fun z=>n (by rw [z];exact h)
 rw [ZAI z];exact e
end L2
namespace PySem
namespace F
end F
section
variable {prog:Program} {w:World} {A:Around} {s:Shared} {R:Result->Shared->Prop}
variable {I:Addr} {fp wr:List Addr} {G:Array GenState->Array GenState->Prop} {n:Nat} {P:Nat->Value->Prop} {St:Nat->Shared->Prop}
end
section
variable {prog:Program} {w:World} {A:Around} {E:Value->Shared->Prop} {s:Shared}
variable {I:Addr} {fp wr:List Addr} {G:Array GenState->Array GenState->Prop} {n:Nat} {P:Nat->Value->Prop} {St:Nat->Shared->Prop}
end
end PySem
namespace L2
open PySem PySem.Spec PyProof.Rows
def tRevL (K:W.Frag) (t:TA):TE:=fun σ H Q=>t σ H fun vs H1=>∃ (l:Addr) (ys:List V),vs=[.ref l] /\ SqL K H1 l ys /\ ∀ r,H1 r=none->Q (.ref r) (upd H1 r (.lst ys.reverse))
section
variable {X:Cx} {e:Expr} {ta:TA} {p p2 pos pos2:Pos}
end
theorem neD_refl {K:W.Frag} {H:Hp} {x y:V} {d:PyData} {Q:VK} (hx:Dp K H d x) (hy:Dp K H d y) (hc:d.canLay0=true) (hd:d.depth <= 64) (q:Q (.bl false) H):rNeD K x y H Q :=
 ⟨d,d,hx,hy,hc,hc,hd,by rw [PySem.SeqAt.eqv_refl d hc];exact q⟩
def compR2 (g:TG) (tt:TT) (te:TE) (σ0:St) (Q:VK) (x y:V) (H1:Hp):Prop:=∃ i j:Int,[x,y]=[.int i,.int j] /\ (-(2 ^ 62) <= i /\ i < 2 ^ 62 /\ -(2 ^ 62) <= j /\ j < 2 ^ 62) /\ compR i g tt te σ0 Q (j-i).toNat H1
theorem tCompR2_eq {k:Nat} {js:List Nat} {t u:TE} {g:TG} {tt:TT} {te:TE} {σ:St} {H:Hp} {Q:VK}:ZES k js (ZF5 (ZB9 t (ZB9 u tNil))) g tt te σ H Q=t σ H (fun x H1=>u σ H1 fun y H2=>compR2 g tt te (up k js σ) Q x y H2):=rfl
section
variable {X:Cx}
end
def Itz (K:W.Frag) (a b:Addr):It :=
 ⟨fun i H=>∃ xs x ys y,SqL K H a xs /\ xs[i]?=some x /\ SqL K H b ys /\ ys[i]?=some y,fun i H v H'=>∃ p x y,H p=none /\ (∀ xs,SqL K H a xs->xs[i]?=some x) /\ (∀ ys,SqL K H b ys->ys[i]?=some y) /\ H'=upd H p (.tup [x,y]) /\ v=.ref p,fun i H=>∃ xs ys,SqL K H a xs /\ SqL K H b ys /\ (xs.length <= i∨ys.length <= i)⟩
section
variable {X:Cx}
def iZip (K:W.Frag) (ta:TA):TI:=fun σ H R=>ta σ H fun vs H1=>∃ a b,vs=[.ref a,.ref b] /\ (∃ xs,SqL K H1 a xs) /\ (∃ xs,SqL K H1 b xs) /\ R (Itz K a b) H1
theorem zneN {a b:Nat} (h:a≠b):(a:Addr)≠b:=h
end
section
variable {K:W.Frag} {a b:Addr} {xs ys:List V} {g:TG} {tb:TS} {D:Ends} {σ:St} {H:Hp}
def forZ (K:W.Frag) (g:TG) (tb:TS) (D:Ends) (σ:St) (x y:V) (H1:Hp):Prop:=∃ a b,[x,y]=[.ref a,.ref b] /\ (∃ xs,SqL K H1 a xs) /\ (∃ xs,SqL K H1 b xs) /\ ∃ W:Nat->Nat->St->Hp->Prop,(∃ m,W 0 m σ H1) /\ ∀ i m σ H,W i m σ H ->
 ((Itz K a b).stop i H /\ D.nx σ H)∨((Itz K a b).go i H /\ ∃ N:St->Hp->Prop,(∀ σ' H',N σ' H'->∃ m',m' < m /\ W (i+1) m' σ' H') /\ ∀ x H',(Itz K a b).yld i H x H'->g x σ H' fun σ2 H2=>tb { D with nx:=N,ct:=N,bk:=D.nx } σ2 H2)
theorem tForZ_eq {t u:TE}:tFor (iZip K (ZB9 t (ZB9 u tNil))) g tb D σ H=t σ H (fun x H1=>u σ H1 fun y H2=>forZ K g tb D σ x y H2):=rfl
end
section
open PySem.SeqAt
open PySem.AutoSeq1 (wpAny_loadPart')
open PySem.MeetsSeq PySem.MeetsSeq2 PySem.MeetsSeq3 HT
end
section
variable {prog:Program} {w:World} {A:Around} {E:Value->Shared->Prop} {s:Shared}
end
section
variable {X:Cx}
end
theorem rcGt_int (A:Around) (s:Shared) (a:Int) (t:Tok) (c:Int) (u:Tok) (prog:Program) (w:World) (E:Value->Shared->Prop) (Q:Value->Shared->Prop) (h:Q (.bool (decide (c < a))) s) :
  wpAny (model prog w) A (richCompare .Gt (.int a t) (.int c u)) Q E s :=
 (PyProof.Rows.gt_int h:wpAny (model prog w) A (compareOp .Gt (.int a t) (.int c u)) Q E s)
section
open PySem.SeqAt
open PySem.AutoSeq1 (wpAny_loadPart')
open PySem.MeetsSeq PySem.MeetsSeq2 PySem.MeetsSeq3 HT
theorem tuple_gt_ints (l b:Addr) (items items2:Array Value) (n n2:Nat) (dd dd2:Option Addr) (sl sl2:Array (Option Value)) (ns ms:List Int) (hi:IntsAre items.toList ns) (hj:IntsAre items2.toList ms) :
  Meets (Builtin.«tuple.__gt__» ⟨[.ref l,.ref b],[]⟩)
   (fun _ R s=>s.heap.get? l=some { cls:=.type "tuple",dict:=dd,data:=.seq items n,slots:=sl } /\ s.heap.get? b=some { cls:=.type "tuple",dict:=dd2,data:=.seq items2 n2,slots:=sl2 } /\
    R (.ok (.ret (.bool (lexLt ms ns)))) s) :=
 .of_wp fun prog w A R s h=>by
  obtain ⟨hp,g,d,tk,os⟩:=s;obtain ⟨hl,hb,h⟩:=h
  have f2:=AutoSeq1.sub_tuple_tuple
  have z1:items.size=ns.length:=by rw [<- hi.length];simp
  have z2:items2.size=ms.length:=by rw [<- hj.length];simp
  wp_walk using wpAny_loadPart' hl,wpAny_loadPart' hb,wpAny_forIn_list _ (fun rest b s'=>b.1=none /\ s'=⟨hp,g,d,tk,os⟩ /\ ∃ (vs ws:List Value) (ns' ms':List Int),rest=vs.zip ws /\
   IntsAre vs ns' /\ IntsAre ws ms' /\ ns'.length+items2.size=ms'.length+items.size /\ R (.ok (.ret (.bool (lexLt ms' ns')))) ⟨hp,g,d,tk,os⟩) _
  case turn=>
   rintro ⟨y,x⟩ rest b s' ⟨hb',rfl,vs,ws,ns',ms',hz,hvi,hwi,hlen,hR⟩
   cases hvi with
   | nil=>rw [List.zip_nil_left] at hz;cases hz
   | cons a t hvi'=>
    cases hwi with
    | nil=>rw [List.zip_nil_right] at hz;cases hz
    | cons c u hwi'=>
     rw [List.zip_cons_cons] at hz
     injection hz with hyx hrest
     injection hyx with hy hx
     subst hy hx
     rw [lexLt_cons] at hR
     simp only [yAG] at hlen
     obtain ⟨e,he,hiff⟩:=eqAt_int A.in1 ⟨hp,g,d,tk,os⟩ a t c u
     refine wpAny_bind (he prog w _ _ ?_)
     cases e with
     | true=>
      rw [if_pos (hiff.mp rfl).symm] at hR
      wp_walk
      exact ⟨rfl,rfl,_,_,_,_,hrest,hvi',hwi',by omega,hR⟩
     | false=>
      rw [if_neg (fun q=>absurd (hiff.mpr q.symm) yBE)] at hR
      have hri:=rcGt_int A.in1 ⟨hp,g,d,tk,os⟩ a t c u prog w
      wp_walk using hri
      exact ⟨_,rfl,by simpa using hR⟩
  case fin=>
   rintro ⟨b1,b2⟩ s' ⟨hb',rfl,vs,ws,ns',ms',hz,hvi,hwi,hlen,hR⟩
   simp only at hb'
   subst hb'
   have hv:(lexLt ms' ns')=decide (items.size > items2.size):=by
    cases hvi with
    | nil=>
     cases hwi with
     | nil=>
      simp only [yBT] at hlen
      rw [lexLt_nil_nil]
      exact (decide_eq_false (by omega)).symm
     | cons c u hw=>
      simp only [yBT,yAG] at hlen
      rw [lexLt_cons_nil]
      exact (decide_eq_false (by omega)).symm
    | cons a t hv=>
     cases hwi with
     | nil=>
      simp only [yBT,yAG] at hlen
      rw [lexLt_nil_cons]
      exact (decide_eq_true (by omega)).symm
     | cons c u hw=>
      rw [List.zip_cons_cons] at hz
      cases hz
   rw [hv] at hR
   wp_walk
   exact ⟨_,rfl,by simpa [Builtin.Tuple.tupleCompareSizes] using hR⟩
  case h=>
   exact ⟨rfl,rfl,items.toList,items2.toList,ns,ms,rfl,hi,hj,by omega,h⟩
end
section
variable {prog:Program} {w:World} {A:Around} {E:Value->Shared->Prop} {s:Shared}
theorem gt_tupInts {l b:Addr} {items items2:Array Value} {ns ms:List Int} {Q:Value->Shared->Prop} (hl:IsTup s.heap l items) (hb:IsTup s.heap b items2) (hi:IntsAre items.toList ns) (hj:IntsAre items2.toList ms)
  (hu:A.units < cLine) (h:Q (.bool (HT.lexLt ms ns)) s):wpAny (model prog w) A (compareOp .Gt (.ref l) (.ref b)) Q E s:=by
 obtain ⟨⟨cls,dd,data,sl⟩,ho,hc,n,hd⟩:=id hl
 obtain ⟨⟨cls2,dd2,data2,sl2⟩,ho2,hc2,n2,hd2⟩:=id hb
 simp only at hc hd hc2 hd2
 subst hc hd hc2 hd2
 exact richCompare_meets_room (op:=.Gt) ⟨_,ho,rfl⟩ ⟨_,ho2,rfl⟩ PySem.F.slot_tuple_gt PySem.F.entry_tuple_gt (PySem.F.args_tuple_gt_2 _ _) (tuple_gt_ints l b items items2 n n2 dd dd2 sl sl2 ns ms hi hj)
  ⟨ho,ho2,show Value.bool (HT.lexLt ms ns)≠Value.notImplemented /\ Q (.bool (HT.lexLt ms ns)) s from ⟨(fun x=>nomatch x),h⟩⟩ hu
end
section
variable {X:Cx}
def rGtT (K:W.Frag):R2:=fun x y H Q=>∃ (a b:Addr) (ns ms:List Int),x=.ref a /\ y=.ref b /\ SqT K H a (ns.map V.int) /\ SqT K H b (ms.map V.int) /\ Q (.bl (HT.lexLt ms ns)) H
theorem op_gtT (hu:X.A.units+64 < cLine):OpR X (compareOp .Gt) (rGtT X.K):=by
 intro pins s σ H x y v u Q I rx ry h
 obtain ⟨a,b,ns,ms,rfl,rfl,ha,hb,q⟩:=h
 cases rx
 cases ry
 obtain ⟨its,r1,p1,_⟩:=I.tuple ha
 obtain ⟨its2,r2,p2,_⟩:=I.tuple hb
 have i1:IntsAre its.toArray.toList ns:=ZB7 r1
 have i2:IntsAre its2.toArray.toList ms:=ZB7 r2
 exact gt_tupInts p1 p2 i1 i2 (by omega) ⟨.bl (HT.lexLt ms ns),H,I,rfl,q⟩
end
open PySem
def gK21 (d:V) (vs zs:List V):List V:=match vs,zs with
 | [a,b],[c]=>[a,b,d,c]
 | _,_=>[]
def gU21 (d:Value) (vs zs:List Value):List Value:=match vs,zs with
 | [a,b],[c]=>[a,b,d,c]
 | _,_=>[]
def ZFI (C:Addr) (sp:Sp) (d:V) (E:XK) (t tk:TA):TE:=fun σ H Q=>t σ H fun vs H1=>tk σ H1 fun zs H2=>∀ x dx,H2 x=none->H2 dx=none->dx≠x ->
 sp (gK21 d (.ref x::vs) zs) (upd (upd H2 dx (.own x)) x (.ins C dx [])) (fun v H3=>v=.non /\ Q (.ref x) H3) E
structure KlK (P:Program) (w:World) (K:W.Frag) (mg:Str->Option Value) (base:Heap) (CX:CXT) (x:Str) (C:Addr) (k:Nat) (ps:List Str) (sp:Sp) (kn:Str) (d:V):Prop where
 mgC:mg x=some (.ref C)
 ex:∃ f fd dv,FnOk P w K mg base CX k f fd ps sp /\ KBinds K fd ps [kn] (gU21 dv) (gK21 d) /\ Mk K C f
theorem FunD.kbinds {K:W.Frag} {x qual:Str} {st:Stmt} {f:Addr} {fd:FuncData} {dv:List Value} {ps:List Str} {kn:Str} {d:Value} {dV:V} (F:FunD K x qual st f fd dv) (hd:RelV dV d) (hp:ps.length=4)
  (h:∀ (T:Addr) (kV doc pm:Value) (an:Option Addr) (cdv ct:Value) (a b c:Value),∃ k,bindArgs (W.fnOf x qual (ZAN st) (ZAJ st) (ZAC st) (.ref T) kV doc pm an cdv ct) ⟨[a,b],[(kn,c)]⟩=seqItems? (.ref T) >>= k /\ k (some dv.toArray)=pure (ps.zip [a,b,d,c])):KBinds K fd ps [kn] (gU21 d) (gK21 dV):=by
 obtain ⟨oc,od,T,kV,doc,pm,an,cdv,ct,osl,rfl,lk,hcd,o,n,hT,ho⟩:=F.ex
 refine ⟨fun s us ws KX hl=>?_,fun {vs us zs ws} r rz=>?_⟩
 .rw [hp] at hl
  match us,ws,hl with
  | [a,b],[c],_=>
   obtain ⟨k,h1,h2⟩:=h T kV doc pm an cdv ct a b c
   exact PySem.W.binds_K KX rfl hT ho h1 h2
  | [],_,z=>simp [gU21] at z
  | [_],_,z=>simp [gU21] at z
  | _::_::_::_,_,z=>simp [gU21] at z
  | [_,_],[],z=>simp [gU21] at z
  | [_,_],_::_::_,z=>simp [gU21] at z
 .cases r with
  | nil=>exact .nil
  | cons r1 r=>cases r with
   | nil=>exact .nil
   | cons r2 r=>cases r with
    | nil=>cases rz with
     | nil=>exact .nil
     | cons r3 rz=>cases rz with
      | nil=>exact .cons r1 (.cons r2 (.cons hd (.cons r3 .nil)))
      | cons r4 rz=>exact .nil
    | cons r3 r=>exact .nil
section
variable {X:Cx} {CX:CXT} {k:Nat} {f C:Addr} {fd:FuncData} {ps:List Str} {sp:Sp} {E:XK} {x kn:Str} {p pos kpos:Pos} {e:Expr} {es:List Expr} {kws:List Keyword} {t tk:TA} {dv:Value} {d:V}
theorem run_makeK {pins:List (Addr×Obj)} {σ:St} {H:Hp} {s:Shared} {Q:VK} {us ws:List Value} {vs zs:List V} (M:Mk X.K C f) (F:FnOk X.prog X.w X.K X.mg X.base CX k f fd ps sp) (hr:Room (k+1) X.A) (hb:KBinds X.K fd ps [kn] (gU21 dv) (gK21 d))
  (hx:ZBy CX X E) (I:Inv X pins σ H s) (r:Vals vs us) (rz:Vals zs ws)
  (h:∀ x dx,H x=none->H dx=none->dx≠x->sp (gK21 d (.ref x::vs) zs) (upd (upd H dx (.own x)) x (.ins C dx [])) (fun v H2=>v=.non /\ Q (.ref x) H2) E) :
  wpAny (model X.prog X.w) X.A (call (.ref C) us ([kn].zip ws)) (EP X pins σ Q) X.xe s:=by
 have hq:=h (s.heap.objs.size+1) s.heap.objs.size (I.hok.fresh (yBG _)) (I.hok.fresh (yAA _)) (yAO (yBR _))
 have I2:=Inv.made (C:=C) I
 have r1:Vals (V.ref (s.heap.objs.size+1)::vs) (Value.ref (s.heap.objs.size+1)::us):=.cons rfl r
 have r2:=hb.rel r1 rz
 have hl:(gU21 dv (Value.ref (s.heap.objs.size+1)::us) ws).length=ps.length:=by
  rw [<- r2.length];exact F.len _ _ _ _ hq
 refine wpAny_call (make_map (f:=f) I.kIn M.makes M.init (beq_iff_eq.mp M.fn) (codeAny_mono (F.run _ X.stack _ _ ⟨Value.ref (s.heap.objs.size+1)::us,[kn].zip ws⟩ (gU21 dv (Value.ref (s.heap.objs.size+1)::us) ws) _ _ E (hr.make C us ([kn].zip ws))
  (I2.env0.make C us ([kn].zip ws)) (hb.to _ (Value.ref (s.heap.objs.size+1)::us) ws I2.kIn hl) r2 hq) fun r s' hq'=>?_))
 cases r with
 | error e=>exact hx pins σ _ _ e s' I2 hq'
 | ok fl=>
  cases fl with
  | ret u=>
   obtain ⟨v,H',I3,rv,ev,q3⟩:=I2.after hq'
   subst ev
   exact ⟨rv,⟨V.ref (s.heap.objs.size+1),H',I3,rfl,q3⟩⟩
  | next=>exact False.elim hq'
  | brk=>exact False.elim hq'
  | cont=>exact False.elim hq'
theorem pe_mkK (F:KlK X.prog X.w X.K X.mg X.base CX x C k ps sp kn d) (hr:Room (k+1) X.A) (hg:Gl X x) (hx:ZBy CX X E)
  (ha:PA X (e::es) t) (hkw:PK X kws tk) (hall:(backToKw pos (keywordEach kws X.env)).all (·.1.isSome)=true:=by rfl) (hks:(backToKw pos (keywordEach kws X.env)).filterMap (·.1)=[kn]:=by rfl)
  (hdb:(x == ("__debug__":Str))=false:=by decide) (he:starEach (e::es) X.env=(false,eval e X.env)::starEach es X.env:=by rfl)
  (hpl:((backTo pos (starEach (e::es) X.env)).any (·.1) || (backToKw pos (keywordEach kws X.env)).any (·.1.isNone))=false:=by rfl) :
  PE X (.Call (.Name x p) (e::es) kws pos) (ZFI C sp d E t tk):=by
 obtain ⟨f,fd,dv,h1,h2,M⟩:=F.ex
 intro pins s σ H Q I h
 refine wpAny_Call_Name_kw (ZED I hg F.mgC ?_ hdb)
 refine PySem.W.callWith_KW (h₀:=X.base) I.ok.mod.kin M.kp hall (thn (ha pos pins s σ H _ I h) fun us s1 ⟨vs,H1,I1,r,q⟩=>?_) hpl he
 refine thn (hkw pos pins s1 σ H1 _ I1 q) fun ws s2 ⟨zs,H2,I2,rz,q2⟩=>⟨I2.kIn,?_⟩
 rw [hks]
 exact run_makeK M h1 hr h2 hx I2 r rz q2
end
section
variable {κ:Type} [DecidableEq κ]
def valV (kvs:List (κ×V)) (k:κ):Option V:=(kvs.find? fun kv=>decide (kv.1=k)).map (·.2)
def putK (kvs:List (κ×V)) (k:κ) (v:V):List (κ×V) :=
 if (kvs.any fun kv=>decide (kv.1=k))=true then kvs.map (fun kv=>if kv.1=k then (kv.1,v) else kv) else kvs++[(k,v)]
theorem valV_nil {k:κ}:valV ([]:List (κ×V)) k=none:=rfl
theorem ZBJ {p:κ×V} {r:List (κ×V)} {k:κ} (e:p.1=k):valV (p::r) k=some p.2:=by simp [valV,yCP,e]
theorem ZBK {p:κ×V} {r:List (κ×V)} {k:κ} (e:¬ p.1=k):valV (p::r) k=valV r k:=by simp [valV,yCP,e]
theorem ZDJ (k:κ):∀ kvs:List (κ×V),(kvs.any fun kv=>decide (kv.1=k))=(valV kvs k).isSome
 | []=>rfl
 | p::r=>by
  rw [List.any_cons]
  by_cases e:p.1=k
  .simp only [ZBJ e,decide_eq_true e,Bool.true_or,Option.isSome_some]
  .rw [ZBK e,decide_eq_false e,Bool.false_or];exact ZDJ k r
theorem valV_map (k j:κ) (y:V):∀ kvs:List (κ×V),valV (kvs.map fun kv=>if kv.1=k then (kv.1,y) else kv) j=(valV kvs j).map fun x=>if j=k then y else x
 | []=>rfl
 | p::r=>by
  have ih:=valV_map k j y r
  rw [yAX]
  by_cases h:p.1=k
  .rw [if_pos h]
   by_cases e:p.1=j
   .rw [ZBJ (p:=(p.1,y)) e,ZBJ e,yCC,if_pos (e.symm.trans h)]
   .rw [ZBK (p:=(p.1,y)) e,ZBK e,ih]
  .rw [if_neg h]
   by_cases e:p.1=j
   .rw [ZBJ (p:=p) e,ZBJ e,yCC,if_neg (fun z=>h (e.trans z))]
   .rw [ZBK (p:=p) e,ZBK e,ih]
theorem valV_snoc (k j:κ) (y:V):∀ kvs:List (κ×V),valV kvs k=none->valV (kvs++[(k,y)]) j=if j=k then some y else valV kvs j
 | [],_=>by
  by_cases e:k=j
  .rw [if_pos e.symm];exact ZBJ (p:=(k,y)) e
  .rw [if_neg (fun z=>e z.symm)];exact ZBK (p:=(k,y)) e
 | p::r,hn=>by
  rw [List.cons_append]
  have hk:¬ p.1=k:=fun z=>by rw [ZBJ z] at hn;cases hn
  rw [ZBK hk] at hn
  have ih:=valV_snoc k j y r hn
  by_cases e:p.1=j
  .rw [ZBJ e,ZBJ e,if_neg (fun z=>hk (e.trans z))]
  .rw [ZBK e,ZBK e,ih]
theorem valV_put (kvs:List (κ×V)) (k j:κ) (y:V):valV (putK kvs k y) j=if j=k then some y else valV kvs j:=by
 unfold putK
 by_cases a:(kvs.any fun kv=>decide (kv.1=k))=true
 .rw [if_pos a,valV_map]
  rw [ZDJ] at a
  by_cases e:j=k
  .obtain ⟨x,hx⟩:=Option.isSome_iff_exists.mp a
   rw [if_pos e,e,hx,yCC,if_pos rfl]
  .rw [if_neg e]
   cases valV kvs j with
   | none=>rfl
   | some x=>rw [yCC,if_neg e]
 .rw [if_neg a]
  refine valV_snoc k j y kvs ?_
  rw [ZDJ] at a
  cases q:valV kvs k with
  | none=>rfl
  | some x=>rw [q] at a;exact (a rfl).elim
theorem ZBn (kvs:List (κ×V)) (k:κ) (v:V):(putK kvs k v).length <= kvs.length+1:=by
 unfold putK
 split
 .rw [yAB];omega
 .rw [yAD,yAG,yBT];omega
theorem RelO.isSome_eq {o:Option V} {u:Option Value} (r:RelO o u):o.isSome=u.isSome:=by
 cases o with
 | none=>cases u with
  | none=>rfl
  | some _=>exact (show False from r).elim
 | some _=>cases u with
  | none=>exact (show False from r).elim
  | some _=>rfl
theorem KV.val {kvs:List (κ×V)} {vs:List (κ×Value)} (r:KV kvs vs) (k:κ):RelO (valV kvs k) (valueAt vs k):=by
 unfold KV at r
 induction r with
 | nil=>exact True.intro
 | @cons p q ps qs h t ih=>
  obtain ⟨h1,h2⟩:=h
  by_cases e:p.1=k
  .have e':q.1=k:=h1.symm.trans e
   have b:valueAt (q::qs) k=some q.2:=by simp [valueAt,yCP,e']
   rw [ZBJ e,b];exact h2
  .have e':¬ q.1=k:=fun z=>e (h1.trans z)
   have b:valueAt (q::qs) k=valueAt qs k:=by simp [valueAt,yCP,e']
   rw [ZBK e,b];exact ih
theorem KV.any {kvs:List (κ×V)} {vs:List (κ×Value)} (r:KV kvs vs) (k:κ):(kvs.any fun kv=>decide (kv.1=k))=vs.any fun kv=>decide (kv.1=k):=by
 unfold KV at r
 induction r with
 | nil=>rfl
 | cons h t ih=>rw [List.any_cons,List.any_cons,ih,h.1]
theorem KV.repl {kvs:List (κ×V)} {vs:List (κ×Value)} (r:KV kvs vs) (k:κ) {y:V} {u:Value} (ry:RelV y u) :
  KV (kvs.map fun kv=>if kv.1=k then (kv.1,y) else kv) (vs.map fun kv=>if kv.1=k then (kv.1,u) else kv):=by
 unfold KV at r ⊢
 induction r with
 | nil=>exact .nil
 | @cons p q ps qs h t ih=>
  rw [yAX,yAX]
  refine .cons ?_ ih
  obtain ⟨h1,h2⟩:=h
  by_cases e:p.1=k
  .rw [if_pos e,if_pos (h1.symm.trans e)];exact ⟨h1,ry⟩
  .rw [if_neg e,if_neg (fun z=>e (h1.trans z))];exact ⟨h1,h2⟩
theorem KV.put {kvs:List (κ×V)} {vs:List (κ×Value)} (r:KV kvs vs) (k:κ) {y:V} {u:Value} (ry:RelV y u):KV (putK kvs k y) (stored vs k u):=by
 unfold putK stored
 rw [r.any k]
 by_cases e:(vs.any fun kv=>decide (kv.1=k))=true
 .rw [if_pos e,if_pos e];exact r.repl k ry
 .rw [if_neg e,if_neg e];exact Paired.snoc r ⟨rfl,ry⟩
theorem KV.length {kvs:List (κ×V)} {vs:List (κ×Value)} (r:KV kvs vs):kvs.length=vs.length:=Paired.length r
end
theorem ZFp {P:Program} {w:World} {k:Key} {u:Value} (r:RelV (kV k) u):(ZA7 P w).is k u=true:=by
 cases k with
 | inl i=>obtain ⟨t,e⟩:=(show ∃ t,u=Value.int i t from r);subst e;exact mixKind_int P w i t
 | inr x=>obtain ⟨t,e⟩:=(show ∃ t,u=Value.str x t from r);subst e;exact mixKind_str P w x t
theorem items_are {P:Program} {w:World}:∀ {ks:List Key} {us:List Value},Vals (ks.map kV) us->ItemsAre (ZA7 P w) ks us
 | [],_,r=>by rw [List.map_nil] at r;cases r;exact .nil
 | k::ks,_,r=>by
  rw [yAX] at r
  cases r with
  | cons h t=>exact .cons (ZFp h) (items_are t)
abbrev KT (H:Hp):List (List Key×V)->List (List Key×Addr×Value)->Prop:=Paired fun p q=>p.1=q.1 /\ H q.2.1=some (.tup (p.1.map kV)) /\ RelV p.2 q.2.2
theorem KT.val {H:Hp} {kvs:List (List Key×V)} {xs:List (List Key×Addr×Value)} (r:KT H kvs xs) (k:List Key):RelO (valV kvs k) ((atKey xs k).map (·.2)):=by
 induction r with
 | nil=>exact True.intro
 | @cons p q ps qs h t ih=>
  obtain ⟨h1,_,h2⟩:=h
  by_cases e:p.1=k
  .have e':q.1=k:=h1.symm.trans e
   have b:atKey (q::qs) k=some q.2:=by simp [atKey,yCP,e']
   rw [ZBJ e,b];exact h2
  .have e':¬ q.1=k:=fun z=>e (h1.trans z)
   have b:atKey (q::qs) k=atKey qs k:=by simp [atKey,yCP,e']
   rw [ZBK e,b];exact ih
theorem KT.repl {H:Hp} {kvs:List (List Key×V)} {xs:List (List Key×Addr×Value)} (r:KT H kvs xs) (k:List Key) {y:V} {u:Value} (ry:RelV y u) :
  KT H (kvs.map fun kv=>if kv.1=k then (kv.1,y) else kv) (xs.map (putAt k u)):=by
 induction r with
 | nil=>exact .nil
 | @cons p q ps qs h t ih=>
  rw [yAX,yAX]
  refine .cons ?_ ih
  obtain ⟨h1,h2,h3⟩:=h
  unfold putAt
  by_cases e:p.1=k
  .rw [if_pos e,if_pos (h1.symm.trans e)];exact ⟨h1,h2,ry⟩
  .rw [if_neg e,if_neg (fun z=>e (h1.trans z))];exact ⟨h1,h2,h3⟩
theorem KT.put {H:Hp} {kvs:List (List Key×V)} {xs:List (List Key×Addr×Value)} (r:KT H kvs xs) (k:List Key) {b:Addr} {y:V} {u:Value} (hb:H b=some (.tup (k.map kV))) (ry:RelV y u) :
  KT H (putK kvs k y) (storedH xs k b u):=by
 have e:(kvs.any fun kv=>decide (kv.1=k))=(atKey xs k).isSome:=by
  rw [ZDJ,(r.val k).isSome_eq,Option.isSome_map]
 unfold putK storedH
 rw [e]
 by_cases q:(atKey xs k).isSome=true
 .rw [if_pos q,if_pos q];exact r.repl k ry
 .rw [if_neg q,if_neg q];exact Paired.snoc r ⟨rfl,hb,ry⟩
theorem KT.keeps {H H':Hp} {kvs:List (List Key×V)} {xs:List (List Key×Addr×Value)} (r:KT H kvs xs) (ht:∀ b ys,H b=some (.tup ys)->H' b=some (.tup ys)):KT H' kvs xs :=
 Paired.mapP r fun _ _ z=>⟨z.1,ht _ _ z.2.1,z.2.2⟩
section
variable {P:Program} {w:World} {H:Hp} {h:Heap} {a:Addr}
theorem rd_of {u:HO} (ok:HOk P w H h) (e:Rd H a u):ObjOk P w H h a u:=e.ok ok
theorem ZGC {kvs:List (Key×V)} (ok:HOk P w H h) (e:Rd H a (.dK kvs)):kvs.length <= sizeLine /\ (a == sysModules)=false /\ ∃ vs,KV kvs vs /\ h.DictOf (ZA7 P w) a vs :=
 show ObjOk P w H h a (.dK kvs) from rd_of ok e
theorem dk_of {kvs:List (Key×V)} (ok:HOk P w H h) (e:H a=some (.dK kvs)):kvs.length <= sizeLine /\ (a == sysModules)=false /\ ∃ vs,KV kvs vs /\ h.DictOf (ZA7 P w) a vs:=ZGC ok (.inl e)
theorem ZDq {ks:List Key} (ok:HOk P w H h) (e:H a=some (.tup (ks.map kV))):(tupleKind (ZA7 P w)).is h ks a:=by
 obtain ⟨_,its,r,o,h1,h2,n,h3⟩:=(show ObjOk P w H h a (.tup (ks.map kV)) from ok a _ e)
 exact ⟨o,its.toArray,n,h1,h2,h3,by simpa using items_are r⟩
theorem ZGB {kvs:List (List Key×V)} (ok:HOk P w H h) (e:Rd H a (.dT kvs)):kvs.length <= sizeLine /\ (a == sysModules)=false /\
  ∃ xs,KT H kvs xs /\ h.DictOfH (tupleKind (ZA7 P w)) a xs:=by
 obtain ⟨z,y,xs,r,o,es,ep,h1,h2,h3,h4,h5⟩:=(show ObjOk P w H h a (.dT kvs) from rd_of ok e)
 refine ⟨z,y,xs,r,o,es,ep,h1,h2,h3,h4,fun x hx=>?_,h5⟩
 have all:∀ {l:List (List Key×V)} {m:List (List Key×Addr×Value)},KT H l m->∀ x∈m,(tupleKind (ZA7 P w)).is h x.1 x.2.1:=by
  intro l m q
  induction q with
  | nil=>intro x hx;exact nomatch hx
  | @cons p q ps qs hq t ih=>
   intro x hx
   rcases yAE.mp hx with e | hx
   .subst e
    exact ZDq ok (by rw [<- hq.1];exact hq.2.1)
   .exact ih x hx
 exact all r x hx
theorem dt_of {kvs:List (List Key×V)} (ok:HOk P w H h) (e:H a=some (.dT kvs)):kvs.length <= sizeLine /\ (a == sysModules)=false /\
  ∃ xs,KT H kvs xs /\ h.DictOfH (tupleKind (ZA7 P w)) a xs:=ZGB ok (.inl e)
end
def DGet (H:Hp) (a:Addr) (y:V) (r:Option V):Prop :=
 (∃ kvs k,Rd H a (.dK kvs) /\ y=kV k /\ r=valV kvs k)∨∃ kvs k b,Rd H a (.dT kvs) /\ y=.ref b /\ H b=some (.tup (k.map kV)) /\ r=valV kvs k
def DPut (H:Hp) (a:Addr) (y v:V) (H':Hp):Prop :=
 (∃ kvs k,H a=some (.dK kvs) /\ y=kV k /\ kvs.length < sizeLine /\ H'=upd H a (.dK (putK kvs k v))) ∨
 ∃ kvs k b,H a=some (.dT kvs) /\ y=.ref b /\ H b=some (.tup (k.map kV)) /\ kvs.length < sizeLine /\ H'=upd H a (.dT (putK kvs k v))
theorem DGet.t {H:Hp} {a b:Addr} {kvs:List (List Key×V)} {k:List Key} (e:H a=some (.dT kvs)) (eb:H b=some (.tup (k.map kV))):DGet H a (.ref b) (valV kvs k):=.inr ⟨kvs,k,b,.inl e,rfl,eb,rfl⟩
theorem DPut.t {H:Hp} {a b:Addr} {kvs:List (List Key×V)} {k:List Key} {v:V} (e:H a=some (.dT kvs)) (eb:H b=some (.tup (k.map kV))) (hl:kvs.length < sizeLine) :
  DPut H a (.ref b) v (upd H a (.dT (putK kvs k v))):=.inr ⟨kvs,k,b,e,rfl,eb,hl,rfl⟩
section
variable {X:Cx} {pins:List (Addr×Obj)} {σ:St} {H:Hp} {s:Shared} {a:Addr} {y v:V} {u r:Value} {o:Option V} {A:Around} {E:Value->Shared->Prop}
theorem Inv.big (I:Inv X pins σ H s):sysModules < s.heap.objs.size:=by
 have h:mainGlobals < s.heap.objs.size:=(I.mod.glob.keeps I.bk).lt
 exact Nat.lt_trans (by decide) h
theorem d_in {Q:Value->Shared->Prop} (hu:A.units+1 < cLine) (I:Inv X pins σ H s) (g:DGet H a y o) (ry:RelV y u) (h:∀ s',Inv X pins σ H s'->Q (.bool o.isSome) s') :
  wpAny (model X.prog X.w) A (compareOp .In u (.ref a)) Q E s:=by
 rcases g with ⟨kvs,k,e,ey,l⟩ | ⟨kvs,k,b,e,ey,eb,l⟩
 .subst ey
  obtain ⟨z,hd,vs,rel,dd⟩:=ZGC I.hok e
  refine wpAny_in_of (ZFp ry) hd dd.mapOf ?_
  rw [<- (rel.val k).isSome_eq,<- l]
  exact h _ (I.tok _)
 .subst ey
  cases (show u=Value.ref b from ry)
  obtain ⟨z,hd,xs,rel,dd⟩:=ZGB I.hok e
  refine wpAny_in_heap (tupleKind_room_in1 hu) (ZDq I.hok eb) hd dd ?_
  have q:=(rel.val k).isSome_eq
  rw [Option.isSome_map] at q
  rw [<- q,<- l]
  exact h _ (I.tok _)
theorem d_notIn {Q:Value->Shared->Prop} (hu:A.units+1 < cLine) (I:Inv X pins σ H s) (g:DGet H a y o) (ry:RelV y u) (h:∀ s',Inv X pins σ H s'->Q (.bool (!o.isSome)) s') :
  wpAny (model X.prog X.w) A (compareOp .NotIn u (.ref a)) Q E s:=by
 rcases g with ⟨kvs,k,e,ey,l⟩ | ⟨kvs,k,b,e,ey,eb,l⟩
 .subst ey
  obtain ⟨z,hd,vs,rel,dd⟩:=ZGC I.hok e
  refine wpAny_notIn_of (ZFp ry) hd dd.mapOf ?_
  rw [<- (rel.val k).isSome_eq,<- l]
  exact h _ (I.tok _)
 .subst ey
  cases (show u=Value.ref b from ry)
  obtain ⟨z,hd,xs,rel,dd⟩:=ZGB I.hok e
  refine wpAny_notIn_heap (tupleKind_room_in1 hu) (ZDq I.hok eb) hd dd ?_
  have q:=(rel.val k).isSome_eq
  rw [Option.isSome_map] at q
  rw [<- q,<- l]
  exact h _ (I.tok _)
theorem d_write {h':Heap} {t':Nat} {ob:HO} (I:Inv X pins σ H s) (mu:Mut (H a)) (hs:Heap.SameBut a s.heap h') (he:∃ q,h'.get? a=some q) (new:ObjOk X.prog X.w (upd H a ob) h' a ob) :
  Inv X pins σ (upd H a ob) { s with heap:=h',toks:=t' } :=
 I.write (x:=a) (e:=a) mu (.inl rfl) (fun b q hb z=>(hs.2 b hb).trans z) he new
theorem dk_new {P:Program} {w:World} {H':Hp} {h':Heap} {kvs:List (Key×V)} {vs:List (Key×Value)} (z:kvs.length <= sizeLine) (hd:(a == sysModules)=false) (rel:KV kvs vs) (dd:h'.DictOf (ZA7 P w) a vs) :
  ObjOk P w H' h' a (.dK kvs):=⟨z,hd,vs,rel,dd⟩
theorem d_setItem {H':Hp} {Q:Unit->Shared->Prop} (hu:A.units+1 < cLine) (I:Inv X pins σ H s) (g:DPut H a y v H') (ry:RelV y u) (rv:RelV v r) (h:∀ s',Inv X pins σ H' s'->Q () s') :
  wpAny (model X.prog X.w) A (setItem (.ref a) u r) Q E s:=by
 rcases g with ⟨kvs,k,e,ey,l,eH⟩ | ⟨kvs,k,b,e,ey,eb,l,eH⟩
 .subst ey eH
  obtain ⟨z,hd,vs,rel,dd⟩:=dk_of I.hok e
  have hz:vs.length <= sizeLine:=by rw [<- rel.length];exact z
  have hl:(putK kvs k v).length <= sizeLine:=by have:=ZBn kvs k v;omega
  refine wpAny_setItem_pairs (hsz:=hz) (ZFp ry) dd fun h' dd' hs=>h _ ?_
  have he:∃ q,h'.get? a=some q:=let ⟨q,_,_,hq,_⟩:=dd';⟨q,hq⟩
  exact d_write I (by rw [e];exact True.intro) hs he (dk_new hl hd (rel.put k rv) dd')
 .subst ey eH
  cases (show u=Value.ref b from ry)
  obtain ⟨z,hd,xs,rel,dd⟩:=dt_of I.hok e
  have hz:xs.length <= sizeLine:=by rw [<- Paired.length rel];exact z
  have hl:(putK kvs k v).length <= sizeLine:=by have:=ZBn kvs k v;omega
  refine wpAny_setItem_heap (hsz:=hz) (tupleKind_room_in1 hu) (ZDq I.hok eb) dd fun h' dd' hs=>h _ ?_
  obtain ⟨q,es,ep,hq,h2,h3,h4,_,h5⟩:=dd'
  refine d_write I (by rw [e];exact True.intro) hs ⟨q,hq⟩ ⟨hl,hd,_,(rel.put k eb rv).keeps fun c ys ec=>?_,q,es,ep,hq,h2,h3,h4,h5⟩
  rw [ZAI (ne_of ec e (fun z=>nomatch z))]
  exact ec
end
section
variable {X:Cx} {pins:List (Addr×Obj)} {σ:St} {H:Hp} {s:Shared} {a:Addr} {kvs:List (Key×V)} {k:Key} {u:Value} {A:Around} {E:Value->Shared->Prop}
end
def tDGet (td ty:TE):TE:=fun σ H Q=>td σ H fun x H1=>ty σ H1 fun y H2=>∃ a v,x=.ref a /\ DGet H2 a y (some v) /\ Q v H2
def tDIn (ty td:TE):TE:=fun σ H Q=>ty σ H fun y H1=>td σ H1 fun x H2=>∃ a o,x=.ref a /\ DGet H2 a y o /\ Q (.bl o.isSome) H2
def ZEd (ty td:TE):TE:=fun σ H Q=>ty σ H fun y H1=>td σ H1 fun x H2=>∃ a o,x=.ref a /\ DGet H2 a y o /\ Q (.bl (!o.isSome)) H2
def ZF1 (td ty tv:TE):TS:=fun D σ H=>tv σ H fun v H1=>td σ H1 fun x H2=>ty σ H2 fun y H3=>∃ a H4,x=.ref a /\ DPut H3 a y v H4 /\ D.nx σ H4
section
variable {X:Cx} {o i e value:Expr} {pos pos' tpos:Pos} {td ty tv:TE}
theorem pc_din (hu:X.A.units+1 < cLine) (hi:PE X i ty) (ho:PE X o td):PC X .In i o (tDIn ty td):=by
 intro pins s σ H Q I h
 refine thn (hi pins s σ H _ I h) fun iv s1 ⟨y,H1,I1,ry,q1⟩=>thn (ho pins s1 σ H1 _ I1 q1) fun u s2 ⟨x,H2,I2,rx,a,ov,ex,g,q2⟩=>?_
 subst ex
 obtain rfl:u=Value.ref a:=rx
 exact d_in hu I2 g ry fun s3 I3=>⟨.bl ov.isSome,H2,I3,rfl,q2⟩
theorem pc_dnotin (hu:X.A.units+1 < cLine) (hi:PE X i ty) (ho:PE X o td):PC X .NotIn i o (ZEd ty td):=by
 intro pins s σ H Q I h
 refine thn (hi pins s σ H _ I h) fun iv s1 ⟨y,H1,I1,ry,q1⟩=>thn (ho pins s1 σ H1 _ I1 q1) fun u s2 ⟨x,H2,I2,rx,a,ov,ex,g,q2⟩=>?_
 subst ex
 obtain rfl:u=Value.ref a:=rx
 exact d_notIn hu I2 g ry fun s3 I3=>⟨.bl (!ov.isSome),H2,I3,rfl,q2⟩
theorem ps_dput (hu:X.A.units+1 < cLine) (ho:PE X o td) (hi:PE X i ty) (hv:PE X value tv) (hs:swapsWith value (some (.Subscript o i pos')) pos.line X.env=pure false) :
  PS X (.Assign [.Subscript o i pos'] value pos) (ZF1 td ty tv):=by
 intro pins s σ H D I h
 refine wpAny_Assign_Subscript (thn (hv pins s σ H _ I h) fun r s1 ⟨v,H1,I1,rv,q1⟩=>thn (ho pins s1 σ H1 _ I1 q1) fun u s2 ⟨x,H2,I2,rx,q2⟩=>thn (hi pins s2 σ H2 _ I2 q2) fun iv s3 ⟨y,H3,I3,ry,a,H4,ex,g,q3⟩=>?_) hs
 subst ex
 obtain rfl:u=Value.ref a:=rx
 exact d_setItem hu I3 g ry rv fun s4 I4=>⟨σ,H4,I4,q3⟩
end
theorem dt_empty {P:Program} {w:World} {H:Hp} (h:Heap) (hb:sysModules < h.objs.size):ObjOk P w H (h.push { cls:=.type "dict",data:=.dict #[] }) h.objs.size (.dT []) :=
 ⟨yAI _,beq_eq_false_iff_ne.mpr (Ne.symm (yAO hb)),[],.nil,_,#[],0,Heap.get?_push_size _ rfl,⟨rfl,rfl,rfl⟩,rfl,rfl,List.nodup_nil⟩
def tDNewK:TE:=fun _ H Q=>∀ p,H p=none->Q (.ref p) (upd H p (.dK []))
def ZFK:TE:=fun _ H Q=>∀ p,H p=none->Q (.ref p) (upd H p (.dT []))
section
variable {X:Cx} {pos:Pos}
theorem pe_dnewT:PE X (.Dict [] [] pos) ZFK:=fun pins s σ H Q I h=>
 wpAny_Dict_empty ⟨.ref s.heap.objs.size,_,I.laid (a:=s.heap.objs.size) (o:=.dT []) (t':=s.toks) (fun _ _ q=>Heap.get?_push_of_some _ q) (yAA _) (dt_empty s.heap I.big),rfl,h _ (I.hok.fresh (yAA _))⟩
end
theorem call_absI {X:Cx}:ZCM X (.builtin "abs") (fun xs H Q=>∃ i,xs=[.int i] /\ Q (.int (if i < 0 then -i else i)) H):=by
 intro pins s σ H xs us Q I r h
 obtain ⟨i,rfl,q⟩:=h
 obtain ⟨u,rfl,⟨t,rfl⟩⟩:=ZDS r
 exact PyProof.Rows.call_abs_int fun u tk=>⟨.int (if i < 0 then -i else i),H,I.tok _,⟨_,rfl⟩,q⟩
end L2
namespace PySem
open Sem (wp)
namespace F
theorem lk_list_keys:typeLookup (.type "list") "keys"=pure none:=by rw [typeLookup_type,builtinLookup_eq_fast];kernel_rfl
theorem lk_list_getattr:typeLookup (.type "list") "__getattr__"=pure none:=by rw [typeLookup_type,builtinLookup_eq_fast];kernel_rfl
theorem sub_ae:isSubtype (.type "AttributeError") (.type "AttributeError")=pure true:=by rw [isSubtype_type];kernel_rfl
end F
section
variable {α:Type} {prog:Program} {w:World} {A:Around} {E:Value->Shared->Prop} {s:Shared}
def NewX (h h':Heap) (e:Addr):Prop:=(∀ b u,h.get? b=some u->h'.get? b=some u) /\ ∃ ob,h'.get? e=some ob /\ ob.cls=.type "AttributeError"
theorem note_any {h:Heap} {g:Array GenState} {d:Drawn} {t:Nat} {os:OsState} {e:Addr} {v nm t0:Value} {Q:Unit->Shared->Prop} (he:h.get? e=some { cls:=.type "AttributeError",data:=.fields #[t0,.none,.none,.none,.bool false,.none,unsetMember,unsetMember] })
  (hq:Q () ⟨h.update e (Obj.mapFields fun vs=>vs.extract 0 6++#[nm,v]),g,d,t,os⟩):wpAny (model prog w) A (noteAttr (.ref e) v nm) Q E ⟨h,g,d,t,os⟩:=by
 have f1:=F.sub_ae
 have hT:(⟨h,g,d,t,os⟩:Shared).TypeIs (.ref e) "AttributeError":=⟨_,he,rfl⟩
 unfold noteAttr lacksNameAndObj
 refine wpAny_bind (wpAny_bind (wpAny_isInstance (b:=true) hT f1 ?_))
 refine wpAny_bind (wpAny_load he ?_)
 refine wpAny_of_eq (a:=true) (by kernel_rfl) ?_
 rw [if_pos rfl]
 refine wpAny_bind (wpAny_rule ?_)
 refine wpAny_bind (wpAny_typeOf hT ?_)
 show wpAny _ _ (layMembers e 6 #[nm,v]) _ _ _
 unfold layMembers
 refine wpAny_bind (wpAny_load he ?_)
 show wpAny _ _ (update e (Obj.mapFields fun vs=>vs.extract 0 6++#[nm,v])) _ _ _
 exact wpAny_update he hq
theorem raiseAttr_any {v:Value} {x msg:Str} {h:Heap} {g:Array GenState} {d:Drawn} {t:Nat} {os:OsState} {Q:α->Shared->Prop} (hh:A.handled=none) (hm:msg.length <= sizeLine)
  (hq:∀ h' t' e,NewX h h' e->E (.ref e) ⟨h',g,d,t',os⟩):wpAny (model prog w) A (raiseAttrError v x msg:Sem α) Q E ⟨h,g,d,t,os⟩:=by
 unfold raiseAttrError
 refine wpAny_bind (wpAny_mkStr (wpAny_bind ?_) hm)
 unfold newExc newTuple
 refine wpAny_bind (wpAny_newObj_type ?_)
 refine wpAny_bind (m:=firstArgMember _ _) (wpAny_of_eq (a:=Value.none) (by kernel_rfl) ?_)
 refine wpAny_newObj_type ?_
 have hk:∀ b u,h.get? b=some u->(h.push { cls:=.type "tuple",data:=.seq [Value.str msg t].toArray }).get? b=some u:=fun b u e=>Heap.get?_push_of_some _ e
 show wpAny (model prog w) A (do noteAttr (.ref (h.push { cls:=.type "tuple",data:=.seq [Value.str msg t].toArray }).objs.size) v (<- mkText x);raiseNew (.ref (h.push { cls:=.type "tuple",data:=.seq [Value.str msg t].toArray }).objs.size)) Q E ⟨(h.push { cls:=.type "tuple",data:=.seq [Value.str msg t].toArray }).push { cls:=.type "AttributeError",data:=.fields #[.ref h.objs.size,.none,.none,.none,.bool false,.none,unsetMember,unsetMember] },g,d,t+1,os⟩
 generalize (h.push { cls:=.type "tuple",data:=.seq [Value.str msg t].toArray })=h1 at hk ⊢
 have hk2:∀ b u,h.get? b=some u->(h1.push { cls:=.type "AttributeError",data:=.fields #[.ref h.objs.size,.none,.none,.none,.bool false,.none,unsetMember,unsetMember] }).get? b=some u:=fun b u e=>Heap.get?_push_of_some _ (hk b u e)
 have hlt:∀ b u,h.get? b=some u->b≠h1.objs.size:=fun b u e=>yAO (Heap.lt_size (hk b u e))
 have he:(h1.push { cls:=.type "AttributeError",data:=.fields #[.ref h.objs.size,.none,.none,.none,.bool false,.none,unsetMember,unsetMember] }).get? h1.objs.size=some { cls:=.type "AttributeError",data:=.fields #[.ref h.objs.size,.none,.none,.none,.bool false,.none,unsetMember,unsetMember] }:=Heap.get?_push_size _ rfl
 generalize h1.push { cls:=.type "AttributeError",data:=.fields #[.ref h.objs.size,.none,.none,.none,.bool false,.none,unsetMember,unsetMember] }=h2 at hk2 he ⊢
 generalize h1.objs.size=ea at hlt he ⊢
 refine wpAny_bind (wpAny_mkText ?_)
 refine wpAny_bind (note_any he ?_)
 unfold raiseNew
 refine wpAny_bind (wpAny_handled ?_)
 rw [hh]
 first
  | refine wpAny_throw ?_
  | refine wpAny_bind (wpAny_pure (wpAny_throw ?_))
 exact hq _ _ _ ⟨fun b u e=>(Heap.get?_update_other _ _ (Ne.symm (hlt b u e))).trans (hk2 b u e),_,Heap.get?_update_self _ he rfl,rfl⟩
end
section
variable {prog:Program} {w:World} {A:Around} {E:Value->Shared->Prop} {h:Heap} {g:Array GenState} {d:Drawn} {t:Nat} {os:OsState} {a:Addr} {its:Array Value} {n:Nat}
theorem nokeys_entry {tk:Tok} {Q:Fin->Shared->Prop} (hh:A.handled=none) (hx:h.get? a=some { cls:=.type "list",data:=.seq its n })
  (hq:∀ h' t' e,NewX h h' e->E (.ref e) ⟨h',g,d,t',os⟩) :
  wpAny (model prog w) A (Builtin.«object.__getattribute__» ⟨[.ref a,.str "keys" tk],[]⟩) Q E ⟨h,g,d,t,os⟩:=by
 have hT:(⟨h,g,d,t,os⟩:Shared).TypeIs (.ref a) "list":=⟨_,hx,rfl⟩
 have f4:=F.lk_list_keys
 repeat (any_goals (first | assumption | wp_step))
 exact raiseAttr_any hh (by decide +kernel) hq
theorem nokeys_call {tk:Tok} {R:Result->Shared->Prop} (hh:A.handled=none) (hx:h.get? a=some { cls:=.type "list",data:=.seq its n })
  (hq:∀ h' t' e,NewX h h' e->R (.error (.ref e)) ⟨h',g,d,t',os⟩) :
  codeAny (model prog w) A (.call (.builtin "list.__getattribute__") ⟨[.ref a,.str "keys" tk],[]⟩) R ⟨h,g,d,t,os⟩ :=
 codeAny_call_builtin F.slot_list_getattribute.plain F.entry_list_ga (F.slot_list_getattribute.check _ _ _ _ _ _ _ _ (show (⟨h,g,d,t,os⟩:Shared).TypeIs (.ref a) "list" from ⟨_,hx,rfl⟩) (F.args_list_getattribute_2 _ _) (nokeys_entry hh hx hq))
theorem nokeys_by {tk:Tok} {Q:Value->Shared->Prop} (hh:A.handled=none) (hx:h.get? a=some { cls:=.type "list",data:=.seq its n })
  (hq:∀ h' t' e,NewX h h' e->E (.ref e) ⟨h',g,d,t',os⟩):wpAny (model prog w) A (getAttrBy (.ref a) (.str "keys" tk) false) Q E ⟨h,g,d,t,os⟩:=by
 have hT:(⟨h,g,d,t,os⟩:Shared).TypeIs (.ref a) "list":=⟨_,hx,rfl⟩
 have f2:=F.slot_list_getattribute.lookup
 have f3:=F.slot_list_getattribute.bind (.ref a)
 have f5:=F.lk_list_getattr
 have f6:=F.sub_ae
 repeat (any_goals (first | assumption | wp_step))
 refine nokeys_call hh hx fun h' t' e hn=>?_
 obtain ⟨k,ob,he,hc⟩:=id hn
 show wpAny _ _ (getattributeRaised (Value.ref a) (Value.str (Str.ofString "keys") tk) (Value.type "list") (.ref e) none false false) _ _ _
 unfold getattributeRaised
 refine wpAny_bind (wpAny_isInstance (b:=true) (show (⟨h',g,d,t',os⟩:Shared).TypeIs (.ref e) "AttributeError" from ⟨_,he,hc⟩) f6 ?_)
 rw [if_pos rfl]
 refine wpAny_bind (m:=hookBehind _ _) (wpAny_of_eq (a:=none) f5 ?_)
 show wpAny _ _ (attributeErrorLeaves _ _ _ false false) _ _ _
 unfold attributeErrorLeaves
 dsimp only
 rw [if_pos (by decide)]
 exact wpAny_bind (wpAny_throw (hq _ _ _ hn))
theorem nokeys_attr {Q:Option Value->Shared->Prop} (hh:A.handled=none) (hx:h.get? a=some { cls:=.type "list",data:=.seq its n })
  (hq:∀ h' t',(∀ b u,h.get? b=some u->h'.get? b=some u)->Q none ⟨h',g,d,t',os⟩):wpAny (model prog w) A (getAttr? (.ref a) "keys") Q E ⟨h,g,d,t,os⟩:=by
 have f6:=F.sub_ae
 unfold getAttr? getAttrBy?
 refine wpAny_bind (wpAny_mkText ?_)
 refine wpAny_bind (wpAny_attempt ?_)
 refine nokeys_by hh hx fun h' t' e hn=>?_
 obtain ⟨k,ob,he,hc⟩:=id hn
 show wpAny _ _ (do if <- isInstance (.ref e) (.type "AttributeError") then pure none else throw (.ref e)) _ _ _
 refine wpAny_bind (wpAny_isInstance (b:=true) (show (⟨h',g,d,t',os⟩:Shared).TypeIs (.ref e) "AttributeError" from ⟨_,he,hc⟩) f6 ?_)
 rw [if_pos rfl]
 exact wpAny_pure (hq _ _ k)
end
end PySem
namespace PySem
namespace F
theorem entry_upd_loop:entryFor table "dict.update.loop"=some Builtin.«dict.update.loop»:=entryFor_of_tree (by kernel_rfl)
theorem plain_upd_loop:plainId "dict.update.loop"=true:=by decide +kernel
end F
end PySem
namespace L2
open PySem PySem.Spec PyProof.Rows
theorem key_mono {P:Program} {w:World} {h h':Heap} {ks:List Key} {a:Addr} (m:∀ b o,h.get? b=some o->h'.get? b=some o) (k:(tupleKind (ZA7 P w)).is h ks a):(tupleKind (ZA7 P w)).is h' ks a:=by
 obtain ⟨o,its,n,h1,r⟩:=k
 exact ⟨o,its,n,m _ _ h1,r⟩
theorem KT.is {P:Program} {w:World} {H:Hp} {h:Heap} (ok:HOk P w H h):∀ {l:List (List Key×V)} {m:List (List Key×Addr×Value)},KT H l m->∀ x∈m,(tupleKind (ZA7 P w)).is h x.1 x.2.1:=by
 intro l m q
 induction q with
 | nil=>intro x hx;exact nomatch hx
 | @cons p q ps qs hq t ih=>
  intro x hx
  rcases yAE.mp hx with e | hx
  .subst e
   exact ZDq ok (by rw [<- hq.1];exact hq.2.1)
  .exact ih x hx
abbrev PQ:=Addr×Addr×List Key×V
def ZCI (m:List (List Key×V)) (ps:List PQ):List (List Key×V):=ps.foldl (fun m q=>putK m q.2.2.1 q.2.2.2) m
theorem putAll_len:∀ (ps:List PQ) (m:List (List Key×V)),(ZCI m ps).length <= m.length+ps.length
 | [],m=>yAA _
 | q::r,m=>by
  have:=putAll_len r (putK m q.2.2.1 q.2.2.2)
  have h2:=ZBn m q.2.2.1 q.2.2.2
  show (ZCI (putK m q.2.2.1 q.2.2.2) r).length <= _
  rw [yAG];omega
section
variable {X:Cx} {pins:List (Addr×Obj)} {σ:St} {H:Hp} {s1:Shared} {A:Around}
def Lp (X:Cx) (H:Hp) (s1 s:Shared) (d:Addr) (kvs:List (List Key×V)):Prop :=
 (∀ b o,s1.heap.get? b=some o->s.heap.get? b=some o) /\ s={ s1 with heap:=s.heap,toks:=s.toks } /\ ∃ xs,KT H kvs xs /\ s.heap.DictOfH (tupleKind (ZA7 X.prog X.w)) d xs
theorem dict_loop {R:Result->Shared->Prop} (I1:Inv X pins σ H s1) (hh:A.handled=none) (hu:A.units+1 < cLine) {I l d:Addr} {its:List Value} {ps:List PQ} (hps:Vals (ps.map fun q=>V.ref q.1) its)
  (hp:∀ q∈ps,H q.1=some (.tup [.ref q.2.1,q.2.2.2]) /\ H q.2.1=some (.tup (q.2.2.1.map kV))) (hz:ps.length <= sizeLine) (hlI:l≠I) (hdI:d≠I) (hld:l≠d) (nI:s1.heap.get? I=none) (nd:s1.heap.get? d=none) :
  ∀ (k i:Nat) (s:Shared) (kvs:List (List Key×V)),ps.length-i=k->i <= ps.length->kvs.length <= i->(s.heap.IsListIter I l i /\ s.heap.IsList l its.toArray)->Lp X H s1 s d kvs ->
  (∀ s',Lp X H s1 s' d (ZCI kvs (ps.drop i))->R (.ok (.ret .none)) s') ->
  codeAny (model X.prog X.w) A (.builtin "dict.update.loop" ⟨[.ref d,.ref I,rawInt i,.none],[]⟩) R s:=by
 have W:=Walks.list (prog:=X.prog) (w:=X.w) (A:=A.in1) hh I l hlI its.toArray
 have hn:its.toArray.size=ps.length:=by rw [yAT,<- hps.length,yAB]
 rw [hn] at W
 have mv:∀ {s:Shared} {h':Heap} {tk:Nat} {kvs:List (List Key×V)},Lp X H s1 s d kvs->(∀ b o,b∉[I]->s.heap.get? b=some o->h'.get? b=some o)->Lp X H s1 { s with heap:=h',toks:=tk } d kvs:=by
  rintro s h' tk kvs ⟨p,e,xs,kt,o,es,ep,h1,h2,h3,h4,h5,h6⟩ m
  have p':∀ b o,s1.heap.get? b=some o->h'.get? b=some o:=fun b o hb=>m b o (fun z=>by rw [yAM.mp z,nI] at hb;cases hb) (p b o hb)
  exact ⟨p',by rw [e],xs,kt,o,es,ep,m d o (fun z=>hdI (yAM.mp z)) h1,h2,h3,h4,fun x hx=>key_mono p' (KT.is I1.hok kt x hx),h6⟩
 intro k
 induction k with
 | zero=>
  intro i s kvs hk hi hkv hst hL hR
  have hin:i=ps.length:=by omega
  subst hin
  refine codeAny_builtin F.entry_upd_loop ?_
  rw [Around.under_plainId F.plain_upd_loop _]
  show wpAny _ A.in1 (pyNext (.ref I) >>= _) _ _ s
  refine wpAny_bind (W.done s _ _ hst fun h' tk m=>?_)
  show wpAny _ A.in1 (Builtin.Dict.addKeywords d [] >>= fun _=>ret .none) _ _ _
  refine wpAny_bind (wpAny_pure (wpAny_pure ?_))
  refine hR _ ?_
  rw [yBY (yAA _)]
  exact mv hL m
 | succ k ih=>
  intro i s kvs hk hi hkv hst hL hR
  have hlt:i < ps.length:=by omega
  refine codeAny_builtin F.entry_upd_loop ?_
  rw [Around.under_plainId F.plain_upd_loop _]
  show wpAny _ A.in1 (pyNext (.ref I) >>= _) _ _ s
  refine wpAny_bind (W.item i s _ _ hlt hst fun v h' tk hP hst' m=>?_)
  have hL':=mv (tk:=tk) hL m
  obtain ⟨q,hq⟩:∃ q,ps[i]?=some q:=⟨_,yAJ hlt⟩
  obtain ⟨u,hu1,ru⟩:=hps.get (show (ps.map fun q=>V.ref q.1)[i]?=some (V.ref q.1) by rw [yAW,hq];rfl)
  have hv:v=u:=by
   rw [<- yBH] at hP
   rw [hu1] at hP
   exact (Option.some.inj hP).symm
  subst hv
  cases (show v=Value.ref q.1 from ru)
  obtain ⟨ht,hkq⟩:=hp q (yAK hq)
  obtain ⟨pz,pe,xs,kt,hdd⟩:=hL'
  obtain ⟨_,its2,r2,o2,g1,g2,n2,g3⟩:=(show ObjOk X.prog X.w H s1.heap q.1 (.tup [.ref q.2.1,q.2.2.2]) from I1.hok q.1 _ ht)
  obtain ⟨u1,u2,rfl,rb,rv⟩:∃ u1 u2,its2=[u1,u2] /\ RelV (.ref q.2.1) u1 /\ RelV q.2.2.2 u2:=by
   cases r2 with
   | cons p q=>
    cases q with
    | cons p' q'=>
     cases q'
     exact ⟨_,_,rfl,p,p'⟩
  cases (show u1=Value.ref q.2.1 from rb)
  dsimp only
  refine wpAny_bind (wpAny_holding (wpAny_bind (wpAny_tryCatch ?_)))
  unfold Builtin.Dict.pairItems
  refine wpAny_bind (wpAny_typeOf (show Shared.TypeIs _ _ "tuple" from ⟨o2,pz _ _ g1,g2⟩) ?_)
  rw [if_pos (by decide)]
  refine wpAny_bind (wpAny_seqItems (pz _ _ g1) g3 (wpAny_pure ?_))
  show wpAny _ A.in1 (holding [.ref q.2.1,u2] (dictSet d (.ref q.2.1) u2)) _ _ _
  have hxl:xs.length=kvs.length:=(Paired.length kt).symm
  refine wpAny_holding (wpAny_dictSet_heap (knd:=tupleKind (ZA7 X.prog X.w)) (tupleKind_room_in1 hu) (key_mono pz (ZDq I1.hok hkq)) hdd (fun h2 dd2 sb=>?_) (by omega))
  refine wpAny_pure ⟨plainId_quiet F.plain_upd_loop _,?_⟩
  have nb:∀ {b:Addr} {o:Obj},s1.heap.get? b=some o->b≠d:=fun hb z=>by rw [z,nd] at hb;cases hb
  refine ih (i+1) _ (putK kvs q.2.2.1 q.2.2.2) (by omega) hlt (yAP (ZBn _ _ _) (by omega)) (W.frame (i+1) h' h2 hst' fun b hb o e=>?_) ⟨fun b o hb=>(sb.2 b (nb hb)).trans (pz b o hb),by rw [hL.2.1],storedH xs q.2.2.1 q.2.1 u2,kt.put _ hkq rv,dd2⟩ fun s' hs'=>hR s' ?_
  .refine (sb.2 b fun z=>?_).trans e
   rcases yAE.mp hb with y | y
   .exact hdI (z.symm.trans y)
   .exact hld ((yAM.mp y).symm.trans z)
  .have e:ps.drop i=q::ps.drop (i+1):=by
    obtain ⟨h1,h2⟩:=yAH.mp hq
    rw [yBZ h1,h2]
   rw [e]
   exact hs'
theorem call_dictP (hc:X.calm=true) (hu:X.A.units+64 < cLine):ZCM X (.type "dict") (fun xs H Q=>∃ (p:Addr) (ps:List PQ),xs=[.ref p] /\ H p=some (.lst (ps.map fun q=>V.ref q.1)) /\ (∀ q∈ps,H q.1=some (.tup [.ref q.2.1,q.2.2.2]) /\ H q.2.1=some (.tup (q.2.2.1.map kV))) /\
  ∀ d,H d=none->Q (.ref d) (upd H d (.dT (ZCI [] ps)))):=by
 intro pins s σ H xs us Q I r h
 obtain ⟨p,ps,rfl,hpl,hps,q⟩:=h
 obtain ⟨u,rfl,rx⟩:=ZDS r
 cases rx
 obtain ⟨z,its,n,r',hl,e⟩:=I.lstM hpl
 rw [yAB] at z
 have hh:X.A.handled=none:=I.ok.hd hc
 refine callType_codes (Q₁:=fun obj s₁=>obj=.ref s.heap.objs.size /\ s₁={ s with heap:=s.heap.push { cls:=.type "dict",data:=.dict #[] } }) F.kt_called_dict (F.kt_typeCall_dict_1 _) F.entry_dict_init (kt_code_dict_new _ ⟨rfl,rfl⟩) ?_
 rintro obj s₁ ⟨rfl,rfl⟩
 have hdn:(s.heap.push { cls:=.type "dict",data:=.dict #[] }).get? s.heap.objs.size=some { cls:=.type "dict",data:=.dict #[] }:=Heap.get?_push_size _ rfl
 have hk1:∀ b o,s.heap.get? b=some o->(s.heap.push { cls:=.type "dict",data:=.dict #[] }).get? b=some o:=fun b o hb=>Heap.get?_push_of_some _ hb
 have hT:Shared.TypeIs { s with heap:=s.heap.push { cls:=.type "dict",data:=.dict #[] } } (.ref s.heap.objs.size) "dict":=⟨_,hdn,rfl⟩
 refine ⟨hT,F.args_dict_init_2 _ _,?_⟩
 unfold Builtin.«dict.__init__»
 refine wpAny_bind ?_
 unfold Builtin.Dict.selfAndRest
 refine wpAny_bind (wpAny_notOrdered_dict hT ?_)
 show wpAny _ _ (pure (s.heap.objs.size,[Value.ref p])) _ _ _
 refine wpAny_pure ?_
 show wpAny _ _ (Builtin.Dict.updateFrom "dict.__init__" s.heap.objs.size (.ref p) [] .none) _ _ _
 unfold Builtin.Dict.updateFrom
 refine wpAny_bind (wpAny_typeOf (show Shared.TypeIs _ (.ref p) "list" from ⟨_,hk1 _ _ e,rfl⟩) ?_)
 rw [if_pos (by decide)]
 refine wpAny_bind (nokeys_attr hh (hk1 _ _ e) fun h' t' k=>?_)
 rw [if_pos (by rfl)]
 refine wpAny_bind (wpAny_rule ?_)
 refine wpAny_bind (wpAny_pyIter_list (s:=⟨h',s.gens,s.drawn,t',s.os⟩) (items:=its.toArray) ⟨_,k _ _ (hk1 _ _ e),rfl,n,rfl⟩ ?_)
 have hkd:=k _ _ hdn
 have hlt:∀ b o,s.heap.get? b=some o->b≠s.heap.objs.size:=fun b o hb=>yAO (Heap.lt_size hb)
 have hlt2:∀ b o,h'.get? b=some o->b≠h'.objs.size:=fun b o hb=>yAO (Heap.lt_size hb)
 have nn:∀ {b:Addr},(∀ o,s.heap.get? b=some o->False)->s.heap.get? b=none:=fun {b} g=>by
  cases eb:s.heap.get? b with
  | none=>rfl
  | some o=>exact (g o eb).elim
 refine wpAny_pure ⟨plainId_quiet F.plain_upd_loop _,dict_loop (A:=X.A.in1) I hh (by show X.A.units+1+1 < cLine;omega) (l:=p) r' hps z (hlt2 _ _ (k _ _ (hk1 _ _ e))) (hlt2 _ _ hkd) (hlt _ _ e) (nn fun o ho=>hlt2 _ _ (k _ _ (hk1 _ _ ho)) rfl) (nn fun o ho=>hlt _ _ ho rfl) ps.length 0 _ [] rfl (yAI _) (yAA _) ⟨⟨_,Heap.get?_push_size _ rfl,rfl,rfl⟩,⟨_,Heap.get?_push_of_some _ (k _ _ (hk1 _ _ e)),rfl,n,rfl⟩⟩ ⟨fun b o hb=>Heap.get?_push_of_some _ (k _ _ (hk1 _ _ hb)),rfl,[],.nil,_,#[],0,Heap.get?_push_of_some _ hkd,⟨rfl,rfl,rfl⟩,rfl,rfl,⟨(fun x hx=>absurd hx yBL),List.nodup_nil⟩⟩ fun s' hs'=>⟨rfl,?_⟩⟩
 obtain ⟨pz,pe,xs,kt,o,es,ep,h1,h2,h3,h4,_,h6⟩:=hs'
 have hlen:(ZCI [] ps).length <= sizeLine:=yAP (putAll_len ps []) (by simpa using z)
 rw [pe]
 refine ⟨.ref s.heap.objs.size,_,I.laid (h':=s'.heap) (t':=s'.toks) (o:=.dT (ZCI [] ps)) pz (yAA _) ⟨hlen,?_,xs,kt.keeps fun c ys ec=>?_,o,es,ep,h1,h2,h3,h4,h6⟩,rfl,q _ (I.hok.fresh (yAA _))⟩
 .have:=I.big
  exact beq_eq_false_iff_ne.mpr (Nat.ne_of_gt this)
 .rw [ZAI (ZAE ec (I.hok.fresh (yAA _)))]
  exact ec
end
end L2
namespace PySem
abbrev IsZ (hp:Heap) (zo ti to:Addr) (f0 f1:Value):Prop :=
 hp.get? zo=some { cls:=.type "zip",dict:=none,data:=.fields #[f0,f1,.bool false,.ref ti,.ref to],slots:=#[] }
def F0 (f:Value):Prop:=f=.none∨∃ a t,f=.int a t
section
variable {prog:Program} {w:World} {A:Around} {E:Value->Shared->Prop} {s:Shared} {zo ti to:Addr} {f0 f1:Value}
theorem alive_any {a:Addr} {Q:Option Obj->Shared->Prop} (q:Q (s.heap.get? a) s):wpAny (model prog w) A (loadIfAlive a) Q E s:=fun Γ p hΓ=>by
 unfold loadIfAlive
 rw [Sem.wp_loadIfAlive]
 exact wpAny_pure (M:=model prog w) (A:=A) (E:=E) q Γ p hΓ
theorem zfree {Q:Bool->Shared->Prop} (hz:IsZ s.heap zo ti to f0 f1) (hf:F0 f0) (h1:Q true s) (h2:∀ hp g1,IsZ hp zo ti to f0 g1->Heap.SameBut zo s.heap hp->Q false { s with heap:=hp }) :
  wpAny (model prog w) A (Builtin.SmallTypes.ownedTupleIsFree (.ref zo)) Q E s:=by
 unfold Builtin.SmallTypes.ownedTupleIsFree
 refine wpAny_bind (wpAny_field hz rfl (x:=f0) rfl ?_)
 rcases hf with rfl | ⟨a,t,rfl⟩
 .exact wpAny_pure h1
 .dsimp only
  refine wpAny_bind (alive_any ?_)
  by_cases ha:(s.heap.get? a.toNat).isNone=true
  .rw [if_pos ha]
   exact wpAny_pure h1
  .rw [if_neg ha]
   refine wpAny_bind (wpAny_field hz rfl (x:=f1) rfl ?_)
   by_cases hb:(f1 != Value.bool true)=true
   .rw [if_pos hb]
    exact wpAny_bind (wpAny_setField_rec hz (by simp) fun hp hz2 hs2=>wpAny_pure (h2 hp _ hz2 hs2))
   .rw [if_neg hb]
    exact wpAny_pure (h2 s.heap f1 hz (Heap.SameBut.refl _ _))
theorem zipG_item {i1 i2 l1 l2:Addr} {k:Nat} {xs ys:Array Value} {x y c0 c1:Value} {Q:Value->Shared->Prop} (D:ZipApart zo ti to i1 i2 l1 l2)
  (qz:IsZ s.heap zo ti to f0 f1) (hf:F0 f0) (qT:IsPair s.heap ti (.ref i1) (.ref i2)) (qO:IsPair s.heap to c0 c1)
  (h1:s.heap.IsListIter i1 l1 k) (h2:s.heap.IsListIter i2 l2 k) (hl1:s.heap.IsList l1 xs) (hl2:s.heap.IsList l2 ys) (hx:xs[k]?=some x) (hy:ys[k]?=some y)
  (q:∀ (hp:Heap) (p:Addr) (g0 g1 d0 d1:Value),IsZ hp zo ti to g0 g1->F0 g0->IsPair hp to d0 d1->hp.IsListIter i1 l1 (k+1)->hp.IsListIter i2 l2 (k+1)->IsPair hp p x y->p=s.heap.objs.size->(∀ c o,c≠zo->c≠to->c≠i1->c≠i2->s.heap.get? c=some o->hp.get? c=some o)->Q (.ref p) { s with heap:=hp }) :
  wpAny (model prog w) A (Builtin.«zip.__next__» ⟨[.ref zo],[]⟩) (fun fin s'=>∃ v,fin=.done (.ret v) /\ Q v s') E s:=by
 show wpAny _ _ (field (.ref zo) 2 >>= _) _ _ _
 refine wpAny_bind (wpAny_field qz rfl (x:=.bool false) rfl ?_)
 show wpAny _ _ (field (.ref zo) 3 >>= _) _ _ _
 refine wpAny_bind (wpAny_field qz rfl (x:=.ref ti) rfl ?_)
 refine wpAny_bind (wpAny_seqItems qT rfl ?_)
 show wpAny _ _ (Builtin.SmallTypes.ownedTupleIsFree (.ref zo) >>= _) _ _ _
 refine wpAny_bind (zfree qz hf ?_ ?_)
 .simp only [if_true]
  refine wpAny_bind (wpAny_rule (wpAny_bind (wpAny_field qz rfl (x:=.ref to) rfl (wpAny_bind (wpAny_setField_rec qz (by simp) fun e1 z1 b1=>?_)))))
  replace z1:IsZ e1 zo ti to .ellipsis f1:=z1
  simp only [List.zipIdx_cons,List.zipIdx_nil,List.forIn_cons,yCK]
  refine wpAny_bind (wpAny_bind (wpAny_bind (wpAny_onRaise ?_)))
  show wpAny _ _ (Builtin.SmallTypes.nextOf (.ref i1) >>= fun v=>pure (some v)) _ _ _
  refine wpAny_bind (wpAny_nextOf_list_item (h1.extBut b1.extBut D.i1z) (hl1.extBut b1.extBut D.l1z) hx fun e2 t2 b2=>wpAny_pure ?_)
  have o2:IsPair e2 to c0 c1:=b2.extBut _ _ D.TOi1 (b1.extBut _ _ D.TOz qO)
  refine wpAny_bind (wpAny_seqItems o2 rfl (wpAny_bind (wpAny_updateSeq_pair o2 fun e3 o3 b3=>wpAny_bind (wpAny_letGo (wpAny_pure ?_)))))
  replace o3:IsPair e3 to x c1:=o3
  refine wpAny_bind (wpAny_bind (wpAny_onRaise ?_))
  show wpAny _ _ (Builtin.SmallTypes.nextOf (.ref i2) >>= fun v=>pure (some v)) _ _ _
  refine wpAny_bind (wpAny_nextOf_list_item (((h2.extBut b1.extBut D.i2z).extBut b2.extBut D.i12.symm).extBut b3.extBut D.TOi2.symm) (((hl2.extBut b1.extBut D.l2z).extBut b2.extBut D.l2i1).extBut b3.extBut D.l2TO) hy fun e4 t4 b4=>wpAny_pure ?_)
  have o4:IsPair e4 to x c1:=b4.extBut _ _ D.TOi2 o3
  refine wpAny_bind (wpAny_seqItems o4 rfl (wpAny_bind (wpAny_updateSeq_pair o4 fun e5 o5 b5=>wpAny_bind (wpAny_letGo (wpAny_pure (wpAny_pure ?_))))))
  replace o5:IsPair e5 to x y:=o5
  refine wpAny_bind (wpAny_seqItems o5 rfl (wpAny_bind (wpAny_newTuple ?_)))
  replace b2:Heap.SameBut i1 e1 e2:=b2
  replace b3:Heap.SameBut to e2 e3:=b3
  replace b4:Heap.SameBut i2 e3 e4:=b4
  replace b5:Heap.SameBut to e4 e5:=b5
  have sz:e5.objs.size=s.heap.objs.size:=by rw [b5.1,b4.1,b3.1,b2.1,b1.1]
  have z5:IsZ e5 zo ti to .ellipsis f1:=b5.extBut _ _ D.TOz.symm (b4.extBut _ _ D.i2z.symm (b3.extBut _ _ D.TOz.symm (b2.extBut _ _ D.i1z.symm z1)))
  have k5:∀ c o,c≠zo->c≠to->c≠i1->c≠i2->s.heap.get? c=some o->e5.get? c=some o:=fun c o n1 n2 n3 n4 e=>b5.extBut _ _ n2 (b4.extBut _ _ n4 (b3.extBut _ _ n2 (b2.extBut _ _ n3 (b1.extBut _ _ n1 e))))
  have t5:e5.IsListIter i1 l1 (k+1):=((t2.extBut b3.extBut D.TOi1.symm).extBut b4.extBut D.i12).extBut b5.extBut D.TOi1.symm
  have u5:e5.IsListIter i2 l2 (k+1):=t4.extBut b5.extBut D.TOi2.symm
  have lz:zo < e5.objs.size:=Heap.lt_size z5
  show wpAny _ _ (Builtin.SmallTypes.ownedTupleHandOut (.ref zo) (.ref e5.objs.size) >>= _) _ _ _
  refine wpAny_bind ?_
  unfold Builtin.SmallTypes.ownedTupleHandOut
  have z6:IsZ (e5.push { cls:=.type "tuple",data:=.seq #[x,y] }) zo ti to .ellipsis f1:=Heap.get?_push_of_some _ z5
  refine wpAny_bind (wpAny_setField_rec z6 (by simp) fun e7 z7 b7=>wpAny_setField_rec z7 (by simp) fun e8 z8 b8=>wpAny_pure ⟨_,rfl,?_⟩)
  replace z8:IsZ e8 zo ti to (rawInt e5.objs.size) (.bool false):=z8
  replace b7:Heap.SameBut zo (e5.push { cls:=.type "tuple",data:=.seq #[x,y] }) e7:=b7
  replace b8:Heap.SameBut zo e7 e8:=b8
  have up:∀ c o,c≠zo->e5.get? c=some o->e8.get? c=some o:=fun c o n e=>b8.extBut _ _ n (b7.extBut _ _ n (Heap.get?_push_of_some _ e))
  exact q e8 e5.objs.size _ _ x y z8 (.inr ⟨_,_,rfl⟩) (up _ _ D.TOz o5) (t5.at fun o e=>up _ o D.i1z e) (u5.at fun o e=>up _ o D.i2z e) (b8.extBut _ _ (Nat.ne_of_gt lz) (b7.extBut _ _ (Nat.ne_of_gt lz) (Heap.get?_push_size _ rfl))) sz fun c o n1 n2 n3 n4 e=>up c o n1 (k5 c o n1 n2 n3 n4 e)
 .intro hp g1 hz2 sb
  simp only [yCL,if_false]
  simp only [<- Array.forIn_toList,List.forIn_cons,yCK]
  refine wpAny_bind (wpAny_bind (wpAny_bind (wpAny_holding ?_)))
  show wpAny _ _ (Builtin.SmallTypes.nextOf (.ref i1) >>= fun v=>pure (some v)) _ _ _
  refine wpAny_bind (wpAny_nextOf_list_item (h1.extBut sb.extBut D.i1z) (hl1.extBut sb.extBut D.l1z) hx fun e2 t2 b2=>wpAny_pure (wpAny_pure ?_))
  replace b2:Heap.SameBut i1 hp e2:=b2
  refine wpAny_bind (wpAny_bind (wpAny_holding ?_))
  show wpAny _ _ (Builtin.SmallTypes.nextOf (.ref i2) >>= fun v=>pure (some v)) _ _ _
  refine wpAny_bind (wpAny_nextOf_list_item ((h2.extBut sb.extBut D.i2z).extBut b2.extBut D.i12.symm) ((hl2.extBut sb.extBut D.l2z).extBut b2.extBut D.l2i1) hy fun e4 t4 b4=>wpAny_pure (wpAny_pure (wpAny_pure ?_)))
  replace b4:Heap.SameBut i2 e2 e4:=b4
  show wpAny _ _ (newTuple [x,y] >>= fun r=>ret r) _ _ { s with heap:=e4 }
  refine wpAny_bind (wpAny_newTuple (wpAny_pure ⟨_,rfl,?_⟩))
  have pu:∀ c o,e4.get? c=some o->(e4.push { cls:=.type "tuple",data:=.seq #[x,y] }).get? c=some o:=fun c o e=>Heap.get?_push_of_some _ e
  have z4:IsZ e4 zo ti to f0 g1:=b4.extBut _ _ D.i2z.symm (b2.extBut _ _ D.i1z.symm hz2)
  have o4:IsPair e4 to c0 c1:=b4.extBut _ _ D.TOi2 (b2.extBut _ _ D.TOi1 (sb.extBut _ _ D.TOz qO))
  have sz:e4.objs.size=s.heap.objs.size:=by rw [b4.1,b2.1,sb.1]
  exact q (e4.push { cls:=.type "tuple",data:=.seq #[x,y] }) e4.objs.size f0 g1 c0 c1 (pu _ _ z4) hf (pu _ _ o4) ((t2.extBut b4.extBut D.i12).at fun o e=>pu _ o e) (t4.at fun o e=>pu _ o e) (Heap.get?_push_size _ rfl) sz fun c o n1 n2 n3 n4 e=>pu _ _ (b4.extBut _ _ n4 (b2.extBut _ _ n3 (sb.extBut _ _ n1 e)))
theorem zipG_end {i1 i2 l1 l2:Addr} {k:Nat} {xs ys:Array Value} {c0 c1:Value} {Q:Fin->Shared->Prop} (hh:A.handled=none) (D:ZipApart zo ti to i1 i2 l1 l2)
  (qz:IsZ s.heap zo ti to f0 f1) (hf:F0 f0) (qT:IsPair s.heap ti (.ref i1) (.ref i2)) (qO:IsPair s.heap to c0 c1)
  (h1:s.heap.IsListIter i1 l1 k) (h2:s.heap.IsListIter i2 l2 k) (hl1:s.heap.IsList l1 xs) (hl2:s.heap.IsList l2 ys) (he:xs[k]?=none∨ys[k]?=none)
  (q:∀ (hp:Heap) (e:Addr),(∀ c o,c≠zo->c≠to->c≠i1->c≠i2->s.heap.get? c=some o->hp.get? c=some o)->(∃ o,hp.get? e=some o /\ o.cls=.type "StopIteration")->E (.ref e) { s with heap:=hp }) :
  wpAny (model prog w) A (Builtin.«zip.__next__» ⟨[.ref zo],[]⟩) Q E s:=by
 show wpAny _ _ (field (.ref zo) 2 >>= _) _ _ _
 refine wpAny_bind (wpAny_field qz rfl (x:=.bool false) rfl ?_)
 show wpAny _ _ (field (.ref zo) 3 >>= _) _ _ _
 refine wpAny_bind (wpAny_field qz rfl (x:=.ref ti) rfl ?_)
 refine wpAny_bind (wpAny_seqItems qT rfl ?_)
 show wpAny _ _ (Builtin.SmallTypes.ownedTupleIsFree (.ref zo) >>= _) _ _ _
 refine wpAny_bind (zfree qz hf ?_ ?_)
 .simp only [if_true]
  refine wpAny_bind (wpAny_rule (wpAny_bind (wpAny_field qz rfl (x:=.ref to) rfl (wpAny_bind (wpAny_setField_rec qz (by simp) fun e1 z1 b1=>?_)))))
  replace z1:IsZ e1 zo ti to .ellipsis f1:=z1
  simp only [List.zipIdx_cons,List.zipIdx_nil,List.forIn_cons,yCK]
  refine wpAny_bind (wpAny_bind (wpAny_bind (wpAny_onRaise ?_)))
  show wpAny _ _ (Builtin.SmallTypes.nextOf (.ref i1) >>= fun v=>pure (some v)) _ _ _
  cases hx:xs[k]? with
  | none=>
   refine wpAny_bind (wpAny_nextOf_list_end hh (h1.extBut b1.extBut D.i1z) (hl1.extBut b1.extBut D.l1z) hx fun e2 e b2 ⟨oe,ho,hc⟩=>?_)
   have z2:IsZ e2 zo ti to .ellipsis f1:=b2 _ _ D.i1z.symm z1
   have ne:e≠zo:=fun z=>by subst z;rw [z2] at ho;cases ho;simp at hc
   exact wpAny_setField_rec z2 (by simp) fun e3 _ b3=>q e3 e (fun c o n1 _ n3 _ x=>b3.extBut _ _ n1 (b2 _ _ n3 (b1.extBut _ _ n1 x))) ⟨oe,b3.extBut _ _ ne ho,hc⟩
  | some x=>
   have hy:ys[k]?=none:=he.resolve_left (by rw [hx];simp)
   refine wpAny_bind (wpAny_nextOf_list_item (h1.extBut b1.extBut D.i1z) (hl1.extBut b1.extBut D.l1z) hx fun e2 t2 b2=>wpAny_pure ?_)
   have o2:IsPair e2 to c0 c1:=b2.extBut _ _ D.TOi1 (b1.extBut _ _ D.TOz qO)
   refine wpAny_bind (wpAny_seqItems o2 rfl (wpAny_bind (wpAny_updateSeq_pair o2 fun e3 o3 b3=>wpAny_bind (wpAny_letGo (wpAny_pure ?_)))))
   refine wpAny_bind (wpAny_bind (wpAny_onRaise ?_))
   show wpAny _ _ (Builtin.SmallTypes.nextOf (.ref i2) >>= fun v=>pure (some v)) _ _ _
   refine wpAny_bind (wpAny_nextOf_list_end hh (((h2.extBut b1.extBut D.i2z).extBut b2.extBut D.i12.symm).extBut b3.extBut D.TOi2.symm) (((hl2.extBut b1.extBut D.l2z).extBut b2.extBut D.l2i1).extBut b3.extBut D.l2TO) hy fun e4 e b4 ⟨oe,ho,hc⟩=>?_)
   have z4:IsZ e4 zo ti to .ellipsis f1:=b4 _ _ D.i2z.symm (b3.extBut _ _ D.TOz.symm (b2.extBut _ _ D.i1z.symm z1))
   have ne:e≠zo:=fun z=>by subst z;rw [z4] at ho;cases ho;simp at hc
   exact wpAny_setField_rec z4 (by simp) fun e5 _ b5=>q e5 e (fun c o n1 n2 n3 n4 x=>b5.extBut _ _ n1 (b4 _ _ n4 (b3.extBut _ _ n2 (b2.extBut _ _ n3 (b1.extBut _ _ n1 x))))) ⟨oe,b5.extBut _ _ ne ho,hc⟩
 .intro hp g1 hz2 sb
  simp only [yCL,if_false]
  simp only [<- Array.forIn_toList,List.forIn_cons,yCK]
  refine wpAny_bind (wpAny_bind (wpAny_bind (wpAny_holding ?_)))
  show wpAny _ _ (Builtin.SmallTypes.nextOf (.ref i1) >>= fun v=>pure (some v)) _ _ _
  cases hx:xs[k]? with
  | none=>
   exact wpAny_bind (wpAny_nextOf_list_end hh (h1.extBut sb.extBut D.i1z) (hl1.extBut sb.extBut D.l1z) hx fun e2 e b2 hoe=>q e2 e (fun c o n1 _ n3 _ x=>b2 _ _ n3 (sb.extBut _ _ n1 x)) hoe)
  | some x=>
   have hy:ys[k]?=none:=he.resolve_left (by rw [hx];simp)
   refine wpAny_bind (wpAny_nextOf_list_item (h1.extBut sb.extBut D.i1z) (hl1.extBut sb.extBut D.l1z) hx fun e2 t2 b2=>wpAny_pure (wpAny_pure ?_))
   replace b2:Heap.SameBut i1 hp e2:=b2
   refine wpAny_bind (wpAny_bind (wpAny_holding ?_))
   show wpAny _ _ (Builtin.SmallTypes.nextOf (.ref i2) >>= fun v=>pure (some v)) _ _ _
   exact wpAny_bind (wpAny_nextOf_list_end hh ((h2.extBut sb.extBut D.i2z).extBut b2.extBut D.i12.symm) ((hl2.extBut sb.extBut D.l2z).extBut b2.extBut D.l2i1) hy fun e4 e b4 hoe=>q e4 e (fun c o n1 _ n3 n4 x=>b4 _ _ n4 (b2.extBut _ _ n3 (sb.extBut _ _ n1 x))) hoe)
theorem zipG_next {i1 i2 l1 l2:Addr} {k:Nat} {xs ys:Array Value} {x y c0 c1:Value} {Q:Option Value->Shared->Prop} (D:ZipApart zo ti to i1 i2 l1 l2)
  (qz:IsZ s.heap zo ti to f0 f1) (hf:F0 f0) (qT:IsPair s.heap ti (.ref i1) (.ref i2)) (qO:IsPair s.heap to c0 c1)
  (h1:s.heap.IsListIter i1 l1 k) (h2:s.heap.IsListIter i2 l2 k) (hl1:s.heap.IsList l1 xs) (hl2:s.heap.IsList l2 ys) (hx:xs[k]?=some x) (hy:ys[k]?=some y)
  (q:∀ (hp:Heap) (p:Addr) (g0 g1 d0 d1:Value),IsZ hp zo ti to g0 g1->F0 g0->IsPair hp to d0 d1->hp.IsListIter i1 l1 (k+1)->hp.IsListIter i2 l2 (k+1)->IsPair hp p x y->p=s.heap.objs.size->(∀ c o,c≠zo->c≠to->c≠i1->c≠i2->s.heap.get? c=some o->hp.get? c=some o)->Q (some (.ref p)) { s with heap:=hp }) :
  wpAny (model prog w) A (pyNext (.ref zo)) Q E s:=by
 have tz:s.TypeIs (.ref zo) "zip":=⟨_,qz,rfl⟩
 unfold pyNext
 exact wpAny_bind (wpAny_attempt (wpAny_callSpecial?_slot (name:=Str.ofString "__next__") tz F.slot_zip_next (wpAny_call_entry F.slot_zip_next tz F.entry_zip_next (zipG_item D qz hf qT qO h1 h2 hl1 hl2 hx hy fun hp p g0 g1 d0 d1 a1 a2 a3 a4 a5 a6 a7 a8=>wpAny_pure (q hp p g0 g1 d0 d1 a1 a2 a3 a4 a5 a6 a7 a8)) (F.args_zip_next_1 _))))
theorem zipG_stop {i1 i2 l1 l2:Addr} {k:Nat} {xs ys:Array Value} {c0 c1:Value} {Q:Option Value->Shared->Prop} (hh:A.handled=none) (D:ZipApart zo ti to i1 i2 l1 l2)
  (qz:IsZ s.heap zo ti to f0 f1) (hf:F0 f0) (qT:IsPair s.heap ti (.ref i1) (.ref i2)) (qO:IsPair s.heap to c0 c1)
  (h1:s.heap.IsListIter i1 l1 k) (h2:s.heap.IsListIter i2 l2 k) (hl1:s.heap.IsList l1 xs) (hl2:s.heap.IsList l2 ys) (he:xs[k]?=none∨ys[k]?=none)
  (q:∀ hp:Heap,(∀ c o,c≠zo->c≠to->c≠i1->c≠i2->s.heap.get? c=some o->hp.get? c=some o)->Q none { s with heap:=hp }):wpAny (model prog w) A (pyNext (.ref zo)) Q E s:=by
 have tz:s.TypeIs (.ref zo) "zip":=⟨_,qz,rfl⟩
 unfold pyNext
 refine wpAny_bind (wpAny_attempt (wpAny_callSpecial?_slot (name:=Str.ofString "__next__") tz F.slot_zip_next (wpAny_call_entry F.slot_zip_next tz F.entry_zip_next (zipG_end hh D qz hf qT qO h1 h2 hl1 hl2 he fun hp e hk ⟨o,ho,hc⟩=>?_) (F.args_zip_next_1 _))))
 exact wpAny_bind (wpAny_isInstance (T:="StopIteration") (b:=true) ⟨o,ho,hc⟩ isSubtype_stop (wpAny_pure (q _ hk)))
theorem zipG_iter {Q:Value->Shared->Prop} (qz:IsZ s.heap zo ti to f0 f1) (h:Q (.ref zo) s):wpAny (model prog w) A (pyIter (.ref zo)) Q E s:=by
 have tz:s.TypeIs (.ref zo) "zip":=⟨_,qz,rfl⟩
 refine wpAny_pyIter_slot tz F.slot_zip_iter (wpAny_call_entry F.slot_zip_iter tz F.entry_zip_iter ?_ (F.args_zip_iter_1 _))
 show wpAny _ _ (ret (.ref zo)) _ _ s
 exact wpAny_pure ⟨_,rfl,"zip",_,tz,F.slot_zip_next.lookup,h⟩
end
end PySem
namespace L2
open PySem PySem.Spec PyProof.Rows
theorem turn_zipN {P:Program} {w:World} {K:W.Frag} {x:Str} {tpos:Pos} (a b z TI TO i1 i2:Addr) (D:ZipApart z TI TO i1 i2 a b):Turn P w K (.Name x tpos) (Itz K a b) [z,TI,TO,i1,i2] z (fun i h=>(∃ f0 f1,IsZ h z TI TO f0 f1 /\ F0 f0) /\ IsPair h TI (.ref i1) (.ref i2) /\ (∃ u v,IsPair h TO u v) /\ h.IsListIter i1 a i /\ h.IsListIter i2 b i) where
 mem:=by simp
 obj:=fun i h st c hc=>by
  obtain ⟨⟨f0,f1,hz,_⟩,hTI,⟨u,v,hTO⟩,⟨o1,e1,c1,d1⟩,⟨o2,e2,c2,d2⟩⟩:=st
  have hc':c=z∨c=TI∨c=TO∨c=i1∨c=i2:=by simpa using hc
  rcases hc' with rfl | rfl | rfl | rfl | rfl
  .exact ⟨_,hz,fun v z=>by cases z⟩
  .exact ⟨_,hTI,fun v z=>by cases z⟩
  .exact ⟨_,hTO,fun v z=>by cases z⟩
  .exact ⟨o1,e1,fun v z=>by rw [d1] at z;cases z⟩
  .exact ⟨o2,e2,fun v z=>by rw [d2] at z;cases z⟩
 keep:=fun i h h' st k=>by
  obtain ⟨⟨f0,f1,hz,hf⟩,hTI,⟨u,v,hTO⟩,h1,h2⟩:=st
  exact ⟨⟨f0,f1,k z (by simp) _ hz,hf⟩,k TI (by simp) _ hTI,⟨u,v,k TO (by simp) _ hTO⟩,h1.at fun o q=>k i1 (by simp) o q,h2.at fun o q=>k i2 (by simp) o q⟩
 item:=by
  intro X hP hw hK hc i pins s σ H E I hf st hg
  subst hP hw hK
  obtain ⟨xs,x,ys,y,hq,hx,hq',hy⟩:=hg
  obtain ⟨its,rv,p,hzz⟩:=I.list hq
  obtain ⟨u,hu,ru⟩:=rv.get hx
  obtain ⟨its',rv',p',hzz'⟩:=I.list hq'
  obtain ⟨u',hu',ru'⟩:=rv'.get hy
  obtain ⟨⟨f0,f1,hz,hF⟩,hTI,⟨ua,ub,hTO⟩,h1,h2⟩:=st
  refine zipG_next D hz hF hTI hTO h1 h2 p.isList p'.isList (x:=u) (y:=u') (by simpa using hu) (by simpa using hu') fun hp pa g0 g1 d0 d1 a1 a2 a3 a4 a5 a6 a7 hk=>⟨_,rfl,?_⟩
  subst a7
  show wpAny _ _ (pure ()) _ _ _
  refine wpAny_pure ?_
  have hnew:H s.heap.objs.size=none:=I.hok.fresh (yAA _)
  refine ⟨.ref s.heap.objs.size,upd H s.heap.objs.size (.tup [x,y]),I.turn2 (ch:=[z,TI,TO,i1,i2]) (t':=s.toks) hf (fun c ob hc q=>?_) (yAA _) ?_,rfl,⟨_,x,y,hnew,fun zs hz=>by rw [I.list_inj hz hq];exact hx,fun zs hz=>by rw [I.list_inj hz hq'];exact hy,rfl,rfl⟩,⟨⟨g0,g1,a1,a2⟩,hk _ _ D.TIz D.TITO D.TIi1 D.TIi2 hTI,⟨_,_,a3⟩,a4,a5⟩,fun c hc=>?_⟩
  .exact hk c ob (fun e=>hc (by simp [e])) (fun e=>hc (by simp [e])) (fun e=>hc (by simp [e])) (fun e=>hc (by simp [e])) q
  .exact ⟨ZAX (show 2 <= 1000 by decide),[u,u'],.cons ru (.cons ru' .nil),_,a6,rfl,0,rfl⟩
  .have hn:=(hf c hc).1
   have hc':c=z∨c=TI∨c=TO∨c=i1∨c=i2:=by simpa using hc
   obtain ⟨o1,g1,_⟩:=h1
   obtain ⟨o2,g2,_⟩:=h2
   have hlt:c < s.heap.objs.size:=by
    rcases hc' with rfl | rfl | rfl | rfl | rfl
    .exact Heap.lt_size hz
    .exact Heap.lt_size hTI
    .exact Heap.lt_size hTO
    .exact Heap.lt_size g1
    .exact Heap.lt_size g2
   rw [ZAI (yAO hlt)];exact hn
 done:=by
  intro X hP hw hK hc i pins s σ H E I hf st hg
  subst hP hw hK
  obtain ⟨xs,ys,hq,hq',hx⟩:=hg
  obtain ⟨its,rv,p,hzz⟩:=I.list hq
  obtain ⟨its',rv',p',hzz'⟩:=I.list hq'
  obtain ⟨⟨f0,f1,hz,hF⟩,hTI,⟨ua,ub,hTO⟩,h1,h2⟩:=st
  have hl:=rv.length
  have hl':=rv'.length
  refine zipG_stop (I.ok.hd hc) D hz hF hTI hTO h1 h2 p.isList p'.isList (hx.imp (fun z=>by rw [List.getElem?_toArray];exact yBI (by omega)) (fun z=>by rw [List.getElem?_toArray];exact yBI (by omega))) fun h' eb=>⟨rfl,?_⟩
  have tr:∀ c u,H c=some u->c∉[z,TI,TO,i1,i2]:=fun c u e q=>by rw [(hf c q).1] at e;cases e
  have k:∀ c ob,c∉[z,TI,TO,i1,i2]->s.heap.get? c=some ob->h'.get? c=some ob:=fun c ob n q=>eb c ob (fun e=>n (by simp [e])) (fun e=>n (by simp [e])) (fun e=>n (by simp [e])) (fun e=>n (by simp [e])) q
  refine I.call (g':=s.gens) (t':=s.toks) (d':=s.drawn) (ch:=[z,TI,TO,i1,i2]) ⟨fun b ob e n _ hx=>k b ob hx e,fun b ob e n _ hx=>⟨ob.slots,k b ob hx e⟩,fun b ob e n _=>n,fun b ob e hx=>⟨ob,k b ob hx e⟩,fun b xs e=>e,fun b ob u e=>e,fun b qs e=>⟨#[],by rw [e];simp⟩⟩ (fun b u e=>?_) I.bare fun b hb=>?_
  .refine (I.hok b u e).stay (fun c v hc q=>k c v ?_ q) (fun c q=>q) fun c xs q=>q
   rcases hc with z | z
   .rw [z];exact tr b u e
   .exact tr c _ z
  .obtain ⟨a1,a2,a3,a4,a5,a6⟩:=hf b hb
   exact ⟨a4,a2,a5,a6⟩
 self:=fun _ _ _ _ _ st h=>let ⟨⟨_,_,hz,_⟩,_⟩:=st;zipG_iter hz h
section
variable {X:Cx}
theorem pi_zipN {x:Str} {tpos:Pos} {l m:Expr} {ta:TA} {p pos:Pos} (hg:Gl X "zip") (hm:X.mg "zip"=none) (ha:PA X [l,m] ta)
  (he:starEach [l,m] X.env=(false,eval l X.env)::starEach [m] X.env:=by rfl) (hpl:(backTo pos (starEach [m] X.env)).any (·.1)=false:=by rfl) :
  PI X (.Name x tpos) (.Call (.Name "zip" p) [l,m] [] pos) (iZip X.K ta):=by
 intro pins s σ H R I h
 refine Call_ (ZDd I hg hm PyProof.Rows.boot_zip (PyProof.Rows.callWith_type1 (thn (ha pos pins s σ H _ I h) fun us s1 ⟨vs,H1,I1,r1,q1⟩=>?_) he hpl))
 obtain ⟨a,b,e,⟨xs,hq⟩,⟨ys,hq'⟩,q⟩:=q1
 subst e
 obtain ⟨u,u',rfl,ru,ru'⟩:=ZFF r1
 cases ru
 cases ru'
 obtain ⟨its,rv,pl,hz⟩:=I1.list hq
 obtain ⟨its',rv',pl',hz'⟩:=I1.list hq'
 have hla:a < s1.heap.objs.size:=by obtain ⟨o,ho,_⟩:=pl.isList;exact Heap.lt_size ho
 have hlb:b < s1.heap.objs.size:=by obtain ⟨o,ho,_⟩:=pl'.isList;exact Heap.lt_size ho
 have D:ZipApart (s1.heap.objs.size+4) (s1.heap.objs.size+2) (s1.heap.objs.size+3) s1.heap.objs.size (s1.heap.objs.size+1) a b:=by
  generalize s1.heap.objs.size=n at hla hlb ⊢
  have h1:LT.lt (α:=Nat) a n:=hla
  have h2:LT.lt (α:=Nat) b n:=hlb
  constructor <;> (refine zneN ?_;omega)
 refine call_zip_2 pl.isList pl'.isList fun h' z1 z2 z3 z4 z5 z6 hk=>wpAny_pyIter_zip z1 ?_
 have I2:Inv X pins σ H1 { s1 with heap:=h' }:=I1.kept (t':=s1.toks) hk
 refine ⟨s1.heap.objs.size+4,_,_,Itz X.K a b,H1,rfl,I2,turn_zipN a b _ _ _ _ _ D,⟨⟨_,_,z1,.inl rfl⟩,z2,⟨_,_,z3⟩,z4,z5⟩,fun c hc=>?_,q⟩
 have hc':c=s1.heap.objs.size+4∨c=s1.heap.objs.size+2∨c=s1.heap.objs.size+3∨c=s1.heap.objs.size∨c=s1.heap.objs.size+1:=by simpa using hc
 have hle:s1.heap.objs.size <= c:=by
  rcases hc' with rfl | rfl | rfl | rfl | rfl
  .exact yCM _ _
  .exact yCM _ _
  .exact yCM _ _
  .exact yAA _
  .exact yCM _ _
 exact I1.fpOk hle (I1.hok.fresh hle)
theorem call_maxT (hc:X.calm=true):ZCM X (.builtin "max") (fun xs H Q=>∃ (p:Addr) (ns:List Int),xs=[.ref p] /\ SqT X.K H p (ns.map V.int) /\ ns≠[] /\ ∀ M,M∈ns->(∀ a∈ns,a <= M)->Q (.int M) H):=by
 intro pins s σ H xs us Q I r h
 obtain ⟨p,ns,rfl,hq,hne,q⟩:=h
 obtain ⟨u,rfl,rx⟩:=ZDS r
 cases rx
 obtain ⟨its,rv,pl,hz⟩:=I.tuple hq
 have hi:=ZB7 rv
 obtain ⟨xs,e⟩:=hi.allInts.items
 have hns:ns=xs.toList.map (·.1):=by rw [<- hi.numsOf,<- nums_intItems,<- e]
 obtain ⟨o,ho,hcl,n,hd⟩:=pl
 rw [e] at hd
 have hl:s.heap.IsTuple p (intItems xs):=⟨o,ho,hcl,n,hd⟩
 have hlt:p < s.heap.objs.size:=Heap.lt_size ho
 have hx0:0 < xs.size:=by
  rcases Nat.eq_zero_or_pos xs.size with z | z
  .rw [hns,Array.eq_empty_of_size_eq_zero z] at hne;exact absurd rfl hne
  .exact z
 refine call_max_walk (wpAny_pyIter_tuple hl ?_)
 refine ⟨_,[_,p],[_],_,_,_,_,rfl,Walks.tuple (A:=X.A.in1) (I.ok.hd hc) _ p (yAO hlt) (intItems xs),⟨⟨_,Heap.get?_push_size _ rfl,rfl,rfl⟩,⟨o,Heap.get?_push_of_some _ ho,hcl,n,hd⟩⟩,fun c hc=>?_,by simpa [intItems] using hx0,CmpOf.ints_gt (numAt xs) (fun _ _=>intItems_at),fun v h' tk hP hk=>?_⟩
 .show c < (s.heap.push _).objs.size
  rw [Heap.size_push]
  rcases yAE.mp hc with rfl | hc
  .exact yBR _
  .rw [yAM.mp hc];exact Nat.lt_succ_of_lt hlt
 .have k:∀ c o,s.heap.get? c=some o->h'.get? c=some o:=fun c o e=>by
   refine hk c o (fun hm=>?_) (Heap.get?_push_of_some _ e)
   exact absurd (Heap.lt_size e) (by rw [yAM.mp hm];exact yBU _)
  have hP':(intItems xs)[argBest (fun i j=>decide (numAt xs i > numAt xs j)) (xs.size-1)]?=some v:=by simpa [intItems] using hP
  obtain ⟨t,rfl⟩:=intItems_at hP'
  obtain ⟨g1,g2⟩:=argBest_gt (numAt xs) (xs.size-1)
  refine ⟨.int _,H,I.kept k,⟨_,rfl⟩,q _ ?_ fun a ha=>?_⟩
  .rw [hns,numAt_eq];exact getD_mem (by rw [yAB,yAS];omega)
  .rw [hns] at ha
   obtain ⟨j,hj,rfl⟩:=mem_getD ha
   rw [yAB,yAS] at hj
   rw [<- numAt_eq];exact g2 j (by omega)
theorem call_minT (hc:X.calm=true):ZCM X (.builtin "min") (fun xs H Q=>∃ (p:Addr) (ns:List Int),xs=[.ref p] /\ SqT X.K H p (ns.map V.int) /\ ns≠[] /\ ∀ M,M∈ns->(∀ a∈ns,M <= a)->Q (.int M) H):=by
 intro pins s σ H xs us Q I r h
 obtain ⟨p,ns,rfl,hq,hne,q⟩:=h
 obtain ⟨u,rfl,rx⟩:=ZDS r
 cases rx
 obtain ⟨its,rv,pl,hz⟩:=I.tuple hq
 have hi:=ZB7 rv
 obtain ⟨xs,e⟩:=hi.allInts.items
 have hns:ns=xs.toList.map (·.1):=by rw [<- hi.numsOf,<- nums_intItems,<- e]
 obtain ⟨o,ho,hcl,n,hd⟩:=pl
 rw [e] at hd
 have hl:s.heap.IsTuple p (intItems xs):=⟨o,ho,hcl,n,hd⟩
 have hlt:p < s.heap.objs.size:=Heap.lt_size ho
 have hx0:0 < xs.size:=by
  rcases Nat.eq_zero_or_pos xs.size with z | z
  .rw [hns,Array.eq_empty_of_size_eq_zero z] at hne;exact absurd rfl hne
  .exact z
 refine call_min_walk (wpAny_pyIter_tuple hl ?_)
 refine ⟨_,[_,p],[_],_,_,_,_,rfl,Walks.tuple (A:=X.A.in1) (I.ok.hd hc) _ p (yAO hlt) (intItems xs),⟨⟨_,Heap.get?_push_size _ rfl,rfl,rfl⟩,⟨o,Heap.get?_push_of_some _ ho,hcl,n,hd⟩⟩,fun c hc=>?_,by simpa [intItems] using hx0,CmpOf.ints_lt (numAt xs) (fun _ _=>intItems_at),fun v h' tk hP hk=>?_⟩
 .show c < (s.heap.push _).objs.size
  rw [Heap.size_push]
  rcases yAE.mp hc with rfl | hc
  .exact yBR _
  .rw [yAM.mp hc];exact Nat.lt_succ_of_lt hlt
 .have k:∀ c o,s.heap.get? c=some o->h'.get? c=some o:=fun c o e=>by
   refine hk c o (fun hm=>?_) (Heap.get?_push_of_some _ e)
   exact absurd (Heap.lt_size e) (by rw [yAM.mp hm];exact yBU _)
  have hP':(intItems xs)[argBest (fun i j=>decide (numAt xs i < numAt xs j)) (xs.size-1)]?=some v:=by simpa [intItems] using hP
  obtain ⟨t,rfl⟩:=intItems_at hP'
  obtain ⟨g1,g2⟩:=argBest_lt (numAt xs) (xs.size-1)
  refine ⟨.int _,H,I.kept k,⟨_,rfl⟩,q _ ?_ fun a ha=>?_⟩
  .rw [hns,numAt_eq];exact getD_mem (by rw [yAB,yAS];omega)
  .rw [hns] at ha
   obtain ⟨j,hj,rfl⟩:=mem_getD ha
   rw [yAB,yAS] at hj
   rw [<- numAt_eq];exact g2 j (by omega)
theorem call_maxTK (K:W.Frag) (hc:X.calm=true) (h:X.K=K:=by rfl):ZCM X (.builtin "max") (fun xs H Q=>∃ (p:Addr) (ns:List Int),xs=[.ref p] /\ SqT K H p (ns.map V.int) /\ ns≠[] /\ ∀ M,M∈ns->(∀ a∈ns,a <= M)->Q (.int M) H):=h ▸ call_maxT hc
theorem call_minTK (K:W.Frag) (hc:X.calm=true) (h:X.K=K:=by rfl):ZCM X (.builtin "min") (fun xs H Q=>∃ (p:Addr) (ns:List Int),xs=[.ref p] /\ SqT K H p (ns.map V.int) /\ ns≠[] /\ ∀ M,M∈ns->(∀ a∈ns,M <= a)->Q (.int M) H):=h ▸ call_minT hc
end
section
variable {K:W.Frag} {a b:Addr} {xs ys:List V} {g:TG} {σ:St} {H:Hp} {tt:TT} {te:TE} {Q:VK} {σ0:St}
def compZ (K:W.Frag) (g:TG) (tt:TT) (te:TE) (σ0:St) (Q:VK) (x y:V) (H1:Hp):Prop:=∃ a b,[x,y]=[.ref a,.ref b] /\ (∃ xs,SqL K H1 a xs) /\ (∃ xs,SqL K H1 b xs) /\ ∃ W:Nat->Nat->List V->St->Hp->Prop,(∃ m,W 0 m [] σ0 H1) /\ ∀ i m zs σ H,W i m zs σ H ->
 ((Itz K a b).stop i H /\ zs.length <= sizeLine /\ ∀ p,H p=none->Q (.ref p) (upd H p (.lst zs))) ∨
 ((Itz K a b).go i H /\ zs.length < sizeLine /\ ∀ x H',(Itz K a b).yld i H x H'->g x σ H' fun σ2 H2=>tt σ2 H2 fun b H3=>if b=true then te σ2 H3 fun y H4=>∃ m',m' < m /\ W (i+1) m' (zs++[y]) σ2 H4 else ∃ m',m' < m /\ W (i+1) m' zs σ2 H3)
theorem tCompZ_eq {k:Nat} {js:List Nat} {t u:TE}:ZES k js (iZip K (ZB9 t (ZB9 u tNil))) g tt te σ H Q=t σ H (fun x H1=>u σ H1 fun y H2=>compZ K g tt te (up k js σ) Q x y H2):=rfl
theorem compZ_of (h:SqL K H a xs) (h':SqL K H b ys) (hz:xs.length <= 1000) (P:Nat->List V->St->Hp->Prop) (h0:P 0 [] σ0 H) (hl:∀ i zs σ H,i <= min xs.length ys.length->P i zs σ H->SqL K H a xs /\ SqL K H b ys /\ zs.length <= i)
  (hs:∀ (i:Nat) zs x y σ H p,i < min xs.length ys.length->xs[i]?=some x->ys[i]?=some y->P i zs σ H->H p=none->g (.ref p) σ (upd H p (.tup [x,y])) fun σ2 H2=>tt σ2 H2 fun b H3=>if b=true then te σ2 H3 fun y H4=>Nxt P (min xs.length ys.length) i (zs++[y]) σ2 H4 else Nxt P (min xs.length ys.length) i zs σ2 H3)
  (hd:∀ zs σ H,P (min xs.length ys.length) zs σ H->∀ p,H p=none->Q (.ref p) (upd H p (.lst zs))):compZ K g tt te σ0 Q (.ref a) (.ref b) H:=by
 have hz':=ZAX hz
 refine ⟨a,b,rfl,⟨xs,h⟩,⟨ys,h'⟩,fun i m zs σ H=>m=min xs.length ys.length-i /\ i <= min xs.length ys.length /\ P i zs σ H,⟨min xs.length ys.length,by simp,yAI _,h0⟩,?_⟩
 rintro i m zs σ H ⟨rfl,hi,p⟩
 obtain ⟨q,q',ly⟩:=hl i zs σ H hi p
 by_cases hlt:i < min xs.length ys.length
 .refine .inr ⟨⟨xs,xs[i],ys,ys[i],q,yAJ (by omega),q',yAJ (by omega)⟩,by omega,fun x H' y=>?_⟩
  obtain ⟨pp,x',y',hn,y1,y2,rfl,rfl⟩:=y
  exact hs i zs x' y' σ _ pp hlt (y1 xs q) (y2 ys q') p hn
 .have e:i=min xs.length ys.length:=by omega
  subst e
  exact .inl ⟨⟨xs,ys,q,q',by omega⟩,by omega,hd zs σ H p⟩
end
section
variable {X:Cx}
end
section
variable {X:Cx}
end
section
variable {X:Cx}
end
def Itr3 (lo d:Int) (n:Nat):It:=⟨fun i _=>i < n,fun i H x H'=>H'=H /\ x=.int (lo+i * d),fun i _=>n <= i⟩
section
variable {X:Cx} {tg:Expr}
def iRng3 (ta:TA):TI:=fun σ H R=>ta σ H fun vs H1=>∃ i j d:Int,vs=[.int i,.int j,.int d] /\ (0 <= i /\ i <= 1000 /\ 0 <= j /\ j <= 1000 /\ 0 < d /\ d <= 1000) /\ R (Itr3 i d (Builtin.Range.rangeSize i j d).toNat) H1
end
def compR3 (g:TG) (tt:TT) (te:TE) (σ0:St) (Q:VK) (x y z:V) (H1:Hp):Prop:=∃ i j d:Int,[x,y,z]=[.int i,.int j,.int d] /\ (0 <= i /\ i <= 1000 /\ 0 <= j /\ j <= 1000 /\ 0 < d /\ d <= 1000) /\
 ∃ W:Nat->Nat->List V->St->Hp->Prop,(∃ m,W 0 m [] σ0 H1) /\ ∀ k m ys σ H,W k m ys σ H ->
   ((Itr3 i d (Builtin.Range.rangeSize i j d).toNat).stop k H /\ ys.length <= sizeLine /\ ∀ p,H p=none->Q (.ref p) (upd H p (.lst ys))) ∨
   ((Itr3 i d (Builtin.Range.rangeSize i j d).toNat).go k H /\ ys.length < sizeLine /\ ∀ x H',(Itr3 i d (Builtin.Range.rangeSize i j d).toNat).yld k H x H'->g x σ H' fun σ2 H2=>tt σ2 H2 fun b H3=>if b=true then te σ2 H3 fun y H4=>∃ m',m' < m /\ W (k+1) m' (ys++[y]) σ2 H4 else ∃ m',m' < m /\ W (k+1) m' ys σ2 H3)
theorem tCompR3_eq {k:Nat} {js:List Nat} {t u v:TE} {g:TG} {tt:TT} {te:TE} {σ:St} {H:Hp} {Q:VK}:ZES k js (iRng3 (ZB9 t (ZB9 u (ZB9 v tNil)))) g tt te σ H Q=t σ H (fun x H1=>u σ H1 fun y H2=>v σ H2 fun z H3=>compR3 g tt te (up k js σ) Q x y z H3):=rfl
def tBL (K:W.Frag) (t:TE):TT:=fun σ H Q=>t σ H fun x H1=>∃ a xs,x=.ref a /\ SqL K H1 a xs /\ Q (!xs.isEmpty) H1
section
variable {X:Cx}
theorem pt_lst {e:Expr} {t:TE} (h:PE X e t) (he:∀ whole,isTrue e X.env whole=(do let v <- whole;standAt e.pos;holding [v] (truthy v)):=by intro _;rfl):PT X e (tBL X.K t):=by
 intro pins s σ H Q I hw
 refine isTrue_plain (thn (h pins s σ H _ I hw) fun v s1 ⟨x,H1,I1,r1,q1⟩=>?_) (he _)
 obtain ⟨a,xs,rfl,hq,q⟩:=q1
 cases r1
 obtain ⟨its,rv,p,hz⟩:=I1.list hq
 have hl:=rv.length
 refine wpAny_truthy_list p.isList ?_ ?_
 .rw [yAT,<- hl]
  exact Int.lt_of_le_of_lt (Int.ofNat_le.mpr hz) (by decide)
 .refine ⟨H1,I1.kept (t':=s1.toks+1+1) (fun b o e=>e),?_⟩
  have:(!(its.toArray).isEmpty)=!xs.isEmpty:=by
   cases xs <;> cases its <;> first | rfl | cases hl
  rw [this];exact q
end
end L2
namespace L2S
open PySem PyProof.Rows
def kn (f:Keyed->Int) (xs:Array Keyed) (i:Nat):Int:=((xs[i]?).map f).getD 0
theorem ZBC {f:Keyed->Int} {xs ys:Array Keyed} {i j:Nat} (h:xs[i]?=ys[j]?):kn f xs i=kn f ys j:=by unfold kn;rw [h]
structure Asks (M:Model) (A:Around) (E:Value->Shared->Prop) (s:Shared) (κ:SortKind) (a₀:Array Keyed) (f:Keyed->Int):Prop where
 lt:∀ x y,x∈a₀.toList->y∈a₀.toList->∀ (st:SortSt) (Q:Option Bool->SortSt->Prop),kindOf st=κ->Q (some (decide (f x < f y))) st->wpS M A E s (lt' x y) Q st
structure SB (κ:SortKind) (a₀:Array Keyed) (st:SortSt):Prop where
 perm:(arrOf st).Perm a₀
 kind:kindOf st=κ
 fail:failedOf st=none
theorem SB.size {κ:SortKind} {a₀:Array Keyed} {st:SortSt} (h:SB κ a₀ st):(arrOf st).size=a₀.size:=h.perm.size_eq
theorem SB.arr {κ:SortKind} {a₀:Array Keyed} {st:SortSt} (h:SB κ a₀ st) {xs:Array Keyed} (hp:xs.Perm (arrOf st)):SB κ a₀ (setArr st xs):=⟨hp.trans h.perm,h.kind,h.fail⟩
theorem SB.get {κ:SortKind} {a₀:Array Keyed} {st:SortSt} {f:Keyed->Int} (h:SB κ a₀ st) {i:Nat} (hi:i < a₀.size):∃ x,(arrOf st)[i]?=some x /\ x∈a₀.toList /\ kn f (arrOf st) i=f x:=by
 have hi':i < (arrOf st).size:=by rw [h.size];exact hi
 refine ⟨(arrOf st)[i],getElem?_pos _ i hi',(Array.perm_iff_toList_perm.mp h.perm).mem_iff.mp (by simp),?_⟩
 unfold kn
 rw [getElem?_pos _ i hi']
 rfl
def Up (f:Keyed->Int) (xs:Array Keyed) (lo n:Nat):Prop:=∀ i j,lo <= i->i <= j->j < lo+n->kn f xs i <= kn f xs j
def Down (f:Keyed->Int) (xs:Array Keyed) (lo n:Nat):Prop:=∀ i j,lo <= i->i <= j->j < lo+n->kn f xs j <= kn f xs i
def Kept (lo:Nat) (xs ys:Array Keyed):Prop:=∀ i,i < lo->ys[i]?=xs[i]?
theorem Kept.refl {lo:Nat} {xs:Array Keyed}:Kept lo xs xs:=fun _ _=>rfl
theorem Kept.trans {lo:Nat} {xs ys zs:Array Keyed} (a:Kept lo xs ys) (b:Kept lo ys zs):Kept lo xs zs:=fun i h=>(b i h).trans (a i h)
theorem ZDf {f:Keyed->Int} {xs:Array Keyed} {i j:Nat} (hj:j <= xs.size) (k:Nat):kn f (mirror xs i j ((j-i) / 2)) k=if i <= k /\ k < j then kn f xs (i+j-1-k) else kn f xs k:=by
 have e:=getElem?_mirror_all (i:=i) hj k
 split
 .rename_i h;rw [if_pos h] at e;exact ZBC e
 .rename_i h;rw [if_neg h] at e;exact ZBC e
theorem ZCD {lo:Nat} {xs:Array Keyed} {i j:Nat} (hj:j <= xs.size) (hi:lo <= i):Kept lo xs (mirror xs i j ((j-i) / 2)):=fun k hk=>by
 rw [getElem?_mirror_all hj k,if_neg (by omega)]
theorem ZDe {f:Keyed->Int} {xs:Array Keyed} {i j:Nat} (hj:j <= xs.size) (he:∀ k,i <= k->k < j->kn f xs k=kn f xs (j-1)) (k:Nat):kn f (mirror xs i j ((j-i) / 2)) k=kn f xs k:=by
 rw [ZDf hj]
 split
 .rename_i h;rw [he _ (by omega) (by omega),he k h.1 h.2]
 .rfl
section
variable {M:Model} {A:Around} {E:Value->Shared->Prop} {s:Shared} {κ:SortKind} {a₀:Array Keyed} {f:Keyed->Int}
theorem ZEZ {st:SortSt} {i j:Nat} {Q:Option Bool->SortSt->Prop} (L:Asks M A E s κ a₀ f) (hB:SB κ a₀ st) (hi:i < a₀.size) (hj:j < a₀.size)
  (h:Q (some (decide (kn f (arrOf st) i < kn f (arrOf st) j))) st):wpS M A E s (ltAt' i j) Q st:=by
 obtain ⟨x,e1,m1,k1⟩:=hB.get (f:=f) hi
 obtain ⟨y,e2,m2,k2⟩:=hB.get (f:=f) hj
 rw [ltAt'_eq]
 refine wpS_bind (wpS_get ?_)
 show wpS _ _ _ _ (elem' (arrOf st) i >>= fun x=>elem' (arrOf st) j >>= fun y=>lt' x y) Q st
 rw [elem'_eq,elem'_eq,e1,e2]
 refine wpS_bind (wpS_pure (wpS_bind (wpS_pure (L.lt x y m1 m2 st Q hB.kind ?_))))
 rw [<- k1,<- k2]
 exact h
theorem ZEx {st:SortSt} {i j:Nat} {Q:Unit->SortSt->Prop} (h:Q () (setArr st (mirror (arrOf st) i j ((j-i) / 2)))):wpS M A E s (reverseSlice' i j) Q st:=by
 rw [reverseSlice'_eq]
 exact wpS_modify h
def ZCd (lo a nrem:Nat):StateT SortSt Sem AscSt :=
 forIn [a:nrem] ((none,a):AscSt) fun _ c=>do
  let r <- ltAt' (lo+c.snd) (lo+c.snd-1)
  match r with
  | some b=>if b=true then pure (ForInStep.done (none,c.snd)) else pure (ForInStep.yield (none,c.snd+1))
  | _=>pure (ForInStep.done (some none,c.snd))
def ZEb (lo n nrem:Nat):StateT SortSt Sem (Option Nat):=do
 reverseSlice' lo (lo+n)
 let c <- ZCd lo n nrem
 match c.fst with
 | some r=>pure r
 | none=>pure (some c.snd)
def ZCc (lo n nrem:Nat):StateT SortSt Sem DescSt :=
 forIn [n:nrem] ((none,n,0):DescSt) fun _ c=>do
  let r <- ltAt' (lo+c.snd.fst) (lo+c.snd.fst-1)
  match r with
  | some b=>
   if b=true then
    if c.snd.snd > 0 then do
     reverseSlice' (lo+c.snd.fst-(c.snd.snd+1)) (lo+c.snd.fst)
     pure (ForInStep.yield (none,c.snd.fst+1,0))
    else pure (ForInStep.yield (none,c.snd.fst+1,0))
   else do
    let r2 <- ltAt' (lo+c.snd.fst-1) (lo+c.snd.fst)
    match r2 with
    | some b2=>
     if b2=true then pure (ForInStep.done (none,c.snd.fst,c.snd.snd))
     else pure (ForInStep.yield (none,c.snd.fst+1,c.snd.snd+1))
    | _=>pure (ForInStep.done (some none,c.snd.fst,c.snd.snd))
  | _=>pure (ForInStep.done (some none,c.snd.fst,c.snd.snd))
def ZCz (lo n nrem:Nat):StateT SortSt Sem (Option Nat):=do
 liftM (rule "list.sort.descending-run")
 let c <- ZCc lo (n+1) nrem
 match c.fst with
 | some r=>pure r
 | none=>
  if c.snd.snd > 0 then do
   reverseSlice' (lo+c.snd.fst-(c.snd.snd+1)) (lo+c.snd.fst)
   ZEb lo c.snd.fst nrem
  else ZEb lo c.snd.fst nrem
theorem bnd {α β:Type} (m:StateT SortSt Sem α) {g h:α->StateT SortSt Sem β} (e:∀ a,g a=h a):(m >>= g)=(m >>= h):=by rw [show g=h from funext e]
theorem count_eq (lo nrem:Nat):countRun' lo nrem=(do
  let c <- ZCd lo 1 nrem
  match c.fst with
  | some r=>pure r
  | none=>
   if (c.snd == nrem)=true then pure (some c.snd)
   else if c.snd > 1 then do
    let r <- ltAt' lo (lo+c.snd-1)
    match r with
    | some b=>if b=true then pure (some c.snd) else do
      reverseSlice' lo (lo+c.snd)
      ZCz lo c.snd nrem
    | _=>pure none
   else ZCz lo c.snd nrem):=by
 have tl:∀ n2:Nat,ZEb lo n2 nrem=(reverseSlice' lo (lo+n2) >>= fun _=>ZCd lo n2 nrem >>= fun c=>match c.fst with | some r=>pure r | none=>pure (some c.snd)):=fun _=>rfl
 rw [countRun'_eq]
 refine bnd (ZCd lo 1 nrem) fun c=>?_
 obtain ⟨r,n⟩:=c
 cases r with
 | some r=>rfl
 | none=>
  have dn:∀ n1:Nat,(liftM (rule "list.sort.descending-run") >>= fun _=>ZCc lo (n1+1) nrem >>= fun c=>match c.fst with
    | some r=>pure r
    | none=>if c.snd.snd > 0 then (reverseSlice' (lo+c.snd.fst-(c.snd.snd+1)) (lo+c.snd.fst) >>= fun _=>ZEb lo c.snd.fst nrem) else ZEb lo c.snd.fst nrem)=ZCz lo n1 nrem:=fun _=>rfl
  dsimp only
  split
  .rfl
  .split
   .refine bnd (ltAt' lo (lo+n-1)) fun x=>?_
    cases x with
    | none=>rfl
    | some rose=>
     dsimp only
     split
     .rfl
     .refine bnd _ fun _=>?_
      rw [<- dn]
      refine bnd _ fun _=>bnd (ZCc lo (n+1) nrem) fun s2=>?_
      obtain ⟨r2,n2,q2⟩:=s2
      cases r2 with
      | some r2=>rfl
      | none=>
       dsimp only
       split
       .refine bnd _ fun _=>?_
        rw [tl]
        refine bnd _ fun _=>bnd (ZCd lo n2 nrem) fun s3=>?_
        obtain ⟨r3,n3⟩:=s3
        cases r3 <;> rfl
       .rw [tl]
        refine bnd _ fun _=>bnd (ZCd lo n2 nrem) fun s3=>?_
        obtain ⟨r3,n3⟩:=s3
        cases r3 <;> rfl
   .rw [<- dn]
    refine bnd _ fun _=>bnd (ZCc lo (n+1) nrem) fun s2=>?_
    obtain ⟨r2,n2,q2⟩:=s2
    cases r2 with
    | some r2=>rfl
    | none=>
     dsimp only
     split
     .refine bnd _ fun _=>?_
      rw [tl]
      refine bnd _ fun _=>bnd (ZCd lo n2 nrem) fun s3=>?_
      obtain ⟨r3,n3⟩:=s3
      cases r3 <;> rfl
     .rw [tl]
      refine bnd _ fun _=>bnd (ZCd lo n2 nrem) fun s3=>?_
      obtain ⟨r3,n3⟩:=s3
      cases r3 <;> rfl
theorem up_one {xs:Array Keyed} {lo:Nat}:Up f xs lo 1:=fun i j h1 h2 h3=>by rw [show i=j by omega];exact Int.le_refl _
theorem up_loop {st:SortSt} {lo a nrem:Nat} {Q:AscSt->SortSt->Prop} (L:Asks M A E s κ a₀ f) (hn:lo+nrem <= a₀.size) (ha:1 <= a) (han:a <= nrem) (hB:SB κ a₀ st) (hs:Up f (arrOf st) lo a)
  (h:∀ n,a <= n->n <= nrem->Up f (arrOf st) lo n->(n=nrem∨kn f (arrOf st) (lo+n) < kn f (arrOf st) (lo+n-1))->Q (none,n) st):wpS M A E s (ZCd lo a nrem) Q st:=by
 unfold ZCd
 refine wpS_forRange (I:=fun x c st'=>st'=st /\ c=(none,x) /\ Up f (arrOf st) lo x) ?_ ?_ ⟨rfl,rfl,hs⟩
 .rintro x c st' hax hxn ⟨rfl,rfl,hs'⟩
  dsimp only
  refine wpS_bind (ZEZ L hB (by omega) (by omega) ?_)
  by_cases hl:kn f (arrOf st') (lo+x) < kn f (arrOf st') (lo+x-1)
  .rw [decide_eq_true hl]
   exact wpS_pure (h x hax (by omega) hs' (.inr hl))
  .rw [decide_eq_false hl]
   refine wpS_pure ⟨rfl,rfl,fun i j h1 h2 h3=>?_⟩
   by_cases hj:j < lo+x
   .exact hs' i j h1 h2 hj
   .by_cases hi:i=j
    .rw [hi];exact Int.le_refl _
    .have e1:=hs' i (lo+x-1) h1 (by omega) (by omega)
     rw [show j=lo+x by omega]
     omega
 .rintro c st' ⟨rfl,rfl,hs'⟩
  rw [Nat.max_eq_right han] at hs' ⊢
  exact h nrem han (yAA _) hs' (.inl rfl)
abbrev ZFh (κ:SortKind) (a₀:Array Keyed) (f:Keyed->Int) (lo nrem:Nat) (xs:Array Keyed) (pd:Array (Nat×Nat×Nat)) (Q:Option Nat->SortSt->Prop):Prop :=
 ∀ m st',SB κ a₀ st'->1 <= m->m <= nrem->Up f (arrOf st') lo m->Kept lo xs (arrOf st')->pendingOf st'=pd->Q (some m) st'
theorem tail_l {st:SortSt} {lo n nrem:Nat} {xs:Array Keyed} {pd:Array (Nat×Nat×Nat)} {Q:Option Nat->SortSt->Prop} (L:Asks M A E s κ a₀ f) (hn:lo+nrem <= a₀.size) (h1:1 <= n) (hnn:n <= nrem) (hB:SB κ a₀ st)
  (hs:Down f (arrOf st) lo n) (hk:Kept lo xs (arrOf st)) (hp:pendingOf st=pd) (h:ZFh κ a₀ f lo nrem xs pd Q):wpS M A E s (ZEb lo n nrem) Q st:=by
 unfold ZEb
 have hsz:lo+n <= (arrOf st).size:=by rw [hB.size];omega
 refine wpS_bind (ZEx ?_)
 have hB':SB κ a₀ (setArr st (mirror (arrOf st) lo (lo+n) ((lo+n-lo) / 2))):=hB.arr (mirror_perm _ _ _ _)
 have hk':Kept lo xs (mirror (arrOf st) lo (lo+n) ((lo+n-lo) / 2)):=hk.trans (ZCD hsz (yAA _))
 refine wpS_bind (up_loop L hn h1 hnn hB' (fun i j z1 z2 z3=>?_) fun m hm1 hm2 hsm _=>wpS_pure (h m _ hB' (by omega) hm2 hsm hk' hp))
 show kn f (mirror (arrOf st) lo (lo+n) _) i <= kn f (mirror (arrOf st) lo (lo+n) _) j
 rw [ZDf hsz,ZDf hsz,if_pos (by omega),if_pos (by omega)]
 exact hs _ _ (by omega) (by omega) (by omega)
theorem down_loop {st:SortSt} {lo n nrem:Nat} {xs:Array Keyed} {pd:Array (Nat×Nat×Nat)} {Q:DescSt->SortSt->Prop} (L:Asks M A E s κ a₀ f) (hn:lo+nrem <= a₀.size) (h1:1 <= n) (hnn:n <= nrem) (hB:SB κ a₀ st)
  (hs:Down f (arrOf st) lo n) (hk:Kept lo xs (arrOf st)) (hp:pendingOf st=pd)
  (h:∀ m q st',SB κ a₀ st'->n <= m->m <= nrem->Down f (arrOf st') lo m->q+1 <= m->(∀ i,lo+m-(q+1) <= i->i < lo+m->kn f (arrOf st') i=kn f (arrOf st') (lo+m-1))->Kept lo xs (arrOf st')->pendingOf st'=pd->Q (none,m,q) st') :
  wpS M A E s (ZCc lo n nrem) Q st:=by
 unfold ZCc
 refine wpS_forRange (I:=fun x c st'=>∃ q,c=(none,x,q) /\ SB κ a₀ st' /\ Down f (arrOf st') lo x /\ q+1 <= x /\ (∀ i,lo+x-(q+1) <= i->i < lo+x->kn f (arrOf st') i=kn f (arrOf st') (lo+x-1)) /\ Kept lo xs (arrOf st') /\ pendingOf st'=pd) ?_ ?_
  ⟨0,rfl,hB,hs,by omega,fun i z1 z2=>by rw [show i=lo+n-1 by omega],hk,hp⟩
 .rintro x c st' hax hxn ⟨q,rfl,hB',hs',hq,he,hk',hp'⟩
  dsimp only
  have hsz:lo+x <= (arrOf st').size:=by rw [hB'.size];omega
  refine wpS_bind (ZEZ L hB' (by omega) (by omega) ?_)
  by_cases hl:kn f (arrOf st') (lo+x) < kn f (arrOf st') (lo+x-1)
  .rw [decide_eq_true hl]
   have more:∀ ys:Array Keyed,(∀ k,kn f ys k=kn f (arrOf st') k)->Down f ys lo (x+1):=fun ys hy i j z1 z2 z3=>by
    rw [hy,hy]
    by_cases hj:j < lo+x
    .exact hs' i j z1 z2 hj
    .by_cases hi:i=j
     .rw [hi];exact Int.le_refl _
     .have e1:=hs' i (lo+x-1) z1 (by omega) (by omega)
      rw [show j=lo+x by omega]
      omega
   dsimp only
   rw [if_pos rfl]
   by_cases hq0:q > 0
   .rw [if_pos hq0]
    refine wpS_bind (ZEx (wpS_pure ⟨0,rfl,hB'.arr (mirror_perm _ _ _ _),more _ (ZDe hsz he),by omega,fun i z1 z2=>by rw [show i=lo+(x+1)-1 by omega],hk'.trans (ZCD hsz (by omega)),hp'⟩))
   .rw [if_neg hq0]
    exact wpS_pure ⟨0,rfl,hB',more _ (fun _=>rfl),by omega,fun i z1 z2=>by rw [show i=lo+(x+1)-1 by omega],hk',hp'⟩
  .rw [decide_eq_false hl]
   dsimp only
   rw [if_neg (by decide)]
   refine wpS_bind (ZEZ L hB' (by omega) (by omega) ?_)
   by_cases hg:kn f (arrOf st') (lo+x-1) < kn f (arrOf st') (lo+x)
   .rw [decide_eq_true hg]
    exact wpS_pure (h x q st' hB' hax (by omega) hs' hq he hk' hp')
   .rw [decide_eq_false hg]
    have ex:kn f (arrOf st') (lo+x)=kn f (arrOf st') (lo+x-1):=by omega
    refine wpS_pure ⟨q+1,rfl,hB',fun i j z1 z2 z3=>?_,by omega,fun i z1 z2=>?_,hk',hp'⟩
    .by_cases hj:j < lo+x
     .exact hs' i j z1 z2 hj
     .by_cases hi:i=j
      .rw [hi];exact Int.le_refl _
      .have e1:=hs' i (lo+x-1) z1 (by omega) (by omega)
       rw [show j=lo+x by omega]
       omega
    .rw [show lo+(x+1)-1=lo+x by omega]
     by_cases hi:i=lo+x
     .rw [hi]
     .rw [ex];exact he i (by omega) (by omega)
 .rintro c st' ⟨q,rfl,hB',hs',hq,he,hk',hp'⟩
  rw [Nat.max_eq_right hnn] at hs' hq he ⊢
  exact h nrem q st' hB' hnn (yAA _) hs' hq he hk' hp'
theorem down_part {st:SortSt} {lo n nrem:Nat} {xs:Array Keyed} {pd:Array (Nat×Nat×Nat)} {Q:Option Nat->SortSt->Prop} (L:Asks M A E s κ a₀ f) (hn:lo+nrem <= a₀.size) (hnn:n+1 <= nrem) (hB:SB κ a₀ st)
  (hs:Down f (arrOf st) lo (n+1)) (hk:Kept lo xs (arrOf st)) (hp:pendingOf st=pd) (h:ZFh κ a₀ f lo nrem xs pd Q):wpS M A E s (ZCz lo n nrem) Q st:=by
 unfold ZCz
 refine wpS_bind (wpS_lift (wpAny_rule ⟨rfl,?_⟩))
 refine wpS_bind (down_loop L hn (by omega) hnn hB hs hk hp fun m q st' hB' hm1 hm2 hs' hq he hk' hp'=>?_)
 dsimp only
 have hsz:lo+m <= (arrOf st').size:=by rw [hB'.size];omega
 by_cases hq0:q > 0
 .rw [if_pos hq0]
  refine wpS_bind (ZEx (tail_l L hn (by omega) hm2 (hB'.arr (mirror_perm _ _ _ _)) (fun i j z1 z2 z3=>?_) (hk'.trans (ZCD hsz (by omega))) hp' h))
  show kn f (mirror (arrOf st') _ _ _) j <= kn f (mirror (arrOf st') _ _ _) i
  rw [ZDe hsz he,ZDe hsz he]
  exact hs' i j z1 z2 z3
 .rw [if_neg hq0]
  exact tail_l L hn (by omega) hm2 hB' hs' hk' hp' h
theorem count_run {st:SortSt} {lo nrem:Nat} {Q:Option Nat->SortSt->Prop} (L:Asks M A E s κ a₀ f) (hn:lo+nrem <= a₀.size) (h1:1 <= nrem) (hB:SB κ a₀ st)
  (h:ZFh κ a₀ f lo nrem (arrOf st) (pendingOf st) Q):wpS M A E s (countRun' lo nrem) Q st:=by
 rw [count_eq]
 refine wpS_bind (up_loop L hn (yAA 1) h1 hB up_one fun n hn1 hn2 hsn hor=>?_)
 dsimp only
 by_cases hnn:n=nrem
 .rw [if_pos (by simpa using hnn)]
  exact wpS_pure (h n st hB hn1 hn2 hsn .refl rfl)
 rw [if_neg (by simpa using hnn)]
 have hlt:=hor.resolve_left hnn
 by_cases hgt:n > 1
 .rw [if_pos hgt]
  refine wpS_bind (ZEZ L hB (by omega) (by omega) ?_)
  by_cases hr:kn f (arrOf st) lo < kn f (arrOf st) (lo+n-1)
  .rw [decide_eq_true hr]
   exact wpS_pure (h n st hB hn1 hn2 hsn .refl rfl)
  rw [decide_eq_false hr]
  dsimp only
  rw [if_neg (by decide)]
  have hsz:lo+n <= (arrOf st).size:=by rw [hB.size];omega
  have hall:∀ k,lo <= k->k < lo+n->kn f (arrOf st) k=kn f (arrOf st) (lo+n-1):=fun k k1 k2=>by
   have a1:=hsn lo k (yAA _) k1 k2
   have a2:=hsn k (lo+n-1) k1 (by omega) (by omega)
   omega
  refine wpS_bind (ZEx (down_part L hn (by omega) (hB.arr (mirror_perm _ _ _ _)) (fun i j z1 z2 z3=>?_) (ZCD hsz (yAA _)) rfl h))
  show kn f (mirror (arrOf st) _ _ _) j <= kn f (mirror (arrOf st) _ _ _) i
  rw [ZDe hsz hall,ZDe hsz hall]
  by_cases hj:j < lo+n
  .rw [hall i z1 (by omega),hall j (by omega) hj];exact Int.le_refl _
  .by_cases hi:i=j
   .rw [hi];exact Int.le_refl _
   .rw [hall i z1 (by omega),show j=lo+n by omega];exact Int.le_of_lt hlt
 .rw [if_neg hgt]
  have hn1':n=1:=by omega
  subst hn1'
  refine down_part L hn (by omega) hB (fun i j z1 z2 z3=>?_) .refl rfl h
  by_cases hi:i=j
  .rw [hi];exact Int.le_refl _
  .have e1:i=lo:=by omega
   have e2:j=lo+1:=by omega
   subst e1 e2
   exact Int.le_of_lt hlt
theorem kn_bubble {xs:Array Keyed} {src d:Nat} (hs:src < xs.size) (hd:d <= src) (k:Nat):kn f (bubble xs src d) k=if k=src-d then kn f xs src else if src-d < k /\ k <= src then kn f xs (k-1) else kn f xs k:=by
 have e:=getElem?_bubble hs d hd k
 split
 .rename_i h;rw [if_pos h] at e;exact ZBC e
 .rename_i h
  rw [if_neg h] at e
  split
  .rename_i h2;rw [if_pos h2] at e;exact ZBC e
  .rename_i h2;rw [if_neg h2] at e;exact ZBC e
theorem kept_bubble {lo:Nat} {xs:Array Keyed} {src d:Nat} (hs:src < xs.size) (hd:lo+d <= src):Kept lo xs (bubble xs src d):=fun k hk=>by
 rw [getElem?_bubble hs d (by omega) k,if_neg (by omega),if_neg (by omega)]
theorem bin_sort {st:SortSt} {lo n ok:Nat} {Q:Bool->SortSt->Prop} (L:Asks M A E s κ a₀ f) (hn:lo+n <= a₀.size) (hok:ok <= n) (hB:SB κ a₀ st) (hs:Up f (arrOf st) lo ok)
  (h:∀ st',SB κ a₀ st'->Up f (arrOf st') lo n->Kept lo (arrOf st) (arrOf st')->pendingOf st'=pendingOf st->Q true st'):wpS M A E s (binarySort' lo n ok) Q st:=by
 rw [binarySort'_eq]
 refine wpS_bind (wpS_mono (wpS_forRange (I:=fun k c st'=>c=(none,()) /\ SB κ a₀ st' /\ Up f (arrOf st') lo (min k n) /\ Kept lo (arrOf st) (arrOf st') /\ pendingOf st'=pendingOf st)
  (Q:=fun c st'=>c=(none,()) /\ SB κ a₀ st' /\ Up f (arrOf st') lo n /\ Kept lo (arrOf st) (arrOf st') /\ pendingOf st'=pendingOf st) ?_ ?_ ?_) ?_)
 .rintro k c st' hak hkn ⟨rfl,hB',hs',hk',hp'⟩
  rw [show min k n=k by omega] at hs'
  have hk:lo+k < a₀.size:=by omega
  refine wpS_bind (wpS_mono (wpS_forRange (I:=fun x c st2=>st2=st' /\ ∃ l r,c=(none,l,r) /\ l <= r /\ r <= k /\ r-l <= k-x /\
    (∀ i,i < l->kn f (arrOf st') (lo+i) <= kn f (arrOf st') (lo+k)) /\ (∀ i,r <= i->i < k->kn f (arrOf st') (lo+k) < kn f (arrOf st') (lo+i)))
   (Q:=fun c st2=>st2=st' /\ ∃ l r,c=(none,l,r) /\ l <= k /\ (∀ i,i < l->kn f (arrOf st') (lo+i) <= kn f (arrOf st') (lo+k)) /\ (∀ i,l <= i->i < k->kn f (arrOf st') (lo+k) < kn f (arrOf st') (lo+i))) ?_ ?_ ?_) ?_)
  .rintro x c st2 _ hxk ⟨rfl,l,r,rfl,hlr,hrk,hm,hlo,hhi⟩
   dsimp only
   by_cases hge:l≥r
   .rw [if_pos hge]
    have:l=r:=by omega
    subst this
    exact wpS_pure ⟨rfl,l,l,rfl,hrk,hlo,hhi⟩
   rw [if_neg hge]
   refine wpS_bind (ZEZ L hB' hk (by omega) ?_)
   by_cases hl:kn f (arrOf st2) (lo+k) < kn f (arrOf st2) (lo+(l+r) / 2)
   .rw [decide_eq_true hl]
    refine wpS_pure ⟨rfl,l,(l+r) / 2,rfl,by omega,by omega,by omega,hlo,fun i z1 z2=>?_⟩
    exact Int.lt_of_lt_of_le hl (hs' _ _ (by omega) (by omega) (by omega))
   .rw [decide_eq_false hl]
    refine wpS_pure ⟨rfl,(l+r) / 2+1,r,rfl,by omega,by omega,by omega,fun i z1=>?_,hhi⟩
    have e1:=hs' (lo+i) (lo+(l+r) / 2) (by omega) (by omega) (by omega)
    omega
  .rintro c st2 ⟨rfl,l,r,rfl,hlr,hrk,hm,hlo,hhi⟩
   have:l=r:=by omega
   subst this
   exact ⟨rfl,l,l,rfl,hrk,hlo,hhi⟩
  .exact ⟨rfl,0,k,rfl,by omega,by omega,by omega,fun i hi=>by omega,fun i z1 z2=>by omega⟩
  .rintro c st2 ⟨rfl,l,r,rfl,hlk,hlo,hhi⟩
   show wpS _ _ _ _ (moveDown' (lo+k) (lo+l) >>= fun _=>pure (ForInStep.yield (none,()))) _ _
   rw [moveDown'_eq,show lo+k-(lo+l)=k-l by omega]
   have hks:lo+k < (arrOf st2).size:=by rw [hB'.size];exact hk
   refine wpS_bind (wpS_modify (wpS_pure ⟨rfl,hB'.arr (bubble_perm _ _ _),?_,hk'.trans (kept_bubble hks (by omega)),hp'⟩))
   rw [show min (k+1) n=k+1 by omega]
   intro i j z1 z2 z3
   show kn f (bubble (arrOf st2) (lo+k) (k-l)) i <= kn f (bubble (arrOf st2) (lo+k) (k-l)) j
   have at':∀ m,lo <= m->m < lo+k+1->kn f (bubble (arrOf st2) (lo+k) (k-l)) m=if m < lo+l then kn f (arrOf st2) m else if m=lo+l then kn f (arrOf st2) (lo+k) else kn f (arrOf st2) (m-1):=fun m m1 m2=>by
    rw [kn_bubble hks (by omega)]
    by_cases c1:m < lo+l
    .rw [if_pos c1,if_neg (by omega),if_neg (by omega)]
    .rw [if_neg c1]
     by_cases c2:m=lo+l
     .rw [if_pos c2,if_pos (by omega)]
     .rw [if_neg c2,if_neg (by omega),if_pos (by omega)]
   rw [at' i z1 (by omega),at' j (by omega) (by omega)]
   have lo':∀ m,lo <= m->m < lo+l->kn f (arrOf st2) m <= kn f (arrOf st2) (lo+k):=fun m m1 m2=>by
    have:=hlo (m-lo) (by omega)
    rw [show lo+(m-lo)=m by omega] at this
    exact this
   have hi':∀ m,lo+l <= m->m < lo+k->kn f (arrOf st2) (lo+k) < kn f (arrOf st2) m:=fun m m1 m2=>by
    have:=hhi (m-lo) (by omega) (by omega)
    rw [show lo+(m-lo)=m by omega] at this
    exact this
   by_cases c1:j < lo+l
   .rw [if_pos c1,if_pos (by omega)]
    exact hs' i j z1 z2 (by omega)
   rw [if_neg c1]
   by_cases c2:j=lo+l
   .rw [if_pos c2]
    by_cases c3:i < lo+l
    .rw [if_pos c3];exact lo' i z1 c3
    .rw [if_neg c3,if_pos (by omega)];exact Int.le_refl _
   .rw [if_neg c2]
    by_cases c3:i < lo+l
    .rw [if_pos c3];exact hs' i (j-1) z1 (by omega) (by omega)
    .rw [if_neg c3]
     by_cases c4:i=lo+l
     .rw [if_pos c4];exact Int.le_of_lt (hi' (j-1) (by omega) (by omega))
     .rw [if_neg c4];exact hs' (i-1) (j-1) (by omega) (by omega) (by omega)
 .rintro c st' ⟨hc,hB',hs',hk',hp'⟩
  rw [show min (max (max ok 1) n) n=n by omega] at hs'
  exact ⟨hc,hB',hs',hk',hp'⟩
 .refine ⟨rfl,hB,fun i j z1 z2 z3=>?_,.refl,rfl⟩
  by_cases h1:ok=0
  .rw [show i=j by omega];exact Int.le_refl _
  .exact hs i j z1 z2 (by omega)
 .rintro c st' ⟨rfl,hB',hs',hk',hp'⟩
  exact wpS_pure (h st' hB' hs' hk' hp')
end
end L2S
namespace L2S
open PySem PyProof.Rows
def gal:Bool->Keyed->Array Keyed->Nat->Nat->Nat->StateT SortSt Sem (Option Nat):=sortPriv% PySem.Builtin.gallop
def past (left:Bool) (key:Keyed) (arr:Array Keyed) (base i:Nat):StateT SortSt Sem (Option Bool):=do
 let y <- elem' arr (base+i)
 if left then lt' y key else return (<- lt' key y).map (!·)
theorem gal_eq (left:Bool) (key:Keyed) (arr:Array Keyed) (base n hint:Nat):gal left key arr base n hint=(do
 let mut o1:=0
 let mut o2:=1
 let mut p1:=0
 let mut p2:=0
 let some b0 <- past left key arr base hint | return none
 if b0 then
  let mx:=n-hint
  for _ in [0:n] do
   if o2≥mx then break
   let some b <- past left key arr base (hint+o2) | return none
   if !b then break
   o1:=o2
   o2:=2 * o2+1
  p1:=hint+o1+1
  p2:=hint+min o2 mx
 else
  let mx:=hint+1
  for _ in [0:n] do
   if o2≥mx then break
   let some b <- past left key arr base (hint-o2) | return none
   if b then break
   o1:=o2
   o2:=2 * o2+1
  p1:=hint+1-min o2 mx
  p2:=hint-o1
 for _ in [0:n] do
  if p1≥p2 then break
  let m:=p1+(p2-p1) / 2
  let some b <- past left key arr base m | return none
  if b then p1:=m+1 else p2:=m
 return some p2):=rfl
section
variable {M:Model} {A:Around} {E:Value->Shared->Prop} {s:Shared}
theorem gal_ok {left:Bool} {key:Keyed} {arr:Array Keyed} {base n hint:Nat} {st:SortSt} {Q:Option Nat->SortSt->Prop} (g:Nat->Bool) (hh:hint < n)
  (hp:∀ i,i < n->∀ Q:Option Bool->SortSt->Prop,Q (some (g i)) st->wpS M A E s (past left key arr base i) Q st) (hm:∀ i j,i <= j->j < n->g j=true->g i=true)
  (h:∀ k,k <= n->(∀ i,i < k->g i=true)->(∀ i,k <= i->i < n->g i=false)->Q (some k) st):wpS M A E s (gal left key arr base n hint) Q st:=by
 have hm':∀ i j,i <= j->j < n->g i=false->g j=false:=fun i j z1 z2 z3=>by
  cases e:g j with
  | false=>rfl
  | true=>rw [hm i j z1 z2 e] at z3;cases z3
 have last:∀ p1 p2:Nat,p1 <= p2->p2 <= n->(∀ i,i < p1->g i=true)->(∀ i,p2 <= i->i < n->g i=false) ->
   wpS M A E s (forIn [0:n] ((none,p1,p2):Option (Option Nat)×Nat×Nat) fun _ c=>if c.2.1≥c.2.2 then pure (ForInStep.done (none,c.2.1,c.2.2)) else do
    let r <- past left key arr base (c.2.1+(c.2.2-c.2.1) / 2)
    match r with
    | some b=>if b=true then pure (ForInStep.yield (none,c.2.1+(c.2.2-c.2.1) / 2+1,c.2.2)) else pure (ForInStep.yield (none,c.2.1,c.2.1+(c.2.2-c.2.1) / 2))
    | _=>pure (ForInStep.done (some none,c.2.1,c.2.2))) (fun c st'=>∃ k,c=(none,k,k) /\ st'=st /\ k <= n /\ (∀ i,i < k->g i=true) /\ (∀ i,k <= i->i < n->g i=false)) st:=by
  intro p1 p2 a1 a2 a3 a4
  refine wpS_forRange (I:=fun x c st'=>st'=st /\ ∃ p1 p2,c=(none,p1,p2) /\ p1 <= p2 /\ p2 <= n /\ p2-p1 <= n-x /\ (∀ i,i < p1->g i=true) /\ (∀ i,p2 <= i->i < n->g i=false)) ?_ ?_ ⟨rfl,p1,p2,rfl,a1,a2,by omega,a3,a4⟩
  .rintro x c st' _ hx ⟨rfl,p1,p2,rfl,b1,b2,b3,b4,b5⟩
   dsimp only
   by_cases hge:p1≥p2
   .rw [if_pos hge]
    have:p1=p2:=by omega
    subst this
    exact wpS_pure ⟨p1,rfl,rfl,b2,b4,b5⟩
   rw [if_neg hge]
   refine wpS_bind (hp _ (by omega) _ ?_)
   cases e:g (p1+(p2-p1) / 2) with
   | true=>exact wpS_pure ⟨rfl,_,_,rfl,by omega,b2,by omega,fun i hi=>hm i _ (by omega) (by omega) e,b5⟩
   | false=>exact wpS_pure ⟨rfl,_,_,rfl,by omega,by omega,by omega,b4,fun i i1 i2=>hm' _ i i1 i2 e⟩
  .rintro c st' ⟨rfl,p1,p2,rfl,b1,b2,b3,b4,b5⟩
   have:p1=p2:=by omega
   subst this
   exact ⟨p1,rfl,rfl,b2,b4,b5⟩
 rw [gal_eq]
 refine wpS_bind (hp hint hh _ ?_)
 cases e0:g hint with
 | true=>
  refine wpS_bind (wpS_mono (wpS_forRange (I:=fun x c st'=>st'=st /\ ∃ o1 o2,c=(none,o1,o2) /\ o1 < o2 /\ x+1 <= o2 /\ hint+o1 < n /\ g (hint+o1)=true)
   (Q:=fun c st'=>st'=st /\ ∃ o1 o2,c=(none,o1,o2) /\ o1 < o2 /\ hint+o1 < n /\ g (hint+o1)=true /\ (o2≥n-hint∨(hint+o2 < n /\ g (hint+o2)=false))) ?_ ?_ ⟨rfl,0,1,rfl,by omega,by omega,by omega,e0⟩) ?_)
  .rintro x c st' _ hx ⟨rfl,o1,o2,rfl,b1,b2,b3,b4⟩
   dsimp only
   by_cases hge:o2≥n-hint
   .rw [if_pos hge]
    exact wpS_pure ⟨rfl,o1,o2,rfl,b1,b3,b4,.inl hge⟩
   rw [if_neg hge]
   refine wpS_bind (hp _ (by omega) _ ?_)
   cases e:g (hint+o2) with
   | true=>exact wpS_pure ⟨rfl,_,_,rfl,by omega,by omega,by omega,e⟩
   | false=>exact wpS_pure ⟨rfl,_,_,rfl,b1,b3,b4,.inr ⟨by omega,e⟩⟩
  .rintro c st' ⟨rfl,o1,o2,rfl,b1,b2,b3,b4⟩
   exact ⟨rfl,o1,o2,rfl,b1,b3,b4,.inl (by omega)⟩
  .rintro c st' ⟨rfl,o1,o2,rfl,b1,b3,b4,b5⟩
   dsimp only
   refine wpS_bind (wpS_mono (last (hint+o1+1) (hint+min o2 (n-hint)) (by omega) (by omega) (fun i hi=>hm i _ (by omega) b3 b4) fun i i1 i2=>?_) ?_)
   .rcases b5 with z | ⟨z1,z2⟩
    .omega
    .exact hm' _ i (by omega) i2 z2
   .rintro c st' ⟨k,rfl,rfl,k1,k2,k3⟩
    exact wpS_pure (h k k1 k2 k3)
 | false=>
  refine wpS_bind (wpS_mono (wpS_forRange (I:=fun x c st'=>st'=st /\ ∃ o1 o2,c=(none,o1,o2) /\ o1 < o2 /\ x+1 <= o2 /\ o1 <= hint /\ g (hint-o1)=false)
   (Q:=fun c st'=>st'=st /\ ∃ o1 o2,c=(none,o1,o2) /\ o1 < o2 /\ o1 <= hint /\ g (hint-o1)=false /\ (o2≥hint+1∨(o2 < hint+1 /\ g (hint-o2)=true))) ?_ ?_ ⟨rfl,0,1,rfl,by omega,by omega,by omega,e0⟩) ?_)
  .rintro x c st' _ hx ⟨rfl,o1,o2,rfl,b1,b2,b3,b4⟩
   dsimp only
   by_cases hge:o2≥hint+1
   .rw [if_pos hge]
    exact wpS_pure ⟨rfl,o1,o2,rfl,b1,b3,b4,.inl hge⟩
   rw [if_neg hge]
   refine wpS_bind (hp _ (by omega) _ ?_)
   cases e:g (hint-o2) with
   | true=>exact wpS_pure ⟨rfl,_,_,rfl,b1,b3,b4,.inr ⟨by omega,e⟩⟩
   | false=>exact wpS_pure ⟨rfl,_,_,rfl,by omega,by omega,by omega,e⟩
  .rintro c st' ⟨rfl,o1,o2,rfl,b1,b2,b3,b4⟩
   exact ⟨rfl,o1,o2,rfl,b1,b3,b4,.inl (by omega)⟩
  .rintro c st' ⟨rfl,o1,o2,rfl,b1,b3,b4,b5⟩
   dsimp only
   refine wpS_bind (wpS_mono (last (hint+1-min o2 (hint+1)) (hint-o1) (by omega) (by omega) (fun i hi=>?_) fun i i1 i2=>hm' _ i i1 i2 b4) ?_)
   .rcases b5 with z | ⟨z1,z2⟩
    .omega
    .exact hm i _ (by omega) (by omega) z2
   .rintro c st' ⟨k,rfl,rfl,k1,k2,k3⟩
    exact wpS_pure (h k k1 k2 k3)
end
end L2S
namespace L2S
open PySem PyProof.Rows
def mLo:Array Keyed->Array Keyed->StateT SortSt Sem (Array Keyed):=sortPriv% PySem.Builtin.mergeLo
abbrev setG (st:SortSt) (g:Nat):SortSt:=SortSt.mk' (kindOf st) (arrOf st) (pendingOf st) g (failedOf st)
theorem mLo_eq (a b:Array Keyed):mLo a b=(do
 rule "list.sort.merge-lo"
 let tt:=a.size+b.size
 let dn (o:Array Keyed) (i j:Nat):=o++a.extract i a.size++b.extract j b.size
 let la (o:Array Keyed) (i j:Nat):=o++b.extract j b.size++a.extract i a.size
 let mut o:Array Keyed:=#[<- elem' b 0]
 let mut i:=0
 let mut j:=1
 if j == b.size then return dn o i j
 if i+1 == a.size then return la o i j
 let mut mg:=gallopOf (<- get)
 for _ in [0:tt] do
  let mut ac:=0
  let mut bc:=0
  for _ in [0:tt] do
   let some w <- lt' (<- elem' b j) (<- elem' a i) | return dn o i j
   if w then
    o:=o.push (<- elem' b j);j:=j+1;bc:=bc+1;ac:=0
    if j == b.size then return dn o i j
    if bc≥mg then break
   else
    o:=o.push (<- elem' a i);i:=i+1;ac:=ac+1;bc:=0
    if i+1 == a.size then return la o i j
    if ac≥mg then break
  rule "list.sort.gallop"
  mg:=mg+1
  for _ in [0:tt] do
   if mg > 1 then mg:=mg-1
   modify fun st=>setG st mg
   let some k <- gal false (<- elem' b j) a i (a.size-i) 0 | return dn o i j
   ac:=k
   if k > 0 then
    o:=o++a.extract i (i+k);i:=i+k
    if i+1 == a.size then return la o i j
    if i == a.size then return dn o i j
   o:=o.push (<- elem' b j);j:=j+1
   if j == b.size then return dn o i j
   let some k <- gal true (<- elem' a i) b j (b.size-j) 0 | return dn o i j
   bc:=k
   if k > 0 then
    o:=o++b.extract j (j+k);j:=j+k
    if j == b.size then return dn o i j
   o:=o.push (<- elem' a i);i:=i+1
   if i+1 == a.size then return la o i j
   if ac < 7 && bc < 7 then break
  mg:=mg+1
  modify fun st=>setG st mg
 unsupported "internal:list.sort.merge-bound"):=rfl
def leK (f:Keyed->Int) (x y:Keyed):Prop:=f x <= f y
structure Jm (f:Keyed->Int) (as bs o:List Keyed) (i j:Nat):Prop where
 perm:o.Perm (as.take i++bs.take j)
 sa:(o++as.drop i).Pairwise (leK f)
 sb:(o++bs.drop j).Pairwise (leK f)
def Good (f:Keyed->Int) (as bs r:List Keyed):Prop:=r.Perm (as++bs) /\ r.Pairwise (leK f)
theorem take_more (as:List Keyed) (i k:Nat):as.take (i+k)=as.take i++(as.drop i).take k:=List.take_add
theorem drop_more (as:List Keyed) (i k:Nat):as.drop i=(as.drop i).take k++as.drop (i+k):=by rw [<- List.drop_drop,yBM]
section
variable {f:Keyed->Int} {as bs o:List Keyed} {i j:Nat}
theorem Jm.swap (h:Jm f as bs o i j):Jm f bs as o j i:=⟨h.perm.trans yCQ,h.sb,h.sa⟩
theorem Jm.chunk (h:Jm f as bs o i j) (k:Nat) (hc:∀ x∈(as.drop i).take k,∀ y∈bs.drop j,f x <= f y):Jm f as bs (o++(as.drop i).take k) (i+k) j:=by
 have sa:=h.sa
 rw [drop_more as i k,<- yAL] at sa
 refine ⟨?_,sa,?_⟩
 .rw [take_more]
  refine (List.Perm.append_right _ h.perm).trans ?_
  rw [yAL,yAL]
  exact List.Perm.append_left _ yCQ
 .obtain ⟨p1,p2,p3⟩:=yCG.mp h.sb
  obtain ⟨q1,q2,q3⟩:=yCG.mp sa
  refine yCG.mpr ⟨q1,p2,fun x hx y hy=>?_⟩
  rcases yAV.mp hx with z | z
  .exact p3 x z y hy
  .exact hc x z y hy
theorem Jm.dn (h:Jm f as bs o i j) (e:as.drop i=[]∨bs.drop j=[]):Good f as bs (o++as.drop i++bs.drop j):=by
 refine ⟨?_,?_⟩
 .have p:(o++as.drop i++bs.drop j).Perm ((as.take i++bs.take j)++as.drop i++bs.drop j):=List.Perm.append_right _ (List.Perm.append_right _ h.perm)
  refine p.trans ?_
  have e1:(as.take i++bs.take j++as.drop i++bs.drop j).Perm (as.take i++as.drop i++(bs.take j++bs.drop j)):=by
   rw [yAL,yAL,yAL]
   refine List.Perm.append_left _ ?_
   rw [<- yAL,<- yAL]
   exact List.Perm.append_right _ yCQ
  rw [yBM,yBM] at e1
  exact e1
 .rcases e with e | e
  .rw [e,yBB];exact h.sb
  .rw [e,yBB];exact h.sa
theorem Jm.la (h:Jm f as bs o i j) (hl:∀ x∈as.drop i,∀ y∈bs.drop j,f y <= f x):Good f as bs (o++bs.drop j++as.drop i):=by
 have c:=h.swap.chunk (bs.length-j) (fun x hx y hy=>hl y hy x (List.mem_of_mem_take hx))
 rw [yBP (by rw [yAU];exact yAA _)] at c
 have g:=c.dn (.inl (List.drop_eq_nil_of_le (by omega)))
 rw [List.drop_eq_nil_of_le (as:=bs) (i:=j+(bs.length-j)) (by omega),yBB] at g
 exact ⟨g.1.trans yCQ,g.2⟩
end
theorem ZEL (a:Array Keyed) (i:Nat):(a.extract i a.size).toList=a.toList.drop i:=by
 rw [yCH,yCI]
 exact yBP (by rw [yAU];simp)
theorem ZEt (a:Array Keyed) (i k:Nat):(a.extract i (i+k)).toList=(a.toList.drop i).take k:=by
 rw [yCH,yCI,show i+k-i=k by omega]
theorem ZFY {a:Array Keyed} {i:Nat} {x:Keyed} (h:a[i]?=some x):(a.toList.drop i).take 1=[x]:=by
 have hi:i < a.toList.length:=by
  rw [yAS]
  exact (yBX.mp h).1
 rw [yBZ hi]
 have:a.toList[i]=x:=by
  rw [yBX] at h
  obtain ⟨_,e⟩:=h
  simpa using e
 rw [this]
 simp
structure Ev (st st':SortSt):Prop where
 k:kindOf st'=kindOf st
 a:arrOf st'=arrOf st
 p:pendingOf st'=pendingOf st
 f:failedOf st'=failedOf st
theorem Ev.refl {st:SortSt}:Ev st st:=⟨rfl,rfl,rfl,rfl⟩
theorem Ev.setG {st st':SortSt} (h:Ev st st') (g:Nat):Ev st (setG st' g):=⟨h.k,h.a,h.p,h.f⟩
section
variable {M:Model} {A:Around} {E:Value->Shared->Prop} {s:Shared} {κ:SortKind} {a₀:Array Keyed} {f:Keyed->Int}
theorem ZAv {a:Array Keyed} {i:Nat} {x:Keyed} {st:SortSt} {Q:Keyed->SortSt->Prop} (h:a[i]?=some x) (q:Q x st):wpS M A E s (elem' a i) Q st:=by
 rw [elem'_eq,h]
 exact wpS_pure q
def InA (a₀ a:Array Keyed):Prop:=∀ x∈a.toList,x∈a₀.toList
theorem InA.get {a:Array Keyed} (h:InA a₀ a) {i:Nat} {x:Keyed} (e:a[i]?=some x):x∈a₀.toList:=h x (by rw [yBX] at e;obtain ⟨_,rfl⟩:=e;simp)
theorem ZBW {a:Array Keyed} {i:Nat} {x:Keyed} (e:a[i]?=some x):kn f a i=f x:=by unfold kn;rw [e];rfl
theorem ZCp {a:Array Keyed} {i:Nat} (h:i < a.size):∃ x,a[i]?=some x:=⟨_,getElem?_pos a i h⟩
theorem past_at {left:Bool} {key x:Keyed} {arr:Array Keyed} {base i:Nat} {st:SortSt} {Q:Option Bool->SortSt->Prop} (L:Asks M A E s κ a₀ f) (hk:kindOf st=κ) (hx:arr[base+i]?=some x) (h1:x∈a₀.toList) (h2:key∈a₀.toList)
  (q:Q (some (if left=true then decide (f x < f key) else !decide (f key < f x))) st):wpS M A E s (past left key arr base i) Q st:=by
 unfold past
 refine wpS_bind (ZAv hx ?_)
 cases left with
 | true=>exact L.lt x key h1 h2 st _ hk q
 | false=>
  refine wpS_bind (L.lt key x h2 h1 st _ hk ?_)
  exact wpS_pure q
theorem ZFd {key:Keyed} {arr:Array Keyed} {base n hint:Nat} {st:SortSt} {Q:Option Nat->SortSt->Prop} (L:Asks M A E s κ a₀ f) (hk:kindOf st=κ) (hi:InA a₀ arr) (hkey:key∈a₀.toList) (hh:hint < n) (hs:base+n <= arr.size) (hu:Up f arr base n)
  (h:∀ k,k <= n->(∀ i,i < k->kn f arr (base+i) <= f key)->(∀ i,k <= i->i < n->f key < kn f arr (base+i))->Q (some k) st):wpS M A E s (gal false key arr base n hint) Q st:=by
 refine gal_ok (fun i=>!decide (f key < kn f arr (base+i))) hh (fun i hin Q q=>?_) (fun i j z1 z2 z3=>?_) fun k k1 k2 k3=>h k k1 (fun i z=>?_) fun i z1 z2=>?_
 .obtain ⟨x,hx⟩:=ZCp (a:=arr) (i:=base+i) (by omega)
  refine past_at L hk hx (hi.get hx) hkey ?_
  rw [ZBW hx] at q
  exact q
 .have:=hu (base+i) (base+j) (by omega) (by omega) (by omega)
  simp at z3 ⊢
  omega
 .have:=k2 i z
  simp at this
  exact this
 .have:=k3 i z1 z2
  simp at this
  exact this
theorem ZEr {key:Keyed} {arr:Array Keyed} {base n hint:Nat} {st:SortSt} {Q:Option Nat->SortSt->Prop} (L:Asks M A E s κ a₀ f) (hk:kindOf st=κ) (hi:InA a₀ arr) (hkey:key∈a₀.toList) (hh:hint < n) (hs:base+n <= arr.size) (hu:Up f arr base n)
  (h:∀ k,k <= n->(∀ i,i < k->kn f arr (base+i) < f key)->(∀ i,k <= i->i < n->f key <= kn f arr (base+i))->Q (some k) st):wpS M A E s (gal true key arr base n hint) Q st:=by
 refine gal_ok (fun i=>decide (kn f arr (base+i) < f key)) hh (fun i hin Q q=>?_) (fun i j z1 z2 z3=>?_) fun k k1 k2 k3=>h k k1 (fun i z=>?_) fun i z1 z2=>?_
 .obtain ⟨x,hx⟩:=ZCp (a:=arr) (i:=base+i) (by omega)
  refine past_at L hk hx (hi.get hx) hkey ?_
  rw [ZBW hx] at q
  exact q
 .have:=hu (base+i) (base+j) (by omega) (by omega) (by omega)
  simp at z3 ⊢
  omega
 .have:=k2 i z
  simp at this
  exact this
 .have:=k3 i z1 z2
  simp at this
  exact this
theorem ZDO {a:Array Keyed} {i:Nat} {x:Keyed} (h:x∈a.toList.drop i):∃ k,i <= k /\ k < a.size /\ kn f a k=f x /\ a[k]?=some x:=by
 obtain ⟨n,hn⟩:=yBK h
 rw [yBJ] at hn
 rw [yBH] at hn
 exact ⟨i+n,by omega,(yBX.mp hn).1,ZBW hn,hn⟩
theorem mem_take {a:Array Keyed} {i k:Nat} {x:Keyed} (h:x∈(a.toList.drop i).take k):∃ n,i <= n /\ n < i+k /\ n < a.size /\ kn f a n=f x:=by
 obtain ⟨n,hn⟩:=yBK h
 have hl:=(yAH.mp hn).1
 rw [yAN] at hl
 rw [yBS (by omega),yBJ,yBH] at hn
 exact ⟨i+n,by omega,by omega,(yBX.mp hn).1,ZBW hn⟩
structure Two (a₀:Array Keyed) (f:Keyed->Int) (a b:Array Keyed):Prop where
 ia:InA a₀ a
 ib:InA a₀ b
 ua:Up f a 0 a.size
 ub:Up f b 0 b.size
 na:1 <= a.size
 nb:1 <= b.size
 lo:∀ i,i < a.size->kn f b 0 <= kn f a i
 hi:∀ j,j < b.size->kn f b j <= kn f a (a.size-1)
end
end L2S
namespace L2S
open PySem PyProof.Rows
abbrev C5:=Option (Array Keyed)×Array Keyed×Nat×Nat×Nat
abbrev C6:=Option (Array Keyed)×Array Keyed×Nat×Nat×Nat×Nat
abbrev C7:=Option (Array Keyed)×Array Keyed×Nat×Nat×Nat×Nat×Nat
abbrev SM (α:Type):=StateT SortSt Sem α
abbrev dnA (a b o:Array Keyed) (i j:Nat):Array Keyed:=o++a.extract i a.size++b.extract j b.size
abbrev laA (a b o:Array Keyed) (i j:Nat):Array Keyed:=o++b.extract j b.size++a.extract i a.size
def lo1 (a b:Array Keyed) (mg:Nat) (c:C6):SM (ForInStep C6):=do
 let y <- elem' b c.2.2.2.1
 let x <- elem' a c.2.2.1
 let r <- lt' y x
 match r with
 | some w=>
  if w=true then do
   let y <- elem' b c.2.2.2.1
   if (c.2.2.2.1+1 == b.size)=true then pure (.done (some (dnA a b (c.2.1.push y) c.2.2.1 (c.2.2.2.1+1)),c.2.1.push y,c.2.2.1,c.2.2.2.1+1,0,c.2.2.2.2.2+1))
   else if c.2.2.2.2.2+1≥mg then pure (.done (none,c.2.1.push y,c.2.2.1,c.2.2.2.1+1,0,c.2.2.2.2.2+1))
   else pure (.yield (none,c.2.1.push y,c.2.2.1,c.2.2.2.1+1,0,c.2.2.2.2.2+1))
  else do
   let x <- elem' a c.2.2.1
   if (c.2.2.1+1+1 == a.size)=true then pure (.done (some (laA a b (c.2.1.push x) (c.2.2.1+1) c.2.2.2.1),c.2.1.push x,c.2.2.1+1,c.2.2.2.1,c.2.2.2.2.1+1,0))
   else if c.2.2.2.2.1+1≥mg then pure (.done (none,c.2.1.push x,c.2.2.1+1,c.2.2.2.1,c.2.2.2.2.1+1,0))
   else pure (.yield (none,c.2.1.push x,c.2.2.1+1,c.2.2.2.1,c.2.2.2.2.1+1,0))
 | _=>pure (.done (some (dnA a b c.2.1 c.2.2.1 c.2.2.2.1),c.2.1,c.2.2.1,c.2.2.2.1,c.2.2.2.2.1,c.2.2.2.2.2))
def lo4 (a b:Array Keyed) (g ac bc:Nat) (o:Array Keyed) (i j:Nat):SM (ForInStep C7):=do
 let x <- elem' a i
 if (i+1+1 == a.size)=true then pure (.done (some (laA a b (o.push x) (i+1) j),o.push x,i+1,j,g,ac,bc))
 else if (decide (ac < 7) && decide (bc < 7))=true then pure (.done (none,o.push x,i+1,j,g,ac,bc))
 else pure (.yield (none,o.push x,i+1,j,g,ac,bc))
def lo3 (a b:Array Keyed) (g ac bc:Nat) (o:Array Keyed) (i j:Nat):SM (ForInStep C7):=do
 let y <- elem' b j
 if (j+1 == b.size)=true then pure (.done (some (dnA a b (o.push y) i (j+1)),o.push y,i,j+1,g,ac,bc))
 else do
  let x <- elem' a i
  let r <- gal true x b (j+1) (b.size-(j+1)) 0
  match r with
  | some k=>
   if k > 0 then
    if (j+1+k == b.size)=true then pure (.done (some (dnA a b (o.push y++b.extract (j+1) (j+1+k)) i (j+1+k)),o.push y++b.extract (j+1) (j+1+k),i,j+1+k,g,ac,k))
    else lo4 a b g ac k (o.push y++b.extract (j+1) (j+1+k)) i (j+1+k)
   else lo4 a b g ac k (o.push y) i (j+1)
  | _=>pure (.done (some (dnA a b (o.push y) i (j+1)),o.push y,i,j+1,g,ac,bc))
def lo2 (a b:Array Keyed) (g ac bc:Nat) (o:Array Keyed) (i j:Nat):SM (ForInStep C7):=do
 modify fun st=>setG st g
 let y <- elem' b j
 let r <- gal false y a i (a.size-i) 0
 match r with
 | some k=>
  if k > 0 then
   if (i+k+1 == a.size)=true then pure (.done (some (laA a b (o++a.extract i (i+k)) (i+k) j),o++a.extract i (i+k),i+k,j,g,k,bc))
   else if (i+k == a.size)=true then pure (.done (some (dnA a b (o++a.extract i (i+k)) (i+k) j),o++a.extract i (i+k),i+k,j,g,k,bc))
   else lo3 a b g k bc (o++a.extract i (i+k)) (i+k) j
  else lo3 a b g k bc o i j
 | _=>pure (.done (some (dnA a b o i j),o,i,j,g,ac,bc))
def loB (a b:Array Keyed) (c:C7):SM (ForInStep C7) :=
 if c.2.2.2.2.1 > 1 then lo2 a b (c.2.2.2.2.1-1) c.2.2.2.2.2.1 c.2.2.2.2.2.2 c.2.1 c.2.2.1 c.2.2.2.1
 else lo2 a b c.2.2.2.2.1 c.2.2.2.2.2.1 c.2.2.2.2.2.2 c.2.1 c.2.2.1 c.2.2.2.1
def loO (a b:Array Keyed) (c:C5):SM (ForInStep C5):=do
 let c1 <- forIn [0:a.size+b.size] ((none,c.2.1,c.2.2.1,c.2.2.2.1,0,0):C6) fun _ d=>lo1 a b c.2.2.2.2 d
 match c1.1 with
 | some r=>pure (.done (some r,c1.2.1,c1.2.2.1,c1.2.2.2.1,c.2.2.2.2))
 | none=>do
  liftM (rule "list.sort.gallop")
  let c2 <- forIn [0:a.size+b.size] ((none,c1.2.1,c1.2.2.1,c1.2.2.2.1,c.2.2.2.2+1,c1.2.2.2.2.1,c1.2.2.2.2.2):C7) fun _ d=>loB a b d
  match c2.1 with
  | some r=>pure (.done (some r,c2.2.1,c2.2.2.1,c2.2.2.2.1,c2.2.2.2.2.1))
  | none=>do
   modify fun st=>setG st (c2.2.2.2.2.1+1)
   pure (.yield (none,c2.2.1,c2.2.2.1,c2.2.2.2.1,c2.2.2.2.2.1+1))
theorem bnd2 {α β:Type} {m m':StateT SortSt Sem α} {g h:α->StateT SortSt Sem β} (e0:m=m') (e:∀ a,g a=h a):(m >>= g)=(m' >>= h):=by rw [e0,show g=h from funext e]
theorem for2 {β:Type} {r:Std.Legacy.Range} {c:β} {g h:Nat->β->StateT SortSt Sem (ForInStep β)} (e:∀ x c,g x c=h x c):forIn r c g=forIn r c h:=by rw [show g=h from funext fun x=>funext (e x)]
theorem if2 {α:Type} {c:Prop} [Decidable c] {x y x' y':α} (e1:x=x') (e2:y=y'):(if c then x else y)=(if c then x' else y'):=by rw [e1,e2]
theorem mLo_low (a b:Array Keyed):mLo a b=(do
 liftM (rule "list.sort.merge-lo")
 let y <- elem' b 0
 if (1 == b.size)=true then pure (dnA a b #[y] 0 1)
 else if (0+1 == a.size)=true then pure (laA a b #[y] 0 1)
 else do
  let st <- get
  let c <- forIn [0:a.size+b.size] ((none,#[y],0,1,gallopOf st):C5) fun _ d=>loO a b d
  match c.1 with
  | some r=>pure r
  | none=>liftM (unsupported "internal:list.sort.merge-bound":Sem (Array Keyed))):=by
 rw [mLo_eq]
 refine bnd _ fun _=>bnd _ fun y=>?_
 refine if2 rfl (if2 rfl ?_)
 refine bnd _ fun st=>bnd2 (for2 fun _ c=>?_) fun c=>?_
 .unfold loO
  refine bnd2 (for2 fun _ d=>?_) fun c1=>?_
  .rfl
  .obtain ⟨r,o,i,j,ac,bc⟩:=c1
   cases r with
   | some r=>rfl
   | none=>
    refine bnd2 rfl fun _=>bnd2 (for2 fun _ d=>?_) fun c2=>?_
    .unfold loB
     refine if2 ?_ ?_
     all_goals
      unfold lo2
      refine bnd2 rfl fun _=>bnd2 rfl fun y=>bnd2 rfl fun r=>?_
      cases r with
      | none=>rfl
      | some k=>
       refine if2 (if2 rfl (if2 rfl ?_)) ?_
       all_goals
        unfold lo3
        refine bnd2 rfl fun y2=>if2 rfl (bnd2 rfl fun x2=>bnd2 rfl fun r2=>?_)
        cases r2 with
        | none=>rfl
        | some k2=>
         refine if2 (if2 rfl ?_) ?_
         all_goals
          unfold lo4
          refine bnd2 rfl fun x3=>if2 rfl (if2 rfl rfl)
    .obtain ⟨r,o,i,j,g,ac,bc⟩:=c2
     cases r with
     | some r=>rfl
     | none=>rfl
 .obtain ⟨r,o,i,j,g⟩:=c
  cases r with
  | some r=>rfl
  | none=>rfl
end L2S
namespace L2S
open PySem PyProof.Rows
section
variable {M:Model} {A:Around} {E:Value->Shared->Prop} {s:Shared} {κ:SortKind} {a₀:Array Keyed} {f:Keyed->Int} {a b o:Array Keyed} {i j:Nat}
theorem ZFi {a:Array Keyed} (h:Up f a 0 a.size):a.toList.Pairwise (leK f):=by
 rw [List.pairwise_iff_getElem]
 intro i j hi hj hij
 rw [yAS] at hi hj
 have:=h i j (yAI _) (yBO hij) (by omega)
 rw [ZBW (getElem?_pos a i hi),ZBW (getElem?_pos a j hj)] at this
 simpa [leK] using this
abbrev JA (f:Keyed->Int) (a b o:Array Keyed) (i j:Nat):Prop:=Jm f a.toList b.toList o.toList i j
abbrev Fin (f:Keyed->Int) (a b r:Array Keyed):Prop:=Good f a.toList b.toList r.toList
theorem JA.dn (h:JA f a b o i j) (e:a.size <= i∨b.size <= j):Fin f a b (dnA a b o i j):=by
 have g:=Jm.dn h (e.imp (fun z=>List.drop_eq_nil_of_le (by rw [yAS];exact z)) (fun z=>List.drop_eq_nil_of_le (by rw [yAS];exact z)))
 unfold Fin dnA
 rw [yBV,yBV,ZEL,ZEL]
 exact g
theorem JA.la (h:JA f a b o i j) (T:Two a₀ f a b) (e:i+1=a.size):Fin f a b (laA a b o i j):=by
 have g:=Jm.la h fun x hx y hy=>by
  obtain ⟨k,k1,k2,k3,_⟩:=ZDO (f:=f) hx
  obtain ⟨n,n1,n2,n3,_⟩:=ZDO (f:=f) hy
  have:=T.hi n n2
  rw [show a.size-1=k by omega,k3,n3] at this
  exact this
 unfold Fin laA
 rw [yBV,yBV,ZEL,ZEL]
 exact g
theorem JA.pushA {x:Keyed} (h:JA f a b o i j) (hx:a[i]?=some x) (hc:∀ n,j <= n->n < b.size->f x <= kn f b n):JA f a b (o.push x) (i+1) j:=by
 have g:=Jm.chunk h 1 fun u hu y hy=>by
  rw [ZFY hx,yAM] at hu
  obtain ⟨n,n1,n2,n3,_⟩:=ZDO (f:=f) hy
  rw [hu,<- n3]
  exact hc n n1 n2
 rw [ZFY hx] at g
 unfold JA
 rw [Array.toList_push]
 exact g
theorem JA.pushB {x:Keyed} (h:JA f a b o i j) (hx:b[j]?=some x) (hc:∀ n,i <= n->n < a.size->f x <= kn f a n):JA f a b (o.push x) i (j+1) :=
 (JA.pushA (Jm.swap h) hx hc).swap
theorem JA.chunkA (h:JA f a b o i j) (k:Nat) (hc:∀ n m,i <= n->n < i+k->n < a.size->j <= m->m < b.size->kn f a n <= kn f b m):JA f a b (o++a.extract i (i+k)) (i+k) j:=by
 have g:=Jm.chunk h k fun u hu y hy=>by
  obtain ⟨n,n1,n2,n3,n4⟩:=mem_take (f:=f) hu
  obtain ⟨m,m1,m2,m3,_⟩:=ZDO (f:=f) hy
  rw [<- n4,<- m3]
  exact hc n m n1 n2 n3 m1 m2
 unfold JA
 rw [yBV,ZEt]
 exact g
theorem JA.chunkB (h:JA f a b o i j) (k:Nat) (hc:∀ n m,j <= n->n < j+k->n < b.size->i <= m->m < a.size->kn f b n <= kn f a m):JA f a b (o++b.extract j (j+k)) i (j+k) :=
 (JA.chunkA (Jm.swap h) k hc).swap
theorem Up.sub {xs:Array Keyed} {n:Nat} (h:Up f xs 0 n) {lo m:Nat} (e:lo+m <= n):Up f xs lo m:=fun i j z1 z2 z3=>h i j (yAI _) z2 (by omega)
def R7 (f:Keyed->Int) (a b:Array Keyed) (st:SortSt) (x:Nat):ForInStep C7->SortSt->Prop
 | .done c,st'=>Ev st st' /\ ((∃ r z,c=(some r,z) /\ Fin f a b r)∨∃ o i j g ac bc,c=(none,o,i,j,g,ac,bc) /\ JA f a b o i j /\ i+1 < a.size /\ j < b.size /\ x+2 <= i+j)
 | .yield c,st'=>Ev st st' /\ ∃ o i j g ac bc,c=(none,o,i,j,g,ac,bc) /\ JA f a b o i j /\ i+1 < a.size /\ j < b.size /\ x+2 <= i+j
theorem mLo_ok {st:SortSt} {Q:Array Keyed->SortSt->Prop} (L:Asks M A E s κ a₀ f) (hk:kindOf st=κ) (T:Two a₀ f a b) (h:∀ r st',Ev st st'->Fin f a b r->Q r st'):wpS M A E s (mLo a b) Q st:=by
 have ta:=T.na
 have tb:=T.nb
 have ua:∀ n m,n <= m->m < a.size->kn f a n <= kn f a m:=fun n m z1 z2=>T.ua n m (yAI _) z1 (by omega)
 have ub:∀ n m,n <= m->m < b.size->kn f b n <= kn f b m:=fun n m z1 z2=>T.ub n m (yAI _) z1 (by omega)
 rw [mLo_low]
 refine wpS_bind (wpS_lift (wpAny_rule ⟨rfl,?_⟩))
 obtain ⟨y0,hy0⟩:=ZCp (a:=b) (i:=0) (by omega)
 refine wpS_bind (ZAv hy0 ?_)
 have J0:JA f a b #[y0] 0 1:=by
  have e:JA f a b #[] 0 0:=⟨by simp,by simpa using ZFi T.ua,by simpa using ZFi T.ub⟩
  have:=JA.pushB e hy0 fun n _ n2=>by rw [<- ZBW (f:=f) hy0];exact T.lo n n2
  exact this
 by_cases c1:1=b.size
 .rw [if_pos (by simpa using c1)]
  exact wpS_pure (h _ st .refl (J0.dn (.inr (by omega))))
 rw [if_neg (by simpa using c1)]
 by_cases c2:0+1=a.size
 .rw [if_pos (by simpa using c2)]
  exact wpS_pure (h _ st .refl (J0.la T c2))
 rw [if_neg (by simpa using c2)]
 refine wpS_bind (wpS_get ?_)
 refine wpS_bind (wpS_mono (wpS_forRange (I:=fun x c st'=>Ev st st' /\ ∃ o i j g,c=(none,o,i,j,g) /\ JA f a b o i j /\ i+1 < a.size /\ j < b.size /\ x+1 <= i+j) (Q:=fun c st'=>Ev st st' /\ ∃ r z,c=(some r,z) /\ Fin f a b r) ?_ ?_ ⟨.refl,_,0,1,_,rfl,J0,by omega,by omega,by omega⟩) ?_)
 .rintro x c st1 _ hx ⟨e1,o,i,j,g,rfl,J,hi,hj,hp⟩
  unfold loO
  dsimp only
  refine wpS_bind (wpS_mono (wpS_forRange (I:=fun y c st'=>Ev st st' /\ ∃ o i j ac bc,c=(none,o,i,j,ac,bc) /\ JA f a b o i j /\ i+1 < a.size /\ j < b.size /\ x+1+y <= i+j)
   (Q:=fun c st'=>Ev st st' /\ ((∃ r z,c=(some r,z) /\ Fin f a b r)∨∃ o i j ac bc,c=(none,o,i,j,ac,bc) /\ JA f a b o i j /\ i+1 < a.size /\ j < b.size /\ x+2 <= i+j)) ?_ ?_ ⟨e1,o,i,j,0,0,rfl,J,hi,hj,by omega⟩) ?_)
  .rintro y c st2 _ hy ⟨e2,o,i,j,ac,bc,rfl,J,hi,hj,hp⟩
   unfold lo1
   dsimp only
   obtain ⟨yb,hyb⟩:=ZCp (a:=b) hj
   obtain ⟨xa,hxa⟩:=ZCp (a:=a) (i:=i) (by omega)
   refine wpS_bind (ZAv hyb ?_)
   refine wpS_bind (ZAv hxa ?_)
   refine wpS_bind (L.lt yb xa (T.ib.get hyb) (T.ia.get hxa) st2 _ (e2.k.trans hk) ?_)
   by_cases hw:f yb < f xa
   .rw [decide_eq_true hw]
    dsimp only
    rw [if_pos rfl]
    refine wpS_bind (ZAv hyb ?_)
    have J2:=J.pushB hyb fun n n1 n2=>by
     have:=ua i n n1 n2
     rw [ZBW hxa] at this
     omega
    by_cases c3:j+1=b.size
    .rw [if_pos (by simpa using c3)]
     exact wpS_pure ⟨e2,.inl ⟨_,_,rfl,J2.dn (.inr (by omega))⟩⟩
    rw [if_neg (by simpa using c3)]
    split
    .exact wpS_pure ⟨e2,.inr ⟨_,_,_,_,_,rfl,J2,hi,by omega,by omega⟩⟩
    .exact wpS_pure ⟨e2,_,_,_,_,_,rfl,J2,hi,by omega,by omega⟩
   .rw [decide_eq_false hw]
    dsimp only
    rw [if_neg (by decide)]
    refine wpS_bind (ZAv hxa ?_)
    have J2:=J.pushA hxa fun n n1 n2=>by
     have:=ub j n n1 n2
     rw [ZBW hyb] at this
     omega
    by_cases c3:i+1+1=a.size
    .rw [if_pos (by simpa using c3)]
     exact wpS_pure ⟨e2,.inl ⟨_,_,rfl,J2.la T c3⟩⟩
    rw [if_neg (by simpa using c3)]
    split
    .exact wpS_pure ⟨e2,.inr ⟨_,_,_,_,_,rfl,J2,by omega,hj,by omega⟩⟩
    .exact wpS_pure ⟨e2,_,_,_,_,_,rfl,J2,by omega,hj,by omega⟩
  .rintro c st2 ⟨e2,o,i,j,ac,bc,rfl,J,hi,hj,hp⟩
   exact ⟨e2,.inr ⟨_,_,_,_,_,rfl,J,hi,hj,by omega⟩⟩
  .rintro c st2 ⟨e2,⟨r,z,rfl,hr⟩ | ⟨o,i,j,ac,bc,rfl,J,hi,hj,hp⟩⟩
   .exact wpS_pure ⟨e2,r,_,rfl,hr⟩
   dsimp only
   refine wpS_bind (wpS_lift (wpAny_rule ⟨rfl,?_⟩))
   refine wpS_bind (wpS_mono (wpS_forRange (I:=fun y c st'=>Ev st st' /\ ∃ o i j g ac bc,c=(none,o,i,j,g,ac,bc) /\ JA f a b o i j /\ i+1 < a.size /\ j < b.size /\ x+2 <= i+j)
    (Q:=fun c st'=>Ev st st' /\ ((∃ r z,c=(some r,z) /\ Fin f a b r)∨∃ o i j g ac bc,c=(none,o,i,j,g,ac,bc) /\ JA f a b o i j /\ i+1 < a.size /\ j < b.size /\ x+2 <= i+j)) ?_ ?_ ⟨e2,o,i,j,_,ac,bc,rfl,J,hi,hj,hp⟩) ?_)
   .rintro y c st3 _ hy ⟨e3,o,i,j,g,ac,bc,rfl,J,hi,hj,hp⟩
    have four:∀ (g ac bc:Nat) (o:Array Keyed) (i j:Nat) (st4:SortSt) (xa:Keyed),Ev st st4->JA f a b o i j->i+1 < a.size->j < b.size->x+2 <= i+j->a[i]?=some xa->(∀ n,j <= n->n < b.size->f xa <= kn f b n) ->
      wpS M A E s (lo4 a b g ac bc o i j) (R7 f a b st x) st4:=by
     intro g ac bc o i j st4 xa e4 J hi hj hp hxa hle
     unfold lo4
     refine wpS_bind (ZAv hxa ?_)
     have J2:=J.pushA hxa hle
     by_cases c3:i+1+1=a.size
     .rw [if_pos (by simpa using c3)]
      exact wpS_pure ⟨e4,.inl ⟨_,_,rfl,J2.la T c3⟩⟩
     rw [if_neg (by simpa using c3)]
     split
     .exact wpS_pure ⟨e4,.inr ⟨_,_,_,_,_,_,rfl,J2,by omega,hj,by omega⟩⟩
     .exact wpS_pure ⟨e4,_,_,_,_,_,_,rfl,J2,by omega,hj,by omega⟩
    have three:∀ (g ac bc:Nat) (o:Array Keyed) (i j:Nat) (st4:SortSt) (yb:Keyed),Ev st st4->JA f a b o i j->i+1 < a.size->j < b.size->x+2 <= i+j->b[j]?=some yb->(∀ n,i <= n->n < a.size->f yb <= kn f a n) ->
      wpS M A E s (lo3 a b g ac bc o i j) (R7 f a b st x) st4:=by
     intro g ac bc o i j st4 yb e4 J hi hj hp hyb hle
     unfold lo3
     refine wpS_bind (ZAv hyb ?_)
     have J2:=J.pushB hyb hle
     by_cases c3:j+1=b.size
     .rw [if_pos (by simpa using c3)]
      exact wpS_pure ⟨e4,.inl ⟨_,_,rfl,J2.dn (.inr (by omega))⟩⟩
     rw [if_neg (by simpa using c3)]
     obtain ⟨xa,hxa⟩:=ZCp (a:=a) (i:=i) (by omega)
     refine wpS_bind (ZAv hxa ?_)
     refine wpS_bind (ZEr L (e4.k.trans hk) T.ib (T.ia.get hxa) (by omega) (by omega) (T.ub.sub (by omega)) fun k k1 k2 k3=>?_)
     dsimp only
     have rest:∀ n,j+1+k <= n->n < b.size->f xa <= kn f b n:=fun n n1 n2=>by
      have:=k3 (n-(j+1)) (by omega) (by omega)
      rw [show j+1+(n-(j+1))=n by omega] at this
      exact this
     by_cases hk0:k > 0
     .rw [if_pos hk0]
      have J3:=J2.chunkB k fun n m n1 n2 n3 m1 m2=>by
       have z:=k2 (n-(j+1)) (by omega)
       rw [show j+1+(n-(j+1))=n by omega] at z
       have z2:=ua i m m1 m2
       rw [ZBW hxa] at z2
       omega
      by_cases c4:j+1+k=b.size
      .rw [if_pos (by simpa using c4)]
       exact wpS_pure ⟨e4,.inl ⟨_,_,rfl,J3.dn (.inr (by omega))⟩⟩
      rw [if_neg (by simpa using c4)]
      exact four _ _ _ _ _ _ _ xa e4 J3 hi (by omega) (by omega) hxa rest
     .rw [if_neg hk0]
      have:k=0:=by omega
      subst this
      exact four _ _ _ _ _ _ _ xa e4 J2 hi (by omega) (by omega) hxa rest
    have two:∀ (g ac bc:Nat),wpS M A E s (lo2 a b g ac bc o i j) (R7 f a b st x) st3:=by
     intro g ac bc
     unfold lo2
     obtain ⟨yb,hyb⟩:=ZCp (a:=b) hj
     refine wpS_bind (wpS_modify ?_)
     have e4:=e3.setG g
     refine wpS_bind (ZAv hyb ?_)
     refine wpS_bind (ZFd L (e4.k.trans hk) T.ia (T.ib.get hyb) (by omega) (by omega) (T.ua.sub (by omega)) fun k k1 k2 k3=>?_)
     dsimp only
     have rest:∀ n,i+k <= n->n < a.size->f yb <= kn f a n:=fun n n1 n2=>by
      have:=k3 (n-i) (by omega) (by omega)
      rw [show i+(n-i)=n by omega] at this
      omega
     by_cases hk0:k > 0
     .rw [if_pos hk0]
      have J3:=J.chunkA k fun n m n1 n2 n3 m1 m2=>by
       have z:=k2 (n-i) (by omega)
       rw [show i+(n-i)=n by omega] at z
       have z2:=ub j m m1 m2
       rw [ZBW hyb] at z2
       omega
      by_cases c4:i+k+1=a.size
      .rw [if_pos (by simpa using c4)]
       exact wpS_pure ⟨e4,.inl ⟨_,_,rfl,J3.la T c4⟩⟩
      rw [if_neg (by simpa using c4)]
      by_cases c5:i+k=a.size
      .rw [if_pos (by simpa using c5)]
       exact wpS_pure ⟨e4,.inl ⟨_,_,rfl,J3.dn (.inl (by omega))⟩⟩
      rw [if_neg (by simpa using c5)]
      exact three _ _ _ _ _ _ _ yb e4 J3 (by omega) hj (by omega) hyb rest
     .rw [if_neg hk0]
      have:k=0:=by omega
      subst this
      exact three _ _ _ _ _ _ _ yb e4 J hi hj hp hyb rest
    unfold loB
    dsimp only
    split
    .exact wpS_mono (two _ _ _) fun r st' z=>by cases r <;> exact z
    .exact wpS_mono (two _ _ _) fun r st' z=>by cases r <;> exact z
   .rintro c st3 ⟨e3,o,i,j,g,ac,bc,rfl,J,hi,hj,hp⟩
    exact ⟨e3,.inr ⟨_,_,_,_,_,_,rfl,J,hi,hj,hp⟩⟩
   .rintro c st3 ⟨e3,⟨r,z,rfl,hr⟩ | ⟨o,i,j,g,ac,bc,rfl,J,hi,hj,hp⟩⟩
    .exact wpS_pure ⟨e3,r,_,rfl,hr⟩
    .dsimp only
     exact wpS_bind (wpS_modify (wpS_pure ⟨e3.setG _,_,_,_,_,rfl,J,hi,hj,by omega⟩))
 .rintro c st1 ⟨e1,o,i,j,g,rfl,J,hi,hj,hp⟩
  omega
 .rintro c st1 ⟨e1,r,z,rfl,hr⟩
  exact wpS_pure (h r st1 e1 hr)
end
end L2S
namespace L2S
open PySem PyProof.Rows
def mHi:Array Keyed->Array Keyed->StateT SortSt Sem (Array Keyed):=sortPriv% PySem.Builtin.mergeHi
theorem mHi_eq (a b:Array Keyed):mHi a b=(do
 rule "list.sort.merge-hi"
 let tt:=a.size+b.size
 let dn (o:Array Keyed) (i j:Nat):=a.extract 0 i++b.extract 0 j++o.reverse
 let fb (o:Array Keyed) (i j:Nat):=b.extract 0 j++a.extract 0 i++o.reverse
 let mut i:=a.size-1
 let mut j:=b.size
 let mut o:Array Keyed:=#[<- elem' a i]
 if i == 0 then return dn o i j
 if j == 1 then return fb o i j
 let mut mg:=gallopOf (<- get)
 for _ in [0:tt] do
  let mut ac:=0
  let mut bc:=0
  for _ in [0:tt] do
   let some w <- lt' (<- elem' b (j-1)) (<- elem' a (i-1)) | return dn o i j
   if w then
    i:=i-1;o:=o.push (<- elem' a i);ac:=ac+1;bc:=0
    if i == 0 then return dn o i j
    if ac≥mg then break
   else
    j:=j-1;o:=o.push (<- elem' b j);bc:=bc+1;ac:=0
    if j == 1 then return fb o i j
    if bc≥mg then break
  rule "list.sort.gallop"
  mg:=mg+1
  for _ in [0:tt] do
   if mg > 1 then mg:=mg-1
   modify fun st=>setG st mg
   let some t <- gal false (<- elem' b (j-1)) a 0 i (i-1) | return dn o i j
   let k:=i-t
   ac:=k
   if k > 0 then
    o:=o++(a.extract t i).reverse;i:=t
    if i == 0 then return dn o i j
   j:=j-1;o:=o.push (<- elem' b j)
   if j == 1 then return fb o i j
   let some t <- gal true (<- elem' a (i-1)) b 0 j (j-1) | return dn o i j
   let k:=j-t
   bc:=k
   if k > 0 then
    o:=o++(b.extract t j).reverse;j:=t
    if j == 1 then return fb o i j
    if j == 0 then return dn o i j
   i:=i-1;o:=o.push (<- elem' a i)
   if i == 0 then return dn o i j
   if ac < 7 && bc < 7 then break
  mg:=mg+1
  modify fun st=>setG st mg
 unsupported "internal:list.sort.merge-bound"):=rfl
abbrev D5:=Option (Array Keyed)×Nat×Nat×Array Keyed×Nat
abbrev D6:=Option (Array Keyed)×Nat×Nat×Array Keyed×Nat×Nat
abbrev D7:=Option (Array Keyed)×Nat×Nat×Array Keyed×Nat×Nat×Nat
abbrev dnH (a b o:Array Keyed) (i j:Nat):Array Keyed:=a.extract 0 i++b.extract 0 j++o.reverse
abbrev fbH (a b o:Array Keyed) (i j:Nat):Array Keyed:=b.extract 0 j++a.extract 0 i++o.reverse
def hi1 (a b:Array Keyed) (mg:Nat) (c:D6):SM (ForInStep D6):=do
 let y <- elem' b (c.2.2.1-1)
 let x <- elem' a (c.2.1-1)
 let r <- lt' y x
 match r with
 | some w=>
  if w=true then do
   let x <- elem' a (c.2.1-1)
   if (c.2.1-1 == 0)=true then pure (.done (some (dnH a b (c.2.2.2.1.push x) (c.2.1-1) c.2.2.1),c.2.1-1,c.2.2.1,c.2.2.2.1.push x,c.2.2.2.2.1+1,0))
   else if c.2.2.2.2.1+1≥mg then pure (.done (none,c.2.1-1,c.2.2.1,c.2.2.2.1.push x,c.2.2.2.2.1+1,0))
   else pure (.yield (none,c.2.1-1,c.2.2.1,c.2.2.2.1.push x,c.2.2.2.2.1+1,0))
  else do
   let y <- elem' b (c.2.2.1-1)
   if (c.2.2.1-1 == 1)=true then pure (.done (some (fbH a b (c.2.2.2.1.push y) c.2.1 (c.2.2.1-1)),c.2.1,c.2.2.1-1,c.2.2.2.1.push y,0,c.2.2.2.2.2+1))
   else if c.2.2.2.2.2+1≥mg then pure (.done (none,c.2.1,c.2.2.1-1,c.2.2.2.1.push y,0,c.2.2.2.2.2+1))
   else pure (.yield (none,c.2.1,c.2.2.1-1,c.2.2.2.1.push y,0,c.2.2.2.2.2+1))
 | _=>pure (.done (some (dnH a b c.2.2.2.1 c.2.1 c.2.2.1),c.2.1,c.2.2.1,c.2.2.2.1,c.2.2.2.2.1,c.2.2.2.2.2))
def hi4 (a b:Array Keyed) (g ac bc:Nat) (o:Array Keyed) (i j:Nat):SM (ForInStep D7):=do
 let x <- elem' a (i-1)
 if (i-1 == 0)=true then pure (.done (some (dnH a b (o.push x) (i-1) j),i-1,j,o.push x,g,ac,bc))
 else if (decide (ac < 7) && decide (bc < 7))=true then pure (.done (none,i-1,j,o.push x,g,ac,bc))
 else pure (.yield (none,i-1,j,o.push x,g,ac,bc))
def hi3 (a b:Array Keyed) (g ac bc:Nat) (o:Array Keyed) (i j:Nat):SM (ForInStep D7):=do
 let y <- elem' b (j-1)
 if (j-1 == 1)=true then pure (.done (some (fbH a b (o.push y) i (j-1)),i,j-1,o.push y,g,ac,bc))
 else do
  let x <- elem' a (i-1)
  let r <- gal true x b 0 (j-1) (j-1-1)
  match r with
  | some t=>
   if j-1-t > 0 then
    if (t == 1)=true then pure (.done (some (fbH a b (o.push y++(b.extract t (j-1)).reverse) i t),i,t,o.push y++(b.extract t (j-1)).reverse,g,ac,j-1-t))
    else if (t == 0)=true then pure (.done (some (dnH a b (o.push y++(b.extract t (j-1)).reverse) i t),i,t,o.push y++(b.extract t (j-1)).reverse,g,ac,j-1-t))
    else hi4 a b g ac (j-1-t) (o.push y++(b.extract t (j-1)).reverse) i t
   else hi4 a b g ac (j-1-t) (o.push y) i (j-1)
  | _=>pure (.done (some (dnH a b (o.push y) i (j-1)),i,j-1,o.push y,g,ac,bc))
def hi2 (a b:Array Keyed) (g ac bc:Nat) (o:Array Keyed) (i j:Nat):SM (ForInStep D7):=do
 modify fun st=>setG st g
 let y <- elem' b (j-1)
 let r <- gal false y a 0 i (i-1)
 match r with
 | some t=>
  if i-t > 0 then
   if (t == 0)=true then pure (.done (some (dnH a b (o++(a.extract t i).reverse) t j),t,j,o++(a.extract t i).reverse,g,i-t,bc))
   else hi3 a b g (i-t) bc (o++(a.extract t i).reverse) t j
  else hi3 a b g (i-t) bc o i j
 | _=>pure (.done (some (dnH a b o i j),i,j,o,g,ac,bc))
def hiB (a b:Array Keyed) (c:D7):SM (ForInStep D7) :=
 if c.2.2.2.2.1 > 1 then hi2 a b (c.2.2.2.2.1-1) c.2.2.2.2.2.1 c.2.2.2.2.2.2 c.2.2.2.1 c.2.1 c.2.2.1
 else hi2 a b c.2.2.2.2.1 c.2.2.2.2.2.1 c.2.2.2.2.2.2 c.2.2.2.1 c.2.1 c.2.2.1
def hiO (a b:Array Keyed) (c:D5):SM (ForInStep D5):=do
 let c1 <- forIn [0:a.size+b.size] ((none,c.2.1,c.2.2.1,c.2.2.2.1,0,0):D6) fun _ d=>hi1 a b c.2.2.2.2 d
 match c1.1 with
 | some r=>pure (.done (some r,c1.2.1,c1.2.2.1,c1.2.2.2.1,c.2.2.2.2))
 | none=>do
  liftM (rule "list.sort.gallop")
  let c2 <- forIn [0:a.size+b.size] ((none,c1.2.1,c1.2.2.1,c1.2.2.2.1,c.2.2.2.2+1,c1.2.2.2.2.1,c1.2.2.2.2.2):D7) fun _ d=>hiB a b d
  match c2.1 with
  | some r=>pure (.done (some r,c2.2.1,c2.2.2.1,c2.2.2.2.1,c2.2.2.2.2.1))
  | none=>do
   modify fun st=>setG st (c2.2.2.2.2.1+1)
   pure (.yield (none,c2.2.1,c2.2.2.1,c2.2.2.2.1,c2.2.2.2.2.1+1))
theorem mHi_low (a b:Array Keyed):mHi a b=(do
 liftM (rule "list.sort.merge-hi")
 let x <- elem' a (a.size-1)
 if (a.size-1 == 0)=true then pure (dnH a b #[x] (a.size-1) b.size)
 else if (b.size == 1)=true then pure (fbH a b #[x] (a.size-1) b.size)
 else do
  let st <- get
  let c <- forIn [0:a.size+b.size] ((none,a.size-1,b.size,#[x],gallopOf st):D5) fun _ d=>hiO a b d
  match c.1 with
  | some r=>pure r
  | none=>liftM (unsupported "internal:list.sort.merge-bound":Sem (Array Keyed))):=by
 rw [mHi_eq]
 refine bnd _ fun _=>bnd _ fun y=>?_
 refine if2 rfl (if2 rfl ?_)
 refine bnd _ fun st=>bnd2 (for2 fun _ c=>?_) fun c=>?_
 .unfold hiO
  refine bnd2 (for2 fun _ d=>?_) fun c1=>?_
  .rfl
  .obtain ⟨r,i,j,o,ac,bc⟩:=c1
   cases r with
   | some r=>rfl
   | none=>
    refine bnd2 rfl fun _=>bnd2 (for2 fun _ d=>?_) fun c2=>?_
    .unfold hiB
     refine if2 ?_ ?_
     all_goals
      unfold hi2
      refine bnd2 rfl fun _=>bnd2 rfl fun y=>bnd2 rfl fun r=>?_
      cases r with
      | none=>rfl
      | some k=>
       refine if2 (if2 rfl ?_) ?_
       all_goals
        unfold hi3
        refine bnd2 rfl fun y2=>if2 rfl (bnd2 rfl fun x2=>bnd2 rfl fun r2=>?_)
        cases r2 with
        | none=>rfl
        | some k2=>
         refine if2 (if2 rfl (if2 rfl ?_)) ?_
         all_goals
          unfold hi4
          refine bnd2 rfl fun x3=>if2 rfl (if2 rfl rfl)
    .obtain ⟨r,i,j,o,g,ac,bc⟩:=c2
     cases r with
     | some r=>rfl
     | none=>rfl
 .obtain ⟨r,i,j,o,g⟩:=c
  cases r with
  | some r=>rfl
  | none=>rfl
end L2S
namespace L2S
open PySem PyProof.Rows
section
variable {M:Model} {A:Around} {E:Value->Shared->Prop} {s:Shared} {κ:SortKind} {a₀:Array Keyed} {f:Keyed->Int} {a b o:Array Keyed} {i j:Nat}
abbrev JH (f:Keyed->Int) (a b o:Array Keyed) (i j:Nat):Prop:=Jm (fun x=>- f x) a.toList.reverse b.toList.reverse o.toList (a.size-i) (b.size-j)
theorem ZBr {a:Array Keyed} {i:Nat} (h:i <= a.size):a.toList.reverse.drop (a.size-i)=(a.toList.take i).reverse:=by
 rw [List.drop_reverse,yAS,show a.size-(a.size-i)=i by omega]
theorem ZE6 (a:Array Keyed) (i:Nat):(a.extract 0 i).toList=a.toList.take i:=by
 rw [yCH,yCI,Nat.sub_zero]
 rfl
theorem ZEm {a:Array Keyed} {i:Nat} {x:Keyed} (h:i <= a.size) (hx:x∈a.toList.reverse.drop (a.size-i)):∃ k,k < i /\ kn f a k=f x:=by
 rw [ZBr h,List.mem_reverse] at hx
 obtain ⟨n,hn⟩:=yBK hx
 have hl:=(yAH.mp hn).1
 rw [yAN] at hl
 rw [yBS (by omega),yBH] at hn
 exact ⟨n,by omega,ZBW hn⟩
theorem good_rev {as bs r:List Keyed} (h:Good (fun x=>- f x) as.reverse bs.reverse r):Good f as bs r.reverse:=by
 refine ⟨?_,?_⟩
 .refine (List.reverse_perm r).trans (h.1.trans ?_)
  exact List.Perm.append (List.reverse_perm as) (List.reverse_perm bs)
 .rw [List.pairwise_reverse]
  refine h.2.imp fun {x y} z=>?_
  have w:- f x <= - f y:=z
  show f y <= f x
  omega
theorem JH.dn (h:JH f a b o i j) (hi:i <= a.size) (hj:j <= b.size) (e:i=0∨j=0):Fin f a b (dnH a b o i j):=by
 have g:=Jm.dn (Jm.swap h) (e.symm.imp (fun z=>by rw [ZBr hj,z];rfl) (fun z=>by rw [ZBr hi,z];rfl))
 have g2:=good_rev g
 rw [ZBr hi,ZBr hj,List.reverse_append,List.reverse_append,List.reverse_reverse,List.reverse_reverse,<- yAL] at g2
 unfold Fin dnH
 rw [yBV,yBV,ZE6,ZE6,Array.toList_reverse]
 exact ⟨g2.1.trans yCQ,g2.2⟩
theorem JH.fb (h:JH f a b o i j) (T:Two a₀ f a b) (hi:i <= a.size) (hj:j <= b.size) (e:j=1):Fin f a b (fbH a b o i j):=by
 have g:=Jm.la (Jm.swap h) fun x hx y hy=>by
  obtain ⟨k,k1,k2⟩:=ZEm (f:=f) hj hx
  obtain ⟨n,n1,n2⟩:=ZEm (f:=f) hi hy
  have:=T.lo n (by omega)
  rw [show k=0 by omega] at k2
  rw [k2,n2] at this
  show-f y <= - f x
  omega
 have g2:=good_rev g
 rw [ZBr hi,ZBr hj,List.reverse_append,List.reverse_append,List.reverse_reverse,List.reverse_reverse,<- yAL] at g2
 unfold Fin fbH
 rw [yBV,yBV,ZE6,ZE6,Array.toList_reverse]
 exact ⟨g2.1.trans yCQ,g2.2⟩
theorem JH.chunkA (h:JH f a b o i j) {t:Nat} (ht:t <= i) (hi:i <= a.size) (hj:j <= b.size) (hc:∀ n m,t <= n->n < i->m < j->kn f b m <= kn f a n):JH f a b (o++(a.extract t i).reverse) t j:=by
 have e:(a.toList.reverse.drop (a.size-i)).take (i-t)=(a.extract t i).reverse.toList:=by
  rw [ZBr hi,List.take_reverse,Array.toList_reverse,yCH,yCI,yAN,yAS,yBN hi,show i-(i-t)=t by omega,List.drop_take]
 have g:=Jm.chunk h (i-t) fun u hu y hy=>by
  obtain ⟨m,m1,m2⟩:=ZEm (f:=f) hj hy
  rw [e,Array.toList_reverse,List.mem_reverse,show i=t+(i-t) by omega,ZEt] at hu
  obtain ⟨n,n1,n2,n3,n4⟩:=mem_take (f:=f) hu
  have:=hc n m n1 (by omega) m1
  show-f u <= - f y
  omega
 rw [e] at g
 unfold JH
 rw [yBV,show a.size-t=a.size-i+(i-t) by omega]
 exact g
theorem JH.chunkB (h:JH f a b o i j) {t:Nat} (ht:t <= j) (hi:i <= a.size) (hj:j <= b.size) (hc:∀ n m,t <= n->n < j->m < i->kn f a m <= kn f b n):JH f a b (o++(b.extract t j).reverse) i t :=
 (JH.chunkA (Jm.swap h) ht hj hi hc).swap
theorem one_rev {x:Keyed} (hx:a[i-1]?=some x) (hi:1 <= i):(a.extract (i-1) i).reverse=#[x]:=by
 have e:(a.extract (i-1) i).toList=[x]:=by
  have:=ZEt a (i-1) 1
  rw [show i-1+1=i by omega] at this
  rw [this]
  exact ZFY hx
 apply Array.toList_inj.mp
 rw [Array.toList_reverse,e]
 rfl
theorem JH.pushA {x:Keyed} (h:JH f a b o i j) (hx:a[i-1]?=some x) (h1:1 <= i) (hi:i <= a.size) (hj:j <= b.size) (hc:∀ m,m < j->kn f b m <= f x):JH f a b (o.push x) (i-1) j:=by
 have g:=JH.chunkA h (t:=i-1) (by omega) hi hj fun n m n1 n2 m1=>by
  rw [show n=i-1 by omega,ZBW hx]
  exact hc m m1
 rw [one_rev hx h1] at g
 rw [show o.push x=o++#[x] from rfl]
 exact g
theorem JH.pushB {x:Keyed} (h:JH f a b o i j) (hx:b[j-1]?=some x) (h1:1 <= j) (hi:i <= a.size) (hj:j <= b.size) (hc:∀ m,m < i->kn f a m <= f x):JH f a b (o.push x) i (j-1) :=
 (JH.pushA (Jm.swap h) hx h1 hj hi hc).swap
structure At (f:Keyed->Int) (a b:Array Keyed) (x:Nat) (i j:Nat) (o:Array Keyed):Prop where
 J:JH f a b o i j
 i1:1 <= i
 i2:i <= a.size
 j1:2 <= j
 j2:j <= b.size
 p:x+i+j <= a.size+b.size
def R7h (f:Keyed->Int) (a b:Array Keyed) (st:SortSt) (x:Nat):ForInStep D7->SortSt->Prop
 | .done c,st'=>Ev st st' /\ ((∃ r z,c=(some r,z) /\ Fin f a b r)∨∃ i j o g ac bc,c=(none,i,j,o,g,ac,bc) /\ At f a b x i j o)
 | .yield c,st'=>Ev st st' /\ ∃ i j o g ac bc,c=(none,i,j,o,g,ac,bc) /\ At f a b x i j o
theorem mHi_ok {st:SortSt} {Q:Array Keyed->SortSt->Prop} (L:Asks M A E s κ a₀ f) (hk:kindOf st=κ) (T:Two a₀ f a b) (h:∀ r st',Ev st st'->Fin f a b r->Q r st'):wpS M A E s (mHi a b) Q st:=by
 have ta:=T.na
 have tb:=T.nb
 have ua:∀ n m,n <= m->m < a.size->kn f a n <= kn f a m:=fun n m z1 z2=>T.ua n m (yAI _) z1 (by omega)
 have ub:∀ n m,n <= m->m < b.size->kn f b n <= kn f b m:=fun n m z1 z2=>T.ub n m (yAI _) z1 (by omega)
 have pr:∀ l:List Keyed,l.Pairwise (leK f)->l.reverse.Pairwise (leK fun x=>- f x):=fun l z=>by
  rw [List.pairwise_reverse]
  refine z.imp fun {x y} w=>?_
  have w':f x <= f y:=w
  show-f y <= - f x
  omega
 rw [mHi_low]
 refine wpS_bind (wpS_lift (wpAny_rule ⟨rfl,?_⟩))
 obtain ⟨x0,hx0⟩:=ZCp (a:=a) (i:=a.size-1) (by omega)
 refine wpS_bind (ZAv hx0 ?_)
 have J0:JH f a b #[x0] (a.size-1) b.size:=by
  have e:JH f a b #[] a.size b.size:=⟨by simp,by simpa using pr _ (ZFi T.ua),by simpa using pr _ (ZFi T.ub)⟩
  exact JH.pushA e hx0 ta (yAA _) (yAA _) fun m m1=>by rw [<- ZBW (f:=f) hx0];exact T.hi m m1
 by_cases c1:a.size-1=0
 .rw [if_pos (by simpa using c1)]
  exact wpS_pure (h _ st .refl (J0.dn (by omega) (yAA _) (.inl c1)))
 rw [if_neg (by simpa using c1)]
 by_cases c2:b.size=1
 .rw [if_pos (by simpa using c2)]
  exact wpS_pure (h _ st .refl (J0.fb T (by omega) (yAA _) c2))
 rw [if_neg (by simpa using c2)]
 refine wpS_bind (wpS_get ?_)
 refine wpS_bind (wpS_mono (wpS_forRange (I:=fun x c st'=>Ev st st' /\ ∃ i j o g,c=(none,i,j,o,g) /\ At f a b (x+1) i j o) (Q:=fun c st'=>Ev st st' /\ ∃ r z,c=(some r,z) /\ Fin f a b r) ?_ ?_ ⟨.refl,_,_,_,_,rfl,J0,by omega,by omega,by omega,by omega,by omega⟩) ?_)
 .rintro x c st1 _ hx ⟨e1,i,j,o,g,rfl,W⟩
  unfold hiO
  dsimp only
  refine wpS_bind (wpS_mono (wpS_forRange (I:=fun y c st'=>Ev st st' /\ ∃ i j o ac bc,c=(none,i,j,o,ac,bc) /\ At f a b (x+1+y) i j o)
   (Q:=fun c st'=>Ev st st' /\ ((∃ r z,c=(some r,z) /\ Fin f a b r)∨∃ i j o ac bc,c=(none,i,j,o,ac,bc) /\ At f a b (x+2) i j o)) ?_ ?_ ⟨e1,i,j,o,0,0,rfl,W⟩) ?_)
  .rintro y c st2 _ hy ⟨e2,i,j,o,ac,bc,rfl,J,i1,i2,j1,j2,hp⟩
   unfold hi1
   dsimp only
   obtain ⟨yb,hyb⟩:=ZCp (a:=b) (i:=j-1) (by omega)
   obtain ⟨xa,hxa⟩:=ZCp (a:=a) (i:=i-1) (by omega)
   refine wpS_bind (ZAv hyb ?_)
   refine wpS_bind (ZAv hxa ?_)
   refine wpS_bind (L.lt yb xa (T.ib.get hyb) (T.ia.get hxa) st2 _ (e2.k.trans hk) ?_)
   by_cases hw:f yb < f xa
   .rw [decide_eq_true hw]
    dsimp only
    rw [if_pos rfl]
    refine wpS_bind (ZAv hxa ?_)
    have J2:=J.pushA hxa i1 i2 j2 fun m m1=>by
     have:=ub m (j-1) (by omega) (by omega)
     rw [ZBW hyb] at this
     omega
    by_cases c3:i-1=0
    .rw [if_pos (by simpa using c3)]
     exact wpS_pure ⟨e2,.inl ⟨_,_,rfl,J2.dn (by omega) j2 (.inl c3)⟩⟩
    rw [if_neg (by simpa using c3)]
    split
    .exact wpS_pure ⟨e2,.inr ⟨_,_,_,_,_,rfl,J2,by omega,by omega,j1,j2,by omega⟩⟩
    .exact wpS_pure ⟨e2,_,_,_,_,_,rfl,J2,by omega,by omega,j1,j2,by omega⟩
   .rw [decide_eq_false hw]
    dsimp only
    rw [if_neg (by decide)]
    refine wpS_bind (ZAv hyb ?_)
    have J2:=J.pushB hyb (by omega) i2 j2 fun m m1=>by
     have:=ua m (i-1) (by omega) (by omega)
     rw [ZBW hxa] at this
     omega
    by_cases c3:j-1=1
    .rw [if_pos (by simpa using c3)]
     exact wpS_pure ⟨e2,.inl ⟨_,_,rfl,J2.fb T i2 (by omega) c3⟩⟩
    rw [if_neg (by simpa using c3)]
    split
    .exact wpS_pure ⟨e2,.inr ⟨_,_,_,_,_,rfl,J2,i1,i2,by omega,by omega,by omega⟩⟩
    .exact wpS_pure ⟨e2,_,_,_,_,_,rfl,J2,i1,i2,by omega,by omega,by omega⟩
  .rintro c st2 ⟨e2,i,j,o,ac,bc,rfl,J,i1,i2,j1,j2,hp⟩
   exact ⟨e2,.inr ⟨_,_,_,_,_,rfl,J,i1,i2,j1,j2,by omega⟩⟩
  .rintro c st2 ⟨e2,⟨r,z,rfl,hr⟩ | ⟨i,j,o,ac,bc,rfl,W⟩⟩
   .exact wpS_pure ⟨e2,r,_,rfl,hr⟩
   dsimp only
   refine wpS_bind (wpS_lift (wpAny_rule ⟨rfl,?_⟩))
   refine wpS_bind (wpS_mono (wpS_forRange (I:=fun y c st'=>Ev st st' /\ ∃ i j o g ac bc,c=(none,i,j,o,g,ac,bc) /\ At f a b (x+2) i j o)
    (Q:=fun c st'=>Ev st st' /\ ((∃ r z,c=(some r,z) /\ Fin f a b r)∨∃ i j o g ac bc,c=(none,i,j,o,g,ac,bc) /\ At f a b (x+2) i j o)) ?_ ?_ ⟨e2,i,j,o,_,ac,bc,rfl,W⟩) ?_)
   .rintro y c st3 _ hy ⟨e3,i,j,o,g,ac,bc,rfl,J,i1,i2,j1,j2,hp⟩
    have four:∀ (g ac bc:Nat) (o:Array Keyed) (i j:Nat) (st4:SortSt) (xa:Keyed),Ev st st4->At f a b (x+2) i j o->a[i-1]?=some xa->(∀ n,n < j->kn f b n <= f xa)->wpS M A E s (hi4 a b g ac bc o i j) (R7h f a b st (x+2)) st4:=by
     rintro g ac bc o i j st4 xa e4 ⟨J,i1,i2,j1,j2,hp⟩ hxa hle
     unfold hi4
     refine wpS_bind (ZAv hxa ?_)
     have J2:=J.pushA hxa i1 i2 j2 hle
     by_cases c3:i-1=0
     .rw [if_pos (by simpa using c3)]
      exact wpS_pure ⟨e4,.inl ⟨_,_,rfl,J2.dn (by omega) j2 (.inl c3)⟩⟩
     rw [if_neg (by simpa using c3)]
     split
     .exact wpS_pure ⟨e4,.inr ⟨_,_,_,_,_,_,rfl,J2,by omega,by omega,j1,j2,by omega⟩⟩
     .exact wpS_pure ⟨e4,_,_,_,_,_,_,rfl,J2,by omega,by omega,j1,j2,by omega⟩
    have three:∀ (g ac bc:Nat) (o:Array Keyed) (i j:Nat) (st4:SortSt) (yb:Keyed),Ev st st4->At f a b (x+2) i j o->b[j-1]?=some yb->(∀ n,n < i->kn f a n <= f yb)->wpS M A E s (hi3 a b g ac bc o i j) (R7h f a b st (x+2)) st4:=by
     rintro g ac bc o i j st4 yb e4 ⟨J,i1,i2,j1,j2,hp⟩ hyb hle
     unfold hi3
     refine wpS_bind (ZAv hyb ?_)
     have J2:=J.pushB hyb (by omega) i2 j2 hle
     by_cases c3:j-1=1
     .rw [if_pos (by simpa using c3)]
      exact wpS_pure ⟨e4,.inl ⟨_,_,rfl,J2.fb T i2 (by omega) c3⟩⟩
     rw [if_neg (by simpa using c3)]
     obtain ⟨xa,hxa⟩:=ZCp (a:=a) (i:=i-1) (by omega)
     refine wpS_bind (ZAv hxa ?_)
     refine wpS_bind (ZEr L (e4.k.trans hk) T.ib (T.ia.get hxa) (by omega) (by omega) (T.ub.sub (by omega)) fun t k1 k2 k3=>?_)
     dsimp only
     have rest:∀ n,n < t->kn f b n <= f xa:=fun n n1=>by
      have:=k2 n n1
      rw [yCJ] at this
      omega
     by_cases hk0:j-1-t > 0
     .rw [if_pos hk0]
      have J3:=J2.chunkB k1 i2 (by omega) fun n m n1 n2 m1=>by
       have z:=k3 n n1 n2
       rw [yCJ] at z
       have z2:=ua m (i-1) (by omega) (by omega)
       rw [ZBW hxa] at z2
       omega
      by_cases c4:t=1
      .rw [if_pos (by simpa using c4)]
       exact wpS_pure ⟨e4,.inl ⟨_,_,rfl,J3.fb T i2 (by omega) c4⟩⟩
      rw [if_neg (by simpa using c4)]
      by_cases c5:t=0
      .rw [if_pos (by simpa using c5)]
       exact wpS_pure ⟨e4,.inl ⟨_,_,rfl,J3.dn i2 (by omega) (.inr c5)⟩⟩
      rw [if_neg (by simpa using c5)]
      exact four _ _ _ _ _ _ _ xa e4 ⟨J3,i1,i2,by omega,by omega,by omega⟩ hxa rest
     .rw [if_neg hk0]
      have:t=j-1:=by omega
      subst this
      exact four _ _ _ _ _ _ _ xa e4 ⟨J2,i1,i2,by omega,by omega,by omega⟩ hxa rest
    have two:∀ (g ac bc:Nat),wpS M A E s (hi2 a b g ac bc o i j) (R7h f a b st (x+2)) st3:=by
     intro g ac bc
     unfold hi2
     obtain ⟨yb,hyb⟩:=ZCp (a:=b) (i:=j-1) (by omega)
     refine wpS_bind (wpS_modify ?_)
     have e4:=e3.setG g
     refine wpS_bind (ZAv hyb ?_)
     refine wpS_bind (ZFd L (e4.k.trans hk) T.ia (T.ib.get hyb) (by omega) (by omega) (T.ua.sub (by omega)) fun t k1 k2 k3=>?_)
     dsimp only
     have rest:∀ n,n < t->kn f a n <= f yb:=fun n n1=>by
      have:=k2 n n1
      rw [yCJ] at this
      exact this
     by_cases hk0:i-t > 0
     .rw [if_pos hk0]
      have J3:=J.chunkA k1 i2 j2 fun n m n1 n2 m1=>by
       have z:=k3 n n1 n2
       rw [yCJ] at z
       have z2:=ub m (j-1) (by omega) (by omega)
       rw [ZBW hyb] at z2
       omega
      by_cases c4:t=0
      .rw [if_pos (by simpa using c4)]
       exact wpS_pure ⟨e4,.inl ⟨_,_,rfl,J3.dn (by omega) j2 (.inl c4)⟩⟩
      rw [if_neg (by simpa using c4)]
      exact three _ _ _ _ _ _ _ yb e4 ⟨J3,by omega,by omega,j1,j2,by omega⟩ hyb rest
     .rw [if_neg hk0]
      have:t=i:=by omega
      subst this
      exact three _ _ _ _ _ _ _ yb e4 ⟨J,i1,i2,j1,j2,hp⟩ hyb rest
    unfold hiB
    dsimp only
    split
    .exact wpS_mono (two _ _ _) fun r st' z=>by cases r <;> exact z
    .exact wpS_mono (two _ _ _) fun r st' z=>by cases r <;> exact z
   .rintro c st3 ⟨e3,i,j,o,g,ac,bc,rfl,W⟩
    exact ⟨e3,.inr ⟨_,_,_,_,_,_,rfl,W⟩⟩
   .rintro c st3 ⟨e3,⟨r,z,rfl,hr⟩ | ⟨i,j,o,g,ac,bc,rfl,W⟩⟩
    .exact wpS_pure ⟨e3,r,_,rfl,hr⟩
    .dsimp only
     exact wpS_bind (wpS_modify (wpS_pure ⟨e3.setG _,_,_,_,_,rfl,W⟩))
 .rintro c st1 ⟨e1,i,j,o,g,rfl,J,i1,i2,j1,j2,hp⟩
  omega
 .rintro c st1 ⟨e1,r,z,rfl,hr⟩
  exact wpS_pure (h r st1 e1 hr)
end
end L2S
namespace L2S
open PySem PyProof.Rows
abbrev PT:=Nat×Nat×Nat
def ZDk (xs m:Array Keyed) (lo:Nat):Array Keyed:=m.toList.zipIdx.foldl (fun a (p,j)=>a.setIfInBounds (lo+j) p) xs
theorem mAt_eq (i:Nat):mergeAt' i=(do
 let z <- get
 let (some (s1,n1,w1),some (s2,n2,_)):=((pendingOf z)[i]?,(pendingOf z)[i+1]?) | unsupported "internal:list.sort.pending"
 set (setPending z (((pendingOf z).setIfInBounds i (s1,n1+n2,w1)).eraseIdxIfInBounds (i+1)))
 let some k <- gal false (<- elem' (arrOf z) s2) (arrOf z) s1 n1 0 | return false
 let (s1,n1):=(s1+k,n1-k)
 if n1 == 0 then return true
 let some n2 <- gal true (<- elem' (arrOf z) (s1+n1-1)) (arrOf z) s2 n2 (n2-1) | return false
 if n2 == 0 then return true
 let x:=(arrOf z).extract s1 s2
 let y:=(arrOf z).extract s2 (s2+n2)
 let m <- if n1 <= n2 then mLo x y else mHi x y
 modify fun z=>setArr z (ZDk (arrOf z) m s1)
 return (failedOf (<- get)).isNone):=rfl
theorem wpS_set {M:Model} {A:Around} {E:Value->Shared->Prop} {s:Shared} {σ:Type} {x:σ} {Q:PUnit->σ->Prop} {st:σ} (h:Q ⟨⟩ x):wpS M A E s (set x:StateT σ Sem PUnit) Q st:=by
 unfold wpS;rw [StateT.run_set];exact wpAny_pure ⟨rfl,h⟩
theorem lay_go (lo:Nat):∀ (l:List Keyed) (k:Nat) (xs:Array Keyed),lo+k+l.length <= xs.size ->
  (((l.zipIdx k).foldl (fun a (p:Keyed×Nat)=>a.setIfInBounds (lo+p.2) p.1) xs).size=xs.size) /\ ∀ n,((l.zipIdx k).foldl (fun a (p:Keyed×Nat)=>a.setIfInBounds (lo+p.2) p.1) xs)[n]?=if lo+k <= n /\ n < lo+k+l.length then l[n-(lo+k)]? else xs[n]?
 | [],k,xs,_=>by
  refine ⟨rfl,fun n=>?_⟩
  rw [if_neg (fun z=>by rw [yBT] at z;omega)]
  rfl
 | x::r,k,xs,h=>by
  rw [yAG] at h
  rw [List.zipIdx_cons,List.foldl_cons]
  obtain ⟨i1,i2⟩:=lay_go lo r (k+1) (xs.setIfInBounds (lo+k) x) (by rw [Array.size_setIfInBounds];omega)
  refine ⟨by rw [i1,Array.size_setIfInBounds],fun n=>?_⟩
  rw [i2,yAG]
  by_cases c1:lo+(k+1) <= n /\ n < lo+(k+1)+r.length
  .rw [if_pos c1,if_pos (by omega),show n-(lo+k)=(n-(lo+(k+1)))+1 by omega,List.getElem?_cons_succ]
  .rw [if_neg c1,Array.getElem?_setIfInBounds]
   by_cases c2:lo+k=n
   .rw [if_pos c2,if_pos (by omega),if_pos (by omega),show n-(lo+k)=0 by omega]
    rfl
   .rw [if_neg c2,if_neg (by omega)]
theorem ZEo {xs m:Array Keyed} {lo:Nat} (h:lo+m.size <= xs.size) (n:Nat):(ZDk xs m lo)[n]?=if lo <= n /\ n < lo+m.size then m[n-lo]? else xs[n]?:=by
 have:=(lay_go lo m.toList 0 xs (by rw [yAS];omega)).2 n
 rw [yAS,Nat.add_zero,yBH] at this
 exact this
theorem lay_list {xs m:Array Keyed} {lo:Nat} (h:lo+m.size <= xs.size):(ZDk xs m lo).toList=xs.toList.take lo++m.toList++xs.toList.drop (lo+m.size):=by
 refine yCO fun n=>?_
 rw [yBH,ZEo h]
 by_cases c1:n < lo
 .rw [if_neg (by omega),yAL,yAZ (by rw [yAN,yAS];omega),yBS c1,yBH]
 .by_cases c2:n < lo+m.size
  .rw [if_pos (by omega),yAL,yAY (by rw [yAN,yAS];omega),yAN,yAS,yBN (by omega),yAZ (by rw [yAS];omega),yBH]
  .rw [if_neg (by omega),yAY (by rw [yAD,yAN,yAS,yAS];omega),yAD,yAN,yAS,yAS,yBN (by omega),yBJ,yBH]
   congr 1
   omega
section
variable {M:Model} {A:Around} {E:Value->Shared->Prop} {s:Shared} {κ:SortKind} {a₀:Array Keyed} {f:Keyed->Int}
theorem SB.inA {st:SortSt} (h:SB κ a₀ st):InA a₀ (arrOf st):=fun x hx=>(Array.perm_iff_toList_perm.mp h.perm).mem_iff.mp hx
theorem ext_get {xs:Array Keyed} {i j n:Nat} (h:j <= xs.size) (hn:n < j-i):(xs.extract i j)[n]?=xs[i+n]?:=by
 rw [Array.getElem?_extract]
 rw [if_pos (by omega)]
theorem merge_at {st:SortSt} {i sa na w nb v:Nat} {Q:Bool->SortSt->Prop} (L:Asks M A E s κ a₀ f) (hB:SB κ a₀ st) (p1:(pendingOf st)[i]?=some (sa,na,w)) (p2:(pendingOf st)[i+1]?=some (sa+na,nb,v)) (na1:1 <= na) (nb1:1 <= nb) (hz:sa+na+nb <= a₀.size)
  (ua:Up f (arrOf st) sa na) (ub:Up f (arrOf st) (sa+na) nb)
  (h:∀ st',SB κ a₀ st'->pendingOf st'=((pendingOf st).setIfInBounds i (sa,na+nb,w)).eraseIdxIfInBounds (i+1)->Up f (arrOf st') sa (na+nb)->(∀ k,k < sa∨sa+na+nb <= k->(arrOf st')[k]?=(arrOf st)[k]?)->Q true st'):wpS M A E s (mergeAt' i) Q st:=by
 have hsz:=hB.size
 rw [mAt_eq]
 refine wpS_bind (wpS_get ?_)
 rw [p1,p2]
 dsimp only
 refine wpS_bind (wpS_set ?_)
 have hB1:SB κ a₀ (setPending st (((pendingOf st).setIfInBounds i (sa,na+nb,w)).eraseIdxIfInBounds (i+1))):=⟨hB.perm,hB.kind,hB.fail⟩
 obtain ⟨b0,hb0⟩:=ZCp (a:=arrOf st) (i:=sa+na) (by omega)
 refine wpS_bind (ZAv hb0 ?_)
 refine wpS_bind (ZFd L hB1.kind hB.inA (hB.inA.get hb0) (by omega) (by omega) ua fun k k1 k2 k3=>?_)
 dsimp only
 have lowA:∀ n,sa <= n->n < sa+k->kn f (arrOf st) n <= f b0:=fun n n1 n2=>by
  have:=k2 (n-sa) (by omega)
  rw [show sa+(n-sa)=n by omega] at this
  exact this
 have fromB:∀ n,sa+na <= n->n < sa+na+nb->f b0 <= kn f (arrOf st) n:=fun n n1 n2=>by
  have:=ub (sa+na) n (yAA _) n1 n2
  rw [ZBW hb0] at this
  exact this
 by_cases c1:na-k=0
 .rw [if_pos (by simpa using c1)]
  refine wpS_pure (h _ hB1 rfl (fun n m n1 n2 n3=>?_) fun _ _=>rfl)
  by_cases d1:m < sa+na
  .exact ua n m n1 n2 d1
  .by_cases d2:n < sa+na
   .have z1:=lowA n n1 (by omega)
    have z2:=fromB m (by omega) (by omega)
    show kn f (arrOf st) n <= kn f (arrOf st) m
    omega
   .exact ub n m (by omega) n2 (by omega)
 rw [if_neg (by simpa using c1)]
 rw [show sa+k+(na-k)-1=sa+na-1 by omega]
 obtain ⟨aN,haN⟩:=ZCp (a:=arrOf st) (i:=sa+na-1) (by omega)
 refine wpS_bind (ZAv haN ?_)
 refine wpS_bind (ZEr L hB1.kind hB.inA (hB.inA.get haN) (by omega) (by omega) ub fun t t1 t2 t3=>?_)
 dsimp only
 have highB:∀ n,sa+na+t <= n->n < sa+na+nb->f aN <= kn f (arrOf st) n:=fun n n1 n2=>by
  have:=t3 (n-(sa+na)) (by omega) (by omega)
  rw [show sa+na+(n-(sa+na))=n by omega] at this
  exact this
 have toA:∀ n,sa <= n->n < sa+na->kn f (arrOf st) n <= f aN:=fun n n1 n2=>by
  have:=ua n (sa+na-1) n1 (by omega) (by omega)
  rw [ZBW haN] at this
  exact this
 by_cases c2:t=0
 .rw [if_pos (by simpa using c2)]
  refine wpS_pure (h _ hB1 rfl (fun n m n1 n2 n3=>?_) fun _ _=>rfl)
  by_cases d1:m < sa+na
  .exact ua n m n1 n2 d1
  .by_cases d2:n < sa+na
   .have z1:=toA n n1 d2
    have z2:=highB m (by omega) (by omega)
    show kn f (arrOf st) n <= kn f (arrOf st) m
    omega
   .exact ub n m (by omega) n2 (by omega)
 rw [if_neg (by simpa using c2)]
 have x1:((arrOf st).extract (sa+k) (sa+na)).size=na-k:=by rw [Array.size_extract];omega
 have y1:((arrOf st).extract (sa+na) (sa+na+t)).size=t:=by rw [Array.size_extract];omega
 have xg:∀ n,n < na-k->kn f ((arrOf st).extract (sa+k) (sa+na)) n=kn f (arrOf st) (sa+k+n):=fun n hn=>ZBC (ext_get (by omega) (by omega))
 have yg:∀ n,n < t->kn f ((arrOf st).extract (sa+na) (sa+na+t)) n=kn f (arrOf st) (sa+na+n):=fun n hn=>ZBC (ext_get (by omega) (by omega))
 have hiA:∀ n,sa+k <= n->n < sa+na->f b0 < kn f (arrOf st) n:=fun n n1 n2=>by
  have:=k3 (n-sa) (by omega) (by omega)
  rw [show sa+(n-sa)=n by omega] at this
  exact this
 have inx:∀ (lo hi:Nat),InA a₀ ((arrOf st).extract lo hi):=fun lo hi x hx=>by
  rw [yCH,yCI] at hx
  exact hB.inA x (List.mem_of_mem_drop (List.mem_of_mem_take hx))
 have T:Two a₀ f ((arrOf st).extract (sa+k) (sa+na)) ((arrOf st).extract (sa+na) (sa+na+t)):={
  ia:=inx _ _
  ib:=inx _ _
  ua:=fun n m _ n2 n3=>by
   rw [xg n (by omega),xg m (by omega)]
   exact ua _ _ (by omega) (by omega) (by omega)
  ub:=fun n m _ n2 n3=>by
   rw [yg n (by omega),yg m (by omega)]
   exact ub _ _ (by omega) (by omega) (by omega)
  na:=by omega
  nb:=by omega
  lo:=fun n hn=>by
   rw [xg n (by omega),yg 0 (by omega),Nat.add_zero,ZBW hb0]
   exact Int.le_of_lt (hiA _ (by omega) (by omega))
  hi:=fun n hn=>by
   rw [x1,xg _ (by omega),yg n (by omega),show sa+k+(na-k-1)=sa+na-1 by omega,ZBW haN]
   exact Int.le_of_lt (t2 n (by omega)) }
 have fin:∀ m st',Ev (setPending st (((pendingOf st).setIfInBounds i (sa,na+nb,w)).eraseIdxIfInBounds (i+1))) st'->Fin f ((arrOf st).extract (sa+k) (sa+na)) ((arrOf st).extract (sa+na) (sa+na+t)) m ->
   wpS M A E s (modify (fun z=>setArr z (ZDk (arrOf z) m (sa+k))) >>= fun _=>get >>= fun z=>pure (failedOf z).isNone) Q st':=by
  intro m st' ev g
  have ea:arrOf st'=arrOf st:=ev.a
  have hm:m.size=na-k+t:=by
   have:=g.1.length_eq
   rw [yAS,yAD,yAS,yAS,x1,y1] at this
   exact this
  refine wpS_bind (wpS_modify (wpS_bind (wpS_get (wpS_pure ?_))))
  have hf:failedOf st'=none:=ev.f.trans hB.fail
  show Q (failedOf st').isNone _
  rw [hf]
  have hl:sa+k+m.size <= (arrOf st).size:=by omega
  have mel:∀ n,n < m.size->∃ p,sa+k <= p /\ p < sa+na+t /\ kn f m n=kn f (arrOf st) p:=fun n hn=>by
   obtain ⟨x,hx⟩:=ZCp (a:=m) hn
   have hxm:x∈m.toList:=by
    rw [yBX] at hx
    obtain ⟨_,rfl⟩:=hx
    simp
   have:=g.1.mem_iff.mp hxm
   rw [ZBW hx]
   rcases yAV.mp this with z | z
   .obtain ⟨q,q1⟩:=yBK z
    rw [yBH] at q1
    have q2:=(yBX.mp q1).1
    refine ⟨sa+k+q,by omega,by omega,?_⟩
    rw [<- xg q (by omega),ZBW q1]
   .obtain ⟨q,q1⟩:=yBK z
    rw [yBH] at q1
    have q2:=(yBX.mp q1).1
    refine ⟨sa+na+q,by omega,by omega,?_⟩
    rw [<- yg q (by omega),ZBW q1]
  have ms:∀ n q,n <= q->q < m.size->kn f m n <= kn f m q:=fun n q n1 n2=>by
   by_cases e:n=q
   .rw [e];exact Int.le_refl _
   .have:=List.pairwise_iff_getElem.mp g.2 n q (by rw [yAS];omega) (by rw [yAS];omega) (by omega)
    rw [ZBW (getElem?_pos m n (by omega)),ZBW (getElem?_pos m q n2)]
    simpa [leK] using this
  have lk:∀ n,kn f (ZDk (arrOf st') m (sa+k)) n=if sa+k <= n /\ n < sa+na+t then kn f m (n-(sa+k)) else kn f (arrOf st) n:=fun n=>by
   rw [ea]
   have:=ZEo hl n
   by_cases e:sa+k <= n /\ n < sa+na+t
   .rw [if_pos e]
    rw [if_pos (by omega)] at this
    exact ZBC this
   .rw [if_neg e]
    rw [if_neg (by omega)] at this
    exact ZBC this
  refine h (setArr st' (ZDk (arrOf st') m (sa+k))) ⟨?_,ev.k.trans hB.kind,hf⟩ ev.p (fun n q n1 n2 n3=>?_) fun n hn=>?_
  .show (ZDk (arrOf st') m (sa+k)).Perm a₀
   rw [ea]
   refine Array.Perm.trans ?_ hB.perm
   rw [Array.perm_iff_toList_perm,lay_list hl]
   have e1:(arrOf st).toList=(arrOf st).toList.take (sa+k)++(((arrOf st).extract (sa+k) (sa+na)).toList++((arrOf st).extract (sa+na) (sa+na+t)).toList)++(arrOf st).toList.drop (sa+k+m.size):=by
    rw [yCH,yCH,yCI,yCI]
    have s1:((arrOf st).toList.drop (sa+k)).take (sa+na-(sa+k))++((arrOf st).toList.drop (sa+na)).take (sa+na+t-(sa+na))=((arrOf st).toList.drop (sa+k)).take m.size:=by
     rw [show m.size=(sa+na-(sa+k))+(sa+na+t-(sa+na)) by omega,List.take_add,List.drop_drop,show sa+k+(sa+na-(sa+k))=sa+na by omega]
    rw [s1,yAL,show (arrOf st).toList.drop (sa+k+m.size)=((arrOf st).toList.drop (sa+k)).drop m.size by rw [List.drop_drop],yBM,yBM]
   conv=>rhs;rw [e1]
   exact List.Perm.append_right _ (List.Perm.append_left _ g.1)
  .show kn f (ZDk (arrOf st') m (sa+k)) n <= kn f (ZDk (arrOf st') m (sa+k)) q
   rw [lk,lk]
   by_cases c3:sa+k <= n /\ n < sa+na+t
   .rw [if_pos c3]
    by_cases c4:sa+k <= q /\ q < sa+na+t
    .rw [if_pos c4]
     exact ms _ _ (by omega) (by omega)
    .rw [if_neg c4]
     obtain ⟨p,q1,q2,q3⟩:=mel (n-(sa+k)) (by omega)
     rw [q3]
     by_cases c5:p < sa+na
     .have z1:=toA p (by omega) c5
      have z2:=highB q (by omega) (by omega)
      omega
     .exact ub p q (by omega) (by omega) (by omega)
   .rw [if_neg c3]
    by_cases c4:sa+k <= q /\ q < sa+na+t
    .rw [if_pos c4]
     obtain ⟨p,q1,q2,q3⟩:=mel (q-(sa+k)) (by omega)
     rw [q3]
     have z1:=lowA n n1 (by omega)
     by_cases c5:p < sa+na
     .exact ua n p n1 (by omega) c5
     .have z2:=fromB p (by omega) (by omega)
      omega
    .rw [if_neg c4]
     by_cases c5:q < sa+na
     .exact ua n q n1 n2 c5
     .by_cases c6:n < sa+na
      .have z1:=lowA n n1 (by omega)
       have z2:=fromB q (by omega) (by omega)
       omega
      .exact ub n q (by omega) n2 (by omega)
  .show (ZDk (arrOf st') m (sa+k))[n]?=(arrOf st)[n]?
   rw [ea,ZEo hl,if_neg (by omega)]
 by_cases c3:na-k <= t
 .rw [if_pos c3]
  exact wpS_bind (mLo_ok L hB1.kind T fin)
 .rw [if_neg c3]
  exact wpS_bind (mHi_ok L hB1.kind T fin)
end
end L2S
namespace L2S
open PySem PyProof.Rows
section
variable {M:Model} {A:Around} {E:Value->Shared->Prop} {s:Shared} {κ:SortKind} {a₀:Array Keyed} {f:Keyed->Int}
def Chn (f:Keyed->Int) (xs:Array Keyed):Nat->List PT->Nat->Prop
 | a,[],e=>a=e
 | a,(b,n,_)::r,e=>b=a /\ 1 <= n /\ Up f xs a n /\ Chn f xs (a+n) r e
theorem Chn.le {xs:Array Keyed}:∀ {l:List PT} {a e:Nat},Chn f xs a l e->a+l.length <= e
 | [],a,e,h=>by have:a=e:=h;rw [yBT];omega
 | (b,n,w)::r,a,e,h=>by
  obtain ⟨_,h1,_,h2⟩:=h
  have:=h2.le
  rw [yAG]
  omega
theorem Chn.keep {xs ys:Array Keyed}:∀ {l:List PT} {a e:Nat},Chn f xs a l e->(∀ k,a <= k->k < e->ys[k]?=xs[k]?)->Chn f ys a l e
 | [],a,e,h,_=>h
 | (b,n,w)::r,a,e,⟨h0,h1,h2,h3⟩,k=>by
  have hl:=h3.le
  refine ⟨h0,h1,fun i j z1 z2 z3=>?_,h3.keep fun m m1 m2=>k m (by omega) m2⟩
  rw [ZBC (k i z1 (by omega)),ZBC (k j (by omega) (by omega))]
  exact h2 i j z1 z2 z3
theorem Chn.app {xs:Array Keyed}:∀ {l m:List PT} {a e:Nat},Chn f xs a (l++m) e↔∃ c,Chn f xs a l c /\ Chn f xs c m e
 | [],m,a,e=>⟨fun h=>⟨a,rfl,h⟩,fun ⟨c,h1,h2⟩=>by have:a=c:=h1;rw [this];exact h2⟩
 | (b,n,w)::r,m,a,e=>by
  constructor
  .rintro ⟨h0,h1,h2,h3⟩
   obtain ⟨c,h4,h5⟩:=Chn.app.mp h3
   exact ⟨c,⟨h0,h1,h2,h4⟩,h5⟩
  .rintro ⟨c,⟨h0,h1,h2,h4⟩,h5⟩
   exact ⟨h0,h1,h2,Chn.app.mpr ⟨c,h4,h5⟩⟩
theorem two_of {l:List PT} {i:Nat} (h:i+1 < l.length):∃ l1 x y l2,l=l1++x::y::l2 /\ l1.length=i:=by
 refine ⟨l.take i,l[i],l[i+1],l.drop (i+2),?_,by rw [yAN];omega⟩
 rw [<- yBZ (by omega),<- yBZ (by omega),yBM]
theorem join_of {l1 l2:List PT} {x y v:PT} {i:Nat} (h:l1.length=i):((l1++x::y::l2).set i v).eraseIdx (i+1)=l1++v::l2:=by
 subst h
 rw [List.set_append_right _ _ (yAA _),yBF,List.set_cons_zero,List.eraseIdx_append_of_length_le (by omega),show l1.length+1-l1.length=1 by omega]
 rfl
theorem join_at {st:SortSt} {i lo:Nat} {Q:Bool->SortSt->Prop} (L:Asks M A E s κ a₀ f) (hB:SB κ a₀ st) (hc:Chn f (arrOf st) 0 (pendingOf st).toList lo) (hlo:lo <= a₀.size) (hi:i+1 < (pendingOf st).size)
  (h:∀ st',SB κ a₀ st'->Chn f (arrOf st') 0 (pendingOf st').toList lo->(pendingOf st').size+1=(pendingOf st).size->(∀ k,lo <= k->(arrOf st')[k]?=(arrOf st)[k]?)->Q true st'):wpS M A E s (mergeAt' i) Q st:=by
 obtain ⟨l1,⟨b1,n1,w1⟩,⟨b2,n2,w2⟩,l2,el,hl⟩:=two_of (l:=(pendingOf st).toList) (i:=i) (by rw [yAS];exact hi)
 have hc':=hc
 rw [el] at hc'
 obtain ⟨c,c1,rfl,c2,c3,rfl,c4,c5,c6⟩:=Chn.app.mp hc'
 have le:=c6.le
 have p1:(pendingOf st)[i]?=some (b1,n1,w1):=by
  rw [<- yBH,el,yAY (by omega),hl,yBF]
  rfl
 have p2:(pendingOf st)[i+1]?=some (b1+n1,n2,w2):=by
  rw [<- yBH,el,yAY (by omega),show i+1-l1.length=1 by omega]
  rfl
 refine merge_at L hB p1 p2 c2 c4 (by omega) c3 c5 fun st' hB' hp hu hk=>?_
 have e2:(pendingOf st').toList=l1++(b1,n1+n2,w1)::l2:=by
  rw [hp,Array.toList_eraseIdxIfInBounds,Array.toList_setIfInBounds,el]
  exact join_of hl
 refine h st' hB' ?_ ?_ fun k hk2=>hk k (.inr (by omega))
 .rw [e2]
  have le1:=c1.le
  refine Chn.app.mpr ⟨b1,c1.keep fun k k1 k2=>hk k (.inl k2),rfl,by omega,hu,?_⟩
  rw [show b1+(n1+n2)=b1+n1+n2 by omega]
  exact c6.keep fun k k1 k2=>hk k (.inr k1)
 .have z1:=congrArg List.length e2
  have z2:=congrArg List.length el
  rw [yAS,yAD,yAG] at z1 z2
  rw [yAG] at z2
  omega
theorem Chn.pow {xs:Array Keyed} {l:List PT} {b n w v a e:Nat} (h:Chn f xs a (l++[(b,n,w)]) e):Chn f xs a (l++[(b,n,v)]) e:=by
 obtain ⟨c,c1,c2,c3,c4,c5⟩:=Chn.app.mp h
 exact Chn.app.mpr ⟨c,c1,c2,c3,c4,c5⟩
def more (sz pw:Nat):SM (Option Unit×Unit):=forIn [0:sz] ((none,()):Option Unit×Unit) fun _ _=>do
 let z <- get
 match if (pendingOf z).size > 1 then (pendingOf z)[(pendingOf z).size-2]? else none with
 | some (_,_,old)=>
  if old <= pw then pure (ForInStep.done (none,()))
  else do
   let b <- mergeAt' ((pendingOf z).size-2)
   if (!b)=true then pure (ForInStep.done (some (),())) else pure (ForInStep.yield (none,()))
 | _=>pure (ForInStep.done (none,()))
def pile (sz lo n:Nat):SM (ForInStep (Option Unit×Nat)):=do
 let z <- get
 match (pendingOf z).back? with
 | some (s1,n1,_)=>do
  let c <- more sz (power' sz (2 * s1+n1) (2 * s1+n1+n1+n) sz)
  match c.fst with
  | some r=>pure (ForInStep.done (some r,lo))
  | none=>do
   modify fun z=>setPending z ((pendingOf z).modify ((pendingOf z).size-1) fun x=>(x.fst,x.2.fst,power' sz (2 * s1+n1) (2 * s1+n1+n1+n) sz))
   modify fun z=>setPending z ((pendingOf z).push (lo,n,0))
   pure (ForInStep.yield (none,lo+n))
 | _=>do
  modify fun z=>setPending z ((pendingOf z).push (lo,n,0))
  pure (ForInStep.yield (none,lo+n))
abbrev PQ (κ:SortKind) (a₀:Array Keyed) (f:Keyed->Int) (lo n:Nat) (st:SortSt):Prop:=SB κ a₀ st /\ Chn f (arrOf st) 0 (pendingOf st).toList lo /\ Up f (arrOf st) lo n
theorem more_ok {sz pw lo n:Nat} {st:SortSt} {Q:Option Unit×Unit->SortSt->Prop} (L:Asks M A E s κ a₀ f) (hlo:lo <= a₀.size) (hq:PQ κ a₀ f lo n st) (h:∀ st',PQ κ a₀ f lo n st'->Q (none,()) st'):wpS M A E s (more sz pw) Q st:=by
 unfold more
 refine wpS_forRange (I:=fun x c st'=>c=(none,()) /\ PQ κ a₀ f lo n st') ?_ ?_ ⟨rfl,hq⟩
 .rintro x c st1 _ _ ⟨rfl,hB,hc,hu⟩
  refine wpS_bind (wpS_get ?_)
  by_cases h1:(pendingOf st1).size > 1
  .rw [if_pos h1,getElem?_pos (pendingOf st1) ((pendingOf st1).size-2) (by omega)]
   dsimp only
   split
   .exact wpS_pure (h _ ⟨hB,hc,hu⟩)
   .refine wpS_bind (join_at L hB hc hlo (by omega) fun st2 hB2 hc2 _ hk2=>?_)
    exact wpS_pure ⟨rfl,hB2,hc2,fun i j z1 z2 z3=>by rw [ZBC (hk2 i z1),ZBC (hk2 j (by omega))];exact hu i j z1 z2 z3⟩
  .rw [if_neg h1]
   exact wpS_pure (h _ ⟨hB,hc,hu⟩)
 .rintro c st1 ⟨rfl,hq⟩
  exact h _ hq
theorem modify_last {p:Array PT} {w:Nat} {l:List PT} {b n v:Nat} (h:p.toList=l++[(b,n,v)]):(p.modify (p.size-1) fun x=>(x.fst,x.2.fst,w)).toList=l++[(b,n,w)]:=by
 have hs:p.size=l.length+1:=by rw [<- yAS,h,yAD];rfl
 refine yCO fun i=>?_
 rw [yBH,Array.getElem?_modify]
 rw [<- yBH,h]
 by_cases c:p.size-1=i
 .rw [if_pos c,yAY (by omega),yAY (by omega),show i-l.length=0 by omega]
  rfl
 .rw [if_neg c]
  by_cases c2:i < l.length
  .rw [yAZ c2,yAZ c2]
  .rw [yBI (by rw [yAD,yBD];omega),yBI (by rw [yAD,yBD];omega)]
theorem pile_ok {lo n:Nat} {st:SortSt} {Q:ForInStep (Option Unit×Nat)->SortSt->Prop} (L:Asks M A E s κ a₀ f) (hn:1 <= n) (hln:lo+n <= a₀.size) (hq:PQ κ a₀ f lo n st)
  (h:∀ st',SB κ a₀ st'->Chn f (arrOf st') 0 (pendingOf st').toList (lo+n)->Q (.yield (none,lo+n)) st'):wpS M A E s (pile a₀.size lo n) Q st:=by
 have fin:∀ st3:SortSt,PQ κ a₀ f lo n st3->wpS M A E s (modify (fun z=>setPending z ((pendingOf z).push (lo,n,0))) >>= fun _=>pure (ForInStep.yield ((none,lo+n):Option Unit×Nat))) Q st3:=by
  rintro st3 ⟨hB3,hc3,hu3⟩
  refine wpS_bind (wpS_modify (wpS_pure (h _ ⟨hB3.perm,hB3.kind,hB3.fail⟩ ?_)))
  show Chn f (arrOf st3) 0 ((pendingOf st3).push (lo,n,0)).toList (lo+n)
  rw [Array.toList_push]
  exact Chn.app.mpr ⟨lo,hc3,rfl,hn,hu3,rfl⟩
 unfold pile
 refine wpS_bind (wpS_get ?_)
 cases hb:(pendingOf st).back? with
 | none=>exact fin st hq
 | some t=>
  obtain ⟨s1,n1,w1⟩:=t
  dsimp only
  refine wpS_bind (more_ok L (by omega) hq fun st2 hq2=>?_)
  dsimp only
  refine wpS_bind (wpS_modify (fin _ ?_))
  obtain ⟨hB2,hc2,hu2⟩:=hq2
  refine ⟨⟨hB2.perm,hB2.kind,hB2.fail⟩,?_,hu2⟩
  show Chn f (arrOf st2) 0 ((pendingOf st2).modify _ _).toList lo
  rcases List.eq_nil_or_concat (pendingOf st2).toList with e | ⟨l,⟨b,k,v⟩,e⟩
  .have:pendingOf st2=#[]:=by rw [<- Array.toList_inj,e]
   rw [this] at hc2 ⊢
   exact hc2
  .rw [List.concat_eq_append] at e
   rw [modify_last e]
   rw [e] at hc2
   exact hc2.pow
theorem ite_less (c:Prop) [Decidable c] (n:Nat):(if c then n-1 else n) <= n:=by split <;> omega
theorem wpS_cast {α:Type} {m m':SM α} {Q Q':α->SortSt->Prop} {st:SortSt} (e:m=m') (h:wpS M A E s m' Q' st) (q:∀ a st',Q' a st'->Q a st'):wpS M A E s m Q st:=by rw [e];exact wpS_mono h q
theorem sort_runs {st:SortSt} {Q:Unit->SortSt->Prop} (L:Asks M A E s κ a₀ f) (hB:SB κ a₀ st) (hp:pendingOf st=#[]) (h2:2 <= a₀.size)
  (h:∀ st',SB κ a₀ st'->Up f (arrOf st') 0 a₀.size->Q () st'):wpS M A E s sortRuns' Q st:=by
 rw [sortRuns'_eq]
 refine wpS_bind (wpS_get ?_)
 dsimp only
 rw [hB.size]
 generalize minRun' a₀.size a₀.size 0=mr
 refine wpS_bind (wpS_mono (wpS_forRange (I:=fun x c st'=>∃ lo,c=(none,lo) /\ SB κ a₀ st' /\ Chn f (arrOf st') 0 (pendingOf st').toList lo /\ lo <= a₀.size /\ min x a₀.size <= lo)
  (Q:=fun c st'=>c=(none,a₀.size) /\ SB κ a₀ st' /\ Chn f (arrOf st') 0 (pendingOf st').toList a₀.size) ?_ ?_ ⟨0,rfl,hB,by rw [hp];rfl,by omega,by omega⟩) ?_)
 .rintro x c st1 _ hx ⟨lo,rfl,hB1,hc1,hlo,hxl⟩
  dsimp only
  by_cases hge:lo≥a₀.size
  .rw [if_pos hge]
   have:lo=a₀.size:=by omega
   subst this
   exact wpS_pure ⟨rfl,hB1,hc1⟩
  rw [if_neg hge]
  refine wpS_bind (count_run L (by omega) (by omega) hB1 fun m st2 hB2 hm1 hm2 hu2 hk2 hp2=>?_)
  dsimp only
  have hc2:Chn f (arrOf st2) 0 (pendingOf st2).toList lo:=by
   rw [hp2]
   exact hc1.keep fun k _ k2=>hk2 k k2
  have done:∀ (n:Nat) (st3:SortSt),1 <= n->lo+n <= a₀.size->PQ κ a₀ f lo n st3->wpS M A E s (pile a₀.size lo n)
    (fun r st'=>match r with | .done c'=>c'=(none,a₀.size) /\ SB κ a₀ st' /\ Chn f (arrOf st') 0 (pendingOf st').toList a₀.size | .yield c'=>∃ lo,c'=(none,lo) /\ SB κ a₀ st' /\ Chn f (arrOf st') 0 (pendingOf st').toList lo /\ lo <= a₀.size /\ min (x+1) a₀.size <= lo) st3 :=
   fun n st3 hn hln hq=>pile_ok L hn hln hq fun st' hB' hc'=>⟨lo+n,rfl,hB',hc',hln,by omega⟩
  by_cases hlt:m < mr
  .rw [if_pos hlt]
   refine wpS_bind (wpS_lift (wpAny_rule ⟨rfl,?_⟩))
   refine wpS_bind (bin_sort L (by omega) (by omega) hB2 hu2 fun st3 hB3 hu3 hk3 hp3=>?_)
   rw [if_neg (by decide)]
   refine wpS_cast (by
    refine bnd _ fun z=>?_
    cases (pendingOf z).back? with
    | none=>rfl
    | some t=>
     obtain ⟨s1,n1,w1⟩:=t
     refine bnd2 (for2 fun _ c=>bnd _ fun z2=>?_) fun c=>?_
     .generalize (if (pendingOf z2).size > 1 then (pendingOf z2)[(pendingOf z2).size-2]? else none)=t2
      cases t2 with
      | none=>rfl
      | some t2=>rfl
     .obtain ⟨r,u⟩:=c
      cases r with
      | none=>rfl
      | some r=>rfl) (done _ st3 (by omega) (by omega) ⟨hB3,by rw [hp3];exact hc2.keep fun k _ k2=>hk3 k k2,hu3⟩) fun r st' z=>by cases r <;> exact z
  .rw [if_neg hlt]
   refine wpS_cast (by
    refine bnd _ fun z=>?_
    cases (pendingOf z).back? with
    | none=>rfl
    | some t=>
     obtain ⟨s1,n1,w1⟩:=t
     refine bnd2 (for2 fun _ c=>bnd _ fun z2=>?_) fun c=>?_
     .generalize (if (pendingOf z2).size > 1 then (pendingOf z2)[(pendingOf z2).size-2]? else none)=t2
      cases t2 with
      | none=>rfl
      | some t2=>rfl
     .obtain ⟨r,u⟩:=c
      cases r with
      | none=>rfl
      | some r=>rfl) (done m st2 hm1 (by omega) ⟨hB2,hc2,hu2⟩) fun r st' z=>by cases r <;> exact z
 .rintro c st1 ⟨lo,rfl,hB1,hc1,hlo,hxl⟩
  have:lo=a₀.size:=by omega
  subst this
  exact ⟨rfl,hB1,hc1⟩
 .rintro c st1 ⟨rfl,hB1,hc1⟩
  dsimp only
  refine wpS_bind (wpS_mono (wpS_forRange (I:=fun x c st'=>c=(none,()) /\ SB κ a₀ st' /\ Chn f (arrOf st') 0 (pendingOf st').toList a₀.size /\ ((pendingOf st').size+x <= a₀.size∨(pendingOf st').size <= 1))
   (Q:=fun c st'=>c=(none,()) /\ SB κ a₀ st' /\ Chn f (arrOf st') 0 (pendingOf st').toList a₀.size /\ (pendingOf st').size <= 1) ?_ ?_ ?_) ?_)
  .rintro x c st2 _ hx ⟨rfl,hB2,hc2,hz2⟩
   refine wpS_bind (wpS_get ?_)
   by_cases h1:(pendingOf st2).size <= 1
   .rw [if_pos h1]
    exact wpS_pure ⟨rfl,hB2,hc2,h1⟩
   rw [if_neg h1]
   have go:∀ i,i+1 < (pendingOf st2).size->wpS M A E s (mergeAt' i >>= fun b=>if (!b)=true then pure (ForInStep.done (some (),())) else pure (ForInStep.yield ((none,()):Option Unit×Unit)))
     (fun r st'=>match r with | .done c'=>c'=(none,()) /\ SB κ a₀ st' /\ Chn f (arrOf st') 0 (pendingOf st').toList a₀.size /\ (pendingOf st').size <= 1 | .yield c'=>c'=(none,()) /\ SB κ a₀ st' /\ Chn f (arrOf st') 0 (pendingOf st').toList a₀.size /\ ((pendingOf st').size+(x+1) <= a₀.size∨(pendingOf st').size <= 1)) st2:=fun i hi=>by
    refine wpS_bind (join_at L hB2 hc2 (yAA _) hi fun st3 hB3 hc3 hz3 _=>?_)
    exact wpS_pure ⟨rfl,hB3,hc3,by omega⟩
   refine wpS_mono (go _ ?_) fun r st' z=>by cases r <;> exact z
   exact Nat.lt_of_le_of_lt (Nat.add_le_add_right (ite_less _ _) 1) (by omega)
  .rintro c st2 ⟨rfl,hB2,hc2,hz2⟩
   exact ⟨rfl,hB2,hc2,by omega⟩
  .refine ⟨rfl,hB1,hc1,.inl ?_⟩
   have:=hc1.le
   rw [yAS] at this
   omega
  .rintro c st2 ⟨rfl,hB2,hc2,hz2⟩
   refine wpS_pure (h st2 hB2 ?_)
   cases e:(pendingOf st2).toList with
   | nil=>
    rw [e] at hc2
    have:0=a₀.size:=hc2
    omega
   | cons t r=>
    have hl:=congrArg List.length e
    rw [yAS,yAG] at hl
    have hr:r=[]:=List.length_eq_zero_iff.mp (by omega)
    subst hr
    obtain ⟨b,n,w⟩:=t
    rw [e] at hc2
    obtain ⟨_,_,hu,hn⟩:=hc2
    have:0+n=a₀.size:=hn
    rw [yCJ] at this
    rw [<- this]
    exact hu
end
end L2S
namespace L2S
open PySem PyProof.Rows
abbrev ZCn (h:Heap) (a:Addr) (vs:List Value):Heap:=((h.update a (Obj.mapSeq fun _=>#[])).push (seqObj "tuple" vs.toArray 0)).push (seqObj "list" #[] 0)
section
variable {prog:Program} {w:World} {A:Around} {E:Value->Shared->Prop} {s:Shared}
theorem mid_old {h:Heap} {a b:Addr} {vs:List Value} {o:Obj} (hb:b≠a) (e:h.get? b=some o):(ZCn h a vs).get? b=some o:=by
 refine Heap.get?_push_of_some _ (Heap.get?_push_of_some _ ?_)
 exact (Heap.get?_update_other _ _ (Ne.symm hb)).trans e
theorem sort_any {a:Addr} {vs:List Value} {n:Nat} {κ:SortKind} {f:Keyed->Int} {P:PySem.Fin->Shared->Prop} (ho:s.heap.get? a=some (seqObj "list" vs.toArray n)) (hz:vs.length <= 1000)
  (hkind:2 <= vs.length->∀ Q':SortKind->Shared->Prop,Q' κ { s with heap:=ZCn s.heap a vs }->wpAny (model prog w) A (keyKind' vs.toArray) Q' E { s with heap:=ZCn s.heap a vs })
  (hask:2 <= vs.length->Asks (model prog w) A E { s with heap:=ZCn s.heap a vs } κ (pairsOf vs) f)
  (h:∀ out:Array Keyed,out.Perm (pairsOf vs)->Up f out 0 vs.length->P (.done (.ret .none)) { s with heap:=sortedHeap s.heap a vs (out.map (·.2)) }):wpAny (model prog w) A (Builtin.«list.sort» ⟨[.ref a],[]⟩) P E s:=by
 rw [list_sort_plain]
 have ha:a < s.heap.objs.size:=Heap.lt_size ho
 refine wpAny_bind (listItems_at ho rfl ?_)
 refine wpAny_bind (listUpdate_at ho rfl ?_)
 obtain ⟨e1,ho1⟩:∃ e1,(s.heap.update a (Obj.mapSeq fun _=>#[])).get? a=some (seqObj "list" #[] e1):=⟨_,get?_update_seq ho (fun _=>#[])⟩
 refine wpAny_bind (seqEpoch_at ho1 rfl ?_)
 refine wpAny_bind (wpAny_newTuple (wpAny_bind (wpAny_newList (wpAny_holding ?_))))
 have ho6:(ZCn s.heap a vs).get? a=some (seqObj "list" #[] e1):=Heap.get?_push_of_some _ (Heap.get?_push_of_some _ ho1)
 show wpAny (model prog w) A _ P E { s with heap:=ZCn s.heap a vs }
 dsimp only
 have hsz:vs.toArray.size=vs.length:=yAT ..
 have hl:vs.length <= sizeLine:=yAP hz (by decide)
 rw [hsz]
 by_cases h2:vs.length < 2
 .rw [if_pos h2,if_pos h2]
  refine wpAny_bind (wpAny_pure ?_)
  rw [StateT.run_pure]
  refine wpAny_bind (wpAny_pure ?_)
  dsimp only
  refine wpAny_bind (seqEpoch_at ho6 rfl ?_)
  refine wpAny_bind (listUpdate_at ho6 rfl ?_ (hsz2:=by rw [Array.size_map];show (pairsOf vs).size <= _;rw [pairsOf_size];omega))
  rw [if_neg (by simp)]
  exact wpAny_pure (h (pairsOf vs) (Array.Perm.refl _) fun i j _ z2 z3=>by rw [show i=j by omega];exact Int.le_refl _)
 .rw [if_neg h2,if_neg h2]
  refine wpAny_bind (hkind (by omega) _ ?_)
  refine wpAny_bind (wpAny_mono (sort_runs (st:=SortSt.mk' κ (vs.toArray.zip vs.toArray) #[] 7 none) (Q:=fun _ st'=>SB κ (pairsOf vs) st' /\ Up f (arrOf st') 0 (pairsOf vs).size) (hask (by omega)) ⟨Array.Perm.refl _,rfl,rfl⟩ rfl (by rw [pairsOf_size];omega) fun st' a1 a2=>⟨a1,a2⟩) ?_ fun _ _ e=>e)
  rintro ⟨⟨⟩,st'⟩ s' ⟨rfl,hB,hu⟩
  dsimp only
  refine wpAny_bind (seqEpoch_at ho6 rfl ?_)
  have hs:(arrOf st').size=(pairsOf vs).size:=hB.size
  rw [pairsOf_size] at hs hu
  refine wpAny_bind (listUpdate_at ho6 rfl ?_ (hsz2:=by rw [Array.size_map];omega))
  rw [hB.fail,if_neg (by simp)]
  exact wpAny_pure (h _ hB.perm hu)
theorem sorted_any {l:Addr} {vs:List Value} {κ:SortKind} {f:Keyed->Int} {Q:Value->Shared->Prop} (hl:s.heap.IsList l vs.toArray) (hz:vs.length <= 1000)
  (hkind:∀ h':Heap,(∀ b o,s.heap.get? b=some o->h'.get? b=some o)->2 <= vs.length->∀ (A':Around) (E':Value->Shared->Prop) (Q':SortKind->Shared->Prop),A'.units <= A.units+8->Q' κ { s with heap:=h' }->wpAny (model prog w) A' (keyKind' vs.toArray) Q' E' { s with heap:=h' })
  (hask:∀ h':Heap,(∀ b o,s.heap.get? b=some o->h'.get? b=some o)->2 <= vs.length->∀ (A':Around) (E':Value->Shared->Prop),A'.units <= A.units+8->Asks (model prog w) A' E' { s with heap:=h' } κ (pairsOf vs) f)
  (h:∀ out:Array Keyed,out.Perm (pairsOf vs)->Up f out 0 vs.length->Q (.ref (s.heap.objs.size+1)) { s with heap:=sortedAll s.heap vs (out.map (·.2)) }):wpAny (model prog w) A (call (.builtin "sorted") [.ref l]) Q E s:=by
 refine Calls.call_function_entry kind_sorted plain_sorted entry_sorted (args_sorted1 _) ?_
 unfold Builtin.«sorted»
 refine wpAny_bind (m:=checkCount "sorted" 1 1 _) (wpAny_pure ?_)
 refine wpAny_bind (collect_list hl ?_ (yAP hz (by decide)))
 refine wpAny_bind (wpAny_newList ?_)
 have z1:((s.heap.push (seqObj "list" #[] 0)).update s.heap.objs.size (Obj.mapSeq (·++vs.toArray))).objs.size=s.heap.objs.size+1:=(Heap.size_update ..).trans (size_push' ..)
 have g1:(((s.heap.push (seqObj "list" #[] 0)).update s.heap.objs.size (Obj.mapSeq (·++vs.toArray))).push (seqObj "list" vs.toArray 0)).get? (s.heap.objs.size+1)=some (seqObj "list" vs.toArray 0):=by
  rw [<- z1];exact Heap.get?_push_size _ rfl
 have old:∀ b o,s.heap.get? b=some o->(ZCn (((s.heap.push (seqObj "list" #[] 0)).update s.heap.objs.size (Obj.mapSeq (·++vs.toArray))).push (seqObj "list" vs.toArray 0)) (s.heap.objs.size+1) vs).get? b=some o:=fun b o e=>by
  have lt:=Heap.lt_size e
  refine mid_old (yAO (Nat.lt_succ_of_lt lt)) (Heap.get?_push_of_some _ ?_)
  exact (Heap.get?_update_other _ _ (Nat.ne_of_gt lt)).trans (Heap.get?_push_of_some _ e)
 show wpAny _ _ _ _ _ { s with heap:=((s.heap.push (seqObj "list" #[] 0)).update s.heap.objs.size (Obj.mapSeq (·++vs.toArray))).push (seqObj "list" vs.toArray 0) }
 rw [z1]
 refine wpAny_bind (wpAny_holding (wpAny_call_entry slot_list_sort ⟨_,g1,rfl⟩ entry_list_sort (sort_any g1 hz (fun h2 Q' q=>hkind _ old h2 _ _ Q' ?_ q) (fun h2=>hask _ old h2 _ _ ?_) fun out a1 a2=>⟨_,rfl,?_⟩) (args_list_sort _)))
 .show A.units+1+1 <= A.units+8;omega
 .show A.units+1+1 <= A.units+8;omega
 .exact wpAny_pure ⟨_,rfl,h out a1 a2⟩
end
end L2S
namespace L2
open PySem PySem.Spec PyProof.Rows L2S
theorem kn_K {xs:Array Keyed} {i:Nat}:kn (fun p=>numOf p.1) xs i=PyProof.Rows.K xs i:=by
 unfold kn PyProof.Rows.K
 cases xs[i]? <;> rfl
section
variable {prog:Program} {w:World} {A:Around} {E:Value->Shared->Prop} {s:Shared}
theorem asks_ints {a₀:Array Keyed} (h0:IntKeys a₀):Asks (model prog w) A E s oneType' a₀ fun p=>numOf p.1 where
 lt:=fun x y hx hy st Q hk q=>by
  obtain ⟨n,t,e1⟩:=h0 x hx
  obtain ⟨m,u,e2⟩:=h0 y hy
  rw [lt'_eq]
  refine wpS_bind (wpS_get ?_)
  rw [hk,keyLt'_oneType]
  rw [e1,e2] at q ⊢
  exact wpS_bind (wpS_lift (wpAny_attempt (oneLt_int ⟨rfl,wpS_pure q⟩)))
theorem kind_of_ints {vs:List Value} {ns:List Int} (hI:IntsAre vs ns) (h2:2 <= vs.length):keyKind' vs.toArray=pure oneType':=by
 cases vs with
 | nil=>exact absurd h2 (by simp)
 | cons v₁ r=>
  cases r with
  | nil=>exact absurd h2 (by simp)
  | cons v₂ r=>exact keyKind_ints hI
theorem sorted_intsB {l:Addr} {vs:List Value} {ns:List Int} {Q:Value->Shared->Prop} (hl:s.heap.IsList l vs.toArray) (hI:IntsAre vs ns) (hz:vs.length <= 1000)
  (h:∀ (out:Array Value) (ns':List Int),IntsAre out.toList ns'->ns'.Perm ns->ns'.Pairwise (· <= ·)->Q (.ref (s.heap.objs.size+1)) { s with heap:=sortedAll s.heap vs out }):wpAny (model prog w) A (call (.builtin "sorted") [.ref l]) Q E s:=by
 refine sorted_any (κ:=oneType') (f:=fun p=>numOf p.1) hl hz (fun h' _ h2 A' E' Q' _ q=>?_) (fun h' _ h2 A' E' _=>asks_ints hI.intKeys) fun out hp hu=>?_
 .rw [kind_of_ints hI h2]
  exact wpAny_pure q
 .obtain ⟨ns',a1,a2,a3⟩:=sorted_out hI hp (fun i j z1 z2=>by
   rw [pairsOf_size] at z2
   have:=hu i j (yAI _) z1 (by omega)
   rw [kn_K,kn_K] at this
   exact this)
  exact h _ ns' a1 a2 a3
end
section
variable {X:Cx}
theorem ZBb:ZCM X (.builtin "sorted") (fun xs H Q=>∃ (p:Addr) (ns:List Int),xs=[.ref p] /\ SqL X.K H p (ns.map V.int) /\ ns.length <= 1000 /\ ∀ (l:Addr) (ms:List Int),H l=none->ms.Perm ns->ms.Pairwise (· <= ·)->Q (.ref l) (upd H l (.lst (ms.map V.int)))):=by
 intro pins s σ H xs us Q I r h
 obtain ⟨p,ns,rfl,hq,hn,q⟩:=h
 obtain ⟨u,rfl,rx⟩:=ZDS r
 cases rx
 obtain ⟨its,r',pl,hz⟩:=I.list hq
 have hlen:=r'.length
 rw [yAB] at hlen
 refine sorted_intsB pl.isList (ZB7 r') (by omega) fun out ns' a1 a2 a3=>?_
 obtain ⟨e,he⟩:=sortedAll_at s.heap its out
 have hl':ns'.length=ns.length:=a2.length_eq
 refine ⟨.ref (s.heap.objs.size+1),_,I.laid (t':=s.toks) (fun b o e=>sortedAll_old e) (yBG _) (o:=.lst (ns'.map V.int)) ⟨?_,out.toList,e,ZDR a1,by simpa using he⟩,rfl,q _ ns' (I.hok.fresh (yBG _)) a2 a3⟩
 rw [yAB]
 exact ZAX (by omega)
theorem op_isB:OpR X (compareOp .Is) (fun x y H Q=>∃ b c,x=.bl b /\ y=.bl c /\ Q (.bl (b == c)) H):=by
 intro pins s σ H x y v u Q I rx ry h
 obtain ⟨b,c,rfl,rfl,q⟩:=h
 cases rx
 cases ry
 exact is_bool (ZAn I q rfl)
end
open PySem PySem.Spec PyProof.Rows L2S
section
variable {prog:Program} {w:World} {A:Around} {E:Value->Shared->Prop} {s:Shared}
end
section
variable {X:Cx}
end
end L2
namespace L2S
open PySem PyProof.Rows L2
section
variable {prog:Program} {w:World} {A:Around} {E:Value->Shared->Prop} {s:Shared}
end
end L2S
namespace L2
open PySem PySem.Spec PyProof.Rows L2S
section
variable {X:Cx} {e d:Expr} {te td:TE} {p pos:Pos} {kpos:Pos}
def tSortR (K:W.Frag) (te td:TE):TE:=fun σ H Q=>te σ H fun x H1=>td σ H1 fun y H2=>∃ a ns,x=.ref a /\ y=.bl true /\ SqL K H2 a (ns.map V.int) /\ ns.length <= 1000 /\ ∀ (l:Addr) (ms:List Int),H2 l=none->ms.Perm ns->ms.Pairwise (·≥·)->Q (.ref l) (upd H2 l (.lst (ms.map V.int)))
end
end L2
namespace Gr
def qt (m a:Int) (p:Nat):Int:=a * 2 ^ p / (2 * m)
structure IsG (m a b:Int) (g:Nat):Prop where
 pos:1 <= g
 eq:∀ q,1 <= q->q < g->qt m a q=qt m b q
 ne:qt m a g≠qt m b g
theorem p2pos (p:Nat):(0:Int) < 2 ^ p:=Int.pow_pos (by decide)
theorem qt_ne {m a b:Int} {p:Nat} (hm:0 < m) (hab:a+2 <= b) (hp:m <= 2 ^ p):qt m a p≠qt m b p:=by
 unfold qt
 have h1:a * 2 ^ p+2 * m <= b * 2 ^ p:=by
  have:(a+2) * 2 ^ p <= b * 2 ^ p:=Int.mul_le_mul_of_nonneg_right hab (Int.le_of_lt (p2pos p))
  rw [Int.add_mul] at this
  omega
 have h2:(a * 2 ^ p+2 * m) / (2 * m) <= b * 2 ^ p / (2 * m):=Int.ediv_le_ediv (by omega) h1
 rw [Int.add_ediv_of_dvd_right (Int.dvd_refl _),Int.ediv_self (by omega)] at h2
 omega
end Gr
namespace Gr
end Gr
namespace Pap
def IsP (p:List Nat):Prop:=p.Perm (List.range p.length)
def at' (p:List Nat) (i:Nat):Nat:=p.getD i 0
def bk (p:List Nat):List Nat:=(List.range p.length).map fun v=>p.idxOf v
theorem at_lt {p:List Nat} {i:Nat} (h:i < p.length):p[i]?=some (at' p i):=by
 unfold at';rw [List.getD_eq_getElem?_getD,yAJ h];rfl
theorem ZEu {p:List Nat} {i:Nat} (h:i < p.length):at' p i=p[i]:=by
 unfold at';rw [List.getD_eq_getElem?_getD,yAJ h];rfl
theorem IsP.lt {p:List Nat} (h:IsP p) {x:Nat} (hx:x∈p):x < p.length:=yCE.mp (h.mem_iff.mp hx)
theorem IsP.mem {p:List Nat} (h:IsP p) {x:Nat} (hx:x < p.length):x∈p:=h.mem_iff.mpr (yCE.mpr hx)
theorem IsP.nd {p:List Nat} (h:IsP p):p.Nodup:=h.nodup_iff.mpr List.nodup_range
theorem IsP.at_mem {p:List Nat} {i:Nat} (h:i < p.length):at' p i∈p:=by rw [ZEu h];exact List.getElem_mem h
theorem IsP.at_lt {p:List Nat} (hp:IsP p) {i:Nat} (h:i < p.length):at' p i < p.length:=hp.lt (IsP.at_mem h)
theorem of_nd {p:List Nat} (nd:p.Nodup) (h:∀ x,x∈p↔x < p.length):IsP p:=(List.perm_ext_iff_of_nodup nd List.nodup_range).mpr fun a=>(h a).trans yCE.symm
theorem idx_lt {p:List Nat} (h:IsP p) {v:Nat} (hv:v < p.length):p.idxOf v < p.length:=List.idxOf_lt_length_iff.mpr (h.mem hv)
theorem at_idx {p:List Nat} (h:IsP p) {v:Nat} (hv:v < p.length):at' p (p.idxOf v)=v:=by rw [ZEu (idx_lt h hv)];exact List.getElem_idxOf _
theorem idx_at {p:List Nat} (h:IsP p) {i:Nat} (hi:i < p.length):p.idxOf (at' p i)=i:=by rw [ZEu hi];exact h.nd.idxOf_getElem i hi
theorem bk_len (p:List Nat):(bk p).length=p.length:=by unfold bk;rw [yAB,List.length_range]
theorem bk_at {p:List Nat} {v:Nat} (hv:v < p.length):at' (bk p) v=p.idxOf v:=by
 unfold bk
 rw [ZEu (by rw [yAB,List.length_range];exact hv),List.getElem_map,List.getElem_range]
theorem ext {p q:List Nat} (hl:p.length=q.length) (h:∀ i,i < p.length->at' p i=at' q i):p=q:=by
 refine yCO fun i=>?_
 by_cases hi:i < p.length
 .rw [Pap.at_lt hi,Pap.at_lt (hl ▸ hi),h i hi]
 .rw [yBI (by omega),yBI (by omega)]
theorem IsP.sorted {p:List Nat} (hp:IsP p) {ms:List Int} (h:ms.Perm (p.map fun x:Nat=>(x:Int))) (hs:ms.Pairwise (· <= ·)):ms=(List.range p.length).map fun x:Nat=>(x:Int):=by
 refine List.Perm.eq_of_pairwise (le:=(· <= ·)) (fun a b _ _ h1 h2=>Int.le_antisymm h1 h2) hs ?_ (h.trans (hp.map _))
 rw [List.pairwise_map]
 exact List.Pairwise.imp (fun h=>by omega) List.pairwise_le_range
def spots (p:List Nat) (i:Nat):List Nat:=(List.range p.length).map fun v=>if v∈p.take i then p.idxOf v else v
theorem spots_len (p:List Nat) (i:Nat):(spots p i).length=p.length:=by unfold spots;rw [yAB,List.length_range]
theorem spots_zero (p:List Nat):spots p 0=List.range p.length:=by
 unfold spots
 rw [List.take_zero]
 refine (List.map_congr_left (g:=id) fun x _=>?_).trans (List.map_id _)
 rw [if_neg (by simp)];rfl
theorem spots_end {p:List Nat} (hp:IsP p):spots p p.length=bk p:=by
 unfold spots bk
 refine List.map_congr_left fun x hx=>?_
 rw [List.take_length,if_pos (hp.mem (yCE.mp hx))]
theorem spots_step {p:List Nat} (hp:IsP p) {i:Nat} (hi:i < p.length):(spots p i).set (at' p i) i=spots p (i+1):=by
 refine ext (by rw [List.length_set,spots_len,spots_len]) fun v hv=>?_
 rw [List.length_set,spots_len] at hv
 have get:∀ j,at' (spots p j) v=if v∈p.take j then p.idxOf v else v:=fun j=>by
  rw [ZEu (by rw [spots_len];exact hv)]
  unfold spots
  rw [List.getElem_map,List.getElem_range]
 rw [get,ZEu (by rw [List.length_set,spots_len];exact hv),List.getElem_set]
 have tk:p.take (i+1)=p.take i++[at' p i]:=by rw [List.take_succ,Pap.at_lt hi];rfl
 split
 .rename_i e
  rw [tk,if_pos (by rw [<- e];simp),<- e,idx_at hp hi]
 .rename_i e
  have h1:=get i
  rw [ZEu (by rw [spots_len];exact hv)] at h1
  rw [h1,tk]
  by_cases q:v∈p.take i
  .rw [if_pos q,if_pos (yBC _ q)]
  .rw [if_neg q,if_neg]
   intro z
   rcases yAV.mp z with z | z
   .exact q z
   .exact e (yAM.mp z).symm
end Pap
namespace L2
open PySem
theorem tVar_1 {v:V} {a0:Option V} {σ:St} {H:Hp} {Q:VK}:tVar 1 (a0::some v::σ) H Q=Q v H:=by
 simp only [ZAq,ZAo]
theorem tVar_2 {v:V} {a0 a1:Option V} {σ:St} {H:Hp} {Q:VK}:tVar 2 (a0::a1::some v::σ) H Q=Q v H:=by
 simp only [ZAq,ZAo]
theorem tVar_3 {v:V} {a0 a1 a2:Option V} {σ:St} {H:Hp} {Q:VK}:tVar 3 (a0::a1::a2::some v::σ) H Q=Q v H:=by
 simp only [ZAq,ZAo]
theorem tVar_4 {v:V} {a0 a1 a2 a3:Option V} {σ:St} {H:Hp} {Q:VK}:tVar 4 (a0::a1::a2::a3::some v::σ) H Q=Q v H:=by
 simp only [ZAq,ZAo]
theorem tVar_5 {v:V} {a0 a1 a2 a3 a4:Option V} {σ:St} {H:Hp} {Q:VK}:tVar 5 (a0::a1::a2::a3::a4::some v::σ) H Q=Q v H:=by
 simp only [ZAq,ZAo]
theorem tVar_6 {v:V} {a0 a1 a2 a3 a4 a5:Option V} {σ:St} {H:Hp} {Q:VK}:tVar 6 (a0::a1::a2::a3::a4::a5::some v::σ) H Q=Q v H:=by
 simp only [ZAq,ZAo]
theorem tVar_7 {v:V} {a0 a1 a2 a3 a4 a5 a6:Option V} {σ:St} {H:Hp} {Q:VK}:tVar 7 (a0::a1::a2::a3::a4::a5::a6::some v::σ) H Q=Q v H:=by
 simp only [ZAq,ZAo]
theorem tVar_8 {v:V} {a0 a1 a2 a3 a4 a5 a6 a7:Option V} {σ:St} {H:Hp} {Q:VK}:tVar 8 (a0::a1::a2::a3::a4::a5::a6::a7::some v::σ) H Q=Q v H:=by
 simp only [ZAq,ZAo]
theorem tVar_9 {v:V} {a0 a1 a2 a3 a4 a5 a6 a7 a8:Option V} {σ:St} {H:Hp} {Q:VK}:tVar 9 (a0::a1::a2::a3::a4::a5::a6::a7::a8::some v::σ) H Q=Q v H:=by
 simp only [ZAq,ZAo]
theorem tVar_10 {v:V} {a0 a1 a2 a3 a4 a5 a6 a7 a8 a9:Option V} {σ:St} {H:Hp} {Q:VK}:tVar 10 (a0::a1::a2::a3::a4::a5::a6::a7::a8::a9::some v::σ) H Q=Q v H:=by
 simp only [ZAq,ZAo]
theorem tVar_11 {v:V} {a0 a1 a2 a3 a4 a5 a6 a7 a8 a9 a10:Option V} {σ:St} {H:Hp} {Q:VK}:tVar 11 (a0::a1::a2::a3::a4::a5::a6::a7::a8::a9::a10::some v::σ) H Q=Q v H:=by
 simp only [ZAq,ZAo]
theorem tVar_12 {v:V} {a0 a1 a2 a3 a4 a5 a6 a7 a8 a9 a10 a11:Option V} {σ:St} {H:Hp} {Q:VK}:tVar 12 (a0::a1::a2::a3::a4::a5::a6::a7::a8::a9::a10::a11::some v::σ) H Q=Q v H:=by
 simp only [ZAq,ZAo]
theorem tVar_13 {v:V} {a0 a1 a2 a3 a4 a5 a6 a7 a8 a9 a10 a11 a12:Option V} {σ:St} {H:Hp} {Q:VK}:tVar 13 (a0::a1::a2::a3::a4::a5::a6::a7::a8::a9::a10::a11::a12::some v::σ) H Q=Q v H:=by
 simp only [ZAq,ZAo]
theorem tVar_14 {v:V} {a0 a1 a2 a3 a4 a5 a6 a7 a8 a9 a10 a11 a12 a13:Option V} {σ:St} {H:Hp} {Q:VK}:tVar 14 (a0::a1::a2::a3::a4::a5::a6::a7::a8::a9::a10::a11::a12::a13::some v::σ) H Q=Q v H:=by
 simp only [ZAq,ZAo]
theorem tVar_15 {v:V} {a0 a1 a2 a3 a4 a5 a6 a7 a8 a9 a10 a11 a12 a13 a14:Option V} {σ:St} {H:Hp} {Q:VK}:tVar 15 (a0::a1::a2::a3::a4::a5::a6::a7::a8::a9::a10::a11::a12::a13::a14::some v::σ) H Q=Q v H:=by
 simp only [ZAq,ZAo]
theorem tVar_16 {v:V} {a0 a1 a2 a3 a4 a5 a6 a7 a8 a9 a10 a11 a12 a13 a14 a15:Option V} {σ:St} {H:Hp} {Q:VK}:tVar 16 (a0::a1::a2::a3::a4::a5::a6::a7::a8::a9::a10::a11::a12::a13::a14::a15::some v::σ) H Q=Q v H:=by
 simp only [ZAq,ZAo]
theorem tVar_17 {v:V} {a0 a1 a2 a3 a4 a5 a6 a7 a8 a9 a10 a11 a12 a13 a14 a15 a16:Option V} {σ:St} {H:Hp} {Q:VK}:tVar 17 (a0::a1::a2::a3::a4::a5::a6::a7::a8::a9::a10::a11::a12::a13::a14::a15::a16::some v::σ) H Q=Q v H:=by
 simp only [ZAq,ZAo]
theorem tVar_18 {v:V} {a0 a1 a2 a3 a4 a5 a6 a7 a8 a9 a10 a11 a12 a13 a14 a15 a16 a17:Option V} {σ:St} {H:Hp} {Q:VK}:tVar 18 (a0::a1::a2::a3::a4::a5::a6::a7::a8::a9::a10::a11::a12::a13::a14::a15::a16::a17::some v::σ) H Q=Q v H:=by
 simp only [ZAq,ZAo]
theorem tVar_19 {v:V} {a0 a1 a2 a3 a4 a5 a6 a7 a8 a9 a10 a11 a12 a13 a14 a15 a16 a17 a18:Option V} {σ:St} {H:Hp} {Q:VK}:tVar 19 (a0::a1::a2::a3::a4::a5::a6::a7::a8::a9::a10::a11::a12::a13::a14::a15::a16::a17::a18::some v::σ) H Q=Q v H:=by
 simp only [ZAq,ZAo]
theorem tVar_20 {v:V} {a0 a1 a2 a3 a4 a5 a6 a7 a8 a9 a10 a11 a12 a13 a14 a15 a16 a17 a18 a19:Option V} {σ:St} {H:Hp} {Q:VK}:tVar 20 (a0::a1::a2::a3::a4::a5::a6::a7::a8::a9::a10::a11::a12::a13::a14::a15::a16::a17::a18::a19::some v::σ) H Q=Q v H:=by
 simp only [ZAq,ZAo]
theorem tVar_21 {v:V} {a0 a1 a2 a3 a4 a5 a6 a7 a8 a9 a10 a11 a12 a13 a14 a15 a16 a17 a18 a19 a20:Option V} {σ:St} {H:Hp} {Q:VK}:tVar 21 (a0::a1::a2::a3::a4::a5::a6::a7::a8::a9::a10::a11::a12::a13::a14::a15::a16::a17::a18::a19::a20::some v::σ) H Q=Q v H:=by
 simp only [ZAq,ZAo]
theorem tVar_22 {v:V} {a0 a1 a2 a3 a4 a5 a6 a7 a8 a9 a10 a11 a12 a13 a14 a15 a16 a17 a18 a19 a20 a21:Option V} {σ:St} {H:Hp} {Q:VK}:tVar 22 (a0::a1::a2::a3::a4::a5::a6::a7::a8::a9::a10::a11::a12::a13::a14::a15::a16::a17::a18::a19::a20::a21::some v::σ) H Q=Q v H:=by
 simp only [ZAq,ZAo]
theorem tVar_23 {v:V} {a0 a1 a2 a3 a4 a5 a6 a7 a8 a9 a10 a11 a12 a13 a14 a15 a16 a17 a18 a19 a20 a21 a22:Option V} {σ:St} {H:Hp} {Q:VK}:tVar 23 (a0::a1::a2::a3::a4::a5::a6::a7::a8::a9::a10::a11::a12::a13::a14::a15::a16::a17::a18::a19::a20::a21::a22::some v::σ) H Q=Q v H:=by
 simp only [ZAq,ZAo]
theorem tVar_24 {v:V} {a0 a1 a2 a3 a4 a5 a6 a7 a8 a9 a10 a11 a12 a13 a14 a15 a16 a17 a18 a19 a20 a21 a22 a23:Option V} {σ:St} {H:Hp} {Q:VK}:tVar 24 (a0::a1::a2::a3::a4::a5::a6::a7::a8::a9::a10::a11::a12::a13::a14::a15::a16::a17::a18::a19::a20::a21::a22::a23::some v::σ) H Q=Q v H:=by
 simp only [ZAq,ZAo]
theorem tVar_25 {v:V} {a0 a1 a2 a3 a4 a5 a6 a7 a8 a9 a10 a11 a12 a13 a14 a15 a16 a17 a18 a19 a20 a21 a22 a23 a24:Option V} {σ:St} {H:Hp} {Q:VK}:tVar 25 (a0::a1::a2::a3::a4::a5::a6::a7::a8::a9::a10::a11::a12::a13::a14::a15::a16::a17::a18::a19::a20::a21::a22::a23::a24::some v::σ) H Q=Q v H:=by
 simp only [ZAq,ZAo]
theorem tVar_26 {v:V} {a0 a1 a2 a3 a4 a5 a6 a7 a8 a9 a10 a11 a12 a13 a14 a15 a16 a17 a18 a19 a20 a21 a22 a23 a24 a25:Option V} {σ:St} {H:Hp} {Q:VK}:tVar 26 (a0::a1::a2::a3::a4::a5::a6::a7::a8::a9::a10::a11::a12::a13::a14::a15::a16::a17::a18::a19::a20::a21::a22::a23::a24::a25::some v::σ) H Q=Q v H:=by
 simp only [ZAq,ZAo]
theorem tVar_27 {v:V} {a0 a1 a2 a3 a4 a5 a6 a7 a8 a9 a10 a11 a12 a13 a14 a15 a16 a17 a18 a19 a20 a21 a22 a23 a24 a25 a26:Option V} {σ:St} {H:Hp} {Q:VK}:tVar 27 (a0::a1::a2::a3::a4::a5::a6::a7::a8::a9::a10::a11::a12::a13::a14::a15::a16::a17::a18::a19::a20::a21::a22::a23::a24::a25::a26::some v::σ) H Q=Q v H:=by
 simp only [ZAq,ZAo]
theorem tVar_28 {v:V} {a0 a1 a2 a3 a4 a5 a6 a7 a8 a9 a10 a11 a12 a13 a14 a15 a16 a17 a18 a19 a20 a21 a22 a23 a24 a25 a26 a27:Option V} {σ:St} {H:Hp} {Q:VK}:tVar 28 (a0::a1::a2::a3::a4::a5::a6::a7::a8::a9::a10::a11::a12::a13::a14::a15::a16::a17::a18::a19::a20::a21::a22::a23::a24::a25::a26::a27::some v::σ) H Q=Q v H:=by
 simp only [ZAq,ZAo]
theorem tVar_29 {v:V} {a0 a1 a2 a3 a4 a5 a6 a7 a8 a9 a10 a11 a12 a13 a14 a15 a16 a17 a18 a19 a20 a21 a22 a23 a24 a25 a26 a27 a28:Option V} {σ:St} {H:Hp} {Q:VK}:tVar 29 (a0::a1::a2::a3::a4::a5::a6::a7::a8::a9::a10::a11::a12::a13::a14::a15::a16::a17::a18::a19::a20::a21::a22::a23::a24::a25::a26::a27::a28::some v::σ) H Q=Q v H:=by
 simp only [ZAq,ZAo]
theorem tVar_30 {v:V} {a0 a1 a2 a3 a4 a5 a6 a7 a8 a9 a10 a11 a12 a13 a14 a15 a16 a17 a18 a19 a20 a21 a22 a23 a24 a25 a26 a27 a28 a29:Option V} {σ:St} {H:Hp} {Q:VK}:tVar 30 (a0::a1::a2::a3::a4::a5::a6::a7::a8::a9::a10::a11::a12::a13::a14::a15::a16::a17::a18::a19::a20::a21::a22::a23::a24::a25::a26::a27::a28::a29::some v::σ) H Q=Q v H:=by
 simp only [ZAq,ZAo]
open PySem
def Cut (t:TS):TS:=t
theorem ZAT {X:Cx} {rest:List Stmt} {u:TS} (h:PSs X rest u):PSs X rest (Cut u):=h
theorem ZAZ {u:TS} {D:Ends} {σ:St} {H:Hp} (h:u D σ H):Cut u D σ H:=h
theorem us0 {l:List Value} (h:l.length=0):l=[]:=List.length_eq_zero_iff.mp h
theorem us1 {l:List Value} (h:l.length=1):∃ a0,l=[a0]:=by
 cases l with
 | nil=>cases h
 | cons a l=>
  obtain rfl:=us0 (l:=l) (Nat.succ.inj h)
  exact ⟨a,rfl⟩
theorem us2 {l:List Value} (h:l.length=2):∃ a0 a1,l=[a0,a1]:=by
 cases l with
 | nil=>cases h
 | cons a l=>
  obtain ⟨b0,rfl⟩:=us1 (l:=l) (Nat.succ.inj h)
  exact ⟨a,b0,rfl⟩
theorem us3 {l:List Value} (h:l.length=3):∃ a0 a1 a2,l=[a0,a1,a2]:=by
 cases l with
 | nil=>cases h
 | cons a l=>
  obtain ⟨b0,b1,rfl⟩:=us2 (l:=l) (Nat.succ.inj h)
  exact ⟨a,b0,b1,rfl⟩
theorem us4 {l:List Value} (h:l.length=4):∃ a0 a1 a2 a3,l=[a0,a1,a2,a3]:=by
 cases l with
 | nil=>cases h
 | cons a l=>
  obtain ⟨b0,b1,b2,rfl⟩:=us3 (l:=l) (Nat.succ.inj h)
  exact ⟨a,b0,b1,b2,rfl⟩
theorem us5 {l:List Value} (h:l.length=5):∃ a0 a1 a2 a3 a4,l=[a0,a1,a2,a3,a4]:=by
 cases l with
 | nil=>cases h
 | cons a l=>
  obtain ⟨b0,b1,b2,b3,rfl⟩:=us4 (l:=l) (Nat.succ.inj h)
  exact ⟨a,b0,b1,b2,b3,rfl⟩
end L2
namespace Law
open PySem L2
local macro_rules | `(tactic| walk_at "o")=>`(tactic| first | exact Or.inl rfl | exact Or.inr rfl)
local macro_rules | `(tactic| walk_at "rd")=>`(tactic| ((try dsimp only [cx_K,ZFK,tDNewK,ZEd,tDIn,tDGet,ZF1,tChain,tForZ_eq,tRevL,tCompR2_eq,sFldAug_eq,cx_cloK,ZFL,ZCr,tForE_eq,tCompE_eq,tMaxD,tAug_eq,ipI_int,gSub,gCons_eq,gNil_eq,tSeq,tIfS,ZFr,tB,tOr,tAnd,tNot,tOp,tUn,tC,ZAo,tSortR,tCompZ_eq,tBreak,tPar,tCompR3_eq,tBL,ZFI,gK21,tVar_1,tVar_2,tVar_3,tVar_4,tVar_5,tVar_6,tVar_7,tVar_8,tVar_9,tVar_10,tVar_11,tVar_12,tVar_13,tVar_14,tVar_15,tVar_16,tVar_17,tVar_18,tVar_19,tVar_20,tVar_21,tVar_22,tVar_23,tVar_24,tVar_25,tVar_26,tVar_27,tVar_28,tVar_29,tVar_30,rI0_int,rI_int,rU_int,rEq_int,rNe_int,rEq_bl,rNe_bl,rEq_str,rNe_str,ex_bl,ex_int,tAsg,ZFe,tRet,tRetN,ZFv,ZFu,ZFH,ZFw,tOrV,ZFt,tIf,List.set_cons_zero,List.set_cons_succ,ZFj,ZE9,ZB9,tNil,List.cons_append,List.nil_append,yBB,tCB,tFld_eq,sFld_eq,tForL_eq,tForR1_eq,tForR2_eq,tCompL_eq,tCompR1_eq,tYes,tBM,tBM0,tLst,tTup,ZFJ,true_and,tSl,ZFs,ZEc,decide_eq_true_eq,Bool.not_eq_true',decide_eq_false_iff_not,L2.start,yAX,List.map_nil,yAG,yBT,Nat.reduceAdd,Nat.reduceSub,yCJ,yBF,List.replicate_zero,List.replicate_succ,if_true,if_false,yCL,Bool.true_eq_false,Bool.not_true,Bool.not_false]);(try simp only [cx_K,ZFK,tDNewK,ZEd,tDIn,tDGet,ZF1,tChain,tForZ_eq,tRevL,tCompR2_eq,sFldAug_eq,cx_cloK,ZFL,ZCr,tForE_eq,tCompE_eq,tMaxD,tAug_eq,ipI_int,gSub,gCons_eq,gNil_eq,tSeq,tIfS,ZFr,tB,tOr,tAnd,tNot,tOp,tUn,tC,ZAo,tSortR,tCompZ_eq,tBreak,tPar,tCompR3_eq,tBL,ZFI,gK21,tVar_1,tVar_2,tVar_3,tVar_4,tVar_5,tVar_6,tVar_7,tVar_8,tVar_9,tVar_10,tVar_11,tVar_12,tVar_13,tVar_14,tVar_15,tVar_16,tVar_17,tVar_18,tVar_19,tVar_20,tVar_21,tVar_22,tVar_23,tVar_24,tVar_25,tVar_26,tVar_27,tVar_28,tVar_29,tVar_30,rI0_int,rI_int,rU_int,rEq_int,rNe_int,rEq_bl,rNe_bl,rEq_str,rNe_str,ex_bl,ex_int,tAsg,ZFe,tRet,tRetN,ZFv,ZFu,ZFH,ZFw,tOrV,ZFt,tIf,List.set_cons_zero,List.set_cons_succ,ZFj,ZE9,ZB9,tNil,List.cons_append,List.nil_append,yBB,tCB,tFld_eq,sFld_eq,tForL_eq,tForR1_eq,tForR2_eq,tCompL_eq,tCompR1_eq,tYes,tBM,tBM0,tLst,tTup,ZFJ,true_and,tSl,ZFs,ZEc,decide_eq_true_eq,Bool.not_eq_true',decide_eq_false_iff_not,L2.start,yAX,List.map_nil,yAG,yBT,Nat.reduceAdd,Nat.reduceSub,yCJ,yBF,List.replicate_zero,List.replicate_succ,if_true,if_false,yCL,Bool.true_eq_false,Bool.not_true,Bool.not_false])))
local macro_rules | `(tactic| walk_at "up")=>`(tactic| first | assumption | (refine Same.get (by assumption) ?_;walk_at "up"))
local macro_rules | `(tactic| walk_at "lk")=>`(tactic| ((repeat (first | rw [lkc,if_pos rfl] | rw [lkc,if_neg (by decide +kernel)]));first | done | rfl))
def top (i:Nat):Stmt:=PySem.Challenge.pw_sorthall_k55_whole_paper_at_each_step.main.body.getD i (.Pass ⟨0,0,0,0⟩)
abbrev ZDm:Stmt:=top 2
abbrev ZBT:Stmt:=ZAr (top 7) 0
abbrev ZAy:Stmt:=ZAr (top 7) 1
abbrev ZBF:Stmt:=ZAr (top 7) 2
abbrev ZA5:Stmt:=ZAr (top 7) 3
abbrev ZAt:Stmt:=ZAr (top 7) 4
abbrev ZBk:Stmt:=ZAr (top 7) 5
abbrev ZA6:Stmt:=ZAr (top 7) 6
abbrev ZCX:Stmt:=top 8
abbrev ZA4:Stmt:=top 10
abbrev ZB5:Stmt:=top 11
abbrev ZB2:Stmt:=top 13
abbrev ZCY:Stmt:=top 14
abbrev ZC8:Stmt:=top 16
abbrev ZBS:Stmt:=ZAr (top 18) 0
abbrev ZAs:Stmt:=ZAr (top 18) 1
abbrev ZAe:Stmt:=ZAr (top 18) 2
abbrev ZAx:Stmt:=ZAr (top 18) 3
abbrev ZAi:Stmt:=ZAr (top 18) 4
abbrev ZBj:Stmt:=ZAr (top 18) 5
abbrev ZBR:Stmt:=ZAr (top 18) 6
abbrev ZAw:Stmt:=ZAr (top 18) 7
abbrev ZBE:Stmt:=ZAr (top 18) 8
abbrev ZBH:Stmt:=ZAr (top 24) 0
abbrev ZBG:Stmt:=ZAr (top 24) 1
abbrev ZBA:Stmt:=ZAr (top 24) 2
abbrev ZAz:Stmt:=ZAr (top 24) 3
abbrev ZBg:Stmt:=top 26
abbrev ZBQ:Stmt:=top 27
abbrev ZBi:Stmt:=top 28
abbrev ZA9:Stmt:=top 29
abbrev ZDo:Stmt:=top 30
abbrev ZCa:Stmt:=top 31
abbrev ZC7:Stmt:=top 32
abbrev ZAu:Stmt:=ZAr (top 35) 0
abbrev ZAm:Stmt:=ZAr (top 35) 1
abbrev ZB6:Stmt:=top 37
abbrev ZCZ:Stmt:=top 38
abbrev ZB4:Stmt:=top 39
abbrev ZCW:Stmt:=top 40
abbrev ZCA:Stmt:=top 41
abbrev ZB3:Stmt:=top 42
abbrev ZDl:Stmt:=top 43
abbrev ZBh:Stmt:=top 44
abbrev ZDn:Stmt:=top 45
abbrev ZC9:Stmt:=top 46
abbrev ZEA:Stmt:=top 47
theorem sc_leap:FnScope ["asker","order","first","place","low","high","wide","middle"] ["asker","order","first","place"] (ZAC ZDm):=⟨rfl,rfl,rfl,by decide +kernel,rfl,by decide +kernel,by decide +kernel⟩
theorem sc_Join_init:FnScope ["self","asker","left","right"] ["self","asker","left","right"] (ZAC ZBT):=⟨rfl,rfl,rfl,by decide +kernel,rfl,by decide +kernel,by decide +kernel⟩
theorem sc_Join_has_more:FnScope ["self","side"] ["self","side"] (ZAC ZAy):=⟨rfl,rfl,rfl,by decide +kernel,rfl,by decide +kernel,by decide +kernel⟩
theorem sc_Join_front:FnScope ["self","side"] ["self","side"] (ZAC ZBF):=⟨rfl,rfl,rfl,by decide +kernel,rfl,by decide +kernel,by decide +kernel⟩
theorem sc_Join_take_on:FnScope ["self","side","more","start"] ["self","side","more"] (ZAC ZA5):=⟨rfl,rfl,rfl,by decide +kernel,rfl,by decide +kernel,by decide +kernel⟩
theorem sc_Join_take_rest:FnScope ["self","side"] ["self","side"] (ZAC ZAt):=⟨rfl,rfl,rfl,by decide +kernel,rfl,by decide +kernel,by decide +kernel⟩
theorem sc_Join_win:FnScope ["self","side"] ["self"] (ZAC ZBk):=⟨rfl,rfl,rfl,by decide +kernel,rfl,by decide +kernel,by decide +kernel⟩
theorem sc_Join_leap_on:FnScope ["self","side","other"] ["self","side"] (ZAC ZA6):=⟨rfl,rfl,rfl,by decide +kernel,rfl,by decide +kernel,by decide +kernel⟩
theorem sc_joined:FnScope ["asker","left","right","join","wins","winner","side"] ["asker","left","right"] (ZAC ZCX):=⟨rfl,rfl,rfl,by decide +kernel,rfl,by decide +kernel,by decide +kernel⟩
theorem sc_stretch_from:FnScope ["asker","first","end","stop","beyond","falling"] ["asker","first","end"] (ZAC ZA4):=⟨rfl,rfl,rfl,by decide +kernel,rfl,by decide +kernel,by decide +kernel⟩
theorem sc_in_turn:FnScope ["first","beyond","falling","places"] ["first","beyond","falling"] (ZAC ZB5):=⟨rfl,rfl,rfl,by decide +kernel,rfl,by decide +kernel,by decide +kernel⟩
theorem sc_spot_of:FnScope ["asker","order","place","low","high","middle"] ["asker","order","place"] (ZAC ZB2):=⟨rfl,rfl,rfl,by decide +kernel,rfl,by decide +kernel,by decide +kernel⟩
theorem sc_filled:FnScope ["asker","first","least","end","stop","part","found","order","place"] ["asker","first","least","end"] (ZAC ZCY):=⟨rfl,rfl,rfl,by decide +kernel,rfl,by decide +kernel,by decide +kernel⟩
theorem sc_grade:FnScope ["many","first","middle","beyond","lower","upper","found"] ["many","first","middle","beyond"] (ZAC ZC8):=⟨rfl,rfl,rfl,by decide +kernel,rfl,by decide +kernel,by decide +kernel⟩
theorem sc_Pile_init:FnScope ["self","asker","least","part"] ["self","asker","least","part"] (ZAC ZBS):=⟨rfl,rfl,rfl,by decide +kernel,rfl,by decide +kernel,by decide +kernel⟩
theorem sc_Pile_beyond_of:FnScope ["self","number"] ["self","number"] (ZAC ZAs):=⟨rfl,rfl,rfl,by decide +kernel,rfl,by decide +kernel,by decide +kernel⟩
theorem sc_Pile_is_due_beneath:FnScope ["self"] ["self"] (ZAC ZAe):=⟨rfl,rfl,rfl,by decide +kernel,rfl,by decide +kernel,by decide +kernel⟩
theorem sc_Pile_join_two:FnScope ["self","lower","order","deed"] ["self","lower"] (ZAC ZAx):=⟨rfl,rfl,rfl,by decide +kernel,rfl,by decide +kernel,by decide +kernel⟩
theorem sc_Pile_grade_on_top:FnScope ["self","middle","beyond"] ["self","middle","beyond"] (ZAC ZAi):=⟨rfl,rfl,rfl,by decide +kernel,rfl,by decide +kernel,by decide +kernel⟩
theorem sc_Pile_lay:FnScope ["self","first","found","beyond"] ["self"] (ZAC ZBj):=⟨rfl,rfl,rfl,by decide +kernel,rfl,by decide +kernel,by decide +kernel⟩
theorem sc_Pile_step:FnScope ["self"] ["self"] (ZAC ZBR):=⟨rfl,rfl,rfl,by decide +kernel,rfl,by decide +kernel,by decide +kernel⟩
theorem sc_Pile_standing:FnScope ["self","grades"] ["self"] (ZAC ZAw):=⟨rfl,rfl,rfl,by decide +kernel,rfl,by decide +kernel,by decide +kernel⟩
theorem sc_Pile_paper:FnScope ["self","told","order"] ["self"] (ZAC ZBE):=⟨rfl,rfl,rfl,by decide +kernel,rfl,by decide +kernel,by decide +kernel⟩
theorem sc_Asker_init:FnScope ["self","row","rule","most"] ["self","row","rule","most"] (ZAC ZBH):=⟨rfl,rfl,rfl,by decide +kernel,rfl,by decide +kernel,by decide +kernel⟩
theorem sc_Asker_many:FnScope ["self"] ["self"] (ZAC ZBG):=⟨rfl,rfl,rfl,by decide +kernel,rfl,by decide +kernel,by decide +kernel⟩
theorem sc_Asker_ahead:FnScope ["self","p","q","later","earlier","said"] ["self","p","q"] (ZAC ZBA):=⟨rfl,rfl,rfl,by decide +kernel,rfl,by decide +kernel,by decide +kernel⟩
theorem sc_Asker_answers:FnScope ["self"] ["self"] (ZAC ZAz):=⟨rfl,rfl,rfl,by decide +kernel,rfl,by decide +kernel,by decide +kernel⟩
theorem sc_straight:FnScope ["many"] ["many"] (ZAC ZBg):=⟨rfl,rfl,rfl,by decide +kernel,rfl,by decide +kernel,by decide +kernel⟩
theorem sc_is_number:FnScope ["some"] ["some"] (ZAC ZBQ):=⟨rfl,rfl,rfl,by decide +kernel,rfl,by decide +kernel,by decide +kernel⟩
theorem sc_is_paper:FnScope ["some"] ["some"] (ZAC ZBi):=⟨rfl,rfl,rfl,by decide +kernel,rfl,by decide +kernel,by decide +kernel⟩
theorem sc_check_paper:FnScope ["some","many"] ["some","many"] (ZAC ZA9):=⟨rfl,rfl,rfl,by decide +kernel,rfl,by decide +kernel,by decide +kernel⟩
theorem sc_back:FnScope ["paper","spots","spot","place"] ["paper"] (ZAC ZDo):=⟨rfl,rfl,rfl,by decide +kernel,rfl,by decide +kernel,by decide +kernel⟩
theorem sc_agrees:FnScope ["paper","answers","spots"] ["paper","answers"] (ZAC ZCa):=⟨rfl,rfl,rfl,by decide +kernel,rfl,by decide +kernel,by decide +kernel⟩
theorem sc_shows:FnScope ["paper","answers","asked"] ["paper","answers"] (ZAC ZC7):=⟨rfl,rfl,rfl,by decide +kernel,rfl,by decide +kernel,by decide +kernel⟩
theorem sc_AskedRule_init:FnScope ["self","teller"] ["self","teller"] (ZAC ZAu):=⟨rfl,rfl,rfl,by decide +kernel,rfl,by decide +kernel,by decide +kernel⟩
theorem sc_AskedRule_before:FnScope ["self","x","y","teller"] ["self","x","y"] (ZAC ZAm):=⟨rfl,rfl,rfl,by decide +kernel,rfl,by decide +kernel,by decide +kernel⟩
theorem sc_cell_at:FnScope ["_law_script","_law_k"] ["_law_script","_law_k"] (ZAC ZB6):=⟨rfl,rfl,rfl,by decide +kernel,rfl,by decide +kernel,by decide +kernel⟩
theorem sc_blocks:FnScope ["_law_keys","_law_one","_law_two","_law_row","_law_k","_law_block"] ["_law_keys","_law_one","_law_two"] (ZAC ZCZ):=⟨rfl,rfl,rfl,by decide +kernel,rfl,by decide +kernel,by decide +kernel⟩
theorem sc_keys_by:FnScope ["_law_script","_law_many","_law_most","_law_number","_law_keys","_law_k"] ["_law_script","_law_many","_law_most"] (ZAC ZB4):=⟨rfl,rfl,rfl,by decide +kernel,rfl,by decide +kernel,by decide +kernel⟩
theorem sc_row_by:FnScope ["_law_script","_law_many","_law_keys","_law_way","_law_one","_law_two"] ["_law_script"] (ZAC ZCW):=⟨rfl,rfl,rfl,by decide +kernel,rfl,by decide +kernel,by decide +kernel⟩
theorem sc_teller:FnScope ["_law_written","_law_ask"] ["_law_written"] (ZAC ZCA):=⟨rfl,rfl,rfl,by decide +kernel,rfl,by decide +kernel,by decide +kernel⟩
theorem sc_part_by:FnScope ["_law_cell","_law_many","_law_low"] ["_law_cell","_law_many"] (ZAC ZB3):=⟨rfl,rfl,rfl,by decide +kernel,rfl,by decide +kernel,by decide +kernel⟩
theorem sc_pile:FnScope ["_law_asker","_law_least","_law_bounds"] ["_law_asker","_law_least","_law_bounds"] (ZAC ZDl):=⟨rfl,rfl,rfl,by decide +kernel,rfl,by decide +kernel,by decide +kernel⟩
theorem sc_least_by:FnScope ["_law_cell"] ["_law_cell"] (ZAC ZBh):=⟨rfl,rfl,rfl,by decide +kernel,rfl,by decide +kernel,by decide +kernel⟩
theorem sc_good:FnScope ["_law_found","_law_stands","_law_row","_law_low","_law_end","_law_at","_law_span","_law_k"] ["_law_found","_law_stands","_law_row","_law_low","_law_end"] (ZAC ZDn):=⟨rfl,rfl,rfl,by decide +kernel,rfl,by decide +kernel,by decide +kernel⟩
theorem sc_asked:FnScope ["_law_paper","_law_written","_law_asked_here","_law_pair","_law_k"] ["_law_paper","_law_written"] (ZAC ZC9):=⟨rfl,rfl,rfl,by decide +kernel,rfl,by decide +kernel,by decide +kernel⟩
theorem sc_law:FnScope ["_law_script","_law_row","_law_bounds","_law_written","_law_handed","_law_asker","_law_pile_here","_law_low","_law_end","_law_step","_law_found","_law_stands","_law_paper"] ["_law_script"] (ZAC ZEA):=⟨rfl,rfl,rfl,by decide +kernel,rfl,by decide +kernel,by decide +kernel⟩
abbrev ZAO:Stmt:=inBody ZCA 0
theorem csc_teller:CloScope ["_law_one","_law_other","_law_written"] ["_law_one","_law_other"] ["_law_written"] (ZAC ZAO):=⟨rfl,rfl,rfl,by decide +kernel,rfl,rfl,by decide,by decide +kernel,by decide +kernel,by decide +kernel,fun x h=>(show ∀ y∈(ZAC ZAO).names,y.2=.free->y.1∈(["_law_written"]:List Str) by decide +kernel) _ (PySem.mem_of_lookup h) rfl⟩
structure Bt (K:W.Frag) (mg:Str->Option Value) (C_Join C_Pile C_Asker C_AskedRule:Addr):Prop where
 b_len:mg "len"=none
 b_range:mg "range"=none
 b_list:mg "list"=none
 b_isinstance:mg "isinstance"=none
 b_bool:mg "bool"=none
 b_int:mg "int"=none
 b_max:mg "max"=none
 b_min:mg "min"=none
 b_abs:mg "abs"=none
 b_all:mg "all"=none
 b_sorted:mg "sorted"=none
 b_enumerate:mg "enumerate"=none
 b_zip:mg "zip"=none
 b_dict:mg "dict"=none
 b_ValueError:mg "ValueError"=none
 c_LEFT:∃ t,mg "LEFT"=some (.int 0 t)
 c_RIGHT:∃ t,mg "RIGHT"=some (.int 1 t)
 c_WINS_TO_LEAP:∃ t,mg "WINS_TO_LEAP"=some (.int 4 t)
 m_Join:mg "Join"=some (.ref C_Join)
 cl_Join:Cls K C_Join
 n_Join_asker:NoAttr K C_Join "asker"
 n_Join_sides:NoAttr K C_Join "sides"
 n_Join_taken:NoAttr K C_Join "taken"
 n_Join_places:NoAttr K C_Join "places"
 m_Pile:mg "Pile"=some (.ref C_Pile)
 cl_Pile:Cls K C_Pile
 n_Pile_asker:NoAttr K C_Pile "asker"
 n_Pile_least:NoAttr K C_Pile "least"
 n_Pile_start:NoAttr K C_Pile "start"
 n_Pile_end:NoAttr K C_Pile "end"
 n_Pile_reached:NoAttr K C_Pile "reached"
 n_Pile_firsts:NoAttr K C_Pile "firsts"
 n_Pile_orders:NoAttr K C_Pile "orders"
 n_Pile_grades:NoAttr K C_Pile "grades"
 m_Asker:mg "Asker"=some (.ref C_Asker)
 cl_Asker:Cls K C_Asker
 n_Asker_row:NoAttr K C_Asker "row"
 n_Asker_rule:NoAttr K C_Asker "rule"
 n_Asker_most:NoAttr K C_Asker "most"
 n_Asker_asked:NoAttr K C_Asker "asked"
 n_Asker_told:NoAttr K C_Asker "told"
 m_AskedRule:mg "AskedRule"=some (.ref C_AskedRule)
 cl_AskedRule:Cls K C_AskedRule
 n_AskedRule_teller:NoAttr K C_AskedRule "teller"
 kit_int_bool:PySem.W.kitOne K (.type "int") (.type "bool")=some false
def cellOf (ns:List Int) (k:Int):Int:=if k < (ns.length:Int) then (ns[k.toNat]?).getD 0 else 0
def ZEU (K:W.Frag):Sp:=fun vs H Q _=>∃ (a:Addr) (ns:List Int) (k:Int),vs=[.ref a,.int k] /\ SqL K H a (ns.map V.int) /\ 0 <= k /\ Q (.int (cellOf ns k)) H
def ZEk:Sp:=fun vs H Q _=>∃ m a b c:Int,vs=[.int m,.int a,.int b,.int c] /\ 1 < m /\ m < 2 ^ 240 /\ 0 <= a /\ a < b /\ b < c /\ c <= m /\ ∀ g:Nat,Gr.IsG m (a+b) (b+c) g->g <= 240->Q (.int g) H
theorem pow240 {p:Nat} {m:Int} (hm:m < 2 ^ 240) (hp:240 <= p):m <= 2 ^ p:=by
 obtain ⟨d,rfl⟩:∃ d,p=240+d:=⟨p-240,by omega⟩
 have h1:(1:Int) <= 2 ^ d:=Gr.p2pos d
 rw [Int.pow_add]
 have h2:(2:Int) ^ 240 * 1 <= 2 ^ 240 * 2 ^ d:=Int.mul_le_mul_of_nonneg_left h1 (by decide)
 omega
theorem dbl (x:Int) (p:Nat):2 * (x * 2 ^ p)=x * 2 ^ (p+1):=by rw [Int.pow_succ,Int.mul_comm 2,Int.mul_assoc]
theorem ZEw {n:Nat} (h:n <= 90000):n < sizeLine:=Nat.lt_of_le_of_lt h (by decide)
abbrev fA (rl ru:Addr) (m:V) (n:Int) (tl:Addr):List (Str×V):=[("told",.ref tl),("asked",.int n),("most",m),("rule",.ref ru),("row",.ref rl)]
abbrev fR (g:Addr):List (Str×V):=[("teller",.ref g)]
def ZCi (CA:Addr):Sp:=fun vs H Q _=>∃ (x dx r:Addr) (ru:Addr) (m:V) (xs:List V),vs=[.ref x,.ref r,.ref ru,m] /\ H x=some (.ins CA dx []) /\ H r=some (.lst xs) /\
 ∀ rl tl H',(∀ b o,b≠x->H b=some o->H' b=some o)->H rl=none->H tl=none->rl≠tl->Ins H' x CA (fA rl ru m 0 tl)->H' rl=some (.lst xs)->H' tl=some (.lst [])->Q .non H'
def ZET (CA:Addr):Sp:=fun vs H Q _=>∃ (a rl ru tl:Addr) (m:V) (n:Int) (xs:List V),vs=[.ref a] /\ Ins H a CA (fA rl ru m n tl) /\ H rl=some (.lst xs) /\ Q (.int xs.length) H
def ZDY (CA:Addr):Sp:=fun vs H Q _=>∃ (a rl ru tl:Addr) (m:V) (n:Int) (ts:List V),vs=[.ref a] /\ Ins H a CA (fA rl ru m n tl) /\ H tl=some (.lst ts) /\ ∀ l H',Same H H'->H l=none->H' l=some (.lst ts)->Q (.ref l) H'
def ZC5 (CR:Addr):Sp:=fun vs H Q _=>∃ (x dx g:Addr),vs=[.ref x,.ref g] /\ H x=some (.ins CR dx []) /\ ∀ H',(∀ b o,b≠x->H b=some o->H' b=some o)->Ins H' x CR (fR g)->Q .non H'
def ZDL (CR:Addr) (r:V->List V->Hp->VK->Prop):Sp:=fun vs H Q _=>∃ (ru g:Addr) (x y:V),vs=[.ref ru,x,y] /\ Ins H ru CR (fR g) /\ (∃ o,H g=some (FZ o) /\ ∃ fd,o.data=.func fd) /\ r (.ref g) [x,y] H Q
def ZCj (CA CR:Addr) (r:V->List V->Hp->VK->Prop):Sp:=fun vs H Q _=>∃ (a rl ru tl:Addr) (n p q:Int) (xs ts:List V) (x y:V),vs=[.ref a,.int p,.int q] /\ Ins H a CA (fA rl ru .non n tl) /\ H rl=some (.lst xs) /\ p≠q /\ 0 <= p /\ 0 <= q /\
 xs[(max p q).toNat]?=some x /\ xs[(min p q).toNat]?=some y /\ ZDL CR r [.ref ru,x,y] H (fun v H1=>∃ b,v=.bl b /\ Ins H1 a CA (fA rl ru .non n tl) /\ H1 tl=some (.lst ts) /\ ts.length <= 90000 /\
  ∀ t H2,H1 t=none->Ins H2 a CA (fA rl ru .non (n+1) tl)->H2 tl=some (.lst (ts++[.ref t]))->H2 t=some (.tup [.int (max p q),.int (min p q),.bl b])->(∀ c,c≠a->c≠tl->c≠t->H2 c=H1 c)->Q (.bl (if q < p then b else !b)) H2) E0
theorem fA_canon {rl ru tl:Addr} {m:V} {n:Int}:∀ f,(putF "told" (.ref tl) (putF "asked" (.int n) (putF "most" m (putF "rule" (.ref ru) (putF "row" (.ref rl) []))))).lookup f=(fA rl ru m n tl).lookup f:=fun f=>by
 simp only [ZAj,lkc]
theorem fA_asked {rl ru tl:Addr} {m:V} {n k:Int}:∀ f,(putF "asked" (.int k) (fA rl ru m n tl)).lookup f=(fA rl ru m k tl).lookup f:=fun f=>by
 rw [ZAj]
 by_cases h:f=("asked":Str)
 .subst h
  rw [if_pos rfl]
  exact (show List.lookup _ (fA rl ru m k tl)=some (.int k) by walk_at "lk").symm
 .simp only [lkc,h,if_false]
def kat (ks:List Int) (p:Nat):Int:=(ks[p]?).getD 0
structure Told (H:Hp) (ks:List Int) (pr:List (Nat×Nat)) (ts:List V):Prop where
 len:ts.length=pr.length
 get:∀ (j p q:Nat),pr[j]?=some (p,q)->∃ t,ts[j]?=some (V.ref t) /\ H t=some (.tup [.int p,.int q,.bl (decide (kat ks p < kat ks q))])
theorem Told.keep {H H':Hp} {ks:List Int} {pr:List (Nat×Nat)} {ts:List V} (e:∀ t x,H t=some (.tup x)->H' t=some (.tup x)) (h:Told H ks pr ts):Told H' ks pr ts :=
 ⟨h.len,fun j p q hj=>let ⟨t,a,b⟩:=h.get j p q hj;⟨t,a,e _ _ b⟩⟩
theorem Told.snoc {H:Hp} {ks:List Int} {pr:List (Nat×Nat)} {ts:List V} {p q:Nat} {t:Addr} (h:Told H ks pr ts) (ht:H t=some (.tup [.int p,.int q,.bl (decide (kat ks p < kat ks q))])):Told H ks (pr++[(p,q)]) (ts++[.ref t]):=by
 refine ⟨by rw [yAD,yAD,h.len];rfl,fun j p' q' hj=>?_⟩
 by_cases hl:j < pr.length
 .rw [yAZ hl] at hj
  obtain ⟨t',a,b⟩:=h.get j p' q' hj
  exact ⟨t',by rw [yAZ (by rw [h.len];exact hl)];exact a,b⟩
 .have e:=(yAH.mp hj).1
  rw [yAD] at e
  have hj':j=pr.length:=by have:([(p,q)]:List (Nat×Nat)).length=1:=rfl;omega
  subst hj'
  rw [yAY (yAA _),yBF] at hj
  cases hj
  exact ⟨t,by rw [<- h.len,yAY (yAA _),yBF];rfl,ht⟩
theorem ZDr {H H':Hp} {S:List Addr} {a C:Addr} {fl:List (Str×V)} (e:Fr S H H') (n:a∉S) (h:Ins H a C fl):Ins H' a C fl:=let ⟨dx,fs,h1,h2,h3⟩:=h.ex;⟨dx,fs,e _ _ n h1,h2,h3⟩
def rTL (iname iq:Str) (ip:Arguments) (ib:List Stmt) (isc:Scope):V->List V->Hp->VK->Prop:=fun f vs H Q=>∃ (g x y lg:Addr) (k k' i j:Int) (ws:List V),f=.ref g /\ vs=[.ref x,.ref y] /\ Clo H g iname iq ip ib isc ["_law_written"] [.ref lg] /\ H x=some (.tup [.int k,.int i]) /\ H y=some (.tup [.int k',.int j]) /\ H lg=some (.lst ws) /\ ws.length <= 90000 /\
 ∀ t,H t=none->Q (.bl (decide (k < k'))) (upd (upd H t (.tup [.int i,.int j])) lg (.lst (ws++[.ref t])))
theorem rT_mono {iname iq:Str} {ip:Arguments} {ib:List Stmt} {isc:Scope} {f:V} {vs:List V} {H:Hp} {Q Q':VK} (m:∀ v H,Q v H->Q' v H) (h:rTL iname iq ip ib isc f vs H Q):rTL iname iq ip ib isc f vs H Q' :=
 by obtain ⟨g,x,y,lg,k,k',i,j,ws,e1,e2,h1,h2,h3,h4,h5,q⟩:=h;exact ⟨g,x,y,lg,k,k',i,j,ws,e1,e2,h1,h2,h3,h4,h5,fun t ht=>m _ _ (q t ht)⟩
abbrev ZBU:V->List V->Hp->VK->Prop:=rTL "_law_ask" "_law_teller.<locals>._law_ask" (ZAN ZAO) (ZAJ ZAO) (ZAC ZAO)
structure RowC where
 v:List V
 c:Nat
structure Prs (H:Hp) (qr:List (Nat×Nat)) (ws:List V):Prop where
 len:ws.length=qr.length
 get:∀ (j p q:Nat),qr[j]?=some (p,q)->∃ t,ws[j]?=some (V.ref t) /\ H t=some (.tup [.int p,.int q])
theorem Prs.keep {H H':Hp} {pr:List (Nat×Nat)} {ts:List V} (e:∀ t x,H t=some (.tup x)->H' t=some (.tup x)) (h:Prs H pr ts):Prs H' pr ts :=
 ⟨h.len,fun j p q hj=>let ⟨t,a,b⟩:=h.get j p q hj;⟨t,a,e _ _ b⟩⟩
theorem Prs.snoc {H:Hp} {pr:List (Nat×Nat)} {ts:List V} {p q:Nat} {t:Addr} (h:Prs H pr ts) (ht:H t=some (.tup [.int p,.int q])):Prs H (pr++[(p,q)]) (ts++[.ref t]):=by
 refine ⟨by rw [yAD,yAD,h.len];rfl,fun j p' q' hj=>?_⟩
 by_cases hl:j < pr.length
 .rw [yAZ hl] at hj
  obtain ⟨t',a,b⟩:=h.get j p' q' hj
  exact ⟨t',by rw [yAZ (by rw [h.len];exact hl)];exact a,b⟩
 .have e:=(yAH.mp hj).1
  rw [yAD] at e
  have hj':j=pr.length:=by have:([(p,q)]:List (Nat×Nat)).length=1:=rfl;omega
  subst hj'
  rw [yAY (yAA _),yBF] at hj
  cases hj
  exact ⟨t,by rw [<- h.len,yAY (yAA _),yBF];rfl,ht⟩
structure Lgd (H:Hp) (c:Nat) (pr:List (Nat×Nat)) (ws:List V):Prop where
 hc:c <= pr.length
 prs:Prs H (pr.drop c) ws
theorem Lgd.keep {H H':Hp} {c:Nat} {pr:List (Nat×Nat)} {ts:List V} (e:∀ t x,H t=some (.tup x)->H' t=some (.tup x)) (h:Lgd H c pr ts):Lgd H' c pr ts:=⟨h.hc,h.prs.keep e⟩
theorem Lgd.snoc {H:Hp} {c:Nat} {pr:List (Nat×Nat)} {ts:List V} {p q:Nat} {t:Addr} (h:Lgd H c pr ts) (ht:H t=some (.tup [.int p,.int q])):Lgd H c (pr++[(p,q)]) (ts++[.ref t]) :=
 ⟨by rw [yAD];have:=h.hc;omega,by rw [List.drop_append_of_le_length h.hc];exact h.prs.snoc ht⟩
theorem Lgd.len {H:Hp} {c:Nat} {pr:List (Nat×Nat)} {ts:List V} (h:Lgd H c pr ts):ts.length <= pr.length:=by rw [h.prs.len,yAU];omega
structure SitL (CA CR:Addr) (H:Hp) (ks:List Int) (xs:RowC) (a rl ru tl g lg:Addr) (pr:List (Nat×Nat)):Prop where
 ha:Ins H a CA (fA rl ru .non pr.length tl)
 hrl:H rl=some (.lst xs.v)
 hru:Ins H ru CR (fR g)
 clo:Clo H g "_law_ask" "_law_teller.<locals>._law_ask" (ZAN ZAO) (ZAJ ZAO) (ZAC ZAO) ["_law_written"] [.ref lg]
 len:xs.v.length=ks.length
 row:∀ (i:Nat) k,ks[i]?=some k->∃ r,xs.v[i]?=some (V.ref r) /\ H r=some (.tup [.int k,.int i])
 hlg:∃ ws,H lg=some (.lst ws) /\ Lgd H xs.c pr ws
 htl:∃ ts,H tl=some (.lst ts) /\ Told H ks pr ts
 ne:lg≠tl /\ rl∉[a,lg,tl] /\ ru≠a
section
variable {CA CR:Addr} {H H':Hp} {ks:List Int} {xs:RowC} {a rl ru tl g lg:Addr} {pr:List (Nat×Nat)}
theorem SitL.tupS (h:SitL CA CR H ks xs a rl ru tl g lg pr) {b:Addr} {o:HO} (hb:H b=some o) (n1:∀ x,o≠.lst x) (n2:∀ C d f,o≠.ins C d f):b∉[a,lg,tl]:=by
 obtain ⟨ws,hlg,_⟩:=h.hlg
 obtain ⟨ts,htl,_⟩:=h.htl
 intro z
 rcases yAE.mp z with z | z
 .exact h.ha.ne hb n2 z
 rcases yAE.mp z with z | z
 .rw [z,hlg] at hb;exact n1 _ (Option.some.inj hb).symm
 .rw [yAM.mp z,htl] at hb;exact n1 _ (Option.some.inj hb).symm
theorem SitL.ruS (h:SitL CA CR H ks xs a rl ru tl g lg pr):ru∉[a,lg,tl]:=by
 obtain ⟨ws,hlg,_⟩:=h.hlg
 obtain ⟨ts,htl,_⟩:=h.htl
 obtain ⟨d1,f1,e1,_⟩:=h.hru.ex
 intro z
 rcases yAE.mp z with z | z
 .exact h.ne.2.2 z
 rcases yAE.mp z with z | z
 .rw [z,hlg] at e1;cases e1
 .rw [yAM.mp z,htl] at e1;cases e1
theorem SitL.keep (h:SitL CA CR H ks xs a rl ru tl g lg pr) (e:Fr [a,lg,tl] H H') {pr':List (Nat×Nat)} {ts' ws':List V} (h1:Ins H' a CA (fA rl ru .non pr'.length tl)) (h2:H' tl=some (.lst ts')) (h3:Told H' ks pr' ts') (h4:H' lg=some (.lst ws')) (h5:Lgd H' xs.c pr' ws'):SitL CA CR H' ks xs a rl ru tl g lg pr' where
 ha:=h1
 hrl:=e _ _ h.ne.2.1 h.hrl
 hru:=ZDr e h.ruS h.hru
 clo:=h.clo.mono fun b o hb=>e _ _ (h.tupS hb (fun _ z=>by cases z) (fun _ _ _ z=>by cases z)) hb
 len:=h.len
 row:=fun i k hk=>let ⟨r,a1,a2⟩:=h.row i k hk;⟨r,a1,e _ _ (h.tupS a2 (fun _ z=>by cases z) (fun _ _ _ z=>by cases z)) a2⟩
 hlg:=⟨_,h4,h5⟩
 htl:=⟨_,h2,h3⟩
 ne:=h.ne
theorem SitL.mono (h:SitL CA CR H ks xs a rl ru tl g lg pr) (e:Same H H'):SitL CA CR H' ks xs a rl ru tl g lg pr :=
 let ⟨_,h2,h3⟩:=h.htl;let ⟨_,h4,h5⟩:=h.hlg;h.keep e.fr (h.ha.mono e) (e _ _ h2) (h3.keep fun _ _ z=>e _ _ z) (e _ _ h4) (h5.keep fun _ _ z=>e _ _ z)
theorem SitL.ahead (h:SitL CA CR H ks xs a rl ru tl g lg pr) {p q:Nat} (hpq:p≠q) (hp:p < ks.length) (hq:q < ks.length) (hpr:pr.length <= 80000) {Q:VK}
  (fin:∀ H',Fr [a,lg,tl] H H'->SitL CA CR H' ks xs a rl ru tl g lg (pr++[(max p q,min p q)])->Q (.bl (if q < p then decide (kat ks p < kat ks q) else !decide (kat ks q < kat ks p))) H'):ZCj CA CR ZBU [.ref a,.int p,.int q] H Q E0:=by
 obtain ⟨ws,hlg,hws⟩:=h.hlg
 obtain ⟨ts,htl,hts⟩:=h.htl
 have hmx:max p q < ks.length:=by omega
 have hmn:min p q < ks.length:=by omega
 obtain ⟨x,hx,tx⟩:=h.row (max p q) _ (yAJ hmx)
 obtain ⟨y,hy,ty⟩:=h.row (min p q) _ (yAJ hmn)
 have emx:(max (p:Int) q).toNat=max p q:=by omega
 have emn:(min (p:Int) q).toNat=min p q:=by omega
 have kx:ks[max p q]=kat ks (max p q):=by unfold kat;rw [yAJ hmx];rfl
 have ky':ks[min p q]=kat ks (min p q):=by unfold kat;rw [yAJ hmn];rfl
 refine ⟨a,rl,ru,tl,pr.length,p,q,xs.v,ts,.ref x,.ref y,rfl,h.ha,h.hrl,by omega,by omega,by omega,by rw [emx];exact hx,by rw [emn];exact hy,?_⟩
 obtain ⟨cl,C⟩:=h.clo
 obtain ⟨d1,d2,d3,d4,ho,_⟩:=C.obj
 refine ⟨ru,g,.ref x,.ref y,rfl,h.hru,⟨_,ho,_,rfl⟩,?_⟩
 rw [kx] at tx
 rw [ky'] at ty
 refine ⟨g,x,y,lg,_,_,_,_,ws,rfl,rfl,h.clo,tx,ty,hlg,by have:=hws.len;omega,fun t ht=>?_⟩
 have nta:t≠a:=h.ha.neN ht
 have ntg:lg≠t:=ZAE hlg ht
 have ntl:tl≠t:=ZAE htl ht
 have nlg:lg≠tl:=h.ne.1
 have nga:lg≠a:=h.ha.ne hlg fun _ _ _ z=>by cases z
 refine ⟨_,rfl,h.ha.keep (by rw [ZAI (Ne.symm nga),ZAI (Ne.symm nta)]),by rw [ZAI (Ne.symm nlg),ZAI ntl];exact htl,by rw [hts.len];omega,fun t2 H2 hn2 ha2 htl2 ht2 k2=>?_⟩
 have n2l:t2≠lg:=fun z=>by rw [z,ZAF] at hn2;cases hn2
 have n2t:t2≠t:=fun z=>by rw [z,ZAI (Ne.symm ntg),ZAF] at hn2;cases hn2
 have fr:Fr [a,lg,tl] H H2:=fun b o n hb=>by
  have m1:b≠a:=fun z=>n (by rw [z];exact yAF)
  have m2:b≠lg:=fun z=>n (by rw [z];exact yAC _ yAF)
  have m3:b≠tl:=fun z=>n (by rw [z];exact yAC _ (yAC _ yAF))
  have e1:(upd (upd H t (.tup [.int ((max p q:Nat):Int),.int ((min p q:Nat):Int)])) lg (.lst (ws++[.ref t]))) b=some o:=by rw [ZAI m2,ZAI (ZAE hb ht)];exact hb
  rw [k2 b m1 m3 (ZAE e1 hn2)]
  exact e1
 have tk:∀ b x,H b=some (.tup x)->H2 b=some (.tup x):=fun b x hb=>fr _ _ (h.tupS hb (fun _ z=>by cases z) (fun _ _ _ z=>by cases z)) hb
 have hlg2:H2 lg=some (.lst (ws++[.ref t])):=by rw [k2 lg nga nlg (Ne.symm n2l),ZAF]
 have ht':H2 t=some (.tup [.int ((max p q:Nat):Int),.int ((min p q:Nat):Int)]):=by rw [k2 t nta (Ne.symm ntl) (Ne.symm n2t),ZAI (Ne.symm ntg),ZAF]
 have ht2':H2 t2=some (.tup [.int ((max p q:Nat):Int),.int ((min p q:Nat):Int),.bl (decide (kat ks (max p q) < kat ks (min p q)))]):=by
  rw [show (((max p q:Nat):Int))=max (p:Int) q by omega,show (((min p q:Nat):Int))=min (p:Int) q by omega]
  exact ht2
 have st:=h.keep fr (pr':=pr++[(max p q,min p q)]) (by rw [yAD];exact ha2) htl2 ((hts.keep tk).snoc ht2') hlg2 ((hws.keep tk).snoc ht')
 have g':=fin H2 fr st
 by_cases hlt:q < p
 .rw [if_pos hlt] at g'
  rw [if_pos (by omega),show max p q=p by omega,show min p q=q by omega]
  exact g'
 .rw [if_neg hlt] at g'
  rw [if_neg (by omega),show max p q=q by omega,show min p q=p by omega]
  exact g'
theorem SitL.newS (h:SitL CA CR H ks xs a rl ru tl g lg pr) {b:Addr} (hb:H b=none):b∉[a,lg,tl]:=fun z=>by
 obtain ⟨ws,h1,_⟩:=h.hlg
 obtain ⟨us,h2,_⟩:=h.htl
 rcases yAE.mp z with z | z
 .exact h.ha.neN hb z
 rcases yAE.mp z with z | z
 .rw [z,h1] at hb;cases hb
 .rw [yAM.mp z,h2] at hb;cases hb
end
def dec (ks:List Int) (i:Nat):Bool:=decide (kat ks i < kat ks (i-1))
def Beyond (ks:List Int) (first stop j:Nat) (f:Bool):Prop :=
 (first+1=stop /\ j=stop /\ f=false)∨(first+1 < stop /\ f=dec ks (first+1) /\ first+1 < j /\ j <= stop /\ (∀ i,first+1 <= i->i < j->dec ks i=f) /\ (j < stop->dec ks j≠f))
def asks (first e:Nat):List (Nat×Nat):=(List.range' (first+1) (e-(first+1))).map fun k=>(k,k-1)
theorem ZEQ (first e:Nat):(asks first e).length=e-(first+1):=by unfold asks;rw [yAB,yCD]
theorem asks_snoc {first k:Nat} (h:first+1 <= k):asks first (k+1)=asks first k++[(k,k-1)]:=by
 unfold asks
 rw [show k+1-(first+1)=(k-(first+1))+1 by omega,List.range'_concat,yAR]
 congr 1
 show [(first+1+1 * (k-(first+1)),first+1+1 * (k-(first+1))-1)]=_
 rw [show first+1+1 * (k-(first+1))=k by omega]
theorem asks_none {first e:Nat} (h:e <= first+1):asks first e=[]:=by unfold asks;rw [show e-(first+1)=0 by omega];rfl
def ZC3 (CA CR:Addr):Sp:=fun vs H Q _=>∃ (ks:List Int) (xs:RowC) (a rl ru tl g lg:Addr) (pr:List (Nat×Nat)) (first stop:Nat) (e:V),vs=[.ref a,.int first,e] /\ SitL CA CR H ks xs a rl ru tl g lg pr /\ ((e=.non /\ stop=ks.length)∨e=.int stop) /\ first < stop /\ stop <= ks.length /\ ks.length <= 119 /\ pr.length <= 50000 /\
 ∀ H' t j f,Fr [a,lg,tl] H H'->H' t=some (.tup [.int (j:Nat),.bl f])->Beyond ks first stop j f->SitL CA CR H' ks xs a rl ru tl g lg (pr++asks first (min (j+1) stop))->Q (.ref t) H'
def ZCN (first j:Nat) (f:Bool):List Nat:=if f=true then (List.range' first (j-first)).reverse else List.range' first (j-first)
theorem ZDT (first j:Nat) (f:Bool):(ZCN first j f).length=j-first:=by unfold ZCN;split <;> simp
theorem turnN_mem {first j:Nat} {f:Bool} {x:Nat}:x∈ZCN first j f↔first <= x /\ x < j:=by
 unfold ZCN
 split
 .rw [List.mem_reverse,yCR];omega
 .rw [yCR];omega
theorem turnN_up {first j i:Nat} (h:i < j-first):(ZCN first j false)[i]?=some (first+i):=by
 unfold ZCN
 rw [if_neg (by decide),List.getElem?_range' h,Nat.one_mul]
theorem turnN_down {first j i:Nat} (h:i < j-first):(ZCN first j true)[i]?=some (j-1-i):=by
 unfold ZCN
 rw [if_pos rfl,List.getElem?_reverse (by rw [yCD];exact h),yCD,List.getElem?_range' (by omega),Nat.one_mul]
 congr 1
 omega
abbrev nL (l:List Nat):List V:=l.map fun (x:Nat)=>V.int (x:Int)
theorem ZDc (l:List Nat):nL l=(l.map fun (x:Nat)=>(x:Int)).map V.int:=by rw [List.map_map];rfl
theorem ZCu {lo hi:Nat}:(ZDI (lo:Int) (hi:Int)).map V.int=nL (List.range' lo (hi-lo)):=by
 refine yCO fun i=>?_
 unfold nL
 rw [yAW,yAW]
 by_cases h:i < hi-lo
 .rw [List.getElem?_range' h,rints_get (by omega)]
  show some (V.int ((lo:Int)+i))=some (V.int ((lo+1 * i:Nat):Int))
  congr 2
  omega
 .rw [yBI (by rw [ZCQ];omega),yBI (by rw [yCD];omega)]
  rfl
def ZD4:Sp:=fun vs H Q _=>∃ (first j:Nat) (f:Bool),vs=[.int first,.int j,.bl f] /\ first <= 1000 /\ j <= 1000 /\ ∀ l H',Same H H'->H l=none->H' l=some (.lst (nL (ZCN first j f)))->Q (.ref l) H'
def lx (ks:List Int) (x y:Nat):Prop:=kat ks x < kat ks y∨(kat ks x=kat ks y /\ x < y)
inductive Halv (ks:List Int) (os:List Nat) (pl:Nat):Nat->Nat->Nat->List (Nat×Nat)->Prop
 | done {low high:Nat}:¬ low < high->Halv ks os pl low high low []
 | less {low high r o:Nat} {l:List (Nat×Nat)}:low < high->os[(low+high) / 2]?=some o->kat ks pl < kat ks o->Halv ks os pl low ((low+high) / 2) r l->Halv ks os pl low high r ((pl,o)::l)
 | more {low high r o:Nat} {l:List (Nat×Nat)}:low < high->os[(low+high) / 2]?=some o->¬ kat ks pl < kat ks o->Halv ks os pl ((low+high) / 2+1) high r l->Halv ks os pl low high r ((pl,o)::l)
theorem Halv.bounds {ks:List Int} {os:List Nat} {pl low high r:Nat} {l:List (Nat×Nat)} (h:Halv ks os pl low high r l):low <= high->low <= r /\ r <= high:=by
 induction h with
 | done n=>intro h;omega
 | less a _ _ _ ih=>intro _;have:=ih (by omega);omega
 | more a _ _ _ ih=>intro _;have:=ih (by omega);omega
theorem Halv.len {ks:List Int} {os:List Nat} {pl low high r:Nat} {l:List (Nat×Nat)} (h:Halv ks os pl low high r l):l.length <= high-low:=by
 induction h with
 | done n=>simp
 | less a _ _ _ ih=>rw [yAG];omega
 | more a _ _ _ ih=>rw [yAG];omega
theorem Halv.asked {ks:List Int} {os:List Nat} {pl low high r:Nat} {l:List (Nat×Nat)} (h:Halv ks os pl low high r l):low <= high ->
  (∀ x,low < r->os[r-1]?=some x->(pl,x)∈l) /\ (∀ x,r < high->os[r]?=some x->(pl,x)∈l):=by
 induction h with
 | done n=>intro h;exact ⟨fun x z=>by omega,fun x z=>by omega⟩
 | @less low high r o l a b c d ih=>
  intro _
  have hb:=d.bounds (by omega)
  obtain ⟨i1,i2⟩:=ih (by omega)
  refine ⟨fun x z e=>yAC _ (i1 x z e),fun x z e=>?_⟩
  by_cases hr:r < (low+high) / 2
  .exact yAC _ (i2 x hr e)
  .have:r=(low+high) / 2:=by omega
   rw [this,b] at e
   cases e
   exact yAF
 | @more low high r o l a b c d ih=>
  intro _
  have hb:=d.bounds (by omega)
  obtain ⟨i1,i2⟩:=ih (by omega)
  refine ⟨fun x z e=>?_,fun x z e=>yAC _ (i2 x z e)⟩
  by_cases hr:(low+high) / 2+1 < r
  .exact yAC _ (i1 x hr e)
  .have:r-1=(low+high) / 2:=by omega
   rw [this,b] at e
   cases e
   exact yAF
theorem Halv.each {ks:List Int} {os:List Nat} {pl low high r:Nat} {l:List (Nat×Nat)} (h:Halv ks os pl low high r l):∀ c∈l,c.1=pl /\ c.2∈os:=by
 induction h with
 | done n=>intro c h;cases h
 | less a b _ _ ih=>
  intro c h
  rcases yAE.mp h with z | z
  .rw [z];exact ⟨rfl,yAK b⟩
  .exact ih c z
 | more a b _ _ ih=>
  intro c h
  rcases yAE.mp h with z | z
  .rw [z];exact ⟨rfl,yAK b⟩
  .exact ih c z
theorem ZCv {ks:List Int} {x y z:Nat} (a:lx ks x y) (b:lx ks y z):lx ks x z:=by unfold lx at *;omega
theorem ZDZ {ks:List Int} {os:List Nat} (h:os.Pairwise (lx ks)) {i j x y:Nat} (hij:i < j) (hx:os[i]?=some x) (hy:os[j]?=some y):lx ks x y:=by
 obtain ⟨h1,e1⟩:=yAH.mp hx
 obtain ⟨h2,e2⟩:=yAH.mp hy
 have:=List.pairwise_iff_getElem.mp h i j h1 h2 hij
 rw [e1,e2] at this
 exact this
theorem Halv.spot {ks:List Int} {os:List Nat} {pl low high r:Nat} {l:List (Nat×Nat)} (hs:os.Pairwise (lx ks)) (h:Halv ks os pl low high r l):low <= high ->
  (∀ i x,low <= i->i < r->os[i]?=some x->¬ kat ks pl < kat ks x) /\ (∀ i x,r <= i->i < high->os[i]?=some x->kat ks pl < kat ks x):=by
 induction h with
 | done n=>intro h;exact ⟨fun i x z1 z2=>by omega,fun i x z1 z2=>by omega⟩
 | @less low high r o l a b c d ih=>
  intro _
  have hb:=d.bounds (by omega)
  obtain ⟨i1,i2⟩:=ih (by omega)
  refine ⟨i1,fun i x z1 z2 e=>?_⟩
  by_cases hr:i < (low+high) / 2
  .exact i2 i x z1 hr e
  .by_cases hi:i=(low+high) / 2
   .rw [hi,b] at e;cases e;exact c
   .have:=ZDZ hs (show (low+high) / 2 < i by omega) b e
    unfold lx at this
    omega
 | @more low high r o l a b c d ih=>
  intro _
  have hb:=d.bounds (by omega)
  obtain ⟨i1,i2⟩:=ih (by omega)
  refine ⟨fun i x z1 z2 e=>?_,i2⟩
  by_cases hr:(low+high) / 2 < i
  .exact i1 i x hr z2 e
  .by_cases hi:i=(low+high) / 2
   .rw [hi,b] at e;cases e;exact c
   .have:=ZDZ hs (show i < (low+high) / 2 by omega) e b
    unfold lx at this
    omega
def insN (os:List Nat) (r pl:Nat):List Nat:=os.take r++pl::os.drop r
theorem insN_len {os:List Nat} {r pl:Nat}:(insN os r pl).length=os.length+1:=by
 unfold insN
 rw [yAD,yAG,yAN,yAU]
 omega
theorem insN_mem {os:List Nat} {r pl x:Nat}:x∈insN os r pl↔x=pl∨x∈os:=by
 unfold insN
 rw [yAV,yAE]
 have:x∈os↔x∈os.take r∨x∈os.drop r:=by rw [<- yAV,yBM]
 rw [this]
 exact ⟨fun h=>h.elim (fun z=>.inr (.inl z)) (fun z=>z.elim .inl fun z=>.inr (.inr z)),fun h=>h.elim (fun z=>.inr (.inl z)) fun z=>z.elim .inl fun z=>.inr (.inr z)⟩
theorem insN_sorted {ks:List Int} {os:List Nat} {pl r:Nat} {l:List (Nat×Nat)} (hs:os.Pairwise (lx ks)) (hlt:∀ x∈os,x < pl) (h:Halv ks os pl 0 os.length r l):(insN os r pl).Pairwise (lx ks):=by
 obtain ⟨s1,s2⟩:=h.spot hs (yAI _)
 have hb:=h.bounds (yAI _)
 have hsp:(os.take r++os.drop r).Pairwise (lx ks):=by rw [yBM];exact hs
 obtain ⟨p1,p2,p3⟩:=yCG.mp hsp
 have ha:∀ x∈os.take r,lx ks x pl:=fun x hx=>by
  obtain ⟨i,hi⟩:=yBK hx
  have hir:i < r:=by
   have:=(yAH.mp hi).1
   rw [yAN] at this
   omega
  rw [yBS hir] at hi
  have z1:=s1 i x (yAI _) hir hi
  have z2:=hlt x (yAK hi)
  unfold lx
  omega
 have hd:∀ y∈os.drop r,lx ks pl y:=fun y hy=>by
  obtain ⟨i,hi⟩:=yBK hy
  rw [yBJ] at hi
  exact .inl (s2 (r+i) y (by omega) (yAH.mp hi).1 hi)
 unfold insN
 refine yCG.mpr ⟨p1,List.pairwise_cons.mpr ⟨hd,p2⟩,fun x hx y hy=>?_⟩
 rcases yAE.mp hy with z | z
 .rw [z];exact ha x hx
 .exact p3 x hx y z
def Adj (os:List Nat) (pr:List (Nat×Nat)):Prop:=∀ (i x y:Nat),os[i]?=some x->os[i+1]?=some y->(max x y,min x y)∈pr
theorem insN_get {os:List Nat} {r pl i:Nat} (hr:r <= os.length):(insN os r pl)[i]?=if i < r then os[i]? else if i=r then some pl else os[i-1]?:=by
 unfold insN
 by_cases h:i < r
 .rw [if_pos h,yAZ (by rw [yAN];omega),yBS h]
 .rw [if_neg h,yAY (by rw [yAN];omega),yAN,yBN hr]
  by_cases e:i=r
  .rw [if_pos e,e,yBF];rfl
  .rw [if_neg e,show i-r=(i-r-1)+1 by omega,List.getElem?_cons_succ,yBJ]
   congr 1
   omega
theorem insN_adj {ks:List Int} {os:List Nat} {pr:List (Nat×Nat)} {pl r:Nat} {l:List (Nat×Nat)} (hlt:∀ x∈os,x < pl) (h:Halv ks os pl 0 os.length r l) (ha:Adj os pr):Adj (insN os r pl) (pr++l):=by
 have hb:=h.bounds (yAI _)
 obtain ⟨a1,a2⟩:=h.asked (yAI _)
 intro i x y hx hy
 rw [insN_get hb.2] at hx hy
 by_cases h1:i+1 < r
 .rw [if_pos (by omega)] at hx
  rw [if_pos h1] at hy
  exact yBC _ (ha i x y hx hy)
 rw [if_neg h1] at hy
 by_cases h2:i+1=r
 .rw [if_pos (by omega)] at hx
  rw [if_pos h2] at hy
  cases hy
  have:=hlt x (yAK hx)
  rw [show max x pl=pl by omega,show min x pl=x by omega]
  exact yAQ _ (a1 x (by omega) (by rw [show r-1=i by omega];exact hx))
 rw [if_neg h2] at hy
 rw [if_neg (by omega)] at hx
 rw [show i+1-1=i by omega] at hy
 by_cases h3:i=r
 .rw [if_pos h3] at hx
  cases hx
  have:=hlt y (yAK hy)
  rw [show max pl y=pl by omega,show min pl y=y by omega]
  rw [h3] at hy
  exact yAQ _ (a2 y (yAH.mp hy).1 hy)
 .rw [if_neg h3] at hx
  refine yBC _ (ha (i-1) x y hx (by rw [show i-1+1=i by omega];exact hy))
inductive Put (ks:List Int):List Nat->Nat->Nat->List Nat->List (Nat×Nat)->Prop
 | nil {os:List Nat} {p e:Nat}:¬ p < e->Put ks os p e os []
 | cons {os os':List Nat} {p e r:Nat} {l l':List (Nat×Nat)}:p < e->Halv ks os p 0 os.length r l->Put ks (insN os r p) (p+1) e os' l'->Put ks os p e os' (l++l')
structure OrdN (ks:List Int) (first place:Nat) (os:List Nat):Prop where
 len:os.length=place-first
 mem:∀ x,x∈os↔first <= x /\ x < place
 srt:os.Pairwise (lx ks)
theorem OrdN.ins {ks:List Int} {first place:Nat} {os:List Nat} {r:Nat} {l:List (Nat×Nat)} (hf:first <= place) (o:OrdN ks first place os) (h:Halv ks os place 0 os.length r l):OrdN ks first (place+1) (insN os r place) :=
 ⟨by rw [insN_len,o.len];omega,fun x=>by rw [insN_mem,o.mem];omega,insN_sorted o.srt (fun x hx=>((o.mem x).mp hx).2) h⟩
theorem Beyond.adj {ks:List Int} {first stop j:Nat} {f:Bool} (h:Beyond ks first stop j f):∀ (i x y:Nat),(ZCN first j f)[i]?=some x->(ZCN first j f)[i+1]?=some y->lx ks x y /\ (max x y,min x y)∈asks first (min (j+1) stop):=by
 intro i x y hx hy
 have hlt:=(yAH.mp hy).1
 rw [ZDT] at hlt
 have hj:j <= stop:=by rcases h with ⟨z1,z2,_⟩ | ⟨_,_,z1,z2,_⟩ <;> omega
 have hd:∀ i,first+1 <= i->i < j->dec ks i=f:=by
  rcases h with ⟨a,b,_⟩ | ⟨_,_,_,_,e,_⟩
  .intro i h1 h2;omega
  .exact e
 have ha:∀ k,first+1 <= k->k < j->(k,k-1)∈asks first (min (j+1) stop):=fun k h1 h2=>by
  unfold asks
  exact yBQ.mpr ⟨k,yCR.mpr (by omega),rfl⟩
 cases f with
 | false=>
  rw [turnN_up (by omega)] at hx
  rw [turnN_up (by omega)] at hy
  cases hx
  cases hy
  have z:=hd (first+i+1) (by omega) (by omega)
  have z':=of_decide_eq_false z
  rw [show first+i+1-1=first+i by omega] at z'
  have m:=ha (first+i+1) (by omega) (by omega)
  rw [show first+i+1-1=first+i by omega] at m
  rw [show first+(i+1)=first+i+1 by omega,show max (first+i) (first+i+1)=first+i+1 by omega,show min (first+i) (first+i+1)=first+i by omega]
  refine ⟨?_,m⟩
  unfold lx
  omega
 | true=>
  rw [turnN_down (by omega)] at hx
  rw [turnN_down (by omega)] at hy
  cases hx
  cases hy
  have z:=hd (j-1-i) (by omega) (by omega)
  have z':=of_decide_eq_true z
  have m:=ha (j-1-i) (by omega) (by omega)
  rw [show j-1-i-1=j-1-(i+1) by omega] at z' m
  rw [show max (j-1-i) (j-1-(i+1))=j-1-i by omega,show min (j-1-i) (j-1-(i+1))=j-1-(i+1) by omega]
  exact ⟨.inl z',m⟩
theorem pw_of_adj {ks:List Int}:∀ {os:List Nat},(∀ (i x y:Nat),os[i]?=some x->os[i+1]?=some y->lx ks x y)->os.Pairwise (lx ks)
 | [],_=>.nil
 | [x],_=>List.pairwise_singleton _ _
 | x::y::r,h=>by
  have ih:=pw_of_adj (ks:=ks) (os:=y::r) fun i a b ha hb=>h (i+1) a b ha hb
  have hxy:=h 0 x y rfl rfl
  refine List.pairwise_cons.mpr ⟨fun z hz=>?_,ih⟩
  rcases yAE.mp hz with e | e
  .rw [e];exact hxy
  .exact ZCv hxy ((List.pairwise_cons.mp ih).1 z e)
theorem Beyond.ord {ks:List Int} {first stop j:Nat} {f:Bool} (h:Beyond ks first stop j f):OrdN ks first j (ZCN first j f) :=
 ⟨ZDT _ _ _,fun _=>turnN_mem,pw_of_adj fun i x y hx hy=>(h.adj i x y hx hy).1⟩
theorem ZFo {a lg tl b:Addr} (n1:b≠a) (n2:b≠lg) (n3:b≠tl):b∉[a,lg,tl]:=fun z=>by
 rcases yAE.mp z with z | z
 .exact n1 z
 rcases yAE.mp z with z | z
 .exact n2 z
 .exact n3 (yAM.mp z)
theorem SitL.upd {CA CR:Addr} {H:Hp} {ks:List Int} {xs:RowC} {a rl ru tl g lg:Addr} {pr:List (Nat×Nat)} (h:SitL CA CR H ks xs a rl ru tl g lg pr) {l:Addr} {us us':List V} (hl:H l=some (.lst us)) (n:rl≠l /\ lg≠l /\ tl≠l):SitL CA CR (upd H l (.lst us')) ks xs a rl ru tl g lg pr:=by
 have k:∀ t o,H t=some o->(∀ x,o≠.lst x)->L2.upd H l (.lst us') t=some o:=fun t o z no=>by
  rw [ZAI (fun e=>by rw [e,hl] at z;exact no _ (Option.some.inj z).symm)];exact z
 have nla:l≠a:=h.ha.ne hl fun _ _ _ z=>by cases z
 refine ⟨h.ha.keep (ZAI (Ne.symm nla)),by rw [ZAI n.1];exact h.hrl,?_,?_,h.len,fun i c hk=>?_,?_,?_,h.ne⟩
 .obtain ⟨d1,f1,e1,e2,e3⟩:=h.hru.ex
  exact ⟨d1,f1,k _ _ e1 (fun _ z=>by cases z),e2,e3⟩
 .exact h.clo.mono fun b o hb=>k _ _ hb (fun _ z=>by cases z)
 .obtain ⟨r,a1,a2⟩:=h.row i c hk
  exact ⟨r,a1,k _ _ a2 (fun _ z=>by cases z)⟩
 .obtain ⟨ts,a1,a2⟩:=h.hlg
  exact ⟨ts,by rw [ZAI n.2.1];exact a1,a2.keep fun t x z=>k _ _ z (fun _ z=>by cases z)⟩
 .obtain ⟨ts,a1,a2⟩:=h.htl
  exact ⟨ts,by rw [ZAI n.2.2];exact a1,a2.keep fun t x z=>k _ _ z (fun _ z=>by cases z)⟩
def ZDy (CA CR:Addr):Sp:=fun vs H Q _=>∃ (ks:List Int) (xs:RowC) (a rl ru tl g lg ol:Addr) (pr:List (Nat×Nat)) (os:List Nat) (pl:Nat),vs=[.ref a,.ref ol,.int pl] /\ SitL CA CR H ks xs a rl ru tl g lg pr /\ H ol=some (.lst (nL os)) /\ ol∉[a,lg,tl] /\ os.length <= 500 /\ (∀ x∈os,x < pl) /\ pl < ks.length /\ pr.length <= 70000 /\
 ∀ H' r l,Fr [a,lg,tl] H H'->Halv ks os pl 0 os.length r l->SitL CA CR H' ks xs a rl ru tl g lg (pr++l)->Q (.int (r:Nat)) H'
theorem ZCL {os:List Nat} {m o:Nat} (h:os[m]?=some o):atI (nL os) (m:Int)=some (.int o):=ZAf (by omega) (by rw [Int.toNat_natCast,yAW,h];rfl)
def ZD7 (CA CR:Addr):Sp:=fun vs H Q _=>∃ (ks:List Int) (xs:RowC) (a rl ru tl g lg:Addr) (pr:List (Nat×Nat)) (first least stop:Nat) (e:V),vs=[.ref a,.int first,.int least,e] /\ SitL CA CR H ks xs a rl ru tl g lg pr /\ pr.length <= 20000 /\ ((e=.non /\ stop=ks.length)∨e=.int stop) /\ first < stop /\ stop <= ks.length /\ ks.length <= 119 /\ least <= 500 /\
 ∀ H' t ol j f os l,Fr [a,lg,tl] H H'->H ol=none->ol∉[a,lg,tl]->H' t=some (.tup [.int (j:Nat),.ref ol])->H' ol=some (.lst (nL os))->Beyond ks first stop j f->Put ks (ZCN first j f) j (min (first+least) stop) os l->SitL CA CR H' ks xs a rl ru tl g lg (pr++(asks first (min (j+1) stop)++l))->Q (.ref t) H'
theorem insV_nL {os:List Nat} {r pl:Nat} (h:r <= os.length):insV (nL os) (r:Int) (.int pl)=nL (insN os r pl):=by
 unfold insV insN nL
 dsimp only
 rw [if_neg (by omega),Int.toNat_natCast,yAB,yBN h,yAR,yAX,List.map_take,yCN]
theorem Put.few {ks:List Int} {os os':List Nat} {p e:Nat} {l:List (Nat×Nat)} (h:Put ks os p e os' l):l.length <= (e-p) * (os.length+(e-p)):=by
 induction h with
 | nil n=>simp
 | @cons os os' p e r l l' a b c ih=>
  have hb:=b.len
  rw [insN_len,show os.length+1+(e-(p+1))=os.length+(e-p) by omega] at ih
  rw [yAD,show e-p=(e-(p+1))+1 by omega,Nat.add_mul,Nat.one_mul]
  rw [show os.length+(e-(p+1)+1)=os.length+(e-p) by omega]
  omega
theorem Put.all {ks:List Int} {first p e:Nat} {os os':List Nat} {l:List (Nat×Nat)} (h:Put ks os p e os' l):∀ pr,first <= p->OrdN ks first p os->Adj os pr->OrdN ks first (max p e) os' /\ Adj os' (pr++l) /\ ∀ c∈l,c.2 < c.1:=by
 induction h with
 | nil n=>intro pr hf ho ha;exact ⟨by rw [show max _ _=_ from Nat.max_eq_left (Nat.not_lt.mp n)];exact ho,by rw [yBB];exact ha,fun c h=>by cases h⟩
 | @cons os os' p e r l l' a b c ih=>
  intro pr hf ho ha
  have hlt:∀ x∈os,x < p:=fun x hx=>((ho.mem x).mp hx).2
  obtain ⟨i1,i2,i3⟩:=ih (pr++l) (by omega) (ho.ins hf b) (insN_adj hlt b ha)
  rw [show max (p+1) e=max p e by omega] at i1
  refine ⟨i1,by rw [<- yAL];exact i2,fun x hx=>?_⟩
  rcases yAV.mp hx with z | z
  .obtain ⟨z1,z2⟩:=b.each x z
   rw [z1]
   exact hlt _ z2
  .exact i3 x z
theorem once0 {M G:Prop} (h:M->G) (t:M):G:=h t
theorem ZFB {γ:Type} {M:γ->Prop} (P:γ->Prop) {G:Prop} (h:(∀ z,P z->M z)->G) (t:∀ z,P z->M z):G:=h t
theorem ZEn {ks:List Int} {x y:Nat} (a:lx ks x y):¬ lx ks y x:=by unfold lx at *;omega
theorem lx_tot {ks:List Int} {x y:Nat} (a:x≠y) (b:¬ lx ks x y):lx ks y x:=by unfold lx at *;omega
instance (ks:List Int) (x y:Nat):Decidable (lx ks x y):=by unfold lx;exact inferInstance
theorem lexLt_lx {ks:List Int} {x y:Nat}:HT.lexLt [kat ks x,(x:Int)] [kat ks y,(y:Int)]=decide (lx ks x y):=by
 unfold HT.lexLt
 by_cases e:kat ks x=kat ks y
 .rw [if_pos e]
  unfold HT.lexLt
  by_cases e2:(x:Int)=y
  .rw [if_pos e2]
   exact (decide_eq_false (by unfold lx;omega)).symm
  .rw [if_neg e2]
   by_cases z:(x:Int) < y
   .rw [decide_eq_true z];exact (decide_eq_true (by unfold lx;omega)).symm
   .rw [decide_eq_false z];exact (decide_eq_false (by unfold lx;omega)).symm
 .rw [if_neg e]
  by_cases z:kat ks x < kat ks y
  .rw [decide_eq_true z];exact (decide_eq_true (by unfold lx;omega)).symm
  .rw [decide_eq_false z];exact (decide_eq_false (by unfold lx;omega)).symm
theorem ZER {ks:List Int} {o pl:Nat} (h:o≠pl):(if pl < o then decide (kat ks o < kat ks pl) else !decide (kat ks pl < kat ks o))=decide (lx ks o pl):=by
 by_cases z:pl < o
 .rw [if_pos z]
  by_cases e:kat ks o < kat ks pl
  .rw [decide_eq_true e];exact (decide_eq_true (by unfold lx;omega)).symm
  .rw [decide_eq_false e];exact (decide_eq_false (by unfold lx;omega)).symm
 .rw [if_neg z]
  by_cases e:kat ks pl < kat ks o
  .rw [decide_eq_true e];exact (decide_eq_false (by unfold lx;omega)).symm
  .rw [decide_eq_false e];exact (decide_eq_true (by unfold lx;omega)).symm
theorem ZFZ {α β:Type} {M:α->β->Prop} (P:α->β->Prop) {G:Prop} (h:(∀ x y,P x y->M x y)->G) (t:∀ x y,P x y->M x y):G:=h t
theorem once4 {α β γ δ:Type} {M:α->β->γ->δ->Prop} (P:α->β->γ->δ->Prop) {G:Prop} (h:(∀ x y z u,P x y z u->M x y z u)->G) (t:∀ x y z u,P x y z u->M x y z u):G:=h t
def Things (H:Hp) (ks:List Int) (xs:List V):Prop:=xs.length=ks.length /\ ∀ (i:Nat) k,ks[i]?=some k->∃ r,xs[i]?=some (V.ref r) /\ H r=some (.tup [.int k,.int i])
theorem Things.mono {H H':Hp} {ks:List Int} {xs:List V} (h:Things H ks xs) (e:∀ b o,H b=some o->(∀ t,o≠.tbl t)->(∀ l,o≠.lst l)->H' b=some o):Things H' ks xs:=⟨h.1,fun i k hk=>let ⟨r,a1,a2⟩:=h.2 i k hk;⟨r,a1,e _ _ a2 (fun _ z=>by cases z) (fun _ z=>by cases z)⟩⟩
theorem insV_ints (rs:List Int) (i y:Int):∃ us:List Int,insV (rs.map V.int) i (.int y)=us.map V.int /\ us.length=rs.length+1:=by
 unfold insV
 dsimp only
 generalize (if i < 0 then (i+((rs.map V.int).length:Int)).toNat else min i.toNat (rs.map V.int).length)=k
 refine ⟨rs.take k++y::rs.drop k,by rw [yAR,yAX,List.map_take,yCN],?_⟩
 rw [yAD,yAG,yAN,yAU]
 omega
theorem er_map {α β:Type} (f:α->β) (l:List α) (k:Nat):(l.map f).eraseIdx k=(l.eraseIdx k).map f:=by
 rw [List.eraseIdx_eq_take_drop_succ,List.eraseIdx_eq_take_drop_succ,yAR,List.map_take,yCN]
def ZF0:Sp:=fun vs H Q _=>∃ (a:Addr) (c1 c2:Int) (ks:List Int),vs=[.ref a,.int c1,.int c2] /\ H a=some (.lst (ks.map V.int)) /\ ks.length <= 63 /\ ∀ l H' (rs:List Int),Same H H'->H l=none->H' l=some (.lst (rs.map V.int))->rs.length <= 63->Q (.ref l) H'
def ZD2 (K:W.Frag):Sp:=fun vs H Q _=>∃ (a:Addr) (ns:List Int) (m:Int),vs=[.ref a,.int m,.int 63] /\ SqL K H a (ns.map V.int) /\ ns.length <= 63 /\ 0 < m /\ m <= 10 ^ 60 /\ ∀ l H' (rs:List Int),Same H H'->H l=none->H' l=some (.lst (rs.map V.int))->rs.length <= 63->Q (.ref l) H'
def ZEg (K:W.Frag):Sp:=fun vs H Q _=>∃ (a:Addr) (ns:List Int),vs=[.ref a] /\ SqL K H a (ns.map V.int) /\ ns.length <= 63 /\ ∀ l H' ks xs,Same H H'->H l=none->H' l=some (.lst xs)->ks.length <= 63->Things H' ks xs->Q (.ref l) H'
inductive Bin (z:Nat):Nat->Nat->List Nat->Prop
 | done {i:Nat}:Bin z i i []
 | more {lo hi:Nat} {l:List Nat}:lo < hi->(lo+hi-1) / 2 < z->Bin z ((lo+hi-1) / 2+1) hi l->Bin z lo hi ((lo+hi-1) / 2::l)
 | less {lo hi:Nat} {l:List Nat}:lo < hi->z <= (lo+hi-1) / 2->Bin z lo ((lo+hi-1) / 2) l->Bin z lo hi ((lo+hi-1) / 2::l)
inductive Gal (z n f:Nat):Nat->Nat->List Nat->Prop
 | out {lo far:Nat} {l:List Nat}:n <= far->Bin z lo n l->Gal z n f lo far l
 | stop {lo far:Nat} {l:List Nat}:far < n->z <= far->Bin z lo far l->Gal z n f lo far (far::l)
 | more {lo far:Nat} {l:List Nat}:far < n->far < z->Gal z n f (far+1) (2 * far-f+1) l->Gal z n f lo far (far::l)
theorem Bin.len {z lo hi:Nat} {l:List Nat} (h:Bin z lo hi l):l.length <= hi-lo:=by
 induction h with
 | done=>simp
 | more a b c ih=>rw [yAG];omega
 | less a b c ih=>rw [yAG];omega
theorem Bin.bits {z lo hi:Nat} {l:List Nat} (h:Bin z lo hi l):∀ k,hi-lo < 2 ^ k->l.length <= k:=by
 induction h with
 | done=>intro k _;simp
 | @more lo hi l a b c ih=>
  intro k hk
  cases k with
  | zero=>rw [Nat.pow_zero] at hk;omega
  | succ k=>
   rw [yBW] at hk
   rw [yAG]
   have:=ih k (by omega)
   omega
 | @less lo hi l a b c ih=>
  intro k hk
  cases k with
  | zero=>rw [Nat.pow_zero] at hk;omega
  | succ k=>
   rw [yBW] at hk
   rw [yAG]
   have:=ih k (by omega)
   omega
theorem ZCw (j:Nat):2 ^ (j+1) / 2=2 ^ j:=by rw [yBW];omega
theorem lt_two_pow' (j:Nat):j+1 <= 2 ^ j:=Nat.lt_two_pow_self
theorem Gal.all {z n f lo far:Nat} {l:List Nat} (h:Gal z n f lo far l):∀ j:Nat,lo=f+2 ^ j / 2->far+1=f+2 ^ j->f <= n->lo <= n->z=n->l.length+j <= n-f:=by
 induction h with
 | @out lo far l a c=>
  intro j e1 e2 h1 h2 h3
  have:=c.len
  cases j with
  | zero=>rw [Nat.pow_zero] at e1;omega
  | succ j=>
   rw [ZCw] at e1
   have:=lt_two_pow' j
   omega
 | @stop lo far l a c d=>intro j e1 e2 h1 h2 h3;omega
 | @more lo far l a c d ih=>
  intro j e1 e2 h1 h2 h3
  have hp:=yCS (n:=j)
  have:=ih (j+1) (by rw [ZCw];omega) (by rw [yBW];omega) h1 (by omega) h3
  rw [yAG]
  omega
theorem Gal.range {z n f lo far:Nat} {l:List Nat} (h:Gal z n f lo far l):f <= lo->lo <= n->f <= far->∀ i∈l,f <= i /\ i < n:=by
 have hB:∀ {z lo hi:Nat} {l:List Nat},Bin z lo hi l->f <= lo->hi <= n->∀ i∈l,f <= i /\ i < n:=by
  intro z lo hi l h
  induction h with
  | done=>intro _ _ i hi;cases hi
  | more a b c ih=>
   intro h1 h2 i hi
   rcases yAE.mp hi with e | e
   .omega
   .exact ih (by omega) h2 i e
  | less a b c ih=>
   intro h1 h2 i hi
   rcases yAE.mp hi with e | e
   .omega
   .exact ih h1 (by omega) i e
 induction h with
 | out a b=>intro h1 h2 h3;exact hB b h1 (yAA _)
 | stop a b c=>
  intro h1 h2 h3 i hi
  rcases yAE.mp hi with e | e
  .omega
  .exact hB c h1 (by omega) i e
 | more a b c ih=>
  intro h1 h2 h3 i hi
  rcases yAE.mp hi with e | e
  .omega
  .exact ih (by omega) (by omega) (by omega) i e
def ask1 (os:List Nat) (pl i:Nat):Nat×Nat:=(max ((os[i]?).getD 0) pl,min ((os[i]?).getD 0) pl)
def ZFN (CA CR:Addr):Sp:=fun vs H Q _=>∃ (ks:List Int) (xs:RowC) (a rl ru tl g lg ol:Addr) (pr:List (Nat×Nat)) (os:List Nat) (f pl z:Nat),vs=[.ref a,.ref ol,.int f,.int pl] /\ SitL CA CR H ks xs a rl ru tl g lg pr /\ H ol=some (.lst (nL os)) /\ ol∉[a,lg,tl] /\ os.length <= 500 /\ (∀ x∈os,x < ks.length /\ x≠pl) /\ pl < ks.length /\ pr.length <= 70000 /\ f <= z /\ z <= os.length /\ (∀ i x,f <= i->os[i]?=some x->(lx ks x pl↔i < z)) /\
 ∀ H' L,Fr [a,lg,tl] H H'->Gal z os.length f f f L->SitL CA CR H' ks xs a rl ru tl g lg (pr++L.map (ask1 os pl))->Q (.int (z-f:Nat)) H'
structure LIn1 (CA CR:Addr) (ks:List Int) (xs:RowC) (a rl ru tl g lg:Addr) (pr:List (Nat×Nat)) (os:List Nat) (f pl z:Nat) (H:Hp) (lo far:Nat) (dn:List Nat) (H':Hp):Prop where
 h1:f <= lo
 h2:lo <= z
 h3:lo <= far
 h4:dn.length+f <= lo
 fr:Fr [a,lg,tl] H H'
 st:SitL CA CR H' ks xs a rl ru tl g lg (pr++dn.map (ask1 os pl))
 hg:∀ L,Gal z os.length f lo far L->Gal z os.length f f f (dn++L)
structure LIn2 (CA CR:Addr) (ks:List Int) (xs:RowC) (a rl ru tl g lg:Addr) (pr:List (Nat×Nat)) (os:List Nat) (f pl z:Nat) (H:Hp) (lo hi:Nat) (dn:List Nat) (H':Hp):Prop where
 h1:f <= lo
 h2:lo <= z
 h3:z <= hi
 h4:hi <= os.length
 h5:dn.length+(hi-lo) <= 2 * os.length+1
 fr:Fr [a,lg,tl] H H'
 st:SitL CA CR H' ks xs a rl ru tl g lg (pr++dn.map (ask1 os pl))
 hg:∀ L,Bin z lo hi L->Gal z os.length f f f (dn++L)
def nw (w:Nat) (s:Bool):Nat:=if s then w+1 else 1
inductive JT (ks:List Int):List Nat->List Nat->Nat->Nat->Nat->Bool->List Nat->List (Nat×Nat)->Prop
 | done {ls rs:List Nat} {i j w:Nat} {s:Bool}:¬ (i < ls.length /\ j < rs.length)->JT ks ls rs i j w s (ls.drop i++rs.drop j) []
 | step {ls rs ps:List Nat} {i j w x y:Nat} {s:Bool} {L:List (Nat×Nat)}:ls[i]?=some x->rs[j]?=some y->lx ks x y->nw w s≠4->JT ks ls rs (i+1) j (nw w s) true ps L->JT ks ls rs i j w s (x::ps) ((max x y,min x y)::L)
 | leap {ls rs ps G:List Nat} {i j w x y z:Nat} {s:Bool} {L:List (Nat×Nat)}:ls[i]?=some x->rs[j]?=some y->lx ks x y->nw w s=4->i+1 <= z->z < ls.length->(∀ k u,i+1 <= k->ls[k]?=some u->(lx ks u y↔k < z))->Gal z ls.length (i+1) (i+1) (i+1) G->JT ks ls rs z (j+1) 0 true ps L->JT ks ls rs i j w s ((ls.drop i).take (z-i)++y::ps) ((max x y,min x y)::(G.map (ask1 ls y)++L))
 | last {ls rs ps G:List Nat} {i j w x y:Nat} {s:Bool} {L:List (Nat×Nat)}:ls[i]?=some x->rs[j]?=some y->lx ks x y->nw w s=4->(∀ k u,i+1 <= k->ls[k]?=some u->lx ks u y)->Gal ls.length ls.length (i+1) (i+1) (i+1) G->JT ks ls rs ls.length j 0 true ps L->JT ks ls rs i j w s (ls.drop i++ps) ((max x y,min x y)::(G.map (ask1 ls y)++L))
 | swap {ls rs ps:List Nat} {i j w:Nat} {s:Bool} {L:List (Nat×Nat)}:JT ks rs ls j i w (!s) ps L->JT ks ls rs i j w s ps L
theorem ZCS {os:List Nat} {i x:Nat} (h:os[i]?=some x):os.drop i=x::os.drop (i+1):=by
 obtain ⟨h1,e⟩:=yAH.mp h
 rw [yBZ h1,e]
theorem drop_seg {os:List Nat} {i z:Nat} (h:i <= z):os.drop i=(os.drop i).take (z-i)++os.drop z:=by
 have:os.drop z=(os.drop i).drop (z-i):=by rw [List.drop_drop,show i+(z-i)=z by omega]
 rw [this,yBM]
theorem JT.mem {ks:List Int} {ls rs ps:List Nat} {i j w:Nat} {s:Bool} {L:List (Nat×Nat)} (h:JT ks ls rs i j w s ps L):∀ u,u∈ps↔u∈ls.drop i∨u∈rs.drop j:=by
 induction h with
 | done _=>intro u;rw [yAV]
 | step a b c d e ih=>
  intro u
  rw [ZCS a,yAE,yAE,ih]
  exact ⟨fun z=>z.elim (fun z=>.inl (.inl z)) fun z=>z.elim (fun z=>.inl (.inr z)) .inr,fun z=>z.elim (fun z=>z.elim .inl fun z=>.inr (.inl z)) fun z=>.inr (.inr z)⟩
 | @leap ls rs ps G i j w x y z s L a b c d e f g k l ih=>
  intro u
  rw [drop_seg (os:=ls) (show i <= z by omega),ZCS b,yAV,yAV,yAE,yAE,ih,List.take_append_of_le_length (by rw [yAN,yAU];omega),yBP (by rw [yAN];omega)]
  exact ⟨fun z=>z.elim (fun z=>.inl (.inl z)) fun z=>z.elim (fun z=>.inr (.inl z)) fun z=>z.elim (fun z=>.inl (.inr z)) fun z=>.inr (.inr z),fun z=>z.elim (fun z=>z.elim .inl fun z=>.inr (.inr (.inl z))) fun z=>z.elim (fun z=>.inr (.inl z)) fun z=>.inr (.inr (.inr z))⟩
 | @last ls rs ps G i j w x y s L a b c d g k l ih=>
  intro u
  rw [yAV,ih,yBY (yAA _)]
  exact ⟨fun z=>z.elim .inl fun z=>z.elim (fun z=>by cases z) .inr,fun z=>z.elim .inl fun z=>.inr (.inr z)⟩
 | swap h ih=>intro u;rw [ih];exact Or.comm
theorem ZCy {os:List Nat} {i u:Nat} (h:u∈os.drop i):∃ k,i <= k /\ os[k]?=some u:=by
 obtain ⟨n,hn⟩:=yBK h
 rw [yBJ] at hn
 exact ⟨i+n,by omega,hn⟩
theorem seg_mem {os:List Nat} {i z u:Nat} (h:u∈(os.drop i).take (z-i)):∃ k,i <= k /\ k < z /\ os[k]?=some u:=by
 obtain ⟨n,hn⟩:=yBK h
 have h1:=(yAH.mp hn).1
 rw [yAN] at h1
 rw [yBS (by omega),yBJ] at hn
 exact ⟨i+n,by omega,by omega,hn⟩
theorem drop_ge {ks:List Int} {os:List Nat} {j y u:Nat} (hs:os.Pairwise (lx ks)) (hy:os[j]?=some y) (hu:u∈os.drop j):u=y∨lx ks y u:=by
 obtain ⟨k,hk,e⟩:=ZCy hu
 by_cases z:k=j
 .rw [z,hy] at e;cases e;exact .inl rfl
 .exact .inr (ZDZ hs (by omega) hy e)
theorem seg_pw {ks:List Int} {os:List Nat} {i n:Nat} (hs:os.Pairwise (lx ks)):((os.drop i).take n).Pairwise (lx ks):=(hs.sublist (List.drop_sublist _ _)).sublist (List.take_sublist _ _)
theorem JT.sorted {ks:List Int} {ls rs ps:List Nat} {i j w:Nat} {s:Bool} {L:List (Nat×Nat)} (h:JT ks ls rs i j w s ps L):ls.Pairwise (lx ks)->rs.Pairwise (lx ks)->(∀ x∈ls,∀ y∈rs,x≠y)->ps.Pairwise (lx ks):=by
 induction h with
 | @done ls rs i j w s n=>
  intro h1 h2 h3
  rcases yCA i ls.length with z | z
  .rw [yBY (l:=rs) (by omega),yBB]
   exact h1.sublist (List.drop_sublist _ _)
  .rw [yBY (l:=ls) z]
   exact h2.sublist (List.drop_sublist _ _)
 | step a b c d e ih=>
  intro h1 h2 h3
  refine List.pairwise_cons.mpr ⟨fun u hu=>?_,ih h1 h2 h3⟩
  rcases (e.mem u).mp hu with z | z
  .obtain ⟨k,hk,e2⟩:=ZCy z
   exact ZDZ h1 (by omega) a e2
  .rcases drop_ge h2 b z with z | z
   .rw [z];exact c
   .exact ZCv c z
 | @leap ls rs ps G i j w x y z s L a b c d e f g k l ih=>
  intro h1 h2 h3
  have hy:∀ u∈ps,lx ks y u:=fun u hu=>by
   rcases (l.mem u).mp hu with v | v
   .obtain ⟨n,hn,e2⟩:=ZCy v
    exact lx_tot (h3 u (yAK e2) y (yAK b)) fun t=>by have:=(g n u (by omega) e2).mp t;omega
   .obtain ⟨n,hn,e2⟩:=ZCy v
    exact ZDZ h2 (by omega) b e2
  have hm:∀ u∈(ls.drop i).take (z-i),lx ks u y:=fun u hu=>by
   obtain ⟨n,h4,h5,e2⟩:=seg_mem hu
   by_cases v:n=i
   .rw [v,a] at e2;cases e2;exact c
   .exact (g n u (by omega) e2).mpr h5
  refine yCG.mpr ⟨seg_pw h1,List.pairwise_cons.mpr ⟨hy,ih h1 h2 h3⟩,fun u hu v hv=>?_⟩
  rcases yAE.mp hv with t | t
  .rw [t];exact hm u hu
  .exact ZCv (hm u hu) (hy v t)
 | @last ls rs ps G i j w x y s L a b c d g k l ih=>
  intro h1 h2 h3
  refine yCG.mpr ⟨h1.sublist (List.drop_sublist _ _),ih h1 h2 h3,fun u hu v hv=>?_⟩
  have hm:lx ks u y:=by
   obtain ⟨n,h4,e2⟩:=ZCy hu
   by_cases t:n=i
   .rw [t,a] at e2;cases e2;exact c
   .exact g n u (by omega) e2
  rcases (l.mem v).mp hv with t | t
  .rw [yBY (yAA _)] at t;cases t
  .rcases drop_ge h2 b t with t | t
   .rw [t];exact hm
   .exact ZCv hm t
 | swap h ih=>intro h1 h2 h3;exact ih h2 h1 fun x hx y hy e=>h3 y hy x hx e.symm
theorem JT.head {ks:List Int} {ls rs ps:List Nat} {i j w:Nat} {s:Bool} {L:List (Nat×Nat)} (h:JT ks ls rs i j w s ps L):∀ u,ps[0]?=some u->ls[i]?=some u∨rs[j]?=some u:=by
 induction h with
 | @done ls rs i j w s n=>
  intro u hu
  rcases yCA i ls.length with z | z
  .rw [yBY (l:=rs) (by omega),yBB,yBJ] at hu
   exact .inl hu
  .rw [yBY (l:=ls) z,List.nil_append,yBJ] at hu
   exact .inr hu
 | step a b c d e ih=>intro u hu;rw [List.getElem?_cons_zero] at hu;cases hu;exact .inl a
 | @leap ls rs ps G i j w x y z s L a b c d e f g k l ih=>
  intro u hu
  rw [yAZ (by rw [yAN,yAU];omega),yBS (by omega),yBJ] at hu
  exact .inl hu
 | @last ls rs ps G i j w x y s L a b c d g k l ih=>
  intro u hu
  have:=(yAH.mp a).1
  rw [yAZ (by rw [yAU];omega),yBJ] at hu
  exact .inl hu
 | swap h ih=>intro u hu;exact (ih u hu).symm
theorem Adj.mono {os:List Nat} {A B:List (Nat×Nat)} (h:Adj os A) (k:∀ c∈A,c∈B):Adj os B:=fun i x y a b=>k _ (h i x y a b)
theorem Adj.cons {ps:List Nat} {x:Nat} {B:List (Nat×Nat)} (h:Adj ps B) (k:∀ u,ps[0]?=some u->(max x u,min x u)∈B):Adj (x::ps) B:=fun i u v a b=>by
 cases i with
 | zero=>rw [List.getElem?_cons_zero] at a;cases a;rw [List.getElem?_cons_succ] at b;exact k v b
 | succ i=>rw [List.getElem?_cons_succ] at a b;exact h i u v a b
theorem Adj.seg {ls ps:List Nat} {i z:Nat} {B:List (Nat×Nat)} (h:Adj ls B) (hp:Adj ps B) (hi:i < z) (hz:z <= ls.length) (k:∀ u v,ls[z-1]?=some u->ps[0]?=some v->(max u v,min u v)∈B):Adj ((ls.drop i).take (z-i)++ps) B:=by
 have hl:((ls.drop i).take (z-i)).length=z-i:=by rw [yAN,yAU];omega
 intro n u v a b
 by_cases h1:n+1 < z-i
 .rw [yAZ (by omega),yBS (by omega),yBJ] at a b
  exact h (i+n) u v a b
 by_cases h2:n+1=z-i
 .rw [yAZ (by omega),yBS (by omega),yBJ] at a
  rw [yAY (by omega),hl,h2,yBF] at b
  rw [show i+n=z-1 by omega] at a
  exact k u v a b
 .rw [yAY (by omega),hl] at a b
  exact hp (n-(z-i)) u v a (by rw [show n-(z-i)+1=n+1-(z-i) by omega];exact b)
theorem Bin.asked {z lo hi:Nat} {l:List Nat} (h:Bin z lo hi l):lo <= z->z <= hi->(lo < z->z-1∈l) /\ (z < hi->z∈l):=by
 induction h with
 | done=>intro h1 h2;exact ⟨fun _=>by omega,fun _=>by omega⟩
 | @more lo hi l a b c ih=>
  intro h1 h2
  obtain ⟨i1,i2⟩:=ih (by omega) h2
  refine ⟨fun _=>?_,fun h=>yAC _ (i2 h)⟩
  by_cases e:(lo+hi-1) / 2+1 < z
  .exact yAC _ (i1 e)
  .rw [show z-1=(lo+hi-1) / 2 by omega];exact yAF
 | @less lo hi l a b c ih=>
  intro h1 h2
  obtain ⟨i1,i2⟩:=ih h1 b
  refine ⟨fun h=>yAC _ (i1 h),fun _=>?_⟩
  by_cases e:z < (lo+hi-1) / 2
  .exact yAC _ (i2 e)
  .rw [show z=(lo+hi-1) / 2 by omega];exact yAF
theorem Gal.asked {z n f lo far:Nat} {l:List Nat} (h:Gal z n f lo far l):lo <= z->z <= n->f <= far->(lo < z->z-1∈l) /\ (z < n->z∈l):=by
 induction h with
 | out a b=>intro h1 h2 h3;exact b.asked h1 h2
 | @stop lo far l a b c=>
  intro h1 h2 h3
  obtain ⟨i1,i2⟩:=c.asked h1 b
  refine ⟨fun h=>yAC _ (i1 h),fun _=>?_⟩
  by_cases e:z < far
  .exact yAC _ (i2 e)
  .rw [show z=far by omega];exact yAF
 | @more lo far l a b c ih=>
  intro h1 h2 h3
  obtain ⟨i1,i2⟩:=ih (by omega) h2 (by omega)
  refine ⟨fun h=>?_,fun h=>yAC _ (i2 h)⟩
  by_cases e:far+1 < z
  .exact yAC _ (i1 e)
  .rw [show z-1=far by omega];exact yAF
theorem ZDD {os:List Nat} {pl i x:Nat} (h:os[i]?=some x):ask1 os pl i=(max x pl,min x pl):=by unfold ask1;rw [h];rfl
theorem mm_comm (x y:Nat):(max x y,min x y)=(max y x,min y x):=by rw [Nat.max_comm,Nat.min_comm]
theorem JT.adj {ks:List Int} {ls rs ps:List Nat} {i j w:Nat} {s:Bool} {L:List (Nat×Nat)} (h:JT ks ls rs i j w s ps L):∀ pr,Adj ls pr->Adj rs pr->Adj ps (pr++L):=by
 induction h with
 | @done ls rs i j w s n=>
  intro pr h1 h2
  have hd:∀ {os:List Nat} {i:Nat},Adj os pr->Adj (os.drop i) pr:=fun h n u v a b=>by
   rw [yBJ] at a b
   exact h _ u v a b
  rw [yBB]
  rcases yCA i ls.length with z | z
  .rw [yBY (l:=rs) (by omega),yBB]
   exact hd h1
  .rw [yBY (l:=ls) z]
   exact hd h2
 | @step ls rs ps i j w x y s L a b c d e ih=>
  intro pr h1 h2
  refine ((ih pr h1 h2).mono fun c hc=>?_).cons fun u hu=>?_
  .rcases yAV.mp hc with t | t
   .exact yBC _ t
   .exact yAQ _ (yAC _ t)
  .rcases e.head u hu with t | t
   .exact yBC _ (h1 i x u a t)
   .rw [b] at t;cases t
    exact yAQ _ yAF
 | @leap ls rs ps G i j w x y z s L a b c d e f g k l ih=>
  intro pr h1 h2
  obtain ⟨k1,k2⟩:=k.asked e (yBO f) (yAA _)
  have sub:∀ c∈pr++L,c∈pr++((max x y,min x y)::(G.map (ask1 ls y)++L)):=fun c hc=>by
   rcases yAV.mp hc with t | t
   .exact yBC _ t
   .exact yAQ _ (yAC _ (yAQ _ t))
  have hG:∀ n u,n∈G->ls[n]?=some u->(max u y,min u y)∈pr++((max x y,min x y)::(G.map (ask1 ls y)++L)):=fun n u hn hu=>
   yAQ _ (yAC _ (yBC _ (by rw [<- ZDD hu];exact List.mem_map_of_mem hn)))
  refine Adj.seg (h1.mono fun c hc=>yBC _ hc) (((ih pr h1 h2).mono sub).cons fun u hu=>?_) (by omega) (by omega) fun u v hu hv=>?_
  .rcases l.head u hu with t | t
   .rw [mm_comm y u];exact hG z u (k2 f) t
   .exact yBC _ (h2 j y u b t)
  .rw [List.getElem?_cons_zero] at hv;cases hv
   by_cases t:z=i+1
   .rw [t,Nat.add_sub_cancel,a] at hu;cases hu
    exact yAQ _ yAF
   .exact hG (z-1) u (k1 (by omega)) hu
 | @last ls rs ps G i j w x y s L a b c d g k l ih=>
  intro pr h1 h2
  have hi:=(yAH.mp a).1
  obtain ⟨k1,k2⟩:=k.asked hi (yAA _) (yAA _)
  have sub:∀ c∈pr++L,c∈pr++((max x y,min x y)::(G.map (ask1 ls y)++L)):=fun c hc=>by
   rcases yAV.mp hc with t | t
   .exact yBC _ t
   .exact yAQ _ (yAC _ (yAQ _ t))
  have hG:∀ n u,n∈G->ls[n]?=some u->(max u y,min u y)∈pr++((max x y,min x y)::(G.map (ask1 ls y)++L)):=fun n u hn hu=>
   yAQ _ (yAC _ (yBC _ (by rw [<- ZDD hu];exact List.mem_map_of_mem hn)))
  have:=Adj.seg (i:=i) (z:=ls.length) (h1.mono fun c hc=>yBC ((max x y,min x y)::(G.map (ask1 ls y)++L)) hc) ((ih pr h1 h2).mono sub) (by omega) (yAA _) fun u v hu hv=>?_
  .rw [yBP (by rw [yAU];exact yAA _)] at this
   exact this
  .rcases l.head v hv with t | t
   .rw [yBI (yAA _)] at t;cases t
   .rw [b] at t;cases t
    by_cases t:ls.length=i+1
    .rw [t,Nat.add_sub_cancel,a] at hu;cases hu
     exact yAQ _ yAF
    .exact hG (ls.length-1) u (k1 (by omega)) hu
 | swap h ih=>intro pr h1 h2;exact ih pr h2 h1
theorem spot_ex {ks:List Int} {os:List Nat} {pl:Nat} (hs:os.Pairwise (lx ks)):∀ n f,f+n=os.length->∃ z,f <= z /\ z <= os.length /\ ∀ i x,f <= i->os[i]?=some x->(lx ks x pl↔i < z):=by
 intro n
 induction n with
 | zero=>intro f hf;exact ⟨f,yAA _,by omega,fun i x h e=>by have:=(yAH.mp e).1;omega⟩
 | succ n ih=>
  intro f hf
  have hfl:f < os.length:=by omega
  by_cases h:lx ks os[f] pl
  .obtain ⟨z,z1,z2,z3⟩:=ih (f+1) (by omega)
   refine ⟨z,by omega,z2,fun i x hi e=>?_⟩
   by_cases t:i=f
   .subst t
    rw [yAJ hfl] at e;cases e
    exact ⟨fun _=>by omega,fun _=>h⟩
   .exact z3 i x (by omega) e
  .refine ⟨f,yAA _,by omega,fun i x hi e=>⟨fun r=>?_,fun r=>by omega⟩⟩
   by_cases t:i=f
   .subst t
    rw [yAJ hfl] at e;cases e
    exact absurd r h
   .exact absurd (ZCv (ZDZ hs (by omega) (yAJ hfl) e) r) h
theorem two_pow_lin (n:Nat):2 * (n+1) <= 2 ^ n+2:=by
 induction n with
 | zero=>decide
 | succ n ih=>
  rw [yBW]
  cases n with
  | zero=>decide
  | succ n=>rw [yBW] at *;have:=yCS (n:=n);omega
theorem bits_lin {g b:Nat} (h:∀ c,g < 2 ^ c->b <= c):max 1 (2 * b) <= g+2 /\ (g < 2->max 1 (2 * b) <= g+1):=by
 cases b with
 | zero=>omega
 | succ b=>
  have:2 ^ b <= g:=by
   rcases yCA g (2 ^ b) with z | z
   .have:=h b z;omega
   .exact z
  have:=two_pow_lin b
  refine ⟨by omega,fun z=>?_⟩
  cases b with
  | zero=>rw [Nat.pow_zero] at this;omega
  | succ b=>rw [yBW] at *;have:=yCS (n:=b);omega
theorem Gal.most' {z n f lo far:Nat} {l:List Nat} (h:Gal z n f lo far l):∀ (j b:Nat),lo=f+2 ^ j / 2->far+1=f+2 ^ j->f <= z->z <= n->z-f < 2 ^ b->(∀ c,z-f < 2 ^ c->b <= c)->j <= b->l.length+j <= max 1 (2 * b):=by
 induction h with
 | @out lo far l a c=>
  intro j b e1 e2 h1 h2 h3 h4 h5
  have hb:=h4 j (by omega)
  have ej:j=b:=by omega
  subst ej
  cases j with
  | zero=>
   rw [Nat.pow_zero] at e1 e2
   have:=c.len
   omega
  | succ j=>
   rw [ZCw] at e1
   rw [yBW] at e2
   have:=c.bits j (by have:=yCS (n:=j);omega)
   omega
 | @stop lo far l a c d=>
  intro j b e1 e2 h1 h2 h3 h4 h5
  have hb:=h4 j (by omega)
  have ej:j=b:=by omega
  subst ej
  rw [yAG]
  cases j with
  | zero=>
   rw [Nat.pow_zero] at e1 e2
   have:=d.len
   omega
  | succ j=>
   rw [ZCw] at e1
   rw [yBW] at e2
   have:=d.bits j (by have:=yCS (n:=j);omega)
   omega
 | @more lo far l a c d ih=>
  intro j b e1 e2 h1 h2 h3 h4 h5
  have hjb:j+1 <= b:=by
   rcases yCA j b with z | z
   .exact z
   .have:=Nat.pow_le_pow_right (show 2 > 0 by decide) z
    omega
  have hp:=yCS (n:=j)
  have:=ih (j+1) b (by rw [ZCw];omega) (by rw [yBW];omega) h1 h2 h3 h4 hjb
  rw [yAG]
  omega
def ZEX (g:Nat):Nat:=if g=0 then 0 else g.log2+1
theorem nbits_lt (g:Nat):g < 2 ^ ZEX g:=by
 unfold ZEX
 split
 .omega
 .exact (Nat.log2_lt (by omega)).mp (yBR _)
theorem ZEC {g c:Nat} (h:g < 2 ^ c):ZEX g <= c:=by
 unfold ZEX
 split
 .exact yAI _
 .exact (Nat.log2_lt (by omega)).mpr h
theorem Gal.looks {z n f:Nat} {l:List Nat} (h:Gal z n f f f l) (h1:f <= z) (h2:z <= n):l.length <= max 1 (2 * ZEX (z-f)):=by
 have:=h.most' 0 (ZEX (z-f)) (by simp) (by simp) h1 h2 (nbits_lt _) (fun c=>ZEC) (yAI _)
 omega
theorem Gal.lin {z n f:Nat} {l:List Nat} (h:Gal z n f f f l) (h1:f <= z) (h2:z <= n):7 * l.length <= 8 * (z-f)+12:=by
 have h3:=h.looks h1 h2
 obtain ⟨g1,g2⟩:=bits_lin (g:=z-f) (b:=ZEX (z-f)) fun c=>ZEC
 clear h
 generalize z-f=g at *
 generalize max 1 (2 * ZEX g)=m at *
 clear h1 h2
 omega
theorem JT.most7 {ks:List Int} {ls rs ps:List Nat} {i j w:Nat} {s:Bool} {L:List (Nat×Nat)} (h:JT ks ls rs i j w s ps L):w <= 3->i <= ls.length->j <= rs.length->1 <= (ls.length-i)+(rs.length-j)->7 * (L.length+1) <= 8 * ((ls.length-i)+(rs.length-j))+w:=by
 induction h with
 | done n=>intro h1 h2 h3 h4;rw [yBT];omega
 | @step ls rs ps i j w x y s L a b c d e ih=>
  intro h1 h2 h3 h4
  have hi:=(yAH.mp a).1
  have hj:=(yAH.mp b).1
  have hn:nw w s <= w+1:=by unfold nw;split <;> omega
  have:=ih (by omega) (by omega) h3 (by omega)
  rw [yAG]
  omega
 | @leap ls rs ps G i j w x y z s L a b c d e f g k l ih=>
  intro h1 h2 h3 h4
  have hi:=(yAH.mp a).1
  have hj:=(yAH.mp b).1
  have hw:w=3:=by unfold nw at d;split at d <;> omega
  have:=ih (by omega) (by omega) (by omega) (by omega)
  have hG:=k.lin e (yBO f)
  rw [yAG,yAD,yAB]
  omega
 | @last ls rs ps G i j w x y s L a b c d g k l ih=>
  intro h1 h2 h3 h4
  have hi:=(yAH.mp a).1
  have hj:=(yAH.mp b).1
  have:=ih (by omega) (by omega) (by omega) (by omega)
  have hG:=k.all 0 (by simp) (by simp) hi hi rfl
  rw [yAG,yAD,yAB]
  omega
 | @swap ls rs ps i j w s L h ih=>
  intro h1 h2 h3 h4
  have:=ih h1 h3 h2 (by omega)
  omega
theorem JT.most {ks:List Int} {ls rs ps:List Nat} {i j w:Nat} {s:Bool} {L:List (Nat×Nat)} (h:JT ks ls rs i j w s ps L) (h1:w <= 3) (h2:i <= ls.length) (h3:j <= rs.length) (h4:1 <= (ls.length-i)+(rs.length-j)):L.length+1 <= (ls.length-i)+(rs.length-j)+((ls.length-i)+(rs.length-j)+w) / 7:=by
 have:=h.most7 h1 h2 h3 h4
 clear h
 omega
theorem JT.len {ks:List Int} {ls rs ps:List Nat} {i j w:Nat} {s:Bool} {L:List (Nat×Nat)} (h:JT ks ls rs i j w s ps L):w <= 3->i <= ls.length->j <= rs.length->L.length <= 2 * ((ls.length-i)+(rs.length-j)):=by
 intro h1 h2 h3
 by_cases t:1 <= (ls.length-i)+(rs.length-j)
 .have:=h.most h1 h2 h3 t
  omega
 .have:∀ {ls rs ps:List Nat} {i j w:Nat} {s:Bool} {L:List (Nat×Nat)},JT ks ls rs i j w s ps L->ls.length <= i->rs.length <= j->L=[]:=by
   intro ls rs ps i j w s L h
   induction h with
   | done n=>intro _ _;rfl
   | step a=>intro h _;have:=(yAH.mp a).1;omega
   | leap a=>intro h _;have:=(yAH.mp a).1;omega
   | last a=>intro h _;have:=(yAH.mp a).1;omega
   | swap h ih=>intro h1 h2;exact ih h2 h1
  rw [this h (by omega) (by omega)]
  exact yAI _
theorem ZFb {x y:Nat} (h:x≠y):(max x y,min x y).2 < (max x y,min x y).1:=by show min x y < max x y;omega
theorem JT.ord {ks:List Int} {ls rs ps:List Nat} {i j w:Nat} {s:Bool} {L:List (Nat×Nat)} (h:JT ks ls rs i j w s ps L):(∀ x∈ls,∀ y∈rs,x≠y)->∀ c∈L,c.2 < c.1:=by
 induction h with
 | done _=>intro _ c hc;cases hc
 | step a b c d e ih=>
  intro hd c hc
  rcases yAE.mp hc with z | z
  .rw [z];exact ZFb (hd _ (yAK a) _ (yAK b))
  .exact ih hd c z
 | @leap ls rs ps G i j w x y z s L a b c d e f g k l ih=>
  intro hd c hc
  rcases yAE.mp hc with t | t
  .rw [t];exact ZFb (hd _ (yAK a) _ (yAK b))
  rcases yAV.mp t with t | t
  .obtain ⟨n,hn,rfl⟩:=yBQ.mp t
   have hr:=k.range (yAA _) (by omega) (yAA _) n hn
   have he:=yAJ hr.2
   rw [ZDD he]
   exact ZFb (hd _ (yAK he) _ (yAK b))
  .exact ih hd c t
 | @last ls rs ps G i j w x y s L a b c d g k l ih=>
  intro hd c hc
  rcases yAE.mp hc with t | t
  .rw [t];exact ZFb (hd _ (yAK a) _ (yAK b))
  rcases yAV.mp t with t | t
  .obtain ⟨n,hn,rfl⟩:=yBQ.mp t
   have hr:=k.range (yAA _) (yAH.mp a).1 (yAA _) n hn
   have he:=yAJ hr.2
   rw [ZDD he]
   exact ZFb (hd _ (yAK he) _ (yAK b))
  .exact ih hd c t
 | swap h ih=>intro hd c hc;exact ih (fun x hx y hy e=>hd y hy x hx e.symm) c hc
abbrev fJ (ak sd tk pc:Addr):List (Str×V):=[("places",.ref pc),("taken",.ref tk),("sides",.ref sd),("asker",.ref ak)]
def pk {α:Type} (b:Bool) (x y:α):List α:=if b then [x,y] else [y,x]
def sv (b:Bool):Int:=if b then 0 else 1
theorem ZCe {b:Bool} {x y:V}:atI (pk b x y) (sv b)=some x:=by cases b <;> exact ZAf (by decide) rfl
theorem pk_swap {α:Type} {b:Bool} {x y:α}:pk (!b) y x=pk b x y:=by cases b <;> rfl
theorem pk_len {α:Type} {b:Bool} {x y:α}:(pk b x y).length=2:=by cases b <;> rfl
theorem pk_set {b:Bool} {x y z:V}:(pk b x y).set (sv b).toNat z=pk b z y:=by cases b <;> rfl
structure JS (CJ:Addr) (H:Hp) (b:Bool) (jn ak sd ma ta tk pc:Addr) (ms ts:List Nat) (i j:Nat) (dn:List Nat):Prop where
 hj:Ins H jn CJ (fJ ak sd tk pc)
 hsd:H sd=some (.tup (pk b (.ref ma) (.ref ta)))
 hma:H ma=some (.lst (nL ms))
 hta:H ta=some (.lst (nL ts))
 htk:H tk=some (.lst (pk b (.int i) (.int j)))
 hpc:H pc=some (.lst (nL dn))
 ne:tk≠pc /\ ma≠tk /\ ma≠pc /\ ta≠tk /\ ta≠pc
section
variable {CJ:Addr} {H H':Hp} {b:Bool} {jn ak sd ma ta tk pc:Addr} {ms ts:List Nat} {i j:Nat} {dn:List Nat}
theorem JS.swap (h:JS CJ H b jn ak sd ma ta tk pc ms ts i j dn):JS CJ H (!b) jn ak sd ta ma tk pc ts ms j i dn :=
 ⟨h.hj,by rw [pk_swap];exact h.hsd,h.hta,h.hma,by rw [pk_swap];exact h.htk,h.hpc,h.ne.1,h.ne.2.2.2.1,h.ne.2.2.2.2,h.ne.2.1,h.ne.2.2.1⟩
theorem JS.keep {i' j':Nat} {dn':List Nat} (h:JS CJ H b jn ak sd ma ta tk pc ms ts i j dn) (e:Fr [tk,pc] H H') (h1:H' tk=some (.lst (pk b (.int i') (.int j')))) (h2:H' pc=some (.lst (nL dn'))):JS CJ H' b jn ak sd ma ta tk pc ms ts i' j' dn':=by
 have n2:∀ {x:Addr},x≠tk->x≠pc->x∉[tk,pc]:=fun a b z=>(yAE.mp z).elim a fun z=>b (yAM.mp z)
 have hj:jn∉[tk,pc]:=n2 (Ne.symm (h.hj.ne h.htk fun _ _ _ z=>by cases z)) (Ne.symm (h.hj.ne h.hpc fun _ _ _ z=>by cases z))
 have hs:sd∉[tk,pc]:=n2 (fun z=>by have:=h.hsd;rw [z,h.htk] at this;cases this) (fun z=>by have:=h.hsd;rw [z,h.hpc] at this;cases this)
 exact ⟨ZDr e hj h.hj,e _ _ hs h.hsd,e _ _ (n2 h.ne.2.1 h.ne.2.2.1) h.hma,e _ _ (n2 h.ne.2.2.2.1 h.ne.2.2.2.2) h.hta,h1,h2,h.ne⟩
theorem JS.fr {S:List Addr} (h:JS CJ H b jn ak sd ma ta tk pc ms ts i j dn) (e:Fr S H H') (n:jn∉S /\ sd∉S /\ ma∉S /\ ta∉S /\ tk∉S /\ pc∉S):JS CJ H' b jn ak sd ma ta tk pc ms ts i j dn :=
 ⟨ZDr e n.1 h.hj,e _ _ n.2.1 h.hsd,e _ _ n.2.2.1 h.hma,e _ _ n.2.2.2.1 h.hta,e _ _ n.2.2.2.2.1 h.htk,e _ _ n.2.2.2.2.2 h.hpc,h.ne⟩
theorem JS.mono (h:JS CJ H b jn ak sd ma ta tk pc ms ts i j dn) (e:Same H H'):JS CJ H' b jn ak sd ma ta tk pc ms ts i j dn :=
 h.fr (S:=[]) e.fr ⟨yBL,yBL,yBL,yBL,yBL,yBL⟩
end
def ZEj (CJ:Addr):Sp:=fun vs H Q _=>∃ (x dx ak al ar:Addr) (ls rs:List Nat),vs=[.ref x,.ref ak,.ref al,.ref ar] /\ H x=some (.ins CJ dx []) /\ H al=some (.lst (nL ls)) /\ H ar=some (.lst (nL rs)) /\
 ∀ sd la ra tk pc H',(∀ b o,b≠x->H b=some o->H' b=some o)->H sd=none->H la=none->H ra=none->H tk=none->H pc=none->JS CJ H' true x ak sd la ra tk pc ls rs 0 0 []->Q .non H'
def ZCt (CJ:Addr):Sp:=fun vs H Q _=>∃ (b:Bool) (jn ak sd ma ta tk pc:Addr) (ms ts:List Nat) (i j:Nat) (dn:List Nat),vs=[.ref jn,.int (sv b)] /\ JS CJ H b jn ak sd ma ta tk pc ms ts i j dn /\ Q (.bl (decide (i < ms.length))) H
def ZD6 (CJ:Addr):Sp:=fun vs H Q _=>∃ (b:Bool) (jn ak sd ma ta tk pc:Addr) (ms ts:List Nat) (i j:Nat) (dn:List Nat) (x:Nat),vs=[.ref jn,.int (sv b)] /\ JS CJ H b jn ak sd ma ta tk pc ms ts i j dn /\ ms[i]?=some x /\ Q (.int x) H
def ZCs (CJ:Addr):Sp:=fun vs H Q _=>∃ (b:Bool) (jn ak sd ma ta tk pc:Addr) (ms ts:List Nat) (i j:Nat) (dn:List Nat) (m:Nat),vs=[.ref jn,.int (sv b),.int m] /\ JS CJ H b jn ak sd ma ta tk pc ms ts i j dn /\ i+m <= ms.length /\ dn.length+ms.length <= 1000 /\
 ∀ H',Fr [tk,pc] H H'->JS CJ H' b jn ak sd ma ta tk pc ms ts (i+m) j (dn++(ms.drop i).take m)->Q .non H'
def ZC2 (CJ:Addr):Sp:=fun vs H Q _=>∃ (b:Bool) (jn ak sd ma ta tk pc:Addr) (ms ts:List Nat) (i j:Nat) (dn:List Nat),vs=[.ref jn,.int (sv b)] /\ JS CJ H b jn ak sd ma ta tk pc ms ts i j dn /\ i <= ms.length /\ dn.length+ms.length <= 1000 /\
 ∀ H',Fr [tk,pc] H H'->JS CJ H' b jn ak sd ma ta tk pc ms ts ms.length j (dn++ms.drop i)->Q .non H'
theorem SitL.apart {CA CR:Addr} {H H':Hp} {ks:List Int} {xs:RowC} {a rl ru tl g lg:Addr} {pr:List (Nat×Nat)} {S:List Addr} (h:SitL CA CR H ks xs a rl ru tl g lg pr) (e:Fr S H H') (hS:∀ b∈S,∃ l,H b=some (.lst l)) (n:rl∉S /\ lg∉S /\ tl∉S):SitL CA CR H' ks xs a rl ru tl g lg pr:=by
 have k:∀ {b:Addr} {o:HO},H b=some o->(∀ l,o≠.lst l)->H' b=some o:=fun {b o} hb z=>e _ _ (fun m=>by obtain ⟨l,hl⟩:=hS b m;rw [hl] at hb;exact z _ (Option.some.inj hb).symm) hb
 have ki:∀ {b C:Addr} {fl:List (Str×V)},Ins H b C fl->Ins H' b C fl:=fun hi=>let ⟨dx,fs,h1,h2,h3⟩:=hi.ex;⟨dx,fs,k h1 (fun _ z=>by cases z),h2,h3⟩
 obtain ⟨ws,h4,h5⟩:=h.hlg
 obtain ⟨us,h6,h7⟩:=h.htl
 have hrow:∀ (i:Nat) kk,ks[i]?=some kk->∃ r,xs.v[i]?=some (V.ref r) /\ H' r=some (.tup [.int kk,.int i]):=fun i kk hk=>by
  obtain ⟨r,a1,a2⟩:=h.row i kk hk
  exact ⟨r,a1,k a2 (fun _ z=>by cases z)⟩
 have hclo:=h.clo.mono (H':=H') (fun b o hb=>k hb (fun _ z=>by cases z))
 have hl:=h5.keep (H':=H') (fun _ _ z=>k z (fun _ y=>by cases y))
 have ht:=h7.keep (H':=H') (fun _ _ z=>k z (fun _ y=>by cases y))
 exact ⟨ki h.ha,e _ _ n.1 h.hrl,ki h.hru,hclo,h.len,hrow,⟨ws,e _ _ n.2.1 h4,hl⟩,⟨us,e _ _ n.2.2 h6,ht⟩,h.ne⟩
structure NX (a rl lg tl jn sd ma ta tk pc:Addr):Prop where
 n1:jn∉[a,lg,tl] /\ sd∉[a,lg,tl] /\ ma∉[a,lg,tl] /\ ta∉[a,lg,tl] /\ tk∉[a,lg,tl] /\ pc∉[a,lg,tl]
 n2:rl∉[tk,pc] /\ lg∉[tk,pc] /\ tl∉[tk,pc]
theorem NX.swap {a rl lg tl jn sd ma ta tk pc:Addr} (h:NX a rl lg tl jn sd ma ta tk pc):NX a rl lg tl jn sd ta ma tk pc:=⟨⟨h.n1.1,h.n1.2.1,h.n1.2.2.2.1,h.n1.2.2.1,h.n1.2.2.2.2⟩,h.n2⟩
theorem fr_sub {S S':List Addr} {H H':Hp} (h:Fr S H H') (k:∀ b∈S,b∈S'):Fr S' H H':=fun b o n hb=>h b o (fun m=>n (k b m)) hb
theorem fr5a {a lg tl tk pc:Addr} {H H':Hp} (h:Fr [a,lg,tl] H H'):Fr [a,lg,tl,tk,pc] H H':=fr_sub h fun b hb=>by
 rcases yAE.mp hb with z | z
 .rw [z];exact yAF
 rcases yAE.mp z with z | z
 .rw [z];exact yAC _ yAF
 .rw [yAM.mp z];exact yAC _ (yAC _ yAF)
theorem fr5b {a lg tl tk pc:Addr} {H H':Hp} (h:Fr [tk,pc] H H'):Fr [a,lg,tl,tk,pc] H H'  :=fr_sub h fun b hb=>yAC _ (yAC _ (yAC _ hb))
section
variable {CA CR CJ:Addr} {H H':Hp} {b:Bool} {ks:List Int} {xs:RowC} {jn a rl ru tl g lg sd ma ta tk pc:Addr} {ms ts:List Nat} {i j:Nat} {dn:List Nat} {pr:List (Nat×Nat)}
theorem JS.lsts (h:JS CJ H b jn a sd ma ta tk pc ms ts i j dn):∀ c∈[tk,pc],∃ l,H c=some (.lst l):=fun c hc=>by
 rcases yAE.mp hc with z | z
 .rw [z];exact ⟨_,h.htk⟩
 .rw [yAM.mp z];exact ⟨_,h.hpc⟩
end
def ZFx (CA CR CJ:Addr):Sp:=fun vs H Q _=>∃ (ks:List Int) (xs:RowC) (a rl ru tl g lg jn sd la ra tk pc:Addr) (pr:List (Nat×Nat)) (ls rs dn:List Nat) (i j x y:Nat),vs=[.ref jn] /\ SitL CA CR H ks xs a rl ru tl g lg pr /\ JS CJ H true jn a sd la ra tk pc ls rs i j dn /\ NX a rl lg tl jn sd la ra tk pc /\ ls[i]?=some x /\ rs[j]?=some y /\ x≠y /\ x < ks.length /\ y < ks.length /\ pr.length <= 70000 /\ dn.length+ls.length <= 1000 /\ dn.length+rs.length <= 1000 /\
 ∀ H',Fr [a,lg,tl,tk,pc] H H'->SitL CA CR H' ks xs a rl ru tl g lg (pr++[(max x y,min x y)])->(lx ks x y->JS CJ H' true jn a sd la ra tk pc ls rs (i+1) j (dn++[x]))->(¬ lx ks x y->JS CJ H' true jn a sd la ra tk pc ls rs i (j+1) (dn++[y]))->Q (.int (sv (decide (lx ks x y)))) H'
def ZD1 (CA CR CJ:Addr):Sp:=fun vs H Q _=>∃ (ks:List Int) (xs:RowC) (a rl ru tl g lg jn sd ma ta tk pc:Addr) (b:Bool) (pr:List (Nat×Nat)) (ms ts dn:List Nat) (i j y z:Nat),vs=[.ref jn,.int (sv b)] /\ SitL CA CR H ks xs a rl ru tl g lg pr /\ JS CJ H b jn a sd ma ta tk pc ms ts i j dn /\ NX a rl lg tl jn sd ma ta tk pc /\ ts[j]?=some y /\ ms.length <= 500 /\ (∀ x∈ms,x < ks.length /\ x≠y) /\ y < ks.length /\ pr.length <= 70000 /\ dn.length+ms.length+ts.length <= 1000 /\ i <= z /\ z <= ms.length /\ (∀ k u,i <= k->ms[k]?=some u->(lx ks u y↔k < z)) /\
 ∀ H' G,Fr [a,lg,tl,tk,pc] H H'->Gal z ms.length i i i G->SitL CA CR H' ks xs a rl ru tl g lg (pr++G.map (ask1 ms y))->(z < ms.length->JS CJ H' b jn a sd ma ta tk pc ms ts z (j+1) (dn++(ms.drop i).take (z-i)++[y]))->(z=ms.length->JS CJ H' b jn a sd ma ta tk pc ms ts z j (dn++(ms.drop i).take (z-i)))->Q .non H'
def ZD3 (CA CR:Addr):Sp:=fun vs H Q _=>∃ (ks:List Int) (xs:RowC) (a rl ru tl g lg al ar:Addr) (pr:List (Nat×Nat)) (ls rs:List Nat),vs=[.ref a,.ref al,.ref ar] /\ SitL CA CR H ks xs a rl ru tl g lg pr /\ H al=some (.lst (nL ls)) /\ H ar=some (.lst (nL rs)) /\ ls.length <= 250 /\ rs.length <= 250 /\ (∀ x∈ls,x < ks.length) /\ (∀ x∈rs,x < ks.length) /\ ls.Pairwise (lx ks) /\ rs.Pairwise (lx ks) /\ (∀ x∈ls,∀ y∈rs,x≠y) /\ pr.length <= 60000 /\
 ∀ l H' ps L,Fr [a,lg,tl] H H'->H l=none->H' l=some (.lst (nL ps))->JT ks ls rs 0 0 0 true ps L->SitL CA CR H' ks xs a rl ru tl g lg (pr++L)->Q (.ref l) H'
theorem seg_cons {os:List Nat} {i x z:Nat} (h:os[i]?=some x) (hz:i+1 <= z):(os.drop i).take (z-i)=x::(os.drop (i+1)).take (z-(i+1)):=by
 rw [ZCS h,show z-i=z-(i+1)+1 by omega,List.take_succ_cons]
theorem ZDw {os:List Nat} {i x:Nat} (h:os[i]?=some x):(os.drop i).take 1=[x]:=by
 rw [ZCS h];rfl
def JInv (C_Asker C_AskedRule C_Join:Addr) (ks:List Int) (xs:RowC) (a rl ru tl g lg al ar jn sd la ra tk pc:Addr) (pr:List (Nat×Nat)) (ls rs:List Nat) (H2:Hp) (mm':Nat) (σ:St) (H':Hp):Prop:=∃ (i j w:Nat) (s:Bool) (v6:Option V) (dn:List Nat) (as:List (Nat×Nat)),mm'=(ls.length-i)+(rs.length-j) /\ σ=[some (.ref a),some (.ref al),some (.ref ar),some (.ref jn),some (.int w),some (.int (sv s)),v6] /\ i <= ls.length /\ j <= rs.length /\ w <= 3 /\ dn.length=i+j /\ as.length <= 20 * (i+j) /\ Fr [a,lg,tl,tk,pc] H2 H' /\ SitL C_Asker C_AskedRule H' ks xs a rl ru tl g lg (pr++as) /\ JS C_Join H' true jn a sd la ra tk pc ls rs i j dn /\ ∀ ps L,JT ks ls rs i j w s ps L->JT ks ls rs 0 0 0 true (dn++ps) (as++L)
theorem JInv.of {C_Asker C_AskedRule C_Join:Addr} {ks:List Int} {xs:RowC} {a rl ru tl g lg al ar jn sd la ra tk pc:Addr} {pr:List (Nat×Nat)} {ls rs:List Nat} {H2:Hp} {H':Hp} {i j w:Nat} {s:Bool} {v6:Option V} {dn:List Nat} {as:List (Nat×Nat)} (h1:i <= ls.length) (h2:j <= rs.length) (h3:w <= 3) (h4:dn.length=i+j) (h5:as.length <= 20 * (i+j)) (h6:Fr [a,lg,tl,tk,pc] H2 H') (h7:SitL C_Asker C_AskedRule H' ks xs a rl ru tl g lg (pr++as)) (h8:JS C_Join H' true jn a sd la ra tk pc ls rs i j dn) (h9:∀ ps L,JT ks ls rs i j w s ps L->JT ks ls rs 0 0 0 true (dn++ps) (as++L)):JInv C_Asker C_AskedRule C_Join ks xs a rl ru tl g lg al ar jn sd la ra tk pc pr ls rs H2 ((ls.length-i)+(rs.length-j)) [some (.ref a),some (.ref al),some (.ref ar),some (.ref jn),some (.int w),some (.int (sv s)),v6] H':=⟨i,j,w,s,v6,dn,as,rfl,rfl,h1,h2,h3,h4,h5,h6,h7,h8,h9⟩
theorem JInv.fin {C_Asker C_AskedRule C_Join:Addr} {ks:List Int} {xs:RowC} {a rl ru tl g lg al ar jn sd la ra tk pc:Addr} {pr:List (Nat×Nat)} {ls rs:List Nat} {H2:Hp} {i j:Nat} {b:Bool} {ma ta:Addr} {ms ts:List Nat} {mi tj:Nat} {x6:Option V} {w':Nat} {H4:Hp} {dn':List Nat} {as':List (Nat×Nat)} (hb:(b=true /\ ma=la /\ ta=ra /\ ms=ls /\ ts=rs)∨(b=false /\ ma=ra /\ ta=la /\ ms=rs /\ ts=ls)) (h1:mi <= ms.length) (h2:tj <= ts.length) (h3:w' <= 3) (h4:i+j < mi+tj) (h5:dn'.length=mi+tj) (h6:as'.length <= 20 * (mi+tj)) (h7:Fr [a,lg,tl,tk,pc] H2 H4) (h8:SitL C_Asker C_AskedRule H4 ks xs a rl ru tl g lg (pr++as')) (h9:JS C_Join H4 b jn a sd ma ta tk pc ms ts mi tj dn') (h10:∀ ps L,JT ks ms ts mi tj w' true ps L->JT ks ms ts 0 0 0 b (dn'++ps) (as'++L)) (hi:i <= ls.length) (hj:j <= rs.length):∃ m',m' < ls.length-i+(rs.length-j) /\ JInv C_Asker C_AskedRule C_Join ks xs a rl ru tl g lg al ar jn sd la ra tk pc pr ls rs H2 m' [some (V.ref a),some (.ref al),some (.ref ar),some (.ref jn),some (.int w'),some (.int (sv b)),x6] H4:=by
 rcases hb with ⟨rfl,rfl,rfl,rfl,rfl⟩ | ⟨rfl,rfl,rfl,rfl,rfl⟩
 .exact ⟨_,by omega,JInv.of h1 h2 h3 h5 h6 h7 h8 h9 h10⟩
 .exact ⟨_,by omega,JInv.of (s:=false) h2 h1 h3 (by omega) (by omega) h7 h8 h9.swap fun ps L h=>JT.swap (h10 ps L (JT.swap (s:=true) h))⟩
theorem cut_var {P:TS} {D:Ends} {x y:Option V} {H:Hp} {o1 o2:Int} {c:Prop} [Decidable c] (h:∀ o:Int,(c /\ o=o1)∨(¬ c /\ o=o2)->Cut P D [x,y,some (.int o)] H):if c then Cut P D [x,y,some (.int o1)] H else Cut P D [x,y,some (.int o2)] H:=by
 split
 .rename_i h1;exact h o1 (.inl ⟨h1,rfl⟩)
 .rename_i h1;exact h o2 (.inr ⟨h1,rfl⟩)
theorem onceP (P:Prop) {M G:Prop} (h:(P->M)->G) (t:P->M):G:=h t
abbrev fPl (a:Addr) (ls s e r:Int) (fs od gr:Addr):List (Str×V):=[("grades",.ref gr),("orders",.ref od),("firsts",.ref fs),("reached",.int r),("end",.int e),("start",.int s),("least",.int ls),("asker",.ref a)]
theorem fPl_reached {a fs od gr:Addr} {ls s e r r':Int}:∀ f,(putF "reached" (.int r') (fPl a ls s e r fs od gr)).lookup f=(fPl a ls s e r' fs od gr).lookup f:=fun f=>by
 rw [ZAj]
 by_cases h:f=("reached":Str)
 .subst h
  rw [if_pos rfl]
  exact (show List.lookup _ (fPl a ls s e r' fs od gr)=some (.int r') by walk_at "lk").symm
 .simp only [lkc,h,if_false]
def Ch (ks:List Int):Nat->List (Nat×List Nat)->Nat->Prop
 | x,[],y=>x=y
 | x,(f,o)::r,y=>f=x /\ ∃ m,x < m /\ OrdN ks x m o /\ Ch ks m r y
theorem Ch.app {ks:List Int}:∀ {x y:Nat} {A B:List (Nat×List Nat)},Ch ks x (A++B) y↔∃ m,Ch ks x A m /\ Ch ks m B y
 | x,y,[],B=>⟨fun h=>⟨x,rfl,h⟩,fun ⟨m,h1,h2⟩=>by have e:x=m:=h1;rw [e];exact h2⟩
 | x,y,(f,o)::r,B=>by
  constructor
  .rintro ⟨h1,m,h2,h3,h4⟩
   obtain ⟨m',h5,h6⟩:=Ch.app.mp h4
   exact ⟨m',⟨h1,m,h2,h3,h5⟩,h6⟩
  .rintro ⟨m',⟨h1,m,h2,h3,h5⟩,h6⟩
   exact ⟨h1,m,h2,h3,Ch.app.mpr ⟨m',h5,h6⟩⟩
theorem Ch.le {ks:List Int}:∀ {x y:Nat} {ps:List (Nat×List Nat)},Ch ks x ps y->x+ps.length <= y
 | x,y,[],h=>by have e:x=y:=h;rw [e];exact yAA _
 | x,y,(f,o)::r,⟨h1,m,h2,h3,h4⟩=>by have:=Ch.le h4;rw [yAG];omega
def flt (ps:List (Nat×List Nat)):List Nat:=(ps.map Prod.snd).flatten
theorem ZEK (A B:List (Nat×List Nat)):flt (A++B)=flt A++flt B:=by unfold flt;rw [yAR,List.flatten_append]
theorem Ch.flen {ks:List Int}:∀ {x y:Nat} {ps:List (Nat×List Nat)},Ch ks x ps y->(flt ps).length=y-x
 | x,y,[],h=>by have e:x=y:=h;rw [e];show 0=_;omega
 | x,y,(f,o)::r,⟨h1,m,h2,h3,h4⟩=>by
  have h5:=Ch.flen h4
  have h6:=Ch.le h4
  show (o++flt r).length=_
  rw [yAD,h3.len,h5]
  omega
def bB:List (Nat×List Nat)->Nat->Nat
 | [],r=>r
 | p::_,_=>p.1
theorem Ch.bey {ks:List Int} {x y:Nat} {ps:List (Nat×List Nat)} (h:Ch ks x ps y):bB ps y=x:=by
 cases ps with
 | nil=>exact h.symm
 | cons p r=>exact h.1
theorem ordN_of {ks:List Int} {x y:Nat} {o:List Nat} (h1:o.Pairwise (lx ks)) (h2:∀ u,u∈o↔x <= u /\ u < y):OrdN ks x y o:=by
 refine ⟨?_,h2,h1⟩
 have n1:o.Nodup:=h1.imp fun {a b} h e=>by subst e;exact ZEn h h
 have hp:o.Perm (List.range' x (y-x)):=(List.perm_ext_iff_of_nodup n1 List.nodup_range').mpr fun u=>by rw [h2,yCR];omega
 rw [hp.length_eq,yCD]
theorem OrdN.join {ks:List Int} {x m y:Nat} {o1 o2 o:List Nat} {L:List (Nat×Nat)} (h1:OrdN ks x m o1) (h2:OrdN ks m y o2) (a:x < m) (b:m < y) (h:JT ks o1 o2 0 0 0 true o L):OrdN ks x y o :=
 ordN_of (h.sorted h1.srt h2.srt fun u hu v hv=>by have:=(h1.mem u).mp hu;have:=(h2.mem v).mp hv;omega) fun u=>by
  rw [h.mem,List.drop_zero,List.drop_zero,h1.mem,h2.mem]
  omega
theorem Ch.two {ks:List Int} {x y v1 v2:Nat} {o1 o2:List Nat} {A B:List (Nat×List Nat)} (h:Ch ks x (A++(v1,o1)::(v2,o2)::B) y):∃ v3,Ch ks x A v1 /\ v1 < v2 /\ v2 < v3 /\ OrdN ks v1 v2 o1 /\ OrdN ks v2 v3 o2 /\ Ch ks v3 B y /\ bB B y=v3:=by
 obtain ⟨m,h1,h2,m2,h3,h4,h5,m3,h6,h7,h8⟩:=Ch.app.mp h
 subst h2 h5
 exact ⟨m3,h1,h3,h6,h4,h7,h8,h8.bey⟩
theorem Ch.join {ks:List Int} {x y v1 v2:Nat} {o1 o2 o:List Nat} {A B:List (Nat×List Nat)} {L:List (Nat×Nat)} (h:Ch ks x (A++(v1,o1)::(v2,o2)::B) y) (hj:JT ks o1 o2 0 0 0 true o L):Ch ks x (A++(v1,o)::B) y:=by
 obtain ⟨v3,h1,h2,h3,h4,h5,h6,_⟩:=h.two
 exact Ch.app.mpr ⟨v1,h1,rfl,v3,by omega,h4.join h5 h2 h3 hj,h6⟩
def dueB (gs:List Nat):Bool:=match gs.reverse with
 | g2::g1::_=>decide (g2 < g1)
 | _=>false
theorem dueB_two (G:List Nat) (g1 g2:Nat):dueB (G++[g1,g2])=decide (g2 < g1):=by unfold dueB;rw [List.reverse_append];rfl
theorem dueB_few {gs:List Nat} (h:gs.length <= 1):dueB gs=false:=by
 match gs,h with
 | [],_=>rfl
 | [g],_=>rfl
theorem ZDv {α:Type} {l:List α} (h:2 <= l.length):∃ A x y,l=A++[x,y]:=by
 refine ⟨l.take (l.length-2),l[l.length-2],l[l.length-1],?_⟩
 have e1:l.drop (l.length-2)=[l[l.length-2],l[l.length-1]]:=by
  rw [yBZ (by omega),show l.length-2+1=l.length-1 by omega,yBZ (by omega),show l.length-1+1=l.length by omega,List.drop_length]
 rw [<- e1,yBM]
structure PInv (ks:List Int) (s e r:Nat) (ps:List (Nat×List Nat)) (gs:List Nat):Prop where
 ch:Ch ks s ps r
 re:r <= e
 gl:gs.length=ps.length-1
 gb:∀ g∈gs,g <= 240
structure StJ (ks:List Int) (e:Nat) (ps:List (Nat×List Nat)) (gs:List Nat) (r v1 v2 v3:Nat) (L:List (Nat×Nat)) (ps':List (Nat×List Nat)) (gs':List Nat) (A:List (Nat×List Nat)) (o1 o2 o:List Nat) (B:List (Nat×List Nat)):Prop where
 e1:ps=A++(v1,o1)::(v2,o2)::B
 e2:ps'=A++(v1,o)::B
 e3:v3=bB B r
 jt:JT ks o1 o2 0 0 0 true o L
 e4:gs'=gs.eraseIdx A.length
 wh:(dueB gs=true /\ B.length=1)∨(dueB gs=false /\ r=e /\ B=[])
structure StL (ks:List Int) (ls s e:Nat) (ps:List (Nat×List Nat)) (gs:List Nat) (r v1 v2 v3:Nat) (L:List (Nat×Nat)) (ps':List (Nat×List Nat)) (gs':List Nat) (r':Nat) (f:Bool) (os:List Nat) (l:List (Nat×Nat)):Prop where
 e1:v1=r
 lt:r < e
 by':Beyond ks r e v2 f
 put:Put ks (ZCN r v2 f) v2 (min (r+ls) e) os l
 e2:L=asks r (min (v2+1) e)++l
 e3:v3=max v2 (min (r+ls) e)
 e4:r'=v3
 e5:ps'=ps++[(r,os)]
 wh:dueB gs=false
 gr:(ps=[] /\ gs'=gs)∨∃ A p g,ps=A++[p] /\ gs'=gs++[g] /\ Gr.IsG ((e:Int)-s) (((p.1:Int)-s)+((r:Int)-s)) (((r:Int)-s)+((v3:Int)-s)) g /\ g <= 240
def Stp (ks:List Int) (ls s e:Nat) (ps:List (Nat×List Nat)) (gs:List Nat) (r:Nat) (k:Bool) (v1 v2 v3:Nat) (L:List (Nat×Nat)) (ps':List (Nat×List Nat)) (gs':List Nat) (r':Nat):Prop :=
 (k=true /\ r'=r /\ ∃ A o1 o2 o B,StJ ks e ps gs r v1 v2 v3 L ps' gs' A o1 o2 o B)∨(k=false /\ ∃ f os l,StL ks ls s e ps gs r v1 v2 v3 L ps' gs' r' f os l)
theorem Beyond.two {ks:List Int} {first stop j:Nat} {f:Bool} (h:Beyond ks first stop j f):first < j /\ j <= stop:=by rcases h with ⟨z1,z2,_⟩ | ⟨_,_,z1,z2,_⟩ <;> omega
theorem StL.ord {ks:List Int} {ls s e:Nat} {ps:List (Nat×List Nat)} {gs:List Nat} {r v1 v2 v3:Nat} {L:List (Nat×Nat)} {ps':List (Nat×List Nat)} {gs':List Nat} {r':Nat} {f:Bool} {os:List Nat} {l:List (Nat×Nat)} (h:StL ks ls s e ps gs r v1 v2 v3 L ps' gs' r' f os l):OrdN ks r v3 os /\ r < v3 /\ v3 <= e:=by
 have hb:=h.by'.two
 have:=h.lt
 have e3:=h.e3
 obtain ⟨o1,_,_⟩:=h.put.all (first:=r) (asks r (min (v2+1) e)) (by omega) h.by'.ord (fun i x y hx hy=>(h.by'.adj i x y hx hy).2)
 rw [<- e3] at o1
 exact ⟨o1,by omega,by omega⟩
theorem Stp.inv {ks:List Int} {ls s e:Nat} {ps:List (Nat×List Nat)} {gs:List Nat} {r:Nat} {k:Bool} {v1 v2 v3:Nat} {L:List (Nat×Nat)} {ps':List (Nat×List Nat)} {gs':List Nat} {r':Nat} (h:Stp ks ls s e ps gs r k v1 v2 v3 L ps' gs' r') (i:PInv ks s e r ps gs):PInv ks s e r' ps' gs':=by
 rcases h with ⟨_,rfl,A,o1,o2,o,B,j⟩ | ⟨_,f,os,l,j⟩
 .have e1:=j.e1
  subst e1
  have gl:=i.gl
  refine ⟨by rw [j.e2];exact i.ch.join j.jt,i.re,?_,fun g hg=>i.gb g ?_⟩
  .rw [j.e4,j.e2,List.length_eraseIdx_of_lt (by rw [gl];simp),gl]
   simp
  .rw [j.e4] at hg
   exact List.mem_of_mem_eraseIdx hg
 .obtain ⟨o1,o2,o3⟩:=j.ord
  have e4:=j.e4
  subst e4
  have gl:=i.gl
  have hc:Ch ks s ps' r':=by rw [j.e5];exact Ch.app.mpr ⟨r,i.ch,rfl,r',o2,o1,rfl⟩
  rcases j.gr with ⟨g1,g2⟩ | ⟨A,p,g,g1,g2,g3,g4⟩
  .refine ⟨hc,o3,?_,fun g hg=>i.gb g (by rw [<- g2];exact hg)⟩
   rw [g2,j.e5,gl,g1];rfl
  .refine ⟨hc,o3,?_,fun g' hg=>?_⟩
   .rw [g2,j.e5,yAD,yAD,gl,g1,yAD];simp
   .rw [g2] at hg
    rcases yAV.mp hg with z | z
    .exact i.gb _ z
    .rw [yAM.mp z];exact g4
theorem Stp.less {ks:List Int} {ls s e:Nat} {ps:List (Nat×List Nat)} {gs:List Nat} {r:Nat} {k:Bool} {v1 v2 v3:Nat} {L:List (Nat×Nat)} {ps':List (Nat×List Nat)} {gs':List Nat} {r':Nat} (h:Stp ks ls s e ps gs r k v1 v2 v3 L ps' gs' r'):2 * (e-r')+ps'.length < 2 * (e-r)+ps.length:=by
 rcases h with ⟨_,rfl,A,o1,o2,o,B,j⟩ | ⟨_,f,os,l,j⟩
 .rw [j.e1,j.e2];simp
 .obtain ⟨o1,o2,o3⟩:=j.ord
  rw [j.e5,j.e4,yAD,yBD]
  omega
theorem Stp.cost {ks:List Int} {ls s e:Nat} {ps:List (Nat×List Nat)} {gs:List Nat} {r:Nat} {k:Bool} {v1 v2 v3:Nat} {L:List (Nat×Nat)} {ps':List (Nat×List Nat)} {gs':List Nat} {r':Nat} (h:Stp ks ls s e ps gs r k v1 v2 v3 L ps' gs' r') (i:PInv ks s e r ps gs) (hes:e-s <= 63) (hse:s <= r):L.length+126 * ps'.length+191 * (r-s) <= 126 * ps.length+191 * (r' - s):=by
 rcases h with ⟨_,rfl,A,o1,o2,o,B,j⟩ | ⟨_,f,os,l,j⟩
 .have e1:=j.e1
  subst e1
  obtain ⟨v3',h1,h2,h3,h4,h5,h6,_⟩:=i.ch.two
  have l1:=j.jt.len (by decide) (yAI _) (yAI _)
  have:=h4.len
  have:=h5.len
  have:=h6.le
  have:=h1.le
  have:=i.re
  rw [j.e2]
  simp only [yAD,yAG]
  omega
 .obtain ⟨o1,o2,o3⟩:=j.ord
  have hb:=j.by'.two
  have f1:=j.put.few
  rw [ZDT] at f1
  have e3:=j.e3
  have m1:(min (r+ls) e-v2) * (v2-r+(min (r+ls) e-v2)) <= (v3-v2) * 63:=Nat.mul_le_mul (by omega) (by omega)
  rw [j.e5,j.e4,j.e2,yAD,yAD,yBD,ZEQ]
  omega
def OrdAt (H:Hp):List Addr->List (Nat×List Nat)->Prop
 | [],[]=>True
 | b::bs,p::ps=>H b=some (.lst (nL p.2)) /\ OrdAt H bs ps
 | _,_=>False
theorem OrdAt.len {H:Hp}:∀ {oa:List Addr} {ps:List (Nat×List Nat)},OrdAt H oa ps->oa.length=ps.length
 | [],[],_=>rfl
 | b::bs,p::ps,h=>by rw [yAG,yAG,OrdAt.len h.2]
 | [],p::ps,h=>h.elim
 | b::bs,[],h=>h.elim
theorem OrdAt.keep {H H':Hp}:∀ {oa:List Addr} {ps:List (Nat×List Nat)},OrdAt H oa ps->(∀ b∈oa,∀ o,H b=some o->H' b=some o)->OrdAt H' oa ps
 | [],[],_,_=>trivial
 | b::bs,p::ps,h,e=>⟨e b yAF _ h.1,OrdAt.keep h.2 fun c hc=>e c (yAC _ hc)⟩
 | [],p::ps,h,_=>h.elim
 | b::bs,[],h,_=>h.elim
theorem OrdAt.split {H:Hp}:∀ {P:List (Nat×List Nat)} {oa:List Addr} {Q:List (Nat×List Nat)},OrdAt H oa (P++Q)->∃ A B,oa=A++B /\ A.length=P.length /\ OrdAt H A P /\ OrdAt H B Q
 | [],oa,Q,h=>⟨[],oa,rfl,rfl,trivial,h⟩
 | p::P,[],Q,h=>h.elim
 | p::P,b::bs,Q,h=>by
  obtain ⟨A,B,e1,e2,e3,e4⟩:=OrdAt.split (P:=P) h.2
  exact ⟨b::A,B,by rw [e1];rfl,by rw [yAG,yAG,e2],⟨h.1,e3⟩,e4⟩
theorem OrdAt.app {H:Hp}:∀ {P:List (Nat×List Nat)} {A B:List Addr} {Q:List (Nat×List Nat)},OrdAt H A P->OrdAt H B Q->OrdAt H (A++B) (P++Q)
 | [],[],B,Q,_,h=>h
 | p::P,[],B,Q,h,_=>h.elim
 | [],b::bs,B,Q,h,_=>h.elim
 | p::P,b::bs,B,Q,h,h'=>⟨h.1,OrdAt.app h.2 h'⟩
theorem OrdAt.get {H:Hp}:∀ {ps:List (Nat×List Nat)} {oa:List Addr} {i:Nat} {b:Addr},OrdAt H oa ps->oa[i]?=some b->∃ p,ps[i]?=some p /\ H b=some (.lst (nL p.2))
 | [],[],i,b,_,e=>by simp at e
 | p::P,[],i,b,h,_=>h.elim
 | [],c::bs,i,b,h,_=>h.elim
 | p::P,c::bs,0,b,h,e=>by cases e;exact ⟨p,rfl,h.1⟩
 | p::P,c::bs,i+1,b,h,e=>by
  obtain ⟨p',a1,a2⟩:=OrdAt.get (ps:=P) (oa:=bs) (i:=i) h.2 (by simpa using e)
  exact ⟨p',by simpa using a1,a2⟩
theorem OrdAt.two {H:Hp} {oa:List Addr} {A B:List (Nat×List Nat)} {p1 p2:Nat×List Nat} (h:OrdAt H oa (A++p1::p2::B)):∃ OA b1 b2 OB,oa=OA++b1::b2::OB /\ OA.length=A.length /\ OrdAt H OA A /\ H b1=some (.lst (nL p1.2)) /\ H b2=some (.lst (nL p2.2)) /\ OrdAt H OB B:=by
 obtain ⟨OA,R,e1,e2,e3,e4⟩:=h.split
 match R,e4 with
 | b1::b2::OB,e4=>exact ⟨OA,b1,b2,OB,e1,e2,e3,e4.1,e4.2.1,e4.2.2⟩
 | [b1],e4=>exact e4.2.elim
 | [],e4=>exact e4.elim
theorem atI_refs {oa:List Addr} {m:Nat} {b:Addr} (h:oa[m]?=some b):atI (oa.map V.ref) (m:Int)=some (.ref b):=ZAf (by omega) (by rw [Int.toNat_natCast,yAW,h];rfl)
theorem ZEG {α:Type} (X:List α) (x:α) (Y:List α):(X++x::Y)[X.length]?=some x:=by rw [yAY (yAA _),yBF];rfl
theorem ZCx {α:Type} (X:List α) (x y:α) (Y:List α):(X++x::y::Y)[X.length+1]?=some y:=by rw [yAY (by omega),Nat.add_sub_cancel_left];rfl
theorem set_mid {α:Type} (X:List α) (x y:α) (Y:List α):(X++x::Y).set X.length y=X++y::Y:=by rw [List.set_append_right _ _ (yAA _),yBF];rfl
theorem er_mid2 {α:Type} (X:List α) (x y:α) (Y:List α):(X++x::y::Y).eraseIdx (X.length+1)=X++x::Y:=by rw [List.eraseIdx_append_of_length_le (by omega),Nat.add_sub_cancel_left];rfl
theorem atI_m2 {l:List V} {x y:V}:atI (l++[x,y]) (-2)=some x:=by
 unfold atI ixN
 rw [yAD,show ([x,y]:List V).length=2 from rfl,if_neg (by decide),if_pos (by omega),show ((-2:Int)+((l.length+2:Nat):Int)).toNat=l.length by omega]
 exact ZEG l x [y]
theorem atI_m1 {l:List V} {y:V}:atI (l++[y]) (-1)=some y:=by
 unfold atI ixN
 rw [yAD,show ([y]:List V).length=1 from rfl,if_neg (by decide),if_pos (by omega),show ((-1:Int)+((l.length+1:Nat):Int)).toNat=l.length by omega]
 exact ZEG l y []
structure PileAt (CP:Addr) (H:Hp) (x a fs od gr:Addr) (ls s e r:Nat) (oa:List Addr) (ps:List (Nat×List Nat)) (gs:List Nat):Prop where
 hp:Ins H x CP (fPl a ls s e r fs od gr)
 hfs:H fs=some (.lst (nL (ps.map Prod.fst)))
 hod:H od=some (.lst (oa.map V.ref))
 hgr:H gr=some (.lst (nL gs))
 oat:OrdAt H oa ps
 ne:fs≠od /\ fs≠gr /\ od≠gr
 nb:∀ b∈oa,b∉[fs,od,gr]
structure PXl (a rl ru lg tl x fs od gr:Addr) (oa:List Addr):Prop where
 n1:x∉[a,lg,tl] /\ fs∉[a,lg,tl] /\ od∉[a,lg,tl] /\ gr∉[a,lg,tl]
 n2:∀ b∈oa,b∉[a,lg,tl]
 n3:rl∉[fs,od,gr]
 nr:ru≠x
section
variable {CP:Addr} {H H':Hp} {x a fs od gr:Addr} {ls s e r:Nat} {oa:List Addr} {ps:List (Nat×List Nat)} {gs:List Nat}
theorem PileAt.fr {S:List Addr} (h:PileAt CP H x a fs od gr ls s e r oa ps gs) (f:Fr S H H') (n:x∉S /\ fs∉S /\ od∉S /\ gr∉S) (n2:∀ b∈oa,b∉S):PileAt CP H' x a fs od gr ls s e r oa ps gs :=
 ⟨ZDr f n.1 h.hp,f _ _ n.2.1 h.hfs,f _ _ n.2.2.1 h.hod,f _ _ n.2.2.2 h.hgr,h.oat.keep fun b hb o=>f b o (n2 b hb),h.ne,h.nb⟩
theorem PileAt.mono (h:PileAt CP H x a fs od gr ls s e r oa ps gs) (f:Same H H'):PileAt CP H' x a fs od gr ls s e r oa ps gs:=h.fr (S:=[]) f.fr ⟨yBL,yBL,yBL,yBL⟩ fun _ _=>yBL
theorem PileAt.lsts (h:PileAt CP H x a fs od gr ls s e r oa ps gs):∀ c∈[fs,od,gr],∃ l,H c=some (.lst l):=fun c hc=>by
 rcases yAE.mp hc with z | z
 .rw [z];exact ⟨_,h.hfs⟩
 rcases yAE.mp z with z | z
 .rw [z];exact ⟨_,h.hod⟩
 .rw [yAM.mp z];exact ⟨_,h.hgr⟩
theorem PileAt.xl (h:PileAt CP H x a fs od gr ls s e r oa ps gs):x∉[fs,od,gr]:=fun z=>by
 obtain ⟨l,hl⟩:=h.lsts x z
 exact h.hp.ne hl (fun _ _ _ z=>by cases z) rfl
end
theorem SitL.butN {CA CR C d x:Addr} {f:List (Str×V)} {H H':Hp} {ks:List Int} {xs:RowC} {a rl ru tl g lg:Addr} {pr:List (Nat×Nat)} (h:SitL CA CR H ks xs a rl ru tl g lg pr) (hx:H x=some (.ins C d f)) (nx:x∉[a,lg,tl]) (nru:ru≠x) (e:∀ b o,b≠x->H b=some o->H' b=some o):SitL CA CR H' ks xs a rl ru tl g lg pr:=by
 have k:∀ {b:Addr} {o:HO},H b=some o->(∀ C d f,o≠.ins C d f)->H' b=some o:=fun {b o} hb z=>e b o (fun m=>by rw [m,hx] at hb;exact z _ _ _ (Option.some.inj hb).symm) hb
 have ki:∀ {b C:Addr} {fl:List (Str×V)},b≠x->Ins H b C fl->Ins H' b C fl:=fun n hi=>let ⟨dx,fs,h1,h2,h3⟩:=hi.ex;⟨dx,fs,e _ _ n h1,h2,h3⟩
 have na:a≠x:=fun z=>nx (by rw [<- z];exact yAF)
 obtain ⟨ws,h4,h5⟩:=h.hlg
 obtain ⟨us,h6,h7⟩:=h.htl
 exact ⟨ki na h.ha,k h.hrl (fun _ _ _ z=>by cases z),ki nru h.hru,h.clo.mono (fun b o hb=>k hb (fun _ _ _ z=>by cases z)),h.len,fun i kk hk=>let ⟨r,a1,a2⟩:=h.row i kk hk;⟨r,a1,k a2 (fun _ _ _ z=>by cases z)⟩,⟨ws,k h4 (fun _ _ _ z=>by cases z),h5.keep fun _ _ z=>k z (fun _ _ _ y=>by cases y)⟩,⟨us,k h6 (fun _ _ _ z=>by cases z),h7.keep fun _ _ z=>k z (fun _ _ _ y=>by cases y)⟩,h.ne⟩
def ZA3 (CA CP:Addr):Sp:=fun vs H Q _=>∃ (x dx a:Addr) (ls s e:Nat) (pz:V),vs=[.ref x,.ref a,.int ls,pz] /\ H x=some (.ins CP dx []) /\ ((∃ pt,pz=.ref pt /\ H pt=some (.tup [.int s,.int e]))∨(pz=.non /\ s=0 /\ a≠x /\ ∃ rl ru m n tl xs,Ins H a CA (fA rl ru m n tl) /\ H rl=some (.lst xs) /\ xs.length=e)) /\
 ∀ fs od gr H',(∀ b o,b≠x->H b=some o->H' b=some o)->H fs=none->H od=none->H gr=none->PileAt CP H' x a fs od gr ls s e s [] [] []->Q .non H'
def ZCV (CP:Addr):Sp:=fun vs H Q _=>∃ (x a fs od gr:Addr) (ls s e r:Nat) (oa:List Addr) (A:List (Nat×List Nat)) (p:Nat×List Nat) (B:List (Nat×List Nat)) (gs:List Nat),vs=[.ref x,.int (A.length:Nat)] /\ PileAt CP H x a fs od gr ls s e r oa (A++p::B) gs /\ Q (.int (bB B r:Nat)) H
def ZFz (CP:Addr):Sp:=fun vs H Q _=>∃ (x a fs od gr:Addr) (ls s e r:Nat) (oa:List Addr) (ps:List (Nat×List Nat)) (gs:List Nat),vs=[.ref x] /\ PileAt CP H x a fs od gr ls s e r oa ps gs /\ Q (.bl (dueB gs)) H
def ZEi (CP:Addr):Sp:=fun vs H Q _=>∃ (x a fs od gr:Addr) (ls s e r:Nat) (oa:List Addr) (A:List (Nat×List Nat)) (p:Nat×List Nat) (gs:List Nat) (m b:Nat),vs=[.ref x,.int m,.int b] /\ PileAt CP H x a fs od gr ls s e r oa (A++[p]) gs /\ s <= p.1 /\ p.1 < m /\ m < b /\ b <= e /\ e <= 63 /\ ∀ g:Nat,Gr.IsG ((e:Int)-s) (((p.1:Int)-s)+((m:Int)-s)) (((m:Int)-s)+((b:Int)-s)) g->g <= 240->Q (.int g) H
def kS (k:Bool):V:=if k then .str "join" else .str "lay"
def Left (CA CR CP:Addr) (H:Hp) (ks:List Int) (xs:RowC) (a rl ru tl g lg x fs od gr:Addr) (pr:List (Nat×Nat)) (ls s e:Nat) (oa:List Addr) (k:Bool) (v1 v2 v3:Nat) (L:List (Nat×Nat)) (oa':List Addr) (ps':List (Nat×List Nat)) (gs':List Nat) (r':Nat) (t:Addr) (H':Hp):Prop :=
 Fr [x,fs,od,gr,a,lg,tl] H H' /\ (∀ b∈oa',b∈oa∨H b=none) /\ H' t=some (.tup [kS k,.int v1,.int v2,.int v3]) /\ PileAt CP H' x a fs od gr ls s e r' oa' ps' gs' /\ PXl a rl ru lg tl x fs od gr oa' /\ SitL CA CR H' ks xs a rl ru tl g lg (pr++L)
def ZDV (CA CR CP:Addr):Sp:=fun vs H Q _=>∃ (ks:List Int) (xs:RowC) (a rl ru tl g lg x fs od gr:Addr) (pr:List (Nat×Nat)) (ls s e r:Nat) (oa:List Addr) (A:List (Nat×List Nat)) (v1 v2:Nat) (o1 o2:List Nat) (B:List (Nat×List Nat)) (gs:List Nat),vs=[.ref x,.int (A.length:Nat)] /\ SitL CA CR H ks xs a rl ru tl g lg pr /\ PileAt CP H x a fs od gr ls s e r oa (A++(v1,o1)::(v2,o2)::B) gs /\ PXl a rl ru lg tl x fs od gr oa /\ Ch ks s (A++(v1,o1)::(v2,o2)::B) r /\ A.length < gs.length /\ r <= ks.length /\ ks.length <= 63 /\ pr.length <= 13000 /\
 ∀ t H' o L oa',JT ks o1 o2 0 0 0 true o L->Left CA CR CP H ks xs a rl ru tl g lg x fs od gr pr ls s e oa true v1 v2 (bB B r) L oa' (A++(v1,o)::B) (gs.eraseIdx A.length) r t H'->Q (.ref t) H'
def ZFy (CA CR CP:Addr):Sp:=fun vs H Q _=>∃ (ks:List Int) (xs:RowC) (a rl ru tl g lg x fs od gr:Addr) (pr:List (Nat×Nat)) (ls s e r:Nat) (oa:List Addr) (ps:List (Nat×List Nat)) (gs:List Nat),vs=[.ref x] /\ SitL CA CR H ks xs a rl ru tl g lg pr /\ PileAt CP H x a fs od gr ls s e r oa ps gs /\ PXl a rl ru lg tl x fs od gr oa /\ PInv ks s e r ps gs /\ dueB gs=false /\ r < e /\ e <= ks.length /\ ks.length <= 63 /\ ls <= 500 /\ pr.length <= 13000 /\
 ∀ t H' v2 v3 L oa' ps' gs' f os l,StL ks ls s e ps gs r r v2 v3 L ps' gs' v3 f os l->Left CA CR CP H ks xs a rl ru tl g lg x fs od gr pr ls s e oa false r v2 v3 L oa' ps' gs' v3 t H'->Q (.ref t) H'
def ZFM (CA CR CP:Addr):Sp:=fun vs H Q _=>∃ (ks:List Int) (xs:RowC) (a rl ru tl g lg x fs od gr:Addr) (pr:List (Nat×Nat)) (ls s e r:Nat) (oa:List Addr) (ps:List (Nat×List Nat)) (gs:List Nat),vs=[.ref x] /\ SitL CA CR H ks xs a rl ru tl g lg pr /\ PileAt CP H x a fs od gr ls s e r oa ps gs /\ PXl a rl ru lg tl x fs od gr oa /\ PInv ks s e r ps gs /\ e <= ks.length /\ ks.length <= 63 /\ ls <= 500 /\ pr.length <= 13000 /\
 (dueB gs=false->r=e->ps.length <= 1->Q .non H) /\
 ∀ t H' k v1 v2 v3 L oa' ps' gs' r',Stp ks ls s e ps gs r k v1 v2 v3 L ps' gs' r'->Left CA CR CP H ks xs a rl ru tl g lg x fs od gr pr ls s e oa k v1 v2 v3 L oa' ps' gs' r' t H'->Q (.ref t) H'
def ZEh (CP:Addr):Sp:=fun vs H Q _=>∃ (x a fs od gr:Addr) (ls s e r:Nat) (oa:List Addr) (ps:List (Nat×List Nat)) (gs:List Nat),vs=[.ref x] /\ PileAt CP H x a fs od gr ls s e r oa ps gs /\ (flt ps).length <= 63 /\ r <= e /\ e <= 63 /\ ∀ l H',Same H H'->H l=none->H' l=some (.lst (nL (flt ps++List.range' r (e-r))))->Q (.ref l) H'
abbrev NL (gs:List Nat):List V:=(gs.map fun g:Nat=>(g:Int)).map V.int
theorem ZBo (gs:List Nat):(NL gs).length=gs.length:=by simp
theorem ZGE {p:List Nat} {i:Nat} (h:i < p.length):(NL p)[i]?=some (.int (Pap.at' p i)):=by
 rw [yAW,yAW,Pap.at_lt h];rfl
theorem ZE7 {p:List Nat} {i:Nat} {v:V} (h:(NL p)[i]?=some v):i < p.length /\ v=.int (Pap.at' p i):=by
 have hi:i < p.length:=by have:=(yAH.mp h).1;rwa [ZBo] at this
 rw [ZGE hi] at h
 exact ⟨hi,(Option.some.inj h).symm⟩
theorem NL_ix {p:List Nat} {i:Nat} {k:Int} (h:i < p.length) (e:k=i):atI (NL p) k=some (.int (Pap.at' p i)):=by
 subst e
 exact ZAf (by omega) (by rw [Int.toNat_natCast];exact ZGE h)
theorem rints_range (n:Nat):(ZDI 0 n).map V.int=NL (List.range n):=by
 unfold ZDI
 simp
def ZCU:Sp:=fun vs H Q _=>∃ n:Nat,vs=[.int n] /\ n <= 1000 /\ ∀ l H',Same H H'->H l=none->H' l=some (.lst (NL (List.range n)))->Q (.ref l) H'
def ZC6:Sp:=fun vs H Q _=>∃ i:Int,vs=[.int i] /\ Q (.bl true) H
def ZDW:Sp:=fun vs H Q _=>∃ (a:Addr) (p:List Nat),vs=[.ref a] /\ H a=some (.lst (NL p)) /\ Pap.IsP p /\ p.length <= 200 /\ ∀ H',Same H H'->Q (.bl true) H'
def ZCO:Sp:=fun vs H Q _=>∃ (a:Addr) (p:List Nat),vs=[.ref a,.int p.length] /\ H a=some (.lst (NL p)) /\ Pap.IsP p /\ p.length <= 200 /\ ∀ H',Same H H'->Q .non H'
def ZFP:Sp:=fun vs H Q _=>∃ (a:Addr) (p:List Nat),vs=[.ref a] /\ H a=some (.lst (NL p)) /\ Pap.IsP p /\ p.length <= 200 /\ ∀ l H',Same H H'->H l=none->H' l=some (.lst (NL (Pap.bk p)))->Q (.ref l) H'
theorem all_true (n:Nat):(List.replicate n true).all id=true:=by
 induction n with
 | zero=>rfl
 | succ n ih=>rw [List.replicate_succ,List.all_cons,ih];rfl
theorem eq_rep {ys:List V} {n:Nat} {v:V} (hl:ys.length=n) (h:∀ (j:Nat) y,ys[j]?=some y->y=v):ys=List.replicate n v:=by
 subst hl
 refine yCO fun j=>?_
 by_cases hj:j < ys.length
 .rw [yAJ hj,List.getElem?_replicate,if_pos hj,h j _ (yAJ hj)]
 .rw [yBI (by omega),yBI (by rw [yCF];omega)]
theorem cutV_tail (xs:List V):cutV xs (some 1) none=xs.drop 1:=by
 unfold cutV
 rw [HT.sIx_none,show (some (1:Int))=some ((1:Nat):Int) from rfl,HT.sIx_nat]
 cases xs with
 | nil=>rfl
 | cons x r=>
  rw [show min 1 (x::r).length=1 by rw [yAG];omega]
  exact yBP (by rw [yAU];exact yAA _)
structure Ans (H:Hp) (cs:List (Nat×Nat×Bool)) (ws:List V):Prop where
 len:ws.length=cs.length
 get:∀ (j p q:Nat) (b:Bool),cs[j]?=some (p,q,b)->∃ t,ws[j]?=some (V.ref t) /\ H t=some (.tup [.int p,.int q,.bl b])
theorem Ans.keep {H H':Hp} {cs:List (Nat×Nat×Bool)} {ws:List V} (h:Ans H cs ws) (e:Same H H'):Ans H' cs ws :=
 ⟨h.len,fun j p q b hj=>let ⟨t,a,c⟩:=h.get j p q b hj;⟨t,a,e _ _ c⟩⟩
theorem ZDi {K:W.Frag} {a:Addr} {xs:List V} {g:TG} {tt:TT} {te:TE} {Q:VK} {σ0:St} {H:Hp} (h:SqL K H a xs) (hz:xs.length <= 90000) (P:Nat->List V->St->Hp->Prop) (h0:P 0 [] σ0 H) (hl:∀ i ys σ H,i <= xs.length->P i ys σ H->SqL K H a xs /\ ys.length <= i)
  (hs:∀ i ys x σ H,i < xs.length->xs[i]?=some x->P i ys σ H->g x σ H fun σ2 H2=>tt σ2 H2 fun b H3=>if b=true then te σ2 H3 fun y H4=>Nxt P xs.length i (ys++[y]) σ2 H4 else Nxt P xs.length i ys σ2 H3)
  (hd:∀ ys σ H,P xs.length ys σ H->∀ p,H p=none->Q (.ref p) (upd H p (.lst ys))):ZFq K g tt te σ0 Q (.ref a) H:=⟨a,rfl,⟨xs,h⟩,comp_list P h0 hl (yBO (ZEw hz)) hs hd⟩
def agB (p:List Nat) (cs:List (Nat×Nat×Bool)):Bool:=cs.all fun c=>decide (Pap.at' (Pap.bk p) c.1 < Pap.at' (Pap.bk p) c.2.1) == c.2.2
abbrev kP2 (p q:Nat):List Key:=[Sum.inl (p:Int),Sum.inl (q:Int)]
def askB (cs:List (Nat×Nat×Bool)) (p q:Nat):Bool:=cs.any fun c=>decide (kP2 c.1 c.2.1=kP2 (max p q) (min p q))
def shB (p:List Nat) (cs:List (Nat×Nat×Bool)):Bool:=((List.range (p.length-1)).map fun i=>askB cs (Pap.at' p i) (Pap.at' p (i+1))).all id
theorem valV_putAll (k:List Key):∀ (ps:List PQ) (m:List (List Key×V)),(valV (ZCI m ps) k).isSome=((valV m k).isSome || ps.any fun q=>decide (q.2.2.1=k))
 | [],m=>by rw [show ZCI m []=m from rfl];simp
 | q::r,m=>by
  rw [show ZCI m (q::r)=ZCI (putK m q.2.2.1 q.2.2.2) r from rfl,valV_putAll k r,valV_put,List.any_cons]
  by_cases e:q.2.2.1=k
  .rw [if_pos e.symm,decide_eq_true e];simp
  .rw [if_neg (fun z=>e z.symm),decide_eq_false e];simp
theorem said_b (a b:Nat) (c:Bool):decide (decide ((a:Int) < b)=c)=(decide (a < b) == c):=by
 have e:decide ((a:Int) < b)=decide (a < b):=by rw [decide_eq_decide];omega
 rw [e]
 cases decide (a < b) <;> cases c <;> rfl
def ZD8:Sp:=fun vs H Q _=>∃ (a w:Addr) (p:List Nat) (cs:List (Nat×Nat×Bool)) (ws:List V),vs=[.ref a,.ref w] /\ H a=some (.lst (NL p)) /\ Pap.IsP p /\ p.length <= 200 /\ H w=some (.lst ws) /\ Ans H cs ws /\ (∀ c∈cs,c.1 < p.length /\ c.2.1 < p.length) /\ cs.length <= 20000 /\ ∀ H',Same H H'->Q (.bl (agB p cs)) H'
def ZEf:Sp:=fun vs H Q _=>∃ (a w:Addr) (p:List Nat) (cs:List (Nat×Nat×Bool)) (ws:List V),vs=[.ref a,.ref w] /\ H a=some (.lst (NL p)) /\ Pap.IsP p /\ p.length <= 200 /\ H w=some (.lst ws) /\ Ans H cs ws /\ (∀ c∈cs,c.1 < p.length /\ c.2.1 < p.length) /\ cs.length <= 20000 /\ ∀ H',Same H H'->Q (.bl (agB p cs && shB p cs)) H'
theorem take_snoc {α:Type} {l:List α} {i:Nat} {x:α} (h:l[i]?=some x):l.take (i+1)=l.take i++[x]:=by
 rw [List.take_add_one,h];rfl
def ZFQ (ks:List Int) (c:Nat×Nat):Nat×Nat×Bool:=(c.1,c.2,decide (kat ks c.1 < kat ks c.2))
theorem Told.ans {H:Hp} {ks:List Int} {pr:List (Nat×Nat)} {ws:List V} (h:Told H ks pr ws):Ans H (pr.map (ZFQ ks)) ws:=by
 refine ⟨by rw [yAB];exact h.len,fun j p q b hj=>?_⟩
 rw [yAW] at hj
 obtain ⟨⟨p',q'⟩,hc,e⟩:=Option.map_eq_some_iff.mp hj
 cases e
 exact h.get j p' q' hc
theorem OrdN.isP {ks:List Int} {n:Nat} {os:List Nat} (o:OrdN ks 0 n os):Pap.IsP os:=by
 have hl:os.length=n:=by rw [o.len];omega
 refine Pap.of_nd (o.srt.imp fun {x y} h e=>by subst e;unfold lx at h;omega) fun x=>?_
 rw [o.mem,hl];omega
theorem OrdN.idx {ks:List Int} {n:Nat} {os:List Nat} (o:OrdN ks 0 n os) {x y:Nat} (hx:x < n) (hy:y < n) (h:os.idxOf x < os.idxOf y):lx ks x y:=by
 have hl:os.length=n:=by rw [o.len];omega
 have p:=o.isP
 have h1:=Pap.idx_lt p (v:=x) (by omega)
 have h2:=Pap.idx_lt p (v:=y) (by omega)
 have g:=List.pairwise_iff_getElem.mp o.srt _ _ h1 h2 h
 rw [List.getElem_idxOf,List.getElem_idxOf] at g
 exact g
theorem ag_true {ks:List Int} {n:Nat} {os:List Nat} {l:List (Nat×Nat)} (o:OrdN ks 0 n os) (hl:∀ c∈l,c.2 < c.1) (hin:∀ c∈l,c.1 < n):agB os (l.map (ZFQ ks))=true:=by
 have hln:os.length=n:=by rw [o.len];omega
 unfold agB
 rw [List.all_map,List.all_eq_true]
 intro c hc
 have h1:=hl c hc
 have h2:=hin c hc
 show (decide (Pap.at' (Pap.bk os) c.1 < Pap.at' (Pap.bk os) c.2) == decide (kat ks c.1 < kat ks c.2))=true
 rw [Pap.bk_at (by omega),Pap.bk_at (by omega),beq_iff_eq,decide_eq_decide]
 constructor
 .intro h
  have:=o.idx (by omega) (by omega) h
  unfold lx at this
  omega
 .intro h
  rcases Nat.lt_trichotomy (os.idxOf c.1) (os.idxOf c.2) with z | z | z
  .exact z
  .have e1:=Pap.at_idx o.isP (v:=c.1) (by omega)
   have e2:=Pap.at_idx o.isP (v:=c.2) (by omega)
   rw [z,e2] at e1
   omega
  .have:=o.idx (by omega) (by omega) z
   unfold lx at this
   omega
theorem sh_true {ks:List Int} {os:List Nat} {l:List (Nat×Nat)} (h:Adj os l):shB os (l.map (ZFQ ks))=true:=by
 unfold shB
 rw [List.all_map,List.all_eq_true]
 intro i hi
 have hi':=yCE.mp hi
 have hx:=Pap.at_lt (p:=os) (i:=i) (by omega)
 have hy:=Pap.at_lt (p:=os) (i:=i+1) (by omega)
 show askB (l.map (ZFQ ks)) (Pap.at' os i) (Pap.at' os (i+1))=true
 unfold askB
 rw [List.any_map,List.any_eq_true]
 exact ⟨_,h i _ _ hx hy,decide_eq_true rfl⟩
theorem NL_nL (l:List Nat):NL l=nL l:=by rw [ZDc]
def spn:List (Nat×List Nat)->List Nat->Nat->List (Nat×Nat×Nat)
 | [],_,_=>[]
 | p::ps,gs,r=>(p.1,bB ps r,gs.headD 0)::spn ps gs.tail r
theorem ZDx (ps:List (Nat×List Nat)) (gs:List Nat) (r:Nat):(spn ps gs r).length=ps.length:=by
 induction ps generalizing gs with
 | nil=>rfl
 | cons p ps ih=>show (spn ps gs.tail r).length+1=ps.length+1;rw [ih]
theorem ZEe {r:Nat}:∀ {ps:List (Nat×List Nat)} {gs:List Nat} {i:Nat} {p:Nat×List Nat},ps[i]?=some p->(spn ps gs r)[i]?=some (p.1,bB (ps.drop (i+1)) r,(gs[i]?).getD 0)
 | [],gs,i,p,h=>by simp at h
 | q::ps,gs,0,p,h=>by
  cases h
  show some (q.1,bB ps r,gs.headD 0)=_
  cases gs <;> rfl
 | q::ps,gs,i+1,p,h=>by
  show (spn ps gs.tail r)[i]?=_
  rw [ZEe (ps:=ps) (gs:=gs.tail) (i:=i) (by simpa using h)]
  cases gs <;> rfl
structure Spans (H:Hp) (ss:List (Nat×Nat×Nat)) (ts:List V):Prop where
 len:ts.length=ss.length
 get:∀ (j x y z:Nat),ss[j]?=some (x,y,z)->∃ t,ts[j]?=some (V.ref t) /\ H t=some (.tup [.int x,.int y,.int z])
theorem Spans.keep {H H':Hp} {ss:List (Nat×Nat×Nat)} {ts:List V} (h:Spans H ss ts) (e:∀ t x,H t=some (.tup x)->H' t=some (.tup x)):Spans H' ss ts :=
 ⟨h.len,fun j x y z hj=>let ⟨t,a,b⟩:=h.get j x y z hj;⟨t,a,e _ _ b⟩⟩
theorem Spans.snoc {H:Hp} {ss:List (Nat×Nat×Nat)} {ts:List V} {x y z:Nat} {t:Addr} (h:Spans H ss ts) (ht:H t=some (.tup [.int x,.int y,.int z])):Spans H (ss++[(x,y,z)]) (ts++[.ref t]):=by
 refine ⟨by rw [yAD,yAD,h.len];rfl,fun j x' y' z' hj=>?_⟩
 by_cases hl:j < ss.length
 .rw [yAZ hl] at hj
  obtain ⟨t',a,b⟩:=h.get j x' y' z' hj
  exact ⟨t',by rw [yAZ (by rw [h.len];exact hl)];exact a,b⟩
 .have e:=(yAH.mp hj).1
  rw [yAD] at e
  have hj':j=ss.length:=by have:([(x,y,z)]:List (Nat×Nat×Nat)).length=1:=rfl;omega
  subst hj'
  rw [yAY (yAA _),yBF] at hj
  cases hj
  exact ⟨t,by rw [<- h.len,yAY (yAA _),yBF];rfl,ht⟩
def ZC4 (CP:Addr):Sp:=fun vs H Q _=>∃ (x a fs od gr:Addr) (ls s e r:Nat) (oa:List Addr) (ps:List (Nat×List Nat)) (gs:List Nat),vs=[.ref x] /\ PileAt CP H x a fs od gr ls s e r oa ps gs /\ ps.length <= 63 /\ gs.length=ps.length-1 /\ ∀ l H' ts,Same H H'->H l=none->H' l=some (.lst ts)->Spans H' (spn ps gs r) ts->Q (.ref l) H'
def ZDz (CA CP:Addr):Sp:=fun vs H Q _=>∃ (a:Addr) (ls s e:Nat) (pz:V),vs=[.ref a,.int ls,pz] /\ ((∃ pt,pz=.ref pt /\ H pt=some (.tup [.int s,.int e]))∨(pz=.non /\ s=0 /\ ∃ rl ru m n tl xs,Ins H a CA (fA rl ru m n tl) /\ H rl=some (.lst xs) /\ xs.length=e)) /\ (∃ o,H a=some o) /\
 ∀ x fs od gr H',Same H H'->H x=none->H fs=none->H od=none->H gr=none->PileAt CP H' x a fs od gr ls s e s [] [] []->Q (.ref x) H'
def ZDU:Sp:=fun vs H Q _=>∃ c:Int,vs=[.int c] /\ ∀ (ls:Nat) H',1 <= ls->ls <= 20->Same H H'->Q (.int ls) H'
def ZD0:Sp:=fun vs H Q _=>∃ (c:Int) (n:Nat),vs=[.int c,.int n] /\ n <= 63 /\ Q .non H /\ ∀ t H' (s e:Nat),Same H H'->H t=none->H' t=some (.tup [.int s,.int e])->s <= e->e <= n->Q (.ref t) H'
theorem Prs.dp {K:W.Frag} {H:Hp}:∀ {pr:List (Nat×Nat)} {ts:List V},Prs H pr ts->DpAll K H (pr.map fun c=>.tuple [.int (c.1:Nat),.int (c.2:Nat)]) ts
 | [],ts,h=>by
  have:ts=[]:=List.length_eq_zero_iff.mp h.len
  subst this
  exact .nil
 | c::r,[],h=>by have:=h.len;cases this
 | (p,q)::r,v::ts,h=>by
  obtain ⟨t,a,b⟩:=h.get 0 p q rfl
  have ev:v=.ref t:=Option.some.inj a
  subst ev
  refine .cons (dp_tup (SqT.of b) (.two (dp_int _) (dp_int _))) (Prs.dp ⟨by have:=h.len;simpa using this,fun j p' q' hj=>?_⟩)
  obtain ⟨t',a',b'⟩:=h.get (j+1) p' q' (by simpa using hj)
  exact ⟨t',by simpa using a',b'⟩
theorem pd_lay:∀ pr:List (Nat×Nat),PyData.canLayAll0 (pr.map fun c=>PyData.tuple [.int (c.1:Nat),.int (c.2:Nat)])=true
 | []=>by unfold PyData.canLayAll0 List.map;rfl
 | c::r=>by
  rw [yAX]
  unfold PyData.canLayAll0
  rw [pd_lay r]
  unfold PyData.canLay0 PyData.canLayAll0 PyData.canLayAll0 PyData.canLayAll0 PyData.canLay0
  rfl
theorem pd_dep:∀ pr:List (Nat×Nat),PyData.depthAll (pr.map fun c=>PyData.tuple [.int (c.1:Nat),.int (c.2:Nat)]) <= 1
 | []=>by unfold List.map PyData.depthAll;decide
 | c::r=>by
  rw [yAX]
  unfold PyData.depthAll
  have h1:=pd_dep r
  have h2:(PyData.tuple [.int (c.1:Nat),.int (c.2:Nat)]).depth <= 1:=by unfold PyData.depth PyData.depthAll PyData.depthAll PyData.depthAll PyData.depth;decide
  omega
theorem prs_ne {K:W.Frag} {H:Hp} {pr:List (Nat×Nat)} {ts ts':List V} {x y:Addr} {Q:VK} (hx:H x=some (.lst ts)) (hy:H y=some (.lst ts')) (h:Prs H pr ts) (h':Prs H pr ts') (q:Q (.bl false) H):rNeD K (.ref x) (.ref y) H Q :=
 neD_refl (d:=.list (pr.map fun c=>.tuple [.int (c.1:Nat),.int (c.2:Nat)])) (ZFg (SqL.of hx) h.dp) (ZFg (SqL.of hy) h'.dp) (by unfold PyData.canLay0;exact pd_lay pr) (by unfold PyData.depth;have:=pd_dep pr;omega) q
def ZD5 (K:W.Frag):Sp:=fun vs H Q _=>∃ (fl sl rw:Addr) (ks:List Int) (xs:List V) (ps:List (Nat×List Nat)) (gs:List Nat) (s e r:Nat) (ts:List V),vs=[.ref fl,.ref sl,.ref rw,.int s,.int e] /\ H fl=some (.lst (nL (flt ps++List.range' r (e-r)))) /\ H sl=some (.lst ts) /\ Spans H (spn ps gs r) ts /\ H rw=some (.lst xs) /\ Things H ks xs /\ ks.length <= 63 /\ PInv ks s e r ps gs /\ e <= ks.length /\ ∀ H',Same H H'->Q (.bl true) H'
def ZDX:Sp:=fun vs H Q _=>∃ (pp lg:Addr) (os:List Nat) (pr:List (Nat×Nat)) (ws:List V),vs=[.ref pp,.ref lg] /\ H pp=some (.lst (nL os)) /\ H lg=some (.lst ws) /\ Prs H pr ws /\ Adj os pr /\ os.length <= 63 /\ pr.length <= 13000 /\ ∀ H',Same H H'->Q (.bl true) H'
theorem OrdN.perm {ks:List Int} {x y:Nat} {o:List Nat} (h:OrdN ks x y o):o.Perm (List.range' x (y-x)) :=
 (List.perm_ext_iff_of_nodup (h.srt.imp fun {a b} h e=>by subst e;exact ZEn h h) List.nodup_range').mpr fun u=>by rw [h.mem,yCR];omega
theorem Ch.perm {ks:List Int}:∀ {x y:Nat} {ps:List (Nat×List Nat)},Ch ks x ps y->(flt ps).Perm (List.range' x (y-x))
 | x,y,[],h=>by have e:x=y:=h;rw [e,yBF];exact .refl _
 | x,y,(f,o)::r,⟨h1,m,h2,h3,h4⟩=>by
  have h6:=Ch.le h4
  show (o++flt r).Perm _
  refine (h3.perm.append (Ch.perm h4)).trans ?_
  rw [show y-x=(m-x)+(y-m) by omega,<- List.range'_append,show x+1 * (m-x)=m by omega]
theorem paper_perm {ks:List Int} {s e r:Nat} {ps:List (Nat×List Nat)} {gs:List Nat} (pi:PInv ks s e r ps gs):(flt ps++List.range' r (e-r)).Perm (List.range' s (e-s)):=by
 have h1:=pi.ch.le
 have h2:=pi.re
 refine (pi.ch.perm.append_right _).trans ?_
 rw [show e-s=(r-s)+(e-r) by omega,<- List.range'_append,show s+1 * (r-s)=r by omega]
theorem range_sorted {ms:List Int} {p:List Nat} {s n:Nat} (hp:p.Perm (List.range' s n)) (h:ms.Perm (p.map fun x:Nat=>(x:Int))) (hs:ms.Pairwise (· <= ·)):ms=(List.range' s n).map fun x:Nat=>(x:Int):=by
 refine List.Perm.eq_of_pairwise (le:=(· <= ·)) (fun a b _ _ h1 h2=>Int.le_antisymm h1 h2) hs ?_ (h.trans (hp.map _))
 rw [List.pairwise_map]
 exact List.Pairwise.imp (fun h=>by omega) List.pairwise_le_range'
abbrev kP (p q:Nat):List Key:=[Sum.inl (p:Int),Sum.inl (q:Int)]
theorem JT.inn {ks:List Int} {ls rs ps:List Nat} {i j w:Nat} {s:Bool} {L:List (Nat×Nat)} {P:Nat->Prop} (h:JT ks ls rs i j w s ps L):(∀ x∈ls,P x)->(∀ y∈rs,P y)->∀ c∈L,P c.1 /\ P c.2:=by
 have mm:∀ {x y:Nat},P x->P y->P (max x y,min x y).1 /\ P (max x y,min x y).2:=fun {x y} a b=>by
  show P (max x y) /\ P (min x y)
  rcases Nat.le_total x y with z | z
  .rw [Nat.max_eq_right z,yBN z];exact ⟨b,a⟩
  .rw [Nat.max_eq_left z,Nat.min_eq_right z];exact ⟨a,b⟩
 induction h with
 | done _=>intro _ _ c hc;cases hc
 | step a b c d e ih=>
  intro h1 h2 c hc
  rcases yAE.mp hc with z | z
  .rw [z];exact mm (h1 _ (yAK a)) (h2 _ (yAK b))
  .exact ih h1 h2 c z
 | @leap ls rs ps G i j w x y z s L a b c d e f g k l ih=>
  intro h1 h2 c hc
  rcases yAE.mp hc with t | t
  .rw [t];exact mm (h1 _ (yAK a)) (h2 _ (yAK b))
  rcases yAV.mp t with t | t
  .obtain ⟨n,hn,rfl⟩:=yBQ.mp t
   have hr:=k.range (yAA _) (by omega) (yAA _) n hn
   have he:=yAJ hr.2
   rw [ZDD he]
   exact mm (h1 _ (yAK he)) (h2 _ (yAK b))
  .exact ih h1 h2 c t
 | @last ls rs ps G i j w x y s L a b c d g k l ih=>
  intro h1 h2 c hc
  rcases yAE.mp hc with t | t
  .rw [t];exact mm (h1 _ (yAK a)) (h2 _ (yAK b))
  rcases yAV.mp t with t | t
  .obtain ⟨n,hn,rfl⟩:=yBQ.mp t
   have hr:=k.range (yAA _) (yAH.mp a).1 (yAA _) n hn
   have he:=yAJ hr.2
   rw [ZDD he]
   exact mm (h1 _ (yAK he)) (h2 _ (yAK b))
  .exact ih h1 h2 c t
 | swap h ih=>intro h1 h2 c hc;exact ih h2 h1 c hc
theorem Put.bnd {ks:List Int} {first p e:Nat} {os os':List Nat} {l:List (Nat×Nat)} (h:Put ks os p e os' l):first <= p->(∀ x∈os,first <= x)->∀ c∈l,first <= c.2 /\ c.1 < e:=by
 induction h with
 | nil n=>intro _ _ c hc;cases hc
 | @cons os os' p e r l l' a b c ih=>
  intro hf ho x hx
  rcases yAV.mp hx with z | z
  .obtain ⟨z1,z2⟩:=b.each x z
   rw [z1]
   exact ⟨ho _ z2,a⟩
  .exact ih (by omega) (fun y hy=>by rcases insN_mem.mp hy with w | w;omega;exact ho y w) x z
theorem Adj.mono' {os:List Nat} {pr pr':List (Nat×Nat)} (h:Adj os pr) (e:∀ c∈pr,c∈pr'):Adj os pr':=fun i x y hx hy=>e _ (h i x y hx hy)
theorem Stp.more {ks:List Int} {ls s e:Nat} {ps:List (Nat×List Nat)} {gs:List Nat} {r:Nat} {k:Bool} {v1 v2 v3:Nat} {L:List (Nat×Nat)} {ps':List (Nat×List Nat)} {gs':List Nat} {r':Nat} {pr:List (Nat×Nat)} (h:Stp ks ls s e ps gs r k v1 v2 v3 L ps' gs' r') (i:PInv ks s e r ps gs) (ha:∀ p∈ps,Adj p.2 pr):(∀ p∈ps',Adj p.2 (pr++L)) /\ ∀ c∈L,c.2 < c.1 /\ s <= c.2 /\ c.1 < e:=by
 have hre:=i.re
 have hcl:=i.ch.le
 rcases h with ⟨_,rfl,A,o1,o2,o,B,j⟩ | ⟨_,f,os,l,j⟩
 .have e1:=j.e1
  subst e1
  obtain ⟨v3',c1,c2,c3,c4,c5,c6,c7⟩:=i.ch.two
  have c1l:=c1.le
  have c6l:=c6.le
  have dis:∀ x∈o1,∀ y∈o2,x≠y:=fun u hu v hv=>by have:=(c4.mem u).mp hu;have:=(c5.mem v).mp hv;omega
  refine ⟨fun p hp=>?_,fun c hc=>⟨j.jt.ord dis c hc,?_⟩⟩
  .rw [j.e2] at hp
   rcases yAV.mp hp with z | z
   .exact (ha p (yBC _ z)).mono' fun c hc=>yBC _ hc
   rcases yAE.mp z with z | z
   .rw [z]
    exact j.jt.adj pr (ha (v1,o1) (yAQ _ yAF)) (ha (v2,o2) (yAQ _ (yAC _ yAF)))
   .exact (ha p (yAQ _ (yAC _ (yAC _ z)))).mono' fun c hc=>yBC _ hc
  .have:=j.jt.inn (P:=fun u=>s <= u /\ u < e) (fun u hu=>by have:=(c4.mem u).mp hu;omega) (fun u hu=>by have:=(c5.mem u).mp hu;omega) c hc
   exact ⟨this.2.1,this.1.2⟩
 .have hb:=j.by'.two
  obtain ⟨o1,a1,l1⟩:=j.put.all (first:=r) (asks r (min (v2+1) e)) (by omega) j.by'.ord (fun i x y hx hy=>(j.by'.adj i x y hx hy).2)
  refine ⟨fun p hp=>?_,fun c hc=>?_⟩
  .rw [j.e5] at hp
   rcases yAV.mp hp with z | z
   .exact (ha p z).mono' fun c hc=>yBC _ hc
   .rw [yAM.mp z,j.e2]
    exact a1.mono' fun c hc=>yAQ _ hc
  .rw [j.e2] at hc
   rcases yAV.mp hc with z | z
   .unfold asks at z
    obtain ⟨k,hk,rfl⟩:=yBQ.mp z
    have:=yCR.mp hk
    show k-1 < k /\ s <= k-1 /\ k < e
    omega
   .have b:=j.put.bnd (first:=r) (by omega) (fun x hx=>(turnN_mem.mp hx).1) c z
    have:=l1 c z
    have:=j.lt
    omega
structure W55 (CA CR CP:Addr) (X:Hp) (ks:List Int) (xs:List V) (ak rl ru tl g lg x fs od gr rq:Addr) (pr:List (Nat×Nat)) (ls s e r:Nat) (oa:List Addr) (ps:List (Nat×List Nat)) (gs:List Nat):Prop where
 hrq:X rq=some (.lst xs)
 th:Things X ks xs
 pa:PileAt CP X x ak fs od gr ls s e r oa ps gs
 px:PXl ak rl ru lg tl x fs od gr oa
 pi:PInv ks s e r ps gs
 cs:pr.length+126 * ps.length <= 191 * (r-s)
 st:SitL CA CR X ks ⟨xs,0⟩ ak rl ru tl g lg pr
 adj:∀ p∈ps,Adj p.2 pr
 inb:∀ c∈pr,c.2 < c.1 /\ s <= c.2 /\ c.1 < e
section
variable {CA CR CP:Addr} {X Y:Hp} {ks:List Int} {xs:List V} {ak rl ru tl g lg x fs od gr rq:Addr} {pr:List (Nat×Nat)} {ls s e r:Nat} {oa:List Addr} {ps:List (Nat×List Nat)} {gs:List Nat}
theorem W55.mono (w:W55 CA CR CP X ks xs ak rl ru tl g lg x fs od gr rq pr ls s e r oa ps gs) (f:Same X Y):W55 CA CR CP Y ks xs ak rl ru tl g lg x fs od gr rq pr ls s e r oa ps gs :=
 ⟨f _ _ w.hrq,w.th.mono fun b o h _ _=>f _ _ h,w.pa.mono f,w.px,w.pi,w.cs,w.st.mono f,w.adj,w.inb⟩
theorem W55.upd {l:Addr} {us us':List V} (w:W55 CA CR CP X ks xs ak rl ru tl g lg x fs od gr rq pr ls s e r oa ps gs) (hl:X l=some (.lst us)) (n:l∉[x,fs,od,gr,ak,lg,tl]) (n2:l∉oa) (n3:l≠rq) (n4:l≠rl):W55 CA CR CP (L2.upd X l (.lst us')) ks xs ak rl ru tl g lg x fs od gr rq pr ls s e r oa ps gs:=by
 have F:Fr [l] X (L2.upd X l (.lst us')):=Fr.upd yAF
 have hne:∀ {b:Addr},b∈[x,fs,od,gr,ak,lg,tl]->b∉[l]:=fun {b} h z=>n (by rw [<- yAM.mp z];exact h)
 have m1:x∈[x,fs,od,gr,ak,lg,tl]:=yAF
 have m2:fs∈[x,fs,od,gr,ak,lg,tl]:=yAC _ yAF
 have m3:od∈[x,fs,od,gr,ak,lg,tl]:=yAC _ (yAC _ yAF)
 have m4:gr∈[x,fs,od,gr,ak,lg,tl]:=yAC _ (yAC _ (yAC _ yAF))
 have m6:lg∈[x,fs,od,gr,ak,lg,tl]:=yAQ [x,fs,od,gr] (yAC _ yAF)
 have m7:tl∈[x,fs,od,gr,ak,lg,tl]:=yAQ [x,fs,od,gr] (yAC _ (yAC _ yAF))
 refine ⟨F _ _ (fun z=>n3 (yAM.mp z).symm) w.hrq,⟨w.th.1,fun i kk hkk=>let ⟨r0,a1,a2⟩:=w.th.2 i kk hkk;⟨r0,a1,F _ _ (fun z=>by rw [yAM.mp z,hl] at a2;cases a2) a2⟩⟩,w.pa.fr F ⟨hne m1,hne m2,hne m3,hne m4⟩ (fun b hb z=>n2 (by rw [<- yAM.mp z];exact hb)),w.px,w.pi,w.cs,w.st.apart F (fun b hb=>by rw [yAM.mp hb];exact ⟨_,hl⟩) ⟨fun z=>n4 (yAM.mp z).symm,hne m6,hne m7⟩,w.adj,w.inb⟩
theorem W55.free (w:W55 CA CR CP X ks xs ak rl ru tl g lg x fs od gr rq pr ls s e r oa ps gs) {b:Addr} (hb:X b=none):b∉[x,fs,od,gr,ak,lg,tl] /\ b∉oa /\ b≠rq /\ b≠rl:=by
 obtain ⟨w1,h1,_⟩:=w.st.hlg
 obtain ⟨w2,h2,_⟩:=w.st.htl
 refine ⟨fun z=>?_,fun z=>?_,(fun z=>by rw [z,w.hrq] at hb;cases hb),(fun z=>by rw [z,w.st.hrl] at hb;cases hb)⟩
 .rcases yAE.mp z with z | z
  .exact w.pa.hp.neN hb z
  rcases yAE.mp z with z | z
  .rw [z,w.pa.hfs] at hb;cases hb
  rcases yAE.mp z with z | z
  .rw [z,w.pa.hod] at hb;cases hb
  rcases yAE.mp z with z | z
  .rw [z,w.pa.hgr] at hb;cases hb
  .exact w.st.newS hb z
 .obtain ⟨i,hi⟩:=yBK z
  obtain ⟨p',_,hp'⟩:=w.pa.oat.get hi
  rw [hp'] at hb;cases hb
theorem W55.step {t:Addr} {L:List (Nat×Nat)} {r':Nat} {oa':List Addr} {ps':List (Nat×List Nat)} {gs':List Nat} {k:Bool} {v1 v2 v3:Nat} (w:W55 CA CR CP X ks xs ak rl ru tl g lg x fs od gr rq pr ls s e r oa ps gs) (arq:rq∉[x,fs,od,gr,ak,lg,tl]) (lf:Left CA CR CP X ks ⟨xs,0⟩ ak rl ru tl g lg x fs od gr pr ls s e oa k v1 v2 v3 L oa' ps' gs' r' t Y) (stp:Stp ks ls s e ps gs r k v1 v2 v3 L ps' gs' r') (hes:e-s <= 63):W55 CA CR CP Y ks xs ak rl ru tl g lg x fs od gr rq (pr++L) ls s e r' oa' ps' gs':=by
 obtain ⟨fr,hoa,ht,pa,px,st'⟩:=lf
 obtain ⟨w1,h1,_⟩:=w.st.hlg
 obtain ⟨w2,h2,_⟩:=w.st.htl
 have cl:=w.pi.ch.le
 have cc:=stp.cost w.pi hes (by omega)
 have cs:=w.cs
 have cl':=(stp.inv w.pi).ch.le
 obtain ⟨g1,g2⟩:=stp.more (pr:=pr) w.pi w.adj
 refine ⟨fr _ _ arq w.hrq,⟨w.th.1,fun i kk hkk=>let ⟨r0,a1,a2⟩:=w.th.2 i kk hkk;⟨r0,a1,fr _ _ ?_ a2⟩⟩,pa,px,stp.inv w.pi,by rw [yAD];omega,st',g1,fun c hc=>?_⟩
 .intro z
  have I:∀ {c C:Addr} {f:List (Str×V)},Ins X c C f->r0≠c:=fun {c C f} hc z=>by obtain ⟨d,fs,e1,_⟩:=hc.ex;rw [<- z,a2] at e1;cases e1
  have L':∀ {c:Addr} {l:List V},X c=some (.lst l)->r0≠c:=fun {c l} hc z=>by rw [<- z,a2] at hc;cases hc
  rcases yAE.mp z with z | z
  .exact I w.pa.hp z
  rcases yAE.mp z with z | z
  .exact L' w.pa.hfs z
  rcases yAE.mp z with z | z
  .exact L' w.pa.hod z
  rcases yAE.mp z with z | z
  .exact L' w.pa.hgr z
  rcases yAE.mp z with z | z
  .exact I w.st.ha z
  rcases yAE.mp z with z | z
  .exact L' h1 z
  .exact L' h2 (yAM.mp z)
 .rcases yAV.mp hc with z | z
  .exact w.inb c z
  .exact g2 c z
end
def I55 (CA CR CP:Addr) (ks:List Int) (xs:List V) (ak rl ru tl g lg x fs od gr rq rw a:Addr) (bz:V) (ls s e:Nat) (n:Nat) (σ:St) (X:Hp):Prop :=
 ∃ (sv:V) (v10 v11 v12:Option V) (pr:List (Nat×Nat)) (r:Nat) (oa:List Addr) (ps:List (Nat×List Nat)) (gs:List Nat),
  σ=[some (.ref a),some (.ref rq),some bz,some (.ref lg),some (.ref rw),some (.ref ak),some (.ref x),some (.int s),some (.int e),some sv,v10,v11,v12] /\ W55 CA CR CP X ks xs ak rl ru tl g lg x fs od gr rq pr ls s e r oa ps gs /\ ((sv=.non /\ n=0 /\ r=e /\ ps.length <= 1)∨∃ t,sv=.ref t /\ n=2 * (e-r)+ps.length+1)
section
variable {P:Program} {w:World} {K:W.Frag} {mg:Str->Option Value} {base:Heap} {C_Join C_Pile C_Asker C_AskedRule:Addr} {cc_teller Pt_teller:Addr}
theorem ok_teller {f:Addr} {fd:FuncData} (F:Fun K "_law_teller" "_law_teller" ZCA f fd) (hcd:fd.code=.ref cc_teller) (C:PySem.W.CodeHd base cc_teller Pt_teller) (B:ZEa mg base):FnOk P w K mg base CX0 1 f fd ["_law_written"] (ZEv Pt_teller (ZEY ZAO) "_law_ask" "_law_teller.<locals>._law_ask" (ZAN ZAO) (ZAJ ZAO) (ZAC ZAO) ["_law_written"] [0] 1) :=
 teller_ok F sc_teller hcd C B rfl (fun _ _=>rfl) rfl rfl (fun _ _=>rfl) rfl (by decide) (by decide) (by decide +kernel) (by decide +kernel) (by decide +kernel) (hix_of rfl) rfl
theorem clo_teller (T:Bt K mg C_Join C_Pile C_Asker C_AskedRule):CloOk P w K mg base 1 (ZBU):=by
 refine clo_of (k:=0) (iname:="_law_ask") (iq:="_law_teller.<locals>._law_ask") (ip:=ZAN ZAO) (ib:=ZAJ ZAO) (isc:=ZAC ZAO) csc_teller (fun f vs H Q h=>?_) (fun f vs H Q h=>?_) (fun cl doc pm ctv c' us hl=>by obtain ⟨_,_,rfl⟩:=us2 hl;rfl) (fun g cs cl cd A outer s H vs Q hr C h=>?_)
 .obtain ⟨g,x,y,lg,k,k2,i,j,ws,rfl,rfl,hclo,hx,hy,hlg,hws,q⟩:=h
  exact ⟨_,_,rfl,hclo⟩
 .obtain ⟨g,x,y,lg,k,k2,i,j,ws,rfl,rfl,hclo,hx,hy,hlg,hws,q⟩:=h
  rfl
 obtain ⟨g,x,y,lg,k,k2,i,j,ws,eg,rfl,hclo,hx,hy,hlg,hws,q⟩:=h
 cases eg
 obtain ⟨cl2,C2⟩:=hclo
 obtain rfl:=C.inj' C2
 refine ⟨_,(ZAB (ZAk (ZCk PySem.F.plainAttrs_list PySem.F.slot_list_append PySem.F.type_list_append ZBm (pv 2) (ZAA (ZBO (ZAA (ZAc ZA2 (pv 0) ZAG (fun _ _=>rfl)) (ZAA (ZAc ZA2 (pv 1) ZAG (fun _ _=>rfl)) ZAD))) ZAD)))
  (ZAH (ZAV (ZBz ZDB (ZAc ZA2 (pv 0) ZAG (fun _ _=>rfl)) (ZAc ZA2 (pv 1) ZAG (fun _ _=>rfl)) (ZAW _))))),?_⟩
 walk_at "rd"
 have cells:=C.cells
 have hx':hid cl H x=some (.tup [.int k,.int i]):=ZCE cells hx (by intro ob z;cases z)
 have hy':hid cl H y=some (.tup [.int k2,.int j]):=ZCE cells hy (by intro ob z;cases z)
 have hlg':hid cl H lg=some (.lst ws):=ZCE cells hlg (by intro ob z;cases z)
 refine ⟨.inl ⟨rfl,_,SqL.of hlg'⟩,ZA0 (SqT.of hx') (ZAf (by decide) rfl) (ZA0 (SqT.of hy') (ZAf (by decide) rfl) ⟨ZAX (by decide),fun t ht=>?_⟩)⟩
 have ntl:t≠lg:=fun z=>by rw [z,hlg'] at ht;cases ht
 refine ⟨lg,ws,_,rfl,rfl,ZAQ ht _ _ _ hlg',ZEw (by omega),?_⟩
 have hx2:upd (upd (hid cl H) t (.tup [.int i,.int j])) lg (.lst (ws++[.ref t])) x=some (.tup [.int k,.int i]):=by
  rw [ZAI (fun z=>by rw [z,hlg'] at hx';cases hx'),ZAI (ZAE hx' ht)];exact hx'
 have hy2:upd (upd (hid cl H) t (.tup [.int i,.int j])) lg (.lst (ws++[.ref t])) y=some (.tup [.int k2,.int j]):=by
  rw [ZAI (fun z=>by rw [z,hlg'] at hy';cases hy'),ZAI (ZAE hy' ht)];exact hy'
 refine ZA0 (SqT.of hx2) (ZAf (by decide) rfl) (ZA0 (SqT.of hy2) (ZAf (by decide) rfl) ⟨_,_,rfl,rfl,fun hn=>?_⟩)
 have nt:=hn.ne (b:=t) (by rw [ZAI ntl,ZAF])
 have nl:=hn.ne (b:=lg) ZAF
 rw [back_upd nl,back_upd nt,back_hid]
 exact q t (hid_none cells ht nt)
theorem ok_Asker_init {f:Addr} {fd:FuncData} {dv:List Value} (F:FunD K "__init__" "Asker.__init__" ZBH f fd dv) (T:Bt K mg C_Join C_Pile C_Asker C_AskedRule)
 :FnOk P w K mg base CX0 1 f fd ["self","row","rule","most"] (ZCi C_Asker):=by
 refine F.ok sc_Asker_init (fun vs H Q E h=>?_) (fun cdv A outer s H vs Q E hr h=>?_)
 .obtain ⟨x,dx,r,ru,m,xs,rfl,hx,hr',q⟩:=h
  rfl
 obtain ⟨x,dx,r,ru,m,xs,rfl,hx,hr',q⟩:=h
 refine ⟨_,(ZAB (ZBL (pv 0) (ZAl ZBI rfl T.b_list PyProof.Rows.boot_list (ZAA (pv 1) ZAD)) rfl)
  (ZAB (ZBL (pv 0) (pv 2) rfl)
  (ZAB (ZBL (pv 0) (pv 3) rfl)
  (ZAB (ZBL (pv 0) ZAG rfl)
  (ZAH (ZBL (pv 0) (ZBP ZAD) rfl)))))),?_⟩
 walk_at "rd"
 refine ⟨r,xs,rfl,.inl (SqL.of hr'),fun rl hrl=>?_⟩
 have hxr:x≠rl:=ZAE hx hrl
 obtain ⟨H1,e1,s1,h1⟩:=newH hrl (.lst xs)
 rw [e1];clear e1
 refine setX (s1 _ _ hx) T.cl_Asker T.n_Asker_row (by decide) fun H2 x2 k2=>?_
 walk_at "rd"
 refine setX x2 T.cl_Asker T.n_Asker_rule ZFm fun H3 x3 k3=>?_
 walk_at "rd"
 refine setX x3 T.cl_Asker T.n_Asker_most ZFl fun H4 x4 k4=>?_
 walk_at "rd"
 refine setX x4 T.cl_Asker T.n_Asker_asked ZFk fun H5 x5 k5=>?_
 walk_at "rd"
 refine ⟨ZAX (by decide),fun tl htl=>?_⟩
 obtain ⟨H6,e6,s6,h6⟩:=newH htl (.lst [])
 rw [e6];clear e6
 have hxt:x≠tl:=ZAE x5 htl
 refine setX (s6 _ _ x5) T.cl_Asker T.n_Asker_told ZF2 fun H7 x7 k7=>?_
 have up:∀ b o,b≠x->H b=some o->H5 b=some o:=fun b o n e=>by rw [k5 b n,k4 b n,k3 b n,k2 b n];exact s1 b o e
 have h5:H5 rl=some (.lst xs):=by rw [k5 rl (Ne.symm hxr),k4 rl (Ne.symm hxr),k3 rl (Ne.symm hxr),k2 rl (Ne.symm hxr)];exact h1
 refine q rl tl H7 (fun b o n e=>by rw [k7 b n];exact s6 _ _ (up b o n e)) hrl ?_ (ZAE h5 htl) ((Ins.of x7 (yAP putL5 (by decide))).congr fA_canon) (by rw [k7 rl (Ne.symm hxr)];exact s6 _ _ h5) (by rw [k7 tl (Ne.symm hxt)];exact h6)
 cases e:H tl with
 | none=>rfl
 | some o=>rw [up tl o (Ne.symm hxt) e] at htl;cases htl
theorem ok_Asker_many {f:Addr} {fd:FuncData} (F:Fun K "many" "Asker.many" ZBG f fd) (T:Bt K mg C_Join C_Pile C_Asker C_AskedRule)
 :FnOk P w K mg base CX0 1 f fd ["self"] (ZET C_Asker):=by
 refine F.ok sc_Asker_many (fun vs H Q E h=>?_) (fun cdv A outer s H vs Q E hr h=>?_)
 .obtain ⟨a,rl,ru,tl,m,n,xs,rfl,ha,hrl,q⟩:=h
  rfl
 obtain ⟨a,rl,ru,tl,m,n,xs,rfl,ha,hrl,q⟩:=h
 refine ⟨_,(ZAH (ZAV (ZAL ZAK rfl T.b_len PySem.boot_len (ZAA (ZAR (pv 0) rfl) ZAD)))),?_⟩
 walk_at "rd"
 refine ha.get T.cl_Asker T.n_Asker_row (by walk_at "lk") ⟨rl,xs,rfl,.inl (SqL.of hrl),q⟩
theorem ok_AskedRule_init {f:Addr} {fd:FuncData} (F:Fun K "__init__" "AskedRule.__init__" ZAu f fd) (T:Bt K mg C_Join C_Pile C_Asker C_AskedRule)
 :FnOk P w K mg base CX0 1 f fd ["self","teller"] (ZC5 C_AskedRule):=by
 refine F.ok sc_AskedRule_init (fun vs H Q E h=>?_) (fun cdv A outer s H vs Q E hr h=>?_)
 .obtain ⟨x,dx,g,rfl,hx,q⟩:=h
  rfl
 obtain ⟨x,dx,g,rfl,hx,q⟩:=h
 refine ⟨_,(ZAH (ZBL (pv 0) (pv 1) rfl)),?_⟩
 walk_at "rd"
 refine setX hx T.cl_AskedRule T.n_AskedRule_teller (by decide) fun H2 x2 k2=>?_
 exact q H2 (fun b o n e=>by rw [k2 b n];exact e) ((Ins.of x2 (yAP ZFm (by decide))).congr fun f=>by simp only [ZAj,lkc])
theorem ok_AskedRule_before {f:Addr} {fd:FuncData} (F:Fun K "before" "AskedRule.before" ZAm f fd) (T:Bt K mg C_Join C_Pile C_Asker C_AskedRule)
  (clo_teller:CloOk P w K mg base 1 (ZBU))
 :FnOk P w K mg base CX0 2 f fd ["self","x","y"] (ZDL C_AskedRule ZBU):=by
 refine F.ok sc_AskedRule_before (fun vs H Q E h=>?_) (fun cdv A outer s H vs Q E hr h=>?_)
 .obtain ⟨ru,g,x,y,rfl,hru,⟨o,ho,hfd⟩,q⟩:=h
  rfl
 obtain ⟨ru,g,x,y,rfl,hru,⟨o,ho,hfd⟩,q⟩:=h
 refine ⟨_,(ZAB (ZAM (i:=3) sc_AskedRule_before.nd rfl (by walk_at "o") (ZAR (pv 0) rfl))
  (ZAH (ZAV (pe_callV (clo_teller.at (hr.mono (by decide))) (pv 3) (ZAA (pv 1) (ZAA (pv 2) ZAD)))))),?_⟩
 walk_at "rd"
 refine hru.get T.cl_AskedRule T.n_AskedRule_teller (by walk_at "lk") ⟨⟨g,o,rfl,ho,hfd⟩,?_⟩
 exact q
theorem ok_Asker_ahead {f:Addr} {fd:FuncData} (F:Fun K "ahead" "Asker.ahead" ZBA f fd) (T:Bt K mg C_Join C_Pile C_Asker C_AskedRule)
  (t_AskedRule_before:Mt P w K mg base CX0 C_AskedRule "before" 2 ["self","x","y"] (ZDL C_AskedRule ZBU))
 :FnOk P w K mg base CX0 3 f fd ["self","p","q"] (ZCj C_Asker C_AskedRule ZBU):=by
 refine F.ok sc_Asker_ahead (fun vs H Q E h=>?_) (fun cdv A outer s H vs Q E hr h=>?_)
 .obtain ⟨a,rl,ru,tl,n,p,q,xs,ts,x,y,rfl,ha,hrl,hpq,hp0,hq0,hx,hy,hb⟩:=h
  rfl
 obtain ⟨a,rl,ru,tl,n,p,q,xs,ts,x,y,rfl,ha,hrl,hpq,hp0,hq0,hx,hy,hb⟩:=h
 refine ⟨_,(ZAB (ZBB (PW.pt (ZDF (ZAS ZDA (ZAR (pv 0) rfl) ZCJ (ZAW _)) (ZCR (ZAS ZFn (ZAR (pv 0) rfl) (ZAR (pv 0) rfl) (ZAW _)))))
  (ZAH (ps_never)) ZAb)
  (ZAT
  (ZAB (ZAM (i:=3) sc_Asker_ahead.nd rfl (by walk_at "o") (ZAL (call_max2 rfl) rfl T.b_max PyProof.Rows.boot_max (ZAA (pv 1) (ZAA (pv 2) ZAD))))
  (ZAB (ZAM (i:=4) sc_Asker_ahead.nd rfl (by walk_at "o") (ZAL (ZB8 rfl) rfl T.b_min PyProof.Rows.boot_min (ZAA (pv 1) (ZAA (pv 2) ZAD))))
  (ZAB (ZAM (i:=5) sc_Asker_ahead.nd rfl (by walk_at "o") (ZBc t_AskedRule_before (hr.mono (by decide)) ZAY (ZAR (pv 0) rfl) (ZAA (ZAc ZAa (ZAR (pv 0) rfl) (pv 3) (fun _ _=>rfl)) (ZAA (ZAc ZAa (ZAR (pv 0) rfl) (pv 4) (fun _ _=>rfl)) ZAD))))
  (ZAT
  (ZAB (ps_fldaug (pv 0) ZAG in_add)
  (ZAB (ZAk (ZCk PySem.F.plainAttrs_list PySem.F.slot_list_append PySem.F.type_list_append ZBm (ZAR (pv 0) rfl) (ZAA (ZBO (ZAA (pv 3) (ZAA (pv 4) (ZAA (pv 5) ZAD)))) ZAD)))
  (ZAH (ZAV (ZBe (ZAS ZCm (pv 1) (pv 3) (ZAW _)) (pv 5) (pe_not (pv 5))))))))))))),?_⟩
 walk_at "rd"
 obtain ⟨ru',g,x',y',e,hru,ho,hrT⟩:=hb
 cases e
 refine ha.get T.cl_Asker T.n_Asker_most (by walk_at "lk") ?_
 rw [if_neg (by simp)]
 refine ZAZ ?_
 walk_at "rd"
 refine ⟨p,q,rfl,p,q,rfl,ha.get T.cl_Asker T.n_Asker_rule (by walk_at "lk") (hru.meth (by walk_at "lk") ?_)⟩
 rw [mx_eq,ZFa]
 refine ha.get T.cl_Asker T.n_Asker_row (by walk_at "lk") (ZAh (SqL.of hrl) (ZAf (by omega) hx) ?_)
 refine ha.get T.cl_Asker T.n_Asker_row (by walk_at "lk") (ZAh (SqL.of hrl) (ZAf (by omega) hy) ?_)
 refine ⟨ru,g,x,y,rfl,hru,ho,rT_mono (fun v H1 h=>?_) hrT⟩
 obtain ⟨b,rfl,ha1,htl1,hts,hq⟩:=h
 have nta:tl≠a:=ha1.ne htl1 fun _ _ _ z=>by cases z
 refine ZAZ ?_
 walk_at "rd"
 refine ha1.aug T.cl_Asker T.n_Asker_asked (by walk_at "lk") fun H2 ha2 k2=>?_
 have ha2':=ha2.congr fA_asked
 have htl2:H2 tl=some (.lst ts):=by rw [k2 tl nta];exact htl1
 walk_at "rd"
 refine ha2'.get T.cl_Asker T.n_Asker_told (by walk_at "lk") ?_
 walk_at "rd"
 refine ⟨.inl ⟨rfl,_,SqL.of htl2⟩,ZAX (by decide),fun t ht=>?_⟩
 have ntt:t≠tl:=fun z=>by rw [z,htl2] at ht;cases ht
 have nat':t≠a:=ha2'.neN ht
 refine ⟨tl,ts,_,rfl,rfl,ZAQ ht _ _ _ htl2,ZEw (by omega),?_⟩
 have fin:=hq t (upd (upd H2 t (.tup [.int (max p q),.int (min p q),.bl b])) tl (.lst (ts++[.ref t]))) (by rw [<- k2 t nat'];exact ht) (ha2'.keep (by rw [ZAI (Ne.symm nta),ZAI (Ne.symm nat')])) ZAF (by rw [ZAI ntt,ZAF]) (fun c h1 h2 h3=>by rw [ZAI h2,ZAI h3,k2 c h1])
 by_cases hlt:q < p
 .rw [if_pos hlt] at fin
  show (if _ then _ else _)
  rw [if_pos (by omega)]
  exact fin
 .rw [if_neg hlt] at fin
  show (if _ then _ else _)
  rw [if_neg (by omega)]
  exact fin
theorem ok_stretch_from {f:Addr} {fd:FuncData} {dv:List Value} (F:FunD K "stretch_from" "stretch_from" ZA4 f fd dv) (T:Bt K mg C_Join C_Pile C_Asker C_AskedRule)
  (t_Asker_ahead:Mt P w K mg base CX0 C_Asker "ahead" 3 ["self","p","q"] (ZCj C_Asker C_AskedRule ZBU))
  (t_Asker_many:Mt P w K mg base CX0 C_Asker "many" 1 ["self"] (ZET C_Asker))
 :FnOk P w K mg base CX0 4 f fd ["asker","first","end"] (ZC3 C_Asker C_AskedRule):=by
 refine F.ok sc_stretch_from (fun vs H Q E h=>?_) (fun cdv A outer s H vs Q E hr h=>?_)
 .obtain ⟨ks,xs,a,rl,ru,tl,g,lg,pr,first,stop,e,rfl,st,he,hf,hstop,hk,hpr,q⟩:=h
  rfl
 obtain ⟨ks,xs,a,rl,ru,tl,g,lg,pr,first,stop,e,rfl,st,he,hf,hstop,hk,hpr,q⟩:=h
 refine ⟨_,(ZAB (ZAM (i:=3) sc_stretch_from.nd rfl (by walk_at "o") (ZBe (ZAS ZE1 (pv 2) ZCJ (ZAW _)) (ZCK t_Asker_many (hr.mono (by decide)) ZAY (pv 0)) (pv 2)))
  (ZAT
  (ZAB (ZAM (i:=4) sc_stretch_from.nd rfl (by walk_at "o") (ZAP ZAg (pv 1) ZAG))
  (ZAB (ZBB (ZAS ZFn (pv 4) (pv 3) (ZAW _))
  (ZAH (ZAV (ZBO (ZAA (pv 4) (ZAA ZCl ZAD))))) ZAb)
  (ZAB (ZAM (i:=5) sc_stretch_from.nd rfl (by walk_at "o") (ZBc t_Asker_ahead (hr.mono (by decide)) ZAY (pv 0) (ZAA (pv 4) (ZAA (pv 1) ZAD))))
  (ZAB (ZEy (i:=4) sc_stretch_from.nd rfl (by walk_at "o") ZAG ZE5)
  (ZAB (ZBs PassesOwn.never (PW.pt (ZDF (ZAS ZDB (pv 4) (pv 3) (ZAW _)) (ZCR (ZAS ZCm (ZBc t_Asker_ahead (hr.mono (by decide)) ZAY (pv 0) (ZAA (pv 4) (ZAA (ZAP ZBa (pv 4) ZAG) ZAD))) (pv 5) (ZAW _)))))
  (ZAH (ZEy (i:=4) sc_stretch_from.nd rfl (by walk_at "o") ZAG ZE5)))
  (ZAH (ZAV (ZBO (ZAA (pv 4) (ZAA (pv 5) ZAD)))))))))))),?_⟩
 walk_at "rd"
 apply once0
 .intro tailp
  rcases he with ⟨he1,es⟩ | he2
  .rw [if_pos he1]
   refine st.ha.meth (by walk_at "lk") ⟨a,rl,ru,tl,.non,_,xs.v,rfl,st.ha,st.hrl,?_⟩
   walk_at "rd"
   rw [st.len,<- es]
   exact tailp
  .subst he2
   rw [if_neg (by simp)]
   walk_at "rd"
   exact tailp
 refine ZAZ ?_
 walk_at "rd"
 by_cases h1:first+1=stop
 .rw [if_pos (by omega)]
  refine ⟨ZAX (by decide),fun t ht=>q _ t (first+1) false (ZAQ ht _).fr ZAF (.inl ⟨h1,h1,rfl⟩) ?_⟩
  rw [show asks first (min (first+1+1) stop)=[] from asks_none (by omega),yBB]
  exact st.mono (ZAQ ht _)
 rw [if_neg (by omega)]
 refine st.ha.meth (by walk_at "lk") ?_
 rw [show ((first:Int)+1)=((first+1:Nat):Int) by omega]
 refine st.ahead (p:=first+1) (q:=first) (by omega) (by omega) (by omega) (by omega) fun H1 f1 s1=>?_
 rw [if_pos (by omega)]
 refine ZBp (fun m σ H'=>∃ (k:Nat) (v2:Option V),m=stop-k /\ σ=[some (.ref a),some (.int first),v2,some (.int stop),some (.int k),some (.bl (dec ks (first+1)))] /\ first+1 < k /\ k <= stop /\ Fr [a,lg,tl] H H' /\ SitL C_Asker C_AskedRule H' ks xs a rl ru tl g lg (pr++asks first k) /\ ∀ i,first+1 <= i->i < k->dec ks i=dec ks (first+1)) ⟨_,first+2,_,rfl,rfl,by omega,by omega,f1,?_,fun i h1 h2=>by rw [show i=first+1 by omega]⟩ ?_
 .rw [show asks first (first+2)=[(first+1,first)] by rw [show first+2=(first+1)+1 from rfl,asks_snoc (yAA _),asks_none (yAA _)];rfl]
  rw [show max (first+1) first=first+1 by omega,show min (first+1) first=first by omega] at s1
  exact s1
 rintro m σ H' ⟨k,v2,rfl,rfl,hk1,hk2,fr,s,hall⟩
 walk_at "rd"
 have hlen:(pr++asks first k).length <= 80000:=by rw [yAD,ZEQ];omega
 by_cases hks:k < stop
 .rw [if_pos (by omega)]
  refine s.ha.meth (by walk_at "lk") ?_
  rw [show ((k:Int)-1)=((k-1:Nat):Int) by omega]
  refine s.ahead (p:=k) (q:=k-1) (by omega) (by omega) (by omega) hlen fun H2 f2 s2=>?_
  rw [if_pos (by omega)]
  rw [show max k (k-1)=k by omega,show min k (k-1)=k-1 by omega,yAL,<- asks_snoc (by omega)] at s2
  walk_at "rd"
  by_cases hd:dec ks k=dec ks (first+1)
  .rw [if_pos (show decide (kat ks k < kat ks (k-1))=dec ks (first+1) from hd)]
   refine ZBq ?_
   walk_at "rd"
   exact ⟨stop-(k+1),by omega,k+1,_,rfl,by rw [show ((k:Int)+1)=((k+1:Nat):Int) by omega],by omega,by omega,fr.trans f2,s2,fun i h1 h2=>by
    by_cases z:i=k
    .rw [z];exact hd
    .exact hall i h1 (by omega)⟩
  .rw [if_neg (show ¬ decide (kat ks k < kat ks (k-1))=dec ks (first+1) from hd)]
   refine ⟨ZAX (by decide),fun t ht=>q _ t k _ (fr.trans (f2.trans (ZAQ ht _).fr)) ZAF (.inr ⟨by omega,rfl,hk1,hk2,hall,fun _=>hd⟩) ?_⟩
   rw [show min (k+1) stop=k+1 by omega]
   exact s2.mono (ZAQ ht _)
 .rw [if_neg (by omega)]
  walk_at "rd"
  refine ⟨ZAX (by decide),fun t ht=>q _ t k _ (fr.trans (ZAQ ht _).fr) ZAF (.inr ⟨by omega,rfl,hk1,hk2,hall,fun z=>absurd z hks⟩) ?_⟩
  rw [show min (k+1) stop=k by omega]
  exact s.mono (ZAQ ht _)
theorem ok_in_turn {f:Addr} {fd:FuncData} (F:Fun K "in_turn" "in_turn" ZB5 f fd) (T:Bt K mg C_Join C_Pile C_Asker C_AskedRule)
 :FnOk P w K mg base CX0 1 f fd ["first","beyond","falling"] (ZD4):=by
 refine F.ok sc_in_turn (fun vs H Q E h=>?_) (fun cdv A outer s H vs Q E hr h=>?_)
 .obtain ⟨first,j,f,rfl,hf,hj,q⟩:=h
  rfl
 obtain ⟨first,j,f,rfl,hf,hj,q⟩:=h
 refine ⟨_,(ZAB (ZAM (i:=3) sc_in_turn.nd rfl (by walk_at "o") (ZAl (ZBN rfl) rfl T.b_list PyProof.Rows.boot_list (ZAA (ZAl ZC1 rfl T.b_range PyProof.Rows.boot_range (ZAA (pv 0) (ZAA (pv 1) ZAD))) ZAD)))
  (ZAB (ZBB (ZBZ (pv 2))
  (ZAH (ZAk (ZE0 PySem.F.plainAttrs_list PySem.F.slot_list_reverse PySem.F.type_list_reverse ZDC (pv 3)))) ZAb)
  (ZAH (ZAV (pv 3))))),?_⟩
 walk_at "rd"
 refine ⟨first,j,rfl,fun p hp=>⟨p,first,j,rfl,ZAF,by omega,fun l hl=>?_⟩⟩
 have S:Same H (upd (upd H p (.rng first j)) l (.lst ((ZDI (first:Int) (j:Int)).map V.int))):=((Same.refl H).new hp).new hl
 have hn:H l=none:=((Same.refl H).new hp).free hl
 rw [ZCu] at S ⊢
 cases f with
 | true=>
  rw [if_pos rfl]
  refine ⟨.inl ⟨rfl,_,SqL.of ZAF⟩,l,_,rfl,rfl,ZAF,?_⟩
  rw [ZDu]
  refine q l _ (((Same.refl H).new hp).new hl) hn ?_
  rw [ZAF]
  unfold ZCN nL
  rw [if_pos rfl,List.map_reverse]
 | false=>
  rw [if_neg (by decide)]
  refine q l _ S hn ?_
  rw [ZAF]
  rfl
theorem ok_spot_of {f:Addr} {fd:FuncData} (F:Fun K "spot_of" "spot_of" ZB2 f fd) (T:Bt K mg C_Join C_Pile C_Asker C_AskedRule)
  (t_Asker_ahead:Mt P w K mg base CX0 C_Asker "ahead" 3 ["self","p","q"] (ZCj C_Asker C_AskedRule ZBU))
 :FnOk P w K mg base CX0 4 f fd ["asker","order","place"] (ZDy C_Asker C_AskedRule):=by
 refine F.ok sc_spot_of (fun vs H Q E h=>?_) (fun cdv A outer s H vs Q E hr h=>?_)
 .obtain ⟨ks,xs,a,rl,ru,tl,g,lg,ol,pr,os,pl,rfl,st,hol,nol,hos,hlt',hpl,hpr,q⟩:=h
  rfl
 obtain ⟨ks,xs,a,rl,ru,tl,g,lg,ol,pr,os,pl,rfl,st,hol,nol,hos,hlt',hpl,hpr,q⟩:=h
 refine ⟨_,(ZAB (ZAM (i:=3) sc_spot_of.nd rfl (by walk_at "o") ZAG)
  (ZAB (ZAM (i:=4) sc_spot_of.nd rfl (by walk_at "o") (ZAL ZAK rfl T.b_len PySem.boot_len (ZAA (pv 1) ZAD)))
  (ZAB (ZBs PassesOwn.never (ZAS ZDB (pv 3) (pv 4) (ZAW _))
  (ZAB (ZAM (i:=5) sc_spot_of.nd rfl (by walk_at "o") (ZAP ZB0 (ZAP ZAg (pv 3) (pv 4)) ZAG))
  (ZAH (ZBB (ZBZ (ZBc t_Asker_ahead (hr.mono (by decide)) ZAY (pv 0) (ZAA (ZAc ZAa (pv 1) (pv 5) (fun _ _=>rfl)) (ZAA (pv 2) ZAD))))
  (ZAH (ZAM (i:=3) sc_spot_of.nd rfl (by walk_at "o") (ZAP ZAg (pv 5) ZAG)))
  (ZAH (ZAM (i:=4) sc_spot_of.nd rfl (by walk_at "o") (pv 5)))))))
  (ZAH (ZAV (pv 3)))))),?_⟩
 walk_at "rd"
 refine ⟨ol,_,rfl,.inl (SqL.of hol),?_⟩
 rw [yAB]
 refine ZBp (fun m σ H'=>∃ (low high:Nat) (v5:Option V) (dn:List (Nat×Nat)),m=high-low /\ σ=[some (.ref a),some (.ref ol),some (.int pl),some (.int low),some (.int high),v5] /\ low <= high /\ high <= os.length /\ dn.length+(high-low) <= os.length /\ Fr [a,lg,tl] H H' /\ SitL C_Asker C_AskedRule H' ks xs a rl ru tl g lg (pr++dn) /\ ∀ r l,Halv ks os pl low high r l->Halv ks os pl 0 os.length r (dn++l)) ⟨_,0,os.length,_,[],rfl,rfl,yAI _,yAA _,by simp,.refl,by rw [yBB];exact st,fun r l h=>h⟩ ?_
 rintro m σ H' ⟨low,high,v5,dn,rfl,rfl,hlh,hho,hdn,fr,s,hh⟩
 walk_at "rd"
 by_cases hlt:low < high
 .rw [if_pos (by omega)]
  refine ZBq ?_
  walk_at "rd"
  have hm:(low+high) / 2 < os.length:=by omega
  obtain ⟨o,ho⟩:∃ o,os[(low+high) / 2]?=some o:=⟨_,yAJ hm⟩
  have hop:=hlt' o (yAK ho)
  have hem:((low:Int)+high) / 2=((low+high) / 2:Nat):=by omega
  refine ⟨⟨by decide,by decide⟩,?_⟩
  rw [hem]
  refine s.ha.meth (by walk_at "lk") ?_
  refine ZAh (SqL.of (fr _ _ nol hol)) (ZCL ho) ?_
  refine s.ahead (p:=o) (q:=pl) (by omega) (by omega) hpl (by rw [yAD];omega) fun H2 f2 s2=>?_
  rw [if_neg (by omega)]
  rw [show max o pl=pl by omega,show min o pl=o by omega,yAL] at s2
  refine ⟨_,rfl,?_⟩
  by_cases hd:kat ks pl < kat ks o
  .rw [decide_eq_true hd,if_neg (by decide)]
   exact ⟨(low+high) / 2-low,by omega,low,(low+high) / 2,_,dn++[(pl,o)],rfl,rfl,by omega,by omega,by rw [yAD,yBD];omega,fr.trans f2,s2,fun r l h=>by rw [yAL];exact hh _ _ (.less hlt ho hd h)⟩
  .rw [decide_eq_false hd,if_pos (by decide)]
   exact ⟨high-((low+high) / 2+1),by omega,(low+high) / 2+1,high,_,dn++[(pl,o)],rfl,rfl,by omega,by omega,by rw [yAD,yBD];omega,fr.trans f2,s2,fun r l h=>by rw [yAL];exact hh _ _ (.more hlt ho hd h)⟩
 .rw [if_neg (by omega)]
  walk_at "rd"
  have z:=hh low [] (.done hlt)
  rw [yBB] at z
  exact q H' low dn fr z s
theorem ok_filled {f:Addr} {fd:FuncData} {dv:List Value} (F:FunD K "filled" "filled" ZCY f fd dv) (T:Bt K mg C_Join C_Pile C_Asker C_AskedRule)
  (f_stretch_from:Fn P w K mg base CX0 "stretch_from" 4 ["asker","first","end"] (ZC3 C_Asker C_AskedRule))
  (f_in_turn:Fn P w K mg base CX0 "in_turn" 1 ["first","beyond","falling"] (ZD4))
  (f_spot_of:Fn P w K mg base CX0 "spot_of" 4 ["asker","order","place"] (ZDy C_Asker C_AskedRule))
  (t_Asker_many:Mt P w K mg base CX0 C_Asker "many" 1 ["self"] (ZET C_Asker))
 :FnOk P w K mg base CX0 5 f fd ["asker","first","least","end"] (ZD7 C_Asker C_AskedRule):=by
 refine F.ok sc_filled (fun vs H Q E h=>?_) (fun cdv A outer s H vs Q E hr h=>?_)
 .obtain ⟨ks,xs,a,rl,ru,tl,g,lg,pr,first,least,stop,e,rfl,st,hprl,he,hf,hstop,hk,hls,q⟩:=h
  rfl
 obtain ⟨ks,xs,a,rl,ru,tl,g,lg,pr,first,least,stop,e,rfl,st,hprl,he,hf,hstop,hk,hls,q⟩:=h
 refine ⟨_,(ZAB (ZAM (i:=4) sc_filled.nd rfl (by walk_at "o") (ZBe (ZAS ZE1 (pv 3) ZCJ (ZAW _)) (ZCK t_Asker_many (hr.mono (by decide)) ZAY (pv 0)) (pv 3)))
  (ZAT
  (ZAB (ZAM (i:=5) sc_filled.nd rfl (by walk_at "o") (ZA8 f_stretch_from (hr.mono (by decide)) rfl ZAY (ZAA (pv 0) (ZAA (pv 1) (ZAA (pv 4) ZAD)))))
  (ZAB (ZAM (i:=6) sc_filled.nd rfl (by walk_at "o") (ZAc ZA2 (pv 5) ZAG (fun _ _=>rfl)))
  (ZAB (ZAM (i:=7) sc_filled.nd rfl (by walk_at "o") (ZA8 f_in_turn (hr.mono (by decide)) rfl ZAY (ZAA (pv 1) (ZAA (pv 6) (ZAA (ZAc ZA2 (pv 5) ZAG (fun _ _=>rfl)) ZAD)))))
  (ZAT
  (ZAB (ZDH PassesOwn.never rfl (pi_range2 rfl T.b_range (ZAA (pv 6) (ZAA (ZAL (ZB8 rfl) rfl T.b_min PyProof.Rows.boot_min (ZAA (ZAP ZAg (pv 1) (pv 2)) (ZAA (pv 4) ZAD))) ZAD))) (ZAp (i:=8) sc_filled.nd rfl (by walk_at "o"))
  (ZAH (ZAk (ZCk PySem.F.plainAttrs_list PySem.F.slot_list_insert PySem.F.type_list_insert mt_insert (pv 7) (ZAA (ZA8 f_spot_of (hr.mono (by decide)) rfl ZAY (ZAA (pv 0) (ZAA (pv 7) (ZAA (pv 8) ZAD)))) (ZAA (pv 8) ZAD))))))
  (ZAH (ZAV (ZBO (ZAA (pv 6) (ZAA (pv 7) ZAD)))))))))))),?_⟩
 walk_at "rd"
 apply once0
 .intro tailp
  rcases he with ⟨he1,es⟩ | he2
  .rw [if_pos he1]
   refine st.ha.meth (by walk_at "lk") ⟨a,rl,ru,tl,.non,_,xs.v,rfl,st.ha,st.hrl,?_⟩
   walk_at "rd"
   rw [st.len,<- es]
   exact tailp
  .subst he2
   rw [if_neg (by simp)]
   walk_at "rd"
   exact tailp
 refine ZAZ ?_
 walk_at "rd"
 refine ⟨ks,xs,a,rl,ru,tl,g,lg,pr,first,stop,.int stop,rfl,st,.inr rfl,hf,hstop,hk,by omega,fun H1 t j f fr1 ht hb st1=>?_⟩
 have hj:first+1 <= j /\ j <= stop:=by rcases hb with ⟨z1,z2,_⟩ | ⟨_,_,z1,z2,_⟩ <;> omega
 refine ZA0 (SqT.of ht) (ZAf (by decide) rfl) ?_
 refine ZA0 (SqT.of ht) (ZAf (by decide) rfl) ⟨first,j,f,rfl,by omega,by omega,fun ol H2 s2 hnol hol=>?_⟩
 have st2:=st1.mono s2
 have nol:ol∉[a,lg,tl]:=by
  obtain ⟨ws,hlg,_⟩:=st1.hlg
  obtain ⟨ts,htl,_⟩:=st1.htl
  intro z
  rcases yAE.mp z with z | z
  .exact st1.ha.neN hnol z
  rcases yAE.mp z with z | z
  .rw [z,hlg] at hnol;cases hnol
  .rw [yAM.mp z,htl] at hnol;cases hnol
 have nrl:rl≠ol /\ lg≠ol /\ tl≠ol:=by
  refine ⟨ZAE st1.hrl hnol,fun z=>nol (by rw [<- z];exact yAC _ yAF),fun z=>nol (by rw [<- z];exact yAC _ (yAC _ yAF))⟩
 have hnH:H ol=none:=by
  cases z:H ol with
  | none=>rfl
  | some o=>rw [fr1 _ _ nol z] at hnol;cases hnol
 refine ZAZ ?_
 walk_at "rd"
 refine ⟨_,_,rfl,?_⟩
 rw [ZFa,show min ((first:Int)+least) stop=(min (first+least) stop:Nat) by omega]
 have o0:=hb.ord
 refine forR2_of (by omega) (ZEJ (fun i σ H'=>∃ (v3 v8:Option V) (os:List Nat) (dn:List (Nat×Nat)),σ=[some (.ref a),some (.int first),some (.int least),v3,some (.int stop),some (.ref t),some (.int j),some (.ref ol),v8] /\ H' ol=some (.lst (nL os)) /\ OrdN ks first (j+i) os /\ dn.length <= i * 120 /\ Fr [a,lg,tl] H H' /\ H' t=some (.tup [.int (j:Nat),.bl f]) /\ SitL C_Asker C_AskedRule H' ks xs a rl ru tl g lg (pr++(asks first (min (j+1) stop)++dn)) /\ ∀ os' l,Put ks os (j+i) (min (first+least) stop) os' l->Put ks (ZCN first j f) j (min (first+least) stop) os' (dn++l)) ⟨_,_,ZCN first j f,[],rfl,hol,o0,by simp,fr1.trans s2.fr,s2 _ _ ht,by rw [yBB];exact st2,fun os' l h=>h⟩ ?_ ?_)
 .rintro i σ H' hi ⟨v3,v8,os,dn,rfl,hol',ho,hdn,fr,ht',st',hput⟩
  walk_at "rd"
  have hi':j+i < min (first+least) stop:=by omega
  have hlen:=ho.len
  rw [show ((j:Int)+i)=((j+i:Nat):Int) by omega]
  refine ⟨.inl ⟨rfl,_,SqL.of hol'⟩,ks,xs,a,rl,ru,tl,g,lg,ol,_,os,j+i,rfl,st',hol',nol,by omega,fun x hx=>((ho.mem x).mp hx).2,by omega,by rw [yAD,yAD,ZEQ];omega,fun H3 r l fr3 hh st3=>?_⟩
  have hb2:=hh.bounds (yAI _)
  have hol3:=fr3 _ _ nol hol'
  refine ⟨ol,_,_,_,rfl,rfl,hol3,ZBY (by rw [yAB];omega),by omega,?_⟩
  rw [insV_nL hb2.2]
  have ll:=hh.len
  refine ⟨_,_,insN os r (j+i),dn++l,rfl,ZAF,by rw [show j+(i+1)=j+i+1 by omega];exact ho.ins (by omega) hh,by rw [yAD];omega,fun b o n h=>?_,?_,?_,fun os' l' hp=>?_⟩
  .rw [ZAI (ZAE h hnH)]
   exact fr3 _ _ n (fr _ _ n h)
  .have nt:t≠ol:=fun z=>by rw [z,hol'] at ht';cases ht'
   rw [ZAI nt]
   exact fr3 _ _ (st'.tupS ht' (fun _ z=>by cases z) (fun _ _ _ z=>by cases z)) ht'
  .rw [show pr++(asks first (min (j+1) stop)++(dn++l))=pr++(asks first (min (j+1) stop)++dn)++l by simp only [yAL]]
   exact st3.upd hol3 nrl
  .rw [yAL]
   exact hput _ _ (.cons hi' hh (by rw [show j+i+1=j+(i+1) by omega];exact hp))
 rintro σ H' ⟨v3,v8,os,dn,rfl,hol',ho,hdn,fr,ht',st',hput⟩
 walk_at "rd"
 refine ⟨ZAX (by decide),fun t2 ht2=>?_⟩
 have z:=hput os [] (.nil (by omega))
 rw [yBB] at z
 exact q _ t2 ol j f os dn (fr.trans (ZAQ ht2 _).fr) hnH nol ZAF (ZAQ ht2 _ _ _ hol') hb z (st'.mono (ZAQ ht2 _))
theorem ok_leap {f:Addr} {fd:FuncData} (F:Fun K "leap" "leap" ZDm f fd) (T:Bt K mg C_Join C_Pile C_Asker C_AskedRule)
  (t_Asker_ahead:Mt P w K mg base CX0 C_Asker "ahead" 3 ["self","p","q"] (ZCj C_Asker C_AskedRule ZBU))
 :FnOk P w K mg base CX0 4 f fd ["asker","order","first","place"] (ZFN C_Asker C_AskedRule):=by
 refine F.ok sc_leap (fun vs H Q E h=>?_) (fun cdv A outer s H vs Q E hr h=>?_)
 .obtain ⟨ks,xs,a,rl,ru,tl,g,lg,ol,pr,os,f,pl,z,rfl,st,hol,nol,hos,hlt',hpl,hpr,hfz,hzn,hlx,q⟩:=h
  rfl
 obtain ⟨ks,xs,a,rl,ru,tl,g,lg,ol,pr,os,f,pl,z,rfl,st,hol,nol,hos,hlt',hpl,hpr,hfz,hzn,hlx,q⟩:=h
 refine ⟨_,(ZAB (ZAM (i:=4) sc_leap.nd rfl (by walk_at "o") (ZAP ZBa (pv 2) ZAG))
  (ZAB (ZAM (i:=5) sc_leap.nd rfl (by walk_at "o") (pv 2))
  (ZAB (ZAM (i:=6) sc_leap.nd rfl (by walk_at "o") ZAG)
  (ZAB (ZBs PassesOwn.never (PW.pt (ZDF (ZAS ZDB (pv 5) (ZAL ZAK rfl T.b_len PySem.boot_len (ZAA (pv 1) ZAD)) (ZAW _)) (ZCR (ZBZ (ZBc t_Asker_ahead (hr.mono (by decide)) ZAY (pv 0) (ZAA (ZAc ZAa (pv 1) (pv 5) (fun _ _=>rfl)) (ZAA (pv 3) ZAD)))))))
  (ZAB (ZAM (i:=4) sc_leap.nd rfl (by walk_at "o") (pv 5))
  (ZAB (ZEy (i:=5) sc_leap.nd rfl (by walk_at "o") (pv 6) ZE5)
  (ZAH (ZAM (i:=6) sc_leap.nd rfl (by walk_at "o") (ZAP ZCf (pv 6) ZAG))))))
  (ZAB (ZAM (i:=5) sc_leap.nd rfl (by walk_at "o") (ZAL (ZB8 rfl) rfl T.b_min PyProof.Rows.boot_min (ZAA (pv 5) (ZAA (ZAL ZAK rfl T.b_len PySem.boot_len (ZAA (pv 1) ZAD)) ZAD))))
  (ZAT
  (ZAB (ZBs PassesOwn.never (ZAS ZFX (ZAP ZBa (pv 5) (pv 4)) ZAG (ZAW _))
  (ZAB (ZAM (i:=7) sc_leap.nd rfl (by walk_at "o") (ZAP ZB0 (ZAP ZAg (pv 4) (pv 5)) ZAG))
  (ZAH (ZBB (ZBZ (ZBc t_Asker_ahead (hr.mono (by decide)) ZAY (pv 0) (ZAA (ZAc ZAa (pv 1) (pv 7) (fun _ _=>rfl)) (ZAA (pv 3) ZAD))))
  (ZAH (ZAM (i:=4) sc_leap.nd rfl (by walk_at "o") (pv 7)))
  (ZAH (ZAM (i:=5) sc_leap.nd rfl (by walk_at "o") (pv 7)))))))
  (ZAH (ZAV (ZAP ZBa (pv 5) (pv 2))))))))))),?_⟩
 walk_at "rd"
 apply once4 (fun (lo hi:Nat) (_:Int) (H':Hp)=>f <= lo /\ lo <= z /\ z <= hi /\ hi <= os.length /\ ∃ dn:List Nat,dn.length <= os.length+1 /\ Fr [a,lg,tl] H H' /\ SitL C_Asker C_AskedRule H' ks xs a rl ru tl g lg (pr++dn.map (ask1 os pl)) /\ ∀ L,Bin z lo hi L->Gal z os.length f f f (dn++L))
 .intro tailp
  refine ZBp (fun m σ H'=>∃ (lo far:Nat) (dn:List Nat),m=os.length-lo /\ σ=[some (.ref a),some (.ref ol),some (.int f),some (.int pl),some (.int ((lo:Int)-1)),some (.int far),some (.int ((far:Int)-f+1)),none] /\ LIn1 C_Asker C_AskedRule ks xs a rl ru tl g lg pr os f pl z H lo far dn H') ⟨_,f,f,[],rfl,by rw [show (f:Int)-f+1=1 by omega],yAA _,hfz,yAA _,by simp,.refl,by rw [List.map_nil,yBB];exact st,fun L h=>h⟩ ?_
  rintro m σ H' ⟨lo,far,dn,rfl,rfl,h1,h2,h3,h4,fr,s,hg⟩
  walk_at "rd"
  have hol':=fr _ _ nol hol
  refine ⟨ol,_,rfl,.inl (SqL.of hol'),?_⟩
  rw [yAB]
  by_cases hf:far < os.length
  .rw [if_pos (by omega)]
   obtain ⟨o,ho⟩:∃ o,os[far]?=some o:=⟨_,yAJ hf⟩
   have hop:=hlt' o (yAK ho)
   have hlo:=hlx far o (by omega) ho
   refine s.ha.meth (by walk_at "lk") ?_
   refine ZAh (SqL.of hol') (ZCL ho) ?_
   refine s.ahead (p:=o) (q:=pl) hop.2 hop.1 hpl (by rw [yAD,yAB];omega) fun H2 f2 s2=>?_
   rw [ZER hop.2]
   have ea:[(max o pl,min o pl)]=[far].map (ask1 os pl):=by
    show _=[ask1 os pl far]
    unfold ask1
    rw [ho]
    rfl
   rw [yAL,ea,<- yAR] at s2
   refine ⟨_,rfl,?_⟩
   by_cases hd:lx ks o pl
   .rw [decide_eq_true hd,if_pos rfl]
    refine ZBq ?_
    walk_at "rd"
    have hfz':=hlo.mp hd
    exact ⟨.inr ⟨by decide,by decide⟩,os.length-(far+1),by omega,far+1,2 * far-f+1,dn++[far],rfl,by rw [show ((far+1:Nat):Int)-1=far by omega,show (far:Int)+(far-f+1)=((2 * far-f+1:Nat):Int) by omega,show (far:Int)-f+1=(far:Int)-f+1 from rfl,show ((far:Int)-f+1) * 2=((2 * far-f+1:Nat):Int)-f+1 by omega],by omega,by omega,by omega,by rw [yAD,yBD];omega,fr.trans f2,s2,fun L h=>by rw [yAL];exact hg _ (.more hf hfz' h)⟩
   .rw [decide_eq_false hd,if_neg (by decide)]
    have hfz':z <= far:=by
     rcases yCA far z with y | y
     .exact absurd (hlo.mpr y) hd
     .exact y
    refine ⟨ol,_,rfl,.inl (SqL.of (f2 _ _ nol hol')),_,_,rfl,?_⟩
    rw [yAB,ZFa,show min (far:Int) os.length=(far:Nat) by omega]
    generalize (far:Int)-f+1=wd
    exact tailp lo far wd H2 ⟨h1,h2,hfz',by omega,dn++[far],by rw [yAD,yBD];omega,fr.trans f2,s2,fun L h=>by rw [yAL];exact hg _ (.stop hf hfz' h)⟩
  .rw [if_neg (by omega)]
   refine ⟨ol,_,rfl,.inl (SqL.of hol'),_,_,rfl,?_⟩
   rw [yAB,ZFa,show min (far:Int) os.length=(os.length:Nat) by omega]
   exact tailp lo os.length _ H' ⟨h1,h2,hzn,yAA _,dn,by omega,fr,s,fun L h=>hg _ (.out (by omega) h)⟩
 rintro lo hi wd H1 ⟨h1,h2,h3,h4,dn,h5,fr1,st1,hg⟩
 refine ZAZ ?_
 walk_at "rd"
 refine ZBp (fun m σ H'=>∃ (lo hi:Nat) (v7:Option V) (dn:List Nat),m=hi-lo /\ σ=[some (.ref a),some (.ref ol),some (.int f),some (.int pl),some (.int ((lo:Int)-1)),some (.int hi),some (.int wd),v7] /\ LIn2 C_Asker C_AskedRule ks xs a rl ru tl g lg pr os f pl z H lo hi dn H') ⟨_,lo,hi,_,dn,rfl,rfl,h1,h2,h3,h4,by omega,fr1,st1,hg⟩ ?_
 clear h1 h2 h3 h4 h5 fr1 st1 hg
 rintro m σ H' ⟨lo,hi,v7,dn,rfl,rfl,h1,h2,h3,h4,h5,fr,s,hg⟩
 walk_at "rd"
 by_cases hlt:lo < hi
 .rw [if_pos (by omega)]
  refine ZBq ?_
  walk_at "rd"
  refine ⟨⟨by decide,by decide⟩,?_⟩
  rw [show ((lo:Int)-1+hi) / 2=((lo+hi-1) / 2:Nat) by omega]
  have hm:(lo+hi-1) / 2 < os.length:=by omega
  obtain ⟨o,ho⟩:∃ o,os[(lo+hi-1) / 2]?=some o:=⟨_,yAJ hm⟩
  have hop:=hlt' o (yAK ho)
  have hlo:=hlx _ o (by omega) ho
  have hol':=fr _ _ nol hol
  refine s.ha.meth (by walk_at "lk") ?_
  refine ZAh (SqL.of hol') (ZCL ho) ?_
  refine s.ahead (p:=o) (q:=pl) hop.2 hop.1 hpl (by rw [yAD,yAB];omega) fun H2 f2 s2=>?_
  rw [ZER hop.2]
  have ea:[(max o pl,min o pl)]=[(lo+hi-1) / 2].map (ask1 os pl):=by
   show _=[ask1 os pl ((lo+hi-1) / 2)]
   unfold ask1
   rw [ho]
   rfl
  rw [yAL,ea,<- yAR] at s2
  refine ⟨_,rfl,?_⟩
  by_cases hd:lx ks o pl
  .rw [decide_eq_true hd,if_pos rfl]
   exact ⟨hi-((lo+hi-1) / 2+1),by omega,(lo+hi-1) / 2+1,hi,_,dn++[(lo+hi-1) / 2],rfl,by rw [show (((lo+hi-1) / 2+1:Nat):Int)-1=((lo+hi-1) / 2:Nat) by omega],by omega,hlo.mp hd,h3,h4,by rw [yAD,yBD];omega,fr.trans f2,s2,fun L h=>by rw [yAL];exact hg _ (.more hlt (hlo.mp hd) h)⟩
  .rw [decide_eq_false hd,if_neg (by decide)]
   have hz':z <= (lo+hi-1) / 2:=by
    rcases yCA ((lo+hi-1) / 2) z with y | y
    .exact absurd (hlo.mpr y) hd
    .exact y
   exact ⟨(lo+hi-1) / 2-lo,by omega,lo,(lo+hi-1) / 2,_,dn++[(lo+hi-1) / 2],rfl,rfl,h1,h2,hz',by omega,by rw [yAD,yBD];omega,fr.trans f2,s2,fun L h=>by rw [yAL];exact hg _ (.less hlt hz' h)⟩
 .rw [if_neg (by omega)]
  walk_at "rd"
  have e:lo=hi:=by omega
  subst e
  have y:=hg [] .done
  rw [yBB] at y
  rw [show (lo:Int)-f=((z-f:Nat):Int) by omega]
  exact q H' dn fr y s
theorem ok_Join_init {f:Addr} {fd:FuncData} (F:Fun K "__init__" "Join.__init__" ZBT f fd) (T:Bt K mg C_Join C_Pile C_Asker C_AskedRule)
 :FnOk P w K mg base CX0 1 f fd ["self","asker","left","right"] (ZEj C_Join):=by
 refine F.ok sc_Join_init (fun vs H Q E h=>?_) (fun cdv A outer s H vs Q E hr h=>?_)
 .obtain ⟨x,dx,ak,al,ar,ls,rs,rfl,hx,hal,har,q⟩:=h
  rfl
 obtain ⟨x,dx,ak,al,ar,ls,rs,rfl,hx,hal,har,q⟩:=h
 refine ⟨_,(ZAB (ZBL (pv 0) (pv 1) rfl)
  (ZAB (ZBL (pv 0) (ZBO (ZAA (ZAl ZBI rfl T.b_list PyProof.Rows.boot_list (ZAA (pv 2) ZAD)) (ZAA (ZAl ZBI rfl T.b_list PyProof.Rows.boot_list (ZAA (pv 3) ZAD)) ZAD))) rfl)
  (ZAB (ZBL (pv 0) (ZBP (ZAA ZAG (ZAA ZAG ZAD))) rfl)
  (ZAH (ZBL (pv 0) (ZBP ZAD) rfl))))),?_⟩
 walk_at "rd"
 have nal:al≠x:=fun z=>by rw [z,hx] at hal;cases hal
 have nar:ar≠x:=fun z=>by rw [z,hx] at har;cases har
 refine setX hx T.cl_Join T.n_Join_asker (by decide) fun H2 x2 k2=>?_
 walk_at "rd"
 refine ⟨al,_,rfl,.inl (SqL.of (by rw [k2 al nal];exact hal)),fun la hla=>?_⟩
 obtain ⟨H3,e3,s3,h3⟩:=newH hla (.lst (nL ls))
 rw [e3];clear e3
 refine ⟨ar,_,rfl,.inl (SqL.of (s3 _ _ (by rw [k2 ar nar];exact har))),fun ra hra=>?_⟩
 obtain ⟨H4,e4,s4,h4⟩:=newH hra (.lst (nL rs))
 rw [e4];clear e4
 refine ⟨ZAX (by decide),fun sd hsd=>?_⟩
 obtain ⟨H5,e5,s5,h5⟩:=newH hsd (.tup [.ref la,.ref ra])
 rw [e5];clear e5
 have x5:=s5 _ _ (s4 _ _ (s3 _ _ x2))
 refine setX x5 T.cl_Join T.n_Join_sides ZFm fun H6 x6 k6=>?_
 walk_at "rd"
 refine ⟨ZAX (by decide),fun tk htk=>?_⟩
 obtain ⟨H7,e7,s7,h7⟩:=newH htk (.lst [.int 0,.int 0])
 rw [e7];clear e7
 have x7:=s7 _ _ x6
 refine setX x7 T.cl_Join T.n_Join_taken ZFl fun H8 x8 k8=>?_
 walk_at "rd"
 refine ⟨ZAX (by decide),fun pc hpc=>?_⟩
 obtain ⟨H9,e9,s9,h9⟩:=newH hpc (.lst [])
 rw [e9];clear e9
 have x9:=s9 _ _ x8
 refine setX x9 T.cl_Join T.n_Join_places ZFk fun HA xA kA=>?_
 have nla:la≠x:=Ne.symm (ZAE x2 hla)
 have nra:ra≠x:=Ne.symm (ZAE (s3 _ _ x2) hra)
 have nsd:sd≠x:=Ne.symm (ZAE (s4 _ _ (s3 _ _ x2)) hsd)
 have ntk:tk≠x:=Ne.symm (ZAE x6 htk)
 have npc:pc≠x:=Ne.symm (ZAE x8 hpc)
 have up5:∀ b o,b≠x->H5 b=some o->HA b=some o:=fun b o n e=>by
  rw [kA b n]
  refine s9 _ _ ?_
  rw [k8 b n]
  refine s7 _ _ ?_
  rw [k6 b n]
  exact e
 have up:∀ b o,b≠x->H b=some o->H5 b=some o:=fun b o n e=>s5 _ _ (s4 _ _ (s3 _ _ (by rw [k2 b n];exact e)))
 have gla:=up5 la _ nla (s5 _ _ (s4 _ _ h3))
 have gra:=up5 ra _ nra (s5 _ _ h4)
 have gsd:=up5 sd _ nsd h5
 have g8:H8 tk=some (.lst [.int 0,.int 0]):=by rw [k8 tk ntk];exact h7
 have gtk:HA tk=some (.lst [.int 0,.int 0]):=by rw [kA tk ntk];exact s9 _ _ g8
 have gpc:HA pc=some (.lst []):=by rw [kA pc npc];exact h9
 have f6:∀ b,b≠x->H6 b=none->H b=none:=fun b n e=>by
  cases eb:H b with
  | none=>rfl
  | some o=>have:=up b o n eb;rw [k6 b n,this] at e;cases e
 have f8:∀ b,b≠x->H8 b=none->H b=none:=fun b n e=>f6 b n (s7.free (by rw [<- k8 b n];exact e))
 have l5:H6 la=some (.lst (nL ls)):=by rw [k6 la nla];exact s5 _ _ (s4 _ _ h3)
 have r5:H6 ra=some (.lst (nL rs)):=by rw [k6 ra nra];exact s5 _ _ h4
 have l8:H8 la=some (.lst (nL ls)):=by rw [k8 la nla];exact s7 _ _ l5
 have r8:H8 ra=some (.lst (nL rs)):=by rw [k8 ra nra];exact s7 _ _ r5
 refine q sd la ra tk pc HA (fun b o n e=>up5 b o n (up b o n e)) ?_ ?_ ?_ (f6 tk ntk htk) (f8 pc npc hpc) ⟨(Ins.of xA (yAP ZF2 (by decide))).congr fun f=>by simp only [ZAj,lkc],gsd,gla,gra,gtk,gpc,ZAE g8 hpc,ZAE l5 htk,ZAE l8 hpc,ZAE r5 htk,ZAE r8 hpc⟩
 .cases eb:H sd with
  | none=>rfl
  | some o=>have:=s4 _ _ (s3 _ _ (by rw [k2 sd nsd];exact eb));rw [this] at hsd;cases hsd
 .cases eb:H la with
  | none=>rfl
  | some o=>rw [k2 la nla,eb] at hla;cases hla
 .cases eb:H ra with
  | none=>rfl
  | some o=>have:=s3 ra o (by rw [k2 ra nra];exact eb);rw [this] at hra;cases hra
theorem ok_Join_has_more {f:Addr} {fd:FuncData} (F:Fun K "has_more" "Join.has_more" ZAy f fd) (T:Bt K mg C_Join C_Pile C_Asker C_AskedRule)
 :FnOk P w K mg base CX0 1 f fd ["self","side"] (ZCt C_Join):=by
 refine F.ok sc_Join_has_more (fun vs H Q E h=>?_) (fun cdv A outer s H vs Q E hr h=>?_)
 .obtain ⟨b,jn,ak,sd,ma,ta,tk,pc,ms,ts,i,j,dn,rfl,js,q⟩:=h
  rfl
 obtain ⟨b,jn,ak,sd,ma,ta,tk,pc,ms,ts,i,j,dn,rfl,js,q⟩:=h
 refine ⟨_,(ZAH (ZAV (ZBz ZDB (ZAc ZAa (ZAR (pv 0) rfl) (pv 1) (fun _ _=>rfl)) (ZAL ZAK rfl T.b_len PySem.boot_len (ZAA (ZAc ZA2 (ZAR (pv 0) rfl) (pv 1) (fun _ _=>rfl)) ZAD)) (ZAW _)))),?_⟩
 walk_at "rd"
 refine js.hj.get T.cl_Join T.n_Join_taken (by walk_at "lk") (ZAh (SqL.of js.htk) ZCe ?_)
 refine js.hj.get T.cl_Join T.n_Join_sides (by walk_at "lk") (ZA0 (SqT.of js.hsd) ZCe ⟨ma,_,rfl,.inl (SqL.of js.hma),?_⟩)
 rw [yAB]
 refine ⟨_,_,rfl,rfl,?_⟩
 have e:decide ((i:Int) < ms.length)=decide (i < ms.length):=by rw [decide_eq_decide];omega
 rw [<- e] at q
 exact q
theorem ok_Join_front {f:Addr} {fd:FuncData} (F:Fun K "front" "Join.front" ZBF f fd) (T:Bt K mg C_Join C_Pile C_Asker C_AskedRule)
 :FnOk P w K mg base CX0 1 f fd ["self","side"] (ZD6 C_Join):=by
 refine F.ok sc_Join_front (fun vs H Q E h=>?_) (fun cdv A outer s H vs Q E hr h=>?_)
 .obtain ⟨b,jn,ak,sd,ma,ta,tk,pc,ms,ts,i,j,dn,x,rfl,js,hx,q⟩:=h
  rfl
 obtain ⟨b,jn,ak,sd,ma,ta,tk,pc,ms,ts,i,j,dn,x,rfl,js,hx,q⟩:=h
 refine ⟨_,(ZAH (ZAV (ZAc ZAa (ZAc ZA2 (ZAR (pv 0) rfl) (pv 1) (fun _ _=>rfl)) (ZAc ZAa (ZAR (pv 0) rfl) (pv 1) (fun _ _=>rfl)) (fun _ _=>rfl)))),?_⟩
 walk_at "rd"
 refine js.hj.get T.cl_Join T.n_Join_sides (by walk_at "lk") (ZA0 (SqT.of js.hsd) ZCe ?_)
 refine js.hj.get T.cl_Join T.n_Join_taken (by walk_at "lk") (ZAh (SqL.of js.htk) ZCe ?_)
 exact ZAh (SqL.of js.hma) (ZCL hx) q
theorem ok_Join_take_on {f:Addr} {fd:FuncData} (F:Fun K "take_on" "Join.take_on" ZA5 f fd) (T:Bt K mg C_Join C_Pile C_Asker C_AskedRule)
 :FnOk P w K mg base CX0 1 f fd ["self","side","more"] (ZCs C_Join):=by
 refine F.ok sc_Join_take_on (fun vs H Q E h=>?_) (fun cdv A outer s H vs Q E hr h=>?_)
 .obtain ⟨b,jn,ak,sd,ma,ta,tk,pc,ms,ts,i,j,dn,m,rfl,js,hm,hl,q⟩:=h
  rfl
 obtain ⟨b,jn,ak,sd,ma,ta,tk,pc,ms,ts,i,j,dn,m,rfl,js,hm,hl,q⟩:=h
 refine ⟨_,(ZAB (ZAM (i:=3) sc_Join_take_on.nd rfl (by walk_at "o") (ZAc ZAa (ZAR (pv 0) rfl) (pv 1) (fun _ _=>rfl)))
  (ZAB (ZAk (ZCk PySem.F.plainAttrs_list PySem.F.slot_list_extend PySem.F.type_list_extend mt_extend (ZAR (pv 0) rfl) (ZAA (ZBu ZCP (ZAc ZA2 (ZAR (pv 0) rfl) (pv 1) (fun _ _=>rfl)) (ZBl (pv 3)) (ZBl (ZAP ZAg (pv 3) (pv 2)))) ZAD)))
  (ZAH (ZFS (ZAP ZAg (pv 3) (pv 2)) (ZFT (ZAR (pv 0) rfl) (pv 1) ZD9))))),?_⟩
 walk_at "rd"
 refine js.hj.get T.cl_Join T.n_Join_taken (by walk_at "lk") (ZAh (SqL.of js.htk) ZCe ?_)
 walk_at "rd"
 refine js.hj.get T.cl_Join T.n_Join_places (by walk_at "lk") ?_
 walk_at "rd"
 refine ⟨.inl ⟨rfl,_,SqL.of js.hpc⟩,?_⟩
 refine js.hj.get T.cl_Join T.n_Join_sides (by walk_at "lk") (ZA0 (SqT.of js.hsd) ZCe ?_)
 walk_at "rd"
 refine ZDE (SqL.of js.hma) fun c hc=>?_
 have ec:cutV (nL ms) (some (i:Int)) (some ((i:Int)+m))=nL ((ms.drop i).take m):=by
  unfold cutV
  rw [show (i:Int)+m=((i+m:Nat):Int) by omega,HT.sIx_nat,HT.sIx_nat,yAB,yBN (show i <= ms.length by omega),yBN (show i+m <= ms.length by omega),Nat.add_sub_cancel_left]
  unfold nL
  rw [<- yCN,<- List.map_take]
 rw [ec]
 obtain ⟨H1,e1,s1,h1⟩:=newH hc (.lst (nL ((ms.drop i).take m)))
 rw [e1];clear e1
 have js1:=js.mono s1
 refine ⟨pc,c,_,_,rfl,rfl,js1.hpc,h1,ZAX (by rw [yAB,yAB,yAN,yAU];omega),?_⟩
 have npt:tk≠pc:=js.ne.1
 have hj2:JS C_Join (upd H1 pc (.lst (nL dn++nL ((ms.drop i).take m)))) b jn ak sd ma ta tk pc ms ts i j (dn++(ms.drop i).take m):=js1.keep (Fr.upd (yAC _ yAF)) (by rw [ZAI npt];exact js1.htk) (by rw [ZAF];unfold nL;rw [yAR])
 have f1:Fr [tk,pc] H (upd H1 pc (.lst (nL dn++nL ((ms.drop i).take m)))):=s1.fr.trans (Fr.upd (yAC _ yAF))
 generalize upd H1 pc (.lst (nL dn++nL ((ms.drop i).take m)))=H2 at hj2 f1 ⊢
 refine hj2.hj.get T.cl_Join T.n_Join_taken (by walk_at "lk") ?_
 walk_at "rd"
 refine ⟨tk,_,_,_,rfl,rfl,hj2.htk,ZFc (by cases b <;> decide) (by rw [pk_len];cases b <;> decide),?_⟩
 rw [pk_set,show (i:Int)+m=((i+m:Nat):Int) by omega]
 refine q _ (f1.trans (Fr.upd yAF)) (hj2.keep (Fr.upd yAF) ZAF (by rw [ZAI (Ne.symm npt)];exact hj2.hpc))
theorem ok_Join_take_rest {f:Addr} {fd:FuncData} (F:Fun K "take_rest" "Join.take_rest" ZAt f fd) (T:Bt K mg C_Join C_Pile C_Asker C_AskedRule)
  (t_Join_take_on:Mt P w K mg base CX0 C_Join "take_on" 1 ["self","side","more"] (ZCs C_Join))
 :FnOk P w K mg base CX0 2 f fd ["self","side"] (ZC2 C_Join):=by
 refine F.ok sc_Join_take_rest (fun vs H Q E h=>?_) (fun cdv A outer s H vs Q E hr h=>?_)
 .obtain ⟨b,jn,ak,sd,ma,ta,tk,pc,ms,ts,i,j,dn,rfl,js,hi,hl,q⟩:=h
  rfl
 obtain ⟨b,jn,ak,sd,ma,ta,tk,pc,ms,ts,i,j,dn,rfl,js,hi,hl,q⟩:=h
 refine ⟨_,(ZAH (ZAk (ZBc t_Join_take_on (hr.mono (by decide)) ZAY (pv 0) (ZAA (pv 1) (ZAA (ZAP ZBa (ZAL ZAK rfl T.b_len PySem.boot_len (ZAA (ZAc ZA2 (ZAR (pv 0) rfl) (pv 1) (fun _ _=>rfl)) ZAD)) (ZAc ZAa (ZAR (pv 0) rfl) (pv 1) (fun _ _=>rfl))) ZAD))))),?_⟩
 walk_at "rd"
 refine js.hj.meth (by walk_at "lk") ?_
 refine js.hj.get T.cl_Join T.n_Join_sides (by walk_at "lk") (ZA0 (SqT.of js.hsd) ZCe ⟨ma,_,rfl,.inl (SqL.of js.hma),?_⟩)
 refine js.hj.get T.cl_Join T.n_Join_taken (by walk_at "lk") (ZAh (SqL.of js.htk) ZCe ?_)
 walk_at "rd"
 rw [yAB,show (ms.length:Int)-i=((ms.length-i:Nat):Int) by omega]
 refine ⟨b,jn,ak,sd,ma,ta,tk,pc,ms,ts,i,j,dn,ms.length-i,rfl,js,by omega,hl,fun H' f' js'=>?_⟩
 rw [show i+(ms.length-i)=ms.length by omega,yBP (by rw [yAU];exact yAA _)] at js'
 exact q H' f' js'
theorem ok_Join_win {f:Addr} {fd:FuncData} (F:Fun K "win" "Join.win" ZBk f fd) (T:Bt K mg C_Join C_Pile C_Asker C_AskedRule)
  (t_Join_take_on:Mt P w K mg base CX0 C_Join "take_on" 1 ["self","side","more"] (ZCs C_Join))
  (t_Asker_ahead:Mt P w K mg base CX0 C_Asker "ahead" 3 ["self","p","q"] (ZCj C_Asker C_AskedRule ZBU))
  (t_Join_front:Mt P w K mg base CX0 C_Join "front" 1 ["self","side"] (ZD6 C_Join))
 :FnOk P w K mg base CX0 4 f fd ["self"] (ZFx C_Asker C_AskedRule C_Join):=by
 refine F.ok sc_Join_win (fun vs H Q E h=>?_) (fun cdv A outer s H vs Q E hr h=>?_)
 .obtain ⟨ks,xs,a,rl,ru,tl,g,lg,jn,sd,la,ra,tk,pc,pr,ls,rs,dn,i,j,x,y,rfl,st,js,nx,hx,hy,hxy,hxk,hyk,hpr,hd1,hd2,q⟩:=h
  rfl
 obtain ⟨ks,xs,a,rl,ru,tl,g,lg,jn,sd,la,ra,tk,pc,pr,ls,rs,dn,i,j,x,y,rfl,st,js,nx,hx,hy,hxy,hxk,hyk,hpr,hd1,hd2,q⟩:=h
 refine ⟨_,(ZAB (ZAM (i:=1) sc_Join_win.nd rfl (by walk_at "o") (ZBe (ZBZ (ZBc t_Asker_ahead (hr.mono (by decide)) ZAY (ZAR (pv 0) rfl) (ZAA (ZBc t_Join_front (hr.mono (by decide)) ZAY (pv 0) (ZAA (ZBV rfl T.c_LEFT) ZAD)) (ZAA (ZBc t_Join_front (hr.mono (by decide)) ZAY (pv 0) (ZAA (ZBV rfl T.c_RIGHT) ZAD)) ZAD)))) (ZBV rfl T.c_LEFT) (ZBV rfl T.c_RIGHT)))
  (ZAB (ZAk (ZBc t_Join_take_on (hr.mono (by decide)) ZAY (pv 0) (ZAA (pv 1) (ZAA ZAG ZAD))))
  (ZAH (ZAV (pv 1))))),?_⟩
 walk_at "rd"
 refine js.hj.get T.cl_Join T.n_Join_asker (by walk_at "lk") (st.ha.meth (by walk_at "lk") ?_)
 refine js.hj.meth (by walk_at "lk") ⟨true,jn,a,sd,la,ra,tk,pc,ls,rs,i,j,dn,x,rfl,js,hx,?_⟩
 refine js.hj.meth (by walk_at "lk") ⟨false,jn,a,sd,ra,la,tk,pc,rs,ls,j,i,dn,y,rfl,js.swap,hy,?_⟩
 refine st.ahead (p:=x) (q:=y) hxy hxk hyk (by omega) fun H2 f2 s2=>?_
 rw [ZER hxy]
 have js2:=js.fr f2 nx.n1
 have hi:=(yAH.mp hx).1
 have hj:=(yAH.mp hy).1
 refine ⟨_,rfl,?_⟩
 by_cases hd:lx ks x y
 .rw [decide_eq_true hd,if_pos rfl]
  walk_at "rd"
  refine js2.hj.meth (by walk_at "lk") ⟨true,jn,a,sd,la,ra,tk,pc,ls,rs,i,j,dn,1,rfl,js2,by omega,by omega,fun H3 f3 js3=>?_⟩
  rw [ZDw hx] at js3
  have e:=q H3 ((fr5a f2).trans (fr5b f3)) (s2.apart f3 js2.lsts nx.n2) (fun _=>js3) (fun z=>absurd hd z)
  rw [decide_eq_true hd] at e
  exact e
 .rw [decide_eq_false hd,if_neg (by decide)]
  walk_at "rd"
  refine js2.hj.meth (by walk_at "lk") ⟨false,jn,a,sd,ra,la,tk,pc,rs,ls,j,i,dn,1,rfl,js2.swap,by omega,by omega,fun H3 f3 js3=>?_⟩
  rw [ZDw hy] at js3
  have e:=q H3 ((fr5a f2).trans (fr5b f3)) (s2.apart f3 js2.lsts nx.n2) (fun z=>absurd z hd) (fun _=>js3.swap)
  rw [decide_eq_false hd] at e
  exact e
theorem ok_Join_leap_on {f:Addr} {fd:FuncData} (F:Fun K "leap_on" "Join.leap_on" ZA6 f fd) (T:Bt K mg C_Join C_Pile C_Asker C_AskedRule)
  (f_leap:Fn P w K mg base CX0 "leap" 4 ["asker","order","first","place"] (ZFN C_Asker C_AskedRule))
  (t_Join_take_on:Mt P w K mg base CX0 C_Join "take_on" 1 ["self","side","more"] (ZCs C_Join))
  (t_Join_has_more:Mt P w K mg base CX0 C_Join "has_more" 1 ["self","side"] (ZCt C_Join))
  (t_Join_front:Mt P w K mg base CX0 C_Join "front" 1 ["self","side"] (ZD6 C_Join))
 :FnOk P w K mg base CX0 5 f fd ["self","side"] (ZD1 C_Asker C_AskedRule C_Join):=by
 refine F.ok sc_Join_leap_on (fun vs H Q E h=>?_) (fun cdv A outer s H vs Q E hr h=>?_)
 .obtain ⟨ks,xs,a,rl,ru,tl,g,lg,jn,sd,ma,ta,tk,pc,b,pr,ms,ts,dn,i,j,y,z,rfl,st,js,nx,hy,hml,hmk,hyk,hpr,hd,hiz,hzn,hlx,q⟩:=h
  rfl
 obtain ⟨ks,xs,a,rl,ru,tl,g,lg,jn,sd,ma,ta,tk,pc,b,pr,ms,ts,dn,i,j,y,z,rfl,st,js,nx,hy,hml,hmk,hyk,hpr,hd,hiz,hzn,hlx,q⟩:=h
 refine ⟨_,(ZAB (ZAM (i:=2) sc_Join_leap_on.nd rfl (by walk_at "o") (ZBe (ZAS ZCm (pv 1) (ZBV rfl T.c_LEFT) (ZAW _)) (ZBV rfl T.c_RIGHT) (ZBV rfl T.c_LEFT)))
  (ZAT
  (ZAB (ZAk (ZBc t_Join_take_on (hr.mono (by decide)) ZAY (pv 0) (ZAA (pv 1) (ZAA (ZA8 f_leap (hr.mono (by decide)) rfl ZAY (ZAA (ZAR (pv 0) rfl) (ZAA (ZAc ZA2 (ZAR (pv 0) rfl) (pv 1) (fun _ _=>rfl)) (ZAA (ZAc ZAa (ZAR (pv 0) rfl) (pv 1) (fun _ _=>rfl)) (ZAA (ZBc t_Join_front (hr.mono (by decide)) ZAY (pv 0) (ZAA (pv 2) ZAD)) ZAD))))) ZAD))))
  (ZAH (ZBB (ZBZ (ZBc t_Join_has_more (hr.mono (by decide)) ZAY (pv 0) (ZAA (pv 1) ZAD)))
  (ZAH (ZAk (ZBc t_Join_take_on (hr.mono (by decide)) ZAY (pv 0) (ZAA (pv 2) (ZAA ZAG ZAD))))) ZAb))))),?_⟩
 walk_at "rd"
 have hj:=(yAH.mp hy).1
 refine cut_var fun o ho=>?_
 obtain rfl:o=sv (!b):=by
  rcases ho with ⟨h,e⟩ | ⟨h,e⟩
  .revert h;cases b <;> intro h
   .cases h
   .exact e
  .revert h;cases b <;> intro h
   .exact e
   .exact absurd rfl h
 refine ZAZ ?_
 walk_at "rd"
 refine js.hj.meth (by walk_at "lk") ?_
 refine js.hj.get T.cl_Join T.n_Join_asker (by walk_at "lk") ?_
 refine js.hj.get T.cl_Join T.n_Join_sides (by walk_at "lk") (ZA0 (SqT.of js.hsd) ZCe ?_)
 refine js.hj.get T.cl_Join T.n_Join_taken (by walk_at "lk") (ZAh (SqL.of js.htk) ZCe ?_)
 refine js.hj.meth (by walk_at "lk") ⟨!b,jn,a,sd,ta,ma,tk,pc,ts,ms,j,i,dn,y,rfl,js.swap,hy,?_⟩
 refine ⟨ks,xs,a,rl,ru,tl,g,lg,ma,pr,ms,i,y,z,rfl,st,js.hma,nx.n1.2.2.1,hml,hmk,hyk,hpr,hiz,hzn,hlx,fun H2 G f2 hG s2=>?_⟩
 have js2:=js.fr f2 nx.n1
 refine ⟨b,jn,a,sd,ma,ta,tk,pc,ms,ts,i,j,dn,z-i,rfl,js2,by omega,by omega,fun H3 f3 js3=>?_⟩
 rw [show i+(z-i)=z by omega] at js3
 have s3:=s2.apart f3 js2.lsts nx.n2
 have f13:=(fr5a f2 (tk:=tk) (pc:=pc)).trans (fr5b f3)
 refine js3.hj.meth (by walk_at "lk") ⟨b,jn,a,sd,ma,ta,tk,pc,ms,ts,z,j,_,rfl,js3,?_⟩
 refine ⟨_,rfl,?_⟩
 by_cases hz:z < ms.length
 .rw [decide_eq_true hz,if_pos rfl]
  walk_at "rd"
  refine js3.hj.meth (by walk_at "lk") ⟨!b,jn,a,sd,ta,ma,tk,pc,ts,ms,j,z,_,1,rfl,js3.swap,by omega,by rw [yAD,yAN,yAU];omega,fun H4 f4 js4=>?_⟩
  have js5:=js4.swap
  rw [Bool.not_not,ZDw hy] at js5
  exact q H4 G (f13.trans (fr5b f4)) hG (s3.apart f4 js3.lsts nx.n2) (fun _=>js5) (fun e=>by omega)
 .rw [decide_eq_false hz,if_neg (by decide)]
  exact q H3 G f13 hG s3 (fun e=>absurd e hz) (fun _=>js3)
theorem ok_joined {f:Addr} {fd:FuncData} (F:Fun K "joined" "joined" ZCX f fd) (T:Bt K mg C_Join C_Pile C_Asker C_AskedRule)
  (t_Join_take_rest:Mt P w K mg base CX0 C_Join "take_rest" 2 ["self","side"] (ZC2 C_Join))
  (t_Join_has_more:Mt P w K mg base CX0 C_Join "has_more" 1 ["self","side"] (ZCt C_Join))
  (t_Join_win:Mt P w K mg base CX0 C_Join "win" 4 ["self"] (ZFx C_Asker C_AskedRule C_Join))
  (t_Join_leap_on:Mt P w K mg base CX0 C_Join "leap_on" 5 ["self","side"] (ZD1 C_Asker C_AskedRule C_Join))
  (k_Join:Kl P w K mg base CX0 "Join" C_Join 1 ["self","asker","left","right"] (ZEj C_Join))
 :FnOk P w K mg base CX0 6 f fd ["asker","left","right"] (ZD3 C_Asker C_AskedRule):=by
 refine F.ok sc_joined (fun vs H Q E h=>?_) (fun cdv A outer s H vs Q E hr h=>?_)
 .obtain ⟨ks,xs,a,rl,ru,tl,g,lg,al,ar,pr,ls,rs,rfl,st,hal,har,hll,hrl,hlk,hrk,hlp,hrp,hdis,hpr,q⟩:=h
  rfl
 obtain ⟨ks,xs,a,rl,ru,tl,g,lg,al,ar,pr,ls,rs,rfl,st,hal,har,hll,hrl,hlk,hrk,hlp,hrp,hdis,hpr,q⟩:=h
 refine ⟨_,(ZAB (ZAM (i:=3) sc_joined.nd rfl (by walk_at "o") (ZF4 k_Join (hr.mono (by decide)) rfl ZAY (ZAA (pv 0) (ZAA (pv 1) (ZAA (pv 2) ZAD)))))
  (ZAB (ZAM (i:=4) sc_joined.nd rfl (by walk_at "o") ZAG)
  (ZAB (ZAM (i:=5) sc_joined.nd rfl (by walk_at "o") (ZBV rfl T.c_LEFT))
  (ZAB (ZBs PassesOwn.never (PW.pt (ZDF (ZBZ (ZBc t_Join_has_more (hr.mono (by decide)) ZAY (pv 3) (ZAA (ZBV rfl T.c_LEFT) ZAD))) (ZCR (ZBZ (ZBc t_Join_has_more (hr.mono (by decide)) ZAY (pv 3) (ZAA (ZBV rfl T.c_RIGHT) ZAD))))))
  (ZAB (ZAM (i:=6) sc_joined.nd rfl (by walk_at "o") (ZCK t_Join_win (hr.mono (by decide)) ZAY (pv 3)))
  (ZAB (ZAM (i:=4) sc_joined.nd rfl (by walk_at "o") (ZBe (ZAS ZCm (pv 6) (pv 5) (ZAW _)) (ZAP ZAg (pv 4) ZAG) ZAG))
  (ZAB (ZAM (i:=5) sc_joined.nd rfl (by walk_at "o") (pv 6))
  (ZAH (ZBB (ZAS ZCm (pv 4) (ZBV rfl T.c_WINS_TO_LEAP) (ZAW _))
  (ZAB (ZAk (ZBc t_Join_leap_on (hr.mono (by decide)) ZAY (pv 3) (ZAA (pv 6) ZAD)))
  (ZAH (ZAM (i:=4) sc_joined.nd rfl (by walk_at "o") ZAG))) ZAb))))))
  (ZAB (ZAk (ZBc t_Join_take_rest (hr.mono (by decide)) ZAY (pv 3) (ZAA (ZBV rfl T.c_LEFT) ZAD)))
  (ZAB (ZAk (ZBc t_Join_take_rest (hr.mono (by decide)) ZAY (pv 3) (ZAA (ZBV rfl T.c_RIGHT) ZAD)))
  (ZAH (ZAV (ZAl ZBI rfl T.b_list PyProof.Rows.boot_list (ZAA (ZAR (pv 3) rfl) ZAD)))))))))),?_⟩
 walk_at "rd"
 intro jn dj hjn hdj njd
 have hjn':upd H dj (.own jn) jn=none:=by rw [ZAI (Ne.symm njd)];exact hjn
 have s1:Same H (upd (upd H dj (.own jn)) jn (.ins C_Join dj [])):=(ZAQ hdj _).trans (ZAQ hjn' _)
 refine ⟨jn,dj,a,al,ar,ls,rs,rfl,ZAF,s1 _ _ hal,s1 _ _ har,fun sd la ra tk pc H2 k2 nsd nla nra ntk npc js=>⟨rfl,?_⟩⟩
 have u2:Same H H2:=fun b o h=>k2 b o (ZAE h hjn) (s1 _ _ h)
 have st2:=st.mono u2
 have fH:∀ {b:Addr},upd (upd H dj (.own jn)) jn (.ins C_Join dj []) b=none->H b=none:=fun h=>s1.free h
 have n3:∀ {b:Addr},H b=none->b∉[a,lg,tl]:=fun {b} hb=>by
  obtain ⟨w1,h1,_⟩:=st.hlg
  obtain ⟨w2,h2,_⟩:=st.htl
  exact ZFo (st.ha.neN hb) (Ne.symm (ZAE h1 hb)) (Ne.symm (ZAE h2 hb))
 have n2:∀ {b:Addr} {o:HO},H b=some o->b∉[tk,pc]:=fun {b o} hb z=>by
  rcases yAE.mp z with z | z
  .exact ZAE hb (fH ntk) z
  .exact ZAE hb (fH npc) (yAM.mp z)
 have nx:NX a rl lg tl jn sd la ra tk pc:=by
  obtain ⟨w1,h1,_⟩:=st.hlg
  obtain ⟨w2,h2,_⟩:=st.htl
  exact ⟨⟨n3 hjn,n3 (fH nsd),n3 (fH nla),n3 (fH nra),n3 (fH ntk),n3 (fH npc)⟩,n2 st.hrl,n2 h1,n2 h2⟩
 have fr0:∀ {H':Hp},Fr [a,lg,tl,tk,pc] H2 H'->Fr [a,lg,tl] H H':=fun f b o n h=>f b o (fun z=>by
  rcases yAE.mp z with z | z
  .exact n (by rw [z];exact yAF)
  rcases yAE.mp z with z | z
  .exact n (by rw [z];exact yAC _ yAF)
  rcases yAE.mp z with z | z
  .exact n (by rw [z];exact yAC _ (yAC _ yAF))
  .exact n2 h z) (u2 _ _ h)
 refine ZBp (JInv C_Asker C_AskedRule C_Join ks xs a rl ru tl g lg al ar jn sd la ra tk pc pr ls rs H2) ⟨_,JInv.of (i:=0) (j:=0) (w:=0) (s:=true) (dn:=[]) (as:=[]) (yAI _) (yAI _) (by decide) rfl (yAA _) .refl (by rw [yBB];exact st2) js fun ps L h=>h⟩ ?_
 rintro mm' σ H' ⟨i,j,w,s,v6,dn,as,rfl,rfl,hi,hj,hw,hdl,hal',fr,s',js',hg⟩
 walk_at "rd"
 apply onceP (¬ (i < ls.length /\ j < rs.length))
 .intro tailp
  refine js'.hj.meth (by walk_at "lk") ⟨true,jn,a,sd,la,ra,tk,pc,ls,rs,i,j,dn,rfl,js',?_⟩
  refine ⟨_,rfl,?_⟩
  by_cases hil:i < ls.length
  .rw [decide_eq_true hil,if_pos rfl]
   refine js'.hj.meth (by walk_at "lk") ⟨false,jn,a,sd,ra,la,tk,pc,rs,ls,j,i,dn,rfl,js'.swap,?_⟩
   refine ⟨_,rfl,?_⟩
   by_cases hjr:j < rs.length
   .rw [decide_eq_true hjr,if_pos rfl]
    refine ZBq ?_
    walk_at "rd"
    have hx:=yAJ hil
    have hy:=yAJ hjr
    generalize ls[i]=x at hx
    generalize rs[j]=y at hy
    have hxm:=yAK hx
    have hym:=yAK hy
    have hxy:=hdis x hxm y hym
    refine js'.hj.meth (by walk_at "lk") ⟨ks,xs,a,rl,ru,tl,g,lg,jn,sd,la,ra,tk,pc,_,ls,rs,dn,i,j,x,y,rfl,s',js',nx,hx,hy,hxy,hlk x hxm,hrk y hym,by rw [yAD];omega,by omega,by omega,fun H3 f3 s3 jL jR=>?_⟩
    rw [yAL] at s3
    walk_at "rd"
    obtain ⟨b,ma,ta,ms,ts,mi,tj,u,v,eb,hbb,hmi,hu,hv,huv,jB,nxB,hmp,hml,htl',hmk,hvk,emm,eij,hgB⟩:∃ (b:Bool) (ma ta:Addr) (ms ts:List Nat) (mi tj u v:Nat),decide (lx ks x y)=b /\ ((b=true /\ ma=la /\ ta=ra /\ ms=ls /\ ts=rs)∨(b=false /\ ma=ra /\ ta=la /\ ms=rs /\ ts=ls)) /\ mi < ms.length /\ ms[mi]?=some u /\ ts[tj]?=some v /\ lx ks u v /\ JS C_Join H3 b jn a sd ma ta tk pc ms ts (mi+1) tj (dn++[u]) /\ NX a rl lg tl jn sd ma ta tk pc /\ ms.Pairwise (lx ks) /\ ms.length <= 250 /\ ts.length <= 250 /\ (∀ c∈ms,c < ks.length /\ c≠v) /\ v < ks.length /\ (max x y,min x y)=(max u v,min u v) /\ mi+tj=i+j /\ ∀ ps L,JT ks ms ts mi tj w (if b then s else !s) ps L->JT ks ms ts 0 0 0 b (dn++ps) (as++L):=by
     by_cases hd:lx ks x y
     .exact ⟨true,la,ra,ls,rs,i,j,x,y,decide_eq_true hd,.inl ⟨rfl,rfl,rfl,rfl,rfl⟩,hil,hx,hy,hd,jL hd,nx,hlp,hll,hrl,fun c hc=>⟨hlk c hc,hdis c hc y hym⟩,hrk y hym,rfl,rfl,fun ps L h=>hg ps L h⟩
     .exact ⟨false,ra,la,rs,ls,j,i,y,x,decide_eq_false hd,.inr ⟨rfl,rfl,rfl,rfl,rfl⟩,hjr,hy,hx,lx_tot hxy hd,(jR hd).swap,nx.swap,hrp,hrl,hll,fun c hc=>⟨hrk c hc,fun e=>hdis x hxm c hc e.symm⟩,hlk x hxm,mm_comm x y,Nat.add_comm _ _,fun ps L h=>JT.swap (hg ps L (JT.swap h))⟩
    rw [eb]
    rw [emm] at s3
    have htj:=(yAH.mp hv).1
    clear jL jR eb emm
    apply ZFB (fun (n:Int)=>n=(nw w (if b then s else !s):Nat))
    .intro tailp
     by_cases hs:sv b=sv s
     .rw [if_pos hs]
      obtain ⟨n,hn⟩:∃ n:Int,n=w+1:=⟨_,rfl⟩
      rw [<- hn]
      refine tailp n ?_
      rw [hn]
      revert hs
      cases b <;> cases s <;> intro hs <;> first | rfl | cases hs
     .rw [if_neg hs]
      refine tailp 1 ?_
      revert hs
      cases b <;> cases s <;> intro hs <;> first | rfl | exact absurd rfl hs
    rintro n rfl
    generalize (if b then s else !s)=sb at hgB
    have hnw:nw w sb <= 4:=by unfold nw;split <;> omega
    have hdB:=jB.hpc
    by_cases h4:nw w sb=4
    .rw [if_pos (by omega)]
     obtain ⟨z,z1,z2,z3⟩:=spot_ex hmp (pl:=v) (ms.length-(mi+1)) (mi+1) (by omega)
     refine jB.hj.meth (by walk_at "lk") ⟨ks,xs,a,rl,ru,tl,g,lg,jn,sd,ma,ta,tk,pc,b,_,ms,ts,_,mi+1,tj,v,z,rfl,s3,jB,nxB,hv,by omega,hmk,hvk,by rw [yAD,yAD,yBD];omega,by rw [yAD,yBD];omega,z1,z2,z3,fun H4 G f4 hG s4 j1 j2=>?_⟩
     have hGl:G.length <= 18:=by
      have:=hG.looks z1 z2
      have:=ZEC (g:=z-(mi+1)) (c:=9) (by show _ < 512;omega)
      omega
     rw [yAL,yAL] at s4
     have hasl:(as++([(max u v,min u v)]++List.map (ask1 ms v) G)).length <= as.length+19:=by rw [yAD,yAD,yBD,yAB];omega
     by_cases hz:z < ms.length
     .refine JInv.fin hbb (w':=0) z2 (show tj+1 <= ts.length by omega) (by decide) (by omega) ?_ (by omega) ((fr.trans f3).trans f4) s4 (j1 hz) (fun ps L h=>?_) hi hj
      .rw [yAD,yAD,yAD,yAN,yAU,yBD,yBD];omega
      .have:=hgB _ _ (JT.leap hu hv huv h4 z1 hz z3 hG h)
       rw [seg_cons hu z1] at this
       simpa [yAL] using this
     .have ez:z=ms.length:=by omega
      have j2:=j2 ez
      subst ez
      refine JInv.fin hbb (w':=0) (yAA _) (yBO htj) (by decide) (by omega) ?_ (by omega) ((fr.trans f3).trans f4) s4 j2 (fun ps L h=>?_) hi hj
      .rw [yAD,yAD,yAN,yAU,yBD];omega
      .have:=hgB _ _ (JT.last hu hv huv h4 (fun k c h1 h2=>(z3 k c h1 h2).mpr (yAH.mp h2).1) hG h)
       rw [ZCS hu] at this
       rw [yBP (by rw [yAU];exact yAA _)]
       simpa [yAL] using this
    .rw [if_neg (by omega)]
     refine JInv.fin hbb hmi (yBO htj) (by omega) (by omega) ?_ ?_ (fr.trans f3) s3 jB (fun ps L h=>?_) hi hj
     .rw [yAD,yBD];omega
     .rw [yAD,yBD];omega
     .have:=hgB _ _ (JT.step hu hv huv h4 h)
      simpa [yAL] using this
   .rw [decide_eq_false hjr,if_neg (by decide)]
    exact tailp (by omega)
  .rw [decide_eq_false hil,if_neg (by decide)]
   exact tailp (by omega)
 intro hn
 have hdone:=hg _ _ (JT.done (s:=s) (w:=w) hn)
 refine js'.hj.meth (by walk_at "lk") ⟨true,jn,a,sd,la,ra,tk,pc,ls,rs,i,j,dn,rfl,js',hi,by omega,fun H3 f3 js3=>?_⟩
 have s3:=s'.apart f3 js'.lsts nx.n2
 refine js3.hj.meth (by walk_at "lk") ⟨false,jn,a,sd,ra,la,tk,pc,rs,ls,j,ls.length,_,rfl,js3.swap,hj,by rw [yAD,yAU];omega,fun H4 f4 js4=>?_⟩
 have s4:=s3.apart f4 js3.lsts nx.n2
 rw [yAL] at js4
 rw [yBB] at hdone
 refine js4.hj.get T.cl_Join T.n_Join_places (by walk_at "lk") ⟨pc,_,rfl,.inl (SqL.of js4.hpc),fun l hl=>?_⟩
 have fr4:Fr [a,lg,tl,tk,pc] H2 H4:=(fr.trans (fr5b f3)).trans (fr5b f4)
 refine q l _ _ as ((fr0 fr4).trans (ZAQ hl _).fr) ?_ ZAF hdone (s4.mono (ZAQ hl _))
 cases e:H l with
 | none=>rfl
 | some o=>
  by_cases hm:l∈[a,lg,tl]
  .obtain ⟨ws4,h5,_⟩:=s4.hlg
   obtain ⟨us4,h6,_⟩:=s4.htl
   rcases yAE.mp hm with z | z
   .exact absurd z (s4.ha.neN hl)
   rcases yAE.mp z with z | z
   .rw [z,h5] at hl;cases hl
   .rw [yAM.mp z,h6] at hl;cases hl
  .rw [fr0 fr4 l o hm e] at hl;cases hl
theorem ok_grade {f:Addr} {fd:FuncData} (F:Fun K "grade" "grade" ZC8 f fd) (T:Bt K mg C_Join C_Pile C_Asker C_AskedRule)
 :FnOk P w K mg base CX0 1 f fd ["many","first","middle","beyond"] (ZEk):=by
 refine F.ok sc_grade (fun vs H Q E h=>?_) (fun cdv A outer s H vs Q E hr h=>?_)
 .obtain ⟨m,a,b,c,rfl,h1,hm,ha,hab,hbc,hcm,q⟩:=h
  rfl
 obtain ⟨m,a,b,c,rfl,h1,hm,ha,hab,hbc,hcm,q⟩:=h
 refine ⟨_,(ZAB (ZAM (i:=4) sc_grade.nd rfl (by walk_at "o") (ZAP ZCf ZAG (ZAP ZAg (pv 1) (pv 2))))
  (ZAB (ZAM (i:=5) sc_grade.nd rfl (by walk_at "o") (ZAP ZCf ZAG (ZAP ZAg (pv 2) (pv 3))))
  (ZAB (ZAM (i:=6) sc_grade.nd rfl (by walk_at "o") ZAG)
  (ZAB (ZBs PassesOwn.never (ZAS ZCm (ZAP ZDM (pv 4) (ZAP ZCf ZAG (pv 0))) (ZAP ZDM (pv 5) (ZAP ZCf ZAG (pv 0))) (ZAW _))
  (ZAB (ZAM (i:=4) sc_grade.nd rfl (by walk_at "o") (ZAP ZCf ZAG (pv 4)))
  (ZAB (ZAM (i:=5) sc_grade.nd rfl (by walk_at "o") (ZAP ZCf ZAG (pv 5)))
  (ZAH (ZEy (i:=6) sc_grade.nd rfl (by walk_at "o") ZAG ZE5)))))
  (ZAH (ZAV (pv 6))))))),?_⟩
 walk_at "rd"
 refine ⟨.inl ⟨by decide,by decide⟩,.inl ⟨by decide,by decide⟩,?_⟩
 refine ZBp (fun n σ H'=>∃ p:Nat,n=240-p /\ H'=H /\ σ=[some (.int m),some (.int a),some (.int b),some (.int c),some (.int ((a+b) * 2 ^ p)),some (.int ((b+c) * 2 ^ p)),some (.int p)] /\ 1 <= p /\ p <= 240 /\ ∀ r,1 <= r->r < p->Gr.qt m (a+b) r=Gr.qt m (b+c) r) ⟨_,1,rfl,rfl,?_,yAA _,by decide,fun r h1 h2=>by omega⟩ ?_
 .rw [Int.pow_one,Int.mul_comm (a+b),Int.mul_comm (b+c)];rfl
 rintro n σ H' ⟨p,rfl,rfl,rfl,hp1,hp2,hq⟩
 walk_at "rd"
 refine ⟨.inl ⟨by decide,by decide⟩,⟨by omega,by omega⟩,.inl ⟨by decide,by decide⟩,⟨by omega,by omega⟩,?_⟩
 split
 .rename_i he
  have hp3:p < 240:=by
   rcases yCA p 240 with l | l
   .exact l
   .exact absurd he (Gr.qt_ne (by omega) (by omega) (pow240 hm l))
  refine ZBq ?_
  walk_at "rd"
  refine ⟨.inl ⟨by decide,by decide⟩,.inl ⟨by decide,by decide⟩,?_⟩
  walk_at "rd"
  refine ⟨_,?_,p+1,rfl,?_,by omega,by omega,fun r h1 h2=>?_⟩
  .omega
  .rw [dbl,dbl];rfl
  .rcases yCA r p with l | l
   .exact hq r h1 l
   .obtain rfl:r=p:=by omega
    exact he
 .rename_i he
  exact q p ⟨hp1,hq,he⟩ hp2
theorem ok_cell_at {f:Addr} {fd:FuncData} (F:Fun K "_law_cell_at" "_law_cell_at" ZB6 f fd) (T:Bt K mg C_Join C_Pile C_Asker C_AskedRule)
 :FnOk P w K mg base CX0 1 f fd ["_law_script","_law_k"] (ZEU K):=by
 refine F.ok sc_cell_at (fun vs H Q E h=>?_) (fun cdv A outer s H vs Q E hr h=>?_)
 .obtain ⟨a,ns,k,rfl,hS,h0,q⟩:=h
  rfl
 obtain ⟨a,ns,k,rfl,hS,h0,q⟩:=h
 refine ⟨_,(ZAB (ZBB (ZAS ZDB (pv 1) (ZAL ZAK rfl T.b_len PySem.boot_len (ZAA (pv 0) ZAD)) (ZAW _))
  (ZAH (ZAV (ZAc ZAa (pv 0) (pv 1) (fun _ _=>rfl)))) ZAb)
  (ZAH (ZAV ZAG))),?_⟩
 walk_at "rd"
 refine ⟨a,_,rfl,.inl hS,?_⟩
 walk_at "rd"
 rw [yAB]
 unfold cellOf at q
 split
 .rename_i hk
  rw [if_pos hk] at q
  have hk':k.toNat < ns.length:=by omega
  refine ZAh hS (atI_ints h0 (yAJ hk')) ?_
  rw [yAJ hk'] at q
  exact q
 .rename_i hk
  rw [if_neg hk] at q
  exact q
theorem ok_blocks {f:Addr} {fd:FuncData} (F:Fun K "_law_blocks" "_law_blocks" ZCZ f fd) (T:Bt K mg C_Join C_Pile C_Asker C_AskedRule)
 :FnOk P w K mg base CX0 1 f fd ["_law_keys","_law_one","_law_two"] (ZF0):=by
 refine F.ok sc_blocks (fun vs H Q E h=>?_) (fun cdv A outer s H vs Q E hr h=>?_)
 .obtain ⟨a,c1,c2,ks,rfl,ha,hk,q⟩:=h
  rfl
 obtain ⟨a,c1,c2,ks,rfl,ha,hk,q⟩:=h
 refine ⟨_,(ZAB (ZAM (i:=3) sc_blocks.nd rfl (by walk_at "o") (ZBP ZAD))
  (ZAB (ZAM (i:=4) sc_blocks.nd rfl (by walk_at "o") ZAG)
  (ZAB (ZBs PassesOwn.never (ZAS ZDB (ZAL ZAK rfl T.b_len PySem.boot_len (ZAA (pv 3) ZAD)) (ZAL ZAK rfl T.b_len PySem.boot_len (ZAA (pv 0) ZAD)) (ZAW _))
  (ZAB (ZAM (i:=5) sc_blocks.nd rfl (by walk_at "o") (ZAL ZBb rfl T.b_sorted PyProof.Rows.boot_sorted (ZAA (ZBu ZCP (pv 0) (ZBl (ZAL ZAK rfl T.b_len PySem.boot_len (ZAA (pv 3) ZAD))) (ZBl (ZAP ZAg (ZAP ZAg (ZAL ZAK rfl T.b_len PySem.boot_len (ZAA (pv 3) ZAD)) ZAG) (ZAc ZAa (ZBP (ZAA (ZAP ZBM (pv 1) ZAG) (ZAA (ZAP ZBM (pv 2) ZAG) ZAD))) (ZAP ZBM (pv 4) ZAG) (fun _ _=>rfl))))) ZAD)))
  (ZAB (ZBB (ZAS ZCm (ZAP ZBM (ZAP ZDM (ZAP ZB0 (pv 1) ZAG) (ZAP ZAg (pv 4) ZAG)) ZAG) ZAG (ZAW _))
  (ZAH (ZAk (ZE0 PySem.F.plainAttrs_list PySem.F.slot_list_reverse PySem.F.type_list_reverse ZDC (pv 5)))) ZAb)
  (ZAB (ZAM (i:=3) sc_blocks.nd rfl (by walk_at "o") (ZAP ZE2 (pv 3) (pv 5)))
  (ZAH (ZAM (i:=4) sc_blocks.nd rfl (by walk_at "o") (ZAP ZAg (pv 4) ZAG)))))))
  (ZAH (ZAV (pv 3)))))),?_⟩
 walk_at "rd"
 refine ⟨yAI _,fun r0 hr0=>?_⟩
 obtain ⟨H1,e1,s1,h1⟩:=newH hr0 (.lst [])
 rw [e1];clear e1
 refine ZBp (fun m σ H'=>∃ (rw:Addr) (k:Nat) (v5:Option V) (rs:List Int),m=ks.length-rs.length /\ σ=[some (.ref a),some (.int c1),some (.int c2),some (.ref rw),some (.int k),v5] /\ k <= rs.length /\ rs.length <= ks.length /\ Same H H' /\ H rw=none /\ H' rw=some (.lst (rs.map V.int))) ⟨_,r0,0,_,[],rfl,rfl,yAI _,yAI _,s1,hr0,h1⟩ ?_
 rintro m σ H' ⟨rw,k,v5,rs,rfl,rfl,hkr,hrs,s2,hrw0,hrw⟩
 walk_at "rd"
 refine ⟨rw,_,rfl,.inl (SqL.of hrw),a,_,rfl,.inl (SqL.of (s2 _ _ ha)),?_⟩
 rw [yAB,yAB]
 walk_at "rd"
 by_cases hlt:rs.length < ks.length
 .rw [if_pos (by omega)]
  refine ZBq ?_
  walk_at "rd"
  refine ⟨rw,_,rfl,.inl (SqL.of hrw),rw,_,rfl,.inl (SqL.of hrw),by decide,by decide,ZAX (by decide),fun p hp=>⟨by decide,?_⟩⟩
  rw [yAB]
  obtain ⟨H3,e3,s3,h3⟩:=newH hp (.lst [.int (c1 % 17),.int (c2 % 40)])
  rw [e3];clear e3
  obtain ⟨b,hb0,hb⟩:∃ b:Nat,0 <= b /\ atI [V.int (c1 % 17),V.int (c2 % 40)] ((k:Int) % 2)=some (V.int (b:Int)):=by
   have m0:(k:Int) % 2=0∨(k:Int) % 2=1:=by omega
   have g1:=Int.emod_nonneg c1 (show (17:Int)≠0 by decide)
   have g2:=Int.emod_nonneg c2 (show (40:Int)≠0 by decide)
   rcases m0 with e | e <;> rw [e]
   .exact ⟨(c1 % 17).toNat,yAI _,by rw [Int.toNat_of_nonneg g1];exact ZAf (by decide) rfl⟩
   .exact ⟨(c2 % 40).toNat,yAI _,by rw [Int.toNat_of_nonneg g2];exact ZAf (by decide) rfl⟩
  refine ZAh (SqL.of h3) hb ?_
  walk_at "rd"
  refine ZDE (SqL.of (s3 _ _ (s2 _ _ ha))) fun sl hsl=>?_
  rw [ZC0,show (rs.length:Int)+1+(b:Int)=((rs.length+1+b:Nat):Int) by omega,HT.sIx_nat,HT.sIx_nat,yBN hrs]
  obtain ⟨bl,ebl⟩:∃ bl,(ks.drop rs.length).take (min (rs.length+1+b) ks.length-rs.length)=bl:=⟨_,rfl⟩
  have hbl:1 <= bl.length /\ rs.length+bl.length <= ks.length:=by rw [<- ebl,yAN,yAU];omega
  rw [ebl];clear ebl
  obtain ⟨H4,e4,s4,h4⟩:=newH hsl (.lst (bl.map V.int))
  rw [e4];clear e4
  refine ⟨sl,bl,rfl,SqL.of h4,by omega,fun l ms hl hperm _=>⟨⟨by decide,by decide⟩,⟨by omega,by omega⟩,by decide,?_⟩⟩
  have hml:=hperm.length_eq
  have S4:Same H H4:=s2.trans (s3.trans s4)
  have hrw4:=s4 _ _ (s3 _ _ hrw)
  have nrl:rw≠l:=ZAE hrw4 hl
  apply ZFB (fun X:Hp=>Same H X /\ X rw=some (.lst (rs.map V.int)) /\ ∃ us:List Int,us.length=bl.length /\ X l=some (.lst (us.map V.int)))
  .intro tailp
   by_cases hc:c1 / 17 / ((k:Int)+1) % 2=1
   .rw [if_pos hc]
    refine ⟨.inl ⟨rfl,_,SqL.of ZAF⟩,l,_,rfl,rfl,ZAF,?_⟩
    rw [ZDu,<- List.map_reverse]
    obtain ⟨X,eX,sX,hX⟩:=newH hl (.lst (ms.reverse.map V.int))
    rw [eX];clear eX
    exact tailp X ⟨S4.trans sX,sX _ _ hrw4,ms.reverse,by rw [List.length_reverse,hml],hX⟩
   .rw [if_neg hc]
    obtain ⟨X,eX,sX,hX⟩:=newH hl (.lst (ms.map V.int))
    rw [eX];clear eX
    exact tailp X ⟨S4.trans sX,sX _ _ hrw4,ms,hml,hX⟩
  rintro X ⟨sX,hrwX,us,hul,hX⟩
  refine ⟨rw,l,_,_,rfl,rfl,hrwX,hX,ZAX (by rw [yAB,yAB];omega),fun p2 hp2=>?_⟩
  refine ⟨_,?_,p2,k+1,_,rs++us,rfl,by rw [show (k:Int)+1=((k+1:Nat):Int) by omega],?_,?_,sX.new hp2,sX.free hp2,by rw [ZAF,yAR]⟩ <;> rw [yAD] <;> omega
 .rw [if_neg (by omega)]
  walk_at "rd"
  exact q rw H' rs s2 hrw0 hrw (by omega)
theorem ok_keys_by {f:Addr} {fd:FuncData} (F:Fun K "_law_keys_by" "_law_keys_by" ZB4 f fd) (T:Bt K mg C_Join C_Pile C_Asker C_AskedRule)
  (f_cell_at:Fn P w K mg base CX0 "_law_cell_at" 1 ["_law_script","_law_k"] (ZEU K))
 :FnOk P w K mg base CX0 2 f fd ["_law_script","_law_many","_law_most"] (ZD2 K):=by
 refine F.ok sc_keys_by (fun vs H Q E h=>?_) (fun cdv A outer s H vs Q E hr h=>?_)
 .obtain ⟨a,ns,m,rfl,hS,h63,hm0,hm1,q⟩:=h
  rfl
 obtain ⟨a,ns,m,rfl,hS,h63,hm0,hm1,q⟩:=h
 refine ⟨_,(ZAB (ZBB (ZAS ZCm (ZAP ZBM (ZAP ZB0 (ZA8 f_cell_at (hr.mono (by decide)) rfl ZAY (ZAA (pv 0) (ZAA ZAG ZAD))) ZAG) ZAG) ZAG (ZAW _))
  (ZAH (ZAV (ZCC rfl (k:=1) (js:=[1]) (N':=["_law_cell","_law_many"]) (by rfl) (ZCB (ZBu ZCP (pv 0) (ZBl ZAG) (ZBl (ZAP ZAg ZAG (pv 2))))) (fun _ _ _ _=>ZAp (i:=0) (show (["_law_cell","_law_many"]:List Str).Nodup by decide +kernel) rfl (by walk_at "o")) (fun _ _ _ _=>ZBt) (fun _ _ _ _=>(ZAP ZBM (pv 0) (pv 1)))))) ZAb)
  (ZAT
  (ZAB (ZAM (i:=3) sc_keys_by.nd rfl (by walk_at "o") (ZAP ZB0 (ZA8 f_cell_at (hr.mono (by decide)) rfl ZAY (ZAA (pv 0) (ZAA ZAG ZAD))) (ZAP ZAg (ZAL (ZB8 rfl) rfl T.b_min PyProof.Rows.boot_min (ZAA (pv 2) (ZAA ZAG ZAD))) ZAG)))
  (ZAB (ZAM (i:=4) sc_keys_by.nd rfl (by walk_at "o") (ZBP ZAD))
  (ZAB (ZDH PassesOwn.never rfl (ZDb rfl T.b_range (ZAA (ZAP ZBM (ZA8 f_cell_at (hr.mono (by decide)) rfl ZAY (ZAA (pv 0) (ZAA ZAG ZAD))) (ZAP ZAg (ZAL (ZB8 rfl) rfl T.b_min PyProof.Rows.boot_min (ZAA (pv 2) (ZAA ZAG ZAD))) ZAG)) ZAD)) (ZAp (i:=5) sc_keys_by.nd rfl (by walk_at "o"))
  (ZAB (ZBB (ZAS ZDB (pv 3) ZAG (ZAW _))
  (ZAH (ZAM (i:=3) sc_keys_by.nd rfl (by walk_at "o") (ZAP ZAg (ZAP ZCf (ZAL call_absI rfl T.b_abs PyProof.Rows.boot_abs (ZAA (ZA8 f_cell_at (hr.mono (by decide)) rfl ZAY (ZAA (pv 0) (ZAA (ZAP ZAg ZAG (pv 5)) ZAD))) ZAD)) ZAG) (ZAP ZCf (ZAP ZCf ZAG (pv 5)) (pv 5))))) ZAb)
  (ZAB (ZAk (ZCk PySem.F.plainAttrs_list PySem.F.slot_list_append PySem.F.type_list_append ZBm (pv 4) (ZAA (ZAP ZBM (pv 3) (pv 1)) ZAD)))
  (ZAH (ZAM (i:=3) sc_keys_by.nd rfl (by walk_at "o") (ZAP ZDM (pv 3) (pv 1)))))))
  (ZAH (ZAV (pv 4)))))))),?_⟩
 walk_at "rd"
 refine ⟨a,ns,1,rfl,hS,by decide,?_⟩
 generalize cellOf ns 1=c1
 walk_at "rd"
 refine ⟨⟨by decide,by decide⟩,by decide,?_⟩
 by_cases hc:c1 / 4 % 2=0
 .rw [if_pos hc]
  refine ZDE hS fun sl hsl=>?_
  rw [ZC0]
  obtain ⟨bl,ebl⟩:∃ bl,(ns.drop (HT.sIx ns.length 0 (some 5))).take (HT.sIx ns.length ns.length (some (5+63))-HT.sIx ns.length 0 (some 5))=bl:=⟨_,rfl⟩
  have hbl:bl.length <= 63:=by rw [<- ebl,yAN,yAU];omega
  rw [ebl];clear ebl
  obtain ⟨H4,e4,s4,h4⟩:=newH hsl (.lst (bl.map V.int))
  rw [e4];clear e4
  refine ZEM (SqL.of h4) (by rw [yAB];omega) (fun i ys σ H'=>∃ v,σ=[v,some (.int m)] /\ H'=H4 /\ ∃ cs:List Int,ys=cs.map V.int /\ cs.length=i) ⟨_,rfl,rfl,[],rfl,rfl⟩ (fun i ys σ H' _ ⟨_,_,e,cs,e2,e3⟩=>⟨by rw [e];exact SqL.of h4,by rw [e2,yAB];omega⟩) ?_ ?_
  .rintro i ys x σ H' hi hx ⟨v,rfl,rfl,cs,rfl,hcs⟩
   obtain ⟨n,hn',rfl⟩:=get_ints hx
   walk_at "rd"
   refine ⟨hm0,?_⟩
   exact Nxt.of hi ⟨_,rfl,rfl,cs++[_],by rw [yAR];rfl,by rw [yAD,hcs];rfl⟩
  rintro ys σ H2 ⟨v,rfl,rfl,cs,rfl,hcs⟩ k1 hk1
  rw [yAB] at hcs
  exact q k1 _ cs (s4.trans (ZAQ hk1 _)) (s4.free hk1) ZAF (by omega)
 rw [if_neg hc]
 refine ZAZ ?_
 walk_at "rd"
 refine ⟨a,ns,5,rfl,hS,by decide,_,_,rfl,?_⟩
 generalize cellOf ns 5=c5
 walk_at "rd"
 rw [show ((if (60:Int) < 63 then (60:Int) else 63)+1)=61 from rfl]
 refine ⟨⟨by decide,by decide⟩,yAI _,fun p hp=>?_⟩
 obtain ⟨H1,e1,s1,h1⟩:=newH hp (.lst [])
 rw [e1];clear e1
 refine ⟨a,ns,5,rfl,s1.seq hS,by decide,_,_,rfl,?_⟩
 generalize cellOf ns 5=c6
 walk_at "rd"
 rw [show ((if (60:Int) < 63 then (60:Int) else 63)+1)=61 from rfl]
 refine ⟨by decide,?_⟩
 have r0:=Int.emod_nonneg c6 (show (61:Int)≠0 by decide)
 have r1:=Int.emod_lt_of_pos c6 (show (0:Int) < 61 by decide)
 obtain ⟨z0,ez⟩:∃ z0,c5 / 61=z0:=⟨_,rfl⟩
 rw [ez]
 refine forR1_of (by omega) (ZEJ (fun i σ H'=>∃ (z:Int) (rs:List Int) (v5:Option V),σ=[some (.ref a),some (.int m),some (.int 63),some (.int z),some (.ref p),v5] /\ Same H H' /\ H' p=some (.lst (rs.map V.int)) /\ rs.length=i) ⟨z0,[],_,rfl,s1,h1,rfl⟩ ?_ ?_)
 .rintro i σ H' hi ⟨z,rs,v5,rfl,s2,h2,hz⟩
  walk_at "rd"
  apply ZFB (fun y:Int=>True)
  .intro tailp
   by_cases hz1:z < 1
   .rw [if_pos hz1]
    refine ⟨a,ns,6+(0+(i:Int)),rfl,s2.seq hS,by omega,_,rfl,?_⟩
    walk_at "rd"
    refine ⟨.inr ⟨by decide,by decide⟩,.inr ⟨by omega,by omega⟩,.inr ⟨by omega,by omega⟩,?_⟩
    obtain ⟨y,ey⟩:∃ y,(if cellOf ns (6+(0+(i:Int))) < 0 then -cellOf ns (6+(0+(i:Int))) else cellOf ns (6+(0+(i:Int)))) * 48271+16807 * (0+(i:Int)) * (0+(i:Int))=y:=⟨_,rfl⟩
    rw [ey]
    exact tailp y trivial
   .rw [if_neg hz1]
    exact tailp z trivial
  intro y _
  refine ⟨.inl ⟨rfl,_,SqL.of h2⟩,hm0,p,_,_,rfl,rfl,h2,ZBY (by rw [yAB];omega),⟨hm0,Int.lt_of_le_of_lt hm1 (by decide)⟩,?_⟩
  exact ⟨_,rs++[_],_,rfl,s2.upd hp,by rw [ZAF,yAR];rfl,by rw [yAD,hz];rfl⟩
 .rintro σ H' ⟨z,rs,v5,rfl,s2,h2,hz⟩
  walk_at "rd"
  exact q p H' rs s2 hp h2 (by omega)
theorem ok_row_by {f:Addr} {fd:FuncData} (F:Fun K "_law_row_by" "_law_row_by" ZCW f fd) (T:Bt K mg C_Join C_Pile C_Asker C_AskedRule)
  (f_keys_by:Fn P w K mg base CX0 "_law_keys_by" 2 ["_law_script","_law_many","_law_most"] (ZD2 K))
  (f_cell_at:Fn P w K mg base CX0 "_law_cell_at" 1 ["_law_script","_law_k"] (ZEU K))
  (f_blocks:Fn P w K mg base CX0 "_law_blocks" 1 ["_law_keys","_law_one","_law_two"] (ZF0))
 :FnOk P w K mg base CX0 3 f fd ["_law_script"] (ZEg K):=by
 refine F.ok sc_row_by (fun vs H Q E h=>?_) (fun cdv A outer s H vs Q E hr h=>?_)
 .obtain ⟨a,ns,rfl,hS,h63,q⟩:=h
  rfl
 obtain ⟨a,ns,rfl,hS,h63,q⟩:=h
 refine ⟨_,(ZAB (ZAM (i:=1) sc_row_by.nd rfl (by walk_at "o") (ZAc ZAa (ZBP (ZAA ZAG (ZAA ZAG (ZAA ZAG (ZAA (ZAP op_pow ZAG ZAG) ZAD))))) (ZAP ZBM (ZA8 f_cell_at (hr.mono (by decide)) rfl ZAY (ZAA (pv 0) (ZAA ZAG ZAD))) ZAG) (fun _ _=>rfl)))
  (ZAT
  (ZAB (ZAM (i:=2) sc_row_by.nd rfl (by walk_at "o") (ZA8 f_keys_by (hr.mono (by decide)) rfl ZAY (ZAA (pv 0) (ZAA (pv 1) (ZAA ZAG ZAD)))))
  (ZAT
  (ZAB (ZAM (i:=3) sc_row_by.nd rfl (by walk_at "o") (ZAP ZBM (ZA8 f_cell_at (hr.mono (by decide)) rfl ZAY (ZAA (pv 0) (ZAA ZAG ZAD))) ZAG))
  (ZAB (ZAM (i:=4) sc_row_by.nd rfl (by walk_at "o") (ZA8 f_cell_at (hr.mono (by decide)) rfl ZAY (ZAA (pv 0) (ZAA ZAG ZAD))))
  (ZAB (ZAM (i:=5) sc_row_by.nd rfl (by walk_at "o") (ZA8 f_cell_at (hr.mono (by decide)) rfl ZAY (ZAA (pv 0) (ZAA ZAG ZAD))))
  (ZAT
  (ZAB (ZBB (ZAS ZCm (pv 3) ZAG (ZAW _))
  (ZAH (ZAM (i:=2) sc_row_by.nd rfl (by walk_at "o") (ZA8 f_blocks (hr.mono (by decide)) rfl ZAY (ZAA (pv 2) (ZAA (pv 4) (ZAA (pv 5) ZAD)))))) ZAb)
  (ZAT
  (ZAB (ZBB (PW.pt (ZDF (ZAS ZCm (pv 3) ZAG (ZAW _)) (ZCR (ZAS (ZEW hr.units) (pv 2) (ZBP ZAD) (ZAW _)))))
  (ZAB (ZAM (i:=2) sc_row_by.nd rfl (by walk_at "o") (ZAL ZBb rfl T.b_sorted PyProof.Rows.boot_sorted (ZAA (pv 2) ZAD)))
  (ZAH (ZAk (ZCk PySem.F.plainAttrs_list PySem.F.slot_list_insert PySem.F.type_list_insert mt_insert (pv 2) (ZAA (ZAP ZBM (pv 5) (ZAL ZAK rfl T.b_len PySem.boot_len (ZAA (pv 2) ZAD))) (ZAA (ZCk PySem.F.plainAttrs_list PySem.F.slot_list_pop PySem.F.type_list_pop ZDN (pv 2) (ZAA (ZAP ZBM (pv 4) (ZAL ZAK rfl T.b_len PySem.boot_len (ZAA (pv 2) ZAD))) ZAD)) ZAD)))))) ZAb)
  (ZAT
  (ZAB (ZBB (PW.pt (ZDF (ZAS ZCm (pv 3) ZAG (ZAW _)) (ZCR (ZAS (ZEW hr.units) (pv 2) (ZBP ZAD) (ZAW _)))))
  (ZAH (ZAM (i:=2) sc_row_by.nd rfl (by walk_at "o") (ZAP ZE2 (ZBu ZCP (pv 2) ZDa (ZBl (ZAP ZBM (pv 4) (ZAL ZAK rfl T.b_len PySem.boot_len (ZAA (pv 2) ZAD))))) (ZAL ZBb rfl T.b_sorted PyProof.Rows.boot_sorted (ZAA (ZBu ZCP (pv 2) (ZBl (ZAP ZBM (pv 4) (ZAL ZAK rfl T.b_len PySem.boot_len (ZAA (pv 2) ZAD)))) ZDa) ZAD))))) ZAb)
  (ZAT
  (ZAH (ZAV (ZCC rfl (k:=1) (js:=[2]) (N':=["_law_k","_law_keys"]) (by rfl) (ZDb rfl T.b_range (ZAA (ZAL ZAK rfl T.b_len PySem.boot_len (ZAA (pv 2) ZAD)) ZAD)) (fun _ _ _ _=>ZAp (i:=0) (show (["_law_k","_law_keys"]:List Str).Nodup by decide +kernel) rfl (by walk_at "o")) (fun _ _ _ _=>ZBt) (fun _ _ _ _=>(ZBO (ZAA (ZAc (ZDP K) (pv 1) (pv 0) (fun _ _=>rfl)) (ZAA (pv 0) ZAD))))))))))))))))))))),?_⟩
 walk_at "rd"
 refine ⟨⟨by decide,by decide,by decide⟩,ZAX (by decide),fun p hp=>?_⟩
 obtain ⟨H1,e1,s1,h1⟩:=newH hp (.lst [.int 2,.int 5,.int 100,.int (10 ^ Int.toNat 60)])
 rw [e1];clear e1
 refine ⟨a,ns,0,rfl,s1.seq hS,by decide,?_⟩
 generalize cellOf ns 0=c0
 walk_at "rd"
 refine ⟨by decide,?_⟩
 obtain ⟨b,hb0,hb1,hb⟩:∃ b:Int,0 < b /\ b <= 10 ^ 60 /\ atI [V.int 2,V.int 5,V.int 100,V.int (10 ^ Int.toNat 60)] (c0 % 4)=some (V.int b):=by
  have m0:c0 % 4=0∨c0 % 4=1∨c0 % 4=2∨c0 % 4=3:=by omega
  rcases m0 with e | e | e | e <;> rw [e]
  .exact ⟨2,by decide,by decide,ZAf (by decide) rfl⟩
  .exact ⟨5,by decide,by decide,ZAf (by decide) rfl⟩
  .exact ⟨100,by decide,by decide,ZAf (by decide) rfl⟩
  .exact ⟨10 ^ Int.toNat 60,by decide,by decide,ZAf (by decide) rfl⟩
 refine ZAh (SqL.of h1) hb ?_
 refine ZAZ ?_
 walk_at "rd"
 refine ⟨a,ns,b,rfl,s1.seq hS,h63,hb0,hb1,fun k1 H2 r1 s2 hk1 h2 hr1=>?_⟩
 have S2:Same H H2:=s1.trans s2
 refine ZAZ ?_
 walk_at "rd"
 refine ⟨a,ns,1,rfl,S2.seq hS,by decide,?_⟩
 generalize cellOf ns 1=c1
 walk_at "rd"
 refine ⟨by decide,a,ns,2,rfl,S2.seq hS,by decide,a,ns,3,rfl,S2.seq hS,by decide,?_⟩
 generalize c1 % 4=cw
 generalize cellOf ns 2=c2
 generalize cellOf ns 3=c3
 refine ZAZ ?_
 walk_at "rd"
 apply ZFZ (fun (ky:Addr) (H4:Hp)=>Same H H4 /\ H ky=none /\ ∃ ks:List Int,H4 ky=some (.lst (ks.map V.int)) /\ ks.length <= 63)
 .intro tailp
  by_cases h1:cw=1
  .rw [if_pos h1]
   refine ⟨k1,c2,c3,r1,rfl,h2,hr1,fun l H' rs s' hl h' hr=>?_⟩
   exact tailp l H' ⟨S2.trans s',S2.free hl,rs,h',hr⟩
  .rw [if_neg h1]
   exact tailp k1 H2 ⟨S2,s1.free hk1,r1,h2,hr1⟩
 rintro ky H4 ⟨S4,hky,ks,h4,hks⟩
 clear h2 hr1 s2
 refine ZAZ ?_
 walk_at "rd"
 apply ZFZ (fun (ky:Addr) (H4:Hp)=>Same H H4 /\ H ky=none /\ ∃ ks:List Int,H4 ky=some (.lst (ks.map V.int)) /\ ks.length <= 63)
 .intro tailp
  by_cases h1:cw=2
  .rw [if_pos h1]
   refine ⟨yAI _,fun p2 hp2=>?_⟩
   obtain ⟨H5,e5,s5,h5⟩:=newH hp2 (.lst [])
   rw [e5];clear e5
   have S5:=S4.trans s5
   refine ZE3 Enc.int.list (by decide) (a:=ks) (b:=[]) (ZBd (SqL.of (s5 _ _ h4))) (ZBd (xs:=[]) (SqL.of h5)) ⟨_,rfl,?_⟩
   by_cases hkn:ks≠[]
   .rw [if_pos (by simp [hkn])]
    refine ⟨ky,ks,rfl,SqL.of (s5 _ _ h4),by omega,fun l ms hl hperm _=>?_⟩
    obtain ⟨H6,e6,s6,h6⟩:=newH hl (.lst (ms.map V.int))
    rw [e6];clear e6
    have hml:=hperm.length_eq
    have hpos:0 < ms.length:=by rw [hml];exact List.length_pos_iff.mpr hkn
    refine ⟨.inl ⟨rfl,_,SqL.of h6⟩,l,_,rfl,.inl (SqL.of h6),?_⟩
    rw [yAB]
    refine ⟨by omega,.inl ⟨rfl,_,SqL.of h6⟩,l,_,rfl,.inl (SqL.of h6),?_⟩
    rw [yAB]
    have g0:=Int.emod_nonneg c2 (show (ms.length:Int)≠0 by omega)
    have g1:=Int.emod_lt_of_pos c2 (show (0:Int) < ms.length by omega)
    have g2:=Int.emod_nonneg c3 (show (ms.length:Int)≠0 by omega)
    have g3:=Int.emod_lt_of_pos c3 (show (0:Int) < ms.length by omega)
    have hi:(c2 % (ms.length:Int)).toNat < ms.length:=by omega
    refine ⟨by omega,l,_,_,(c2 % (ms.length:Int)).toNat,V.int ms[(c2 % (ms.length:Int)).toNat],rfl,rfl,h6,by omega,by omega,PySem.StrLaws.seqIndex_nonneg g0 (by rw [yAB];omega),by rw [yAW,yAJ hi];rfl,?_⟩
    rw [er_map]
    obtain ⟨us,eu,ul⟩:=insV_ints (ms.eraseIdx (c2 % (ms.length:Int)).toNat) (c3 % (ms.length:Int)) ms[(c2 % (ms.length:Int)).toNat]
    have el:=List.length_eraseIdx_of_lt hi
    refine ⟨l,_,_,_,rfl,rfl,ZAF,ZBY (by rw [yAB];omega),by omega,?_⟩
    rw [ZDu,eu]
    have sl6:Same H (upd H6 l (.lst (us.map V.int))):=(S5.trans s6).upd (S5.free hl)
    have hl6:upd H6 l (.lst (us.map V.int)) l=some (.lst (us.map V.int)):=ZAF
    generalize upd H6 l (.lst (us.map V.int))=H7 at sl6 hl6 ⊢
    exact tailp l H7 ⟨sl6,S5.free hl,us,hl6,by omega⟩
   .rw [if_neg (by simpa using hkn)]
    exact tailp ky H5 ⟨S5,hky,ks,s5 _ _ h4,hks⟩
  .rw [if_neg h1]
   exact tailp ky H4 ⟨S4,hky,ks,h4,hks⟩
 clear h4 hks hky S4
 clear ks H4 ky
 rintro ky H4 ⟨S4,hky,ks,h4,hks⟩
 refine ZAZ ?_
 walk_at "rd"
 apply ZFZ (fun (ky:Addr) (H4:Hp)=>Same H H4 /\ H ky=none /\ ∃ ks:List Int,H4 ky=some (.lst (ks.map V.int)) /\ ks.length <= 63)
 .intro tailp
  by_cases h1:cw=3
  .rw [if_pos h1]
   refine ⟨yAI _,fun p2 hp2=>?_⟩
   obtain ⟨H5,e5,s5,h5⟩:=newH hp2 (.lst [])
   rw [e5];clear e5
   have S5:=S4.trans s5
   refine ZE3 Enc.int.list (by decide) (a:=ks) (b:=[]) (ZBd (SqL.of (s5 _ _ h4))) (ZBd (xs:=[]) (SqL.of h5)) ⟨_,rfl,?_⟩
   by_cases hkn:ks≠[]
   .rw [if_pos (by simp [hkn])]
    have hpos:0 < ks.length:=List.length_pos_iff.mpr hkn
    have hk5:=s5 _ _ h4
    refine ⟨ky,_,rfl,.inl (SqL.of hk5),?_⟩
    rw [yAB]
    have g0:=Int.emod_nonneg c2 (show (ks.length:Int)≠0 by omega)
    have g1:=Int.emod_lt_of_pos c2 (show (0:Int) < ks.length by omega)
    obtain ⟨d,ed⟩:∃ d:Nat,c2 % (ks.length:Int)=d:=⟨(c2 % (ks.length:Int)).toNat,by omega⟩
    rw [ed] at g0 g1 ⊢
    walk_at "rd"
    refine ⟨by omega,ZDE (SqL.of hk5) fun l1 hl1=>?_⟩
    rw [ZC0,HT.sIx_none,HT.sIx_nat,yBN (show d <= ks.length by omega),Nat.sub_zero]
    obtain ⟨H6,e6,s6,h6⟩:=newH hl1 (.lst (((ks.drop 0).take d).map V.int))
    rw [e6];clear e6
    have hk6:=s6 _ _ hk5
    refine ⟨ky,_,rfl,.inl (SqL.of hk6),?_⟩
    rw [yAB,ed]
    walk_at "rd"
    refine ⟨by omega,ZDE (SqL.of hk6) fun l2 hl2=>?_⟩
    rw [ZC0,HT.sIx_none,HT.sIx_nat,yBN (show d <= ks.length by omega)]
    obtain ⟨H7,e7,s7,h7⟩:=newH hl2 (.lst (((ks.drop d).take (ks.length-d)).map V.int))
    rw [e7];clear e7
    refine ⟨l2,_,rfl,SqL.of h7,by rw [yAN,yAU];omega,fun l3 ms hl3 hperm _=>?_⟩
    have hml:=hperm.length_eq
    rw [yAN,yAU] at hml
    obtain ⟨H8,e8,s8,h8⟩:=newH hl3 (.lst (ms.map V.int))
    rw [e8];clear e8
    refine ⟨l1,l3,_,_,rfl,rfl,s8 _ _ (s7 _ _ h6),h8,ZAX (by rw [yAB,yAB,yAN,yAU];omega),fun p3 hp3=>?_⟩
    rw [<- yAR]
    obtain ⟨H9,e9,s9,h9⟩:=newH hp3 (.lst (((ks.drop 0).take d++ms).map V.int))
    rw [e9];clear e9
    have S8:Same H H8:=S5.trans (s6.trans (s7.trans s8))
    exact tailp p3 H9 ⟨S8.trans s9,S8.free hp3,_,h9,by rw [yAD,yAN,yAU];omega⟩
   .rw [if_neg (by simpa using hkn)]
    exact tailp ky H5 ⟨S5,hky,ks,s5 _ _ h4,hks⟩
  .rw [if_neg h1]
   exact tailp ky H4 ⟨S4,hky,ks,h4,hks⟩
 clear h4 hks hky S4
 clear ks H4 ky
 rintro ky H4 ⟨S4,hky,ks,h4,hks⟩
 refine ZAZ ?_
 walk_at "rd"
 refine ⟨ky,_,rfl,.inl (SqL.of h4),?_⟩
 rw [yAB]
 refine compR1_of (by omega) (fun i ys σ H'=>∃ v,σ=[v,some (.ref ky)] /\ Same H4 H' /\ ys.length=i /\ ∀ (j:Nat) k,j < i->ks[j]?=some k->∃ r,ys[j]?=some (V.ref r) /\ H' r=some (.tup [.int k,.int j])) ⟨_,rfl,.refl _,rfl,fun _ _ h=>by omega⟩ (fun i ys σ H' ⟨_,_,_,l,_⟩=>Nat.le_of_eq l) ?_ ?_
 .rintro i ys σ H' hi ⟨v,rfl,s5,hl,hth⟩
  have hi':i < ks.length:=by omega
  walk_at "rd"
  rw [show (0+(i:Int))=i by omega]
  refine ZAh (SqL.of (s5 _ _ h4)) (atI_ints (v:=ks[i]) (by omega) (by rw [Int.toNat_natCast];exact yAJ hi')) ⟨ZAX (by decide),fun t ht=>?_⟩
  refine Nxt.of hi ⟨_,rfl,s5.new ht,by rw [yAD,hl];rfl,fun j k' hj hk'=>?_⟩
  by_cases z:j < i
  .obtain ⟨r,a1,a2⟩:=hth j k' z hk'
   exact ⟨r,by rw [yAZ (by omega)];exact a1,ZAQ ht _ _ _ a2⟩
  .have:j=i:=by omega
   subst this
   rw [yAJ hi'] at hk';cases hk'
   exact ⟨t,by rw [<- hl,yAY (yAA _),yBF];rfl,ZAF⟩
 rintro xs σ H5 ⟨v,rfl,s5,hxl,hth⟩ xl hxl0
 refine q xl _ ks xs (S4.trans (s5.new hxl0)) (S4.free (s5.free hxl0)) ZAF hks ⟨by omega,fun i k hk=>?_⟩
 have hi:=(yAH.mp hk).1
 obtain ⟨r,a1,a2⟩:=hth i k (by omega) hk
 exact ⟨r,a1,ZAQ hxl0 _ _ _ a2⟩
theorem ZBv {f:Addr} {fd:FuncData} {dv:List Value} (F:FunD K "__init__" "Pile.__init__" ZBS f fd dv) (T:Bt K mg C_Join C_Pile C_Asker C_AskedRule)
  (t_Asker_many:Mt P w K mg base CX0 C_Asker "many" 1 ["self"] (ZET C_Asker))
 :FnOk P w K mg base CX0 2 f fd ["self","asker","least","part"] (ZA3 C_Asker C_Pile):=by
 refine F.ok sc_Pile_init (fun vs H Q E h=>?_) (fun cdv A outer s H vs Q E hr h=>?_)
 .obtain ⟨x,dx,a,ls,s,e,pz,rfl,hx,hpv,q⟩:=h
  rfl
 obtain ⟨x,dx,a,ls,s,e,pz,rfl,hx,hpv,q⟩:=h
 refine ⟨_,(ZAB (ZBL (pv 0) (pv 1) rfl)
  (ZAB (ZBL (pv 0) (pv 2) rfl)
  (ZAB (ZBL (pv 0) (ZBe (ZAS ZE1 (pv 3) ZCJ (ZAW _)) ZAG (ZAc ZA2 (pv 3) ZAG (fun _ _=>rfl))) rfl)
  (ZAT
  (ZAB (ZBL (pv 0) (ZBe (ZAS ZE1 (pv 3) ZCJ (ZAW _)) (ZCK t_Asker_many (hr.mono (by decide)) ZAY (pv 1)) (ZAc ZA2 (pv 3) ZAG (fun _ _=>rfl))) rfl)
  (ZAT
  (ZAB (ZBL (pv 0) (ZAR (pv 0) rfl) rfl)
  (ZAB (ZBL (pv 0) (ZBP ZAD) rfl)
  (ZAB (ZBL (pv 0) (ZBP ZAD) rfl)
  (ZAH (ZBL (pv 0) (ZBP ZAD) rfl))))))))))),?_⟩
 walk_at "rd"
 refine setX hx T.cl_Pile T.n_Pile_asker (by decide) fun H2 x2 k2=>?_
 walk_at "rd"
 refine setX x2 T.cl_Pile T.n_Pile_least ZFm fun H3 x3 k3=>?_
 walk_at "rd"
 have u3:∀ b o,b≠x->H b=some o->H3 b=some o:=fun b o n h=>by rw [k3 b n,k2 b n];exact h
 apply ZFB (fun H4:Hp=>H4 x=some (.ins C_Pile dx (putF "start" (.int s) (putF "least" (.int ls) (putF "asker" (.ref a) [])))) /\ ∀ b,b≠x->H4 b=H3 b)
 .intro tailp
  rcases hpv with ⟨pt,hz,hpt⟩ | ⟨hz,hs0,nax,rl,ru,m,n,tl,us,ha,hrl,hul⟩
  .rw [if_neg (by rw [hz];simp)]
   have hix:∀ {Q':VK},Q' (.int s) H3->rIxT K pz (.int 0) H3 Q':=fun h=>by rw [hz];exact ZA0 (SqT.of (u3 _ _ (fun z=>by rw [z,hx] at hpt;cases hpt) hpt)) (ZAf (by decide) rfl) h
   exact hix (setX x3 T.cl_Pile T.n_Pile_start ZFl fun H4 x4 k4=>tailp H4 ⟨x4,k4⟩)
  .rw [if_pos hz]
   exact setX x3 T.cl_Pile T.n_Pile_start ZFl fun H4 x4 k4=>tailp H4 ⟨by rw [hs0];exact x4,k4⟩
 rintro H4 ⟨x4,k4⟩
 refine ZAZ ?_
 walk_at "rd"
 have u4:∀ b o,b≠x->H b=some o->H4 b=some o:=fun b o n h=>by rw [k4 b n];exact u3 b o n h
 apply ZFB (fun H5:Hp=>H5 x=some (.ins C_Pile dx (putF "end" (.int e) (putF "start" (.int s) (putF "least" (.int ls) (putF "asker" (.ref a) []))))) /\ ∀ b,b≠x->H5 b=H4 b)
 .intro tailp
  rcases hpv with ⟨pt,hz,hpt⟩ | ⟨hz,hs0,nax,rl,ru,m,n,tl,us,ha,hrl,hul⟩
  .rw [if_neg (by rw [hz];simp)]
   have hix:∀ {Q':VK},Q' (.int e) H4->rIxT K pz (.int 1) H4 Q':=fun h=>by rw [hz];exact ZA0 (SqT.of (u4 _ _ (fun z=>by rw [z,hx] at hpt;cases hpt) hpt)) (ZAf (by decide) rfl) h
   exact hix (setX x4 T.cl_Pile T.n_Pile_end ZFk fun H5 x5 k5=>tailp H5 ⟨x5,k5⟩)
  .rw [if_pos hz]
   have nrl:rl≠x:=fun z=>by rw [z,hx] at hrl;cases hrl
   have ha4:Ins H4 a C_Asker (fA rl ru m n tl):=let ⟨d1,f1,e1,e2,e3⟩:=ha.ex;⟨d1,f1,u4 _ _ nax e1,e2,e3⟩
   refine ha4.meth (by walk_at "lk") ⟨a,rl,ru,tl,m,n,us,rfl,ha4,u4 _ _ nrl hrl,?_⟩
   rw [hul]
   exact setX x4 T.cl_Pile T.n_Pile_end ZFk fun H5 x5 k5=>tailp H5 ⟨x5,k5⟩
 clear hpv
 rintro H5 ⟨x5,k5⟩
 have u5:∀ b o,b≠x->H b=some o->H5 b=some o:=fun b o n h=>by rw [k5 b n];exact u4 b o n h
 clear u3 u4 k2 k3 k4 k5 x2 x3 x4
 refine ZAZ ?_
 walk_at "rd"
 refine getF_of x5 T.cl_Pile T.n_Pile_start (by simp only [ZAj,lkc];walk_at "lk") ?_
 refine setX x5 T.cl_Pile T.n_Pile_reached ZF2 fun H6 x6 k6=>?_
 walk_at "rd"
 refine ⟨yAI _,fun fs hfs=>?_⟩
 obtain ⟨H7,e7,s7,h7⟩:=newH hfs (.lst [])
 rw [e7];clear e7
 refine setX (s7 _ _ x6) T.cl_Pile T.n_Pile_firsts putL5 fun H8 x8 k8=>?_
 walk_at "rd"
 refine ⟨yAI _,fun od hod=>?_⟩
 obtain ⟨H9,e9,s9,h9⟩:=newH hod (.lst [])
 rw [e9];clear e9
 refine setX (s9 _ _ x8) T.cl_Pile T.n_Pile_orders putL6 fun HA xA kA=>?_
 walk_at "rd"
 refine ⟨yAI _,fun gr hgr=>?_⟩
 obtain ⟨HB,eB,sB,hB⟩:=newH hgr (.lst [])
 rw [eB];clear eB
 refine setX (sB _ _ xA) T.cl_Pile T.n_Pile_grades putL7 fun HC xC kC=>?_
 have nfs:fs≠x:=Ne.symm (ZAE x6 hfs)
 have nod:od≠x:=Ne.symm (ZAE x8 hod)
 have ngr:gr≠x:=Ne.symm (ZAE xA hgr)
 have h8:H8 fs=some (.lst []):=by rw [k8 fs nfs];exact h7
 have hAf:HA fs=some (.lst []):=by rw [kA fs nfs];exact s9 _ _ h8
 have hAo:HA od=some (.lst []):=by rw [kA od nod];exact h9
 have f6:∀ b,b≠x->H6 b=none->H b=none:=fun b n e=>by
  cases eb:H b with
  | none=>rfl
  | some o=>have:=u5 b o n eb;rw [k6 b n,this] at e;cases e
 have f8:∀ b,b≠x->H8 b=none->H b=none:=fun b n e=>f6 b n (s7.free (by rw [<- k8 b n];exact e))
 have fA':∀ b,b≠x->HA b=none->H b=none:=fun b n e=>f8 b n (s9.free (by rw [<- kA b n];exact e))
 refine q fs od gr HC (fun b o n h=>?_) (f6 fs nfs hfs) (f8 od nod hod) (fA' gr ngr hgr) ⟨(Ins.of xC (yAP putL8 (by decide))).congr fun f=>by simp only [ZAj,lkc],by rw [kC fs nfs];exact sB _ _ hAf,by rw [kC od nod];exact sB _ _ hAo,by rw [kC gr ngr];exact hB,trivial,⟨ZAE h8 hod,ZAE hAf hgr,ZAE hAo hgr⟩,fun b hb=>by cases hb⟩
 rw [kC b n]
 refine sB _ _ ?_
 rw [kA b n]
 refine s9 _ _ ?_
 rw [k8 b n]
 refine s7 _ _ ?_
 rw [k6 b n]
 exact u5 b o n h
theorem ok_Pile_beyond_of {f:Addr} {fd:FuncData} (F:Fun K "beyond_of" "Pile.beyond_of" ZAs f fd) (T:Bt K mg C_Join C_Pile C_Asker C_AskedRule)
 :FnOk P w K mg base CX0 1 f fd ["self","number"] (ZCV C_Pile):=by
 refine F.ok sc_Pile_beyond_of (fun vs H Q E h=>?_) (fun cdv A outer s H vs Q E hr h=>?_)
 .obtain ⟨x,a,fs,od,gr,ls,s,e,r,oa,A,p,B,gs,rfl,pa,q⟩:=h
  rfl
 obtain ⟨x,a,fs,od,gr,ls,s,e,r,oa,A,p,B,gs,rfl,pa,q⟩:=h
 refine ⟨_,(ZAH (ZAV (ZBe (ZAS ZDB (ZAP ZAg (pv 1) ZAG) (ZAL ZAK rfl T.b_len PySem.boot_len (ZAA (ZAR (pv 0) rfl) ZAD)) (ZAW _)) (ZAc ZAa (ZAR (pv 0) rfl) (ZAP ZAg (pv 1) ZAG) (fun _ _=>rfl)) (ZAR (pv 0) rfl)))),?_⟩
 walk_at "rd"
 refine pa.hp.get T.cl_Pile T.n_Pile_firsts (by walk_at "lk") ⟨fs,_,rfl,.inl (SqL.of pa.hfs),?_⟩
 rw [yAB,yAB,yAD,yAG]
 cases B with
 | nil=>
  rw [if_neg (by rw [yBT];omega)]
  exact pa.hp.get T.cl_Pile T.n_Pile_reached (by walk_at "lk") q
 | cons p2 B=>
  rw [if_pos (by rw [yAG];omega)]
  refine pa.hp.get T.cl_Pile T.n_Pile_firsts (by walk_at "lk") ?_
  rw [show (A.length:Int)+1=((A.length+1:Nat):Int) by omega]
  exact ZAh (SqL.of pa.hfs) (ZCL (by rw [yAW,ZCx];rfl)) q
theorem ok_Pile_is_due_beneath {f:Addr} {fd:FuncData} (F:Fun K "is_due_beneath" "Pile.is_due_beneath" ZAe f fd) (T:Bt K mg C_Join C_Pile C_Asker C_AskedRule)
 :FnOk P w K mg base CX0 1 f fd ["self"] (ZFz C_Pile):=by
 refine F.ok sc_Pile_is_due_beneath (fun vs H Q E h=>?_) (fun cdv A outer s H vs Q E hr h=>?_)
 .obtain ⟨x,a,fs,od,gr,ls,s,e,r,oa,ps,gs,rfl,pa,q⟩:=h
  rfl
 obtain ⟨x,a,fs,od,gr,ls,s,e,r,oa,ps,gs,rfl,pa,q⟩:=h
 refine ⟨_,(ZAH (ZAV (pe_and (ZBz ZFX (ZAL ZAK rfl T.b_len PySem.boot_len (ZAA (ZAR (pv 0) rfl) ZAD)) ZAG (ZAW _)) (ZFV (ZBz ZFX (ZAc ZAa (ZAR (pv 0) rfl) (ZF3 ZFG ZAG) (fun _ _=>rfl)) (ZAc ZAa (ZAR (pv 0) rfl) (ZF3 ZFG ZAG) (fun _ _=>rfl)) (ZAW _)))))),?_⟩
 walk_at "rd"
 refine pa.hp.get T.cl_Pile T.n_Pile_grades (by walk_at "lk") ⟨gr,_,rfl,.inl (SqL.of pa.hgr),?_⟩
 rw [yAB]
 by_cases h2:2 <= gs.length
 .rw [if_pos (by omega)]
  obtain ⟨G,g1,g2,rfl⟩:=ZDv h2
  have hg:=pa.hgr
  rw [show nL (G++[g1,g2])=nL G++[.int (g1:Nat),.int (g2:Nat)] by unfold nL;rw [yAR];rfl] at hg
  refine pa.hp.get T.cl_Pile T.n_Pile_grades (by walk_at "lk") (ZAh (SqL.of hg) atI_m2 ?_)
  refine pa.hp.get T.cl_Pile T.n_Pile_grades (by walk_at "lk") ?_
  rw [show nL G++[V.int (g1:Nat),V.int (g2:Nat)]=(nL G++[.int (g1:Nat)])++[.int (g2:Nat)] by rw [yAL];rfl] at hg
  refine ZAh (SqL.of hg) atI_m1 ⟨_,_,rfl,rfl,?_⟩
  rw [dueB_two] at q
  have e:decide ((g2:Int) < g1)=decide (g2 < g1):=by rw [decide_eq_decide];omega
  rw [<- e] at q
  exact q
 .rw [if_neg (by omega)]
  rw [dueB_few (by omega)] at q
  exact q
theorem ok_Pile_grade_on_top {f:Addr} {fd:FuncData} (F:Fun K "grade_on_top" "Pile.grade_on_top" ZAi f fd) (T:Bt K mg C_Join C_Pile C_Asker C_AskedRule)
  (f_grade:Fn P w K mg base CX0 "grade" 1 ["many","first","middle","beyond"] (ZEk))
 :FnOk P w K mg base CX0 2 f fd ["self","middle","beyond"] (ZEi C_Pile):=by
 refine F.ok sc_Pile_grade_on_top (fun vs H Q E h=>?_) (fun cdv A outer s H vs Q E hr h=>?_)
 .obtain ⟨x,a,fs,od,gr,ls,s,e,r,oa,A,p,gs,m,b,rfl,pa,h1,h2,h3,h4,h5,q⟩:=h
  rfl
 obtain ⟨x,a,fs,od,gr,ls,s,e,r,oa,A,p,gs,m,b,rfl,pa,h1,h2,h3,h4,h5,q⟩:=h
 refine ⟨_,(ZAH (ZAV (ZA8 f_grade (hr.mono (by decide)) rfl ZAY (ZAA (ZAP ZBa (ZAR (pv 0) rfl) (ZAR (pv 0) rfl)) (ZAA (ZAP ZBa (ZAc ZAa (ZAR (pv 0) rfl) (ZF3 ZFG ZAG) (fun _ _=>rfl)) (ZAR (pv 0) rfl)) (ZAA (ZAP ZBa (pv 1) (ZAR (pv 0) rfl)) (ZAA (ZAP ZBa (pv 2) (ZAR (pv 0) rfl)) ZAD))))))),?_⟩
 walk_at "rd"
 have hf:=pa.hfs
 rw [yAR,show nL (A.map Prod.fst++[p].map Prod.fst)=nL (A.map Prod.fst)++[.int (p.1:Nat)] by unfold nL;rw [yAR];rfl] at hf
 refine pa.hp.get T.cl_Pile T.n_Pile_end (by walk_at "lk") (pa.hp.get T.cl_Pile T.n_Pile_start (by walk_at "lk") ⟨_,_,rfl,rfl,?_⟩)
 refine pa.hp.get T.cl_Pile T.n_Pile_firsts (by walk_at "lk") (ZAh (SqL.of hf) atI_m1 (pa.hp.get T.cl_Pile T.n_Pile_start (by walk_at "lk") ⟨_,_,rfl,rfl,?_⟩))
 refine pa.hp.get T.cl_Pile T.n_Pile_start (by walk_at "lk") ⟨_,_,rfl,rfl,pa.hp.get T.cl_Pile T.n_Pile_start (by walk_at "lk") ⟨_,_,rfl,rfl,?_⟩⟩
 exact ⟨_,_,_,_,rfl,by omega,by omega,by omega,by omega,by omega,by omega,q⟩
theorem ok_Pile_join_two {f:Addr} {fd:FuncData} (F:Fun K "join_two" "Pile.join_two" ZAx f fd) (T:Bt K mg C_Join C_Pile C_Asker C_AskedRule)
  (f_joined:Fn P w K mg base CX0 "joined" 6 ["asker","left","right"] (ZD3 C_Asker C_AskedRule))
  (t_Pile_beyond_of:Mt P w K mg base CX0 C_Pile "beyond_of" 1 ["self","number"] (ZCV C_Pile))
 :FnOk P w K mg base CX0 7 f fd ["self","lower"] (ZDV C_Asker C_AskedRule C_Pile):=by
 refine F.ok sc_Pile_join_two (fun vs H Q E h=>?_) (fun cdv A outer s H vs Q E hr h=>?_)
 .obtain ⟨ks,xs,a,rl,ru,tl,g,lg,x,fs,od,gr,pr,ls,s,e,r,oa,A,v1,v2,o1,o2,B,gs,rfl,st,pa,px,ch,hgl,hrk,hk,hpr,q⟩:=h
  rfl
 obtain ⟨ks,xs,a,rl,ru,tl,g,lg,x,fs,od,gr,pr,ls,s,e,r,oa,A,v1,v2,o1,o2,B,gs,rfl,st,pa,px,ch,hgl,hrk,hk,hpr,q⟩:=h
 refine ⟨_,(ZAB (ZAM (i:=2) sc_Pile_join_two.nd rfl (by walk_at "o") (ZA8 f_joined (hr.mono (by decide)) rfl ZAY (ZAA (ZAR (pv 0) rfl) (ZAA (ZAc ZAa (ZAR (pv 0) rfl) (pv 1) (fun _ _=>rfl)) (ZAA (ZAc ZAa (ZAR (pv 0) rfl) (ZAP ZAg (pv 1) ZAG) (fun _ _=>rfl)) ZAD)))))
  (ZAT
  (ZAB (ZAM (i:=3) sc_Pile_join_two.nd rfl (by walk_at "o") (ZBO (ZAA ZFU (ZAA (ZAc ZAa (ZAR (pv 0) rfl) (pv 1) (fun _ _=>rfl)) (ZAA (ZAc ZAa (ZAR (pv 0) rfl) (ZAP ZAg (pv 1) ZAG) (fun _ _=>rfl)) (ZAA (ZBc t_Pile_beyond_of (hr.mono (by decide)) ZAY (pv 0) (ZAA (ZAP ZAg (pv 1) ZAG) ZAD)) ZAD))))))
  (ZAT
  (ZAB (ZFS (pv 2) (ZFT (ZAR (pv 0) rfl) (pv 1) ZD9))
  (ZAB (ZAk (ZCk PySem.F.plainAttrs_list PySem.F.slot_list_pop PySem.F.type_list_pop ZDN (ZAR (pv 0) rfl) (ZAA (ZAP ZAg (pv 1) ZAG) ZAD)))
  (ZAB (ZAk (ZCk PySem.F.plainAttrs_list PySem.F.slot_list_pop PySem.F.type_list_pop ZDN (ZAR (pv 0) rfl) (ZAA (ZAP ZAg (pv 1) ZAG) ZAD)))
  (ZAB (ZAk (ZCk PySem.F.plainAttrs_list PySem.F.slot_list_pop PySem.F.type_list_pop ZDN (ZAR (pv 0) rfl) (ZAA (pv 1) ZAD)))
  (ZAH (ZAV (pv 3))))))))))),?_⟩
 walk_at "rd"
 obtain ⟨OA,b1,b2,OB,rfl,hoa,at1,hb1,hb2,at2⟩:=pa.oat.two
 obtain ⟨v3,c1,c2,c3,c4,c5,c6,c7⟩:=ch.two
 have l1:=c4.len
 have l2:=c5.len
 have l6:=c6.le
 have hlr:(OA.map V.ref).length <= 63:=by rw [yAB,hoa];have:=c1.le;omega
 have m1:b1∈OA++b1::b2::OB:=yAQ _ yAF
 have m2:b2∈OA++b1::b2::OB:=yAQ _ (yAC _ yAF)
 refine pa.hp.get T.cl_Pile T.n_Pile_asker (by walk_at "lk") (pa.hp.get T.cl_Pile T.n_Pile_orders (by walk_at "lk") (ZAh (SqL.of pa.hod) (atI_refs (b:=b1) (by rw [<- hoa];exact ZEG ..)) ?_))
 refine pa.hp.get T.cl_Pile T.n_Pile_orders (by walk_at "lk") ?_
 rw [show (A.length:Int)+1=((A.length+1:Nat):Int) by omega]
 refine ZAh (SqL.of pa.hod) (atI_refs (b:=b2) (by rw [<- hoa];exact ZCx ..)) ?_
 refine ⟨ks,xs,a,rl,ru,tl,g,lg,b1,b2,pr,o1,o2,rfl,st,hb1,hb2,by omega,by omega,fun u hu=>by have:=(c4.mem u).mp hu;omega,fun u hu=>by have:=(c5.mem u).mp hu;omega,c4.srt,c5.srt,fun u hu v hv=>by have:=(c4.mem u).mp hu;have:=(c5.mem v).mp hv;omega,by omega,fun l H1 o L fr1 hl0 hl1 hJ st1=>?_⟩
 have pa1:=pa.fr fr1 px.n1 px.n2
 refine ZAZ ?_
 walk_at "rd"
 refine pa1.hp.get T.cl_Pile T.n_Pile_firsts (by walk_at "lk") (ZAh (SqL.of pa1.hfs) (ZCL (o:=v1) (by rw [yAW,ZEG];rfl)) ?_)
 refine pa1.hp.get T.cl_Pile T.n_Pile_firsts (by walk_at "lk") ?_
 rw [show (A.length:Int)+1=((A.length+1:Nat):Int) by omega]
 refine ZAh (SqL.of pa1.hfs) (ZCL (o:=v2) (by rw [yAW,ZCx];rfl)) ?_
 refine pa1.hp.meth (by walk_at "lk") ⟨x,a,fs,od,gr,ls,s,e,r,_,A++[(v1,o1)],(v2,o2),B,gs,by rw [yAD];rfl,by rw [yAL];exact pa1,?_⟩
 refine ⟨ZAX (by decide),fun t ht=>?_⟩
 obtain ⟨H2,e2,s2,h2⟩:=newH ht (.tup [.str "join",.int (v1:Nat),.int (v2:Nat),.int (bB B r:Nat)])
 rw [e2];clear e2
 have pa2:=pa1.mono s2
 have st2:=st1.mono s2
 refine ZAZ ?_
 walk_at "rd"
 have nxl:=pa2.xl
 have nx1:x≠fs:=fun z=>nxl (by rw [z];exact yAF)
 have nx2:x≠od:=fun z=>nxl (by rw [z];exact yAC _ yAF)
 have nx3:x≠gr:=fun z=>nxl (by rw [z];exact yAC _ (yAC _ yAF))
 obtain ⟨ne1,ne2,ne3⟩:=pa.ne
 refine pa2.hp.get T.cl_Pile T.n_Pile_orders (by walk_at "lk") ⟨od,_,_,_,rfl,rfl,pa2.hod,ZFc (by omega) (by rw [yAB,yAD,yAG];omega),?_⟩
 rw [Int.toNat_natCast,yAR,yAX,yAX,show A.length=(OA.map V.ref).length by rw [yAB,hoa],set_mid]
 have hp3:Ins (upd H2 od (.lst (OA.map V.ref++.ref l::.ref b2::OB.map V.ref))) x C_Pile (fPl a ls s e r fs od gr):=pa2.hp.keep (ZAI nx2)
 refine hp3.get T.cl_Pile T.n_Pile_orders (by walk_at "lk") ?_
 walk_at "rd"
 refine ⟨.inl ⟨rfl,_,SqL.of ZAF⟩,od,_,_,(OA.map V.ref).length+1,_,rfl,rfl,ZAF,by omega,by omega,?_,ZCx ..,?_⟩
 .rw [show ((OA.map V.ref).length:Int)+1=(((OA.map V.ref).length+1:Nat):Int) by omega]
  exact PySem.StrLaws.seqIndex_nonneg (by omega) (by rw [yAD,yAG,yAG];omega)
 rw [er_mid2,ZDu]
 have hp4:Ins (upd H2 od (.lst (OA.map V.ref++.ref l::OB.map V.ref))) x C_Pile (fPl a ls s e r fs od gr):=pa2.hp.keep (ZAI nx2)
 have hf4:upd H2 od (.lst (OA.map V.ref++.ref l::OB.map V.ref)) fs=some (.lst (nL (A.map Prod.fst)++.int (v1:Nat)::.int (v2:Nat)::nL (B.map Prod.fst))):=by
  rw [ZAI ne1,pa2.hfs,yAR];unfold nL;rw [yAR];rfl
 have la:(nL (A.map Prod.fst)).length=(OA.map V.ref).length:=by rw [yAB,yAB,yAB,hoa]
 refine hp4.get T.cl_Pile T.n_Pile_firsts (by walk_at "lk") ?_
 walk_at "rd"
 refine ⟨.inl ⟨rfl,_,SqL.of hf4⟩,fs,_,_,(nL (A.map Prod.fst)).length+1,_,rfl,rfl,hf4,by omega,by omega,?_,ZCx ..,?_⟩
 .rw [<- la,show ((nL (A.map Prod.fst)).length:Int)+1=(((nL (A.map Prod.fst)).length+1:Nat):Int) by omega]
  exact PySem.StrLaws.seqIndex_nonneg (by omega) (by rw [yAD,yAG,yAG];omega)
 rw [er_mid2]
 have hp5:Ins (upd (upd H2 od (.lst (OA.map V.ref++.ref l::OB.map V.ref))) fs (.lst (nL (A.map Prod.fst)++.int (v1:Nat)::nL (B.map Prod.fst)))) x C_Pile (fPl a ls s e r fs od gr):=hp4.keep (ZAI nx1)
 have hg5:upd (upd H2 od (.lst (OA.map V.ref++.ref l::OB.map V.ref))) fs (.lst (nL (A.map Prod.fst)++.int (v1:Nat)::nL (B.map Prod.fst))) gr=some (.lst (nL gs)):=by rw [ZAI (Ne.symm ne2),ZAI (Ne.symm ne3)];exact pa2.hgr
 refine hp5.get T.cl_Pile T.n_Pile_grades (by walk_at "lk") ?_
 walk_at "rd"
 refine ⟨.inl ⟨rfl,_,SqL.of hg5⟩,gr,_,_,A.length,.int (gs[A.length]:Nat),rfl,rfl,hg5,by omega,by omega,?_,by rw [yAW,yAJ hgl];rfl,?_⟩
 .rw [show (OA.map V.ref).length=A.length by rw [yAB,hoa]]
  exact PySem.StrLaws.seqIndex_nonneg (by omega) (by rw [yAB];omega)
 rw [er_map]
 have F3:Fr [fs,od,gr] H2 (upd (upd (upd H2 od (.lst (OA.map V.ref++.ref l::OB.map V.ref))) fs (.lst (nL (A.map Prod.fst)++.int (v1:Nat)::nL (B.map Prod.fst)))) gr (.lst (nL (gs.eraseIdx A.length)))):=((Fr.upd (yAC _ yAF)).trans (Fr.upd yAF)).trans (Fr.upd (yAC _ (yAC _ yAF)))
 have hp6:Ins (upd (upd (upd H2 od (.lst (OA.map V.ref++.ref l::OB.map V.ref))) fs (.lst (nL (A.map Prod.fst)++.int (v1:Nat)::nL (B.map Prod.fst)))) gr (.lst (nL (gs.eraseIdx A.length)))) x C_Pile (fPl a ls s e r fs od gr):=hp5.keep (ZAI nx3)
 have hf6:(upd (upd (upd H2 od (.lst (OA.map V.ref++.ref l::OB.map V.ref))) fs (.lst (nL (A.map Prod.fst)++.int (v1:Nat)::nL (B.map Prod.fst)))) gr (.lst (nL (gs.eraseIdx A.length)))) fs=some (.lst (nL (A.map Prod.fst)++.int (v1:Nat)::nL (B.map Prod.fst))):=by rw [ZAI ne2,ZAF]
 have ho6:(upd (upd (upd H2 od (.lst (OA.map V.ref++.ref l::OB.map V.ref))) fs (.lst (nL (A.map Prod.fst)++.int (v1:Nat)::nL (B.map Prod.fst)))) gr (.lst (nL (gs.eraseIdx A.length)))) od=some (.lst (OA.map V.ref++.ref l::OB.map V.ref)):=by rw [ZAI ne3,ZAI (Ne.symm ne1),ZAF]
 have hg6:(upd (upd (upd H2 od (.lst (OA.map V.ref++.ref l::OB.map V.ref))) fs (.lst (nL (A.map Prod.fst)++.int (v1:Nat)::nL (B.map Prod.fst)))) gr (.lst (nL (gs.eraseIdx A.length)))) gr=some (.lst (nL (gs.eraseIdx A.length))):=ZAF
 generalize (upd (upd (upd H2 od (.lst (OA.map V.ref++.ref l::OB.map V.ref))) fs (.lst (nL (A.map Prod.fst)++.int (v1:Nat)::nL (B.map Prod.fst)))) gr (.lst (nL (gs.eraseIdx A.length))))=H3 at F3 hp6 hf6 ho6 hg6 ⊢
 have nl3:l∉[fs,od,gr]:=fun z=>by obtain ⟨y,hy⟩:=pa.lsts l z;rw [hy] at hl0;cases hl0
 have nt3:t∉[fs,od,gr]:=fun z=>by obtain ⟨y,hy⟩:=pa1.lsts t z;rw [hy] at ht;cases ht
 have nb':∀ b∈OA++l::OB,b∉[fs,od,gr] /\ b∉[a,lg,tl] /\ (b∈OA++b1::b2::OB∨H b=none):=fun b hb=>by
  rcases yAV.mp hb with z | z
  .have m:=yBC (b1::b2::OB) z
   exact ⟨pa.nb b m,px.n2 b m,.inl m⟩
  rcases yAE.mp z with z | z
  .rw [z];exact ⟨nl3,st.newS hl0,.inr hl0⟩
  .have m:b∈OA++b1::b2::OB:=yAQ _ (yAC _ (yAC _ z))
   exact ⟨pa.nb b m,px.n2 b m,.inl m⟩
 have kp:∀ b∈OA++b1::b2::OB,∀ o,H b=some o->H3 b=some o:=fun b hb o h=>F3 _ _ (pa.nb b hb) (s2 _ _ (fr1 _ _ (px.n2 b hb) h))
 refine q t H3 o L (OA++l::OB) hJ ⟨fun b o n h=>?_,fun b hb=>(nb' b hb).2.2,F3 _ _ nt3 h2,⟨hp6,?_,?_,hg6,?_,pa.ne,fun b hb=>(nb' b hb).1⟩,⟨px.n1,fun b hb=>(nb' b hb).2.1,px.n3,px.nr⟩,?_⟩
 .refine F3 _ _ (fun z=>n (yAC _ ?_)) (s2 _ _ (fr1 _ _ (fun z=>n (yAC _ (yAC _ (yAC _ (yAC _ z))))) h))
  exact yBC [a,lg,tl] z
 .rw [hf6,yAR];unfold nL;rw [yAR];rfl
 .rw [ho6,yAR];rfl
 .exact (at1.keep fun b hb=>kp b (yBC _ hb)).app ⟨F3 _ _ nl3 (s2 _ _ hl1),at2.keep fun b hb=>kp b (yAQ _ (yAC _ (yAC _ hb)))⟩
 .refine st2.apart F3 pa2.lsts ⟨px.n3,?_,?_⟩
  .intro z
   obtain ⟨w1,w2,w3,w4⟩:=px.n1
   rcases yAE.mp z with z | z
   .exact w2 (by rw [<- z];exact yAC _ yAF)
   rcases yAE.mp z with z | z
   .exact w3 (by rw [<- z];exact yAC _ yAF)
   .exact w4 (by rw [<- yAM.mp z];exact yAC _ yAF)
  .intro z
   obtain ⟨w1,w2,w3,w4⟩:=px.n1
   rcases yAE.mp z with z | z
   .exact w2 (by rw [<- z];exact yAC _ (yAC _ yAF))
   rcases yAE.mp z with z | z
   .exact w3 (by rw [<- z];exact yAC _ (yAC _ yAF))
   .exact w4 (by rw [<- yAM.mp z];exact yAC _ (yAC _ yAF))
theorem ok_Pile_lay {f:Addr} {fd:FuncData} (F:Fun K "lay" "Pile.lay" ZBj f fd) (T:Bt K mg C_Join C_Pile C_Asker C_AskedRule)
  (f_filled:Fn P w K mg base CX0 "filled" 5 ["asker","first","least","end"] (ZD7 C_Asker C_AskedRule))
  (t_Pile_grade_on_top:Mt P w K mg base CX0 C_Pile "grade_on_top" 2 ["self","middle","beyond"] (ZEi C_Pile))
 :FnOk P w K mg base CX0 6 f fd ["self"] (ZFy C_Asker C_AskedRule C_Pile):=by
 refine F.ok sc_Pile_lay (fun vs H Q E h=>?_) (fun cdv A outer s H vs Q E hr h=>?_)
 .obtain ⟨ks,xs,a,rl,ru,tl,g,lg,x,fs,od,gr,pr,ls,s,e,r,oa,ps,gs,rfl,st,pa,px,pi,hdue,hre,hek,hk,hls,hpr,q⟩:=h
  rfl
 obtain ⟨ks,xs,a,rl,ru,tl,g,lg,x,fs,od,gr,pr,ls,s,e,r,oa,ps,gs,rfl,st,pa,px,pi,hdue,hre,hek,hk,hls,hpr,q⟩:=h
 refine ⟨_,(ZAB (ZAM (i:=1) sc_Pile_lay.nd rfl (by walk_at "o") (ZAR (pv 0) rfl))
  (ZAB (ZAM (i:=2) sc_Pile_lay.nd rfl (by walk_at "o") (ZA8 f_filled (hr.mono (by decide)) rfl ZAY (ZAA (ZAR (pv 0) rfl) (ZAA (pv 1) (ZAA (ZAR (pv 0) rfl) (ZAA (ZAR (pv 0) rfl) ZAD))))))
  (ZAT
  (ZAB (ZAM (i:=3) sc_Pile_lay.nd rfl (by walk_at "o") (ZAP ZAg (pv 1) (ZAL ZAK rfl T.b_len PySem.boot_len (ZAA (ZAc ZA2 (pv 2) ZAG (fun _ _=>rfl)) ZAD))))
  (ZAT
  (ZAB (ZBB (pt_lst (ZAR (pv 0) rfl))
  (ZAH (ZAk (ZCk PySem.F.plainAttrs_list PySem.F.slot_list_append PySem.F.type_list_append ZBm (ZAR (pv 0) rfl) (ZAA (ZBc t_Pile_grade_on_top (hr.mono (by decide)) ZAY (pv 0) (ZAA (pv 1) (ZAA (pv 3) ZAD))) ZAD)))) ZAb)
  (ZAT
  (ZAB (ZAk (ZCk PySem.F.plainAttrs_list PySem.F.slot_list_append PySem.F.type_list_append ZBm (ZAR (pv 0) rfl) (ZAA (pv 1) ZAD)))
  (ZAB (ZAk (ZCk PySem.F.plainAttrs_list PySem.F.slot_list_append PySem.F.type_list_append ZBm (ZAR (pv 0) rfl) (ZAA (ZAc ZA2 (pv 2) ZAG (fun _ _=>rfl)) ZAD)))
  (ZAB (ZBL (pv 0) (pv 3) rfl)
  (ZAH (ZAV (ZBO (ZAA ZFU (ZAA (pv 1) (ZAA (ZAc ZA2 (pv 2) ZAG (fun _ _=>rfl)) (ZAA (pv 3) ZAD))))))))))))))))),?_⟩
 walk_at "rd"
 have hcl:=pi.ch.le
 refine pa.hp.get T.cl_Pile T.n_Pile_reached (by walk_at "lk") (pa.hp.get T.cl_Pile T.n_Pile_asker (by walk_at "lk") (pa.hp.get T.cl_Pile T.n_Pile_least (by walk_at "lk") (pa.hp.get T.cl_Pile T.n_Pile_end (by walk_at "lk") ?_)))
 refine ⟨ks,xs,a,rl,ru,tl,g,lg,pr,r,ls,e,.int e,rfl,st,by omega,.inr rfl,hre,hek,by omega,hls,fun H1 t ol j f os l fr1 hol0 nol ht hol hb hput st1=>?_⟩
 have pa1:=pa.fr fr1 px.n1 px.n2
 have hj:=hb.two
 obtain ⟨o1,_,_⟩:=hput.all (first:=r) (asks r (min (j+1) e)) (by omega) hb.ord (fun i x y hx hy=>(hb.adj i x y hx hy).2)
 obtain ⟨v3,ev3⟩:∃ v3,v3=max j (min (r+ls) e):=⟨_,rfl⟩
 rw [<- ev3] at o1
 have hv3:r < v3 /\ v3 <= e:=by omega
 have hol1:=o1.len
 refine ZAZ ?_
 walk_at "rd"
 refine ZA0 (SqT.of ht) (ZAf (by decide) rfl) ⟨ol,_,rfl,.inl (SqL.of hol),?_⟩
 rw [yAB]
 walk_at "rd"
 rw [show (r:Int)+(os.length:Int)=(v3:Nat) by omega]
 refine ZAZ ?_
 walk_at "rd"
 have nt3:t∉[fs,od,gr]:=fun z=>by obtain ⟨y,hy⟩:=pa1.lsts t z;rw [hy] at ht;cases ht
 have nol3:ol∉[fs,od,gr]:=fun z=>by obtain ⟨y,hy⟩:=pa.lsts ol z;rw [hy] at hol0;cases hol0
 apply ZFB (fun X:Hp=>∃ gs',((ps=[] /\ gs'=gs)∨∃ A p g,ps=A++[p] /\ gs'=gs++[g] /\ Gr.IsG ((e:Int)-s) (((p.1:Int)-s)+((r:Int)-s)) (((r:Int)-s)+((v3:Int)-s)) g /\ g <= 240) /\ PileAt C_Pile X x a fs od gr ls s e r oa ps gs' /\ Fr [fs,od,gr] H1 X)
 .intro tailp
  refine pa1.hp.get T.cl_Pile T.n_Pile_firsts (by walk_at "lk") ⟨fs,_,rfl,SqL.of pa1.hfs,?_⟩
  by_cases hps:ps≠[]
  .obtain ⟨A,p,rfl⟩:∃ A p,ps=A++[p]:=⟨ps.dropLast,ps.getLast hps,(List.dropLast_concat_getLast _).symm⟩
   rw [if_pos (by simp)]
   obtain ⟨m,c1,c2,m2,c3,c4,c5⟩:=Ch.app.mp pi.ch
   have c5:m2=r:=c5
   have c1':=c1.le
   have hgl:=pi.gl
   rw [yAD,yBD] at hgl hcl
   refine pa1.hp.get T.cl_Pile T.n_Pile_grades (by walk_at "lk") ?_
   walk_at "rd"
   refine ⟨.inl ⟨rfl,_,SqL.of pa1.hgr⟩,pa1.hp.meth (by walk_at "lk") ⟨x,a,fs,od,gr,ls,s,e,r,oa,A,p,gs,r,v3,rfl,pa1,by omega,by omega,by omega,by omega,by omega,fun gg hg1 hg2=>?_⟩⟩
   refine ⟨gr,_,_,rfl,rfl,pa1.hgr,ZBY (by rw [yAB];omega),?_⟩
   have F:Fr [fs,od,gr] H1 (upd H1 gr (.lst (nL gs++[.int (gg:Nat)]))):=Fr.upd (yAC _ (yAC _ yAF))
   have P:PileAt C_Pile (upd H1 gr (.lst (nL gs++[.int (gg:Nat)]))) x a fs od gr ls s e r oa (A++[p]) (gs++[gg]):=⟨ZDr F pa1.xl pa1.hp,by rw [ZAI pa1.ne.2.1];exact pa1.hfs,by rw [ZAI pa1.ne.2.2];exact pa1.hod,by rw [ZAF];unfold nL;rw [yAR];rfl,pa1.oat.keep fun b hb o h=>F _ _ (pa1.nb b hb) h,pa1.ne,pa1.nb⟩
   generalize upd H1 gr (.lst (nL gs++[.int (gg:Nat)]))=X at F P ⊢
   exact tailp X ⟨gs++[gg],.inr ⟨A,p,gg,rfl,rfl,hg1,hg2⟩,P,F⟩
  .have hps:ps=[]:=Classical.byContradiction hps
   rw [if_neg (by rw [hps];simp)]
   exact tailp H1 ⟨gs,.inl ⟨hps,rfl⟩,pa1,.refl⟩
 rintro X ⟨gs',hgr',paX,FX⟩
 have htX:=FX _ _ nt3 ht
 have holX:=FX _ _ nol3 hol
 have hoal:=paX.oat.len
 have nxl:=paX.xl
 have nx1:x≠fs:=fun z=>nxl (by rw [z];exact yAF)
 have nx2:x≠od:=fun z=>nxl (by rw [z];exact yAC _ yAF)
 have nx3:x≠gr:=fun z=>nxl (by rw [z];exact yAC _ (yAC _ yAF))
 obtain ⟨ne1,ne2,ne3⟩:=paX.ne
 refine ZAZ ?_
 walk_at "rd"
 refine paX.hp.get T.cl_Pile T.n_Pile_firsts (by walk_at "lk") ?_
 walk_at "rd"
 refine ⟨.inl ⟨rfl,_,SqL.of paX.hfs⟩,fs,_,_,rfl,rfl,paX.hfs,ZBY (by rw [yAB,yAB];omega),?_⟩
 obtain ⟨us,eus⟩:∃ us,nL (ps.map Prod.fst)++[.int (r:Nat)]=us:=⟨_,rfl⟩
 rw [eus]
 have hp3:Ins (upd X fs (.lst us)) x C_Pile (fPl a ls s e r fs od gr):=paX.hp.keep (ZAI nx1)
 have hod3:upd X fs (.lst us) od=some (.lst (oa.map V.ref)):=by rw [ZAI (Ne.symm ne1)];exact paX.hod
 refine hp3.get T.cl_Pile T.n_Pile_orders (by walk_at "lk") ?_
 walk_at "rd"
 refine ⟨.inl ⟨rfl,_,SqL.of hod3⟩,ZA0 (SqT.of (by rw [ZAI (fun z=>nt3 (by rw [z];exact yAF))];exact htX)) (ZAf (by decide) rfl) ⟨od,_,_,rfl,rfl,hod3,ZBY (by rw [yAB];omega),?_⟩⟩
 have F2:Fr [fs,od,gr] X (upd (upd X fs (.lst us)) od (.lst (oa.map V.ref++[.ref ol]))):=(Fr.upd yAF).trans (Fr.upd (yAC _ yAF))
 have hp4:Ins (upd (upd X fs (.lst us)) od (.lst (oa.map V.ref++[.ref ol]))) x C_Pile (fPl a ls s e r fs od gr):=hp3.keep (ZAI nx2)
 have hf4:(upd (upd X fs (.lst us)) od (.lst (oa.map V.ref++[.ref ol]))) fs=some (.lst us):=by rw [ZAI ne1,ZAF]
 have ho4:(upd (upd X fs (.lst us)) od (.lst (oa.map V.ref++[.ref ol]))) od=some (.lst (oa.map V.ref++[.ref ol])):=ZAF
 have hg4:(upd (upd X fs (.lst us)) od (.lst (oa.map V.ref++[.ref ol]))) gr=some (.lst (nL gs')):=by rw [ZAI (Ne.symm ne3),ZAI (Ne.symm ne2)];exact paX.hgr
 generalize (upd (upd X fs (.lst us)) od (.lst (oa.map V.ref++[.ref ol])))=Y at F2 hp4 hf4 ho4 hg4 ⊢
 refine hp4.set T.cl_Pile T.n_Pile_reached (fun Z hpZ kZ=>?_) ⟨_,by walk_at "lk"⟩
 have ltop:∀ {b:Addr} {us:List V},Y b=some (.lst us)->Z b=some (.lst us):=fun {b us} h=>by rw [kZ b (hp4.ne h fun _ _ _ z=>by cases z)];exact h
 have htY:=F2 _ _ nt3 htX
 have htZ:Z t=some (.tup [.int (j:Nat),.ref ol]):=by rw [kZ t (hp4.ne htY fun _ _ _ z=>by cases z)];exact htY
 walk_at "rd"
 refine ZA0 (SqT.of htZ) (ZAf (by decide) rfl) ⟨ZAX (by decide),fun t2 ht2=>?_⟩
 obtain ⟨W,eW,sW,hW⟩:=newH ht2 (.tup [.str "lay",.int (r:Nat),.int (j:Nat),.int (v3:Nat)])
 rw [eW];clear eW
 have FY:Fr [fs,od,gr] H1 Y:=FX.trans F2
 have nb':∀ b∈oa++[ol],b∉[fs,od,gr] /\ b∉[a,lg,tl] /\ (b∈oa∨H b=none):=fun b hb=>by
  rcases yAV.mp hb with z | z
  .exact ⟨pa.nb b z,px.n2 b z,.inl z⟩
  .rw [yAM.mp z];exact ⟨nol3,nol,.inr hol0⟩
 have oatW:OrdAt W (oa++[ol]) (ps++[(r,os)]):=by
  refine OrdAt.app ?_ ⟨sW _ _ (ltop (F2 _ _ nol3 holX)),trivial⟩
  refine paX.oat.keep fun b hb o h=>sW _ _ ?_
  obtain ⟨i,hi⟩:=yBK hb
  obtain ⟨p',_,hp'⟩:=paX.oat.get hi
  have e1:o=.lst (nL p'.2):=Option.some.inj (h.symm.trans hp')
  rw [e1]
  exact ltop (F2 _ _ (paX.nb b hb) hp')
 obtain ⟨dx,fl,hxY,_,_⟩:=hp4.ex
 have stY:SitL C_Asker C_AskedRule Y ks xs a rl ru tl g lg (pr++(asks r (min (j+1) e)++l)):=st1.apart FY pa1.lsts ⟨px.n3,fun z=>(by
   obtain ⟨w1,w2,w3,w4⟩:=px.n1
   rcases yAE.mp z with z | z
   .exact w2 (by rw [<- z];exact yAC _ yAF)
   rcases yAE.mp z with z | z
   .exact w3 (by rw [<- z];exact yAC _ yAF)
   .exact w4 (by rw [<- yAM.mp z];exact yAC _ yAF)),fun z=>by
   obtain ⟨w1,w2,w3,w4⟩:=px.n1
   rcases yAE.mp z with z | z
   .exact w2 (by rw [<- z];exact yAC _ (yAC _ yAF))
   rcases yAE.mp z with z | z
   .exact w3 (by rw [<- z];exact yAC _ (yAC _ yAF))
   .exact w4 (by rw [<- yAM.mp z];exact yAC _ (yAC _ yAF))⟩
 have stZ:=stY.butN hxY px.n1.1 px.nr (H':=Z) fun b o n h=>by rw [kZ b n];exact h
 refine q t2 W j v3 _ (oa++[ol]) (ps++[(r,os)]) gs' f os l ⟨rfl,hre,hb,hput,rfl,ev3,rfl,rfl,hdue,hgr'⟩ ⟨fun b o n h=>?_,fun b hb=>(nb' b hb).2.2,hW,⟨?_,?_,?_,?_,oatW,paX.ne,fun b hb=>(nb' b hb).1⟩,⟨px.n1,fun b hb=>(nb' b hb).2.1,px.n3,px.nr⟩,stZ.mono sW⟩
 .refine sW _ _ ?_
  rw [kZ b (fun z=>n (by rw [z];exact yAF))]
  refine FY _ _ (fun z=>n (yAC _ (yBC [a,lg,tl] z))) (fr1 _ _ (fun z=>n (yAC _ (yAC _ (yAC _ (yAC _ z))))) h)
 .exact (hpZ.congr fPl_reached).mono sW
 .refine sW _ _ (ltop ?_)
  rw [hf4,<- eus,yAR];unfold nL;rw [yAR];rfl
 .refine sW _ _ (ltop ?_)
  rw [ho4,yAR];rfl
 .exact sW _ _ (ltop hg4)
theorem ok_Pile_step {f:Addr} {fd:FuncData} (F:Fun K "step" "Pile.step" ZBR f fd) (T:Bt K mg C_Join C_Pile C_Asker C_AskedRule)
  (t_Pile_is_due_beneath:Mt P w K mg base CX0 C_Pile "is_due_beneath" 1 ["self"] (ZFz C_Pile))
  (t_Pile_join_two:Mt P w K mg base CX0 C_Pile "join_two" 7 ["self","lower"] (ZDV C_Asker C_AskedRule C_Pile))
  (t_Pile_lay:Mt P w K mg base CX0 C_Pile "lay" 6 ["self"] (ZFy C_Asker C_AskedRule C_Pile))
 :FnOk P w K mg base CX0 8 f fd ["self"] (ZFM C_Asker C_AskedRule C_Pile):=by
 refine F.ok sc_Pile_step (fun vs H Q E h=>?_) (fun cdv A outer s H vs Q E hr h=>?_)
 .obtain ⟨ks,xs,a,rl,ru,tl,g,lg,x,fs,od,gr,pr,ls,s,e,r,oa,ps,gs,rfl,st,pa,px,pi,hek,hk,hls,hpr,q0,q⟩:=h
  rfl
 obtain ⟨ks,xs,a,rl,ru,tl,g,lg,x,fs,od,gr,pr,ls,s,e,r,oa,ps,gs,rfl,st,pa,px,pi,hek,hk,hls,hpr,q0,q⟩:=h
 refine ⟨_,(ZAB (ZBB (ZBZ (ZCK t_Pile_is_due_beneath (hr.mono (by decide)) ZAY (pv 0)))
  (ZAH (ZAV (ZBc t_Pile_join_two (hr.mono (by decide)) ZAY (pv 0) (ZAA (ZAP ZBa (ZAL ZAK rfl T.b_len PySem.boot_len (ZAA (ZAR (pv 0) rfl) ZAD)) ZAG) ZAD)))) ZAb)
  (ZAB (ZBB (ZAS ZDB (ZAR (pv 0) rfl) (ZAR (pv 0) rfl) (ZAW _))
  (ZAH (ZAV (ZCK t_Pile_lay (hr.mono (by decide)) ZAY (pv 0)))) ZAb)
  (ZAB (ZBB (ZAS ZFX (ZAL ZAK rfl T.b_len PySem.boot_len (ZAA (ZAR (pv 0) rfl) ZAD)) ZAG (ZAW _))
  (ZAH (ZAV (ZBc t_Pile_join_two (hr.mono (by decide)) ZAY (pv 0) (ZAA (ZAP ZBa (ZAL ZAK rfl T.b_len PySem.boot_len (ZAA (ZAR (pv 0) rfl) ZAD)) ZAG) ZAD)))) ZAb)
  (ZAH (ZAV ZCJ))))),?_⟩
 walk_at "rd"
 have hol:=pa.oat.len
 have hgl:=pi.gl
 have hcl:=pi.ch.le
 have hre:=pi.re
 refine pa.hp.meth (by walk_at "lk") ⟨x,a,fs,od,gr,ls,s,e,r,oa,ps,gs,rfl,pa,_,rfl,?_⟩
 cases hd:dueB gs with
 | true=>
  rw [if_pos rfl]
  have h2:2 <= gs.length:=Nat.lt_of_not_le fun z=>by rw [dueB_few z] at hd;cases hd
  obtain ⟨A',p2,p3,rfl⟩:=ZDv (l:=ps) (by omega)
  rw [yAD] at hgl hol hcl
  have hA:1 <= A'.length:=by have:([p2,p3]:List (Nat×List Nat)).length=2:=rfl;omega
  obtain ⟨A,p1,rfl⟩:∃ A p1,A'=A++[p1]:=⟨A'.dropLast,A'.getLast (List.ne_nil_of_length_pos hA),(List.dropLast_concat_getLast _).symm⟩
  rw [yAL] at pa
  have pic:=pi.ch
  rw [yAL] at pic
  obtain ⟨v1,o1⟩:=p1
  obtain ⟨v2,o2⟩:=p2
  rw [yAD,yBD] at hgl hol hcl
  have t2:([(v2,o2),p3]:List (Nat×List Nat)).length=2:=rfl
  refine pa.hp.meth (by walk_at "lk") (pa.hp.get T.cl_Pile T.n_Pile_orders (by walk_at "lk") ⟨od,_,rfl,.inl (SqL.of pa.hod),?_⟩)
  refine ⟨ks,xs,a,rl,ru,tl,g,lg,x,fs,od,gr,pr,ls,s,e,r,oa,A,v1,v2,o1,o2,[p3],gs,?_,st,pa,px,pic,by omega,by omega,hk,hpr,fun t H' o L oa' hJ lf=>?_⟩
  .rw [yAB];congr 3;omega
  .exact q t H' true v1 v2 _ L oa' _ _ r (.inl ⟨rfl,rfl,A,o1,o2,o,[p3],⟨yAL ..,rfl,rfl,hJ,rfl,.inl ⟨hd,rfl⟩⟩⟩) lf
 | false=>
  rw [if_neg (by decide)]
  refine pa.hp.get T.cl_Pile T.n_Pile_reached (by walk_at "lk") (pa.hp.get T.cl_Pile T.n_Pile_end (by walk_at "lk") ⟨_,_,rfl,rfl,_,rfl,?_⟩)
  by_cases hlt:r < e
  .rw [if_pos (decide_eq_true (by omega))]
   refine pa.hp.meth (by walk_at "lk") ⟨ks,xs,a,rl,ru,tl,g,lg,x,fs,od,gr,pr,ls,s,e,r,oa,ps,gs,rfl,st,pa,px,pi,hd,hlt,hek,hk,hls,hpr,fun t H' v2 v3 L oa' ps' gs' f os l sl lf=>?_⟩
   exact q t H' false r v2 v3 L oa' ps' gs' v3 (.inr ⟨rfl,f,os,l,sl⟩) lf
  .rw [if_neg (by simp;omega)]
   have hre':r=e:=by omega
   refine pa.hp.get T.cl_Pile T.n_Pile_orders (by walk_at "lk") ⟨od,_,rfl,.inl (SqL.of pa.hod),?_⟩
   rw [yAB]
   by_cases h2:2 <= ps.length
   .rw [if_pos (by omega)]
    obtain ⟨A,p1,p2,rfl⟩:=ZDv (l:=ps) h2
    obtain ⟨v1,o1⟩:=p1
    obtain ⟨v2,o2⟩:=p2
    rw [yAD] at hgl hol hcl
    have t2:([(v1,o1),(v2,o2)]:List (Nat×List Nat)).length=2:=rfl
    refine pa.hp.meth (by walk_at "lk") (pa.hp.get T.cl_Pile T.n_Pile_orders (by walk_at "lk") ⟨od,_,rfl,.inl (SqL.of pa.hod),?_⟩)
    refine ⟨ks,xs,a,rl,ru,tl,g,lg,x,fs,od,gr,pr,ls,s,e,r,oa,A,v1,v2,o1,o2,[],gs,?_,st,pa,px,pi.ch,by omega,by omega,hk,hpr,fun t H' o L oa' hJ lf=>?_⟩
    .rw [yAB];congr 3;omega
    .exact q t H' true v1 v2 _ L oa' _ _ r (.inl ⟨rfl,rfl,A,o1,o2,o,[],⟨rfl,rfl,rfl,hJ,rfl,.inr ⟨hd,hre',rfl⟩⟩⟩) lf
   .rw [if_neg (by omega)]
    exact q0 hd hre' (by omega)
theorem ok_Pile_paper {f:Addr} {fd:FuncData} (F:Fun K "paper" "Pile.paper" ZBE f fd) (T:Bt K mg C_Join C_Pile C_Asker C_AskedRule)
 :FnOk P w K mg base CX0 1 f fd ["self"] (ZEh C_Pile):=by
 refine F.ok sc_Pile_paper (fun vs H Q E h=>?_) (fun cdv A outer s H vs Q E hr h=>?_)
 .obtain ⟨x,a,fs,od,gr,ls,s,e,r,oa,ps,gs,rfl,pa,hfl,hre,he,q⟩:=h
  rfl
 obtain ⟨x,a,fs,od,gr,ls,s,e,r,oa,ps,gs,rfl,pa,hfl,hre,he,q⟩:=h
 refine ⟨_,(ZAB (ZAM (i:=1) sc_Pile_paper.nd rfl (by walk_at "o") (ZBP ZAD))
  (ZAB (ZDH PassesOwn.never rfl (ZCB (ZAR (pv 0) rfl)) (ZAp (i:=2) sc_Pile_paper.nd rfl (by walk_at "o"))
  (ZAH (ZAk (ZCk PySem.F.plainAttrs_list PySem.F.slot_list_extend PySem.F.type_list_extend mt_extend (pv 1) (ZAA (pv 2) ZAD)))))
  (ZAH (ZAV (ZAP ZE2 (pv 1) (ZAl (ZBN rfl) rfl T.b_list PyProof.Rows.boot_list (ZAA (ZAl ZC1 rfl T.b_range PyProof.Rows.boot_range (ZAA (ZAR (pv 0) rfl) (ZAA (ZAR (pv 0) rfl) ZAD))) ZAD))))))),?_⟩
 walk_at "rd"
 refine ⟨yAI _,fun p hp=>?_⟩
 obtain ⟨H1,e1,s1,h1⟩:=newH hp (.lst [])
 rw [e1];clear e1
 have pa1:=pa.mono s1
 have hol:=pa.oat.len
 refine pa1.hp.get T.cl_Pile T.n_Pile_orders (by walk_at "lk") ?_
 refine ZEs (SqL.of pa1.hod) (fun i σ X=>∃ v2,σ=[some (.ref x),some (.ref p),v2] /\ Same H X /\ X p=some (.lst (nL (flt (ps.take i))))) ⟨_,rfl,s1,h1⟩ (fun i σ X _ ⟨_,_,sX,_⟩=>SqL.of (sX _ _ pa.hod)) ?_ ?_
 .rintro i y σ X hy ⟨v2,rfl,sX,hX⟩
  obtain ⟨b,hb,rfl⟩:∃ b,oa[i]?=some b /\ y=.ref b:=by
   rw [yAW] at hy
   cases hz:oa[i]? with
   | none=>rw [hz] at hy;cases hy
   | some b=>rw [hz] at hy;exact ⟨b,rfl,(Option.some.inj hy).symm⟩
  obtain ⟨p1,g1,g2⟩:=pa.oat.get hb
  have e1:flt (ps.take (i+1))=flt (ps.take i)++p1.2:=by
   rw [List.take_add_one,g1,ZEK]
   congr 1
   unfold flt
   simp
  have hle:(flt (ps.take i)).length+p1.2.length <= 63:=by
   have e2:flt ps=flt (ps.take (i+1))++flt (ps.drop (i+1)):=by rw [<- ZEK,yBM]
   rw [e2,e1,yAD,yAD] at hfl
   omega
  walk_at "rd"
  refine ⟨.inl ⟨rfl,_,SqL.of hX⟩,p,b,_,_,rfl,rfl,hX,sX _ _ g2,ZAX (by rw [yAB,yAB];omega),?_⟩
  refine ⟨_,rfl,sX.upd hp,?_⟩
  rw [ZAF,e1]
  unfold nL
  rw [yAR]
 rintro σ X ⟨v2,rfl,sX,hX⟩
 rw [yAB,hol,List.take_length] at hX
 walk_at "rd"
 have paX:=pa.mono sX
 refine paX.hp.get T.cl_Pile T.n_Pile_reached (by walk_at "lk") (paX.hp.get T.cl_Pile T.n_Pile_end (by walk_at "lk") ⟨_,_,rfl,fun p2 hp2=>?_⟩)
 obtain ⟨H3,e3,s3,h3⟩:=newH hp2 (.rng r e)
 rw [e3];clear e3
 refine ⟨p2,r,e,rfl,h3,by omega,fun l2 hl2=>?_⟩
 rw [ZCu]
 obtain ⟨H4,e4,s4,h4⟩:=newH hl2 (.lst (nL (List.range' r (e-r))))
 rw [e4];clear e4
 refine ⟨p,l2,_,_,rfl,rfl,s4 _ _ (s3 _ _ hX),h4,ZAX (by rw [yAB,yAB,yCD];omega),fun l hl=>?_⟩
 refine q l _ (sX.trans (s3.trans (s4.new hl))) ((sX.trans (s3.trans s4)).free hl) ?_
 rw [ZAF]
 unfold nL
 rw [yAR]
theorem ok_Asker_answers {f:Addr} {fd:FuncData} (F:Fun K "answers" "Asker.answers" ZAz f fd) (T:Bt K mg C_Join C_Pile C_Asker C_AskedRule)
 :FnOk P w K mg base CX0 1 f fd ["self"] (ZDY C_Asker):=by
 refine F.ok sc_Asker_answers (fun vs H Q E h=>?_) (fun cdv A outer s H vs Q E hr h=>?_)
 .obtain ⟨a,rl,ru,tl,m,n,ts,rfl,ha,htl,q⟩:=h
  rfl
 obtain ⟨a,rl,ru,tl,m,n,ts,rfl,ha,htl,q⟩:=h
 refine ⟨_,(ZAH (ZAV (ZAl ZBI rfl T.b_list PyProof.Rows.boot_list (ZAA (ZAR (pv 0) rfl) ZAD)))),?_⟩
 walk_at "rd"
 refine ha.get T.cl_Asker T.n_Asker_told (by walk_at "lk") ⟨tl,ts,rfl,.inl (SqL.of htl),fun l hl=>?_⟩
 exact q l _ (ZAQ hl _) hl ZAF
theorem ok_straight {f:Addr} {fd:FuncData} (F:Fun K "straight" "straight" ZBg f fd) (T:Bt K mg C_Join C_Pile C_Asker C_AskedRule)
 :FnOk P w K mg base CX0 1 f fd ["many"] (ZCU):=by
 refine F.ok sc_straight (fun vs H Q E h=>?_) (fun cdv A outer s H vs Q E hr h=>?_)
 .obtain ⟨n,rfl,hn,q⟩:=h
  rfl
 obtain ⟨n,rfl,hn,q⟩:=h
 refine ⟨_,(ZAH (ZAV (ZAl (ZBN rfl) rfl T.b_list PyProof.Rows.boot_list (ZAA (ZAl call_rng1 rfl T.b_range PyProof.Rows.boot_range (ZAA (pv 0) ZAD)) ZAD)))),?_⟩
 walk_at "rd"
 refine ⟨n,rfl,fun p hp=>⟨p,0,n,rfl,ZAF,by omega,fun l hl=>?_⟩⟩
 exact q l _ ((ZAQ hp _).new hl) ((ZAQ hp _).free hl) (by rw [ZAF,rints_range])
theorem ok_is_number {f:Addr} {fd:FuncData} (F:Fun K "is_number" "is_number" ZBQ f fd) (T:Bt K mg C_Join C_Pile C_Asker C_AskedRule)
 :FnOk P w K mg base CX0 1 f fd ["some"] (ZC6):=by
 refine F.ok sc_is_number (fun vs H Q E h=>?_) (fun cdv A outer s H vs Q E hr h=>?_)
 .obtain ⟨i,rfl,q⟩:=h
  rfl
 obtain ⟨i,rfl,q⟩:=h
 refine ⟨_,(ZAH (ZAV (pe_and (ZAL ZCH rfl T.b_isinstance PyProof.Rows.boot_isinstance (ZAA (pv 0) (ZAA (ZEz rfl T.b_int PyProof.Rows.boot_int) ZAD))) (ZFV (pe_not (ZAL ZCH rfl T.b_isinstance PyProof.Rows.boot_isinstance (ZAA (pv 0) (ZAA (ZEz rfl T.b_bool PyProof.Rows.boot_bool) ZAD)))))))),?_⟩
 walk_at "rd"
 refine inst_int ?_
 walk_at "rd"
 refine inst_int_bl T.kit_int_bool ?_
 walk_at "rd"
 exact q
theorem ok_is_paper {f:Addr} {fd:FuncData} (F:Fun K "is_paper" "is_paper" ZBi f fd) (T:Bt K mg C_Join C_Pile C_Asker C_AskedRule)
  (f_straight:Fn P w K mg base CX0 "straight" 1 ["many"] (ZCU))
  (f_is_number:Fn P w K mg base CX0 "is_number" 1 ["some"] (ZC6))
 :FnOk P w K mg base CX0 2 f fd ["some"] (ZDW):=by
 refine F.ok sc_is_paper (fun vs H Q E h=>?_) (fun cdv A outer s H vs Q E hr h=>?_)
 .obtain ⟨a,p,rfl,ha,hp,hl,q⟩:=h
  rfl
 obtain ⟨a,p,rfl,ha,hp,hl,q⟩:=h
 refine ⟨_,(ZAB (ZBB (PW.pt (ZFA (ZDG (ZBZ (ZAL ZCH rfl T.b_isinstance PyProof.Rows.boot_isinstance (ZAA (pv 0) (ZAA (ZEz rfl T.b_list PyProof.Rows.boot_list) ZAD))))) (ZDp (ZDG (ZBZ (ZAL (ZEP rfl) rfl T.b_all PyProof.Rows.boot_all (ZAA (ZCC rfl (k:=1) (js:=[]) (N':=["number"]) (by rfl) (ZCB (pv 0)) (fun _ _ _ _=>ZAp (i:=0) (show (["number"]:List Str).Nodup by decide +kernel) rfl (by walk_at "o")) (fun _ _ _ _=>ZBt) (fun _ _ _ _=>(ZA8 f_is_number (hr.mono (by decide)) rfl ZAY (ZAA (pv 0) ZAD)))) ZAD)))))))
  (ZAH (ZAV ZCl)) ZAb)
  (ZAH (ZAV (ZBz (op_eqD hr.units) (ZAL ZBb rfl T.b_sorted PyProof.Rows.boot_sorted (ZAA (pv 0) ZAD)) (ZA8 f_straight (hr.mono (by decide)) rfl ZAY (ZAA (ZAL ZAK rfl T.b_len PySem.boot_len (ZAA (pv 0) ZAD)) ZAD)) (ZAW _))))),?_⟩
 walk_at "rd"
 refine inst_lst ha ?_
 walk_at "rd"
 refine compL_gen (SqL.of ha) (by rw [ZBo];omega) rfl (fun _ y _=>y=.bl true) (fun _ _ _ _ _ q=>q) (fun i x H' hx e Q' k=>?_) fun ys H' l hyl hR e hn=>?_
 .obtain ⟨_,rfl⟩:=ZE7 hx
  walk_at "rd"
  exact ⟨_,rfl,k _ _ (.refl _) rfl⟩
 have hys:ys=(List.replicate p.length true).map V.bl:=by
  rw [List.map_replicate]
  refine eq_rep (by rw [hyl,ZBo]) fun j y hy=>?_
  have hj:j < ys.length:=(yAH.mp hy).1
  exact hR j _ y (ZGE (by rw [hyl,ZBo] at hj;exact hj)) hy
 refine ⟨l,List.replicate p.length true,rfl,SqL.of (by rw [ZAF,hys]),?_⟩
 rw [if_neg (by rw [all_true];simp)]
 have s1:=e.new (o:=.lst ys) hn
 refine ⟨a,p.map fun x:Nat=>(x:Int),rfl,SqL.of (s1 _ _ ha),by rw [yAB];omega,fun l2 ms hl2 hperm hsort=>?_⟩
 obtain rfl:=hp.sorted hperm hsort
 have s2:=s1.new (o:=.lst (NL (List.range p.length))) hl2
 refine ⟨a,NL p,rfl,.inl (SqL.of (s2 _ _ ha)),?_⟩
 rw [ZBo]
 refine ⟨p.length,rfl,by omega,fun l3 H3 s3 hn3 h3=>?_⟩
 refine eqD_of Enc.int.list (by decide) (ZBd (SqL.of (s3 _ _ ZAF))) (ZBd (SqL.of h3)) ?_
 rw [decide_eq_true rfl]
 exact q _ (s2.trans s3)
theorem ok_check_paper {f:Addr} {fd:FuncData} (F:Fun K "check_paper" "check_paper" ZA9 f fd) (T:Bt K mg C_Join C_Pile C_Asker C_AskedRule)
  (f_is_paper:Fn P w K mg base CX0 "is_paper" 2 ["some"] (ZDW))
 :FnOk P w K mg base CX0 3 f fd ["some","many"] (ZCO):=by
 refine F.ok sc_check_paper (fun vs H Q E h=>?_) (fun cdv A outer s H vs Q E hr h=>?_)
 .obtain ⟨a,p,rfl,ha,hp,hl,q⟩:=h
  rfl
 obtain ⟨a,p,rfl,ha,hp,hl,q⟩:=h
 refine ⟨_,(ZAH (ZBB (PW.pt (ZFA (ZDG (ZBZ (ZA8 f_is_paper (hr.mono (by decide)) rfl ZAY (ZAA (pv 0) ZAD)))) (ZDp (ZAS op_ne (ZAL ZAK rfl T.b_len PySem.boot_len (ZAA (pv 0) ZAD)) (pv 1) (ZAW _)))))
  (ZAH (ps_never)) ZAb)),?_⟩
 walk_at "rd"
 refine ⟨a,p,rfl,ha,hp,hl,fun H' s'=>⟨true,rfl,?_⟩⟩
 walk_at "rd"
 refine ⟨a,NL p,rfl,.inl (SqL.of (s' _ _ ha)),?_⟩
 rw [ZBo,if_neg (by simp)]
 exact q _ s'
theorem ok_back {f:Addr} {fd:FuncData} (F:Fun K "back" "back" ZDo f fd) (T:Bt K mg C_Join C_Pile C_Asker C_AskedRule)
  (f_check_paper:Fn P w K mg base CX0 "check_paper" 3 ["some","many"] (ZCO))
  (f_straight:Fn P w K mg base CX0 "straight" 1 ["many"] (ZCU))
 :FnOk P w K mg base CX0 4 f fd ["paper"] (ZFP):=by
 refine F.ok sc_back (fun vs H Q E h=>?_) (fun cdv A outer s H vs Q E hr h=>?_)
 .obtain ⟨a,p,rfl,ha,hp,hl,q⟩:=h
  rfl
 obtain ⟨a,p,rfl,ha,hp,hl,q⟩:=h
 refine ⟨_,(ZAB (ZAk (ZA8 f_check_paper (hr.mono (by decide)) rfl ZAY (ZAA (pv 0) (ZAA (ZAL ZAK rfl T.b_len PySem.boot_len (ZAA (pv 0) ZAD)) ZAD))))
  (ZAB (ZAM (i:=1) sc_back.nd rfl (by walk_at "o") (ZA8 f_straight (hr.mono (by decide)) rfl ZAY (ZAA (ZAL ZAK rfl T.b_len PySem.boot_len (ZAA (pv 0) ZAD)) ZAD)))
  (ZAB (ZDH PassesOwn.never rfl (pi_enum rfl T.b_enumerate (ZAA (pv 0) ZAD)) (pg_tup (n:=2) rfl (ZBX (ZAp (i:=2) sc_back.nd rfl (by walk_at "o")) (ZBX (ZAp (i:=3) sc_back.nd rfl (by walk_at "o")) ZEB)))
  (ZAH (ZFS (pv 2) (ZFT (pv 1) (pv 3) ZD9))))
  (ZAH (ZAV (pv 1)))))),?_⟩
 walk_at "rd"
 refine ⟨a,NL p,rfl,.inl (SqL.of ha),?_⟩
 rw [ZBo]
 refine ⟨a,p,rfl,ha,hp,hl,fun H1 s1=>⟨a,NL p,rfl,.inl (SqL.of (s1 _ _ ha)),?_⟩⟩
 rw [ZBo]
 refine ⟨p.length,rfl,by omega,fun l H2 s2 hl2 h2=>?_⟩
 have hal:a≠l:=ZAE (s1 _ _ ha) hl2
 have hln:H l=none:=s1.free hl2
 refine forE_of (SqL.of (s2 _ _ (s1 _ _ ha))) (fun i σ H'=>∃ v2 v3,σ=[some (.ref a),some (.ref l),v2,v3] /\ H' a=some (.lst (NL p)) /\ H' l=some (.lst (NL (Pap.spots p i))) /\ Same H H') ⟨_,_,rfl,s2 _ _ (s1 _ _ ha),by rw [Pap.spots_zero];exact h2,s1.trans s2⟩ (fun i σ H' _ ⟨_,_,_,h,_⟩=>SqL.of h) ?_ ?_
 .rintro i x σ H' t hx ⟨v2,v3,rfl,h3,h4,h5⟩ ht
  obtain ⟨hi,rfl⟩:=ZE7 hx
  refine ZEH (SqT.of ZAF) rfl ?_
  walk_at "rd"
  have h3':=(ZAQ ht (.tup [.int i,.int (Pap.at' p i)])) _ _ h3
  have h4':=(ZAQ ht (.tup [.int i,.int (Pap.at' p i)])) _ _ h4
  have hlt:=hp.at_lt hi
  refine ⟨l,_,_,_,rfl,rfl,h4',ZFc (by omega) (by rw [ZBo,Pap.spots_len];omega),?_⟩
  refine ⟨_,_,rfl,by rw [ZAI hal];exact h3',?_,(h5.new ht).upd hln⟩
  rw [ZAF,Int.toNat_natCast,<- Pap.spots_step hp hi,NL,NL,List.map_set,List.map_set]
 .rintro σ H' ⟨v2,v3,rfl,h3,h4,h5⟩
  rw [ZBo,Pap.spots_end hp] at h4
  walk_at "rd"
  exact q l _ h5 hln h4
theorem ok_agrees {f:Addr} {fd:FuncData} (F:Fun K "agrees" "agrees" ZCa f fd) (T:Bt K mg C_Join C_Pile C_Asker C_AskedRule)
  (f_back:Fn P w K mg base CX0 "back" 4 ["paper"] (ZFP))
 :FnOk P w K mg base CX0 5 f fd ["paper","answers"] (ZD8):=by
 refine F.ok sc_agrees (fun vs H Q E h=>?_) (fun cdv A outer s H vs Q E hr h=>?_)
 .obtain ⟨a,w,p,cs,ws,rfl,ha,hp,hl,hw,hA,hcs,hcl,q⟩:=h
  rfl
 obtain ⟨a,w,p,cs,ws,rfl,ha,hp,hl,hw,hA,hcs,hcl,q⟩:=h
 refine ⟨_,(ZAB (ZAM (i:=2) sc_agrees.nd rfl (by walk_at "o") (ZA8 f_back (hr.mono (by decide)) rfl ZAY (ZAA (pv 0) ZAD)))
  (ZAH (ZAV (ZAL (ZEP rfl) rfl T.b_all PyProof.Rows.boot_all (ZAA (ZCC rfl (k:=3) (js:=[2]) (N':=["later","earlier","said","spots"]) (by rfl) (ZCB (pv 1)) (fun _ _ _ _=>ZEl (n:=3) K rfl (ZBX (ZAp (i:=0) (show (["later","earlier","said","spots"]:List Str).Nodup by decide +kernel) rfl (by walk_at "o")) (ZBX (ZAp (i:=1) (show (["later","earlier","said","spots"]:List Str).Nodup by decide +kernel) rfl (by walk_at "o")) (ZBX (ZAp (i:=2) (show (["later","earlier","said","spots"]:List Str).Nodup by decide +kernel) rfl (by walk_at "o")) ZEB)))) (fun _ _ _ _=>ZBt) (fun _ _ _ _=>(ZBz ZCm (ZBz ZDB (ZAc (ZDP K) (pv 3) (pv 0) (fun _ _=>rfl)) (ZAc (ZDP K) (pv 3) (pv 1) (fun _ _=>rfl)) (ZAW _)) (pv 2) (ZAW _)))) ZAD))))),?_⟩
 walk_at "rd"
 refine ⟨a,p,rfl,ha,hp,hl,fun sp H1 s1 hsp0 hsp=>?_⟩
 have hA1:=hA.keep s1
 refine ZDi (SqL.of (s1 _ _ hw)) (by rw [hA.len];omega) (fun i ys σ H'=>∃ v1 v2 v3,σ=[v1,v2,v3,some (.ref sp)] /\ Same H1 H' /\ ys=((cs.take i).map fun c=>decide (Pap.at' (Pap.bk p) c.1 < Pap.at' (Pap.bk p) c.2.1) == c.2.2).map V.bl) ⟨_,_,_,rfl,.refl _,rfl⟩ (fun i ys σ H' hi ⟨_,_,_,_,e,e2⟩=>⟨SqL.of (e _ _ (s1 _ _ hw)),by rw [e2,yAB,yAB,yAN];omega⟩) ?_ ?_
 .rintro i ys x σ H' hi hx ⟨v1,v2,v3,rfl,s2,rfl⟩
  rw [hA.len] at hi
  obtain ⟨⟨p1,q1,b1⟩,hc⟩:∃ c,cs[i]?=some c:=⟨_,yAJ hi⟩
  obtain ⟨t,ht1,ht2⟩:=hA1.get i p1 q1 b1 hc
  rw [hx] at ht1
  cases ht1
  obtain ⟨b2,b3⟩:=hcs _ (yAK hc)
  refine ZEH (SqT.of (s2 _ _ ht2)) rfl ?_
  walk_at "rd"
  have hsp2:=s2 _ _ hsp
  refine ZAh (SqL.of hsp2) (NL_ix (by rw [Pap.bk_len];exact b2) rfl) (ZAh (SqL.of hsp2) (NL_ix (by rw [Pap.bk_len];exact b3) rfl) ?_)
  walk_at "rd"
  refine Nxt.of (by rw [hA.len];exact hi) ⟨_,_,_,rfl,s2,?_⟩
  rw [take_snoc hc,yAR,yAR,said_b (Pap.at' (Pap.bk p) p1) (Pap.at' (Pap.bk p) q1) b1]
  rfl
 rintro ys σ H2 ⟨v1,v2,v3,rfl,s2,rfl⟩ l hl0
 refine ⟨l,_,rfl,SqL.of ZAF,?_⟩
 have e:((cs.take ws.length).map fun c=>decide (Pap.at' (Pap.bk p) c.1 < Pap.at' (Pap.bk p) c.2.1) == c.2.2).all id=agB p cs:=by
  rw [hA.len,yBP (yAA _),List.all_map];rfl
 rw [e]
 exact q _ (s1.trans (s2.new hl0))
theorem ok_shows {f:Addr} {fd:FuncData} (F:Fun K "shows" "shows" ZC7 f fd) (T:Bt K mg C_Join C_Pile C_Asker C_AskedRule)
  (f_agrees:Fn P w K mg base CX0 "agrees" 5 ["paper","answers"] (ZD8))
 :FnOk P w K mg base CX0 6 f fd ["paper","answers"] (ZEf):=by
 refine F.ok sc_shows (fun vs H Q E h=>?_) (fun cdv A outer s H vs Q E hr h=>?_)
 .obtain ⟨a,w,p,cs,ws,rfl,ha,hp,hl,hw,hA,hcs,hcl,q⟩:=h
  rfl
 obtain ⟨a,w,p,cs,ws,rfl,ha,hp,hl,hw,hA,hcs,hcl,q⟩:=h
 refine ⟨_,(ZAB (ZBB (ZDG (ZBZ (ZA8 f_agrees (hr.mono (by decide)) rfl ZAY (ZAA (pv 0) (ZAA (pv 1) ZAD)))))
  (ZAH (ZAV ZCl)) ZAb)
  (ZAB (ZAM (i:=2) sc_shows.nd rfl (by walk_at "o") (ZAl (call_dictP rfl hr.units) rfl T.b_dict PyProof.Rows.boot_dict (ZAA (ZCC rfl (k:=3) (js:=[]) (N':=["later","earlier","said"]) (by rfl) (ZCB (pv 1)) (fun _ _ _ _=>ZEl (n:=3) K rfl (ZBX (ZAp (i:=0) (show (["later","earlier","said"]:List Str).Nodup by decide +kernel) rfl (by walk_at "o")) (ZBX (ZAp (i:=1) (show (["later","earlier","said"]:List Str).Nodup by decide +kernel) rfl (by walk_at "o")) (ZBX (ZAp (i:=2) (show (["later","earlier","said"]:List Str).Nodup by decide +kernel) rfl (by walk_at "o")) ZEB)))) (fun _ _ _ _=>ZBt) (fun _ _ _ _=>(ZBO (ZAA (ZBO (ZAA (pv 0) (ZAA (pv 1) ZAD))) (ZAA ZCl ZAD))))) ZAD)))
  (ZAH (ZAV (ZAL (ZEP rfl) rfl T.b_all PyProof.Rows.boot_all (ZAA (ZCC rfl (k:=1) (js:=[2]) (N':=["pair","asked"]) (by rfl) (pi_zipN rfl T.b_zip (ZAA (pv 0) (ZAA (ZBu ZCP (pv 0) (ZBl ZAG) ZDa) ZAD))) (fun _ _ _ _=>ZAp (i:=0) (show (["pair","asked"]:List Str).Nodup by decide +kernel) rfl (by walk_at "o")) (fun _ _ _ _=>ZBt) (fun _ _ _ _=>(pe_cmp (pc_din (ZF9 hr) (ZBO (ZAA (ZAL (call_maxTK K rfl) rfl T.b_max PyProof.Rows.boot_max (ZAA (pv 0) ZAD)) (ZAA (ZAL (call_minTK K rfl) rfl T.b_min PyProof.Rows.boot_min (ZAA (pv 0) ZAD)) ZAD))) (pv 1))))) ZAD)))))),?_⟩
 walk_at "rd"
 refine ⟨a,w,p,cs,ws,rfl,ha,hp,hl,hw,hA,hcs,hcl,fun H1 s1=>⟨_,rfl,?_⟩⟩
 by_cases hag:agB p cs=true
 .rw [if_neg (by rw [hag];simp)]
  rw [hag,Bool.true_and] at q
  walk_at "rd"
  have hA1:=hA.keep s1
  have hw1:=s1 _ _ hw
  have ha1:=s1 _ _ ha
  refine ZDi (SqL.of hw1) (by rw [hA.len];omega) (fun i ys σ H'=>∃ v1 v2 v3 ps,σ=[v1,v2,v3] /\ Same H1 H' /\ ys=ps.map (fun q:PQ=>V.ref q.1) /\ ps.map (fun q:PQ=>q.2.2)=(cs.take i).map (fun c=>(kP2 c.1 c.2.1,V.bl true)) /\ ∀ q∈ps,H' q.1=some (.tup [.ref q.2.1,q.2.2.2]) /\ H' q.2.1=some (.tup (q.2.2.1.map kV))) ⟨_,_,_,[],rfl,.refl _,rfl,rfl,fun q hq=>(by cases hq)⟩ (fun i ys σ H' hi ⟨_,_,_,ps,_,e,e2,e3,_⟩=>⟨SqL.of (e _ _ hw1),by
   rw [e2,yAB]
   have:=congrArg List.length e3
   rw [yAB,yAB,yAN] at this
   omega⟩) ?_ ?_
  .rintro i ys x σ H' hi hx ⟨v1,v2,v3,ps,rfl,s2,rfl,e3,hps⟩
   rw [hA.len] at hi
   obtain ⟨⟨p1,q1,b1⟩,hc⟩:∃ c,cs[i]?=some c:=⟨_,yAJ hi⟩
   obtain ⟨t,ht1,ht2⟩:=hA1.get i p1 q1 b1 hc
   rw [hx] at ht1
   cases ht1
   refine ZEH (SqT.of (s2 _ _ ht2)) rfl ?_
   walk_at "rd"
   refine ⟨ZAX (by decide),fun k1 hk1=>?_⟩
   obtain ⟨HA,eA,sA,hkA⟩:=newH hk1 (.tup [.int p1,.int q1])
   rw [eA];clear eA
   refine ⟨ZAX (by decide),fun k2 hk2=>?_⟩
   obtain ⟨HB,eB,sB,hkB⟩:=newH hk2 (.tup [.ref k1,.bl true])
   rw [eB];clear eB
   refine Nxt.of (by rw [hA.len];exact hi) ⟨_,_,_,ps++[(k2,k1,kP2 p1 q1,.bl true)],rfl,s2.trans (sA.trans sB),by rw [yAR];rfl,by rw [yAR,e3,take_snoc hc,yAR];rfl,fun q hq=>?_⟩
   rcases yAV.mp hq with z | z
   .exact ⟨sB _ _ (sA _ _ (hps q z).1),sB _ _ (sA _ _ (hps q z).2)⟩
   .rw [yAM.mp z];exact ⟨hkB,sB _ _ hkA⟩
  rintro ys σ H2 ⟨v1,v2,v3,ps,rfl,s2,rfl,e3,hps⟩ l hl0
  obtain ⟨H3,e4,s3,h3⟩:=newH hl0 (.lst (ps.map fun q:PQ=>V.ref q.1))
  rw [e4];clear e4
  rw [hA.len,yBP (yAA _)] at e3
  refine ⟨l,ps,rfl,h3,fun q hq=>⟨s3 _ _ (hps q hq).1,s3 _ _ (hps q hq).2⟩,fun d hd=>?_⟩
  obtain ⟨H4,e4,s4,h4⟩:=newH hd (.dT (ZCI [] ps))
  rw [e4];clear e4
  have S4:Same H H4:=s1.trans (s2.trans (s3.trans s4))
  have ha4:=S4 _ _ ha
  have hval:∀ x y:Nat,(valV (ZCI [] ps) (kP2 (max x y) (min x y))).isSome=askB cs x y:=fun x y=>by
   rw [valV_putAll,valV_nil,Option.isSome_none,Bool.false_or]
   have e5:ps.any (fun q=>decide (q.2.2.1=kP2 (max x y) (min x y)))=(ps.map fun q:PQ=>q.2.2).any (fun c=>decide (c.1=kP2 (max x y) (min x y))):=by rw [List.any_map];rfl
   rw [e5,e3,List.any_map]
   rfl
  walk_at "rd"
  refine ZDE (SqL.of ha4) fun sl hsl=>?_
  rw [cutV_tail]
  obtain ⟨H5,e5,s5,h5⟩:=newH hsl (.lst ((NL p).drop 1))
  rw [e5];clear e5
  refine compZ_of (SqL.of (s5 _ _ ha4)) (SqL.of h5) (by rw [ZBo];omega) (fun i ys σ H'=>∃ v1,σ=[v1,some (.ref d)] /\ Same H5 H' /\ ys=((List.range i).map fun j=>askB cs (Pap.at' p j) (Pap.at' p (j+1))).map V.bl) ⟨_,rfl,.refl _,rfl⟩ (fun i ys σ H' hi ⟨_,_,e,e2⟩=>⟨SqL.of (e _ _ (s5 _ _ ha4)),SqL.of (e _ _ h5),by rw [e2,yAB,yAB,List.length_range];exact yAA _⟩) ?_ ?_
  .rintro i ys x y σ H' pp hi hx hy ⟨v1,rfl,s6,rfl⟩ hpp
   rw [yAU,ZBo] at hi
   obtain ⟨hi1,rfl⟩:=ZE7 hx
   rw [yBJ,Nat.add_comm] at hy
   obtain ⟨hi2,rfl⟩:=ZE7 hy
   obtain ⟨H7,e7,s7,h7⟩:=newH hpp (.tup [.int (Pap.at' p i),.int (Pap.at' p (i+1))])
   rw [e7];clear e7
   walk_at "rd"
   generalize hxx:Pap.at' p i=x at h7 ⊢
   generalize hyy:Pap.at' p (i+1)=y at h7 ⊢
   refine ⟨pp,[(x:Int),(y:Int)],rfl,SqT.of h7,by simp,fun M hM hM2=>⟨pp,[(x:Int),(y:Int)],rfl,SqT.of h7,by simp,fun m hm hm2=>⟨ZAX (by decide),fun t ht=>?_⟩⟩⟩
   have a1:=hM2 x yAF
   have a2:=hM2 y (yAC _ yAF)
   have a3:=hm2 x yAF
   have a4:=hm2 y (yAC _ yAF)
   have eM:M=((max x y:Nat):Int):=by
    rcases yAE.mp hM with z | z
    .omega
    .have:=yAM.mp z;omega
   have em:m=((min x y:Nat):Int):=by
    rcases yAE.mp hm with z | z
    .omega
    .have:=yAM.mp z;omega
   subst eM em
   refine ⟨d,_,rfl,DGet.t (k:=kP2 (max x y) (min x y)) (ZAQ ht _ _ _ (s7 _ _ (s6 _ _ (s5 _ _ h4)))) ZAF,?_⟩
   rw [hval]
   refine Nxt.of (by rw [ZBo,yAU,ZBo];exact hi) ⟨_,rfl,(s6.trans s7).new ht,?_⟩
   rw [List.range_succ,yAR,yAR]
   show _=_++[V.bl (askB cs (Pap.at' p i) (Pap.at' p (i+1)))]
   rw [hxx,hyy]
  rintro ys σ H6 ⟨v1,rfl,s6,rfl⟩ r hr0
  refine ⟨r,_,rfl,SqL.of ZAF,?_⟩
  rw [yAU,ZBo,Nat.min_eq_right (by omega)]
  exact q _ (S4.trans (s5.trans (s6.new hr0)))
 .rw [if_pos (by simpa using hag)]
  rw [show agB p cs=false by simpa using hag,Bool.false_and] at q
  exact q _ s1
theorem ok_Pile_standing {f:Addr} {fd:FuncData} (F:Fun K "standing" "Pile.standing" ZAw f fd) (T:Bt K mg C_Join C_Pile C_Asker C_AskedRule)
  (t_Pile_beyond_of:Mt P w K mg base CX0 C_Pile "beyond_of" 1 ["self","number"] (ZCV C_Pile))
 :FnOk P w K mg base CX0 2 f fd ["self"] (ZC4 C_Pile):=by
 refine F.ok sc_Pile_standing (fun vs H Q E h=>?_) (fun cdv A outer s H vs Q E hr h=>?_)
 .obtain ⟨x,a,fs,od,gr,ls,s,e,r,oa,ps,gs,rfl,pa,hps,hgs,q⟩:=h
  rfl
 obtain ⟨x,a,fs,od,gr,ls,s,e,r,oa,ps,gs,rfl,pa,hps,hgs,q⟩:=h
 refine ⟨_,(ZAB (ZAM (i:=1) sc_Pile_standing.nd rfl (by walk_at "o") (ZAP ZE2 (ZAR (pv 0) rfl) (ZBP (ZAA ZAG ZAD))))
  (ZAH (ZAV (ZCC rfl (k:=2) (js:=[0,1]) (N':=["number","first","self","grades"]) (by rfl) (pi_enum rfl T.b_enumerate (ZAA (ZAR (pv 0) rfl) ZAD)) (fun _ _ _ _=>ZEl (n:=2) K rfl (ZBX (ZAp (i:=0) (show (["number","first","self","grades"]:List Str).Nodup by decide +kernel) rfl (by walk_at "o")) (ZBX (ZAp (i:=1) (show (["number","first","self","grades"]:List Str).Nodup by decide +kernel) rfl (by walk_at "o")) ZEB))) (fun _ _ _ _=>ZBt) (fun _ _ _ _=>(ZBO (ZAA (pv 1) (ZAA (ZBc t_Pile_beyond_of (hr.mono (by decide)) ZAY (pv 2) (ZAA (pv 0) ZAD)) (ZAA (ZAc (ZDP K) (pv 3) (pv 0) (fun _ _=>rfl)) ZAD))))))))),?_⟩
 walk_at "rd"
 refine pa.hp.get T.cl_Pile T.n_Pile_grades (by walk_at "lk") ⟨ZAX (by decide),fun p hp=>?_⟩
 obtain ⟨H1,e1,s1,h1⟩:=newH hp (.lst [.int 0])
 rw [e1];clear e1
 have pa1:=pa.mono s1
 refine ⟨gr,p,_,_,rfl,rfl,pa1.hgr,h1,ZAX (by rw [yAB];show gs.length+1 <= _;omega),fun g2 hg2=>?_⟩
 obtain ⟨H2,e2,s2,h2⟩:=newH hg2 (.lst (nL gs++[.int 0]))
 rw [e2];clear e2
 have pa2:=pa1.mono s2
 refine pa2.hp.get T.cl_Pile T.n_Pile_firsts (by walk_at "lk") ?_
 refine compE_of (SqL.of pa2.hfs) (by rw [yAB,yAB];omega) (fun i ys σ X=>∃ v w,σ=[v,w,some (.ref x),some (.ref g2)] /\ Same H2 X /\ Spans X ((spn ps gs r).take i) ys) ⟨_,_,rfl,.refl _,rfl,fun j x y z h=>by simp at h⟩ (fun i ys σ X hi ⟨_,_,_,sX,hS⟩=>⟨SqL.of (sX _ _ pa2.hfs),by rw [hS.len,yAN];omega⟩) ?_ ?_
 .rintro i ys y σ X pt hi hy ⟨v,w,rfl,sX,hS⟩ hpt
  rw [yAB,yAB] at hi
  obtain ⟨p1,hp1⟩:∃ p1,ps[i]?=some p1:=⟨_,yAJ hi⟩
  obtain rfl:y=.int (p1.1:Nat):=by
   rw [yAW,yAW,hp1] at hy
   exact (Option.some.inj hy).symm
  refine ZEH (SqT.of ZAF) rfl ?_
  walk_at "rd"
  have paX:=(pa2.mono sX).mono (ZAQ hpt (.tup [.int i,.int (p1.1:Nat)]))
  have eps:ps=ps.take i++p1::ps.drop (i+1):=by
   have:=yAH.mp hp1
   rw [<- this.2,<- yBZ,yBM]
  refine paX.hp.meth (by walk_at "lk") ⟨x,a,fs,od,gr,ls,s,e,r,oa,ps.take i,p1,ps.drop (i+1),gs,by rw [yAN,yBN (by omega)],by rw [<- eps];exact paX,?_⟩
  have hg:atI (nL gs++[V.int 0]) (i:Int)=some (.int ((gs[i]?).getD 0:Nat)):=by
   refine ZAf (by omega) ?_
   rw [Int.toNat_natCast]
   by_cases hig:i < gs.length
   .rw [yAZ (by rw [yAB];exact hig),yAW,yAJ hig];rfl
   .rw [yAY (by rw [yAB];omega),yAB,show i-gs.length=0 by omega,show gs[i]?=none from yBI (by omega)];rfl
  refine ZAh (SqL.of (ZAQ hpt _ _ _ (sX _ _ h2))) hg ⟨ZAX (by decide),fun t ht=>?_⟩
  refine Nxt.of (by rw [yAB,yAB];exact hi) ⟨_,_,rfl,(sX.new hpt).new ht,?_⟩
  rw [List.take_add_one,ZEe hp1]
  exact ((hS.keep fun _ _ z=>ZAQ hpt _ _ _ z).keep fun _ _ z=>ZAQ ht _ _ _ z).snoc ZAF
 rintro ys σ X ⟨v,w,rfl,sX,hS⟩ l hl
 have S:Same H X:=s1.trans (s2.trans sX)
 refine q l _ ys (S.new hl) (S.free hl) ZAF ?_
 rw [yAB,yAB,yBP (by rw [ZDx];exact yAA _)] at hS
 exact hS.keep fun _ _ z=>ZAQ hl _ _ _ z
theorem ok_part_by {f:Addr} {fd:FuncData} (F:Fun K "_law_part_by" "_law_part_by" ZB3 f fd) (T:Bt K mg C_Join C_Pile C_Asker C_AskedRule)
 :FnOk P w K mg base CX0 1 f fd ["_law_cell","_law_many"] (ZD0):=by
 refine F.ok sc_part_by (fun vs H Q E h=>?_) (fun cdv A outer s H vs Q E hr h=>?_)
 .obtain ⟨c,n,rfl,hn,q0,q⟩:=h
  rfl
 obtain ⟨c,n,rfl,hn,q0,q⟩:=h
 refine ⟨_,(ZAB (ZBB (ZAS ZCm (ZAP ZBM (pv 0) ZAG) ZAG (ZAW _))
  (ZAH (ZAV ZCJ)) ZAb)
  (ZAB (ZAM (i:=2) sc_part_by.nd rfl (by walk_at "o") (ZAP ZBM (ZAP ZB0 (pv 0) ZAG) (ZAP ZAg (pv 1) ZAG)))
  (ZAH (ZAV (ZBO (ZAA (pv 2) (ZAA (ZAP ZAg (pv 2) (ZAP ZBM (ZAP ZB0 (ZAP ZB0 (pv 0) ZAG) (ZAP ZAg (pv 1) ZAG)) (ZAP ZAg (ZAP ZBa (pv 1) (pv 2)) ZAG))) ZAD))))))),?_⟩
 walk_at "rd"
 refine ⟨by decide,?_⟩
 by_cases h:c % 2=0
 .rw [if_pos h]
  exact q0
 rw [if_neg h]
 walk_at "rd"
 have q0':=Int.emod_nonneg (c / 2) (show (n:Int)+1≠0 by omega)
 have q1:=Int.emod_lt_of_pos (c / 2) (show (0:Int) < (n:Int)+1 by omega)
 refine ⟨⟨by decide,by decide⟩,by omega,?_⟩
 obtain ⟨lo,elo⟩:∃ lo:Nat,c / 2 % ((n:Int)+1)=lo:=⟨(c / 2 % ((n:Int)+1)).toNat,by omega⟩
 rw [elo] at q0' q1 ⊢
 have r0:=Int.emod_nonneg (c / 2 / ((n:Int)+1)) (show (n:Int)-lo+1≠0 by omega)
 have r1:=Int.emod_lt_of_pos (c / 2 / ((n:Int)+1)) (show (0:Int) < (n:Int)-lo+1 by omega)
 refine ⟨⟨by decide,by decide⟩,⟨by omega,by omega⟩,by omega,ZAX (by decide),fun t ht=>?_⟩
 obtain ⟨d,ed⟩:∃ d:Nat,c / 2 / ((n:Int)+1) % ((n:Int)-lo+1)=d:=⟨(c / 2 / ((n:Int)+1) % ((n:Int)-lo+1)).toNat,by omega⟩
 rw [ed] at r0 r1 ⊢
 rw [show (lo:Int)+d=((lo+d:Nat):Int) by omega]
 exact q t _ lo (lo+d) (ZAQ ht _) ht ZAF (by omega) (by omega)
theorem ok_pile {f:Addr} {fd:FuncData} (F:Fun K "_law_pile" "_law_pile" ZDl f fd) (T:Bt K mg C_Join C_Pile C_Asker C_AskedRule)
  (k_Pile_3:KlD P w K mg base CX0 "Pile" C_Pile 2 ["self","asker","least","part"] (ZA3 C_Asker C_Pile) [.non])
  (k_Pile_kw:KlK P w K mg base CX0 "Pile" C_Pile 2 ["self","asker","least","part"] (ZA3 C_Asker C_Pile) "part" (.int 1))
  (k_Pile:Kl P w K mg base CX0 "Pile" C_Pile 2 ["self","asker","least","part"] (ZA3 C_Asker C_Pile))
  (k_Pile_2:KlD P w K mg base CX0 "Pile" C_Pile 2 ["self","asker","least","part"] (ZA3 C_Asker C_Pile) [.int 1,.non])
 :FnOk P w K mg base CX0 4 f fd ["_law_asker","_law_least","_law_bounds"] (ZDz C_Asker C_Pile):=by
 refine F.ok sc_pile (fun vs H Q E h=>?_) (fun cdv A outer s H vs Q E hr h=>?_)
 .obtain ⟨a,ls,s,e,pz,rfl,hpv,hao,q⟩:=h
  rfl
 obtain ⟨a,ls,s,e,pz,rfl,hpv,hao,q⟩:=h
 refine ⟨_,(ZAB (ZBB (PW.pt (ZDF (ZAS ZDA (pv 2) ZCJ (ZAW _)) (ZCR (ZAS ZCm (pv 1) ZAG (ZAW _)))))
  (ZAH (ZAV (pe_mkK k_Pile_kw (hr.mono (by decide)) rfl ZAY (ZAA (pv 0) ZAD) (pk_cons (pv 2) pk_nil)))) ZAb)
  (ZAT
  (ZAB (ZBB (ZAS ZDA (pv 2) ZCJ (ZAW _))
  (ZAH (ZAV (ZF4 k_Pile (hr.mono (by decide)) rfl ZAY (ZAA (pv 0) (ZAA (pv 1) (ZAA (pv 2) ZAD)))))) ZAb)
  (ZAT
  (ZAB (ZBB (ZAS ZCm (pv 1) ZAG (ZAW _))
  (ZAH (ZAV (ZFW k_Pile_2 (hr.mono (by decide)) rfl ZAY (ZAA (pv 0) ZAD)))) ZAb)
  (ZAT
  (ZAH (ZAV (ZFW k_Pile_3 (hr.mono (by decide)) rfl ZAY (ZAA (pv 0) (ZAA (pv 1) ZAD))))))))))),?_⟩
 walk_at "rd"
 obtain ⟨oA,hoA⟩:=hao
 have mk:∀ x dx,H x=none->H dx=none->dx≠x->ZA3 C_Asker C_Pile [.ref x,.ref a,.int ls,pz] (upd (upd H dx (.own x)) x (.ins C_Pile dx [])) (fun v H3=>v=.non /\ Q (.ref x) H3) E0:=fun x dx hx hdx nxd=>by
  have hx':upd H dx (.own x) x=none:=by rw [ZAI (Ne.symm nxd)];exact hx
  have sB:Same H (upd (upd H dx (.own x)) x (.ins C_Pile dx [])):=(ZAQ hdx _).trans (ZAQ hx' _)
  refine ⟨x,dx,a,ls,s,e,pz,rfl,ZAF,?_,fun fs od gr H' k nfs nod ngr pa=>⟨rfl,q x fs od gr H' (fun b o h=>k b o (ZAE h hx) (sB _ _ h)) hx (sB.free nfs) (sB.free nod) (sB.free ngr) pa⟩⟩
  rcases hpv with ⟨pt,h1,h2⟩ | ⟨h1,h2,rl,ru,m,n,tl,us,h3,h4,h5⟩
  .exact .inl ⟨pt,h1,sB _ _ h2⟩
  .exact .inr ⟨h1,h2,ZAE hoA hx,rl,ru,m,n,tl,us,h3.mono sB,sB _ _ h4,h5⟩
 by_cases hz:pz=.non
 .rw [if_neg (by simp [hz])]
  refine ZAZ ?_
  walk_at "rd"
  rw [if_neg (by simp [hz])]
  refine ZAZ ?_
  walk_at "rd"
  by_cases h1:(ls:Int)=1
  .rw [if_pos h1]
   rw [h1,hz] at mk
   exact mk
  .rw [if_neg h1]
   refine ZAZ ?_
   walk_at "rd"
   rw [hz] at mk
   exact mk
 .rw [if_pos hz]
  by_cases h1:(ls:Int)=1
  .rw [if_pos h1]
   rw [h1] at mk
   exact mk
  .rw [if_neg h1]
   refine ZAZ ?_
   walk_at "rd"
   rw [if_pos hz]
   exact mk
theorem ok_least_by {f:Addr} {fd:FuncData} (F:Fun K "_law_least_by" "_law_least_by" ZBh f fd) (T:Bt K mg C_Join C_Pile C_Asker C_AskedRule)
 :FnOk P w K mg base CX0 1 f fd ["_law_cell"] (ZDU):=by
 refine F.ok sc_least_by (fun vs H Q E h=>?_) (fun cdv A outer s H vs Q E hr h=>?_)
 .obtain ⟨c,rfl,q⟩:=h
  rfl
 obtain ⟨c,rfl,q⟩:=h
 refine ⟨_,(ZAH (ZAV (ZAc ZAa (ZBP (ZAA ZAG (ZAA ZAG (ZAA (ZAP ZAg ZAG (ZAP ZBM (ZAP ZB0 (pv 0) ZAG) ZAG)) ZAD)))) (ZAP ZBM (ZAP ZB0 (pv 0) ZAG) ZAG) (fun _ _=>rfl)))),?_⟩
 walk_at "rd"
 refine ⟨⟨by decide,by decide⟩,by decide,ZAX (by decide),fun p hp=>?_⟩
 obtain ⟨H2,e2,s2,h2⟩:=newH hp (.lst [.int 1,.int 1,.int (1+c / 12 % 20)])
 rw [e2];clear e2
 refine ⟨⟨by decide,by decide⟩,by decide,?_⟩
 obtain ⟨ls,hl1,hl2,hat⟩:∃ ls:Nat,1 <= ls /\ ls <= 20 /\ atI [V.int 1,V.int 1,V.int (1+c / 12 % 20)] (c / 4 % 3)=some (V.int (ls:Int)):=by
  have r0:=Int.emod_nonneg (c / 12) (show (20:Int)≠0 by decide)
  have r1:=Int.emod_lt_of_pos (c / 12) (show (0:Int) < 20 by decide)
  have m0:c / 4 % 3=0∨c / 4 % 3=1∨c / 4 % 3=2:=by omega
  rcases m0 with e | e | e <;> rw [e]
  .exact ⟨1,by decide,by decide,ZAf (by decide) rfl⟩
  .exact ⟨1,by decide,by decide,ZAf (by decide) rfl⟩
  .exact ⟨(1+c / 12 % 20).toNat,by omega,by omega,by rw [Int.toNat_of_nonneg (by omega)];exact ZAf (by decide) rfl⟩
 exact ZAh (SqL.of h2) hat (q ls H2 hl1 hl2 s2)
theorem ok_good {f:Addr} {fd:FuncData} (F:Fun K "_law_good" "_law_good" ZDn f fd) (T:Bt K mg C_Join C_Pile C_Asker C_AskedRule)
 :FnOk P w K mg base CX0 1 f fd ["_law_found","_law_stands","_law_row","_law_low","_law_end"] (ZD5 K):=by
 refine F.ok sc_good (fun vs H Q E h=>?_) (fun cdv A outer s H vs Q E hr h=>?_)
 .obtain ⟨fl,sl,rw,ks,xs,ps,gs,s,e,r,ts,rfl,hfl,hsl,hsp,hrw,hth,hkl,pi,hek,q⟩:=h
  rfl
 obtain ⟨fl,sl,rw,ks,xs,ps,gs,s,e,r,ts,rfl,hfl,hsl,hsp,hrw,hth,hkl,pi,hek,q⟩:=h
 refine ⟨_,(ZAB (ZBB (PW.pt (ZFA (ZDG (ZBZ (ZAL ZCH rfl T.b_isinstance PyProof.Rows.boot_isinstance (ZAA (pv 0) (ZAA (ZEz rfl T.b_list PyProof.Rows.boot_list) ZAD))))) (ZDp (ZAS (ZEW hr.units) (ZAL ZBb rfl T.b_sorted PyProof.Rows.boot_sorted (ZAA (pv 0) ZAD)) (ZAl (ZBN rfl) rfl T.b_list PyProof.Rows.boot_list (ZAA (ZAl ZC1 rfl T.b_range PyProof.Rows.boot_range (ZAA (pv 3) (ZAA (pv 4) ZAD))) ZAD)) (ZAW _)))))
  (ZAH (ZAV ZCl)) ZAb)
  (ZAT
  (ZAB (ZAM (i:=5) sc_good.nd rfl (by walk_at "o") ZAG)
  (ZAB (ZDH PassesOwn.never rfl (ZCB (pv 1)) (ZAp (i:=6) sc_good.nd rfl (by walk_at "o"))
  (ZAB (ZDH PassesOwn.never rfl (pi_range2 rfl T.b_range (ZAA (pv 5) (ZAA (ZAP ZBa (ZAP ZAg (pv 5) (ZAc ZA2 (pv 6) ZAG (fun _ _=>rfl))) (ZAc ZA2 (pv 6) ZAG (fun _ _=>rfl))) ZAD))) (ZAp (i:=7) sc_good.nd rfl (by walk_at "o"))
  (ZAB (ZBB (PW.pt (ZFA (ZAS ZDB (ZAc ZAa (pv 0) (pv 7) (fun _ _=>rfl)) (ZAc ZA2 (pv 6) ZAG (fun _ _=>rfl)) (ZAW _)) (ZDp (ZAS ZFn (ZAc ZAa (pv 0) (pv 7) (fun _ _=>rfl)) (ZAc ZA2 (pv 6) ZAG (fun _ _=>rfl)) (ZAW _)))))
  (ZAH (ZAV ZCl)) ZAb)
  (ZAH (ZBB (PW.pt (ZDF (ZAS ZFX (pv 7) (pv 5) (ZAW _)) (ZCR (ZAS (op_gtT hr.units) (ZAc ZAa (pv 2) (ZAc ZAa (pv 0) (ZAP ZBa (pv 7) ZAG) (fun _ _=>rfl)) (fun _ _=>rfl)) (ZAc ZAa (pv 2) (ZAc ZAa (pv 0) (pv 7) (fun _ _=>rfl)) (fun _ _=>rfl)) (ZAW _)))))
  (ZAH (ZAV ZCl)) ZAb))))
  (ZAH (ZAM (i:=5) sc_good.nd rfl (by walk_at "o") (ZAP ZBa (ZAP ZAg (pv 5) (ZAc ZA2 (pv 6) ZAG (fun _ _=>rfl))) (ZAc ZA2 (pv 6) ZAG (fun _ _=>rfl)))))))
  (ZAT
  (ZAH (ZAV (ZBz (op_eqD hr.units) (ZBu ZCP (pv 0) (ZBl (pv 5)) ZDa) (ZAl (ZBN rfl) rfl T.b_list PyProof.Rows.boot_list (ZAA (ZAl ZC1 rfl T.b_range PyProof.Rows.boot_range (ZAA (ZAP ZAg (pv 3) (pv 5)) (ZAA (pv 4) ZAD))) ZAD)) (ZAW _))))))))),?_⟩
 walk_at "rd"
 have hpm:=paper_perm pi
 have hre:=pi.re
 have hcl:=pi.ch.le
 have hfln:=pi.ch.flen
 have hpn:=hpm.length_eq
 rw [yCD] at hpn
 refine inst_lst hfl ?_
 walk_at "rd"
 refine ⟨fl,(flt ps++List.range' r (e-r)).map fun (n:Nat)=>(n:Int),rfl,SqL.of (by rw [hfl,ZDc]),by rw [yAB];omega,fun l1 ms hl1 hperm hsort=>?_⟩
 obtain rfl:=range_sorted hpm hperm hsort
 obtain ⟨H1,e1,s1,h1⟩:=newH hl1 (.lst (((List.range' s (e-s)).map fun (n:Nat)=>(n:Int)).map V.int))
 rw [e1];clear e1
 refine ⟨s,e,rfl,fun p hp=>⟨p,s,e,rfl,ZAF,by omega,fun l2 hl2=>?_⟩⟩
 rw [ZCu]
 have s2:Same H1 (upd (upd H1 p (.rng s e)) l2 (.lst (nL (List.range' s (e-s))))):=((Same.refl H1).new hp).new hl2
 have h2:(upd (upd H1 p (.rng s e)) l2 (.lst (nL (List.range' s (e-s))))) l2=some (.lst (nL (List.range' s (e-s)))):=ZAF
 generalize upd (upd H1 p (.rng s e)) l2 (.lst (nL (List.range' s (e-s))))=H2 at s2 h2 ⊢
 refine ZE3 Enc.int.list (by decide) (a:=(List.range' s (e-s)).map fun (n:Nat)=>(n:Int)) (b:=(List.range' s (e-s)).map fun (n:Nat)=>(n:Int)) (ZBd (SqL.of (s2 _ _ h1))) (ZBd (SqL.of (by rw [h2,ZDc]))) ⟨_,rfl,?_⟩
 rw [if_neg (by simp)]
 have S2:Same H H2:=s1.trans s2
 clear h1 h2 s1 s2 hp hl2 hl1 hperm hsort
 refine ZAZ ?_
 walk_at "rd"
 have hsp2:=hsp.keep (H':=H2) fun _ _ z=>S2 _ _ z
 refine ZEs (SqL.of (S2 _ _ hsl)) (fun i σ X=>∃ v6 v7,σ=[some (.ref fl),some (.ref sl),some (.ref rw),some (.int s),some (.int e),some (.int ((flt (ps.take i)).length:Nat)),v6,v7] /\ Same H X) ⟨_,_,rfl,S2⟩ (fun i σ X _ ⟨_,_,_,sX⟩=>SqL.of (sX _ _ hsl)) ?_ ?_
 .rintro i y σ X hy ⟨v6,v7,rfl,sX⟩
  have hi:=(yAH.mp hy).1
  rw [hsp.len,ZDx] at hi
  obtain ⟨p1,hp1⟩:∃ p1,ps[i]?=some p1:=⟨_,yAJ hi⟩
  obtain ⟨t,ht1,ht2⟩:=hsp.get i _ _ _ (ZEe hp1)
  rw [hy] at ht1
  cases ht1
  have htX:=sX _ _ ht2
  have eps:ps=ps.take i++p1::ps.drop (i+1):=by
   have:=yAH.mp hp1
   rw [<- this.2,<- yBZ,yBM]
  have ch:=pi.ch
  rw [eps] at ch
  obtain ⟨m,c1,c2,m2,c3,c4,c5⟩:=Ch.app.mp ch
  have c6:=c5.bey
  have c1l:=c1.le
  have c5l:=c5.le
  have c1f:=c1.flen
  have c4l:=c4.len
  have efl:flt ps++List.range' r (e-r)=flt (ps.take i)++(p1.2++(flt (ps.drop (i+1))++List.range' r (e-r))):=by
   conv=>lhs;rw [eps,ZEK,show flt (p1::ps.drop (i+1))=p1.2++flt (ps.drop (i+1)) from rfl]
   simp only [yAL]
  walk_at "rd"
  refine ZA0 (SqT.of htX) (ZAf (by decide) rfl) ⟨_,_,rfl,rfl,ZA0 (SqT.of htX) (ZAf (by decide) rfl) ⟨_,_,rfl,rfl,?_⟩⟩
  walk_at "rd"
  rw [c6] at htX ⊢
  rw [c2] at htX ⊢
  have hflX:=sX _ _ hfl
  have hrwX:=sX _ _ hrw
  obtain ⟨f0,ef0⟩:∃ f0,(flt (ps.take i)).length=f0:=⟨_,rfl⟩
  rw [ef0] at c1f ⊢
  have hat:∀ k u,p1.2[k]?=some u->atI (nL (flt ps++List.range' r (e-r))) ((f0+k:Nat):Int)=some (.int (u:Nat)):=fun k u hk=>ZCL (by
   have:=(yAH.mp hk).1
   rw [efl,yAY (by omega),ef0,Nat.add_sub_cancel_left,yAZ this];exact hk)
  have hrow:∀ u,u < ks.length->∃ r0,atI xs (u:Int)=some (.ref r0) /\ X r0=some (.tup [.int (kat ks u),.int (u:Nat)]):=fun u hu=>by
   obtain ⟨r0,a1,a2⟩:=hth.2 u _ (yAJ hu)
   refine ⟨r0,ZAf (by omega) (by rw [Int.toNat_natCast];exact a1),?_⟩
   rw [show ks[u]=kat ks u by unfold kat;rw [yAJ hu];rfl] at a2
   exact sX _ _ a2
  refine forR2_of (by omega) (ZEJ (fun k σ Y=>∃ v7,σ=[some (.ref fl),some (.ref sl),some (.ref rw),some (.int s),some (.int e),some (.int (f0:Nat)),some (.ref t),v7] /\ Y=X) ⟨_,rfl,rfl⟩ ?_ ?_)
  .rintro k σ Y hk ⟨v7,rfl,rfl⟩
   have hk':k < p1.2.length:=by omega
   obtain ⟨u,hu⟩:∃ u,p1.2[k]?=some u:=⟨_,yAJ hk'⟩
   have hum:=(c4.mem u).mp (yAK hu)
   rw [show (f0:Int)+k=((f0+k:Nat):Int) by omega]
   walk_at "rd"
   refine ZAh (SqL.of hflX) (hat k u hu) (ZA0 (SqT.of htX) (ZAf (by decide) rfl) ⟨_,_,rfl,rfl,_,rfl,?_⟩)
   rw [if_neg (by simp;omega)]
   refine ZAh (SqL.of hflX) (hat k u hu) (ZA0 (SqT.of htX) (ZAf (by decide) rfl) ⟨_,_,rfl,rfl,_,rfl,?_⟩)
   rw [if_neg (by simp;omega)]
   walk_at "rd"
   cases k with
   | zero=>
    rw [if_neg (by omega)]
    exact ⟨_,rfl,trivial⟩
   | succ k=>
    rw [if_pos (by omega)]
    obtain ⟨u',hu'⟩:∃ u,p1.2[k]?=some u:=⟨_,yAJ (by omega)⟩
    have hum':=(c4.mem u').mp (yAK hu')
    have hlx:=ZDZ c4.srt (yBR k) hu' hu
    obtain ⟨r1,a1,a2⟩:=hrow u' (by omega)
    obtain ⟨r2,b1,b2⟩:=hrow u (by omega)
    rw [show ((f0+(k+1):Nat):Int)-1=((f0+k:Nat):Int) by omega]
    refine ZAh (SqL.of hflX) (hat k u' hu') (ZAh (SqL.of hrwX) a1 (ZAh (SqL.of hflX) (hat (k+1) u hu) (ZAh (SqL.of hrwX) b1 ?_)))
    refine ⟨r1,r2,[kat ks u',(u':Int)],[kat ks u,(u:Int)],rfl,rfl,SqT.of a2,SqT.of b2,_,rfl,?_⟩
    rw [lexLt_lx,decide_eq_false (ZEn hlx),if_neg (by decide)]
    exact ⟨_,rfl,rfl⟩
  .rintro σ Y ⟨v7,rfl,rfl⟩
   walk_at "rd"
   refine ZA0 (SqT.of htX) (ZAf (by decide) rfl) ⟨_,_,rfl,rfl,ZA0 (SqT.of htX) (ZAf (by decide) rfl) ⟨_,_,rfl,rfl,?_⟩⟩
   refine ⟨some (.ref t),v7,?_,sX⟩
   have en:((flt (ps.take (i+1))).length:Int)=(f0:Int)+m2-m:=by
    rw [List.take_add_one,hp1,ZEK,yAD,ef0,show flt (some p1).toList=p1.2++[] from rfl,yBB]
    omega
   rw [en]
 rintro σ X ⟨v6,v7,rfl,sX⟩
 rw [hsp.len,ZDx,List.take_length,hfln]
 walk_at "rd"
 refine ZAZ ?_
 walk_at "rd"
 refine ZDE (SqL.of (sX _ _ hfl)) fun c hc=>?_
 have ec:cutV (nL (flt ps++List.range' r (e-r))) (some ((r-s:Nat):Int)) none=nL (List.range' r (e-r)):=by
  unfold cutV
  rw [HT.sIx_none,HT.sIx_nat,yAB,yBN (by rw [yAD];omega)]
  unfold nL
  rw [<- yCN,<- hfln,List.drop_left,yBP (by rw [yAB,yAD];omega)]
 rw [ec]
 obtain ⟨H3,e3,s3,h3⟩:=newH hc (.lst (nL (List.range' r (e-r))))
 rw [e3];clear e3
 walk_at "rd"
 rw [show (s:Int)+((r-s:Nat):Int)=(r:Nat) by omega]
 refine ⟨r,e,rfl,fun p hp=>⟨p,r,e,rfl,ZAF,by omega,fun l2 hl2=>?_⟩⟩
 rw [ZCu]
 have s4:Same H3 (upd (upd H3 p (.rng r e)) l2 (.lst (nL (List.range' r (e-r))))):=((Same.refl H3).new hp).new hl2
 have h4:(upd (upd H3 p (.rng r e)) l2 (.lst (nL (List.range' r (e-r))))) l2=some (.lst (nL (List.range' r (e-r)))):=ZAF
 generalize upd (upd H3 p (.rng r e)) l2 (.lst (nL (List.range' r (e-r))))=H4 at s4 h4 ⊢
 refine eqD_of Enc.int.list (by decide) (a:=(List.range' r (e-r)).map fun (n:Nat)=>(n:Int)) (b:=(List.range' r (e-r)).map fun (n:Nat)=>(n:Int)) (ZBd (SqL.of (by rw [s4 _ _ h3,ZDc]))) (ZBd (SqL.of (by rw [h4,ZDc]))) ?_
 rw [decide_eq_true rfl]
 exact q _ (sX.trans (s3.trans s4))
theorem ok_asked {f:Addr} {fd:FuncData} (F:Fun K "_law_asked" "_law_asked" ZC9 f fd) (T:Bt K mg C_Join C_Pile C_Asker C_AskedRule)
 :FnOk P w K mg base CX0 1 f fd ["_law_paper","_law_written"] (ZDX):=by
 refine F.ok sc_asked (fun vs H Q E h=>?_) (fun cdv A outer s H vs Q E hr h=>?_)
 .obtain ⟨pp,lg,os,pr,ws,rfl,hpp,hlg,hws,hadj,hosl,hprl,q⟩:=h
  rfl
 obtain ⟨pp,lg,os,pr,ws,rfl,hpp,hlg,hws,hadj,hosl,hprl,q⟩:=h
 refine ⟨_,(ZAB (ZAM (i:=2) sc_asked.nd rfl (by walk_at "o") pe_dnewT)
  (ZAB (ZDH PassesOwn.never rfl (ZCB (pv 1)) (ZAp (i:=3) sc_asked.nd rfl (by walk_at "o"))
  (ZAH (ps_dput (ZF9 hr) (pv 2) (pv 3) ZCl rfl)))
  (ZAB (ZDH PassesOwn.never rfl (ZDb rfl T.b_range (ZAA (ZAP ZBa (ZAL ZAK rfl T.b_len PySem.boot_len (ZAA (pv 0) ZAD)) ZAG) ZAD)) (ZAp (i:=4) sc_asked.nd rfl (by walk_at "o"))
  (ZAH (ZBB (pt_cmp (pc_dnotin (ZF9 hr) (ZBO (ZAA (ZAL (call_max2 rfl) rfl T.b_max PyProof.Rows.boot_max (ZAA (ZAc ZAa (pv 0) (pv 4) (fun _ _=>rfl)) (ZAA (ZAc ZAa (pv 0) (ZAP ZAg (pv 4) ZAG) (fun _ _=>rfl)) ZAD))) (ZAA (ZAL (ZB8 rfl) rfl T.b_min PyProof.Rows.boot_min (ZAA (ZAc ZAa (pv 0) (pv 4) (fun _ _=>rfl)) (ZAA (ZAc ZAa (pv 0) (ZAP ZAg (pv 4) ZAG) (fun _ _=>rfl)) ZAD))) ZAD))) (pv 2)))
  (ZAH (ZAV ZCl)) ZAb)))
  (ZAH (ZAV ZCl))))),?_⟩
 walk_at "rd"
 intro d hd
 obtain ⟨H1,e1,s1,h1⟩:=newH hd (.dT [])
 rw [e1];clear e1
 refine ZEs (SqL.of (s1 _ _ hlg)) (fun i σ H'=>∃ v3 v4 kvs,σ=[some (.ref pp),some (.ref lg),some (.ref d),v3,v4] /\ H' d=some (.dT kvs) /\ kvs.length <= i /\ Same H H' /\ ∀ (j p q:Nat),j < i->pr[j]?=some (p,q)->valV kvs (kP p q)=some (.bl true)) ⟨_,_,[],rfl,h1,yAA _,s1,fun j p q z=>by omega⟩ (fun i σ H' _ ⟨_,_,_,_,_,_,e,_⟩=>SqL.of (e _ _ hlg)) ?_ ?_
 .rintro i x σ H' hx ⟨v3,v4,kvs,rfl,hd',hkl,s2,hall⟩
  have hi:=(yAH.mp hx).1
  rw [hws.len] at hi
  obtain ⟨⟨p,q'⟩,hp⟩:∃ c,pr[i]?=some c:=⟨_,yAJ hi⟩
  obtain ⟨t,ht1,ht2⟩:=hws.get i p q' hp
  rw [hx] at ht1
  cases ht1
  walk_at "rd"
  refine ⟨d,_,rfl,DPut.t (k:=kP p q') (kvs:=kvs) hd' (s2 _ _ ht2) (ZEw (by omega)),?_⟩
  refine ⟨_,_,putK kvs (kP p q') (.bl true),rfl,ZAF,yAP (ZBn _ _ _) (by omega),s2.upd hd,fun j p2 q2 hj hj2=>?_⟩
  rw [valV_put]
  split
  .rfl
  .rename_i hne
   by_cases z:j=i
   .rw [z,hp] at hj2
    cases hj2
    exact absurd rfl hne
   .exact hall j p2 q2 (by omega) hj2
 rintro σ H' ⟨v3,v4,kvs,rfl,hd',hkl,s2,hall⟩
 walk_at "rd"
 have hpp2:=s2 _ _ hpp
 refine ⟨pp,_,rfl,.inl (SqL.of hpp2),?_⟩
 rw [yAB]
 walk_at "rd"
 refine forR1_of (by omega) (ZEJ (fun i σ X=>∃ v3 v4,σ=[some (.ref pp),some (.ref lg),some (.ref d),v3,v4] /\ Same H' X) ⟨_,_,rfl,.refl _⟩ ?_ ?_)
 .rintro i σ X hi ⟨v3,v4,rfl,s4⟩
  have hi1:i+1 < os.length:=by omega
  obtain ⟨x,hx⟩:∃ x,os[i]?=some x:=⟨_,yAJ (by omega)⟩
  obtain ⟨y,hy⟩:∃ y,os[i+1]?=some y:=⟨_,yAJ hi1⟩
  have hppX:=s4 _ _ hpp2
  rw [Int.zero_add]
  walk_at "rd"
  rw [show (i:Int)+1=((i+1:Nat):Int) by omega]
  refine ZAh (SqL.of hppX) (ZCL hx) (ZAh (SqL.of hppX) (ZCL hy) ⟨_,_,rfl,?_⟩)
  refine ZAh (SqL.of hppX) (ZCL hx) (ZAh (SqL.of hppX) (ZCL hy) ⟨_,_,rfl,?_⟩)
  rw [mx_eq,ZFa]
  refine ⟨ZAX (by decide),fun t5 ht5=>?_⟩
  have hm:=hadj i x y hx hy
  obtain ⟨j,hj⟩:=yBK hm
  have hv:=hall j _ _ (by have:=(yAH.mp hj).1;rw [hws.len];exact this) hj
  have hd5:=ZAQ ht5 (.tup [.int (max (x:Int) y),.int (min (x:Int) y)]) _ _ (s4 _ _ hd')
  refine ⟨d,_,rfl,DGet.t (k:=kP (max x y) (min x y)) hd5 (by rw [ZAF];show some _=some (HO.tup [.int ((max x y:Nat):Int),.int ((min x y:Nat):Int)]);rw [show ((max x y:Nat):Int)=max (x:Int) y by omega,show ((min x y:Nat):Int)=min (x:Int) y by omega]),?_⟩
  rw [hv,if_neg (by decide)]
  exact ⟨_,_,rfl,s4.new ht5⟩
 rintro σ X ⟨v3,v4,rfl,s4⟩
 walk_at "rd"
 exact q _ (s2.trans s4)
theorem ok_law {f:Addr} {fd:FuncData} (F:Fun K "law" "law" ZEA f fd) (T:Bt K mg C_Join C_Pile C_Asker C_AskedRule)
  (f_row_by:Fn P w K mg base CX0 "_law_row_by" 3 ["_law_script"] (ZEg K))
  (f_part_by:Fn P w K mg base CX0 "_law_part_by" 1 ["_law_cell","_law_many"] (ZD0))
  (f_pile:Fn P w K mg base CX0 "_law_pile" 4 ["_law_asker","_law_least","_law_bounds"] (ZDz C_Asker C_Pile))
  (f_cell_at:Fn P w K mg base CX0 "_law_cell_at" 1 ["_law_script","_law_k"] (ZEU K))
  (f_least_by:Fn P w K mg base CX0 "_law_least_by" 1 ["_law_cell"] (ZDU))
  (f_teller:Fn P w K mg base CX0 "_law_teller" 1 ["_law_written"] (ZEv Pt_teller (ZEY ZAO) "_law_ask" "_law_teller.<locals>._law_ask" (ZAN ZAO) (ZAJ ZAO) (ZAC ZAO) ["_law_written"] [0] 1))
  (f_good:Fn P w K mg base CX0 "_law_good" 1 ["_law_found","_law_stands","_law_row","_law_low","_law_end"] (ZD5 K))
  (f_asked:Fn P w K mg base CX0 "_law_asked" 1 ["_law_paper","_law_written"] (ZDX))
  (f_shows:Fn P w K mg base CX0 "shows" 6 ["paper","answers"] (ZEf))
  (t_Pile_standing:Mt P w K mg base CX0 C_Pile "standing" 2 ["self"] (ZC4 C_Pile))
  (t_Pile_paper:Mt P w K mg base CX0 C_Pile "paper" 1 ["self"] (ZEh C_Pile))
  (t_Pile_step:Mt P w K mg base CX0 C_Pile "step" 8 ["self"] (ZFM C_Asker C_AskedRule C_Pile))
  (t_Asker_answers:Mt P w K mg base CX0 C_Asker "answers" 1 ["self"] (ZDY C_Asker))
  (k_Asker_3:KlD P w K mg base CX0 "Asker" C_Asker 1 ["self","row","rule","most"] (ZCi C_Asker) [.non])
  (k_AskedRule:Kl P w K mg base CX0 "AskedRule" C_AskedRule 1 ["self","teller"] (ZC5 C_AskedRule))
 :FnOk P w K mg base CX0 9 f fd ["_law_script"] (ZFO K [(cc_teller,Pt_teller)]):=by
 refine F.ok sc_law (fun vs H Q E h=>?_) (fun cdv A outer s H vs Q E hr h=>?_)
 .obtain ⟨a,ns,rfl,hS,h63,hT,q⟩:=h
  rfl
 obtain ⟨a,ns,rfl,hS,h63,hT,q⟩:=h
 refine ⟨_,(ZAB (ZAM (i:=1) sc_law.nd rfl (by walk_at "o") (ZA8 f_row_by (hr.mono (by decide)) rfl ZAY (ZAA (pv 0) ZAD)))
  (ZAT
  (ZAB (ZAM (i:=2) sc_law.nd rfl (by walk_at "o") (ZA8 f_part_by (hr.mono (by decide)) rfl ZAY (ZAA (ZA8 f_cell_at (hr.mono (by decide)) rfl ZAY (ZAA (pv 0) (ZAA ZAG ZAD))) (ZAA (ZAL ZAK rfl T.b_len PySem.boot_len (ZAA (pv 1) ZAD)) ZAD))))
  (ZAT
  (ZAB (ZAM (i:=3) sc_law.nd rfl (by walk_at "o") (ZBP ZAD))
  (ZAT
  (ZAB (ZAM (i:=4) sc_law.nd rfl (by walk_at "o") (ZAl ZBI rfl T.b_list PyProof.Rows.boot_list (ZAA (pv 1) ZAD)))
  (ZAT
  (ZAB (ZAM (i:=5) sc_law.nd rfl (by walk_at "o") (ZFW k_Asker_3 (hr.mono (by decide)) rfl ZAY (ZAA (pv 4) (ZAA (ZF4 k_AskedRule (hr.mono (by decide)) rfl ZAY (ZAA (ZA8 f_teller (hr.mono (by decide)) rfl ZAY (ZAA (pv 3) ZAD)) ZAD)) ZAD))))
  (ZAT
  (ZAB (ZAM (i:=6) sc_law.nd rfl (by walk_at "o") (ZA8 f_pile (hr.mono (by decide)) rfl ZAY (ZAA (pv 5) (ZAA (ZA8 f_least_by (hr.mono (by decide)) rfl ZAY (ZAA (ZA8 f_cell_at (hr.mono (by decide)) rfl ZAY (ZAA (pv 0) (ZAA ZAG ZAD))) ZAD)) (ZAA (pv 2) ZAD)))))
  (ZAT
  (ZAB (ZAk (ZE0 PySem.F.plainAttrs_list PySem.F.slot_list_clear PySem.F.type_list_clear mt_clear (pv 4)))
  (ZAT
  (ZAB (ZAM (i:=7) sc_law.nd rfl (by walk_at "o") ZAG)
  (ZAT
  (ZAB (ZAM (i:=8) sc_law.nd rfl (by walk_at "o") (ZAL ZAK rfl T.b_len PySem.boot_len (ZAA (pv 1) ZAD)))
  (ZAT
  (ZAB (ZBB (ZAS ZDA (pv 2) ZCJ (ZAW _))
  (ZAB (ZAM (i:=7) sc_law.nd rfl (by walk_at "o") (ZAc ZA2 (pv 2) ZAG (fun _ _=>rfl)))
  (ZAH (ZAM (i:=8) sc_law.nd rfl (by walk_at "o") (ZAc ZA2 (pv 2) ZAG (fun _ _=>rfl))))) ZAb)
  (ZAT
  (ZAB (ZAM (i:=9) sc_law.nd rfl (by walk_at "o") (ZBO (ZAA ZFU ZAD)))
  (ZAT
  (ZAB (ZBs PassesOwn.never (ZAS ZDA (pv 9) ZCJ (ZAW _))
  (ZAB (ZAM (i:=10) sc_law.nd rfl (by walk_at "o") (ZCK t_Pile_paper (hr.mono (by decide)) ZAY (pv 6)))
   (ZAT
  (ZAB (ZBB (ZDG (ZBZ (ZA8 f_good (hr.mono (by decide)) rfl ZAY (ZAA (pv 10) (ZAA (ZCK t_Pile_standing (hr.mono (by decide)) ZAY (pv 6)) (ZAA (pv 1) (ZAA (pv 7) (ZAA (pv 8) ZAD))))))))
  (ZAH (ZAV ZCl)) ZAb)
   (ZAT
  (ZAB (ZAk (ZE0 PySem.F.plainAttrs_list PySem.F.slot_list_reverse PySem.F.type_list_reverse ZDC (pv 10)))
   (ZAT
  (ZAB (ZAk (ZCk PySem.F.plainAttrs_list PySem.F.slot_list_append PySem.F.type_list_append ZBm (pv 10) (ZAA ZAG ZAD)))
   (ZAT
  (ZAH (ZAM (i:=9) sc_law.nd rfl (by walk_at "o") (ZCK t_Pile_step (hr.mono (by decide)) ZAY (pv 6)))))))))))))
  (ZAT
  (ZAB (ZAM (i:=11) sc_law.nd rfl (by walk_at "o") (ZCK t_Pile_standing (hr.mono (by decide)) ZAY (pv 6)))
  (ZAT
  (ZAB (ZBB (ZAS (ZEW hr.units) (ZCC rfl (k:=1) (js:=[]) (N':=["_law_span"]) (by rfl) (ZCB (pv 11)) (fun _ _ _ _=>ZAp (i:=0) (show (["_law_span"]:List Str).Nodup by decide +kernel) rfl (by walk_at "o")) (fun _ _ _ _=>ZBt) (fun _ _ _ _=>(ZBO (ZAA (ZAc (ZEE K) (pv 0) ZAG (fun _ _=>rfl)) (ZAA (ZAc (ZEE K) (pv 0) ZAG (fun _ _=>rfl)) ZAD))))) (ZBu ZCP (ZBP (ZAA (ZBO (ZAA (pv 7) (ZAA (pv 8) ZAD))) ZAD)) ZDa (ZBl (ZAP ZBa (pv 8) (pv 7)))) (ZAW _))
  (ZAH (ZAV ZCl)) ZAb)
  (ZAT
  (ZAB (ZAM (i:=12) sc_law.nd rfl (by walk_at "o") (ZCK t_Pile_paper (hr.mono (by decide)) ZAY (pv 6)))
  (ZAT
  (ZAB (ZBB (PW.pt (ZFA (ZDG (ZBZ (ZA8 f_good (hr.mono (by decide)) rfl ZAY (ZAA (pv 12) (ZAA (pv 11) (ZAA (pv 1) (ZAA (pv 7) (ZAA (pv 8) ZAD)))))))) (ZDp (ZDG (ZBZ (ZA8 f_asked (hr.mono (by decide)) rfl ZAY (ZAA (pv 12) (ZAA (pv 3) ZAD))))))))
  (ZAH (ZAV ZCl)) ZAb)
  (ZAT
  (ZAB (ZBB (ZAS (ZEW hr.units) (ZCC rfl (k:=1) (js:=[8,7]) (N':=["_law_pair","_law_end","_law_low"]) (by rfl) (ZCB (pv 3)) (fun _ _ _ _=>ZAp (i:=0) (show (["_law_pair","_law_end","_law_low"]:List Str).Nodup by decide +kernel) rfl (by walk_at "o")) (fun _ _ _ _=>(pifs_one (PW.pt (ZFA (ZAS ZFn (ZAc (ZEE K) (pv 0) ZAG (fun _ _=>rfl)) (pv 1) (ZAW _)) (ZDp (ZAS ZDB (ZAc (ZEE K) (pv 0) ZAG (fun _ _=>rfl)) (pv 2) (ZAW _))))))) (fun _ _ _ _=>(pv 0))) (ZBP ZAD) (ZAW _))
  (ZAH (ZAV ZCl)) ZAb)
  (ZAH (ZAV (pe_or (ZBz ZDA (pv 2) ZCJ (ZAW _)) (ZFV (ZBz op_isB (ZA8 f_shows (hr.mono (by decide)) rfl ZAY (ZAA (pv 12) (ZAA (ZCK t_Asker_answers (hr.mono (by decide)) ZAY (pv 5)) ZAD))) ZCl (ZAW _))))))))))))))))))))))))))))))))))))))),?_⟩
 walk_at "rd"
 refine ⟨a,ns,rfl,hS,h63,fun rq H1 ks xs S1 hrq hrq1 hkl hth1=>?_⟩
 refine ZAZ ?_
 walk_at "rd"
 refine ⟨a,ns,4,rfl,S1.seq hS,by decide,?_⟩
 generalize cellOf ns 4=c4
 refine ⟨rq,_,rfl,.inl (SqL.of hrq1),?_⟩
 rw [hth1.1]
 apply ZFZ (fun (bz:V) (H2:Hp)=>Same H1 H2 /\ ∃ s e:Nat,s <= e /\ e <= ks.length /\ ((∃ pt,bz=.ref pt /\ H2 pt=some (.tup [.int s,.int e]))∨(bz=.non /\ s=0 /\ e=ks.length)))
 .intro tailp
  refine ⟨c4,ks.length,rfl,hkl,?_,fun pt H2 s e s2 hpt0 hpt hse hek=>?_⟩
  rotate_left
  .obtain ⟨bz,ebz⟩:∃ bz,bz=V.ref pt:=⟨_,rfl⟩
   rw [<- ebz]
   exact tailp bz H2 ⟨s2,s,e,hse,hek,.inl ⟨pt,ebz,hpt⟩⟩
  .exact tailp .non H1 ⟨.refl _,0,ks.length,yAI _,yAA _,.inr ⟨rfl,rfl,rfl⟩⟩
 rintro bz H2 ⟨s2,s,e,hse,hek,hbz⟩
 refine ZAZ ?_
 walk_at "rd"
 refine ⟨yAI _,fun lg hlg=>?_⟩
 obtain ⟨H3,e3,s3,h3lg⟩:=newH hlg (.lst [])
 rw [e3];clear e3
 refine ZAZ ?_
 walk_at "rd"
 refine ⟨rq,_,rfl,.inl (SqL.of (s3 _ _ (s2 _ _ hrq1))),fun rw hrw=>?_⟩
 obtain ⟨H0,e0,s0,hrw0⟩:=newH hrw (.lst xs)
 rw [e0];clear e0
 have S10:Same H1 H0:=s2.trans (s3.trans s0)
 have S0:Same H H0:=S1.trans S10
 have hlg0:=s0 _ _ h3lg
 have hrq0:=S10 _ _ hrq1
 have hth0:Things H0 ks xs:=hth1.mono fun b o h _ _=>S10 _ _ h
 have hTb:TabSt H0 Pt_teller (ZEY ZAO) "_law_teller.<locals>._law_ask":=.inl (S0 _ _ (hT _ yAF))
 have hbz0:(∃ pt,bz=.ref pt /\ H0 pt=some (.tup [.int s,.int e]))∨(bz=.non /\ s=0 /\ e=ks.length):=hbz.imp (fun ⟨pt,a1,a2⟩=>⟨pt,a1,s0 _ _ (s3 _ _ a2)⟩) id
 refine ZAZ ?_
 walk_at "rd"
 obtain ⟨tPt,hPt⟩:∃ t,H0 Pt_teller=some (.tbl t):=by
  rcases hTb with h | ⟨c',h,_⟩ <;> exact ⟨_,h⟩
 refine ⟨rfl,hTb,fun g H5 md=>?_⟩
 have nP:∀ b o,H0 b=some o->(∀ t,o≠.tbl t)->b≠Pt_teller:=fun b o h n z=>by rw [z,hPt] at h;exact n _ (Option.some.inj h).symm
 intro ru dr hru hdr nrd
 have hru':upd H5 dr (.own ru) ru=none:=by rw [ZAI (Ne.symm nrd)];exact hru
 have s6:Same H5 (upd (upd H5 dr (.own ru)) ru (.ins C_AskedRule dr [])):=(ZAQ hdr _).trans (ZAQ hru' _)
 refine ⟨ru,dr,g,rfl,ZAF,fun H7 k7 ir=>⟨rfl,?_⟩⟩
 have k7':∀ b o,H5 b=some o->H7 b=some o:=fun b o h=>k7 b o (ZAE h hru) (s6 _ _ h)
 intro ak da hak hda nad
 have hak':upd H7 da (.own ak) ak=none:=by rw [ZAI (Ne.symm nad)];exact hak
 have s8:Same H7 (upd (upd H7 da (.own ak)) ak (.ins C_Asker da [])):=(ZAQ hda _).trans (ZAQ hak' _)
 have hPtB:∃ t,H5 Pt_teller=some (.tbl t):=by
  rcases md.tab with h | ⟨c',h,_⟩
  .exact ⟨_,h⟩
  .exact ⟨_,h⟩
 have u7:∀ b o,H0 b=some o->(∀ t,o≠.tbl t)->H7 b=some o:=fun b o h n=>k7' _ _ (md.same b o (nP b o h n) h)
 have h7xl:=u7 rw _ hrw0 fun _ z=>by cases z
 refine ⟨ak,da,rw,ru,.non,xs,rfl,ZAF,s8 _ _ h7xl,fun rl tl HA k9 nrl ntl nrt ia hrl htl=>⟨rfl,?_⟩⟩
 have u9:∀ b o,H7 b=some o->HA b=some o:=fun b o h=>k9 b o (ZAE h hak) (s8 _ _ h)
 have h7lg:=u7 lg _ hlg0 fun _ z=>by cases z
 have h8ak:upd (upd H7 da (.own ak)) ak (.ins C_Asker da []) ak=some (.ins C_Asker da []):=ZAF
 obtain ⟨dr',fs'',er,_,_⟩:=ir.ex
 have nak_ru:ru≠ak:=ZAE er hak
 have nrlrw:rl≠rw:=fun z=>by rw [z,s8 _ _ h7xl] at nrl;cases nrl
 have st:SitL C_Asker C_AskedRule HA ks ⟨xs,0⟩ ak rl ru tl g lg []:={
  ha:=ia
  hrl:=hrl
  hru:=ZDr (S:=[ak]) (fun b o n h=>k9 b o (fun z=>n (by rw [z];exact yAF)) (s8 _ _ h)) (fun z=>nak_ru (yAM.mp z)) ir
  clo:=md.clo.mono fun b o h=>u9 _ _ (k7' _ _ h)
  len:=hth0.1
  row:=fun i k hk=>by
   obtain ⟨r,a1,a2⟩:=hth0.2 i k hk
   exact ⟨r,a1,u9 _ _ (u7 _ _ a2 fun _ z=>by cases z)⟩
  hlg:=⟨[],u9 _ _ h7lg,yAI _,rfl,fun j p q h=>by simp at h⟩
  htl:=⟨[],htl,rfl,fun j p q h=>by simp at h⟩
  ne:=⟨ZAE (s8 _ _ h7lg) ntl,ZFo (Ne.symm (ZAE h8ak nrl)) (Ne.symm (ZAE (s8 _ _ h7lg) nrl)) nrt,nak_ru⟩ }
 have upP:∀ b o,b≠Pt_teller->H0 b=some o->HA b=some o /\ (b≠lg->b∉[ak,lg,tl]):=fun b o n h=>by
  have h7:=k7' _ _ (md.same b o n h)
  exact ⟨u9 _ _ h7,fun nl=>ZFo (ZAE h7 hak) nl (ZAE (s8 _ _ h7) ntl)⟩
 have hTA:TabSt HA Pt_teller (ZEY ZAO) "_law_teller.<locals>._law_ask":=by
  rcases md.tab with h | ⟨c',h,hc⟩
  .exact .inl (u9 _ _ (k7' _ _ h))
  .exact .inr ⟨c',u9 _ _ (k7' _ _ h),hc.mono fun b o hb=>u9 _ _ (k7' _ _ hb)⟩
 have nPA:Pt_teller∉[ak,lg,tl]:=by
  obtain ⟨t,ht⟩:=hPtB
  exact ZFo (ZAE (k7' _ _ ht) hak) (fun z=>by rw [z,hlg0] at hPt;cases hPt) (ZAE (s8 _ _ (k7' _ _ ht)) ntl)
 clear u7 u9 k9 k7 k7' md s8 s6 hPtB h7xl h7lg er h8ak nak_ru ia hrl htl hru hru' hak' hdr hda
 have nrqlg:rq≠lg:=ZAE (s2 _ _ hrq1) hlg
 have nrwlg:rw≠lg:=Ne.symm (ZAE h3lg hrw)
 have nrqrw:rw≠rq:=Ne.symm (ZAE (s3 _ _ (s2 _ _ hrq1)) hrw)
 obtain ⟨hrqA,arq⟩:=upP rq _ (nP rq _ hrq0 fun _ z=>by cases z) hrq0
 obtain ⟨hrwA,arw⟩:=upP rw _ (nP rw _ hrw0 fun _ z=>by cases z) hrw0
 have arq:=arq nrqlg
 have arw:=arw nrwlg
 have hthA:Things HA ks xs:=hth0.mono fun b o h n _=>(upP b o (nP b o h n) h).1
 have hSA:SqL K HA a (ns.map V.int):=by
  rcases S0.seq hS with (h | ⟨o,h⟩) | h
  .exact .inl (.inl (upP a _ (nP a _ h fun _ z=>by cases z) h).1)
  .exact .inl (.inr ⟨o,(upP a _ (nP a _ h fun _ z=>by cases z) h).1⟩)
  .exact .inr h
 have hbzA:(∃ pt,bz=.ref pt /\ HA pt=some (.tup [.int s,.int e]))∨(bz=.non /\ s=0 /\ e=ks.length):=hbz0.imp (fun ⟨pt,a1,a2⟩=>⟨pt,a1,(upP pt _ (nP pt _ a2 fun _ z=>by cases z) a2).1⟩) id
 have nrwrl:rw≠rl:=Ne.symm nrlrw
 clear upP nP hTA nPA hth0 hTb hbz0 hbz hlg0
 refine ZAZ ?_
 walk_at "rd"
 refine ⟨a,ns,0,rfl,hSA,by decide,?_⟩
 generalize cellOf ns 0=c0
 refine ⟨c0,rfl,fun ls HB hls1 hls2 sB=>?_⟩
 obtain ⟨d0,f0',ea0,_,_⟩:=st.ha.ex
 refine ⟨ak,ls,s,e,bz,rfl,hbzA.imp (fun ⟨pt,a1,a2⟩=>⟨pt,a1,sB _ _ a2⟩) (fun ⟨a1,a2,a3⟩=>⟨a1,a2,rl,ru,.non,_,tl,xs,st.ha.mono sB,sB _ _ st.hrl,by rw [a3];exact hth1.1⟩),⟨_,sB _ _ ea0⟩,fun x fs od gr HC sC nx nfs nod ngr paC=>?_⟩
 have sAC:Same HA HC:=sB.trans sC
 have stC:=st.mono sAC
 have pxC:PXl ak rl ru lg tl x fs od gr []:=⟨⟨st.newS (sB.free nx),st.newS (sB.free nfs),st.newS (sB.free nod),st.newS (sB.free ngr)⟩,fun b hb=>(by cases hb),fun z=>by
  rcases yAE.mp z with z | z
  .exact ZAE st.hrl (sB.free nfs) z
  rcases yAE.mp z with z | z
  .exact ZAE st.hrl (sB.free nod) z
  .exact ZAE st.hrl (sB.free ngr) (yAM.mp z),by
  obtain ⟨d1,f1,e1,_⟩:=st.hru.ex
  exact ZAE e1 (sB.free nx)⟩
 have wC:W55 C_Asker C_AskedRule C_Pile HC ks xs ak rl ru tl g lg x fs od gr rq [] ls s e s [] [] []:=⟨sAC _ _ hrqA,hthA.mono fun b o h _ _=>sAC _ _ h,paC,pxC,⟨rfl,hse,rfl,fun g hg=>by cases hg⟩,yAI _,stC,fun p hp=>(by cases hp),fun c hc=>by cases hc⟩
 have obtNe:∀ b o,HA b=some o->b∉[ak,lg,tl]->b∉[x,fs,od,gr,ak,lg,tl]:=fun b o h n z=>by
  rcases yAE.mp z with z | z
  .exact ZAE h (sB.free nx) z
  rcases yAE.mp z with z | z
  .exact ZAE h (sB.free nfs) z
  rcases yAE.mp z with z | z
  .exact ZAE h (sB.free nod) z
  rcases yAE.mp z with z | z
  .exact ZAE h (sB.free ngr) z
  .exact n z
 have arq7:=obtNe rq _ hrqA arq
 have arw7:=obtNe rw _ hrwA arw
 have hrwC:=sAC _ _ hrwA
 have hbzC:(∃ pt,bz=.ref pt /\ HC pt=some (.tup [.int s,.int e]))∨(bz=.non /\ s=0 /\ e=ks.length):=hbzA.imp (fun ⟨pt,a1,a2⟩=>⟨pt,a1,sAC _ _ a2⟩) id
 refine ZAZ ?_
 walk_at "rd"
 refine ⟨.inl ⟨rfl,_,SqL.of hrwC⟩,rw,_,rfl,rfl,hrwC,?_⟩
 have wD:=wC.upd (us':=[]) hrwC arw7 yBL nrqrw nrwrl
 have FD:Fr [rw] HC (upd HC rw (.lst [])):=Fr.upd yAF
 have hbzD:(∃ pt,bz=.ref pt /\ (upd HC rw (.lst [])) pt=some (.tup [.int s,.int e]))∨(bz=.non /\ s=0 /\ e=ks.length):=hbzC.imp (fun ⟨pt,a1,a2⟩=>⟨pt,a1,FD _ _ (fun z=>by rw [yAM.mp z,hrwC] at a2;cases a2) a2⟩) id
 generalize upd HC rw (.lst [])=HD at wD FD hbzD ⊢
 clear obtNe wC hbzC hbzA hSA paC pxC stC
 refine ZAZ ?_
 walk_at "rd"
 refine ZAZ ?_
 walk_at "rd"
 refine ⟨rq,_,rfl,.inl (SqL.of wD.hrq),?_⟩
 rw [hth1.1]
 refine ZAZ ?_
 walk_at "rd"
 apply ZFZ (fun (lo hi:V)=>lo=.int (s:Nat) /\ hi=.int (e:Nat))
 .intro tailp
  rcases id hbzD with ⟨pt,hz,hpt⟩ | ⟨hz,hs0,he0⟩
  .rw [if_pos (by rw [hz];simp)]
   have hix:∀ {i:Int} {v:V} {Q':VK},atI [V.int (s:Nat),V.int (e:Nat)] i=some v->Q' v HD->rIxT K bz (.int i) HD Q':=fun h1 h=>by rw [hz];exact ZA0 (SqT.of hpt) h1 h
   obtain ⟨lo,elo⟩:∃ lo,lo=V.int (s:Nat):=⟨_,rfl⟩
   obtain ⟨hi,ehi⟩:∃ hi,hi=V.int (e:Nat):=⟨_,rfl⟩
   refine hix (v:=lo) (by rw [elo];exact ZAf (by decide) rfl) (hix (v:=hi) (by rw [ehi];exact ZAf (by decide) rfl) ?_)
   exact tailp lo hi ⟨elo,ehi⟩
  .rw [if_neg (by rw [hz];simp)]
   exact tailp (.int 0) (.int (ks.length:Nat)) ⟨by simp [hs0],by rw [he0]⟩
 rintro _ _ ⟨rfl,rfl⟩
 refine ZAZ ?_
 walk_at "rd"
 refine ⟨ZAX (by decide),fun t0 ht0=>?_⟩
 obtain ⟨HE,eE,sE,hE⟩:=newH ht0 (.tup [.str ""])
 rw [eE];clear eE
 have wE:=wD.mono sE
 have hbn:bz=.non->s=0 /\ e=ks.length:=fun z=>by
  rcases hbzD with ⟨pt,a1,_⟩ | ⟨_,a2,a3⟩
  .rw [z] at a1;cases a1
  .exact ⟨a2,a3⟩
 clear hbzD wD
 refine ZAZ ?_
 walk_at "rd"
 refine ZBp (I55 C_Asker C_AskedRule C_Pile ks xs ak rl ru tl g lg x fs od gr rq rw a bz ls s e) ⟨_,.ref t0,_,_,_,[],s,[],[],[],rfl,wE,.inr ⟨t0,rfl,rfl⟩⟩ ?_
 rintro n σ X ⟨sv,v10,v11,v12,pr,r,oa,ps,gs,rfl,w,hsv⟩
 have hre:=w.pi.re
 have hcl:=w.pi.ch.le
 have hgl:=w.pi.gl
 have hfn:=w.pi.ch.flen
 have hcs:=w.cs
 walk_at "rd"
 rcases hsv with ⟨rfl,rfl,rfl,hps1⟩ | ⟨t,rfl,rfl⟩
 rotate_left
 .rw [if_pos (by simp)]
  refine ZBq ?_
  walk_at "rd"
  refine w.pa.hp.meth (by walk_at "lk") ⟨x,ak,fs,od,gr,ls,s,e,r,oa,ps,gs,rfl,w.pa,by omega,hre,by omega,fun fl X1 s1 hfl0 hfl=>?_⟩
  have w1:=w.mono s1
  refine ZAZ ?_
  walk_at "rd"
  refine w1.pa.hp.meth (by walk_at "lk") ⟨x,ak,fs,od,gr,ls,s,e,r,oa,ps,gs,rfl,w1.pa,by omega,hgl,fun sl X2 ts s2 hsl0 hsl hsp=>?_⟩
  have w2:=w1.mono s2
  refine ⟨fl,sl,rq,ks,xs,ps,gs,s,e,r,ts,rfl,s2 _ _ hfl,hsl,hsp,w2.hrq,w2.th,hkl,w.pi,hek,fun X3 s3=>⟨_,rfl,?_⟩⟩
  rw [if_neg (by decide)]
  have w3:=w2.mono s3
  have hfl3:=s3 _ _ (s2 _ _ hfl)
  obtain ⟨n1,n2,n3,n4⟩:=w.free hfl0
  refine ZAZ ?_
  walk_at "rd"
  refine ⟨.inl ⟨rfl,_,SqL.of hfl3⟩,fl,_,rfl,rfl,hfl3,?_⟩
  have w4:=w3.upd (us':=(nL (flt ps++List.range' r (e-r))).reverse) hfl3 n1 n2 n3 n4
  have hfl4:upd X3 fl (.lst (nL (flt ps++List.range' r (e-r))).reverse) fl=some (.lst (nL (flt ps++List.range' r (e-r))).reverse):=ZAF
  generalize upd X3 fl (.lst (nL (flt ps++List.range' r (e-r))).reverse)=X4 at w4 hfl4 ⊢
  refine ZAZ ?_
  walk_at "rd"
  refine ⟨.inl ⟨rfl,_,SqL.of hfl4⟩,fl,_,_,rfl,rfl,hfl4,ZBY (by rw [List.length_reverse,yAB,yAD,yCD];omega),?_⟩
  have w5:=w4.upd (us':=(nL (flt ps++List.range' r (e-r))).reverse++[.int 0]) hfl4 n1 n2 n3 n4
  generalize upd X4 fl (.lst ((nL (flt ps++List.range' r (e-r))).reverse++[.int 0]))=X5 at w5 ⊢
  clear w4 w3 w2 w1 hfl4 hfl3 hsp hsl hfl
  refine ZAZ ?_
  walk_at "rd"
  refine w5.pa.hp.meth (by walk_at "lk") ⟨ks,⟨xs,0⟩,ak,rl,ru,tl,g,lg,x,fs,od,gr,pr,ls,s,e,r,oa,ps,gs,rfl,w5.st,w5.pa,w5.px,w5.pi,hek,hkl,by omega,by omega,fun z1 z2 z3=>?_,fun t' Y k' u1 u2 u3 L' oa' ps' gs' r' stp' lf=>?_⟩
  .exact ⟨0,by omega,.non,_,_,_,pr,r,oa,ps,gs,rfl,w5,.inl ⟨rfl,rfl,z2,z3⟩⟩
  .exact ⟨_,by have:=stp'.less;omega,.ref t',_,_,_,pr++L',r',oa',ps',gs',rfl,w5.step arq7 lf stp' (by omega),.inr ⟨t',rfl,rfl⟩⟩
 rw [if_neg (by simp)]
 refine ZAZ ?_
 walk_at "rd"
 refine w.pa.hp.meth (by walk_at "lk") ⟨x,ak,fs,od,gr,ls,s,r,r,oa,ps,gs,rfl,w.pa,by omega,hgl,fun sl X2 ts s2 hsl0 hsl hsp=>?_⟩
 have w2:=w.mono s2
 refine ZAZ ?_
 walk_at "rd"
 have hcase:(ps=[] /\ s=r)∨∃ p,ps=[p] /\ p.1=s /\ s < r /\ OrdN ks s r p.2:=by
  have hch:=w.pi.ch
  match ps,hps1,hch with
  | [],_,h=>exact .inl ⟨rfl,h⟩
  | [(f,o)],_,⟨h1,m,h2,h3,h4⟩=>
   have h4:m=r:=h4
   subst h4
   exact .inr ⟨(f,o),rfl,h1,h2,h3⟩
  | _::_::_,h,_=>simp at h
 have hord:OrdN ks s r (flt ps):=by
  rcases hcase with ⟨rfl,rfl⟩ | ⟨p,rfl,h1,h2,h3⟩
  .exact ⟨by simp [flt],fun u=>by simp [flt],.nil⟩
  .rw [show flt [p]=p.2 from yBB _];exact h3
 have hadj:Adj (flt ps) pr:=by
  rcases hcase with ⟨rfl,rfl⟩ | ⟨p,rfl,h1,h2,h3⟩
  .exact fun i x y hx=>by simp [flt] at hx
  .rw [show flt [p]=p.2 from yBB _];exact w.adj p yAF
 have er:List.range' r (r-r)=[]:=by rw [yBF];rfl
 have hprl:pr.length <= 13000:=by omega
 refine ZEM (SqL.of hsl) (by rw [hsp.len,ZDx];omega) (fun i ys σ Y=>∃ v,σ=[v] /\ Same X2 Y /\ Prs Y (((spn ps gs r).take i).map fun c=>(c.1,c.2.1)) ys) ⟨_,rfl,.refl _,rfl,fun j p q h=>by simp at h⟩ (fun i ys σ Y hi ⟨_,_,sY,hP⟩=>⟨SqL.of (sY _ _ hsl),by rw [hP.len,yAB,yAN];exact Nat.min_le_left _ _⟩) ?_ ?_
 .rintro i ys y σ Y hi hy ⟨v,rfl,sY,hP⟩
  have hi':=hi
  rw [hsp.len] at hi'
  obtain ⟨⟨c1,c2,c3⟩,hc⟩:∃ c,(spn ps gs r)[i]?=some c:=⟨_,yAJ hi'⟩
  obtain ⟨t,ht1,ht2⟩:=hsp.get i c1 c2 c3 hc
  rw [hy] at ht1
  cases ht1
  walk_at "rd"
  refine ZA0 (SqT.of (sY _ _ ht2)) (ZAf (by decide) rfl) (ZA0 (SqT.of (sY _ _ ht2)) (ZAf (by decide) rfl) ⟨ZAX (by decide),fun t3 ht3=>?_⟩)
  refine Nxt.of hi ⟨_,rfl,sY.new ht3,?_⟩
  rw [List.take_add_one,hc,yAR]
  exact (hP.keep fun _ _ z=>ZAQ ht3 _ _ _ z).snoc ZAF
 rintro ys σ Y ⟨v,rfl,sY,hP⟩ l1 hl1
 rw [hsp.len,List.take_length] at hP
 obtain ⟨Y1,e1,s1,h1⟩:=newH hl1 (.lst ys)
 rw [e1];clear e1
 refine ⟨ZAX (by decide),fun p2 hp2=>?_⟩
 obtain ⟨Y2,e2,s3,h2⟩:=newH hp2 (.tup [.int (s:Nat),.int (r:Nat)])
 rw [e2];clear e2
 refine ⟨ZAX (by decide),fun l2 hl2=>?_⟩
 obtain ⟨Y3,e3,s4,h3⟩:=newH hl2 (.lst [.ref p2])
 rw [e3];clear e3
 rw [show (r:Int)-s=((r-s:Nat):Int) from (Int.ofNat_sub (yAP (yCM _ _) hcl)).symm]
 refine ZDE (SqL.of h3) fun l3 hl3=>?_
 obtain ⟨us,eus⟩:∃ us,cutV [V.ref p2] none (some ((r-s:Nat):Int))=us:=⟨_,rfl⟩
 rw [eus]
 obtain ⟨Y4,e4,s5,h4⟩:=newH hl3 (.lst us)
 rw [e4];clear e4
 have S4:Same X2 Y4:=sY.trans (s1.trans (s3.trans (s4.trans s5)))
 have hP4:Prs Y4 ((spn ps gs r).map fun c=>(c.1,c.2.1)) ys:=hP.keep fun _ _ z=>s5 _ _ (s4 _ _ (s3 _ _ (s1 _ _ z)))
 have hU4:Prs Y4 ((spn ps gs r).map fun c=>(c.1,c.2.1)) us:=by
  rcases hcase with ⟨rfl,rfl⟩ | ⟨p,rfl,g1,g2,g3⟩
  .have:us=[]:=by rw [<- eus,yBF];rfl
   subst this
   exact ⟨rfl,fun j p q h=>by simp [spn] at h⟩
  .have:us=[.ref p2]:=by
    rw [<- eus]
    unfold cutV
    rw [HT.sIx_none,HT.sIx_nat,show ([V.ref p2]:List V).length=1 from rfl,show min (r-s) 1=1 by omega]
    rfl
   subst this
   rw [show (spn [p] gs r).map (fun c=>(c.1,c.2.1))=[(s,r)] by rw [<- g1];rfl]
   refine ⟨rfl,fun j x y h=>?_⟩
   cases j with
   | zero=>cases h;exact ⟨p2,rfl,s5 _ _ (s4 _ _ h2)⟩
   | succ j=>simp at h
 refine prs_ne (s5 _ _ (s4 _ _ (s3 _ _ h1))) h4 hP4 hU4 ⟨_,rfl,?_⟩
 rw [if_neg (by decide)]
 have w4:=w2.mono S4
 have hsl4:=S4 _ _ hsl
 have hsp4:=hsp.keep (H':=Y4) fun _ _ z=>S4 _ _ z
 clear hP hP4 hU4 h1 h2 h3 h4 s1 s3 s4 s5 sY
 refine ZAZ ?_
 walk_at "rd"
 refine w4.pa.hp.meth (by walk_at "lk") ⟨x,ak,fs,od,gr,ls,s,r,r,oa,ps,gs,rfl,w4.pa,by omega,yAA _,by omega,fun pp Z s6 hpp0 hpp=>?_⟩
 have w6:=w4.mono s6
 refine ZAZ ?_
 walk_at "rd"
 refine ⟨pp,sl,rq,ks,xs,ps,gs,s,r,r,ts,rfl,hpp,s6 _ _ hsl4,hsp4.keep fun _ _ z=>s6 _ _ z,w6.hrq,w6.th,hkl,w.pi,hek,fun Z2 s7=>⟨_,rfl,?_⟩⟩
 rw [if_neg (by decide)]
 have w7:=w6.mono s7
 obtain ⟨ws,hlg7,hws7⟩:=w7.st.hlg
 have hws7:=hws7.prs
 rw [er,yBB] at hpp
 refine ⟨pp,lg,flt ps,pr,ws,rfl,s7 _ _ hpp,hlg7,hws7,hadj,by omega,hprl,fun Z3 s8=>⟨_,rfl,?_⟩⟩
 rw [if_neg (by decide)]
 have w8:=w7.mono s8
 have hws8:=hws7.keep (H':=Z3) fun _ _ z=>s8 _ _ z
 have hlg8:=s8 _ _ hlg7
 have hpp8:=s8 _ _ (s7 _ _ hpp)
 refine ZAZ ?_
 walk_at "rd"
 refine ZDi (SqL.of hlg8) (by rw [hws8.len];exact yAP hprl (by decide)) (fun i ys σ Y=>∃ v,σ=[v,some (.int (r:Nat)),some (.int (s:Nat))] /\ Y=Z3 /\ ys=[]) ⟨_,rfl,rfl,rfl⟩ (fun i ys σ Y hi ⟨_,_,e1,e2⟩=>⟨by rw [e1];exact SqL.of hlg8,by rw [e2];exact yAI _⟩) ?_ ?_
 .rintro i ys y σ Y hi hy ⟨v,rfl,rfl,rfl⟩
  have hi':=hi
  rw [hws8.len] at hi'
  obtain ⟨⟨c1,c2⟩,hc⟩:∃ c,pr[i]?=some c:=⟨_,yAJ (by simpa using hi')⟩
  obtain ⟨t,ht1,ht2⟩:=hws8.get i c1 c2 (by simpa using hc)
  rw [hy] at ht1
  cases ht1
  have hin:=w.inb _ (yAK hc)
  dsimp only at hin
  walk_at "rd"
  refine ZA0 (SqT.of ht2) (ZAf (by decide) rfl) ⟨_,_,rfl,rfl,_,rfl,?_⟩
  rw [if_neg (by simp;omega)]
  refine ZA0 (SqT.of ht2) (ZAf (by decide) rfl) ⟨_,_,rfl,rfl,_,rfl,?_⟩
  rw [if_neg (by simp;omega)]
  exact Nxt.of hi ⟨_,rfl,rfl,rfl⟩
 rintro ys σ Y ⟨v,rfl,rfl,rfl⟩ l5 hl5
 obtain ⟨Z5,e5,s9,h5⟩:=newH hl5 (.lst [])
 rw [e5];clear e5
 refine ⟨yAI _,fun l6 hl6=>?_⟩
 obtain ⟨Z6,e6,s10,h6⟩:=newH hl6 (.lst [])
 rw [e6];clear e6
 refine ZE3 Enc.int.list (by decide) (a:=[]) (b:=[]) (ZBd (xs:=[]) (SqL.of (s10 _ _ h5))) (ZBd (xs:=[]) (SqL.of h6)) ⟨_,rfl,?_⟩
 rw [if_neg (by simp)]
 have wF:=(w8.mono s9).mono s10
 have hppF:=s10 _ _ (s9 _ _ hpp8)
 clear hcase
 by_cases hz:bz=.non
 .rw [if_neg (by simp [hz])]
  obtain ⟨z1,z2⟩:=hbn hz
  rw [z1,z2] at hord
  obtain ⟨us,htlF,htsF⟩:=wF.st.htl
  refine wF.st.ha.meth (by walk_at "lk") ⟨ak,rl,ru,tl,.non,_,us,rfl,wF.st.ha,htlF,fun an Z7 s11 han0 han=>?_⟩
  have hin:∀ c∈pr,c.1 < ks.length:=fun c hc=>by have:=(w.inb c hc).2.2;omega
  refine ⟨pp,an,flt ps,pr.map (ZFQ ks),us,rfl,by rw [s11 _ _ hppF,NL_nL],hord.isP,by omega,han,(htsF.keep fun _ _ h=>s11 _ _ h).ans,fun c hc=>?_,by rw [yAB];omega,fun Z8 s12=>?_⟩
  .obtain ⟨c',hc',rfl⟩:=yBQ.mp hc
   have y1:=hin c' hc'
   have y2:=(w.inb c' hc').1
   show c'.1 < _ /\ c'.2 < _
   rw [hord.len]
   omega
  .rw [ag_true hord (fun c hc=>(w.inb c hc).1) hin,sh_true hadj]
   exact ⟨_,_,rfl,rfl,q _⟩
 .rw [if_pos hz]
  exact q _
end
theorem all_mk {l:PySem.W.OpenLaw} {w:World} {K:W.Frag} {h:Heap} {mg:Str->Option Value} {fa C_zaY f_zav f_zah f_zaq f_zak f_zaf f_zaz f_zam C_zaX f_zat T_zat f_zae f_zaa f_zab f_zaj f_zaB f_zau f_zas f_zai C_zaW f_zap T_zap f_zar f_zao f_zag C_zaV f_zad f_zac f_zal T_zal f_zaG f_zaC f_zaL T_zaL f_zaT f_zaH f_zaN f_zaD f_zaJ f_zaF f_zaM f_zaA f_zaw f_zay f_zan f_zaS f_zaK f_zaO f_zaE f_zaR f_zax f_zaQ f_zaP f_zaU f_zaI cc_zaI Pt_zaI:Addr} {td_zat_0 t_LEFT t_RIGHT t_WINS_TO_LEAP:Tok} (X:K.In h) (G:h.Ns mainGlobals mg) (hfa:mg "law"=some (.ref fa))
  {od_zav an_zav:Option Addr} {sl_zav:Array (Option Value)} {oc_zav kV_zav dc_zav pm_zav cd_zav ct_zav:Value}
  {od_zah an_zah:Option Addr} {sl_zah:Array (Option Value)} {oc_zah kV_zah dc_zah pm_zah cd_zah ct_zah:Value}
  {od_zaq an_zaq:Option Addr} {sl_zaq:Array (Option Value)} {oc_zaq kV_zaq dc_zaq pm_zaq cd_zaq ct_zaq:Value}
  {od_zak an_zak:Option Addr} {sl_zak:Array (Option Value)} {oc_zak kV_zak dc_zak pm_zak cd_zak ct_zak:Value}
  {od_zaf an_zaf:Option Addr} {sl_zaf:Array (Option Value)} {oc_zaf kV_zaf dc_zaf pm_zaf cd_zaf ct_zaf:Value}
  {od_zaz an_zaz:Option Addr} {sl_zaz:Array (Option Value)} {oc_zaz kV_zaz dc_zaz pm_zaz cd_zaz ct_zaz:Value}
  {od_zam an_zam:Option Addr} {sl_zam:Array (Option Value)} {oc_zam kV_zam dc_zam pm_zam cd_zam ct_zam:Value}
  {ocT_zat:Value} {odT_zat:Option Addr} {nT_zat:Nat} {slT_zat:Array (Option Value)}
  {od_zat an_zat:Option Addr} {sl_zat:Array (Option Value)} {oc_zat kV_zat dc_zat pm_zat cd_zat ct_zat:Value}
  {od_zae an_zae:Option Addr} {sl_zae:Array (Option Value)} {oc_zae kV_zae dc_zae pm_zae cd_zae ct_zae:Value}
  {od_zaa an_zaa:Option Addr} {sl_zaa:Array (Option Value)} {oc_zaa kV_zaa dc_zaa pm_zaa cd_zaa ct_zaa:Value}
  {od_zab an_zab:Option Addr} {sl_zab:Array (Option Value)} {oc_zab kV_zab dc_zab pm_zab cd_zab ct_zab:Value}
  {od_zaj an_zaj:Option Addr} {sl_zaj:Array (Option Value)} {oc_zaj kV_zaj dc_zaj pm_zaj cd_zaj ct_zaj:Value}
  {od_zaB an_zaB:Option Addr} {sl_zaB:Array (Option Value)} {oc_zaB kV_zaB dc_zaB pm_zaB cd_zaB ct_zaB:Value}
  {od_zau an_zau:Option Addr} {sl_zau:Array (Option Value)} {oc_zau kV_zau dc_zau pm_zau cd_zau ct_zau:Value}
  {od_zas an_zas:Option Addr} {sl_zas:Array (Option Value)} {oc_zas kV_zas dc_zas pm_zas cd_zas ct_zas:Value}
  {od_zai an_zai:Option Addr} {sl_zai:Array (Option Value)} {oc_zai kV_zai dc_zai pm_zai cd_zai ct_zai:Value}
  {ocT_zap:Value} {odT_zap:Option Addr} {nT_zap:Nat} {slT_zap:Array (Option Value)}
  {od_zap an_zap:Option Addr} {sl_zap:Array (Option Value)} {oc_zap kV_zap dc_zap pm_zap cd_zap ct_zap:Value}
  {od_zar an_zar:Option Addr} {sl_zar:Array (Option Value)} {oc_zar kV_zar dc_zar pm_zar cd_zar ct_zar:Value}
  {od_zao an_zao:Option Addr} {sl_zao:Array (Option Value)} {oc_zao kV_zao dc_zao pm_zao cd_zao ct_zao:Value}
  {od_zag an_zag:Option Addr} {sl_zag:Array (Option Value)} {oc_zag kV_zag dc_zag pm_zag cd_zag ct_zag:Value}
  {od_zad an_zad:Option Addr} {sl_zad:Array (Option Value)} {oc_zad kV_zad dc_zad pm_zad cd_zad ct_zad:Value}
  {od_zac an_zac:Option Addr} {sl_zac:Array (Option Value)} {oc_zac kV_zac dc_zac pm_zac cd_zac ct_zac:Value}
  {ocT_zal:Value} {odT_zal:Option Addr} {nT_zal:Nat} {slT_zal:Array (Option Value)}
  {od_zal an_zal:Option Addr} {sl_zal:Array (Option Value)} {oc_zal kV_zal dc_zal pm_zal cd_zal ct_zal:Value}
  {od_zaG an_zaG:Option Addr} {sl_zaG:Array (Option Value)} {oc_zaG kV_zaG dc_zaG pm_zaG cd_zaG ct_zaG:Value}
  {od_zaC an_zaC:Option Addr} {sl_zaC:Array (Option Value)} {oc_zaC kV_zaC dc_zaC pm_zaC cd_zaC ct_zaC:Value}
  {ocT_zaL:Value} {odT_zaL:Option Addr} {nT_zaL:Nat} {slT_zaL:Array (Option Value)}
  {od_zaL an_zaL:Option Addr} {sl_zaL:Array (Option Value)} {oc_zaL kV_zaL dc_zaL pm_zaL cd_zaL ct_zaL:Value}
  {od_zaT an_zaT:Option Addr} {sl_zaT:Array (Option Value)} {oc_zaT kV_zaT dc_zaT pm_zaT cd_zaT ct_zaT:Value}
  {od_zaH an_zaH:Option Addr} {sl_zaH:Array (Option Value)} {oc_zaH kV_zaH dc_zaH pm_zaH cd_zaH ct_zaH:Value}
  {od_zaN an_zaN:Option Addr} {sl_zaN:Array (Option Value)} {oc_zaN kV_zaN dc_zaN pm_zaN cd_zaN ct_zaN:Value}
  {od_zaD an_zaD:Option Addr} {sl_zaD:Array (Option Value)} {oc_zaD kV_zaD dc_zaD pm_zaD cd_zaD ct_zaD:Value}
  {od_zaJ an_zaJ:Option Addr} {sl_zaJ:Array (Option Value)} {oc_zaJ kV_zaJ dc_zaJ pm_zaJ cd_zaJ ct_zaJ:Value}
  {od_zaF an_zaF:Option Addr} {sl_zaF:Array (Option Value)} {oc_zaF kV_zaF dc_zaF pm_zaF cd_zaF ct_zaF:Value}
  {od_zaM an_zaM:Option Addr} {sl_zaM:Array (Option Value)} {oc_zaM kV_zaM dc_zaM pm_zaM cd_zaM ct_zaM:Value}
  {od_zaA an_zaA:Option Addr} {sl_zaA:Array (Option Value)} {oc_zaA kV_zaA dc_zaA pm_zaA cd_zaA ct_zaA:Value}
  {od_zaw an_zaw:Option Addr} {sl_zaw:Array (Option Value)} {oc_zaw kV_zaw dc_zaw pm_zaw cd_zaw ct_zaw:Value}
  {od_zay an_zay:Option Addr} {sl_zay:Array (Option Value)} {oc_zay kV_zay dc_zay pm_zay cd_zay ct_zay:Value}
  {od_zan an_zan:Option Addr} {sl_zan:Array (Option Value)} {oc_zan kV_zan dc_zan pm_zan cd_zan ct_zan:Value}
  {od_zaS an_zaS:Option Addr} {sl_zaS:Array (Option Value)} {oc_zaS kV_zaS dc_zaS pm_zaS cd_zaS ct_zaS:Value}
  {od_zaK an_zaK:Option Addr} {sl_zaK:Array (Option Value)} {oc_zaK kV_zaK dc_zaK pm_zaK cd_zaK ct_zaK:Value}
  {od_zaO an_zaO:Option Addr} {sl_zaO:Array (Option Value)} {oc_zaO kV_zaO dc_zaO pm_zaO cd_zaO ct_zaO:Value}
  {od_zaE an_zaE:Option Addr} {sl_zaE:Array (Option Value)} {oc_zaE kV_zaE dc_zaE pm_zaE cd_zaE ct_zaE:Value}
  {od_zaR an_zaR:Option Addr} {sl_zaR:Array (Option Value)} {oc_zaR kV_zaR dc_zaR pm_zaR cd_zaR ct_zaR:Value}
  {od_zax an_zax:Option Addr} {sl_zax:Array (Option Value)} {oc_zax kV_zax dc_zax pm_zax cd_zax ct_zax:Value}
  {od_zaQ an_zaQ:Option Addr} {sl_zaQ:Array (Option Value)} {oc_zaQ kV_zaQ dc_zaQ pm_zaQ cd_zaQ ct_zaQ:Value}
  {od_zaP an_zaP:Option Addr} {sl_zaP:Array (Option Value)} {oc_zaP kV_zaP dc_zaP pm_zaP cd_zaP ct_zaP:Value}
  {od_zaU an_zaU:Option Addr} {sl_zaU:Array (Option Value)} {oc_zaU kV_zaU dc_zaU pm_zaU cd_zaU ct_zaU:Value}
  {oc2_zaI:Value} {od2_zaI:Option Addr} {vs_zaI:Array Value} {sl2_zaI:Array (Option Value)}
  {od_zaI an_zaI:Option Addr} {sl_zaI:Array (Option Value)} {oc_zaI kV_zaI dc_zaI pm_zaI ct_zaI:Value}
  (a_zaY:W.nsIn K mainGlobals "Join"=some (some (.ref C_zaY)))
  (pg_zaY:PySem.W.plainGet K C_zaY Str.empty=true)
  (hd_zaY:PySem.W.hasDictIn K C_zaY=true)
  (po_zaY:PySem.W.plainOver K C_zaY=true)
  (sa_zaY:W.findIn K (.ref C_zaY) "__setattr__"=some (some (.builtin "object.__setattr__")))
  (mk_zaY:PySem.W.makesIn K C_zaY=true)
  (kc_zaY:W.keepIn K (.ref C_zaY)=true)
  (n_zaY_asker:W.findIn K (.ref C_zaY) "asker"=some none)
  (n_zaY_sides:W.findIn K (.ref C_zaY) "sides"=some none)
  (n_zaY_taken:W.findIn K (.ref C_zaY) "taken"=some none)
  (n_zaY_places:W.findIn K (.ref C_zaY) "places"=some none)
  (a_zav:W.findIn K (.ref C_zaY) "__init__"=some (some (.ref f_zav)))
  (i_zav:PySem.W.isFn K (.ref f_zav)=true)
  (l_zav:K.lookup f_zav=some ⟨oc_zav,od_zav,.func (W.fnOf "__init__" "Join.__init__" (ZAN ZBT) (ZAJ ZBT) (ZAC ZBT) .none kV_zav dc_zav pm_zav an_zav cd_zav ct_zav),sl_zav⟩)
  (c_zav:W.codeIn K cd_zav "Join.__init__"=true)
  (k_zav:W.keepIn K (.ref f_zav)=true)
  (a_zah:W.findIn K (.ref C_zaY) "has_more"=some (some (.ref f_zah)))
  (i_zah:PySem.W.isFn K (.ref f_zah)=true)
  (l_zah:K.lookup f_zah=some ⟨oc_zah,od_zah,.func (W.fnOf "has_more" "Join.has_more" (ZAN ZAy) (ZAJ ZAy) (ZAC ZAy) .none kV_zah dc_zah pm_zah an_zah cd_zah ct_zah),sl_zah⟩)
  (c_zah:W.codeIn K cd_zah "Join.has_more"=true)
  (k_zah:W.keepIn K (.ref f_zah)=true)
  (a_zaq:W.findIn K (.ref C_zaY) "front"=some (some (.ref f_zaq)))
  (i_zaq:PySem.W.isFn K (.ref f_zaq)=true)
  (l_zaq:K.lookup f_zaq=some ⟨oc_zaq,od_zaq,.func (W.fnOf "front" "Join.front" (ZAN ZBF) (ZAJ ZBF) (ZAC ZBF) .none kV_zaq dc_zaq pm_zaq an_zaq cd_zaq ct_zaq),sl_zaq⟩)
  (c_zaq:W.codeIn K cd_zaq "Join.front"=true)
  (k_zaq:W.keepIn K (.ref f_zaq)=true)
  (a_zak:W.findIn K (.ref C_zaY) "take_on"=some (some (.ref f_zak)))
  (i_zak:PySem.W.isFn K (.ref f_zak)=true)
  (l_zak:K.lookup f_zak=some ⟨oc_zak,od_zak,.func (W.fnOf "take_on" "Join.take_on" (ZAN ZA5) (ZAJ ZA5) (ZAC ZA5) .none kV_zak dc_zak pm_zak an_zak cd_zak ct_zak),sl_zak⟩)
  (c_zak:W.codeIn K cd_zak "Join.take_on"=true)
  (k_zak:W.keepIn K (.ref f_zak)=true)
  (a_zaf:W.findIn K (.ref C_zaY) "take_rest"=some (some (.ref f_zaf)))
  (i_zaf:PySem.W.isFn K (.ref f_zaf)=true)
  (l_zaf:K.lookup f_zaf=some ⟨oc_zaf,od_zaf,.func (W.fnOf "take_rest" "Join.take_rest" (ZAN ZAt) (ZAJ ZAt) (ZAC ZAt) .none kV_zaf dc_zaf pm_zaf an_zaf cd_zaf ct_zaf),sl_zaf⟩)
  (c_zaf:W.codeIn K cd_zaf "Join.take_rest"=true)
  (k_zaf:W.keepIn K (.ref f_zaf)=true)
  (a_zaz:W.findIn K (.ref C_zaY) "win"=some (some (.ref f_zaz)))
  (i_zaz:PySem.W.isFn K (.ref f_zaz)=true)
  (l_zaz:K.lookup f_zaz=some ⟨oc_zaz,od_zaz,.func (W.fnOf "win" "Join.win" (ZAN ZBk) (ZAJ ZBk) (ZAC ZBk) .none kV_zaz dc_zaz pm_zaz an_zaz cd_zaz ct_zaz),sl_zaz⟩)
  (c_zaz:W.codeIn K cd_zaz "Join.win"=true)
  (k_zaz:W.keepIn K (.ref f_zaz)=true)
  (a_zam:W.findIn K (.ref C_zaY) "leap_on"=some (some (.ref f_zam)))
  (i_zam:PySem.W.isFn K (.ref f_zam)=true)
  (l_zam:K.lookup f_zam=some ⟨oc_zam,od_zam,.func (W.fnOf "leap_on" "Join.leap_on" (ZAN ZA6) (ZAJ ZA6) (ZAC ZA6) .none kV_zam dc_zam pm_zam an_zam cd_zam ct_zam),sl_zam⟩)
  (c_zam:W.codeIn K cd_zam "Join.leap_on"=true)
  (k_zam:W.keepIn K (.ref f_zam)=true)
  (a_zaX:W.nsIn K mainGlobals "Pile"=some (some (.ref C_zaX)))
  (pg_zaX:PySem.W.plainGet K C_zaX Str.empty=true)
  (hd_zaX:PySem.W.hasDictIn K C_zaX=true)
  (po_zaX:PySem.W.plainOver K C_zaX=true)
  (sa_zaX:W.findIn K (.ref C_zaX) "__setattr__"=some (some (.builtin "object.__setattr__")))
  (mk_zaX:PySem.W.makesIn K C_zaX=true)
  (kc_zaX:W.keepIn K (.ref C_zaX)=true)
  (n_zaX_asker:W.findIn K (.ref C_zaX) "asker"=some none)
  (n_zaX_least:W.findIn K (.ref C_zaX) "least"=some none)
  (n_zaX_start:W.findIn K (.ref C_zaX) "start"=some none)
  (n_zaX_end:W.findIn K (.ref C_zaX) "end"=some none)
  (n_zaX_reached:W.findIn K (.ref C_zaX) "reached"=some none)
  (n_zaX_firsts:W.findIn K (.ref C_zaX) "firsts"=some none)
  (n_zaX_orders:W.findIn K (.ref C_zaX) "orders"=some none)
  (n_zaX_grades:W.findIn K (.ref C_zaX) "grades"=some none)
  (a_zat:W.findIn K (.ref C_zaX) "__init__"=some (some (.ref f_zat)))
  (i_zat:PySem.W.isFn K (.ref f_zat)=true)
  (l_zat:K.lookup f_zat=some ⟨oc_zat,od_zat,.func (W.fnOf "__init__" "Pile.__init__" (ZAN ZBS) (ZAJ ZBS) (ZAC ZBS) (.ref T_zat) kV_zat dc_zat pm_zat an_zat cd_zat ct_zat),sl_zat⟩)
  (c_zat:W.codeIn K cd_zat "Pile.__init__"=true)
  (d_zat:K.lookup T_zat=some ⟨ocT_zat,odT_zat,.seq ([.int 1 td_zat_0,.none]:List Value).toArray nT_zat,slT_zat⟩)
  (k_zat:W.keepIn K (.ref f_zat)=true)
  (a_zae:W.findIn K (.ref C_zaX) "beyond_of"=some (some (.ref f_zae)))
  (i_zae:PySem.W.isFn K (.ref f_zae)=true)
  (l_zae:K.lookup f_zae=some ⟨oc_zae,od_zae,.func (W.fnOf "beyond_of" "Pile.beyond_of" (ZAN ZAs) (ZAJ ZAs) (ZAC ZAs) .none kV_zae dc_zae pm_zae an_zae cd_zae ct_zae),sl_zae⟩)
  (c_zae:W.codeIn K cd_zae "Pile.beyond_of"=true)
  (k_zae:W.keepIn K (.ref f_zae)=true)
  (a_zaa:W.findIn K (.ref C_zaX) "is_due_beneath"=some (some (.ref f_zaa)))
  (i_zaa:PySem.W.isFn K (.ref f_zaa)=true)
  (l_zaa:K.lookup f_zaa=some ⟨oc_zaa,od_zaa,.func (W.fnOf "is_due_beneath" "Pile.is_due_beneath" (ZAN ZAe) (ZAJ ZAe) (ZAC ZAe) .none kV_zaa dc_zaa pm_zaa an_zaa cd_zaa ct_zaa),sl_zaa⟩)
  (c_zaa:W.codeIn K cd_zaa "Pile.is_due_beneath"=true)
  (k_zaa:W.keepIn K (.ref f_zaa)=true)
  (a_zab:W.findIn K (.ref C_zaX) "grade_on_top"=some (some (.ref f_zab)))
  (i_zab:PySem.W.isFn K (.ref f_zab)=true)
  (l_zab:K.lookup f_zab=some ⟨oc_zab,od_zab,.func (W.fnOf "grade_on_top" "Pile.grade_on_top" (ZAN ZAi) (ZAJ ZAi) (ZAC ZAi) .none kV_zab dc_zab pm_zab an_zab cd_zab ct_zab),sl_zab⟩)
  (c_zab:W.codeIn K cd_zab "Pile.grade_on_top"=true)
  (k_zab:W.keepIn K (.ref f_zab)=true)
  (a_zaj:W.findIn K (.ref C_zaX) "join_two"=some (some (.ref f_zaj)))
  (i_zaj:PySem.W.isFn K (.ref f_zaj)=true)
  (l_zaj:K.lookup f_zaj=some ⟨oc_zaj,od_zaj,.func (W.fnOf "join_two" "Pile.join_two" (ZAN ZAx) (ZAJ ZAx) (ZAC ZAx) .none kV_zaj dc_zaj pm_zaj an_zaj cd_zaj ct_zaj),sl_zaj⟩)
  (c_zaj:W.codeIn K cd_zaj "Pile.join_two"=true)
  (k_zaj:W.keepIn K (.ref f_zaj)=true)
  (a_zaB:W.findIn K (.ref C_zaX) "lay"=some (some (.ref f_zaB)))
  (i_zaB:PySem.W.isFn K (.ref f_zaB)=true)
  (l_zaB:K.lookup f_zaB=some ⟨oc_zaB,od_zaB,.func (W.fnOf "lay" "Pile.lay" (ZAN ZBj) (ZAJ ZBj) (ZAC ZBj) .none kV_zaB dc_zaB pm_zaB an_zaB cd_zaB ct_zaB),sl_zaB⟩)
  (c_zaB:W.codeIn K cd_zaB "Pile.lay"=true)
  (k_zaB:W.keepIn K (.ref f_zaB)=true)
  (a_zau:W.findIn K (.ref C_zaX) "step"=some (some (.ref f_zau)))
  (i_zau:PySem.W.isFn K (.ref f_zau)=true)
  (l_zau:K.lookup f_zau=some ⟨oc_zau,od_zau,.func (W.fnOf "step" "Pile.step" (ZAN ZBR) (ZAJ ZBR) (ZAC ZBR) .none kV_zau dc_zau pm_zau an_zau cd_zau ct_zau),sl_zau⟩)
  (c_zau:W.codeIn K cd_zau "Pile.step"=true)
  (k_zau:W.keepIn K (.ref f_zau)=true)
  (a_zas:W.findIn K (.ref C_zaX) "paper"=some (some (.ref f_zas)))
  (i_zas:PySem.W.isFn K (.ref f_zas)=true)
  (l_zas:K.lookup f_zas=some ⟨oc_zas,od_zas,.func (W.fnOf "paper" "Pile.paper" (ZAN ZBE) (ZAJ ZBE) (ZAC ZBE) .none kV_zas dc_zas pm_zas an_zas cd_zas ct_zas),sl_zas⟩)
  (c_zas:W.codeIn K cd_zas "Pile.paper"=true)
  (k_zas:W.keepIn K (.ref f_zas)=true)
  (a_zai:W.findIn K (.ref C_zaX) "standing"=some (some (.ref f_zai)))
  (i_zai:PySem.W.isFn K (.ref f_zai)=true)
  (l_zai:K.lookup f_zai=some ⟨oc_zai,od_zai,.func (W.fnOf "standing" "Pile.standing" (ZAN ZAw) (ZAJ ZAw) (ZAC ZAw) .none kV_zai dc_zai pm_zai an_zai cd_zai ct_zai),sl_zai⟩)
  (c_zai:W.codeIn K cd_zai "Pile.standing"=true)
  (k_zai:W.keepIn K (.ref f_zai)=true)
  (a_zaW:W.nsIn K mainGlobals "Asker"=some (some (.ref C_zaW)))
  (pg_zaW:PySem.W.plainGet K C_zaW Str.empty=true)
  (hd_zaW:PySem.W.hasDictIn K C_zaW=true)
  (po_zaW:PySem.W.plainOver K C_zaW=true)
  (sa_zaW:W.findIn K (.ref C_zaW) "__setattr__"=some (some (.builtin "object.__setattr__")))
  (mk_zaW:PySem.W.makesIn K C_zaW=true)
  (kc_zaW:W.keepIn K (.ref C_zaW)=true)
  (n_zaW_row:W.findIn K (.ref C_zaW) "row"=some none)
  (n_zaW_rule:W.findIn K (.ref C_zaW) "rule"=some none)
  (n_zaW_most:W.findIn K (.ref C_zaW) "most"=some none)
  (n_zaW_asked:W.findIn K (.ref C_zaW) "asked"=some none)
  (n_zaW_told:W.findIn K (.ref C_zaW) "told"=some none)
  (a_zap:W.findIn K (.ref C_zaW) "__init__"=some (some (.ref f_zap)))
  (i_zap:PySem.W.isFn K (.ref f_zap)=true)
  (l_zap:K.lookup f_zap=some ⟨oc_zap,od_zap,.func (W.fnOf "__init__" "Asker.__init__" (ZAN ZBH) (ZAJ ZBH) (ZAC ZBH) (.ref T_zap) kV_zap dc_zap pm_zap an_zap cd_zap ct_zap),sl_zap⟩)
  (c_zap:W.codeIn K cd_zap "Asker.__init__"=true)
  (d_zap:K.lookup T_zap=some ⟨ocT_zap,odT_zap,.seq ([.none]:List Value).toArray nT_zap,slT_zap⟩)
  (k_zap:W.keepIn K (.ref f_zap)=true)
  (a_zar:W.findIn K (.ref C_zaW) "many"=some (some (.ref f_zar)))
  (i_zar:PySem.W.isFn K (.ref f_zar)=true)
  (l_zar:K.lookup f_zar=some ⟨oc_zar,od_zar,.func (W.fnOf "many" "Asker.many" (ZAN ZBG) (ZAJ ZBG) (ZAC ZBG) .none kV_zar dc_zar pm_zar an_zar cd_zar ct_zar),sl_zar⟩)
  (c_zar:W.codeIn K cd_zar "Asker.many"=true)
  (k_zar:W.keepIn K (.ref f_zar)=true)
  (a_zao:W.findIn K (.ref C_zaW) "ahead"=some (some (.ref f_zao)))
  (i_zao:PySem.W.isFn K (.ref f_zao)=true)
  (l_zao:K.lookup f_zao=some ⟨oc_zao,od_zao,.func (W.fnOf "ahead" "Asker.ahead" (ZAN ZBA) (ZAJ ZBA) (ZAC ZBA) .none kV_zao dc_zao pm_zao an_zao cd_zao ct_zao),sl_zao⟩)
  (c_zao:W.codeIn K cd_zao "Asker.ahead"=true)
  (k_zao:W.keepIn K (.ref f_zao)=true)
  (a_zag:W.findIn K (.ref C_zaW) "answers"=some (some (.ref f_zag)))
  (i_zag:PySem.W.isFn K (.ref f_zag)=true)
  (l_zag:K.lookup f_zag=some ⟨oc_zag,od_zag,.func (W.fnOf "answers" "Asker.answers" (ZAN ZAz) (ZAJ ZAz) (ZAC ZAz) .none kV_zag dc_zag pm_zag an_zag cd_zag ct_zag),sl_zag⟩)
  (c_zag:W.codeIn K cd_zag "Asker.answers"=true)
  (k_zag:W.keepIn K (.ref f_zag)=true)
  (a_zaV:W.nsIn K mainGlobals "AskedRule"=some (some (.ref C_zaV)))
  (pg_zaV:PySem.W.plainGet K C_zaV Str.empty=true)
  (hd_zaV:PySem.W.hasDictIn K C_zaV=true)
  (po_zaV:PySem.W.plainOver K C_zaV=true)
  (sa_zaV:W.findIn K (.ref C_zaV) "__setattr__"=some (some (.builtin "object.__setattr__")))
  (mk_zaV:PySem.W.makesIn K C_zaV=true)
  (kc_zaV:W.keepIn K (.ref C_zaV)=true)
  (n_zaV_teller:W.findIn K (.ref C_zaV) "teller"=some none)
  (a_zad:W.findIn K (.ref C_zaV) "__init__"=some (some (.ref f_zad)))
  (i_zad:PySem.W.isFn K (.ref f_zad)=true)
  (l_zad:K.lookup f_zad=some ⟨oc_zad,od_zad,.func (W.fnOf "__init__" "AskedRule.__init__" (ZAN ZAu) (ZAJ ZAu) (ZAC ZAu) .none kV_zad dc_zad pm_zad an_zad cd_zad ct_zad),sl_zad⟩)
  (c_zad:W.codeIn K cd_zad "AskedRule.__init__"=true)
  (k_zad:W.keepIn K (.ref f_zad)=true)
  (a_zac:W.findIn K (.ref C_zaV) "before"=some (some (.ref f_zac)))
  (i_zac:PySem.W.isFn K (.ref f_zac)=true)
  (l_zac:K.lookup f_zac=some ⟨oc_zac,od_zac,.func (W.fnOf "before" "AskedRule.before" (ZAN ZAm) (ZAJ ZAm) (ZAC ZAm) .none kV_zac dc_zac pm_zac an_zac cd_zac ct_zac),sl_zac⟩)
  (c_zac:W.codeIn K cd_zac "AskedRule.before"=true)
  (k_zac:W.keepIn K (.ref f_zac)=true)
  (a_zal:W.nsIn K mainGlobals "stretch_from"=some (some (.ref f_zal)))
  (l_zal:K.lookup f_zal=some ⟨oc_zal,od_zal,.func (W.fnOf "stretch_from" "stretch_from" (ZAN ZA4) (ZAJ ZA4) (ZAC ZA4) (.ref T_zal) kV_zal dc_zal pm_zal an_zal cd_zal ct_zal),sl_zal⟩)
  (c_zal:W.codeIn K cd_zal "stretch_from"=true)
  (d_zal:K.lookup T_zal=some ⟨ocT_zal,odT_zal,.seq ([.none]:List Value).toArray nT_zal,slT_zal⟩)
  (k_zal:W.keepIn K (.ref f_zal)=true)
  (a_zaG:W.nsIn K mainGlobals "in_turn"=some (some (.ref f_zaG)))
  (l_zaG:K.lookup f_zaG=some ⟨oc_zaG,od_zaG,.func (W.fnOf "in_turn" "in_turn" (ZAN ZB5) (ZAJ ZB5) (ZAC ZB5) .none kV_zaG dc_zaG pm_zaG an_zaG cd_zaG ct_zaG),sl_zaG⟩)
  (c_zaG:W.codeIn K cd_zaG "in_turn"=true)
  (k_zaG:W.keepIn K (.ref f_zaG)=true)
  (a_zaC:W.nsIn K mainGlobals "spot_of"=some (some (.ref f_zaC)))
  (l_zaC:K.lookup f_zaC=some ⟨oc_zaC,od_zaC,.func (W.fnOf "spot_of" "spot_of" (ZAN ZB2) (ZAJ ZB2) (ZAC ZB2) .none kV_zaC dc_zaC pm_zaC an_zaC cd_zaC ct_zaC),sl_zaC⟩)
  (c_zaC:W.codeIn K cd_zaC "spot_of"=true)
  (k_zaC:W.keepIn K (.ref f_zaC)=true)
  (a_zaL:W.nsIn K mainGlobals "filled"=some (some (.ref f_zaL)))
  (l_zaL:K.lookup f_zaL=some ⟨oc_zaL,od_zaL,.func (W.fnOf "filled" "filled" (ZAN ZCY) (ZAJ ZCY) (ZAC ZCY) (.ref T_zaL) kV_zaL dc_zaL pm_zaL an_zaL cd_zaL ct_zaL),sl_zaL⟩)
  (c_zaL:W.codeIn K cd_zaL "filled"=true)
  (d_zaL:K.lookup T_zaL=some ⟨ocT_zaL,odT_zaL,.seq ([.none]:List Value).toArray nT_zaL,slT_zaL⟩)
  (k_zaL:W.keepIn K (.ref f_zaL)=true)
  (a_zaT:W.nsIn K mainGlobals "leap"=some (some (.ref f_zaT)))
  (l_zaT:K.lookup f_zaT=some ⟨oc_zaT,od_zaT,.func (W.fnOf "leap" "leap" (ZAN ZDm) (ZAJ ZDm) (ZAC ZDm) .none kV_zaT dc_zaT pm_zaT an_zaT cd_zaT ct_zaT),sl_zaT⟩)
  (c_zaT:W.codeIn K cd_zaT "leap"=true)
  (k_zaT:W.keepIn K (.ref f_zaT)=true)
  (a_zaH:W.nsIn K mainGlobals "joined"=some (some (.ref f_zaH)))
  (l_zaH:K.lookup f_zaH=some ⟨oc_zaH,od_zaH,.func (W.fnOf "joined" "joined" (ZAN ZCX) (ZAJ ZCX) (ZAC ZCX) .none kV_zaH dc_zaH pm_zaH an_zaH cd_zaH ct_zaH),sl_zaH⟩)
  (c_zaH:W.codeIn K cd_zaH "joined"=true)
  (k_zaH:W.keepIn K (.ref f_zaH)=true)
  (a_zaN:W.nsIn K mainGlobals "grade"=some (some (.ref f_zaN)))
  (l_zaN:K.lookup f_zaN=some ⟨oc_zaN,od_zaN,.func (W.fnOf "grade" "grade" (ZAN ZC8) (ZAJ ZC8) (ZAC ZC8) .none kV_zaN dc_zaN pm_zaN an_zaN cd_zaN ct_zaN),sl_zaN⟩)
  (c_zaN:W.codeIn K cd_zaN "grade"=true)
  (k_zaN:W.keepIn K (.ref f_zaN)=true)
  (a_zaD:W.nsIn K mainGlobals "_law_cell_at"=some (some (.ref f_zaD)))
  (l_zaD:K.lookup f_zaD=some ⟨oc_zaD,od_zaD,.func (W.fnOf "_law_cell_at" "_law_cell_at" (ZAN ZB6) (ZAJ ZB6) (ZAC ZB6) .none kV_zaD dc_zaD pm_zaD an_zaD cd_zaD ct_zaD),sl_zaD⟩)
  (c_zaD:W.codeIn K cd_zaD "_law_cell_at"=true)
  (k_zaD:W.keepIn K (.ref f_zaD)=true)
  (a_zaJ:W.nsIn K mainGlobals "_law_blocks"=some (some (.ref f_zaJ)))
  (l_zaJ:K.lookup f_zaJ=some ⟨oc_zaJ,od_zaJ,.func (W.fnOf "_law_blocks" "_law_blocks" (ZAN ZCZ) (ZAJ ZCZ) (ZAC ZCZ) .none kV_zaJ dc_zaJ pm_zaJ an_zaJ cd_zaJ ct_zaJ),sl_zaJ⟩)
  (c_zaJ:W.codeIn K cd_zaJ "_law_blocks"=true)
  (k_zaJ:W.keepIn K (.ref f_zaJ)=true)
  (a_zaF:W.nsIn K mainGlobals "_law_keys_by"=some (some (.ref f_zaF)))
  (l_zaF:K.lookup f_zaF=some ⟨oc_zaF,od_zaF,.func (W.fnOf "_law_keys_by" "_law_keys_by" (ZAN ZB4) (ZAJ ZB4) (ZAC ZB4) .none kV_zaF dc_zaF pm_zaF an_zaF cd_zaF ct_zaF),sl_zaF⟩)
  (c_zaF:W.codeIn K cd_zaF "_law_keys_by"=true)
  (k_zaF:W.keepIn K (.ref f_zaF)=true)
  (a_zaM:W.nsIn K mainGlobals "_law_row_by"=some (some (.ref f_zaM)))
  (l_zaM:K.lookup f_zaM=some ⟨oc_zaM,od_zaM,.func (W.fnOf "_law_row_by" "_law_row_by" (ZAN ZCW) (ZAJ ZCW) (ZAC ZCW) .none kV_zaM dc_zaM pm_zaM an_zaM cd_zaM ct_zaM),sl_zaM⟩)
  (c_zaM:W.codeIn K cd_zaM "_law_row_by"=true)
  (k_zaM:W.keepIn K (.ref f_zaM)=true)
  (a_zaA:W.nsIn K mainGlobals "straight"=some (some (.ref f_zaA)))
  (l_zaA:K.lookup f_zaA=some ⟨oc_zaA,od_zaA,.func (W.fnOf "straight" "straight" (ZAN ZBg) (ZAJ ZBg) (ZAC ZBg) .none kV_zaA dc_zaA pm_zaA an_zaA cd_zaA ct_zaA),sl_zaA⟩)
  (c_zaA:W.codeIn K cd_zaA "straight"=true)
  (k_zaA:W.keepIn K (.ref f_zaA)=true)
  (a_zaw:W.nsIn K mainGlobals "is_number"=some (some (.ref f_zaw)))
  (l_zaw:K.lookup f_zaw=some ⟨oc_zaw,od_zaw,.func (W.fnOf "is_number" "is_number" (ZAN ZBQ) (ZAJ ZBQ) (ZAC ZBQ) .none kV_zaw dc_zaw pm_zaw an_zaw cd_zaw ct_zaw),sl_zaw⟩)
  (c_zaw:W.codeIn K cd_zaw "is_number"=true)
  (k_zaw:W.keepIn K (.ref f_zaw)=true)
  (a_zay:W.nsIn K mainGlobals "is_paper"=some (some (.ref f_zay)))
  (l_zay:K.lookup f_zay=some ⟨oc_zay,od_zay,.func (W.fnOf "is_paper" "is_paper" (ZAN ZBi) (ZAJ ZBi) (ZAC ZBi) .none kV_zay dc_zay pm_zay an_zay cd_zay ct_zay),sl_zay⟩)
  (c_zay:W.codeIn K cd_zay "is_paper"=true)
  (k_zay:W.keepIn K (.ref f_zay)=true)
  (a_zan:W.nsIn K mainGlobals "check_paper"=some (some (.ref f_zan)))
  (l_zan:K.lookup f_zan=some ⟨oc_zan,od_zan,.func (W.fnOf "check_paper" "check_paper" (ZAN ZA9) (ZAJ ZA9) (ZAC ZA9) .none kV_zan dc_zan pm_zan an_zan cd_zan ct_zan),sl_zan⟩)
  (c_zan:W.codeIn K cd_zan "check_paper"=true)
  (k_zan:W.keepIn K (.ref f_zan)=true)
  (a_zaS:W.nsIn K mainGlobals "back"=some (some (.ref f_zaS)))
  (l_zaS:K.lookup f_zaS=some ⟨oc_zaS,od_zaS,.func (W.fnOf "back" "back" (ZAN ZDo) (ZAJ ZDo) (ZAC ZDo) .none kV_zaS dc_zaS pm_zaS an_zaS cd_zaS ct_zaS),sl_zaS⟩)
  (c_zaS:W.codeIn K cd_zaS "back"=true)
  (k_zaS:W.keepIn K (.ref f_zaS)=true)
  (a_zaK:W.nsIn K mainGlobals "agrees"=some (some (.ref f_zaK)))
  (l_zaK:K.lookup f_zaK=some ⟨oc_zaK,od_zaK,.func (W.fnOf "agrees" "agrees" (ZAN ZCa) (ZAJ ZCa) (ZAC ZCa) .none kV_zaK dc_zaK pm_zaK an_zaK cd_zaK ct_zaK),sl_zaK⟩)
  (c_zaK:W.codeIn K cd_zaK "agrees"=true)
  (k_zaK:W.keepIn K (.ref f_zaK)=true)
  (a_zaO:W.nsIn K mainGlobals "shows"=some (some (.ref f_zaO)))
  (l_zaO:K.lookup f_zaO=some ⟨oc_zaO,od_zaO,.func (W.fnOf "shows" "shows" (ZAN ZC7) (ZAJ ZC7) (ZAC ZC7) .none kV_zaO dc_zaO pm_zaO an_zaO cd_zaO ct_zaO),sl_zaO⟩)
  (c_zaO:W.codeIn K cd_zaO "shows"=true)
  (k_zaO:W.keepIn K (.ref f_zaO)=true)
  (a_zaE:W.nsIn K mainGlobals "_law_part_by"=some (some (.ref f_zaE)))
  (l_zaE:K.lookup f_zaE=some ⟨oc_zaE,od_zaE,.func (W.fnOf "_law_part_by" "_law_part_by" (ZAN ZB3) (ZAJ ZB3) (ZAC ZB3) .none kV_zaE dc_zaE pm_zaE an_zaE cd_zaE ct_zaE),sl_zaE⟩)
  (c_zaE:W.codeIn K cd_zaE "_law_part_by"=true)
  (k_zaE:W.keepIn K (.ref f_zaE)=true)
  (a_zaR:W.nsIn K mainGlobals "_law_pile"=some (some (.ref f_zaR)))
  (l_zaR:K.lookup f_zaR=some ⟨oc_zaR,od_zaR,.func (W.fnOf "_law_pile" "_law_pile" (ZAN ZDl) (ZAJ ZDl) (ZAC ZDl) .none kV_zaR dc_zaR pm_zaR an_zaR cd_zaR ct_zaR),sl_zaR⟩)
  (c_zaR:W.codeIn K cd_zaR "_law_pile"=true)
  (k_zaR:W.keepIn K (.ref f_zaR)=true)
  (a_zax:W.nsIn K mainGlobals "_law_least_by"=some (some (.ref f_zax)))
  (l_zax:K.lookup f_zax=some ⟨oc_zax,od_zax,.func (W.fnOf "_law_least_by" "_law_least_by" (ZAN ZBh) (ZAJ ZBh) (ZAC ZBh) .none kV_zax dc_zax pm_zax an_zax cd_zax ct_zax),sl_zax⟩)
  (c_zax:W.codeIn K cd_zax "_law_least_by"=true)
  (k_zax:W.keepIn K (.ref f_zax)=true)
  (a_zaQ:W.nsIn K mainGlobals "_law_good"=some (some (.ref f_zaQ)))
  (l_zaQ:K.lookup f_zaQ=some ⟨oc_zaQ,od_zaQ,.func (W.fnOf "_law_good" "_law_good" (ZAN ZDn) (ZAJ ZDn) (ZAC ZDn) .none kV_zaQ dc_zaQ pm_zaQ an_zaQ cd_zaQ ct_zaQ),sl_zaQ⟩)
  (c_zaQ:W.codeIn K cd_zaQ "_law_good"=true)
  (k_zaQ:W.keepIn K (.ref f_zaQ)=true)
  (a_zaP:W.nsIn K mainGlobals "_law_asked"=some (some (.ref f_zaP)))
  (l_zaP:K.lookup f_zaP=some ⟨oc_zaP,od_zaP,.func (W.fnOf "_law_asked" "_law_asked" (ZAN ZC9) (ZAJ ZC9) (ZAC ZC9) .none kV_zaP dc_zaP pm_zaP an_zaP cd_zaP ct_zaP),sl_zaP⟩)
  (c_zaP:W.codeIn K cd_zaP "_law_asked"=true)
  (k_zaP:W.keepIn K (.ref f_zaP)=true)
  (a_zaU:W.nsIn K mainGlobals "law"=some (some (.ref f_zaU)))
  (l_zaU:K.lookup f_zaU=some ⟨oc_zaU,od_zaU,.func (W.fnOf "law" "law" (ZAN ZEA) (ZAJ ZEA) (ZAC ZEA) .none kV_zaU dc_zaU pm_zaU an_zaU cd_zaU ct_zaU),sl_zaU⟩)
  (c_zaU:W.codeIn K cd_zaU "law"=true)
  (k_zaU:W.keepIn K (.ref f_zaU)=true)
  (a_zaI:W.nsIn K mainGlobals "_law_teller"=some (some (.ref f_zaI)))
  (l_zaI:K.lookup f_zaI=some ⟨oc_zaI,od_zaI,.func (W.fnOf "_law_teller" "_law_teller" (ZAN ZCA) (ZAJ ZCA) (ZAC ZCA) .none kV_zaI dc_zaI pm_zaI an_zaI (.ref cc_zaI) ct_zaI),sl_zaI⟩)
  (c_zaI:W.codeIn K (.ref cc_zaI) "_law_teller"=true)
  (lc_zaI:K.lookup cc_zaI=some ⟨oc2_zaI,od2_zaI,.fields vs_zaI,sl2_zaI⟩)
  (tp_zaI:vs_zaI[11]?=some (.ref Pt_zaI))
  (k_zaI:W.keepIn K (.ref f_zaI)=true)
  (z_LEFT:W.nsIn K mainGlobals "LEFT"=some (some (.int 0 t_LEFT)))
  (z_RIGHT:W.nsIn K mainGlobals "RIGHT"=some (some (.int 1 t_RIGHT)))
  (z_WINS_TO_LEAP:W.nsIn K mainGlobals "WINS_TO_LEAP"=some (some (.int 4 t_WINS_TO_LEAP)))
  (z_len:W.nsIn K mainGlobals "len"=some none)
  (z_range:W.nsIn K mainGlobals "range"=some none)
  (z_list:W.nsIn K mainGlobals "list"=some none)
  (z_isinstance:W.nsIn K mainGlobals "isinstance"=some none)
  (z_bool:W.nsIn K mainGlobals "bool"=some none)
  (z_int:W.nsIn K mainGlobals "int"=some none)
  (z_max:W.nsIn K mainGlobals "max"=some none)
  (z_min:W.nsIn K mainGlobals "min"=some none)
  (z_abs:W.nsIn K mainGlobals "abs"=some none)
  (z_all:W.nsIn K mainGlobals "all"=some none)
  (z_sorted:W.nsIn K mainGlobals "sorted"=some none)
  (z_enumerate:W.nsIn K mainGlobals "enumerate"=some none)
  (z_zip:W.nsIn K mainGlobals "zip"=some none)
  (z_dict:W.nsIn K mainGlobals "dict"=some none)
  (z_ValueError:W.nsIn K mainGlobals "ValueError"=some none)
  (kit_int_bool:PySem.W.kitOne K (.type "int") (.type "bool")=some false)
  (nt:PySem.W.noTabs K=true) :
  ∃ (tabs:List (Addr×Addr)) (fd:FuncData),PySem.W.noTabs K=true /\ (∀ t∈tabs,∃ y∈(["_law_teller"]:List Str),PySem.W.tabIn K y=some t) /\ (∀ (s:Shared) (v:Value),BindsTo s fd ⟨[v],[]⟩ [("_law_script",v)]) /\ ∀ base:Heap,K.In base->base.Ns mainGlobals mg->(∀ t∈tabs,PySem.W.CodeHd base t.1 t.2)->ZEa mg base->FnOk l.prog w K mg base CX0 9 fa fd ["_law_script"] (ZFO K tabs):=by
 have e:=hfa.symm.trans (PySem.W.mg_of X G a_zaU)
 cases e
 have cl_zaY:Cls K C_zaY:=⟨pg_zaY,hd_zaY,po_zaY,sa_zaY⟩
 have F_zav:=ZAd (st:=ZBT) l_zav c_zav k_zav
 have b_zav:=F_zav.binds (ps:=["self","asker","left","right"]) fun _ _ _ _ _ _ us hl=>by obtain ⟨_,_,_,_,rfl⟩:=us4 hl;rfl
 have F_zah:=ZAd (st:=ZAy) l_zah c_zah k_zah
 have b_zah:=F_zah.binds (ps:=["self","side"]) fun _ _ _ _ _ _ us hl=>by obtain ⟨_,_,rfl⟩:=us2 hl;rfl
 have F_zaq:=ZAd (st:=ZBF) l_zaq c_zaq k_zaq
 have b_zaq:=F_zaq.binds (ps:=["self","side"]) fun _ _ _ _ _ _ us hl=>by obtain ⟨_,_,rfl⟩:=us2 hl;rfl
 have F_zak:=ZAd (st:=ZA5) l_zak c_zak k_zak
 have b_zak:=F_zak.binds (ps:=["self","side","more"]) fun _ _ _ _ _ _ us hl=>by obtain ⟨_,_,_,rfl⟩:=us3 hl;rfl
 have F_zaf:=ZAd (st:=ZAt) l_zaf c_zaf k_zaf
 have b_zaf:=F_zaf.binds (ps:=["self","side"]) fun _ _ _ _ _ _ us hl=>by obtain ⟨_,_,rfl⟩:=us2 hl;rfl
 have F_zaz:=ZAd (st:=ZBk) l_zaz c_zaz k_zaz
 have b_zaz:=F_zaz.binds (ps:=["self"]) fun _ _ _ _ _ _ us hl=>by obtain ⟨_,rfl⟩:=us1 hl;rfl
 have F_zam:=ZAd (st:=ZA6) l_zam c_zam k_zam
 have b_zam:=F_zam.binds (ps:=["self","side"]) fun _ _ _ _ _ _ us hl=>by obtain ⟨_,_,rfl⟩:=us2 hl;rfl
 have cl_zaX:Cls K C_zaX:=⟨pg_zaX,hd_zaX,po_zaX,sa_zaX⟩
 have F_zat:=ZEI (st:=ZBS) l_zat c_zat k_zat d_zat
 have b_zat_4:=F_zat.binds (ps:=["self","asker","least","part"]) (ds:=[]) fun _ _ _ _ _ _ _ us hl=>by obtain ⟨_,_,_,_,rfl⟩:=us4 (ZCq (n:=4) hl rfl);exact ⟨_,rfl,rfl⟩
 have b_zat_3:=F_zat.binds (ps:=["self","asker","least","part"]) (ds:=[.none]) fun _ _ _ _ _ _ _ us hl=>by obtain ⟨_,_,_,rfl⟩:=us3 (ZCq (n:=3) hl rfl);exact ⟨_,rfl,rfl⟩
 have b_zat_2:=F_zat.binds (ps:=["self","asker","least","part"]) (ds:=[.int 1 td_zat_0,.none]) fun _ _ _ _ _ _ _ us hl=>by obtain ⟨_,_,rfl⟩:=us2 (ZCq (n:=2) hl rfl);exact ⟨_,rfl,rfl⟩
 have F_zae:=ZAd (st:=ZAs) l_zae c_zae k_zae
 have b_zae:=F_zae.binds (ps:=["self","number"]) fun _ _ _ _ _ _ us hl=>by obtain ⟨_,_,rfl⟩:=us2 hl;rfl
 have F_zaa:=ZAd (st:=ZAe) l_zaa c_zaa k_zaa
 have b_zaa:=F_zaa.binds (ps:=["self"]) fun _ _ _ _ _ _ us hl=>by obtain ⟨_,rfl⟩:=us1 hl;rfl
 have F_zab:=ZAd (st:=ZAi) l_zab c_zab k_zab
 have b_zab:=F_zab.binds (ps:=["self","middle","beyond"]) fun _ _ _ _ _ _ us hl=>by obtain ⟨_,_,_,rfl⟩:=us3 hl;rfl
 have F_zaj:=ZAd (st:=ZAx) l_zaj c_zaj k_zaj
 have b_zaj:=F_zaj.binds (ps:=["self","lower"]) fun _ _ _ _ _ _ us hl=>by obtain ⟨_,_,rfl⟩:=us2 hl;rfl
 have F_zaB:=ZAd (st:=ZBj) l_zaB c_zaB k_zaB
 have b_zaB:=F_zaB.binds (ps:=["self"]) fun _ _ _ _ _ _ us hl=>by obtain ⟨_,rfl⟩:=us1 hl;rfl
 have F_zau:=ZAd (st:=ZBR) l_zau c_zau k_zau
 have b_zau:=F_zau.binds (ps:=["self"]) fun _ _ _ _ _ _ us hl=>by obtain ⟨_,rfl⟩:=us1 hl;rfl
 have F_zas:=ZAd (st:=ZBE) l_zas c_zas k_zas
 have b_zas:=F_zas.binds (ps:=["self"]) fun _ _ _ _ _ _ us hl=>by obtain ⟨_,rfl⟩:=us1 hl;rfl
 have F_zai:=ZAd (st:=ZAw) l_zai c_zai k_zai
 have b_zai:=F_zai.binds (ps:=["self"]) fun _ _ _ _ _ _ us hl=>by obtain ⟨_,rfl⟩:=us1 hl;rfl
 have cl_zaW:Cls K C_zaW:=⟨pg_zaW,hd_zaW,po_zaW,sa_zaW⟩
 have F_zap:=ZEI (st:=ZBH) l_zap c_zap k_zap d_zap
 have b_zap_4:=F_zap.binds (ps:=["self","row","rule","most"]) (ds:=[]) fun _ _ _ _ _ _ _ us hl=>by obtain ⟨_,_,_,_,rfl⟩:=us4 (ZCq (n:=4) hl rfl);exact ⟨_,rfl,rfl⟩
 have b_zap_3:=F_zap.binds (ps:=["self","row","rule","most"]) (ds:=[.none]) fun _ _ _ _ _ _ _ us hl=>by obtain ⟨_,_,_,rfl⟩:=us3 (ZCq (n:=3) hl rfl);exact ⟨_,rfl,rfl⟩
 have F_zar:=ZAd (st:=ZBG) l_zar c_zar k_zar
 have b_zar:=F_zar.binds (ps:=["self"]) fun _ _ _ _ _ _ us hl=>by obtain ⟨_,rfl⟩:=us1 hl;rfl
 have F_zao:=ZAd (st:=ZBA) l_zao c_zao k_zao
 have b_zao:=F_zao.binds (ps:=["self","p","q"]) fun _ _ _ _ _ _ us hl=>by obtain ⟨_,_,_,rfl⟩:=us3 hl;rfl
 have F_zag:=ZAd (st:=ZAz) l_zag c_zag k_zag
 have b_zag:=F_zag.binds (ps:=["self"]) fun _ _ _ _ _ _ us hl=>by obtain ⟨_,rfl⟩:=us1 hl;rfl
 have cl_zaV:Cls K C_zaV:=⟨pg_zaV,hd_zaV,po_zaV,sa_zaV⟩
 have F_zad:=ZAd (st:=ZAu) l_zad c_zad k_zad
 have b_zad:=F_zad.binds (ps:=["self","teller"]) fun _ _ _ _ _ _ us hl=>by obtain ⟨_,_,rfl⟩:=us2 hl;rfl
 have F_zac:=ZAd (st:=ZAm) l_zac c_zac k_zac
 have b_zac:=F_zac.binds (ps:=["self","x","y"]) fun _ _ _ _ _ _ us hl=>by obtain ⟨_,_,_,rfl⟩:=us3 hl;rfl
 have F_zal:=ZEI (st:=ZA4) l_zal c_zal k_zal d_zal
 have b_zal_3:=F_zal.binds (ps:=["asker","first","end"]) (ds:=[]) fun _ _ _ _ _ _ _ us hl=>by obtain ⟨_,_,_,rfl⟩:=us3 (ZCq (n:=3) hl rfl);exact ⟨_,rfl,rfl⟩
 have b_zal_2:=F_zal.binds (ps:=["asker","first","end"]) (ds:=[.none]) fun _ _ _ _ _ _ _ us hl=>by obtain ⟨_,_,rfl⟩:=us2 (ZCq (n:=2) hl rfl);exact ⟨_,rfl,rfl⟩
 have F_zaG:=ZAd (st:=ZB5) l_zaG c_zaG k_zaG
 have b_zaG:=F_zaG.binds (ps:=["first","beyond","falling"]) fun _ _ _ _ _ _ us hl=>by obtain ⟨_,_,_,rfl⟩:=us3 hl;rfl
 have F_zaC:=ZAd (st:=ZB2) l_zaC c_zaC k_zaC
 have b_zaC:=F_zaC.binds (ps:=["asker","order","place"]) fun _ _ _ _ _ _ us hl=>by obtain ⟨_,_,_,rfl⟩:=us3 hl;rfl
 have F_zaL:=ZEI (st:=ZCY) l_zaL c_zaL k_zaL d_zaL
 have b_zaL_4:=F_zaL.binds (ps:=["asker","first","least","end"]) (ds:=[]) fun _ _ _ _ _ _ _ us hl=>by obtain ⟨_,_,_,_,rfl⟩:=us4 (ZCq (n:=4) hl rfl);exact ⟨_,rfl,rfl⟩
 have b_zaL_3:=F_zaL.binds (ps:=["asker","first","least","end"]) (ds:=[.none]) fun _ _ _ _ _ _ _ us hl=>by obtain ⟨_,_,_,rfl⟩:=us3 (ZCq (n:=3) hl rfl);exact ⟨_,rfl,rfl⟩
 have F_zaT:=ZAd (st:=ZDm) l_zaT c_zaT k_zaT
 have b_zaT:=F_zaT.binds (ps:=["asker","order","first","place"]) fun _ _ _ _ _ _ us hl=>by obtain ⟨_,_,_,_,rfl⟩:=us4 hl;rfl
 have F_zaH:=ZAd (st:=ZCX) l_zaH c_zaH k_zaH
 have b_zaH:=F_zaH.binds (ps:=["asker","left","right"]) fun _ _ _ _ _ _ us hl=>by obtain ⟨_,_,_,rfl⟩:=us3 hl;rfl
 have F_zaN:=ZAd (st:=ZC8) l_zaN c_zaN k_zaN
 have b_zaN:=F_zaN.binds (ps:=["many","first","middle","beyond"]) fun _ _ _ _ _ _ us hl=>by obtain ⟨_,_,_,_,rfl⟩:=us4 hl;rfl
 have F_zaD:=ZAd (st:=ZB6) l_zaD c_zaD k_zaD
 have b_zaD:=F_zaD.binds (ps:=["_law_script","_law_k"]) fun _ _ _ _ _ _ us hl=>by obtain ⟨_,_,rfl⟩:=us2 hl;rfl
 have F_zaJ:=ZAd (st:=ZCZ) l_zaJ c_zaJ k_zaJ
 have b_zaJ:=F_zaJ.binds (ps:=["_law_keys","_law_one","_law_two"]) fun _ _ _ _ _ _ us hl=>by obtain ⟨_,_,_,rfl⟩:=us3 hl;rfl
 have F_zaF:=ZAd (st:=ZB4) l_zaF c_zaF k_zaF
 have b_zaF:=F_zaF.binds (ps:=["_law_script","_law_many","_law_most"]) fun _ _ _ _ _ _ us hl=>by obtain ⟨_,_,_,rfl⟩:=us3 hl;rfl
 have F_zaM:=ZAd (st:=ZCW) l_zaM c_zaM k_zaM
 have b_zaM:=F_zaM.binds (ps:=["_law_script"]) fun _ _ _ _ _ _ us hl=>by obtain ⟨_,rfl⟩:=us1 hl;rfl
 have F_zaA:=ZAd (st:=ZBg) l_zaA c_zaA k_zaA
 have b_zaA:=F_zaA.binds (ps:=["many"]) fun _ _ _ _ _ _ us hl=>by obtain ⟨_,rfl⟩:=us1 hl;rfl
 have F_zaw:=ZAd (st:=ZBQ) l_zaw c_zaw k_zaw
 have b_zaw:=F_zaw.binds (ps:=["some"]) fun _ _ _ _ _ _ us hl=>by obtain ⟨_,rfl⟩:=us1 hl;rfl
 have F_zay:=ZAd (st:=ZBi) l_zay c_zay k_zay
 have b_zay:=F_zay.binds (ps:=["some"]) fun _ _ _ _ _ _ us hl=>by obtain ⟨_,rfl⟩:=us1 hl;rfl
 have F_zan:=ZAd (st:=ZA9) l_zan c_zan k_zan
 have b_zan:=F_zan.binds (ps:=["some","many"]) fun _ _ _ _ _ _ us hl=>by obtain ⟨_,_,rfl⟩:=us2 hl;rfl
 have F_zaS:=ZAd (st:=ZDo) l_zaS c_zaS k_zaS
 have b_zaS:=F_zaS.binds (ps:=["paper"]) fun _ _ _ _ _ _ us hl=>by obtain ⟨_,rfl⟩:=us1 hl;rfl
 have F_zaK:=ZAd (st:=ZCa) l_zaK c_zaK k_zaK
 have b_zaK:=F_zaK.binds (ps:=["paper","answers"]) fun _ _ _ _ _ _ us hl=>by obtain ⟨_,_,rfl⟩:=us2 hl;rfl
 have F_zaO:=ZAd (st:=ZC7) l_zaO c_zaO k_zaO
 have b_zaO:=F_zaO.binds (ps:=["paper","answers"]) fun _ _ _ _ _ _ us hl=>by obtain ⟨_,_,rfl⟩:=us2 hl;rfl
 have F_zaE:=ZAd (st:=ZB3) l_zaE c_zaE k_zaE
 have b_zaE:=F_zaE.binds (ps:=["_law_cell","_law_many"]) fun _ _ _ _ _ _ us hl=>by obtain ⟨_,_,rfl⟩:=us2 hl;rfl
 have F_zaR:=ZAd (st:=ZDl) l_zaR c_zaR k_zaR
 have b_zaR:=F_zaR.binds (ps:=["_law_asker","_law_least","_law_bounds"]) fun _ _ _ _ _ _ us hl=>by obtain ⟨_,_,_,rfl⟩:=us3 hl;rfl
 have F_zax:=ZAd (st:=ZBh) l_zax c_zax k_zax
 have b_zax:=F_zax.binds (ps:=["_law_cell"]) fun _ _ _ _ _ _ us hl=>by obtain ⟨_,rfl⟩:=us1 hl;rfl
 have F_zaQ:=ZAd (st:=ZDn) l_zaQ c_zaQ k_zaQ
 have b_zaQ:=F_zaQ.binds (ps:=["_law_found","_law_stands","_law_row","_law_low","_law_end"]) fun _ _ _ _ _ _ us hl=>by obtain ⟨_,_,_,_,_,rfl⟩:=us5 hl;rfl
 have F_zaP:=ZAd (st:=ZC9) l_zaP c_zaP k_zaP
 have b_zaP:=F_zaP.binds (ps:=["_law_paper","_law_written"]) fun _ _ _ _ _ _ us hl=>by obtain ⟨_,_,rfl⟩:=us2 hl;rfl
 have F_zaU:=ZAd (st:=ZEA) l_zaU c_zaU k_zaU
 have b_zaU:=F_zaU.binds (ps:=["_law_script"]) fun _ _ _ _ _ _ us hl=>by obtain ⟨_,rfl⟩:=us1 hl;rfl
 have F_zaI:=ZAd (st:=ZCA) l_zaI c_zaI k_zaI
 have b_zaI:=F_zaI.binds (ps:=["_law_written"]) fun _ _ _ _ _ _ us hl=>by obtain ⟨_,rfl⟩:=us1 hl;rfl
 have T:Bt K mg C_zaY C_zaX C_zaW C_zaV:=⟨PySem.W.mg_none_of X G z_len,PySem.W.mg_none_of X G z_range,PySem.W.mg_none_of X G z_list,PySem.W.mg_none_of X G z_isinstance,PySem.W.mg_none_of X G z_bool,PySem.W.mg_none_of X G z_int,PySem.W.mg_none_of X G z_max,PySem.W.mg_none_of X G z_min,PySem.W.mg_none_of X G z_abs,PySem.W.mg_none_of X G z_all,PySem.W.mg_none_of X G z_sorted,PySem.W.mg_none_of X G z_enumerate,PySem.W.mg_none_of X G z_zip,PySem.W.mg_none_of X G z_dict,PySem.W.mg_none_of X G z_ValueError,⟨_,PySem.W.mg_of X G z_LEFT⟩,⟨_,PySem.W.mg_of X G z_RIGHT⟩,⟨_,PySem.W.mg_of X G z_WINS_TO_LEAP⟩,PySem.W.mg_of X G a_zaY,cl_zaY,n_zaY_asker,n_zaY_sides,n_zaY_taken,n_zaY_places,PySem.W.mg_of X G a_zaX,cl_zaX,n_zaX_asker,n_zaX_least,n_zaX_start,n_zaX_end,n_zaX_reached,n_zaX_firsts,n_zaX_orders,n_zaX_grades,PySem.W.mg_of X G a_zaW,cl_zaW,n_zaW_row,n_zaW_rule,n_zaW_most,n_zaW_asked,n_zaW_told,PySem.W.mg_of X G a_zaV,cl_zaV,n_zaV_teller,kit_int_bool⟩
 refine ⟨[(cc_zaI,Pt_zaI)],W.fnOf "law" "law" (ZAN ZEA) (ZAJ ZEA) (ZAC ZEA) .none kV_zaU dc_zaU pm_zaU an_zaU cd_zaU ct_zaU,nt,List.forall_mem_cons.mpr ⟨⟨"_law_teller",by simp,tabIn_of a_zaI l_zaI rfl lc_zaI tp_zaI⟩,fun _ h=>nomatch h⟩,fun s v=>.of_eq rfl,fun base _ _ hC hB=>?_⟩
 have f_zaD':Fn l.prog w K mg base CX0 "_law_cell_at" 1 ["_law_script","_law_k"] (ZEU K):=⟨_,_,ok_cell_at F_zaD T ,b_zaD,k_zaD,PySem.W.mg_of X G a_zaD⟩
 have f_zaF':Fn l.prog w K mg base CX0 "_law_keys_by" 2 ["_law_script","_law_many","_law_most"] (ZD2 K):=⟨_,_,ok_keys_by F_zaF T f_zaD',b_zaF,k_zaF,PySem.W.mg_of X G a_zaF⟩
 have f_zaJ':Fn l.prog w K mg base CX0 "_law_blocks" 1 ["_law_keys","_law_one","_law_two"] (ZF0):=⟨_,_,ok_blocks F_zaJ T ,b_zaJ,k_zaJ,PySem.W.mg_of X G a_zaJ⟩
 have f_zaM':Fn l.prog w K mg base CX0 "_law_row_by" 3 ["_law_script"] (ZEg K):=⟨_,_,ok_row_by F_zaM T f_zaF' f_zaD' f_zaJ',b_zaM,k_zaM,PySem.W.mg_of X G a_zaM⟩
 have f_zaE':Fn l.prog w K mg base CX0 "_law_part_by" 1 ["_law_cell","_law_many"] (ZD0):=⟨_,_,ok_part_by F_zaE T ,b_zaE,k_zaE,PySem.W.mg_of X G a_zaE⟩
 have t_Asker_many':Mt l.prog w K mg base CX0 C_zaW "many" 1 ["self"] (ZET C_zaW):=⟨cl_zaW,_,_,ok_Asker_many F_zar T ,b_zar,a_zar,i_zar,k_zar⟩
 have k_zaX_3':KlD l.prog w K mg base CX0 "Pile" C_zaX 2 ["self","asker","least","part"] (ZA3 C_zaW C_zaX) [.non]:=⟨PySem.W.mg_of X G a_zaX,_,_,_,ZBv F_zat T t_Asker_many',b_zat_3,(.cons rfl .nil),mk_zaX,a_zat,i_zat,kc_zaX⟩
 have k_Pile_kw':KlK l.prog w K mg base CX0 "Pile" C_zaX 2 ["self","asker","least","part"] (ZA3 C_zaW C_zaX) "part" (.int 1):=⟨PySem.W.mg_of X G a_zaX,_,_,_,ZBv F_zat T t_Asker_many',F_zat.kbinds (d:=.int 1 td_zat_0) ⟨_,rfl⟩ rfl (fun _ _ _ _ _ _ _ _ _ _=>⟨_,rfl,rfl⟩),mk_zaX,a_zat,i_zat,kc_zaX⟩
 have k_zaX':Kl l.prog w K mg base CX0 "Pile" C_zaX 2 ["self","asker","least","part"] (ZA3 C_zaW C_zaX):=⟨PySem.W.mg_of X G a_zaX,_,_,ZBv F_zat T t_Asker_many',b_zat_4,mk_zaX,a_zat,i_zat,kc_zaX⟩
 have k_zaX_2':KlD l.prog w K mg base CX0 "Pile" C_zaX 2 ["self","asker","least","part"] (ZA3 C_zaW C_zaX) [.int 1,.non]:=⟨PySem.W.mg_of X G a_zaX,_,_,_,ZBv F_zat T t_Asker_many',b_zat_2,(.cons ⟨_,rfl⟩ (.cons rfl .nil)),mk_zaX,a_zat,i_zat,kc_zaX⟩
 have f_zaR':Fn l.prog w K mg base CX0 "_law_pile" 4 ["_law_asker","_law_least","_law_bounds"] (ZDz C_zaW C_zaX):=⟨_,_,ok_pile F_zaR T k_zaX_3' k_Pile_kw' k_zaX' k_zaX_2',b_zaR,k_zaR,PySem.W.mg_of X G a_zaR⟩
 have f_zax':Fn l.prog w K mg base CX0 "_law_least_by" 1 ["_law_cell"] (ZDU):=⟨_,_,ok_least_by F_zax T ,b_zax,k_zax,PySem.W.mg_of X G a_zax⟩
 have f_zaI':Fn l.prog w K mg base CX0 "_law_teller" 1 ["_law_written"] (ZEv Pt_zaI (ZEY ZAO) "_law_ask" "_law_teller.<locals>._law_ask" (ZAN ZAO) (ZAJ ZAO) (ZAC ZAO) ["_law_written"] [0] 1):=⟨_,_,ok_teller F_zaI rfl (hC (cc_zaI,Pt_zaI) (by simp)) hB,b_zaI,k_zaI,PySem.W.mg_of X G a_zaI⟩
 have f_zaQ':Fn l.prog w K mg base CX0 "_law_good" 1 ["_law_found","_law_stands","_law_row","_law_low","_law_end"] (ZD5 K):=⟨_,_,ok_good F_zaQ T ,b_zaQ,k_zaQ,PySem.W.mg_of X G a_zaQ⟩
 have f_zaP':Fn l.prog w K mg base CX0 "_law_asked" 1 ["_law_paper","_law_written"] (ZDX):=⟨_,_,ok_asked F_zaP T ,b_zaP,k_zaP,PySem.W.mg_of X G a_zaP⟩
 have f_zaA':Fn l.prog w K mg base CX0 "straight" 1 ["many"] (ZCU):=⟨_,_,ok_straight F_zaA T ,b_zaA,k_zaA,PySem.W.mg_of X G a_zaA⟩
 have f_zaw':Fn l.prog w K mg base CX0 "is_number" 1 ["some"] (ZC6):=⟨_,_,ok_is_number F_zaw T ,b_zaw,k_zaw,PySem.W.mg_of X G a_zaw⟩
 have f_zay':Fn l.prog w K mg base CX0 "is_paper" 2 ["some"] (ZDW):=⟨_,_,ok_is_paper F_zay T f_zaA' f_zaw',b_zay,k_zay,PySem.W.mg_of X G a_zay⟩
 have f_zan':Fn l.prog w K mg base CX0 "check_paper" 3 ["some","many"] (ZCO):=⟨_,_,ok_check_paper F_zan T f_zay',b_zan,k_zan,PySem.W.mg_of X G a_zan⟩
 have f_zaS':Fn l.prog w K mg base CX0 "back" 4 ["paper"] (ZFP):=⟨_,_,ok_back F_zaS T f_zan' f_zaA',b_zaS,k_zaS,PySem.W.mg_of X G a_zaS⟩
 have f_zaK':Fn l.prog w K mg base CX0 "agrees" 5 ["paper","answers"] (ZD8):=⟨_,_,ok_agrees F_zaK T f_zaS',b_zaK,k_zaK,PySem.W.mg_of X G a_zaK⟩
 have f_zaO':Fn l.prog w K mg base CX0 "shows" 6 ["paper","answers"] (ZEf):=⟨_,_,ok_shows F_zaO T f_zaK',b_zaO,k_zaO,PySem.W.mg_of X G a_zaO⟩
 have t_Pile_beyond_of':Mt l.prog w K mg base CX0 C_zaX "beyond_of" 1 ["self","number"] (ZCV C_zaX):=⟨cl_zaX,_,_,ok_Pile_beyond_of F_zae T ,b_zae,a_zae,i_zae,k_zae⟩
 have t_Pile_standing':Mt l.prog w K mg base CX0 C_zaX "standing" 2 ["self"] (ZC4 C_zaX):=⟨cl_zaX,_,_,ok_Pile_standing F_zai T t_Pile_beyond_of',b_zai,a_zai,i_zai,k_zai⟩
 have t_Pile_paper':Mt l.prog w K mg base CX0 C_zaX "paper" 1 ["self"] (ZEh C_zaX):=⟨cl_zaX,_,_,ok_Pile_paper F_zas T ,b_zas,a_zas,i_zas,k_zas⟩
 have t_Pile_is_due_beneath':Mt l.prog w K mg base CX0 C_zaX "is_due_beneath" 1 ["self"] (ZFz C_zaX):=⟨cl_zaX,_,_,ok_Pile_is_due_beneath F_zaa T ,b_zaa,a_zaa,i_zaa,k_zaa⟩
 have t_Join_take_on':Mt l.prog w K mg base CX0 C_zaY "take_on" 1 ["self","side","more"] (ZCs C_zaY):=⟨cl_zaY,_,_,ok_Join_take_on F_zak T ,b_zak,a_zak,i_zak,k_zak⟩
 have t_Join_take_rest':Mt l.prog w K mg base CX0 C_zaY "take_rest" 2 ["self","side"] (ZC2 C_zaY):=⟨cl_zaY,_,_,ok_Join_take_rest F_zaf T t_Join_take_on',b_zaf,a_zaf,i_zaf,k_zaf⟩
 have t_Join_has_more':Mt l.prog w K mg base CX0 C_zaY "has_more" 1 ["self","side"] (ZCt C_zaY):=⟨cl_zaY,_,_,ok_Join_has_more F_zah T ,b_zah,a_zah,i_zah,k_zah⟩
 have clo_teller':CloOk l.prog w K mg base 1 (ZBU):=clo_teller T
 have t_AskedRule_before':Mt l.prog w K mg base CX0 C_zaV "before" 2 ["self","x","y"] (ZDL C_zaV ZBU):=⟨cl_zaV,_,_,ok_AskedRule_before F_zac T clo_teller',b_zac,a_zac,i_zac,k_zac⟩
 have t_Asker_ahead':Mt l.prog w K mg base CX0 C_zaW "ahead" 3 ["self","p","q"] (ZCj C_zaW C_zaV ZBU):=⟨cl_zaW,_,_,ok_Asker_ahead F_zao T t_AskedRule_before',b_zao,a_zao,i_zao,k_zao⟩
 have t_Join_front':Mt l.prog w K mg base CX0 C_zaY "front" 1 ["self","side"] (ZD6 C_zaY):=⟨cl_zaY,_,_,ok_Join_front F_zaq T ,b_zaq,a_zaq,i_zaq,k_zaq⟩
 have t_Join_win':Mt l.prog w K mg base CX0 C_zaY "win" 4 ["self"] (ZFx C_zaW C_zaV C_zaY):=⟨cl_zaY,_,_,ok_Join_win F_zaz T t_Join_take_on' t_Asker_ahead' t_Join_front',b_zaz,a_zaz,i_zaz,k_zaz⟩
 have f_zaT':Fn l.prog w K mg base CX0 "leap" 4 ["asker","order","first","place"] (ZFN C_zaW C_zaV):=⟨_,_,ok_leap F_zaT T t_Asker_ahead',b_zaT,k_zaT,PySem.W.mg_of X G a_zaT⟩
 have t_Join_leap_on':Mt l.prog w K mg base CX0 C_zaY "leap_on" 5 ["self","side"] (ZD1 C_zaW C_zaV C_zaY):=⟨cl_zaY,_,_,ok_Join_leap_on F_zam T f_zaT' t_Join_take_on' t_Join_has_more' t_Join_front',b_zam,a_zam,i_zam,k_zam⟩
 have k_zaY':Kl l.prog w K mg base CX0 "Join" C_zaY 1 ["self","asker","left","right"] (ZEj C_zaY):=⟨PySem.W.mg_of X G a_zaY,_,_,ok_Join_init F_zav T ,b_zav,mk_zaY,a_zav,i_zav,kc_zaY⟩
 have f_zaH':Fn l.prog w K mg base CX0 "joined" 6 ["asker","left","right"] (ZD3 C_zaW C_zaV):=⟨_,_,ok_joined F_zaH T t_Join_take_rest' t_Join_has_more' t_Join_win' t_Join_leap_on' k_zaY',b_zaH,k_zaH,PySem.W.mg_of X G a_zaH⟩
 have t_Pile_join_two':Mt l.prog w K mg base CX0 C_zaX "join_two" 7 ["self","lower"] (ZDV C_zaW C_zaV C_zaX):=⟨cl_zaX,_,_,ok_Pile_join_two F_zaj T f_zaH' t_Pile_beyond_of',b_zaj,a_zaj,i_zaj,k_zaj⟩
 have f_zal':Fn l.prog w K mg base CX0 "stretch_from" 4 ["asker","first","end"] (ZC3 C_zaW C_zaV):=⟨_,_,ok_stretch_from F_zal T t_Asker_ahead' t_Asker_many',b_zal_3,k_zal,PySem.W.mg_of X G a_zal⟩
 have f_zaG':Fn l.prog w K mg base CX0 "in_turn" 1 ["first","beyond","falling"] (ZD4):=⟨_,_,ok_in_turn F_zaG T ,b_zaG,k_zaG,PySem.W.mg_of X G a_zaG⟩
 have f_zaC':Fn l.prog w K mg base CX0 "spot_of" 4 ["asker","order","place"] (ZDy C_zaW C_zaV):=⟨_,_,ok_spot_of F_zaC T t_Asker_ahead',b_zaC,k_zaC,PySem.W.mg_of X G a_zaC⟩
 have f_zaL':Fn l.prog w K mg base CX0 "filled" 5 ["asker","first","least","end"] (ZD7 C_zaW C_zaV):=⟨_,_,ok_filled F_zaL T f_zal' f_zaG' f_zaC' t_Asker_many',b_zaL_4,k_zaL,PySem.W.mg_of X G a_zaL⟩
 have f_zaN':Fn l.prog w K mg base CX0 "grade" 1 ["many","first","middle","beyond"] (ZEk):=⟨_,_,ok_grade F_zaN T ,b_zaN,k_zaN,PySem.W.mg_of X G a_zaN⟩
 have t_Pile_grade_on_top':Mt l.prog w K mg base CX0 C_zaX "grade_on_top" 2 ["self","middle","beyond"] (ZEi C_zaX):=⟨cl_zaX,_,_,ok_Pile_grade_on_top F_zab T f_zaN',b_zab,a_zab,i_zab,k_zab⟩
 have t_Pile_lay':Mt l.prog w K mg base CX0 C_zaX "lay" 6 ["self"] (ZFy C_zaW C_zaV C_zaX):=⟨cl_zaX,_,_,ok_Pile_lay F_zaB T f_zaL' t_Pile_grade_on_top',b_zaB,a_zaB,i_zaB,k_zaB⟩
 have t_Pile_step':Mt l.prog w K mg base CX0 C_zaX "step" 8 ["self"] (ZFM C_zaW C_zaV C_zaX):=⟨cl_zaX,_,_,ok_Pile_step F_zau T t_Pile_is_due_beneath' t_Pile_join_two' t_Pile_lay',b_zau,a_zau,i_zau,k_zau⟩
 have t_Asker_answers':Mt l.prog w K mg base CX0 C_zaW "answers" 1 ["self"] (ZDY C_zaW):=⟨cl_zaW,_,_,ok_Asker_answers F_zag T ,b_zag,a_zag,i_zag,k_zag⟩
 have k_zaW_3':KlD l.prog w K mg base CX0 "Asker" C_zaW 1 ["self","row","rule","most"] (ZCi C_zaW) [.non]:=⟨PySem.W.mg_of X G a_zaW,_,_,_,ok_Asker_init F_zap T ,b_zap_3,(.cons rfl .nil),mk_zaW,a_zap,i_zap,kc_zaW⟩
 have k_zaV':Kl l.prog w K mg base CX0 "AskedRule" C_zaV 1 ["self","teller"] (ZC5 C_zaV):=⟨PySem.W.mg_of X G a_zaV,_,_,ok_AskedRule_init F_zad T ,b_zad,mk_zaV,a_zad,i_zad,kc_zaV⟩
 exact ok_law F_zaU T f_zaM' f_zaE' f_zaR' f_zaD' f_zax' f_zaI' f_zaQ' f_zaP' f_zaO' t_Pile_standing' t_Pile_paper' t_Pile_step' t_Asker_answers' k_zaW_3' k_zaV'
end Law
open PySem PySem.W PyProof.Rows
set_option maxRecDepth 100000 in
set_option maxHeartbeats 0 in
theorem PySem.Challenge.cw_sorthall_k55_whole_paper_at_each_step_holds : PySem.Challenge.rw_sorthall_k55_whole_paper_at_each_step.Holds := by
 refine L2.hd0 ?_
 k_fill
 refine L2.walk_ofT2 (l:=PySem.Challenge.rw_sorthall_k55_whole_paper_at_each_step) (k:=9) (x:="_law_script") (names:=["_law_teller"]) rfl rfl ⟨rfl,by decide,by decide⟩ (fun w h Y=>PySem.W.km_in_of Y) (List.forall_mem_cons.mpr ⟨⟨_,rfl⟩,fun _ h=>nomatch h⟩) ?F
 case F=>
  intro w mg fa h KX G hmg
  refine' Law.all_mk KX G hmg ?a_zaY ?pg_zaY ?hd_zaY ?po_zaY ?sa_zaY ?mk_zaY ?kc_zaY ?n_zaY_asker ?n_zaY_sides ?n_zaY_taken ?n_zaY_places ?a_zav ?i_zav ?l_zav ?c_zav ?k_zav ?a_zah ?i_zah ?l_zah ?c_zah ?k_zah ?a_zaq ?i_zaq ?l_zaq ?c_zaq ?k_zaq ?a_zak ?i_zak ?l_zak ?c_zak ?k_zak ?a_zaf ?i_zaf ?l_zaf ?c_zaf ?k_zaf ?a_zaz ?i_zaz ?l_zaz ?c_zaz ?k_zaz ?a_zam ?i_zam ?l_zam ?c_zam ?k_zam ?a_zaX ?pg_zaX ?hd_zaX ?po_zaX ?sa_zaX ?mk_zaX ?kc_zaX ?n_zaX_asker ?n_zaX_least ?n_zaX_start ?n_zaX_end ?n_zaX_reached ?n_zaX_firsts ?n_zaX_orders ?n_zaX_grades ?a_zat ?i_zat ?l_zat ?c_zat ?d_zat ?k_zat ?a_zae ?i_zae ?l_zae ?c_zae ?k_zae ?a_zaa ?i_zaa ?l_zaa ?c_zaa ?k_zaa ?a_zab ?i_zab ?l_zab ?c_zab ?k_zab ?a_zaj ?i_zaj ?l_zaj ?c_zaj ?k_zaj ?a_zaB ?i_zaB ?l_zaB ?c_zaB ?k_zaB ?a_zau ?i_zau ?l_zau ?c_zau ?k_zau ?a_zas ?i_zas ?l_zas ?c_zas ?k_zas ?a_zai ?i_zai ?l_zai ?c_zai ?k_zai ?a_zaW ?pg_zaW ?hd_zaW ?po_zaW ?sa_zaW ?mk_zaW ?kc_zaW ?n_zaW_row ?n_zaW_rule ?n_zaW_most ?n_zaW_asked ?n_zaW_told ?a_zap ?i_zap ?l_zap ?c_zap ?d_zap ?k_zap ?a_zar ?i_zar ?l_zar ?c_zar ?k_zar ?a_zao ?i_zao ?l_zao ?c_zao ?k_zao ?a_zag ?i_zag ?l_zag ?c_zag ?k_zag ?a_zaV ?pg_zaV ?hd_zaV ?po_zaV ?sa_zaV ?mk_zaV ?kc_zaV ?n_zaV_teller ?a_zad ?i_zad ?l_zad ?c_zad ?k_zad ?a_zac ?i_zac ?l_zac ?c_zac ?k_zac ?a_zal ?l_zal ?c_zal ?d_zal ?k_zal ?a_zaG ?l_zaG ?c_zaG ?k_zaG ?a_zaC ?l_zaC ?c_zaC ?k_zaC ?a_zaL ?l_zaL ?c_zaL ?d_zaL ?k_zaL ?a_zaT ?l_zaT ?c_zaT ?k_zaT ?a_zaH ?l_zaH ?c_zaH ?k_zaH ?a_zaN ?l_zaN ?c_zaN ?k_zaN ?a_zaD ?l_zaD ?c_zaD ?k_zaD ?a_zaJ ?l_zaJ ?c_zaJ ?k_zaJ ?a_zaF ?l_zaF ?c_zaF ?k_zaF ?a_zaM ?l_zaM ?c_zaM ?k_zaM ?a_zaA ?l_zaA ?c_zaA ?k_zaA ?a_zaw ?l_zaw ?c_zaw ?k_zaw ?a_zay ?l_zay ?c_zay ?k_zay ?a_zan ?l_zan ?c_zan ?k_zan ?a_zaS ?l_zaS ?c_zaS ?k_zaS ?a_zaK ?l_zaK ?c_zaK ?k_zaK ?a_zaO ?l_zaO ?c_zaO ?k_zaO ?a_zaE ?l_zaE ?c_zaE ?k_zaE ?a_zaR ?l_zaR ?c_zaR ?k_zaR ?a_zax ?l_zax ?c_zax ?k_zax ?a_zaQ ?l_zaQ ?c_zaQ ?k_zaQ ?a_zaP ?l_zaP ?c_zaP ?k_zaP ?a_zaU ?l_zaU ?c_zaU ?k_zaU ?a_zaI ?l_zaI ?c_zaI ?lc_zaI ?tp_zaI ?k_zaI ?z_LEFT ?z_RIGHT ?z_WINS_TO_LEAP ?z_len ?z_range ?z_list ?z_isinstance ?z_bool ?z_int ?z_max ?z_min ?z_abs ?z_all ?z_sorted ?z_enumerate ?z_zip ?z_dict ?z_ValueError ?kit_int_bool ?nt
  (case a_zaY=>k_is)
  (case pg_zaY=>k_is)
  (case hd_zaY=>k_is)
  (case po_zaY=>k_is)
  (case sa_zaY=>k_is)
  (case mk_zaY=>k_is)
  (case kc_zaY=>k_is)
  (case n_zaY_asker=>k_is)
  (case n_zaY_sides=>k_is)
  (case n_zaY_taken=>k_is)
  (case n_zaY_places=>k_is)
  (case a_zav=>k_is)
  (case i_zav=>k_is)
  (case l_zav=>k_is)
  (case c_zav=>k_is)
  (case k_zav=>k_is)
  (case a_zah=>k_is)
  (case i_zah=>k_is)
  (case l_zah=>k_is)
  (case c_zah=>k_is)
  (case k_zah=>k_is)
  (case a_zaq=>k_is)
  (case i_zaq=>k_is)
  (case l_zaq=>k_is)
  (case c_zaq=>k_is)
  (case k_zaq=>k_is)
  (case a_zak=>k_is)
  (case i_zak=>k_is)
  (case l_zak=>k_is)
  (case c_zak=>k_is)
  (case k_zak=>k_is)
  (case a_zaf=>k_is)
  (case i_zaf=>k_is)
  (case l_zaf=>k_is)
  (case c_zaf=>k_is)
  (case k_zaf=>k_is)
  (case a_zaz=>k_is)
  (case i_zaz=>k_is)
  (case l_zaz=>k_is)
  (case c_zaz=>k_is)
  (case k_zaz=>k_is)
  (case a_zam=>k_is)
  (case i_zam=>k_is)
  (case l_zam=>k_is)
  (case c_zam=>k_is)
  (case k_zam=>k_is)
  (case a_zaX=>k_is)
  (case pg_zaX=>k_is)
  (case hd_zaX=>k_is)
  (case po_zaX=>k_is)
  (case sa_zaX=>k_is)
  (case mk_zaX=>k_is)
  (case kc_zaX=>k_is)
  (case n_zaX_asker=>k_is)
  (case n_zaX_least=>k_is)
  (case n_zaX_start=>k_is)
  (case n_zaX_end=>k_is)
  (case n_zaX_reached=>k_is)
  (case n_zaX_firsts=>k_is)
  (case n_zaX_orders=>k_is)
  (case n_zaX_grades=>k_is)
  (case a_zat=>k_is)
  (case i_zat=>k_is)
  (case l_zat=>k_is)
  (case c_zat=>k_is)
  (case d_zat=>k_is)
  (case k_zat=>k_is)
  (case a_zae=>k_is)
  (case i_zae=>k_is)
  (case l_zae=>k_is)
  (case c_zae=>k_is)
  (case k_zae=>k_is)
  (case a_zaa=>k_is)
  (case i_zaa=>k_is)
  (case l_zaa=>k_is)
  (case c_zaa=>k_is)
  (case k_zaa=>k_is)
  (case a_zab=>k_is)
  (case i_zab=>k_is)
  (case l_zab=>k_is)
  (case c_zab=>k_is)
  (case k_zab=>k_is)
  (case a_zaj=>k_is)
  (case i_zaj=>k_is)
  (case l_zaj=>k_is)
  (case c_zaj=>k_is)
  (case k_zaj=>k_is)
  (case a_zaB=>k_is)
  (case i_zaB=>k_is)
  (case l_zaB=>k_is)
  (case c_zaB=>k_is)
  (case k_zaB=>k_is)
  (case a_zau=>k_is)
  (case i_zau=>k_is)
  (case l_zau=>k_is)
  (case c_zau=>k_is)
  (case k_zau=>k_is)
  (case a_zas=>k_is)
  (case i_zas=>k_is)
  (case l_zas=>k_is)
  (case c_zas=>k_is)
  (case k_zas=>k_is)
  (case a_zai=>k_is)
  (case i_zai=>k_is)
  (case l_zai=>k_is)
  (case c_zai=>k_is)
  (case k_zai=>k_is)
  (case a_zaW=>k_is)
  (case pg_zaW=>k_is)
  (case hd_zaW=>k_is)
  (case po_zaW=>k_is)
  (case sa_zaW=>k_is)
  (case mk_zaW=>k_is)
  (case kc_zaW=>k_is)
  (case n_zaW_row=>k_is)
  (case n_zaW_rule=>k_is)
  (case n_zaW_most=>k_is)
  (case n_zaW_asked=>k_is)
  (case n_zaW_told=>k_is)
  (case a_zap=>k_is)
  (case i_zap=>k_is)
  (case l_zap=>k_is)
  (case c_zap=>k_is)
  (case d_zap=>k_is)
  (case k_zap=>k_is)
  (case a_zar=>k_is)
  (case i_zar=>k_is)
  (case l_zar=>k_is)
  (case c_zar=>k_is)
  (case k_zar=>k_is)
  (case a_zao=>k_is)
  (case i_zao=>k_is)
  (case l_zao=>k_is)
  (case c_zao=>k_is)
  (case k_zao=>k_is)
  (case a_zag=>k_is)
  (case i_zag=>k_is)
  (case l_zag=>k_is)
  (case c_zag=>k_is)
  (case k_zag=>k_is)
  (case a_zaV=>k_is)
  (case pg_zaV=>k_is)
  (case hd_zaV=>k_is)
  (case po_zaV=>k_is)
  (case sa_zaV=>k_is)
  (case mk_zaV=>k_is)
  (case kc_zaV=>k_is)
  (case n_zaV_teller=>k_is)
  (case a_zad=>k_is)
  (case i_zad=>k_is)
  (case l_zad=>k_is)
  (case c_zad=>k_is)
  (case k_zad=>k_is)
  (case a_zac=>k_is)
  (case i_zac=>k_is)
  (case l_zac=>k_is)
  (case c_zac=>k_is)
  (case k_zac=>k_is)
  (case a_zal=>k_is)
  (case l_zal=>k_is)
  (case c_zal=>k_is)
  (case d_zal=>k_is)
  (case k_zal=>k_is)
  (case a_zaG=>k_is)
  (case l_zaG=>k_is)
  (case c_zaG=>k_is)
  (case k_zaG=>k_is)
  (case a_zaC=>k_is)
  (case l_zaC=>k_is)
  (case c_zaC=>k_is)
  (case k_zaC=>k_is)
  (case a_zaL=>k_is)
  (case l_zaL=>k_is)
  (case c_zaL=>k_is)
  (case d_zaL=>k_is)
  (case k_zaL=>k_is)
  (case a_zaT=>k_is)
  (case l_zaT=>k_is)
  (case c_zaT=>k_is)
  (case k_zaT=>k_is)
  (case a_zaH=>k_is)
  (case l_zaH=>k_is)
  (case c_zaH=>k_is)
  (case k_zaH=>k_is)
  (case a_zaN=>k_is)
  (case l_zaN=>k_is)
  (case c_zaN=>k_is)
  (case k_zaN=>k_is)
  (case a_zaD=>k_is)
  (case l_zaD=>k_is)
  (case c_zaD=>k_is)
  (case k_zaD=>k_is)
  (case a_zaJ=>k_is)
  (case l_zaJ=>k_is)
  (case c_zaJ=>k_is)
  (case k_zaJ=>k_is)
  (case a_zaF=>k_is)
  (case l_zaF=>k_is)
  (case c_zaF=>k_is)
  (case k_zaF=>k_is)
  (case a_zaM=>k_is)
  (case l_zaM=>k_is)
  (case c_zaM=>k_is)
  (case k_zaM=>k_is)
  (case a_zaA=>k_is)
  (case l_zaA=>k_is)
  (case c_zaA=>k_is)
  (case k_zaA=>k_is)
  (case a_zaw=>k_is)
  (case l_zaw=>k_is)
  (case c_zaw=>k_is)
  (case k_zaw=>k_is)
  (case a_zay=>k_is)
  (case l_zay=>k_is)
  (case c_zay=>k_is)
  (case k_zay=>k_is)
  (case a_zan=>k_is)
  (case l_zan=>k_is)
  (case c_zan=>k_is)
  (case k_zan=>k_is)
  (case a_zaS=>k_is)
  (case l_zaS=>k_is)
  (case c_zaS=>k_is)
  (case k_zaS=>k_is)
  (case a_zaK=>k_is)
  (case l_zaK=>k_is)
  (case c_zaK=>k_is)
  (case k_zaK=>k_is)
  (case a_zaO=>k_is)
  (case l_zaO=>k_is)
  (case c_zaO=>k_is)
  (case k_zaO=>k_is)
  (case a_zaE=>k_is)
  (case l_zaE=>k_is)
  (case c_zaE=>k_is)
  (case k_zaE=>k_is)
  (case a_zaR=>k_is)
  (case l_zaR=>k_is)
  (case c_zaR=>k_is)
  (case k_zaR=>k_is)
  (case a_zax=>k_is)
  (case l_zax=>k_is)
  (case c_zax=>k_is)
  (case k_zax=>k_is)
  (case a_zaQ=>k_is)
  (case l_zaQ=>k_is)
  (case c_zaQ=>k_is)
  (case k_zaQ=>k_is)
  (case a_zaP=>k_is)
  (case l_zaP=>k_is)
  (case c_zaP=>k_is)
  (case k_zaP=>k_is)
  (case a_zaU=>k_is)
  (case l_zaU=>k_is)
  (case c_zaU=>k_is)
  (case k_zaU=>k_is)
  (case a_zaI=>k_is)
  (case l_zaI=>k_is)
  (case c_zaI=>k_is)
  (case lc_zaI=>k_is)
  (case tp_zaI=>rfl)
  (case k_zaI=>k_is)
  (case z_LEFT=>k_is)
  (case z_RIGHT=>k_is)
  (case z_WINS_TO_LEAP=>k_is)
  (case z_len=>k_is)
  (case z_range=>k_is)
  (case z_list=>k_is)
  (case z_isinstance=>k_is)
  (case z_bool=>k_is)
  (case z_int=>k_is)
  (case z_max=>k_is)
  (case z_min=>k_is)
  (case z_abs=>k_is)
  (case z_all=>k_is)
  (case z_sorted=>k_is)
  (case z_enumerate=>k_is)
  (case z_zip=>k_is)
  (case z_dict=>k_is)
  (case z_ValueError=>k_is)
  (case kit_int_bool=>kit_is)
  (case nt=>kernel_rfl)
