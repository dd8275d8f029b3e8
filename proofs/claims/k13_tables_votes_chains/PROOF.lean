import PyProof.Rows.All
import Wide.All
import OpenK.AllK
import Wide.FinOn
import Lean
import PyProof.EqAt
import PyProof.EqKinds
import PyProof.TupleCall
import KE.KRevIter
import PyProof.CollectIter
import PyProof.SumWalkG
import KE.KDictOf
import PyProof.IsiH_list
import PyProof.RaisesAny
import PyProof.P3In
import PyProof.Rows.StrWeight2
import PyProof.StrCalls
import PyProof.Rows.FinIter
import PyProof.Rows.CountFlat
import PyProof.NeKinds
import PyProof.InstEq
import PySem.Challenge.RW_sorthall_k13_tables_votes_chains
local macro_rules | `(tactic| omega)=>`(tactic| first | with_reducible assumption | lia | omega (splitDisjunctions:=true))
set_option Elab.async false
set_option linter.all false
set_option maxRecDepth 100000
open Nat renaming le_refl→yAA,le_trans→yAD,ne_of_lt→yAE,lt_of_lt_of_le→yAG,sub_self→yAV,le_succ→yAX,zero_le→yAY,lt_irrefl→yBD,lt_succ_self→yBG
open List renaming length_map→yAB,getElem?_eq_getElem→yAC,length_append→yAF,mem_of_getElem?→yAH,getElem?_eq_some_iff→yAI,map_append→yAJ,mem_cons_self→yAK,mem_cons→yAL,size_toArray→yAN,getElem?_append_left→yAO,mem_cons_of_mem→yAP,mem_append_right→yAQ,map_cons→yAR,length_take→yAS,getElem?_append_right→yAT,getElem?_map→yAU,take_of_length_le→yAW,length_cons→yAZ,take_add_one→yBA,length_drop→yBB,mem_map→yBC,lookup_cons→yBE,mem_append→yBF,length_range→yBI,length_replicate→yBK,getElem?_drop→yBL,mem_singleton→yBM
open Bool renaming false_ne_true→yAM,false_eq_true→yBH
open Array renaming length_toList→yBJ
namespace L2
open PySem PySem.W
theorem left_boot {p q:Program} {loose:List Str} {Xt:Shared->Bool} {α:Type} {Yf:Shared->α} {Ya:World->α} {N:Nat} {g0:Bool}
  (open_:∀ w:World,(fencedOpening treeTable p w N).map (fun s=>(s.heap,s.gens,s.drawn,s.toks))=some (boot_heap w.params,Array.mk [],boot_drawn,boot_toks))
  (h:∀ (w:World) (os:OsState),(topFrom treeTable p w N ⟨boot_heap w.params,Array.mk [],boot_drawn,boot_toks,os⟩).map (fun s=>(openSeen q loose (importedModules p.main.body) Xt g0 s,Yf s))=some (openGood q loose,Ya w)):LeftO p q loose Xt Yf Ya N g0:=fun w=>by
 obtain ⟨⟨hh,gs,d,k,os⟩,e,e'⟩:=Option.map_eq_some_iff.mp (open_ w)
 obtain ⟨rfl,rfl,rfl,rfl⟩:hh=boot_heap w.params /\ gs=Array.mk [] /\ d=boot_drawn /\ k=boot_toks:=by simpa using e'
 unfold openEnds
 rw [e]
 exact h w os
theorem left_two {p q:Program} {loose:List Str} {Xt:Shared->Bool} {α:Type} {Yf:Shared->α} {Ya:World->α} {N:Nat} {g0:Bool}
  (open_:∀ w:World,(fencedOpening treeTable p w N).map (fun s=>(s.heap,s.gens,s.drawn,s.toks))=some (boot_heap w.params,Array.mk [],boot_drawn,boot_toks))
  (h1:∀ (w:World) (os:OsState),(topFrom treeTable p w N ⟨boot_heap w.params,Array.mk [],boot_drawn,boot_toks,os⟩).map (fun s=>openSeen q loose (importedModules p.main.body) Xt g0 s)=some (openGood q loose))
  (h2:∀ (w:World) (os:OsState),(topFrom treeTable p w N ⟨boot_heap w.params,Array.mk [],boot_drawn,boot_toks,os⟩).map (fun s=>Yf s)=some (Ya w)):LeftO p q loose Xt Yf Ya N g0 :=
 left_boot open_ fun w os=>by
  have a:=h1 w os
  have b:=h2 w os
  generalize topFrom treeTable p w N ⟨boot_heap w.params,Array.mk [],boot_drawn,boot_toks,os⟩=r at a b
  cases r with
  | none=>cases a
  | some s=>exact congrArg some (Prod.ext (Option.some.inj a) (Option.some.inj b))
noncomputable def s0B (w:World) (os:OsState):Shared:=⟨boot_heap w.params,Array.mk [],boot_drawn,boot_toks,os⟩
noncomputable def ofLB:List Obj->Nat->BT->BT
 | [],_,t=>t
 | o::r,n,t=>ofLB r (n+1) (t.ins n o)
noncomputable def sTB (w:World) (os:OsState):SharedT:=⟨ofLB (boot_heap w.params).objs.toList 0 .nil,(boot_heap w.params).objs.size,(boot_heap w.params).life,Array.mk [],boot_drawn,boot_toks,os⟩
noncomputable def topRunQ (p:Program) (w:World) (n₀:Nat) (ann:Option Value):Nat->SharedT->Thread->Option SharedT
 | 0,_,_=>none
 | n+1,s,t=>match through t with
  | true=>some s
  | false=>match PySem.W.Fast.tw6613529449190102663 n₀ ann t with
   | false=>none
   | true=>match PySem.W.Fast.tw10156331382660048174 (PySem.W.Fast.tw11892475500146522536 PySem.W.Fast.tw14364793385576792824) p w s t with
    | some (s',t')=>topRunQ p w n₀ ann n s' t'
    | none=>none
theorem topRunQ_spec {p:Program} {w:World} {n₀:Nat} {ann:Option Value}:∀ {n:Nat} {s s':SharedT} {t:Thread},topRunQ p w n₀ ann n s t=some s'->topRun treeTable p w n₀ ann n s.abs t=some s'.abs
 | 0,_,_,_,h=>by cases h
 | n+1,s,s',t,h=>by
  unfold topRunQ at h
  rw [<- PySem.W.Fast.te6613529449190102663,<- PySem.W.Fast.te10156331382660048174,<- PySem.W.Fast.te11892475500146522536,<- PySem.W.Fast.te14364793385576792824] at h
  unfold topRun
  cases he:through t with
  | true=>rw [he] at h;cases h;rfl
  | false=>
   rw [he] at h
   cases hk:stepOk n₀ ann t with
   | false=>rw [hk] at h;cases h
   | true=>
    rw [hk] at h
    cases hs:stepT (denote treeTable) p w s t with
    | none=>rw [hs] at h;cases h
    | some r=>obtain ⟨s₂,t₂⟩:=r;rw [hs] at h;rw [stepT_spec hs];exact topRunQ_spec h
set_option maxHeartbeats 0 in
theorem sTB_abs:∀ (w:World) (os:OsState),(sTB w os).abs=s0B w os:=by
 intro w os
 kernel_rfl
set_option maxHeartbeats 0 in
theorem s0B_ns:∀ (w:World) (os:OsState),((s0B w os).heap.isNs mainGlobals && (s0B w os).gens.size == 0)=true:=by
 intro w os
 kernel_rfl
noncomputable def topOkB (p:Program) (s₀ s₁:Shared):Bool:=staticsOk (importedModules p.main.body) s₀.heap s₁.heap && namesBound p s₁.heap && gensDone s₁ && laidKept s₀.heap s₁.heap
theorem via_tree {α:Type} {p:Program} {N:Nat} {F:Shared->α} {G:α} (w:World) (os:OsState)
  (h:(topRunQ p w (s0B w os).heap.objs.size ((s0B w os).heap.nsMap mainGlobals "__annotations__") N (sTB w os) (topStub p)).map (fun s=>(topOkB p (s0B w os) s.abs,F s.abs))=some (true,G)):(topFrom treeTable p w N ⟨boot_heap w.params,Array.mk [],boot_drawn,boot_toks,os⟩).map F=some G:=by
 obtain ⟨s',e1,e2⟩:=Option.map_eq_some_iff.mp h
 have r:=topRunQ_spec e1
 rw [sTB_abs] at r
 obtain ⟨e3,e4⟩:=Prod.mk.inj e2
 show (topFrom treeTable p w N (s0B w os)).map F=some G
 unfold topFrom
 rw [s0B_ns w os]
 dsimp only
 rw [r,Option.bind_some]
 unfold topOkB at e3
 rw [e3]
 exact congrArg some e4
noncomputable def vw (p:Program) (ix:List Nat):Program:={ p with main:={ p.main with body:=ix.filterMap fun i=>p.main.body[i]? } }
noncomputable def Vw:Program:=vw PySem.Challenge.pw_sorthall_k13_tables_votes_chains [1,2,4,5,6,7,8,9,10,11,12,13,14,15,16,17,19,20,21,22,23,24,25,26,27,28,29,30]
set_option maxHeartbeats 0 in
theorem seen1:∀ (w:World) (os:OsState),(topFrom treeTable PySem.Challenge.pw_sorthall_k13_tables_votes_chains w 6674 ⟨boot_heap w.params,Array.mk [],boot_drawn,boot_toks,os⟩).map (fun s=>openSeen L2.Vw [] (importedModules PySem.Challenge.pw_sorthall_k13_tables_votes_chains.main.body) (fun s=>xlAt L2.Vw [] s && recOk (RowW.records (OpenRow.toRowW (OpenLaw.row PySem.Challenge.rw_sorthall_k13_tables_votes_chains))) s) true s)=some (openGood L2.Vw []):=by
 intro w os
 refine via_tree w os ?_
 rw [PySem.W.Fast.te4187177175401517315]
 kernel_rfl
local macro_rules | `(tactic| o_law)=>`(tactic| refine holds_law (by decide +kernel) fun said=>?_)
set_option hygiene false in
local macro_rules | `(tactic| o_head $H)=>`(tactic| (refine holds_open (q:=L2.Vw) (loose:=[]) (Xt:=fun s=>xlAt L2.Vw [] s && recOk (RowW.records _) s) (XP:=XL L2.Vw []) (Yf:=Hook.obs $H) (Ya:=Hook.val $H) (YP:=Hook.says $H) (N:=6674) ?hl (Hook.of $H) (Hook.keeps $H) (fun s e=>xl_of s (Bool.and_eq_true_iff.mp e).1) XL.keeps (by rfl) (by rfl) (by rfl) (fun s e=>recFacts_of (Bool.and_eq_true_iff.mp e).2) (by rfl) (by first | assumption | decide +kernel) (by decide +kernel) ⟨rfl,rfl,rfl,rfl,rfl,by decide +kernel⟩ ?hw ?hc;(case hl=>(refine L2.left_two (PySem.W.boot_open (by rfl) (by decide) (fun s=>rfl)) (fun w os=>?h1) (fun w os=>?h2);(case h1=>exact L2.seen1 w os);(case h2=>(refine L2.via_tree w os ?_;kernel_rfl))))))
set_option maxHeartbeats 0 in
open_top hd0 for PySem.Challenge.rw_sorthall_k13_tables_votes_chains
end L2
namespace L2
open PySem PySem.Spec PyProof.Rows
noncomputable abbrev Key:=Sum Int Str
noncomputable def keyIs:Key->Value->Bool
 | .inl k,v=>Value.isInt k v
 | .inr x,v=>Value.isStrOf x v
noncomputable def keyH (w:World):Key->Int
 | .inl k=>hashInt k
 | .inr x=>hashStr w x
theorem ZA1:∀ {k:Key} {v:Value},keyIs k v=true->(∃ i t,k=Sum.inl i /\ v=Value.int i t)∨(∃ x t,k=Sum.inr x /\ v=Value.str x t)
 | .inl i,v,h=>by
  obtain ⟨t,e⟩:=Value.isInt_shape (k:=i) (v:=v) h
  exact .inl ⟨i,t,rfl,e⟩
 | .inr x,v,h=>by
  obtain ⟨t,e⟩:=Value.isStrOf_shape (x:=x) (v:=v) h
  exact .inr ⟨x,t,rfl,e⟩
theorem key_ll (a b:Int):decide ((Sum.inl a:Key)=Sum.inl b)=(a == b):=by
 by_cases e:a=b
 .subst e;simp
 .have h:¬ (Sum.inl a:Key)=Sum.inl b:=fun q=>e (Sum.inl.inj q)
  rw [decide_eq_false h]
  exact (beq_eq_false_iff_ne.mpr e).symm
theorem key_rr (a b:Str):decide ((Sum.inr a:Key)=Sum.inr b)=decide (a=b):=by
 by_cases e:a=b
 .subst e;simp
 .have h:¬ (Sum.inr a:Key)=Sum.inr b:=fun q=>e (Sum.inr.inj q)
  rw [decide_eq_false h,decide_eq_false e]
theorem key_lr (a:Int) (b:Str):decide ((Sum.inl a:Key)=Sum.inr b)=false:=decide_eq_false (fun q=>nomatch q)
theorem key_rl (a:Str) (b:Int):decide ((Sum.inr a:Key)=Sum.inl b)=false:=decide_eq_false (fun q=>nomatch q)
noncomputable def mixKind (prog:Program) (w:World):PySem.KeyKind prog w Key where
 is:=keyIs
 hash:=keyH w
 inj:=fun v a b ha hb=>by
  rcases ZA1 ha with ⟨i,t,rfl,rfl⟩ | ⟨x,t,rfl,rfl⟩
  .rcases ZA1 hb with ⟨j,u,rfl,e⟩ | ⟨y,u,rfl,e⟩
   .injection e with e1 _;rw [e1]
   .exact nomatch e
  .rcases ZA1 hb with ⟨j,u,rfl,e⟩ | ⟨y,u,rfl,e⟩
   .exact nomatch e
   .injection e with e1 _;rw [e1]
 byValue:=fun k v h=>by
  rcases ZA1 h with ⟨i,t,rfl,rfl⟩ | ⟨x,t,rfl,rfl⟩ <;> rfl
 pyHash:=fun hv h=>by
  rcases ZA1 hv with ⟨i,t,rfl,rfl⟩ | ⟨x,t,rfl,rfl⟩
  .exact wpAny_pyHash_int h
  .exact wpAny_pyHash_str h
 eqBool:=fun hu hv h=>by
  rcases ZA1 hu with ⟨i,t,rfl,rfl⟩ | ⟨x,t,rfl,rfl⟩
  .rcases ZA1 hv with ⟨j,u,rfl,rfl⟩ | ⟨y,u,rfl,rfl⟩
   .rw [key_ll] at h;exact wpAny_eqBool_int h
   .rw [key_lr] at h;exact SeqAt.EqAt.int_str i t y u _ _ _ _ h
  .rcases ZA1 hv with ⟨j,u,rfl,rfl⟩ | ⟨y,u,rfl,rfl⟩
   .rw [key_rl] at h;exact SeqAt.EqAt.str_int x t j u _ _ _ _ h
   .rw [key_rr] at h;exact wpAny_eqBool_str h
 «strs»:=fun k x t v h=>by
  rcases ZA1 h with ⟨i,u,rfl,e⟩ | ⟨y,u,rfl,e⟩
  .exact nomatch e
  .injection e with e1 _
   subst e1
   cases v <;> rfl
inductive V where
 | non | bl (b:Bool) | int (i:Int) | str (x:Str) | byt (b:Array UInt8) | flt (b:UInt64) | ref (a:Addr) | ty (n:String)
 deriving DecidableEq
noncomputable def RelV:V->Value->Prop
 | .non,u=>u=Value.none
 | .bl b,u=>u=Value.bool b
 | .int i,u=>∃ t,u=Value.int i t
 | .str x,u=>∃ t,u=Value.str x t
 | .byt b,u=>∃ t,u=Value.bytes b t
 | .flt b,u=>∃ t,u=Value.float b t
 | .ref a,u=>u=Value.ref a
 | .ty n,u=>u=Value.type n
noncomputable abbrev Vals:List V->List Value->Prop:=Paired RelV
theorem Vals.length {xs:List V} {us:List Value} (r:Vals xs us):xs.length=us.length:=Paired.length r
theorem Vals.get:∀ {xs:List V} {us:List Value} {i:Nat} {x:V},Vals xs us->xs[i]?=some x->∃ u,us[i]?=some u /\ RelV x u
 | _,_,_,_,.nil,e=>by simp at e
 | _,_,0,_,.cons r _,e=>by simp at e;subst e;exact ⟨_,rfl,r⟩
 | _,_,i+1,x,.cons _ t,e=>by
  obtain ⟨u,h1,h2⟩:=Vals.get (i:=i) (x:=x) t (by simpa using e)
  exact ⟨u,by simpa using h1,h2⟩
theorem Vals.append:∀ {xs ys:List V} {us ws:List Value},Vals xs us->Vals ys ws->Vals (xs++ys) (us++ws)
 | _,_,_,_,.nil,s=>s
 | _,_,_,_,.cons r t,s=>.cons r (Vals.append t s)
theorem Vals.take:∀ {xs:List V} {us:List Value} (n:Nat),Vals xs us->Vals (xs.take n) (us.take n)
 | _,_,0,_=>.nil
 | _,_,_+1,.nil=>.nil
 | _,_,n+1,.cons r t=>.cons r (Vals.take n t)
theorem Vals.drop:∀ {xs:List V} {us:List Value} (n:Nat),Vals xs us->Vals (xs.drop n) (us.drop n)
 | _,_,0,r=>r
 | _,_,_+1,.nil=>.nil
 | _,_,n+1,.cons _ t=>Vals.drop n t
noncomputable def RelO:Option V->Option Value->Prop
 | some v,some u=>RelV v u
 | none,none=>True
 | _,_=>False
noncomputable def KV {κ:Type}:List (κ×V)->List (κ×Value)->Prop:=Paired fun (p:κ×V) (q:κ×Value)=>p.1=q.1 /\ RelV p.2 q.2
noncomputable def kV:Key->V
 | .inl i=>.int i
 | .inr x=>.str x
inductive HO where
 | lst (xs:List V)
 | tup (xs:List V)
 | dK (kvs:List (Key×V)) | dT (kvs:List (List Key×V))
 | set (S:Int->Bool) (n:Nat)
 | ins (C dx:Addr) (fs:List (Str×V))
 | own (x:Addr)
 | xd (fs:List (Str×V))
 | met (f x:Addr)
 | rng (lo hi:Int)
 | frz (o:Obj) (u:HO)
 | tbl (ps:Array Value)
 | ext (φ:Heap->Prop)
noncomputable abbrev Hp:=Addr->Option HO
noncomputable def upd (H:Hp) (a:Addr) (o:HO):Hp:=fun b=>if b=a then some o else H b
theorem ZAC {H:Hp} {a:Addr} {o:HO}:upd H a o a=some o:=by unfold upd;rw [if_pos rfl]
theorem ZAJ {H:Hp} {a b:Addr} {o:HO} (h:b≠a):upd H a o b=H b:=by unfold upd;rw [if_neg h]
theorem ZCx {H:Hp} {a:Addr} {o u:HO}:upd (upd H a o) a u=upd H a u:=by
 funext b;unfold upd;split <;> rfl
theorem ZAX {H:Hp} {a b:Addr} {o:HO} (h:H a=some o) (h':H b=none):a≠b:=by
 intro e;subst e;rw [h] at h';cases h'
section
variable (P:Program) (w:World)
noncomputable def ObjOk (H:Hp) (h:Heap) (a:Addr):HO->Prop
 | .lst xs=>xs.length <= sizeLine /\ ∃ (its:List Value) (n:Nat),Vals xs its /\ h.get? a=some { cls:=.type "list",data:=.seq its.toArray n }
 | .tup xs=>xs.length <= sizeLine /\ ∃ its:List Value,Vals xs its /\ IsTup h a its.toArray
 | .dK kvs=>kvs.length <= sizeLine /\ (a == sysModules)=false /\ ∃ vs,KV kvs vs /\ h.DictOf (mixKind P w) a vs
 | .dT kvs=>kvs.length <= sizeLine /\ (a == sysModules)=false /\ ∃ xs:List (List Key×Addr×Value),
   Paired (fun (p:List Key×V) (q:List Key×Addr×Value)=>p.1=q.1 /\ H q.2.1=some (.tup (p.1.map kV)) /\ RelV p.2 q.2.2) kvs xs /\
   ∃ o es ep,h.get? a=some o /\ o.ExactDict /\ o.data=.dict es ep /\ es.toList=xs.map (entryOfKey (tupleKind (mixKind P w))) /\ (xs.map (·.1)).Nodup
 | .set S n=>h.SetOf (intKind P w) a S n
 | .ins C dx fs=>H dx=some (.own a) /\ fs.length <= 1000 /\ dx≠a /\ h.get? a=some (PySem.W.instObj C dx) /\
   ∃ mA,h.Ns1 dx mA /\ (∀ f,RelO (fs.lookup f) (mA f)) /\ PySem.Within mA (fs.map (·.1))
 | .own _=>∃ o,h.get? a=some o
 | .xd fs=>∃ mA,h.Ns1 a mA /\ ∀ f,RelO (fs.lookup f) (mA f)
 | .rng lo hi=>∃ t u v,h.get? a=some { cls:=.type "range",data:=.fields #[.int lo t,.int hi u,.int 1 v] }
 | .frz o u=>h.get? a=some o /\ ObjOk H h a u
 | .tbl ps=>h.get? a=some { cls:=.none,data:=.fields ps }
 | .met f x=>h.get? a=some (PySem.W.methodObj (.ref f) (.ref x))
 | .ext φ=>φ h /\ (∃ o,h.get? a=some o) /\ ∀ h1 h2:Heap,φ h1->(∀ o,h1.get? a=some o->h2.get? a=some o)->φ h2
noncomputable def HOk (H:Hp) (h:Heap):Prop:=∀ a o,H a=some o->ObjOk P w H h a o
end
section
variable {P:Program} {w:World} {H H':Hp} {h h':Heap} {a:Addr} {o:HO}
theorem ObjOk.lt (x:ObjOk P w H h a o):a < h.objs.size:=by
 cases o with
 | lst xs=>obtain ⟨_,_,_,_,e⟩:=x;exact Heap.lt_size e
 | tup xs=>obtain ⟨_,_,_,p⟩:=x;exact p.lt
 | dK kvs=>obtain ⟨_,_,_,_,o,_,_,e,_⟩:=x;exact Heap.lt_size e
 | dT kvs=>obtain ⟨_,_,_,_,o,_,_,e,_⟩:=x;exact Heap.lt_size e
 | set S n=>obtain ⟨o,_,_,_,e,_⟩:=x;exact Heap.lt_size e
 | ins C dx fs=>obtain ⟨_,_,_,e,_⟩:=x;exact Heap.lt_size e
 | own y=>obtain ⟨_,e⟩:=x;exact Heap.lt_size e
 | xd fs=>obtain ⟨_,⟨_,_,_,e,_⟩,_⟩:=x;exact Heap.lt_size e
 | rng lo hi=>obtain ⟨_,_,_,e⟩:=x;exact Heap.lt_size e
 | frz ob u=>obtain ⟨e,_⟩:=x;exact Heap.lt_size e
 | tbl ps=>exact Heap.lt_size (show h.get? a=some _ from x)
 | met f y=>exact Heap.lt_size (show h.get? a=some _ from x)
 | ext φ=>obtain ⟨_,⟨_,e⟩,_⟩:=x;exact Heap.lt_size e
theorem Paired.mapP {α β:Type} {F G:α->β->Prop}:∀ {l₁:List α} {l₂:List β},Paired F l₁ l₂->(∀ a b,F a b->G a b)->Paired G l₁ l₂
 | _,_,.nil,_=>.nil
 | _,_,.cons r t,f=>.cons (f _ _ r) (Paired.mapP t f)
theorem ObjOk.stay (x:ObjOk P w H h a o) (k:∀ b u,(b=a∨H b=some (.own a))->h.get? b=some u->h'.get? b=some u)
  (ho:∀ b,H b=some (.own a)->H' b=some (.own a)) (ht:∀ b xs,H b=some (.tup xs)->H' b=some (.tup xs)):ObjOk P w H' h' a o:=by
 induction o with
 | lst xs=>obtain ⟨z,its,n,r,e⟩:=x;exact ⟨z,its,n,r,k _ _ (.inl rfl) e⟩
 | tup xs=>obtain ⟨z,its,r,ob,e,c⟩:=x;exact ⟨z,its,r,ob,k _ _ (.inl rfl) e,c⟩
 | dK kvs=>obtain ⟨z,y,vs,r,ob,es,ep,e,c⟩:=x;exact ⟨z,y,vs,r,ob,es,ep,k _ _ (.inl rfl) e,c⟩
 | dT kvs=>
  obtain ⟨z,y,xs,r,ob,es,ep,e,c⟩:=x
  exact ⟨z,y,xs,Paired.mapP r fun p q z=>⟨z.1,ht _ _ z.2.1,z.2.2⟩,ob,es,ep,k _ _ (.inl rfl) e,c⟩
 | set S n=>obtain ⟨ob,es,ep,t,e,c⟩:=x;exact ⟨ob,es,ep,t,k _ _ (.inl rfl) e,c⟩
 | ins C dx fs=>
  obtain ⟨d,z,ne,e,mA,⟨od,es,ep,e2,c⟩,r⟩:=x
  exact ⟨ho _ d,z,ne,k _ _ (.inl rfl) e,mA,⟨od,es,ep,k _ _ (.inr d) e2,c⟩,r⟩
 | own y=>obtain ⟨ob,e⟩:=x;exact ⟨ob,k _ _ (.inl rfl) e⟩
 | xd fs=>obtain ⟨mA,⟨od,es,ep,e,c⟩,r⟩:=x;exact ⟨mA,⟨od,es,ep,k _ _ (.inl rfl) e,c⟩,r⟩
 | rng lo hi=>obtain ⟨t,u,v,e⟩:=x;exact ⟨t,u,v,k _ _ (.inl rfl) e⟩
 | frz ob u ih=>obtain ⟨e,q⟩:=x;exact ⟨k _ _ (.inl rfl) e,ih q⟩
 | tbl ps=>
  have e:h.get? a=some { cls:=.none,data:=.fields ps }:=x
  show h'.get? a=some { cls:=.none,data:=.fields ps }
  exact k a _ (.inl rfl) e
 | met f y=>
  have e:h.get? a=some (PySem.W.methodObj (.ref f) (.ref y)):=x
  show h'.get? a=some (PySem.W.methodObj (.ref f) (.ref y))
  exact k a _ (.inl rfl) e
 | ext φ=>obtain ⟨p,⟨o,e⟩,st⟩:=x;exact ⟨st _ _ p fun o q=>k _ _ (.inl rfl) q,⟨o,k _ _ (.inl rfl) e⟩,st⟩
theorem HOk.lt (x:HOk P w H h) (e:H a=some o):a < h.objs.size:=(x a o e).lt
theorem HOk.fresh (x:HOk P w H h) (e:h.objs.size <= a):H a=none:=by
 cases q:H a with
 | none=>rfl
 | some u=>exact absurd (yAG (x.lt q) e) (yBD _)
theorem HOk.kept (x:HOk P w H h) (k:∀ b u,h.get? b=some u->h'.get? b=some u):HOk P w H h':=fun a o e=>
 (x a o e).stay (fun b u _ q=>k b u q) (fun _ q=>q) fun _ _ q=>q
theorem HOk.laid (x:HOk P w H h) (k:∀ b u,h.get? b=some u->h'.get? b=some u) (hp:h.objs.size <= a) (new:ObjOk P w (upd H a o) h' a o):HOk P w (upd H a o) h':=fun b u e=>by
 have hn:=x.fresh hp
 by_cases hb:b=a
 .subst hb;rw [ZAC] at e;cases e;exact new
 .rw [ZAJ hb] at e
  exact (x b u e).stay (fun c v _ q=>k c v q) (fun c q=>by rw [ZAJ (ZAX q hn)];exact q) fun c xs q=>by rw [ZAJ (ZAX q hn)];exact q
end
noncomputable def Rd (H:Hp) (a:Addr) (u:HO):Prop:=H a=some u∨∃ o,H a=some (.frz o u)
theorem Rd.ok {P:Program} {w:World} {H:Hp} {h:Heap} {a:Addr} {u:HO} (r:Rd H a u) (x:HOk P w H h):ObjOk P w H h a u:=by
 rcases r with r | ⟨o,r⟩
 .exact x a u r
 .obtain ⟨_,q⟩:=x a _ r
  exact q
noncomputable def Mut:Option HO->Prop
 | some (.lst _)=>True
 | some (.dK _)=>True
 | some (.dT _)=>True
 | some (.set _ _)=>True
 | some (.ins _ _ _)=>True
 | some (.ext _)=>True
 | _=>False
section
variable {P:Program} {w:World} {H:Hp} {h h':Heap} {x e:Addr} {o':HO}
theorem HOk.write (ok:HOk P w H h) (mu:Mut (H x)) (he:e=x∨H e=some (.own x)) (k:∀ b u,b≠e->h.get? b=some u->h'.get? b=some u) (heo:∃ u,h'.get? e=some u)
  (new:ObjOk P w (upd H x o') h' x o'):HOk P w (upd H x o') h':=fun b u q=>by
 have nown:∀ c y,H c=some (.own y)->c≠x:=fun c y r z=>by subst z;rw [r] at mu;exact mu
 have ntup:∀ c xs,H c=some (.tup xs)->c≠x:=fun c xs r z=>by subst z;rw [r] at mu;exact mu
 by_cases hb:b=x
 .subst hb;rw [ZAC] at q;cases q;exact new
 .rw [ZAJ hb] at q
  by_cases hbe:b=e
  .have q':H b=some (.own x):=by
    rcases he with z | z
    .exact absurd (hbe.trans z) hb
    .rw [hbe];exact z
   rw [q] at q';cases q'
   obtain ⟨v,hv⟩:=heo
   exact ⟨v,by rw [hbe];exact hv⟩
  .refine (ok b u q).stay (fun c v hc r=>k c v ?_ r) (fun c r=>by rw [ZAJ (nown c b r)];exact r) fun c xs r=>by rw [ZAJ (ntup c xs r)];exact r
   rcases hc with rfl | hc
   .exact hbe
   .rintro rfl
    rcases he with z | z
    .exact nown c b hc z
    .rw [hc] at z;cases z;exact hb rfl
end
structure Un (fs ex:List Addr) (H H':Hp) (h h':Heap):Prop where
 keep:∀ b o,h.get? b=some o->H b=none->b∉fs->b∉ex->h'.get? b=some o
 slot:∀ b o,h.get? b=some o->H b=none->b∈fs->b∉ex->∃ sl,h'.get? b=some { o with slots:=sl }
 free:∀ b o,h.get? b=some o->H b=none->b∉ex->H' b=none
 there:∀ b o,h.get? b=some o->b∉ex->∃ o',h'.get? b=some o'
 tups:∀ b xs,H b=some (.tup xs)->H' b=some (.tup xs)
 frzs:∀ b o u,H b=some (.frz o u)->H' b=some (.frz o u)
 tbls:∀ b ps,H b=some (.tbl ps)->∃ more,H' b=some (.tbl (ps++more))
section
variable {fs fs' ex ex':List Addr} {H H1 H2:Hp} {h h1 h2 h':Heap} {a x e:Addr} {o:HO}
theorem Un.any (u:Un fs ex H H1 h h1) {b:Addr} {ob:Obj} (q:h.get? b=some ob) (n:H b=none) (hx:b∉ex):∃ sl,h1.get? b=some { ob with slots:=sl }:=by
 by_cases hb:b∈fs
 .exact u.slot b ob q n hb hx
 .exact ⟨ob.slots,u.keep b ob q n hb hx⟩
theorem Un.kept (k:∀ b u,h.get? b=some u->h'.get? b=some u):Un fs ex H H h h' :=
 ⟨fun b ob q _ _ _=>k b ob q,fun b ob q _ _ _=>⟨ob.slots,k b ob q⟩,fun _ _ _ n _=>n,fun b ob q _=>⟨ob,k b ob q⟩,fun _ _ q=>q,fun _ _ _ q=>q,fun _ ps q=>⟨#[],by rw [q];simp⟩⟩
theorem Un.refl:Un fs ex H H h h:=Un.kept fun _ _ q=>q
theorem Un.laid (k:∀ b u,h.get? b=some u->h'.get? b=some u) (hp:h.objs.size <= a) (hn:H a=none):Un fs ex H (upd H a o) h h' where
 keep:=fun b u q _ _ _=>k b u q
 slot:=fun b u q _ _ _=>⟨u.slots,k b u q⟩
 free:=fun b u q n _=>by rw [ZAJ (yAE (yAG (Heap.lt_size q) hp))];exact n
 there:=fun b u q _=>⟨u,k b u q⟩
 tups:=fun b xs q=>by rw [ZAJ (ZAX q hn)];exact q
 frzs:=fun b u xs q=>by rw [ZAJ (ZAX q hn)];exact q
 tbls:=fun b ps q=>⟨#[],by rw [ZAJ (ZAX q hn),q];simp⟩
theorem Un.write (mu:Mut (H x)) (he:e=x∨H e=some (.own x)) (k:∀ b u,b≠e->h.get? b=some u->h'.get? b=some u) (heo:∃ u,h'.get? e=some u):Un fs ex H (upd H x o) h h':=by
 have hx:∀ b,H b=none->b≠x:=fun b n z=>by subst z;rw [n] at mu;exact mu
 have hb:∀ b,H b=none->b≠e:=fun b n z=>by
  subst z
  rcases he with r | r
  .exact hx b n r
  .rw [n] at r;cases r
 have hm:∀ b u,H b=some u->¬ Mut (some u)->b≠x:=fun b u q nm z=>by subst z;rw [q] at mu;exact nm mu
 refine ⟨fun b u q n _ _=>k b u (hb b n) q,fun b u q n _ _=>⟨u.slots,k b u (hb b n) q⟩,fun b u q n _=>by rw [ZAJ (hx b n)];exact n,fun b u q _=>?_,
  fun b xs q=>by rw [ZAJ (hm b _ q fun z=>z)];exact q,fun b u xs q=>by rw [ZAJ (hm b _ q fun z=>z)];exact q,fun b ps q=>⟨#[],by rw [ZAJ (hm b _ q fun z=>z),q];simp⟩⟩
 by_cases hbe:b=e
 .subst hbe;exact heo
 .exact ⟨u,k b u hbe q⟩
end
noncomputable def trk (h:Heap) (H:Hp):List Addr:=(List.range h.objs.size).filter fun a=>(H a).isSome
noncomputable def hidT (h:Heap) (H:Hp):Heap:=PySem.W.hideAll h (trk h H)
theorem hidT_size (h:Heap) (H:Hp):(hidT h H).objs.size=h.objs.size:=PySem.W.hideAll_size _ _
theorem hidT_get {h:Heap} {H:Hp} {b:Addr} {o:Obj} (e:h.get? b=some o) (n:H b=none):(hidT h H).get? b=some o :=
 PySem.W.hideAll_get _ e fun hm=>by
  have q:(H b).isSome=true:=(List.mem_filter.mp hm).2
  rw [n] at q;simp at q
theorem of_hidT {h:Heap} {H:Hp} {b:Addr} {o:Obj} (e:(hidT h H).get? b=some o):h.get? b=some o /\ H b=none:=by
 have e':h.get? b=some o:=PySem.W.of_hideAll (trk h H) e
 refine ⟨e',?_⟩
 cases q:H b with
 | none=>rfl
 | some x=>
  have hm:b∈trk h H:=List.mem_filter.mpr ⟨List.mem_range.mpr (Heap.lt_size e'),by simp [q]⟩
  have z:(hidT h H).get? b=none:=PySem.W.hideAll_none (trk h H) hm
  rw [z] at e;cases e
structure Mod (K:W.Frag) (mg:Str->Option Value) (base:Heap):Prop where
 kin:K.In base
 glob:base.Ns mainGlobals mg
 blt:∃ mb,base.Ns builtinsNs mb /\ ∀ x:Str,x≠"__name__"->mb x=bootBuiltins x
 nolimit:base.NoLimit
structure Cx where
 prog:Program
 w:World
 K:W.Frag
 mg:Str->Option Value
 base:Heap
 A:Around
 N:List Str
 s₀:Shared
 H₀:Hp
 env:Env
 outer:List Env
 stack:List Env
 ex:List Addr
 fn:Str->Bool
 calm:Bool
 pn:List (Addr×Obj)
 xe:Value->Shared->Prop
noncomputable def frs (l:List Env):List Addr:=l.filterMap (·.frame)
noncomputable abbrev Cx.fs (X:Cx):List Addr:=frs X.outer
noncomputable def Vis (sc:Scope) (x:Str):Prop:=sc.names.lookup x=some .local∨sc.names.lookup x=some .cell∨sc.names.lookup x=some .free
noncomputable def Loc (sc:Scope) (x:Str):Prop:=sc.names.lookup x=some .local∨sc.names.lookup x=some .cell
noncomputable def Look (env:Env) (h:Heap) (m:Str->Option Value) (x:Str) (u:Value):Prop :=
 (env.kindOf x=some .local /\ m x=some u)∨((env.kindOf x=some .cell∨env.kindOf x=some .free) /\ ∃ c,env.cells.lookup x=some c /\ h.IsCell c (some u))
structure Cx.Ok (X:Cx):Prop where
 mod:Mod X.K X.mg X.base
 kind:X.env.scope.kind=.function
 glob:X.env.globals=mainGlobals
 blt:X.env.builtins=builtinsNs
 above:X.s₀.heap.objs.size <= X.env.locals
 inj:∀ x y c,X.env.cells.lookup x=some c->X.env.cells.lookup y=some c->x=y
 has:∀ x,(X.env.kindOf x=some .cell∨X.env.kindOf x=some .free)->∃ c,X.env.cells.lookup x=some c
 cab:∀ x c,X.fn x=true->X.env.cells.lookup x=some c->X.s₀.heap.objs.size <= c
 hd:X.calm=true->X.A.handled=none
 frames:X.A.frames=some X.stack
 stk:X.stack=X.outer∨(X.stack=X.env::X.outer /\ X.env.frame=some X.env.locals)
 exf:∀ b∈X.ex,b≠X.env.locals /\ ∀ x c,X.env.cells.lookup x=some c->c≠b
 bs:∀ b o,X.base.get? b=some o->X.s₀.heap.get? b=some o /\ X.H₀ b=none
 bsz:X.base.objs.size <= X.s₀.heap.objs.size
 noex:∀ b o,X.base.get? b=some o->b∉X.ex
 exfs:∀ b∈X.ex,b∉X.fs
 funs:X.s₀.heap.FunFrames X.base X.outer
 frf:∀ b∈X.fs,X.H₀ b=none
structure Inv (X:Cx) (pins:List (Addr×Obj)) (σ:List (Option V)) (H:Hp) (s:Shared):Prop where
 ok:X.Ok
 os:s.os=X.s₀.os
 bare:AllBare s.gens
 base:Un X.fs X.ex X.H₀ H X.s₀.heap s.heap
 loc:∃ m,s.heap.Ns X.env.locals m /\ ∀ (i:Nat) (x:Str) (v:V),X.N[i]?=some x->σ[i]?=some (some v)->Vis X.env.scope x->∃ u,RelV v u /\ Look X.env s.heap m x u
 cell:∀ x c,X.env.cells.lookup x=some c->∃ v,s.heap.IsCell c v
 free:H X.env.locals=none
 freeC:∀ x c,X.env.cells.lookup x=some c->H c=none
 pin:∀ p∈X.pn++pins,s.heap.get? p.1=some p.2 /\ H p.1=none /\ p.1≠X.env.locals /\ p.1∉X.fs /\ ∀ v,p.2.data≠.cell v
 hok:HOk X.prog X.w H s.heap
 len:σ.length=X.N.length
section
variable {X:Cx} {pins:List (Addr×Obj)} {σ:List (Option V)} {H H':Hp} {s:Shared} {h':Heap}
theorem Cx.Ok.nofr (ok:X.Ok) {b:Addr} {o:Obj} (e:X.base.get? b=some o):b∉X.fs:=fun hb=>by
 have:=(ok.funs.mem hb).1
 rw [e] at this;cases this
theorem Inv.bs (I:Inv X pins σ H s):∀ b o,X.base.get? b=some o->s.heap.get? b=some o /\ H b=none:=fun b o e=>
 ⟨I.base.keep b o (I.ok.bs b o e).1 (I.ok.bs b o e).2 (I.ok.nofr e) (I.ok.noex b o e),I.base.free b o (I.ok.bs b o e).1 (I.ok.bs b o e).2 (I.ok.noex b o e)⟩
theorem Inv.bk (I:Inv X pins σ H s):∀ b o,X.base.get? b=some o->s.heap.get? b=some o:=fun b o e=>(I.bs b o e).1
theorem Inv.mod (I:Inv X pins σ H s):Mod X.K X.mg X.base:=I.ok.mod
theorem Inv.kIn (I:Inv X pins σ H s):X.K.In s.heap:=I.ok.mod.kin.keeps I.bk
theorem Inv.lt (I:Inv X pins σ H s):X.env.locals < s.heap.objs.size:=let ⟨_,hn,_⟩:=I.loc;hn.lt
theorem Inv.sz (I:Inv X pins σ H s):X.s₀.heap.objs.size <= s.heap.objs.size:=yAD I.ok.above (Nat.le_of_lt I.lt)
theorem Inv.nofs (I:Inv X pins σ H s) {a:Addr} (h:s.heap.objs.size <= a):a∉X.fs:=fun hb=>by
 obtain ⟨_,o,ho,_⟩:=I.ok.funs.mem hb
 exact absurd (yAG (Heap.lt_size ho) (yAD I.sz h)) (yBD _)
theorem Inv.cne (I:Inv X pins σ H s):∀ x c,X.env.cells.lookup x=some c->c≠X.env.locals:=fun x c e z=>by
 obtain ⟨v,o,ho,hd⟩:=I.cell x c e
 obtain ⟨m,⟨o',es,ep,ho',hd',_⟩,_⟩:=I.loc
 rw [z,ho'] at ho;cases ho;rw [hd'] at hd;cases hd
theorem Inv.funs (I:Inv X pins σ H s):s.heap.FunFrames X.base X.outer:=by
 have all:∀ (l:List Env),(∀ b∈frs l,b∈X.fs)->X.s₀.heap.FunFrames X.base l->s.heap.FunFrames X.base l:=by
  intro l
  induction l with
  | nil=>intro _ _;trivial
  | cons env r ih=>
   intro hs hl
   obtain ⟨hk,⟨L,o,hf,hn,ho,hd⟩,hr⟩:=hl
   have hL:L∈X.fs:=hs L (by unfold frs;rw [List.filterMap_cons,hf];exact yAK)
   obtain ⟨sl,e⟩:=I.base.slot L o ho (I.ok.frf L hL) hL fun z=>I.ok.exfs L z hL
   exact ⟨hk,⟨L,_,hf,hn,e,hd⟩,ih (fun b hb=>hs b (by unfold frs;rw [List.filterMap_cons,hf];exact yAP _ hb)) hr⟩
 exact all X.outer (fun _ hb=>hb) I.ok.funs
theorem Inv.stack (I:Inv X pins σ H s):s.heap.FunFrames X.base X.stack:=by
 rcases I.ok.stk with e | ⟨e,hf⟩
 .rw [e];exact I.funs
 .rw [e]
  obtain ⟨m,hn,_⟩:=I.loc
  refine .cons (by rw [I.ok.kind];decide) hf hn ?_ I.funs
  exact Heap.get?_none_of_le (yAD I.ok.bsz I.ok.above)
theorem Inv.stkSub (I:Inv X pins σ H s):∀ b∈frs X.stack,b∈X.env.locals::X.fs:=fun b hb=>by
 rcases I.ok.stk with e | ⟨e,hf⟩
 .rw [e] at hb;exact yAP _ hb
 .rw [e] at hb
  unfold frs at hb
  rw [List.filterMap_cons,hf] at hb
  exact hb
theorem Inv.stkFree (I:Inv X pins σ H s):∀ b∈frs X.stack,H b=none:=fun b hb=>by
 rcases yAL.mp (I.stkSub b hb) with e | hb
 .rw [e];exact I.free
 .obtain ⟨_,o,ho,_⟩:=I.ok.funs.mem hb
  exact I.base.free b o ho (I.ok.frf b hb) fun z=>I.ok.exfs b z hb
theorem Inv.step {g':Array GenState} {t':Nat} {d':Drawn} {ch:List Addr} (I:Inv X pins σ H s)
  (hch:∀ b∈ch,(b∈X.ex∨X.s₀.heap.objs.size <= b) /\ b≠X.env.locals /\ (∀ x c,X.env.cells.lookup x=some c->c≠b) /\ ∀ p∈X.pn++pins,p.1≠b)
  (keep:∀ b o,b≠X.env.locals->b∉X.fs->b∉ch->s.heap.get? b=some o->H b=none->h'.get? b=some o)
  (slot:∀ b o,b≠X.env.locals->b∈X.fs->b∉ch->s.heap.get? b=some o->H b=none->∃ sl,h'.get? b=some { o with slots:=sl }) (free:∀ b o,b∉ch->s.heap.get? b=some o->H b=none->H' b=none)
  (there:∀ b o,b∉ch->s.heap.get? b=some o->∃ o',h'.get? b=some o')
  (tups:∀ b xs,H b=some (.tup xs)->H' b=some (.tup xs)) (frzs:∀ b o u,H b=some (.frz o u)->H' b=some (.frz o u)) (tbls:∀ b ps,H b=some (.tbl ps)->∃ more,H' b=some (.tbl (ps++more)))
  (ns:∀ m,s.heap.Ns X.env.locals m->h'.Ns X.env.locals m) (hok:HOk X.prog X.w H' h') (hg:AllBare g') :
  Inv X pins σ H' { s with heap:=h',gens:=g',drawn:=d',toks:=t' }:=by
 have neL:∀ b o,X.s₀.heap.get? b=some o->b≠X.env.locals:=fun b o e=>yAE (yAG (Heap.lt_size e) I.ok.above)
 have neC:∀ b o,X.s₀.heap.get? b=some o->b∉X.ex->b∉ch:=fun b o e hx hb=>by
  rcases (hch b hb).1 with z | z
  .exact hx z
  .exact absurd (yAG (Heap.lt_size e) z) (yBD _)
 have cellK:∀ x c,X.env.cells.lookup x=some c->∀ v,s.heap.IsCell c v->h'.IsCell c v:=fun x c e v ⟨o,ho,hd⟩=>by
  have nch:c∉ch:=fun z=>(hch c z).2.2.1 x c e rfl
  by_cases hc:c∈X.fs
  .obtain ⟨sl,q⟩:=slot c o (I.cne x c e) hc nch ho (I.freeC x c e)
   exact ⟨_,q,hd⟩
  .exact ⟨o,keep c o (I.cne x c e) hc nch ho (I.freeC x c e),hd⟩
 refine ⟨I.ok,I.os,hg,⟨fun b o e n hb hx=>?_,fun b o e n hb hx=>?_,fun b o e n hx=>?_,fun b o e hx=>?_,fun b xs e=>tups b xs (I.base.tups b xs e),fun b o xs e=>frzs b o xs (I.base.frzs b o xs e),fun b ps e=>?_⟩,?_,fun x c e=>?_,?_,fun x c e=>?_,fun p hp=>?_,hok,I.len⟩
 .exact keep b o (neL b o e) hb (neC b o e hx) (I.base.keep b o e n hb hx) (I.base.free b o e n hx)
 .obtain ⟨sl,e1⟩:=I.base.slot b o e n hb hx
  obtain ⟨sl',e2⟩:=slot b _ (neL b o e) hb (neC b o e hx) e1 (I.base.free b o e n hx)
  exact ⟨sl',e2⟩
 .obtain ⟨o',e1⟩:=I.base.there b o e hx
  exact free b o' (neC b o e hx) e1 (I.base.free b o e n hx)
 .obtain ⟨o',e1⟩:=I.base.there b o e hx
  exact there b o' (neC b o e hx) e1
 .obtain ⟨m1,e1⟩:=I.base.tbls b ps e
  obtain ⟨m2,e2⟩:=tbls b _ e1
  exact ⟨m1++m2,by rw [e2,Array.append_assoc]⟩
 .obtain ⟨m,hn,hl⟩:=I.loc
  refine ⟨m,ns m hn,fun i x v e1 e2 e3=>?_⟩
  obtain ⟨u,r,l⟩:=hl i x v e1 e2 e3
  refine ⟨u,r,?_⟩
  rcases l with l | ⟨k,c,e,z⟩
  .exact .inl l
  .exact .inr ⟨k,c,e,cellK x c e _ z⟩
 .obtain ⟨v,z⟩:=I.cell x c e
  exact ⟨v,cellK x c e v z⟩
 .obtain ⟨m,⟨o,_,_,ho,_⟩,_⟩:=I.loc
  exact free _ o (fun z=>(hch _ z).2.1 rfl) ho I.free
 .obtain ⟨v,o,ho,hd⟩:=I.cell x c e
  exact free c o (fun z=>(hch c z).2.2.1 x c e rfl) ho (I.freeC x c e)
 .obtain ⟨e,n,ne,nf,d⟩:=I.pin p hp
  have nch:p.1∉ch:=fun z=>(hch p.1 z).2.2.2 p hp rfl
  exact ⟨keep p.1 p.2 ne nf nch e n,free p.1 p.2 nch e n,ne,nf,d⟩
theorem Inv.un {t':Nat} (I:Inv X pins σ H s) (u:Un X.fs [] H H' s.heap h') (hok:HOk X.prog X.w H' h'):Inv X pins σ H' { s with heap:=h',toks:=t' }:=by
 obtain ⟨m,⟨o,es,ep,ho,r⟩,_⟩:=id I.loc
 obtain ⟨sl,hL⟩:=u.any ho I.free (by simp)
 exact I.step (g':=s.gens) (d':=s.drawn) (ch:=[]) (fun _ z=>nomatch z) (fun b o _ hb _ e n=>u.keep b o e n hb (by simp)) (fun b o _ hb _ e n=>u.slot b o e n hb (by simp)) (fun b o _ e n=>u.free b o e n (by simp)) (fun b o _ e=>u.there b o e (by simp)) u.tups u.frzs u.tbls (fun m' hm=>by
  obtain ⟨o',es',ep',ho',r'⟩:=hm
  rw [ho] at ho';cases ho'
  exact ⟨_,es',ep',hL,r'⟩) hok I.bare
theorem Inv.call {g':Array GenState} {t':Nat} {d':Drawn} {ch:List Addr} (I:Inv X pins σ H s) (u:Un (frs X.stack) ch H H' s.heap h') (hok:HOk X.prog X.w H' h') (hg:AllBare g')
  (hch:∀ b∈ch,(b∈X.ex∨X.s₀.heap.objs.size <= b) /\ b≠X.env.locals /\ (∀ x c,X.env.cells.lookup x=some c->c≠b) /\ ∀ p∈X.pn++pins,p.1≠b) :
  Inv X pins σ H' { s with heap:=h',gens:=g',drawn:=d',toks:=t' }:=by
 obtain ⟨m,⟨o,es,ep,ho,r⟩,_⟩:=id I.loc
 obtain ⟨sl,hL⟩:=u.any ho I.free fun z=>(hch _ z).2.1 rfl
 exact I.step (ch:=ch) hch (fun b o hL hb hc e n=>u.keep b o e n (fun z=>(yAL.mp (I.stkSub b z)).elim hL hb) hc) (fun b o _ _ hc e n=>u.any e n hc) (fun b o hc e n=>u.free b o e n hc) (fun b o hc e=>u.there b o e hc) u.tups u.frzs u.tbls (fun m' hm=>by
  obtain ⟨o',es',ep',ho',r'⟩:=hm
  rw [ho] at ho';cases ho'
  exact ⟨_,es',ep',hL,r'⟩) hok hg
theorem Inv.turned {t':Nat} {it:Addr} (I:Inv X pins σ H s) (k:∀ b o,b≠it->s.heap.get? b=some o->h'.get? b=some o) (hn:H it=none) (hL:it≠X.env.locals)
  (h1:it∈X.ex∨X.s₀.heap.objs.size <= it) (h2:∀ x c,X.env.cells.lookup x=some c->c≠it) (h3:∀ p∈X.pn++pins,p.1≠it):Inv X pins σ H { s with heap:=h',toks:=t' }:=by
 have nit:∀ b u,H b=some u->b≠it:=fun b u e z=>by rw [z,hn] at e;cases e
 refine I.step (g':=s.gens) (d':=s.drawn) (ch:=[it]) (fun b hb=>?_) (fun b o _ _ hc e _=>k b o (fun z=>hc (by simp [z])) e) (fun b o _ _ hc e _=>⟨o.slots,k b o (fun z=>hc (by simp [z])) e⟩) (fun _ _ _ _ n=>n)
  (fun b o hc e=>⟨o,k b o (fun z=>hc (by simp [z])) e⟩) (fun _ _ e=>e) (fun _ _ _ e=>e) (fun b ps e=>⟨#[],by rw [e];simp⟩) (fun m hm=>?_) (fun b u e=>?_) I.bare
 .have e:b=it:=by simpa using hb
  subst e
  exact ⟨h1,hL,h2,h3⟩
 .obtain ⟨o,es,ep,ho,r⟩:=hm
  exact ⟨o,es,ep,k _ o (Ne.symm hL) ho,r⟩
 .refine (I.hok b u e).stay (fun c v hc q=>k c v ?_ q) (fun _ q=>q) fun _ _ q=>q
  rcases hc with z | z
  .rw [z];exact nit b u e
  .exact nit c _ z
theorem Inv.tok (I:Inv X pins σ H s) (t:Nat):Inv X pins σ H { s with toks:=t }:=I.un (h':=s.heap) (t':=t) Un.refl I.hok
theorem Inv.kept {t':Nat} (I:Inv X pins σ H s) (k:∀ b u,s.heap.get? b=some u->h'.get? b=some u):Inv X pins σ H { s with heap:=h',toks:=t' }:=I.un (Un.kept k) (I.hok.kept k)
theorem Inv.laid {a:Addr} {o:HO} {t':Nat} (I:Inv X pins σ H s) (k:∀ b u,s.heap.get? b=some u->h'.get? b=some u) (hp:s.heap.objs.size <= a) (new:ObjOk X.prog X.w (upd H a o) h' a o) :
  Inv X pins σ (upd H a o) { s with heap:=h',toks:=t' }:=I.un (Un.laid k hp (I.hok.fresh hp)) (I.hok.laid k hp new)
theorem Inv.write {x e:Addr} {o:HO} {t':Nat} (I:Inv X pins σ H s) (mu:Mut (H x)) (he:e=x∨H e=some (.own x)) (k:∀ b u,b≠e->s.heap.get? b=some u->h'.get? b=some u) (heo:∃ u,h'.get? e=some u)
  (new:ObjOk X.prog X.w (upd H x o) h' x o):Inv X pins σ (upd H x o) { s with heap:=h',toks:=t' }:=I.un (Un.write mu he k heo) (I.hok.write mu he k heo new)
theorem Inv.pins_of {pins':List (Addr×Obj)} (I:Inv X pins σ H s) (h:∀ p∈pins',s.heap.get? p.1=some p.2 /\ H p.1=none /\ p.1≠X.env.locals /\ p.1∉X.fs /\ ∀ v,p.2.data≠.cell v):Inv X pins' σ H s :=
 ⟨I.ok,I.os,I.bare,I.base,I.loc,I.cell,I.free,I.freeC,fun p hp=>(yBF.mp hp).elim (fun z=>I.pin p (List.mem_append_left _ z)) (h p),I.hok,I.len⟩
theorem nodup_ix {N:List Str} (hN:N.Nodup) {i j:Nat} {x:Str} (a:N[i]?=some x) (b:N[j]?=some x):i=j:=by
 obtain ⟨h1,e1⟩:=yAI.mp a
 obtain ⟨h2,e2⟩:=yAI.mp b
 exact (List.getElem_inj hN).mp (e1.trans e2.symm)
theorem store_ok2 {M:Model} {A:Around} {E:Value->Shared->Prop} {i:Nat} {x:Str} {v:V} {u:Value} {Q:Unit->Shared->Prop} (I:Inv X pins σ H s) (hN:X.N.Nodup) (hi:X.N[i]?=some x) (hx:Loc X.env.scope x) (r:RelV v u)
  (h:∀ s',Inv X pins (σ.set i (some v)) H s'->(∃ a,Heap.SameBut a s.heap s'.heap /\ (a=X.env.locals∨X.env.cells.lookup x=some a))->Q () s') (hf:X.fn x=true∨X.env.scope.names.lookup x=some .local:=by first | exact .inl rfl | exact .inr rfl | assumption):wpAny M A (storeName X.env x u) Q E s:=by
 obtain ⟨m,hn,hl⟩:=id I.loc
 have hcls:(X.env.scope.kind == .class || (X.env.scope.kind == .module && X.env.locals != X.env.globals))=false:=by rw [I.ok.kind];rfl
 have hiσ:i < σ.length:=by rw [I.len];exact (yAI.mp hi).1
 have cne:=I.cne
 have tracked:∀ {a:Addr} {h':Heap},(∃ o,s.heap.get? a=some o /\ H a=none)->Heap.SameBut a s.heap h'->HOk X.prog X.w H h':=fun {a h'} ha hs b ob e=>by
  obtain ⟨_,_,hfree⟩:=ha
  refine (I.hok b ob e).stay (fun c w' hc q=>(hs.2 c ?_).trans q) (fun _ q=>q) fun _ _ q=>q
  rintro rfl
  rcases hc with rfl | hc
  .rw [hfree] at e;cases e
  .rw [hfree] at hc;cases hc
 rcases hx with hk | hk
 .refine wpAny_storeName_local hk hn (fun h' hn' hs=>?_) hcls
  obtain ⟨oL,_,_,hoL,_⟩:=id hn
  refine h _ ⟨I.ok,I.os,I.bare,⟨fun b o e n hb hx=>?_,fun b o e n hb hx=>?_,I.base.free,fun b o e hx=>?_,I.base.tups,I.base.frzs,I.base.tbls⟩,⟨_,hn',fun j y v' e1 e2 e3=>?_⟩,fun y c e=>?_,I.free,I.freeC,fun p hp=>?_,tracked ⟨oL,hoL,I.free⟩ hs,by simpa using I.len⟩ ⟨_,hs,.inl rfl⟩
  .exact (hs.2 b (yAE (yAG (Heap.lt_size e) I.ok.above))).trans (I.base.keep b o e n hb hx)
  .obtain ⟨sl,e1⟩:=I.base.slot b o e n hb hx
   exact ⟨sl,(hs.2 b (yAE (yAG (Heap.lt_size e) I.ok.above))).trans e1⟩
  .obtain ⟨o',e1⟩:=I.base.there b o e hx
   exact ⟨o',(hs.2 b (yAE (yAG (Heap.lt_size e) I.ok.above))).trans e1⟩
  .by_cases hj:j=i
   .subst hj
    rw [hi] at e1;cases e1
    rw [List.getElem?_set_self hiσ] at e2
    cases e2
    exact ⟨u,r,.inl ⟨hk,by simp⟩⟩
   .rw [List.getElem?_set_ne (Ne.symm hj)] at e2
    obtain ⟨u',r',q⟩:=hl j y v' e1 e2 e3
    refine ⟨u',r',?_⟩
    rcases q with ⟨k,e⟩ | ⟨k,c,e,z⟩
    .refine .inl ⟨k,?_⟩
     have:y≠x:=fun e=>hj (nodup_ix hN e1 (e ▸ hi))
     simp [this,e]
    .exact .inr ⟨k,c,e,z.sameBut hs (cne y c e)⟩
  .obtain ⟨w',z⟩:=I.cell y c e
   exact ⟨w',z.sameBut hs (cne y c e)⟩
  .obtain ⟨e,n,ne,nf,d⟩:=I.pin p hp
   exact ⟨(hs.2 p.1 ne).trans e,n,ne,nf,d⟩
 .have hfn:X.fn x=true:=by
   rcases hf with z | z
   .exact z
   .rw [z] at hk;cases hk
  obtain ⟨c,hc⟩:=I.ok.has x (.inl hk)
  obtain ⟨w',z⟩:=I.cell x c hc
  refine wpAny_storeName_cell I.ok.kind hk hc z (fun h' hc' hs=>?_)
  obtain ⟨oc,hoc,hocd⟩:=id z
  refine h { s with heap:=h' } ⟨I.ok,I.os,I.bare,⟨fun b o e n hb hx=>?_,fun b o e n hb hx=>?_,I.base.free,fun b o e hx=>?_,I.base.tups,I.base.frzs,I.base.tbls⟩,⟨m,hn.sameBut hs (Ne.symm (cne x c hc)),fun j y v' e1 e2 e3=>?_⟩,fun y c' e=>?_,I.free,I.freeC,fun p hp=>?_,tracked ⟨oc,hoc,I.freeC x c hc⟩ hs,by simpa using I.len⟩ ⟨c,hs,.inr hc⟩
  .exact (hs.2 b (yAE (yAG (Heap.lt_size e) (I.ok.cab x c hfn hc)))).trans (I.base.keep b o e n hb hx)
  .obtain ⟨sl,e1⟩:=I.base.slot b o e n hb hx
   exact ⟨sl,(hs.2 b (yAE (yAG (Heap.lt_size e) (I.ok.cab x c hfn hc)))).trans e1⟩
  .obtain ⟨o',e1⟩:=I.base.there b o e hx
   exact ⟨o',(hs.2 b (yAE (yAG (Heap.lt_size e) (I.ok.cab x c hfn hc)))).trans e1⟩
  .by_cases hj:j=i
   .subst hj
    rw [hi] at e1;cases e1
    rw [List.getElem?_set_self hiσ] at e2
    cases e2
    exact ⟨u,r,.inr ⟨.inl hk,c,hc,hc'⟩⟩
   .rw [List.getElem?_set_ne (Ne.symm hj)] at e2
    obtain ⟨u',r',q⟩:=hl j y v' e1 e2 e3
    refine ⟨u',r',?_⟩
    rcases q with q | ⟨k,c',e,z'⟩
    .exact .inl q
    .refine .inr ⟨k,c',e,z'.sameBut hs ?_⟩
     rintro rfl
     exact hj (nodup_ix hN e1 (I.ok.inj _ _ _ e hc ▸ hi))
  .by_cases hcc:c'=c
   .subst hcc;exact ⟨_,hc'⟩
   .obtain ⟨w2,z2⟩:=I.cell y c' e
    exact ⟨w2,z2.sameBut hs hcc⟩
  .obtain ⟨e,n,ne,nf,d⟩:=I.pin p hp
   refine ⟨(hs.2 p.1 ?_).trans e,n,ne,nf,d⟩
   intro q
   rw [q,hoc] at e
   have q':oc=p.2:=Option.some.inj e
   exact d w' (by rw [<- q'];exact hocd)
theorem ZCW {M:Model} {A:Around} {E:Value->Shared->Prop} {i:Nat} {x:Str} {v:V} {u:Value} {Q:Unit->Shared->Prop} (I:Inv X pins σ H s) (hN:X.N.Nodup) (hi:X.N[i]?=some x) (hx:Loc X.env.scope x) (r:RelV v u)
  (h:∀ s',Inv X pins (σ.set i (some v)) H s'->Q () s') (hf:X.fn x=true∨X.env.scope.names.lookup x=some .local:=by first | exact .inl rfl | exact .inr rfl | assumption):wpAny M A (storeName X.env x u) Q E s :=
 store_ok2 I hN hi hx r (fun s' I' _=>h s' I') hf
theorem Inv.call' {s':Shared} {ch:List Addr} (I:Inv X pins σ H s) (ho:s'.os=s.os) (u:Un (frs X.stack) ch H H' s.heap s'.heap) (hok:HOk X.prog X.w H' s'.heap) (hg:AllBare s'.gens)
  (hch:∀ b∈ch,(b∈X.ex∨X.s₀.heap.objs.size <= b) /\ b≠X.env.locals /\ (∀ x c,X.env.cells.lookup x=some c->c≠b) /\ ∀ p∈X.pn++pins,p.1≠b):Inv X pins σ H' s':=by
 obtain ⟨h',g',d',t',o'⟩:=s'
 have e:o'=s.os:=ho
 subst e
 exact I.call (g':=g') (t':=t') (d':=d') u hok hg hch
end
noncomputable abbrev XK:=Value->Option Addr->Hp->Prop
noncomputable abbrev St:=List (Option V)
noncomputable abbrev VK:=V->Hp->Prop
noncomputable abbrev TE:=St->Hp->VK->Prop
noncomputable abbrev TT:=St->Hp->(Bool->Hp->Prop)->Prop
noncomputable abbrev TA:=St->Hp->(List V->Hp->Prop)->Prop
structure Ends where
 nx:St->Hp->Prop
 rt:VK
 bk:St->Hp->Prop:=fun _ _=>False
 ct:St->Hp->Prop:=fun _ _=>False
noncomputable abbrev TS:=Ends->St->Hp->Prop
noncomputable def EP (X:Cx) (pins:List (Addr×Obj)) (σ:St) (Q:VK) (u:Value) (s':Shared):Prop:=∃ v H',Inv X pins σ H' s' /\ RelV v u /\ Q v H'
noncomputable def TP (X:Cx) (pins:List (Addr×Obj)) (σ:St) (Q:Bool->Hp->Prop) (b:Bool) (s':Shared):Prop:=∃ H',Inv X pins σ H' s' /\ Q b H'
noncomputable def AP (X:Cx) (pins:List (Addr×Obj)) (σ:St) (Q:List V->Hp->Prop) (us:List Value) (s':Shared):Prop:=∃ vs H',Inv X pins σ H' s' /\ Vals vs us /\ Q vs H'
noncomputable def SP (X:Cx) (pins:List (Addr×Obj)) (D:Ends) (f:Flow) (s':Shared):Prop :=
 match f with
 | .next=>∃ σ' H',Inv X pins σ' H' s' /\ D.nx σ' H'
 | .brk=>∃ σ' H',Inv X pins σ' H' s' /\ D.bk σ' H'
 | .cont=>∃ σ' H',Inv X pins σ' H' s' /\ D.ct σ' H'
 | .ret u=>∃ v σ' H',Inv X pins σ' H' s' /\ RelV v u /\ D.rt v H'
noncomputable def PE (X:Cx) (e:Expr) (t:TE):Prop :=
 ∀ (pins:List (Addr×Obj)) (s:Shared) (σ:St) (H:Hp) (Q:VK),Inv X pins σ H s->t σ H Q->wpAny (model X.prog X.w) X.A (eval e X.env) (EP X pins σ Q) X.xe s
noncomputable def PT (X:Cx) (e:Expr) (t:TT):Prop :=
 ∀ (pins:List (Addr×Obj)) (s:Shared) (σ:St) (H:Hp) (Q:Bool->Hp->Prop),Inv X pins σ H s->t σ H Q->wpAny (model X.prog X.w) X.A (isTrue e X.env (eval e X.env)) (TP X pins σ Q) X.xe s
noncomputable def PW (X:Cx) (e:Expr) (t:TT):Prop :=
 ∀ (whole:Sem Value) (pins:List (Addr×Obj)) (s:Shared) (σ:St) (H:Hp) (Q:Bool->Hp->Prop),Inv X pins σ H s->t σ H Q->wpAny (model X.prog X.w) X.A (isTrue e X.env whole) (TP X pins σ Q) X.xe s
theorem PW.pt {X:Cx} {e:Expr} {t:TT} (h:PW X e t):PT X e t:=h _
noncomputable def PA (X:Cx) (es:List Expr) (t:TA):Prop :=
 ∀ (pos:Pos) (pins:List (Addr×Obj)) (s:Shared) (σ:St) (H:Hp) (Q:List V->Hp->Prop),Inv X pins σ H s->t σ H Q->wpAny (model X.prog X.w) X.A (spliced (backTo pos (starEach es X.env))) (AP X pins σ Q) X.xe s
noncomputable def PS (X:Cx) (st:Stmt) (t:TS):Prop :=
 ∀ (pins:List (Addr×Obj)) (s:Shared) (σ:St) (H:Hp) (D:Ends),Inv X pins σ H s->t D σ H->wpAny (model X.prog X.w) X.A (exec st X.env) (SP X pins D) X.xe s
noncomputable def PSs (X:Cx) (st:List Stmt) (t:TS):Prop :=
 ∀ (pins:List (Addr×Obj)) (s:Shared) (σ:St) (H:Hp) (D:Ends),Inv X pins σ H s->t D σ H->wpAny (model X.prog X.w) X.A (execs st X.env) (SP X pins D) X.xe s
theorem thn {α:Type} {t:Sem α} {Q Q':α->Shared->Prop} {M:Model} {A:Around} {E:Value->Shared->Prop} {s:Shared} (h:wpAny M A t Q E s) (hQ:∀ a s,Q a s->Q' a s):wpAny M A t Q' E s:=wpAny_mono h hQ fun _ _ x=>x
section
variable {X:Cx}
noncomputable def tVar (i:Nat):TE:=fun σ H Q=>∃ v,σ[i]?=some (some v) /\ Q v H
noncomputable def tC (v:V):TE:=fun _ H Q=>Q v H
theorem pe_var {i:Nat} {x:Str} {pos:Pos} (hN:X.N[i]?=some x) (hv:Vis X.env.scope x) (hd:(x == ("__debug__":Str))=false:=by decide) (hcd:(x == ("__classdict__":Str))=false:=by decide):PE X (.Name x pos) (tVar i):=by
 intro pins s σ H Q I h
 obtain ⟨v,e,h⟩:=h
 obtain ⟨m,hn,hl⟩:=I.loc
 obtain ⟨u,r,l⟩:=hl i x v hN e hv
 have fin:EP X pins σ Q u s:=⟨v,H,I,r,h⟩
 rcases l with ⟨hk,hm⟩ | ⟨hk,c,hc,hcell⟩
 .exact wpAny_Name (wpAny_loadName_local I.ok.kind hk hn hm fin) hd
 .rcases hk with hk | hk
  .exact wpAny_Name (wpAny_loadName_cell I.ok.kind hk hc hcell fin) hd
  .exact wpAny_Name (wpAny_loadName_free I.ok.kind hk hc hcell fin hcd) hd
theorem ZAF {i j pos}:PE X (.Constant (.int i) j pos) (tC (.int i)):=fun _ _ _ H _ I h=>wpAny_Constant_int ⟨.int i,H,I.tok _,⟨_,rfl⟩,h⟩
theorem ZCV {b j pos}:PE X (.Constant (.bool b) j pos) (tC (.bl b)):=fun _ _ _ H _ I h=>Constant_bool ⟨.bl b,H,I,rfl,h⟩
theorem pe_non {j pos}:PE X (.Constant .none j pos) (tC .non):=fun _ _ _ H _ I h=>Constant_none ⟨.non,H,I,rfl,h⟩
theorem ZBO {x j pos}:PE X (.Constant (.str x) j pos) (tC (.str x)):=fun _ _ _ H _ I h=>Calls.Constant_str ⟨.str x,H,I.tok _,⟨_,rfl⟩,h⟩
noncomputable def Gl (X:Cx) (x:Str):Prop:=X.env.kindOf x=some .globalImplicit
theorem ZDO {E:Value->Shared->Prop} {pins:List (Addr×Obj)} {s:Shared} {σ:St} {H:Hp} {x:Str} {u:Value} {pos:Pos} {Q:Value->Shared->Prop} (I:Inv X pins σ H s) (hg:Gl X x) (hm:X.mg x=some u) (h:Q u s)
  (hd:(x == ("__debug__":Str))=false:=by decide):wpAny (model X.prog X.w) X.A (eval (.Name x pos) X.env) Q E s :=
 Calls.Name_function_global I.ok.kind hg (Calls.loadGlobal_global (by rw [I.ok.glob];exact I.mod.glob.keeps I.bk) hm h) hd
theorem ZDG {E:Value->Shared->Prop} {pins:List (Addr×Obj)} {s:Shared} {σ:St} {H:Hp} {x:Str} {u:Value} {pos:Pos} {Q:Value->Shared->Prop} (I:Inv X pins σ H s) (hg:Gl X x) (hm:X.mg x=none) (hv:bootBuiltins x=some u) (h:Q u s)
  (hn:x≠"__name__":=by decide) (hd:(x == ("__debug__":Str))=false:=by decide):wpAny (model X.prog X.w) X.A (eval (.Name x pos) X.env) Q E s:=by
 obtain ⟨mb,h1,h2⟩:=I.mod.blt
 exact Calls.Name_function_global I.ok.kind hg (Calls.loadGlobal_builtin (by rw [I.ok.glob];exact I.mod.glob.keeps I.bk) hm (by rw [I.ok.blt];exact h1.keeps I.bk) ((h2 x hn).trans hv) h) hd
theorem pe_glob {x:Str} {v:V} {u:Value} {pos:Pos} (hg:Gl X x) (hm:X.mg x=some u) (r:RelV v u) (hd:(x == ("__debug__":Str))=false:=by decide):PE X (.Name x pos) (tC v) :=
 fun _ _ _ H _ I h=>ZDO I hg hm ⟨v,H,I,r,h⟩ hd
theorem pe_bltn {x:Str} {v:V} {u:Value} {pos:Pos} (hg:Gl X x) (hm:X.mg x=none) (hv:bootBuiltins x=some u) (r:RelV v u) (hn:x≠"__name__":=by decide) (hd:(x == ("__debug__":Str))=false:=by decide):PE X (.Name x pos) (tC v) :=
 fun _ _ _ H _ I h=>ZDG I hg hm hv ⟨v,H,I,r,h⟩ hn hd
variable {a b:Expr} {ta tb:TE} {pos:Pos}
noncomputable def tB (t:TE):TT:=fun σ H Q=>t σ H fun x H1=>∃ c,x=.bl c /\ Q c H1
theorem ZB6 {e:Expr} {t:TE} (h:PE X e t) (he:∀ whole,isTrue e X.env whole=(do let v <- whole;standAt e.pos;holding [v] (truthy v)):=by intro _;rfl):PT X e (tB t):=by
 intro pins s σ H Q I hw
 refine isTrue_plain (thn (h pins s σ H _ I hw) fun v s1 zz=>?_) (he _)
 obtain ⟨x,H1,I1,r1,q1⟩:=zz
 obtain ⟨d,rfl,q⟩:=q1
 cases r1
 exact wpAny_truthy_bool ⟨H1,I1,q⟩
variable {tA tB':TT} {rest:List Expr}
noncomputable def tAnd (t u:TT):TT:=fun σ H Q=>t σ H fun c H1=>if c=true then u σ H1 Q else Q false H1
noncomputable def tOr (t u:TT):TT:=fun σ H Q=>t σ H fun c H1=>if c=true then Q true H1 else u σ H1 Q
noncomputable def tNot (t:TT):TT:=fun σ H Q=>t σ H fun c H1=>Q (!c) H1
theorem pw_and1 (ha:PT X a tA):PW X (.BoolOp .And [a] pos) tA:=by
 intro wh pins s σ H Q I h
 refine isTrue_and (thn (ha pins s σ H Q I h) fun c s1 e=>?_)
 cases c with
 | true=>exact isTrue_and_nil e
 | false=>exact e
theorem ZDU (ha:PT X a tA):PW X (.BoolOp .Or [a] pos) tA:=by
 intro wh pins s σ H Q I h
 refine isTrue_or (thn (ha pins s σ H Q I h) fun c s1 e=>?_)
 cases c with
 | false=>exact isTrue_or_nil e
 | true=>exact e
theorem pw_and (ha:PT X a tA) (hb:PW X (.BoolOp .And (b::rest) pos) tB'):PW X (.BoolOp .And (a::b::rest) pos) (tAnd tA tB'):=by
 intro wh pins s σ H Q I h
 refine isTrue_and (thn (ha pins s σ H _ I h) fun c s1 ⟨H1,I1,q1⟩=>?_)
 cases c with
 | true=>exact hb wh pins s1 σ H1 Q I1 q1
 | false=>exact ⟨H1,I1,q1⟩
theorem ZDz (ha:PT X a tA) (hb:PW X (.BoolOp .Or (b::rest) pos) tB'):PW X (.BoolOp .Or (a::b::rest) pos) (tOr tA tB'):=by
 intro wh pins s σ H Q I h
 refine isTrue_or (thn (ha pins s σ H _ I h) fun c s1 ⟨H1,I1,q1⟩=>?_)
 cases c with
 | true=>exact ⟨H1,I1,q1⟩
 | false=>exact hb wh pins s1 σ H1 Q I1 q1
theorem ZDq (ha:PT X a tA):PT X (.UnaryOp .Not a pos) (tNot tA):=by
 intro pins s σ H Q I h
 exact isTrue_not (ha pins s σ H (fun c H1=>Q (!c) H1) I h)
noncomputable def ZD8 (ta tb:TE):TE:=fun σ H Q=>ta σ H fun x H1=>∃ c,x=.bl c /\ if c=true then tb σ H1 Q else Q (.bl false) H1
noncomputable def tOrV (ta tb:TE):TE:=fun σ H Q=>ta σ H fun x H1=>∃ c,x=.bl c /\ if c=true then Q (.bl true) H1 else tb σ H1 Q
noncomputable def tNotV (ta:TE):TE:=fun σ H Q=>ta σ H fun x H1=>∃ c,x=.bl c /\ Q (.bl (!c)) H1
theorem pe_one {op} {t:TE} (h:PE X a t):PE X (.BoolOp op [a] pos) t:=fun pins s σ H Q I hw=>BoolOp_one (h pins s σ H Q I hw)
theorem pe_and (ha:PE X a ta) (hb:PE X (.BoolOp .And (b::rest) pos) tb):PE X (.BoolOp .And (a::b::rest) pos) (ZD8 ta tb):=by
 intro pins s σ H Q I h
 refine BoolOp_and (thn (ha pins s σ H _ I h) fun v s1 zz=>?_)
 obtain ⟨x,H1,I1,r1,q1⟩:=zz
 obtain ⟨c,rfl,q1⟩:=q1
 cases r1
 refine wpAny_truthy_bool ?_
 cases c with
 | true=>exact hb pins s1 σ H1 Q I1 q1
 | false=>exact ⟨.bl false,H1,I1,rfl,q1⟩
noncomputable def tIf (t:TT) (ta tb:TE):TE:=fun σ H Q=>t σ H fun c H1=>if c=true then ta σ H1 Q else tb σ H1 Q
theorem pe_ifExp {c:Expr} (hc:PT X c tA) (ha:PE X a ta) (hb:PE X b tb):PE X (.IfExp c a b pos) (tIf tA ta tb):=by
 intro pins s σ H Q I h
 refine wpAny_IfExp (thn (hc pins s σ H _ I h) fun d s1 ⟨H1,I1,q1⟩=>?_)
 cases d with
 | true=>exact ha pins s1 σ H1 Q I1 q1
 | false=>exact hb pins s1 σ H1 Q I1 q1
end
noncomputable def SqL (K:W.Frag) (H:Hp) (a:Addr) (xs:List V):Prop :=
 Rd H a (.lst xs) ∨
  ∃ (o:Obj) (its:Array Value) (n:Nat),K.lookup a=some o /\ o.cls=.type "list" /\ o.dict=none /\ o.data=.seq its n /\ its.size <= sizeLine /\ Vals xs its.toList
noncomputable def SqT (K:W.Frag) (H:Hp) (a:Addr) (xs:List V):Prop :=
 Rd H a (.tup xs) ∨
  ∃ (o:Obj) (its:Array Value) (n:Nat),K.lookup a=some o /\ o.cls=.type "tuple" /\ o.data=.seq its n /\ its.size <= sizeLine /\ Vals xs its.toList
noncomputable def absV:Value->Option V
 | .none=>some .non
 | .bool b=>some (.bl b)
 | .int i _=>some (.int i)
 | .str x _=>some (.str x)
 | .bytes b _=>some (.byt b)
 | .float b _=>some (.flt b)
 | .ref a=>some (.ref a)
 | .type n=>some (.ty n)
 | _=>none
theorem RelV.abs {x:V} {u:Value} (r:RelV x u):absV u=some x:=by
 cases x with
 | non=>cases r;rfl
 | bl _=>cases r;rfl
 | int _=>obtain ⟨t,rfl⟩:=r;rfl
 | str _=>obtain ⟨t,rfl⟩:=r;rfl
 | byt _=>obtain ⟨t,rfl⟩:=r;rfl
 | flt _=>obtain ⟨t,rfl⟩:=r;rfl
 | ref _=>cases r;rfl
 | ty _=>cases r;rfl
theorem RelV.inj {x y:V} {u:Value} (r:RelV x u) (q:RelV y u):x=y:=Option.some.inj (r.abs.symm.trans q.abs)
theorem Vals.inj:∀ {xs ys:List V} {us:List Value},Vals xs us->Vals ys us->xs=ys
 | _,_,_,.nil,.nil=>rfl
 | _,_,_,.cons r t,.cons r' t'=>by rw [r.inj r',Vals.inj t t']
section
variable {X:Cx} {pins:List (Addr×Obj)} {σ:St} {H:Hp} {s:Shared} {a:Addr} {xs ys:List V}
theorem SqL.of {K:W.Frag} (h:H a=some (.lst xs)):SqL K H a xs:=.inl (.inl h)
theorem SqT.of {K:W.Frag} (h:H a=some (.tup xs)):SqT K H a xs:=.inl (.inl h)
theorem Inv.list (I:Inv X pins σ H s) (h:SqL X.K H a xs):∃ its:List Value,Vals xs its /\ PlainL s.heap a its.toArray /\ xs.length <= sizeLine:=by
 rcases h with h | ⟨o,its,n,hk,hc,hd,hs,hz,r⟩
 .obtain ⟨z,its,n,r,e⟩:=h.ok I.hok
  exact ⟨its,r,⟨_,n,e,rfl,rfl,rfl⟩,z⟩
 .refine ⟨its.toList,r,⟨o,n,I.kIn a o hk,hc,hd,by simpa using hs⟩,?_⟩
  have e:=r.length
  simp only [yBJ] at e
  omega
theorem Inv.tuple (I:Inv X pins σ H s) (h:SqT X.K H a xs):∃ its:List Value,Vals xs its /\ IsTup s.heap a its.toArray /\ xs.length <= sizeLine:=by
 rcases h with h | ⟨o,its,n,hk,hc,hs,hz,r⟩
 .obtain ⟨z,its,r,p⟩:=h.ok I.hok
  exact ⟨its,r,p,z⟩
 .refine ⟨its.toList,r,⟨o,I.kIn a o hk,hc,n,by simpa using hs⟩,?_⟩
  have e:=r.length
  simp only [yBJ] at e
  omega
theorem Inv.list_inj (I:Inv X pins σ H s) (h:SqL X.K H a xs) (h':SqL X.K H a ys):xs=ys:=by
 obtain ⟨its,r,⟨o,n,e,_,_,d⟩,_⟩:=I.list h
 obtain ⟨its',r',⟨o',n',e',_,_,d'⟩,_⟩:=I.list h'
 rw [e] at e';cases e'
 rw [d] at d'
 injection d' with d1 _
 have:its=its':=by simpa using congrArg Array.toList d1
 subst this
 exact r.inj r'
end
noncomputable abbrev Cx.wish (X:Cx) (E:Value->Shared->Prop):Cx:={ X with xe:=E }
noncomputable abbrev Cx.nox (X:Cx):Cx:=X.wish fun _ _=>False
theorem Cx.Ok.wish {X:Cx} (ok:X.Ok) (E:Value->Shared->Prop):(X.wish E).Ok :=
 ⟨ok.mod,ok.kind,ok.glob,ok.blt,ok.above,ok.inj,ok.has,ok.cab,ok.hd,ok.frames,ok.stk,ok.exf,ok.bs,ok.bsz,ok.noex,ok.exfs,ok.funs,ok.frf⟩
theorem Cx.Ok.unwish {X:Cx} {E:Value->Shared->Prop} (ok:(X.wish E).Ok):X.Ok :=
 ⟨ok.mod,ok.kind,ok.glob,ok.blt,ok.above,ok.inj,ok.has,ok.cab,ok.hd,ok.frames,ok.stk,ok.exf,ok.bs,ok.bsz,ok.noex,ok.exfs,ok.funs,ok.frf⟩
section
variable {X:Cx} {pins:List (Addr×Obj)} {σ:St} {H:Hp} {s:Shared} {E:Value->Shared->Prop}
theorem Inv.wish (I:Inv X pins σ H s) (E:Value->Shared->Prop):Inv (X.wish E) pins σ H s:=⟨I.ok.wish E,I.os,I.bare,I.base,I.loc,I.cell,I.free,I.freeC,I.pin,I.hok,I.len⟩
theorem Inv.unwish (I:Inv (X.wish E) pins σ H s):Inv X pins σ H s:=⟨I.ok.unwish,I.os,I.bare,I.base,I.loc,I.cell,I.free,I.freeC,I.pin,I.hok,I.len⟩
theorem SP.unwish {D:Ends} {f:Flow} {s':Shared} (h:SP (X.wish E) pins D f s'):SP X pins D f s':=by
 cases f with
 | next=>obtain ⟨σ',H',I,q⟩:=h;exact ⟨σ',H',I.unwish,q⟩
 | brk=>obtain ⟨σ',H',I,q⟩:=h;exact ⟨σ',H',I.unwish,q⟩
 | cont=>obtain ⟨σ',H',I,q⟩:=h;exact ⟨σ',H',I.unwish,q⟩
 | ret u=>obtain ⟨v,σ',H',I,r,q⟩:=h;exact ⟨v,σ',H',I.unwish,r,q⟩
theorem PSs.nox {st:List Stmt} {t:TS} (h:PSs X.nox st t):PSs X st t:=fun pins s σ H D I hw=>
 wpAny_mono (h pins s σ H D (I.wish _) hw) (fun _ _ q=>q.unwish) fun _ _ z=>False.elim z
end
section
variable {X:Cx} {st:Stmt} {rest:List Stmt} {t u:TS} {e:Expr} {te:TE} {pos:Pos}
noncomputable def ZD5:TS:=fun D σ H=>D.nx σ H
noncomputable def tSeq (t u:TS):TS:=fun D σ H=>t { D with nx:=u D } σ H
theorem ZAU:PSs X [] ZD5:=fun _ _ σ H _ I h=>wpAny_execs_nil ⟨σ,H,I,h⟩
theorem ZAD (h1:PS X st t) (h2:PSs X rest u):PSs X (st::rest) (tSeq t u):=by
 intro pins s σ H D I h
 refine wpAny_execs_cons (thn (h1 pins s σ H { D with nx:=u D } I h) fun f s1 q=>?_)
 cases f with
 | next=>
  obtain ⟨σ',H',I',q⟩:=q
  exact h2 pins s1 σ' H' D I' q
 | ret v=>exact q
 | brk=>exact q
 | cont=>exact q
theorem ZAE (h1:PS X st t):PSs X [st] t:=by
 intro pins s σ H D I h
 refine wpAny_execs_cons (thn (h1 pins s σ H D I h) fun f s1 q=>?_)
 cases f with
 | next=>exact wpAny_execs_nil q
 | ret v=>exact q
 | brk=>exact q
 | cont=>exact q
theorem Inv.quiet {pins:List (Addr×Obj)} {σ:St} {H:Hp} {s:Shared} (I:Inv X pins σ H s):interactive X.env=false:=by simp [interactive,I.ok.kind]
noncomputable def ZD7 (te:TE):TS:=fun D σ H=>te σ H fun _ H1=>D.nx σ H1
theorem ZBX (he:PE X e te) (hs:swapsWith e none pos.line X.env=pure false:=by rfl):PS X (.Expr e pos) (ZD7 te):=by
 intro pins s σ H D I h
 exact wpAny_Expr_any (thn (he pins s σ H _ I h) fun v s1 ⟨x,H1,I1,r1,q1⟩=>⟨σ,H1,I1,q1⟩) I.quiet hs
noncomputable def tRet (te:TE):TS:=fun D σ H=>te σ H D.rt
theorem ZAQ (he:PE X e te):PS X (.Return (some e) pos) (tRet te):=by
 intro pins s σ H D I h
 exact wpAny_Return_some (thn (he pins s σ H _ I h) fun v s1 ⟨x,H1,I1,r1,q1⟩=>⟨x,σ,H1,I1,r1,q1⟩)
noncomputable def tRetN:TS:=fun D _ H=>D.rt .non H
noncomputable def tIfS (c:TT) (t u:TS):TS:=fun D σ H=>c σ H fun b H1=>if b=true then t D σ H1 else u D σ H1
theorem ZA7 {c:Expr} {a b:List Stmt} {tc:TT} (hc:PT X c tc) (ha:PSs X a t) (hb:PSs X b u):PS X (.If c a b pos) (tIfS tc t u):=by
 intro pins s σ H D I h
 refine wpAny_If (thn (hc pins s σ H _ I h) fun d s1 ⟨H1,I1,q1⟩=>?_)
 cases d with
 | true=>exact ha pins s1 σ H1 D I1 q1
 | false=>exact hb pins s1 σ H1 D I1 q1
noncomputable def ZDg:TS:=fun _ _ _=>False
theorem ZCI:PS X st ZDg:=fun _ _ _ _ _ _ h=>h.elim
end
noncomputable abbrev TG:=V->St->Hp->(St->Hp->Prop)->Prop
noncomputable abbrev TGs:=List V->St->Hp->(St->Hp->Prop)->Prop
noncomputable def PG (X:Cx) (target:Expr) (t:TG):Prop :=
 ∀ (pins:List (Addr×Obj)) (s:Shared) (σ:St) (H:Hp) (v:V) (u:Value) (Q:St->Hp->Prop),Inv X pins σ H s->RelV v u->t v σ H Q ->
  wpAny (model X.prog X.w) X.A (assign target X.env u) (fun _ s'=>∃ σ' H',Inv X pins σ' H' s' /\ Q σ' H') X.xe s
noncomputable def PGs (X:Cx) (ts:List Expr) (t:TGs):Prop :=
 ∀ (pins:List (Addr×Obj)) (s:Shared) (σ:St) (H:Hp) (vs:List V) (us:List Value) (Q:St->Hp->Prop),Inv X pins σ H s->Vals vs us->t vs σ H Q ->
  wpAny (model X.prog X.w) X.A (assignInOrder ((assignEach ts X.env).map (·.2)) us) (fun _ s'=>∃ σ' H',Inv X pins σ' H' s' /\ Q σ' H') X.xe s
noncomputable abbrev TSet:=V->V->V->Hp->(Hp->Prop)->Prop
noncomputable abbrev TIp:=V->V->Hp->VK->Prop
section
variable {X:Cx} {pos:Pos}
noncomputable def ZDd (i:Nat):TG:=fun v σ H Q=>Q (σ.set i (some v)) H
theorem ZAW {i:Nat} {x:Str} (hN:X.N.Nodup) (hi:X.N[i]?=some x) (hx:Loc X.env.scope x) (hf:X.fn x=true∨X.env.scope.names.lookup x=some .local:=by first | exact .inl rfl | exact .inr rfl | assumption):PG X (.Name x pos) (ZDd i):=by
 intro pins s σ H v u Q I r h
 exact wpAny_assign_Name (ZCW I hN hi hx r (fun s' I'=>⟨_,H,I',h⟩) hf)
noncomputable def gNil:TGs:=fun vs σ H Q=>vs=[] /\ Q σ H
noncomputable def ZEB (t:TG) (u:TGs):TGs:=fun vs σ H Q=>∃ v r,vs=v::r /\ t v σ H fun σ' H'=>u r σ' H' Q
theorem ZCB:PGs X [] gNil:=by
 intro pins s σ H vs us Q I r h
 obtain ⟨e,h⟩:=h
 subst e
 cases r
 exact assignInOrder_nil ⟨σ,H,I,h⟩
theorem ZA6 {e:Expr} {es:List Expr} {t:TG} {u:TGs} (h1:PG X e t) (h2:PGs X es u)
  (hs:(assignEach (e::es) X.env).map (·.2)=assign e X.env::(assignEach es X.env).map (·.2):=by rfl):PGs X (e::es) (ZEB t u):=by
 intro pins s σ H vs us Q I r h
 obtain ⟨v,vr,e1,h⟩:=h
 subst e1
 cases r with
 | cons r rr=>
  rw [hs]
  refine assignInOrder_cons (thn (h1 pins s σ H _ _ _ I r h) fun _ s1 zz=>?_)
  obtain ⟨σ1,H1,I1,q1⟩:=zz
  exact h2 pins s1 σ1 H1 _ _ Q I1 rr q1
noncomputable def gTup (K:W.Frag) (n:Nat) (t:TGs):TG:=fun v σ H Q=>∃ a xs,v=.ref a /\ SqT K H a xs /\ xs.length=n /\ t xs σ H Q
theorem ZCt {es:List Expr} {k:Nat} {t:TGs} {n:Nat} (hc:X.calm=true) (h:PGs X es t)
  (hn:(assignEach es X.env).length=n:=by rfl) (hst:(assignEach es X.env).findIdx? (·.1)=none:=by rfl):PG X (.Tuple es k pos) (gTup X.K n t):=by
 intro pins s σ H v u Q I r hw
 obtain ⟨a,xs,e1,hq,hl,hw⟩:=hw
 subst e1
 cases r
 obtain ⟨its,rv,ht,hz⟩:=I.tuple hq
 refine assign_Tuple_tuple (I.ok.hd hc) ht (by simp [hn,<- hl,rv.length]) hst fun h' hx=>?_
 have I1:Inv X pins σ H { s with heap:=h' }:=I.kept (t':=s.toks) fun b o e=>hx b o (yAE (Heap.lt_size e)) e
 exact h pins _ σ H xs _ Q I1 (by simpa using rv) hw
noncomputable def gSub (to ti:TE) (t:TSet):TG:=fun v σ H Q=>to σ H fun o H1=>ti σ H1 fun i H2=>t o i v H2 fun H3=>Q σ H3
noncomputable def tAsg (te:TE) (g:TG):TS:=fun D σ H=>te σ H fun x H1=>g x σ H1 D.nx
theorem ZBI {i:Nat} {x:Str} {e:Expr} {te:TE} {pos':Pos} (hN:X.N.Nodup) (hi:X.N[i]?=some x) (hx:Loc X.env.scope x) (he:PE X e te) (hs:swapsWith e (some (.Name x pos')) pos.line X.env=pure false:=by rfl) (hf:X.fn x=true∨X.env.scope.names.lookup x=some .local:=by first | exact .inl rfl | exact .inr rfl | assumption) :
  PS X (.Assign [.Name x pos'] e pos) (tAsg te (ZDd i)):=by
 intro pins s σ H D I h
 refine wpAny_Assign_Name (thn (he pins s σ H _ I h) fun v s1 zz=>?_) hs
 obtain ⟨y,H1,I1,r1,q1⟩:=zz
 exact ZCW I1 hN hi hx r1 (fun s2 I2=>⟨_,H1,I2,q1⟩) hf
noncomputable def tAug (i:Nat) (te:TE) (ti:TIp):TS:=fun D σ H=>∃ x,σ[i]?=some (some x) /\ te σ H fun y H1=>ti x y H1 fun z H2=>D.nx (σ.set i (some z)) H2
noncomputable def ipI (f:Int->Int->Int):TIp:=fun x y H Q=>∃ i j,x=.int i /\ y=.int j /\ Q (.int (f i j)) H
end
section
variable {X:Cx} {pos:Pos}
end
structure It where
 go:Nat->Hp->Prop
 yld:Nat->Hp->V->Hp->Prop
 stop:Nat->Hp->Prop
noncomputable def FpOk (X:Cx) (pins:List (Addr×Obj)) (H:Hp) (b:Addr):Prop :=
 H b=none /\ b≠X.env.locals /\ b∉X.fs /\ (b∈X.ex∨X.s₀.heap.objs.size <= b) /\ (∀ x c,X.env.cells.lookup x=some c->c≠b) /\ ∀ p∈X.pn++pins,p.1≠b
theorem Inv.fpOk {X:Cx} {pins:List (Addr×Obj)} {σ:St} {H H':Hp} {s:Shared} {b:Addr} (I:Inv X pins σ H s) (hb:s.heap.objs.size <= b) (hn:H' b=none):FpOk X pins H' b:=by
 refine ⟨hn,Nat.ne_of_gt (yAG I.lt hb),I.nofs hb,.inr (yAD I.sz hb),fun x c e z=>?_,fun p hp z=>?_⟩
 .obtain ⟨v,q⟩:=I.cell x c e
  exact absurd (yAG q.lt (by rw [z];exact hb)) (yBD _)
 .exact absurd (yAG (Heap.lt_size (I.pin p hp).1) (by rw [z];exact hb)) (yBD _)
structure Turn (P:Program) (w:World) (K:W.Frag) (tg:Expr) (J:It) (fp:List Addr) (it:Addr) (tn:Nat->Heap->Prop):Prop where
 mem:it∈fp
 obj:∀ i h,tn i h->∀ b∈fp,∃ o,h.get? b=some o /\ ∀ v,o.data≠.cell v
 keep:∀ i h h',tn i h->(∀ b∈fp,∀ o,h.get? b=some o->h'.get? b=some o)->tn i h'
 item:∀ (X:Cx),X.prog=P->X.w=w->X.K=K->X.calm=true->∀ (i:Nat) (pins:List (Addr×Obj)) (s:Shared) (σ:St) (H:Hp) (E:Value->Shared->Prop),Inv X pins σ H s->(∀ b∈fp,FpOk X pins H b)->tn i s.heap->J.go i H ->
  wpAny (model P w) X.A (pyNext (.ref it)) (fun r s1=>∃ u,r=some u /\
   wpAny (model P w) X.A (letOwnedTupleGo tg (.ref it) u) (fun _ s2=>∃ x H',Inv X pins σ H' s2 /\ RelV x u /\ J.yld i H x H' /\ tn (i+1) s2.heap /\ ∀ b∈fp,H' b=none) E s1) E s
 done:∀ (X:Cx),X.prog=P->X.w=w->X.K=K->X.calm=true->∀ (i:Nat) (pins:List (Addr×Obj)) (s:Shared) (σ:St) (H:Hp) (E:Value->Shared->Prop),Inv X pins σ H s->(∀ b∈fp,FpOk X pins H b)->tn i s.heap->J.stop i H ->
  wpAny (model P w) X.A (pyNext (.ref it)) (fun r s1=>r=none /\ Inv X pins σ H s1) E s
 self:∀ (A:Around) (i:Nat) (s:Shared) (Q:Value->Shared->Prop) (E:Value->Shared->Prop),tn i s.heap->Q (.ref it) s->wpAny (model P w) A (pyIter (.ref it)) Q E s
noncomputable abbrev TI:=St->Hp->(It->Hp->Prop)->Prop
noncomputable def PIE (X:Cx) (pins:List (Addr×Obj)) (σ:St) (tg:Expr) (R:It->Hp->Prop) (itv:Value) (s2:Shared):Prop :=
 ∃ (it:Addr) (fp:List Addr) (tn:Nat->Heap->Prop) (J:It) (H':Hp),itv=.ref it /\ Inv X pins σ H' s2 /\ Turn X.prog X.w X.K tg J fp it tn /\ tn 0 s2.heap /\ (∀ b∈fp,FpOk X pins H' b) /\ R J H'
noncomputable def PI (X:Cx) (tg iter:Expr) (wi:TI):Prop :=
 ∀ (pins:List (Addr×Obj)) (s:Shared) (σ:St) (H:Hp) (R:It->Hp->Prop),Inv X pins σ H s->wi σ H R ->
  wpAny (model X.prog X.w) X.A (eval iter X.env) (fun v s1=>wpAny (model X.prog X.w) X.A (pyIter v) (PIE X pins σ tg R) X.xe s1) X.xe s
theorem go_of {M:Model} {A:Around} {E:Value->Shared->Prop} {s:Shared} {tg:Expr} {it:Addr} {u:Value} {o:Obj} {n:String} {vs:Array Value} {Q:Unit->Shared->Prop} (ho:s.heap.get? it=some o) (hc:o.cls=.type n) (hd:o.data=.fields vs)
  (hn:["enumerate","zip","dict_itemiterator","dict_reverseitemiterator","odict_iterator","itertools.zip_longest","itertools.pairwise"].contains n=false) (hQ:Q () s):wpAny M A (letOwnedTupleGo tg (.ref it) u) Q E s:=by
 unfold letOwnedTupleGo
 cases tg <;> first
  | exact wpAny_pure hQ
  | (cases u <;> first
    | exact wpAny_pure hQ
    | (refine wpAny_bind (wpAny_load ho ?_)
       rw [hc,hd]
       show wpAny M A (if (["enumerate","zip","dict_itemiterator","dict_reverseitemiterator","odict_iterator","itertools.zip_longest","itertools.pairwise"].contains n && vs[0]? == some (rawInt _))=true then _ else _) Q E s
       rw [if_neg (by intro h;rw [hn,Bool.false_and] at h;cases h)]
       exact wpAny_pure hQ))
noncomputable def Itl (K:W.Frag) (a:Addr):It :=
 ⟨fun i H=>∃ xs x,SqL K H a xs /\ xs[i]?=some x,fun i H x H'=>H'=H /\ ∀ xs,SqL K H a xs->xs[i]?=some x,fun i H=>∃ xs,SqL K H a xs /\ xs.length <= i⟩
noncomputable def Itt (K:W.Frag) (a:Addr):It :=
 ⟨fun i H=>∃ xs x,SqT K H a xs /\ xs[i]?=some x,fun i H x H'=>H'=H /\ ∀ xs,SqT K H a xs->xs[i]?=some x,fun i H=>∃ xs,SqT K H a xs /\ xs.length <= i⟩
noncomputable def Itr (lo:Int) (n:Nat):It:=⟨fun i _=>i < n,fun i H x H'=>H'=H /\ x=.int (lo+i),fun i _=>n <= i⟩
theorem turn_list {P:Program} {w:World} {K:W.Frag} {tg:Expr} (a it:Addr):Turn P w K tg (Itl K a) [it] it (fun i h=>h.IsListIter it a i) where
 mem:=by simp
 obj:=fun i h st b hb=>by
  have e:b=it:=by simpa using hb
  subst e
  obtain ⟨o,e,c,d⟩:=st
  exact ⟨o,e,fun v z=>by rw [d] at z;cases z⟩
 keep:=fun i h h' st k=>st.at fun o e=>k it (by simp) o e
 item:=by
  intro X hP hw hK hc i pins s σ H E I hf st hg
  subst hP hw hK
  obtain ⟨xs,x,hq,hx⟩:=hg
  obtain ⟨its,rv,p,hz⟩:=I.list hq
  obtain ⟨u,hu,ru⟩:=rv.get hx
  obtain ⟨f0,f1,f2,f3,f4,f5⟩:=hf it (by simp)
  refine wpAny_pyNext_list_item st p.isList (x:=u) (by simpa using hu) fun h' st' sb=>?_
  have I1:Inv X pins σ H { s with heap:=h' }:=I.turned (t':=s.toks) (fun b o hb e=>(sb.2 b hb).trans e) f0 f1 f3 f4 f5
  obtain ⟨o,e,c,d⟩:=id st'
  exact ⟨u,rfl,go_of (s:={ s with heap:=h' }) e c d (by decide) ⟨x,H,I1,ru,⟨rfl,fun ys hy=>by rw [I.list_inj hy hq];exact hx⟩,st',fun b hb=>(hf b hb).1⟩⟩
 done:=by
  intro X hP hw hK hc i pins s σ H E I hf st hg
  subst hP hw hK
  obtain ⟨xs,hq,hx⟩:=hg
  obtain ⟨its,rv,p,hz⟩:=I.list hq
  obtain ⟨f0,f1,f2,f3,f4,f5⟩:=hf it (by simp)
  have hl:=rv.length
  exact wpAny_pyNext_list_end (I.ok.hd hc) st p.isList (by simp;omega) fun h' eb=>⟨rfl,I.turned (t':=s.toks) (fun b o hb e=>eb b o hb e) f0 f1 f3 f4 f5⟩
 self:=fun _ _ _ _ _ st h=>wpAny_pyIter_listiter st h
theorem turn_range {P:Program} {w:World} {K:W.Frag} {tg:Expr} (it:Addr) (lo:Int) (n:Nat):Turn P w K tg (Itr lo n) [it] it (fun i h=>IsRangeIter h it (lo+(i:Nat) * 1) ((n:Int)-(i:Nat)) 1) where
 mem:=by simp
 obj:=fun i h st b hb=>by
  have e:b=it:=by simpa using hb
  subst e
  exact ⟨_,st,fun v z=>by
   have z':Data.fields _=Data.cell v:=z
   cases z'⟩
 keep:=fun i h h' st k=>k it (by simp) _ st
 item:=by
  intro X hP hw hK hc i pins s σ H E I hf st hg
  subst hP hw hK
  obtain ⟨f0,f1,f2,f3,f4,f5⟩:=hf it (by simp)
  have W:=Walks.range (prog:=X.prog) (w:=X.w) (I.ok.hd hc) it lo 1 n
  refine W.item i s _ _ hg st fun v h' tk hv st' kk=>?_
  obtain ⟨t,rfl⟩:=hv
  have I1:Inv X pins σ H { s with heap:=h',toks:=tk }:=I.turned (fun b o hb e=>kk b o (by simpa using hb) e) f0 f1 f3 f4 f5
  refine ⟨_,rfl,go_of (s:={ s with heap:=h',toks:=tk }) (n:="range_iterator") st' rfl rfl (by decide) ⟨.int (lo+i),H,I1,⟨t,?_⟩,⟨rfl,rfl⟩,st',fun b hb=>(hf b hb).1⟩⟩
  rw [Int.mul_one]
 done:=by
  intro X hP hw hK hc i pins s σ H E I hf st hg
  subst hP hw hK
  obtain ⟨f0,f1,f2,f3,f4,f5⟩:=hf it (by simp)
  exact wpAny_pyNext_range_end (I.ok.hd hc) st (by have:n <= i:=hg;omega) fun h' eb=>⟨rfl,I.turned (t':=s.toks) (fun b o hb e=>eb b o hb e) f0 f1 f3 f4 f5⟩
 self:=fun _ _ _ _ _ st h=>wpAny_pyIter_rangeiter st h
section
variable {X:Cx} {tg:Expr}
noncomputable def ZD1 (K:W.Frag) (tl:TE):TI:=fun σ H R=>tl σ H fun x H1=>∃ a,x=.ref a /\ (∃ xs,SqL K H1 a xs) /\ R (Itl K a) H1
noncomputable def iTup (K:W.Frag) (tl:TE):TI:=fun σ H R=>tl σ H fun x H1=>∃ a,x=.ref a /\ (∃ xs,SqT K H1 a xs) /\ R (Itt K a) H1
theorem ZAl {l:Expr} {tl:TE} (hl:PE X l tl):PI X tg l (ZD1 X.K tl):=by
 intro pins s σ H R I h
 refine thn (hl pins s σ H _ I h) fun v s1 zz=>?_
 obtain ⟨x,H1,I1,r1,q1⟩:=zz
 obtain ⟨a,e,⟨xs,hq⟩,q⟩:=q1
 subst e
 cases r1
 obtain ⟨its,rv,p,hz⟩:=I1.list hq
 refine wpAny_pyIter_list p.isList ?_
 refine ⟨s1.heap.objs.size,[s1.heap.objs.size],_,_,H1,rfl,I1.kept (t':=s1.toks) fun b o e=>Heap.get?_push_of_some _ e,turn_list a _,⟨_,Heap.get?_push_size _ rfl,rfl,rfl⟩,fun b hb=>?_,q⟩
 have e:b=s1.heap.objs.size:=by simpa using hb
 subst e
 exact I1.fpOk (yAA _) (I1.hok.fresh (yAA _))
theorem range_it {pins:List (Addr×Obj)} {σ:St} {H:Hp} {s:Shared} {R:It->Hp->Prop} {E:Value->Shared->Prop} {lo hi:Int} {t u v:Tok} {tk:Nat} (I:Inv X pins σ H s) (h1:-(2 ^ 62) <= lo) (h2:lo < 2 ^ 62) (h3:-(2 ^ 62) <= hi) (h4:hi < 2 ^ 62)
  (q:R (Itr lo (hi-lo).toNat) H):wpAny (model X.prog X.w) X.A (pyIter (.ref s.heap.objs.size)) (PIE X pins σ tg R) E { s with heap:=s.heap.push { cls:=.type "range",data:=.fields #[.int lo t,.int hi u,.int 1 v] },toks:=tk }:=by
 refine wpAny_pyIter_range (IsRange.new ..) (small_one h1 h2 h3 h4) ?_
 have I1:Inv X pins σ H { s with heap:=s.heap.push { cls:=.type "range",data:=.fields #[.int lo t,.int hi u,.int 1 v] },toks:=tk }:=I.kept fun b o e=>Heap.get?_push_of_some _ e
 refine ⟨(s.heap.push { cls:=.type "range",data:=.fields #[.int lo t,.int hi u,.int 1 v] }).objs.size,[(s.heap.push { cls:=.type "range",data:=.fields #[.int lo t,.int hi u,.int 1 v] }).objs.size],_,_,H,rfl,
  I1.kept (t':=tk) fun b o e=>Heap.get?_push_of_some _ e,turn_range _ lo (hi-lo).toNat,?_,fun b hb=>?_,q⟩
 .have e1:lo+((0:Nat):Int) * 1=lo:=by simp
  have e2:(((hi-lo).toNat:Nat):Int)-((0:Nat):Int)=Builtin.Range.rangeSize lo hi 1:=by rw [rangeSize_one];split <;> omega
  show IsRangeIter _ _ (lo+((0:Nat):Int) * 1) ((((hi-lo).toNat:Nat):Int)-((0:Nat):Int)) 1
  rw [e1,e2]
  exact Heap.get?_push_size _ rfl
 .have e:b=(s.heap.push { cls:=.type "range",data:=.fields #[.int lo t,.int hi u,.int 1 v] }).objs.size:=by simpa using hb
  subst e
  exact I1.fpOk (yAA _) (I1.hok.fresh (yAA _))
noncomputable def ZEA (ta:TA):TI:=fun σ H R=>ta σ H fun vs H1=>∃ j:Int,vs=[.int j] /\ -(2 ^ 62) <= j /\ j < 2 ^ 62 /\ R (Itr 0 j.toNat) H1
noncomputable def iRng2 (ta:TA):TI:=fun σ H R=>ta σ H fun vs H1=>∃ i j:Int,vs=[.int i,.int j] /\ (-(2 ^ 62) <= i /\ i < 2 ^ 62 /\ -(2 ^ 62) <= j /\ j < 2 ^ 62) /\ R (Itr i (j-i).toNat) H1
theorem ZCJ {a:Expr} {ta:TA} {p pos:Pos} (hg:Gl X "range") (hm:X.mg "range"=none) (ha:PA X [a] ta) (hs:starEach [a] X.env=[(false,eval a X.env)]:=by rfl):PI X tg (.Call (.Name "range" p) [a] [] pos) (ZEA ta):=by
 intro pins s σ H R I h
 refine Call_ (ZDG I hg hm boot_range (PyProof.Rows.callWith_type1 (thn (ha pos pins s σ H _ I h) fun us s1 zz=>?_) hs rfl))
 obtain ⟨vs,H1,I1,r1,q1⟩:=zz
 obtain ⟨j,e,q1,q2,q⟩:=q1
 subst e
 cases r1 with
 | cons r rr=>
  cases rr
  obtain ⟨t,rfl⟩:=r
  exact call_range_1 (range_it I1 (by omega) (by omega) q1 q2 (by simpa using q))
noncomputable def tFor (wi:TI) (g:TG) (tb:TS):TS:=fun D σ H=>wi σ H fun J H1=>∃ W:Nat->Nat->St->Hp->Prop,(∃ m,W 0 m σ H1) /\ ∀ i m σ H,W i m σ H ->
 (J.stop i H /\ D.nx σ H)∨(J.go i H /\ ∃ N:St->Hp->Prop,(∀ σ' H',N σ' H'->∃ m',m' < m /\ W (i+1) m' σ' H') /\ ∀ x H',J.yld i H x H'->g x σ H' fun σ2 H2=>tb { D with nx:=N,ct:=N,bk:=D.nx } σ2 H2)
noncomputable def ZDD (fp:List Addr) (h:Heap):List (Addr×Obj):=fp.filterMap fun b=>(h.get? b).map fun o=>(b,o)
theorem ZB4 {fp:List Addr} {h:Heap} {b:Addr} {o:Obj} (hb:b∈fp) (e:h.get? b=some o):(b,o)∈ZDD fp h:=List.mem_filterMap.mpr ⟨b,hb,by rw [e];rfl⟩
theorem of_pinsAt {fp:List Addr} {h:Heap} {p:Addr×Obj} (hp:p∈ZDD fp h):p.1∈fp /\ h.get? p.1=some p.2:=by
 obtain ⟨b,hb,e⟩:=List.mem_filterMap.mp hp
 cases q:h.get? b with
 | none=>rw [q] at e;cases e
 | some o=>
  rw [q] at e
  have e':(b,o)=p:=Option.some.inj e
  subst e'
  exact ⟨hb,q⟩
theorem Inv.pinned {pins:List (Addr×Obj)} {σ:St} {H:Hp} {s:Shared} {fp:List Addr} (I:Inv X pins σ H s) (hf:∀ b∈fp,FpOk X pins H b) (ho:∀ b∈fp,∃ o,s.heap.get? b=some o /\ ∀ v,o.data≠.cell v):Inv X (pins++ZDD fp s.heap) σ H s :=
 I.pins_of fun p hp=>(yBF.mp hp).elim (fun z=>I.pin p (yAQ _ z)) fun z=>by
  obtain ⟨hb,e⟩:=of_pinsAt z
  obtain ⟨f0,f1,f2,_⟩:=hf p.1 hb
  obtain ⟨o,e',d⟩:=ho p.1 hb
  rw [e] at e';cases e'
  exact ⟨e,f0,f1,f2,d⟩
theorem Inv.unpinned {pins pl:List (Addr×Obj)} {σ:St} {H:Hp} {s:Shared} (I:Inv X (pins++pl) σ H s):Inv X pins σ H s:=I.pins_of fun p hp=>I.pin p (yAQ _ (List.mem_append_left _ hp))
theorem ZB7 {iter:Expr} {body:List Stmt} {wi:TI} {g:TG} {tb:TS} {pos:Pos} (hp:PassesOwn (model X.prog X.w) X.A X.env X.xe) (hc:X.calm=true) (hi:PI X tg iter wi) (hg:PG X tg g) (hb:PSs X body tb)
  (hs:∀ x,foldedSetIterable iter X.env x=pure x:=by intro _;rfl):PS X (.For tg iter body [] pos) (tFor wi g tb):=by
 intro pins s σ H D I h
 refine wpAny_For (thn (hi pins s σ H _ I h) fun v s1 h1=>thn h1 fun itv s2 h2=>?_) hs
 obtain ⟨it,fp,tn,J,H2,e,I2,T,st2,f2,W,⟨m0,w0⟩,turn⟩:=h2
 subst e
 have stat:∀ {H':Hp},(∀ b∈fp,H' b=none)->∀ b∈fp,FpOk X pins H' b:=fun hn b hb=>⟨hn b hb,(f2 b hb).2⟩
 refine codeAny_forLoop_any (fun n s'=>∃ i σ' H',Inv X pins σ' H' s' /\ tn i s'.heap /\ (∀ b∈fp,H' b=none) /\ W i n σ' H') ?_ m0 ⟨0,σ,H2,I2,st2,fun b hb=>(f2 b hb).1,w0⟩
 rintro n s3 ⟨i,σ3,H3,I3,st3,fr3,w3⟩
 rcases turn i n σ3 H3 w3 with ⟨stop,qn⟩ | ⟨go,N,hN,step⟩
 .refine wpAny_passesOwn hp (thn (T.done X rfl rfl rfl hc i pins s3 σ3 H3 X.xe I3 (stat fr3) st3 stop) fun r s4 ⟨hr,I4⟩=>?_)
  subst hr
  exact wpAny_execs_nil ⟨σ3,H3,I4,qn⟩
 .refine wpAny_passesOwn hp (thn (T.item X rfl rfl rfl hc i pins s3 σ3 H3 X.xe I3 (stat fr3) st3 go) fun r s4 ⟨u,hr,h4⟩=>?_)
  subst hr
  refine wpAny_passesOwn hp (thn h4 fun _ s5 zz=>?_)
  obtain ⟨x,H5,I5,r5,y5,st5,fr5⟩:=zz
  have I5':=I5.pinned (stat fr5) (T.obj _ _ st5)
  refine wpAny_passesOwn hp (thn (hg _ s5 σ3 H5 x u _ I5' r5 (step x H5 y5)) fun _ s6 zz=>?_)
  obtain ⟨σ6,H6,I6,q6⟩:=zz
  refine wpAny_passesOwn hp (thn (hb _ s6 σ6 H6 _ I6 q6) fun f s7 q7=>?_)
  have again:∀ {σ7:St} {H7:Hp},Inv X (pins++ZDD fp s5.heap) σ7 H7 s7->N σ7 H7->∃ m,m < n /\ ∃ i σ' H',Inv X pins σ' H' s7 /\ tn i s7.heap /\ (∀ b∈fp,H' b=none) /\ W i m σ' H':=fun {σ7 H7} I7 n7=>by
   obtain ⟨m',hm,w7⟩:=hN σ7 H7 n7
   refine ⟨m',hm,i+1,σ7,H7,I7.unpinned,T.keep _ _ _ st5 fun b hb o e=>(I7.pin (b,o) (yAQ _ (yAQ _ (ZB4 hb e)))).1,fun b hb=>?_,w7⟩
   obtain ⟨o,e,d⟩:=T.obj _ _ st5 b hb
   exact (I7.pin (b,o) (yAQ _ (yAQ _ (ZB4 hb e)))).2.1
  cases f with
  | next=>obtain ⟨σ7,H7,I7,n7⟩:=q7;exact again I7 n7
  | cont=>obtain ⟨σ7,H7,I7,n7⟩:=q7;exact again I7 n7
  | brk=>obtain ⟨σ7,H7,I7,q7⟩:=q7;exact ⟨σ7,H7,I7.unpinned,q7⟩
  | ret v=>obtain ⟨x7,σ7,H7,I7,r7,q7⟩:=q7;exact ⟨x7,σ7,H7,I7.unpinned,r7,q7⟩
end
theorem for_list {K:W.Frag} {a:Addr} {xs:List V} {g:TG} {tb:TS} {D:Ends} {σ:St} {H:Hp} (Pv:Nat->St->Hp->Prop) (h0:Pv 0 σ H) (hl:∀ i σ H,i <= xs.length->Pv i σ H->SqL K H a xs)
  (hs:∀ i x σ H,xs[i]?=some x->Pv i σ H->g x σ H fun σ2 H2=>tb { D with nx:=Pv (i+1),ct:=Pv (i+1),bk:=D.nx } σ2 H2) (hd:∀ σ H,Pv xs.length σ H->D.nx σ H) :
  ∃ W:Nat->Nat->St->Hp->Prop,(∃ m,W 0 m σ H) /\ ∀ i m σ H,W i m σ H ->
   ((Itl K a).stop i H /\ D.nx σ H)∨((Itl K a).go i H /\ ∃ N:St->Hp->Prop,(∀ σ' H',N σ' H'->∃ m',m' < m /\ W (i+1) m' σ' H') /\ ∀ x H',(Itl K a).yld i H x H'->g x σ H' fun σ2 H2=>tb { D with nx:=N,ct:=N,bk:=D.nx } σ2 H2):=by
 refine ⟨fun i m σ H=>m=xs.length-i /\ i <= xs.length /\ Pv i σ H,⟨xs.length,by simp,yAY _,h0⟩,?_⟩
 rintro i m σ H ⟨rfl,hi,p⟩
 have q:=hl i σ H hi p
 by_cases hlt:i < xs.length
 .refine .inr ⟨⟨xs,xs[i],q,by simp [hlt]⟩,Pv (i+1),fun σ' H' p'=>⟨xs.length-(i+1),by omega,rfl,hlt,p'⟩,fun x H' y=>?_⟩
  obtain ⟨e,y⟩:=y
  subst e
  exact hs i x σ _ (y xs q) p
 .have e:i=xs.length:=by omega
  subst e
  exact .inl ⟨⟨xs,q,yAA _⟩,hd σ H p⟩
theorem for_range {lo:Int} {n:Nat} {g:TG} {tb:TS} {D:Ends} {σ:St} {H:Hp} (Pv:Nat->St->Hp->Prop) (h0:Pv 0 σ H)
  (hs:∀ i σ H,i < n->Pv i σ H->g (.int (lo+i)) σ H fun σ2 H2=>tb { D with nx:=Pv (i+1),ct:=Pv (i+1),bk:=D.nx } σ2 H2) (hd:∀ σ H,Pv n σ H->D.nx σ H) :
  ∃ W:Nat->Nat->St->Hp->Prop,(∃ m,W 0 m σ H) /\ ∀ i m σ H,W i m σ H ->
   ((Itr lo n).stop i H /\ D.nx σ H)∨((Itr lo n).go i H /\ ∃ N:St->Hp->Prop,(∀ σ' H',N σ' H'->∃ m',m' < m /\ W (i+1) m' σ' H') /\ ∀ x H',(Itr lo n).yld i H x H'->g x σ H' fun σ2 H2=>tb { D with nx:=N,ct:=N,bk:=D.nx } σ2 H2):=by
 refine ⟨fun i m σ H=>m=n-i /\ i <= n /\ Pv i σ H,⟨n,by simp,yAY _,h0⟩,?_⟩
 rintro i m σ H ⟨rfl,hi,p⟩
 by_cases hlt:i < n
 .refine .inr ⟨hlt,Pv (i+1),fun σ' H' p'=>⟨n-(i+1),by omega,rfl,hlt,p'⟩,fun x H' y=>?_⟩
  obtain ⟨e,y⟩:=y
  subst e y
  exact hs i σ _ hlt p
 .have e:i=n:=by omega
  subst e
  exact .inl ⟨yAA _,hd σ H p⟩
noncomputable abbrev R2:=V->V->Hp->VK->Prop
noncomputable def OpR (X:Cx) (f:Value->Value->Sem Value) (r:R2):Prop :=
 ∀ (pins:List (Addr×Obj)) (s:Shared) (σ:St) (H:Hp) (x y:V) (v u:Value) (Q:VK),Inv X pins σ H s->RelV x v->RelV y u->r x y H Q ->
  wpAny (model X.prog X.w) X.A (f v u) (EP X pins σ Q) X.xe s
noncomputable def UnR (X:Cx) (f:Value->Sem Value) (r:V->Hp->VK->Prop):Prop :=
 ∀ (pins:List (Addr×Obj)) (s:Shared) (σ:St) (H:Hp) (x:V) (v:Value) (Q:VK),Inv X pins σ H s->RelV x v->r x H Q ->
  wpAny (model X.prog X.w) X.A (f v) (EP X pins σ Q) X.xe s
noncomputable def ZDA (X:Cx) (f:Value) (r:List V->Hp->VK->Prop):Prop :=
 ∀ (pins:List (Addr×Obj)) (s:Shared) (σ:St) (H:Hp) (xs:List V) (us:List Value) (Q:VK),Inv X pins σ H s->Vals xs us->r xs H Q ->
  wpAny (model X.prog X.w) X.A (call f us) (EP X pins σ Q) X.xe s
noncomputable def tOp (r:R2) (ta tb:TE):TE:=fun σ H Q=>ta σ H fun x H1=>tb σ H1 fun y H2=>r x y H2 Q
noncomputable def tUn (r:V->Hp->VK->Prop) (ta:TE):TE:=fun σ H Q=>ta σ H fun x H1=>r x H1 Q
noncomputable def rI (C:Int->Int->Prop) (g:Int->Int->V):R2:=fun x y H Q=>∃ i j,x=.int i /\ y=.int j /\ C i j /\ Q (g i j) H
noncomputable def rI0 (g:Int->Int->V):R2:=fun x y H Q=>∃ i j,x=.int i /\ y=.int j /\ Q (g i j) H
noncomputable def rU (g:Int->V):V->Hp->VK->Prop:=fun x H Q=>∃ i,x=.int i /\ Q (g i) H
section
variable {X:Cx} {a b c:Expr} {ta tb tc:TE} {pos:Pos}
theorem binT (ha:PE X a ta) (hb:PE X b tb) {pins:List (Addr×Obj)} {s:Shared} {σ:St} {H:Hp} {R:V->V->Hp->Prop} (I:Inv X pins σ H s)
  (h:ta σ H fun x H1=>tb σ H1 fun y H2=>R x y H2) {Q:Value->Shared->Prop} {f:Value->Value->Sem Value}
  (hf:∀ v u s2 x y H2,Inv X pins σ H2 s2->RelV x v->RelV y u->R x y H2->wpAny (model X.prog X.w) X.A (f v u) Q X.xe s2) :
  wpAny (model X.prog X.w) X.A (eval a X.env) (fun v s₁=>wpAny (model X.prog X.w) X.A (eval b X.env) (fun u s₂=>wpAny (model X.prog X.w) X.A (f v u) Q X.xe s₂) X.xe s₁) X.xe s:=by
 refine thn (ha pins s σ H _ I h) fun v s1 zz=>?_
 obtain ⟨x,H1,I1,r1,q1⟩:=zz
 refine thn (hb pins s1 σ H1 _ I1 q1) fun u s2 zz=>?_
 obtain ⟨y,H2,I2,r2,q2⟩:=zz
 exact hf v u s2 x y H2 I2 r1 r2 q2
theorem ZAm {op:Operator} {r:R2} (ho:OpR X (binaryOp op) r) (ha:PE X a ta) (hb:PE X b tb):PE X (.BinOp a op b pos) (tOp r ta tb):=by
 intro pins s σ H Q I h
 exact wpAny_BinOp (binT ha hb I h fun v u s2 x y H2 I2 rx ry q=>ho pins s2 σ H2 x y v u Q I2 rx ry q)
theorem ZDb {op:UnaryOp} {r:V->Hp->VK->Prop} (ho:UnR X (unaryOp op) r) (ha:PE X a ta):PE X (.UnaryOp op a pos) (tUn r ta):=by
 intro pins s σ H Q I h
 exact UnaryOp_ (thn (ha pins s σ H _ I h) fun v s1 ⟨x,H1,I1,r1,q1⟩=>ho pins s1 σ H1 x v Q I1 r1 q1)
theorem opI {f:Value->Value->Sem Value} {C:Int->Int->Prop} {g:Int->Int->Int}
  (rule:∀ (i j:Int) (t u:Tok) (s:Shared) (Q:Value->Shared->Prop) (E:Value->Shared->Prop),C i j->Q (.int (g i j) s.toks) { s with toks:=s.toks+1 }->wpAny (model X.prog X.w) X.A (f (.int i t) (.int j u)) Q E s) :
  OpR X f (rI C fun i j=>.int (g i j)):=by
 intro pins s σ H x y v u Q I rx ry h
 obtain ⟨i,j,rfl,rfl,hc,q⟩:=h
 obtain ⟨t,rfl⟩:=rx
 obtain ⟨t',rfl⟩:=ry
 exact rule i j t t' s _ _ hc ⟨.int (g i j),H,I.tok _,⟨_,rfl⟩,q⟩
theorem opI0 {f:Value->Value->Sem Value} {g:Int->Int->Int}
  (rule:∀ (i j:Int) (t u:Tok) (s:Shared) (Q:Value->Shared->Prop) (E:Value->Shared->Prop),Q (.int (g i j) s.toks) { s with toks:=s.toks+1 }->wpAny (model X.prog X.w) X.A (f (.int i t) (.int j u)) Q E s) :
  OpR X f (rI0 fun i j=>.int (g i j)):=by
 intro pins s σ H x y v u Q I rx ry h
 obtain ⟨i,j,rfl,rfl,q⟩:=h
 obtain ⟨t,rfl⟩:=rx
 obtain ⟨t',rfl⟩:=ry
 exact rule i j t t' s _ _ ⟨.int (g i j),H,I.tok _,⟨_,rfl⟩,q⟩
theorem opB0 {f:Value->Value->Sem Value} {g:Int->Int->Bool}
  (rule:∀ (i j:Int) (t u:Tok) (s:Shared) (Q:Value->Shared->Prop) (E:Value->Shared->Prop),Q (.bool (g i j)) s->wpAny (model X.prog X.w) X.A (f (.int i t) (.int j u)) Q E s) :
  OpR X f (rI0 fun i j=>.bl (g i j)):=by
 intro pins s σ H x y v u Q I rx ry h
 obtain ⟨i,j,rfl,rfl,q⟩:=h
 obtain ⟨t,rfl⟩:=rx
 obtain ⟨t',rfl⟩:=ry
 exact rule i j t t' s _ _ ⟨.bl (g i j),H,I,rfl,q⟩
noncomputable def CDiv (i j:Int):Prop:=0 < j /\ j < 1073741824
noncomputable def CMul (i j:Int):Prop:=(-(2 ^ 64) < i /\ i < 2 ^ 64)∨(-(2 ^ 64) < j /\ j < 2 ^ 64)
theorem CMul.ok {i j:Int} (h:CMul i j):IntMulOk i j:=by
 rcases h with ⟨h1,h2⟩ | ⟨h1,h2⟩
 .exact .of_left (intBits_le_64 h1 h2)
 .exact .of_right (intBits_le_64 h1 h2)
theorem ZCT:OpR X (binaryOp .Add) (rI0 fun i j=>.int (i+j)):=opI0 fun _ _ _ _ _ _ _ q=>add_int q
theorem ZDV:OpR X (binaryOp .Sub) (rI0 fun i j=>.int (i-j)):=opI0 fun _ _ _ _ _ _ _ q=>sub_int q
theorem ZCk:OpR X (binaryOp .Mult) (rI CMul fun i j=>.int (i * j)):=opI fun _ _ _ _ _ _ _ hc q=>mul_int q hc.ok
theorem ZBf:OpR X (binaryOp .FloorDiv) (rI CDiv fun i j=>.int (i / j)):=opI fun i j _ _ _ _ _ hc q=>by
 have h1:(0:Int) < j:=hc.1
 have h2:j < 1073741824:=hc.2
 exact floordiv_int (by omega) (by rw [Int.fdiv_eq_ediv_of_nonneg i (by omega)];exact q) (.inl (PyProof.noPylong_small (by omega)))
theorem ZBP:OpR X (binaryOp .Mod) (rI (fun _ j=>0 < j) fun i j=>.int (i % j)):=opI fun i j _ _ _ _ _ hc q=>by
 have h1:(0:Int) < j:=hc
 exact mod_int' (by omega) (by rw [Int.fmod_eq_emod_of_nonneg i (by omega)];exact q)
theorem unI {f:Value->Sem Value} {g:Int->Int}
  (rule:∀ (i:Int) (t:Tok) (s:Shared) (Q:Value->Shared->Prop) (E:Value->Shared->Prop),Q (.int (g i) s.toks) { s with toks:=s.toks+1 }->wpAny (model X.prog X.w) X.A (f (.int i t)) Q E s) :
  UnR X f (rU fun i=>.int (g i)):=by
 intro pins s σ H x v Q I rx h
 obtain ⟨i,rfl,q⟩:=h
 obtain ⟨t,rfl⟩:=rx
 exact rule i t s _ _ ⟨.int (g i),H,I.tok _,⟨_,rfl⟩,q⟩
theorem ZCq:UnR X (unaryOp .USub) (rU fun i=>.int (-i)):=unI fun _ _ _ _ _ q=>neg_int q
end
noncomputable def scal:V->V->Bool
 | .non,.non=>true | .non,.int _=>true | .int _,.non=>true | .non,.bl _=>true | .bl _,.non=>true | .non,.str _=>true | .str _,.non=>true
 | .int _,.int _=>true | .bl _,.bl _=>true | .str _,.str _=>true | .byt _,.byt _=>true
 | .int _,.str _=>true | .str _,.int _=>true | .bl _,.str _=>true | .str _,.bl _=>true
 | _,_=>false
noncomputable def rEq:R2:=fun x y H Q=>scal x y=true /\ Q (.bl (decide (x=y))) H
noncomputable def rNe:R2:=fun x y H Q=>scal x y=true /\ Q (.bl (!decide (x=y))) H
theorem dec_int {i j:Int}:decide (V.int i=V.int j)=(i == j):=by
 rw [Bool.eq_iff_iff]
 simp
theorem dec_bl {i j:Bool}:decide (V.bl i=V.bl j)=(i == j):=by
 rw [Bool.eq_iff_iff]
 simp
theorem dec_str {i j:Str}:decide (V.str i=V.str j)=(i == j):=by
 rw [Bool.eq_iff_iff]
 simp
theorem dec_byt {i j:Array UInt8}:decide (V.byt i=V.byt j)=(i.toList == j.toList):=by
 rw [Bool.eq_iff_iff]
 cases i
 cases j
 simp
section
variable {X:Cx} {a b c:Expr} {ta tb tc:TE} {pos:Pos}
theorem ZAo {pins:List (Addr×Obj)} {σ:St} {H:Hp} {s:Shared} {Q:VK} {k k':Bool} (I:Inv X pins σ H s) (q:Q (.bl k) H) (e:k=k'):EP X pins σ Q (.bool k') s:=by
 subst e
 exact ⟨.bl k,H,I,rfl,q⟩
theorem ZBW:OpR X (compareOp .Eq) rEq:=by
 intro pins s σ H x y v u Q I rx ry h
 obtain ⟨hs,q⟩:=h
 cases x with
 | non=>
  cases rx
  cases y with
  | non=>cases ry;exact PySem.EqNone.eq_none_none (ZAo I q (by simp))
  | bl j=>cases ry;exact PySem.EqNone.eq_none_bool (ZAo I q (by simp))
  | int j=>obtain ⟨t',rfl⟩:=ry;exact PySem.EqNone.eq_none_int (ZAo I q (by simp))
  | str j=>obtain ⟨t',rfl⟩:=ry;exact PySem.EqNone.eq_none_str (ZAo I q (by simp))
  | _=>exact absurd (show false=true from hs) yAM
 | bl i=>
  cases rx
  cases y with
  | non=>cases ry;exact PySem.EqNone.eq_bool_none (ZAo I q (by simp))
  | bl j=>cases ry;exact eq_bool (ZAo I q dec_bl)
  | str j=>obtain ⟨t',rfl⟩:=ry;exact PySem.EqMixed.eq_bool_str (ZAo I q (by simp))
  | _=>exact absurd (show false=true from hs) yAM
 | int i=>
  obtain ⟨t,rfl⟩:=rx
  cases y with
  | non=>cases ry;exact PySem.EqNone.eq_int_none (ZAo I q (by simp))
  | int j=>obtain ⟨t',rfl⟩:=ry;exact eq_int (ZAo I q dec_int)
  | str j=>obtain ⟨t',rfl⟩:=ry;exact PySem.EqMixed.eq_int_str (ZAo I q (by simp))
  | _=>exact absurd (show false=true from hs) yAM
 | str i=>
  obtain ⟨t,rfl⟩:=rx
  cases y with
  | non=>cases ry;exact PySem.EqNone.eq_str_none (ZAo I q (by simp))
  | bl j=>cases ry;exact PySem.EqMixed.eq_str_bool (ZAo I q (by simp))
  | int j=>obtain ⟨t',rfl⟩:=ry;exact PySem.EqMixed.eq_str_int (ZAo I q (by simp))
  | str j=>obtain ⟨t',rfl⟩:=ry;exact eq_str (ZAo I q dec_str)
  | _=>exact absurd (show false=true from hs) yAM
 | byt i=>
  obtain ⟨t,rfl⟩:=rx
  cases y with
  | byt j=>obtain ⟨t',rfl⟩:=ry;exact PySem.W.eq_bytes (ZAo I q dec_byt)
  | _=>exact absurd (show false=true from hs) yAM
 | _=>cases y <;> exact absurd (show false=true from hs) yAM
theorem ZDs:OpR X (compareOp .NotEq) rNe:=by
 intro pins s σ H x y v u Q I rx ry h
 obtain ⟨hs,q⟩:=h
 cases x with
 | non=>
  cases rx
  cases y with
  | non=>cases ry;exact PySem.EqNone.ne_none_none (ZAo I q (by simp))
  | bl j=>cases ry;exact PySem.EqNone.ne_none_bool (ZAo I q (by simp))
  | int j=>obtain ⟨t',rfl⟩:=ry;exact PySem.EqNone.ne_none_int (ZAo I q (by simp))
  | str j=>obtain ⟨t',rfl⟩:=ry;exact PySem.EqNone.ne_none_str (ZAo I q (by simp))
  | _=>exact absurd (show false=true from hs) yAM
 | bl i=>
  cases rx
  cases y with
  | non=>cases ry;exact PySem.EqNone.ne_bool_none (ZAo I q (by simp))
  | bl j=>cases ry;exact ne_bool (ZAo I q (congrArg not dec_bl))
  | str j=>obtain ⟨t',rfl⟩:=ry;exact PySem.EqMixed.ne_bool_str (ZAo I q (by simp))
  | _=>exact absurd (show false=true from hs) yAM
 | int i=>
  obtain ⟨t,rfl⟩:=rx
  cases y with
  | non=>cases ry;exact PySem.EqNone.ne_int_none (ZAo I q (by simp))
  | int j=>obtain ⟨t',rfl⟩:=ry;exact ne_int (ZAo I q (congrArg not dec_int))
  | str j=>obtain ⟨t',rfl⟩:=ry;exact PySem.EqMixed.ne_int_str (ZAo I q (by simp))
  | _=>exact absurd (show false=true from hs) yAM
 | str i=>
  obtain ⟨t,rfl⟩:=rx
  cases y with
  | non=>cases ry;exact PySem.EqNone.ne_str_none (ZAo I q (by simp))
  | bl j=>cases ry;exact PySem.EqMixed.ne_str_bool (ZAo I q (by simp))
  | int j=>obtain ⟨t',rfl⟩:=ry;exact PySem.EqMixed.ne_str_int (ZAo I q (by simp))
  | str j=>obtain ⟨t',rfl⟩:=ry;exact ne_str (ZAo I q (congrArg not dec_str))
  | _=>exact absurd (show false=true from hs) yAM
 | byt i=>
  obtain ⟨t,rfl⟩:=rx
  cases y with
  | byt j=>obtain ⟨t',rfl⟩:=ry;exact PySem.W.ne_bytes (ZAo I q (congrArg not dec_byt))
  | _=>exact absurd (show false=true from hs) yAM
 | _=>cases y <;> exact absurd (show false=true from hs) yAM
theorem ZC5:OpR X (compareOp .Lt) (rI0 fun i j=>.bl (decide (i < j))):=opB0 fun _ _ _ _ _ _ _ q=>lt_int q
theorem ZC6:OpR X (compareOp .Gt) (rI0 fun i j=>.bl (decide (j < i))):=opB0 fun _ _ _ _ _ _ _ q=>gt_int q
theorem ZAS (b:Expr) {op:CmpOp} (h:op≠.In:=by decide) (h2:op≠.NotIn:=by decide):behindInMarks op b=false:=by
 have e1:(op == CmpOp.In)=false:=by cases op <;> first | rfl | exact absurd rfl h
 have e2:(op == CmpOp.NotIn)=false:=by cases op <;> first | rfl | exact absurd rfl h2
 cases b <;> simp [behindInMarks,e1,e2]
theorem ZBB {op:CmpOp} {r:R2} (ho:OpR X (compareOp op) r) (ha:PE X a ta) (hb:PE X b tb) (hm:behindInMarks op b=false):PE X (.Compare a [op] [b] pos) (tOp r ta tb):=by
 intro pins s σ H Q I h
 exact wpAny_Compare1 (binT ha hb I h fun v u s2 x y H2 I2 rx ry q=>ho pins s2 σ H2 x y v u Q I2 rx ry q) hm
noncomputable def ZD3 (t:TE):TT:=fun σ H Q=>t σ H fun x H'=>∃ k,x=.bl k /\ Q k H'
theorem ZAV {op:CmpOp} {r:R2} (ho:OpR X (compareOp op) r) (ha:PE X a ta) (hb:PE X b tb) (hm:behindInMarks op b=false):PT X (.Compare a [op] [b] pos) (ZD3 (tOp r ta tb)):=by
 intro pins s σ H Q I h
 refine wpAny_isTrue_Compare1 (thn (ha pins s σ H _ I h) fun v s1 ⟨x,H1,I1,r1,q1⟩=>thn (hb pins s1 σ H1 _ I1 q1) fun u s2 ⟨y,H2,I2,r2,q2⟩=>
  thn (ho pins s2 σ H2 x y v u _ I2 r1 r2 q2) fun c s3 ⟨z,H3,I3,r3,k,e,q3⟩=>?_) hm
 subst e
 cases r3
 exact wpAny_truthy_bool ⟨H3,I3,q3⟩
noncomputable def ZDh (r r':R2) (ta tb tc:TE):TE:=fun σ H Q=>ta σ H fun x H1=>tb σ H1 fun y H2=>r x y H2 fun z H3=>∃ k,z=.bl k /\
 (if k=true then tc σ H3 fun w' H4=>r' y w' H4 Q else Q (.bl false) H3)
theorem pe_chain {op op':CmpOp} {r r':R2} (ho:OpR X (compareOp op) r) (ho':OpR X (compareOp op') r') (ha:PE X a ta) (hb:PE X b tb) (hc:PE X c tc)
  (hm:lastMarks [op,op'] [b,c]=false:=by with_unfolding_all rfl):PE X (.Compare a [op,op'] [b,c] pos) (ZDh r r' ta tb tc):=by
 intro pins s σ H Q I h
 refine Compare_chain (thn (ha pins s σ H _ I h) fun v s1 ⟨x,H1,I1,r1,q1⟩=>chain_link (thn (hb pins s1 σ H1 _ I1 q1) fun u s2 ⟨y,H2,I2,r2,q2⟩=>
  thn (ho pins s2 σ H2 x y v u _ I2 r1 r2 q2) fun d s3 ⟨z,H3,I3,r3,k,e,q3⟩=>?_)) hm
 subst e
 cases r3
 refine wpAny_truthy_bool ?_
 cases k with
 | false=>exact ite_ff ⟨.bl false,H3,I3,rfl,q3⟩
 | true=>exact ite_tt (chain_last (thn (hc pins s3 σ H3 _ I3 q3) fun w' s4 ⟨z',H4,I4,r4,q4⟩=>ho' pins s4 σ H4 y z' u w' Q I4 r2 r4 q4))
theorem ZDt:(sizeLine:Nat) < 2 ^ 63:=by rw [sizeLine_eq];decide
theorem ZDf {x:V} {us:List Value} (r:Vals [x] us):∃ u,us=[u] /\ RelV x u:=by
 cases r with
 | cons r1 r2=>cases r2;exact ⟨_,rfl,r1⟩
theorem vals2 {x y:V} {us:List Value} (r:Vals [x,y] us):∃ u w',us=[u,w'] /\ RelV x u /\ RelV y w':=by
 cases r with
 | cons r1 r2=>
  cases r2 with
  | cons r3 r4=>cases r4;exact ⟨_,_,rfl,r1,r3⟩
end
structure ObjM (h:Heap) (x dx C:Addr) (mA:Str->Option Value):Prop where
 obj:h.get? x=some (PySem.W.instObj C dx)
 ns:h.Ns1 dx mA
 ne:dx≠x
theorem lookIn_ns {h:Heap} {dx:Addr} {mA:Str->Option Value} (n:h.Ns1 dx mA):∃ od,h.get? dx=some od /\ ∀ name,PySem.W.lookIn name od=some (mA name):=by
 obtain ⟨o,es,ep,ho,hd,hk,_,hm⟩:=n
 refine ⟨o,ho,fun name=>?_⟩
 have e:=hm name
 unfold nsFind findBy at e
 rw [<- Array.find?_toList] at e
 unfold PySem.W.lookIn
 rw [hd]
 dsimp only
 split
 .rename_i y q
  rw [q] at e
  exact congrArg some e
 .rename_i q
  rw [q] at e
  have a:es.toList.any (·.refKey)=false:=by
   rw [List.any_eq_false]
   intro y hy
   obtain ⟨z,t,hkey⟩:=hk y (Array.mem_toList_iff.mp hy)
   simp [DictEntry.refKey,hkey]
  have a':¬ es.toList.any (·.refKey)=true:=by rw [a];exact yAM
  rw [if_neg a']
  exact congrArg some e
theorem ObjM.look {h:Heap} {x dx C:Addr} {mA:Str->Option Value} (I:ObjM h x dx C mA):∃ od,PySem.W.InstAt h x (PySem.W.instObj C dx) C (some od) /\ ∀ name,PySem.W.lookIn name od=some (mA name) :=
 let ⟨od,ho,hl⟩:=lookIn_ns I.ns
 ⟨od,⟨I.obj,rfl,rfl,ho⟩,hl⟩
section
variable {prog:Program} {w:World} {A:Around} {E:Value->Shared->Prop} {s:Shared} {K:W.Frag} {x dx C f:Addr} {mA:Str->Option Value} {name:Str} {v:Value}
theorem get_map {expr:Bool} {Q:Value->Shared->Prop} (X:K.In s.heap) (I:ObjM s.heap x dx C mA) (hg:PySem.W.plainGet K C name=true) (hh:PySem.W.hasDictIn K C=true)
  (ha:W.findIn K (.ref C) name=some none) (hv:mA name=some v) (hv':PySem.W.handedIn v=true) (h:Q v { s with toks:=s.toks+1 }) :
  wpAny (model prog w) A (getAttr (.ref x) name expr) Q E s:=by
 obtain ⟨od,J,hl⟩:=I.look
 exact PySem.W.get_value X J (PySem.W.plainGet_of hg).1 (PySem.W.findObj_own hh ha rfl (by rw [hl,hv])) hv' h
theorem get_meth {pl:Sem Bool} {Q:Value×List Value->Shared->Prop} (X:K.In s.heap) (I:ObjM s.heap x dx C mA) (hg:PySem.W.plainGet K C name=true)
  (hf:W.findIn K (.ref C) name=some (some (.ref f))) (ht:PySem.W.isFn K (.ref f)=true) (hv:mA name=none) (h:Q (.ref f,[.ref x]) s) :
  wpAny (model prog w) A (getMethod (.ref x) name pl) Q E s:=by
 obtain ⟨od,J,hl⟩:=I.look
 exact PySem.W.method_fn X J (PySem.W.plainGet_of hg).1 (PySem.W.plainGet_of hg).2 hf (beq_iff_eq.mp ht) (by show (PySem.W.lookIn name od).map (·.isSome)=some false;rw [hl,hv];rfl) h
theorem set_map {ns:List Str} {Q:Unit->Shared->Prop} (X:K.In s.heap) (I:ObjM s.heap x dx C mA)
  (hs:W.findIn K (.ref C) "__setattr__"=some (some (.builtin "object.__setattr__"))) (hp:PySem.W.plainOver K C=true) (ht:PySem.W.takerIn K C name=some none) (hh:PySem.W.hasDictIn K C=true)
  (hw:PySem.Within mA ns) (hsz:ns.length <= sizeLine)
  (h:∀ h',ObjM h' x dx C (fun y=>if y=name then some v else mA y)->Heap.SameBut dx s.heap h'->Q () { s with heap:=h',toks:=s.toks+2 }) :
  wpAny (model prog w) A (setAttr (.ref x) name v) Q E s:=by
 obtain ⟨od,J,hl⟩:=I.look
 refine PySem.W.set_plain X J hs (PySem.W.osa_open (s:={ s with toks:=s.toks+1 }) (r:=none) X J hp ht fun b=>?_)
 obtain ⟨cd,hc,hd'⟩:=PySem.W.any_some hh
 have hx:s.heap.get? x=some ⟨.ref C,some dx,.plain,#[]⟩:=I.obj
 refine wpAny_bind (wpAny_pure (wpAny_bind (wpAny_bind (wpAny_loadPart hx (wpAny_bind (PySem.W.Looks.here (s:={ s with toks:=s.toks+1 }) (PySem.W.looks_clsIn X hc) ?_))))))
 rw [hd']
 refine wpAny_pure (a:=some dx) (wpAny_bind (wpAny_pure (wpAny_bind ?_)))
 refine wpAny_nsSet1 (s:={ s with toks:=s.toks+1 }) I.ns fun h' hn2 hs2=>?_
 obtain ⟨oD,esD,epD,hoD,hdD,hcD⟩:=hn2.count (PySem.Within.cons name v hw)
 refine wpAny_bind (wpAny_lookBehind hoD (by rw [hdD];exact pastItsLine_dict (yAD hcD (by rw [yAZ];omega))) ?_)
 exact wpAny_pure (h _ ⟨(hs2.2 _ (Ne.symm I.ne)).trans I.obj,hn2,I.ne⟩ hs2)
theorem make_map {R:Result->Shared->Prop} {vs:List Value} {kw:List (Str×Value)} (X:K.In s.heap) (hm:PySem.W.makesIn K C=true)
  (hi:W.findIn K (.ref C) "__init__"=some (some (.ref f))) (hf:PySem.W.typeIn K (.ref f)=some (.type "function"))
  (h:codeAny (model prog w) (A.under (.builtin "type.__call__" ⟨.ref C::vs,kw⟩)) (.call (.ref f) ⟨.ref (s.heap.objs.size+1)::vs,kw⟩) (PySem.W.InitBack (s.heap.objs.size+1) R)
   { s with heap:=(s.heap.push PySem.W.emptyDict).push (PySem.W.instObj C s.heap.objs.size) }) :
  codeAny (model prog w) A (.call (.ref C) ⟨vs,kw⟩) R s:=by
 obtain ⟨hh,g,d,t,os⟩:=s
 exact PySem.W.make_core (PySem.W.makes_of X hm) (PySem.W.looks_findIn X hi) (fun self=>PySem.W.bind_fn X self hf) (.inl rfl) h
end
noncomputable def putF (f:Str) (v:V):List (Str×V)->List (Str×V)
 | []=>[(f,v)]
 | (g,x)::r=>if g=f then (g,v)::r else (g,x)::putF f v r
theorem ZAu (f g:Str) (v:V):∀ fs:List (Str×V),(putF f v fs).lookup g=if g=f then some v else fs.lookup g
 | []=>by
  show List.lookup g [(f,v)]=_
  by_cases h:g=f
  .have hb:(g == f)=true:=beq_iff_eq.mpr h
   simp only [List.lookup,hb,if_pos h]
  .have hb:(g == f)=false:=beq_eq_false_iff_ne.mpr h
   simp only [List.lookup,hb,if_neg h]
 | (k,x)::r=>by
  have ih:=ZAu f g v r
  rw [show putF f v ((k,x)::r)=(if k=f then (k,v)::r else (k,x)::putF f v r) from rfl]
  by_cases hk:k=f
  .rw [if_pos hk]
   by_cases h:g=k
   .have hb:(g == k)=true:=beq_iff_eq.mpr h
    simp only [List.lookup,hb,if_pos (h.trans hk)]
   .have hb:(g == k)=false:=beq_eq_false_iff_ne.mpr h
    simp only [List.lookup,hb,if_neg (fun e:g=f=>h (e.trans hk.symm))]
  .rw [if_neg hk]
   by_cases h:g=k
   .have hb:(g == k)=true:=beq_iff_eq.mpr h
    simp only [List.lookup,hb,if_neg (fun e:g=f=>hk (h.symm.trans e))]
   .have hb:(g == k)=false:=beq_eq_false_iff_ne.mpr h
    simp only [List.lookup,hb]
    exact ih
theorem ZCl (f:Str) (v:V):∀ fs:List (Str×V),f∈(putF f v fs).map (·.1) /\ ∀ g,g∈fs.map (·.1)->g∈(putF f v fs).map (·.1)
 | []=>⟨by simp [putF],fun g h=>by simp at h⟩
 | (k,x)::r=>by
  obtain ⟨i1,i2⟩:=ZCl f v r
  rw [show putF f v ((k,x)::r)=(if k=f then (k,v)::r else (k,x)::putF f v r) from rfl]
  by_cases hk:k=f
  .rw [if_pos hk]
   subst hk
   exact ⟨by simp,fun g h=>by simpa using h⟩
  .rw [if_neg hk]
   refine ⟨?_,fun g h=>?_⟩
   .rw [yAR]
    exact yAP _ i1
   .rw [yAR] at h ⊢
    rcases yAL.mp h with e | e
    .exact yAL.mpr (.inl e)
    .exact yAP _ (i2 g e)
theorem ZCC (f:Str) (v:V):∀ fs:List (Str×V),(putF f v fs).length <= fs.length+1
 | []=>by simp [putF]
 | (k,x)::r=>by
  have ih:=ZCC f v r
  rw [show putF f v ((k,x)::r)=(if k=f then (k,v)::r else (k,x)::putF f v r) from rfl]
  by_cases hk:k=f
  .rw [if_pos hk,yAZ,yAZ];omega
  .rw [if_neg hk,yAZ,yAZ];omega
theorem RelO.some_of {v:V} {o:Option Value} (r:RelO (some v) o):∃ u,o=some u /\ RelV v u:=by
 cases o with
 | none=>exact (show False from r).elim
 | some u=>exact ⟨u,rfl,r⟩
theorem RelO.none_of {o:Option Value} (r:RelO none o):o=none:=by
 cases o with
 | none=>rfl
 | some u=>exact (show False from r).elim
theorem handed_of {v:V} {u:Value} (r:RelV v u):PySem.W.handedIn u=true:=by
 cases v with
 | non=>cases (show u=Value.none from r);rfl
 | bl b=>cases (show u=Value.bool b from r);rfl
 | int i=>obtain ⟨t,e⟩:=(show ∃ t,u=Value.int i t from r);cases e;rfl
 | str x=>obtain ⟨t,e⟩:=(show ∃ t,u=Value.str x t from r);cases e;rfl
 | byt b=>obtain ⟨t,e⟩:=(show ∃ t,u=Value.bytes b t from r);cases e;rfl
 | flt b=>obtain ⟨t,e⟩:=(show ∃ t,u=Value.float b t from r);cases e;rfl
 | ref a=>cases (show u=Value.ref a from r);rfl
 | ty n=>cases (show u=Value.type n from r);rfl
section
variable {P:Program} {w:World} {H H':Hp} {h h':Heap} {a C dx:Addr} {fs fs':List (Str×V)}
theorem ZCm (hok:HOk P w H h) (e:H a=some (.ins C dx fs)):∃ mA,ObjM h a dx C mA /\ (∀ f,RelO (fs.lookup f) (mA f)) /\ PySem.Within mA (fs.map (·.1)) /\ fs.length <= 1000 /\ H dx=some (.own a):=by
 obtain ⟨d,z,ne,ob,mA,n,r,q⟩:=(show ObjOk P w H h a (.ins C dx fs) from hok a _ e)
 exact ⟨mA,⟨ob,n,ne⟩,r,q,z,d⟩
end
structure Cls (K:W.Frag) (C:Addr):Prop where
 pg:PySem.W.plainGet K C Str.empty=true
 hd:PySem.W.hasDictIn K C=true
 po:PySem.W.plainOver K C=true
 sa:W.findIn K (.ref C) "__setattr__"=some (some (.builtin "object.__setattr__"))
theorem Cls.get {K:W.Frag} {C:Addr} (c:Cls K C) (f:Str):PySem.W.plainGet K C f=true:=c.pg
noncomputable def NoAttr (K:W.Frag) (C:Addr) (f:Str):Prop:=W.findIn K (.ref C) f=some none
theorem NoAttr.taker {K:W.Frag} {C:Addr} {f:Str} (n:NoAttr K C f):PySem.W.takerIn K C f=some none:=by
 unfold PySem.W.takerIn
 rw [show W.findIn K (.ref C) f=some none from n]
 rfl
structure Meth (K:W.Frag) (C:Addr) (m:Str) (f:Addr):Prop where
 at_:W.findIn K (.ref C) m=some (some (.ref f))
 fn:PySem.W.isFn K (.ref f)=true
 kp:W.keepIn K (.ref f)=true
section
variable {X:Cx} {pins:List (Addr×Obj)} {σ:St} {H:Hp} {s:Shared} {a C dx:Addr} {fs:List (Str×V)} {f:Str} {v:V} {A:Around} {E:Value->Shared->Prop}
theorem getattr_ok {b:Bool} {Q:Value->Shared->Prop} (I:Inv X pins σ H s) (e:H a=some (.ins C dx fs)) (c:Cls X.K C) (n:NoAttr X.K C f) (l:fs.lookup f=some v)
  (h:∀ u s',Inv X pins σ H s'->RelV v u->Q u s'):wpAny (model X.prog X.w) A (getAttr (.ref a) f b) Q E s:=by
 obtain ⟨mA,O,r,_,_,_⟩:=ZCm I.hok e
 obtain ⟨u,hu,ru⟩:=RelO.some_of (v:=v) (o:=mA f) (by rw [<- l];exact r f)
 exact get_map I.kIn O (c.get f) c.hd n hu (handed_of ru) (h u _ (I.tok _) ru)
theorem getmeth_ok {m:Str} {g:Addr} {pl:Sem Bool} {Q:Value×List Value->Shared->Prop} (I:Inv X pins σ H s) (e:H a=some (.ins C dx fs)) (c:Cls X.K C) (k:Meth X.K C m g) (l:fs.lookup m=none)
  (h:Q (.ref g,[.ref a]) s):wpAny (model X.prog X.w) A (getMethod (.ref a) m pl) Q E s:=by
 obtain ⟨mA,O,r,_,_,_⟩:=ZCm I.hok e
 have hn:mA m=none:=RelO.none_of (by rw [<- l];exact r m)
 exact get_meth I.kIn O (c.get m) k.at_ k.fn hn h
theorem setattr_ok {y:V} {u:Value} {Q:Unit->Shared->Prop} (I:Inv X pins σ H s) (e:H a=some (.ins C dx fs)) (c:Cls X.K C) (n:NoAttr X.K C f) (hl:fs.length < 1000) (ry:RelV y u)
  (h:∀ s',Inv X pins σ (upd H a (.ins C dx (putF f y fs))) s'->Q () s'):wpAny (model X.prog X.w) A (setAttr (.ref a) f u) Q E s:=by
 obtain ⟨mA,O,r,wi,_,ho⟩:=ZCm I.hok e
 have hz:(fs.map (·.1)).length <= sizeLine:=by rw [yAB,sizeLine_eq];omega
 refine set_map I.kIn O c.sa c.po n.taker c.hd wi hz fun h' O' sb=>h _ ?_
 have hd:∃ o,h'.get? dx=some o:=let ⟨o,_,_,e',_⟩:=O'.ns;⟨o,e'⟩
 refine I.write (x:=a) (e:=dx) (by rw [e];exact True.intro) (.inr ho) (fun b q hb z=>(sb.2 b hb).trans z) hd ?_
 refine ⟨by rw [ZAJ O.ne];exact ho,?_,O.ne,O'.obj,_,O'.ns,fun g=>?_,fun g hg=>?_⟩
 .have:=ZCC f y fs;omega
 .show RelO ((putF f y fs).lookup g) (if g=f then some u else mA g)
  rw [ZAu]
  by_cases q:g=f
  .rw [if_pos q,if_pos q];exact ry
  .rw [if_neg q,if_neg q];exact r g
 .by_cases q:g=f
  .rw [q];exact (ZCl f y fs).1
  .refine (ZCl f y fs).2 g (wi g fun z=>hg ?_)
   show (if g=f then some u else mA g)=none
   rw [if_neg q];exact z
theorem Inv.made (I:Inv X pins σ H s):Inv X pins σ (upd (upd H s.heap.objs.size (.own (s.heap.objs.size+1))) (s.heap.objs.size+1) (.ins C s.heap.objs.size []))
  { s with heap:=(s.heap.push PySem.W.emptyDict).push (PySem.W.instObj C s.heap.objs.size) }:=by
 have e1:(s.heap.push PySem.W.emptyDict).get? s.heap.objs.size=some PySem.W.emptyDict:=Heap.get?_push_size s.heap rfl
 have e2:((s.heap.push PySem.W.emptyDict).push (PySem.W.instObj C s.heap.objs.size)).get? (s.heap.objs.size+1)=some (PySem.W.instObj C s.heap.objs.size):=by
  have:=Heap.get?_push_size (s.heap.push PySem.W.emptyDict) (o:=PySem.W.instObj C s.heap.objs.size) rfl
  rwa [Heap.size_push] at this
 have e3:(s.heap.push PySem.W.emptyDict).Ns s.heap.objs.size (fun _=>none):=⟨PySem.W.emptyDict,#[],_,e1,rfl,(fun e he=>absurd he (by simp)),fun _=>rfl⟩
 have I1:=I.laid (a:=s.heap.objs.size) (o:=.own (s.heap.objs.size+1)) (h':=s.heap.push PySem.W.emptyDict) (t':=s.toks) (fun b u q=>Heap.get?_push_of_some _ q) (yAA _) ⟨_,e1⟩
 refine I1.laid (a:=s.heap.objs.size+1) (o:=.ins C s.heap.objs.size []) (t':=s.toks) (fun b u q=>Heap.get?_push_of_some _ q) (Nat.le_of_eq (Heap.size_push _ _)) ?_
 have ne:s.heap.objs.size≠s.heap.objs.size+1:=yAE (yBG _)
 refine ⟨by rw [ZAJ ne,ZAC],yAY _,ne,e2,fun _=>none,(Heap.Ns1.of_empty e3).at fun o q=>Heap.get?_push_of_some _ q,fun _=>True.intro,fun y hy=>absurd rfl hy⟩
theorem attr_of {prog:Program} {w:World} {env:Env} {e:Expr} {f:Str} {pos:Pos} {s:Shared} {Q:Value->Shared->Prop} (hb:attributeBase e f env (eval e env)=eval e env)
  (h:wpAny (model prog w) A (eval e env) (fun o s₁=>wpAny (model prog w) A (getAttr o f true) Q E s₁) E s):wpAny (model prog w) A (eval (.Attribute e f pos) env) Q E s :=
 Attribute_any_ h (by rw [arm_eval_Attribute,hb])
end
noncomputable def tFld (K:W.Frag) (ta:TE) (f:Str):TE:=fun σ H Q=>ta σ H fun x H1=>∃ a C dx fs v,x=.ref a /\ H1 a=some (.ins C dx fs) /\ Cls K C /\ NoAttr K C f /\ fs.lookup f=some v /\ Q v H1
noncomputable def sFld (K:W.Frag) (ta tv:TE) (f:Str):TS:=fun D σ H=>tv σ H fun y H1=>ta σ H1 fun x H2=>∃ a C dx fs,x=.ref a /\ H2 a=some (.ins C dx fs) /\ Cls K C /\ NoAttr K C f /\ fs.length < 1000 /\
 D.nx σ (upd H2 a (.ins C dx (putF f y fs)))
noncomputable def sFldAug (K:W.Frag) (ta tv:TE) (rd:V->V->Hp->VK->Prop) (f:Str):TS:=fun D σ H=>ta σ H fun x H1=>∃ a C dx fs v,x=.ref a /\ H1 a=some (.ins C dx fs) /\ Cls K C /\ NoAttr K C f /\ fs.lookup f=some v /\
 tv σ H1 fun y H2=>rd v y H2 fun z H3=>∃ dx' fs',H3 a=some (.ins C dx' fs') /\ fs'.length < 1000 /\ D.nx σ (upd H3 a (.ins C dx' (putF f z fs')))
section
variable {X:Cx} {o e value:Expr} {f:Str} {pos pos' tpos:Pos} {ta tv:TE}
theorem ZBC (he:PE X e ta) (hb:attributeBase e f X.env (eval e X.env)=eval e X.env):PE X (.Attribute e f pos) (tFld X.K ta f):=by
 intro pins s σ H Q I h
 refine attr_of hb (thn (he pins s σ H _ I h) fun u s1 zz=>?_)
 obtain ⟨x,H1,I1,rx,a,C,dx,fs,v,ex,ea,c,n,l,q⟩:=zz
 subst ex
 obtain rfl:u=Value.ref a:=rx
 exact getattr_ok I1 ea c n l fun u' s2 I2 ru=>⟨v,H1,I2,ru,q⟩
theorem ZB8 (ha:PE X o ta) (hv:PE X value tv) (hs:swapsWith value (some (.Attribute o f pos')) pos.line X.env=pure false):PS X (.Assign [.Attribute o f pos'] value pos) (sFld X.K ta tv f):=by
 intro pins s σ H D I h
 refine plainObj_wpAny_Assign_Attribute (thn (hv pins s σ H _ I h) fun u s1 ⟨y,H1,I1,ry,q⟩=>thn (ha pins s1 σ H1 _ I1 q) fun ov s2 zz=>?_) hs
 obtain ⟨x,H2,I2,rx,a,C,dx,fs,ex,ea,c,n,l,q2⟩:=zz
 subst ex
 obtain rfl:ov=Value.ref a:=rx
 exact setattr_ok I2 ea c n l ry fun s3 I3=>⟨σ,_,I3,q2⟩
end
section
variable {X:Cx} {pins:List (Addr×Obj)} {σ:St} {H:Hp} {s:Shared} {A:Around} {E:Value->Shared->Prop} {Q:Value->Shared->Prop} {c:Value} {b:Bool}
inductive TyOf (K:W.Frag) (H:Hp):V->Value->Prop where
 | non:TyOf K H .non (.type "NoneType")
 | bl (x:Bool):TyOf K H (.bl x) (.type "bool")
 | int (i:Int):TyOf K H (.int i) (.type "int")
 | str (x:Str):TyOf K H (.str x) (.type "str")
 | flt (x:UInt64):TyOf K H (.flt x) (.type "float")
 | lst {a:Addr} {xs:List V} (e:H a=some (.lst xs)):TyOf K H (.ref a) (.type "list")
 | frz {a:Addr} {o:Obj} {xs:List V} (e:H a=some (.frz o (.lst xs))):TyOf K H (.ref a) (.type "list")
 | tup {a:Addr} {xs:List V} (e:H a=some (.tup xs)):TyOf K H (.ref a) (.type "tuple")
 | dK {a:Addr} {kvs:List (Key×V)} (e:H a=some (.dK kvs)):TyOf K H (.ref a) (.type "dict")
 | dT {a:Addr} {kvs:List (List Key×V)} (e:H a=some (.dT kvs)):TyOf K H (.ref a) (.type "dict")
 | ins {a C dx:Addr} {fs:List (Str×V)} (e:H a=some (.ins C dx fs)) (cl:Cls K C) (ha:W.findIn K (.ref C) "__class__"=some (some (.builtin "object.__class__")))
   (hn:PySem.W.specialIn K (.builtin "object.__class__") "__get__"=some (some (.builtin "getset_descriptor.__get__"))) (htk:PySem.W.takesIn K (.builtin "object.__class__")=some true)
   (hm:PySem.W.mroIn K C (.type "object")=some true):TyOf K H (.ref a) (.ref C)
theorem isinst_ok {x:V} {u t:Value} (I:Inv X pins σ H s) (rx:RelV x u) (ty:TyOf X.K H x t) (e:PySem.W.kitOne X.K t c=some b) (h:∀ tk,Q (.bool b) { s with toks:=tk }) :
  wpAny (model X.prog X.w) A (call (.builtin "isinstance") [u,c]) Q E s:=by
 cases ty with
 | non=>cases (show u=Value.none from rx);exact PySem.W.kia_one PySem.W.kitx_none I.kIn True.intro e (fun z=>nomatch z) h
 | bl y=>cases (show u=Value.bool y from rx);exact PySem.W.kia_one PySem.W.kitx_bool I.kIn True.intro e (fun z=>nomatch z) h
 | int i=>obtain ⟨t,q⟩:=(show ∃ t,u=Value.int i t from rx);cases q;exact PySem.W.kia_one PySem.W.kitx_int I.kIn True.intro e (fun z=>nomatch z) h
 | str y=>obtain ⟨t,q⟩:=(show ∃ t,u=Value.str y t from rx);cases q;exact PySem.W.kia_one PySem.W.kitx_str I.kIn True.intro e (fun z=>nomatch z) h
 | flt y=>obtain ⟨t,q⟩:=(show ∃ t,u=Value.float y t from rx);cases q;exact PySem.W.kia_one PySem.W.kitx_float I.kIn True.intro e (fun z=>nomatch z) h
 | @lst a xs ea=>
  cases (show u=Value.ref a from rx)
  obtain ⟨_,_,n,_,h1⟩:=(show ObjOk X.prog X.w H s.heap a (.lst xs) from I.hok a _ ea)
  exact PySem.W.kia_one PySem.W.kitx_list I.kIn ⟨_,h1,rfl⟩ e (fun z=>nomatch z) h
 | @frz a ob xs ea=>
  cases (show u=Value.ref a from rx)
  obtain ⟨_,_,_,n,_,h1⟩:=(show ObjOk X.prog X.w H s.heap a (.frz ob (.lst xs)) from I.hok a _ ea)
  exact PySem.W.kia_one PySem.W.kitx_list I.kIn ⟨_,h1,rfl⟩ e (fun z=>nomatch z) h
 | @tup a xs ea=>
  cases (show u=Value.ref a from rx)
  obtain ⟨_,_,_,p⟩:=(show ObjOk X.prog X.w H s.heap a (.tup xs) from I.hok a _ ea)
  obtain ⟨o,h1,h2,_⟩:=p
  exact PySem.W.kia_one PySem.W.kitx_tuple I.kIn ⟨o,h1,h2⟩ e (fun z=>nomatch z) h
 | @dK a kvs ea=>
  cases (show u=Value.ref a from rx)
  obtain ⟨_,_,vs,_,p⟩:=(show ObjOk X.prog X.w H s.heap a (.dK kvs) from I.hok a _ ea)
  obtain ⟨o,es,ep,h1,h2,_⟩:=p
  exact PySem.W.kia_one PySem.W.kitx_dict I.kIn ⟨o,h1,h2.1⟩ e (fun z=>nomatch z) h
 | @dT a kvs ea=>
  cases (show u=Value.ref a from rx)
  obtain ⟨_,_,xs,_,o,es,ep,h1,h2,_⟩:=(show ObjOk X.prog X.w H s.heap a (.dT kvs) from I.hok a _ ea)
  exact PySem.W.kia_one PySem.W.kitx_dict I.kIn ⟨o,h1,h2.1⟩ e (fun z=>nomatch z) h
 | @ins a C dx fs ea cl ha hn htk hm=>
  cases (show u=Value.ref a from rx)
  obtain ⟨mA,O,_⟩:=ZCm I.hok ea
  obtain ⟨od,J,_⟩:=O.look
  exact PySem.W.kia_one (PySem.W.kitx_own (cl.get _) cl.hd ha hn htk hm) I.kIn J e (fun z=>nomatch z) h
end
structure Room (k:Nat) (A:Around):Prop where
 hd:A.handled=none
 dp:A.depth+3 * k+5 < recursionLimit
 un:A.units+16 * k+200 < cLine
 gd:A.guards=some []
theorem Room.mono {j k:Nat} {A:Around} (r:Room k A) (h:j <= k):Room j A:=⟨r.hd,by have:=r.dp;omega,by have:=r.un;omega,r.gd⟩
theorem Room.deeper {k:Nat} {A:Around} (r:Room (k+1) A) (env:Env):Room k (A.deeper env) :=
 ⟨r.hd,by have:=r.dp;show A.depth+1+3 * k+5 < _;omega,by have:=r.un;show A.units+3+16 * k+200 < _;omega,r.gd⟩
theorem make_depth {A:Around} {C:Addr} {us:List Value} {kw:List (Str×Value)}:(A.under (.builtin "type.__call__" ⟨.ref C::us,kw⟩)).depth=A.depth+1:=by
 first | rfl | simp [Around.under,Code.weight,Code.isCreation,Code.isGuard,Code.isCaller,Code.frames,Code.isFrame,guardIds]
theorem make_units {A:Around} {C:Addr} {us:List Value} {kw:List (Str×Value)}:(A.under (.builtin "type.__call__" ⟨.ref C::us,kw⟩)).units=A.units+1:=by
 first | rfl | simp [Around.under,Code.cUnits,Code.frames,Code.isFrame]
theorem Room.make {k:Nat} {A:Around} (r:Room (k+1) A) (C:Addr) (us:List Value) (kw:List (Str×Value)):Room k (A.under (.builtin "type.__call__" ⟨.ref C::us,kw⟩)) :=
 ⟨r.hd,by have:=r.dp;rw [make_depth];omega,by have:=r.un;rw [make_units];omega,by have:=r.gd;first | exact this | simp [Around.under,Code.guards,Code.isGuard,guardIds,this]⟩
theorem Room.depth {k:Nat} {A:Around} (r:Room k A):A.depth < recursionLimit:=by have:=r.dp;omega
theorem Room.units {k:Nat} {A:Around} (r:Room k A):A.units+64 < cLine:=by have:=r.un;omega
noncomputable def tNil:TA:=fun _ H Q=>Q [] H
noncomputable def ZBY (ta:TE) (tr:TA):TA:=fun σ H Q=>ta σ H fun x H1=>tr σ H1 fun xs H2=>Q (x::xs) H2
section
variable {X:Cx} {e:Expr} {es:List Expr} {te:TE} {t:TA} {pos:Pos}
theorem ZAG:PA X [] tNil:=fun _ _ _ _ H Q I h=>Calls.spliced_nil ⟨[],H,I,.nil,h⟩
theorem ZAA (ha:PE X e te) (hr:PA X es t) (hs:starEach (e::es) X.env=(false,eval e X.env)::starEach es X.env:=by rfl):PA X (e::es) (ZBY te t):=by
 intro pos pins s σ H Q I h
 rw [hs]
 show wpAny _ _ (spliced ((false,eval e X.env)::backTo pos (starEach es X.env))) _ _ s
 refine Calls.spliced_cons (thn (ha pins s σ H _ I h) fun u s1 zz=>?_)
 obtain ⟨x,H1,I1,r1,q1⟩:=zz
 exact thn (hr pos pins s1 σ H1 _ I1 q1) fun us s2 ⟨xs,H2,I2,r2,q2⟩=>⟨x::xs,H2,I2,.cons r1 r2,q2⟩
noncomputable def tTup (t:TA):TE:=fun σ H Q=>t σ H fun xs H1=>xs.length <= sizeLine /\ ∀ p,H1 p=none->Q (.ref p) (upd H1 p (.tup xs))
noncomputable def tLst (t:TA):TE:=fun σ H Q=>t σ H fun xs H1=>xs.length <= sizeLine /\ ∀ p,H1 p=none->Q (.ref p) (upd H1 p (.lst xs))
theorem ZBw {x1} (h:PA X es t):PE X (.Tuple es x1 pos) (tTup t):=by
 intro pins s σ H Q I hq
 refine wpAny_Tuple_spliced (thn (h pos pins s σ H _ I hq) fun us s1 ⟨xs,H1,I1,r,z,q⟩=>⟨by rw [<- r.length];exact z,?_⟩)
 have hf:H1 s1.heap.objs.size=none:=I1.hok.fresh (yAA _)
 refine ⟨.ref s1.heap.objs.size,upd H1 s1.heap.objs.size (.tup xs),I1.laid (t':=s1.toks) (fun b u e=>Heap.get?_push_of_some _ e) (yAA _) ?_,rfl,q _ hf⟩
 exact ⟨z,us,r,⟨_,Heap.get?_push_size _ rfl,rfl,_,rfl⟩⟩
theorem ZCu (h:PA X es t):PE X (.List es pos) (tLst t):=by
 intro pins s σ H Q I hq
 refine wpAny_List_spliced (thn (h pos pins s σ H _ I hq) fun us s1 ⟨xs,H1,I1,r,z,q⟩=>⟨by rw [<- r.length];exact z,?_⟩)
 have hf:H1 s1.heap.objs.size=none:=I1.hok.fresh (yAA _)
 refine ⟨.ref s1.heap.objs.size,upd H1 s1.heap.objs.size (.lst xs),I1.laid (t':=s1.toks) (fun b u e=>Heap.get?_push_of_some _ e) (yAA _) ?_,rfl,q _ hf⟩
 exact ⟨z,us,0,r,Heap.get?_push_size _ rfl⟩
end
noncomputable abbrev Sp:=List V->Hp->VK->XK->Prop
noncomputable abbrev CXT:=List Env->Hp->Shared->XK->Value->Shared->Prop
structure Env0 (P:Program) (w:World) (K:W.Frag) (mg:Str->Option Value) (base:Heap) (A:Around) (outer:List Env) (s:Shared) (H:Hp):Prop where
 frames:A.frames=some outer
 mod:Mod K mg base
 bs:∀ b o,base.get? b=some o->s.heap.get? b=some o /\ H b=none
 bsz:base.objs.size <= s.heap.objs.size
 funs:s.heap.FunFrames base outer
 frf:∀ b∈frs outer,H b=none
 hok:HOk P w H s.heap
 bare:AllBare s.gens
noncomputable def CE (outer:List Env) (P:Program) (w:World) (H:Hp) (s:Shared) (Q:VK) (u:Value) (s':Shared):Prop :=
 ∃ v H',s'.os=s.os /\ AllBare s'.gens /\ Un (frs outer) [] H H' s.heap s'.heap /\ HOk P w H' s'.heap /\ RelV v u /\ Q v H'
noncomputable def CR (CX:CXT) (outer:List Env) (P:Program) (w:World) (H:Hp) (s:Shared) (Q:VK) (E:XK) (r:Result) (s':Shared):Prop :=
 match r with
 | .ok (.ret u)=>CE outer P w H s Q u s'
 | .ok _=>False
 | .error e=>CX outer H s E e s'
structure FnOk (P:Program) (w:World) (K:W.Frag) (mg:Str->Option Value) (base:Heap) (CX:CXT) (k:Nat) (f:Addr) (fd:FuncData) (ps:List Str) (sp:Sp):Prop where
 len:∀ vs H Q E,sp vs H Q E->vs.length=ps.length
 run:∀ (A:Around) (outer:List Env) (s:Shared) (H:Hp) (args:Args) (us:List Value) (vs:List V) (Q:VK) (E:XK),Room k A->Env0 P w K mg base A outer s H->BindsTo s fd args (ps.zip us)->Vals vs us->sp vs H Q E ->
  codeAny (model P w) A (.call (.ref f) args) (CR CX outer P w H s Q E) s
theorem Env0.make {P:Program} {w:World} {K:W.Frag} {mg:Str->Option Value} {base:Heap} {A:Around} {outer:List Env} {s:Shared} {H:Hp} (e:Env0 P w K mg base A outer s H) (C:Addr) (us:List Value) (kw:List (Str×Value)) :
  Env0 P w K mg base (A.under (.builtin "type.__call__" ⟨.ref C::us,kw⟩)) outer s H:=⟨by first | exact e.frames | (simpa [Around.under,Code.envs,Code.isFrame,pushEnvs] using e.frames),e.mod,e.bs,e.bsz,e.funs,e.frf,e.hok,e.bare⟩
section
variable {X:Cx} {pins:List (Addr×Obj)} {σ:St} {H:Hp} {s s':Shared}
theorem Inv.env0 (I:Inv X pins σ H s):Env0 X.prog X.w X.K X.mg X.base X.A X.stack s H :=
 ⟨I.ok.frames,I.ok.mod,I.bs,yAD I.ok.bsz I.sz,I.stack,I.stkFree,I.hok,I.bare⟩
theorem Inv.after {Q:VK} {u:Value} (I:Inv X pins σ H s) (h:CE X.stack X.prog X.w H s Q u s'):EP X pins σ Q u s':=by
 obtain ⟨v,H',os,bare,un,hok,r,q⟩:=h
 obtain ⟨hh,g,d,t,os'⟩:=s'
 obtain rfl:os'=s.os:=os
 exact ⟨v,H',I.call (h':=hh) (g':=g) (d':=d) (t':=t) (ch:=[]) un hok bare (fun b z=>absurd z (by simp)),r,q⟩
end
noncomputable def ZDj (sp:Sp) (dvs:List V) (E:XK) (t:TA):TE:=fun σ H Q=>t σ H fun vs H1=>sp (vs++dvs) H1 Q E
noncomputable def ZDY (C:Addr) (m:Str) (sp:Sp) (dvs:List V) (E:XK) (ta:TE) (t:TA):TE:=fun σ H Q=>ta σ H fun x H1=>∃ a dx fs,x=.ref a /\ H1 a=some (.ins C dx fs) /\ fs.lookup m=none /\
 t σ H1 fun vs H2=>sp (x::(vs++dvs)) H2 Q E
noncomputable def ZDw (C:Addr) (sp:Sp) (dvs:List V) (E:XK) (t:TA):TE:=fun σ H Q=>t σ H fun vs H1=>∀ x dx,H1 x=none->H1 dx=none->dx≠x ->
 sp (.ref x::(vs++dvs)) (upd (upd H1 dx (.own x)) x (.ins C dx [])) (fun v H2=>v=.non /\ Q (.ref x) H2) E
noncomputable def Binds (K:W.Frag) (fd:FuncData) (ps:List Str) (ds:List Value):Prop :=
 ∀ (s:Shared) (us:List Value),K.In s.heap->(us++ds).length=ps.length->BindsTo s fd ⟨us,[]⟩ (ps.zip (us++ds))
theorem Binds.all {K:W.Frag} {fd:FuncData} {ps:List Str} (h:∀ us:List Value,us.length=ps.length->bindArgs fd ⟨us,[]⟩=pure (ps.zip us)):Binds K fd ps []:=fun s us _ hl=>by
 rw [List.append_nil] at hl ⊢
 exact .of_eq (h us hl)
noncomputable def ZBy (CX:CXT) (X:Cx) (E:XK):Prop:=∀ (pins:List (Addr×Obj)) (σ:St) (H:Hp) (s:Shared) (e:Value) (s':Shared),Inv X pins σ H s->CX X.stack H s E e s'->X.xe e s'
section
variable {X:Cx} {CX:CXT} {k:Nat} {f C:Addr} {fd:FuncData} {ps:List Str} {sp:Sp} {dvs:List V} {ds:List Value} {E:XK} {x m:Str} {p pos apos:Pos} {e o:Expr} {es:List Expr} {ta:TE} {t:TA}
theorem ZDp {pins:List (Addr×Obj)} {σ:St} {H:Hp} {s:Shared} {Q:VK} {us:List Value} {vs:List V} (F:FnOk X.prog X.w X.K X.mg X.base CX k f fd ps sp) (hr:Room k X.A) (hb:Binds X.K fd ps ds) (hd:Vals dvs ds) (hx:ZBy CX X E)
  (I:Inv X pins σ H s) (r:Vals vs us) (h:sp (vs++dvs) H Q E):wpAny (model X.prog X.w) X.A (call (.ref f) us) (EP X pins σ Q) X.xe s:=by
 have r2:Vals (vs++dvs) (us++ds):=r.append hd
 have hl:(us++ds).length=ps.length:=by rw [<- r2.length];exact F.len _ _ _ _ h
 refine wpAny_call (codeAny_mono (F.run X.A X.stack s H ⟨us,[]⟩ (us++ds) (vs++dvs) Q E hr I.env0 (hb s us I.kIn hl) r2 h) fun r s' hq=>?_)
 cases r with
 | error e=>exact hx pins σ H s e s' I hq
 | ok fl=>
  cases fl with
  | ret u=>exact I.after hq
  | next=>exact False.elim hq
  | brk=>exact False.elim hq
  | cont=>exact False.elim hq
theorem pe_call (F:FnOk X.prog X.w X.K X.mg X.base CX k f fd ps sp) (hr:Room k X.A) (hg:Gl X x) (hm:X.mg x=some (.ref f)) (hk:W.keepIn X.K (.ref f)=true) (hb:Binds X.K fd ps ds) (hd:Vals dvs ds) (hx:ZBy CX X E)
  (ha:PA X (e::es) t) (hdb:(x == ("__debug__":Str))=false:=by decide) (he:starEach (e::es) X.env=(false,eval e X.env)::starEach es X.env:=by rfl) (hpl:(backTo pos (starEach es X.env)).any (·.1)=false:=by rfl) :
  PE X (.Call (.Name x p) (e::es) [] pos) (ZDj sp dvs E t):=by
 intro pins s σ H Q I h
 refine wpAny_Call_Name_kw (ZDO I hg hm ?_ hdb)
 refine PySem.W.callWith_K (h₀:=X.base) I.ok.mod.kin hk (thn (ha pos pins s σ H _ I h) fun us s1 ⟨vs,H1,I1,r,q⟩=>⟨I1.kIn,?_⟩) he hpl
 exact ZDp F hr hb hd hx I1 r q
theorem pe_meth {pl:Sem Bool} (he:PE X o ta) (c:Cls X.K C) (hm:Meth X.K C m f) (F:FnOk X.prog X.w X.K X.mg X.base CX k f fd ps sp) (hr:Room k X.A) (hb:Binds X.K fd ps ds) (hd:Vals dvs ds) (hx:ZBy CX X E) (ha:PA X (e::es) t)
  (hst:starEach (e::es) X.env=(false,eval e X.env)::starEach es X.env:=by rfl) (hpl:(backTo pos (starEach es X.env)).any (·.1)=false:=by rfl)
  (ht:eval (.Call (.Attribute o m apos) (e::es) [] pos) X.env=(do
   let ov <- eval o X.env
   standAt apos.atName
   let (f,first) <- holding [ov] (getMethod ov m pl)
   callWith pos f first (backTo pos (starEach (e::es) X.env)) (backToKw pos (keywordEach [] X.env))):=by rfl) :
  PE X (.Call (.Attribute o m apos) (e::es) [] pos) (ZDY C m sp dvs E ta t):=by
 intro pins s σ H Q I h
 refine PySem.W.methodCall_KW (pl:=pl) (thn (he pins s σ H _ I h) fun u s1 zz=>?_) ht
 obtain ⟨x,H1,I1,rx,a,dx,fs,ex,ea,l,q⟩:=zz
 subst ex
 obtain rfl:u=Value.ref a:=rx
 refine getmeth_ok I1 ea c hm l ?_
 refine PySem.W.callWith_K (first:=[.ref a]) (h₀:=X.base) I.ok.mod.kin hm.kp (thn (ha pos pins s1 σ H1 _ I1 q) fun us s2 ⟨vs,H2,I2,r,q2⟩=>⟨I2.kIn,?_⟩) hst hpl
 exact ZDp (us:=.ref a::us) (vs:=.ref a::vs) F hr hb hd hx I2 (.cons rfl r) q2
theorem pe_meth0 {pl:Sem Bool} (he:PE X o ta) (c:Cls X.K C) (hm:Meth X.K C m f) (F:FnOk X.prog X.w X.K X.mg X.base CX k f fd ps sp) (hr:Room k X.A) (hb:Binds X.K fd ps ds) (hd:Vals dvs ds) (hx:ZBy CX X E)
  (ht:eval (.Call (.Attribute o m apos) [] [] pos) X.env=(do
   let ov <- eval o X.env
   standAt apos.atName
   let (f,first) <- holding [ov] (getMethod ov m pl)
   callWith pos f first (backTo pos (starEach [] X.env)) (backToKw pos (keywordEach [] X.env))):=by rfl) :
  PE X (.Call (.Attribute o m apos) [] [] pos) (ZDY C m sp dvs E ta tNil):=by
 intro pins s σ H Q I h
 refine PySem.W.methodCall_KW (pl:=pl) (thn (he pins s σ H _ I h) fun u s1 zz=>?_) ht
 obtain ⟨x,H1,I1,rx,a,dx,fs,ex,ea,l,q⟩:=zz
 subst ex
 obtain rfl:u=Value.ref a:=rx
 refine getmeth_ok I1 ea c hm l ?_
 exact PySem.W.callWith_K0 (first:=[.ref a]) I1.kIn hm.kp (ZDp (us:=[.ref a]) (vs:=[.ref a]) F hr hb hd hx I1 (.cons rfl .nil) q)
structure Mk (K:W.Frag) (C f:Addr):Prop where
 makes:PySem.W.makesIn K C=true
 init:W.findIn K (.ref C) "__init__"=some (some (.ref f))
 fn:PySem.W.isFn K (.ref f)=true
 kp:W.keepIn K (.ref C)=true
theorem run_make {pins:List (Addr×Obj)} {σ:St} {H:Hp} {s:Shared} {Q:VK} {us:List Value} {vs:List V} (M:Mk X.K C f) (F:FnOk X.prog X.w X.K X.mg X.base CX k f fd ps sp) (hr:Room (k+1) X.A) (hb:Binds X.K fd ps ds) (hd:Vals dvs ds)
  (hx:ZBy CX X E) (I:Inv X pins σ H s) (r:Vals vs us)
  (h:∀ x dx,H x=none->H dx=none->dx≠x->sp (.ref x::(vs++dvs)) (upd (upd H dx (.own x)) x (.ins C dx [])) (fun v H2=>v=.non /\ Q (.ref x) H2) E) :
  wpAny (model X.prog X.w) X.A (call (.ref C) us) (EP X pins σ Q) X.xe s:=by
 have hq:=h (s.heap.objs.size+1) s.heap.objs.size (I.hok.fresh (yAX _)) (I.hok.fresh (yAA _)) (yAE (yBG _))
 have I2:=Inv.made (C:=C) I
 have r2:Vals (V.ref (s.heap.objs.size+1)::(vs++dvs)) (Value.ref (s.heap.objs.size+1)::(us++ds)):=.cons rfl (r.append hd)
 have hl:(Value.ref (s.heap.objs.size+1)::us++ds).length=ps.length:=by
  have e:=r2.length
  rw [F.len _ _ _ _ hq] at e
  exact e.symm
 refine wpAny_call (make_map (f:=f) I.kIn M.makes M.init (beq_iff_eq.mp M.fn) (codeAny_mono (F.run _ X.stack _ _ ⟨Value.ref (s.heap.objs.size+1)::us,[]⟩ (Value.ref (s.heap.objs.size+1)::(us++ds)) _ _ E (hr.make C us [])
  (I2.env0.make C us []) (hb _ (Value.ref (s.heap.objs.size+1)::us) I2.kIn hl) r2 hq) fun r s' hq'=>?_))
 cases r with
 | error e=>exact hx pins σ _ _ e s' I2 hq'
 | ok fl=>
  cases fl with
  | ret u=>
   obtain ⟨v,H',I3,rv,ev,q3⟩:=I2.after hq'
   subst ev
   exact ⟨rv,⟨V.ref (s.heap.objs.size+1),H',I3,rfl,q3⟩⟩
  | next=>exact False.elim hq'
  | brk=>exact False.elim hq'
  | cont=>exact False.elim hq'
theorem pe_make (M:Mk X.K C f) (F:FnOk X.prog X.w X.K X.mg X.base CX k f fd ps sp) (hr:Room (k+1) X.A) (hg:Gl X x) (hm:X.mg x=some (.ref C)) (hb:Binds X.K fd ps ds) (hd:Vals dvs ds) (hx:ZBy CX X E)
  (ha:PA X (e::es) t) (hdb:(x == ("__debug__":Str))=false:=by decide) (he:starEach (e::es) X.env=(false,eval e X.env)::starEach es X.env:=by rfl) (hpl:(backTo pos (starEach es X.env)).any (·.1)=false:=by rfl) :
  PE X (.Call (.Name x p) (e::es) [] pos) (ZDw C sp dvs E t):=by
 intro pins s σ H Q I h
 refine wpAny_Call_Name_kw (ZDO I hg hm ?_ hdb)
 refine PySem.W.callWith_K (h₀:=X.base) I.ok.mod.kin M.kp (thn (ha pos pins s σ H _ I h) fun us s1 ⟨vs,H1,I1,r,q⟩=>⟨I1.kIn,?_⟩) he hpl
 exact run_make M F hr hb hd hx I1 r q
end
noncomputable def PK (X:Cx) (kws:List Keyword) (t:TA):Prop :=
 ∀ (pos:Pos) (pins:List (Addr×Obj)) (s:Shared) (σ:St) (H:Hp) (Q:List V->Hp->Prop),Inv X pins σ H s->t σ H Q->wpAny (model X.prog X.w) X.A (evalAll ((backToKw pos (keywordEach kws X.env)).map (·.2))) (AP X pins σ Q) X.xe s
section
variable {X:Cx} {CX:CXT} {k:Nat} {f C:Addr} {fd:FuncData} {ps ks:List Str} {sp:Sp} {E:XK} {x m:Str} {p pos apos kpos:Pos} {e o:Expr} {es:List Expr} {kws:List Keyword} {te ta:TE} {t tk:TA} {nm:Option Str}
theorem pk_nil:PK X [] tNil:=fun _ _ _ _ H Q I h=>wpAny_evalAll_nil ⟨[],H,I,.nil,h⟩
theorem pk_cons (ha:PE X e te) (hr:PK X kws t):PK X (⟨nm,e,kpos⟩::kws) (ZBY te t):=by
 intro pos pins s σ H Q I h
 show wpAny _ _ (evalAll ((do let v <- eval e X.env;standAt pos;pure v)::(backToKw pos (keywordEach kws X.env)).map (·.2))) _ _ s
 refine wpAny_evalAll_cons (wpAny_bind (thn (ha pins s σ H _ I h) fun u s1 ⟨x,H1,I1,r1,q1⟩=>wpAny_bind (wpAny_standAt (wpAny_pure ?_))))
 exact thn (hr pos pins s1 σ H1 _ I1 q1) fun us s2 ⟨xs,H2,I2,r2,q2⟩=>⟨x::xs,H2,I2,.cons r1 r2,q2⟩
variable {g:List Value->List Value->List Value} {gV:List V->List V->List V}
end
structure FnScope (N P:List Str) (sc:Scope):Prop where
 kind:sc.kind=.function
 co:sc.isCoroutine=false
 gen:sc.isGenerator=false
 nd:N.Nodup
 pre:N.take P.length=P
 par:∀ x∈P,sc.names.lookup x=some .local∨sc.names.lookup x=some .cell
 nofree:∀ y∈sc.names,y.2≠.free
theorem bindL_out {kindOf:Str->Option NameKind} {x:Str}:∀ {binds:List (Str×Value)} {m:Str->Option Value},(∀ v,(x,v)∉binds)->bindL kindOf binds m x=m x
 | [],_,_=>rfl
 | (n,v)::r,m,h=>by
  unfold bindL
  rw [bindL_out fun w hw=>h w (yAP _ hw)]
  split
  .have:x≠n:=by rintro rfl;exact h v yAK
   simp [this]
  .rfl
theorem bindC_out {kindOf:Str->Option NameKind} {x:Str}:∀ {binds:List (Str×Value)} {m:Str->Option Value},(∀ v,(x,v)∉binds)->bindC kindOf binds m x=m x
 | [],_,_=>rfl
 | (n,v)::r,m,h=>by
  unfold bindC
  rw [bindC_out fun w hw=>h w (yAP _ hw)]
  split
  .rfl
  .have:x≠n:=by rintro rfl;exact h v yAK
   simp [this]
theorem bindL_get {kindOf:Str->Option NameKind} {x:Str} {v:Value}:∀ {P:List Str} {vs:List Value} {i:Nat} {m:Str->Option Value},P.Nodup->P[i]?=some x->vs[i]?=some v->kindOf x=some .local ->
  bindL kindOf (P.zip vs) m x=some v
 | [],_,_,_,_,h,_,_=>by simp at h
 | _::_,[],_,_,_,_,h,_=>by simp at h
 | p::P,w::vs,0,m,nd,h1,h2,hk=>by
  simp at h1 h2;subst h1;subst h2
  show bindL kindOf ((p,w)::P.zip vs) m p=_
  unfold bindL
  rw [bindL_out fun v hv=>(List.nodup_cons.mp nd).1 (List.of_mem_zip hv).1,if_pos hk]
  simp
 | p::P,w::vs,i+1,m,nd,h1,h2,hk=>by
  show bindL kindOf ((p,w)::P.zip vs) m x=_
  unfold bindL
  exact bindL_get (i:=i) (List.nodup_cons.mp nd).2 (by simpa using h1) (by simpa using h2) hk
theorem bindC_get {kindOf:Str->Option NameKind} {x:Str} {v:Value}:∀ {P:List Str} {vs:List Value} {i:Nat} {m:Str->Option Value},P.Nodup->P[i]?=some x->vs[i]?=some v->kindOf x≠some .local ->
  bindC kindOf (P.zip vs) m x=some v
 | [],_,_,_,_,h,_,_=>by simp at h
 | _::_,[],_,_,_,_,h,_=>by simp at h
 | p::P,w::vs,0,m,nd,h1,h2,hk=>by
  simp at h1 h2;subst h1;subst h2
  show bindC kindOf ((p,w)::P.zip vs) m p=_
  unfold bindC
  rw [bindC_out fun v hv=>(List.nodup_cons.mp nd).1 (List.of_mem_zip hv).1,if_neg hk]
  simp
 | p::P,w::vs,i+1,m,nd,h1,h2,hk=>by
  show bindC kindOf ((p,w)::P.zip vs) m x=_
  unfold bindC
  exact bindC_get (i:=i) (List.nodup_cons.mp nd).2 (by simpa using h1) (by simpa using h2) hk
noncomputable def start (N:List Str) (vs:List V):St:=vs.map some++List.replicate (N.length-vs.length) none
noncomputable def cxOf (CX:CXT) (P:Program) (w:World) (K:W.Frag) (mg:Str->Option Value) (base:Heap) (N:List Str) (qual:Str) (scope:Scope) (f:Addr) (cd:Value) (A:Around) (outer:List Env) (s:Shared) (H:Hp) (E:XK):Cx where
 prog:=P
 w:=w
 K:=K
 mg:=mg
 base:=base
 A:=A.deeper (envOfC qual scope s.heap.objs.size f cd)
 N:=N
 s₀:=s
 H₀:=H
 env:=envOfC qual scope s.heap.objs.size f cd
 outer:=outer
 stack:=envOfC qual scope s.heap.objs.size f cd::outer
 ex:=[]
 calm:=true
 fn:=fun _=>true
 pn:=[]
 xe:=fun e s'=>wpAny (model P w) (A.deeper (envOfC qual scope s.heap.objs.size f cd)) (leaving (envOfC qual scope s.heap.objs.size f cd) e) (fun _ s''=>CX outer H s E e s'') (fun e' s''=>CX outer H s E e' s'') s'
theorem ZCY {sc:Scope} {n:Nat} {x:Str} (h:sc.names.lookup x=some .cell):∃ c,(cellsFrom n sc.names []).lookup x=some c:=by
 have q:=PySem.W.cellsFrom_some sc.names n [] (.inl h)
 exact Option.isSome_iff_exists.mp q
theorem inv_start {CX:CXT} {P:Program} {w:World} {K:W.Frag} {mg:Str->Option Value} {base:Heap} {N ps:List Str} {qual:Str} {scope:Scope} {f:Addr} {cd:Value} {A:Around} {outer:List Env} {s s1:Shared} {H:Hp} {E:XK} {us:List Value} {vs:List V}
  (S:FnScope N ps scope) (hd:A.handled=none) (e0:Env0 P w K mg base A outer s H) (hl:vs.length=ps.length) (r:Vals vs us)
  (x:InCallC s s.heap.objs.size (bindL (envOfC qual scope s.heap.objs.size f cd).kindOf (ps.zip us) fun _=>none) (cellsFrom (s.heap.objs.size+1) scope.names []) (bindC (envOfC qual scope s.heap.objs.size f cd).kindOf (ps.zip us) fun _=>none) s1) :
  Inv (cxOf CX P w K mg base N qual scope f cd A outer s H E) [] (start N vs) H s1:=by
 have hpl:ps.length <= N.length:=by have:=congrArg List.length S.pre;rw [yAS] at this;omega
 obtain ⟨h1,tk,rfl,hk⟩:=x.done
 have noA:∀ b:Addr,b∉(cxOf CX P w K mg base N qual scope f cd A outer s H E).ex:=fun b z=>absurd (show b∈([]:List Addr) from z) (by simp)
 refine ⟨⟨e0.mod,S.kind,rfl,rfl,yAA _,fun y z c h1 h2=>?_,fun y hy=>?_,fun y c _ h=>?_,fun _=>hd,Around.frames_deeper e0.frames,.inr ⟨rfl,rfl⟩,fun b z=>absurd z (noA b),e0.bs,e0.bsz,fun b _ _=>noA b,fun b z=>absurd z (noA b),e0.funs,e0.frf⟩,
  rfl,e0.bare,Un.kept hk,⟨_,x.toInCall.ns,fun i y v h1 h2 h3=>?_⟩,fun y c h=>⟨_,x.cell y c h⟩,e0.hok.fresh (yAA _),fun y c h=>?_,fun p hp=>absurd (show p∈([]:List (Addr×Obj)) from hp) (by simp),e0.hok.kept hk,?_⟩
 .exact name_of_addr x.apart (PySem.mem_of_lookup h1) (PySem.mem_of_lookup h2)
 .have hy:scope.names.lookup y=some .cell∨scope.names.lookup y=some .free:=hy
  rcases hy with hy | hy
  .exact ZCY hy
  .exact absurd rfl (S.nofree _ (PySem.mem_of_lookup hy))
 .exact Nat.le_of_lt (x.above y c (PySem.mem_of_lookup h))
 .have hi:i < vs.length:=by
   unfold start at h2
   by_cases hi:i < vs.length
   .exact hi
   .rw [yAT (by simpa using hi)] at h2
    rw [List.getElem?_replicate] at h2
    split at h2 <;> cases h2
  have ha:vs[i]?=some v:=by
   unfold start at h2
   rw [yAO (by simpa using hi),yAU] at h2
   cases e:vs[i]? with
   | none=>rw [e] at h2;cases h2
   | some a=>rw [e] at h2;cases h2;rfl
  obtain ⟨u,hu,rv⟩:=r.get ha
  have hp:ps[i]?=some y:=by
   rw [<- S.pre,List.getElem?_take_of_lt (by omega)];exact h1
  have ndP:ps.Nodup:=by rw [<- S.pre];exact S.nd.sublist (List.take_sublist _ _)
  refine ⟨u,rv,?_⟩
  rcases S.par y (yAH hp) with k | k
  .exact .inl ⟨k,bindL_get ndP hp hu k⟩
  .obtain ⟨c,e⟩:=ZCY (n:=s.heap.objs.size+1) k
   refine .inr ⟨.inl k,c,e,?_⟩
   have q:=x.cell y c e
   rw [bindC_get ndP hp hu (by show scope.names.lookup y≠_;rw [k];decide)] at q
   exact q
 .exact e0.hok.fresh (Nat.le_of_lt (x.above y c (PySem.mem_of_lookup h)))
 .unfold start
  show _=N.length
  rw [yAF,yAB,yBK]
  omega
theorem fn_of {CX:CXT} {P:Program} {w:World} {K:W.Frag} {mg:Str->Option Value} {base:Heap} {k:Nat} {f:Addr} {name qual:Str} {params:Arguments} {body:List Stmt} {scope:Scope} {dV kV doc pm cdv ct oc:Value} {an od:Option Addr}
  {osl:Array (Option Value)} {N ps:List Str} {sp:Sp} (lk:K.lookup f=some ⟨oc,od,.func (W.fnOf name qual params body scope dV kV doc pm an cdv ct),osl⟩) (hcd:W.codeIn K cdv qual=true) (S:FnScope N ps scope)
  (len:∀ vs H Q E,sp vs H Q E->vs.length=ps.length)
  (hbody:∀ (A:Around) (outer:List Env) (s:Shared) (H:Hp) (vs:List V) (Q:VK) (E:XK),Room k (A.deeper (envOfC qual scope s.heap.objs.size f cdv))->sp vs H Q E ->
   ∃ t,PSs (cxOf CX P w K mg base N qual scope f cdv A outer s H E) body t /\ t { nx:=fun _ H'=>Q .non H',rt:=Q } (start N vs) H) :
  FnOk P w K mg base CX (k+1) f (W.fnOf name qual params body scope dV kV doc pm an cdv ct) ps sp:=by
 refine ⟨len,fun A outer s H args us vs Q E hr e0 hb r hsp=>?_⟩
 have hl:=len _ _ _ _ hsp
 have KX:K.In s.heap:=e0.mod.kin.keeps fun b o e=>(e0.bs b o e).1
 have lim:s.heap.NoLimit:=e0.mod.nolimit.keeps fun b o e=>(e0.bs b o e).1
 have hkind:∀ y∈ps.zip us,scope.names.lookup y.1=some .local∨(scope.names.lookup y.1=some .cell /\ ((cellsFrom (s.heap.objs.size+1) scope.names []).lookup y.1).isSome=true):=fun ⟨n,v⟩ hy=>by
  rcases S.par n (List.of_mem_zip hy).1 with q | q
  .exact .inl q
  .exact .inr ⟨q,PySem.W.cellsFrom_some _ _ _ (.inl q)⟩
 refine codeAny_call_function hr.depth (KX _ _ lk) rfl S.co S.gen rfl (PySem.W.codeRec_of KX hcd) (hb _ _ _ _ ?_)
 refine wpAny_newFunctionEnv_cells S.kind hkind fun env he s1 x=>?_
 subst he
 refine ⟨lim.keeps x.toInCall.keep,codeAny_func ?_⟩
 obtain ⟨t,ht,hq⟩:=hbody A outer s H vs Q E (hr.deeper _) hsp
 have I:Inv (cxOf CX P w K mg base N qual scope f cdv A outer s H E) [] (start N vs) H s1:=inv_start S hr.hd e0 hl r x
 refine wpAny_mono (ht [] s1 (start N vs) H _ I hq) (fun fl s' hs=>?_) fun e s' hs=>hs
 have fin:∀ {σ':St} {H':Hp} {v:V} {u:Value},Inv (cxOf CX P w K mg base N qual scope f cdv A outer s H E) [] σ' H' s'->RelV v u->Q v H'->CE outer P w H s Q u s' :=
  fun {σ' H' v u} J rv q=>⟨v,H',J.os,J.bare,J.base,J.hok,rv,q⟩
 cases fl with
 | ret u=>
  obtain ⟨v,σ',H',J,rv,q⟩:=hs
  exact fin J rv q
 | next=>
  obtain ⟨σ',H',J,q⟩:=hs
  exact fin (v:=V.non) (u:=Value.none) J rfl q
 | brk=>
  obtain ⟨_,_,_,q⟩:=hs
  exact False.elim q
 | cont=>
  obtain ⟨_,_,_,q⟩:=hs
  exact False.elim q
section
variable {X:Cx} {x:Str} {p pos:Pos} {e:Expr} {es:List Expr} {t:TA} {id T:String} {r:List V->Hp->VK->Prop}
noncomputable def tCB (r:List V->Hp->VK->Prop) (t:TA):TE:=fun σ H Q=>t σ H fun vs H1=>r vs H1 Q
theorem ZBT (hc:ZDA X (.builtin id) r) (hg:Gl X x) (hm:X.mg x=none) (hv:bootBuiltins x=some (.builtin id)) (ha:PA X (e::es) t) (hn:x≠"__name__":=by decide) (hdb:(x == ("__debug__":Str))=false:=by decide)
  (he:starEach (e::es) X.env=(false,eval e X.env)::starEach es X.env:=by rfl) (hpl:(backTo pos (starEach es X.env)).any (·.1)=false:=by rfl):PE X (.Call (.Name x p) (e::es) [] pos) (tCB r t):=by
 intro pins s σ H Q I h
 refine wpAny_Call_Name_kw (ZDG I hg hm hv ?_ hn hdb)
 exact PyProof.Rows.callWith_builtin1 (thn (ha pos pins s σ H _ I h) fun us s1 ⟨vs,H1,I1,r1,q1⟩=>hc pins s1 σ H1 vs us Q I1 r1 q1) he hpl
theorem ZBV (hc:ZDA X (.type T) r) (hg:Gl X x) (hm:X.mg x=none) (hv:bootBuiltins x=some (.type T)) (ha:PA X (e::es) t) (hn:x≠"__name__":=by decide) (hdb:(x == ("__debug__":Str))=false:=by decide)
  (he:starEach (e::es) X.env=(false,eval e X.env)::starEach es X.env:=by rfl) (hpl:(backTo pos (starEach es X.env)).any (·.1)=false:=by rfl):PE X (.Call (.Name x p) (e::es) [] pos) (tCB r t):=by
 intro pins s σ H Q I h
 refine wpAny_Call_Name_kw (ZDG I hg hm hv ?_ hn hdb)
 exact PyProof.Rows.callWith_type1 (thn (ha pos pins s σ H _ I h) fun us s1 ⟨vs,H1,I1,r1,q1⟩=>hc pins s1 σ H1 vs us Q I1 r1 q1) he hpl
end
end L2
namespace HT
open PySem PyProof.Rows
section
open PySem.SeqAt
open PySem.AutoSeq1 (wpAny_loadPart')
open PySem.MeetsSeq PySem.MeetsSeq2 PySem.MeetsSeq3
end
section
variable {prog:Program} {w:World} {A:Around} {E:Value->Shared->Prop} {s:Shared}
noncomputable def sIx (n d:Nat):Option Int->Nat
 | none=>d
 | some v=>if v < 0 then (v+(n:Int)).toNat else min v.toNat n
end
end HT
namespace L2
open PySem PySem.Spec PyProof.Rows
noncomputable abbrev TO:=St->Hp->(Option Int->Hp->Prop)->Prop
noncomputable def PO (X:Cx) (e:Option Expr) (t:TO):Prop :=
 ∀ (pins:List (Addr×Obj)) (s:Shared) (σ:St) (H:Hp) (Q:Option Int->Hp->Prop),Inv X pins σ H s->t σ H Q ->
  wpAny (model X.prog X.w) X.A (evalPart e X.env) (fun u s'=>∃ o H',Inv X pins σ H' s' /\ IsPart u o /\ Q o H') X.xe s
noncomputable def ZDJ:TO:=fun _ H Q=>Q none H
noncomputable def ZD4 (t:TE):TO:=fun σ H Q=>t σ H fun x H1=>∃ i,x=.int i /\ Q (some i) H1
theorem intsAre_of {ns:List Int}:∀ {us:List Value},Vals (ns.map V.int) us->IntsAre us ns:=by
 induction ns with
 | nil=>intro us r;rw [List.map_nil] at r;cases r;exact .nil
 | cons n ns ih=>
  intro us r
  rw [yAR] at r
  cases r with
  | cons r1 r2=>
   obtain ⟨t,e⟩:=r1
   subst e
   exact .cons n t (ih r2)
section
variable {X:Cx} {e:Expr} {te:TE} {lo hi:Option Expr} {tl th:TO} {pos p2:Pos}
theorem ZDM:PO X none ZDJ:=by
 intro pins s σ H Q I h
 rw [evalPart_none]
 exact wpAny_pure ⟨none,H,I,.none,h⟩
theorem ZCA (h:PE X e te):PO X (some e) (ZD4 te):=by
 intro pins s σ H Q I hw
 rw [evalPart_some]
 refine thn (h pins s σ H _ I hw) fun u s1 zz=>?_
 obtain ⟨x,H1,I1,r1,q1⟩:=zz
 obtain ⟨i,rfl,q⟩:=q1
 obtain ⟨t,rfl⟩:=r1
 exact ⟨some i,H1,I1,.int i t,q⟩
noncomputable def SlR (X:Cx) (r:V->Option Int->Option Int->Hp->VK->Prop):Prop :=
 ∀ (pins:List (Addr×Obj)) (s:Shared) (σ:St) (H:Hp) (x:V) (v vl vu:Value) (lo hi:Option Int) (sl:Addr) (Q:VK),Inv X pins σ H s->RelV x v->s.heap.IsSliceOf sl vl vu .none->IsPart vl lo->IsPart vu hi->r x lo hi H Q ->
  ∃ T id,typeLookup (.type T) "__getitem__"=pure (some (.builtin id)) /\ s.TypeIs v T /\ wpAny (model X.prog X.w) X.A (getItem v (.ref sl)) (EP X pins σ Q) X.xe s
noncomputable def tSl (r:V->Option Int->Option Int->Hp->VK->Prop) (te:TE) (tl th:TO):TE:=fun σ H Q=>te σ H fun x H1=>tl σ H1 fun l H2=>th σ H2 fun u H3=>r x l u H3 Q
theorem ZCK {r:V->Option Int->Option Int->Hp->VK->Prop} (hr:SlR X r) (he:PE X e te) (hl:PO X lo tl) (hu:PO X hi th):PE X (.Subscript e (.Slice lo hi none p2) pos) (tSl r te tl th):=by
 intro pins s σ H Q I h
 refine Subscript_ (thn (he pins s σ H _ I h) fun v s1 zz=>?_)
 obtain ⟨x,H1,I1,r1,q1⟩:=zz
 refine wpAny_Slice (thn (hl pins s1 σ H1 _ I1 q1) fun vl s2 ⟨l,H2,I2,pl,q2⟩=>thn (hu pins s2 σ H2 _ I2 q2) fun vu s3 zz=>?_)
 obtain ⟨u,H3,I3,pu,q3⟩:=zz
 rw [evalPart_none]
 refine wpAny_pure ?_
 have I4:Inv X pins σ H3 { s3 with heap:=s3.heap.push { cls:=.type "slice",data:=.fields #[vl,vu,.none] } }:=I3.kept (t':=s3.toks) fun b ob q=>Heap.get?_push_of_some _ q
 obtain ⟨T,id,hT,ht,hg⟩:=hr pins { s3 with heap:=s3.heap.push { cls:=.type "slice",data:=.fields #[vl,vu,.none] } } σ H3 x v vl vu l u s3.heap.objs.size Q I4 r1 (Heap.IsSliceOf.new ..) pl pu q3
 show wpAny (model X.prog X.w) X.A (subscriptTail e (.Slice lo hi none p2) v (.ref s3.heap.objs.size)) (EP X pins σ Q) X.xe { s3 with heap:=s3.heap.push { cls:=.type "slice",data:=.fields #[vl,vu,.none] } }
 exact tail_any (ops:=[.ref s3.heap.objs.size,v]) ht hT hg (by with_unfolding_all rfl)
noncomputable def cutV (xs:List V) (lo hi:Option Int):List V:=(xs.drop (HT.sIx xs.length 0 lo)).take (HT.sIx xs.length xs.length hi-HT.sIx xs.length 0 lo)
theorem cutV_length (xs:List V) (lo hi:Option Int):(cutV xs lo hi).length <= xs.length:=by
 unfold cutV
 rw [yAS,yBB]
 omega
end
noncomputable def ixN (n:Nat) (i:Int):Option Nat:=if 0 <= i then (if i < n then some i.toNat else none) else if -(n:Int) <= i then some (i+n).toNat else none
noncomputable def atI {α:Type} (xs:List α) (i:Int):Option α:=(ixN xs.length i).bind fun j=>xs[j]?
theorem ixN_seq {n:Nat} {i:Int} {j:Nat} (h:ixN n i=some j):seqIndex? i n=some j /\ j < n /\ -(n:Int) <= i /\ i < n:=by
 unfold ixN at h
 by_cases h0:0 <= i
 .rw [if_pos h0] at h
  by_cases h1:i < n
  .rw [if_pos h1] at h
   have e:i.toNat=j:=Option.some.inj h
   exact ⟨by rw [seqIndex_of h0 h1,e],by omega,by omega,h1⟩
  .rw [if_neg h1] at h;cases h
 .rw [if_neg h0] at h
  by_cases h1:-(n:Int) <= i
  .rw [if_pos h1] at h
   have e:(i+n).toNat=j:=Option.some.inj h
   exact ⟨by rw [seqIndex_neg (by omega) h1,e],by omega,h1,by omega⟩
  .rw [if_neg h1] at h;cases h
theorem atI_get {α:Type} {xs:List α} {i:Int} {v:α} (h:atI xs i=some v):∃ j,seqIndex? i xs.length=some j /\ xs[j]?=some v /\ j < xs.length /\ -(xs.length:Int) <= i /\ i < xs.length:=by
 unfold atI at h
 cases e:ixN xs.length i with
 | none=>rw [e] at h;cases h
 | some j=>
  rw [e] at h
  obtain ⟨h1,h2,h3,h4⟩:=ixN_seq e
  exact ⟨j,h1,h,h2,h3,h4⟩
theorem atI_nat {α:Type} {xs:List α} {j:Nat} {v:α} (h:xs[j]?=some v):atI xs (j:Int)=some v:=by
 have hj:j < xs.length:=(yAI.mp h).1
 have e:ixN xs.length (j:Int)=some j:=by
  unfold ixN
  rw [if_pos (by omega),if_pos (by omega)];simp
 unfold atI;rw [e];exact h
noncomputable def PlainIx (b:Expr):Prop:=∀ o i,subscripted b false o i=operate [o,i] (getItem o i)
noncomputable def IxR (X:Cx) (r:R2):Prop :=
 ∀ (value slice:Expr) (pins:List (Addr×Obj)) (s:Shared) (σ:St) (H:Hp) (x y:V) (v u:Value) (Q:VK),Inv X pins σ H s->RelV x v->RelV y u->r x y H Q ->
  subscripted slice false v u=operate [v,u] (getItem v u)->wpAny (model X.prog X.w) X.A (subscriptTail value slice v u) (EP X pins σ Q) X.xe s
noncomputable def MtR (X:Cx) (id:String) (r:V->List V->Hp->VK->Prop):Prop :=
 ∀ (pins:List (Addr×Obj)) (s:Shared) (σ:St) (H:Hp) (x:V) (xs:List V) (v:Value) (us:List Value) (Q:VK),Inv X pins σ H s->RelV x v->Vals xs us->r x xs H Q ->
  wpAny (model X.prog X.w) X.A (call (.builtin id) (v::us)) (EP X pins σ Q) X.xe s
section
variable {X:Cx} {a b:Expr} {ta tb:TE} {pos:Pos}
theorem ZAT {r:R2} (hr:IxR X r) (ha:PE X a ta) (hb:PE X b tb) (hs:PlainIx b):PE X (.Subscript a b pos) (tOp r ta tb):=by
 intro pins s σ H Q I h
 exact Subscript_ (binT ha hb I h fun v u s2 x y H2 I2 rx ry q=>hr a b pins s2 σ H2 x y v u Q I2 rx ry q (hs _ _))
noncomputable def rIxL (K:W.Frag):R2:=fun x y H Q=>∃ p xs i v,x=.ref p /\ y=.int i /\ SqL K H p xs /\ atI xs i=some v /\ Q v H
noncomputable def rIxT (K:W.Frag):R2:=fun x y H Q=>∃ p xs i v,x=.ref p /\ y=.int i /\ SqT K H p xs /\ atI xs i=some v /\ Q v H
theorem ZBE:IxR X (rIxL X.K):=by
 intro value slice pins s σ H x y v u Q I rx ry h hs
 obtain ⟨p,xs,i,z,rfl,rfl,hq,he,q⟩:=h
 cases rx
 obtain ⟨t,rfl⟩:=ry
 obtain ⟨its,r,pl,hz⟩:=I.list hq
 obtain ⟨j,h1,h2,h3,h4,h5⟩:=atI_get he
 obtain ⟨w,ew,rw'⟩:=r.get h2
 have hl:=r.length
 have hn:=ZDt
 have fin:EP X pins σ Q w s:=⟨z,H,I,rw',q⟩
 by_cases h0:0 <= i
 .have hj:i.toNat=j:=by
   rw [seqIndex_of h0 h5] at h1
   exact Option.some.inj h1
  exact item_listR pl.isList h0 (by omega) (by rw [hj];simpa using ew) fin hs
 .have hj:(i+(its.toArray.size:Int)).toNat=j:=by
   rw [seqIndex_neg (by omega) h4] at h1
   rw [yAN,<- hl]
   exact Option.some.inj h1
  exact subscriptTail_builtinR (x:=w) pl.isList.typeIs slot_list_getitem.lookup
   (wpAny_getItem_list_neg (Q:=fun r s'=>r=w /\ EP X pins σ Q r s') pl.isList (by omega) (by rw [yAN] <;> omega) (by omega) (by rw [hj];simpa using ew) ⟨rfl,fin⟩) hs
theorem ZAO:IxR X (rIxT X.K):=by
 intro value slice pins s σ H x y v u Q I rx ry h hs
 obtain ⟨p,xs,i,z,rfl,rfl,hq,he,q⟩:=h
 cases rx
 obtain ⟨t,rfl⟩:=ry
 obtain ⟨its,r,pl,hz⟩:=I.tuple hq
 obtain ⟨j,h1,h2,h3,h4,h5⟩:=atI_get he
 obtain ⟨w,ew,rw'⟩:=r.get h2
 have hl:=r.length
 have hn:=ZDt
 have fin:EP X pins σ Q w s:=⟨z,H,I,rw',q⟩
 exact subscriptTail_builtinR (x:=w) pl.typeIs slot_tuple_getitem.lookup
  (getItem_tuple (j:=j) (Q:=fun r s'=>r=w /\ EP X pins σ Q r s') pl (by omega) (by omega) (by rw [yAN,<- hl];exact h1) (by simpa using ew) ⟨rfl,fin⟩) hs
theorem slice_bounds (lo hi:Option Int) (n:Nat):(sliceBounds lo hi none n).1=((HT.sIx n 0 lo:Nat):Int) /\ (sliceBounds lo hi none n).2.1=((HT.sIx n n hi:Nat):Int) /\ (sliceBounds lo hi none n).2.2=1:=by
 refine ⟨?_,?_,rfl⟩
 .cases lo with
  | none=>simp [sliceBounds,HT.sIx]
  | some i=>
   simp only [sliceBounds,HT.sIx,Option.getD_none,show (1:Int) > 0 by decide,if_true]
   by_cases h:i < 0
   .simp only [h,if_true] <;> omega
   .simp only [h,if_false] <;> omega
 .cases hi with
  | none=>simp [sliceBounds,HT.sIx]
  | some i=>
   simp only [sliceBounds,HT.sIx,Option.getD_none,show (1:Int) > 0 by decide,if_true]
   by_cases h:i < 0
   .simp only [h,if_true] <;> omega
   .simp only [h,if_false] <;> omega
theorem slicePick_cut (its:List Value) (lo hi:Option Int):slicePick its.toArray lo hi none=((its.drop (HT.sIx its.length 0 lo)).take (HT.sIx its.length its.length hi-HT.sIx its.length 0 lo)).toArray:=by
 obtain ⟨h1,h2,h3⟩:=slice_bounds lo hi its.toArray.size
 unfold slicePick
 rw [h1,h2,h3]
 simp only [sliceRange_one,pick_run,yAN] <;> rfl
noncomputable def rSlL (K:W.Frag):V->Option Int->Option Int->Hp->VK->Prop:=fun x lo hi H Q=>∃ a xs,x=.ref a /\ SqL K H a xs /\ ∀ p,H p=none->Q (.ref p) (upd H p (.lst (cutV xs lo hi)))
theorem ZCi:SlR X (rSlL X.K):=by
 intro pins s σ H x v vl vu lo hi sl Q I rx hs pl pu h
 obtain ⟨a,xs,rfl,hx,q⟩:=h
 cases rx
 obtain ⟨its,r,ht,hz⟩:=I.list hx
 have hlen:=r.length
 refine ⟨"list",_,slot_list_getitem.lookup,ht.isList.typeIs,?_⟩
 refine wpAny_getItem_list_slice ht.isList hs pl pu .none (by simp) ?_ (by rw [yAN] <;> omega)
 rw [slicePick_cut,<- hlen]
 refine ⟨.ref s.heap.objs.size,_,I.laid (t':=s.toks) (o:=.lst (cutV xs lo hi)) (fun b ob q=>Heap.get?_push_of_some _ q) (yAA _) ?_,rfl,q _ (I.hok.fresh (yAA _))⟩
 exact ⟨yAD (cutV_length xs lo hi) hz,_,0,(r.drop (HT.sIx xs.length 0 lo)).take (HT.sIx xs.length xs.length hi-HT.sIx xs.length 0 lo),Heap.get?_push_size _ rfl⟩
theorem ZBK:ZDA X (.builtin "len") (fun xs H Q=>∃ p ys,xs=[.ref p] /\ (SqL X.K H p ys∨SqT X.K H p ys) /\ Q (.int ys.length) H):=by
 intro pins s σ H xs us Q I r h
 obtain ⟨p,ys,rfl,hq,q⟩:=h
 obtain ⟨u,rfl,rx⟩:=ZDf r
 cases rx
 have hn:=ZDt
 rcases hq with hq | hq
 .obtain ⟨its,r',pl,hz⟩:=I.list hq
  have hlen:=r'.length
  exact Calls.call_len_list pl.isList (by simp only [yAN] <;> omega) ⟨.int ys.length,H,I.tok _,⟨s.toks+1,by rw [yAN,hlen]⟩,q⟩
 .obtain ⟨its,r',pl,hz⟩:=I.tuple hq
  have hlen:=r'.length
  exact len_tuple pl (by simp only [yAN] <;> omega) ⟨.int ys.length,H,I.tok _,⟨s.toks+1,by rw [yAN,hlen]⟩,q⟩
theorem ZBJ:ZDA X (.type "list") (fun xs H Q=>∃ p ys,xs=[.ref p] /\ (SqL X.K H p ys∨SqT X.K H p ys) /\ ∀ l,H l=none->Q (.ref l) (upd H l (.lst ys))):=by
 intro pins s σ H xs us Q I r h
 obtain ⟨p,ys,rfl,hq,q⟩:=h
 obtain ⟨u,rfl,rx⟩:=ZDf r
 cases rx
 have fin:∀ (its:List Value),Vals ys its->ys.length <= sizeLine->∀ (h':Heap) (c':Nat),(∀ b o',s.heap.get? b=some o'->h'.get? b=some o') ->
   h'.get? s.heap.objs.size=some { cls:=.type "list",dict:=none,data:=.seq its.toArray c',slots:=#[] }->EP X pins σ Q (.ref s.heap.objs.size) { s with heap:=h' }:=fun its r' hz h' c' kp e=>
  ⟨.ref s.heap.objs.size,_,I.laid (t':=s.toks) kp (yAA _) (show ObjOk X.prog X.w _ h' _ (.lst ys) from ⟨hz,its,c',r',e⟩),rfl,q _ (I.hok.fresh (yAA _))⟩
 rcases hq with hq | hq
 .obtain ⟨its,r',pl,hz⟩:=I.list hq
  have hlen:=r'.length
  obtain ⟨o,ho,hc,n,hd⟩:=pl.isList
  exact call_list_seq p (.inl rfl) ho hc hd (fun h' c' kp e=>fin its r' hz h' c' kp e) (by simp only [yAN] <;> omega)
 .obtain ⟨its,r',pl,hz⟩:=I.tuple hq
  have hlen:=r'.length
  obtain ⟨o,ho,hc,n,hd⟩:=pl
  exact call_list_seq p (.inr rfl) ho hc hd (fun h' c' kp e=>fin its r' hz h' c' kp e) (by simp only [yAN] <;> omega)
theorem call_tuple_of:ZDA X (.type "tuple") (fun xs H Q=>∃ p ys,xs=[.ref p] /\ ((SqL X.K H p ys /\ ∀ l,H l=none->Q (.ref l) (upd H l (.tup ys)))∨(SqT X.K H p ys /\ Q (.ref p) H))):=by
 intro pins s σ H xs us Q I r h
 obtain ⟨p,ys,rfl,h⟩:=h
 obtain ⟨u,rfl,rx⟩:=ZDf r
 cases rx
 rcases h with ⟨hq,q⟩ | ⟨hq,q⟩
 .obtain ⟨its,r',pl,hz⟩:=I.list hq
  have hlen:=r'.length
  refine call_tuple_list pl.isList (fun h' kp=>?_) (by simp only [yAN] <;> omega)
  have I1:Inv X pins σ H { s with heap:=h' }:=I.kept (t':=s.toks) kp
  have I2:Inv X pins σ (upd H h'.objs.size (.tup ys)) { s with heap:=h'.push { cls:=.type "tuple",data:=.seq its.toArray } } :=
   I1.laid (t':=s.toks) (fun b o e=>Heap.get?_push_of_some _ e) (yAA _) (show ObjOk X.prog X.w _ _ _ (.tup ys) from ⟨hz,its,r',IsTup.new _ _⟩)
  exact ⟨.ref h'.objs.size,_,I2,rfl,q _ (I1.hok.fresh (yAA _))⟩
 .obtain ⟨its,r',pl,hz⟩:=I.tuple hq
  exact call_tuple_same pl ⟨.ref p,H,I,rfl,q⟩
noncomputable def tyV (K:W.Frag) (T:String) (x:V) (H:Hp):Prop:=match x with
 | .str _=>T="str"
 | .int _=>T="int"
 | .ref p=>(T="list" /\ ∃ xs,SqL K H p xs)∨(T="tuple" /\ ∃ o,K.lookup p=some o /\ o.cls=.type "tuple" /\ o.dict=none) ∨
   (T="dict" /\ ((∃ kvs,H p=some (.dK kvs))∨∃ kvs,H p=some (.dT kvs)))∨(T="set" /\ ∃ S n,H p=some (.set S n))
 | _=>False
theorem tyV_is {pins:List (Addr×Obj)} {σ:St} {H:Hp} {s:Shared} {T:String} {x:V} {v:Value} (I:Inv X pins σ H s) (r:RelV x v) (ty:tyV X.K T x H) :
  s.TypeIs v T /\ ∀ a,v=.ref a->∃ ob,s.heap.get? a=some ob /\ ob.dict=none:=by
 cases x with
 | str z=>
  obtain ⟨t,rfl⟩:=r
  cases (show T="str" from ty)
  exact ⟨typeIs_str s z t,fun _ e=>nomatch e⟩
 | int i=>
  obtain ⟨t,rfl⟩:=r
  cases (show T="int" from ty)
  exact ⟨typeIs_int s i t,fun _ e=>nomatch e⟩
 | ref p=>
  cases r
  rcases ty with ⟨rfl,xs,hq⟩ | ⟨rfl,o,hk,hc,hd⟩ | ⟨rfl,hk⟩ | ⟨rfl,S,n,hk⟩
  .obtain ⟨its,_,pl,_⟩:=I.list hq
   refine ⟨pl.isList.typeIs,fun a e=>?_⟩
   cases e
   obtain ⟨o,n,e,c,hd,_⟩:=pl
   exact ⟨o,e,hd⟩
  .refine ⟨⟨o,I.kIn p o hk,hc⟩,fun a e=>?_⟩
   cases e
   exact ⟨o,I.kIn _ o hk,hd⟩
  .have z:∃ o,s.heap.get? p=some o /\ o.ExactDict:=by
    rcases hk with ⟨kvs,hk⟩ | ⟨kvs,hk⟩
    .obtain ⟨_,_,_,_,o,_,_,e,ex,_⟩:=I.hok p _ hk
     exact ⟨o,e,ex⟩
    .obtain ⟨_,_,_,_,o,_,_,e,ex,_⟩:=I.hok p _ hk
     exact ⟨o,e,ex⟩
   obtain ⟨o,e,ex⟩:=z
   refine ⟨⟨o,e,ex.1⟩,fun a e2=>?_⟩
   cases e2
   exact ⟨o,e,ex.2.1⟩
  .obtain ⟨o,_,_,_,e,ex,_⟩:=I.hok p _ hk
   refine ⟨⟨o,e,ex.1⟩,fun a e2=>?_⟩
   cases e2
   exact ⟨o,e,ex.2.1⟩
 | _=>exact False.elim ty
noncomputable def tBM0 (K:W.Frag) (T:String) (r:V->List V->Hp->VK->Prop) (to:TE):TE:=fun σ H Q=>to σ H fun x H1=>tyV K T x H1 /\ r x [] H1 Q
noncomputable def tBM (K:W.Frag) (T:String) (r:V->List V->Hp->VK->Prop) (to:TE) (t:TA):TE:=fun σ H Q=>to σ H fun x H1=>tyV K T x H1 /\ t σ H1 fun xs H2=>r x xs H2 Q
variable {o e:Expr} {es:List Expr} {to:TE} {t:TA} {name:Str} {apos cpos:Pos} {T id:String} {r:V->List V->Hp->VK->Prop}
theorem ZDF (pa:PlainAttrs T) (slot:Slot T name id) (hty:typeOf (.builtin id)=pure (.type "method_descriptor")) (hm:MtR X id r) (ho:PE X o to)
  (hbase:attributeBase o name X.env (eval o X.env)=eval o X.env:=by rfl) (hline:(apos.endLine == cpos.line)=true:=by rfl):PE X (.Call (.Attribute o name apos) [] [] cpos) (tBM0 X.K T r to):=by
 intro pins s σ H Q I h
 refine wpAny_Call_method0_late hbase hline (thn (ho pins s σ H _ I h) fun v s1 zz=>?_)
 obtain ⟨x,H1,I1,r1,ty,q1⟩:=zz
 obtain ⟨h1,h2⟩:=tyV_is I1 r1 ty
 exact ⟨T,id,pa,slot,hty,h1,h2,Calls.callWith_builtin rfl (PySem.evalArgs_none (hm pins s1 σ H1 x [] v [] Q I1 r1 .nil q1))⟩
theorem ZD0 (pa:PlainAttrs T) (slot:Slot T name id) (hty:typeOf (.builtin id)=pure (.type "method_descriptor")) (hm:MtR X id r) (ho:PE X o to) (ha:PA X (e::es) t)
  (hbase:attributeBase o name X.env (eval o X.env)=eval o X.env:=by rfl)
  (hfew:((backTo cpos (starEach (e::es) X.env)).all (fun x=>!x.1) && (backToKw cpos (keywordEach [] X.env)).all (fun x=>x.1.isSome)
   && decide ((e::es).length+([]:List Keyword).length+(if ([]:List Keyword).isEmpty then 0 else 1) < 30))=true:=by rfl)
  (hline:(apos.endLine == cpos.line)=true:=by rfl) (hs:starEach (e::es) X.env=(false,eval e X.env)::starEach es X.env:=by rfl) (hplain:(backTo cpos (starEach es X.env)).any (·.1)=false:=by rfl) :
  PE X (.Call (.Attribute o name apos) (e::es) [] cpos) (tBM X.K T r to t):=by
 intro pins s σ H Q I h
 refine wpAny_Call_method_late hbase hfew hline rfl (thn (ho pins s σ H _ I h) fun v s1 zz=>?_)
 obtain ⟨x,H1,I1,r1,ty,q1⟩:=zz
 obtain ⟨h1,h2⟩:=tyV_is I1 r1 ty
 refine ⟨T,id,pa,slot,hty,h1,h2,?_⟩
 have hA:=ha cpos pins s1 σ H1 _ I1 q1
 rw [hs] at hA ⊢
 refine Calls.callWith_builtin (by show (false || (backTo cpos (starEach es X.env)).any (·.1))=false;rw [hplain] <;> rfl) (Calls.evalArgs_plain ?_)
 exact thn hA fun us s2 ⟨vs,H2,I2,r2,q2⟩=>hm pins s2 σ H2 x vs v us Q I2 r1 r2 q2
end
noncomputable def MtM (X:Cx) (id:String) (r:V->List V->Hp->VK->Prop):Prop :=
 ∀ (pins:List (Addr×Obj)) (s:Shared) (σ:St) (H:Hp) (x:V) (xs:List V) (v:Value) (us:List Value) (Q:VK),Inv X pins σ H s->RelV x v->Vals xs us->r x xs H Q ->
  wpAny (model X.prog X.w) X.A (call (.builtin id) (v::us)) (EP X pins σ Q) X.xe s
theorem Vals.one {x:V} {us:List Value} (r:Vals [x] us):∃ u,us=[u] /\ RelV x u:=ZDf r
theorem Vals.zero:∀ {us:List Value},Vals [] us->us=[]
 | _,.nil=>rfl
theorem Vals.reverse {xs:List V} {us:List Value} (h:Vals xs us):Vals xs.reverse us.reverse:=by
 induction h with
 | nil=>exact .nil
 | cons r t ih=>rw [List.reverse_cons,List.reverse_cons];exact Vals.append ih (.cons r .nil)
section
variable {X:Cx} {pins:List (Addr×Obj)} {σ:St} {H:Hp} {s:Shared} {l b:Addr} {xs ys zs:List V}
theorem Inv.lset {its its':List Value} {n:Nat} {f:Array Value->Array Value} {t':Nat} (I:Inv X pins σ H s) (hH:H l=some (.lst xs))
  (e:s.heap.get? l=some { cls:=.type "list",data:=.seq its.toArray n }) (hf:f its.toArray=its'.toArray) (hv:Vals ys its') (hz:ys.length <= sizeLine) :
  Inv X pins σ (upd H l (.lst ys)) { s with heap:=s.heap.update l (Obj.mapSeq f),toks:=t' }:=by
 have q:=PySem.IsL.update e f
 rw [hf] at q
 refine I.write (x:=l) (e:=l) (by rw [hH];exact trivial) (.inl rfl) (fun b' u hb hu=>(Heap.get?_update_other s.heap (Obj.mapSeq f) (Ne.symm hb)).trans hu) ⟨_,q⟩ ?_
 exact ⟨hz,its',_,hv,q⟩
theorem Inv.lstM (I:Inv X pins σ H s) (hH:H l=some (.lst xs)):xs.length <= sizeLine /\ ∃ (its:List Value) (n:Nat),Vals xs its /\ xs.length=its.length /\ s.heap.get? l=some { cls:=.type "list",data:=.seq its.toArray n }:=by
 obtain ⟨z,its,n,r,e⟩:=I.hok l _ hH
 exact ⟨z,its,n,r,r.length,e⟩
end
section
variable {X:Cx}
noncomputable def rAppend:V->List V->Hp->VK->Prop:=fun x vs H Q=>∃ l xs y,x=.ref l /\ vs=[y] /\ H l=some (.lst xs) /\ xs.length < sizeLine /\ Q .non (upd H l (.lst (xs++[y])))
theorem mt_append:MtM X "list.append" rAppend:=by
 intro pins s σ H x vs v us Q I rx rv h
 obtain ⟨l,xs,y,rfl,rfl,hH,hz,q⟩:=h
 cases rx
 obtain ⟨u,rfl,ru⟩:=rv.one
 obtain ⟨z,its,n,r,hl,e⟩:=I.lstM hH
 refine call_meets F.slot_list_append ⟨_,e,rfl⟩ F.entry_list_append (F.args_list_append_2 _ _) (PySem.list_append l its.toArray n u (by rw [yAN];omega)) ⟨e,?_⟩
 refine ⟨.non,_,I.lset (its':=its++[u]) hH e (by simp) (r.append (.cons ru .nil)) ?_,rfl,q⟩
 rw [yAF,List.length_singleton]
 omega
noncomputable def rReverse:V->List V->Hp->VK->Prop:=fun x vs H Q=>∃ l xs,x=.ref l /\ vs=[] /\ H l=some (.lst xs) /\ Q .non (upd H l (.lst xs.reverse))
theorem mt_reverse:MtM X "list.reverse" rReverse:=by
 intro pins s σ H x vs v us Q I rx rv h
 obtain ⟨l,xs,rfl,rfl,hH,q⟩:=h
 cases rx
 have hus:=rv.zero
 subst hus
 obtain ⟨z,its,n,r,hl,e⟩:=I.lstM hH
 refine call_meets F.slot_list_reverse ⟨_,e,rfl⟩ F.entry_list_reverse (F.args_list_reverse_1 _) (AutoSeq1.list_reverse_list_0 l its.toArray n (by rw [yAN];omega)) ⟨e,?_⟩
 refine ⟨.non,_,I.lset (its':=its.reverse) hH e (by simp) r.reverse ?_,rfl,q⟩
 rw [List.length_reverse]
 omega
noncomputable def rClear:V->List V->Hp->VK->Prop:=fun x vs H Q=>∃ l xs,x=.ref l /\ vs=[] /\ H l=some (.lst xs) /\ Q .non (upd H l (.lst []))
theorem ZC7:MtM X "list.clear" rClear:=by
 intro pins s σ H x vs v us Q I rx rv h
 obtain ⟨l,xs,rfl,rfl,hH,q⟩:=h
 cases rx
 have hus:=rv.zero
 subst hus
 obtain ⟨z,its,n,r,hl,e⟩:=I.lstM hH
 refine call_meets F.slot_list_clear ⟨_,e,rfl⟩ F.entry_list_clear (F.args_list_clear_1 _) (AutoSeq1.list_clear_list_0 l its.toArray n (by rw [yAN];omega)) ⟨e,?_⟩
 exact ⟨.non,_,I.lset (its':=[]) (ys:=[]) hH e rfl .nil (yAY _),rfl,q⟩
end
section
variable {prog:Program} {w:World} {A:Around} {E:Value->Shared->Prop} {s:Shared}
set_option maxRecDepth 100000 in
end
section
variable {X:Cx}
end
end L2
namespace Att
open PySem PySem.W PySem.Calls PyProof.Rows
theorem ints_of_wellAll {P:Params} {h:Heap}:∀ (ns:List Int) (vs:List Value),WellAll P h vs (ns.map WData.int)->IntsAre vs ns:=by
 intro ns
 induction ns with
 | nil=>
  intro vs w
  rw [List.map_nil] at w
  cases w
  exact .nil
 | cons n ns ih=>
  intro vs w
  rw [yAR] at w
  cases w with
  | cons a b=>
   cases a
   exact .cons _ _ (ih _ b)
theorem script_of {l:OpenLaw} {n:Nat} (hn:l.most=some n) {P:Params} {h:Heap} {args:List WData} {vals:List Value}
  (hpre:l.row.toRowW.claim.pre args=true) (hwl:WellAll P h vals args) :
  ∃ a vs ns,vals=[Value.ref a] /\ args=[WData.list (ns.map WData.int)] /\ h.get? a=some { cls:=.type "list",data:=.seq vs.toArray } /\ IntsAre vs ns /\ ns.length <= n:=by
 have hsh:WShape.hasAll [] args [.list .int]=true:=(pre_splitW hpre).1
 have hc:l.pre.holds [] { args:=args }=true:=(pre_splitW hpre).2
 obtain ⟨d,r,rfl,h1,h2⟩:=hasAllW_cons hsh
 obtain rfl:=hasAllW_nil h2
 obtain ⟨xs,rfl,h3⟩:=hasW_list h1
 obtain ⟨ns,rfl⟩:=items_int h3
 have hlen:ns.length <= n:=by
  unfold OpenLaw.pre at hc
  have h4:(WTm.not (.lt (.lit (.int (n:Int))) (.len (.arg 0)))).holds [] { args:=[.list (ns.map .int)] }=true:=by
   have h4:=(holds_andW hc).1
   rw [hn] at h4
   exact h4
  have h5:=condW_of h4 (w_not (w_lt w_lit (w_len_list (w_arg rfl))))
  rw [yAB] at h5
  refine Nat.le_of_not_lt fun q=>?_
  have q':(n:Int) < ((ns.length:Nat):Int):=by omega
  first
   | (rw [decide_eq_true q'] at h5;exact absurd h5 (by decide))
   | (simp at h5;omega)
 cases hwl with
 | cons w1 w2=>
  cases w2
  cases w1 with
  | list ho hall=>exact ⟨_,_,ns,rfl,rfl,ho,ints_of_wellAll ns _ hall,hlen⟩
theorem post_true (l:OpenLaw) (args:List WData):l.row.toRowW.claim.post args (.bool true) args=true :=
 postW_of (r:=l.row.toRowW) (X:=(true == true))
  (show WShape.has [] (.bool true) .bool=true by first | rfl | decide | simp [WShape.has,WShape.arms,WShape.armsAll])
  (show (WTm.eq .res (.lit (.bool true))).value [] { args:=args,res:=some (.bool true),after:=args }=some (.bool (true == true)) from w_eq_bool (w_res rfl) w_lit) rfl
theorem attach_call {l:OpenLaw} {n:Nat} {q:Program} {loose:List Str} {XP:(Str->Option Value)->Heap->Prop} {YP:World->Heap->Prop} {d:DefRec}
  (hn:l.most=some n) (hdf:d.params.defaults=[])
  (call:∀ (w:World) (s₀ s₁:Shared) (mg mb:Str->Option Value) (fa:Addr) (o:Obj) (pm cd doc:Value) (a:Addr) (vs:List Value) (ns:List Int),
   Ground q loose [] XP w s₀ mg mb s₁.heap->YP w s₁.heap ->
   s₁.heap.get? fa=some o->o.data=.func (docDef d.name d.params d.body d.scope pm cd doc)->s₁.heap.CodeRec cd d.name->mg d.name=some (.ref fa) ->
   s₁.heap.get? a=some { cls:=.type "list",data:=.seq vs.toArray }->IntsAre vs ns->ns.length <= n->s₁.gens=#[] ->
   codeAny (model l.prog w) callerA (.call (.ref fa) ⟨[.ref a],[]⟩) (fun r s'=>r=.ok (.ret (.bool true)) /\ OldK s₁.heap s'.heap /\ s'.os=s₁.os /\ AllBare s'.gens) s₁) :
  WalkO q loose XP YP l.row.toRowW d [] (fun f vs=>PySem.call f vs):=by
 intro w s₀ s₁ mg mb G Y fa o pm cd doc dV kV ho hd hcd hD hmg hg args vals as hpre hlay hrd hwl hlo
 obtain rfl:dV=.none:=Dflts.none hD hdf
 obtain rfl:kV=.none:=Dflts.noKw hD
 obtain ⟨a,vs,ns,rfl,rfl,hobj,hints,hlen⟩:=script_of hn hpre hwl
 refine enter_call (codeAny_mono (call w s₀ s₁ mg mb fa o pm cd doc a vs ns G Y ho (fd_plain hd) hcd hmg hobj hints hlen hg) fun r s' hq=>?_)
 obtain ⟨rfl,h2,h3,h4⟩:=hq
 exact ⟨.inl ⟨.bool true,.bool true,[],rfl,fun _=>rfl,.bool true,post_true l _,fun _=>⟨List.Pairwise.nil,fun _ hm=>(nomatch hm)⟩⟩,h2,h3,h4⟩
section
variable {prog:Program} {w:World} {A:Around} {E:Value->Shared->Prop} {s:Shared} {K:Frag}
end
end Att
namespace L2
open PySem PySem.Spec PyProof.Rows
theorem vals_ints:∀ {vs:List Value} {ns:List Int},IntsAre vs ns->Vals (ns.map V.int) vs
 | _,_,.nil=>.nil
 | _,_,.cons n t h=>.cons ⟨t,rfl⟩ (vals_ints h)
end L2
namespace L2
open PySem PySem.Spec PyProof.Rows
noncomputable def ZAv (s:Stmt) (j:Nat):Stmt:=match s with
 | .ClassDef _ _ _ body _ _ _ _ _ _ _=>body.getD j (.Pass ⟨0,0,0,0⟩)
 | _=>.Pass ⟨0,0,0,0⟩
noncomputable def ZAM (s:Stmt):Arguments:=match s with
 | .FunctionDef _ a _ _ _ _ _ _ _ _=>a
 | _=>{ posonlyargs:=[],args:=[],vararg:=none,kwonlyargs:=[],kw_defaults:=[],kwarg:=none,defaults:=[] }
noncomputable def ZAL (s:Stmt):List Stmt:=match s with
 | .FunctionDef _ _ b _ _ _ _ _ _ _=>b
 | _=>[]
noncomputable def ZAB (s:Stmt):Scope:=match s with
 | .FunctionDef _ _ _ _ _ _ sc _ _ _=>sc
 | _=>{ kind:=.function,names:=[],isGenerator:=false,isCoroutine:=false }
noncomputable abbrev CX0:CXT:=fun _ _ _ _ _ _=>False
noncomputable abbrev E0:XK:=fun _ _ _=>False
theorem ZAR {X:Cx}:ZBy CX0 X E0:=fun _ _ _ _ _ _ _ h=>h.elim
structure Fun (K:W.Frag) (x qual:Str) (st:Stmt) (f:Addr) (fd:FuncData):Prop where
 ex:∃ (oc:Value) (od:Option Addr) (kV doc pm:Value) (an:Option Addr) (cdv ct:Value) (osl:Array (Option Value)),
  fd=W.fnOf x qual (ZAM st) (ZAL st) (ZAB st) .none kV doc pm an cdv ct /\ K.lookup f=some ⟨oc,od,.func fd,osl⟩ /\ W.codeIn K cdv qual=true
 kp:W.keepIn K (.ref f)=true
section
variable {P:Program} {w:World} {K:W.Frag} {mg:Str->Option Value} {base:Heap}
theorem Fun.ok {x qual:Str} {st:Stmt} {f:Addr} {fd:FuncData} {N ps:List Str} {k:Nat} {sp:Sp} (F:Fun K x qual st f fd) (S:FnScope N ps (ZAB st)) (len:∀ vs H Q E,sp vs H Q E->vs.length=ps.length)
  (hbody:∀ (cdv:Value) (A:Around) (outer:List Env) (s:Shared) (H:Hp) (vs:List V) (Q:VK) (E:XK),Room k (A.deeper (envOfC qual (ZAB st) s.heap.objs.size f cdv))->sp vs H Q E ->
   ∃ t,PSs (cxOf CX0 P w K mg base N qual (ZAB st) f cdv A outer s H E).nox (ZAL st) t /\ t { nx:=fun _ H'=>Q .non H',rt:=Q } (start N vs) H):FnOk P w K mg base CX0 (k+1) f fd ps sp:=by
 obtain ⟨oc,od,kV,doc,pm,an,cdv,ct,osl,rfl,lk,hcd⟩:=F.ex
 refine fn_of lk hcd S len fun A outer s H vs Q E hr hsp=>?_
 obtain ⟨t,h,q⟩:=hbody cdv A outer s H vs Q E hr hsp
 exact ⟨t,h.nox,q⟩
theorem Fun.binds {x qual:Str} {st:Stmt} {f:Addr} {fd:FuncData} {ps:List Str} (F:Fun K x qual st f fd)
  (h:∀ (kV doc pm:Value) (an:Option Addr) (cdv ct:Value) (us:List Value),us.length=ps.length->bindArgs (W.fnOf x qual (ZAM st) (ZAL st) (ZAB st) .none kV doc pm an cdv ct) ⟨us,[]⟩=pure (ps.zip us)):Binds K fd ps []:=by
 obtain ⟨oc,od,kV,doc,pm,an,cdv,ct,osl,rfl,lk,hcd⟩:=F.ex
 exact .all (h kV doc pm an cdv ct)
theorem ZAY {x qual:Str} {st:Stmt} {f:Addr} {oc:Value} {od an:Option Addr} {osl:Array (Option Value)} {kV doc pm cdv ct:Value} (l:K.lookup f=some ⟨oc,od,.func (W.fnOf x qual (ZAM st) (ZAL st) (ZAB st) .none kV doc pm an cdv ct),osl⟩)
  (c:W.codeIn K cdv qual=true) (k:W.keepIn K (.ref f)=true):Fun K x qual st f (W.fnOf x qual (ZAM st) (ZAL st) (ZAB st) .none kV doc pm an cdv ct):=⟨⟨oc,od,kV,doc,pm,an,cdv,ct,osl,rfl,l,c⟩,k⟩
end
theorem ZCh {n:Nat} (h:n <= 1000):n < sizeLine:=Nat.lt_of_le_of_lt h (by decide)
section
variable {X:Cx}
theorem pv (i:Nat) {x:Str} {pos:Pos} (hN:X.N[i]?=some x:=by rfl) (hv:Vis X.env.scope x:=by first | exact Or.inl rfl | exact Or.inr (Or.inl rfl) | exact Or.inr (Or.inr rfl)) (hd:(x == ("__debug__":Str))=false:=by decide)
  (hcd:(x == ("__classdict__":Str))=false:=by decide):PE X (.Name x pos) (tVar i):=pe_var hN hv hd hcd
end
noncomputable def Same (H H':Hp):Prop:=∀ b o,H b=some o->H' b=some o
theorem Same.refl (H:Hp):Same H H:=fun _ _ h=>h
theorem Same.trans {H H1 H2:Hp} (a:Same H H1) (b:Same H1 H2):Same H H2:=fun c o h=>b c o (a c o h)
theorem Same.free {H H':Hp} (e:Same H H') {l:Addr} (h:H' l=Option.none):H l=Option.none:=by
 cases q:H l with
 | none=>rfl
 | some o=>
  rw [e l o q] at h
  cases h
theorem Same.seq {K:W.Frag} {H H':Hp} {a:Addr} {xs:List V} (e:Same H H') (h:SqL K H a xs):SqL K H' a xs:=by
 rcases h with (h | ⟨o,h⟩) | h
 .exact .inl (.inl (e _ _ h))
 .exact .inl (.inr ⟨o,e _ _ h⟩)
 .exact .inr h
end L2
set_option maxHeartbeats 4000000
namespace L2
open PySem PySem.Spec PyProof.Rows
theorem natlt {a b:Addr} (h:a < b):@LT.lt Nat _ a b:=h
theorem ZCo {a b:Addr} {n:Nat} (h:a < n) (k:n <= b):a≠b:=yAE (yAG h k)
theorem ZBA:∀ (names:List (Str×NameKind)) (n:Nat) (acc:List (Str×Addr)),cellsFrom n names acc=cellsFrom n names []++acc
 | [],_,_=>rfl
 | (x,k)::r,n,acc=>by
  unfold cellsFrom
  split
  .rw [ZBA r (n+1) ((x,n)::acc),ZBA r (n+1) [(x,n)],List.append_assoc];rfl
  .exact ZBA r n acc
theorem ZBt:∀ (names:List (Str×NameKind)) (n:Nat) (acc:List (Str×Addr)) (y:Str) (c:Addr),(y,c)∈cellsFrom n names acc->(y,c)∈acc∨((y,NameKind.cell)∈names /\ n <= c)
 | [],_,_,_,_,h=>.inl h
 | (x,k)::r,n,acc,y,c,h=>by
  unfold cellsFrom at h
  split at h
  .rename_i hk
   have hk':k=.cell:=by simpa using hk
   rcases ZBt r (n+1) _ y c h with h | ⟨h,l⟩
   .rcases yAL.mp h with e | h
    .cases e;subst hk';exact .inr ⟨yAK,yAA _⟩
    .exact .inl h
   .exact .inr ⟨yAP _ h,Nat.le_of_succ_le l⟩
  .rcases ZBt r n _ y c h with h | ⟨h,l⟩
   .exact .inl h
   .exact .inr ⟨yAP _ h,l⟩
noncomputable def closFrom (cells:List (Str×Addr)):List (Str×NameKind)->List (Str×Addr)->List (Str×Addr)
 | [],acc=>acc
 | (x,k)::r,acc=>if k == .free then closFrom cells r ((x,(cells.lookup x).getD 0)::acc) else closFrom cells r acc
theorem ZBd {cells:List (Str×Addr)}:∀ (names:List (Str×NameKind)) (acc:List (Str×Addr)) (y:Str) (c:Addr),(y,c)∈closFrom cells names acc->(y,c)∈acc∨((y,NameKind.free)∈names /\ c=(cells.lookup y).getD 0)
 | [],_,_,_,h=>.inl h
 | (x,k)::r,acc,y,c,h=>by
  unfold closFrom at h
  split at h
  .rename_i hk
   have hk':k=.free:=by simpa using hk
   rcases ZBd r _ y c h with h | ⟨h,l⟩
   .rcases yAL.mp h with e | h
    .cases e;subst hk';exact .inr ⟨yAK,rfl⟩
    .exact .inl h
   .exact .inr ⟨yAP _ h,l⟩
  .rcases ZBd r _ y c h with h | ⟨h,l⟩
   .exact .inl h
   .exact .inr ⟨yAP _ h,l⟩
theorem ZBx {cells:List (Str×Addr)}:∀ (names:List (Str×NameKind)) (acc:List (Str×Addr)) (p:Str×Addr),p∈acc->p∈closFrom cells names acc
 | [],_,_,h=>h
 | (x,k)::r,acc,p,h=>by
  unfold closFrom
  split
  .exact ZBx r _ p (yAP _ h)
  .exact ZBx r _ p h
theorem ZBe {cells:List (Str×Addr)}:∀ (names:List (Str×NameKind)) (acc:List (Str×Addr)) (y:Str),(y,NameKind.free)∈names->(y,(cells.lookup y).getD 0)∈closFrom cells names acc
 | [],_,_,h=>nomatch h
 | (x,k)::r,acc,y,h=>by
  unfold closFrom
  rcases yAL.mp h with e | h
  .cases e
   rw [if_pos (by rfl)]
   exact ZBx r _ _ yAK
  .split
   .exact ZBe r _ y h
   .exact ZBe r _ y h
theorem ZBa {α:Type}:∀ {l:List (Str×α)} {y:Str} {c:α},(y,c)∈l->∃ c',l.lookup y=some c'
 | (k,v)::r,y,c,h=>by
  rw [yBE]
  cases hb:y == k with
  | true=>exact ⟨v,rfl⟩
  | false=>
   rcases yAL.mp h with e | h
   .cases e;rw [beq_self_eq_true] at hb;cases hb
   .exact ZBa h
theorem ZBs {env:Env} (f:Str×NameKind->List (Str×Addr)->Sem (ForInStep (List (Str×Addr))))
  (hf:∀ name kind cs,f (name,kind) cs=if kind == .free then (do let a <- cellOf env name;pure (.yield ((name,a)::cs))) else pure (.yield cs)) :
  ∀ (names:List (Str×NameKind)) (acc:List (Str×Addr)),(∀ x,(x,NameKind.free)∈names->∃ c,env.cells.lookup x=some c)->forIn names acc f=(pure (closFrom env.cells names acc):Sem (List (Str×Addr)))
 | [],acc,_=>by rw [List.forIn_nil];rfl
 | (x,k)::r,acc,h=>by
  have hr:∀ x,(x,NameKind.free)∈r->∃ c,env.cells.lookup x=some c:=fun y hy=>h y (yAP _ hy)
  rw [List.forIn_cons,hf]
  unfold closFrom
  split
  .rename_i hk
   have hk':k=.free:=by simpa using hk
   subst hk'
   obtain ⟨c,hc⟩:=h x yAK
   have e:cellOf env x=(pure c:Sem Addr):=by unfold cellOf;rw [hc]
   rw [e,hc]
   exact ZBs f hf r ((x,c)::acc) hr
  .exact ZBs f hf r acc hr
theorem closureFor_eq {scope:Scope} {env:Env} (h:∀ x,(x,NameKind.free)∈scope.names->∃ c,env.cells.lookup x=some c):closureFor scope env=pure (closFrom env.cells scope.names []):=by
 simp only [closureFor]
 rw [ZBs _ (fun name kind cs=>by cases hk:kind == NameKind.free <;> simp [hk]) scope.names [] h]
 rfl
section
variable {M:Model} {A:Around} {E:Value->Shared->Prop} {s:Shared}
theorem newEnv_comp {scope:Scope} {globals:Addr} {cl:List (Str×Addr)} {qual:Str} {env:Env} {Q:Env->Shared->Prop}
  (hQ:Q { scope:=scope,locals:=s.heap.objs.size,globals:=globals,cells:=cellsFrom (s.heap.objs.size+1) scope.names cl,qual:=qual,func:=none,code:=env.code,frame:=env.frame,builtins:=env.builtins }
   { s with heap:=pushCells (s.heap.push { cls:=.type "dict",data:=.dict #[] }) scope.names }) :
  wpAny M A (newFunctionEnv scope globals cl [] qual none .none (some env)) Q E s:=by
 simp only [newFunctionEnv,Option.isSome_some,if_true]
 refine wpAny_bind (wpAny_alloc ?_)
 refine wpAny_bind (wpAny_layCells _ (fun name kind cells=>by cases hkc:kind == NameKind.cell <;> simp [hkc]) _ _ _ _ ?_)
 rw [show ({ s with heap:=s.heap.push { cls:=.type "dict",data:=.dict #[] } }:Shared).heap.objs.size=s.heap.objs.size+1 from Heap.size_push ..]
 rw [List.forIn_nil]
 exact wpAny_bind (wpAny_pure (wpAny_pure hQ))
end
theorem relabel_lookup {scope:Scope} {env:Env} (x:Str):(relabel scope env).names.lookup x=(scope.names.lookup x).map fun k=>if (k == .free && env.scope.kind == .function && env.kindOf x == some .cell)=true then NameKind.cell else k:=by
 unfold relabel
 dsimp only
 generalize scope.names=names
 induction names with
 | nil=>rfl
 | cons p r ih=>
  obtain ⟨n,k⟩:=p
  rw [yAR,yBE (as:=r)]
  cases hx:x == n with
  | true=>
   have e:x=n:=beq_iff_eq.mp hx
   subst e
   by_cases hc:(k == NameKind.free && env.scope.kind == .function && env.kindOf x == some .cell)=true
   .simp only [hc,if_true,yBE,hx,Option.map_some]
   .simp only [hc,yBH,if_false,yBE,hx,Option.map_some]
  | false=>
   by_cases hc:(k == NameKind.free && env.scope.kind == .function && env.kindOf n == some .cell)=true
   .simp only [hc,if_true,yBE,hx];exact ih
   .simp only [hc,yBH,if_false,yBE,hx];exact ih
noncomputable def ZCX (N:List Str) (osc:Scope) (k:Nat) (js:List Nat) (N':List Str) (sc:Scope):Bool :=
 decide (sc.kind=.function) && decide (N'.length=k+js.length) && decide N'.Nodup &&
 sc.names.all (fun p=>decide (sc.names.lookup p.1=some p.2) && (decide (p.2≠.free) || decide (osc.names.lookup p.1=some .cell) || decide (osc.names.lookup p.1=some .free))) &&
 (List.range js.length).all (fun i=>decide (js[i]?.bind (fun j=>N[j]?)=N'[k+i]?) && decide ((N'[k+i]?).bind (fun y=>sc.names.lookup y)=some .free))
structure CmpOk (N:List Str) (osc:Scope) (k:Nat) (js:List Nat) (N':List Str) (sc:Scope):Prop where
 kind:sc.kind=.function
 len:N'.length=k+js.length
 nd:N'.Nodup
 look:∀ p∈sc.names,sc.names.lookup p.1=some p.2
 fr:∀ y,(y,NameKind.free)∈sc.names->osc.names.lookup y=some .cell∨osc.names.lookup y=some .free
 js:∀ i j,js[i]?=some j->∃ y,N'[k+i]?=some y /\ N[j]?=some y /\ sc.names.lookup y=some .free
theorem cmpOk {N:List Str} {osc:Scope} {k:Nat} {js:List Nat} {N':List Str} {sc:Scope} (h:ZCX N osc k js N' sc=true):CmpOk N osc k js N' sc:=by
 unfold ZCX at h
 simp only [Bool.and_eq_true,decide_eq_true_eq,List.all_eq_true,Bool.or_eq_true,List.mem_range] at h
 obtain ⟨⟨⟨⟨h1,h2⟩,h3⟩,h4⟩,h5⟩:=h
 refine ⟨h1,h2,h3,fun p hp=>(h4 p hp).1,fun y hy=>?_,fun i j hj=>?_⟩
 .rcases (h4 _ hy).2 with (z | z) | z
  .exact absurd rfl z
  .exact .inl z
  .exact .inr z
 .have hi:i < js.length:=(yAI.mp hj).1
  obtain ⟨a,b⟩:=h5 i hi
  rw [hj] at a
  cases e:N'[k+i]? with
  | none=>rw [e] at b;cases b
  | some y=>
   rw [e] at a b
   exact ⟨y,rfl,a,b⟩
noncomputable def ZC9 (scope:Scope) (cl:List (Str×Addr)) (C:Addr) (env:Env):Env :=
 { scope:=relabel scope env,locals:=C,globals:=env.globals,cells:=cellsFrom (C+1) scope.names cl,qual:=env.qual,func:=none,code:=env.code,frame:=env.frame,builtins:=env.builtins }
noncomputable def ZBo (X:Cx) (N':List Str) (scope:Scope) (C:Addr) (fp:List Addr) (s2:Shared) (H2:Hp):Cx where
 prog:=X.prog
 w:=X.w
 K:=X.K
 mg:=X.mg
 base:=X.base
 A:=X.A
 N:=N'
 s₀:=s2
 H₀:=H2
 env:=ZC9 scope (closFrom X.env.cells scope.names []) C X.env
 outer:=X.stack
 stack:=X.stack
 ex:=fp
 fn:=fun x=>decide (scope.names.lookup x=some .cell)
 calm:=X.calm
 pn:=[]
 xe:=fun _ _=>False
noncomputable def up (k:Nat) (js:List Nat) (σ:St):St:=List.replicate k none++js.map fun j=>(σ[j]?).getD none
section
variable {X:Cx} {pins:List (Addr×Obj)} {σ:St} {H:Hp} {s2:Shared} {k:Nat} {js:List Nat} {N':List Str} {scope:Scope} {fp:List Addr}
theorem comp_inv (hc:CmpOk X.N X.env.scope k js N' scope) (I:Inv X pins σ H s2) (hfp:∀ b∈fp,FpOk X pins H b) (hlt:∀ b∈fp,b < s2.heap.objs.size) {h3:Heap} (hz:h3.objs.size=s2.heap.objs.size+1) (hk3:∀ b o,s2.heap.get? b=some o->h3.get? b=some o) :
  Inv (ZBo X N' scope (s2.heap.objs.size+1) fp s2 H) [] (up k js σ) H { s2 with heap:=pushCells (h3.push { cls:=.type "dict",data:=.dict #[] }) scope.names }:=by
 have frLook:∀ y,(y,NameKind.free)∈scope.names->∃ c,X.env.cells.lookup y=some c:=fun y hy=>I.ok.has y (hc.fr y hy)
 have ok0:=cellsFrom_ok scope.names (h3.push { cls:=.type "dict",data:=.dict #[] }) (s2.heap.objs.size+2) [] ⟨fun _ _ hm=>(nomatch hm),List.Pairwise.nil⟩ (by rw [Heap.size_push,hz];exact yAA _)
 rw [Heap.size_push,hz] at ok0
 have parts:∀ y c,(ZC9 scope (closFrom X.env.cells scope.names []) (s2.heap.objs.size+1) X.env).cells.lookup y=some c ->
   ((y,c)∈cellsFrom (s2.heap.objs.size+2) scope.names [] /\ (y,NameKind.cell)∈scope.names /\ s2.heap.objs.size+2 <= c)∨((y,NameKind.free)∈scope.names /\ X.env.cells.lookup y=some c):=fun y c e=>by
  have m:=PySem.mem_of_lookup e
  change (y,c)∈cellsFrom (s2.heap.objs.size+1+1) scope.names _ at m
  rw [ZBA] at m
  rcases yBF.mp m with m | m
  .rcases ZBt _ _ _ _ _ m with z | ⟨z,l⟩
   .cases z
   .exact .inl ⟨m,z,l⟩
  .rcases ZBd _ _ _ _ m with z | ⟨z,l⟩
   .cases z
   .obtain ⟨c',e'⟩:=frLook y z
    rw [e'] at l
    exact .inr ⟨z,by rw [e'];exact congrArg some l.symm⟩
 have old:∀ y c,X.env.cells.lookup y=some c->c < s2.heap.objs.size:=fun y c e=>by
  obtain ⟨v,q⟩:=I.cell y c e
  exact q.lt
 have freeAt:∀ y,(y,NameKind.free)∈scope.names->∀ c,X.env.cells.lookup y=some c->(ZC9 scope (closFrom X.env.cells scope.names []) (s2.heap.objs.size+1) X.env).cells.lookup y=some c:=fun y hy c e=>by
  have m:(y,c)∈cellsFrom (s2.heap.objs.size+1+1) scope.names (closFrom X.env.cells scope.names []):=by
   rw [ZBA]
   have q:=ZBe (cells:=X.env.cells) scope.names [] y hy
   rw [e] at q
   exact yAQ _ q
  obtain ⟨c',q⟩:=ZBa m
  rcases parts y c' q with ⟨_,z,_⟩ | ⟨_,z⟩
  .have z1:=hc.look _ z
   have z2:=hc.look _ hy
   rw [z1] at z2
   cases z2
  .rw [e] at z
   cases z
   exact q
 have keepAll:∀ b o,s2.heap.get? b=some o->(pushCells (h3.push { cls:=.type "dict",data:=.dict #[] }) scope.names).get? b=some o:=fun b o e=>pushCells_keeps _ _ b o (Heap.get?_push_of_some _ (hk3 b o e))
 refine ⟨⟨I.ok.mod,hc.kind,I.ok.glob,I.ok.blt,yAX _,fun y z c h1 h2=>?_,fun y hy=>?_,fun y c h1 h2=>?_,I.ok.hd,I.ok.frames,.inl rfl,fun b hb=>⟨?_,fun y c e=>?_⟩,I.bs,yAD I.ok.bsz I.sz,fun b o e hb=>?_,fun b hb hs=>?_,I.stack,I.stkFree⟩,
  rfl,I.bare,Un.kept keepAll,⟨fun _=>none,?_,fun i y v e1 e2 e3=>?_⟩,fun y c e=>?_,I.hok.fresh (yAX _),fun y c e=>?_,fun p hp=>absurd (show p∈([]:List (Addr×Obj)) from hp) (by simp),I.hok.kept keepAll,?_⟩
 .
  rcases parts y c h1 with ⟨a,_,l⟩ | ⟨_,a⟩ <;> rcases parts z c h2 with ⟨b,_,l'⟩ | ⟨_,b⟩
  .exact name_of_addr ok0.apart a b
  .have:=natlt (old z c b);omega
  .have:=natlt (old y c a);omega
  .exact I.ok.inj y z c a b
 .
  have hy':(relabel scope X.env).names.lookup y=some .cell∨(relabel scope X.env).names.lookup y=some .free:=hy
  rw [relabel_lookup] at hy'
  have q:scope.names.lookup y=some .cell∨scope.names.lookup y=some .free:=by
   cases e:scope.names.lookup y with
   | none=>rw [e] at hy';rcases hy' with z | z <;> cases z
   | some kk=>
    rw [e] at hy'
    cases kk <;> first | exact .inl rfl | exact .inr rfl | (rcases hy' with z | z <;> simp at z)
  rcases q with q | q
  .obtain ⟨c,e⟩:=ZCY (n:=s2.heap.objs.size+1+1) q
   have m:(y,c)∈cellsFrom (s2.heap.objs.size+1+1) scope.names (closFrom X.env.cells scope.names []):=by
    rw [ZBA]
    exact List.mem_append_left _ (PySem.mem_of_lookup e)
   exact ZBa m
  .have m:=PySem.mem_of_lookup q
   obtain ⟨c,e⟩:=frLook y m
   exact ⟨c,freeAt y m c e⟩
 .
  have h1':scope.names.lookup y=some .cell:=of_decide_eq_true h1
  rcases parts y c h2 with ⟨_,_,l⟩ | ⟨z,_⟩
  .show s2.heap.objs.size <= c
   omega
  .have:=hc.look _ z
   rw [h1'] at this
   cases this
 .
  exact ZCo (hlt b hb) (yAX _)
 .rcases parts y c e with ⟨_,_,l⟩ | ⟨_,z⟩
  .exact (ZCo (hlt b hb) (yAD (Nat.le_add_right _ 2) l)).symm
  .exact (hfp b hb).2.2.2.2.1 y c z
 .
  rcases (hfp b hb).2.2.2.1 with z | z
  .exact I.ok.noex b o e z
  .exact absurd (yAG (Heap.lt_size e) (yAD I.ok.bsz z)) (yBD _)
 .
  rcases yAL.mp (I.stkSub b hs) with z | z
  .exact (hfp b hb).2.1 z
  .exact (hfp b hb).2.2.1 z
 .
  have q:=(Heap.Ns.new h3 (.type "dict")).keeps (pushCells_keeps scope.names _)
  rw [hz] at q
  exact q
 .
  unfold up at e2
  have hik:k <= i:=by
   by_cases hi:i < k
   .rw [yAO (by simpa using hi),List.getElem?_replicate] at e2
    rw [if_pos hi] at e2
    cases e2
   .omega
  rw [yAT (by simpa using hik),yBK,yAU] at e2
  cases ej:js[i-k]? with
  | none=>rw [ej] at e2;cases e2
  | some j=>
   rw [ej] at e2
   have e2':(σ[j]?).getD none=some v:=Option.some.inj e2
   have e4:σ[j]?=some (some v):=by
    cases q:σ[j]? with
    | none=>rw [q] at e2';cases e2'
    | some z=>rw [q] at e2';exact congrArg some e2'
   obtain ⟨y',n1,n2,n3⟩:=hc.js _ _ ej
   rw [Nat.add_sub_cancel' hik] at n1
   have n0:N'[i]?=some y:=e1
   rw [n1] at n0
   cases n0
   have hm:=PySem.mem_of_lookup n3
   have hvis:Vis X.env.scope y:=.inr (hc.fr y hm)
   obtain ⟨m,hn,hl⟩:=I.loc
   obtain ⟨u,r,l⟩:=hl j y v n2 e4 hvis
   refine ⟨u,r,?_⟩
   rcases l with ⟨kk,_⟩ | ⟨kk,c,ec,ic⟩
   .have kk':X.env.scope.names.lookup y=some .local:=kk
    rcases hc.fr y hm with z | z <;> (rw [kk'] at z;cases z)
   .refine .inr ⟨?_,c,freeAt y hm c ec,ic.keeps keepAll⟩
    show (relabel scope X.env).names.lookup y=some .cell∨(relabel scope X.env).names.lookup y=some .free
    rw [relabel_lookup,n3]
    simp only [Option.map_some]
    split
    .exact .inl rfl
    .exact .inr rfl
 .
  rcases parts y c e with ⟨a,_,_⟩ | ⟨_,a⟩
  .exact ⟨none,(ok0.empty y c a).1⟩
  .obtain ⟨v,q⟩:=I.cell y c a
   exact ⟨v,q.keeps keepAll⟩
 .rcases parts y c e with ⟨_,_,l⟩ | ⟨_,a⟩
  .exact I.hok.fresh (by omega)
  .exact I.freeC y c a
 .unfold up
  show _=N'.length
  rw [yAF,yBK,yAB,hc.len]
theorem comp_end {σ':St} {H':Hp} {s':Shared} {C D:Addr} {its:List Value} {n:Nat} {ys:List V} (I:Inv X pins σ H s2) (hfp:∀ b∈fp,FpOk X pins H b) (hC:s2.heap.objs.size <= C) (hD:s2.heap.objs.size <= D) (hDC:D≠C)
  (I':Inv (ZBo X N' scope C fp s2 H) [(D,{ cls:=.type "list",data:=.seq its.toArray n })] σ' H' s') (hv:Vals ys its) (hz:ys.length <= sizeLine) :
  H' D=none /\ ∀ h',Heap.SameBut C s'.heap h'->Inv X pins σ (upd H' D (.lst ys)) { s' with heap:=h' }:=by
 obtain ⟨eD,nD,_,_,_⟩:=I'.pin (D,{ cls:=.type "list",data:=.seq its.toArray n }) (yAQ _ yAK)
 dsimp only at eD nD
 have nC:H' C=none:=I'.free
 refine ⟨nD,fun h' hs=>?_⟩
 have neC:∀ b o,s2.heap.get? b=some o->b≠C:=fun b o e=>ZCo (Heap.lt_size e) hC
 have neD:∀ b o,s2.heap.get? b=some o->b≠D:=fun b o e=>ZCo (Heap.lt_size e) hD
 have tr:∀ b u,H' b=some u->b≠D:=fun b u e z=>by rw [z,nD] at e;cases e
 have trC:∀ b u,H' b=some u->b≠C:=fun b u e z=>by rw [z,nC] at e;cases e
 have B:=I'.base
 refine I.call' (s':={ s' with heap:=h' }) (ch:=fp) I'.os ⟨fun b o e nn hb hx=>?_,fun b o e nn hb hx=>?_,fun b o e nn hx=>?_,fun b o e hx=>?_,fun b xs e=>?_,fun b o u e=>?_,fun b ps e=>?_⟩ (fun b u e=>?_) I'.bare fun b hb=>?_
 .exact (hs.2 b (neC b o e)).trans (B.keep b o e nn hb hx)
 .obtain ⟨sl,q⟩:=B.slot b o e nn hb hx
  exact ⟨sl,(hs.2 b (neC b o e)).trans q⟩
 .rw [ZAJ (neD b o e)]
  exact B.free b o e nn hx
 .obtain ⟨o',q⟩:=B.there b o e hx
  exact ⟨o',(hs.2 b (neC b o e)).trans q⟩
 .have q:=B.tups b xs e
  rw [ZAJ (tr b _ q)]
  exact q
 .have q:=B.frzs b o u e
  rw [ZAJ (tr b _ q)]
  exact q
 .obtain ⟨more,q⟩:=B.tbls b ps e
  exact ⟨more,by rw [ZAJ (tr b _ q)];exact q⟩
 .by_cases hb:b=D
  .subst hb
   rw [ZAC] at e
   cases e
   exact ⟨hz,its,n,hv,(hs.2 b hDC).trans eD⟩
  .rw [ZAJ hb] at e
   refine (I'.hok b u e).stay (fun c v hcc q=>(hs.2 c ?_).trans q) (fun c q=>by rw [ZAJ (tr c _ q)];exact q) fun c xs q=>by rw [ZAJ (tr c _ q)];exact q
   rcases hcc with rfl | hcc
   .exact trC c _ e
   .exact trC c _ hcc
 .obtain ⟨_,f1,_,f3,f4,f5⟩:=hfp b hb
  exact ⟨f3,f1,f4,f5⟩
end
section
variable {prog:Program} {w:World} {A:Around} {R:Result->Shared->Prop} {s:Shared}
theorem codeAny_compLoop_any {elt target iter:Expr} {ifs:List Expr} {scope:Scope} {pos:Pos} {it acc:Value} {env:Env} (I:Nat->Shared->Prop)
  (turn:∀ n s,I n s->wpAny (model prog w) A (pyNext it) (fun r s₁=>match r with
   | none=>R (.ok .next) s₁
   | some v=>wpAny (model prog w) A (letOwnedTupleGo target it v) (fun _ s₁'=>wpAny (model prog w) A (assign target env v) (fun _ s₂=>
     wpAny (model prog w) A (forIn ifs true fun c r=>if r=true then do let ok <- isTrue c env (eval c env);pure (ForInStep.yield ok) else pure (ForInStep.yield r)) (fun ok s₃=>
      if ok=true then wpAny (model prog w) A (eval elt env) (fun x s₄=>
       wpAny (model prog w) A (call (.builtin "list.append") [acc,x]) (fun _ s₅=>∃ m,m < n /\ I m s₅) (notedBy (model prog w) A env fun e s'=>R (.error e) s') s₄) (notedBy (model prog w) A env fun e s'=>R (.error e) s') s₃
      else ∃ m,m < n /\ I m s₃) (notedBy (model prog w) A env fun e s'=>R (.error e) s') s₂) (notedBy (model prog w) A env fun e s'=>R (.error e) s') s₁') (notedBy (model prog w) A env fun e s'=>R (.error e) s') s₁) (notedBy (model prog w) A env fun e s'=>R (.error e) s') s)
  (n:Nat) (h:I n s) :
  codeAny (model prog w) A (.compLoop (.ListComp elt [⟨target,iter,ifs,0⟩] scope pos) 0 it acc env) R s:=by
 refine codeAny_loop rfl I (fun n s hI=>?_) n h
 show wpAny _ A ((compTurn (.ListComp elt [⟨target,iter,ifs,0⟩] scope pos) 0 it acc env).onRaise (fun x=>do noteFrame x env;theTreesLotGoes x)) _ _ s
 refine wpAny_noted ?_
 rw [compTurn_list]
 refine wpAny_bind (wpAny_standAt (wpAny_bind (wpAny_mono (turn n s hI) (fun r s₁ h₁=>?_) fun _ _ h'=>h')))
 cases r with
 | none=>exact wpAny_pure h₁
 | some v=>
  refine wpAny_bind (wpAny_mono h₁ (fun _ s₁' h₁'=>?_) fun _ _ h'=>h')
  refine wpAny_bind (wpAny_mono h₁' (fun _ s₂ h₂=>wpAny_bind (wpAny_mono h₂ (fun ok s₃ h₃=>?_) fun _ _ h'=>h')) fun _ _ h'=>h')
  cases ok with
  | false=>exact wpAny_pure ⟨rfl,h₃⟩
  | true=>exact wpAny_bind (wpAny_bind (wpAny_mono h₃ (fun x s₄ h₄=>wpAny_bind (wpAny_mono h₄ (fun _ s₅ h₅=>wpAny_pure (wpAny_pure ⟨rfl,h₅⟩)) fun _ _ h'=>h')) fun _ _ h'=>h'))
end
noncomputable def PIfs (X:Cx) (ifs:List Expr) (t:TT):Prop :=
 ∀ (pins:List (Addr×Obj)) (s:Shared) (σ:St) (H:Hp) (Q:Bool->Hp->Prop),Inv X pins σ H s->t σ H Q ->
  wpAny (model X.prog X.w) X.A (forIn ifs true fun c r=>if r=true then do let ok <- isTrue c X.env (eval c X.env);pure (ForInStep.yield ok) else pure (ForInStep.yield r)) (TP X pins σ Q) X.xe s
noncomputable def tYes:TT:=fun _ H Q=>Q true H
theorem ZAz {X:Cx}:PIfs X [] tYes:=fun _ _ _ H _ I h=>wpAny_tests_nil ⟨H,I,h⟩
theorem pifs_one {X:Cx} {c:Expr} {t:TT} (hc:PT X c t):PIfs X [c] t:=fun pins s σ H Q I h=>wpAny_tests_one (hc pins s σ H Q I h)
noncomputable def ZCy (k:Nat) (js:List Nat) (wi:TI) (g:TG) (tt:TT) (te:TE):TE:=fun σ H Q=>wi σ H fun J H1=>∃ W:Nat->Nat->List V->St->Hp->Prop,(∃ m,W 0 m [] (up k js σ) H1) /\ ∀ i m ys σ H,W i m ys σ H ->
 (J.stop i H /\ ys.length <= sizeLine /\ ∀ p,H p=none->Q (.ref p) (upd H p (.lst ys))) ∨
 (J.go i H /\ ys.length < sizeLine /\ ∀ x H',J.yld i H x H'->g x σ H' fun σ2 H2=>tt σ2 H2 fun b H3=>if b=true then te σ2 H3 fun y H4=>∃ m',m' < m /\ W (i+1) m' (ys++[y]) σ2 H4 else ∃ m',m' < m /\ W (i+1) m' ys σ2 H3)
section
variable {X:Cx} {k:Nat} {js:List Nat} {N':List Str} {scope:Scope} {tg iter elt:Expr} {ifs:List Expr} {wi:TI} {g:TG} {tt:TT} {te:TE} {pos:Pos}
theorem comp_core {use:Option (Value->Sem Unit)} {Q':Value->Shared->Prop} (hcalm:X.calm=true) (hc:CmpOk X.N X.env.scope k js N' scope) (hi:PI X tg iter wi)
  (hg:∀ C fp s2 H2,PG (ZBo X N' scope C fp s2 H2) tg g) (ht:∀ C fp s2 H2,PIfs (ZBo X N' scope C fp s2 H2) ifs tt) (he:∀ C fp s2 H2,PE (ZBo X N' scope C fp s2 H2) elt te)
  {pins:List (Addr×Obj)} {s:Shared} {σ:St} {H:Hp} {Q:VK} (I:Inv X pins σ H s) (h:ZCy k js wi g tt te σ H Q)
  (fin:∀ (C D:Addr) (s':Shared) (m:Str->Option Value) (H':Hp) (ys:List V),s'.heap.Ns C m->C≠X.env.locals->C∉X.fs->D≠C->H' C=none->X.s₀.heap.objs.size <= C->(∀ x c,X.env.cells.lookup x=some c->c≠C)->(∀ p∈X.pn++pins,p.1≠C)->(∀ h',Heap.SameBut C s'.heap h'->Inv X pins σ (upd H' D (.lst ys)) { s' with heap:=h' })->Q (.ref D) (upd H' D (.lst ys)) ->
   compPost (model X.prog X.w) X.A X.xe use Q' (.ref D) C (.ok .next) s')
  (hs:∀ x,foldedSetIterable iter X.env x=pure x) (p':Pos) :
  wpAny (model X.prog X.w) X.A (comprehension (.ListComp elt [⟨tg,iter,ifs,0⟩] scope pos) scope X.env p' (newList []) false (eval iter X.env) use) Q' X.xe s:=by
 have hclos:closureFor scope X.env=pure (closFrom X.env.cells scope.names []):=closureFor_eq fun y hy=>I.ok.has y (hc.fr y hy)
 refine wpAny_comprehension_free (g:=⟨tg,iter,ifs,0⟩) (gs:=[]) rfl hs hclos hc.kind (fun x hx hl=>by rw [hc.look x hx,hl]) ?_
 refine thn (hi pins s σ H _ I h) fun v s1 h1=>thn h1 fun itv s2 h2=>?_
 obtain ⟨it,fp,tn,J,H2,e,I2,T,st2,f2,W,⟨m0,w0⟩,turn⟩:=h2
 subst e
 have hlt:∀ b∈fp,b < s2.heap.objs.size:=fun b hb=>by
  obtain ⟨o,e,_⟩:=T.obj _ _ st2 b hb
  exact Heap.lt_size e
 refine wpAny_newObj_type (newEnv_comp ?_)
 have hz3:(s2.heap.push { cls:=.type "list",dict:=none,data:=.seq ([]:List Value).toArray }).objs.size=s2.heap.objs.size+1:=Heap.size_push ..
 have I3:=comp_inv (h3:=s2.heap.push { cls:=.type "list",dict:=none,data:=.seq ([]:List Value).toArray }) hc I2 f2 hlt hz3 (fun b o e=>Heap.get?_push_of_some _ e)
 dsimp only
 rw [hz3]
 generalize hS4:({ s2 with heap:=pushCells ((s2.heap.push { cls:=.type "list",dict:=none,data:=.seq ([]:List Value).toArray }).push { cls:=.type "dict",data:=.dict #[] }) scope.names }:Shared)=s4 at I3 ⊢
 have keep4:∀ b o,s2.heap.get? b=some o->s4.heap.get? b=some o:=fun b o e=>by
  rw [<- hS4]
  exact pushCells_keeps _ _ b o (Heap.get?_push_of_some _ (Heap.get?_push_of_some _ e))
 have eD4:s4.heap.get? s2.heap.objs.size=some { cls:=.type "list",data:=.seq ([]:List Value).toArray 0 }:=by
  rw [<- hS4]
  exact pushCells_keeps _ _ _ _ (Heap.get?_push_of_some _ (Heap.get?_push_size _ rfl))
 generalize hX':ZBo X N' scope (s2.heap.objs.size+1) fp s2 H2=X' at I3
 have hC':X'.env.locals=s2.heap.objs.size+1:=by rw [<- hX'];rfl
 have hfs':X'.fs=frs X.stack:=by rw [<- hX'];rfl
 have nofsD:∀ a,s2.heap.objs.size <= a->a∉frs X.stack:=fun a ha hb=>by
  rcases yAL.mp (I2.stkSub a hb) with z | z
  .exact absurd z.symm (ZCo I2.lt ha)
  .exact I2.nofs ha z
 have cellD:∀ x c,X'.env.cells.lookup x=some c->c≠s2.heap.objs.size:=fun x c e z=>by
  obtain ⟨v,o,ho,hd⟩:=I3.cell x c e
  rw [z,eD4] at ho
  cases ho
  cases hd
 have pinD:∀ {σ':St} {H':Hp} {s':Shared} {its:List Value} {n:Nat},Inv X' [] σ' H' s'->s'.heap.get? s2.heap.objs.size=some { cls:=.type "list",data:=.seq its.toArray n }->H' s2.heap.objs.size=none ->
   Inv X' [(s2.heap.objs.size,{ cls:=.type "list",data:=.seq its.toArray n })] σ' H' s':=fun {σ' H' s' its n} J e nn=>J.pins_of fun p hp=>by
  have e':p=(s2.heap.objs.size,{ cls:=.type "list",data:=.seq its.toArray n }):=by simpa using hp
  subst e'
  refine ⟨e,nn,?_,?_,fun v z=>nomatch z⟩
  .rw [hC'];exact yAE (yBG _)
  .rw [hfs'];exact nofsD _ (yAA _)
 have I4:=pinD I3 eD4 (I2.hok.fresh (yAA _))
 have stat:∀ {H':Hp} {o:Obj},(∀ b∈fp,H' b=none)->∀ b∈fp,FpOk X' [(s2.heap.objs.size,o)] H' b:=fun {H' o} hn b hb=>by
  have hb':=hlt b hb
  refine ⟨hn b hb,?_,?_,.inl (by rw [<- hX'];exact hb),fun x c e z=>?_,fun p hp z=>?_⟩
  .rw [hC'];exact ZCo hb' (yAX _)
  .rw [hfs']
   intro z
   rcases yAL.mp (I2.stkSub b z) with q | q
   .exact (f2 b hb).2.1 q
   .exact (f2 b hb).2.2.1 q
  .have q:=I3.ok.exf b (by rw [<- hX'];exact hb)
   exact q.2 x c e z
  .rw [show X'.pn=[] by rw [<- hX'];rfl] at hp
   have e':p=(s2.heap.objs.size,o):=by simpa using hp
   subst e'
   exact absurd hb' (by rw [<- z];exact yBD _)
 have hfin:∀ {σ':St} {H':Hp} {s':Shared} {its:List Value} {n:Nat} {ys:List V},Inv X' [(s2.heap.objs.size,{ cls:=.type "list",data:=.seq its.toArray n })] σ' H' s'->Vals ys its->ys.length <= sizeLine->(∀ p,H' p=none->Q (.ref p) (upd H' p (.lst ys))) ->
   compPost (model X.prog X.w) X.A X.xe use Q' (.ref s2.heap.objs.size) (s2.heap.objs.size+1) (.ok .next) s':=fun {σ' H' s' its n ys} J hv hz hq=>by
  obtain ⟨m,hn,_⟩:=id J.loc
  rw [hC'] at hn
  have nC:H' (s2.heap.objs.size+1)=none:=by rw [<- hC'];exact J.free
  have J':Inv (ZBo X N' scope (s2.heap.objs.size+1) fp s2 H2) [(s2.heap.objs.size,{ cls:=.type "list",data:=.seq its.toArray n })] σ' H' s':=by rw [hX'];exact J
  obtain ⟨nD,E⟩:=comp_end I2 f2 (yAX _) (yAA _) (yAE (yBG _)) J' hv hz
  refine fin _ _ s' m H' ys hn ?_ (I2.nofs (yAX _)) (yAE (yBG _)) nC (yAD I2.sz (yAX _)) (fun x c e z=>?_) (fun p hp z=>?_) E (hq _ nD)
  .exact (ZCo I2.lt (yAX _)).symm
  .obtain ⟨v,q⟩:=I2.cell x c e
   exact absurd z (ZCo q.lt (yAX _))
  .exact absurd z (ZCo (Heap.lt_size (I2.pin p hp).1) (yAX _))
 have hprog:X'.prog=X.prog:=by rw [<- hX'];rfl
 have hw:X'.w=X.w:=by rw [<- hX'];rfl
 have hK:X'.K=X.K:=by rw [<- hX'];rfl
 have hcalm':X'.calm=true:=by rw [<- hX'];exact hcalm
 have hA:X'.A=X.A:=by rw [<- hX'];rfl
 have henv:ZC9 scope (closFrom X.env.cells scope.names []) (s2.heap.objs.size+1) X.env=X'.env:=by rw [<- hX'];rfl
 have hgX:=hg (s2.heap.objs.size+1) fp s2 H2
 have htX:=ht (s2.heap.objs.size+1) fp s2 H2
 have heX:=he (s2.heap.objs.size+1) fp s2 H2
 rw [hX'] at hgX htX heX
 have hxe:∀ e s',X'.xe e s'->False:=fun e s' z=>by rw [<- hX'] at z;exact z
 have hXA:X'.pn=[]:=by rw [<- hX'];rfl
 have hs0:X'.s₀.heap.objs.size=s2.heap.objs.size:=by rw [<- hX'];rfl
 have loop:codeAny (model X.prog X.w) X.A (.compLoop (.ListComp elt [⟨tg,iter,ifs,0⟩] scope pos) 0 (.ref it) (.ref s2.heap.objs.size) X'.env) (compPost (model X.prog X.w) X.A X.xe use Q' (.ref s2.heap.objs.size) (s2.heap.objs.size+1)) s4:=by
  refine codeAny_compLoop_any (fun n s'=>∃ i σ' H' its nn ys,Inv X' [(s2.heap.objs.size,{ cls:=.type "list",data:=.seq its.toArray nn })] σ' H' s' /\ tn i s'.heap /\ (∀ b∈fp,H' b=none) /\ Vals ys its /\ W i n ys σ' H') ?_ m0
   ⟨0,_,H2,[],0,[],I4,T.keep _ _ _ st2 (fun b _ o e=>keep4 b o e),fun b hb=>(f2 b hb).1,.nil,w0⟩
  rintro n s5 ⟨i,σ5,H5,its,nn,ys,I5,st5,fr5,hv,w5⟩
  rcases turn i n ys σ5 H5 w5 with ⟨stop,hz,hq⟩ | ⟨go,hz,step⟩
  .have d:=T.done X' hprog hw hK hcalm' i _ s5 σ5 H5 (fun _ _=>False) I5 (stat fr5) st5 stop
   rw [hA] at d
   refine wpAny_mono d (fun r s6 ⟨hr,I6⟩=>?_) fun _ _ z=>z.elim
   subst hr
   exact hfin I6 hv hz hq
  .have d:=T.item X' hprog hw hK hcalm' i _ s5 σ5 H5 (fun _ _=>False) I5 (stat fr5) st5 go
   rw [hA] at d
   refine wpAny_mono d (fun r s6 ⟨u,hr,h6⟩=>?_) fun _ _ z=>z.elim
   subst hr
   refine wpAny_mono h6 (fun _ s7 zz=>?_) fun _ _ z=>z.elim
   obtain ⟨x,H7,I7,r7,y7,st7,fr7⟩:=zz
   have I7':=I7.pinned (stat fr7) (T.obj _ _ st7)
   have a1:=hgX _ s7 σ5 H7 x u _ I7' r7 (step x H7 y7)
   rw [hprog,hw,hA] at a1
   refine wpAny_mono a1 (fun _ s8 zz=>?_) fun _ _ z=>(hxe _ _ z).elim
   obtain ⟨σ8,H8,I8,q8⟩:=zz
   have a2:=htX _ s8 σ8 H8 _ I8 q8
   rw [hprog,hw,hA] at a2
   refine wpAny_mono a2 (fun ok s9 ⟨H9,I9,q9⟩=>?_) fun _ _ z=>(hxe _ _ z).elim
   have back:∀ {σ':St} {H':Hp} {s':Shared},Inv X' ([(s2.heap.objs.size,({ cls:=.type "list",data:=.seq its.toArray nn }:Obj))]++ZDD fp s7.heap) σ' H' s'->tn (i+1) s'.heap /\ (∀ b∈fp,H' b=none):=fun {σ' H' s'} J=>by
    refine ⟨T.keep _ _ _ st7 fun b hb o e=>(J.pin (b,o) (yAQ _ (yAQ _ (ZB4 hb e)))).1,fun b hb=>?_⟩
    obtain ⟨o,e,d⟩:=T.obj _ _ st7 b hb
    exact (J.pin (b,o) (yAQ _ (yAQ _ (ZB4 hb e)))).2.1
   cases ok with
   | false=>
    rw [if_neg yAM] at q9 ⊢
    obtain ⟨m',hm,w9⟩:=q9
    obtain ⟨t9,f9⟩:=back I9
    exact ⟨m',hm,i+1,σ8,H9,its,nn,ys,I9.unpinned,t9,f9,hv,w9⟩
   | true=>
    rw [if_pos rfl] at q9 ⊢
    have a3:=heX _ s9 σ8 H9 _ I9 q9
    rw [hprog,hw,hA] at a3
    refine wpAny_mono a3 (fun uy s10 zz=>?_) fun _ _ z=>(hxe _ _ z).elim
    obtain ⟨y,H10,I10,r10,m',hm,w10⟩:=zz
    obtain ⟨t10,f10⟩:=back I10
    have I11:=I10.unpinned
    obtain ⟨eD,nD,_,_,_⟩:=I11.pin (s2.heap.objs.size,{ cls:=.type "list",data:=.seq its.toArray nn }) (yAQ _ yAK)
    dsimp only at eD nD
    have hsz:its.length < sizeLine:=by rw [<- hv.length];exact hz
    refine wpAny_list_append_plain ⟨nn,eD⟩ (fun h' hpl hsb=>?_) (by rw [yAN];omega)
    obtain ⟨n',e'⟩:=hpl
    have e'':h'.get? s2.heap.objs.size=some { cls:=.type "list",data:=.seq (its++[uy]).toArray n' }:=by rw [e'];simp
    have I12:Inv X' [] σ8 H10 s10:=I11.pins_of fun p hp=>absurd hp (by simp)
    have I13:=I12.turned (h':=h') (t':=s10.toks) (it:=s2.heap.objs.size) (fun b o hb e=>(hsb.2 b hb).trans e) nD (by rw [hC'];exact yAE (yBG _)) (.inr (by rw [hs0];exact yAA _)) cellD (fun p hp=>absurd hp (by rw [hXA];simp))
    refine ⟨m',hm,i+1,σ8,H10,its++[uy],n',ys++[y],pinD I13 e'' nD,T.keep _ _ _ t10 fun b hb o e=>?_,f10,hv.append (.cons r10 .nil),w10⟩
    exact (hsb.2 b (ZCo (hlt b hb) (yAA _))).trans e
 have hst:codeAny (model X.prog X.w) X.A (.compStart (.ListComp elt [⟨tg,iter,ifs,0⟩] scope pos) 0 (.ref it) (.ref s2.heap.objs.size) X'.env) (compPost (model X.prog X.w) X.A X.xe use Q' (.ref s2.heap.objs.size) (s2.heap.objs.size+1)) s4 :=
  codeAny_compStart_list loop (T.self X.A 0 s4 _ _ (T.keep _ _ _ st2 (fun b _ o e=>keep4 b o e)) loop)
 rw [<- henv] at hst
 exact hst
theorem ZBr (hcalm:X.calm=true) (hc:ZCX X.N X.env.scope k js N' scope=true) (hi:PI X tg iter wi)
  (hg:∀ C fp s2 H2,PG (ZBo X N' scope C fp s2 H2) tg g) (ht:∀ C fp s2 H2,PIfs (ZBo X N' scope C fp s2 H2) ifs tt) (he:∀ C fp s2 H2,PE (ZBo X N' scope C fp s2 H2) elt te)
  (hs:∀ x,foldedSetIterable iter X.env x=pure x:=by intro _;rfl):PE X (.ListComp elt [⟨tg,iter,ifs,0⟩] scope pos) (ZCy k js wi g tt te):=by
 intro pins s σ H Q I h
 rw [eval_ListComp]
 refine comp_core (use:=none) hcalm (cmpOk hc) hi hg ht he I h (fun C D s' m H' ys hn _ _ _ _ _ _ _ E q=>?_) hs _
 exact ⟨m,hn,fun h' hsb=>⟨.ref D,_,E h' hsb,rfl,q⟩⟩
theorem ZBH {i:Nat} {x:Str} {px spos:Pos} (hN:X.N.Nodup) (hix:X.N[i]?=some x) (hx:Loc X.env.scope x) (hcalm:X.calm=true) (hc:ZCX X.N X.env.scope k js N' scope=true) (hi:PI X tg iter wi)
  (hg:∀ C fp s2 H2,PG (ZBo X N' scope C fp s2 H2) tg g) (ht:∀ C fp s2 H2,PIfs (ZBo X N' scope C fp s2 H2) ifs tt) (he:∀ C fp s2 H2,PE (ZBo X N' scope C fp s2 H2) elt te)
  (hs:∀ x,foldedSetIterable iter X.env x=pure x:=by intro _;rfl) (hsw:swapsWith (.ListComp elt [⟨tg,iter,ifs,0⟩] scope pos) (some (.Name x px)) spos.line X.env=pure true:=by rfl)
  (hf:X.fn x=true∨X.env.scope.names.lookup x=some .local:=by first | exact .inl rfl | exact .inr rfl | assumption) :
  PS X (.Assign [.Name x px] (.ListComp elt [⟨tg,iter,ifs,0⟩] scope pos) spos) (tAsg (ZCy k js wi g tt te) (ZDd i)):=by
 intro pins s σ H D I h
 rw [exec_Assign_Name_used _ _ _ _ hsw]
 refine wpAny_bind (wpAny_standAt (wpAny_bind ?_))
 show wpAny _ X.A (do let _ <- comprehension (.ListComp elt [⟨tg,iter,ifs,0⟩] scope pos) scope X.env _ (newList []) false (eval iter X.env) (some (assign (.Name x px) X.env))) _ _ s
 refine wpAny_bind (wpAny_mono (comp_core (use:=some (assign (.Name x px) X.env)) (Q':=fun _ s'=>SP X pins D .next s') hcalm (cmpOk hc) hi hg ht he I h (fun C Dd s' m H' ys hn c1 c2 c3 c4 c5 c6 c7 E q=>?_) hs _) (fun _ s' hq=>wpAny_pure (wpAny_pure hq)) fun _ _ e=>e)
 have J:=E s'.heap (.refl ..)
 obtain ⟨oC,es,ep,eC,dC,rC⟩:=id hn
 have J':Inv X (pins++[(C,oC)]) σ (upd H' Dd (.lst ys)) s':=J.pins_of fun p hp=>by
  rcases yBF.mp hp with z | z
  .exact J.pin p (yAQ _ z)
  .have e':p=(C,oC):=by simpa using z
   subst e'
   refine ⟨eC,?_,c1,c2,fun v z=>?_⟩
   .show upd H' Dd _ C=none
    rw [ZAJ (Ne.symm c3)]
    exact c4
   .have z':oC.data=.cell v:=z
    rw [dC] at z'
    cases z'
 show wpAny _ X.A (assign (.Name x px) X.env (.ref Dd)) _ _ _
 refine wpAny_assign_Name (ZCW (Q:=fun _ s''=>∃ m,s''.heap.Ns C m /\ ∀ h',Heap.SameBut C s''.heap h'->SP X pins D .next { s'' with heap:=h' }) J' hN hix hx (v:=.ref Dd) (u:=.ref Dd) rfl (fun s'' K'=>?_) hf)
 obtain ⟨e2,n2,_,_,_⟩:=K'.pin (C,oC) (yAQ _ (yAQ _ yAK))
 dsimp only at e2 n2
 refine ⟨m,⟨oC,es,ep,e2,dC,rC⟩,fun h' hsb=>⟨_,_,K'.unpinned.turned (it:=C) (t':=s''.toks) (fun b o hb e=>(hsb.2 b hb).trans e) n2 c1 (.inr c5) c6 c7,q⟩⟩
end
mutual
noncomputable def Dp (K:W.Frag) (H:Hp):PyData->V->Prop
 | .none,v=>v=.non
 | .bool b,v=>v=.bl b
 | .int i,v=>v=.int i
 | .str x,v=>v=.str x
 | .list ds,v=>∃ a xs,v=.ref a /\ SqL K H a xs /\ DpAll K H ds xs
 | .tuple ds,v=>∃ a xs,v=.ref a /\ SqT K H a xs /\ DpAll K H ds xs
 | .dict _,_=>False
noncomputable def DpAll (K:W.Frag) (H:Hp):List PyData->List V->Prop
 | [],vs=>vs=[]
 | d::ds,vs=>∃ v r,vs=v::r /\ Dp K H d v /\ DpAll K H ds r
end
theorem Same.seqT {K:W.Frag} {H H':Hp} {a:Addr} {xs:List V} (e:Same H H') (h:SqT K H a xs):SqT K H' a xs:=by
 rcases h with (h | ⟨o,h⟩) | h
 .exact .inl (.inl (e _ _ h))
 .exact .inl (.inr ⟨o,e _ _ h⟩)
 .exact .inr h
mutual
theorem Dp.mono {K:W.Frag} {H H':Hp} (e:Same H H'):∀ {d:PyData} {v:V},Dp K H d v->Dp K H' d v
 | .none,_,h=>h
 | .bool _,_,h=>h
 | .int _,_,h=>h
 | .str _,_,h=>h
 | .list ds,_,h=>by
  unfold Dp at h ⊢
  obtain ⟨a,xs,r,q,t⟩:=h
  exact ⟨a,xs,r,e.seq q,DpAll.mono e t⟩
 | .tuple ds,_,h=>by
  unfold Dp at h ⊢
  obtain ⟨a,xs,r,q,t⟩:=h
  exact ⟨a,xs,r,e.seqT q,DpAll.mono e t⟩
 | .dict _,_,h=>by unfold Dp at h;exact h.elim
theorem DpAll.mono {K:W.Frag} {H H':Hp} (e:Same H H'):∀ {ds:List PyData} {vs:List V},DpAll K H ds vs->DpAll K H' ds vs
 | [],_,h=>h
 | _::_,_,h=>by
  unfold DpAll at h ⊢
  obtain ⟨v,r,q,a,t⟩:=h
  exact ⟨v,r,q,Dp.mono e a,DpAll.mono e t⟩
end
theorem DpAll.length {K:W.Frag} {H:Hp}:∀ {ds:List PyData} {vs:List V},DpAll K H ds vs->vs.length=ds.length
 | [],_,h=>by unfold DpAll at h;subst h;rfl
 | _::_,_,h=>by
  unfold DpAll at h
  obtain ⟨v,r,q,a,t⟩:=h
  subst q
  rw [yAZ,yAZ,DpAll.length t]
theorem DpAll.get {K:W.Frag} {H:Hp}:∀ {ds:List PyData} {vs:List V} {i:Nat} {d:PyData},DpAll K H ds vs->ds[i]?=some d->∃ v,vs[i]?=some v /\ Dp K H d v
 | [],_,_,_,_,e=>by simp at e
 | _::_,_,0,_,h,e=>by
  unfold DpAll at h
  obtain ⟨v,r,q,a,t⟩:=h
  subst q
  simp at e
  subst e
  exact ⟨v,rfl,a⟩
 | _::_,_,i+1,_,h,e=>by
  unfold DpAll at h
  obtain ⟨v,r,q,a,t⟩:=h
  subst q
  simp at e
  obtain ⟨u,h1,h2⟩:=DpAll.get t e
  exact ⟨u,by simpa using h1,h2⟩
theorem DpAll.of_get {K:W.Frag} {H:Hp} {ds:List PyData} {vs:List V} {i:Nat} {v:V} (h:DpAll K H ds vs) (e:vs[i]?=some v):∃ d,ds[i]?=some d /\ Dp K H d v:=by
 have hi:i < ds.length:=by rw [<- h.length];exact (yAI.mp e).1
 obtain ⟨u,h1,h2⟩:=h.get (yAC hi)
 rw [e] at h1
 cases h1
 exact ⟨_,yAC hi,h2⟩
theorem DpAll.append {K:W.Frag} {H:Hp}:∀ {ds es:List PyData} {vs us:List V},DpAll K H ds vs->DpAll K H es us->DpAll K H (ds++es) (vs++us)
 | [],_,_,_,h,k=>by unfold DpAll at h;subst h;exact k
 | _::_,_,_,_,h,k=>by
  unfold DpAll at h
  obtain ⟨v,r,q,a,t⟩:=h
  subst q
  exact (show DpAll K H (_::_) (_::_) by unfold DpAll;exact ⟨v,_,rfl,a,DpAll.append t k⟩)
theorem DpAll.nil {K:W.Frag} {H:Hp}:DpAll K H [] []:=by unfold DpAll;rfl
theorem DpAll.cons {K:W.Frag} {H:Hp} {d:PyData} {ds:List PyData} {v:V} {vs:List V} (a:Dp K H d v) (t:DpAll K H ds vs):DpAll K H (d::ds) (v::vs):=by unfold DpAll;exact ⟨v,vs,rfl,a,t⟩
theorem DpAll.snoc {K:W.Frag} {H:Hp} {d:PyData} {ds:List PyData} {v:V} {vs:List V} (t:DpAll K H ds vs) (a:Dp K H d v):DpAll K H (ds++[d]) (vs++[v]):=t.append (.cons a .nil)
theorem DpAll.two {K:W.Frag} {H:Hp} {d e:PyData} {v u:V} (a:Dp K H d v) (b:Dp K H e u):DpAll K H [d,e] [v,u]:=.cons a (.cons b .nil)
theorem dp_int {K:W.Frag} {H:Hp} (i:Int):Dp K H (.int i) (.int i):=by unfold Dp;rfl
theorem dp_str {K:W.Frag} {H:Hp} (i:Str):Dp K H (.str i) (.str i):=by unfold Dp;rfl
theorem dp_lst {K:W.Frag} {H:Hp} {a:Addr} {xs:List V} {ds:List PyData} (h:SqL K H a xs) (t:DpAll K H ds xs):Dp K H (.list ds) (.ref a):=by unfold Dp;exact ⟨a,xs,rfl,h,t⟩
theorem ZDv {K:W.Frag} {H:Hp} {a:Addr} {xs:List V} {ds:List PyData} (h:SqT K H a xs) (t:DpAll K H ds xs):Dp K H (.tuple ds) (.ref a):=by unfold Dp;exact ⟨a,xs,rfl,h,t⟩
theorem Dp.asT {K:W.Frag} {H:Hp} {v:V} {ds:List PyData} (h:Dp K H (.tuple ds) v):∃ a xs,v=.ref a /\ SqT K H a xs /\ DpAll K H ds xs:=by unfold Dp at h;exact h
theorem Dp.asI {K:W.Frag} {H:Hp} {v:V} {i:Int} (h:Dp K H (.int i) v):v=.int i:=by unfold Dp at h;exact h
theorem Dp.asS {K:W.Frag} {H:Hp} {v:V} {i:Str} (h:Dp K H (.str i) v):v=.str i:=by unfold Dp at h;exact h
section
variable {X:Cx} {pins:List (Addr×Obj)} {σ:St} {H:Hp} {s:Shared}
mutual
theorem Inv.reads (I:Inv X pins σ H s):∀ {d:PyData} {v:V} {u:Value},Dp X.K H d v->RelV v u->∃ as,Reads s.heap u d as
 | .none,_,_,h,r=>by unfold Dp at h;subst h;cases (show _=Value.none from r);exact ⟨_,.none⟩
 | .bool b,_,_,h,r=>by unfold Dp at h;subst h;cases (show _=Value.bool b from r);exact ⟨_,.bool b⟩
 | .int i,_,_,h,r=>by unfold Dp at h;subst h;obtain ⟨t,q⟩:=(show ∃ t,_=Value.int i t from r);subst q;exact ⟨_,.int i t⟩
 | .str x,_,_,h,r=>by unfold Dp at h;subst h;obtain ⟨t,q⟩:=(show ∃ t,_=Value.str x t from r);subst q;exact ⟨_,.str x t⟩
 | .list ds,_,_,h,r=>by
  unfold Dp at h
  obtain ⟨a,xs,q,sq,t⟩:=h
  subst q
  cases (show _=Value.ref a from r)
  obtain ⟨its,rv,pl,_⟩:=I.list sq
  obtain ⟨as,ra⟩:=Inv.readsAll I t rv
  obtain ⟨o,n,e1,e2,_,e3⟩:=pl
  exact ⟨_,.list e1 e2 e3 (by simpa using ra)⟩
 | .tuple ds,_,_,h,r=>by
  unfold Dp at h
  obtain ⟨a,xs,q,sq,t⟩:=h
  subst q
  cases (show _=Value.ref a from r)
  obtain ⟨its,rv,pl,_⟩:=I.tuple sq
  obtain ⟨as,ra⟩:=Inv.readsAll I t rv
  obtain ⟨o,e1,e2,n,e3⟩:=pl
  exact ⟨_,.tuple e1 e2 e3 (by simpa using ra)⟩
 | .dict _,_,_,h,_=>by unfold Dp at h;exact h.elim
theorem Inv.readsAll (I:Inv X pins σ H s):∀ {ds:List PyData} {vs:List V} {us:List Value},DpAll X.K H ds vs->Vals vs us->∃ as,ReadsAll s.heap us ds as
 | [],_,_,h,r=>by unfold DpAll at h;subst h;cases r;exact ⟨_,.nil⟩
 | _::_,_,_,h,r=>by
  unfold DpAll at h
  obtain ⟨v,q,e,a,t⟩:=h
  subst e
  cases r with
  | cons r1 r2=>
   obtain ⟨as,h1⟩:=Inv.reads I a r1
   obtain ⟨bs,h2⟩:=Inv.readsAll I t r2
   exact ⟨_,.cons h1 h2⟩
end
noncomputable def rNeD (K:W.Frag):R2:=fun x y H Q=>∃ d e,Dp K H d x /\ Dp K H e y /\ d.canLay0=true /\ e.canLay0=true /\ d.depth <= 64 /\ Q (.bl (!PyData.eqv d e)) H
theorem op_neD (hu:X.A.units+64 < cLine):OpR X (compareOp .NotEq) (rNeD X.K):=by
 intro pins s σ H x y v u Q I rx ry h
 obtain ⟨d,e,h1,h2,c1,c2,dp,q⟩:=h
 obtain ⟨as,ra⟩:=I.reads h1 rx
 obtain ⟨bs,rb⟩:=I.reads h2 ry
 exact SeqAt.compareNe_reads ra rb c1 c2 (by omega) ⟨.bl _,H,I,rfl,q⟩
end
section
variable {X:Cx} {x:Str} {pos:Pos}
theorem ZDN {y:Str} (hg:Gl X x) (h:∃ t,X.mg x=some (.str y t)) (hd:(x == ("__debug__":Str))=false:=by decide):PE X (.Name x pos) (tC (.str y)):=by
 obtain ⟨t,e⟩:=h
 exact pe_glob hg e ⟨t,rfl⟩ hd
theorem pe_gint {y:Int} (hg:Gl X x) (h:∃ t,X.mg x=some (.int y t)) (hd:(x == ("__debug__":Str))=false:=by decide):PE X (.Name x pos) (tC (.int y)):=by
 obtain ⟨t,e⟩:=h
 exact pe_glob hg e ⟨t,rfl⟩ hd
theorem ZDr {n:String} (hg:Gl X x) (hm:X.mg x=none) (hv:bootBuiltins x=some (.type n)) (hn:x≠"__name__":=by decide) (hd:(x == ("__debug__":Str))=false:=by decide):PE X (.Name x pos) (tC (.ty n)):=pe_bltn hg hm hv rfl hn hd
end
structure Fn (P:Program) (w:World) (K:W.Frag) (mg:Str->Option Value) (base:Heap) (CX:CXT) (x:Str) (k:Nat) (ps:List Str) (sp:Sp):Prop where
 ex:∃ f fd,FnOk P w K mg base CX k f fd ps sp /\ Binds K fd ps [] /\ W.keepIn K (.ref f)=true /\ mg x=some (.ref f)
structure Mt (P:Program) (w:World) (K:W.Frag) (mg:Str->Option Value) (base:Heap) (CX:CXT) (C:Addr) (m:Str) (k:Nat) (ps:List Str) (sp:Sp):Prop where
 cl:Cls K C
 ex:∃ f fd,FnOk P w K mg base CX k f fd ps sp /\ Binds K fd ps [] /\ Meth K C m f
structure Kl (P:Program) (w:World) (K:W.Frag) (mg:Str->Option Value) (base:Heap) (CX:CXT) (x:Str) (C:Addr) (k:Nat) (ps:List Str) (sp:Sp):Prop where
 mgC:mg x=some (.ref C)
 ex:∃ f fd,FnOk P w K mg base CX k f fd ps sp /\ Binds K fd ps [] /\ Mk K C f
section
variable {X:Cx} {CX:CXT} {k:Nat} {ps:List Str} {sp:Sp} {E:XK} {x m:Str} {C:Addr} {p pos apos:Pos} {e o:Expr} {es:List Expr} {ta:TE} {t:TA}
theorem ZBM (F:Fn X.prog X.w X.K X.mg X.base CX x k ps sp) (hr:Room k X.A) (hg:Gl X x) (hx:ZBy CX X E) (ha:PA X (e::es) t) (hdb:(x == ("__debug__":Str))=false:=by decide) (he:starEach (e::es) X.env=(false,eval e X.env)::starEach es X.env:=by rfl) (hpl:(backTo pos (starEach es X.env)).any (·.1)=false:=by rfl) :
  PE X (.Call (.Name x p) (e::es) [] pos) (ZDj sp [] E t):=by
 obtain ⟨f,fd,h1,h2,h3,h4⟩:=F.ex
 exact pe_call h1 hr hg h4 h3 h2 .nil hx ha hdb he hpl
theorem ZBZ {pl:Sem Bool} (F:Mt X.prog X.w X.K X.mg X.base CX C m k ps sp) (hr:Room k X.A) (hx:ZBy CX X E) (he:PE X o ta) (ha:PA X (e::es) t)
  (hst:starEach (e::es) X.env=(false,eval e X.env)::starEach es X.env:=by rfl) (hpl:(backTo pos (starEach es X.env)).any (·.1)=false:=by rfl)
  (ht:eval (.Call (.Attribute o m apos) (e::es) [] pos) X.env=(do
   let ov <- eval o X.env
   standAt apos.atName
   let (f,first) <- holding [ov] (getMethod ov m pl)
   callWith pos f first (backTo pos (starEach (e::es) X.env)) (backToKw pos (keywordEach [] X.env))):=by rfl) :
  PE X (.Call (.Attribute o m apos) (e::es) [] pos) (ZDY C m sp [] E ta t):=by
 obtain ⟨f,fd,h1,h2,h3⟩:=F.ex
 exact pe_meth he F.cl h3 h1 hr h2 .nil hx ha hst hpl ht
theorem ZBn {pl:Sem Bool} (F:Mt X.prog X.w X.K X.mg X.base CX C m k ps sp) (hr:Room k X.A) (hx:ZBy CX X E) (he:PE X o ta)
  (ht:eval (.Call (.Attribute o m apos) [] [] pos) X.env=(do
   let ov <- eval o X.env
   standAt apos.atName
   let (f,first) <- holding [ov] (getMethod ov m pl)
   callWith pos f first (backTo pos (starEach [] X.env)) (backToKw pos (keywordEach [] X.env))):=by rfl) :
  PE X (.Call (.Attribute o m apos) [] [] pos) (ZDY C m sp [] E ta tNil):=by
 obtain ⟨f,fd,h1,h2,h3⟩:=F.ex
 exact pe_meth0 he F.cl h3 h1 hr h2 .nil hx ht
theorem ZDE (F:Kl X.prog X.w X.K X.mg X.base CX x C k ps sp) (hr:Room (k+1) X.A) (hg:Gl X x) (hx:ZBy CX X E) (ha:PA X (e::es) t) (hdb:(x == ("__debug__":Str))=false:=by decide) (he:starEach (e::es) X.env=(false,eval e X.env)::starEach es X.env:=by rfl) (hpl:(backTo pos (starEach es X.env)).any (·.1)=false:=by rfl) :
  PE X (.Call (.Name x p) (e::es) [] pos) (ZDw C sp [] E t):=by
 obtain ⟨f,fd,h1,h2,h3⟩:=F.ex
 exact pe_make h3 h1 hr hg F.mgC h2 .nil hx ha hdb he hpl
end
noncomputable def ZDc:V->Bool
 | .ty _=>true
 | .ref _=>true
 | _=>false
noncomputable def cval:V->Value
 | .ty n=>.type n
 | .ref a=>.ref a
 | _=>.none
section
variable {X:Cx}
theorem ZCF:ZDA X (.builtin "isinstance") (fun xs H Q=>∃ x c ty b,xs=[x,c] /\ ZDc c=true /\ TyOf X.K H x ty /\ PySem.W.kitOne X.K ty (cval c)=some b /\ Q (.bl b) H):=by
 intro pins s σ H xs us Q I r h
 obtain ⟨x,c,ty,b,rfl,hc,hty,e,q⟩:=h
 obtain ⟨u,w',rfl,r1,r2⟩:=vals2 r
 have e2:w'=cval c:=by
  cases c <;> first | (cases hc;done) | exact r2
 subst e2
 exact isinst_ok I r1 hty e fun tk=>⟨.bl b,H,I.tok tk,rfl,q⟩
end
theorem ZAe {v:V} {σ:St} {H:Hp} {Q:VK}:tVar 0 (some v::σ) H Q=Q v H:=by
 apply propext;unfold tVar;simp
theorem ZAn {i:Nat} {a:Option V} {σ:St} {H:Hp} {Q:VK}:tVar (i+1) (a::σ) H Q=tVar i σ H Q:=by
 apply propext;unfold tVar;simp
theorem rI0_int {g:Int->Int->V} {i j:Int} {H:Hp} {Q:VK}:rI0 g (.int i) (.int j) H Q=Q (g i j) H:=by
 apply propext;unfold rI0;simp
theorem rI_int {C:Int->Int->Prop} {g:Int->Int->V} {i j:Int} {H:Hp} {Q:VK}:rI C g (.int i) (.int j) H Q=(C i j /\ Q (g i j) H):=by
 apply propext;unfold rI;simp
theorem rU_int {g:Int->V} {i:Int} {H:Hp} {Q:VK}:rU g (.int i) H Q=Q (g i) H:=by
 apply propext;unfold rU;simp
theorem rEq_int {i j:Int} {H:Hp} {Q:VK}:rEq (.int i) (.int j) H Q=Q (.bl (decide (i=j))) H:=by
 exact propext ⟨fun h=>by simpa using h.2,fun h=>⟨rfl,by simpa using h⟩⟩
theorem rNe_int {i j:Int} {H:Hp} {Q:VK}:rNe (.int i) (.int j) H Q=Q (.bl (!decide (i=j))) H:=by
 exact propext ⟨fun h=>by simpa using h.2,fun h=>⟨rfl,by simpa using h⟩⟩
theorem rEq_bl {i j:Bool} {H:Hp} {Q:VK}:rEq (.bl i) (.bl j) H Q=Q (.bl (decide (i=j))) H:=by
 exact propext ⟨fun h=>by simpa using h.2,fun h=>⟨rfl,by simpa using h⟩⟩
theorem rNe_bl {i j:Bool} {H:Hp} {Q:VK}:rNe (.bl i) (.bl j) H Q=Q (.bl (!decide (i=j))) H:=by
 exact propext ⟨fun h=>by simpa using h.2,fun h=>⟨rfl,by simpa using h⟩⟩
theorem rEq_str {i j:Str} {H:Hp} {Q:VK}:rEq (.str i) (.str j) H Q=Q (.bl (decide (i=j))) H:=by
 exact propext ⟨fun h=>by simpa using h.2,fun h=>⟨rfl,by simpa using h⟩⟩
theorem rNe_str {i j:Str} {H:Hp} {Q:VK}:rNe (.str i) (.str j) H Q=Q (.bl (!decide (i=j))) H:=by
 exact propext ⟨fun h=>by simpa using h.2,fun h=>⟨rfl,by simpa using h⟩⟩
theorem ex_bl {c:Bool} {Q:Bool->Prop}:(∃ k,V.bl c=V.bl k /\ Q k)=Q c:=by
 apply propext;simp
theorem ex_int {c:Int} {Q:Int->Prop}:(∃ k,V.int c=V.int k /\ Q k)=Q c:=by
 apply propext;simp
theorem ZA0 {n:Nat} (h:n <= 1000):n <= sizeLine:=Nat.le_of_lt (ZCh h)
theorem ZAK {H:Hp} {p:Addr} (h:H p=none) (o:HO):Same H (upd H p o):=fun b u q=>by rw [ZAJ (ZAX q h)];exact q
theorem ZCZ {H:Hp} {p a:Addr} {o u:HO} (h:H p=none) (e:H a=some u):upd H p o a=some u:=by rw [ZAJ (ZAX e h)];exact e
noncomputable def getF (K:W.Frag) (f:Str) (x:V) (H:Hp) (Q:VK):Prop:=∃ a C dx fs v,x=.ref a /\ H a=some (.ins C dx fs) /\ Cls K C /\ NoAttr K C f /\ fs.lookup f=some v /\ Q v H
theorem tFld_eq {K:W.Frag} {ta:TE} {f:Str} {σ:St} {H:Hp} {Q:VK}:tFld K ta f σ H Q=ta σ H (fun x H1=>getF K f x H1 Q):=rfl
theorem ZDR {K:W.Frag} {f:Str} {a C dx:Addr} {fs:List (Str×V)} {v:V} {H:Hp} {Q:VK} (h:H a=some (.ins C dx fs)) (cl:Cls K C) (n:NoAttr K C f) (l:fs.lookup f=some v) (q:Q v H):getF K f (.ref a) H Q:=⟨a,C,dx,fs,v,rfl,h,cl,n,l,q⟩
noncomputable def setF (K:W.Frag) (f:Str) (x y:V) (H:Hp) (Q:Hp->Prop):Prop:=∃ a C dx fs,x=.ref a /\ H a=some (.ins C dx fs) /\ Cls K C /\ NoAttr K C f /\ fs.length < 1000 /\ Q (upd H a (.ins C dx (putF f y fs)))
theorem sFld_eq {K:W.Frag} {ta tv:TE} {f:Str} {D:Ends} {σ:St} {H:Hp}:sFld K ta tv f D σ H=tv σ H (fun y H1=>ta σ H1 fun x H2=>setF K f x y H2 (D.nx σ)):=rfl
theorem setF_of {K:W.Frag} {f:Str} {a C dx:Addr} {fs:List (Str×V)} {y:V} {H:Hp} {Q:Hp->Prop} (h:H a=some (.ins C dx fs)) (cl:Cls K C) (n:NoAttr K C f) (l:fs.length < 1000) (q:Q (upd H a (.ins C dx (putF f y fs)))):setF K f (.ref a) y H Q:=⟨a,C,dx,fs,rfl,h,cl,n,l,q⟩
theorem ZBc {K:W.Frag} {p:Addr} {xs:List V} {i:Int} {v:V} {H:Hp} {Q:VK} (h:SqL K H p xs) (e:atI xs i=some v) (q:Q v H):rIxL K (.ref p) (.int i) H Q:=⟨p,xs,i,v,rfl,rfl,h,e,q⟩
theorem ZAH {K:W.Frag} {p:Addr} {xs:List V} {i:Int} {v:V} {H:Hp} {Q:VK} (h:SqT K H p xs) (e:atI xs i=some v) (q:Q v H):rIxT K (.ref p) (.int i) H Q:=⟨p,xs,i,v,rfl,rfl,h,e,q⟩
theorem ZAI {α:Type} {xs:List α} {i:Int} {v:α} (h0:0 <= i) (h:xs[i.toNat]?=some v):atI xs i=some v:=by
 have q:=atI_nat h
 rwa [Int.toNat_of_nonneg h0] at q
theorem ZA3 {xs:List Int} {i:Int} {v:Int} (h0:0 <= i) (h:xs[i.toNat]?=some v):atI (xs.map V.int) i=some (.int v):=ZAI h0 (by rw [yAU,h];rfl)
noncomputable def Nxt (P:Nat->List V->St->Hp->Prop) (n i:Nat) (ys:List V) (σ:St) (H:Hp):Prop:=∃ m',m' < n-i /\ m'=n-(i+1) /\ i+1 <= n /\ P (i+1) ys σ H
theorem Nxt.of {P:Nat->List V->St->Hp->Prop} {n i:Nat} {ys:List V} {σ:St} {H:Hp} (h:i < n) (p:P (i+1) ys σ H):Nxt P n i ys σ H:=⟨n-(i+1),by omega,rfl,h,p⟩
theorem comp_list {K:W.Frag} {a:Addr} {xs:List V} {g:TG} {tt:TT} {te:TE} {Q:VK} {σ0:St} {H:Hp} (P:Nat->List V->St->Hp->Prop) (h0:P 0 [] σ0 H) (hl:∀ i ys σ H,i <= xs.length->P i ys σ H->SqL K H a xs /\ ys.length <= i) (hz:xs.length <= sizeLine)
  (hs:∀ i ys x σ H,i < xs.length->xs[i]?=some x->P i ys σ H->g x σ H fun σ2 H2=>tt σ2 H2 fun b H3=>if b=true then te σ2 H3 fun y H4=>Nxt P xs.length i (ys++[y]) σ2 H4 else Nxt P xs.length i ys σ2 H3)
  (hd:∀ ys σ H,P xs.length ys σ H->∀ p,H p=none->Q (.ref p) (upd H p (.lst ys))) :
  ∃ W:Nat->Nat->List V->St->Hp->Prop,(∃ m,W 0 m [] σ0 H) /\ ∀ i m ys σ H,W i m ys σ H ->
   ((Itl K a).stop i H /\ ys.length <= sizeLine /\ ∀ p,H p=none->Q (.ref p) (upd H p (.lst ys))) ∨
   ((Itl K a).go i H /\ ys.length < sizeLine /\ ∀ x H',(Itl K a).yld i H x H'->g x σ H' fun σ2 H2=>tt σ2 H2 fun b H3=>if b=true then te σ2 H3 fun y H4=>∃ m',m' < m /\ W (i+1) m' (ys++[y]) σ2 H4 else ∃ m',m' < m /\ W (i+1) m' ys σ2 H3):=by
 refine ⟨fun i m ys σ H=>m=xs.length-i /\ i <= xs.length /\ P i ys σ H,⟨xs.length,by simp,yAY _,h0⟩,?_⟩
 rintro i m ys σ H ⟨rfl,hi,p⟩
 obtain ⟨q,ly⟩:=hl i ys σ H hi p
 by_cases hlt:i < xs.length
 .refine .inr ⟨⟨xs,xs[i],q,by simp [hlt]⟩,by omega,fun x H' y=>?_⟩
  obtain ⟨e,y⟩:=y
  subst e
  exact hs i ys x σ _ hlt (y xs q) p
 .have e:i=xs.length:=by omega
  subst e
  exact .inl ⟨⟨xs,q,yAA _⟩,by omega,hd ys σ H p⟩
theorem comp_range {lo:Int} {n:Nat} {g:TG} {tt:TT} {te:TE} {Q:VK} {σ0:St} {H:Hp} (P:Nat->List V->St->Hp->Prop) (h0:P 0 [] σ0 H) (hl:∀ i ys σ H,P i ys σ H->ys.length <= i) (hz:n <= sizeLine)
  (hs:∀ i ys σ H,i < n->P i ys σ H->g (.int (lo+i)) σ H fun σ2 H2=>tt σ2 H2 fun b H3=>if b=true then te σ2 H3 fun y H4=>Nxt P n i (ys++[y]) σ2 H4 else Nxt P n i ys σ2 H3)
  (hd:∀ ys σ H,P n ys σ H->∀ p,H p=none->Q (.ref p) (upd H p (.lst ys))) :
  ∃ W:Nat->Nat->List V->St->Hp->Prop,(∃ m,W 0 m [] σ0 H) /\ ∀ i m ys σ H,W i m ys σ H ->
   ((Itr lo n).stop i H /\ ys.length <= sizeLine /\ ∀ p,H p=none->Q (.ref p) (upd H p (.lst ys))) ∨
   ((Itr lo n).go i H /\ ys.length < sizeLine /\ ∀ x H',(Itr lo n).yld i H x H'->g x σ H' fun σ2 H2=>tt σ2 H2 fun b H3=>if b=true then te σ2 H3 fun y H4=>∃ m',m' < m /\ W (i+1) m' (ys++[y]) σ2 H4 else ∃ m',m' < m /\ W (i+1) m' ys σ2 H3):=by
 refine ⟨fun i m ys σ H=>m=n-i /\ i <= n /\ P i ys σ H,⟨n,by simp,yAY _,h0⟩,?_⟩
 rintro i m ys σ H ⟨rfl,hi,p⟩
 have ly:=hl i ys σ H p
 by_cases hlt:i < n
 .refine .inr ⟨hlt,by omega,fun x H' y=>?_⟩
  obtain ⟨e,y⟩:=y
  subst e y
  exact hs i ys σ _ hlt p
 .have e:i=n:=by omega
  subst e
  exact .inl ⟨yAA _,by omega,hd ys σ H p⟩
theorem Same.upd {H H':Hp} {p:Addr} {o:HO} (e:Same H H') (h:H p=none):Same H (upd H' p o):=fun b u q=>by rw [ZAJ (ZAX q h)];exact e b u q
theorem Same.new {H H':Hp} {p:Addr} {o:HO} (e:Same H H') (h:H' p=none):Same H (L2.upd H' p o):=e.upd (e.free h)
theorem kit_same {K:W.Frag} {t:Value} (h:(t == t)=true):PySem.W.kitOne K t t=some true:=by unfold PySem.W.kitOne;rw [if_pos h]
theorem cutV_ints (ns:List Int) (lo hi:Option Int):cutV (ns.map V.int) lo hi=(((ns.drop (HT.sIx ns.length 0 lo)).take (HT.sIx ns.length ns.length hi-HT.sIx ns.length 0 lo)).map V.int):=by
 unfold cutV
 rw [yAB,List.map_take,List.map_drop]
theorem get_ints {ns:List Int} {i:Nat} {x:V} (h:(ns.map V.int)[i]?=some x):∃ n,ns[i]?=some n /\ x=.int n:=by
 rw [yAU] at h
 cases e:ns[i]? with
 | none=>rw [e] at h;cases h
 | some n=>rw [e] at h;exact ⟨n,rfl,(Option.some.inj h).symm⟩
theorem ZDC {K:W.Frag} {a:Addr} {xs:List V} {lo hi:Option Int} {H:Hp} {Q:VK} (h:SqL K H a xs) (q:∀ p,H p=none->Q (.ref p) (upd H p (.lst (cutV xs lo hi)))):rSlL K (.ref a) lo hi H Q:=⟨a,xs,rfl,h,q⟩
noncomputable def forL (K:W.Frag) (g:TG) (tb:TS) (D:Ends) (σ:St) (x:V) (H1:Hp):Prop:=∃ a,x=.ref a /\ (∃ xs,SqL K H1 a xs) /\ ∃ W:Nat->Nat->St->Hp->Prop,(∃ m,W 0 m σ H1) /\ ∀ i m σ H,W i m σ H ->
 ((Itl K a).stop i H /\ D.nx σ H)∨((Itl K a).go i H /\ ∃ N:St->Hp->Prop,(∀ σ' H',N σ' H'->∃ m',m' < m /\ W (i+1) m' σ' H') /\ ∀ x H',(Itl K a).yld i H x H'->g x σ H' fun σ2 H2=>tb { D with nx:=N,ct:=N,bk:=D.nx } σ2 H2)
theorem tForL_eq {K:W.Frag} {tl:TE} {g:TG} {tb:TS} {D:Ends} {σ:St} {H:Hp}:tFor (ZD1 K tl) g tb D σ H=tl σ H (fun x H1=>forL K g tb D σ x H1):=rfl
theorem ZCE {K:W.Frag} {g:TG} {tb:TS} {D:Ends} {σ:St} {H:Hp} {a:Addr} {xs:List V} (h:SqL K H a xs) (Pv:Nat->St->Hp->Prop) (h0:Pv 0 σ H) (hl:∀ i σ H,i <= xs.length->Pv i σ H->SqL K H a xs)
  (hs:∀ i x σ H,xs[i]?=some x->Pv i σ H->g x σ H fun σ2 H2=>tb { D with nx:=Pv (i+1),ct:=Pv (i+1),bk:=D.nx } σ2 H2) (hd:∀ σ H,Pv xs.length σ H->D.nx σ H):forL K g tb D σ (.ref a) H :=
 ⟨a,rfl,⟨xs,h⟩,for_list Pv h0 hl hs hd⟩
noncomputable def forR (lo:Int) (g:TG) (tb:TS) (D:Ends) (σ:St) (n:Nat) (H1:Hp):Prop:=∃ W:Nat->Nat->St->Hp->Prop,(∃ m,W 0 m σ H1) /\ ∀ i m σ H,W i m σ H ->
 ((Itr lo n).stop i H /\ D.nx σ H)∨((Itr lo n).go i H /\ ∃ N:St->Hp->Prop,(∀ σ' H',N σ' H'->∃ m',m' < m /\ W (i+1) m' σ' H') /\ ∀ x H',(Itr lo n).yld i H x H'->g x σ H' fun σ2 H2=>tb { D with nx:=N,ct:=N,bk:=D.nx } σ2 H2)
noncomputable def forR1 (g:TG) (tb:TS) (D:Ends) (σ:St) (x:V) (H1:Hp):Prop:=∃ j:Int,[x]=[.int j] /\ -(2 ^ 62) <= j /\ j < 2 ^ 62 /\ forR 0 g tb D σ j.toNat H1
noncomputable def forR2 (g:TG) (tb:TS) (D:Ends) (σ:St) (x y:V) (H1:Hp):Prop:=∃ i j:Int,[x,y]=[.int i,.int j] /\ (-(2 ^ 62) <= i /\ i < 2 ^ 62 /\ -(2 ^ 62) <= j /\ j < 2 ^ 62) /\ forR i g tb D σ (j-i).toNat H1
theorem tForR1_eq {t:TE} {g:TG} {tb:TS} {D:Ends} {σ:St} {H:Hp}:tFor (ZEA (ZBY t tNil)) g tb D σ H=t σ H (fun x H1=>forR1 g tb D σ x H1):=rfl
theorem tForR2_eq {t u:TE} {g:TG} {tb:TS} {D:Ends} {σ:St} {H:Hp}:tFor (iRng2 (ZBY t (ZBY u tNil))) g tb D σ H=t σ H (fun x H1=>u σ H1 fun y H2=>forR2 g tb D σ x y H2):=rfl
theorem ZDS {lo:Int} {n:Nat} {g:TG} {tb:TS} {D:Ends} {σ:St} {H:Hp} (Pv:Nat->St->Hp->Prop) (h0:Pv 0 σ H)
  (hs:∀ i σ H,i < n->Pv i σ H->g (.int (lo+i)) σ H fun σ2 H2=>tb { D with nx:=Pv (i+1),ct:=Pv (i+1),bk:=D.nx } σ2 H2) (hd:∀ σ H,Pv n σ H->D.nx σ H):forR lo g tb D σ n H:=for_range Pv h0 hs hd
theorem ZC8 {j:Int} {g:TG} {tb:TS} {D:Ends} {σ:St} {H:Hp} (h:-1000 <= j /\ j <= 1000) (q:forR 0 g tb D σ j.toNat H):forR1 g tb D σ (.int j) H:=⟨j,rfl,by omega,by omega,q⟩
noncomputable def ZEC (K:W.Frag) (g:TG) (tt:TT) (te:TE) (σ0:St) (Q:VK) (x:V) (H1:Hp):Prop:=∃ a,x=.ref a /\ (∃ xs,SqL K H1 a xs) /\ ∃ W:Nat->Nat->List V->St->Hp->Prop,(∃ m,W 0 m [] σ0 H1) /\ ∀ i m ys σ H,W i m ys σ H ->
 ((Itl K a).stop i H /\ ys.length <= sizeLine /\ ∀ p,H p=none->Q (.ref p) (upd H p (.lst ys))) ∨
 ((Itl K a).go i H /\ ys.length < sizeLine /\ ∀ x H',(Itl K a).yld i H x H'->g x σ H' fun σ2 H2=>tt σ2 H2 fun b H3=>if b=true then te σ2 H3 fun y H4=>∃ m',m' < m /\ W (i+1) m' (ys++[y]) σ2 H4 else ∃ m',m' < m /\ W (i+1) m' ys σ2 H3)
theorem tCompL_eq {k:Nat} {js:List Nat} {K:W.Frag} {tl:TE} {g:TG} {tt:TT} {te:TE} {σ:St} {H:Hp} {Q:VK}:ZCy k js (ZD1 K tl) g tt te σ H Q=tl σ H (fun x H1=>ZEC K g tt te (up k js σ) Q x H1):=rfl
theorem ZA2 {K:W.Frag} {a:Addr} {xs:List V} {g:TG} {tt:TT} {te:TE} {Q:VK} {σ0:St} {H:Hp} (h:SqL K H a xs) (hz:xs.length <= 1000) (P:Nat->List V->St->Hp->Prop) (h0:P 0 [] σ0 H) (hl:∀ i ys σ H,i <= xs.length->P i ys σ H->SqL K H a xs /\ ys.length <= i)
  (hs:∀ i ys x σ H,i < xs.length->xs[i]?=some x->P i ys σ H->g x σ H fun σ2 H2=>tt σ2 H2 fun b H3=>if b=true then te σ2 H3 fun y H4=>Nxt P xs.length i (ys++[y]) σ2 H4 else Nxt P xs.length i ys σ2 H3)
  (hd:∀ ys σ H,P xs.length ys σ H->∀ p,H p=none->Q (.ref p) (upd H p (.lst ys))):ZEC K g tt te σ0 Q (.ref a) H:=⟨a,rfl,⟨xs,h⟩,comp_list P h0 hl (ZA0 hz) hs hd⟩
noncomputable def compR (lo:Int) (g:TG) (tt:TT) (te:TE) (σ0:St) (Q:VK) (n:Nat) (H1:Hp):Prop:=∃ W:Nat->Nat->List V->St->Hp->Prop,(∃ m,W 0 m [] σ0 H1) /\ ∀ i m ys σ H,W i m ys σ H ->
 ((Itr lo n).stop i H /\ ys.length <= sizeLine /\ ∀ p,H p=none->Q (.ref p) (upd H p (.lst ys))) ∨
 ((Itr lo n).go i H /\ ys.length < sizeLine /\ ∀ x H',(Itr lo n).yld i H x H'->g x σ H' fun σ2 H2=>tt σ2 H2 fun b H3=>if b=true then te σ2 H3 fun y H4=>∃ m',m' < m /\ W (i+1) m' (ys++[y]) σ2 H4 else ∃ m',m' < m /\ W (i+1) m' ys σ2 H3)
noncomputable def compR1 (g:TG) (tt:TT) (te:TE) (σ0:St) (Q:VK) (x:V) (H1:Hp):Prop:=∃ j:Int,[x]=[.int j] /\ -(2 ^ 62) <= j /\ j < 2 ^ 62 /\ compR 0 g tt te σ0 Q j.toNat H1
theorem tCompR1_eq {k:Nat} {js:List Nat} {t:TE} {g:TG} {tt:TT} {te:TE} {σ:St} {H:Hp} {Q:VK}:ZCy k js (ZEA (ZBY t tNil)) g tt te σ H Q=t σ H (fun x H1=>compR1 g tt te (up k js σ) Q x H1):=rfl
theorem compR1_of {j:Int} {g:TG} {tt:TT} {te:TE} {Q:VK} {σ0:St} {H:Hp} (h:-1000 <= j /\ j <= 1000) (P:Nat->List V->St->Hp->Prop) (h0:P 0 [] σ0 H) (hl:∀ i ys σ H,P i ys σ H->ys.length <= i)
  (hs:∀ i ys σ H,i < j.toNat->P i ys σ H->g (.int (0+i)) σ H fun σ2 H2=>tt σ2 H2 fun b H3=>if b=true then te σ2 H3 fun y H4=>Nxt P j.toNat i (ys++[y]) σ2 H4 else Nxt P j.toNat i ys σ2 H3)
  (hd:∀ ys σ H,P j.toNat ys σ H->∀ p,H p=none->Q (.ref p) (upd H p (.lst ys))):compR1 g tt te σ0 Q (.int j) H:=⟨j,rfl,by omega,by omega,comp_range P h0 hl (ZA0 (by omega)) hs hd⟩
section
variable {X:Cx}
end
theorem gCons_eq {t:TG} {u:TGs} {v:V} {r:List V} {σ:St} {H:Hp} {Q:St->Hp->Prop}:ZEB t u (v::r) σ H Q=t v σ H (fun σ' H'=>u r σ' H' Q):=by
 apply propext;unfold ZEB;constructor
 .rintro ⟨v',r',e,q⟩;cases e;exact q
 .exact fun q=>⟨v,r,rfl,q⟩
theorem gNil_eq {σ:St} {H:Hp} {Q:St->Hp->Prop}:gNil [] σ H Q=Q σ H:=by
 apply propext;unfold gNil;simp
theorem ZCD {K:W.Frag} {n:Nat} {t:TGs} {a:Addr} {xs:List V} {σ:St} {H:Hp} {Q:St->Hp->Prop} (h:SqT K H a xs) (l:xs.length=n) (q:t xs σ H Q):gTup K n t (.ref a) σ H Q:=⟨a,xs,rfl,h,l,q⟩
section
variable {X:Cx} {tg l e o:Expr} {es:List Expr} {tl te to:TE} {t:TA} {pos apos cpos:Pos} {f:Str}
theorem ix_listK (K:W.Frag) (h:X.K=K:=by rfl):IxR X (rIxL K):=h ▸ ZBE
theorem sl_listK (K:W.Frag) (h:X.K=K:=by rfl):SlR X (rSlL K):=h ▸ ZCi
theorem pi_listK (K:W.Frag) (hl:PE X l tl) (h:X.K=K:=by rfl):PI X tg l (ZD1 K tl):=h ▸ ZAl hl
theorem call_list_ofK (K:W.Frag) (h:X.K=K:=by rfl):ZDA X (.type "list") (fun xs H Q=>∃ p ys,xs=[.ref p] /\ (SqL K H p ys∨SqT K H p ys) /\ ∀ l,H l=none->Q (.ref l) (upd H l (.lst ys))):=h ▸ ZBJ
theorem call_tuple_ofK (K:W.Frag) (h:X.K=K:=by rfl):ZDA X (.type "tuple") (fun xs H Q=>∃ p ys,xs=[.ref p] /\ ((SqL K H p ys /\ ∀ l,H l=none->Q (.ref l) (upd H l (.tup ys)))∨(SqT K H p ys /\ Q (.ref p) H))):=h ▸ call_tuple_of
theorem pg_tupK (K:W.Frag) {k:Nat} {tgs:TGs} {n:Nat} (hc:X.calm=true) (hg:PGs X es tgs)
  (hn:(assignEach es X.env).length=n:=by rfl) (hst:(assignEach es X.env).findIdx? (·.1)=none:=by rfl) (h:X.K=K:=by rfl):PG X (.Tuple es k pos) (gTup K n tgs):=h ▸ ZCt hc hg hn hst
end
section
variable {X:Cx}
theorem tAug_eq {i:Nat} {te:TE} {ti:TIp} {D:Ends} {σ:St} {H:Hp}:tAug i te ti D σ H=tVar i σ H (fun x H0=>te σ H0 fun y H1=>ti x y H1 fun z H2=>D.nx (σ.set i (some z)) H2):=rfl
theorem ipI_int {f:Int->Int->Int} {i j:Int} {H:Hp} {Q:VK}:ipI f (.int i) (.int j) H Q=Q (.int (f i j)) H:=by
 refine propext ⟨?_,fun q=>⟨i,j,rfl,rfl,q⟩⟩
 rintro ⟨a,b,e1,e2,q⟩
 cases e1;cases e2;exact q
theorem cx_K {CX:CXT} {P:Program} {w:World} {K:W.Frag} {mg:Str->Option Value} {base:Heap} {N:List Str} {qual:Str} {scope:Scope} {f:Addr} {cd:Value} {A:Around} {outer:List Env} {s:Shared} {H:Hp} {E:XK}:(cxOf CX P w K mg base N qual scope f cd A outer s H E).K=K:=rfl
end
structure Enc {α:Type} [DecidableEq α] (e:α->PyData) (n:Nat):Prop where
 eq:∀ a b,PyData.eqv (e a) (e b)=decide (a=b)
 lay:∀ a,(e a).canLay0=true
 dep:∀ a,(e a).depth <= n
theorem Enc.bl:Enc PyData.bool 0:=⟨fun a b=>by unfold PyData.eqv;rw [Bool.eq_iff_iff];simp,fun a=>by unfold PyData.canLay0;rfl,fun a=>by unfold PyData.depth;exact yAA _⟩
section
variable {α β γ:Type} [DecidableEq α] [DecidableEq β] [DecidableEq γ] {e:α->PyData} {f:β->PyData} {g:γ->PyData} {n m k:Nat}
theorem Enc.all (h:Enc e n):∀ xs ys:List α,PyData.eqvAll (xs.map e) (ys.map e)=decide (xs=ys)
 | [],[]=>by simp [PyData.eqvAll]
 | x::xs,[]=>by simp [PyData.eqvAll]
 | [],y::ys=>by simp [PyData.eqvAll]
 | x::xs,y::ys=>by
  rw [yAR,yAR]
  unfold PyData.eqvAll
  rw [h.eq,h.all xs ys,<- Bool.decide_and]
  exact decide_eq_decide.mpr (by rw [List.cons.injEq])
theorem Enc.layAll (h:Enc e n):∀ xs:List α,PyData.canLayAll0 (xs.map e)=true
 | []=>by simp [PyData.canLayAll0]
 | x::xs=>by rw [yAR];unfold PyData.canLayAll0;rw [h.lay,h.layAll xs];rfl
theorem Enc.depAll (h:Enc e n):∀ xs:List α,PyData.depthAll (xs.map e) <= n
 | []=>by simp [PyData.depthAll]
 | x::xs=>by
  rw [yAR];unfold PyData.depthAll
  have a:=h.dep x
  have b:=h.depAll xs
  omega
theorem Enc.list (h:Enc e n):Enc (fun xs:List α=>PyData.list (xs.map e)) (n+1) :=
 ⟨fun a b=>by unfold PyData.eqv;exact h.all a b,fun a=>by unfold PyData.canLay0;exact h.layAll a,fun a=>by unfold PyData.depth;have:=h.depAll a;omega⟩
theorem neD_of {K:W.Frag} {H:Hp} {x y:V} {a b:α} {Q:VK} (h:Enc e n) (hn:n <= 64) (dx:Dp K H (e a) x) (dy:Dp K H (e b) y) (q:Q (.bl (!decide (a=b))) H):rNeD K x y H Q :=
 ⟨_,_,dx,dy,h.lay a,h.lay b,yAD (h.dep a) hn,by rw [h.eq];exact q⟩
end
section
variable {K:W.Frag} {H:Hp} {R:Bool->Prop}
theorem ZDP {x c:V} {ty:Value} {b:Bool} (hc:ZDc c=true) (t:TyOf K H x ty) (k:PySem.W.kitOne K ty (cval c)=some b) (q:R b):∃ x' c' ty b,[x,c]=[x',c'] /\ ZDc c'=true /\ TyOf K H x' ty /\ PySem.W.kitOne K ty (cval c')=some b /\ R b:=⟨x,c,ty,b,rfl,hc,t,k,q⟩
theorem inst_int {i:Int} (q:R true):∃ x' c' ty b,[V.int i,V.ty "int"]=[x',c'] /\ ZDc c'=true /\ TyOf K H x' ty /\ PySem.W.kitOne K ty (cval c')=some b /\ R b:=ZDP rfl (.int i) (kit_same rfl) q
theorem inst_bl {i:Bool} (q:R true):∃ x' c' ty b,[V.bl i,V.ty "bool"]=[x',c'] /\ ZDc c'=true /\ TyOf K H x' ty /\ PySem.W.kitOne K ty (cval c')=some b /\ R b:=ZDP rfl (.bl i) (kit_same rfl) q
theorem inst_int_bl {i:Int} (k:PySem.W.kitOne K (.type "int") (.type "bool")=some false) (q:R false):∃ x' c' ty b,[V.int i,V.ty "bool"]=[x',c'] /\ ZDc c'=true /\ TyOf K H x' ty /\ PySem.W.kitOne K ty (cval c')=some b /\ R b:=ZDP rfl (.int i) k q
end
section
variable {P:Program} {w:World} {K:W.Frag} {mg:Str->Option Value} {base:Heap}
end
section
variable {X:Cx} {CX:CXT} {k:Nat} {ps:List Str} {sp:Sp} {dvs:List V} {E:XK} {x m:Str} {C:Addr} {p pos apos:Pos} {e o:Expr} {es:List Expr} {ta:TE} {t:TA}
end
section
variable {X:Cx}
end
theorem Same.get {H H':Hp} {b:Addr} {o:HO} (s:Same H H') (h:H b=some o):H' b=some o:=s b o h
theorem newH {H:Hp} {p:Addr} (h:H p=none) (o:HO):∃ H',upd H p o=H' /\ Same H H' /\ H' p=some o:=⟨_,rfl,ZAK h o,ZAC⟩
section
variable {K:W.Frag} {a:Addr} {xs:List V} {te:TE} {Q:VK} {σ0 rest:St} {H:Hp}
end
section
variable {X:Cx} {pins:List (Addr×Obj)} {σ:St} {H:Hp} {s:Shared}
end
noncomputable def Ite (K:W.Frag) (a:Addr):It :=
 ⟨fun i H=>∃ xs x,SqL K H a xs /\ xs[i]?=some x,fun i H v H'=>∃ p x,H p=none /\ (∀ xs,SqL K H a xs->xs[i]?=some x) /\ H'=upd H p (.tup [.int i,x]) /\ v=.ref p,fun i H=>∃ xs,SqL K H a xs /\ xs.length <= i⟩
section
variable {X:Cx}
noncomputable def iEnum (K:W.Frag) (ta:TA):TI:=fun σ H R=>ta σ H fun vs H1=>∃ a,vs=[.ref a] /\ (∃ xs,SqL K H1 a xs) /\ R (Ite K a) H1
end
section
variable {K:W.Frag} {a:Addr} {xs:List V} {g:TG} {tb:TS} {D:Ends} {σ:St} {H:Hp}
noncomputable def forE (K:W.Frag) (g:TG) (tb:TS) (D:Ends) (σ:St) (x:V) (H1:Hp):Prop:=∃ a,[x]=[.ref a] /\ (∃ xs,SqL K H1 a xs) /\ ∃ W:Nat->Nat->St->Hp->Prop,(∃ m,W 0 m σ H1) /\ ∀ i m σ H,W i m σ H ->
 ((Ite K a).stop i H /\ D.nx σ H)∨((Ite K a).go i H /\ ∃ N:St->Hp->Prop,(∀ σ' H',N σ' H'->∃ m',m' < m /\ W (i+1) m' σ' H') /\ ∀ x H',(Ite K a).yld i H x H'->g x σ H' fun σ2 H2=>tb { D with nx:=N,ct:=N,bk:=D.nx } σ2 H2)
theorem tForE_eq {t:TE}:tFor (iEnum K (ZBY t tNil)) g tb D σ H=t σ H (fun x H1=>forE K g tb D σ x H1):=rfl
variable {tt:TT} {te:TE} {Q:VK} {σ0:St}
noncomputable def compE (K:W.Frag) (g:TG) (tt:TT) (te:TE) (σ0:St) (Q:VK) (x:V) (H1:Hp):Prop:=∃ a,[x]=[.ref a] /\ (∃ xs,SqL K H1 a xs) /\ ∃ W:Nat->Nat->List V->St->Hp->Prop,(∃ m,W 0 m [] σ0 H1) /\ ∀ i m ys σ H,W i m ys σ H ->
 ((Ite K a).stop i H /\ ys.length <= sizeLine /\ ∀ p,H p=none->Q (.ref p) (upd H p (.lst ys))) ∨
 ((Ite K a).go i H /\ ys.length < sizeLine /\ ∀ x H',(Ite K a).yld i H x H'->g x σ H' fun σ2 H2=>tt σ2 H2 fun b H3=>if b=true then te σ2 H3 fun y H4=>∃ m',m' < m /\ W (i+1) m' (ys++[y]) σ2 H4 else ∃ m',m' < m /\ W (i+1) m' ys σ2 H3)
theorem tCompE_eq {k:Nat} {js:List Nat} {t:TE}:ZCy k js (iEnum K (ZBY t tNil)) g tt te σ H Q=t σ H (fun x H1=>compE K g tt te (up k js σ) Q x H1):=rfl
end
noncomputable abbrev FZ (o:Obj):HO:=.frz o (.ext fun _=>True)
theorem ZDu {P:Program} {w:World} {H:Hp} {h:Heap} {a:Addr} {o:Obj} (e:h.get? a=some o):ObjOk P w H h a (FZ o):=⟨e,trivial,⟨o,e⟩,fun _ _ _ _=>trivial⟩
theorem ZCv {P:Program} {w:World} {H:Hp} {h:Heap} {a:Addr} {o:Obj} (x:HOk P w H h) (e:H a=some (FZ o)):h.get? a=some o:=(x a _ e).1
noncomputable def CodeAt (H:Hp) (c:Addr) (qual:Str):Prop:=∃ oc vs t,H c=some (FZ oc) /\ oc.data=.fields vs /\ vs[1]?=some (.str qual t)
theorem CodeAt.rec {P:Program} {w:World} {H:Hp} {h:Heap} {c:Addr} {qual:Str} (x:HOk P w H h) (k:CodeAt H c qual):h.CodeRec (.ref c) qual :=
 let ⟨oc,vs,t,e,d,v⟩:=k;⟨c,oc,vs,t,rfl,ZCv x e,d,v⟩
structure CloL (H:Hp) (g:Addr) (iname iq:Str) (ip:Arguments) (ib:List Stmt) (isc:Scope) (fr:List Str) (cs:List V) (cl:List (Str×Addr)):Prop where
 obj:∃ (doc pm ctv:Value) (c':Addr),H g=some (FZ (PySem.W.fnMade iname iq ip ib isc cl doc pm c' ctv)) /\ CodeAt H c' iq
 keys:∀ x c,cl.lookup x=some c->x∈fr
 inj:∀ x y c,cl.lookup x=some c->cl.lookup y=some c->x=y
 cell:∀ (i:Nat) (x:Str),fr[i]?=some x->∃ v c u o,cs[i]?=some v /\ cl.lookup x=some c /\ RelV v u /\ H c=some (FZ o) /\ o.data=.cell (some u)
 len:cs.length=fr.length
noncomputable def Clo (H:Hp) (g:Addr) (iname iq:Str) (ip:Arguments) (ib:List Stmt) (isc:Scope) (fr:List Str) (cs:List V):Prop:=∃ cl,CloL H g iname iq ip ib isc fr cs cl
noncomputable def ZCw (H H':Hp):Prop:=∀ b o,H b=some (FZ o)->H' b=some (FZ o)
theorem CodeAt.mono {H H':Hp} {c:Addr} {q:Str} (e:ZCw H H') (k:CodeAt H c q):CodeAt H' c q:=let ⟨oc,vs,t,a,d,v⟩:=k;⟨oc,vs,t,e _ _ a,d,v⟩
theorem CloL.mono {H H':Hp} {g:Addr} {iname iq:Str} {ip:Arguments} {ib:List Stmt} {isc:Scope} {fr:List Str} {cs:List V} {cl:List (Str×Addr)} (e:ZCw H H') (k:CloL H g iname iq ip ib isc fr cs cl):CloL H' g iname iq ip ib isc fr cs cl where
 obj:=let ⟨doc,pm,ctv,c',a,b⟩:=k.obj;⟨doc,pm,ctv,c',e _ _ a,b.mono e⟩
 keys:=k.keys
 inj:=k.inj
 cell:=fun i x h=>let ⟨v,c,u,o,a1,a2,a3,a4,a5⟩:=k.cell i x h;⟨v,c,u,o,a1,a2,a3,e _ _ a4,a5⟩
 len:=k.len
theorem Clo.mono {H H':Hp} {g:Addr} {iname iq:Str} {ip:Arguments} {ib:List Stmt} {isc:Scope} {fr:List Str} {cs:List V} (e:ZCw H H') (k:Clo H g iname iq ip ib isc fr cs):Clo H' g iname iq ip ib isc fr cs:=let ⟨cl,x⟩:=k;⟨cl,x.mono e⟩
theorem Same.fz {H H':Hp} (e:Same H H'):ZCw H H':=fun b o h=>e b _ h
theorem CloL.inj' {H:Hp} {g:Addr} {iname iq:Str} {ip:Arguments} {ib:List Stmt} {isc:Scope} {fr:List Str} {cs cs':List V} {cl cl':List (Str×Addr)} (k:CloL H g iname iq ip ib isc fr cs cl) (k':CloL H g iname iq ip ib isc fr cs' cl'):cs=cs':=by
 obtain ⟨d1,p1,t1,c1,e1,_⟩:=k.obj
 obtain ⟨d2,p2,t2,c2,e2,_⟩:=k'.obj
 rw [e1] at e2
 have ecl:cl=cl':=by
  have:=Option.some.inj e2
  injection this with h1 h2
  injection h1 with h3 h4 h5
  injection h5 with h6
  injection h6
 subst ecl
 refine List.ext_getElem? fun i=>?_
 by_cases hi:i < fr.length
 .obtain ⟨v,c,u,o,a1,a2,a3,a4,a5⟩:=k.cell i _ (yAC hi)
  obtain ⟨v',c',u',o',b1,b2,b3,b4,b5⟩:=k'.cell i _ (yAC hi)
  rw [a2] at b2
  cases b2
  rw [a4] at b4
  have eo:o=o':=by
   have:=Option.some.inj b4
   injection this
  subst eo
  rw [a5] at b5
  have eu:u=u':=by injection b5 with h;injection h
  subst eu
  rw [a1,b1,a3.inj b3]
 .rw [List.getElem?_eq_none (by rw [k.len];omega),List.getElem?_eq_none (by rw [k'.len];omega)]
open Classical in
noncomputable def hid (cl:List (Str×Addr)) (H:Hp):Hp:=fun b=>if ∃ x,cl.lookup x=some b then none else H b
open Classical in
noncomputable def back (cl:List (Str×Addr)) (H H1:Hp):Hp:=fun b=>if ∃ x,cl.lookup x=some b then H b else H1 b
theorem ZDQ {cl:List (Str×Addr)} {H:Hp} {x:Str} {b:Addr} (h:cl.lookup x=some b):hid cl H b=none:=by unfold hid;rw [if_pos ⟨x,h⟩]
theorem ZCp {cl:List (Str×Addr)} {H:Hp} {b:Addr} (h:¬ ∃ x,cl.lookup x=some b):hid cl H b=H b:=by unfold hid;rw [if_neg h]
theorem ZDX {cl:List (Str×Addr)} {H H1:Hp} {x:Str} {b:Addr} (h:cl.lookup x=some b):back cl H H1 b=H b:=by unfold back;rw [if_pos ⟨x,h⟩]
theorem ZCU {cl:List (Str×Addr)} {H H1:Hp} {b:Addr} (h:¬ ∃ x,cl.lookup x=some b):back cl H H1 b=H1 b:=by unfold back;rw [if_neg h]
theorem hid_le {cl:List (Str×Addr)} {H:Hp} {b:Addr} {o:HO} (h:hid cl H b=some o):H b=some o:=by
 by_cases q:∃ x,cl.lookup x=some b
 .obtain ⟨x,q⟩:=q;rw [ZDQ q] at h;cases h
 .rw [ZCp q] at h;exact h
noncomputable def ZEE (cl:List (Str×Addr)) (H:Hp):Prop:=∀ x c,cl.lookup x=some c->∃ u o,H c=some (FZ o) /\ o.data=.cell u
theorem CloL.cells {H:Hp} {g:Addr} {iname iq:Str} {ip:Arguments} {ib:List Stmt} {isc:Scope} {fr:List Str} {cs:List V} {cl:List (Str×Addr)} (k:CloL H g iname iq ip ib isc fr cs cl):ZEE cl H:=fun x c h=>by
 obtain ⟨i,hi⟩:=List.getElem?_of_mem (k.keys x c h)
 obtain ⟨v,c2,u,o,_,h2,_,h4,h5⟩:=k.cell i x hi
 rw [h] at h2
 cases h2
 exact ⟨_,o,h4,h5⟩
theorem ZB5 {cl:List (Str×Addr)} {H:Hp} {b:Addr} {o:HO} (C:ZEE cl H) (h:H b=some o) (n:∀ ob,o≠FZ ob):hid cl H b=some o:=by
 rw [ZCp,h]
 rintro ⟨x,q⟩
 obtain ⟨u,ob,e,_⟩:=C x b q
 rw [h] at e
 exact n ob (Option.some.inj e)
theorem back_hid {cl:List (Str×Addr)} {H:Hp}:back cl H (hid cl H)=H:=by
 funext b
 by_cases q:∃ x,cl.lookup x=some b
 .obtain ⟨x,q⟩:=q;rw [ZDX q]
 .rw [ZCU q,ZCp q]
noncomputable def NoC (cl:List (Str×Addr)) (H:Hp):Prop:=∀ x c,cl.lookup x=some c->H c=none
structure CloScope (N ps fr:List Str) (sc:Scope):Prop where
 kind:sc.kind=.function
 co:sc.isCoroutine=false
 gen:sc.isGenerator=false
 nd:N.Nodup
 pre:N.take ps.length=ps
 suf:N.drop (N.length-fr.length)=fr
 two:ps.length+fr.length <= N.length
 par:∀ x∈ps,sc.names.lookup x=some .local
 nocell:∀ y∈sc.names,y.2≠.cell
 free:∀ x∈fr,sc.names.lookup x=some .free
 only:∀ x,sc.names.lookup x=some .free->x∈fr
noncomputable def ZCG (N:List Str) (vs cs:List V):St:=vs.map some++(List.replicate (N.length-vs.length-cs.length) none++cs.map some)
noncomputable def ZDe (P:Program) (w:World) (K:W.Frag) (mg:Str->Option Value) (base:Heap) (N:List Str) (qual:Str) (scope:Scope) (f:Addr) (cd:Value) (cl:List (Str×Addr)) (A:Around) (outer:List Env) (s:Shared) (H:Hp):Cx where
 prog:=P
 w:=w
 K:=K
 mg:=mg
 base:=base
 A:=A.deeper (PySem.W.envX qual scope s.heap.objs.size f cd cl)
 N:=N
 s₀:=s
 H₀:=H
 env:=PySem.W.envX qual scope s.heap.objs.size f cd cl
 outer:=outer
 stack:=PySem.W.envX qual scope s.heap.objs.size f cd cl::outer
 ex:=[]
 calm:=true
 fn:=fun _=>false
 pn:=[]
 xe:=fun _ _=>False
theorem startC_get {N:List Str} {vs cs:List V} {i:Nat} {v:V} (hl:vs.length+cs.length <= N.length) (h:(ZCG N vs cs)[i]?=some (some v)) :
  vs[i]?=some v∨(N.length-cs.length <= i /\ cs[i-(N.length-cs.length)]?=some v):=by
 unfold ZCG at h
 by_cases h1:i < vs.length
 .rw [yAO (by simpa using h1),yAU] at h
  cases e:vs[i]? with
  | none=>rw [e] at h;cases h
  | some a=>rw [e] at h;cases h;exact .inl rfl
 .rw [yAT (by simpa using Nat.le_of_not_lt h1),yAB] at h
  by_cases h2:i-vs.length < N.length-vs.length-cs.length
  .rw [yAO (by simpa using h2),List.getElem?_replicate,if_pos h2] at h
   cases h
  .rw [yAT (by simpa using Nat.le_of_not_lt h2),yBK,yAU] at h
   right
   refine ⟨by omega,?_⟩
   rw [show i-(N.length-cs.length)=i-vs.length-(N.length-vs.length-cs.length) by omega]
   cases e:cs[i-vs.length-(N.length-vs.length-cs.length)]? with
   | none=>rw [e] at h;cases h
   | some a=>rw [e] at h;cases h;rfl
theorem zip_fst_sub:∀ (ps:List Str) (us:List Value),((ps.zip us).map (·.1)).Sublist ps
 | [],_=>by simp
 | p::ps,[]=>by simp
 | p::ps,u::us=>by rw [List.zip_cons_cons,yAR];exact (zip_fst_sub ps us).cons₂ p
theorem lookup_nodup {α:Type}:∀ {cs:List (Str×α)} {n:Str} {c:α},(cs.map (·.1)).Nodup->(n,c)∈cs->cs.lookup n=some c
 | (m,d)::r,n,c,hn,h=>by
  rw [yAR] at hn
  have hn':=List.nodup_cons.mp hn
  rw [yBE]
  rcases yAL.mp h with e | h
  .cases e;simp
  .have:n≠m:=fun z=>hn'.1 (z ▸ List.mem_map_of_mem (f:=(·.1)) h)
   have:(n == m)=false:=by simpa using this
   rw [this]
   exact lookup_nodup hn'.2 h
theorem zip_lookup {ps:List Str} {us:List Value} (nd:ps.Nodup) {i:Nat} {x:Str} {u:Value} (h1:ps[i]?=some x) (h2:us[i]?=some u):((ps.zip us).reverse).lookup x=some u:=by
 have hm:(x,u)∈(ps.zip us).reverse:=by
  rw [List.mem_reverse]
  refine yAH (i:=i) ?_
  rw [List.getElem?_zip_eq_some]
  exact ⟨h1,h2⟩
 have hnd:((ps.zip us).reverse.map (·.1)).Nodup:=by
  rw [List.map_reverse]
  exact List.pairwise_reverse.mpr (List.Pairwise.imp (fun h=>Ne.symm h) (nd.sublist (zip_fst_sub ps us)))
 exact lookup_nodup hnd hm
section
variable {P:Program} {w:World} {K:W.Frag} {mg:Str->Option Value} {base:Heap} {A:Around} {outer:List Env} {s:Shared} {H:Hp} {g:Addr} {iname iq:Str} {ip:Arguments} {ib:List Stmt} {isc:Scope} {N ps fr:List Str} {cs vs:List V} {us:List Value} {cl:List (Str×Addr)} {k:Nat}
theorem clo_call {Q:VK} (C:CloL H g iname iq ip ib isc fr cs cl) (S:CloScope N ps fr isc) (hr:Room (k+1) A) (e0:Env0 P w K mg base A outer s H) (hl:vs.length=ps.length) (r:Vals vs us)
  (hbind:∀ (doc pm ctv:Value) (c':Addr),bindArgs (PySem.W.fnX iname iq ip ib isc cl .none .none doc pm none (.ref c') ctv) ⟨us,[]⟩=pure (ps.zip us))
  (hbody:∀ (cd:Value) (A':Around),Room k A'->∃ t,PSs (ZDe P w K mg base N iq isc g cd cl A outer s (hid cl H)) ib t /\ t { nx:=fun _ H'=>NoC cl H'->Q .non (back cl H H'),rt:=fun v H'=>NoC cl H'->Q v (back cl H H') } (ZCG N vs cs) (hid cl H)) :
  codeAny (model P w) A (.call (.ref g) ⟨us,[]⟩) (fun r s'=>match r with | .ok (.ret u)=>CE outer P w H s Q u s' | _=>False) s:=by
 obtain ⟨doc,pm,ctv,c',hg,hc⟩:=C.obj
 have hget:=ZCv e0.hok hg
 have lim:s.heap.NoLimit:=e0.mod.nolimit.keeps fun b o e=>(e0.bs b o e).1
 have hnd:ps.Nodup:=by rw [<- S.pre];exact S.nd.sublist (List.take_sublist _ _)
 refine codeAny_call_def (o:=PySem.W.fnMade iname iq ip ib isc cl doc pm c' ctv) (fd:=PySem.W.fnX iname iq ip ib isc cl .none .none doc pm none (.ref c') ctv) (body:=ib) (binds:=ps.zip us) hr.depth hget rfl lim (hc.rec e0.hok) rfl (.of_eq (hbind doc pm ctv c')) S.nocell (fun y hy=>S.par _ (List.of_mem_zip hy).1) (fun h₁ hns hk₁=>?_) S.co S.gen S.kind
 obtain ⟨t,ht,hq⟩:=hbody (.ref c') _ (hr.deeper (PySem.W.envX iq isc s.heap.objs.size g (.ref c') cl))
 have cellAt:∀ x c,cl.lookup x=some c->∃ o u,H c=some (FZ o) /\ s.heap.get? c=some o /\ o.data=.cell u:=fun x c h=>by
  obtain ⟨u,o,e,d⟩:=C.cells x c h
  exact ⟨o,u,e,ZCv e0.hok e,d⟩
 have cfs:∀ x c,cl.lookup x=some c->c∉frs outer:=fun x c h hb=>by
  obtain ⟨o,u,e,_⟩:=cellAt x c h
  rw [e0.frf c hb] at e;cases e
 have hpl:ps.length <= N.length:=by have:=S.two;omega
 have I:Inv (ZDe P w K mg base N iq isc g (.ref c') cl A outer s (hid cl H)) [] (ZCG N vs cs) (hid cl H) { s with heap:=h₁,toks:=s.toks+(ps.zip us).length }:=by
  refine ⟨⟨e0.mod,S.kind,rfl,rfl,yAA _,C.inj,fun x hx=>?_,fun y c h=>absurd h (by simp [ZDe]),fun _=>hr.hd,Around.frames_deeper e0.frames,.inr ⟨rfl,rfl⟩,fun b z=>absurd (show b∈([]:List Addr) from z) (by simp),fun b o e=>?_,e0.bsz,fun b _ _ z=>absurd (show b∈([]:List Addr) from z) (by simp),fun b z=>absurd (show b∈([]:List Addr) from z) (by simp),e0.funs,fun b hb=>?_⟩,
   rfl,e0.bare,Un.kept hk₁,⟨_,hns,fun i x v h1 h2 h3=>?_⟩,fun x c h=>?_,?_,fun x c h=>ZDQ h,fun p hp=>absurd (show p∈([]:List (Addr×Obj)) from hp) (by simp),?_,?_⟩
  .have hx:isc.names.lookup x=some .cell∨isc.names.lookup x=some .free:=hx
   rcases hx with hx | hx
   .exact absurd rfl (S.nocell _ (PySem.mem_of_lookup hx))
   .obtain ⟨i,hi⟩:=List.getElem?_of_mem (S.only x hx)
    obtain ⟨v,c,u,o,_,h2,_⟩:=C.cell i x hi
    exact ⟨c,h2⟩
  .refine ⟨(e0.bs b o e).1,?_⟩
   show hid cl H b=none
   by_cases q:∃ x,cl.lookup x=some b
   .obtain ⟨x,q⟩:=q;exact ZDQ q
   .rw [ZCp q];exact (e0.bs b o e).2
  .show hid cl H b=none
   rw [ZCp]
   .exact e0.frf b hb
   .rintro ⟨x,q⟩;exact cfs x b q hb
  .have h1:N[i]?=some x:=h1
   have hcl:=C.len
   rcases startC_get (by rw [hl,hcl];exact S.two) h2 with h4 | ⟨h4,h5⟩
   .obtain ⟨u,hu,rv⟩:=r.get h4
    have hi:i < vs.length:=(yAI.mp h4).1
    have hp:ps[i]?=some x:=by rw [<- S.pre,List.getElem?_take_of_lt (by omega)];exact h1
    exact ⟨u,rv,.inl ⟨S.par x (yAH hp),zip_lookup hnd hp hu⟩⟩
   .have hf:fr[i-(N.length-cs.length)]?=some x:=by
     rw [<- S.suf,yBL,<- hcl,show N.length-cs.length+(i-(N.length-cs.length))=i by omega]
     exact h1
    obtain ⟨v',c,u,o,a1,a2,a3,a4,a5⟩:=C.cell _ x hf
    rw [h5] at a1
    cases a1
    refine ⟨u,a3,.inr ⟨.inr (S.free x (yAH hf)),c,a2,o,hk₁ _ _ (ZCv e0.hok a4),a5⟩⟩
  .obtain ⟨o,u,e,e2,d⟩:=cellAt x c h
   exact ⟨u,o,hk₁ _ _ e2,d⟩
  .show hid cl H s.heap.objs.size=none
   have hn:=e0.hok.fresh (yAA _)
   rw [ZCp]
   .exact hn
   .rintro ⟨x,q⟩
    obtain ⟨o,u,e,_⟩:=cellAt x _ q
    rw [hn] at e;cases e
  .intro b o e
   have e':=hid_le e
   refine (e0.hok b o e').stay (fun c v _ q=>hk₁ c v q) (fun c q=>?_) fun c xs q=>?_
   .exact ZB5 C.cells q (fun ob z=>by cases z)
   .exact ZB5 C.cells q (fun ob z=>by cases z)
  .unfold ZCG
   show _=N.length
   have:=S.two
   have:=C.len
   simp only [yAF,yAB,yBK]
   omega
 refine wpAny_mono (ht [] _ (ZCG N vs cs) (hid cl H) _ I hq) (fun fl s' hs=>?_) fun e s' hs=>False.elim hs
 have fin:∀ {σ':St} {H':Hp} {v:V} {u:Value},Inv (ZDe P w K mg base N iq isc g (.ref c') cl A outer s (hid cl H)) [] σ' H' s'->RelV v u->(NoC cl H'->Q v (back cl H H'))->CE outer P w H s Q u s' :=
  fun {σ' H' v u} J rv q=>by
   have un:Un (frs outer) [] (hid cl H) H' s.heap s'.heap:=J.base
   have nex:∀ b:Addr,b∉([]:List Addr):=fun b=>by simp
   have keepC:∀ x c o,cl.lookup x=some c->s.heap.get? c=some o->s'.heap.get? c=some o:=fun x c o h e=>un.keep c o e (ZDQ h) (cfs x c h) (nex c)
   have freeC:∀ x c,cl.lookup x=some c->H' c=none:=fun x c h=>by
    obtain ⟨o,u,e,e2,d⟩:=cellAt x c h
    exact un.free c o e2 (ZDQ h) (nex c)
   refine ⟨v,back cl H H',J.os,J.bare,⟨fun b o e n hb hx=>?_,fun b o e n hb hx=>?_,fun b o e n hx=>?_,un.there,fun b xs e=>?_,fun b o u' e=>?_,fun b ps' e=>?_⟩,fun b o e=>?_,rv,q freeC⟩
   .refine un.keep b o e ?_ hb hx
    by_cases q:∃ x,cl.lookup x=some b
    .obtain ⟨x,q⟩:=q;exact ZDQ q
    .rw [ZCp q];exact n
   .refine un.slot b o e ?_ hb hx
    by_cases q:∃ x,cl.lookup x=some b
    .obtain ⟨x,q⟩:=q;exact ZDQ q
    .rw [ZCp q];exact n
   .have nc:¬ ∃ x,cl.lookup x=some b:=by
     rintro ⟨x,q⟩
     obtain ⟨o,u,e,_⟩:=cellAt x b q
     rw [n] at e;cases e
    rw [ZCU nc]
    exact un.free b o e (by rw [ZCp nc];exact n) hx
   .have e2:=un.tups b xs (ZB5 C.cells e (fun ob z=>by cases z))
    rw [ZCU]
    .exact e2
    .rintro ⟨x,q⟩;rw [freeC x b q] at e2;cases e2
   .by_cases q:∃ x,cl.lookup x=some b
    .obtain ⟨x,q⟩:=q;rw [ZDX q];exact e
    .rw [ZCU q];exact un.frzs b o u' (by rw [ZCp q];exact e)
   .obtain ⟨more,e2⟩:=un.tbls b ps' (ZB5 C.cells e (fun ob z=>by cases z))
    refine ⟨more,?_⟩
    rw [ZCU]
    .exact e2
    .rintro ⟨x,q⟩;rw [freeC x b q] at e2;cases e2
   .have up:∀ c oc,H' c=some oc->back cl H H' c=some oc:=fun c oc q=>by
     rw [ZCU]
     .exact q
     .rintro ⟨x,z⟩;rw [freeC x c z] at q;cases q
    by_cases q:∃ x,cl.lookup x=some b
    .obtain ⟨x,q⟩:=q
     rw [ZDX q] at e
     obtain ⟨o2,u2,e2,e3,d⟩:=cellAt x b q
     rw [e] at e2
     cases e2
     exact ZDu (keepC x b _ q e3)
    .rw [ZCU q] at e
     exact (J.hok b o e).stay (fun c v _ q=>q) (fun c q=>up c _ q) fun c xs q=>up c _ q
 cases fl with
 | ret u=>
  obtain ⟨v,σ',H',J,rv,q⟩:=hs
  exact fin J rv q
 | next=>
  obtain ⟨σ',H',J,q⟩:=hs
  exact fin (v:=V.non) (u:=Value.none) J rfl q
 | brk=>
  obtain ⟨_,_,_,q⟩:=hs
  exact False.elim q
 | cont=>
  obtain ⟨_,_,_,q⟩:=hs
  exact False.elim q
end
noncomputable def ZDi (r:V->List V->Hp->VK->Prop) (ta:TE) (t:TA):TE:=fun σ H Q=>ta σ H fun f H1=>(∃ g o,f=.ref g /\ H1 g=some (FZ o) /\ ∃ fd,o.data=.func fd) /\ t σ H1 fun vs H2=>r f vs H2 Q
noncomputable def CloR (X:Cx) (r:V->List V->Hp->VK->Prop):Prop :=
 ∀ (pins:List (Addr×Obj)) (s:Shared) (σ:St) (H:Hp) (f:Addr) (vs:List V) (us:List Value) (Q:VK),Inv X pins σ H s->Vals vs us->r (.ref f) vs H Q ->
  PySem.W.FnAt f s.heap /\ wpAny (model X.prog X.w) X.A (call (.ref f) us) (EP X pins σ Q) X.xe s
theorem fnAt_of {h:Heap} {g:Addr} {o:Obj} {fd:FuncData} (e:h.get? g=some o) (d:o.data=.func fd):PySem.W.FnAt g h:=by
 obtain ⟨oc,od,dt,sl⟩:=o
 have d':dt=.func fd:=d
 subst d'
 exact ⟨oc,od,fd,sl,e⟩
theorem pe_callV {X:Cx} {x:Str} {p pos:Pos} {e:Expr} {es:List Expr} {ta:TE} {t:TA} {r:V->List V->Hp->VK->Prop} (hc:CloR X r) (hx:PE X (.Name x p) ta) (ha:PA X (e::es) t)
  (he:starEach (e::es) X.env=(false,eval e X.env)::starEach es X.env:=by rfl) (hpl:(backTo pos (starEach es X.env)).any (·.1)=false:=by rfl):PE X (.Call (.Name x p) (e::es) [] pos) (ZDi r ta t):=by
 intro pins s σ H Q I h
 refine wpAny_Call_Name_kw (thn (hx pins s σ H _ I h) fun v s1 zz=>?_)
 obtain ⟨f,H1,I1,rf,⟨g,o,eg,hg,fd,hd⟩,q⟩:=zz
 subst eg
 cases rf
 refine PySem.W.callWith_F (fnAt_of (ZCv I1.hok hg) hd) (thn (ha pos pins s1 σ H1 _ I1 q) fun us s2 zz=>?_) he hpl
 obtain ⟨vs,H2,I2,r2,q2⟩:=zz
 exact hc pins s2 σ H2 g vs us Q I2 r2 q2
structure CloOk (P:Program) (w:World) (K:W.Frag) (mg:Str->Option Value) (base:Heap) (k:Nat) (r:V->List V->Hp->VK->Prop):Prop where
 run:∀ (A:Around) (outer:List Env) (s:Shared) (H:Hp) (f:Addr) (vs:List V) (us:List Value) (Q:VK),Room k A->Env0 P w K mg base A outer s H->Vals vs us->r (.ref f) vs H Q ->
  PySem.W.FnAt f s.heap /\ codeAny (model P w) A (.call (.ref f) ⟨us,[]⟩) (fun r s'=>match r with | .ok (.ret u)=>CE outer P w H s Q u s' | _=>False) s
theorem CloOk.at {X:Cx} {k:Nat} {r:V->List V->Hp->VK->Prop} (C:CloOk X.prog X.w X.K X.mg X.base k r) (hr:Room k X.A):CloR X r:=by
 intro pins s σ H f vs us Q I rv h
 obtain ⟨h1,h2⟩:=C.run X.A X.stack s H f vs us Q hr I.env0 rv h
 refine ⟨h1,wpAny_call (codeAny_mono h2 fun r s' hq=>?_)⟩
 cases r with
 | error e=>exact False.elim hq
 | ok fl=>
  cases fl with
  | ret u=>exact I.after hq
  | next=>exact False.elim hq
  | brk=>exact False.elim hq
  | cont=>exact False.elim hq
theorem Clo.fnAt {P:Program} {w:World} {H:Hp} {h:Heap} {g:Addr} {iname iq:Str} {ip:Arguments} {ib:List Stmt} {isc:Scope} {fr:List Str} {cs:List V} {cl:List (Str×Addr)} (x:HOk P w H h) (C:CloL H g iname iq ip ib isc fr cs cl):PySem.W.FnAt g h:=by
 obtain ⟨doc,pm,ctv,c',e,_⟩:=C.obj
 exact fnAt_of (ZCv x e) rfl
theorem clo_of {P:Program} {w:World} {K:W.Frag} {mg:Str->Option Value} {base:Heap} {iname iq:Str} {ip:Arguments} {ib:List Stmt} {isc:Scope} {N ps fr:List Str} {k:Nat} {r:V->List V->Hp->VK->Prop} (S:CloScope N ps fr isc)
  (hcl:∀ f vs H Q,r f vs H Q->∃ g cs,f=.ref g /\ Clo H g iname iq ip ib isc fr cs) (len:∀ f vs H Q,r f vs H Q->vs.length=ps.length)
  (hbind:∀ (cl:List (Str×Addr)) (doc pm ctv:Value) (c':Addr) (us:List Value),us.length=ps.length->bindArgs (PySem.W.fnX iname iq ip ib isc cl .none .none doc pm none (.ref c') ctv) ⟨us,[]⟩=pure (ps.zip us))
  (hbody:∀ (g:Addr) (cs:List V) (cl:List (Str×Addr)) (cd:Value) (A:Around) (outer:List Env) (s:Shared) (H:Hp) (vs:List V) (Q:VK),Room k (A.deeper (PySem.W.envX iq isc s.heap.objs.size g cd cl))->CloL H g iname iq ip ib isc fr cs cl->r (.ref g) vs H Q ->
   ∃ t,PSs (ZDe P w K mg base N iq isc g cd cl A outer s (hid cl H)) ib t /\ t { nx:=fun _ H'=>NoC cl H'->Q .non (back cl H H'),rt:=fun v H'=>NoC cl H'->Q v (back cl H H') } (ZCG N vs cs) (hid cl H)):CloOk P w K mg base (k+1) r:=by
 refine ⟨fun A outer s H f vs us Q hr e0 rv h=>?_⟩
 obtain ⟨g,cs,eg,cl,C⟩:=hcl _ _ _ _ h
 cases eg
 have hl:=len _ _ _ _ h
 refine ⟨Clo.fnAt e0.hok C,clo_call (k:=k) C S hr e0 hl rv (fun doc pm ctv c'=>hbind cl doc pm ctv c' us (by rw [<- rv.length];exact hl)) fun cd A' hr'=>?_⟩
 exact hbody f cs cl cd A outer s H vs Q (hr.deeper _) C h
theorem SqT.hid {K:W.Frag} {H:Hp} {cl:List (Str×Addr)} {a:Addr} {xs:List V} (C:ZEE cl H) (h:SqT K H a xs):SqT K (L2.hid cl H) a xs:=by
 rcases h with (h | ⟨o,h⟩) | h
 .exact .inl (.inl (ZB5 C h fun ob z=>by cases z))
 .exact .inl (.inr ⟨o,ZB5 C h fun ob z=>by cases z⟩)
 .exact .inr h
noncomputable def TabSt (H:Hp) (Pt:Addr) (pos:Pos) (iq:Str):Prop:=H Pt=some (.tbl #[])∨∃ c',H Pt=some (.tbl #[rawInt pos.line,rawInt pos.col,.ref c']) /\ CodeAt H c' iq
theorem TabSt.mono {H H':Hp} {Pt:Addr} {pos:Pos} {iq:Str} (e:H' Pt=H Pt) (f:ZCw H H') (k:TabSt H Pt pos iq):TabSt H' Pt pos iq:=by
 rcases k with k | ⟨c',k,q⟩
 .exact .inl (e.trans k)
 .exact .inr ⟨c',e.trans k,q.mono f⟩
noncomputable def ZDI (mg:Str->Option Value) (h:Heap):Prop:=∃ bm ob,mg "__builtins__"=some (.ref bm) /\ bm≠builtinsNs /\ h.get? bm=some ob /\ ob.cls=.type "module" /\ ob.dict=some builtinsNs /\ ob.data=.plain
structure MadeDef (H H':Hp) (Pt:Addr) (pos:Pos) (g:Addr) (iname iq:Str) (ip:Arguments) (ib:List Stmt) (isc:Scope) (fr:List Str) (cs:List V):Prop where
 same:∀ b o,b≠Pt->H b=some o->H' b=some o
 tab:TabSt H' Pt pos iq
 clo:Clo H' g iname iq ip ib isc fr cs
 fresh:H g=none
section
variable {X:Cx} {pins:List (Addr×Obj)} {σ:St} {H:Hp} {s:Shared}
structure MadeMid (H H':Hp) (Pt:Addr) (pos:Pos) (g:Addr) (iname iq:Str) (ip:Arguments) (ib:List Stmt) (isc:Scope) (cl:List (Str×Addr)):Prop where
 same:∀ b o,b≠Pt->H b=some o->H' b=some o
 tab:TabSt H' Pt pos iq
 obj:∃ (doc pm ctv:Value) (c':Addr),H' g=some (FZ (PySem.W.fnMade iname iq ip ib isc cl doc pm c' ctv)) /\ CodeAt H' c' iq
 fresh:H g=none
theorem Inv.made3 (I:Inv X pins σ H s) {Pt c':Addr} {ps more:Array Value} {h':Heap} {oc fo:Obj} {tk:Nat} (hP:H Pt=some (.tbl ps)) (hx:Heap.ExtBut Pt s.heap h') (hge:s.heap.objs.size <= c') (hlt:c' < h'.objs.size) (hoc:h'.get? c'=some oc)
  (hPt:h'.get? Pt=some (PySem.W.tabObj (ps++more))) (hfo:fo.isFreed=false):Inv X pins σ (upd (upd (upd H Pt (.tbl (ps++more))) c' (FZ oc)) h'.objs.size (FZ fo)) { s with heap:=h'.push fo,toks:=tk }:=by
 have gn:∀ b o,s.heap.get? b=some o->b≠h'.objs.size /\ b≠c':=fun b o e=>by
  have l:=Heap.lt_size e
  exact ⟨yAE (Nat.lt_trans (yAG l hge) hlt),yAE (yAG l hge)⟩
 have gt:∀ b o,H b=some o->b≠h'.objs.size /\ b≠c':=fun b o e=>by
  have l:=I.hok.lt e
  exact ⟨yAE (Nat.lt_trans (yAG l hge) hlt),yAE (yAG l hge)⟩
 have np:∀ b,H b=none->b≠Pt:=fun b n z=>by rw [z,hP] at n;cases n
 have cg:c'≠h'.objs.size:=yAE hlt
 have old:∀ b o,b≠Pt->H b=some o->upd (upd (upd H Pt (.tbl (ps++more))) c' (FZ oc)) h'.objs.size (FZ fo) b=some o:=fun b o n e=>by
  rw [ZAJ (gt b o e).1,ZAJ (gt b o e).2,ZAJ n];exact e
 have atP:upd (upd (upd H Pt (.tbl (ps++more))) c' (FZ oc)) h'.objs.size (FZ fo) Pt=some (.tbl (ps++more)):=by
  rw [ZAJ (gt Pt _ hP).1,ZAJ (gt Pt _ hP).2,ZAC]
 refine I.un (h':=h'.push fo) (t':=tk) ⟨fun b o e n _ _=>?_,fun b o e n _ _=>?_,fun b o e n _=>?_,fun b o e _=>?_,fun b xs e=>?_,fun b o u e=>?_,fun b qs e=>?_⟩ fun b o e=>?_
 .exact Heap.get?_push_of_some _ (hx b o (np b n) e)
 .exact ⟨o.slots,Heap.get?_push_of_some _ (hx b o (np b n) e)⟩
 .rw [ZAJ (gn b o e).1,ZAJ (gn b o e).2,ZAJ (np b n)];exact n
 .by_cases q:b=Pt
  .subst q;exact ⟨_,Heap.get?_push_of_some _ hPt⟩
  .exact ⟨o,Heap.get?_push_of_some _ (hx b o q e)⟩
 .exact old b _ (fun z=>by rw [z,hP] at e;cases e) e
 .exact old b _ (fun z=>by rw [z,hP] at e;cases e) e
 .by_cases q:b=Pt
  .subst q
   rw [hP] at e
   cases e
   exact ⟨more,atP⟩
  .exact ⟨#[],by rw [old b _ q e];simp⟩
 .by_cases q1:b=h'.objs.size
  .subst q1;rw [ZAC] at e;cases e;exact ZDu (Heap.get?_push_size _ hfo)
  .rw [ZAJ q1] at e
   by_cases q2:b=c'
   .subst q2;rw [ZAC] at e;cases e;exact ZDu (Heap.get?_push_of_some _ hoc)
   .rw [ZAJ q2] at e
    by_cases q3:b=Pt
    .subst q3;rw [ZAC] at e;cases e;exact Heap.get?_push_of_some _ hPt
    .rw [ZAJ q3] at e
     refine (I.hok b o e).stay (fun c u hc q=>?_) (fun c q=>?_) fun c xs q=>?_
     .refine Heap.get?_push_of_some _ (hx c u ?_ q)
      rcases hc with z | z
      .rw [z];exact q3
      .intro z2;rw [z2,hP] at z;cases z
     .exact old c _ (fun z=>by rw [z,hP] at q;cases q) q
     .exact old c _ (fun z=>by rw [z,hP] at q;cases q) q
theorem Inv.made1 (I:Inv X pins σ H s) {h':Heap} {fo:Obj} {tk:Nat} (hk:∀ b o,s.heap.get? b=some o->h'.get? b=some o) (hsz:s.heap.objs.size <= h'.objs.size) (hfo:fo.isFreed=false):Inv X pins σ (upd H h'.objs.size (FZ fo)) { s with heap:=h'.push fo,toks:=tk } :=
 I.laid (fun b u q=>Heap.get?_push_of_some _ (hk b u q)) hsz (ZDu (Heap.get?_push_size _ hfo))
noncomputable def tDef (i:Nat) (Pt:Addr) (pos:Pos) (iname iq:Str) (ip:Arguments) (ib:List Stmt) (isc:Scope) (cl:List (Str×Addr)):TS:=fun D σ H=>TabSt H Pt pos iq /\ ∀ g H',MadeMid H H' Pt pos g iname iq ip ib isc cl->D.nx (σ.set i (some (.ref g))) H'
theorem ps_def {i:Nat} {Pt c:Addr} {pos:Pos} {iname iq:Str} {ip:Arguments} {ib:List Stmt} {isc:Scope} (hN:X.N.Nodup) (hi:X.N[i]?=some iname) (hx:Loc X.env.scope iname) (hf:X.fn iname=true∨X.env.scope.names.lookup iname=some .local)
  (hcode:X.env.code=.ref c) (C:PySem.W.CodeHd X.base c Pt) (B:ZDI X.mg X.base) (hq:qualnameIn X.env iname iname=iq) (hd0:ip.defaults=[]) (hk0:ip.kw_defaults=[]) (ha:annTrees ip none X.env=[])
  (hfr:∀ x,(x,NameKind.free)∈isc.names->∃ c,X.env.cells.lookup x=some c) :
  PS X (.FunctionDef iname ip ib [] none [] isc none iname pos) (tDef i Pt pos iname iq ip ib isc (closFrom X.env.cells isc.names [])):=by
 intro pins s σ H D I h
 obtain ⟨ht,h⟩:=h
 refine PySem.W.nestDef_K hd0 hk0 ha ?_
 rw [hq]
 have hgs:=I.ok.mod.glob.keeps I.bk
 have hC:=C.keeps I.bk
 have hcl:=closureFor_eq (scope:=isc) (env:=X.env) hfr
 obtain ⟨bm,ob,b1,b2,b3,b4,b5,b6⟩:=B
 have hbG:bm≠mainGlobals:=fun q=>by
  obtain ⟨o,es,ep,e,hd,_⟩:=I.ok.mod.glob
  rw [q,e] at b3;cases b3;rw [hd] at b6;cases b6
 have apart:∀ {qs:Array Value},s.heap.get? Pt=some (PySem.W.tabObj qs)->mainGlobals≠Pt /\ s.heap.BuiltinsAt X.mg Pt:=fun {qs} hm=>by
  refine ⟨fun q=>?_,bm,ob,b1,b2,hbG,fun q=>?_,I.bk _ _ b3,b4,b5,b6⟩
  .obtain ⟨o,es,ep,e,hd,_⟩:=hgs
   rw [q,hm] at e;cases e;cases hd
  .have e:=I.bk _ _ b3
   rw [q,hm] at e;cases e;cases b4
 have fin:∀ {g:Addr} {H':Hp} {s':Shared},Inv X pins σ H' s'->MadeMid H H' Pt pos g iname iq ip ib isc (closFrom X.env.cells isc.names []) ->
   wpAny (model X.prog X.w) X.A (storeName X.env iname (.ref g)) (fun _ s''=>SP X pins D .next s'') X.xe s':=fun {g H' s'} J M=>
  ZCW J hN hi hx (v:=.ref g) rfl (fun s'' J'=>⟨_,H',J',h g H' M⟩) hf
 rcases ht with ht | ⟨c1,ht,hc1⟩
 .have hP:s.heap.get? Pt=some (PySem.W.tabObj #[]):=I.hok Pt _ ht
  obtain ⟨a1,a2⟩:=apart hP
  refine PySem.W.makeFunction_K hcl I.ok.glob hgs hcode hC hP trivial rfl a1 a2 fun c' ctv doc h' tk hx2 hge hlt hrec htb=>?_
  obtain ⟨c2,oc,vs,t,e2,hoc,hd,hv⟩:=hrec
  cases e2
  have J:=I.made3 (tk:=tk) (fo:=PySem.W.fnMade iname iq ip ib isc (closFrom X.env.cells isc.names []) doc ((X.mg "__name__").getD .none) c' ctv) ht hx2 hge hlt hoc htb rfl
  have gt:∀ b o,H b=some o->b≠h'.objs.size /\ b≠c':=fun b o e=>by
   have l:=I.hok.lt e
   exact ⟨yAE (Nat.lt_trans (yAG l hge) hlt),yAE (yAG l hge)⟩
  have hcc:CodeAt (upd (upd (upd H Pt (.tbl (#[]++#[rawInt pos.line,rawInt pos.col,.ref c']))) c' (FZ oc)) h'.objs.size (FZ (PySem.W.fnMade iname iq ip ib isc (closFrom X.env.cells isc.names []) doc ((X.mg "__name__").getD .none) c' ctv))) c' iq :=
   ⟨oc,vs,t,by rw [ZAJ (yAE hlt),ZAC],hd,hv⟩
  refine fin J ⟨fun b o n e=>?_,.inr ⟨c',?_,hcc⟩,⟨doc,_,ctv,c',ZAC,hcc⟩,?_⟩
  .rw [ZAJ (gt b o e).1,ZAJ (gt b o e).2,ZAJ n];exact e
  .rw [ZAJ (gt Pt _ ht).1,ZAJ (gt Pt _ ht).2,ZAC];rfl
  .exact I.hok.fresh (yAD hge (Nat.le_of_lt hlt))
 .have hP:s.heap.get? Pt=some (PySem.W.tabObj #[rawInt pos.line,rawInt pos.col,.ref c1]):=I.hok Pt _ ht
  obtain ⟨a1,a2⟩:=apart hP
  refine PySem.W.makeFunction_hit (cv:=.ref c1) hcl I.ok.glob hgs hcode hC hP trivial ?_ a2 fun ctv doc h' tk hk hsz=>?_
  .simp [codeAmong,rawInt]
  have J:=I.made1 (tk:=tk) (fo:=PySem.W.fnMade iname iq ip ib isc (closFrom X.env.cells isc.names []) doc ((X.mg "__name__").getD .none) c1 ctv) hk hsz rfl
  have gt:∀ b o,H b=some o->b≠h'.objs.size:=fun b o e=>yAE (yAG (I.hok.lt e) hsz)
  have old:∀ b o,H b=some o->upd H h'.objs.size (FZ (PySem.W.fnMade iname iq ip ib isc (closFrom X.env.cells isc.names []) doc ((X.mg "__name__").getD .none) c1 ctv)) b=some o:=fun b o e=>by rw [ZAJ (gt b o e)];exact e
  have hcc:=hc1.mono (H':=upd H h'.objs.size (FZ (PySem.W.fnMade iname iq ip ib isc (closFrom X.env.cells isc.names []) doc ((X.mg "__name__").getD .none) c1 ctv))) fun b o e=>old b _ e
  exact fin J ⟨fun b o _ e=>old b o e,.inr ⟨c1,old _ _ ht,hcc⟩,⟨doc,_,ctv,c1,ZAC,hcc⟩,I.hok.fresh hsz⟩
end
noncomputable def ZDT (Pt:Addr) (pos:Pos) (iname iq:Str) (ip:Arguments) (ib:List Stmt) (isc:Scope) (fr:List Str) (ix:List Nat) (n:Nat):Sp:=fun vs H Q _=>
 vs.length=n /\ TabSt H Pt pos iq /\ ∀ g H',MadeDef H H' Pt pos g iname iq ip ib isc fr (ix.map fun i=>vs.getD i .non)->Q (.ref g) H'
theorem teller_ok {P:Program} {w:World} {K:W.Frag} {mg:Str->Option Value} {base:Heap} {x qual:Str} {st:Stmt} {f c Pt:Addr} {fd:FuncData} {ps:List Str} {iname iq:Str} {ip:Arguments} {ib:List Stmt} {isc:Scope} {pos rp rpos:Pos} {fr:List Str} {ix:List Nat}
  (F:Fun K x qual st f fd) (S:FnScope (ps++[iname]) ps (ZAB st)) (hcd:fd.code=.ref c) (C:PySem.W.CodeHd base c Pt) (B:ZDI mg base)
  (hb:ZAL st=[.FunctionDef iname ip ib [] none [] isc none iname pos,.Return (some (.Name iname rp)) rpos]) (hiq:∀ L cd,qualnameIn (envOfC qual (ZAB st) L f cd) iname iname=iq) (hd0:ip.defaults=[]) (hk0:ip.kw_defaults=[]) (ha:∀ L cd,annTrees ip none (envOfC qual (ZAB st) L f cd)=[])
  (hloc:(ZAB st).names.lookup iname=some .local) (hdb:(iname == ("__debug__":Str))=false) (hcdn:(iname == ("__classdict__":Str))=false)
  (hfree:∀ y∈isc.names,y.2=.free->y.1∈fr) (hhas:∀ y∈fr,(y,NameKind.free)∈isc.names) (hfc:∀ y∈fr,(ZAB st).names.lookup y=some .cell) (hix:∀ (j:Nat) (y:Str),fr[j]?=some y->∃ i,ix[j]?=some i /\ ps[i]?=some y) (hixl:ix.length=fr.length) :
  FnOk P w K mg base CX0 1 f fd ps (ZDT Pt pos iname iq ip ib isc fr ix ps.length):=by
 obtain ⟨oc,od,kV,doc,pm,an,cdv,ct,osl,rfl,lk,hcd2⟩:=F.ex
 have hcd':cdv=.ref c:=hcd
 refine ⟨fun vs H Q E h=>h.1,fun A outer s H args us vs Q E hr e0 hbn r hsp=>?_⟩
 obtain ⟨hl,hT,hQ⟩:=hsp
 have KX:K.In s.heap:=e0.mod.kin.keeps fun b o e=>(e0.bs b o e).1
 have lim:s.heap.NoLimit:=e0.mod.nolimit.keeps fun b o e=>(e0.bs b o e).1
 have hkind:∀ y∈ps.zip us,(ZAB st).names.lookup y.1=some .local∨((ZAB st).names.lookup y.1=some .cell /\ ((cellsFrom (s.heap.objs.size+1) (ZAB st).names []).lookup y.1).isSome=true):=fun ⟨n,v⟩ hy=>by
  rcases S.par n (List.of_mem_zip hy).1 with q | q
  .exact .inl q
  .exact .inr ⟨q,PySem.W.cellsFrom_some _ _ _ (.inl q)⟩
 refine codeAny_call_function hr.depth (KX _ _ lk) rfl S.co S.gen rfl (PySem.W.codeRec_of KX hcd2) (hbn _ _ _ _ ?_)
 refine wpAny_newFunctionEnv_cells S.kind hkind fun env he s1 xx=>?_
 subst he
 refine ⟨lim.keeps xx.toInCall.keep,codeAny_func ?_⟩
 have I:Inv (cxOf CX0 P w K mg base (ps++[iname]) qual (ZAB st) f cdv A outer s H E).nox [] (start (ps++[iname]) vs) H s1:=(inv_start S hr.hd e0 hl r xx).wish _
 have cellHas:∀ y∈fr,∃ cc,(cellsFrom (s.heap.objs.size+1) (ZAB st).names []).lookup y=some cc:=fun y hy=>ZCY (hfc y hy)
 rw [hb]
 have hiN:(ps++[iname])[ps.length]?=some iname:=by simp
 have d1:=ps_def (X:=(cxOf CX0 P w K mg base (ps++[iname]) qual (ZAB st) f cdv A outer s H E).nox) (i:=ps.length) (pos:=pos) (Pt:=Pt) (c:=c) (iq:=iq) (ip:=ip) (ib:=ib) (isc:=isc) S.nd hiN (.inl hloc) (.inr hloc) hcd' C B (hiq _ _) hd0 hk0 (ha _ _) fun y hy=>cellHas y (hfree _ hy rfl)
 have hlen:(start (ps++[iname]) vs).length=ps.length+1:=by
  unfold start
  simp only [yAF,yAB,yBK,yAZ,List.length_nil]
  omega
 have run:=d1 [] s1 (start (ps++[iname]) vs) H { nx:=fun σ' H'=>∃ g,σ'=(start (ps++[iname]) vs).set ps.length (some (.ref g)) /\ MadeMid H H' Pt pos g iname iq ip ib isc (closFrom (cellsFrom (s.heap.objs.size+1) (ZAB st).names []) isc.names []),rt:=fun _ _=>False } I ⟨hT,fun g H' M=>⟨g,rfl,M⟩⟩
 refine wpAny_execs_cons (wpAny_mono run (fun fl s2 q=>?_) fun e s' z=>z.elim)
 cases fl with
 | ret v=>obtain ⟨_,_,_,_,_,q⟩:=q;exact q.elim
 | brk=>obtain ⟨_,_,_,q⟩:=q;exact q.elim
 | cont=>obtain ⟨_,_,_,q⟩:=q;exact q.elim
 | next=>
  obtain ⟨σ',H',J,g,rfl,M⟩:=q
  have v1:=pe_var (pos:=rp) (X:=(cxOf CX0 P w K mg base (ps++[iname]) qual (ZAB st) f cdv A outer s H E).nox) hiN (.inl hloc) hdb hcdn [] s2 _ H' (fun v H2=>v=.ref g /\ H2=H') J ⟨.ref g,by rw [List.getElem?_set_self (by rw [hlen];omega)],rfl,rfl⟩
  refine wpAny_execs_cons (wpAny_Return_some (wpAny_mono v1 (fun u s3 q=>?_) fun e s' z=>z.elim))
  obtain ⟨v,H2,J2,rv,rfl,rfl⟩:=q
  cases rv
  have un:Un (frs outer) [] H H2 s.heap s3.heap:=J2.base
  have nex:∀ b:Addr,b∉([]:List Addr):=fun b=>by simp
  have inj:=J2.ok.inj
  have cAt:∀ (j:Nat) (y:Str),fr[j]?=some y->∃ v cc uu,(ix.map fun i=>vs.getD i .non)[j]?=some v /\ (cellsFrom (s.heap.objs.size+1) (ZAB st).names []).lookup y=some cc /\ RelV v uu /\ s3.heap.IsCell cc (some uu):=fun j y hj=>by
   obtain ⟨i,h1,h2⟩:=hix j y hj
   have hi:i < ps.length:=(yAI.mp h2).1
   obtain ⟨v,hv⟩:∃ v,vs[i]?=some v:=⟨_,yAC (by omega)⟩
   obtain ⟨m,_,hm⟩:=J2.loc
   have hs:((start (ps++[iname]) vs).set ps.length (some (.ref g)))[i]?=some (some v):=by
    rw [List.getElem?_set_ne (by omega)]
    unfold start
    rw [yAO (by rw [yAB];omega),yAU,hv]
    rfl
   have hN:(ps++[iname])[i]?=some y:=by rw [yAO hi];exact h2
   obtain ⟨uu,ru,lk2⟩:=hm i y v hN hs (.inr (.inl (hfc y (yAH hj))))
   refine ⟨v,?_⟩
   rcases lk2 with ⟨k1,_⟩ | ⟨_,cc,e1,e2⟩
   .have k2:(ZAB st).names.lookup y=some .local:=k1
    rw [hfc y (yAH hj)] at k2
    cases k2
   .refine ⟨cc,uu,?_,e1,ru,e2⟩
    rw [yAU,h1]
    show some (vs.getD i .non)=some v
    rw [List.getD_eq_getElem?_getD,hv]
    rfl
  have clk:∀ y cc,(closFrom (cellsFrom (s.heap.objs.size+1) (ZAB st).names []) isc.names []).lookup y=some cc->y∈fr /\ (cellsFrom (s.heap.objs.size+1) (ZAB st).names []).lookup y=some cc:=fun y cc h=>by
   rcases ZBd _ _ y cc (PySem.mem_of_lookup h) with z | ⟨z1,z2⟩
   .cases z
   .have hy:=hfree _ z1 rfl
    obtain ⟨c3,h3⟩:=cellHas y hy
    rw [h3] at z2
    exact ⟨hy,by rw [h3];exact congrArg some z2.symm⟩
  have clh:∀ y cc,y∈fr->(cellsFrom (s.heap.objs.size+1) (ZAB st).names []).lookup y=some cc->(closFrom (cellsFrom (s.heap.objs.size+1) (ZAB st).names []) isc.names []).lookup y=some cc:=fun y cc hy h=>by
   obtain ⟨c3,h3⟩:=ZBa (ZBe (cells:=cellsFrom (s.heap.objs.size+1) (ZAB st).names []) isc.names [] y (hhas y hy))
   have:=(clk y c3 h3).2
   rw [h] at this
   rw [h3,Option.some.inj this]
  have cnew:∀ y cc,(closFrom (cellsFrom (s.heap.objs.size+1) (ZAB st).names []) isc.names []).lookup y=some cc->s.heap.objs.size <= cc /\ H2 cc=none /\ ∃ o u,s3.heap.get? cc=some o /\ o.data=.cell u:=fun y cc h=>by
   obtain ⟨hy,h2⟩:=clk y cc h
   obtain ⟨u,o,e1,e2⟩:=J2.cell y cc h2
   exact ⟨Nat.le_of_lt (xx.above y cc (PySem.mem_of_lookup h2)),J2.freeC y cc h2,o,u,e1,e2⟩
  generalize closFrom (cellsFrom (s.heap.objs.size+1) (ZAB st).names []) isc.names []=cl at M clk clh cnew
  have tr:∀ b,¬ (∃ y,cl.lookup y=some b)->back cl (fun b=>(s3.heap.get? b).map FZ) H2 b=H2 b:=fun b n=>ZCU n
  have tc:∀ y b o,cl.lookup y=some b->s3.heap.get? b=some o->back cl (fun b=>(s3.heap.get? b).map FZ) H2 b=some (FZ o):=fun y b o h e=>by rw [ZDX h,e];rfl
  have oldn:∀ b,b < s.heap.objs.size->¬ ∃ y,cl.lookup y=some b:=fun b hb ⟨y,z⟩=>absurd (cnew y b z).1 (Nat.not_le.mpr hb)
  have up:∀ b o,H2 b=some o->back cl (fun b=>(s3.heap.get? b).map FZ) H2 b=some o:=fun b o e=>by
   rw [tr b fun ⟨y,z⟩=>by rw [(cnew y b z).2.1] at e;cases e];exact e
  refine ⟨.ref g,back cl (fun b=>(s3.heap.get? b).map FZ) H2,J2.os,J2.bare,⟨un.keep,un.slot,fun b o e n hx=>?_,un.there,fun b xs e=>up _ _ (un.tups b xs e),fun b o u e=>up _ _ (un.frzs b o u e),fun b qs e=>?_⟩,fun b o e=>?_,rfl,hQ g _ ⟨fun b o n e=>up _ _ (M.same b o n e),?_,⟨cl,?_,fun y cc h=>(clk y cc h).1,fun y z cc h1 h2=>inj y z cc (clk y cc h1).2 (clk z cc h2).2,fun j y hj=>?_,?_⟩,M.fresh⟩⟩
  .rw [tr b (oldn b (Heap.lt_size e))];exact un.free b o e n hx
  .obtain ⟨more,e2⟩:=un.tbls b qs e
   exact ⟨more,up _ _ e2⟩
  .by_cases q:∃ y,cl.lookup y=some b
   .obtain ⟨y,q⟩:=q
    obtain ⟨_,_,o2,u2,e2,_⟩:=cnew y b q
    rw [tc y b o2 q e2] at e
    cases e
    exact ZDu e2
   .rw [tr b q] at e
    exact (J2.hok b o e).stay (fun c v _ q=>q) (fun c q=>up c _ q) fun c xs q=>up c _ q
  .exact M.tab.mono (by
    rcases M.tab with z | ⟨_,z,_⟩
    .rw [z];exact up _ _ z
    .rw [z];exact up _ _ z) fun b o e=>up b _ e
  .obtain ⟨d1,d2,d3,c3,e1,e2⟩:=M.obj
   exact ⟨d1,d2,d3,c3,up _ _ e1,e2.mono fun b o e=>up b _ e⟩
  .obtain ⟨v,cc,uu,a1,a2,a3,o,a4,a5⟩:=cAt j y hj
   have hl2:=clh y cc (yAH hj) a2
   exact ⟨v,cc,uu,o,a1,hl2,a3,tc y cc o hl2 a4,a5⟩
  .rw [yAB];exact hixl
noncomputable def ZED (tabs:List (Addr×Addr)) (H:Hp):Prop:=∀ q∈tabs,H q.2=some (.tbl #[])
theorem law_callT {P:Program} {w:World} {K:W.Frag} {mg mb:Str->Option Value} {CX:CXT} {k:Nat} {fa a:Addr} {fd:FuncData} {x:Str} {sp:Sp} {s₁:Shared} {vs:List Value} {ns:List Int} {tabs:List (Addr×Addr)}
  (KX:K.In s₁.heap) (hns:s₁.heap.Ns mainGlobals mg) (hb:s₁.heap.Ns builtinsNs mb) (hbb:∀ x:Str,x≠"__name__"->mb x=bootBuiltins x) (hlim:s₁.heap.NoLimit) (hg:s₁.gens=#[])
  (ha:s₁.heap.get? a=some { cls:=.type "list",data:=.seq vs.toArray }) (hi:IntsAre vs ns) (hl:ns.length <= sizeLine) (hr:Room k callerA)
  (hT:∀ q∈tabs,PySem.W.CodeHd s₁.heap q.1 q.2 /\ s₁.heap.get? q.2=some (PySem.W.tabObj #[])) (nt:PySem.W.noTabs K=true) (hbm:ZDI mg s₁.heap)
  (F:∀ base:Heap,K.In base->base.Ns mainGlobals mg->(∀ q∈tabs,PySem.W.CodeHd base q.1 q.2)->ZDI mg base->FnOk P w K mg base CX k fa fd [x] sp) (hbind:∀ (s:Shared) (u:Value),BindsTo s fd ⟨[u],[]⟩ [(x,u)])
  (hsp:∀ H:Hp,ZED tabs H->SqL K H a (ns.map V.int)->sp [.ref a] H (fun v _=>v=.bl true) fun _ _ _=>False)
  (hCX:∀ H e s',CX [] H s₁ (fun _ _ _=>False) e s'->False) :
  codeAny (model P w) callerA (.call (.ref fa) ⟨[.ref a],[]⟩) (fun r s'=>r=.ok (.ret (.bool true)) /\ OldK s₁.heap s'.heap /\ s'.os=s₁.os /\ AllBare s'.gens) s₁:=by
 have rv:=vals_ints hi
 have lenV:=hi.length
 have core:∀ H:Hp,SqL K H a (ns.map V.int)->HOk P w H s₁.heap->(∀ b o,H b=some o->(b=a /\ K.lookup a=none /\ ∃ ob xs,o=.frz ob (.lst xs))∨(o=.tbl #[] /\ ∃ q∈tabs,q.2=b))->ZED tabs H ->
   codeAny (model P w) callerA (.call (.ref fa) ⟨[.ref a],[]⟩) (fun r s'=>r=.ok (.ret (.bool true)) /\ OldK s₁.heap s'.heap /\ s'.os=s₁.os /\ AllBare s'.gens) s₁:=by
  intro H hS hok hA hO
  have base_of:∀ {b:Addr} {o:Obj},s₁.heap.get? b=some o->H b=none->(hidT s₁.heap H).get? b=some o:=fun e n=>hidT_get e n
  have noObj:∀ {b:Addr} {o:Obj},s₁.heap.get? b=some o->(∀ vs' n',o.data≠.seq vs' n')->(o.cls=.none->∀ vs',o.data≠.fields vs')->H b=none:=fun {b o} e d1 d2=>by
   cases q:H b with
   | none=>rfl
   | some u=>
    rcases hA b u q with ⟨e',_⟩ | ⟨_,q',hq,e'⟩
    .subst e'
     rw [ha] at e;cases e
     exact absurd rfl (d1 _ _)
    .subst e'
     rw [(hT q' hq).2] at e;cases e
     exact absurd rfl (d2 rfl _)
  have nsK:∀ {b:Addr} {m:Str->Option Value},s₁.heap.Ns b m->(hidT s₁.heap H).Ns b m:=fun {b m} ⟨o,es,ep,e,d,r⟩=>⟨o,es,ep,base_of e (noObj e (by rw [d];intro _ _ z;cases z) (fun _=>by rw [d];intro _ z;cases z)),d,r⟩
  have hKb:K.In (hidT s₁.heap H):=fun b o e=>base_of (KX b o e) (by
   cases q:H b with
   | none=>rfl
   | some u=>
    rcases hA b u q with ⟨e',n,_⟩ | ⟨_,q',hq,e'⟩
    .subst e';rw [n] at e;cases e
    .subst e'
     have e2:=KX _ _ e
     rw [(hT q' hq).2] at e2
     cases e2
     have h2:=List.all_eq_true.mp nt _ (PySem.W.mem_of_lookupK e)
     exact absurd (show false=true from h2) yAM)
  have hM:Mod K mg (hidT s₁.heap H):=⟨hKb,nsK hns,⟨mb,nsK hb,hbb⟩,let ⟨mc,h1,h2⟩:=hlim;⟨mc,nsK h1,h2⟩⟩
  have e0:Env0 P w K mg (hidT s₁.heap H) callerA [] s₁ H:=⟨rfl,hM,fun b o e=>of_hidT e,Nat.le_of_eq (hidT_size _ _),trivial,fun b hb=>absurd (show b∈([]:List Addr) from hb) (by simp),hok,.of_eq hg⟩
  have hC:∀ q∈tabs,PySem.W.CodeHd (hidT s₁.heap H) q.1 q.2:=fun q hq=>by
   obtain ⟨o,vs,file,tf,flags,tg,inF,text,tt,e1,e2,e3,r⟩:=(hT q hq).1
   exact ⟨o,vs,file,tf,flags,tg,inF,text,tt,base_of e1 (noObj e1 (by rw [e3];intro _ _ z;cases z) (fun z=>by rw [e2] at z;cases z)),e2,e3,r⟩
  have hB:ZDI mg (hidT s₁.heap H):=by
   obtain ⟨bm,ob,b1,b2,b3,b4,b5,b6⟩:=hbm
   exact ⟨bm,ob,b1,b2,base_of b3 (noObj b3 (by rw [b6];intro _ _ z;cases z) (fun z=>by rw [b4] at z;cases z)),b4,b5,b6⟩
  refine codeAny_mono ((F _ hKb (nsK hns) hC hB).run callerA [] s₁ H ⟨[.ref a],[]⟩ [.ref a] [.ref a] _ _ hr e0 (hbind s₁ (.ref a)) (.cons rfl .nil) (hsp H hO hS)) fun r s' h=>?_
  cases r with
  | error e=>exact (hCX H e s' h).elim
  | ok fl=>
   cases fl with
   | next=>exact False.elim h
   | brk=>exact False.elim h
   | cont=>exact False.elim h
   | ret u=>
    obtain ⟨v,H',os,bare,un,hok',r',q⟩:=h
    have q':v=.bl true:=q
    subst q'
    obtain rfl:u=Value.bool true:=r'
    have nfs:∀ b:Addr,b∉frs ([]:List Env):=fun b z=>absurd (show b∈([]:List Addr) from z) (by simp)
    refine ⟨rfl,⟨fun b o e=>?_,fun b o e=>un.there b o e (by simp)⟩,os,bare⟩
    cases q:H b with
    | none=>exact .inl (un.keep b o e q (nfs b) (by simp))
    | some u=>
     rcases hA b u q with ⟨_,_,ob,xs,z⟩ | ⟨z,q',hq,e'⟩
     .subst z
      have z2:=un.frzs b ob _ q
      obtain ⟨e1,_⟩:=hok b _ q
      obtain ⟨e2,_⟩:=hok' b _ z2
      rw [e] at e1;cases e1
      exact .inl e2
     .subst z
      subst e'
      obtain ⟨more,z2⟩:=un.tbls _ _ q
      have e2:s'.heap.get? q'.2=some (PySem.W.tabObj (#[]++more)):=hok' _ _ z2
      have e3:=(hT q' hq).2
      rw [e] at e3
      have e4:o=PySem.W.tabObj #[]:=Option.some.inj e3
      subst e4
      exact .inr (.inl ⟨((hT q' hq).1.tab (hT q' hq).2).isCodeTable,rfl,#[],more,rfl,e2⟩)
 have tabA:∀ q∈tabs,q.2≠a:=fun q hq z=>by
  have e:=(hT q hq).2
  rw [z,ha] at e;cases e
 cases hk:K.lookup a with
 | some o=>
  have e:=KX a o hk
  rw [ha] at e
  cases e
  refine core (fun b=>if b∈tabs.map (·.2) then some (.tbl #[]) else none) (.inr ⟨_,vs.toArray,_,hk,rfl,rfl,rfl,by rw [yAN,lenV];exact hl,by simpa using rv⟩) (fun b u z=>?_) (fun b u z=>?_) fun q hq=>if_pos (List.mem_map_of_mem hq)
  .by_cases hb:b∈tabs.map (·.2)
   .have z':=(if_pos hb).symm.trans z
    cases z'
    obtain ⟨q,hq,rfl⟩:=yBC.mp hb
    exact (hT q hq).2
   .have z':=(if_neg hb).symm.trans z
    cases z'
  .by_cases hb:b∈tabs.map (·.2)
   .have z':=(if_pos hb).symm.trans z
    cases z'
    obtain ⟨q,hq,e⟩:=yBC.mp hb
    exact .inr ⟨rfl,q,hq,e⟩
   .have z':=(if_neg hb).symm.trans z
    cases z'
 | none=>
  refine core (fun b=>if b∈tabs.map (·.2) then some (.tbl #[]) else if b=a then some (.frz { cls:=.type "list",data:=.seq vs.toArray } (.lst (ns.map V.int))) else none) (.inl (.inr ⟨{ cls:=.type "list",data:=.seq vs.toArray },?_⟩)) (fun b u z=>?_) (fun b u z=>?_) fun q hq=>if_pos (List.mem_map_of_mem hq)
  .dsimp only
   rw [if_neg,if_pos rfl]
   intro z
   obtain ⟨q,hq,e⟩:=yBC.mp z
   exact tabA q hq e
  .by_cases hb:b∈tabs.map (·.2)
   .have z':=(if_pos hb).symm.trans z
    cases z'
    obtain ⟨q,hq,rfl⟩:=yBC.mp hb
    exact (hT q hq).2
   .have z':=(if_neg hb).symm.trans z
    by_cases hba:b=a
    .have z':=(if_pos hba).symm.trans z'
     cases z'
     subst hba
     exact ⟨ha,by rw [yAB];exact hl,vs,_,rv,ha⟩
    .have z':=(if_neg hba).symm.trans z'
     cases z'
  .by_cases hb:b∈tabs.map (·.2)
   .have z':=(if_pos hb).symm.trans z
    cases z'
    obtain ⟨q,hq,e⟩:=yBC.mp hb
    exact .inr ⟨rfl,q,hq,e⟩
   .have z':=(if_neg hb).symm.trans z
    by_cases hba:b=a
    .have z':=(if_pos hba).symm.trans z'
     cases z'
     exact .inl ⟨hba,hk,_,_,rfl⟩
    .have z':=(if_neg hba).symm.trans z'
     cases z'
noncomputable def ZDm (K:W.Frag) (tabs:List (Addr×Addr)):Sp:=fun vs H Q _=>∃ (a:Addr) (ns:List Int),vs=[.ref a] /\ SqL K H a (ns.map V.int) /\ ns.length <= 63 /\ ZED tabs H /\ ∀ H',Q (.bl true) H'
theorem tabIn_of {K:W.Frag} {x:Str} {f c Pt:Addr} {oc oc2:Value} {od od2:Option Addr} {fd:FuncData} {sl sl2:Array (Option Value)} {vs:Array Value} (a:W.nsIn K mainGlobals x=some (some (.ref f))) (l:K.lookup f=some ⟨oc,od,.func fd,sl⟩) (hc:fd.code=.ref c)
  (lc:K.lookup c=some ⟨oc2,od2,.fields vs,sl2⟩) (tp:vs[11]?=some (.ref Pt)):PySem.W.tabIn K x=some (c,Pt):=by
 unfold PySem.W.tabIn
 rw [a]
 dsimp only
 rw [l]
 dsimp only
 rw [hc]
 dsimp only
 rw [lc]
 dsimp only
 rw [tp]
theorem walk_ofT2 {l:PySem.W.OpenLaw} {k:Nat} {q:Program} {loose:List Str} {XP:(Str->Option Value)->Heap->Prop} {YP:World->Heap->Prop} {d:DefRec} {K:Params->W.Frag} {x:Str} {names:List Str}
  (hn:l.most=some 63) (hdf:d.params.defaults=[]) (hr:Room k callerA)
  (hY:∀ (w:World) (h:Heap),YP w h->(K w.params).In h) (hrec:∀ y∈names,∃ dr,(recsOf q).find? (fun e=>e.name == y)=some dr)
  (F:∀ (w:World) (mg:Str->Option Value) (fa:Addr) (h:Heap),(K w.params).In h->h.Ns mainGlobals mg->mg d.name=some (.ref fa) ->
   ∃ (tabs:List (Addr×Addr)) (fd:FuncData),PySem.W.noTabs (K w.params)=true /\ (∀ t∈tabs,∃ y∈names,PySem.W.tabIn (K w.params) y=some t) /\ (∀ (s:Shared) (u:Value),BindsTo s fd ⟨[u],[]⟩ [(x,u)]) /\
    ∀ base:Heap,(K w.params).In base->base.Ns mainGlobals mg->(∀ t∈tabs,PySem.W.CodeHd base t.1 t.2)->ZDI mg base->FnOk l.prog w (K w.params) mg base CX0 k fa fd [x] (ZDm (K w.params) tabs)) :
  PySem.W.WalkO q loose XP YP l.row.toRowW d [] (fun f vs=>PySem.call f vs):=by
 refine Att.attach_call hn hdf fun w s₀ s₁ mg mb fa o pm cd doc a vs ns G Y ho hd hcd hmg hobj hints hlen hg=>?_
 have KX:=hY w _ Y
 obtain ⟨tabs,fd,nt,ht,hb,hF⟩:=F w mg fa _ KX G.T.g hmg
 refine law_callT (tabs:=tabs) KX G.T.g G.T.b G.T.builtins G.T.nolimit hg hobj hints (yAD hlen (by decide)) hr (fun t h2=>?_) nt G.T.bmain hF hb (fun H hO hS=>⟨a,ns,rfl,hS,hlen,hO,fun _=>rfl⟩) fun H e s' z=>z
 obtain ⟨y,hy,e2⟩:=ht t h2
 obtain ⟨dr,e1⟩:=hrec y hy
 exact PySem.W.tab_of G.T KX e1 e2
theorem hix_of {ix:List Nat} {ps fr:List Str} (h:ix.map (fun i=>ps[i]?)=fr.map some):∀ (j:Nat) (y:Str),fr[j]?=some y->∃ i,ix[j]?=some i /\ ps[i]?=some y:=fun j y e=>by
 have:=congrArg (fun l=>l[j]?) h
 simp only [yAU,e,Option.map_some] at this
 cases q:ix[j]? with
 | none=>rw [q] at this;cases this
 | some i=>rw [q] at this;exact ⟨i,rfl,by simpa using this⟩
noncomputable def inBody (s:Stmt) (j:Nat):Stmt:=(ZAL s).getD j (.Pass ⟨0,0,0,0⟩)
noncomputable def ZDW (s:Stmt):Pos:=match s with
 | .FunctionDef _ _ _ _ _ _ _ _ _ pos=>pos
 | _=>⟨0,0,0,0⟩
theorem cx_cloK {P:Program} {w:World} {K:W.Frag} {mg:Str->Option Value} {base:Heap} {N:List Str} {qual:Str} {scope:Scope} {f:Addr} {cd:Value} {cl:List (Str×Addr)} {A:Around} {outer:List Env} {s:Shared} {H:Hp}:(ZDe P w K mg base N qual scope f cd cl A outer s H).K=K:=rfl
section
variable {prog:Program} {w:World} {A:Around} {R:Result->Shared->Prop} {I:Addr} {fp wr:List Addr} {n:Nat} {P:Nat->Value->Prop} {St:Nat->Heap->Prop}
theorem maxd_loop {kw:List (Str×Value)} (W:Walks prog w A.in1 I fp wr n P St) (bt:Nat->Nat->Bool) (hcmp:CmpOf prog w A.in1 .Gt P bt) (S:Addr) (hSf:S∉fp) :
  ∀ (k j:Nat) (s:Shared) (vb:Value) (c:Nat),n-(j+1)=k->j+1 <= n->St (j+1) s.heap->P (argBest bt j) vb ->
  s.heap.get? S=some { cls:=.type "list",dict:=none,data:=.seq #[vb,vb] c,slots:=#[] } ->
  (∀ v h' tk,P (argBest bt (n-1)) v->(∀ b o,b∉wr->b≠S->s.heap.get? b=some o->h'.get? b=some o)->R (.ok (.ret v)) { s with heap:=h',toks:=tk }) ->
  codeAny (model prog w) A (.builtin "max.loop" ⟨[.ref I,.none,.ref S],kw⟩) R s:=by
 have hSw:S∉wr:=fun h=>hSf (W.sub _ h)
 have hname:(toString "max"++toString ".loop":String)="max.loop":=by decide
 intro k
 induction k with
 | zero=>
  intro j s vb c hk hj hst hPb hS hR
  have hin:j+1=n:=by omega
  refine codeAny_builtin F.entry_max_loop ?_
  rw [Around.under_plainId F.plain_max_loop _]
  show wpAny _ A.in1 (seqItems? (.ref S) >>= _) _ _ s
  refine wpAny_bind (wpAny_seqItems hS rfl ?_)
  show wpAny _ A.in1 (tryCatch (pyNext (.ref I)) _ >>= _) _ _ s
  refine wpAny_bind (wpAny_tryCatch (W.done s _ _ (hin ▸ hst) fun h' tk hk'=>?_))
  have hS':=hk' S _ hSw hS
  show wpAny _ A.in1 (updateSeq S (fun _=>#[]) >>= _) _ _ _
  refine wpAny_bind ?_
  refine wpAny_updateSeq hS' rfl (wpAny_bind (wpAny_letGo (wpAny_pure ?_)))
  refine hR vb _ tk (by rw [<- hin];exact hPb) fun b o hbw hbS e=>(Heap.get?_update_other _ _ (Ne.symm hbS)).trans (hk' b o hbw e)
 | succ k ih=>
  intro j s vb c hk hj hst hPb hS hR
  have hlt:j+1 < n:=by omega
  refine codeAny_builtin F.entry_max_loop ?_
  rw [Around.under_plainId F.plain_max_loop _]
  show wpAny _ A.in1 (seqItems? (.ref S) >>= _) _ _ s
  refine wpAny_bind (wpAny_seqItems hS rfl ?_)
  show wpAny _ A.in1 (tryCatch (pyNext (.ref I)) _ >>= _) _ _ s
  refine wpAny_bind (wpAny_tryCatch (W.item (j+1) s _ _ hlt hst fun v h' tk hP hst' hk'=>?_))
  have hS':=hk' S _ hSw hS
  show wpAny _ A.in1 (tryCatch (holding [v,v] (richCompare .Gt v vb >>= _)) _ >>= _) _ _ _
  refine wpAny_bind (wpAny_tryCatch (wpAny_holding (wpAny_bind (hcmp (j+1) (argBest bt j) v vb _ _ _ hP hPb ?_))))
  refine wpAny_bind (wpAny_holding (wpAny_truthy_bool ?_))
  refine wpAny_bind (wpAny_letGo (wpAny_pure ?_))
  cases hb:bt (j+1) (argBest bt j) with
  | true=>
   simp only [if_true]
   refine wpAny_bind ?_
   refine wpAny_updateSeq hS' rfl (wpAny_bind (wpAny_letGo ?_))
   rw [hname]
   refine wpAny_pure ⟨plainId_quiet F.plain_max_loop _,ih (j+1) _ v _ (by omega) hlt (W.frame _ _ _ hst' fun b hbf o e=>?_) (by simp only [argBest,hb,if_true];exact hP) (Heap.get?_update_self _ hS' rfl)
    fun v' h'' tk'' hP' hk''=>?_⟩
   .exact (Heap.get?_update_other _ _ (fun h:S=b=>hSf (by rw [h];exact hbf))).trans e
   .exact hR v' h'' tk'' hP' fun b o hbw hbS e=>hk'' b o hbw hbS ((Heap.get?_update_other _ _ (Ne.symm hbS)).trans (hk' b o hbw e))
  | false=>
   simp only [yBH,if_false]
   refine wpAny_bind (wpAny_letGo ?_)
   rw [hname]
   refine wpAny_pure ⟨plainId_quiet F.plain_max_loop _,ih (j+1) _ vb c (by omega) hlt hst' (by simp only [argBest,hb,yBH,if_false];exact hPb) hS' fun v' h'' tk'' hP' hk''=>?_⟩
   exact hR v' h'' tk'' hP' fun b o hbw hbS e=>hk'' b o hbw hbS (hk' b o hbw e)
theorem maxd_first {kw:List (Str×Value)} (W:Walks prog w A.in1 I fp wr n P St) (bt:Nat->Nat->Bool) (hcmp:CmpOf prog w A.in1 .Gt P bt) (S:Addr) (hSf:S∉fp) (hn:0 < n) {s:Shared} {c:Nat} (hst:St 0 s.heap)
  (hS:s.heap.get? S=some { cls:=.type "list",dict:=none,data:=.seq #[] c,slots:=#[] })
  (hR:∀ v h' tk,P (argBest bt (n-1)) v->(∀ b o,b∉wr->b≠S->s.heap.get? b=some o->h'.get? b=some o)->R (.ok (.ret v)) { s with heap:=h',toks:=tk }) :
  codeAny (model prog w) A (.builtin "max.loop" ⟨[.ref I,.none,.ref S],kw⟩) R s:=by
 have hSw:S∉wr:=fun h=>hSf (W.sub _ h)
 have hname:(toString "max"++toString ".loop":String)="max.loop":=by decide
 refine codeAny_builtin F.entry_max_loop ?_
 rw [Around.under_plainId F.plain_max_loop _]
 show wpAny _ A.in1 (seqItems? (.ref S) >>= _) _ _ s
 refine wpAny_bind (wpAny_seqItems hS rfl ?_)
 show wpAny _ A.in1 (tryCatch (pyNext (.ref I)) _ >>= _) _ _ s
 refine wpAny_bind (wpAny_tryCatch (W.item 0 s _ _ hn hst fun v h' tk hP hst' hk'=>?_))
 have hS':=hk' S _ hSw hS
 show wpAny _ A.in1 (updateSeq S (fun _=>#[v,v]) >>= _) _ _ _
 refine wpAny_bind ?_
 refine wpAny_updateSeq hS' rfl ?_
 rw [hname]
 refine wpAny_pure ⟨plainId_quiet F.plain_max_loop _,maxd_loop W bt hcmp S hSf _ 0 _ v _ rfl hn (W.frame _ _ _ hst' fun b hbf o e=>?_) hP (Heap.get?_update_self _ hS' rfl) fun v' h'' tk'' hP' hk''=>?_⟩
 .exact (Heap.get?_update_other _ _ (fun h:S=b=>hSf (by rw [h];exact hbf))).trans e
 .exact hR v' h'' tk'' hP' fun b o hbw hbS e=>hk'' b o hbw hbS ((Heap.get?_update_other _ _ (Ne.symm hbS)).trans (hk' b o hbw e))
theorem maxd_none {d:Value} (W:Walks prog w A.in1 I fp wr 0 P St) (S:Addr) (hSf:S∉fp) {s:Shared} {c:Nat} (hst:St 0 s.heap)
  (hS:s.heap.get? S=some { cls:=.type "list",dict:=none,data:=.seq #[] c,slots:=#[] })
  (hR:∀ h' tk,(∀ b o,b∉wr->b≠S->s.heap.get? b=some o->h'.get? b=some o)->R (.ok (.ret d)) { s with heap:=h',toks:=tk }) :
  codeAny (model prog w) A (.builtin "max.loop" ⟨[.ref I,.none,.ref S],[("default",d)]⟩) R s:=by
 have hSw:S∉wr:=fun h=>hSf (W.sub _ h)
 refine codeAny_builtin F.entry_max_loop ?_
 rw [Around.under_plainId F.plain_max_loop _]
 show wpAny _ A.in1 (seqItems? (.ref S) >>= _) _ _ s
 refine wpAny_bind (wpAny_seqItems hS rfl ?_)
 show wpAny _ A.in1 (tryCatch (pyNext (.ref I)) _ >>= _) _ _ s
 refine wpAny_bind (wpAny_tryCatch (W.done s _ _ hst fun h' tk hk'=>?_))
 exact wpAny_bind (wpAny_rule (wpAny_pure (hR h' tk fun b o hbw _ e=>hk' b o hbw e)))
end
theorem args_maxd (a v:Value):argsOk "max" ⟨[a],[(Str.ofString "default",v)]⟩:=by unfold argsOk;kernel_rfl
section
variable {prog:Program} {w:World} {A:Around} {E:Value->Shared->Prop} {s:Shared} {l:Addr}
theorem maxd_ints {d:Value} {its:List Value} {ns:List Int} {Q:Value->Shared->Prop} (hh:A.handled=none) (hl:s.heap.IsList l its.toArray) (hi:IntsAre its ns)
  (h0:ns=[]->∀ h' tk,(∀ b o,s.heap.get? b=some o->h'.get? b=some o)->Q d { s with heap:=h',toks:=tk })
  (h1:∀ M t h' tk,M∈ns->(∀ a∈ns,a <= M)->(∀ b o,s.heap.get? b=some o->h'.get? b=some o)->Q (.int M t) { s with heap:=h',toks:=tk }) :
  wpAny (model prog w) A (call (.builtin "max") [.ref l] [("default",d)]) Q E s:=by
 have hname:(toString "max"++toString ".loop":String)="max.loop":=by decide
 obtain ⟨xs,e⟩:=hi.allInts.items
 have hns:ns=xs.toList.map (·.1):=by
  rw [<- hi.numsOf,<- nums_intItems,<- e]
 rw [e] at hl
 refine PyProof.Rows.kmb_tree F.kind_max F.plain_max F.entry_max (args_maxd _ _) ?_
 show wpAny _ A.in1 (Builtin.Builtins.bindParams "max" ["key","default"] 0 ⟨[],[("default",d)]⟩ >>= _) _ _ s
 refine wpAny_bind (wpAny_of_eq (show Builtin.Builtins.bindParams "max" ["key","default"] 0 ⟨[],[("default",d)]⟩=pure [none,some d] from rfl) ?_)
 refine wpAny_bind (wpAny_pure ?_)
 refine wpAny_bind (iter_intList hl fun s₂ e st hfp hlI=>?_)
 subst e
 refine wpAny_bind (wpAny_newObj_type ?_)
 rw [hname]
 have W:=Walks.list (prog:=prog) (w:=w) (A:=A.in1) hh _ l hlI (intItems xs)
 have hSf:∀ {z:Nat} {f:List Addr},(∀ b∈f,b < z)->z∉f:=fun h hm=>yBD _ (h _ hm)
 by_cases hz:xs.size=0
 .have hz':(intItems xs).size=0:=by simpa [intItems] using hz
  rw [hz'] at W
  refine wpAny_pure ⟨plainId_quiet F.plain_max_loop _,maxd_none W _ (hSf hfp) (W.frame _ _ _ st fun b _ o e=>Heap.get?_push_of_some _ e) (Heap.get?_push_size _ rfl) fun h' tk hk=>?_⟩
  refine h0 (by rw [hns,List.map_eq_nil_iff,<- Array.toList_empty];exact congrArg Array.toList (Array.eq_empty_of_size_eq_zero hz)) h' tk ?_
  exact old_kept fun b o hbw e=>hk b o hbw (yAE (Heap.lt_size e)) (Heap.get?_push_of_some _ e)
 .refine wpAny_pure ⟨plainId_quiet F.plain_max_loop _,maxd_first W _ (CmpOf.ints_gt (numAt xs) (fun _ _=>intItems_at)) _ (hSf hfp) (by simp [intItems];omega) (W.frame _ _ _ st fun b _ o e=>Heap.get?_push_of_some _ e) (Heap.get?_push_size _ rfl) fun v h' tk hP hk=>?_⟩
  have hP':(intItems xs)[argBest (fun i j=>decide (numAt xs i > numAt xs j)) (xs.size-1)]?=some v:=by simpa [intItems] using hP
  obtain ⟨t,rfl⟩:=intItems_at hP'
  obtain ⟨g1,g2⟩:=argBest_gt (numAt xs) (xs.size-1)
  refine h1 _ t h' tk ?_ (fun a ha=>?_) (old_kept fun b o hbw e=>hk b o hbw (yAE (Heap.lt_size e)) (Heap.get?_push_of_some _ e))
  .rw [hns,numAt_eq];exact getD_mem (by rw [yAB,yBJ];omega)
  .rw [hns] at ha
   obtain ⟨j,hj,rfl⟩:=mem_getD ha
   rw [yAB,yBJ] at hj
   rw [<- numAt_eq];exact g2 j (by omega)
end
noncomputable def maxD (d:Int):List Int->Int
 | []=>d
 | x::r=>r.foldl (fun m y=>if m < y then y else m) x
theorem ZCL:∀ (r:List Int) (x:Int),(r.foldl (fun m y=>if m < y then y else m) x=x∨r.foldl (fun m y=>if m < y then y else m) x∈r) /\ x <= r.foldl (fun m y=>if m < y then y else m) x /\ ∀ y∈r,y <= r.foldl (fun m y=>if m < y then y else m) x
 | [],x=>⟨.inl rfl,Int.le_refl _,fun _ h=>(nomatch h)⟩
 | y::r,x=>by
  rw [List.foldl_cons]
  by_cases hxy:x < y
  .rw [if_pos hxy]
   obtain ⟨a,b,c⟩:=ZCL r y
   refine ⟨?_,by omega,fun z hz=>?_⟩
   .rcases a with a | a
    .rw [a]
     exact .inr yAK
    .exact .inr (yAP _ a)
   .rcases yAL.mp hz with e | hz
    .subst e
     exact b
    .exact c z hz
  .rw [if_neg hxy]
   obtain ⟨a,b,c⟩:=ZCL r x
   refine ⟨?_,b,fun z hz=>?_⟩
   .rcases a with a | a
    .exact .inl a
    .exact .inr (yAP _ a)
   .rcases yAL.mp hz with e | hz
    .subst e
     omega
    .exact c z hz
theorem maxD_eq {d:Int} {ns:List Int} {M:Int} (h1:M∈ns) (h2:∀ a∈ns,a <= M):maxD d ns=M:=by
 cases ns with
 | nil=>cases h1
 | cons x r=>
  obtain ⟨a,b,c⟩:=ZCL r x
  show r.foldl (fun m y=>if m < y then y else m) x=M
  have h3:=h2 _ yAK
  have h4:r.foldl (fun m y=>if m < y then y else m) x <= M:=by
   rcases a with a | a
   .rw [a];exact h3
   .exact h2 _ (yAP _ a)
  rcases yAL.mp h1 with e | e
  .omega
  .have:=c M e
   omega
section
variable {X:Cx} {e d:Expr} {te td:TE} {p pos:Pos} {kpos:Pos}
noncomputable def ZD6 (K:W.Frag) (te td:TE):TE:=fun σ H Q=>te σ H fun x H1=>td σ H1 fun y H2=>∃ a ns dd,x=.ref a /\ y=.int dd /\ SqL K H2 a (ns.map V.int) /\ Q (.int (maxD dd ns)) H2
theorem ZC4 (hc:X.calm=true) (he:PE X e te) (hd:PE X d td) (hg:Gl X "max") (hm:X.mg "max"=none)
  (h1:starEach [e] X.env=(false,eval e X.env)::starEach [] X.env:=by rfl) (h2:backTo pos (starEach [e] X.env)=(false,eval e X.env)::backTo pos (starEach [] X.env):=by rfl)
  (h3:(backTo pos (starEach [e] X.env)).any (·.1)=false:=by rfl) (h4:(backToKw pos (keywordEach [⟨some "default",d,kpos⟩] X.env)).all (·.1.isSome)=true:=by rfl)
  (h5:(backToKw pos (keywordEach [⟨some "default",d,kpos⟩] X.env)).any (·.1.isNone)=false:=by rfl) :
  PE X (.Call (.Name "max" p) [e] [⟨some "default",d,kpos⟩] pos) (ZD6 X.K te td):=by
 intro pins s σ H Q I h
 refine wpAny_Call_Name_kw (ZDG I hg hm PyProof.Rows.boot_max ?_ (by decide) (by decide))
 refine PyProof.Rows.callWith_kw ?_ h2 h3 h4 h5
 rw [h1]
 show wpAny _ _ (spliced ((false,eval e X.env)::backTo pos (starEach [] X.env))) _ _ s
 refine Calls.spliced_cons (thn (he pins s σ H _ I h) fun u s1 zz=>?_)
 obtain ⟨x,H1,I1,r1,q1⟩:=zz
 refine Calls.spliced_nil ?_
 have q1':ZBY td tNil σ H1 (fun zs H2=>match zs with | [y]=>∃ a ns dd,x=.ref a /\ y=.int dd /\ SqL X.K H2 a (ns.map V.int) /\ Q (.int (maxD dd ns)) H2 | _=>False):=q1
 refine thn (pk_cons (nm:=some "default") (kpos:=kpos) hd (pk_nil (X:=X)) pos pins s1 σ H1 _ I1 q1') fun kvs s2 zz=>?_
 obtain ⟨zs,H2,I2,r2,q2⟩:=zz
 match zs,r2,q2 with
 | [y],.cons ry .nil,⟨a,ns,dd,ex,ey,hS,q⟩=>
  subst ex ey
  cases r1
  obtain ⟨t,rfl⟩:=ry
  obtain ⟨its,rv,pl,_⟩:=I2.list hS
  obtain ⟨o,n,e1,e2,_,e3⟩:=pl
  have hi:=intsAre_of rv
  refine maxd_ints (I2.ok.hd hc) ⟨o,e1,e2,n,e3⟩ hi (fun hn h' tk k=>?_) (fun M t' h' tk m1 m2 k=>?_)
  .subst hn
   exact ⟨.int dd,H2,I2.kept k,⟨_,rfl⟩,q⟩
  .refine ⟨.int M,H2,I2.kept k,⟨_,rfl⟩,?_⟩
   rw [<- maxD_eq (d:=dd) m1 m2]
   exact q
end
theorem lkc {k k':Str} {v:V} {r:List (Str×V)}:List.lookup k ((k',v)::r)=if k=k' then some v else List.lookup k r:=by
 rw [yBE]
 by_cases h:k=k'
 .subst h;simp
 .have:(k == k')=false:=by simpa using h
  rw [this,if_neg h]
structure Ins (H:Hp) (a C:Addr) (fl:List (Str×V)):Prop where
 ex:∃ dx fs,H a=some (.ins C dx fs) /\ fs.length <= 50 /\ ∀ f,fs.lookup f=fl.lookup f
theorem Ins.of {H:Hp} {a C dx:Addr} {fl:List (Str×V)} (h:H a=some (.ins C dx fl)) (hl:fl.length <= 50):Ins H a C fl:=⟨dx,fl,h,hl,fun _=>rfl⟩
theorem Ins.congr {H:Hp} {a C:Addr} {fl fl':List (Str×V)} (h:Ins H a C fl) (e:∀ f,fl.lookup f=fl'.lookup f):Ins H a C fl':=let ⟨dx,fs,h1,h2,h3⟩:=h.ex;⟨dx,fs,h1,h2,fun f=>(h3 f).trans (e f)⟩
theorem Ins.mono {H H':Hp} {a C:Addr} {fl:List (Str×V)} (h:Ins H a C fl) (s:Same H H'):Ins H' a C fl:=let ⟨dx,fs,h1,h2,h3⟩:=h.ex;⟨dx,fs,s _ _ h1,h2,h3⟩
section
variable {K:W.Frag} {f:Str} {a C:Addr} {fl:List (Str×V)} {v:V} {H:Hp}
theorem Ins.get {Q:VK} (h:Ins H a C fl) (cl:Cls K C) (n:NoAttr K C f) (l:fl.lookup f=some v) (q:Q v H):getF K f (.ref a) H Q:=by
 obtain ⟨dx,fs,h1,h2,h3⟩:=h.ex
 exact ZDR h1 cl n ((h3 f).trans l) q
theorem Ins.meth {m:Str} {R:Prop} (h:Ins H a C fl) (l:fl.lookup m=none) (q:R):∃ b dx fs,V.ref a=.ref b /\ H b=some (.ins C dx fs) /\ fs.lookup m=none /\ R:=by
 obtain ⟨dx,fs,h1,h2,h3⟩:=h.ex
 exact ⟨a,dx,fs,rfl,h1,(h3 m).trans l,q⟩
end
noncomputable def augA (K:W.Frag) (tv:TE) (rd:V->V->Hp->VK->Prop) (f:Str) (D:Ends) (σ:St) (x:V) (H1:Hp):Prop:=∃ a C dx fs v,x=.ref a /\ H1 a=some (.ins C dx fs) /\ Cls K C /\ NoAttr K C f /\ fs.lookup f=some v /\
 tv σ H1 fun y H2=>rd v y H2 fun z H3=>∃ dx' fs',H3 a=some (.ins C dx' fs') /\ fs'.length < 1000 /\ D.nx σ (upd H3 a (.ins C dx' (putF f z fs')))
theorem sFldAug_eq {K:W.Frag} {ta tv:TE} {rd:V->V->Hp->VK->Prop} {f:Str} {D:Ends} {σ:St} {H:Hp}:sFldAug K ta tv rd f D σ H=ta σ H (fun x H1=>augA K tv rd f D σ x H1):=rfl
theorem setX {K:W.Frag} {f:Str} {a C dx:Addr} {fs:List (Str×V)} {v:V} {H:Hp} {Q:Hp->Prop} (h:H a=some (.ins C dx fs)) (cl:Cls K C) (n:NoAttr K C f) (hl:fs.length <= 20) (q:∀ H',H' a=some (.ins C dx (putF f v fs))->(∀ b,b≠a->H' b=H b)->Q H'):setF K f (.ref a) v H Q :=
 setF_of h cl n (by omega) (q _ ZAC fun b hb=>ZAJ hb)
theorem ZC3 {f:Str} {v:V} {fs:List (Str×V)} {n:Nat} (h:fs.length <= n):(putF f v fs).length <= n+1:=yAD (ZCC f v fs) (Nat.succ_le_succ h)
theorem ZDa {f0:Str} {v0:V}:(putF f0 v0 []).length <= 20:=yAD (ZC3 (yAA 0)) (by decide)
theorem ZD9 {f0 f1:Str} {v0 v1:V}:(putF f1 v1 (putF f0 v0 [])).length <= 20:=yAD (ZC3 (ZC3 (yAA 0))) (by decide)
section
variable {X:Cx}
end
end L2
namespace PySem
namespace F
end F
section
variable {prog:Program} {w:World} {A:Around} {s:Shared} {R:Result->Shared->Prop}
variable {I:Addr} {fp wr:List Addr} {G:Array GenState->Array GenState->Prop} {n:Nat} {P:Nat->Value->Prop} {St:Nat->Shared->Prop}
end
section
variable {prog:Program} {w:World} {A:Around} {E:Value->Shared->Prop} {s:Shared}
variable {I:Addr} {fp wr:List Addr} {G:Array GenState->Array GenState->Prop} {n:Nat} {P:Nat->Value->Prop} {St:Nat->Shared->Prop}
end
end PySem
namespace L2
open PySem PySem.Spec PyProof.Rows
noncomputable def tRevL (K:W.Frag) (t:TA):TE:=fun σ H Q=>t σ H fun vs H1=>∃ (l:Addr) (ys:List V),vs=[.ref l] /\ SqL K H1 l ys /\ ∀ r,H1 r=none->Q (.ref r) (upd H1 r (.lst ys.reverse))
section
variable {X:Cx} {e:Expr} {ta:TA} {p p2 pos pos2:Pos}
end
noncomputable def compR2 (g:TG) (tt:TT) (te:TE) (σ0:St) (Q:VK) (x y:V) (H1:Hp):Prop:=∃ i j:Int,[x,y]=[.int i,.int j] /\ (-(2 ^ 62) <= i /\ i < 2 ^ 62 /\ -(2 ^ 62) <= j /\ j < 2 ^ 62) /\ compR i g tt te σ0 Q (j-i).toNat H1
theorem tCompR2_eq {k:Nat} {js:List Nat} {t u:TE} {g:TG} {tt:TT} {te:TE} {σ:St} {H:Hp} {Q:VK}:ZCy k js (iRng2 (ZBY t (ZBY u tNil))) g tt te σ H Q=t σ H (fun x H1=>u σ H1 fun y H2=>compR2 g tt te (up k js σ) Q x y H2):=rfl
section
variable {X:Cx}
end
noncomputable def Itz (K:W.Frag) (a b:Addr):It :=
 ⟨fun i H=>∃ xs x ys y,SqL K H a xs /\ xs[i]?=some x /\ SqL K H b ys /\ ys[i]?=some y,fun i H v H'=>∃ p x y,H p=none /\ (∀ xs,SqL K H a xs->xs[i]?=some x) /\ (∀ ys,SqL K H b ys->ys[i]?=some y) /\ H'=upd H p (.tup [x,y]) /\ v=.ref p,fun i H=>∃ xs ys,SqL K H a xs /\ SqL K H b ys /\ (xs.length <= i∨ys.length <= i)⟩
section
variable {X:Cx}
noncomputable def iZip (K:W.Frag) (ta:TA):TI:=fun σ H R=>ta σ H fun vs H1=>∃ a b,vs=[.ref a,.ref b] /\ (∃ xs,SqL K H1 a xs) /\ (∃ xs,SqL K H1 b xs) /\ R (Itz K a b) H1
end
section
variable {K:W.Frag} {a b:Addr} {xs ys:List V} {g:TG} {tb:TS} {D:Ends} {σ:St} {H:Hp}
noncomputable def forZ (K:W.Frag) (g:TG) (tb:TS) (D:Ends) (σ:St) (x y:V) (H1:Hp):Prop:=∃ a b,[x,y]=[.ref a,.ref b] /\ (∃ xs,SqL K H1 a xs) /\ (∃ xs,SqL K H1 b xs) /\ ∃ W:Nat->Nat->St->Hp->Prop,(∃ m,W 0 m σ H1) /\ ∀ i m σ H,W i m σ H ->
 ((Itz K a b).stop i H /\ D.nx σ H)∨((Itz K a b).go i H /\ ∃ N:St->Hp->Prop,(∀ σ' H',N σ' H'->∃ m',m' < m /\ W (i+1) m' σ' H') /\ ∀ x H',(Itz K a b).yld i H x H'->g x σ H' fun σ2 H2=>tb { D with nx:=N,ct:=N,bk:=D.nx } σ2 H2)
theorem tForZ_eq {t u:TE}:tFor (iZip K (ZBY t (ZBY u tNil))) g tb D σ H=t σ H (fun x H1=>u σ H1 fun y H2=>forZ K g tb D σ x y H2):=rfl
end
section
open PySem.SeqAt
open PySem.AutoSeq1 (wpAny_loadPart')
open PySem.MeetsSeq PySem.MeetsSeq2 PySem.MeetsSeq3 HT
end
section
variable {prog:Program} {w:World} {A:Around} {E:Value->Shared->Prop} {s:Shared}
end
section
variable {X:Cx}
theorem call_maxL (hc:X.calm=true):ZDA X (.builtin "max") (fun xs H Q=>∃ (p:Addr) (ns:List Int),xs=[.ref p] /\ SqL X.K H p (ns.map V.int) /\ ns≠[] /\ ∀ M,M∈ns->(∀ a∈ns,a <= M)->Q (.int M) H):=by
 intro pins s σ H xs us Q I r h
 obtain ⟨p,ns,rfl,hq,hne,q⟩:=h
 obtain ⟨u,rfl,rx⟩:=ZDf r
 cases rx
 obtain ⟨its,rv,pl,hz⟩:=I.list hq
 have hi:=intsAre_of rv
 obtain ⟨xs,e⟩:=hi.allInts.items
 have hns:ns=xs.toList.map (·.1):=by rw [<- hi.numsOf,<- nums_intItems,<- e]
 have hl:=pl.isList
 rw [e] at hl
 have hx0:0 < xs.size:=by
  rcases Nat.eq_zero_or_pos xs.size with z | z
  .rw [hns,Array.eq_empty_of_size_eq_zero z] at hne;exact absurd rfl hne
  .exact z
 refine max_intList (I.ok.hd hc) hl hx0 fun v h' tk hP k=>?_
 obtain ⟨t,rfl⟩:=intItems_at hP
 obtain ⟨g1,g2⟩:=argBest_gt (numAt xs) (xs.size-1)
 refine ⟨.int _,H,I.kept k,⟨_,rfl⟩,q _ ?_ fun a ha=>?_⟩
 .rw [hns,numAt_eq];exact getD_mem (by rw [yAB,yBJ];omega)
 .rw [hns] at ha
  obtain ⟨j,hj,rfl⟩:=mem_getD ha
  rw [yAB,yBJ] at hj
  rw [<- numAt_eq];exact g2 j (by omega)
end
open PySem
theorem tVar_1 {v:V} {a0:Option V} {σ:St} {H:Hp} {Q:VK}:tVar 1 (a0::some v::σ) H Q=Q v H:=by
 simp only [ZAn,ZAe]
theorem tVar_2 {v:V} {a0 a1:Option V} {σ:St} {H:Hp} {Q:VK}:tVar 2 (a0::a1::some v::σ) H Q=Q v H:=by
 simp only [ZAn,ZAe]
theorem tVar_3 {v:V} {a0 a1 a2:Option V} {σ:St} {H:Hp} {Q:VK}:tVar 3 (a0::a1::a2::some v::σ) H Q=Q v H:=by
 simp only [ZAn,ZAe]
theorem tVar_4 {v:V} {a0 a1 a2 a3:Option V} {σ:St} {H:Hp} {Q:VK}:tVar 4 (a0::a1::a2::a3::some v::σ) H Q=Q v H:=by
 simp only [ZAn,ZAe]
theorem tVar_5 {v:V} {a0 a1 a2 a3 a4:Option V} {σ:St} {H:Hp} {Q:VK}:tVar 5 (a0::a1::a2::a3::a4::some v::σ) H Q=Q v H:=by
 simp only [ZAn,ZAe]
theorem tVar_6 {v:V} {a0 a1 a2 a3 a4 a5:Option V} {σ:St} {H:Hp} {Q:VK}:tVar 6 (a0::a1::a2::a3::a4::a5::some v::σ) H Q=Q v H:=by
 simp only [ZAn,ZAe]
theorem tVar_7 {v:V} {a0 a1 a2 a3 a4 a5 a6:Option V} {σ:St} {H:Hp} {Q:VK}:tVar 7 (a0::a1::a2::a3::a4::a5::a6::some v::σ) H Q=Q v H:=by
 simp only [ZAn,ZAe]
theorem tVar_8 {v:V} {a0 a1 a2 a3 a4 a5 a6 a7:Option V} {σ:St} {H:Hp} {Q:VK}:tVar 8 (a0::a1::a2::a3::a4::a5::a6::a7::some v::σ) H Q=Q v H:=by
 simp only [ZAn,ZAe]
theorem tVar_9 {v:V} {a0 a1 a2 a3 a4 a5 a6 a7 a8:Option V} {σ:St} {H:Hp} {Q:VK}:tVar 9 (a0::a1::a2::a3::a4::a5::a6::a7::a8::some v::σ) H Q=Q v H:=by
 simp only [ZAn,ZAe]
theorem tVar_10 {v:V} {a0 a1 a2 a3 a4 a5 a6 a7 a8 a9:Option V} {σ:St} {H:Hp} {Q:VK}:tVar 10 (a0::a1::a2::a3::a4::a5::a6::a7::a8::a9::some v::σ) H Q=Q v H:=by
 simp only [ZAn,ZAe]
theorem tVar_11 {v:V} {a0 a1 a2 a3 a4 a5 a6 a7 a8 a9 a10:Option V} {σ:St} {H:Hp} {Q:VK}:tVar 11 (a0::a1::a2::a3::a4::a5::a6::a7::a8::a9::a10::some v::σ) H Q=Q v H:=by
 simp only [ZAn,ZAe]
theorem tVar_12 {v:V} {a0 a1 a2 a3 a4 a5 a6 a7 a8 a9 a10 a11:Option V} {σ:St} {H:Hp} {Q:VK}:tVar 12 (a0::a1::a2::a3::a4::a5::a6::a7::a8::a9::a10::a11::some v::σ) H Q=Q v H:=by
 simp only [ZAn,ZAe]
theorem tVar_13 {v:V} {a0 a1 a2 a3 a4 a5 a6 a7 a8 a9 a10 a11 a12:Option V} {σ:St} {H:Hp} {Q:VK}:tVar 13 (a0::a1::a2::a3::a4::a5::a6::a7::a8::a9::a10::a11::a12::some v::σ) H Q=Q v H:=by
 simp only [ZAn,ZAe]
theorem tVar_14 {v:V} {a0 a1 a2 a3 a4 a5 a6 a7 a8 a9 a10 a11 a12 a13:Option V} {σ:St} {H:Hp} {Q:VK}:tVar 14 (a0::a1::a2::a3::a4::a5::a6::a7::a8::a9::a10::a11::a12::a13::some v::σ) H Q=Q v H:=by
 simp only [ZAn,ZAe]
theorem tVar_15 {v:V} {a0 a1 a2 a3 a4 a5 a6 a7 a8 a9 a10 a11 a12 a13 a14:Option V} {σ:St} {H:Hp} {Q:VK}:tVar 15 (a0::a1::a2::a3::a4::a5::a6::a7::a8::a9::a10::a11::a12::a13::a14::some v::σ) H Q=Q v H:=by
 simp only [ZAn,ZAe]
theorem tVar_16 {v:V} {a0 a1 a2 a3 a4 a5 a6 a7 a8 a9 a10 a11 a12 a13 a14 a15:Option V} {σ:St} {H:Hp} {Q:VK}:tVar 16 (a0::a1::a2::a3::a4::a5::a6::a7::a8::a9::a10::a11::a12::a13::a14::a15::some v::σ) H Q=Q v H:=by
 simp only [ZAn,ZAe]
theorem tVar_17 {v:V} {a0 a1 a2 a3 a4 a5 a6 a7 a8 a9 a10 a11 a12 a13 a14 a15 a16:Option V} {σ:St} {H:Hp} {Q:VK}:tVar 17 (a0::a1::a2::a3::a4::a5::a6::a7::a8::a9::a10::a11::a12::a13::a14::a15::a16::some v::σ) H Q=Q v H:=by
 simp only [ZAn,ZAe]
theorem tVar_18 {v:V} {a0 a1 a2 a3 a4 a5 a6 a7 a8 a9 a10 a11 a12 a13 a14 a15 a16 a17:Option V} {σ:St} {H:Hp} {Q:VK}:tVar 18 (a0::a1::a2::a3::a4::a5::a6::a7::a8::a9::a10::a11::a12::a13::a14::a15::a16::a17::some v::σ) H Q=Q v H:=by
 simp only [ZAn,ZAe]
theorem tVar_19 {v:V} {a0 a1 a2 a3 a4 a5 a6 a7 a8 a9 a10 a11 a12 a13 a14 a15 a16 a17 a18:Option V} {σ:St} {H:Hp} {Q:VK}:tVar 19 (a0::a1::a2::a3::a4::a5::a6::a7::a8::a9::a10::a11::a12::a13::a14::a15::a16::a17::a18::some v::σ) H Q=Q v H:=by
 simp only [ZAn,ZAe]
theorem tVar_20 {v:V} {a0 a1 a2 a3 a4 a5 a6 a7 a8 a9 a10 a11 a12 a13 a14 a15 a16 a17 a18 a19:Option V} {σ:St} {H:Hp} {Q:VK}:tVar 20 (a0::a1::a2::a3::a4::a5::a6::a7::a8::a9::a10::a11::a12::a13::a14::a15::a16::a17::a18::a19::some v::σ) H Q=Q v H:=by
 simp only [ZAn,ZAe]
theorem tVar_21 {v:V} {a0 a1 a2 a3 a4 a5 a6 a7 a8 a9 a10 a11 a12 a13 a14 a15 a16 a17 a18 a19 a20:Option V} {σ:St} {H:Hp} {Q:VK}:tVar 21 (a0::a1::a2::a3::a4::a5::a6::a7::a8::a9::a10::a11::a12::a13::a14::a15::a16::a17::a18::a19::a20::some v::σ) H Q=Q v H:=by
 simp only [ZAn,ZAe]
theorem tVar_22 {v:V} {a0 a1 a2 a3 a4 a5 a6 a7 a8 a9 a10 a11 a12 a13 a14 a15 a16 a17 a18 a19 a20 a21:Option V} {σ:St} {H:Hp} {Q:VK}:tVar 22 (a0::a1::a2::a3::a4::a5::a6::a7::a8::a9::a10::a11::a12::a13::a14::a15::a16::a17::a18::a19::a20::a21::some v::σ) H Q=Q v H:=by
 simp only [ZAn,ZAe]
theorem tVar_23 {v:V} {a0 a1 a2 a3 a4 a5 a6 a7 a8 a9 a10 a11 a12 a13 a14 a15 a16 a17 a18 a19 a20 a21 a22:Option V} {σ:St} {H:Hp} {Q:VK}:tVar 23 (a0::a1::a2::a3::a4::a5::a6::a7::a8::a9::a10::a11::a12::a13::a14::a15::a16::a17::a18::a19::a20::a21::a22::some v::σ) H Q=Q v H:=by
 simp only [ZAn,ZAe]
theorem tVar_24 {v:V} {a0 a1 a2 a3 a4 a5 a6 a7 a8 a9 a10 a11 a12 a13 a14 a15 a16 a17 a18 a19 a20 a21 a22 a23:Option V} {σ:St} {H:Hp} {Q:VK}:tVar 24 (a0::a1::a2::a3::a4::a5::a6::a7::a8::a9::a10::a11::a12::a13::a14::a15::a16::a17::a18::a19::a20::a21::a22::a23::some v::σ) H Q=Q v H:=by
 simp only [ZAn,ZAe]
theorem tVar_25 {v:V} {a0 a1 a2 a3 a4 a5 a6 a7 a8 a9 a10 a11 a12 a13 a14 a15 a16 a17 a18 a19 a20 a21 a22 a23 a24:Option V} {σ:St} {H:Hp} {Q:VK}:tVar 25 (a0::a1::a2::a3::a4::a5::a6::a7::a8::a9::a10::a11::a12::a13::a14::a15::a16::a17::a18::a19::a20::a21::a22::a23::a24::some v::σ) H Q=Q v H:=by
 simp only [ZAn,ZAe]
theorem tVar_26 {v:V} {a0 a1 a2 a3 a4 a5 a6 a7 a8 a9 a10 a11 a12 a13 a14 a15 a16 a17 a18 a19 a20 a21 a22 a23 a24 a25:Option V} {σ:St} {H:Hp} {Q:VK}:tVar 26 (a0::a1::a2::a3::a4::a5::a6::a7::a8::a9::a10::a11::a12::a13::a14::a15::a16::a17::a18::a19::a20::a21::a22::a23::a24::a25::some v::σ) H Q=Q v H:=by
 simp only [ZAn,ZAe]
theorem tVar_27 {v:V} {a0 a1 a2 a3 a4 a5 a6 a7 a8 a9 a10 a11 a12 a13 a14 a15 a16 a17 a18 a19 a20 a21 a22 a23 a24 a25 a26:Option V} {σ:St} {H:Hp} {Q:VK}:tVar 27 (a0::a1::a2::a3::a4::a5::a6::a7::a8::a9::a10::a11::a12::a13::a14::a15::a16::a17::a18::a19::a20::a21::a22::a23::a24::a25::a26::some v::σ) H Q=Q v H:=by
 simp only [ZAn,ZAe]
theorem tVar_28 {v:V} {a0 a1 a2 a3 a4 a5 a6 a7 a8 a9 a10 a11 a12 a13 a14 a15 a16 a17 a18 a19 a20 a21 a22 a23 a24 a25 a26 a27:Option V} {σ:St} {H:Hp} {Q:VK}:tVar 28 (a0::a1::a2::a3::a4::a5::a6::a7::a8::a9::a10::a11::a12::a13::a14::a15::a16::a17::a18::a19::a20::a21::a22::a23::a24::a25::a26::a27::some v::σ) H Q=Q v H:=by
 simp only [ZAn,ZAe]
theorem tVar_29 {v:V} {a0 a1 a2 a3 a4 a5 a6 a7 a8 a9 a10 a11 a12 a13 a14 a15 a16 a17 a18 a19 a20 a21 a22 a23 a24 a25 a26 a27 a28:Option V} {σ:St} {H:Hp} {Q:VK}:tVar 29 (a0::a1::a2::a3::a4::a5::a6::a7::a8::a9::a10::a11::a12::a13::a14::a15::a16::a17::a18::a19::a20::a21::a22::a23::a24::a25::a26::a27::a28::some v::σ) H Q=Q v H:=by
 simp only [ZAn,ZAe]
theorem tVar_30 {v:V} {a0 a1 a2 a3 a4 a5 a6 a7 a8 a9 a10 a11 a12 a13 a14 a15 a16 a17 a18 a19 a20 a21 a22 a23 a24 a25 a26 a27 a28 a29:Option V} {σ:St} {H:Hp} {Q:VK}:tVar 30 (a0::a1::a2::a3::a4::a5::a6::a7::a8::a9::a10::a11::a12::a13::a14::a15::a16::a17::a18::a19::a20::a21::a22::a23::a24::a25::a26::a27::a28::a29::some v::σ) H Q=Q v H:=by
 simp only [ZAn,ZAe]
open PySem
noncomputable def Cut (t:TS):TS:=t
theorem ZBS {X:Cx} {rest:List Stmt} {u:TS} (h:PSs X rest u):PSs X rest (Cut u):=h
theorem ZBp {u:TS} {D:Ends} {σ:St} {H:Hp} (h:u D σ H):Cut u D σ H:=h
theorem us0 {l:List Value} (h:l.length=0):l=[]:=List.length_eq_zero_iff.mp h
theorem us1 {l:List Value} (h:l.length=1):∃ a0,l=[a0]:=by
 cases l with
 | nil=>cases h
 | cons a l=>
  obtain rfl:=us0 (l:=l) (Nat.succ.inj h)
  exact ⟨a,rfl⟩
theorem us2 {l:List Value} (h:l.length=2):∃ a0 a1,l=[a0,a1]:=by
 cases l with
 | nil=>cases h
 | cons a l=>
  obtain ⟨b0,rfl⟩:=us1 (l:=l) (Nat.succ.inj h)
  exact ⟨a,b0,rfl⟩
theorem us3 {l:List Value} (h:l.length=3):∃ a0 a1 a2,l=[a0,a1,a2]:=by
 cases l with
 | nil=>cases h
 | cons a l=>
  obtain ⟨b0,b1,rfl⟩:=us2 (l:=l) (Nat.succ.inj h)
  exact ⟨a,b0,b1,rfl⟩
theorem us4 {l:List Value} (h:l.length=4):∃ a0 a1 a2 a3,l=[a0,a1,a2,a3]:=by
 cases l with
 | nil=>cases h
 | cons a l=>
  obtain ⟨b0,b1,b2,rfl⟩:=us3 (l:=l) (Nat.succ.inj h)
  exact ⟨a,b0,b1,b2,rfl⟩
theorem us5 {l:List Value} (h:l.length=5):∃ a0 a1 a2 a3 a4,l=[a0,a1,a2,a3,a4]:=by
 cases l with
 | nil=>cases h
 | cons a l=>
  obtain ⟨b0,b1,b2,b3,rfl⟩:=us4 (l:=l) (Nat.succ.inj h)
  exact ⟨a,b0,b1,b2,b3,rfl⟩
noncomputable def tMakeN (C:Addr):TE:=fun σ H Q=>∀ x dx,H x=none->H dx=none->dx≠x->Q (.ref x) (upd (upd H dx (.own x)) x (.ins C dx []))
noncomputable def ZDK (t u:TE):TE:=fun σ H Q=>t σ H Q∨u σ H Q
theorem ZAN {X:Cx} {e:Expr} {t u:TE} (h:PE X e t) (k:PE X e u):PE X e (ZDK t u):=fun pins s σ H Q I z=>z.elim (h pins s σ H Q I) (k pins s σ H Q I)
end L2
namespace PySem
open Sem (wp)
namespace Heap
end Heap
section
variable {M:Model} {A:Around} {E:Value->Shared->Prop} {s:Shared}
end
end PySem
namespace L2
open PySem PySem.Spec PyProof.Rows
section
variable {P:Program} {w:World} {l:List Env} {H H':Hp} {h h1 h2 B base:Heap}
end
section
variable {P:Program} {w:World} {K:W.Frag} {mg:Str->Option Value} {base:Heap} {N:List Str} {qual:Str} {scope:Scope} {f:Addr} {cd:Value} {A:Around} {outer:List Env} {s:Shared} {H:Hp} {E:XK}
end
open PySem PySem.Spec PySem.W PySem.Calls PyProof.Rows Builtin.Getset_descriptor Builtin.ObjectAttr
section
variable {prog:Program} {w:World} {A:Around} {E:Value->Shared->Prop} {K:W.Frag} {a C:Addr} {o:Obj} {h:Heap} {g:Array GenState} {d:Drawn} {t:Nat} {os:OsState}
end
noncomputable def excO (a:Addr) (cls:Value) (dd:Option Addr):HO:=.ext fun h=>∃ o,h.get? a=some o /\ o.cls=cls /\ o.dict=dd /\ ∃ vs,o.data=.fields vs
section
variable {X:Cx}
end
open PySem PySem.Spec PySem.W PySem.Calls PyProof.Rows
section
variable {X:Cx}
end
noncomputable def tRaise (E:XK) (C:Addr):TS:=fun _ _ H=>E (.ref C) none H
section
variable {P:Program} {w:World} {K:W.Frag} {mg:Str->Option Value} {base:Heap} {N:List Str} {qual:Str} {scope:Scope} {f:Addr} {cd:Value} {A:Around} {outer:List Env} {s:Shared} {H:Hp} {E:XK}
end
noncomputable def tCallS (sp:Sp) (dvs:List V) (E:St->XK) (t:TA):TE:=fun σ H Q=>t σ H fun vs H1=>sp (vs++dvs) H1 Q (E σ)
section
variable {X:Cx} {CX:CXT} {k:Nat} {f:Addr} {fd:FuncData} {ps:List Str} {sp:Sp} {dvs:List V} {ds:List Value} {E:St->XK} {x:Str} {p pos:Pos} {e:Expr} {es:List Expr} {t:TA}
end
section
variable {X:Cx} {pins pins':List (Addr×Obj)} {σ:St} {H:Hp} {s:Shared} {xe:Value->Shared->Prop} {e:Addr}
end
noncomputable def Ehit (K:W.Frag) (HC:Addr) (i:Nat) (ts:TS) (D:Ends):St->XK:=fun σ cls dd H'=>exmOne K cls (.ref HC)=some true /\ ∀ ea,H' ea=none ->
 ts { nx:=fun σ' H''=>D.nx (σ'.set i none) H'',rt:=D.rt,bk:=fun σ' H''=>D.bk (σ'.set i none) H'',ct:=fun σ' H''=>D.ct (σ'.set i none) H'' } (σ.set i (some (.ref ea))) (upd H' ea (excO ea cls dd))
noncomputable def tTry (K:W.Frag) (HC:Addr) (i:Nat) (tb:(St->XK)->TS) (ts:TS):TS:=fun D σ H=>tb (Ehit K HC i ts D) D σ H
section
variable {κ:Type} [DecidableEq κ]
end
section
variable {P:Program} {w:World} {H:Hp} {h:Heap} {a:Addr}
end
section
variable {X:Cx} {pins:List (Addr×Obj)} {σ:St} {H:Hp} {s:Shared} {a:Addr} {y v:V} {u r:Value} {o:Option V} {A:Around} {E:Value->Shared->Prop}
end
section
variable {X:Cx} {pins:List (Addr×Obj)} {σ:St} {H:Hp} {s:Shared} {a:Addr} {kvs:List (Key×V)} {k:Key} {u:Value} {A:Around} {E:Value->Shared->Prop}
end
section
variable {X:Cx} {o i e value:Expr} {pos pos' tpos:Pos} {td ty tv:TE}
end
section
variable {X:Cx} {pos:Pos}
end
end L2
namespace PySem
open Sem (wp)
namespace F
end F
section
variable {α:Type} {prog:Program} {w:World} {A:Around} {E:Value->Shared->Prop} {s:Shared}
end
section
variable {prog:Program} {w:World} {A:Around} {E:Value->Shared->Prop} {h:Heap} {g:Array GenState} {d:Drawn} {t:Nat} {os:OsState} {a:Addr} {its:Array Value} {n:Nat}
end
end PySem
namespace PySem
namespace F
end F
end PySem
namespace L2
open PySem PySem.Spec PyProof.Rows
section
variable {X:Cx} {pins:List (Addr×Obj)} {σ:St} {H:Hp} {s1:Shared} {A:Around}
end
end L2
namespace PySem
section
variable {prog:Program} {w:World} {A:Around} {E:Value->Shared->Prop} {s:Shared} {zo ti to:Addr} {f0 f1:Value}
end
end PySem
namespace L2
open PySem PySem.Spec PyProof.Rows
section
variable {X:Cx}
end
section
variable {K:W.Frag} {a b:Addr} {xs ys:List V} {g:TG} {σ:St} {H:Hp} {tt:TT} {te:TE} {Q:VK} {σ0:St}
end
section
variable {X:Cx}
end
section
variable {X:Cx}
end
section
variable {X:Cx}
end
noncomputable def Itr3 (lo d:Int) (n:Nat):It:=⟨fun i _=>i < n,fun i H x H'=>H'=H /\ x=.int (lo+i * d),fun i _=>n <= i⟩
section
variable {X:Cx} {tg:Expr}
noncomputable def iRng3 (ta:TA):TI:=fun σ H R=>ta σ H fun vs H1=>∃ i j d:Int,vs=[.int i,.int j,.int d] /\ (0 <= i /\ i <= 1000 /\ 0 <= j /\ j <= 1000 /\ 0 < d /\ d <= 1000) /\ R (Itr3 i d (Builtin.Range.rangeSize i j d).toNat) H1
end
noncomputable def compR3 (g:TG) (tt:TT) (te:TE) (σ0:St) (Q:VK) (x y z:V) (H1:Hp):Prop:=∃ i j d:Int,[x,y,z]=[.int i,.int j,.int d] /\ (0 <= i /\ i <= 1000 /\ 0 <= j /\ j <= 1000 /\ 0 < d /\ d <= 1000) /\
 ∃ W:Nat->Nat->List V->St->Hp->Prop,(∃ m,W 0 m [] σ0 H1) /\ ∀ k m ys σ H,W k m ys σ H ->
   ((Itr3 i d (Builtin.Range.rangeSize i j d).toNat).stop k H /\ ys.length <= sizeLine /\ ∀ p,H p=none->Q (.ref p) (upd H p (.lst ys))) ∨
   ((Itr3 i d (Builtin.Range.rangeSize i j d).toNat).go k H /\ ys.length < sizeLine /\ ∀ x H',(Itr3 i d (Builtin.Range.rangeSize i j d).toNat).yld k H x H'->g x σ H' fun σ2 H2=>tt σ2 H2 fun b H3=>if b=true then te σ2 H3 fun y H4=>∃ m',m' < m /\ W (k+1) m' (ys++[y]) σ2 H4 else ∃ m',m' < m /\ W (k+1) m' ys σ2 H3)
theorem tCompR3_eq {k:Nat} {js:List Nat} {t u v:TE} {g:TG} {tt:TT} {te:TE} {σ:St} {H:Hp} {Q:VK}:ZCy k js (iRng3 (ZBY t (ZBY u (ZBY v tNil)))) g tt te σ H Q=t σ H (fun x H1=>u σ H1 fun y H2=>v σ H2 fun z H3=>compR3 g tt te (up k js σ) Q x y z H3):=rfl
noncomputable def tBL (K:W.Frag) (t:TE):TT:=fun σ H Q=>t σ H fun x H1=>∃ a xs,x=.ref a /\ SqL K H1 a xs /\ Q (!xs.isEmpty) H1
section
variable {X:Cx}
end
section
variable {X:Cx} {tg:Expr}
noncomputable def iRng3N (ta:TA):TI:=fun σ H R=>ta σ H fun vs H1=>∃ i j d:Int,vs=[.int i,.int j,.int d] /\ (0 <= i /\ i <= 1000 /\ -1000 <= j /\ j <= 1000 /\ 0 < d /\ d <= 1000) /\ R (Itr3 i d (Builtin.Range.rangeSize i j d).toNat) H1
end
noncomputable def forR3 (g:TG) (tb:TS) (D:Ends) (σ:St) (x y z:V) (H1:Hp):Prop:=∃ i j d:Int,[x,y,z]=[.int i,.int j,.int d] /\ (0 <= i /\ i <= 1000 /\ -1000 <= j /\ j <= 1000 /\ 0 < d /\ d <= 1000) /\ ∃ W:Nat->Nat->St->Hp->Prop,(∃ m,W 0 m σ H1) /\ ∀ k m σ H,W k m σ H ->
 ((Itr3 i d (Builtin.Range.rangeSize i j d).toNat).stop k H /\ D.nx σ H)∨((Itr3 i d (Builtin.Range.rangeSize i j d).toNat).go k H /\ ∃ N:St->Hp->Prop,(∀ σ' H',N σ' H'->∃ m',m' < m /\ W (k+1) m' σ' H') /\ ∀ x H',(Itr3 i d (Builtin.Range.rangeSize i j d).toNat).yld k H x H'->g x σ H' fun σ2 H2=>tb { D with nx:=N,ct:=N,bk:=D.nx } σ2 H2)
theorem tForR3_eq {t u v:TE} {g:TG} {tb:TS} {D:Ends} {σ:St} {H:Hp}:tFor (iRng3N (ZBY t (ZBY u (ZBY v tNil)))) g tb D σ H=t σ H (fun x H1=>u σ H1 fun y H2=>v σ H2 fun z H3=>forR3 g tb D σ x y z H3):=rfl
section
variable {X:Cx}
end
noncomputable def forT (K:W.Frag) (g:TG) (tb:TS) (D:Ends) (σ:St) (x:V) (H1:Hp):Prop:=∃ a,x=.ref a /\ (∃ xs,SqT K H1 a xs) /\ ∃ W:Nat->Nat->St->Hp->Prop,(∃ m,W 0 m σ H1) /\ ∀ i m σ H,W i m σ H ->
 ((Itt K a).stop i H /\ D.nx σ H)∨((Itt K a).go i H /\ ∃ N:St->Hp->Prop,(∀ σ' H',N σ' H'->∃ m',m' < m /\ W (i+1) m' σ' H') /\ ∀ x H',(Itt K a).yld i H x H'->g x σ H' fun σ2 H2=>tb { D with nx:=N,ct:=N,bk:=D.nx } σ2 H2)
theorem tForT_eq {K:W.Frag} {tl:TE} {g:TG} {tb:TS} {D:Ends} {σ:St} {H:Hp}:tFor (iTup K tl) g tb D σ H=tl σ H (fun x H1=>forT K g tb D σ x H1):=rfl
noncomputable def compT (K:W.Frag) (g:TG) (tt:TT) (te:TE) (σ0:St) (Q:VK) (x:V) (H1:Hp):Prop:=∃ a,x=.ref a /\ (∃ xs,SqT K H1 a xs) /\ ∃ W:Nat->Nat->List V->St->Hp->Prop,(∃ m,W 0 m [] σ0 H1) /\ ∀ i m ys σ H,W i m ys σ H ->
 ((Itt K a).stop i H /\ ys.length <= sizeLine /\ ∀ p,H p=none->Q (.ref p) (upd H p (.lst ys))) ∨
 ((Itt K a).go i H /\ ys.length < sizeLine /\ ∀ x H',(Itt K a).yld i H x H'->g x σ H' fun σ2 H2=>tt σ2 H2 fun b H3=>if b=true then te σ2 H3 fun y H4=>∃ m',m' < m /\ W (i+1) m' (ys++[y]) σ2 H4 else ∃ m',m' < m /\ W (i+1) m' ys σ2 H3)
theorem tCompT_eq {k:Nat} {js:List Nat} {K:W.Frag} {tl:TE} {g:TG} {tt:TT} {te:TE} {σ:St} {H:Hp} {Q:VK}:ZCy k js (iTup K tl) g tt te σ H Q=tl σ H (fun x H1=>compT K g tt te (up k js σ) Q x H1):=rfl
end L2
namespace PySem
section
variable {A:Around} {s:Shared} {K:W.Frag} {x C:Addr} {ox:Obj} {od:Option Obj}
theorem objEq_none {M:Model} {E:Value->Shared->Prop} {Q:Fin->Shared->Prop} (hq:Q (.done (.ret .notImplemented)) s):wpAny M A (Builtin.«object.__eq__» ⟨[.ref x,.none],[]⟩) Q E s:=by
 unfold Builtin.«object.__eq__»
 repeat (first | with_reducible refine wpAny_bind (wpAny_of_eq (rfl:isSame (.ref x) .none=pure false) ?_) | wp_step)
 exact hq
theorem try_own_none {prog:Program} {w:World} {E:Value->Shared->Prop} {R:Option Value->Shared->Prop} (X:K.In s.heap) (I:W.InstAt s.heap x ox C od) (hs:W.findIn K (.ref C) "__eq__"=some (some (.builtin "object.__eq__")))
  (ho:W.subIn K (.ref C) (.type "object")=some true) (hR:R none s):wpAny (model prog w) A (tryCompare (.ref x) "__eq__" .none) R E s:=by
 unfold tryCompare
 refine wpAny_bind ?_
 simp only [callSpecialIfBound?,bindSpecialIfBound?]
 refine wpAny_holding (wpAny_bind (wpAny_bind (wpAny_bind (I.type.here ((W.looks_findIn X hs).here ?_)))))
 simp only [F.cmp_object.eq.bind]
 have fin:wpAny (model prog w) A (call (.builtin "object.__eq__") ([.ref x]++[.none]) >>= fun v=>pure (some v)) (fun r s'=>wpAny (model prog w) A (match r with | some .notImplemented | none=>pure none | some v=>pure (some v)) R E s') E s:=by
  refine wpAny_bind (wpAny_call (codeAny_call_builtin F.cmp_object.eq.plain F.cmpEntry_eq (W.check_slot F.cmpKind_eq F.cmpSplit_eq (I.type.andThen (W.looks_subIn X ho)) (F.cmpArgs_eq _ _) (objEq_none ?_))))
  exact wpAny_pure (wpAny_pure hR)
 refine wpAny_bind (wpAny_askSetting (wpAny_ite ?_))
 split
 .exact wpAny_bind (wpAny_pure (wpAny_pure fin))
 .exact wpAny_tryCatch (wpAny_bind (wpAny_pure (wpAny_pure fin)))
theorem rc_own_none (X:K.In s.heap) (I:W.InstAt s.heap x ox C od) (hs:W.findIn K (.ref C) "__eq__"=some (some (.builtin "object.__eq__")))
  (ho:W.subIn K (.ref C) (.type "object")=some true) (hn:W.subIn K (.type "NoneType") (.ref C)=some false) (hu:A.units < cLine):SeqAt.RcAt A s (.ref x) .none false:=fun prog w E Q h=>by
 unfold richCompare
 simp only [oneThing_ref]
 refine wpAny_holding (wpAny_bind (wpAny_cRoomFor hu ?_))
 refine wpAny_bind (I.type.here (wpAny_bind (wpAny_typeOf (T:="NoneType") rfl ?_)))
 rw [if_pos (by simp)]
 refine wpAny_bind ((W.looks_subIn X hn).here ?_)
 simp only [yBH,if_false,Bool.not_false,if_true]
 refine wpAny_bind (m:=tryCompare (.ref x) _ .none) (try_own_none X I hs ho ?_)
 refine wpAny_bind (m:=tryCompare .none _ (.ref x)) (wpAny_tryCompare_declines rfl F.slot_NoneType_eq_refl (call_gives F.slot_NoneType_eq_refl rfl F.entry_NoneType_eq (F.args_NoneType_eq_2 _ _) (SeqAt.NoneType___eq___none_ref_0 x) ⟨rfl,?_⟩))
 exact wpAny_bind (wpAny_rule (wpAny_bind (wpAny_of_eq (rfl:isSame (.ref x) .none=pure false) (wpAny_pure h))))
theorem eq_own_none (X:K.In s.heap) (I:W.InstAt s.heap x ox C od) (hs:W.findIn K (.ref C) "__eq__"=some (some (.builtin "object.__eq__")))
  (ho:W.subIn K (.ref C) (.type "object")=some true) (hn:W.subIn K (.type "NoneType") (.ref C)=some false) (hu:A.units < cLine):SeqAt.EqAt A s (.ref x) .none false:=fun prog w E Q h=>by
 unfold eqBool
 refine wpAny_holding ?_
 refine wpAny_ite_split (fun hab=>absurd (eq_of_beq hab) nofun) (fun _=>?_)
 exact wpAny_bind (rc_own_none X I hs ho hn hu prog w E _ (wpAny_truthy_bool h))
end
end PySem
namespace L2
open PySem PySem.Spec PyProof.Rows
section
variable {X:Cx}
noncomputable def EqC (K:W.Frag) (C:Addr):Prop:=W.findIn K (.ref C) "__eq__"=some (some (.builtin "object.__eq__")) /\ PySem.W.subIn K (.ref C) (.type "object")=some true /\ PySem.W.subIn K (.type "NoneType") (.ref C)=some false
noncomputable def rInN (K:W.Frag):R2:=fun x y H Q=>∃ l xs,x=.non /\ y=.ref l /\ SqL K H l xs /\ (∀ v∈xs,∃ a C dx fs,v=.ref a /\ H a=some (.ins C dx fs) /\ EqC K C) /\ Q (.bl false) H
theorem op_inN (hu:X.A.units+64 < cLine):OpR X (compareOp .In) (rInN X.K):=by
 intro pins s σ H x y v u Q I rx ry h
 obtain ⟨l,xs,rfl,rfl,hl,hx,q⟩:=h
 cases ry
 cases rx
 obtain ⟨its,r,pl,hz⟩:=I.list hl
 refine SeqAt.in_listAt (fun _=>false) pl.isList (fun y hy=>?_) ?_
 .obtain ⟨j,hj,e⟩:=List.getElem_of_mem (show y∈its by simpa using hy)
  have hj':j < xs.length:=by rw [r.length];exact hj
  obtain ⟨a,C,dx,fs,e1,e2,c1,c2,c3⟩:=hx xs[j] (List.getElem_mem hj')
  obtain ⟨u',hu',ru⟩:=r.get (yAC hj')
  rw [e1] at ru
  cases ru
  rw [yAC hj] at hu'
  rw [<- e,Option.some.inj hu']
  obtain ⟨mA,O,_⟩:=ZCm I.hok e2
  obtain ⟨od,hI,_⟩:=O.look
  exact eq_own_none I.kIn hI c1 c2 c3 (by show X.A.units+1 < cLine;omega)
 .rw [show its.toArray.any (fun _=>false)=false by simp]
  exact ⟨.bl false,H,I,rfl,q⟩
noncomputable def rNeS (K:W.Frag):R2:=fun x y H Q=>∃ l b xs,x=.ref l /\ y=.ref b /\ SqL K H l xs /\ SqL K H b xs /\ (∀ v∈xs,∃ a,v=.ref a) /\ Q (.bl false) H
theorem eqAt_same {A:Around} {s:Shared} {a:Addr}:SeqAt.EqAt A s (.ref a) (.ref a) true:=fun prog w E Q h=>by
 unfold eqBool
 refine wpAny_holding ?_
 refine wpAny_ite_split (fun hab=>?_) (fun hab=>absurd (by simp) hab)
 exact wpAny_bind (wpAny_rule (wpAny_pure h))
theorem op_neS (hu:X.A.units+64 < cLine):OpR X (compareOp .NotEq) (rNeS X.K):=by
 intro pins s σ H x y v u Q I rx ry h
 obtain ⟨l,b,xs,rfl,rfl,hl,hb,hx,q⟩:=h
 cases ry
 cases rx
 obtain ⟨its,r,pl,hz⟩:=I.list hl
 obtain ⟨its2,r2,pl2,hz2⟩:=I.list hb
 have e:its=its2:=by
  refine List.ext_getElem? fun j=>?_
  by_cases hj:j < xs.length
  .obtain ⟨u1,a1,b1⟩:=r.get (yAC hj)
   obtain ⟨u2,a2,b2⟩:=r2.get (yAC hj)
   obtain ⟨a,ea⟩:=hx xs[j] (List.getElem_mem hj)
   rw [ea] at b1 b2
   cases b1
   cases b2
   rw [a1,a2]
  .rw [List.getElem?_eq_none (by rw [<- r.length];omega),List.getElem?_eq_none (by rw [<- r2.length];omega)]
 subst e
 refine SeqAt.RcNeAt.lists (e:=fun _=>true) pl.isList pl2.isList rfl (by omega) (fun j h1 h2=>?_) X.prog X.w _ _ ?_
 .rw [yAN] at h1
  have hj:j < xs.length:=by rw [r.length];exact h1
  obtain ⟨u1,a1,b1⟩:=r.get (yAC hj)
  obtain ⟨a,ea⟩:=hx xs[j] (List.getElem_mem hj)
  rw [ea] at b1
  cases b1
  rw [yAC h1] at a1
  rw [List.getElem_toArray,Option.some.inj a1]
  exact eqAt_same
 .rw [show (!(List.range its.toArray.size).all fun _=>true)=false by simp]
  exact ⟨.bl false,H,I,rfl,q⟩
noncomputable def rCount:V->List V->Hp->VK->Prop:=fun x vs H Q=>∃ (l:Addr) (bs:List Bool),x=.ref l /\ vs=[.bl true] /\ H l=some (.lst (bs.map V.bl)) /\ Q (.int (bs.countP id:Nat)) H
theorem mt_count:MtM X "list.count" rCount:=by
 intro pins s σ H x vs v us Q I rx rv h
 obtain ⟨l,bs,rfl,rfl,hH,q⟩:=h
 cases rx
 obtain ⟨u,rfl,ru⟩:=rv.one
 cases ru
 obtain ⟨z,its,n,r,hl,e⟩:=I.lstM hH
 have hat:∀ {vs:List Value} {bs:List Bool},Vals (bs.map V.bl) vs->vs=bs.map Value.bool:=by
  intro vs bs
  induction bs generalizing vs with
  | nil=>intro z;cases z;rfl
  | cons b r ih=>
   intro z
   cases z with
   | cons a t=>
    cases a
    rw [ih t];rfl
 have ei:=hat r
 subst ei
 refine call_meets F.slot_list_count ⟨_,e,rfl⟩ F.entry_list_count (F.args_list_count_2 _ _) (SeqAt.list_countAt l _ n _ _ (.bool true) (isBoolOf true)) ⟨e,fun y hy=>?_,?_⟩
 .obtain ⟨b,hb,rfl⟩:=yBC.mp (show y∈bs.map Value.bool by simpa using hy)
  exact SeqAt.EqAt.bool_bool b true
 .refine ⟨.int _,H,I.tok _,?_,q⟩
  rw [List.countP_map]
  have:(isBoolOf true ∘ Value.bool)=(id:Bool->Bool):=funext fun b=>by cases b <;> rfl
  rw [this]
  exact ⟨_,rfl⟩
end
end L2
namespace Law
open PySem L2
local macro_rules | `(tactic| walk_at "o")=>`(tactic| first | exact Or.inl rfl | exact Or.inr rfl)
set_option hygiene false in
local macro_rules | `(tactic| walk_at "rd")=>`(tactic| ((try dsimp only [cx_K,ZDh,tForZ_eq,tRevL,tCompR2_eq,sFldAug_eq,cx_cloK,ZDi,ZCG,tForE_eq,tCompE_eq,ZD6,tAug_eq,ipI_int,gSub,gCons_eq,gNil_eq,tSeq,tIfS,ZD3,tB,tOr,tAnd,tNot,tOp,tUn,tC,ZAe,tTry,tCallS,tRaise,tForT_eq,tCompT_eq,tForR3_eq,ZDK,tMakeN,tCompR3_eq,tBL,tVar_1,tVar_2,tVar_3,tVar_4,tVar_5,tVar_6,tVar_7,tVar_8,tVar_9,tVar_10,tVar_11,tVar_12,tVar_13,tVar_14,tVar_15,tVar_16,tVar_17,tVar_18,tVar_19,tVar_20,tVar_21,tVar_22,tVar_23,tVar_24,tVar_25,tVar_26,tVar_27,tVar_28,tVar_29,tVar_30,rI0_int,rI_int,rU_int,rEq_int,rNe_int,rEq_bl,rNe_bl,rEq_str,rNe_str,ex_bl,ex_int,tAsg,ZDd,tRet,tRetN,ZD7,ZD5,ZDg,ZD8,tOrV,tNotV,tIf,List.set_cons_zero,List.set_cons_succ,ZDj,ZDY,ZBY,tNil,List.cons_append,List.nil_append,List.append_nil,tCB,tFld_eq,sFld_eq,tForL_eq,tForR1_eq,tForR2_eq,tCompL_eq,tCompR1_eq,tYes,tBM,tBM0,tLst,tTup,ZDw,true_and,tSl,ZD4,ZDJ,decide_eq_true_eq,Bool.not_eq_true',decide_eq_false_iff_not,L2.start,yAR,List.map_nil,yAZ,List.length_nil,Nat.reduceAdd,Nat.reduceSub,Nat.zero_add,yAV,List.replicate_zero,List.replicate_succ,if_true,if_false,yBH,Bool.true_eq_false,Bool.not_true,Bool.not_false]);(try simp only [cx_K,ZDh,tForZ_eq,tRevL,tCompR2_eq,sFldAug_eq,cx_cloK,ZDi,ZCG,tForE_eq,tCompE_eq,ZD6,tAug_eq,ipI_int,gSub,gCons_eq,gNil_eq,tSeq,tIfS,ZD3,tB,tOr,tAnd,tNot,tOp,tUn,tC,ZAe,tTry,tCallS,tRaise,tForT_eq,tCompT_eq,tForR3_eq,ZDK,tMakeN,tCompR3_eq,tBL,tVar_1,tVar_2,tVar_3,tVar_4,tVar_5,tVar_6,tVar_7,tVar_8,tVar_9,tVar_10,tVar_11,tVar_12,tVar_13,tVar_14,tVar_15,tVar_16,tVar_17,tVar_18,tVar_19,tVar_20,tVar_21,tVar_22,tVar_23,tVar_24,tVar_25,tVar_26,tVar_27,tVar_28,tVar_29,tVar_30,rI0_int,rI_int,rU_int,rEq_int,rNe_int,rEq_bl,rNe_bl,rEq_str,rNe_str,ex_bl,ex_int,tAsg,ZDd,tRet,tRetN,ZD7,ZD5,ZDg,ZD8,tOrV,tNotV,tIf,List.set_cons_zero,List.set_cons_succ,ZDj,ZDY,ZBY,tNil,List.cons_append,List.nil_append,List.append_nil,tCB,tFld_eq,sFld_eq,tForL_eq,tForR1_eq,tForR2_eq,tCompL_eq,tCompR1_eq,tYes,tBM,tBM0,tLst,tTup,ZDw,true_and,tSl,ZD4,ZDJ,decide_eq_true_eq,Bool.not_eq_true',decide_eq_false_iff_not,L2.start,yAR,List.map_nil,yAZ,List.length_nil,Nat.reduceAdd,Nat.reduceSub,Nat.zero_add,yAV,List.replicate_zero,List.replicate_succ,if_true,if_false,yBH,Bool.true_eq_false,Bool.not_true,Bool.not_false])))
local macro_rules | `(tactic| walk_at "up")=>`(tactic| first | assumption | (refine Same.get (by assumption) ?_;walk_at "up"))
local macro_rules | `(tactic| walk_at "lk")=>`(tactic| ((repeat (first | rw [lkc,if_pos rfl] | rw [lkc,if_neg (by decide +kernel)]));first | done | rfl))
noncomputable def top (i:Nat):Stmt:=PySem.Challenge.pw_sorthall_k13_tables_votes_chains.main.body.getD i (.Pass ⟨0,0,0,0⟩)
noncomputable abbrev ZBb:Stmt:=top 7
noncomputable abbrev ZA4:Stmt:=top 8
noncomputable abbrev ZBD:Stmt:=top 9
noncomputable abbrev ZA9:Stmt:=ZAv (top 10) 1
noncomputable abbrev ZA5:Stmt:=ZAv (top 11) 0
noncomputable abbrev ZAr:Stmt:=ZAv (top 11) 1
noncomputable abbrev ZAq:Stmt:=ZAv (top 11) 2
noncomputable abbrev ZAy:Stmt:=ZAv (top 12) 0
noncomputable abbrev ZAk:Stmt:=ZAv (top 12) 1
noncomputable abbrev ZAj:Stmt:=ZAv (top 12) 2
noncomputable abbrev ZAx:Stmt:=ZAv (top 13) 0
noncomputable abbrev ZAi:Stmt:=ZAv (top 13) 1
noncomputable abbrev ZAh:Stmt:=ZAv (top 13) 2
noncomputable abbrev ZAp:Stmt:=ZAv (top 14) 0
noncomputable abbrev ZAa:Stmt:=ZAv (top 14) 1
noncomputable abbrev ZAZ:Stmt:=ZAv (top 14) 2
noncomputable abbrev ZAw:Stmt:=ZAv (top 15) 0
noncomputable abbrev ZAg:Stmt:=ZAv (top 15) 1
noncomputable abbrev ZAf:Stmt:=ZAv (top 15) 2
noncomputable abbrev ZAs:Stmt:=ZAv (top 16) 0
noncomputable abbrev ZAc:Stmt:=ZAv (top 16) 1
noncomputable abbrev ZAb:Stmt:=ZAv (top 16) 2
noncomputable abbrev ZAt:Stmt:=ZAv (top 17) 0
noncomputable abbrev ZAd:Stmt:=ZAv (top 17) 1
noncomputable abbrev ZBm:Stmt:=top 19
noncomputable abbrev ZBl:Stmt:=top 20
noncomputable abbrev ZBk:Stmt:=top 21
noncomputable abbrev ZBq:Stmt:=top 22
noncomputable abbrev ZBj:Stmt:=top 23
noncomputable abbrev ZDZ:Stmt:=top 24
noncomputable abbrev ZCR:Stmt:=top 25
noncomputable abbrev ZCS:Stmt:=top 26
noncomputable abbrev ZB2:Stmt:=top 27
noncomputable abbrev ZB1:Stmt:=top 28
noncomputable abbrev ZCs:Stmt:=top 29
noncomputable abbrev ZC2:Stmt:=top 30
theorem sc_check_at:FnScope ["at"] ["at"] (ZAB ZBb):=⟨rfl,rfl,rfl,by decide +kernel,rfl,by decide +kernel,by decide +kernel⟩
theorem sc_check_column:FnScope ["at","way"] ["at","way"] (ZAB ZA4):=⟨rfl,rfl,rfl,by decide +kernel,rfl,by decide +kernel,by decide +kernel⟩
theorem sc_widest_of:FnScope ["rules"] ["rules"] (ZAB ZBD):=⟨rfl,rfl,rfl,by decide +kernel,rfl,by decide +kernel,by decide +kernel⟩
theorem sc_Rule_widest:FnScope ["self"] ["self"] (ZAB ZA9):=⟨rfl,rfl,rfl,by decide +kernel,rfl,by decide +kernel,by decide +kernel⟩
theorem sc_KeyRule_init:FnScope ["self","columns","at","way"] ["self","columns"] (ZAB ZA5):=⟨rfl,rfl,rfl,by decide +kernel,rfl,by decide +kernel,by decide +kernel⟩
theorem sc_KeyRule_before:FnScope ["self","x","y","at","way"] ["self","x","y"] (ZAB ZAr):=⟨rfl,rfl,rfl,by decide +kernel,rfl,by decide +kernel,by decide +kernel⟩
theorem sc_KeyRule_widest:FnScope ["self"] ["self"] (ZAB ZAq):=⟨rfl,rfl,rfl,by decide +kernel,rfl,by decide +kernel,by decide +kernel⟩
theorem sc_NearRule_init:FnScope ["self","at","gap"] ["self","at","gap"] (ZAB ZAy):=⟨rfl,rfl,rfl,by decide +kernel,rfl,by decide +kernel,by decide +kernel⟩
theorem sc_NearRule_before:FnScope ["self","x","y"] ["self","x","y"] (ZAB ZAk):=⟨rfl,rfl,rfl,by decide +kernel,rfl,by decide +kernel,by decide +kernel⟩
theorem sc_NearRule_widest:FnScope ["self"] ["self"] (ZAB ZAj):=⟨rfl,rfl,rfl,by decide +kernel,rfl,by decide +kernel,by decide +kernel⟩
theorem sc_RingRule_init:FnScope ["self","at","size"] ["self","at","size"] (ZAB ZAx):=⟨rfl,rfl,rfl,by decide +kernel,rfl,by decide +kernel,by decide +kernel⟩
theorem sc_RingRule_before:FnScope ["self","x","y","up_to"] ["self","x","y"] (ZAB ZAi):=⟨rfl,rfl,rfl,by decide +kernel,rfl,by decide +kernel,by decide +kernel⟩
theorem sc_RingRule_widest:FnScope ["self"] ["self"] (ZAB ZAh):=⟨rfl,rfl,rfl,by decide +kernel,rfl,by decide +kernel,by decide +kernel⟩
theorem sc_TableRule_init:FnScope ["self","at","table","truths"] ["self","at","table"] (ZAB ZAp):=⟨rfl,rfl,rfl,by decide +kernel,rfl,by decide +kernel,by decide +kernel⟩
theorem sc_TableRule_before:FnScope ["self","x","y"] ["self","x","y"] (ZAB ZAa):=⟨rfl,rfl,rfl,by decide +kernel,rfl,by decide +kernel,by decide +kernel⟩
theorem sc_TableRule_widest:FnScope ["self"] ["self"] (ZAB ZAZ):=⟨rfl,rfl,rfl,by decide +kernel,rfl,by decide +kernel,by decide +kernel⟩
theorem sc_VoteRule_init:FnScope ["self","rules"] ["self","rules"] (ZAB ZAw):=⟨rfl,rfl,rfl,by decide +kernel,rfl,by decide +kernel,by decide +kernel⟩
theorem sc_VoteRule_before:FnScope ["self","x","y","for_x","for_y"] ["self","x","y"] (ZAB ZAg):=⟨rfl,rfl,rfl,by decide +kernel,rfl,by decide +kernel,by decide +kernel⟩
theorem sc_VoteRule_widest:FnScope ["self"] ["self"] (ZAB ZAf):=⟨rfl,rfl,rfl,by decide +kernel,rfl,by decide +kernel,by decide +kernel⟩
theorem sc_ChainRule_init:FnScope ["self","rules"] ["self","rules"] (ZAB ZAs):=⟨rfl,rfl,rfl,by decide +kernel,rfl,by decide +kernel,by decide +kernel⟩
theorem sc_ChainRule_before:FnScope ["self","x","y","rule"] ["self","x","y"] (ZAB ZAc):=⟨rfl,rfl,rfl,by decide +kernel,rfl,by decide +kernel,by decide +kernel⟩
theorem sc_ChainRule_widest:FnScope ["self"] ["self"] (ZAB ZAb):=⟨rfl,rfl,rfl,by decide +kernel,rfl,by decide +kernel,by decide +kernel⟩
theorem sc_AskedRule_init:FnScope ["self","teller"] ["self","teller"] (ZAB ZAt):=⟨rfl,rfl,rfl,by decide +kernel,rfl,by decide +kernel,by decide +kernel⟩
theorem sc_AskedRule_before:FnScope ["self","x","y","teller"] ["self","x","y"] (ZAB ZAd):=⟨rfl,rfl,rfl,by decide +kernel,rfl,by decide +kernel,by decide +kernel⟩
theorem sc_cell_at:FnScope ["_law_script","_law_k"] ["_law_script","_law_k"] (ZAB ZBm):=⟨rfl,rfl,rfl,by decide +kernel,rfl,by decide +kernel,by decide +kernel⟩
theorem sc_figures:FnScope ["_law_cell","_law_many","_law_base","_law_figures_here","_law_k"] ["_law_cell","_law_many","_law_base"] (ZAB ZBl):=⟨rfl,rfl,rfl,by decide +kernel,rfl,by decide +kernel,by decide +kernel⟩
theorem sc_plan_by:FnScope ["_law_cell","_law_long","_law_at","_law_some","_law_bits"] ["_law_cell","_law_long"] (ZAB ZBk):=⟨rfl,rfl,rfl,by decide +kernel,rfl,by decide +kernel,by decide +kernel⟩
theorem sc_teller:FnScope ["_law_at","_law_size","_law_ask"] ["_law_at","_law_size"] (ZAB ZBq):=⟨rfl,rfl,rfl,by decide +kernel,rfl,by decide +kernel,by decide +kernel⟩
theorem sc_rule_of:FnScope ["_law_plan","_law_table","_law_rule"] ["_law_plan"] (ZAB ZBj):=⟨rfl,rfl,rfl,by decide +kernel,rfl,by decide +kernel,by decide +kernel⟩
theorem sc_one:FnScope ["_law_plan","_law_x","_law_y","_law_at","_law_way","_law_far"] ["_law_plan","_law_x","_law_y"] (ZAB ZDZ):=⟨rfl,rfl,rfl,by decide +kernel,rfl,by decide +kernel,by decide +kernel⟩
theorem sc_votes:FnScope ["_law_plans","_law_x","_law_y","_law_votes_here","_law_turned"] ["_law_plans","_law_x","_law_y"] (ZAB ZCR):=⟨rfl,rfl,rfl,by decide +kernel,rfl,by decide +kernel,by decide +kernel⟩
theorem sc_chain:FnScope ["_law_tells","_law_first","_law_turned"] ["_law_tells"] (ZAB ZCS):=⟨rfl,rfl,rfl,by decide +kernel,rfl,by decide +kernel,by decide +kernel⟩
theorem sc_before:FnScope ["_law_plans","_law_way","_law_x","_law_y","_law_tells","_law_votes_here"] ["_law_plans","_law_way","_law_x","_law_y"] (ZAB ZB2):=⟨rfl,rfl,rfl,by decide +kernel,rfl,by decide +kernel,by decide +kernel⟩
theorem sc_widest:FnScope ["_law_plan"] ["_law_plan"] (ZAB ZB1):=⟨rfl,rfl,rfl,by decide +kernel,rfl,by decide +kernel,by decide +kernel⟩
theorem sc_told:FnScope ["_law_rule","_law_plans","_law_way","_law_x","_law_y","_law_found"] ["_law_rule","_law_plans","_law_way","_law_x","_law_y"] (ZAB ZCs):=⟨rfl,rfl,rfl,by decide +kernel,rfl,by decide +kernel,by decide +kernel⟩
theorem sc_law:FnScope ["_law_script","_law_long","_law_way","_law_plans","_law_k","_law_rules","_law_handed","_law_rule","_law_things","_law_x","_law_y","_law_found"] ["_law_script"] (ZAB ZC2):=⟨rfl,rfl,rfl,by decide +kernel,rfl,by decide +kernel,by decide +kernel⟩
noncomputable abbrev ZAP:Stmt:=inBody ZBq 0
theorem csc_teller:CloScope ["_law_x","_law_y","_law_size","_law_at"] ["_law_x","_law_y"] ["_law_size","_law_at"] (ZAB ZAP):=⟨rfl,rfl,rfl,by decide +kernel,rfl,rfl,by decide,by decide +kernel,by decide +kernel,by decide +kernel,fun x h=>(show ∀ y∈(ZAB ZAP).names,y.2=.free->y.1∈(["_law_size","_law_at"]:List Str) by decide +kernel) _ (PySem.mem_of_lookup h) rfl⟩
structure Bt (K:W.Frag) (mg:Str->Option Value) (C_Rule C_KeyRule C_NearRule C_RingRule C_TableRule C_VoteRule C_ChainRule C_AskedRule:Addr):Prop where
 b_len:mg "len"=none
 b_range:mg "range"=none
 b_tuple:mg "tuple"=none
 b_list:mg "list"=none
 b_isinstance:mg "isinstance"=none
 b_bool:mg "bool"=none
 b_int:mg "int"=none
 b_max:mg "max"=none
 b_ValueError:mg "ValueError"=none
 c_GREATEST_AT:∃ t,mg "GREATEST_AT"=some (.int 7 t)
 c_UP:∃ t,mg "UP"=some (.str "up" t)
 c_DOWN:∃ t,mg "DOWN"=some (.str "down" t)
 m_Rule:mg "Rule"=some (.ref C_Rule)
 cl_Rule:Cls K C_Rule
 m_KeyRule:mg "KeyRule"=some (.ref C_KeyRule)
 cl_KeyRule:Cls K C_KeyRule
 e_KeyRule:EqC K C_KeyRule
 n_KeyRule_columns:NoAttr K C_KeyRule "columns"
 m_NearRule:mg "NearRule"=some (.ref C_NearRule)
 cl_NearRule:Cls K C_NearRule
 e_NearRule:EqC K C_NearRule
 n_NearRule_at:NoAttr K C_NearRule "at"
 n_NearRule_gap:NoAttr K C_NearRule "gap"
 m_RingRule:mg "RingRule"=some (.ref C_RingRule)
 cl_RingRule:Cls K C_RingRule
 e_RingRule:EqC K C_RingRule
 n_RingRule_at:NoAttr K C_RingRule "at"
 n_RingRule_size:NoAttr K C_RingRule "size"
 m_TableRule:mg "TableRule"=some (.ref C_TableRule)
 cl_TableRule:Cls K C_TableRule
 e_TableRule:EqC K C_TableRule
 n_TableRule_at:NoAttr K C_TableRule "at"
 n_TableRule_table:NoAttr K C_TableRule "table"
 m_VoteRule:mg "VoteRule"=some (.ref C_VoteRule)
 cl_VoteRule:Cls K C_VoteRule
 e_VoteRule:EqC K C_VoteRule
 n_VoteRule_rules:NoAttr K C_VoteRule "rules"
 m_ChainRule:mg "ChainRule"=some (.ref C_ChainRule)
 cl_ChainRule:Cls K C_ChainRule
 n_ChainRule_rules:NoAttr K C_ChainRule "rules"
 m_AskedRule:mg "AskedRule"=some (.ref C_AskedRule)
 cl_AskedRule:Cls K C_AskedRule
 e_AskedRule:EqC K C_AskedRule
 n_AskedRule_teller:NoAttr K C_AskedRule "teller"
 kit_int_bool:PySem.W.kitOne K (.type "int") (.type "bool")=some false
noncomputable def cellOf (ns:List Int) (k:Int):Int:=if k < (ns.length:Int) then (ns[k.toNat]?).getD 0 else 0
noncomputable def ZDn (K:W.Frag):Sp:=fun vs H Q _=>∃ (a:Addr) (ns:List Int) (k:Int),vs=[.ref a,.int k] /\ SqL K H a (ns.map V.int) /\ 0 <= k /\ Q (.int (cellOf ns k)) H
noncomputable def at0 (xs:List Int) (a:Int):Int:=(xs[a.toNat]?).getD 0
noncomputable def keyB:List (Int×Bool)->List Int->List Int->Bool
 | [],_,_=>false
 | (a,u)::r,x,y=>if at0 x a=at0 y a then keyB r x y else if u=true then decide (at0 x a < at0 y a) else decide (at0 y a < at0 x a)
noncomputable def wayS (u:Bool):Str:=if u=true then "up" else "down"
noncomputable def colD (c:Int×Bool):PyData:=.tuple [.int c.1,.str (wayS c.2)]
theorem wayS_up {u:Bool}:wayS u=("up":Str)↔u=true:=by
 cases u
 .exact ⟨fun h=>absurd h (by decide +kernel),fun h=>by cases h⟩
 .exact ⟨fun _=>rfl,fun _=>rfl⟩
theorem wayS_ok (u:Bool):wayS u=("up":Str)∨wayS u=("down":Str):=by
 cases u
 .exact .inr rfl
 .exact .inl rfl
theorem ZBN {xs:List Int} {a:Int} (h0:0 <= a) (h:a < (xs.length:Int)):xs[a.toNat]?=some (at0 xs a):=by
 unfold at0
 rw [yAC (by omega)]
 rfl
theorem dp_col {K:W.Frag} {H:Hp} {c:Int×Bool} {v:V} (h:Dp K H (colD c) v):∃ t,v=.ref t /\ SqT K H t [.int c.1,.str (wayS c.2)]:=by
 unfold colD at h
 obtain ⟨t,xs,rfl,hs,hd⟩:=h.asT
 unfold DpAll at hd
 obtain ⟨v1,r1,rfl,d1,hd⟩:=hd
 unfold DpAll at hd
 obtain ⟨v2,r2,rfl,d2,hd⟩:=hd
 unfold DpAll at hd
 subst hd
 rw [d1.asI,d2.asS] at hs
 exact ⟨t,rfl,hs⟩
theorem ZDH {K:W.Frag} {H:Hp} {cols:List (Int×Bool)} {xs:List V} {i:Nat} {v:V} (h:DpAll K H (cols.map colD) xs) (e:xs[i]?=some v):∃ c t,cols[i]?=some c /\ v=.ref t /\ SqT K H t [.int c.1,.str (wayS c.2)]:=by
 obtain ⟨d,hd,dd⟩:=h.of_get e
 rw [yAU] at hd
 cases ec:cols[i]? with
 | none=>rw [ec] at hd;cases hd
 | some c=>
  rw [ec] at hd
  have hd':colD c=d:=Option.some.inj hd
  subst hd'
  obtain ⟨t,rfl,ht⟩:=dp_col dd
  exact ⟨c,t,rfl,rfl,ht⟩
theorem keyB_drop {cols:List (Int×Bool)} {i:Nat} {c:Int×Bool} (e:cols[i]?=some c) (x y:List Int):keyB (cols.drop i) x y=if at0 x c.1=at0 y c.1 then keyB (cols.drop (i+1)) x y else if c.2=true then decide (at0 x c.1 < at0 y c.1) else decide (at0 y c.1 < at0 x c.1):=by
 obtain ⟨hi,he⟩:=yAI.mp e
 rw [List.drop_eq_getElem_cons hi,he]
 rfl
noncomputable def ZCP:Sp:=fun vs H Q _=>∃ i:Int,vs=[.int i] /\ 0 <= i /\ i <= 7 /\ Q .non H
noncomputable def ZCO:Sp:=fun vs H Q _=>∃ (i:Int) (u:Bool),vs=[.int i,.str (wayS u)] /\ 0 <= i /\ i <= 7 /\ Q .non H
noncomputable def ZCd (K:W.Frag) (C:Addr):Sp:=fun vs H Q _=>∃ (p dx c:Addr) (xs:List V) (cols:List (Int×Bool)),vs=[.ref p,.ref c] /\ H p=some (.ins C dx []) /\ SqL K H c xs /\ DpAll K H (cols.map colD) xs /\ (∀ c∈cols,0 <= c.1 /\ c.1 <= 7) /\
 ∀ l,H l=none->Q .non (upd (upd H l (.lst xs)) p (.ins C dx (putF "columns" (.ref l) [])))
noncomputable def ZBR (K:W.Frag) (C:Addr):Sp:=fun vs H Q _=>∃ (p dx c x y:Addr) (xs:List V) (cols:List (Int×Bool)) (xi yi:List Int),vs=[.ref p,.ref x,.ref y] /\ H p=some (.ins C dx (putF "columns" (.ref c) [])) /\ SqL K H c xs /\ DpAll K H (cols.map colD) xs /\
 SqT K H x (xi.map V.int) /\ SqT K H y (yi.map V.int) /\ (∀ c∈cols,0 <= c.1 /\ c.1 < (xi.length:Int) /\ c.1 < (yi.length:Int)) /\ Q (.bl (keyB cols xi yi)) H
theorem putF1 {f:Str} {v:V}:(putF f v []).lookup f=some v:=by rw [ZAu,if_pos rfl]
theorem putF1n {f g:Str} {v:V} (h:¬ g=f):(putF f v []).lookup g=none:=by
 rw [ZAu,if_neg h]
 rfl
noncomputable def MAt (H:Hp) (l:Addr) (n:Nat) (m:Nat->Nat->Bool):Prop:=∃ rs:List V,H l=some (.lst rs) /\ rs.length=n /\ ∀ p,p < n->∃ r,rs[p]?=some (V.ref r) /\ H r=some (.lst ((List.range n).map fun q=>V.bl (m p q)))
noncomputable def SameB (H H':Hp):Prop:=∀ b o,(∀ t,o≠.tbl t)->H b=some o->H' b=some o
theorem ZA8 {H H':Hp} (s:Same H H'):SameB H H':=fun b o _ e=>s b o e
theorem SameB.trans {A B C:Hp} (s:SameB A B) (t:SameB B C):SameB A C:=fun b o n e=>t b o n (s b o n e)
theorem MAt.mono {H H':Hp} {l:Addr} {n:Nat} {m:Nat->Nat->Bool} (s:SameB H H') (h:MAt H l n m):MAt H' l n m:=by
 obtain ⟨rs,a,b,c⟩:=h
 refine ⟨rs,s _ _ (fun _ z=>by cases z) a,b,fun p hp=>?_⟩
 obtain ⟨r,d,e⟩:=c p hp
 exact ⟨r,d,s _ _ (fun _ z=>by cases z) e⟩
noncomputable def MNew (H0 H:Hp) (l:Addr) (n:Nat) (m:Nat->Nat->Bool):Prop:=∃ rs:List V,H l=some (.lst rs) /\ rs.length=n /\ H0 l=none /\ ∀ p,p < n->∃ r,rs[p]?=some (V.ref r) /\ H0 r=none /\ H r=some (.lst ((List.range n).map fun q=>V.bl (m p q)))
theorem rowAt {n i:Nat} {g:Nat->V} (h:i < n):atI ((List.range n).map g) ((i:Nat):Int)=some (g i):=ZAI (by omega) (by rw [Int.toNat_natCast,yAU,List.getElem?_range h];rfl)
structure Pn where
 kd:Nat
 key:Nat
 num:Int
 cols:List (Int×Bool)
 m:Nat->Nat->Bool
structure Pn.Ok (p:Pn):Prop where
 kd:p.kd < 5
 key:p.key < 4
 n0:0 <= p.num
 n1:p.kd=2->1 <= p.num
 n2:p.kd=3->2 <= p.num
 cl:∀ c∈p.cols,0 <= c.1 /\ c.1 < 4
 cln:p.cols.length <= 5
structure Tg (L:Nat) (x:List Int):Prop where
 len:x.length=4
 l5:L <= 5
 bd:∀ k:Nat,k < 4->0 <= at0 x (k:Int) /\ at0 x (k:Int) < (L:Int)
noncomputable def ZDy (s d:Int):Bool:=decide (0 < d % s) && decide (2 * (d % s) < s)
noncomputable def gB (p:Pn) (x y:List Int):Bool :=
 if p.kd=0 then keyB p.cols x y else if p.kd=1 then decide (p.num < at0 y p.key-at0 x p.key) else if p.kd=2 then ZDy p.num (at0 y p.key-at0 x p.key) else if p.kd=3 then decide ((at0 x p.key+2 * at0 y p.key) % p.num=1) else p.m (at0 x p.key).toNat (at0 y p.key).toNat
noncomputable def wB (p:Pn):Int:=if p.kd=0 then maxD (-1) (p.cols.map (·.1)) else if p.kd=3 then -1 else p.key
noncomputable abbrev fN (a gp:Int):List (Str×V):=[("gap",.int gp),("at",.int a)]
noncomputable abbrev fRg (a sz:Int):List (Str×V):=[("size",.int sz),("at",.int a)]
noncomputable abbrev fV (l:Addr):List (Str×V):=[("rules",.ref l)]
noncomputable abbrev fT (a:Int) (l:Addr):List (Str×V):=[("table",.ref l),("at",.int a)]
noncomputable abbrev fG (g:Addr):List (Str×V):=[("teller",.ref g)]
noncomputable abbrev CloA (H:Hp) (g:Addr) (a b:Int):Prop:=Clo H g "_law_ask" "_law_teller.<locals>._law_ask" (ZAM ZAP) (ZAL ZAP) (ZAB ZAP) ["_law_size","_law_at"] [.int b,.int a]
noncomputable abbrev TabT (H:Hp) (Pt:Addr):Prop:=TabSt H Pt (ZDW ZAP) "_law_teller.<locals>._law_ask"
noncomputable abbrev rT13 (K:W.Frag):V->List V->Hp->VK->Prop:=fun f vs H Q=>∃ (g x y:Addr) (a b:Int) (xi yi:List Int),f=.ref g /\ vs=[.ref x,.ref y] /\ CloA H g a b /\ SqT K H x (xi.map V.int) /\ SqT K H y (yi.map V.int) /\ 0 <= a /\ a < (xi.length:Int) /\ a < (yi.length:Int) /\ 0 < b /\ (0 <= at0 yi a /\ at0 yi a < 100) /\ Q (.bl (decide ((at0 xi a+2 * at0 yi a) % b=1))) H
noncomputable def ZCN (C:Addr):Sp:=fun vs H Q _=>∃ (x dx:Addr) (a gp:Int),vs=[.ref x,.int a,.int gp] /\ H x=some (.ins C dx []) /\ 0 <= a /\ a <= 7 /\ 0 <= gp /\ ∀ H',(∀ b o,b≠x->H b=some o->H' b=some o)->Ins H' x C (fN a gp)->Q .non H'
noncomputable def ZCM (C:Addr):Sp:=fun vs H Q _=>∃ (x dx:Addr) (a sz:Int),vs=[.ref x,.int a,.int sz] /\ H x=some (.ins C dx []) /\ 0 <= a /\ a <= 7 /\ 1 <= sz /\ ∀ H',(∀ b o,b≠x->H b=some o->H' b=some o)->Ins H' x C (fRg a sz)->Q .non H'
noncomputable def ZBG (K:W.Frag) (C:Addr):Sp:=fun vs H Q _=>∃ (p x y:Addr) (a gp:Int) (xi yi:List Int),vs=[.ref p,.ref x,.ref y] /\ Ins H p C (fN a gp) /\ SqT K H x (xi.map V.int) /\ SqT K H y (yi.map V.int) /\ 0 <= a /\ a < (xi.length:Int) /\ a < (yi.length:Int) /\ Q (.bl (decide (gp < at0 yi a-at0 xi a))) H
noncomputable def ZBF (K:W.Frag) (C:Addr):Sp:=fun vs H Q _=>∃ (p x y:Addr) (a sz:Int) (xi yi:List Int),vs=[.ref p,.ref x,.ref y] /\ Ins H p C (fRg a sz) /\ SqT K H x (xi.map V.int) /\ SqT K H y (yi.map V.int) /\ 0 <= a /\ a < (xi.length:Int) /\ a < (yi.length:Int) /\ 1 <= sz /\ Q (.bl (ZDy sz (at0 yi a-at0 xi a))) H
noncomputable def ZB0 (K:W.Frag) (C:Addr):Sp:=fun vs H Q _=>∃ (p dx c:Addr) (xs:List V) (cols:List (Int×Bool)),vs=[.ref p] /\ H p=some (.ins C dx (putF "columns" (.ref c) [])) /\ SqL K H c xs /\ DpAll K H (cols.map colD) xs /\ cols.length <= 8 /\ ∀ H',Same H H'->Q (.int (maxD (-1) (cols.map (·.1)))) H'
noncomputable def ZBi (C:Addr):Sp:=fun vs H Q _=>∃ (p:Addr) (a gp:Int),vs=[.ref p] /\ Ins H p C (fN a gp) /\ Q (.int a) H
noncomputable def ZBh (C:Addr):Sp:=fun vs H Q _=>∃ (p:Addr) (a gp:Int),vs=[.ref p] /\ Ins H p C (fRg a gp) /\ Q (.int a) H
noncomputable def ZBz (C:Addr):Sp:=fun vs H Q _=>∃ (p l:Addr) (a:Int),vs=[.ref p] /\ Ins H p C (fT a l) /\ Q (.int a) H
noncomputable def ZBg:Sp:=fun vs H Q _=>∃ p:Addr,vs=[.ref p] /\ Q (.int (-1)) H
noncomputable def ZCb (C:Addr):Sp:=fun vs H Q _=>∃ (x dx l:Addr) (a:Int) (n:Nat) (m:Nat->Nat->Bool),vs=[.ref x,.int a,.ref l] /\ H x=some (.ins C dx []) /\ 0 <= a /\ a <= 7 /\ MAt H l n m /\ n <= 100 /\ ∀ l2 H',(∀ b o,b≠x->H b=some o->H' b=some o)->MNew H H' l2 n m->Ins H' x C (fT a l2)->Q .non H'
noncomputable def ZBQ (K:W.Frag) (C:Addr):Sp:=fun vs H Q _=>∃ (r x y l:Addr) (a:Int) (n:Nat) (m:Nat->Nat->Bool) (xi yi:List Int) (i j:Nat),vs=[.ref r,.ref x,.ref y] /\ Ins H r C (fT a l) /\ MAt H l n m /\ SqT K H x (xi.map V.int) /\ SqT K H y (yi.map V.int) /\ 0 <= a /\ xi[a.toNat]?=some (i:Int) /\ yi[a.toNat]?=some (j:Int) /\ i < n /\ j < n /\ Q (.bl (m i j)) H
noncomputable def ZCg (CR:Addr):Sp:=fun vs H Q _=>∃ (x dx g:Addr),vs=[.ref x,.ref g] /\ H x=some (.ins CR dx []) /\ ∀ H',(∀ b o,b≠x->H b=some o->H' b=some o)->Ins H' x CR (fG g)->Q .non H'
noncomputable def ZCr (K:W.Frag) (CR:Addr):Sp:=fun vs H Q _=>∃ (ru g:Addr) (x y:V),vs=[.ref ru,x,y] /\ Ins H ru CR (fG g) /\ (∃ o,H g=some (FZ o) /\ ∃ fd,o.data=.func fd) /\ rT13 K (.ref g) [x,y] H Q
noncomputable def PnAt (K:W.Frag) (CK CN CR CA CT:Addr) (L:Nat) (H:Hp) (r:Addr) (p:Pn):Prop :=
 (p.kd=0 /\ ∃ dx c xs,H r=some (.ins CK dx (putF "columns" (.ref c) [])) /\ SqL K H c xs /\ DpAll K H (p.cols.map colD) xs)∨(p.kd=1 /\ Ins H r CN (fN p.key p.num))∨(p.kd=2 /\ Ins H r CR (fRg p.key p.num))∨(p.kd=3 /\ ∃ g,Ins H r CA (fG g) /\ (∃ o,H g=some (FZ o) /\ ∃ fd,o.data=.func fd) /\ CloA H g p.key p.num)∨(p.kd=4 /\ ∃ l,Ins H r CT (fT p.key l) /\ MAt H l L p.m)
noncomputable abbrev MtO (C r:Addr) (m:Str) (H:Hp) (R:Prop):Prop:=∃ b dx fs,V.ref r=.ref b /\ H b=some (.ins C dx fs) /\ fs.lookup m=none /\ R
section pn
variable {K:W.Frag} {CK CN CR CA CT CV CC:Addr} {L:Nat} {H H':Hp} {r x y:Addr} {p:Pn} {xi yi:List Int} {Q:VK} {E:XK}
theorem SameB.ins {C:Addr} {fl:List (Str×V)} (e:SameB H H') (h:Ins H r C fl):Ins H' r C fl:=by
 obtain ⟨dx,fs,h1,h2,h3⟩:=h.ex
 exact ⟨dx,fs,e _ _ (fun _ z=>by cases z) h1,h2,h3⟩
theorem SameB.fz (e:SameB H H'):ZCw H H':=fun b o h=>e b _ (fun _ z=>by cases z) h
theorem SameB.seq {l:Addr} {xs:List V} (e:SameB H H') (h:SqL K H l xs):SqL K H' l xs:=by
 rcases h with (h | ⟨o,h⟩) | h
 .exact .inl (.inl (e _ _ (fun _ z=>by cases z) h))
 .exact .inl (.inr ⟨o,e _ _ (fun _ z=>by cases z) h⟩)
 .exact .inr h
theorem SameB.seqT {l:Addr} {xs:List V} (e:SameB H H') (h:SqT K H l xs):SqT K H' l xs:=by
 rcases h with (h | ⟨o,h⟩) | h
 .exact .inl (.inl (e _ _ (fun _ z=>by cases z) h))
 .exact .inl (.inr ⟨o,e _ _ (fun _ z=>by cases z) h⟩)
 .exact .inr h
theorem ZCn (e:SameB H H'):∀ {cols:List (Int×Bool)} {xs:List V},DpAll K H (cols.map colD) xs->DpAll K H' (cols.map colD) xs
 | [],xs,h=>by unfold DpAll at h;subst h;exact .nil
 | c::r,xs,h=>by
  rw [yAR] at h ⊢
  unfold DpAll at h
  obtain ⟨v,ys,rfl,hv,ht⟩:=h
  refine .cons ?_ (ZCn e ht)
  obtain ⟨a,zs,rfl,h1,h2⟩:=Dp.asT hv
  refine ZDv (e.seqT h1) ?_
  simp only [DpAll,Dp] at h2 ⊢
  exact h2
theorem PnAt.mono (e:SameB H H') (h:PnAt K CK CN CR CA CT L H r p):PnAt K CK CN CR CA CT L H' r p:=by
 rcases h with ⟨h0,dx,c,xs,h1,h2,h3⟩ | ⟨h0,h1⟩ | ⟨h0,h1⟩ | ⟨h0,g,h1,⟨o,h2,h4⟩,h3⟩ | ⟨h0,l,h1,h2⟩
 .exact .inl ⟨h0,dx,c,xs,e _ _ (fun _ z=>by cases z) h1,e.seq h2,ZCn e h3⟩
 .exact .inr (.inl ⟨h0,e.ins h1⟩)
 .exact .inr (.inr (.inl ⟨h0,e.ins h1⟩))
 .exact .inr (.inr (.inr (.inl ⟨h0,g,e.ins h1,⟨o,e _ _ (fun _ z=>by cases z) h2,h4⟩,h3.mono e.fz⟩)))
 .exact .inr (.inr (.inr (.inr ⟨h0,l,e.ins h1,h2.mono e⟩)))
theorem ZCj (h:PnAt K CK CN CR CA CT L H r p) (ok:p.Ok) (hx:SqT K H x (xi.map V.int)) (hy:SqT K H y (yi.map V.int)) (tx:Tg L xi) (ty:Tg L yi) (q:Q (.bl (gB p xi yi)) H) :
  MtO CK r (Str.ofString "before") H (ZBR K CK [.ref r,.ref x,.ref y] H Q E)∨MtO CN r (Str.ofString "before") H (ZBG K CN [.ref r,.ref x,.ref y] H Q E)∨MtO CR r (Str.ofString "before") H (ZBF K CR [.ref r,.ref x,.ref y] H Q E)∨MtO CA r (Str.ofString "before") H (ZCr K CA [.ref r,.ref x,.ref y] H Q E)∨MtO CT r (Str.ofString "before") H (ZBQ K CT [.ref r,.ref x,.ref y] H Q E):=by
 have hk:=ok.key
 have lx:=tx.len
 have ly:=ty.len
 unfold gB at q
 rcases h with ⟨h0,dx,c,xs,h1,h2,h3⟩ | ⟨h0,h1⟩ | ⟨h0,h1⟩ | ⟨h0,g,h1,h2,h3⟩ | ⟨h0,l,h1,h2⟩
 .rw [if_pos h0] at q
  refine .inl ⟨r,dx,_,rfl,h1,putF1n (by decide +kernel),r,dx,c,x,y,xs,_,xi,yi,rfl,h1,h2,h3,hx,hy,fun c' hc=>?_,q⟩
  have:=ok.cl c' hc
  exact ⟨by omega,by omega,by omega⟩
 .rw [if_neg (by omega),if_pos h0] at q
  exact .inr (.inl (h1.meth (by walk_at "lk") ⟨r,x,y,_,_,xi,yi,rfl,h1,hx,hy,by omega,by omega,by omega,q⟩))
 .rw [if_neg (by omega),if_neg (by omega),if_pos h0] at q
  exact .inr (.inr (.inl (h1.meth (by walk_at "lk") ⟨r,x,y,_,_,xi,yi,rfl,h1,hx,hy,by omega,by omega,by omega,ok.n1 h0,q⟩)))
 .rw [if_neg (by omega),if_neg (by omega),if_neg (by omega),if_pos h0] at q
  have:=ok.n2 h0
  have bY:=ty.bd p.key hk
  have l5:=ty.l5
  exact .inr (.inr (.inr (.inl (h1.meth (by walk_at "lk") ⟨r,g,.ref x,.ref y,rfl,h1,h2,g,x,y,_,_,xi,yi,rfl,rfl,h3,hx,hy,by omega,by omega,by omega,by omega,⟨by omega,by omega⟩,q⟩))))
 .rw [if_neg (by omega),if_neg (by omega),if_neg (by omega),if_neg (by omega)] at q
  have bx:=tx.bd p.key hk
  have bY:=ty.bd p.key hk
  exact .inr (.inr (.inr (.inr (h1.meth (by walk_at "lk") ⟨r,x,y,l,_,L,p.m,xi,yi,_,_,rfl,h1,h2,hx,hy,by omega,by rw [ZBN (by omega) (by omega),show (((at0 xi p.key).toNat:Nat):Int)=at0 xi p.key by omega],by rw [ZBN (by omega) (by omega),show (((at0 yi p.key).toNat:Nat):Int)=at0 yi p.key by omega],by omega,by omega,q⟩))))
theorem pn_wid (h:PnAt K CK CN CR CA CT L H r p) (ok:p.Ok) (q:∀ H',Same H H'->Q (.int (wB p)) H') :
  MtO CK r (Str.ofString "widest") H (ZB0 K CK [.ref r] H Q E)∨MtO CN r (Str.ofString "widest") H (ZBi CN [.ref r] H Q E)∨MtO CR r (Str.ofString "widest") H (ZBh CR [.ref r] H Q E)∨MtO CA r (Str.ofString "widest") H (ZBg [.ref r] H Q E)∨MtO CT r (Str.ofString "widest") H (ZBz CT [.ref r] H Q E):=by
 have hc:=ok.cln
 unfold wB at q
 rcases h with ⟨h0,dx,c,xs,h1,h2,h3⟩ | ⟨h0,h1⟩ | ⟨h0,h1⟩ | ⟨h0,g,h1,h2,h3⟩ | ⟨h0,l,h1,h2⟩
 .rw [if_pos h0] at q
  exact .inl ⟨r,dx,_,rfl,h1,putF1n (by decide +kernel),r,dx,c,xs,_,rfl,h1,h2,h3,by omega,fun H' s=>q H' s⟩
 .rw [if_neg (by omega),if_neg (by omega)] at q
  exact .inr (.inl (h1.meth (by walk_at "lk") ⟨r,_,_,rfl,h1,q _ (.refl _)⟩))
 .rw [if_neg (by omega),if_neg (by omega)] at q
  exact .inr (.inr (.inl (h1.meth (by walk_at "lk") ⟨r,_,_,rfl,h1,q _ (.refl _)⟩)))
 .rw [if_neg (by omega),if_pos h0] at q
  exact .inr (.inr (.inr (.inl (h1.meth (by walk_at "lk") ⟨r,rfl,q _ (.refl _)⟩))))
 .rw [if_neg (by omega),if_neg (by omega)] at q
  exact .inr (.inr (.inr (.inr (h1.meth (by walk_at "lk") ⟨r,l,_,rfl,h1,q _ (.refl _)⟩))))
structure Pns (K:W.Frag) (CK CN CR CA CT:Addr) (L:Nat) (H:Hp) (xs:List V) (ps:List Pn):Prop where
 len:xs.length=ps.length
 get:∀ (i:Nat) p,ps[i]?=some p->∃ r,xs[i]?=some (V.ref r) /\ PnAt K CK CN CR CA CT L H r p
variable {xs:List V} {ps:List Pn}
theorem Pns.mono (e:SameB H H') (h:Pns K CK CN CR CA CT L H xs ps):Pns K CK CN CR CA CT L H' xs ps:=⟨h.len,fun i p hp=>by
 obtain ⟨r,a,b⟩:=h.get i p hp
 exact ⟨r,a,b.mono e⟩⟩
theorem Pns.at {i:Nat} {u:V} (h:Pns K CK CN CR CA CT L H xs ps) (hx:xs[i]?=some u):∃ p r,ps[i]?=some p /\ u=.ref r /\ PnAt K CK CN CR CA CT L H r p:=by
 have hi:i < ps.length:=by rw [<- h.len];exact (yAI.mp hx).1
 obtain ⟨r,a,b⟩:=h.get i ps[i] (yAC hi)
 rw [hx] at a
 cases a
 exact ⟨_,r,yAC hi,rfl,b⟩
theorem Pns.snoc (h:Pns K CK CN CR CA CT L H xs ps) (hr:PnAt K CK CN CR CA CT L H r p):Pns K CK CN CR CA CT L H (xs++[.ref r]) (ps++[p]):=by
 refine ⟨by rw [yAF,yAF,h.len];rfl,fun i ms hi=>?_⟩
 by_cases z:i < ps.length
 .rw [yAO z] at hi
  obtain ⟨t',a,b⟩:=h.get i ms hi
  exact ⟨t',by rw [yAO (by rw [h.len];exact z)];exact a,b⟩
 .have e:=(yAI.mp hi).1
  rw [yAF] at e
  have e1:i=ps.length:=by have:[p].length=1:=rfl;omega
  subst e1
  rw [yAT (yAA _),yAV] at hi
  cases hi
  exact ⟨r,by rw [<- h.len,yAT (yAA _),yAV];rfl,hr⟩
theorem Pns.drop (h:Pns K CK CN CR CA CT L H xs ps) (k:Nat):Pns K CK CN CR CA CT L H (xs.drop k) (ps.drop k):=⟨by rw [yBB,yBB,h.len],fun i p hp=>by
 rw [yBL] at hp
 obtain ⟨r,a,b⟩:=h.get _ p hp
 exact ⟨r,by rw [yBL];exact a,b⟩⟩
noncomputable def cnt (ps:List Pn) (x y:List Int):Nat:=(ps.filter fun p=>gB p x y).length
noncomputable def vB (ps:List Pn) (x y:List Int):Bool:=decide (cnt ps y x < cnt ps x y)
theorem cnt_le (ps:List Pn) (x y:List Int) (i:Nat):cnt (ps.take i) x y <= i:=yAD (List.length_filter_le _ _) (by rw [yAS];omega)
theorem cnt_next {i:Nat} (x y:List Int) (h:ps[i]?=some p):cnt (ps.take (i+1)) x y=cnt (ps.take i) x y+(if gB p x y=true then 1 else 0):=by
 unfold cnt
 rw [yBA,h,List.filter_append,yAF]
 congr 1
 show (List.filter _ [p]).length=_
 rw [List.filter_cons]
 cases gB p x y <;> rfl
noncomputable abbrev Prt:=Bool×List Pn
structure PrtOk (q:Prt):Prop where
 ok:∀ p∈q.2,p.Ok
 le:q.2.length <= 5
 one:q.1=false->∃ p,q.2=[p]
noncomputable def ZBL (q:Prt) (x y:List Int):Bool:=if q.1=true then vB q.2 x y else q.2.any fun p=>gB p x y
noncomputable def befB:List Prt->List Int->List Int->Bool
 | [],_,_=>false
 | q::r,x,y=>if ZBL q x y=true then true else if ZBL q y x=true then false else befB r x y
noncomputable def wq (q:Prt):Int:=if q.1=true then maxD (-1) (q.2.map wB) else (q.2.map wB).headD (-1)
noncomputable def wR (ps:List Prt):Int:=maxD (-1) (ps.map wq)
noncomputable def VtAt (K:W.Frag) (CK CN CR CA CT CV:Addr) (L:Nat) (H:Hp) (r:Addr) (ps:List Pn):Prop:=∃ l xs,Ins H r CV (fV l) /\ H l=some (.lst xs) /\ Pns K CK CN CR CA CT L H xs ps
noncomputable def PrAt (K:W.Frag) (CK CN CR CA CT CV:Addr) (L:Nat) (H:Hp) (r:Addr) (q:Prt):Prop:=(q.1=false /\ ∃ p,q.2=[p] /\ PnAt K CK CN CR CA CT L H r p)∨(q.1=true /\ VtAt K CK CN CR CA CT CV L H r q.2)
theorem VtAt.mono {ps:List Pn} (e:SameB H H') (h:VtAt K CK CN CR CA CT CV L H r ps):VtAt K CK CN CR CA CT CV L H' r ps:=by
 obtain ⟨l,xs,a,b,c⟩:=h
 exact ⟨l,xs,e.ins a,e _ _ (fun _ z=>by cases z) b,c.mono e⟩
theorem VtAt.meth {ps:List Pn} {m:Str} {R:Prop} (h:VtAt K CK CN CR CA CT CV L H r ps) (hm:m=Str.ofString "before"∨m=Str.ofString "widest") (q:R):MtO CV r m H R:=by
 obtain ⟨l,xs,a,b,c⟩:=h
 rcases hm with rfl | rfl
 .exact a.meth (by walk_at "lk") q
 .exact a.meth (by walk_at "lk") q
theorem PrAt.mono {q:Prt} (e:SameB H H') (h:PrAt K CK CN CR CA CT CV L H r q):PrAt K CK CN CR CA CT CV L H' r q:=by
 rcases h with ⟨h0,p,a,b⟩ | ⟨h0,a⟩
 .exact .inl ⟨h0,p,a,b.mono e⟩
 .exact .inr ⟨h0,a.mono e⟩
structure Prs (K:W.Frag) (CK CN CR CA CT CV:Addr) (L:Nat) (H:Hp) (xs:List V) (ps:List Prt):Prop where
 len:xs.length=ps.length
 get:∀ (i:Nat) q,ps[i]?=some q->∃ r,xs[i]?=some (V.ref r) /\ PrAt K CK CN CR CA CT CV L H r q
theorem Prs.mono {ps:List Prt} (e:SameB H H') (h:Prs K CK CN CR CA CT CV L H xs ps):Prs K CK CN CR CA CT CV L H' xs ps:=⟨h.len,fun i p hp=>by
 obtain ⟨r,a,b⟩:=h.get i p hp
 exact ⟨r,a,b.mono e⟩⟩
theorem Prs.at {ps:List Prt} {i:Nat} {u:V} (h:Prs K CK CN CR CA CT CV L H xs ps) (hx:xs[i]?=some u):∃ p r,ps[i]?=some p /\ u=.ref r /\ PrAt K CK CN CR CA CT CV L H r p:=by
 have hi:i < ps.length:=by rw [<- h.len];exact (yAI.mp hx).1
 obtain ⟨r,a,b⟩:=h.get i ps[i] (yAC hi)
 rw [hx] at a
 cases a
 exact ⟨_,r,yAC hi,rfl,b⟩
noncomputable def ChAt (K:W.Frag) (CK CN CR CA CT CV CC:Addr) (L:Nat) (H:Hp) (r:Addr) (ps:List Prt):Prop:=∃ l xs,Ins H r CC (fV l) /\ H l=some (.lst xs) /\ Prs K CK CN CR CA CT CV L H xs ps
theorem ChAt.mono {ps:List Prt} (e:SameB H H') (h:ChAt K CK CN CR CA CT CV CC L H r ps):ChAt K CK CN CR CA CT CV CC L H' r ps:=by
 obtain ⟨l,xs,a,b,c⟩:=h
 exact ⟨l,xs,e.ins a,e _ _ (fun _ z=>by cases z) b,c.mono e⟩
theorem ChAt.meth {ps:List Prt} {m:Str} {R:Prop} (h:ChAt K CK CN CR CA CT CV CC L H r ps) (hm:m=Str.ofString "before"∨m=Str.ofString "widest") (q:R):MtO CC r m H R:=by
 obtain ⟨l,xs,a,b,c⟩:=h
 rcases hm with rfl | rfl
 .exact a.meth (by walk_at "lk") q
 .exact a.meth (by walk_at "lk") q
noncomputable def ZB9 (C:Addr):Sp:=fun vs H Q _=>∃ (p dx c:Addr) (xs:List V),vs=[.ref p,.ref c] /\ H p=some (.ins C dx []) /\ H c=some (.lst xs) /\ ∀ l H',H l=none->l≠p->(∀ b o,b≠p->H b=some o->H' b=some o)->H' l=some (.lst xs)->Ins H' p C (fV l)->Q .non H'
noncomputable def ZBv (K:W.Frag) (CK CN CR CA CT CV:Addr):Sp:=fun vs H Q _=>∃ (r x y:Addr) (L:Nat) (ps:List Pn) (xi yi:List Int),vs=[.ref r,.ref x,.ref y] /\ VtAt K CK CN CR CA CT CV L H r ps /\ ps.length <= 100 /\ (∀ p∈ps,p.Ok) /\ SqT K H x (xi.map V.int) /\ SqT K H y (yi.map V.int) /\ Tg L xi /\ Tg L yi /\ ∀ H',Same H H'->Q (.bl (vB ps xi yi)) H'
noncomputable def ZDl (K:W.Frag) (CK CN CR CA CT:Addr):Sp:=fun vs H Q _=>∃ (l:Addr) (L:Nat) (xs:List V) (ps:List Pn),vs=[.ref l] /\ H l=some (.lst xs) /\ Pns K CK CN CR CA CT L H xs ps /\ (∀ p∈ps,p.Ok) /\ ps.length <= 100 /\ ∀ H',Same H H'->Q (.int (maxD (-1) (ps.map wB))) H'
noncomputable def ZDB (K:W.Frag) (CK CN CR CA CT CV:Addr):Sp:=fun vs H Q _=>∃ (r:Addr) (L:Nat) (ps:List Pn),vs=[.ref r] /\ VtAt K CK CN CR CA CT CV L H r ps /\ (∀ p∈ps,p.Ok) /\ ps.length <= 100 /\ ∀ H',Same H H'->Q (.int (maxD (-1) (ps.map wB))) H'
noncomputable def ZDk (K:W.Frag) (CK CN CR CA CT CV:Addr):Sp:=fun vs H Q _=>∃ (l:Addr) (L:Nat) (xs:List V) (ps:List Prt),vs=[.ref l] /\ H l=some (.lst xs) /\ Prs K CK CN CR CA CT CV L H xs ps /\ (∀ q∈ps,PrtOk q) /\ ps.length <= 100 /\ ∀ H',Same H H'->Q (.int (wR ps)) H'
noncomputable def ZDo (K:W.Frag) (CK CN CR CA CT CV CC:Addr):Sp:=fun vs H Q _=>∃ (r:Addr) (L:Nat) (ps:List Prt),vs=[.ref r] /\ ChAt K CK CN CR CA CT CV CC L H r ps /\ (∀ q∈ps,PrtOk q) /\ ps.length <= 100 /\ ∀ H',Same H H'->Q (.int (wR ps)) H'
noncomputable def ZCf (K:W.Frag) (CK CN CR CA CT CV CC:Addr):Sp:=fun vs H Q _=>∃ (r x y:Addr) (L:Nat) (ps:List Prt) (xi yi:List Int),vs=[.ref r,.ref x,.ref y] /\ ChAt K CK CN CR CA CT CV CC L H r ps /\ (∀ q∈ps,PrtOk q) /\ ps.length <= 100 /\ SqT K H x (xi.map V.int) /\ SqT K H y (yi.map V.int) /\ Tg L xi /\ Tg L yi /\ ∀ H',Same H H'->Q (.bl (befB ps xi yi)) H'
theorem pr_before {q:Prt} (h:PrAt K CK CN CR CA CT CV L H r q) (ok:PrtOk q) (hx:SqT K H x (xi.map V.int)) (hy:SqT K H y (yi.map V.int)) (tx:Tg L xi) (ty:Tg L yi) (k:∀ H',Same H H'->Q (.bl (ZBL q xi yi)) H') :
  MtO CK r (Str.ofString "before") H (ZBR K CK [.ref r,.ref x,.ref y] H Q E)∨MtO CN r (Str.ofString "before") H (ZBG K CN [.ref r,.ref x,.ref y] H Q E)∨MtO CR r (Str.ofString "before") H (ZBF K CR [.ref r,.ref x,.ref y] H Q E)∨MtO CA r (Str.ofString "before") H (ZCr K CA [.ref r,.ref x,.ref y] H Q E)∨MtO CT r (Str.ofString "before") H (ZBQ K CT [.ref r,.ref x,.ref y] H Q E)∨MtO CV r (Str.ofString "before") H (ZBv K CK CN CR CA CT CV [.ref r,.ref x,.ref y] H Q E):=by
 rcases h with ⟨h0,p,e,b⟩ | ⟨h0,b⟩
 .have:=k H (.refl _)
  unfold ZBL at this
  rw [h0,if_neg (by decide),e] at this
  rcases ZCj (E:=E) (Q:=Q) b (ok.ok p (by rw [e];exact yAK)) hx hy tx ty (by simpa using this) with z | z | z | z | z
  .exact .inl z
  .exact .inr (.inl z)
  .exact .inr (.inr (.inl z))
  .exact .inr (.inr (.inr (.inl z)))
  .exact .inr (.inr (.inr (.inr (.inl z))))
 .refine .inr (.inr (.inr (.inr (.inr (VtAt.meth b (.inl rfl) ⟨r,x,y,L,q.2,xi,yi,rfl,b,yAD ok.le (by decide),ok.ok,hx,hy,tx,ty,fun H' s=>?_⟩)))))
  have:=k H' s
  unfold ZBL at this
  rw [h0,if_pos rfl] at this
  exact this
theorem pr_wid {q:Prt} (h:PrAt K CK CN CR CA CT CV L H r q) (ok:PrtOk q) (k:∀ H',Same H H'->Q (.int (wq q)) H') :
  MtO CK r (Str.ofString "widest") H (ZB0 K CK [.ref r] H Q E)∨MtO CN r (Str.ofString "widest") H (ZBi CN [.ref r] H Q E)∨MtO CR r (Str.ofString "widest") H (ZBh CR [.ref r] H Q E)∨MtO CA r (Str.ofString "widest") H (ZBg [.ref r] H Q E)∨MtO CT r (Str.ofString "widest") H (ZBz CT [.ref r] H Q E)∨MtO CV r (Str.ofString "widest") H (ZDB K CK CN CR CA CT CV [.ref r] H Q E):=by
 rcases h with ⟨h0,p,e,b⟩ | ⟨h0,b⟩
 .rcases pn_wid (E:=E) (Q:=Q) b (ok.ok p (by rw [e];exact yAK)) (fun H' s=>by have:=k H' s;unfold wq at this;rw [h0,if_neg (by decide),e] at this;exact this) with z | z | z | z | z
  .exact .inl z
  .exact .inr (.inl z)
  .exact .inr (.inr (.inl z))
  .exact .inr (.inr (.inr (.inl z)))
  .exact .inr (.inr (.inr (.inr (.inl z))))
 .exact .inr (.inr (.inr (.inr (.inr (VtAt.meth b (.inr rfl) ⟨r,L,q.2,rfl,b,ok.ok,yAD ok.le (by decide),fun H' s=>by have:=k H' s;unfold wq at this;rw [h0,if_pos rfl] at this;exact this⟩)))))
theorem befB_drop {ps:List Prt} {i:Nat} {p:Prt} (h:ps[i]?=some p) (x y:List Int):befB (ps.drop i) x y=if ZBL p x y=true then true else if ZBL p y x=true then false else befB (ps.drop (i+1)) x y:=by
 obtain ⟨hi,he⟩:=yAI.mp h
 rw [List.drop_eq_getElem_cons hi,he]
 rfl
theorem ZBU {G:Hp} {x dx C:Addr} (hx:G x=none) (hdx:G dx=none):Same G (upd (upd G dx (.own x)) x (.ins C dx [])):=fun b o e=>by
 rw [ZAJ (ZAX e hx),ZAJ (ZAX e hdx)];exact e
theorem ZD2 {C:Addr} {G:Hp} {p2 x dx:Addr} {ys:List V} {R:Hp->Prop} (h:G p2=some (.lst ys)) (hx:G x=none) (hdx:G dx=none) (q:∀ l H',Same G H'->G l=none->l≠p2->H' l=some (.lst ys)->Ins H' x C (fV l)->R H'):ZB9 C [.ref x,.ref p2] (upd (upd G dx (.own x)) x (.ins C dx [])) (fun v H2=>v=.non /\ R H2) E :=
 ⟨x,dx,p2,ys,rfl,ZAC,ZBU hx hdx _ _ h,fun l H' hl hlp k hl' hI=>⟨rfl,q l H' (fun b o e=>k b o (ZAX e hx) (ZBU hx hdx _ _ e)) ((ZBU hx hdx).free hl) (fun z=>by rw [z,ZBU hx hdx _ _ h] at hl;cases hl) hl' hI⟩⟩
end pn
noncomputable def nmS (k:Nat):Str:=if k=1 then Str.ofString "near" else if k=2 then Str.ofString "ring" else Str.ofString "asked"
noncomputable def PlnAt (K:W.Frag) (L:Nat) (H:Hp) (t:Addr) (p:Pn):Prop :=
 (p.kd=0 /\ ∃ l xs,H t=some (.tup [.str (Str.ofString "keys"),.ref l]) /\ H l=some (.lst xs) /\ DpAll K H (p.cols.map colD) xs)∨((p.kd=1∨p.kd=2∨p.kd=3) /\ H t=some (.tup [.str (nmS p.kd),.int p.key,.int p.num]))∨(p.kd=4 /\ ∃ l,H t=some (.tup [.str (Str.ofString "table"),.int p.key,.ref l]) /\ MAt H l L p.m)
theorem cols_upd {K:W.Frag} {X:Hp} {z:Addr} {us u:List V} (hz:X z=some (.lst us)):∀ {cols:List (Int×Bool)} {xs:List V},DpAll K X (cols.map colD) xs->DpAll K (upd X z (.lst u)) (cols.map colD) xs
 | [],xs,h=>by unfold DpAll at h;subst h;exact .nil
 | c::r,xs,h=>by
  rw [yAR] at h ⊢
  unfold DpAll at h
  obtain ⟨v,ys,rfl,hv,ht⟩:=h
  refine .cons ?_ (cols_upd hz ht)
  obtain ⟨a,zs,rfl,h1,h2⟩:=Dp.asT hv
  refine ZDv (xs:=zs) ?_ ?_
  .rcases h1 with (h | ⟨o,h⟩) | h
   .exact .inl (.inl (by rw [ZAJ (fun e=>by rw [e,hz] at h;cases h)];exact h))
   .exact .inl (.inr ⟨o,by rw [ZAJ (fun e=>by rw [e,hz] at h;cases h)];exact h⟩)
   .exact .inr h
  .simp only [DpAll,Dp] at h2 ⊢
   exact h2
section pl
variable {K:W.Frag} {L:Nat} {H H':Hp} {t:Addr} {p:Pn} {xs:List V} {ps:List Pn}
theorem PlnAt.mono (e:SameB H H') (h:PlnAt K L H t p):PlnAt K L H' t p:=by
 rcases h with ⟨h0,l,xs,h1,h2,h3⟩ | ⟨h0,h1⟩ | ⟨h0,l,h1,h2⟩
 .exact .inl ⟨h0,l,xs,e _ _ (fun _ z=>by cases z) h1,e _ _ (fun _ z=>by cases z) h2,ZCn e h3⟩
 .exact .inr (.inl ⟨h0,e _ _ (fun _ z=>by cases z) h1⟩)
 .exact .inr (.inr ⟨h0,l,e _ _ (fun _ z=>by cases z) h1,h2.mono e⟩)
structure Pls (K:W.Frag) (L:Nat) (H:Hp) (xs:List V) (ps:List Pn):Prop where
 len:xs.length=ps.length
 get:∀ (i:Nat) p,ps[i]?=some p->∃ r,xs[i]?=some (V.ref r) /\ PlnAt K L H r p
theorem Pls.mono (e:SameB H H') (h:Pls K L H xs ps):Pls K L H' xs ps:=⟨h.len,fun i p hp=>by
 obtain ⟨r,a,b⟩:=h.get i p hp
 exact ⟨r,a,b.mono e⟩⟩
theorem Pls.at {i:Nat} {u:V} (h:Pls K L H xs ps) (hx:xs[i]?=some u):∃ p r,ps[i]?=some p /\ u=.ref r /\ PlnAt K L H r p:=by
 have hi:i < ps.length:=by rw [<- h.len];exact (yAI.mp hx).1
 obtain ⟨r,a,b⟩:=h.get i ps[i] (yAC hi)
 rw [hx] at a
 cases a
 exact ⟨_,r,yAC hi,rfl,b⟩
theorem Pls.snoc (h:Pls K L H xs ps) (hr:PlnAt K L H t p):Pls K L H (xs++[.ref t]) (ps++[p]):=by
 refine ⟨by rw [yAF,yAF,h.len];rfl,fun i ms hi=>?_⟩
 by_cases z:i < ps.length
 .rw [yAO z] at hi
  obtain ⟨t',a,b⟩:=h.get i ms hi
  exact ⟨t',by rw [yAO (by rw [h.len];exact z)];exact a,b⟩
 .have e:=(yAI.mp hi).1
  rw [yAF] at e
  have e1:i=ps.length:=by have:[p].length=1:=rfl;omega
  subst e1
  rw [yAT (yAA _),yAV] at hi
  cases hi
  exact ⟨t,by rw [<- h.len,yAT (yAA _),yAV];rfl,hr⟩
theorem Pls.drop (h:Pls K L H xs ps) (k:Nat):Pls K L H (xs.drop k) (ps.drop k):=⟨by rw [yBB,yBB,h.len],fun i p hp=>by
 rw [yBL] at hp
 obtain ⟨r,a,b⟩:=h.get _ p hp
 exact ⟨r,by rw [yBL];exact a,b⟩⟩
end pl
noncomputable def chB:List (Bool×Bool)->Bool
 | []=>false
 | c::r=>if c.1=true then true else if c.2=true then false else chB r
noncomputable def tel (ps:List Pn) (x y:List Int):List (Bool×Bool):=ps.map fun p=>(gB p x y,gB p y x)
noncomputable def bfL (w:Nat) (ps:List Pn) (x y:List Int):Bool :=
 if w=0 then vB ps x y else if w=1 then chB (tel ps x y) else
  let c:=((tel ps x y).headD (false,false));let v:=(vB (ps.drop 1) x y,vB (ps.drop 1) y x)
  if w=2 then chB [c,v] else chB [v,c]
noncomputable def ZDx:Sp:=fun vs H Q _=>∃ (c:Int) (n:Nat) (b:Int),vs=[.int c,.int n,.int b] /\ n <= 30 /\ 0 < b /\ b < 1000 /\ ∀ l H' (zs:List Int),Same H H'->H l=none->H' l=some (.lst (zs.map V.int))->zs.length=n->(∀ z∈zs,0 <= z /\ z < b)->Q (.ref l) H'
noncomputable def ZC1 (K:W.Frag):Sp:=fun vs H Q _=>∃ (c:Int) (L:Nat),vs=[.int c,.int L] /\ 1 <= L /\ L <= 5 /\ ∀ t H' p,Same H H'->PlnAt K L H' t p->(∀ z us u,H z=some (.lst us)->PlnAt K L (upd H' z (.lst u)) t p)->p.Ok->Q (.ref t) H'
noncomputable def ZC0 (K:W.Frag) (CK CN CR CA CT Pt:Addr):Sp:=fun vs H Q _=>∃ (t:Addr) (L:Nat) (p:Pn),vs=[.ref t] /\ PlnAt K L H t p /\ p.Ok /\ 1 <= L /\ L <= 5 /\ TabT H Pt /\ ∀ r H',SameB H H'->TabT H' Pt->PnAt K CK CN CR CA CT L H' r p->Q (.ref r) H'
noncomputable def ZCc (K:W.Frag):Sp:=fun vs H Q _=>∃ (t x y:Addr) (L:Nat) (p:Pn) (xi yi:List Int),vs=[.ref t,.ref x,.ref y] /\ PlnAt K L H t p /\ p.Ok /\ SqT K H x (xi.map V.int) /\ SqT K H y (yi.map V.int) /\ Tg L xi /\ Tg L yi /\ Q (.bl (gB p xi yi)) H
noncomputable def ZCa (K:W.Frag):Sp:=fun vs H Q _=>∃ (l x y:Addr) (L:Nat) (xs:List V) (ps:List Pn) (xi yi:List Int),vs=[.ref l,.ref x,.ref y] /\ H l=some (.lst xs) /\ Pls K L H xs ps /\ (∀ p∈ps,p.Ok) /\ ps.length <= 5 /\ SqT K H x (xi.map V.int) /\ SqT K H y (yi.map V.int) /\ Tg L xi /\ Tg L yi /\ ∀ H',Same H H'->Q (.bl (vB ps xi yi)) H'
structure Bls (H:Hp) (xs:List V) (bs:List (Bool×Bool)):Prop where
 len:xs.length=bs.length
 get:∀ (i:Nat) c,bs[i]?=some c->∃ r,xs[i]?=some (V.ref r) /\ H r=some (.tup [.bl c.1,.bl c.2])
theorem Bls.mono {H H':Hp} {xs:List V} {bs:List (Bool×Bool)} (e:Same H H') (h:Bls H xs bs):Bls H' xs bs:=⟨h.len,fun i c hc=>by
 obtain ⟨r,a,b⟩:=h.get i c hc
 exact ⟨r,a,e _ _ b⟩⟩
theorem Bls.snoc {H:Hp} {xs:List V} {bs:List (Bool×Bool)} {t:Addr} {c:Bool×Bool} (h:Bls H xs bs) (ht:H t=some (.tup [.bl c.1,.bl c.2])):Bls H (xs++[.ref t]) (bs++[c]):=by
 refine ⟨by rw [yAF,yAF,h.len];rfl,fun i ms hi=>?_⟩
 by_cases z:i < bs.length
 .rw [yAO z] at hi
  obtain ⟨t',a,b⟩:=h.get i ms hi
  exact ⟨t',by rw [yAO (by rw [h.len];exact z)];exact a,b⟩
 .have e:=(yAI.mp hi).1
  rw [yAF] at e
  have e1:i=bs.length:=by have:[c].length=1:=rfl;omega
  subst e1
  rw [yAT (yAA _),yAV] at hi
  cases hi
  exact ⟨t,by rw [<- h.len,yAT (yAA _),yAV];rfl,ht⟩
theorem cut1 (xs:List V):cutV xs (some 1) none=xs.drop 1:=by
 unfold cutV
 have e1:HT.sIx xs.length 0 (some 1)=min 1 xs.length:=rfl
 have e2:HT.sIx xs.length xs.length none=xs.length:=rfl
 simp only [e1,e2]
 by_cases h:1 <= xs.length
 .rw [Nat.min_eq_left h,yAW (by rw [yBB];exact yAA _)]
 .have:xs=[]:=List.eq_nil_of_length_eq_zero (by omega)
  subst this;rfl
noncomputable def ZCe:Sp:=fun vs H Q _=>∃ (l:Addr) (xs:List V) (bs:List (Bool×Bool)),vs=[.ref l] /\ H l=some (.lst xs) /\ Bls H xs bs /\ Q (.bl (chB bs)) H
noncomputable def ZCQ (K:W.Frag):Sp:=fun vs H Q _=>∃ (l x y:Addr) (w L:Nat) (xs:List V) (ps:List Pn) (xi yi:List Int),vs=[.ref l,.int w,.ref x,.ref y] /\ H l=some (.lst xs) /\ Pls K L H xs ps /\ (∀ p∈ps,p.Ok) /\ 1 <= ps.length /\ ps.length <= 5 /\ w < 4 /\ SqT K H x (xi.map V.int) /\ SqT K H y (yi.map V.int) /\ Tg L xi /\ Tg L yi /\ ∀ H',Same H H'->Q (.bl (bfL w ps xi yi)) H'
noncomputable def ZDL (K:W.Frag):Sp:=fun vs H Q _=>∃ (t:Addr) (L:Nat) (p:Pn),vs=[.ref t] /\ PlnAt K L H t p /\ p.Ok /\ ∀ H',Same H H'->Q (.int (wB p)) H'
noncomputable def prW (w:Nat) (ps:List Pn):List Prt:=if w=1 then ps.map fun p=>(false,[p]) else if w=2 then [(false,ps.take 1),(true,ps.drop 1)] else [(true,ps.drop 1),(false,ps.take 1)]
noncomputable def RuAt (K:W.Frag) (CK CN CR CA CT CV CC:Addr) (L w:Nat) (H:Hp) (r:Addr) (ps:List Pn):Prop:=(w=0 /\ VtAt K CK CN CR CA CT CV L H r ps)∨(w≠0 /\ ChAt K CK CN CR CA CT CV CC L H r (prW w ps))
noncomputable def ZCz (K:W.Frag) (CK CN CR CA CT CV CC:Addr):Sp:=fun vs H Q _=>∃ (r l x y:Addr) (w L:Nat) (xs:List V) (ps:List Pn) (xi yi:List Int),vs=[.ref r,.ref l,.int w,.ref x,.ref y] /\ RuAt K CK CN CR CA CT CV CC L w H r ps /\ H l=some (.lst xs) /\ Pls K L H xs ps /\ (∀ p∈ps,p.Ok) /\ 1 <= ps.length /\ ps.length <= 5 /\ w < 4 /\ SqT K H x (xi.map V.int) /\ SqT K H y (yi.map V.int) /\ Tg L xi /\ Tg L yi /\ ∀ H',Same H H'->Q (.bl true) H'
theorem nkN:Str.ofString "near"≠Str.ofString "keys":=by decide +kernel
theorem nkR:Str.ofString "ring"≠Str.ofString "keys":=by decide +kernel
theorem nkA:Str.ofString "asked"≠Str.ofString "keys":=by decide +kernel
theorem nkT:Str.ofString "table"≠Str.ofString "keys":=by decide +kernel
theorem nnR:Str.ofString "ring"≠Str.ofString "near":=by decide +kernel
theorem nnA:Str.ofString "asked"≠Str.ofString "near":=by decide +kernel
theorem nnT:Str.ofString "table"≠Str.ofString "near":=by decide +kernel
theorem nrA:Str.ofString "asked"≠Str.ofString "ring":=by decide +kernel
theorem nrT:Str.ofString "table"≠Str.ofString "ring":=by decide +kernel
theorem naT:Str.ofString "table"≠Str.ofString "asked":=by decide +kernel
theorem naN:Str.ofString "near"≠Str.ofString "asked":=by decide +kernel
theorem naR:Str.ofString "ring"≠Str.ofString "asked":=by decide +kernel
theorem way_up (u:Bool):decide (wayS u=Str.ofString "up")=u:=by
 cases u
 .exact decide_eq_false (by decide +kernel)
 .exact decide_eq_true rfl
theorem ZBu {H H':Hp} {Pt:Addr} (e:Same H H') (h:TabT H Pt):TabT H' Pt:=by
 rcases h with h | ⟨c',h,hc⟩
 .exact .inl (e _ _ h)
 .exact .inr ⟨c',e _ _ h,hc.mono e.fz⟩
theorem MAt.dp {K:W.Frag} {H:Hp} {l:Addr} {n:Nat} {m:Nat->Nat->Bool} (h:MAt H l n m):Dp K H (.list (((List.range n).map fun i=>(List.range n).map (m i)).map fun xs=>.list (xs.map PyData.bool))) (.ref l):=by
 obtain ⟨rs,hl,hrl,hm⟩:=h
 refine dp_lst (SqL.of hl) ?_
 have key:∀ (k:Nat) (us:List V),us.length=k->(∀ i,i < k->∃ r,us[i]?=some (V.ref r) /\ H r=some (.lst ((List.range n).map fun q=>V.bl (m i q))))->DpAll K H (((List.range k).map fun i=>(List.range n).map (m i)).map fun xs=>.list (xs.map PyData.bool)) us:=by
  intro k
  induction k with
  | zero=>intro us h0 _;rw [List.eq_nil_of_length_eq_zero h0];exact .nil
  | succ k ih=>
   intro us hk hu
   obtain ⟨r,hr,hr2⟩:=hu k (yBG k)
   have e:us=us.take k++[V.ref r]:=by
    rw [<- List.take_append_drop k us]
    congr 1
    .rw [List.take_append_drop]
    .rw [List.drop_eq_getElem_cons (by omega),List.drop_eq_nil_of_le (by omega)]
     rw [yAC (by omega)] at hr
     rw [Option.some.inj hr]
   rw [e,List.range_succ,yAJ,yAJ]
   refine (ih (us.take k) (by rw [yAS];omega) fun i hi=>?_).snoc ?_
   .obtain ⟨r',a,b⟩:=hu i (by omega)
    exact ⟨r',by rw [List.getElem?_take,if_pos hi];exact a,b⟩
   .refine dp_lst (SqL.of hr2) ?_
    have bl:∀ zs:List Bool,DpAll K H (zs.map PyData.bool) (zs.map V.bl):=fun zs=>by
     induction zs with
     | nil=>exact .nil
     | cons z r ih=>exact .cons (by unfold Dp;rfl) ih
    have:=bl ((List.range n).map (m k))
    rw [List.map_map] at this
    rw [List.map_map]
    simpa [Function.comp_def] using this
 exact key n rs hrl hm
theorem bef_ch (x y:List Int):∀ qs:List Prt,befB qs x y=chB (qs.map fun q=>(ZBL q x y,ZBL q y x))
 | []=>rfl
 | q::r=>by
  show (if ZBL q x y=true then true else if ZBL q y x=true then false else befB r x y)=if ZBL q x y=true then true else if ZBL q y x=true then false else chB _
  rw [bef_ch x y r]
theorem ZB3 (p:Pn) (x y:List Int):ZBL (false,[p]) x y=gB p x y:=by
 unfold ZBL;simp
theorem ZCH (ps:List Pn) (x y:List Int):ZBL (true,ps) x y=vB ps x y:=by
 unfold ZBL;simp
theorem bef_eq {w:Nat} {ps:List Pn} (h0:w≠0) (h4:w < 4) (hp:1 <= ps.length) (x y:List Int):befB (prW w ps) x y=bfL w ps x y:=by
 rw [bef_ch]
 unfold bfL prW
 rw [if_neg h0]
 by_cases h1:w=1
 .rw [if_pos h1,if_pos h1]
  unfold tel
  rw [List.map_map]
  congr 1
  refine List.map_congr_left fun p _=>?_
  show (ZBL (false,[p]) x y,ZBL (false,[p]) y x)=_
  rw [ZB3,ZB3]
 .rw [if_neg h1,if_neg h1]
  cases ps with
  | nil=>cases hp
  | cons p r=>
   by_cases h2:w=2
   .rw [if_pos h2]
    dsimp only
    rw [if_pos h2]
    show chB [(ZBL (false,[p]) x y,ZBL (false,[p]) y x),(ZBL (true,r) x y,ZBL (true,r) y x)]=_
    rw [ZB3,ZB3,ZCH,ZCH];rfl
   .rw [if_neg h2]
    dsimp only
    rw [if_neg h2]
    show chB [(ZBL (true,r) x y,ZBL (true,r) y x),(ZBL (false,[p]) x y,ZBL (false,[p]) y x)]=_
    rw [ZB3,ZB3,ZCH,ZCH];rfl
theorem prW_ok {w:Nat} {ps:List Pn} (ok:∀ p∈ps,p.Ok) (hp:1 <= ps.length) (h5:ps.length <= 5):(∀ q∈prW w ps,PrtOk q) /\ (prW w ps).length <= 100:=by
 have one:PrtOk (false,ps.take 1):=⟨fun p h=>ok p (List.mem_of_mem_take h),by show (ps.take 1).length <= 5;rw [yAS];omega,fun _=>by
  cases ps with
  | nil=>cases hp
  | cons p r=>exact ⟨p,rfl⟩⟩
 have vt:PrtOk (true,ps.drop 1):=⟨fun p h=>ok p (List.mem_of_mem_drop h),by show (ps.drop 1).length <= 5;rw [yBB];omega,fun z=>by cases z⟩
 unfold prW
 by_cases h1:w=1
 .rw [if_pos h1]
  refine ⟨fun q hq=>?_,by rw [yAB];omega⟩
  obtain ⟨p,hp',rfl⟩:=yBC.mp hq
  exact ⟨fun p' h=>by rw [yBM.mp h];exact ok p hp',Nat.le_add_left 1 4,fun _=>⟨p,rfl⟩⟩
 .rw [if_neg h1]
  by_cases h2:w=2
  .rw [if_pos h2]
   refine ⟨fun q hq=>?_,Nat.le_add_left 2 98⟩
   rcases yAL.mp hq with z | z
   .rw [z];exact one
   .rw [yBM.mp z];exact vt
  .rw [if_neg h2]
   refine ⟨fun q hq=>?_,Nat.le_add_left 2 98⟩
   rcases yAL.mp hq with z | z
   .rw [z];exact vt
   .rw [yBM.mp z];exact one
theorem once1 {γ:Type} {M:γ->Prop} (P:γ->Prop) {G:Prop} (h:(∀ z,P z->M z)->G) (t:∀ z,P z->M z):G:=h t
theorem once2 {α β:Type} {M:α->β->Prop} (P:α->β->Prop) {G:Prop} (h:(∀ x y,P x y->M x y)->G) (t:∀ x y,P x y->M x y):G:=h t
section lw
variable {K:W.Frag} {CK CN CR CA CT CV CC:Addr} {L w:Nat} {H H':Hp} {xs:List V} {ps:List Pn}
theorem pn_eqc {r:Addr} {p:Pn} (ek:EqC K CK) (en:EqC K CN) (er:EqC K CR) (ea:EqC K CA) (et:EqC K CT) (h:PnAt K CK CN CR CA CT L H r p):∃ C dx fs,H r=some (.ins C dx fs) /\ EqC K C:=by
 rcases h with ⟨h0,dx,c,xs,h1,h2,h3⟩ | ⟨h0,h1⟩ | ⟨h0,h1⟩ | ⟨h0,g,h1,h2,h3⟩ | ⟨h0,l,h1,h2⟩
 .exact ⟨_,_,_,h1,ek⟩
 .obtain ⟨dx,fs,a,_⟩:=h1.ex
  exact ⟨_,_,_,a,en⟩
 .obtain ⟨dx,fs,a,_⟩:=h1.ex
  exact ⟨_,_,_,a,er⟩
 .obtain ⟨dx,fs,a,_⟩:=h1.ex
  exact ⟨_,_,_,a,ea⟩
 .obtain ⟨dx,fs,a,_⟩:=h1.ex
  exact ⟨_,_,_,a,et⟩
theorem Pns.refs (h:Pns K CK CN CR CA CT L H xs ps):∀ v∈xs,∃ a,v=.ref a:=fun v hv=>by
 obtain ⟨i,hi,e⟩:=List.getElem_of_mem hv
 obtain ⟨p,r,_,e2,_⟩:=h.at (by rw [yAC hi,e])
 exact ⟨r,e2⟩
theorem Prs.refs {qs:List Prt} (h:Prs K CK CN CR CA CT CV L H xs qs):∀ v∈xs,∃ a,v=.ref a:=fun v hv=>by
 obtain ⟨i,hi,e⟩:=List.getElem_of_mem hv
 obtain ⟨p,r,_,e2,_⟩:=h.at (by rw [yAC hi,e])
 exact ⟨r,e2⟩
theorem Pns.prs (h:Pns K CK CN CR CA CT L H xs ps):Prs K CK CN CR CA CT CV L H xs (ps.map fun p=>(false,[p])):=⟨by rw [h.len,yAB],fun i q hq=>by
 rw [yAU] at hq
 obtain ⟨p,hp,rfl⟩:=Option.map_eq_some_iff.mp hq
 obtain ⟨r,a,b⟩:=h.get i p hp
 exact ⟨r,a,.inl ⟨rfl,p,rfl,b⟩⟩⟩
theorem Prs.two {a b:Addr} {q1 q2:Prt} (h1:PrAt K CK CN CR CA CT CV L H a q1) (h2:PrAt K CK CN CR CA CT CV L H b q2):Prs K CK CN CR CA CT CV L H [.ref a,.ref b] [q1,q2]:=⟨rfl,fun i q hq=>by
 match i,hq with
 | 0,hq=>cases hq;exact ⟨a,rfl,h1⟩
 | 1,hq=>cases hq;exact ⟨b,rfl,h2⟩
 | i+2,hq=>simp at hq⟩
noncomputable def RS (K:W.Frag) (CK CN CR CA CT CV:Addr) (L w:Nat) (H:Hp) (zs:List V) (ps:List Pn):Prop:=(w=0 /\ Pns K CK CN CR CA CT L H zs ps)∨(w≠0 /\ Prs K CK CN CR CA CT CV L H zs (prW w ps))
theorem RS.mono (e:SameB H H') (h:RS K CK CN CR CA CT CV L w H xs ps):RS K CK CN CR CA CT CV L w H' xs ps:=by
 rcases h with ⟨h0,h⟩ | ⟨h0,h⟩
 .exact .inl ⟨h0,h.mono e⟩
 .exact .inr ⟨h0,h.mono e⟩
theorem RS.refs (h:RS K CK CN CR CA CT CV L w H xs ps):∀ v∈xs,∃ a,v=.ref a:=by
 rcases h with ⟨h0,h⟩ | ⟨h0,h⟩
 .exact h.refs
 .exact h.refs
theorem RS.rev (h:RS K CK CN CR CA CT CV L 2 H xs ps) (hp:1 <= ps.length):RS K CK CN CR CA CT CV L 3 H xs.reverse ps:=by
 rcases h with ⟨h0,_⟩ | ⟨_,h⟩
 .cases h0
 have h':Prs K CK CN CR CA CT CV L H xs [(false,ps.take 1),(true,ps.drop 1)]:=h
 obtain ⟨a,ha,pa⟩:=h'.get 0 _ rfl
 obtain ⟨b,hb,pb⟩:=h'.get 1 _ rfl
 have hl:=h'.len
 have e:xs=[.ref a,.ref b]:=by
  match xs,hl,ha,hb with
  | [u,v],_,ha,hb=>cases ha;cases hb;rfl
 subst e
 exact .inr ⟨by decide,Prs.two pb pa⟩
structure Tgs (H:Hp) (L:Nat) (zs:List V) (ts:List (List Int)):Prop where
 len:zs.length=ts.length
 get:∀ (i:Nat) ns,ts[i]?=some ns->∃ t,zs[i]?=some (V.ref t) /\ H t=some (.tup (ns.map V.int))
 tg:∀ ns∈ts,Tg L ns
theorem Tgs.mono {zs:List V} {ts:List (List Int)} (e:Same H H') (h:Tgs H L zs ts):Tgs H' L zs ts:=⟨h.len,fun i ns hn=>by
 obtain ⟨t,a,b⟩:=h.get i ns hn
 exact ⟨t,a,e _ _ b⟩,h.tg⟩
theorem Tgs.at {zs:List V} {ts:List (List Int)} {i:Nat} (h:Tgs H L zs ts) (hi:i < zs.length):∃ t ns,zs[i]?=some (V.ref t) /\ H t=some (.tup (ns.map V.int)) /\ Tg L ns:=by
 obtain ⟨t,a,b⟩:=h.get i (ts[i]'(by rw [<- h.len];exact hi)) (yAC _)
 exact ⟨t,_,a,b,h.tg _ (List.getElem_mem _)⟩
theorem Tgs.snoc {zs:List V} {ts:List (List Int)} {t:Addr} {ns:List Int} (h:Tgs H L zs ts) (ht:H t=some (.tup (ns.map V.int))) (hn:Tg L ns):Tgs H L (zs++[.ref t]) (ts++[ns]):=by
 refine ⟨by rw [yAF,yAF,h.len];rfl,fun i ms hi=>?_,fun ms hm=>?_⟩
 .by_cases z:i < ts.length
  .rw [yAO z] at hi
   obtain ⟨t',a,b⟩:=h.get i ms hi
   exact ⟨t',by rw [yAO (by rw [h.len];exact z)];exact a,b⟩
  .have e:=(yAI.mp hi).1
   rw [yAF] at e
   have e1:i=ts.length:=by have:[ns].length=1:=rfl;omega
   subst e1
   rw [yAT (yAA _),yAV] at hi
   cases hi
   exact ⟨t,by rw [<- h.len,yAT (yAA _),yAV];rfl,ht⟩
 .rcases yBF.mp hm with z | z
  .exact h.tg ms z
  .rw [yBM.mp z];exact hn
theorem tg_of {zs:List Int} (hl:zs.length=4) (h5:L <= 5) (h:∀ z∈zs,0 <= z /\ z < (L:Int)):Tg L zs:=⟨hl,h5,fun k hk=>by
 have e:at0 zs (k:Int)=zs[k]'(by omega):=by
  unfold at0
  rw [Int.toNat_natCast,yAC (by omega)];rfl
 rw [e]
 exact h _ (List.getElem_mem _)⟩
theorem atI_back {xs:List V} {k:Nat} (h:k < xs.length):∃ j,j < xs.length /\ atI xs ((k:Int)-1)=xs[j]?:=by
 by_cases h0:k=0
 .refine ⟨xs.length-1,by omega,?_⟩
  unfold atI ixN
  rw [if_neg (by omega),if_pos (by omega)]
  show xs[_]?=_
  congr 1
  omega
 .exact ⟨k-1,by omega,by rw [yAC (show k-1 < xs.length by omega)];exact ZAI (by omega) (by rw [show ((k:Int)-1).toNat=k-1 by omega];exact yAC _)⟩
noncomputable def fm (m y:Int):Int:=if m < y then y else m
theorem fm_assoc (a b c:Int):fm (fm a b) c=fm a (fm b c):=by
 unfold fm
 by_cases h1:a < b <;> by_cases h2:b < c <;> by_cases h3:a < c <;> simp [h1,h2,h3] <;> omega
theorem fm_comm (a b:Int):fm a b=fm b a:=by
 unfold fm
 by_cases h1:a < b <;> by_cases h2:b < a <;> simp [h1,h2] <;> omega
theorem fold_fm:∀ (r:List Int) (a x:Int),r.foldl fm (fm a x)=fm a (r.foldl fm x)
 | [],_,_=>rfl
 | y::r,a,x=>by rw [List.foldl_cons,List.foldl_cons,fm_assoc,fold_fm r a (fm x y)]
theorem wB_ge (p:Pn) (ok:p.Ok):-1 <= wB p:=by
 unfold wB
 split
 .have key:∀ (r:List Int) (x:Int),x <= r.foldl fm x:=by
   intro r
   induction r with
   | nil=>intro x;exact Int.le_refl _
   | cons y r ih=>intro x;rw [List.foldl_cons];exact Int.le_trans (by unfold fm;split <;> omega) (ih _)
  cases hc:p.cols.map (·.1) with
  | nil=>exact Int.le_refl _
  | cons x r=>
   have:x∈p.cols.map (·.1):=by rw [hc];exact yAK
   obtain ⟨c,hc',rfl⟩:=yBC.mp this
   have h0:=(ok.cl c hc').1
   exact Int.le_trans (by omega) (key r c.1)
 .split
  .exact Int.le_refl _
  .omega
theorem wid_eq {p:Pn} {r:List Pn} (ok:∀ q∈p::r,q.Ok) (h0:w≠0):wR (prW w (p::r))=maxD (-1) ((p::r).map wB):=by
 have h1:=wB_ge p (ok p yAK)
 unfold wR prW
 by_cases e1:w=1
 .rw [if_pos e1,List.map_map]
  rfl
 .rw [if_neg e1]
  have e2:maxD (-1) ((p::r).map wB)=fm (wB p) (maxD (-1) (r.map wB)):=by
   show (r.map wB).foldl fm (wB p)=_
   cases hr:r.map wB with
   | nil=>show wB p=fm (wB p) (-1);unfold fm;rw [if_neg (by omega)]
   | cons x t=>rw [List.foldl_cons,fold_fm];rfl
  rw [e2]
  by_cases e3:w=2
  .rw [if_pos e3]
   rfl
  .rw [if_neg e3,fm_comm]
   rfl
end lw
section
variable {P:Program} {w:World} {K:W.Frag} {mg:Str->Option Value} {base:Heap} {C_Rule C_KeyRule C_NearRule C_RingRule C_TableRule C_VoteRule C_ChainRule C_AskedRule:Addr} {cc_teller Pt_teller:Addr}
theorem ok_teller {f:Addr} {fd:FuncData} (F:Fun K "_law_teller" "_law_teller" ZBq f fd) (hcd:fd.code=.ref cc_teller) (C:PySem.W.CodeHd base cc_teller Pt_teller) (B:ZDI mg base):FnOk P w K mg base CX0 1 f fd ["_law_at","_law_size"] (ZDT Pt_teller (ZDW ZAP) "_law_ask" "_law_teller.<locals>._law_ask" (ZAM ZAP) (ZAL ZAP) (ZAB ZAP) ["_law_size","_law_at"] [1,0] 2) :=
 teller_ok F sc_teller hcd C B rfl (fun _ _=>rfl) rfl rfl (fun _ _=>rfl) rfl (by decide) (by decide) (by decide +kernel) (by decide +kernel) (by decide +kernel) (hix_of rfl) rfl
theorem clo_teller (T:Bt K mg C_Rule C_KeyRule C_NearRule C_RingRule C_TableRule C_VoteRule C_ChainRule C_AskedRule):CloOk P w K mg base 1 (rT13 K):=by
 refine clo_of (k:=0) (iname:="_law_ask") (iq:="_law_teller.<locals>._law_ask") (ip:=ZAM ZAP) (ib:=ZAL ZAP) (isc:=ZAB ZAP) csc_teller (fun f vs H Q h=>?_) (fun f vs H Q h=>?_) (fun cl doc pm ctv c' us hl=>match us,hl with | [_,_],_=>rfl) (fun g cs cl cd A outer s H vs Q hr C h=>?_)
 .obtain ⟨g,x,y,a,b,xi,yi,rfl,rfl,hclo,hx,hy,h0,h1,h2,hb,hs,q⟩:=h
  exact ⟨_,_,rfl,hclo⟩
 .obtain ⟨g,x,y,a,b,xi,yi,rfl,rfl,hclo,hx,hy,h0,h1,h2,hb,hs,q⟩:=h
  rfl
 obtain ⟨g,x,y,a,b,xi,yi,eg,rfl,hclo,hx,hy,h0,h1,h2,hb,hs,q⟩:=h
 cases eg
 obtain ⟨cl2,C2⟩:=hclo
 obtain rfl:=C.inj' C2
 refine ⟨_,(ZAE (ZAQ (ZBB ZBW (ZAm ZBP (ZAm ZCT (ZAT ZAO (pv 0) (pv 3) (fun _ _=>rfl)) (ZAm ZCk ZAF (ZAT ZAO (pv 1) (pv 3) (fun _ _=>rfl)))) (pv 2)) ZAF (ZAS _)))),?_⟩
 walk_at "rd"
 have cells:=C.cells
 have hx':SqT K (hid cl H) x (xi.map V.int):=SqT.hid cells hx
 have hy':SqT K (hid cl H) y (yi.map V.int):=SqT.hid cells hy
 refine ZAH hx' (ZA3 h0 (ZBN h0 h1)) (ZAH hy' (ZA3 h0 (ZBN h0 h2)) ?_)
 walk_at "rd"
 refine ⟨.inl ⟨by decide,by omega⟩,hb,fun _=>?_⟩
 rw [back_hid]
 exact q
theorem ok_check_at {f:Addr} {fd:FuncData} (F:Fun K "check_at" "check_at" ZBb f fd) (T:Bt K mg C_Rule C_KeyRule C_NearRule C_RingRule C_TableRule C_VoteRule C_ChainRule C_AskedRule)
 :FnOk P w K mg base CX0 1 f fd ["at"] (ZCP):=by
 refine F.ok sc_check_at (fun vs H Q E h=>?_) (fun cdv A outer s H vs Q E hr h=>?_)
 .obtain ⟨i,rfl,h0,h7,q⟩:=h
  rfl
 obtain ⟨i,rfl,h0,h7,q⟩:=h
 refine ⟨_,(ZAE (ZA7 (PW.pt (ZDz (ZAV ZC5 (pv 0) ZAF (ZAS _)) (ZDU (ZAV ZC6 (pv 0) (pe_gint rfl T.c_GREATEST_AT) (ZAS _)))))
  (ZAE (ZCI)) ZAU)),?_⟩
 walk_at "rd"
 rw [if_neg (by omega),if_neg (by omega)]
 exact q
theorem ok_check_column {f:Addr} {fd:FuncData} (F:Fun K "check_column" "check_column" ZA4 f fd) (T:Bt K mg C_Rule C_KeyRule C_NearRule C_RingRule C_TableRule C_VoteRule C_ChainRule C_AskedRule)
  (f_check_at:Fn P w K mg base CX0 "check_at" 1 ["at"] (ZCP))
 :FnOk P w K mg base CX0 2 f fd ["at","way"] (ZCO):=by
 refine F.ok sc_check_column (fun vs H Q E h=>?_) (fun cdv A outer s H vs Q E hr h=>?_)
 .obtain ⟨i,u,rfl,h0,h7,q⟩:=h
  rfl
 obtain ⟨i,u,rfl,h0,h7,q⟩:=h
 refine ⟨_,(ZAD (ZBX (ZBM f_check_at (hr.mono (by decide)) rfl ZAR (ZAA (pv 0) ZAG)))
  (ZAE (ZA7 (PW.pt (pw_and (ZAV ZDs (pv 1) (ZDN rfl T.c_UP) (ZAS _)) (pw_and1 (ZAV ZDs (pv 1) (ZDN rfl T.c_DOWN) (ZAS _)))))
  (ZAE (ZCI)) ZAU))),?_⟩
 walk_at "rd"
 refine ⟨i,rfl,h0,h7,?_⟩
 walk_at "rd"
 split
 .rename_i h1
  rw [if_neg (fun h2=>(wayS_ok u).elim h1 h2)]
  exact q
 .exact q
theorem ok_Rule_widest {f:Addr} {fd:FuncData} (F:Fun K "widest" "Rule.widest" ZA9 f fd) (T:Bt K mg C_Rule C_KeyRule C_NearRule C_RingRule C_TableRule C_VoteRule C_ChainRule C_AskedRule)
 :FnOk P w K mg base CX0 1 f fd ["self"] (ZBg):=by
 refine F.ok sc_Rule_widest (fun vs H Q E h=>?_) (fun cdv A outer s H vs Q E hr h=>?_)
 .obtain ⟨p,rfl,q⟩:=h
  rfl
 obtain ⟨p,rfl,q⟩:=h
 refine ⟨_,(ZAE (ZAQ (ZDb ZCq ZAF))),?_⟩
 walk_at "rd"
 exact q
theorem ok_KeyRule_init {f:Addr} {fd:FuncData} (F:Fun K "__init__" "KeyRule.__init__" ZA5 f fd) (T:Bt K mg C_Rule C_KeyRule C_NearRule C_RingRule C_TableRule C_VoteRule C_ChainRule C_AskedRule)
  (f_check_column:Fn P w K mg base CX0 "check_column" 2 ["at","way"] (ZCO))
 :FnOk P w K mg base CX0 3 f fd ["self","columns"] (ZCd K C_KeyRule):=by
 refine F.ok sc_KeyRule_init (fun vs H Q E h=>?_) (fun cdv A outer s H vs Q E hr h=>?_)
 .obtain ⟨p,dx,c,xs,cols,rfl,hp,hc,hd,hb,q⟩:=h
  rfl
 obtain ⟨p,dx,c,xs,cols,rfl,hp,hc,hd,hb,q⟩:=h
 refine ⟨_,(ZAD (ZB7 PassesOwn.never rfl (ZAl (pv 1)) (ZCt (n:=2) rfl (ZA6 (ZAW (i:=2) sc_KeyRule_init.nd rfl (by walk_at "o")) (ZA6 (ZAW (i:=3) sc_KeyRule_init.nd rfl (by walk_at "o")) ZCB)))
  (ZAE (ZBX (ZBM f_check_column (hr.mono (by decide)) rfl ZAR (ZAA (pv 2) (ZAA (pv 3) ZAG))))))
  (ZAE (ZB8 (pv 0) (ZBV ZBJ rfl T.b_list PyProof.Rows.boot_list (ZAA (pv 1) ZAG)) rfl))),?_⟩
 walk_at "rd"
 refine ZCE hc (fun i σ H'=>H'=H /\ ∃ v2 v3,σ=[some (.ref p),some (.ref c),v2,v3]) ⟨rfl,_,_,rfl⟩ (fun i σ H' _ h=>by rw [h.1];exact hc) ?_ ?_
 .rintro i x σ H' hx ⟨rfl,v2,v3,rfl⟩
  obtain ⟨c',t,ec,rfl,ht⟩:=ZDH hd hx
  have hb':=hb c' (yAH ec)
  refine ZCD ht rfl ?_
  walk_at "rd"
  exact ⟨c'.1,c'.2,rfl,hb'.1,hb'.2,rfl,_,_,rfl⟩
 .rintro σ H' ⟨rfl,v2,v3,rfl⟩
  walk_at "rd"
  refine ⟨c,xs,rfl,.inl hc,fun l hl=>?_⟩
  exact setF_of (ZCZ hl hp) T.cl_KeyRule T.n_KeyRule_columns (by decide) (q l hl)
theorem ok_KeyRule_before {f:Addr} {fd:FuncData} (F:Fun K "before" "KeyRule.before" ZAr f fd) (T:Bt K mg C_Rule C_KeyRule C_NearRule C_RingRule C_TableRule C_VoteRule C_ChainRule C_AskedRule)
 :FnOk P w K mg base CX0 1 f fd ["self","x","y"] (ZBR K C_KeyRule):=by
 refine F.ok sc_KeyRule_before (fun vs H Q E h=>?_) (fun cdv A outer s H vs Q E hr h=>?_)
 .obtain ⟨p,dx,c,x,y,xs,cols,xi,yi,rfl,hp,hc,hd,hx,hy,hb,q⟩:=h
  rfl
 obtain ⟨p,dx,c,x,y,xs,cols,xi,yi,rfl,hp,hc,hd,hx,hy,hb,q⟩:=h
 refine ⟨_,(ZAD (ZB7 PassesOwn.never rfl (ZAl (ZBC (pv 0) rfl)) (ZCt (n:=2) rfl (ZA6 (ZAW (i:=3) sc_KeyRule_before.nd rfl (by walk_at "o")) (ZA6 (ZAW (i:=4) sc_KeyRule_before.nd rfl (by walk_at "o")) ZCB)))
  (ZAE (ZA7 (ZAV ZDs (ZAT ZAO (pv 1) (pv 3) (fun _ _=>rfl)) (ZAT ZAO (pv 2) (pv 3) (fun _ _=>rfl)) (ZAS _))
  (ZAE (ZAQ (pe_ifExp (ZAV ZBW (pv 4) (ZDN rfl T.c_UP) (ZAS _)) (ZBB ZC5 (ZAT ZAO (pv 1) (pv 3) (fun _ _=>rfl)) (ZAT ZAO (pv 2) (pv 3) (fun _ _=>rfl)) (ZAS _)) (ZBB ZC6 (ZAT ZAO (pv 1) (pv 3) (fun _ _=>rfl)) (ZAT ZAO (pv 2) (pv 3) (fun _ _=>rfl)) (ZAS _))))) ZAU)))
  (ZAE (ZAQ ZCV))),?_⟩
 walk_at "rd"
 refine ZDR hp T.cl_KeyRule T.n_KeyRule_columns putF1 ?_
 refine ZCE hc (fun i σ H'=>H'=H /\ keyB cols xi yi=keyB (cols.drop i) xi yi /\ ∃ v3 v4,σ=[some (.ref p),some (.ref x),some (.ref y),v3,v4]) ⟨rfl,rfl,_,_,rfl⟩ (fun i σ H' _ h=>by rw [h.1];exact hc) ?_ ?_
 .rintro i v σ H' hv ⟨rfl,ek,v3,v4,rfl⟩
  obtain ⟨c',t,ec,rfl,ht⟩:=ZDH hd hv
  obtain ⟨h0,hxl,hyl⟩:=hb c' (yAH ec)
  have ax:=ZA3 h0 (ZBN h0 hxl)
  have ay:=ZA3 h0 (ZBN h0 hyl)
  rw [keyB_drop ec] at ek
  refine ZCD ht rfl ?_
  walk_at "rd"
  refine ZAH hx ax (ZAH hy ay ?_)
  walk_at "rd"
  split
  .rename_i hne
   rw [if_neg hne] at ek
   split
   .rename_i hu
    rw [if_pos (wayS_up.mp hu)] at ek
    refine ZAH hx ax (ZAH hy ay ?_)
    walk_at "rd"
    rw [<- ek]
    exact q
   .rename_i hu
    rw [if_neg (fun z=>hu (wayS_up.mpr z))] at ek
    refine ZAH hx ax (ZAH hy ay ?_)
    walk_at "rd"
    rw [<- ek]
    exact q
  .rename_i he
   rw [if_pos (Decidable.of_not_not he)] at ek
   exact ⟨ek,_,_,rfl⟩
 .rintro σ H' ⟨rfl,ek,v3,v4,rfl⟩
  have hl:xs.length=cols.length:=by rw [hd.length,yAB]
  rw [hl,List.drop_length] at ek
  walk_at "rd"
  rw [show false=keyB cols xi yi by rw [ek];rfl]
  exact q
theorem ok_KeyRule_widest {f:Addr} {fd:FuncData} (F:Fun K "widest" "KeyRule.widest" ZAq f fd) (T:Bt K mg C_Rule C_KeyRule C_NearRule C_RingRule C_TableRule C_VoteRule C_ChainRule C_AskedRule)
 :FnOk P w K mg base CX0 1 f fd ["self"] (ZB0 K C_KeyRule):=by
 refine F.ok sc_KeyRule_widest (fun vs H Q E h=>?_) (fun cdv A outer s H vs Q E hr h=>?_)
 .obtain ⟨p,dx,c,xs,cols,rfl,hp,hc,hd,hl8,q⟩:=h
  rfl
 obtain ⟨p,dx,c,xs,cols,rfl,hp,hc,hd,hl8,q⟩:=h
 refine ⟨_,(ZAE (ZAQ (ZC4 rfl (ZBr rfl (k:=2) (js:=[]) (N':=["at","way"]) (by rfl) (ZAl (ZBC (pv 0) rfl)) (fun _ _ _ _=>pg_tupK (n:=2) K rfl (ZA6 (ZAW (i:=0) (show (["at","way"]:List Str).Nodup by decide +kernel) rfl (by walk_at "o")) (ZA6 (ZAW (i:=1) (show (["at","way"]:List Str).Nodup by decide +kernel) rfl (by walk_at "o")) ZCB))) (fun _ _ _ _=>ZAz) (fun _ _ _ _=>(pv 0))) (ZDb ZCq ZAF) rfl T.b_max))),?_⟩
 walk_at "rd"
 refine ZDR hp T.cl_KeyRule T.n_KeyRule_columns putF1 ?_
 have hxl:xs.length=cols.length:=by rw [hd.length,yAB]
 refine ZA2 hc (by omega) (fun i ys σ X=>∃ v w,σ=[v,w] /\ X=H /\ ys=((cols.take i).map (·.1)).map V.int) ⟨_,_,rfl,rfl,rfl⟩ (fun i ys σ X _ z=>?_) (fun i ys x σ X hi hx z=>?_) fun ys σ X z p2 hp2=>?_
 .obtain ⟨v,w,_,e,e2⟩:=z
  rw [e,e2,yAB,yAB,yAS]
  exact ⟨hc,by omega⟩
 .obtain ⟨v,w,rfl,rfl,rfl⟩:=z
  obtain ⟨c',t,ec,rfl,ht⟩:=ZDH hd hx
  refine ZCD ht rfl ?_
  walk_at "rd"
  exact .of hi ⟨_,_,rfl,rfl,by rw [yBA,ec,yAJ,yAJ];rfl⟩
 .obtain ⟨v,w,rfl,rfl,rfl⟩:=z
  rw [hxl,yAW (yAA _)]
  exact ⟨p2,cols.map (·.1),_,rfl,rfl,SqL.of ZAC,q _ (ZAK hp2 _)⟩
theorem ok_NearRule_init {f:Addr} {fd:FuncData} (F:Fun K "__init__" "NearRule.__init__" ZAy f fd) (T:Bt K mg C_Rule C_KeyRule C_NearRule C_RingRule C_TableRule C_VoteRule C_ChainRule C_AskedRule)
  (f_check_at:Fn P w K mg base CX0 "check_at" 1 ["at"] (ZCP))
 :FnOk P w K mg base CX0 2 f fd ["self","at","gap"] (ZCN C_NearRule):=by
 refine F.ok sc_NearRule_init (fun vs H Q E h=>?_) (fun cdv A outer s H vs Q E hr h=>?_)
 .obtain ⟨x,dx,a,gp,rfl,hx,h0,h7,hg,q⟩:=h
  rfl
 obtain ⟨x,dx,a,gp,rfl,hx,h0,h7,hg,q⟩:=h
 refine ⟨_,(ZAD (ZBX (ZBM f_check_at (hr.mono (by decide)) rfl ZAR (ZAA (pv 1) ZAG)))
  (ZAD (ZA7 (ZAV ZC5 (pv 2) ZAF (ZAS _))
  (ZAE (ZCI)) ZAU)
  (ZAD (ZB8 (pv 0) (pv 1) rfl)
  (ZAE (ZB8 (pv 0) (pv 2) rfl))))),?_⟩
 walk_at "rd"
 refine ⟨a,rfl,h0,h7,?_⟩
 dsimp only
 rw [if_neg (by omega)]
 refine setX hx T.cl_NearRule T.n_NearRule_at (by decide) fun H2 x2 k2=>?_
 walk_at "rd"
 refine setX x2 T.cl_NearRule T.n_NearRule_gap ZDa fun H3 x3 k3=>?_
 exact q H3 (fun b o n e=>by rw [k3 b n,k2 b n];exact e) ((Ins.of x3 (yAD ZD9 (by decide))).congr fun f=>by simp only [ZAu,lkc])
theorem ok_NearRule_before {f:Addr} {fd:FuncData} (F:Fun K "before" "NearRule.before" ZAk f fd) (T:Bt K mg C_Rule C_KeyRule C_NearRule C_RingRule C_TableRule C_VoteRule C_ChainRule C_AskedRule)
 :FnOk P w K mg base CX0 1 f fd ["self","x","y"] (ZBG K C_NearRule):=by
 refine F.ok sc_NearRule_before (fun vs H Q E h=>?_) (fun cdv A outer s H vs Q E hr h=>?_)
 .obtain ⟨p,x,y,a,gp,xi,yi,rfl,hp,hx,hy,h0,h1,h2,q⟩:=h
  rfl
 obtain ⟨p,x,y,a,gp,xi,yi,rfl,hp,hx,hy,h0,h1,h2,q⟩:=h
 refine ⟨_,(ZAE (ZAQ (ZBB ZC6 (ZAm ZDV (ZAT ZAO (pv 2) (ZBC (pv 0) rfl) (fun _ _=>rfl)) (ZAT ZAO (pv 1) (ZBC (pv 0) rfl) (fun _ _=>rfl))) (ZBC (pv 0) rfl) (ZAS _)))),?_⟩
 walk_at "rd"
 refine hp.get T.cl_NearRule T.n_NearRule_at (by walk_at "lk") (ZAH hy (ZA3 h0 (ZBN h0 h2)) ?_)
 refine hp.get T.cl_NearRule T.n_NearRule_at (by walk_at "lk") (ZAH hx (ZA3 h0 (ZBN h0 h1)) ?_)
 walk_at "rd"
 refine hp.get T.cl_NearRule T.n_NearRule_gap (by walk_at "lk") ?_
 walk_at "rd"
 exact q
theorem ok_NearRule_widest {f:Addr} {fd:FuncData} (F:Fun K "widest" "NearRule.widest" ZAj f fd) (T:Bt K mg C_Rule C_KeyRule C_NearRule C_RingRule C_TableRule C_VoteRule C_ChainRule C_AskedRule)
 :FnOk P w K mg base CX0 1 f fd ["self"] (ZBi C_NearRule):=by
 refine F.ok sc_NearRule_widest (fun vs H Q E h=>?_) (fun cdv A outer s H vs Q E hr h=>?_)
 .obtain ⟨p,a,gp,rfl,hp,q⟩:=h
  rfl
 obtain ⟨p,a,gp,rfl,hp,q⟩:=h
 refine ⟨_,(ZAE (ZAQ (ZBC (pv 0) rfl))),?_⟩
 walk_at "rd"
 exact hp.get T.cl_NearRule T.n_NearRule_at (by walk_at "lk") q
theorem ok_RingRule_init {f:Addr} {fd:FuncData} (F:Fun K "__init__" "RingRule.__init__" ZAx f fd) (T:Bt K mg C_Rule C_KeyRule C_NearRule C_RingRule C_TableRule C_VoteRule C_ChainRule C_AskedRule)
  (f_check_at:Fn P w K mg base CX0 "check_at" 1 ["at"] (ZCP))
 :FnOk P w K mg base CX0 2 f fd ["self","at","size"] (ZCM C_RingRule):=by
 refine F.ok sc_RingRule_init (fun vs H Q E h=>?_) (fun cdv A outer s H vs Q E hr h=>?_)
 .obtain ⟨x,dx,a,gp,rfl,hx,h0,h7,hg,q⟩:=h
  rfl
 obtain ⟨x,dx,a,gp,rfl,hx,h0,h7,hg,q⟩:=h
 refine ⟨_,(ZAD (ZBX (ZBM f_check_at (hr.mono (by decide)) rfl ZAR (ZAA (pv 1) ZAG)))
  (ZAD (ZA7 (ZAV ZC5 (pv 2) ZAF (ZAS _))
  (ZAE (ZCI)) ZAU)
  (ZAD (ZB8 (pv 0) (pv 1) rfl)
  (ZAE (ZB8 (pv 0) (pv 2) rfl))))),?_⟩
 walk_at "rd"
 refine ⟨a,rfl,h0,h7,?_⟩
 dsimp only
 rw [if_neg (by omega)]
 refine setX hx T.cl_RingRule T.n_RingRule_at (by decide) fun H2 x2 k2=>?_
 walk_at "rd"
 refine setX x2 T.cl_RingRule T.n_RingRule_size ZDa fun H3 x3 k3=>?_
 exact q H3 (fun b o n e=>by rw [k3 b n,k2 b n];exact e) ((Ins.of x3 (yAD ZD9 (by decide))).congr fun f=>by simp only [ZAu,lkc])
theorem ok_RingRule_before {f:Addr} {fd:FuncData} (F:Fun K "before" "RingRule.before" ZAi f fd) (T:Bt K mg C_Rule C_KeyRule C_NearRule C_RingRule C_TableRule C_VoteRule C_ChainRule C_AskedRule)
 :FnOk P w K mg base CX0 1 f fd ["self","x","y"] (ZBF K C_RingRule):=by
 refine F.ok sc_RingRule_before (fun vs H Q E h=>?_) (fun cdv A outer s H vs Q E hr h=>?_)
 .obtain ⟨p,x,y,a,sz,xi,yi,rfl,hp,hx,hy,h0,h1,h2,hsz,q⟩:=h
  rfl
 obtain ⟨p,x,y,a,sz,xi,yi,rfl,hp,hx,hy,h0,h1,h2,hsz,q⟩:=h
 refine ⟨_,(ZAD (ZBI (i:=3) sc_RingRule_before.nd rfl (by walk_at "o") (ZAm ZBP (ZAm ZDV (ZAT ZAO (pv 2) (ZBC (pv 0) rfl) (fun _ _=>rfl)) (ZAT ZAO (pv 1) (ZBC (pv 0) rfl) (fun _ _=>rfl))) (ZBC (pv 0) rfl)))
  (ZAE (ZAQ (pe_and (ZBB ZC6 (pv 3) ZAF (ZAS _)) (pe_one (ZBB ZC5 (ZAm ZCk ZAF (pv 3)) (ZBC (pv 0) rfl) (ZAS _))))))),?_⟩
 walk_at "rd"
 refine hp.get T.cl_RingRule T.n_RingRule_at (by walk_at "lk") (ZAH hy (ZA3 h0 (ZBN h0 h2)) ?_)
 refine hp.get T.cl_RingRule T.n_RingRule_at (by walk_at "lk") (ZAH hx (ZA3 h0 (ZBN h0 h1)) ?_)
 walk_at "rd"
 refine hp.get T.cl_RingRule T.n_RingRule_size (by walk_at "lk") ?_
 walk_at "rd"
 refine ⟨by omega,?_⟩
 unfold ZDy at q
 by_cases h:0 < (at0 yi a-at0 xi a) % sz
 .rw [if_pos h]
  rw [decide_eq_true h] at q
  refine ⟨.inl ⟨by decide,by decide⟩,hp.get T.cl_RingRule T.n_RingRule_size (by walk_at "lk") ?_⟩
  walk_at "rd"
  exact q
 .rw [if_neg h]
  rw [decide_eq_false h] at q
  exact q
theorem ok_RingRule_widest {f:Addr} {fd:FuncData} (F:Fun K "widest" "RingRule.widest" ZAh f fd) (T:Bt K mg C_Rule C_KeyRule C_NearRule C_RingRule C_TableRule C_VoteRule C_ChainRule C_AskedRule)
 :FnOk P w K mg base CX0 1 f fd ["self"] (ZBh C_RingRule):=by
 refine F.ok sc_RingRule_widest (fun vs H Q E h=>?_) (fun cdv A outer s H vs Q E hr h=>?_)
 .obtain ⟨p,a,gp,rfl,hp,q⟩:=h
  rfl
 obtain ⟨p,a,gp,rfl,hp,q⟩:=h
 refine ⟨_,(ZAE (ZAQ (ZBC (pv 0) rfl))),?_⟩
 walk_at "rd"
 exact hp.get T.cl_RingRule T.n_RingRule_at (by walk_at "lk") q
theorem ok_TableRule_init {f:Addr} {fd:FuncData} (F:Fun K "__init__" "TableRule.__init__" ZAp f fd) (T:Bt K mg C_Rule C_KeyRule C_NearRule C_RingRule C_TableRule C_VoteRule C_ChainRule C_AskedRule)
  (f_check_at:Fn P w K mg base CX0 "check_at" 1 ["at"] (ZCP))
 :FnOk P w K mg base CX0 2 f fd ["self","at","table"] (ZCb C_TableRule):=by
 refine F.ok sc_TableRule_init (fun vs H Q E h=>?_) (fun cdv A outer s H vs Q E hr h=>?_)
 .obtain ⟨x,dx,l,a,n,m,rfl,hx,h0,h7,hM,hn,q⟩:=h
  rfl
 obtain ⟨x,dx,l,a,n,m,rfl,hx,h0,h7,hM,hn,q⟩:=h
 refine ⟨_,(ZAD (ZBX (ZBM f_check_at (hr.mono (by decide)) rfl ZAR (ZAA (pv 1) ZAG)))
  (ZAD (ZB7 PassesOwn.never rfl (ZAl (pv 2)) (ZAW (i:=3) sc_TableRule_init.nd rfl (by walk_at "o"))
  (ZAE (ZA7 (ZAV ZDs (ZBT ZBK rfl T.b_len PySem.boot_len (ZAA (pv 3) ZAG)) (ZBT ZBK rfl T.b_len PySem.boot_len (ZAA (pv 2) ZAG)) (ZAS _))
  (ZAE (ZCI)) ZAU)))
  (ZAD (ZB8 (pv 0) (pv 1) rfl)
  (ZAE (ZB8 (pv 0) (ZBr rfl (k:=1) (js:=[]) (N':=["truths"]) (by rfl) (ZAl (pv 2)) (fun _ _ _ _=>ZAW (i:=0) (show (["truths"]:List Str).Nodup by decide +kernel) rfl (by walk_at "o")) (fun _ _ _ _=>ZAz) (fun _ _ _ _=>(ZBV (call_list_ofK K) rfl T.b_list PyProof.Rows.boot_list (ZAA (pv 0) ZAG)))) rfl))))),?_⟩
 walk_at "rd"
 refine ⟨a,rfl,h0,h7,?_⟩
 obtain ⟨rs,hl,hrl,hm⟩:=id hM
 have hlx:l≠x:=fun z=>by rw [z,hx] at hl;cases hl
 walk_at "rd"
 refine ZCE (SqL.of hl) (fun i σ X=>∃ v,σ=[some (.ref x),some (.int a),some (.ref l),v] /\ X=H) ⟨_,rfl,rfl⟩ (fun i σ X _ z=>?_) (fun i u σ X hu z=>?_) fun σ X z=>?_
 .obtain ⟨_,_,e⟩:=z
  rw [e];exact SqL.of hl
 .obtain ⟨v,rfl,rfl⟩:=z
  have hi:i < n:=by rw [<- hrl];exact (yAI.mp hu).1
  obtain ⟨r,hr1,hr2⟩:=hm i hi
  rw [hu] at hr1
  cases hr1
  walk_at "rd"
  refine ⟨r,_,rfl,.inl (SqL.of hr2),l,_,rfl,.inl (SqL.of hl),?_⟩
  rw [yAB,yBI,hrl,if_neg (fun z=>z rfl)]
  exact ⟨_,rfl,trivial⟩
 obtain ⟨v,rfl,eX⟩:=z
 rw [eX]
 clear eX
 walk_at "rd"
 refine setX hx T.cl_TableRule T.n_TableRule_at (by decide) fun H2 x2 k2=>?_
 walk_at "rd"
 have hl2:H2 l=some (.lst rs):=by rw [k2 l hlx];exact hl
 have hm2:∀ p,p < n->∃ r,rs[p]?=some (V.ref r) /\ H2 r=some (.lst ((List.range n).map fun q=>V.bl (m p q))):=fun p hp=>by
  obtain ⟨r,c1,b⟩:=hm p hp
  exact ⟨r,c1,by rw [k2 r (fun z=>by rw [z,hx] at b;cases b)];exact b⟩
 have H2f:∀ {b:Addr},H2 b=none->H b=none:=fun {b} h=>by
  by_cases z:b=x
  .rw [z,x2] at h;cases h
  .rw [<- k2 b z];exact h
 refine ZA2 (SqL.of hl2) (by omega) (fun i ys σ X=>∃ v,σ=[v] /\ Same H2 X /\ ys.length=i /\ ∀ p,p < i->∃ r,ys[p]?=some (V.ref r) /\ H r=none /\ X r=some (.lst ((List.range n).map fun q=>V.bl (m p q)))) ⟨_,rfl,.refl _,rfl,fun p h=>by omega⟩ (fun i ys σ X _ z=>?_) (fun i ys u σ X hi hu z=>?_) fun ys σ X z p2 hp2=>?_
 .obtain ⟨_,_,e,e2,_⟩:=z
  exact ⟨SqL.of (e _ _ hl2),Nat.le_of_eq e2⟩
 .obtain ⟨v,rfl,sX,hyl,hall⟩:=z
  obtain ⟨r,hr1,hr2⟩:=hm2 i (by omega)
  rw [hu] at hr1
  cases hr1
  walk_at "rd"
  refine ⟨r,_,rfl,.inl (SqL.of (sX _ _ hr2)),fun r2 hr2'=>.of hi ⟨_,rfl,sX.trans (ZAK hr2' _),by rw [yAF,hyl];rfl,fun p hp=>?_⟩⟩
  by_cases hpi:p < i
  .obtain ⟨r3,c1,c3,b⟩:=hall p hpi
   exact ⟨r3,by rw [yAO (by omega)];exact c1,c3,ZAK hr2' _ _ _ b⟩
  .rw [show p=i by omega]
   exact ⟨r2,by rw [<- hyl,yAT (yAA _),yAV];rfl,H2f (sX.free hr2'),ZAC⟩
 obtain ⟨v,rfl,sX,hyl,hall⟩:=z
 have sY:=sX.trans (ZAK hp2 (.lst ys))
 have x3:=sY _ _ x2
 refine setX x3 T.cl_TableRule T.n_TableRule_table ZDa fun H3 x4 k3=>?_
 have nx:∀ b o,upd X p2 (.lst ys) b=some o->(∀ C d f,o≠.ins C d f)->H3 b=some o:=fun b o e hno=>by
  rw [k3 b (fun z=>by rw [z,x3] at e;cases e;exact hno _ _ _ rfl)];exact e
 refine q p2 H3 (fun b o nb e=>?_) ⟨ys,nx _ _ ZAC (fun _ _ _ z=>by cases z),by rw [hyl,hrl],H2f (sX.free hp2),fun p hp=>?_⟩ ((Ins.of x4 (yAD ZD9 (by decide))).congr fun f=>by simp only [ZAu,lkc])
 .rw [k3 b nb]
  exact sY _ _ (by rw [k2 b nb];exact e)
 .obtain ⟨r,c1,c3,b⟩:=hall p (by omega)
  exact ⟨r,c1,c3,nx _ _ (ZAK hp2 _ _ _ b) (fun _ _ _ z=>by cases z)⟩
theorem ok_TableRule_before {f:Addr} {fd:FuncData} (F:Fun K "before" "TableRule.before" ZAa f fd) (T:Bt K mg C_Rule C_KeyRule C_NearRule C_RingRule C_TableRule C_VoteRule C_ChainRule C_AskedRule)
 :FnOk P w K mg base CX0 1 f fd ["self","x","y"] (ZBQ K C_TableRule):=by
 refine F.ok sc_TableRule_before (fun vs H Q E h=>?_) (fun cdv A outer s H vs Q E hr h=>?_)
 .obtain ⟨r,x,y,l,a,n,m,xi,yi,i,j,rfl,hI,hM,hx,hy,h0,hxi,hyj,hi,hj,q⟩:=h
  rfl
 obtain ⟨r,x,y,l,a,n,m,xi,yi,i,j,rfl,hI,hM,hx,hy,h0,hxi,hyj,hi,hj,q⟩:=h
 refine ⟨_,(ZAE (ZAQ (ZAT ZBE (ZAT ZBE (ZBC (pv 0) rfl) (ZAT ZAO (pv 1) (ZBC (pv 0) rfl) (fun _ _=>rfl)) (fun _ _=>rfl)) (ZAT ZAO (pv 2) (ZBC (pv 0) rfl) (fun _ _=>rfl)) (fun _ _=>rfl)))),?_⟩
 walk_at "rd"
 obtain ⟨rs,hl,hrl,hm⟩:=id hM
 obtain ⟨rr,hr1,hr2⟩:=hm i hi
 refine hI.get T.cl_TableRule T.n_TableRule_table (by walk_at "lk") ?_
 refine hI.get T.cl_TableRule T.n_TableRule_at (by walk_at "lk") ?_
 refine ZAH hx (ZA3 h0 hxi) ?_
 refine ZBc (SqL.of hl) (ZAI (by omega) (by rw [Int.toNat_natCast];exact hr1)) ?_
 refine hI.get T.cl_TableRule T.n_TableRule_at (by walk_at "lk") ?_
 refine ZAH hy (ZA3 h0 hyj) ?_
 exact ZBc (SqL.of hr2) (rowAt hj) q
theorem ok_TableRule_widest {f:Addr} {fd:FuncData} (F:Fun K "widest" "TableRule.widest" ZAZ f fd) (T:Bt K mg C_Rule C_KeyRule C_NearRule C_RingRule C_TableRule C_VoteRule C_ChainRule C_AskedRule)
 :FnOk P w K mg base CX0 1 f fd ["self"] (ZBz C_TableRule):=by
 refine F.ok sc_TableRule_widest (fun vs H Q E h=>?_) (fun cdv A outer s H vs Q E hr h=>?_)
 .obtain ⟨p,l,a,rfl,hp,q⟩:=h
  rfl
 obtain ⟨p,l,a,rfl,hp,q⟩:=h
 refine ⟨_,(ZAE (ZAQ (ZBC (pv 0) rfl))),?_⟩
 walk_at "rd"
 exact hp.get T.cl_TableRule T.n_TableRule_at (by walk_at "lk") q
theorem ok_VoteRule_init {f:Addr} {fd:FuncData} (F:Fun K "__init__" "VoteRule.__init__" ZAw f fd) (T:Bt K mg C_Rule C_KeyRule C_NearRule C_RingRule C_TableRule C_VoteRule C_ChainRule C_AskedRule)
 :FnOk P w K mg base CX0 1 f fd ["self","rules"] (ZB9 C_VoteRule):=by
 refine F.ok sc_VoteRule_init (fun vs H Q E h=>?_) (fun cdv A outer s H vs Q E hr h=>?_)
 .obtain ⟨p,dx,c,xs,rfl,hp,hc,q⟩:=h
  rfl
 obtain ⟨p,dx,c,xs,rfl,hp,hc,q⟩:=h
 refine ⟨_,(ZAE (ZB8 (pv 0) (ZBV ZBJ rfl T.b_list PyProof.Rows.boot_list (ZAA (pv 1) ZAG)) rfl)),?_⟩
 walk_at "rd"
 refine ⟨c,xs,rfl,.inl (SqL.of hc),fun l hl=>?_⟩
 refine setX (ZCZ hl hp) T.cl_VoteRule T.n_VoteRule_rules (by decide) fun H2 x2 k2=>?_
 have hlp:l≠p:=fun z=>by rw [z,hp] at hl;cases hl
 exact q l H2 hl hlp (fun b o n e=>by rw [k2 b n,ZAJ (ZAX e hl)];exact e) (by rw [k2 l hlp,ZAC]) ((Ins.of x2 (yAD ZDa (by decide))).congr fun f=>by simp only [ZAu,lkc])
theorem ok_VoteRule_before {f:Addr} {fd:FuncData} (F:Fun K "before" "VoteRule.before" ZAg f fd) (T:Bt K mg C_Rule C_KeyRule C_NearRule C_RingRule C_TableRule C_VoteRule C_ChainRule C_AskedRule)
  (t_KeyRule_before:Mt P w K mg base CX0 C_KeyRule "before" 1 ["self","x","y"] (ZBR K C_KeyRule))
  (t_NearRule_before:Mt P w K mg base CX0 C_NearRule "before" 1 ["self","x","y"] (ZBG K C_NearRule))
  (t_RingRule_before:Mt P w K mg base CX0 C_RingRule "before" 1 ["self","x","y"] (ZBF K C_RingRule))
  (t_TableRule_before:Mt P w K mg base CX0 C_TableRule "before" 1 ["self","x","y"] (ZBQ K C_TableRule))
  (t_AskedRule_before:Mt P w K mg base CX0 C_AskedRule "before" 2 ["self","x","y"] (ZCr K C_AskedRule))
 :FnOk P w K mg base CX0 3 f fd ["self","x","y"] (ZBv K C_KeyRule C_NearRule C_RingRule C_AskedRule C_TableRule C_VoteRule):=by
 refine F.ok sc_VoteRule_before (fun vs H Q E h=>?_) (fun cdv A outer s H vs Q E hr h=>?_)
 .obtain ⟨r,x,y,L,ps,xi,yi,rfl,hv,hps,ok,hx,hy,tx,ty,q⟩:=h
  rfl
 obtain ⟨r,x,y,L,ps,xi,yi,rfl,hv,hps,ok,hx,hy,tx,ty,q⟩:=h
 refine ⟨_,(ZAD (ZBH (i:=3) sc_VoteRule_before.nd rfl (Or.inl rfl) rfl (k:=1) (js:=[1,2]) (N':=["rule","x","y"]) (by rfl) (ZAl (ZBC (pv 0) rfl)) (fun _ _ _ _=>ZAW (i:=0) (show (["rule","x","y"]:List Str).Nodup by decide +kernel) rfl (by walk_at "o")) (fun _ _ _ _=>(pifs_one (ZB6 (ZAN (ZBZ t_KeyRule_before (hr.mono (by decide)) ZAR (pv 0) (ZAA (pv 1) (ZAA (pv 2) ZAG))) (ZAN (ZBZ t_NearRule_before (hr.mono (by decide)) ZAR (pv 0) (ZAA (pv 1) (ZAA (pv 2) ZAG))) (ZAN (ZBZ t_RingRule_before (hr.mono (by decide)) ZAR (pv 0) (ZAA (pv 1) (ZAA (pv 2) ZAG))) (ZAN (ZBZ t_AskedRule_before (hr.mono (by decide)) ZAR (pv 0) (ZAA (pv 1) (ZAA (pv 2) ZAG))) (ZBZ t_TableRule_before (hr.mono (by decide)) ZAR (pv 0) (ZAA (pv 1) (ZAA (pv 2) ZAG)))))))))) (fun _ _ _ _=>(pv 0)))
  (ZAD (ZBH (i:=4) sc_VoteRule_before.nd rfl (Or.inl rfl) rfl (k:=1) (js:=[2,1]) (N':=["rule","y","x"]) (by rfl) (ZAl (ZBC (pv 0) rfl)) (fun _ _ _ _=>ZAW (i:=0) (show (["rule","y","x"]:List Str).Nodup by decide +kernel) rfl (by walk_at "o")) (fun _ _ _ _=>(pifs_one (ZB6 (ZAN (ZBZ t_KeyRule_before (hr.mono (by decide)) ZAR (pv 0) (ZAA (pv 1) (ZAA (pv 2) ZAG))) (ZAN (ZBZ t_NearRule_before (hr.mono (by decide)) ZAR (pv 0) (ZAA (pv 1) (ZAA (pv 2) ZAG))) (ZAN (ZBZ t_RingRule_before (hr.mono (by decide)) ZAR (pv 0) (ZAA (pv 1) (ZAA (pv 2) ZAG))) (ZAN (ZBZ t_AskedRule_before (hr.mono (by decide)) ZAR (pv 0) (ZAA (pv 1) (ZAA (pv 2) ZAG))) (ZBZ t_TableRule_before (hr.mono (by decide)) ZAR (pv 0) (ZAA (pv 1) (ZAA (pv 2) ZAG)))))))))) (fun _ _ _ _=>(pv 0)))
  (ZAE (ZAQ (ZBB ZC6 (ZBT ZBK rfl T.b_len PySem.boot_len (ZAA (pv 3) ZAG)) (ZBT ZBK rfl T.b_len PySem.boot_len (ZAA (pv 4) ZAG)) (ZAS _)))))),?_⟩
 walk_at "rd"
 obtain ⟨l,xs,hI,hl,hs⟩:=hv
 have hxl:=hs.len
 refine hI.get T.cl_VoteRule T.n_VoteRule_rules (by walk_at "lk") ?_
 refine ZA2 (SqL.of hl) (by omega) (fun i ys σ X=>∃ v,σ=[v,some (.ref x),some (.ref y)] /\ X=H /\ ys.length=cnt (ps.take i) xi yi) ⟨_,rfl,rfl,rfl⟩ (fun i ys σ X _ z=>?_) (fun i ys u σ X hi hu z=>?_) fun ys σ X z p hp=>?_
 .obtain ⟨v,_,e,e2⟩:=z
  rw [e,e2]
  exact ⟨SqL.of hl,cnt_le _ _ _ _⟩
 .obtain ⟨v,rfl,rfl,e2⟩:=z
  obtain ⟨p,a,hp,rfl,ha⟩:=hs.at hu
  walk_at "rd"
  refine ZCj ha (ok p (yAH hp)) hx hy tx ty ⟨_,rfl,?_⟩
  have ec:=cnt_next xi yi hp
  cases hg:gB p xi yi
  .rw [hg] at ec
   rw [if_neg (by decide)]
   exact .of hi ⟨_,rfl,rfl,by rw [e2,ec];rfl⟩
  .rw [hg] at ec
   rw [if_pos rfl]
   exact .of hi ⟨_,rfl,rfl,by rw [yAF,e2,ec];rfl⟩
 obtain ⟨v,rfl,rfl,e2⟩:=z
 rw [hxl,yAW (yAA _)] at e2
 obtain ⟨X1,e1,s1,h1⟩:=newH hp (.lst ys)
 rw [e1];clear e1
 have hs1:=hs.mono (ZA8 s1)
 have hl1:=s1 _ _ hl
 have hx1:=s1.seqT hx
 have hy1:=s1.seqT hy
 refine (hI.mono s1).get T.cl_VoteRule T.n_VoteRule_rules (by walk_at "lk") ?_
 refine ZA2 (SqL.of hl1) (by omega) (fun i zs σ X=>∃ v,σ=[v,some (.ref y),some (.ref x)] /\ X=X1 /\ zs.length=cnt (ps.take i) yi xi) ⟨_,rfl,rfl,rfl⟩ (fun i zs σ X _ z=>?_) (fun i zs u σ X hi hu z=>?_) fun zs σ X z p2 hp2=>?_
 .obtain ⟨v,_,e,e2⟩:=z
  rw [e,e2]
  exact ⟨SqL.of hl1,cnt_le _ _ _ _⟩
 .obtain ⟨v,rfl,rfl,e2⟩:=z
  obtain ⟨p,a,hp,rfl,ha⟩:=hs1.at hu
  walk_at "rd"
  refine ZCj ha (ok p (yAH hp)) hy1 hx1 ty tx ⟨_,rfl,?_⟩
  have ec:=cnt_next yi xi hp
  cases hg:gB p yi xi
  .rw [hg] at ec
   rw [if_neg (by decide)]
   exact .of hi ⟨_,rfl,rfl,by rw [e2,ec];rfl⟩
  .rw [hg] at ec
   rw [if_pos rfl]
   exact .of hi ⟨_,rfl,rfl,by rw [yAF,e2,ec];rfl⟩
 obtain ⟨v,rfl,rfl,e3⟩:=z
 rw [hxl,yAW (yAA _)] at e3
 have s2:=ZAK hp2 (.lst zs)
 refine ⟨p,ys,rfl,.inl (SqL.of (s2 _ _ h1)),p2,zs,rfl,.inl (SqL.of ZAC),?_⟩
 rw [e2,e3]
 have:=q _ (s1.trans s2)
 unfold vB at this
 rw [show decide ((cnt ps yi xi:Int) < (cnt ps xi yi:Int))=decide (cnt ps yi xi < cnt ps xi yi) from decide_eq_decide.mpr (by omega)]
 exact this
theorem ok_ChainRule_init {f:Addr} {fd:FuncData} (F:Fun K "__init__" "ChainRule.__init__" ZAs f fd) (T:Bt K mg C_Rule C_KeyRule C_NearRule C_RingRule C_TableRule C_VoteRule C_ChainRule C_AskedRule)
 :FnOk P w K mg base CX0 1 f fd ["self","rules"] (ZB9 C_ChainRule):=by
 refine F.ok sc_ChainRule_init (fun vs H Q E h=>?_) (fun cdv A outer s H vs Q E hr h=>?_)
 .obtain ⟨p,dx,c,xs,rfl,hp,hc,q⟩:=h
  rfl
 obtain ⟨p,dx,c,xs,rfl,hp,hc,q⟩:=h
 refine ⟨_,(ZAE (ZB8 (pv 0) (ZBV ZBJ rfl T.b_list PyProof.Rows.boot_list (ZAA (pv 1) ZAG)) rfl)),?_⟩
 walk_at "rd"
 refine ⟨c,xs,rfl,.inl (SqL.of hc),fun l hl=>?_⟩
 refine setX (ZCZ hl hp) T.cl_ChainRule T.n_ChainRule_rules (by decide) fun H2 x2 k2=>?_
 have hlp:l≠p:=fun z=>by rw [z,hp] at hl;cases hl
 exact q l H2 hl hlp (fun b o n e=>by rw [k2 b n,ZAJ (ZAX e hl)];exact e) (by rw [k2 l hlp,ZAC]) ((Ins.of x2 (yAD ZDa (by decide))).congr fun f=>by simp only [ZAu,lkc])
theorem ok_ChainRule_before {f:Addr} {fd:FuncData} (F:Fun K "before" "ChainRule.before" ZAc f fd) (T:Bt K mg C_Rule C_KeyRule C_NearRule C_RingRule C_TableRule C_VoteRule C_ChainRule C_AskedRule)
  (t_KeyRule_before:Mt P w K mg base CX0 C_KeyRule "before" 1 ["self","x","y"] (ZBR K C_KeyRule))
  (t_NearRule_before:Mt P w K mg base CX0 C_NearRule "before" 1 ["self","x","y"] (ZBG K C_NearRule))
  (t_RingRule_before:Mt P w K mg base CX0 C_RingRule "before" 1 ["self","x","y"] (ZBF K C_RingRule))
  (t_TableRule_before:Mt P w K mg base CX0 C_TableRule "before" 1 ["self","x","y"] (ZBQ K C_TableRule))
  (t_VoteRule_before:Mt P w K mg base CX0 C_VoteRule "before" 3 ["self","x","y"] (ZBv K C_KeyRule C_NearRule C_RingRule C_AskedRule C_TableRule C_VoteRule))
  (t_AskedRule_before:Mt P w K mg base CX0 C_AskedRule "before" 2 ["self","x","y"] (ZCr K C_AskedRule))
 :FnOk P w K mg base CX0 4 f fd ["self","x","y"] (ZCf K C_KeyRule C_NearRule C_RingRule C_AskedRule C_TableRule C_VoteRule C_ChainRule):=by
 refine F.ok sc_ChainRule_before (fun vs H Q E h=>?_) (fun cdv A outer s H vs Q E hr h=>?_)
 .obtain ⟨r,x,y,L,ps,xi,yi,rfl,hv,ok,hps,hx,hy,tx,ty,q⟩:=h
  rfl
 obtain ⟨r,x,y,L,ps,xi,yi,rfl,hv,ok,hps,hx,hy,tx,ty,q⟩:=h
 refine ⟨_,(ZAD (ZB7 PassesOwn.never rfl (ZAl (ZBC (pv 0) rfl)) (ZAW (i:=3) sc_ChainRule_before.nd rfl (by walk_at "o"))
  (ZAD (ZA7 (ZB6 (ZAN (ZBZ t_KeyRule_before (hr.mono (by decide)) ZAR (pv 3) (ZAA (pv 1) (ZAA (pv 2) ZAG))) (ZAN (ZBZ t_NearRule_before (hr.mono (by decide)) ZAR (pv 3) (ZAA (pv 1) (ZAA (pv 2) ZAG))) (ZAN (ZBZ t_RingRule_before (hr.mono (by decide)) ZAR (pv 3) (ZAA (pv 1) (ZAA (pv 2) ZAG))) (ZAN (ZBZ t_AskedRule_before (hr.mono (by decide)) ZAR (pv 3) (ZAA (pv 1) (ZAA (pv 2) ZAG))) (ZAN (ZBZ t_TableRule_before (hr.mono (by decide)) ZAR (pv 3) (ZAA (pv 1) (ZAA (pv 2) ZAG))) (ZBZ t_VoteRule_before (hr.mono (by decide)) ZAR (pv 3) (ZAA (pv 1) (ZAA (pv 2) ZAG)))))))))
  (ZAE (ZAQ ZCV)) ZAU)
  (ZAE (ZA7 (ZB6 (ZAN (ZBZ t_KeyRule_before (hr.mono (by decide)) ZAR (pv 3) (ZAA (pv 2) (ZAA (pv 1) ZAG))) (ZAN (ZBZ t_NearRule_before (hr.mono (by decide)) ZAR (pv 3) (ZAA (pv 2) (ZAA (pv 1) ZAG))) (ZAN (ZBZ t_RingRule_before (hr.mono (by decide)) ZAR (pv 3) (ZAA (pv 2) (ZAA (pv 1) ZAG))) (ZAN (ZBZ t_AskedRule_before (hr.mono (by decide)) ZAR (pv 3) (ZAA (pv 2) (ZAA (pv 1) ZAG))) (ZAN (ZBZ t_TableRule_before (hr.mono (by decide)) ZAR (pv 3) (ZAA (pv 2) (ZAA (pv 1) ZAG))) (ZBZ t_VoteRule_before (hr.mono (by decide)) ZAR (pv 3) (ZAA (pv 2) (ZAA (pv 1) ZAG)))))))))
  (ZAE (ZAQ ZCV)) ZAU))))
  (ZAE (ZAQ ZCV))),?_⟩
 walk_at "rd"
 obtain ⟨l,xs,hI,hl,hs⟩:=hv
 refine hI.get T.cl_ChainRule T.n_ChainRule_rules (by walk_at "lk") ?_
 have hxl:=hs.len
 refine ZCE (SqL.of hl) (fun i σ X=>∃ v,σ=[some (.ref r),some (.ref x),some (.ref y),v] /\ Same H X /\ befB ps xi yi=befB (ps.drop i) xi yi) ⟨_,rfl,.refl _,rfl⟩ (fun i σ X _ z=>?_) (fun i u σ X hu z=>?_) fun σ X z=>?_
 .obtain ⟨v,_,e,_⟩:=z
  exact SqL.of (e _ _ hl)
 .obtain ⟨v,rfl,sX,eb⟩:=z
  obtain ⟨p,a,hp,rfl,ha⟩:=(hs.mono (ZA8 sX)).at hu
  have okp:=ok p (yAH hp)
  rw [befB_drop hp] at eb
  walk_at "rd"
  refine pr_before ha okp (sX.seqT hx) (sX.seqT hy) tx ty fun X2 s2=>⟨_,rfl,?_⟩
  have sX2:=sX.trans s2
  by_cases h1:ZBL p xi yi=true
  .rw [if_pos h1] at eb ⊢
   rw [<- eb];exact q _ sX2
  rw [if_neg h1] at eb ⊢
  refine pr_before (ha.mono (ZA8 s2)) okp (sX2.seqT hy) (sX2.seqT hx) ty tx fun X3 s3=>⟨_,rfl,?_⟩
  by_cases h2:ZBL p yi xi=true
  .rw [if_pos h2] at eb ⊢
   rw [<- eb];exact q _ (sX2.trans s3)
  rw [if_neg h2] at eb ⊢
  exact ⟨_,rfl,sX2.trans s3,eb⟩
 .obtain ⟨v,rfl,sX,eb⟩:=z
  walk_at "rd"
  rw [hxl,List.drop_length] at eb
  rw [show false=befB ps xi yi by rw [eb];rfl]
  exact q _ sX
theorem ok_AskedRule_init {f:Addr} {fd:FuncData} (F:Fun K "__init__" "AskedRule.__init__" ZAt f fd) (T:Bt K mg C_Rule C_KeyRule C_NearRule C_RingRule C_TableRule C_VoteRule C_ChainRule C_AskedRule)
 :FnOk P w K mg base CX0 1 f fd ["self","teller"] (ZCg C_AskedRule):=by
 refine F.ok sc_AskedRule_init (fun vs H Q E h=>?_) (fun cdv A outer s H vs Q E hr h=>?_)
 .obtain ⟨x,dx,g,rfl,hx,q⟩:=h
  rfl
 obtain ⟨x,dx,g,rfl,hx,q⟩:=h
 refine ⟨_,(ZAE (ZB8 (pv 0) (pv 1) rfl)),?_⟩
 walk_at "rd"
 refine setX hx T.cl_AskedRule T.n_AskedRule_teller (by decide) fun H2 x2 k2=>?_
 exact q H2 (fun b o n e=>by rw [k2 b n];exact e) ((Ins.of x2 (yAD ZDa (by decide))).congr fun f=>by simp only [ZAu,lkc])
theorem ok_AskedRule_before {f:Addr} {fd:FuncData} (F:Fun K "before" "AskedRule.before" ZAd f fd) (T:Bt K mg C_Rule C_KeyRule C_NearRule C_RingRule C_TableRule C_VoteRule C_ChainRule C_AskedRule)
  (clo_teller:CloOk P w K mg base 1 (rT13 K))
 :FnOk P w K mg base CX0 2 f fd ["self","x","y"] (ZCr K C_AskedRule):=by
 refine F.ok sc_AskedRule_before (fun vs H Q E h=>?_) (fun cdv A outer s H vs Q E hr h=>?_)
 .obtain ⟨ru,g,x,y,rfl,hru,⟨o,ho,hfd⟩,q⟩:=h
  rfl
 obtain ⟨ru,g,x,y,rfl,hru,⟨o,ho,hfd⟩,q⟩:=h
 refine ⟨_,(ZAD (ZBI (i:=3) sc_AskedRule_before.nd rfl (by walk_at "o") (ZBC (pv 0) rfl))
  (ZAE (ZAQ (pe_callV (clo_teller.at (hr.mono (by decide))) (pv 3) (ZAA (pv 1) (ZAA (pv 2) ZAG)))))),?_⟩
 walk_at "rd"
 refine hru.get T.cl_AskedRule T.n_AskedRule_teller (by walk_at "lk") ⟨⟨g,o,rfl,ho,hfd⟩,?_⟩
 exact q
theorem ok_widest_of {f:Addr} {fd:FuncData} (F:Fun K "widest_of" "widest_of" ZBD f fd) (T:Bt K mg C_Rule C_KeyRule C_NearRule C_RingRule C_TableRule C_VoteRule C_ChainRule C_AskedRule)
  (t_KeyRule_widest:Mt P w K mg base CX0 C_KeyRule "widest" 1 ["self"] (ZB0 K C_KeyRule))
  (t_NearRule_widest:Mt P w K mg base CX0 C_NearRule "widest" 1 ["self"] (ZBi C_NearRule))
  (t_RingRule_widest:Mt P w K mg base CX0 C_RingRule "widest" 1 ["self"] (ZBh C_RingRule))
  (t_TableRule_widest:Mt P w K mg base CX0 C_TableRule "widest" 1 ["self"] (ZBz C_TableRule))
  (t_AskedRule_widest:Mt P w K mg base CX0 C_AskedRule "widest" 1 ["self"] (ZBg))
 :FnOk P w K mg base CX0 2 f fd ["rules"] (ZDl K C_KeyRule C_NearRule C_RingRule C_AskedRule C_TableRule):=by
 refine F.ok sc_widest_of (fun vs H Q E h=>?_) (fun cdv A outer s H vs Q E hr h=>?_)
 .obtain ⟨l,L,xs,ps,rfl,hl,hs,ok,hps,q⟩:=h
  rfl
 obtain ⟨l,L,xs,ps,rfl,hl,hs,ok,hps,q⟩:=h
 refine ⟨_,(ZAE (ZAQ (ZC4 rfl (ZBr rfl (k:=1) (js:=[]) (N':=["rule"]) (by rfl) (ZAl (pv 0)) (fun _ _ _ _=>ZAW (i:=0) (show (["rule"]:List Str).Nodup by decide +kernel) rfl (by walk_at "o")) (fun _ _ _ _=>ZAz) (fun _ _ _ _=>(ZAN (ZBn t_KeyRule_widest (hr.mono (by decide)) ZAR (pv 0)) (ZAN (ZBn t_NearRule_widest (hr.mono (by decide)) ZAR (pv 0)) (ZAN (ZBn t_RingRule_widest (hr.mono (by decide)) ZAR (pv 0)) (ZAN (ZBn t_AskedRule_widest (hr.mono (by decide)) ZAR (pv 0)) (ZBn t_TableRule_widest (hr.mono (by decide)) ZAR (pv 0)))))))) (ZDb ZCq ZAF) rfl T.b_max))),?_⟩
 walk_at "rd"
 have hxl:=hs.len
 refine ZA2 (SqL.of hl) (by omega) (fun i ys σ X=>∃ v,σ=[v] /\ Same H X /\ ys=((ps.take i).map wB).map V.int) ⟨_,rfl,.refl _,rfl⟩ (fun i ys σ X _ z=>?_) (fun i ys u σ X hi hu z=>?_) fun ys σ X z p hp=>?_
 .obtain ⟨v,_,e,e2⟩:=z
  rw [e2,yAB,yAB,yAS]
  exact ⟨SqL.of (e _ _ hl),by omega⟩
 .obtain ⟨v,rfl,sX,rfl⟩:=z
  obtain ⟨p,a,hp,rfl,ha⟩:=(hs.mono (ZA8 sX)).at hu
  walk_at "rd"
  refine pn_wid ha (ok p (yAH hp)) fun X2 s2=>.of hi ⟨_,rfl,sX.trans s2,?_⟩
  rw [yBA,hp,yAJ,yAJ];rfl
 obtain ⟨v,rfl,sX,rfl⟩:=z
 rw [hxl,yAW (yAA _)]
 exact ⟨p,_,_,rfl,rfl,SqL.of ZAC,q _ (sX.trans (ZAK hp _))⟩
theorem ok_VoteRule_widest {f:Addr} {fd:FuncData} (F:Fun K "widest" "VoteRule.widest" ZAf f fd) (T:Bt K mg C_Rule C_KeyRule C_NearRule C_RingRule C_TableRule C_VoteRule C_ChainRule C_AskedRule)
  (f_widest_of:Fn P w K mg base CX0 "widest_of" 2 ["rules"] (ZDl K C_KeyRule C_NearRule C_RingRule C_AskedRule C_TableRule))
 :FnOk P w K mg base CX0 3 f fd ["self"] (ZDB K C_KeyRule C_NearRule C_RingRule C_AskedRule C_TableRule C_VoteRule):=by
 refine F.ok sc_VoteRule_widest (fun vs H Q E h=>?_) (fun cdv A outer s H vs Q E hr h=>?_)
 .obtain ⟨r,L,ps,rfl,hv,ok,hps,q⟩:=h
  rfl
 obtain ⟨r,L,ps,rfl,hv,ok,hps,q⟩:=h
 refine ⟨_,(ZAE (ZAQ (ZBM f_widest_of (hr.mono (by decide)) rfl ZAR (ZAA (ZBC (pv 0) rfl) ZAG)))),?_⟩
 walk_at "rd"
 obtain ⟨l,xs,hI,hl,hs⟩:=hv
 refine hI.get T.cl_VoteRule T.n_VoteRule_rules (by walk_at "lk") ?_
 exact ⟨l,L,xs,ps,rfl,hl,hs,ok,hps,q⟩
theorem ok_widest_of_2 {f:Addr} {fd:FuncData} (F:Fun K "widest_of" "widest_of" ZBD f fd) (T:Bt K mg C_Rule C_KeyRule C_NearRule C_RingRule C_TableRule C_VoteRule C_ChainRule C_AskedRule)
  (t_KeyRule_widest:Mt P w K mg base CX0 C_KeyRule "widest" 1 ["self"] (ZB0 K C_KeyRule))
  (t_NearRule_widest:Mt P w K mg base CX0 C_NearRule "widest" 1 ["self"] (ZBi C_NearRule))
  (t_RingRule_widest:Mt P w K mg base CX0 C_RingRule "widest" 1 ["self"] (ZBh C_RingRule))
  (t_TableRule_widest:Mt P w K mg base CX0 C_TableRule "widest" 1 ["self"] (ZBz C_TableRule))
  (t_VoteRule_widest:Mt P w K mg base CX0 C_VoteRule "widest" 3 ["self"] (ZDB K C_KeyRule C_NearRule C_RingRule C_AskedRule C_TableRule C_VoteRule))
  (t_AskedRule_widest:Mt P w K mg base CX0 C_AskedRule "widest" 1 ["self"] (ZBg))
 :FnOk P w K mg base CX0 4 f fd ["rules"] (ZDk K C_KeyRule C_NearRule C_RingRule C_AskedRule C_TableRule C_VoteRule):=by
 refine F.ok sc_widest_of (fun vs H Q E h=>?_) (fun cdv A outer s H vs Q E hr h=>?_)
 .obtain ⟨l,L,xs,ps,rfl,hl,hs,ok,hps,q⟩:=h
  rfl
 obtain ⟨l,L,xs,ps,rfl,hl,hs,ok,hps,q⟩:=h
 refine ⟨_,(ZAE (ZAQ (ZC4 rfl (ZBr rfl (k:=1) (js:=[]) (N':=["rule"]) (by rfl) (ZAl (pv 0)) (fun _ _ _ _=>ZAW (i:=0) (show (["rule"]:List Str).Nodup by decide +kernel) rfl (by walk_at "o")) (fun _ _ _ _=>ZAz) (fun _ _ _ _=>(ZAN (ZBn t_KeyRule_widest (hr.mono (by decide)) ZAR (pv 0)) (ZAN (ZBn t_NearRule_widest (hr.mono (by decide)) ZAR (pv 0)) (ZAN (ZBn t_RingRule_widest (hr.mono (by decide)) ZAR (pv 0)) (ZAN (ZBn t_AskedRule_widest (hr.mono (by decide)) ZAR (pv 0)) (ZAN (ZBn t_TableRule_widest (hr.mono (by decide)) ZAR (pv 0)) (ZBn t_VoteRule_widest (hr.mono (by decide)) ZAR (pv 0))))))))) (ZDb ZCq ZAF) rfl T.b_max))),?_⟩
 walk_at "rd"
 have hxl:=hs.len
 refine ZA2 (SqL.of hl) (by omega) (fun i ys σ X=>∃ v,σ=[v] /\ Same H X /\ ys=((ps.take i).map wq).map V.int) ⟨_,rfl,.refl _,rfl⟩ (fun i ys σ X _ z=>?_) (fun i ys u σ X hi hu z=>?_) fun ys σ X z p hp=>?_
 .obtain ⟨v,_,e,e2⟩:=z
  rw [e2,yAB,yAB,yAS]
  exact ⟨SqL.of (e _ _ hl),by omega⟩
 .obtain ⟨v,rfl,sX,rfl⟩:=z
  obtain ⟨p,a,hp,rfl,ha⟩:=(hs.mono (ZA8 sX)).at hu
  walk_at "rd"
  refine pr_wid ha (ok p (yAH hp)) fun X2 s2=>.of hi ⟨_,rfl,sX.trans s2,?_⟩
  rw [yBA,hp,yAJ,yAJ];rfl
 obtain ⟨v,rfl,sX,rfl⟩:=z
 rw [hxl,yAW (yAA _)]
 exact ⟨p,_,_,rfl,rfl,SqL.of ZAC,q _ (sX.trans (ZAK hp _))⟩
theorem ok_ChainRule_widest {f:Addr} {fd:FuncData} (F:Fun K "widest" "ChainRule.widest" ZAb f fd) (T:Bt K mg C_Rule C_KeyRule C_NearRule C_RingRule C_TableRule C_VoteRule C_ChainRule C_AskedRule)
  (f_widest_of_2:Fn P w K mg base CX0 "widest_of" 4 ["rules"] (ZDk K C_KeyRule C_NearRule C_RingRule C_AskedRule C_TableRule C_VoteRule))
 :FnOk P w K mg base CX0 5 f fd ["self"] (ZDo K C_KeyRule C_NearRule C_RingRule C_AskedRule C_TableRule C_VoteRule C_ChainRule):=by
 refine F.ok sc_ChainRule_widest (fun vs H Q E h=>?_) (fun cdv A outer s H vs Q E hr h=>?_)
 .obtain ⟨r,L,ps,rfl,hv,ok,hps,q⟩:=h
  rfl
 obtain ⟨r,L,ps,rfl,hv,ok,hps,q⟩:=h
 refine ⟨_,(ZAE (ZAQ (ZBM f_widest_of_2 (hr.mono (by decide)) rfl ZAR (ZAA (ZBC (pv 0) rfl) ZAG)))),?_⟩
 walk_at "rd"
 obtain ⟨l,xs,hI,hl,hs⟩:=hv
 refine hI.get T.cl_ChainRule T.n_ChainRule_rules (by walk_at "lk") ?_
 exact ⟨l,L,xs,ps,rfl,hl,hs,ok,hps,q⟩
theorem ok_cell_at {f:Addr} {fd:FuncData} (F:Fun K "_law_cell_at" "_law_cell_at" ZBm f fd) (T:Bt K mg C_Rule C_KeyRule C_NearRule C_RingRule C_TableRule C_VoteRule C_ChainRule C_AskedRule)
 :FnOk P w K mg base CX0 1 f fd ["_law_script","_law_k"] (ZDn K):=by
 refine F.ok sc_cell_at (fun vs H Q E h=>?_) (fun cdv A outer s H vs Q E hr h=>?_)
 .obtain ⟨a,ns,k,rfl,hS,h0,q⟩:=h
  rfl
 obtain ⟨a,ns,k,rfl,hS,h0,q⟩:=h
 refine ⟨_,(ZAD (ZA7 (ZAV ZC5 (pv 1) (ZBT ZBK rfl T.b_len PySem.boot_len (ZAA (pv 0) ZAG)) (ZAS _))
  (ZAE (ZAQ (ZAT ZBE (pv 0) (pv 1) (fun _ _=>rfl)))) ZAU)
  (ZAE (ZAQ ZAF))),?_⟩
 walk_at "rd"
 refine ⟨a,_,rfl,.inl hS,?_⟩
 walk_at "rd"
 rw [yAB]
 unfold cellOf at q
 split
 .rename_i hk
  rw [if_pos hk] at q
  have hk':k.toNat < ns.length:=by omega
  refine ZBc hS (ZA3 h0 (yAC hk')) ?_
  rw [yAC hk'] at q
  exact q
 .rename_i hk
  rw [if_neg hk] at q
  exact q
theorem ok_figures {f:Addr} {fd:FuncData} (F:Fun K "_law_figures" "_law_figures" ZBl f fd) (T:Bt K mg C_Rule C_KeyRule C_NearRule C_RingRule C_TableRule C_VoteRule C_ChainRule C_AskedRule)
 :FnOk P w K mg base CX0 1 f fd ["_law_cell","_law_many","_law_base"] (ZDx):=by
 refine F.ok sc_figures (fun vs H Q E h=>?_) (fun cdv A outer s H vs Q E hr h=>?_)
 .obtain ⟨c,n,b,rfl,hn,hb0,hb1,q⟩:=h
  rfl
 obtain ⟨c,n,b,rfl,hn,hb0,hb1,q⟩:=h
 refine ⟨_,(ZAD (ZBI (i:=3) sc_figures.nd rfl (by walk_at "o") (ZCu ZAG))
  (ZAD (ZB7 PassesOwn.never rfl (ZCJ rfl T.b_range (ZAA (pv 1) ZAG)) (ZAW (i:=4) sc_figures.nd rfl (by walk_at "o"))
  (ZAD (ZBX (ZD0 PySem.F.plainAttrs_list PySem.F.slot_list_append PySem.F.type_list_append mt_append (pv 3) (ZAA (ZAm ZBP (pv 0) (pv 2)) ZAG)))
  (ZAE (ZBI (i:=0) sc_figures.nd rfl (by walk_at "o") (ZAm ZBf (pv 0) (pv 2))))))
  (ZAE (ZAQ (pv 3))))),?_⟩
 walk_at "rd"
 refine ⟨ZA0 (by decide),fun p hp=>?_⟩
 obtain ⟨c0,ec0⟩:∃ c0:Int,c=c0:=⟨_,rfl⟩
 refine ZC8 (by omega) (ZDS (fun i σ X=>∃ (c:Int) (zs:List Int) (v:Option V),σ=[some (.int c),some (.int n),some (.int b),some (.ref p),v] /\ X=upd H p (.lst (zs.map V.int)) /\ zs.length=i /\ ∀ z∈zs,0 <= z /\ z < b) ⟨c,[],_,rfl,rfl,rfl,(fun z h=>by cases h)⟩ (fun i σ X hi z=>?_) fun σ X z=>?_)
 .obtain ⟨c',zs,v,rfl,rfl,e,hz⟩:=z
  walk_at "rd"
  refine ⟨.inl ⟨rfl,_,SqL.of ZAC⟩,hb0,p,_,_,rfl,rfl,ZAC,by rw [yAB];exact ZCh (by omega),⟨hb0,by omega⟩,c' / b,zs++[c' % b],_,rfl,by rw [ZCx,yAJ];rfl,by rw [yAF,e];rfl,fun z h=>?_⟩
  rcases yBF.mp h with z' | z'
  .exact hz z z'
  .rw [yBM.mp z']
   exact ⟨Int.emod_nonneg _ (by omega),Int.emod_lt_of_pos _ hb0⟩
 .obtain ⟨c',zs,v,rfl,rfl,e,hz⟩:=z
  walk_at "rd"
  exact q p _ zs (ZAK hp _) hp ZAC (by omega) hz
theorem ok_plan_by {f:Addr} {fd:FuncData} (F:Fun K "_law_plan_by" "_law_plan_by" ZBk f fd) (T:Bt K mg C_Rule C_KeyRule C_NearRule C_RingRule C_TableRule C_VoteRule C_ChainRule C_AskedRule)
  (f_figures:Fn P w K mg base CX0 "_law_figures" 1 ["_law_cell","_law_many","_law_base"] (ZDx))
 :FnOk P w K mg base CX0 2 f fd ["_law_cell","_law_long"] (ZC1 K):=by
 refine F.ok sc_plan_by (fun vs H Q E h=>?_) (fun cdv A outer s H vs Q E hr h=>?_)
 .obtain ⟨c,L,rfl,hL1,hL5,q⟩:=h
  rfl
 obtain ⟨c,L,rfl,hL1,hL5,q⟩:=h
 refine ⟨_,(ZAD (ZBI (i:=2) sc_plan_by.nd rfl (by walk_at "o") (ZAm ZBP (ZAm ZBf (pv 0) ZAF) ZAF))
  (ZAD (ZA7 (ZAV ZBW (ZAm ZBP (pv 0) ZAF) ZAF (ZAS _))
  (ZAD (ZBI (i:=3) sc_plan_by.nd rfl (by walk_at "o") (ZBM f_figures (hr.mono (by decide)) rfl ZAR (ZAA (ZAm ZBf (pv 0) ZAF) (ZAA (ZAm ZBP (ZAm ZBf (pv 0) ZAF) ZAF) (ZAA ZAF ZAG)))))
  (ZAE (ZAQ (ZBw (ZAA ZBO (ZAA (ZBr rfl (k:=1) (js:=[]) (N':=["_law_one_here"]) (by rfl) (ZAl (pv 3)) (fun _ _ _ _=>ZAW (i:=0) (show (["_law_one_here"]:List Str).Nodup by decide +kernel) rfl (by walk_at "o")) (fun _ _ _ _=>ZAz) (fun _ _ _ _=>(ZBw (ZAA (ZAm ZBf (pv 0) ZAF) (ZAA (ZAT (ix_listK K) (ZCu (ZAA ZBO (ZAA ZBO ZAG))) (ZAm ZBP (pv 0) ZAF) (fun _ _=>rfl)) ZAG))))) ZAG)))))) ZAU)
  (ZAD (ZA7 (ZAV ZBW (ZAm ZBP (pv 0) ZAF) ZAF (ZAS _))
  (ZAE (ZAQ (ZBw (ZAA ZBO (ZAA (pv 2) (ZAA (ZAm ZBP (ZAm ZBf (pv 0) ZAF) ZAF) ZAG)))))) ZAU)
  (ZAD (ZA7 (ZAV ZBW (ZAm ZBP (pv 0) ZAF) ZAF (ZAS _))
  (ZAE (ZAQ (ZBw (ZAA ZBO (ZAA (pv 2) (ZAA (ZAm ZCT ZAF (ZAm ZBP (ZAm ZBf (pv 0) ZAF) ZAF)) ZAG)))))) ZAU)
  (ZAD (ZA7 (ZAV ZBW (ZAm ZBP (pv 0) ZAF) ZAF (ZAS _))
  (ZAE (ZAQ (ZBw (ZAA ZBO (ZAA (pv 2) (ZAA (ZAm ZCT ZAF (ZAm ZBP (ZAm ZBf (pv 0) ZAF) ZAF)) ZAG)))))) ZAU)
  (ZAD (ZBI (i:=4) sc_plan_by.nd rfl (by walk_at "o") (ZBM f_figures (hr.mono (by decide)) rfl ZAR (ZAA (ZAm ZBf (pv 0) ZAF) (ZAA (ZAm ZCk (pv 1) (pv 1)) (ZAA ZAF ZAG)))))
  (ZAE (ZAQ (ZBw (ZAA ZBO (ZAA (pv 2) (ZAA (ZBr rfl (k:=1) (js:=[4,1]) (N':=["_law_k","_law_bits","_law_long"]) (by rfl) (ZCJ rfl T.b_range (ZAA (pv 1) ZAG)) (fun _ _ _ _=>ZAW (i:=0) (show (["_law_k","_law_bits","_law_long"]:List Str).Nodup by decide +kernel) rfl (by walk_at "o")) (fun _ _ _ _=>ZAz) (fun _ _ _ _=>(ZBr rfl (k:=1) (js:=[]) (N':=["_law_bit"]) (by rfl) (pi_listK K (ZCK (sl_listK K) (pv 1) (ZCA (ZAm ZCk (pv 0) (pv 2))) (ZCA (ZAm ZCT (ZAm ZCk (pv 0) (pv 2)) (pv 2))))) (fun _ _ _ _=>ZAW (i:=0) (show (["_law_bit"]:List Str).Nodup by decide +kernel) rfl (by walk_at "o")) (fun _ _ _ _=>ZAz) (fun _ _ _ _=>(ZBB ZBW (pv 0) ZAF (ZAS _)))))) ZAG)))))))))))),?_⟩
 walk_at "rd"
 have k0:=Int.emod_nonneg (c / 5) (show (4:Int)≠0 by decide)
 have k1:=Int.emod_lt_of_pos (c / 5) (show (0:Int) < 4 by decide)
 obtain ⟨ky,eky,hky⟩:∃ n:Nat,c / 5 % 4=n /\ n < 4:=⟨(c / 5 % 4).toNat,by omega,by omega⟩
 rw [eky]
 clear k0 k1
 refine ⟨⟨by decide,by decide⟩,by decide,by decide,?_⟩
 by_cases e0:c % 5=0
 .rw [if_pos e0]
  have j0:=Int.emod_nonneg (c / 20) (show (6:Int)≠0 by decide)
  have j1:=Int.emod_lt_of_pos (c / 20) (show (0:Int) < 6 by decide)
  obtain ⟨nn,enn,hnn⟩:∃ n:Nat,c / 20 % 6=n /\ n <= 5:=⟨(c / 20 % 6).toNat,by omega,by omega⟩
  rw [enn]
  refine ⟨⟨by decide,by decide⟩,⟨by decide,by decide⟩,by decide,_,nn,8,rfl,by omega,by decide,by decide,fun l H1 zs s1 _ h1 hzl hz=>?_⟩
  refine ZA2 (SqL.of h1) (by rw [yAB];omega) (fun i ys σ X=>∃ v,σ=[v] /\ Same H1 X /\ DpAll K X (((zs.take i).map fun z=>(z / 2,decide (z % 2=0))).map colD) ys) ⟨_,rfl,.refl _,.nil⟩ (fun i ys σ X _ z=>?_) (fun i ys u σ X hi hu z=>?_) fun ys σ X z p2 hp2=>?_
  .obtain ⟨v,_,sX,d⟩:=z
   exact ⟨SqL.of (sX _ _ h1),by rw [d.length,yAB,yAB,yAS];omega⟩
  .obtain ⟨v,rfl,sX,d⟩:=z
   obtain ⟨z,hz',rfl⟩:=get_ints hu
   walk_at "rd"
   refine ⟨⟨by decide,by decide⟩,ZA0 (by decide),fun p3 hp3=>⟨by decide,?_⟩⟩
   have hat:atI [V.str (Str.ofString "up"),V.str (Str.ofString "down")] (z % 2)=some (.str (wayS (decide (z % 2=0)))):=by
    rcases (show z % 2=0∨z % 2=1 by omega) with e | e <;> rw [e] <;> exact ZAI (by decide) rfl
   refine ZBc (SqL.of ZAC) hat ⟨ZA0 (by decide),fun t ht=>.of hi ⟨_,rfl,(sX.new hp3).new ht,?_⟩⟩
   rw [yBA,hz',yAJ,yAJ]
   exact (d.mono ((ZAK hp3 _).trans (ZAK ht _))).snoc (ZDv (SqT.of ZAC) (.two (dp_int _) (dp_str _)))
  obtain ⟨v,rfl,sX,d⟩:=z
  rw [yAB,yAW (yAA _)] at d
  refine ⟨ZA0 (by decide),fun t ht=>?_⟩
  have s2:=ZAK hp2 (.lst ys)
  have s3:=ZAK ht (.tup [.str (Str.ofString "keys"),.ref p2])
  refine q t _ ⟨0,ky,0,zs.map fun z=>(z / 2,decide (z % 2=0)),fun _ _=>false⟩ (s1.trans (sX.trans (s2.trans s3))) (.inl ⟨rfl,p2,ys,ZAC,s3 _ _ ZAC,d.mono (s2.trans s3)⟩) (fun z us u hz=>?_) ⟨(by show (0:Nat) < 5;decide),hky,Int.le_refl _,(fun z=>by cases z),(fun z=>by cases z),fun c' hc=>?_,by show (List.map _ _).length <= 5;rw [yAB];omega⟩
  .have S0:=s1.trans sX
   have zt:t≠z:=fun e=>by rw [e] at ht;rw [s2 _ _ (S0 _ _ hz)] at ht;cases ht
   have zp:p2≠z:=fun e=>by rw [e,S0 _ _ hz] at hp2;cases hp2
   exact .inl ⟨rfl,p2,ys,by rw [ZAJ zt,ZAC],by rw [ZAJ zp];exact s3 _ _ ZAC,cols_upd (s3 _ _ (s2 _ _ (S0 _ _ hz))) (d.mono (s2.trans s3))⟩
  obtain ⟨z,hz2,rfl⟩:=yBC.mp hc
  have:=hz z hz2
  exact ⟨by show 0 <= z / 2;omega,by show z / 2 < 4;omega⟩
 rw [if_neg e0]
 refine ⟨by decide,?_⟩
 by_cases e1:c % 5=1
 .rw [if_pos e1]
  have j0:=Int.emod_nonneg (c / 20) (show (4:Int)≠0 by decide)
  exact ⟨⟨by decide,by decide⟩,by decide,ZA0 (by decide),fun t ht=>q t _ ⟨1,ky,c / 20 % 4,[],fun _ _=>false⟩ (ZAK ht _) (.inr (.inl ⟨.inl rfl,ZAC⟩)) (fun z us u hz=>.inr (.inl ⟨.inl rfl,by rw [ZAJ (fun e=>by rw [e,hz] at ht;cases ht),ZAC];rfl⟩)) ⟨(by show (1:Nat) < 5;decide),hky,j0,(fun z=>by cases z),(fun z=>by cases z),(fun c' hc=>by cases hc),yAY _⟩⟩
 rw [if_neg e1]
 refine ⟨by decide,?_⟩
 by_cases e2:c % 5=2
 .rw [if_pos e2]
  have j0:=Int.emod_nonneg (c / 20) (show (7:Int)≠0 by decide)
  exact ⟨⟨by decide,by decide⟩,by decide,ZA0 (by decide),fun t ht=>q t _ ⟨2,ky,1+c / 20 % 7,[],fun _ _=>false⟩ (ZAK ht _) (.inr (.inl ⟨.inr (.inl rfl),ZAC⟩)) (fun z us u hz=>.inr (.inl ⟨.inr (.inl rfl),by rw [ZAJ (fun e=>by rw [e,hz] at ht;cases ht),ZAC];rfl⟩)) ⟨(by show (2:Nat) < 5;decide),hky,(by show 0 <= 1+c / 20 % 7;omega),(fun z=>by show 1 <= 1+c / 20 % 7;omega),(fun z=>by cases z),(fun c' hc=>by cases hc),yAY _⟩⟩
 rw [if_neg e2]
 refine ⟨by decide,?_⟩
 by_cases e3:c % 5=3
 .rw [if_pos e3]
  have j0:=Int.emod_nonneg (c / 20) (show (3:Int)≠0 by decide)
  exact ⟨⟨by decide,by decide⟩,by decide,ZA0 (by decide),fun t ht=>q t _ ⟨3,ky,2+c / 20 % 3,[],fun _ _=>false⟩ (ZAK ht _) (.inr (.inl ⟨.inr (.inr rfl),ZAC⟩)) (fun z us u hz=>.inr (.inl ⟨.inr (.inr rfl),by rw [ZAJ (fun e=>by rw [e,hz] at ht;cases ht),ZAC];rfl⟩)) ⟨(by show (3:Nat) < 5;decide),hky,(by show 0 <= 2+c / 20 % 3;omega),(fun z=>by cases z),(fun z=>by show 2 <= 2+c / 20 % 3;omega),(fun c' hc=>by cases hc),yAY _⟩⟩
 rw [if_neg e3]
 have hLL:L * L <= 25:=Nat.mul_le_mul hL5 hL5
 refine ⟨⟨by decide,by decide⟩,.inl ⟨by omega,by omega⟩,_,L * L,2,by rw [Int.natCast_mul],by omega,by decide,by decide,fun l H1 zs s1 _ h1 hzl hz=>?_⟩
 refine compR1_of (by omega) (fun i ys σ X=>∃ v,σ=[v,some (.ref l),some (.int L)] /\ Same H1 X /\ ys.length=i /\ ∀ a,a < i->∃ r,ys[a]?=some (V.ref r) /\ H r=none /\ X r=some (.lst ((List.range L).map fun b=>V.bl (decide (zs.getD (a * L+b) 0=1))))) ⟨_,rfl,.refl _,rfl,fun a h=>by omega⟩ (fun i ys σ X z=>?_) (fun i ys σ X hi z=>?_) fun ys σ X z p2 hp2=>?_
 .obtain ⟨_,_,_,e,_⟩:=z
  exact Nat.le_of_eq e
 .obtain ⟨v,rfl,sX,el,hall⟩:=z
  walk_at "rd"
  rw [show (0+(i:Int))=i by omega]
  have hiL:i < L:=by omega
  obtain ⟨k,ek⟩:∃ k,i * L=k:=⟨_,rfl⟩
  have hkL:k+L <= zs.length:=by
   rw [hzl,<- ek,<- Nat.succ_mul]
   exact Nat.mul_le_mul_right L hiL
  refine ⟨.inl ⟨by omega,by omega⟩,.inl ⟨by omega,by omega⟩,?_⟩
  rw [show ((i:Int) * (L:Int))=(k:Int) by rw [<- ek,Int.natCast_mul]]
  have hcut:cutV (zs.map V.int) (some (k:Int)) (some ((k:Int)+(L:Int)))=((List.range L).map fun b=>zs.getD (k+b) 0).map V.int:=by
   rw [cutV_ints]
   congr 1
   have e1:HT.sIx zs.length 0 (some (k:Int))=k:=by
    show (if (k:Int) < 0 then ((k:Int)+(zs.length:Int)).toNat else min (k:Int).toNat zs.length)=k
    rw [if_neg (by omega)];omega
   have e2:HT.sIx zs.length zs.length (some ((k:Int)+(L:Int)))=k+L:=by
    show (if (k:Int)+(L:Int) < 0 then ((k:Int)+(L:Int)+(zs.length:Int)).toNat else min ((k:Int)+(L:Int)).toNat zs.length)=k+L
    rw [if_neg (by omega)];omega
   rw [e1,e2,show k+L-k=L by omega]
   refine List.ext_getElem? fun j=>?_
   rw [List.getElem?_take,yBL,yAU]
   by_cases hj:j < L
   .rw [if_pos hj,List.getElem?_range hj,Option.map_some,List.getD_eq_getElem?_getD,yAC (show k+j < zs.length by omega)];rfl
   .rw [if_neg hj,List.getElem?_eq_none (by rw [yBI];omega)];rfl
  refine ZDC (SqL.of (sX _ _ h1)) fun p3 hp3=>?_
  rw [hcut]
  have s3:=ZAK hp3 (.lst (((List.range L).map fun b=>zs.getD (k+b) 0).map V.int))
  have h3:upd X p3 (.lst (((List.range L).map fun b=>zs.getD (k+b) 0).map V.int)) p3=some (.lst (((List.range L).map fun b=>zs.getD (k+b) 0).map V.int)):=ZAC
  generalize upd X p3 (.lst (((List.range L).map fun b=>zs.getD (k+b) 0).map V.int))=X3 at s3 h3 ⊢
  refine ZA2 (SqL.of h3) (by rw [yAB,yAB,yBI];omega) (fun j ws σ Y=>∃ v,σ=[v] /\ Y=X3 /\ ws=(List.range j).map fun b=>V.bl (decide (zs.getD (k+b) 0=1))) ⟨_,rfl,rfl,rfl⟩ (fun j ws σ Y _ z=>?_) (fun j ws u σ Y hj hu z=>?_) fun ws σ Y z p4 hp4=>?_
  .obtain ⟨_,_,e,e2⟩:=z
   rw [e,e2,yAB,yBI];exact ⟨SqL.of h3,yAA _⟩
  .obtain ⟨v,rfl,rfl,rfl⟩:=z
   rw [yAB,yAB,yBI] at hj
   rw [yAU,yAU,List.getElem?_range hj] at hu
   cases hu
   walk_at "rd"
   refine .of (by rw [yAB,yAB,yBI];exact hj) ⟨_,rfl,rfl,?_⟩
   rw [List.range_succ,yAJ];rfl
  obtain ⟨v,rfl,rfl,rfl⟩:=z
  rw [yAB,yAB,yBI]
  refine .of (by omega) ⟨_,rfl,(sX.trans s3).new hp4,by rw [yAF,el];rfl,fun a ha=>?_⟩
  by_cases z:a < i
  .obtain ⟨r,r1,r0,r2⟩:=hall a z
   exact ⟨r,by rw [yAO (by omega)];exact r1,r0,ZAK hp4 _ _ _ (s3 _ _ r2)⟩
  .have:a=i:=by omega
   subst this
   exact ⟨p4,by rw [<- el,yAT (yAA _),yAV];rfl,s1.free (sX.free (s3.free hp4)),by rw [ZAC,ek]⟩
 obtain ⟨v,rfl,sX,el,hall⟩:=z
 rw [show ((L:Nat):Int).toNat=L from Int.toNat_natCast L] at hall el
 refine ⟨ZA0 (by decide),fun t ht=>?_⟩
 have s2:=ZAK hp2 (.lst ys)
 have s3:=ZAK ht (.tup [.str (Str.ofString "table"),.int ky,.ref p2])
 exact q t _ ⟨4,ky,0,[],fun a b=>decide (zs.getD (a * L+b) 0=1)⟩ (s1.trans (sX.trans (s2.trans s3))) (.inr (.inr ⟨rfl,p2,ZAC,ys,s3 _ _ ZAC,el,fun a ha=>by
  obtain ⟨r,r1,_,r2⟩:=hall a ha
  exact ⟨r,r1,s3 _ _ (s2 _ _ r2)⟩⟩)) (fun z us u hz=>by
  have S0:=s1.trans sX
  have zt:t≠z:=fun e=>by rw [e] at ht;rw [s2 _ _ (S0 _ _ hz)] at ht;cases ht
  have zp:p2≠z:=fun e=>by rw [e,S0 _ _ hz] at hp2;cases hp2
  refine .inr (.inr ⟨rfl,p2,by rw [ZAJ zt,ZAC],ys,by rw [ZAJ zp];exact s3 _ _ ZAC,el,fun a ha=>?_⟩)
  obtain ⟨r,r1,r0,r2⟩:=hall a ha
  exact ⟨r,r1,by rw [ZAJ (fun e=>by rw [e,hz] at r0;cases r0)];exact s3 _ _ (s2 _ _ r2)⟩) ⟨(by show (4:Nat) < 5;decide),hky,Int.le_refl _,(fun z=>by cases z),(fun z=>by cases z),(fun c' hc=>by cases hc),yAY _⟩
theorem ok_rule_of {f:Addr} {fd:FuncData} (F:Fun K "_law_rule_of" "_law_rule_of" ZBj f fd) (T:Bt K mg C_Rule C_KeyRule C_NearRule C_RingRule C_TableRule C_VoteRule C_ChainRule C_AskedRule)
  (f_teller:Fn P w K mg base CX0 "_law_teller" 1 ["_law_at","_law_size"] (ZDT Pt_teller (ZDW ZAP) "_law_ask" "_law_teller.<locals>._law_ask" (ZAM ZAP) (ZAL ZAP) (ZAB ZAP) ["_law_size","_law_at"] [1,0] 2))
  (k_TableRule:Kl P w K mg base CX0 "TableRule" C_TableRule 2 ["self","at","table"] (ZCb C_TableRule))
  (k_KeyRule:Kl P w K mg base CX0 "KeyRule" C_KeyRule 3 ["self","columns"] (ZCd K C_KeyRule))
  (k_NearRule:Kl P w K mg base CX0 "NearRule" C_NearRule 2 ["self","at","gap"] (ZCN C_NearRule))
  (k_RingRule:Kl P w K mg base CX0 "RingRule" C_RingRule 2 ["self","at","size"] (ZCM C_RingRule))
  (k_AskedRule:Kl P w K mg base CX0 "AskedRule" C_AskedRule 1 ["self","teller"] (ZCg C_AskedRule))
 :FnOk P w K mg base CX0 5 f fd ["_law_plan"] (ZC0 K C_KeyRule C_NearRule C_RingRule C_AskedRule C_TableRule Pt_teller):=by
 refine F.ok sc_rule_of (fun vs H Q E h=>?_) (fun cdv A outer s H vs Q E hr h=>?_)
 .obtain ⟨t,L,p,rfl,hp,ok,hL1,hL5,hT,q⟩:=h
  rfl
 obtain ⟨t,L,p,rfl,hp,ok,hL1,hL5,hT,q⟩:=h
 refine ⟨_,(ZAD (ZA7 (ZAV ZBW (ZAT ZAO (pv 0) ZAF (fun _ _=>rfl)) ZBO (ZAS _))
  (ZAE (ZAQ (ZDE k_KeyRule (hr.mono (by decide)) rfl ZAR (ZAA (ZBV ZBJ rfl T.b_list PyProof.Rows.boot_list (ZAA (ZAT ZAO (pv 0) ZAF (fun _ _=>rfl)) ZAG)) ZAG)))) ZAU)
  (ZAD (ZA7 (ZAV ZBW (ZAT ZAO (pv 0) ZAF (fun _ _=>rfl)) ZBO (ZAS _))
  (ZAE (ZAQ (ZDE k_NearRule (hr.mono (by decide)) rfl ZAR (ZAA (ZAT ZAO (pv 0) ZAF (fun _ _=>rfl)) (ZAA (ZAT ZAO (pv 0) ZAF (fun _ _=>rfl)) ZAG))))) ZAU)
  (ZAD (ZA7 (ZAV ZBW (ZAT ZAO (pv 0) ZAF (fun _ _=>rfl)) ZBO (ZAS _))
  (ZAE (ZAQ (ZDE k_RingRule (hr.mono (by decide)) rfl ZAR (ZAA (ZAT ZAO (pv 0) ZAF (fun _ _=>rfl)) (ZAA (ZAT ZAO (pv 0) ZAF (fun _ _=>rfl)) ZAG))))) ZAU)
  (ZAD (ZA7 (ZAV ZBW (ZAT ZAO (pv 0) ZAF (fun _ _=>rfl)) ZBO (ZAS _))
  (ZAE (ZAQ (ZDE k_AskedRule (hr.mono (by decide)) rfl ZAR (ZAA (ZBM f_teller (hr.mono (by decide)) rfl ZAR (ZAA (ZAT ZAO (pv 0) ZAF (fun _ _=>rfl)) (ZAA (ZAT ZAO (pv 0) ZAF (fun _ _=>rfl)) ZAG))) ZAG)))) ZAU)
  (ZAD (ZBH (i:=1) sc_rule_of.nd rfl (Or.inl rfl) rfl (k:=1) (js:=[]) (N':=["_law_truths"]) (by rfl) (ZAl (ZAT ZAO (pv 0) ZAF (fun _ _=>rfl))) (fun _ _ _ _=>ZAW (i:=0) (show (["_law_truths"]:List Str).Nodup by decide +kernel) rfl (by walk_at "o")) (fun _ _ _ _=>ZAz) (fun _ _ _ _=>(ZBV (call_list_ofK K) rfl T.b_list PyProof.Rows.boot_list (ZAA (pv 0) ZAG))))
  (ZAD (ZBI (i:=2) sc_rule_of.nd rfl (by walk_at "o") (ZDE k_TableRule (hr.mono (by decide)) rfl ZAR (ZAA (ZAT ZAO (pv 0) ZAF (fun _ _=>rfl)) (ZAA (pv 1) ZAG))))
  (ZAD (ZA7 (ZAV (op_neD hr.units) (pv 1) (ZAT ZAO (pv 0) ZAF (fun _ _=>rfl)) (ZAS _))
  (ZAE (ZAQ pe_non)) ZAU)
  (ZAD (ZBX (ZDF PySem.F.plainAttrs_list PySem.F.slot_list_clear PySem.F.type_list_clear ZC7 (ZAT ZBE (pv 1) ZAF (fun _ _=>rfl))))
  (ZAD (ZBX (ZDF PySem.F.plainAttrs_list PySem.F.slot_list_clear PySem.F.type_list_clear ZC7 (pv 1)))
  (ZAE (ZAQ (pv 2)))))))))))),?_⟩
 walk_at "rd"
 have hky:=ok.key
 have made:∀ {x dx C:Addr} {G:Hp},Same H G->G x=none->G dx=none->∀ {H':Hp},(∀ b o,b≠x->upd (upd G dx (.own x)) x (.ins C dx []) b=some o->H' b=some o)->Same H H':=fun {x dx C G} sG hx hdx {H'} k b o h=>k b o (ZAX (sG _ _ h) hx) (ZBU hx hdx _ _ (sG _ _ h))
 rcases id hp with ⟨h0,l,xs,h1,h2,h3⟩ | ⟨h0,h1⟩ | ⟨h0,l,h1,h2⟩
 .refine ZAH (SqT.of h1) (ZAI (by decide) rfl) ?_
  walk_at "rd"
  refine ZAH (SqT.of h1) (ZAI (by decide) rfl) ?_
  refine ⟨l,xs,rfl,.inl (SqL.of h2),fun l2 hl2 x dx hx hdx nd=>?_⟩
  have s2:=ZAK hl2 (.lst xs)
  have S:=ZBU (C:=C_KeyRule) hx hdx
  refine ⟨x,dx,l2,xs,p.cols,rfl,ZAC,SqL.of (S _ _ ZAC),(h3.mono s2).mono S,fun c' hc=>?_,fun l3 hl3=>⟨rfl,?_⟩⟩
  .have:=ok.cl c' hc
   exact ⟨this.1,by omega⟩
  .have hlx:l3≠x:=fun z=>by rw [z,ZAC] at hl3;cases hl3
   have s5:=(S.new (o:=.lst xs) hl3).upd (o:=.ins C_KeyRule dx (putF "columns" (.ref l3) [])) hx
   exact q x _ (ZA8 (s2.trans s5)) (ZBu (s2.trans s5) hT) (.inl ⟨h0,dx,l3,xs,ZAC,SqL.of (by rw [ZAJ hlx,ZAC]),h3.mono (s2.trans s5)⟩)
 .unfold nmS at h1
  rcases h0 with h0 | h0 | h0
  .rw [h0,if_pos rfl] at h1
   refine ZAH (SqT.of h1) (ZAI (by decide) rfl) ?_
   walk_at "rd"
   rw [if_neg nkN]
   refine ZAH (SqT.of h1) (ZAI (by decide) rfl) ?_
   walk_at "rd"
   refine ZAH (SqT.of h1) (ZAI (by decide) rfl) (ZAH (SqT.of h1) (ZAI (by decide) rfl) fun x dx hx hdx nd=>?_)
   refine ⟨x,dx,_,_,rfl,ZAC,by omega,by omega,ok.n0,fun H' k hI=>⟨rfl,?_⟩⟩
   have S:=made (.refl _) hx hdx k
   exact q x H' (ZA8 S) (ZBu S hT) (.inr (.inl ⟨h0,hI⟩))
  .rw [h0,if_neg (by decide),if_pos rfl] at h1
   refine ZAH (SqT.of h1) (ZAI (by decide) rfl) ?_
   walk_at "rd"
   rw [if_neg nkR]
   refine ZAH (SqT.of h1) (ZAI (by decide) rfl) ?_
   walk_at "rd"
   rw [if_neg nnR]
   refine ZAH (SqT.of h1) (ZAI (by decide) rfl) ?_
   walk_at "rd"
   refine ZAH (SqT.of h1) (ZAI (by decide) rfl) (ZAH (SqT.of h1) (ZAI (by decide) rfl) fun x dx hx hdx nd=>?_)
   refine ⟨x,dx,_,_,rfl,ZAC,by omega,by omega,ok.n1 h0,fun H' k hI=>⟨rfl,?_⟩⟩
   have S:=made (.refl _) hx hdx k
   exact q x H' (ZA8 S) (ZBu S hT) (.inr (.inr (.inl ⟨h0,hI⟩)))
  .rw [h0,if_neg (by decide),if_neg (by decide)] at h1
   refine ZAH (SqT.of h1) (ZAI (by decide) rfl) ?_
   walk_at "rd"
   rw [if_neg nkA]
   refine ZAH (SqT.of h1) (ZAI (by decide) rfl) ?_
   walk_at "rd"
   rw [if_neg nnA]
   refine ZAH (SqT.of h1) (ZAI (by decide) rfl) ?_
   walk_at "rd"
   rw [if_neg nrA]
   refine ZAH (SqT.of h1) (ZAI (by decide) rfl) ?_
   walk_at "rd"
   refine ZAH (SqT.of h1) (ZAI (by decide) rfl) (ZAH (SqT.of h1) (ZAI (by decide) rfl) ?_)
   obtain ⟨tPt,hPt⟩:∃ t,H Pt_teller=some (.tbl t):=by
    rcases hT with h | ⟨c',h,_⟩ <;> exact ⟨_,h⟩
   refine ⟨rfl,hT,fun g H1 md ru dr hru hdr nrd=>?_⟩
   have sB:SameB H H1:=fun b o n e=>md.same b o (fun z=>by rw [z,hPt] at e;exact n _ (Option.some.inj e).symm) e
   refine ⟨ru,dr,g,rfl,ZAC,fun H7 k7 ir=>⟨rfl,?_⟩⟩
   have s7:Same H1 H7:=fun b o h=>k7 b o (ZAX h hru) (ZBU hru hdr _ _ h)
   refine q ru H7 (sB.trans (ZA8 s7)) (ZBu s7 md.tab) (.inr (.inr (.inr (.inl ⟨h0,g,ir,?_,md.clo.mono s7.fz⟩))))
   obtain ⟨cl',hcl'⟩:=md.clo
   obtain ⟨doc,pm,ctv,c',a,b⟩:=hcl'.obj
   exact ⟨_,s7 _ _ a,_,rfl⟩
 .refine ZAH (SqT.of h1) (ZAI (by decide) rfl) ?_
  walk_at "rd"
  rw [if_neg nkT]
  refine ZAH (SqT.of h1) (ZAI (by decide) rfl) ?_
  walk_at "rd"
  rw [if_neg nnT]
  refine ZAH (SqT.of h1) (ZAI (by decide) rfl) ?_
  walk_at "rd"
  rw [if_neg nrT]
  refine ZAH (SqT.of h1) (ZAI (by decide) rfl) ?_
  walk_at "rd"
  rw [if_neg naT]
  refine ZAH (SqT.of h1) (ZAI (by decide) rfl) ?_
  obtain ⟨rs,hl,hrl,hm⟩:=id h2
  refine ZA2 (SqL.of hl) (by omega) (fun i ys σ X=>∃ v,σ=[v] /\ Same H X /\ ys.length=i /\ ∀ a,a < i->∃ r,ys[a]?=some (V.ref r) /\ H r=none /\ X r=some (.lst ((List.range L).map fun b=>V.bl (p.m a b)))) ⟨_,rfl,.refl _,rfl,fun a h=>by omega⟩ (fun i ys σ X _ z=>?_) (fun i ys u σ X hi hu z=>?_) fun ys σ X z p2 hp2=>?_
  .obtain ⟨_,_,e,e2,_⟩:=z
   exact ⟨SqL.of (e _ _ hl),Nat.le_of_eq e2⟩
  .obtain ⟨v,rfl,sX,hyl,hall⟩:=z
   obtain ⟨r,hr1,hr2⟩:=hm i (by omega)
   rw [hu] at hr1
   cases hr1
   walk_at "rd"
   refine ⟨r,_,rfl,.inl (SqL.of (sX _ _ hr2)),fun r2 hr2'=>.of hi ⟨_,rfl,sX.new hr2',by rw [yAF,hyl];rfl,fun a ha=>?_⟩⟩
   by_cases z:a < i
   .obtain ⟨r3,c1,c3,b⟩:=hall a z
    exact ⟨r3,by rw [yAO (by omega)];exact c1,c3,ZAK hr2' _ _ _ b⟩
   .have:a=i:=by omega
    subst this
    exact ⟨r2,by rw [<- hyl,yAT (yAA _),yAV];rfl,sX.free hr2',ZAC⟩
  obtain ⟨v,rfl,sX,hyl,hall⟩:=z
  rw [hrl] at hyl hall
  obtain ⟨X2,e2,s2,g2⟩:=newH hp2 (.lst ys)
  rw [e2];clear e2
  have S2:=sX.trans s2
  have hp2H:=sX.free hp2
  refine ZAH (SqT.of (S2 _ _ h1)) (ZAI (by decide) rfl) fun x dx hx hdx nd=>?_
  have SM:=ZBU (C:=C_TableRule) hx hdx
  have hM2:MAt X2 p2 L p.m:=⟨ys,g2,hyl,fun a ha=>let ⟨r,c1,_,b⟩:=hall a ha;⟨r,c1,s2 _ _ b⟩⟩
  refine ⟨x,dx,p2,_,L,p.m,rfl,ZAC,by omega,by omega,hM2.mono (ZA8 SM),by omega,fun l2 H3 k hN hI=>⟨rfl,?_⟩⟩
  have S3:=made S2 hx hdx k
  have s23:Same X2 H3:=fun b o h=>k b o (ZAX h hx) (SM _ _ h)
  refine ZAH (SqT.of (S3 _ _ h1)) (ZAI (by decide) rfl) ?_
  refine neD_of (Enc.list (Enc.list Enc.bl)) (by decide) (a:=(List.range L).map fun i=>(List.range L).map (p.m i)) (b:=(List.range L).map fun i=>(List.range L).map (p.m i)) (hM2.mono (ZA8 s23)).dp (h2.mono (ZA8 S3)).dp ?_
  rw [decide_eq_true rfl]
  refine ⟨_,rfl,?_⟩
  rw [if_neg (by decide)]
  obtain ⟨r0,hy0,hr0,hX0⟩:=hall 0 (by omega)
  have g3:=s23 _ _ g2
  refine ZBc (SqL.of g3) (ZAI (by decide) hy0) ⟨.inl ⟨rfl,_,SqL.of (s23 _ _ (s2 _ _ hX0))⟩,r0,_,rfl,rfl,s23 _ _ (s2 _ _ hX0),?_⟩
  have nr:p2≠r0:=fun z=>by rw [<- z,hp2] at hX0;cases hX0
  refine ⟨.inl ⟨rfl,ys,SqL.of (by rw [ZAJ nr];exact g3)⟩,p2,ys,rfl,rfl,by rw [ZAJ nr];exact g3,?_⟩
  have SF:Same H (upd (upd H3 r0 (.lst [])) p2 (.lst [])):=fun b o h=>by
   rw [ZAJ (ZAX h hp2H),ZAJ (ZAX h hr0)];exact S3 _ _ h
  have kp:∀ b,X2 b=none->∀ o,H3 b=some o->upd (upd H3 r0 (.lst [])) p2 (.lst []) b=some o:=fun b hb o h=>by
   rw [ZAJ (fun z=>by rw [z,g2] at hb;cases hb),ZAJ (fun z=>by rw [z,s2 _ _ hX0] at hb;cases hb)];exact h
  obtain ⟨rs2,n1,n2,n3,n4⟩:=hN
  obtain ⟨dx2,fs2,i1,i2,i3⟩:=hI.ex
  refine q x _ (ZA8 SF) (ZBu SF hT) (.inr (.inr (.inr (.inr ⟨h0,l2,⟨dx2,fs2,kp x hx _ i1,i2,i3⟩,rs2,kp l2 (SM.free n3) _ n1,n2,fun a ha=>?_⟩))))
  obtain ⟨r,c1,c2,c3⟩:=n4 a ha
  exact ⟨r,c1,kp r (SM.free c2) _ c3⟩
theorem ok_one {f:Addr} {fd:FuncData} (F:Fun K "_law_one" "_law_one" ZDZ f fd) (T:Bt K mg C_Rule C_KeyRule C_NearRule C_RingRule C_TableRule C_VoteRule C_ChainRule C_AskedRule)
 :FnOk P w K mg base CX0 1 f fd ["_law_plan","_law_x","_law_y"] (ZCc K):=by
 refine F.ok sc_one (fun vs H Q E h=>?_) (fun cdv A outer s H vs Q E hr h=>?_)
 .obtain ⟨t,x,y,L,p,xi,yi,rfl,hp,ok,hx,hy,tx,ty,q⟩:=h
  rfl
 obtain ⟨t,x,y,L,p,xi,yi,rfl,hp,ok,hx,hy,tx,ty,q⟩:=h
 refine ⟨_,(ZAD (ZA7 (ZAV ZBW (ZAT ZAO (pv 0) ZAF (fun _ _=>rfl)) ZBO (ZAS _))
  (ZAD (ZB7 PassesOwn.never rfl (ZAl (ZAT ZAO (pv 0) ZAF (fun _ _=>rfl))) (ZCt (n:=2) rfl (ZA6 (ZAW (i:=3) sc_one.nd rfl (by walk_at "o")) (ZA6 (ZAW (i:=4) sc_one.nd rfl (by walk_at "o")) ZCB)))
  (ZAE (ZA7 (ZAV ZDs (ZAT ZAO (pv 1) (pv 3) (fun _ _=>rfl)) (ZAT ZAO (pv 2) (pv 3) (fun _ _=>rfl)) (ZAS _))
  (ZAE (ZAQ (ZBB ZBW (ZBB ZC5 (ZAT ZAO (pv 1) (pv 3) (fun _ _=>rfl)) (ZAT ZAO (pv 2) (pv 3) (fun _ _=>rfl)) (ZAS _)) (ZBB ZBW (pv 4) ZBO (ZAS _)) (ZAS _)))) ZAU)))
  (ZAE (ZAQ ZCV))) ZAU)
  (ZAD (ZBI (i:=5) sc_one.nd rfl (by walk_at "o") (ZAm ZDV (ZAT ZAO (pv 2) (ZAT ZAO (pv 0) ZAF (fun _ _=>rfl)) (fun _ _=>rfl)) (ZAT ZAO (pv 1) (ZAT ZAO (pv 0) ZAF (fun _ _=>rfl)) (fun _ _=>rfl))))
  (ZAD (ZA7 (ZAV ZBW (ZAT ZAO (pv 0) ZAF (fun _ _=>rfl)) ZBO (ZAS _))
  (ZAE (ZAQ (ZBB ZC6 (pv 5) (ZAT ZAO (pv 0) ZAF (fun _ _=>rfl)) (ZAS _)))) ZAU)
  (ZAD (ZA7 (ZAV ZBW (ZAT ZAO (pv 0) ZAF (fun _ _=>rfl)) ZBO (ZAS _))
  (ZAE (ZAQ (pe_chain ZC5 ZC5 ZAF (ZAm ZCk ZAF (ZAm ZBP (pv 5) (ZAT ZAO (pv 0) ZAF (fun _ _=>rfl)))) (ZAT ZAO (pv 0) ZAF (fun _ _=>rfl))))) ZAU)
  (ZAD (ZA7 (ZAV ZBW (ZAT ZAO (pv 0) ZAF (fun _ _=>rfl)) ZBO (ZAS _))
  (ZAE (ZAQ (ZBB ZBW (ZAm ZBP (ZAm ZCT (ZAT ZAO (pv 1) (ZAT ZAO (pv 0) ZAF (fun _ _=>rfl)) (fun _ _=>rfl)) (ZAm ZCk ZAF (ZAT ZAO (pv 2) (ZAT ZAO (pv 0) ZAF (fun _ _=>rfl)) (fun _ _=>rfl)))) (ZAT ZAO (pv 0) ZAF (fun _ _=>rfl))) ZAF (ZAS _)))) ZAU)
  (ZAE (ZAQ (ZAT ZBE (ZAT ZBE (ZAT ZAO (pv 0) ZAF (fun _ _=>rfl)) (ZAT ZAO (pv 1) (ZAT ZAO (pv 0) ZAF (fun _ _=>rfl)) (fun _ _=>rfl)) (fun _ _=>rfl)) (ZAT ZAO (pv 2) (ZAT ZAO (pv 0) ZAF (fun _ _=>rfl)) (fun _ _=>rfl)) (fun _ _=>rfl))))))))),?_⟩
 walk_at "rd"
 have hk:=ok.key
 have lx:=tx.len
 have ly:=ty.len
 have bx:=tx.bd p.key hk
 have bY:=ty.bd p.key hk
 have l5:=tx.l5
 have ax:atI (xi.map V.int) (p.key:Int)=some (.int (at0 xi p.key)):=ZA3 (by omega) (ZBN (by omega) (by omega))
 have ay:atI (yi.map V.int) (p.key:Int)=some (.int (at0 yi p.key)):=ZA3 (by omega) (ZBN (by omega) (by omega))
 unfold gB at q
 rcases id hp with ⟨h0,l,xs,h1,h2,h3⟩ | ⟨h0,h1⟩ | ⟨h0,l,h1,h2⟩
 .rw [if_pos h0] at q
  refine ZAH (SqT.of h1) (ZAI (by decide) rfl) ?_
  walk_at "rd"
  refine ZAH (SqT.of h1) (ZAI (by decide) rfl) ?_
  refine ZCE (SqL.of h2) (fun i σ X=>∃ v3 v4,σ=[some (.ref t),some (.ref x),some (.ref y),v3,v4,none] /\ X=H /\ keyB p.cols xi yi=keyB (p.cols.drop i) xi yi) ⟨_,_,rfl,rfl,rfl⟩ (fun i σ X _ z=>?_) (fun i u σ X hu z=>?_) fun σ X z=>?_
  .obtain ⟨_,_,_,e,_⟩:=z
   rw [e];exact SqL.of h2
  .obtain ⟨v3,v4,rfl,rfl,e⟩:=z
   obtain ⟨c',tt,ec,rfl,htt⟩:=ZDH h3 hu
   have hc':=ok.cl c' (yAH ec)
   rw [keyB_drop ec] at e
   have cx:atI (xi.map V.int) c'.1=some (.int (at0 xi c'.1)):=ZA3 (by omega) (ZBN (by omega) (by omega))
   have cy:atI (yi.map V.int) c'.1=some (.int (at0 yi c'.1)):=ZA3 (by omega) (ZBN (by omega) (by omega))
   refine ZCD htt rfl ?_
   walk_at "rd"
   refine ZAH hx cx (ZAH hy cy ?_)
   walk_at "rd"
   by_cases ne:at0 xi c'.1=at0 yi c'.1
   .rw [if_pos ne] at e
    rw [if_neg (fun z=>z ne)]
    exact ⟨_,_,rfl,e⟩
   .rw [if_neg ne] at e
    rw [if_pos ne]
    refine ZAH hx cx (ZAH hy cy ?_)
    walk_at "rd"
    rw [e] at q
    rw [show decide (decide (at0 xi c'.1 < at0 yi c'.1)=decide (wayS c'.2=Str.ofString "up"))=(if c'.2=true then decide (at0 xi c'.1 < at0 yi c'.1) else decide (at0 yi c'.1 < at0 xi c'.1)) by
     rw [way_up]
     cases c'.2
     .by_cases z:at0 xi c'.1 < at0 yi c'.1
      .simp [z];omega
      .simp [z];omega
     .simp]
    exact q
  .obtain ⟨v3,v4,rfl,rfl,e⟩:=z
   walk_at "rd"
   have:p.cols.length=xs.length:=by rw [h3.length,yAB]
   rw [<- this,List.drop_length] at e
   rw [e] at q
   exact q
 .unfold nmS at h1
  rw [if_neg (by omega)] at q
  rcases h0 with h0 | h0 | h0
  .rw [h0,if_pos rfl] at h1
   rw [if_pos h0] at q
   refine ZAH (SqT.of h1) (ZAI (by decide) rfl) ?_
   walk_at "rd"
   rw [if_neg nkN]
   refine ZAH (SqT.of h1) (ZAI (by decide) rfl) (ZAH hy ay (ZAH (SqT.of h1) (ZAI (by decide) rfl) (ZAH hx ax ?_)))
   walk_at "rd"
   refine ZAH (SqT.of h1) (ZAI (by decide) rfl) ?_
   walk_at "rd"
   refine ZAH (SqT.of h1) (ZAI (by decide) rfl) ?_
   walk_at "rd"
   exact q
  .rw [h0,if_neg (by decide),if_pos rfl] at h1
   rw [if_neg (by omega),if_pos h0] at q
   refine ZAH (SqT.of h1) (ZAI (by decide) rfl) ?_
   walk_at "rd"
   rw [if_neg nkR]
   refine ZAH (SqT.of h1) (ZAI (by decide) rfl) (ZAH hy ay (ZAH (SqT.of h1) (ZAI (by decide) rfl) (ZAH hx ax ?_)))
   walk_at "rd"
   refine ZAH (SqT.of h1) (ZAI (by decide) rfl) ?_
   walk_at "rd"
   rw [if_neg nnR]
   refine ZAH (SqT.of h1) (ZAI (by decide) rfl) ?_
   walk_at "rd"
   refine ZAH (SqT.of h1) (ZAI (by decide) rfl) ?_
   walk_at "rd"
   have n1:=ok.n1 h0
   refine ⟨by omega,.inl ⟨by decide,by decide⟩,?_⟩
   unfold ZDy at q
   by_cases z:0 < (at0 yi p.key-at0 xi p.key) % p.num
   .rw [decide_eq_true z,Bool.true_and] at q
    rw [if_pos (by omega)]
    refine ZAH (SqT.of h1) (ZAI (by decide) rfl) ?_
    walk_at "rd"
    exact q
   .rw [decide_eq_false z,Bool.false_and] at q
    rw [if_neg (by omega)]
    exact q
  .rw [h0,if_neg (by decide),if_neg (by decide)] at h1
   rw [if_neg (by omega),if_neg (by omega),if_pos h0] at q
   refine ZAH (SqT.of h1) (ZAI (by decide) rfl) ?_
   walk_at "rd"
   rw [if_neg nkA]
   refine ZAH (SqT.of h1) (ZAI (by decide) rfl) (ZAH hy ay (ZAH (SqT.of h1) (ZAI (by decide) rfl) (ZAH hx ax ?_)))
   walk_at "rd"
   refine ZAH (SqT.of h1) (ZAI (by decide) rfl) ?_
   walk_at "rd"
   rw [if_neg nnA]
   refine ZAH (SqT.of h1) (ZAI (by decide) rfl) ?_
   walk_at "rd"
   rw [if_neg nrA]
   refine ZAH (SqT.of h1) (ZAI (by decide) rfl) ?_
   walk_at "rd"
   refine ZAH (SqT.of h1) (ZAI (by decide) rfl) (ZAH hx ax (ZAH (SqT.of h1) (ZAI (by decide) rfl) (ZAH hy ay ?_)))
   walk_at "rd"
   refine ⟨.inl ⟨by decide,by decide⟩,?_⟩
   refine ZAH (SqT.of h1) (ZAI (by decide) rfl) ?_
   walk_at "rd"
   have:=ok.n2 h0
   exact ⟨by omega,q⟩
 .rw [if_neg (by omega),if_neg (by omega),if_neg (by omega),if_neg (by omega)] at q
  obtain ⟨rs,hl,hrl,hm⟩:=h2
  obtain ⟨rr,hr1,hr2⟩:=hm (at0 xi p.key).toNat (by omega)
  refine ZAH (SqT.of h1) (ZAI (by decide) rfl) ?_
  walk_at "rd"
  rw [if_neg nkT]
  refine ZAH (SqT.of h1) (ZAI (by decide) rfl) (ZAH hy ay (ZAH (SqT.of h1) (ZAI (by decide) rfl) (ZAH hx ax ?_)))
  walk_at "rd"
  refine ZAH (SqT.of h1) (ZAI (by decide) rfl) ?_
  walk_at "rd"
  rw [if_neg nnT]
  refine ZAH (SqT.of h1) (ZAI (by decide) rfl) ?_
  walk_at "rd"
  rw [if_neg nrT]
  refine ZAH (SqT.of h1) (ZAI (by decide) rfl) ?_
  walk_at "rd"
  rw [if_neg naT]
  refine ZAH (SqT.of h1) (ZAI (by decide) rfl) (ZAH (SqT.of h1) (ZAI (by decide) rfl) (ZAH hx ax (ZBc (SqL.of hl) (ZAI (by omega) hr1) ?_)))
  refine ZAH (SqT.of h1) (ZAI (by decide) rfl) (ZAH hy ay ?_)
  have:=rowAt (g:=fun z=>V.bl (p.m (at0 xi p.key).toNat z)) (show (at0 yi p.key).toNat < L by omega)
  rw [show (((at0 yi p.key).toNat:Nat):Int)=at0 yi p.key by omega] at this
  exact ZBc (SqL.of hr2) this q
theorem ok_votes {f:Addr} {fd:FuncData} (F:Fun K "_law_votes" "_law_votes" ZCR f fd) (T:Bt K mg C_Rule C_KeyRule C_NearRule C_RingRule C_TableRule C_VoteRule C_ChainRule C_AskedRule)
  (f_one:Fn P w K mg base CX0 "_law_one" 1 ["_law_plan","_law_x","_law_y"] (ZCc K))
 :FnOk P w K mg base CX0 2 f fd ["_law_plans","_law_x","_law_y"] (ZCa K):=by
 refine F.ok sc_votes (fun vs H Q E h=>?_) (fun cdv A outer s H vs Q E hr h=>?_)
 .obtain ⟨l,x,y,L,xs,ps,xi,yi,rfl,hl,hP,ok,hps,hx,hy,tx,ty,q⟩:=h
  rfl
 obtain ⟨l,x,y,L,xs,ps,xi,yi,rfl,hl,hP,ok,hps,hx,hy,tx,ty,q⟩:=h
 refine ⟨_,(ZAD (ZBH (i:=3) sc_votes.nd rfl (Or.inl rfl) rfl (k:=1) (js:=[1,2]) (N':=["_law_plan","_law_x","_law_y"]) (by rfl) (ZAl (pv 0)) (fun _ _ _ _=>ZAW (i:=0) (show (["_law_plan","_law_x","_law_y"]:List Str).Nodup by decide +kernel) rfl (by walk_at "o")) (fun _ _ _ _=>ZAz) (fun _ _ _ _=>(ZBM f_one (hr.mono (by decide)) rfl ZAR (ZAA (pv 0) (ZAA (pv 1) (ZAA (pv 2) ZAG))))))
  (ZAD (ZBH (i:=4) sc_votes.nd rfl (Or.inl rfl) rfl (k:=1) (js:=[2,1]) (N':=["_law_plan","_law_y","_law_x"]) (by rfl) (ZAl (pv 0)) (fun _ _ _ _=>ZAW (i:=0) (show (["_law_plan","_law_y","_law_x"]:List Str).Nodup by decide +kernel) rfl (by walk_at "o")) (fun _ _ _ _=>ZAz) (fun _ _ _ _=>(ZBM f_one (hr.mono (by decide)) rfl ZAR (ZAA (pv 0) (ZAA (pv 1) (ZAA (pv 2) ZAG))))))
  (ZAE (ZAQ (ZBB ZC6 (ZD0 PySem.F.plainAttrs_list PySem.F.slot_list_count PySem.F.type_list_count mt_count (pv 3) (ZAA ZCV ZAG)) (ZD0 PySem.F.plainAttrs_list PySem.F.slot_list_count PySem.F.type_list_count mt_count (pv 4) (ZAA ZCV ZAG)) (ZAS _)))))),?_⟩
 walk_at "rd"
 have hxl:=hP.len
 have run:∀ {x y:Addr} {xi yi:List Int} {X:Hp} {Q':VK},Same H X->SqT K X x (xi.map V.int)->SqT K X y (yi.map V.int)->Tg L xi->Tg L yi->(∀ p2,X p2=none->Q' (.ref p2) (upd X p2 (.lst ((ps.map fun p=>gB p xi yi).map V.bl))))->ZEC K (ZDd 0) tYes (ZDj (ZCc K) [] E0 (ZBY (tVar 0) (ZBY (tVar 1) (ZBY (tVar 2) tNil)))) [none,some (.ref x),some (.ref y)] Q' (.ref l) X:=fun {x y xi yi X Q'} sX hx hy tx ty k=>by
  refine ZA2 (SqL.of (sX _ _ hl)) (by omega) (fun i ys σ Y=>∃ v,σ=[v,some (.ref x),some (.ref y)] /\ Y=X /\ ys=((ps.take i).map fun p=>gB p xi yi).map V.bl) ⟨_,rfl,rfl,rfl⟩ (fun i ys σ Y _ z=>?_) (fun i ys u σ Y hi hu z=>?_) fun ys σ Y z p2 hp2=>?_
  .obtain ⟨v,_,e,e2⟩:=z
   rw [e,e2,yAB,yAB,yAS]
   exact ⟨SqL.of (sX _ _ hl),by omega⟩
  .obtain ⟨v,rfl,rfl,rfl⟩:=z
   obtain ⟨p,a,hp,rfl,ha⟩:=(hP.mono (ZA8 sX)).at hu
   walk_at "rd"
   refine ⟨a,x,y,L,p,xi,yi,rfl,ha,ok p (yAH hp),hx,hy,tx,ty,.of hi ⟨_,rfl,rfl,?_⟩⟩
   rw [yBA,hp,yAJ,yAJ];rfl
  obtain ⟨v,rfl,rfl,rfl⟩:=z
  rw [hxl,yAW (yAA _)]
  exact k p2 hp2
 have ec:∀ a b:List Int,(ps.map fun p=>gB p a b).countP id=cnt ps a b:=fun a b=>by
  unfold cnt
  rw [List.countP_map,List.countP_eq_length_filter]
  rfl
 refine run (.refl _) hx hy tx ty fun p1 hp1=>?_
 have s1:=ZAK hp1 (.lst ((ps.map fun p=>gB p xi yi).map V.bl))
 refine run s1 (s1.seqT hy) (s1.seqT hx) ty tx fun p2 hp2=>?_
 have s2:=ZAK hp2 (.lst ((ps.map fun p=>gB p yi xi).map V.bl))
 have g1:=s2 _ _ (ZAC (H:=H) (a:=p1) (o:=.lst ((ps.map fun p=>gB p xi yi).map V.bl)))
 refine ⟨.inl ⟨rfl,_,SqL.of g1⟩,p1,_,rfl,rfl,g1,.inl ⟨rfl,_,SqL.of ZAC⟩,p2,_,rfl,rfl,ZAC,?_⟩
 walk_at "rd"
 rw [ec,ec]
 have:=q _ (s1.trans s2)
 unfold vB at this
 rw [show decide ((cnt ps yi xi:Int) < (cnt ps xi yi:Int))=decide (cnt ps yi xi < cnt ps xi yi) from decide_eq_decide.mpr (by omega)]
 exact this
theorem ok_chain {f:Addr} {fd:FuncData} (F:Fun K "_law_chain" "_law_chain" ZCS f fd) (T:Bt K mg C_Rule C_KeyRule C_NearRule C_RingRule C_TableRule C_VoteRule C_ChainRule C_AskedRule)
 :FnOk P w K mg base CX0 1 f fd ["_law_tells"] (ZCe):=by
 refine F.ok sc_chain (fun vs H Q E h=>?_) (fun cdv A outer s H vs Q E hr h=>?_)
 .obtain ⟨l,xs,bs,rfl,hl,hB,q⟩:=h
  rfl
 obtain ⟨l,xs,bs,rfl,hl,hB,q⟩:=h
 refine ⟨_,(ZAD (ZB7 PassesOwn.never rfl (ZAl (pv 0)) (ZCt (n:=2) rfl (ZA6 (ZAW (i:=1) sc_chain.nd rfl (by walk_at "o")) (ZA6 (ZAW (i:=2) sc_chain.nd rfl (by walk_at "o")) ZCB)))
  (ZAE (ZA7 (PW.pt (ZDz (ZB6 (pv 1)) (ZDU (ZB6 (pv 2)))))
  (ZAE (ZAQ (pv 1))) ZAU)))
  (ZAE (ZAQ ZCV))),?_⟩
 walk_at "rd"
 refine ZCE (SqL.of hl) (fun i σ X=>∃ v1 v2,σ=[some (.ref l),v1,v2] /\ X=H /\ chB bs=chB (bs.drop i)) ⟨_,_,rfl,rfl,rfl⟩ (fun i σ X _ z=>?_) (fun i u σ X hu z=>?_) fun σ X z=>?_
 .obtain ⟨_,_,_,e,_⟩:=z
  rw [e];exact SqL.of hl
 .obtain ⟨v1,v2,rfl,rfl,e⟩:=z
  have hi:i < bs.length:=by rw [<- hB.len];exact (yAI.mp hu).1
  obtain ⟨r,a,b⟩:=hB.get i bs[i] (yAC hi)
  rw [hu] at a
  cases a
  rw [List.drop_eq_getElem_cons hi] at e
  have e':chB bs=if bs[i].1=true then true else if bs[i].2=true then false else chB (bs.drop (i+1)):=e
  generalize bs[i]=c at e' b
  obtain ⟨c1,c2⟩:=c
  refine ZCD (SqT.of b) rfl ?_
  walk_at "rd"
  cases c1 <;> cases c2
  .have e2:chB bs=chB (bs.drop (i+1)):=e'
   rw [if_neg yAM,if_neg yAM]
   exact ⟨_,_,rfl,e2⟩
  .have e2:chB bs=false:=e'
   rw [e2] at q
   rw [if_neg yAM,if_pos rfl];exact q
  .have e2:chB bs=true:=e'
   rw [e2] at q
   rw [if_pos rfl];exact q
  .have e2:chB bs=true:=e'
   rw [e2] at q
   rw [if_pos rfl];exact q
 .obtain ⟨v1,v2,rfl,rfl,e⟩:=z
  walk_at "rd"
  rw [hB.len,List.drop_length] at e
  rw [show false=chB bs from e.symm];exact q
theorem ok_before {f:Addr} {fd:FuncData} (F:Fun K "_law_before" "_law_before" ZB2 f fd) (T:Bt K mg C_Rule C_KeyRule C_NearRule C_RingRule C_TableRule C_VoteRule C_ChainRule C_AskedRule)
  (f_chain:Fn P w K mg base CX0 "_law_chain" 1 ["_law_tells"] (ZCe))
  (f_votes:Fn P w K mg base CX0 "_law_votes" 2 ["_law_plans","_law_x","_law_y"] (ZCa K))
  (f_one:Fn P w K mg base CX0 "_law_one" 1 ["_law_plan","_law_x","_law_y"] (ZCc K))
 :FnOk P w K mg base CX0 3 f fd ["_law_plans","_law_way","_law_x","_law_y"] (ZCQ K):=by
 refine F.ok sc_before (fun vs H Q E h=>?_) (fun cdv A outer s H vs Q E hr h=>?_)
 .obtain ⟨l,x,y,w',L,xs,ps,xi,yi,rfl,hl,hP,ok,hp1,hps,hw,hx,hy,tx,ty,q⟩:=h
  rfl
 obtain ⟨l,x,y,w',L,xs,ps,xi,yi,rfl,hl,hP,ok,hp1,hps,hw,hx,hy,tx,ty,q⟩:=h
 refine ⟨_,(ZAD (ZA7 (ZAV ZBW (pv 1) ZAF (ZAS _))
  (ZAE (ZAQ (ZBM f_votes (hr.mono (by decide)) rfl ZAR (ZAA (pv 0) (ZAA (pv 2) (ZAA (pv 3) ZAG)))))) ZAU)
  (ZAD (ZBH (i:=4) sc_before.nd rfl (Or.inl rfl) rfl (k:=1) (js:=[2,3]) (N':=["_law_plan","_law_x","_law_y"]) (by rfl) (ZAl (pv 0)) (fun _ _ _ _=>ZAW (i:=0) (show (["_law_plan","_law_x","_law_y"]:List Str).Nodup by decide +kernel) rfl (by walk_at "o")) (fun _ _ _ _=>ZAz) (fun _ _ _ _=>(ZBw (ZAA (ZBM f_one (hr.mono (by decide)) rfl ZAR (ZAA (pv 0) (ZAA (pv 1) (ZAA (pv 2) ZAG)))) (ZAA (ZBM f_one (hr.mono (by decide)) rfl ZAR (ZAA (pv 0) (ZAA (pv 2) (ZAA (pv 1) ZAG)))) ZAG)))))
  (ZAD (ZA7 (ZAV ZC6 (pv 1) ZAF (ZAS _))
  (ZAD (ZBI (i:=5) sc_before.nd rfl (by walk_at "o") (ZBw (ZAA (ZBM f_votes (hr.mono (by decide)) rfl ZAR (ZAA (ZCK ZCi (pv 0) (ZCA ZAF) ZDM) (ZAA (pv 2) (ZAA (pv 3) ZAG)))) (ZAA (ZBM f_votes (hr.mono (by decide)) rfl ZAR (ZAA (ZCK ZCi (pv 0) (ZCA ZAF) ZDM) (ZAA (pv 3) (ZAA (pv 2) ZAG)))) ZAG))))
  (ZAE (ZBI (i:=4) sc_before.nd rfl (by walk_at "o") (ZCu (ZAA (ZAT ZBE (pv 4) ZAF (fun _ _=>rfl)) (ZAA (pv 5) ZAG)))))) ZAU)
  (ZAD (ZA7 (ZAV ZBW (pv 1) ZAF (ZAS _))
  (ZAE (ZBX (ZDF PySem.F.plainAttrs_list PySem.F.slot_list_reverse PySem.F.type_list_reverse mt_reverse (pv 4)))) ZAU)
  (ZAE (ZAQ (ZBM f_chain (hr.mono (by decide)) rfl ZAR (ZAA (pv 4) ZAG)))))))),?_⟩
 walk_at "rd"
 have hxl:=hP.len
 unfold bfL at q
 by_cases e0:(w':Int)=0
 .rw [if_pos e0]
  rw [if_pos (by omega)] at q
  exact ⟨l,x,y,L,xs,ps,xi,yi,rfl,hl,hP,ok,hps,hx,hy,tx,ty,q⟩
 rw [if_neg e0]
 rw [if_neg (by omega)] at q
 refine ZA2 (SqL.of hl) (by omega) (fun i ys σ X=>∃ v,σ=[v,some (.ref x),some (.ref y)] /\ Same H X /\ Bls X ys (tel (ps.take i) xi yi)) ⟨_,rfl,.refl _,⟨rfl,fun i p h=>by simp [tel] at h⟩⟩ (fun i ys σ X _ z=>?_) (fun i ys u σ X hi hu z=>?_) fun ys σ X z p2 hp2=>?_
 .obtain ⟨v,_,sX,e⟩:=z
  refine ⟨SqL.of (sX _ _ hl),?_⟩
  rw [e.len]
  unfold tel
  rw [yAB,yAS];omega
 .obtain ⟨v,rfl,sX,hB⟩:=z
  obtain ⟨p,a,hp,rfl,ha⟩:=(hP.mono (ZA8 sX)).at hu
  walk_at "rd"
  refine ⟨a,x,y,L,p,xi,yi,rfl,ha,ok p (yAH hp),sX.seqT hx,sX.seqT hy,tx,ty,?_⟩
  refine ⟨a,y,x,L,p,yi,xi,rfl,ha,ok p (yAH hp),sX.seqT hy,sX.seqT hx,ty,tx,?_⟩
  refine ⟨ZA0 (by decide),fun t ht=>.of hi ⟨_,rfl,sX.new ht,?_⟩⟩
  unfold tel
  rw [yBA,hp,yAJ]
  exact (hB.mono (ZAK ht _)).snoc ZAC
 obtain ⟨v,rfl,sX,hB⟩:=z
 rw [hxl,yAW (yAA _)] at hB
 obtain ⟨X2,e2,s2,h2⟩:=newH hp2 (.lst ys)
 rw [e2];clear e2
 have hB2:=hB.mono s2
 have S2:=sX.trans s2
 by_cases e1:(1:Int) < (w':Int)
 .rw [if_pos e1]
  rw [if_neg (by omega)] at q
  dsimp only at q
  have hd1:=hP.drop 1
  have okd:∀ p∈ps.drop 1,p.Ok:=fun p hp=>ok p (List.mem_of_mem_drop hp)
  have hle:(ps.drop 1).length <= 5:=by rw [yBB];omega
  have hcut:∀ n,cutV xs (some 1) n=cutV xs (some 1) n:=fun _=>rfl
  refine ZDC (SqL.of (S2 _ _ hl)) fun p3 hp3=>?_
  rw [cut1]
  have s3:=ZAK hp3 (.lst (xs.drop 1))
  have S3:=S2.trans s3
  refine ⟨p3,x,y,L,_,ps.drop 1,xi,yi,rfl,ZAC,hd1.mono (ZA8 S3),okd,hle,S3.seqT hx,S3.seqT hy,tx,ty,fun X4 s4=>?_⟩
  have S4:=S3.trans s4
  refine ZDC (SqL.of (S4 _ _ hl)) fun p5 hp5=>?_
  rw [cut1]
  have s5:=ZAK hp5 (.lst (xs.drop 1))
  have S5:=S4.trans s5
  refine ⟨p5,y,x,L,_,ps.drop 1,yi,xi,rfl,ZAC,hd1.mono (ZA8 S5),okd,hle,S5.seqT hy,S5.seqT hx,ty,tx,fun X6 s6=>?_⟩
  have S26:=s3.trans (s4.trans (s5.trans s6))
  refine ⟨ZA0 (by decide),fun p7 hp7=>?_⟩
  have s7:=ZAK hp7 (.tup [.bl (vB (ps.drop 1) xi yi),.bl (vB (ps.drop 1) yi xi)])
  obtain ⟨c,hc⟩:∃ c,(tel ps xi yi)[0]?=some c:=⟨_,yAC (by unfold tel;rw [yAB];omega)⟩
  rw [show (tel ps xi yi).headD (false,false)=c by cases hz:tel ps xi yi with | nil=>rw [hz] at hc;cases hc | cons a r=>rw [hz] at hc;exact Option.some.inj hc] at q
  obtain ⟨r0,hr0,hr1⟩:=hB2.get 0 c hc
  refine ZBc (SqL.of (s7 _ _ (S26 _ _ h2))) (ZAI (by decide) hr0) ⟨ZA0 (by decide),fun p8 hp8=>?_⟩
  have s8:=ZAK hp8 (.lst [V.ref r0,V.ref p7])
  have g0:=s7 _ _ (S26 _ _ hr1)
  have g7:upd X6 p7 (.tup [.bl (vB (ps.drop 1) xi yi),.bl (vB (ps.drop 1) yi xi)]) p7=some (.tup [.bl (vB (ps.drop 1) xi yi),.bl (vB (ps.drop 1) yi xi)]):=ZAC
  have SE:=S2.trans (S26.trans s7)
  generalize upd X6 p7 (.tup [.bl (vB (ps.drop 1) xi yi),.bl (vB (ps.drop 1) yi xi)])=X7 at s7 hp8 s8 g0 g7 SE ⊢
  by_cases e3:(w':Int)=3
  .rw [if_pos e3]
   rw [if_neg (by omega)] at q
   refine ⟨.inl ⟨rfl,_,SqL.of ZAC⟩,p8,_,rfl,rfl,ZAC,?_⟩
   rw [ZCx]
   have s9:=ZAK hp8 (.lst [V.ref p7,V.ref r0])
   refine ⟨p8,_,[(vB (ps.drop 1) xi yi,vB (ps.drop 1) yi xi),c],rfl,ZAC,⟨rfl,fun i z hz=>?_⟩,q _ (SE.trans s9)⟩
   match i,hz with
   | 0,hz=>cases hz;exact ⟨p7,rfl,s9 _ _ g7⟩
   | 1,hz=>cases hz;exact ⟨r0,rfl,s9 _ _ g0⟩
   | i+2,hz=>simp at hz
  .rw [if_neg e3]
   rw [if_pos (by omega)] at q
   refine ⟨p8,_,[c,(vB (ps.drop 1) xi yi,vB (ps.drop 1) yi xi)],rfl,ZAC,⟨rfl,fun i z hz=>?_⟩,q _ (SE.trans s8)⟩
   match i,hz with
   | 0,hz=>cases hz;exact ⟨r0,rfl,s8 _ _ g0⟩
   | 1,hz=>cases hz;exact ⟨p7,rfl,s8 _ _ g7⟩
   | i+2,hz=>simp at hz
 rw [if_neg e1,if_neg (by omega)]
 rw [if_pos (by omega)] at q
 exact ⟨p2,ys,tel ps xi yi,rfl,h2,hB2,q _ S2⟩
theorem ok_widest {f:Addr} {fd:FuncData} (F:Fun K "_law_widest" "_law_widest" ZB1 f fd) (T:Bt K mg C_Rule C_KeyRule C_NearRule C_RingRule C_TableRule C_VoteRule C_ChainRule C_AskedRule)
 :FnOk P w K mg base CX0 1 f fd ["_law_plan"] (ZDL K):=by
 refine F.ok sc_widest (fun vs H Q E h=>?_) (fun cdv A outer s H vs Q E hr h=>?_)
 .obtain ⟨t,L,p,rfl,hp,ok,q⟩:=h
  rfl
 obtain ⟨t,L,p,rfl,hp,ok,q⟩:=h
 refine ⟨_,(ZAD (ZA7 (ZAV ZBW (ZAT ZAO (pv 0) ZAF (fun _ _=>rfl)) ZBO (ZAS _))
  (ZAE (ZAQ (ZC4 rfl (ZBr rfl (k:=2) (js:=[]) (N':=["_law_at","_law_way"]) (by rfl) (ZAl (ZAT ZAO (pv 0) ZAF (fun _ _=>rfl))) (fun _ _ _ _=>pg_tupK (n:=2) K rfl (ZA6 (ZAW (i:=0) (show (["_law_at","_law_way"]:List Str).Nodup by decide +kernel) rfl (by walk_at "o")) (ZA6 (ZAW (i:=1) (show (["_law_at","_law_way"]:List Str).Nodup by decide +kernel) rfl (by walk_at "o")) ZCB))) (fun _ _ _ _=>ZAz) (fun _ _ _ _=>(pv 0))) (ZDb ZCq ZAF) rfl T.b_max))) ZAU)
  (ZAD (ZA7 (ZAV ZBW (ZAT ZAO (pv 0) ZAF (fun _ _=>rfl)) ZBO (ZAS _))
  (ZAE (ZAQ (ZDb ZCq ZAF))) ZAU)
  (ZAE (ZAQ (ZAT ZAO (pv 0) ZAF (fun _ _=>rfl)))))),?_⟩
 walk_at "rd"
 rcases id hp with ⟨h0,l,xs,h1,h2,h3⟩ | ⟨h0,h1⟩ | ⟨h0,l,h1,h2⟩
 .have hcl:=ok.cln
  unfold wB at q
  rw [if_pos h0] at q
  refine ZAH (SqT.of h1) (ZAI (by decide) rfl) ?_
  walk_at "rd"
  refine ZAH (SqT.of h1) (ZAI (by decide) rfl) ?_
  have hxl:xs.length=p.cols.length:=by rw [h3.length,yAB]
  refine ZA2 (SqL.of h2) (by omega) (fun i ys σ X=>∃ v w,σ=[v,w] /\ X=H /\ ys=((p.cols.take i).map (·.1)).map V.int) ⟨_,_,rfl,rfl,rfl⟩ (fun i ys σ X _ z=>?_) (fun i ys x σ X hi hx z=>?_) fun ys σ X z p2 hp2=>?_
  .obtain ⟨v,w,_,e,e2⟩:=z
   rw [e,e2,yAB,yAB,yAS]
   exact ⟨SqL.of h2,by omega⟩
  .obtain ⟨v,w,rfl,rfl,rfl⟩:=z
   obtain ⟨c',t,ec,rfl,ht⟩:=ZDH h3 hx
   refine ZCD ht rfl ?_
   walk_at "rd"
   exact .of hi ⟨_,_,rfl,rfl,by rw [yBA,ec,yAJ,yAJ];rfl⟩
  .obtain ⟨v,w,rfl,rfl,rfl⟩:=z
   rw [hxl,yAW (yAA _)]
   exact ⟨p2,p.cols.map (·.1),_,rfl,rfl,SqL.of ZAC,q _ (ZAK hp2 _)⟩
 .have:=q H (.refl _)
  unfold wB at this
  rw [if_neg (by omega)] at this
  unfold nmS at h1
  rcases h0 with h0 | h0 | h0
  .rw [h0,if_pos rfl] at h1
   rw [if_neg (by omega)] at this
   refine ZAH (SqT.of h1) (ZAI (by decide) rfl) ?_
   walk_at "rd"
   rw [if_neg nkN]
   refine ZAH (SqT.of h1) (ZAI (by decide) rfl) ?_
   walk_at "rd"
   rw [if_neg naN]
   exact ZAH (SqT.of h1) (ZAI (by decide) rfl) this
  .rw [h0,if_neg (by decide),if_pos rfl] at h1
   rw [if_neg (by omega)] at this
   refine ZAH (SqT.of h1) (ZAI (by decide) rfl) ?_
   walk_at "rd"
   rw [if_neg nkR]
   refine ZAH (SqT.of h1) (ZAI (by decide) rfl) ?_
   walk_at "rd"
   rw [if_neg naR]
   exact ZAH (SqT.of h1) (ZAI (by decide) rfl) this
  .rw [h0,if_neg (by decide),if_neg (by decide)] at h1
   rw [if_pos h0] at this
   refine ZAH (SqT.of h1) (ZAI (by decide) rfl) ?_
   walk_at "rd"
   rw [if_neg nkA]
   refine ZAH (SqT.of h1) (ZAI (by decide) rfl) ?_
   walk_at "rd"
   exact this
 .have:=q H (.refl _)
  unfold wB at this
  rw [if_neg (by omega),if_neg (by omega)] at this
  refine ZAH (SqT.of h1) (ZAI (by decide) rfl) ?_
  walk_at "rd"
  rw [if_neg nkT]
  refine ZAH (SqT.of h1) (ZAI (by decide) rfl) ?_
  walk_at "rd"
  rw [if_neg naT]
  exact ZAH (SqT.of h1) (ZAI (by decide) rfl) this
theorem ok_told {f:Addr} {fd:FuncData} (F:Fun K "_law_told" "_law_told" ZCs f fd) (T:Bt K mg C_Rule C_KeyRule C_NearRule C_RingRule C_TableRule C_VoteRule C_ChainRule C_AskedRule)
  (f_before:Fn P w K mg base CX0 "_law_before" 3 ["_law_plans","_law_way","_law_x","_law_y"] (ZCQ K))
  (t_VoteRule_before:Mt P w K mg base CX0 C_VoteRule "before" 3 ["self","x","y"] (ZBv K C_KeyRule C_NearRule C_RingRule C_AskedRule C_TableRule C_VoteRule))
  (t_ChainRule_before:Mt P w K mg base CX0 C_ChainRule "before" 4 ["self","x","y"] (ZCf K C_KeyRule C_NearRule C_RingRule C_AskedRule C_TableRule C_VoteRule C_ChainRule))
 :FnOk P w K mg base CX0 5 f fd ["_law_rule","_law_plans","_law_way","_law_x","_law_y"] (ZCz K C_KeyRule C_NearRule C_RingRule C_AskedRule C_TableRule C_VoteRule C_ChainRule):=by
 refine F.ok sc_told (fun vs H Q E h=>?_) (fun cdv A outer s H vs Q E hr h=>?_)
 .obtain ⟨r,l,x,y,w',L,xs,ps,xi,yi,rfl,hR,hl,hP,ok,hp1,hps,hw,hx,hy,tx,ty,q⟩:=h
  rfl
 obtain ⟨r,l,x,y,w',L,xs,ps,xi,yi,rfl,hR,hl,hP,ok,hp1,hps,hw,hx,hy,tx,ty,q⟩:=h
 refine ⟨_,(ZAD (ZBI (i:=5) sc_told.nd rfl (by walk_at "o") (ZAN (ZBZ t_VoteRule_before (hr.mono (by decide)) ZAR (pv 0) (ZAA (pv 3) (ZAA (pv 4) ZAG))) (ZBZ t_ChainRule_before (hr.mono (by decide)) ZAR (pv 0) (ZAA (pv 3) (ZAA (pv 4) ZAG)))))
  (ZAE (ZAQ (pe_and (ZBT ZCF rfl T.b_isinstance PyProof.Rows.boot_isinstance (ZAA (pv 5) (ZAA (ZDr rfl T.b_bool PyProof.Rows.boot_bool) ZAG))) (pe_one (ZBB ZBW (pv 5) (ZBM f_before (hr.mono (by decide)) rfl ZAR (ZAA (pv 1) (ZAA (pv 2) (ZAA (pv 3) (ZAA (pv 4) ZAG))))) (ZAS _))))))),?_⟩
 walk_at "rd"
 rcases hR with ⟨h0,hv⟩ | ⟨h0,hv⟩
 .refine .inl (VtAt.meth hv (.inl rfl) ⟨r,x,y,L,ps,xi,yi,rfl,hv,by omega,ok,hx,hy,tx,ty,fun H1 s1=>?_⟩)
  refine inst_bl ?_
  walk_at "rd"
  refine ⟨l,x,y,w',L,xs,ps,xi,yi,rfl,s1 _ _ hl,hP.mono (ZA8 s1),ok,hp1,hps,hw,s1.seqT hx,s1.seqT hy,tx,ty,fun H2 s2=>?_⟩
  walk_at "rd"
  rw [decide_eq_true (show vB ps xi yi=bfL w' ps xi yi by unfold bfL;rw [if_pos h0])]
  exact q _ (s1.trans s2)
 .obtain ⟨o1,o2⟩:=prW_ok (w:=w') ok hp1 hps
  refine .inr (ChAt.meth hv (.inl rfl) ⟨r,x,y,L,_,xi,yi,rfl,hv,o1,o2,hx,hy,tx,ty,fun H1 s1=>?_⟩)
  refine inst_bl ?_
  walk_at "rd"
  refine ⟨l,x,y,w',L,xs,ps,xi,yi,rfl,s1 _ _ hl,hP.mono (ZA8 s1),ok,hp1,hps,hw,s1.seqT hx,s1.seqT hy,tx,ty,fun H2 s2=>?_⟩
  walk_at "rd"
  rw [decide_eq_true (bef_eq h0 hw hp1 xi yi)]
  exact q _ (s1.trans s2)
theorem ok_law {f:Addr} {fd:FuncData} (F:Fun K "law" "law" ZC2 f fd) (T:Bt K mg C_Rule C_KeyRule C_NearRule C_RingRule C_TableRule C_VoteRule C_ChainRule C_AskedRule)
  (f_rule_of:Fn P w K mg base CX0 "_law_rule_of" 5 ["_law_plan"] (ZC0 K C_KeyRule C_NearRule C_RingRule C_AskedRule C_TableRule Pt_teller))
  (f_cell_at:Fn P w K mg base CX0 "_law_cell_at" 1 ["_law_script","_law_k"] (ZDn K))
  (f_plan_by:Fn P w K mg base CX0 "_law_plan_by" 2 ["_law_cell","_law_long"] (ZC1 K))
  (f_figures:Fn P w K mg base CX0 "_law_figures" 1 ["_law_cell","_law_many","_law_base"] (ZDx))
  (f_widest:Fn P w K mg base CX0 "_law_widest" 1 ["_law_plan"] (ZDL K))
  (f_told:Fn P w K mg base CX0 "_law_told" 5 ["_law_rule","_law_plans","_law_way","_law_x","_law_y"] (ZCz K C_KeyRule C_NearRule C_RingRule C_AskedRule C_TableRule C_VoteRule C_ChainRule))
  (t_VoteRule_widest:Mt P w K mg base CX0 C_VoteRule "widest" 3 ["self"] (ZDB K C_KeyRule C_NearRule C_RingRule C_AskedRule C_TableRule C_VoteRule))
  (t_ChainRule_widest:Mt P w K mg base CX0 C_ChainRule "widest" 5 ["self"] (ZDo K C_KeyRule C_NearRule C_RingRule C_AskedRule C_TableRule C_VoteRule C_ChainRule))
  (k_VoteRule:Kl P w K mg base CX0 "VoteRule" C_VoteRule 1 ["self","rules"] (ZB9 C_VoteRule))
  (k_ChainRule:Kl P w K mg base CX0 "ChainRule" C_ChainRule 1 ["self","rules"] (ZB9 C_ChainRule))
 :FnOk P w K mg base CX0 6 f fd ["_law_script"] (ZDm K [(cc_teller,Pt_teller)]):=by
 refine F.ok sc_law (fun vs H Q E h=>?_) (fun cdv A outer s H vs Q E hr h=>?_)
 .obtain ⟨a,ns,rfl,hS,h63,hT,q⟩:=h
  rfl
 obtain ⟨a,ns,rfl,hS,h63,hT,q⟩:=h
 refine ⟨_,(ZAD (ZBI (i:=1) sc_law.nd rfl (by walk_at "o") (ZAm ZCT ZAF (ZAm ZBP (ZBM f_cell_at (hr.mono (by decide)) rfl ZAR (ZAA (pv 0) (ZAA ZAF ZAG))) ZAF)))
  (ZAD (ZBI (i:=2) sc_law.nd rfl (by walk_at "o") (ZAm ZBP (ZAm ZBf (ZBM f_cell_at (hr.mono (by decide)) rfl ZAR (ZAA (pv 0) (ZAA ZAF ZAG))) ZAF) ZAF))
  (ZBS
  (ZAD (ZBI (i:=3) sc_law.nd rfl (by walk_at "o") (ZCu ZAG))
  (ZAD (ZB7 PassesOwn.never rfl (ZCJ rfl T.b_range (ZAA (ZAm ZCT ZAF (ZAm ZBP (ZBM f_cell_at (hr.mono (by decide)) rfl ZAR (ZAA (pv 0) (ZAA ZAF ZAG))) ZAF)) ZAG)) (ZAW (i:=4) sc_law.nd rfl (by walk_at "o"))
  (ZAE (ZBX (ZD0 PySem.F.plainAttrs_list PySem.F.slot_list_append PySem.F.type_list_append mt_append (pv 3) (ZAA (ZBM f_plan_by (hr.mono (by decide)) rfl ZAR (ZAA (ZBM f_cell_at (hr.mono (by decide)) rfl ZAR (ZAA (pv 0) (ZAA (ZAm ZCT ZAF (pv 4)) ZAG))) (ZAA (pv 1) ZAG))) ZAG)))))
  (ZBS
  (ZAD (ZBH (i:=5) sc_law.nd rfl (Or.inl rfl) rfl (k:=1) (js:=[]) (N':=["_law_plan"]) (by rfl) (ZAl (pv 3)) (fun _ _ _ _=>ZAW (i:=0) (show (["_law_plan"]:List Str).Nodup by decide +kernel) rfl (by walk_at "o")) (fun _ _ _ _=>ZAz) (fun _ _ _ _=>(ZBM f_rule_of (hr.mono (by decide)) rfl ZAR (ZAA (pv 0) ZAG))))
  (ZBS
  (ZAD (ZA7 (ZAV (op_inN hr.units) pe_non (pv 5) rfl)
  (ZAE (ZAQ ZCV)) ZAU)
  (ZBS
  (ZAD (ZA7 (ZAV ZC6 (pv 2) ZAF (ZAS _))
  (ZAE (ZBI (i:=5) sc_law.nd rfl (by walk_at "o") (ZCu (ZAA (ZAT ZBE (pv 5) ZAF (fun _ _=>rfl)) (ZAA (ZDE k_VoteRule (hr.mono (by decide)) rfl ZAR (ZAA (ZCK ZCi (pv 5) (ZCA ZAF) ZDM) ZAG)) ZAG))))) ZAU)
  (ZBS
  (ZAD (ZA7 (ZAV ZBW (pv 2) ZAF (ZAS _))
  (ZAE (ZBX (ZDF PySem.F.plainAttrs_list PySem.F.slot_list_reverse PySem.F.type_list_reverse mt_reverse (pv 5)))) ZAU)
  (ZBS
  (ZAD (ZBI (i:=6) sc_law.nd rfl (by walk_at "o") (ZBV ZBJ rfl T.b_list PyProof.Rows.boot_list (ZAA (pv 5) ZAG)))
  (ZBS
  (ZAD (ZA7 (ZAV ZBW (pv 2) ZAF (ZAS _))
  (ZAE (ZBI (i:=7) sc_law.nd rfl (by walk_at "o") (ZDE k_VoteRule (hr.mono (by decide)) rfl ZAR (ZAA (pv 6) ZAG))))
  (ZAE (ZBI (i:=7) sc_law.nd rfl (by walk_at "o") (ZDE k_ChainRule (hr.mono (by decide)) rfl ZAR (ZAA (pv 6) ZAG)))))
  (ZBS
  (ZAD (ZA7 (ZAV (op_neS hr.units) (pv 6) (pv 5) (ZAS _))
  (ZAE (ZAQ ZCV)) ZAU)
  (ZBS
  (ZAD (ZBX (ZDF PySem.F.plainAttrs_list PySem.F.slot_list_clear PySem.F.type_list_clear ZC7 (pv 6)))
  (ZBS
  (ZAD (ZBH (i:=8) sc_law.nd rfl (Or.inl rfl) rfl (k:=1) (js:=[1]) (N':=["_law_cell","_law_long"]) (by rfl) (ZAl (ZCK ZCi (pv 0) (ZCA ZAF) (ZCA ZAF))) (fun _ _ _ _=>ZAW (i:=0) (show (["_law_cell","_law_long"]:List Str).Nodup by decide +kernel) rfl (by walk_at "o")) (fun _ _ _ _=>ZAz) (fun _ _ _ _=>(ZBV (call_tuple_ofK K) rfl T.b_tuple PyProof.Rows.boot_tuple (ZAA (ZBM f_figures (hr.mono (by decide)) rfl ZAR (ZAA (pv 0) (ZAA ZAF (ZAA (pv 1) ZAG)))) ZAG))))
  (ZBS
  (ZAD (ZB7 PassesOwn.never rfl (ZCJ rfl T.b_range (ZAA (ZBT ZBK rfl T.b_len PySem.boot_len (ZAA (pv 8) ZAG)) ZAG)) (ZAW (i:=4) sc_law.nd rfl (by walk_at "o"))
  (ZAE (ZB7 PassesOwn.never rfl (ZAl (ZCu (ZAA (ZBw (ZAA (ZAT ZBE (pv 8) (pv 4) (fun _ _=>rfl)) (ZAA (ZAT ZBE (pv 8) (ZAm ZDV (pv 4) ZAF) (fun _ _=>rfl)) ZAG))) (ZAA (ZBw (ZAA (ZAT ZBE (pv 8) (pv 4) (fun _ _=>rfl)) (ZAA (ZAT ZBE (pv 8) (pv 4) (fun _ _=>rfl)) ZAG))) (ZAA (ZBw (ZAA (ZAT ZBE (pv 8) (pv 4) (fun _ _=>rfl)) (ZAA (ZAT ZBE (pv 8) ZAF (fun _ _=>rfl)) ZAG))) ZAG))))) (ZCt (n:=2) rfl (ZA6 (ZAW (i:=9) sc_law.nd rfl (by walk_at "o")) (ZA6 (ZAW (i:=10) sc_law.nd rfl (by walk_at "o")) ZCB)))
  (ZAE (ZA7 (PW.pt (ZDz (ZDq (ZB6 (ZBM f_told (hr.mono (by decide)) rfl ZAR (ZAA (pv 7) (ZAA (pv 3) (ZAA (pv 2) (ZAA (pv 9) (ZAA (pv 10) ZAG)))))))) (ZDU (ZDq (ZB6 (ZBM f_told (hr.mono (by decide)) rfl ZAR (ZAA (pv 7) (ZAA (pv 3) (ZAA (pv 2) (ZAA (pv 10) (ZAA (pv 9) ZAG)))))))))))
  (ZAE (ZAQ ZCV)) ZAU)))))
  (ZBS
  (ZAD (ZBI (i:=11) sc_law.nd rfl (by walk_at "o") (ZAN (ZBn t_VoteRule_widest (hr.mono (by decide)) ZAR (pv 7)) (ZBn t_ChainRule_widest (hr.mono (by decide)) ZAR (pv 7))))
  (ZBS
  (ZAD (ZA7 (PW.pt (ZDz (ZDq (ZB6 (ZBT ZCF rfl T.b_isinstance PyProof.Rows.boot_isinstance (ZAA (pv 11) (ZAA (ZDr rfl T.b_int PyProof.Rows.boot_int) ZAG))))) (ZDU (ZB6 (ZBT ZCF rfl T.b_isinstance PyProof.Rows.boot_isinstance (ZAA (pv 11) (ZAA (ZDr rfl T.b_bool PyProof.Rows.boot_bool) ZAG)))))))
  (ZAE (ZAQ ZCV)) ZAU)
  (ZAE (ZAQ (ZBB ZBW (pv 11) (ZBT (call_maxL rfl) rfl T.b_max PyProof.Rows.boot_max (ZAA (ZBr rfl (k:=1) (js:=[]) (N':=["_law_plan"]) (by rfl) (ZAl (pv 3)) (fun _ _ _ _=>ZAW (i:=0) (show (["_law_plan"]:List Str).Nodup by decide +kernel) rfl (by walk_at "o")) (fun _ _ _ _=>ZAz) (fun _ _ _ _=>(ZBM f_widest (hr.mono (by decide)) rfl ZAR (ZAA (pv 0) ZAG)))) ZAG)) (ZAS _))))))))))))))))))))))))))))))))),?_⟩
 walk_at "rd"
 have hPt:H Pt_teller=some (.tbl #[]):=hT _ yAK
 refine ⟨a,ns,0,rfl,hS,by decide,?_⟩
 walk_at "rd"
 refine ⟨by decide,?_⟩
 refine ⟨a,ns,0,rfl,hS,by decide,?_⟩
 walk_at "rd"
 refine ⟨⟨by decide,by decide⟩,by decide,?_⟩
 have l0:=Int.emod_nonneg (cellOf ns 0) (show (5:Int)≠0 by decide)
 have l1:=Int.emod_lt_of_pos (cellOf ns 0) (show (0:Int) < 5 by decide)
 obtain ⟨L,eL,hL1,hL5⟩:∃ n:Nat,1+cellOf ns 0 % 5=n /\ 1 <= n /\ n <= 5:=⟨(1+cellOf ns 0 % 5).toNat,by omega,by omega,by omega⟩
 rw [eL]
 have w0:=Int.emod_nonneg (cellOf ns 0 / 5) (show (4:Int)≠0 by decide)
 have w1:=Int.emod_lt_of_pos (cellOf ns 0 / 5) (show (0:Int) < 4 by decide)
 obtain ⟨w',ew,hw⟩:∃ n:Nat,cellOf ns 0 / 5 % 4=n /\ n < 4:=⟨(cellOf ns 0 / 5 % 4).toNat,by omega,by omega⟩
 rw [ew]
 clear l0 l1 w0 w1 eL ew
 refine ZBp ?_
 walk_at "rd"
 refine ⟨ZA0 (by decide),fun p0 hp0=>?_⟩
 refine ⟨a,ns,1,rfl,(ZAK hp0 _).seq hS,by decide,?_⟩
 walk_at "rd"
 refine ⟨by decide,?_⟩
 have n0:=Int.emod_nonneg (cellOf ns 1) (show (5:Int)≠0 by decide)
 have n1:=Int.emod_lt_of_pos (cellOf ns 1) (show (0:Int) < 5 by decide)
 obtain ⟨n,en,hn1,hn5⟩:∃ n:Nat,1+cellOf ns 1 % 5=n /\ 1 <= n /\ n <= 5:=⟨(1+cellOf ns 1 % 5).toNat,by omega,by omega,by omega⟩
 rw [en]
 clear n0 n1 en
 refine ZC8 (by omega) (ZDS (fun i σ X=>∃ (xs:List V) (ps:List Pn) (v:Option V),σ=[some (.ref a),some (.int L),some (.int w'),some (.ref p0),v,none,none,none,none,none,none,none] /\ Same H X /\ X p0=some (.lst xs) /\ (∀ u,Pls K L (upd X p0 (.lst u)) xs ps) /\ (∀ p∈ps,p.Ok) /\ ps.length=i) ⟨[],[],_,rfl,ZAK hp0 _,ZAC,(fun u=>⟨rfl,fun i p h=>by simp at h⟩),(fun p h=>by cases h),rfl⟩ (fun i σ X hi z=>?_) fun σ X z=>?_)
 .obtain ⟨xs,ps,v,rfl,sX,hX,hP,ok,hl⟩:=z
  walk_at "rd"
  have hxl:=(hP []).len
  refine ⟨.inl ⟨rfl,_,SqL.of hX⟩,a,ns,_,rfl,sX.seq hS,by omega,?_⟩
  refine ⟨_,L,rfl,hL1,hL5,fun t X2 p s2 hp hup okp=>?_⟩
  refine ⟨p0,xs,_,rfl,rfl,s2 _ _ hX,ZCh (by omega),xs++[.ref t],ps++[p],_,rfl,(sX.trans s2).upd hp0,ZAC,fun u=>?_,fun q hq=>?_,by rw [yAF,hl];rfl⟩
  .rw [ZCx]
   have e:SameB (upd X p0 (.lst u)) (upd X2 p0 (.lst u)):=fun b o _ h=>by
    by_cases z:b=p0
    .subst z;rw [ZAC] at h ⊢;exact h
    .rw [ZAJ z] at h ⊢;exact s2 _ _ h
   exact ((hP u).mono e).snoc (hup p0 xs u hX)
  .rcases yBF.mp hq with z | z
   .exact ok q z
   .rw [yBM.mp z];exact okp
 obtain ⟨xs,ps,v,rfl,s1,h1,hP,ok,hpl⟩:=z
 rw [Int.toNat_natCast] at hpl
 have eX:upd X p0 (.lst xs)=X:=by
  funext b
  by_cases z:b=p0
  .subst z
   rw [ZAC,h1]
  .rw [ZAJ z]
 have hP1:Pls K L X xs ps:=by
  have:=hP xs
  rw [eX] at this
  exact this
 clear eX
 clear hP
 have hxl:=hP1.len
 have hp1:1 <= ps.length:=by omega
 have hp5:ps.length <= 5:=by omega
 walk_at "rd"
 refine ZBp ?_
 walk_at "rd"
 refine ZA2 (SqL.of h1) (by omega) (fun i ys σ Y=>∃ v,σ=[v] /\ SameB X Y /\ TabT Y Pt_teller /\ Pns K C_KeyRule C_NearRule C_RingRule C_AskedRule C_TableRule L Y ys (ps.take i)) ⟨_,rfl,fun _ _ _ h=>h,.inl (s1 _ _ hPt),⟨rfl,fun i p h=>by simp at h⟩⟩ (fun i ys σ Y _ z=>?_) (fun i ys u σ Y hi hu z=>?_) fun ys σ Y z p5 hp5'=>?_
 .obtain ⟨v,_,sY,_,hN⟩:=z
  exact ⟨sY.seq (SqL.of h1),by rw [hN.len,yAS];omega⟩
 .obtain ⟨v,rfl,sY,hTb,hN⟩:=z
  obtain ⟨p,t,hp,rfl,ht⟩:=(hP1.mono sY).at hu
  walk_at "rd"
  refine ⟨t,L,p,rfl,ht,ok p (yAH hp),hL1,hL5,hTb,fun r Z sZ hTZ hr=>.of hi ⟨_,rfl,sY.trans sZ,hTZ,?_⟩⟩
  rw [yBA,hp]
  exact (hN.mono sZ).snoc hr
 obtain ⟨v,rfl,sY,hTb,hN⟩:=z
 rw [hxl,yAW (yAA _)] at hN
 have hSY:SqL K Y a (ns.map V.int):=sY.seq (s1.seq hS)
 have h1Y:=sY _ _ (fun _ z=>by cases z) h1
 have hPY:=hP1.mono sY
 clear hTb hP1 h1 sY s1
 obtain ⟨Z,eZ,sZ,hZ⟩:=newH hp5' (.lst ys)
 rw [eZ]
 refine ZBp ?_
 walk_at "rd"
 refine ⟨p5,ys,rfl,rfl,SqL.of hZ,fun v hv=>?_,?_⟩
 .obtain ⟨i,hi,e⟩:=List.getElem_of_mem hv
  obtain ⟨p,r,_,e2,hr⟩:=hN.at (by rw [yAC hi,e])
  obtain ⟨C,dx,fs,f1,f2⟩:=pn_eqc T.e_KeyRule T.e_NearRule T.e_RingRule T.e_AskedRule T.e_TableRule (hr.mono (ZA8 sZ))
  exact ⟨r,C,dx,fs,e2,f1,f2⟩
 walk_at "rd"
 refine ZBp ?_
 walk_at "rd"
 apply once2 (fun (p5:Addr) (Y':Hp)=>∃ Y0 zs,Same Y Y0 /\ Y0 p5=none /\ Y'=upd Y0 p5 (.lst zs) /\ RS K C_KeyRule C_NearRule C_RingRule C_AskedRule C_TableRule C_VoteRule L (if w'=3 then 2 else w') Y0 zs ps)
 .intro tailp
  by_cases e1:(1:Int) < (w':Int)
  .rw [if_pos e1]
   obtain ⟨p,hp⟩:∃ p,ps.take 1=[p]:=by
    cases ps with
    | nil=>cases hp1
    | cons p r=>exact ⟨p,rfl⟩
   have hpp:ps[0]?=some p:=by
    cases ps with
    | nil=>cases hp1
    | cons p' r=>cases hp;rfl
   obtain ⟨r0,hr0,hr1⟩:=hN.get 0 p hpp
   refine ZBc (SqL.of hZ) (ZAI (by decide) hr0) ?_
   refine ZDC (SqL.of hZ) fun p6 hp6=>?_
   rw [cut1]
   intro x dx hx hdx _
   refine ZD2 ZAC hx hdx fun l H' s' hl nl hl' hI=>⟨ZA0 (by decide),fun p7 hp7=>?_⟩
   have S6:=sZ.trans ((ZAK hp6 _).trans s')
   obtain ⟨Y',eY',sY',hY'⟩:=newH hp7 (.lst [V.ref r0,V.ref x])
   rw [eY']
   refine tailp p7 Y' ⟨H',_,S6,hp7,eY'.symm,?_⟩
   rw [show (if w'=3 then 2 else w')=2 by split <;> omega]
   exact .inr ⟨by decide,Prs.two (.inl ⟨rfl,p,hp,hr1.mono (ZA8 S6)⟩) (.inr ⟨rfl,l,_,hI,hl',(hN.drop 1).mono (ZA8 S6)⟩)⟩
  .rw [if_neg e1]
   refine tailp p5 Z ⟨Y,ys,.refl _,hp5',eZ.symm,?_⟩
   rw [if_neg (show ¬ w'=3 by omega)]
   by_cases e0:w'=0
   .exact .inl ⟨e0,hN⟩
   .refine .inr ⟨e0,?_⟩
    unfold prW
    rw [if_pos (show w'=1 by omega)]
    exact hN.prs
 clear hZ sZ eZ hN hp5'
 rintro p5 Y' ⟨Y0,zs,sY0,hp5',eY',hRS⟩
 refine ZBp ?_
 walk_at "rd"
 apply once1 (fun (Y':Hp)=>∃ Y0 zs,Same Y Y0 /\ Y0 p5=none /\ Y'=upd Y0 p5 (.lst zs) /\ RS K C_KeyRule C_NearRule C_RingRule C_AskedRule C_TableRule C_VoteRule L w' Y0 zs ps)
 .intro tailp
  by_cases e3:(w':Int)=3
  .rw [if_pos e3]
   rw [if_pos (show w'=3 by omega)] at hRS
   have g:Y' p5=some (.lst zs):=by rw [eY',ZAC]
   refine ⟨.inl ⟨rfl,_,SqL.of g⟩,p5,zs,rfl,rfl,g,?_⟩
   obtain ⟨Y2,eY2⟩:∃ Y2,upd Y' p5 (.lst zs.reverse)=Y2:=⟨_,rfl⟩
   rw [eY2]
   refine tailp Y2 ⟨Y0,zs.reverse,sY0,hp5',by rw [<- eY2,eY',ZCx],?_⟩
   rw [show w'=3 by omega]
   exact hRS.rev hp1
  .rw [if_neg e3]
   rw [if_neg (show ¬ w'=3 by omega)] at hRS
   exact tailp Y' ⟨Y0,zs,sY0,hp5',eY',hRS⟩
 clear hRS eY' hp5' sY0
 rintro Y1 ⟨Y0,zs,sY0,hp5',eY1,hRS⟩
 have s01:Same Y0 Y1:=by rw [eY1];exact ZAK hp5' _
 have g5:Y1 p5=some (.lst zs):=by rw [eY1,ZAC]
 have SY1:=sY0.trans s01
 have hRS1:=hRS.mono (ZA8 s01)
 clear hRS eY1 s01 sY0 hp5'
 refine ZBp ?_
 walk_at "rd"
 refine ⟨p5,zs,rfl,.inl (SqL.of g5),fun p6 hp6=>?_⟩
 obtain ⟨Y2,eY2,s2,g6⟩:=newH hp6 (.lst zs)
 rw [eY2];clear eY2
 refine ZBp ?_
 walk_at "rd"
 apply once2 (fun (x:Addr) (Z:Hp)=>Same Y2 Z /\ ∀ u,RuAt K C_KeyRule C_NearRule C_RingRule C_AskedRule C_TableRule C_VoteRule C_ChainRule L w' (upd Z p6 (.lst u)) x ps)
 .intro tailp
  have kp:∀ {x l C:Addr} {Z:Hp} {u:List V},Same Y2 Z->Y2 x=none->Y2 l=none->Ins Z x C (fV l)->Z l=some (.lst zs)->Ins (upd Z p6 (.lst u)) x C (fV l) /\ upd Z p6 (.lst u) l=some (.lst zs) /\ Same Y1 (upd Z p6 (.lst u)):=fun {x l C Z u} s hx hl hI hz=>by
   obtain ⟨dx2,fs2,i1,i2,i3⟩:=hI.ex
   refine ⟨⟨dx2,fs2,by rw [ZAJ (fun z=>by rw [z,g6] at hx;cases hx)];exact i1,i2,i3⟩,by rw [ZAJ (fun z=>by rw [z,g6] at hl;cases hl)];exact hz,(s2.trans s).upd hp6⟩
  by_cases e0:(w':Int)=0
  .rw [if_pos e0]
   intro x dx hx hdx _
   refine ZD2 g6 hx hdx fun l Z s' hl nl hl' hI=>?_
   refine tailp x Z ⟨s',fun u=>.inl ⟨by omega,?_⟩⟩
   obtain ⟨k1,k2,k3⟩:=kp (u:=u) s' hx hl hI hl'
   rcases hRS1 with ⟨_,h⟩ | ⟨h,_⟩
   .exact ⟨l,zs,k1,k2,h.mono (ZA8 k3)⟩
   .exact absurd (show w'=0 by omega) h
  .rw [if_neg e0]
   intro x dx hx hdx _
   refine ZD2 g6 hx hdx fun l Z s' hl nl hl' hI=>?_
   refine tailp x Z ⟨s',fun u=>.inr ⟨by omega,?_⟩⟩
   obtain ⟨k1,k2,k3⟩:=kp (u:=u) s' hx hl hI hl'
   rcases hRS1 with ⟨h,_⟩ | ⟨_,h⟩
   .exact absurd h (by omega)
   .exact ⟨l,zs,k1,k2,h.mono (ZA8 k3)⟩
 rintro ru Z ⟨sZ,hRu⟩
 refine ZBp ?_
 walk_at "rd"
 refine ⟨p6,p5,zs,rfl,rfl,SqL.of (sZ _ _ g6),SqL.of (sZ _ _ (s2 _ _ g5)),hRS1.refs,?_⟩
 walk_at "rd"
 refine ZBp ?_
 walk_at "rd"
 refine ⟨.inl ⟨rfl,_,SqL.of (sZ _ _ g6)⟩,p6,zs,rfl,rfl,sZ _ _ g6,?_⟩
 have SW:Same Y (upd Z p6 (.lst [])):=(SY1.trans (s2.trans sZ)).upd (SY1.free hp6)
 have hRuW:=hRu []
 generalize upd Z p6 (.lst [])=W at SW hRuW ⊢
 have hSW:=SW.seq hSY
 have h1W:=SW _ _ h1Y
 have hPW:=hPY.mono (ZA8 SW)
 clear hRu hRS1 g5 g6 sZ s2 SY1 hp6 hSY h1Y hPY SW
 refine ZBp ?_
 walk_at "rd"
 refine ZDC hSW fun p7 hp7=>?_
 rw [cutV_ints]
 have hzl:((ns.drop (HT.sIx ns.length 0 (some 7))).take (HT.sIx ns.length ns.length (some 31)-HT.sIx ns.length 0 (some 7))).length <= 63:=yAD (by rw [yAS,yBB];exact yAD (Nat.min_le_right _ _) (Nat.sub_le _ _)) h63
 generalize (ns.drop (HT.sIx ns.length 0 (some 7))).take (HT.sIx ns.length ns.length (some 31)-HT.sIx ns.length 0 (some 7))=cs at hzl ⊢
 obtain ⟨W1,eW1,sW1,g7⟩:=newH hp7 (.lst (cs.map V.int))
 rw [eW1];clear eW1
 refine ZA2 (SqL.of g7) (by rw [yAB];omega) (fun i ys σ X=>∃ v,σ=[v,some (.int L)] /\ Same W1 X /\ ∃ ts,Tgs X L ys ts /\ ts.length=i) ⟨_,rfl,.refl _,[],⟨rfl,fun i p h=>by simp at h,fun p h=>by cases h⟩,rfl⟩ (fun i ys σ X _ z=>?_) (fun i ys u σ X hi hu z=>?_) fun th σ X z p8 hp8=>?_
 .obtain ⟨v,_,sX,ts,hts,e⟩:=z
  exact ⟨SqL.of (sX _ _ g7),by rw [hts.len,e];exact yAA _⟩
 .obtain ⟨v,rfl,sX,ts,hts,e⟩:=z
  obtain ⟨c,hc,rfl⟩:=get_ints hu
  walk_at "rd"
  refine ⟨c,4,L,rfl,by decide,by omega,by omega,fun l X2 fs s2 _ hl hfl hfb=>?_⟩
  refine ⟨l,_,rfl,.inl ⟨SqL.of hl,fun t ht=>.of hi ⟨_,rfl,(sX.trans s2).new ht,ts++[fs],(hts.mono (s2.trans (ZAK ht _))).snoc ZAC (tg_of hfl hL5 hfb),by rw [yAF,e];rfl⟩⟩⟩
 obtain ⟨v,rfl,sX,ts,hts,e⟩:=z
 obtain ⟨W2,eW2,sW2,g8⟩:=newH hp8 (.lst th)
 rw [eW2];clear eW2
 have SW:=sW1.trans (sX.trans sW2)
 have hts2:=hts.mono sW2
 have hthl:th.length <= 63:=by rw [hts.len,e,yAB];exact hzl
 have hRu2:RuAt K C_KeyRule C_NearRule C_RingRule C_AskedRule C_TableRule C_VoteRule C_ChainRule L w' W2 ru ps:=by
  rcases hRuW with ⟨h0,h⟩ | ⟨h0,h⟩
  .exact .inl ⟨h0,h.mono (ZA8 SW)⟩
  .exact .inr ⟨h0,h.mono (ZA8 SW)⟩
 have h12:=SW _ _ h1W
 have hP2:=hPW.mono (ZA8 SW)
 clear hRuW h1W hPW SW hts sX sW1 sW2 g7 hp7 hp8 hSW e
 refine ZBp ?_
 walk_at "rd"
 refine ⟨p8,th,rfl,.inl (SqL.of g8),?_⟩
 have hRuM:∀ {X:Hp},Same W2 X->RuAt K C_KeyRule C_NearRule C_RingRule C_AskedRule C_TableRule C_VoteRule C_ChainRule L w' X ru ps:=fun {X} s=>by
  rcases hRu2 with ⟨h0,h⟩ | ⟨h0,h⟩
  .exact .inl ⟨h0,h.mono (ZA8 s)⟩
  .exact .inr ⟨h0,h.mono (ZA8 s)⟩
 refine ZC8 (by omega) (ZDS (fun i σ X=>∃ (v4 v9 v10:Option V),σ=[some (.ref a),some (.int L),some (.int w'),some (.ref p0),v4,some (.ref p5),some (.ref p6),some (.ref ru),some (.ref p8),v9,v10,none] /\ Same W2 X) ⟨_,_,_,rfl,.refl _⟩ (fun i σ X hi z=>?_) fun σ X z=>?_)
 .obtain ⟨v4,v9,v10,rfl,sX⟩:=z
  have hin:i < th.length:=by omega
  walk_at "rd"
  rw [show (0+(i:Int))=i by omega]
  obtain ⟨t1,n1,a1,b1,c1⟩:=hts2.at hin
  obtain ⟨j,hj,ej⟩:=atI_back (xs:=th) hin
  obtain ⟨t2,n2,a2,b2,c2⟩:=hts2.at hj
  obtain ⟨t3,n3,a3,b3,c3⟩:=hts2.at (show 0 < th.length by omega)
  have g1:=sX _ _ g8
  have i1:atI th ((i:Nat):Int)=some (.ref t1):=ZAI (by omega) (by rw [Int.toNat_natCast];exact a1)
  have i2:atI th ((i:Int)-1)=some (.ref t2):=ej.trans a2
  have i3:atI th 0=some (.ref t3):=ZAI (by decide) a3
  refine ZBc (SqL.of g1) i1 (ZBc (SqL.of g1) i2 ⟨ZA0 (by decide),fun q1 hq1=>?_⟩)
  have s1:=ZAK hq1 (.tup [V.ref t1,V.ref t2])
  refine ZBc (SqL.of (s1 _ _ g1)) i1 (ZBc (SqL.of (s1 _ _ g1)) i1 ⟨ZA0 (by decide),fun q2 hq2=>?_⟩)
  have s2:=ZAK hq2 (.tup [V.ref t1,V.ref t1])
  have g3:=s2 _ _ (s1 _ _ g1)
  refine ZBc (SqL.of g3) i1 (ZBc (SqL.of g3) i3 ⟨ZA0 (by decide),fun q3 hq3=>⟨ZA0 (by decide),fun q4 hq4=>?_⟩⟩)
  have s3:=ZAK hq3 (.tup [V.ref t1,V.ref t3])
  have s4:=ZAK hq4 (.lst [V.ref q1,V.ref q2,V.ref q3])
  have g1q:=s4 _ _ (s3 _ _ (s2 _ _ (ZAC (H:=X) (a:=q1) (o:=.tup [V.ref t1,V.ref t2]))))
  have g2q:=s4 _ _ (s3 _ _ (ZAC (H:=upd X q1 (.tup [V.ref t1,V.ref t2])) (a:=q2) (o:=.tup [V.ref t1,V.ref t1])))
  have g3q:=s4 _ _ (ZAC (H:=upd (upd X q1 (.tup [V.ref t1,V.ref t2])) q2 (.tup [V.ref t1,V.ref t1])) (a:=q3) (o:=.tup [V.ref t1,V.ref t3]))
  have g4q:upd (upd (upd (upd X q1 (.tup [V.ref t1,V.ref t2])) q2 (.tup [V.ref t1,V.ref t1])) q3 (.tup [V.ref t1,V.ref t3])) q4 (.lst [V.ref q1,V.ref q2,V.ref q3]) q4=some (.lst [V.ref q1,V.ref q2,V.ref q3]):=ZAC
  have S4:=sX.trans (s1.trans (s2.trans (s3.trans s4)))
  generalize upd (upd (upd (upd X q1 (.tup [V.ref t1,V.ref t2])) q2 (.tup [V.ref t1,V.ref t1])) q3 (.tup [V.ref t1,V.ref t3])) q4 (.lst [V.ref q1,V.ref q2,V.ref q3])=X4 at g1q g2q g3q g4q S4 ⊢
  clear s1 s2 s3 s4 hq1 hq2 hq3 hq4 g1 g3 sX
  refine ZCE (SqL.of g4q) (fun k σ Y=>∃ (v9 v10:Option V),σ=[some (.ref a),some (.int L),some (.int w'),some (.ref p0),some (.int i),some (.ref p5),some (.ref p6),some (.ref ru),some (.ref p8),v9,v10,none] /\ Same X4 Y) ⟨_,_,rfl,.refl _⟩ (fun k σ Y _ z=>?_) (fun k u σ Y hu z=>?_) fun σ Y z=>?_
  .obtain ⟨_,_,_,e⟩:=z
   exact SqL.of (e _ _ g4q)
  .obtain ⟨v9,v10,rfl,sY⟩:=z
   have SY:=S4.trans sY
   obtain ⟨q',tx,ty,nx,ny,e1,e2,bx,bY,cx,cy⟩:∃ q' tx ty nx ny,u=.ref q' /\ Y q'=some (.tup [V.ref tx,V.ref ty]) /\ Y tx=some (.tup (nx.map V.int)) /\ Y ty=some (.tup (ny.map V.int)) /\ Tg L nx /\ Tg L ny:=by
    match k,hu with
    | 0,hu=>cases hu;exact ⟨q1,t1,t2,n1,n2,rfl,sY _ _ g1q,SY _ _ b1,SY _ _ b2,c1,c2⟩
    | 1,hu=>cases hu;exact ⟨q2,t1,t1,n1,n1,rfl,sY _ _ g2q,SY _ _ b1,SY _ _ b1,c1,c1⟩
    | 2,hu=>cases hu;exact ⟨q3,t1,t3,n1,n3,rfl,sY _ _ g3q,SY _ _ b1,SY _ _ b3,c1,c3⟩
    | k+3,hu=>simp at hu
   subst e1
   refine ZCD (SqT.of e2) rfl ?_
   walk_at "rd"
   refine ⟨ru,p0,tx,ty,w',L,xs,ps,nx,ny,rfl,hRuM SY,SY _ _ h12,hP2.mono (ZA8 SY),ok,hp1,hp5,hw,SqT.of bx,SqT.of bY,cx,cy,fun Y2 s2=>⟨_,rfl,?_⟩⟩
   rw [if_neg (by decide)]
   have SY2:=SY.trans s2
   refine ⟨ru,p0,ty,tx,w',L,xs,ps,ny,nx,rfl,hRuM SY2,SY2 _ _ h12,hP2.mono (ZA8 SY2),ok,hp1,hp5,hw,SqT.of (s2 _ _ bY),SqT.of (s2 _ _ bx),cy,cx,fun Y3 s3=>⟨_,rfl,?_⟩⟩
   rw [if_neg (by decide)]
   exact ⟨_,_,rfl,sY.trans (s2.trans s3)⟩
  .obtain ⟨v9,v10,rfl,sY⟩:=z
   exact ⟨_,_,_,rfl,S4.trans sY⟩
 obtain ⟨v4,v9,v10,rfl,sX⟩:=z
 walk_at "rd"
 refine ZBp ?_
 walk_at "rd"
 apply once1 (fun (Y:Hp)=>Same W2 Y)
 .intro tailp
  rcases hRuM sX with ⟨h0,hv⟩ | ⟨h0,hv⟩
  .refine .inl (VtAt.meth hv (.inr rfl) ⟨ru,L,ps,rfl,hv,ok,by omega,fun Y s=>?_⟩)
   exact tailp Y (sX.trans s)
  .obtain ⟨o1,o2⟩:=prW_ok (w:=w') ok hp1 hp5
   refine .inr (ChAt.meth hv (.inr rfl) ⟨ru,L,_,rfl,hv,o1,o2,fun Y s=>?_⟩)
   have e:wR (prW w' ps)=maxD (-1) (ps.map wB):=by
    cases ps with
    | nil=>cases hp1
    | cons p r=>exact wid_eq ok h0
   rw [e]
   exact tailp Y (sX.trans s)
 clear sX
 intro Y sY
 refine ZBp ?_
 walk_at "rd"
 refine inst_int ?_
 walk_at "rd"
 refine inst_int_bl T.kit_int_bool ?_
 walk_at "rd"
 have hl5:=ok
 refine ZA2 (SqL.of (sY _ _ h12)) (by omega) (fun i ys σ X=>∃ v,σ=[v] /\ Same Y X /\ ys=((ps.take i).map wB).map V.int) ⟨_,rfl,.refl _,rfl⟩ (fun i ys σ X _ z=>?_) (fun i ys u σ X hi hu z=>?_) fun ys σ X z p hp=>?_
 .obtain ⟨v,_,e,e2⟩:=z
  rw [e2,yAB,yAB,yAS]
  exact ⟨SqL.of (e _ _ (sY _ _ h12)),by omega⟩
 .obtain ⟨v,rfl,sX,rfl⟩:=z
  obtain ⟨p,t,hp,rfl,ht⟩:=(hP2.mono (ZA8 (sY.trans sX))).at hu
  walk_at "rd"
  refine ⟨t,L,p,rfl,ht,ok p (yAH hp),fun X2 s2=>.of hi ⟨_,rfl,sX.trans s2,?_⟩⟩
  rw [yBA,hp,yAJ,yAJ];rfl
 obtain ⟨v,rfl,sX,rfl⟩:=z
 rw [hxl,yAW (yAA _)]
 refine ⟨p,ps.map wB,rfl,SqL.of ZAC,(fun z=>by rw [List.map_eq_nil_iff] at z;rw [z] at hp1;cases hp1),fun M hM hA=>?_⟩
 walk_at "rd"
 rw [decide_eq_true (show maxD (-1) (ps.map wB)=M by
  cases hm:ps.map wB with
  | nil=>rw [hm] at hM;cases hM
  | cons x r=>
   rw [hm] at hM hA
   obtain ⟨m1,m2,m3⟩:=ZCL r x
   have e:maxD (-1) (x::r)=r.foldl (fun m y=>if m < y then y else m) x:=rfl
   rw [e]
   have h1:r.foldl (fun m y=>if m < y then y else m) x <= M:=by
    rcases m1 with z | z
    .rw [z];exact hA x yAK
    .exact hA _ (yAP _ z)
   have h2:M <= r.foldl (fun m y=>if m < y then y else m) x:=by
    rcases yAL.mp hM with z | z
    .rw [z];exact m2
    .exact m3 M z
   omega)]
 exact q _
end
theorem all_mk {l:PySem.W.OpenLaw} {w:World} {K:W.Frag} {h:Heap} {mg:Str->Option Value} {fa C_zaR f_zav C_zaQ f_zau f_zap f_zan C_zaP f_zar f_zah f_zai C_zaO f_zaq f_zaj f_zag C_zaL f_zam f_zaa f_zad C_zaN f_zas f_zaf f_zak C_zaM f_zal f_zab f_zae C_zaK f_zao f_zac f_zax f_zat f_zaw f_zay f_zaB f_zaz f_zaA f_zaJ f_zaF f_zaG f_zaC f_zaD f_zaH f_zaI f_zaE cc_zaE Pt_zaE:Addr} {t_GREATEST_AT t_UP t_DOWN:Tok} (X:K.In h) (G:h.Ns mainGlobals mg) (hfa:mg "law"=some (.ref fa))
  {od_zav an_zav:Option Addr} {sl_zav:Array (Option Value)} {oc_zav kV_zav dc_zav pm_zav cd_zav ct_zav:Value}
  {od_zau an_zau:Option Addr} {sl_zau:Array (Option Value)} {oc_zau kV_zau dc_zau pm_zau cd_zau ct_zau:Value}
  {od_zap an_zap:Option Addr} {sl_zap:Array (Option Value)} {oc_zap kV_zap dc_zap pm_zap cd_zap ct_zap:Value}
  {od_zan an_zan:Option Addr} {sl_zan:Array (Option Value)} {oc_zan kV_zan dc_zan pm_zan cd_zan ct_zan:Value}
  {od_zar an_zar:Option Addr} {sl_zar:Array (Option Value)} {oc_zar kV_zar dc_zar pm_zar cd_zar ct_zar:Value}
  {od_zah an_zah:Option Addr} {sl_zah:Array (Option Value)} {oc_zah kV_zah dc_zah pm_zah cd_zah ct_zah:Value}
  {od_zai an_zai:Option Addr} {sl_zai:Array (Option Value)} {oc_zai kV_zai dc_zai pm_zai cd_zai ct_zai:Value}
  {od_zaq an_zaq:Option Addr} {sl_zaq:Array (Option Value)} {oc_zaq kV_zaq dc_zaq pm_zaq cd_zaq ct_zaq:Value}
  {od_zaj an_zaj:Option Addr} {sl_zaj:Array (Option Value)} {oc_zaj kV_zaj dc_zaj pm_zaj cd_zaj ct_zaj:Value}
  {od_zag an_zag:Option Addr} {sl_zag:Array (Option Value)} {oc_zag kV_zag dc_zag pm_zag cd_zag ct_zag:Value}
  {od_zam an_zam:Option Addr} {sl_zam:Array (Option Value)} {oc_zam kV_zam dc_zam pm_zam cd_zam ct_zam:Value}
  {od_zaa an_zaa:Option Addr} {sl_zaa:Array (Option Value)} {oc_zaa kV_zaa dc_zaa pm_zaa cd_zaa ct_zaa:Value}
  {od_zad an_zad:Option Addr} {sl_zad:Array (Option Value)} {oc_zad kV_zad dc_zad pm_zad cd_zad ct_zad:Value}
  {od_zas an_zas:Option Addr} {sl_zas:Array (Option Value)} {oc_zas kV_zas dc_zas pm_zas cd_zas ct_zas:Value}
  {od_zaf an_zaf:Option Addr} {sl_zaf:Array (Option Value)} {oc_zaf kV_zaf dc_zaf pm_zaf cd_zaf ct_zaf:Value}
  {od_zak an_zak:Option Addr} {sl_zak:Array (Option Value)} {oc_zak kV_zak dc_zak pm_zak cd_zak ct_zak:Value}
  {od_zal an_zal:Option Addr} {sl_zal:Array (Option Value)} {oc_zal kV_zal dc_zal pm_zal cd_zal ct_zal:Value}
  {od_zab an_zab:Option Addr} {sl_zab:Array (Option Value)} {oc_zab kV_zab dc_zab pm_zab cd_zab ct_zab:Value}
  {od_zae an_zae:Option Addr} {sl_zae:Array (Option Value)} {oc_zae kV_zae dc_zae pm_zae cd_zae ct_zae:Value}
  {od_zao an_zao:Option Addr} {sl_zao:Array (Option Value)} {oc_zao kV_zao dc_zao pm_zao cd_zao ct_zao:Value}
  {od_zac an_zac:Option Addr} {sl_zac:Array (Option Value)} {oc_zac kV_zac dc_zac pm_zac cd_zac ct_zac:Value}
  {od_zax an_zax:Option Addr} {sl_zax:Array (Option Value)} {oc_zax kV_zax dc_zax pm_zax cd_zax ct_zax:Value}
  {od_zat an_zat:Option Addr} {sl_zat:Array (Option Value)} {oc_zat kV_zat dc_zat pm_zat cd_zat ct_zat:Value}
  {od_zaw an_zaw:Option Addr} {sl_zaw:Array (Option Value)} {oc_zaw kV_zaw dc_zaw pm_zaw cd_zaw ct_zaw:Value}
  {od_zay an_zay:Option Addr} {sl_zay:Array (Option Value)} {oc_zay kV_zay dc_zay pm_zay cd_zay ct_zay:Value}
  {od_zaB an_zaB:Option Addr} {sl_zaB:Array (Option Value)} {oc_zaB kV_zaB dc_zaB pm_zaB cd_zaB ct_zaB:Value}
  {od_zaz an_zaz:Option Addr} {sl_zaz:Array (Option Value)} {oc_zaz kV_zaz dc_zaz pm_zaz cd_zaz ct_zaz:Value}
  {od_zaA an_zaA:Option Addr} {sl_zaA:Array (Option Value)} {oc_zaA kV_zaA dc_zaA pm_zaA cd_zaA ct_zaA:Value}
  {od_zaJ an_zaJ:Option Addr} {sl_zaJ:Array (Option Value)} {oc_zaJ kV_zaJ dc_zaJ pm_zaJ cd_zaJ ct_zaJ:Value}
  {od_zaF an_zaF:Option Addr} {sl_zaF:Array (Option Value)} {oc_zaF kV_zaF dc_zaF pm_zaF cd_zaF ct_zaF:Value}
  {od_zaG an_zaG:Option Addr} {sl_zaG:Array (Option Value)} {oc_zaG kV_zaG dc_zaG pm_zaG cd_zaG ct_zaG:Value}
  {od_zaC an_zaC:Option Addr} {sl_zaC:Array (Option Value)} {oc_zaC kV_zaC dc_zaC pm_zaC cd_zaC ct_zaC:Value}
  {od_zaD an_zaD:Option Addr} {sl_zaD:Array (Option Value)} {oc_zaD kV_zaD dc_zaD pm_zaD cd_zaD ct_zaD:Value}
  {od_zaH an_zaH:Option Addr} {sl_zaH:Array (Option Value)} {oc_zaH kV_zaH dc_zaH pm_zaH cd_zaH ct_zaH:Value}
  {od_zaI an_zaI:Option Addr} {sl_zaI:Array (Option Value)} {oc_zaI kV_zaI dc_zaI pm_zaI cd_zaI ct_zaI:Value}
  {oc2_zaE:Value} {od2_zaE:Option Addr} {vs_zaE:Array Value} {sl2_zaE:Array (Option Value)}
  {od_zaE an_zaE:Option Addr} {sl_zaE:Array (Option Value)} {oc_zaE kV_zaE dc_zaE pm_zaE ct_zaE:Value}
  (a_zaR:W.nsIn K mainGlobals "Rule"=some (some (.ref C_zaR)))
  (pg_zaR:PySem.W.plainGet K C_zaR Str.empty=true)
  (hd_zaR:PySem.W.hasDictIn K C_zaR=true)
  (po_zaR:PySem.W.plainOver K C_zaR=true)
  (sa_zaR:W.findIn K (.ref C_zaR) "__setattr__"=some (some (.builtin "object.__setattr__")))
  (mk_zaR:PySem.W.makesIn K C_zaR=true)
  (kc_zaR:W.keepIn K (.ref C_zaR)=true)
  (in_zaR:W.findIn K (.ref C_zaR) "__init__"=some (some (.builtin "object.__init__")))
  (a_zav:W.findIn K (.ref C_zaR) "widest"=some (some (.ref f_zav)))
  (i_zav:PySem.W.isFn K (.ref f_zav)=true)
  (l_zav:K.lookup f_zav=some ⟨oc_zav,od_zav,.func (W.fnOf "widest" "Rule.widest" (ZAM ZA9) (ZAL ZA9) (ZAB ZA9) .none kV_zav dc_zav pm_zav an_zav cd_zav ct_zav),sl_zav⟩)
  (c_zav:W.codeIn K cd_zav "Rule.widest"=true)
  (k_zav:W.keepIn K (.ref f_zav)=true)
  (a_zaQ:W.nsIn K mainGlobals "KeyRule"=some (some (.ref C_zaQ)))
  (pg_zaQ:PySem.W.plainGet K C_zaQ Str.empty=true)
  (hd_zaQ:PySem.W.hasDictIn K C_zaQ=true)
  (po_zaQ:PySem.W.plainOver K C_zaQ=true)
  (sa_zaQ:W.findIn K (.ref C_zaQ) "__setattr__"=some (some (.builtin "object.__setattr__")))
  (mk_zaQ:PySem.W.makesIn K C_zaQ=true)
  (kc_zaQ:W.keepIn K (.ref C_zaQ)=true)
  (n_zaQ_columns:W.findIn K (.ref C_zaQ) "columns"=some none)
  (a_zau:W.findIn K (.ref C_zaQ) "__init__"=some (some (.ref f_zau)))
  (i_zau:PySem.W.isFn K (.ref f_zau)=true)
  (l_zau:K.lookup f_zau=some ⟨oc_zau,od_zau,.func (W.fnOf "__init__" "KeyRule.__init__" (ZAM ZA5) (ZAL ZA5) (ZAB ZA5) .none kV_zau dc_zau pm_zau an_zau cd_zau ct_zau),sl_zau⟩)
  (c_zau:W.codeIn K cd_zau "KeyRule.__init__"=true)
  (k_zau:W.keepIn K (.ref f_zau)=true)
  (a_zap:W.findIn K (.ref C_zaQ) "before"=some (some (.ref f_zap)))
  (i_zap:PySem.W.isFn K (.ref f_zap)=true)
  (l_zap:K.lookup f_zap=some ⟨oc_zap,od_zap,.func (W.fnOf "before" "KeyRule.before" (ZAM ZAr) (ZAL ZAr) (ZAB ZAr) .none kV_zap dc_zap pm_zap an_zap cd_zap ct_zap),sl_zap⟩)
  (c_zap:W.codeIn K cd_zap "KeyRule.before"=true)
  (k_zap:W.keepIn K (.ref f_zap)=true)
  (a_zan:W.findIn K (.ref C_zaQ) "widest"=some (some (.ref f_zan)))
  (i_zan:PySem.W.isFn K (.ref f_zan)=true)
  (l_zan:K.lookup f_zan=some ⟨oc_zan,od_zan,.func (W.fnOf "widest" "KeyRule.widest" (ZAM ZAq) (ZAL ZAq) (ZAB ZAq) .none kV_zan dc_zan pm_zan an_zan cd_zan ct_zan),sl_zan⟩)
  (c_zan:W.codeIn K cd_zan "KeyRule.widest"=true)
  (k_zan:W.keepIn K (.ref f_zan)=true)
  (a_zaP:W.nsIn K mainGlobals "NearRule"=some (some (.ref C_zaP)))
  (pg_zaP:PySem.W.plainGet K C_zaP Str.empty=true)
  (hd_zaP:PySem.W.hasDictIn K C_zaP=true)
  (po_zaP:PySem.W.plainOver K C_zaP=true)
  (sa_zaP:W.findIn K (.ref C_zaP) "__setattr__"=some (some (.builtin "object.__setattr__")))
  (mk_zaP:PySem.W.makesIn K C_zaP=true)
  (kc_zaP:W.keepIn K (.ref C_zaP)=true)
  (n_zaP_at:W.findIn K (.ref C_zaP) "at"=some none)
  (n_zaP_gap:W.findIn K (.ref C_zaP) "gap"=some none)
  (a_zar:W.findIn K (.ref C_zaP) "__init__"=some (some (.ref f_zar)))
  (i_zar:PySem.W.isFn K (.ref f_zar)=true)
  (l_zar:K.lookup f_zar=some ⟨oc_zar,od_zar,.func (W.fnOf "__init__" "NearRule.__init__" (ZAM ZAy) (ZAL ZAy) (ZAB ZAy) .none kV_zar dc_zar pm_zar an_zar cd_zar ct_zar),sl_zar⟩)
  (c_zar:W.codeIn K cd_zar "NearRule.__init__"=true)
  (k_zar:W.keepIn K (.ref f_zar)=true)
  (a_zah:W.findIn K (.ref C_zaP) "before"=some (some (.ref f_zah)))
  (i_zah:PySem.W.isFn K (.ref f_zah)=true)
  (l_zah:K.lookup f_zah=some ⟨oc_zah,od_zah,.func (W.fnOf "before" "NearRule.before" (ZAM ZAk) (ZAL ZAk) (ZAB ZAk) .none kV_zah dc_zah pm_zah an_zah cd_zah ct_zah),sl_zah⟩)
  (c_zah:W.codeIn K cd_zah "NearRule.before"=true)
  (k_zah:W.keepIn K (.ref f_zah)=true)
  (a_zai:W.findIn K (.ref C_zaP) "widest"=some (some (.ref f_zai)))
  (i_zai:PySem.W.isFn K (.ref f_zai)=true)
  (l_zai:K.lookup f_zai=some ⟨oc_zai,od_zai,.func (W.fnOf "widest" "NearRule.widest" (ZAM ZAj) (ZAL ZAj) (ZAB ZAj) .none kV_zai dc_zai pm_zai an_zai cd_zai ct_zai),sl_zai⟩)
  (c_zai:W.codeIn K cd_zai "NearRule.widest"=true)
  (k_zai:W.keepIn K (.ref f_zai)=true)
  (a_zaO:W.nsIn K mainGlobals "RingRule"=some (some (.ref C_zaO)))
  (pg_zaO:PySem.W.plainGet K C_zaO Str.empty=true)
  (hd_zaO:PySem.W.hasDictIn K C_zaO=true)
  (po_zaO:PySem.W.plainOver K C_zaO=true)
  (sa_zaO:W.findIn K (.ref C_zaO) "__setattr__"=some (some (.builtin "object.__setattr__")))
  (mk_zaO:PySem.W.makesIn K C_zaO=true)
  (kc_zaO:W.keepIn K (.ref C_zaO)=true)
  (n_zaO_at:W.findIn K (.ref C_zaO) "at"=some none)
  (n_zaO_size:W.findIn K (.ref C_zaO) "size"=some none)
  (a_zaq:W.findIn K (.ref C_zaO) "__init__"=some (some (.ref f_zaq)))
  (i_zaq:PySem.W.isFn K (.ref f_zaq)=true)
  (l_zaq:K.lookup f_zaq=some ⟨oc_zaq,od_zaq,.func (W.fnOf "__init__" "RingRule.__init__" (ZAM ZAx) (ZAL ZAx) (ZAB ZAx) .none kV_zaq dc_zaq pm_zaq an_zaq cd_zaq ct_zaq),sl_zaq⟩)
  (c_zaq:W.codeIn K cd_zaq "RingRule.__init__"=true)
  (k_zaq:W.keepIn K (.ref f_zaq)=true)
  (a_zaj:W.findIn K (.ref C_zaO) "before"=some (some (.ref f_zaj)))
  (i_zaj:PySem.W.isFn K (.ref f_zaj)=true)
  (l_zaj:K.lookup f_zaj=some ⟨oc_zaj,od_zaj,.func (W.fnOf "before" "RingRule.before" (ZAM ZAi) (ZAL ZAi) (ZAB ZAi) .none kV_zaj dc_zaj pm_zaj an_zaj cd_zaj ct_zaj),sl_zaj⟩)
  (c_zaj:W.codeIn K cd_zaj "RingRule.before"=true)
  (k_zaj:W.keepIn K (.ref f_zaj)=true)
  (a_zag:W.findIn K (.ref C_zaO) "widest"=some (some (.ref f_zag)))
  (i_zag:PySem.W.isFn K (.ref f_zag)=true)
  (l_zag:K.lookup f_zag=some ⟨oc_zag,od_zag,.func (W.fnOf "widest" "RingRule.widest" (ZAM ZAh) (ZAL ZAh) (ZAB ZAh) .none kV_zag dc_zag pm_zag an_zag cd_zag ct_zag),sl_zag⟩)
  (c_zag:W.codeIn K cd_zag "RingRule.widest"=true)
  (k_zag:W.keepIn K (.ref f_zag)=true)
  (a_zaL:W.nsIn K mainGlobals "TableRule"=some (some (.ref C_zaL)))
  (pg_zaL:PySem.W.plainGet K C_zaL Str.empty=true)
  (hd_zaL:PySem.W.hasDictIn K C_zaL=true)
  (po_zaL:PySem.W.plainOver K C_zaL=true)
  (sa_zaL:W.findIn K (.ref C_zaL) "__setattr__"=some (some (.builtin "object.__setattr__")))
  (mk_zaL:PySem.W.makesIn K C_zaL=true)
  (kc_zaL:W.keepIn K (.ref C_zaL)=true)
  (n_zaL_at:W.findIn K (.ref C_zaL) "at"=some none)
  (n_zaL_table:W.findIn K (.ref C_zaL) "table"=some none)
  (a_zam:W.findIn K (.ref C_zaL) "__init__"=some (some (.ref f_zam)))
  (i_zam:PySem.W.isFn K (.ref f_zam)=true)
  (l_zam:K.lookup f_zam=some ⟨oc_zam,od_zam,.func (W.fnOf "__init__" "TableRule.__init__" (ZAM ZAp) (ZAL ZAp) (ZAB ZAp) .none kV_zam dc_zam pm_zam an_zam cd_zam ct_zam),sl_zam⟩)
  (c_zam:W.codeIn K cd_zam "TableRule.__init__"=true)
  (k_zam:W.keepIn K (.ref f_zam)=true)
  (a_zaa:W.findIn K (.ref C_zaL) "before"=some (some (.ref f_zaa)))
  (i_zaa:PySem.W.isFn K (.ref f_zaa)=true)
  (l_zaa:K.lookup f_zaa=some ⟨oc_zaa,od_zaa,.func (W.fnOf "before" "TableRule.before" (ZAM ZAa) (ZAL ZAa) (ZAB ZAa) .none kV_zaa dc_zaa pm_zaa an_zaa cd_zaa ct_zaa),sl_zaa⟩)
  (c_zaa:W.codeIn K cd_zaa "TableRule.before"=true)
  (k_zaa:W.keepIn K (.ref f_zaa)=true)
  (a_zad:W.findIn K (.ref C_zaL) "widest"=some (some (.ref f_zad)))
  (i_zad:PySem.W.isFn K (.ref f_zad)=true)
  (l_zad:K.lookup f_zad=some ⟨oc_zad,od_zad,.func (W.fnOf "widest" "TableRule.widest" (ZAM ZAZ) (ZAL ZAZ) (ZAB ZAZ) .none kV_zad dc_zad pm_zad an_zad cd_zad ct_zad),sl_zad⟩)
  (c_zad:W.codeIn K cd_zad "TableRule.widest"=true)
  (k_zad:W.keepIn K (.ref f_zad)=true)
  (a_zaN:W.nsIn K mainGlobals "VoteRule"=some (some (.ref C_zaN)))
  (pg_zaN:PySem.W.plainGet K C_zaN Str.empty=true)
  (hd_zaN:PySem.W.hasDictIn K C_zaN=true)
  (po_zaN:PySem.W.plainOver K C_zaN=true)
  (sa_zaN:W.findIn K (.ref C_zaN) "__setattr__"=some (some (.builtin "object.__setattr__")))
  (mk_zaN:PySem.W.makesIn K C_zaN=true)
  (kc_zaN:W.keepIn K (.ref C_zaN)=true)
  (n_zaN_rules:W.findIn K (.ref C_zaN) "rules"=some none)
  (a_zas:W.findIn K (.ref C_zaN) "__init__"=some (some (.ref f_zas)))
  (i_zas:PySem.W.isFn K (.ref f_zas)=true)
  (l_zas:K.lookup f_zas=some ⟨oc_zas,od_zas,.func (W.fnOf "__init__" "VoteRule.__init__" (ZAM ZAw) (ZAL ZAw) (ZAB ZAw) .none kV_zas dc_zas pm_zas an_zas cd_zas ct_zas),sl_zas⟩)
  (c_zas:W.codeIn K cd_zas "VoteRule.__init__"=true)
  (k_zas:W.keepIn K (.ref f_zas)=true)
  (a_zaf:W.findIn K (.ref C_zaN) "before"=some (some (.ref f_zaf)))
  (i_zaf:PySem.W.isFn K (.ref f_zaf)=true)
  (l_zaf:K.lookup f_zaf=some ⟨oc_zaf,od_zaf,.func (W.fnOf "before" "VoteRule.before" (ZAM ZAg) (ZAL ZAg) (ZAB ZAg) .none kV_zaf dc_zaf pm_zaf an_zaf cd_zaf ct_zaf),sl_zaf⟩)
  (c_zaf:W.codeIn K cd_zaf "VoteRule.before"=true)
  (k_zaf:W.keepIn K (.ref f_zaf)=true)
  (a_zak:W.findIn K (.ref C_zaN) "widest"=some (some (.ref f_zak)))
  (i_zak:PySem.W.isFn K (.ref f_zak)=true)
  (l_zak:K.lookup f_zak=some ⟨oc_zak,od_zak,.func (W.fnOf "widest" "VoteRule.widest" (ZAM ZAf) (ZAL ZAf) (ZAB ZAf) .none kV_zak dc_zak pm_zak an_zak cd_zak ct_zak),sl_zak⟩)
  (c_zak:W.codeIn K cd_zak "VoteRule.widest"=true)
  (k_zak:W.keepIn K (.ref f_zak)=true)
  (a_zaM:W.nsIn K mainGlobals "ChainRule"=some (some (.ref C_zaM)))
  (pg_zaM:PySem.W.plainGet K C_zaM Str.empty=true)
  (hd_zaM:PySem.W.hasDictIn K C_zaM=true)
  (po_zaM:PySem.W.plainOver K C_zaM=true)
  (sa_zaM:W.findIn K (.ref C_zaM) "__setattr__"=some (some (.builtin "object.__setattr__")))
  (mk_zaM:PySem.W.makesIn K C_zaM=true)
  (kc_zaM:W.keepIn K (.ref C_zaM)=true)
  (n_zaM_rules:W.findIn K (.ref C_zaM) "rules"=some none)
  (a_zal:W.findIn K (.ref C_zaM) "__init__"=some (some (.ref f_zal)))
  (i_zal:PySem.W.isFn K (.ref f_zal)=true)
  (l_zal:K.lookup f_zal=some ⟨oc_zal,od_zal,.func (W.fnOf "__init__" "ChainRule.__init__" (ZAM ZAs) (ZAL ZAs) (ZAB ZAs) .none kV_zal dc_zal pm_zal an_zal cd_zal ct_zal),sl_zal⟩)
  (c_zal:W.codeIn K cd_zal "ChainRule.__init__"=true)
  (k_zal:W.keepIn K (.ref f_zal)=true)
  (a_zab:W.findIn K (.ref C_zaM) "before"=some (some (.ref f_zab)))
  (i_zab:PySem.W.isFn K (.ref f_zab)=true)
  (l_zab:K.lookup f_zab=some ⟨oc_zab,od_zab,.func (W.fnOf "before" "ChainRule.before" (ZAM ZAc) (ZAL ZAc) (ZAB ZAc) .none kV_zab dc_zab pm_zab an_zab cd_zab ct_zab),sl_zab⟩)
  (c_zab:W.codeIn K cd_zab "ChainRule.before"=true)
  (k_zab:W.keepIn K (.ref f_zab)=true)
  (a_zae:W.findIn K (.ref C_zaM) "widest"=some (some (.ref f_zae)))
  (i_zae:PySem.W.isFn K (.ref f_zae)=true)
  (l_zae:K.lookup f_zae=some ⟨oc_zae,od_zae,.func (W.fnOf "widest" "ChainRule.widest" (ZAM ZAb) (ZAL ZAb) (ZAB ZAb) .none kV_zae dc_zae pm_zae an_zae cd_zae ct_zae),sl_zae⟩)
  (c_zae:W.codeIn K cd_zae "ChainRule.widest"=true)
  (k_zae:W.keepIn K (.ref f_zae)=true)
  (a_zaK:W.nsIn K mainGlobals "AskedRule"=some (some (.ref C_zaK)))
  (pg_zaK:PySem.W.plainGet K C_zaK Str.empty=true)
  (hd_zaK:PySem.W.hasDictIn K C_zaK=true)
  (po_zaK:PySem.W.plainOver K C_zaK=true)
  (sa_zaK:W.findIn K (.ref C_zaK) "__setattr__"=some (some (.builtin "object.__setattr__")))
  (mk_zaK:PySem.W.makesIn K C_zaK=true)
  (kc_zaK:W.keepIn K (.ref C_zaK)=true)
  (n_zaK_teller:W.findIn K (.ref C_zaK) "teller"=some none)
  (a_zao:W.findIn K (.ref C_zaK) "__init__"=some (some (.ref f_zao)))
  (i_zao:PySem.W.isFn K (.ref f_zao)=true)
  (l_zao:K.lookup f_zao=some ⟨oc_zao,od_zao,.func (W.fnOf "__init__" "AskedRule.__init__" (ZAM ZAt) (ZAL ZAt) (ZAB ZAt) .none kV_zao dc_zao pm_zao an_zao cd_zao ct_zao),sl_zao⟩)
  (c_zao:W.codeIn K cd_zao "AskedRule.__init__"=true)
  (k_zao:W.keepIn K (.ref f_zao)=true)
  (a_zac:W.findIn K (.ref C_zaK) "before"=some (some (.ref f_zac)))
  (i_zac:PySem.W.isFn K (.ref f_zac)=true)
  (l_zac:K.lookup f_zac=some ⟨oc_zac,od_zac,.func (W.fnOf "before" "AskedRule.before" (ZAM ZAd) (ZAL ZAd) (ZAB ZAd) .none kV_zac dc_zac pm_zac an_zac cd_zac ct_zac),sl_zac⟩)
  (c_zac:W.codeIn K cd_zac "AskedRule.before"=true)
  (k_zac:W.keepIn K (.ref f_zac)=true)
  (a_AskedRule_widest:W.findIn K (.ref C_zaK) "widest"=some (some (.ref f_zav)))
  (ea_KeyRule:W.findIn K (.ref C_zaQ) "__eq__"=some (some (.builtin "object.__eq__")))
  (eb_KeyRule:PySem.W.subIn K (.ref C_zaQ) (.type "object")=some true)
  (ec_KeyRule:PySem.W.subIn K (.type "NoneType") (.ref C_zaQ)=some false)
  (ea_NearRule:W.findIn K (.ref C_zaP) "__eq__"=some (some (.builtin "object.__eq__")))
  (eb_NearRule:PySem.W.subIn K (.ref C_zaP) (.type "object")=some true)
  (ec_NearRule:PySem.W.subIn K (.type "NoneType") (.ref C_zaP)=some false)
  (ea_RingRule:W.findIn K (.ref C_zaO) "__eq__"=some (some (.builtin "object.__eq__")))
  (eb_RingRule:PySem.W.subIn K (.ref C_zaO) (.type "object")=some true)
  (ec_RingRule:PySem.W.subIn K (.type "NoneType") (.ref C_zaO)=some false)
  (ea_TableRule:W.findIn K (.ref C_zaL) "__eq__"=some (some (.builtin "object.__eq__")))
  (eb_TableRule:PySem.W.subIn K (.ref C_zaL) (.type "object")=some true)
  (ec_TableRule:PySem.W.subIn K (.type "NoneType") (.ref C_zaL)=some false)
  (ea_VoteRule:W.findIn K (.ref C_zaN) "__eq__"=some (some (.builtin "object.__eq__")))
  (eb_VoteRule:PySem.W.subIn K (.ref C_zaN) (.type "object")=some true)
  (ec_VoteRule:PySem.W.subIn K (.type "NoneType") (.ref C_zaN)=some false)
  (ea_AskedRule:W.findIn K (.ref C_zaK) "__eq__"=some (some (.builtin "object.__eq__")))
  (eb_AskedRule:PySem.W.subIn K (.ref C_zaK) (.type "object")=some true)
  (ec_AskedRule:PySem.W.subIn K (.type "NoneType") (.ref C_zaK)=some false)
  (a_zax:W.nsIn K mainGlobals "check_at"=some (some (.ref f_zax)))
  (l_zax:K.lookup f_zax=some ⟨oc_zax,od_zax,.func (W.fnOf "check_at" "check_at" (ZAM ZBb) (ZAL ZBb) (ZAB ZBb) .none kV_zax dc_zax pm_zax an_zax cd_zax ct_zax),sl_zax⟩)
  (c_zax:W.codeIn K cd_zax "check_at"=true)
  (k_zax:W.keepIn K (.ref f_zax)=true)
  (a_zat:W.nsIn K mainGlobals "check_column"=some (some (.ref f_zat)))
  (l_zat:K.lookup f_zat=some ⟨oc_zat,od_zat,.func (W.fnOf "check_column" "check_column" (ZAM ZA4) (ZAL ZA4) (ZAB ZA4) .none kV_zat dc_zat pm_zat an_zat cd_zat ct_zat),sl_zat⟩)
  (c_zat:W.codeIn K cd_zat "check_column"=true)
  (k_zat:W.keepIn K (.ref f_zat)=true)
  (a_zaw:W.nsIn K mainGlobals "widest_of"=some (some (.ref f_zaw)))
  (l_zaw:K.lookup f_zaw=some ⟨oc_zaw,od_zaw,.func (W.fnOf "widest_of" "widest_of" (ZAM ZBD) (ZAL ZBD) (ZAB ZBD) .none kV_zaw dc_zaw pm_zaw an_zaw cd_zaw ct_zaw),sl_zaw⟩)
  (c_zaw:W.codeIn K cd_zaw "widest_of"=true)
  (k_zaw:W.keepIn K (.ref f_zaw)=true)
  (a_zay:W.nsIn K mainGlobals "_law_cell_at"=some (some (.ref f_zay)))
  (l_zay:K.lookup f_zay=some ⟨oc_zay,od_zay,.func (W.fnOf "_law_cell_at" "_law_cell_at" (ZAM ZBm) (ZAL ZBm) (ZAB ZBm) .none kV_zay dc_zay pm_zay an_zay cd_zay ct_zay),sl_zay⟩)
  (c_zay:W.codeIn K cd_zay "_law_cell_at"=true)
  (k_zay:W.keepIn K (.ref f_zay)=true)
  (a_zaB:W.nsIn K mainGlobals "_law_figures"=some (some (.ref f_zaB)))
  (l_zaB:K.lookup f_zaB=some ⟨oc_zaB,od_zaB,.func (W.fnOf "_law_figures" "_law_figures" (ZAM ZBl) (ZAL ZBl) (ZAB ZBl) .none kV_zaB dc_zaB pm_zaB an_zaB cd_zaB ct_zaB),sl_zaB⟩)
  (c_zaB:W.codeIn K cd_zaB "_law_figures"=true)
  (k_zaB:W.keepIn K (.ref f_zaB)=true)
  (a_zaz:W.nsIn K mainGlobals "_law_plan_by"=some (some (.ref f_zaz)))
  (l_zaz:K.lookup f_zaz=some ⟨oc_zaz,od_zaz,.func (W.fnOf "_law_plan_by" "_law_plan_by" (ZAM ZBk) (ZAL ZBk) (ZAB ZBk) .none kV_zaz dc_zaz pm_zaz an_zaz cd_zaz ct_zaz),sl_zaz⟩)
  (c_zaz:W.codeIn K cd_zaz "_law_plan_by"=true)
  (k_zaz:W.keepIn K (.ref f_zaz)=true)
  (a_zaA:W.nsIn K mainGlobals "_law_rule_of"=some (some (.ref f_zaA)))
  (l_zaA:K.lookup f_zaA=some ⟨oc_zaA,od_zaA,.func (W.fnOf "_law_rule_of" "_law_rule_of" (ZAM ZBj) (ZAL ZBj) (ZAB ZBj) .none kV_zaA dc_zaA pm_zaA an_zaA cd_zaA ct_zaA),sl_zaA⟩)
  (c_zaA:W.codeIn K cd_zaA "_law_rule_of"=true)
  (k_zaA:W.keepIn K (.ref f_zaA)=true)
  (a_zaJ:W.nsIn K mainGlobals "_law_one"=some (some (.ref f_zaJ)))
  (l_zaJ:K.lookup f_zaJ=some ⟨oc_zaJ,od_zaJ,.func (W.fnOf "_law_one" "_law_one" (ZAM ZDZ) (ZAL ZDZ) (ZAB ZDZ) .none kV_zaJ dc_zaJ pm_zaJ an_zaJ cd_zaJ ct_zaJ),sl_zaJ⟩)
  (c_zaJ:W.codeIn K cd_zaJ "_law_one"=true)
  (k_zaJ:W.keepIn K (.ref f_zaJ)=true)
  (a_zaF:W.nsIn K mainGlobals "_law_votes"=some (some (.ref f_zaF)))
  (l_zaF:K.lookup f_zaF=some ⟨oc_zaF,od_zaF,.func (W.fnOf "_law_votes" "_law_votes" (ZAM ZCR) (ZAL ZCR) (ZAB ZCR) .none kV_zaF dc_zaF pm_zaF an_zaF cd_zaF ct_zaF),sl_zaF⟩)
  (c_zaF:W.codeIn K cd_zaF "_law_votes"=true)
  (k_zaF:W.keepIn K (.ref f_zaF)=true)
  (a_zaG:W.nsIn K mainGlobals "_law_chain"=some (some (.ref f_zaG)))
  (l_zaG:K.lookup f_zaG=some ⟨oc_zaG,od_zaG,.func (W.fnOf "_law_chain" "_law_chain" (ZAM ZCS) (ZAL ZCS) (ZAB ZCS) .none kV_zaG dc_zaG pm_zaG an_zaG cd_zaG ct_zaG),sl_zaG⟩)
  (c_zaG:W.codeIn K cd_zaG "_law_chain"=true)
  (k_zaG:W.keepIn K (.ref f_zaG)=true)
  (a_zaC:W.nsIn K mainGlobals "_law_before"=some (some (.ref f_zaC)))
  (l_zaC:K.lookup f_zaC=some ⟨oc_zaC,od_zaC,.func (W.fnOf "_law_before" "_law_before" (ZAM ZB2) (ZAL ZB2) (ZAB ZB2) .none kV_zaC dc_zaC pm_zaC an_zaC cd_zaC ct_zaC),sl_zaC⟩)
  (c_zaC:W.codeIn K cd_zaC "_law_before"=true)
  (k_zaC:W.keepIn K (.ref f_zaC)=true)
  (a_zaD:W.nsIn K mainGlobals "_law_widest"=some (some (.ref f_zaD)))
  (l_zaD:K.lookup f_zaD=some ⟨oc_zaD,od_zaD,.func (W.fnOf "_law_widest" "_law_widest" (ZAM ZB1) (ZAL ZB1) (ZAB ZB1) .none kV_zaD dc_zaD pm_zaD an_zaD cd_zaD ct_zaD),sl_zaD⟩)
  (c_zaD:W.codeIn K cd_zaD "_law_widest"=true)
  (k_zaD:W.keepIn K (.ref f_zaD)=true)
  (a_zaH:W.nsIn K mainGlobals "_law_told"=some (some (.ref f_zaH)))
  (l_zaH:K.lookup f_zaH=some ⟨oc_zaH,od_zaH,.func (W.fnOf "_law_told" "_law_told" (ZAM ZCs) (ZAL ZCs) (ZAB ZCs) .none kV_zaH dc_zaH pm_zaH an_zaH cd_zaH ct_zaH),sl_zaH⟩)
  (c_zaH:W.codeIn K cd_zaH "_law_told"=true)
  (k_zaH:W.keepIn K (.ref f_zaH)=true)
  (a_zaI:W.nsIn K mainGlobals "law"=some (some (.ref f_zaI)))
  (l_zaI:K.lookup f_zaI=some ⟨oc_zaI,od_zaI,.func (W.fnOf "law" "law" (ZAM ZC2) (ZAL ZC2) (ZAB ZC2) .none kV_zaI dc_zaI pm_zaI an_zaI cd_zaI ct_zaI),sl_zaI⟩)
  (c_zaI:W.codeIn K cd_zaI "law"=true)
  (k_zaI:W.keepIn K (.ref f_zaI)=true)
  (a_zaE:W.nsIn K mainGlobals "_law_teller"=some (some (.ref f_zaE)))
  (l_zaE:K.lookup f_zaE=some ⟨oc_zaE,od_zaE,.func (W.fnOf "_law_teller" "_law_teller" (ZAM ZBq) (ZAL ZBq) (ZAB ZBq) .none kV_zaE dc_zaE pm_zaE an_zaE (.ref cc_zaE) ct_zaE),sl_zaE⟩)
  (c_zaE:W.codeIn K (.ref cc_zaE) "_law_teller"=true)
  (lc_zaE:K.lookup cc_zaE=some ⟨oc2_zaE,od2_zaE,.fields vs_zaE,sl2_zaE⟩)
  (tp_zaE:vs_zaE[11]?=some (.ref Pt_zaE))
  (k_zaE:W.keepIn K (.ref f_zaE)=true)
  (z_GREATEST_AT:W.nsIn K mainGlobals "GREATEST_AT"=some (some (.int 7 t_GREATEST_AT)))
  (z_UP:W.nsIn K mainGlobals "UP"=some (some (.str "up" t_UP)))
  (z_DOWN:W.nsIn K mainGlobals "DOWN"=some (some (.str "down" t_DOWN)))
  (z_len:W.nsIn K mainGlobals "len"=some none)
  (z_range:W.nsIn K mainGlobals "range"=some none)
  (z_tuple:W.nsIn K mainGlobals "tuple"=some none)
  (z_list:W.nsIn K mainGlobals "list"=some none)
  (z_isinstance:W.nsIn K mainGlobals "isinstance"=some none)
  (z_bool:W.nsIn K mainGlobals "bool"=some none)
  (z_int:W.nsIn K mainGlobals "int"=some none)
  (z_max:W.nsIn K mainGlobals "max"=some none)
  (z_ValueError:W.nsIn K mainGlobals "ValueError"=some none)
  (kit_int_bool:PySem.W.kitOne K (.type "int") (.type "bool")=some false)
  (nt:PySem.W.noTabs K=true) :
  ∃ (tabs:List (Addr×Addr)) (fd:FuncData),PySem.W.noTabs K=true /\ (∀ t∈tabs,∃ y∈(["_law_teller"]:List Str),PySem.W.tabIn K y=some t) /\ (∀ (s:Shared) (v:Value),BindsTo s fd ⟨[v],[]⟩ [("_law_script",v)]) /\ ∀ base:Heap,K.In base->base.Ns mainGlobals mg->(∀ t∈tabs,PySem.W.CodeHd base t.1 t.2)->ZDI mg base->FnOk l.prog w K mg base CX0 6 fa fd ["_law_script"] (ZDm K tabs):=by
 have e:=hfa.symm.trans (PySem.W.mg_of X G a_zaI)
 cases e
 have cl_zaR:Cls K C_zaR:=⟨pg_zaR,hd_zaR,po_zaR,sa_zaR⟩
 have F_zav:=ZAY (st:=ZA9) l_zav c_zav k_zav
 have b_zav:=F_zav.binds (ps:=["self"]) fun _ _ _ _ _ _ us hl=>by obtain ⟨_,rfl⟩:=us1 hl;rfl
 have cl_zaQ:Cls K C_zaQ:=⟨pg_zaQ,hd_zaQ,po_zaQ,sa_zaQ⟩
 have F_zau:=ZAY (st:=ZA5) l_zau c_zau k_zau
 have b_zau:=F_zau.binds (ps:=["self","columns"]) fun _ _ _ _ _ _ us hl=>by obtain ⟨_,_,rfl⟩:=us2 hl;rfl
 have F_zap:=ZAY (st:=ZAr) l_zap c_zap k_zap
 have b_zap:=F_zap.binds (ps:=["self","x","y"]) fun _ _ _ _ _ _ us hl=>by obtain ⟨_,_,_,rfl⟩:=us3 hl;rfl
 have F_zan:=ZAY (st:=ZAq) l_zan c_zan k_zan
 have b_zan:=F_zan.binds (ps:=["self"]) fun _ _ _ _ _ _ us hl=>by obtain ⟨_,rfl⟩:=us1 hl;rfl
 have cl_zaP:Cls K C_zaP:=⟨pg_zaP,hd_zaP,po_zaP,sa_zaP⟩
 have F_zar:=ZAY (st:=ZAy) l_zar c_zar k_zar
 have b_zar:=F_zar.binds (ps:=["self","at","gap"]) fun _ _ _ _ _ _ us hl=>by obtain ⟨_,_,_,rfl⟩:=us3 hl;rfl
 have F_zah:=ZAY (st:=ZAk) l_zah c_zah k_zah
 have b_zah:=F_zah.binds (ps:=["self","x","y"]) fun _ _ _ _ _ _ us hl=>by obtain ⟨_,_,_,rfl⟩:=us3 hl;rfl
 have F_zai:=ZAY (st:=ZAj) l_zai c_zai k_zai
 have b_zai:=F_zai.binds (ps:=["self"]) fun _ _ _ _ _ _ us hl=>by obtain ⟨_,rfl⟩:=us1 hl;rfl
 have cl_zaO:Cls K C_zaO:=⟨pg_zaO,hd_zaO,po_zaO,sa_zaO⟩
 have F_zaq:=ZAY (st:=ZAx) l_zaq c_zaq k_zaq
 have b_zaq:=F_zaq.binds (ps:=["self","at","size"]) fun _ _ _ _ _ _ us hl=>by obtain ⟨_,_,_,rfl⟩:=us3 hl;rfl
 have F_zaj:=ZAY (st:=ZAi) l_zaj c_zaj k_zaj
 have b_zaj:=F_zaj.binds (ps:=["self","x","y"]) fun _ _ _ _ _ _ us hl=>by obtain ⟨_,_,_,rfl⟩:=us3 hl;rfl
 have F_zag:=ZAY (st:=ZAh) l_zag c_zag k_zag
 have b_zag:=F_zag.binds (ps:=["self"]) fun _ _ _ _ _ _ us hl=>by obtain ⟨_,rfl⟩:=us1 hl;rfl
 have cl_zaL:Cls K C_zaL:=⟨pg_zaL,hd_zaL,po_zaL,sa_zaL⟩
 have F_zam:=ZAY (st:=ZAp) l_zam c_zam k_zam
 have b_zam:=F_zam.binds (ps:=["self","at","table"]) fun _ _ _ _ _ _ us hl=>by obtain ⟨_,_,_,rfl⟩:=us3 hl;rfl
 have F_zaa:=ZAY (st:=ZAa) l_zaa c_zaa k_zaa
 have b_zaa:=F_zaa.binds (ps:=["self","x","y"]) fun _ _ _ _ _ _ us hl=>by obtain ⟨_,_,_,rfl⟩:=us3 hl;rfl
 have F_zad:=ZAY (st:=ZAZ) l_zad c_zad k_zad
 have b_zad:=F_zad.binds (ps:=["self"]) fun _ _ _ _ _ _ us hl=>by obtain ⟨_,rfl⟩:=us1 hl;rfl
 have cl_zaN:Cls K C_zaN:=⟨pg_zaN,hd_zaN,po_zaN,sa_zaN⟩
 have F_zas:=ZAY (st:=ZAw) l_zas c_zas k_zas
 have b_zas:=F_zas.binds (ps:=["self","rules"]) fun _ _ _ _ _ _ us hl=>by obtain ⟨_,_,rfl⟩:=us2 hl;rfl
 have F_zaf:=ZAY (st:=ZAg) l_zaf c_zaf k_zaf
 have b_zaf:=F_zaf.binds (ps:=["self","x","y"]) fun _ _ _ _ _ _ us hl=>by obtain ⟨_,_,_,rfl⟩:=us3 hl;rfl
 have F_zak:=ZAY (st:=ZAf) l_zak c_zak k_zak
 have b_zak:=F_zak.binds (ps:=["self"]) fun _ _ _ _ _ _ us hl=>by obtain ⟨_,rfl⟩:=us1 hl;rfl
 have cl_zaM:Cls K C_zaM:=⟨pg_zaM,hd_zaM,po_zaM,sa_zaM⟩
 have F_zal:=ZAY (st:=ZAs) l_zal c_zal k_zal
 have b_zal:=F_zal.binds (ps:=["self","rules"]) fun _ _ _ _ _ _ us hl=>by obtain ⟨_,_,rfl⟩:=us2 hl;rfl
 have F_zab:=ZAY (st:=ZAc) l_zab c_zab k_zab
 have b_zab:=F_zab.binds (ps:=["self","x","y"]) fun _ _ _ _ _ _ us hl=>by obtain ⟨_,_,_,rfl⟩:=us3 hl;rfl
 have F_zae:=ZAY (st:=ZAb) l_zae c_zae k_zae
 have b_zae:=F_zae.binds (ps:=["self"]) fun _ _ _ _ _ _ us hl=>by obtain ⟨_,rfl⟩:=us1 hl;rfl
 have cl_zaK:Cls K C_zaK:=⟨pg_zaK,hd_zaK,po_zaK,sa_zaK⟩
 have F_zao:=ZAY (st:=ZAt) l_zao c_zao k_zao
 have b_zao:=F_zao.binds (ps:=["self","teller"]) fun _ _ _ _ _ _ us hl=>by obtain ⟨_,_,rfl⟩:=us2 hl;rfl
 have F_zac:=ZAY (st:=ZAd) l_zac c_zac k_zac
 have b_zac:=F_zac.binds (ps:=["self","x","y"]) fun _ _ _ _ _ _ us hl=>by obtain ⟨_,_,_,rfl⟩:=us3 hl;rfl
 have F_zax:=ZAY (st:=ZBb) l_zax c_zax k_zax
 have b_zax:=F_zax.binds (ps:=["at"]) fun _ _ _ _ _ _ us hl=>by obtain ⟨_,rfl⟩:=us1 hl;rfl
 have F_zat:=ZAY (st:=ZA4) l_zat c_zat k_zat
 have b_zat:=F_zat.binds (ps:=["at","way"]) fun _ _ _ _ _ _ us hl=>by obtain ⟨_,_,rfl⟩:=us2 hl;rfl
 have F_zaw:=ZAY (st:=ZBD) l_zaw c_zaw k_zaw
 have b_zaw:=F_zaw.binds (ps:=["rules"]) fun _ _ _ _ _ _ us hl=>by obtain ⟨_,rfl⟩:=us1 hl;rfl
 have F_zay:=ZAY (st:=ZBm) l_zay c_zay k_zay
 have b_zay:=F_zay.binds (ps:=["_law_script","_law_k"]) fun _ _ _ _ _ _ us hl=>by obtain ⟨_,_,rfl⟩:=us2 hl;rfl
 have F_zaB:=ZAY (st:=ZBl) l_zaB c_zaB k_zaB
 have b_zaB:=F_zaB.binds (ps:=["_law_cell","_law_many","_law_base"]) fun _ _ _ _ _ _ us hl=>by obtain ⟨_,_,_,rfl⟩:=us3 hl;rfl
 have F_zaz:=ZAY (st:=ZBk) l_zaz c_zaz k_zaz
 have b_zaz:=F_zaz.binds (ps:=["_law_cell","_law_long"]) fun _ _ _ _ _ _ us hl=>by obtain ⟨_,_,rfl⟩:=us2 hl;rfl
 have F_zaA:=ZAY (st:=ZBj) l_zaA c_zaA k_zaA
 have b_zaA:=F_zaA.binds (ps:=["_law_plan"]) fun _ _ _ _ _ _ us hl=>by obtain ⟨_,rfl⟩:=us1 hl;rfl
 have F_zaJ:=ZAY (st:=ZDZ) l_zaJ c_zaJ k_zaJ
 have b_zaJ:=F_zaJ.binds (ps:=["_law_plan","_law_x","_law_y"]) fun _ _ _ _ _ _ us hl=>by obtain ⟨_,_,_,rfl⟩:=us3 hl;rfl
 have F_zaF:=ZAY (st:=ZCR) l_zaF c_zaF k_zaF
 have b_zaF:=F_zaF.binds (ps:=["_law_plans","_law_x","_law_y"]) fun _ _ _ _ _ _ us hl=>by obtain ⟨_,_,_,rfl⟩:=us3 hl;rfl
 have F_zaG:=ZAY (st:=ZCS) l_zaG c_zaG k_zaG
 have b_zaG:=F_zaG.binds (ps:=["_law_tells"]) fun _ _ _ _ _ _ us hl=>by obtain ⟨_,rfl⟩:=us1 hl;rfl
 have F_zaC:=ZAY (st:=ZB2) l_zaC c_zaC k_zaC
 have b_zaC:=F_zaC.binds (ps:=["_law_plans","_law_way","_law_x","_law_y"]) fun _ _ _ _ _ _ us hl=>by obtain ⟨_,_,_,_,rfl⟩:=us4 hl;rfl
 have F_zaD:=ZAY (st:=ZB1) l_zaD c_zaD k_zaD
 have b_zaD:=F_zaD.binds (ps:=["_law_plan"]) fun _ _ _ _ _ _ us hl=>by obtain ⟨_,rfl⟩:=us1 hl;rfl
 have F_zaH:=ZAY (st:=ZCs) l_zaH c_zaH k_zaH
 have b_zaH:=F_zaH.binds (ps:=["_law_rule","_law_plans","_law_way","_law_x","_law_y"]) fun _ _ _ _ _ _ us hl=>by obtain ⟨_,_,_,_,_,rfl⟩:=us5 hl;rfl
 have F_zaI:=ZAY (st:=ZC2) l_zaI c_zaI k_zaI
 have b_zaI:=F_zaI.binds (ps:=["_law_script"]) fun _ _ _ _ _ _ us hl=>by obtain ⟨_,rfl⟩:=us1 hl;rfl
 have F_zaE:=ZAY (st:=ZBq) l_zaE c_zaE k_zaE
 have b_zaE:=F_zaE.binds (ps:=["_law_at","_law_size"]) fun _ _ _ _ _ _ us hl=>by obtain ⟨_,_,rfl⟩:=us2 hl;rfl
 have T:Bt K mg C_zaR C_zaQ C_zaP C_zaO C_zaL C_zaN C_zaM C_zaK:=⟨PySem.W.mg_none_of X G z_len,PySem.W.mg_none_of X G z_range,PySem.W.mg_none_of X G z_tuple,PySem.W.mg_none_of X G z_list,PySem.W.mg_none_of X G z_isinstance,PySem.W.mg_none_of X G z_bool,PySem.W.mg_none_of X G z_int,PySem.W.mg_none_of X G z_max,PySem.W.mg_none_of X G z_ValueError,⟨_,PySem.W.mg_of X G z_GREATEST_AT⟩,⟨_,PySem.W.mg_of X G z_UP⟩,⟨_,PySem.W.mg_of X G z_DOWN⟩,PySem.W.mg_of X G a_zaR,cl_zaR,PySem.W.mg_of X G a_zaQ,cl_zaQ,⟨ea_KeyRule,eb_KeyRule,ec_KeyRule⟩,n_zaQ_columns,PySem.W.mg_of X G a_zaP,cl_zaP,⟨ea_NearRule,eb_NearRule,ec_NearRule⟩,n_zaP_at,n_zaP_gap,PySem.W.mg_of X G a_zaO,cl_zaO,⟨ea_RingRule,eb_RingRule,ec_RingRule⟩,n_zaO_at,n_zaO_size,PySem.W.mg_of X G a_zaL,cl_zaL,⟨ea_TableRule,eb_TableRule,ec_TableRule⟩,n_zaL_at,n_zaL_table,PySem.W.mg_of X G a_zaN,cl_zaN,⟨ea_VoteRule,eb_VoteRule,ec_VoteRule⟩,n_zaN_rules,PySem.W.mg_of X G a_zaM,cl_zaM,n_zaM_rules,PySem.W.mg_of X G a_zaK,cl_zaK,⟨ea_AskedRule,eb_AskedRule,ec_AskedRule⟩,n_zaK_teller,kit_int_bool⟩
 refine ⟨[(cc_zaE,Pt_zaE)],W.fnOf "law" "law" (ZAM ZC2) (ZAL ZC2) (ZAB ZC2) .none kV_zaI dc_zaI pm_zaI an_zaI cd_zaI ct_zaI,nt,List.forall_mem_cons.mpr ⟨⟨"_law_teller",by simp,tabIn_of a_zaE l_zaE rfl lc_zaE tp_zaE⟩,fun _ h=>nomatch h⟩,fun s v=>.of_eq rfl,fun base _ _ hC hB=>?_⟩
 have f_zaE':Fn l.prog w K mg base CX0 "_law_teller" 1 ["_law_at","_law_size"] (ZDT Pt_zaE (ZDW ZAP) "_law_ask" "_law_teller.<locals>._law_ask" (ZAM ZAP) (ZAL ZAP) (ZAB ZAP) ["_law_size","_law_at"] [1,0] 2):=⟨_,_,ok_teller F_zaE rfl (hC (cc_zaE,Pt_zaE) (by simp)) hB,b_zaE,k_zaE,PySem.W.mg_of X G a_zaE⟩
 have f_zax':Fn l.prog w K mg base CX0 "check_at" 1 ["at"] (ZCP):=⟨_,_,ok_check_at F_zax T ,b_zax,k_zax,PySem.W.mg_of X G a_zax⟩
 have k_zaL':Kl l.prog w K mg base CX0 "TableRule" C_zaL 2 ["self","at","table"] (ZCb C_zaL):=⟨PySem.W.mg_of X G a_zaL,_,_,ok_TableRule_init F_zam T f_zax',b_zam,mk_zaL,a_zam,i_zam,kc_zaL⟩
 have f_zat':Fn l.prog w K mg base CX0 "check_column" 2 ["at","way"] (ZCO):=⟨_,_,ok_check_column F_zat T f_zax',b_zat,k_zat,PySem.W.mg_of X G a_zat⟩
 have k_zaQ':Kl l.prog w K mg base CX0 "KeyRule" C_zaQ 3 ["self","columns"] (ZCd K C_zaQ):=⟨PySem.W.mg_of X G a_zaQ,_,_,ok_KeyRule_init F_zau T f_zat',b_zau,mk_zaQ,a_zau,i_zau,kc_zaQ⟩
 have k_zaP':Kl l.prog w K mg base CX0 "NearRule" C_zaP 2 ["self","at","gap"] (ZCN C_zaP):=⟨PySem.W.mg_of X G a_zaP,_,_,ok_NearRule_init F_zar T f_zax',b_zar,mk_zaP,a_zar,i_zar,kc_zaP⟩
 have k_zaO':Kl l.prog w K mg base CX0 "RingRule" C_zaO 2 ["self","at","size"] (ZCM C_zaO):=⟨PySem.W.mg_of X G a_zaO,_,_,ok_RingRule_init F_zaq T f_zax',b_zaq,mk_zaO,a_zaq,i_zaq,kc_zaO⟩
 have k_zaK':Kl l.prog w K mg base CX0 "AskedRule" C_zaK 1 ["self","teller"] (ZCg C_zaK):=⟨PySem.W.mg_of X G a_zaK,_,_,ok_AskedRule_init F_zao T ,b_zao,mk_zaK,a_zao,i_zao,kc_zaK⟩
 have f_zaA':Fn l.prog w K mg base CX0 "_law_rule_of" 5 ["_law_plan"] (ZC0 K C_zaQ C_zaP C_zaO C_zaK C_zaL Pt_zaE):=⟨_,_,ok_rule_of F_zaA T f_zaE' k_zaL' k_zaQ' k_zaP' k_zaO' k_zaK',b_zaA,k_zaA,PySem.W.mg_of X G a_zaA⟩
 have f_zay':Fn l.prog w K mg base CX0 "_law_cell_at" 1 ["_law_script","_law_k"] (ZDn K):=⟨_,_,ok_cell_at F_zay T ,b_zay,k_zay,PySem.W.mg_of X G a_zay⟩
 have f_zaB':Fn l.prog w K mg base CX0 "_law_figures" 1 ["_law_cell","_law_many","_law_base"] (ZDx):=⟨_,_,ok_figures F_zaB T ,b_zaB,k_zaB,PySem.W.mg_of X G a_zaB⟩
 have f_zaz':Fn l.prog w K mg base CX0 "_law_plan_by" 2 ["_law_cell","_law_long"] (ZC1 K):=⟨_,_,ok_plan_by F_zaz T f_zaB',b_zaz,k_zaz,PySem.W.mg_of X G a_zaz⟩
 have f_zaD':Fn l.prog w K mg base CX0 "_law_widest" 1 ["_law_plan"] (ZDL K):=⟨_,_,ok_widest F_zaD T ,b_zaD,k_zaD,PySem.W.mg_of X G a_zaD⟩
 have f_zaG':Fn l.prog w K mg base CX0 "_law_chain" 1 ["_law_tells"] (ZCe):=⟨_,_,ok_chain F_zaG T ,b_zaG,k_zaG,PySem.W.mg_of X G a_zaG⟩
 have f_zaJ':Fn l.prog w K mg base CX0 "_law_one" 1 ["_law_plan","_law_x","_law_y"] (ZCc K):=⟨_,_,ok_one F_zaJ T ,b_zaJ,k_zaJ,PySem.W.mg_of X G a_zaJ⟩
 have f_zaF':Fn l.prog w K mg base CX0 "_law_votes" 2 ["_law_plans","_law_x","_law_y"] (ZCa K):=⟨_,_,ok_votes F_zaF T f_zaJ',b_zaF,k_zaF,PySem.W.mg_of X G a_zaF⟩
 have f_zaC':Fn l.prog w K mg base CX0 "_law_before" 3 ["_law_plans","_law_way","_law_x","_law_y"] (ZCQ K):=⟨_,_,ok_before F_zaC T f_zaG' f_zaF' f_zaJ',b_zaC,k_zaC,PySem.W.mg_of X G a_zaC⟩
 have t_KeyRule_before':Mt l.prog w K mg base CX0 C_zaQ "before" 1 ["self","x","y"] (ZBR K C_zaQ):=⟨cl_zaQ,_,_,ok_KeyRule_before F_zap T ,b_zap,a_zap,i_zap,k_zap⟩
 have t_NearRule_before':Mt l.prog w K mg base CX0 C_zaP "before" 1 ["self","x","y"] (ZBG K C_zaP):=⟨cl_zaP,_,_,ok_NearRule_before F_zah T ,b_zah,a_zah,i_zah,k_zah⟩
 have t_RingRule_before':Mt l.prog w K mg base CX0 C_zaO "before" 1 ["self","x","y"] (ZBF K C_zaO):=⟨cl_zaO,_,_,ok_RingRule_before F_zaj T ,b_zaj,a_zaj,i_zaj,k_zaj⟩
 have t_TableRule_before':Mt l.prog w K mg base CX0 C_zaL "before" 1 ["self","x","y"] (ZBQ K C_zaL):=⟨cl_zaL,_,_,ok_TableRule_before F_zaa T ,b_zaa,a_zaa,i_zaa,k_zaa⟩
 have clo_teller':CloOk l.prog w K mg base 1 (rT13 K):=clo_teller T
 have t_AskedRule_before':Mt l.prog w K mg base CX0 C_zaK "before" 2 ["self","x","y"] (ZCr K C_zaK):=⟨cl_zaK,_,_,ok_AskedRule_before F_zac T clo_teller',b_zac,a_zac,i_zac,k_zac⟩
 have t_VoteRule_before':Mt l.prog w K mg base CX0 C_zaN "before" 3 ["self","x","y"] (ZBv K C_zaQ C_zaP C_zaO C_zaK C_zaL C_zaN):=⟨cl_zaN,_,_,ok_VoteRule_before F_zaf T t_KeyRule_before' t_NearRule_before' t_RingRule_before' t_TableRule_before' t_AskedRule_before',b_zaf,a_zaf,i_zaf,k_zaf⟩
 have t_ChainRule_before':Mt l.prog w K mg base CX0 C_zaM "before" 4 ["self","x","y"] (ZCf K C_zaQ C_zaP C_zaO C_zaK C_zaL C_zaN C_zaM):=⟨cl_zaM,_,_,ok_ChainRule_before F_zab T t_KeyRule_before' t_NearRule_before' t_RingRule_before' t_TableRule_before' t_VoteRule_before' t_AskedRule_before',b_zab,a_zab,i_zab,k_zab⟩
 have f_zaH':Fn l.prog w K mg base CX0 "_law_told" 5 ["_law_rule","_law_plans","_law_way","_law_x","_law_y"] (ZCz K C_zaQ C_zaP C_zaO C_zaK C_zaL C_zaN C_zaM):=⟨_,_,ok_told F_zaH T f_zaC' t_VoteRule_before' t_ChainRule_before',b_zaH,k_zaH,PySem.W.mg_of X G a_zaH⟩
 have t_KeyRule_widest':Mt l.prog w K mg base CX0 C_zaQ "widest" 1 ["self"] (ZB0 K C_zaQ):=⟨cl_zaQ,_,_,ok_KeyRule_widest F_zan T ,b_zan,a_zan,i_zan,k_zan⟩
 have t_NearRule_widest':Mt l.prog w K mg base CX0 C_zaP "widest" 1 ["self"] (ZBi C_zaP):=⟨cl_zaP,_,_,ok_NearRule_widest F_zai T ,b_zai,a_zai,i_zai,k_zai⟩
 have t_RingRule_widest':Mt l.prog w K mg base CX0 C_zaO "widest" 1 ["self"] (ZBh C_zaO):=⟨cl_zaO,_,_,ok_RingRule_widest F_zag T ,b_zag,a_zag,i_zag,k_zag⟩
 have t_TableRule_widest':Mt l.prog w K mg base CX0 C_zaL "widest" 1 ["self"] (ZBz C_zaL):=⟨cl_zaL,_,_,ok_TableRule_widest F_zad T ,b_zad,a_zad,i_zad,k_zad⟩
 have t_AskedRule_widest':Mt l.prog w K mg base CX0 C_zaK "widest" 1 ["self"] (ZBg):=⟨cl_zaK,_,_,ok_Rule_widest F_zav T ,b_zav,a_AskedRule_widest,i_zav,k_zav⟩
 have f_zaw':Fn l.prog w K mg base CX0 "widest_of" 2 ["rules"] (ZDl K C_zaQ C_zaP C_zaO C_zaK C_zaL):=⟨_,_,ok_widest_of F_zaw T t_KeyRule_widest' t_NearRule_widest' t_RingRule_widest' t_TableRule_widest' t_AskedRule_widest',b_zaw,k_zaw,PySem.W.mg_of X G a_zaw⟩
 have t_VoteRule_widest':Mt l.prog w K mg base CX0 C_zaN "widest" 3 ["self"] (ZDB K C_zaQ C_zaP C_zaO C_zaK C_zaL C_zaN):=⟨cl_zaN,_,_,ok_VoteRule_widest F_zak T f_zaw',b_zak,a_zak,i_zak,k_zak⟩
 have f_zaw_2':Fn l.prog w K mg base CX0 "widest_of" 4 ["rules"] (ZDk K C_zaQ C_zaP C_zaO C_zaK C_zaL C_zaN):=⟨_,_,ok_widest_of_2 F_zaw T t_KeyRule_widest' t_NearRule_widest' t_RingRule_widest' t_TableRule_widest' t_VoteRule_widest' t_AskedRule_widest',b_zaw,k_zaw,PySem.W.mg_of X G a_zaw⟩
 have t_ChainRule_widest':Mt l.prog w K mg base CX0 C_zaM "widest" 5 ["self"] (ZDo K C_zaQ C_zaP C_zaO C_zaK C_zaL C_zaN C_zaM):=⟨cl_zaM,_,_,ok_ChainRule_widest F_zae T f_zaw_2',b_zae,a_zae,i_zae,k_zae⟩
 have k_zaN':Kl l.prog w K mg base CX0 "VoteRule" C_zaN 1 ["self","rules"] (ZB9 C_zaN):=⟨PySem.W.mg_of X G a_zaN,_,_,ok_VoteRule_init F_zas T ,b_zas,mk_zaN,a_zas,i_zas,kc_zaN⟩
 have k_zaM':Kl l.prog w K mg base CX0 "ChainRule" C_zaM 1 ["self","rules"] (ZB9 C_zaM):=⟨PySem.W.mg_of X G a_zaM,_,_,ok_ChainRule_init F_zal T ,b_zal,mk_zaM,a_zal,i_zal,kc_zaM⟩
 exact ok_law F_zaI T f_zaA' f_zay' f_zaz' f_zaB' f_zaD' f_zaH' t_VoteRule_widest' t_ChainRule_widest' k_zaN' k_zaM'
end Law
open PySem PySem.W PyProof.Rows
set_option maxRecDepth 100000 in
set_option maxHeartbeats 0 in
theorem PySem.Challenge.cw_sorthall_k13_tables_votes_chains_holds : PySem.Challenge.rw_sorthall_k13_tables_votes_chains.Holds := by
 refine L2.hd0 ?_
 k_fill
 refine L2.walk_ofT2 (l:=PySem.Challenge.rw_sorthall_k13_tables_votes_chains) (k:=6) (x:="_law_script") (names:=["_law_teller"]) rfl rfl ⟨rfl,by decide,by decide,rfl⟩ (fun w h Y=>PySem.W.km_in_of Y) (List.forall_mem_cons.mpr ⟨⟨_,rfl⟩,fun _ h=>nomatch h⟩) ?F
 case F=>
  intro w mg fa h KX G hmg
  refine' Law.all_mk KX G hmg ?a_zaR ?pg_zaR ?hd_zaR ?po_zaR ?sa_zaR ?mk_zaR ?kc_zaR ?in_zaR ?a_zav ?i_zav ?l_zav ?c_zav ?k_zav ?a_zaQ ?pg_zaQ ?hd_zaQ ?po_zaQ ?sa_zaQ ?mk_zaQ ?kc_zaQ ?n_zaQ_columns ?a_zau ?i_zau ?l_zau ?c_zau ?k_zau ?a_zap ?i_zap ?l_zap ?c_zap ?k_zap ?a_zan ?i_zan ?l_zan ?c_zan ?k_zan ?a_zaP ?pg_zaP ?hd_zaP ?po_zaP ?sa_zaP ?mk_zaP ?kc_zaP ?n_zaP_at ?n_zaP_gap ?a_zar ?i_zar ?l_zar ?c_zar ?k_zar ?a_zah ?i_zah ?l_zah ?c_zah ?k_zah ?a_zai ?i_zai ?l_zai ?c_zai ?k_zai ?a_zaO ?pg_zaO ?hd_zaO ?po_zaO ?sa_zaO ?mk_zaO ?kc_zaO ?n_zaO_at ?n_zaO_size ?a_zaq ?i_zaq ?l_zaq ?c_zaq ?k_zaq ?a_zaj ?i_zaj ?l_zaj ?c_zaj ?k_zaj ?a_zag ?i_zag ?l_zag ?c_zag ?k_zag ?a_zaL ?pg_zaL ?hd_zaL ?po_zaL ?sa_zaL ?mk_zaL ?kc_zaL ?n_zaL_at ?n_zaL_table ?a_zam ?i_zam ?l_zam ?c_zam ?k_zam ?a_zaa ?i_zaa ?l_zaa ?c_zaa ?k_zaa ?a_zad ?i_zad ?l_zad ?c_zad ?k_zad ?a_zaN ?pg_zaN ?hd_zaN ?po_zaN ?sa_zaN ?mk_zaN ?kc_zaN ?n_zaN_rules ?a_zas ?i_zas ?l_zas ?c_zas ?k_zas ?a_zaf ?i_zaf ?l_zaf ?c_zaf ?k_zaf ?a_zak ?i_zak ?l_zak ?c_zak ?k_zak ?a_zaM ?pg_zaM ?hd_zaM ?po_zaM ?sa_zaM ?mk_zaM ?kc_zaM ?n_zaM_rules ?a_zal ?i_zal ?l_zal ?c_zal ?k_zal ?a_zab ?i_zab ?l_zab ?c_zab ?k_zab ?a_zae ?i_zae ?l_zae ?c_zae ?k_zae ?a_zaK ?pg_zaK ?hd_zaK ?po_zaK ?sa_zaK ?mk_zaK ?kc_zaK ?n_zaK_teller ?a_zao ?i_zao ?l_zao ?c_zao ?k_zao ?a_zac ?i_zac ?l_zac ?c_zac ?k_zac ?a_AskedRule_widest ?ea_KeyRule ?eb_KeyRule ?ec_KeyRule ?ea_NearRule ?eb_NearRule ?ec_NearRule ?ea_RingRule ?eb_RingRule ?ec_RingRule ?ea_TableRule ?eb_TableRule ?ec_TableRule ?ea_VoteRule ?eb_VoteRule ?ec_VoteRule ?ea_AskedRule ?eb_AskedRule ?ec_AskedRule ?a_zax ?l_zax ?c_zax ?k_zax ?a_zat ?l_zat ?c_zat ?k_zat ?a_zaw ?l_zaw ?c_zaw ?k_zaw ?a_zay ?l_zay ?c_zay ?k_zay ?a_zaB ?l_zaB ?c_zaB ?k_zaB ?a_zaz ?l_zaz ?c_zaz ?k_zaz ?a_zaA ?l_zaA ?c_zaA ?k_zaA ?a_zaJ ?l_zaJ ?c_zaJ ?k_zaJ ?a_zaF ?l_zaF ?c_zaF ?k_zaF ?a_zaG ?l_zaG ?c_zaG ?k_zaG ?a_zaC ?l_zaC ?c_zaC ?k_zaC ?a_zaD ?l_zaD ?c_zaD ?k_zaD ?a_zaH ?l_zaH ?c_zaH ?k_zaH ?a_zaI ?l_zaI ?c_zaI ?k_zaI ?a_zaE ?l_zaE ?c_zaE ?lc_zaE ?tp_zaE ?k_zaE ?z_GREATEST_AT ?z_UP ?z_DOWN ?z_len ?z_range ?z_tuple ?z_list ?z_isinstance ?z_bool ?z_int ?z_max ?z_ValueError ?kit_int_bool ?nt
  (case a_zaR=>k_is)
  (case pg_zaR=>k_is)
  (case hd_zaR=>k_is)
  (case po_zaR=>k_is)
  (case sa_zaR=>k_is)
  (case mk_zaR=>k_is)
  (case kc_zaR=>k_is)
  (case in_zaR=>k_is)
  (case a_zav=>k_is)
  (case i_zav=>k_is)
  (case l_zav=>k_is)
  (case c_zav=>k_is)
  (case k_zav=>k_is)
  (case a_zaQ=>k_is)
  (case pg_zaQ=>k_is)
  (case hd_zaQ=>k_is)
  (case po_zaQ=>k_is)
  (case sa_zaQ=>k_is)
  (case mk_zaQ=>k_is)
  (case kc_zaQ=>k_is)
  (case n_zaQ_columns=>k_is)
  (case a_zau=>k_is)
  (case i_zau=>k_is)
  (case l_zau=>k_is)
  (case c_zau=>k_is)
  (case k_zau=>k_is)
  (case a_zap=>k_is)
  (case i_zap=>k_is)
  (case l_zap=>k_is)
  (case c_zap=>k_is)
  (case k_zap=>k_is)
  (case a_zan=>k_is)
  (case i_zan=>k_is)
  (case l_zan=>k_is)
  (case c_zan=>k_is)
  (case k_zan=>k_is)
  (case a_zaP=>k_is)
  (case pg_zaP=>k_is)
  (case hd_zaP=>k_is)
  (case po_zaP=>k_is)
  (case sa_zaP=>k_is)
  (case mk_zaP=>k_is)
  (case kc_zaP=>k_is)
  (case n_zaP_at=>k_is)
  (case n_zaP_gap=>k_is)
  (case a_zar=>k_is)
  (case i_zar=>k_is)
  (case l_zar=>k_is)
  (case c_zar=>k_is)
  (case k_zar=>k_is)
  (case a_zah=>k_is)
  (case i_zah=>k_is)
  (case l_zah=>k_is)
  (case c_zah=>k_is)
  (case k_zah=>k_is)
  (case a_zai=>k_is)
  (case i_zai=>k_is)
  (case l_zai=>k_is)
  (case c_zai=>k_is)
  (case k_zai=>k_is)
  (case a_zaO=>k_is)
  (case pg_zaO=>k_is)
  (case hd_zaO=>k_is)
  (case po_zaO=>k_is)
  (case sa_zaO=>k_is)
  (case mk_zaO=>k_is)
  (case kc_zaO=>k_is)
  (case n_zaO_at=>k_is)
  (case n_zaO_size=>k_is)
  (case a_zaq=>k_is)
  (case i_zaq=>k_is)
  (case l_zaq=>k_is)
  (case c_zaq=>k_is)
  (case k_zaq=>k_is)
  (case a_zaj=>k_is)
  (case i_zaj=>k_is)
  (case l_zaj=>k_is)
  (case c_zaj=>k_is)
  (case k_zaj=>k_is)
  (case a_zag=>k_is)
  (case i_zag=>k_is)
  (case l_zag=>k_is)
  (case c_zag=>k_is)
  (case k_zag=>k_is)
  (case a_zaL=>k_is)
  (case pg_zaL=>k_is)
  (case hd_zaL=>k_is)
  (case po_zaL=>k_is)
  (case sa_zaL=>k_is)
  (case mk_zaL=>k_is)
  (case kc_zaL=>k_is)
  (case n_zaL_at=>k_is)
  (case n_zaL_table=>k_is)
  (case a_zam=>k_is)
  (case i_zam=>k_is)
  (case l_zam=>k_is)
  (case c_zam=>k_is)
  (case k_zam=>k_is)
  (case a_zaa=>k_is)
  (case i_zaa=>k_is)
  (case l_zaa=>k_is)
  (case c_zaa=>k_is)
  (case k_zaa=>k_is)
  (case a_zad=>k_is)
  (case i_zad=>k_is)
  (case l_zad=>k_is)
  (case c_zad=>k_is)
  (case k_zad=>k_is)
  (case a_zaN=>k_is)
  (case pg_zaN=>k_is)
  (case hd_zaN=>k_is)
  (case po_zaN=>k_is)
  (case sa_zaN=>k_is)
  (case mk_zaN=>k_is)
  (case kc_zaN=>k_is)
  (case n_zaN_rules=>k_is)
  (case a_zas=>k_is)
  (case i_zas=>k_is)
  (case l_zas=>k_is)
  (case c_zas=>k_is)
  (case k_zas=>k_is)
  (case a_zaf=>k_is)
  (case i_zaf=>k_is)
  (case l_zaf=>k_is)
  (case c_zaf=>k_is)
  (case k_zaf=>k_is)
  (case a_zak=>k_is)
  (case i_zak=>k_is)
  (case l_zak=>k_is)
  (case c_zak=>k_is)
  (case k_zak=>k_is)
  (case a_zaM=>k_is)
  (case pg_zaM=>k_is)
  (case hd_zaM=>k_is)
  (case po_zaM=>k_is)
  (case sa_zaM=>k_is)
  (case mk_zaM=>k_is)
  (case kc_zaM=>k_is)
  (case n_zaM_rules=>k_is)
  (case a_zal=>k_is)
  (case i_zal=>k_is)
  (case l_zal=>k_is)
  (case c_zal=>k_is)
  (case k_zal=>k_is)
  (case a_zab=>k_is)
  (case i_zab=>k_is)
  (case l_zab=>k_is)
  (case c_zab=>k_is)
  (case k_zab=>k_is)
  (case a_zae=>k_is)
  (case i_zae=>k_is)
  (case l_zae=>k_is)
  (case c_zae=>k_is)
  (case k_zae=>k_is)
  (case a_zaK=>k_is)
  (case pg_zaK=>k_is)
  (case hd_zaK=>k_is)
  (case po_zaK=>k_is)
  (case sa_zaK=>k_is)
  (case mk_zaK=>k_is)
  (case kc_zaK=>k_is)
  (case n_zaK_teller=>k_is)
  (case a_zao=>k_is)
  (case i_zao=>k_is)
  (case l_zao=>k_is)
  (case c_zao=>k_is)
  (case k_zao=>k_is)
  (case a_zac=>k_is)
  (case i_zac=>k_is)
  (case l_zac=>k_is)
  (case c_zac=>k_is)
  (case k_zac=>k_is)
  (case a_AskedRule_widest=>k_is)
  (case ea_KeyRule=>k_is)
  (case eb_KeyRule=>k_is)
  (case ec_KeyRule=>k_is)
  (case ea_NearRule=>k_is)
  (case eb_NearRule=>k_is)
  (case ec_NearRule=>k_is)
  (case ea_RingRule=>k_is)
  (case eb_RingRule=>k_is)
  (case ec_RingRule=>k_is)
  (case ea_TableRule=>k_is)
  (case eb_TableRule=>k_is)
  (case ec_TableRule=>k_is)
  (case ea_VoteRule=>k_is)
  (case eb_VoteRule=>k_is)
  (case ec_VoteRule=>k_is)
  (case ea_AskedRule=>k_is)
  (case eb_AskedRule=>k_is)
  (case ec_AskedRule=>k_is)
  (case a_zax=>k_is)
  (case l_zax=>k_is)
  (case c_zax=>k_is)
  (case k_zax=>k_is)
  (case a_zat=>k_is)
  (case l_zat=>k_is)
  (case c_zat=>k_is)
  (case k_zat=>k_is)
  (case a_zaw=>k_is)
  (case l_zaw=>k_is)
  (case c_zaw=>k_is)
  (case k_zaw=>k_is)
  (case a_zay=>k_is)
  (case l_zay=>k_is)
  (case c_zay=>k_is)
  (case k_zay=>k_is)
  (case a_zaB=>k_is)
  (case l_zaB=>k_is)
  (case c_zaB=>k_is)
  (case k_zaB=>k_is)
  (case a_zaz=>k_is)
  (case l_zaz=>k_is)
  (case c_zaz=>k_is)
  (case k_zaz=>k_is)
  (case a_zaA=>k_is)
  (case l_zaA=>k_is)
  (case c_zaA=>k_is)
  (case k_zaA=>k_is)
  (case a_zaJ=>k_is)
  (case l_zaJ=>k_is)
  (case c_zaJ=>k_is)
  (case k_zaJ=>k_is)
  (case a_zaF=>k_is)
  (case l_zaF=>k_is)
  (case c_zaF=>k_is)
  (case k_zaF=>k_is)
  (case a_zaG=>k_is)
  (case l_zaG=>k_is)
  (case c_zaG=>k_is)
  (case k_zaG=>k_is)
  (case a_zaC=>k_is)
  (case l_zaC=>k_is)
  (case c_zaC=>k_is)
  (case k_zaC=>k_is)
  (case a_zaD=>k_is)
  (case l_zaD=>k_is)
  (case c_zaD=>k_is)
  (case k_zaD=>k_is)
  (case a_zaH=>k_is)
  (case l_zaH=>k_is)
  (case c_zaH=>k_is)
  (case k_zaH=>k_is)
  (case a_zaI=>k_is)
  (case l_zaI=>k_is)
  (case c_zaI=>k_is)
  (case k_zaI=>k_is)
  (case a_zaE=>k_is)
  (case l_zaE=>k_is)
  (case c_zaE=>k_is)
  (case lc_zaE=>k_is)
  (case tp_zaE=>rfl)
  (case k_zaE=>k_is)
  (case z_GREATEST_AT=>k_is)
  (case z_UP=>k_is)
  (case z_DOWN=>k_is)
  (case z_len=>k_is)
  (case z_range=>k_is)
  (case z_tuple=>k_is)
  (case z_list=>k_is)
  (case z_isinstance=>k_is)
  (case z_bool=>k_is)
  (case z_int=>k_is)
  (case z_max=>k_is)
  (case z_ValueError=>k_is)
  (case kit_int_bool=>kit_is)
  (case nt=>kernel_rfl)
