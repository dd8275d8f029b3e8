import PyProof.Rows.All
import Wide.All
import OpenK.AllK
import Wide.FinOn
import Lean
import PyProof.EqAt
import PyProof.EqKinds
import PyProof.TupleCall
import KE.KRevIter
import PyProof.CollectIter
import PyProof.SumWalkG
import PyProof.Rows.FStrParts
import KE.KDictOf
import PyProof.IsiH_list
import PyProof.RaisesAny
import PyProof.P3In
import PyProof.Rows.StrWeight2
import PyProof.StrCalls
import PyProof.Rows.FinIter
import PyProof.StrCalls2
import PyProof.StrBlockH
import PyProof.StrLawsTight
import PyProof.StrLoop
import PyProof.StrWalks
import PyProof.SliceStr2
import PyProof.Conv_int
import PyProof.Rows.SortLt
import PyProof.Rows.Walk
import PyProof.FactsAll.str
import PySem.Builtin.Int.W0All
import PyProof.Rows.StrIntSpec
import PyProof.EnumIter
import PyProof.ZipIter
import PyProof.TupleIter
import PyProof.WalksMore
import PySem.Challenge.RW_sorthall_k82_no_row
local macro_rules | `(tactic| omega)=>`(tactic| first | with_reducible assumption | lia | omega (splitDisjunctions:=true))
set_option Elab.async false
set_option linter.all false
set_option maxRecDepth 100000
open Nat renaming le_refl→yAA,le_trans→yAC,ne_of_lt→yAD,lt_of_lt_of_le→yAF,le_succ→yAO,zero_le→yAR,lt_irrefl→yAW,ne_of_gt→yBA
open List renaming length_map→yAB,mem_cons_self→yAE,mem_cons→yAG,mem_append_right→yAI,mem_cons_of_mem→yAJ,size_toArray→yAK,getElem?_eq_getElem→yAL,getElem?_map→yAM,map_append→yAN,getElem?_eq_some_iff→yAP,length_append→yAQ,mem_of_getElem?→yAS,length_take→yAU,all_eq_true→yAV,mem_append→yAX,map_cons→yAY,lookup_cons→yBB,take_add_one→yBD,length_cons→yBF,getElem?_eq_none→yBG,take_of_length_le→yBH,length_drop→yBJ,mem_singleton→yBK
open Bool renaming false_ne_true→yAH,and_eq_true→yAT,eq_iff_iff→yBE,and_false→yBI
open Option renaming map_eq_some_iff→yAZ
open Array renaming getElem?_eq_some_iff→yBC
namespace L2
open PySem PySem.W
theorem left_boot {p q:Program} {loose:List Str} {Xt:Shared->Bool} {α:Type} {Yf:Shared->α} {Ya:World->α} {N:Nat} {g0:Bool}
  (open_:∀ w:World,(fencedOpening treeTable p w N).map (fun s=>(s.heap,s.gens,s.drawn,s.toks))=some (boot_heap w.params,Array.mk [],boot_drawn,boot_toks))
  (h:∀ (w:World) (os:OsState),(topFrom treeTable p w N ⟨boot_heap w.params,Array.mk [],boot_drawn,boot_toks,os⟩).map (fun s=>(openSeen q loose (importedModules p.main.body) Xt g0 s,Yf s))=some (openGood q loose,Ya w)):LeftO p q loose Xt Yf Ya N g0:=fun w=>by
 obtain ⟨⟨hh,gs,d,k,os⟩,e,e'⟩:=yAZ.mp (open_ w)
 obtain ⟨rfl,rfl,rfl,rfl⟩:hh=boot_heap w.params /\ gs=Array.mk [] /\ d=boot_drawn /\ k=boot_toks:=by simpa using e'
 unfold openEnds
 rw [e]
 exact h w os
theorem left_two {p q:Program} {loose:List Str} {Xt:Shared->Bool} {α:Type} {Yf:Shared->α} {Ya:World->α} {N:Nat} {g0:Bool}
  (open_:∀ w:World,(fencedOpening treeTable p w N).map (fun s=>(s.heap,s.gens,s.drawn,s.toks))=some (boot_heap w.params,Array.mk [],boot_drawn,boot_toks))
  (h1:∀ (w:World) (os:OsState),(topFrom treeTable p w N ⟨boot_heap w.params,Array.mk [],boot_drawn,boot_toks,os⟩).map (fun s=>openSeen q loose (importedModules p.main.body) Xt g0 s)=some (openGood q loose))
  (h2:∀ (w:World) (os:OsState),(topFrom treeTable p w N ⟨boot_heap w.params,Array.mk [],boot_drawn,boot_toks,os⟩).map (fun s=>Yf s)=some (Ya w)):LeftO p q loose Xt Yf Ya N g0 :=
 left_boot open_ fun w os=>by
  have a:=h1 w os
  have b:=h2 w os
  generalize topFrom treeTable p w N ⟨boot_heap w.params,Array.mk [],boot_drawn,boot_toks,os⟩=r at a b
  cases r with
  | none=>cases a
  | some s=>exact congrArg some (Prod.ext (Option.some.inj a) (Option.some.inj b))
noncomputable def s0B (w:World) (os:OsState):Shared:=⟨boot_heap w.params,Array.mk [],boot_drawn,boot_toks,os⟩
noncomputable def ofLB:List Obj->Nat->BT->BT
 | [],_,t=>t
 | o::r,n,t=>ofLB r (n+1) (t.ins n o)
noncomputable def sTB (w:World) (os:OsState):SharedT:=⟨ofLB (boot_heap w.params).objs.toList 0 .nil,(boot_heap w.params).objs.size,(boot_heap w.params).life,Array.mk [],boot_drawn,boot_toks,os⟩
noncomputable def topRunQ (p:Program) (w:World) (n₀:Nat) (ann:Option Value):Nat->SharedT->Thread->Option SharedT
 | 0,_,_=>none
 | n+1,s,t=>match through t with
  | true=>some s
  | false=>match PySem.W.Fast.tw6613529449190102663 n₀ ann t with
   | false=>none
   | true=>match PySem.W.Fast.tw10156331382660048174 (PySem.W.Fast.tw11892475500146522536 PySem.W.Fast.tw14364793385576792824) p w s t with
    | some (s',t')=>topRunQ p w n₀ ann n s' t'
    | none=>none
theorem topRunQ_spec {p:Program} {w:World} {n₀:Nat} {ann:Option Value}:∀ {n:Nat} {s s':SharedT} {t:Thread},topRunQ p w n₀ ann n s t=some s'->topRun treeTable p w n₀ ann n s.abs t=some s'.abs
 | 0,_,_,_,h=>by cases h
 | n+1,s,s',t,h=>by
  unfold topRunQ at h
  rw [<- PySem.W.Fast.te6613529449190102663,<- PySem.W.Fast.te10156331382660048174,<- PySem.W.Fast.te11892475500146522536,<- PySem.W.Fast.te14364793385576792824] at h
  unfold topRun
  cases he:through t with
  | true=>rw [he] at h;cases h;rfl
  | false=>
   rw [he] at h
   cases hk:stepOk n₀ ann t with
   | false=>rw [hk] at h;cases h
   | true=>
    rw [hk] at h
    cases hs:stepT (denote treeTable) p w s t with
    | none=>rw [hs] at h;cases h
    | some r=>obtain ⟨s₂,t₂⟩:=r;rw [hs] at h;rw [stepT_spec hs];exact topRunQ_spec h
set_option maxHeartbeats 0 in
theorem sTB_abs:∀ (w:World) (os:OsState),(sTB w os).abs=s0B w os:=by
 intro w os
 kernel_rfl
set_option maxHeartbeats 0 in
theorem s0B_ns:∀ (w:World) (os:OsState),((s0B w os).heap.isNs mainGlobals && (s0B w os).gens.size == 0)=true:=by
 intro w os
 kernel_rfl
noncomputable def topOkB (p:Program) (s₀ s₁:Shared):Bool:=staticsOk (importedModules p.main.body) s₀.heap s₁.heap && namesBound p s₁.heap && gensDone s₁ && laidKept s₀.heap s₁.heap
theorem via_tree {α:Type} {p:Program} {N:Nat} {F:Shared->α} {G:α} (w:World) (os:OsState)
  (h:(topRunQ p w (s0B w os).heap.objs.size ((s0B w os).heap.nsMap mainGlobals "__annotations__") N (sTB w os) (topStub p)).map (fun s=>(topOkB p (s0B w os) s.abs,F s.abs))=some (true,G)):(topFrom treeTable p w N ⟨boot_heap w.params,Array.mk [],boot_drawn,boot_toks,os⟩).map F=some G:=by
 obtain ⟨s',e1,e2⟩:=yAZ.mp h
 have r:=topRunQ_spec e1
 rw [sTB_abs] at r
 obtain ⟨e3,e4⟩:=Prod.mk.inj e2
 show (topFrom treeTable p w N (s0B w os)).map F=some G
 unfold topFrom
 rw [s0B_ns w os]
 dsimp only
 rw [r,Option.bind_some]
 unfold topOkB at e3
 rw [e3]
 exact congrArg some e4
noncomputable def vw (p:Program) (ix:List Nat):Program:={ p with main:={ p.main with body:=ix.filterMap fun i=>p.main.body[i]? } }
noncomputable def Vw:Program:=vw PySem.Challenge.pw_sorthall_k82_no_row [1,2,3,4,5,6,7,8,9,11,12,14,15,16,18,19,20,21,22,23,24,25,26,27,28,29]
set_option maxHeartbeats 0 in
theorem seen1:∀ (w:World) (os:OsState),(topFrom treeTable PySem.Challenge.pw_sorthall_k82_no_row w 5166 ⟨boot_heap w.params,Array.mk [],boot_drawn,boot_toks,os⟩).map (fun s=>openSeen L2.Vw [] (importedModules PySem.Challenge.pw_sorthall_k82_no_row.main.body) (fun s=>xlAt L2.Vw [] s && recOk (RowW.records (OpenRow.toRowW (OpenLaw.row PySem.Challenge.rw_sorthall_k82_no_row))) s) true s)=some (openGood L2.Vw []):=by
 intro w os
 refine via_tree w os ?_
 rw [PySem.W.Fast.te4187177175401517315]
 kernel_rfl
local macro_rules | `(tactic| o_law)=>`(tactic| refine holds_law (by decide +kernel) fun said=>?_)
set_option hygiene false in
local macro_rules | `(tactic| o_head $H)=>`(tactic| (refine holds_open (q:=L2.Vw) (loose:=[]) (Xt:=fun s=>xlAt L2.Vw [] s && recOk (RowW.records _) s) (XP:=XL L2.Vw []) (Yf:=Hook.obs $H) (Ya:=Hook.val $H) (YP:=Hook.says $H) (N:=5166) ?hl (Hook.of $H) (Hook.keeps $H) (fun s e=>xl_of s (Bool.and_eq_true_iff.mp e).1) XL.keeps (by rfl) (by rfl) (by rfl) (fun s e=>recFacts_of (Bool.and_eq_true_iff.mp e).2) (by rfl) (by first | assumption | decide +kernel) (by decide +kernel) ⟨rfl,rfl,rfl,rfl,rfl,by decide +kernel⟩ ?hw ?hc;(case hl=>(refine L2.left_two (PySem.W.boot_open (by rfl) (by decide) (fun s=>rfl)) (fun w os=>?h1) (fun w os=>?h2);(case h1=>exact L2.seen1 w os);(case h2=>(refine L2.via_tree w os ?_;kernel_rfl))))))
set_option maxHeartbeats 0 in
open_top hd0 for PySem.Challenge.rw_sorthall_k82_no_row
end L2
namespace L2
open PySem PySem.Spec PyProof.Rows
noncomputable abbrev Key:=Sum Int Str
noncomputable def keyIs:Key->Value->Bool
 | .inl k,v=>Value.isInt k v
 | .inr x,v=>Value.isStrOf x v
noncomputable def keyH (w:World):Key->Int
 | .inl k=>hashInt k
 | .inr x=>hashStr w x
theorem ZAd:∀ {k:Key} {v:Value},keyIs k v=true->(∃ i t,k=Sum.inl i /\ v=Value.int i t)∨(∃ x t,k=Sum.inr x /\ v=Value.str x t)
 | .inl i,v,h=>by
  obtain ⟨t,e⟩:=Value.isInt_shape (k:=i) (v:=v) h
  exact .inl ⟨i,t,rfl,e⟩
 | .inr x,v,h=>by
  obtain ⟨t,e⟩:=Value.isStrOf_shape (x:=x) (v:=v) h
  exact .inr ⟨x,t,rfl,e⟩
theorem key_ll (a b:Int):decide ((Sum.inl a:Key)=Sum.inl b)=(a == b):=by
 by_cases e:a=b
 .subst e;simp
 .have h:¬ (Sum.inl a:Key)=Sum.inl b:=fun q=>e (Sum.inl.inj q)
  rw [decide_eq_false h]
  exact (beq_eq_false_iff_ne.mpr e).symm
theorem key_rr (a b:Str):decide ((Sum.inr a:Key)=Sum.inr b)=decide (a=b):=by
 by_cases e:a=b
 .subst e;simp
 .have h:¬ (Sum.inr a:Key)=Sum.inr b:=fun q=>e (Sum.inr.inj q)
  rw [decide_eq_false h,decide_eq_false e]
theorem key_lr (a:Int) (b:Str):decide ((Sum.inl a:Key)=Sum.inr b)=false:=decide_eq_false (fun q=>nomatch q)
theorem key_rl (a:Str) (b:Int):decide ((Sum.inr a:Key)=Sum.inl b)=false:=decide_eq_false (fun q=>nomatch q)
noncomputable def mixKind (prog:Program) (w:World):PySem.KeyKind prog w Key where
 is:=keyIs
 hash:=keyH w
 inj:=fun v a b ha hb=>by
  rcases ZAd ha with ⟨i,t,rfl,rfl⟩ | ⟨x,t,rfl,rfl⟩
  .rcases ZAd hb with ⟨j,u,rfl,e⟩ | ⟨y,u,rfl,e⟩
   .injection e with e1 _;rw [e1]
   .exact nomatch e
  .rcases ZAd hb with ⟨j,u,rfl,e⟩ | ⟨y,u,rfl,e⟩
   .exact nomatch e
   .injection e with e1 _;rw [e1]
 byValue:=fun k v h=>by
  rcases ZAd h with ⟨i,t,rfl,rfl⟩ | ⟨x,t,rfl,rfl⟩ <;> rfl
 pyHash:=fun hv h=>by
  rcases ZAd hv with ⟨i,t,rfl,rfl⟩ | ⟨x,t,rfl,rfl⟩
  .exact wpAny_pyHash_int h
  .exact wpAny_pyHash_str h
 eqBool:=fun hu hv h=>by
  rcases ZAd hu with ⟨i,t,rfl,rfl⟩ | ⟨x,t,rfl,rfl⟩
  .rcases ZAd hv with ⟨j,u,rfl,rfl⟩ | ⟨y,u,rfl,rfl⟩
   .rw [key_ll] at h;exact wpAny_eqBool_int h
   .rw [key_lr] at h;exact SeqAt.EqAt.int_str i t y u _ _ _ _ h
  .rcases ZAd hv with ⟨j,u,rfl,rfl⟩ | ⟨y,u,rfl,rfl⟩
   .rw [key_rl] at h;exact SeqAt.EqAt.str_int x t j u _ _ _ _ h
   .rw [key_rr] at h;exact wpAny_eqBool_str h
 «strs»:=fun k x t v h=>by
  rcases ZAd h with ⟨i,u,rfl,e⟩ | ⟨y,u,rfl,e⟩
  .exact nomatch e
  .injection e with e1 _
   subst e1
   cases v <;> rfl
inductive V where
 | non | bl (b:Bool) | int (i:Int) | str (x:Str) | byt (b:Array UInt8) | flt (b:UInt64) | ref (a:Addr) | ty (n:String)
 deriving DecidableEq
noncomputable def RelV:V->Value->Prop
 | .non,u=>u=Value.none
 | .bl b,u=>u=Value.bool b
 | .int i,u=>∃ t,u=Value.int i t
 | .str x,u=>∃ t,u=Value.str x t
 | .byt b,u=>∃ t,u=Value.bytes b t
 | .flt b,u=>∃ t,u=Value.float b t
 | .ref a,u=>u=Value.ref a
 | .ty n,u=>u=Value.type n
noncomputable abbrev Vals:List V->List Value->Prop:=Paired RelV
theorem Vals.length {xs:List V} {us:List Value} (r:Vals xs us):xs.length=us.length:=Paired.length r
theorem Vals.get:∀ {xs:List V} {us:List Value} {i:Nat} {x:V},Vals xs us->xs[i]?=some x->∃ u,us[i]?=some u /\ RelV x u
 | _,_,_,_,.nil,e=>by simp at e
 | _,_,0,_,.cons r _,e=>by simp at e;subst e;exact ⟨_,rfl,r⟩
 | _,_,i+1,x,.cons _ t,e=>by
  obtain ⟨u,h1,h2⟩:=Vals.get (i:=i) (x:=x) t (by simpa using e)
  exact ⟨u,by simpa using h1,h2⟩
theorem Vals.append:∀ {xs ys:List V} {us ws:List Value},Vals xs us->Vals ys ws->Vals (xs++ys) (us++ws)
 | _,_,_,_,.nil,s=>s
 | _,_,_,_,.cons r t,s=>.cons r (Vals.append t s)
theorem Vals.take:∀ {xs:List V} {us:List Value} (n:Nat),Vals xs us->Vals (xs.take n) (us.take n)
 | _,_,0,_=>.nil
 | _,_,_+1,.nil=>.nil
 | _,_,n+1,.cons r t=>.cons r (Vals.take n t)
theorem Vals.drop:∀ {xs:List V} {us:List Value} (n:Nat),Vals xs us->Vals (xs.drop n) (us.drop n)
 | _,_,0,r=>r
 | _,_,_+1,.nil=>.nil
 | _,_,n+1,.cons _ t=>Vals.drop n t
noncomputable def RelO:Option V->Option Value->Prop
 | some v,some u=>RelV v u
 | none,none=>True
 | _,_=>False
noncomputable def KV {κ:Type}:List (κ×V)->List (κ×Value)->Prop:=Paired fun (p:κ×V) (q:κ×Value)=>p.1=q.1 /\ RelV p.2 q.2
noncomputable def kV:Key->V
 | .inl i=>.int i
 | .inr x=>.str x
inductive HO where
 | lst (xs:List V)
 | tup (xs:List V)
 | dK (kvs:List (Key×V)) | dT (kvs:List (List Key×V))
 | set (S:Int->Bool) (n:Nat)
 | ins (C dx:Addr) (fs:List (Str×V))
 | own (x:Addr)
 | xd (fs:List (Str×V))
 | met (f x:Addr)
 | rng (lo hi:Int)
 | frz (o:Obj) (u:HO)
 | tbl (ps:Array Value)
 | ext (φ:Heap->Prop)
noncomputable abbrev Hp:=Addr->Option HO
noncomputable def upd (H:Hp) (a:Addr) (o:HO):Hp:=fun b=>if b=a then some o else H b
theorem ZAI {H:Hp} {a:Addr} {o:HO}:upd H a o a=some o:=by unfold upd;rw [if_pos rfl]
theorem ZAH {H:Hp} {a b:Addr} {o:HO} (h:b≠a):upd H a o b=H b:=by unfold upd;rw [if_neg h]
theorem ZAG {H:Hp} {a b:Addr} {o:HO} (h:H a=some o) (h':H b=none):a≠b:=by
 intro e;subst e;rw [h] at h';cases h'
section
variable (P:Program) (w:World)
noncomputable def ObjOk (H:Hp) (h:Heap) (a:Addr):HO->Prop
 | .lst xs=>xs.length <= sizeLine /\ ∃ (its:List Value) (n:Nat),Vals xs its /\ h.get? a=some { cls:=.type "list",data:=.seq its.toArray n }
 | .tup xs=>xs.length <= sizeLine /\ ∃ its:List Value,Vals xs its /\ IsTup h a its.toArray
 | .dK kvs=>kvs.length <= sizeLine /\ (a == sysModules)=false /\ ∃ vs,KV kvs vs /\ h.DictOf (mixKind P w) a vs
 | .dT kvs=>kvs.length <= sizeLine /\ (a == sysModules)=false /\ ∃ xs:List (List Key×Addr×Value),
   Paired (fun (p:List Key×V) (q:List Key×Addr×Value)=>p.1=q.1 /\ H q.2.1=some (.tup (p.1.map kV)) /\ RelV p.2 q.2.2) kvs xs /\
   ∃ o es ep,h.get? a=some o /\ o.ExactDict /\ o.data=.dict es ep /\ es.toList=xs.map (entryOfKey (tupleKind (mixKind P w))) /\ (xs.map (·.1)).Nodup
 | .set S n=>h.SetOf (intKind P w) a S n
 | .ins C dx fs=>H dx=some (.own a) /\ fs.length <= 1000 /\ dx≠a /\ h.get? a=some (PySem.W.instObj C dx) /\
   ∃ mA,h.Ns1 dx mA /\ (∀ f,RelO (fs.lookup f) (mA f)) /\ PySem.Within mA (fs.map (·.1))
 | .own _=>∃ o,h.get? a=some o
 | .xd fs=>∃ mA,h.Ns1 a mA /\ ∀ f,RelO (fs.lookup f) (mA f)
 | .rng lo hi=>∃ t u v,h.get? a=some { cls:=.type "range",data:=.fields #[.int lo t,.int hi u,.int 1 v] }
 | .frz o u=>h.get? a=some o /\ ObjOk H h a u
 | .tbl ps=>h.get? a=some { cls:=.none,data:=.fields ps }
 | .met f x=>h.get? a=some (PySem.W.methodObj (.ref f) (.ref x))
 | .ext φ=>φ h /\ (∃ o,h.get? a=some o) /\ ∀ h1 h2:Heap,φ h1->(∀ o,h1.get? a=some o->h2.get? a=some o)->φ h2
noncomputable def HOk (H:Hp) (h:Heap):Prop:=∀ a o,H a=some o->ObjOk P w H h a o
end
section
variable {P:Program} {w:World} {H H':Hp} {h h':Heap} {a:Addr} {o:HO}
theorem ObjOk.lt (x:ObjOk P w H h a o):a < h.objs.size:=by
 cases o with
 | lst xs=>obtain ⟨_,_,_,_,e⟩:=x;exact Heap.lt_size e
 | tup xs=>obtain ⟨_,_,_,p⟩:=x;exact p.lt
 | dK kvs=>obtain ⟨_,_,_,_,o,_,_,e,_⟩:=x;exact Heap.lt_size e
 | dT kvs=>obtain ⟨_,_,_,_,o,_,_,e,_⟩:=x;exact Heap.lt_size e
 | set S n=>obtain ⟨o,_,_,_,e,_⟩:=x;exact Heap.lt_size e
 | ins C dx fs=>obtain ⟨_,_,_,e,_⟩:=x;exact Heap.lt_size e
 | own y=>obtain ⟨_,e⟩:=x;exact Heap.lt_size e
 | xd fs=>obtain ⟨_,⟨_,_,_,e,_⟩,_⟩:=x;exact Heap.lt_size e
 | rng lo hi=>obtain ⟨_,_,_,e⟩:=x;exact Heap.lt_size e
 | frz ob u=>obtain ⟨e,_⟩:=x;exact Heap.lt_size e
 | tbl ps=>exact Heap.lt_size (show h.get? a=some _ from x)
 | met f y=>exact Heap.lt_size (show h.get? a=some _ from x)
 | ext φ=>obtain ⟨_,⟨_,e⟩,_⟩:=x;exact Heap.lt_size e
theorem Paired.mapP {α β:Type} {F G:α->β->Prop}:∀ {l₁:List α} {l₂:List β},Paired F l₁ l₂->(∀ a b,F a b->G a b)->Paired G l₁ l₂
 | _,_,.nil,_=>.nil
 | _,_,.cons r t,f=>.cons (f _ _ r) (Paired.mapP t f)
theorem ObjOk.stay (x:ObjOk P w H h a o) (k:∀ b u,(b=a∨H b=some (.own a))->h.get? b=some u->h'.get? b=some u)
  (ho:∀ b,H b=some (.own a)->H' b=some (.own a)) (ht:∀ b xs,H b=some (.tup xs)->H' b=some (.tup xs)):ObjOk P w H' h' a o:=by
 induction o with
 | lst xs=>obtain ⟨z,its,n,r,e⟩:=x;exact ⟨z,its,n,r,k _ _ (.inl rfl) e⟩
 | tup xs=>obtain ⟨z,its,r,ob,e,c⟩:=x;exact ⟨z,its,r,ob,k _ _ (.inl rfl) e,c⟩
 | dK kvs=>obtain ⟨z,y,vs,r,ob,es,ep,e,c⟩:=x;exact ⟨z,y,vs,r,ob,es,ep,k _ _ (.inl rfl) e,c⟩
 | dT kvs=>
  obtain ⟨z,y,xs,r,ob,es,ep,e,c⟩:=x
  exact ⟨z,y,xs,Paired.mapP r fun p q z=>⟨z.1,ht _ _ z.2.1,z.2.2⟩,ob,es,ep,k _ _ (.inl rfl) e,c⟩
 | set S n=>obtain ⟨ob,es,ep,t,e,c⟩:=x;exact ⟨ob,es,ep,t,k _ _ (.inl rfl) e,c⟩
 | ins C dx fs=>
  obtain ⟨d,z,ne,e,mA,⟨od,es,ep,e2,c⟩,r⟩:=x
  exact ⟨ho _ d,z,ne,k _ _ (.inl rfl) e,mA,⟨od,es,ep,k _ _ (.inr d) e2,c⟩,r⟩
 | own y=>obtain ⟨ob,e⟩:=x;exact ⟨ob,k _ _ (.inl rfl) e⟩
 | xd fs=>obtain ⟨mA,⟨od,es,ep,e,c⟩,r⟩:=x;exact ⟨mA,⟨od,es,ep,k _ _ (.inl rfl) e,c⟩,r⟩
 | rng lo hi=>obtain ⟨t,u,v,e⟩:=x;exact ⟨t,u,v,k _ _ (.inl rfl) e⟩
 | frz ob u ih=>obtain ⟨e,q⟩:=x;exact ⟨k _ _ (.inl rfl) e,ih q⟩
 | tbl ps=>
  have e:h.get? a=some { cls:=.none,data:=.fields ps }:=x
  show h'.get? a=some { cls:=.none,data:=.fields ps }
  exact k a _ (.inl rfl) e
 | met f y=>
  have e:h.get? a=some (PySem.W.methodObj (.ref f) (.ref y)):=x
  show h'.get? a=some (PySem.W.methodObj (.ref f) (.ref y))
  exact k a _ (.inl rfl) e
 | ext φ=>obtain ⟨p,⟨o,e⟩,st⟩:=x;exact ⟨st _ _ p fun o q=>k _ _ (.inl rfl) q,⟨o,k _ _ (.inl rfl) e⟩,st⟩
theorem HOk.lt (x:HOk P w H h) (e:H a=some o):a < h.objs.size:=(x a o e).lt
theorem HOk.fresh (x:HOk P w H h) (e:h.objs.size <= a):H a=none:=by
 cases q:H a with
 | none=>rfl
 | some u=>exact absurd (yAF (x.lt q) e) (yAW _)
theorem HOk.kept (x:HOk P w H h) (k:∀ b u,h.get? b=some u->h'.get? b=some u):HOk P w H h':=fun a o e=>
 (x a o e).stay (fun b u _ q=>k b u q) (fun _ q=>q) fun _ _ q=>q
theorem HOk.laid (x:HOk P w H h) (k:∀ b u,h.get? b=some u->h'.get? b=some u) (hp:h.objs.size <= a) (new:ObjOk P w (upd H a o) h' a o):HOk P w (upd H a o) h':=fun b u e=>by
 have hn:=x.fresh hp
 by_cases hb:b=a
 .subst hb;rw [ZAI] at e;cases e;exact new
 .rw [ZAH hb] at e
  exact (x b u e).stay (fun c v _ q=>k c v q) (fun c q=>by rw [ZAH (ZAG q hn)];exact q) fun c xs q=>by rw [ZAH (ZAG q hn)];exact q
end
noncomputable def Rd (H:Hp) (a:Addr) (u:HO):Prop:=H a=some u∨∃ o,H a=some (.frz o u)
theorem Rd.ok {P:Program} {w:World} {H:Hp} {h:Heap} {a:Addr} {u:HO} (r:Rd H a u) (x:HOk P w H h):ObjOk P w H h a u:=by
 rcases r with r | ⟨o,r⟩
 .exact x a u r
 .obtain ⟨_,q⟩:=x a _ r
  exact q
noncomputable def Mut:Option HO->Prop
 | some (.lst _)=>True
 | some (.dK _)=>True
 | some (.dT _)=>True
 | some (.set _ _)=>True
 | some (.ins _ _ _)=>True
 | some (.ext _)=>True
 | _=>False
section
variable {P:Program} {w:World} {H:Hp} {h h':Heap} {x e:Addr} {o':HO}
theorem HOk.write (ok:HOk P w H h) (mu:Mut (H x)) (he:e=x∨H e=some (.own x)) (k:∀ b u,b≠e->h.get? b=some u->h'.get? b=some u) (heo:∃ u,h'.get? e=some u)
  (new:ObjOk P w (upd H x o') h' x o'):HOk P w (upd H x o') h':=fun b u q=>by
 have nown:∀ c y,H c=some (.own y)->c≠x:=fun c y r z=>by subst z;rw [r] at mu;exact mu
 have ntup:∀ c xs,H c=some (.tup xs)->c≠x:=fun c xs r z=>by subst z;rw [r] at mu;exact mu
 by_cases hb:b=x
 .subst hb;rw [ZAI] at q;cases q;exact new
 .rw [ZAH hb] at q
  by_cases hbe:b=e
  .have q':H b=some (.own x):=by
    rcases he with z | z
    .exact absurd (hbe.trans z) hb
    .rw [hbe];exact z
   rw [q] at q';cases q'
   obtain ⟨v,hv⟩:=heo
   exact ⟨v,by rw [hbe];exact hv⟩
  .refine (ok b u q).stay (fun c v hc r=>k c v ?_ r) (fun c r=>by rw [ZAH (nown c b r)];exact r) fun c xs r=>by rw [ZAH (ntup c xs r)];exact r
   rcases hc with rfl | hc
   .exact hbe
   .rintro rfl
    rcases he with z | z
    .exact nown c b hc z
    .rw [hc] at z;cases z;exact hb rfl
end
structure Un (fs ex:List Addr) (H H':Hp) (h h':Heap):Prop where
 keep:∀ b o,h.get? b=some o->H b=none->b∉fs->b∉ex->h'.get? b=some o
 slot:∀ b o,h.get? b=some o->H b=none->b∈fs->b∉ex->∃ sl,h'.get? b=some { o with slots:=sl }
 free:∀ b o,h.get? b=some o->H b=none->b∉ex->H' b=none
 there:∀ b o,h.get? b=some o->b∉ex->∃ o',h'.get? b=some o'
 tups:∀ b xs,H b=some (.tup xs)->H' b=some (.tup xs)
 frzs:∀ b o u,H b=some (.frz o u)->H' b=some (.frz o u)
 tbls:∀ b ps,H b=some (.tbl ps)->∃ more,H' b=some (.tbl (ps++more))
section
variable {fs fs' ex ex':List Addr} {H H1 H2:Hp} {h h1 h2 h':Heap} {a x e:Addr} {o:HO}
theorem Un.any (u:Un fs ex H H1 h h1) {b:Addr} {ob:Obj} (q:h.get? b=some ob) (n:H b=none) (hx:b∉ex):∃ sl,h1.get? b=some { ob with slots:=sl }:=by
 by_cases hb:b∈fs
 .exact u.slot b ob q n hb hx
 .exact ⟨ob.slots,u.keep b ob q n hb hx⟩
theorem Un.trans (a:Un fs ex H H1 h h1) (b:Un fs ex H1 H2 h1 h2):Un fs ex H H2 h h2 where
 keep:=fun c ob q n hc hx=>b.keep c ob (a.keep c ob q n hc hx) (a.free c ob q n hx) hc hx
 slot:=fun c ob q n hc hx=>by
  obtain ⟨sl,e1⟩:=a.slot c ob q n hc hx
  obtain ⟨sl',e2⟩:=b.slot c _ e1 (a.free c ob q n hx) hc hx
  exact ⟨sl',e2⟩
 free:=fun c ob q n hx=>by
  obtain ⟨o',e1⟩:=a.there c ob q hx
  exact b.free c o' e1 (a.free c ob q n hx) hx
 there:=fun c ob q hx=>by
  obtain ⟨o',e1⟩:=a.there c ob q hx
  exact b.there c o' e1 hx
 tups:=fun c xs q=>b.tups c xs (a.tups c xs q)
 frzs:=fun c ob xs q=>b.frzs c ob xs (a.frzs c ob xs q)
 tbls:=fun c ps q=>by
  obtain ⟨m1,e1⟩:=a.tbls c ps q
  obtain ⟨m2,e2⟩:=b.tbls c _ e1
  exact ⟨m1++m2,by rw [e2,Array.append_assoc]⟩
theorem Un.kept (k:∀ b u,h.get? b=some u->h'.get? b=some u):Un fs ex H H h h' :=
 ⟨fun b ob q _ _ _=>k b ob q,fun b ob q _ _ _=>⟨ob.slots,k b ob q⟩,fun _ _ _ n _=>n,fun b ob q _=>⟨ob,k b ob q⟩,fun _ _ q=>q,fun _ _ _ q=>q,fun _ ps q=>⟨#[],by rw [q];simp⟩⟩
theorem Un.refl:Un fs ex H H h h:=Un.kept fun _ _ q=>q
theorem Un.laid (k:∀ b u,h.get? b=some u->h'.get? b=some u) (hp:h.objs.size <= a) (hn:H a=none):Un fs ex H (upd H a o) h h' where
 keep:=fun b u q _ _ _=>k b u q
 slot:=fun b u q _ _ _=>⟨u.slots,k b u q⟩
 free:=fun b u q n _=>by rw [ZAH (yAD (yAF (Heap.lt_size q) hp))];exact n
 there:=fun b u q _=>⟨u,k b u q⟩
 tups:=fun b xs q=>by rw [ZAH (ZAG q hn)];exact q
 frzs:=fun b u xs q=>by rw [ZAH (ZAG q hn)];exact q
 tbls:=fun b ps q=>⟨#[],by rw [ZAH (ZAG q hn),q];simp⟩
theorem Un.write (mu:Mut (H x)) (he:e=x∨H e=some (.own x)) (k:∀ b u,b≠e->h.get? b=some u->h'.get? b=some u) (heo:∃ u,h'.get? e=some u):Un fs ex H (upd H x o) h h':=by
 have hx:∀ b,H b=none->b≠x:=fun b n z=>by subst z;rw [n] at mu;exact mu
 have hb:∀ b,H b=none->b≠e:=fun b n z=>by
  subst z
  rcases he with r | r
  .exact hx b n r
  .rw [n] at r;cases r
 have hm:∀ b u,H b=some u->¬ Mut (some u)->b≠x:=fun b u q nm z=>by subst z;rw [q] at mu;exact nm mu
 refine ⟨fun b u q n _ _=>k b u (hb b n) q,fun b u q n _ _=>⟨u.slots,k b u (hb b n) q⟩,fun b u q n _=>by rw [ZAH (hx b n)];exact n,fun b u q _=>?_,
  fun b xs q=>by rw [ZAH (hm b _ q fun z=>z)];exact q,fun b u xs q=>by rw [ZAH (hm b _ q fun z=>z)];exact q,fun b ps q=>⟨#[],by rw [ZAH (hm b _ q fun z=>z),q];simp⟩⟩
 by_cases hbe:b=e
 .subst hbe;exact heo
 .exact ⟨u,k b u hbe q⟩
end
noncomputable def trk (h:Heap) (H:Hp):List Addr:=(List.range h.objs.size).filter fun a=>(H a).isSome
noncomputable def hidT (h:Heap) (H:Hp):Heap:=PySem.W.hideAll h (trk h H)
theorem hidT_size (h:Heap) (H:Hp):(hidT h H).objs.size=h.objs.size:=PySem.W.hideAll_size _ _
theorem hidT_get {h:Heap} {H:Hp} {b:Addr} {o:Obj} (e:h.get? b=some o) (n:H b=none):(hidT h H).get? b=some o :=
 PySem.W.hideAll_get _ e fun hm=>by
  have q:(H b).isSome=true:=(List.mem_filter.mp hm).2
  rw [n] at q;simp at q
theorem of_hidT {h:Heap} {H:Hp} {b:Addr} {o:Obj} (e:(hidT h H).get? b=some o):h.get? b=some o /\ H b=none:=by
 have e':h.get? b=some o:=PySem.W.of_hideAll (trk h H) e
 refine ⟨e',?_⟩
 cases q:H b with
 | none=>rfl
 | some x=>
  have hm:b∈trk h H:=List.mem_filter.mpr ⟨List.mem_range.mpr (Heap.lt_size e'),by simp [q]⟩
  have z:(hidT h H).get? b=none:=PySem.W.hideAll_none (trk h H) hm
  rw [z] at e;cases e
structure Mod (K:W.Frag) (mg:Str->Option Value) (base:Heap):Prop where
 kin:K.In base
 glob:base.Ns mainGlobals mg
 blt:∃ mb,base.Ns builtinsNs mb /\ ∀ x:Str,x≠"__name__"->mb x=bootBuiltins x
 nolimit:base.NoLimit
structure Cx where
 prog:Program
 w:World
 K:W.Frag
 mg:Str->Option Value
 base:Heap
 A:Around
 N:List Str
 s₀:Shared
 H₀:Hp
 env:Env
 outer:List Env
 stack:List Env
 ex:List Addr
 fn:Str->Bool
 calm:Bool
 pn:List (Addr×Obj)
 xe:Value->Shared->Prop
noncomputable def frs (l:List Env):List Addr:=l.filterMap (·.frame)
noncomputable abbrev Cx.fs (X:Cx):List Addr:=frs X.outer
noncomputable def Vis (sc:Scope) (x:Str):Prop:=sc.names.lookup x=some .local∨sc.names.lookup x=some .cell∨sc.names.lookup x=some .free
noncomputable def Loc (sc:Scope) (x:Str):Prop:=sc.names.lookup x=some .local∨sc.names.lookup x=some .cell
noncomputable def Look (env:Env) (h:Heap) (m:Str->Option Value) (x:Str) (u:Value):Prop :=
 (env.kindOf x=some .local /\ m x=some u)∨((env.kindOf x=some .cell∨env.kindOf x=some .free) /\ ∃ c,env.cells.lookup x=some c /\ h.IsCell c (some u))
structure Cx.Ok (X:Cx):Prop where
 mod:Mod X.K X.mg X.base
 kind:X.env.scope.kind=.function
 glob:X.env.globals=mainGlobals
 blt:X.env.builtins=builtinsNs
 above:X.s₀.heap.objs.size <= X.env.locals
 inj:∀ x y c,X.env.cells.lookup x=some c->X.env.cells.lookup y=some c->x=y
 has:∀ x,(X.env.kindOf x=some .cell∨X.env.kindOf x=some .free)->∃ c,X.env.cells.lookup x=some c
 cab:∀ x c,X.fn x=true->X.env.cells.lookup x=some c->X.s₀.heap.objs.size <= c
 hd:X.calm=true->X.A.handled=none
 frames:X.A.frames=some X.stack
 stk:X.stack=X.outer∨(X.stack=X.env::X.outer /\ X.env.frame=some X.env.locals)
 exf:∀ b∈X.ex,b≠X.env.locals /\ ∀ x c,X.env.cells.lookup x=some c->c≠b
 bs:∀ b o,X.base.get? b=some o->X.s₀.heap.get? b=some o /\ X.H₀ b=none
 bsz:X.base.objs.size <= X.s₀.heap.objs.size
 noex:∀ b o,X.base.get? b=some o->b∉X.ex
 exfs:∀ b∈X.ex,b∉X.fs
 funs:X.s₀.heap.FunFrames X.base X.outer
 frf:∀ b∈X.fs,X.H₀ b=none
structure Inv (X:Cx) (pins:List (Addr×Obj)) (σ:List (Option V)) (H:Hp) (s:Shared):Prop where
 ok:X.Ok
 os:s.os=X.s₀.os
 bare:AllBare s.gens
 base:Un X.fs X.ex X.H₀ H X.s₀.heap s.heap
 loc:∃ m,s.heap.Ns X.env.locals m /\ ∀ (i:Nat) (x:Str) (v:V),X.N[i]?=some x->σ[i]?=some (some v)->Vis X.env.scope x->∃ u,RelV v u /\ Look X.env s.heap m x u
 cell:∀ x c,X.env.cells.lookup x=some c->∃ v,s.heap.IsCell c v
 free:H X.env.locals=none
 freeC:∀ x c,X.env.cells.lookup x=some c->H c=none
 pin:∀ p∈X.pn++pins,s.heap.get? p.1=some p.2 /\ H p.1=none /\ p.1≠X.env.locals /\ p.1∉X.fs /\ ∀ v,p.2.data≠.cell v
 hok:HOk X.prog X.w H s.heap
 len:σ.length=X.N.length
section
variable {X:Cx} {pins:List (Addr×Obj)} {σ:List (Option V)} {H H':Hp} {s:Shared} {h':Heap}
theorem Cx.Ok.nofr (ok:X.Ok) {b:Addr} {o:Obj} (e:X.base.get? b=some o):b∉X.fs:=fun hb=>by
 have:=(ok.funs.mem hb).1
 rw [e] at this;cases this
theorem Inv.bs (I:Inv X pins σ H s):∀ b o,X.base.get? b=some o->s.heap.get? b=some o /\ H b=none:=fun b o e=>
 ⟨I.base.keep b o (I.ok.bs b o e).1 (I.ok.bs b o e).2 (I.ok.nofr e) (I.ok.noex b o e),I.base.free b o (I.ok.bs b o e).1 (I.ok.bs b o e).2 (I.ok.noex b o e)⟩
theorem Inv.bk (I:Inv X pins σ H s):∀ b o,X.base.get? b=some o->s.heap.get? b=some o:=fun b o e=>(I.bs b o e).1
theorem Inv.mod (I:Inv X pins σ H s):Mod X.K X.mg X.base:=I.ok.mod
theorem Inv.kIn (I:Inv X pins σ H s):X.K.In s.heap:=I.ok.mod.kin.keeps I.bk
theorem Inv.lt (I:Inv X pins σ H s):X.env.locals < s.heap.objs.size:=let ⟨_,hn,_⟩:=I.loc;hn.lt
theorem Inv.sz (I:Inv X pins σ H s):X.s₀.heap.objs.size <= s.heap.objs.size:=yAC I.ok.above (Nat.le_of_lt I.lt)
theorem Inv.nofs (I:Inv X pins σ H s) {a:Addr} (h:s.heap.objs.size <= a):a∉X.fs:=fun hb=>by
 obtain ⟨_,o,ho,_⟩:=I.ok.funs.mem hb
 exact absurd (yAF (Heap.lt_size ho) (yAC I.sz h)) (yAW _)
theorem Inv.cne (I:Inv X pins σ H s):∀ x c,X.env.cells.lookup x=some c->c≠X.env.locals:=fun x c e z=>by
 obtain ⟨v,o,ho,hd⟩:=I.cell x c e
 obtain ⟨m,⟨o',es,ep,ho',hd',_⟩,_⟩:=I.loc
 rw [z,ho'] at ho;cases ho;rw [hd'] at hd;cases hd
theorem Inv.funs (I:Inv X pins σ H s):s.heap.FunFrames X.base X.outer:=by
 have all:∀ (l:List Env),(∀ b∈frs l,b∈X.fs)->X.s₀.heap.FunFrames X.base l->s.heap.FunFrames X.base l:=by
  intro l
  induction l with
  | nil=>intro _ _;trivial
  | cons env r ih=>
   intro hs hl
   obtain ⟨hk,⟨L,o,hf,hn,ho,hd⟩,hr⟩:=hl
   have hL:L∈X.fs:=hs L (by unfold frs;rw [List.filterMap_cons,hf];exact yAE)
   obtain ⟨sl,e⟩:=I.base.slot L o ho (I.ok.frf L hL) hL fun z=>I.ok.exfs L z hL
   exact ⟨hk,⟨L,_,hf,hn,e,hd⟩,ih (fun b hb=>hs b (by unfold frs;rw [List.filterMap_cons,hf];exact yAJ _ hb)) hr⟩
 exact all X.outer (fun _ hb=>hb) I.ok.funs
theorem Inv.stack (I:Inv X pins σ H s):s.heap.FunFrames X.base X.stack:=by
 rcases I.ok.stk with e | ⟨e,hf⟩
 .rw [e];exact I.funs
 .rw [e]
  obtain ⟨m,hn,_⟩:=I.loc
  refine .cons (by rw [I.ok.kind];decide) hf hn ?_ I.funs
  exact Heap.get?_none_of_le (yAC I.ok.bsz I.ok.above)
theorem Inv.stkSub (I:Inv X pins σ H s):∀ b∈frs X.stack,b∈X.env.locals::X.fs:=fun b hb=>by
 rcases I.ok.stk with e | ⟨e,hf⟩
 .rw [e] at hb;exact yAJ _ hb
 .rw [e] at hb
  unfold frs at hb
  rw [List.filterMap_cons,hf] at hb
  exact hb
theorem Inv.stkFree (I:Inv X pins σ H s):∀ b∈frs X.stack,H b=none:=fun b hb=>by
 rcases yAG.mp (I.stkSub b hb) with e | hb
 .rw [e];exact I.free
 .obtain ⟨_,o,ho,_⟩:=I.ok.funs.mem hb
  exact I.base.free b o ho (I.ok.frf b hb) fun z=>I.ok.exfs b z hb
theorem Inv.step {g':Array GenState} {t':Nat} {d':Drawn} {ch:List Addr} (I:Inv X pins σ H s)
  (hch:∀ b∈ch,(b∈X.ex∨X.s₀.heap.objs.size <= b) /\ b≠X.env.locals /\ (∀ x c,X.env.cells.lookup x=some c->c≠b) /\ ∀ p∈X.pn++pins,p.1≠b)
  (keep:∀ b o,b≠X.env.locals->b∉X.fs->b∉ch->s.heap.get? b=some o->H b=none->h'.get? b=some o)
  (slot:∀ b o,b≠X.env.locals->b∈X.fs->b∉ch->s.heap.get? b=some o->H b=none->∃ sl,h'.get? b=some { o with slots:=sl }) (free:∀ b o,b∉ch->s.heap.get? b=some o->H b=none->H' b=none)
  (there:∀ b o,b∉ch->s.heap.get? b=some o->∃ o',h'.get? b=some o')
  (tups:∀ b xs,H b=some (.tup xs)->H' b=some (.tup xs)) (frzs:∀ b o u,H b=some (.frz o u)->H' b=some (.frz o u)) (tbls:∀ b ps,H b=some (.tbl ps)->∃ more,H' b=some (.tbl (ps++more)))
  (ns:∀ m,s.heap.Ns X.env.locals m->h'.Ns X.env.locals m) (hok:HOk X.prog X.w H' h') (hg:AllBare g') :
  Inv X pins σ H' { s with heap:=h',gens:=g',drawn:=d',toks:=t' }:=by
 have neL:∀ b o,X.s₀.heap.get? b=some o->b≠X.env.locals:=fun b o e=>yAD (yAF (Heap.lt_size e) I.ok.above)
 have neC:∀ b o,X.s₀.heap.get? b=some o->b∉X.ex->b∉ch:=fun b o e hx hb=>by
  rcases (hch b hb).1 with z | z
  .exact hx z
  .exact absurd (yAF (Heap.lt_size e) z) (yAW _)
 have cellK:∀ x c,X.env.cells.lookup x=some c->∀ v,s.heap.IsCell c v->h'.IsCell c v:=fun x c e v ⟨o,ho,hd⟩=>by
  have nch:c∉ch:=fun z=>(hch c z).2.2.1 x c e rfl
  by_cases hc:c∈X.fs
  .obtain ⟨sl,q⟩:=slot c o (I.cne x c e) hc nch ho (I.freeC x c e)
   exact ⟨_,q,hd⟩
  .exact ⟨o,keep c o (I.cne x c e) hc nch ho (I.freeC x c e),hd⟩
 refine ⟨I.ok,I.os,hg,⟨fun b o e n hb hx=>?_,fun b o e n hb hx=>?_,fun b o e n hx=>?_,fun b o e hx=>?_,fun b xs e=>tups b xs (I.base.tups b xs e),fun b o xs e=>frzs b o xs (I.base.frzs b o xs e),fun b ps e=>?_⟩,?_,fun x c e=>?_,?_,fun x c e=>?_,fun p hp=>?_,hok,I.len⟩
 .exact keep b o (neL b o e) hb (neC b o e hx) (I.base.keep b o e n hb hx) (I.base.free b o e n hx)
 .obtain ⟨sl,e1⟩:=I.base.slot b o e n hb hx
  obtain ⟨sl',e2⟩:=slot b _ (neL b o e) hb (neC b o e hx) e1 (I.base.free b o e n hx)
  exact ⟨sl',e2⟩
 .obtain ⟨o',e1⟩:=I.base.there b o e hx
  exact free b o' (neC b o e hx) e1 (I.base.free b o e n hx)
 .obtain ⟨o',e1⟩:=I.base.there b o e hx
  exact there b o' (neC b o e hx) e1
 .obtain ⟨m1,e1⟩:=I.base.tbls b ps e
  obtain ⟨m2,e2⟩:=tbls b _ e1
  exact ⟨m1++m2,by rw [e2,Array.append_assoc]⟩
 .obtain ⟨m,hn,hl⟩:=I.loc
  refine ⟨m,ns m hn,fun i x v e1 e2 e3=>?_⟩
  obtain ⟨u,r,l⟩:=hl i x v e1 e2 e3
  refine ⟨u,r,?_⟩
  rcases l with l | ⟨k,c,e,z⟩
  .exact .inl l
  .exact .inr ⟨k,c,e,cellK x c e _ z⟩
 .obtain ⟨v,z⟩:=I.cell x c e
  exact ⟨v,cellK x c e v z⟩
 .obtain ⟨m,⟨o,_,_,ho,_⟩,_⟩:=I.loc
  exact free _ o (fun z=>(hch _ z).2.1 rfl) ho I.free
 .obtain ⟨v,o,ho,hd⟩:=I.cell x c e
  exact free c o (fun z=>(hch c z).2.2.1 x c e rfl) ho (I.freeC x c e)
 .obtain ⟨e,n,ne,nf,d⟩:=I.pin p hp
  have nch:p.1∉ch:=fun z=>(hch p.1 z).2.2.2 p hp rfl
  exact ⟨keep p.1 p.2 ne nf nch e n,free p.1 p.2 nch e n,ne,nf,d⟩
theorem Inv.un {t':Nat} (I:Inv X pins σ H s) (u:Un X.fs [] H H' s.heap h') (hok:HOk X.prog X.w H' h'):Inv X pins σ H' { s with heap:=h',toks:=t' }:=by
 obtain ⟨m,⟨o,es,ep,ho,r⟩,_⟩:=id I.loc
 obtain ⟨sl,hL⟩:=u.any ho I.free (by simp)
 exact I.step (g':=s.gens) (d':=s.drawn) (ch:=[]) (fun _ z=>nomatch z) (fun b o _ hb _ e n=>u.keep b o e n hb (by simp)) (fun b o _ hb _ e n=>u.slot b o e n hb (by simp)) (fun b o _ e n=>u.free b o e n (by simp)) (fun b o _ e=>u.there b o e (by simp)) u.tups u.frzs u.tbls (fun m' hm=>by
  obtain ⟨o',es',ep',ho',r'⟩:=hm
  rw [ho] at ho';cases ho'
  exact ⟨_,es',ep',hL,r'⟩) hok I.bare
theorem Inv.call {g':Array GenState} {t':Nat} {d':Drawn} {ch:List Addr} (I:Inv X pins σ H s) (u:Un (frs X.stack) ch H H' s.heap h') (hok:HOk X.prog X.w H' h') (hg:AllBare g')
  (hch:∀ b∈ch,(b∈X.ex∨X.s₀.heap.objs.size <= b) /\ b≠X.env.locals /\ (∀ x c,X.env.cells.lookup x=some c->c≠b) /\ ∀ p∈X.pn++pins,p.1≠b) :
  Inv X pins σ H' { s with heap:=h',gens:=g',drawn:=d',toks:=t' }:=by
 obtain ⟨m,⟨o,es,ep,ho,r⟩,_⟩:=id I.loc
 obtain ⟨sl,hL⟩:=u.any ho I.free fun z=>(hch _ z).2.1 rfl
 exact I.step (ch:=ch) hch (fun b o hL hb hc e n=>u.keep b o e n (fun z=>(yAG.mp (I.stkSub b z)).elim hL hb) hc) (fun b o _ _ hc e n=>u.any e n hc) (fun b o hc e n=>u.free b o e n hc) (fun b o hc e=>u.there b o e hc) u.tups u.frzs u.tbls (fun m' hm=>by
  obtain ⟨o',es',ep',ho',r'⟩:=hm
  rw [ho] at ho';cases ho'
  exact ⟨_,es',ep',hL,r'⟩) hok hg
theorem Inv.turned {t':Nat} {it:Addr} (I:Inv X pins σ H s) (k:∀ b o,b≠it->s.heap.get? b=some o->h'.get? b=some o) (hn:H it=none) (hL:it≠X.env.locals)
  (h1:it∈X.ex∨X.s₀.heap.objs.size <= it) (h2:∀ x c,X.env.cells.lookup x=some c->c≠it) (h3:∀ p∈X.pn++pins,p.1≠it):Inv X pins σ H { s with heap:=h',toks:=t' }:=by
 have nit:∀ b u,H b=some u->b≠it:=fun b u e z=>by rw [z,hn] at e;cases e
 refine I.step (g':=s.gens) (d':=s.drawn) (ch:=[it]) (fun b hb=>?_) (fun b o _ _ hc e _=>k b o (fun z=>hc (by simp [z])) e) (fun b o _ _ hc e _=>⟨o.slots,k b o (fun z=>hc (by simp [z])) e⟩) (fun _ _ _ _ n=>n)
  (fun b o hc e=>⟨o,k b o (fun z=>hc (by simp [z])) e⟩) (fun _ _ e=>e) (fun _ _ _ e=>e) (fun b ps e=>⟨#[],by rw [e];simp⟩) (fun m hm=>?_) (fun b u e=>?_) I.bare
 .have e:b=it:=by simpa using hb
  subst e
  exact ⟨h1,hL,h2,h3⟩
 .obtain ⟨o,es,ep,ho,r⟩:=hm
  exact ⟨o,es,ep,k _ o (Ne.symm hL) ho,r⟩
 .refine (I.hok b u e).stay (fun c v hc q=>k c v ?_ q) (fun _ q=>q) fun _ _ q=>q
  rcases hc with z | z
  .rw [z];exact nit b u e
  .exact nit c _ z
theorem Inv.tok (I:Inv X pins σ H s) (t:Nat):Inv X pins σ H { s with toks:=t }:=I.un (h':=s.heap) (t':=t) Un.refl I.hok
theorem Inv.kept {t':Nat} (I:Inv X pins σ H s) (k:∀ b u,s.heap.get? b=some u->h'.get? b=some u):Inv X pins σ H { s with heap:=h',toks:=t' }:=I.un (Un.kept k) (I.hok.kept k)
theorem Inv.laid {a:Addr} {o:HO} {t':Nat} (I:Inv X pins σ H s) (k:∀ b u,s.heap.get? b=some u->h'.get? b=some u) (hp:s.heap.objs.size <= a) (new:ObjOk X.prog X.w (upd H a o) h' a o) :
  Inv X pins σ (upd H a o) { s with heap:=h',toks:=t' }:=I.un (Un.laid k hp (I.hok.fresh hp)) (I.hok.laid k hp new)
theorem Inv.write {x e:Addr} {o:HO} {t':Nat} (I:Inv X pins σ H s) (mu:Mut (H x)) (he:e=x∨H e=some (.own x)) (k:∀ b u,b≠e->s.heap.get? b=some u->h'.get? b=some u) (heo:∃ u,h'.get? e=some u)
  (new:ObjOk X.prog X.w (upd H x o) h' x o):Inv X pins σ (upd H x o) { s with heap:=h',toks:=t' }:=I.un (Un.write mu he k heo) (I.hok.write mu he k heo new)
theorem Inv.pins_of {pins':List (Addr×Obj)} (I:Inv X pins σ H s) (h:∀ p∈pins',s.heap.get? p.1=some p.2 /\ H p.1=none /\ p.1≠X.env.locals /\ p.1∉X.fs /\ ∀ v,p.2.data≠.cell v):Inv X pins' σ H s :=
 ⟨I.ok,I.os,I.bare,I.base,I.loc,I.cell,I.free,I.freeC,fun p hp=>(yAX.mp hp).elim (fun z=>I.pin p (List.mem_append_left _ z)) (h p),I.hok,I.len⟩
theorem ZCH {N:List Str} (hN:N.Nodup) {i j:Nat} {x:Str} (a:N[i]?=some x) (b:N[j]?=some x):i=j:=by
 obtain ⟨h1,e1⟩:=yAP.mp a
 obtain ⟨h2,e2⟩:=yAP.mp b
 exact (List.getElem_inj hN).mp (e1.trans e2.symm)
theorem store_ok2 {M:Model} {A:Around} {E:Value->Shared->Prop} {i:Nat} {x:Str} {v:V} {u:Value} {Q:Unit->Shared->Prop} (I:Inv X pins σ H s) (hN:X.N.Nodup) (hi:X.N[i]?=some x) (hx:Loc X.env.scope x) (r:RelV v u)
  (h:∀ s',Inv X pins (σ.set i (some v)) H s'->(∃ a,Heap.SameBut a s.heap s'.heap /\ (a=X.env.locals∨X.env.cells.lookup x=some a))->Q () s') (hf:X.fn x=true∨X.env.scope.names.lookup x=some .local:=by first | exact .inl rfl | exact .inr rfl | assumption):wpAny M A (storeName X.env x u) Q E s:=by
 obtain ⟨m,hn,hl⟩:=id I.loc
 have hcls:(X.env.scope.kind == .class || (X.env.scope.kind == .module && X.env.locals != X.env.globals))=false:=by rw [I.ok.kind];rfl
 have hiσ:i < σ.length:=by rw [I.len];exact (yAP.mp hi).1
 have cne:=I.cne
 have tracked:∀ {a:Addr} {h':Heap},(∃ o,s.heap.get? a=some o /\ H a=none)->Heap.SameBut a s.heap h'->HOk X.prog X.w H h':=fun {a h'} ha hs b ob e=>by
  obtain ⟨_,_,hfree⟩:=ha
  refine (I.hok b ob e).stay (fun c w' hc q=>(hs.2 c ?_).trans q) (fun _ q=>q) fun _ _ q=>q
  rintro rfl
  rcases hc with rfl | hc
  .rw [hfree] at e;cases e
  .rw [hfree] at hc;cases hc
 rcases hx with hk | hk
 .refine wpAny_storeName_local hk hn (fun h' hn' hs=>?_) hcls
  obtain ⟨oL,_,_,hoL,_⟩:=id hn
  refine h _ ⟨I.ok,I.os,I.bare,⟨fun b o e n hb hx=>?_,fun b o e n hb hx=>?_,I.base.free,fun b o e hx=>?_,I.base.tups,I.base.frzs,I.base.tbls⟩,⟨_,hn',fun j y v' e1 e2 e3=>?_⟩,fun y c e=>?_,I.free,I.freeC,fun p hp=>?_,tracked ⟨oL,hoL,I.free⟩ hs,by simpa using I.len⟩ ⟨_,hs,.inl rfl⟩
  .exact (hs.2 b (yAD (yAF (Heap.lt_size e) I.ok.above))).trans (I.base.keep b o e n hb hx)
  .obtain ⟨sl,e1⟩:=I.base.slot b o e n hb hx
   exact ⟨sl,(hs.2 b (yAD (yAF (Heap.lt_size e) I.ok.above))).trans e1⟩
  .obtain ⟨o',e1⟩:=I.base.there b o e hx
   exact ⟨o',(hs.2 b (yAD (yAF (Heap.lt_size e) I.ok.above))).trans e1⟩
  .by_cases hj:j=i
   .subst hj
    rw [hi] at e1;cases e1
    rw [List.getElem?_set_self hiσ] at e2
    cases e2
    exact ⟨u,r,.inl ⟨hk,by simp⟩⟩
   .rw [List.getElem?_set_ne (Ne.symm hj)] at e2
    obtain ⟨u',r',q⟩:=hl j y v' e1 e2 e3
    refine ⟨u',r',?_⟩
    rcases q with ⟨k,e⟩ | ⟨k,c,e,z⟩
    .refine .inl ⟨k,?_⟩
     have:y≠x:=fun e=>hj (ZCH hN e1 (e ▸ hi))
     simp [this,e]
    .exact .inr ⟨k,c,e,z.sameBut hs (cne y c e)⟩
  .obtain ⟨w',z⟩:=I.cell y c e
   exact ⟨w',z.sameBut hs (cne y c e)⟩
  .obtain ⟨e,n,ne,nf,d⟩:=I.pin p hp
   exact ⟨(hs.2 p.1 ne).trans e,n,ne,nf,d⟩
 .have hfn:X.fn x=true:=by
   rcases hf with z | z
   .exact z
   .rw [z] at hk;cases hk
  obtain ⟨c,hc⟩:=I.ok.has x (.inl hk)
  obtain ⟨w',z⟩:=I.cell x c hc
  refine wpAny_storeName_cell I.ok.kind hk hc z (fun h' hc' hs=>?_)
  obtain ⟨oc,hoc,hocd⟩:=id z
  refine h { s with heap:=h' } ⟨I.ok,I.os,I.bare,⟨fun b o e n hb hx=>?_,fun b o e n hb hx=>?_,I.base.free,fun b o e hx=>?_,I.base.tups,I.base.frzs,I.base.tbls⟩,⟨m,hn.sameBut hs (Ne.symm (cne x c hc)),fun j y v' e1 e2 e3=>?_⟩,fun y c' e=>?_,I.free,I.freeC,fun p hp=>?_,tracked ⟨oc,hoc,I.freeC x c hc⟩ hs,by simpa using I.len⟩ ⟨c,hs,.inr hc⟩
  .exact (hs.2 b (yAD (yAF (Heap.lt_size e) (I.ok.cab x c hfn hc)))).trans (I.base.keep b o e n hb hx)
  .obtain ⟨sl,e1⟩:=I.base.slot b o e n hb hx
   exact ⟨sl,(hs.2 b (yAD (yAF (Heap.lt_size e) (I.ok.cab x c hfn hc)))).trans e1⟩
  .obtain ⟨o',e1⟩:=I.base.there b o e hx
   exact ⟨o',(hs.2 b (yAD (yAF (Heap.lt_size e) (I.ok.cab x c hfn hc)))).trans e1⟩
  .by_cases hj:j=i
   .subst hj
    rw [hi] at e1;cases e1
    rw [List.getElem?_set_self hiσ] at e2
    cases e2
    exact ⟨u,r,.inr ⟨.inl hk,c,hc,hc'⟩⟩
   .rw [List.getElem?_set_ne (Ne.symm hj)] at e2
    obtain ⟨u',r',q⟩:=hl j y v' e1 e2 e3
    refine ⟨u',r',?_⟩
    rcases q with q | ⟨k,c',e,z'⟩
    .exact .inl q
    .refine .inr ⟨k,c',e,z'.sameBut hs ?_⟩
     rintro rfl
     exact hj (ZCH hN e1 (I.ok.inj _ _ _ e hc ▸ hi))
  .by_cases hcc:c'=c
   .subst hcc;exact ⟨_,hc'⟩
   .obtain ⟨w2,z2⟩:=I.cell y c' e
    exact ⟨w2,z2.sameBut hs hcc⟩
  .obtain ⟨e,n,ne,nf,d⟩:=I.pin p hp
   refine ⟨(hs.2 p.1 ?_).trans e,n,ne,nf,d⟩
   intro q
   rw [q,hoc] at e
   have q':oc=p.2:=Option.some.inj e
   exact d w' (by rw [<- q'];exact hocd)
theorem ZCA {M:Model} {A:Around} {E:Value->Shared->Prop} {i:Nat} {x:Str} {v:V} {u:Value} {Q:Unit->Shared->Prop} (I:Inv X pins σ H s) (hN:X.N.Nodup) (hi:X.N[i]?=some x) (hx:Loc X.env.scope x) (r:RelV v u)
  (h:∀ s',Inv X pins (σ.set i (some v)) H s'->Q () s') (hf:X.fn x=true∨X.env.scope.names.lookup x=some .local:=by first | exact .inl rfl | exact .inr rfl | assumption):wpAny M A (storeName X.env x u) Q E s :=
 store_ok2 I hN hi hx r (fun s' I' _=>h s' I') hf
theorem Inv.call' {s':Shared} {ch:List Addr} (I:Inv X pins σ H s) (ho:s'.os=s.os) (u:Un (frs X.stack) ch H H' s.heap s'.heap) (hok:HOk X.prog X.w H' s'.heap) (hg:AllBare s'.gens)
  (hch:∀ b∈ch,(b∈X.ex∨X.s₀.heap.objs.size <= b) /\ b≠X.env.locals /\ (∀ x c,X.env.cells.lookup x=some c->c≠b) /\ ∀ p∈X.pn++pins,p.1≠b):Inv X pins σ H' s':=by
 obtain ⟨h',g',d',t',o'⟩:=s'
 have e:o'=s.os:=ho
 subst e
 exact I.call (g':=g') (t':=t') (d':=d') u hok hg hch
end
noncomputable abbrev XK:=Value->Option Addr->Hp->Prop
noncomputable abbrev St:=List (Option V)
noncomputable abbrev VK:=V->Hp->Prop
noncomputable abbrev TE:=St->Hp->VK->Prop
noncomputable abbrev TT:=St->Hp->(Bool->Hp->Prop)->Prop
noncomputable abbrev TA:=St->Hp->(List V->Hp->Prop)->Prop
structure Ends where
 nx:St->Hp->Prop
 rt:VK
 bk:St->Hp->Prop:=fun _ _=>False
 ct:St->Hp->Prop:=fun _ _=>False
noncomputable abbrev TS:=Ends->St->Hp->Prop
noncomputable def EP (X:Cx) (pins:List (Addr×Obj)) (σ:St) (Q:VK) (u:Value) (s':Shared):Prop:=∃ v H',Inv X pins σ H' s' /\ RelV v u /\ Q v H'
noncomputable def TP (X:Cx) (pins:List (Addr×Obj)) (σ:St) (Q:Bool->Hp->Prop) (b:Bool) (s':Shared):Prop:=∃ H',Inv X pins σ H' s' /\ Q b H'
noncomputable def AP (X:Cx) (pins:List (Addr×Obj)) (σ:St) (Q:List V->Hp->Prop) (us:List Value) (s':Shared):Prop:=∃ vs H',Inv X pins σ H' s' /\ Vals vs us /\ Q vs H'
noncomputable def SP (X:Cx) (pins:List (Addr×Obj)) (D:Ends) (f:Flow) (s':Shared):Prop :=
 match f with
 | .next=>∃ σ' H',Inv X pins σ' H' s' /\ D.nx σ' H'
 | .brk=>∃ σ' H',Inv X pins σ' H' s' /\ D.bk σ' H'
 | .cont=>∃ σ' H',Inv X pins σ' H' s' /\ D.ct σ' H'
 | .ret u=>∃ v σ' H',Inv X pins σ' H' s' /\ RelV v u /\ D.rt v H'
noncomputable def PE (X:Cx) (e:Expr) (t:TE):Prop :=
 ∀ (pins:List (Addr×Obj)) (s:Shared) (σ:St) (H:Hp) (Q:VK),Inv X pins σ H s->t σ H Q->wpAny (model X.prog X.w) X.A (eval e X.env) (EP X pins σ Q) X.xe s
noncomputable def PT (X:Cx) (e:Expr) (t:TT):Prop :=
 ∀ (pins:List (Addr×Obj)) (s:Shared) (σ:St) (H:Hp) (Q:Bool->Hp->Prop),Inv X pins σ H s->t σ H Q->wpAny (model X.prog X.w) X.A (isTrue e X.env (eval e X.env)) (TP X pins σ Q) X.xe s
noncomputable def PW (X:Cx) (e:Expr) (t:TT):Prop :=
 ∀ (whole:Sem Value) (pins:List (Addr×Obj)) (s:Shared) (σ:St) (H:Hp) (Q:Bool->Hp->Prop),Inv X pins σ H s->t σ H Q->wpAny (model X.prog X.w) X.A (isTrue e X.env whole) (TP X pins σ Q) X.xe s
theorem PW.pt {X:Cx} {e:Expr} {t:TT} (h:PW X e t):PT X e t:=h _
noncomputable def PA (X:Cx) (es:List Expr) (t:TA):Prop :=
 ∀ (pos:Pos) (pins:List (Addr×Obj)) (s:Shared) (σ:St) (H:Hp) (Q:List V->Hp->Prop),Inv X pins σ H s->t σ H Q->wpAny (model X.prog X.w) X.A (spliced (backTo pos (starEach es X.env))) (AP X pins σ Q) X.xe s
noncomputable def PS (X:Cx) (st:Stmt) (t:TS):Prop :=
 ∀ (pins:List (Addr×Obj)) (s:Shared) (σ:St) (H:Hp) (D:Ends),Inv X pins σ H s->t D σ H->wpAny (model X.prog X.w) X.A (exec st X.env) (SP X pins D) X.xe s
noncomputable def PSs (X:Cx) (st:List Stmt) (t:TS):Prop :=
 ∀ (pins:List (Addr×Obj)) (s:Shared) (σ:St) (H:Hp) (D:Ends),Inv X pins σ H s->t D σ H->wpAny (model X.prog X.w) X.A (execs st X.env) (SP X pins D) X.xe s
theorem thn {α:Type} {t:Sem α} {Q Q':α->Shared->Prop} {M:Model} {A:Around} {E:Value->Shared->Prop} {s:Shared} (h:wpAny M A t Q E s) (hQ:∀ a s,Q a s->Q' a s):wpAny M A t Q' E s:=wpAny_mono h hQ fun _ _ x=>x
section
variable {X:Cx}
noncomputable def tVar (i:Nat):TE:=fun σ H Q=>∃ v,σ[i]?=some (some v) /\ Q v H
noncomputable def tC (v:V):TE:=fun _ H Q=>Q v H
theorem pe_var {i:Nat} {x:Str} {pos:Pos} (hN:X.N[i]?=some x) (hv:Vis X.env.scope x) (hd:(x == ("__debug__":Str))=false:=by decide) (hcd:(x == ("__classdict__":Str))=false:=by decide):PE X (.Name x pos) (tVar i):=by
 intro pins s σ H Q I h
 obtain ⟨v,e,h⟩:=h
 obtain ⟨m,hn,hl⟩:=I.loc
 obtain ⟨u,r,l⟩:=hl i x v hN e hv
 have fin:EP X pins σ Q u s:=⟨v,H,I,r,h⟩
 rcases l with ⟨hk,hm⟩ | ⟨hk,c,hc,hcell⟩
 .exact wpAny_Name (wpAny_loadName_local I.ok.kind hk hn hm fin) hd
 .rcases hk with hk | hk
  .exact wpAny_Name (wpAny_loadName_cell I.ok.kind hk hc hcell fin) hd
  .exact wpAny_Name (wpAny_loadName_free I.ok.kind hk hc hcell fin hcd) hd
theorem ZAF {i j pos}:PE X (.Constant (.int i) j pos) (tC (.int i)):=fun _ _ _ H _ I h=>wpAny_Constant_int ⟨.int i,H,I.tok _,⟨_,rfl⟩,h⟩
theorem ZBN {b j pos}:PE X (.Constant (.bool b) j pos) (tC (.bl b)):=fun _ _ _ H _ I h=>Constant_bool ⟨.bl b,H,I,rfl,h⟩
theorem ZBt {j pos}:PE X (.Constant .none j pos) (tC .non):=fun _ _ _ H _ I h=>Constant_none ⟨.non,H,I,rfl,h⟩
theorem ZAf {x j pos}:PE X (.Constant (.str x) j pos) (tC (.str x)):=fun _ _ _ H _ I h=>Calls.Constant_str ⟨.str x,H,I.tok _,⟨_,rfl⟩,h⟩
noncomputable def Gl (X:Cx) (x:Str):Prop:=X.env.kindOf x=some .globalImplicit
theorem ZBc {E:Value->Shared->Prop} {pins:List (Addr×Obj)} {s:Shared} {σ:St} {H:Hp} {x:Str} {u:Value} {pos:Pos} {Q:Value->Shared->Prop} (I:Inv X pins σ H s) (hg:Gl X x) (hm:X.mg x=some u) (h:Q u s)
  (hd:(x == ("__debug__":Str))=false:=by decide):wpAny (model X.prog X.w) X.A (eval (.Name x pos) X.env) Q E s :=
 Calls.Name_function_global I.ok.kind hg (Calls.loadGlobal_global (by rw [I.ok.glob];exact I.mod.glob.keeps I.bk) hm h) hd
theorem ZBx {E:Value->Shared->Prop} {pins:List (Addr×Obj)} {s:Shared} {σ:St} {H:Hp} {x:Str} {u:Value} {pos:Pos} {Q:Value->Shared->Prop} (I:Inv X pins σ H s) (hg:Gl X x) (hm:X.mg x=none) (hv:bootBuiltins x=some u) (h:Q u s)
  (hn:x≠"__name__":=by decide) (hd:(x == ("__debug__":Str))=false:=by decide):wpAny (model X.prog X.w) X.A (eval (.Name x pos) X.env) Q E s:=by
 obtain ⟨mb,h1,h2⟩:=I.mod.blt
 exact Calls.Name_function_global I.ok.kind hg (Calls.loadGlobal_builtin (by rw [I.ok.glob];exact I.mod.glob.keeps I.bk) hm (by rw [I.ok.blt];exact h1.keeps I.bk) ((h2 x hn).trans hv) h) hd
theorem pe_glob {x:Str} {v:V} {u:Value} {pos:Pos} (hg:Gl X x) (hm:X.mg x=some u) (r:RelV v u) (hd:(x == ("__debug__":Str))=false:=by decide):PE X (.Name x pos) (tC v) :=
 fun _ _ _ H _ I h=>ZBc I hg hm ⟨v,H,I,r,h⟩ hd
theorem pe_bltn {x:Str} {v:V} {u:Value} {pos:Pos} (hg:Gl X x) (hm:X.mg x=none) (hv:bootBuiltins x=some u) (r:RelV v u) (hn:x≠"__name__":=by decide) (hd:(x == ("__debug__":Str))=false:=by decide):PE X (.Name x pos) (tC v) :=
 fun _ _ _ H _ I h=>ZBx I hg hm hv ⟨v,H,I,r,h⟩ hn hd
variable {a b:Expr} {ta tb:TE} {pos:Pos}
noncomputable def tB (t:TE):TT:=fun σ H Q=>t σ H fun x H1=>∃ c,x=.bl c /\ Q c H1
theorem ZB8 {e:Expr} {t:TE} (h:PE X e t) (he:∀ whole,isTrue e X.env whole=(do let v <- whole;standAt e.pos;holding [v] (truthy v)):=by intro _;rfl):PT X e (tB t):=by
 intro pins s σ H Q I hw
 refine isTrue_plain (thn (h pins s σ H _ I hw) fun v s1 zz=>?_) (he _)
 obtain ⟨x,H1,I1,r1,q1⟩:=zz
 obtain ⟨d,rfl,q⟩:=q1
 cases r1
 exact wpAny_truthy_bool ⟨H1,I1,q⟩
variable {tA tB':TT} {rest:List Expr}
noncomputable def tAnd (t u:TT):TT:=fun σ H Q=>t σ H fun c H1=>if c=true then u σ H1 Q else Q false H1
noncomputable def tOr (t u:TT):TT:=fun σ H Q=>t σ H fun c H1=>if c=true then Q true H1 else u σ H1 Q
noncomputable def tNot (t:TT):TT:=fun σ H Q=>t σ H fun c H1=>Q (!c) H1
theorem ZCD (ha:PT X a tA):PW X (.BoolOp .And [a] pos) tA:=by
 intro wh pins s σ H Q I h
 refine isTrue_and (thn (ha pins s σ H Q I h) fun c s1 e=>?_)
 cases c with
 | true=>exact isTrue_and_nil e
 | false=>exact e
theorem ZBq (ha:PT X a tA):PW X (.BoolOp .Or [a] pos) tA:=by
 intro wh pins s σ H Q I h
 refine isTrue_or (thn (ha pins s σ H Q I h) fun c s1 e=>?_)
 cases c with
 | false=>exact isTrue_or_nil e
 | true=>exact e
theorem ZCl (ha:PT X a tA) (hb:PW X (.BoolOp .And (b::rest) pos) tB'):PW X (.BoolOp .And (a::b::rest) pos) (tAnd tA tB'):=by
 intro wh pins s σ H Q I h
 refine isTrue_and (thn (ha pins s σ H _ I h) fun c s1 ⟨H1,I1,q1⟩=>?_)
 cases c with
 | true=>exact hb wh pins s1 σ H1 Q I1 q1
 | false=>exact ⟨H1,I1,q1⟩
theorem ZCQ (ha:PT X a tA) (hb:PW X (.BoolOp .Or (b::rest) pos) tB'):PW X (.BoolOp .Or (a::b::rest) pos) (tOr tA tB'):=by
 intro wh pins s σ H Q I h
 refine isTrue_or (thn (ha pins s σ H _ I h) fun c s1 ⟨H1,I1,q1⟩=>?_)
 cases c with
 | true=>exact ⟨H1,I1,q1⟩
 | false=>exact hb wh pins s1 σ H1 Q I1 q1
theorem ZCR (ha:PT X a tA):PT X (.UnaryOp .Not a pos) (tNot tA):=by
 intro pins s σ H Q I h
 exact isTrue_not (ha pins s σ H (fun c H1=>Q (!c) H1) I h)
noncomputable def ZDB (ta tb:TE):TE:=fun σ H Q=>ta σ H fun x H1=>∃ c,x=.bl c /\ if c=true then tb σ H1 Q else Q (.bl false) H1
noncomputable def tOrV (ta tb:TE):TE:=fun σ H Q=>ta σ H fun x H1=>∃ c,x=.bl c /\ if c=true then Q (.bl true) H1 else tb σ H1 Q
noncomputable def ZC8 (ta:TE):TE:=fun σ H Q=>ta σ H fun x H1=>∃ c,x=.bl c /\ Q (.bl (!c)) H1
theorem ZCT {op} {t:TE} (h:PE X a t):PE X (.BoolOp op [a] pos) t:=fun pins s σ H Q I hw=>BoolOp_one (h pins s σ H Q I hw)
theorem ZCm (ha:PE X a ta) (hb:PE X (.BoolOp .And (b::rest) pos) tb):PE X (.BoolOp .And (a::b::rest) pos) (ZDB ta tb):=by
 intro pins s σ H Q I h
 refine BoolOp_and (thn (ha pins s σ H _ I h) fun v s1 zz=>?_)
 obtain ⟨x,H1,I1,r1,q1⟩:=zz
 obtain ⟨c,rfl,q1⟩:=q1
 cases r1
 refine wpAny_truthy_bool ?_
 cases c with
 | true=>exact hb pins s1 σ H1 Q I1 q1
 | false=>exact ⟨.bl false,H1,I1,rfl,q1⟩
theorem pe_or (ha:PE X a ta) (hb:PE X (.BoolOp .Or (b::rest) pos) tb):PE X (.BoolOp .Or (a::b::rest) pos) (tOrV ta tb):=by
 intro pins s σ H Q I h
 refine BoolOp_or (thn (ha pins s σ H _ I h) fun v s1 zz=>?_)
 obtain ⟨x,H1,I1,r1,q1⟩:=zz
 obtain ⟨c,rfl,q1⟩:=q1
 cases r1
 refine wpAny_truthy_bool ?_
 cases c with
 | false=>exact hb pins s1 σ H1 Q I1 q1
 | true=>exact ⟨.bl true,H1,I1,rfl,q1⟩
theorem pe_not (ha:PE X a ta):PE X (.UnaryOp .Not a pos) (ZC8 ta):=by
 intro pins s σ H Q I h
 refine UnaryOp_ (thn (ha pins s σ H _ I h) fun v s1 zz=>?_)
 obtain ⟨x,H1,I1,r1,q1⟩:=zz
 obtain ⟨c,rfl,q1⟩:=q1
 cases r1
 exact not_of (wpAny_truthy_bool ⟨.bl (!c),H1,I1,rfl,q1⟩)
noncomputable def tIf (t:TT) (ta tb:TE):TE:=fun σ H Q=>t σ H fun c H1=>if c=true then ta σ H1 Q else tb σ H1 Q
theorem pe_ifExp {c:Expr} (hc:PT X c tA) (ha:PE X a ta) (hb:PE X b tb):PE X (.IfExp c a b pos) (tIf tA ta tb):=by
 intro pins s σ H Q I h
 refine wpAny_IfExp (thn (hc pins s σ H _ I h) fun d s1 ⟨H1,I1,q1⟩=>?_)
 cases d with
 | true=>exact ha pins s1 σ H1 Q I1 q1
 | false=>exact hb pins s1 σ H1 Q I1 q1
end
noncomputable def SqL (K:W.Frag) (H:Hp) (a:Addr) (xs:List V):Prop :=
 Rd H a (.lst xs) ∨
  ∃ (o:Obj) (its:Array Value) (n:Nat),K.lookup a=some o /\ o.cls=.type "list" /\ o.dict=none /\ o.data=.seq its n /\ its.size <= sizeLine /\ Vals xs its.toList
noncomputable def SqT (K:W.Frag) (H:Hp) (a:Addr) (xs:List V):Prop :=
 Rd H a (.tup xs) ∨
  ∃ (o:Obj) (its:Array Value) (n:Nat),K.lookup a=some o /\ o.cls=.type "tuple" /\ o.data=.seq its n /\ its.size <= sizeLine /\ Vals xs its.toList
noncomputable def absV:Value->Option V
 | .none=>some .non
 | .bool b=>some (.bl b)
 | .int i _=>some (.int i)
 | .str x _=>some (.str x)
 | .bytes b _=>some (.byt b)
 | .float b _=>some (.flt b)
 | .ref a=>some (.ref a)
 | .type n=>some (.ty n)
 | _=>none
theorem RelV.abs {x:V} {u:Value} (r:RelV x u):absV u=some x:=by
 cases x with
 | non=>cases r;rfl
 | bl _=>cases r;rfl
 | int _=>obtain ⟨t,rfl⟩:=r;rfl
 | str _=>obtain ⟨t,rfl⟩:=r;rfl
 | byt _=>obtain ⟨t,rfl⟩:=r;rfl
 | flt _=>obtain ⟨t,rfl⟩:=r;rfl
 | ref _=>cases r;rfl
 | ty _=>cases r;rfl
theorem RelV.inj {x y:V} {u:Value} (r:RelV x u) (q:RelV y u):x=y:=Option.some.inj (r.abs.symm.trans q.abs)
theorem Vals.inj:∀ {xs ys:List V} {us:List Value},Vals xs us->Vals ys us->xs=ys
 | _,_,_,.nil,.nil=>rfl
 | _,_,_,.cons r t,.cons r' t'=>by rw [r.inj r',Vals.inj t t']
section
variable {X:Cx} {pins:List (Addr×Obj)} {σ:St} {H:Hp} {s:Shared} {a:Addr} {xs ys:List V}
theorem SqL.of {K:W.Frag} (h:H a=some (.lst xs)):SqL K H a xs:=.inl (.inl h)
theorem SqT.of {K:W.Frag} (h:H a=some (.tup xs)):SqT K H a xs:=.inl (.inl h)
theorem Inv.list (I:Inv X pins σ H s) (h:SqL X.K H a xs):∃ its:List Value,Vals xs its /\ PlainL s.heap a its.toArray /\ xs.length <= sizeLine:=by
 rcases h with h | ⟨o,its,n,hk,hc,hd,hs,hz,r⟩
 .obtain ⟨z,its,n,r,e⟩:=h.ok I.hok
  exact ⟨its,r,⟨_,n,e,rfl,rfl,rfl⟩,z⟩
 .refine ⟨its.toList,r,⟨o,n,I.kIn a o hk,hc,hd,by simpa using hs⟩,?_⟩
  have e:=r.length
  simp only [Array.length_toList] at e
  omega
theorem Inv.tuple (I:Inv X pins σ H s) (h:SqT X.K H a xs):∃ its:List Value,Vals xs its /\ IsTup s.heap a its.toArray /\ xs.length <= sizeLine:=by
 rcases h with h | ⟨o,its,n,hk,hc,hs,hz,r⟩
 .obtain ⟨z,its,r,p⟩:=h.ok I.hok
  exact ⟨its,r,p,z⟩
 .refine ⟨its.toList,r,⟨o,I.kIn a o hk,hc,n,by simpa using hs⟩,?_⟩
  have e:=r.length
  simp only [Array.length_toList] at e
  omega
theorem Inv.list_inj (I:Inv X pins σ H s) (h:SqL X.K H a xs) (h':SqL X.K H a ys):xs=ys:=by
 obtain ⟨its,r,⟨o,n,e,_,_,d⟩,_⟩:=I.list h
 obtain ⟨its',r',⟨o',n',e',_,_,d'⟩,_⟩:=I.list h'
 rw [e] at e';cases e'
 rw [d] at d'
 injection d' with d1 _
 have:its=its':=by simpa using congrArg Array.toList d1
 subst this
 exact r.inj r'
theorem Inv.tuple_inj (I:Inv X pins σ H s) (h:SqT X.K H a xs) (h':SqT X.K H a ys):xs=ys:=by
 obtain ⟨its,r,⟨o,e,_,n,d⟩,_⟩:=I.tuple h
 obtain ⟨its',r',⟨o',e',_,n',d'⟩,_⟩:=I.tuple h'
 rw [e] at e';cases e'
 rw [d] at d'
 injection d' with d1 _
 have:its=its':=by simpa using congrArg Array.toList d1
 subst this
 exact r.inj r'
end
noncomputable abbrev Cx.wish (X:Cx) (E:Value->Shared->Prop):Cx:={ X with xe:=E }
noncomputable abbrev Cx.nox (X:Cx):Cx:=X.wish fun _ _=>False
theorem Cx.Ok.wish {X:Cx} (ok:X.Ok) (E:Value->Shared->Prop):(X.wish E).Ok :=
 ⟨ok.mod,ok.kind,ok.glob,ok.blt,ok.above,ok.inj,ok.has,ok.cab,ok.hd,ok.frames,ok.stk,ok.exf,ok.bs,ok.bsz,ok.noex,ok.exfs,ok.funs,ok.frf⟩
theorem Cx.Ok.unwish {X:Cx} {E:Value->Shared->Prop} (ok:(X.wish E).Ok):X.Ok :=
 ⟨ok.mod,ok.kind,ok.glob,ok.blt,ok.above,ok.inj,ok.has,ok.cab,ok.hd,ok.frames,ok.stk,ok.exf,ok.bs,ok.bsz,ok.noex,ok.exfs,ok.funs,ok.frf⟩
section
variable {X:Cx} {pins:List (Addr×Obj)} {σ:St} {H:Hp} {s:Shared} {E:Value->Shared->Prop}
theorem Inv.wish (I:Inv X pins σ H s) (E:Value->Shared->Prop):Inv (X.wish E) pins σ H s:=⟨I.ok.wish E,I.os,I.bare,I.base,I.loc,I.cell,I.free,I.freeC,I.pin,I.hok,I.len⟩
theorem Inv.unwish (I:Inv (X.wish E) pins σ H s):Inv X pins σ H s:=⟨I.ok.unwish,I.os,I.bare,I.base,I.loc,I.cell,I.free,I.freeC,I.pin,I.hok,I.len⟩
theorem SP.unwish {D:Ends} {f:Flow} {s':Shared} (h:SP (X.wish E) pins D f s'):SP X pins D f s':=by
 cases f with
 | next=>obtain ⟨σ',H',I,q⟩:=h;exact ⟨σ',H',I.unwish,q⟩
 | brk=>obtain ⟨σ',H',I,q⟩:=h;exact ⟨σ',H',I.unwish,q⟩
 | cont=>obtain ⟨σ',H',I,q⟩:=h;exact ⟨σ',H',I.unwish,q⟩
 | ret u=>obtain ⟨v,σ',H',I,r,q⟩:=h;exact ⟨v,σ',H',I.unwish,r,q⟩
theorem PSs.nox {st:List Stmt} {t:TS} (h:PSs X.nox st t):PSs X st t:=fun pins s σ H D I hw=>
 wpAny_mono (h pins s σ H D (I.wish _) hw) (fun _ _ q=>q.unwish) fun _ _ z=>False.elim z
end
section
variable {X:Cx} {st:Stmt} {rest:List Stmt} {t u:TS} {e:Expr} {te:TE} {pos:Pos}
noncomputable def ZC9:TS:=fun D σ H=>D.nx σ H
noncomputable def tSeq (t u:TS):TS:=fun D σ H=>t { D with nx:=u D } σ H
theorem ZAb:PSs X [] ZC9:=fun _ _ σ H _ I h=>wpAny_execs_nil ⟨σ,H,I,h⟩
theorem ZAC (h1:PS X st t) (h2:PSs X rest u):PSs X (st::rest) (tSeq t u):=by
 intro pins s σ H D I h
 refine wpAny_execs_cons (thn (h1 pins s σ H { D with nx:=u D } I h) fun f s1 q=>?_)
 cases f with
 | next=>
  obtain ⟨σ',H',I',q⟩:=q
  exact h2 pins s1 σ' H' D I' q
 | ret v=>exact q
 | brk=>exact q
 | cont=>exact q
theorem ZAE (h1:PS X st t):PSs X [st] t:=by
 intro pins s σ H D I h
 refine wpAny_execs_cons (thn (h1 pins s σ H D I h) fun f s1 q=>?_)
 cases f with
 | next=>exact wpAny_execs_nil q
 | ret v=>exact q
 | brk=>exact q
 | cont=>exact q
theorem Inv.quiet {pins:List (Addr×Obj)} {σ:St} {H:Hp} {s:Shared} (I:Inv X pins σ H s):interactive X.env=false:=by simp [interactive,I.ok.kind]
noncomputable def ZDA (te:TE):TS:=fun D σ H=>te σ H fun _ H1=>D.nx σ H1
theorem ZA0 (he:PE X e te) (hs:swapsWith e none pos.line X.env=pure false:=by rfl):PS X (.Expr e pos) (ZDA te):=by
 intro pins s σ H D I h
 exact wpAny_Expr_any (thn (he pins s σ H _ I h) fun v s1 ⟨x,H1,I1,r1,q1⟩=>⟨σ,H1,I1,q1⟩) I.quiet hs
noncomputable def tRet (te:TE):TS:=fun D σ H=>te σ H D.rt
theorem ZAT (he:PE X e te):PS X (.Return (some e) pos) (tRet te):=by
 intro pins s σ H D I h
 exact wpAny_Return_some (thn (he pins s σ H _ I h) fun v s1 ⟨x,H1,I1,r1,q1⟩=>⟨x,σ,H1,I1,r1,q1⟩)
noncomputable def tRetN:TS:=fun D _ H=>D.rt .non H
noncomputable def tIfS (c:TT) (t u:TS):TS:=fun D σ H=>c σ H fun b H1=>if b=true then t D σ H1 else u D σ H1
theorem ZAr {c:Expr} {a b:List Stmt} {tc:TT} (hc:PT X c tc) (ha:PSs X a t) (hb:PSs X b u):PS X (.If c a b pos) (tIfS tc t u):=by
 intro pins s σ H D I h
 refine wpAny_If (thn (hc pins s σ H _ I h) fun d s1 ⟨H1,I1,q1⟩=>?_)
 cases d with
 | true=>exact ha pins s1 σ H1 D I1 q1
 | false=>exact hb pins s1 σ H1 D I1 q1
noncomputable def tNever:TS:=fun _ _ _=>False
end
noncomputable abbrev TG:=V->St->Hp->(St->Hp->Prop)->Prop
noncomputable abbrev TGs:=List V->St->Hp->(St->Hp->Prop)->Prop
noncomputable def PG (X:Cx) (target:Expr) (t:TG):Prop :=
 ∀ (pins:List (Addr×Obj)) (s:Shared) (σ:St) (H:Hp) (v:V) (u:Value) (Q:St->Hp->Prop),Inv X pins σ H s->RelV v u->t v σ H Q ->
  wpAny (model X.prog X.w) X.A (assign target X.env u) (fun _ s'=>∃ σ' H',Inv X pins σ' H' s' /\ Q σ' H') X.xe s
noncomputable def PGs (X:Cx) (ts:List Expr) (t:TGs):Prop :=
 ∀ (pins:List (Addr×Obj)) (s:Shared) (σ:St) (H:Hp) (vs:List V) (us:List Value) (Q:St->Hp->Prop),Inv X pins σ H s->Vals vs us->t vs σ H Q ->
  wpAny (model X.prog X.w) X.A (assignInOrder ((assignEach ts X.env).map (·.2)) us) (fun _ s'=>∃ σ' H',Inv X pins σ' H' s' /\ Q σ' H') X.xe s
noncomputable abbrev TSet:=V->V->V->Hp->(Hp->Prop)->Prop
noncomputable abbrev TIp:=V->V->Hp->VK->Prop
section
variable {X:Cx} {pos:Pos}
noncomputable def ZCs (i:Nat):TG:=fun v σ H Q=>Q (σ.set i (some v)) H
theorem ZAg {i:Nat} {x:Str} (hN:X.N.Nodup) (hi:X.N[i]?=some x) (hx:Loc X.env.scope x) (hf:X.fn x=true∨X.env.scope.names.lookup x=some .local:=by first | exact .inl rfl | exact .inr rfl | assumption):PG X (.Name x pos) (ZCs i):=by
 intro pins s σ H v u Q I r h
 exact wpAny_assign_Name (ZCA I hN hi hx r (fun s' I'=>⟨_,H,I',h⟩) hf)
noncomputable def gNil:TGs:=fun vs σ H Q=>vs=[] /\ Q σ H
noncomputable def ZDG (t:TG) (u:TGs):TGs:=fun vs σ H Q=>∃ v r,vs=v::r /\ t v σ H fun σ' H'=>u r σ' H' Q
theorem ZCb:PGs X [] gNil:=by
 intro pins s σ H vs us Q I r h
 obtain ⟨e,h⟩:=h
 subst e
 cases r
 exact assignInOrder_nil ⟨σ,H,I,h⟩
theorem ZBJ {e:Expr} {es:List Expr} {t:TG} {u:TGs} (h1:PG X e t) (h2:PGs X es u)
  (hs:(assignEach (e::es) X.env).map (·.2)=assign e X.env::(assignEach es X.env).map (·.2):=by rfl):PGs X (e::es) (ZDG t u):=by
 intro pins s σ H vs us Q I r h
 obtain ⟨v,vr,e1,h⟩:=h
 subst e1
 cases r with
 | cons r rr=>
  rw [hs]
  refine assignInOrder_cons (thn (h1 pins s σ H _ _ _ I r h) fun _ s1 zz=>?_)
  obtain ⟨σ1,H1,I1,q1⟩:=zz
  exact h2 pins s1 σ1 H1 _ _ Q I1 rr q1
noncomputable def gTup (K:W.Frag) (n:Nat) (t:TGs):TG:=fun v σ H Q=>∃ a xs,v=.ref a /\ SqT K H a xs /\ xs.length=n /\ t xs σ H Q
theorem ZCx {es:List Expr} {k:Nat} {t:TGs} {n:Nat} (hc:X.calm=true) (h:PGs X es t)
  (hn:(assignEach es X.env).length=n:=by rfl) (hst:(assignEach es X.env).findIdx? (·.1)=none:=by rfl):PG X (.Tuple es k pos) (gTup X.K n t):=by
 intro pins s σ H v u Q I r hw
 obtain ⟨a,xs,e1,hq,hl,hw⟩:=hw
 subst e1
 cases r
 obtain ⟨its,rv,ht,hz⟩:=I.tuple hq
 refine assign_Tuple_tuple (I.ok.hd hc) ht (by simp [hn,<- hl,rv.length]) hst fun h' hx=>?_
 have I1:Inv X pins σ H { s with heap:=h' }:=I.kept (t':=s.toks) fun b o e=>hx b o (yAD (Heap.lt_size e)) e
 exact h pins _ σ H xs _ Q I1 (by simpa using rv) hw
noncomputable def gSub (to ti:TE) (t:TSet):TG:=fun v σ H Q=>to σ H fun o H1=>ti σ H1 fun i H2=>t o i v H2 fun H3=>Q σ H3
noncomputable def tAsg (te:TE) (g:TG):TS:=fun D σ H=>te σ H fun x H1=>g x σ H1 D.nx
theorem ps_asg {tg e:Expr} {te:TE} {g:TG} (he:PE X e te) (hg:PG X tg g) (hs:swapsWithSole [tg] e pos.line X.env=pure false:=by rfl) (hw:swappedStores [tg] e X.env=pure none:=by rfl)
  (h1:(assignEach [tg] X.env).map (·.2)=[assign tg X.env]:=by rfl):PS X (.Assign [tg] e pos) (tAsg te g):=by
 intro pins s σ H D I h
 refine wpAny_Assign_stores (thn (he pins s σ H _ I h) fun v s1 zz=>?_) hs hw
 obtain ⟨x,H1,I1,r1,q1⟩:=zz
 rw [h1]
 exact thn (hg pins s1 σ H1 x v _ I1 r1 q1) fun _ s2 q=>q
theorem ZAa {i:Nat} {x:Str} {e:Expr} {te:TE} {pos':Pos} (hN:X.N.Nodup) (hi:X.N[i]?=some x) (hx:Loc X.env.scope x) (he:PE X e te) (hs:swapsWith e (some (.Name x pos')) pos.line X.env=pure false:=by rfl) (hf:X.fn x=true∨X.env.scope.names.lookup x=some .local:=by first | exact .inl rfl | exact .inr rfl | assumption) :
  PS X (.Assign [.Name x pos'] e pos) (tAsg te (ZCs i)):=by
 intro pins s σ H D I h
 refine wpAny_Assign_Name (thn (he pins s σ H _ I h) fun v s1 zz=>?_) hs
 obtain ⟨y,H1,I1,r1,q1⟩:=zz
 exact ZCA I1 hN hi hx r1 (fun s2 I2=>⟨_,H1,I2,q1⟩) hf
noncomputable def tAug (i:Nat) (te:TE) (ti:TIp):TS:=fun D σ H=>∃ x,σ[i]?=some (some x) /\ te σ H fun y H1=>ti x y H1 fun z H2=>D.nx (σ.set i (some z)) H2
noncomputable def ipI (f:Int->Int->Int):TIp:=fun x y H Q=>∃ i j,x=.int i /\ y=.int j /\ Q (.int (f i j)) H
end
section
variable {X:Cx} {pos:Pos}
end
structure It where
 go:Nat->Hp->Prop
 yld:Nat->Hp->V->Hp->Prop
 stop:Nat->Hp->Prop
noncomputable def FpOk (X:Cx) (pins:List (Addr×Obj)) (H:Hp) (b:Addr):Prop :=
 H b=none /\ b≠X.env.locals /\ b∉X.fs /\ (b∈X.ex∨X.s₀.heap.objs.size <= b) /\ (∀ x c,X.env.cells.lookup x=some c->c≠b) /\ ∀ p∈X.pn++pins,p.1≠b
theorem Inv.fpOk {X:Cx} {pins:List (Addr×Obj)} {σ:St} {H H':Hp} {s:Shared} {b:Addr} (I:Inv X pins σ H s) (hb:s.heap.objs.size <= b) (hn:H' b=none):FpOk X pins H' b:=by
 refine ⟨hn,yBA (yAF I.lt hb),I.nofs hb,.inr (yAC I.sz hb),fun x c e z=>?_,fun p hp z=>?_⟩
 .obtain ⟨v,q⟩:=I.cell x c e
  exact absurd (yAF q.lt (by rw [z];exact hb)) (yAW _)
 .exact absurd (yAF (Heap.lt_size (I.pin p hp).1) (by rw [z];exact hb)) (yAW _)
structure Turn (P:Program) (w:World) (K:W.Frag) (tg:Expr) (J:It) (fp:List Addr) (it:Addr) (tn:Nat->Heap->Prop):Prop where
 mem:it∈fp
 obj:∀ i h,tn i h->∀ b∈fp,∃ o,h.get? b=some o /\ ∀ v,o.data≠.cell v
 keep:∀ i h h',tn i h->(∀ b∈fp,∀ o,h.get? b=some o->h'.get? b=some o)->tn i h'
 item:∀ (X:Cx),X.prog=P->X.w=w->X.K=K->X.calm=true->∀ (i:Nat) (pins:List (Addr×Obj)) (s:Shared) (σ:St) (H:Hp) (E:Value->Shared->Prop),Inv X pins σ H s->(∀ b∈fp,FpOk X pins H b)->tn i s.heap->J.go i H ->
  wpAny (model P w) X.A (pyNext (.ref it)) (fun r s1=>∃ u,r=some u /\
   wpAny (model P w) X.A (letOwnedTupleGo tg (.ref it) u) (fun _ s2=>∃ x H',Inv X pins σ H' s2 /\ RelV x u /\ J.yld i H x H' /\ tn (i+1) s2.heap /\ ∀ b∈fp,H' b=none) E s1) E s
 done:∀ (X:Cx),X.prog=P->X.w=w->X.K=K->X.calm=true->∀ (i:Nat) (pins:List (Addr×Obj)) (s:Shared) (σ:St) (H:Hp) (E:Value->Shared->Prop),Inv X pins σ H s->(∀ b∈fp,FpOk X pins H b)->tn i s.heap->J.stop i H ->
  wpAny (model P w) X.A (pyNext (.ref it)) (fun r s1=>r=none /\ Inv X pins σ H s1) E s
 self:∀ (A:Around) (i:Nat) (s:Shared) (Q:Value->Shared->Prop) (E:Value->Shared->Prop),tn i s.heap->Q (.ref it) s->wpAny (model P w) A (pyIter (.ref it)) Q E s
noncomputable abbrev TI:=St->Hp->(It->Hp->Prop)->Prop
noncomputable def PIE (X:Cx) (pins:List (Addr×Obj)) (σ:St) (tg:Expr) (R:It->Hp->Prop) (itv:Value) (s2:Shared):Prop :=
 ∃ (it:Addr) (fp:List Addr) (tn:Nat->Heap->Prop) (J:It) (H':Hp),itv=.ref it /\ Inv X pins σ H' s2 /\ Turn X.prog X.w X.K tg J fp it tn /\ tn 0 s2.heap /\ (∀ b∈fp,FpOk X pins H' b) /\ R J H'
noncomputable def PI (X:Cx) (tg iter:Expr) (wi:TI):Prop :=
 ∀ (pins:List (Addr×Obj)) (s:Shared) (σ:St) (H:Hp) (R:It->Hp->Prop),Inv X pins σ H s->wi σ H R ->
  wpAny (model X.prog X.w) X.A (eval iter X.env) (fun v s1=>wpAny (model X.prog X.w) X.A (pyIter v) (PIE X pins σ tg R) X.xe s1) X.xe s
theorem ZC5 {M:Model} {A:Around} {E:Value->Shared->Prop} {s:Shared} {tg:Expr} {it:Addr} {u:Value} {o:Obj} {n:String} {vs:Array Value} {Q:Unit->Shared->Prop} (ho:s.heap.get? it=some o) (hc:o.cls=.type n) (hd:o.data=.fields vs)
  (hn:["enumerate","zip","dict_itemiterator","dict_reverseitemiterator","odict_iterator","itertools.zip_longest","itertools.pairwise"].contains n=false) (hQ:Q () s):wpAny M A (letOwnedTupleGo tg (.ref it) u) Q E s:=by
 unfold letOwnedTupleGo
 cases tg <;> first
  | exact wpAny_pure hQ
  | (cases u <;> first
    | exact wpAny_pure hQ
    | (refine wpAny_bind (wpAny_load ho ?_)
       rw [hc,hd]
       show wpAny M A (if (["enumerate","zip","dict_itemiterator","dict_reverseitemiterator","odict_iterator","itertools.zip_longest","itertools.pairwise"].contains n && vs[0]? == some (rawInt _))=true then _ else _) Q E s
       rw [if_neg (by intro h;rw [hn,Bool.false_and] at h;cases h)]
       exact wpAny_pure hQ))
noncomputable def Itl (K:W.Frag) (a:Addr):It :=
 ⟨fun i H=>∃ xs x,SqL K H a xs /\ xs[i]?=some x,fun i H x H'=>H'=H /\ ∀ xs,SqL K H a xs->xs[i]?=some x,fun i H=>∃ xs,SqL K H a xs /\ xs.length <= i⟩
noncomputable def Itt (K:W.Frag) (a:Addr):It :=
 ⟨fun i H=>∃ xs x,SqT K H a xs /\ xs[i]?=some x,fun i H x H'=>H'=H /\ ∀ xs,SqT K H a xs->xs[i]?=some x,fun i H=>∃ xs,SqT K H a xs /\ xs.length <= i⟩
noncomputable def Itr (lo:Int) (n:Nat):It:=⟨fun i _=>i < n,fun i H x H'=>H'=H /\ x=.int (lo+i),fun i _=>n <= i⟩
theorem turn_list {P:Program} {w:World} {K:W.Frag} {tg:Expr} (a it:Addr):Turn P w K tg (Itl K a) [it] it (fun i h=>h.IsListIter it a i) where
 mem:=by simp
 obj:=fun i h st b hb=>by
  have e:b=it:=by simpa using hb
  subst e
  obtain ⟨o,e,c,d⟩:=st
  exact ⟨o,e,fun v z=>by rw [d] at z;cases z⟩
 keep:=fun i h h' st k=>st.at fun o e=>k it (by simp) o e
 item:=by
  intro X hP hw hK hc i pins s σ H E I hf st hg
  subst hP hw hK
  obtain ⟨xs,x,hq,hx⟩:=hg
  obtain ⟨its,rv,p,hz⟩:=I.list hq
  obtain ⟨u,hu,ru⟩:=rv.get hx
  obtain ⟨f0,f1,f2,f3,f4,f5⟩:=hf it (by simp)
  refine wpAny_pyNext_list_item st p.isList (x:=u) (by simpa using hu) fun h' st' sb=>?_
  have I1:Inv X pins σ H { s with heap:=h' }:=I.turned (t':=s.toks) (fun b o hb e=>(sb.2 b hb).trans e) f0 f1 f3 f4 f5
  obtain ⟨o,e,c,d⟩:=id st'
  exact ⟨u,rfl,ZC5 (s:={ s with heap:=h' }) e c d (by decide) ⟨x,H,I1,ru,⟨rfl,fun ys hy=>by rw [I.list_inj hy hq];exact hx⟩,st',fun b hb=>(hf b hb).1⟩⟩
 done:=by
  intro X hP hw hK hc i pins s σ H E I hf st hg
  subst hP hw hK
  obtain ⟨xs,hq,hx⟩:=hg
  obtain ⟨its,rv,p,hz⟩:=I.list hq
  obtain ⟨f0,f1,f2,f3,f4,f5⟩:=hf it (by simp)
  have hl:=rv.length
  exact wpAny_pyNext_list_end (I.ok.hd hc) st p.isList (by simp;omega) fun h' eb=>⟨rfl,I.turned (t':=s.toks) (fun b o hb e=>eb b o hb e) f0 f1 f3 f4 f5⟩
 self:=fun _ _ _ _ _ st h=>wpAny_pyIter_listiter st h
theorem turn_range {P:Program} {w:World} {K:W.Frag} {tg:Expr} (it:Addr) (lo:Int) (n:Nat):Turn P w K tg (Itr lo n) [it] it (fun i h=>IsRangeIter h it (lo+(i:Nat) * 1) ((n:Int)-(i:Nat)) 1) where
 mem:=by simp
 obj:=fun i h st b hb=>by
  have e:b=it:=by simpa using hb
  subst e
  exact ⟨_,st,fun v z=>by
   have z':Data.fields _=Data.cell v:=z
   cases z'⟩
 keep:=fun i h h' st k=>k it (by simp) _ st
 item:=by
  intro X hP hw hK hc i pins s σ H E I hf st hg
  subst hP hw hK
  obtain ⟨f0,f1,f2,f3,f4,f5⟩:=hf it (by simp)
  have W:=Walks.range (prog:=X.prog) (w:=X.w) (I.ok.hd hc) it lo 1 n
  refine W.item i s _ _ hg st fun v h' tk hv st' kk=>?_
  obtain ⟨t,rfl⟩:=hv
  have I1:Inv X pins σ H { s with heap:=h',toks:=tk }:=I.turned (fun b o hb e=>kk b o (by simpa using hb) e) f0 f1 f3 f4 f5
  refine ⟨_,rfl,ZC5 (s:={ s with heap:=h',toks:=tk }) (n:="range_iterator") st' rfl rfl (by decide) ⟨.int (lo+i),H,I1,⟨t,?_⟩,⟨rfl,rfl⟩,st',fun b hb=>(hf b hb).1⟩⟩
  rw [Int.mul_one]
 done:=by
  intro X hP hw hK hc i pins s σ H E I hf st hg
  subst hP hw hK
  obtain ⟨f0,f1,f2,f3,f4,f5⟩:=hf it (by simp)
  exact wpAny_pyNext_range_end (I.ok.hd hc) st (by have:n <= i:=hg;omega) fun h' eb=>⟨rfl,I.turned (t':=s.toks) (fun b o hb e=>eb b o hb e) f0 f1 f3 f4 f5⟩
 self:=fun _ _ _ _ _ st h=>wpAny_pyIter_rangeiter st h
section
variable {X:Cx} {tg:Expr}
noncomputable def ZDE (K:W.Frag) (tl:TE):TI:=fun σ H R=>tl σ H fun x H1=>∃ a,x=.ref a /\ (∃ xs,SqL K H1 a xs) /\ R (Itl K a) H1
noncomputable def iTup (K:W.Frag) (tl:TE):TI:=fun σ H R=>tl σ H fun x H1=>∃ a,x=.ref a /\ (∃ xs,SqT K H1 a xs) /\ R (Itt K a) H1
theorem ZBs {l:Expr} {tl:TE} (hl:PE X l tl):PI X tg l (ZDE X.K tl):=by
 intro pins s σ H R I h
 refine thn (hl pins s σ H _ I h) fun v s1 zz=>?_
 obtain ⟨x,H1,I1,r1,q1⟩:=zz
 obtain ⟨a,e,⟨xs,hq⟩,q⟩:=q1
 subst e
 cases r1
 obtain ⟨its,rv,p,hz⟩:=I1.list hq
 refine wpAny_pyIter_list p.isList ?_
 refine ⟨s1.heap.objs.size,[s1.heap.objs.size],_,_,H1,rfl,I1.kept (t':=s1.toks) fun b o e=>Heap.get?_push_of_some _ e,turn_list a _,⟨_,Heap.get?_push_size _ rfl,rfl,rfl⟩,fun b hb=>?_,q⟩
 have e:b=s1.heap.objs.size:=by simpa using hb
 subst e
 exact I1.fpOk (yAA _) (I1.hok.fresh (yAA _))
theorem range_it {pins:List (Addr×Obj)} {σ:St} {H:Hp} {s:Shared} {R:It->Hp->Prop} {E:Value->Shared->Prop} {lo hi:Int} {t u v:Tok} {tk:Nat} (I:Inv X pins σ H s) (h1:-(2 ^ 62) <= lo) (h2:lo < 2 ^ 62) (h3:-(2 ^ 62) <= hi) (h4:hi < 2 ^ 62)
  (q:R (Itr lo (hi-lo).toNat) H):wpAny (model X.prog X.w) X.A (pyIter (.ref s.heap.objs.size)) (PIE X pins σ tg R) E { s with heap:=s.heap.push { cls:=.type "range",data:=.fields #[.int lo t,.int hi u,.int 1 v] },toks:=tk }:=by
 refine wpAny_pyIter_range (IsRange.new ..) (small_one h1 h2 h3 h4) ?_
 have I1:Inv X pins σ H { s with heap:=s.heap.push { cls:=.type "range",data:=.fields #[.int lo t,.int hi u,.int 1 v] },toks:=tk }:=I.kept fun b o e=>Heap.get?_push_of_some _ e
 refine ⟨(s.heap.push { cls:=.type "range",data:=.fields #[.int lo t,.int hi u,.int 1 v] }).objs.size,[(s.heap.push { cls:=.type "range",data:=.fields #[.int lo t,.int hi u,.int 1 v] }).objs.size],_,_,H,rfl,
  I1.kept (t':=tk) fun b o e=>Heap.get?_push_of_some _ e,turn_range _ lo (hi-lo).toNat,?_,fun b hb=>?_,q⟩
 .have e1:lo+((0:Nat):Int) * 1=lo:=by simp
  have e2:(((hi-lo).toNat:Nat):Int)-((0:Nat):Int)=Builtin.Range.rangeSize lo hi 1:=by rw [rangeSize_one];split <;> omega
  show IsRangeIter _ _ (lo+((0:Nat):Int) * 1) ((((hi-lo).toNat:Nat):Int)-((0:Nat):Int)) 1
  rw [e1,e2]
  exact Heap.get?_push_size _ rfl
 .have e:b=(s.heap.push { cls:=.type "range",data:=.fields #[.int lo t,.int hi u,.int 1 v] }).objs.size:=by simpa using hb
  subst e
  exact I1.fpOk (yAA _) (I1.hok.fresh (yAA _))
noncomputable def ZDD (ta:TA):TI:=fun σ H R=>ta σ H fun vs H1=>∃ j:Int,vs=[.int j] /\ -(2 ^ 62) <= j /\ j < 2 ^ 62 /\ R (Itr 0 j.toNat) H1
noncomputable def iRng2 (ta:TA):TI:=fun σ H R=>ta σ H fun vs H1=>∃ i j:Int,vs=[.int i,.int j] /\ (-(2 ^ 62) <= i /\ i < 2 ^ 62 /\ -(2 ^ 62) <= j /\ j < 2 ^ 62) /\ R (Itr i (j-i).toNat) H1
theorem ZBr {a:Expr} {ta:TA} {p pos:Pos} (hg:Gl X "range") (hm:X.mg "range"=none) (ha:PA X [a] ta) (hs:starEach [a] X.env=[(false,eval a X.env)]:=by rfl):PI X tg (.Call (.Name "range" p) [a] [] pos) (ZDD ta):=by
 intro pins s σ H R I h
 refine Call_ (ZBx I hg hm boot_range (PyProof.Rows.callWith_type1 (thn (ha pos pins s σ H _ I h) fun us s1 zz=>?_) hs rfl))
 obtain ⟨vs,H1,I1,r1,q1⟩:=zz
 obtain ⟨j,e,q1,q2,q⟩:=q1
 subst e
 cases r1 with
 | cons r rr=>
  cases rr
  obtain ⟨t,rfl⟩:=r
  exact call_range_1 (range_it I1 (by omega) (by omega) q1 q2 (by simpa using q))
noncomputable def tFor (wi:TI) (g:TG) (tb:TS):TS:=fun D σ H=>wi σ H fun J H1=>∃ W:Nat->Nat->St->Hp->Prop,(∃ m,W 0 m σ H1) /\ ∀ i m σ H,W i m σ H ->
 (J.stop i H /\ D.nx σ H)∨(J.go i H /\ ∃ N:St->Hp->Prop,(∀ σ' H',N σ' H'->∃ m',m' < m /\ W (i+1) m' σ' H') /\ ∀ x H',J.yld i H x H'->g x σ H' fun σ2 H2=>tb { D with nx:=N,ct:=N,bk:=D.nx } σ2 H2)
noncomputable def ZCS (fp:List Addr) (h:Heap):List (Addr×Obj):=fp.filterMap fun b=>(h.get? b).map fun o=>(b,o)
theorem ZBK {fp:List Addr} {h:Heap} {b:Addr} {o:Obj} (hb:b∈fp) (e:h.get? b=some o):(b,o)∈ZCS fp h:=List.mem_filterMap.mpr ⟨b,hb,by rw [e];rfl⟩
theorem of_pinsAt {fp:List Addr} {h:Heap} {p:Addr×Obj} (hp:p∈ZCS fp h):p.1∈fp /\ h.get? p.1=some p.2:=by
 obtain ⟨b,hb,e⟩:=List.mem_filterMap.mp hp
 cases q:h.get? b with
 | none=>rw [q] at e;cases e
 | some o=>
  rw [q] at e
  have e':(b,o)=p:=Option.some.inj e
  subst e'
  exact ⟨hb,q⟩
theorem Inv.pinned {pins:List (Addr×Obj)} {σ:St} {H:Hp} {s:Shared} {fp:List Addr} (I:Inv X pins σ H s) (hf:∀ b∈fp,FpOk X pins H b) (ho:∀ b∈fp,∃ o,s.heap.get? b=some o /\ ∀ v,o.data≠.cell v):Inv X (pins++ZCS fp s.heap) σ H s :=
 I.pins_of fun p hp=>(yAX.mp hp).elim (fun z=>I.pin p (yAI _ z)) fun z=>by
  obtain ⟨hb,e⟩:=of_pinsAt z
  obtain ⟨f0,f1,f2,_⟩:=hf p.1 hb
  obtain ⟨o,e',d⟩:=ho p.1 hb
  rw [e] at e';cases e'
  exact ⟨e,f0,f1,f2,d⟩
theorem Inv.unpinned {pins pl:List (Addr×Obj)} {σ:St} {H:Hp} {s:Shared} (I:Inv X (pins++pl) σ H s):Inv X pins σ H s:=I.pins_of fun p hp=>I.pin p (yAI _ (List.mem_append_left _ hp))
theorem ZBd {iter:Expr} {body:List Stmt} {wi:TI} {g:TG} {tb:TS} {pos:Pos} (hp:PassesOwn (model X.prog X.w) X.A X.env X.xe) (hc:X.calm=true) (hi:PI X tg iter wi) (hg:PG X tg g) (hb:PSs X body tb)
  (hs:∀ x,foldedSetIterable iter X.env x=pure x:=by intro _;rfl):PS X (.For tg iter body [] pos) (tFor wi g tb):=by
 intro pins s σ H D I h
 refine wpAny_For (thn (hi pins s σ H _ I h) fun v s1 h1=>thn h1 fun itv s2 h2=>?_) hs
 obtain ⟨it,fp,tn,J,H2,e,I2,T,st2,f2,W,⟨m0,w0⟩,turn⟩:=h2
 subst e
 have stat:∀ {H':Hp},(∀ b∈fp,H' b=none)->∀ b∈fp,FpOk X pins H' b:=fun hn b hb=>⟨hn b hb,(f2 b hb).2⟩
 refine codeAny_forLoop_any (fun n s'=>∃ i σ' H',Inv X pins σ' H' s' /\ tn i s'.heap /\ (∀ b∈fp,H' b=none) /\ W i n σ' H') ?_ m0 ⟨0,σ,H2,I2,st2,fun b hb=>(f2 b hb).1,w0⟩
 rintro n s3 ⟨i,σ3,H3,I3,st3,fr3,w3⟩
 rcases turn i n σ3 H3 w3 with ⟨stop,qn⟩ | ⟨go,N,hN,step⟩
 .refine wpAny_passesOwn hp (thn (T.done X rfl rfl rfl hc i pins s3 σ3 H3 X.xe I3 (stat fr3) st3 stop) fun r s4 ⟨hr,I4⟩=>?_)
  subst hr
  exact wpAny_execs_nil ⟨σ3,H3,I4,qn⟩
 .refine wpAny_passesOwn hp (thn (T.item X rfl rfl rfl hc i pins s3 σ3 H3 X.xe I3 (stat fr3) st3 go) fun r s4 ⟨u,hr,h4⟩=>?_)
  subst hr
  refine wpAny_passesOwn hp (thn h4 fun _ s5 zz=>?_)
  obtain ⟨x,H5,I5,r5,y5,st5,fr5⟩:=zz
  have I5':=I5.pinned (stat fr5) (T.obj _ _ st5)
  refine wpAny_passesOwn hp (thn (hg _ s5 σ3 H5 x u _ I5' r5 (step x H5 y5)) fun _ s6 zz=>?_)
  obtain ⟨σ6,H6,I6,q6⟩:=zz
  refine wpAny_passesOwn hp (thn (hb _ s6 σ6 H6 _ I6 q6) fun f s7 q7=>?_)
  have again:∀ {σ7:St} {H7:Hp},Inv X (pins++ZCS fp s5.heap) σ7 H7 s7->N σ7 H7->∃ m,m < n /\ ∃ i σ' H',Inv X pins σ' H' s7 /\ tn i s7.heap /\ (∀ b∈fp,H' b=none) /\ W i m σ' H':=fun {σ7 H7} I7 n7=>by
   obtain ⟨m',hm,w7⟩:=hN σ7 H7 n7
   refine ⟨m',hm,i+1,σ7,H7,I7.unpinned,T.keep _ _ _ st5 fun b hb o e=>(I7.pin (b,o) (yAI _ (yAI _ (ZBK hb e)))).1,fun b hb=>?_,w7⟩
   obtain ⟨o,e,d⟩:=T.obj _ _ st5 b hb
   exact (I7.pin (b,o) (yAI _ (yAI _ (ZBK hb e)))).2.1
  cases f with
  | next=>obtain ⟨σ7,H7,I7,n7⟩:=q7;exact again I7 n7
  | cont=>obtain ⟨σ7,H7,I7,n7⟩:=q7;exact again I7 n7
  | brk=>obtain ⟨σ7,H7,I7,q7⟩:=q7;exact ⟨σ7,H7,I7.unpinned,q7⟩
  | ret v=>obtain ⟨x7,σ7,H7,I7,r7,q7⟩:=q7;exact ⟨x7,σ7,H7,I7.unpinned,r7,q7⟩
end
theorem for_list {K:W.Frag} {a:Addr} {xs:List V} {g:TG} {tb:TS} {D:Ends} {σ:St} {H:Hp} (Pv:Nat->St->Hp->Prop) (h0:Pv 0 σ H) (hl:∀ i σ H,i <= xs.length->Pv i σ H->SqL K H a xs)
  (hs:∀ i x σ H,xs[i]?=some x->Pv i σ H->g x σ H fun σ2 H2=>tb { D with nx:=Pv (i+1),ct:=Pv (i+1),bk:=D.nx } σ2 H2) (hd:∀ σ H,Pv xs.length σ H->D.nx σ H) :
  ∃ W:Nat->Nat->St->Hp->Prop,(∃ m,W 0 m σ H) /\ ∀ i m σ H,W i m σ H ->
   ((Itl K a).stop i H /\ D.nx σ H)∨((Itl K a).go i H /\ ∃ N:St->Hp->Prop,(∀ σ' H',N σ' H'->∃ m',m' < m /\ W (i+1) m' σ' H') /\ ∀ x H',(Itl K a).yld i H x H'->g x σ H' fun σ2 H2=>tb { D with nx:=N,ct:=N,bk:=D.nx } σ2 H2):=by
 refine ⟨fun i m σ H=>m=xs.length-i /\ i <= xs.length /\ Pv i σ H,⟨xs.length,by simp,yAR _,h0⟩,?_⟩
 rintro i m σ H ⟨rfl,hi,p⟩
 have q:=hl i σ H hi p
 by_cases hlt:i < xs.length
 .refine .inr ⟨⟨xs,xs[i],q,by simp [hlt]⟩,Pv (i+1),fun σ' H' p'=>⟨xs.length-(i+1),by omega,rfl,hlt,p'⟩,fun x H' y=>?_⟩
  obtain ⟨e,y⟩:=y
  subst e
  exact hs i x σ _ (y xs q) p
 .have e:i=xs.length:=by omega
  subst e
  exact .inl ⟨⟨xs,q,yAA _⟩,hd σ H p⟩
theorem for_range {lo:Int} {n:Nat} {g:TG} {tb:TS} {D:Ends} {σ:St} {H:Hp} (Pv:Nat->St->Hp->Prop) (h0:Pv 0 σ H)
  (hs:∀ i σ H,i < n->Pv i σ H->g (.int (lo+i)) σ H fun σ2 H2=>tb { D with nx:=Pv (i+1),ct:=Pv (i+1),bk:=D.nx } σ2 H2) (hd:∀ σ H,Pv n σ H->D.nx σ H) :
  ∃ W:Nat->Nat->St->Hp->Prop,(∃ m,W 0 m σ H) /\ ∀ i m σ H,W i m σ H ->
   ((Itr lo n).stop i H /\ D.nx σ H)∨((Itr lo n).go i H /\ ∃ N:St->Hp->Prop,(∀ σ' H',N σ' H'->∃ m',m' < m /\ W (i+1) m' σ' H') /\ ∀ x H',(Itr lo n).yld i H x H'->g x σ H' fun σ2 H2=>tb { D with nx:=N,ct:=N,bk:=D.nx } σ2 H2):=by
 refine ⟨fun i m σ H=>m=n-i /\ i <= n /\ Pv i σ H,⟨n,by simp,yAR _,h0⟩,?_⟩
 rintro i m σ H ⟨rfl,hi,p⟩
 by_cases hlt:i < n
 .refine .inr ⟨hlt,Pv (i+1),fun σ' H' p'=>⟨n-(i+1),by omega,rfl,hlt,p'⟩,fun x H' y=>?_⟩
  obtain ⟨e,y⟩:=y
  subst e y
  exact hs i σ _ hlt p
 .have e:i=n:=by omega
  subst e
  exact .inl ⟨yAA _,hd σ H p⟩
noncomputable abbrev R2:=V->V->Hp->VK->Prop
noncomputable def OpR (X:Cx) (f:Value->Value->Sem Value) (r:R2):Prop :=
 ∀ (pins:List (Addr×Obj)) (s:Shared) (σ:St) (H:Hp) (x y:V) (v u:Value) (Q:VK),Inv X pins σ H s->RelV x v->RelV y u->r x y H Q ->
  wpAny (model X.prog X.w) X.A (f v u) (EP X pins σ Q) X.xe s
noncomputable def UnR (X:Cx) (f:Value->Sem Value) (r:V->Hp->VK->Prop):Prop :=
 ∀ (pins:List (Addr×Obj)) (s:Shared) (σ:St) (H:Hp) (x:V) (v:Value) (Q:VK),Inv X pins σ H s->RelV x v->r x H Q ->
  wpAny (model X.prog X.w) X.A (f v) (EP X pins σ Q) X.xe s
noncomputable def ZBX (X:Cx) (f:Value) (r:List V->Hp->VK->Prop):Prop :=
 ∀ (pins:List (Addr×Obj)) (s:Shared) (σ:St) (H:Hp) (xs:List V) (us:List Value) (Q:VK),Inv X pins σ H s->Vals xs us->r xs H Q ->
  wpAny (model X.prog X.w) X.A (call f us) (EP X pins σ Q) X.xe s
noncomputable def tOp (r:R2) (ta tb:TE):TE:=fun σ H Q=>ta σ H fun x H1=>tb σ H1 fun y H2=>r x y H2 Q
noncomputable def tUn (r:V->Hp->VK->Prop) (ta:TE):TE:=fun σ H Q=>ta σ H fun x H1=>r x H1 Q
noncomputable def rI (C:Int->Int->Prop) (g:Int->Int->V):R2:=fun x y H Q=>∃ i j,x=.int i /\ y=.int j /\ C i j /\ Q (g i j) H
noncomputable def rI0 (g:Int->Int->V):R2:=fun x y H Q=>∃ i j,x=.int i /\ y=.int j /\ Q (g i j) H
noncomputable def rU (g:Int->V):V->Hp->VK->Prop:=fun x H Q=>∃ i,x=.int i /\ Q (g i) H
section
variable {X:Cx} {a b c:Expr} {ta tb tc:TE} {pos:Pos}
theorem binT (ha:PE X a ta) (hb:PE X b tb) {pins:List (Addr×Obj)} {s:Shared} {σ:St} {H:Hp} {R:V->V->Hp->Prop} (I:Inv X pins σ H s)
  (h:ta σ H fun x H1=>tb σ H1 fun y H2=>R x y H2) {Q:Value->Shared->Prop} {f:Value->Value->Sem Value}
  (hf:∀ v u s2 x y H2,Inv X pins σ H2 s2->RelV x v->RelV y u->R x y H2->wpAny (model X.prog X.w) X.A (f v u) Q X.xe s2) :
  wpAny (model X.prog X.w) X.A (eval a X.env) (fun v s₁=>wpAny (model X.prog X.w) X.A (eval b X.env) (fun u s₂=>wpAny (model X.prog X.w) X.A (f v u) Q X.xe s₂) X.xe s₁) X.xe s:=by
 refine thn (ha pins s σ H _ I h) fun v s1 zz=>?_
 obtain ⟨x,H1,I1,r1,q1⟩:=zz
 refine thn (hb pins s1 σ H1 _ I1 q1) fun u s2 zz=>?_
 obtain ⟨y,H2,I2,r2,q2⟩:=zz
 exact hf v u s2 x y H2 I2 r1 r2 q2
theorem ZAP {op:Operator} {r:R2} (ho:OpR X (binaryOp op) r) (ha:PE X a ta) (hb:PE X b tb):PE X (.BinOp a op b pos) (tOp r ta tb):=by
 intro pins s σ H Q I h
 exact wpAny_BinOp (binT ha hb I h fun v u s2 x y H2 I2 rx ry q=>ho pins s2 σ H2 x y v u Q I2 rx ry q)
theorem pe_un {op:UnaryOp} {r:V->Hp->VK->Prop} (ho:UnR X (unaryOp op) r) (ha:PE X a ta):PE X (.UnaryOp op a pos) (tUn r ta):=by
 intro pins s σ H Q I h
 exact UnaryOp_ (thn (ha pins s σ H _ I h) fun v s1 ⟨x,H1,I1,r1,q1⟩=>ho pins s1 σ H1 x v Q I1 r1 q1)
theorem opI {f:Value->Value->Sem Value} {C:Int->Int->Prop} {g:Int->Int->Int}
  (rule:∀ (i j:Int) (t u:Tok) (s:Shared) (Q:Value->Shared->Prop) (E:Value->Shared->Prop),C i j->Q (.int (g i j) s.toks) { s with toks:=s.toks+1 }->wpAny (model X.prog X.w) X.A (f (.int i t) (.int j u)) Q E s) :
  OpR X f (rI C fun i j=>.int (g i j)):=by
 intro pins s σ H x y v u Q I rx ry h
 obtain ⟨i,j,rfl,rfl,hc,q⟩:=h
 obtain ⟨t,rfl⟩:=rx
 obtain ⟨t',rfl⟩:=ry
 exact rule i j t t' s _ _ hc ⟨.int (g i j),H,I.tok _,⟨_,rfl⟩,q⟩
theorem opI0 {f:Value->Value->Sem Value} {g:Int->Int->Int}
  (rule:∀ (i j:Int) (t u:Tok) (s:Shared) (Q:Value->Shared->Prop) (E:Value->Shared->Prop),Q (.int (g i j) s.toks) { s with toks:=s.toks+1 }->wpAny (model X.prog X.w) X.A (f (.int i t) (.int j u)) Q E s) :
  OpR X f (rI0 fun i j=>.int (g i j)):=by
 intro pins s σ H x y v u Q I rx ry h
 obtain ⟨i,j,rfl,rfl,q⟩:=h
 obtain ⟨t,rfl⟩:=rx
 obtain ⟨t',rfl⟩:=ry
 exact rule i j t t' s _ _ ⟨.int (g i j),H,I.tok _,⟨_,rfl⟩,q⟩
theorem opB0 {f:Value->Value->Sem Value} {g:Int->Int->Bool}
  (rule:∀ (i j:Int) (t u:Tok) (s:Shared) (Q:Value->Shared->Prop) (E:Value->Shared->Prop),Q (.bool (g i j)) s->wpAny (model X.prog X.w) X.A (f (.int i t) (.int j u)) Q E s) :
  OpR X f (rI0 fun i j=>.bl (g i j)):=by
 intro pins s σ H x y v u Q I rx ry h
 obtain ⟨i,j,rfl,rfl,q⟩:=h
 obtain ⟨t,rfl⟩:=rx
 obtain ⟨t',rfl⟩:=ry
 exact rule i j t t' s _ _ ⟨.bl (g i j),H,I,rfl,q⟩
noncomputable def CDiv (i j:Int):Prop:=0 < j /\ j < 1073741824
noncomputable def CPow (i j:Int):Prop:=0 <= j /\ j <= 1000000 /\ i.natAbs < 2 ^ 64
noncomputable def CMul (i j:Int):Prop:=(-(2 ^ 64) < i /\ i < 2 ^ 64)∨(-(2 ^ 64) < j /\ j < 2 ^ 64)
theorem CMul.ok {i j:Int} (h:CMul i j):IntMulOk i j:=by
 rcases h with ⟨h1,h2⟩ | ⟨h1,h2⟩
 .exact .of_left (intBits_le_64 h1 h2)
 .exact .of_right (intBits_le_64 h1 h2)
theorem ZBA:OpR X (binaryOp .Add) (rI0 fun i j=>.int (i+j)):=opI0 fun _ _ _ _ _ _ _ q=>add_int q
theorem ZB9:OpR X (binaryOp .Sub) (rI0 fun i j=>.int (i-j)):=opI0 fun _ _ _ _ _ _ _ q=>sub_int q
theorem ZCo:OpR X (binaryOp .Mult) (rI CMul fun i j=>.int (i * j)):=opI fun _ _ _ _ _ _ _ hc q=>mul_int q hc.ok
theorem ZCG:OpR X (binaryOp .FloorDiv) (rI CDiv fun i j=>.int (i / j)):=opI fun i j _ _ _ _ _ hc q=>by
 have h1:(0:Int) < j:=hc.1
 have h2:j < 1073741824:=hc.2
 exact floordiv_int (by omega) (by rw [Int.fdiv_eq_ediv_of_nonneg i (by omega)];exact q) (.inl (PyProof.noPylong_small (by omega)))
theorem ZAn:OpR X (binaryOp .Mod) (rI (fun _ j=>0 < j) fun i j=>.int (i % j)):=opI fun i j _ _ _ _ _ hc q=>by
 have h1:(0:Int) < j:=hc
 exact mod_int' (by omega) (by rw [Int.fmod_eq_emod_of_nonneg i (by omega)];exact q)
theorem ZCn:OpR X (binaryOp .Pow) (rI CPow fun i j=>.int (i ^ j.toNat)):=opI fun _ _ _ _ _ _ _ hc q=>pow_int_small hc.1 hc.2.1 hc.2.2 q
theorem unI {f:Value->Sem Value} {g:Int->Int}
  (rule:∀ (i:Int) (t:Tok) (s:Shared) (Q:Value->Shared->Prop) (E:Value->Shared->Prop),Q (.int (g i) s.toks) { s with toks:=s.toks+1 }->wpAny (model X.prog X.w) X.A (f (.int i t)) Q E s) :
  UnR X f (rU fun i=>.int (g i)):=by
 intro pins s σ H x v Q I rx h
 obtain ⟨i,rfl,q⟩:=h
 obtain ⟨t,rfl⟩:=rx
 exact rule i t s _ _ ⟨.int (g i),H,I.tok _,⟨_,rfl⟩,q⟩
theorem un_neg:UnR X (unaryOp .USub) (rU fun i=>.int (-i)):=unI fun _ _ _ _ _ q=>neg_int q
end
noncomputable def scal:V->V->Bool
 | .non,.non=>true | .non,.int _=>true | .int _,.non=>true | .non,.bl _=>true | .bl _,.non=>true | .non,.str _=>true | .str _,.non=>true
 | .int _,.int _=>true | .bl _,.bl _=>true | .str _,.str _=>true | .byt _,.byt _=>true
 | .int _,.str _=>true | .str _,.int _=>true | .bl _,.str _=>true | .str _,.bl _=>true
 | _,_=>false
noncomputable def rEq:R2:=fun x y H Q=>scal x y=true /\ Q (.bl (decide (x=y))) H
noncomputable def rNe:R2:=fun x y H Q=>scal x y=true /\ Q (.bl (!decide (x=y))) H
theorem dec_int {i j:Int}:decide (V.int i=V.int j)=(i == j):=by
 rw [yBE]
 simp
theorem dec_bl {i j:Bool}:decide (V.bl i=V.bl j)=(i == j):=by
 rw [yBE]
 simp
theorem dec_str {i j:Str}:decide (V.str i=V.str j)=(i == j):=by
 rw [yBE]
 simp
theorem dec_byt {i j:Array UInt8}:decide (V.byt i=V.byt j)=(i.toList == j.toList):=by
 rw [yBE]
 cases i
 cases j
 simp
section
variable {X:Cx} {a b c:Expr} {ta tb tc:TE} {pos:Pos}
theorem ZAR {pins:List (Addr×Obj)} {σ:St} {H:Hp} {s:Shared} {Q:VK} {k k':Bool} (I:Inv X pins σ H s) (q:Q (.bl k) H) (e:k=k'):EP X pins σ Q (.bool k') s:=by
 subst e
 exact ⟨.bl k,H,I,rfl,q⟩
theorem ZBU:OpR X (compareOp .Eq) rEq:=by
 intro pins s σ H x y v u Q I rx ry h
 obtain ⟨hs,q⟩:=h
 cases x with
 | non=>
  cases rx
  cases y with
  | non=>cases ry;exact PySem.EqNone.eq_none_none (ZAR I q (by simp))
  | bl j=>cases ry;exact PySem.EqNone.eq_none_bool (ZAR I q (by simp))
  | int j=>obtain ⟨t',rfl⟩:=ry;exact PySem.EqNone.eq_none_int (ZAR I q (by simp))
  | str j=>obtain ⟨t',rfl⟩:=ry;exact PySem.EqNone.eq_none_str (ZAR I q (by simp))
  | _=>exact absurd (show false=true from hs) yAH
 | bl i=>
  cases rx
  cases y with
  | non=>cases ry;exact PySem.EqNone.eq_bool_none (ZAR I q (by simp))
  | bl j=>cases ry;exact eq_bool (ZAR I q dec_bl)
  | str j=>obtain ⟨t',rfl⟩:=ry;exact PySem.EqMixed.eq_bool_str (ZAR I q (by simp))
  | _=>exact absurd (show false=true from hs) yAH
 | int i=>
  obtain ⟨t,rfl⟩:=rx
  cases y with
  | non=>cases ry;exact PySem.EqNone.eq_int_none (ZAR I q (by simp))
  | int j=>obtain ⟨t',rfl⟩:=ry;exact eq_int (ZAR I q dec_int)
  | str j=>obtain ⟨t',rfl⟩:=ry;exact PySem.EqMixed.eq_int_str (ZAR I q (by simp))
  | _=>exact absurd (show false=true from hs) yAH
 | str i=>
  obtain ⟨t,rfl⟩:=rx
  cases y with
  | non=>cases ry;exact PySem.EqNone.eq_str_none (ZAR I q (by simp))
  | bl j=>cases ry;exact PySem.EqMixed.eq_str_bool (ZAR I q (by simp))
  | int j=>obtain ⟨t',rfl⟩:=ry;exact PySem.EqMixed.eq_str_int (ZAR I q (by simp))
  | str j=>obtain ⟨t',rfl⟩:=ry;exact eq_str (ZAR I q dec_str)
  | _=>exact absurd (show false=true from hs) yAH
 | byt i=>
  obtain ⟨t,rfl⟩:=rx
  cases y with
  | byt j=>obtain ⟨t',rfl⟩:=ry;exact PySem.W.eq_bytes (ZAR I q dec_byt)
  | _=>exact absurd (show false=true from hs) yAH
 | _=>cases y <;> exact absurd (show false=true from hs) yAH
theorem ZCc:OpR X (compareOp .NotEq) rNe:=by
 intro pins s σ H x y v u Q I rx ry h
 obtain ⟨hs,q⟩:=h
 cases x with
 | non=>
  cases rx
  cases y with
  | non=>cases ry;exact PySem.EqNone.ne_none_none (ZAR I q (by simp))
  | bl j=>cases ry;exact PySem.EqNone.ne_none_bool (ZAR I q (by simp))
  | int j=>obtain ⟨t',rfl⟩:=ry;exact PySem.EqNone.ne_none_int (ZAR I q (by simp))
  | str j=>obtain ⟨t',rfl⟩:=ry;exact PySem.EqNone.ne_none_str (ZAR I q (by simp))
  | _=>exact absurd (show false=true from hs) yAH
 | bl i=>
  cases rx
  cases y with
  | non=>cases ry;exact PySem.EqNone.ne_bool_none (ZAR I q (by simp))
  | bl j=>cases ry;exact ne_bool (ZAR I q (congrArg not dec_bl))
  | str j=>obtain ⟨t',rfl⟩:=ry;exact PySem.EqMixed.ne_bool_str (ZAR I q (by simp))
  | _=>exact absurd (show false=true from hs) yAH
 | int i=>
  obtain ⟨t,rfl⟩:=rx
  cases y with
  | non=>cases ry;exact PySem.EqNone.ne_int_none (ZAR I q (by simp))
  | int j=>obtain ⟨t',rfl⟩:=ry;exact ne_int (ZAR I q (congrArg not dec_int))
  | str j=>obtain ⟨t',rfl⟩:=ry;exact PySem.EqMixed.ne_int_str (ZAR I q (by simp))
  | _=>exact absurd (show false=true from hs) yAH
 | str i=>
  obtain ⟨t,rfl⟩:=rx
  cases y with
  | non=>cases ry;exact PySem.EqNone.ne_str_none (ZAR I q (by simp))
  | bl j=>cases ry;exact PySem.EqMixed.ne_str_bool (ZAR I q (by simp))
  | int j=>obtain ⟨t',rfl⟩:=ry;exact PySem.EqMixed.ne_str_int (ZAR I q (by simp))
  | str j=>obtain ⟨t',rfl⟩:=ry;exact ne_str (ZAR I q (congrArg not dec_str))
  | _=>exact absurd (show false=true from hs) yAH
 | byt i=>
  obtain ⟨t,rfl⟩:=rx
  cases y with
  | byt j=>obtain ⟨t',rfl⟩:=ry;exact PySem.W.ne_bytes (ZAR I q (congrArg not dec_byt))
  | _=>exact absurd (show false=true from hs) yAH
 | _=>cases y <;> exact absurd (show false=true from hs) yAH
theorem op_lt:OpR X (compareOp .Lt) (rI0 fun i j=>.bl (decide (i < j))):=opB0 fun _ _ _ _ _ _ _ q=>lt_int q
theorem op_le:OpR X (compareOp .LtE) (rI0 fun i j=>.bl (decide (i <= j))):=opB0 fun _ _ _ _ _ _ _ q=>le_int q
theorem ZC4:OpR X (compareOp .Gt) (rI0 fun i j=>.bl (decide (j < i))):=opB0 fun _ _ _ _ _ _ _ q=>gt_int q
theorem op_ge:OpR X (compareOp .GtE) (rI0 fun i j=>.bl (decide (j <= i))):=opB0 fun _ _ _ _ _ _ _ q=>ge_int q
theorem op_in_str:OpR X (compareOp .In) (fun x y H Q=>∃ i j,x=.str i /\ y=.str j /\ Q (.bl (!(Builtin.Str.occurrences j i 0 j.length 1).isEmpty)) H):=by
 intro pins s σ H x y v u Q I rx ry h
 obtain ⟨i,j,rfl,rfl,q⟩:=h
 obtain ⟨t,rfl⟩:=rx
 obtain ⟨t',rfl⟩:=ry
 exact in_str (ZAR I q rfl)
theorem op_isN:OpR X (compareOp .Is) (fun x y H Q=>y=.non /\ Q (.bl (decide (x=.non))) H):=by
 intro pins s σ H x y v u Q I rx ry h
 obtain ⟨rfl,q⟩:=h
 cases ry
 refine is_none_gen (ZAR I q ?_)
 cases x <;> first
  | (cases rx;rfl)
  | (obtain ⟨t,rfl⟩:=rx;rfl)
theorem op_notin_str:OpR X (compareOp .NotIn) (fun x y H Q=>∃ i j,x=.str i /\ y=.str j /\ Q (.bl (!(!(Builtin.Str.occurrences j i 0 j.length 1).isEmpty))) H):=by
 intro pins s σ H x y v u Q I rx ry h
 obtain ⟨i,j,rfl,rfl,q⟩:=h
 obtain ⟨t,rfl⟩:=rx
 obtain ⟨t',rfl⟩:=ry
 exact notIn_str (ZAR I q rfl)
theorem ZAU (b:Expr) {op:CmpOp} (h:op≠.In:=by decide) (h2:op≠.NotIn:=by decide):behindInMarks op b=false:=by
 have e1:(op == CmpOp.In)=false:=by cases op <;> first | rfl | exact absurd rfl h
 have e2:(op == CmpOp.NotIn)=false:=by cases op <;> first | rfl | exact absurd rfl h2
 cases b <;> simp [behindInMarks,e1,e2]
theorem ZBu {op:CmpOp} {r:R2} (ho:OpR X (compareOp op) r) (ha:PE X a ta) (hb:PE X b tb) (hm:behindInMarks op b=false):PE X (.Compare a [op] [b] pos) (tOp r ta tb):=by
 intro pins s σ H Q I h
 exact wpAny_Compare1 (binT ha hb I h fun v u s2 x y H2 I2 rx ry q=>ho pins s2 σ H2 x y v u Q I2 rx ry q) hm
noncomputable def ZC6 (t:TE):TT:=fun σ H Q=>t σ H fun x H'=>∃ k,x=.bl k /\ Q k H'
theorem ZAM {op:CmpOp} {r:R2} (ho:OpR X (compareOp op) r) (ha:PE X a ta) (hb:PE X b tb) (hm:behindInMarks op b=false):PT X (.Compare a [op] [b] pos) (ZC6 (tOp r ta tb)):=by
 intro pins s σ H Q I h
 refine wpAny_isTrue_Compare1 (thn (ha pins s σ H _ I h) fun v s1 ⟨x,H1,I1,r1,q1⟩=>thn (hb pins s1 σ H1 _ I1 q1) fun u s2 ⟨y,H2,I2,r2,q2⟩=>
  thn (ho pins s2 σ H2 x y v u _ I2 r1 r2 q2) fun c s3 ⟨z,H3,I3,r3,k,e,q3⟩=>?_) hm
 subst e
 cases r3
 exact wpAny_truthy_bool ⟨H3,I3,q3⟩
noncomputable def tChain (r r':R2) (ta tb tc:TE):TE:=fun σ H Q=>ta σ H fun x H1=>tb σ H1 fun y H2=>r x y H2 fun z H3=>∃ k,z=.bl k /\
 (if k=true then tc σ H3 fun w' H4=>r' y w' H4 Q else Q (.bl false) H3)
theorem ZCp:(sizeLine:Nat) < 2 ^ 63:=by rw [sizeLine_eq];decide
theorem ZBg {x:V} {us:List Value} (r:Vals [x] us):∃ u,us=[u] /\ RelV x u:=by
 cases r with
 | cons r1 r2=>cases r2;exact ⟨_,rfl,r1⟩
theorem ZC1 {x y:V} {us:List Value} (r:Vals [x,y] us):∃ u w',us=[u,w'] /\ RelV x u /\ RelV y w':=by
 cases r with
 | cons r1 r2=>
  cases r2 with
  | cons r3 r4=>cases r4;exact ⟨_,_,rfl,r1,r3⟩
theorem call_str_int:ZBX X (.type "str") (fun xs H Q=>∃ i,xs=[.int i] /\ i.natAbs.log2 < 1920 /\ Q (.str (toString i)) H):=by
 intro pins s σ H xs us Q I r h
 obtain ⟨i,rfl,hz,q⟩:=h
 obtain ⟨u,rfl,t,rfl⟩:=ZBg r
 exact PySem.P.str_of_int hz ⟨.str _,H,I.tok _,⟨_,rfl⟩,q⟩
end
structure ObjM (h:Heap) (x dx C:Addr) (mA:Str->Option Value):Prop where
 obj:h.get? x=some (PySem.W.instObj C dx)
 ns:h.Ns1 dx mA
 ne:dx≠x
theorem ZBw {h:Heap} {dx:Addr} {mA:Str->Option Value} (n:h.Ns1 dx mA):∃ od,h.get? dx=some od /\ ∀ name,PySem.W.lookIn name od=some (mA name):=by
 obtain ⟨o,es,ep,ho,hd,hk,_,hm⟩:=n
 refine ⟨o,ho,fun name=>?_⟩
 have e:=hm name
 unfold nsFind findBy at e
 rw [<- Array.find?_toList] at e
 unfold PySem.W.lookIn
 rw [hd]
 dsimp only
 split
 .rename_i y q
  rw [q] at e
  exact congrArg some e
 .rename_i q
  rw [q] at e
  have a:es.toList.any (·.refKey)=false:=by
   rw [List.any_eq_false]
   intro y hy
   obtain ⟨z,t,hkey⟩:=hk y (Array.mem_toList_iff.mp hy)
   simp [DictEntry.refKey,hkey]
  have a':¬ es.toList.any (·.refKey)=true:=by rw [a];exact yAH
  rw [if_neg a']
  exact congrArg some e
theorem ObjM.look {h:Heap} {x dx C:Addr} {mA:Str->Option Value} (I:ObjM h x dx C mA):∃ od,PySem.W.InstAt h x (PySem.W.instObj C dx) C (some od) /\ ∀ name,PySem.W.lookIn name od=some (mA name) :=
 let ⟨od,ho,hl⟩:=ZBw I.ns
 ⟨od,⟨I.obj,rfl,rfl,ho⟩,hl⟩
section
variable {prog:Program} {w:World} {A:Around} {E:Value->Shared->Prop} {s:Shared} {K:W.Frag} {x dx C f:Addr} {mA:Str->Option Value} {name:Str} {v:Value}
end
noncomputable def putF (f:Str) (v:V):List (Str×V)->List (Str×V)
 | []=>[(f,v)]
 | (g,x)::r=>if g=f then (g,v)::r else (g,x)::putF f v r
theorem lookup_putF (f g:Str) (v:V):∀ fs:List (Str×V),(putF f v fs).lookup g=if g=f then some v else fs.lookup g
 | []=>by
  show List.lookup g [(f,v)]=_
  by_cases h:g=f
  .have hb:(g == f)=true:=beq_iff_eq.mpr h
   simp only [List.lookup,hb,if_pos h]
  .have hb:(g == f)=false:=beq_eq_false_iff_ne.mpr h
   simp only [List.lookup,hb,if_neg h]
 | (k,x)::r=>by
  have ih:=lookup_putF f g v r
  rw [show putF f v ((k,x)::r)=(if k=f then (k,v)::r else (k,x)::putF f v r) from rfl]
  by_cases hk:k=f
  .rw [if_pos hk]
   by_cases h:g=k
   .have hb:(g == k)=true:=beq_iff_eq.mpr h
    simp only [List.lookup,hb,if_pos (h.trans hk)]
   .have hb:(g == k)=false:=beq_eq_false_iff_ne.mpr h
    simp only [List.lookup,hb,if_neg (fun e:g=f=>h (e.trans hk.symm))]
  .rw [if_neg hk]
   by_cases h:g=k
   .have hb:(g == k)=true:=beq_iff_eq.mpr h
    simp only [List.lookup,hb,if_neg (fun e:g=f=>hk (h.symm.trans e))]
   .have hb:(g == k)=false:=beq_eq_false_iff_ne.mpr h
    simp only [List.lookup,hb]
    exact ih
theorem RelO.some_of {v:V} {o:Option Value} (r:RelO (some v) o):∃ u,o=some u /\ RelV v u:=by
 cases o with
 | none=>exact (show False from r).elim
 | some u=>exact ⟨u,rfl,r⟩
theorem handed_of {v:V} {u:Value} (r:RelV v u):PySem.W.handedIn u=true:=by
 cases v with
 | non=>cases (show u=Value.none from r);rfl
 | bl b=>cases (show u=Value.bool b from r);rfl
 | int i=>obtain ⟨t,e⟩:=(show ∃ t,u=Value.int i t from r);cases e;rfl
 | str x=>obtain ⟨t,e⟩:=(show ∃ t,u=Value.str x t from r);cases e;rfl
 | byt b=>obtain ⟨t,e⟩:=(show ∃ t,u=Value.bytes b t from r);cases e;rfl
 | flt b=>obtain ⟨t,e⟩:=(show ∃ t,u=Value.float b t from r);cases e;rfl
 | ref a=>cases (show u=Value.ref a from r);rfl
 | ty n=>cases (show u=Value.type n from r);rfl
section
variable {P:Program} {w:World} {H H':Hp} {h h':Heap} {a C dx:Addr} {fs fs':List (Str×V)}
theorem ins_get (hok:HOk P w H h) (e:H a=some (.ins C dx fs)):∃ mA,ObjM h a dx C mA /\ (∀ f,RelO (fs.lookup f) (mA f)) /\ PySem.Within mA (fs.map (·.1)) /\ fs.length <= 1000 /\ H dx=some (.own a):=by
 obtain ⟨d,z,ne,ob,mA,n,r,q⟩:=(show ObjOk P w H h a (.ins C dx fs) from hok a _ e)
 exact ⟨mA,⟨ob,n,ne⟩,r,q,z,d⟩
end
structure Cls (K:W.Frag) (C:Addr):Prop where
 pg:PySem.W.plainGet K C Str.empty=true
 hd:PySem.W.hasDictIn K C=true
 po:PySem.W.plainOver K C=true
 sa:W.findIn K (.ref C) "__setattr__"=some (some (.builtin "object.__setattr__"))
theorem Cls.get {K:W.Frag} {C:Addr} (c:Cls K C) (f:Str):PySem.W.plainGet K C f=true:=c.pg
noncomputable def NoAttr (K:W.Frag) (C:Addr) (f:Str):Prop:=W.findIn K (.ref C) f=some none
theorem NoAttr.taker {K:W.Frag} {C:Addr} {f:Str} (n:NoAttr K C f):PySem.W.takerIn K C f=some none:=by
 unfold PySem.W.takerIn
 rw [show W.findIn K (.ref C) f=some none from n]
 rfl
section
variable {X:Cx} {pins:List (Addr×Obj)} {σ:St} {H:Hp} {s:Shared} {a C dx:Addr} {fs:List (Str×V)} {f:Str} {v:V} {A:Around} {E:Value->Shared->Prop}
theorem attr_of {prog:Program} {w:World} {env:Env} {e:Expr} {f:Str} {pos:Pos} {s:Shared} {Q:Value->Shared->Prop} (hb:attributeBase e f env (eval e env)=eval e env)
  (h:wpAny (model prog w) A (eval e env) (fun o s₁=>wpAny (model prog w) A (getAttr o f true) Q E s₁) E s):wpAny (model prog w) A (eval (.Attribute e f pos) env) Q E s :=
 Attribute_any_ h (by rw [arm_eval_Attribute,hb])
end
noncomputable def tFld (K:W.Frag) (ta:TE) (f:Str):TE:=fun σ H Q=>ta σ H fun x H1=>∃ a C dx fs v,x=.ref a /\ H1 a=some (.ins C dx fs) /\ Cls K C /\ NoAttr K C f /\ fs.lookup f=some v /\ Q v H1
noncomputable def sFld (K:W.Frag) (ta tv:TE) (f:Str):TS:=fun D σ H=>tv σ H fun y H1=>ta σ H1 fun x H2=>∃ a C dx fs,x=.ref a /\ H2 a=some (.ins C dx fs) /\ Cls K C /\ NoAttr K C f /\ fs.length < 1000 /\
 D.nx σ (upd H2 a (.ins C dx (putF f y fs)))
noncomputable def sFldAug (K:W.Frag) (ta tv:TE) (rd:V->V->Hp->VK->Prop) (f:Str):TS:=fun D σ H=>ta σ H fun x H1=>∃ a C dx fs v,x=.ref a /\ H1 a=some (.ins C dx fs) /\ Cls K C /\ NoAttr K C f /\ fs.lookup f=some v /\
 tv σ H1 fun y H2=>rd v y H2 fun z H3=>∃ dx' fs',H3 a=some (.ins C dx' fs') /\ fs'.length < 1000 /\ D.nx σ (upd H3 a (.ins C dx' (putF f z fs')))
section
variable {X:Cx} {o e value:Expr} {f:Str} {pos pos' tpos:Pos} {ta tv:TE}
end
section
variable {X:Cx} {pins:List (Addr×Obj)} {σ:St} {H:Hp} {s:Shared} {A:Around} {E:Value->Shared->Prop} {Q:Value->Shared->Prop} {c:Value} {b:Bool}
inductive TyOf (K:W.Frag) (H:Hp):V->Value->Prop where
 | non:TyOf K H .non (.type "NoneType")
 | bl (x:Bool):TyOf K H (.bl x) (.type "bool")
 | int (i:Int):TyOf K H (.int i) (.type "int")
 | str (x:Str):TyOf K H (.str x) (.type "str")
 | flt (x:UInt64):TyOf K H (.flt x) (.type "float")
 | lst {a:Addr} {xs:List V} (e:H a=some (.lst xs)):TyOf K H (.ref a) (.type "list")
 | frz {a:Addr} {o:Obj} {xs:List V} (e:H a=some (.frz o (.lst xs))):TyOf K H (.ref a) (.type "list")
 | tup {a:Addr} {xs:List V} (e:H a=some (.tup xs)):TyOf K H (.ref a) (.type "tuple")
 | dK {a:Addr} {kvs:List (Key×V)} (e:H a=some (.dK kvs)):TyOf K H (.ref a) (.type "dict")
 | dT {a:Addr} {kvs:List (List Key×V)} (e:H a=some (.dT kvs)):TyOf K H (.ref a) (.type "dict")
 | ins {a C dx:Addr} {fs:List (Str×V)} (e:H a=some (.ins C dx fs)) (cl:Cls K C) (ha:W.findIn K (.ref C) "__class__"=some (some (.builtin "object.__class__")))
   (hn:PySem.W.specialIn K (.builtin "object.__class__") "__get__"=some (some (.builtin "getset_descriptor.__get__"))) (htk:PySem.W.takesIn K (.builtin "object.__class__")=some true)
   (hm:PySem.W.mroIn K C (.type "object")=some true):TyOf K H (.ref a) (.ref C)
theorem isinst_ok {x:V} {u t:Value} (I:Inv X pins σ H s) (rx:RelV x u) (ty:TyOf X.K H x t) (e:PySem.W.kitOne X.K t c=some b) (h:∀ tk,Q (.bool b) { s with toks:=tk }) :
  wpAny (model X.prog X.w) A (call (.builtin "isinstance") [u,c]) Q E s:=by
 cases ty with
 | non=>cases (show u=Value.none from rx);exact PySem.W.kia_one PySem.W.kitx_none I.kIn True.intro e (fun z=>nomatch z) h
 | bl y=>cases (show u=Value.bool y from rx);exact PySem.W.kia_one PySem.W.kitx_bool I.kIn True.intro e (fun z=>nomatch z) h
 | int i=>obtain ⟨t,q⟩:=(show ∃ t,u=Value.int i t from rx);cases q;exact PySem.W.kia_one PySem.W.kitx_int I.kIn True.intro e (fun z=>nomatch z) h
 | str y=>obtain ⟨t,q⟩:=(show ∃ t,u=Value.str y t from rx);cases q;exact PySem.W.kia_one PySem.W.kitx_str I.kIn True.intro e (fun z=>nomatch z) h
 | flt y=>obtain ⟨t,q⟩:=(show ∃ t,u=Value.float y t from rx);cases q;exact PySem.W.kia_one PySem.W.kitx_float I.kIn True.intro e (fun z=>nomatch z) h
 | @lst a xs ea=>
  cases (show u=Value.ref a from rx)
  obtain ⟨_,_,n,_,h1⟩:=(show ObjOk X.prog X.w H s.heap a (.lst xs) from I.hok a _ ea)
  exact PySem.W.kia_one PySem.W.kitx_list I.kIn ⟨_,h1,rfl⟩ e (fun z=>nomatch z) h
 | @frz a ob xs ea=>
  cases (show u=Value.ref a from rx)
  obtain ⟨_,_,_,n,_,h1⟩:=(show ObjOk X.prog X.w H s.heap a (.frz ob (.lst xs)) from I.hok a _ ea)
  exact PySem.W.kia_one PySem.W.kitx_list I.kIn ⟨_,h1,rfl⟩ e (fun z=>nomatch z) h
 | @tup a xs ea=>
  cases (show u=Value.ref a from rx)
  obtain ⟨_,_,_,p⟩:=(show ObjOk X.prog X.w H s.heap a (.tup xs) from I.hok a _ ea)
  obtain ⟨o,h1,h2,_⟩:=p
  exact PySem.W.kia_one PySem.W.kitx_tuple I.kIn ⟨o,h1,h2⟩ e (fun z=>nomatch z) h
 | @dK a kvs ea=>
  cases (show u=Value.ref a from rx)
  obtain ⟨_,_,vs,_,p⟩:=(show ObjOk X.prog X.w H s.heap a (.dK kvs) from I.hok a _ ea)
  obtain ⟨o,es,ep,h1,h2,_⟩:=p
  exact PySem.W.kia_one PySem.W.kitx_dict I.kIn ⟨o,h1,h2.1⟩ e (fun z=>nomatch z) h
 | @dT a kvs ea=>
  cases (show u=Value.ref a from rx)
  obtain ⟨_,_,xs,_,o,es,ep,h1,h2,_⟩:=(show ObjOk X.prog X.w H s.heap a (.dT kvs) from I.hok a _ ea)
  exact PySem.W.kia_one PySem.W.kitx_dict I.kIn ⟨o,h1,h2.1⟩ e (fun z=>nomatch z) h
 | @ins a C dx fs ea cl ha hn htk hm=>
  cases (show u=Value.ref a from rx)
  obtain ⟨mA,O,_⟩:=ins_get I.hok ea
  obtain ⟨od,J,_⟩:=O.look
  exact PySem.W.kia_one (PySem.W.kitx_own (cl.get _) cl.hd ha hn htk hm) I.kIn J e (fun z=>nomatch z) h
end
structure Room (k:Nat) (A:Around):Prop where
 hd:A.handled=none
 dp:A.depth+3 * k+5 < recursionLimit
 un:A.units+16 * k+200 < cLine
 gd:A.guards=some []
theorem Room.mono {j k:Nat} {A:Around} (r:Room k A) (h:j <= k):Room j A:=⟨r.hd,by have:=r.dp;omega,by have:=r.un;omega,r.gd⟩
theorem Room.deeper {k:Nat} {A:Around} (r:Room (k+1) A) (env:Env):Room k (A.deeper env) :=
 ⟨r.hd,by have:=r.dp;show A.depth+1+3 * k+5 < _;omega,by have:=r.un;show A.units+3+16 * k+200 < _;omega,r.gd⟩
theorem make_depth {A:Around} {C:Addr} {us:List Value} {kw:List (Str×Value)}:(A.under (.builtin "type.__call__" ⟨.ref C::us,kw⟩)).depth=A.depth+1:=by
 first | rfl | simp [Around.under,Code.weight,Code.isCreation,Code.isGuard,Code.isCaller,Code.frames,Code.isFrame,guardIds]
theorem make_units {A:Around} {C:Addr} {us:List Value} {kw:List (Str×Value)}:(A.under (.builtin "type.__call__" ⟨.ref C::us,kw⟩)).units=A.units+1:=by
 first | rfl | simp [Around.under,Code.cUnits,Code.frames,Code.isFrame]
theorem Room.make {k:Nat} {A:Around} (r:Room (k+1) A) (C:Addr) (us:List Value) (kw:List (Str×Value)):Room k (A.under (.builtin "type.__call__" ⟨.ref C::us,kw⟩)) :=
 ⟨r.hd,by have:=r.dp;rw [make_depth];omega,by have:=r.un;rw [make_units];omega,by have:=r.gd;first | exact this | simp [Around.under,Code.guards,Code.isGuard,guardIds,this]⟩
theorem Room.depth {k:Nat} {A:Around} (r:Room k A):A.depth < recursionLimit:=by have:=r.dp;omega
theorem Room.units {k:Nat} {A:Around} (r:Room k A):A.units+64 < cLine:=by have:=r.un;omega
noncomputable def tNil:TA:=fun _ H Q=>Q [] H
noncomputable def ZAs (ta:TE) (tr:TA):TA:=fun σ H Q=>ta σ H fun x H1=>tr σ H1 fun xs H2=>Q (x::xs) H2
section
variable {X:Cx} {e:Expr} {es:List Expr} {te:TE} {t:TA} {pos:Pos}
theorem ZAB:PA X [] tNil:=fun _ _ _ _ H Q I h=>Calls.spliced_nil ⟨[],H,I,.nil,h⟩
theorem ZAA (ha:PE X e te) (hr:PA X es t) (hs:starEach (e::es) X.env=(false,eval e X.env)::starEach es X.env:=by rfl):PA X (e::es) (ZAs te t):=by
 intro pos pins s σ H Q I h
 rw [hs]
 show wpAny _ _ (spliced ((false,eval e X.env)::backTo pos (starEach es X.env))) _ _ s
 refine Calls.spliced_cons (thn (ha pins s σ H _ I h) fun u s1 zz=>?_)
 obtain ⟨x,H1,I1,r1,q1⟩:=zz
 exact thn (hr pos pins s1 σ H1 _ I1 q1) fun us s2 ⟨xs,H2,I2,r2,q2⟩=>⟨x::xs,H2,I2,.cons r1 r2,q2⟩
noncomputable def tTup (t:TA):TE:=fun σ H Q=>t σ H fun xs H1=>xs.length <= sizeLine /\ ∀ p,H1 p=none->Q (.ref p) (upd H1 p (.tup xs))
noncomputable def tLst (t:TA):TE:=fun σ H Q=>t σ H fun xs H1=>xs.length <= sizeLine /\ ∀ p,H1 p=none->Q (.ref p) (upd H1 p (.lst xs))
theorem ZCy {x1} (h:PA X es t):PE X (.Tuple es x1 pos) (tTup t):=by
 intro pins s σ H Q I hq
 refine wpAny_Tuple_spliced (thn (h pos pins s σ H _ I hq) fun us s1 ⟨xs,H1,I1,r,z,q⟩=>⟨by rw [<- r.length];exact z,?_⟩)
 have hf:H1 s1.heap.objs.size=none:=I1.hok.fresh (yAA _)
 refine ⟨.ref s1.heap.objs.size,upd H1 s1.heap.objs.size (.tup xs),I1.laid (t':=s1.toks) (fun b u e=>Heap.get?_push_of_some _ e) (yAA _) ?_,rfl,q _ hf⟩
 exact ⟨z,us,r,⟨_,Heap.get?_push_size _ rfl,rfl,_,rfl⟩⟩
theorem ZA8 (h:PA X es t):PE X (.List es pos) (tLst t):=by
 intro pins s σ H Q I hq
 refine wpAny_List_spliced (thn (h pos pins s σ H _ I hq) fun us s1 ⟨xs,H1,I1,r,z,q⟩=>⟨by rw [<- r.length];exact z,?_⟩)
 have hf:H1 s1.heap.objs.size=none:=I1.hok.fresh (yAA _)
 refine ⟨.ref s1.heap.objs.size,upd H1 s1.heap.objs.size (.lst xs),I1.laid (t':=s1.toks) (fun b u e=>Heap.get?_push_of_some _ e) (yAA _) ?_,rfl,q _ hf⟩
 exact ⟨z,us,0,r,Heap.get?_push_size _ rfl⟩
end
noncomputable abbrev Sp:=List V->Hp->VK->XK->Prop
noncomputable abbrev CXT:=List Env->Hp->Shared->XK->Value->Shared->Prop
structure Env0 (P:Program) (w:World) (K:W.Frag) (mg:Str->Option Value) (base:Heap) (A:Around) (outer:List Env) (s:Shared) (H:Hp):Prop where
 frames:A.frames=some outer
 mod:Mod K mg base
 bs:∀ b o,base.get? b=some o->s.heap.get? b=some o /\ H b=none
 bsz:base.objs.size <= s.heap.objs.size
 funs:s.heap.FunFrames base outer
 frf:∀ b∈frs outer,H b=none
 hok:HOk P w H s.heap
 bare:AllBare s.gens
noncomputable def CE (outer:List Env) (P:Program) (w:World) (H:Hp) (s:Shared) (Q:VK) (u:Value) (s':Shared):Prop :=
 ∃ v H',s'.os=s.os /\ AllBare s'.gens /\ Un (frs outer) [] H H' s.heap s'.heap /\ HOk P w H' s'.heap /\ RelV v u /\ Q v H'
noncomputable def CR (CX:CXT) (outer:List Env) (P:Program) (w:World) (H:Hp) (s:Shared) (Q:VK) (E:XK) (r:Result) (s':Shared):Prop :=
 match r with
 | .ok (.ret u)=>CE outer P w H s Q u s'
 | .ok _=>False
 | .error e=>CX outer H s E e s'
structure FnOk (P:Program) (w:World) (K:W.Frag) (mg:Str->Option Value) (base:Heap) (CX:CXT) (k:Nat) (f:Addr) (fd:FuncData) (ps:List Str) (sp:Sp):Prop where
 len:∀ vs H Q E,sp vs H Q E->vs.length=ps.length
 run:∀ (A:Around) (outer:List Env) (s:Shared) (H:Hp) (args:Args) (us:List Value) (vs:List V) (Q:VK) (E:XK),Room k A->Env0 P w K mg base A outer s H->BindsTo s fd args (ps.zip us)->Vals vs us->sp vs H Q E ->
  codeAny (model P w) A (.call (.ref f) args) (CR CX outer P w H s Q E) s
theorem Env0.make {P:Program} {w:World} {K:W.Frag} {mg:Str->Option Value} {base:Heap} {A:Around} {outer:List Env} {s:Shared} {H:Hp} (e:Env0 P w K mg base A outer s H) (C:Addr) (us:List Value) (kw:List (Str×Value)) :
  Env0 P w K mg base (A.under (.builtin "type.__call__" ⟨.ref C::us,kw⟩)) outer s H:=⟨by first | exact e.frames | (simpa [Around.under,Code.envs,Code.isFrame,pushEnvs] using e.frames),e.mod,e.bs,e.bsz,e.funs,e.frf,e.hok,e.bare⟩
section
variable {X:Cx} {pins:List (Addr×Obj)} {σ:St} {H:Hp} {s s':Shared}
theorem Inv.env0 (I:Inv X pins σ H s):Env0 X.prog X.w X.K X.mg X.base X.A X.stack s H :=
 ⟨I.ok.frames,I.ok.mod,I.bs,yAC I.ok.bsz I.sz,I.stack,I.stkFree,I.hok,I.bare⟩
theorem Inv.after {Q:VK} {u:Value} (I:Inv X pins σ H s) (h:CE X.stack X.prog X.w H s Q u s'):EP X pins σ Q u s':=by
 obtain ⟨v,H',os,bare,un,hok,r,q⟩:=h
 obtain ⟨hh,g,d,t,os'⟩:=s'
 obtain rfl:os'=s.os:=os
 exact ⟨v,H',I.call (h':=hh) (g':=g) (d':=d) (t':=t) (ch:=[]) un hok bare (fun b z=>absurd z (by simp)),r,q⟩
end
noncomputable def ZC2 (sp:Sp) (dvs:List V) (E:XK) (t:TA):TE:=fun σ H Q=>t σ H fun vs H1=>sp (vs++dvs) H1 Q E
noncomputable def tMeth (C:Addr) (m:Str) (sp:Sp) (dvs:List V) (E:XK) (ta:TE) (t:TA):TE:=fun σ H Q=>ta σ H fun x H1=>∃ a dx fs,x=.ref a /\ H1 a=some (.ins C dx fs) /\ fs.lookup m=none /\
 t σ H1 fun vs H2=>sp (x::(vs++dvs)) H2 Q E
noncomputable def tMake (C:Addr) (sp:Sp) (dvs:List V) (E:XK) (t:TA):TE:=fun σ H Q=>t σ H fun vs H1=>∀ x dx,H1 x=none->H1 dx=none->dx≠x ->
 sp (.ref x::(vs++dvs)) (upd (upd H1 dx (.own x)) x (.ins C dx [])) (fun v H2=>v=.non /\ Q (.ref x) H2) E
noncomputable def Binds (K:W.Frag) (fd:FuncData) (ps:List Str) (ds:List Value):Prop :=
 ∀ (s:Shared) (us:List Value),K.In s.heap->(us++ds).length=ps.length->BindsTo s fd ⟨us,[]⟩ (ps.zip (us++ds))
theorem Binds.all {K:W.Frag} {fd:FuncData} {ps:List Str} (h:∀ us:List Value,us.length=ps.length->bindArgs fd ⟨us,[]⟩=pure (ps.zip us)):Binds K fd ps []:=fun s us _ hl=>by
 rw [List.append_nil] at hl ⊢
 exact .of_eq (h us hl)
noncomputable def ZB2 (CX:CXT) (X:Cx) (E:XK):Prop:=∀ (pins:List (Addr×Obj)) (σ:St) (H:Hp) (s:Shared) (e:Value) (s':Shared),Inv X pins σ H s->CX X.stack H s E e s'->X.xe e s'
section
variable {X:Cx} {CX:CXT} {k:Nat} {f C:Addr} {fd:FuncData} {ps:List Str} {sp:Sp} {dvs:List V} {ds:List Value} {E:XK} {x m:Str} {p pos apos:Pos} {e o:Expr} {es:List Expr} {ta:TE} {t:TA}
theorem run_fn {pins:List (Addr×Obj)} {σ:St} {H:Hp} {s:Shared} {Q:VK} {us:List Value} {vs:List V} (F:FnOk X.prog X.w X.K X.mg X.base CX k f fd ps sp) (hr:Room k X.A) (hb:Binds X.K fd ps ds) (hd:Vals dvs ds) (hx:ZB2 CX X E)
  (I:Inv X pins σ H s) (r:Vals vs us) (h:sp (vs++dvs) H Q E):wpAny (model X.prog X.w) X.A (call (.ref f) us) (EP X pins σ Q) X.xe s:=by
 have r2:Vals (vs++dvs) (us++ds):=r.append hd
 have hl:(us++ds).length=ps.length:=by rw [<- r2.length];exact F.len _ _ _ _ h
 refine wpAny_call (codeAny_mono (F.run X.A X.stack s H ⟨us,[]⟩ (us++ds) (vs++dvs) Q E hr I.env0 (hb s us I.kIn hl) r2 h) fun r s' hq=>?_)
 cases r with
 | error e=>exact hx pins σ H s e s' I hq
 | ok fl=>
  cases fl with
  | ret u=>exact I.after hq
  | next=>exact False.elim hq
  | brk=>exact False.elim hq
  | cont=>exact False.elim hq
theorem pe_call (F:FnOk X.prog X.w X.K X.mg X.base CX k f fd ps sp) (hr:Room k X.A) (hg:Gl X x) (hm:X.mg x=some (.ref f)) (hk:W.keepIn X.K (.ref f)=true) (hb:Binds X.K fd ps ds) (hd:Vals dvs ds) (hx:ZB2 CX X E)
  (ha:PA X (e::es) t) (hdb:(x == ("__debug__":Str))=false:=by decide) (he:starEach (e::es) X.env=(false,eval e X.env)::starEach es X.env:=by rfl) (hpl:(backTo pos (starEach es X.env)).any (·.1)=false:=by rfl) :
  PE X (.Call (.Name x p) (e::es) [] pos) (ZC2 sp dvs E t):=by
 intro pins s σ H Q I h
 refine wpAny_Call_Name_kw (ZBc I hg hm ?_ hdb)
 refine PySem.W.callWith_K (h₀:=X.base) I.ok.mod.kin hk (thn (ha pos pins s σ H _ I h) fun us s1 ⟨vs,H1,I1,r,q⟩=>⟨I1.kIn,?_⟩) he hpl
 exact run_fn F hr hb hd hx I1 r q
end
section
variable {X:Cx} {CX:CXT} {k:Nat} {f C:Addr} {fd:FuncData} {ps ks:List Str} {sp:Sp} {E:XK} {x m:Str} {p pos apos kpos:Pos} {e o:Expr} {es:List Expr} {kws:List Keyword} {te ta:TE} {t tk:TA} {nm:Option Str}
variable {g:List Value->List Value->List Value} {gV:List V->List V->List V}
end
structure FnScope (N P:List Str) (sc:Scope):Prop where
 kind:sc.kind=.function
 co:sc.isCoroutine=false
 gen:sc.isGenerator=false
 nd:N.Nodup
 pre:N.take P.length=P
 par:∀ x∈P,sc.names.lookup x=some .local∨sc.names.lookup x=some .cell
 nofree:∀ y∈sc.names,y.2≠.free
theorem bindL_out {kindOf:Str->Option NameKind} {x:Str}:∀ {binds:List (Str×Value)} {m:Str->Option Value},(∀ v,(x,v)∉binds)->bindL kindOf binds m x=m x
 | [],_,_=>rfl
 | (n,v)::r,m,h=>by
  unfold bindL
  rw [bindL_out fun w hw=>h w (yAJ _ hw)]
  split
  .have:x≠n:=by rintro rfl;exact h v yAE
   simp [this]
  .rfl
theorem bindC_out {kindOf:Str->Option NameKind} {x:Str}:∀ {binds:List (Str×Value)} {m:Str->Option Value},(∀ v,(x,v)∉binds)->bindC kindOf binds m x=m x
 | [],_,_=>rfl
 | (n,v)::r,m,h=>by
  unfold bindC
  rw [bindC_out fun w hw=>h w (yAJ _ hw)]
  split
  .rfl
  .have:x≠n:=by rintro rfl;exact h v yAE
   simp [this]
theorem bindL_get {kindOf:Str->Option NameKind} {x:Str} {v:Value}:∀ {P:List Str} {vs:List Value} {i:Nat} {m:Str->Option Value},P.Nodup->P[i]?=some x->vs[i]?=some v->kindOf x=some .local ->
  bindL kindOf (P.zip vs) m x=some v
 | [],_,_,_,_,h,_,_=>by simp at h
 | _::_,[],_,_,_,_,h,_=>by simp at h
 | p::P,w::vs,0,m,nd,h1,h2,hk=>by
  simp at h1 h2;subst h1;subst h2
  show bindL kindOf ((p,w)::P.zip vs) m p=_
  unfold bindL
  rw [bindL_out fun v hv=>(List.nodup_cons.mp nd).1 (List.of_mem_zip hv).1,if_pos hk]
  simp
 | p::P,w::vs,i+1,m,nd,h1,h2,hk=>by
  show bindL kindOf ((p,w)::P.zip vs) m x=_
  unfold bindL
  exact bindL_get (i:=i) (List.nodup_cons.mp nd).2 (by simpa using h1) (by simpa using h2) hk
theorem bindC_get {kindOf:Str->Option NameKind} {x:Str} {v:Value}:∀ {P:List Str} {vs:List Value} {i:Nat} {m:Str->Option Value},P.Nodup->P[i]?=some x->vs[i]?=some v->kindOf x≠some .local ->
  bindC kindOf (P.zip vs) m x=some v
 | [],_,_,_,_,h,_,_=>by simp at h
 | _::_,[],_,_,_,_,h,_=>by simp at h
 | p::P,w::vs,0,m,nd,h1,h2,hk=>by
  simp at h1 h2;subst h1;subst h2
  show bindC kindOf ((p,w)::P.zip vs) m p=_
  unfold bindC
  rw [bindC_out fun v hv=>(List.nodup_cons.mp nd).1 (List.of_mem_zip hv).1,if_neg hk]
  simp
 | p::P,w::vs,i+1,m,nd,h1,h2,hk=>by
  show bindC kindOf ((p,w)::P.zip vs) m x=_
  unfold bindC
  exact bindC_get (i:=i) (List.nodup_cons.mp nd).2 (by simpa using h1) (by simpa using h2) hk
noncomputable def start (N:List Str) (vs:List V):St:=vs.map some++List.replicate (N.length-vs.length) none
noncomputable def cxOf (CX:CXT) (P:Program) (w:World) (K:W.Frag) (mg:Str->Option Value) (base:Heap) (N:List Str) (qual:Str) (scope:Scope) (f:Addr) (cd:Value) (A:Around) (outer:List Env) (s:Shared) (H:Hp) (E:XK):Cx where
 prog:=P
 w:=w
 K:=K
 mg:=mg
 base:=base
 A:=A.deeper (envOfC qual scope s.heap.objs.size f cd)
 N:=N
 s₀:=s
 H₀:=H
 env:=envOfC qual scope s.heap.objs.size f cd
 outer:=outer
 stack:=envOfC qual scope s.heap.objs.size f cd::outer
 ex:=[]
 calm:=true
 fn:=fun _=>true
 pn:=[]
 xe:=fun e s'=>wpAny (model P w) (A.deeper (envOfC qual scope s.heap.objs.size f cd)) (leaving (envOfC qual scope s.heap.objs.size f cd) e) (fun _ s''=>CX outer H s E e s'') (fun e' s''=>CX outer H s E e' s'') s'
theorem ZCP {sc:Scope} {n:Nat} {x:Str} (h:sc.names.lookup x=some .cell):∃ c,(cellsFrom n sc.names []).lookup x=some c:=by
 have q:=PySem.W.cellsFrom_some sc.names n [] (.inl h)
 exact Option.isSome_iff_exists.mp q
theorem inv_start {CX:CXT} {P:Program} {w:World} {K:W.Frag} {mg:Str->Option Value} {base:Heap} {N ps:List Str} {qual:Str} {scope:Scope} {f:Addr} {cd:Value} {A:Around} {outer:List Env} {s s1:Shared} {H:Hp} {E:XK} {us:List Value} {vs:List V}
  (S:FnScope N ps scope) (hd:A.handled=none) (e0:Env0 P w K mg base A outer s H) (hl:vs.length=ps.length) (r:Vals vs us)
  (x:InCallC s s.heap.objs.size (bindL (envOfC qual scope s.heap.objs.size f cd).kindOf (ps.zip us) fun _=>none) (cellsFrom (s.heap.objs.size+1) scope.names []) (bindC (envOfC qual scope s.heap.objs.size f cd).kindOf (ps.zip us) fun _=>none) s1) :
  Inv (cxOf CX P w K mg base N qual scope f cd A outer s H E) [] (start N vs) H s1:=by
 have hpl:ps.length <= N.length:=by have:=congrArg List.length S.pre;rw [yAU] at this;omega
 obtain ⟨h1,tk,rfl,hk⟩:=x.done
 have noA:∀ b:Addr,b∉(cxOf CX P w K mg base N qual scope f cd A outer s H E).ex:=fun b z=>absurd (show b∈([]:List Addr) from z) (by simp)
 refine ⟨⟨e0.mod,S.kind,rfl,rfl,yAA _,fun y z c h1 h2=>?_,fun y hy=>?_,fun y c _ h=>?_,fun _=>hd,Around.frames_deeper e0.frames,.inr ⟨rfl,rfl⟩,fun b z=>absurd z (noA b),e0.bs,e0.bsz,fun b _ _=>noA b,fun b z=>absurd z (noA b),e0.funs,e0.frf⟩,
  rfl,e0.bare,Un.kept hk,⟨_,x.toInCall.ns,fun i y v h1 h2 h3=>?_⟩,fun y c h=>⟨_,x.cell y c h⟩,e0.hok.fresh (yAA _),fun y c h=>?_,fun p hp=>absurd (show p∈([]:List (Addr×Obj)) from hp) (by simp),e0.hok.kept hk,?_⟩
 .exact name_of_addr x.apart (PySem.mem_of_lookup h1) (PySem.mem_of_lookup h2)
 .have hy:scope.names.lookup y=some .cell∨scope.names.lookup y=some .free:=hy
  rcases hy with hy | hy
  .exact ZCP hy
  .exact absurd rfl (S.nofree _ (PySem.mem_of_lookup hy))
 .exact Nat.le_of_lt (x.above y c (PySem.mem_of_lookup h))
 .have hi:i < vs.length:=by
   unfold start at h2
   by_cases hi:i < vs.length
   .exact hi
   .rw [List.getElem?_append_right (by simpa using hi)] at h2
    rw [List.getElem?_replicate] at h2
    split at h2 <;> cases h2
  have ha:vs[i]?=some v:=by
   unfold start at h2
   rw [List.getElem?_append_left (by simpa using hi),yAM] at h2
   cases e:vs[i]? with
   | none=>rw [e] at h2;cases h2
   | some a=>rw [e] at h2;cases h2;rfl
  obtain ⟨u,hu,rv⟩:=r.get ha
  have hp:ps[i]?=some y:=by
   rw [<- S.pre,List.getElem?_take_of_lt (by omega)];exact h1
  have ndP:ps.Nodup:=by rw [<- S.pre];exact S.nd.sublist (List.take_sublist _ _)
  refine ⟨u,rv,?_⟩
  rcases S.par y (yAS hp) with k | k
  .exact .inl ⟨k,bindL_get ndP hp hu k⟩
  .obtain ⟨c,e⟩:=ZCP (n:=s.heap.objs.size+1) k
   refine .inr ⟨.inl k,c,e,?_⟩
   have q:=x.cell y c e
   rw [bindC_get ndP hp hu (by show scope.names.lookup y≠_;rw [k];decide)] at q
   exact q
 .exact e0.hok.fresh (Nat.le_of_lt (x.above y c (PySem.mem_of_lookup h)))
 .unfold start
  show _=N.length
  rw [yAQ,yAB,List.length_replicate]
  omega
theorem fn_of {CX:CXT} {P:Program} {w:World} {K:W.Frag} {mg:Str->Option Value} {base:Heap} {k:Nat} {f:Addr} {name qual:Str} {params:Arguments} {body:List Stmt} {scope:Scope} {dV kV doc pm cdv ct oc:Value} {an od:Option Addr}
  {osl:Array (Option Value)} {N ps:List Str} {sp:Sp} (lk:K.lookup f=some ⟨oc,od,.func (W.fnOf name qual params body scope dV kV doc pm an cdv ct),osl⟩) (hcd:W.codeIn K cdv qual=true) (S:FnScope N ps scope)
  (len:∀ vs H Q E,sp vs H Q E->vs.length=ps.length)
  (hbody:∀ (A:Around) (outer:List Env) (s:Shared) (H:Hp) (vs:List V) (Q:VK) (E:XK),Room k (A.deeper (envOfC qual scope s.heap.objs.size f cdv))->sp vs H Q E ->
   ∃ t,PSs (cxOf CX P w K mg base N qual scope f cdv A outer s H E) body t /\ t { nx:=fun _ H'=>Q .non H',rt:=Q } (start N vs) H) :
  FnOk P w K mg base CX (k+1) f (W.fnOf name qual params body scope dV kV doc pm an cdv ct) ps sp:=by
 refine ⟨len,fun A outer s H args us vs Q E hr e0 hb r hsp=>?_⟩
 have hl:=len _ _ _ _ hsp
 have KX:K.In s.heap:=e0.mod.kin.keeps fun b o e=>(e0.bs b o e).1
 have lim:s.heap.NoLimit:=e0.mod.nolimit.keeps fun b o e=>(e0.bs b o e).1
 have hkind:∀ y∈ps.zip us,scope.names.lookup y.1=some .local∨(scope.names.lookup y.1=some .cell /\ ((cellsFrom (s.heap.objs.size+1) scope.names []).lookup y.1).isSome=true):=fun ⟨n,v⟩ hy=>by
  rcases S.par n (List.of_mem_zip hy).1 with q | q
  .exact .inl q
  .exact .inr ⟨q,PySem.W.cellsFrom_some _ _ _ (.inl q)⟩
 refine codeAny_call_function hr.depth (KX _ _ lk) rfl S.co S.gen rfl (PySem.W.codeRec_of KX hcd) (hb _ _ _ _ ?_)
 refine wpAny_newFunctionEnv_cells S.kind hkind fun env he s1 x=>?_
 subst he
 refine ⟨lim.keeps x.toInCall.keep,codeAny_func ?_⟩
 obtain ⟨t,ht,hq⟩:=hbody A outer s H vs Q E (hr.deeper _) hsp
 have I:Inv (cxOf CX P w K mg base N qual scope f cdv A outer s H E) [] (start N vs) H s1:=inv_start S hr.hd e0 hl r x
 refine wpAny_mono (ht [] s1 (start N vs) H _ I hq) (fun fl s' hs=>?_) fun e s' hs=>hs
 have fin:∀ {σ':St} {H':Hp} {v:V} {u:Value},Inv (cxOf CX P w K mg base N qual scope f cdv A outer s H E) [] σ' H' s'->RelV v u->Q v H'->CE outer P w H s Q u s' :=
  fun {σ' H' v u} J rv q=>⟨v,H',J.os,J.bare,J.base,J.hok,rv,q⟩
 cases fl with
 | ret u=>
  obtain ⟨v,σ',H',J,rv,q⟩:=hs
  exact fin J rv q
 | next=>
  obtain ⟨σ',H',J,q⟩:=hs
  exact fin (v:=V.non) (u:=Value.none) J rfl q
 | brk=>
  obtain ⟨_,_,_,q⟩:=hs
  exact False.elim q
 | cont=>
  obtain ⟨_,_,_,q⟩:=hs
  exact False.elim q
section
variable {X:Cx} {x:Str} {p pos:Pos} {e:Expr} {es:List Expr} {t:TA} {id T:String} {r:List V->Hp->VK->Prop}
noncomputable def tCB (r:List V->Hp->VK->Prop) (t:TA):TE:=fun σ H Q=>t σ H fun vs H1=>r vs H1 Q
theorem ZAJ (hc:ZBX X (.builtin id) r) (hg:Gl X x) (hm:X.mg x=none) (hv:bootBuiltins x=some (.builtin id)) (ha:PA X (e::es) t) (hn:x≠"__name__":=by decide) (hdb:(x == ("__debug__":Str))=false:=by decide)
  (he:starEach (e::es) X.env=(false,eval e X.env)::starEach es X.env:=by rfl) (hpl:(backTo pos (starEach es X.env)).any (·.1)=false:=by rfl):PE X (.Call (.Name x p) (e::es) [] pos) (tCB r t):=by
 intro pins s σ H Q I h
 refine wpAny_Call_Name_kw (ZBx I hg hm hv ?_ hn hdb)
 exact PyProof.Rows.callWith_builtin1 (thn (ha pos pins s σ H _ I h) fun us s1 ⟨vs,H1,I1,r1,q1⟩=>hc pins s1 σ H1 vs us Q I1 r1 q1) he hpl
theorem ZBT (hc:ZBX X (.type T) r) (hg:Gl X x) (hm:X.mg x=none) (hv:bootBuiltins x=some (.type T)) (ha:PA X (e::es) t) (hn:x≠"__name__":=by decide) (hdb:(x == ("__debug__":Str))=false:=by decide)
  (he:starEach (e::es) X.env=(false,eval e X.env)::starEach es X.env:=by rfl) (hpl:(backTo pos (starEach es X.env)).any (·.1)=false:=by rfl):PE X (.Call (.Name x p) (e::es) [] pos) (tCB r t):=by
 intro pins s σ H Q I h
 refine wpAny_Call_Name_kw (ZBx I hg hm hv ?_ hn hdb)
 exact PyProof.Rows.callWith_type1 (thn (ha pos pins s σ H _ I h) fun us s1 ⟨vs,H1,I1,r1,q1⟩=>hc pins s1 σ H1 vs us Q I1 r1 q1) he hpl
end
end L2
namespace HT
open PySem PyProof.Rows
section
open PySem.SeqAt
open PySem.AutoSeq1 (wpAny_loadPart')
open PySem.MeetsSeq PySem.MeetsSeq2 PySem.MeetsSeq3
end
section
variable {prog:Program} {w:World} {A:Around} {E:Value->Shared->Prop} {s:Shared}
noncomputable def sIx (n d:Nat):Option Int->Nat
 | none=>d
 | some v=>if v < 0 then (v+(n:Int)).toNat else min v.toNat n
theorem sIx_nat (n d k:Nat):sIx n d (some (k:Int))=min k n:=by
 show (if (k:Int) < 0 then ((k:Int)+(n:Int)).toNat else min (k:Int).toNat n)=min k n
 rw [if_neg (by omega),Int.toNat_natCast]
end
end HT
namespace L2
open PySem PySem.Spec PyProof.Rows
noncomputable abbrev TO:=St->Hp->(Option Int->Hp->Prop)->Prop
noncomputable def PO (X:Cx) (e:Option Expr) (t:TO):Prop :=
 ∀ (pins:List (Addr×Obj)) (s:Shared) (σ:St) (H:Hp) (Q:Option Int->Hp->Prop),Inv X pins σ H s->t σ H Q ->
  wpAny (model X.prog X.w) X.A (evalPart e X.env) (fun u s'=>∃ o H',Inv X pins σ H' s' /\ IsPart u o /\ Q o H') X.xe s
noncomputable def ZCW:TO:=fun _ H Q=>Q none H
noncomputable def ZC7 (t:TE):TO:=fun σ H Q=>t σ H fun x H1=>∃ i,x=.int i /\ Q (some i) H1
section
variable {X:Cx} {e:Expr} {te:TE} {lo hi:Option Expr} {tl th:TO} {pos p2:Pos}
theorem ZA1:PO X none ZCW:=by
 intro pins s σ H Q I h
 rw [evalPart_none]
 exact wpAny_pure ⟨none,H,I,.none,h⟩
theorem ZAm (h:PE X e te):PO X (some e) (ZC7 te):=by
 intro pins s σ H Q I hw
 rw [evalPart_some]
 refine thn (h pins s σ H _ I hw) fun u s1 zz=>?_
 obtain ⟨x,H1,I1,r1,q1⟩:=zz
 obtain ⟨i,rfl,q⟩:=q1
 obtain ⟨t,rfl⟩:=r1
 exact ⟨some i,H1,I1,.int i t,q⟩
noncomputable def SlR (X:Cx) (r:V->Option Int->Option Int->Hp->VK->Prop):Prop :=
 ∀ (pins:List (Addr×Obj)) (s:Shared) (σ:St) (H:Hp) (x:V) (v vl vu:Value) (lo hi:Option Int) (sl:Addr) (Q:VK),Inv X pins σ H s->RelV x v->s.heap.IsSliceOf sl vl vu .none->IsPart vl lo->IsPart vu hi->r x lo hi H Q ->
  ∃ T id,typeLookup (.type T) "__getitem__"=pure (some (.builtin id)) /\ s.TypeIs v T /\ wpAny (model X.prog X.w) X.A (getItem v (.ref sl)) (EP X pins σ Q) X.xe s
noncomputable def tSl (r:V->Option Int->Option Int->Hp->VK->Prop) (te:TE) (tl th:TO):TE:=fun σ H Q=>te σ H fun x H1=>tl σ H1 fun l H2=>th σ H2 fun u H3=>r x l u H3 Q
theorem ZAk {r:V->Option Int->Option Int->Hp->VK->Prop} (hr:SlR X r) (he:PE X e te) (hl:PO X lo tl) (hu:PO X hi th):PE X (.Subscript e (.Slice lo hi none p2) pos) (tSl r te tl th):=by
 intro pins s σ H Q I h
 refine Subscript_ (thn (he pins s σ H _ I h) fun v s1 zz=>?_)
 obtain ⟨x,H1,I1,r1,q1⟩:=zz
 refine wpAny_Slice (thn (hl pins s1 σ H1 _ I1 q1) fun vl s2 ⟨l,H2,I2,pl,q2⟩=>thn (hu pins s2 σ H2 _ I2 q2) fun vu s3 zz=>?_)
 obtain ⟨u,H3,I3,pu,q3⟩:=zz
 rw [evalPart_none]
 refine wpAny_pure ?_
 have I4:Inv X pins σ H3 { s3 with heap:=s3.heap.push { cls:=.type "slice",data:=.fields #[vl,vu,.none] } }:=I3.kept (t':=s3.toks) fun b ob q=>Heap.get?_push_of_some _ q
 obtain ⟨T,id,hT,ht,hg⟩:=hr pins { s3 with heap:=s3.heap.push { cls:=.type "slice",data:=.fields #[vl,vu,.none] } } σ H3 x v vl vu l u s3.heap.objs.size Q I4 r1 (Heap.IsSliceOf.new ..) pl pu q3
 show wpAny (model X.prog X.w) X.A (subscriptTail e (.Slice lo hi none p2) v (.ref s3.heap.objs.size)) (EP X pins σ Q) X.xe { s3 with heap:=s3.heap.push { cls:=.type "slice",data:=.fields #[vl,vu,.none] } }
 exact tail_any (ops:=[.ref s3.heap.objs.size,v]) ht hT hg (by with_unfolding_all rfl)
noncomputable def cutV (xs:List V) (lo hi:Option Int):List V:=(xs.drop (HT.sIx xs.length 0 lo)).take (HT.sIx xs.length xs.length hi-HT.sIx xs.length 0 lo)
theorem cutV_length (xs:List V) (lo hi:Option Int):(cutV xs lo hi).length <= xs.length:=by
 unfold cutV
 rw [yAU,yBJ]
 omega
end
noncomputable def ixN (n:Nat) (i:Int):Option Nat:=if 0 <= i then (if i < n then some i.toNat else none) else if -(n:Int) <= i then some (i+n).toNat else none
noncomputable def atI {α:Type} (xs:List α) (i:Int):Option α:=(ixN xs.length i).bind fun j=>xs[j]?
theorem ixN_seq {n:Nat} {i:Int} {j:Nat} (h:ixN n i=some j):seqIndex? i n=some j /\ j < n /\ -(n:Int) <= i /\ i < n:=by
 unfold ixN at h
 by_cases h0:0 <= i
 .rw [if_pos h0] at h
  by_cases h1:i < n
  .rw [if_pos h1] at h
   have e:i.toNat=j:=Option.some.inj h
   exact ⟨by rw [seqIndex_of h0 h1,e],by omega,by omega,h1⟩
  .rw [if_neg h1] at h;cases h
 .rw [if_neg h0] at h
  by_cases h1:-(n:Int) <= i
  .rw [if_pos h1] at h
   have e:(i+n).toNat=j:=Option.some.inj h
   exact ⟨by rw [seqIndex_neg (by omega) h1,e],by omega,h1,by omega⟩
  .rw [if_neg h1] at h;cases h
theorem atI_get {α:Type} {xs:List α} {i:Int} {v:α} (h:atI xs i=some v):∃ j,seqIndex? i xs.length=some j /\ xs[j]?=some v /\ j < xs.length /\ -(xs.length:Int) <= i /\ i < xs.length:=by
 unfold atI at h
 cases e:ixN xs.length i with
 | none=>rw [e] at h;cases h
 | some j=>
  rw [e] at h
  obtain ⟨h1,h2,h3,h4⟩:=ixN_seq e
  exact ⟨j,h1,h,h2,h3,h4⟩
theorem atI_nat {α:Type} {xs:List α} {j:Nat} {v:α} (h:xs[j]?=some v):atI xs (j:Int)=some v:=by
 have hj:j < xs.length:=(yAP.mp h).1
 have e:ixN xs.length (j:Int)=some j:=by
  unfold ixN
  rw [if_pos (by omega),if_pos (by omega)];simp
 unfold atI;rw [e];exact h
noncomputable def PlainIx (b:Expr):Prop:=∀ o i,subscripted b false o i=operate [o,i] (getItem o i)
noncomputable def IxR (X:Cx) (r:R2):Prop :=
 ∀ (value slice:Expr) (pins:List (Addr×Obj)) (s:Shared) (σ:St) (H:Hp) (x y:V) (v u:Value) (Q:VK),Inv X pins σ H s->RelV x v->RelV y u->r x y H Q ->
  subscripted slice false v u=operate [v,u] (getItem v u)->wpAny (model X.prog X.w) X.A (subscriptTail value slice v u) (EP X pins σ Q) X.xe s
noncomputable def MtR (X:Cx) (id:String) (r:V->List V->Hp->VK->Prop):Prop :=
 ∀ (pins:List (Addr×Obj)) (s:Shared) (σ:St) (H:Hp) (x:V) (xs:List V) (v:Value) (us:List Value) (Q:VK),Inv X pins σ H s->RelV x v->Vals xs us->r x xs H Q ->
  wpAny (model X.prog X.w) X.A (call (.builtin id) (v::us)) (EP X pins σ Q) X.xe s
section
variable {X:Cx} {a b:Expr} {ta tb:TE} {pos:Pos}
theorem ZBh {r:R2} (hr:IxR X r) (ha:PE X a ta) (hb:PE X b tb) (hs:PlainIx b):PE X (.Subscript a b pos) (tOp r ta tb):=by
 intro pins s σ H Q I h
 exact Subscript_ (binT ha hb I h fun v u s2 x y H2 I2 rx ry q=>hr a b pins s2 σ H2 x y v u Q I2 rx ry q (hs _ _))
noncomputable def rIxL (K:W.Frag):R2:=fun x y H Q=>∃ p xs i v,x=.ref p /\ y=.int i /\ SqL K H p xs /\ atI xs i=some v /\ Q v H
noncomputable def rIxS:R2:=fun x y H Q=>∃ z i c,x=.str z /\ y=.int i /\ z.length <= sizeLine /\ atI z.cps.toList i=some c /\ Q (.str ⟨#[c]⟩) H
theorem ZAt:IxR X (rIxL X.K):=by
 intro value slice pins s σ H x y v u Q I rx ry h hs
 obtain ⟨p,xs,i,z,rfl,rfl,hq,he,q⟩:=h
 cases rx
 obtain ⟨t,rfl⟩:=ry
 obtain ⟨its,r,pl,hz⟩:=I.list hq
 obtain ⟨j,h1,h2,h3,h4,h5⟩:=atI_get he
 obtain ⟨w,ew,rw'⟩:=r.get h2
 have hl:=r.length
 have hn:=ZCp
 have fin:EP X pins σ Q w s:=⟨z,H,I,rw',q⟩
 by_cases h0:0 <= i
 .have hj:i.toNat=j:=by
   rw [seqIndex_of h0 h5] at h1
   exact Option.some.inj h1
  exact item_listR pl.isList h0 (by omega) (by rw [hj];simpa using ew) fin hs
 .have hj:(i+(its.toArray.size:Int)).toNat=j:=by
   rw [seqIndex_neg (by omega) h4] at h1
   rw [yAK,<- hl]
   exact Option.some.inj h1
  exact subscriptTail_builtinR (x:=w) pl.isList.typeIs slot_list_getitem.lookup
   (wpAny_getItem_list_neg (Q:=fun r s'=>r=w /\ EP X pins σ Q r s') pl.isList (by omega) (by rw [yAK] <;> omega) (by omega) (by rw [hj];simpa using ew) ⟨rfl,fin⟩) hs
theorem ix_str:IxR X rIxS:=by
 intro value slice pins s σ H x y v u Q I rx ry h hs
 obtain ⟨z,i,c,rfl,rfl,hz,he,q⟩:=h
 obtain ⟨t,rfl⟩:=rx
 obtain ⟨t',rfl⟩:=ry
 obtain ⟨j,h1,h2,h3,h4,h5⟩:=atI_get he
 have hl:z.cps.toList.length=z.length:=by simp [Str.length]
 rw [hl] at h1 h4 h5
 have hn:=ZCp
 exact tail_any (typeIs_str s z t) slot_str_getitem.lookup (getItem_str (c:=c) (by
  have e1:decide (i < -(2 ^ 63:Int))=false:=decide_eq_false (by omega)
  have e2:decide (i≥2 ^ 63)=false:=decide_eq_false (by omega)
  rw [e1,e2,Bool.or_false]) (by rw [h1];simpa using h2) ⟨.str ⟨#[c]⟩,H,I.tok _,⟨_,rfl⟩,q⟩) hs
theorem slice_bounds (lo hi:Option Int) (n:Nat):(sliceBounds lo hi none n).1=((HT.sIx n 0 lo:Nat):Int) /\ (sliceBounds lo hi none n).2.1=((HT.sIx n n hi:Nat):Int) /\ (sliceBounds lo hi none n).2.2=1:=by
 refine ⟨?_,?_,rfl⟩
 .cases lo with
  | none=>simp [sliceBounds,HT.sIx]
  | some i=>
   simp only [sliceBounds,HT.sIx,Option.getD_none,show (1:Int) > 0 by decide,if_true]
   by_cases h:i < 0
   .simp only [h,if_true] <;> omega
   .simp only [h,if_false] <;> omega
 .cases hi with
  | none=>simp [sliceBounds,HT.sIx]
  | some i=>
   simp only [sliceBounds,HT.sIx,Option.getD_none,show (1:Int) > 0 by decide,if_true]
   by_cases h:i < 0
   .simp only [h,if_true] <;> omega
   .simp only [h,if_false] <;> omega
theorem slicePick_cut (its:List Value) (lo hi:Option Int):slicePick its.toArray lo hi none=((its.drop (HT.sIx its.length 0 lo)).take (HT.sIx its.length its.length hi-HT.sIx its.length 0 lo)).toArray:=by
 obtain ⟨h1,h2,h3⟩:=slice_bounds lo hi its.toArray.size
 unfold slicePick
 rw [h1,h2,h3]
 simp only [sliceRange_one,pick_run,yAK] <;> rfl
noncomputable def rSlL (K:W.Frag):V->Option Int->Option Int->Hp->VK->Prop:=fun x lo hi H Q=>∃ a xs,x=.ref a /\ SqL K H a xs /\ ∀ p,H p=none->Q (.ref p) (upd H p (.lst (cutV xs lo hi)))
theorem sl_list:SlR X (rSlL X.K):=by
 intro pins s σ H x v vl vu lo hi sl Q I rx hs pl pu h
 obtain ⟨a,xs,rfl,hx,q⟩:=h
 cases rx
 obtain ⟨its,r,ht,hz⟩:=I.list hx
 have hlen:=r.length
 refine ⟨"list",_,slot_list_getitem.lookup,ht.isList.typeIs,?_⟩
 refine wpAny_getItem_list_slice ht.isList hs pl pu .none (by simp) ?_ (by rw [yAK] <;> omega)
 rw [slicePick_cut,<- hlen]
 refine ⟨.ref s.heap.objs.size,_,I.laid (t':=s.toks) (o:=.lst (cutV xs lo hi)) (fun b ob q=>Heap.get?_push_of_some _ q) (yAA _) ?_,rfl,q _ (I.hok.fresh (yAA _))⟩
 exact ⟨yAC (cutV_length xs lo hi) hz,_,0,(r.drop (HT.sIx xs.length 0 lo)).take (HT.sIx xs.length xs.length hi-HT.sIx xs.length 0 lo),Heap.get?_push_size _ rfl⟩
theorem ZAK:ZBX X (.builtin "len") (fun xs H Q=>∃ p ys,xs=[.ref p] /\ (SqL X.K H p ys∨SqT X.K H p ys) /\ Q (.int ys.length) H):=by
 intro pins s σ H xs us Q I r h
 obtain ⟨p,ys,rfl,hq,q⟩:=h
 obtain ⟨u,rfl,rx⟩:=ZBg r
 cases rx
 have hn:=ZCp
 rcases hq with hq | hq
 .obtain ⟨its,r',pl,hz⟩:=I.list hq
  have hlen:=r'.length
  exact Calls.call_len_list pl.isList (by simp only [yAK] <;> omega) ⟨.int ys.length,H,I.tok _,⟨s.toks+1,by rw [yAK,hlen]⟩,q⟩
 .obtain ⟨its,r',pl,hz⟩:=I.tuple hq
  have hlen:=r'.length
  exact len_tuple pl (by simp only [yAK] <;> omega) ⟨.int ys.length,H,I.tok _,⟨s.toks+1,by rw [yAK,hlen]⟩,q⟩
theorem ZBE:ZBX X (.builtin "len") (fun xs H Q=>∃ z,xs=[.str z] /\ z.length <= sizeLine /\ Q (.int z.length) H):=by
 intro pins s σ H xs us Q I r h
 obtain ⟨z,rfl,hz,q⟩:=h
 obtain ⟨u,rfl,t,rfl⟩:=ZBg r
 have hn:=ZCp
 exact len_str (by omega) ⟨.int z.length,H,I.tok _,⟨_,rfl⟩,q⟩
theorem call_tuple_of:ZBX X (.type "tuple") (fun xs H Q=>∃ p ys,xs=[.ref p] /\ ((SqL X.K H p ys /\ ∀ l,H l=none->Q (.ref l) (upd H l (.tup ys)))∨(SqT X.K H p ys /\ Q (.ref p) H))):=by
 intro pins s σ H xs us Q I r h
 obtain ⟨p,ys,rfl,h⟩:=h
 obtain ⟨u,rfl,rx⟩:=ZBg r
 cases rx
 rcases h with ⟨hq,q⟩ | ⟨hq,q⟩
 .obtain ⟨its,r',pl,hz⟩:=I.list hq
  have hlen:=r'.length
  refine call_tuple_list pl.isList (fun h' kp=>?_) (by simp only [yAK] <;> omega)
  have I1:Inv X pins σ H { s with heap:=h' }:=I.kept (t':=s.toks) kp
  have I2:Inv X pins σ (upd H h'.objs.size (.tup ys)) { s with heap:=h'.push { cls:=.type "tuple",data:=.seq its.toArray } } :=
   I1.laid (t':=s.toks) (fun b o e=>Heap.get?_push_of_some _ e) (yAA _) (show ObjOk X.prog X.w _ _ _ (.tup ys) from ⟨hz,its,r',IsTup.new _ _⟩)
  exact ⟨.ref h'.objs.size,_,I2,rfl,q _ (I1.hok.fresh (yAA _))⟩
 .obtain ⟨its,r',pl,hz⟩:=I.tuple hq
  exact call_tuple_same pl ⟨.ref p,H,I,rfl,q⟩
noncomputable def tyV (K:W.Frag) (T:String) (x:V) (H:Hp):Prop:=match x with
 | .str _=>T="str"
 | .int _=>T="int"
 | .ref p=>(T="list" /\ ∃ xs,SqL K H p xs)∨(T="tuple" /\ ∃ o,K.lookup p=some o /\ o.cls=.type "tuple" /\ o.dict=none) ∨
   (T="dict" /\ ((∃ kvs,H p=some (.dK kvs))∨∃ kvs,H p=some (.dT kvs)))∨(T="set" /\ ∃ S n,H p=some (.set S n))
 | _=>False
theorem tyV_is {pins:List (Addr×Obj)} {σ:St} {H:Hp} {s:Shared} {T:String} {x:V} {v:Value} (I:Inv X pins σ H s) (r:RelV x v) (ty:tyV X.K T x H) :
  s.TypeIs v T /\ ∀ a,v=.ref a->∃ ob,s.heap.get? a=some ob /\ ob.dict=none:=by
 cases x with
 | str z=>
  obtain ⟨t,rfl⟩:=r
  cases (show T="str" from ty)
  exact ⟨typeIs_str s z t,fun _ e=>nomatch e⟩
 | int i=>
  obtain ⟨t,rfl⟩:=r
  cases (show T="int" from ty)
  exact ⟨typeIs_int s i t,fun _ e=>nomatch e⟩
 | ref p=>
  cases r
  rcases ty with ⟨rfl,xs,hq⟩ | ⟨rfl,o,hk,hc,hd⟩ | ⟨rfl,hk⟩ | ⟨rfl,S,n,hk⟩
  .obtain ⟨its,_,pl,_⟩:=I.list hq
   refine ⟨pl.isList.typeIs,fun a e=>?_⟩
   cases e
   obtain ⟨o,n,e,c,hd,_⟩:=pl
   exact ⟨o,e,hd⟩
  .refine ⟨⟨o,I.kIn p o hk,hc⟩,fun a e=>?_⟩
   cases e
   exact ⟨o,I.kIn _ o hk,hd⟩
  .have z:∃ o,s.heap.get? p=some o /\ o.ExactDict:=by
    rcases hk with ⟨kvs,hk⟩ | ⟨kvs,hk⟩
    .obtain ⟨_,_,_,_,o,_,_,e,ex,_⟩:=I.hok p _ hk
     exact ⟨o,e,ex⟩
    .obtain ⟨_,_,_,_,o,_,_,e,ex,_⟩:=I.hok p _ hk
     exact ⟨o,e,ex⟩
   obtain ⟨o,e,ex⟩:=z
   refine ⟨⟨o,e,ex.1⟩,fun a e2=>?_⟩
   cases e2
   exact ⟨o,e,ex.2.1⟩
  .obtain ⟨o,_,_,_,e,ex,_⟩:=I.hok p _ hk
   refine ⟨⟨o,e,ex.1⟩,fun a e2=>?_⟩
   cases e2
   exact ⟨o,e,ex.2.1⟩
 | _=>exact False.elim ty
noncomputable def tBM0 (K:W.Frag) (T:String) (r:V->List V->Hp->VK->Prop) (to:TE):TE:=fun σ H Q=>to σ H fun x H1=>tyV K T x H1 /\ r x [] H1 Q
noncomputable def tBM (K:W.Frag) (T:String) (r:V->List V->Hp->VK->Prop) (to:TE) (t:TA):TE:=fun σ H Q=>to σ H fun x H1=>tyV K T x H1 /\ t σ H1 fun xs H2=>r x xs H2 Q
variable {o e:Expr} {es:List Expr} {to:TE} {t:TA} {name:Str} {apos cpos:Pos} {T id:String} {r:V->List V->Hp->VK->Prop}
theorem ZBM (pa:PlainAttrs T) (slot:Slot T name id) (hty:typeOf (.builtin id)=pure (.type "method_descriptor")) (hm:MtR X id r) (ho:PE X o to) (ha:PA X (e::es) t)
  (hbase:attributeBase o name X.env (eval o X.env)=eval o X.env:=by rfl)
  (hfew:((backTo cpos (starEach (e::es) X.env)).all (fun x=>!x.1) && (backToKw cpos (keywordEach [] X.env)).all (fun x=>x.1.isSome)
   && decide ((e::es).length+([]:List Keyword).length+(if ([]:List Keyword).isEmpty then 0 else 1) < 30))=true:=by rfl)
  (hline:(apos.endLine == cpos.line)=true:=by rfl) (hs:starEach (e::es) X.env=(false,eval e X.env)::starEach es X.env:=by rfl) (hplain:(backTo cpos (starEach es X.env)).any (·.1)=false:=by rfl) :
  PE X (.Call (.Attribute o name apos) (e::es) [] cpos) (tBM X.K T r to t):=by
 intro pins s σ H Q I h
 refine wpAny_Call_method_late hbase hfew hline rfl (thn (ho pins s σ H _ I h) fun v s1 zz=>?_)
 obtain ⟨x,H1,I1,r1,ty,q1⟩:=zz
 obtain ⟨h1,h2⟩:=tyV_is I1 r1 ty
 refine ⟨T,id,pa,slot,hty,h1,h2,?_⟩
 have hA:=ha cpos pins s1 σ H1 _ I1 q1
 rw [hs] at hA ⊢
 refine Calls.callWith_builtin (by show (false || (backTo cpos (starEach es X.env)).any (·.1))=false;rw [hplain] <;> rfl) (Calls.evalArgs_plain ?_)
 exact thn hA fun us s2 ⟨vs,H2,I2,r2,q2⟩=>hm pins s2 σ H2 x vs v us Q I2 r1 r2 q2
end
noncomputable def MtM (X:Cx) (id:String) (r:V->List V->Hp->VK->Prop):Prop :=
 ∀ (pins:List (Addr×Obj)) (s:Shared) (σ:St) (H:Hp) (x:V) (xs:List V) (v:Value) (us:List Value) (Q:VK),Inv X pins σ H s->RelV x v->Vals xs us->r x xs H Q ->
  wpAny (model X.prog X.w) X.A (call (.builtin id) (v::us)) (EP X pins σ Q) X.xe s
theorem Vals.one {x:V} {us:List Value} (r:Vals [x] us):∃ u,us=[u] /\ RelV x u:=ZBg r
section
variable {X:Cx} {pins:List (Addr×Obj)} {σ:St} {H:Hp} {s:Shared} {l b:Addr} {xs ys zs:List V}
theorem Inv.lset {its its':List Value} {n:Nat} {f:Array Value->Array Value} {t':Nat} (I:Inv X pins σ H s) (hH:H l=some (.lst xs))
  (e:s.heap.get? l=some { cls:=.type "list",data:=.seq its.toArray n }) (hf:f its.toArray=its'.toArray) (hv:Vals ys its') (hz:ys.length <= sizeLine) :
  Inv X pins σ (upd H l (.lst ys)) { s with heap:=s.heap.update l (Obj.mapSeq f),toks:=t' }:=by
 have q:=PySem.IsL.update e f
 rw [hf] at q
 refine I.write (x:=l) (e:=l) (by rw [hH];exact trivial) (.inl rfl) (fun b' u hb hu=>(Heap.get?_update_other s.heap (Obj.mapSeq f) (Ne.symm hb)).trans hu) ⟨_,q⟩ ?_
 exact ⟨hz,its',_,hv,q⟩
theorem Inv.lnew {its:List Value} {t':Nat} (I:Inv X pins σ H s) (hv:Vals ys its) (hz:ys.length <= sizeLine) :
  Inv X pins σ (upd H s.heap.objs.size (.lst ys)) { s with heap:=s.heap.push { cls:=.type "list",data:=.seq its.toArray },toks:=t' } :=
 I.laid (fun _ _ q=>Heap.get?_push_of_some _ q) (yAA _) ⟨hz,its,0,hv,Heap.get?_push_size _ rfl⟩
theorem Inv.fresh (I:Inv X pins σ H s):H s.heap.objs.size=none:=I.hok.fresh (yAA _)
theorem Inv.lstM (I:Inv X pins σ H s) (hH:H l=some (.lst xs)):xs.length <= sizeLine /\ ∃ (its:List Value) (n:Nat),Vals xs its /\ xs.length=its.length /\ s.heap.get? l=some { cls:=.type "list",data:=.seq its.toArray n }:=by
 obtain ⟨z,its,n,r,e⟩:=I.hok l _ hH
 exact ⟨z,its,n,r,r.length,e⟩
end
section
variable {X:Cx}
noncomputable def rAppend:V->List V->Hp->VK->Prop:=fun x vs H Q=>∃ l xs y,x=.ref l /\ vs=[y] /\ H l=some (.lst xs) /\ xs.length < sizeLine /\ Q .non (upd H l (.lst (xs++[y])))
theorem ZAx:MtM X "list.append" rAppend:=by
 intro pins s σ H x vs v us Q I rx rv h
 obtain ⟨l,xs,y,rfl,rfl,hH,hz,q⟩:=h
 cases rx
 obtain ⟨u,rfl,ru⟩:=rv.one
 obtain ⟨z,its,n,r,hl,e⟩:=I.lstM hH
 refine call_meets F.slot_list_append ⟨_,e,rfl⟩ F.entry_list_append (F.args_list_append_2 _ _) (PySem.list_append l its.toArray n u (by rw [yAK];omega)) ⟨e,?_⟩
 refine ⟨.non,_,I.lset (its':=its++[u]) hH e (by simp) (r.append (.cons ru .nil)) ?_,rfl,q⟩
 rw [yAQ,List.length_singleton]
 omega
noncomputable def rCat:R2:=fun x y H Q=>∃ l b xs zs,x=.ref l /\ y=.ref b /\ H l=some (.lst xs) /\ H b=some (.lst zs) /\ xs.length+zs.length <= sizeLine /\ ∀ p,H p=none->Q (.ref p) (upd H p (.lst (xs++zs)))
theorem op_cat:OpR X (binaryOp .Add) rCat:=by
 intro pins s σ H x y v u Q I rx ry h
 obtain ⟨l,b,xs,zs,rfl,rfl,hH,hB,hz,q⟩:=h
 cases rx
 cases ry
 obtain ⟨z,its,n,r,hl,e⟩:=I.lstM hH
 obtain ⟨z2,its2,n2,r2,hl2,e2⟩:=I.lstM hB
 refine PySem.P.add_list e e2 ?_ (by rw [yAK,yAK];omega)
 have ea:its.toArray++its2.toArray=(its++its2).toArray:=by simp
 rw [ea]
 exact ⟨.ref _,_,I.lnew (t':=s.toks) (r.append r2) (by rw [yAQ];omega),rfl,q _ I.fresh⟩
end
section
variable {prog:Program} {w:World} {A:Around} {E:Value->Shared->Prop} {s:Shared}
set_option maxRecDepth 100000 in
end
section
variable {X:Cx}
end
end L2
namespace Att
open PySem PySem.W PySem.Calls PyProof.Rows
theorem ints_of_wellAll {P:Params} {h:Heap}:∀ (ns:List Int) (vs:List Value),WellAll P h vs (ns.map WData.int)->IntsAre vs ns:=by
 intro ns
 induction ns with
 | nil=>
  intro vs w
  rw [List.map_nil] at w
  cases w
  exact .nil
 | cons n ns ih=>
  intro vs w
  rw [yAY] at w
  cases w with
  | cons a b=>
   cases a
   exact .cons _ _ (ih _ b)
theorem script_of {l:OpenLaw} {n:Nat} (hn:l.most=some n) {P:Params} {h:Heap} {args:List WData} {vals:List Value}
  (hpre:l.row.toRowW.claim.pre args=true) (hwl:WellAll P h vals args) :
  ∃ a vs ns,vals=[Value.ref a] /\ args=[WData.list (ns.map WData.int)] /\ h.get? a=some { cls:=.type "list",data:=.seq vs.toArray } /\ IntsAre vs ns /\ ns.length <= n:=by
 have hsh:WShape.hasAll [] args [.list .int]=true:=(pre_splitW hpre).1
 have hc:l.pre.holds [] { args:=args }=true:=(pre_splitW hpre).2
 obtain ⟨d,r,rfl,h1,h2⟩:=hasAllW_cons hsh
 obtain rfl:=hasAllW_nil h2
 obtain ⟨xs,rfl,h3⟩:=hasW_list h1
 obtain ⟨ns,rfl⟩:=items_int h3
 have hlen:ns.length <= n:=by
  unfold OpenLaw.pre at hc
  have h4:(WTm.not (.lt (.lit (.int (n:Int))) (.len (.arg 0)))).holds [] { args:=[.list (ns.map .int)] }=true:=by
   have h4:=(holds_andW hc).1
   rw [hn] at h4
   exact h4
  have h5:=condW_of h4 (w_not (w_lt w_lit (w_len_list (w_arg rfl))))
  rw [yAB] at h5
  refine Nat.le_of_not_lt fun q=>?_
  have q':(n:Int) < ((ns.length:Nat):Int):=by omega
  first
   | (rw [decide_eq_true q'] at h5;exact absurd h5 (by decide))
   | (simp at h5;omega)
 cases hwl with
 | cons w1 w2=>
  cases w2
  cases w1 with
  | list ho hall=>exact ⟨_,_,ns,rfl,rfl,ho,ints_of_wellAll ns _ hall,hlen⟩
theorem post_true (l:OpenLaw) (args:List WData):l.row.toRowW.claim.post args (.bool true) args=true :=
 postW_of (r:=l.row.toRowW) (X:=(true == true))
  (show WShape.has [] (.bool true) .bool=true by first | rfl | decide | simp [WShape.has,WShape.arms,WShape.armsAll])
  (show (WTm.eq .res (.lit (.bool true))).value [] { args:=args,res:=some (.bool true),after:=args }=some (.bool (true == true)) from w_eq_bool (w_res rfl) w_lit) rfl
theorem attach_call {l:OpenLaw} {n:Nat} {q:Program} {loose:List Str} {XP:(Str->Option Value)->Heap->Prop} {YP:World->Heap->Prop} {d:DefRec}
  (hn:l.most=some n) (hdf:d.params.defaults=[])
  (call:∀ (w:World) (s₀ s₁:Shared) (mg mb:Str->Option Value) (fa:Addr) (o:Obj) (pm cd doc:Value) (a:Addr) (vs:List Value) (ns:List Int),
   Ground q loose [] XP w s₀ mg mb s₁.heap->YP w s₁.heap ->
   s₁.heap.get? fa=some o->o.data=.func (docDef d.name d.params d.body d.scope pm cd doc)->s₁.heap.CodeRec cd d.name->mg d.name=some (.ref fa) ->
   s₁.heap.get? a=some { cls:=.type "list",data:=.seq vs.toArray }->IntsAre vs ns->ns.length <= n->s₁.gens=#[] ->
   codeAny (model l.prog w) callerA (.call (.ref fa) ⟨[.ref a],[]⟩) (fun r s'=>r=.ok (.ret (.bool true)) /\ OldK s₁.heap s'.heap /\ s'.os=s₁.os /\ AllBare s'.gens) s₁) :
  WalkO q loose XP YP l.row.toRowW d [] (fun f vs=>PySem.call f vs):=by
 intro w s₀ s₁ mg mb G Y fa o pm cd doc dV kV ho hd hcd hD hmg hg args vals as hpre hlay hrd hwl hlo
 obtain rfl:dV=.none:=Dflts.none hD hdf
 obtain rfl:kV=.none:=Dflts.noKw hD
 obtain ⟨a,vs,ns,rfl,rfl,hobj,hints,hlen⟩:=script_of hn hpre hwl
 refine enter_call (codeAny_mono (call w s₀ s₁ mg mb fa o pm cd doc a vs ns G Y ho (fd_plain hd) hcd hmg hobj hints hlen hg) fun r s' hq=>?_)
 obtain ⟨rfl,h2,h3,h4⟩:=hq
 exact ⟨.inl ⟨.bool true,.bool true,[],rfl,fun _=>rfl,.bool true,post_true l _,fun _=>⟨List.Pairwise.nil,fun _ hm=>(nomatch hm)⟩⟩,h2,h3,h4⟩
section
variable {prog:Program} {w:World} {A:Around} {E:Value->Shared->Prop} {s:Shared} {K:Frag}
end
end Att
namespace L2
open PySem PySem.Spec PyProof.Rows
theorem vals_ints:∀ {vs:List Value} {ns:List Int},IntsAre vs ns->Vals (ns.map V.int) vs
 | _,_,.nil=>.nil
 | _,_,.cons n t h=>.cons ⟨t,rfl⟩ (vals_ints h)
noncomputable def Only (H:Hp):Prop:=∀ b,H b=none∨∃ o xs,H b=some (.frz o (.lst xs))
theorem law_call {P:Program} {w:World} {K:W.Frag} {mg mb:Str->Option Value} {CX:CXT} {k:Nat} {fa a:Addr} {fd:FuncData} {x:Str} {sp:Sp} {s₁:Shared} {vs:List Value} {ns:List Int}
  (KX:K.In s₁.heap) (hns:s₁.heap.Ns mainGlobals mg) (hb:s₁.heap.Ns builtinsNs mb) (hbb:∀ x:Str,x≠"__name__"->mb x=bootBuiltins x) (hlim:s₁.heap.NoLimit) (hg:s₁.gens=#[])
  (ha:s₁.heap.get? a=some { cls:=.type "list",data:=.seq vs.toArray }) (hi:IntsAre vs ns) (hl:ns.length <= sizeLine) (hr:Room k callerA)
  (F:∀ base:Heap,K.In base->base.Ns mainGlobals mg->FnOk P w K mg base CX k fa fd [x] sp) (hbind:∀ (s:Shared) (u:Value),BindsTo s fd ⟨[u],[]⟩ [(x,u)])
  (hsp:∀ H:Hp,Only H->SqL K H a (ns.map V.int)->sp [.ref a] H (fun v _=>v=.bl true) fun _ _ _=>False)
  (hCX:∀ H e s',CX [] H s₁ (fun _ _ _=>False) e s'->False) :
  codeAny (model P w) callerA (.call (.ref fa) ⟨[.ref a],[]⟩) (fun r s'=>r=.ok (.ret (.bool true)) /\ OldK s₁.heap s'.heap /\ s'.os=s₁.os /\ AllBare s'.gens) s₁:=by
 have rv:=vals_ints hi
 have lenV:=hi.length
 have core:∀ H:Hp,Only H->SqL K H a (ns.map V.int)->HOk P w H s₁.heap->(∀ b,H b≠none->b=a)->(H a≠none->K.lookup a=none) ->
   codeAny (model P w) callerA (.call (.ref fa) ⟨[.ref a],[]⟩) (fun r s'=>r=.ok (.ret (.bool true)) /\ OldK s₁.heap s'.heap /\ s'.os=s₁.os /\ AllBare s'.gens) s₁:=by
  intro H hO hS hok hA hK
  have base_of:∀ {b:Addr} {o:Obj},s₁.heap.get? b=some o->H b=none->(hidT s₁.heap H).get? b=some o:=fun e n=>hidT_get e n
  have noA:∀ {b:Addr} {o:Obj} {es:Array DictEntry} {ep:Nat},s₁.heap.get? b=some o->o.data=.dict es ep->H b=none:=fun {b o es ep} e d=>by
   cases q:H b with
   | none=>rfl
   | some u=>
    have e':b=a:=hA b (by rw [q];simp)
    subst e'
    rw [ha] at e;cases e
    have d':Data.seq vs.toArray _=Data.dict es ep:=d
    cases d'
  have nsK:∀ {b:Addr} {m:Str->Option Value},s₁.heap.Ns b m->(hidT s₁.heap H).Ns b m:=fun {b m} ⟨o,es,ep,e,d,r⟩=>⟨o,es,ep,base_of e (noA e d),d,r⟩
  have hKb:K.In (hidT s₁.heap H):=fun b o e=>base_of (KX b o e) (by
   cases q:H b with
   | none=>rfl
   | some u=>
    have e':b=a:=hA b (by rw [q];simp)
    subst e'
    rw [hK (by rw [q];simp)] at e;cases e)
  have hM:Mod K mg (hidT s₁.heap H):=⟨hKb,nsK hns,⟨mb,nsK hb,hbb⟩,let ⟨mc,h1,h2⟩:=hlim;⟨mc,nsK h1,h2⟩⟩
  have e0:Env0 P w K mg (hidT s₁.heap H) callerA [] s₁ H:=⟨rfl,hM,fun b o e=>of_hidT e,Nat.le_of_eq (hidT_size _ _),trivial,fun b hb=>absurd (show b∈([]:List Addr) from hb) (by simp),hok,.of_eq hg⟩
  refine codeAny_mono ((F _ hKb (nsK hns)).run callerA [] s₁ H ⟨[.ref a],[]⟩ [.ref a] [.ref a] _ _ hr e0 (hbind s₁ (.ref a)) (.cons rfl .nil) (hsp H hO hS)) fun r s' h=>?_
  cases r with
  | error e=>exact (hCX H e s' h).elim
  | ok fl=>
   cases fl with
   | next=>exact False.elim h
   | brk=>exact False.elim h
   | cont=>exact False.elim h
   | ret u=>
    obtain ⟨v,H',os,bare,un,hok',r',q⟩:=h
    have q':v=.bl true:=q
    subst q'
    obtain rfl:u=Value.bool true:=r'
    refine ⟨rfl,OldK.of_keep fun b o e=>?_,os,bare⟩
    cases q:H b with
    | none=>exact un.keep b o e q (by intro z;exact absurd (show b∈([]:List Addr) from z) (by simp)) (by simp)
    | some u=>
     rcases hO b with z | ⟨ob,xs,z⟩
     .rw [q] at z;cases z
     .have z2:=un.frzs b ob _ z
      obtain ⟨e1,_⟩:=hok b _ z
      obtain ⟨e2,_⟩:=hok' b _ z2
      rw [e] at e1;cases e1
      exact e2
 cases hk:K.lookup a with
 | some o=>
  have e:=KX a o hk
  rw [ha] at e
  cases e
  refine core (fun _=>none) (fun _=>.inl rfl) (.inr ⟨_,vs.toArray,_,hk,rfl,rfl,rfl,by rw [yAK,lenV];exact hl,by simpa using rv⟩) (fun b u z=>by have z':(none:Option HO)=some u:=z;cases z') (fun b z=>absurd rfl z) fun z=>absurd rfl z
 | none=>
  refine core (fun b=>if b=a then some (.frz { cls:=.type "list",data:=.seq vs.toArray } (.lst (ns.map V.int))) else none) (fun b=>?_) (.inl (.inr ⟨{ cls:=.type "list",data:=.seq vs.toArray },if_pos rfl⟩)) (fun b u z=>?_) (fun b z=>?_) fun _=>hk
  .by_cases hb:b=a
   .exact .inr ⟨_,_,if_pos hb⟩
   .exact .inl (if_neg hb)
  .by_cases hb:b=a
   .have z':=(if_pos hb).symm.trans z
    cases z'
    subst hb
    exact ⟨ha,by rw [yAB];exact hl,vs,_,rv,ha⟩
   .have z':=(if_neg hb).symm.trans z
    cases z'
  .by_cases hb:b=a
   .exact hb
   .exact absurd (if_neg hb) z
theorem walk_of {l:PySem.W.OpenLaw} {n k:Nat} {q:Program} {loose:List Str} {XP:(Str->Option Value)->Heap->Prop} {YP:World->Heap->Prop} {d:DefRec} {K:Params->W.Frag} {CX:World->CXT} {sp:World->Sp} {x:Str}
  (hn:l.most=some n) (hn2:n <= sizeLine) (hdf:d.params.defaults=[]) (hr:Room k callerA)
  (hY:∀ (w:World) (h:Heap),YP w h->(K w.params).In h)
  (F:∀ (w:World) (mg:Str->Option Value) (fa:Addr) (h:Heap),(K w.params).In h->h.Ns mainGlobals mg->mg d.name=some (.ref fa) ->
   ∃ fd:FuncData,(∀ (s:Shared) (u:Value),BindsTo s fd ⟨[u],[]⟩ [(x,u)]) /\
    ∀ base:Heap,(K w.params).In base->base.Ns mainGlobals mg->FnOk l.prog w (K w.params) mg base (CX w) k fa fd [x] (sp w))
  (hsp:∀ (w:World) (H:Hp) (a:Addr) (ns:List Int),ns.length <= n->Only H->SqL (K w.params) H a (ns.map V.int)->sp w [.ref a] H (fun v _=>v=.bl true) fun _ _ _=>False)
  (hCX:∀ (w:World) (H:Hp) (s:Shared) (e:Value) (s':Shared),CX w [] H s (fun _ _ _=>False) e s'->False) :
  PySem.W.WalkO q loose XP YP l.row.toRowW d [] (fun f vs=>PySem.call f vs):=by
 refine Att.attach_call hn hdf fun w s₀ s₁ mg mb fa o pm cd doc a vs ns G Y ho hd hcd hmg hobj hints hlen hg=>?_
 have KX:=hY w _ Y
 obtain ⟨fd,hb,hF⟩:=F w mg fa _ KX G.T.g hmg
 exact law_call KX G.T.g G.T.b G.T.builtins G.T.nolimit hg hobj hints (yAC hlen hn2) hr hF hb (fun H hO hS=>hsp w H a ns hlen hO hS) fun H e s'=>hCX w H s₁ e s'
end L2
namespace L2
open PySem PySem.Spec PyProof.Rows
noncomputable def inClass (s:Stmt) (j:Nat):Stmt:=match s with
 | .ClassDef _ _ _ body _ _ _ _ _ _ _=>body.getD j (.Pass ⟨0,0,0,0⟩)
 | _=>.Pass ⟨0,0,0,0⟩
noncomputable def ZAZ (s:Stmt):Arguments:=match s with
 | .FunctionDef _ a _ _ _ _ _ _ _ _=>a
 | _=>{ posonlyargs:=[],args:=[],vararg:=none,kwonlyargs:=[],kw_defaults:=[],kwarg:=none,defaults:=[] }
noncomputable def ZAW (s:Stmt):List Stmt:=match s with
 | .FunctionDef _ _ b _ _ _ _ _ _ _=>b
 | _=>[]
noncomputable def ZAD (s:Stmt):Scope:=match s with
 | .FunctionDef _ _ _ _ _ _ sc _ _ _=>sc
 | _=>{ kind:=.function,names:=[],isGenerator:=false,isCoroutine:=false }
noncomputable abbrev CX0:CXT:=fun _ _ _ _ _ _=>False
noncomputable abbrev E0:XK:=fun _ _ _=>False
theorem ZA3 {X:Cx}:ZB2 CX0 X E0:=fun _ _ _ _ _ _ _ h=>h.elim
structure Fun (K:W.Frag) (x qual:Str) (st:Stmt) (f:Addr) (fd:FuncData):Prop where
 ex:∃ (oc:Value) (od:Option Addr) (kV doc pm:Value) (an:Option Addr) (cdv ct:Value) (osl:Array (Option Value)),
  fd=W.fnOf x qual (ZAZ st) (ZAW st) (ZAD st) .none kV doc pm an cdv ct /\ K.lookup f=some ⟨oc,od,.func fd,osl⟩ /\ W.codeIn K cdv qual=true
 kp:W.keepIn K (.ref f)=true
section
variable {P:Program} {w:World} {K:W.Frag} {mg:Str->Option Value} {base:Heap}
theorem Fun.ok {x qual:Str} {st:Stmt} {f:Addr} {fd:FuncData} {N ps:List Str} {k:Nat} {sp:Sp} (F:Fun K x qual st f fd) (S:FnScope N ps (ZAD st)) (len:∀ vs H Q E,sp vs H Q E->vs.length=ps.length)
  (hbody:∀ (cdv:Value) (A:Around) (outer:List Env) (s:Shared) (H:Hp) (vs:List V) (Q:VK) (E:XK),Room k (A.deeper (envOfC qual (ZAD st) s.heap.objs.size f cdv))->sp vs H Q E ->
   ∃ t,PSs (cxOf CX0 P w K mg base N qual (ZAD st) f cdv A outer s H E).nox (ZAW st) t /\ t { nx:=fun _ H'=>Q .non H',rt:=Q } (start N vs) H):FnOk P w K mg base CX0 (k+1) f fd ps sp:=by
 obtain ⟨oc,od,kV,doc,pm,an,cdv,ct,osl,rfl,lk,hcd⟩:=F.ex
 refine fn_of lk hcd S len fun A outer s H vs Q E hr hsp=>?_
 obtain ⟨t,h,q⟩:=hbody cdv A outer s H vs Q E hr hsp
 exact ⟨t,h.nox,q⟩
theorem Fun.binds {x qual:Str} {st:Stmt} {f:Addr} {fd:FuncData} {ps:List Str} (F:Fun K x qual st f fd)
  (h:∀ (kV doc pm:Value) (an:Option Addr) (cdv ct:Value) (us:List Value),us.length=ps.length->bindArgs (W.fnOf x qual (ZAZ st) (ZAW st) (ZAD st) .none kV doc pm an cdv ct) ⟨us,[]⟩=pure (ps.zip us)):Binds K fd ps []:=by
 obtain ⟨oc,od,kV,doc,pm,an,cdv,ct,osl,rfl,lk,hcd⟩:=F.ex
 exact .all (h kV doc pm an cdv ct)
theorem ZAo {x qual:Str} {st:Stmt} {f:Addr} {oc:Value} {od an:Option Addr} {osl:Array (Option Value)} {kV doc pm cdv ct:Value} (l:K.lookup f=some ⟨oc,od,.func (W.fnOf x qual (ZAZ st) (ZAW st) (ZAD st) .none kV doc pm an cdv ct),osl⟩)
  (c:W.codeIn K cdv qual=true) (k:W.keepIn K (.ref f)=true):Fun K x qual st f (W.fnOf x qual (ZAZ st) (ZAW st) (ZAD st) .none kV doc pm an cdv ct):=⟨⟨oc,od,kV,doc,pm,an,cdv,ct,osl,rfl,l,c⟩,k⟩
end
theorem ZBQ {n:Nat} (h:n <= 1000):n < sizeLine:=Nat.lt_of_le_of_lt h (by decide)
section
variable {X:Cx}
theorem pv (i:Nat) {x:Str} {pos:Pos} (hN:X.N[i]?=some x:=by rfl) (hv:Vis X.env.scope x:=by first | exact Or.inl rfl | exact Or.inr (Or.inl rfl) | exact Or.inr (Or.inr rfl)) (hd:(x == ("__debug__":Str))=false:=by decide)
  (hcd:(x == ("__classdict__":Str))=false:=by decide):PE X (.Name x pos) (tVar i):=pe_var hN hv hd hcd
end
noncomputable def Same (H H':Hp):Prop:=∀ b o,H b=some o->H' b=some o
theorem Same.refl (H:Hp):Same H H:=fun _ _ h=>h
theorem Same.trans {H H1 H2:Hp} (a:Same H H1) (b:Same H1 H2):Same H H2:=fun c o h=>b c o (a c o h)
theorem Same.free {H H':Hp} (e:Same H H') {l:Addr} (h:H' l=Option.none):H l=Option.none:=by
 cases q:H l with
 | none=>rfl
 | some o=>
  rw [e l o q] at h
  cases h
theorem Same.seq {K:W.Frag} {H H':Hp} {a:Addr} {xs:List V} (e:Same H H') (h:SqL K H a xs):SqL K H' a xs:=by
 rcases h with (h | ⟨o,h⟩) | h
 .exact .inl (.inl (e _ _ h))
 .exact .inl (.inr ⟨o,e _ _ h⟩)
 .exact .inr h
end L2
set_option maxHeartbeats 4000000
namespace L2
open PySem PySem.Spec PyProof.Rows
theorem natlt {a b:Addr} (h:a < b):@LT.lt Nat _ a b:=h
theorem ZB4 {a b:Addr} {n:Nat} (h:a < n) (k:n <= b):a≠b:=yAD (yAF h k)
theorem ZAi:∀ (names:List (Str×NameKind)) (n:Nat) (acc:List (Str×Addr)),cellsFrom n names acc=cellsFrom n names []++acc
 | [],_,_=>rfl
 | (x,k)::r,n,acc=>by
  unfold cellsFrom
  split
  .rw [ZAi r (n+1) ((x,n)::acc),ZAi r (n+1) [(x,n)],List.append_assoc];rfl
  .exact ZAi r n acc
theorem ZA6:∀ (names:List (Str×NameKind)) (n:Nat) (acc:List (Str×Addr)) (y:Str) (c:Addr),(y,c)∈cellsFrom n names acc->(y,c)∈acc∨((y,NameKind.cell)∈names /\ n <= c)
 | [],_,_,_,_,h=>.inl h
 | (x,k)::r,n,acc,y,c,h=>by
  unfold cellsFrom at h
  split at h
  .rename_i hk
   have hk':k=.cell:=by simpa using hk
   rcases ZA6 r (n+1) _ y c h with h | ⟨h,l⟩
   .rcases yAG.mp h with e | h
    .cases e;subst hk';exact .inr ⟨yAE,yAA _⟩
    .exact .inl h
   .exact .inr ⟨yAJ _ h,Nat.le_of_succ_le l⟩
  .rcases ZA6 r n _ y c h with h | ⟨h,l⟩
   .exact .inl h
   .exact .inr ⟨yAJ _ h,l⟩
noncomputable def ZAX (cells:List (Str×Addr)):List (Str×NameKind)->List (Str×Addr)->List (Str×Addr)
 | [],acc=>acc
 | (x,k)::r,acc=>if k == .free then ZAX cells r ((x,(cells.lookup x).getD 0)::acc) else ZAX cells r acc
theorem ZBB {cells:List (Str×Addr)}:∀ (names:List (Str×NameKind)) (acc:List (Str×Addr)) (y:Str) (c:Addr),(y,c)∈ZAX cells names acc->(y,c)∈acc∨((y,NameKind.free)∈names /\ c=(cells.lookup y).getD 0)
 | [],_,_,_,h=>.inl h
 | (x,k)::r,acc,y,c,h=>by
  unfold ZAX at h
  split at h
  .rename_i hk
   have hk':k=.free:=by simpa using hk
   rcases ZBB r _ y c h with h | ⟨h,l⟩
   .rcases yAG.mp h with e | h
    .cases e;subst hk';exact .inr ⟨yAE,rfl⟩
    .exact .inl h
   .exact .inr ⟨yAJ _ h,l⟩
  .rcases ZBB r _ y c h with h | ⟨h,l⟩
   .exact .inl h
   .exact .inr ⟨yAJ _ h,l⟩
theorem ZBD {cells:List (Str×Addr)}:∀ (names:List (Str×NameKind)) (acc:List (Str×Addr)) (p:Str×Addr),p∈acc->p∈ZAX cells names acc
 | [],_,_,h=>h
 | (x,k)::r,acc,p,h=>by
  unfold ZAX
  split
  .exact ZBD r _ p (yAJ _ h)
  .exact ZBD r _ p h
theorem ZBC {cells:List (Str×Addr)}:∀ (names:List (Str×NameKind)) (acc:List (Str×Addr)) (y:Str),(y,NameKind.free)∈names->(y,(cells.lookup y).getD 0)∈ZAX cells names acc
 | [],_,_,h=>nomatch h
 | (x,k)::r,acc,y,h=>by
  unfold ZAX
  rcases yAG.mp h with e | h
  .cases e
   rw [if_pos (by rfl)]
   exact ZBD r _ _ yAE
  .split
   .exact ZBC r _ y h
   .exact ZBC r _ y h
theorem ZA4 {α:Type}:∀ {l:List (Str×α)} {y:Str} {c:α},(y,c)∈l->∃ c',l.lookup y=some c'
 | (k,v)::r,y,c,h=>by
  rw [yBB]
  cases hb:y == k with
  | true=>exact ⟨v,rfl⟩
  | false=>
   rcases yAG.mp h with e | h
   .cases e;rw [beq_self_eq_true] at hb;cases hb
   .exact ZA4 h
theorem ZA5 {env:Env} (f:Str×NameKind->List (Str×Addr)->Sem (ForInStep (List (Str×Addr))))
  (hf:∀ name kind cs,f (name,kind) cs=if kind == .free then (do let a <- cellOf env name;pure (.yield ((name,a)::cs))) else pure (.yield cs)) :
  ∀ (names:List (Str×NameKind)) (acc:List (Str×Addr)),(∀ x,(x,NameKind.free)∈names->∃ c,env.cells.lookup x=some c)->forIn names acc f=(pure (ZAX env.cells names acc):Sem (List (Str×Addr)))
 | [],acc,_=>by rw [List.forIn_nil];rfl
 | (x,k)::r,acc,h=>by
  have hr:∀ x,(x,NameKind.free)∈r->∃ c,env.cells.lookup x=some c:=fun y hy=>h y (yAJ _ hy)
  rw [List.forIn_cons,hf]
  unfold ZAX
  split
  .rename_i hk
   have hk':k=.free:=by simpa using hk
   subst hk'
   obtain ⟨c,hc⟩:=h x yAE
   have e:cellOf env x=(pure c:Sem Addr):=by unfold cellOf;rw [hc]
   rw [e,hc]
   exact ZA5 f hf r ((x,c)::acc) hr
  .exact ZA5 f hf r acc hr
theorem closureFor_eq {scope:Scope} {env:Env} (h:∀ x,(x,NameKind.free)∈scope.names->∃ c,env.cells.lookup x=some c):closureFor scope env=pure (ZAX env.cells scope.names []):=by
 simp only [closureFor]
 rw [ZA5 _ (fun name kind cs=>by cases hk:kind == NameKind.free <;> simp [hk]) scope.names [] h]
 rfl
section
variable {M:Model} {A:Around} {E:Value->Shared->Prop} {s:Shared}
theorem newEnv_comp {scope:Scope} {globals:Addr} {cl:List (Str×Addr)} {qual:Str} {env:Env} {Q:Env->Shared->Prop}
  (hQ:Q { scope:=scope,locals:=s.heap.objs.size,globals:=globals,cells:=cellsFrom (s.heap.objs.size+1) scope.names cl,qual:=qual,func:=none,code:=env.code,frame:=env.frame,builtins:=env.builtins }
   { s with heap:=pushCells (s.heap.push { cls:=.type "dict",data:=.dict #[] }) scope.names }) :
  wpAny M A (newFunctionEnv scope globals cl [] qual none .none (some env)) Q E s:=by
 simp only [newFunctionEnv,Option.isSome_some,if_true]
 refine wpAny_bind (wpAny_alloc ?_)
 refine wpAny_bind (wpAny_layCells _ (fun name kind cells=>by cases hkc:kind == NameKind.cell <;> simp [hkc]) _ _ _ _ ?_)
 rw [show ({ s with heap:=s.heap.push { cls:=.type "dict",data:=.dict #[] } }:Shared).heap.objs.size=s.heap.objs.size+1 from Heap.size_push ..]
 rw [List.forIn_nil]
 exact wpAny_bind (wpAny_pure (wpAny_pure hQ))
end
theorem relabel_lookup {scope:Scope} {env:Env} (x:Str):(relabel scope env).names.lookup x=(scope.names.lookup x).map fun k=>if (k == .free && env.scope.kind == .function && env.kindOf x == some .cell)=true then NameKind.cell else k:=by
 unfold relabel
 dsimp only
 generalize scope.names=names
 induction names with
 | nil=>rfl
 | cons p r ih=>
  obtain ⟨n,k⟩:=p
  rw [yAY,yBB (as:=r)]
  cases hx:x == n with
  | true=>
   have e:x=n:=beq_iff_eq.mp hx
   subst e
   by_cases hc:(k == NameKind.free && env.scope.kind == .function && env.kindOf x == some .cell)=true
   .simp only [hc,if_true,yBB,hx,Option.map_some]
   .simp only [hc,Bool.false_eq_true,if_false,yBB,hx,Option.map_some]
  | false=>
   by_cases hc:(k == NameKind.free && env.scope.kind == .function && env.kindOf n == some .cell)=true
   .simp only [hc,if_true,yBB,hx];exact ih
   .simp only [hc,Bool.false_eq_true,if_false,yBB,hx];exact ih
noncomputable def ZBk (N:List Str) (osc:Scope) (k:Nat) (js:List Nat) (N':List Str) (sc:Scope):Bool :=
 decide (sc.kind=.function) && decide (N'.length=k+js.length) && decide N'.Nodup &&
 sc.names.all (fun p=>decide (sc.names.lookup p.1=some p.2) && (decide (p.2≠.free) || decide (osc.names.lookup p.1=some .cell) || decide (osc.names.lookup p.1=some .free))) &&
 (List.range js.length).all (fun i=>decide (js[i]?.bind (fun j=>N[j]?)=N'[k+i]?) && decide ((N'[k+i]?).bind (fun y=>sc.names.lookup y)=some .free))
structure CmpOk (N:List Str) (osc:Scope) (k:Nat) (js:List Nat) (N':List Str) (sc:Scope):Prop where
 kind:sc.kind=.function
 len:N'.length=k+js.length
 nd:N'.Nodup
 look:∀ p∈sc.names,sc.names.lookup p.1=some p.2
 fr:∀ y,(y,NameKind.free)∈sc.names->osc.names.lookup y=some .cell∨osc.names.lookup y=some .free
 js:∀ i j,js[i]?=some j->∃ y,N'[k+i]?=some y /\ N[j]?=some y /\ sc.names.lookup y=some .free
theorem cmpOk {N:List Str} {osc:Scope} {k:Nat} {js:List Nat} {N':List Str} {sc:Scope} (h:ZBk N osc k js N' sc=true):CmpOk N osc k js N' sc:=by
 unfold ZBk at h
 simp only [yAT,decide_eq_true_eq,yAV,Bool.or_eq_true,List.mem_range] at h
 obtain ⟨⟨⟨⟨h1,h2⟩,h3⟩,h4⟩,h5⟩:=h
 refine ⟨h1,h2,h3,fun p hp=>(h4 p hp).1,fun y hy=>?_,fun i j hj=>?_⟩
 .rcases (h4 _ hy).2 with (z | z) | z
  .exact absurd rfl z
  .exact .inl z
  .exact .inr z
 .have hi:i < js.length:=(yAP.mp hj).1
  obtain ⟨a,b⟩:=h5 i hi
  rw [hj] at a
  cases e:N'[k+i]? with
  | none=>rw [e] at b;cases b
  | some y=>
   rw [e] at a b
   exact ⟨y,rfl,a,b⟩
noncomputable def ZCO (scope:Scope) (cl:List (Str×Addr)) (C:Addr) (env:Env):Env :=
 { scope:=relabel scope env,locals:=C,globals:=env.globals,cells:=cellsFrom (C+1) scope.names cl,qual:=env.qual,func:=none,code:=env.code,frame:=env.frame,builtins:=env.builtins }
noncomputable def ZAy (X:Cx) (N':List Str) (scope:Scope) (C:Addr) (fp:List Addr) (s2:Shared) (H2:Hp):Cx where
 prog:=X.prog
 w:=X.w
 K:=X.K
 mg:=X.mg
 base:=X.base
 A:=X.A
 N:=N'
 s₀:=s2
 H₀:=H2
 env:=ZCO scope (ZAX X.env.cells scope.names []) C X.env
 outer:=X.stack
 stack:=X.stack
 ex:=fp
 fn:=fun x=>decide (scope.names.lookup x=some .cell)
 calm:=X.calm
 pn:=[]
 xe:=fun _ _=>False
noncomputable def up (k:Nat) (js:List Nat) (σ:St):St:=List.replicate k none++js.map fun j=>(σ[j]?).getD none
section
variable {X:Cx} {pins:List (Addr×Obj)} {σ:St} {H:Hp} {s2:Shared} {k:Nat} {js:List Nat} {N':List Str} {scope:Scope} {fp:List Addr}
theorem comp_inv (hc:CmpOk X.N X.env.scope k js N' scope) (I:Inv X pins σ H s2) (hfp:∀ b∈fp,FpOk X pins H b) (hlt:∀ b∈fp,b < s2.heap.objs.size) {h3:Heap} (hz:h3.objs.size=s2.heap.objs.size+1) (hk3:∀ b o,s2.heap.get? b=some o->h3.get? b=some o) :
  Inv (ZAy X N' scope (s2.heap.objs.size+1) fp s2 H) [] (up k js σ) H { s2 with heap:=pushCells (h3.push { cls:=.type "dict",data:=.dict #[] }) scope.names }:=by
 have frLook:∀ y,(y,NameKind.free)∈scope.names->∃ c,X.env.cells.lookup y=some c:=fun y hy=>I.ok.has y (hc.fr y hy)
 have ok0:=cellsFrom_ok scope.names (h3.push { cls:=.type "dict",data:=.dict #[] }) (s2.heap.objs.size+2) [] ⟨fun _ _ hm=>(nomatch hm),List.Pairwise.nil⟩ (by rw [Heap.size_push,hz];exact yAA _)
 rw [Heap.size_push,hz] at ok0
 have parts:∀ y c,(ZCO scope (ZAX X.env.cells scope.names []) (s2.heap.objs.size+1) X.env).cells.lookup y=some c ->
   ((y,c)∈cellsFrom (s2.heap.objs.size+2) scope.names [] /\ (y,NameKind.cell)∈scope.names /\ s2.heap.objs.size+2 <= c)∨((y,NameKind.free)∈scope.names /\ X.env.cells.lookup y=some c):=fun y c e=>by
  have m:=PySem.mem_of_lookup e
  change (y,c)∈cellsFrom (s2.heap.objs.size+1+1) scope.names _ at m
  rw [ZAi] at m
  rcases yAX.mp m with m | m
  .rcases ZA6 _ _ _ _ _ m with z | ⟨z,l⟩
   .cases z
   .exact .inl ⟨m,z,l⟩
  .rcases ZBB _ _ _ _ m with z | ⟨z,l⟩
   .cases z
   .obtain ⟨c',e'⟩:=frLook y z
    rw [e'] at l
    exact .inr ⟨z,by rw [e'];exact congrArg some l.symm⟩
 have old:∀ y c,X.env.cells.lookup y=some c->c < s2.heap.objs.size:=fun y c e=>by
  obtain ⟨v,q⟩:=I.cell y c e
  exact q.lt
 have freeAt:∀ y,(y,NameKind.free)∈scope.names->∀ c,X.env.cells.lookup y=some c->(ZCO scope (ZAX X.env.cells scope.names []) (s2.heap.objs.size+1) X.env).cells.lookup y=some c:=fun y hy c e=>by
  have m:(y,c)∈cellsFrom (s2.heap.objs.size+1+1) scope.names (ZAX X.env.cells scope.names []):=by
   rw [ZAi]
   have q:=ZBC (cells:=X.env.cells) scope.names [] y hy
   rw [e] at q
   exact yAI _ q
  obtain ⟨c',q⟩:=ZA4 m
  rcases parts y c' q with ⟨_,z,_⟩ | ⟨_,z⟩
  .have z1:=hc.look _ z
   have z2:=hc.look _ hy
   rw [z1] at z2
   cases z2
  .rw [e] at z
   cases z
   exact q
 have keepAll:∀ b o,s2.heap.get? b=some o->(pushCells (h3.push { cls:=.type "dict",data:=.dict #[] }) scope.names).get? b=some o:=fun b o e=>pushCells_keeps _ _ b o (Heap.get?_push_of_some _ (hk3 b o e))
 refine ⟨⟨I.ok.mod,hc.kind,I.ok.glob,I.ok.blt,yAO _,fun y z c h1 h2=>?_,fun y hy=>?_,fun y c h1 h2=>?_,I.ok.hd,I.ok.frames,.inl rfl,fun b hb=>⟨?_,fun y c e=>?_⟩,I.bs,yAC I.ok.bsz I.sz,fun b o e hb=>?_,fun b hb hs=>?_,I.stack,I.stkFree⟩,
  rfl,I.bare,Un.kept keepAll,⟨fun _=>none,?_,fun i y v e1 e2 e3=>?_⟩,fun y c e=>?_,I.hok.fresh (yAO _),fun y c e=>?_,fun p hp=>absurd (show p∈([]:List (Addr×Obj)) from hp) (by simp),I.hok.kept keepAll,?_⟩
 .
  rcases parts y c h1 with ⟨a,_,l⟩ | ⟨_,a⟩ <;> rcases parts z c h2 with ⟨b,_,l'⟩ | ⟨_,b⟩
  .exact name_of_addr ok0.apart a b
  .have:=natlt (old z c b);omega
  .have:=natlt (old y c a);omega
  .exact I.ok.inj y z c a b
 .
  have hy':(relabel scope X.env).names.lookup y=some .cell∨(relabel scope X.env).names.lookup y=some .free:=hy
  rw [relabel_lookup] at hy'
  have q:scope.names.lookup y=some .cell∨scope.names.lookup y=some .free:=by
   cases e:scope.names.lookup y with
   | none=>rw [e] at hy';rcases hy' with z | z <;> cases z
   | some kk=>
    rw [e] at hy'
    cases kk <;> first | exact .inl rfl | exact .inr rfl | (rcases hy' with z | z <;> simp at z)
  rcases q with q | q
  .obtain ⟨c,e⟩:=ZCP (n:=s2.heap.objs.size+1+1) q
   have m:(y,c)∈cellsFrom (s2.heap.objs.size+1+1) scope.names (ZAX X.env.cells scope.names []):=by
    rw [ZAi]
    exact List.mem_append_left _ (PySem.mem_of_lookup e)
   exact ZA4 m
  .have m:=PySem.mem_of_lookup q
   obtain ⟨c,e⟩:=frLook y m
   exact ⟨c,freeAt y m c e⟩
 .
  have h1':scope.names.lookup y=some .cell:=of_decide_eq_true h1
  rcases parts y c h2 with ⟨_,_,l⟩ | ⟨z,_⟩
  .show s2.heap.objs.size <= c
   omega
  .have:=hc.look _ z
   rw [h1'] at this
   cases this
 .
  exact ZB4 (hlt b hb) (yAO _)
 .rcases parts y c e with ⟨_,_,l⟩ | ⟨_,z⟩
  .exact (ZB4 (hlt b hb) (yAC (Nat.le_add_right _ 2) l)).symm
  .exact (hfp b hb).2.2.2.2.1 y c z
 .
  rcases (hfp b hb).2.2.2.1 with z | z
  .exact I.ok.noex b o e z
  .exact absurd (yAF (Heap.lt_size e) (yAC I.ok.bsz z)) (yAW _)
 .
  rcases yAG.mp (I.stkSub b hs) with z | z
  .exact (hfp b hb).2.1 z
  .exact (hfp b hb).2.2.1 z
 .
  have q:=(Heap.Ns.new h3 (.type "dict")).keeps (pushCells_keeps scope.names _)
  rw [hz] at q
  exact q
 .
  unfold up at e2
  have hik:k <= i:=by
   by_cases hi:i < k
   .rw [List.getElem?_append_left (by simpa using hi),List.getElem?_replicate] at e2
    rw [if_pos hi] at e2
    cases e2
   .omega
  rw [List.getElem?_append_right (by simpa using hik),List.length_replicate,yAM] at e2
  cases ej:js[i-k]? with
  | none=>rw [ej] at e2;cases e2
  | some j=>
   rw [ej] at e2
   have e2':(σ[j]?).getD none=some v:=Option.some.inj e2
   have e4:σ[j]?=some (some v):=by
    cases q:σ[j]? with
    | none=>rw [q] at e2';cases e2'
    | some z=>rw [q] at e2';exact congrArg some e2'
   obtain ⟨y',n1,n2,n3⟩:=hc.js _ _ ej
   rw [Nat.add_sub_cancel' hik] at n1
   have n0:N'[i]?=some y:=e1
   rw [n1] at n0
   cases n0
   have hm:=PySem.mem_of_lookup n3
   have hvis:Vis X.env.scope y:=.inr (hc.fr y hm)
   obtain ⟨m,hn,hl⟩:=I.loc
   obtain ⟨u,r,l⟩:=hl j y v n2 e4 hvis
   refine ⟨u,r,?_⟩
   rcases l with ⟨kk,_⟩ | ⟨kk,c,ec,ic⟩
   .have kk':X.env.scope.names.lookup y=some .local:=kk
    rcases hc.fr y hm with z | z <;> (rw [kk'] at z;cases z)
   .refine .inr ⟨?_,c,freeAt y hm c ec,ic.keeps keepAll⟩
    show (relabel scope X.env).names.lookup y=some .cell∨(relabel scope X.env).names.lookup y=some .free
    rw [relabel_lookup,n3]
    simp only [Option.map_some]
    split
    .exact .inl rfl
    .exact .inr rfl
 .
  rcases parts y c e with ⟨a,_,_⟩ | ⟨_,a⟩
  .exact ⟨none,(ok0.empty y c a).1⟩
  .obtain ⟨v,q⟩:=I.cell y c a
   exact ⟨v,q.keeps keepAll⟩
 .rcases parts y c e with ⟨_,_,l⟩ | ⟨_,a⟩
  .exact I.hok.fresh (by omega)
  .exact I.freeC y c a
 .unfold up
  show _=N'.length
  rw [yAQ,List.length_replicate,yAB,hc.len]
theorem comp_end {σ':St} {H':Hp} {s':Shared} {C D:Addr} {its:List Value} {n:Nat} {ys:List V} (I:Inv X pins σ H s2) (hfp:∀ b∈fp,FpOk X pins H b) (hC:s2.heap.objs.size <= C) (hD:s2.heap.objs.size <= D) (hDC:D≠C)
  (I':Inv (ZAy X N' scope C fp s2 H) [(D,{ cls:=.type "list",data:=.seq its.toArray n })] σ' H' s') (hv:Vals ys its) (hz:ys.length <= sizeLine) :
  H' D=none /\ ∀ h',Heap.SameBut C s'.heap h'->Inv X pins σ (upd H' D (.lst ys)) { s' with heap:=h' }:=by
 obtain ⟨eD,nD,_,_,_⟩:=I'.pin (D,{ cls:=.type "list",data:=.seq its.toArray n }) (yAI _ yAE)
 dsimp only at eD nD
 have nC:H' C=none:=I'.free
 refine ⟨nD,fun h' hs=>?_⟩
 have neC:∀ b o,s2.heap.get? b=some o->b≠C:=fun b o e=>ZB4 (Heap.lt_size e) hC
 have neD:∀ b o,s2.heap.get? b=some o->b≠D:=fun b o e=>ZB4 (Heap.lt_size e) hD
 have tr:∀ b u,H' b=some u->b≠D:=fun b u e z=>by rw [z,nD] at e;cases e
 have trC:∀ b u,H' b=some u->b≠C:=fun b u e z=>by rw [z,nC] at e;cases e
 have B:=I'.base
 refine I.call' (s':={ s' with heap:=h' }) (ch:=fp) I'.os ⟨fun b o e nn hb hx=>?_,fun b o e nn hb hx=>?_,fun b o e nn hx=>?_,fun b o e hx=>?_,fun b xs e=>?_,fun b o u e=>?_,fun b ps e=>?_⟩ (fun b u e=>?_) I'.bare fun b hb=>?_
 .exact (hs.2 b (neC b o e)).trans (B.keep b o e nn hb hx)
 .obtain ⟨sl,q⟩:=B.slot b o e nn hb hx
  exact ⟨sl,(hs.2 b (neC b o e)).trans q⟩
 .rw [ZAH (neD b o e)]
  exact B.free b o e nn hx
 .obtain ⟨o',q⟩:=B.there b o e hx
  exact ⟨o',(hs.2 b (neC b o e)).trans q⟩
 .have q:=B.tups b xs e
  rw [ZAH (tr b _ q)]
  exact q
 .have q:=B.frzs b o u e
  rw [ZAH (tr b _ q)]
  exact q
 .obtain ⟨more,q⟩:=B.tbls b ps e
  exact ⟨more,by rw [ZAH (tr b _ q)];exact q⟩
 .by_cases hb:b=D
  .subst hb
   rw [ZAI] at e
   cases e
   exact ⟨hz,its,n,hv,(hs.2 b hDC).trans eD⟩
  .rw [ZAH hb] at e
   refine (I'.hok b u e).stay (fun c v hcc q=>(hs.2 c ?_).trans q) (fun c q=>by rw [ZAH (tr c _ q)];exact q) fun c xs q=>by rw [ZAH (tr c _ q)];exact q
   rcases hcc with rfl | hcc
   .exact trC c _ e
   .exact trC c _ hcc
 .obtain ⟨_,f1,_,f3,f4,f5⟩:=hfp b hb
  exact ⟨f3,f1,f4,f5⟩
end
section
variable {prog:Program} {w:World} {A:Around} {R:Result->Shared->Prop} {s:Shared}
theorem codeAny_compLoop_any {elt target iter:Expr} {ifs:List Expr} {scope:Scope} {pos:Pos} {it acc:Value} {env:Env} (I:Nat->Shared->Prop)
  (turn:∀ n s,I n s->wpAny (model prog w) A (pyNext it) (fun r s₁=>match r with
   | none=>R (.ok .next) s₁
   | some v=>wpAny (model prog w) A (letOwnedTupleGo target it v) (fun _ s₁'=>wpAny (model prog w) A (assign target env v) (fun _ s₂=>
     wpAny (model prog w) A (forIn ifs true fun c r=>if r=true then do let ok <- isTrue c env (eval c env);pure (ForInStep.yield ok) else pure (ForInStep.yield r)) (fun ok s₃=>
      if ok=true then wpAny (model prog w) A (eval elt env) (fun x s₄=>
       wpAny (model prog w) A (call (.builtin "list.append") [acc,x]) (fun _ s₅=>∃ m,m < n /\ I m s₅) (notedBy (model prog w) A env fun e s'=>R (.error e) s') s₄) (notedBy (model prog w) A env fun e s'=>R (.error e) s') s₃
      else ∃ m,m < n /\ I m s₃) (notedBy (model prog w) A env fun e s'=>R (.error e) s') s₂) (notedBy (model prog w) A env fun e s'=>R (.error e) s') s₁') (notedBy (model prog w) A env fun e s'=>R (.error e) s') s₁) (notedBy (model prog w) A env fun e s'=>R (.error e) s') s)
  (n:Nat) (h:I n s) :
  codeAny (model prog w) A (.compLoop (.ListComp elt [⟨target,iter,ifs,0⟩] scope pos) 0 it acc env) R s:=by
 refine codeAny_loop rfl I (fun n s hI=>?_) n h
 show wpAny _ A ((compTurn (.ListComp elt [⟨target,iter,ifs,0⟩] scope pos) 0 it acc env).onRaise (fun x=>do noteFrame x env;theTreesLotGoes x)) _ _ s
 refine wpAny_noted ?_
 rw [compTurn_list]
 refine wpAny_bind (wpAny_standAt (wpAny_bind (wpAny_mono (turn n s hI) (fun r s₁ h₁=>?_) fun _ _ h'=>h')))
 cases r with
 | none=>exact wpAny_pure h₁
 | some v=>
  refine wpAny_bind (wpAny_mono h₁ (fun _ s₁' h₁'=>?_) fun _ _ h'=>h')
  refine wpAny_bind (wpAny_mono h₁' (fun _ s₂ h₂=>wpAny_bind (wpAny_mono h₂ (fun ok s₃ h₃=>?_) fun _ _ h'=>h')) fun _ _ h'=>h')
  cases ok with
  | false=>exact wpAny_pure ⟨rfl,h₃⟩
  | true=>exact wpAny_bind (wpAny_bind (wpAny_mono h₃ (fun x s₄ h₄=>wpAny_bind (wpAny_mono h₄ (fun _ s₅ h₅=>wpAny_pure (wpAny_pure ⟨rfl,h₅⟩)) fun _ _ h'=>h')) fun _ _ h'=>h'))
end
noncomputable def PIfs (X:Cx) (ifs:List Expr) (t:TT):Prop :=
 ∀ (pins:List (Addr×Obj)) (s:Shared) (σ:St) (H:Hp) (Q:Bool->Hp->Prop),Inv X pins σ H s->t σ H Q ->
  wpAny (model X.prog X.w) X.A (forIn ifs true fun c r=>if r=true then do let ok <- isTrue c X.env (eval c X.env);pure (ForInStep.yield ok) else pure (ForInStep.yield r)) (TP X pins σ Q) X.xe s
noncomputable def tYes:TT:=fun _ H Q=>Q true H
theorem ZBS {X:Cx}:PIfs X [] tYes:=fun _ _ _ H _ I h=>wpAny_tests_nil ⟨H,I,h⟩
noncomputable def ZB3 (k:Nat) (js:List Nat) (wi:TI) (g:TG) (tt:TT) (te:TE):TE:=fun σ H Q=>wi σ H fun J H1=>∃ W:Nat->Nat->List V->St->Hp->Prop,(∃ m,W 0 m [] (up k js σ) H1) /\ ∀ i m ys σ H,W i m ys σ H ->
 (J.stop i H /\ ys.length <= sizeLine /\ ∀ p,H p=none->Q (.ref p) (upd H p (.lst ys))) ∨
 (J.go i H /\ ys.length < sizeLine /\ ∀ x H',J.yld i H x H'->g x σ H' fun σ2 H2=>tt σ2 H2 fun b H3=>if b=true then te σ2 H3 fun y H4=>∃ m',m' < m /\ W (i+1) m' (ys++[y]) σ2 H4 else ∃ m',m' < m /\ W (i+1) m' ys σ2 H3)
section
variable {X:Cx} {k:Nat} {js:List Nat} {N':List Str} {scope:Scope} {tg iter elt:Expr} {ifs:List Expr} {wi:TI} {g:TG} {tt:TT} {te:TE} {pos:Pos}
theorem comp_core {use:Option (Value->Sem Unit)} {Q':Value->Shared->Prop} (hcalm:X.calm=true) (hc:CmpOk X.N X.env.scope k js N' scope) (hi:PI X tg iter wi)
  (hg:∀ C fp s2 H2,PG (ZAy X N' scope C fp s2 H2) tg g) (ht:∀ C fp s2 H2,PIfs (ZAy X N' scope C fp s2 H2) ifs tt) (he:∀ C fp s2 H2,PE (ZAy X N' scope C fp s2 H2) elt te)
  {pins:List (Addr×Obj)} {s:Shared} {σ:St} {H:Hp} {Q:VK} (I:Inv X pins σ H s) (h:ZB3 k js wi g tt te σ H Q)
  (fin:∀ (C D:Addr) (s':Shared) (m:Str->Option Value) (H':Hp) (ys:List V),s'.heap.Ns C m->C≠X.env.locals->C∉X.fs->D≠C->H' C=none->X.s₀.heap.objs.size <= C->(∀ x c,X.env.cells.lookup x=some c->c≠C)->(∀ p∈X.pn++pins,p.1≠C)->(∀ h',Heap.SameBut C s'.heap h'->Inv X pins σ (upd H' D (.lst ys)) { s' with heap:=h' })->Q (.ref D) (upd H' D (.lst ys)) ->
   compPost (model X.prog X.w) X.A X.xe use Q' (.ref D) C (.ok .next) s')
  (hs:∀ x,foldedSetIterable iter X.env x=pure x) (p':Pos) :
  wpAny (model X.prog X.w) X.A (comprehension (.ListComp elt [⟨tg,iter,ifs,0⟩] scope pos) scope X.env p' (newList []) false (eval iter X.env) use) Q' X.xe s:=by
 have hclos:closureFor scope X.env=pure (ZAX X.env.cells scope.names []):=closureFor_eq fun y hy=>I.ok.has y (hc.fr y hy)
 refine wpAny_comprehension_free (g:=⟨tg,iter,ifs,0⟩) (gs:=[]) rfl hs hclos hc.kind (fun x hx hl=>by rw [hc.look x hx,hl]) ?_
 refine thn (hi pins s σ H _ I h) fun v s1 h1=>thn h1 fun itv s2 h2=>?_
 obtain ⟨it,fp,tn,J,H2,e,I2,T,st2,f2,W,⟨m0,w0⟩,turn⟩:=h2
 subst e
 have hlt:∀ b∈fp,b < s2.heap.objs.size:=fun b hb=>by
  obtain ⟨o,e,_⟩:=T.obj _ _ st2 b hb
  exact Heap.lt_size e
 refine wpAny_newObj_type (newEnv_comp ?_)
 have hz3:(s2.heap.push { cls:=.type "list",dict:=none,data:=.seq ([]:List Value).toArray }).objs.size=s2.heap.objs.size+1:=Heap.size_push ..
 have I3:=comp_inv (h3:=s2.heap.push { cls:=.type "list",dict:=none,data:=.seq ([]:List Value).toArray }) hc I2 f2 hlt hz3 (fun b o e=>Heap.get?_push_of_some _ e)
 dsimp only
 rw [hz3]
 generalize hS4:({ s2 with heap:=pushCells ((s2.heap.push { cls:=.type "list",dict:=none,data:=.seq ([]:List Value).toArray }).push { cls:=.type "dict",data:=.dict #[] }) scope.names }:Shared)=s4 at I3 ⊢
 have keep4:∀ b o,s2.heap.get? b=some o->s4.heap.get? b=some o:=fun b o e=>by
  rw [<- hS4]
  exact pushCells_keeps _ _ b o (Heap.get?_push_of_some _ (Heap.get?_push_of_some _ e))
 have eD4:s4.heap.get? s2.heap.objs.size=some { cls:=.type "list",data:=.seq ([]:List Value).toArray 0 }:=by
  rw [<- hS4]
  exact pushCells_keeps _ _ _ _ (Heap.get?_push_of_some _ (Heap.get?_push_size _ rfl))
 generalize hX':ZAy X N' scope (s2.heap.objs.size+1) fp s2 H2=X' at I3
 have hC':X'.env.locals=s2.heap.objs.size+1:=by rw [<- hX'];rfl
 have hfs':X'.fs=frs X.stack:=by rw [<- hX'];rfl
 have nofsD:∀ a,s2.heap.objs.size <= a->a∉frs X.stack:=fun a ha hb=>by
  rcases yAG.mp (I2.stkSub a hb) with z | z
  .exact absurd z.symm (ZB4 I2.lt ha)
  .exact I2.nofs ha z
 have cellD:∀ x c,X'.env.cells.lookup x=some c->c≠s2.heap.objs.size:=fun x c e z=>by
  obtain ⟨v,o,ho,hd⟩:=I3.cell x c e
  rw [z,eD4] at ho
  cases ho
  cases hd
 have pinD:∀ {σ':St} {H':Hp} {s':Shared} {its:List Value} {n:Nat},Inv X' [] σ' H' s'->s'.heap.get? s2.heap.objs.size=some { cls:=.type "list",data:=.seq its.toArray n }->H' s2.heap.objs.size=none ->
   Inv X' [(s2.heap.objs.size,{ cls:=.type "list",data:=.seq its.toArray n })] σ' H' s':=fun {σ' H' s' its n} J e nn=>J.pins_of fun p hp=>by
  have e':p=(s2.heap.objs.size,{ cls:=.type "list",data:=.seq its.toArray n }):=by simpa using hp
  subst e'
  refine ⟨e,nn,?_,?_,fun v z=>nomatch z⟩
  .rw [hC'];exact yAD (Nat.lt_succ_self _)
  .rw [hfs'];exact nofsD _ (yAA _)
 have I4:=pinD I3 eD4 (I2.hok.fresh (yAA _))
 have stat:∀ {H':Hp} {o:Obj},(∀ b∈fp,H' b=none)->∀ b∈fp,FpOk X' [(s2.heap.objs.size,o)] H' b:=fun {H' o} hn b hb=>by
  have hb':=hlt b hb
  refine ⟨hn b hb,?_,?_,.inl (by rw [<- hX'];exact hb),fun x c e z=>?_,fun p hp z=>?_⟩
  .rw [hC'];exact ZB4 hb' (yAO _)
  .rw [hfs']
   intro z
   rcases yAG.mp (I2.stkSub b z) with q | q
   .exact (f2 b hb).2.1 q
   .exact (f2 b hb).2.2.1 q
  .have q:=I3.ok.exf b (by rw [<- hX'];exact hb)
   exact q.2 x c e z
  .rw [show X'.pn=[] by rw [<- hX'];rfl] at hp
   have e':p=(s2.heap.objs.size,o):=by simpa using hp
   subst e'
   exact absurd hb' (by rw [<- z];exact yAW _)
 have hfin:∀ {σ':St} {H':Hp} {s':Shared} {its:List Value} {n:Nat} {ys:List V},Inv X' [(s2.heap.objs.size,{ cls:=.type "list",data:=.seq its.toArray n })] σ' H' s'->Vals ys its->ys.length <= sizeLine->(∀ p,H' p=none->Q (.ref p) (upd H' p (.lst ys))) ->
   compPost (model X.prog X.w) X.A X.xe use Q' (.ref s2.heap.objs.size) (s2.heap.objs.size+1) (.ok .next) s':=fun {σ' H' s' its n ys} J hv hz hq=>by
  obtain ⟨m,hn,_⟩:=id J.loc
  rw [hC'] at hn
  have nC:H' (s2.heap.objs.size+1)=none:=by rw [<- hC'];exact J.free
  have J':Inv (ZAy X N' scope (s2.heap.objs.size+1) fp s2 H2) [(s2.heap.objs.size,{ cls:=.type "list",data:=.seq its.toArray n })] σ' H' s':=by rw [hX'];exact J
  obtain ⟨nD,E⟩:=comp_end I2 f2 (yAO _) (yAA _) (yAD (Nat.lt_succ_self _)) J' hv hz
  refine fin _ _ s' m H' ys hn ?_ (I2.nofs (yAO _)) (yAD (Nat.lt_succ_self _)) nC (yAC I2.sz (yAO _)) (fun x c e z=>?_) (fun p hp z=>?_) E (hq _ nD)
  .exact (ZB4 I2.lt (yAO _)).symm
  .obtain ⟨v,q⟩:=I2.cell x c e
   exact absurd z (ZB4 q.lt (yAO _))
  .exact absurd z (ZB4 (Heap.lt_size (I2.pin p hp).1) (yAO _))
 have hprog:X'.prog=X.prog:=by rw [<- hX'];rfl
 have hw:X'.w=X.w:=by rw [<- hX'];rfl
 have hK:X'.K=X.K:=by rw [<- hX'];rfl
 have hcalm':X'.calm=true:=by rw [<- hX'];exact hcalm
 have hA:X'.A=X.A:=by rw [<- hX'];rfl
 have henv:ZCO scope (ZAX X.env.cells scope.names []) (s2.heap.objs.size+1) X.env=X'.env:=by rw [<- hX'];rfl
 have hgX:=hg (s2.heap.objs.size+1) fp s2 H2
 have htX:=ht (s2.heap.objs.size+1) fp s2 H2
 have heX:=he (s2.heap.objs.size+1) fp s2 H2
 rw [hX'] at hgX htX heX
 have hxe:∀ e s',X'.xe e s'->False:=fun e s' z=>by rw [<- hX'] at z;exact z
 have hXA:X'.pn=[]:=by rw [<- hX'];rfl
 have hs0:X'.s₀.heap.objs.size=s2.heap.objs.size:=by rw [<- hX'];rfl
 have loop:codeAny (model X.prog X.w) X.A (.compLoop (.ListComp elt [⟨tg,iter,ifs,0⟩] scope pos) 0 (.ref it) (.ref s2.heap.objs.size) X'.env) (compPost (model X.prog X.w) X.A X.xe use Q' (.ref s2.heap.objs.size) (s2.heap.objs.size+1)) s4:=by
  refine codeAny_compLoop_any (fun n s'=>∃ i σ' H' its nn ys,Inv X' [(s2.heap.objs.size,{ cls:=.type "list",data:=.seq its.toArray nn })] σ' H' s' /\ tn i s'.heap /\ (∀ b∈fp,H' b=none) /\ Vals ys its /\ W i n ys σ' H') ?_ m0
   ⟨0,_,H2,[],0,[],I4,T.keep _ _ _ st2 (fun b _ o e=>keep4 b o e),fun b hb=>(f2 b hb).1,.nil,w0⟩
  rintro n s5 ⟨i,σ5,H5,its,nn,ys,I5,st5,fr5,hv,w5⟩
  rcases turn i n ys σ5 H5 w5 with ⟨stop,hz,hq⟩ | ⟨go,hz,step⟩
  .have d:=T.done X' hprog hw hK hcalm' i _ s5 σ5 H5 (fun _ _=>False) I5 (stat fr5) st5 stop
   rw [hA] at d
   refine wpAny_mono d (fun r s6 ⟨hr,I6⟩=>?_) fun _ _ z=>z.elim
   subst hr
   exact hfin I6 hv hz hq
  .have d:=T.item X' hprog hw hK hcalm' i _ s5 σ5 H5 (fun _ _=>False) I5 (stat fr5) st5 go
   rw [hA] at d
   refine wpAny_mono d (fun r s6 ⟨u,hr,h6⟩=>?_) fun _ _ z=>z.elim
   subst hr
   refine wpAny_mono h6 (fun _ s7 zz=>?_) fun _ _ z=>z.elim
   obtain ⟨x,H7,I7,r7,y7,st7,fr7⟩:=zz
   have I7':=I7.pinned (stat fr7) (T.obj _ _ st7)
   have a1:=hgX _ s7 σ5 H7 x u _ I7' r7 (step x H7 y7)
   rw [hprog,hw,hA] at a1
   refine wpAny_mono a1 (fun _ s8 zz=>?_) fun _ _ z=>(hxe _ _ z).elim
   obtain ⟨σ8,H8,I8,q8⟩:=zz
   have a2:=htX _ s8 σ8 H8 _ I8 q8
   rw [hprog,hw,hA] at a2
   refine wpAny_mono a2 (fun ok s9 ⟨H9,I9,q9⟩=>?_) fun _ _ z=>(hxe _ _ z).elim
   have back:∀ {σ':St} {H':Hp} {s':Shared},Inv X' ([(s2.heap.objs.size,({ cls:=.type "list",data:=.seq its.toArray nn }:Obj))]++ZCS fp s7.heap) σ' H' s'->tn (i+1) s'.heap /\ (∀ b∈fp,H' b=none):=fun {σ' H' s'} J=>by
    refine ⟨T.keep _ _ _ st7 fun b hb o e=>(J.pin (b,o) (yAI _ (yAI _ (ZBK hb e)))).1,fun b hb=>?_⟩
    obtain ⟨o,e,d⟩:=T.obj _ _ st7 b hb
    exact (J.pin (b,o) (yAI _ (yAI _ (ZBK hb e)))).2.1
   cases ok with
   | false=>
    rw [if_neg yAH] at q9 ⊢
    obtain ⟨m',hm,w9⟩:=q9
    obtain ⟨t9,f9⟩:=back I9
    exact ⟨m',hm,i+1,σ8,H9,its,nn,ys,I9.unpinned,t9,f9,hv,w9⟩
   | true=>
    rw [if_pos rfl] at q9 ⊢
    have a3:=heX _ s9 σ8 H9 _ I9 q9
    rw [hprog,hw,hA] at a3
    refine wpAny_mono a3 (fun uy s10 zz=>?_) fun _ _ z=>(hxe _ _ z).elim
    obtain ⟨y,H10,I10,r10,m',hm,w10⟩:=zz
    obtain ⟨t10,f10⟩:=back I10
    have I11:=I10.unpinned
    obtain ⟨eD,nD,_,_,_⟩:=I11.pin (s2.heap.objs.size,{ cls:=.type "list",data:=.seq its.toArray nn }) (yAI _ yAE)
    dsimp only at eD nD
    have hsz:its.length < sizeLine:=by rw [<- hv.length];exact hz
    refine wpAny_list_append_plain ⟨nn,eD⟩ (fun h' hpl hsb=>?_) (by rw [yAK];omega)
    obtain ⟨n',e'⟩:=hpl
    have e'':h'.get? s2.heap.objs.size=some { cls:=.type "list",data:=.seq (its++[uy]).toArray n' }:=by rw [e'];simp
    have I12:Inv X' [] σ8 H10 s10:=I11.pins_of fun p hp=>absurd hp (by simp)
    have I13:=I12.turned (h':=h') (t':=s10.toks) (it:=s2.heap.objs.size) (fun b o hb e=>(hsb.2 b hb).trans e) nD (by rw [hC'];exact yAD (Nat.lt_succ_self _)) (.inr (by rw [hs0];exact yAA _)) cellD (fun p hp=>absurd hp (by rw [hXA];simp))
    refine ⟨m',hm,i+1,σ8,H10,its++[uy],n',ys++[y],pinD I13 e'' nD,T.keep _ _ _ t10 fun b hb o e=>?_,f10,hv.append (.cons r10 .nil),w10⟩
    exact (hsb.2 b (ZB4 (hlt b hb) (yAA _))).trans e
 have hst:codeAny (model X.prog X.w) X.A (.compStart (.ListComp elt [⟨tg,iter,ifs,0⟩] scope pos) 0 (.ref it) (.ref s2.heap.objs.size) X'.env) (compPost (model X.prog X.w) X.A X.xe use Q' (.ref s2.heap.objs.size) (s2.heap.objs.size+1)) s4 :=
  codeAny_compStart_list loop (T.self X.A 0 s4 _ _ (T.keep _ _ _ st2 (fun b _ o e=>keep4 b o e)) loop)
 rw [<- henv] at hst
 exact hst
theorem ZCE (hcalm:X.calm=true) (hc:ZBk X.N X.env.scope k js N' scope=true) (hi:PI X tg iter wi)
  (hg:∀ C fp s2 H2,PG (ZAy X N' scope C fp s2 H2) tg g) (ht:∀ C fp s2 H2,PIfs (ZAy X N' scope C fp s2 H2) ifs tt) (he:∀ C fp s2 H2,PE (ZAy X N' scope C fp s2 H2) elt te)
  (hs:∀ x,foldedSetIterable iter X.env x=pure x:=by intro _;rfl):PE X (.ListComp elt [⟨tg,iter,ifs,0⟩] scope pos) (ZB3 k js wi g tt te):=by
 intro pins s σ H Q I h
 rw [eval_ListComp]
 refine comp_core (use:=none) hcalm (cmpOk hc) hi hg ht he I h (fun C D s' m H' ys hn _ _ _ _ _ _ _ E q=>?_) hs _
 exact ⟨m,hn,fun h' hsb=>⟨.ref D,_,E h' hsb,rfl,q⟩⟩
theorem ps_setComp {i:Nat} {x:Str} {px spos:Pos} (hN:X.N.Nodup) (hix:X.N[i]?=some x) (hx:Loc X.env.scope x) (hcalm:X.calm=true) (hc:ZBk X.N X.env.scope k js N' scope=true) (hi:PI X tg iter wi)
  (hg:∀ C fp s2 H2,PG (ZAy X N' scope C fp s2 H2) tg g) (ht:∀ C fp s2 H2,PIfs (ZAy X N' scope C fp s2 H2) ifs tt) (he:∀ C fp s2 H2,PE (ZAy X N' scope C fp s2 H2) elt te)
  (hs:∀ x,foldedSetIterable iter X.env x=pure x:=by intro _;rfl) (hsw:swapsWith (.ListComp elt [⟨tg,iter,ifs,0⟩] scope pos) (some (.Name x px)) spos.line X.env=pure true:=by rfl)
  (hf:X.fn x=true∨X.env.scope.names.lookup x=some .local:=by first | exact .inl rfl | exact .inr rfl | assumption) :
  PS X (.Assign [.Name x px] (.ListComp elt [⟨tg,iter,ifs,0⟩] scope pos) spos) (tAsg (ZB3 k js wi g tt te) (ZCs i)):=by
 intro pins s σ H D I h
 rw [exec_Assign_Name_used _ _ _ _ hsw]
 refine wpAny_bind (wpAny_standAt (wpAny_bind ?_))
 show wpAny _ X.A (do let _ <- comprehension (.ListComp elt [⟨tg,iter,ifs,0⟩] scope pos) scope X.env _ (newList []) false (eval iter X.env) (some (assign (.Name x px) X.env))) _ _ s
 refine wpAny_bind (wpAny_mono (comp_core (use:=some (assign (.Name x px) X.env)) (Q':=fun _ s'=>SP X pins D .next s') hcalm (cmpOk hc) hi hg ht he I h (fun C Dd s' m H' ys hn c1 c2 c3 c4 c5 c6 c7 E q=>?_) hs _) (fun _ s' hq=>wpAny_pure (wpAny_pure hq)) fun _ _ e=>e)
 have J:=E s'.heap (.refl ..)
 obtain ⟨oC,es,ep,eC,dC,rC⟩:=id hn
 have J':Inv X (pins++[(C,oC)]) σ (upd H' Dd (.lst ys)) s':=J.pins_of fun p hp=>by
  rcases yAX.mp hp with z | z
  .exact J.pin p (yAI _ z)
  .have e':p=(C,oC):=by simpa using z
   subst e'
   refine ⟨eC,?_,c1,c2,fun v z=>?_⟩
   .show upd H' Dd _ C=none
    rw [ZAH (Ne.symm c3)]
    exact c4
   .have z':oC.data=.cell v:=z
    rw [dC] at z'
    cases z'
 show wpAny _ X.A (assign (.Name x px) X.env (.ref Dd)) _ _ _
 refine wpAny_assign_Name (ZCA (Q:=fun _ s''=>∃ m,s''.heap.Ns C m /\ ∀ h',Heap.SameBut C s''.heap h'->SP X pins D .next { s'' with heap:=h' }) J' hN hix hx (v:=.ref Dd) (u:=.ref Dd) rfl (fun s'' K'=>?_) hf)
 obtain ⟨e2,n2,_,_,_⟩:=K'.pin (C,oC) (yAI _ (yAI _ yAE))
 dsimp only at e2 n2
 refine ⟨m,⟨oC,es,ep,e2,dC,rC⟩,fun h' hsb=>⟨_,_,K'.unpinned.turned (it:=C) (t':=s''.toks) (fun b o hb e=>(hsb.2 b hb).trans e) n2 c1 (.inr c5) c6 c7,q⟩⟩
end
mutual
noncomputable def Dp (K:W.Frag) (H:Hp):PyData->V->Prop
 | .none,v=>v=.non
 | .bool b,v=>v=.bl b
 | .int i,v=>v=.int i
 | .str x,v=>v=.str x
 | .list ds,v=>∃ a xs,v=.ref a /\ SqL K H a xs /\ DpAll K H ds xs
 | .tuple ds,v=>∃ a xs,v=.ref a /\ SqT K H a xs /\ DpAll K H ds xs
 | .dict _,_=>False
noncomputable def DpAll (K:W.Frag) (H:Hp):List PyData->List V->Prop
 | [],vs=>vs=[]
 | d::ds,vs=>∃ v r,vs=v::r /\ Dp K H d v /\ DpAll K H ds r
end
theorem DpAll.nil {K:W.Frag} {H:Hp}:DpAll K H [] []:=by unfold DpAll;rfl
theorem DpAll.cons {K:W.Frag} {H:Hp} {d:PyData} {ds:List PyData} {v:V} {vs:List V} (a:Dp K H d v) (t:DpAll K H ds vs):DpAll K H (d::ds) (v::vs):=by unfold DpAll;exact ⟨v,vs,rfl,a,t⟩
theorem dp_bl {K:W.Frag} {H:Hp} (i:Bool):Dp K H (.bool i) (.bl i):=by unfold Dp;rfl
theorem dp_lst {K:W.Frag} {H:Hp} {a:Addr} {xs:List V} {ds:List PyData} (h:SqL K H a xs) (t:DpAll K H ds xs):Dp K H (.list ds) (.ref a):=by unfold Dp;exact ⟨a,xs,rfl,h,t⟩
section
variable {X:Cx} {pins:List (Addr×Obj)} {σ:St} {H:Hp} {s:Shared}
mutual
theorem Inv.reads (I:Inv X pins σ H s):∀ {d:PyData} {v:V} {u:Value},Dp X.K H d v->RelV v u->∃ as,Reads s.heap u d as
 | .none,_,_,h,r=>by unfold Dp at h;subst h;cases (show _=Value.none from r);exact ⟨_,.none⟩
 | .bool b,_,_,h,r=>by unfold Dp at h;subst h;cases (show _=Value.bool b from r);exact ⟨_,.bool b⟩
 | .int i,_,_,h,r=>by unfold Dp at h;subst h;obtain ⟨t,q⟩:=(show ∃ t,_=Value.int i t from r);subst q;exact ⟨_,.int i t⟩
 | .str x,_,_,h,r=>by unfold Dp at h;subst h;obtain ⟨t,q⟩:=(show ∃ t,_=Value.str x t from r);subst q;exact ⟨_,.str x t⟩
 | .list ds,_,_,h,r=>by
  unfold Dp at h
  obtain ⟨a,xs,q,sq,t⟩:=h
  subst q
  cases (show _=Value.ref a from r)
  obtain ⟨its,rv,pl,_⟩:=I.list sq
  obtain ⟨as,ra⟩:=Inv.readsAll I t rv
  obtain ⟨o,n,e1,e2,_,e3⟩:=pl
  exact ⟨_,.list e1 e2 e3 (by simpa using ra)⟩
 | .tuple ds,_,_,h,r=>by
  unfold Dp at h
  obtain ⟨a,xs,q,sq,t⟩:=h
  subst q
  cases (show _=Value.ref a from r)
  obtain ⟨its,rv,pl,_⟩:=I.tuple sq
  obtain ⟨as,ra⟩:=Inv.readsAll I t rv
  obtain ⟨o,e1,e2,n,e3⟩:=pl
  exact ⟨_,.tuple e1 e2 e3 (by simpa using ra)⟩
 | .dict _,_,_,h,_=>by unfold Dp at h;exact h.elim
theorem Inv.readsAll (I:Inv X pins σ H s):∀ {ds:List PyData} {vs:List V} {us:List Value},DpAll X.K H ds vs->Vals vs us->∃ as,ReadsAll s.heap us ds as
 | [],_,_,h,r=>by unfold DpAll at h;subst h;cases r;exact ⟨_,.nil⟩
 | _::_,_,_,h,r=>by
  unfold DpAll at h
  obtain ⟨v,q,e,a,t⟩:=h
  subst e
  cases r with
  | cons r1 r2=>
   obtain ⟨as,h1⟩:=Inv.reads I a r1
   obtain ⟨bs,h2⟩:=Inv.readsAll I t r2
   exact ⟨_,.cons h1 h2⟩
end
noncomputable def rEqD (K:W.Frag):R2:=fun x y H Q=>∃ d e,Dp K H d x /\ Dp K H e y /\ d.canLay0=true /\ e.canLay0=true /\ d.depth <= 64 /\ Q (.bl (PyData.eqv d e)) H
theorem op_eqD (hu:X.A.units+64 < cLine):OpR X (compareOp .Eq) (rEqD X.K):=by
 intro pins s σ H x y v u Q I rx ry h
 obtain ⟨d,e,h1,h2,c1,c2,dp,q⟩:=h
 obtain ⟨as,ra⟩:=I.reads h1 rx
 obtain ⟨bs,rb⟩:=I.reads h2 ry
 exact SeqAt.compareEq_reads ra rb c1 c2 (by omega) ⟨.bl _,H,I,rfl,q⟩
end
section
variable {X:Cx} {x:Str} {pos:Pos}
theorem pe_gint {y:Int} (hg:Gl X x) (h:∃ t,X.mg x=some (.int y t)) (hd:(x == ("__debug__":Str))=false:=by decide):PE X (.Name x pos) (tC (.int y)):=by
 obtain ⟨t,e⟩:=h
 exact pe_glob hg e ⟨t,rfl⟩ hd
theorem ZA9 {C:Addr} (hg:Gl X x) (h:X.mg x=some (.ref C)) (hd:(x == ("__debug__":Str))=false:=by decide):PE X (.Name x pos) (tC (.ref C)):=pe_glob hg h rfl hd
theorem ZCU {n:String} (hg:Gl X x) (hm:X.mg x=none) (hv:bootBuiltins x=some (.type n)) (hn:x≠"__name__":=by decide) (hd:(x == ("__debug__":Str))=false:=by decide):PE X (.Name x pos) (tC (.ty n)):=pe_bltn hg hm hv rfl hn hd
end
structure Fn (P:Program) (w:World) (K:W.Frag) (mg:Str->Option Value) (base:Heap) (CX:CXT) (x:Str) (k:Nat) (ps:List Str) (sp:Sp):Prop where
 ex:∃ f fd,FnOk P w K mg base CX k f fd ps sp /\ Binds K fd ps [] /\ W.keepIn K (.ref f)=true /\ mg x=some (.ref f)
section
variable {X:Cx} {CX:CXT} {k:Nat} {ps:List Str} {sp:Sp} {E:XK} {x m:Str} {C:Addr} {p pos apos:Pos} {e o:Expr} {es:List Expr} {ta:TE} {t:TA}
theorem ZA2 (F:Fn X.prog X.w X.K X.mg X.base CX x k ps sp) (hr:Room k X.A) (hg:Gl X x) (hx:ZB2 CX X E) (ha:PA X (e::es) t) (hdb:(x == ("__debug__":Str))=false:=by decide) (he:starEach (e::es) X.env=(false,eval e X.env)::starEach es X.env:=by rfl) (hpl:(backTo pos (starEach es X.env)).any (·.1)=false:=by rfl) :
  PE X (.Call (.Name x p) (e::es) [] pos) (ZC2 sp [] E t):=by
 obtain ⟨f,fd,h1,h2,h3,h4⟩:=F.ex
 exact pe_call h1 hr hg h4 h3 h2 .nil hx ha hdb he hpl
end
noncomputable def ZBy:V->Bool
 | .ty _=>true
 | .ref _=>true
 | _=>false
noncomputable def cval:V->Value
 | .ty n=>.type n
 | .ref a=>.ref a
 | _=>.none
section
variable {X:Cx}
theorem ZA7:ZBX X (.builtin "isinstance") (fun xs H Q=>∃ x c ty b,xs=[x,c] /\ ZBy c=true /\ TyOf X.K H x ty /\ PySem.W.kitOne X.K ty (cval c)=some b /\ Q (.bl b) H):=by
 intro pins s σ H xs us Q I r h
 obtain ⟨x,c,ty,b,rfl,hc,hty,e,q⟩:=h
 obtain ⟨u,w',rfl,r1,r2⟩:=ZC1 r
 have e2:w'=cval c:=by
  cases c <;> first | (cases hc;done) | exact r2
 subst e2
 exact isinst_ok I r1 hty e fun tk=>⟨.bl b,H,I.tok tk,rfl,q⟩
end
theorem ZAS {v:V} {σ:St} {H:Hp} {Q:VK}:tVar 0 (some v::σ) H Q=Q v H:=by
 apply propext;unfold tVar;simp
theorem ZAY {i:Nat} {a:Option V} {σ:St} {H:Hp} {Q:VK}:tVar (i+1) (a::σ) H Q=tVar i σ H Q:=by
 apply propext;unfold tVar;simp
theorem rI0_int {g:Int->Int->V} {i j:Int} {H:Hp} {Q:VK}:rI0 g (.int i) (.int j) H Q=Q (g i j) H:=by
 apply propext;unfold rI0;simp
theorem rI_int {C:Int->Int->Prop} {g:Int->Int->V} {i j:Int} {H:Hp} {Q:VK}:rI C g (.int i) (.int j) H Q=(C i j /\ Q (g i j) H):=by
 apply propext;unfold rI;simp
theorem rU_int {g:Int->V} {i:Int} {H:Hp} {Q:VK}:rU g (.int i) H Q=Q (g i) H:=by
 apply propext;unfold rU;simp
theorem rEq_int {i j:Int} {H:Hp} {Q:VK}:rEq (.int i) (.int j) H Q=Q (.bl (decide (i=j))) H:=by
 exact propext ⟨fun h=>by simpa using h.2,fun h=>⟨rfl,by simpa using h⟩⟩
theorem rNe_int {i j:Int} {H:Hp} {Q:VK}:rNe (.int i) (.int j) H Q=Q (.bl (!decide (i=j))) H:=by
 exact propext ⟨fun h=>by simpa using h.2,fun h=>⟨rfl,by simpa using h⟩⟩
theorem rEq_bl {i j:Bool} {H:Hp} {Q:VK}:rEq (.bl i) (.bl j) H Q=Q (.bl (decide (i=j))) H:=by
 exact propext ⟨fun h=>by simpa using h.2,fun h=>⟨rfl,by simpa using h⟩⟩
theorem rNe_bl {i j:Bool} {H:Hp} {Q:VK}:rNe (.bl i) (.bl j) H Q=Q (.bl (!decide (i=j))) H:=by
 exact propext ⟨fun h=>by simpa using h.2,fun h=>⟨rfl,by simpa using h⟩⟩
theorem rEq_str {i j:Str} {H:Hp} {Q:VK}:rEq (.str i) (.str j) H Q=Q (.bl (decide (i=j))) H:=by
 exact propext ⟨fun h=>by simpa using h.2,fun h=>⟨rfl,by simpa using h⟩⟩
theorem rNe_str {i j:Str} {H:Hp} {Q:VK}:rNe (.str i) (.str j) H Q=Q (.bl (!decide (i=j))) H:=by
 exact propext ⟨fun h=>by simpa using h.2,fun h=>⟨rfl,by simpa using h⟩⟩
theorem ex_bl {c:Bool} {Q:Bool->Prop}:(∃ k,V.bl c=V.bl k /\ Q k)=Q c:=by
 apply propext;simp
theorem ex_int {c:Int} {Q:Int->Prop}:(∃ k,V.int c=V.int k /\ Q k)=Q c:=by
 apply propext;simp
theorem ZAV {n:Nat} (h:n <= 1000):n <= sizeLine:=Nat.le_of_lt (ZBQ h)
theorem ZAQ {H:Hp} {p:Addr} (h:H p=none) (o:HO):Same H (upd H p o):=fun b u q=>by rw [ZAH (ZAG q h)];exact q
noncomputable def getF (K:W.Frag) (f:Str) (x:V) (H:Hp) (Q:VK):Prop:=∃ a C dx fs v,x=.ref a /\ H a=some (.ins C dx fs) /\ Cls K C /\ NoAttr K C f /\ fs.lookup f=some v /\ Q v H
theorem tFld_eq {K:W.Frag} {ta:TE} {f:Str} {σ:St} {H:Hp} {Q:VK}:tFld K ta f σ H Q=ta σ H (fun x H1=>getF K f x H1 Q):=rfl
noncomputable def setF (K:W.Frag) (f:Str) (x y:V) (H:Hp) (Q:Hp->Prop):Prop:=∃ a C dx fs,x=.ref a /\ H a=some (.ins C dx fs) /\ Cls K C /\ NoAttr K C f /\ fs.length < 1000 /\ Q (upd H a (.ins C dx (putF f y fs)))
theorem sFld_eq {K:W.Frag} {ta tv:TE} {f:Str} {D:Ends} {σ:St} {H:Hp}:sFld K ta tv f D σ H=tv σ H (fun y H1=>ta σ H1 fun x H2=>setF K f x y H2 (D.nx σ)):=rfl
theorem ZBL {K:W.Frag} {p:Addr} {xs:List V} {i:Int} {v:V} {H:Hp} {Q:VK} (h:SqL K H p xs) (e:atI xs i=some v) (q:Q v H):rIxL K (.ref p) (.int i) H Q:=⟨p,xs,i,v,rfl,rfl,h,e,q⟩
theorem ZBf {α:Type} {xs:List α} {i:Int} {v:α} (h0:0 <= i) (h:xs[i.toNat]?=some v):atI xs i=some v:=by
 have q:=atI_nat h
 rwa [Int.toNat_of_nonneg h0] at q
theorem atI_ints {xs:List Int} {i:Int} {v:Int} (h0:0 <= i) (h:xs[i.toNat]?=some v):atI (xs.map V.int) i=some (.int v):=ZBf h0 (by rw [yAM,h];rfl)
noncomputable def Nxt (P:Nat->List V->St->Hp->Prop) (n i:Nat) (ys:List V) (σ:St) (H:Hp):Prop:=∃ m',m' < n-i /\ m'=n-(i+1) /\ i+1 <= n /\ P (i+1) ys σ H
theorem Nxt.of {P:Nat->List V->St->Hp->Prop} {n i:Nat} {ys:List V} {σ:St} {H:Hp} (h:i < n) (p:P (i+1) ys σ H):Nxt P n i ys σ H:=⟨n-(i+1),by omega,rfl,h,p⟩
theorem comp_list {K:W.Frag} {a:Addr} {xs:List V} {g:TG} {tt:TT} {te:TE} {Q:VK} {σ0:St} {H:Hp} (P:Nat->List V->St->Hp->Prop) (h0:P 0 [] σ0 H) (hl:∀ i ys σ H,i <= xs.length->P i ys σ H->SqL K H a xs /\ ys.length <= i) (hz:xs.length <= sizeLine)
  (hs:∀ i ys x σ H,i < xs.length->xs[i]?=some x->P i ys σ H->g x σ H fun σ2 H2=>tt σ2 H2 fun b H3=>if b=true then te σ2 H3 fun y H4=>Nxt P xs.length i (ys++[y]) σ2 H4 else Nxt P xs.length i ys σ2 H3)
  (hd:∀ ys σ H,P xs.length ys σ H->∀ p,H p=none->Q (.ref p) (upd H p (.lst ys))) :
  ∃ W:Nat->Nat->List V->St->Hp->Prop,(∃ m,W 0 m [] σ0 H) /\ ∀ i m ys σ H,W i m ys σ H ->
   ((Itl K a).stop i H /\ ys.length <= sizeLine /\ ∀ p,H p=none->Q (.ref p) (upd H p (.lst ys))) ∨
   ((Itl K a).go i H /\ ys.length < sizeLine /\ ∀ x H',(Itl K a).yld i H x H'->g x σ H' fun σ2 H2=>tt σ2 H2 fun b H3=>if b=true then te σ2 H3 fun y H4=>∃ m',m' < m /\ W (i+1) m' (ys++[y]) σ2 H4 else ∃ m',m' < m /\ W (i+1) m' ys σ2 H3):=by
 refine ⟨fun i m ys σ H=>m=xs.length-i /\ i <= xs.length /\ P i ys σ H,⟨xs.length,by simp,yAR _,h0⟩,?_⟩
 rintro i m ys σ H ⟨rfl,hi,p⟩
 obtain ⟨q,ly⟩:=hl i ys σ H hi p
 by_cases hlt:i < xs.length
 .refine .inr ⟨⟨xs,xs[i],q,by simp [hlt]⟩,by omega,fun x H' y=>?_⟩
  obtain ⟨e,y⟩:=y
  subst e
  exact hs i ys x σ _ hlt (y xs q) p
 .have e:i=xs.length:=by omega
  subst e
  exact .inl ⟨⟨xs,q,yAA _⟩,by omega,hd ys σ H p⟩
theorem comp_range {lo:Int} {n:Nat} {g:TG} {tt:TT} {te:TE} {Q:VK} {σ0:St} {H:Hp} (P:Nat->List V->St->Hp->Prop) (h0:P 0 [] σ0 H) (hl:∀ i ys σ H,P i ys σ H->ys.length <= i) (hz:n <= sizeLine)
  (hs:∀ i ys σ H,i < n->P i ys σ H->g (.int (lo+i)) σ H fun σ2 H2=>tt σ2 H2 fun b H3=>if b=true then te σ2 H3 fun y H4=>Nxt P n i (ys++[y]) σ2 H4 else Nxt P n i ys σ2 H3)
  (hd:∀ ys σ H,P n ys σ H->∀ p,H p=none->Q (.ref p) (upd H p (.lst ys))) :
  ∃ W:Nat->Nat->List V->St->Hp->Prop,(∃ m,W 0 m [] σ0 H) /\ ∀ i m ys σ H,W i m ys σ H ->
   ((Itr lo n).stop i H /\ ys.length <= sizeLine /\ ∀ p,H p=none->Q (.ref p) (upd H p (.lst ys))) ∨
   ((Itr lo n).go i H /\ ys.length < sizeLine /\ ∀ x H',(Itr lo n).yld i H x H'->g x σ H' fun σ2 H2=>tt σ2 H2 fun b H3=>if b=true then te σ2 H3 fun y H4=>∃ m',m' < m /\ W (i+1) m' (ys++[y]) σ2 H4 else ∃ m',m' < m /\ W (i+1) m' ys σ2 H3):=by
 refine ⟨fun i m ys σ H=>m=n-i /\ i <= n /\ P i ys σ H,⟨n,by simp,yAR _,h0⟩,?_⟩
 rintro i m ys σ H ⟨rfl,hi,p⟩
 have ly:=hl i ys σ H p
 by_cases hlt:i < n
 .refine .inr ⟨hlt,by omega,fun x H' y=>?_⟩
  obtain ⟨e,y⟩:=y
  subst e y
  exact hs i ys σ _ hlt p
 .have e:i=n:=by omega
  subst e
  exact .inl ⟨yAA _,by omega,hd ys σ H p⟩
theorem Same.upd {H H':Hp} {p:Addr} {o:HO} (e:Same H H') (h:H p=none):Same H (upd H' p o):=fun b u q=>by rw [ZAH (ZAG q h)];exact e b u q
theorem Same.new {H H':Hp} {p:Addr} {o:HO} (e:Same H H') (h:H' p=none):Same H (L2.upd H' p o):=e.upd (e.free h)
theorem ZCI {K:W.Frag} {t:Value} (h:(t == t)=true):PySem.W.kitOne K t t=some true:=by unfold PySem.W.kitOne;rw [if_pos h]
theorem cutV_ints (ns:List Int) (lo hi:Option Int):cutV (ns.map V.int) lo hi=(((ns.drop (HT.sIx ns.length 0 lo)).take (HT.sIx ns.length ns.length hi-HT.sIx ns.length 0 lo)).map V.int):=by
 unfold cutV
 rw [yAB,List.map_take,List.map_drop]
theorem ZCL {ns:List Int} {i:Nat} {x:V} (h:(ns.map V.int)[i]?=some x):∃ n,ns[i]?=some n /\ x=.int n:=by
 rw [yAM] at h
 cases e:ns[i]? with
 | none=>rw [e] at h;cases h
 | some n=>rw [e] at h;exact ⟨n,rfl,(Option.some.inj h).symm⟩
theorem slL_of {K:W.Frag} {a:Addr} {xs:List V} {lo hi:Option Int} {H:Hp} {Q:VK} (h:SqL K H a xs) (q:∀ p,H p=none->Q (.ref p) (upd H p (.lst (cutV xs lo hi)))):rSlL K (.ref a) lo hi H Q:=⟨a,xs,rfl,h,q⟩
noncomputable def forL (K:W.Frag) (g:TG) (tb:TS) (D:Ends) (σ:St) (x:V) (H1:Hp):Prop:=∃ a,x=.ref a /\ (∃ xs,SqL K H1 a xs) /\ ∃ W:Nat->Nat->St->Hp->Prop,(∃ m,W 0 m σ H1) /\ ∀ i m σ H,W i m σ H ->
 ((Itl K a).stop i H /\ D.nx σ H)∨((Itl K a).go i H /\ ∃ N:St->Hp->Prop,(∀ σ' H',N σ' H'->∃ m',m' < m /\ W (i+1) m' σ' H') /\ ∀ x H',(Itl K a).yld i H x H'->g x σ H' fun σ2 H2=>tb { D with nx:=N,ct:=N,bk:=D.nx } σ2 H2)
theorem tForL_eq {K:W.Frag} {tl:TE} {g:TG} {tb:TS} {D:Ends} {σ:St} {H:Hp}:tFor (ZDE K tl) g tb D σ H=tl σ H (fun x H1=>forL K g tb D σ x H1):=rfl
theorem forL_of {K:W.Frag} {g:TG} {tb:TS} {D:Ends} {σ:St} {H:Hp} {a:Addr} {xs:List V} (h:SqL K H a xs) (Pv:Nat->St->Hp->Prop) (h0:Pv 0 σ H) (hl:∀ i σ H,i <= xs.length->Pv i σ H->SqL K H a xs)
  (hs:∀ i x σ H,xs[i]?=some x->Pv i σ H->g x σ H fun σ2 H2=>tb { D with nx:=Pv (i+1),ct:=Pv (i+1),bk:=D.nx } σ2 H2) (hd:∀ σ H,Pv xs.length σ H->D.nx σ H):forL K g tb D σ (.ref a) H :=
 ⟨a,rfl,⟨xs,h⟩,for_list Pv h0 hl hs hd⟩
noncomputable def forR (lo:Int) (g:TG) (tb:TS) (D:Ends) (σ:St) (n:Nat) (H1:Hp):Prop:=∃ W:Nat->Nat->St->Hp->Prop,(∃ m,W 0 m σ H1) /\ ∀ i m σ H,W i m σ H ->
 ((Itr lo n).stop i H /\ D.nx σ H)∨((Itr lo n).go i H /\ ∃ N:St->Hp->Prop,(∀ σ' H',N σ' H'->∃ m',m' < m /\ W (i+1) m' σ' H') /\ ∀ x H',(Itr lo n).yld i H x H'->g x σ H' fun σ2 H2=>tb { D with nx:=N,ct:=N,bk:=D.nx } σ2 H2)
noncomputable def forR1 (g:TG) (tb:TS) (D:Ends) (σ:St) (x:V) (H1:Hp):Prop:=∃ j:Int,[x]=[.int j] /\ -(2 ^ 62) <= j /\ j < 2 ^ 62 /\ forR 0 g tb D σ j.toNat H1
noncomputable def forR2 (g:TG) (tb:TS) (D:Ends) (σ:St) (x y:V) (H1:Hp):Prop:=∃ i j:Int,[x,y]=[.int i,.int j] /\ (-(2 ^ 62) <= i /\ i < 2 ^ 62 /\ -(2 ^ 62) <= j /\ j < 2 ^ 62) /\ forR i g tb D σ (j-i).toNat H1
theorem tForR1_eq {t:TE} {g:TG} {tb:TS} {D:Ends} {σ:St} {H:Hp}:tFor (ZDD (ZAs t tNil)) g tb D σ H=t σ H (fun x H1=>forR1 g tb D σ x H1):=rfl
theorem tForR2_eq {t u:TE} {g:TG} {tb:TS} {D:Ends} {σ:St} {H:Hp}:tFor (iRng2 (ZAs t (ZAs u tNil))) g tb D σ H=t σ H (fun x H1=>u σ H1 fun y H2=>forR2 g tb D σ x y H2):=rfl
theorem forR_of {lo:Int} {n:Nat} {g:TG} {tb:TS} {D:Ends} {σ:St} {H:Hp} (Pv:Nat->St->Hp->Prop) (h0:Pv 0 σ H)
  (hs:∀ i σ H,i < n->Pv i σ H->g (.int (lo+i)) σ H fun σ2 H2=>tb { D with nx:=Pv (i+1),ct:=Pv (i+1),bk:=D.nx } σ2 H2) (hd:∀ σ H,Pv n σ H->D.nx σ H):forR lo g tb D σ n H:=for_range Pv h0 hs hd
noncomputable def ZDH (K:W.Frag) (g:TG) (tt:TT) (te:TE) (σ0:St) (Q:VK) (x:V) (H1:Hp):Prop:=∃ a,x=.ref a /\ (∃ xs,SqL K H1 a xs) /\ ∃ W:Nat->Nat->List V->St->Hp->Prop,(∃ m,W 0 m [] σ0 H1) /\ ∀ i m ys σ H,W i m ys σ H ->
 ((Itl K a).stop i H /\ ys.length <= sizeLine /\ ∀ p,H p=none->Q (.ref p) (upd H p (.lst ys))) ∨
 ((Itl K a).go i H /\ ys.length < sizeLine /\ ∀ x H',(Itl K a).yld i H x H'->g x σ H' fun σ2 H2=>tt σ2 H2 fun b H3=>if b=true then te σ2 H3 fun y H4=>∃ m',m' < m /\ W (i+1) m' (ys++[y]) σ2 H4 else ∃ m',m' < m /\ W (i+1) m' ys σ2 H3)
theorem tCompL_eq {k:Nat} {js:List Nat} {K:W.Frag} {tl:TE} {g:TG} {tt:TT} {te:TE} {σ:St} {H:Hp} {Q:VK}:ZB3 k js (ZDE K tl) g tt te σ H Q=tl σ H (fun x H1=>ZDH K g tt te (up k js σ) Q x H1):=rfl
theorem ZCN {K:W.Frag} {a:Addr} {xs:List V} {g:TG} {tt:TT} {te:TE} {Q:VK} {σ0:St} {H:Hp} (h:SqL K H a xs) (hz:xs.length <= 1000) (P:Nat->List V->St->Hp->Prop) (h0:P 0 [] σ0 H) (hl:∀ i ys σ H,i <= xs.length->P i ys σ H->SqL K H a xs /\ ys.length <= i)
  (hs:∀ i ys x σ H,i < xs.length->xs[i]?=some x->P i ys σ H->g x σ H fun σ2 H2=>tt σ2 H2 fun b H3=>if b=true then te σ2 H3 fun y H4=>Nxt P xs.length i (ys++[y]) σ2 H4 else Nxt P xs.length i ys σ2 H3)
  (hd:∀ ys σ H,P xs.length ys σ H->∀ p,H p=none->Q (.ref p) (upd H p (.lst ys))):ZDH K g tt te σ0 Q (.ref a) H:=⟨a,rfl,⟨xs,h⟩,comp_list P h0 hl (ZAV hz) hs hd⟩
noncomputable def compR (lo:Int) (g:TG) (tt:TT) (te:TE) (σ0:St) (Q:VK) (n:Nat) (H1:Hp):Prop:=∃ W:Nat->Nat->List V->St->Hp->Prop,(∃ m,W 0 m [] σ0 H1) /\ ∀ i m ys σ H,W i m ys σ H ->
 ((Itr lo n).stop i H /\ ys.length <= sizeLine /\ ∀ p,H p=none->Q (.ref p) (upd H p (.lst ys))) ∨
 ((Itr lo n).go i H /\ ys.length < sizeLine /\ ∀ x H',(Itr lo n).yld i H x H'->g x σ H' fun σ2 H2=>tt σ2 H2 fun b H3=>if b=true then te σ2 H3 fun y H4=>∃ m',m' < m /\ W (i+1) m' (ys++[y]) σ2 H4 else ∃ m',m' < m /\ W (i+1) m' ys σ2 H3)
noncomputable def compR1 (g:TG) (tt:TT) (te:TE) (σ0:St) (Q:VK) (x:V) (H1:Hp):Prop:=∃ j:Int,[x]=[.int j] /\ -(2 ^ 62) <= j /\ j < 2 ^ 62 /\ compR 0 g tt te σ0 Q j.toNat H1
theorem tCompR1_eq {k:Nat} {js:List Nat} {t:TE} {g:TG} {tt:TT} {te:TE} {σ:St} {H:Hp} {Q:VK}:ZB3 k js (ZDD (ZAs t tNil)) g tt te σ H Q=t σ H (fun x H1=>compR1 g tt te (up k js σ) Q x H1):=rfl
theorem compR1_of {j:Int} {g:TG} {tt:TT} {te:TE} {Q:VK} {σ0:St} {H:Hp} (h:-1000 <= j /\ j <= 1000) (P:Nat->List V->St->Hp->Prop) (h0:P 0 [] σ0 H) (hl:∀ i ys σ H,P i ys σ H->ys.length <= i)
  (hs:∀ i ys σ H,i < j.toNat->P i ys σ H->g (.int (0+i)) σ H fun σ2 H2=>tt σ2 H2 fun b H3=>if b=true then te σ2 H3 fun y H4=>Nxt P j.toNat i (ys++[y]) σ2 H4 else Nxt P j.toNat i ys σ2 H3)
  (hd:∀ ys σ H,P j.toNat ys σ H->∀ p,H p=none->Q (.ref p) (upd H p (.lst ys))):compR1 g tt te σ0 Q (.int j) H:=⟨j,rfl,by omega,by omega,comp_range P h0 hl (ZAV (by omega)) hs hd⟩
section
variable {X:Cx}
end
theorem gCons_eq {t:TG} {u:TGs} {v:V} {r:List V} {σ:St} {H:Hp} {Q:St->Hp->Prop}:ZDG t u (v::r) σ H Q=t v σ H (fun σ' H'=>u r σ' H' Q):=by
 apply propext;unfold ZDG;constructor
 .rintro ⟨v',r',e,q⟩;cases e;exact q
 .exact fun q=>⟨v,r,rfl,q⟩
theorem gNil_eq {σ:St} {H:Hp} {Q:St->Hp->Prop}:gNil [] σ H Q=Q σ H:=by
 apply propext;unfold gNil;simp
theorem ZBz {K:W.Frag} {n:Nat} {t:TGs} {a:Addr} {xs:List V} {σ:St} {H:Hp} {Q:St->Hp->Prop} (h:SqT K H a xs) (l:xs.length=n) (q:t xs σ H Q):gTup K n t (.ref a) σ H Q:=⟨a,xs,rfl,h,l,q⟩
section
variable {X:Cx} {tg l e o:Expr} {es:List Expr} {tl te to:TE} {t:TA} {pos apos cpos:Pos} {f:Str}
end
section
variable {X:Cx}
theorem tAug_eq {i:Nat} {te:TE} {ti:TIp} {D:Ends} {σ:St} {H:Hp}:tAug i te ti D σ H=tVar i σ H (fun x H0=>te σ H0 fun y H1=>ti x y H1 fun z H2=>D.nx (σ.set i (some z)) H2):=rfl
theorem ipI_int {f:Int->Int->Int} {i j:Int} {H:Hp} {Q:VK}:ipI f (.int i) (.int j) H Q=Q (.int (f i j)) H:=by
 refine propext ⟨?_,fun q=>⟨i,j,rfl,rfl,q⟩⟩
 rintro ⟨a,b,e1,e2,q⟩
 cases e1;cases e2;exact q
theorem cx_K {CX:CXT} {P:Program} {w:World} {K:W.Frag} {mg:Str->Option Value} {base:Heap} {N:List Str} {qual:Str} {scope:Scope} {f:Addr} {cd:Value} {A:Around} {outer:List Env} {s:Shared} {H:Hp} {E:XK}:(cxOf CX P w K mg base N qual scope f cd A outer s H E).K=K:=rfl
end
structure Enc {α:Type} [DecidableEq α] (e:α->PyData) (n:Nat):Prop where
 eq:∀ a b,PyData.eqv (e a) (e b)=decide (a=b)
 lay:∀ a,(e a).canLay0=true
 dep:∀ a,(e a).depth <= n
theorem Enc.bl:Enc PyData.bool 0:=⟨fun a b=>by unfold PyData.eqv;rw [yBE];simp,fun a=>by unfold PyData.canLay0;rfl,fun a=>by unfold PyData.depth;exact yAA _⟩
section
variable {α β γ:Type} [DecidableEq α] [DecidableEq β] [DecidableEq γ] {e:α->PyData} {f:β->PyData} {g:γ->PyData} {n m k:Nat}
theorem Enc.all (h:Enc e n):∀ xs ys:List α,PyData.eqvAll (xs.map e) (ys.map e)=decide (xs=ys)
 | [],[]=>by simp [PyData.eqvAll]
 | x::xs,[]=>by simp [PyData.eqvAll]
 | [],y::ys=>by simp [PyData.eqvAll]
 | x::xs,y::ys=>by
  rw [yAY,yAY]
  unfold PyData.eqvAll
  rw [h.eq,h.all xs ys,<- Bool.decide_and]
  exact decide_eq_decide.mpr (by rw [List.cons.injEq])
theorem Enc.layAll (h:Enc e n):∀ xs:List α,PyData.canLayAll0 (xs.map e)=true
 | []=>by simp [PyData.canLayAll0]
 | x::xs=>by rw [yAY];unfold PyData.canLayAll0;rw [h.lay,h.layAll xs];rfl
theorem Enc.depAll (h:Enc e n):∀ xs:List α,PyData.depthAll (xs.map e) <= n
 | []=>by simp [PyData.depthAll]
 | x::xs=>by
  rw [yAY];unfold PyData.depthAll
  have a:=h.dep x
  have b:=h.depAll xs
  omega
theorem Enc.list (h:Enc e n):Enc (fun xs:List α=>PyData.list (xs.map e)) (n+1) :=
 ⟨fun a b=>by unfold PyData.eqv;exact h.all a b,fun a=>by unfold PyData.canLay0;exact h.layAll a,fun a=>by unfold PyData.depth;have:=h.depAll a;omega⟩
theorem eqD_of {K:W.Frag} {H:Hp} {x y:V} {a b:α} {Q:VK} (h:Enc e n) (hn:n <= 64) (dx:Dp K H (e a) x) (dy:Dp K H (e b) y) (q:Q (.bl (decide (a=b))) H):rEqD K x y H Q :=
 ⟨_,_,dx,dy,h.lay a,h.lay b,yAC (h.dep a) hn,by rw [h.eq];exact q⟩
end
section
variable {K:W.Frag} {H:Hp} {R:Bool->Prop}
theorem ZCK {x c:V} {ty:Value} {b:Bool} (hc:ZBy c=true) (t:TyOf K H x ty) (k:PySem.W.kitOne K ty (cval c)=some b) (q:R b):∃ x' c' ty b,[x,c]=[x',c'] /\ ZBy c'=true /\ TyOf K H x' ty /\ PySem.W.kitOne K ty (cval c')=some b /\ R b:=⟨x,c,ty,b,rfl,hc,t,k,q⟩
theorem inst_int {i:Int} (q:R true):∃ x' c' ty b,[V.int i,V.ty "int"]=[x',c'] /\ ZBy c'=true /\ TyOf K H x' ty /\ PySem.W.kitOne K ty (cval c')=some b /\ R b:=ZCK rfl (.int i) (ZCI rfl) q
theorem inst_int_bl {i:Int} (k:PySem.W.kitOne K (.type "int") (.type "bool")=some false) (q:R false):∃ x' c' ty b,[V.int i,V.ty "bool"]=[x',c'] /\ ZBy c'=true /\ TyOf K H x' ty /\ PySem.W.kitOne K ty (cval c')=some b /\ R b:=ZCK rfl (.int i) k q
theorem inst_lst {a:Addr} {xs:List V} (h:H a=some (.lst xs)) (q:R true):∃ x' c' ty b,[V.ref a,V.ty "list"]=[x',c'] /\ ZBy c'=true /\ TyOf K H x' ty /\ PySem.W.kitOne K ty (cval c')=some b /\ R b:=ZCK rfl (.lst h) (ZCI rfl) q
theorem inst_tup {a:Addr} {xs:List V} (h:H a=some (.tup xs)) (q:R true):∃ x' c' ty b,[V.ref a,V.ty "tuple"]=[x',c'] /\ ZBy c'=true /\ TyOf K H x' ty /\ PySem.W.kitOne K ty (cval c')=some b /\ R b:=ZCK rfl (.tup h) (ZCI rfl) q
end
section
variable {P:Program} {w:World} {K:W.Frag} {mg:Str->Option Value} {base:Heap}
end
section
variable {X:Cx} {CX:CXT} {k:Nat} {ps:List Str} {sp:Sp} {dvs:List V} {E:XK} {x m:Str} {C:Addr} {p pos apos:Pos} {e o:Expr} {es:List Expr} {ta:TE} {t:TA}
end
section
variable {X:Cx}
theorem all_range {bs:List Bool}:(List.range bs.length).all (fun i=>bs.getD i true)=bs.all id:=by
 induction bs with
 | nil=>rfl
 | cons b r ih=>
  rw [yBF,List.range_succ_eq_map,List.all_cons,List.all_map,List.all_cons]
  show (b && (List.range r.length).all fun i=>r.getD i true)=_
  rw [ih]
  rfl
theorem call_all (hc:X.calm=true):ZBX X (.builtin "all") (fun xs H Q=>∃ (p:Addr) (bs:List Bool),xs=[.ref p] /\ SqL X.K H p (bs.map V.bl) /\ Q (.bl (bs.all id)) H):=by
 intro pins s σ H xs us Q I r h
 obtain ⟨p,bs,rfl,hq,q⟩:=h
 obtain ⟨u,rfl,rx⟩:=ZBg r
 cases rx
 obtain ⟨its,r',pl,hz⟩:=I.list hq
 have hlen:=r'.length
 rw [yAB] at hlen
 have hh:X.A.handled=none:=I.ok.hd hc
 have hl:=pl.isList
 have hlt:p < s.heap.objs.size:=by obtain ⟨_,e,_⟩:=hl;exact Heap.lt_size e
 refine call_all_walk (wpAny_pyIter_list hl ⟨s.heap.objs.size,_,_,_,_,_,fun i=>bs.getD i true,rfl,Walks.list (A:=X.A.in1) hh s.heap.objs.size p (yAD hlt) its.toArray,⟨⟨_,Heap.get?_push_size _ rfl,rfl,rfl⟩,hl.push _⟩,?_,fun h' tk hk=>?_⟩)
 .intro i v s' Q' E' hP hQ
  have hP':its[i]?=some v:=by simpa using hP
  have hi:i < its.length:=(yAP.mp hP').1
  obtain ⟨b,hb⟩:∃ b,bs[i]?=some b:=⟨_,yAL (by omega)⟩
  obtain ⟨u,hu,ru⟩:=r'.get (i:=i) (x:=.bl b) (by rw [yAM,hb];rfl)
  rw [hP'] at hu
  cases hu
  cases ru
  have hQ':Q' b s':=by
   have e:bs.getD i true=b:=by rw [List.getD_eq_getElem?_getD,hb];rfl
   rw [<- e];exact hQ
  exact wpAny_truthy_bool hQ'
 .refine ⟨.bl (bs.all id),H,I.kept (t':=tk) (fun b o e=>hk b o ?_ (Heap.get?_push_of_some _ e)),?_,q⟩
  .intro z
   have:b=s.heap.objs.size:=by simpa using z
   exact absurd (Heap.lt_size e) (by rw [this];exact yAW _)
  .have:its.toArray.size=bs.length:=by simp [hlen]
   rw [this,all_range]
   rfl
end
theorem Same.get {H H':Hp} {b:Addr} {o:HO} (s:Same H H') (h:H b=some o):H' b=some o:=s b o h
theorem newH {H:Hp} {p:Addr} (h:H p=none) (o:HO):∃ H',upd H p o=H' /\ Same H H' /\ H' p=some o:=⟨_,rfl,ZAQ h o,ZAI⟩
section
variable {K:W.Frag} {a:Addr} {xs:List V} {te:TE} {Q:VK} {σ0 rest:St} {H:Hp}
theorem compL_gen (h:SqL K H a xs) (hz:xs.length <= 1000) (e0:σ0=none::rest) (R:V->V->Hp->Prop) (mono:∀ x y H1 H2,Same H1 H2->R x y H1->R x y H2)
  (hs:∀ (i:Nat) x H',xs[i]?=some x->Same H H'->∀ Q':VK,(∀ y H4,Same H' H4->R x y H4->Q' y H4)->te (some x::rest) H' Q')
  (hd:∀ ys H' p,ys.length=xs.length->(∀ (j:Nat) x y,xs[j]?=some x->ys[j]?=some y->R x y H')->Same H H'->H' p=none->Q (.ref p) (upd H' p (.lst ys))):ZDH K (ZCs 0) tYes te σ0 Q (.ref a) H:=by
 subst e0
 refine ZCN h hz (fun i ys σ H'=>∃ v,σ=v::rest /\ Same H H' /\ ys.length=i /\ ∀ (j:Nat) x y,xs[j]?=some x->ys[j]?=some y->R x y H') ⟨_,rfl,.refl _,rfl,fun j x y _ q=>by cases q⟩ ?_ ?_ ?_
 .rintro i ys σ H' _ ⟨v,rfl,e,hl,_⟩
  exact ⟨e.seq h,Nat.le_of_eq hl⟩
 .rintro i ys x σ H' hi hx ⟨v,rfl,e,hl,hR⟩
  show te (some x::rest) H' _
  refine hs i x H' hx e _ fun y H4 q1 q2=>?_
  refine Nxt.of hi ⟨_,rfl,e.trans q1,by rw [yAQ,hl];rfl,fun j x' y' hx' hy'=>?_⟩
  by_cases hj:j < ys.length
  .rw [List.getElem?_append_left hj] at hy'
   exact mono _ _ _ _ q1 (hR j x' y' hx' hy')
  .rw [List.getElem?_append_right (by omega)] at hy'
   have:j-ys.length=0:=by
    rcases Nat.eq_zero_or_pos (j-ys.length) with z | z
    .exact z
    .rw [yBG (show [y].length <= j-ys.length from z)] at hy'
     cases hy'
   rw [this] at hy'
   cases hy'
   rw [show j=i by omega,hx] at hx'
   cases hx'
   exact q2
 .rintro ys σ H' ⟨v,rfl,e,hl,hR⟩ p hp
  exact hd ys H' p hl hR e hp
end
section
variable {X:Cx} {pins:List (Addr×Obj)} {σ:St} {H:Hp} {s:Shared}
theorem Inv.turn2 (I:Inv X pins σ H s) {ch:List Addr} {h':Heap} {p:Addr} {o:HO} {t':Nat} (hf:∀ b∈ch,FpOk X pins H b) (k:∀ b ob,b∉ch->s.heap.get? b=some ob->h'.get? b=some ob)
  (hp:s.heap.objs.size <= p) (new:ObjOk X.prog X.w (upd H p o) h' p o):Inv X pins σ (upd H p o) { s with heap:=h',toks:=t' }:=by
 have hn:H p=none:=I.hok.fresh hp
 have tr:∀ b u,H b=some u->b∉ch:=fun b u e z=>by rw [(hf b z).1] at e;cases e
 refine I.call (g':=s.gens) (t':=t') (d':=s.drawn) (ch:=ch) ⟨fun b ob e n _ hx=>k b ob hx e,fun b ob e n _ hx=>⟨ob.slots,k b ob hx e⟩,fun b ob e n _=>?_,fun b ob e hx=>⟨ob,k b ob hx e⟩,fun b xs e=>?_,fun b ob u e=>?_,fun b qs e=>⟨#[],?_⟩⟩ (fun b u e=>?_) I.bare fun b hb=>?_
 .rw [ZAH (yAD (yAF (Heap.lt_size e) hp))];exact n
 .rw [ZAH (ZAG e hn)];exact e
 .rw [ZAH (ZAG e hn)];exact e
 .rw [ZAH (ZAG e hn),e];simp
 .by_cases hb:b=p
  .subst hb;rw [ZAI] at e;cases e;exact new
  .rw [ZAH hb] at e
   refine (I.hok b u e).stay (fun c v hc q=>k c v ?_ q) (fun c q=>by rw [ZAH (ZAG q hn)];exact q) fun c xs q=>by rw [ZAH (ZAG q hn)];exact q
   rcases hc with z | z
   .rw [z];exact tr b u e
   .exact tr c _ z
 .obtain ⟨a1,a2,a3,a4,a5,a6⟩:=hf b hb
  exact ⟨a4,a2,a5,a6⟩
end
noncomputable def Ite (K:W.Frag) (a:Addr):It :=
 ⟨fun i H=>∃ xs x,SqL K H a xs /\ xs[i]?=some x,fun i H v H'=>∃ p x,H p=none /\ (∀ xs,SqL K H a xs->xs[i]?=some x) /\ H'=upd H p (.tup [.int i,x]) /\ v=.ref p,fun i H=>∃ xs,SqL K H a xs /\ xs.length <= i⟩
theorem turn_enum {P:Program} {w:World} {K:W.Frag} {elts:List Expr} {x1} {tpos:Pos} (a e it:Addr) (hne:e≠it):Turn P w K (.Tuple elts x1 tpos) (Ite K a) [e,it] e (fun i h=>(∃ old,IsEnum h e it ((i:Nat):Int) old) /\ h.IsListIter it a i) where
 mem:=by simp
 obj:=fun i h st b hb=>by
  obtain ⟨⟨old,he⟩,o,e2,c,d⟩:=st
  have hb':b=e∨b=it:=by simpa using hb
  rcases hb' with rfl | rfl
  .exact ⟨_,he,fun v z=>by cases z⟩
  .exact ⟨o,e2,fun v z=>by rw [d] at z;cases z⟩
 keep:=fun i h h' st k=>⟨let ⟨old,he⟩:=st.1;⟨old,k e (by simp) _ he⟩,st.2.at fun o q=>k it (by simp) o q⟩
 item:=by
  intro X hP hw hK hc i pins s σ H E I hf st hg
  subst hP hw hK
  obtain ⟨xs,x,hq,hx⟩:=hg
  obtain ⟨its,rv,p,hz⟩:=I.list hq
  obtain ⟨u,hu,ru⟩:=rv.get hx
  obtain ⟨⟨old,he⟩,hit⟩:=st
  refine wpAny_pyNext_enum_item he hit p.isList (x:=u) (by simpa using hu) hne fun h1 heo hit1 ht1 hz1 hk1=>⟨_,rfl,?_⟩
  refine wpAny_letOwnedTupleGo_enum heo fun h2 he2 hs2=>?_
  replace hs2:Heap.SameBut e h1 h2:=hs2
  have hel:e < s.heap.objs.size:=Heap.lt_size he
  have ht2:h2.get? s.heap.objs.size=some { cls:=.type "tuple",data:=.seq #[.int i s.toks,u] }:=(hs2.2 _ (yBA hel)).trans ht1
  have hnew:H s.heap.objs.size=none:=I.hok.fresh (yAA _)
  refine ⟨.ref s.heap.objs.size,upd H s.heap.objs.size (.tup [.int i,x]),I.turn2 (ch:=[e,it]) (t':=s.toks+1) hf (fun b ob hb q=>?_) (yAA _) ?_,rfl,⟨_,x,hnew,fun ys hy=>by rw [I.list_inj hy hq];exact hx,rfl,rfl⟩,⟨⟨u,?_⟩,?_⟩,fun b hb=>?_⟩
  .have hbe:b≠e:=fun z=>hb (by simp [z])
   have hbi:b≠it:=fun z=>hb (by simp [z])
   exact (hs2.2 b hbe).trans (hk1 b ob hbe hbi q)
  .exact ⟨ZAV (show 2 <= 1000 by decide),[.int i s.toks,u],.cons ⟨_,rfl⟩ (.cons ru .nil),_,ht2,rfl,0,rfl⟩
  .have:((i+1:Nat):Int)=(i:Int)+1:=by push_cast;rfl
   rw [this];exact he2
  .exact hit1.at fun o q=>(hs2.2 it (Ne.symm hne)).trans q
  .have hn:=(hf b hb).1
   have hb':b=e∨b=it:=by simpa using hb
   obtain ⟨oi,hoi,_⟩:=hit
   have hlt:b < s.heap.objs.size:=by
    rcases hb' with rfl | rfl
    .exact hel
    .exact Heap.lt_size hoi
   rw [ZAH (yAD hlt)];exact hn
 done:=by
  intro X hP hw hK hc i pins s σ H E I hf st hg
  subst hP hw hK
  obtain ⟨xs,hq,hx⟩:=hg
  obtain ⟨its,rv,p,hz⟩:=I.list hq
  obtain ⟨⟨old,he⟩,hit⟩:=st
  obtain ⟨f0,f1,f2,f3,f4,f5⟩:=hf it (by simp)
  have hl:=rv.length
  exact wpAny_pyNext_enum_end (I.ok.hd hc) he hit p.isList (by rw [List.getElem?_toArray];exact yBG (by omega)) fun h' eb=>⟨rfl,I.turned (t':=s.toks) (fun b o hb e=>eb b o hb e) f0 f1 f3 f4 f5⟩
 self:=fun _ _ _ _ _ st h=>let ⟨_,he⟩:=st.1;wpAny_pyIter_enum he h
section
variable {X:Cx}
noncomputable def ZDF (K:W.Frag) (ta:TA):TI:=fun σ H R=>ta σ H fun vs H1=>∃ a,vs=[.ref a] /\ (∃ xs,SqL K H1 a xs) /\ R (Ite K a) H1
theorem pi_enum {elts:List Expr} {x1} {tpos:Pos} {l:Expr} {ta:TA} {p pos:Pos} (hg:Gl X "enumerate") (hm:X.mg "enumerate"=none) (ha:PA X [l] ta) (hs:starEach [l] X.env=[(false,eval l X.env)]:=by rfl) :
  PI X (.Tuple elts x1 tpos) (.Call (.Name "enumerate" p) [l] [] pos) (ZDF X.K ta):=by
 intro pins s σ H R I h
 refine Call_ (ZBx I hg hm boot_enumerate (PyProof.Rows.callWith_type1 (thn (ha pos pins s σ H _ I h) fun us s1 zz=>?_) hs rfl))
 obtain ⟨vs,H1,I1,r1,q1⟩:=zz
 obtain ⟨a,e,⟨xs,hq⟩,q⟩:=q1
 subst e
 obtain ⟨u,rfl,ru⟩:=ZBg r1
 cases ru
 obtain ⟨its,rv,pl,hz⟩:=I1.list hq
 refine call_enumerate_list pl.isList fun h' he hit hsz hk=>wpAny_pyIter_enum he ?_
 have I2:Inv X pins σ H1 { s1 with heap:=h' }:=I1.kept (t':=s1.toks) hk
 refine ⟨s1.heap.objs.size+1,[s1.heap.objs.size+1,s1.heap.objs.size],_,Ite X.K a,H1,rfl,I2,turn_enum a _ _ (Nat.succ_ne_self _),⟨⟨_,he⟩,hit⟩,fun b hb=>?_,q⟩
 have hb':b=s1.heap.objs.size+1∨b=s1.heap.objs.size:=by simpa using hb
 have hle:s1.heap.objs.size <= b:=by
  rcases hb' with rfl | rfl
  .exact yAO _
  .exact yAA _
 exact I1.fpOk hle (I1.hok.fresh hle)
end
section
variable {K:W.Frag} {a:Addr} {xs:List V} {g:TG} {tb:TS} {D:Ends} {σ:St} {H:Hp}
noncomputable def forE (K:W.Frag) (g:TG) (tb:TS) (D:Ends) (σ:St) (x:V) (H1:Hp):Prop:=∃ a,[x]=[.ref a] /\ (∃ xs,SqL K H1 a xs) /\ ∃ W:Nat->Nat->St->Hp->Prop,(∃ m,W 0 m σ H1) /\ ∀ i m σ H,W i m σ H ->
 ((Ite K a).stop i H /\ D.nx σ H)∨((Ite K a).go i H /\ ∃ N:St->Hp->Prop,(∀ σ' H',N σ' H'->∃ m',m' < m /\ W (i+1) m' σ' H') /\ ∀ x H',(Ite K a).yld i H x H'->g x σ H' fun σ2 H2=>tb { D with nx:=N,ct:=N,bk:=D.nx } σ2 H2)
theorem tForE_eq {t:TE}:tFor (ZDF K (ZAs t tNil)) g tb D σ H=t σ H (fun x H1=>forE K g tb D σ x H1):=rfl
theorem forE_of (h:SqL K H a xs) (Pv:Nat->St->Hp->Prop) (h0:Pv 0 σ H) (hl:∀ i σ H,i <= xs.length->Pv i σ H->SqL K H a xs)
  (hs:∀ (i:Nat) x σ H p,xs[i]?=some x->Pv i σ H->H p=none->g (.ref p) σ (upd H p (.tup [.int i,x])) fun σ2 H2=>tb { D with nx:=Pv (i+1),ct:=Pv (i+1),bk:=D.nx } σ2 H2) (hd:∀ σ H,Pv xs.length σ H->D.nx σ H):forE K g tb D σ (.ref a) H:=by
 refine ⟨a,rfl,⟨xs,h⟩,fun i m σ H=>m=xs.length-i /\ i <= xs.length /\ Pv i σ H,⟨xs.length,by simp,yAR _,h0⟩,?_⟩
 rintro i m σ H ⟨rfl,hi,p⟩
 have q:=hl i σ H hi p
 by_cases hlt:i < xs.length
 .refine .inr ⟨⟨xs,xs[i],q,by simp [hlt]⟩,Pv (i+1),fun σ' H' p'=>⟨xs.length-(i+1),by omega,rfl,hlt,p'⟩,fun x H' y=>?_⟩
  obtain ⟨pp,x',hn,y,rfl,rfl⟩:=y
  exact hs i x' σ _ pp (y xs q) p hn
 .have e:i=xs.length:=by omega
  subst e
  exact .inl ⟨⟨xs,q,yAA _⟩,hd σ H p⟩
variable {tt:TT} {te:TE} {Q:VK} {σ0:St}
noncomputable def compE (K:W.Frag) (g:TG) (tt:TT) (te:TE) (σ0:St) (Q:VK) (x:V) (H1:Hp):Prop:=∃ a,[x]=[.ref a] /\ (∃ xs,SqL K H1 a xs) /\ ∃ W:Nat->Nat->List V->St->Hp->Prop,(∃ m,W 0 m [] σ0 H1) /\ ∀ i m ys σ H,W i m ys σ H ->
 ((Ite K a).stop i H /\ ys.length <= sizeLine /\ ∀ p,H p=none->Q (.ref p) (upd H p (.lst ys))) ∨
 ((Ite K a).go i H /\ ys.length < sizeLine /\ ∀ x H',(Ite K a).yld i H x H'->g x σ H' fun σ2 H2=>tt σ2 H2 fun b H3=>if b=true then te σ2 H3 fun y H4=>∃ m',m' < m /\ W (i+1) m' (ys++[y]) σ2 H4 else ∃ m',m' < m /\ W (i+1) m' ys σ2 H3)
theorem tCompE_eq {k:Nat} {js:List Nat} {t:TE}:ZB3 k js (ZDF K (ZAs t tNil)) g tt te σ H Q=t σ H (fun x H1=>compE K g tt te (up k js σ) Q x H1):=rfl
end
noncomputable abbrev FZ (o:Obj):HO:=.frz o (.ext fun _=>True)
open Classical in
noncomputable def hid (cl:List (Str×Addr)) (H:Hp):Hp:=fun b=>if ∃ x,cl.lookup x=some b then none else H b
open Classical in
noncomputable def back (cl:List (Str×Addr)) (H H1:Hp):Hp:=fun b=>if ∃ x,cl.lookup x=some b then H b else H1 b
noncomputable def startC (N:List Str) (vs cs:List V):St:=vs.map some++(List.replicate (N.length-vs.length-cs.length) none++cs.map some)
noncomputable def cxClo (P:Program) (w:World) (K:W.Frag) (mg:Str->Option Value) (base:Heap) (N:List Str) (qual:Str) (scope:Scope) (f:Addr) (cd:Value) (cl:List (Str×Addr)) (A:Around) (outer:List Env) (s:Shared) (H:Hp):Cx where
 prog:=P
 w:=w
 K:=K
 mg:=mg
 base:=base
 A:=A.deeper (PySem.W.envX qual scope s.heap.objs.size f cd cl)
 N:=N
 s₀:=s
 H₀:=H
 env:=PySem.W.envX qual scope s.heap.objs.size f cd cl
 outer:=outer
 stack:=PySem.W.envX qual scope s.heap.objs.size f cd cl::outer
 ex:=[]
 calm:=true
 fn:=fun _=>false
 pn:=[]
 xe:=fun _ _=>False
section
variable {P:Program} {w:World} {K:W.Frag} {mg:Str->Option Value} {base:Heap} {A:Around} {outer:List Env} {s:Shared} {H:Hp} {g:Addr} {iname iq:Str} {ip:Arguments} {ib:List Stmt} {isc:Scope} {N ps fr:List Str} {cs vs:List V} {us:List Value} {cl:List (Str×Addr)} {k:Nat}
end
noncomputable def tCallV (r:V->List V->Hp->VK->Prop) (ta:TE) (t:TA):TE:=fun σ H Q=>ta σ H fun f H1=>(∃ g o,f=.ref g /\ H1 g=some (FZ o) /\ ∃ fd,o.data=.func fd) /\ t σ H1 fun vs H2=>r f vs H2 Q
section
variable {X:Cx} {pins:List (Addr×Obj)} {σ:St} {H:Hp} {s:Shared}
end
theorem cx_cloK {P:Program} {w:World} {K:W.Frag} {mg:Str->Option Value} {base:Heap} {N:List Str} {qual:Str} {scope:Scope} {f:Addr} {cd:Value} {cl:List (Str×Addr)} {A:Around} {outer:List Env} {s:Shared} {H:Hp}:(cxClo P w K mg base N qual scope f cd cl A outer s H).K=K:=rfl
section
variable {prog:Program} {w:World} {A:Around} {R:Result->Shared->Prop} {I:Addr} {fp wr:List Addr} {n:Nat} {P:Nat->Value->Prop} {St:Nat->Heap->Prop}
end
section
variable {prog:Program} {w:World} {A:Around} {E:Value->Shared->Prop} {s:Shared} {l:Addr}
end
noncomputable def maxD (d:Int):List Int->Int
 | []=>d
 | x::r=>r.foldl (fun m y=>if m < y then y else m) x
section
variable {X:Cx} {e d:Expr} {te td:TE} {p pos:Pos} {kpos:Pos}
noncomputable def tMaxD (K:W.Frag) (te td:TE):TE:=fun σ H Q=>te σ H fun x H1=>td σ H1 fun y H2=>∃ a ns dd,x=.ref a /\ y=.int dd /\ SqL K H2 a (ns.map V.int) /\ Q (.int (maxD dd ns)) H2
end
theorem lkc {k k':Str} {v:V} {r:List (Str×V)}:List.lookup k ((k',v)::r)=if k=k' then some v else List.lookup k r:=by
 rw [yBB]
 by_cases h:k=k'
 .subst h;simp
 .have:(k == k')=false:=by simpa using h
  rw [this,if_neg h]
section
variable {K:W.Frag} {f:Str} {a C:Addr} {fl:List (Str×V)} {v:V} {H:Hp}
end
noncomputable def augA (K:W.Frag) (tv:TE) (rd:V->V->Hp->VK->Prop) (f:Str) (D:Ends) (σ:St) (x:V) (H1:Hp):Prop:=∃ a C dx fs v,x=.ref a /\ H1 a=some (.ins C dx fs) /\ Cls K C /\ NoAttr K C f /\ fs.lookup f=some v /\
 tv σ H1 fun y H2=>rd v y H2 fun z H3=>∃ dx' fs',H3 a=some (.ins C dx' fs') /\ fs'.length < 1000 /\ D.nx σ (upd H3 a (.ins C dx' (putF f z fs')))
theorem sFldAug_eq {K:W.Frag} {ta tv:TE} {rd:V->V->Hp->VK->Prop} {f:Str} {D:Ends} {σ:St} {H:Hp}:sFldAug K ta tv rd f D σ H=ta σ H (fun x H1=>augA K tv rd f D σ x H1):=rfl
section
variable {X:Cx}
end
end L2
namespace PySem
namespace F
end F
section
variable {prog:Program} {w:World} {A:Around} {s:Shared} {R:Result->Shared->Prop}
variable {I:Addr} {fp wr:List Addr} {G:Array GenState->Array GenState->Prop} {n:Nat} {P:Nat->Value->Prop} {St:Nat->Shared->Prop}
end
section
variable {prog:Program} {w:World} {A:Around} {E:Value->Shared->Prop} {s:Shared}
variable {I:Addr} {fp wr:List Addr} {G:Array GenState->Array GenState->Prop} {n:Nat} {P:Nat->Value->Prop} {St:Nat->Shared->Prop}
end
end PySem
namespace L2
open PySem PySem.Spec PyProof.Rows
noncomputable def tRevL (K:W.Frag) (t:TA):TE:=fun σ H Q=>t σ H fun vs H1=>∃ (l:Addr) (ys:List V),vs=[.ref l] /\ SqL K H1 l ys /\ ∀ r,H1 r=none->Q (.ref r) (upd H1 r (.lst ys.reverse))
section
variable {X:Cx} {e:Expr} {ta:TA} {p p2 pos pos2:Pos}
end
noncomputable def compR2 (g:TG) (tt:TT) (te:TE) (σ0:St) (Q:VK) (x y:V) (H1:Hp):Prop:=∃ i j:Int,[x,y]=[.int i,.int j] /\ (-(2 ^ 62) <= i /\ i < 2 ^ 62 /\ -(2 ^ 62) <= j /\ j < 2 ^ 62) /\ compR i g tt te σ0 Q (j-i).toNat H1
theorem tCompR2_eq {k:Nat} {js:List Nat} {t u:TE} {g:TG} {tt:TT} {te:TE} {σ:St} {H:Hp} {Q:VK}:ZB3 k js (iRng2 (ZAs t (ZAs u tNil))) g tt te σ H Q=t σ H (fun x H1=>u σ H1 fun y H2=>compR2 g tt te (up k js σ) Q x y H2):=rfl
section
variable {X:Cx}
end
noncomputable def Itz (K:W.Frag) (a b:Addr):It :=
 ⟨fun i H=>∃ xs x ys y,SqL K H a xs /\ xs[i]?=some x /\ SqL K H b ys /\ ys[i]?=some y,fun i H v H'=>∃ p x y,H p=none /\ (∀ xs,SqL K H a xs->xs[i]?=some x) /\ (∀ ys,SqL K H b ys->ys[i]?=some y) /\ H'=upd H p (.tup [x,y]) /\ v=.ref p,fun i H=>∃ xs ys,SqL K H a xs /\ SqL K H b ys /\ (xs.length <= i∨ys.length <= i)⟩
section
variable {X:Cx}
noncomputable def iZip (K:W.Frag) (ta:TA):TI:=fun σ H R=>ta σ H fun vs H1=>∃ a b,vs=[.ref a,.ref b] /\ (∃ xs,SqL K H1 a xs) /\ (∃ xs,SqL K H1 b xs) /\ R (Itz K a b) H1
end
section
variable {K:W.Frag} {a b:Addr} {xs ys:List V} {g:TG} {tb:TS} {D:Ends} {σ:St} {H:Hp}
noncomputable def forZ (K:W.Frag) (g:TG) (tb:TS) (D:Ends) (σ:St) (x y:V) (H1:Hp):Prop:=∃ a b,[x,y]=[.ref a,.ref b] /\ (∃ xs,SqL K H1 a xs) /\ (∃ xs,SqL K H1 b xs) /\ ∃ W:Nat->Nat->St->Hp->Prop,(∃ m,W 0 m σ H1) /\ ∀ i m σ H,W i m σ H ->
 ((Itz K a b).stop i H /\ D.nx σ H)∨((Itz K a b).go i H /\ ∃ N:St->Hp->Prop,(∀ σ' H',N σ' H'->∃ m',m' < m /\ W (i+1) m' σ' H') /\ ∀ x H',(Itz K a b).yld i H x H'->g x σ H' fun σ2 H2=>tb { D with nx:=N,ct:=N,bk:=D.nx } σ2 H2)
theorem tForZ_eq {t u:TE}:tFor (iZip K (ZAs t (ZAs u tNil))) g tb D σ H=t σ H (fun x H1=>u σ H1 fun y H2=>forZ K g tb D σ x y H2):=rfl
end
section
open PySem.SeqAt
open PySem.AutoSeq1 (wpAny_loadPart')
open PySem.MeetsSeq PySem.MeetsSeq2 PySem.MeetsSeq3 HT
end
section
variable {prog:Program} {w:World} {A:Around} {E:Value->Shared->Prop} {s:Shared}
end
section
variable {X:Cx}
end
end L2
namespace PySem
open Sem (wp)
theorem ZAq (o : Obj) (f) : (o.mapFields f).dict = o.dict := by
  unfold Obj.mapFields
  split <;> rfl
structure Kpo (o o' : Obj) : Prop where
  fr : o'.isFreed = o.isFreed
  di : o'.dict = o.dict
theorem Kpo.refl (o : Obj) : Kpo o o := ⟨rfl, rfl⟩
theorem Kpo.set (i : Nat) (v : Value) (o : Obj) : Kpo o (o.mapFields (·.setIfInBounds i v)) := by
  unfold Obj.mapFields
  split
  · exact ⟨rfl, rfl⟩
  · exact .refl _
def Kph (h h' : Heap) : Prop := ∀ b o, h.get? b = some o → ∃ u, h'.get? b = some u ∧ Kpo o u
theorem Kph.trans {h h' k : Heap} (x : Kph h h') (y : Kph h' k) : Kph h k := fun b o e => by
  obtain ⟨u, e1, q1⟩ := x b o e
  obtain ⟨w, e2, q2⟩ := y b u e1
  exact ⟨w, e2, q2.fr.trans q1.fr, q2.di.trans q1.di⟩
theorem Kph.upd (h : Heap) (a : Addr) {f : Obj → Obj} (hf : ∀ o, Kpo o (f o)) : Kph h (h.update a f) := fun b o e => by
  by_cases q : a = b
  · subst q
    exact ⟨_, Heap.get?_update_self f e ((hf o).fr.trans (Heap.get?_some_iff.mp e).2), hf o⟩
  · exact ⟨o, (Heap.get?_update_other h f q).trans e, .refl o⟩
inductive Tame {α : Type} : Sem α → Prop
  | pure (a) : Tame (.pure a)
  | no (w) : Tame (.unsupported w)
  | load {a p k} : (∀ o, Tame (k o)) → Tame (.load a p k)
  | upd {a p f k} : (∀ o, Kpo o (f o)) → Tame (k ()) → Tame (.update a p f k)
  | new {o k} : (∀ a, Tame (k a)) → Tame (.alloc o k)
  | stack {k} : (∀ l, Tame (k l)) → Tame (.stack k)
section
variable {α β : Type} {M : Model} {Γ : Ctx} {A : Around} {E : Value → Shared → Prop} {s : Shared}
theorem Tame.wp {t : Sem α} (T : Tame t) {Q : α → Pos → Shared → Prop} {E : Value → Pos → Shared → Prop} {p : Pos} : ∀ {s : Shared}, wp M Γ t Q E p s → wp M Γ t (fun a p z => Q a p z ∧ Kph s.heap z.heap) E p s := by
  have go : ∀ {t : Sem α} {s s1 : Shared}, Kph s.heap s1.heap → (∀ {s : Shared}, Sem.wp M Γ t Q E p s → Sem.wp M Γ t (fun a p z => Q a p z ∧ Kph s.heap z.heap) E p s) → Sem.wp M Γ t Q E p s1 → Sem.wp M Γ t (fun a p z => Q a p z ∧ Kph s.heap z.heap) E p s1 :=
    fun k ih h => Sem.wp_mono M Γ _ (fun _ _ _ z => ⟨z.1, k.trans z.2⟩) (fun _ _ _ z => z) _ _ (ih h)
  induction T with
  | pure => exact fun h => ⟨h, fun b o e => ⟨o, e, .refl o⟩⟩
  | no => exact id
  | load _ ih => exact fun ⟨o, e, h⟩ => ⟨o, e, ih o h⟩
  | upd f _ ih => exact fun ⟨e, h⟩ => ⟨e, go (Kph.upd _ _ f) ih h⟩
  | @new o k _ ih => exact fun {s} h => go (t := k s.heap.objs.size) (s1 := { s with heap := s.heap.push o }) (fun b u e => ⟨u, Heap.get?_push_of_some _ e, .refl u⟩) (ih _) h
  | stack _ ih => exact fun h => ih _ h
theorem Tame.any {t : Sem α} (T : Tame t) {Q : α → Shared → Prop} (h : wpAny M A t Q E s) : wpAny M A t (fun a z => Q a z ∧ Kph s.heap z.heap) E s := fun Γ p hΓ => T.wp (h Γ p hΓ)
theorem Tame.bind {m : Sem α} {f : α → Sem β} (x : Tame m) (y : ∀ a, Tame (f a)) : Tame (m >>= f) := by
  show Tame (m.bind f)
  induction x with
  | pure a => exact y a
  | no w => exact .no w
  | load _ ih => exact .load ih
  | upd h _ ih => exact .upd h ih
  | new _ ih => exact .new ih
  | stack _ ih => exact .stack ih
theorem Tame.ite {c : Prop} [Decidable c] {x y : Sem α} (hx : Tame x) (hy : Tame y) : Tame (if c then x else y) := by split <;> assumption
theorem tame_field (v : Value) (i : Nat) : Tame (field v i) := by
  refine .bind (m := fieldsOf v) ?_ fun a => ?_
  · unfold fieldsOf
    split
    · refine .bind (.load fun o => .pure o) fun o => ?_
      split
      · exact .pure _
      · exact .no _
    · exact .no _
  · split
    · exact .pure _
    · exact .no _
theorem tame_setField (i : Nat) (v x : Value) : Tame (setField v i x) := by
  unfold setField
  split
  · unfold updateField
    refine .bind (.load fun o => .pure o) fun o => ?_
    split
    · exact .ite (.upd (Kpo.set i x) (.pure _)) (.no _)
    · exact .no _
  · exact .no _
theorem tame_ready (l : List Env) : Tame (readyFrames l) := by
  induction l with
  | nil => exact .pure _
  | cons env r ih =>
    unfold readyFrames
    split
    next f hf =>
      refine .bind (.load fun o => .pure o) fun o => .ite (.pure _) (.bind ?_ fun b => .bind ?_ fun c => .bind (.upd (fun o => ⟨by cases o with | mk a b d c => cases d <;> rfl, rfl⟩) (.pure _)) fun _ => ih)
      · unfold behindIsImport
        exact .ite (.pure _) (.ite (.pure _) (.bind (tame_field _ _) fun _ => .pure _))
      · unfold keptBack
        split
        · exact .ite (.pure _) (.bind (.bind (.stack fun l => .pure l) fun _ => .pure _) fun _ => .pure _)
        · exact .pure _
    · exact .no _
theorem tame_note (e : Value) (env : Env) : Tame (noteFrame e env) := by
  unfold noteFrame
  split
  next f hf =>
    have rest : ∀ head b, Tame (do setField e 1 (← EntryCells.newEntry head (← frameOf env) .none (rawInt f) .none (← entryPlaceOf f b))) := fun head b => by
      refine .bind ?_ fun a => .bind ?_ fun pl => .bind ?_ fun n => tame_setField _ _ _
      · unfold frameOf
        refine .bind (.bind (.stack fun l => .pure l) fun _ => .pure _) fun l => .bind ?_ fun o => ?_
        · unfold frameObject
          split
          · exact .pure _
          · exact .bind (tame_ready _) fun _ => .pure _
        · split
          · exact .pure _
          · exact .no _
      · unfold entryPlaceOf
        refine .bind (.stack fun l => .pure l) fun l => ?_
        split <;> exact .pure _
      · unfold EntryCells.newEntry newFields newObj
        exact .ite (.bind (.no _) fun _ => .bind (.new fun a => .pure a) fun a => .pure _) (.bind (.new fun a => .pure a) fun a => .pure _)
    refine .bind (tame_field _ _) fun head => .ite (.bind (tame_field _ _) fun y => .ite (.pure _) (.bind (tame_setField _ _ _) fun _ => rest _ _)) (rest _ _)
  · exact .no _
theorem tame_flight (e : Value) (o : Option Addr) : Tame (setFlight e o) := .bind (tame_field _ _) fun _ => .ite (tame_setField _ _ _) (.pure _)
theorem tame_leaving (env : Env) (e : Value) : Tame (leaving env e) := .bind (tame_note _ _) fun _ => tame_flight _ _
def Heap.Dx (h : Heap) (e : Addr) (d : Option Addr) : Prop := ∃ o, h.get? e = some o ∧ o.dict = d
theorem Heap.Dx.kept {h h' : Heap} {e : Addr} {d : Option Addr} (x : h.Dx e d) (k : Kph h h') : h'.Dx e d := by
  obtain ⟨o, h1, h3⟩ := x
  obtain ⟨u, h5, q⟩ := k e o h1
  exact ⟨u, h5, q.di.trans h3⟩
def Heap.TracedAtD (h base : Heap) (e : Addr) (cls : Value) (a0 : Value × Option Addr) (fl : Value) : Prop := h.TracedAtW base e cls a0.1 fl ∧ h.Dx e a0.2
abbrev Heap.TracedD (h base : Heap) (e : Addr) (cls : Value) (a0 : Value × Option Addr) : Prop := h.TracedAtD base e cls a0 .none
abbrev Heap.FlyD (base : Heap) (l : List Env) (e : Addr) (cls : Value) (a0 : Value × Option Addr) (fl : Value) (h : Heap) : Prop := base.StaysIn h ∧ base.get? e = none ∧ h.FunFrames base l ∧ h.TracedAtD base e cls a0 fl
abbrev Heap.FlyingD (base : Heap) (l : List Env) (e : Addr) (cls : Value) (a0 : Value × Option Addr) (h : Heap) : Prop := Heap.FlyD base l e cls a0 .none h
abbrev Heap.HeldD (base : Heap) (l : List Env) (e : Addr) (cls : Value) (a0 : Value × Option Addr) (L : Addr) (h : Heap) : Prop := Heap.FlyD base l e cls a0 (rawInt L) h
theorem Heap.FlyingD.thereD {base h : Heap} {l : List Env} {e : Addr} {cls : Value} {a0 : Value × Option Addr} (x : Heap.FlyingD base l e cls a0 h) : ∃ ob, h.get? e = some ob ∧ ob.cls = cls ∧ ob.dict = a0.2 ∧ ∃ vs, ob.data = .fields vs := by
  obtain ⟨_, _, _, ⟨oe, vs, _, _, _, he, hc, hd, _⟩, o, h1, h2⟩ := x
  rw [he] at h1
  cases h1
  exact ⟨oe, he, hc.1, h2, vs, hd⟩
theorem Heap.FlyingD.there {base h : Heap} {l : List Env} {e : Addr} {cls : Value} {a0 : Value × Option Addr} (x : Heap.FlyingD base l e cls a0 h) : ∃ ob, h.get? e = some ob ∧ ob.cls = cls :=
  let ⟨ob, h1, h2, _⟩ := Heap.FlyingD.thereD x
  ⟨ob, h1, h2⟩
variable {base : Heap} {env : Env} {l outer : List Env} {L e : Addr} {cls : Value} {a0 : Value × Option Addr} {Q : Unit → Shared → Prop}
theorem Tame.go {t : Sem Unit} (T : Tame t) {P : Heap → Prop} (w : wpAny M A t (fun _ z => ∃ h', z = { s with heap := h' } ∧ P h') E s) (hQ : ∀ h', P h' → Kph s.heap h' → Q () { s with heap := h' }) : wpAny M A t Q E s :=
  wpAny_mono (T.any w) (fun _ _ z => by
    obtain ⟨⟨h', rfl, p⟩, k⟩ := z
    exact hQ h' p k) fun _ _ z => z
theorem wpAny_leaves_onD (hfr : A.frames = some (env :: outer)) (hf : env.frame = some L) (x : Heap.FlyingD base (env :: outer) e cls a0 s.heap) (hQ : ∀ h', Heap.FlyingD base outer e cls a0 h' → s.heap.UpToSlots h' → Q () { s with heap := h' }) : wpAny M A (leaving env (.ref e)) Q E s := by
  obtain ⟨f1, f2, f3, f4, d⟩ := x
  refine (tame_leaving _ _).go (P := fun h' => Heap.FlyingW base outer e cls a0.1 h' ∧ s.heap.UpToSlots h') (wpAny_leaves_onW hfr hf ⟨f1, f2, f3, f4⟩ fun h' y u => ⟨h', rfl, y, u⟩) fun h' ⟨⟨y1, y2, y3, y4⟩, u⟩ k => hQ h' ⟨y1, y2, y3, y4, d.kept k⟩ u
theorem wpAny_looks_onD (hfr : A.frames = some (env :: outer)) (hf : env.frame = some L) (x : Heap.FlyingD base (env :: outer) e cls a0 s.heap) (hQ : ∀ h', Heap.HeldD base (env :: outer) e cls a0 L h' → s.heap.UpToSlots h' → Q () { s with heap := h' }) : wpAny M A (noteFrame (.ref e) env) Q E s := by
  obtain ⟨f1, f2, f3, f4, d⟩ := x
  refine (tame_note _ _).go (P := fun h' => Heap.HeldW base (env :: outer) e cls a0.1 L h' ∧ s.heap.UpToSlots h') (wpAny_looks_onW hfr hf ⟨f1, f2, f3, f4⟩ fun h' y u => ⟨h', rfl, y, u⟩) fun h' ⟨⟨y1, y2, y3, y4⟩, u⟩ k => hQ h' ⟨y1, y2, y3, y4, d.kept k⟩ u
theorem wpAny_noteFrame_againD (hf : env.frame = some L) (x : s.heap.TracedAtD base e cls a0 (rawInt L)) (h : Q () s) : wpAny M A (noteFrame (.ref e) env) Q E s := wpAny_noteFrame_againW hf x.1 h
theorem flightD_ {fl : Value} (o : Option Addr) (f1 : base.StaysIn s.heap) (f3 : s.heap.FunFrames base l) (f4 : s.heap.TracedAtD base e cls a0 fl)
    (hQ : ∀ h', base.StaysIn h' → h'.FunFrames base l → h'.TracedAtD base e cls a0 (o.elim .none fun f => rawInt f) → (∀ b o, s.heap.get? b = some o → (∀ vs, o.data ≠ .fields vs) → h'.get? b = some o) → Q () { s with heap := h' }) : wpAny M A (setFlight (.ref e) o) Q E s := by
  obtain ⟨⟨oe, vs, T, oT, ts, he, hc, hd, h1, hnT, hTe, hT, hdT, h3⟩, d⟩ := f4
  refine (tame_flight _ _).go (P := fun h' => h' = s.heap.update T (Obj.mapFields (·.setIfInBounds 3 (o.elim .none fun f => rawInt f)))) ?_ fun h' z k => ?_
  · refine wpAny_bind (wpAny_field he hd h1 ?_)
    show wpAny M A (setField (.ref T) 3 _) _ E s
    exact wpAny_setField hT hdT (Array.getElem?_eq_some_iff.mp h3).1 ⟨_, rfl, rfl⟩
  · subst z
    have ot : ∀ b u, s.heap.get? b = some u → b ≠ T → (s.heap.update T (Obj.mapFields (·.setIfInBounds 3 (o.elim .none fun f => rawInt f)))).get? b = some u := fun b u h n => (Heap.get?_update_other _ _ (Ne.symm n)).trans h
    have nt : ∀ b u, s.heap.get? b = some u → (∀ vs, u.data ≠ .fields vs) → b ≠ T := fun b u h n z => by
      subst z
      rw [hT] at h
      cases h
      exact n ts hdT
    exact hQ _ (fun b u h => ot b u (f1 b u h) (fun z => by subst z; rw [hnT] at h; cases h)) (f3.of_keeps fun b u h n => ⟨u, ot b u h (nt b u h n), rfl⟩)
      ⟨⟨oe, vs, T, _, _, ot e oe he (Ne.symm hTe), hc, hd, h1, hnT, hTe, Heap.get?_update_self _ hT (Obj.isFreed_of_fields (Obj.data_mapFields hdT _)), Obj.data_mapFields hdT _, by
        have := (Array.getElem?_eq_some_iff.mp h3).1
        simp [this]⟩, d.kept k⟩ fun b u h n => ot b u h (nt b u h n)
theorem wpAny_landsD (hh : Heap.HeldD base l e cls a0 L s.heap) (hQ : ∀ h', Heap.FlyingD base l e cls a0 h' → s.heap.UpToSlots h' → Q () { s with heap := h' }) : wpAny M A (setFlight (.ref e) none) Q E s :=
  flightD_ none hh.1 hh.2.2.1 hh.2.2.2 fun h' k1 k2 k3 k4 => hQ h' ⟨k1, hh.2.1, k2, k3⟩ fun b o y n => ⟨o.slots, k4 b o y n⟩
theorem LANDS2_ (hh : Heap.FlyingD base l e cls a0 s.heap) (hQ : ∀ h', Heap.FlyingD base l e cls a0 h' → s.heap.UpToSlots h' → Q () { s with heap := h' }) : wpAny M A (setFlight (.ref e) none) Q E s :=
  flightD_ none hh.1 hh.2.2.1 hh.2.2.2 fun h' k1 k2 k3 k4 => hQ h' ⟨k1, hh.2.1, k2, k3⟩ fun b o y n => ⟨o.slots, k4 b o y n⟩
theorem wpAny_setFlight_someD {fl : Value} (hkb : base.StaysIn s.heap) (hl : s.heap.FunFrames base l) (ht : s.heap.TracedAtD base e cls a0 fl)
    (h : ∀ h', base.StaysIn h' → h'.FunFrames base l → h'.TracedAtD base e cls a0 (rawInt L) → (∀ b o, s.heap.get? b = some o → (∀ vs, o.data ≠ .fields vs) → h'.get? b = some o) → Q () { s with heap := h' }) : wpAny M A (setFlight (.ref e) (some L)) Q E s := flightD_ (some L) hkb hl ht h
theorem wpAny_leaving_firstD {oe : Obj} {vs : Array Value} (hfr : A.frames = some (env :: outer)) (hl : s.heap.FunFrames base (env :: outer)) (hf : env.frame = some L) (he : s.heap.get? e = some oe) (hkb : base.StaysIn s.heap) (hen : base.get? e = none) (hd : oe.data = .fields vs) (h1 : vs[1]? = some .none)
    (h0 : vs[0]? = some a0.1 ∧ oe.dict = a0.2) (hQ : ∀ h', (base.StaysIn h' ∧ h'.FunFrames base (env :: outer) ∧ h'.TracedD base e oe.cls a0 ∧ s.heap.UpToSlots h') → Q () { s with heap := h' }) : wpAny M A (leaving env (.ref e)) Q E s :=
  (tame_leaving _ _).go (P := fun h' => Heap.LeftW base (env :: outer) e oe.cls a0.1 s.heap h') (wpAny_leaving_firstW hfr hl hf he hkb hen hd h1 h0.1 fun h' y => ⟨h', rfl, y⟩) fun h' ⟨y1, y2, y3, y4⟩ k => hQ h' ⟨y1, y2, ⟨y3, Heap.Dx.kept ⟨oe, he, h0.2⟩ k⟩, y4⟩
theorem wpAny_looks_firstD {oe : Obj} {vs : Array Value} (hfr : A.frames = some (env :: outer)) (hl : s.heap.FunFrames base (env :: outer)) (hf : env.frame = some L) (he : s.heap.get? e = some oe) (hkb : base.StaysIn s.heap) (hen : base.get? e = none) (hd : oe.data = .fields vs) (h1 : vs[1]? = some .none)
    (h0 : vs[0]? = some a0.1 ∧ oe.dict = a0.2) (hQ : ∀ h', Heap.HeldD base (env :: outer) e oe.cls a0 L h' → s.heap.UpToSlots h' → Q () { s with heap := h' }) : wpAny M A (noteFrame (.ref e) env) Q E s := by
  refine (tame_note _ _).go (P := fun h' => Heap.NotedW base (env :: outer) e oe.cls a0.1 (rawInt L) s.heap h') ?_ fun h' ⟨y1, y2, y3, y4⟩ k => hQ h' ⟨y1, hen, y2, y3, Heap.Dx.kept ⟨oe, he, h0.2⟩ k⟩ y4
  unfold noteFrame
  rw [hf]
  exact wpAny_bind (wpAny_field he hd h1 (wpAny_entryW hfr hl hf he hkb hen hd (Array.getElem?_eq_some_iff.mp h1).1 h0.1 fun h' y => ⟨h', rfl, y⟩))
end
end PySem
namespace L2
open PySem PySem.Spec PyProof.Rows
noncomputable def Fly (l:List Env) (H:Hp) (h0:Heap) (e:Addr) (cls:Value) (dd:Option Addr) (h:Heap):Prop :=
 ∃ B a0,Heap.FlyingD B l e cls (a0,dd) h /\ H e=none /\ h0.get? e=none /\ ∀ b o,h.get? b=some o->b∉frs l->(H b≠none∨∃ o0,h0.get? b=some o0)->B.get? b=some o
noncomputable def CXE (P:Program) (w:World):CXT:=fun outer H s E e s'=>
 ∃ ea cls dd H',e=.ref ea /\ s'.os=s.os /\ AllBare s'.gens /\ Un (frs outer) [] H H' s.heap s'.heap /\ HOk P w H' s'.heap /\ Fly outer H' s.heap ea cls dd s'.heap /\ E cls dd H'
theorem passE {P:Program} {w:World} {X:Cx}:ZB2 (CXE P w) X E0:=fun _ _ _ _ _ _ _ z=>by
 obtain ⟨_,_,_,_,_,_,_,_,_,_,h⟩:=z
 exact h.elim
section
variable {P:Program} {w:World} {l:List Env} {H H':Hp} {h h1 h2 B base:Heap}
theorem Un.fly (u:Un (frs l) [] H H' h h1) (hB:∀ b o,h1.get? b=some o->b∉frs l->(H' b≠none∨∃ o0,h.get? b=some o0)->B.get? b=some o) (st:B.StaysIn h2) (up:h1.UpToSlots h2) (hf:h1.FunFrames base l):Un (frs l) [] H H' h h2 where
 keep b o e n hb hx:=st b o (hB b o (u.keep b o e n hb hx) hb (.inr ⟨o,e⟩))
 slot b o e n hb hx:=by
  obtain ⟨sl,e1⟩:=u.slot b o e n hb hx
  obtain ⟨_,o',ho',hd⟩:=hf.mem hb
  rw [e1] at ho'
  cases ho'
  obtain ⟨sl2,e2⟩:=up b _ e1 hd
  exact ⟨sl2,e2⟩
 free:=u.free
 there b o e hx:=by
  obtain ⟨o',e1⟩:=u.there b o e hx
  by_cases hb:b∈frs l
  .obtain ⟨_,o2,ho2,hd⟩:=hf.mem hb
   rw [e1] at ho2
   cases ho2
   obtain ⟨sl,e2⟩:=up b _ e1 hd
   exact ⟨_,e2⟩
  .exact ⟨o',st b o' (hB b o' e1 hb (.inr ⟨o,e⟩))⟩
 tups:=u.tups
 frzs:=u.frzs
 tbls:=u.tbls
theorem HOk.fly (x:HOk P w H' h1) (hB:∀ b o,h1.get? b=some o->b∉frs l->(H' b≠none∨∃ o0,h.get? b=some o0)->B.get? b=some o) (st:B.StaysIn h2) (hn:∀ b∈frs l,H' b=none):HOk P w H' h2:=fun a o e=>by
 have k:∀ b o,H' b=some o->b∉frs l:=fun b o z m=>by rw [hn b m] at z;cases z
 refine (x a o e).stay (fun b v hc q=>?_) (fun _ q=>q) fun _ _ q=>q
 rcases hc with z | z
 .exact st b v (hB b v q (by rw [z];exact k _ _ e) (.inl (by rw [z,e];exact fun y=>nomatch y)))
 .exact st b v (hB b v q (k _ _ z) (.inl (by rw [z];exact fun y=>nomatch y)))
theorem Inv.stkFree2 {X:Cx} {pins:List (Addr×Obj)} {σ:St} {s:Shared} (I:Inv X pins σ H s) (u:Un (frs X.stack) [] H H' s.heap h1):∀ b∈frs X.stack,H' b=none:=fun b hb=>by
 obtain ⟨_,o,ho,_⟩:=I.stack.mem hb
 exact u.free b o ho (I.stkFree b hb) List.not_mem_nil
end
section
variable {P:Program} {w:World} {K:W.Frag} {mg:Str->Option Value} {base:Heap} {N:List Str} {qual:Str} {scope:Scope} {f:Addr} {cd:Value} {A:Around} {outer:List Env} {s:Shared} {H:Hp} {E:XK}
theorem ZC0 {pins:List (Addr×Obj)} {σ:St} {H1 H':Hp} {s1 s2:Shared} {hm h' B B':Heap} {ea:Addr} {cls a0:Value} {dd:Option Addr} (I:Inv (cxOf (CXE P w) P w K mg base N qual scope f cd A outer s H E) pins σ H1 s1)
  (un:Un (frs (cxOf (CXE P w) P w K mg base N qual scope f cd A outer s H E).stack) [] H1 H' s1.heap hm) (hok:HOk P w H' hm)
  (hB:∀ b o,hm.get? b=some o->b∉frs (cxOf (CXE P w) P w K mg base N qual scope f cd A outer s H E).stack->(H' b≠none∨∃ o0,s1.heap.get? b=some o0)->B.get? b=some o)
  (ff:hm.FunFrames B' (cxOf (CXE P w) P w K mg base N qual scope f cd A outer s H E).stack) (up:hm.UpToSlots h') (fl:Heap.FlyingD B outer ea cls (a0,dd) h') (hout:H' ea=none) (hnew:s1.heap.get? ea=none) (os:s2.os=s1.os) (bare:AllBare s2.gens) (hE:E cls dd H') :
  CXE P w outer H s E (.ref ea) { s2 with heap:=h' }:=by
 have fr:=I.stkFree2 un
 have un2:=un.fly hB fl.1 up ff
 have hok2:=hok.fly hB fl.1 fr
 have I2:=I.call' (s':={ s2 with heap:=h' }) os un2 hok2 bare fun b z=>nomatch z
 have old:∀ b o,s.heap.get? b=some o->∃ o1,s1.heap.get? b=some o1:=fun b o q=>I.base.there b o q (fun z=>nomatch z)
 refine ⟨ea,cls,dd,H',rfl,I2.os,bare,I2.base,hok2,⟨B,a0,fl,hout,?_,fun b o ho hb hor=>?_⟩,hE⟩
 .cases q:s.heap.get? ea with
  | none=>rfl
  | some o=>
   obtain ⟨o1,h1⟩:=old ea o q
   rw [hnew] at h1;cases h1
 .have hb2:b∉frs (cxOf (CXE P w) P w K mg base N qual scope f cd A outer s H E).stack:=fun m=>by
   rcases yAG.mp (I2.stkSub b m) with z | z
   .rcases hor with y | ⟨o0,y⟩
    .exact y (by rw [z];exact I2.free)
    .exact absurd (yAF (Heap.lt_size y) I.ok.above) (by rw [z];exact yAW _)
   .exact hb z
  have:∃ o1,hm.get? b=some o1 /\ (H' b≠none∨∃ o0,s1.heap.get? b=some o0):=by
   rcases hor with y | ⟨o0,y⟩
   .obtain ⟨u,hu⟩:=Option.ne_none_iff_exists'.mp y
    have:=(hok b u hu).lt
    cases z:hm.get? b with
    | some o1=>exact ⟨o1,rfl,.inl y⟩
    | none=>
     exfalso
     have st2:=hok b u hu
     cases u with
     | lst xs=>obtain ⟨_,_,_,_,e⟩:=st2;rw [z] at e;cases e
     | tup xs=>obtain ⟨_,_,_,ob,e,_⟩:=st2;rw [z] at e;cases e
     | dK kvs=>obtain ⟨_,_,_,_,ob,es,ep,e,_⟩:=st2;rw [z] at e;cases e
     | dT kvs=>obtain ⟨_,_,_,_,ob,es,ep,e,_⟩:=st2;rw [z] at e;cases e
     | set S n=>obtain ⟨ob,es,ep,t,e,_⟩:=st2;rw [z] at e;cases e
     | ins C dx fs=>obtain ⟨_,_,_,e,_⟩:=st2;rw [z] at e;cases e
     | own y=>obtain ⟨_,e⟩:=st2;rw [z] at e;cases e
     | xd fs=>obtain ⟨_,⟨_,_,_,e,_⟩,_⟩:=st2;rw [z] at e;cases e
     | rng lo hi=>obtain ⟨_,_,_,e⟩:=st2;rw [z] at e;cases e
     | frz ob u=>obtain ⟨e,_⟩:=st2;rw [z] at e;cases e
     | tbl ps=>have e:hm.get? b=some _:=st2;rw [z] at e;cases e
     | met f y=>have e:hm.get? b=some _:=st2;rw [z] at e;cases e
     | ext φ=>obtain ⟨_,⟨_,e⟩,_⟩:=st2;rw [z] at e;cases e
   .obtain ⟨o1,h1⟩:=old b o0 y
    obtain ⟨o2,h2⟩:=un.there b o1 h1 (fun z=>nomatch z)
    exact ⟨o2,h2,.inr ⟨o1,h1⟩⟩
  obtain ⟨o1,q1,q2⟩:=this
  have q3:=hB b o1 q1 hb2 q2
  have q4:=fl.1 b o1 q3
  rw [ho] at q4
  cases q4
  exact q3
theorem raisedD {pins:List (Addr×Obj)} {σ:St} {H1 H2:Hp} {s1 s2:Shared} {ea:Addr} {oe:Obj} {vs:Array Value} {cls a0:Value} {dd:Option Addr} (I:Inv (cxOf (CXE P w) P w K mg base N qual scope f cd A outer s H E) pins σ H1 s1)
  (un:Un (frs (cxOf (CXE P w) P w K mg base N qual scope f cd A outer s H E).stack) [] H1 H2 s1.heap s2.heap) (hok:HOk P w H2 s2.heap) (os:s2.os=s1.os) (bare:AllBare s2.gens) (hnew:s1.heap.get? ea=none) (hout:H2 ea=none)
  (he:s2.heap.get? ea=some oe) (hc:oe.cls=cls) (hd:oe.dict=dd) (hv:oe.data=.fields vs) (h1:vs[1]?=some .none) (h0:vs[0]?=some a0) (hE:E cls dd H2) :
  (cxOf (CXE P w) P w K mg base N qual scope f cd A outer s H E).xe (.ref ea) s2:=by
 have I2:=I.call' (s':=s2) os un hok bare fun b z=>nomatch z
 have hin:∀ env∈(cxOf (CXE P w) P w K mg base N qual scope f cd A outer s H E).stack,∀ b,env.frame=some b->b∈ea::frs (cxOf (CXE P w) P w K mg base N qual scope f cd A outer s H E).stack:=fun env he b hb=>yAJ _ (List.mem_filterMap.mpr ⟨env,he,hb⟩)
 subst hc
 have eh:∀ b∈ea::frs (cxOf (CXE P w) P w K mg base N qual scope f cd A outer s H E).stack,(PySem.W.hideAll s2.heap (ea::frs (cxOf (CXE P w) P w K mg base N qual scope f cd A outer s H E).stack)).get? b=none:=fun b hb=>by
  exact PySem.W.hideAll_none _ hb
 refine wpAny_leaving_firstD (a0:=(a0,dd)) (base:=PySem.W.hideAll s2.heap (ea::frs (cxOf (CXE P w) P w K mg base N qual scope f cd A outer s H E).stack)) I.ok.frames (PySem.W.funFrames_hide I2.stack hin) rfl he (fun b o q=>PySem.W.of_hideAll _ q) (eh ea yAE) hv h1 ⟨h0,hd⟩ fun h' hL=>?_
 obtain ⟨k1,⟨_,_,k2⟩,k3,k4⟩:=hL
 refine ZC0 (s2:=s2) (B:=PySem.W.hideAll s2.heap (ea::frs (cxOf (CXE P w) P w K mg base N qual scope f cd A outer s H E).stack)) I un hok (fun b o q nb hor=>PySem.W.hideAll_get _ q fun z=>?_) I2.stack k4 ⟨k1,eh ea yAE,k2,k3⟩ hout hnew os bare hE
 rcases yAG.mp z with z | z
 .subst z
  rcases hor with y | ⟨o0,y⟩
  .exact y hout
  .rw [hnew] at y;cases y
 .exact nb z
end
open PySem PySem.Spec PySem.W PySem.Calls PyProof.Rows Builtin.Getset_descriptor Builtin.ObjectAttr
structure ExcC (K:W.Frag) (C:Addr):Prop where
 ga:W.findIn K (.ref C) "__getattribute__"=some (some (.builtin "BaseException.__getattribute__"))
 gt:W.findIn K (.ref C) "__getattr__"=some none
 ca:W.findIn K (.ref C) "__class__"=some (some (.builtin "object.__class__"))
 sg:PySem.W.specialIn K (.builtin "object.__class__") "__get__"=some (some (.builtin "getset_descriptor.__get__"))
 tk:PySem.W.takesIn K (.builtin "object.__class__")=some true
 mo:PySem.W.mroIn K C (.type "object")=some true
 mb:PySem.W.mroIn K C (.type "BaseException")=some true
section
variable {prog:Program} {w:World} {A:Around} {E:Value->Shared->Prop} {K:W.Frag} {a C:Addr} {o:Obj} {h:Heap} {g:Array GenState} {d:Drawn} {t:Nat} {os:OsState}
theorem ZCq {M:Model} (hx:h.get? a=some o) (hc:o.cls=.ref C):Looks M h (typeOf (.ref a)) (.ref C):=hc ▸ (Looks.ld hx).andThen .now
theorem exc_get {R:Result->Shared->Prop} (X:K.In h) (F:ExcC K C) (hx:h.get? a=some o) (hc:o.cls=.ref C) (hq:R (.ok (.ret (.ref C))) ⟨h,g,d,t,os⟩) :
  codeAny (model prog w) A (.call (.builtin "getset_descriptor.__get__") ⟨[.builtin "object.__class__",.ref a,.ref C],[]⟩) R ⟨h,g,d,t,os⟩:=by
 have y0:=ZCq (M:=model prog w) hx hc
 have y1:=looks_mroIn (M:=model prog w) X F.mo
 refine codeAny_call_builtin KF.slot_gs.plain KF.entry_gs (KF.slot_gs.check _ _ _ _ _ _ _ _ KF.type_class (KF.args_gs _ _ _) ?_)
 simp only [Builtin.«getset_descriptor.__get__»,descrGet]
 rw [dga_obj]
 refine wpAny_bind (wpAny_pure ?_)
 simp only [descrGetter,descrCheckInstance,descrNameAndClass,isInstance,KF.owner_class]
 repeat lk
 refine ⟨Code.quiet_builtin _ (by decide +kernel),codeAny_builtin KF.entry_class ?_⟩
 simp only [Builtin.«object.__class__»,shownTypeOf]
 repeat lk
 exact hq
theorem exc_ga_check {M:Model} {nameV:Value} {Q:Unit->Shared->Prop} (X:K.In h) (F:ExcC K C) (hx:h.get? a=some o) (hc:o.cls=.ref C) (hq:Q () ⟨h,g,d,t,os⟩) :
  wpAny M A (checkBuiltinCall "BaseException.__getattribute__" ⟨[.ref a,nameV],[]⟩) Q E ⟨h,g,d,t,os⟩:=by
 have y0:=ZCq (M:=M) hx hc
 have y1:=looks_mroIn (M:=M) X F.mb
 have k1:builtinKind "BaseException.__getattribute__"=some .slot:=by decide +kernel
 have k2:splitId "BaseException.__getattribute__"=some ("BaseException","__getattribute__"):=by decide +kernel
 have k3:=PySem.F.args_bexc_ga (.ref a) nameV
 simp only [checkBuiltinCall,k1,k2]
 refine wpAny_bind ?_
 unfold isInstance
 repeat lk
 exact hq
theorem exc_class {Q:Option Value->Shared->Prop} (X:K.In h) (F:ExcC K C) (hx:h.get? a=some o) (hc:o.cls=.ref C) (hq:Q (some (.ref C)) ⟨h,g,d,t+1,os⟩) :
  wpAny (model prog w) A (getAttr? (.ref a) "__class__") Q E ⟨h,g,d,t,os⟩:=by
 have y0:=ZCq (M:=model prog w) hx hc
 have y1:=looks_findIn (M:=model prog w) X F.ga
 have y2:=looks_findIn (M:=model prog w) X F.gt
 have y3:=looks_findIn (M:=model prog w) X F.ca
 have y4:=looks_specialIn (M:=model prog w) X F.sg
 have y5:=looks_takesIn (M:=model prog w) X F.tk
 have bd:=PySem.F.attr_ValueError.ga.bind (.ref a)
 simp only [getAttr?,getAttrBy?,getAttrBy]
 refine wpAny_bind (wpAny_mkText (wpAny_bind (wpAny_attempt (wpAny_holding (wpAny_bind (y0.at (wpAny_bind (y1.at ?_))))))))
 show wpAny _ _ (getAttrByItsOwn _ _ _ _ _ _) _ _ _
 unfold getAttrByItsOwn
 refine wpAny_bind ?_
 show wpAny _ _ (typeLookup (.ref C) "__getattr__") _ _ _
 refine y2.at (wpAny_bind (wpAny_attempt (wpAny_holding ?_)))
 show wpAny _ _ (boundAndCalled _ _ _) _ _ _
 unfold boundAndCalled
 rw [bd]
 refine wpAny_bind (wpAny_pure (wpAny_call (codeAny_call_builtin PySem.F.attr_ValueError.ga.plain PySem.F.entry_bexc_ga (exc_ga_check X F hx hc ?_))))
 unfold Builtin.«object.__getattribute__»
 refine wpAny_bind (wpAny_pure (wpAny_bind (wpAny_pure (wpAny_bind (y0.at (wpAny_bind ?_))))))
 unfold find
 refine wpAny_bind (y3.at (wpAny_bind ?_))
 show wpAny _ _ (specialOf (.builtin "object.__class__") "__get__") _ _ _
 refine y4.at (wpAny_bind ?_)
 unfold dataDescriptor?
 refine wpAny_bind (y5.at ?_)
 rw [if_pos rfl]
 refine wpAny_pure (wpAny_bind (wpAny_rule (wpAny_pure ?_)))
 show wpAny _ _ (holding [_] (call (.builtin "getset_descriptor.__get__") [.builtin "object.__class__",.ref a,.ref C]) >>= ret) _ _ _
 refine wpAny_bind (wpAny_holding (wpAny_call (exc_get X F hx hc ?_)))
 exact wpAny_pure (handed_on rfl (wpAny_pure hq))
theorem kitx_exc {D:Addr} (F:ExcC K D) (hdct:hasDictIn K D=true):KitX K (.ref a) (.ref D) (fun h=>∃ o,h.get? a=some o /\ o.cls=.ref D) where
 ty:=fun _ _ _ ⟨_,h1,h2⟩=>ZCq h1 h2
 it:=fun _ _ X _=>by
  obtain ⟨cdD,hcD,_⟩:=any_some hdct
  unfold clsIn at hcD
  split at hcD
  .rename_i z
   intro A1 Q1 E1 s1 k1 q1
   simp only [isType,loadHead]
   exact wpAny_bind (wpAny_loadPart (k1 _ _ (X _ _ z)) (wpAny_pure q1))
  .cases hcD
 ne:=fun h tp dd its n sl X htp=>by
  obtain ⟨cdD,hcD,_⟩:=any_some hdct
  refine Bool.eq_false_iff.mpr fun q=>?_
  cases Value.ref.inj (beq_iff_eq.mp q)
  unfold clsIn at hcD
  split at hcD
  .rename_i z
   have y:=(X _ _ z).symm.trans htp
   cases y
  .cases hcD
 ca:=fun {_ _ _ _ _ s} X ⟨_,h1,h2⟩ k=>by
  obtain ⟨hh,g,d,t,os⟩:=s
  exact exc_class X F h1 h2 k
end
noncomputable def excO (a:Addr) (cls:Value) (dd:Option Addr):HO:=.ext fun h=>∃ o,h.get? a=some o /\ o.cls=cls /\ o.dict=dd /\ ∃ vs,o.data=.fields vs
section
variable {X:Cx}
theorem call_isExc:ZBX X (.builtin "isinstance") (fun xs H Q=>∃ a C c b dd,xs=[.ref a,c] /\ ZBy c=true /\ H a=some (excO a (.ref C) dd) /\ ExcC X.K C /\ PySem.W.hasDictIn X.K C=true /\ PySem.W.kitOne X.K (.ref C) (cval c)=some b /\ Q (.bl b) H):=by
 intro pins s σ H xs us Q I r h
 obtain ⟨a,C,c,b,dd,rfl,hc,ha,F,hd,e,q⟩:=h
 obtain ⟨u,w',rfl,r1,r2⟩:=ZC1 r
 have e2:w'=cval c:=by
  cases c <;> first | (cases hc;done) | exact r2
 subst e2
 cases (show u=Value.ref a from r1)
 obtain ⟨⟨o,z1,z2,_⟩,_,_⟩:=(show ObjOk X.prog X.w H s.heap a (excO a (.ref C) dd) from I.hok a _ ha)
 have z:∃ o,s.heap.get? a=some o /\ o.cls=.ref C:=⟨o,z1,z2⟩
 exact kia_one (kitx_exc F hd) I.kIn z e (fun z=>nomatch z) fun tk=>⟨.bl b,H,I.tok tk,rfl,q⟩
end
open PySem PySem.Spec PySem.W PySem.Calls PyProof.Rows
theorem boot_ValueError:bootBuiltins "ValueError"=some (.type "ValueError"):=by decide +kernel
theorem ZAe {X:Cx} (K:W.Frag) (h:X.K=K:=by rfl):ZBX X (.builtin "isinstance") (fun xs H Q=>∃ a C c b dd,xs=[.ref a,c] /\ ZBy c=true /\ H a=some (excO a (.ref C) dd) /\ ExcC K C /\ PySem.W.hasDictIn K C=true /\ PySem.W.kitOne K (.ref C) (cval c)=some b /\ Q (.bl b) H):=h ▸ call_isExc
section
variable {X:Cx}
end
abbrev bmV:List Value:=[.type "ValueError",.type "Exception",.type "BaseException",.type "object"]
noncomputable def tRaise (E:XK) (C:Addr):TS:=fun _ _ H=>E (.ref C) none H
section
variable {P:Program} {w:World} {K:W.Frag} {mg:Str->Option Value} {base:Heap} {N:List Str} {qual:Str} {scope:Scope} {f:Addr} {cd:Value} {A:Around} {outer:List Env} {s:Shared} {H:Hp} {E:XK}
theorem Fun.okX {x:Str} {st:Stmt} {fd:FuncData} {ps:List Str} {k:Nat} {sp:Sp} (F:Fun K x qual st f fd) (S:FnScope N ps (ZAD st)) (len:∀ vs H Q E,sp vs H Q E->vs.length=ps.length)
  (hbody:∀ (cdv:Value) (A:Around) (outer:List Env) (s:Shared) (H:Hp) (vs:List V) (Q:VK) (E:XK),Room k (A.deeper (envOfC qual (ZAD st) s.heap.objs.size f cdv))->sp vs H Q E ->
   ∃ t,PSs (cxOf (CXE P w) P w K mg base N qual (ZAD st) f cdv A outer s H E) (ZAW st) t /\ t { nx:=fun _ H'=>Q .non H',rt:=Q } (start N vs) H):FnOk P w K mg base (CXE P w) (k+1) f fd ps sp:=by
 obtain ⟨oc,od,kV,doc,pm,an,cdv,ct,osl,rfl,lk,hcd⟩:=F.ex
 exact fn_of lk hcd S len fun A outer s H vs Q E hr hsp=>hbody cdv A outer s H vs Q E hr hsp
end
theorem PS.nox {X:Cx} {st:Stmt} {t:TS} (h:PS X.nox st t):PS X st t:=fun pins s σ H D I hw=>
 wpAny_mono (h pins s σ H D (I.wish _) hw) (fun _ _ q=>q.unwish) fun _ _ z=>False.elim z
noncomputable def PassesS (CX:CXT) (X:Cx) (E:St->XK):Prop:=∀ (pins:List (Addr×Obj)) (σ:St) (H:Hp) (s:Shared) (e:Value) (s':Shared),Inv X pins σ H s->CX X.stack H s (E σ) e s'->X.xe e s'
noncomputable def ZCt (sp:Sp) (dvs:List V) (E:St->XK) (t:TA):TE:=fun σ H Q=>t σ H fun vs H1=>sp (vs++dvs) H1 Q (E σ)
section
variable {X:Cx} {CX:CXT} {k:Nat} {f:Addr} {fd:FuncData} {ps:List Str} {sp:Sp} {dvs:List V} {ds:List Value} {E:St->XK} {x:Str} {p pos:Pos} {e:Expr} {es:List Expr} {t:TA}
theorem run_fnS {pins:List (Addr×Obj)} {σ:St} {H:Hp} {s:Shared} {Q:VK} {E:XK} {us:List Value} {vs:List V} (F:FnOk X.prog X.w X.K X.mg X.base CX k f fd ps sp) (hr:Room k X.A) (hb:Binds X.K fd ps ds) (hd:Vals dvs ds) (hx:∀ e s',CX X.stack H s E e s'->X.xe e s')
  (I:Inv X pins σ H s) (r:Vals vs us) (h:sp (vs++dvs) H Q E):wpAny (model X.prog X.w) X.A (call (.ref f) us) (EP X pins σ Q) X.xe s:=by
 have r2:Vals (vs++dvs) (us++ds):=r.append hd
 have hl:(us++ds).length=ps.length:=by rw [<- r2.length];exact F.len _ _ _ _ h
 refine wpAny_call (codeAny_mono (F.run X.A X.stack s H ⟨us,[]⟩ (us++ds) (vs++dvs) Q E hr I.env0 (hb s us I.kIn hl) r2 h) fun r s' hq=>?_)
 cases r with
 | error e=>exact hx e s' hq
 | ok fl=>
  cases fl with
  | ret u=>exact I.after hq
  | next=>exact False.elim hq
  | brk=>exact False.elim hq
  | cont=>exact False.elim hq
theorem pe_fnS (F:Fn X.prog X.w X.K X.mg X.base CX x k ps sp) (hr:Room k X.A) (hg:Gl X x) (hx:PassesS CX X E)
  (ha:PA X (e::es) t) (hdb:(x == ("__debug__":Str))=false:=by decide) (he:starEach (e::es) X.env=(false,eval e X.env)::starEach es X.env:=by rfl) (hpl:(backTo pos (starEach es X.env)).any (·.1)=false:=by rfl) :
  PE X (.Call (.Name x p) (e::es) [] pos) (ZCt sp [] E t):=by
 obtain ⟨f,fd,h1,h2,h3,h4⟩:=F.ex
 intro pins s σ H Q I h
 refine wpAny_Call_Name_kw (ZBc I hg h4 ?_ hdb)
 refine PySem.W.callWith_K (h₀:=X.base) I.ok.mod.kin h3 (thn (ha pos pins s σ H _ I h) fun us s1 ⟨vs,H1,I1,r,q⟩=>⟨I1.kIn,?_⟩) he hpl
 exact run_fnS h1 hr h2 .nil (fun e s' z=>hx pins σ H1 s1 e s' I1 z) I1 r q
end
noncomputable abbrev Cx.tries (X:Cx) (pn:List (Addr×Obj)) (xe:Value->Shared->Prop):Cx:={ X with pn:=pn,xe:=xe }
noncomputable abbrev Cx.handles (X:Cx) (e:Addr):Cx:={ X with A:=X.A.mark (some (.ref e)),calm:=false,xe:=fun _ _=>False }
section
variable {X:Cx} {pins pins':List (Addr×Obj)} {σ:St} {H:Hp} {s:Shared} {xe:Value->Shared->Prop} {e:Addr}
theorem Inv.toTry (I:Inv X pins σ H s):Inv (X.tries (X.pn++pins) xe) [] σ H s :=
 ⟨⟨I.ok.mod,I.ok.kind,I.ok.glob,I.ok.blt,I.ok.above,I.ok.inj,I.ok.has,I.ok.cab,I.ok.hd,I.ok.frames,I.ok.stk,I.ok.exf,I.ok.bs,I.ok.bsz,I.ok.noex,I.ok.exfs,I.ok.funs,I.ok.frf⟩,I.os,I.bare,I.base,I.loc,I.cell,I.free,I.freeC,fun p hp=>I.pin p (by simpa using hp),I.hok,I.len⟩
theorem Inv.ofTry (I:Inv (X.tries (X.pn++pins) xe) pins' σ H s):Inv X pins σ H s :=
 ⟨⟨I.ok.mod,I.ok.kind,I.ok.glob,I.ok.blt,I.ok.above,I.ok.inj,I.ok.has,I.ok.cab,I.ok.hd,I.ok.frames,I.ok.stk,I.ok.exf,I.ok.bs,I.ok.bsz,I.ok.noex,I.ok.exfs,I.ok.funs,I.ok.frf⟩,I.os,I.bare,I.base,I.loc,I.cell,I.free,I.freeC,fun p hp=>I.pin p (List.mem_append_left _ hp),I.hok,I.len⟩
theorem Inv.toH (I:Inv X pins σ H s) (e:Addr):Inv (X.handles e) pins σ H s :=
 ⟨⟨I.ok.mod,I.ok.kind,I.ok.glob,I.ok.blt,I.ok.above,I.ok.inj,I.ok.has,I.ok.cab,(fun z=>nomatch z),I.ok.frames,I.ok.stk,I.ok.exf,I.ok.bs,I.ok.bsz,I.ok.noex,I.ok.exfs,I.ok.funs,I.ok.frf⟩,I.os,I.bare,I.base,I.loc,I.cell,I.free,I.freeC,I.pin,I.hok,I.len⟩
theorem Inv.ofH (I:Inv (X.handles e) pins σ H s) (ok:X.Ok):Inv X pins σ H s:=⟨ok,I.os,I.bare,I.base,I.loc,I.cell,I.free,I.freeC,I.pin,I.hok,I.len⟩
theorem SP.ofTry {D:Ends} {f:Flow} (h:SP (X.tries (X.pn++pins) xe) pins' D f s):SP X pins D f s:=by
 cases f with
 | next=>obtain ⟨σ',H',I,q⟩:=h;exact ⟨σ',H',I.ofTry,q⟩
 | brk=>obtain ⟨σ',H',I,q⟩:=h;exact ⟨σ',H',I.ofTry,q⟩
 | cont=>obtain ⟨σ',H',I,q⟩:=h;exact ⟨σ',H',I.ofTry,q⟩
 | ret u=>obtain ⟨v,σ',H',I,r,q⟩:=h;exact ⟨v,σ',H',I.ofTry,r,q⟩
theorem Inv.track {o:HO} (I:Inv X pins σ H s) (h0:X.s₀.heap.get? e=none) (hL:e≠X.env.locals) (hC:∀ x c,X.env.cells.lookup x=some c->c≠e) (hp:∀ p∈X.pn++pins,p.1≠e) (hn:H e=none) (new:ObjOk X.prog X.w (upd H e o) s.heap e o):Inv X pins σ (upd H e o) s:=by
 have k:∀ b u,H b=some u->upd H e o b=some u:=fun b u q=>by rw [ZAH (ZAG q hn)];exact q
 refine ⟨I.ok,I.os,I.bare,⟨I.base.keep,I.base.slot,fun b ob q n hx=>?_,I.base.there,fun b xs q=>k _ _ (I.base.tups b xs q),fun b ob u q=>k _ _ (I.base.frzs b ob u q),fun b ps q=>?_⟩,I.loc,I.cell,?_,fun x c q=>?_,fun p hp'=>?_,fun b u q=>?_,I.len⟩
 .rw [ZAH (fun z=>by rw [z,h0] at q;cases q)]
  exact I.base.free b ob q n hx
 .obtain ⟨m,hm⟩:=I.base.tbls b ps q
  exact ⟨m,k _ _ hm⟩
 .rw [ZAH (Ne.symm hL)];exact I.free
 .rw [ZAH (hC x c q)];exact I.freeC x c q
 .obtain ⟨q1,q2,q3,q4,q5⟩:=I.pin p hp'
  exact ⟨q1,by rw [ZAH (hp p hp')];exact q2,q3,q4,q5⟩
 .by_cases z:b=e
  .subst z
   rw [ZAI] at q
   cases q
   exact new
  .rw [ZAH z] at q
   exact (I.hok b u q).stay (fun _ _ _ y=>y) (fun c y=>k _ _ y) fun c xs y=>k _ _ y
theorem Inv.gone {i t':Nat} {x:Str} {m:Str->Option Value} {v:Option Value} {h':Heap} (I:Inv X pins σ H s) (hN:X.N.Nodup) (hi:X.N[i]?=some x) (hn:s.heap.Ns X.env.locals m) (hn':h'.Ns X.env.locals (fun y=>if y=x then v else m y)) (hs:Heap.SameBut X.env.locals s.heap h') :
  Inv X pins (σ.set i none) H { s with heap:=h',toks:=t' }:=by
 obtain ⟨m0,hn0,hl⟩:=I.loc
 obtain ⟨oL,_,_,hoL,_⟩:=id hn
 have hm:m0=m:=by
  obtain ⟨o1,es1,ep1,ho1,hd1,_,hf1⟩:=hn0
  obtain ⟨o2,es2,ep2,ho2,hd2,_,hf2⟩:=hn
  rw [ho1] at ho2
  cases ho2
  rw [hd1] at hd2
  cases hd2
  funext y
  rw [<- hf1 y,<- hf2 y]
 subst hm
 have nL:∀ b ob,X.s₀.heap.get? b=some ob->b≠X.env.locals:=fun b ob q=>yAD (yAF (Heap.lt_size q) I.ok.above)
 refine ⟨I.ok,I.os,I.bare,⟨fun b o q n hb hx=>(hs.2 b (nL b o q)).trans (I.base.keep b o q n hb hx),fun b o q n hb hx=>?_,I.base.free,fun b o q hx=>?_,I.base.tups,I.base.frzs,I.base.tbls⟩,⟨_,hn',fun j y v' q1 q2 q3=>?_⟩,fun y c q=>?_,I.free,I.freeC,fun p hp=>?_,fun b u q=>?_,by simpa using I.len⟩
 .obtain ⟨sl,q1⟩:=I.base.slot b o q n hb hx
  exact ⟨sl,(hs.2 b (nL b o q)).trans q1⟩
 .obtain ⟨o',q1⟩:=I.base.there b o q hx
  exact ⟨o',(hs.2 b (nL b o q)).trans q1⟩
 .by_cases hj:j=i
  .subst hj
   by_cases hlen:j < σ.length
   .rw [List.getElem?_set_self hlen] at q2;cases q2
   .rw [yBG (by rw [List.length_set];omega)] at q2;cases q2
  .rw [List.getElem?_set_ne (Ne.symm hj)] at q2
   obtain ⟨u',r',q⟩:=hl j y v' q1 q2 q3
   refine ⟨u',r',?_⟩
   rcases q with ⟨k,q⟩ | ⟨k,c,q,z⟩
   .have:y≠x:=fun z=>hj (ZCH hN q1 (z ▸ hi))
    exact .inl ⟨k,by simp [this,q]⟩
   .exact .inr ⟨k,c,q,z.sameBut hs (I.cne y c q)⟩
 .obtain ⟨w',z⟩:=I.cell y c q
  exact ⟨w',z.sameBut hs (I.cne y c q)⟩
 .obtain ⟨q,n,ne,nf,d⟩:=I.pin p hp
  exact ⟨(hs.2 p.1 ne).trans q,n,ne,nf,d⟩
 .refine (I.hok b u q).stay (fun c w' hc z=>(hs.2 c ?_).trans z) (fun _ z=>z) fun _ _ z=>z
  rintro rfl
  rcases hc with y | y
  .rw [<- y,I.free] at q;cases q
  .rw [I.free] at y;cases y
end
noncomputable def Ehit (K:W.Frag) (HC:Addr) (i:Nat) (ts:TS) (D:Ends):St->XK:=fun σ cls dd H'=>exmOne K cls (.ref HC)=some true /\ ∀ ea,H' ea=none ->
 ts { nx:=fun σ' H''=>D.nx (σ'.set i none) H'',rt:=D.rt,bk:=fun σ' H''=>D.bk (σ'.set i none) H'',ct:=fun σ' H''=>D.ct (σ'.set i none) H'' } (σ.set i (some (.ref ea))) (upd H' ea (excO ea cls dd))
noncomputable def tTry (K:W.Frag) (HC:Addr) (i:Nat) (tb:(St->XK)->TS) (ts:TS):TS:=fun D σ H=>tb (Ehit K HC i ts D) D σ H
theorem ps_try {X:Cx} {body suite:List Stmt} {b₀:Stmt} {x n:Str} {i:Nat} {HC:Addr} {np hpos pos:Pos} {tb:(St->XK)->TS} {ts:TS} (hstk:X.stack=X.env::X.outer /\ X.env.frame=some X.env.locals) (hex:X.ex=[]) (hg:Gl X x) (hm:X.mg x=some (.ref HC))
  (hN:X.N.Nodup) (hi:X.N[i]?=some n) (hl:X.env.scope.names.lookup n=some .local)
  (hb:∀ (pn:List (Addr×Obj)) (xe:Value->Shared->Prop) (E:St->XK),PassesS (CXE X.prog X.w) (X.tries pn xe) E->PSs (X.tries pn xe) body (tb E)) (hs:∀ e,PSs (X.handles e) (b₀::suite) ts) (hdb:(x == ("__debug__":Str))=false:=by decide) :
  PS X (.Try body [.ExceptHandler (some (.Name x np)) (some n) (b₀::suite) hpos] [] [] pos) (tTry X.K HC i tb ts):=by
 intro pins s σ H D I hw
 refine wpAny_Try_except ?_
 refine wpAny_mono (hb (X.pn++pins) _ (Ehit X.K HC i ts D) ?_ [] s σ H D I.toTry hw) (fun f s1 q=>?_) fun e s1 q=>q
 .intro pins' σ1 H1 s1 e s2 I1 hc
  obtain ⟨ea,cls,dd,H',rfl,os,bare,un,hok,⟨B,a0,fl,hout,hnew,hB⟩,hmt,hE⟩:=hc
  have J:Inv X pins σ1 H1 s1:=I1.ofTry
  obtain ⟨e1,e2⟩:=hstk
  have un:Un (frs X.stack) [] H1 H' s1.heap s2.heap:=un
  have fr:=J.stkFree2 un
  have af:X.A.frames=some (X.env::X.outer):=by rw [<- e1];exact J.ok.frames
  have fl:Heap.FlyingD B (X.env::X.outer) ea cls (a0,dd) s2.heap:=by rw [<- e1];exact fl
  have ff:s2.heap.FunFrames B X.stack:=by rw [e1];exact fl.2.2.1
  have nx:∀ h5,Heap.FlyingD B (X.env::X.outer) ea cls (a0,dd) h5->s2.heap.UpToSlots h5->Inv X pins σ1 H' { s2 with heap:=h5 }:=fun h5 f5 u5=>J.call' os (un.fly hB f5.1 u5 ff) (hok.fly hB f5.1 fr) bare fun b z=>nomatch z
  refine wpAny_looks_onD af e2 fl fun h3 held up3=>?_
  refine wpAny_landsD held fun h4 fl4 up4=>?_
  have I4:=nx h4 fl4 (up3.trans up4)
  obtain ⟨ob,hob,hcl⟩:=fl4.there
  refine wpAny_handleBy_cons (codeAny_handlers_test ?_) (by intro q;cases q)
  refine ZBc (X:=X.handles ea) (I4.toH ea) hg hm ?_ hdb
  refine (exm_one I4.kIn (hcl ▸ (Looks.ld hob).andThen .now) hmt).here ?_
  refine codeAny_handlers_suite_as ?_
  refine PySem.LANDS2_ fl4 fun h6 fl6 up6=>?_
  have I6:=nx h6 fl6 ((up3.trans up4).trans up6)
  obtain ⟨ob6,hob6,hcl6,hdd6⟩:=fl6.thereD
  refine store_ok2 I6 hN hi (.inl hl) (show RelV (.ref ea) (.ref ea) from rfl) (fun s7 I7 hsb=>?_) (.inr hl)
  have nL:ea≠X.env.locals:=fun z=>by
   obtain ⟨m,⟨o,_,_,ho,_⟩,_⟩:=J.loc
   rw [<- z,hnew] at ho;cases ho
  have nC:∀ x c,X.env.cells.lookup x=some c->c≠ea:=fun x c q z=>by
   obtain ⟨v,o,ho,_⟩:=J.cell x c q
   rw [z,hnew] at ho;cases ho
  have hob7:s7.heap.get? ea=some ob6:=by
   obtain ⟨a,sb,z⟩:=hsb
   refine (sb.2 ea ?_).trans hob6
   rcases z with z | z
   .rw [z];exact nL
   .exact Ne.symm (nC _ _ z)
  have I8:=(I7.track (e:=ea) (o:=excO ea cls dd) (by
   cases q:X.s₀.heap.get? ea with
   | none=>rfl
   | some o=>
    obtain ⟨o1,z⟩:=J.base.there ea o q (by rw [hex];exact List.not_mem_nil)
    rw [hnew] at z;cases z) nL nC (fun p hp z=>by
   have:=(J.pin p hp).1
   rw [z,hnew] at this;cases this) hout ⟨⟨ob6,hob7,hcl6,hdd6⟩,⟨ob6,hob7⟩,fun g1 g2 ⟨o,z1,z2⟩ k=>⟨o,k o z1,z2⟩⟩).toH ea
  refine wpAny_mono (hs ea pins s7 _ _ _ I8 (hE ea hout)) (fun f s8 q8=>?_) fun _ _ z=>z.elim
  have kd:(X.env.scope.kind == .class || (X.env.scope.kind == .module && X.env.locals != X.env.globals))=false:=by rw [J.ok.kind];rfl
  cases f with
  | next=>
   obtain ⟨σ',H'',I',q⟩:=q8
   have I':=I'.ofH J.ok
   obtain ⟨m,hn,_⟩:=I'.loc
   exact wpAny_nameGoes_keeps hl hn kd fun h9 v hn9 sb9=>⟨_,_,I'.gone hN hi hn hn9 sb9,q⟩
  | brk=>
   obtain ⟨σ',H'',I',q⟩:=q8
   have I':=I'.ofH J.ok
   obtain ⟨m,hn,_⟩:=I'.loc
   exact wpAny_nameGoes_keeps hl hn kd fun h9 v hn9 sb9=>⟨_,_,I'.gone hN hi hn hn9 sb9,q⟩
  | cont=>
   obtain ⟨σ',H'',I',q⟩:=q8
   have I':=I'.ofH J.ok
   obtain ⟨m,hn,_⟩:=I'.loc
   exact wpAny_nameGoes_keeps hl hn kd fun h9 v hn9 sb9=>⟨_,_,I'.gone hN hi hn hn9 sb9,q⟩
  | ret u=>
   obtain ⟨v',σ',H'',I',r,q⟩:=q8
   have I':=I'.ofH J.ok
   obtain ⟨m,hn,_⟩:=I'.loc
   exact wpAny_nameGoes_keeps hl hn kd fun h9 v hn9 sb9=>⟨_,_,_,I'.gone hN hi hn hn9 sb9,r,q⟩
 .have q':SP X pins D f s1:=q.ofTry
  cases f with
  | next=>exact wpAny_execs_nil q'
  | brk=>exact q'
  | cont=>exact q'
  | ret u=>exact q'
open PySem PySem.Spec PySem.W PySem.Calls PyProof.Rows Builtin.Getset_descriptor Builtin.ObjectAttr
section
variable {prog:Program} {w:World} {A:Around} {E:Value->Shared->Prop} {K:W.Frag} {a C:Addr} {o:Obj} {h:Heap} {g:Array GenState} {d:Drawn} {t:Nat} {os:OsState}
theorem exc_value {name:Str} {v:Value} {od:Option Obj} {expr:Bool} {Q:Value->Shared->Prop} (X:K.In h) (F:ExcC K C) (I:PySem.W.InstAt h a o C od) (hf:findObj K C od name=some (.value v)) (hv:handedIn v=true) (hq:Q v ⟨h,g,d,t+1,os⟩) :
  wpAny (model prog w) A (getAttr (.ref a) name expr) Q E ⟨h,g,d,t,os⟩:=by
 have y0:=I.type (M:=model prog w)
 have y1:=looks_findIn (M:=model prog w) X F.ga
 have y2:=looks_findIn (M:=model prog w) X F.gt
 have y3:=looks_find (M:=model prog w) X I hf
 have bd:=PySem.F.attr_ValueError.ga.bind (.ref a)
 have hx0:(expr && onTheHeap (Value.builtin "BaseException.__getattribute__"))=false:=by cases expr <;> rfl
 simp only [getAttr,getAttrBy]
 refine wpAny_bind (wpAny_mkText (wpAny_holding (wpAny_bind (y0.at (wpAny_bind (y1.at ?_))))))
 show wpAny _ _ (getAttrByItsOwn _ _ _ _ _ _) _ _ _
 unfold getAttrByItsOwn
 refine wpAny_bind ?_
 show wpAny _ _ (typeLookup (.ref C) "__getattr__") _ _ _
 refine y2.at (wpAny_bind (wpAny_attempt (wpAny_holding ?_)))
 unfold callGetattribute
 rw [hx0]
 show wpAny _ _ (boundAndCalled _ _ _) _ _ _
 unfold boundAndCalled
 rw [bd]
 refine wpAny_bind (wpAny_pure (wpAny_call (codeAny_call_builtin PySem.F.attr_ValueError.ga.plain PySem.F.entry_bexc_ga (exc_ga_check X F I.at_ I.cls ?_))))
 unfold Builtin.«object.__getattribute__»
 refine wpAny_bind (wpAny_pure (wpAny_bind (wpAny_pure (wpAny_bind (y0.at (wpAny_bind (y3.at ?_)))))))
 refine wpAny_pure ?_
 show wpAny _ _ (handedOut v) _ _ _
 rw [handedOut_of hv]
 exact wpAny_pure hq
end
open PySem PySem.Spec PySem.W PySem.Calls PyProof.Rows
section
variable {prog:Program} {w:World} {A:Around} {E:Value->Shared->Prop} {h:Heap} {g:Array GenState} {d:Drawn} {t:Nat} {os:OsState}
variable {nm q:Str} {C N:Addr} {bs bm bmB:List Value} {hdct:Bool} {sn:List Str} {sub:List Value} {ab:Bool} {col:Option Bool} {dd:Option Addr} {k0 k1 k2 k3 k5:Option Value} {B Bn newId nid initId inN:String} {bmN:List Value}
theorem type_call_initU (Fn:ExcBaseFacts Bn newId inN bmN) (hBn:bmB.contains (.type Bn)=true) (F:ExcBaseFacts B nid initId bmB) (T:OwnTail h bmB bm) {mN:Str->Option Value} {rest:List Value} {fI:Addr} {oI:Obj} {Q:Fin->Shared->Prop}
  (hC:h.get? C=some (excClassObj nm q C N bs bm hdct sn sub ab col dd k0 k1 k2 k3 k5 newId)) (hn:h.Ns N mN) (hi:mN "__init__"=some (.ref fI)) (hfI:h.get? fI=some oI) (hfc:oI.cls=.type "function")
  (hq:∀ h' e,Heap.MadeExcOf h h' e (.ref C) rest->e=h.objs.size+1->wpAny (model prog w) A (call (.ref fI) (.ref e::rest)) (fun r s'=>r=.none /\ Q (.done (.ret (.ref e))) s') E ⟨h',g,d,t,os⟩) (hrest:rest.length <= sizeLine:=by size_fits) :
  wpAny (model prog w) A (Builtin.«type.__call__» ⟨.ref C::rest,[]⟩) Q E ⟨h,g,d,t,os⟩:=by
 repeat (first | with_reducible refine wpAny_loadPart_at hC ?_ | with_reducible refine wpAny_madeBy_exc hC ?_ | wp_step)
 refine codeAny_call_builtin_code (Code.quiet_builtin _ Fn.quiet) (wpAny_check_new_subU Fn hBn T hC ?_)
 refine codeAny_exc_new_subU Fn hBn F T hC ?_ hrest
 show wpAny _ _ _ _ _ _
 have kp:∀ b o,h.get? b=some o->((h.push { cls:=.type "tuple",data:=.seq rest.toArray }).push { cls:=.ref C,data:=.fields #[.ref h.objs.size,.none,.none,.none,.bool false,.none] }).get? b=some o:=fun b o e=>Heap.get?_push_of_some _ (Heap.get?_push_of_some _ e)
 have hC₁:=kp _ _ hC
 have hfI₁:=kp _ _ hfI
 have hn₁:=hn.keeps kp
 have hget:((h.push { cls:=.type "tuple",data:=.seq rest.toArray }).push
   { cls:=.ref C,data:=.fields #[.ref h.objs.size,.none,.none,.none,.bool false,.none] }).get? (h.objs.size+1)=some
   { cls:=.ref C,data:=.fields #[.ref h.objs.size,.none,.none,.none,.bool false,.none] }:=by heap_get
 have hcC:(Value.ref C::bm).contains (.ref C)=true:=by simp
 have T₁:=T.keeps kp
 unfold isInstance
 repeat (first | with_reducible refine wpAny_loadPart_at hget ?_ | (with_reducible refine wpAny_isSubtype_exc hC₁ ?_;rw [hcC]) | wp_step)
 show wpAny _ _ (typeLookup (.ref C) _) _ _ _
 refine wpAny_typeLookup_tail hC₁ hn₁ T₁ F.mroIs F.init.lookup ?_
 rw [hi]
 refine wpAny_holding (wpAny_bind ?_)
 unfold bindSpecial
 refine wpAny_bind (wpAny_typeOf (T:="function") ⟨_,hfI₁,hfc⟩ ?_)
 rw [if_pos (by decide)]
 refine wpAny_pure (wpAny_bind (wpAny_mono (hq _ (h.objs.size+1) ⟨kp,Heap.get?_none_of_le (yAO _),h.objs.size,hget,Heap.get?_none_of_le (yAA _),?_⟩ rfl) (fun r s' hr=>?_) fun _ _ x=>x))
 .exact Heap.get?_push_of_some _ (Heap.get?_push_at rfl rfl)
 .obtain ⟨rfl,hQ⟩:=hr
  wp_walk
  exact hQ
theorem call_exc_initU (Fn:ExcBaseFacts Bn newId inN bmN) (hBn:bmB.contains (.type Bn)=true) (F:ExcBaseFacts B nid initId bmB) (T:OwnTail h bmB bm) {mN:Str->Option Value} {rest:List Value} {fI:Addr} {oI:Obj} {Q:Value->Shared->Prop}
  (hC:h.get? C=some (excClassObj nm q C N bs bm hdct sn sub ab col dd k0 k1 k2 k3 k5 newId)) (hn:h.Ns N mN) (hi:mN "__init__"=some (.ref fI)) (hfI:h.get? fI=some oI) (hfc:oI.cls=.type "function")
  (hq:∀ h' e,Heap.MadeExcOf h h' e (.ref C) rest->e=h.objs.size+1->wpAny (model prog w) (A.under (.builtin "type.__call__" ⟨.ref C::rest,[]⟩)) (call (.ref fI) (.ref e::rest)) (fun r s'=>r=.none /\ Q (.ref e) s') E ⟨h',g,d,t,os⟩) (hrest:rest.length <= sizeLine:=by size_fits) :
  wpAny (model prog w) A (call (.ref C) rest) Q E ⟨h,g,d,t,os⟩:=by
 have f1:=tc_lookup
 have f2:=tc_bind (.ref C)
 have hT:(⟨h,g,d,t,os⟩:Shared).TypeIs (.ref C) "type":=⟨_,hC,rfl⟩
 refine wpAny_call (codeAny_of_tree ?_)
 show wpAny _ _ (callAny (.ref C) _) _ _ _
 repeat (any_goals (first | assumption | with_reducible refine wpAny_loadPart_at hC ?_ | wp_step))
 refine ⟨rfl,?_⟩
 refine codeAny_call_builtin_at (Code.quiet_builtin _ (by decide +kernel)) entry_typeCall (wpAny_check_type_call_sub hC (type_call_initU (hrest:=hrest) Fn hBn F T hC hn hi hfI hfc fun h' e hm he=>?_))
 exact hq h' e hm he
end
section
variable {M:Model} {A:Around} {E:Value->Shared->Prop} {env:Env}
variable {nm q:Str} {C N:Addr} {bs bm:List Value} {hdct:Bool} {sn:List Str} {sub:List Value} {ab:Bool} {col:Option Bool} {dd:Option Addr} {k0 k1 k2 k3 k5:Option Value} {newId:String}
theorem raiseStmt_madeD {s:Shared} {x:Sem Value} {Q:Flow->Shared->Prop} (hbase:bm.contains (.type "BaseException")=true) (hh:A.handled=none)
  (h:wpAny M A x (fun v s₁=>∃ e oe vs,v=.ref e /\ s₁.heap.get? C=some (excClassObj nm q C N bs bm hdct sn sub ab col dd k0 k1 k2 k3 k5 newId) /\
   s₁.heap.get? e=some oe /\ oe.cls=.ref C /\ oe.data=.fields vs /\ vs[1]?=some .none /\ E (.ref e) s₁) E s) :
  wpAny M A (raiseStmt env (some x) none) Q E s:=by
 have hcB:(Value.ref C::bm).contains (.type "BaseException")=true:=by rw [List.contains_cons,hbase,Bool.or_true]
 unfold raiseStmt
 refine wpAny_bind (wpAny_mono h (fun v s₁ h₁=>?_) fun _ _ x=>x)
 obtain ⟨e,oe,vs,rfl,hC,he,hc,hd,h1,hE⟩:=h₁
 obtain ⟨oc,od,odt,osl⟩:=oe
 dsimp only at hc hd
 subst hc hd
 obtain ⟨hp,g,d,tk,os⟩:=s₁
 repeat (first | with_reducible refine wpAny_loadPart_at he ?_ | with_reducible refine wpAny_loadPart_at hC ?_ | (with_reducible refine wpAny_isSubtype_exc hC ?_;rw [hcB]) | wp_step)
 rw [h1]
 exact wpAny_pure (by rw [if_neg (by decide)];exact wpAny_pure (wpAny_raiseNew_none hh hE))
end
noncomputable def ZBe (K:W.Frag) (C fI:Addr) (bmB:List Value) (newId:String):Bool:=match K.lookup C with
 | none=>false
 | some o=>match o.data with
  | .cls cd=>o.cls == .type "type" && cd.mro.head? == some (.ref C) && o.slots.size == 6 && o.slots[4]? == some (some (.builtin newId)) && !cd.hasDel && tailIn K bmB cd.mro.tail && nsOkIn K cd.ns && nsIn K cd.ns "__init__" == some (some (.ref fI))
  | _=>false
theorem ns_some_of {K:W.Frag} {h:Heap} {N:Addr} {mg:Str->Option Value} {n:Str} {v:Value} (X:K.In h) (G:h.Ns N mg) (e:W.nsIn K N n=some (some v)):mg n=some v:=by
 obtain ⟨o,es,ep,ho,hd,_,hf⟩:=G
 unfold nsIn at e
 split at e
 .rename_i hl
  rw [X _ _ hl] at ho
  cases ho
  cases hd
  split at e
  .rename_i y he
   rw [<- hf]
   unfold nsFind findBy
   rw [<- Array.find?_toList,he]
   exact (Option.some.inj e)
  .split at e <;> cases e
 .cases e
theorem six_of {α:Type} {l:List α} {x:α} (h:l.length=6) (e:l[4]?=some x):∃ k0 k1 k2 k3 k5,l=[k0,k1,k2,k3,x,k5]:=by
 rcases l with _ | ⟨k0,_ | ⟨k1,_ | ⟨k2,_ | ⟨k3,_ | ⟨k4,_ | ⟨k5,_ | ⟨k6,l⟩⟩⟩⟩⟩⟩⟩
 case cons.cons.cons.cons.cons.cons.nil=>cases e;exact ⟨_,_,_,_,_,rfl⟩
 all_goals simp at h
theorem ZCM {K:W.Frag} {h:Heap} {C fI:Addr} {bmB:List Value} {newId:String} (X:K.In h) (q:ZBe K C fI bmB newId=true):∃ bm N nm qn bs hdct sn sub ab col dd k0 k1 k2 k3 k5 mN,
  h.get? C=some (excClassObj nm qn C N bs bm hdct sn sub ab col dd k0 k1 k2 k3 k5 newId) /\ h.Ns N mN /\ mN "__init__"=some (.ref fI) /\ OwnTail h bmB bm /\ K.lookup C=some (excClassObj nm qn C N bs bm hdct sn sub ab col dd k0 k1 k2 k3 k5 newId):=by
 unfold ZBe at q
 cases ho:K.lookup C with
 | none=>rw [ho] at q;cases q
 | some o=>
  rw [ho] at q
  obtain ⟨oc,dd,dt,⟨sl⟩⟩:=o
  cases dt with
  | cls cd=>
   simp only [yAT,beq_iff_eq,Bool.not_eq_true'] at q
   obtain ⟨⟨⟨⟨⟨⟨⟨y0,y1⟩,y2⟩,y7⟩,y3⟩,y4⟩,y5⟩,y6⟩:=q
   obtain ⟨nm,bs,mro,ns,qn,hd,sn,sub,ab,col,del⟩:=cd
   dsimp only at y0 y1 y3 y4 y5 y6
   subst y0 y3
   obtain ⟨bm,rfl⟩:∃ bm,mro=.ref C::bm:=by
    cases mro with
    | nil=>cases y1
    | cons m bm=>cases y1;exact ⟨bm,rfl⟩
   obtain ⟨k0,k1,k2,k3,k5,rfl⟩:∃ k0 k1 k2 k3 k5,sl=[k0,k1,k2,k3,some (.builtin newId),k5]:=six_of (by simpa using y2) (by simpa using y7)
   have G:h.Ns ns (h.nsMap ns):=.of_isNs (isNs_of_in X y5)
   exact ⟨bm,ns,nm,qn,bs,hd,sn,sub,ab,col,dd,k0,k1,k2,k3,k5,_,X _ _ ho,G,ns_some_of X G y6,tail_of_in X y4,rfl⟩
  | _=>cases q
open PySem PySem.Spec PySem.W PySem.Calls PyProof.Rows Builtin.Getset_descriptor Builtin.ObjectAttr
noncomputable def excM (a:Addr) (cls:Value) (dd:Option Addr):HO:=.ext fun h=>∃ o,h.get? a=some o /\ o.cls=cls /\ o.dict=dd /\ ∃ vs,o.data=.fields vs /\ vs[1]?=some .none /\ ∃ a0,vs[0]?=some a0
theorem ZCf {P:Program} {w:World} {H:Hp} {h:Heap} {a:Addr} {cls:Value} {dd:Option Addr} {o:Obj} {vs:Array Value} {a0:Value} (e:h.get? a=some o) (e1:o.cls=cls) (e2:o.dict=dd) (e3:o.data=.fields vs) (e4:vs[1]?=some .none) (e5:vs[0]?=some a0):ObjOk P w H h a (excM a cls dd) :=
 ⟨⟨o,e,e1,e2,vs,e3,e4,a0,e5⟩,⟨o,e⟩,fun h1 h2 ⟨o,z1,z2⟩ k=>⟨o,k o z1,z2⟩⟩
theorem ZBW {P:Program} {w:World} {H:Hp} {h:Heap} {a:Addr} {cls:Value} {dd:Option Addr} (x:HOk P w H h) (e:H a=some (excM a cls dd)):∃ o vs a0,h.get? a=some o /\ o.cls=cls /\ o.dict=dd /\ o.data=.fields vs /\ vs[1]?=some .none /\ vs[0]?=some a0 :=
 let ⟨⟨o,e1,e2,e3,vs,e4,e5,a0,e6⟩,_⟩:=x a _ e;⟨o,vs,a0,e1,e2,e3,e4,e5,e6⟩
theorem upd_self {H:Hp} {a:Addr} {o:HO} (h:H a=some o):upd H a o=H:=funext fun b=>by
 by_cases z:b=a
 .rw [z,ZAI,h]
 .rw [ZAH z]
section
variable {X:Cx}
theorem call_verr (fI:Addr):ZBX X (.builtin "ValueError.__init__") (fun xs H Q=>∃ e C dd v,xs=[.ref e,v] /\ H e=some (excM e (.ref C) dd) /\ ZBe X.K C fI bmV "ValueError.__new__"=true /\ Q .non H):=by
 intro pins s σ H xs us Q I r h
 obtain ⟨e,C,dd,v,rfl,he,hm,q⟩:=h
 obtain ⟨u,w',rfl,r1,r2⟩:=ZC1 r
 cases (show u=Value.ref e from r1)
 obtain ⟨o,vs,a0,z1,z2,z3,z4,z5,z6⟩:=ZBW I.hok he
 have F:=PySem.F.excBase_ValueError
 obtain ⟨bm,N',nm,qn,bs,hdct,sn,sub,ab,col,d0,k0,k1,k2,k3,k5,mN,hC,hN,hni,T,hKC⟩:=ZCM I.kIn hm
 obtain ⟨h0,g,d,t,os⟩:=s
 refine wpAny_call (codeAny_call_builtin F.init.plain F.initEntry (wpAny_check_init_subU F T hC z1 z2 ?_))
 show wpAny _ _ (do Builtin.BaseException.bexcPut (.ref e) 0 (<- newTuple [w']);ret .none) _ _ _
 refine wpAny_bind (wpAny_newTuple ?_ (by rw [sizeLine_eq];simp))
 have z1':(h0.push { cls:=.type "tuple",data:=.seq [w'].toArray }).get? e=some o:=Heap.get?_push_of_some _ z1
 have hsz:0 < vs.size:=by
  cases hv:vs.size with
  | zero=>rw [Array.getElem?_eq_none (by omega)] at z6;cases z6
  | succ n=>omega
 unfold Builtin.BaseException.bexcPut
 refine wpAny_bind (wpAny_bind (wpAny_field z1' z4 z6 (wpAny_bind (wpAny_setField z1' z4 hsz ?_))))
 have h2:((h0.push { cls:=.type "tuple",data:=.seq [w'].toArray }).update e (Obj.mapFields (·.setIfInBounds 0 (.ref h0.objs.size)))).get? e=some (o.mapFields (·.setIfInBounds 0 (.ref h0.objs.size))) :=
  Heap.get?_update_self _ z1' (by obtain ⟨oc,od,odt,osl⟩:=o;cases z4;rfl)
 have fin:∀ tk,EP X pins σ Q .none ⟨(h0.push { cls:=.type "tuple",data:=.seq [w'].toArray }).update e (Obj.mapFields (·.setIfInBounds 0 (.ref h0.objs.size))),g,d,tk,os⟩:=fun tk=>by
  refine ⟨.non,H,?_,rfl,q⟩
  have J:=I.write (x:=e) (e:=e) (o:=excM e (.ref C) dd) (t':=tk) (h':=(h0.push { cls:=.type "tuple",data:=.seq [w'].toArray }).update e (Obj.mapFields (·.setIfInBounds 0 (.ref h0.objs.size)))) (by rw [he];exact True.intro) (.inl rfl)
   (fun b u hb q=>(Heap.get?_update_ne _ _ _ _ hb).trans (Heap.get?_push_of_some _ q)) ⟨_,h2⟩ (ZCf (vs:=vs.setIfInBounds 0 (.ref h0.objs.size)) (a0:=.ref h0.objs.size) h2 (by rw [Obj.cls_mapFields];exact z2) (by rw [ZAq];exact z3) (Obj.data_mapFields z4 _) (by rw [Array.getElem?_setIfInBounds_ne (by decide)];exact z5) (by rw [Array.getElem?_setIfInBounds_self_of_lt hsz]))
  rw [upd_self he] at J
  exact J
 cases a0 with
 | ref b=>exact wpAny_letGo (wpAny_pure (fin t))
 | _=>exact wpAny_pure (wpAny_pure (fin t))
end
section
variable {X:Cx} {x name:Str} {C:Addr} {np apos pos:Pos} {e:Expr} {es:List Expr} {t:TA} {r:List V->Hp->VK->Prop} {id:String}
theorem pe_clsB {pl:Sem Bool} (hc:ZBX X (.builtin id) r) (hg:Gl X x) (hm:X.mg x=some (.ref C)) (hgs:specialIn X.K (.ref C) "__getattribute__"=some (some (.builtin "type.__getattribute__"))) (hr:readsIn X.K C (.type "type")=true)
  (hf:findCls X.K (.ref C) (.type "type") name=some (.val (.builtin id))) (hid:handedIn (.builtin id)=true) (ha:PA X (e::es) t) (hdb:(x == ("__debug__":Str))=false:=by decide)
  (he:starEach (e::es) X.env=(false,eval e X.env)::starEach es X.env:=by rfl) (hpl:(backTo pos (starEach es X.env)).any (·.1)=false:=by rfl)
  (ht:eval (.Call (.Attribute (.Name x np) name apos) (e::es) [] pos) X.env=(do
   let ov <- eval (.Name x np) X.env
   standAt apos.atName
   let (f,first) <- holding [ov] (getMethod ov name pl)
   callWith pos f first (backTo pos (starEach (e::es) X.env)) (backToKw pos (keywordEach [] X.env))):=by rfl):PE X (.Call (.Attribute (.Name x np) name apos) (e::es) [] pos) (tCB r t):=by
 intro pins s σ H Q I h
 refine PySem.W.methodCall_KW (pl:=pl) (ZBc I hg hm ?_ hdb) ht
 refine method_cls I.kIn hgs (cls_value I.kIn hr hf hid ?_)
 exact PyProof.Rows.callWith_builtin1 (thn (ha pos pins _ σ H _ (I.tok _) h) fun us s1 ⟨vs,H1,I1,r1,q1⟩=>hc pins s1 σ H1 vs us Q I1 r1 q1) he hpl
end
noncomputable def tFS (te:TE):TE:=fun σ H Q=>te σ H fun x H1=>∃ i:Int,x=.int i /\ i.natAbs.log2 < 1920 /\ ∀ y,Q (.str y) H1
section
variable {X:Cx} {v c1 c2:Expr} {s1 s2:Str} {te:TE} {p pos:Pos}
theorem pe_fs2 (h1:PE X c1 (tC (.str s1))) (hv:PE X v te) (h2:PE X c2 (tC (.str s2))) (hl:s1.length <= 1000:=by decide) (hl2:s2.length <= 1000:=by decide):PE X (.JoinedStr [c1,.FormattedValue v (-1) none p,c2] pos) (tFS te):=by
 intro pins s σ H Q I h
 refine JoinedStr_many (joinParts_cons (thn (h1 pins s σ H (fun x H1=>x=.str s1 /\ H1=H) I ⟨rfl,rfl⟩) fun u st1 zz=>?_))
 obtain ⟨y,H1,I1,ry,e1,e2⟩:=zz
 subst e1 e2
 obtain ⟨tk,rfl⟩:=(show ∃ t,u=Value.str s1 t from ry)
 refine ⟨by rw [strLen_append,sizeLine_eq];show 0+s1.length <= _;omega,joinParts_cons (FormattedValue_plain (thn (hv pins st1 σ H1 _ I1 h) fun u2 st2 zz=>?_))⟩
 obtain ⟨y,H2,I2,ry,i,e1,hi,q⟩:=zz
 subst e1
 obtain ⟨tk2,rfl⟩:=(show ∃ t,u2=Value.int i t from ry)
 refine formatField_int_small hi ?_
 have hz:=int_text_length_le (k:=1920) (by decide) hi
 refine ⟨by rw [strLen_append,strLen_append,PySem.ofString_length,sizeLine_eq];show 0+s1.length+_ <= _;omega,?_⟩
 refine joinParts_cons (thn (h2 pins _ σ H2 (fun x H1=>x=.str s2 /\ H1=H2) (I2.tok _) ⟨rfl,rfl⟩) fun u st3 zz=>?_)
 obtain ⟨y,H3,I3,ry,e1,e2⟩:=zz
 subst e1 e2
 obtain ⟨tk3,rfl⟩:=(show ∃ t,u=Value.str s2 t from ry)
 have hz':(Str.empty++s1++Str.ofString (toString i)++s2).length <= sizeLine:=by rw [strLen_append,strLen_append,strLen_append,PySem.ofString_length,sizeLine_eq];show 0+s1.length+_+_ <= _;omega
 exact ⟨hz',joinParts_nil ⟨.str _,_,I3.tok _,⟨_,rfl⟩,q _⟩ hz'⟩
end
noncomputable def ZBi:List Value->Bool
 | .ref c::r=>ZBi r
 | l=>l == bmV
theorem over_pass (self:Value):∀ {l:List Value},ZBi l=true->refuseLoop self "__setattr__" l=pure ()
 | .ref c::r,e=>by rw [refuseLoop_ref];exact over_pass self e
 | [],e=>by cases (beq_iff_eq.mp (show ([] == bmV)=true from e))
 | .type n::r,e=>by rw [show (Value.type n::r)=bmV from beq_iff_eq.mp e];exact PySem.F.store_ValueError.passes self
 | .none::r,e=>by cases (beq_iff_eq.mp (show (Value.none::r == bmV)=true from e))
 | .bool b::r,e=>by cases (beq_iff_eq.mp (show (Value.bool b::r == bmV)=true from e))
 | .int i t::r,e=>by cases (beq_iff_eq.mp (show (Value.int i t::r == bmV)=true from e))
 | .float b t::r,e=>by cases (beq_iff_eq.mp (show (Value.float b t::r == bmV)=true from e))
 | .str x t::r,e=>by cases (beq_iff_eq.mp (show (Value.str x t::r == bmV)=true from e))
 | .bytes x t::r,e=>by cases (beq_iff_eq.mp (show (Value.bytes x t::r == bmV)=true from e))
 | .ellipsis::r,e=>by cases (beq_iff_eq.mp (show (Value.ellipsis::r == bmV)=true from e))
 | .notImplemented::r,e=>by cases (beq_iff_eq.mp (show (Value.notImplemented::r == bmV)=true from e))
 | .builtin n::r,e=>by cases (beq_iff_eq.mp (show (Value.builtin n::r == bmV)=true from e))
theorem ZCF:∀ {l:List Value},ZBi l=true->l.contains (.type "object")=true /\ l.isEmpty=false
 | .ref c::r,e=>⟨by rw [List.contains_cons,(ZCF (l:=r) e).1,Bool.or_true],rfl⟩
 | [],e=>by cases (beq_iff_eq.mp (show ([] == bmV)=true from e))
 | .type n::r,e=>by rw [show (Value.type n::r)=bmV from beq_iff_eq.mp e];exact ⟨by decide,rfl⟩
 | .none::r,e=>by cases (beq_iff_eq.mp (show (Value.none::r == bmV)=true from e))
 | .bool b::r,e=>by cases (beq_iff_eq.mp (show (Value.bool b::r == bmV)=true from e))
 | .int i t::r,e=>by cases (beq_iff_eq.mp (show (Value.int i t::r == bmV)=true from e))
 | .float b t::r,e=>by cases (beq_iff_eq.mp (show (Value.float b t::r == bmV)=true from e))
 | .str x t::r,e=>by cases (beq_iff_eq.mp (show (Value.str x t::r == bmV)=true from e))
 | .bytes x t::r,e=>by cases (beq_iff_eq.mp (show (Value.bytes x t::r == bmV)=true from e))
 | .ellipsis::r,e=>by cases (beq_iff_eq.mp (show (Value.ellipsis::r == bmV)=true from e))
 | .notImplemented::r,e=>by cases (beq_iff_eq.mp (show (Value.notImplemented::r == bmV)=true from e))
 | .builtin n::r,e=>by cases (beq_iff_eq.mp (show (Value.builtin n::r == bmV)=true from e))
noncomputable def ZCe (K:Frag) (C:Addr):Bool:=(clsIn K C).any fun cd=>ZBi cd.mro
section
variable {prog:Program} {w:World} {A:Around} {R:Result->Shared->Prop} {s:Shared} {K:Frag} {x C:Addr}
theorem osa_openX {ox:Obj} {od:Option Obj} {name:Str} {tk:Tok} {v:Value} {r:Option Value} (X:K.In s.heap) (I:InstAt s.heap x ox C od) (hp:ZCe K C=true) (ht:takerIn K C name=some r)
  (h:∀ b,wpAny (model prog w) A.in1 (match r with | some a=>setByDescriptor a (.ref x) v | none=>storeInOwnDict (.ref x) (.ref C) (.str name tk) name v b)
   (fun fin s'=>match fin with | Fin.done f=>R (.ok f) s' | Fin.again c'=>c'.quiet=true /\ codeAny (model prog w) A c' R s') (fun e s'=>R (.error e) s') s) :
  codeAny (model prog w) A (.call (.builtin "object.__setattr__") ⟨[.ref x,.str name tk,v],[]⟩) R s:=by
 have SF:=PySem.F.store_object
 obtain ⟨cd,hc,ho⟩:=any_some hp
 have ne:cd.mro.isEmpty=false:=(ZCF ho).2
 have sub:Looks (model prog w) s.heap (isInstance (.ref x) (.type "object")) true:=I.type.andThen (looks_mroIn X (by unfold mroIn;rw [hc,Option.bind_some,if_neg (by rw [ne];decide),(ZCF ho).1]))
 refine codeAny_call_builtin SF.slot.plain SF.entry (@check_slot (model prog w) _ _ s "object.__setattr__" "object" "__setattr__" (.ref x) [.str name tk,v] [] _ SF.kind SF.split sub (SF.args (.ref x) (.str name tk) v) ?_)
 obtain ⟨attr,ha,hr⟩:=Option.bind_eq_some_iff.mp ht
 have hm:Looks (model prog w) s.heap (mroOf (.ref C)) cd.mro:=(looks_clsIn X hc).andThen .now
 have L3:Looks (model prog w) s.heap (storeTaker? attr) r:=by
  cases attr with
  | none=>cases hr;exact .now
  | some a=>
   obtain ⟨b,hb,rfl⟩:=yAZ.mp hr
   refine (looks_takesIn X hb).andThen ?_
   cases b <;> exact .now
 rw [osa_eq,refuse_eq]
 refine wpAny_bind (wpAny_bind (I.type.here (wpAny_bind (hm.here ?_))))
 rw [over_pass _ ho]
 refine wpAny_pure (wpAny_bind (I.type.here (wpAny_bind ((looks_findIn X ha).here (wpAny_bind (L3.here ?_))))))
 exact h _
end
noncomputable def xdM (d:Addr) (fs:List (Str×V)):HO:=.ext fun h=>∃ mA,h.Ns1 d mA /\ ∀ f,RelO (fs.lookup f) (mA f)
theorem xdM_ok {P:Program} {w:World} {H:Hp} {h:Heap} {d:Addr} {fs:List (Str×V)} {mA:Str->Option Value} (n:h.Ns1 d mA) (r:∀ f,RelO (fs.lookup f) (mA f)):ObjOk P w H h d (xdM d fs) :=
 ⟨⟨mA,n,r⟩,let ⟨o,_,_,e,_⟩:=n;⟨o,e⟩,fun h1 h2 ⟨mA,⟨o,es,ep,e,c⟩,r⟩ k=>⟨mA,⟨o,es,ep,k _ e,c⟩,r⟩⟩
structure XCls (K:Frag) (C:Addr):Prop where
 hd:hasDictIn K C=true
 ov:ZCe K C=true
 sa:findIn K (.ref C) "__setattr__"=some (some (.builtin "object.__setattr__"))
section
variable {X:Cx} {pins:List (Addr×Obj)} {σ:St} {H:Hp} {s:Shared} {A:Around} {E:Value->Shared->Prop} {a C:Addr} {f:Str}
theorem excset0 {y:V} {u:Value} {Q:Unit->Shared->Prop} (I:Inv X pins σ H s) (e:H a=some (excM a (.ref C) none)) (c:XCls X.K C) (n:NoAttr X.K C f) (ry:RelV y u)
  (h:∀ d s',H d=none->d≠a->Inv X pins σ (upd (upd H d (xdM d [(f,y)])) a (excM a (.ref C) (some d))) s'->Q () s'):wpAny (model X.prog X.w) A (setAttr (.ref a) f u) Q E s:=by
 obtain ⟨o,vs,a0,z1,z2,z3,z4,z5,z6⟩:=ZBW I.hok e
 have J:InstAt s.heap a o C none:=⟨z1,z2,by unfold notCls;rw [z4],by rw [z3];trivial⟩
 refine set_plain I.kIn J c.sa (osa_openX (s:={ s with toks:=s.toks+1 }) (r:=none) I.kIn J c.ov n.taker fun b=>?_)
 obtain ⟨cd,hc,hd'⟩:=any_some c.hd
 obtain ⟨oc,od,odt,osl⟩:=o
 dsimp only at z2 z3 z4
 subst z2 z3 z4
 refine wpAny_bind (wpAny_pure (wpAny_bind (wpAny_bind (wpAny_loadPart (s:={ s with toks:=s.toks+1 }) z1 (wpAny_bind (Looks.here (s:={ s with toks:=s.toks+1 }) (looks_clsIn I.kIn hc) ?_))))))
 rw [hd']
 have hax:a≠s.heap.objs.size:=yAD (Heap.lt_size z1)
 have hx1:(s.heap.push { cls:=.type "dict",data:=.dict #[] }).get? a=some ⟨.ref C,none,.fields vs,osl⟩:=Heap.get?_push_of_some _ z1
 rw [if_neg (by decide)]
 show wpAny _ _ (do
  let d <- alloc { cls:=Value.type "dict",data:=Data.dict #[] }
  update a fun o=>{ cls:=o.cls,dict:=some d,data:=o.data,slots:=o.slots }
  dictMade (.ref C) a d) _ _ _
 refine wpAny_bind (wpAny_alloc' ?_)
 refine wpAny_bind (wpAny_update' hx1 ?_)
 refine wpAny_pure ?_
 have hgd:((s.heap.push { cls:=.type "dict",data:=.dict #[] }).update a fun o=>{ cls:=o.cls,dict:=some s.heap.objs.size,data:=o.data,slots:=o.slots }).get? s.heap.objs.size=some { cls:=.type "dict",data:=.dict #[] } :=
  (Heap.get?_update_ne _ _ _ _ (Ne.symm hax)).trans (Heap.get?_push_at rfl rfl)
 have hnd:((s.heap.push { cls:=.type "dict",data:=.dict #[] }).update a fun o=>{ cls:=o.cls,dict:=some s.heap.objs.size,data:=o.data,slots:=o.slots }).Ns s.heap.objs.size (fun _=>none) :=
  ⟨_,#[],_,hgd,rfl,fun e he=>absurd he (by simp),fun _=>rfl⟩
 have hga:((s.heap.push { cls:=.type "dict",data:=.dict #[] }).update a fun o=>{ cls:=o.cls,dict:=some s.heap.objs.size,data:=o.data,slots:=o.slots }).get? a=some ⟨.ref C,some s.heap.objs.size,.fields vs,osl⟩:=Heap.get?_update_self _ hx1 rfl
 show wpAny _ _ (storeInDict s.heap.objs.size (.str f s.toks) f u) _ _ _
 unfold storeInDict newKeyGuard
 refine wpAny_bind (wpAny_pure (wpAny_bind (wpAny_nsSet1 (Heap.Ns1.of_empty hnd) fun h' hn' hs=>?_)))
 obtain ⟨oD,esD,epD,hoD,hdD,hcD⟩:=hn'.count (Within.cons f u Within.nil)
 refine wpAny_bind (wpAny_lookBehind hoD (by rw [hdD];exact pastItsLine_dict (yAC hcD (by rw [yBF,List.length_nil,sizeLine_eq];omega))) ?_)
 refine wpAny_pure ?_
 have hfr:H s.heap.objs.size=none:=I.hok.fresh (yAA _)
 have keepB:∀ b ob,b≠a->s.heap.get? b=some ob->h'.get? b=some ob:=fun b ob hb q=>(hs.2 b (yAD (Heap.lt_size q))).trans ((Heap.get?_update_ne _ _ _ _ hb).trans (Heap.get?_push_of_some _ q))
 have ha':h'.get? a=some ⟨.ref C,some s.heap.objs.size,.fields vs,osl⟩:=(hs.2 a hax).trans hga
 have rel:∀ g,RelO ([(f,y)].lookup g) (if g=f then some u else none):=fun g=>by
  by_cases q:g=f
  .rw [if_pos q,q,List.lookup_cons_self];exact ry
  .rw [if_neg q,yBB,show (g == f)=false from by simpa using q];trivial
 have J1:=I.write (x:=a) (e:=a) (o:=excM a (.ref C) (some s.heap.objs.size)) (t':=s.toks+1+1) (h':=(s.heap.update a fun o=>{ cls:=o.cls,dict:=some s.heap.objs.size,data:=o.data,slots:=o.slots })) (by rw [e];exact True.intro) (.inl rfl)
  (fun b ob hb q=>(Heap.get?_update_ne _ _ _ _ hb).trans q) ⟨_,Heap.get?_update_self _ z1 rfl⟩ (ZCf (Heap.get?_update_self _ z1 rfl) rfl rfl rfl z5 z6)
 have hsz:(s.heap.update a fun o=>{ cls:=o.cls,dict:=some s.heap.objs.size,data:=o.data,slots:=o.slots }).objs.size=s.heap.objs.size:=Heap.size_update ..
 have J2:=J1.laid (a:=s.heap.objs.size) (o:=xdM s.heap.objs.size [(f,y)]) (t':=s.toks+1+1) (h':=h') (fun b ob q=>?_) (by rw [show ({ s with heap:=(s.heap.update a fun o=>{ cls:=o.cls,dict:=some s.heap.objs.size,data:=o.data,slots:=o.slots }),toks:=s.toks+1+1 }:Shared).heap.objs.size=_ from hsz];exact yAA _) (xdM_ok hn' rel)
 .have:=h s.heap.objs.size _ hfr (Ne.symm hax) (by
   have e2:upd (upd H s.heap.objs.size (xdM s.heap.objs.size [(f,y)])) a (excM a (.ref C) (some s.heap.objs.size))=upd (upd H a (excM a (.ref C) (some s.heap.objs.size))) s.heap.objs.size (xdM s.heap.objs.size [(f,y)]):=funext fun b=>by
    by_cases q1:b=a
    .rw [q1,ZAI,ZAH hax,ZAI]
    .rw [ZAH q1]
     by_cases q2:b=s.heap.objs.size
     .rw [q2,ZAI,ZAI]
     .rw [ZAH q2,ZAH q2,ZAH q1]
   rw [e2]
   exact J2)
  exact this
 .by_cases hb:b=a
  .rw [hb] at q ⊢
   rw [Heap.get?_update_self _ z1 rfl] at q
   rw [ha',<- q]
  .exact keepB b ob hb ((Heap.get?_update_ne _ _ _ _ hb).symm.trans q)
theorem excset1 {y:V} {u:Value} {Q:Unit->Shared->Prop} {d:Addr} {fs:List (Str×V)} (I:Inv X pins σ H s) (e:H a=some (excM a (.ref C) (some d))) (hda:d≠a) (ed:H d=some (xdM d fs)) (hl:fs.length < 1000) (c:XCls X.K C) (n:NoAttr X.K C f) (ry:RelV y u)
  (h:∀ s',Inv X pins σ (upd H d (xdM d (putF f y fs))) s'->Q () s'):wpAny (model X.prog X.w) A (setAttr (.ref a) f u) Q E s:=by
 obtain ⟨o,vs,a0,z1,z2,z3,z4,z5,z6⟩:=ZBW I.hok e
 obtain ⟨⟨mA,hns,r⟩,_,_⟩:=(show ObjOk X.prog X.w H s.heap d (xdM d fs) from I.hok d _ ed)
 obtain ⟨od,hod,hlk⟩:=ZBw hns
 have J:InstAt s.heap a o C (some od):=⟨z1,z2,by unfold notCls;rw [z4],by rw [z3];exact hod⟩
 refine set_plain I.kIn J c.sa (osa_openX (s:={ s with toks:=s.toks+1 }) (r:=none) I.kIn J c.ov n.taker fun b=>?_)
 obtain ⟨cd,hc,hd'⟩:=any_some c.hd
 obtain ⟨oc,odd,odt,osl⟩:=o
 dsimp only at z2 z3 z4
 subst z2 z3 z4
 refine wpAny_bind (wpAny_pure (wpAny_bind (wpAny_bind (wpAny_loadPart (s:={ s with toks:=s.toks+1 }) z1 (wpAny_bind (Looks.here (s:={ s with toks:=s.toks+1 }) (looks_clsIn I.kIn hc) ?_))))))
 rw [hd',if_neg (by decide)]
 refine wpAny_pure (a:=some d) (wpAny_bind (wpAny_pure (wpAny_bind ?_)))
 refine wpAny_nsSet1 (s:={ s with toks:=s.toks+1 }) hns fun h' hn2 hs2=>?_
 have hw:Within mA (fs.map (·.1)):=fun g hg=>by
  have:=r g
  cases hg2:fs.lookup g with
  | none=>rw [hg2] at this;cases hm:mA g with
   | none=>exact absurd hm hg
   | some u=>rw [hm] at this;exact this.elim
  | some v=>exact List.mem_map.mpr ⟨(g,v),PySem.mem_of_lookup hg2,rfl⟩
 obtain ⟨oD,esD,epD,hoD,hdD,hcD⟩:=hn2.count (PySem.Within.cons f u hw)
 refine wpAny_bind (wpAny_lookBehind hoD (by rw [hdD];exact pastItsLine_dict (yAC hcD (by rw [yBF,yAB,sizeLine_eq];omega))) ?_)
 refine wpAny_pure (h _ ?_)
 exact I.write (x:=d) (e:=d) (o:=xdM d (putF f y fs)) (t':=s.toks+1+1) (h':=h') (by rw [ed];exact True.intro) (.inl rfl) (fun b ob hb q=>(hs2.2 b hb).trans q) ⟨oD,hoD⟩ (xdM_ok hn2 fun g=>by
  rw [lookup_putF]
  by_cases q:g=f
  .rw [if_pos q,if_pos q];exact ry
  .rw [if_neg q,if_neg q];exact r g)
end
noncomputable def ZDC (K:Frag) (ta tv:TE) (f:Str):TS:=fun D σ H=>tv σ H fun y H1=>ta σ H1 fun x H2=>∃ a C dd,x=.ref a /\ H2 a=some (excM a (.ref C) dd) /\ XCls K C /\ NoAttr K C f /\
 ((dd=none /\ ∀ d,H2 d=none->d≠a->D.nx σ (upd (upd H2 d (xdM d [(f,y)])) a (excM a (.ref C) (some d))))∨∃ d fs,dd=some d /\ d≠a /\ H2 d=some (xdM d fs) /\ fs.length < 1000 /\ D.nx σ (upd H2 d (xdM d (putF f y fs))))
theorem ps_xfld {X:Cx} {o value:Expr} {f:Str} {pos pos':Pos} {ta tv:TE} (ha:PE X o ta) (hv:PE X value tv) (hs:swapsWith value (some (.Attribute o f pos')) pos.line X.env=pure false):PS X (.Assign [.Attribute o f pos'] value pos) (ZDC X.K ta tv f):=by
 intro pins s σ H D I h
 refine plainObj_wpAny_Assign_Attribute (thn (hv pins s σ H _ I h) fun u s1 ⟨y,H1,I1,ry,q⟩=>thn (ha pins s1 σ H1 _ I1 q) fun ov s2 zz=>?_) hs
 obtain ⟨x,H2,I2,rx,a,C,dd,ex,ea,c,n,q2⟩:=zz
 subst ex
 obtain rfl:ov=Value.ref a:=rx
 rcases q2 with ⟨rfl,q2⟩ | ⟨d,fs,rfl,hda,ed,hl,q2⟩
 .exact excset0 I2 ea c n ry fun d s3 hd hda I3=>⟨σ,_,I3,q2 d hd hda⟩
 .exact excset1 I2 ea hda ed hl c n ry fun s3 I3=>⟨σ,_,I3,q2⟩
structure XMk (K:Frag) (C f:Addr):Prop where
 ii:ZBe K C f bmV "ValueError.__new__"=true
 fn:isFn K (.ref f)=true
 kp:keepIn K (.ref C)=true
section
variable {X:Cx} {CX:CXT} {k:Nat} {f C:Addr} {fd:FuncData} {ps:List Str} {sp:Sp} {x:Str} {p pos:Pos} {e:Expr} {es:List Expr} {t:TA} {E:XK}
theorem run_xmake {pins:List (Addr×Obj)} {σ:St} {H:Hp} {s:Shared} {Q:VK} {R:Value->Shared->Prop} {us:List Value} {vs:List V} (M:XMk X.K C f) (F:FnOk X.prog X.w X.K X.mg X.base CX k f fd ps sp) (hr:Room (k+1) X.A) (hb:Binds X.K fd ps [])
  (hx:ZB2 CX X E) (I:Inv X pins σ H s) (r:Vals vs us) (hz:us.length <= sizeLine)
  (h:∀ x,H x=none->sp (.ref x::vs) (upd H x (excM x (.ref C) none)) (fun v H2=>v=.non /\ Q (.ref x) H2) E)
  (fin:∀ a H2 s2,s.heap.get? a=none->H a=none->Un (frs X.stack) [] H H2 s.heap s2.heap->HOk X.prog X.w H2 s2.heap->s2.os=s.os->AllBare s2.gens->Q (.ref a) H2->R (.ref a) s2) :
  wpAny (model X.prog X.w) X.A (call (.ref C) us) R X.xe s:=by
 obtain ⟨bm,N',nm,qn,bs,hdct,sn,sub,ab,col,d0,k0,k1,k2,k3,k5,mN,hC,hN,hni,T,hKC⟩:=ZCM I.kIn M.ii
 obtain ⟨oI,hoI,hcI⟩:∃ oI,s.heap.get? f=some oI /\ oI.cls=.type "function":=by
  have ht:=beq_iff_eq.mp M.fn
  unfold typeIn at ht
  obtain ⟨o,h1,h2⟩:=yAZ.mp ht
  exact ⟨o,I.kIn _ _ h1,h2⟩
 obtain ⟨h0,g,d,tk,os⟩:=s
 refine call_exc_initU (hrest:=hz) PySem.F.excBase_ValueError PySem.F.excBase_ValueError.hasB PySem.F.excBase_ValueError T hC hN hni hoI hcI fun h' a hm ha=>?_
 obtain ⟨t0,ht0,_⟩:=hm.there
 have hge:h0.objs.size <= a:=by rw [ha];exact yAO _
 have hfr:H a=none:=I.hok.fresh hge
 have I2:=I.laid (a:=a) (o:=excM a (.ref C) none) (h':=h') (t':=tk) hm.keeps hge (ZCf ht0 rfl rfl rfl rfl rfl)
 have hq:=h a hfr
 have r2:Vals (V.ref a::vs) (Value.ref a::us):=.cons rfl r
 have hl:(Value.ref a::us).length=ps.length:=by rw [<- r2.length];exact F.len _ _ _ _ hq
 have hb2:=hb ⟨h',g,d,tk,os⟩ (Value.ref a::us) I2.kIn (by rw [List.append_nil];exact hl)
 rw [List.append_nil] at hb2
 refine wpAny_call (codeAny_mono (F.run _ X.stack ⟨h',g,d,tk,os⟩ _ ⟨Value.ref a::us,[]⟩ (Value.ref a::us) _ _ E (hr.make C us []) (I2.env0.make C us []) hb2 r2 hq) fun r s' hq'=>?_)
 cases r with
 | error e=>exact hx pins σ _ _ e s' I2 hq'
 | ok fl=>
  cases fl with
  | ret u=>
   obtain ⟨v,H2,ho,hba,un,hok,rv,ev,q3⟩:=hq'
   subst ev
   exact ⟨rv,fin a H2 s' hm.new hfr (Un.trans (Un.laid hm.keeps hge hfr) un) hok ho hba q3⟩
  | next=>exact False.elim hq'
  | brk=>exact False.elim hq'
  | cont=>exact False.elim hq'
noncomputable def tXMk (C:Addr) (sp:Sp) (E:XK) (t:TA):TE:=fun σ H Q=>t σ H fun vs H1=>vs.length <= 1000 /\ ∀ x,H1 x=none->sp (.ref x::vs) (upd H1 x (excM x (.ref C) none)) (fun v H2=>v=.non /\ Q (.ref x) H2) E
end
noncomputable def forget (H:Hp) (a:Addr):Hp:=fun b=>if b=a then none else H b
theorem ZAl {H:Hp} {a b:Addr} (h:b≠a):forget H a b=H b:=if_neg h
theorem forget_same {H:Hp} {a:Addr}:forget H a a=none:=if_pos rfl
theorem Un.forget {fs:List Addr} {H H2:Hp} {h h2:Heap} {a:Addr} (u:Un fs [] H H2 h h2) (hn:h.get? a=none) (hH:H a=none):Un fs [] H (L2.forget H2 a) h h2 where
 keep:=u.keep
 slot:=u.slot
 free:=fun b o q n hx=>by
  rw [ZAl (fun z=>by rw [z,hn] at q;cases q)]
  exact u.free b o q n hx
 there:=u.there
 tups:=fun b xs q=>by rw [ZAl (ZAG q hH)];exact u.tups b xs q
 frzs:=fun b o xs q=>by rw [ZAl (ZAG q hH)];exact u.frzs b o xs q
 tbls:=fun b ps q=>by
  obtain ⟨m,hm⟩:=u.tbls b ps q
  exact ⟨m,by rw [ZAl (ZAG q hH)];exact hm⟩
theorem HOk.forget {P:Program} {w:World} {H:Hp} {h:Heap} {a:Addr} {φ:Heap->Prop} (x:HOk P w H h) (ha:H a=some (.ext φ)):HOk P w (L2.forget H a) h:=fun b o q=>by
 by_cases z:b=a
 .rw [z,forget_same] at q;cases q
 .rw [ZAl z] at q
  refine (x b o q).stay (fun _ _ _ y=>y) (fun c y=>?_) fun c xs y=>?_
  .rw [ZAl (fun z=>by rw [z,ha] at y;cases y)];exact y
  .rw [ZAl (fun z=>by rw [z,ha] at y;cases y)];exact y
noncomputable def ZCV (E:XK) (C:Addr) (sp:Sp) (t:TA):TS:=fun _ σ H=>t σ H fun vs H1=>vs.length <= 1000 /\ ∀ x,H1 x=none->sp (.ref x::vs) (upd H1 x (excM x (.ref C) none)) (fun v H2=>v=.non /\ ∃ dd,H2 x=some (excM x (.ref C) dd) /\ E (.ref C) dd (forget H2 x)) E0
section
variable {P:Program} {w:World} {K:W.Frag} {mg:Str->Option Value} {base:Heap} {N:List Str} {qual:Str} {scope:Scope} {f:Addr} {cd:Value} {A:Around} {outer:List Env} {s:Shared} {H:Hp} {E:XK}
variable {CX:CXT} {k:Nat} {fI C:Addr} {fd:FuncData} {ps:List Str} {sp:Sp} {x:Str} {np cpos pos:Pos} {e:Expr} {es:List Expr} {t:TA}
end
section
variable {κ:Type} [DecidableEq κ]
end
section
variable {P:Program} {w:World} {H:Hp} {h:Heap} {a:Addr}
end
section
variable {X:Cx} {pins:List (Addr×Obj)} {σ:St} {H:Hp} {s:Shared} {a:Addr} {y v:V} {u r:Value} {o:Option V} {A:Around} {E:Value->Shared->Prop}
end
section
variable {X:Cx} {pins:List (Addr×Obj)} {σ:St} {H:Hp} {s:Shared} {a:Addr} {kvs:List (Key×V)} {k:Key} {u:Value} {A:Around} {E:Value->Shared->Prop}
end
section
variable {X:Cx} {o i e value:Expr} {pos pos' tpos:Pos} {td ty tv:TE}
end
section
variable {X:Cx} {pos:Pos}
end
end L2
namespace PySem
open Sem (wp)
namespace F
end F
section
variable {α:Type} {prog:Program} {w:World} {A:Around} {E:Value->Shared->Prop} {s:Shared}
end
section
variable {prog:Program} {w:World} {A:Around} {E:Value->Shared->Prop} {h:Heap} {g:Array GenState} {d:Drawn} {t:Nat} {os:OsState} {a:Addr} {its:Array Value} {n:Nat}
end
end PySem
namespace PySem
namespace F
end F
end PySem
namespace L2
open PySem PySem.Spec PyProof.Rows
section
variable {X:Cx} {pins:List (Addr×Obj)} {σ:St} {H:Hp} {s1:Shared} {A:Around}
end
end L2
namespace PySem
section
variable {prog:Program} {w:World} {A:Around} {E:Value->Shared->Prop} {s:Shared} {zo ti to:Addr} {f0 f1:Value}
end
end PySem
namespace L2
open PySem PySem.Spec PyProof.Rows
section
variable {X:Cx}
end
section
variable {K:W.Frag} {a b:Addr} {xs ys:List V} {g:TG} {σ:St} {H:Hp} {tt:TT} {te:TE} {Q:VK} {σ0:St}
end
section
variable {X:Cx}
end
section
variable {X:Cx}
end
section
variable {X:Cx}
end
open PySem PySem.Spec PySem.W PySem.Calls PyProof.Rows Builtin.Getset_descriptor Builtin.ObjectAttr
structure XKl (P:Program) (w:World) (K:W.Frag) (mg:Str->Option Value) (base:Heap) (CX:CXT) (x:Str) (C:Addr) (k:Nat) (ps:List Str) (sp:Sp):Prop where
 mgC:mg x=some (.ref C)
 ex:∃ f fd,FnOk P w K mg base CX k f fd ps sp /\ Binds K fd ps [] /\ XMk K C f
structure XBase (K:W.Frag) (C:Addr):Prop where
 gs:specialIn K (.ref C) "__getattribute__"=some (some (.builtin "type.__getattribute__"))
 rd:readsIn K C (.type "type")=true
 fc:findCls K (.ref C) (.type "type") "__init__"=some (.val (.builtin "ValueError.__init__"))
section
variable {X:Cx} {CX:CXT} {k:Nat} {ps:List Str} {sp:Sp} {E:XK} {x m:Str} {C:Addr} {p np pos apos:Pos} {e o:Expr} {es:List Expr} {ta:TE} {t:TA}
theorem call_verrK:ZBX X (.builtin "ValueError.__init__") (fun xs H Q=>∃ e C dd v,xs=[.ref e,v] /\ H e=some (excM e (.ref C) dd) /\ (∃ fI,ZBe X.K C fI bmV "ValueError.__new__"=true) /\ Q .non H):=by
 intro pins s σ H xs us Q I r h
 obtain ⟨e,C,dd,v,h1,h2,⟨fI,h3⟩,q⟩:=h
 exact call_verr fI pins s σ H xs us Q I r ⟨e,C,dd,v,h1,h2,h3,q⟩
theorem pe_clsV {pl:Sem Bool} (B:XBase X.K C) (hm:X.mg x=some (.ref C)) (hg:Gl X x) (ha:PA X (e::es) t) (hdb:(x == ("__debug__":Str))=false:=by decide)
  (he:starEach (e::es) X.env=(false,eval e X.env)::starEach es X.env:=by rfl) (hpl:(backTo pos (starEach es X.env)).any (·.1)=false:=by rfl)
  (ht:eval (.Call (.Attribute (.Name x np) "__init__" apos) (e::es) [] pos) X.env=(do
   let ov <- eval (.Name x np) X.env
   standAt apos.atName
   let (f,first) <- holding [ov] (getMethod ov "__init__" pl)
   callWith pos f first (backTo pos (starEach (e::es) X.env)) (backToKw pos (keywordEach [] X.env))):=by rfl) :
  PE X (.Call (.Attribute (.Name x np) "__init__" apos) (e::es) [] pos) (tCB (fun xs H Q=>∃ e C dd v,xs=[.ref e,v] /\ H e=some (excM e (.ref C) dd) /\ (∃ fI,ZBe X.K C fI bmV "ValueError.__new__"=true) /\ Q .non H) t) :=
 pe_clsB (pl:=pl) call_verrK hg hm B.gs B.rd B.fc (by decide +kernel) ha hdb he hpl ht
end
section
variable {P:Program} {w:World} {K:W.Frag} {mg:Str->Option Value} {base:Heap} {N:List Str} {qual:Str} {scope:Scope} {f:Addr} {cd:Value} {A:Around} {outer:List Env} {s:Shared} {H:Hp} {E:XK}
variable {CX:CXT} {k:Nat} {C:Addr} {ps:List Str} {sp:Sp} {x:Str} {np cpos pos:Pos} {e:Expr} {es:List Expr} {t:TA}
end
noncomputable def tMethS (C:Addr) (m:Str) (sp:Sp) (E:St->XK) (ta:TE) (t:TA):TE:=fun σ H Q=>ta σ H fun x H1=>∃ a dx fs,x=.ref a /\ H1 a=some (.ins C dx fs) /\ fs.lookup m=none /\ t σ H1 fun vs H2=>sp (x::vs) H2 Q (E σ)
section
variable {X:Cx} {CX:CXT} {k:Nat} {ps:List Str} {sp:Sp} {E:St->XK} {x m:Str} {C:Addr} {p pos apos:Pos} {e o:Expr} {es:List Expr} {ta:TE} {t:TA}
end
section
variable {P:Program} {w:World} {K:W.Frag} {mg:Str->Option Value} {base:Heap} {N ps:List Str} {qual:Str} {scope:Scope} {f:Addr} {cd:Value} {A:Around} {outer:List Env} {s s1:Shared} {H:Hp} {E:XK} {us:List Value} {vs:List V}
end
section
variable {X:Cx} {k:Nat} {ps:List Str} {sp:Sp} {x:Str} {p pos:Pos} {e:Expr} {es:List Expr} {t:TA}
end
noncomputable def ZCk (K:W.Frag) (ta:TE) (f:Str):TE:=fun σ H Q=>ta σ H fun x H1=>∃ a C d fs v,x=.ref a /\ (H1 a=some (excO a (.ref C) (some d))∨H1 a=some (excM a (.ref C) (some d))) /\ H1 d=some (xdM d fs) /\ ExcC K C /\ PySem.W.hasDictIn K C=true /\ W.findIn K (.ref C) f=some none /\ fs.lookup f=some v /\ Q v H1
theorem pe_xfldM {X:Cx} {e:Expr} {f:Str} {pos:Pos} {ta:TE} (he:PE X e ta) (hb:attributeBase e f X.env (eval e X.env)=eval e X.env):PE X (.Attribute e f pos) (ZCk X.K ta f):=by
 intro pins s σ H Q I h
 refine attr_of hb (thn (he pins s σ H _ I h) fun u s1 zz=>?_)
 obtain ⟨x,H1,I1,rx,a,C,d,fs,v,ex,ea,ed,F,hd,hn,l,q⟩:=zz
 subst ex
 obtain rfl:u=Value.ref a:=rx
 obtain ⟨o,z1,z2,z3,vs,z4⟩:∃ o,s1.heap.get? a=some o /\ o.cls=.ref C /\ o.dict=some d /\ ∃ vs,o.data=.fields vs:=by
  rcases ea with ea | ea
  .obtain ⟨⟨o,z1,z2,z3,vs,z4⟩,_,_⟩:=(show ObjOk X.prog X.w H1 s1.heap a (excO a (.ref C) (some d)) from I1.hok a _ ea)
   exact ⟨o,z1,z2,z3,vs,z4⟩
  .obtain ⟨o,vs,a0,z1,z2,z3,z4,_⟩:=ZBW I1.hok ea
   exact ⟨o,z1,z2,z3,vs,z4⟩
 obtain ⟨⟨mA,hns,r⟩,_,_⟩:=(show ObjOk X.prog X.w H1 s1.heap d (xdM d fs) from I1.hok d _ ed)
 obtain ⟨od,hod,hl⟩:=ZBw hns
 obtain ⟨u',hu,ru⟩:=RelO.some_of (v:=v) (o:=mA f) (by rw [<- l];exact r f)
 have J:PySem.W.InstAt s1.heap a o C (some od):=⟨z1,z2,by unfold notCls;rw [z4],by rw [z3];exact hod⟩
 obtain ⟨hh,g,dd,t,os⟩:=s1
 exact exc_value I1.kIn F J (PySem.W.findObj_own hd hn rfl (by rw [hl,hu])) (handed_of ru) ⟨v,H1,I1.tok _,ru,q⟩
theorem pe_xfldMK {X:Cx} {e:Expr} {f:Str} {pos:Pos} {ta:TE} (K:W.Frag) (he:PE X e ta) (hb:attributeBase e f X.env (eval e X.env)=eval e X.env) (h:X.K=K:=by rfl):PE X (.Attribute e f pos) (ZCk K ta f):=h ▸ pe_xfldM he hb
end L2
namespace PySem
section
variable {M:Model} {A:Around} {E:Value->Shared->Prop} {s:Shared}
end
end PySem
namespace L2
open PySem PySem.Spec PySem.W PySem.Calls PyProof.Rows
theorem ObjOk.ex {P:Program} {w:World} {H:Hp} {h:Heap} {a:Addr} {o:HO} (x:ObjOk P w H h a o):∃ ob,h.get? a=some ob:=by
 cases o with
 | lst xs=>obtain ⟨_,_,_,_,e⟩:=x;exact ⟨_,e⟩
 | tup xs=>obtain ⟨_,_,_,ob,e,_⟩:=x;exact ⟨_,e⟩
 | dK kvs=>obtain ⟨_,_,_,_,ob,es,ep,e,_⟩:=x;exact ⟨_,e⟩
 | dT kvs=>obtain ⟨_,_,_,_,ob,es,ep,e,_⟩:=x;exact ⟨_,e⟩
 | set S n=>obtain ⟨ob,es,ep,t,e,_⟩:=x;exact ⟨_,e⟩
 | ins C dx fs=>obtain ⟨_,_,_,e,_⟩:=x;exact ⟨_,e⟩
 | own y=>obtain ⟨_,e⟩:=x;exact ⟨_,e⟩
 | xd fs=>obtain ⟨_,⟨_,_,_,e,_⟩,_⟩:=x;exact ⟨_,e⟩
 | rng lo hi=>obtain ⟨_,_,_,e⟩:=x;exact ⟨_,e⟩
 | frz ob u=>obtain ⟨e,_⟩:=x;exact ⟨_,e⟩
 | tbl ps=>exact ⟨_,(show h.get? a=some _ from x)⟩
 | met f y=>exact ⟨_,(show h.get? a=some _ from x)⟩
 | ext φ=>obtain ⟨_,⟨_,e⟩,_⟩:=x;exact ⟨_,e⟩
noncomputable def XF (X:Cx) (E:XK):Value->Shared->Prop:=fun e s'=>∃ (pins:List (Addr×Obj)) (σ:St) (H1:Hp) (s1:Shared) (ea:Addr) (cls:Value) (dd:Option Addr) (H':Hp) (B:Heap) (a0:Value) (fl:Value),
 e=.ref ea /\ Inv X pins σ H1 s1 /\ s'.os=s1.os /\ AllBare s'.gens /\ Un (frs X.stack) [] H1 H' s1.heap s'.heap /\ HOk X.prog X.w H' s'.heap /\ H' ea=none /\ s1.heap.get? ea=none /\
 (fl=.none∨fl=rawInt X.env.locals) /\ B.StaysIn s'.heap /\ B.get? ea=none /\ s'.heap.FunFrames B X.stack /\ s'.heap.TracedAtD B ea cls (a0,dd) fl /\
 (∀ b o,s'.heap.get? b=some o->b∉frs X.stack->(H' b≠none∨∃ o0,s1.heap.get? b=some o0)->B.get? b=some o) /\ E cls dd H'
section
variable {X:Cx} {E:XK}
theorem XF.next {pins:List (Addr×Obj)} {σ:St} {H1 H':Hp} {s1 s':Shared} {h2:Heap} {ea:Addr} {cls:Value} {dd:Option Addr} {B:Heap} {a0 fl:Value} (I:Inv X pins σ H1 s1) (os:s'.os=s1.os) (bare:AllBare s'.gens) (un:Un (frs X.stack) [] H1 H' s1.heap s'.heap) (hok:HOk X.prog X.w H' s'.heap) (hout:H' ea=none) (hnew:s1.heap.get? ea=none)
  (ff:s'.heap.FunFrames B X.stack) (hB:∀ b o,s'.heap.get? b=some o->b∉frs X.stack->(H' b≠none∨∃ o0,s1.heap.get? b=some o0)->B.get? b=some o) (hE:E cls dd H') (hfl:fl=.none∨fl=rawInt X.env.locals)
  (up:s'.heap.UpToSlots h2) (k1:B.StaysIn h2) (k2:B.get? ea=none) (k3:h2.FunFrames B X.stack) (k4:h2.TracedAtD B ea cls (a0,dd) fl):XF X E (.ref ea) { s' with heap:=h2 }:=by
 refine ⟨pins,σ,H1,s1,ea,cls,dd,H',B,a0,fl,rfl,I,os,bare,un.fly hB k1 up ff,hok.fly hB k1 (I.stkFree2 un),hout,hnew,hfl,k1,k2,k3,k4,fun b o ho nb hor=>?_,hE⟩
 have:∃ o1,s'.heap.get? b=some o1:=by
  rcases hor with y | ⟨o0,y⟩
  .obtain ⟨u,hu⟩:=Option.ne_none_iff_exists'.mp y
   exact (hok b u hu).ex
  .exact un.there b o0 y (fun z=>nomatch z)
 obtain ⟨o1,h1⟩:=this
 have h3:=hB b o1 h1 nb hor
 have h4:=k1 b o1 h3
 rw [ho] at h4
 cases h4
 exact h3
theorem passO (hstk:X.stack=X.env::X.outer /\ X.env.frame=some X.env.locals):PassesOwn (model X.prog X.w) X.A X.env (XF X E):=by
 intro e s' hx
 obtain ⟨pins,σ,H1,s1,ea,cls,dd,H',B,a0,fl,rfl,I,os,bare,un,hok,hout,hnew,hfl,f1,f2,f3,f4,hB,hE⟩:=hx
 have af:X.A.frames=some (X.env::X.outer):=by rw [<- hstk.1];exact I.ok.frames
 have back:∀ h2,s'.heap.UpToSlots h2->B.StaysIn h2->h2.FunFrames B X.stack->h2.TracedAtD B ea cls (a0,dd) (rawInt X.env.locals)->cameBackBy (model X.prog X.w) X.A X.env (XF X E) (.ref ea) { s' with heap:=h2 }:=fun h2 up k1 k3 k4=>by
  obtain ⟨⟨oe,vs,T,oT,ts,he,hcls,hd,h1,hnT,hTe,hT,hdT,h3⟩,_⟩:=id k4
  show wpAny _ _ (do
   if (<- field (.ref ea) 1) == .none then unsupported "frame.own-activation:exception-without-traceback"
   setFlight (.ref ea) X.env.frame) _ _ _
  refine wpAny_bind (wpAny_field he hd h1 ?_)
  rw [if_neg (show ¬ ((Value.ref T == Value.none)=true) from by simp),hstk.2]
  refine wpAny_setFlight_someD k1 k3 k4 fun hh m1 m2 m3 m4=>?_
  have up2:s'.heap.UpToSlots hh:=up.trans fun b o hb hn=>⟨o.slots,m4 b o hb hn⟩
  have:=XF.next (s':=s') (h2:=hh) I os bare un hok hout hnew f3 hB hE (.inr rfl) up2 m1 f2 m2 m3
  exact this
 rcases hfl with rfl | rfl
 .have ff:Heap.FlyingD B (X.env::X.outer) ea cls (a0,dd) s'.heap:=⟨f1,f2,by rw [<- hstk.1];exact f3,f4⟩
  refine wpAny_looks_onD af hstk.2 ff fun h2 hH up=>?_
  obtain ⟨k1,_,k3,k4⟩:=hH
  exact back h2 up k1 (by rw [hstk.1];exact k3) k4
 .refine wpAny_noteFrame_againD hstk.2 f4 ?_
  exact back s'.heap (fun b o hb hn=>⟨o.slots,hb⟩) f1 f3 f4
end
section
variable {P:Program} {w:World} {K:W.Frag} {mg:Str->Option Value} {base:Heap} {N:List Str} {qual:Str} {scope:Scope} {f:Addr} {cd:Value} {A:Around} {outer:List Env} {s:Shared} {H:Hp} {E:XK}
theorem XF.xe {e:Value} {s':Shared} (hx:XF (cxOf (CXE P w) P w K mg base N qual scope f cd A outer s H E) E e s'):(cxOf (CXE P w) P w K mg base N qual scope f cd A outer s H E).xe e s':=by
 obtain ⟨pins,σ,H1,s1,ea,cls,dd,H',B,a0,fl,rfl,I,os,bare,un,hok,hout,hnew,hfl,f1,f2,f3,f4,hB,hE⟩:=hx
 rcases hfl with rfl | rfl
 .exact wpAny_leaves_onD (base:=B) I.ok.frames rfl ⟨f1,f2,f3,f4⟩ fun h' fl' up=>ZC0 I un hok hB f3 up fl' hout hnew os bare hE
 .show wpAny _ _ (leaving _ _) _ _ _
  unfold leaving
  refine wpAny_bind (wpAny_noteFrame_againD rfl f4 ?_)
  refine wpAny_landsD (L:=(cxOf (CXE P w) P w K mg base N qual scope f cd A outer s H E).env.locals) ⟨f1,f2,f3,f4⟩ fun h' hfl up=>?_
  obtain ⟨k1,k2,⟨_,_,k3⟩,k4⟩:=hfl
  exact ZC0 I un hok hB f3 up ⟨k1,k2,k3,k4⟩ hout hnew os bare hE
end
noncomputable def Ehit0 (K:W.Frag) (HC:Addr) (ts:TS) (D:Ends):St->XK:=fun σ cls dd H'=>exmOne K cls (.ref HC)=some true /\ ts D σ H'
noncomputable def tTry0 (K:W.Frag) (HC:Addr) (tb:(St->XK)->TS) (ts:TS):TS:=fun D σ H=>tb (Ehit0 K HC ts D) D σ H
section
variable {X:Cx} {CX:CXT} {k:Nat} {ps:List Str} {sp:Sp} {E:St->XK} {m:Str} {C:Addr} {pos apos:Pos} {o:Expr} {ta:TE}
end
end L2
namespace PySem
section
variable {M:Model} {A:Around} {E:Value->Shared->Prop} {s:Shared}
end
end PySem
namespace L2
open PySem PySem.Spec PySem.W PySem.Calls PyProof.Rows
noncomputable def XN (X:Cx) (E:XK):Value->Shared->Prop:=fun e s'=>∃ (pins:List (Addr×Obj)) (σ:St) (H1:Hp) (s1:Shared) (ea:Addr) (oe:Obj) (vs:Array Value) (a0:Value) (H':Hp),
 e=.ref ea /\ Inv X pins σ H1 s1 /\ s'.os=s1.os /\ AllBare s'.gens /\ Un (frs X.stack) [] H1 H' s1.heap s'.heap /\ HOk X.prog X.w H' s'.heap /\ H' ea=none /\ s1.heap.get? ea=none /\
 s'.heap.get? ea=some oe /\ oe.data=.fields vs /\ vs[1]?=some .none /\ vs[0]?=some a0 /\ E oe.cls oe.dict H'
noncomputable def XG (X:Cx) (E:XK):Value->Shared->Prop:=fun e s'=>XF X E e s'∨XN X E e s'
section
variable {X:Cx} {E:XK}
theorem passOG (hstk:X.stack=X.env::X.outer /\ X.env.frame=some X.env.locals):PassesOwn (model X.prog X.w) X.A X.env (XG X E):=by
 intro e s' hx
 have wk:∀ e s',cameBackBy (model X.prog X.w) X.A X.env (XF X E) e s'->cameBackBy (model X.prog X.w) X.A X.env (XG X E) e s':=fun e s' h=>
  wpAny_mono h (fun _ _ z=>.inl z) fun _ _ z=>.inl z
 rcases hx with hx | hx
 .exact wpAny_mono (passO hstk e s' hx) (fun _ s2 z=>wk _ _ z) fun _ _ z=>wk _ _ z
 obtain ⟨pins,σ,H1,s1,ea,oe,vs,a0,H',rfl,I,os,bare,un,hok,hout,hnew,he,hv,h1,h0,hE⟩:=hx
 have af:X.A.frames=some (X.env::X.outer):=by rw [<- hstk.1];exact I.ok.frames
 have I2:=I.call' (s':=s') os un hok bare fun b z=>nomatch z
 have hin:∀ env∈X.stack,∀ b,env.frame=some b->b∈ea::frs X.stack:=fun env he b hb=>yAJ _ (List.mem_filterMap.mpr ⟨env,he,hb⟩)
 have eh:∀ b∈ea::frs X.stack,(PySem.W.hideAll s'.heap (ea::frs X.stack)).get? b=none:=fun b hb=>PySem.W.hideAll_none _ hb
 have ff:=PySem.W.funFrames_hide I2.stack hin
 have hB:∀ b o,s'.heap.get? b=some o->b∉frs X.stack->(H' b≠none∨∃ o0,s1.heap.get? b=some o0)->(PySem.W.hideAll s'.heap (ea::frs X.stack)).get? b=some o:=fun b o q nb hor=>PySem.W.hideAll_get _ q fun z=>by
  rcases yAG.mp z with z | z
  .subst z
   rcases hor with y | ⟨o0,y⟩
   .exact y hout
   .rw [hnew] at y;cases y
  .exact nb z
 refine wpAny_looks_firstD (a0:=(a0,oe.dict)) (base:=PySem.W.hideAll s'.heap (ea::frs X.stack)) af (by rw [<- hstk.1];exact ff) hstk.2 he (fun b o q=>PySem.W.of_hideAll _ q) (eh ea yAE) hv h1 ⟨h0,rfl⟩ fun h2 hH up=>?_
 obtain ⟨k1,k2,k3,k4⟩:=hH
 refine wk _ _ ?_
 obtain ⟨⟨oe2,vs2,T,oT,ts,he2,hcls2,hd2,h12,hnT,hTe,hT,hdT,h3⟩,_⟩:=id k4
 show wpAny _ _ (do
  if (<- field (.ref ea) 1) == .none then unsupported "frame.own-activation:exception-without-traceback"
  setFlight (.ref ea) X.env.frame) _ _ _
 refine wpAny_bind (wpAny_field he2 hd2 h12 ?_)
 rw [if_neg (show ¬ ((Value.ref T == Value.none)=true) from by simp),hstk.2]
 have k3':h2.FunFrames (PySem.W.hideAll s'.heap (ea::frs X.stack)) X.stack:=by
  have z:=k3
  rw [<- hstk.1] at z
  exact z
 refine wpAny_setFlight_someD k1 k3' k4 fun hh m1 m2 m3 m4=>?_
 have up2:s'.heap.UpToSlots hh:=up.trans fun b o hb hn=>⟨o.slots,m4 b o hb hn⟩
 exact XF.next (s':=s') (h2:=hh) I os bare un hok hout hnew ff hB hE (.inr rfl) up2 m1 k2 m2 m3
end
section
variable {P:Program} {w:World} {K:W.Frag} {mg:Str->Option Value} {base:Heap} {N:List Str} {qual:Str} {scope:Scope} {f:Addr} {cd:Value} {A:Around} {outer:List Env} {s:Shared} {H:Hp} {E:XK}
theorem XG.xe {e:Value} {s':Shared} (hx:XG (cxOf (CXE P w) P w K mg base N qual scope f cd A outer s H E) E e s'):(cxOf (CXE P w) P w K mg base N qual scope f cd A outer s H E).xe e s':=by
 rcases hx with hx | hx
 .exact hx.xe
 obtain ⟨pins,σ,H1,s1,ea,oe,vs,a0,H',rfl,I,os,bare,un,hok,hout,hnew,he,hv,h1,h0,hE⟩:=hx
 exact raisedD I un hok os bare hnew hout he rfl rfl hv h1 h0 hE
theorem PS.inG {st:Stmt} {t:TS} (h:PS ((cxOf (CXE P w) P w K mg base N qual scope f cd A outer s H E).wish (XG (cxOf (CXE P w) P w K mg base N qual scope f cd A outer s H E) E)) st t):PS (cxOf (CXE P w) P w K mg base N qual scope f cd A outer s H E) st t:=fun pins s1 σ H1 D I hw=>
 wpAny_mono (h pins s1 σ H1 D (I.wish _) hw) (fun _ _ q=>q.unwish) fun _ _ z=>z.xe
end
section
variable {X:Cx} {E:XK} {CX:CXT} {k:Nat} {C:Addr} {ps:List Str} {sp:Sp} {x:Str} {np cpos pos:Pos} {e:Expr} {es:List Expr} {t:TA}
theorem ps_raiseG (F:XKl X.prog X.w X.K X.mg X.base CX x C k ps sp) (hr:Room (k+1) X.A) (hc:X.calm=true) (hg:Gl X x) (hx:ZB2 CX (X.wish (XG X E)) E0)
  (ha:PA (X.wish (XG X E)) (e::es) t) (hdb:(x == ("__debug__":Str))=false:=by decide) (he:starEach (e::es) X.env=(false,eval e X.env)::starEach es X.env:=by rfl) (hpl:(backTo cpos (starEach es X.env)).any (·.1)=false:=by rfl) :
  PS (X.wish (XG X E)) (.Raise (some (.Call (.Name x np) (e::es) [] cpos)) none pos) (ZCV E C sp t):=by
 obtain ⟨fI,fd,F,hb,M⟩:=F.ex
 rename_i F0
 intro pins s1 σ H1 D I h
 obtain ⟨bm,N',nm,qn,bs,hdct,sn,sub,ab,col,d0,k0,k1,k2,k3,k5,mN,hC,hN,hni,T,hKC⟩:=ZCM I.kIn M.ii
 rw [arm_exec_Raise]
 simp only [evalOpt,Option.map]
 refine wpAny_bind (wpAny_standAt (raiseStmt_madeD (C:=C) (nm:=nm) (q:=qn) (N:=N') (bs:=bs) (bm:=bm) (hdct:=hdct) (sn:=sn) (sub:=sub) (ab:=ab) (col:=col) (dd:=d0) (k0:=k0) (k1:=k1) (k2:=k2) (k3:=k3) (k5:=k5) (newId:="ValueError.__new__") (T.hasType PySem.F.excBase_ValueError.hasBase) (I.ok.hd hc) ?_))
 refine wpAny_bind (wpAny_Call_Name_kw (ZBc (X:=X.wish (XG X E)) I hg F0.mgC ?_ hdb))
 refine PySem.W.callWith_K (h₀:=X.base) I.ok.mod.kin M.kp (thn (ha cpos pins s1 σ H1 _ I h) fun us s2 zz=>?_) he hpl
 obtain ⟨vs,H2,I2,r,hl,q⟩:=zz
 refine ⟨I2.kIn,?_⟩
 refine run_xmake (X:=X.wish (XG X E)) (us:=us) (Q:=fun v H3=>match v with | .ref x=>∃ dd,H3 x=some (excM x (.ref C) dd) /\ E (.ref C) dd (forget H3 x) | _=>False) M F hr hb hx I2 r (by rw [<- r.length,sizeLine_eq];omega) q fun a H3 s3 hn hH un hok ho hba q2=>?_
 obtain ⟨dd,hxM,hE⟩:=q2
 obtain ⟨o,vs',a0,z1,z2,z3,z4,z5,z6⟩:=ZBW hok hxM
 have I3:=I2.call' (s':=s3) ho un hok hba fun b z=>nomatch z
 refine wpAny_bind (wpAny_standAt (wpAny_pure ?_))
 refine ⟨a,o,vs',rfl,I3.kIn _ _ hKC,z1,z2,z4,z5,?_⟩
 exact .inr ⟨pins,σ,H2,s2,a,o,vs',a0,_,rfl,I2.unwish,ho,hba,un.forget hn hH,hok.forget hxM,forget_same,hn,z1,z4,z5,z6,by rw [z2,z3];exact hE⟩
end
open PySem PySem.Spec PyProof.Rows
section
variable {X:Cx}
theorem ZBv:OpR X (binaryOp .Add) (fun x y H Q=>∃ i j,x=.str i /\ y=.str j /\ i.length+j.length <= 2000000 /\ Q (.str (i++j)) H):=by
 intro pins s σ H x y v u Q I rx ry h
 obtain ⟨i,j,rfl,rfl,hz,q⟩:=h
 obtain ⟨t,rfl⟩:=rx
 obtain ⟨t',rfl⟩:=ry
 exact SB.add (fun t' k=>⟨.str (i++j),H,I.tok _,⟨_,rfl⟩,q⟩) (by rw [sizeLine_eq];omega)
theorem strs_of:∀ {ys:List Str} {us:List Value},Vals (ys.map V.str) us->StrsAre us ys
 | [],_,r=>by cases r;exact .nil
 | y::ys,_,r=>by
  rw [yAY] at r
  cases r with
  | cons r1 r2=>
   obtain ⟨t,rfl⟩:=r1
   exact .cons y t (strs_of r2)
theorem mt_join:MtR X "str.join" (fun x vs H Q=>∃ (z:Str) (l:Addr) (ys:List Str),x=.str z /\ vs=[.ref l] /\ SqL X.K H l (ys.map V.str) /\ z.length <= 16 /\ (ys.map (·.length)).sum+ys.length <= 1048576 /\ Q (.str (Str.join z ys)) H):=by
 intro pins s σ H x vs v us Q I rx rv h
 obtain ⟨z,l,ys,rfl,rfl,hl,hz,hw,q⟩:=h
 obtain ⟨t,rfl⟩:=rx
 obtain ⟨u,rfl,ry⟩:=ZBg rv
 cases (show u=Value.ref l from ry)
 obtain ⟨its,r',pl,_⟩:=I.list hl
 exact join_listW pl.isList (by simpa using strs_of r') hz hw fun t' k=>⟨.str (Str.join z ys),H,I.tok _,⟨_,by rw [show Txt.join z ys=Str.join z ys from StrLaws.glued_eq_join z ys]⟩,q⟩
end
noncomputable def forT (K:W.Frag) (g:TG) (tb:TS) (D:Ends) (σ:St) (x:V) (H1:Hp):Prop:=∃ a,x=.ref a /\ (∃ xs,SqT K H1 a xs) /\ ∃ W:Nat->Nat->St->Hp->Prop,(∃ m,W 0 m σ H1) /\ ∀ i m σ H,W i m σ H ->
 ((Itt K a).stop i H /\ D.nx σ H)∨((Itt K a).go i H /\ ∃ N:St->Hp->Prop,(∀ σ' H',N σ' H'->∃ m',m' < m /\ W (i+1) m' σ' H') /\ ∀ x H',(Itt K a).yld i H x H'->g x σ H' fun σ2 H2=>tb { D with nx:=N,ct:=N,bk:=D.nx } σ2 H2)
theorem tForT_eq {K:W.Frag} {tl:TE} {g:TG} {tb:TS} {D:Ends} {σ:St} {H:Hp}:tFor (iTup K tl) g tb D σ H=tl σ H (fun x H1=>forT K g tb D σ x H1):=rfl
noncomputable def compT (K:W.Frag) (g:TG) (tt:TT) (te:TE) (σ0:St) (Q:VK) (x:V) (H1:Hp):Prop:=∃ a,x=.ref a /\ (∃ xs,SqT K H1 a xs) /\ ∃ W:Nat->Nat->List V->St->Hp->Prop,(∃ m,W 0 m [] σ0 H1) /\ ∀ i m ys σ H,W i m ys σ H ->
 ((Itt K a).stop i H /\ ys.length <= sizeLine /\ ∀ p,H p=none->Q (.ref p) (upd H p (.lst ys))) ∨
 ((Itt K a).go i H /\ ys.length < sizeLine /\ ∀ x H',(Itt K a).yld i H x H'->g x σ H' fun σ2 H2=>tt σ2 H2 fun b H3=>if b=true then te σ2 H3 fun y H4=>∃ m',m' < m /\ W (i+1) m' (ys++[y]) σ2 H4 else ∃ m',m' < m /\ W (i+1) m' ys σ2 H3)
theorem tCompT_eq {k:Nat} {js:List Nat} {K:W.Frag} {tl:TE} {g:TG} {tt:TT} {te:TE} {σ:St} {H:Hp} {Q:VK}:ZB3 k js (iTup K tl) g tt te σ H Q=tl σ H (fun x H1=>compT K g tt te (up k js σ) Q x H1):=rfl
section
variable {X:Cx}
theorem mt_startswith:MtR X "str.startswith" (fun x vs H Q=>∃ (z y:Str),x=.str z /\ vs=[.str y] /\ Q (.bl (Txt.startswith z y)) H):=by
 intro pins s σ H x vs v us Q I rx rv h
 obtain ⟨z,y,rfl,rfl,q⟩:=h
 obtain ⟨t,rfl⟩:=rx
 obtain ⟨u,rfl,ry⟩:=ZBg rv
 obtain ⟨t',rfl⟩:=(show ∃ t,u=Value.str y t from ry)
 exact SC.startswith ⟨.bl _,H,I,rfl,q⟩
theorem vals_strs:∀ (l:List (Str×Tok)),Vals ((l.map (·.1)).map V.str) (strValues l)
 | []=>.nil
 | p::l=>.cons ⟨p.2,rfl⟩ (vals_strs l)
theorem ZBm (z:Str) (c:Nat):(Builtin.Str.partsBetween z (Builtin.Str.occurrences z ⟨#[c]⟩ 0 z.length (z.length+1)) (⟨#[c]⟩:Str).length).length <= z.length+2:=by
 have h:=StrLaws.occ_length_le z ⟨#[c]⟩ 0 z.length (z.length+1)
 unfold Builtin.Str.partsBetween
 rw [yAB,List.length_zip,yBF,yAB,yAQ]
 have:([z.length]:List Nat).length=1:=rfl
 omega
theorem ZBY {pins:List (Addr×Obj)} {s:Shared} {σ:St} {H:Hp} {Q:VK} (I:Inv X pins σ H s) (l:List (Str×Tok)) (ys:List Str) (tk:Nat) (e:l.map (·.1)=ys) (hz:ys.length <= sizeLine) (q:∀ l,H l=none->Q (.ref l) (upd H l (.lst (ys.map V.str)))) :
  EP X pins σ Q (.ref s.heap.objs.size) { s with heap:=s.heap.push { cls:=.type "list",data:=.seq (strValues l).toArray },toks:=tk } :=
 ⟨.ref s.heap.objs.size,_,I.laid (t':=tk) (o:=.lst (ys.map V.str)) (fun b ob q=>Heap.get?_push_of_some _ q) (yAA _) ⟨by rw [yAB];exact hz,strValues l,0,by rw [<- e];exact vals_strs l,Heap.get?_push_size _ rfl⟩,rfl,q _ (I.hok.fresh (yAA _))⟩
theorem ZBj:MtR X "str.split" (fun x vs H Q=>∃ (z:Str) (c:Nat),x=.str z /\ vs=[.str ⟨#[c]⟩] /\ z.length <= 1000000 /\ ∀ l,H l=none->Q (.ref l) (upd H l (.lst ((Txt.split z ⟨#[c]⟩).map V.str)))):=by
 intro pins s σ H x vs v us Q I rx rv h
 obtain ⟨z,c,rfl,rfl,hz,q⟩:=h
 obtain ⟨t,rfl⟩:=rx
 obtain ⟨u,rfl,ry⟩:=ZBg rv
 obtain ⟨u,rfl⟩:=(show ∃ t,u=Value.str ⟨#[c]⟩ t from ry)
 have hl:=ZBm z c
 have hz1:z.length <= sizeLine:=by rw [sizeLine_eq];omega
 have hz2:=yAC hl (show z.length+2 <= sizeLine by rw [sizeLine_eq];omega)
 have hy:((⟨#[c]⟩:Str).length == 0)=false:=rfl
 have one:([z]:List Str).length <= sizeLine:=ZAV (show 1 <= 1000 by decide)
 cases h1:(decide (z.length < (⟨#[c]⟩:Str).length) || decide (Builtin.Str.strKind z < Builtin.Str.strKind ⟨#[c]⟩))
 .cases hf:(Builtin.Str.occurrences z ⟨#[c]⟩ 0 z.length (z.length+1)).isEmpty
  .have es:Txt.split z ⟨#[c]⟩=Builtin.Str.partsBetween z (Builtin.Str.occurrences z ⟨#[c]⟩ 0 z.length (z.length+1)) (⟨#[c]⟩:Str).length:=(if_neg (ne_true_of_eq_false h1)).trans (if_neg (ne_true_of_eq_false hf))
   refine call_meets F.slot_str_split (typeIs_str _ _ _) F.entry_str_split (F.args_str_split_2 _ _) (meets_str_split_sep z ⟨#[c]⟩ t u h1 hy hf hz1 hz2) ?_
   show wants (EP X pins σ Q) X.xe _ { s with toks:=_,heap:=s.heap.push { cls:=.type "list",data:=.seq (strsFrom s.toks (Builtin.Str.partsBetween z (Builtin.Str.occurrences z ⟨#[c]⟩ 0 z.length (z.length+1)) (⟨#[c]⟩:Str).length)).toArray } }
   rw [strsFrom_eq]
   exact ZBY I (numbered s.toks _) _ _ ((numbered_texts _ _).trans es.symm) (by rw [es];exact hz2) q
  .have es:Txt.split z ⟨#[c]⟩=[z]:=(if_neg (ne_true_of_eq_false h1)).trans (if_pos hf)
   exact call_meets F.slot_str_split (typeIs_str _ _ _) F.entry_str_split (F.args_str_split_2 _ _) (meets_str_split_not_found z ⟨#[c]⟩ t u h1 hy hf) (ZBY I [(z,t)] _ _ es.symm (by rw [es];exact one) q)
 .have es:Txt.split z ⟨#[c]⟩=[z]:=if_pos h1
  exact call_meets F.slot_str_split (typeIs_str _ _ _) F.entry_str_split (F.args_str_split_2 _ _) (meets_str_split_cannot_occur z ⟨#[c]⟩ t u h1) (ZBY I [(z,t)] _ _ es.symm (by rw [es];exact one) q)
theorem ZBR:SlR X (fun x lo hi H Q=>∃ z:Str,x=.str z /\ z.length <= 1000000 /\ Q (.str (Txt.slice z lo hi)) H):=by
 intro pins s σ H x v vl vu lo hi sl Q I rx hs pl pu h
 obtain ⟨z,rfl,hz,q⟩:=h
 obtain ⟨t,rfl⟩:=rx
 have hl:∃ l:Option (Int×Tok),vl=partValue l /\ l.map (·.1)=lo:=by
  cases pl with
  | none=>exact ⟨none,rfl,rfl⟩
  | int i t=>exact ⟨some (i,t),rfl,rfl⟩
 have hu:∃ l:Option (Int×Tok),vu=partValue l /\ l.map (·.1)=hi:=by
  cases pu with
  | none=>exact ⟨none,rfl,rfl⟩
  | int i t=>exact ⟨some (i,t),rfl,rfl⟩
 obtain ⟨l,rfl,rfl⟩:=hl
 obtain ⟨u,rfl,rfl⟩:=hu
 refine ⟨"str",_,F.slot_str_getitem.lookup,typeIs_str _ _ _,wpAny_getItem_str_slice (l:=l) (u:=u) (st:=none) hs rfl (post_val_or_str ⟨yAC (Txt.slice_le z _ _) (by rw [sizeLine_eq];omega),fun t' k=>⟨.str _,H,I.tok _,⟨_,rfl⟩,q⟩⟩)⟩
noncomputable def Its (z:Str):It where
 go:=fun i _=>i < z.length
 yld:=fun i H v H'=>H'=H /\ ∃ c,z.cps[i]?=some c /\ v=.str ⟨#[c]⟩
 stop:=fun i _=>i=z.length
theorem turn_str {P:Program} {w:World} {K:W.Frag} {tg:Expr} (z:Str) (t:Tok) (it:Addr):Turn P w K tg (Its z) [it] it (fun i h=>h.IsStrIter it "str_ascii_iterator" z t i) where
 mem:=by simp
 obj:=fun i h st b hb=>by
  have e:b=it:=by simpa using hb
  subst e
  obtain ⟨o,e,c,d⟩:=st
  exact ⟨o,e,fun v z=>by rw [d] at z;cases z⟩
 keep:=fun i h h' st k=>let ⟨o,ho,r⟩:=st;⟨o,k it (by simp) o ho,r⟩
 item:=by
  intro X hP hw hK hc i pins s σ H E I hf st hg
  subst hP hw hK
  obtain ⟨f0,f1,f2,f3,f4,f5⟩:=hf it (by simp)
  have W:=Walks.strAscii (prog:=X.prog) (w:=X.w) (I.ok.hd hc) it z t
  refine W.item i s _ _ hg st fun v h' tk hv st' kk=>?_
  obtain ⟨c,u,h1,rfl⟩:=hv
  have I1:Inv X pins σ H { s with heap:=h',toks:=tk }:=I.turned (fun b o hb e=>kk b o (by simpa using hb) e) f0 f1 f3 f4 f5
  obtain ⟨o,e,c',d⟩:=id st'
  exact ⟨_,rfl,ZC5 (s:={ s with heap:=h',toks:=tk }) e c' d (by decide) ⟨.str ⟨#[c]⟩,H,I1,⟨u,rfl⟩,⟨rfl,c,h1,rfl⟩,st',fun b hb=>(hf b hb).1⟩⟩
 done:=by
  intro X hP hw hK hc i pins s σ H E I hf st hg
  subst hP hw hK
  obtain ⟨f0,f1,f2,f3,f4,f5⟩:=hf it (by simp)
  have W:=Walks.strAscii (prog:=X.prog) (w:=X.w) (I.ok.hd hc) it z t
  have e:i=z.length:=hg
  subst e
  exact W.done s _ _ st fun h' tk kk=>⟨rfl,I.turned (fun b o hb e=>kk b o (by simpa using hb) e) f0 f1 f3 f4 f5⟩
 self:=fun _ _ _ _ _ st h=>wpAny_pyIter_striter_ascii st h
noncomputable def iStr (tl:TE):TI:=fun σ H R=>tl σ H fun x H1=>∃ z:Str,x=.str z /\ z.cps.all (· < 128)=true /\ R (Its z) H1
theorem pi_str {tg l:Expr} {tl:TE} (hl:PE X l tl):PI X tg l (iStr tl):=by
 intro pins s σ H R I h
 refine thn (hl pins s σ H _ I h) fun v s1 zz=>?_
 obtain ⟨x,H1,I1,r1,q1⟩:=zz
 obtain ⟨z,e,ha,q⟩:=q1
 subst e
 obtain ⟨t,rfl⟩:=r1
 refine wpAny_pyIter_ascii ha ?_
 refine ⟨s1.heap.objs.size,[s1.heap.objs.size],_,_,H1,rfl,I1.kept (t':=s1.toks) fun b o e=>Heap.get?_push_of_some _ e,turn_str z t _,⟨_,Heap.get?_push_size _ rfl,rfl,rfl⟩,fun b hb=>?_,q⟩
 have e:b=s1.heap.objs.size:=by simpa using hb
 subst e
 exact I1.fpOk (yAA _) (I1.hok.fresh (yAA _))
end
theorem comp_str {z:Str} {g:TG} {tt:TT} {te:TE} {Q:VK} {σ0:St} {H:Hp} (P:Nat->List V->St->Hp->Prop) (h0:P 0 [] σ0 H) (hl:∀ i ys σ H,i <= z.length->P i ys σ H->ys.length <= i) (hz:z.length <= sizeLine)
  (hs:∀ i ys c σ H,i < z.length->z.cps[i]?=some c->P i ys σ H->g (.str ⟨#[c]⟩) σ H fun σ2 H2=>tt σ2 H2 fun b H3=>if b=true then te σ2 H3 fun y H4=>Nxt P z.length i (ys++[y]) σ2 H4 else Nxt P z.length i ys σ2 H3)
  (hd:∀ ys σ H,P z.length ys σ H->∀ p,H p=none->Q (.ref p) (upd H p (.lst ys))) :
  ∃ W:Nat->Nat->List V->St->Hp->Prop,(∃ m,W 0 m [] σ0 H) /\ ∀ i m ys σ H,W i m ys σ H ->
   ((Its z).stop i H /\ ys.length <= sizeLine /\ ∀ p,H p=none->Q (.ref p) (upd H p (.lst ys))) ∨
   ((Its z).go i H /\ ys.length < sizeLine /\ ∀ x H',(Its z).yld i H x H'->g x σ H' fun σ2 H2=>tt σ2 H2 fun b H3=>if b=true then te σ2 H3 fun y H4=>∃ m',m' < m /\ W (i+1) m' (ys++[y]) σ2 H4 else ∃ m',m' < m /\ W (i+1) m' ys σ2 H3):=by
 refine ⟨fun i m ys σ H=>m=z.length-i /\ i <= z.length /\ P i ys σ H,⟨z.length,by simp,yAR _,h0⟩,?_⟩
 rintro i m ys σ H ⟨rfl,hi,p⟩
 have ly:=hl i ys σ H hi p
 by_cases hlt:i < z.length
 .refine .inr ⟨hlt,by omega,fun x H' y=>?_⟩
  obtain ⟨e,c,h1,e2⟩:=y
  subst e
  subst e2
  exact hs i ys c σ _ hlt h1 p
 .have e:i=z.length:=by omega
  subst e
  exact .inl ⟨rfl,by omega,hd ys σ H p⟩
noncomputable def compS (g:TG) (tt:TT) (te:TE) (σ0:St) (Q:VK) (x:V) (H1:Hp):Prop:=∃ z:Str,x=.str z /\ z.cps.all (· < 128)=true /\ ∃ W:Nat->Nat->List V->St->Hp->Prop,(∃ m,W 0 m [] σ0 H1) /\ ∀ i m ys σ H,W i m ys σ H ->
 ((Its z).stop i H /\ ys.length <= sizeLine /\ ∀ p,H p=none->Q (.ref p) (upd H p (.lst ys))) ∨
 ((Its z).go i H /\ ys.length < sizeLine /\ ∀ x H',(Its z).yld i H x H'->g x σ H' fun σ2 H2=>tt σ2 H2 fun b H3=>if b=true then te σ2 H3 fun y H4=>∃ m',m' < m /\ W (i+1) m' (ys++[y]) σ2 H4 else ∃ m',m' < m /\ W (i+1) m' ys σ2 H3)
theorem tCompS_eq {k:Nat} {js:List Nat} {tl:TE} {g:TG} {tt:TT} {te:TE} {σ:St} {H:Hp} {Q:VK}:ZB3 k js (iStr tl) g tt te σ H Q=tl σ H (fun x H1=>compS g tt te (up k js σ) Q x H1):=rfl
theorem compS_of {z:Str} {g:TG} {tt:TT} {te:TE} {Q:VK} {σ0:St} {H:Hp} (ha:z.cps.all (· < 128)=true) (hz:z.length <= 1000) (P:Nat->List V->St->Hp->Prop) (h0:P 0 [] σ0 H) (hl:∀ i ys σ H,i <= z.length->P i ys σ H->ys.length <= i)
  (hs:∀ i ys c σ H,i < z.length->z.cps[i]?=some c->P i ys σ H->g (.str ⟨#[c]⟩) σ H fun σ2 H2=>tt σ2 H2 fun b H3=>if b=true then te σ2 H3 fun y H4=>Nxt P z.length i (ys++[y]) σ2 H4 else Nxt P z.length i ys σ2 H3)
  (hd:∀ ys σ H,P z.length ys σ H->∀ p,H p=none->Q (.ref p) (upd H p (.lst ys))):compS g tt te σ0 Q (.str z) H:=⟨z,rfl,ha,comp_str P h0 hl (ZAV hz) hs hd⟩
open PySem
section
local macro_rules | `(sortPriv% $n:ident)=>return Lean.mkCIdent (Lean.mkPrivateNameCore `PySem.Builtin.Int.W0All n.getId)
local macro_rules | `(tactic| walk_at "rn")=>do let x:=Lean.mkCIdent (Lean.mkPrivateNameCore `PySem.Builtin.Int.W0All `PySem.Builtin.readNumeral);`(tactic| unfold $x:ident)
noncomputable def dgs (n:Nat):List Nat:=(Nat.toDigits 10 n).map Char.toNat
theorem dgs_dig {n c:Nat} (h:c∈dgs n):48 <= c /\ c <= 57:=by
 obtain ⟨d,hd,rfl⟩:=List.mem_map.mp h
 have:=Nat.isDigit_of_mem_toDigits (by decide) (by decide) hd
 unfold Char.isDigit at this
 rw [yAT,decide_eq_true_iff,decide_eq_true_iff] at this
 obtain ⟨a,b⟩:=this
 exact ⟨a,b⟩
theorem int_cps (n:Int):(Str.ofString (toString n)).cps.toList=if 0 <= n then dgs n.toNat else 45::dgs (-n).toNat:=by
 rw [Str.ofString_eq_toList]
 show (toString n).toList.map Char.toNat=_
 rw [show toString n=n.repr from rfl,Int.repr_eq_if]
 by_cases h:0 <= n
 .rw [if_pos h,if_pos h,Nat.toList_repr];rfl
 .rw [if_neg h,if_neg h,String.toList_append,Nat.toList_repr,yAN];rfl
theorem foldM_push {F:Array Nat×Bool->Nat->Option (Array Nat×Bool)} (hF:∀ s c,48 <= c /\ c <= 57->F s c=some (s.1.push (c-48),true)):∀ (L:List Nat) (s:Array Nat×Bool),(∀ c∈L,48 <= c /\ c <= 57)->(s.2=true∨L≠[])->L.foldlM F s=some (s.1++(L.map (· - 48)).toArray,true)
 | [],s,_,h=>by
  rcases h with h | h
  .show some s=_
   rw [<- h];simp
  .exact absurd rfl h
 | c::L,s,h,_=>by
  rw [List.foldlM_cons,hF s c (h c yAE)]
  refine (foldM_push hF L (s.1.push (c-48),true) (fun d hd=>h d (yAJ _ hd)) (.inl rfl)).trans ?_
  simp
theorem dv_dig {c:Nat} (h:48 <= c /\ c <= 57):(sortPriv% PySem.Builtin.digitValue?) c=some (c-48) :=
 if_pos (by rw [decide_eq_true h.1,decide_eq_true h.2];rfl)
theorem nd_dgs (L:List Nat) (h:∀ c∈L,48 <= c /\ c <= 57) (hn:L≠[]):(sortPriv% PySem.Builtin.numeralDigits?) 10 L=some (L.map (· - 48)).toArray:=by
 have e:(sortPriv% PySem.Builtin.numeralDigits?) 10 L=(L.foldlM _ ((#[]:Array Nat),false) >>= _):=rfl
 rw [e,foldM_push (fun s c hc=>?_) L _ h (.inr hn)]
 .show some _=some _
  simp
 .show (if (c == 95)=true then _ else _)=_
  rw [if_neg (by simp;omega)]
  show (match (sortPriv% PySem.Builtin.digitValue?) c with | some d=>if d < 10 then some (s.1.push d,true) else none | none=>none)=_
  rw [dv_dig hc]
  exact if_pos (by omega)
theorem blank_dig {c:Nat} (h:48 <= c /\ c <= 57∨c=45):(sortPriv% PySem.Builtin.isBlank) c=false:=by
 show (c == 32 || (decide (9 <= c) && decide (c <= 13)))=false
 rw [Bool.or_eq_false_iff,Bool.and_eq_false_iff]
 refine ⟨by simp;omega,.inr (by simp;omega)⟩
theorem drop_dig (L:List Nat) (h:∀ c∈L,(48 <= c /\ c <= 57)∨c=45):L.dropWhile (sortPriv% PySem.Builtin.isBlank)=L:=by
 cases L with
 | nil=>rfl
 | cons c L=>rw [List.dropWhile_cons,blank_dig (h c yAE)];rfl
theorem pb_dig (L:List Nat) (h:∀ c∈L,48 <= c /\ c <= 57):(sortPriv% PySem.Builtin.prefixBase?) L=none:=by
 rcases L with _ | ⟨a,_ | ⟨b,L⟩⟩
 .rfl
 .by_cases e:a=48
  .subst e;rfl
  .have ha:=h a (by simp)
   obtain rfl | rfl | rfl | rfl | rfl | rfl | rfl | rfl | rfl:a=49∨a=50∨a=51∨a=52∨a=53∨a=54∨a=55∨a=56∨a=57:=by omega
   all_goals rfl
 .have hb:=h b (by simp)
  by_cases e:a=48
  .subst e
   show (if (b == 120 || b == 88)=true then _ else if (b == 111 || b == 79)=true then _ else if (b == 98 || b == 66)=true then _ else _)=_
   rw [if_neg (by simp;omega),if_neg (by simp;omega),if_neg (by simp;omega)]
  .have ha:=h a (by simp)
   obtain rfl | rfl | rfl | rfl | rfl | rfl | rfl | rfl | rfl:a=49∨a=50∨a=51∨a=52∨a=53∨a=54∨a=55∨a=56∨a=57:=by omega
   all_goals rfl
theorem rev_dig (L:List Nat) (h:∀ c∈L,48 <= c /\ c <= 57):(L.reverse.dropWhile (sortPriv% PySem.Builtin.isBlank)).reverse=L:=by
 rw [drop_dig L.reverse fun c hc=>.inl (h c (List.mem_reverse.mp hc)),List.reverse_reverse]
theorem rn_dgs (L M:List Nat) (neg:Bool) (hM:M=if neg then 45::L else L) (h:∀ c∈L,48 <= c /\ c <= 57) (hn:L≠[]) (hl:L.length <= 640):(sortPriv% PySem.Builtin.readNumeral) 0 10 M=(sortPriv% PySem.Builtin.Numeral.value) (if neg then -((L.foldl (fun a c=>a * 10+(c-48)) 0:Nat):Int) else (L.foldl (fun a c=>a * 10+(c-48)) 0:Nat)):=by
 have hd:∀ c∈M,(48 <= c /\ c <= 57)∨c=45:=fun c hc=>by
  rw [hM] at hc
  cases neg with
  | true=>
   rcases yAG.mp hc with z | z
   .exact .inr z
   .exact .inl (h c z)
  | false=>exact .inl (h c hc)
 walk_at "rn"
 dsimp (config:={iota:=false,proj:=false,etaStruct:=.none}) only
 rw [drop_dig _ hd]
 split
 rename_i a negative t e
 have et:negative=neg /\ t=L:=by
  cases neg with
  | true=>rw [hM] at e;cases e;exact ⟨rfl,rfl⟩
  | false=>
   rw [if_neg yAH] at hM
   subst hM
   split at e
   .have:=h 45 yAE;omega
   .have:=h 43 yAE;omega
   .cases e;exact ⟨rfl,rfl⟩
 obtain ⟨rfl,rfl⟩:=et
 clear e
 split
 rename_i a2 b z t2 e
 rw [pb_dig t h] at e
 cases e
 rw [rev_dig t h,nd_dgs t h hn]
 dsimp only
 rw [if_neg (by simp),if_neg (by simp;omega),if_neg (by simp)]
 rw [List.foldl_toArray,List.foldl_map]
theorem ni_int:typeLookup (.type "str") "__int__"=pure none:=by rw [typeLookup_type,builtinLookup_eq_fast];kernel_rfl
theorem ni_index:typeLookup (.type "str") "__index__"=pure none:=by rw [typeLookup_type,builtinLookup_eq_fast];kernel_rfl
theorem ni_trunc:typeLookup (.type "str") "__trunc__"=pure none:=by rw [typeLookup_type,builtinLookup_eq_fast];kernel_rfl
theorem int_text (x:Str) (t:Tok) (i:Int) (ha:x.cps.all (· < 128)=true) (h0:x.cps.toList.takeWhile (· != 0)=x.cps.toList) (hl:x.cps.toList.length <= 640) (hr:(sortPriv% PySem.Builtin.readNumeral) 0 10 x.cps.toList=(sortPriv% PySem.Builtin.Numeral.value) i):Meets (Builtin.«int.__new__» ⟨[.type "int",.str x t],[]⟩) (Made.int i).spec :=
 Meets.of_wp fun prog w A R s hs=>by
  obtain ⟨hp,g,d,tk,os⟩:=s
  have f1:=F.conv_sub_int
  have f2:=F.madeHere_int
  have hT:(⟨hp,g,d,tk,os⟩:Shared).TypeIs (.str x t) "str":=rfl
  have f3:=ni_int
  have f4:=ni_index
  have f5:=ni_trunc
  repeat (any_goals (first | assumption | wp_step))
  rw [if_pos ha,h0,if_pos hl]
  refine wpAny_bind (wpAny_pure ?_)
  simp only [hr,beq_self_eq_true,if_true]
  repeat (any_goals (first | assumption | wp_step))
  all_goals exact ⟨_,rfl,hs⟩
end
theorem tw_all {p:Nat->Bool}:∀ {M:List Nat},(∀ c∈M,p c=true)->M.takeWhile p=M
 | [],_=>rfl
 | c::M,h=>by rw [List.takeWhile_cons,if_pos (h c yAE),tw_all fun d hd=>h d (yAJ _ hd)]
theorem int_txt {L M:List Nat} {neg:Bool} (hM:M=if neg then 45::L else L) (h:∀ c∈L,48 <= c /\ c <= 57):(M.all (· < 128)=true) /\ M.takeWhile (· != 0)=M:=by
 have hd:∀ c∈M,(48 <= c /\ c <= 57)∨c=45:=fun c hc=>by
  rw [hM] at hc
  cases neg with
  | true=>
   rcases yAG.mp hc with z | z
   .exact .inr z
   .exact .inl (h c z)
  | false=>exact .inl (h c hc)
 refine ⟨yAV.mpr fun c hc=>decide_eq_true (by have:=hd c hc;omega),?_⟩
 refine tw_all fun c hc=>?_
 have:=hd c hc
 simp
 omega
open PySem.Spec PyProof.Rows
noncomputable def vlD (L:List Nat):Nat:=L.foldl (fun a c=>a * 10+(c-48)) 0
theorem call_intS {X:Cx}:ZBX X (.type "int") (fun xs H Q=>∃ (z:Str) (L:List Nat) (neg:Bool),xs=[.str z] /\ z.cps.toList=(if neg then 45::L else L) /\ (∀ c∈L,48 <= c /\ c <= 57) /\ L≠[] /\ L.length <= 600 /\ Q (.int (if neg then -(vlD L:Int) else vlD L)) H):=by
 intro pins s σ H xs us Q I rv h
 obtain ⟨z,L,neg,rfl,hz,hd,hn,hl,q⟩:=h
 obtain ⟨u,rfl,ry⟩:=ZBg rv
 obtain ⟨t,rfl⟩:=(show ∃ t,u=Value.str z t from ry)
 obtain ⟨h1,h2⟩:=int_txt hz hd
 have hlen:z.cps.toList.length <= 640:=by rw [hz];cases neg <;> simp <;> omega
 exact call_int_1 (int_text z t _ (by rw [<- Array.all_toList];exact h1) h2 hlen (rn_dgs L _ neg hz hd hn (by omega))) (show (Made.int _).post _ s from ⟨rfl,⟨.int _,H,I.tok _,⟨_,rfl⟩,q⟩⟩)
theorem mt_find {X:Cx}:MtR X "str.find" (fun x vs H Q=>∃ (z y:Str),x=.str z /\ vs=[.str y] /\ Q (.int (Txt.find z y)) H):=by
 intro pins s σ H x vs v us Q I rx rv h
 obtain ⟨z,y,rfl,rfl,q⟩:=h
 obtain ⟨t,rfl⟩:=rx
 obtain ⟨u,rfl,ry⟩:=ZBg rv
 obtain ⟨t',rfl⟩:=(show ∃ t,u=Value.str y t from ry)
 exact SC.find ⟨.int _,H,I.tok _,⟨_,rfl⟩,q⟩
noncomputable def forS (g:TG) (tb:TS) (D:Ends) (σ:St) (x:V) (H1:Hp):Prop:=∃ z:Str,x=.str z /\ z.cps.all (· < 128)=true /\ ∃ W:Nat->Nat->St->Hp->Prop,(∃ m,W 0 m σ H1) /\ ∀ i m σ H,W i m σ H ->
 ((Its z).stop i H /\ D.nx σ H)∨((Its z).go i H /\ ∃ N:St->Hp->Prop,(∀ σ' H',N σ' H'->∃ m',m' < m /\ W (i+1) m' σ' H') /\ ∀ x H',(Its z).yld i H x H'->g x σ H' fun σ2 H2=>tb { D with nx:=N,ct:=N,bk:=D.nx } σ2 H2)
theorem tForS_eq {tl:TE} {g:TG} {tb:TS} {D:Ends} {σ:St} {H:Hp}:tFor (iStr tl) g tb D σ H=tl σ H (fun x H1=>forS g tb D σ x H1):=rfl
theorem forS_of {z:Str} {g:TG} {tb:TS} {D:Ends} {σ:St} {H:Hp} (ha:z.cps.all (· < 128)=true) (Pv:Nat->St->Hp->Prop) (h0:Pv 0 σ H)
  (hs:∀ i c σ H,i < z.length->z.cps.toList[i]?=some c->Pv i σ H->g (.str ⟨#[c]⟩) σ H fun σ2 H2=>tb { D with nx:=Pv (i+1),ct:=Pv (i+1),bk:=D.nx } σ2 H2) (hd:∀ σ H,Pv z.length σ H->D.nx σ H):forS g tb D σ (.str z) H:=by
 refine ⟨z,rfl,ha,fun i m σ H=>m=z.length-i /\ i <= z.length /\ Pv i σ H,⟨z.length,by simp,yAR _,h0⟩,?_⟩
 rintro i m σ H ⟨rfl,hi,p⟩
 by_cases hlt:i < z.length
 .refine .inr ⟨hlt,Pv (i+1),fun σ' H' p'=>⟨z.length-(i+1),by omega,rfl,hlt,p'⟩,fun x H' y=>?_⟩
  obtain ⟨e,c,h1,e2⟩:=y
  subst e
  subst e2
  exact hs i c σ _ hlt (by rw [Array.getElem?_toList];exact h1) p
 .have e:i=z.length:=by omega
  subst e
  exact .inl ⟨rfl,hd σ H p⟩
end L2
namespace PySem
section
variable {prog : Program} {w : World} {A : Around} {E : Value → Shared → Prop} {s : Shared}
/-- a draw from an iterator of a list or a tuple that is not at its end -/
theorem risingI {b : Builtin} (hb : b = Builtin.«list_iterator.__next__» ∨ b = Builtin.«tuple_iterator.__next__») {it q : Addr} {o u : Obj} {i n : Nat} {xs : Array Value} {x : Value} {Q : Value → Shared → Prop} (ho : s.heap.get? it = some o) (hd : o.data = .fields #[.ref q, .int i 0]) (hu : s.heap.get? q = some u) (hv : u.data = .seq xs n) (hx : xs[i]? = some x)
    (hQ : Q x { s with heap := s.heap.update it (Obj.mapFields (·.setIfInBounds 1 (rawInt (i + 1)))) }) : wpAny (model prog w) A (b ⟨[.ref it], []⟩) (fun fin z => ∃ v, fin = .done (.ret v) ∧ Q v z) E s := by
  rcases hb with rfl | rfl <;>
  · refine wpAny_bind (m := field (.ref it) 0) (wpAny_field ho hd rfl (wpAny_bind (m := field (.ref it) 1) (wpAny_field ho hd rfl (wpAny_bind (m := seqItems? (.ref q)) (wpAny_seqItems hu hv ?_)))))
    simp only [Int.toNat_natCast, hx]
    exact wpAny_bind (wpAny_setField ho hd (by simp) (wpAny_pure ⟨x, rfl, hQ⟩))
theorem ZAc {it l : Addr} {i : Nat} {items} {x : Value} {Q : Value → Shared → Prop} (hit : s.heap.IsTupleIter it l i) (hl : s.heap.IsTuple l items) (hx : items[i]? = some x)
    (hQ : ∀ h', h'.IsTupleIter it l (i + 1) → Heap.SameBut it s.heap h' → Q x { s with heap := h' }) : wpAny (model prog w) A (Builtin.SmallTypes.nextOf (.ref it)) Q E s := by
  obtain ⟨o, ho, hc, hd⟩ := id hit
  obtain ⟨u, hu, _, n, hv⟩ := hl
  exact wpAny_bind (wpAny_callSpecial?_slot (name := Str.ofString "__next__") hit.typeIs F.slot_tuple_iterator_next (wpAny_call_entry F.slot_tuple_iterator_next hit.typeIs F.entry_tuple_iterator_next
    (risingI (.inr rfl) ho hd hu hv hx (wpAny_pure (hQ _ ⟨_, Heap.get?_update_self _ ho (Obj.isFreed_of_fields (Obj.data_mapFields hd _)), (Obj.cls_mapFields ..).trans hc, by rw [Obj.data_mapFields hd]; simp [rawInt]⟩ (Heap.SameBut.update ..)))) (F.args_tuple_iterator_next_1 _)))
/-- a zip of two tuples under way: what stands at its four objects; all else is as it was at h0 -/
structure Zst (z TI TO i1 i2 t1 t2 : Addr) (h0 h : Heap) (f p q : Value) (k1 k2 : Nat) : Prop where
  zz : IsZip h z TI TO f
  oo : IsPair h TO p q
  aa : h.IsTupleIter i1 t1 k1
  bb : h.IsTupleIter i2 t2 k2
  n : h.objs.size = h0.objs.size
  k : ∀ c u, c ≠ z → c ≠ TO → c ≠ i1 → c ≠ i2 → h0.get? c = some u → h.get? c = some u
section
variable {z TI TO i1 i2 l1 l2 : Addr} {k1 k2 : Nat} {xs ys : Array Value} {x y a b f p q v : Value} {h0 h h' : Heap}
theorem Zst.atZ (D : ZipApart z TI TO i1 i2 l1 l2) (S : Zst z TI TO i1 i2 l1 l2 h0 h f p q k1 k2) (e : IsZip h' z TI TO v) (m : Heap.SameBut z h h') : Zst z TI TO i1 i2 l1 l2 h0 h' v p q k1 k2 :=
  ⟨e, m.extBut _ _ D.TOz S.oo, S.aa.extBut m.extBut D.i1z, S.bb.extBut m.extBut D.i2z, m.1.trans S.n, fun c u c1 c2 c3 c4 g => m.extBut c u c1 (S.k c u c1 c2 c3 c4 g)⟩
theorem Zst.atO (D : ZipApart z TI TO i1 i2 l1 l2) (S : Zst z TI TO i1 i2 l1 l2 h0 h f p q k1 k2) (e : IsPair h' TO x y) (m : Heap.SameBut TO h h') : Zst z TI TO i1 i2 l1 l2 h0 h' f x y k1 k2 :=
  ⟨m.extBut _ _ D.TOz.symm S.zz, e, S.aa.extBut m.extBut D.TOi1.symm, S.bb.extBut m.extBut D.TOi2.symm, m.1.trans S.n, fun c u c1 c2 c3 c4 g => m.extBut c u c2 (S.k c u c1 c2 c3 c4 g)⟩
theorem Zst.at1 (D : ZipApart z TI TO i1 i2 l1 l2) (S : Zst z TI TO i1 i2 l1 l2 h0 h f p q k1 k2) (e : h'.IsTupleIter i1 l1 (k1 + 1)) (m : Heap.SameBut i1 h h') : Zst z TI TO i1 i2 l1 l2 h0 h' f p q (k1 + 1) k2 :=
  ⟨m.extBut _ _ D.i1z.symm S.zz, m.extBut _ _ D.TOi1 S.oo, e, S.bb.extBut m.extBut D.i12.symm, m.1.trans S.n, fun c u c1 c2 c3 c4 g => m.extBut c u c3 (S.k c u c1 c2 c3 c4 g)⟩
theorem Zst.at2 (D : ZipApart z TI TO i1 i2 l1 l2) (S : Zst z TI TO i1 i2 l1 l2 h0 h f p q k1 k2) (e : h'.IsTupleIter i2 l2 (k2 + 1)) (m : Heap.SameBut i2 h h') : Zst z TI TO i1 i2 l1 l2 h0 h' f p q k1 (k2 + 1) :=
  ⟨m.extBut _ _ D.i2z.symm S.zz, m.extBut _ _ D.TOi2 S.oo, S.aa.extBut m.extBut D.i12, e, m.1.trans S.n, fun c u c1 c2 c3 c4 g => m.extBut c u c4 (S.k c u c1 c2 c3 c4 g)⟩
theorem Zst.t1 (D : ZipApart z TI TO i1 i2 l1 l2) (S : Zst z TI TO i1 i2 l1 l2 h0 h f p q k1 k2) (t : h0.IsTuple l1 xs) : h.IsTuple l1 xs := let ⟨u, e, r⟩ := t; ⟨u, S.k _ u D.l1z D.l1TO D.l1i1 D.l1i2 e, r⟩
theorem Zst.t2 (D : ZipApart z TI TO i1 i2 l1 l2) (S : Zst z TI TO i1 i2 l1 l2 h0 h f p q k1 k2) (t : h0.IsTuple l2 ys) : h.IsTuple l2 ys := let ⟨u, e, r⟩ := t; ⟨u, S.k _ u D.l2z D.l2TO D.l2i1 D.l2i2 e, r⟩
end
theorem wpAny_nextOf_tuple_end {it l : Addr} {i : Nat} {items} {Q : Value → Shared → Prop} (hh : A.handled = none) (hit : s.heap.IsTupleIter it l i) (hl : s.heap.IsTuple l items) (hx : items[i]? = none)
    (hE : ∀ h' e, Heap.ExtBut it s.heap h' → (∃ o, h'.get? e = some o ∧ o.cls = .type "StopIteration") → E (.ref e) { s with heap := h' }) : wpAny (model prog w) A (Builtin.SmallTypes.nextOf (.ref it)) Q E s := by
  obtain ⟨o, ho, hc, hd⟩ := id hit
  obtain ⟨u, hu, _, n, hv⟩ := hl
  refine wpAny_bind (wpAny_callSpecial?_slot (name := Str.ofString "__next__") hit.typeIs F.slot_tuple_iterator_next (wpAny_call_entry F.slot_tuple_iterator_next hit.typeIs F.entry_tuple_iterator_next ?_ (F.args_tuple_iterator_next_1 _)))
  refine wpAny_bind (m := field (.ref it) 0) (wpAny_field ho hd rfl (wpAny_bind (m := field (.ref it) 1) (wpAny_field ho hd rfl (wpAny_bind (m := seqItems? (.ref l)) (wpAny_seqItems hu hv ?_)))))
  simp only [Int.toNat_natCast, hx]
  refine wpAny_bind (wpAny_rule (wpAny_bind (wpAny_setField ho hd (by simp) ?_)))
  have eb : Heap.ExtBut it s.heap (s.heap.update it (Obj.mapFields (·.setIfInBounds 0 .none))) := (Heap.SameBut.update ..).extBut
  refine wpAny_bind (m := newExc (.type "StopIteration") []) ?_
  unfold newExc newTuple
  refine wpAny_bind (wpAny_newObj_type (wpAny_bind (m := firstArgMember _ _) (wpAny_of_eq (a := Value.none) (by rfl) (wpAny_newObj_type (wpAny_raiseNew_none (A := A.in1) hh (hE _ _ (fun b o n e => ?_) ⟨_, Heap.get?_push_size _ rfl, rfl⟩)) (by size_fits)))) (by size_fits))
  exact Heap.get?_push_of_some _ (Heap.get?_push_of_some _ (eb b o n e))
section
variable {z TI TO i1 i2 l1 l2 : Addr} {k1 k2 : Nat} {xs ys : Array Value} {x y a b f p q v : Value} {h0 h h' : Heap}
/-- zip's next over two tuples: a pair, or the end -/
theorem zip_both {Q : Value → Shared → Prop} (hh : A.handled = none ∨ ∃ x y, xs[k1]? = some x ∧ ys[k2]? = some y) (D : ZipApart z TI TO i1 i2 l1 l2) (hz : IsZip s.heap z TI TO .none) (hTI : IsPair s.heap TI (.ref i1) (.ref i2)) (hTO : IsPair s.heap TO a b) (h1 : s.heap.IsTupleIter i1 l1 k1) (h2 : s.heap.IsTupleIter i2 l2 k2) (hl1 : s.heap.IsTuple l1 xs) (hl2 : s.heap.IsTuple l2 ys)
    (hQ : ∀ x y, xs[k1]? = some x → ys[k2]? = some y → ∀ h', IsZip h' z TI TO (rawInt s.heap.objs.size) → IsPair h' TO x y → h'.IsTupleIter i1 l1 (k1 + 1) → h'.IsTupleIter i2 l2 (k2 + 1) → IsPair h' s.heap.objs.size x y → h'.objs.size = s.heap.objs.size + 1 →
      (∀ c o, c ≠ z → c ≠ TO → c ≠ i1 → c ≠ i2 → s.heap.get? c = some o → h'.get? c = some o) → Q (.ref s.heap.objs.size) { s with heap := h' })
    (hE : xs[k1]? = none ∨ ys[k2]? = none → ∀ h' e, (∀ c o, c ≠ z → c ≠ TO → c ≠ i1 → c ≠ i2 → s.heap.get? c = some o → h'.get? c = some o) → (∃ o, h'.get? e = some o ∧ o.cls = .type "StopIteration") → E (.ref e) { s with heap := h' }) :
    wpAny (model prog w) A (Builtin.«zip.__next__» ⟨[.ref z], []⟩) (fun fin s' => ∃ v, fin = .done (.ret v) ∧ Q v s') E s := by
  have S0 : Zst z TI TO i1 i2 l1 l2 s.heap s.heap .none a b k1 k2 := ⟨hz, hTO, h1, h2, rfl, fun _ _ _ _ _ _ g => g⟩
  refine wpAny_bind (m := field (.ref z) 2) (wpAny_field hz rfl rfl (wpAny_bind (m := field (.ref z) 3) (wpAny_field hz rfl rfl (wpAny_bind (m := seqItems? (.ref TI)) (wpAny_seqItems hTI rfl ?_)))))
  refine wpAny_bind (m := Builtin.SmallTypes.ownedTupleIsFree (.ref z)) (wpAny_bind (m := field (.ref z) 0) (wpAny_field hz rfl rfl (wpAny_pure ?_)))
  refine wpAny_bind (wpAny_rule (wpAny_bind (m := field (.ref z) 4) (wpAny_field hz rfl rfl (wpAny_bind (wpAny_setField_rec hz (by simp) fun g1 e1 m1 => wpAny_bind ?_)))))
  have S1 := S0.atZ D (v := .ellipsis) e1 m1
  simp only [List.zipIdx_cons, List.zipIdx_nil, List.forIn_cons, List.forIn_nil]
  -- an exception of a draw: the zip's mark is taken off, and it goes on
  have off : ∀ {h : Heap} {e : Addr} {p q : Value} {j1 j2 : Nat}, (xs[k1]? = none ∨ ys[k2]? = none) → IsZip h z TI TO .ellipsis → (∀ c o, c ≠ z → c ≠ TO → c ≠ i1 → c ≠ i2 → s.heap.get? c = some o → h.get? c = some o) → (∃ o, h.get? e = some o ∧ o.cls = .type "StopIteration") →
      wpAny (model prog w) A (setField (.ref z) 0 .none) (fun _ s' => E (.ref e) s') E { s with heap := h } := fun {h e p q j1 j2} w1 w2 w3 w4 => by
    refine wpAny_setField_rec w2 (by simp) fun g _ m => hE w1 g e (fun c o c1 c2 c3 c4 r => m.extBut c o c1 (w3 c o c1 c2 c3 c4 r)) ?_
    obtain ⟨o, r1, r2⟩ := w4
    refine ⟨o, m.extBut e o (fun w => ?_) r1, r2⟩
    subst w
    rw [w2] at r1
    cases r1
    exact absurd (show Value.type "zip" = Value.type "StopIteration" from r2) (by decide)
  refine wpAny_bind (wpAny_bind (wpAny_onRaise (wpAny_bind (m := Builtin.SmallTypes.nextOf (.ref i1)) ?_)))
  cases hx : xs[k1]? with
  | none =>
    rcases hh with hh | ⟨x, y, r, _⟩
    · refine wpAny_nextOf_tuple_end hh S1.aa (S1.t1 D hl1) hx fun g2 e2 m2 c2 => off (.inl hx) (m2 _ _ D.i1z.symm S1.zz) (fun c o c1 c3 c4 c5 r => m2 c o c4 (S1.k c o c1 c3 c4 c5 r)) c2 (p := a) (q := b) (j1 := 0) (j2 := 0)
    · rw [hx] at r; cases r
  | some x =>
    refine ZAc S1.aa (S1.t1 D hl1) hx fun g2 e2 m2 => wpAny_pure ?_
    have S2 := S1.at1 D e2 m2
    refine wpAny_bind (wpAny_seqItems S2.oo rfl (wpAny_bind (wpAny_updateSeq_pair S2.oo fun g3 e3 m3 => wpAny_bind (wpAny_letGo (wpAny_pure ?_)))))
    have S3 := S2.atO D (x := x) (y := b) e3 m3
    refine wpAny_bind (wpAny_bind (wpAny_onRaise (wpAny_bind (m := Builtin.SmallTypes.nextOf (.ref i2)) ?_)))
    cases hy : ys[k2]? with
    | none =>
      rcases hh with hh | ⟨_, _, _, r⟩
      · refine wpAny_nextOf_tuple_end hh S3.bb (S3.t2 D hl2) hy fun g4 e4 m4 c4 => off (.inr hy) (m4 _ _ D.i2z.symm S3.zz) (fun c o c1 c2 c3 c5 r => m4 c o c5 (S3.k c o c1 c2 c3 c5 r)) c4 (p := a) (q := b) (j1 := 0) (j2 := 0)
      · rw [hy] at r; cases r
    | some y =>
      refine ZAc S3.bb (S3.t2 D hl2) hy fun g4 e4 m4 => wpAny_pure ?_
      have S4 := S3.at2 D e4 m4
      refine wpAny_bind (wpAny_seqItems S4.oo rfl (wpAny_bind (wpAny_updateSeq_pair S4.oo fun g5 e5 m5 => wpAny_bind (wpAny_letGo (wpAny_pure (wpAny_pure ?_))))))
      have S5 := S4.atO D (x := x) (y := y) e5 m5
      refine wpAny_bind (wpAny_seqItems S5.oo rfl (wpAny_bind (wpAny_newTuple ?_)))
      have lt : ∀ {c u}, g5.get? c = some u → c ≠ g5.objs.size := fun e => Nat.ne_of_lt (Heap.lt_size e)
      refine wpAny_bind (m := Builtin.SmallTypes.ownedTupleHandOut (.ref z) (.ref g5.objs.size)) (wpAny_bind (wpAny_setField_rec (Heap.get?_push_of_some _ S5.zz) (by simp) fun g7 e7 m7 => wpAny_setField_rec e7 (by simp) fun g8 e8 m8 => wpAny_pure ⟨_, rfl, ?_⟩))
      have up : ∀ c o, c ≠ z → (g5.push { cls := .type "tuple", data := .seq #[x, y] }).get? c = some o → g8.get? c = some o := fun c o n e => m8.extBut c o n (m7.extBut c o n e)
      have sz : g8.objs.size = s.heap.objs.size + 1 := by rw [m8.1, m7.1, Heap.size_push, S5.n]
      have tp : IsPair g8 g5.objs.size x y := up _ _ (fun w => lt S5.zz w.symm) (Heap.get?_push_size _ rfl)
      show Q (.ref g5.objs.size) _
      have n5 := S5.n
      obtain ⟨o1, w1, r1⟩ := S5.aa
      obtain ⟨o2, w2, r2⟩ := S5.bb
      have e8' : IsZip g8 z TI TO (rawInt g5.objs.size) := e8
      rw [n5] at e8' tp ⊢
      exact hQ x y hx hy g8 e8' (up _ _ D.TOz (Heap.get?_push_of_some _ S5.oo)) ⟨o1, up _ _ D.i1z (Heap.get?_push_of_some _ w1), r1⟩ ⟨o2, up _ _ D.i2z (Heap.get?_push_of_some _ w2), r2⟩ tp sz fun c o c1 c2 c3 c4 r => up c o c1 (Heap.get?_push_of_some _ (S5.k c o c1 c2 c3 c4 r))
theorem wpAny_pyNext_zip_itemT {Q : Option Value → Shared → Prop} (D : ZipApart z TI TO i1 i2 l1 l2) (hz : IsZip s.heap z TI TO .none) (hTI : IsPair s.heap TI (.ref i1) (.ref i2)) (hTO : IsPair s.heap TO a b) (h1 : s.heap.IsTupleIter i1 l1 k1) (h2 : s.heap.IsTupleIter i2 l2 k2) (hl1 : s.heap.IsTuple l1 xs) (hl2 : s.heap.IsTuple l2 ys) (hx : xs[k1]? = some x) (hy : ys[k2]? = some y)
    (hQ : ∀ h', IsZip h' z TI TO (rawInt s.heap.objs.size) → IsPair h' TO x y → h'.IsTupleIter i1 l1 (k1 + 1) → h'.IsTupleIter i2 l2 (k2 + 1) → IsPair h' s.heap.objs.size x y → h'.objs.size = s.heap.objs.size + 1 →
      (∀ c o, c ≠ z → c ≠ TO → c ≠ i1 → c ≠ i2 → s.heap.get? c = some o → h'.get? c = some o) → Q (some (.ref s.heap.objs.size)) { s with heap := h' }) : wpAny (model prog w) A (pyNext (.ref z)) Q E s := by
  have hT : s.TypeIs (.ref z) "zip" := ⟨_, hz, rfl⟩
  refine wpAny_bind (wpAny_attempt (wpAny_callSpecial?_slot (name := Str.ofString "__next__") hT F.slot_zip_next (wpAny_call_entry F.slot_zip_next hT F.entry_zip_next (zip_both (.inr ⟨x, y, hx, hy⟩) D hz hTI hTO h1 h2 hl1 hl2 (fun x' y' r1 r2 => ?_) fun r => ?_) (F.args_zip_next_1 _))))
  · rw [hx] at r1
    rw [hy] at r2
    cases r1
    cases r2
    exact fun h' b1 b2 b3 b4 b5 b6 b7 => wpAny_pure (hQ h' b1 b2 b3 b4 b5 b6 b7)
  · rw [hx, hy] at r
    rcases r with r | r <;> cases r
theorem wpAny_pyNext_zip_endT {Q : Option Value → Shared → Prop} (hh : A.handled = none) (D : ZipApart z TI TO i1 i2 l1 l2) (hz : IsZip s.heap z TI TO .none) (hTI : IsPair s.heap TI (.ref i1) (.ref i2)) (hTO : IsPair s.heap TO a b) (h1 : s.heap.IsTupleIter i1 l1 k1) (h2 : s.heap.IsTupleIter i2 l2 k2) (hl1 : s.heap.IsTuple l1 xs) (hl2 : s.heap.IsTuple l2 ys) (hend : xs[k1]? = none ∨ ys[k2]? = none)
    (hQ : ∀ h', (∀ c o, c ≠ z → c ≠ TO → c ≠ i1 → c ≠ i2 → s.heap.get? c = some o → h'.get? c = some o) → Q none { s with heap := h' }) : wpAny (model prog w) A (pyNext (.ref z)) Q E s := by
  have hT : s.TypeIs (.ref z) "zip" := ⟨_, hz, rfl⟩
  refine wpAny_bind (wpAny_attempt (wpAny_callSpecial?_slot (name := Str.ofString "__next__") hT F.slot_zip_next (wpAny_call_entry F.slot_zip_next hT F.entry_zip_next (zip_both (A := A.in1) (.inl hh) D hz hTI hTO h1 h2 hl1 hl2 (fun x y r1 r2 => ?_) fun _ h' e k c => wpAny_bind (wpAny_isInstance (T := "StopIteration") (b := true) c isSubtype_stop (wpAny_pure (hQ h' k)))) (F.args_zip_next_1 _))))
  rw [r1, r2] at hend
  rcases hend with r | r <;> cases r
end
/-- what zip(a, b) of two tuples makes: the five new objects -/
abbrev zipMade (h : Heap) (l1 l2 : Addr) : Heap :=
  ((((h.push { cls := .type "tuple_iterator", data := .fields #[.ref l1, .int 0 0] }).push { cls := .type "tuple_iterator", data := .fields #[.ref l2, .int 0 0] }).push { cls := .type "tuple", data := .seq #[.ref h.objs.size, .ref (h.objs.size + 1)] }).push
    { cls := .type "tuple", data := .seq #[.none, .none] }).push { cls := .type "zip", data := .fields #[.none, .bool false, .bool false, .ref (h.objs.size + 2), .ref (h.objs.size + 3)] }
theorem zip_new_meets (l1 l2 : Addr) (xs ys : Array Value) : Meets (Builtin.«zip.__new__» ⟨[.type "zip", .ref l1, .ref l2], []⟩) (fun _ R s => s.heap.IsTuple l1 xs ∧ s.heap.IsTuple l2 ys ∧ R (.ok (.ret (.ref (s.heap.objs.size + 4)))) { s with heap := zipMade s.heap l1 l2 }) :=
  .of_wp fun prog w A R s hs => by
    obtain ⟨hp, g, d, tk, os⟩ := s
    obtain ⟨t1, t2, r⟩ := hs
    have sb := sub_zip
    have t2' : Heap.IsTuple (Shared.heap ⟨hp.push { cls := .type "tuple_iterator", data := .fields #[.ref l1, .int 0 0] }, g, d, tk, os⟩) l2 ys := Heap.IsTuple.push t2 _
    wp_walk using wpAny_pyIter_tuple t1, wpAny_pyIter_tuple t2'
    refine ⟨_, rfl, ?_⟩
    have e : ∀ (h : Heap) (o : Obj), (h.push o).objs.size = h.objs.size + 1 := fun h o => Heap.size_push ..
    simp only [e] at r ⊢
    exact r
theorem call_zip_2T {l1 l2 : Addr} {xs ys : Array Value} {Q : Value → Shared → Prop} (hl1 : s.heap.IsTuple l1 xs) (hl2 : s.heap.IsTuple l2 ys)
    (h : ∀ h', IsZip h' (s.heap.objs.size + 4) (s.heap.objs.size + 2) (s.heap.objs.size + 3) .none → IsPair h' (s.heap.objs.size + 2) (.ref s.heap.objs.size) (.ref (s.heap.objs.size + 1)) → IsPair h' (s.heap.objs.size + 3) .none .none → h'.IsTupleIter s.heap.objs.size l1 0 →
      h'.IsTupleIter (s.heap.objs.size + 1) l2 0 → h'.objs.size = s.heap.objs.size + 5 → (∀ c o, s.heap.get? c = some o → h'.get? c = some o) → Q (.ref (s.heap.objs.size + 4)) { s with heap := h' }) : wpAny (model prog w) A (call (.type "zip") [.ref l1, .ref l2]) Q E s := by
  refine callType_new F.called_zip (by decide) (F.typeCall_zip_2 _ _) (F.newCall_zip_2 _ _) (fun obj => F.args_object_init_3 obj _ _) F.entry_zip_new (zip_new_meets l1 l2 xs ys) ⟨hl1, hl2, ?_⟩
  have up : ∀ {h : Heap} {c : Addr} {o u : Obj}, h.get? c = some o → (h.push u).get? c = some o := fun e => Heap.get?_push_of_some _ e
  have nw : ∀ (h : Heap) (o : Obj) (c : Addr), o.isFreed = false → h.objs.size = c → (h.push o).get? c = some o := fun h o c f e => by subst e; exact Heap.get?_push_size _ f
  have e : ∀ (h : Heap) (o : Obj), (h.push o).objs.size = h.objs.size + 1 := fun h o => Heap.size_push ..
  have g5 : IsZip (zipMade s.heap l1 l2) (s.heap.objs.size + 4) (s.heap.objs.size + 2) (s.heap.objs.size + 3) .none := nw _ _ _ rfl (by simp only [e])
  exact ⟨⟨_, g5, rfl⟩, h _ g5 (up (up (nw _ _ _ rfl (by simp only [e])))) (up (nw _ _ _ rfl (by simp only [e]))) ⟨_, up (up (up (up (nw _ _ _ rfl rfl)))), rfl, rfl⟩ ⟨_, up (up (up (nw _ _ _ rfl (by simp only [e])))), rfl, rfl⟩ (by simp only [e]) fun c o x => up (up (up (up (up x))))⟩
end
end PySem
namespace L2
open PySem PySem.Spec PyProof.Rows
noncomputable def ItzT (K:W.Frag) (a b:Addr):It :=
 ⟨fun i H=>∃ xs x ys y,SqT K H a xs /\ xs[i]?=some x /\ SqT K H b ys /\ ys[i]?=some y,fun i H v H'=>∃ p x y,H p=none /\ (∀ xs,SqT K H a xs->xs[i]?=some x) /\ (∀ ys,SqT K H b ys->ys[i]?=some y) /\ H'=upd H p (.tup [x,y]) /\ v=.ref p,fun i H=>∃ xs ys,SqT K H a xs /\ SqT K H b ys /\ (xs.length <= i∨ys.length <= i)⟩
theorem turn_zipT {P:Program} {w:World} {K:W.Frag} {elts:List Expr} {x1} {tpos:Pos} (a b z TI TO i1 i2:Addr) (D:ZipApart z TI TO i1 i2 a b):Turn P w K (.Tuple elts x1 tpos) (ItzT K a b) [z,TI,TO,i1,i2] z (fun i h=>IsZip h z TI TO .none /\ IsPair h TI (.ref i1) (.ref i2) /\ (∃ u v,IsPair h TO u v) /\ h.IsTupleIter i1 a i /\ h.IsTupleIter i2 b i) where
 mem:=by simp
 obj:=fun i h st c hc=>by
  obtain ⟨hz,hTI,⟨u,v,hTO⟩,⟨o1,e1,c1,d1⟩,⟨o2,e2,c2,d2⟩⟩:=st
  have hc':c=z∨c=TI∨c=TO∨c=i1∨c=i2:=by simpa using hc
  rcases hc' with rfl | rfl | rfl | rfl | rfl
  .exact ⟨_,hz,fun v z=>by cases z⟩
  .exact ⟨_,hTI,fun v z=>by cases z⟩
  .exact ⟨_,hTO,fun v z=>by cases z⟩
  .exact ⟨o1,e1,fun v z=>by rw [d1] at z;cases z⟩
  .exact ⟨o2,e2,fun v z=>by rw [d2] at z;cases z⟩
 keep:=fun i h h' st k=>by
  obtain ⟨hz,hTI,⟨u,v,hTO⟩,h1,h2⟩:=st
  exact ⟨k z (by simp) _ hz,k TI (by simp) _ hTI,⟨u,v,k TO (by simp) _ hTO⟩,h1.at fun o q=>k i1 (by simp) o q,h2.at fun o q=>k i2 (by simp) o q⟩
 item:=by
  intro X hP hw hK hc i pins s σ H E I hf st hg
  subst hP hw hK
  obtain ⟨xs,x,ys,y,hq,hx,hq',hy⟩:=hg
  obtain ⟨its,rv,p,hzz⟩:=I.tuple hq
  obtain ⟨u,hu,ru⟩:=rv.get hx
  obtain ⟨its',rv',p',hzz'⟩:=I.tuple hq'
  obtain ⟨u',hu',ru'⟩:=rv'.get hy
  obtain ⟨hz,hTI,⟨ua,ub,hTO⟩,h1,h2⟩:=st
  refine wpAny_pyNext_zip_itemT D hz hTI hTO h1 h2 p p' (x:=u) (y:=u') (by simpa using hu) (by simpa using hu') fun hp a1 a2 a3 a4 a5 a6 hk=>⟨_,rfl,?_⟩
  refine wpAny_letOwnedTupleGo_zip a1 fun hp2 b1 hs2=>?_
  replace hs2:Heap.SameBut z hp hp2:=hs2
  have hzl:z < s.heap.objs.size:=Heap.lt_size hz
  have ht2:hp2.get? s.heap.objs.size=some { cls:=.type "tuple",data:=.seq #[u,u'] }:=(hs2.2 _ (yBA hzl)).trans a5
  have hnew:H s.heap.objs.size=none:=I.hok.fresh (yAA _)
  have up2:∀ c o,c≠z->hp.get? c=some o->hp2.get? c=some o:=fun c o n q=>(hs2.2 c n).trans q
  refine ⟨.ref s.heap.objs.size,upd H s.heap.objs.size (.tup [x,y]),I.turn2 (ch:=[z,TI,TO,i1,i2]) (t':=s.toks) hf (fun c ob hc q=>?_) (yAA _) ?_,rfl,⟨_,x,y,hnew,fun zs hz=>by rw [I.tuple_inj hz hq];exact hx,fun zs hz=>by rw [I.tuple_inj hz hq'];exact hy,rfl,rfl⟩,⟨b1,up2 _ _ D.TIz (hk _ _ D.TIz D.TITO D.TIi1 D.TIi2 hTI),⟨_,_,up2 _ _ D.TOz a2⟩,a3.at fun o q=>up2 _ _ D.i1z q,a4.at fun o q=>up2 _ _ D.i2z q⟩,fun c hc=>?_⟩
  .have n1:c≠z:=fun e=>hc (by simp [e])
   have n2:c≠TO:=fun e=>hc (by simp [e])
   have n3:c≠i1:=fun e=>hc (by simp [e])
   have n4:c≠i2:=fun e=>hc (by simp [e])
   exact up2 _ _ n1 (hk c ob n1 n2 n3 n4 q)
  .exact ⟨ZAV (show 2 <= 1000 by decide),[u,u'],.cons ru (.cons ru' .nil),_,ht2,rfl,0,rfl⟩
  .have hn:=(hf c hc).1
   have hc':c=z∨c=TI∨c=TO∨c=i1∨c=i2:=by simpa using hc
   obtain ⟨o1,g1,_⟩:=h1
   obtain ⟨o2,g2,_⟩:=h2
   have hlt:c < s.heap.objs.size:=by
    rcases hc' with rfl | rfl | rfl | rfl | rfl
    .exact hzl
    .exact Heap.lt_size hTI
    .exact Heap.lt_size hTO
    .exact Heap.lt_size g1
    .exact Heap.lt_size g2
   rw [ZAH (yAD hlt)];exact hn
 done:=by
  intro X hP hw hK hc i pins s σ H E I hf st hg
  subst hP hw hK
  obtain ⟨xs,ys,hq,hq',hx⟩:=hg
  obtain ⟨its,rv,p,hzz⟩:=I.tuple hq
  obtain ⟨its',rv',p',hzz'⟩:=I.tuple hq'
  obtain ⟨hz,hTI,⟨ua,ub,hTO⟩,h1,h2⟩:=st
  have hl:=rv.length
  have hl':=rv'.length
  refine wpAny_pyNext_zip_endT (I.ok.hd hc) D hz hTI hTO h1 h2 p p' (hx.imp (fun z=>by rw [List.getElem?_toArray];exact yBG (by omega)) (fun z=>by rw [List.getElem?_toArray];exact yBG (by omega))) fun h' eb=>⟨rfl,?_⟩
  have tr:∀ c u,H c=some u->c∉[z,TI,TO,i1,i2]:=fun c u e q=>by rw [(hf c q).1] at e;cases e
  have k:∀ c ob,c∉[z,TI,TO,i1,i2]->s.heap.get? c=some ob->h'.get? c=some ob:=fun c ob n q=>eb c ob (fun e=>n (by simp [e])) (fun e=>n (by simp [e])) (fun e=>n (by simp [e])) (fun e=>n (by simp [e])) q
  refine I.call (g':=s.gens) (t':=s.toks) (d':=s.drawn) (ch:=[z,TI,TO,i1,i2]) ⟨fun b ob e n _ hx=>k b ob hx e,fun b ob e n _ hx=>⟨ob.slots,k b ob hx e⟩,fun b ob e n _=>n,fun b ob e hx=>⟨ob,k b ob hx e⟩,fun b xs e=>e,fun b ob u e=>e,fun b qs e=>⟨#[],by rw [e];simp⟩⟩ (fun b u e=>?_) I.bare fun b hb=>?_
  .refine (I.hok b u e).stay (fun c v hc q=>k c v ?_ q) (fun c q=>q) fun c xs q=>q
   rcases hc with z | z
   .rw [z];exact tr b u e
   .exact tr c _ z
  .obtain ⟨a1,a2,a3,a4,a5,a6⟩:=hf b hb
   exact ⟨a4,a2,a5,a6⟩
 self:=fun _ _ _ _ _ st h=>wpAny_pyIter_zip st.1 h
section
variable {X:Cx}
noncomputable def iZipT (K:W.Frag) (ta:TA):TI:=fun σ H R=>ta σ H fun vs H1=>∃ a b,vs=[.ref a,.ref b] /\ (∃ xs,SqT K H1 a xs) /\ (∃ xs,SqT K H1 b xs) /\ R (ItzT K a b) H1
theorem zneNT {a b:Nat} (h:a≠b):(a:Addr)≠b:=h
theorem pi_zipT {elts:List Expr} {x1} {tpos:Pos} {l m:Expr} {ta:TA} {p pos:Pos} (hg:Gl X "zip") (hm:X.mg "zip"=none) (ha:PA X [l,m] ta)
  (he:starEach [l,m] X.env=(false,eval l X.env)::starEach [m] X.env:=by rfl) (hpl:(backTo pos (starEach [m] X.env)).any (·.1)=false:=by rfl) :
  PI X (.Tuple elts x1 tpos) (.Call (.Name "zip" p) [l,m] [] pos) (iZipT X.K ta):=by
 intro pins s σ H R I h
 refine Call_ (ZBx I hg hm PyProof.Rows.boot_zip (PyProof.Rows.callWith_type1 (thn (ha pos pins s σ H _ I h) fun us s1 zz=>?_) he hpl))
 obtain ⟨vs,H1,I1,r1,q1⟩:=zz
 obtain ⟨a,b,e,⟨xs,hq⟩,⟨ys,hq'⟩,q⟩:=q1
 subst e
 obtain ⟨u,u',rfl,ru,ru'⟩:=ZC1 r1
 cases ru
 cases ru'
 obtain ⟨its,rv,pl,hz⟩:=I1.tuple hq
 obtain ⟨its',rv',pl',hz'⟩:=I1.tuple hq'
 have hla:a < s1.heap.objs.size:=by obtain ⟨o,ho,_⟩:=pl;exact Heap.lt_size ho
 have hlb:b < s1.heap.objs.size:=by obtain ⟨o,ho,_⟩:=pl';exact Heap.lt_size ho
 have D:ZipApart (s1.heap.objs.size+4) (s1.heap.objs.size+2) (s1.heap.objs.size+3) s1.heap.objs.size (s1.heap.objs.size+1) a b:=by
  generalize s1.heap.objs.size=n at hla hlb ⊢
  have h1:LT.lt (α:=Nat) a n:=hla
  have h2:LT.lt (α:=Nat) b n:=hlb
  constructor <;> (refine zneNT ?_;omega)
 refine call_zip_2T pl pl' fun h' z1 z2 z3 z4 z5 z6 hk=>wpAny_pyIter_zip z1 ?_
 have I2:Inv X pins σ H1 { s1 with heap:=h' }:=I1.kept (t':=s1.toks) hk
 refine ⟨s1.heap.objs.size+4,_,_,ItzT X.K a b,H1,rfl,I2,turn_zipT a b _ _ _ _ _ D,⟨z1,z2,⟨_,_,z3⟩,z4,z5⟩,fun c hc=>?_,q⟩
 have hc':c=s1.heap.objs.size+4∨c=s1.heap.objs.size+2∨c=s1.heap.objs.size+3∨c=s1.heap.objs.size∨c=s1.heap.objs.size+1:=by simpa using hc
 have hle:s1.heap.objs.size <= c:=by
  rcases hc' with rfl | rfl | rfl | rfl | rfl
  .exact Nat.le_add_right _ _
  .exact Nat.le_add_right _ _
  .exact Nat.le_add_right _ _
  .exact yAA _
  .exact Nat.le_add_right _ _
 exact I1.fpOk hle (I1.hok.fresh hle)
end
section
variable {K:W.Frag} {a b:Addr} {xs ys:List V} {g:TG} {tb:TS} {D:Ends} {σ:St} {H:Hp}
noncomputable def forZT (K:W.Frag) (g:TG) (tb:TS) (D:Ends) (σ:St) (x y:V) (H1:Hp):Prop:=∃ a b,[x,y]=[.ref a,.ref b] /\ (∃ xs,SqT K H1 a xs) /\ (∃ xs,SqT K H1 b xs) /\ ∃ W:Nat->Nat->St->Hp->Prop,(∃ m,W 0 m σ H1) /\ ∀ i m σ H,W i m σ H ->
 ((ItzT K a b).stop i H /\ D.nx σ H)∨((ItzT K a b).go i H /\ ∃ N:St->Hp->Prop,(∀ σ' H',N σ' H'->∃ m',m' < m /\ W (i+1) m' σ' H') /\ ∀ x H',(ItzT K a b).yld i H x H'->g x σ H' fun σ2 H2=>tb { D with nx:=N,ct:=N,bk:=D.nx } σ2 H2)
theorem tForZ_eqT {t u:TE}:tFor (iZipT K (ZAs t (ZAs u tNil))) g tb D σ H=t σ H (fun x H1=>u σ H1 fun y H2=>forZT K g tb D σ x y H2):=rfl
theorem forZ_ofT (h:SqT K H a xs) (h':SqT K H b ys) (Pv:Nat->St->Hp->Prop) (h0:Pv 0 σ H) (hl:∀ i σ H,i <= min xs.length ys.length->Pv i σ H->SqT K H a xs /\ SqT K H b ys)
  (hs:∀ (i:Nat) x y σ H p,xs[i]?=some x->ys[i]?=some y->Pv i σ H->H p=none->g (.ref p) σ (upd H p (.tup [x,y])) fun σ2 H2=>tb { D with nx:=Pv (i+1),ct:=Pv (i+1),bk:=D.nx } σ2 H2) (hd:∀ σ H,Pv (min xs.length ys.length) σ H->D.nx σ H):forZT K g tb D σ (.ref a) (.ref b) H:=by
 refine ⟨a,b,rfl,⟨xs,h⟩,⟨ys,h'⟩,fun i m σ H=>m=min xs.length ys.length-i /\ i <= min xs.length ys.length /\ Pv i σ H,⟨min xs.length ys.length,by simp,yAR _,h0⟩,?_⟩
 rintro i m σ H ⟨rfl,hi,p⟩
 obtain ⟨q,q'⟩:=hl i σ H hi p
 by_cases hlt:i < min xs.length ys.length
 .refine .inr ⟨⟨xs,xs[i],ys,ys[i],q,yAL (by omega),q',yAL (by omega)⟩,Pv (i+1),fun σ' H' p'=>⟨min xs.length ys.length-(i+1),by omega,rfl,hlt,p'⟩,fun x H' y=>?_⟩
  obtain ⟨pp,x',y',hn,y1,y2,rfl,rfl⟩:=y
  exact hs i x' y' σ _ pp (y1 xs q) (y2 ys q') p hn
 .have e:i=min xs.length ys.length:=by omega
  subst e
  exact .inl ⟨⟨xs,ys,q,q',by omega⟩,hd σ H p⟩
end
noncomputable def Itr3 (lo d:Int) (n:Nat):It:=⟨fun i _=>i < n,fun i H x H'=>H'=H /\ x=.int (lo+i * d),fun i _=>n <= i⟩
theorem turn_range3 {P:Program} {w:World} {K:W.Frag} {tg:Expr} (it:Addr) (lo d:Int) (n:Nat):Turn P w K tg (Itr3 lo d n) [it] it (fun i h=>IsRangeIter h it (lo+(i:Nat) * d) ((n:Int)-(i:Nat)) d) where
 mem:=by simp
 obj:=fun i h st b hb=>by
  have e:b=it:=by simpa using hb
  subst e
  exact ⟨_,st,fun v z=>by
   have z':Data.fields _=Data.cell v:=z
   cases z'⟩
 keep:=fun i h h' st k=>k it (by simp) _ st
 item:=by
  intro X hP hw hK hc i pins s σ H E I hf st hg
  subst hP hw hK
  obtain ⟨f0,f1,f2,f3,f4,f5⟩:=hf it (by simp)
  have W:=Walks.range (prog:=X.prog) (w:=X.w) (I.ok.hd hc) it lo d n
  refine W.item i s _ _ hg st fun v h' tk hv st' kk=>?_
  obtain ⟨t,rfl⟩:=hv
  have I1:Inv X pins σ H { s with heap:=h',toks:=tk }:=I.turned (fun b o hb e=>kk b o (by simpa using hb) e) f0 f1 f3 f4 f5
  exact ⟨_,rfl,ZC5 (s:={ s with heap:=h',toks:=tk }) (n:="range_iterator") st' rfl rfl (by decide) ⟨.int (lo+i * d),H,I1,⟨t,rfl⟩,⟨rfl,rfl⟩,st',fun b hb=>(hf b hb).1⟩⟩
 done:=by
  intro X hP hw hK hc i pins s σ H E I hf st hg
  subst hP hw hK
  obtain ⟨f0,f1,f2,f3,f4,f5⟩:=hf it (by simp)
  exact wpAny_pyNext_range_end (I.ok.hd hc) st (by have:n <= i:=hg;omega) fun h' eb=>⟨rfl,I.turned (t':=s.toks) (fun b o hb e=>eb b o hb e) f0 f1 f3 f4 f5⟩
 self:=fun _ _ _ _ _ st h=>wpAny_pyIter_rangeiter st h
theorem ZAz {a b d:Int} (hd:0 < d):Builtin.Range.rangeSize a b d=if a < b then (b-a-1) / d+1 else 0:=by
 unfold Builtin.Range.rangeSize
 rw [if_pos hd]
theorem rangeSize_nonneg {a b d:Int} (hd:0 < d):0 <= Builtin.Range.rangeSize a b d:=by
 rw [ZAz hd]
 split
 .have:0 <= (b-a-1) / d:=Int.ediv_nonneg (by omega) (by omega)
  omega
 .omega
section
variable {X:Cx} {tg:Expr}
theorem range_it3 {pins:List (Addr×Obj)} {σ:St} {H:Hp} {s:Shared} {R:It->Hp->Prop} {E:Value->Shared->Prop} {lo hi d:Int} {t u v:Tok} {tk:Nat} (I:Inv X pins σ H s) (hd:0 < d) (hs:Builtin.Range.small lo hi d=true)
  (q:R (Itr3 lo d (Builtin.Range.rangeSize lo hi d).toNat) H):wpAny (model X.prog X.w) X.A (pyIter (.ref s.heap.objs.size)) (PIE X pins σ tg R) E { s with heap:=s.heap.push { cls:=.type "range",data:=.fields #[.int lo t,.int hi u,.int d v] },toks:=tk }:=by
 refine wpAny_pyIter_range (IsRange.new ..) hs ?_
 have I1:Inv X pins σ H { s with heap:=s.heap.push { cls:=.type "range",data:=.fields #[.int lo t,.int hi u,.int d v] },toks:=tk }:=I.kept fun b o e=>Heap.get?_push_of_some _ e
 refine ⟨(s.heap.push { cls:=.type "range",data:=.fields #[.int lo t,.int hi u,.int d v] }).objs.size,[(s.heap.push { cls:=.type "range",data:=.fields #[.int lo t,.int hi u,.int d v] }).objs.size],_,_,H,rfl,
  I1.kept (t':=tk) fun b o e=>Heap.get?_push_of_some _ e,turn_range3 _ lo d (Builtin.Range.rangeSize lo hi d).toNat,?_,fun b hb=>?_,q⟩
 .have e1:lo+((0:Nat):Int) * d=lo:=by simp
  have e2:(((Builtin.Range.rangeSize lo hi d).toNat:Nat):Int)-((0:Nat):Int)=Builtin.Range.rangeSize lo hi d:=by have:=rangeSize_nonneg (a:=lo) (b:=hi) hd;omega
  show IsRangeIter _ _ (lo+((0:Nat):Int) * d) ((((Builtin.Range.rangeSize lo hi d).toNat:Nat):Int)-((0:Nat):Int)) d
  rw [e1,e2]
  exact Heap.get?_push_size _ rfl
 .have e:b=(s.heap.push { cls:=.type "range",data:=.fields #[.int lo t,.int hi u,.int d v] }).objs.size:=by simpa using hb
  subst e
  exact I1.fpOk (yAA _) (I1.hok.fresh (yAA _))
noncomputable def iRng3 (ta:TA):TI:=fun σ H R=>ta σ H fun vs H1=>∃ i j d:Int,vs=[.int i,.int j,.int d] /\ (0 <= i /\ i <= 1000 /\ 0 <= j /\ j <= 1000 /\ 0 < d /\ d <= 1000) /\ R (Itr3 i d (Builtin.Range.rangeSize i j d).toNat) H1
end
noncomputable def compR3 (g:TG) (tt:TT) (te:TE) (σ0:St) (Q:VK) (x y z:V) (H1:Hp):Prop:=∃ i j d:Int,[x,y,z]=[.int i,.int j,.int d] /\ (0 <= i /\ i <= 1000 /\ 0 <= j /\ j <= 1000 /\ 0 < d /\ d <= 1000) /\
 ∃ W:Nat->Nat->List V->St->Hp->Prop,(∃ m,W 0 m [] σ0 H1) /\ ∀ k m ys σ H,W k m ys σ H ->
   ((Itr3 i d (Builtin.Range.rangeSize i j d).toNat).stop k H /\ ys.length <= sizeLine /\ ∀ p,H p=none->Q (.ref p) (upd H p (.lst ys))) ∨
   ((Itr3 i d (Builtin.Range.rangeSize i j d).toNat).go k H /\ ys.length < sizeLine /\ ∀ x H',(Itr3 i d (Builtin.Range.rangeSize i j d).toNat).yld k H x H'->g x σ H' fun σ2 H2=>tt σ2 H2 fun b H3=>if b=true then te σ2 H3 fun y H4=>∃ m',m' < m /\ W (k+1) m' (ys++[y]) σ2 H4 else ∃ m',m' < m /\ W (k+1) m' ys σ2 H3)
theorem tCompR3_eq {k:Nat} {js:List Nat} {t u v:TE} {g:TG} {tt:TT} {te:TE} {σ:St} {H:Hp} {Q:VK}:ZB3 k js (iRng3 (ZAs t (ZAs u (ZAs v tNil)))) g tt te σ H Q=t σ H (fun x H1=>u σ H1 fun y H2=>v σ H2 fun z H3=>compR3 g tt te (up k js σ) Q x y z H3):=rfl
noncomputable def tBL (K:W.Frag) (t:TE):TT:=fun σ H Q=>t σ H fun x H1=>∃ a xs,x=.ref a /\ SqL K H1 a xs /\ Q (!xs.isEmpty) H1
section
variable {X:Cx}
theorem pt_lst {e:Expr} {t:TE} (h:PE X e t) (he:∀ whole,isTrue e X.env whole=(do let v <- whole;standAt e.pos;holding [v] (truthy v)):=by intro _;rfl):PT X e (tBL X.K t):=by
 intro pins s σ H Q I hw
 refine isTrue_plain (thn (h pins s σ H _ I hw) fun v s1 zz=>?_) (he _)
 obtain ⟨x,H1,I1,r1,q1⟩:=zz
 obtain ⟨a,xs,rfl,hq,q⟩:=q1
 cases r1
 obtain ⟨its,rv,p,hz⟩:=I1.list hq
 have hl:=rv.length
 refine wpAny_truthy_list p.isList ?_ ?_
 .rw [yAK,<- hl]
  exact Int.lt_of_le_of_lt (Int.ofNat_le.mpr hz) (by decide)
 .refine ⟨H1,I1.kept (t':=s1.toks+1+1) (fun b o e=>e),?_⟩
  have:(!(its.toArray).isEmpty)=!xs.isEmpty:=by
   cases xs <;> cases its <;> first | rfl | cases hl
  rw [this];exact q
end
theorem small3N {a b d:Int} (h1:0 <= a) (h2:a <= 1000) (h3:-1000 <= b) (h4:b <= 1000) (h5:0 < d) (h6:d <= 1000):Builtin.Range.small a b d=true:=by
 unfold Builtin.Range.small
 rw [ZAz h5]
 simp only [Builtin.Range.rangeFitsLong,yAT,Bool.or_eq_true,decide_eq_true_eq,beq_iff_eq]
 have e1:(b-a-1) / d <= 1000:=by
  by_cases z:0 <= b-a-1
  .exact Int.le_trans (Int.ediv_le_self _ z) (by omega)
  .have:(b-a-1) / d <= 0:=by
    have:=Int.ediv_neg_of_neg_of_pos (show b-a-1 < 0 by omega) h5
    omega
   omega
 have e2:-2001 <= (b-a-1) / d:=Int.le_ediv_of_mul_le h5 (by omega)
 have e3:a < b->0 <= (b-a-1) / d:=fun h=>Int.ediv_nonneg (by omega) (by omega)
 split
 .rename_i h
  have:=e3 h
  refine ⟨by omega,.inr ?_⟩
  rw [yAT,decide_eq_true_iff,decide_eq_true_iff]
  omega
 .exact ⟨by omega,.inl rfl⟩
section
variable {X:Cx} {tg:Expr}
noncomputable def iRng3N (ta:TA):TI:=fun σ H R=>ta σ H fun vs H1=>∃ i j d:Int,vs=[.int i,.int j,.int d] /\ (0 <= i /\ i <= 1000 /\ -1000 <= j /\ j <= 1000 /\ 0 < d /\ d <= 1000) /\ R (Itr3 i d (Builtin.Range.rangeSize i j d).toNat) H1
theorem pi_range3N {a b c:Expr} {ta:TA} {p pos:Pos} (hg:Gl X "range") (hm:X.mg "range"=none) (ha:PA X [a,b,c] ta) (hs:starEach [a,b,c] X.env=(false,eval a X.env)::starEach [b,c] X.env:=by rfl) (hs2:(backTo pos (starEach [b,c] X.env)).any (·.1)=false:=by rfl) :
  PI X tg (.Call (.Name "range" p) [a,b,c] [] pos) (iRng3N ta):=by
 intro pins s σ H R I h
 refine Call_ (ZBx I hg hm boot_range (PyProof.Rows.callWith_type1 (thn (ha pos pins s σ H _ I h) fun us s1 zz=>?_) hs hs2))
 obtain ⟨vs,H1,I1,r1,q1⟩:=zz
 obtain ⟨i,j,d,e,⟨q1,q2,q3,q4,q5,q6⟩,q⟩:=q1
 subst e
 cases r1 with
 | cons r rr=>
  cases rr with
  | cons r' rr=>
   cases rr with
   | cons r'' rr=>
    cases rr
    obtain ⟨t,rfl⟩:=r
    obtain ⟨t',rfl⟩:=r'
    obtain ⟨t'',rfl⟩:=r''
    exact call_range_3 (by omega) (range_it3 I1 q5 (small3N q1 q2 q3 q4 q5 q6) q) (.inl (PyProof.noPylong_small (by omega)))
end
noncomputable def forR3 (g:TG) (tb:TS) (D:Ends) (σ:St) (x y z:V) (H1:Hp):Prop:=∃ i j d:Int,[x,y,z]=[.int i,.int j,.int d] /\ (0 <= i /\ i <= 1000 /\ -1000 <= j /\ j <= 1000 /\ 0 < d /\ d <= 1000) /\ ∃ W:Nat->Nat->St->Hp->Prop,(∃ m,W 0 m σ H1) /\ ∀ k m σ H,W k m σ H ->
 ((Itr3 i d (Builtin.Range.rangeSize i j d).toNat).stop k H /\ D.nx σ H)∨((Itr3 i d (Builtin.Range.rangeSize i j d).toNat).go k H /\ ∃ N:St->Hp->Prop,(∀ σ' H',N σ' H'->∃ m',m' < m /\ W (k+1) m' σ' H') /\ ∀ x H',(Itr3 i d (Builtin.Range.rangeSize i j d).toNat).yld k H x H'->g x σ H' fun σ2 H2=>tb { D with nx:=N,ct:=N,bk:=D.nx } σ2 H2)
theorem tForR3_eq {t u v:TE} {g:TG} {tb:TS} {D:Ends} {σ:St} {H:Hp}:tFor (iRng3N (ZAs t (ZAs u (ZAs v tNil)))) g tb D σ H=t σ H (fun x H1=>u σ H1 fun y H2=>v σ H2 fun z H3=>forR3 g tb D σ x y z H3):=rfl
theorem forR3_of {i j d:Int} {n:Nat} {g:TG} {tb:TS} {D:Ends} {σ:St} {H:Hp} (h:0 <= i /\ i <= 1000 /\ -1000 <= j /\ j <= 1000 /\ 0 < d /\ d <= 1000) (hn:(Builtin.Range.rangeSize i j d).toNat=n) (Pv:Nat->St->Hp->Prop) (h0:Pv 0 σ H)
  (hs:∀ (k:Nat) σ H,k < n->Pv k σ H->g (.int (i+k * d)) σ H fun σ2 H2=>tb { D with nx:=Pv (k+1),ct:=Pv (k+1),bk:=D.nx } σ2 H2) (hd:∀ σ H,Pv n σ H->D.nx σ H):forR3 g tb D σ (.int i) (.int j) (.int d) H:=by
 refine ⟨i,j,d,rfl,h,?_⟩
 rw [hn]
 refine ⟨fun k m σ H=>m=n-k /\ k <= n /\ Pv k σ H,⟨n,by simp,yAR _,h0⟩,?_⟩
 rintro k m σ H ⟨rfl,hi,p⟩
 by_cases hlt:k < n
 .refine .inr ⟨hlt,Pv (k+1),fun σ' H' p'=>⟨n-(k+1),by omega,rfl,hlt,p'⟩,fun x H' y=>?_⟩
  obtain ⟨e,e2⟩:=y
  subst e
  subst e2
  exact hs k σ _ hlt p
 .have e:k=n:=by omega
  subst e
  exact .inl ⟨yAA k,hd σ H p⟩
end L2
namespace Pap
end Pap
namespace L2
open PySem
theorem tVar_1 {v:V} {a0:Option V} {σ:St} {H:Hp} {Q:VK}:tVar 1 (a0::some v::σ) H Q=Q v H:=by
 simp only [ZAY,ZAS]
theorem tVar_2 {v:V} {a0 a1:Option V} {σ:St} {H:Hp} {Q:VK}:tVar 2 (a0::a1::some v::σ) H Q=Q v H:=by
 simp only [ZAY,ZAS]
theorem tVar_3 {v:V} {a0 a1 a2:Option V} {σ:St} {H:Hp} {Q:VK}:tVar 3 (a0::a1::a2::some v::σ) H Q=Q v H:=by
 simp only [ZAY,ZAS]
theorem tVar_4 {v:V} {a0 a1 a2 a3:Option V} {σ:St} {H:Hp} {Q:VK}:tVar 4 (a0::a1::a2::a3::some v::σ) H Q=Q v H:=by
 simp only [ZAY,ZAS]
theorem tVar_5 {v:V} {a0 a1 a2 a3 a4:Option V} {σ:St} {H:Hp} {Q:VK}:tVar 5 (a0::a1::a2::a3::a4::some v::σ) H Q=Q v H:=by
 simp only [ZAY,ZAS]
theorem tVar_6 {v:V} {a0 a1 a2 a3 a4 a5:Option V} {σ:St} {H:Hp} {Q:VK}:tVar 6 (a0::a1::a2::a3::a4::a5::some v::σ) H Q=Q v H:=by
 simp only [ZAY,ZAS]
theorem tVar_7 {v:V} {a0 a1 a2 a3 a4 a5 a6:Option V} {σ:St} {H:Hp} {Q:VK}:tVar 7 (a0::a1::a2::a3::a4::a5::a6::some v::σ) H Q=Q v H:=by
 simp only [ZAY,ZAS]
theorem tVar_8 {v:V} {a0 a1 a2 a3 a4 a5 a6 a7:Option V} {σ:St} {H:Hp} {Q:VK}:tVar 8 (a0::a1::a2::a3::a4::a5::a6::a7::some v::σ) H Q=Q v H:=by
 simp only [ZAY,ZAS]
theorem tVar_9 {v:V} {a0 a1 a2 a3 a4 a5 a6 a7 a8:Option V} {σ:St} {H:Hp} {Q:VK}:tVar 9 (a0::a1::a2::a3::a4::a5::a6::a7::a8::some v::σ) H Q=Q v H:=by
 simp only [ZAY,ZAS]
theorem tVar_10 {v:V} {a0 a1 a2 a3 a4 a5 a6 a7 a8 a9:Option V} {σ:St} {H:Hp} {Q:VK}:tVar 10 (a0::a1::a2::a3::a4::a5::a6::a7::a8::a9::some v::σ) H Q=Q v H:=by
 simp only [ZAY,ZAS]
theorem tVar_11 {v:V} {a0 a1 a2 a3 a4 a5 a6 a7 a8 a9 a10:Option V} {σ:St} {H:Hp} {Q:VK}:tVar 11 (a0::a1::a2::a3::a4::a5::a6::a7::a8::a9::a10::some v::σ) H Q=Q v H:=by
 simp only [ZAY,ZAS]
theorem tVar_12 {v:V} {a0 a1 a2 a3 a4 a5 a6 a7 a8 a9 a10 a11:Option V} {σ:St} {H:Hp} {Q:VK}:tVar 12 (a0::a1::a2::a3::a4::a5::a6::a7::a8::a9::a10::a11::some v::σ) H Q=Q v H:=by
 simp only [ZAY,ZAS]
theorem tVar_13 {v:V} {a0 a1 a2 a3 a4 a5 a6 a7 a8 a9 a10 a11 a12:Option V} {σ:St} {H:Hp} {Q:VK}:tVar 13 (a0::a1::a2::a3::a4::a5::a6::a7::a8::a9::a10::a11::a12::some v::σ) H Q=Q v H:=by
 simp only [ZAY,ZAS]
theorem tVar_14 {v:V} {a0 a1 a2 a3 a4 a5 a6 a7 a8 a9 a10 a11 a12 a13:Option V} {σ:St} {H:Hp} {Q:VK}:tVar 14 (a0::a1::a2::a3::a4::a5::a6::a7::a8::a9::a10::a11::a12::a13::some v::σ) H Q=Q v H:=by
 simp only [ZAY,ZAS]
theorem tVar_15 {v:V} {a0 a1 a2 a3 a4 a5 a6 a7 a8 a9 a10 a11 a12 a13 a14:Option V} {σ:St} {H:Hp} {Q:VK}:tVar 15 (a0::a1::a2::a3::a4::a5::a6::a7::a8::a9::a10::a11::a12::a13::a14::some v::σ) H Q=Q v H:=by
 simp only [ZAY,ZAS]
theorem tVar_16 {v:V} {a0 a1 a2 a3 a4 a5 a6 a7 a8 a9 a10 a11 a12 a13 a14 a15:Option V} {σ:St} {H:Hp} {Q:VK}:tVar 16 (a0::a1::a2::a3::a4::a5::a6::a7::a8::a9::a10::a11::a12::a13::a14::a15::some v::σ) H Q=Q v H:=by
 simp only [ZAY,ZAS]
theorem tVar_17 {v:V} {a0 a1 a2 a3 a4 a5 a6 a7 a8 a9 a10 a11 a12 a13 a14 a15 a16:Option V} {σ:St} {H:Hp} {Q:VK}:tVar 17 (a0::a1::a2::a3::a4::a5::a6::a7::a8::a9::a10::a11::a12::a13::a14::a15::a16::some v::σ) H Q=Q v H:=by
 simp only [ZAY,ZAS]
theorem tVar_18 {v:V} {a0 a1 a2 a3 a4 a5 a6 a7 a8 a9 a10 a11 a12 a13 a14 a15 a16 a17:Option V} {σ:St} {H:Hp} {Q:VK}:tVar 18 (a0::a1::a2::a3::a4::a5::a6::a7::a8::a9::a10::a11::a12::a13::a14::a15::a16::a17::some v::σ) H Q=Q v H:=by
 simp only [ZAY,ZAS]
theorem tVar_19 {v:V} {a0 a1 a2 a3 a4 a5 a6 a7 a8 a9 a10 a11 a12 a13 a14 a15 a16 a17 a18:Option V} {σ:St} {H:Hp} {Q:VK}:tVar 19 (a0::a1::a2::a3::a4::a5::a6::a7::a8::a9::a10::a11::a12::a13::a14::a15::a16::a17::a18::some v::σ) H Q=Q v H:=by
 simp only [ZAY,ZAS]
theorem tVar_20 {v:V} {a0 a1 a2 a3 a4 a5 a6 a7 a8 a9 a10 a11 a12 a13 a14 a15 a16 a17 a18 a19:Option V} {σ:St} {H:Hp} {Q:VK}:tVar 20 (a0::a1::a2::a3::a4::a5::a6::a7::a8::a9::a10::a11::a12::a13::a14::a15::a16::a17::a18::a19::some v::σ) H Q=Q v H:=by
 simp only [ZAY,ZAS]
theorem tVar_21 {v:V} {a0 a1 a2 a3 a4 a5 a6 a7 a8 a9 a10 a11 a12 a13 a14 a15 a16 a17 a18 a19 a20:Option V} {σ:St} {H:Hp} {Q:VK}:tVar 21 (a0::a1::a2::a3::a4::a5::a6::a7::a8::a9::a10::a11::a12::a13::a14::a15::a16::a17::a18::a19::a20::some v::σ) H Q=Q v H:=by
 simp only [ZAY,ZAS]
theorem tVar_22 {v:V} {a0 a1 a2 a3 a4 a5 a6 a7 a8 a9 a10 a11 a12 a13 a14 a15 a16 a17 a18 a19 a20 a21:Option V} {σ:St} {H:Hp} {Q:VK}:tVar 22 (a0::a1::a2::a3::a4::a5::a6::a7::a8::a9::a10::a11::a12::a13::a14::a15::a16::a17::a18::a19::a20::a21::some v::σ) H Q=Q v H:=by
 simp only [ZAY,ZAS]
theorem tVar_23 {v:V} {a0 a1 a2 a3 a4 a5 a6 a7 a8 a9 a10 a11 a12 a13 a14 a15 a16 a17 a18 a19 a20 a21 a22:Option V} {σ:St} {H:Hp} {Q:VK}:tVar 23 (a0::a1::a2::a3::a4::a5::a6::a7::a8::a9::a10::a11::a12::a13::a14::a15::a16::a17::a18::a19::a20::a21::a22::some v::σ) H Q=Q v H:=by
 simp only [ZAY,ZAS]
theorem tVar_24 {v:V} {a0 a1 a2 a3 a4 a5 a6 a7 a8 a9 a10 a11 a12 a13 a14 a15 a16 a17 a18 a19 a20 a21 a22 a23:Option V} {σ:St} {H:Hp} {Q:VK}:tVar 24 (a0::a1::a2::a3::a4::a5::a6::a7::a8::a9::a10::a11::a12::a13::a14::a15::a16::a17::a18::a19::a20::a21::a22::a23::some v::σ) H Q=Q v H:=by
 simp only [ZAY,ZAS]
theorem tVar_25 {v:V} {a0 a1 a2 a3 a4 a5 a6 a7 a8 a9 a10 a11 a12 a13 a14 a15 a16 a17 a18 a19 a20 a21 a22 a23 a24:Option V} {σ:St} {H:Hp} {Q:VK}:tVar 25 (a0::a1::a2::a3::a4::a5::a6::a7::a8::a9::a10::a11::a12::a13::a14::a15::a16::a17::a18::a19::a20::a21::a22::a23::a24::some v::σ) H Q=Q v H:=by
 simp only [ZAY,ZAS]
theorem tVar_26 {v:V} {a0 a1 a2 a3 a4 a5 a6 a7 a8 a9 a10 a11 a12 a13 a14 a15 a16 a17 a18 a19 a20 a21 a22 a23 a24 a25:Option V} {σ:St} {H:Hp} {Q:VK}:tVar 26 (a0::a1::a2::a3::a4::a5::a6::a7::a8::a9::a10::a11::a12::a13::a14::a15::a16::a17::a18::a19::a20::a21::a22::a23::a24::a25::some v::σ) H Q=Q v H:=by
 simp only [ZAY,ZAS]
theorem tVar_27 {v:V} {a0 a1 a2 a3 a4 a5 a6 a7 a8 a9 a10 a11 a12 a13 a14 a15 a16 a17 a18 a19 a20 a21 a22 a23 a24 a25 a26:Option V} {σ:St} {H:Hp} {Q:VK}:tVar 27 (a0::a1::a2::a3::a4::a5::a6::a7::a8::a9::a10::a11::a12::a13::a14::a15::a16::a17::a18::a19::a20::a21::a22::a23::a24::a25::a26::some v::σ) H Q=Q v H:=by
 simp only [ZAY,ZAS]
theorem tVar_28 {v:V} {a0 a1 a2 a3 a4 a5 a6 a7 a8 a9 a10 a11 a12 a13 a14 a15 a16 a17 a18 a19 a20 a21 a22 a23 a24 a25 a26 a27:Option V} {σ:St} {H:Hp} {Q:VK}:tVar 28 (a0::a1::a2::a3::a4::a5::a6::a7::a8::a9::a10::a11::a12::a13::a14::a15::a16::a17::a18::a19::a20::a21::a22::a23::a24::a25::a26::a27::some v::σ) H Q=Q v H:=by
 simp only [ZAY,ZAS]
theorem tVar_29 {v:V} {a0 a1 a2 a3 a4 a5 a6 a7 a8 a9 a10 a11 a12 a13 a14 a15 a16 a17 a18 a19 a20 a21 a22 a23 a24 a25 a26 a27 a28:Option V} {σ:St} {H:Hp} {Q:VK}:tVar 29 (a0::a1::a2::a3::a4::a5::a6::a7::a8::a9::a10::a11::a12::a13::a14::a15::a16::a17::a18::a19::a20::a21::a22::a23::a24::a25::a26::a27::a28::some v::σ) H Q=Q v H:=by
 simp only [ZAY,ZAS]
theorem tVar_30 {v:V} {a0 a1 a2 a3 a4 a5 a6 a7 a8 a9 a10 a11 a12 a13 a14 a15 a16 a17 a18 a19 a20 a21 a22 a23 a24 a25 a26 a27 a28 a29:Option V} {σ:St} {H:Hp} {Q:VK}:tVar 30 (a0::a1::a2::a3::a4::a5::a6::a7::a8::a9::a10::a11::a12::a13::a14::a15::a16::a17::a18::a19::a20::a21::a22::a23::a24::a25::a26::a27::a28::a29::some v::σ) H Q=Q v H:=by
 simp only [ZAY,ZAS]
open PySem
noncomputable def Cut (t:TS):TS:=t
theorem ZAL {X:Cx} {rest:List Stmt} {u:TS} (h:PSs X rest u):PSs X rest (Cut u):=h
theorem ZAO {u:TS} {D:Ends} {σ:St} {H:Hp} (h:u D σ H):Cut u D σ H:=h
theorem us0 {l:List Value} (h:l.length=0):l=[]:=List.length_eq_zero_iff.mp h
theorem us1 {l:List Value} (h:l.length=1):∃ a0,l=[a0]:=by
 cases l with
 | nil=>cases h
 | cons a l=>
  obtain rfl:=us0 (l:=l) (Nat.succ.inj h)
  exact ⟨a,rfl⟩
theorem us2 {l:List Value} (h:l.length=2):∃ a0 a1,l=[a0,a1]:=by
 cases l with
 | nil=>cases h
 | cons a l=>
  obtain ⟨b0,rfl⟩:=us1 (l:=l) (Nat.succ.inj h)
  exact ⟨a,b0,rfl⟩
theorem us3 {l:List Value} (h:l.length=3):∃ a0 a1 a2,l=[a0,a1,a2]:=by
 cases l with
 | nil=>cases h
 | cons a l=>
  obtain ⟨b0,b1,rfl⟩:=us2 (l:=l) (Nat.succ.inj h)
  exact ⟨a,b0,b1,rfl⟩
theorem us4 {l:List Value} (h:l.length=4):∃ a0 a1 a2 a3,l=[a0,a1,a2,a3]:=by
 cases l with
 | nil=>cases h
 | cons a l=>
  obtain ⟨b0,b1,b2,rfl⟩:=us3 (l:=l) (Nat.succ.inj h)
  exact ⟨a,b0,b1,b2,rfl⟩
end L2
namespace Law
open PySem L2
local macro_rules | `(tactic| walk_at "o")=>`(tactic| first | exact Or.inl rfl | exact Or.inr rfl)
set_option hygiene false in
local macro_rules | `(tactic| walk_at "rd")=>`(tactic| ((try dsimp only [cx_K,tChain,tForZ_eq,tRevL,tCompR2_eq,sFldAug_eq,cx_cloK,tCallV,startC,tForE_eq,tCompE_eq,tMaxD,tAug_eq,ipI_int,gSub,gCons_eq,gNil_eq,tSeq,tIfS,ZC6,tB,tOr,tAnd,tNot,tOp,tUn,tC,ZAS,tTry,ZCt,tRaise,tMethS,ZCV,tXMk,tFS,ZDC,ZCk,tTry0,tForT_eq,tCompT_eq,tCompS_eq,tForS_eq,tForZ_eqT,tForR3_eq,tCompR3_eq,tBL,tVar_1,tVar_2,tVar_3,tVar_4,tVar_5,tVar_6,tVar_7,tVar_8,tVar_9,tVar_10,tVar_11,tVar_12,tVar_13,tVar_14,tVar_15,tVar_16,tVar_17,tVar_18,tVar_19,tVar_20,tVar_21,tVar_22,tVar_23,tVar_24,tVar_25,tVar_26,tVar_27,tVar_28,tVar_29,tVar_30,rI0_int,rI_int,rU_int,rEq_int,rNe_int,rEq_bl,rNe_bl,rEq_str,rNe_str,ex_bl,ex_int,tAsg,ZCs,tRet,tRetN,ZDA,ZC9,tNever,ZDB,tOrV,ZC8,tIf,List.set_cons_zero,List.set_cons_succ,ZC2,tMeth,ZAs,tNil,List.cons_append,List.nil_append,List.append_nil,tCB,tFld_eq,sFld_eq,tForL_eq,tForR1_eq,tForR2_eq,tCompL_eq,tCompR1_eq,tYes,tBM,tBM0,tLst,tTup,tMake,true_and,tSl,ZC7,ZCW,decide_eq_true_eq,Bool.not_eq_true',decide_eq_false_iff_not,L2.start,yAY,List.map_nil,yBF,List.length_nil,Nat.reduceAdd,Nat.reduceSub,Nat.zero_add,Nat.sub_self,List.replicate_zero,List.replicate_succ,if_true,if_false,Bool.false_eq_true,Bool.true_eq_false,Bool.not_true,Bool.not_false]);(try simp only [cx_K,tChain,tForZ_eq,tRevL,tCompR2_eq,sFldAug_eq,cx_cloK,tCallV,startC,tForE_eq,tCompE_eq,tMaxD,tAug_eq,ipI_int,gSub,gCons_eq,gNil_eq,tSeq,tIfS,ZC6,tB,tOr,tAnd,tNot,tOp,tUn,tC,ZAS,tTry,ZCt,tRaise,tMethS,ZCV,tXMk,tFS,ZDC,ZCk,tTry0,tForT_eq,tCompT_eq,tCompS_eq,tForS_eq,tForZ_eqT,tForR3_eq,tCompR3_eq,tBL,tVar_1,tVar_2,tVar_3,tVar_4,tVar_5,tVar_6,tVar_7,tVar_8,tVar_9,tVar_10,tVar_11,tVar_12,tVar_13,tVar_14,tVar_15,tVar_16,tVar_17,tVar_18,tVar_19,tVar_20,tVar_21,tVar_22,tVar_23,tVar_24,tVar_25,tVar_26,tVar_27,tVar_28,tVar_29,tVar_30,rI0_int,rI_int,rU_int,rEq_int,rNe_int,rEq_bl,rNe_bl,rEq_str,rNe_str,ex_bl,ex_int,tAsg,ZCs,tRet,tRetN,ZDA,ZC9,tNever,ZDB,tOrV,ZC8,tIf,List.set_cons_zero,List.set_cons_succ,ZC2,tMeth,ZAs,tNil,List.cons_append,List.nil_append,List.append_nil,tCB,tFld_eq,sFld_eq,tForL_eq,tForR1_eq,tForR2_eq,tCompL_eq,tCompR1_eq,tYes,tBM,tBM0,tLst,tTup,tMake,true_and,tSl,ZC7,ZCW,decide_eq_true_eq,Bool.not_eq_true',decide_eq_false_iff_not,L2.start,yAY,List.map_nil,yBF,List.length_nil,Nat.reduceAdd,Nat.reduceSub,Nat.zero_add,Nat.sub_self,List.replicate_zero,List.replicate_succ,if_true,if_false,Bool.false_eq_true,Bool.true_eq_false,Bool.not_true,Bool.not_false])))
local macro_rules | `(tactic| walk_at "up")=>`(tactic| first | assumption | (refine Same.get (by assumption) ?_;walk_at "up"))
local macro_rules | `(tactic| walk_at "lk")=>`(tactic| ((repeat (first | rw [lkc,if_pos rfl] | rw [lkc,if_neg (by decide +kernel)]));first | done | rfl))
noncomputable def top (i:Nat):Stmt:=PySem.Challenge.pw_sorthall_k82_no_row.main.body.getD i (.Pass ⟨0,0,0,0⟩)
noncomputable abbrev ZAj:Stmt:=inClass (top 6) 0
noncomputable abbrev ZAN:Stmt:=top 12
noncomputable abbrev ZAh:Stmt:=top 15
noncomputable abbrev ZAp:Stmt:=top 16
noncomputable abbrev ZAw:Stmt:=top 18
noncomputable abbrev ZBZ:Stmt:=top 19
noncomputable abbrev ZBb:Stmt:=top 20
noncomputable abbrev ZB5:Stmt:=top 21
noncomputable abbrev ZAu:Stmt:=top 22
noncomputable abbrev ZBI:Stmt:=top 23
noncomputable abbrev ZBa:Stmt:=top 24
noncomputable abbrev ZB6:Stmt:=top 25
noncomputable abbrev ZAv:Stmt:=top 26
noncomputable abbrev ZB7:Stmt:=top 27
noncomputable abbrev ZCr:Stmt:=top 28
noncomputable abbrev ZCC:Stmt:=top 29
theorem sc_NoRow_init:FnScope ["self","line"] ["self","line"] (ZAD ZAj):=⟨rfl,rfl,rfl,by decide +kernel,rfl,by decide +kernel,by decide +kernel⟩
theorem sc_is_written_number:FnScope ["text","figures"] ["text"] (ZAD ZAN):=⟨rfl,rfl,rfl,by decide +kernel,rfl,by decide +kernel,by decide +kernel⟩
theorem sc_are_numbers:FnScope ["words"] ["words"] (ZAD ZAh):=⟨rfl,rfl,rfl,by decide +kernel,rfl,by decide +kernel,by decide +kernel⟩
theorem sc_read_row:FnScope ["text","row","number","line","words"] ["text"] (ZAD ZAp):=⟨rfl,rfl,rfl,by decide +kernel,rfl,by decide +kernel,by decide +kernel⟩
theorem sc_cell_at:FnScope ["_law_script","_law_k"] ["_law_script","_law_k"] (ZAD ZAw):=⟨rfl,rfl,rfl,by decide +kernel,rfl,by decide +kernel,by decide +kernel⟩
theorem sc_whole:FnScope ["_law_found"] ["_law_found"] (ZAD ZBZ):=⟨rfl,rfl,rfl,by decide +kernel,rfl,by decide +kernel,by decide +kernel⟩
theorem sc_drawn:FnScope ["_law_cell","_law_kind"] ["_law_cell","_law_kind"] (ZAD ZBb):=⟨rfl,rfl,rfl,by decide +kernel,rfl,by decide +kernel,by decide +kernel⟩
theorem sc_text:FnScope ["_law_cells","_law_width","_law_kind","_law_odd","_law_lines","_law_at","_law_words"] ["_law_cells","_law_width","_law_kind","_law_odd"] (ZAD ZB5):=⟨rfl,rfl,rfl,by decide +kernel,rfl,by decide +kernel,by decide +kernel⟩
theorem sc_spoiled:FnScope ["_law_text_here","_law_cells","_law_cell","_law_at","_law_sign"] ["_law_text_here","_law_cells"] (ZAD ZAu):=⟨rfl,rfl,rfl,by decide +kernel,rfl,by decide +kernel,by decide +kernel⟩
theorem sc_number:FnScope ["_law_word","_law_figures","_law_number_here","_law_sign"] ["_law_word"] (ZAD ZBI):=⟨rfl,rfl,rfl,by decide +kernel,rfl,by decide +kernel,by decide +kernel⟩
theorem sc_thing:FnScope ["_law_line_here","_law_thing_here","_law_word","_law_number_here"] ["_law_line_here"] (ZAD ZBa):=⟨rfl,rfl,rfl,by decide +kernel,rfl,by decide +kernel,by decide +kernel⟩
theorem sc_read:FnScope ["_law_text_here","_law_row_here","_law_lines","_law_k","_law_thing_here"] ["_law_text_here"] (ZAD ZB6):=⟨rfl,rfl,rfl,by decide +kernel,rfl,by decide +kernel,by decide +kernel⟩
theorem sc_refused:FnScope ["_law_text_here","_law_line_here","_law_kinds","e"] ["_law_text_here","_law_line_here"] (ZAD ZAv):=⟨rfl,rfl,rfl,by decide +kernel,rfl,by decide +kernel,by decide +kernel⟩
theorem sc_line:FnScope ["_law_text_here","_law_line_here","_law_told","e"] ["_law_text_here","_law_line_here"] (ZAD ZB7):=⟨rfl,rfl,rfl,by decide +kernel,rfl,by decide +kernel,by decide +kernel⟩
theorem sc_row:FnScope ["_law_found","_law_due","_law_k","_law_one","_law_other"] ["_law_found","_law_due"] (ZAD ZCr):=⟨rfl,rfl,rfl,by decide +kernel,rfl,by decide +kernel,by decide +kernel⟩
theorem sc_law:FnScope ["_law_script","_law_width","_law_text_here","_law_many","_law_row_here","_law_line_here"] ["_law_script"] (ZAD ZCC):=⟨rfl,rfl,rfl,by decide +kernel,rfl,by decide +kernel,by decide +kernel⟩
structure Bt (K:W.Frag) (mg:Str->Option Value) (C_HallError C_NoRule C_NoPaper C_NoPlace C_NoKey C_NoRow C_NoOrder C_TooFar C_Spent:Addr):Prop where
 b_len:mg "len"=none
 b_range:mg "range"=none
 b_tuple:mg "tuple"=none
 b_list:mg "list"=none
 b_isinstance:mg "isinstance"=none
 b_bool:mg "bool"=none
 b_int:mg "int"=none
 b_str:mg "str"=none
 b_all:mg "all"=none
 b_enumerate:mg "enumerate"=none
 b_zip:mg "zip"=none
 b_ValueError:mg "ValueError"=none
 c_MOST_FIGURES:∃ t,mg "MOST_FIGURES"=some (.int 60 t)
 c_MOST_NUMBERS:∃ t,mg "MOST_NUMBERS"=some (.int 8 t)
 m_HallError:mg "HallError"=some (.ref C_HallError)
 m_NoRule:mg "NoRule"=some (.ref C_NoRule)
 m_NoPaper:mg "NoPaper"=some (.ref C_NoPaper)
 m_NoPlace:mg "NoPlace"=some (.ref C_NoPlace)
 m_NoKey:mg "NoKey"=some (.ref C_NoKey)
 m_NoRow:mg "NoRow"=some (.ref C_NoRow)
 m_NoOrder:mg "NoOrder"=some (.ref C_NoOrder)
 m_TooFar:mg "TooFar"=some (.ref C_TooFar)
 m_Spent:mg "Spent"=some (.ref C_Spent)
 xc_NoRow:ExcC K C_NoRow
 xk_NoRow:XCls K C_NoRow
 xi_NoRow:∃ fI,ZBe K C_NoRow fI bmV "ValueError.__new__"=true
 xm_NoRow_HallError:PySem.W.exmOne K (.ref C_NoRow) (.ref C_HallError)=some true
 xm_NoRow_NoRow:PySem.W.exmOne K (.ref C_NoRow) (.ref C_NoRow)=some true
 n_NoRow_line:NoAttr K C_NoRow "line"
 xb_HallError:XBase K C_HallError
 kit_int_bool:PySem.W.kitOne K (.type "int") (.type "bool")=some false
 kit_NoRow_ValueError:PySem.W.kitOne K (.ref C_NoRow) (.type "ValueError")=some true
 kit_NoRow_NoRow:PySem.W.kitOne K (.ref C_NoRow) (.ref C_NoRow)=some true
 kit_NoRow_NoRule:PySem.W.kitOne K (.ref C_NoRow) (.ref C_NoRule)=some false
 kit_NoRow_NoPlace:PySem.W.kitOne K (.ref C_NoRow) (.ref C_NoPlace)=some false
 kit_NoRow_NoKey:PySem.W.kitOne K (.ref C_NoRow) (.ref C_NoKey)=some false
 kit_NoRow_NoPaper:PySem.W.kitOne K (.ref C_NoRow) (.ref C_NoPaper)=some false
 kit_NoRow_NoOrder:PySem.W.kitOne K (.ref C_NoRow) (.ref C_NoOrder)=some false
 kit_NoRow_TooFar:PySem.W.kitOne K (.ref C_NoRow) (.ref C_TooFar)=some false
 kit_NoRow_Spent:PySem.W.kitOne K (.ref C_NoRow) (.ref C_Spent)=some false
noncomputable def ZC3 (K:W.Frag):Sp:=fun vs H Q _=>∃ (a:Addr) (ns:List Int),vs=[.ref a] /\ SqL K H a (ns.map V.int) /\ ns.length <= 63 /\ ∀ H',Q (.bl true) H'
noncomputable def cellOf (ns:List Int) (k:Int):Int:=if k < (ns.length:Int) then (ns[k.toNat]?).getD 0 else 0
noncomputable def ZCw (K:W.Frag):Sp:=fun vs H Q _=>∃ (a:Addr) (ns:List Int) (k:Int),vs=[.ref a,.int k] /\ SqL K H a (ns.map V.int) /\ 0 <= k /\ Q (.int (cellOf ns k)) H
noncomputable def ZBH:Sp:=fun vs H Q _=>∃ i:Int,vs=[.int i] /\ Q (.bl true) H
theorem ZCd {α:Type} {P:TS} {D:Ends} (σ:α->St) (X:α->Hp) (p:α->Prop) {G:Prop} (h:(∀ x,p x->Cut P D (σ x) (X x))->G) (t:∀ x,p x->Cut P D (σ x) (X x)):G:=h t
noncomputable def tx (n:Int):Str:=Str.ofString (toString n)
noncomputable def Sm (n:Int):Prop:=n.natAbs.log2 < 200
theorem Sm.big {n:Int} (h:Sm n):n.natAbs.log2 < 1920:=Nat.lt_trans h (by decide)
theorem tx_len {n:Int} (h:Sm n):(tx n).length <= 201:=by
 unfold tx
 rw [PySem.ofString_length]
 exact int_text_length_le (by decide) h
theorem Sm.of {n:Int} (h:n.natAbs < 2 ^ 200):Sm n:=by
 unfold Sm
 by_cases z:n.natAbs=0
 .rw [z];decide
 .exact (Nat.log2_lt z).mpr h
structure Rws (H:Hp) (rs:List (List Int)) (xs:List V):Prop where
 len:xs.length=rs.length
 get:∀ (i:Nat) ns,rs[i]?=some ns->∃ t,xs[i]?=some (V.ref t) /\ H t=some (.tup (ns.map V.int))
 wide:∀ ns∈rs,0 < ns.length /\ ns.length <= 8
 sm:∀ ns∈rs,∀ n∈ns,Sm n
theorem ZCJ {R:Bool->Prop} {K:W.Frag} {H:Hp} {ea C:Addr} {c:V} {b:Bool} {dd:Option Addr} (h:H ea=some (excO ea (.ref C) dd)) (x:ExcC K C) (hd:PySem.W.hasDictIn K C=true) (k:PySem.W.kitOne K (.ref C) (cval c)=some b) (hc:ZBy c=true) (q:R b) :
  ∃ a C' c' b' dd',[V.ref ea,c]=[.ref a,c'] /\ ZBy c'=true /\ H a=some (excO a (.ref C') dd') /\ ExcC K C' /\ PySem.W.hasDictIn K C'=true /\ PySem.W.kitOne K (.ref C') (cval c')=some b' /\ R b':=⟨ea,C,c,b,dd,rfl,hc,h,x,hd,k,q⟩
theorem tx_cps (n:Int):(tx n).cps.toList=if 0 <= n then dgs n.toNat else 45::dgs (-n).toNat:=int_cps n
noncomputable def fgs (n:Int):List Nat:=dgs n.natAbs
theorem tx_eq (n:Int):(tx n).cps.toList=if decide (n < 0) then 45::fgs n else fgs n:=by
 rw [tx_cps]
 by_cases h:0 <= n
 .rw [if_pos h,if_neg (by simp;omega)];unfold fgs;congr 1;omega
 .rw [if_neg h,if_pos (by simp;omega)];unfold fgs;congr 2;omega
theorem tx_chars {n:Int} {c:Nat} (h:c∈(tx n).cps.toList):(48 <= c /\ c <= 57)∨c=45:=by
 rw [tx_eq] at h
 split at h
 .rcases yAG.mp h with z | z
  .exact .inr z
  .exact .inl (dgs_dig z)
 .exact .inl (dgs_dig h)
theorem ZCX {a b:Str} (h:a.cps.toList=b.cps.toList):a=b:=PySem.Str.ext' (Array.toList_inj.mp h)
theorem join_cons2 (c:Nat) (p q:Str) (r:List Str):(Str.join ⟨#[c]⟩ (p::q::r)).cps.toList=p.cps.toList++c::(Str.join ⟨#[c]⟩ (q::r)).cps.toList:=by
 show (p++⟨#[c]⟩++Str.join ⟨#[c]⟩ (q::r)).cps.toList=_
 rw [PySem.Str.cps_append,PySem.Str.cps_append,Array.toList_append,Array.toList_append,List.append_assoc];rfl
theorem join_chars (c:Nat):∀ {A:List Str} {d:Nat},d∈(Str.join ⟨#[c]⟩ A).cps.toList->d=c∨∃ p∈A,d∈p.cps.toList
 | [],d,h=>by cases h
 | [a],d,h=>.inr ⟨a,yAE,h⟩
 | a::b::A,d,h=>by
  rw [join_cons2] at h
  rcases yAX.mp h with z | z
  .exact .inr ⟨a,yAE,z⟩
  .rcases yAG.mp z with z | z
   .exact .inl z
   .rcases join_chars c z with w | ⟨p,hp,w⟩
    .exact .inl w
    .exact .inr ⟨p,yAJ _ hp,w⟩
theorem sw_one (x:Str) (c:Nat):Txt.startswith x ⟨#[c]⟩=decide (x.cps.toList[0]?=some c):=by
 unfold Txt.startswith
 rw [yBE,yAT,decide_eq_true_iff,decide_eq_true_iff]
 exact StrLaws.subAt_one x c 0
theorem cut_w {ms:List Int} {a w:Nat} (h:a+w <= ms.length):cutV (ms.map V.int) (some (a:Int)) (some ((a:Int)+(w:Int)))=(((ms.drop a).take w).map V.int):=by
 rw [cutV_ints,show ((a:Int)+(w:Int))=((a+w:Nat):Int) by omega,HT.sIx_nat,HT.sIx_nat,Nat.min_eq_left (by omega),Nat.min_eq_left (by omega),Nat.add_sub_cancel_left]
noncomputable def fig (L:List Nat):List Nat:=if L[0]?=some 45 then L.drop 1 else L
noncomputable def dgB (c:Nat):Bool:=decide (48 <= c) && decide (c <= 57)
theorem dgB_iff {c:Nat}:dgB c=true↔48 <= c /\ c <= 57:=by unfold dgB;rw [yAT,decide_eq_true_iff,decide_eq_true_iff]
noncomputable def wrB (L:List Nat):Bool:=decide (fig L≠[]) && decide ((fig L).length <= 60) && (fig L).all dgB && (decide (L=[48]) || !decide ((fig L)[0]?=some 48))
noncomputable def wv (L:List Nat):Int:=if L[0]?=some 45 then -(vlD (fig L):Int) else vlD (fig L)
noncomputable def wrS (z:Str):Bool:=wrB z.cps.toList
noncomputable def wvS (z:Str):Int:=wv z.cps.toList
noncomputable def Asc (z:Str):Prop:=∀ c∈z.cps.toList,c < 128
noncomputable def figS (z:Str):Str:=⟨(fig z.cps.toList).toArray⟩
theorem sl_one {z:Str} (h:z.cps.toList[0]?=some 45):Txt.slice z (some 1) none=figS z:=by
 have e:Txt.slice z (some 1) none=StrLaws.sliceText z (some 1) none:=rfl
 have hl:0 < z.cps.toList.length:=(yAP.mp h).1
 rw [e,StrLaws.sliceText_from (by omega)]
 apply ZCX
 unfold figS fig
 rw [if_pos h]
 show (List.drop 1 z.cps.toList).take _=_
 exact yBH (by rw [yBJ];omega)
theorem ZB0 {z:Str} (h:z.cps.toList[0]?≠some 45):figS z=z:=ZCX (by unfold figS fig;rw [if_neg h])
theorem fig_sub {L:List Nat} {c:Nat} (h:c∈fig L):c∈L:=by
 unfold fig at h
 split at h
 .exact List.mem_of_mem_drop h
 .exact h
theorem ZBV {z:Str} {L:List Nat} {y:Str} (h:y.cps.toList=L):(z=y)↔z.cps.toList=L:=⟨fun e=>by rw [e,h],fun e=>ZCX (by rw [e,h])⟩
theorem in_figs2 (c:Nat):(!(Builtin.Str.occurrences (Str.ofString "0123456789") ⟨#[c]⟩ 0 (Str.ofString "0123456789").length 1).isEmpty)=dgB c:=by
 rw [StrLaws.found_one,show (Str.ofString "0123456789").cps.toList=[48,49,50,51,52,53,54,55,56,57] by decide,yBE,decide_eq_true_iff,dgB_iff]
 simp only [yAG,List.not_mem_nil,or_false]
 omega
theorem fig_len (L:List Nat):(fig L).length <= L.length:=by
 unfold fig
 split
 .rw [yBJ];omega
 .exact yAA _
noncomputable def ZCu:Sp:=fun vs H Q _=>∃ z:Str,vs=[.str z] /\ Asc z /\ z.length <= 100000 /\ ∀ H',Same H H'->Q (.bl (wrS z)) H'
noncomputable def wordsOf (l:Str):List Str:=Txt.split l ⟨#[32]⟩
noncomputable def linesOf (z:Str):List Str:=Txt.split z ⟨#[10]⟩
theorem join_has (c:Nat):∀ {A:List Str} {p:Str} {d:Nat},p∈A->d∈p.cps.toList->d∈(Str.join ⟨#[c]⟩ A).cps.toList
 | [a],p,d,h,hd=>by rw [yBK.mp h] at hd;exact hd
 | a::b::A,p,d,h,hd=>by
  rw [join_cons2]
  rcases yAG.mp h with z | z
  .rw [z] at hd;exact List.mem_append_left _ hd
  .exact yAI _ (yAJ _ (join_has c z hd))
theorem split_mem {z p:Str} {c:Nat} (h:p∈Txt.split z ⟨#[c]⟩) {d:Nat} (hd:d∈p.cps.toList):d∈z.cps.toList:=by
 rw [<- StrLaws.join_split z ⟨#[c]⟩]
 exact join_has c h hd
theorem Asc.split {z p:Str} {c:Nat} (h:Asc z) (hp:p∈Txt.split z ⟨#[c]⟩):Asc p:=fun d hd=>h d (split_mem hp hd)
noncomputable def okW (l:Str):Bool:=decide ((wordsOf l).length <= 8) && (wordsOf l).all wrS
noncomputable def okL (ls:List Str) (k:Nat):Bool:=okW (ls.getD k Str.empty) && (decide (k=0) || decide ((wordsOf (ls.getD k Str.empty)).length=(wordsOf (ls.getD 0 Str.empty)).length))
noncomputable def valL (l:Str):List Int:=(wordsOf l).map wvS
noncomputable def ZCa:Sp:=fun vs H Q _=>∃ (l:Addr) (ws:List Str),vs=[.ref l] /\ H l=some (.lst (ws.map V.str)) /\ (∀ z∈ws,Asc z /\ z.length <= 100000) /\ ∀ H',Same H H'->Q (.bl (decide (ws.length <= 8) && ws.all wrS)) H'
noncomputable def fLine (n:Int):List (Str×V):=[("line",.int n)]
noncomputable def ZBG (C:Addr):Sp:=fun vs H Q _=>∃ (e:Addr) (n:Int),vs=[.ref e,.int n] /\ H e=some (excM e (.ref C) none) /\ n.natAbs.log2 < 1920 /\ ∀ d,H d=none->d≠e->Q .non (upd (upd H d (xdM d (fLine n))) e (excM e (.ref C) (some d)))
noncomputable def RwV (H:Hp) (rs:List (List Int)) (xs:List V):Prop:=xs.length=rs.length /\ ∀ (i:Nat) ns,rs[i]?=some ns->∃ t,xs[i]?=some (V.ref t) /\ H t=some (.tup (ns.map V.int))
theorem RwV.keep {H H':Hp} {rs:List (List Int)} {xs:List V} (s:Same H H') (h:RwV H rs xs):RwV H' rs xs:=⟨h.1,fun i ns hi=>by
 obtain ⟨t,a,b⟩:=h.2 i ns hi
 exact ⟨t,a,s _ _ b⟩⟩
theorem RwV.upd {H:Hp} {rs:List (List Int)} {xs:List V} {l:Addr} {us us':List V} (h:RwV H rs xs) (hl:H l=some (.lst us)):RwV (upd H l (.lst us')) rs xs :=
 ⟨h.1,fun i ns hi=>by
  obtain ⟨t,a,b⟩:=h.2 i ns hi
  exact ⟨t,a,by rw [ZAH (fun z=>by rw [z,hl] at b;cases b)];exact b⟩⟩
theorem RwV.nil {H:Hp}:RwV H [] []:=⟨rfl,fun i ns h=>by simp at h⟩
theorem RwV.snoc {H:Hp} {rs:List (List Int)} {xs:List V} {ns:List Int} {t:Addr} (h:RwV H rs xs) (ht:H t=some (.tup (ns.map V.int))):RwV H (rs++[ns]) (xs++[.ref t]):=by
 refine ⟨by rw [yAQ,yAQ,h.1];rfl,fun i ms hi=>?_⟩
 by_cases z:i < rs.length
 .rw [List.getElem?_append_left z] at hi
  obtain ⟨t',a,b⟩:=h.2 i ms hi
  exact ⟨t',by rw [List.getElem?_append_left (by rw [h.1];exact z)];exact a,b⟩
 .have e:=(yAP.mp hi).1
  rw [yAQ] at e
  have e1:i=rs.length:=by have:([ns]:List (List Int)).length=1:=rfl;omega
  subst e1
  rw [List.getElem?_append_right (yAA _),Nat.sub_self] at hi
  cases hi
  exact ⟨t,by rw [<- h.1,List.getElem?_append_right (yAA _),Nat.sub_self];rfl,ht⟩
theorem Sm.nat82 {n:Nat} (h:n <= 100000):Sm (n:Int):=Sm.of (Nat.lt_of_le_of_lt (by omega:((n:Nat):Int).natAbs <= 100000) (by decide))
theorem wr_lit {z:Str} (h:wrS z=true):fig z.cps.toList≠[] /\ (fig z.cps.toList).length <= 60 /\ ∀ c∈fig z.cps.toList,48 <= c /\ c <= 57:=by
 unfold wrS wrB at h
 rw [yAT,yAT,yAT,decide_eq_true_iff,decide_eq_true_iff,yAV] at h
 exact ⟨h.1.1.1,h.1.1.2,fun c hc=>dgB_iff.mp (h.1.2 c hc)⟩
theorem fig_lit (L:List Nat):L=if decide (L[0]?=some 45)=true then 45::fig L else fig L:=by
 unfold fig
 by_cases h:L[0]?=some 45
 .rw [if_pos (decide_eq_true h),if_pos h]
  cases L with
  | nil=>cases h
  | cons c r=>cases h;rfl
 .rw [if_neg (by simpa using h),if_neg h]
theorem wordsOf_len (z:Str):(wordsOf z).length <= z.length+2:=by
 unfold wordsOf Txt.split
 split
 .exact Nat.le_add_left _ _
 .split
  .exact Nat.le_add_left _ _
  .exact ZBm z 32
theorem ZBO (z:Str):(linesOf z).length <= z.length+2:=by
 unfold linesOf Txt.split
 split
 .exact Nat.le_add_left _ _
 .split
  .exact Nat.le_add_left _ _
  .exact ZBm z 10
noncomputable def ZBP (C:Addr):Sp:=fun vs H Q E=>∃ z:Str,vs=[.str z] /\ Asc z /\ z.length <= 94000 /\
 (z=Str.ofString ""->∀ p H',Same H H'->H p=none->H' p=some (.lst [])->Q (.ref p) H') /\
 (z≠Str.ofString ""->(∀ k,k < (linesOf z).length->okL (linesOf z) k=true)->∀ p H' xs,Same H H'->H p=none->H' p=some (.lst xs)->RwV H' ((linesOf z).map valL) xs->Q (.ref p) H') /\
 (z≠Str.ofString ""->∀ k,k < (linesOf z).length->(∀ j,j < k->okL (linesOf z) j=true)->okL (linesOf z) k=false->∀ d H',Same H H'->H d=none->H' d=some (xdM d (fLine k))->E (.ref C) (some d) H')
theorem slice_sub {z:Str} {lo hi:Option Int} {c:Nat} (h:c∈(Txt.slice z lo hi).cps.toList):c∈z.cps.toList:=by
 unfold Txt.slice at h
 split at h
 .exact h
 .obtain ⟨i,_,e⟩:=List.mem_filterMap.mp (show c∈List.filterMap _ _ from h)
  exact yAS (by rw [Array.getElem?_toList];exact e)
theorem sl_first (z:Str):Txt.slice z none (some 1)=Str.ofString "-"↔z.cps.toList[0]?=some 45:=by
 rw [show Str.ofString "-"=⟨#[45]⟩ by decide,ZBV (L:=[45]) rfl]
 by_cases hl:1 <= z.cps.toList.length
 .rw [show Txt.slice z none (some 1)=StrLaws.sliceText z none (some 1) from rfl,StrLaws.sliceText_to (by omega)]
  show List.take 1 (List.drop 0 z.cps.toList)=[45]↔_
  rcases z.cps.toList with _ | ⟨c,r⟩
  .simp
  .simp
 .have e:z.cps.toList=[]:=List.length_eq_zero_iff.mp (by omega)
  rw [e]
  refine ⟨fun h=>?_,fun h=>by cases h⟩
  have:(45:Nat)∈z.cps.toList:=slice_sub (lo:=none) (hi:=some 1) (by rw [h];exact yBK.mpr rfl)
  rw [e] at this
  cases this
theorem vl_snoc (l:List Nat) (c:Nat):vlD (l++[c])=vlD l * 10+(c-48):=by unfold vlD;rw [List.foldl_append];rfl
theorem find_dig {c:Nat} (h:48 <= c /\ c <= 57):Txt.find (Str.ofString "0123456789") ⟨#[c]⟩=((c-48:Nat):Int):=by
 obtain rfl | rfl | rfl | rfl | rfl | rfl | rfl | rfl | rfl | rfl:c=48∨c=49∨c=50∨c=51∨c=52∨c=53∨c=54∨c=55∨c=56∨c=57:=by omega
 all_goals decide +kernel
theorem figS_ne (z:Str):figS z≠z↔z.cps.toList[0]?=some 45:=by
 refine ⟨fun h=>Classical.byContradiction fun h'=>h (ZB0 h'),fun h e=>?_⟩
 have h1:(fig z.cps.toList).length=z.cps.toList.length:=congrArg (fun s:Str=>s.cps.toList.length) e
 have h2:0 < z.cps.toList.length:=(yAP.mp h).1
 unfold fig at h1
 rw [if_pos h,yBJ] at h1
 omega
noncomputable def ZCv:Sp:=fun vs H Q _=>∃ z:Str,vs=[.str z] /\ Asc z /\ z.length <= 100000 /\ Q (if wrS z=true then .int (wvS z) else .non) H
noncomputable def ZBn:Sp:=fun vs H Q _=>∃ l:Str,vs=[.str l] /\ Asc l /\ l.length <= 94000 /\ (okW l=true->∀ t H',Same H H'->H t=none->H' t=some (.tup ((valL l).map V.int))->Q (.ref t) H') /\ (okW l=false->∀ H',Same H H'->Q .non H')
noncomputable def ZCZ:Sp:=fun vs H Q _=>∃ z:Str,vs=[.str z] /\ Asc z /\ z.length <= 94000 /\
 (z=Str.ofString ""->∀ t p H',Same H H'->H t=none->H' t=some (.tup [.ref p,.int (-1)])->H' p=some (.lst [])->Q (.ref t) H') /\
 (z≠Str.ofString ""->(∀ k,k < (linesOf z).length->okL (linesOf z) k=true)->∀ t p H' xs,Same H H'->H t=none->H' t=some (.tup [.ref p,.int (-1)])->H' p=some (.lst xs)->RwV H' ((linesOf z).map valL) xs->Q (.ref t) H') /\
 (z≠Str.ofString ""->∀ k,k < (linesOf z).length->(∀ j,j < k->okL (linesOf z) j=true)->okL (linesOf z) k=false->∀ t p H',Same H H'->H t=none->H' t=some (.tup [.ref p,.int (k:Int)])->Q (.ref t) H')
noncomputable def ZBp:Sp:=fun vs H Q _=>∃ c k:Int,vs=[.int c,.int k] /\ ∀ (n:Int) H',Sm n->Same H H'->Q (.int n) H'
noncomputable def ZCB:Sp:=fun vs H Q _=>∃ (l:Addr) (ms:List Int) (w:Nat) (k o:Int),vs=[.ref l,.int w,.int k,.int o] /\ H l=some (.lst (ms.map V.int)) /\ ms.length <= 57 /\ 0 < w /\ w <= 8 /\ ∀ (z:Str) H',Same H H'->Asc z->z.length <= 11700->Q (.str z) H'
theorem tx_asc (n:Int):Asc (tx n):=fun c hc=>by rcases tx_chars hc with h | h <;> omega
theorem join_asc {c:Nat} {ys:List Str} (hc:c < 128) (h:∀ y∈ys,Asc y):Asc (Str.join ⟨#[c]⟩ ys):=fun d hd=>by
 rcases join_chars c hd with e | ⟨p,hp,e⟩
 .omega
 .exact h p hp d e
theorem join_len {c:Nat} {ys:List Str}:(Str.join ⟨#[c]⟩ ys).length <= (ys.map (·.length)).sum+ys.length:=by
 have:=StrLaws.join_length_le ⟨#[c]⟩ ys
 rwa [show (⟨#[c]⟩:Str).length=1 from rfl,Nat.mul_one] at this
structure Tl (ys:List Str) (n B:Nat):Prop where
 len:ys.length=n
 asc:∀ y∈ys,Asc y
 sum:(ys.map (·.length)).sum <= B
theorem Tl.nil:Tl [] 0 0:=⟨rfl,(fun y h=>by cases h),yAA _⟩
theorem Tl.snoc {ys:List Str} {n B b:Nat} {y:Str} (h:Tl ys n B) (hA:Asc y) (hb:y.length <= b):Tl (ys++[y]) (n+1) (B+b) :=
 ⟨by rw [yAQ,h.len];rfl,fun z hz=>by
  rcases yAX.mp hz with e | e
  .exact h.asc z e
  .rw [yBK.mp e];exact hA,by
  rw [yAN,List.sum_append]
  have:=h.sum
  show _+(y.length+0) <= _
  omega⟩
theorem slice_asc {z:Str} {lo hi:Option Int} (h:Asc z):Asc (Txt.slice z lo hi):=fun c hc=>h c (slice_sub hc)
theorem ZB1 {x y:Str} (h:Asc x) (h':Asc y):Asc (x++y):=fun c hc=>by
 rw [PySem.Str.cps_append,Array.toList_append] at hc
 rcases yAX.mp hc with z | z
 .exact h c z
 .exact h' c z
theorem slice_len (z:Str) (lo hi:Option Int):(Txt.slice z lo hi).length <= z.length:=Txt.slice_le z lo hi
noncomputable def ZBo:Sp:=fun vs H Q _=>∃ (z:Str) (l:Addr) (ms:List Int),vs=[.str z,.ref l] /\ H l=some (.lst (ms.map V.int)) /\ ms.length <= 3 /\ Asc z /\ z.length <= 11700 /\ ∀ z':Str,Asc z'->z'.length <= 94000->Q (.str z') H
noncomputable def ZCY:Sp:=fun vs H Q _=>∃ (a b:Addr) (xs ys:List V) (rs:List (List Int)),vs=[.ref a,.ref b] /\ H a=some (.lst xs) /\ RwV H rs xs /\ H b=some (.lst ys) /\ RwV H rs ys /\ rs.length <= 100000 /\ ∀ H',Same H H'->Q (.bl true) H'
theorem ZCz {K:W.Frag} {H:Hp}:∀ bs:List Bool,DpAll K H (bs.map PyData.bool) (bs.map V.bl)
 | []=>.nil
 | b::bs=>.cons (dp_bl b) (ZCz bs)
noncomputable def ZBF:Sp:=fun vs H Q _=>∃ (z:Str) (k:Nat),vs=[.str z,.int k] /\ Asc z /\ z.length <= 94000 /\ z≠Str.ofString "" /\ k < (linesOf z).length /\ (∀ j,j < k->okL (linesOf z) j=true) /\ okL (linesOf z) k=false /\ ∀ H',Same H H'->Q (.bl true) H'
section
variable {P:Program} {w:World} {K:W.Frag} {mg:Str->Option Value} {base:Heap} {C_HallError C_NoRule C_NoPaper C_NoPlace C_NoKey C_NoRow C_NoOrder C_TooFar C_Spent:Addr}
theorem ok_is_written_number {f:Addr} {fd:FuncData} (F:Fun K "is_written_number" "is_written_number" ZAN f fd) (T:Bt K mg C_HallError C_NoRule C_NoPaper C_NoPlace C_NoKey C_NoRow C_NoOrder C_TooFar C_Spent)
 :FnOk P w K mg base CX0 1 f fd ["text"] (ZCu):=by
 refine F.ok sc_is_written_number (fun vs H Q E h=>?_) (fun cdv A outer s H vs Q E hr h=>?_)
 .obtain ⟨z,rfl,hA,hz,q⟩:=h
  rfl
 obtain ⟨z,rfl,hA,hz,q⟩:=h
 refine ⟨_,(ZAC (ZAa (i:=1) sc_is_written_number.nd rfl (by walk_at "o") (pe_ifExp (ZB8 (ZBM PySem.F.plainAttrs_str PySem.F.slot_str_startswith PySem.F.type_str_startswith mt_startswith (pv 0) (ZAA ZAf ZAB))) (ZAk ZBR (pv 0) (ZAm ZAF) ZA1) (pv 0)))
  (ZAL
  (ZAC (ZAr (PW.pt (ZCQ (ZAM ZBU (pv 1) ZAf (ZAU _)) (ZBq (ZAM ZC4 (ZAJ ZBE rfl T.b_len PySem.boot_len (ZAA (pv 1) ZAB)) (pe_gint rfl T.c_MOST_FIGURES) (ZAU _)))))
  (ZAE (ZAT ZBN)) ZAb)
  (ZAL
  (ZAC (ZAr (ZCR (ZB8 (ZAJ (call_all rfl) rfl T.b_all PyProof.Rows.boot_all (ZAA (ZCE rfl (k:=1) (js:=[]) (N':=["sign"]) (by rfl) (pi_str (pv 1)) (fun _ _ _ _=>ZAg (i:=0) (show (["sign"]:List Str).Nodup by decide +kernel) rfl (by walk_at "o")) (fun _ _ _ _=>ZBS) (fun _ _ _ _=>(ZBu op_in_str (pv 0) ZAf rfl))) ZAB))))
  (ZAE (ZAT ZBN)) ZAb)
  (ZAL
  (ZAE (ZAT (pe_or (ZBu ZBU (pv 0) ZAf (ZAU _)) (ZCT (pe_not (ZBM PySem.F.plainAttrs_str PySem.F.slot_str_startswith PySem.F.type_str_startswith mt_startswith (pv 1) (ZAA ZAf ZAB))))))))))))),?_⟩
 walk_at "rd"
 apply ZCd (fun _:Unit=>[some (.str z),some (.str (figS z))]) (fun _=>H) (fun _=>True)
 .intro rest
  refine ⟨rfl,z,_,rfl,rfl,?_⟩
  rw [show Str.ofString "-"=⟨#[45]⟩ by decide,sw_one]
  by_cases h:z.cps.toList[0]?=some 45
  .rw [if_pos (decide_eq_true h)]
   refine ⟨z,rfl,by omega,?_⟩
   rw [sl_one h]
   exact rest () trivial
  .rw [if_neg (by simpa using h)]
   have r:=rest () trivial
   rw [ZB0 h] at r
   exact r
 intro _ _
 refine ZAO ?_
 walk_at "rd"
 by_cases h0:figS z=Str.ofString ""
 .rw [if_pos h0]
  have:wrS z=false:=by
   have:fig z.cps.toList=[]:=(ZBV (z:=figS z) (L:=[]) rfl).mp h0
   unfold wrS wrB
   rw [this];rfl
  rw [<- this]
  exact q _ (.refl _)
 rw [if_neg h0]
 have hf0:fig z.cps.toList≠[]:=fun e=>h0 ((ZBV (z:=figS z) (L:=[]) rfl).mpr e)
 have hfl:(figS z).length <= 100000:=yAC (fig_len z.cps.toList) hz
 refine ⟨_,rfl,by rw [sizeLine_eq];omega,?_⟩
 by_cases h60:60 < ((figS z).length:Int)
 .rw [if_pos h60]
  have:wrS z=false:=by
   unfold wrS wrB
   rw [decide_eq_false (show ¬ (fig z.cps.toList).length <= 60 from fun h=>by have:(figS z).length <= 60:=h;omega),yBI];rfl
  rw [<- this]
  exact q _ (.refl _)
 rw [if_neg h60]
 have h60'':(figS z).length <= 60:=by omega
 have h60':(fig z.cps.toList).length <= 60:=h60''
 refine ZAO ?_
 walk_at "rd"
 have hsz:(figS z).length=(fig z.cps.toList).length:=rfl
 refine compS_of (by rw [<- Array.all_toList];exact yAV.mpr fun c hc=>decide_eq_true (hA c (fig_sub hc))) (by omega) (fun i ys σ X=>∃ v,σ=[v] /\ X=H /\ ys=(((fig z.cps.toList).take i).map dgB).map V.bl) ⟨_,rfl,rfl,rfl⟩ (fun i ys σ X _ z=>?_) (fun i ys c σ X hi hx z=>?_) fun ys σ X z' p hp=>?_
 .obtain ⟨v,_,_,e⟩:=z
  rw [e,yAB,yAB,yAU];omega
 .obtain ⟨v,rfl,rfl,rfl⟩:=z
  walk_at "rd"
  refine ⟨_,_,rfl,rfl,?_⟩
  rw [in_figs2]
  exact .of hi ⟨_,rfl,rfl,by rw [yBD,show (fig _)[i]?=some c from by rw [<- hx,<- Array.getElem?_toList];rfl,yAN,yAN];rfl⟩
 obtain ⟨v,rfl,rfl,rfl⟩:=z'
 rw [hsz,yBH (yAA _)]
 refine ⟨p,(fig z.cps.toList).map dgB,rfl,SqL.of ZAI,?_⟩
 have ea:((fig z.cps.toList).map dgB).all id=(fig z.cps.toList).all dgB:=by rw [List.all_map];rfl
 rw [ea]
 walk_at "rd"
 by_cases ha:(fig z.cps.toList).all dgB=false
 .rw [if_pos ha]
  have:wrS z=false:=by unfold wrS wrB;rw [ha,yBI];rfl
  rw [<- this]
  exact q _ (ZAQ hp _)
 rw [if_neg ha]
 have hw:wrS z=(decide (z.cps.toList=[48]) || !decide ((fig z.cps.toList)[0]?=some 48)):=by
  unfold wrS wrB
  rw [decide_eq_true hf0,decide_eq_true h60',(Bool.not_eq_false _).mp ha]
  rfl
 rw [hw] at q
 refine ZAO ?_
 walk_at "rd"
 by_cases e0:z=Str.ofString "0"
 .rw [if_pos e0]
  rw [decide_eq_true ((ZBV (L:=[48]) rfl).mp e0)] at q
  exact q _ (ZAQ hp _)
 .rw [if_neg e0]
  refine ⟨rfl,_,_,rfl,rfl,?_⟩
  rw [show Str.ofString "0"=⟨#[48]⟩ by decide,sw_one]
  rw [decide_eq_false (fun h=>e0 ((ZBV (L:=[48]) rfl).mpr h))] at q
  exact q _ (ZAQ hp _)
theorem ok_are_numbers {f:Addr} {fd:FuncData} (F:Fun K "are_numbers" "are_numbers" ZAh f fd) (T:Bt K mg C_HallError C_NoRule C_NoPaper C_NoPlace C_NoKey C_NoRow C_NoOrder C_TooFar C_Spent)
  (f_is_written_number:Fn P w K mg base CX0 "is_written_number" 1 ["text"] (ZCu))
 :FnOk P w K mg base CX0 2 f fd ["words"] (ZCa):=by
 refine F.ok sc_are_numbers (fun vs H Q E h=>?_) (fun cdv A outer s H vs Q E hr h=>?_)
 .obtain ⟨l,ws,rfl,hl,hw,q⟩:=h
  rfl
 obtain ⟨l,ws,rfl,hl,hw,q⟩:=h
 refine ⟨_,(ZAE (ZAT (ZCm (ZBu op_le (ZAJ ZAK rfl T.b_len PySem.boot_len (ZAA (pv 0) ZAB)) (pe_gint rfl T.c_MOST_NUMBERS) (ZAU _)) (ZCT (ZAJ (call_all rfl) rfl T.b_all PyProof.Rows.boot_all (ZAA (ZCE rfl (k:=1) (js:=[]) (N':=["word"]) (by rfl) (ZBs (pv 0)) (fun _ _ _ _=>ZAg (i:=0) (show (["word"]:List Str).Nodup by decide +kernel) rfl (by walk_at "o")) (fun _ _ _ _=>ZBS) (fun _ _ _ _=>(ZA2 f_is_written_number (hr.mono (by decide)) rfl ZA3 (ZAA (pv 0) ZAB)))) ZAB)))))),?_⟩
 walk_at "rd"
 refine ⟨l,_,rfl,.inl (SqL.of hl),?_⟩
 rw [yAB]
 by_cases h8:(ws.length:Int) <= 8
 .rw [if_pos h8]
  refine compL_gen (SqL.of hl) (by rw [yAB];omega) rfl (fun x y _=>∀ z,x=.str z->y=.bl (wrS z)) (fun _ _ _ _ _ q=>q) (fun i x H' hx e Q' k=>?_) fun ys H' l2 hyl hR e hn2=>?_
  .rw [yAM] at hx
   obtain ⟨z,hs,rfl⟩:=yAZ.mp hx
   walk_at "rd"
   have:=hw z (yAS hs)
   exact ⟨z,rfl,this.1,this.2,fun H2 s2=>k _ _ s2 fun z' e=>by cases e;rfl⟩
  have hys:ys=(ws.map wrS).map V.bl:=by
   refine List.ext_getElem? fun j=>?_
   by_cases hj:j < ws.length
   .have hj':j < ys.length:=by rw [hyl,yAB];exact hj
    rw [yAL hj',hR j (.str ws[j]) ys[j] (by rw [yAM,yAL hj];rfl) (yAL hj') ws[j] rfl,yAM,yAM,yAL hj];rfl
   .rw [yBG (by rw [hyl,yAB];omega),yBG (by rw [yAB,yAB];omega)]
  refine ⟨l2,ws.map wrS,rfl,SqL.of (by rw [ZAI,hys]),?_⟩
  rw [show (ws.map wrS).all id=ws.all wrS by rw [List.all_map];rfl]
  rw [decide_eq_true (show ws.length <= 8 by omega),Bool.true_and] at q
  exact q _ (e.new hn2)
 .rw [if_neg h8]
  rw [decide_eq_false (show ¬ ws.length <= 8 by omega),Bool.false_and] at q
  exact q _ (.refl _)
theorem ok_NoRow_init {f:Addr} {fd:FuncData} (F:Fun K "__init__" "NoRow.__init__" ZAj f fd) (T:Bt K mg C_HallError C_NoRule C_NoPaper C_NoPlace C_NoKey C_NoRow C_NoOrder C_TooFar C_Spent)
 :FnOk P w K mg base CX0 1 f fd ["self","line"] (ZBG C_NoRow):=by
 refine F.ok sc_NoRow_init (fun vs H Q E h=>?_) (fun cdv A outer s H vs Q E hr h=>?_)
 .obtain ⟨e,n,rfl,he,hn,q⟩:=h
  rfl
 obtain ⟨e,n,rfl,he,hn,q⟩:=h
 refine ⟨_,(ZAC (ZA0 (pe_clsV T.xb_HallError T.m_HallError rfl (ZAA (pv 0) (ZAA (pe_fs2 ZAf (pv 1) ZAf) ZAB))))
  (ZAE (ps_xfld (pv 0) (pv 1) rfl))),?_⟩
 walk_at "rd"
 exact ⟨hn,fun y=>⟨e,_,none,_,rfl,he,T.xi_NoRow,e,_,none,rfl,he,T.xk_NoRow,T.n_NoRow_line,.inl ⟨rfl,fun d hd hde=>q d hd hde⟩⟩⟩
theorem ok_read_row {f:Addr} {fd:FuncData} (F:Fun K "read_row" "read_row" ZAp f fd) (T:Bt K mg C_HallError C_NoRule C_NoPaper C_NoPlace C_NoKey C_NoRow C_NoOrder C_TooFar C_Spent)
  (f_are_numbers:Fn P w K mg base CX0 "are_numbers" 2 ["words"] (ZCa))
  (kx_NoRow:XKl P w K mg base CX0 "NoRow" C_NoRow 1 ["self","line"] (ZBG C_NoRow))
 :FnOk P w K mg base (CXE P w) 3 f fd ["text"] (ZBP C_NoRow):=by
 refine F.okX sc_read_row (fun vs H Q E h=>?_) (fun cdv A outer s H vs Q E hr h=>?_)
 .obtain ⟨z,rfl,hA,hz,q0,q1,q2⟩:=h
  rfl
 obtain ⟨z,rfl,hA,hz,q0,q1,q2⟩:=h
 refine ⟨_,(ZAC (PS.nox (ZAr (ZAM ZBU (pv 0) ZAf (ZAU _))
  (ZAE (ZAT (ZA8 ZAB))) ZAb))
  (ZAL
  (ZAC (PS.nox (ZAa (i:=1) sc_read_row.nd rfl (by walk_at "o") (ZA8 ZAB)))
  (ZAL
  (ZAC (PS.inG (ZBd (passOG ⟨rfl,rfl⟩) rfl (pi_enum rfl T.b_enumerate (ZAA (ZBM PySem.F.plainAttrs_str PySem.F.slot_str_split PySem.F.type_str_split ZBj (pv 0) (ZAA ZAf ZAB)) ZAB)) (ZCx (n:=2) rfl (ZBJ (ZAg (i:=2) sc_read_row.nd rfl (by walk_at "o")) (ZBJ (ZAg (i:=3) sc_read_row.nd rfl (by walk_at "o")) ZCb)))
  (ZAC (ZAa (i:=4) sc_read_row.nd rfl (by walk_at "o") (ZBM PySem.F.plainAttrs_str PySem.F.slot_str_split PySem.F.type_str_split ZBj (pv 3) (ZAA ZAf ZAB)))
  (ZAC (ZAr (PW.pt (ZCQ (ZCR (ZB8 (ZA2 f_are_numbers (hr.mono (by decide)) rfl ZA3 (ZAA (pv 4) ZAB)))) (ZBq (PW.pt (ZCl (pt_lst (pv 1)) (ZCD (ZAM ZCc (ZAJ ZAK rfl T.b_len PySem.boot_len (ZAA (pv 4) ZAB)) (ZAJ ZAK rfl T.b_len PySem.boot_len (ZAA (ZBh ZAt (pv 1) ZAF (fun _ _=>rfl)) ZAB)) (ZAU _))))))))
  (ZAE (ps_raiseG kx_NoRow (hr.mono (by decide)) rfl rfl ZA3 (ZAA (pv 2) ZAB))) ZAb)
   (ZAL
  (ZAE (ZA0 (ZBM PySem.F.plainAttrs_list PySem.F.slot_list_append PySem.F.type_list_append ZAx (pv 1) (ZAA (ZBT call_tuple_of rfl T.b_tuple PyProof.Rows.boot_tuple (ZAA (ZCE rfl (k:=1) (js:=[]) (N':=["word"]) (by rfl) (ZBs (pv 4)) (fun _ _ _ _=>ZAg (i:=0) (show (["word"]:List Str).Nodup by decide +kernel) rfl (by walk_at "o")) (fun _ _ _ _=>ZBS) (fun _ _ _ _=>(ZBT call_intS rfl T.b_int PyProof.Rows.boot_int (ZAA (pv 0) ZAB)))) ZAB)) ZAB)))))))))
  (ZAL
  (ZAE (PS.nox (ZAT (pv 1)))))))))),?_⟩
 walk_at "rd"
 by_cases h0:z=Str.ofString ""
 .rw [if_pos h0]
  exact ⟨ZAV (by decide),fun p hp=>q0 h0 p _ (ZAQ hp _) hp ZAI⟩
 rw [if_neg h0]
 replace q1:=q1 h0
 replace q2:=q2 h0
 refine ZAO ?_
 walk_at "rd"
 refine ⟨ZAV (by decide),fun l0 hl0=>?_⟩
 obtain ⟨H1,e1,s1,h1⟩:=newH hl0 (.lst [])
 rw [e1];clear e1
 refine ZAO ?_
 walk_at "rd"
 refine ⟨rfl,z,10,rfl,rfl,by omega,fun sl hsl=>?_⟩
 rw [show Txt.split z ⟨#[10]⟩=linesOf z from rfl]
 have hll:=ZBO z
 have hlm:∀ l∈linesOf z,Asc l /\ l.length <= z.length:=fun l hl=>⟨hA.split hl,by have:=join_mem_le ⟨#[10]⟩ _ _ hl;rwa [show Str.join ⟨#[10]⟩ (linesOf z)=z from StrLaws.join_split z _] at this⟩
 generalize linesOf z=ls at hll hlm q1 q2 ⊢
 obtain ⟨H2,e2,s2,h2⟩:=newH hsl (.lst (ls.map V.str))
 rw [e2];clear e2
 refine forE_of (SqL.of h2) (fun i σ X=>∃ v2 v3 v4 xs,σ=[some (.str z),some (.ref l0),v2,v3,v4] /\ Same H X /\ X sl=some (.lst (ls.map V.str)) /\ X l0=some (.lst xs) /\ RwV X ((ls.take i).map valL) xs /\ ∀ k,k < i->okL ls k=true) ⟨_,_,_,[],rfl,s1.trans s2,h2,s2 _ _ h1,RwV.nil,fun k h=>absurd h (Nat.not_lt_zero k)⟩ (fun i σ X _ z=>?_) (fun i x σ X p hx z' hp=>?_) fun σ X z'=>?_
 .obtain ⟨v2,v3,v4,xs,_,_,h,_⟩:=z
  exact SqL.of h
 .obtain ⟨v2,v3,v4,xs,rfl,sX,hX,hX0,hR,hok⟩:=z'
  rw [yAM] at hx
  obtain ⟨l,hl,rfl⟩:=yAZ.mp hx
  have hil:i < ls.length:=(yAP.mp hl).1
  have hD:ls.getD i Str.empty=l:=by rw [List.getD_eq_getElem?_getD,hl];rfl
  obtain ⟨hlA,hlz⟩:=hlm l (yAS hl)
  obtain ⟨X1,e1,t1,g1⟩:=newH hp (.tup [.int i,.str l])
  rw [e1];clear e1
  refine ZBz (SqT.of g1) rfl ?_
  walk_at "rd"
  refine ⟨rfl,l,32,rfl,rfl,by omega,fun wl hwl=>?_⟩
  rw [show Txt.split l ⟨#[32]⟩=wordsOf l from rfl]
  obtain ⟨X2,e2,t2,g2⟩:=newH hwl (.lst ((wordsOf l).map V.str))
  rw [e2];clear e2
  refine ⟨wl,wordsOf l,rfl,g2,fun w hw=>⟨hlA.split hw,by have:=join_mem_le ⟨#[32]⟩ _ _ hw;rw [show Str.join ⟨#[32]⟩ (wordsOf l)=l from StrLaws.join_split l _] at this;omega⟩,fun X3 t3=>?_⟩
  have S:=t1.trans (t2.trans t3)
  have hR3:=hR.keep S
  have h0':=S _ _ hX0
  rw [show (decide ((wordsOf l).length <= 8) && (wordsOf l).all wrS)=okW l from rfl]
  walk_at "rd"
  have raiz:okL ls i=false->(1 <= 1000 /\ ∀ (x:Addr),X3 x=none->ZBG C_NoRow [V.ref x,V.int (i:Int)] (upd X3 x (excM x (Value.ref C_NoRow) none)) (fun v H2=>v=V.non /\ ∃ dd,H2 x=some (excM x (Value.ref C_NoRow) dd) /\ E (Value.ref C_NoRow) dd (forget H2 x)) E0):=by
   intro hb
   refine ⟨by decide,fun x hx=>⟨x,i,rfl,ZAI,(Sm.nat82 (by omega)).big,fun d hd hde=>⟨rfl,some d,ZAI,?_⟩⟩⟩
   have hdX:X3 d=none:=by rw [ZAH hde] at hd;exact hd
   refine q2 i hil hok hb d _ (sX.trans (S.trans fun b o hb'=>?_)) ((sX.trans S).free hdX) ?_
   .rw [ZAl (ZAG hb' hx),ZAH (ZAG hb' hx),ZAH (ZAG hb' hdX),ZAH (ZAG hb' hx)];exact hb'
   .rw [ZAl hde,ZAH hde,ZAI]
  have okE:okL ls i=(okW l && (decide (i=0) || decide ((wordsOf l).length=(wordsOf (ls.getD 0 Str.empty)).length))):=by unfold okL;rw [hD]
  by_cases hw:okW l=false
  .rw [if_pos hw]
   exact raiz (by rw [okE,hw];rfl)
  rw [if_neg hw]
  have hw:=(Bool.not_eq_false _).mp hw
  apply ZCd (fun _:Unit=>[some (.str z),some (.ref l0),some (.int i),some (.str l),some (.ref wl)]) (fun _=>X3) (fun _=>okL ls i=true)
  .intro rest
   refine ⟨l0,xs,rfl,SqL.of h0',?_⟩
   have hxl:xs.length=i:=by rw [hR.1,yAB,yAU];omega
   by_cases hxs:¬ (xs.isEmpty=false)
   .rw [if_neg hxs]
    refine rest () ?_
    have:i=0:=by
     rw [<- hxl]
     rcases xs with _ | ⟨x0,xs⟩
     .rfl
     .exact absurd rfl hxs
    rw [okE,hw,decide_eq_true this];rfl
   rw [if_pos (Classical.not_not.mp hxs)]
   have hpos:0 < i:=by
    rw [<- hxl]
    rcases xs with _ | ⟨x0,xs⟩
    .exact absurd (fun z=>by cases z) hxs
    .exact Nat.succ_pos _
   refine ⟨wl,_,rfl,.inl (SqL.of (t3 _ _ g2)),?_⟩
   obtain ⟨m0,hm0⟩:∃ m0,ls[0]?=some m0:=⟨_,yAL (by omega)⟩
   have hD0:ls.getD 0 Str.empty=m0:=by rw [List.getD_eq_getElem?_getD,hm0];rfl
   obtain ⟨t0,k1,k2⟩:=hR3.2 0 (valL m0) (by rw [yAM,List.getElem?_take_of_lt hpos,hm0];rfl)
   refine ZBL (SqL.of h0') (ZBf (by decide) k1) ⟨t0,_,rfl,.inr (SqT.of k2),?_⟩
   rw [yAB,yAB,show (valL m0).length=(wordsOf m0).length from yAB ..]
   rw [hD0] at okE
   by_cases hne:(wordsOf l).length=(wordsOf m0).length
   .rw [if_neg (fun z=>z (by rw [hne]))]
    exact rest () (by rw [okE,hw,decide_eq_true hne,Bool.or_true];rfl)
   .rw [if_pos (fun z=>hne (by omega))]
    exact raiz (by rw [okE,decide_eq_false hne,decide_eq_false (by omega:¬ i=0),Bool.or_false,yBI])
  intro _ hokL
  have hokL:okL ls i=true:=hokL
  refine ZAO ?_
  walk_at "rd"
  have hw8:(wordsOf l).length <= 8 /\ ∀ w∈wordsOf l,wrS w=true:=by
   unfold okW at hw
   rw [yAT,decide_eq_true_iff,yAV] at hw
   exact hw
  refine ⟨.inl ⟨rfl,_,SqL.of h0'⟩,?_⟩
  refine ZCN (SqL.of (t3 _ _ g2)) (by rw [yAB];omega) (fun j ys σ Y=>∃ v,σ=[v] /\ Y=X3 /\ ys=(((wordsOf l).take j).map wvS).map V.int) ⟨_,rfl,rfl,rfl⟩ (fun j ys σ Y _ z=>?_) (fun j ys x σ Y hj hx z=>?_) fun ys σ Y z p2 hp2=>?_
  .obtain ⟨v,_,e,e2⟩:=z
   rw [e,e2,yAB,yAB,yAU]
   exact ⟨SqL.of (t3 _ _ g2),by omega⟩
  .obtain ⟨v,rfl,rfl,rfl⟩:=z
   rw [yAM] at hx
   obtain ⟨s,hs,rfl⟩:=yAZ.mp hx
   obtain ⟨a1,a2,a3⟩:=wr_lit (hw8.2 s (yAS hs))
   walk_at "rd"
   refine ⟨s,fig s.cps.toList,decide (s.cps.toList[0]?=some 45),rfl,fig_lit s.cps.toList,a3,a1,by omega,?_⟩
   rw [show (if decide (s.cps.toList[0]?=some 45)=true then -(vlD (fig s.cps.toList):Int) else vlD (fig s.cps.toList))=wvS s by unfold wvS wv;simp only [decide_eq_true_eq]]
   exact .of hj ⟨_,rfl,rfl,by rw [yBD,hs,yAN,yAN];rfl⟩
  obtain ⟨v,rfl,rfl,rfl⟩:=z
  rw [yAB,yBH (yAA _)]
  refine ⟨p2,_,rfl,.inl ⟨SqL.of ZAI,fun t ht=>?_⟩⟩
  have sA:=(ZAQ hp2 (.lst (((wordsOf l).map wvS).map V.int))).trans (ZAQ ht (.tup (((wordsOf l).map wvS).map V.int)))
  refine ⟨l0,xs,_,rfl,rfl,sA _ _ h0',by rw [hR.1,yAB,yAU,sizeLine_eq];omega,?_⟩
  refine ⟨_,_,_,_,rfl,(sX.trans (S.trans sA)).upd hl0,by rw [ZAH (Ne.symm (ZAG h1 hsl))];exact sA _ _ (S _ _ hX),ZAI,?_,fun k hk=>?_⟩
  .rw [yBD,hl,yAN]
   exact ((hR3.keep sA).upd (sA _ _ h0')).snoc (by rw [ZAH (Ne.symm (ZAG (ZAQ hp2 (.lst (((wordsOf l).map wvS).map V.int)) _ _ h0') ht))];exact ZAI)
  .rcases Nat.lt_succ_iff_lt_or_eq.mp hk with h | h
   .exact hok k h
   .rw [h];exact hokL
 .obtain ⟨v2,v3,v4,xs,rfl,sX,hX,hX0,hR,hok⟩:=z'
  rw [yAB] at hR hok
  rw [yBH (yAA _)] at hR
  walk_at "rd"
  refine ZAO ?_
  walk_at "rd"
  exact q1 hok l0 _ xs sX hl0 hX0 hR
theorem ok_number {f:Addr} {fd:FuncData} (F:Fun K "_law_number" "_law_number" ZBI f fd) (T:Bt K mg C_HallError C_NoRule C_NoPaper C_NoPlace C_NoKey C_NoRow C_NoOrder C_TooFar C_Spent)
 :FnOk P w K mg base CX0 1 f fd ["_law_word"] (ZCv):=by
 refine F.ok sc_number (fun vs H Q E h=>?_) (fun cdv A outer s H vs Q E hr h=>?_)
 .obtain ⟨z,rfl,hA,hz,q⟩:=h
  rfl
 obtain ⟨z,rfl,hA,hz,q⟩:=h
 refine ⟨_,(ZAC (ZAa (i:=1) sc_number.nd rfl (by walk_at "o") (pv 0))
  (ZAC (ZAr (ZAM ZBU (ZAk ZBR (pv 0) ZA1 (ZAm ZAF)) ZAf (ZAU _))
  (ZAE (ZAa (i:=1) sc_number.nd rfl (by walk_at "o") (ZAk ZBR (pv 0) (ZAm ZAF) ZA1))) ZAb)
  (ZAL
  (ZAC (ZAr (PW.pt (ZCQ (ZAM ZBU (pv 1) ZAf (ZAU _)) (ZCQ (ZAM ZC4 (ZAJ ZBE rfl T.b_len PySem.boot_len (ZAA (pv 1) ZAB)) ZAF (ZAU _)) (ZBq (PW.pt (ZCl (ZAM ZBU (ZBh ix_str (pv 1) ZAF (fun _ _=>rfl)) ZAf (ZAU _)) (ZCD (ZAM ZCc (pv 0) ZAf (ZAU _)))))))))
  (ZAE (ZAT ZBt)) ZAb)
  (ZAL
  (ZAC (ZAa (i:=2) sc_number.nd rfl (by walk_at "o") ZAF)
  (ZAL
  (ZAC (ZBd PassesOwn.never rfl (pi_str (pv 1)) (ZAg (i:=3) sc_number.nd rfl (by walk_at "o"))
  (ZAC (ZAr (ZAM op_notin_str (pv 3) ZAf rfl)
  (ZAE (ZAT ZBt)) ZAb)
  (ZAE (ZAa (i:=2) sc_number.nd rfl (by walk_at "o") (ZAP ZBA (ZAP ZCo ZAF (pv 2)) (ZBM PySem.F.plainAttrs_str PySem.F.slot_str_find PySem.F.type_str_find mt_find ZAf (ZAA (pv 3) ZAB)))))))
  (ZAL
  (ZAC (ZAr (ZAM ZCc (pv 1) (pv 0) (ZAU _))
  (ZAE (ZAT (ZAP ZB9 ZAF (pv 2)))) ZAb)
  (ZAL
  (ZAE (ZAT (pv 2)))))))))))))),?_⟩
 walk_at "rd"
 apply ZCd (fun _:Unit=>[some (.str z),some (.str (figS z)),none,none]) (fun _=>H) (fun _=>True)
 .intro rest
  refine ⟨z,rfl,by omega,?_⟩
  by_cases h:z.cps.toList[0]?=some 45
  .rw [if_pos ((sl_first z).mpr h)]
   refine ⟨z,rfl,by omega,?_⟩
   rw [sl_one h]
   exact rest () trivial
  .rw [if_neg (fun e=>h ((sl_first z).mp e))]
   have r:=rest () trivial
   rw [ZB0 h] at r
   exact r
 intro _ _
 refine ZAO ?_
 walk_at "rd"
 have bad:wrS z=false->Q .non H:=fun h=>by rw [h,if_neg yAH] at q;exact q
 have wE:wrS z=(decide (fig z.cps.toList≠[]) && decide ((fig z.cps.toList).length <= 60) && (fig z.cps.toList).all dgB && (decide (z.cps.toList=[48]) || !decide ((fig z.cps.toList)[0]?=some 48))):=rfl
 by_cases h0:figS z=Str.ofString ""
 .rw [if_pos h0]
  exact bad (by rw [wE,show fig z.cps.toList=[] from (ZBV (z:=figS z) (L:=[]) rfl).mp h0];rfl)
 rw [if_neg h0]
 have hf0:fig z.cps.toList≠[]:=fun e=>h0 ((ZBV (z:=figS z) (L:=[]) rfl).mpr e)
 have hfl:(figS z).length <= 100000:=yAC (fig_len z.cps.toList) hz
 refine ⟨_,rfl,by rw [sizeLine_eq];omega,?_⟩
 by_cases h60:60 < ((figS z).length:Int)
 .rw [if_pos h60]
  refine bad ?_
  rw [wE,decide_eq_false (show ¬ (fig z.cps.toList).length <= 60 from fun h=>by have:(figS z).length <= 60:=h;omega),yBI];rfl
 rw [if_neg h60]
 have h60'':(figS z).length <= 60:=by omega
 have h60':(fig z.cps.toList).length <= 60:=h60''
 obtain ⟨c0,r0,e0⟩:=List.exists_cons_of_ne_nil hf0
 refine ⟨figS z,0,c0,rfl,rfl,by rw [sizeLine_eq];omega,ZBf (by decide) (by show (fig z.cps.toList)[0]?=_;rw [e0];rfl),?_⟩
 have eA:((⟨#[c0]⟩:Str)=Str.ofString "0")↔c0=48:=by
  rw [ZBV (L:=[48]) (by decide)]
  exact ⟨fun h=>by cases h;rfl,fun h=>by rw [h]⟩
 have eB:(z=Str.ofString "0")↔z.cps.toList=[48]:=ZBV (by decide)
 apply ZCd (fun _:Unit=>[some (.str z),some (.str (figS z)),none,none]) (fun _=>H) (fun _=>decide (z.cps.toList=[48]) || !decide ((fig z.cps.toList)[0]?=some 48))
 .intro rest
  walk_at "rd"
  by_cases h1:(⟨#[c0]⟩:Str)=Str.ofString "0"
  .rw [if_pos h1]
   by_cases h2:z=Str.ofString "0"
   .rw [if_neg (fun h=>h h2)]
    exact rest () (by rw [decide_eq_true (eB.mp h2)];rfl)
   .rw [if_pos h2]
    refine bad ?_
    rw [wE,decide_eq_false (fun h=>h2 (eB.mpr h)),e0,eA.mp h1,decide_eq_true (show (48::r0)[0]?=some 48 from rfl)]
    simp
  .rw [if_neg h1]
   exact rest () (by rw [e0,decide_eq_false (show ¬ (c0::r0)[0]?=some 48 from fun h=>h1 (eA.mpr (Option.some.inj h)))];simp)
 intro _ hL
 have hL:(decide (z.cps.toList=[48]) || !decide ((fig z.cps.toList)[0]?=some 48))=true:=hL
 refine ZAO ?_
 walk_at "rd"
 refine ZAO ?_
 walk_at "rd"
 refine forS_of (by rw [<- Array.all_toList];exact yAV.mpr fun c hc=>decide_eq_true (hA c (fig_sub hc))) (fun i σ X=>∃ v3,σ=[some (.str z),some (.str (figS z)),some (.int (vlD ((fig z.cps.toList).take i))),v3] /\ X=H /\ ∀ c∈(fig z.cps.toList).take i,dgB c=true) ⟨_,rfl,rfl,fun c h=>by cases h⟩ (fun i c σ X hi hc z'=>?_) fun σ X z'=>?_
 .obtain ⟨v3,rfl,rfl,hd⟩:=z'
  have hc:(fig z.cps.toList)[i]?=some c:=hc
  walk_at "rd"
  refine ⟨_,_,rfl,rfl,?_⟩
  rw [in_figs2]
  by_cases hdc:dgB c=true
  .rw [hdc]
   walk_at "rd"
   refine ⟨.inl ⟨by decide,by decide⟩,rfl,_,_,rfl,rfl,?_⟩
   rw [find_dig (dgB_iff.mp hdc)]
   refine ⟨some (.str ⟨#[c]⟩),?_,fun d hd'=>?_⟩
   .rw [yBD,hc,show (some c).toList=[c] from rfl,vl_snoc]
    push_cast
    rw [Int.mul_comm]
   .rw [yBD,hc] at hd'
    rcases yAX.mp hd' with h | h
    .exact hd d h
    .rw [yBK.mp h];exact hdc
  .rw [(Bool.not_eq_true _).mp hdc]
   walk_at "rd"
   refine bad ?_
   have:(fig z.cps.toList).all dgB=false:=by
    rw [<- Bool.not_eq_true,yAV]
    exact fun h=>hdc (h c (yAS hc))
   rw [wE,this,yBI];rfl
 obtain ⟨v3,rfl,rfl,hd⟩:=z'
 rw [yBH (show (fig z.cps.toList).length <= (figS z).length from yAA _)] at hd ⊢
 have hw:wrS z=true:=by
  rw [wE,decide_eq_true hf0,decide_eq_true h60',hL,yAV.mpr hd];rfl
 rw [hw,if_pos rfl] at q
 walk_at "rd"
 refine ZAO ?_
 walk_at "rd"
 by_cases h1:figS z≠z
 .rw [if_pos h1]
  have e:wvS z=0-(vlD (fig z.cps.toList):Int):=by unfold wvS wv;rw [if_pos ((figS_ne z).mp h1)];omega
  rw [<- e]
  exact q
 .rw [if_neg h1]
  refine ZAO ?_
  walk_at "rd"
  have e:wvS z=(vlD (fig z.cps.toList):Int):=by unfold wvS wv;rw [if_neg (fun h=>h1 ((figS_ne z).mpr h))]
  rw [<- e]
  exact q
theorem ok_thing {f:Addr} {fd:FuncData} (F:Fun K "_law_thing" "_law_thing" ZBa f fd) (T:Bt K mg C_HallError C_NoRule C_NoPaper C_NoPlace C_NoKey C_NoRow C_NoOrder C_TooFar C_Spent)
  (f_number:Fn P w K mg base CX0 "_law_number" 1 ["_law_word"] (ZCv))
 :FnOk P w K mg base CX0 2 f fd ["_law_line_here"] (ZBn):=by
 refine F.ok sc_thing (fun vs H Q E h=>?_) (fun cdv A outer s H vs Q E hr h=>?_)
 .obtain ⟨l,rfl,hA,hz,q1,q2⟩:=h
  rfl
 obtain ⟨l,rfl,hA,hz,q1,q2⟩:=h
 refine ⟨_,(ZAC (ZAa (i:=1) sc_thing.nd rfl (by walk_at "o") (ZA8 ZAB))
  (ZAL
  (ZAC (ZBd PassesOwn.never rfl (ZBs (ZBM PySem.F.plainAttrs_str PySem.F.slot_str_split PySem.F.type_str_split ZBj (pv 0) (ZAA ZAf ZAB))) (ZAg (i:=2) sc_thing.nd rfl (by walk_at "o"))
  (ZAC (ZAa (i:=3) sc_thing.nd rfl (by walk_at "o") (ZA2 f_number (hr.mono (by decide)) rfl ZA3 (ZAA (pv 2) ZAB)))
  (ZAC (ZAr (ZAM op_isN (pv 3) ZBt (ZAU _))
  (ZAE (ZAT ZBt)) ZAb)
   (ZAL
  (ZAE (ZA0 (ZBM PySem.F.plainAttrs_list PySem.F.slot_list_append PySem.F.type_list_append ZAx (pv 1) (ZAA (pv 3) ZAB))))))))
  (ZAL
  (ZAC (ZAr (ZAM ZC4 (ZAJ ZAK rfl T.b_len PySem.boot_len (ZAA (pv 1) ZAB)) ZAF (ZAU _))
  (ZAE (ZAT ZBt)) ZAb)
  (ZAL
  (ZAE (ZAT (ZBT call_tuple_of rfl T.b_tuple PyProof.Rows.boot_tuple (ZAA (pv 1) ZAB)))))))))),?_⟩
 walk_at "rd"
 refine ⟨ZAV (by decide),fun p hp=>?_⟩
 obtain ⟨H1,e1,s1,h1⟩:=newH hp (.lst [])
 rw [e1];clear e1
 refine ZAO ?_
 walk_at "rd"
 refine ⟨rfl,l,32,rfl,rfl,by omega,fun wl hwl=>?_⟩
 rw [show Txt.split l ⟨#[32]⟩=wordsOf l from rfl]
 have hwm:∀ w∈wordsOf l,Asc w /\ w.length <= l.length:=fun w hw=>⟨hA.split hw,by have:=join_mem_le ⟨#[32]⟩ _ _ hw;rwa [show Str.join ⟨#[32]⟩ (wordsOf l)=l from StrLaws.join_split l _] at this⟩
 have hwl2:(wordsOf l).length <= l.length+2:=wordsOf_len l
 have okE:okW l=(decide ((wordsOf l).length <= 8) && (wordsOf l).all wrS):=rfl
 have vE:valL l=(wordsOf l).map wvS:=rfl
 rw [vE,okE] at q1
 rw [okE] at q2
 generalize wordsOf l=ws at hwm hwl2 q1 q2 ⊢
 clear okE vE
 obtain ⟨H2,e2,s2,h2⟩:=newH hwl (.lst (ws.map V.str))
 rw [e2];clear e2
 refine forL_of (SqL.of h2) (fun i σ X=>∃ v2 v3,σ=[some (.str l),some (.ref p),v2,v3] /\ Same H X /\ X wl=some (.lst (ws.map V.str)) /\ X p=some (.lst (((ws.take i).map wvS).map V.int)) /\ ∀ w∈ws.take i,wrS w=true) ⟨_,_,rfl,s1.trans s2,h2,s2 _ _ h1,fun w h=>by cases h⟩ (fun i σ X _ z=>?_) (fun i x σ X hx z=>?_) fun σ X z=>?_
 .obtain ⟨v2,v3,_,_,h,_⟩:=z
  exact SqL.of h
 .obtain ⟨v2,v3,rfl,sX,hX,hXp,hok⟩:=z
  rw [yAM] at hx
  obtain ⟨w,hw,rfl⟩:=yAZ.mp hx
  have hil:i < ws.length:=(yAP.mp hw).1
  obtain ⟨wA,wz⟩:=hwm w (yAS hw)
  walk_at "rd"
  refine ⟨w,rfl,wA,by omega,?_⟩
  by_cases hww:wrS w=true
  .rw [if_pos hww]
   walk_at "rd"
   rw [if_neg (fun h=>V.noConfusion h)]
   refine ZAO ?_
   walk_at "rd"
   refine ⟨.inl ⟨rfl,_,SqL.of hXp⟩,p,_,_,rfl,rfl,hXp,by rw [yAB,yAB,yAU,sizeLine_eq];omega,?_⟩
   refine ⟨_,_,rfl,sX.upd hp,by rw [ZAH (Ne.symm (ZAG h1 hwl))];exact hX,by rw [ZAI,yBD,hw,yAN,yAN];rfl,fun w' h'=>?_⟩
   rw [yBD,hw] at h'
   rcases yAX.mp h' with h | h
   .exact hok w' h
   .rw [yBK.mp h];exact hww
  .rw [if_neg hww]
   walk_at "rd"
   refine q2 ?_ _ sX
   have:ws.all wrS=false:=by
    rw [<- Bool.not_eq_true,yAV]
    exact fun h=>hww (h w (yAS hw))
   rw [this,yBI]
 obtain ⟨v2,v3,rfl,sX,hX,hXp,hok⟩:=z
 rw [yAB,yBH (yAA _)] at hXp hok
 have hall:ws.all wrS=true:=yAV.mpr hok
 rw [hall,Bool.and_true] at q1 q2
 walk_at "rd"
 refine ZAO ?_
 walk_at "rd"
 refine ⟨p,_,rfl,.inl (SqL.of hXp),?_⟩
 rw [yAB,yAB]
 by_cases h8:8 < (ws.length:Int)
 .rw [if_pos h8]
  exact q2 (decide_eq_false (by omega)) _ sX
 .rw [if_neg h8]
  refine ZAO ?_
  walk_at "rd"
  exact ⟨p,_,rfl,.inl ⟨SqL.of hXp,fun t ht=>q1 (decide_eq_true (by omega)) t _ (sX.trans (ZAQ ht _)) (sX.free ht) ZAI⟩⟩
theorem ok_read {f:Addr} {fd:FuncData} (F:Fun K "_law_read" "_law_read" ZB6 f fd) (T:Bt K mg C_HallError C_NoRule C_NoPaper C_NoPlace C_NoKey C_NoRow C_NoOrder C_TooFar C_Spent)
  (f_thing:Fn P w K mg base CX0 "_law_thing" 2 ["_law_line_here"] (ZBn))
 :FnOk P w K mg base CX0 3 f fd ["_law_text_here"] (ZCZ):=by
 refine F.ok sc_read (fun vs H Q E h=>?_) (fun cdv A outer s H vs Q E hr h=>?_)
 .obtain ⟨z,rfl,hA,hz,q0,q1,q2⟩:=h
  rfl
 obtain ⟨z,rfl,hA,hz,q0,q1,q2⟩:=h
 refine ⟨_,(ZAC (ZAa (i:=1) sc_read.nd rfl (by walk_at "o") (ZA8 ZAB))
  (ZAL
  (ZAC (ZAr (ZAM ZBU (pv 0) ZAf (ZAU _))
  (ZAE (ZAT (ZCy (ZAA (pv 1) (ZAA (pe_un un_neg ZAF) ZAB))))) ZAb)
  (ZAL
  (ZAC (ZAa (i:=2) sc_read.nd rfl (by walk_at "o") (ZBM PySem.F.plainAttrs_str PySem.F.slot_str_split PySem.F.type_str_split ZBj (pv 0) (ZAA ZAf ZAB)))
  (ZAL
  (ZAC (ZBd PassesOwn.never rfl (ZBr rfl T.b_range (ZAA (ZAJ ZAK rfl T.b_len PySem.boot_len (ZAA (pv 2) ZAB)) ZAB)) (ZAg (i:=3) sc_read.nd rfl (by walk_at "o"))
  (ZAC (ZAa (i:=4) sc_read.nd rfl (by walk_at "o") (ZA2 f_thing (hr.mono (by decide)) rfl ZA3 (ZAA (ZBh ZAt (pv 2) (pv 3) (fun _ _=>rfl)) ZAB)))
  (ZAC (ZAr (PW.pt (ZCQ (ZAM op_isN (pv 4) ZBt (ZAU _)) (ZBq (PW.pt (ZCl (ZAM ZC4 (pv 3) ZAF (ZAU _)) (ZCD (ZAM ZCc (ZAJ ZAK rfl T.b_len PySem.boot_len (ZAA (pv 4) ZAB)) (ZAJ ZAK rfl T.b_len PySem.boot_len (ZAA (ZBh ZAt (pv 1) ZAF (fun _ _=>rfl)) ZAB)) (ZAU _))))))))
  (ZAE (ZAT (ZCy (ZAA (pv 1) (ZAA (pv 3) ZAB))))) ZAb)
   (ZAL
  (ZAE (ZA0 (ZBM PySem.F.plainAttrs_list PySem.F.slot_list_append PySem.F.type_list_append ZAx (pv 1) (ZAA (pv 4) ZAB))))))))
  (ZAL
  (ZAE (ZAT (ZCy (ZAA (pv 1) (ZAA (pe_un un_neg ZAF) ZAB))))))))))))),?_⟩
 walk_at "rd"
 refine ⟨ZAV (by decide),fun p hp=>?_⟩
 obtain ⟨H1,e1,s1,h1⟩:=newH hp (.lst [])
 rw [e1];clear e1
 refine ZAO ?_
 walk_at "rd"
 by_cases h0:z=Str.ofString ""
 .rw [if_pos h0]
  exact ⟨ZAV (by decide),fun t ht=>q0 h0 t p _ (s1.trans (ZAQ ht _)) (s1.free ht) ZAI (ZAQ ht _ _ _ h1)⟩
 rw [if_neg h0]
 replace q1:=q1 h0
 replace q2:=q2 h0
 refine ZAO ?_
 walk_at "rd"
 refine ⟨rfl,z,10,rfl,rfl,by omega,fun sl hsl=>?_⟩
 rw [show Txt.split z ⟨#[10]⟩=linesOf z from rfl]
 have hll:=ZBO z
 have hlm:∀ l∈linesOf z,Asc l /\ l.length <= z.length:=fun l hl=>⟨hA.split hl,by have:=join_mem_le ⟨#[10]⟩ _ _ hl;rwa [show Str.join ⟨#[10]⟩ (linesOf z)=z from StrLaws.join_split z _] at this⟩
 generalize linesOf z=ls at hll hlm q1 q2 ⊢
 obtain ⟨H2,e2,s2,h2⟩:=newH hsl (.lst (ls.map V.str))
 rw [e2];clear e2
 refine ZAO ?_
 walk_at "rd"
 refine ⟨sl,_,rfl,.inl (SqL.of h2),?_⟩
 rw [yAB]
 refine ⟨_,rfl,by omega,by omega,forR_of (fun i σ X=>∃ (v3 v4:Option V) (xs:List V),σ=[some (.str z),some (.ref p),some (.ref sl),v3,v4] /\ Same H X /\ X sl=some (.lst (ls.map V.str)) /\ X p=some (.lst xs) /\ RwV X ((ls.take i).map valL) xs /\ ∀ k,k < i->okL ls k=true) ⟨_,_,[],rfl,s1.trans s2,h2,s2 _ _ h1,RwV.nil,fun k h=>absurd h (Nat.not_lt_zero k)⟩ (fun i σ X hi z'=>?_) fun σ X z'=>?_⟩
 .obtain ⟨v3,v4,xs,rfl,sX,hX,hXp,hR,hok⟩:=z'
  have hil:i < ls.length:=by rw [Int.toNat_natCast] at hi;exact hi
  obtain ⟨l,hl⟩:∃ l,ls[i]?=some l:=⟨_,yAL hil⟩
  have hD:ls.getD i Str.empty=l:=by rw [List.getD_eq_getElem?_getD,hl];rfl
  obtain ⟨hlA,hlz⟩:=hlm l (yAS hl)
  have okE:okL ls i=(okW l && (decide (i=0) || decide ((wordsOf l).length=(wordsOf (ls.getD 0 Str.empty)).length))):=by unfold okL;rw [hD]
  have hxl:xs.length=i:=by rw [hR.1,yAB,yAU];omega
  have back:∀ {X'},Same X X'->okL ls i=false->(2 <= sizeLine /\ ∀ (p_1:Addr),X' p_1=none->Q (V.ref p_1) (upd X' p_1 (HO.tup [V.ref p,V.int (0+(i:Int))]))):=fun {X'} s hb=>⟨ZAV (by decide),fun t ht=>q2 i hil hok hb t p _ ((sX.trans s).trans (ZAQ ht _)) ((sX.trans s).free ht) (by rw [ZAI,Int.zero_add])⟩
  walk_at "rd"
  refine ZBL (SqL.of hX) (ZBf (v:=.str l) (by omega) (by rw [show (0+(i:Int)).toNat=i by omega,yAM,hl];rfl)) ?_
  refine ⟨l,rfl,hlA,by omega,fun hw t X3 t3 ht0 ht=>?_,fun hw X3 t3=>?_⟩
  .walk_at "rd"
   rw [if_neg (fun h=>V.noConfusion h)]
   have hR3:=hR.keep t3
   apply ZCd (fun _:Unit=>[some (.str z),some (.ref p),some (.ref sl),some (.int (0+(i:Int))),some (.ref t)]) (fun _=>X3) (fun _=>okL ls i=true)
   .intro rest
    by_cases hi0:¬ (0 < 0+(i:Int))
    .rw [if_neg hi0]
     exact rest () (by rw [okE,hw,decide_eq_true (show i=0 by omega)];rfl)
    rw [if_pos (Classical.not_not.mp hi0)]
    have hpos:0 < i:=by omega
    refine ⟨t,_,rfl,.inr (SqT.of ht),?_⟩
    obtain ⟨m0,hm0⟩:∃ m0,ls[0]?=some m0:=⟨_,yAL (by omega)⟩
    have hD0:ls.getD 0 Str.empty=m0:=by rw [List.getD_eq_getElem?_getD,hm0];rfl
    obtain ⟨t0,k1,k2⟩:=hR3.2 0 (valL m0) (by rw [yAM,List.getElem?_take_of_lt hpos,hm0];rfl)
    refine ZBL (SqL.of (t3 _ _ hXp)) (ZBf (by decide) k1) ⟨t0,_,rfl,.inr (SqT.of k2),?_⟩
    rw [yAB,yAB,show (valL m0).length=(wordsOf m0).length from yAB ..,show (valL l).length=(wordsOf l).length from yAB ..]
    rw [hD0] at okE
    by_cases hne:(wordsOf l).length=(wordsOf m0).length
    .rw [if_neg (fun z=>z (by rw [hne]))]
     exact rest () (by rw [okE,hw,decide_eq_true hne,Bool.or_true];rfl)
    .rw [if_pos (fun z=>hne (by omega))]
     exact back t3 (by rw [okE,decide_eq_false hne,decide_eq_false (by omega:¬ i=0),Bool.or_false,yBI])
   intro _ hokL
   have hokL:okL ls i=true:=hokL
   refine ZAO ?_
   walk_at "rd"
   refine ⟨.inl ⟨rfl,_,SqL.of (t3 _ _ hXp)⟩,p,xs,_,rfl,rfl,t3 _ _ hXp,by rw [hxl,sizeLine_eq];omega,?_⟩
   refine ⟨_,_,_,rfl,(sX.trans t3).upd hp,by rw [ZAH (Ne.symm (ZAG h1 hsl))];exact t3 _ _ hX,ZAI,?_,fun k hk=>?_⟩
   .rw [yBD,hl,yAN]
    exact (hR3.upd (t3 _ _ hXp)).snoc (by rw [ZAH (Ne.symm (ZAG hXp ht0))];exact ht)
   .rcases Nat.lt_succ_iff_lt_or_eq.mp hk with h | h
    .exact hok k h
    .rw [h];exact hokL
  .walk_at "rd"
   exact back t3 (by rw [okE,hw];rfl)
 obtain ⟨v3,v4,xs,rfl,sX,hX,hXp,hR,hok⟩:=z'
 walk_at "rd"
 refine ZAO ?_
 walk_at "rd"
 have e3:((ls.length:Nat):Int).toNat=ls.length:=Int.toNat_natCast _
 rw [e3] at hR hok
 rw [yBH (yAA _)] at hR
 exact ⟨ZAV (by decide),fun t ht=>q1 hok t p _ xs (sX.trans (ZAQ ht _)) (sX.free ht) ZAI (ZAQ ht _ _ _ hXp) (hR.keep (ZAQ ht _))⟩
theorem ok_drawn {f:Addr} {fd:FuncData} (F:Fun K "_law_drawn" "_law_drawn" ZBb f fd) (T:Bt K mg C_HallError C_NoRule C_NoPaper C_NoPlace C_NoKey C_NoRow C_NoOrder C_TooFar C_Spent)
 :FnOk P w K mg base CX0 1 f fd ["_law_cell","_law_kind"] (ZBp):=by
 refine F.ok sc_drawn (fun vs H Q E h=>?_) (fun cdv A outer s H vs Q E hr h=>?_)
 .obtain ⟨c,k,rfl,q⟩:=h
  rfl
 obtain ⟨c,k,rfl,q⟩:=h
 refine ⟨_,(ZAC (ZAr (ZAM ZBU (pv 1) ZAF (ZAU _))
  (ZAE (ZAT (ZBh ZAt (ZA8 (ZAA (ZAP ZBA (ZAP ZCn ZAF ZAF) (ZAP ZAn (pv 0) ZAF)) (ZAA (ZAP ZB9 (ZAP ZB9 (ZAP ZCn ZAF ZAF) ZAF) (ZAP ZAn (pv 0) ZAF)) (ZAA (ZAP ZBA (ZAP ZCn ZAF ZAF) (ZAP ZAn (pv 0) ZAF)) (ZAA (ZAP ZB9 ZAF (ZAP ZCn ZAF ZAF)) ZAB))))) (ZAP ZAn (ZAP ZCG (pv 0) ZAF) ZAF) (fun _ _=>rfl)))) ZAb)
  (ZAE (ZAT (ZAP ZB9 (ZAP ZAn (pv 0) ZAF) ZAF)))),?_⟩
 walk_at "rd"
 have n20:∀ {x:Int},x.natAbs <= 20->Sm x:=fun h=>Sm.of (Nat.lt_of_le_of_lt h (by decide))
 by_cases h1:k=1
 .rw [if_pos h1]
  refine ⟨⟨by decide,by decide,by decide⟩,by decide,⟨by decide,by decide,by decide⟩,by decide,⟨by decide,by decide,by decide⟩,by decide,⟨by decide,by decide,by decide⟩,ZAV (by decide),fun p hp=>⟨⟨by decide,by decide⟩,by decide,?_⟩⟩
  have key:∀ x∈[10 ^ Int.toNat 58+c % 7,10 ^ Int.toNat 60-1-c % 7,10 ^ Int.toNat 60+c % 7,2-10 ^ Int.toNat 60],Sm x:=by
   have e:((10:Int) ^ Int.toNat 60)=((10 ^ 60:Nat):Int):=by decide
   have e':((10:Int) ^ Int.toNat 58)=((10 ^ 58:Nat):Int):=by decide
   have h1:(10:Nat) ^ 60=100 * 10 ^ 58:=by decide
   have h2:100 <= (10:Nat) ^ 58:=by decide
   have h3:(10:Nat) ^ 60+10 < 2 ^ 200:=by decide
   intro x hx
   refine Sm.of ?_
   rw [e,e'] at hx
   generalize (2 ^ 200:Nat)=B at h3 ⊢
   rw [h1] at hx h3
   generalize (10 ^ 58:Nat)=D at h2 h3 hx
   simp only [yAG,List.not_mem_nil,or_false] at hx
   rcases hx with rfl | rfl | rfl | rfl <;> omega
  obtain ⟨x,hx⟩:∃ x,[10 ^ Int.toNat 58+c % 7,10 ^ Int.toNat 60-1-c % 7,10 ^ Int.toNat 60+c % 7,2-10 ^ Int.toNat 60][(c / 7 % 4).toNat]?=some x:=⟨_,yAL (show (c / 7 % 4).toNat < 4 by omega)⟩
  exact ZBL (SqL.of ZAI) (atI_ints (xs:=[10 ^ Int.toNat 58+c % 7,10 ^ Int.toNat 60-1-c % 7,10 ^ Int.toNat 60+c % 7,2-10 ^ Int.toNat 60]) (by omega) hx) (q _ _ (key x (yAS hx)) (ZAQ hp _))
 .rw [if_neg h1]
  exact ⟨by decide,q _ _ (n20 (by omega)) (.refl _)⟩
theorem ok_text {f:Addr} {fd:FuncData} (F:Fun K "_law_text" "_law_text" ZB5 f fd) (T:Bt K mg C_HallError C_NoRule C_NoPaper C_NoPlace C_NoKey C_NoRow C_NoOrder C_TooFar C_Spent)
  (f_drawn:Fn P w K mg base CX0 "_law_drawn" 1 ["_law_cell","_law_kind"] (ZBp))
 :FnOk P w K mg base CX0 2 f fd ["_law_cells","_law_width","_law_kind","_law_odd"] (ZCB):=by
 refine F.ok sc_text (fun vs H Q E h=>?_) (fun cdv A outer s H vs Q E hr h=>?_)
 .obtain ⟨l,ms,w,k,o,rfl,hl,hms,hw0,hw8,q⟩:=h
  rfl
 obtain ⟨l,ms,w,k,o,rfl,hl,hms,hw0,hw8,q⟩:=h
 refine ⟨_,(ZAC (ZAa (i:=4) sc_text.nd rfl (by walk_at "o") (ZA8 ZAB))
  (ZAL
  (ZAC (ZBd PassesOwn.never rfl (pi_range3N rfl T.b_range (ZAA ZAF (ZAA (ZAP ZBA (ZAP ZB9 (ZAJ ZAK rfl T.b_len PySem.boot_len (ZAA (pv 0) ZAB)) (pv 1)) ZAF) (ZAA (pv 1) ZAB)))) (ZAg (i:=5) sc_text.nd rfl (by walk_at "o"))
  (ZAC (ps_setComp (i:=6) sc_text.nd rfl (Or.inl rfl) rfl (k:=1) (js:=[2]) (N':=["_law_cell","_law_kind"]) (by rfl) (ZBs (ZAk sl_list (pv 0) (ZAm (pv 5)) (ZAm (ZAP ZBA (pv 5) (pv 1))))) (fun _ _ _ _=>ZAg (i:=0) (show (["_law_cell","_law_kind"]:List Str).Nodup by decide +kernel) rfl (by walk_at "o")) (fun _ _ _ _=>ZBS) (fun _ _ _ _=>(ZBT call_str_int rfl T.b_str PyProof.Rows.boot_str (ZAA (ZA2 f_drawn (hr.mono (by decide)) rfl ZA3 (ZAA (pv 0) (ZAA (pv 1) ZAB))) ZAB))))
   (ZAL
  (ZAC (ZAr (PW.pt (ZCl (ZAM ZBU (ZAP ZAn (pv 3) ZAF) ZAF (ZAU _)) (ZCD (ZAM ZBU (pv 5) (ZAP ZCo (ZAP ZAn (ZAP ZCG (pv 3) ZAF) ZAF) (pv 1)) (ZAU _)))))
  (ZAE (ZA0 (ZBM PySem.F.plainAttrs_list PySem.F.slot_list_append PySem.F.type_list_append ZAx (pv 6) (ZAA ZAf ZAB)))) ZAb)
   (ZAL
  (ZAE (ZA0 (ZBM PySem.F.plainAttrs_list PySem.F.slot_list_append PySem.F.type_list_append ZAx (pv 4) (ZAA (ZBM PySem.F.plainAttrs_str PySem.F.slot_str_join PySem.F.type_str_join mt_join ZAf (ZAA (pv 6) ZAB)) ZAB)))))))))
  (ZAL
  (ZAC (ZAr (ZAM ZBU (ZAP ZAn (pv 3) ZAF) ZAF (ZAU _))
  (ZAE (ZA0 (ZBM PySem.F.plainAttrs_list PySem.F.slot_list_append PySem.F.type_list_append ZAx (pv 4) (ZAA ZAf ZAB)))) ZAb)
  (ZAL
  (ZAE (ZAT (ZBM PySem.F.plainAttrs_str PySem.F.slot_str_join PySem.F.type_str_join mt_join ZAf (ZAA (pv 4) ZAB)))))))))),?_⟩
 walk_at "rd"
 refine ⟨ZAV (by decide),fun p hp=>?_⟩
 refine ZAO ?_
 walk_at "rd"
 refine ⟨l,_,rfl,.inl (SqL.of (ZAQ hp _ _ _ hl)),?_⟩
 rw [yAB]
 obtain ⟨n,hn⟩:∃ n,(Builtin.Range.rangeSize 0 ((ms.length:Int)-(w:Int)+1) (w:Int)).toNat=n:=⟨_,rfl⟩
 have hk:∀ i:Nat,i < n->i * w+w <= ms.length:=fun i hi=>by
  rw [<- hn,ZAz (by omega)] at hi
  split at hi
  .have h1:(i:Int) <= ((ms.length:Int)-(w:Int)+1-0-1) / (w:Int):=by omega
   have h2:=(Int.le_ediv_iff_mul_le (show (0:Int) < (w:Int) by omega)).mp h1
   have h3:((i * w:Nat):Int)=(i:Int) * (w:Int):=Int.natCast_mul i w
   omega
  .simp at hi
 have hnw:n * w <= 57 /\ n <= 57:=by
  rcases Nat.eq_zero_or_pos n with z | z
  .rw [z,Nat.zero_mul];exact ⟨yAR _,yAR _⟩
  .obtain ⟨m,rfl⟩:∃ m,n=m+1:=⟨n-1,by omega⟩
   have h1:=hk m (by omega)
   have h2:m+1 <= (m+1) * w:=Nat.le_mul_of_pos_right _ hw0
   rw [Nat.succ_mul] at h2 ⊢
   omega
 refine forR3_of (n:=n) (by omega) hn (fun i σ X=>∃ v5 v6 ys,σ=[some (.ref l),some (.int w),some (.int k),some (.int o),some (.ref p),v5,v6] /\ Same H X /\ X p=some (.lst (List.map V.str ys)) /\ Tl ys i (i * (w * 202+2))) ⟨_,_,[],rfl,ZAQ hp _,ZAI,by rw [Nat.zero_mul];exact Tl.nil⟩ (fun i σ X hi z=>?_) fun σ X z=>?_
 .obtain ⟨v5,v6,ys,rfl,sX,hX,hT⟩:=z
  walk_at "rd"
  refine slL_of (SqL.of (sX _ _ hl)) fun l1 h1=>?_
  rw [show (0+(i:Int) * (w:Int))=((i * w:Nat):Int) by rw [Int.natCast_mul];omega,cut_w (hk i hi)]
  have hcl:((ms.drop (i * w)).take w).length=w:=by have:=hk i hi;rw [yAU,yBJ];omega
  generalize (ms.drop (i * w)).take w=cs at hcl ⊢
  obtain ⟨X1,e1,s1,g1⟩:=newH h1 (.lst (cs.map V.int))
  rw [e1];clear e1
  refine ZCN (SqL.of g1) (by rw [yAB];omega) (fun j ys σ Y=>∃ v zs,σ=[v,some (.int k)] /\ Same X1 Y /\ ys=List.map V.str zs /\ Tl zs j (j * 201)) ⟨_,[],rfl,.refl _,rfl,by rw [Nat.zero_mul];exact Tl.nil⟩ (fun j ys σ Y _ z=>?_) (fun j ys x σ Y hj hx z=>?_) fun ys' σ Y z p2 hp2=>?_
  .obtain ⟨v,zs,_,sY,e,e2⟩:=z
   rw [e,yAB,e2.len];exact ⟨SqL.of (sY _ _ g1),yAA _⟩
  .obtain ⟨v,zs,rfl,sY,rfl,e2⟩:=z
   obtain ⟨c,_,rfl⟩:=ZCL hx
   walk_at "rd"
   refine ⟨_,_,rfl,fun n' Y2 hn' s2=>⟨_,rfl,hn'.big,.of hj ⟨_,zs++[tx n'],rfl,sY.trans s2,by rw [yAN];rfl,?_⟩⟩⟩
   rw [Nat.succ_mul]
   exact e2.snoc (tx_asc _) (tx_len hn')
  obtain ⟨v,zs,rfl,sY,rfl,hZ⟩:=z
  rw [yAB,hcl] at hZ
  obtain ⟨X2,e2,s2,g2⟩:=newH hp2 (.lst (zs.map V.str))
  rw [e2];clear e2
  have S2:=sX.trans (s1.trans (sY.trans s2))
  have hX2:=s2 _ _ (sY _ _ (s1 _ _ hX))
  have hne:p≠p2:=ZAG (sY _ _ (s1 _ _ hX)) hp2
  have hp2H:H p2=none:=sX.free (s1.free (sY.free hp2))
  clear s1 sY s2 h1 hp2 sX hX g1
  walk_at "rd"
  refine ZAO ?_
  walk_at "rd"
  have R0:Same H X2 /\ X2 p=some (.lst (ys.map V.str)) /\ X2 p2=some (.lst (zs.map V.str)) /\ zs.length <= w+1 /\ (∀ y∈zs,Asc y) /\ (zs.map (·.length)).sum <= w * 201+1:=⟨S2,hX2,g2,by rw [hZ.len];omega,hZ.asc,yAC hZ.sum (yAO _)⟩
  have Z1:=hZ.snoc (y:=Str.ofString "5") (b:=1) (show ∀ c∈(Str.ofString "5").cps.toList,c < 128 by decide) (by decide)
  have R1:Same H (upd X2 p2 (.lst ((zs++[Str.ofString "5"]).map V.str))) /\ (upd X2 p2 (.lst ((zs++[Str.ofString "5"]).map V.str))) p=some (.lst (ys.map V.str)) /\ (upd X2 p2 (.lst ((zs++[Str.ofString "5"]).map V.str))) p2=some (.lst ((zs++[Str.ofString "5"]).map V.str)) /\ (zs++[Str.ofString "5"]).length <= w+1 /\ (∀ y∈zs++[Str.ofString "5"],Asc y) /\ ((zs++[Str.ofString "5"]).map (·.length)).sum <= w * 201+1:=⟨S2.upd hp2H,by rw [ZAH hne];exact hX2,ZAI,by rw [Z1.len];omega,Z1.asc,Z1.sum⟩
  have eA:zs.map V.str++[V.str (Str.ofString "5")]=(zs++[Str.ofString "5"]).map V.str:=by rw [yAN];rfl
  have hzl:zs.length <= 8:=by rw [hZ.len];exact hw8
  apply ZCd (fun u:Hp×List Str=>[some (.ref l),some (.int w),some (.int k),some (.int o),some (.ref p),some (.int ((i * w:Nat):Int)),some (.ref p2)]) (fun u=>u.1) (fun u=>Same H u.1 /\ u.1 p=some (.lst (ys.map V.str)) /\ u.1 p2=some (.lst (u.2.map V.str)) /\ u.2.length <= w+1 /\ (∀ y∈u.2,Asc y) /\ (u.2.map (·.length)).sum <= w * 201+1)
  .intro rest
   refine ⟨by decide,?_⟩
   by_cases h1:o % 4=1
   .rw [if_pos h1]
    refine ⟨⟨by decide,by decide⟩,by decide,.inr ⟨by omega,by omega⟩,?_⟩
    by_cases h2:((i * w:Nat):Int)=o / 4 % 12 * (w:Int)
    .rw [if_pos h2]
     exact ⟨.inl ⟨rfl,_,SqL.of g2⟩,p2,_,_,rfl,rfl,g2,by rw [yAB];exact ZBQ (by omega),by rw [eA];exact rest (_,zs++[Str.ofString "5"]) R1⟩
    .rw [if_neg h2];exact rest (X2,zs) R0
   .rw [if_neg h1];exact rest (X2,zs) R0
  intro u hu
  obtain ⟨sU,hU,hU2,u1,u2,u3⟩:=hu
  refine ZAO ?_
  walk_at "rd"
  have hjl:=join_len (c:=32) (ys:=u.2)
  have hT2:=hT.snoc (join_asc (c:=32) (by decide) u2) (yAC hjl (show _ <= w * 202+2 by omega))
  have hys:ys.length <= 57:=by rw [hT.len];omega
  have huw:(u.2.map (·.length)).sum+u.2.length <= 1048576:=by omega
  refine ⟨.inl ⟨rfl,_,SqL.of hU⟩,rfl,_,p2,u.2,rfl,rfl,SqL.of hU2,by decide,huw,p,_,_,rfl,rfl,hU,by rw [yAB];exact ZBQ (by omega),?_⟩
  exact ⟨_,_,ys++[Str.join ⟨#[32]⟩ u.2],rfl,sU.upd hp,by rw [ZAI,yAN];rfl,by rw [Nat.succ_mul];exact hT2⟩
 .obtain ⟨v5,v6,ys,rfl,sX,hX,hT⟩:=z
  walk_at "rd"
  have hB:n * (w * 202+2) <= 11628:=by
   rw [Nat.mul_add,<- Nat.mul_assoc]
   omega
  have R0:Same H X /\ X p=some (.lst (ys.map V.str)) /\ ys.length <= 58 /\ (∀ y∈ys,Asc y) /\ (ys.map (·.length)).sum <= 11628:=⟨sX,hX,by rw [hT.len];omega,hT.asc,yAC hT.sum hB⟩
  have Z1:=hT.snoc (y:=Str.ofString "") (b:=0) (show ∀ c∈(Str.ofString "").cps.toList,c < 128 by decide) (by decide)
  have R1:Same H (upd X p (.lst ((ys++[Str.ofString ""]).map V.str))) /\ (upd X p (.lst ((ys++[Str.ofString ""]).map V.str))) p=some (.lst ((ys++[Str.ofString ""]).map V.str)) /\ (ys++[Str.ofString ""]).length <= 58 /\ (∀ y∈ys++[Str.ofString ""],Asc y) /\ ((ys++[Str.ofString ""]).map (·.length)).sum <= 11628:=⟨sX.upd hp,ZAI,by rw [Z1.len];omega,Z1.asc,yAC Z1.sum hB⟩
  have eA:ys.map V.str++[V.str (Str.ofString "")]=(ys++[Str.ofString ""]).map V.str:=by rw [yAN];rfl
  have hyl:ys.length <= 57:=by rw [hT.len];omega
  refine ZAO ?_
  walk_at "rd"
  apply ZCd (fun u:Hp×List Str=>[some (.ref l),some (.int w),some (.int k),some (.int o),some (.ref p),v5,v6]) (fun u=>u.1) (fun u=>Same H u.1 /\ u.1 p=some (.lst (u.2.map V.str)) /\ u.2.length <= 58 /\ (∀ y∈u.2,Asc y) /\ (u.2.map (·.length)).sum <= 11628)
  .intro rest
   refine ⟨by decide,?_⟩
   by_cases h1:o % 4=2
   .rw [if_pos h1]
    exact ⟨.inl ⟨rfl,_,SqL.of hX⟩,p,_,_,rfl,rfl,hX,by rw [yAB];exact ZBQ (by omega),by rw [eA];exact rest (_,ys++[Str.ofString ""]) R1⟩
   .rw [if_neg h1];exact rest (X,ys) R0
  intro u hu
  obtain ⟨sU,hU,u1,u2,u3⟩:=hu
  refine ZAO ?_
  walk_at "rd"
  have hjl:=join_len (c:=10) (ys:=u.2)
  exact ⟨rfl,_,p,u.2,rfl,rfl,SqL.of hU,by decide,by omega,q _ _ sU (join_asc (c:=10) (by decide) u2) (yAC hjl (by omega))⟩
theorem ok_spoiled {f:Addr} {fd:FuncData} (F:Fun K "_law_spoiled" "_law_spoiled" ZAu f fd) (T:Bt K mg C_HallError C_NoRule C_NoPaper C_NoPlace C_NoKey C_NoRow C_NoOrder C_TooFar C_Spent)
 :FnOk P w K mg base CX0 1 f fd ["_law_text_here","_law_cells"] (ZBo):=by
 refine F.ok sc_spoiled (fun vs H Q E h=>?_) (fun cdv A outer s H vs Q E hr h=>?_)
 .obtain ⟨z,l,ms,rfl,hl,hms,hA,hz,q⟩:=h
  rfl
 obtain ⟨z,l,ms,rfl,hl,hms,hA,hz,q⟩:=h
 refine ⟨_,(ZAC (ZBd PassesOwn.never rfl (ZBs (pv 1)) (ZAg (i:=2) sc_spoiled.nd rfl (by walk_at "o"))
  (ZAC (ZAa (i:=3) sc_spoiled.nd rfl (by walk_at "o") (ZAP ZAn (ZAP ZCG (pv 2) ZAF) (ZAP ZBA (ZAJ ZBE rfl T.b_len PySem.boot_len (ZAA (pv 0) ZAB)) ZAF)))
  (ZAC (ZAa (i:=4) sc_spoiled.nd rfl (by walk_at "o") (ZBh ix_str ZAf (ZAP ZAn (ZAP ZAn (ZAP ZCo (pv 2) ZAF) ZAF) ZAF) (fun _ _=>rfl)))
  (ZAE (ZAr (ZAM ZBU (ZAP ZAn (pv 2) ZAF) ZAF (ZAU _))
  (ZAE (ZAa (i:=0) sc_spoiled.nd rfl (by walk_at "o") (ZAP ZBv (ZAP ZBv (ZAk ZBR (pv 0) ZA1 (ZAm (pv 3))) (pv 4)) (ZAk ZBR (pv 0) (ZAm (pv 3)) ZA1))))
  (ZAE (ZAr (ZAM ZBU (ZAP ZAn (pv 2) ZAF) ZAF (ZAU _))
  (ZAE (ZAa (i:=0) sc_spoiled.nd rfl (by walk_at "o") (ZAP ZBv (ZAk ZBR (pv 0) ZA1 (ZAm (pv 3))) (ZAk ZBR (pv 0) (ZAm (ZAP ZBA (pv 3) ZAF)) ZA1))))
  (ZAE (ZAa (i:=0) sc_spoiled.nd rfl (by walk_at "o") (ZAP ZBv (ZAP ZBv (ZAk ZBR (pv 0) ZA1 (ZAm (pv 3))) (pv 4)) (ZAk ZBR (pv 0) (ZAm (ZAP ZBA (pv 3) ZAF)) ZA1)))))))))))
  (ZAE (ZAT (pv 0)))),?_⟩
 walk_at "rd"
 refine forL_of (SqL.of hl) (fun i σ X=>∃ (z':Str) (v2 v3 v4:Option V),σ=[some (.str z'),some (.ref l),v2,v3,v4] /\ X=H /\ Asc z' /\ z'.length+1 <= 11701 * 2 ^ i) ⟨z,_,_,_,rfl,rfl,hA,by omega⟩ (fun i σ X _ z=>?_) (fun i x σ X hx z'=>?_) fun σ X z'=>?_
 .obtain ⟨_,_,_,_,_,e,_⟩:=z
  rw [e];exact SqL.of hl
 .obtain ⟨y,v2,v3,v4,rfl,rfl,yA,yz⟩:=z'
  obtain ⟨c,hc,rfl⟩:=ZCL hx
  have hi3:i < 3:=by have:=(yAP.mp hc).1;omega
  have h8:2 ^ i <= 8:=yAC (Nat.pow_le_pow_right (by decide) (show i <= 3 by omega)) (by decide)
  rw [Nat.pow_succ]
  generalize 2 ^ i=P2 at yz h8 ⊢
  walk_at "rd"
  refine ⟨⟨by decide,by decide⟩,y,rfl,by rw [sizeLine_eq];omega,by omega,.inr ⟨by decide,by decide⟩,by decide,by decide,?_⟩
  have hk0:=Int.emod_nonneg (c * 48271 % 65521) (show (9:Int)≠0 by decide)
  have hk1:=Int.emod_lt_of_pos (c * 48271 % 65521) (show (0:Int) < 9 by decide)
  generalize c * 48271 % 65521 % 9=kk at hk0 hk1 ⊢
  obtain ⟨sg,hsg⟩:∃ sg,(Str.ofString "-07a+. _\n").cps.toList[kk.toNat]?=some sg:=⟨_,yAL (show kk.toNat < 9 by omega)⟩
  have hsA:Asc ⟨#[sg]⟩:=fun d hd=>by
   rw [yBK.mp hd]
   exact (show ∀ d∈(Str.ofString "-07a+. _\n").cps.toList,d < 128 by decide) sg (yAS hsg)
  refine ⟨_,_,sg,rfl,rfl,ZAV (by decide),ZBf hk0 hsg,?_⟩
  generalize c / 3 % ((y.length:Int)+1)=pl
  have l1:∀ lo hi,(Txt.slice y lo hi).length <= y.length:=slice_len y
  have a1:∀ lo hi,Asc (Txt.slice y lo hi):=fun lo hi=>slice_asc yA
  have lA:=l1 none (some pl)
  have lB:=l1 (some pl) none
  have lC:=l1 (some (pl+1)) none
  have ls:(⟨#[sg]⟩:Str).length=1:=rfl
  refine ⟨by decide,?_⟩
  split
  .exact ⟨y,rfl,by omega,_,_,rfl,rfl,by omega,y,rfl,by omega,_,_,rfl,rfl,by rw [PySem.Str.length_append];omega,_,_,_,_,rfl,rfl,ZB1 (ZB1 (a1 _ _) hsA) (a1 _ _),by rw [PySem.Str.length_append,PySem.Str.length_append];omega⟩
  refine ⟨by decide,?_⟩
  split
  .exact ⟨y,rfl,by omega,y,rfl,by omega,_,_,rfl,rfl,by omega,_,_,_,_,rfl,rfl,ZB1 (a1 _ _) (a1 _ _),by rw [PySem.Str.length_append];omega⟩
  .exact ⟨y,rfl,by omega,_,_,rfl,rfl,by omega,y,rfl,by omega,_,_,rfl,rfl,by rw [PySem.Str.length_append];omega,_,_,_,_,rfl,rfl,ZB1 (ZB1 (a1 _ _) hsA) (a1 _ _),by rw [PySem.Str.length_append,PySem.Str.length_append];omega⟩
 obtain ⟨y,v2,v3,v4,rfl,rfl,yA,yz⟩:=z'
 rw [yAB] at yz
 have h8:2 ^ ms.length <= 8:=yAC (Nat.pow_le_pow_right (by decide) hms) (by decide)
 walk_at "rd"
 exact q y yA (by omega)
theorem ok_cell_at {f:Addr} {fd:FuncData} (F:Fun K "_law_cell_at" "_law_cell_at" ZAw f fd) (T:Bt K mg C_HallError C_NoRule C_NoPaper C_NoPlace C_NoKey C_NoRow C_NoOrder C_TooFar C_Spent)
 :FnOk P w K mg base CX0 1 f fd ["_law_script","_law_k"] (ZCw K):=by
 refine F.ok sc_cell_at (fun vs H Q E h=>?_) (fun cdv A outer s H vs Q E hr h=>?_)
 .obtain ⟨a,ns,k,rfl,hS,h0,q⟩:=h
  rfl
 obtain ⟨a,ns,k,rfl,hS,h0,q⟩:=h
 refine ⟨_,(ZAC (ZAr (ZAM op_lt (pv 1) (ZAJ ZAK rfl T.b_len PySem.boot_len (ZAA (pv 0) ZAB)) (ZAU _))
  (ZAE (ZAT (ZBh ZAt (pv 0) (pv 1) (fun _ _=>rfl)))) ZAb)
  (ZAE (ZAT ZAF))),?_⟩
 walk_at "rd"
 refine ⟨a,_,rfl,.inl hS,?_⟩
 walk_at "rd"
 rw [yAB]
 unfold cellOf at q
 split
 .rename_i hk
  rw [if_pos hk] at q
  have hk':k.toNat < ns.length:=by omega
  refine ZBL hS (atI_ints h0 (yAL hk')) ?_
  rw [yAL hk'] at q
  exact q
 .rename_i hk
  rw [if_neg hk] at q
  exact q
theorem ok_whole {f:Addr} {fd:FuncData} (F:Fun K "_law_whole" "_law_whole" ZBZ f fd) (T:Bt K mg C_HallError C_NoRule C_NoPaper C_NoPlace C_NoKey C_NoRow C_NoOrder C_TooFar C_Spent)
 :FnOk P w K mg base CX0 1 f fd ["_law_found"] (ZBH):=by
 refine F.ok sc_whole (fun vs H Q E h=>?_) (fun cdv A outer s H vs Q E hr h=>?_)
 .obtain ⟨i,rfl,q⟩:=h
  rfl
 obtain ⟨i,rfl,q⟩:=h
 refine ⟨_,(ZAE (ZAT (ZCm (ZAJ ZA7 rfl T.b_isinstance PyProof.Rows.boot_isinstance (ZAA (pv 0) (ZAA (ZCU rfl T.b_int PyProof.Rows.boot_int) ZAB))) (ZCT (pe_not (ZAJ ZA7 rfl T.b_isinstance PyProof.Rows.boot_isinstance (ZAA (pv 0) (ZAA (ZCU rfl T.b_bool PyProof.Rows.boot_bool) ZAB)))))))),?_⟩
 walk_at "rd"
 refine inst_int ?_
 walk_at "rd"
 refine inst_int_bl T.kit_int_bool ?_
 walk_at "rd"
 exact q
theorem ok_row {f:Addr} {fd:FuncData} (F:Fun K "_law_row" "_law_row" ZCr f fd) (T:Bt K mg C_HallError C_NoRule C_NoPaper C_NoPlace C_NoKey C_NoRow C_NoOrder C_TooFar C_Spent)
  (f_whole:Fn P w K mg base CX0 "_law_whole" 1 ["_law_found"] (ZBH))
 :FnOk P w K mg base CX0 2 f fd ["_law_found","_law_due"] (ZCY):=by
 refine F.ok sc_row (fun vs H Q E h=>?_) (fun cdv A outer s H vs Q E hr h=>?_)
 .obtain ⟨a,b,xs,ys,rs,rfl,ha,hx,hb,hy,hrs,q⟩:=h
  rfl
 obtain ⟨a,b,xs,ys,rs,rfl,ha,hx,hb,hy,hrs,q⟩:=h
 refine ⟨_,(ZAC (ZAr (PW.pt (ZCQ (ZCR (ZB8 (ZAJ ZA7 rfl T.b_isinstance PyProof.Rows.boot_isinstance (ZAA (pv 0) (ZAA (ZCU rfl T.b_list PyProof.Rows.boot_list) ZAB))))) (ZBq (ZAM ZCc (ZAJ ZAK rfl T.b_len PySem.boot_len (ZAA (pv 0) ZAB)) (ZAJ ZAK rfl T.b_len PySem.boot_len (ZAA (pv 1) ZAB)) (ZAU _)))))
  (ZAE (ZAT ZBN)) ZAb)
  (ZAC (ZBd PassesOwn.never rfl (ZBr rfl T.b_range (ZAA (ZAJ ZAK rfl T.b_len PySem.boot_len (ZAA (pv 1) ZAB)) ZAB)) (ZAg (i:=2) sc_row.nd rfl (by walk_at "o"))
  (ZAC (ZAr (PW.pt (ZCQ (ZCR (ZB8 (ZAJ ZA7 rfl T.b_isinstance PyProof.Rows.boot_isinstance (ZAA (ZBh ZAt (pv 0) (pv 2) (fun _ _=>rfl)) (ZAA (ZCU rfl T.b_tuple PyProof.Rows.boot_tuple) ZAB))))) (ZBq (ZAM ZCc (ZAJ ZAK rfl T.b_len PySem.boot_len (ZAA (ZBh ZAt (pv 0) (pv 2) (fun _ _=>rfl)) ZAB)) (ZAJ ZAK rfl T.b_len PySem.boot_len (ZAA (ZBh ZAt (pv 1) (pv 2) (fun _ _=>rfl)) ZAB)) (ZAU _)))))
  (ZAE (ZAT ZBN)) ZAb)
  (ZAE (ZBd PassesOwn.never rfl (pi_zipT rfl T.b_zip (ZAA (ZBh ZAt (pv 0) (pv 2) (fun _ _=>rfl)) (ZAA (ZBh ZAt (pv 1) (pv 2) (fun _ _=>rfl)) ZAB))) (ZCx (n:=2) rfl (ZBJ (ZAg (i:=3) sc_row.nd rfl (by walk_at "o")) (ZBJ (ZAg (i:=4) sc_row.nd rfl (by walk_at "o")) ZCb)))
  (ZAE (ZAr (PW.pt (ZCQ (ZCR (ZB8 (ZA2 f_whole (hr.mono (by decide)) rfl ZA3 (ZAA (pv 3) ZAB)))) (ZBq (ZAM ZCc (pv 3) (pv 4) (ZAU _)))))
  (ZAE (ZAT ZBN)) ZAb))))))
  (ZAE (ZAT ZBN)))),?_⟩
 walk_at "rd"
 refine inst_lst ha ?_
 walk_at "rd"
 refine ⟨a,_,rfl,.inl (SqL.of ha),b,_,rfl,.inl (SqL.of hb),?_⟩
 rw [hx.1,hy.1,if_neg (fun z=>z rfl)]
 refine ⟨b,_,rfl,.inl (SqL.of hb),?_⟩
 rw [hy.1]
 refine ⟨_,rfl,by omega,by omega,forR_of (fun i σ X=>∃ v2 v3 v4,σ=[some (.ref a),some (.ref b),v2,v3,v4] /\ Same H X) ⟨_,_,_,rfl,.refl _⟩ (fun i σ X hi z=>?_) fun σ X z=>?_⟩
 .obtain ⟨v2,v3,v4,rfl,sX⟩:=z
  have hi':i < rs.length:=by omega
  obtain ⟨t,g1,g2⟩:=hx.2 i rs[i] (yAL hi')
  obtain ⟨u,k1,k2⟩:=hy.2 i rs[i] (yAL hi')
  have ix:atI xs (0+(i:Int))=some (.ref t):=ZBf (by omega) (by rw [show (0+(i:Int)).toNat=i by omega];exact g1)
  have iy:atI ys (0+(i:Int))=some (.ref u):=ZBf (by omega) (by rw [show (0+(i:Int)).toNat=i by omega];exact k1)
  have ha':=SqL.of (K:=K) (sX _ _ ha)
  have hb':=SqL.of (K:=K) (sX _ _ hb)
  walk_at "rd"
  refine ZBL ha' ix ?_
  refine inst_tup (sX _ _ g2) ?_
  walk_at "rd"
  refine ZBL ha' ix ⟨t,_,rfl,.inr (SqT.of (sX _ _ g2)),?_⟩
  refine ZBL hb' iy ⟨u,_,rfl,.inr (SqT.of (sX _ _ k2)),?_⟩
  rw [if_neg (fun z=>z rfl)]
  refine ZBL ha' ix (ZBL hb' iy ?_)
  refine forZ_ofT (SqT.of (sX _ _ g2)) (SqT.of (sX _ _ k2)) (fun j σ Y=>∃ v2 v3 v4,σ=[some (.ref a),some (.ref b),v2,v3,v4] /\ Same H Y) ⟨_,_,_,rfl,sX⟩ (fun j σ Y _ z=>?_) (fun j x y σ Y p h1 h2 z hp=>?_) fun σ Y z=>z
  .obtain ⟨_,_,_,_,sY⟩:=z
   exact ⟨SqT.of (sY _ _ g2),SqT.of (sY _ _ k2)⟩
  .obtain ⟨v2,v3,v4,rfl,sY⟩:=z
   rw [h1] at h2
   cases h2
   obtain ⟨n,_,rfl⟩:=ZCL h1
   refine ZBz (SqT.of ZAI) rfl ?_
   walk_at "rd"
   refine ⟨n,rfl,?_⟩
   walk_at "rd"
   rw [if_neg (fun z=>z trivial)]
   exact ⟨_,_,_,rfl,sY.trans (ZAQ hp _)⟩
 .obtain ⟨v2,v3,v4,rfl,sX⟩:=z
  walk_at "rd"
  exact q _ sX
theorem ok_line {f:Addr} {fd:FuncData} (F:Fun K "_law_line" "_law_line" ZB7 f fd) (T:Bt K mg C_HallError C_NoRule C_NoPaper C_NoPlace C_NoKey C_NoRow C_NoOrder C_TooFar C_Spent)
  (f_read_row:Fn P w K mg base (CXE P w) "read_row" 3 ["text"] (ZBP C_NoRow))
  (f_whole:Fn P w K mg base CX0 "_law_whole" 1 ["_law_found"] (ZBH))
 :FnOk P w K mg base CX0 4 f fd ["_law_text_here","_law_line_here"] (ZBF):=by
 refine F.ok sc_line (fun vs H Q E h=>?_) (fun cdv A outer s H vs Q E hr h=>?_)
 .obtain ⟨z,k,rfl,hA,hz,h0,hk,hok,hbad,q⟩:=h
  rfl
 obtain ⟨z,k,rfl,hA,hz,h0,hk,hok,hbad,q⟩:=h
 refine ⟨_,(ZAC (ZAa (i:=2) sc_line.nd rfl (by walk_at "o") ZBt)
  (ZAC (ps_try (i:=3) ⟨rfl,rfl⟩ rfl rfl T.m_NoRow sc_line.nd rfl rfl (fun pn xe E hp=>
  (ZAE (ZA0 (pe_fnS f_read_row (hr.mono (by decide)) rfl hp (ZAA (pv 0) ZAB))))) (fun e=>
  (ZAE (ZAa (i:=2) sc_line.nd rfl (by walk_at "o") (pe_xfldMK K (pv 3) rfl)))))
  (ZAE (ZAT (ZCm (ZA2 f_whole (hr.mono (by decide)) rfl ZA3 (ZAA (pv 2) ZAB)) (ZCT (ZBu ZBU (pv 2) (pv 1) (ZAU _)))))))),?_⟩
 walk_at "rd"
 refine ⟨z,rfl,hA,hz,fun e=>absurd e h0,fun _ hall=>absurd (hall k hk) (by rw [hbad];decide),fun _ k' hk' hok' hbad' d H' s' hd hd'=>?_⟩
 have ek:k'=k:=by
  rcases Nat.lt_trichotomy k' k with h | h | h
  .rw [hok k' h] at hbad';cases hbad'
  .exact h
  .rw [hok' k h] at hbad;cases hbad
 subst ek
 refine ⟨T.xm_NoRow_NoRow,fun ea hea=>?_⟩
 walk_at "rd"
 refine ⟨ea,C_NoRow,d,_,_,rfl,.inl ZAI,by rw [ZAH (ZAG hd' hea)];exact hd',T.xc_NoRow,T.xk_NoRow.hd,T.n_NoRow_line,by walk_at "lk",?_⟩
 walk_at "rd"
 refine ⟨_,rfl,?_⟩
 walk_at "rd"
 exact q _ (s'.trans (ZAQ hea _))
theorem ok_refused {f:Addr} {fd:FuncData} (F:Fun K "_law_refused" "_law_refused" ZAv f fd) (T:Bt K mg C_HallError C_NoRule C_NoPaper C_NoPlace C_NoKey C_NoRow C_NoOrder C_TooFar C_Spent)
  (f_read_row:Fn P w K mg base (CXE P w) "read_row" 3 ["text"] (ZBP C_NoRow))
  (f_line:Fn P w K mg base CX0 "_law_line" 4 ["_law_text_here","_law_line_here"] (ZBF))
 :FnOk P w K mg base CX0 5 f fd ["_law_text_here","_law_line_here"] (ZBF):=by
 refine F.ok sc_refused (fun vs H Q E h=>?_) (fun cdv A outer s H vs Q E hr h=>?_)
 .obtain ⟨z,k,rfl,hA,hz,h0,hk,hok,hbad,q⟩:=h
  rfl
 obtain ⟨z,k,rfl,hA,hz,h0,hk,hok,hbad,q⟩:=h
 refine ⟨_,(ZAC (ZAa (i:=2) sc_refused.nd rfl (by walk_at "o") (ZA8 ZAB))
  (ZAC (ps_try (i:=3) ⟨rfl,rfl⟩ rfl rfl T.m_HallError sc_refused.nd rfl rfl (fun pn xe E hp=>
  (ZAE (ZA0 (pe_fnS f_read_row (hr.mono (by decide)) rfl hp (ZAA (pv 0) ZAB))))) (fun e=>
  (ZAC (ZAa (i:=2) sc_refused.nd rfl (by walk_at "o") (ZA8 (ZAA (ZAJ (ZAe K) rfl T.b_isinstance PyProof.Rows.boot_isinstance (ZAA (pv 3) (ZAA (ZCU rfl T.b_ValueError L2.boot_ValueError) ZAB))) (ZAA (ZAJ (ZAe K) rfl T.b_isinstance PyProof.Rows.boot_isinstance (ZAA (pv 3) (ZAA (ZA9 rfl T.m_NoRow) ZAB))) (ZAA (ZAJ (ZAe K) rfl T.b_isinstance PyProof.Rows.boot_isinstance (ZAA (pv 3) (ZAA (ZA9 rfl T.m_NoRule) ZAB))) (ZAA (ZAJ (ZAe K) rfl T.b_isinstance PyProof.Rows.boot_isinstance (ZAA (pv 3) (ZAA (ZA9 rfl T.m_NoPlace) ZAB))) ZAB))))))
  (ZAC (ZAa (i:=2) sc_refused.nd rfl (by walk_at "o") (ZAP op_cat (pv 2) (ZA8 (ZAA (ZAJ (ZAe K) rfl T.b_isinstance PyProof.Rows.boot_isinstance (ZAA (pv 3) (ZAA (ZA9 rfl T.m_NoKey) ZAB))) (ZAA (ZAJ (ZAe K) rfl T.b_isinstance PyProof.Rows.boot_isinstance (ZAA (pv 3) (ZAA (ZA9 rfl T.m_NoPaper) ZAB))) (ZAA (ZAJ (ZAe K) rfl T.b_isinstance PyProof.Rows.boot_isinstance (ZAA (pv 3) (ZAA (ZA9 rfl T.m_NoOrder) ZAB))) ZAB))))))
  (ZAE (ZAa (i:=2) sc_refused.nd rfl (by walk_at "o") (ZAP op_cat (pv 2) (ZA8 (ZAA (ZAJ (ZAe K) rfl T.b_isinstance PyProof.Rows.boot_isinstance (ZAA (pv 3) (ZAA (ZA9 rfl T.m_TooFar) ZAB))) (ZAA (ZAJ (ZAe K) rfl T.b_isinstance PyProof.Rows.boot_isinstance (ZAA (pv 3) (ZAA (ZA9 rfl T.m_Spent) ZAB))) ZAB))))))))))
  (ZAE (ZAT (ZCm (ZBu (op_eqD hr.units) (pv 2) (ZA8 (ZAA ZBN (ZAA ZBN (ZAA ZBN (ZAA ZBN (ZAA ZBN (ZAA ZBN (ZAA ZBN (ZAA ZBN (ZAA ZBN ZAB)))))))))) (ZAU _)) (ZCT (ZA2 f_line (hr.mono (by decide)) rfl ZA3 (ZAA (pv 0) (ZAA (pv 1) ZAB))))))))),?_⟩
 walk_at "rd"
 refine ⟨ZAV (by decide),fun p hp=>?_⟩
 obtain ⟨H1,e1,s1,h1⟩:=newH hp (.lst [])
 rw [e1];clear e1
 refine ⟨z,rfl,hA,hz,fun e=>absurd e h0,fun _ hall=>absurd (hall k hk) (by rw [hbad];decide),fun _ k' hk' hok' hbad' d H' s' hd hd'=>?_⟩
 refine ⟨T.xm_NoRow_HallError,fun ea hea=>?_⟩
 obtain ⟨H2,e2,s2,h2⟩:=newH hea (excO ea (.ref C_NoRow) (some d))
 rw [e2];clear e2
 have S2:=s1.trans (s'.trans s2)
 clear s1 s' s2 hd hd' hea h1
 walk_at "rd"
 refine ZCJ h2 T.xc_NoRow T.xk_NoRow.hd T.kit_NoRow_ValueError rfl ?_
 refine ZCJ h2 T.xc_NoRow T.xk_NoRow.hd T.kit_NoRow_NoRow rfl ?_
 refine ZCJ h2 T.xc_NoRow T.xk_NoRow.hd T.kit_NoRow_NoRule rfl ?_
 refine ZCJ h2 T.xc_NoRow T.xk_NoRow.hd T.kit_NoRow_NoPlace rfl ?_
 refine ⟨ZAV (by decide),fun p1 hp1=>?_⟩
 obtain ⟨H3,e3,s3,h3⟩:=newH hp1 (.lst [.bl true,.bl true,.bl false,.bl false])
 rw [e3];clear e3
 have h2:=s3 _ _ h2
 refine ZCJ h2 T.xc_NoRow T.xk_NoRow.hd T.kit_NoRow_NoKey rfl ?_
 refine ZCJ h2 T.xc_NoRow T.xk_NoRow.hd T.kit_NoRow_NoPaper rfl ?_
 refine ZCJ h2 T.xc_NoRow T.xk_NoRow.hd T.kit_NoRow_NoOrder rfl ?_
 refine ⟨ZAV (by decide),fun p2 hp2=>?_⟩
 obtain ⟨H4,e4,s4,h4⟩:=newH hp2 (.lst [.bl false,.bl false,.bl false])
 rw [e4];clear e4
 refine ⟨p1,p2,_,_,rfl,rfl,s4 _ _ h3,h4,ZAV (by decide),fun p3 hp3=>?_⟩
 obtain ⟨H5,e5,s5,h5⟩:=newH hp3 (.lst [.bl true,.bl true,.bl false,.bl false,.bl false,.bl false,.bl false])
 rw [show upd H4 p3 (HO.lst ([V.bl true,V.bl true,V.bl false,V.bl false]++[V.bl false,V.bl false,V.bl false]))=H5 from e5];clear e5
 have h2:=s5 _ _ (s4 _ _ h2)
 refine ZCJ h2 T.xc_NoRow T.xk_NoRow.hd T.kit_NoRow_TooFar rfl ?_
 refine ZCJ h2 T.xc_NoRow T.xk_NoRow.hd T.kit_NoRow_Spent rfl ?_
 refine ⟨ZAV (by decide),fun p4 hp4=>?_⟩
 obtain ⟨H6,e6,s6,h6⟩:=newH hp4 (.lst [.bl false,.bl false])
 rw [e6];clear e6
 refine ⟨p3,p4,_,_,rfl,rfl,s6 _ _ h5,h6,ZAV (by decide),fun p5 hp5=>?_⟩
 obtain ⟨H7,e7,s7,h7⟩:=newH hp5 (.lst ([true,true,false,false,false,false,false,false,false].map V.bl))
 rw [show upd H6 p5 (HO.lst ([V.bl true,V.bl true,V.bl false,V.bl false,V.bl false,V.bl false,V.bl false]++[V.bl false,V.bl false]))=H7 from e7];clear e7
 refine ⟨ZAV (by decide),fun p6 hp6=>?_⟩
 obtain ⟨H8,e8,s8,h8⟩:=newH hp6 (.lst ([true,true,false,false,false,false,false,false,false].map V.bl))
 rw [show upd H7 p6 (HO.lst [V.bl true,V.bl true,V.bl false,V.bl false,V.bl false,V.bl false,V.bl false,V.bl false,V.bl false])=H8 from e8];clear e8
 have S8:=S2.trans (s3.trans (s4.trans (s5.trans (s6.trans (s7.trans s8)))))
 refine eqD_of Enc.bl.list (by decide) (a:=[true,true,false,false,false,false,false,false,false]) (b:=[true,true,false,false,false,false,false,false,false]) (dp_lst (SqL.of (s8 _ _ h7)) (ZCz _)) (dp_lst (SqL.of h8) (ZCz _)) ?_
 walk_at "rd"
 exact ⟨z,k,rfl,hA,hz,h0,hk,hok,hbad,fun H9 s9=>q _ (S8.trans s9)⟩
theorem ok_law {f:Addr} {fd:FuncData} (F:Fun K "law" "law" ZCC f fd) (T:Bt K mg C_HallError C_NoRule C_NoPaper C_NoPlace C_NoKey C_NoRow C_NoOrder C_TooFar C_Spent)
  (f_text:Fn P w K mg base CX0 "_law_text" 2 ["_law_cells","_law_width","_law_kind","_law_odd"] (ZCB))
  (f_spoiled:Fn P w K mg base CX0 "_law_spoiled" 1 ["_law_text_here","_law_cells"] (ZBo))
  (f_read:Fn P w K mg base CX0 "_law_read" 3 ["_law_text_here"] (ZCZ))
  (f_row:Fn P w K mg base CX0 "_law_row" 2 ["_law_found","_law_due"] (ZCY))
  (f_cell_at:Fn P w K mg base CX0 "_law_cell_at" 1 ["_law_script","_law_k"] (ZCw K))
  (f_refused:Fn P w K mg base CX0 "_law_refused" 5 ["_law_text_here","_law_line_here"] (ZBF))
  (f_read_row:Fn P w K mg base (CXE P w) "read_row" 3 ["text"] (ZBP C_NoRow))
 :FnOk P w K mg base CX0 6 f fd ["_law_script"] (ZC3 K):=by
 refine F.ok sc_law (fun vs H Q E h=>?_) (fun cdv A outer s H vs Q E hr h=>?_)
 .obtain ⟨a,ns,rfl,hS,h63,q⟩:=h
  rfl
 obtain ⟨a,ns,rfl,hS,h63,q⟩:=h
 refine ⟨_,(ZAC (ZAa (i:=1) sc_law.nd rfl (by walk_at "o") (ZAP ZBA ZAF (ZAP ZAn (ZA2 f_cell_at (hr.mono (by decide)) rfl ZA3 (ZAA (pv 0) (ZAA ZAF ZAB))) ZAF)))
  (ZAL
  (ZAC (ZAa (i:=2) sc_law.nd rfl (by walk_at "o") (ZA2 f_text (hr.mono (by decide)) rfl ZA3 (ZAA (ZAk sl_list (pv 0) (ZAm ZAF) (ZAm (ZAP ZBA ZAF (ZAP ZCo ZAF (pv 1))))) (ZAA (pv 1) (ZAA (ZAP ZAn (ZAP ZCG (ZA2 f_cell_at (hr.mono (by decide)) rfl ZA3 (ZAA (pv 0) (ZAA ZAF ZAB))) ZAF) ZAF) (ZAA (ZA2 f_cell_at (hr.mono (by decide)) rfl ZA3 (ZAA (pv 0) (ZAA ZAF ZAB))) ZAB))))))
  (ZAL
  (ZAC (ZAa (i:=3) sc_law.nd rfl (by walk_at "o") (ZAP ZAn (ZA2 f_cell_at (hr.mono (by decide)) rfl ZA3 (ZAA (pv 0) (ZAA ZAF ZAB))) ZAF))
  (ZAL
  (ZAC (ZAa (i:=2) sc_law.nd rfl (by walk_at "o") (ZA2 f_spoiled (hr.mono (by decide)) rfl ZA3 (ZAA (pv 2) (ZAA (ZCE rfl (k:=1) (js:=[0]) (N':=["_law_k","_law_script"]) (by rfl) (ZBr rfl T.b_range (ZAA (pv 3) ZAB)) (fun _ _ _ _=>ZAg (i:=0) (show (["_law_k","_law_script"]:List Str).Nodup by decide +kernel) rfl (by walk_at "o")) (fun _ _ _ _=>ZBS) (fun _ _ _ _=>(ZA2 f_cell_at (hr.mono (by decide)) rfl ZA3 (ZAA (pv 1) (ZAA (ZAP ZBA ZAF (pv 0)) ZAB))))) ZAB))))
  (ZAL
  (ZAC (ps_asg (ZA2 f_read (hr.mono (by decide)) rfl ZA3 (ZAA (pv 2) ZAB)) (ZCx (n:=2) rfl (ZBJ (ZAg (i:=4) sc_law.nd rfl (by walk_at "o")) (ZBJ (ZAg (i:=5) sc_law.nd rfl (by walk_at "o")) ZCb))))
  (ZAL
  (ZAC (ZAr (ZAM op_ge (pv 5) ZAF (ZAU _))
  (ZAE (ZAT (ZA2 f_refused (hr.mono (by decide)) rfl ZA3 (ZAA (pv 2) (ZAA (pv 5) ZAB))))) ZAb)
  (ZAL
  (ZAE (ZAT (ZA2 f_row (hr.mono (by decide)) rfl ZA3 (ZAA (ZA2 f_read_row (hr.mono (by decide)) rfl passE (ZAA (pv 2) ZAB)) (ZAA (pv 4) ZAB))))))))))))))))),?_⟩
 walk_at "rd"
 refine ⟨a,ns,0,rfl,hS,by decide,?_⟩
 walk_at "rd"
 refine ⟨by decide,?_⟩
 obtain ⟨wd,hw1,hw2⟩:∃ wd:Nat,1+cellOf ns 0 % 8=(wd:Int) /\ 0 < wd /\ wd <= 8:=⟨(1+cellOf ns 0 % 8).toNat,by omega,by omega,by omega⟩
 rw [hw1]
 refine ZAO ?_
 walk_at "rd"
 refine ⟨.inl ⟨by decide,by decide⟩,slL_of hS fun cl hcl=>?_⟩
 rw [cutV_ints]
 have hml:((ns.drop (HT.sIx ns.length 0 (some 6))).take (HT.sIx ns.length ns.length (some (6+12 * (wd:Int)))-HT.sIx ns.length 0 (some 6))).length <= 57:=by
  rw [show (some (6:Int))=some ((6:Nat):Int) from rfl,HT.sIx_nat,yAU,yBJ]
  omega
 generalize (ns.drop (HT.sIx ns.length 0 (some 6))).take (HT.sIx ns.length ns.length (some (6+12 * (wd:Int)))-HT.sIx ns.length 0 (some 6))=ms at hml ⊢
 obtain ⟨H1,e1,s1,h1⟩:=newH hcl (.lst (ms.map V.int))
 rw [e1];clear e1
 refine ⟨a,ns,0,rfl,s1.seq hS,by decide,?_⟩
 walk_at "rd"
 refine ⟨⟨by decide,by decide⟩,by decide,?_⟩
 refine ⟨a,ns,1,rfl,s1.seq hS,by decide,?_⟩
 refine ⟨cl,ms,wd,_,_,rfl,h1,hml,hw2.1,hw2.2,fun z H2 s2 zA zz=>?_⟩
 have hS2:=(s1.trans s2).seq hS
 clear s1 s2 hcl h1
 refine ZAO ?_
 walk_at "rd"
 refine ⟨a,ns,2,rfl,hS2,by decide,?_⟩
 walk_at "rd"
 refine ⟨by decide,?_⟩
 obtain ⟨mn,hm1,hm2⟩:∃ mn:Nat,cellOf ns 2 % 4=(mn:Int) /\ mn <= 3:=⟨(cellOf ns 2 % 4).toNat,by omega,by omega⟩
 rw [hm1]
 refine ZAO ?_
 walk_at "rd"
 refine compR1_of (by omega) (fun i ys σ X=>∃ v zs,σ=[v,some (.ref a)] /\ X=H2 /\ ys=List.map V.int zs /\ zs.length=i) ⟨_,[],rfl,rfl,rfl,rfl⟩ (fun i ys σ X z=>?_) (fun i ys σ X hi z=>?_) fun ys σ X z' p hp=>?_
 .obtain ⟨v,zs,_,_,e,e2⟩:=z
  rw [e,yAB,e2];exact yAA _
 .obtain ⟨v,zs,rfl,rfl,rfl,e2⟩:=z
  walk_at "rd"
  exact ⟨a,ns,_,rfl,hS2,by omega,.of hi ⟨_,zs++[_],rfl,rfl,by rw [yAN];rfl,by rw [yAQ,e2];rfl⟩⟩
 obtain ⟨v,zs,rfl,rfl,rfl,e2⟩:=z'
 rw [Int.toNat_natCast] at e2
 refine ⟨z,p,zs,rfl,ZAI,by omega,zA,zz,fun y yA yz=>?_⟩
 clear zA zz
 refine ZAO ?_
 walk_at "rd"
 refine ⟨y,rfl,yA,yz,fun h0 t pr H3 s3 ht0 ht hpr=>?_,fun h0 hall t pr H3 xs s3 ht0 ht hpr hR=>?_,fun h0 k hk hok hbad t pr H3 s3 ht0 ht=>?_⟩
 .refine ZBz (SqT.of ht) rfl ?_
  walk_at "rd"
  refine ZAO ?_
  walk_at "rd"
  rw [if_neg (by decide)]
  refine ZAO ?_
  walk_at "rd"
  exact ⟨y,rfl,yA,yz,fun _ p4 H4 s4 hp4 h4=>⟨p4,pr,[],[],[],rfl,h4,RwV.nil,s4 _ _ hpr,RwV.nil,by decide,fun H5 s5=>q _⟩,fun h=>absurd h0 h,fun h=>absurd h0 h⟩
 .refine ZBz (SqT.of ht) rfl ?_
  walk_at "rd"
  refine ZAO ?_
  walk_at "rd"
  rw [if_neg (by decide)]
  refine ZAO ?_
  walk_at "rd"
  have hll:=ZBO y
  exact ⟨y,rfl,yA,yz,fun h=>absurd h h0,fun _ _ p4 H4 ys s4 hp4 h4 hR4=>⟨p4,pr,ys,xs,_,rfl,h4,hR4,s4 _ _ hpr,hR.keep s4,by rw [yAB];omega,fun H5 s5=>q _⟩,fun _ k hk _ hbad=>by rw [hall k hk] at hbad;cases hbad⟩
 .refine ZBz (SqT.of ht) rfl ?_
  walk_at "rd"
  refine ZAO ?_
  walk_at "rd"
  rw [if_pos (by omega)]
  exact ⟨y,k,rfl,yA,yz,h0,hk,hok,hbad,fun H4 s4=>q _⟩
end
theorem all_mk {l:PySem.W.OpenLaw} {w:World} {K:W.Frag} {h:Heap} {mg:Str->Option Value} {fa C_HallError C_NoRule C_NoPaper C_NoPlace C_NoKey C_NoRow C_NoOrder C_TooFar C_Spent f_zac f_zaa f_zab f_zad f_zah f_zak f_zal f_zai f_zam f_zag f_zaf f_zaj f_zao f_zan f_zae f_zap:Addr} {t_MOST_FIGURES t_MOST_NUMBERS:Tok} (X:K.In h) (G:h.Ns mainGlobals mg) (hfa:mg "law"=some (.ref fa))
  {od_zac an_zac:Option Addr} {sl_zac:Array (Option Value)} {oc_zac kV_zac dc_zac pm_zac cd_zac ct_zac:Value}
  {od_zaa an_zaa:Option Addr} {sl_zaa:Array (Option Value)} {oc_zaa kV_zaa dc_zaa pm_zaa cd_zaa ct_zaa:Value}
  {od_zab an_zab:Option Addr} {sl_zab:Array (Option Value)} {oc_zab kV_zab dc_zab pm_zab cd_zab ct_zab:Value}
  {od_zad an_zad:Option Addr} {sl_zad:Array (Option Value)} {oc_zad kV_zad dc_zad pm_zad cd_zad ct_zad:Value}
  {od_zah an_zah:Option Addr} {sl_zah:Array (Option Value)} {oc_zah kV_zah dc_zah pm_zah cd_zah ct_zah:Value}
  {od_zak an_zak:Option Addr} {sl_zak:Array (Option Value)} {oc_zak kV_zak dc_zak pm_zak cd_zak ct_zak:Value}
  {od_zal an_zal:Option Addr} {sl_zal:Array (Option Value)} {oc_zal kV_zal dc_zal pm_zal cd_zal ct_zal:Value}
  {od_zai an_zai:Option Addr} {sl_zai:Array (Option Value)} {oc_zai kV_zai dc_zai pm_zai cd_zai ct_zai:Value}
  {od_zam an_zam:Option Addr} {sl_zam:Array (Option Value)} {oc_zam kV_zam dc_zam pm_zam cd_zam ct_zam:Value}
  {od_zag an_zag:Option Addr} {sl_zag:Array (Option Value)} {oc_zag kV_zag dc_zag pm_zag cd_zag ct_zag:Value}
  {od_zaf an_zaf:Option Addr} {sl_zaf:Array (Option Value)} {oc_zaf kV_zaf dc_zaf pm_zaf cd_zaf ct_zaf:Value}
  {od_zaj an_zaj:Option Addr} {sl_zaj:Array (Option Value)} {oc_zaj kV_zaj dc_zaj pm_zaj cd_zaj ct_zaj:Value}
  {od_zao an_zao:Option Addr} {sl_zao:Array (Option Value)} {oc_zao kV_zao dc_zao pm_zao cd_zao ct_zao:Value}
  {od_zan an_zan:Option Addr} {sl_zan:Array (Option Value)} {oc_zan kV_zan dc_zan pm_zan cd_zan ct_zan:Value}
  {od_zae an_zae:Option Addr} {sl_zae:Array (Option Value)} {oc_zae kV_zae dc_zae pm_zae cd_zae ct_zae:Value}
  {od_zap an_zap:Option Addr} {sl_zap:Array (Option Value)} {oc_zap kV_zap dc_zap pm_zap cd_zap ct_zap:Value}
  (a_HallError:W.nsIn K mainGlobals "HallError"=some (some (.ref C_HallError)))
  (a_NoRule:W.nsIn K mainGlobals "NoRule"=some (some (.ref C_NoRule)))
  (a_NoPaper:W.nsIn K mainGlobals "NoPaper"=some (some (.ref C_NoPaper)))
  (a_NoPlace:W.nsIn K mainGlobals "NoPlace"=some (some (.ref C_NoPlace)))
  (a_NoKey:W.nsIn K mainGlobals "NoKey"=some (some (.ref C_NoKey)))
  (a_NoRow:W.nsIn K mainGlobals "NoRow"=some (some (.ref C_NoRow)))
  (a_NoOrder:W.nsIn K mainGlobals "NoOrder"=some (some (.ref C_NoOrder)))
  (a_TooFar:W.nsIn K mainGlobals "TooFar"=some (some (.ref C_TooFar)))
  (a_Spent:W.nsIn K mainGlobals "Spent"=some (some (.ref C_Spent)))
  (a_zac:W.findIn K (.ref C_NoRow) "__init__"=some (some (.ref f_zac)))
  (i_zac:PySem.W.isFn K (.ref f_zac)=true)
  (l_zac:K.lookup f_zac=some ⟨oc_zac,od_zac,.func (W.fnOf "__init__" "NoRow.__init__" (ZAZ ZAj) (ZAW ZAj) (ZAD ZAj) .none kV_zac dc_zac pm_zac an_zac cd_zac ct_zac),sl_zac⟩)
  (c_zac:W.codeIn K cd_zac "NoRow.__init__"=true)
  (k_zac:W.keepIn K (.ref f_zac)=true)
  (xg_NoRow:W.findIn K (.ref C_NoRow) "__getattribute__"=some (some (.builtin "BaseException.__getattribute__")))
  (xh_NoRow:W.findIn K (.ref C_NoRow) "__getattr__"=some none)
  (xa_NoRow:W.findIn K (.ref C_NoRow) "__class__"=some (some (.builtin "object.__class__")))
  (xs_NoRow:PySem.W.specialIn K (.builtin "object.__class__") "__get__"=some (some (.builtin "getset_descriptor.__get__")))
  (xt_NoRow:PySem.W.takesIn K (.builtin "object.__class__")=some true)
  (xo_NoRow:PySem.W.mroIn K C_NoRow (.type "object")=some true)
  (xb_NoRow:PySem.W.mroIn K C_NoRow (.type "BaseException")=some true)
  (xd_NoRow:PySem.W.hasDictIn K C_NoRow=true)
  (xv_NoRow:ZCe K C_NoRow=true)
  (xw_NoRow:W.findIn K (.ref C_NoRow) "__setattr__"=some (some (.builtin "object.__setattr__")))
  (xi_NoRow:ZBe K C_NoRow f_zac bmV "ValueError.__new__"=true)
  (xp_NoRow:W.keepIn K (.ref C_NoRow)=true)
  (xm_NoRow_HallError:PySem.W.exmOne K (.ref C_NoRow) (.ref C_HallError)=some true)
  (xm_NoRow_NoRow:PySem.W.exmOne K (.ref C_NoRow) (.ref C_NoRow)=some true)
  (n_NoRow_line:W.findIn K (.ref C_NoRow) "line"=some none)
  (xbg_HallError:PySem.W.specialIn K (.ref C_HallError) "__getattribute__"=some (some (.builtin "type.__getattribute__")))
  (xbr_HallError:PySem.W.readsIn K C_HallError (.type "type")=true)
  (xbf_HallError:PySem.W.findCls K (.ref C_HallError) (.type "type") "__init__"=some (.val (.builtin "ValueError.__init__")))
  (a_zaa:W.nsIn K mainGlobals "is_written_number"=some (some (.ref f_zaa)))
  (l_zaa:K.lookup f_zaa=some ⟨oc_zaa,od_zaa,.func (W.fnOf "is_written_number" "is_written_number" (ZAZ ZAN) (ZAW ZAN) (ZAD ZAN) .none kV_zaa dc_zaa pm_zaa an_zaa cd_zaa ct_zaa),sl_zaa⟩)
  (c_zaa:W.codeIn K cd_zaa "is_written_number"=true)
  (k_zaa:W.keepIn K (.ref f_zaa)=true)
  (a_zab:W.nsIn K mainGlobals "are_numbers"=some (some (.ref f_zab)))
  (l_zab:K.lookup f_zab=some ⟨oc_zab,od_zab,.func (W.fnOf "are_numbers" "are_numbers" (ZAZ ZAh) (ZAW ZAh) (ZAD ZAh) .none kV_zab dc_zab pm_zab an_zab cd_zab ct_zab),sl_zab⟩)
  (c_zab:W.codeIn K cd_zab "are_numbers"=true)
  (k_zab:W.keepIn K (.ref f_zab)=true)
  (a_zad:W.nsIn K mainGlobals "read_row"=some (some (.ref f_zad)))
  (l_zad:K.lookup f_zad=some ⟨oc_zad,od_zad,.func (W.fnOf "read_row" "read_row" (ZAZ ZAp) (ZAW ZAp) (ZAD ZAp) .none kV_zad dc_zad pm_zad an_zad cd_zad ct_zad),sl_zad⟩)
  (c_zad:W.codeIn K cd_zad "read_row"=true)
  (k_zad:W.keepIn K (.ref f_zad)=true)
  (a_zah:W.nsIn K mainGlobals "_law_number"=some (some (.ref f_zah)))
  (l_zah:K.lookup f_zah=some ⟨oc_zah,od_zah,.func (W.fnOf "_law_number" "_law_number" (ZAZ ZBI) (ZAW ZBI) (ZAD ZBI) .none kV_zah dc_zah pm_zah an_zah cd_zah ct_zah),sl_zah⟩)
  (c_zah:W.codeIn K cd_zah "_law_number"=true)
  (k_zah:W.keepIn K (.ref f_zah)=true)
  (a_zak:W.nsIn K mainGlobals "_law_thing"=some (some (.ref f_zak)))
  (l_zak:K.lookup f_zak=some ⟨oc_zak,od_zak,.func (W.fnOf "_law_thing" "_law_thing" (ZAZ ZBa) (ZAW ZBa) (ZAD ZBa) .none kV_zak dc_zak pm_zak an_zak cd_zak ct_zak),sl_zak⟩)
  (c_zak:W.codeIn K cd_zak "_law_thing"=true)
  (k_zak:W.keepIn K (.ref f_zak)=true)
  (a_zal:W.nsIn K mainGlobals "_law_read"=some (some (.ref f_zal)))
  (l_zal:K.lookup f_zal=some ⟨oc_zal,od_zal,.func (W.fnOf "_law_read" "_law_read" (ZAZ ZB6) (ZAW ZB6) (ZAD ZB6) .none kV_zal dc_zal pm_zal an_zal cd_zal ct_zal),sl_zal⟩)
  (c_zal:W.codeIn K cd_zal "_law_read"=true)
  (k_zal:W.keepIn K (.ref f_zal)=true)
  (a_zai:W.nsIn K mainGlobals "_law_drawn"=some (some (.ref f_zai)))
  (l_zai:K.lookup f_zai=some ⟨oc_zai,od_zai,.func (W.fnOf "_law_drawn" "_law_drawn" (ZAZ ZBb) (ZAW ZBb) (ZAD ZBb) .none kV_zai dc_zai pm_zai an_zai cd_zai ct_zai),sl_zai⟩)
  (c_zai:W.codeIn K cd_zai "_law_drawn"=true)
  (k_zai:W.keepIn K (.ref f_zai)=true)
  (a_zam:W.nsIn K mainGlobals "_law_text"=some (some (.ref f_zam)))
  (l_zam:K.lookup f_zam=some ⟨oc_zam,od_zam,.func (W.fnOf "_law_text" "_law_text" (ZAZ ZB5) (ZAW ZB5) (ZAD ZB5) .none kV_zam dc_zam pm_zam an_zam cd_zam ct_zam),sl_zam⟩)
  (c_zam:W.codeIn K cd_zam "_law_text"=true)
  (k_zam:W.keepIn K (.ref f_zam)=true)
  (a_zag:W.nsIn K mainGlobals "_law_spoiled"=some (some (.ref f_zag)))
  (l_zag:K.lookup f_zag=some ⟨oc_zag,od_zag,.func (W.fnOf "_law_spoiled" "_law_spoiled" (ZAZ ZAu) (ZAW ZAu) (ZAD ZAu) .none kV_zag dc_zag pm_zag an_zag cd_zag ct_zag),sl_zag⟩)
  (c_zag:W.codeIn K cd_zag "_law_spoiled"=true)
  (k_zag:W.keepIn K (.ref f_zag)=true)
  (a_zaf:W.nsIn K mainGlobals "_law_cell_at"=some (some (.ref f_zaf)))
  (l_zaf:K.lookup f_zaf=some ⟨oc_zaf,od_zaf,.func (W.fnOf "_law_cell_at" "_law_cell_at" (ZAZ ZAw) (ZAW ZAw) (ZAD ZAw) .none kV_zaf dc_zaf pm_zaf an_zaf cd_zaf ct_zaf),sl_zaf⟩)
  (c_zaf:W.codeIn K cd_zaf "_law_cell_at"=true)
  (k_zaf:W.keepIn K (.ref f_zaf)=true)
  (a_zaj:W.nsIn K mainGlobals "_law_whole"=some (some (.ref f_zaj)))
  (l_zaj:K.lookup f_zaj=some ⟨oc_zaj,od_zaj,.func (W.fnOf "_law_whole" "_law_whole" (ZAZ ZBZ) (ZAW ZBZ) (ZAD ZBZ) .none kV_zaj dc_zaj pm_zaj an_zaj cd_zaj ct_zaj),sl_zaj⟩)
  (c_zaj:W.codeIn K cd_zaj "_law_whole"=true)
  (k_zaj:W.keepIn K (.ref f_zaj)=true)
  (a_zao:W.nsIn K mainGlobals "_law_row"=some (some (.ref f_zao)))
  (l_zao:K.lookup f_zao=some ⟨oc_zao,od_zao,.func (W.fnOf "_law_row" "_law_row" (ZAZ ZCr) (ZAW ZCr) (ZAD ZCr) .none kV_zao dc_zao pm_zao an_zao cd_zao ct_zao),sl_zao⟩)
  (c_zao:W.codeIn K cd_zao "_law_row"=true)
  (k_zao:W.keepIn K (.ref f_zao)=true)
  (a_zan:W.nsIn K mainGlobals "_law_line"=some (some (.ref f_zan)))
  (l_zan:K.lookup f_zan=some ⟨oc_zan,od_zan,.func (W.fnOf "_law_line" "_law_line" (ZAZ ZB7) (ZAW ZB7) (ZAD ZB7) .none kV_zan dc_zan pm_zan an_zan cd_zan ct_zan),sl_zan⟩)
  (c_zan:W.codeIn K cd_zan "_law_line"=true)
  (k_zan:W.keepIn K (.ref f_zan)=true)
  (a_zae:W.nsIn K mainGlobals "_law_refused"=some (some (.ref f_zae)))
  (l_zae:K.lookup f_zae=some ⟨oc_zae,od_zae,.func (W.fnOf "_law_refused" "_law_refused" (ZAZ ZAv) (ZAW ZAv) (ZAD ZAv) .none kV_zae dc_zae pm_zae an_zae cd_zae ct_zae),sl_zae⟩)
  (c_zae:W.codeIn K cd_zae "_law_refused"=true)
  (k_zae:W.keepIn K (.ref f_zae)=true)
  (a_zap:W.nsIn K mainGlobals "law"=some (some (.ref f_zap)))
  (l_zap:K.lookup f_zap=some ⟨oc_zap,od_zap,.func (W.fnOf "law" "law" (ZAZ ZCC) (ZAW ZCC) (ZAD ZCC) .none kV_zap dc_zap pm_zap an_zap cd_zap ct_zap),sl_zap⟩)
  (c_zap:W.codeIn K cd_zap "law"=true)
  (k_zap:W.keepIn K (.ref f_zap)=true)
  (z_MOST_FIGURES:W.nsIn K mainGlobals "MOST_FIGURES"=some (some (.int 60 t_MOST_FIGURES)))
  (z_MOST_NUMBERS:W.nsIn K mainGlobals "MOST_NUMBERS"=some (some (.int 8 t_MOST_NUMBERS)))
  (z_len:W.nsIn K mainGlobals "len"=some none)
  (z_range:W.nsIn K mainGlobals "range"=some none)
  (z_tuple:W.nsIn K mainGlobals "tuple"=some none)
  (z_list:W.nsIn K mainGlobals "list"=some none)
  (z_isinstance:W.nsIn K mainGlobals "isinstance"=some none)
  (z_bool:W.nsIn K mainGlobals "bool"=some none)
  (z_int:W.nsIn K mainGlobals "int"=some none)
  (z_str:W.nsIn K mainGlobals "str"=some none)
  (z_all:W.nsIn K mainGlobals "all"=some none)
  (z_enumerate:W.nsIn K mainGlobals "enumerate"=some none)
  (z_zip:W.nsIn K mainGlobals "zip"=some none)
  (z_ValueError:W.nsIn K mainGlobals "ValueError"=some none)
  (kit_int_bool:PySem.W.kitOne K (.type "int") (.type "bool")=some false)
  (kit_NoRow_ValueError:PySem.W.kitOne K (.ref C_NoRow) (.type "ValueError")=some true)
  (kit_NoRow_NoRow:PySem.W.kitOne K (.ref C_NoRow) (.ref C_NoRow)=some true)
  (kit_NoRow_NoRule:PySem.W.kitOne K (.ref C_NoRow) (.ref C_NoRule)=some false)
  (kit_NoRow_NoPlace:PySem.W.kitOne K (.ref C_NoRow) (.ref C_NoPlace)=some false)
  (kit_NoRow_NoKey:PySem.W.kitOne K (.ref C_NoRow) (.ref C_NoKey)=some false)
  (kit_NoRow_NoPaper:PySem.W.kitOne K (.ref C_NoRow) (.ref C_NoPaper)=some false)
  (kit_NoRow_NoOrder:PySem.W.kitOne K (.ref C_NoRow) (.ref C_NoOrder)=some false)
  (kit_NoRow_TooFar:PySem.W.kitOne K (.ref C_NoRow) (.ref C_TooFar)=some false)
  (kit_NoRow_Spent:PySem.W.kitOne K (.ref C_NoRow) (.ref C_Spent)=some false) :
  ∃ fd:FuncData,(∀ (s:Shared) (v:Value),BindsTo s fd ⟨[v],[]⟩ [("_law_script",v)]) /\ ∀ base:Heap,K.In base->base.Ns mainGlobals mg->FnOk l.prog w K mg base CX0 6 fa fd ["_law_script"] (ZC3 K):=by
 have e:=hfa.symm.trans (PySem.W.mg_of X G a_zap)
 cases e
 have F_zac:=ZAo (st:=ZAj) l_zac c_zac k_zac
 have b_zac:=F_zac.binds (ps:=["self","line"]) fun _ _ _ _ _ _ us hl=>by obtain ⟨_,_,rfl⟩:=us2 hl;rfl
 have F_zaa:=ZAo (st:=ZAN) l_zaa c_zaa k_zaa
 have b_zaa:=F_zaa.binds (ps:=["text"]) fun _ _ _ _ _ _ us hl=>by obtain ⟨_,rfl⟩:=us1 hl;rfl
 have F_zab:=ZAo (st:=ZAh) l_zab c_zab k_zab
 have b_zab:=F_zab.binds (ps:=["words"]) fun _ _ _ _ _ _ us hl=>by obtain ⟨_,rfl⟩:=us1 hl;rfl
 have F_zad:=ZAo (st:=ZAp) l_zad c_zad k_zad
 have b_zad:=F_zad.binds (ps:=["text"]) fun _ _ _ _ _ _ us hl=>by obtain ⟨_,rfl⟩:=us1 hl;rfl
 have F_zah:=ZAo (st:=ZBI) l_zah c_zah k_zah
 have b_zah:=F_zah.binds (ps:=["_law_word"]) fun _ _ _ _ _ _ us hl=>by obtain ⟨_,rfl⟩:=us1 hl;rfl
 have F_zak:=ZAo (st:=ZBa) l_zak c_zak k_zak
 have b_zak:=F_zak.binds (ps:=["_law_line_here"]) fun _ _ _ _ _ _ us hl=>by obtain ⟨_,rfl⟩:=us1 hl;rfl
 have F_zal:=ZAo (st:=ZB6) l_zal c_zal k_zal
 have b_zal:=F_zal.binds (ps:=["_law_text_here"]) fun _ _ _ _ _ _ us hl=>by obtain ⟨_,rfl⟩:=us1 hl;rfl
 have F_zai:=ZAo (st:=ZBb) l_zai c_zai k_zai
 have b_zai:=F_zai.binds (ps:=["_law_cell","_law_kind"]) fun _ _ _ _ _ _ us hl=>by obtain ⟨_,_,rfl⟩:=us2 hl;rfl
 have F_zam:=ZAo (st:=ZB5) l_zam c_zam k_zam
 have b_zam:=F_zam.binds (ps:=["_law_cells","_law_width","_law_kind","_law_odd"]) fun _ _ _ _ _ _ us hl=>by obtain ⟨_,_,_,_,rfl⟩:=us4 hl;rfl
 have F_zag:=ZAo (st:=ZAu) l_zag c_zag k_zag
 have b_zag:=F_zag.binds (ps:=["_law_text_here","_law_cells"]) fun _ _ _ _ _ _ us hl=>by obtain ⟨_,_,rfl⟩:=us2 hl;rfl
 have F_zaf:=ZAo (st:=ZAw) l_zaf c_zaf k_zaf
 have b_zaf:=F_zaf.binds (ps:=["_law_script","_law_k"]) fun _ _ _ _ _ _ us hl=>by obtain ⟨_,_,rfl⟩:=us2 hl;rfl
 have F_zaj:=ZAo (st:=ZBZ) l_zaj c_zaj k_zaj
 have b_zaj:=F_zaj.binds (ps:=["_law_found"]) fun _ _ _ _ _ _ us hl=>by obtain ⟨_,rfl⟩:=us1 hl;rfl
 have F_zao:=ZAo (st:=ZCr) l_zao c_zao k_zao
 have b_zao:=F_zao.binds (ps:=["_law_found","_law_due"]) fun _ _ _ _ _ _ us hl=>by obtain ⟨_,_,rfl⟩:=us2 hl;rfl
 have F_zan:=ZAo (st:=ZB7) l_zan c_zan k_zan
 have b_zan:=F_zan.binds (ps:=["_law_text_here","_law_line_here"]) fun _ _ _ _ _ _ us hl=>by obtain ⟨_,_,rfl⟩:=us2 hl;rfl
 have F_zae:=ZAo (st:=ZAv) l_zae c_zae k_zae
 have b_zae:=F_zae.binds (ps:=["_law_text_here","_law_line_here"]) fun _ _ _ _ _ _ us hl=>by obtain ⟨_,_,rfl⟩:=us2 hl;rfl
 have F_zap:=ZAo (st:=ZCC) l_zap c_zap k_zap
 have b_zap:=F_zap.binds (ps:=["_law_script"]) fun _ _ _ _ _ _ us hl=>by obtain ⟨_,rfl⟩:=us1 hl;rfl
 have T:Bt K mg C_HallError C_NoRule C_NoPaper C_NoPlace C_NoKey C_NoRow C_NoOrder C_TooFar C_Spent:=⟨PySem.W.mg_none_of X G z_len,PySem.W.mg_none_of X G z_range,PySem.W.mg_none_of X G z_tuple,PySem.W.mg_none_of X G z_list,PySem.W.mg_none_of X G z_isinstance,PySem.W.mg_none_of X G z_bool,PySem.W.mg_none_of X G z_int,PySem.W.mg_none_of X G z_str,PySem.W.mg_none_of X G z_all,PySem.W.mg_none_of X G z_enumerate,PySem.W.mg_none_of X G z_zip,PySem.W.mg_none_of X G z_ValueError,⟨_,PySem.W.mg_of X G z_MOST_FIGURES⟩,⟨_,PySem.W.mg_of X G z_MOST_NUMBERS⟩,PySem.W.mg_of X G a_HallError,PySem.W.mg_of X G a_NoRule,PySem.W.mg_of X G a_NoPaper,PySem.W.mg_of X G a_NoPlace,PySem.W.mg_of X G a_NoKey,PySem.W.mg_of X G a_NoRow,PySem.W.mg_of X G a_NoOrder,PySem.W.mg_of X G a_TooFar,PySem.W.mg_of X G a_Spent,⟨xg_NoRow,xh_NoRow,xa_NoRow,xs_NoRow,xt_NoRow,xo_NoRow,xb_NoRow⟩,⟨xd_NoRow,xv_NoRow,xw_NoRow⟩,⟨_,xi_NoRow⟩,xm_NoRow_HallError,xm_NoRow_NoRow,n_NoRow_line,⟨xbg_HallError,xbr_HallError,xbf_HallError⟩,kit_int_bool,kit_NoRow_ValueError,kit_NoRow_NoRow,kit_NoRow_NoRule,kit_NoRow_NoPlace,kit_NoRow_NoKey,kit_NoRow_NoPaper,kit_NoRow_NoOrder,kit_NoRow_TooFar,kit_NoRow_Spent⟩
 refine ⟨W.fnOf "law" "law" (ZAZ ZCC) (ZAW ZCC) (ZAD ZCC) .none kV_zap dc_zap pm_zap an_zap cd_zap ct_zap,fun s v=>.of_eq rfl,fun base _ _=>?_⟩
 have f_zai':Fn l.prog w K mg base CX0 "_law_drawn" 1 ["_law_cell","_law_kind"] (ZBp):=⟨_,_,ok_drawn F_zai T ,b_zai,k_zai,PySem.W.mg_of X G a_zai⟩
 have f_zam':Fn l.prog w K mg base CX0 "_law_text" 2 ["_law_cells","_law_width","_law_kind","_law_odd"] (ZCB):=⟨_,_,ok_text F_zam T f_zai',b_zam,k_zam,PySem.W.mg_of X G a_zam⟩
 have f_zag':Fn l.prog w K mg base CX0 "_law_spoiled" 1 ["_law_text_here","_law_cells"] (ZBo):=⟨_,_,ok_spoiled F_zag T ,b_zag,k_zag,PySem.W.mg_of X G a_zag⟩
 have f_zah':Fn l.prog w K mg base CX0 "_law_number" 1 ["_law_word"] (ZCv):=⟨_,_,ok_number F_zah T ,b_zah,k_zah,PySem.W.mg_of X G a_zah⟩
 have f_zak':Fn l.prog w K mg base CX0 "_law_thing" 2 ["_law_line_here"] (ZBn):=⟨_,_,ok_thing F_zak T f_zah',b_zak,k_zak,PySem.W.mg_of X G a_zak⟩
 have f_zal':Fn l.prog w K mg base CX0 "_law_read" 3 ["_law_text_here"] (ZCZ):=⟨_,_,ok_read F_zal T f_zak',b_zal,k_zal,PySem.W.mg_of X G a_zal⟩
 have f_zaj':Fn l.prog w K mg base CX0 "_law_whole" 1 ["_law_found"] (ZBH):=⟨_,_,ok_whole F_zaj T ,b_zaj,k_zaj,PySem.W.mg_of X G a_zaj⟩
 have f_zao':Fn l.prog w K mg base CX0 "_law_row" 2 ["_law_found","_law_due"] (ZCY):=⟨_,_,ok_row F_zao T f_zaj',b_zao,k_zao,PySem.W.mg_of X G a_zao⟩
 have f_zaf':Fn l.prog w K mg base CX0 "_law_cell_at" 1 ["_law_script","_law_k"] (ZCw K):=⟨_,_,ok_cell_at F_zaf T ,b_zaf,k_zaf,PySem.W.mg_of X G a_zaf⟩
 have f_zaa':Fn l.prog w K mg base CX0 "is_written_number" 1 ["text"] (ZCu):=⟨_,_,ok_is_written_number F_zaa T ,b_zaa,k_zaa,PySem.W.mg_of X G a_zaa⟩
 have f_zab':Fn l.prog w K mg base CX0 "are_numbers" 2 ["words"] (ZCa):=⟨_,_,ok_are_numbers F_zab T f_zaa',b_zab,k_zab,PySem.W.mg_of X G a_zab⟩
 have kx_NoRow':XKl l.prog w K mg base CX0 "NoRow" C_NoRow 1 ["self","line"] (ZBG C_NoRow):=⟨PySem.W.mg_of X G a_NoRow,_,_,ok_NoRow_init F_zac T ,b_zac,xi_NoRow,i_zac,xp_NoRow⟩
 have f_zad':Fn l.prog w K mg base (CXE l.prog w) "read_row" 3 ["text"] (ZBP C_NoRow):=⟨_,_,ok_read_row F_zad T f_zab' kx_NoRow',b_zad,k_zad,PySem.W.mg_of X G a_zad⟩
 have f_zan':Fn l.prog w K mg base CX0 "_law_line" 4 ["_law_text_here","_law_line_here"] (ZBF):=⟨_,_,ok_line F_zan T f_zad' f_zaj',b_zan,k_zan,PySem.W.mg_of X G a_zan⟩
 have f_zae':Fn l.prog w K mg base CX0 "_law_refused" 5 ["_law_text_here","_law_line_here"] (ZBF):=⟨_,_,ok_refused F_zae T f_zad' f_zan',b_zae,k_zae,PySem.W.mg_of X G a_zae⟩
 exact ok_law F_zap T f_zam' f_zag' f_zal' f_zao' f_zaf' f_zae' f_zad'
theorem walk {l:PySem.W.OpenLaw} {q:Program} {loose:List Str} {XP:(Str->Option Value)->Heap->Prop} {YP:World->Heap->Prop} {d:DefRec} {K:Params->W.Frag} (hn:l.most=some 63) (hdf:d.params.defaults=[])
  (hY:∀ (w:World) (h:Heap),YP w h->(K w.params).In h)
  (F:∀ (w:World) (mg:Str->Option Value) (fa:Addr) (h:Heap),(K w.params).In h->h.Ns mainGlobals mg->mg d.name=some (.ref fa) ->
   ∃ fd:FuncData,(∀ (s:Shared) (u:Value),BindsTo s fd ⟨[u],[]⟩ [("_law_script",u)]) /\ ∀ base:Heap,(K w.params).In base->base.Ns mainGlobals mg->FnOk l.prog w (K w.params) mg base CX0 6 fa fd ["_law_script"] (ZC3 (K w.params))) :
  PySem.W.WalkO q loose XP YP l.row.toRowW d [] (fun f vs=>PySem.call f vs) :=
 L2.walk_of (n:=63) (k:=6) (x:="_law_script") (CX:=fun _=>CX0) (sp:=fun w=>ZC3 (K w.params)) hn (by decide) hdf ⟨rfl,by decide,by decide,rfl⟩ hY F (fun _ _ a ns hl _ hS=>⟨a,ns,rfl,hS,hl,fun _=>rfl⟩) fun _ _ _ _ _ z=>z
end Law
open PySem PySem.W PyProof.Rows
set_option maxRecDepth 100000 in
set_option maxHeartbeats 0 in
theorem PySem.Challenge.cw_sorthall_k82_no_row_holds : PySem.Challenge.rw_sorthall_k82_no_row.Holds := by
 refine L2.hd0 ?_
 k_fill
 refine Law.walk (l:=PySem.Challenge.rw_sorthall_k82_no_row) rfl rfl (fun w h Y=>PySem.W.kIn_of Y) ?F
 case F=>
  intro w mg fa h KX G hmg
  refine' Law.all_mk KX G hmg ?a_HallError ?a_NoRule ?a_NoPaper ?a_NoPlace ?a_NoKey ?a_NoRow ?a_NoOrder ?a_TooFar ?a_Spent ?a_zac ?i_zac ?l_zac ?c_zac ?k_zac ?xg_NoRow ?xh_NoRow ?xa_NoRow ?xs_NoRow ?xt_NoRow ?xo_NoRow ?xb_NoRow ?xd_NoRow ?xv_NoRow ?xw_NoRow ?xi_NoRow ?xp_NoRow ?xm_NoRow_HallError ?xm_NoRow_NoRow ?n_NoRow_line ?xbg_HallError ?xbr_HallError ?xbf_HallError ?a_zaa ?l_zaa ?c_zaa ?k_zaa ?a_zab ?l_zab ?c_zab ?k_zab ?a_zad ?l_zad ?c_zad ?k_zad ?a_zah ?l_zah ?c_zah ?k_zah ?a_zak ?l_zak ?c_zak ?k_zak ?a_zal ?l_zal ?c_zal ?k_zal ?a_zai ?l_zai ?c_zai ?k_zai ?a_zam ?l_zam ?c_zam ?k_zam ?a_zag ?l_zag ?c_zag ?k_zag ?a_zaf ?l_zaf ?c_zaf ?k_zaf ?a_zaj ?l_zaj ?c_zaj ?k_zaj ?a_zao ?l_zao ?c_zao ?k_zao ?a_zan ?l_zan ?c_zan ?k_zan ?a_zae ?l_zae ?c_zae ?k_zae ?a_zap ?l_zap ?c_zap ?k_zap ?z_MOST_FIGURES ?z_MOST_NUMBERS ?z_len ?z_range ?z_tuple ?z_list ?z_isinstance ?z_bool ?z_int ?z_str ?z_all ?z_enumerate ?z_zip ?z_ValueError ?kit_int_bool ?kit_NoRow_ValueError ?kit_NoRow_NoRow ?kit_NoRow_NoRule ?kit_NoRow_NoPlace ?kit_NoRow_NoKey ?kit_NoRow_NoPaper ?kit_NoRow_NoOrder ?kit_NoRow_TooFar ?kit_NoRow_Spent
  (case a_HallError=>k_is)
  (case a_NoRule=>k_is)
  (case a_NoPaper=>k_is)
  (case a_NoPlace=>k_is)
  (case a_NoKey=>k_is)
  (case a_NoRow=>k_is)
  (case a_NoOrder=>k_is)
  (case a_TooFar=>k_is)
  (case a_Spent=>k_is)
  (case a_zac=>k_is)
  (case i_zac=>k_is)
  (case l_zac=>k_is)
  (case c_zac=>k_is)
  (case k_zac=>k_is)
  (case xg_NoRow=>k_is)
  (case xh_NoRow=>k_is)
  (case xa_NoRow=>k_is)
  (case xs_NoRow=>k_is)
  (case xt_NoRow=>k_is)
  (case xo_NoRow=>k_is)
  (case xb_NoRow=>k_is)
  (case xd_NoRow=>k_is)
  (case xv_NoRow=>kernel_rfl)
  (case xw_NoRow=>k_is)
  (case xi_NoRow=>kernel_rfl)
  (case xp_NoRow=>k_is)
  (case xm_NoRow_HallError=>kts_exm)
  (case xm_NoRow_NoRow=>kts_exm)
  (case n_NoRow_line=>k_is)
  (case xbg_HallError=>k_is)
  (case xbr_HallError=>k_is)
  (case xbf_HallError=>k_is)
  (case a_zaa=>k_is)
  (case l_zaa=>k_is)
  (case c_zaa=>k_is)
  (case k_zaa=>k_is)
  (case a_zab=>k_is)
  (case l_zab=>k_is)
  (case c_zab=>k_is)
  (case k_zab=>k_is)
  (case a_zad=>k_is)
  (case l_zad=>k_is)
  (case c_zad=>k_is)
  (case k_zad=>k_is)
  (case a_zah=>k_is)
  (case l_zah=>k_is)
  (case c_zah=>k_is)
  (case k_zah=>k_is)
  (case a_zak=>k_is)
  (case l_zak=>k_is)
  (case c_zak=>k_is)
  (case k_zak=>k_is)
  (case a_zal=>k_is)
  (case l_zal=>k_is)
  (case c_zal=>k_is)
  (case k_zal=>k_is)
  (case a_zai=>k_is)
  (case l_zai=>k_is)
  (case c_zai=>k_is)
  (case k_zai=>k_is)
  (case a_zam=>k_is)
  (case l_zam=>k_is)
  (case c_zam=>k_is)
  (case k_zam=>k_is)
  (case a_zag=>k_is)
  (case l_zag=>k_is)
  (case c_zag=>k_is)
  (case k_zag=>k_is)
  (case a_zaf=>k_is)
  (case l_zaf=>k_is)
  (case c_zaf=>k_is)
  (case k_zaf=>k_is)
  (case a_zaj=>k_is)
  (case l_zaj=>k_is)
  (case c_zaj=>k_is)
  (case k_zaj=>k_is)
  (case a_zao=>k_is)
  (case l_zao=>k_is)
  (case c_zao=>k_is)
  (case k_zao=>k_is)
  (case a_zan=>k_is)
  (case l_zan=>k_is)
  (case c_zan=>k_is)
  (case k_zan=>k_is)
  (case a_zae=>k_is)
  (case l_zae=>k_is)
  (case c_zae=>k_is)
  (case k_zae=>k_is)
  (case a_zap=>k_is)
  (case l_zap=>k_is)
  (case c_zap=>k_is)
  (case k_zap=>k_is)
  (case z_MOST_FIGURES=>k_is)
  (case z_MOST_NUMBERS=>k_is)
  (case z_len=>k_is)
  (case z_range=>k_is)
  (case z_tuple=>k_is)
  (case z_list=>k_is)
  (case z_isinstance=>k_is)
  (case z_bool=>k_is)
  (case z_int=>k_is)
  (case z_str=>k_is)
  (case z_all=>k_is)
  (case z_enumerate=>k_is)
  (case z_zip=>k_is)
  (case z_ValueError=>k_is)
  (case kit_int_bool=>kit_is)
  (case kit_NoRow_ValueError=>kit_is)
  (case kit_NoRow_NoRow=>kit_is)
  (case kit_NoRow_NoRule=>kit_is)
  (case kit_NoRow_NoPlace=>kit_is)
  (case kit_NoRow_NoKey=>kit_is)
  (case kit_NoRow_NoPaper=>kit_is)
  (case kit_NoRow_NoOrder=>kit_is)
  (case kit_NoRow_TooFar=>kit_is)
  (case kit_NoRow_Spent=>kit_is)
