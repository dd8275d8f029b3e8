import PyProof.Rows.All
import PyProof.Rows.SetFrom
import PyProof.CollectWalk
import PyProof.SetRoads
import PyProof.CollectIter
import Wide.All
import OpenK.AllK
import Wide.FinOn
import Lean
import PyProof.EqAt
import PyProof.EqKinds
import PyProof.TupleCall
import KE.KRevIter
import PyProof.SumWalkG
import PyProof.Rows.SortRuns
import PyProof.Rows.SortShell
import PyProof.Rows.FactsT2
import KE.KDictOf
import PyProof.IsiH_list
import PyProof.RaisesAny
import PyProof.P3In
import KE.KSortTup
import PySem.Challenge.RW_sorthall_k56_whole_asks_of_the_pile
local macro_rules | `(tactic| omega)=>`(tactic| first | with_reducible assumption | lia | omega (splitDisjunctions:=true))
set_option Elab.async false
set_option linter.all false
set_option maxRecDepth 100000
open Nat renaming le_refl→yAA,zero_le→yAG,le_trans→yAL,ne_of_lt→yAM,lt_of_lt_of_le→yAW,le_succ→yBB,sub_self→yBF,le_of_lt→yBJ,lt_succ_self→yBP,lt_irrefl→yBQ,pow_succ→yBS,lt_or_ge→yBT,min_eq_left→yBW,zero_add→yCI,one_le_two_pow→yCQ
open List renaming length_append→yAB,mem_cons_of_mem→yAC,length_map→yAD,mem_cons→yAE,mem_cons_self→yAF,length_cons→yAH,getElem?_eq_some_iff→yAI,getElem?_eq_getElem→yAJ,append_assoc→yAK,mem_singleton→yAO,length_take→yAP,mem_of_getElem?→yAQ,size_toArray→yAR,length_singleton→yAS,getElem?_map→yAT,map_append→yAU,mem_append_right→yAX,getElem?_append_left→yAY,mem_append→yAZ,length_drop→yBA,append_nil→yBC,map_cons→yBD,getElem?_append_right→yBE,getD_eq_getElem?_getD→yBH,getElem?_of_mem→yBI,pairwise_append→yBK,not_mem_nil→yBL,getElem?_eq_none→yBM,take_append_drop→yBO,mem_map→yBR,mem_append_left→yBU,getElem?_take_of_lt→yBY,getElem?_drop→yBZ,length_eq_zero_iff→yCA,pairwise_iff_getElem→yCB,lookup_cons→yCD,length_nil→yCE,take_of_length_le→yCF,nodup_cons→yCG,extract_eq_drop_take→yCH,pairwise_cons→yCJ,ext_getElem?→yCL,length_replicate→yCM,perm_append_comm→yCN,drop_eq_getElem_cons→yCO,length_range'→yCP
open Array renaming length_toList→yAN,getElem?_toList→yAV,getElem?_eq_some_iff→yBN,toList_append→yBV,getElem?_eq_getElem→yBX,toList_extract→yCC
open Bool renaming false_ne_true→yBG
open Option renaming map_some→yCK
namespace L2
open PySem PySem.W
theorem left_boot {p q:Program} {loose:List Str} {Xt:Shared->Bool} {α:Type} {Yf:Shared->α} {Ya:World->α} {N:Nat} {g0:Bool}
  (B:∀ w:World,(fencedOpening treeTable p w N).map (fun s=>(s.heap,s.gens,s.drawn,s.toks))=some (boot_heap w.params,Array.mk [],boot_drawn,boot_toks))
  (h:∀ (w:World) (os:OsState),(topFrom treeTable p w N ⟨boot_heap w.params,Array.mk [],boot_drawn,boot_toks,os⟩).map (fun s=>(openSeen q loose (importedModules p.main.body) Xt g0 s,Yf s))=some (openGood q loose,Ya w)):LeftO p q loose Xt Yf Ya N g0:=fun w=>by
 obtain ⟨⟨hh,gs,d,k,os⟩,e,J⟩:=Option.map_eq_some_iff.mp (B w)
 obtain ⟨rfl,rfl,rfl,rfl⟩:hh=boot_heap w.params /\ gs=Array.mk [] /\ d=boot_drawn /\ k=boot_toks:=by simpa using J
 unfold openEnds
 rw [e]
 exact h w os
theorem left_two {p q:Program} {loose:List Str} {Xt:Shared->Bool} {α:Type} {Yf:Shared->α} {Ya:World->α} {N:Nat} {g0:Bool}
  (B:∀ w:World,(fencedOpening treeTable p w N).map (fun s=>(s.heap,s.gens,s.drawn,s.toks))=some (boot_heap w.params,Array.mk [],boot_drawn,boot_toks))
  (h1:∀ (w:World) (os:OsState),(topFrom treeTable p w N ⟨boot_heap w.params,Array.mk [],boot_drawn,boot_toks,os⟩).map (fun s=>openSeen q loose (importedModules p.main.body) Xt g0 s)=some (openGood q loose))
  (h2:∀ (w:World) (os:OsState),(topFrom treeTable p w N ⟨boot_heap w.params,Array.mk [],boot_drawn,boot_toks,os⟩).map (fun s=>Yf s)=some (Ya w)):LeftO p q loose Xt Yf Ya N g0 :=
 left_boot B fun w os=>by
  have a:=h1 w os
  have b:=h2 w os
  generalize topFrom treeTable p w N ⟨boot_heap w.params,Array.mk [],boot_drawn,boot_toks,os⟩=r at a b
  cases r with
  | none=>cases a
  | some s=>exact congrArg some (Prod.ext (Option.some.inj a) (Option.some.inj b))
noncomputable def s0B (w:World) (os:OsState):Shared:=⟨boot_heap w.params,Array.mk [],boot_drawn,boot_toks,os⟩
noncomputable def ofLB:List Obj->Nat->BT->BT
 | [],_,t=>t
 | o::r,n,t=>ofLB r (n+1) (t.ins n o)
noncomputable def sTB (w:World) (os:OsState):SharedT:=⟨ofLB (boot_heap w.params).objs.toList 0 .nil,(boot_heap w.params).objs.size,(boot_heap w.params).life,Array.mk [],boot_drawn,boot_toks,os⟩
noncomputable def topRunQ (p:Program) (w:World) (n₀:Nat) (ann:Option Value):Nat->SharedT->Thread->Option SharedT
 | 0,_,_=>none
 | n+1,s,t=>match through t with
  | true=>some s
  | false=>match PySem.W.Fast.tw6613529449190102663 n₀ ann t with
   | false=>none
   | true=>match PySem.W.Fast.tw10156331382660048174 (PySem.W.Fast.tw11892475500146522536 PySem.W.Fast.tw14364793385576792824) p w s t with
    | some (s',t')=>topRunQ p w n₀ ann n s' t'
    | none=>none
theorem topRunQ_spec {p:Program} {w:World} {B:Nat} {J:Option Value}:∀ {n:Nat} {s s':SharedT} {t:Thread},topRunQ p w B J n s t=some s'->topRun treeTable p w B J n s.abs t=some s'.abs
 | 0,_,_,_,h=>by cases h
 | n+1,s,s',t,h=>by
  unfold topRunQ at h
  rw [<- PySem.W.Fast.te6613529449190102663,<- PySem.W.Fast.te10156331382660048174,<- PySem.W.Fast.te11892475500146522536,<- PySem.W.Fast.te14364793385576792824] at h
  unfold topRun
  cases he:through t with
  | true=>rw [he] at h;cases h;rfl
  | false=>
   rw [he] at h
   cases hk:stepOk B J t with
   | false=>rw [hk] at h;cases h
   | true=>
    rw [hk] at h
    cases hs:stepT (denote treeTable) p w s t with
    | none=>rw [hs] at h;cases h
    | some r=>obtain ⟨O,U⟩:=r;rw [hs] at h;rw [stepT_spec hs];exact topRunQ_spec h
set_option maxHeartbeats 0 in
theorem sTB_abs:∀ (w:World) (os:OsState),(sTB w os).abs=s0B w os:=by
 intro w os
 kernel_rfl
set_option maxHeartbeats 0 in
theorem s0B_ns:∀ (w:World) (os:OsState),((s0B w os).heap.isNs mainGlobals && (s0B w os).gens.size == 0)=true:=by
 intro w os
 kernel_rfl
noncomputable def topOkB (p:Program) (s₀ s₁:Shared):Bool:=staticsOk (importedModules p.main.body) s₀.heap s₁.heap && namesBound p s₁.heap && gensDone s₁ && laidKept s₀.heap s₁.heap
theorem via_tree {α:Type} {p:Program} {N:Nat} {F:Shared->α} {G:α} (w:World) (os:OsState)
  (h:(topRunQ p w (s0B w os).heap.objs.size ((s0B w os).heap.nsMap mainGlobals "__annotations__") N (sTB w os) (topStub p)).map (fun s=>(topOkB p (s0B w os) s.abs,F s.abs))=some (true,G)):(topFrom treeTable p w N ⟨boot_heap w.params,Array.mk [],boot_drawn,boot_toks,os⟩).map F=some G:=by
 obtain ⟨s',O,U⟩:=Option.map_eq_some_iff.mp h
 have r:=topRunQ_spec O
 rw [sTB_abs] at r
 obtain ⟨B,J⟩:=Prod.mk.inj U
 show (topFrom treeTable p w N (s0B w os)).map F=some G
 unfold topFrom
 rw [s0B_ns w os]
 dsimp only
 rw [r,Option.bind_some]
 unfold topOkB at B
 rw [B]
 exact congrArg some J
noncomputable def vw (p:Program) (ix:List Nat):Program:={ p with main:={ p.main with body:=ix.filterMap fun i=>p.main.body[i]? } }
noncomputable def Vw:Program:=vw PySem.Challenge.pw_sorthall_k56_whole_asks_of_the_pile [0,2,4,5,6,7,8,11,13,16,18,21,22,24,26,27,29,30,31,32,33,34,35,36,37]
set_option maxHeartbeats 0 in
theorem seen1:∀ (w:World) (os:OsState),(topFrom treeTable PySem.Challenge.pw_sorthall_k56_whole_asks_of_the_pile w 5980 ⟨boot_heap w.params,Array.mk [],boot_drawn,boot_toks,os⟩).map (fun s=>openSeen L2.Vw (["stretch_from","filled","by_pile"]:List Str) (importedModules PySem.Challenge.pw_sorthall_k56_whole_asks_of_the_pile.main.body) (fun s=>xlAt L2.Vw [] s && recOk (RowW.records (OpenRow.toRowW (OpenLaw.row PySem.Challenge.rw_sorthall_k56_whole_asks_of_the_pile))) s) true s)=some (openGood L2.Vw (["stretch_from","filled","by_pile"]:List Str)):=by
 intro w os
 refine via_tree w os ?_
 rw [PySem.W.Fast.te4187177175401517315]
 kernel_rfl
local macro_rules | `(tactic| o_law)=>`(tactic| refine holds_law (by decide +kernel) fun said=>?_)
set_option hygiene false in
local macro_rules | `(tactic| o_head $H)=>`(tactic| (refine holds_open (q:=L2.Vw) (loose:=(["stretch_from","filled","by_pile"]:List Str)) (Xt:=fun s=>xlAt L2.Vw [] s && recOk (RowW.records _) s) (XP:=XL L2.Vw []) (Yf:=Hook.obs $H) (Ya:=Hook.val $H) (YP:=Hook.says $H) (N:=5980) ?hl (Hook.of $H) (Hook.keeps $H) (fun s e=>xl_of s (Bool.and_eq_true_iff.mp e).1) XL.keeps (by rfl) (by rfl) (by rfl) (fun s e=>recFacts_of (Bool.and_eq_true_iff.mp e).2) (by rfl) (by first | assumption | decide +kernel) (by decide +kernel) ⟨rfl,rfl,rfl,rfl,rfl,by decide +kernel⟩ ?hw ?hc;(case hl=>(refine L2.left_two (PySem.W.boot_open (by rfl) (by decide) (fun s=>rfl)) (fun w os=>?h1) (fun w os=>?h2);(case h1=>exact L2.seen1 w os);(case h2=>(refine L2.via_tree w os ?_;kernel_rfl))))))
set_option maxHeartbeats 0 in
open_top hd0 for PySem.Challenge.rw_sorthall_k56_whole_asks_of_the_pile
end L2
set_option maxHeartbeats 4000000
namespace PySem
theorem below_go (xs:Array Nat) (j:Nat) (hs:xs.toList.Pairwise (· < ·)):∀ (B lo hi:Nat),hi-lo <= B->lo <= hi->hi <= xs.size ->
  (∀ i,i < lo->∀ a,xs[i]?=some a->a < j)->(∀ i,hi <= i->∀ a,xs[i]?=some a->j <= a) ->
  lo <= SetTable.below.go xs j B lo hi /\ SetTable.below.go xs j B lo hi <= xs.size /\ (∀ i,i < SetTable.below.go xs j B lo hi->∀ a,xs[i]?=some a->a < j) /\ (∀ i,SetTable.below.go xs j B lo hi <= i->∀ a,xs[i]?=some a->j <= a):=by
 intro B
 have mono:∀ i k a b,i < k->xs[i]?=some a->xs[k]?=some b->a < b:=fun i k a b a0 ha hb=>by
  rw [<- yAV] at ha hb
  obtain ⟨h1,e1⟩:=yAI.mp ha
  obtain ⟨h2,e2⟩:=yAI.mp hb
  have:=yCB.mp hs i k h1 h2 a0
  rw [e1,e2] at this
  exact this
 induction B with
 | zero=>
  intro lo hi h1 h2 h3 U O
  have:lo=hi:=by omega
  subst this
  exact ⟨yAA _,h3,U,O⟩
 | succ B ih=>
  intro lo hi h1 h2 h3 U O
  unfold SetTable.below.go
  by_cases hlt:lo < hi
  .rw [if_pos hlt]
   dsimp only
   have hm:(lo+hi) / 2 < xs.size:=by omega
   have J:xs[(lo+hi) / 2]?=some xs[(lo+hi) / 2]:=yBX hm
   have hD:xs.getD ((lo+hi) / 2) j=xs[(lo+hi) / 2]:=by simp [Array.getD,hm]
   rw [hD]
   by_cases hc:xs[(lo+hi) / 2] < j
   .rw [if_pos hc]
    obtain ⟨a1,a2,a3,a4⟩:=ih ((lo+hi) / 2+1) hi (by omega) (by omega) h3 (fun i Z a ha=>by
     by_cases z:i=(lo+hi) / 2
     .rw [z,J] at ha;cases ha;exact hc
     .have:=mono i ((lo+hi) / 2) a _ (by omega) ha J
      omega) O
    exact ⟨by omega,a2,a3,a4⟩
   .rw [if_neg hc]
    exact ih lo ((lo+hi) / 2) (by omega) (by omega) (by omega) U (fun i Z a ha=>by
     by_cases z:i=(lo+hi) / 2
     .rw [z,J] at ha;cases ha;omega
     .have:=mono ((lo+hi) / 2) i _ a (by omega) J ha
      omega)
  .rw [if_neg hlt]
   have:lo=hi:=by omega
   subst this
   exact ⟨yAA _,h3,U,O⟩
theorem ZDi {xs:Array Nat} {j:Nat} (hs:xs.toList.Pairwise (· < ·)):SetTable.below xs j <= xs.size /\ (∀ i,i < SetTable.below xs j->∀ a,xs[i]?=some a->a < j) /\ (∀ i,SetTable.below xs j <= i->∀ a,xs[i]?=some a->j <= a):=by
 obtain ⟨_,h2,h3,B⟩:=below_go xs j hs xs.size 0 xs.size (by omega) (yAG _) (yAA _) (fun i h=>by omega) (fun i h a ha=>by
  have:=(yBN.mp ha).1
  omega)
 exact ⟨h2,h3,B⟩
theorem below_next {xs:Array Nat} {i a:Nat} (hs:xs.toList.Pairwise (· < ·)) (ha:xs[i]?=some a):SetTable.below xs (a+1)=i+1:=by
 obtain ⟨h1,h2,h3⟩:=ZDi (j:=a+1) hs
 have hi:=(yBN.mp ha).1
 have c1:¬ SetTable.below xs (a+1) <= i:=fun z=>by
  have:=h3 i z a ha
  omega
 by_cases c2:i+1 < SetTable.below xs (a+1)
 .have B:xs[i+1]?=some xs[i+1]:=yBX (by omega)
  have U:=h2 (i+1) c2 _ B
  have Z:a < xs[i+1]:=by
   rw [<- yAV] at ha B
   obtain ⟨g1,J⟩:=yAI.mp ha
   obtain ⟨g2,O⟩:=yAI.mp B
   have:=yCB.mp hs i (i+1) g1 g2 (yBP _)
   rw [J,O] at this
   exact this
  omega
 .omega
theorem below_zero {xs:Array Nat} (hs:xs.toList.Pairwise (· < ·)):SetTable.below xs 0=0:=by
 obtain ⟨h1,h2,h3⟩:=ZDi (j:=0) hs
 by_cases z:0 < SetTable.below xs 0
 .have B:xs[0]?=some xs[0]:=yBX (by omega)
  have:=h2 0 z _ B
  omega
 .omega
structure TabOk (L:Bool) (t:SetTable):Prop where
 led:t.led=L
 dm:t.dummies=#[]
 rs:t.place.toList.Pairwise (· < ·)
theorem has_none (j:Nat):SetTable.has #[] j=false:=by
 unfold SetTable.has
 simp
theorem TabOk.fresh (a b:Nat) (L:Bool):TabOk L (.fresh a b L):=⟨rfl,rfl,List.Pairwise.nil⟩
theorem TabOk.standIn {L:Bool} {t:SetTable} (h:TabOk L t) (n:Nat):TabOk L (t.standIn n):=by
 refine ⟨h.led,rfl,?_⟩
 show (Array.range n).toList.Pairwise (· < ·)
 rw [Array.toList_range]
 exact List.pairwise_lt_range
theorem TabOk.orStandIn {L:Bool} {t:SetTable} (h:TabOk L t) (n:Nat):TabOk L (t.orStandIn n):=by
 unfold SetTable.orStandIn
 split
 .exact h
 .exact h.standIn n
theorem TabOk.plain {L:Bool} {t:SetTable} (h:TabOk L t) (b:Bool):TabOk L { t with plain:=b }:=⟨h.led,h.dm,h.rs⟩
theorem TabOk.probe {L:Bool} {t:SetTable} (h:TabOk L t) (f:Nat->Int) (hh:Int):∀ (B:Nat) (p:SetTable.Probe) (j:Nat) (d:Option Nat),SetTable.probe.go t f hh B p=some (.empty j d)->p.dummy=none->d=none /\ t.slot j=.empty:=by
 intro B
 induction B with
 | zero=>intro p j d e _;cases e
 | succ B ih=>
  intro p j d e O
  unfold SetTable.probe.go at e
  have J:(t.advance p).dummy=none:=by
   unfold SetTable.advance
   split
   .exact O
   .exact O
  cases hs:t.slot p.j with
  | empty=>
   rw [hs] at e
   simp only [Option.some.injEq,SetTable.Met.empty.injEq] at e
   obtain ⟨rfl,rfl⟩:=e
   exact ⟨O,hs⟩
  | dummy=>
   exfalso
   unfold SetTable.slot at hs
   dsimp only at hs
   rw [h.dm,has_none] at hs
   split at hs
   .cases hs
   .cases hs
  | live i=>
   rw [hs] at e
   dsimp only at e
   split at e
   .cases e
   .exact ih _ j d e J
theorem insertAt_list {α:Type} (xs:Array α) (p:Nat) (x:α):(SetTable.insertAt xs p x).toList=xs.toList.take p++x::xs.toList.drop p:=by
 unfold SetTable.insertAt
 simp [yCC,yCF]
theorem TabOk.put {L:Bool} {t:SetTable} (h:TabOk L t) {j:Nat} (hs:t.slot j=.empty):TabOk L (t.put j).1:=by
 unfold SetTable.slot at hs
 dsimp only at hs
 obtain ⟨b1,b2,b3⟩:=ZDi (j:=j) h.rs
 have O:t.place[SetTable.below t.place j]?≠some j:=fun z=>by
  rw [z] at hs
  simp at hs
 refine ⟨h.led,?_,?_⟩
 .show (if SetTable.has t.dummies j then _ else t.dummies)=#[]
  rw [h.dm,has_none]
  rfl
 .show (SetTable.insertAt t.place (SetTable.below t.place j) j).toList.Pairwise (· < ·)
  rw [insertAt_list]
  have J:(t.place.toList.take (SetTable.below t.place j)++t.place.toList.drop (SetTable.below t.place j)).Pairwise (· < ·):=by rw [yBO];exact h.rs
  obtain ⟨p1,p2,p3⟩:=yBK.mp J
  have Z:∀ a∈t.place.toList.take (SetTable.below t.place j),a < j:=fun a ha=>by
   obtain ⟨i,hi⟩:=yBI ha
   have hl:=(yAI.mp hi).1
   rw [yAP] at hl
   rw [yBY (by omega),yAV] at hi
   exact b2 i (by omega) a hi
  have B:∀ a∈t.place.toList.drop (SetTable.below t.place j),j < a:=fun a ha=>by
   obtain ⟨i,hi⟩:=yBI ha
   rw [yBZ,yAV] at hi
   have a0:=b3 _ (by omega) a hi
   by_cases z:a=j
   .subst z
    exfalso
    by_cases i0:i=0
    .rw [i0,Nat.add_zero] at hi
     exact O hi
    .obtain ⟨b,U⟩:∃ b,t.place[SetTable.below t.place a]?=some b:=⟨_,yBX (by have:=(yBN.mp hi).1;omega)⟩
     have h1:=b3 _ (yAA _) b U
     rw [<- yAV] at hi U
     obtain ⟨g1,e1⟩:=yAI.mp U
     obtain ⟨g2,e2⟩:=yAI.mp hi
     have:=yCB.mp h.rs _ _ g1 g2 (by omega)
     rw [e1,e2] at this
     omega
   .omega
  refine yBK.mpr ⟨p1,yCJ.mpr ⟨B,p2⟩,fun x hx y hy=>?_⟩
  rcases yAE.mp hy with z | z
  .rw [z];exact Z x hx
  .exact p3 x hx y z
theorem TabOk.layNew {L:Bool} {t:SetTable} (h:TabOk L t) (es:Array (Int×Value)) (hh:Int) (x:Value):TabOk L (layNew t es hh x).2.1:=by
 unfold PySem.layNew
 cases hf:t.freeSlot hh with
 | none=>exact h.standIn _
 | some q=>
  obtain ⟨slot,B⟩:=q
  dsimp only
  refine TabOk.orStandIn (h.put ?_) _
  unfold SetTable.freeSlot at hf
  split at hf
  .rename_i j d hp
   unfold SetTable.probe at hp
   obtain ⟨rfl,h2⟩:=h.probe _ _ _ _ j d hp rfl
   cases hf
   exact h2
  .cases hf
theorem TabOk.relayAll {L:Bool} {t:SetTable} (h:TabOk L t) (es:Array (Int×Value)) (n:Nat):TabOk L (relayAll t es n).2.1:=by
 unfold PySem.relayAll
 cases hr:t.relaid (es.map (·.1)) n with
 | none=>exact h.standIn _
 | some q=>
  obtain ⟨t',U⟩:=q
  dsimp only
  split
  .unfold SetTable.relaid SetTable.laid at hr
   cases ho:SetTable.layClean (SetTable.sizeAbove n-1) (es.map (·.1)) with
   | none=>rw [ho] at hr;cases hr
   | some owner=>
    rw [ho] at hr
    simp only [Option.bind_eq_bind,Option.bind_some,Option.pure_def,Option.some.injEq,Prod.mk.injEq] at hr
    obtain ⟨rfl,_⟩:=hr
    refine ⟨h.led,rfl,?_⟩
    dsimp only
    rw [List.map_filterMap]
    have:(fun j=>Option.map (fun x:Nat×Nat=>x.1) ((owner.getD j none).map (j,·)))=fun j=>(owner.getD j none).map fun _=>j:=by
     funext j
     cases owner.getD j none <;> rfl
    rw [this]
    exact List.pairwise_filterMap.mpr (List.pairwise_lt_range.imp fun {a b} O x B y J=>by
     cases ha:owner.getD a none with
     | none=>rw [ha] at B;cases B
     | some u=>
      cases hb:owner.getD b none with
      | none=>rw [hb] at J;cases J
      | some v=>rw [ha] at B;rw [hb] at J;cases B;cases J;exact O)
  .exact h.standIn _
end PySem
namespace PySem
section
variable {prog:Program} {w:World} {K:Type} [DecidableEq K] (knd:KeyKind prog w K)
noncomputable def Heap.SetOfL (L:Bool) (h:Heap) (a:Addr) (S:K->Bool) (n:Nat):Prop :=
 ∃ o es ep t,h.get? a=some o /\ o.ExactSet /\ o.data=.set es ep t /\ ElemsOf knd es.toList /\ (∀ k,S k=true↔∃ e∈es.toList,knd.is k e.2=true)
  /\ es.size < scanBound /\ t.fits es.size=true /\ es.size=n /\ TabOk L t
variable {knd}
variable {A:Around} {E:Value->Shared->Prop} {s:Shared} {L:Bool}
theorem SetOf_storeL {h:Heap} {a:Addr} {o:Obj} {es:Array (Int×Value)} {ep:Nat} {t:SetTable} (ho:h.get? a=some o) (U:o.ExactSet) (hd:o.data=.set es ep t)
  {B:Array (Int×Value)} {t':SetTable} {S':K->Bool} (O:ElemsOf knd B.toList) (J:∀ k,S' k=true↔∃ e∈B.toList,knd.is k e.2=true) (hb:B.size < scanBound) (hf:t'.fits B.size=true) (hT:TabOk L t') :
  (h.update a (Obj.putSet B t')).get? a=some { o with data:=.set B (ep+1) t' } /\ (h.update a (Obj.putSet B t')).SetOfL knd L a S' B.size:=by
 have Z:(h.update a (Obj.putSet B t')).get? a=some { o with data:=.set B (ep+1) t' }:=by
  have:=Heap.get?_update_self (Obj.putSet B t') ho (by rw [putSet_of B t' hd];rfl)
  rw [putSet_of B t' hd] at this;exact this
 exact ⟨Z,_,B,ep+1,t',Z,U,rfl,O,J,hb,hf,rfl,hT⟩
theorem wpAny_addTailL {g:Bool->Sem Unit} (hg:∀ (b:Bool) (s₁:Shared) (Q':Unit->Shared->Prop),Q' () s₁->wpAny (model prog w) A (g b) Q' E s₁)
  {a:Addr} {o:Obj} {es:Array (Int×Value)} {ep:Nat} {t:SetTable} (ho:s.heap.get? a=some o) (a7:o.ExactSet) (hd:o.data=.set es ep t)
  {B:Array (Int×Value)} {J:SetTable} {S':K->Bool} (a0:ElemsOf knd B.toList) (O:∀ k',S' k'=true↔∃ e∈B.toList,knd.is k' e.2=true)
  (a1:B.size < scanBound) (ad:J.fits B.size=true) (ab:TabOk L J) {wasDummy:Bool} {R:Option Bool->Shared->Prop}
  (h:∀ h',Heap.SameBut a s.heap h'->h'.SetOfL knd L a S' B.size->R (some true) { s with heap:=h' }) :
  wpAny (model prog w) A (do
    storeSet a B J
    if (!wasDummy && J.tooFull)=true then do
      g (relayAll J B (SetTable.grown B.size)).2.2
      storeSet a (relayAll J B (SetTable.grown B.size)).1 (relayAll J B (SetTable.grown B.size)).2.1
      pure (some true)
     else pure (some true)) R E s:=by
 refine wpAny_bind (wpAny_storeSet_of ho hd ?_ (fits_of_scanBound a1))
 obtain ⟨a9,ae⟩:=SetOf_storeL (knd:=knd) ho a7 hd a0 O a1 ad ab
 have Z:=Heap.SameBut.update s.heap a (Obj.putSet B J)
 split
 ·
  have hp:=relayAll_perm J B (SetTable.grown B.size)
  have a3:=relayAll_fits J B (SetTable.grown B.size)
  have a4:=ab.relayAll B (SetTable.grown B.size)
  generalize hRl:relayAll J B (SetTable.grown B.size)=Rl at hp a3 a4 ⊢
  obtain ⟨U,t3,ac⟩:=Rl
  dsimp only at hp a3 a4 ⊢
  have a6:ElemsOf knd U.toList:=a0.perm hp
  have a2:∀ k',S' k'=true↔∃ e∈U.toList,knd.is k' e.2=true:=fun k'=>(O k').trans ⟨fun ⟨e,he,q⟩=>⟨e,hp.mem_iff.mpr he,q⟩,fun ⟨e,he,q⟩=>⟨e,hp.mem_iff.mp he,q⟩⟩
  have a8:U.size=B.size:=by rw [<- yAN,hp.length_eq,yAN]
  have a5:U.size < scanBound:=by rw [a8];exact a1
  refine wpAny_bind (hg _ _ _ ?_)
  refine wpAny_bind (wpAny_storeSet_of a9 rfl ?_ (fits_of_scanBound a5))
  obtain ⟨_,aa⟩:=SetOf_storeL (knd:=knd) a9 a7 rfl a6 a2 a5 a3 a4
  rw [a8] at aa
  exact wpAny_pure (h _ (Z.trans (Heap.SameBut.update _ a _)) aa)
 .exact wpAny_pure (h _ Z ae)
theorem wpAny_setAddHashed_ofL {a:Addr} {S:K->Bool} {n:Nat} {k:K} {x:Value} {Q:Bool->Shared->Prop} (a1:knd.is k x=true) (a9:x.scannable=true) (hS:s.heap.SetOfL knd L a S n)
  (aa:n+1 < scanBound)
  (h:∀ h',Heap.SameBut a s.heap h'->h'.SetOfL knd L a (fun k'=>S k' || decide (k'=k)) (if S k then n else n+1)->Q (!S k) { s with heap:=h' }) :
  wpAny (model prog w) A (setAddHashed a x (knd.hash k)) Q E s:=by
 obtain ⟨o,es,ep,t,ho,ab,hd,a5,O,hb,hf,hn,hT⟩:=hS
 have ad:es.size+1 < scanBound:=by rw [hn];exact aa
 unfold setAddHashed setAddHashedIn
 refine wpAny_holding (wpAny_bind (wpAny_setState_of ho hd hf ?_))
 dsimp only
 rw [byScan_of a9 hb a5]
 simp only [↓reduceIte]
 unfold setAddByScan
 refine wpAny_bind ?_
 refine wpAny_bind (wpAny_rule ?_)
 refine wpAny_bind (wpAny_setScan_of a1 ho hd hf a5 ?_)
 cases hr:List.findIdx? (fun e=>knd.is k e.2) es.toList with
 | some j=>
  dsimp only
  obtain ⟨hj,ae,_⟩:=List.findIdx?_eq_some_iff_getElem.mp hr
  have a3:S k=true:=(O k).mpr ⟨es.toList[j],List.getElem_mem hj,ae⟩
  refine wpAny_pure (wpAny_pure ?_)
  have e:s={ s with heap:=s.heap }:=by cases s;rfl
  have:=h s.heap (Heap.SameBut.refl a s.heap) ⟨o,es,ep,t,ho,ab,hd,a5,fun k'=>by
   rw [Bool.or_eq_true,decide_eq_true_eq,<- O k']
   exact ⟨fun hk=>hk.elim id (fun e=>e ▸ a3),.inl⟩,hb,hf,by rw [a3];exact hn,hT⟩
  rw [a3] at this;rw [e];exact this
 | none=>
  dsimp only
  have a3:S k=false:=by
   cases hk:S k with
   | false=>rfl
   | true=>obtain ⟨e,he,hp⟩:=(O k).mp hk;have:=List.findIdx?_eq_none_iff.mp hr e he;rw [hp] at this;exact Bool.noConfusion this
  have af:∀ (b:Bool) {s₁:Shared} {Q':Unit->Shared->Prop},Q' () s₁->wpAny (model prog w) A (match b with | true=>rule "set.scan.the-table-gave-way" | false=>pure ()) Q' E s₁ :=
   fun b s₁ Q' hq=>by cases b <;> first | exact wpAny_pure hq | exact wpAny_rule hq
  have B:=layNew_perm t es (knd.hash k) x
  have J:=layNew_fits t es (knd.hash k) x
  have a2:=hT.layNew es (knd.hash k) x
  generalize hLL:layNew t es (knd.hash k) x=LL at B J a2 ⊢
  obtain ⟨a0,t1,wasDummy,ag⟩:=LL
  dsimp only at B J a2 ⊢
  rw [Array.toList_push] at B
  have a6:ElemsOf knd a0.toList:=(a5.push a1 a9).perm B
  have a4:∀ k',(S k' || decide (k'=k))=true↔∃ e∈a0.toList,knd.is k' e.2=true:=mem_push_iff a1 O B
  have a8:a0.size < scanBound:=by rw [<- yAN,B.length_eq,yAB,yAN];simpa using ad
  refine wpAny_bind (af _ ?_)
  have ac:a0.size=n+1:=by rw [<- yAN,B.length_eq,yAB,yAN,hn];rfl
  have a7:∀ h',Heap.SameBut a s.heap h'->h'.SetOfL knd L a (fun k'=>S k' || decide (k'=k)) a0.size->Q true { s with heap:=h' }:=by
   intro h' Z U;have:=h h' Z;rw [a3] at this;rw [ac] at U;exact this U
  split
  .refine wpAny_bind ?_
   rw [hashByValue_scannable 8 a9]
   refine wpAny_pure ?_
   refine wpAny_addTailL (L:=L) (wasDummy:=wasDummy) ?_ ho ab hd a6 a4 a8 ?_ ?_ ?_
   .intro b s₁ Q' hq;cases b <;> first | exact wpAny_pure hq | exact wpAny_rule hq
   .split
    .exact J
    .exact SetTable.fits_plain_off J
   .split
    .exact a2
    .exact a2.plain false
   .intro h' Z U;dsimp only;exact wpAny_pure (a7 h' Z U)
  .refine wpAny_bind (wpAny_pure ?_)
   simp only [↓reduceIte]
   refine wpAny_addTailL (L:=L) (wasDummy:=wasDummy) ?_ ho ab hd a6 a4 a8 J a2 ?_
   .intro b s₁ Q' hq;cases b <;> first | exact wpAny_pure hq | exact wpAny_rule hq
   .intro h' Z U;dsimp only;exact wpAny_pure (a7 h' Z U)
end
end PySem
namespace PyProof.Rows
open PySem PySem.Spec
theorem SetOf_congrL {prog:Program} {w:World} {K:Type} [DecidableEq K] [BEq K] [LawfulBEq K] {knd:PySem.KeyKind prog w K} {L:Bool} {h:Heap} {a:Addr} {S S':K->Bool} {n n':Nat}
  (B:h.SetOfL knd L a S n) (e:∀ k,S k=S' k) (J:n=n'):h.SetOfL knd L a S' n':=by
 have:S=S':=funext e
 subst this;subst J;exact B
section
variable {prog:Program} {w:World} {A:Around} {R:Result->Shared->Prop} {I:Addr} {fp wr:List Addr} {G:Array GenState->Array GenState->Prop} {n:Nat} {P:Nat->Value->Prop} {St:Nat->Shared->Prop} {L:Bool}
theorem codeAny_set_update_loopSL (W:WalksS prog w A.in1 I fp wr G n P St) (S:Addr) (a3:S∉fp)
  (val:Nat->Int) (a2:∀ i v,P i v->∃ t,v=.int (val i) t) (Z:n+1 < scanBound) :
  ∀ (k i:Nat) (s:Shared),n-i=k->i <= n->St i s ->
   s.heap.SetOfL (intKind prog w) L S (fun J=>(firstMet val i).any (· == J)) (firstMet val i).length ->
   (∀ s',Moved (S::wr) G s s'->s'.heap.SetOfL (intKind prog w) L S (fun J=>(firstMet val n).any (· == J)) (firstMet val n).length->R (.ok (.ret .none)) s') ->
   codeAny (model prog w) A (.builtin "set.update.loop" ⟨[.ref S,.ref I],[]⟩) R s:=by
 have a4:S∉wr:=fun h=>a3 (W.sub _ h)
 have B:∀ b∈wr,b∈S::wr:=fun b Z=>yAC _ Z
 intro k
 induction k with
 | zero=>
  intro i s hk hi U hS hR
  have ac:i=n:=by omega
  subst ac
  refine codeAny_builtin F.entry_set_update_loop ?_
  rw [Around.under_plainId F.plain_set_update_loop _]
  show wpAny _ A.in1 (pyNext (.ref I) >>= _) _ _ s
  refine wpAny_bind (W.done s _ _ U fun s' hm=>?_)
  show wpAny _ A.in1 (ret Value.none) _ _ s'
  exact wpAny_pure (hR s' (hm.mono B) (by
   obtain ⟨o,es,ep,t,ho,rest⟩:=hS
   exact ⟨o,es,ep,t,hm.heap S _ a4 ho,rest⟩))
 | succ k ih=>
  intro i s hk hi U hS hR
  have a7:i < n:=by omega
  refine codeAny_builtin F.entry_set_update_loop ?_
  rw [Around.under_plainId F.plain_set_update_loop _]
  show wpAny _ A.in1 (pyNext (.ref I) >>= _) _ _ s
  refine wpAny_bind (W.item i s _ _ a7 U fun v s' hP a6 hm=>?_)
  obtain ⟨t,rfl⟩:=a2 i v hP
  have a8:s'.heap.SetOfL (intKind prog w) L S (fun J=>(firstMet val i).any (· == J)) (firstMet val i).length:=by
   obtain ⟨o,es,ep,tb,ho,rest⟩:=hS
   exact ⟨o,es,ep,tb,hm.heap S _ a4 ho,rest⟩
  show wpAny _ A.in1 (holding [Value.int (val i) t] (setAdd S (.int (val i) t)) >>= _) _ _ s'
  refine wpAny_bind (wpAny_holding ?_)
  unfold setAdd
  refine wpAny_holding ?_
  refine wpAny_bind ((intKind prog w).pyHash (k:=val i) (intKind_is _ _ _ _) ?_)
  have O:(firstMet val i).length+1 < scanBound:=by have:=firstMet_length_le val i;omega
  refine wpAny_setAddHashed_ofL (knd:=intKind prog w) (s:={ s' with toks:=s'.toks+1 }) (intKind_is _ _ _ _) rfl a8 O fun h' a5 ab=>?_
  have a9:h'.SetOfL (intKind prog w) L S (fun J=>(firstMet val (i+1)).any (· == J)) (firstMet val (i+1)).length :=
   SetOf_congrL ab (fun J=>by rw [firstMet_succ,step_any]) (by rw [firstMet_succ,step_length])
  refine wpAny_pure ⟨plainId_quiet F.plain_set_update_loop _,ih (i+1) _ (by omega) a7 (W.frame _ s' _ _ a6 (yBB _) fun b Z o e=>?_) a9 fun aa a1 a0=>?_⟩
  .rw [a5.2 b (fun h:b=S=>a3 (by rw [<- h];exact Z))];exact e
  .refine hR aa (Moved.trans W.gtrans ((hm.mono B).then_heap (yBB _) fun b o Z e=>?_) a1) a0
   rw [a5.2 b (fun h:b=S=>Z (by rw [h];exact yAF))];exact e
end
end PyProof.Rows
namespace PySem
section
variable {prog:Program} {w:World} {A:Around} {E:Value->Shared->Prop} {s:Shared}
noncomputable abbrev ledW (w:World):Bool:=!(w.params.followText "set-order")
theorem code_set_new_1L (a:Value) {Q₁:Value->Shared->Prop}
  (h:Q₁ (.ref s.heap.objs.size) { s with heap:=s.heap.push { cls:=.type "set",dict:=none,data:=.set #[] 0 (.fresh 0 0 (ledW w)) } }) :
  codeAny (model prog w) A (.call (.builtin "set.__new__") ⟨[.type "set",a],[]⟩) (wants Q₁ E) s:=by
 refine codeAny_of_tree ?_
 show wpAny _ A.in1 (do checkBuiltinCall "set.__new__" ⟨[.type "set",a],[]⟩;again (.builtin "set.__new__" ⟨[.type "set",a],[]⟩)) _ _ s
 refine wpAny_bind (wpAny_of_eq (F.newCall_set_1 a) (wpAny_pure ⟨plainId_quiet F.plain_set_new _,codeAny_builtin F.entry_set_new ?_⟩))
 rw [Around.under_plainId F.plain_set_new _]
 unfold Builtin.«set.__new__» Builtin.Frozenset.newClass
 have B:=sub_set_self
 obtain ⟨J,g,d,tk,os⟩:=s
 dsimp only
 wp_walk
 refine wpAny_askSetting (wpAny_pure ?_)
 dsimp only
 simp only [newObj]
 refine wpAny_bind (wpAny_alloc (wpAny_pure ?_))
 exact wpAny_pure h
set_option maxRecDepth 100000 in
set_option maxHeartbeats 3200000 in
theorem call_set_listL {l:Addr} {items:Array Value} {ns:List Int} {Q:Value->Shared->Prop}
  (hh:A.handled=none) (hl:s.heap.IsList l items) (hi:PyProof.Rows.IntsAre items.toList ns) (hb:items.size+1 < scanBound)
  (h:∀ (h':Heap) (tk:Nat),h'.SetOfL (intKind prog w) (ledW w) s.heap.objs.size (fun k'=>(PyProof.Rows.firstMet (fun i=>ns.getD i 0) items.size).any (· == k')) (PyProof.Rows.firstMet (fun i=>ns.getD i 0) items.size).length ->
   (∀ b o,b < s.heap.objs.size->s.heap.get? b=some o->h'.get? b=some o)->Q (.ref s.heap.objs.size) { s with heap:=h',toks:=tk }) :
  wpAny (model prog w) A (call (.type "set") [.ref l]) Q E s:=by
 obtain ⟨c,tl,ao⟩:=F.called_set.mro
 have af:=F.called_set.made
 have am:=F.called_set.sub
 refine wpAny_call (codeAny_of_tree ?_)
 show wpAny _ _ (callAny (.type "set") _) _ _ _
 refine wpAny_pure ⟨Code.quiet_builtin _ (by decide +kernel),codeAny_builtin F.entry_type_call ?_⟩
 rw [Around.under_plain (weight_type_call_type "set" [.ref l] []) rfl]
 have h1:=F.called_set.notType
 have h2:=F.called_set.canCreate
 have ar:=F.typeCall_set_1 (.ref l)
 repeat (any_goals (first | assumption | wp_step))
 refine codeAny_mono (code_set_new_1L (.ref l) (E:=E) (Q₁:=fun obj s₁=>∃ B:Bool,B=ledW w /\ obj=.ref s.heap.objs.size /\ s₁={ s with heap:=s.heap.push { cls:=.type "set",dict:=none,data:=.set #[] 0 (.fresh 0 0 B) } }) ⟨_,rfl,rfl,rfl⟩) fun r s₁ hr=>?_
 cases r with
 | error e=>exact hr
 | ok fl=>
  cases fl with
  | ret obj=>
   obtain ⟨B,a4,rfl,rfl⟩:=hr
   have hS:(s.heap.push { cls:=.type "set",dict:=none,data:=.set #[] 0 (.fresh 0 0 B) }).get? s.heap.objs.size=some { cls:=.type "set",dict:=none,data:=.set #[] 0 (.fresh 0 0 B) }:=Heap.get?_push_size _ rfl
   have hT:Shared.TypeIs { s with heap:=s.heap.push { cls:=.type "set",dict:=none,data:=.set #[] 0 (.fresh 0 0 B) } } (.ref s.heap.objs.size) "set":=⟨_,hS,rfl⟩
   have aq:=F.called_set.init.lookup
   have av:=F.called_set.init.bind (.ref s.heap.objs.size)
   repeat (any_goals (first | assumption | wp_step))
   refine codeAny_mono (codeAny_call_builtin (R:=wants (fun r U=>r=.none /\ ∃ h' tk,U={ s with heap:=h',toks:=tk } /\
     h'.SetOfL (intKind prog w) (ledW w) s.heap.objs.size (fun k'=>(PyProof.Rows.firstMet (fun i=>ns.getD i 0) items.size).any (· == k')) (PyProof.Rows.firstMet (fun i=>ns.getD i 0) items.size).length /\
     (∀ b o,b < s.heap.objs.size->s.heap.get? b=some o->h'.get? b=some o)) E) F.called_set.init.plain F.entry_set_init (check_set_init_1 hT ?_)) fun a2 U J=>?_
   .obtain ⟨ol,a7,a9,nl,aa⟩:=hl
    obtain ⟨an,Z,ai,O⟩:=ol
    simp only at a9 aa
    subst a9;subst aa
    have a1:(s.heap.push { cls:=.type "set",dict:=none,data:=.set #[] 0 (.fresh 0 0 B) }).get? l=some { cls:=.type "list",dict:=Z,data:=.seq items nl,slots:=O }:=Heap.get?_push_of_some _ a7
    have al:=F.sub_list_set
    have ap:=F.sub_list_frozenset
    have au:(Value.type "list" == Value.type "dict")=false:=by decide
    have a6:(s.heap.push { cls:=.type "set",dict:=none,data:=.set #[] 0 (.fresh 0 0 B) }).IsList l items:=⟨_,a1,rfl,nl,rfl⟩
    unfold Builtin.«set.__init__» noKeywords Builtin.Frozenset.updateFrom
    generalize hPI:pyIter=PI
    wp_walk
    subst hPI
    refine wpAny_pyIter_list a6 ?_
    refine wpAny_bind (wpAny_runValue ?_)
    have ab:l < s.heap.objs.size:=Heap.lt_size a7
    have aj:A.in1.in1.in1.handled=none:=by simp [hh]
    have a3:l≠(s.heap.push { cls:=.type "set",dict:=none,data:=.set #[] 0 (.fresh 0 0 B) }).objs.size:=by
     rw [Heap.size_push];exact yAM (Nat.lt_succ_of_lt ab)
    have ad:s.heap.objs.size∉[(s.heap.push { cls:=.type "set",dict:=none,data:=.set #[] 0 (.fresh 0 0 B) }).objs.size,l]:=by
     rw [Heap.size_push];simp only [yAE,yAO,yBL,or_false,not_or]
     exact ⟨yAM (yBP _),Nat.ne_of_gt ab⟩
    have a8:∀ (i:Nat) (v:Value),items[i]?=some v->∃ t,v=.int ((fun i=>ns.getD i 0) i) t:=fun i v hv=>
     PyProof.Rows.IntsAre.int_at hi i v (by rw [yAV];exact hv)
    refine PyProof.Rows.codeAny_set_update_loopSL (L:=ledW w) ((Walks.list aj _ l a3 items).toS) s.heap.objs.size
     ad (fun i=>ns.getD i 0) a8 hb (items.size-0) 0 _ (by omega) (yAG _)
     ⟨⟨_,Heap.get?_push_size _ rfl,rfl,rfl⟩,(a6.push _)⟩ ?hS0 ?hR
    case hS0=>
     have a5:((s.heap.push { cls:=.type "set",dict:=none,data:=.set #[] 0 (.fresh 0 0 B) }).push { cls:=.type "list_iterator",data:=.fields #[.ref l,.int 0 0] }).get? s.heap.objs.size
      =some { cls:=.type "set",dict:=none,data:=.set #[] 0 (.fresh 0 0 B) }:=Heap.get?_push_of_some _ hS
     exact PyProof.Rows.SetOf_congrL (S:=fun _=>false) (n:=0) ⟨_,#[],0,_,a5,⟨rfl,rfl,rfl⟩,rfl,fun e he=>by simp at he,fun k=>by simp,by decide,by rfl,rfl,a4 ▸ TabOk.fresh 0 0 B⟩ (fun _=>rfl) rfl
    case hR=>
     intro s' hm a0
     obtain ⟨h',g',d',ae,os'⟩:=s'
     have eg:g'=s.gens:=hm.gens
     have ed:d'=s.drawn:=hm.drawn
     have eo:os'=s.os:=hm.os
     subst eg;subst ed;subst eo
     show wpAny _ _ _ _ _ _
     refine wpAny_pure ?_
     show wpAny _ _ (ret Value.none) _ _ _
     refine wpAny_pure ⟨rfl,h',ae,rfl,a0,fun b o hb e=>?_⟩
     have ah:b≠s.heap.objs.size:=yAM hb
     have ac:b≠(s.heap.push { cls:=.type "set",dict:=none,data:=.set #[] 0 (.fresh 0 0 B) }).objs.size:=by
      rw [Heap.size_push];exact yAM (Nat.lt_succ_of_lt hb)
     exact hm.heap b o (by simp only [yAE,yAO,yBL,or_false,not_or];exact ⟨ah,ac⟩) (Heap.get?_push_of_some _ (Heap.get?_push_of_some _ e))
   .cases a2 with
    | error e=>exact J
    | ok fl₂=>
     cases fl₂ with
     | ret r=>
      obtain ⟨rfl,h',tk,rfl,a0,ag⟩:=J
      repeat (any_goals (first | assumption | wp_step))
      exact h _ _ a0 ag
     | _=>exact J.elim
  | _=>exact hr.elim
end
end PySem
namespace PySem
namespace F
theorem owner_set_iterator:Manifest.owners.lookup (String.ofList ['r','o','t','a','r','e','t','i','_','t','e','s'].reverse)=some Manifest.sig_set_iterator:=by kernel_rfl
theorem slot_set_iterator_next:Slot "set_iterator" "__next__" "set_iterator.__next__" :=
 .of (owner:="set_iterator") (n:="__next__") (by rw [typeLookup_type,builtinLookup_eq_fast];kernel_rfl) (by decide +kernel) (by decide +kernel) (by decide +kernel)
  (by first | exact .inl (by decide +kernel) | exact .inr (by decide +kernel)) (by rw [isSubtype_type];kernel_rfl)
theorem slot_set_iterator_iter:Slot "set_iterator" "__iter__" "set_iterator.__iter__" :=
 .of (owner:="set_iterator") (n:="__iter__") (by rw [typeLookup_type,builtinLookup_eq_fast];kernel_rfl) (by decide +kernel) (by decide +kernel) (by decide +kernel)
  (by first | exact .inl (by decide +kernel) | exact .inr (by decide +kernel)) (by rw [isSubtype_type];kernel_rfl)
theorem entry_set_iterator_next:entryFor table "set_iterator.__next__"=some Builtin.«set_iterator.__next__»:=entryFor_of_tree (by kernel_rfl)
theorem entry_set_iterator_iter:entryFor table "set_iterator.__iter__"=some Builtin.«dict_keyiterator.__iter__» :=
 entryFor_alias (id':="dict_keyiterator.__iter__") (by kernel_rfl) rfl (by decide +kernel) (by kernel_rfl)
theorem entry_set_iter:entryFor table "set.__iter__"=some Builtin.«frozenset.__iter__» :=
 entryFor_alias (id':="frozenset.__iter__") (by kernel_rfl) rfl (by decide +kernel) (by kernel_rfl)
theorem args_set_iterator_next_1 (a:Value):argsOk "set_iterator.__next__" ⟨[a],[]⟩:=by
 unfold argsOk;rw [signature?_of (id:="set_iterator.__next__") (n:=['_','_','t','x','e','n','_','_']) (o:=['r','o','t','a','r','e','t','i','_','t','e','s']) (by kernel_rfl) owner_set_iterator];kernel_rfl
theorem args_set_iterator_iter_1 (a:Value):argsOk "set_iterator.__iter__" ⟨[a],[]⟩:=by
 unfold argsOk;rw [signature?_of (id:="set_iterator.__iter__") (n:=['_','_','r','e','t','i','_','_']) (o:=['r','o','t','a','r','e','t','i','_','t','e','s']) (by kernel_rfl) owner_set_iterator];kernel_rfl
end F
theorem ZCo {α:Type}:∀ (l:List α) (i:Nat) (h:i < l.length),(l[i]::l.eraseIdx i).Perm l
 | x::l,0,_=>List.Perm.refl _
 | x::l,i+1,h=>(List.Perm.swap x _ _).trans (List.Perm.cons x (ZCo l i (Nat.lt_of_succ_lt_succ h)))
theorem pickGo_perm {α:Type} (next:Nat->Nat):∀ (B k:Nat) (left:List α) (out:Array α),left.length=B->∃ ys:List α,ys.Perm left /\ (pickOrder.go next B k left out).toList=out.toList++ys:=by
 intro B
 induction B with
 | zero=>
  intro k left out h
  have:left=[]:=yCA.mp h
  subst this
  exact ⟨[],List.Perm.refl _,by simp [pickOrder.go]⟩
 | succ B ih=>
  intro k left out h
  have J:next k % left.length < left.length:=Nat.mod_lt _ (by omega)
  obtain ⟨ys,h1,h2⟩:=ih (k+1) (left.eraseIdx (next k % left.length)) (out.push left[next k % left.length]) (by rw [List.length_eraseIdx_of_lt J];omega)
  refine ⟨left[next k % left.length]::ys,(List.Perm.cons _ h1).trans (ZCo _ _ J),?_⟩
  unfold pickOrder.go
  rw [yAJ J]
  dsimp only
  rw [h2]
  simp
theorem pickOrder_perm {α:Type} (next:Nat->Nat) (xs:Array α):(pickOrder next xs).toList.Perm xs.toList:=by
 obtain ⟨ys,h1,h2⟩:=pickGo_perm next xs.size 0 xs.toList #[] (by simp)
 unfold pickOrder
 rw [h2]
 simpa using h1
section
variable {prog:Program} {w:World} {A:Around} {E:Value->Shared->Prop} {s:Shared}
theorem wpAny_chooseN {B:Source} {n:Nat} {Q:Nat->Shared->Prop} (hn:n≠0) (h:∀ i d,i < n->Q i { s with drawn:=d }):wpAny (model prog w) A (choose B n) Q E s :=
 fun _ _ _=>⟨hn,h _ _ (Nat.mod_lt _ (Nat.pos_of_ne_zero hn))⟩
theorem wpAny_drawOrder {α:Type}:∀ (n:Nat) (xs:List α) (s:Shared) (Q:List α->Shared->Prop),n=xs.length->(∀ ys d,ys.Perm xs->Q ys { s with drawn:=d })->wpAny (model prog w) A (drawOrder n xs) Q E s:=by
 intro n
 induction n with
 | zero=>
  intro xs s Q h B
  have:xs=[]:=yCA.mp h.symm
  subst this
  unfold drawOrder
  exact wpAny_pure (B [] s.drawn (List.Perm.refl _))
 | succ n ih=>
  intro xs s Q h B
  cases xs with
  | nil=>cases h
  | cons x0 xs=>
   unfold drawOrder
   refine wpAny_bind (wpAny_chooseN (by simp) fun i d hi=>?_)
   rw [yAJ hi]
   dsimp only
   refine wpAny_bind (ih _ _ _ (by rw [List.length_eraseIdx_of_lt hi];omega) fun ys d' J=>?_)
   exact wpAny_pure (B _ d' ((List.Perm.cons _ J).trans (ZCo _ _ hi)))
structure NextOk (prog:Program) (w:World) (S:Addr) (o:Obj) (ep:Nat) (sl:Nat->Nat) (xs:List Value):Prop where
 item:∀ (A:Around) (E:Value->Shared->Prop) (s:Shared) (Q:Option (Value×Nat)->Shared->Prop) (i:Nat) (x:Value),s.heap.get? S=some o->xs[i]?=some x->Q (some (x,sl (i+1))) s->wpAny (model prog w) A (setNext S (sl i) i ep) Q E s
 done:∀ (A:Around) (E:Value->Shared->Prop) (s:Shared) (Q:Option (Value×Nat)->Shared->Prop),s.heap.get? S=some o->Q none s->wpAny (model prog w) A (setNext S (sl xs.length) xs.length ep) Q E s
theorem NextOk.byText {S:Addr} {o:Obj} {es:Array (Int×Value)} {ep:Nat} {t:SetTable} (hd:o.data=.set es ep t) (hf:t.fits es.size=true) (Z:w.params.followText "set-order"=true) :
  NextOk prog w S o ep (fun _=>0) ((pickOrder (w.params.setOrder S ep) es).toList.map (·.2)):=by
 have O:∀ (A:Around) (E:Value->Shared->Prop) (s:Shared) (Q:Option (Value×Nat)->Shared->Prop) (i:Nat),s.heap.get? S=some o->Q (((pickOrder (w.params.setOrder S ep) es)[i]?).map fun e=>(e.2,0)) s->wpAny (model prog w) A (setNext S 0 i ep) Q E s:=fun A E s Q i J U=>by
  unfold setNext
  refine wpAny_bind (wpAny_setState_of J hd hf ?_)
  dsimp only
  refine wpAny_bind ?_
  unfold setsByText
  refine wpAny_bind (wpAny_askSetting (wpAny_pure ?_))
  rw [show (model prog w).w.params.followText "set-order"=true from Z]
  simp only [↓reduceIte]
  rw [if_neg (by simp)]
  refine wpAny_bind ?_
  unfold setWalk
  refine wpAny_bind (wpAny_setState_of J hd hf ?_)
  dsimp only
  refine wpAny_bind ?_
  unfold setsByText
  refine wpAny_bind (wpAny_askSetting (wpAny_pure ?_))
  rw [show (model prog w).w.params.followText "set-order"=true from Z]
  simp only [↓reduceIte]
  refine wpAny_bind (wpAny_askSetting (wpAny_pure ?_))
  exact wpAny_pure U
 refine ⟨fun A E s Q i x J B U=>O A E s Q i J ?_,fun A E s Q J U=>O A E s Q _ J ?_⟩
 .rw [yAT,yAV] at B
  cases he:(pickOrder (w.params.setOrder S ep) es)[i]? with
  | none=>rw [he] at B;cases B
  | some e=>
   rw [he] at B
   simp only [yCK,Option.some.injEq] at B ⊢
   rw [B]
   exact U
 .rw [Array.getElem?_eq_none (by simp)]
  exact U
theorem NextOk.placed {S:Addr} {o:Obj} {es:Array (Int×Value)} {ep:Nat} {t:SetTable} (hd:o.data=.set es ep t) (hf:t.fits es.size=true) (a1:w.params.followText "set-order"=false)
  (a0:(!t.plain && decide (es.size > 1))=false) (hT:TabOk true t) :
  NextOk prog w S o ep (fun i=>match i with | 0=>0 | j+1=>t.place.getD j 0+1) (es.toList.map (·.2)):=by
 have a2:t.place.size=es.size:=by
  simp only [SetTable.fits,Bool.and_eq_true,beq_iff_eq,decide_eq_true_eq] at hf
  exact hf.1
 have Z:∀ (A:Around) (E:Value->Shared->Prop) (s:Shared) (Q:Option (Value×Nat)->Shared->Prop) (sl i:Nat),s.heap.get? S=some o->Q (match es[SetTable.below t.place sl]?,t.place[SetTable.below t.place sl]? with | some (_,x),some j=>some (x,j+1) | _,_=>none) s->wpAny (model prog w) A (setNext S sl i ep) Q E s:=fun A E s Q sl i U J=>by
  unfold setNext
  refine wpAny_bind (wpAny_setState_of U hd hf ?_)
  dsimp only
  refine wpAny_bind ?_
  unfold setsByText
  refine wpAny_bind (wpAny_askSetting (wpAny_pure ?_))
  rw [show (model prog w).w.params.followText "set-order"=false from a1]
  simp only [Bool.false_eq_true,↓reduceIte]
  rw [if_neg (show ¬ (_=true) from by
   show ¬ ((!t.plain && decide (es.size > 1))=true)
   rw [a0]
   exact yBG)]
  refine wpAny_bind ?_
  show wpAny _ _ (if (!t.led && !es.isEmpty)=true then _ else _) _ _ _
  rw [if_neg (by rw [hT.led];simp)]
  exact wpAny_pure (wpAny_pure J)
 have B:∀ i,i <= es.size->SetTable.below t.place (match i with | 0=>0 | j+1=>t.place.getD j 0+1)=i:=fun i hi=>by
  cases i with
  | zero=>exact below_zero hT.rs
  | succ j=>
   have hj:j < t.place.size:=by omega
   refine below_next hT.rs ?_
   rw [yBX hj]
   simp [Array.getD,hj]
 refine ⟨fun A E s Q i x U O J=>Z A E s Q _ i U ?_,fun A E s Q U J=>Z A E s Q _ _ U ?_⟩
 .rw [yAT,yAV] at O
  have hi:i < es.size:=by
   rcases yBT i es.size with h | h
   .exact h
   .rw [Array.getElem?_eq_none h] at O;cases O
  rw [B i (yBJ hi)]
  rw [yBX hi] at O ⊢
  rw [yBX (show i < t.place.size by omega)]
  simp only [yCK,Option.some.injEq] at O
  dsimp only
  rw [O]
  have e:t.place.getD i 0=t.place[i]'(by omega):=by simp [Array.getD,show i < t.place.size by omega]
  dsimp only at J
  rw [e] at J
  exact J
 .have el:(es.toList.map (·.2)).length=es.size:=by simp
  rw [el,B _ (yAA _),Array.getElem?_eq_none (yAA _)]
  exact J
noncomputable def Heap.IsSetIter (h:Heap) (it S:Addr) (first:Value) (i n ep:Nat):Prop :=
 ∃ o,h.get? it=some o /\ o.cls=.type "set_iterator" /\ o.data=.fields #[first,.int i 0,.ref S,.int n 0,.int ep 0]
theorem Heap.IsSetIter.typeIs {it S:Addr} {first:Value} {i n ep:Nat} (x:s.heap.IsSetIter it S first i n ep):s.TypeIs (.ref it) "set_iterator" :=
 let ⟨o,ho,hc,_⟩:=x;⟨o,ho,hc⟩
theorem wpAny_pyIter_setiter {it S:Addr} {first:Value} {i n ep:Nat} {Q:Value->Shared->Prop} (B:s.heap.IsSetIter it S first i n ep) (h:Q (.ref it) s):wpAny (model prog w) A (pyIter (.ref it)) Q E s:=by
 refine wpAny_pyIter_slot B.typeIs F.slot_set_iterator_iter (wpAny_call_entry F.slot_set_iterator_iter B.typeIs F.entry_set_iterator_iter ?_ (F.args_set_iterator_iter_1 _))
 show wpAny _ _ (ret (.ref it)) _ _ s
 exact wpAny_pure ⟨_,rfl,"set_iterator",_,B.typeIs,F.slot_set_iterator_next.lookup,h⟩
theorem next_slot {it S:Addr} {o:Obj} {es:Array (Int×Value)} {ep:Nat} {t:SetTable} {sl:Nat->Nat} {xs:List Value} {i:Nat} {x:Value} {Q:Option Value->Shared->Prop} (hd:o.data=.set es ep t) (hf:t.fits es.size=true)
  (hn:NextOk prog w S o ep sl xs) (ho:s.heap.get? S=some o) (J:s.heap.IsSetIter it S (.int (sl i) 0) i es.size ep) (hx:xs[i]?=some x)
  (hQ:∀ h',h'.IsSetIter it S (.int (sl (i+1)) 0) (i+1) es.size ep->Heap.SameBut it s.heap h'->Q (some x) { s with heap:=h' }) :
  wpAny (model prog w) A (pyNext (.ref it)) Q E s:=by
 obtain ⟨oi,O,Z,B⟩:=id J
 unfold pyNext
 refine wpAny_bind (wpAny_attempt (wpAny_callSpecial?_slot (name:=Str.ofString "__next__") J.typeIs F.slot_set_iterator_next
  (wpAny_call_entry F.slot_set_iterator_next J.typeIs F.entry_set_iterator_next ?_ (F.args_set_iterator_next_1 _))))
 unfold Builtin.«set_iterator.__next__»
 refine wpAny_bind (wpAny_pure ?_)
 refine wpAny_bind (wpAny_fieldsOf O B ?_)
 dsimp only
 refine wpAny_bind (wpAny_setEntries_of ho hd hf ?_)
 rw [if_neg (by simp)]
 refine wpAny_bind ?_
 simp only [Int.toNat_natCast]
 refine hn.item _ _ _ _ i x ho hx ?_
 dsimp only
 refine wpAny_bind (wpAny_setField O B (by simp) ?_)
 have h1:=Heap.get?_update_self (Obj.mapFields (·.setIfInBounds 0 (rawInt (sl (i+1))))) O (Obj.isFreed_of_fields (Obj.data_mapFields B _))
 have U:=Obj.data_mapFields B (·.setIfInBounds 0 (rawInt (sl (i+1))))
 refine wpAny_bind (wpAny_setField h1 U (by simp) (wpAny_pure ⟨x,rfl,wpAny_pure (hQ _ ?_ ((Heap.SameBut.update ..).trans (Heap.SameBut.update ..)))⟩))
 exact ⟨_,Heap.get?_update_self _ h1 (Obj.isFreed_of_fields (Obj.data_mapFields U _)),(Obj.cls_mapFields ..).trans ((Obj.cls_mapFields ..).trans Z),by
  rw [Obj.data_mapFields U];simp [rawInt]⟩
theorem next_slot_end {it S:Addr} {o:Obj} {es:Array (Int×Value)} {ep:Nat} {t:SetTable} {sl:Nat->Nat} {xs:List Value} {Q:Option Value->Shared->Prop} (hh:A.handled=none) (hd:o.data=.set es ep t) (Z:t.fits es.size=true)
  (hn:NextOk prog w S o ep sl xs) (U:s.heap.get? S=some o) (B:s.heap.IsSetIter it S (.int (sl xs.length) 0) xs.length es.size ep)
  (hQ:∀ h',Heap.ExtBut it s.heap h'->Q none { s with heap:=h' }) :
  wpAny (model prog w) A (pyNext (.ref it)) Q E s:=by
 obtain ⟨oi,O,a0,J⟩:=id B
 unfold pyNext
 refine wpAny_bind (wpAny_attempt (wpAny_callSpecial?_slot (name:=Str.ofString "__next__") B.typeIs F.slot_set_iterator_next
  (wpAny_call_entry F.slot_set_iterator_next B.typeIs F.entry_set_iterator_next ?_ (F.args_set_iterator_next_1 _))))
 unfold Builtin.«set_iterator.__next__»
 refine wpAny_bind (wpAny_pure ?_)
 refine wpAny_bind (wpAny_fieldsOf O J ?_)
 dsimp only
 refine wpAny_bind (wpAny_setEntries_of U hd Z ?_)
 rw [if_neg (by simp)]
 refine wpAny_bind ?_
 simp only [Int.toNat_natCast]
 refine hn.done _ _ _ _ U ?_
 dsimp only
 refine wpAny_bind (wpAny_setField O J (by simp) ?_)
 show wpAny _ _ (newExc (.type "StopIteration") [] >>= _) _ _ _
 refine wpAny_bind ?_
 simp only [newExc,newTuple]
 refine wpAny_bind (wpAny_newObj_type ?_ (by size_fits))
 refine wpAny_bind (m:=firstArgMember _ _) (wpAny_of_eq (a:=Value.none) (by first | rfl | (simp only [firstArgMember];rfl)) ?_)
 refine wpAny_newObj_type ?_ (by size_fits)
 simp only [raiseNew]
 refine wpAny_bind (wpAny_handled ?_)
 rw [show A.in1.handled=none from hh]
 refine wpAny_bind (wpAny_pure (wpAny_throw ?_))
 refine wpAny_bind (wpAny_isInstance (T:="StopIteration") (b:=true) ⟨_,Heap.get?_push_size _ rfl,rfl⟩ isSubtype_stop ?_)
 exact wpAny_pure (hQ _ (((Heap.SameBut.update ..).extBut.push _).push _))
theorem next_drawn {it S T:Addr} {o oT:Obj} {es:Array (Int×Value)} {ep nT:Nat} {t:SetTable} {ps:List Nat} {i p:Nat} {hx:Int} {x:Value} {Q:Option Value->Shared->Prop} (hd:o.data=.set es ep t) (hf:t.fits es.size=true)
  (ho:s.heap.get? S=some o) (U:s.heap.get? T=some oT) (Z:oT.data=.seq (ps.map fun (i:Nat)=>rawInt i).toArray nT) (J:s.heap.IsSetIter it S (.ref T) i es.size ep) (hp:ps[i]?=some p) (he:es[p]?=some (hx,x))
  (hQ:∀ h',h'.IsSetIter it S (.ref T) (i+1) es.size ep->Heap.SameBut it s.heap h'->Q (some x) { s with heap:=h' }) :
  wpAny (model prog w) A (pyNext (.ref it)) Q E s:=by
 obtain ⟨oi,O,a0,B⟩:=id J
 unfold pyNext
 refine wpAny_bind (wpAny_attempt (wpAny_callSpecial?_slot (name:=Str.ofString "__next__") J.typeIs F.slot_set_iterator_next
  (wpAny_call_entry F.slot_set_iterator_next J.typeIs F.entry_set_iterator_next ?_ (F.args_set_iterator_next_1 _))))
 unfold Builtin.«set_iterator.__next__»
 refine wpAny_bind (wpAny_pure ?_)
 refine wpAny_bind (wpAny_fieldsOf O B ?_)
 dsimp only
 refine wpAny_bind (wpAny_setEntries_of ho hd hf ?_)
 rw [if_neg (by simp)]
 refine wpAny_bind (wpAny_seqItems U Z ?_)
 have e1:(ps.map fun (i:Nat)=>rawInt i).toArray[((i:Nat):Int).toNat]?=some (.int p 0):=by
  rw [Int.toNat_natCast,List.getElem?_toArray,yAT,hp]
  rfl
 dsimp only
 rw [e1]
 dsimp only
 simp only [Int.toNat_natCast]
 refine wpAny_bind ?_
 unfold setNextDrawn
 refine wpAny_bind (wpAny_setState_of ho hd hf ?_)
 dsimp only
 rw [if_neg (by simp),he]
 refine wpAny_pure ?_
 refine wpAny_bind (wpAny_setField O B (by simp) (wpAny_pure ⟨x,rfl,wpAny_pure (hQ _ ?_ (Heap.SameBut.update ..))⟩))
 exact ⟨_,Heap.get?_update_self _ O (Obj.isFreed_of_fields (Obj.data_mapFields B _)),(Obj.cls_mapFields ..).trans a0,by
  rw [Obj.data_mapFields B];simp [rawInt]⟩
theorem next_drawn_end {it S T:Addr} {o oT:Obj} {es:Array (Int×Value)} {ep nT:Nat} {t:SetTable} {ps:List Nat} {i:Nat} {Q:Option Value->Shared->Prop} (hh:A.handled=none) (hd:o.data=.set es ep t) (hf:t.fits es.size=true)
  (ho:s.heap.get? S=some o) (U:s.heap.get? T=some oT) (Z:oT.data=.seq (ps.map fun (i:Nat)=>rawInt i).toArray nT) (J:s.heap.IsSetIter it S (.ref T) i es.size ep) (hp:ps[i]?=none)
  (hQ:∀ h',Heap.ExtBut it s.heap h'->Q none { s with heap:=h' }) :
  wpAny (model prog w) A (pyNext (.ref it)) Q E s:=by
 obtain ⟨oi,O,a0,B⟩:=id J
 unfold pyNext
 refine wpAny_bind (wpAny_attempt (wpAny_callSpecial?_slot (name:=Str.ofString "__next__") J.typeIs F.slot_set_iterator_next
  (wpAny_call_entry F.slot_set_iterator_next J.typeIs F.entry_set_iterator_next ?_ (F.args_set_iterator_next_1 _))))
 unfold Builtin.«set_iterator.__next__»
 refine wpAny_bind (wpAny_pure ?_)
 refine wpAny_bind (wpAny_fieldsOf O B ?_)
 dsimp only
 refine wpAny_bind (wpAny_setEntries_of ho hd hf ?_)
 rw [if_neg (by simp)]
 refine wpAny_bind (wpAny_seqItems U Z ?_)
 have e1:(ps.map fun (i:Nat)=>rawInt i).toArray[((i:Nat):Int).toNat]?=none:=by
  rw [Int.toNat_natCast,List.getElem?_toArray,yAT,hp]
  rfl
 dsimp only
 rw [e1]
 dsimp only
 refine wpAny_bind (wpAny_setField O B (by simp) ?_)
 have h1:=Heap.get?_update_self (Obj.mapFields (·.setIfInBounds 0 (rawInt 0))) O (Obj.isFreed_of_fields (Obj.data_mapFields B _))
 have d1:=Obj.data_mapFields B (·.setIfInBounds 0 (rawInt 0))
 refine wpAny_bind (wpAny_setField h1 d1 (by simp) ?_)
 show wpAny _ _ (newExc (.type "StopIteration") [] >>= _) _ _ _
 refine wpAny_bind ?_
 simp only [newExc,newTuple]
 refine wpAny_bind (wpAny_newObj_type ?_ (by size_fits))
 refine wpAny_bind (m:=firstArgMember _ _) (wpAny_of_eq (a:=Value.none) (by first | rfl | (simp only [firstArgMember];rfl)) ?_)
 refine wpAny_newObj_type ?_ (by size_fits)
 simp only [raiseNew]
 refine wpAny_bind (wpAny_handled ?_)
 rw [show A.in1.handled=none from hh]
 refine wpAny_bind (wpAny_pure (wpAny_throw ?_))
 refine wpAny_bind (wpAny_isInstance (T:="StopIteration") (b:=true) ⟨_,Heap.get?_push_size _ rfl,rfl⟩ isSubtype_stop ?_)
 exact wpAny_pure (hQ _ ((((Heap.SameBut.update ..).trans (Heap.SameBut.update ..)).extBut.push _).push _))
end
end PySem
namespace PySem
section
variable {prog:Program} {w:World} {A:Around} {E:Value->Shared->Prop} {s:Shared}
theorem Heap.IsSetIter.at {h h':Heap} {it S:Addr} {first:Value} {i n ep:Nat} (x:h.IsSetIter it S first i n ep) (e:∀ o,h.get? it=some o->h'.get? it=some o):h'.IsSetIter it S first i n ep :=
 let ⟨o,ho,r⟩:=x;⟨o,e _ ho,r⟩
theorem walk_slots {I S:Addr} {o:Obj} {es:Array (Int×Value)} {ep:Nat} {t:SetTable} {sl:Nat->Nat} {xs:List Value} (hh:A.handled=none) (hd:o.data=.set es ep t) (hf:t.fits es.size=true) (hn:NextOk prog w S o ep sl xs) (a0:S≠I) :
  WalksS prog w A I [I,S] [I] (fun a b=>b=a) xs.length (fun i v=>xs[i]?=some v) (fun i s=>s.heap.IsSetIter I S (.int (sl i) 0) i es.size ep /\ s.heap.get? S=some o) where
 sub:=fun b B=>by simp at B;simp [B]
 grefl:=fun _=>rfl
 gtrans:=fun _ _ _ h1 h2=>h2.trans h1
 frame:=fun i s h' _ st _ hk=>⟨st.1.at fun o e=>hk I (by simp) o e,hk S (by simp) _ st.2⟩
 item:=fun i s Q E hi st U=>by
  have hx:xs[i]?=some xs[i]:=yAJ hi
  refine next_slot hd hf hn st.2 st.1 hx fun h' O J=>?_
  exact U _ _ hx ⟨O,J.extBut S o a0 st.2⟩ ⟨fun b o B e=>J.extBut b o (fun h=>B (by simp [h])) e,rfl,rfl,rfl,yAA _⟩
 done:=fun s Q E st U=>next_slot_end hh hd hf hn st.2 st.1 fun h' Z=>U _ ⟨fun b o B e=>Z b o (fun h=>B (by simp [h])) e,rfl,rfl,rfl,yAA _⟩
 self:=fun _ _ _ _ st U=>wpAny_pyIter_setiter st.1 U
theorem walk_drawn {I S T:Addr} {o oT:Obj} {es:Array (Int×Value)} {ep nT:Nat} {t:SetTable} {ps:List Nat} {xs:List Value} (hh:A.handled=none) (hd:o.data=.set es ep t) (hf:t.fits es.size=true) (U:oT.data=.seq (ps.map fun (i:Nat)=>rawInt i).toArray nT)
  (hl:xs.length=ps.length) (hx:∀ i p:Nat,ps[i]?=some p->∃ hx x,es[p]?=some (hx,x) /\ xs[i]?=some x) (a1:S≠I) (O:T≠I) :
  WalksS prog w A I [I,S,T] [I] (fun a b=>b=a) xs.length (fun i v=>xs[i]?=some v) (fun i s=>s.heap.IsSetIter I S (.ref T) i es.size ep /\ s.heap.get? S=some o /\ s.heap.get? T=some oT) where
 sub:=fun b J=>by simp at J;simp [J]
 grefl:=fun _=>rfl
 gtrans:=fun _ _ _ h1 h2=>h2.trans h1
 frame:=fun i s h' _ st _ hk=>⟨st.1.at fun o e=>hk I (by simp) o e,hk S (by simp) _ st.2.1,hk T (by simp) _ st.2.2⟩
 item:=fun i s Q E hi st hQ=>by
  have hp:ps[i]?=some (ps[i]'(by omega)):=yAJ (by omega)
  obtain ⟨h0,x,e1,e2⟩:=hx i _ hp
  refine next_drawn hd hf st.2.1 st.2.2 U st.1 hp e1 fun h' Z B=>?_
  exact hQ _ _ e2 ⟨Z,B.extBut S o a1 st.2.1,B.extBut T oT O st.2.2⟩ ⟨fun b o J e=>B.extBut b o (fun h=>J (by simp [h])) e,rfl,rfl,rfl,yAA _⟩
 done:=fun s Q E st hQ=>next_drawn_end hh hd hf st.2.1 st.2.2 U st.1 (by rw [hl];simp) fun h' a0=>hQ _ ⟨fun b o J e=>a0 b o (fun h=>J (by simp [h])) e,rfl,rfl,rfl,yAA _⟩
 self:=fun _ _ _ _ st hQ=>wpAny_pyIter_setiter st.1 hQ
theorem places_perm (es:Array (Int×Value)) (ps:List Nat) (J:ps.Perm (List.range es.size)):∃ xs:List Value,xs.length=ps.length /\ xs.Perm (es.toList.map (·.2)) /\ ∀ i p:Nat,ps[i]?=some p->∃ Z x,es[p]?=some (Z,x) /\ xs[i]?=some x:=by
 refine ⟨ps.map fun p=>(es.getD p (0,.none)).2,by simp,?_,fun i p e=>?_⟩
 .have U:(List.range es.size).map (fun p=>(es.getD p (0,.none)).2)=es.toList.map (·.2):=by
   refine List.ext_getElem (by simp) fun i h1 h2=>?_
   have:i < es.size:=by simpa using h1
   simp [Array.getD,this]
  rw [<- U]
  exact J.map _
 .have O:p∈List.range es.size:=J.mem_iff.mp (yAQ e)
  have B:p < es.size:=List.mem_range.mp O
  refine ⟨es[p].1,es[p].2,by rw [yBX B],?_⟩
  rw [yAT,e]
  simp [Array.getD,B]
theorem wpAny_pyIter_set {S:Addr} {o:Obj} {es:Array (Int×Value)} {ep:Nat} {t:SetTable} {A₂:Around} {Q:Value->Shared->Prop} (hh:A₂.handled=none) (U:s.heap.get? S=some o) (a3:o.ExactSet) (O:o.data=.set es ep t) (J:t.fits es.size=true) (hb:es.size <= sizeLine) (hT:TabOk (ledW w) t)
  (hQ:∀ (I:Addr) (fp:List Addr) (xs:List Value) (St:Nat->Shared->Prop) (h':Heap) (d:Drawn),xs.Perm (es.toList.map (·.2))->WalksS prog w A₂ I fp [I] (fun a b=>b=a) xs.length (fun i v=>xs[i]?=some v) St->St 0 { s with heap:=h',drawn:=d }->s.heap.objs.size <= I ->
   (∀ b∈fp,b=S∨s.heap.objs.size <= b)->(∀ b o,s.heap.get? b=some o->h'.get? b=some o)->Q (.ref I) { s with heap:=h',drawn:=d }):wpAny (model prog w) A (pyIter (.ref S)) Q E s:=by
 have a1:s.TypeIs (.ref S) "set":=⟨o,U,a3.1⟩
 have Z:=Heap.lt_size U
 refine wpAny_pyIter_slot a1 F.slot_set_iter (wpAny_call_entry F.slot_set_iter a1 F.entry_set_iter ?_ (F.args_set_iter_1 _))
 unfold Builtin.«frozenset.__iter__»
 refine wpAny_bind (wpAny_pure ?_)
 refine wpAny_bind ?_
 unfold Builtin.Frozenset.sizeOf
 refine wpAny_bind (wpAny_setEntries_of U O J (wpAny_pure ?_))
 refine wpAny_bind ?_
 unfold setDrawn
 refine wpAny_bind (wpAny_setState_of U O J ?_)
 dsimp only
 refine wpAny_bind ?_
 unfold setsByText
 refine wpAny_bind (wpAny_askSetting (wpAny_pure ?_))
 refine wpAny_pure ?_
 show wpAny _ _ (if (!(w.params.followText "set-order") && (!t.plain && decide (es.size > 1)))=true then _ else _) _ _ _
 have slots:∀ (sl:Nat->Nat) (xs:List Value),sl 0=0->NextOk prog w S o ep sl xs->xs.Perm (es.toList.map (·.2))->wpAny (model prog w) A.in1 (do
   let first <- pure (rawInt 0)
   let e <- setEpoch S
   let it <- newFields "set_iterator" [first,rawInt 0,Value.ref S,rawInt es.size,rawInt e]
   ret it) (fun fin s'=>∃ v,fin=PySem.Fin.done (Flow.ret v) /\ ∃ T' r,s'.TypeIs v T' /\ typeLookup (Value.type T') (Str.ofString "__next__")=pure (some r) /\ Q v s') E s:=fun sl xs h0 hn hp=>by
  refine wpAny_bind (wpAny_pure ?_)
  refine wpAny_bind ?_
  unfold setEpoch
  refine wpAny_bind (wpAny_setState_of U O J (wpAny_pure ?_))
  refine wpAny_bind (wpAny_newObj_type (wpAny_pure ⟨_,rfl,"set_iterator",_,⟨_,Heap.get?_push_size _ rfl,rfl⟩,F.slot_set_iterator_next.lookup,?_⟩))
  refine hQ _ _ xs _ _ s.drawn hp (walk_slots (sl:=sl) hh O J hn (yAM Z)) ⟨⟨_,Heap.get?_push_size _ rfl,rfl,?_⟩,Heap.get?_push_of_some _ U⟩ (yAA _) (fun b hb=>?_) fun b o e=>Heap.get?_push_of_some _ e
  .rw [h0]
   rfl
  .rcases yAE.mp hb with z | z
   .exact .inr (Nat.le_of_eq z.symm)
   .exact .inl (yAO.mp z)
 cases hby:w.params.followText "set-order" with
 | true=>
  rw [if_neg (by simp)]
  exact slots _ _ rfl (NextOk.byText O J hby) ((pickOrder_perm _ es).map _)
 | false=>
  have a2:TabOk true t:=by
   have e:ledW w=true:=by unfold ledW;rw [hby];rfl
   rw [e] at hT
   exact hT
  cases hdr:(!t.plain && decide (es.size > 1)) with
  | false=>
   rw [if_neg (by simp)]
   exact slots _ _ rfl (NextOk.placed O J hby hdr a2) (List.Perm.refl _)
  | true=>
   rw [if_pos (by simp)]
   refine wpAny_bind (wpAny_drawOrder _ _ _ _ (by simp) fun ps d hp=>?_)
   have a5:ps.length=es.size:=by rw [hp.length_eq];simp
   obtain ⟨xs,hl,a4,hx⟩:=places_perm es ps hp
   refine wpAny_bind (wpAny_newTuple ?_ (by rw [yAD];omega))
   refine wpAny_bind ?_
   unfold setEpoch
   have a0:=Heap.get?_push_of_some { cls:=.type "tuple",data:=.seq (ps.map fun (i:Nat)=>rawInt i).toArray } U
   refine wpAny_bind (wpAny_setState_of a0 O J (wpAny_pure ?_))
   refine wpAny_bind (wpAny_newObj_type (wpAny_pure ⟨_,rfl,"set_iterator",_,⟨_,Heap.get?_push_size _ rfl,rfl⟩,F.slot_set_iterator_next.lookup,?_⟩))
   dsimp only
   have B:(s.heap.push { cls:=.type "tuple",data:=.seq (ps.map fun (i:Nat)=>rawInt i).toArray }).objs.size=s.heap.objs.size+1:=Heap.size_push ..
   refine hQ _ _ xs _ _ d a4 (walk_drawn (T:=s.heap.objs.size) (oT:={ cls:=.type "tuple",data:=.seq (ps.map fun (i:Nat)=>rawInt i).toArray }) hh O J rfl hl hx ?_ ?_) ⟨⟨_,Heap.get?_push_size _ rfl,rfl,rfl⟩,Heap.get?_push_of_some _ a0,Heap.get?_push_of_some _ (Heap.get?_push_size _ rfl)⟩ ?_ (fun b hb=>?_) fun b o e=>Heap.get?_push_of_some _ (Heap.get?_push_of_some _ e)
   .rw [B];exact yAM (Nat.lt_succ_of_lt Z)
   .rw [B];exact yAM (yBP _)
   .rw [B];exact yBB _
   .rcases yAE.mp hb with z | z
    .exact .inr (by rw [z,B];exact yBB _)
    .rcases yAE.mp z with z | z
     .exact .inl z
     .exact .inr (Nat.le_of_eq (yAO.mp z).symm)
namespace F
theorem len_set:typeLookup (.type "set") "__len__"=pure (some (.builtin "set.__len__")):=by rw [typeLookup_type,builtinLookup_eq_fast];kernel_rfl
end F
theorem collect_set {S:Addr} {o:Obj} {es:Array (Int×Value)} {ep:Nat} {t:SetTable} {Q:List Value->Shared->Prop} (hh:A.handled=none) (ho:s.heap.get? S=some o) (a3:o.ExactSet) (hd:o.data=.set es ep t) (hf:t.fits es.size=true) (hb:es.size <= sizeLine) (hT:TabOk (ledW w) t)
  (hQ:∀ (vs:List Value) (h':Heap) (d:Drawn) (tk:Nat),vs.Perm (es.toList.map (·.2))->(∀ b o,s.heap.get? b=some o->h'.get? b=some o)->s.heap.objs.size < h'.objs.size->Q vs { s with heap:=h',drawn:=d,toks:=tk }):wpAny (model prog w) A (collect (.ref S)) Q E s:=by
 have a9:=Heap.lt_size ho
 unfold collect
 refine wpAny_bind (wpAny_runValue (codeAny_builtin F.entry_proto_collect ?_))
 rw [Around.under_plainId F.plain_proto_collect _]
 show wpAny _ A.in1 (newList [] >>= fun l=>again (.builtin "list.__iadd__" ⟨[l,.ref S],[]⟩)) _ _ s
 refine wpAny_bind (wpAny_newObj_type ?_)
 refine wpAny_pure ⟨plainId_quiet F.plain_list_iadd _,codeAny_builtin F.entry_list_iadd ?_⟩
 rw [Around.under_plainId F.plain_list_iadd _]
 have a4:(s.heap.push { cls:=.type "list",data:=.seq ([]:List Value).toArray }).get? S=some o:=Heap.get?_push_of_some _ ho
 have ad:Shared.TypeIs { s with heap:=s.heap.push { cls:=.type "list",data:=.seq ([]:List Value).toArray } } (.ref S) "set":=⟨o,a4,a3.1⟩
 have h1:Builtin.List.listSameRef (.ref s.heap.objs.size) (.ref S)=false:=by simp [Builtin.List.listSameRef,Nat.ne_of_gt a9]
 show wpAny _ A.in1 (Builtin.List.listExtendWith (.ref s.heap.objs.size) (.ref S) (.ref s.heap.objs.size)) _ _ _
 unfold Builtin.List.listExtendWith
 refine wpAny_bind (wpAny_typeOf ad ?_)
 rw [if_neg (by rw [h1];decide)]
 have a0:(s.heap.push { cls:=.type "list",data:=.seq ([]:List Value).toArray }).objs.size=s.heap.objs.size+1:=Heap.size_push ..
 refine wpAny_bind (wpAny_pyIter_set (A₂:=A.in1) hh a4 a3 hd hf hb hT fun I fp xs St h2 d hp W ac hI aa hk=>?_)
 refine wpAny_bind (wpAny_holding ?_)
 unfold Builtin.List.listLengthHint
 have O:Shared.TypeIs { s with heap:=h2,drawn:=d } (.ref S) "set":=⟨o,hk _ _ a4,a3.1⟩
 refine wpAny_bind (wpAny_specialOf O F.len_set ?_)
 (generalize hid:("set.__len__":String)=id0;(fail_if_success (clear hid id0));wp_delta;rw [show splitId id0=some ("set","__len__") from by subst hid;decide +kernel];subst hid)
 refine wpAny_bind (wpAny_isInstance (b:=true) O (by rw [isSubtype_type];kernel_rfl) ?_)
 show wpAny _ A.in1 (typeOf (.ref S) >>= _) _ _ _
 refine wpAny_bind (wpAny_typeOf O ?_)
 refine wpAny_pure ?_
 show wpAny _ A.in1 (rule "list.extend.makes-room" >>= fun _=>Builtin.List.listTouch (.ref s.heap.objs.size) >>= fun _=>
  again (.builtin "list.extend.loop" ⟨[.ref s.heap.objs.size,.ref I,.ref s.heap.objs.size],[]⟩)) _ _ _
 refine wpAny_bind (wpAny_rule ?_)
 have U:h2.get? s.heap.objs.size=some { cls:=.type "list",data:=.seq ([]:List Value).toArray }:=hk _ _ (Heap.get?_push_size _ rfl)
 have a7:s.heap.objs.size∉fp:=fun z=>by
  rcases aa _ z with y | y
  .exact Nat.ne_of_gt a9 y
  .have y':s.heap.objs.size+1 <= s.heap.objs.size:=a0 ▸ y
   exact yBQ _ y'
 refine wpAny_bind ?_
 show wpAny _ A.in1 (updateSeq s.heap.objs.size (·.push .none) >>= fun _=>updateSeq s.heap.objs.size (·.pop)) _ _ _
 refine wpAny_bind (wpAny_updateSeq U rfl ?_)
 have Z:=Heap.get?_update_self (Obj.mapSeq (·.push Value.none)) U rfl
 refine wpAny_updateSeq Z rfl ?_
 have a1:=Heap.get?_update_self (Obj.mapSeq (·.pop)) Z rfl
 have a5:∀ b o,b≠s.heap.objs.size->h2.get? b=some o->((h2.update s.heap.objs.size (Obj.mapSeq (·.push Value.none))).update s.heap.objs.size (Obj.mapSeq (·.pop))).get? b=some o :=
  fun b o hb e=>(Heap.get?_update_other _ _ (Ne.symm hb)).trans ((Heap.get?_update_other _ _ (Ne.symm hb)).trans e)
 have ae:xs.length=es.size:=by rw [hp.length_eq];simp
 refine wpAny_pure ⟨plainId_quiet F.plain_extend_loop _,codeAny_extend_loopS W (by omega) _ a7 _ xs.length 0 _ _ _ rfl (yAG _)
  (W.frame 0 ({ s with heap:=h2,drawn:=d }:Shared) _ s.toks ac (yAA _) fun b hb o e=>a5 b o (fun h=>a7 (h ▸ hb)) e) a1 (ItemsOf.nil _) fun s' B c' hm a8 J=>?_⟩
 show wpAny _ A (load s.heap.objs.size >>= _) _ _ s'
 refine wpAny_bind (wpAny_load a8 ?_)
 refine wpAny_pure ?_
 have ea:B.toList=xs:=by
  refine yCL fun j=>?_
  by_cases hj:j < xs.length
  .have z1:B[j]?=some (B[j]'(by rw [J.1];exact hj)):=yBX (by rw [J.1];exact hj)
   rw [yAV,z1]
   exact (J.2 j _ z1).symm
  .rw [yBM (l:=xs) (by omega),yBM (l:=B.toList) (by rw [yAN,J.1];omega)]
 obtain ⟨h',g',d',ab,os'⟩:=s'
 have eg:g'=s.gens:=hm.gens
 have ed:d'=d:=hm.drawn
 have eo:os'=s.os:=hm.os
 subst eg;subst ed;subst eo
 show Q B.toList _
 rw [ea]
 refine hQ xs h' _ ab hp (fun b o e=>?_) (Heap.lt_size a8)
 have a2:=Heap.lt_size e
 refine hm.heap b o (fun z=>?_) (a5 b o (yAM a2) (hk b o (Heap.get?_push_of_some _ e)))
 rcases yAE.mp z with y | y
 .exact yAM a2 y
 .have:=yAO.mp y
  have a6:s.heap.objs.size+1 <= I:=a0 ▸ hI
  rw [<- this] at a6
  exact absurd a2 (Nat.not_lt.mpr (yBJ a6))
end
end PySem
namespace L2
open PySem PySem.Spec PyProof.Rows
noncomputable abbrev Key:=Sum Int Str
noncomputable def keyIs:Key->Value->Bool
 | .inl k,v=>Value.isInt k v
 | .inr x,v=>Value.isStrOf x v
noncomputable def keyH (w:World):Key->Int
 | .inl k=>hashInt k
 | .inr x=>hashStr w x
theorem ZAx:∀ {k:Key} {v:Value},keyIs k v=true->(∃ i t,k=Sum.inl i /\ v=Value.int i t)∨(∃ x t,k=Sum.inr x /\ v=Value.str x t)
 | .inl i,v,h=>by
  obtain ⟨t,e⟩:=Value.isInt_shape (k:=i) (v:=v) h
  exact .inl ⟨i,t,rfl,e⟩
 | .inr x,v,h=>by
  obtain ⟨t,e⟩:=Value.isStrOf_shape (x:=x) (v:=v) h
  exact .inr ⟨x,t,rfl,e⟩
theorem key_ll (a b:Int):decide ((Sum.inl a:Key)=Sum.inl b)=(a == b):=by
 by_cases e:a=b
 .subst e;simp
 .have h:¬ (Sum.inl a:Key)=Sum.inl b:=fun q=>e (Sum.inl.inj q)
  rw [decide_eq_false h]
  exact (beq_eq_false_iff_ne.mpr e).symm
theorem key_rr (a b:Str):decide ((Sum.inr a:Key)=Sum.inr b)=decide (a=b):=by
 by_cases e:a=b
 .subst e;simp
 .have h:¬ (Sum.inr a:Key)=Sum.inr b:=fun q=>e (Sum.inr.inj q)
  rw [decide_eq_false h,decide_eq_false e]
theorem key_lr (a:Int) (b:Str):decide ((Sum.inl a:Key)=Sum.inr b)=false:=decide_eq_false (fun q=>nomatch q)
theorem key_rl (a:Str) (b:Int):decide ((Sum.inr a:Key)=Sum.inl b)=false:=decide_eq_false (fun q=>nomatch q)
noncomputable def mixKind (prog:Program) (w:World):PySem.KeyKind prog w Key where
 is:=keyIs
 hash:=keyH w
 inj:=fun v a b ha hb=>by
  rcases ZAx ha with ⟨i,t,rfl,rfl⟩ | ⟨x,t,rfl,rfl⟩
  .rcases ZAx hb with ⟨j,u,rfl,e⟩ | ⟨y,u,rfl,e⟩
   .injection e with e1 _;rw [e1]
   .exact nomatch e
  .rcases ZAx hb with ⟨j,u,rfl,e⟩ | ⟨y,u,rfl,e⟩
   .exact nomatch e
   .injection e with e1 _;rw [e1]
 byValue:=fun k v h=>by
  rcases ZAx h with ⟨i,t,rfl,rfl⟩ | ⟨x,t,rfl,rfl⟩ <;> rfl
 pyHash:=fun hv h=>by
  rcases ZAx hv with ⟨i,t,rfl,rfl⟩ | ⟨x,t,rfl,rfl⟩
  .exact wpAny_pyHash_int h
  .exact wpAny_pyHash_str h
 eqBool:=fun hu hv h=>by
  rcases ZAx hu with ⟨i,t,rfl,rfl⟩ | ⟨x,t,rfl,rfl⟩
  .rcases ZAx hv with ⟨j,u,rfl,rfl⟩ | ⟨y,u,rfl,rfl⟩
   .rw [key_ll] at h;exact wpAny_eqBool_int h
   .rw [key_lr] at h;exact SeqAt.EqAt.int_str i t y u _ _ _ _ h
  .rcases ZAx hv with ⟨j,u,rfl,rfl⟩ | ⟨y,u,rfl,rfl⟩
   .rw [key_rl] at h;exact SeqAt.EqAt.str_int x t j u _ _ _ _ h
   .rw [key_rr] at h;exact wpAny_eqBool_str h
 «strs»:=fun k x t v h=>by
  rcases ZAx h with ⟨i,u,rfl,e⟩ | ⟨y,u,rfl,e⟩
  .exact nomatch e
  .injection e with e1 _
   subst e1
   cases v <;> rfl
inductive V where
 | non | bl (b:Bool) | int (i:Int) | str (x:Str) | byt (b:Array UInt8) | flt (b:UInt64) | ref (a:Addr) | ty (n:String)
 deriving DecidableEq
noncomputable def RelV:V->Value->Prop
 | .non,u=>u=Value.none
 | .bl b,u=>u=Value.bool b
 | .int i,u=>∃ t,u=Value.int i t
 | .str x,u=>∃ t,u=Value.str x t
 | .byt b,u=>∃ t,u=Value.bytes b t
 | .flt b,u=>∃ t,u=Value.float b t
 | .ref a,u=>u=Value.ref a
 | .ty n,u=>u=Value.type n
noncomputable abbrev Vals:List V->List Value->Prop:=Paired RelV
theorem Vals.length {xs:List V} {us:List Value} (r:Vals xs us):xs.length=us.length:=Paired.length r
theorem Vals.get:∀ {xs:List V} {us:List Value} {i:Nat} {x:V},Vals xs us->xs[i]?=some x->∃ u,us[i]?=some u /\ RelV x u
 | _,_,_,_,.nil,e=>by simp at e
 | _,_,0,_,.cons r _,e=>by simp at e;subst e;exact ⟨_,rfl,r⟩
 | _,_,i+1,x,.cons _ t,e=>by
  obtain ⟨u,h1,h2⟩:=Vals.get (i:=i) (x:=x) t (by simpa using e)
  exact ⟨u,by simpa using h1,h2⟩
theorem Vals.set {x:V} {u:Value} (r:RelV x u):∀ {xs:List V} {us:List Value} (i:Nat),Vals xs us->Vals (xs.set i x) (us.set i u)
 | _,_,_,.nil=>.nil
 | _,_,0,.cons _ t=>.cons r t
 | _,_,i+1,.cons q t=>.cons q (Vals.set r i t)
theorem Vals.append:∀ {xs ys:List V} {us ws:List Value},Vals xs us->Vals ys ws->Vals (xs++ys) (us++ws)
 | _,_,_,_,.nil,s=>s
 | _,_,_,_,.cons r t,s=>.cons r (Vals.append t s)
theorem Vals.take:∀ {xs:List V} {us:List Value} (n:Nat),Vals xs us->Vals (xs.take n) (us.take n)
 | _,_,0,_=>.nil
 | _,_,_+1,.nil=>.nil
 | _,_,n+1,.cons r t=>.cons r (Vals.take n t)
theorem Vals.drop:∀ {xs:List V} {us:List Value} (n:Nat),Vals xs us->Vals (xs.drop n) (us.drop n)
 | _,_,0,r=>r
 | _,_,_+1,.nil=>.nil
 | _,_,n+1,.cons _ t=>Vals.drop n t
noncomputable def RelO:Option V->Option Value->Prop
 | some v,some u=>RelV v u
 | none,none=>True
 | _,_=>False
noncomputable def KV {κ:Type}:List (κ×V)->List (κ×Value)->Prop:=Paired fun (p:κ×V) (q:κ×Value)=>p.1=q.1 /\ RelV p.2 q.2
noncomputable def kV:Key->V
 | .inl i=>.int i
 | .inr x=>.str x
inductive HO where
 | lst (xs:List V)
 | tup (xs:List V)
 | dK (kvs:List (Key×V)) | dT (kvs:List (List Key×V))
 | set (S:Int->Bool) (n:Nat)
 | ins (C dx:Addr) (fs:List (Str×V))
 | own (x:Addr)
 | xd (fs:List (Str×V))
 | met (f x:Addr)
 | rng (lo hi:Int)
 | frz (o:Obj) (u:HO)
 | tbl (ps:Array Value)
 | ext (φ:Heap->Prop)
noncomputable abbrev Hp:=Addr->Option HO
noncomputable def upd (H:Hp) (a:Addr) (o:HO):Hp:=fun b=>if b=a then some o else H b
theorem ZAG {H:Hp} {a:Addr} {o:HO}:upd H a o a=some o:=by unfold upd;rw [if_pos rfl]
theorem ZAK {H:Hp} {a b:Addr} {o:HO} (h:b≠a):upd H a o b=H b:=by unfold upd;rw [if_neg h]
theorem ZDO {H:Hp} {a:Addr} {o u:HO}:upd (upd H a o) a u=upd H a u:=by
 funext b;unfold upd;split <;> rfl
theorem ZAD {H:Hp} {a b:Addr} {o:HO} (h:H a=some o) (h':H b=none):a≠b:=by
 intro e;subst e;rw [h] at h';cases h'
section
variable (P:Program) (w:World)
noncomputable def ObjOk (H:Hp) (h:Heap) (a:Addr):HO->Prop
 | .lst xs=>xs.length <= sizeLine /\ ∃ (its:List Value) (n:Nat),Vals xs its /\ h.get? a=some { cls:=.type "list",data:=.seq its.toArray n }
 | .tup xs=>xs.length <= sizeLine /\ ∃ its:List Value,Vals xs its /\ IsTup h a its.toArray
 | .dK kvs=>kvs.length <= sizeLine /\ (a == sysModules)=false /\ ∃ vs,KV kvs vs /\ h.DictOf (mixKind P w) a vs
 | .dT kvs=>kvs.length <= sizeLine /\ (a == sysModules)=false /\ ∃ xs:List (List Key×Addr×Value),
   Paired (fun (p:List Key×V) (q:List Key×Addr×Value)=>p.1=q.1 /\ H q.2.1=some (.tup (p.1.map kV)) /\ RelV p.2 q.2.2) kvs xs /\
   ∃ o es ep,h.get? a=some o /\ o.ExactDict /\ o.data=.dict es ep /\ es.toList=xs.map (entryOfKey (tupleKind (mixKind P w))) /\ (xs.map (·.1)).Nodup
 | .set S n=>h.SetOf (intKind P w) a S n
 | .ins C dx fs=>H dx=some (.own a) /\ fs.length <= 1000 /\ dx≠a /\ h.get? a=some (PySem.W.instObj C dx) /\
   ∃ mA,h.Ns1 dx mA /\ (∀ f,RelO (fs.lookup f) (mA f)) /\ PySem.Within mA (fs.map (·.1))
 | .own _=>∃ o,h.get? a=some o
 | .xd fs=>∃ mA,h.Ns1 a mA /\ ∀ f,RelO (fs.lookup f) (mA f)
 | .rng lo hi=>∃ t u v,h.get? a=some { cls:=.type "range",data:=.fields #[.int lo t,.int hi u,.int 1 v] }
 | .frz o u=>h.get? a=some o /\ ObjOk H h a u
 | .tbl ps=>h.get? a=some { cls:=.none,data:=.fields ps }
 | .met f x=>h.get? a=some (PySem.W.methodObj (.ref f) (.ref x))
 | .ext φ=>φ h /\ (∃ o,h.get? a=some o) /\ ∀ h1 h2:Heap,φ h1->(∀ o,h1.get? a=some o->h2.get? a=some o)->φ h2
noncomputable def HOk (H:Hp) (h:Heap):Prop:=∀ a o,H a=some o->ObjOk P w H h a o
end
section
variable {P:Program} {w:World} {H H':Hp} {h h':Heap} {a:Addr} {o:HO}
theorem ObjOk.lt (x:ObjOk P w H h a o):a < h.objs.size:=by
 cases o with
 | lst xs=>obtain ⟨_,_,_,_,e⟩:=x;exact Heap.lt_size e
 | tup xs=>obtain ⟨_,_,_,p⟩:=x;exact p.lt
 | dK kvs=>obtain ⟨_,_,_,_,o,_,_,e,_⟩:=x;exact Heap.lt_size e
 | dT kvs=>obtain ⟨_,_,_,_,o,_,_,e,_⟩:=x;exact Heap.lt_size e
 | set S n=>obtain ⟨o,_,_,_,e,_⟩:=x;exact Heap.lt_size e
 | ins C dx fs=>obtain ⟨_,_,_,e,_⟩:=x;exact Heap.lt_size e
 | own y=>obtain ⟨_,e⟩:=x;exact Heap.lt_size e
 | xd fs=>obtain ⟨_,⟨_,_,_,e,_⟩,_⟩:=x;exact Heap.lt_size e
 | rng lo hi=>obtain ⟨_,_,_,e⟩:=x;exact Heap.lt_size e
 | frz ob u=>obtain ⟨e,_⟩:=x;exact Heap.lt_size e
 | tbl ps=>exact Heap.lt_size (show h.get? a=some _ from x)
 | met f y=>exact Heap.lt_size (show h.get? a=some _ from x)
 | ext φ=>obtain ⟨_,⟨_,e⟩,_⟩:=x;exact Heap.lt_size e
theorem Paired.mapP {α B:Type} {F G:α->B->Prop}:∀ {l₁:List α} {l₂:List B},Paired F l₁ l₂->(∀ a b,F a b->G a b)->Paired G l₁ l₂
 | _,_,.nil,_=>.nil
 | _,_,.cons r t,f=>.cons (f _ _ r) (Paired.mapP t f)
theorem ObjOk.stay (x:ObjOk P w H h a o) (k:∀ b u,(b=a∨H b=some (.own a))->h.get? b=some u->h'.get? b=some u)
  (U:∀ b,H b=some (.own a)->H' b=some (.own a)) (O:∀ b xs,H b=some (.tup xs)->H' b=some (.tup xs)):ObjOk P w H' h' a o:=by
 induction o with
 | lst xs=>obtain ⟨z,its,n,r,e⟩:=x;exact ⟨z,its,n,r,k _ _ (.inl rfl) e⟩
 | tup xs=>obtain ⟨z,its,r,B,e,c⟩:=x;exact ⟨z,its,r,B,k _ _ (.inl rfl) e,c⟩
 | dK kvs=>obtain ⟨z,y,vs,r,B,es,ep,e,c⟩:=x;exact ⟨z,y,vs,r,B,es,ep,k _ _ (.inl rfl) e,c⟩
 | dT kvs=>
  obtain ⟨z,y,xs,r,B,es,ep,e,c⟩:=x
  exact ⟨z,y,xs,Paired.mapP r fun p q z=>⟨z.1,O _ _ z.2.1,z.2.2⟩,B,es,ep,k _ _ (.inl rfl) e,c⟩
 | set S n=>obtain ⟨B,es,ep,t,e,c⟩:=x;exact ⟨B,es,ep,t,k _ _ (.inl rfl) e,c⟩
 | ins C dx fs=>
  obtain ⟨d,z,ne,e,mA,⟨od,es,ep,J,c⟩,r⟩:=x
  exact ⟨U _ d,z,ne,k _ _ (.inl rfl) e,mA,⟨od,es,ep,k _ _ (.inr d) J,c⟩,r⟩
 | own y=>obtain ⟨B,e⟩:=x;exact ⟨B,k _ _ (.inl rfl) e⟩
 | xd fs=>obtain ⟨mA,⟨od,es,ep,e,c⟩,r⟩:=x;exact ⟨mA,⟨od,es,ep,k _ _ (.inl rfl) e,c⟩,r⟩
 | rng lo hi=>obtain ⟨t,u,v,e⟩:=x;exact ⟨t,u,v,k _ _ (.inl rfl) e⟩
 | frz B u ih=>obtain ⟨e,q⟩:=x;exact ⟨k _ _ (.inl rfl) e,ih q⟩
 | tbl ps=>
  have e:h.get? a=some { cls:=.none,data:=.fields ps }:=x
  show h'.get? a=some { cls:=.none,data:=.fields ps }
  exact k a _ (.inl rfl) e
 | met f y=>
  have e:h.get? a=some (PySem.W.methodObj (.ref f) (.ref y)):=x
  show h'.get? a=some (PySem.W.methodObj (.ref f) (.ref y))
  exact k a _ (.inl rfl) e
 | ext φ=>obtain ⟨p,⟨o,e⟩,st⟩:=x;exact ⟨st _ _ p fun o q=>k _ _ (.inl rfl) q,⟨o,k _ _ (.inl rfl) e⟩,st⟩
theorem HOk.lt (x:HOk P w H h) (e:H a=some o):a < h.objs.size:=(x a o e).lt
theorem HOk.fresh (x:HOk P w H h) (e:h.objs.size <= a):H a=none:=by
 cases q:H a with
 | none=>rfl
 | some u=>exact absurd (yAW (x.lt q) e) (yBQ _)
theorem HOk.kept (x:HOk P w H h) (k:∀ b u,h.get? b=some u->h'.get? b=some u):HOk P w H h':=fun a o e=>
 (x a o e).stay (fun b u _ q=>k b u q) (fun _ q=>q) fun _ _ q=>q
theorem HOk.laid (x:HOk P w H h) (k:∀ b u,h.get? b=some u->h'.get? b=some u) (B:h.objs.size <= a) (new:ObjOk P w (upd H a o) h' a o):HOk P w (upd H a o) h':=fun b u e=>by
 have hn:=x.fresh B
 by_cases hb:b=a
 .subst hb;rw [ZAG] at e;cases e;exact new
 .rw [ZAK hb] at e
  exact (x b u e).stay (fun c v _ q=>k c v q) (fun c q=>by rw [ZAK (ZAD q hn)];exact q) fun c xs q=>by rw [ZAK (ZAD q hn)];exact q
end
noncomputable def Rd (H:Hp) (a:Addr) (u:HO):Prop:=H a=some u∨∃ o,H a=some (.frz o u)
theorem Rd.ok {P:Program} {w:World} {H:Hp} {h:Heap} {a:Addr} {u:HO} (r:Rd H a u) (x:HOk P w H h):ObjOk P w H h a u:=by
 rcases r with r | ⟨o,r⟩
 .exact x a u r
 .obtain ⟨_,q⟩:=x a _ r
  exact q
noncomputable def Mut:Option HO->Prop
 | some (.lst _)=>True
 | some (.dK _)=>True
 | some (.dT _)=>True
 | some (.set _ _)=>True
 | some (.ins _ _ _)=>True
 | some (.ext _)=>True
 | _=>False
section
variable {P:Program} {w:World} {H:Hp} {h h':Heap} {x e:Addr} {o':HO}
theorem HOk.write (ok:HOk P w H h) (O:Mut (H x)) (Z:e=x∨H e=some (.own x)) (k:∀ b u,b≠e->h.get? b=some u->h'.get? b=some u) (U:∃ u,h'.get? e=some u)
  (new:ObjOk P w (upd H x o') h' x o'):HOk P w (upd H x o') h':=fun b u q=>by
 have B:∀ c y,H c=some (.own y)->c≠x:=fun c y r z=>by subst z;rw [r] at O;exact O
 have J:∀ c xs,H c=some (.tup xs)->c≠x:=fun c xs r z=>by subst z;rw [r] at O;exact O
 by_cases hb:b=x
 .subst hb;rw [ZAG] at q;cases q;exact new
 .rw [ZAK hb] at q
  by_cases hbe:b=e
  .have q':H b=some (.own x):=by
    rcases Z with z | z
    .exact absurd (hbe.trans z) hb
    .rw [hbe];exact z
   rw [q] at q';cases q'
   obtain ⟨v,hv⟩:=U
   exact ⟨v,by rw [hbe];exact hv⟩
  .refine (ok b u q).stay (fun c v hc r=>k c v ?_ r) (fun c r=>by rw [ZAK (B c b r)];exact r) fun c xs r=>by rw [ZAK (J c xs r)];exact r
   rcases hc with rfl | hc
   .exact hbe
   .rintro rfl
    rcases Z with z | z
    .exact B c b hc z
    .rw [hc] at z;cases z;exact hb rfl
end
structure Un (fs ex:List Addr) (H H':Hp) (h h':Heap):Prop where
 keep:∀ b o,h.get? b=some o->H b=none->b∉fs->b∉ex->h'.get? b=some o
 slot:∀ b o,h.get? b=some o->H b=none->b∈fs->b∉ex->∃ sl,h'.get? b=some { o with slots:=sl }
 free:∀ b o,h.get? b=some o->H b=none->b∉ex->H' b=none
 there:∀ b o,h.get? b=some o->b∉ex->∃ o',h'.get? b=some o'
 tups:∀ b xs,H b=some (.tup xs)->H' b=some (.tup xs)
 frzs:∀ b o u,H b=some (.frz o u)->H' b=some (.frz o u)
 tbls:∀ b ps,H b=some (.tbl ps)->∃ more,H' b=some (.tbl (ps++more))
section
variable {fs fs' ex ex':List Addr} {H H1 H2:Hp} {h h1 h2 h':Heap} {a x e:Addr} {o:HO}
theorem Un.any (u:Un fs ex H H1 h h1) {b:Addr} {B:Obj} (q:h.get? b=some B) (n:H b=none) (J:b∉ex):∃ sl,h1.get? b=some { B with slots:=sl }:=by
 by_cases hb:b∈fs
 .exact u.slot b B q n hb J
 .exact ⟨B.slots,u.keep b B q n hb J⟩
theorem Un.kept (k:∀ b u,h.get? b=some u->h'.get? b=some u):Un fs ex H H h h' :=
 ⟨fun b B q _ _ _=>k b B q,fun b B q _ _ _=>⟨B.slots,k b B q⟩,fun _ _ _ n _=>n,fun b B q _=>⟨B,k b B q⟩,fun _ _ q=>q,fun _ _ _ q=>q,fun _ ps q=>⟨#[],by rw [q];simp⟩⟩
theorem Un.refl:Un fs ex H H h h:=Un.kept fun _ _ q=>q
theorem Un.laid (k:∀ b u,h.get? b=some u->h'.get? b=some u) (B:h.objs.size <= a) (hn:H a=none):Un fs ex H (upd H a o) h h' where
 keep:=fun b u q _ _ _=>k b u q
 slot:=fun b u q _ _ _=>⟨u.slots,k b u q⟩
 free:=fun b u q n _=>by rw [ZAK (yAM (yAW (Heap.lt_size q) B))];exact n
 there:=fun b u q _=>⟨u,k b u q⟩
 tups:=fun b xs q=>by rw [ZAK (ZAD q hn)];exact q
 frzs:=fun b u xs q=>by rw [ZAK (ZAD q hn)];exact q
 tbls:=fun b ps q=>⟨#[],by rw [ZAK (ZAD q hn),q];simp⟩
theorem Un.write (B:Mut (H x)) (he:e=x∨H e=some (.own x)) (k:∀ b u,b≠e->h.get? b=some u->h'.get? b=some u) (J:∃ u,h'.get? e=some u):Un fs ex H (upd H x o) h h':=by
 have Z:∀ b,H b=none->b≠x:=fun b n z=>by subst z;rw [n] at B;exact B
 have U:∀ b,H b=none->b≠e:=fun b n z=>by
  subst z
  rcases he with r | r
  .exact Z b n r
  .rw [n] at r;cases r
 have O:∀ b u,H b=some u->¬ Mut (some u)->b≠x:=fun b u q nm z=>by subst z;rw [q] at B;exact nm B
 refine ⟨fun b u q n _ _=>k b u (U b n) q,fun b u q n _ _=>⟨u.slots,k b u (U b n) q⟩,fun b u q n _=>by rw [ZAK (Z b n)];exact n,fun b u q _=>?_,
  fun b xs q=>by rw [ZAK (O b _ q fun z=>z)];exact q,fun b u xs q=>by rw [ZAK (O b _ q fun z=>z)];exact q,fun b ps q=>⟨#[],by rw [ZAK (O b _ q fun z=>z),q];simp⟩⟩
 by_cases hbe:b=e
 .subst hbe;exact J
 .exact ⟨u,k b u hbe q⟩
end
noncomputable def trk (h:Heap) (H:Hp):List Addr:=(List.range h.objs.size).filter fun a=>(H a).isSome
noncomputable def hidT (h:Heap) (H:Hp):Heap:=PySem.W.hideAll h (trk h H)
theorem hidT_size (h:Heap) (H:Hp):(hidT h H).objs.size=h.objs.size:=PySem.W.hideAll_size _ _
theorem hidT_get {h:Heap} {H:Hp} {b:Addr} {o:Obj} (e:h.get? b=some o) (n:H b=none):(hidT h H).get? b=some o :=
 PySem.W.hideAll_get _ e fun B=>by
  have q:(H b).isSome=true:=(List.mem_filter.mp B).2
  rw [n] at q;simp at q
theorem of_hidT {h:Heap} {H:Hp} {b:Addr} {o:Obj} (e:(hidT h H).get? b=some o):h.get? b=some o /\ H b=none:=by
 have B:h.get? b=some o:=PySem.W.of_hideAll (trk h H) e
 refine ⟨B,?_⟩
 cases q:H b with
 | none=>rfl
 | some x=>
  have J:b∈trk h H:=List.mem_filter.mpr ⟨List.mem_range.mpr (Heap.lt_size B),by simp [q]⟩
  have z:(hidT h H).get? b=none:=PySem.W.hideAll_none (trk h H) J
  rw [z] at e;cases e
structure Mod (K:W.Frag) (mg:Str->Option Value) (base:Heap):Prop where
 kin:K.In base
 glob:base.Ns mainGlobals mg
 blt:∃ mb,base.Ns builtinsNs mb /\ ∀ x:Str,x≠"__name__"->mb x=bootBuiltins x
 nolimit:base.NoLimit
structure Cx where
 prog:Program
 w:World
 K:W.Frag
 mg:Str->Option Value
 base:Heap
 A:Around
 N:List Str
 s₀:Shared
 H₀:Hp
 env:Env
 outer:List Env
 stack:List Env
 ex:List Addr
 fn:Str->Bool
 calm:Bool
 pn:List (Addr×Obj)
 xe:Value->Shared->Prop
noncomputable def frs (l:List Env):List Addr:=l.filterMap (·.frame)
noncomputable abbrev Cx.fs (X:Cx):List Addr:=frs X.outer
noncomputable def Vis (sc:Scope) (x:Str):Prop:=sc.names.lookup x=some .local∨sc.names.lookup x=some .cell∨sc.names.lookup x=some .free
noncomputable def Loc (sc:Scope) (x:Str):Prop:=sc.names.lookup x=some .local∨sc.names.lookup x=some .cell
noncomputable def Look (env:Env) (h:Heap) (m:Str->Option Value) (x:Str) (u:Value):Prop :=
 (env.kindOf x=some .local /\ m x=some u)∨((env.kindOf x=some .cell∨env.kindOf x=some .free) /\ ∃ c,env.cells.lookup x=some c /\ h.IsCell c (some u))
structure Cx.Ok (X:Cx):Prop where
 mod:Mod X.K X.mg X.base
 kind:X.env.scope.kind=.function
 glob:X.env.globals=mainGlobals
 blt:X.env.builtins=builtinsNs
 above:X.s₀.heap.objs.size <= X.env.locals
 inj:∀ x y c,X.env.cells.lookup x=some c->X.env.cells.lookup y=some c->x=y
 has:∀ x,(X.env.kindOf x=some .cell∨X.env.kindOf x=some .free)->∃ c,X.env.cells.lookup x=some c
 cab:∀ x c,X.fn x=true->X.env.cells.lookup x=some c->X.s₀.heap.objs.size <= c
 hd:X.calm=true->X.A.handled=none
 frames:X.A.frames=some X.stack
 stk:X.stack=X.outer∨(X.stack=X.env::X.outer /\ X.env.frame=some X.env.locals)
 exf:∀ b∈X.ex,b≠X.env.locals /\ ∀ x c,X.env.cells.lookup x=some c->c≠b
 bs:∀ b o,X.base.get? b=some o->X.s₀.heap.get? b=some o /\ X.H₀ b=none
 bsz:X.base.objs.size <= X.s₀.heap.objs.size
 noex:∀ b o,X.base.get? b=some o->b∉X.ex
 exfs:∀ b∈X.ex,b∉X.fs
 funs:X.s₀.heap.FunFrames X.base X.outer
 frf:∀ b∈X.fs,X.H₀ b=none
structure Inv (X:Cx) (pins:List (Addr×Obj)) (σ:List (Option V)) (H:Hp) (s:Shared):Prop where
 ok:X.Ok
 os:s.os=X.s₀.os
 bare:AllBare s.gens
 base:Un X.fs X.ex X.H₀ H X.s₀.heap s.heap
 loc:∃ m,s.heap.Ns X.env.locals m /\ ∀ (i:Nat) (x:Str) (v:V),X.N[i]?=some x->σ[i]?=some (some v)->Vis X.env.scope x->∃ u,RelV v u /\ Look X.env s.heap m x u
 cell:∀ x c,X.env.cells.lookup x=some c->∃ v,s.heap.IsCell c v
 free:H X.env.locals=none
 freeC:∀ x c,X.env.cells.lookup x=some c->H c=none
 pin:∀ p∈X.pn++pins,s.heap.get? p.1=some p.2 /\ H p.1=none /\ p.1≠X.env.locals /\ p.1∉X.fs /\ ∀ v,p.2.data≠.cell v
 hok:HOk X.prog X.w H s.heap
 len:σ.length=X.N.length
section
variable {X:Cx} {pins:List (Addr×Obj)} {σ:List (Option V)} {H H':Hp} {s:Shared} {h':Heap}
theorem Cx.Ok.nofr (ok:X.Ok) {b:Addr} {o:Obj} (e:X.base.get? b=some o):b∉X.fs:=fun B=>by
 have:=(ok.funs.mem B).1
 rw [e] at this;cases this
theorem Inv.bs (I:Inv X pins σ H s):∀ b o,X.base.get? b=some o->s.heap.get? b=some o /\ H b=none:=fun b o e=>
 ⟨I.base.keep b o (I.ok.bs b o e).1 (I.ok.bs b o e).2 (I.ok.nofr e) (I.ok.noex b o e),I.base.free b o (I.ok.bs b o e).1 (I.ok.bs b o e).2 (I.ok.noex b o e)⟩
theorem Inv.bk (I:Inv X pins σ H s):∀ b o,X.base.get? b=some o->s.heap.get? b=some o:=fun b o e=>(I.bs b o e).1
theorem Inv.mod (I:Inv X pins σ H s):Mod X.K X.mg X.base:=I.ok.mod
theorem Inv.kIn (I:Inv X pins σ H s):X.K.In s.heap:=I.ok.mod.kin.keeps I.bk
theorem Inv.lt (I:Inv X pins σ H s):X.env.locals < s.heap.objs.size:=let ⟨_,hn,_⟩:=I.loc;hn.lt
theorem Inv.sz (I:Inv X pins σ H s):X.s₀.heap.objs.size <= s.heap.objs.size:=yAL I.ok.above (yBJ I.lt)
theorem Inv.nofs (I:Inv X pins σ H s) {a:Addr} (h:s.heap.objs.size <= a):a∉X.fs:=fun B=>by
 obtain ⟨_,o,J,_⟩:=I.ok.funs.mem B
 exact absurd (yAW (Heap.lt_size J) (yAL I.sz h)) (yBQ _)
theorem Inv.cne (I:Inv X pins σ H s):∀ x c,X.env.cells.lookup x=some c->c≠X.env.locals:=fun x c e z=>by
 obtain ⟨v,o,O,U⟩:=I.cell x c e
 obtain ⟨m,⟨o',es,ep,B,J,_⟩,_⟩:=I.loc
 rw [z,B] at O;cases O;rw [J] at U;cases U
theorem Inv.funs (I:Inv X pins σ H s):s.heap.FunFrames X.base X.outer:=by
 have all:∀ (l:List Env),(∀ b∈frs l,b∈X.fs)->X.s₀.heap.FunFrames X.base l->s.heap.FunFrames X.base l:=by
  intro l
  induction l with
  | nil=>intro _ _;trivial
  | cons env r ih=>
   intro hs hl
   obtain ⟨Z,⟨L,o,O,hn,ho,hd⟩,U⟩:=hl
   have B:L∈X.fs:=hs L (by unfold frs;rw [List.filterMap_cons,O];exact yAF)
   obtain ⟨sl,e⟩:=I.base.slot L o ho (I.ok.frf L B) B fun z=>I.ok.exfs L z B
   exact ⟨Z,⟨L,_,O,hn,e,hd⟩,ih (fun b J=>hs b (by unfold frs;rw [List.filterMap_cons,O];exact yAC _ J)) U⟩
 exact all X.outer (fun _ J=>J) I.ok.funs
theorem Inv.stack (I:Inv X pins σ H s):s.heap.FunFrames X.base X.stack:=by
 rcases I.ok.stk with e | ⟨e,B⟩
 .rw [e];exact I.funs
 .rw [e]
  obtain ⟨m,hn,_⟩:=I.loc
  refine .cons (by rw [I.ok.kind];decide) B hn ?_ I.funs
  exact Heap.get?_none_of_le (yAL I.ok.bsz I.ok.above)
theorem Inv.stkSub (I:Inv X pins σ H s):∀ b∈frs X.stack,b∈X.env.locals::X.fs:=fun b B=>by
 rcases I.ok.stk with e | ⟨e,J⟩
 .rw [e] at B;exact yAC _ B
 .rw [e] at B
  unfold frs at B
  rw [List.filterMap_cons,J] at B
  exact B
theorem Inv.stkFree (I:Inv X pins σ H s):∀ b∈frs X.stack,H b=none:=fun b B=>by
 rcases yAE.mp (I.stkSub b B) with e | B
 .rw [e];exact I.free
 .obtain ⟨_,o,J,_⟩:=I.ok.funs.mem B
  exact I.base.free b o J (I.ok.frf b B) fun z=>I.ok.exfs b z B
theorem Inv.step {g':Array GenState} {t':Nat} {d':Drawn} {ch:List Addr} (I:Inv X pins σ H s)
  (O:∀ b∈ch,(b∈X.ex∨X.s₀.heap.objs.size <= b) /\ b≠X.env.locals /\ (∀ x c,X.env.cells.lookup x=some c->c≠b) /\ ∀ p∈X.pn++pins,p.1≠b)
  (keep:∀ b o,b≠X.env.locals->b∉X.fs->b∉ch->s.heap.get? b=some o->H b=none->h'.get? b=some o)
  (slot:∀ b o,b≠X.env.locals->b∈X.fs->b∉ch->s.heap.get? b=some o->H b=none->∃ sl,h'.get? b=some { o with slots:=sl }) (free:∀ b o,b∉ch->s.heap.get? b=some o->H b=none->H' b=none)
  (there:∀ b o,b∉ch->s.heap.get? b=some o->∃ o',h'.get? b=some o')
  (tups:∀ b xs,H b=some (.tup xs)->H' b=some (.tup xs)) (frzs:∀ b o u,H b=some (.frz o u)->H' b=some (.frz o u)) (tbls:∀ b ps,H b=some (.tbl ps)->∃ more,H' b=some (.tbl (ps++more)))
  (ns:∀ m,s.heap.Ns X.env.locals m->h'.Ns X.env.locals m) (a1:HOk X.prog X.w H' h') (hg:AllBare g') :
  Inv X pins σ H' { s with heap:=h',gens:=g',drawn:=d',toks:=t' }:=by
 have a0:∀ b o,X.s₀.heap.get? b=some o->b≠X.env.locals:=fun b o e=>yAM (yAW (Heap.lt_size e) I.ok.above)
 have Z:∀ b o,X.s₀.heap.get? b=some o->b∉X.ex->b∉ch:=fun b o e B hb=>by
  rcases (O b hb).1 with z | z
  .exact B z
  .exact absurd (yAW (Heap.lt_size e) z) (yBQ _)
 have J:∀ x c,X.env.cells.lookup x=some c->∀ v,s.heap.IsCell c v->h'.IsCell c v:=fun x c e v ⟨o,ho,hd⟩=>by
  have U:c∉ch:=fun z=>(O c z).2.2.1 x c e rfl
  by_cases hc:c∈X.fs
  .obtain ⟨sl,q⟩:=slot c o (I.cne x c e) hc U ho (I.freeC x c e)
   exact ⟨_,q,hd⟩
  .exact ⟨o,keep c o (I.cne x c e) hc U ho (I.freeC x c e),hd⟩
 refine ⟨I.ok,I.os,hg,⟨fun b o e n hb B=>?_,fun b o e n hb B=>?_,fun b o e n B=>?_,fun b o e B=>?_,fun b xs e=>tups b xs (I.base.tups b xs e),fun b o xs e=>frzs b o xs (I.base.frzs b o xs e),fun b ps e=>?_⟩,?_,fun x c e=>?_,?_,fun x c e=>?_,fun p hp=>?_,a1,I.len⟩
 .exact keep b o (a0 b o e) hb (Z b o e B) (I.base.keep b o e n hb B) (I.base.free b o e n B)
 .obtain ⟨sl,e1⟩:=I.base.slot b o e n hb B
  obtain ⟨a2,e2⟩:=slot b _ (a0 b o e) hb (Z b o e B) e1 (I.base.free b o e n B)
  exact ⟨a2,e2⟩
 .obtain ⟨o',e1⟩:=I.base.there b o e B
  exact free b o' (Z b o e B) e1 (I.base.free b o e n B)
 .obtain ⟨o',e1⟩:=I.base.there b o e B
  exact there b o' (Z b o e B) e1
 .obtain ⟨m1,e1⟩:=I.base.tbls b ps e
  obtain ⟨m2,e2⟩:=tbls b _ e1
  exact ⟨m1++m2,by rw [e2,Array.append_assoc]⟩
 .obtain ⟨m,hn,hl⟩:=I.loc
  refine ⟨m,ns m hn,fun i x v e1 e2 e3=>?_⟩
  obtain ⟨u,r,l⟩:=hl i x v e1 e2 e3
  refine ⟨u,r,?_⟩
  rcases l with l | ⟨k,c,e,z⟩
  .exact .inl l
  .exact .inr ⟨k,c,e,J x c e _ z⟩
 .obtain ⟨v,z⟩:=I.cell x c e
  exact ⟨v,J x c e v z⟩
 .obtain ⟨m,⟨o,_,_,ho,_⟩,_⟩:=I.loc
  exact free _ o (fun z=>(O _ z).2.1 rfl) ho I.free
 .obtain ⟨v,o,ho,hd⟩:=I.cell x c e
  exact free c o (fun z=>(O c z).2.2.1 x c e rfl) ho (I.freeC x c e)
 .obtain ⟨e,n,ne,nf,d⟩:=I.pin p hp
  have U:p.1∉ch:=fun z=>(O p.1 z).2.2.2 p hp rfl
  exact ⟨keep p.1 p.2 ne nf U e n,free p.1 p.2 U e n,ne,nf,d⟩
theorem Inv.un {t':Nat} (I:Inv X pins σ H s) (u:Un X.fs [] H H' s.heap h') (J:HOk X.prog X.w H' h'):Inv X pins σ H' { s with heap:=h',toks:=t' }:=by
 obtain ⟨m,⟨o,es,ep,ho,r⟩,_⟩:=id I.loc
 obtain ⟨sl,hL⟩:=u.any ho I.free (by simp)
 exact I.step (g':=s.gens) (d':=s.drawn) (ch:=[]) (fun _ z=>nomatch z) (fun b o _ U _ e n=>u.keep b o e n U (by simp)) (fun b o _ U _ e n=>u.slot b o e n U (by simp)) (fun b o _ e n=>u.free b o e n (by simp)) (fun b o _ e=>u.there b o e (by simp)) u.tups u.frzs u.tbls (fun m' hm=>by
  obtain ⟨o',Z,O,B,r'⟩:=hm
  rw [ho] at B;cases B
  exact ⟨_,Z,O,hL,r'⟩) J I.bare
theorem Inv.call {g':Array GenState} {t':Nat} {d':Drawn} {ch:List Addr} (I:Inv X pins σ H s) (u:Un (frs X.stack) ch H H' s.heap h') (O:HOk X.prog X.w H' h') (hg:AllBare g')
  (B:∀ b∈ch,(b∈X.ex∨X.s₀.heap.objs.size <= b) /\ b≠X.env.locals /\ (∀ x c,X.env.cells.lookup x=some c->c≠b) /\ ∀ p∈X.pn++pins,p.1≠b) :
  Inv X pins σ H' { s with heap:=h',gens:=g',drawn:=d',toks:=t' }:=by
 obtain ⟨m,⟨o,es,ep,ho,r⟩,_⟩:=id I.loc
 obtain ⟨sl,U⟩:=u.any ho I.free fun z=>(B _ z).2.1 rfl
 exact I.step (ch:=ch) B (fun b o U hb hc e n=>u.keep b o e n (fun z=>(yAE.mp (I.stkSub b z)).elim U hb) hc) (fun b o _ _ hc e n=>u.any e n hc) (fun b o hc e n=>u.free b o e n hc) (fun b o hc e=>u.there b o e hc) u.tups u.frzs u.tbls (fun m' hm=>by
  obtain ⟨o',a0,Z,J,r'⟩:=hm
  rw [ho] at J;cases J
  exact ⟨_,a0,Z,U,r'⟩) O hg
theorem Inv.turned {t':Nat} {it:Addr} (I:Inv X pins σ H s) (k:∀ b o,b≠it->s.heap.get? b=some o->h'.get? b=some o) (hn:H it=none) (J:it≠X.env.locals)
  (h1:it∈X.ex∨X.s₀.heap.objs.size <= it) (h2:∀ x c,X.env.cells.lookup x=some c->c≠it) (h3:∀ p∈X.pn++pins,p.1≠it):Inv X pins σ H { s with heap:=h',toks:=t' }:=by
 have B:∀ b u,H b=some u->b≠it:=fun b u e z=>by rw [z,hn] at e;cases e
 refine I.step (g':=s.gens) (d':=s.drawn) (ch:=[it]) (fun b O=>?_) (fun b o _ _ hc e _=>k b o (fun z=>hc (by simp [z])) e) (fun b o _ _ hc e _=>⟨o.slots,k b o (fun z=>hc (by simp [z])) e⟩) (fun _ _ _ _ n=>n)
  (fun b o hc e=>⟨o,k b o (fun z=>hc (by simp [z])) e⟩) (fun _ _ e=>e) (fun _ _ _ e=>e) (fun b ps e=>⟨#[],by rw [e];simp⟩) (fun m Z=>?_) (fun b u e=>?_) I.bare
 .have e:b=it:=by simpa using O
  subst e
  exact ⟨h1,J,h2,h3⟩
 .obtain ⟨o,es,ep,U,r⟩:=Z
  exact ⟨o,es,ep,k _ o (Ne.symm J) U,r⟩
 .refine (I.hok b u e).stay (fun c v hc q=>k c v ?_ q) (fun _ q=>q) fun _ _ q=>q
  rcases hc with z | z
  .rw [z];exact B b u e
  .exact B c _ z
theorem Inv.tok (I:Inv X pins σ H s) (t:Nat):Inv X pins σ H { s with toks:=t }:=I.un (h':=s.heap) (t':=t) Un.refl I.hok
theorem Inv.kept {t':Nat} (I:Inv X pins σ H s) (k:∀ b u,s.heap.get? b=some u->h'.get? b=some u):Inv X pins σ H { s with heap:=h',toks:=t' }:=I.un (Un.kept k) (I.hok.kept k)
theorem Inv.laid {a:Addr} {o:HO} {t':Nat} (I:Inv X pins σ H s) (k:∀ b u,s.heap.get? b=some u->h'.get? b=some u) (B:s.heap.objs.size <= a) (new:ObjOk X.prog X.w (upd H a o) h' a o) :
  Inv X pins σ (upd H a o) { s with heap:=h',toks:=t' }:=I.un (Un.laid k B (I.hok.fresh B)) (I.hok.laid k B new)
theorem Inv.write {x e:Addr} {o:HO} {t':Nat} (I:Inv X pins σ H s) (J:Mut (H x)) (O:e=x∨H e=some (.own x)) (k:∀ b u,b≠e->s.heap.get? b=some u->h'.get? b=some u) (B:∃ u,h'.get? e=some u)
  (new:ObjOk X.prog X.w (upd H x o) h' x o):Inv X pins σ (upd H x o) { s with heap:=h',toks:=t' }:=I.un (Un.write J O k B) (I.hok.write J O k B new)
theorem Inv.pins_of {B:List (Addr×Obj)} (I:Inv X pins σ H s) (h:∀ p∈B,s.heap.get? p.1=some p.2 /\ H p.1=none /\ p.1≠X.env.locals /\ p.1∉X.fs /\ ∀ v,p.2.data≠.cell v):Inv X B σ H s :=
 ⟨I.ok,I.os,I.bare,I.base,I.loc,I.cell,I.free,I.freeC,fun p J=>(yAZ.mp J).elim (fun z=>I.pin p (yBU _ z)) (h p),I.hok,I.len⟩
theorem nodup_ix {N:List Str} (B:N.Nodup) {i j:Nat} {x:Str} (a:N[i]?=some x) (b:N[j]?=some x):i=j:=by
 obtain ⟨h1,J⟩:=yAI.mp a
 obtain ⟨h2,O⟩:=yAI.mp b
 exact (List.getElem_inj B).mp (J.trans O.symm)
theorem store_ok2 {M:Model} {A:Around} {E:Value->Shared->Prop} {i:Nat} {x:Str} {v:V} {u:Value} {Q:Unit->Shared->Prop} (I:Inv X pins σ H s) (hN:X.N.Nodup) (hi:X.N[i]?=some x) (O:Loc X.env.scope x) (r:RelV v u)
  (h:∀ s',Inv X pins (σ.set i (some v)) H s'->(∃ a,Heap.SameBut a s.heap s'.heap /\ (a=X.env.locals∨X.env.cells.lookup x=some a))->Q () s') (hf:X.fn x=true∨X.env.scope.names.lookup x=some .local:=by first | exact .inl rfl | exact .inr rfl | assumption):wpAny M A (storeName X.env x u) Q E s:=by
 obtain ⟨m,hn,hl⟩:=id I.loc
 have a5:(X.env.scope.kind == .class || (X.env.scope.kind == .module && X.env.locals != X.env.globals))=false:=by rw [I.ok.kind];rfl
 have a0:i < σ.length:=by rw [I.len];exact (yAI.mp hi).1
 have cne:=I.cne
 have J:∀ {a:Addr} {h':Heap},(∃ o,s.heap.get? a=some o /\ H a=none)->Heap.SameBut a s.heap h'->HOk X.prog X.w H h':=fun {a h'} ha hs b ob e=>by
  obtain ⟨_,_,U⟩:=ha
  refine (I.hok b ob e).stay (fun c w' hc q=>(hs.2 c ?_).trans q) (fun _ q=>q) fun _ _ q=>q
  rintro rfl
  rcases hc with rfl | hc
  .rw [U] at e;cases e
  .rw [U] at hc;cases hc
 rcases O with hk | hk
 .refine wpAny_storeName_local hk hn (fun h' a7 hs=>?_) a5
  obtain ⟨oL,_,_,a6,_⟩:=id hn
  refine h _ ⟨I.ok,I.os,I.bare,⟨fun b o e n hb O=>?_,fun b o e n hb O=>?_,I.base.free,fun b o e O=>?_,I.base.tups,I.base.frzs,I.base.tbls⟩,⟨_,a7,fun j y v' B Z e3=>?_⟩,fun y c e=>?_,I.free,I.freeC,fun p hp=>?_,J ⟨oL,a6,I.free⟩ hs,by simpa using I.len⟩ ⟨_,hs,.inl rfl⟩
  .exact (hs.2 b (yAM (yAW (Heap.lt_size e) I.ok.above))).trans (I.base.keep b o e n hb O)
  .obtain ⟨sl,B⟩:=I.base.slot b o e n hb O
   exact ⟨sl,(hs.2 b (yAM (yAW (Heap.lt_size e) I.ok.above))).trans B⟩
  .obtain ⟨o',B⟩:=I.base.there b o e O
   exact ⟨o',(hs.2 b (yAM (yAW (Heap.lt_size e) I.ok.above))).trans B⟩
  .by_cases hj:j=i
   .subst hj
    rw [hi] at B;cases B
    rw [List.getElem?_set_self a0] at Z
    cases Z
    exact ⟨u,r,.inl ⟨hk,by simp⟩⟩
   .rw [List.getElem?_set_ne (Ne.symm hj)] at Z
    obtain ⟨u',r',q⟩:=hl j y v' B Z e3
    refine ⟨u',r',?_⟩
    rcases q with ⟨k,e⟩ | ⟨k,c,e,z⟩
    .refine .inl ⟨k,?_⟩
     have:y≠x:=fun e=>hj (nodup_ix hN B (e ▸ hi))
     simp [this,e]
    .exact .inr ⟨k,c,e,z.sameBut hs (cne y c e)⟩
  .obtain ⟨w',z⟩:=I.cell y c e
   exact ⟨w',z.sameBut hs (cne y c e)⟩
  .obtain ⟨e,n,ne,nf,d⟩:=I.pin p hp
   exact ⟨(hs.2 p.1 ne).trans e,n,ne,nf,d⟩
 .have a1:X.fn x=true:=by
   rcases hf with z | z
   .exact z
   .rw [z] at hk;cases hk
  obtain ⟨c,hc⟩:=I.ok.has x (.inl hk)
  obtain ⟨w',z⟩:=I.cell x c hc
  refine wpAny_storeName_cell I.ok.kind hk hc z (fun h' a4 hs=>?_)
  obtain ⟨oc,a3,a2⟩:=id z
  refine h { s with heap:=h' } ⟨I.ok,I.os,I.bare,⟨fun b o e n hb O=>?_,fun b o e n hb O=>?_,I.base.free,fun b o e O=>?_,I.base.tups,I.base.frzs,I.base.tbls⟩,⟨m,hn.sameBut hs (Ne.symm (cne x c hc)),fun j y v' B Z e3=>?_⟩,fun y c' e=>?_,I.free,I.freeC,fun p hp=>?_,J ⟨oc,a3,I.freeC x c hc⟩ hs,by simpa using I.len⟩ ⟨c,hs,.inr hc⟩
  .exact (hs.2 b (yAM (yAW (Heap.lt_size e) (I.ok.cab x c a1 hc)))).trans (I.base.keep b o e n hb O)
  .obtain ⟨sl,B⟩:=I.base.slot b o e n hb O
   exact ⟨sl,(hs.2 b (yAM (yAW (Heap.lt_size e) (I.ok.cab x c a1 hc)))).trans B⟩
  .obtain ⟨o',B⟩:=I.base.there b o e O
   exact ⟨o',(hs.2 b (yAM (yAW (Heap.lt_size e) (I.ok.cab x c a1 hc)))).trans B⟩
  .by_cases hj:j=i
   .subst hj
    rw [hi] at B;cases B
    rw [List.getElem?_set_self a0] at Z
    cases Z
    exact ⟨u,r,.inr ⟨.inl hk,c,hc,a4⟩⟩
   .rw [List.getElem?_set_ne (Ne.symm hj)] at Z
    obtain ⟨u',r',q⟩:=hl j y v' B Z e3
    refine ⟨u',r',?_⟩
    rcases q with q | ⟨k,c',e,z'⟩
    .exact .inl q
    .refine .inr ⟨k,c',e,z'.sameBut hs ?_⟩
     rintro rfl
     exact hj (nodup_ix hN B (I.ok.inj _ _ _ e hc ▸ hi))
  .by_cases hcc:c'=c
   .subst hcc;exact ⟨_,a4⟩
   .obtain ⟨w2,z2⟩:=I.cell y c' e
    exact ⟨w2,z2.sameBut hs hcc⟩
  .obtain ⟨e,n,ne,nf,d⟩:=I.pin p hp
   refine ⟨(hs.2 p.1 ?_).trans e,n,ne,nf,d⟩
   intro q
   rw [q,a3] at e
   have q':oc=p.2:=Option.some.inj e
   exact d w' (by rw [<- q'];exact a2)
theorem ZCV {M:Model} {A:Around} {E:Value->Shared->Prop} {i:Nat} {x:Str} {v:V} {u:Value} {Q:Unit->Shared->Prop} (I:Inv X pins σ H s) (B:X.N.Nodup) (hi:X.N[i]?=some x) (O:Loc X.env.scope x) (r:RelV v u)
  (h:∀ s',Inv X pins (σ.set i (some v)) H s'->Q () s') (J:X.fn x=true∨X.env.scope.names.lookup x=some .local:=by first | exact .inl rfl | exact .inr rfl | assumption):wpAny M A (storeName X.env x u) Q E s :=
 store_ok2 I B hi O r (fun s' U _=>h s' U) J
theorem Inv.call' {s':Shared} {ch:List Addr} (I:Inv X pins σ H s) (U:s'.os=s.os) (u:Un (frs X.stack) ch H H' s.heap s'.heap) (B:HOk X.prog X.w H' s'.heap) (O:AllBare s'.gens)
  (J:∀ b∈ch,(b∈X.ex∨X.s₀.heap.objs.size <= b) /\ b≠X.env.locals /\ (∀ x c,X.env.cells.lookup x=some c->c≠b) /\ ∀ p∈X.pn++pins,p.1≠b):Inv X pins σ H' s':=by
 obtain ⟨h',g',d',t',o'⟩:=s'
 have e:o'=s.os:=U
 subst e
 exact I.call (g':=g') (t':=t') (d':=d') u B O J
end
noncomputable abbrev XK:=Value->Option Addr->Hp->Prop
noncomputable abbrev St:=List (Option V)
noncomputable abbrev VK:=V->Hp->Prop
noncomputable abbrev TE:=St->Hp->VK->Prop
noncomputable abbrev TT:=St->Hp->(Bool->Hp->Prop)->Prop
noncomputable abbrev TA:=St->Hp->(List V->Hp->Prop)->Prop
structure Ends where
 nx:St->Hp->Prop
 rt:VK
 bk:St->Hp->Prop:=fun _ _=>False
 ct:St->Hp->Prop:=fun _ _=>False
noncomputable abbrev TS:=Ends->St->Hp->Prop
noncomputable def EP (X:Cx) (pins:List (Addr×Obj)) (σ:St) (Q:VK) (u:Value) (s':Shared):Prop:=∃ v H',Inv X pins σ H' s' /\ RelV v u /\ Q v H'
noncomputable def TP (X:Cx) (pins:List (Addr×Obj)) (σ:St) (Q:Bool->Hp->Prop) (b:Bool) (s':Shared):Prop:=∃ H',Inv X pins σ H' s' /\ Q b H'
noncomputable def AP (X:Cx) (pins:List (Addr×Obj)) (σ:St) (Q:List V->Hp->Prop) (us:List Value) (s':Shared):Prop:=∃ vs H',Inv X pins σ H' s' /\ Vals vs us /\ Q vs H'
noncomputable def SP (X:Cx) (pins:List (Addr×Obj)) (D:Ends) (f:Flow) (s':Shared):Prop :=
 match f with
 | .next=>∃ σ' H',Inv X pins σ' H' s' /\ D.nx σ' H'
 | .brk=>∃ σ' H',Inv X pins σ' H' s' /\ D.bk σ' H'
 | .cont=>∃ σ' H',Inv X pins σ' H' s' /\ D.ct σ' H'
 | .ret u=>∃ v σ' H',Inv X pins σ' H' s' /\ RelV v u /\ D.rt v H'
noncomputable def PE (X:Cx) (e:Expr) (t:TE):Prop :=
 ∀ (pins:List (Addr×Obj)) (s:Shared) (σ:St) (H:Hp) (Q:VK),Inv X pins σ H s->t σ H Q->wpAny (model X.prog X.w) X.A (eval e X.env) (EP X pins σ Q) X.xe s
noncomputable def PT (X:Cx) (e:Expr) (t:TT):Prop :=
 ∀ (pins:List (Addr×Obj)) (s:Shared) (σ:St) (H:Hp) (Q:Bool->Hp->Prop),Inv X pins σ H s->t σ H Q->wpAny (model X.prog X.w) X.A (isTrue e X.env (eval e X.env)) (TP X pins σ Q) X.xe s
noncomputable def PW (X:Cx) (e:Expr) (t:TT):Prop :=
 ∀ (whole:Sem Value) (pins:List (Addr×Obj)) (s:Shared) (σ:St) (H:Hp) (Q:Bool->Hp->Prop),Inv X pins σ H s->t σ H Q->wpAny (model X.prog X.w) X.A (isTrue e X.env whole) (TP X pins σ Q) X.xe s
theorem PW.pt {X:Cx} {e:Expr} {t:TT} (h:PW X e t):PT X e t:=h _
noncomputable def PA (X:Cx) (es:List Expr) (t:TA):Prop :=
 ∀ (pos:Pos) (pins:List (Addr×Obj)) (s:Shared) (σ:St) (H:Hp) (Q:List V->Hp->Prop),Inv X pins σ H s->t σ H Q->wpAny (model X.prog X.w) X.A (spliced (backTo pos (starEach es X.env))) (AP X pins σ Q) X.xe s
noncomputable def PS (X:Cx) (st:Stmt) (t:TS):Prop :=
 ∀ (pins:List (Addr×Obj)) (s:Shared) (σ:St) (H:Hp) (D:Ends),Inv X pins σ H s->t D σ H->wpAny (model X.prog X.w) X.A (exec st X.env) (SP X pins D) X.xe s
noncomputable def PSs (X:Cx) (st:List Stmt) (t:TS):Prop :=
 ∀ (pins:List (Addr×Obj)) (s:Shared) (σ:St) (H:Hp) (D:Ends),Inv X pins σ H s->t D σ H->wpAny (model X.prog X.w) X.A (execs st X.env) (SP X pins D) X.xe s
theorem thn {α:Type} {t:Sem α} {Q Q':α->Shared->Prop} {M:Model} {A:Around} {E:Value->Shared->Prop} {s:Shared} (h:wpAny M A t Q E s) (B:∀ a s,Q a s->Q' a s):wpAny M A t Q' E s:=wpAny_mono h B fun _ _ x=>x
section
variable {X:Cx}
noncomputable def tVar (i:Nat):TE:=fun σ H Q=>∃ v,σ[i]?=some (some v) /\ Q v H
noncomputable def tC (v:V):TE:=fun _ H Q=>Q v H
theorem pe_var {i:Nat} {x:Str} {pos:Pos} (Z:X.N[i]?=some x) (hv:Vis X.env.scope x) (O:(x == ("__debug__":Str))=false:=by decide) (U:(x == ("__classdict__":Str))=false:=by decide):PE X (.Name x pos) (tVar i):=by
 intro pins s σ H Q I h
 obtain ⟨v,e,h⟩:=h
 obtain ⟨m,hn,hl⟩:=I.loc
 obtain ⟨u,r,l⟩:=hl i x v Z e hv
 have fin:EP X pins σ Q u s:=⟨v,H,I,r,h⟩
 rcases l with ⟨J,hm⟩ | ⟨J,c,hc,B⟩
 .exact wpAny_Name (wpAny_loadName_local I.ok.kind J hn hm fin) O
 .rcases J with J | J
  .exact wpAny_Name (wpAny_loadName_cell I.ok.kind J hc B fin) O
  .exact wpAny_Name (wpAny_loadName_free I.ok.kind J hc B fin U) O
theorem ZAF {i j pos}:PE X (.Constant (.int i) j pos) (tC (.int i)):=fun _ _ _ H _ I h=>wpAny_Constant_int ⟨.int i,H,I.tok _,⟨_,rfl⟩,h⟩
theorem ZEf {b j pos}:PE X (.Constant (.bool b) j pos) (tC (.bl b)):=fun _ _ _ H _ I h=>Constant_bool ⟨.bl b,H,I,rfl,h⟩
theorem ZCr {j pos}:PE X (.Constant .none j pos) (tC .non):=fun _ _ _ H _ I h=>Constant_none ⟨.non,H,I,rfl,h⟩
theorem ZEI {x j pos}:PE X (.Constant (.str x) j pos) (tC (.str x)):=fun _ _ _ H _ I h=>Calls.Constant_str ⟨.str x,H,I.tok _,⟨_,rfl⟩,h⟩
noncomputable def Gl (X:Cx) (x:Str):Prop:=X.env.kindOf x=some .globalImplicit
theorem ZD7 {E:Value->Shared->Prop} {pins:List (Addr×Obj)} {s:Shared} {σ:St} {H:Hp} {x:Str} {u:Value} {pos:Pos} {Q:Value->Shared->Prop} (I:Inv X pins σ H s) (B:Gl X x) (J:X.mg x=some u) (h:Q u s)
  (O:(x == ("__debug__":Str))=false:=by decide):wpAny (model X.prog X.w) X.A (eval (.Name x pos) X.env) Q E s :=
 Calls.Name_function_global I.ok.kind B (Calls.loadGlobal_global (by rw [I.ok.glob];exact I.mod.glob.keeps I.bk) J h) O
theorem ZCs {E:Value->Shared->Prop} {pins:List (Addr×Obj)} {s:Shared} {σ:St} {H:Hp} {x:Str} {u:Value} {pos:Pos} {Q:Value->Shared->Prop} (I:Inv X pins σ H s) (B:Gl X x) (O:X.mg x=none) (J:bootBuiltins x=some u) (h:Q u s)
  (hn:x≠"__name__":=by decide) (U:(x == ("__debug__":Str))=false:=by decide):wpAny (model X.prog X.w) X.A (eval (.Name x pos) X.env) Q E s:=by
 obtain ⟨Z,h1,h2⟩:=I.mod.blt
 exact Calls.Name_function_global I.ok.kind B (Calls.loadGlobal_builtin (by rw [I.ok.glob];exact I.mod.glob.keeps I.bk) O (by rw [I.ok.blt];exact h1.keeps I.bk) ((h2 x hn).trans J) h) U
theorem pe_glob {x:Str} {v:V} {u:Value} {pos:Pos} (J:Gl X x) (O:X.mg x=some u) (r:RelV v u) (B:(x == ("__debug__":Str))=false:=by decide):PE X (.Name x pos) (tC v) :=
 fun _ _ _ H _ I h=>ZD7 I J O ⟨v,H,I,r,h⟩ B
variable {a b:Expr} {ta tb:TE} {pos:Pos}
noncomputable def tB (t:TE):TT:=fun σ H Q=>t σ H fun x H1=>∃ c,x=.bl c /\ Q c H1
theorem ZB2 {e:Expr} {t:TE} (h:PE X e t) (B:∀ whole,isTrue e X.env whole=(do let v <- whole;standAt e.pos;holding [v] (truthy v)):=by intro _;rfl):PT X e (tB t):=by
 intro pins s σ H Q I hw
 refine isTrue_plain (thn (h pins s σ H _ I hw) fun v s1 J=>?_) (B _)
 obtain ⟨x,H1,O,r1,U⟩:=J
 obtain ⟨d,rfl,q⟩:=U
 cases r1
 exact wpAny_truthy_bool ⟨H1,O,q⟩
variable {tA tB':TT} {rest:List Expr}
noncomputable def tAnd (t u:TT):TT:=fun σ H Q=>t σ H fun c H1=>if c=true then u σ H1 Q else Q false H1
noncomputable def tOr (t u:TT):TT:=fun σ H Q=>t σ H fun c H1=>if c=true then Q true H1 else u σ H1 Q
noncomputable def tNot (t:TT):TT:=fun σ H Q=>t σ H fun c H1=>Q (!c) H1
theorem ZCO (ha:PT X a tA):PW X (.BoolOp .And [a] pos) tA:=by
 intro B pins s σ H Q I h
 refine isTrue_and (thn (ha pins s σ H Q I h) fun c s1 e=>?_)
 cases c with
 | true=>exact isTrue_and_nil e
 | false=>exact e
theorem pw_or1 (ha:PT X a tA):PW X (.BoolOp .Or [a] pos) tA:=by
 intro B pins s σ H Q I h
 refine isTrue_or (thn (ha pins s σ H Q I h) fun c s1 e=>?_)
 cases c with
 | false=>exact isTrue_or_nil e
 | true=>exact e
theorem ZCq (ha:PT X a tA) (O:PW X (.BoolOp .And (b::rest) pos) tB'):PW X (.BoolOp .And (a::b::rest) pos) (tAnd tA tB'):=by
 intro U pins s σ H Q I h
 refine isTrue_and (thn (ha pins s σ H _ I h) fun c s1 ⟨H1,B,J⟩=>?_)
 cases c with
 | true=>exact O U pins s1 σ H1 Q B J
 | false=>exact ⟨H1,B,J⟩
theorem pw_or (ha:PT X a tA) (O:PW X (.BoolOp .Or (b::rest) pos) tB'):PW X (.BoolOp .Or (a::b::rest) pos) (tOr tA tB'):=by
 intro U pins s σ H Q I h
 refine isTrue_or (thn (ha pins s σ H _ I h) fun c s1 ⟨H1,B,J⟩=>?_)
 cases c with
 | true=>exact ⟨H1,B,J⟩
 | false=>exact O U pins s1 σ H1 Q B J
theorem pt_not (ha:PT X a tA):PT X (.UnaryOp .Not a pos) (tNot tA):=by
 intro pins s σ H Q I h
 exact isTrue_not (ha pins s σ H (fun c H1=>Q (!c) H1) I h)
noncomputable def ZE3 (ta tb:TE):TE:=fun σ H Q=>ta σ H fun x H1=>∃ c,x=.bl c /\ if c=true then tb σ H1 Q else Q (.bl false) H1
noncomputable def tOrV (ta tb:TE):TE:=fun σ H Q=>ta σ H fun x H1=>∃ c,x=.bl c /\ if c=true then Q (.bl true) H1 else tb σ H1 Q
noncomputable def ZE1 (ta:TE):TE:=fun σ H Q=>ta σ H fun x H1=>∃ c,x=.bl c /\ Q (.bl (!c)) H1
theorem pe_one {op} {t:TE} (h:PE X a t):PE X (.BoolOp op [a] pos) t:=fun pins s σ H Q I hw=>BoolOp_one (h pins s σ H Q I hw)
theorem pe_and (ha:PE X a ta) (O:PE X (.BoolOp .And (b::rest) pos) tb):PE X (.BoolOp .And (a::b::rest) pos) (ZE3 ta tb):=by
 intro pins s σ H Q I h
 refine BoolOp_and (thn (ha pins s σ H _ I h) fun v s1 U=>?_)
 obtain ⟨x,H1,J,r1,B⟩:=U
 obtain ⟨c,rfl,B⟩:=B
 cases r1
 refine wpAny_truthy_bool ?_
 cases c with
 | true=>exact O pins s1 σ H1 Q J B
 | false=>exact ⟨.bl false,H1,J,rfl,B⟩
theorem pe_not (ha:PE X a ta):PE X (.UnaryOp .Not a pos) (ZE1 ta):=by
 intro pins s σ H Q I h
 refine UnaryOp_ (thn (ha pins s σ H _ I h) fun v s1 J=>?_)
 obtain ⟨x,H1,O,r1,B⟩:=J
 obtain ⟨c,rfl,B⟩:=B
 cases r1
 exact not_of (wpAny_truthy_bool ⟨.bl (!c),H1,O,rfl,B⟩)
noncomputable def tIf (t:TT) (ta tb:TE):TE:=fun σ H Q=>t σ H fun c H1=>if c=true then ta σ H1 Q else tb σ H1 Q
theorem ZBV {c:Expr} (hc:PT X c tA) (ha:PE X a ta) (O:PE X b tb):PE X (.IfExp c a b pos) (tIf tA ta tb):=by
 intro pins s σ H Q I h
 refine wpAny_IfExp (thn (hc pins s σ H _ I h) fun d s1 ⟨H1,B,J⟩=>?_)
 cases d with
 | true=>exact ha pins s1 σ H1 Q B J
 | false=>exact O pins s1 σ H1 Q B J
end
noncomputable def SqL (K:W.Frag) (H:Hp) (a:Addr) (xs:List V):Prop :=
 Rd H a (.lst xs) ∨
  ∃ (o:Obj) (its:Array Value) (n:Nat),K.lookup a=some o /\ o.cls=.type "list" /\ o.dict=none /\ o.data=.seq its n /\ its.size <= sizeLine /\ Vals xs its.toList
noncomputable def SqT (K:W.Frag) (H:Hp) (a:Addr) (xs:List V):Prop :=
 Rd H a (.tup xs) ∨
  ∃ (o:Obj) (its:Array Value) (n:Nat),K.lookup a=some o /\ o.cls=.type "tuple" /\ o.data=.seq its n /\ its.size <= sizeLine /\ Vals xs its.toList
noncomputable def absV:Value->Option V
 | .none=>some .non
 | .bool b=>some (.bl b)
 | .int i _=>some (.int i)
 | .str x _=>some (.str x)
 | .bytes b _=>some (.byt b)
 | .float b _=>some (.flt b)
 | .ref a=>some (.ref a)
 | .type n=>some (.ty n)
 | _=>none
theorem RelV.abs {x:V} {u:Value} (r:RelV x u):absV u=some x:=by
 cases x with
 | non=>cases r;rfl
 | bl _=>cases r;rfl
 | int _=>obtain ⟨t,rfl⟩:=r;rfl
 | str _=>obtain ⟨t,rfl⟩:=r;rfl
 | byt _=>obtain ⟨t,rfl⟩:=r;rfl
 | flt _=>obtain ⟨t,rfl⟩:=r;rfl
 | ref _=>cases r;rfl
 | ty _=>cases r;rfl
theorem RelV.inj {x y:V} {u:Value} (r:RelV x u) (q:RelV y u):x=y:=Option.some.inj (r.abs.symm.trans q.abs)
theorem Vals.inj:∀ {xs ys:List V} {us:List Value},Vals xs us->Vals ys us->xs=ys
 | _,_,_,.nil,.nil=>rfl
 | _,_,_,.cons r t,.cons r' t'=>by rw [r.inj r',Vals.inj t t']
section
variable {X:Cx} {pins:List (Addr×Obj)} {σ:St} {H:Hp} {s:Shared} {a:Addr} {xs ys:List V}
theorem SqL.of {K:W.Frag} (h:H a=some (.lst xs)):SqL K H a xs:=.inl (.inl h)
theorem SqT.of {K:W.Frag} (h:H a=some (.tup xs)):SqT K H a xs:=.inl (.inl h)
theorem Inv.list (I:Inv X pins σ H s) (h:SqL X.K H a xs):∃ its:List Value,Vals xs its /\ PlainL s.heap a its.toArray /\ xs.length <= sizeLine:=by
 rcases h with h | ⟨o,its,n,B,hc,J,hs,O,r⟩
 .obtain ⟨z,its,n,r,e⟩:=h.ok I.hok
  exact ⟨its,r,⟨_,n,e,rfl,rfl,rfl⟩,z⟩
 .refine ⟨its.toList,r,⟨o,n,I.kIn a o B,hc,J,by simpa using hs⟩,?_⟩
  have e:=r.length
  simp only [yAN] at e
  omega
theorem Inv.tuple (I:Inv X pins σ H s) (h:SqT X.K H a xs):∃ its:List Value,Vals xs its /\ IsTup s.heap a its.toArray /\ xs.length <= sizeLine:=by
 rcases h with h | ⟨o,its,n,B,hc,hs,J,r⟩
 .obtain ⟨z,its,r,p⟩:=h.ok I.hok
  exact ⟨its,r,p,z⟩
 .refine ⟨its.toList,r,⟨o,I.kIn a o B,hc,n,by simpa using hs⟩,?_⟩
  have e:=r.length
  simp only [yAN] at e
  omega
theorem Inv.list_inj (I:Inv X pins σ H s) (h:SqL X.K H a xs) (h':SqL X.K H a ys):xs=ys:=by
 obtain ⟨its,r,⟨o,n,e,_,_,d⟩,_⟩:=I.list h
 obtain ⟨its',r',⟨o',n',B,_,_,d'⟩,_⟩:=I.list h'
 rw [e] at B;cases B
 rw [d] at d'
 injection d' with d1 _
 have:its=its':=by simpa using congrArg Array.toList d1
 subst this
 exact r.inj r'
end
noncomputable abbrev Cx.wish (X:Cx) (E:Value->Shared->Prop):Cx:={ X with xe:=E }
noncomputable abbrev Cx.nox (X:Cx):Cx:=X.wish fun _ _=>False
theorem Cx.Ok.wish {X:Cx} (ok:X.Ok) (E:Value->Shared->Prop):(X.wish E).Ok :=
 ⟨ok.mod,ok.kind,ok.glob,ok.blt,ok.above,ok.inj,ok.has,ok.cab,ok.hd,ok.frames,ok.stk,ok.exf,ok.bs,ok.bsz,ok.noex,ok.exfs,ok.funs,ok.frf⟩
theorem Cx.Ok.unwish {X:Cx} {E:Value->Shared->Prop} (ok:(X.wish E).Ok):X.Ok :=
 ⟨ok.mod,ok.kind,ok.glob,ok.blt,ok.above,ok.inj,ok.has,ok.cab,ok.hd,ok.frames,ok.stk,ok.exf,ok.bs,ok.bsz,ok.noex,ok.exfs,ok.funs,ok.frf⟩
section
variable {X:Cx} {pins:List (Addr×Obj)} {σ:St} {H:Hp} {s:Shared} {E:Value->Shared->Prop}
theorem Inv.wish (I:Inv X pins σ H s) (E:Value->Shared->Prop):Inv (X.wish E) pins σ H s:=⟨I.ok.wish E,I.os,I.bare,I.base,I.loc,I.cell,I.free,I.freeC,I.pin,I.hok,I.len⟩
theorem Inv.unwish (I:Inv (X.wish E) pins σ H s):Inv X pins σ H s:=⟨I.ok.unwish,I.os,I.bare,I.base,I.loc,I.cell,I.free,I.freeC,I.pin,I.hok,I.len⟩
theorem SP.unwish {D:Ends} {f:Flow} {s':Shared} (h:SP (X.wish E) pins D f s'):SP X pins D f s':=by
 cases f with
 | next=>obtain ⟨B,H',I,q⟩:=h;exact ⟨B,H',I.unwish,q⟩
 | brk=>obtain ⟨B,H',I,q⟩:=h;exact ⟨B,H',I.unwish,q⟩
 | cont=>obtain ⟨B,H',I,q⟩:=h;exact ⟨B,H',I.unwish,q⟩
 | ret u=>obtain ⟨v,B,H',I,r,q⟩:=h;exact ⟨v,B,H',I.unwish,r,q⟩
theorem PSs.nox {st:List Stmt} {t:TS} (h:PSs X.nox st t):PSs X st t:=fun pins s σ H D I hw=>
 wpAny_mono (h pins s σ H D (I.wish _) hw) (fun _ _ q=>q.unwish) fun _ _ z=>False.elim z
end
section
variable {X:Cx} {st:Stmt} {rest:List Stmt} {t u:TS} {e:Expr} {te:TE} {pos:Pos}
noncomputable def ZEq:TS:=fun D σ H=>D.nx σ H
noncomputable def tSeq (t u:TS):TS:=fun D σ H=>t { D with nx:=u D } σ H
theorem ZAh:PSs X [] ZEq:=fun _ _ σ H _ I h=>wpAny_execs_nil ⟨σ,H,I,h⟩
theorem ZAB (h1:PS X st t) (h2:PSs X rest u):PSs X (st::rest) (tSeq t u):=by
 intro pins s σ H D I h
 refine wpAny_execs_cons (thn (h1 pins s σ H { D with nx:=u D } I h) fun f s1 q=>?_)
 cases f with
 | next=>
  obtain ⟨B,H',J,q⟩:=q
  exact h2 pins s1 B H' D J q
 | ret v=>exact q
 | brk=>exact q
 | cont=>exact q
theorem ZAI (h1:PS X st t):PSs X [st] t:=by
 intro pins s σ H D I h
 refine wpAny_execs_cons (thn (h1 pins s σ H D I h) fun f s1 q=>?_)
 cases f with
 | next=>exact wpAny_execs_nil q
 | ret v=>exact q
 | brk=>exact q
 | cont=>exact q
theorem ps_pass:PS X (.Pass pos) ZEq:=fun _ _ σ H _ I h=>wpAny_Pass ⟨σ,H,I,h⟩
theorem Inv.quiet {pins:List (Addr×Obj)} {σ:St} {H:Hp} {s:Shared} (I:Inv X pins σ H s):interactive X.env=false:=by simp [interactive,I.ok.kind]
noncomputable def ZE2 (te:TE):TS:=fun D σ H=>te σ H fun _ H1=>D.nx σ H1
theorem ZAn (B:PE X e te) (hs:swapsWith e none pos.line X.env=pure false:=by rfl):PS X (.Expr e pos) (ZE2 te):=by
 intro pins s σ H D I h
 exact wpAny_Expr_any (thn (B pins s σ H _ I h) fun v s1 ⟨x,H1,J,r1,O⟩=>⟨σ,H1,J,O⟩) I.quiet hs
noncomputable def tRet (te:TE):TS:=fun D σ H=>te σ H D.rt
theorem ZAX (B:PE X e te):PS X (.Return (some e) pos) (tRet te):=by
 intro pins s σ H D I h
 exact wpAny_Return_some (thn (B pins s σ H _ I h) fun v s1 ⟨x,H1,J,r1,O⟩=>⟨x,σ,H1,J,r1,O⟩)
noncomputable def tRetN:TS:=fun D _ H=>D.rt .non H
noncomputable def tIfS (c:TT) (t u:TS):TS:=fun D σ H=>c σ H fun b H1=>if b=true then t D σ H1 else u D σ H1
theorem ZBQ {c:Expr} {a b:List Stmt} {tc:TT} (hc:PT X c tc) (ha:PSs X a t) (O:PSs X b u):PS X (.If c a b pos) (tIfS tc t u):=by
 intro pins s σ H D I h
 refine wpAny_If (thn (hc pins s σ H _ I h) fun d s1 ⟨H1,B,J⟩=>?_)
 cases d with
 | true=>exact ha pins s1 σ H1 D B J
 | false=>exact O pins s1 σ H1 D B J
noncomputable def ZEV:TS:=fun _ _ _=>False
theorem ps_never:PS X st ZEV:=fun _ _ _ _ _ _ h=>h.elim
end
noncomputable abbrev TG:=V->St->Hp->(St->Hp->Prop)->Prop
noncomputable abbrev TGs:=List V->St->Hp->(St->Hp->Prop)->Prop
noncomputable def PG (X:Cx) (target:Expr) (t:TG):Prop :=
 ∀ (pins:List (Addr×Obj)) (s:Shared) (σ:St) (H:Hp) (v:V) (u:Value) (Q:St->Hp->Prop),Inv X pins σ H s->RelV v u->t v σ H Q ->
  wpAny (model X.prog X.w) X.A (assign target X.env u) (fun _ s'=>∃ σ' H',Inv X pins σ' H' s' /\ Q σ' H') X.xe s
noncomputable def PGs (X:Cx) (ts:List Expr) (t:TGs):Prop :=
 ∀ (pins:List (Addr×Obj)) (s:Shared) (σ:St) (H:Hp) (vs:List V) (us:List Value) (Q:St->Hp->Prop),Inv X pins σ H s->Vals vs us->t vs σ H Q ->
  wpAny (model X.prog X.w) X.A (assignInOrder ((assignEach ts X.env).map (·.2)) us) (fun _ s'=>∃ σ' H',Inv X pins σ' H' s' /\ Q σ' H') X.xe s
noncomputable abbrev TSet:=V->V->V->Hp->(Hp->Prop)->Prop
noncomputable def PSet (X:Cx) (t:TSet):Prop :=
 ∀ (pins:List (Addr×Obj)) (s:Shared) (σ:St) (H:Hp) (o i v:V) (ov iv u:Value) (Q:Hp->Prop),Inv X pins σ H s->RelV o ov->RelV i iv->RelV v u->t o i v H Q ->
  wpAny (model X.prog X.w) X.A (setItem ov iv u) (fun _ s'=>∃ H',Inv X pins σ H' s' /\ Q H') X.xe s
noncomputable abbrev TIp:=V->V->Hp->VK->Prop
noncomputable def PIp (X:Cx) (op:Operator) (t:TIp):Prop :=
 ∀ (pins:List (Addr×Obj)) (s:Shared) (σ:St) (H:Hp) (x y:V) (v u:Value) (Q:VK),Inv X pins σ H s->RelV x v->RelV y u->t x y H Q ->
  wpAny (model X.prog X.w) X.A (inplaceOp op v u) (EP X pins σ Q) X.xe s
section
variable {X:Cx} {pos:Pos}
noncomputable def ZEj (i:Nat):TG:=fun v σ H Q=>Q (σ.set i (some v)) H
theorem ZBI {i:Nat} {x:Str} (B:X.N.Nodup) (hi:X.N[i]?=some x) (J:Loc X.env.scope x) (U:X.fn x=true∨X.env.scope.names.lookup x=some .local:=by first | exact .inl rfl | exact .inr rfl | assumption):PG X (.Name x pos) (ZEj i):=by
 intro pins s σ H v u Q I r h
 exact wpAny_assign_Name (ZCV I B hi J r (fun s' O=>⟨_,H,O,h⟩) U)
noncomputable def gNil:TGs:=fun vs σ H Q=>vs=[] /\ Q σ H
noncomputable def ZFD (t:TG) (u:TGs):TGs:=fun vs σ H Q=>∃ v r,vs=v::r /\ t v σ H fun σ' H'=>u r σ' H' Q
theorem pgs_nil:PGs X [] gNil:=by
 intro pins s σ H vs us Q I r h
 obtain ⟨e,h⟩:=h
 subst e
 cases r
 exact assignInOrder_nil ⟨σ,H,I,h⟩
theorem ZCw {e:Expr} {es:List Expr} {t:TG} {u:TGs} (h1:PG X e t) (h2:PGs X es u)
  (hs:(assignEach (e::es) X.env).map (·.2)=assign e X.env::(assignEach es X.env).map (·.2):=by rfl):PGs X (e::es) (ZFD t u):=by
 intro pins s σ H vs us Q I r h
 obtain ⟨v,vr,J,h⟩:=h
 subst J
 cases r with
 | cons r rr=>
  rw [hs]
  refine assignInOrder_cons (thn (h1 pins s σ H _ _ _ I r h) fun _ s1 O=>?_)
  obtain ⟨B,H1,U,Z⟩:=O
  exact h2 pins s1 B H1 _ _ Q U rr Z
noncomputable def gTup (K:W.Frag) (n:Nat) (t:TGs):TG:=fun v σ H Q=>∃ a xs,v=.ref a /\ SqT K H a xs /\ xs.length=n /\ t xs σ H Q
theorem pg_tup {es:List Expr} {k:Nat} {t:TGs} {n:Nat} (hc:X.calm=true) (h:PGs X es t)
  (hn:(assignEach es X.env).length=n:=by rfl) (B:(assignEach es X.env).findIdx? (·.1)=none:=by rfl):PG X (.Tuple es k pos) (gTup X.K n t):=by
 intro pins s σ H v u Q I r hw
 obtain ⟨a,xs,O,hq,hl,hw⟩:=hw
 subst O
 cases r
 obtain ⟨its,J,Z,hz⟩:=I.tuple hq
 refine assign_Tuple_tuple (I.ok.hd hc) Z (by simp [hn,<- hl,J.length]) B fun h' U=>?_
 have I1:Inv X pins σ H { s with heap:=h' }:=I.kept (t':=s.toks) fun b o e=>U b o (yAM (Heap.lt_size e)) e
 exact h pins _ σ H xs _ Q I1 (by simpa using J) hw
noncomputable def gSub (to ti:TE) (t:TSet):TG:=fun v σ H Q=>to σ H fun o H1=>ti σ H1 fun i H2=>t o i v H2 fun H3=>Q σ H3
theorem pg_sub {o i:Expr} {to ti:TE} {t:TSet} (Z:PE X o to) (hi:PE X i ti) (hs:PSet X t)
  (ha:∀ v,assign (.Subscript o i pos) X.env v=(do
   let B <- holding [v] (eval o X.env)
   let J <- holding [v,B] (eval i X.env)
   standAt pos
   holding [v,B,J] (setItem B J v)
   release [v,B,J] []):=by intro _;rfl):PG X (.Subscript o i pos) (gSub to ti t):=by
 intro pins s σ H v u Q I r h
 rw [ha]
 refine wpAny_bind (wpAny_holding (thn (Z pins s σ H _ I h) fun B s1 O=>?_))
 obtain ⟨x,H1,I1,r1,q1⟩:=O
 refine wpAny_bind (wpAny_holding (thn (hi pins s1 σ H1 _ I1 q1) fun J s2 O=>?_))
 obtain ⟨y,H2,I2,r2,q2⟩:=O
 refine wpAny_bind (wpAny_standAt (wpAny_bind (wpAny_holding (thn (hs pins s2 σ H2 x y v B J u _ I2 r1 r2 r q2) fun _ s3 ⟨U,I3,q3⟩=>?_))))
 exact wpAny_release ⟨σ,U,I3,q3⟩
noncomputable def tAsg (te:TE) (g:TG):TS:=fun D σ H=>te σ H fun x H1=>g x σ H1 D.nx
theorem ps_asg {tg e:Expr} {te:TE} {g:TG} (B:PE X e te) (J:PG X tg g) (hs:swapsWithSole [tg] e pos.line X.env=pure false:=by rfl) (hw:swappedStores [tg] e X.env=pure none:=by rfl)
  (h1:(assignEach [tg] X.env).map (·.2)=[assign tg X.env]:=by rfl):PS X (.Assign [tg] e pos) (tAsg te g):=by
 intro pins s σ H D I h
 refine wpAny_Assign_stores (thn (B pins s σ H _ I h) fun v s1 O=>?_) hs hw
 obtain ⟨x,H1,U,r1,Z⟩:=O
 rw [h1]
 exact thn (J pins s1 σ H1 x v _ U r1 Z) fun _ s2 q=>q
theorem ZAL {i:Nat} {x:Str} {e:Expr} {te:TE} {pos':Pos} (Z:X.N.Nodup) (hi:X.N[i]?=some x) (B:Loc X.env.scope x) (J:PE X e te) (hs:swapsWith e (some (.Name x pos')) pos.line X.env=pure false:=by rfl) (U:X.fn x=true∨X.env.scope.names.lookup x=some .local:=by first | exact .inl rfl | exact .inr rfl | assumption) :
  PS X (.Assign [.Name x pos'] e pos) (tAsg te (ZEj i)):=by
 intro pins s σ H D I h
 refine wpAny_Assign_Name (thn (J pins s σ H _ I h) fun v s1 zz=>?_) hs
 obtain ⟨y,H1,I1,r1,q1⟩:=zz
 exact ZCV I1 Z hi B r1 (fun s2 O=>⟨_,H1,O,q1⟩) U
noncomputable def tAug (i:Nat) (te:TE) (ti:TIp):TS:=fun D σ H=>∃ x,σ[i]?=some (some x) /\ te σ H fun y H1=>ti x y H1 fun z H2=>D.nx (σ.set i (some z)) H2
theorem ZEH {i:Nat} {x:Str} {e:Expr} {te:TE} {op:Operator} {ti:TIp} {pos':Pos} (hN:X.N.Nodup) (hi:X.N[i]?=some x) (Z:Loc X.env.scope x) (he:PE X e te) (ho:PIp X op ti) (hf:X.fn x=true∨X.env.scope.names.lookup x=some .local:=by first | exact .inl rfl | exact .inr rfl | assumption) :
  PS X (.AugAssign (.Name x pos') op e pos) (tAug i te ti):=by
 intro pins s σ H D I h
 obtain ⟨v,e1,h⟩:=h
 obtain ⟨m,hn,hl⟩:=I.loc
 have a0:Vis X.env.scope x:=by rcases Z with k | k;exact .inl k;exact .inr (.inl k)
 obtain ⟨u,r,l⟩:=hl i x v hi e1 a0
 refine wpAny_AugAssign_Name ?_
 have go:wpAny (model X.prog X.w) X.A (eval e X.env) (fun w U=>wpAny (model X.prog X.w) X.A (inplaceOp op u w) (fun r O=>wpAny (model X.prog X.w) X.A (storeName X.env x r) (fun _=>SP X pins D .next) X.xe O) X.xe U) X.xe s:=by
  refine thn (he pins s σ H _ I h) fun w s1 zz=>?_
  obtain ⟨y,H1,I1,r1,q1⟩:=zz
  refine thn (ho pins s1 σ H1 v y u w _ I1 r r1 q1) fun z s2 zz=>?_
  obtain ⟨zv,H2,I2,r2,q2⟩:=zz
  exact ZCV I2 hN hi Z r2 (fun s3 I3=>⟨_,H2,I3,q2⟩) hf
 rcases l with ⟨B,hm⟩ | ⟨B,c,hc,J⟩
 .exact wpAny_loadName_local I.ok.kind B hn hm go
 .rcases B with B | B
  .exact wpAny_loadName_cell I.ok.kind B hc J go
  .rcases Z with k | k
   .have:X.env.scope.names.lookup x=some .free:=B
    rw [k] at this;cases this
   .have:X.env.scope.names.lookup x=some .free:=B
    rw [k] at this;cases this
noncomputable def ipI (f:Int->Int->Int):TIp:=fun x y H Q=>∃ i j,x=.int i /\ y=.int j /\ Q (.int (f i j)) H
theorem ZEN:PIp X .Add (ipI fun i j=>i+j):=by
 intro pins s σ H x y v u Q I r1 r2 h
 obtain ⟨i,j,B,J,q⟩:=h
 subst B;subst J
 obtain ⟨t,rfl⟩:=r1
 obtain ⟨t',rfl⟩:=r2
 exact iadd_int ⟨.int _,H,I.tok _,⟨_,rfl⟩,q⟩
end
section
variable {X:Cx} {pos:Pos}
noncomputable def tWhile (c:TT) (tb:TS):TS:=fun D σ H=>∃ W:Nat->St->Hp->Prop,(∃ m,W m σ H) /\ ∀ m σ H,W m σ H ->
 c σ H fun b H1=>if b=true then ∃ N:St->Hp->Prop,(∀ σ' H',N σ' H'->∃ m',m' < m /\ W m' σ' H') /\ tb { D with nx:=N,ct:=N,bk:=D.nx } σ H1 else D.nx σ H1
theorem ZBN {c:Expr} {body:List Stmt} {tc:TT} {tb:TS} (hp:PassesOwn (model X.prog X.w) X.A X.env X.xe) (hc:PT X c tc) (hb:PSs X body tb):PS X (.While c body [] pos) (tWhile tc tb):=by
 intro pins s σ H D I h
 obtain ⟨W,⟨m0,w0⟩,U⟩:=h
 refine wpAny_While (codeAny_whileLoop (fun n s'=>∃ O H',Inv X pins O H' s' /\ W n O H') ?_ m0 ⟨σ,H,I,w0⟩)
 rintro n s1 ⟨J,H1,I1,w1⟩
 refine wpAny_passesOwn hp (thn (hc pins s1 J H1 _ I1 (U n J H1 w1)) fun b s2 ⟨H2,I2,q2⟩=>?_)
 cases b with
 | true=>
  obtain ⟨N,hN,q2⟩:=q2
  rw [if_pos rfl]
  refine wpAny_passesOwn hp (thn (hb pins s2 J H2 _ I2 q2) fun f s3 q3=>?_)
  cases f with
  | next=>
   obtain ⟨B,Z,I3,n3⟩:=q3
   obtain ⟨m',hm,w3⟩:=hN B Z n3
   exact ⟨m',hm,B,Z,I3,w3⟩
  | cont=>
   obtain ⟨B,Z,I3,n3⟩:=q3
   obtain ⟨m',hm,w3⟩:=hN B Z n3
   exact ⟨m',hm,B,Z,I3,w3⟩
  | brk=>exact q3
  | ret v=>exact q3
 | false=>
  rw [if_neg yBG]
  exact wpAny_execs_nil ⟨J,H2,I2,q2⟩
end
structure It where
 go:Nat->Hp->Prop
 yld:Nat->Hp->V->Hp->Prop
 stop:Nat->Hp->Prop
noncomputable def FpOk (X:Cx) (pins:List (Addr×Obj)) (H:Hp) (b:Addr):Prop :=
 H b=none /\ b≠X.env.locals /\ b∉X.fs /\ (b∈X.ex∨X.s₀.heap.objs.size <= b) /\ (∀ x c,X.env.cells.lookup x=some c->c≠b) /\ ∀ p∈X.pn++pins,p.1≠b
theorem Inv.fpOk {X:Cx} {pins:List (Addr×Obj)} {σ:St} {H H':Hp} {s:Shared} {b:Addr} (I:Inv X pins σ H s) (B:s.heap.objs.size <= b) (hn:H' b=none):FpOk X pins H' b:=by
 refine ⟨hn,Nat.ne_of_gt (yAW I.lt B),I.nofs B,.inr (yAL I.sz B),fun x c e z=>?_,fun p J z=>?_⟩
 .obtain ⟨v,q⟩:=I.cell x c e
  exact absurd (yAW q.lt (by rw [z];exact B)) (yBQ _)
 .exact absurd (yAW (Heap.lt_size (I.pin p J).1) (by rw [z];exact B)) (yBQ _)
structure Turn (P:Program) (w:World) (K:W.Frag) (tg:Expr) (J:It) (fp:List Addr) (it:Addr) (tn:Nat->Heap->Prop):Prop where
 mem:it∈fp
 obj:∀ i h,tn i h->∀ b∈fp,∃ o,h.get? b=some o /\ ∀ v,o.data≠.cell v
 keep:∀ i h h',tn i h->(∀ b∈fp,∀ o,h.get? b=some o->h'.get? b=some o)->tn i h'
 item:∀ (X:Cx),X.prog=P->X.w=w->X.K=K->X.calm=true->∀ (i:Nat) (pins:List (Addr×Obj)) (s:Shared) (σ:St) (H:Hp) (E:Value->Shared->Prop),Inv X pins σ H s->(∀ b∈fp,FpOk X pins H b)->tn i s.heap->J.go i H ->
  wpAny (model P w) X.A (pyNext (.ref it)) (fun r s1=>∃ u,r=some u /\
   wpAny (model P w) X.A (letOwnedTupleGo tg (.ref it) u) (fun _ s2=>∃ x H',Inv X pins σ H' s2 /\ RelV x u /\ J.yld i H x H' /\ tn (i+1) s2.heap /\ ∀ b∈fp,H' b=none) E s1) E s
 done:∀ (X:Cx),X.prog=P->X.w=w->X.K=K->X.calm=true->∀ (i:Nat) (pins:List (Addr×Obj)) (s:Shared) (σ:St) (H:Hp) (E:Value->Shared->Prop),Inv X pins σ H s->(∀ b∈fp,FpOk X pins H b)->tn i s.heap->J.stop i H ->
  wpAny (model P w) X.A (pyNext (.ref it)) (fun r s1=>r=none /\ Inv X pins σ H s1) E s
 self:∀ (A:Around) (i:Nat) (s:Shared) (Q:Value->Shared->Prop) (E:Value->Shared->Prop),tn i s.heap->Q (.ref it) s->wpAny (model P w) A (pyIter (.ref it)) Q E s
noncomputable abbrev TI:=St->Hp->(It->Hp->Prop)->Prop
noncomputable def PIE (X:Cx) (pins:List (Addr×Obj)) (σ:St) (tg:Expr) (R:It->Hp->Prop) (itv:Value) (s2:Shared):Prop :=
 ∃ (it:Addr) (fp:List Addr) (tn:Nat->Heap->Prop) (J:It) (H':Hp),itv=.ref it /\ Inv X pins σ H' s2 /\ Turn X.prog X.w X.K tg J fp it tn /\ tn 0 s2.heap /\ (∀ b∈fp,FpOk X pins H' b) /\ R J H'
noncomputable def PI (X:Cx) (tg iter:Expr) (wi:TI):Prop :=
 ∀ (pins:List (Addr×Obj)) (s:Shared) (σ:St) (H:Hp) (R:It->Hp->Prop),Inv X pins σ H s->wi σ H R ->
  wpAny (model X.prog X.w) X.A (eval iter X.env) (fun v s1=>wpAny (model X.prog X.w) X.A (pyIter v) (PIE X pins σ tg R) X.xe s1) X.xe s
theorem go_of {M:Model} {A:Around} {E:Value->Shared->Prop} {s:Shared} {tg:Expr} {it:Addr} {u:Value} {o:Obj} {n:String} {vs:Array Value} {Q:Unit->Shared->Prop} (O:s.heap.get? it=some o) (hc:o.cls=.type n) (J:o.data=.fields vs)
  (hn:["enumerate","zip","dict_itemiterator","dict_reverseitemiterator","odict_iterator","itertools.zip_longest","itertools.pairwise"].contains n=false) (B:Q () s):wpAny M A (letOwnedTupleGo tg (.ref it) u) Q E s:=by
 unfold letOwnedTupleGo
 cases tg <;> first
  | exact wpAny_pure B
  | (cases u <;> first
    | exact wpAny_pure B
    | (refine wpAny_bind (wpAny_load O ?_)
       rw [hc,J]
       show wpAny M A (if (["enumerate","zip","dict_itemiterator","dict_reverseitemiterator","odict_iterator","itertools.zip_longest","itertools.pairwise"].contains n && vs[0]? == some (rawInt _))=true then _ else _) Q E s
       rw [if_neg (by intro h;rw [hn,Bool.false_and] at h;cases h)]
       exact wpAny_pure B))
noncomputable def Itl (K:W.Frag) (a:Addr):It :=
 ⟨fun i H=>∃ xs x,SqL K H a xs /\ xs[i]?=some x,fun i H x H'=>H'=H /\ ∀ xs,SqL K H a xs->xs[i]?=some x,fun i H=>∃ xs,SqL K H a xs /\ xs.length <= i⟩
noncomputable def Itr (lo:Int) (n:Nat):It:=⟨fun i _=>i < n,fun i H x H'=>H'=H /\ x=.int (lo+i),fun i _=>n <= i⟩
theorem turn_list {P:Program} {w:World} {K:W.Frag} {tg:Expr} (a it:Addr):Turn P w K tg (Itl K a) [it] it (fun i h=>h.IsListIter it a i) where
 mem:=by simp
 obj:=fun i h st b B=>by
  have e:b=it:=by simpa using B
  subst e
  obtain ⟨o,e,c,d⟩:=st
  exact ⟨o,e,fun v z=>by rw [d] at z;cases z⟩
 keep:=fun i h h' st k=>st.at fun o e=>k it (by simp) o e
 item:=by
  intro X U hw hK hc i pins s σ H E I O st hg
  subst U hw hK
  obtain ⟨xs,x,J,Z⟩:=hg
  obtain ⟨its,rv,p,hz⟩:=I.list J
  obtain ⟨u,hu,ru⟩:=rv.get Z
  obtain ⟨f0,f1,f2,f3,f4,f5⟩:=O it (by simp)
  refine wpAny_pyNext_list_item st p.isList (x:=u) (by simpa using hu) fun h' st' sb=>?_
  have I1:Inv X pins σ H { s with heap:=h' }:=I.turned (t':=s.toks) (fun b o B e=>(sb.2 b B).trans e) f0 f1 f3 f4 f5
  obtain ⟨o,e,c,d⟩:=id st'
  exact ⟨u,rfl,go_of (s:={ s with heap:=h' }) e c d (by decide) ⟨x,H,I1,ru,⟨rfl,fun ys hy=>by rw [I.list_inj hy J];exact Z⟩,st',fun b B=>(O b B).1⟩⟩
 done:=by
  intro X U hw hK hc i pins s σ H E I O st hg
  subst U hw hK
  obtain ⟨xs,J,Z⟩:=hg
  obtain ⟨its,rv,p,hz⟩:=I.list J
  obtain ⟨f0,f1,f2,f3,f4,f5⟩:=O it (by simp)
  have hl:=rv.length
  exact wpAny_pyNext_list_end (I.ok.hd hc) st p.isList (by simp;omega) fun h' eb=>⟨rfl,I.turned (t':=s.toks) (fun b o B e=>eb b o B e) f0 f1 f3 f4 f5⟩
 self:=fun _ _ _ _ _ st h=>wpAny_pyIter_listiter st h
theorem turn_range {P:Program} {w:World} {K:W.Frag} {tg:Expr} (it:Addr) (lo:Int) (n:Nat):Turn P w K tg (Itr lo n) [it] it (fun i h=>IsRangeIter h it (lo+(i:Nat) * 1) ((n:Int)-(i:Nat)) 1) where
 mem:=by simp
 obj:=fun i h st b B=>by
  have e:b=it:=by simpa using B
  subst e
  exact ⟨_,st,fun v z=>by
   have z':Data.fields _=Data.cell v:=z
   cases z'⟩
 keep:=fun i h h' st k=>k it (by simp) _ st
 item:=by
  intro X O hw hK hc i pins s σ H E I J st hg
  subst O hw hK
  obtain ⟨f0,f1,f2,U,Z,f5⟩:=J it (by simp)
  have W:=Walks.range (prog:=X.prog) (w:=X.w) (I.ok.hd hc) it lo 1 n
  refine W.item i s _ _ hg st fun v h' tk hv st' kk=>?_
  obtain ⟨t,rfl⟩:=hv
  have I1:Inv X pins σ H { s with heap:=h',toks:=tk }:=I.turned (fun b o B e=>kk b o (by simpa using B) e) f0 f1 U Z f5
  refine ⟨_,rfl,go_of (s:={ s with heap:=h',toks:=tk }) (n:="range_iterator") st' rfl rfl (by decide) ⟨.int (lo+i),H,I1,⟨t,?_⟩,⟨rfl,rfl⟩,st',fun b B=>(J b B).1⟩⟩
  rw [Int.mul_one]
 done:=by
  intro X O hw hK hc i pins s σ H E I J st hg
  subst O hw hK
  obtain ⟨f0,f1,f2,U,Z,f5⟩:=J it (by simp)
  exact wpAny_pyNext_range_end (I.ok.hd hc) st (by have:n <= i:=hg;omega) fun h' eb=>⟨rfl,I.turned (t':=s.toks) (fun b o B e=>eb b o B e) f0 f1 U Z f5⟩
 self:=fun _ _ _ _ _ st h=>wpAny_pyIter_rangeiter st h
section
variable {X:Cx} {tg:Expr}
noncomputable def ZFC (K:W.Frag) (tl:TE):TI:=fun σ H R=>tl σ H fun x H1=>∃ a,x=.ref a /\ (∃ xs,SqL K H1 a xs) /\ R (Itl K a) H1
theorem ZCl {l:Expr} {tl:TE} (hl:PE X l tl):PI X tg l (ZFC X.K tl):=by
 intro pins s σ H R I h
 refine thn (hl pins s σ H _ I h) fun v s1 U=>?_
 obtain ⟨x,H1,B,r1,Z⟩:=U
 obtain ⟨a,e,⟨xs,O⟩,q⟩:=Z
 subst e
 cases r1
 obtain ⟨its,rv,p,hz⟩:=B.list O
 refine wpAny_pyIter_list p.isList ?_
 refine ⟨s1.heap.objs.size,[s1.heap.objs.size],_,_,H1,rfl,B.kept (t':=s1.toks) fun b o e=>Heap.get?_push_of_some _ e,turn_list a _,⟨_,Heap.get?_push_size _ rfl,rfl,rfl⟩,fun b J=>?_,q⟩
 have e:b=s1.heap.objs.size:=by simpa using J
 subst e
 exact B.fpOk (yAA _) (B.hok.fresh (yAA _))
theorem range_it {pins:List (Addr×Obj)} {σ:St} {H:Hp} {s:Shared} {R:It->Hp->Prop} {E:Value->Shared->Prop} {lo hi:Int} {t u v:Tok} {tk:Nat} (I:Inv X pins σ H s) (h1:-(2 ^ 62) <= lo) (h2:lo < 2 ^ 62) (h3:-(2 ^ 62) <= hi) (U:hi < 2 ^ 62)
  (q:R (Itr lo (hi-lo).toNat) H):wpAny (model X.prog X.w) X.A (pyIter (.ref s.heap.objs.size)) (PIE X pins σ tg R) E { s with heap:=s.heap.push { cls:=.type "range",data:=.fields #[.int lo t,.int hi u,.int 1 v] },toks:=tk }:=by
 refine wpAny_pyIter_range (IsRange.new ..) (small_one h1 h2 h3 U) ?_
 have B:Inv X pins σ H { s with heap:=s.heap.push { cls:=.type "range",data:=.fields #[.int lo t,.int hi u,.int 1 v] },toks:=tk }:=I.kept fun b o e=>Heap.get?_push_of_some _ e
 refine ⟨(s.heap.push { cls:=.type "range",data:=.fields #[.int lo t,.int hi u,.int 1 v] }).objs.size,[(s.heap.push { cls:=.type "range",data:=.fields #[.int lo t,.int hi u,.int 1 v] }).objs.size],_,_,H,rfl,
  B.kept (t':=tk) fun b o e=>Heap.get?_push_of_some _ e,turn_range _ lo (hi-lo).toNat,?_,fun b Z=>?_,q⟩
 .have J:lo+((0:Nat):Int) * 1=lo:=by simp
  have O:(((hi-lo).toNat:Nat):Int)-((0:Nat):Int)=Builtin.Range.rangeSize lo hi 1:=by rw [rangeSize_one];split <;> omega
  show IsRangeIter _ _ (lo+((0:Nat):Int) * 1) ((((hi-lo).toNat:Nat):Int)-((0:Nat):Int)) 1
  rw [J,O]
  exact Heap.get?_push_size _ rfl
 .have e:b=(s.heap.push { cls:=.type "range",data:=.fields #[.int lo t,.int hi u,.int 1 v] }).objs.size:=by simpa using Z
  subst e
  exact B.fpOk (yAA _) (B.hok.fresh (yAA _))
noncomputable def ZFB (ta:TA):TI:=fun σ H R=>ta σ H fun vs H1=>∃ j:Int,vs=[.int j] /\ -(2 ^ 62) <= j /\ j < 2 ^ 62 /\ R (Itr 0 j.toNat) H1
noncomputable def ZFA (ta:TA):TI:=fun σ H R=>ta σ H fun vs H1=>∃ i j:Int,vs=[.int i,.int j] /\ (-(2 ^ 62) <= i /\ i < 2 ^ 62 /\ -(2 ^ 62) <= j /\ j < 2 ^ 62) /\ R (Itr i (j-i).toNat) H1
theorem ZC5 {a:Expr} {ta:TA} {p pos:Pos} (J:Gl X "range") (hm:X.mg "range"=none) (ha:PA X [a] ta) (hs:starEach [a] X.env=[(false,eval a X.env)]:=by rfl):PI X tg (.Call (.Name "range" p) [a] [] pos) (ZFB ta):=by
 intro pins s σ H R I h
 refine Call_ (ZCs I J hm boot_range (PyProof.Rows.callWith_type1 (thn (ha pos pins s σ H _ I h) fun us s1 U=>?_) hs rfl))
 obtain ⟨vs,H1,Z,r1,B⟩:=U
 obtain ⟨j,e,B,O,q⟩:=B
 subst e
 cases r1 with
 | cons r rr=>
  cases rr
  obtain ⟨t,rfl⟩:=r
  exact call_range_1 (range_it Z (by omega) (by omega) B O (by simpa using q))
theorem pi_range2 {a b:Expr} {ta:TA} {p pos:Pos} (Z:Gl X "range") (hm:X.mg "range"=none) (ha:PA X [a,b] ta) (hs:starEach [a,b] X.env=[(false,eval a X.env),(false,eval b X.env)]:=by rfl) (B:starEach [b] X.env=[(false,eval b X.env)]:=by rfl) :
  PI X tg (.Call (.Name "range" p) [a,b] [] pos) (ZFA ta):=by
 intro pins s σ H R I h
 refine Call_ (ZCs I Z hm boot_range (PyProof.Rows.callWith_type1 (thn (ha pos pins s σ H _ I h) fun us s1 zz=>?_) (by rw [hs,B]) (by rw [B];rfl)))
 obtain ⟨vs,H1,I1,r1,J⟩:=zz
 obtain ⟨i,j,e,⟨J,q2,O,U⟩,q⟩:=J
 subst e
 cases r1 with
 | cons r rr=>
  cases rr with
  | cons r' rr=>
   cases rr
   obtain ⟨t,rfl⟩:=r
   obtain ⟨t',rfl⟩:=r'
   exact call_range_2 (range_it I1 J q2 O U q)
noncomputable def tFor (wi:TI) (g:TG) (tb:TS):TS:=fun D σ H=>wi σ H fun J H1=>∃ W:Nat->Nat->St->Hp->Prop,(∃ m,W 0 m σ H1) /\ ∀ i m σ H,W i m σ H ->
 (J.stop i H /\ D.nx σ H)∨(J.go i H /\ ∃ N:St->Hp->Prop,(∀ σ' H',N σ' H'->∃ m',m' < m /\ W (i+1) m' σ' H') /\ ∀ x H',J.yld i H x H'->g x σ H' fun σ2 H2=>tb { D with nx:=N,ct:=N,bk:=D.nx } σ2 H2)
noncomputable def ZDs (fp:List Addr) (h:Heap):List (Addr×Obj):=fp.filterMap fun b=>(h.get? b).map fun o=>(b,o)
theorem ZCF {fp:List Addr} {h:Heap} {b:Addr} {o:Obj} (B:b∈fp) (e:h.get? b=some o):(b,o)∈ZDs fp h:=List.mem_filterMap.mpr ⟨b,B,by rw [e];rfl⟩
theorem of_pinsAt {fp:List Addr} {h:Heap} {p:Addr×Obj} (J:p∈ZDs fp h):p.1∈fp /\ h.get? p.1=some p.2:=by
 obtain ⟨b,O,e⟩:=List.mem_filterMap.mp J
 cases q:h.get? b with
 | none=>rw [q] at e;cases e
 | some o=>
  rw [q] at e
  have B:(b,o)=p:=Option.some.inj e
  subst B
  exact ⟨O,q⟩
theorem Inv.pinned {pins:List (Addr×Obj)} {σ:St} {H:Hp} {s:Shared} {fp:List Addr} (I:Inv X pins σ H s) (hf:∀ b∈fp,FpOk X pins H b) (Z:∀ b∈fp,∃ o,s.heap.get? b=some o /\ ∀ v,o.data≠.cell v):Inv X (pins++ZDs fp s.heap) σ H s :=
 I.pins_of fun p O=>(yAZ.mp O).elim (fun z=>I.pin p (yAX _ z)) fun z=>by
  obtain ⟨J,e⟩:=of_pinsAt z
  obtain ⟨f0,f1,U,_⟩:=hf p.1 J
  obtain ⟨o,B,d⟩:=Z p.1 J
  rw [e] at B;cases B
  exact ⟨e,f0,f1,U,d⟩
theorem Inv.unpinned {pins pl:List (Addr×Obj)} {σ:St} {H:Hp} {s:Shared} (I:Inv X (pins++pl) σ H s):Inv X pins σ H s:=I.pins_of fun p B=>I.pin p (yAX _ (yBU _ B))
theorem ZDr {iter:Expr} {body:List Stmt} {wi:TI} {g:TG} {tb:TS} {pos:Pos} (hp:PassesOwn (model X.prog X.w) X.A X.env X.xe) (hc:X.calm=true) (hi:PI X tg iter wi) (hg:PG X tg g) (O:PSs X body tb)
  (hs:∀ x,foldedSetIterable iter X.env x=pure x:=by intro _;rfl):PS X (.For tg iter body [] pos) (tFor wi g tb):=by
 intro pins s σ H D I h
 refine wpAny_For (thn (hi pins s σ H _ I h) fun v s1 h1=>thn h1 fun a8 s2 h2=>?_) hs
 obtain ⟨it,fp,tn,J,H2,e,I2,T,st2,f2,W,⟨m0,w0⟩,a3⟩:=h2
 subst e
 have U:∀ {H':Hp},(∀ b∈fp,H' b=none)->∀ b∈fp,FpOk X pins H' b:=fun hn b O=>⟨hn b O,(f2 b O).2⟩
 refine codeAny_forLoop_any (fun n s'=>∃ i a1 H',Inv X pins a1 H' s' /\ tn i s'.heap /\ (∀ b∈fp,H' b=none) /\ W i n a1 H') ?_ m0 ⟨0,σ,H2,I2,st2,fun b O=>(f2 b O).1,w0⟩
 rintro n s3 ⟨i,a0,H3,I3,st3,a4,w3⟩
 rcases a3 i n a0 H3 w3 with ⟨stop,qn⟩ | ⟨go,N,hN,step⟩
 .refine wpAny_passesOwn hp (thn (T.done X rfl rfl rfl hc i pins s3 a0 H3 X.xe I3 (U a4) st3 stop) fun r s4 ⟨hr,I4⟩=>?_)
  subst hr
  exact wpAny_execs_nil ⟨a0,H3,I4,qn⟩
 .refine wpAny_passesOwn hp (thn (T.item X rfl rfl rfl hc i pins s3 a0 H3 X.xe I3 (U a4) st3 go) fun r s4 ⟨u,hr,h4⟩=>?_)
  subst hr
  refine wpAny_passesOwn hp (thn h4 fun _ s5 zz=>?_)
  obtain ⟨x,H5,I5,r5,y5,a2,a6⟩:=zz
  have a5:=I5.pinned (U a6) (T.obj _ _ a2)
  refine wpAny_passesOwn hp (thn (hg _ s5 a0 H5 x u _ a5 r5 (step x H5 y5)) fun _ s6 zz=>?_)
  obtain ⟨a7,H6,I6,q6⟩:=zz
  refine wpAny_passesOwn hp (thn (O _ s6 a7 H6 _ I6 q6) fun f s7 q7=>?_)
  have Z:∀ {B:St} {H7:Hp},Inv X (pins++ZDs fp s5.heap) B H7 s7->N B H7->∃ m,m < n /\ ∃ i a1 H',Inv X pins a1 H' s7 /\ tn i s7.heap /\ (∀ b∈fp,H' b=none) /\ W i m a1 H':=fun {B H7} I7 n7=>by
   obtain ⟨m',hm,w7⟩:=hN B H7 n7
   refine ⟨m',hm,i+1,B,H7,I7.unpinned,T.keep _ _ _ a2 fun b O o e=>(I7.pin (b,o) (yAX _ (yAX _ (ZCF O e)))).1,fun b O=>?_,w7⟩
   obtain ⟨o,e,d⟩:=T.obj _ _ a2 b O
   exact (I7.pin (b,o) (yAX _ (yAX _ (ZCF O e)))).2.1
  cases f with
  | next=>obtain ⟨B,H7,I7,n7⟩:=q7;exact Z I7 n7
  | cont=>obtain ⟨B,H7,I7,n7⟩:=q7;exact Z I7 n7
  | brk=>obtain ⟨B,H7,I7,q7⟩:=q7;exact ⟨B,H7,I7.unpinned,q7⟩
  | ret v=>obtain ⟨x7,B,H7,I7,r7,q7⟩:=q7;exact ⟨x7,B,H7,I7.unpinned,r7,q7⟩
end
theorem for_list {K:W.Frag} {a:Addr} {xs:List V} {g:TG} {tb:TS} {D:Ends} {σ:St} {H:Hp} (B:Nat->St->Hp->Prop) (Z:B 0 σ H) (hl:∀ i σ H,i <= xs.length->B i σ H->SqL K H a xs)
  (hs:∀ i x σ H,xs[i]?=some x->B i σ H->g x σ H fun J H2=>tb { D with nx:=B (i+1),ct:=B (i+1),bk:=D.nx } J H2) (hd:∀ σ H,B xs.length σ H->D.nx σ H) :
  ∃ W:Nat->Nat->St->Hp->Prop,(∃ m,W 0 m σ H) /\ ∀ i m σ H,W i m σ H ->
   ((Itl K a).stop i H /\ D.nx σ H)∨((Itl K a).go i H /\ ∃ N:St->Hp->Prop,(∀ O H',N O H'->∃ U,U < m /\ W (i+1) U O H') /\ ∀ x H',(Itl K a).yld i H x H'->g x σ H' fun J H2=>tb { D with nx:=N,ct:=N,bk:=D.nx } J H2):=by
 refine ⟨fun i m σ H=>m=xs.length-i /\ i <= xs.length /\ B i σ H,⟨xs.length,by simp,yAG _,Z⟩,?_⟩
 rintro i m σ H ⟨rfl,hi,p⟩
 have q:=hl i σ H hi p
 by_cases hlt:i < xs.length
 .refine .inr ⟨⟨xs,xs[i],q,by simp [hlt]⟩,B (i+1),fun O H' p'=>⟨xs.length-(i+1),by omega,rfl,hlt,p'⟩,fun x H' y=>?_⟩
  obtain ⟨e,y⟩:=y
  subst e
  exact hs i x σ _ (y xs q) p
 .have e:i=xs.length:=by omega
  subst e
  exact .inl ⟨⟨xs,q,yAA _⟩,hd σ H p⟩
theorem for_range {lo:Int} {n:Nat} {g:TG} {tb:TS} {D:Ends} {σ:St} {H:Hp} (O:Nat->St->Hp->Prop) (Z:O 0 σ H)
  (hs:∀ i σ H,i < n->O i σ H->g (.int (lo+i)) σ H fun B H2=>tb { D with nx:=O (i+1),ct:=O (i+1),bk:=D.nx } B H2) (hd:∀ σ H,O n σ H->D.nx σ H) :
  ∃ W:Nat->Nat->St->Hp->Prop,(∃ m,W 0 m σ H) /\ ∀ i m σ H,W i m σ H ->
   ((Itr lo n).stop i H /\ D.nx σ H)∨((Itr lo n).go i H /\ ∃ N:St->Hp->Prop,(∀ J H',N J H'->∃ U,U < m /\ W (i+1) U J H') /\ ∀ x H',(Itr lo n).yld i H x H'->g x σ H' fun B H2=>tb { D with nx:=N,ct:=N,bk:=D.nx } B H2):=by
 refine ⟨fun i m σ H=>m=n-i /\ i <= n /\ O i σ H,⟨n,by simp,yAG _,Z⟩,?_⟩
 rintro i m σ H ⟨rfl,hi,p⟩
 by_cases hlt:i < n
 .refine .inr ⟨hlt,O (i+1),fun J H' p'=>⟨n-(i+1),by omega,rfl,hlt,p'⟩,fun x H' y=>?_⟩
  obtain ⟨e,y⟩:=y
  subst e y
  exact hs i σ _ hlt p
 .have e:i=n:=by omega
  subst e
  exact .inl ⟨yAA _,hd σ H p⟩
noncomputable abbrev R2:=V->V->Hp->VK->Prop
noncomputable def OpR (X:Cx) (f:Value->Value->Sem Value) (r:R2):Prop :=
 ∀ (pins:List (Addr×Obj)) (s:Shared) (σ:St) (H:Hp) (x y:V) (v u:Value) (Q:VK),Inv X pins σ H s->RelV x v->RelV y u->r x y H Q ->
  wpAny (model X.prog X.w) X.A (f v u) (EP X pins σ Q) X.xe s
noncomputable def UnR (X:Cx) (f:Value->Sem Value) (r:V->Hp->VK->Prop):Prop :=
 ∀ (pins:List (Addr×Obj)) (s:Shared) (σ:St) (H:Hp) (x:V) (v:Value) (Q:VK),Inv X pins σ H s->RelV x v->r x H Q ->
  wpAny (model X.prog X.w) X.A (f v) (EP X pins σ Q) X.xe s
noncomputable def ZCt (X:Cx) (f:Value) (r:List V->Hp->VK->Prop):Prop :=
 ∀ (pins:List (Addr×Obj)) (s:Shared) (σ:St) (H:Hp) (xs:List V) (us:List Value) (Q:VK),Inv X pins σ H s->Vals xs us->r xs H Q ->
  wpAny (model X.prog X.w) X.A (call f us) (EP X pins σ Q) X.xe s
noncomputable def tOp (r:R2) (ta tb:TE):TE:=fun σ H Q=>ta σ H fun x H1=>tb σ H1 fun y H2=>r x y H2 Q
noncomputable def tUn (r:V->Hp->VK->Prop) (ta:TE):TE:=fun σ H Q=>ta σ H fun x H1=>r x H1 Q
noncomputable def rI (C:Int->Int->Prop) (g:Int->Int->V):R2:=fun x y H Q=>∃ i j,x=.int i /\ y=.int j /\ C i j /\ Q (g i j) H
noncomputable def rI0 (g:Int->Int->V):R2:=fun x y H Q=>∃ i j,x=.int i /\ y=.int j /\ Q (g i j) H
noncomputable def rU (g:Int->V):V->Hp->VK->Prop:=fun x H Q=>∃ i,x=.int i /\ Q (g i) H
section
variable {X:Cx} {a b c:Expr} {ta tb tc:TE} {pos:Pos}
theorem binT (ha:PE X a ta) (O:PE X b tb) {pins:List (Addr×Obj)} {s:Shared} {σ:St} {H:Hp} {R:V->V->Hp->Prop} (I:Inv X pins σ H s)
  (h:ta σ H fun x H1=>tb σ H1 fun y H2=>R x y H2) {Q:Value->Shared->Prop} {f:Value->Value->Sem Value}
  (Z:∀ v u s2 x y H2,Inv X pins σ H2 s2->RelV x v->RelV y u->R x y H2->wpAny (model X.prog X.w) X.A (f v u) Q X.xe s2) :
  wpAny (model X.prog X.w) X.A (eval a X.env) (fun v s₁=>wpAny (model X.prog X.w) X.A (eval b X.env) (fun u B=>wpAny (model X.prog X.w) X.A (f v u) Q X.xe B) X.xe s₁) X.xe s:=by
 refine thn (ha pins s σ H _ I h) fun v s1 J=>?_
 obtain ⟨x,H1,I1,r1,q1⟩:=J
 refine thn (O pins s1 σ H1 _ I1 q1) fun u s2 J=>?_
 obtain ⟨y,H2,U,r2,q2⟩:=J
 exact Z v u s2 x y H2 U r1 r2 q2
theorem ZAP {B:Operator} {r:R2} (O:OpR X (binaryOp B) r) (ha:PE X a ta) (J:PE X b tb):PE X (.BinOp a B b pos) (tOp r ta tb):=by
 intro pins s σ H Q I h
 exact wpAny_BinOp (binT ha J I h fun v u s2 x y H2 U rx Z q=>O pins s2 σ H2 x y v u Q U rx Z q)
theorem ZE9 {B:UnaryOp} {r:V->Hp->VK->Prop} (O:UnR X (unaryOp B) r) (ha:PE X a ta):PE X (.UnaryOp B a pos) (tUn r ta):=by
 intro pins s σ H Q I h
 exact UnaryOp_ (thn (ha pins s σ H _ I h) fun v s1 ⟨x,H1,J,r1,U⟩=>O pins s1 σ H1 x v Q J r1 U)
theorem opI {f:Value->Value->Sem Value} {C:Int->Int->Prop} {g:Int->Int->Int}
  (B:∀ (i j:Int) (t u:Tok) (s:Shared) (Q:Value->Shared->Prop) (E:Value->Shared->Prop),C i j->Q (.int (g i j) s.toks) { s with toks:=s.toks+1 }->wpAny (model X.prog X.w) X.A (f (.int i t) (.int j u)) Q E s) :
  OpR X f (rI C fun i j=>.int (g i j)):=by
 intro pins s σ H x y v u Q I O J h
 obtain ⟨i,j,rfl,rfl,hc,q⟩:=h
 obtain ⟨t,rfl⟩:=O
 obtain ⟨t',rfl⟩:=J
 exact B i j t t' s _ _ hc ⟨.int (g i j),H,I.tok _,⟨_,rfl⟩,q⟩
theorem opI0 {f:Value->Value->Sem Value} {g:Int->Int->Int}
  (B:∀ (i j:Int) (t u:Tok) (s:Shared) (Q:Value->Shared->Prop) (E:Value->Shared->Prop),Q (.int (g i j) s.toks) { s with toks:=s.toks+1 }->wpAny (model X.prog X.w) X.A (f (.int i t) (.int j u)) Q E s) :
  OpR X f (rI0 fun i j=>.int (g i j)):=by
 intro pins s σ H x y v u Q I O J h
 obtain ⟨i,j,rfl,rfl,q⟩:=h
 obtain ⟨t,rfl⟩:=O
 obtain ⟨t',rfl⟩:=J
 exact B i j t t' s _ _ ⟨.int (g i j),H,I.tok _,⟨_,rfl⟩,q⟩
theorem opB0 {f:Value->Value->Sem Value} {g:Int->Int->Bool}
  (B:∀ (i j:Int) (t u:Tok) (s:Shared) (Q:Value->Shared->Prop) (E:Value->Shared->Prop),Q (.bool (g i j)) s->wpAny (model X.prog X.w) X.A (f (.int i t) (.int j u)) Q E s) :
  OpR X f (rI0 fun i j=>.bl (g i j)):=by
 intro pins s σ H x y v u Q I O J h
 obtain ⟨i,j,rfl,rfl,q⟩:=h
 obtain ⟨t,rfl⟩:=O
 obtain ⟨t',rfl⟩:=J
 exact B i j t t' s _ _ ⟨.bl (g i j),H,I,rfl,q⟩
noncomputable def CDiv (i j:Int):Prop:=0 < j /\ j < 1073741824
noncomputable def CPow (i j:Int):Prop:=0 <= j /\ j <= 1000000 /\ i.natAbs < 2 ^ 64
noncomputable def CMul (i j:Int):Prop:=(-(2 ^ 64) < i /\ i < 2 ^ 64)∨(-(2 ^ 64) < j /\ j < 2 ^ 64)
theorem CMul.ok {i j:Int} (h:CMul i j):IntMulOk i j:=by
 rcases h with ⟨h1,h2⟩ | ⟨h1,h2⟩
 .exact .of_left (intBits_le_64 h1 h2)
 .exact .of_right (intBits_le_64 h1 h2)
theorem ZAf:OpR X (binaryOp .Add) (rI0 fun i j=>.int (i+j)):=opI0 fun _ _ _ _ _ _ _ q=>add_int q
theorem ZA2:OpR X (binaryOp .Sub) (rI0 fun i j=>.int (i-j)):=opI0 fun _ _ _ _ _ _ _ q=>sub_int q
theorem ZBd:OpR X (binaryOp .Mult) (rI CMul fun i j=>.int (i * j)):=opI fun _ _ _ _ _ _ _ hc q=>mul_int q hc.ok
theorem ZBs:OpR X (binaryOp .FloorDiv) (rI CDiv fun i j=>.int (i / j)):=opI fun i j _ _ _ _ _ hc q=>by
 have h1:(0:Int) < j:=hc.1
 have h2:j < 1073741824:=hc.2
 exact floordiv_int (by omega) (by rw [Int.fdiv_eq_ediv_of_nonneg i (by omega)];exact q) (.inl (PyProof.noPylong_small (by omega)))
theorem ZBT:OpR X (binaryOp .Mod) (rI (fun _ j=>0 < j) fun i j=>.int (i % j)):=opI fun i j _ _ _ _ _ hc q=>by
 have h1:(0:Int) < j:=hc
 exact mod_int' (by omega) (by rw [Int.fmod_eq_emod_of_nonneg i (by omega)];exact q)
theorem op_pow:OpR X (binaryOp .Pow) (rI CPow fun i j=>.int (i ^ j.toNat)):=opI fun _ _ _ _ _ _ _ hc q=>pow_int_small hc.1 hc.2.1 hc.2.2 q
theorem unI {f:Value->Sem Value} {g:Int->Int}
  (B:∀ (i:Int) (t:Tok) (s:Shared) (Q:Value->Shared->Prop) (E:Value->Shared->Prop),Q (.int (g i) s.toks) { s with toks:=s.toks+1 }->wpAny (model X.prog X.w) X.A (f (.int i t)) Q E s) :
  UnR X f (rU fun i=>.int (g i)):=by
 intro pins s σ H x v Q I J h
 obtain ⟨i,rfl,q⟩:=h
 obtain ⟨t,rfl⟩:=J
 exact B i t s _ _ ⟨.int (g i),H,I.tok _,⟨_,rfl⟩,q⟩
theorem ZEU:UnR X (unaryOp .USub) (rU fun i=>.int (-i)):=unI fun _ _ _ _ _ q=>neg_int q
end
noncomputable def scal:V->V->Bool
 | .non,.non=>true | .non,.int _=>true | .int _,.non=>true | .non,.bl _=>true | .bl _,.non=>true | .non,.str _=>true | .str _,.non=>true
 | .int _,.int _=>true | .bl _,.bl _=>true | .str _,.str _=>true | .byt _,.byt _=>true
 | .int _,.str _=>true | .str _,.int _=>true | .bl _,.str _=>true | .str _,.bl _=>true
 | _,_=>false
noncomputable def rEq:R2:=fun x y H Q=>scal x y=true /\ Q (.bl (decide (x=y))) H
noncomputable def rNe:R2:=fun x y H Q=>scal x y=true /\ Q (.bl (!decide (x=y))) H
theorem dec_int {i j:Int}:decide (V.int i=V.int j)=(i == j):=by
 rw [Bool.eq_iff_iff]
 simp
theorem dec_bl {i j:Bool}:decide (V.bl i=V.bl j)=(i == j):=by
 rw [Bool.eq_iff_iff]
 simp
theorem dec_str {i j:Str}:decide (V.str i=V.str j)=(i == j):=by
 rw [Bool.eq_iff_iff]
 simp
theorem dec_byt {i j:Array UInt8}:decide (V.byt i=V.byt j)=(i.toList == j.toList):=by
 rw [Bool.eq_iff_iff]
 cases i
 cases j
 simp
section
variable {X:Cx} {a b c:Expr} {ta tb tc:TE} {pos:Pos}
theorem ZAm {pins:List (Addr×Obj)} {σ:St} {H:Hp} {s:Shared} {Q:VK} {k B:Bool} (I:Inv X pins σ H s) (q:Q (.bl k) H) (e:k=B):EP X pins σ Q (.bool B) s:=by
 subst e
 exact ⟨.bl k,H,I,rfl,q⟩
theorem ZB5:OpR X (compareOp .Eq) rEq:=by
 intro pins s σ H x y v u Q I J B h
 obtain ⟨hs,q⟩:=h
 cases x with
 | non=>
  cases J
  cases y with
  | non=>cases B;exact PySem.EqNone.eq_none_none (ZAm I q (by simp))
  | bl j=>cases B;exact PySem.EqNone.eq_none_bool (ZAm I q (by simp))
  | int j=>obtain ⟨t',rfl⟩:=B;exact PySem.EqNone.eq_none_int (ZAm I q (by simp))
  | str j=>obtain ⟨t',rfl⟩:=B;exact PySem.EqNone.eq_none_str (ZAm I q (by simp))
  | _=>exact absurd (show false=true from hs) yBG
 | bl i=>
  cases J
  cases y with
  | non=>cases B;exact PySem.EqNone.eq_bool_none (ZAm I q (by simp))
  | bl j=>cases B;exact eq_bool (ZAm I q dec_bl)
  | str j=>obtain ⟨t',rfl⟩:=B;exact PySem.EqMixed.eq_bool_str (ZAm I q (by simp))
  | _=>exact absurd (show false=true from hs) yBG
 | int i=>
  obtain ⟨t,rfl⟩:=J
  cases y with
  | non=>cases B;exact PySem.EqNone.eq_int_none (ZAm I q (by simp))
  | int j=>obtain ⟨t',rfl⟩:=B;exact eq_int (ZAm I q dec_int)
  | str j=>obtain ⟨t',rfl⟩:=B;exact PySem.EqMixed.eq_int_str (ZAm I q (by simp))
  | _=>exact absurd (show false=true from hs) yBG
 | str i=>
  obtain ⟨t,rfl⟩:=J
  cases y with
  | non=>cases B;exact PySem.EqNone.eq_str_none (ZAm I q (by simp))
  | bl j=>cases B;exact PySem.EqMixed.eq_str_bool (ZAm I q (by simp))
  | int j=>obtain ⟨t',rfl⟩:=B;exact PySem.EqMixed.eq_str_int (ZAm I q (by simp))
  | str j=>obtain ⟨t',rfl⟩:=B;exact eq_str (ZAm I q dec_str)
  | _=>exact absurd (show false=true from hs) yBG
 | byt i=>
  obtain ⟨t,rfl⟩:=J
  cases y with
  | byt j=>obtain ⟨t',rfl⟩:=B;exact PySem.W.eq_bytes (ZAm I q dec_byt)
  | _=>exact absurd (show false=true from hs) yBG
 | _=>cases y <;> exact absurd (show false=true from hs) yBG
theorem op_ne:OpR X (compareOp .NotEq) rNe:=by
 intro pins s σ H x y v u Q I J B h
 obtain ⟨hs,q⟩:=h
 cases x with
 | non=>
  cases J
  cases y with
  | non=>cases B;exact PySem.EqNone.ne_none_none (ZAm I q (by simp))
  | bl j=>cases B;exact PySem.EqNone.ne_none_bool (ZAm I q (by simp))
  | int j=>obtain ⟨t',rfl⟩:=B;exact PySem.EqNone.ne_none_int (ZAm I q (by simp))
  | str j=>obtain ⟨t',rfl⟩:=B;exact PySem.EqNone.ne_none_str (ZAm I q (by simp))
  | _=>exact absurd (show false=true from hs) yBG
 | bl i=>
  cases J
  cases y with
  | non=>cases B;exact PySem.EqNone.ne_bool_none (ZAm I q (by simp))
  | bl j=>cases B;exact ne_bool (ZAm I q (congrArg not dec_bl))
  | str j=>obtain ⟨t',rfl⟩:=B;exact PySem.EqMixed.ne_bool_str (ZAm I q (by simp))
  | _=>exact absurd (show false=true from hs) yBG
 | int i=>
  obtain ⟨t,rfl⟩:=J
  cases y with
  | non=>cases B;exact PySem.EqNone.ne_int_none (ZAm I q (by simp))
  | int j=>obtain ⟨t',rfl⟩:=B;exact ne_int (ZAm I q (congrArg not dec_int))
  | str j=>obtain ⟨t',rfl⟩:=B;exact PySem.EqMixed.ne_int_str (ZAm I q (by simp))
  | _=>exact absurd (show false=true from hs) yBG
 | str i=>
  obtain ⟨t,rfl⟩:=J
  cases y with
  | non=>cases B;exact PySem.EqNone.ne_str_none (ZAm I q (by simp))
  | bl j=>cases B;exact PySem.EqMixed.ne_str_bool (ZAm I q (by simp))
  | int j=>obtain ⟨t',rfl⟩:=B;exact PySem.EqMixed.ne_str_int (ZAm I q (by simp))
  | str j=>obtain ⟨t',rfl⟩:=B;exact ne_str (ZAm I q (congrArg not dec_str))
  | _=>exact absurd (show false=true from hs) yBG
 | byt i=>
  obtain ⟨t,rfl⟩:=J
  cases y with
  | byt j=>obtain ⟨t',rfl⟩:=B;exact PySem.W.ne_bytes (ZAm I q (congrArg not dec_byt))
  | _=>exact absurd (show false=true from hs) yBG
 | _=>cases y <;> exact absurd (show false=true from hs) yBG
theorem ZCm:OpR X (compareOp .Lt) (rI0 fun i j=>.bl (decide (i < j))):=opB0 fun _ _ _ _ _ _ _ q=>lt_int q
theorem op_le:OpR X (compareOp .LtE) (rI0 fun i j=>.bl (decide (i <= j))):=opB0 fun _ _ _ _ _ _ _ q=>le_int q
theorem ZES:OpR X (compareOp .Gt) (rI0 fun i j=>.bl (decide (j < i))):=opB0 fun _ _ _ _ _ _ _ q=>gt_int q
theorem op_ge:OpR X (compareOp .GtE) (rI0 fun i j=>.bl (decide (j <= i))):=opB0 fun _ _ _ _ _ _ _ q=>ge_int q
theorem ZEK:OpR X (compareOp .Is) (fun x y H Q=>y=.non /\ Q (.bl (decide (x=.non))) H):=by
 intro pins s σ H x y v u Q I B J h
 obtain ⟨rfl,q⟩:=h
 cases J
 refine is_none_gen (ZAm I q ?_)
 cases x <;> first
  | (cases B;rfl)
  | (obtain ⟨t,rfl⟩:=B;rfl)
theorem ZD5:OpR X (compareOp .IsNot) (fun x y H Q=>y=.non /\ Q (.bl (!decide (x=.non))) H):=by
 intro pins s σ H x y v u Q I B J h
 obtain ⟨rfl,q⟩:=h
 cases J
 refine isnot_none_gen (ZAm I q ?_)
 cases x <;> first
  | (cases B;rfl)
  | (obtain ⟨t,rfl⟩:=B;rfl)
theorem ZAV (b:Expr) {B:CmpOp} (h:B≠.In:=by decide) (h2:B≠.NotIn:=by decide):behindInMarks B b=false:=by
 have J:(B == CmpOp.In)=false:=by cases B <;> first | rfl | exact absurd rfl h
 have O:(B == CmpOp.NotIn)=false:=by cases B <;> first | rfl | exact absurd rfl h2
 cases b <;> simp [behindInMarks,J,O]
theorem ZCP {B:CmpOp} {r:R2} (O:OpR X (compareOp B) r) (ha:PE X a ta) (J:PE X b tb) (hm:behindInMarks B b=false):PE X (.Compare a [B] [b] pos) (tOp r ta tb):=by
 intro pins s σ H Q I h
 exact wpAny_Compare1 (binT ha J I h fun v u s2 x y H2 U rx Z q=>O pins s2 σ H2 x y v u Q U rx Z q) hm
noncomputable def ZEy (t:TE):TT:=fun σ H Q=>t σ H fun x H'=>∃ k,x=.bl k /\ Q k H'
theorem ZAS {B:CmpOp} {r:R2} (U:OpR X (compareOp B) r) (ha:PE X a ta) (O:PE X b tb) (hm:behindInMarks B b=false):PT X (.Compare a [B] [b] pos) (ZEy (tOp r ta tb)):=by
 intro pins s σ H Q I h
 refine wpAny_isTrue_Compare1 (thn (ha pins s σ H _ I h) fun v s1 ⟨x,H1,I1,r1,q1⟩=>thn (O pins s1 σ H1 _ I1 q1) fun u s2 ⟨y,H2,Z,r2,q2⟩=>
  thn (U pins s2 σ H2 x y v u _ Z r1 r2 q2) fun c s3 ⟨z,J,I3,r3,k,e,q3⟩=>?_) hm
 subst e
 cases r3
 exact wpAny_truthy_bool ⟨J,I3,q3⟩
noncomputable def tChain (r r':R2) (ta tb tc:TE):TE:=fun σ H Q=>ta σ H fun x H1=>tb σ H1 fun y H2=>r x y H2 fun z H3=>∃ k,z=.bl k /\
 (if k=true then tc σ H3 fun w' H4=>r' y w' H4 Q else Q (.bl false) H3)
theorem ZEM:(sizeLine:Nat) < 2 ^ 63:=by rw [sizeLine_eq];decide
theorem ZDE {x:V} {us:List Value} (r:Vals [x] us):∃ u,us=[u] /\ RelV x u:=by
 cases r with
 | cons r1 r2=>cases r2;exact ⟨_,rfl,r1⟩
theorem ZEo {x y:V} {us:List Value} (r:Vals [x,y] us):∃ u w',us=[u,w'] /\ RelV x u /\ RelV y w':=by
 cases r with
 | cons r1 r2=>
  cases r2 with
  | cons r3 r4=>cases r4;exact ⟨_,_,rfl,r1,r3⟩
theorem call_max2 (hc:X.calm=true):ZCt X (.builtin "max") (fun xs H Q=>∃ i j,xs=[.int i,.int j] /\ Q (.int (if j > i then j else i)) H):=by
 intro pins s σ H xs us Q I r h
 obtain ⟨i,j,rfl,q⟩:=h
 obtain ⟨u,w',rfl,⟨t,rfl⟩,⟨t',rfl⟩⟩:=ZEo r
 refine max_two_ints (I.ok.hd hc) fun h' tk k=>⟨_,H,I.kept k,?_,q⟩
 by_cases hj:j > i
 .rw [if_pos hj,if_pos hj];exact ⟨_,rfl⟩
 .rw [if_neg hj,if_neg hj];exact ⟨_,rfl⟩
theorem ZB9 (hc:X.calm=true):ZCt X (.builtin "min") (fun xs H Q=>∃ i j,xs=[.int i,.int j] /\ Q (.int (if j < i then j else i)) H):=by
 intro pins s σ H xs us Q I r h
 obtain ⟨i,j,rfl,q⟩:=h
 obtain ⟨u,w',rfl,⟨t,rfl⟩,⟨t',rfl⟩⟩:=ZEo r
 refine min_two_ints (I.ok.hd hc) fun h' tk k=>⟨_,H,I.kept k,?_,q⟩
 by_cases hj:j < i
 .rw [if_pos hj,if_pos hj];exact ⟨_,rfl⟩
 .rw [if_neg hj,if_neg hj];exact ⟨_,rfl⟩
end
structure ObjM (h:Heap) (x dx C:Addr) (mA:Str->Option Value):Prop where
 obj:h.get? x=some (PySem.W.instObj C dx)
 ns:h.Ns1 dx mA
 ne:dx≠x
theorem lookIn_ns {h:Heap} {dx:Addr} {mA:Str->Option Value} (n:h.Ns1 dx mA):∃ od,h.get? dx=some od /\ ∀ name,PySem.W.lookIn name od=some (mA name):=by
 obtain ⟨o,es,ep,U,hd,O,_,hm⟩:=n
 refine ⟨o,U,fun name=>?_⟩
 have e:=hm name
 unfold nsFind findBy at e
 rw [<- Array.find?_toList] at e
 unfold PySem.W.lookIn
 rw [hd]
 dsimp only
 split
 .rename_i y q
  rw [q] at e
  exact congrArg some e
 .rename_i q
  rw [q] at e
  have a:es.toList.any (·.refKey)=false:=by
   rw [List.any_eq_false]
   intro y Z
   obtain ⟨z,t,B⟩:=O y (Array.mem_toList_iff.mp Z)
   simp [DictEntry.refKey,B]
  have J:¬ es.toList.any (·.refKey)=true:=by rw [a];exact yBG
  rw [if_neg J]
  exact congrArg some e
theorem ObjM.look {h:Heap} {x dx C:Addr} {mA:Str->Option Value} (I:ObjM h x dx C mA):∃ od,PySem.W.InstAt h x (PySem.W.instObj C dx) C (some od) /\ ∀ name,PySem.W.lookIn name od=some (mA name) :=
 let ⟨od,ho,hl⟩:=lookIn_ns I.ns
 ⟨od,⟨I.obj,rfl,rfl,ho⟩,hl⟩
section
variable {prog:Program} {w:World} {A:Around} {E:Value->Shared->Prop} {s:Shared} {K:W.Frag} {x dx C f:Addr} {mA:Str->Option Value} {name:Str} {v:Value}
theorem get_map {B:Bool} {Q:Value->Shared->Prop} (X:K.In s.heap) (I:ObjM s.heap x dx C mA) (U:PySem.W.plainGet K C name=true) (hh:PySem.W.hasDictIn K C=true)
  (ha:W.findIn K (.ref C) name=some none) (Z:mA name=some v) (O:PySem.W.handedIn v=true) (h:Q v { s with toks:=s.toks+1 }) :
  wpAny (model prog w) A (getAttr (.ref x) name B) Q E s:=by
 obtain ⟨od,J,hl⟩:=I.look
 exact PySem.W.get_value X J (PySem.W.plainGet_of U).1 (PySem.W.findObj_own hh ha rfl (by rw [hl,Z])) O h
theorem get_meth {pl:Sem Bool} {Q:Value×List Value->Shared->Prop} (X:K.In s.heap) (I:ObjM s.heap x dx C mA) (B:PySem.W.plainGet K C name=true)
  (U:W.findIn K (.ref C) name=some (some (.ref f))) (Z:PySem.W.isFn K (.ref f)=true) (O:mA name=none) (h:Q (.ref f,[.ref x]) s) :
  wpAny (model prog w) A (getMethod (.ref x) name pl) Q E s:=by
 obtain ⟨od,J,hl⟩:=I.look
 exact PySem.W.method_fn X J (PySem.W.plainGet_of B).1 (PySem.W.plainGet_of B).2 U (beq_iff_eq.mp Z) (by show (PySem.W.lookIn name od).map (·.isSome)=some false;rw [hl,O];rfl) h
theorem set_map {ns:List Str} {Q:Unit->Shared->Prop} (X:K.In s.heap) (I:ObjM s.heap x dx C mA)
  (hs:W.findIn K (.ref C) "__setattr__"=some (some (.builtin "object.__setattr__"))) (hp:PySem.W.plainOver K C=true) (ht:PySem.W.takerIn K C name=some none) (hh:PySem.W.hasDictIn K C=true)
  (hw:PySem.Within mA ns) (a4:ns.length <= sizeLine)
  (h:∀ h',ObjM h' x dx C (fun y=>if y=name then some v else mA y)->Heap.SameBut dx s.heap h'->Q () { s with heap:=h',toks:=s.toks+2 }) :
  wpAny (model prog w) A (setAttr (.ref x) name v) Q E s:=by
 obtain ⟨od,J,hl⟩:=I.look
 refine PySem.W.set_plain X J hs (PySem.W.osa_open (s:={ s with toks:=s.toks+1 }) (r:=none) X J hp ht fun b=>?_)
 obtain ⟨cd,hc,a1⟩:=PySem.W.any_some hh
 have hx:s.heap.get? x=some ⟨.ref C,some dx,.plain,#[]⟩:=I.obj
 refine wpAny_bind (wpAny_pure (wpAny_bind (wpAny_bind (wpAny_loadPart hx (wpAny_bind (PySem.W.Looks.here (s:={ s with toks:=s.toks+1 }) (PySem.W.looks_clsIn X hc) ?_))))))
 rw [a1]
 refine wpAny_pure (a:=some dx) (wpAny_bind (wpAny_pure (wpAny_bind ?_)))
 refine wpAny_nsSet1 (s:={ s with toks:=s.toks+1 }) I.ns fun h' O B=>?_
 obtain ⟨oD,a3,a2,U,a0,Z⟩:=O.count (PySem.Within.cons name v hw)
 refine wpAny_bind (wpAny_lookBehind U (by rw [a0];exact pastItsLine_dict (yAL Z (by rw [yAH];omega))) ?_)
 exact wpAny_pure (h _ ⟨(B.2 _ (Ne.symm I.ne)).trans I.obj,O,I.ne⟩ B)
theorem make_map {R:Result->Shared->Prop} {vs:List Value} {B:List (Str×Value)} (X:K.In s.heap) (J:PySem.W.makesIn K C=true)
  (hi:W.findIn K (.ref C) "__init__"=some (some (.ref f))) (O:PySem.W.typeIn K (.ref f)=some (.type "function"))
  (h:codeAny (model prog w) (A.under (.builtin "type.__call__" ⟨.ref C::vs,B⟩)) (.call (.ref f) ⟨.ref (s.heap.objs.size+1)::vs,B⟩) (PySem.W.InitBack (s.heap.objs.size+1) R)
   { s with heap:=(s.heap.push PySem.W.emptyDict).push (PySem.W.instObj C s.heap.objs.size) }) :
  codeAny (model prog w) A (.call (.ref C) ⟨vs,B⟩) R s:=by
 obtain ⟨hh,g,d,t,os⟩:=s
 exact PySem.W.make_core (PySem.W.makes_of X J) (PySem.W.looks_findIn X hi) (fun self=>PySem.W.bind_fn X self O) (.inl rfl) h
end
noncomputable def putF (f:Str) (v:V):List (Str×V)->List (Str×V)
 | []=>[(f,v)]
 | (g,x)::r=>if g=f then (g,v)::r else (g,x)::putF f v r
theorem ZAd (f g:Str) (v:V):∀ fs:List (Str×V),(putF f v fs).lookup g=if g=f then some v else fs.lookup g
 | []=>by
  show List.lookup g [(f,v)]=_
  by_cases h:g=f
  .have B:(g == f)=true:=beq_iff_eq.mpr h
   simp only [List.lookup,B,if_pos h]
  .have B:(g == f)=false:=beq_eq_false_iff_ne.mpr h
   simp only [List.lookup,B,if_neg h]
 | (k,x)::r=>by
  have J:=ZAd f g v r
  rw [show putF f v ((k,x)::r)=(if k=f then (k,v)::r else (k,x)::putF f v r) from rfl]
  by_cases hk:k=f
  .rw [if_pos hk]
   by_cases h:g=k
   .have B:(g == k)=true:=beq_iff_eq.mpr h
    simp only [List.lookup,B,if_pos (h.trans hk)]
   .have B:(g == k)=false:=beq_eq_false_iff_ne.mpr h
    simp only [List.lookup,B,if_neg (fun e:g=f=>h (e.trans hk.symm))]
  .rw [if_neg hk]
   by_cases h:g=k
   .have B:(g == k)=true:=beq_iff_eq.mpr h
    simp only [List.lookup,B,if_neg (fun e:g=f=>hk (h.symm.trans e))]
   .have B:(g == k)=false:=beq_eq_false_iff_ne.mpr h
    simp only [List.lookup,B]
    exact J
theorem ZC9 (f:Str) (v:V):∀ fs:List (Str×V),f∈(putF f v fs).map (·.1) /\ ∀ g,g∈fs.map (·.1)->g∈(putF f v fs).map (·.1)
 | []=>⟨by simp [putF],fun g h=>by simp at h⟩
 | (k,x)::r=>by
  obtain ⟨J,B⟩:=ZC9 f v r
  rw [show putF f v ((k,x)::r)=(if k=f then (k,v)::r else (k,x)::putF f v r) from rfl]
  by_cases hk:k=f
  .rw [if_pos hk]
   subst hk
   exact ⟨by simp,fun g h=>by simpa using h⟩
  .rw [if_neg hk]
   refine ⟨?_,fun g h=>?_⟩
   .rw [yBD]
    exact yAC _ J
   .rw [yBD] at h ⊢
    rcases yAE.mp h with e | e
    .exact yAE.mpr (.inl e)
    .exact yAC _ (B g e)
theorem ZCS (f:Str) (v:V):∀ fs:List (Str×V),(putF f v fs).length <= fs.length+1
 | []=>by simp [putF]
 | (k,x)::r=>by
  have B:=ZCS f v r
  rw [show putF f v ((k,x)::r)=(if k=f then (k,v)::r else (k,x)::putF f v r) from rfl]
  by_cases hk:k=f
  .rw [if_pos hk,yAH,yAH];omega
  .rw [if_neg hk,yAH,yAH];omega
theorem RelO.some_of {v:V} {o:Option Value} (r:RelO (some v) o):∃ u,o=some u /\ RelV v u:=by
 cases o with
 | none=>exact (show False from r).elim
 | some u=>exact ⟨u,rfl,r⟩
theorem RelO.none_of {o:Option Value} (r:RelO none o):o=none:=by
 cases o with
 | none=>rfl
 | some u=>exact (show False from r).elim
theorem handed_of {v:V} {u:Value} (r:RelV v u):PySem.W.handedIn u=true:=by
 cases v with
 | non=>cases (show u=Value.none from r);rfl
 | bl b=>cases (show u=Value.bool b from r);rfl
 | int i=>obtain ⟨t,e⟩:=(show ∃ t,u=Value.int i t from r);cases e;rfl
 | str x=>obtain ⟨t,e⟩:=(show ∃ t,u=Value.str x t from r);cases e;rfl
 | byt b=>obtain ⟨t,e⟩:=(show ∃ t,u=Value.bytes b t from r);cases e;rfl
 | flt b=>obtain ⟨t,e⟩:=(show ∃ t,u=Value.float b t from r);cases e;rfl
 | ref a=>cases (show u=Value.ref a from r);rfl
 | ty n=>cases (show u=Value.type n from r);rfl
section
variable {P:Program} {w:World} {H H':Hp} {h h':Heap} {a C dx:Addr} {fs fs':List (Str×V)}
theorem ZEA (B:HOk P w H h) (e:H a=some (.ins C dx fs)):∃ mA,ObjM h a dx C mA /\ (∀ f,RelO (fs.lookup f) (mA f)) /\ PySem.Within mA (fs.map (·.1)) /\ fs.length <= 1000 /\ H dx=some (.own a):=by
 obtain ⟨d,z,ne,J,mA,n,r,q⟩:=(show ObjOk P w H h a (.ins C dx fs) from B a _ e)
 exact ⟨mA,⟨J,n,ne⟩,r,q,z,d⟩
end
structure Cls (K:W.Frag) (C:Addr):Prop where
 pg:PySem.W.plainGet K C Str.empty=true
 hd:PySem.W.hasDictIn K C=true
 po:PySem.W.plainOver K C=true
 sa:W.findIn K (.ref C) "__setattr__"=some (some (.builtin "object.__setattr__"))
theorem Cls.get {K:W.Frag} {C:Addr} (c:Cls K C) (f:Str):PySem.W.plainGet K C f=true:=c.pg
noncomputable def NoAttr (K:W.Frag) (C:Addr) (f:Str):Prop:=W.findIn K (.ref C) f=some none
theorem NoAttr.taker {K:W.Frag} {C:Addr} {f:Str} (n:NoAttr K C f):PySem.W.takerIn K C f=some none:=by
 unfold PySem.W.takerIn
 rw [show W.findIn K (.ref C) f=some none from n]
 rfl
structure Meth (K:W.Frag) (C:Addr) (m:Str) (f:Addr):Prop where
 at_:W.findIn K (.ref C) m=some (some (.ref f))
 fn:PySem.W.isFn K (.ref f)=true
 kp:W.keepIn K (.ref f)=true
section
variable {X:Cx} {pins:List (Addr×Obj)} {σ:St} {H:Hp} {s:Shared} {a C dx:Addr} {fs:List (Str×V)} {f:Str} {v:V} {A:Around} {E:Value->Shared->Prop}
theorem getattr_ok {b:Bool} {Q:Value->Shared->Prop} (I:Inv X pins σ H s) (e:H a=some (.ins C dx fs)) (c:Cls X.K C) (n:NoAttr X.K C f) (l:fs.lookup f=some v)
  (h:∀ u s',Inv X pins σ H s'->RelV v u->Q u s'):wpAny (model X.prog X.w) A (getAttr (.ref a) f b) Q E s:=by
 obtain ⟨mA,O,r,_,_,_⟩:=ZEA I.hok e
 obtain ⟨u,B,ru⟩:=RelO.some_of (v:=v) (o:=mA f) (by rw [<- l];exact r f)
 exact get_map I.kIn O (c.get f) c.hd n B (handed_of ru) (h u _ (I.tok _) ru)
theorem getmeth_ok {m:Str} {g:Addr} {pl:Sem Bool} {Q:Value×List Value->Shared->Prop} (I:Inv X pins σ H s) (e:H a=some (.ins C dx fs)) (c:Cls X.K C) (k:Meth X.K C m g) (l:fs.lookup m=none)
  (h:Q (.ref g,[.ref a]) s):wpAny (model X.prog X.w) A (getMethod (.ref a) m pl) Q E s:=by
 obtain ⟨mA,O,r,_,_,_⟩:=ZEA I.hok e
 have hn:mA m=none:=RelO.none_of (by rw [<- l];exact r m)
 exact get_meth I.kIn O (c.get m) k.at_ k.fn hn h
theorem setattr_ok {y:V} {u:Value} {Q:Unit->Shared->Prop} (I:Inv X pins σ H s) (e:H a=some (.ins C dx fs)) (c:Cls X.K C) (n:NoAttr X.K C f) (hl:fs.length < 1000) (ry:RelV y u)
  (h:∀ s',Inv X pins σ (upd H a (.ins C dx (putF f y fs))) s'->Q () s'):wpAny (model X.prog X.w) A (setAttr (.ref a) f u) Q E s:=by
 obtain ⟨mA,O,r,wi,_,J⟩:=ZEA I.hok e
 have hz:(fs.map (·.1)).length <= sizeLine:=by rw [yAD,sizeLine_eq];omega
 refine set_map I.kIn O c.sa c.po n.taker c.hd wi hz fun h' B U=>h _ ?_
 have hd:∃ o,h'.get? dx=some o:=let ⟨o,_,_,e',_⟩:=B.ns;⟨o,e'⟩
 refine I.write (x:=a) (e:=dx) (by rw [e];exact True.intro) (.inr J) (fun b q Z z=>(U.2 b Z).trans z) hd ?_
 refine ⟨by rw [ZAK O.ne];exact J,?_,O.ne,B.obj,_,B.ns,fun g=>?_,fun g hg=>?_⟩
 .have:=ZCS f y fs;omega
 .show RelO ((putF f y fs).lookup g) (if g=f then some u else mA g)
  rw [ZAd]
  by_cases q:g=f
  .rw [if_pos q,if_pos q];exact ry
  .rw [if_neg q,if_neg q];exact r g
 .by_cases q:g=f
  .rw [q];exact (ZC9 f y fs).1
  .refine (ZC9 f y fs).2 g (wi g fun z=>hg ?_)
   show (if g=f then some u else mA g)=none
   rw [if_neg q];exact z
theorem Inv.made (I:Inv X pins σ H s):Inv X pins σ (upd (upd H s.heap.objs.size (.own (s.heap.objs.size+1))) (s.heap.objs.size+1) (.ins C s.heap.objs.size []))
  { s with heap:=(s.heap.push PySem.W.emptyDict).push (PySem.W.instObj C s.heap.objs.size) }:=by
 have B:(s.heap.push PySem.W.emptyDict).get? s.heap.objs.size=some PySem.W.emptyDict:=Heap.get?_push_size s.heap rfl
 have Z:((s.heap.push PySem.W.emptyDict).push (PySem.W.instObj C s.heap.objs.size)).get? (s.heap.objs.size+1)=some (PySem.W.instObj C s.heap.objs.size):=by
  have:=Heap.get?_push_size (s.heap.push PySem.W.emptyDict) (o:=PySem.W.instObj C s.heap.objs.size) rfl
  rwa [Heap.size_push] at this
 have e3:(s.heap.push PySem.W.emptyDict).Ns s.heap.objs.size (fun _=>none):=⟨PySem.W.emptyDict,#[],_,B,rfl,(fun e J=>absurd J (by simp)),fun _=>rfl⟩
 have O:=I.laid (a:=s.heap.objs.size) (o:=.own (s.heap.objs.size+1)) (h':=s.heap.push PySem.W.emptyDict) (t':=s.toks) (fun b u q=>Heap.get?_push_of_some _ q) (yAA _) ⟨_,B⟩
 refine O.laid (a:=s.heap.objs.size+1) (o:=.ins C s.heap.objs.size []) (t':=s.toks) (fun b u q=>Heap.get?_push_of_some _ q) (Nat.le_of_eq (Heap.size_push _ _)) ?_
 have ne:s.heap.objs.size≠s.heap.objs.size+1:=yAM (yBP _)
 refine ⟨by rw [ZAK ne,ZAG],yAG _,ne,Z,fun _=>none,(Heap.Ns1.of_empty e3).at fun o q=>Heap.get?_push_of_some _ q,fun _=>True.intro,fun y U=>absurd rfl U⟩
theorem attr_of {prog:Program} {w:World} {env:Env} {e:Expr} {f:Str} {pos:Pos} {s:Shared} {Q:Value->Shared->Prop} (B:attributeBase e f env (eval e env)=eval e env)
  (h:wpAny (model prog w) A (eval e env) (fun o s₁=>wpAny (model prog w) A (getAttr o f true) Q E s₁) E s):wpAny (model prog w) A (eval (.Attribute e f pos) env) Q E s :=
 Attribute_any_ h (by rw [arm_eval_Attribute,B])
end
noncomputable def tFld (K:W.Frag) (ta:TE) (f:Str):TE:=fun σ H Q=>ta σ H fun x H1=>∃ a C dx fs v,x=.ref a /\ H1 a=some (.ins C dx fs) /\ Cls K C /\ NoAttr K C f /\ fs.lookup f=some v /\ Q v H1
noncomputable def sFld (K:W.Frag) (ta tv:TE) (f:Str):TS:=fun D σ H=>tv σ H fun y H1=>ta σ H1 fun x H2=>∃ a C dx fs,x=.ref a /\ H2 a=some (.ins C dx fs) /\ Cls K C /\ NoAttr K C f /\ fs.length < 1000 /\
 D.nx σ (upd H2 a (.ins C dx (putF f y fs)))
noncomputable def InOp (X:Cx) (op:Operator) (rd:V->V->Hp->VK->Prop):Prop :=
 ∀ (pins:List (Addr×Obj)) (s:Shared) (σ:St) (H:Hp) (x y:V) (u v:Value) (Q:VK),Inv X pins σ H s->RelV x u->RelV y v->rd x y H Q->wpAny (model X.prog X.w) X.A (inplaceOp op u v) (EP X pins σ Q) X.xe s
noncomputable def sFldAug (K:W.Frag) (ta tv:TE) (rd:V->V->Hp->VK->Prop) (f:Str):TS:=fun D σ H=>ta σ H fun x H1=>∃ a C dx fs v,x=.ref a /\ H1 a=some (.ins C dx fs) /\ Cls K C /\ NoAttr K C f /\ fs.lookup f=some v /\
 tv σ H1 fun y H2=>rd v y H2 fun z H3=>∃ dx' fs',H3 a=some (.ins C dx' fs') /\ fs'.length < 1000 /\ D.nx σ (upd H3 a (.ins C dx' (putF f z fs')))
section
variable {X:Cx} {o e value:Expr} {f:Str} {pos pos' tpos:Pos} {ta tv:TE}
theorem ZAQ (B:PE X e ta) (J:attributeBase e f X.env (eval e X.env)=eval e X.env):PE X (.Attribute e f pos) (tFld X.K ta f):=by
 intro pins s σ H Q I h
 refine attr_of J (thn (B pins s σ H _ I h) fun u s1 zz=>?_)
 obtain ⟨x,H1,I1,U,a,C,dx,fs,v,ex,Z,c,n,l,q⟩:=zz
 subst ex
 obtain rfl:u=Value.ref a:=U
 exact getattr_ok I1 Z c n l fun u' s2 O ru=>⟨v,H1,O,ru,q⟩
theorem ZBB (ha:PE X o ta) (hv:PE X value tv) (hs:swapsWith value (some (.Attribute o f pos')) pos.line X.env=pure false):PS X (.Assign [.Attribute o f pos'] value pos) (sFld X.K ta tv f):=by
 intro pins s σ H D I h
 refine plainObj_wpAny_Assign_Attribute (thn (hv pins s σ H _ I h) fun u s1 ⟨y,H1,I1,O,q⟩=>thn (ha pins s1 σ H1 _ I1 q) fun B s2 zz=>?_) hs
 obtain ⟨x,H2,J,U,a,C,dx,fs,ex,ea,c,n,l,Z⟩:=zz
 subst ex
 obtain rfl:B=Value.ref a:=U
 exact setattr_ok J ea c n l O fun s3 I3=>⟨σ,_,I3,Z⟩
theorem ps_fldaug {U:Operator} {rd:V->V->Hp->VK->Prop} (ha:PE X o ta) (hv:PE X value tv) (O:InOp X U rd):PS X (.AugAssign (.Attribute o f tpos) U value pos) (sFldAug X.K ta tv rd f):=by
 intro pins s σ H D I h
 refine wpAny_AugAssign_AttributeAny (thn (ha pins s σ H _ I h) fun ov s1 J=>?_)
 obtain ⟨x,H1,I1,rx,a,C,dx,fs,v,ex,ea,c,n,l,q⟩:=J
 subst ex
 obtain rfl:ov=Value.ref a:=rx
 refine getattr_ok I1 ea c n l fun u s2 I2 ru=>thn (hv pins s2 σ H1 _ I2 q) fun w3 s3 ⟨y,H2,I3,ry,q3⟩=>thn (O pins s3 σ H2 v y u w3 _ I3 ru ry q3) fun w4 s4 J=>?_
 obtain ⟨z,H3,I4,rz,a0,fs',B,l',q4⟩:=J
 exact setattr_ok I4 B c n l' rz fun s5 Z=>⟨σ,_,Z,q4⟩
noncomputable def rAdd:V->V->Hp->VK->Prop:=fun x y H Q=>∃ i j,x=.int i /\ y=.int j /\ Q (.int (i+j)) H
theorem in_add:InOp X .Add rAdd:=by
 rintro pins s σ H x y u v Q I B J ⟨i,j,rfl,rfl,q⟩
 obtain ⟨t,rfl⟩:=(show ∃ t,u=Value.int i t from B)
 obtain ⟨t',rfl⟩:=(show ∃ t',v=Value.int j t' from J)
 exact PyProof.Rows.iadd_int ⟨.int (i+j),H,I.tok _,⟨_,rfl⟩,q⟩
end
section
variable {X:Cx} {pins:List (Addr×Obj)} {σ:St} {H:Hp} {s:Shared} {A:Around} {E:Value->Shared->Prop} {Q:Value->Shared->Prop} {c:Value} {b:Bool}
end
structure Room (k:Nat) (A:Around):Prop where
 hd:A.handled=none
 dp:A.depth+3 * k+5 < recursionLimit
 un:A.units+16 * k+200 < cLine
 gd:A.guards=some []
theorem Room.mono {j k:Nat} {A:Around} (r:Room k A) (h:j <= k):Room j A:=⟨r.hd,by have:=r.dp;omega,by have:=r.un;omega,r.gd⟩
theorem Room.deeper {k:Nat} {A:Around} (r:Room (k+1) A) (env:Env):Room k (A.deeper env) :=
 ⟨r.hd,by have:=r.dp;show A.depth+1+3 * k+5 < _;omega,by have:=r.un;show A.units+3+16 * k+200 < _;omega,r.gd⟩
theorem make_depth {A:Around} {C:Addr} {us:List Value} {B:List (Str×Value)}:(A.under (.builtin "type.__call__" ⟨.ref C::us,B⟩)).depth=A.depth+1:=by
 first | rfl | simp [Around.under,Code.weight,Code.isCreation,Code.isGuard,Code.isCaller,Code.frames,Code.isFrame,guardIds]
theorem make_units {A:Around} {C:Addr} {us:List Value} {B:List (Str×Value)}:(A.under (.builtin "type.__call__" ⟨.ref C::us,B⟩)).units=A.units+1:=by
 first | rfl | simp [Around.under,Code.cUnits,Code.frames,Code.isFrame]
theorem Room.make {k:Nat} {A:Around} (r:Room (k+1) A) (C:Addr) (us:List Value) (B:List (Str×Value)):Room k (A.under (.builtin "type.__call__" ⟨.ref C::us,B⟩)) :=
 ⟨r.hd,by have:=r.dp;rw [make_depth];omega,by have:=r.un;rw [make_units];omega,by have:=r.gd;first | exact this | simp [Around.under,Code.guards,Code.isGuard,guardIds,this]⟩
theorem Room.depth {k:Nat} {A:Around} (r:Room k A):A.depth < recursionLimit:=by have:=r.dp;omega
theorem Room.units {k:Nat} {A:Around} (r:Room k A):A.units+64 < cLine:=by have:=r.un;omega
noncomputable def tNil:TA:=fun _ H Q=>Q [] H
noncomputable def ZCI (ta:TE) (tr:TA):TA:=fun σ H Q=>ta σ H fun x H1=>tr σ H1 fun xs H2=>Q (x::xs) H2
section
variable {X:Cx} {e:Expr} {es:List Expr} {te:TE} {t:TA} {pos:Pos}
theorem ZAE:PA X [] tNil:=fun _ _ _ _ H Q I h=>Calls.spliced_nil ⟨[],H,I,.nil,h⟩
theorem ZAA (ha:PE X e te) (B:PA X es t) (hs:starEach (e::es) X.env=(false,eval e X.env)::starEach es X.env:=by rfl):PA X (e::es) (ZCI te t):=by
 intro pos pins s σ H Q I h
 rw [hs]
 show wpAny _ _ (spliced ((false,eval e X.env)::backTo pos (starEach es X.env))) _ _ s
 refine Calls.spliced_cons (thn (ha pins s σ H _ I h) fun u s1 U=>?_)
 obtain ⟨x,H1,Z,r1,q1⟩:=U
 exact thn (B pos pins s1 σ H1 _ Z q1) fun us s2 ⟨xs,H2,J,r2,O⟩=>⟨x::xs,H2,J,.cons r1 r2,O⟩
noncomputable def tTup (t:TA):TE:=fun σ H Q=>t σ H fun xs H1=>xs.length <= sizeLine /\ ∀ p,H1 p=none->Q (.ref p) (upd H1 p (.tup xs))
noncomputable def tLst (t:TA):TE:=fun σ H Q=>t σ H fun xs H1=>xs.length <= sizeLine /\ ∀ p,H1 p=none->Q (.ref p) (upd H1 p (.lst xs))
theorem ZB4 {x1} (h:PA X es t):PE X (.Tuple es x1 pos) (tTup t):=by
 intro pins s σ H Q I J
 refine wpAny_Tuple_spliced (thn (h pos pins s σ H _ I J) fun us s1 ⟨xs,H1,B,r,z,q⟩=>⟨by rw [<- r.length];exact z,?_⟩)
 have O:H1 s1.heap.objs.size=none:=B.hok.fresh (yAA _)
 refine ⟨.ref s1.heap.objs.size,upd H1 s1.heap.objs.size (.tup xs),B.laid (t':=s1.toks) (fun b u e=>Heap.get?_push_of_some _ e) (yAA _) ?_,rfl,q _ O⟩
 exact ⟨z,us,r,⟨_,Heap.get?_push_size _ rfl,rfl,_,rfl⟩⟩
theorem ZBC (h:PA X es t):PE X (.List es pos) (tLst t):=by
 intro pins s σ H Q I J
 refine wpAny_List_spliced (thn (h pos pins s σ H _ I J) fun us s1 ⟨xs,H1,B,r,z,q⟩=>⟨by rw [<- r.length];exact z,?_⟩)
 have O:H1 s1.heap.objs.size=none:=B.hok.fresh (yAA _)
 refine ⟨.ref s1.heap.objs.size,upd H1 s1.heap.objs.size (.lst xs),B.laid (t':=s1.toks) (fun b u e=>Heap.get?_push_of_some _ e) (yAA _) ?_,rfl,q _ O⟩
 exact ⟨z,us,0,r,Heap.get?_push_size _ rfl⟩
end
noncomputable abbrev Sp:=List V->Hp->VK->XK->Prop
noncomputable abbrev CXT:=List Env->Hp->Shared->XK->Value->Shared->Prop
structure Env0 (P:Program) (w:World) (K:W.Frag) (mg:Str->Option Value) (base:Heap) (A:Around) (outer:List Env) (s:Shared) (H:Hp):Prop where
 frames:A.frames=some outer
 mod:Mod K mg base
 bs:∀ b o,base.get? b=some o->s.heap.get? b=some o /\ H b=none
 bsz:base.objs.size <= s.heap.objs.size
 funs:s.heap.FunFrames base outer
 frf:∀ b∈frs outer,H b=none
 hok:HOk P w H s.heap
 bare:AllBare s.gens
noncomputable def CE (outer:List Env) (P:Program) (w:World) (H:Hp) (s:Shared) (Q:VK) (u:Value) (s':Shared):Prop :=
 ∃ v H',s'.os=s.os /\ AllBare s'.gens /\ Un (frs outer) [] H H' s.heap s'.heap /\ HOk P w H' s'.heap /\ RelV v u /\ Q v H'
noncomputable def CR (CX:CXT) (outer:List Env) (P:Program) (w:World) (H:Hp) (s:Shared) (Q:VK) (E:XK) (r:Result) (s':Shared):Prop :=
 match r with
 | .ok (.ret u)=>CE outer P w H s Q u s'
 | .ok _=>False
 | .error e=>CX outer H s E e s'
structure FnOk (P:Program) (w:World) (K:W.Frag) (mg:Str->Option Value) (base:Heap) (CX:CXT) (k:Nat) (f:Addr) (fd:FuncData) (ps:List Str) (sp:Sp):Prop where
 len:∀ vs H Q E,sp vs H Q E->vs.length=ps.length
 run:∀ (A:Around) (outer:List Env) (s:Shared) (H:Hp) (args:Args) (us:List Value) (vs:List V) (Q:VK) (E:XK),Room k A->Env0 P w K mg base A outer s H->BindsTo s fd args (ps.zip us)->Vals vs us->sp vs H Q E ->
  codeAny (model P w) A (.call (.ref f) args) (CR CX outer P w H s Q E) s
theorem Env0.make {P:Program} {w:World} {K:W.Frag} {mg:Str->Option Value} {base:Heap} {A:Around} {outer:List Env} {s:Shared} {H:Hp} (e:Env0 P w K mg base A outer s H) (C:Addr) (us:List Value) (B:List (Str×Value)) :
  Env0 P w K mg base (A.under (.builtin "type.__call__" ⟨.ref C::us,B⟩)) outer s H:=⟨by first | exact e.frames | (simpa [Around.under,Code.envs,Code.isFrame,pushEnvs] using e.frames),e.mod,e.bs,e.bsz,e.funs,e.frf,e.hok,e.bare⟩
section
variable {X:Cx} {pins:List (Addr×Obj)} {σ:St} {H:Hp} {s s':Shared}
theorem Inv.env0 (I:Inv X pins σ H s):Env0 X.prog X.w X.K X.mg X.base X.A X.stack s H :=
 ⟨I.ok.frames,I.ok.mod,I.bs,yAL I.ok.bsz I.sz,I.stack,I.stkFree,I.hok,I.bare⟩
theorem Inv.after {Q:VK} {u:Value} (I:Inv X pins σ H s) (h:CE X.stack X.prog X.w H s Q u s'):EP X pins σ Q u s':=by
 obtain ⟨v,H',os,B,un,J,r,q⟩:=h
 obtain ⟨hh,g,d,t,os'⟩:=s'
 obtain rfl:os'=s.os:=os
 exact ⟨v,H',I.call (h':=hh) (g':=g) (d':=d) (t':=t) (ch:=[]) un J B (fun b z=>absurd z (by simp)),r,q⟩
end
noncomputable def ZEY (sp:Sp) (dvs:List V) (E:XK) (t:TA):TE:=fun σ H Q=>t σ H fun vs H1=>sp (vs++dvs) H1 Q E
noncomputable def ZEQ (C:Addr) (m:Str) (sp:Sp) (dvs:List V) (E:XK) (ta:TE) (t:TA):TE:=fun σ H Q=>ta σ H fun x H1=>∃ a dx fs,x=.ref a /\ H1 a=some (.ins C dx fs) /\ fs.lookup m=none /\
 t σ H1 fun vs H2=>sp (x::(vs++dvs)) H2 Q E
noncomputable def ZEW (C:Addr) (sp:Sp) (dvs:List V) (E:XK) (t:TA):TE:=fun σ H Q=>t σ H fun vs H1=>∀ x dx,H1 x=none->H1 dx=none->dx≠x ->
 sp (.ref x::(vs++dvs)) (upd (upd H1 dx (.own x)) x (.ins C dx [])) (fun v H2=>v=.non /\ Q (.ref x) H2) E
noncomputable def Binds (K:W.Frag) (fd:FuncData) (ps:List Str) (ds:List Value):Prop :=
 ∀ (s:Shared) (us:List Value),K.In s.heap->(us++ds).length=ps.length->BindsTo s fd ⟨us,[]⟩ (ps.zip (us++ds))
theorem Binds.all {K:W.Frag} {fd:FuncData} {ps:List Str} (h:∀ us:List Value,us.length=ps.length->bindArgs fd ⟨us,[]⟩=pure (ps.zip us)):Binds K fd ps []:=fun s us _ hl=>by
 rw [yBC] at hl ⊢
 exact .of_eq (h us hl)
noncomputable def ZBp (CX:CXT) (X:Cx) (E:XK):Prop:=∀ (pins:List (Addr×Obj)) (σ:St) (H:Hp) (s:Shared) (e:Value) (s':Shared),Inv X pins σ H s->CX X.stack H s E e s'->X.xe e s'
section
variable {X:Cx} {CX:CXT} {k:Nat} {f C:Addr} {fd:FuncData} {ps:List Str} {sp:Sp} {dvs:List V} {ds:List Value} {E:XK} {x m:Str} {p pos apos:Pos} {e o:Expr} {es:List Expr} {ta:TE} {t:TA}
theorem ZEc {pins:List (Addr×Obj)} {σ:St} {H:Hp} {s:Shared} {Q:VK} {us:List Value} {vs:List V} (F:FnOk X.prog X.w X.K X.mg X.base CX k f fd ps sp) (J:Room k X.A) (U:Binds X.K fd ps ds) (Z:Vals dvs ds) (O:ZBp CX X E)
  (I:Inv X pins σ H s) (r:Vals vs us) (h:sp (vs++dvs) H Q E):wpAny (model X.prog X.w) X.A (call (.ref f) us) (EP X pins σ Q) X.xe s:=by
 have r2:Vals (vs++dvs) (us++ds):=r.append Z
 have hl:(us++ds).length=ps.length:=by rw [<- r2.length];exact F.len _ _ _ _ h
 refine wpAny_call (codeAny_mono (F.run X.A X.stack s H ⟨us,[]⟩ (us++ds) (vs++dvs) Q E J I.env0 (U s us I.kIn hl) r2 h) fun r s' B=>?_)
 cases r with
 | error e=>exact O pins σ H s e s' I B
 | ok fl=>
  cases fl with
  | ret u=>exact I.after B
  | next=>exact False.elim B
  | brk=>exact False.elim B
  | cont=>exact False.elim B
theorem pe_call (F:FnOk X.prog X.w X.K X.mg X.base CX k f fd ps sp) (U:Room k X.A) (hg:Gl X x) (hm:X.mg x=some (.ref f)) (hk:W.keepIn X.K (.ref f)=true) (hb:Binds X.K fd ps ds) (hd:Vals dvs ds) (Z:ZBp CX X E)
  (ha:PA X (e::es) t) (B:(x == ("__debug__":Str))=false:=by decide) (he:starEach (e::es) X.env=(false,eval e X.env)::starEach es X.env:=by rfl) (J:(backTo pos (starEach es X.env)).any (·.1)=false:=by rfl) :
  PE X (.Call (.Name x p) (e::es) [] pos) (ZEY sp dvs E t):=by
 intro pins s σ H Q I h
 refine wpAny_Call_Name_kw (ZD7 I hg hm ?_ B)
 refine PySem.W.callWith_K (h₀:=X.base) I.ok.mod.kin hk (thn (ha pos pins s σ H _ I h) fun us s1 ⟨vs,H1,O,r,q⟩=>⟨O.kIn,?_⟩) he J
 exact ZEc F U hb hd Z O r q
theorem pe_meth {pl:Sem Bool} (he:PE X o ta) (c:Cls X.K C) (Z:Meth X.K C m f) (F:FnOk X.prog X.w X.K X.mg X.base CX k f fd ps sp) (hr:Room k X.A) (hb:Binds X.K fd ps ds) (hd:Vals dvs ds) (hx:ZBp CX X E) (ha:PA X (e::es) t)
  (J:starEach (e::es) X.env=(false,eval e X.env)::starEach es X.env:=by rfl) (B:(backTo pos (starEach es X.env)).any (·.1)=false:=by rfl)
  (ht:eval (.Call (.Attribute o m apos) (e::es) [] pos) X.env=(do
   let ov <- eval o X.env
   standAt apos.atName
   let (f,first) <- holding [ov] (getMethod ov m pl)
   callWith pos f first (backTo pos (starEach (e::es) X.env)) (backToKw pos (keywordEach [] X.env))):=by rfl) :
  PE X (.Call (.Attribute o m apos) (e::es) [] pos) (ZEQ C m sp dvs E ta t):=by
 intro pins s σ H Q I h
 refine PySem.W.methodCall_KW (pl:=pl) (thn (he pins s σ H _ I h) fun u s1 zz=>?_) ht
 obtain ⟨x,H1,U,rx,a,dx,fs,ex,ea,l,q⟩:=zz
 subst ex
 obtain rfl:u=Value.ref a:=rx
 refine getmeth_ok U ea c Z l ?_
 refine PySem.W.callWith_K (first:=[.ref a]) (h₀:=X.base) I.ok.mod.kin Z.kp (thn (ha pos pins s1 σ H1 _ U q) fun us s2 ⟨vs,H2,O,r,q2⟩=>⟨O.kIn,?_⟩) J B
 exact ZEc (us:=.ref a::us) (vs:=.ref a::vs) F hr hb hd hx O (.cons rfl r) q2
theorem pe_meth0 {pl:Sem Bool} (he:PE X o ta) (c:Cls X.K C) (J:Meth X.K C m f) (F:FnOk X.prog X.w X.K X.mg X.base CX k f fd ps sp) (O:Room k X.A) (hb:Binds X.K fd ps ds) (hd:Vals dvs ds) (U:ZBp CX X E)
  (Z:eval (.Call (.Attribute o m apos) [] [] pos) X.env=(do
   let ov <- eval o X.env
   standAt apos.atName
   let (f,first) <- holding [ov] (getMethod ov m pl)
   callWith pos f first (backTo pos (starEach [] X.env)) (backToKw pos (keywordEach [] X.env))):=by rfl) :
  PE X (.Call (.Attribute o m apos) [] [] pos) (ZEQ C m sp dvs E ta tNil):=by
 intro pins s σ H Q I h
 refine PySem.W.methodCall_KW (pl:=pl) (thn (he pins s σ H _ I h) fun u s1 zz=>?_) Z
 obtain ⟨x,H1,B,rx,a,dx,fs,ex,ea,l,q⟩:=zz
 subst ex
 obtain rfl:u=Value.ref a:=rx
 refine getmeth_ok B ea c J l ?_
 exact PySem.W.callWith_K0 (first:=[.ref a]) B.kIn J.kp (ZEc (us:=[.ref a]) (vs:=[.ref a]) F O hb hd U B (.cons rfl .nil) q)
structure Mk (K:W.Frag) (C f:Addr):Prop where
 makes:PySem.W.makesIn K C=true
 init:W.findIn K (.ref C) "__init__"=some (some (.ref f))
 fn:PySem.W.isFn K (.ref f)=true
 kp:W.keepIn K (.ref C)=true
theorem run_make {pins:List (Addr×Obj)} {σ:St} {H:Hp} {s:Shared} {Q:VK} {us:List Value} {vs:List V} (M:Mk X.K C f) (F:FnOk X.prog X.w X.K X.mg X.base CX k f fd ps sp) (U:Room (k+1) X.A) (hb:Binds X.K fd ps ds) (hd:Vals dvs ds)
  (hx:ZBp CX X E) (I:Inv X pins σ H s) (r:Vals vs us)
  (h:∀ x dx,H x=none->H dx=none->dx≠x->sp (.ref x::(vs++dvs)) (upd (upd H dx (.own x)) x (.ins C dx [])) (fun v H2=>v=.non /\ Q (.ref x) H2) E) :
  wpAny (model X.prog X.w) X.A (call (.ref C) us) (EP X pins σ Q) X.xe s:=by
 have O:=h (s.heap.objs.size+1) s.heap.objs.size (I.hok.fresh (yBB _)) (I.hok.fresh (yAA _)) (yAM (yBP _))
 have J:=Inv.made (C:=C) I
 have r2:Vals (V.ref (s.heap.objs.size+1)::(vs++dvs)) (Value.ref (s.heap.objs.size+1)::(us++ds)):=.cons rfl (r.append hd)
 have hl:(Value.ref (s.heap.objs.size+1)::us++ds).length=ps.length:=by
  have e:=r2.length
  rw [F.len _ _ _ _ O] at e
  exact e.symm
 refine wpAny_call (make_map (f:=f) I.kIn M.makes M.init (beq_iff_eq.mp M.fn) (codeAny_mono (F.run _ X.stack _ _ ⟨Value.ref (s.heap.objs.size+1)::us,[]⟩ (Value.ref (s.heap.objs.size+1)::(us++ds)) _ _ E (U.make C us [])
  (J.env0.make C us []) (hb _ (Value.ref (s.heap.objs.size+1)::us) J.kIn hl) r2 O) fun r s' B=>?_))
 cases r with
 | error e=>exact hx pins σ _ _ e s' J B
 | ok fl=>
  cases fl with
  | ret u=>
   obtain ⟨v,H',I3,rv,Z,q3⟩:=J.after B
   subst Z
   exact ⟨rv,⟨V.ref (s.heap.objs.size+1),H',I3,rfl,q3⟩⟩
  | next=>exact False.elim B
  | brk=>exact False.elim B
  | cont=>exact False.elim B
theorem pe_make (M:Mk X.K C f) (F:FnOk X.prog X.w X.K X.mg X.base CX k f fd ps sp) (U:Room (k+1) X.A) (hg:Gl X x) (hm:X.mg x=some (.ref C)) (hb:Binds X.K fd ps ds) (hd:Vals dvs ds) (Z:ZBp CX X E)
  (ha:PA X (e::es) t) (B:(x == ("__debug__":Str))=false:=by decide) (he:starEach (e::es) X.env=(false,eval e X.env)::starEach es X.env:=by rfl) (J:(backTo pos (starEach es X.env)).any (·.1)=false:=by rfl) :
  PE X (.Call (.Name x p) (e::es) [] pos) (ZEW C sp dvs E t):=by
 intro pins s σ H Q I h
 refine wpAny_Call_Name_kw (ZD7 I hg hm ?_ B)
 refine PySem.W.callWith_K (h₀:=X.base) I.ok.mod.kin M.kp (thn (ha pos pins s σ H _ I h) fun us s1 ⟨vs,H1,O,r,q⟩=>⟨O.kIn,?_⟩) he J
 exact run_make M F U hb hd Z O r q
end
section
variable {X:Cx} {CX:CXT} {k:Nat} {f C:Addr} {fd:FuncData} {ps ks:List Str} {sp:Sp} {E:XK} {x m:Str} {p pos apos kpos:Pos} {e o:Expr} {es:List Expr} {kws:List Keyword} {te ta:TE} {t tk:TA} {nm:Option Str}
variable {g:List Value->List Value->List Value} {gV:List V->List V->List V}
end
structure FnScope (N P:List Str) (sc:Scope):Prop where
 kind:sc.kind=.function
 co:sc.isCoroutine=false
 gen:sc.isGenerator=false
 nd:N.Nodup
 pre:N.take P.length=P
 par:∀ x∈P,sc.names.lookup x=some .local∨sc.names.lookup x=some .cell
 nofree:∀ y∈sc.names,y.2≠.free
theorem bindL_out {B:Str->Option NameKind} {x:Str}:∀ {binds:List (Str×Value)} {m:Str->Option Value},(∀ v,(x,v)∉binds)->bindL B binds m x=m x
 | [],_,_=>rfl
 | (n,v)::r,m,h=>by
  unfold bindL
  rw [bindL_out fun w hw=>h w (yAC _ hw)]
  split
  .have:x≠n:=by rintro rfl;exact h v yAF
   simp [this]
  .rfl
theorem bindC_out {B:Str->Option NameKind} {x:Str}:∀ {binds:List (Str×Value)} {m:Str->Option Value},(∀ v,(x,v)∉binds)->bindC B binds m x=m x
 | [],_,_=>rfl
 | (n,v)::r,m,h=>by
  unfold bindC
  rw [bindC_out fun w hw=>h w (yAC _ hw)]
  split
  .rfl
  .have:x≠n:=by rintro rfl;exact h v yAF
   simp [this]
theorem bindL_get {B:Str->Option NameKind} {x:Str} {v:Value}:∀ {P:List Str} {vs:List Value} {i:Nat} {m:Str->Option Value},P.Nodup->P[i]?=some x->vs[i]?=some v->B x=some .local ->
  bindL B (P.zip vs) m x=some v
 | [],_,_,_,_,h,_,_=>by simp at h
 | _::_,[],_,_,_,_,h,_=>by simp at h
 | p::P,w::vs,0,m,nd,h1,h2,hk=>by
  simp at h1 h2;subst h1;subst h2
  show bindL B ((p,w)::P.zip vs) m p=_
  unfold bindL
  rw [bindL_out fun v J=>(yCG.mp nd).1 (List.of_mem_zip J).1,if_pos hk]
  simp
 | p::P,w::vs,i+1,m,nd,h1,h2,hk=>by
  show bindL B ((p,w)::P.zip vs) m x=_
  unfold bindL
  exact bindL_get (i:=i) (yCG.mp nd).2 (by simpa using h1) (by simpa using h2) hk
theorem bindC_get {B:Str->Option NameKind} {x:Str} {v:Value}:∀ {P:List Str} {vs:List Value} {i:Nat} {m:Str->Option Value},P.Nodup->P[i]?=some x->vs[i]?=some v->B x≠some .local ->
  bindC B (P.zip vs) m x=some v
 | [],_,_,_,_,h,_,_=>by simp at h
 | _::_,[],_,_,_,_,h,_=>by simp at h
 | p::P,w::vs,0,m,nd,h1,h2,hk=>by
  simp at h1 h2;subst h1;subst h2
  show bindC B ((p,w)::P.zip vs) m p=_
  unfold bindC
  rw [bindC_out fun v J=>(yCG.mp nd).1 (List.of_mem_zip J).1,if_neg hk]
  simp
 | p::P,w::vs,i+1,m,nd,h1,h2,hk=>by
  show bindC B ((p,w)::P.zip vs) m x=_
  unfold bindC
  exact bindC_get (i:=i) (yCG.mp nd).2 (by simpa using h1) (by simpa using h2) hk
noncomputable def start (N:List Str) (vs:List V):St:=vs.map some++List.replicate (N.length-vs.length) none
noncomputable def cxOf (CX:CXT) (P:Program) (w:World) (K:W.Frag) (mg:Str->Option Value) (base:Heap) (N:List Str) (qual:Str) (scope:Scope) (f:Addr) (cd:Value) (A:Around) (outer:List Env) (s:Shared) (H:Hp) (E:XK):Cx where
 prog:=P
 w:=w
 K:=K
 mg:=mg
 base:=base
 A:=A.deeper (envOfC qual scope s.heap.objs.size f cd)
 N:=N
 s₀:=s
 H₀:=H
 env:=envOfC qual scope s.heap.objs.size f cd
 outer:=outer
 stack:=envOfC qual scope s.heap.objs.size f cd::outer
 ex:=[]
 calm:=true
 fn:=fun _=>true
 pn:=[]
 xe:=fun e s'=>wpAny (model P w) (A.deeper (envOfC qual scope s.heap.objs.size f cd)) (leaving (envOfC qual scope s.heap.objs.size f cd) e) (fun _ s''=>CX outer H s E e s'') (fun e' s''=>CX outer H s E e' s'') s'
theorem ZC1 {sc:Scope} {n:Nat} {x:Str} (h:sc.names.lookup x=some .cell):∃ c,(cellsFrom n sc.names []).lookup x=some c:=by
 have q:=PySem.W.cellsFrom_some sc.names n [] (.inl h)
 exact Option.isSome_iff_exists.mp q
theorem inv_start {CX:CXT} {P:Program} {w:World} {K:W.Frag} {mg:Str->Option Value} {base:Heap} {N ps:List Str} {qual:Str} {scope:Scope} {f:Addr} {cd:Value} {A:Around} {outer:List Env} {s s1:Shared} {H:Hp} {E:XK} {us:List Value} {vs:List V}
  (S:FnScope N ps scope) (hd:A.handled=none) (B:Env0 P w K mg base A outer s H) (hl:vs.length=ps.length) (r:Vals vs us)
  (x:InCallC s s.heap.objs.size (bindL (envOfC qual scope s.heap.objs.size f cd).kindOf (ps.zip us) fun _=>none) (cellsFrom (s.heap.objs.size+1) scope.names []) (bindC (envOfC qual scope s.heap.objs.size f cd).kindOf (ps.zip us) fun _=>none) s1) :
  Inv (cxOf CX P w K mg base N qual scope f cd A outer s H E) [] (start N vs) H s1:=by
 have a0:ps.length <= N.length:=by have:=congrArg List.length S.pre;rw [yAP] at this;omega
 obtain ⟨h1,tk,rfl,hk⟩:=x.done
 have J:∀ b:Addr,b∉(cxOf CX P w K mg base N qual scope f cd A outer s H E).ex:=fun b z=>absurd (show b∈([]:List Addr) from z) (by simp)
 refine ⟨⟨B.mod,S.kind,rfl,rfl,yAA _,fun y z c h1 h2=>?_,fun y O=>?_,fun y c _ h=>?_,fun _=>hd,Around.frames_deeper B.frames,.inr ⟨rfl,rfl⟩,fun b z=>absurd z (J b),B.bs,B.bsz,fun b _ _=>J b,fun b z=>absurd z (J b),B.funs,B.frf⟩,
  rfl,B.bare,Un.kept hk,⟨_,x.toInCall.ns,fun i y v h1 h2 h3=>?_⟩,fun y c h=>⟨_,x.cell y c h⟩,B.hok.fresh (yAA _),fun y c h=>?_,fun p U=>absurd (show p∈([]:List (Addr×Obj)) from U) (by simp),B.hok.kept hk,?_⟩
 .exact name_of_addr x.apart (PySem.mem_of_lookup h1) (PySem.mem_of_lookup h2)
 .have O:scope.names.lookup y=some .cell∨scope.names.lookup y=some .free:=O
  rcases O with O | O
  .exact ZC1 O
  .exact absurd rfl (S.nofree _ (PySem.mem_of_lookup O))
 .exact yBJ (x.above y c (PySem.mem_of_lookup h))
 .have hi:i < vs.length:=by
   unfold start at h2
   by_cases hi:i < vs.length
   .exact hi
   .rw [yBE (by simpa using hi)] at h2
    rw [List.getElem?_replicate] at h2
    split at h2 <;> cases h2
  have ha:vs[i]?=some v:=by
   unfold start at h2
   rw [yAY (by simpa using hi),yAT] at h2
   cases e:vs[i]? with
   | none=>rw [e] at h2;cases h2
   | some a=>rw [e] at h2;cases h2;rfl
  obtain ⟨u,hu,rv⟩:=r.get ha
  have U:ps[i]?=some y:=by
   rw [<- S.pre,yBY (by omega)];exact h1
  have Z:ps.Nodup:=by rw [<- S.pre];exact S.nd.sublist (List.take_sublist _ _)
  refine ⟨u,rv,?_⟩
  rcases S.par y (yAQ U) with k | k
  .exact .inl ⟨k,bindL_get Z U hu k⟩
  .obtain ⟨c,e⟩:=ZC1 (n:=s.heap.objs.size+1) k
   refine .inr ⟨.inl k,c,e,?_⟩
   have q:=x.cell y c e
   rw [bindC_get Z U hu (by show scope.names.lookup y≠_;rw [k];decide)] at q
   exact q
 .exact B.hok.fresh (yBJ (x.above y c (PySem.mem_of_lookup h)))
 .unfold start
  show _=N.length
  rw [yAB,yAD,yCM]
  omega
theorem fn_of {CX:CXT} {P:Program} {w:World} {K:W.Frag} {mg:Str->Option Value} {base:Heap} {k:Nat} {f:Addr} {name qual:Str} {O:Arguments} {body:List Stmt} {scope:Scope} {dV kV a2 pm B ct oc:Value} {an od:Option Addr}
  {a4:Array (Option Value)} {N ps:List Str} {sp:Sp} (lk:K.lookup f=some ⟨oc,od,.func (W.fnOf name qual O body scope dV kV a2 pm an B ct),a4⟩) (a5:W.codeIn K B qual=true) (S:FnScope N ps scope)
  (len:∀ vs H Q E,sp vs H Q E->vs.length=ps.length)
  (Z:∀ (A:Around) (outer:List Env) (s:Shared) (H:Hp) (vs:List V) (Q:VK) (E:XK),Room k (A.deeper (envOfC qual scope s.heap.objs.size f B))->sp vs H Q E ->
   ∃ t,PSs (cxOf CX P w K mg base N qual scope f B A outer s H E) body t /\ t { nx:=fun _ H'=>Q .non H',rt:=Q } (start N vs) H) :
  FnOk P w K mg base CX (k+1) f (W.fnOf name qual O body scope dV kV a2 pm an B ct) ps sp:=by
 refine ⟨len,fun A outer s H args us vs Q E hr e0 hb r a1=>?_⟩
 have hl:=len _ _ _ _ a1
 have KX:K.In s.heap:=e0.mod.kin.keeps fun b o e=>(e0.bs b o e).1
 have a3:s.heap.NoLimit:=e0.mod.nolimit.keeps fun b o e=>(e0.bs b o e).1
 have a0:∀ y∈ps.zip us,scope.names.lookup y.1=some .local∨(scope.names.lookup y.1=some .cell /\ ((cellsFrom (s.heap.objs.size+1) scope.names []).lookup y.1).isSome=true):=fun ⟨n,v⟩ hy=>by
  rcases S.par n (List.of_mem_zip hy).1 with q | q
  .exact .inl q
  .exact .inr ⟨q,PySem.W.cellsFrom_some _ _ _ (.inl q)⟩
 refine codeAny_call_function hr.depth (KX _ _ lk) rfl S.co S.gen rfl (PySem.W.codeRec_of KX a5) (hb _ _ _ _ ?_)
 refine wpAny_newFunctionEnv_cells S.kind a0 fun env he s1 x=>?_
 subst he
 refine ⟨a3.keeps x.toInCall.keep,codeAny_func ?_⟩
 obtain ⟨t,ht,hq⟩:=Z A outer s H vs Q E (hr.deeper _) a1
 have I:Inv (cxOf CX P w K mg base N qual scope f B A outer s H E) [] (start N vs) H s1:=inv_start S hr.hd e0 hl r x
 refine wpAny_mono (ht [] s1 (start N vs) H _ I hq) (fun fl s' hs=>?_) fun e s' hs=>hs
 have fin:∀ {U:St} {H':Hp} {v:V} {u:Value},Inv (cxOf CX P w K mg base N qual scope f B A outer s H E) [] U H' s'->RelV v u->Q v H'->CE outer P w H s Q u s' :=
  fun {U H' v u} J rv q=>⟨v,H',J.os,J.bare,J.base,J.hok,rv,q⟩
 cases fl with
 | ret u=>
  obtain ⟨v,U,H',J,rv,q⟩:=hs
  exact fin J rv q
 | next=>
  obtain ⟨U,H',J,q⟩:=hs
  exact fin (v:=V.non) (u:=Value.none) J rfl q
 | brk=>
  obtain ⟨_,_,_,q⟩:=hs
  exact False.elim q
 | cont=>
  obtain ⟨_,_,_,q⟩:=hs
  exact False.elim q
section
variable {X:Cx} {x:Str} {p pos:Pos} {e:Expr} {es:List Expr} {t:TA} {id T:String} {r:List V->Hp->VK->Prop}
noncomputable def tCB (r:List V->Hp->VK->Prop) (t:TA):TE:=fun σ H Q=>t σ H fun vs H1=>r vs H1 Q
theorem ZAM (hc:ZCt X (.builtin id) r) (U:Gl X x) (hm:X.mg x=none) (Z:bootBuiltins x=some (.builtin id)) (ha:PA X (e::es) t) (hn:x≠"__name__":=by decide) (B:(x == ("__debug__":Str))=false:=by decide)
  (O:starEach (e::es) X.env=(false,eval e X.env)::starEach es X.env:=by rfl) (J:(backTo pos (starEach es X.env)).any (·.1)=false:=by rfl):PE X (.Call (.Name x p) (e::es) [] pos) (tCB r t):=by
 intro pins s σ H Q I h
 refine wpAny_Call_Name_kw (ZCs I U hm Z ?_ hn B)
 exact PyProof.Rows.callWith_builtin1 (thn (ha pos pins s σ H _ I h) fun us s1 ⟨vs,H1,I1,r1,q1⟩=>hc pins s1 σ H1 vs us Q I1 r1 q1) O J
theorem ZBS (hc:ZCt X (.type T) r) (U:Gl X x) (hm:X.mg x=none) (Z:bootBuiltins x=some (.type T)) (ha:PA X (e::es) t) (hn:x≠"__name__":=by decide) (B:(x == ("__debug__":Str))=false:=by decide)
  (O:starEach (e::es) X.env=(false,eval e X.env)::starEach es X.env:=by rfl) (J:(backTo pos (starEach es X.env)).any (·.1)=false:=by rfl):PE X (.Call (.Name x p) (e::es) [] pos) (tCB r t):=by
 intro pins s σ H Q I h
 refine wpAny_Call_Name_kw (ZCs I U hm Z ?_ hn B)
 exact PyProof.Rows.callWith_type1 (thn (ha pos pins s σ H _ I h) fun us s1 ⟨vs,H1,I1,r1,q1⟩=>hc pins s1 σ H1 vs us Q I1 r1 q1) O J
end
end L2
namespace HT
open PySem PyProof.Rows
section
open PySem.SeqAt
open PySem.AutoSeq1 (wpAny_loadPart')
open PySem.MeetsSeq PySem.MeetsSeq2 PySem.MeetsSeq3
end
section
variable {prog:Program} {w:World} {A:Around} {E:Value->Shared->Prop} {s:Shared}
noncomputable def sIx (n d:Nat):Option Int->Nat
 | none=>d
 | some v=>if v < 0 then (v+(n:Int)).toNat else min v.toNat n
theorem sIx_none (n d:Nat):sIx n d none=d:=rfl
theorem sIx_nat (n d k:Nat):sIx n d (some (k:Int))=min k n:=by
 show (if (k:Int) < 0 then ((k:Int)+(n:Int)).toNat else min (k:Int).toNat n)=min k n
 rw [if_neg (by omega),Int.toNat_natCast]
end
end HT
namespace L2
open PySem PySem.Spec PyProof.Rows
noncomputable abbrev TO:=St->Hp->(Option Int->Hp->Prop)->Prop
noncomputable def PO (X:Cx) (e:Option Expr) (t:TO):Prop :=
 ∀ (pins:List (Addr×Obj)) (s:Shared) (σ:St) (H:Hp) (Q:Option Int->Hp->Prop),Inv X pins σ H s->t σ H Q ->
  wpAny (model X.prog X.w) X.A (evalPart e X.env) (fun u s'=>∃ o H',Inv X pins σ H' s' /\ IsPart u o /\ Q o H') X.xe s
noncomputable def ZDx:TO:=fun _ H Q=>Q none H
noncomputable def ZE0 (t:TE):TO:=fun σ H Q=>t σ H fun x H1=>∃ i,x=.int i /\ Q (some i) H1
theorem ZCn {ns:List Int}:∀ {us:List Value},Vals (ns.map V.int) us->IntsAre us ns:=by
 induction ns with
 | nil=>intro us r;rw [List.map_nil] at r;cases r;exact .nil
 | cons n ns ih=>
  intro us r
  rw [yBD] at r
  cases r with
  | cons r1 r2=>
   obtain ⟨t,e⟩:=r1
   subst e
   exact .cons n t (ih r2)
section
variable {X:Cx} {e:Expr} {te:TE} {lo hi:Option Expr} {tl th:TO} {pos p2:Pos}
theorem po_none:PO X none ZDx:=by
 intro pins s σ H Q I h
 rw [evalPart_none]
 exact wpAny_pure ⟨none,H,I,.none,h⟩
theorem ZB3 (h:PE X e te):PO X (some e) (ZE0 te):=by
 intro pins s σ H Q I hw
 rw [evalPart_some]
 refine thn (h pins s σ H _ I hw) fun u s1 B=>?_
 obtain ⟨x,H1,J,r1,O⟩:=B
 obtain ⟨i,rfl,q⟩:=O
 obtain ⟨t,rfl⟩:=r1
 exact ⟨some i,H1,J,.int i t,q⟩
noncomputable def SlR (X:Cx) (r:V->Option Int->Option Int->Hp->VK->Prop):Prop :=
 ∀ (pins:List (Addr×Obj)) (s:Shared) (σ:St) (H:Hp) (x:V) (v vl vu:Value) (lo hi:Option Int) (sl:Addr) (Q:VK),Inv X pins σ H s->RelV x v->s.heap.IsSliceOf sl vl vu .none->IsPart vl lo->IsPart vu hi->r x lo hi H Q ->
  ∃ T id,typeLookup (.type T) "__getitem__"=pure (some (.builtin id)) /\ s.TypeIs v T /\ wpAny (model X.prog X.w) X.A (getItem v (.ref sl)) (EP X pins σ Q) X.xe s
noncomputable def tSl (r:V->Option Int->Option Int->Hp->VK->Prop) (te:TE) (tl th:TO):TE:=fun σ H Q=>te σ H fun x H1=>tl σ H1 fun l H2=>th σ H2 fun u H3=>r x l u H3 Q
theorem ZCa {r:V->Option Int->Option Int->Hp->VK->Prop} (hr:SlR X r) (he:PE X e te) (hl:PO X lo tl) (hu:PO X hi th):PE X (.Subscript e (.Slice lo hi none p2) pos) (tSl r te tl th):=by
 intro pins s σ H Q I h
 refine Subscript_ (thn (he pins s σ H _ I h) fun v s1 U=>?_)
 obtain ⟨x,H1,I1,r1,q1⟩:=U
 refine wpAny_Slice (thn (hl pins s1 σ H1 _ I1 q1) fun O s2 ⟨l,H2,I2,pl,q2⟩=>thn (hu pins s2 σ H2 _ I2 q2) fun J B U=>?_)
 obtain ⟨u,Z,I3,pu,q3⟩:=U
 rw [evalPart_none]
 refine wpAny_pure ?_
 have I4:Inv X pins σ Z { B with heap:=B.heap.push { cls:=.type "slice",data:=.fields #[O,J,.none] } }:=I3.kept (t':=B.toks) fun b ob q=>Heap.get?_push_of_some _ q
 obtain ⟨T,id,hT,ht,hg⟩:=hr pins { B with heap:=B.heap.push { cls:=.type "slice",data:=.fields #[O,J,.none] } } σ Z x v O J l u B.heap.objs.size Q I4 r1 (Heap.IsSliceOf.new ..) pl pu q3
 show wpAny (model X.prog X.w) X.A (subscriptTail e (.Slice lo hi none p2) v (.ref B.heap.objs.size)) (EP X pins σ Q) X.xe { B with heap:=B.heap.push { cls:=.type "slice",data:=.fields #[O,J,.none] } }
 exact tail_any (ops:=[.ref B.heap.objs.size,v]) ht hT hg (by with_unfolding_all rfl)
noncomputable def cutV (xs:List V) (lo hi:Option Int):List V:=(xs.drop (HT.sIx xs.length 0 lo)).take (HT.sIx xs.length xs.length hi-HT.sIx xs.length 0 lo)
theorem cutV_length (xs:List V) (lo hi:Option Int):(cutV xs lo hi).length <= xs.length:=by
 unfold cutV
 rw [yAP,yBA]
 omega
end
noncomputable def ixN (n:Nat) (i:Int):Option Nat:=if 0 <= i then (if i < n then some i.toNat else none) else if -(n:Int) <= i then some (i+n).toNat else none
noncomputable def atI {α:Type} (xs:List α) (i:Int):Option α:=(ixN xs.length i).bind fun j=>xs[j]?
theorem ixN_seq {n:Nat} {i:Int} {j:Nat} (h:ixN n i=some j):seqIndex? i n=some j /\ j < n /\ -(n:Int) <= i /\ i < n:=by
 unfold ixN at h
 by_cases h0:0 <= i
 .rw [if_pos h0] at h
  by_cases h1:i < n
  .rw [if_pos h1] at h
   have e:i.toNat=j:=Option.some.inj h
   exact ⟨by rw [seqIndex_of h0 h1,e],by omega,by omega,h1⟩
  .rw [if_neg h1] at h;cases h
 .rw [if_neg h0] at h
  by_cases h1:-(n:Int) <= i
  .rw [if_pos h1] at h
   have e:(i+n).toNat=j:=Option.some.inj h
   exact ⟨by rw [seqIndex_neg (by omega) h1,e],by omega,h1,by omega⟩
  .rw [if_neg h1] at h;cases h
theorem atI_get {α:Type} {xs:List α} {i:Int} {v:α} (h:atI xs i=some v):∃ j,seqIndex? i xs.length=some j /\ xs[j]?=some v /\ j < xs.length /\ -(xs.length:Int) <= i /\ i < xs.length:=by
 unfold atI at h
 cases e:ixN xs.length i with
 | none=>rw [e] at h;cases h
 | some j=>
  rw [e] at h
  obtain ⟨h1,h2,h3,B⟩:=ixN_seq e
  exact ⟨j,h1,h,h2,h3,B⟩
theorem atI_nat {α:Type} {xs:List α} {j:Nat} {v:α} (h:xs[j]?=some v):atI xs (j:Int)=some v:=by
 have B:j < xs.length:=(yAI.mp h).1
 have e:ixN xs.length (j:Int)=some j:=by
  unfold ixN
  rw [if_pos (by omega),if_pos (by omega)];simp
 unfold atI;rw [e];exact h
noncomputable def PlainIx (b:Expr):Prop:=∀ o i,subscripted b false o i=operate [o,i] (getItem o i)
noncomputable def IxR (X:Cx) (r:R2):Prop :=
 ∀ (value slice:Expr) (pins:List (Addr×Obj)) (s:Shared) (σ:St) (H:Hp) (x y:V) (v u:Value) (Q:VK),Inv X pins σ H s->RelV x v->RelV y u->r x y H Q ->
  subscripted slice false v u=operate [v,u] (getItem v u)->wpAny (model X.prog X.w) X.A (subscriptTail value slice v u) (EP X pins σ Q) X.xe s
noncomputable def MtR (X:Cx) (id:String) (r:V->List V->Hp->VK->Prop):Prop :=
 ∀ (pins:List (Addr×Obj)) (s:Shared) (σ:St) (H:Hp) (x:V) (xs:List V) (v:Value) (us:List Value) (Q:VK),Inv X pins σ H s->RelV x v->Vals xs us->r x xs H Q ->
  wpAny (model X.prog X.w) X.A (call (.builtin id) (v::us)) (EP X pins σ Q) X.xe s
section
variable {X:Cx} {a b:Expr} {ta tb:TE} {pos:Pos}
theorem ZAb {r:R2} (B:IxR X r) (ha:PE X a ta) (J:PE X b tb) (hs:PlainIx b):PE X (.Subscript a b pos) (tOp r ta tb):=by
 intro pins s σ H Q I h
 exact Subscript_ (binT ha J I h fun v u s2 x y H2 O Z U q=>B a b pins s2 σ H2 x y v u Q O Z U q (hs _ _))
noncomputable def rIxL (K:W.Frag):R2:=fun x y H Q=>∃ p xs i v,x=.ref p /\ y=.int i /\ SqL K H p xs /\ atI xs i=some v /\ Q v H
noncomputable def rIxT (K:W.Frag):R2:=fun x y H Q=>∃ p xs i v,x=.ref p /\ y=.int i /\ SqT K H p xs /\ atI xs i=some v /\ Q v H
theorem ZAi:IxR X (rIxL X.K):=by
 intro value J pins s σ H x y v u Q I rx ry h hs
 obtain ⟨p,xs,i,z,rfl,rfl,hq,he,q⟩:=h
 cases rx
 obtain ⟨t,rfl⟩:=ry
 obtain ⟨its,r,pl,hz⟩:=I.list hq
 obtain ⟨j,h1,h2,h3,h4,Z⟩:=atI_get he
 obtain ⟨w,U,B⟩:=r.get h2
 have hl:=r.length
 have hn:=ZEM
 have fin:EP X pins σ Q w s:=⟨z,H,I,B,q⟩
 by_cases h0:0 <= i
 .have O:i.toNat=j:=by
   rw [seqIndex_of h0 Z] at h1
   exact Option.some.inj h1
  exact item_listR pl.isList h0 (by omega) (by rw [O];simpa using U) fin hs
 .have O:(i+(its.toArray.size:Int)).toNat=j:=by
   rw [seqIndex_neg (by omega) h4] at h1
   rw [yAR,<- hl]
   exact Option.some.inj h1
  exact subscriptTail_builtinR (x:=w) pl.isList.typeIs slot_list_getitem.lookup
   (wpAny_getItem_list_neg (Q:=fun r s'=>r=w /\ EP X pins σ Q r s') pl.isList (by omega) (by rw [yAR] <;> omega) (by omega) (by rw [O];simpa using U) ⟨rfl,fin⟩) hs
theorem ZAp:IxR X (rIxT X.K):=by
 intro value J pins s σ H x y v u Q I rx ry h hs
 obtain ⟨p,xs,i,z,rfl,rfl,U,O,q⟩:=h
 cases rx
 obtain ⟨t,rfl⟩:=ry
 obtain ⟨its,r,pl,hz⟩:=I.tuple U
 obtain ⟨j,h1,h2,h3,h4,h5⟩:=atI_get O
 obtain ⟨w,Z,B⟩:=r.get h2
 have hl:=r.length
 have hn:=ZEM
 have fin:EP X pins σ Q w s:=⟨z,H,I,B,q⟩
 exact subscriptTail_builtinR (x:=w) pl.typeIs slot_tuple_getitem.lookup
  (getItem_tuple (j:=j) (Q:=fun r s'=>r=w /\ EP X pins σ Q r s') pl (by omega) (by omega) (by rw [yAR,<- hl];exact h1) (by simpa using Z) ⟨rfl,fin⟩) hs
theorem mapSeq_set (its:List Value) (n j:Nat) (u:Value):Obj.mapSeq (·.setIfInBounds j u) { cls:=.type "list",data:=.seq its.toArray n }={ cls:=.type "list",data:=.seq (its.set j u).toArray n }:=by
 simp [Obj.mapSeq]
theorem Inv.lst {pins:List (Addr×Obj)} {σ:St} {H:Hp} {s:Shared} {p:Addr} {xs:List V} (I:Inv X pins σ H s) (h:H p=some (.lst xs)) :
  ∃ (its:List Value) (n:Nat),Vals xs its /\ s.heap.get? p=some { cls:=.type "list",data:=.seq its.toArray n } /\ xs.length <= sizeLine:=by
 obtain ⟨z,its,n,r,e⟩:=I.hok p _ h
 exact ⟨its,n,r,e,z⟩
theorem Inv.lstUpd {pins:List (Addr×Obj)} {σ:St} {H:Hp} {s:Shared} {p:Addr} {xs ys:List V} {its its':List Value} {n n':Nat} {f:Obj->Obj} (I:Inv X pins σ H s) (h:H p=some (.lst xs))
  (O:s.heap.get? p=some { cls:=.type "list",data:=.seq its.toArray n }) (B:f { cls:=.type "list",data:=.seq its.toArray n }={ cls:=.type "list",data:=.seq its'.toArray n' }) (r:Vals ys its') (U:ys.length <= sizeLine) (t:Nat) :
  Inv X pins σ (upd H p (.lst ys)) { s with heap:=s.heap.update p f,toks:=t }:=by
 have e:(s.heap.update p f).get? p=some { cls:=.type "list",data:=.seq its'.toArray n' }:=by
  rw [Heap.get?_update_self f O (by rw [B] <;> rfl),B]
 refine I.write (x:=p) (e:=p) (by rw [h];trivial) (.inl rfl) (fun b u J q=>(Heap.get?_update_other _ _ (Ne.symm J)).trans q) ⟨_,e⟩ ?_
 exact ⟨U,its',n',r,e⟩
noncomputable def rSetL:V->V->V->Hp->(Hp->Prop)->Prop:=fun o i v H Q=>∃ p xs k j,o=.ref p /\ i=.int k /\ H p=some (.lst xs) /\ ixN xs.length k=some j /\ Q (upd H p (.lst (xs.set j v)))
theorem set_list:PSet X rSetL:=by
 intro pins s σ H o i v ov iv u Q I ro ri rv h
 obtain ⟨p,xs,k,j,rfl,rfl,O,hj,q⟩:=h
 cases ro
 obtain ⟨t,rfl⟩:=ri
 obtain ⟨its,n,r,J,hz⟩:=I.lst O
 obtain ⟨h1,h2,h3,Z⟩:=ixN_seq hj
 have hl:=r.length
 have hn:=ZEM
 have U:Inv X pins σ (upd H p (.lst (xs.set j v))) { s with heap:=s.heap.update p (Obj.mapSeq (·.setIfInBounds j u)) } :=
  I.lstUpd O J (mapSeq_set its n j u) (r.set rv j) (by rw [List.length_set];exact hz) s.toks
 by_cases h0:0 <= k
 .have B:k.toNat=j:=by
   rw [seqIndex_of h0 Z] at h1
   exact Option.some.inj h1
  exact PySem.W.ki_setAt J h0 (by omega) (by rw [yAR,<- hl];exact Z) (by rw [B];exact ⟨_,U,q⟩)
 .have B:(k+(its.toArray.size:Int)).toNat=j:=by
   rw [seqIndex_neg (by omega) h3] at h1
   rw [yAR,<- hl]
   exact Option.some.inj h1
  exact PySem.W.ki_setBack J (by omega) (by rw [yAR,<- hl];exact h3) (by omega) (by rw [B];exact ⟨_,U,q⟩)
theorem slice_bounds (lo hi:Option Int) (n:Nat):(sliceBounds lo hi none n).1=((HT.sIx n 0 lo:Nat):Int) /\ (sliceBounds lo hi none n).2.1=((HT.sIx n n hi:Nat):Int) /\ (sliceBounds lo hi none n).2.2=1:=by
 refine ⟨?_,?_,rfl⟩
 .cases lo with
  | none=>simp [sliceBounds,HT.sIx]
  | some i=>
   simp only [sliceBounds,HT.sIx,Option.getD_none,show (1:Int) > 0 by decide,if_true]
   by_cases h:i < 0
   .simp only [h,if_true] <;> omega
   .simp only [h,if_false] <;> omega
 .cases hi with
  | none=>simp [sliceBounds,HT.sIx]
  | some i=>
   simp only [sliceBounds,HT.sIx,Option.getD_none,show (1:Int) > 0 by decide,if_true]
   by_cases h:i < 0
   .simp only [h,if_true] <;> omega
   .simp only [h,if_false] <;> omega
theorem slicePick_cut (its:List Value) (lo hi:Option Int):slicePick its.toArray lo hi none=((its.drop (HT.sIx its.length 0 lo)).take (HT.sIx its.length its.length hi-HT.sIx its.length 0 lo)).toArray:=by
 obtain ⟨h1,h2,h3⟩:=slice_bounds lo hi its.toArray.size
 unfold slicePick
 rw [h1,h2,h3]
 simp only [sliceRange_one,pick_run,yAR] <;> rfl
noncomputable def rSlL (K:W.Frag):V->Option Int->Option Int->Hp->VK->Prop:=fun x lo hi H Q=>∃ a xs,x=.ref a /\ SqL K H a xs /\ ∀ p,H p=none->Q (.ref p) (upd H p (.lst (cutV xs lo hi)))
theorem ZC3:SlR X (rSlL X.K):=by
 intro pins s σ H x v vl vu lo hi sl Q I Z hs pl pu h
 obtain ⟨a,xs,rfl,O,q⟩:=h
 cases Z
 obtain ⟨its,r,J,U⟩:=I.list O
 have B:=r.length
 refine ⟨"list",_,slot_list_getitem.lookup,J.isList.typeIs,?_⟩
 refine wpAny_getItem_list_slice J.isList hs pl pu .none (by simp) ?_ (by rw [yAR] <;> omega)
 rw [slicePick_cut,<- B]
 refine ⟨.ref s.heap.objs.size,_,I.laid (t':=s.toks) (o:=.lst (cutV xs lo hi)) (fun b ob q=>Heap.get?_push_of_some _ q) (yAA _) ?_,rfl,q _ (I.hok.fresh (yAA _))⟩
 exact ⟨yAL (cutV_length xs lo hi) U,_,0,(r.drop (HT.sIx xs.length 0 lo)).take (HT.sIx xs.length xs.length hi-HT.sIx xs.length 0 lo),Heap.get?_push_size _ rfl⟩
theorem ZAJ:ZCt X (.builtin "len") (fun xs H Q=>∃ p ys,xs=[.ref p] /\ (SqL X.K H p ys∨SqT X.K H p ys) /\ Q (.int ys.length) H):=by
 intro pins s σ H xs us Q I r h
 obtain ⟨p,ys,rfl,J,q⟩:=h
 obtain ⟨u,rfl,U⟩:=ZDE r
 cases U
 have hn:=ZEM
 rcases J with J | J
 .obtain ⟨its,r',pl,O⟩:=I.list J
  have B:=r'.length
  exact Calls.call_len_list pl.isList (by simp only [yAR] <;> omega) ⟨.int ys.length,H,I.tok _,⟨s.toks+1,by rw [yAR,B]⟩,q⟩
 .obtain ⟨its,r',pl,O⟩:=I.tuple J
  have B:=r'.length
  exact len_tuple pl (by simp only [yAR] <;> omega) ⟨.int ys.length,H,I.tok _,⟨s.toks+1,by rw [yAR,B]⟩,q⟩
theorem ZBg:ZCt X (.type "list") (fun xs H Q=>∃ p ys,xs=[.ref p] /\ (SqL X.K H p ys∨SqT X.K H p ys) /\ ∀ l,H l=none->Q (.ref l) (upd H l (.lst ys))):=by
 intro pins s σ H xs us Q I r h
 obtain ⟨p,ys,rfl,J,q⟩:=h
 obtain ⟨u,rfl,rx⟩:=ZDE r
 cases rx
 have fin:∀ (its:List Value),Vals ys its->ys.length <= sizeLine->∀ (h':Heap) (c':Nat),(∀ b o',s.heap.get? b=some o'->h'.get? b=some o') ->
   h'.get? s.heap.objs.size=some { cls:=.type "list",dict:=none,data:=.seq its.toArray c',slots:=#[] }->EP X pins σ Q (.ref s.heap.objs.size) { s with heap:=h' }:=fun its r' O h' c' B e=>
  ⟨.ref s.heap.objs.size,_,I.laid (t':=s.toks) B (yAA _) (show ObjOk X.prog X.w _ h' _ (.lst ys) from ⟨O,its,c',r',e⟩),rfl,q _ (I.hok.fresh (yAA _))⟩
 rcases J with J | J
 .obtain ⟨its,r',pl,O⟩:=I.list J
  have U:=r'.length
  obtain ⟨o,Z,hc,n,hd⟩:=pl.isList
  exact call_list_seq p (.inl rfl) Z hc hd (fun h' c' B e=>fin its r' O h' c' B e) (by simp only [yAR] <;> omega)
 .obtain ⟨its,r',pl,O⟩:=I.tuple J
  have U:=r'.length
  obtain ⟨o,Z,hc,n,hd⟩:=pl
  exact call_list_seq p (.inr rfl) Z hc hd (fun h' c' B e=>fin its r' O h' c' B e) (by simp only [yAR] <;> omega)
noncomputable def tyV (K:W.Frag) (T:String) (x:V) (H:Hp):Prop:=match x with
 | .str _=>T="str"
 | .int _=>T="int"
 | .ref p=>(T="list" /\ ∃ xs,SqL K H p xs)∨(T="tuple" /\ ∃ o,K.lookup p=some o /\ o.cls=.type "tuple" /\ o.dict=none) ∨
   (T="dict" /\ ((∃ kvs,H p=some (.dK kvs))∨∃ kvs,H p=some (.dT kvs)))∨(T="set" /\ ∃ S n,H p=some (.set S n))
 | _=>False
theorem tyV_is {pins:List (Addr×Obj)} {σ:St} {H:Hp} {s:Shared} {T:String} {x:V} {v:Value} (I:Inv X pins σ H s) (r:RelV x v) (ty:tyV X.K T x H) :
  s.TypeIs v T /\ ∀ a,v=.ref a->∃ U,s.heap.get? a=some U /\ U.dict=none:=by
 cases x with
 | str z=>
  obtain ⟨t,rfl⟩:=r
  cases (show T="str" from ty)
  exact ⟨typeIs_str s z t,fun _ e=>nomatch e⟩
 | int i=>
  obtain ⟨t,rfl⟩:=r
  cases (show T="int" from ty)
  exact ⟨typeIs_int s i t,fun _ e=>nomatch e⟩
 | ref p=>
  cases r
  rcases ty with ⟨rfl,xs,Z⟩ | ⟨rfl,o,B,hc,O⟩ | ⟨rfl,B⟩ | ⟨rfl,S,n,B⟩
  .obtain ⟨its,_,pl,_⟩:=I.list Z
   refine ⟨pl.isList.typeIs,fun a e=>?_⟩
   cases e
   obtain ⟨o,n,e,c,O,_⟩:=pl
   exact ⟨o,e,O⟩
  .refine ⟨⟨o,I.kIn p o B,hc⟩,fun a e=>?_⟩
   cases e
   exact ⟨o,I.kIn _ o B,O⟩
  .have z:∃ o,s.heap.get? p=some o /\ o.ExactDict:=by
    rcases B with ⟨kvs,B⟩ | ⟨kvs,B⟩
    .obtain ⟨_,_,_,_,o,_,_,e,ex,_⟩:=I.hok p _ B
     exact ⟨o,e,ex⟩
    .obtain ⟨_,_,_,_,o,_,_,e,ex,_⟩:=I.hok p _ B
     exact ⟨o,e,ex⟩
   obtain ⟨o,e,ex⟩:=z
   refine ⟨⟨o,e,ex.1⟩,fun a J=>?_⟩
   cases J
   exact ⟨o,e,ex.2.1⟩
  .obtain ⟨o,_,_,_,e,ex,_⟩:=I.hok p _ B
   refine ⟨⟨o,e,ex.1⟩,fun a J=>?_⟩
   cases J
   exact ⟨o,e,ex.2.1⟩
 | _=>exact False.elim ty
noncomputable def tBM0 (K:W.Frag) (T:String) (r:V->List V->Hp->VK->Prop) (to:TE):TE:=fun σ H Q=>to σ H fun x H1=>tyV K T x H1 /\ r x [] H1 Q
noncomputable def tBM (K:W.Frag) (T:String) (r:V->List V->Hp->VK->Prop) (to:TE) (t:TA):TE:=fun σ H Q=>to σ H fun x H1=>tyV K T x H1 /\ t σ H1 fun xs H2=>r x xs H2 Q
variable {o e:Expr} {es:List Expr} {to:TE} {t:TA} {name:Str} {apos cpos:Pos} {T id:String} {r:V->List V->Hp->VK->Prop}
theorem ZEe (pa:PlainAttrs T) (slot:Slot T name id) (O:typeOf (.builtin id)=pure (.type "method_descriptor")) (hm:MtR X id r) (Z:PE X o to)
  (B:attributeBase o name X.env (eval o X.env)=eval o X.env:=by rfl) (J:(apos.endLine == cpos.line)=true:=by rfl):PE X (.Call (.Attribute o name apos) [] [] cpos) (tBM0 X.K T r to):=by
 intro pins s σ H Q I h
 refine wpAny_Call_method0_late B J (thn (Z pins s σ H _ I h) fun v s1 zz=>?_)
 obtain ⟨x,H1,U,r1,ty,q1⟩:=zz
 obtain ⟨h1,h2⟩:=tyV_is U r1 ty
 exact ⟨T,id,pa,slot,O,h1,h2,Calls.callWith_builtin rfl (PySem.evalArgs_none (hm pins s1 σ H1 x [] v [] Q U r1 .nil q1))⟩
theorem ZCQ (pa:PlainAttrs T) (slot:Slot T name id) (Z:typeOf (.builtin id)=pure (.type "method_descriptor")) (hm:MtR X id r) (ho:PE X o to) (ha:PA X (e::es) t)
  (J:attributeBase o name X.env (eval o X.env)=eval o X.env:=by rfl)
  (U:((backTo cpos (starEach (e::es) X.env)).all (fun x=>!x.1) && (backToKw cpos (keywordEach [] X.env)).all (fun x=>x.1.isSome)
   && decide ((e::es).length+([]:List Keyword).length+(if ([]:List Keyword).isEmpty then 0 else 1) < 30))=true:=by rfl)
  (O:(apos.endLine == cpos.line)=true:=by rfl) (hs:starEach (e::es) X.env=(false,eval e X.env)::starEach es X.env:=by rfl) (B:(backTo cpos (starEach es X.env)).any (·.1)=false:=by rfl) :
  PE X (.Call (.Attribute o name apos) (e::es) [] cpos) (tBM X.K T r to t):=by
 intro pins s σ H Q I h
 refine wpAny_Call_method_late J U O rfl (thn (ho pins s σ H _ I h) fun v s1 zz=>?_)
 obtain ⟨x,H1,I1,r1,ty,q1⟩:=zz
 obtain ⟨h1,h2⟩:=tyV_is I1 r1 ty
 refine ⟨T,id,pa,slot,Z,h1,h2,?_⟩
 have hA:=ha cpos pins s1 σ H1 _ I1 q1
 rw [hs] at hA ⊢
 refine Calls.callWith_builtin (by show (false || (backTo cpos (starEach es X.env)).any (·.1))=false;rw [B] <;> rfl) (Calls.evalArgs_plain ?_)
 exact thn hA fun us s2 ⟨vs,H2,I2,r2,q2⟩=>hm pins s2 σ H2 x vs v us Q I2 r1 r2 q2
end
noncomputable def MtM (X:Cx) (id:String) (r:V->List V->Hp->VK->Prop):Prop :=
 ∀ (pins:List (Addr×Obj)) (s:Shared) (σ:St) (H:Hp) (x:V) (xs:List V) (v:Value) (us:List Value) (Q:VK),Inv X pins σ H s->RelV x v->Vals xs us->r x xs H Q ->
  wpAny (model X.prog X.w) X.A (call (.builtin id) (v::us)) (EP X pins σ Q) X.xe s
theorem Vals.one {x:V} {us:List Value} (r:Vals [x] us):∃ u,us=[u] /\ RelV x u:=ZDE r
theorem Vals.two {x y:V} {us:List Value} (r:Vals [x,y] us):∃ u v,us=[u,v] /\ RelV x u /\ RelV y v:=ZEo r
theorem Vals.zero:∀ {us:List Value},Vals [] us->us=[]
 | _,.nil=>rfl
theorem Vals.eraseIdx:∀ {xs:List V} {us:List Value} (i:Nat),Vals xs us->Vals (xs.eraseIdx i) (us.eraseIdx i)
 | _,_,_,.nil=>.nil
 | _,_,0,.cons _ t=>t
 | _,_,i+1,.cons r t=>.cons r (Vals.eraseIdx i t)
theorem Vals.reverse {xs:List V} {us:List Value} (h:Vals xs us):Vals xs.reverse us.reverse:=by
 induction h with
 | nil=>exact .nil
 | cons r t ih=>rw [List.reverse_cons,List.reverse_cons];exact Vals.append ih (.cons r .nil)
theorem len_erase {α:Type}:∀ (l:List α) (i:Nat),(l.eraseIdx i).length <= l.length
 | [],_=>yAA _
 | _::_,0=>yBB _
 | _::r,i+1=>Nat.succ_le_succ (len_erase r i)
section
variable {X:Cx} {pins:List (Addr×Obj)} {σ:St} {H:Hp} {s:Shared} {l b:Addr} {xs ys zs:List V}
theorem Inv.lset {its its':List Value} {n:Nat} {f:Array Value->Array Value} {t':Nat} (I:Inv X pins σ H s) (O:H l=some (.lst xs))
  (e:s.heap.get? l=some { cls:=.type "list",data:=.seq its.toArray n }) (hf:f its.toArray=its'.toArray) (J:Vals ys its') (U:ys.length <= sizeLine) :
  Inv X pins σ (upd H l (.lst ys)) { s with heap:=s.heap.update l (Obj.mapSeq f),toks:=t' }:=by
 have q:=PySem.IsL.update e f
 rw [hf] at q
 refine I.write (x:=l) (e:=l) (by rw [O];exact trivial) (.inl rfl) (fun b' u Z B=>(Heap.get?_update_other s.heap (Obj.mapSeq f) (Ne.symm Z)).trans B) ⟨_,q⟩ ?_
 exact ⟨U,its',_,J,q⟩
theorem Inv.lnew {its:List Value} {t':Nat} (I:Inv X pins σ H s) (B:Vals ys its) (J:ys.length <= sizeLine) :
  Inv X pins σ (upd H s.heap.objs.size (.lst ys)) { s with heap:=s.heap.push { cls:=.type "list",data:=.seq its.toArray },toks:=t' } :=
 I.laid (fun _ _ q=>Heap.get?_push_of_some _ q) (yAA _) ⟨J,its,0,B,Heap.get?_push_size _ rfl⟩
theorem Inv.fresh (I:Inv X pins σ H s):H s.heap.objs.size=none:=I.hok.fresh (yAA _)
theorem Inv.lstM (I:Inv X pins σ H s) (B:H l=some (.lst xs)):xs.length <= sizeLine /\ ∃ (its:List Value) (n:Nat),Vals xs its /\ xs.length=its.length /\ s.heap.get? l=some { cls:=.type "list",data:=.seq its.toArray n }:=by
 obtain ⟨z,its,n,r,e⟩:=I.hok l _ B
 exact ⟨z,its,n,r,r.length,e⟩
theorem notLongL {n:Nat} (h:n <= sizeLine):Builtin.List.listTooLong n=false:=by
 unfold Builtin.List.listTooLong
 exact decide_eq_false (by omega)
end
section
variable {X:Cx}
noncomputable def rAppend:V->List V->Hp->VK->Prop:=fun x vs H Q=>∃ l xs y,x=.ref l /\ vs=[y] /\ H l=some (.lst xs) /\ xs.length < sizeLine /\ Q .non (upd H l (.lst (xs++[y])))
theorem ZBb:MtM X "list.append" rAppend:=by
 intro pins s σ H x vs v us Q I J O h
 obtain ⟨l,xs,y,rfl,rfl,B,U,q⟩:=h
 cases J
 obtain ⟨u,rfl,ru⟩:=O.one
 obtain ⟨z,its,n,r,hl,e⟩:=I.lstM B
 refine call_meets F.slot_list_append ⟨_,e,rfl⟩ F.entry_list_append (F.args_list_append_2 _ _) (PySem.list_append l its.toArray n u (by rw [yAR];omega)) ⟨e,?_⟩
 refine ⟨.non,_,I.lset (its':=its++[u]) B e (by simp) (r.append (.cons ru .nil)) ?_,rfl,q⟩
 rw [yAB,yAS]
 omega
noncomputable def rExtend:V->List V->Hp->VK->Prop:=fun x vs H Q=>∃ l b xs zs,x=.ref l /\ vs=[.ref b] /\ H l=some (.lst xs) /\ H b=some (.lst zs) /\ xs.length+zs.length <= sizeLine /\ Q .non (upd H l (.lst (xs++zs)))
theorem mt_extend:MtM X "list.extend" rExtend:=by
 intro pins s σ H x vs v us Q I rx rv h
 obtain ⟨l,b,xs,zs,rfl,rfl,U,Z,hz,q⟩:=h
 cases rx
 obtain ⟨u,rfl,ru⟩:=rv.one
 cases ru
 obtain ⟨z,its,n,r,hl,e⟩:=I.lstM U
 obtain ⟨z2,B,n2,r2,a0,e2⟩:=I.lstM Z
 have O:its.toArray.size+B.toArray.size <= sizeLine:=by rw [yAR,yAR];omega
 have J:¬ (!its.toArray.isEmpty && Builtin.List.listTooLong (its.toArray.size+B.toArray.size))=true:=by
  rw [notLongL O,Bool.and_false]
  exact yBG
 refine call_meets F.slot_list_extend ⟨_,e,rfl⟩ F.entry_list_extend (F.args_list_extend_2 _ _)
  (AutoSeq1.list_extend_list_list_0 l its.toArray n b B.toArray n2 J (by rw [yAR];omega) (by omega)) ⟨e,e2,?_⟩
 refine ⟨.non,_,I.lset (its':=its++B) U e (by simp) (r.append r2) ?_,rfl,q⟩
 rw [yAB]
 omega
noncomputable def rPopAt:V->List V->Hp->VK->Prop:=fun x vs H Q=>∃ l xs i k y,x=.ref l /\ vs=[.int i] /\ H l=some (.lst xs) /\ -(2 ^ 63) <= i /\ i < 2 ^ 63 /\ seqIndex? i xs.length=some k /\ xs[k]?=some y /\ Q y (upd H l (.lst (xs.eraseIdx k)))
theorem ZCy:MtM X "list.pop" rPopAt:=by
 intro pins s σ H x vs v us Q I U Z h
 obtain ⟨l,xs,i,k,y,rfl,rfl,J,h1,h2,O,hy,q⟩:=h
 cases U
 obtain ⟨u,rfl,ru⟩:=Z.one
 obtain ⟨t,rfl⟩:=ru
 obtain ⟨z,its,n,r,hl,e⟩:=I.lstM J
 obtain ⟨w,hw,B⟩:=r.get hy
 refine call_meets F.slot_list_pop ⟨_,e,rfl⟩ F.entry_list_pop (F.args_list_pop_2 _ _)
  (MeetsSeq.list_pop_at l its.toArray n i t k w (fitsIndex_both h1 h2) (by rw [yAR,<- hl];exact O) (by rw [<- yAV];exact hw) (by rw [yAR];omega)) ⟨e,?_⟩
 refine ⟨y,_,I.lset (its':=its.eraseIdx k) J e ?_ (r.eraseIdx k) ?_,B,q⟩
 .show its.toArray.eraseIdxIfInBounds k=(its.eraseIdx k).toArray
  rw [List.eraseIdxIfInBounds_toArray]
 .have:=len_erase xs k
  omega
noncomputable def rReverse:V->List V->Hp->VK->Prop:=fun x vs H Q=>∃ l xs,x=.ref l /\ vs=[] /\ H l=some (.lst xs) /\ Q .non (upd H l (.lst xs.reverse))
theorem mt_reverse:MtM X "list.reverse" rReverse:=by
 intro pins s σ H x vs v us Q I O U h
 obtain ⟨l,xs,rfl,rfl,J,q⟩:=h
 cases O
 have B:=U.zero
 subst B
 obtain ⟨z,its,n,r,hl,e⟩:=I.lstM J
 refine call_meets F.slot_list_reverse ⟨_,e,rfl⟩ F.entry_list_reverse (F.args_list_reverse_1 _) (AutoSeq1.list_reverse_list_0 l its.toArray n (by rw [yAR];omega)) ⟨e,?_⟩
 refine ⟨.non,_,I.lset (its':=its.reverse) J e (by simp) r.reverse ?_,rfl,q⟩
 rw [List.length_reverse]
 omega
noncomputable def rCat:R2:=fun x y H Q=>∃ l b xs zs,x=.ref l /\ y=.ref b /\ H l=some (.lst xs) /\ H b=some (.lst zs) /\ xs.length+zs.length <= sizeLine /\ ∀ p,H p=none->Q (.ref p) (upd H p (.lst (xs++zs)))
theorem ZEg:OpR X (binaryOp .Add) rCat:=by
 intro pins s σ H x y v u Q I rx ry h
 obtain ⟨l,b,xs,zs,rfl,rfl,Z,J,hz,q⟩:=h
 cases rx
 cases ry
 obtain ⟨z,its,n,r,hl,e⟩:=I.lstM Z
 obtain ⟨z2,B,n2,r2,U,O⟩:=I.lstM J
 refine PySem.P.add_list e O ?_ (by rw [yAR,yAR];omega)
 have ea:its.toArray++B.toArray=(its++B).toArray:=by simp
 rw [ea]
 exact ⟨.ref _,_,I.lnew (t':=s.toks) (r.append r2) (by rw [yAB];omega),rfl,q _ I.fresh⟩
end
section
variable {prog:Program} {w:World} {A:Around} {E:Value->Shared->Prop} {s:Shared}
set_option maxRecDepth 100000 in
end
section
variable {X:Cx}
end
end L2
namespace Att
open PySem PySem.W PySem.Calls PyProof.Rows
theorem ints_of_wellAll {P:Params} {h:Heap}:∀ (ns:List Int) (vs:List Value),WellAll P h vs (ns.map WData.int)->IntsAre vs ns:=by
 intro ns
 induction ns with
 | nil=>
  intro vs w
  rw [List.map_nil] at w
  cases w
  exact .nil
 | cons n ns ih=>
  intro vs w
  rw [yBD] at w
  cases w with
  | cons a b=>
   cases a
   exact .cons _ _ (ih _ b)
theorem script_of {l:OpenLaw} {n:Nat} (hn:l.most=some n) {P:Params} {h:Heap} {args:List WData} {B:List Value}
  (J:l.row.toRowW.claim.pre args=true) (a1:WellAll P h B args) :
  ∃ a vs ns,B=[Value.ref a] /\ args=[WData.list (ns.map WData.int)] /\ h.get? a=some { cls:=.type "list",data:=.seq vs.toArray } /\ IntsAre vs ns /\ ns.length <= n:=by
 have a0:WShape.hasAll [] args [.list .int]=true:=(pre_splitW J).1
 have hc:l.pre.holds [] { args:=args }=true:=(pre_splitW J).2
 obtain ⟨d,r,rfl,h1,h2⟩:=hasAllW_cons a0
 obtain rfl:=hasAllW_nil h2
 obtain ⟨xs,rfl,h3⟩:=hasW_list h1
 obtain ⟨ns,rfl⟩:=items_int h3
 have O:ns.length <= n:=by
  unfold OpenLaw.pre at hc
  have Z:(WTm.not (.lt (.lit (.int (n:Int))) (.len (.arg 0)))).holds [] { args:=[.list (ns.map .int)] }=true:=by
   have Z:=(holds_andW hc).1
   rw [hn] at Z
   exact Z
  have U:=condW_of Z (w_not (w_lt w_lit (w_len_list (w_arg rfl))))
  rw [yAD] at U
  refine Nat.le_of_not_lt fun q=>?_
  have q':(n:Int) < ((ns.length:Nat):Int):=by omega
  first
   | (rw [decide_eq_true q'] at U;exact absurd U (by decide))
   | (simp at U;omega)
 cases a1 with
 | cons w1 w2=>
  cases w2
  cases w1 with
  | list ho hall=>exact ⟨_,_,ns,rfl,rfl,ho,ints_of_wellAll ns _ hall,O⟩
theorem post_true (l:OpenLaw) (args:List WData):l.row.toRowW.claim.post args (.bool true) args=true :=
 postW_of (r:=l.row.toRowW) (X:=(true == true))
  (show WShape.has [] (.bool true) .bool=true by first | rfl | decide | simp [WShape.has,WShape.arms,WShape.armsAll])
  (show (WTm.eq .res (.lit (.bool true))).value [] { args:=args,res:=some (.bool true),after:=args }=some (.bool (true == true)) from w_eq_bool (w_res rfl) w_lit) rfl
theorem attach_call {l:OpenLaw} {n:Nat} {q:Program} {loose:List Str} {XP:(Str->Option Value)->Heap->Prop} {YP:World->Heap->Prop} {d:DefRec}
  (hn:l.most=some n) (a3:d.params.defaults=[])
  (call:∀ (w:World) (s₀ s₁:Shared) (mg mb:Str->Option Value) (O:Addr) (o:Obj) (pm cd J:Value) (a:Addr) (vs:List Value) (ns:List Int),
   Ground q loose [] XP w s₀ mg mb s₁.heap->YP w s₁.heap ->
   s₁.heap.get? O=some o->o.data=.func (docDef d.name d.params d.body d.scope pm cd J)->s₁.heap.CodeRec cd d.name->mg d.name=some (.ref O) ->
   s₁.heap.get? a=some { cls:=.type "list",data:=.seq vs.toArray }->IntsAre vs ns->ns.length <= n->s₁.gens=#[] ->
   codeAny (model l.prog w) callerA (.call (.ref O) ⟨[.ref a],[]⟩) (fun r s'=>r=.ok (.ret (.bool true)) /\ OldK s₁.heap s'.heap /\ s'.os=s₁.os /\ AllBare s'.gens) s₁) :
  WalkO q loose XP YP l.row.toRowW d [] (fun f vs=>PySem.call f vs):=by
 intro w s₀ s₁ mg mb G Y O o pm cd J dV kV ho hd a1 hD a2 hg args a5 as U a6 a8 a4 a7
 obtain rfl:dV=.none:=Dflts.none hD a3
 obtain rfl:kV=.none:=Dflts.noKw hD
 obtain ⟨a,vs,ns,rfl,rfl,a0,B,Z⟩:=script_of hn U a4
 refine enter_call (codeAny_mono (call w s₀ s₁ mg mb O o pm cd J a vs ns G Y ho (fd_plain hd) a1 a2 a0 B Z hg) fun r s' hq=>?_)
 obtain ⟨rfl,h2,h3,h4⟩:=hq
 exact ⟨.inl ⟨.bool true,.bool true,[],rfl,fun _=>rfl,.bool true,post_true l _,fun _=>⟨List.Pairwise.nil,fun _ hm=>(nomatch hm)⟩⟩,h2,h3,h4⟩
section
variable {prog:Program} {w:World} {A:Around} {E:Value->Shared->Prop} {s:Shared} {K:Frag}
end
end Att
namespace L2
open PySem PySem.Spec PyProof.Rows
theorem ZBy:∀ {vs:List Value} {ns:List Int},IntsAre vs ns->Vals (ns.map V.int) vs
 | _,_,.nil=>.nil
 | _,_,.cons n t h=>.cons ⟨t,rfl⟩ (ZBy h)
end L2
namespace L2
open PySem PySem.Spec PyProof.Rows
noncomputable def ZAw (s:Stmt) (j:Nat):Stmt:=match s with
 | .ClassDef _ _ _ body _ _ _ _ _ _ _=>body.getD j (.Pass ⟨0,0,0,0⟩)
 | _=>.Pass ⟨0,0,0,0⟩
noncomputable def ZAO (s:Stmt):Arguments:=match s with
 | .FunctionDef _ a _ _ _ _ _ _ _ _=>a
 | _=>{ posonlyargs:=[],args:=[],vararg:=none,kwonlyargs:=[],kw_defaults:=[],kwarg:=none,defaults:=[] }
noncomputable def ZAN (s:Stmt):List Stmt:=match s with
 | .FunctionDef _ _ b _ _ _ _ _ _ _=>b
 | _=>[]
noncomputable def ZAC (s:Stmt):Scope:=match s with
 | .FunctionDef _ _ _ _ _ _ sc _ _ _=>sc
 | _=>{ kind:=.function,names:=[],isGenerator:=false,isCoroutine:=false }
noncomputable abbrev CX0:CXT:=fun _ _ _ _ _ _=>False
noncomputable abbrev E0:XK:=fun _ _ _=>False
theorem ZAW {X:Cx}:ZBp CX0 X E0:=fun _ _ _ _ _ _ _ h=>h.elim
structure Fun (K:W.Frag) (x qual:Str) (st:Stmt) (f:Addr) (fd:FuncData):Prop where
 ex:∃ (oc:Value) (od:Option Addr) (kV doc pm:Value) (an:Option Addr) (cdv ct:Value) (osl:Array (Option Value)),
  fd=W.fnOf x qual (ZAO st) (ZAN st) (ZAC st) .none kV doc pm an cdv ct /\ K.lookup f=some ⟨oc,od,.func fd,osl⟩ /\ W.codeIn K cdv qual=true
 kp:W.keepIn K (.ref f)=true
section
variable {P:Program} {w:World} {K:W.Frag} {mg:Str->Option Value} {base:Heap}
theorem Fun.ok {x qual:Str} {st:Stmt} {f:Addr} {fd:FuncData} {N ps:List Str} {k:Nat} {sp:Sp} (F:Fun K x qual st f fd) (S:FnScope N ps (ZAC st)) (len:∀ vs H Q E,sp vs H Q E->vs.length=ps.length)
  (J:∀ (B:Value) (A:Around) (outer:List Env) (s:Shared) (H:Hp) (vs:List V) (Q:VK) (E:XK),Room k (A.deeper (envOfC qual (ZAC st) s.heap.objs.size f B))->sp vs H Q E ->
   ∃ t,PSs (cxOf CX0 P w K mg base N qual (ZAC st) f B A outer s H E).nox (ZAN st) t /\ t { nx:=fun _ H'=>Q .non H',rt:=Q } (start N vs) H):FnOk P w K mg base CX0 (k+1) f fd ps sp:=by
 obtain ⟨oc,od,kV,a1,pm,an,B,ct,a0,rfl,lk,U⟩:=F.ex
 refine fn_of lk U S len fun A outer s H vs Q E Z O=>?_
 obtain ⟨t,h,q⟩:=J B A outer s H vs Q E Z O
 exact ⟨t,h.nox,q⟩
theorem Fun.binds {x qual:Str} {st:Stmt} {f:Addr} {fd:FuncData} {ps:List Str} (F:Fun K x qual st f fd)
  (h:∀ (kV J O:Value) (U:Option Addr) (B ct:Value) (us:List Value),us.length=ps.length->bindArgs (W.fnOf x qual (ZAO st) (ZAN st) (ZAC st) .none kV J O U B ct) ⟨us,[]⟩=pure (ps.zip us)):Binds K fd ps []:=by
 obtain ⟨oc,od,kV,J,O,U,B,ct,Z,rfl,lk,a0⟩:=F.ex
 exact .all (h kV J O U B ct)
theorem ZAl {x qual:Str} {st:Stmt} {f:Addr} {oc:Value} {od U:Option Addr} {O:Array (Option Value)} {kV J Z B ct:Value} (l:K.lookup f=some ⟨oc,od,.func (W.fnOf x qual (ZAO st) (ZAN st) (ZAC st) .none kV J Z U B ct),O⟩)
  (c:W.codeIn K B qual=true) (k:W.keepIn K (.ref f)=true):Fun K x qual st f (W.fnOf x qual (ZAO st) (ZAN st) (ZAC st) .none kV J Z U B ct):=⟨⟨oc,od,kV,J,Z,U,B,ct,O,rfl,l,c⟩,k⟩
end
theorem ZBP {n:Nat} (h:n <= 1000):n < sizeLine:=Nat.lt_of_le_of_lt h (by decide)
section
variable {X:Cx}
theorem pv (i:Nat) {x:Str} {pos:Pos} (J:X.N[i]?=some x:=by rfl) (O:Vis X.env.scope x:=by first | exact Or.inl rfl | exact Or.inr (Or.inl rfl) | exact Or.inr (Or.inr rfl)) (U:(x == ("__debug__":Str))=false:=by decide)
  (B:(x == ("__classdict__":Str))=false:=by decide):PE X (.Name x pos) (tVar i):=pe_var J O U B
end
noncomputable def Same (H H':Hp):Prop:=∀ b o,H b=some o->H' b=some o
theorem Same.refl (H:Hp):Same H H:=fun _ _ h=>h
theorem Same.trans {H H1 H2:Hp} (a:Same H H1) (b:Same H1 H2):Same H H2:=fun c o h=>b c o (a c o h)
theorem Same.free {H H':Hp} (e:Same H H') {l:Addr} (h:H' l=Option.none):H l=Option.none:=by
 cases q:H l with
 | none=>rfl
 | some o=>
  rw [e l o q] at h
  cases h
theorem Same.seq {K:W.Frag} {H H':Hp} {a:Addr} {xs:List V} (e:Same H H') (h:SqL K H a xs):SqL K H' a xs:=by
 rcases h with (h | ⟨o,h⟩) | h
 .exact .inl (.inl (e _ _ h))
 .exact .inl (.inr ⟨o,e _ _ h⟩)
 .exact .inr h
theorem natlt {a b:Addr} (h:a < b):@LT.lt Nat _ a b:=h
theorem ZDH {a b:Addr} {n:Nat} (h:a < n) (k:n <= b):a≠b:=yAM (yAW h k)
theorem ZA5:∀ (names:List (Str×NameKind)) (n:Nat) (acc:List (Str×Addr)),cellsFrom n names acc=cellsFrom n names []++acc
 | [],_,_=>rfl
 | (x,k)::r,n,acc=>by
  unfold cellsFrom
  split
  .rw [ZA5 r (n+1) ((x,n)::acc),ZA5 r (n+1) [(x,n)],yAK];rfl
  .exact ZA5 r n acc
theorem ZBw:∀ (names:List (Str×NameKind)) (n:Nat) (acc:List (Str×Addr)) (y:Str) (c:Addr),(y,c)∈cellsFrom n names acc->(y,c)∈acc∨((y,NameKind.cell)∈names /\ n <= c)
 | [],_,_,_,_,h=>.inl h
 | (x,k)::r,n,acc,y,c,h=>by
  unfold cellsFrom at h
  split at h
  .rename_i hk
   have B:k=.cell:=by simpa using hk
   rcases ZBw r (n+1) _ y c h with h | ⟨h,l⟩
   .rcases yAE.mp h with e | h
    .cases e;subst B;exact .inr ⟨yAF,yAA _⟩
    .exact .inl h
   .exact .inr ⟨yAC _ h,Nat.le_of_succ_le l⟩
  .rcases ZBw r n _ y c h with h | ⟨h,l⟩
   .exact .inl h
   .exact .inr ⟨yAC _ h,l⟩
noncomputable def closFrom (cells:List (Str×Addr)):List (Str×NameKind)->List (Str×Addr)->List (Str×Addr)
 | [],acc=>acc
 | (x,k)::r,acc=>if k == .free then closFrom cells r ((x,(cells.lookup x).getD 0)::acc) else closFrom cells r acc
theorem ZBe {cells:List (Str×Addr)}:∀ (names:List (Str×NameKind)) (acc:List (Str×Addr)) (y:Str) (c:Addr),(y,c)∈closFrom cells names acc->(y,c)∈acc∨((y,NameKind.free)∈names /\ c=(cells.lookup y).getD 0)
 | [],_,_,_,h=>.inl h
 | (x,k)::r,acc,y,c,h=>by
  unfold closFrom at h
  split at h
  .rename_i hk
   have B:k=.free:=by simpa using hk
   rcases ZBe r _ y c h with h | ⟨h,l⟩
   .rcases yAE.mp h with e | h
    .cases e;subst B;exact .inr ⟨yAF,rfl⟩
    .exact .inl h
   .exact .inr ⟨yAC _ h,l⟩
  .rcases ZBe r _ y c h with h | ⟨h,l⟩
   .exact .inl h
   .exact .inr ⟨yAC _ h,l⟩
theorem ZB7 {cells:List (Str×Addr)}:∀ (names:List (Str×NameKind)) (acc:List (Str×Addr)) (p:Str×Addr),p∈acc->p∈closFrom cells names acc
 | [],_,_,h=>h
 | (x,k)::r,acc,p,h=>by
  unfold closFrom
  split
  .exact ZB7 r _ p (yAC _ h)
  .exact ZB7 r _ p h
theorem ZBf {cells:List (Str×Addr)}:∀ (names:List (Str×NameKind)) (acc:List (Str×Addr)) (y:Str),(y,NameKind.free)∈names->(y,(cells.lookup y).getD 0)∈closFrom cells names acc
 | [],_,_,h=>nomatch h
 | (x,k)::r,acc,y,h=>by
  unfold closFrom
  rcases yAE.mp h with e | h
  .cases e
   rw [if_pos (by rfl)]
   exact ZB7 r _ _ yAF
  .split
   .exact ZBf r _ y h
   .exact ZBf r _ y h
theorem ZBW {α:Type}:∀ {l:List (Str×α)} {y:Str} {c:α},(y,c)∈l->∃ c',l.lookup y=some c'
 | (k,v)::r,y,c,h=>by
  rw [yCD]
  cases hb:y == k with
  | true=>exact ⟨v,rfl⟩
  | false=>
   rcases yAE.mp h with e | h
   .cases e;rw [beq_self_eq_true] at hb;cases hb
   .exact ZBW h
theorem ZBv {env:Env} (f:Str×NameKind->List (Str×Addr)->Sem (ForInStep (List (Str×Addr))))
  (J:∀ name kind cs,f (name,kind) cs=if kind == .free then (do let a <- cellOf env name;pure (.yield ((name,a)::cs))) else pure (.yield cs)) :
  ∀ (names:List (Str×NameKind)) (acc:List (Str×Addr)),(∀ x,(x,NameKind.free)∈names->∃ c,env.cells.lookup x=some c)->forIn names acc f=(pure (closFrom env.cells names acc):Sem (List (Str×Addr)))
 | [],acc,_=>by rw [List.forIn_nil];rfl
 | (x,k)::r,acc,h=>by
  have O:∀ x,(x,NameKind.free)∈r->∃ c,env.cells.lookup x=some c:=fun y U=>h y (yAC _ U)
  rw [List.forIn_cons,J]
  unfold closFrom
  split
  .rename_i hk
   have B:k=.free:=by simpa using hk
   subst B
   obtain ⟨c,hc⟩:=h x yAF
   have e:cellOf env x=(pure c:Sem Addr):=by unfold cellOf;rw [hc]
   rw [e,hc]
   exact ZBv f J r ((x,c)::acc) O
  .exact ZBv f J r acc O
theorem closureFor_eq {scope:Scope} {env:Env} (h:∀ x,(x,NameKind.free)∈scope.names->∃ c,env.cells.lookup x=some c):closureFor scope env=pure (closFrom env.cells scope.names []):=by
 simp only [closureFor]
 rw [ZBv _ (fun name kind cs=>by cases hk:kind == NameKind.free <;> simp [hk]) scope.names [] h]
 rfl
section
variable {M:Model} {A:Around} {E:Value->Shared->Prop} {s:Shared}
theorem newEnv_comp {scope:Scope} {globals:Addr} {cl:List (Str×Addr)} {qual:Str} {env:Env} {Q:Env->Shared->Prop}
  (B:Q { scope:=scope,locals:=s.heap.objs.size,globals:=globals,cells:=cellsFrom (s.heap.objs.size+1) scope.names cl,qual:=qual,func:=none,code:=env.code,frame:=env.frame,builtins:=env.builtins }
   { s with heap:=pushCells (s.heap.push { cls:=.type "dict",data:=.dict #[] }) scope.names }) :
  wpAny M A (newFunctionEnv scope globals cl [] qual none .none (some env)) Q E s:=by
 simp only [newFunctionEnv,Option.isSome_some,if_true]
 refine wpAny_bind (wpAny_alloc ?_)
 refine wpAny_bind (wpAny_layCells _ (fun name kind cells=>by cases hkc:kind == NameKind.cell <;> simp [hkc]) _ _ _ _ ?_)
 rw [show ({ s with heap:=s.heap.push { cls:=.type "dict",data:=.dict #[] } }:Shared).heap.objs.size=s.heap.objs.size+1 from Heap.size_push ..]
 rw [List.forIn_nil]
 exact wpAny_bind (wpAny_pure (wpAny_pure B))
end
theorem relabel_lookup {scope:Scope} {env:Env} (x:Str):(relabel scope env).names.lookup x=(scope.names.lookup x).map fun k=>if (k == .free && env.scope.kind == .function && env.kindOf x == some .cell)=true then NameKind.cell else k:=by
 unfold relabel
 dsimp only
 generalize scope.names=names
 induction names with
 | nil=>rfl
 | cons p r ih=>
  obtain ⟨n,k⟩:=p
  rw [yBD,yCD (as:=r)]
  cases hx:x == n with
  | true=>
   have e:x=n:=beq_iff_eq.mp hx
   subst e
   by_cases hc:(k == NameKind.free && env.scope.kind == .function && env.kindOf x == some .cell)=true
   .simp only [hc,if_true,yCD,hx,yCK]
   .simp only [hc,Bool.false_eq_true,if_false,yCD,hx,yCK]
  | false=>
   by_cases hc:(k == NameKind.free && env.scope.kind == .function && env.kindOf n == some .cell)=true
   .simp only [hc,if_true,yCD,hx];exact ih
   .simp only [hc,Bool.false_eq_true,if_false,yCD,hx];exact ih
noncomputable def ZC0 (N:List Str) (osc:Scope) (k:Nat) (js:List Nat) (N':List Str) (sc:Scope):Bool :=
 decide (sc.kind=.function) && decide (N'.length=k+js.length) && decide N'.Nodup &&
 sc.names.all (fun p=>decide (sc.names.lookup p.1=some p.2) && (decide (p.2≠.free) || decide (osc.names.lookup p.1=some .cell) || decide (osc.names.lookup p.1=some .free))) &&
 (List.range js.length).all (fun i=>decide (js[i]?.bind (fun j=>N[j]?)=N'[k+i]?) && decide ((N'[k+i]?).bind (fun y=>sc.names.lookup y)=some .free))
structure CmpOk (N:List Str) (osc:Scope) (k:Nat) (js:List Nat) (N':List Str) (sc:Scope):Prop where
 kind:sc.kind=.function
 len:N'.length=k+js.length
 nd:N'.Nodup
 look:∀ p∈sc.names,sc.names.lookup p.1=some p.2
 fr:∀ y,(y,NameKind.free)∈sc.names->osc.names.lookup y=some .cell∨osc.names.lookup y=some .free
 js:∀ i j,js[i]?=some j->∃ y,N'[k+i]?=some y /\ N[j]?=some y /\ sc.names.lookup y=some .free
theorem cmpOk {N:List Str} {B:Scope} {k:Nat} {js:List Nat} {N':List Str} {sc:Scope} (h:ZC0 N B k js N' sc=true):CmpOk N B k js N' sc:=by
 unfold ZC0 at h
 simp only [Bool.and_eq_true,decide_eq_true_eq,List.all_eq_true,Bool.or_eq_true,List.mem_range] at h
 obtain ⟨⟨⟨⟨h1,h2⟩,h3⟩,J⟩,Z⟩:=h
 refine ⟨h1,h2,h3,fun p U=>(J p U).1,fun y hy=>?_,fun i j O=>?_⟩
 .rcases (J _ hy).2 with (z | z) | z
  .exact absurd rfl z
  .exact .inl z
  .exact .inr z
 .have hi:i < js.length:=(yAI.mp O).1
  obtain ⟨a,b⟩:=Z i hi
  rw [O] at a
  cases e:N'[k+i]? with
  | none=>rw [e] at b;cases b
  | some y=>
   rw [e] at a b
   exact ⟨y,rfl,a,b⟩
noncomputable def ZDh (scope:Scope) (cl:List (Str×Addr)) (C:Addr) (env:Env):Env :=
 { scope:=relabel scope env,locals:=C,globals:=env.globals,cells:=cellsFrom (C+1) scope.names cl,qual:=env.qual,func:=none,code:=env.code,frame:=env.frame,builtins:=env.builtins }
noncomputable def ZBo (X:Cx) (N':List Str) (scope:Scope) (C:Addr) (fp:List Addr) (s2:Shared) (H2:Hp):Cx where
 prog:=X.prog
 w:=X.w
 K:=X.K
 mg:=X.mg
 base:=X.base
 A:=X.A
 N:=N'
 s₀:=s2
 H₀:=H2
 env:=ZDh scope (closFrom X.env.cells scope.names []) C X.env
 outer:=X.stack
 stack:=X.stack
 ex:=fp
 fn:=fun x=>decide (scope.names.lookup x=some .cell)
 calm:=X.calm
 pn:=[]
 xe:=fun _ _=>False
noncomputable def up (k:Nat) (js:List Nat) (σ:St):St:=List.replicate k none++js.map fun j=>(σ[j]?).getD none
section
variable {X:Cx} {pins:List (Addr×Obj)} {σ:St} {H:Hp} {s2:Shared} {k:Nat} {js:List Nat} {N':List Str} {scope:Scope} {fp:List Addr}
theorem comp_inv (hc:CmpOk X.N X.env.scope k js N' scope) (I:Inv X pins σ H s2) (a0:∀ b∈fp,FpOk X pins H b) (a4:∀ b∈fp,b < s2.heap.objs.size) {h3:Heap} (hz:h3.objs.size=s2.heap.objs.size+1) (a7:∀ b o,s2.heap.get? b=some o->h3.get? b=some o) :
  Inv (ZBo X N' scope (s2.heap.objs.size+1) fp s2 H) [] (up k js σ) H { s2 with heap:=pushCells (h3.push { cls:=.type "dict",data:=.dict #[] }) scope.names }:=by
 have U:∀ y,(y,NameKind.free)∈scope.names->∃ c,X.env.cells.lookup y=some c:=fun y hy=>I.ok.has y (hc.fr y hy)
 have a2:=cellsFrom_ok scope.names (h3.push { cls:=.type "dict",data:=.dict #[] }) (s2.heap.objs.size+2) [] ⟨fun _ _ hm=>(nomatch hm),List.Pairwise.nil⟩ (by rw [Heap.size_push,hz];exact yAA _)
 rw [Heap.size_push,hz] at a2
 have B:∀ y c,(ZDh scope (closFrom X.env.cells scope.names []) (s2.heap.objs.size+1) X.env).cells.lookup y=some c ->
   ((y,c)∈cellsFrom (s2.heap.objs.size+2) scope.names [] /\ (y,NameKind.cell)∈scope.names /\ s2.heap.objs.size+2 <= c)∨((y,NameKind.free)∈scope.names /\ X.env.cells.lookup y=some c):=fun y c e=>by
  have m:=PySem.mem_of_lookup e
  change (y,c)∈cellsFrom (s2.heap.objs.size+1+1) scope.names _ at m
  rw [ZA5] at m
  rcases yAZ.mp m with m | m
  .rcases ZBw _ _ _ _ _ m with z | ⟨z,l⟩
   .cases z
   .exact .inl ⟨m,z,l⟩
  .rcases ZBe _ _ _ _ m with z | ⟨z,l⟩
   .cases z
   .obtain ⟨c',e'⟩:=U y z
    rw [e'] at l
    exact .inr ⟨z,by rw [e'];exact congrArg some l.symm⟩
 have a6:∀ y c,X.env.cells.lookup y=some c->c < s2.heap.objs.size:=fun y c e=>by
  obtain ⟨v,q⟩:=I.cell y c e
  exact q.lt
 have O:∀ y,(y,NameKind.free)∈scope.names->∀ c,X.env.cells.lookup y=some c->(ZDh scope (closFrom X.env.cells scope.names []) (s2.heap.objs.size+1) X.env).cells.lookup y=some c:=fun y hy c e=>by
  have m:(y,c)∈cellsFrom (s2.heap.objs.size+1+1) scope.names (closFrom X.env.cells scope.names []):=by
   rw [ZA5]
   have q:=ZBf (cells:=X.env.cells) scope.names [] y hy
   rw [e] at q
   exact yAX _ q
  obtain ⟨c',q⟩:=ZBW m
  rcases B y c' q with ⟨_,z,_⟩ | ⟨_,z⟩
  .have z1:=hc.look _ z
   have z2:=hc.look _ hy
   rw [z1] at z2
   cases z2
  .rw [e] at z
   cases z
   exact q
 have J:∀ b o,s2.heap.get? b=some o->(pushCells (h3.push { cls:=.type "dict",data:=.dict #[] }) scope.names).get? b=some o:=fun b o e=>pushCells_keeps _ _ b o (Heap.get?_push_of_some _ (a7 b o e))
 refine ⟨⟨I.ok.mod,hc.kind,I.ok.glob,I.ok.blt,yBB _,fun y z c h1 h2=>?_,fun y hy=>?_,fun y c h1 h2=>?_,I.ok.hd,I.ok.frames,.inl rfl,fun b hb=>⟨?_,fun y c e=>?_⟩,I.bs,yAL I.ok.bsz I.sz,fun b o e hb=>?_,fun b hb hs=>?_,I.stack,I.stkFree⟩,
  rfl,I.bare,Un.kept J,⟨fun _=>none,?_,fun i y v e1 e2 e3=>?_⟩,fun y c e=>?_,I.hok.fresh (yBB _),fun y c e=>?_,fun p hp=>absurd (show p∈([]:List (Addr×Obj)) from hp) (by simp),I.hok.kept J,?_⟩
 .
  rcases B y c h1 with ⟨a,_,l⟩ | ⟨_,a⟩ <;> rcases B z c h2 with ⟨b,_,l'⟩ | ⟨_,b⟩
  .exact name_of_addr a2.apart a b
  .have:=natlt (a6 z c b);omega
  .have:=natlt (a6 y c a);omega
  .exact I.ok.inj y z c a b
 .
  have Z:(relabel scope X.env).names.lookup y=some .cell∨(relabel scope X.env).names.lookup y=some .free:=hy
  rw [relabel_lookup] at Z
  have q:scope.names.lookup y=some .cell∨scope.names.lookup y=some .free:=by
   cases e:scope.names.lookup y with
   | none=>rw [e] at Z;rcases Z with z | z <;> cases z
   | some kk=>
    rw [e] at Z
    cases kk <;> first | exact .inl rfl | exact .inr rfl | (rcases Z with z | z <;> simp at z)
  rcases q with q | q
  .obtain ⟨c,e⟩:=ZC1 (n:=s2.heap.objs.size+1+1) q
   have m:(y,c)∈cellsFrom (s2.heap.objs.size+1+1) scope.names (closFrom X.env.cells scope.names []):=by
    rw [ZA5]
    exact yBU _ (PySem.mem_of_lookup e)
   exact ZBW m
  .have m:=PySem.mem_of_lookup q
   obtain ⟨c,e⟩:=U y m
   exact ⟨c,O y m c e⟩
 .
  have a9:scope.names.lookup y=some .cell:=of_decide_eq_true h1
  rcases B y c h2 with ⟨_,_,l⟩ | ⟨z,_⟩
  .show s2.heap.objs.size <= c
   omega
  .have:=hc.look _ z
   rw [a9] at this
   cases this
 .
  exact ZDH (a4 b hb) (yBB _)
 .rcases B y c e with ⟨_,_,l⟩ | ⟨_,z⟩
  .exact (ZDH (a4 b hb) (yAL (Nat.le_add_right _ 2) l)).symm
  .exact (a0 b hb).2.2.2.2.1 y c z
 .
  rcases (a0 b hb).2.2.2.1 with z | z
  .exact I.ok.noex b o e z
  .exact absurd (yAW (Heap.lt_size e) (yAL I.ok.bsz z)) (yBQ _)
 .
  rcases yAE.mp (I.stkSub b hs) with z | z
  .exact (a0 b hb).2.1 z
  .exact (a0 b hb).2.2.1 z
 .
  have q:=(Heap.Ns.new h3 (.type "dict")).keeps (pushCells_keeps scope.names _)
  rw [hz] at q
  exact q
 .
  unfold up at e2
  have a5:k <= i:=by
   by_cases hi:i < k
   .rw [yAY (by simpa using hi),List.getElem?_replicate] at e2
    rw [if_pos hi] at e2
    cases e2
   .omega
  rw [yBE (by simpa using a5),yCM,yAT] at e2
  cases ej:js[i-k]? with
  | none=>rw [ej] at e2;cases e2
  | some j=>
   rw [ej] at e2
   have a1:(σ[j]?).getD none=some v:=Option.some.inj e2
   have e4:σ[j]?=some (some v):=by
    cases q:σ[j]? with
    | none=>rw [q] at a1;cases a1
    | some z=>rw [q] at a1;exact congrArg some a1
   obtain ⟨y',n1,n2,n3⟩:=hc.js _ _ ej
   rw [Nat.add_sub_cancel' a5] at n1
   have n0:N'[i]?=some y:=e1
   rw [n1] at n0
   cases n0
   have hm:=PySem.mem_of_lookup n3
   have a3:Vis X.env.scope y:=.inr (hc.fr y hm)
   obtain ⟨m,hn,hl⟩:=I.loc
   obtain ⟨u,r,l⟩:=hl j y v n2 e4 a3
   refine ⟨u,r,?_⟩
   rcases l with ⟨kk,_⟩ | ⟨kk,c,ec,ic⟩
   .have a8:X.env.scope.names.lookup y=some .local:=kk
    rcases hc.fr y hm with z | z <;> (rw [a8] at z;cases z)
   .refine .inr ⟨?_,c,O y hm c ec,ic.keeps J⟩
    show (relabel scope X.env).names.lookup y=some .cell∨(relabel scope X.env).names.lookup y=some .free
    rw [relabel_lookup,n3]
    simp only [yCK]
    split
    .exact .inl rfl
    .exact .inr rfl
 .
  rcases B y c e with ⟨a,_,_⟩ | ⟨_,a⟩
  .exact ⟨none,(a2.empty y c a).1⟩
  .obtain ⟨v,q⟩:=I.cell y c a
   exact ⟨v,q.keeps J⟩
 .rcases B y c e with ⟨_,_,l⟩ | ⟨_,a⟩
  .exact I.hok.fresh (by omega)
  .exact I.freeC y c a
 .unfold up
  show _=N'.length
  rw [yAB,yCM,yAD,hc.len]
theorem comp_end {a4:St} {H':Hp} {s':Shared} {C D:Addr} {its:List Value} {n:Nat} {ys:List V} (I:Inv X pins σ H s2) (a2:∀ b∈fp,FpOk X pins H b) (hC:s2.heap.objs.size <= C) (hD:s2.heap.objs.size <= D) (a1:D≠C)
  (I':Inv (ZBo X N' scope C fp s2 H) [(D,{ cls:=.type "list",data:=.seq its.toArray n })] a4 H' s') (hv:Vals ys its) (hz:ys.length <= sizeLine) :
  H' D=none /\ ∀ h',Heap.SameBut C s'.heap h'->Inv X pins σ (upd H' D (.lst ys)) { s' with heap:=h' }:=by
 obtain ⟨eD,nD,_,_,_⟩:=I'.pin (D,{ cls:=.type "list",data:=.seq its.toArray n }) (yAX _ yAF)
 dsimp only at eD nD
 have nC:H' C=none:=I'.free
 refine ⟨nD,fun h' hs=>?_⟩
 have O:∀ b o,s2.heap.get? b=some o->b≠C:=fun b o e=>ZDH (Heap.lt_size e) hC
 have a3:∀ b o,s2.heap.get? b=some o->b≠D:=fun b o e=>ZDH (Heap.lt_size e) hD
 have tr:∀ b u,H' b=some u->b≠D:=fun b u e z=>by rw [z,nD] at e;cases e
 have a0:∀ b u,H' b=some u->b≠C:=fun b u e z=>by rw [z,nC] at e;cases e
 have B:=I'.base
 refine I.call' (s':={ s' with heap:=h' }) (ch:=fp) I'.os ⟨fun b o e nn J U=>?_,fun b o e nn J U=>?_,fun b o e nn U=>?_,fun b o e U=>?_,fun b xs e=>?_,fun b o u e=>?_,fun b ps e=>?_⟩ (fun b u e=>?_) I'.bare fun b J=>?_
 .exact (hs.2 b (O b o e)).trans (B.keep b o e nn J U)
 .obtain ⟨sl,q⟩:=B.slot b o e nn J U
  exact ⟨sl,(hs.2 b (O b o e)).trans q⟩
 .rw [ZAK (a3 b o e)]
  exact B.free b o e nn U
 .obtain ⟨o',q⟩:=B.there b o e U
  exact ⟨o',(hs.2 b (O b o e)).trans q⟩
 .have q:=B.tups b xs e
  rw [ZAK (tr b _ q)]
  exact q
 .have q:=B.frzs b o u e
  rw [ZAK (tr b _ q)]
  exact q
 .obtain ⟨more,q⟩:=B.tbls b ps e
  exact ⟨more,by rw [ZAK (tr b _ q)];exact q⟩
 .by_cases J:b=D
  .subst J
   rw [ZAG] at e
   cases e
   exact ⟨hz,its,n,hv,(hs.2 b a1).trans eD⟩
  .rw [ZAK J] at e
   refine (I'.hok b u e).stay (fun c v Z q=>(hs.2 c ?_).trans q) (fun c q=>by rw [ZAK (tr c _ q)];exact q) fun c xs q=>by rw [ZAK (tr c _ q)];exact q
   rcases Z with rfl | Z
   .exact a0 c _ e
   .exact a0 c _ Z
 .obtain ⟨_,f1,_,f3,f4,f5⟩:=a2 b J
  exact ⟨f3,f1,f4,f5⟩
end
section
variable {prog:Program} {w:World} {A:Around} {R:Result->Shared->Prop} {s:Shared}
theorem codeAny_compLoop_any {elt B iter:Expr} {ifs:List Expr} {scope:Scope} {pos:Pos} {it a4:Value} {env:Env} (I:Nat->Shared->Prop)
  (a7:∀ n s,I n s->wpAny (model prog w) A (pyNext it) (fun r s₁=>match r with
   | none=>R (.ok .next) s₁
   | some v=>wpAny (model prog w) A (letOwnedTupleGo B it v) (fun _ O=>wpAny (model prog w) A (assign B env v) (fun _ a2=>
     wpAny (model prog w) A (forIn ifs true fun c r=>if r=true then do let ok <- isTrue c env (eval c env);pure (ForInStep.yield ok) else pure (ForInStep.yield r)) (fun ok J=>
      if ok=true then wpAny (model prog w) A (eval elt env) (fun x Z=>
       wpAny (model prog w) A (call (.builtin "list.append") [a4,x]) (fun _ a0=>∃ m,m < n /\ I m a0) (notedBy (model prog w) A env fun e s'=>R (.error e) s') Z) (notedBy (model prog w) A env fun e s'=>R (.error e) s') J
      else ∃ m,m < n /\ I m J) (notedBy (model prog w) A env fun e s'=>R (.error e) s') a2) (notedBy (model prog w) A env fun e s'=>R (.error e) s') O) (notedBy (model prog w) A env fun e s'=>R (.error e) s') s₁) (notedBy (model prog w) A env fun e s'=>R (.error e) s') s)
  (n:Nat) (h:I n s) :
  codeAny (model prog w) A (.compLoop (.ListComp elt [⟨B,iter,ifs,0⟩] scope pos) 0 it a4 env) R s:=by
 refine codeAny_loop rfl I (fun n s hI=>?_) n h
 show wpAny _ A ((compTurn (.ListComp elt [⟨B,iter,ifs,0⟩] scope pos) 0 it a4 env).onRaise (fun x=>do noteFrame x env;theTreesLotGoes x)) _ _ s
 refine wpAny_noted ?_
 rw [compTurn_list]
 refine wpAny_bind (wpAny_standAt (wpAny_bind (wpAny_mono (a7 n s hI) (fun r s₁ U=>?_) fun _ _ h'=>h')))
 cases r with
 | none=>exact wpAny_pure U
 | some v=>
  refine wpAny_bind (wpAny_mono U (fun _ O a3=>?_) fun _ _ h'=>h')
  refine wpAny_bind (wpAny_mono a3 (fun _ a2 a6=>wpAny_bind (wpAny_mono a6 (fun ok J a1=>?_) fun _ _ h'=>h')) fun _ _ h'=>h')
  cases ok with
  | false=>exact wpAny_pure ⟨rfl,a1⟩
  | true=>exact wpAny_bind (wpAny_bind (wpAny_mono a1 (fun x Z a5=>wpAny_bind (wpAny_mono a5 (fun _ a0 a8=>wpAny_pure (wpAny_pure ⟨rfl,a8⟩)) fun _ _ h'=>h')) fun _ _ h'=>h'))
end
noncomputable def PIfs (X:Cx) (ifs:List Expr) (t:TT):Prop :=
 ∀ (pins:List (Addr×Obj)) (s:Shared) (σ:St) (H:Hp) (Q:Bool->Hp->Prop),Inv X pins σ H s->t σ H Q ->
  wpAny (model X.prog X.w) X.A (forIn ifs true fun c r=>if r=true then do let ok <- isTrue c X.env (eval c X.env);pure (ForInStep.yield ok) else pure (ForInStep.yield r)) (TP X pins σ Q) X.xe s
noncomputable def tYes:TT:=fun _ H Q=>Q true H
theorem ZCZ {X:Cx}:PIfs X [] tYes:=fun _ _ _ H _ I h=>wpAny_tests_nil ⟨H,I,h⟩
theorem pifs_one {X:Cx} {c:Expr} {t:TT} (hc:PT X c t):PIfs X [c] t:=fun pins s σ H Q I h=>wpAny_tests_one (hc pins s σ H Q I h)
noncomputable def ZDl (k:Nat) (js:List Nat) (wi:TI) (g:TG) (tt:TT) (te:TE):TE:=fun σ H Q=>wi σ H fun J H1=>∃ W:Nat->Nat->List V->St->Hp->Prop,(∃ m,W 0 m [] (up k js σ) H1) /\ ∀ i m ys σ H,W i m ys σ H ->
 (J.stop i H /\ ys.length <= sizeLine /\ ∀ p,H p=none->Q (.ref p) (upd H p (.lst ys))) ∨
 (J.go i H /\ ys.length < sizeLine /\ ∀ x H',J.yld i H x H'->g x σ H' fun σ2 H2=>tt σ2 H2 fun b H3=>if b=true then te σ2 H3 fun y H4=>∃ m',m' < m /\ W (i+1) m' (ys++[y]) σ2 H4 else ∃ m',m' < m /\ W (i+1) m' ys σ2 H3)
section
variable {X:Cx} {k:Nat} {js:List Nat} {N':List Str} {scope:Scope} {tg iter elt:Expr} {ifs:List Expr} {wi:TI} {g:TG} {tt:TT} {te:TE} {pos:Pos}
theorem comp_core {use:Option (Value->Sem Unit)} {Q':Value->Shared->Prop} (ac:X.calm=true) (hc:CmpOk X.N X.env.scope k js N' scope) (hi:PI X tg iter wi)
  (hg:∀ C fp s2 H2,PG (ZBo X N' scope C fp s2 H2) tg g) (ht:∀ C fp s2 H2,PIfs (ZBo X N' scope C fp s2 H2) ifs tt) (he:∀ C fp s2 H2,PE (ZBo X N' scope C fp s2 H2) elt te)
  {pins:List (Addr×Obj)} {s:Shared} {σ:St} {H:Hp} {Q:VK} (I:Inv X pins σ H s) (h:ZDl k js wi g tt te σ H Q)
  (fin:∀ (C D:Addr) (s':Shared) (m:Str->Option Value) (H':Hp) (ys:List V),s'.heap.Ns C m->C≠X.env.locals->C∉X.fs->D≠C->H' C=none->X.s₀.heap.objs.size <= C->(∀ x c,X.env.cells.lookup x=some c->c≠C)->(∀ p∈X.pn++pins,p.1≠C)->(∀ h',Heap.SameBut C s'.heap h'->Inv X pins σ (upd H' D (.lst ys)) { s' with heap:=h' })->Q (.ref D) (upd H' D (.lst ys)) ->
   compPost (model X.prog X.w) X.A X.xe use Q' (.ref D) C (.ok .next) s')
  (hs:∀ x,foldedSetIterable iter X.env x=pure x) (p':Pos) :
  wpAny (model X.prog X.w) X.A (comprehension (.ListComp elt [⟨tg,iter,ifs,0⟩] scope pos) scope X.env p' (newList []) false (eval iter X.env) use) Q' X.xe s:=by
 have ab:closureFor scope X.env=pure (closFrom X.env.cells scope.names []):=closureFor_eq fun y hy=>I.ok.has y (hc.fr y hy)
 refine wpAny_comprehension_free (g:=⟨tg,iter,ifs,0⟩) (gs:=[]) rfl hs ab hc.kind (fun x hx hl=>by rw [hc.look x hx,hl]) ?_
 refine thn (hi pins s σ H _ I h) fun v s1 h1=>thn h1 fun bd s2 h2=>?_
 obtain ⟨it,fp,tn,J,H2,e,I2,T,st2,f2,W,⟨m0,w0⟩,au⟩:=h2
 subst e
 have ae:∀ b∈fp,b < s2.heap.objs.size:=fun b U=>by
  obtain ⟨o,e,_⟩:=T.obj _ _ st2 b U
  exact Heap.lt_size e
 refine wpAny_newObj_type (newEnv_comp ?_)
 have ai:(s2.heap.push { cls:=.type "list",dict:=none,data:=.seq ([]:List Value).toArray }).objs.size=s2.heap.objs.size+1:=Heap.size_push ..
 have I3:=comp_inv (h3:=s2.heap.push { cls:=.type "list",dict:=none,data:=.seq ([]:List Value).toArray }) hc I2 f2 ae ai (fun b o e=>Heap.get?_push_of_some _ e)
 dsimp only
 rw [ai]
 generalize hS4:({ s2 with heap:=pushCells ((s2.heap.push { cls:=.type "list",dict:=none,data:=.seq ([]:List Value).toArray }).push { cls:=.type "dict",data:=.dict #[] }) scope.names }:Shared)=s4 at I3 ⊢
 have a5:∀ b o,s2.heap.get? b=some o->s4.heap.get? b=some o:=fun b o e=>by
  rw [<- hS4]
  exact pushCells_keeps _ _ b o (Heap.get?_push_of_some _ (Heap.get?_push_of_some _ e))
 have al:s4.heap.get? s2.heap.objs.size=some { cls:=.type "list",data:=.seq ([]:List Value).toArray 0 }:=by
  rw [<- hS4]
  exact pushCells_keeps _ _ _ _ (Heap.get?_push_of_some _ (Heap.get?_push_size _ rfl))
 generalize hX':ZBo X N' scope (s2.heap.objs.size+1) fp s2 H2=X' at I3
 have a6:X'.env.locals=s2.heap.objs.size+1:=by rw [<- hX'];rfl
 have a8:X'.fs=frs X.stack:=by rw [<- hX'];rfl
 have af:∀ a,s2.heap.objs.size <= a->a∉frs X.stack:=fun a ha U=>by
  rcases yAE.mp (I2.stkSub a U) with z | z
  .exact absurd z.symm (ZDH I2.lt ha)
  .exact I2.nofs ha z
 have ah:∀ x c,X'.env.cells.lookup x=some c->c≠s2.heap.objs.size:=fun x c e z=>by
  obtain ⟨v,o,ho,hd⟩:=I3.cell x c e
  rw [z,al] at ho
  cases ho
  cases hd
 have a9:∀ {B:St} {H':Hp} {s':Shared} {its:List Value} {n:Nat},Inv X' [] B H' s'->s'.heap.get? s2.heap.objs.size=some { cls:=.type "list",data:=.seq its.toArray n }->H' s2.heap.objs.size=none ->
   Inv X' [(s2.heap.objs.size,{ cls:=.type "list",data:=.seq its.toArray n })] B H' s':=fun {B H' s' its n} J e nn=>J.pins_of fun p hp=>by
  have e':p=(s2.heap.objs.size,{ cls:=.type "list",data:=.seq its.toArray n }):=by simpa using hp
  subst e'
  refine ⟨e,nn,?_,?_,fun v z=>nomatch z⟩
  .rw [a6];exact yAM (yBP _)
  .rw [a8];exact af _ (yAA _)
 have I4:=a9 I3 al (I2.hok.fresh (yAA _))
 have a0:∀ {H':Hp} {o:Obj},(∀ b∈fp,H' b=none)->∀ b∈fp,FpOk X' [(s2.heap.objs.size,o)] H' b:=fun {H' o} hn b U=>by
  have ap:=ae b U
  refine ⟨hn b U,?_,?_,.inl (by rw [<- hX'];exact U),fun x c e z=>?_,fun p hp z=>?_⟩
  .rw [a6];exact ZDH ap (yBB _)
  .rw [a8]
   intro z
   rcases yAE.mp (I2.stkSub b z) with q | q
   .exact (f2 b U).2.1 q
   .exact (f2 b U).2.2.1 q
  .have q:=I3.ok.exf b (by rw [<- hX'];exact U)
   exact q.2 x c e z
  .rw [show X'.pn=[] by rw [<- hX'];rfl] at hp
   have e':p=(s2.heap.objs.size,o):=by simpa using hp
   subst e'
   exact absurd ap (by rw [<- z];exact yBQ _)
 have ax:∀ {B:St} {H':Hp} {s':Shared} {its:List Value} {n:Nat} {ys:List V},Inv X' [(s2.heap.objs.size,{ cls:=.type "list",data:=.seq its.toArray n })] B H' s'->Vals ys its->ys.length <= sizeLine->(∀ p,H' p=none->Q (.ref p) (upd H' p (.lst ys))) ->
   compPost (model X.prog X.w) X.A X.xe use Q' (.ref s2.heap.objs.size) (s2.heap.objs.size+1) (.ok .next) s':=fun {B H' s' its n ys} J hv hz hq=>by
  obtain ⟨m,hn,_⟩:=id J.loc
  rw [a6] at hn
  have nC:H' (s2.heap.objs.size+1)=none:=by rw [<- a6];exact J.free
  have J':Inv (ZBo X N' scope (s2.heap.objs.size+1) fp s2 H2) [(s2.heap.objs.size,{ cls:=.type "list",data:=.seq its.toArray n })] B H' s':=by rw [hX'];exact J
  obtain ⟨nD,E⟩:=comp_end I2 f2 (yBB _) (yAA _) (yAM (yBP _)) J' hv hz
  refine fin _ _ s' m H' ys hn ?_ (I2.nofs (yBB _)) (yAM (yBP _)) nC (yAL I2.sz (yBB _)) (fun x c e z=>?_) (fun p hp z=>?_) E (hq _ nD)
  .exact (ZDH I2.lt (yBB _)).symm
  .obtain ⟨v,q⟩:=I2.cell x c e
   exact absurd z (ZDH q.lt (yBB _))
  .exact absurd z (ZDH (Heap.lt_size (I2.pin p hp).1) (yBB _))
 have O:X'.prog=X.prog:=by rw [<- hX'];rfl
 have hw:X'.w=X.w:=by rw [<- hX'];rfl
 have hK:X'.K=X.K:=by rw [<- hX'];rfl
 have Z:X'.calm=true:=by rw [<- hX'];exact ac
 have hA:X'.A=X.A:=by rw [<- hX'];rfl
 have az:ZDh scope (closFrom X.env.cells scope.names []) (s2.heap.objs.size+1) X.env=X'.env:=by rw [<- hX'];rfl
 have aq:=hg (s2.heap.objs.size+1) fp s2 H2
 have b0:=ht (s2.heap.objs.size+1) fp s2 H2
 have ar:=he (s2.heap.objs.size+1) fp s2 H2
 rw [hX'] at aq b0 ar
 have ag:∀ e s',X'.xe e s'->False:=fun e s' z=>by rw [<- hX'] at z;exact z
 have b3:X'.pn=[]:=by rw [<- hX'];rfl
 have ba:X'.s₀.heap.objs.size=s2.heap.objs.size:=by rw [<- hX'];rfl
 have aa:codeAny (model X.prog X.w) X.A (.compLoop (.ListComp elt [⟨tg,iter,ifs,0⟩] scope pos) 0 (.ref it) (.ref s2.heap.objs.size) X'.env) (compPost (model X.prog X.w) X.A X.xe use Q' (.ref s2.heap.objs.size) (s2.heap.objs.size+1)) s4:=by
  refine codeAny_compLoop_any (fun n s'=>∃ i B H' its nn ys,Inv X' [(s2.heap.objs.size,{ cls:=.type "list",data:=.seq its.toArray nn })] B H' s' /\ tn i s'.heap /\ (∀ b∈fp,H' b=none) /\ Vals ys its /\ W i n ys B H') ?_ m0
   ⟨0,_,H2,[],0,[],I4,T.keep _ _ _ st2 (fun b _ o e=>a5 b o e),fun b U=>(f2 b U).1,.nil,w0⟩
  rintro n s5 ⟨i,a7,H5,its,nn,ys,I5,aj,ay,hv,w5⟩
  rcases au i n ys a7 H5 w5 with ⟨stop,hz,hq⟩ | ⟨go,hz,step⟩
  .have d:=T.done X' O hw hK Z i _ s5 a7 H5 (fun _ _=>False) I5 (a0 ay) aj stop
   rw [hA] at d
   refine wpAny_mono d (fun r s6 ⟨hr,I6⟩=>?_) fun _ _ z=>z.elim
   subst hr
   exact ax I6 hv hz hq
  .have d:=T.item X' O hw hK Z i _ s5 a7 H5 (fun _ _=>False) I5 (a0 ay) aj go
   rw [hA] at d
   refine wpAny_mono d (fun r s6 ⟨u,hr,h6⟩=>?_) fun _ _ z=>z.elim
   subst hr
   refine wpAny_mono h6 (fun _ s7 zz=>?_) fun _ _ z=>z.elim
   obtain ⟨x,H7,I7,r7,y7,ad,b6⟩:=zz
   have b8:=I7.pinned (a0 b6) (T.obj _ _ ad)
   have a1:=aq _ s7 a7 H7 x u _ b8 r7 (step x H7 y7)
   rw [O,hw,hA] at a1
   refine wpAny_mono a1 (fun _ s8 zz=>?_) fun _ _ z=>(ag _ _ z).elim
   obtain ⟨a4,H8,I8,q8⟩:=zz
   have a2:=b0 _ s8 a4 H8 _ I8 q8
   rw [O,hw,hA] at a2
   refine wpAny_mono a2 (fun ok s9 ⟨H9,I9,q9⟩=>?_) fun _ _ z=>(ag _ _ z).elim
   have back:∀ {B:St} {H':Hp} {s':Shared},Inv X' ([(s2.heap.objs.size,({ cls:=.type "list",data:=.seq its.toArray nn }:Obj))]++ZDs fp s7.heap) B H' s'->tn (i+1) s'.heap /\ (∀ b∈fp,H' b=none):=fun {B H' s'} J=>by
    refine ⟨T.keep _ _ _ ad fun b U o e=>(J.pin (b,o) (yAX _ (yAX _ (ZCF U e)))).1,fun b U=>?_⟩
    obtain ⟨o,e,d⟩:=T.obj _ _ ad b U
    exact (J.pin (b,o) (yAX _ (yAX _ (ZCF U e)))).2.1
   cases ok with
   | false=>
    rw [if_neg yBG] at q9 ⊢
    obtain ⟨m',hm,w9⟩:=q9
    obtain ⟨t9,f9⟩:=back I9
    exact ⟨m',hm,i+1,a4,H9,its,nn,ys,I9.unpinned,t9,f9,hv,w9⟩
   | true=>
    rw [if_pos rfl] at q9 ⊢
    have a3:=ar _ s9 a4 H9 _ I9 q9
    rw [O,hw,hA] at a3
    refine wpAny_mono a3 (fun uy s10 zz=>?_) fun _ _ z=>(ag _ _ z).elim
    obtain ⟨y,ao,av,b1,m',hm,b5⟩:=zz
    obtain ⟨b9,bb⟩:=back av
    have am:=av.unpinned
    obtain ⟨eD,nD,_,_,_⟩:=am.pin (s2.heap.objs.size,{ cls:=.type "list",data:=.seq its.toArray nn }) (yAX _ yAF)
    dsimp only at eD nD
    have be:its.length < sizeLine:=by rw [<- hv.length];exact hz
    refine wpAny_list_append_plain ⟨nn,eD⟩ (fun h' bc aw=>?_) (by rw [yAR];omega)
    obtain ⟨n',e'⟩:=bc
    have b7:h'.get? s2.heap.objs.size=some { cls:=.type "list",data:=.seq (its++[uy]).toArray n' }:=by rw [e'];simp
    have b2:Inv X' [] a4 ao s10:=am.pins_of fun p hp=>absurd hp (by simp)
    have b4:=b2.turned (h':=h') (t':=s10.toks) (it:=s2.heap.objs.size) (fun b o U e=>(aw.2 b U).trans e) nD (by rw [a6];exact yAM (yBP _)) (.inr (by rw [ba];exact yAA _)) ah (fun p hp=>absurd hp (by rw [b3];simp))
    refine ⟨m',hm,i+1,a4,ao,its++[uy],n',ys++[y],a9 b4 b7 nD,T.keep _ _ _ b9 fun b U o e=>?_,bb,hv.append (.cons b1 .nil),b5⟩
    exact (aw.2 b (ZDH (ae b U) (yAA _))).trans e
 have an:codeAny (model X.prog X.w) X.A (.compStart (.ListComp elt [⟨tg,iter,ifs,0⟩] scope pos) 0 (.ref it) (.ref s2.heap.objs.size) X'.env) (compPost (model X.prog X.w) X.A X.xe use Q' (.ref s2.heap.objs.size) (s2.heap.objs.size+1)) s4 :=
  codeAny_compStart_list aa (T.self X.A 0 s4 _ _ (T.keep _ _ _ st2 (fun b _ o e=>a5 b o e)) aa)
 rw [<- az] at an
 exact an
theorem ZC6 (B:X.calm=true) (hc:ZC0 X.N X.env.scope k js N' scope=true) (hi:PI X tg iter wi)
  (Z:∀ C fp s2 H2,PG (ZBo X N' scope C fp s2 H2) tg g) (O:∀ C fp s2 H2,PIfs (ZBo X N' scope C fp s2 H2) ifs tt) (U:∀ C fp s2 H2,PE (ZBo X N' scope C fp s2 H2) elt te)
  (hs:∀ x,foldedSetIterable iter X.env x=pure x:=by intro _;rfl):PE X (.ListComp elt [⟨tg,iter,ifs,0⟩] scope pos) (ZDl k js wi g tt te):=by
 intro pins s σ H Q I h
 rw [eval_ListComp]
 refine comp_core (use:=none) B (cmpOk hc) hi Z O U I h (fun C D s' m H' ys hn _ _ _ _ _ _ _ E q=>?_) hs _
 exact ⟨m,hn,fun h' J=>⟨.ref D,_,E h' J,rfl,q⟩⟩
theorem ps_setComp {i:Nat} {x:Str} {px O:Pos} (hN:X.N.Nodup) (a2:X.N[i]?=some x) (hx:Loc X.env.scope x) (U:X.calm=true) (hc:ZC0 X.N X.env.scope k js N' scope=true) (hi:PI X tg iter wi)
  (hg:∀ C fp s2 H2,PG (ZBo X N' scope C fp s2 H2) tg g) (ht:∀ C fp s2 H2,PIfs (ZBo X N' scope C fp s2 H2) ifs tt) (he:∀ C fp s2 H2,PE (ZBo X N' scope C fp s2 H2) elt te)
  (hs:∀ x,foldedSetIterable iter X.env x=pure x:=by intro _;rfl) (a1:swapsWith (.ListComp elt [⟨tg,iter,ifs,0⟩] scope pos) (some (.Name x px)) O.line X.env=pure true:=by rfl)
  (hf:X.fn x=true∨X.env.scope.names.lookup x=some .local:=by first | exact .inl rfl | exact .inr rfl | assumption) :
  PS X (.Assign [.Name x px] (.ListComp elt [⟨tg,iter,ifs,0⟩] scope pos) O) (tAsg (ZDl k js wi g tt te) (ZEj i)):=by
 intro pins s σ H D I h
 rw [exec_Assign_Name_used _ _ _ _ a1]
 refine wpAny_bind (wpAny_standAt (wpAny_bind ?_))
 show wpAny _ X.A (do let _ <- comprehension (.ListComp elt [⟨tg,iter,ifs,0⟩] scope pos) scope X.env _ (newList []) false (eval iter X.env) (some (assign (.Name x px) X.env))) _ _ s
 refine wpAny_bind (wpAny_mono (comp_core (use:=some (assign (.Name x px) X.env)) (Q':=fun _ s'=>SP X pins D .next s') U (cmpOk hc) hi hg ht he I h (fun C Z s' m H' ys hn c1 c2 c3 c4 c5 c6 c7 E q=>?_) hs _) (fun _ s' hq=>wpAny_pure (wpAny_pure hq)) fun _ _ e=>e)
 have J:=E s'.heap (.refl ..)
 obtain ⟨oC,es,ep,eC,dC,rC⟩:=id hn
 have J':Inv X (pins++[(C,oC)]) σ (upd H' Z (.lst ys)) s':=J.pins_of fun p hp=>by
  rcases yAZ.mp hp with z | z
  .exact J.pin p (yAX _ z)
  .have e':p=(C,oC):=by simpa using z
   subst e'
   refine ⟨eC,?_,c1,c2,fun v z=>?_⟩
   .show upd H' Z _ C=none
    rw [ZAK (Ne.symm c3)]
    exact c4
   .have z':oC.data=.cell v:=z
    rw [dC] at z'
    cases z'
 show wpAny _ X.A (assign (.Name x px) X.env (.ref Z)) _ _ _
 refine wpAny_assign_Name (ZCV (Q:=fun _ B=>∃ m,B.heap.Ns C m /\ ∀ h',Heap.SameBut C B.heap h'->SP X pins D .next { B with heap:=h' }) J' hN a2 hx (v:=.ref Z) (u:=.ref Z) rfl (fun B K'=>?_) hf)
 obtain ⟨e2,n2,_,_,_⟩:=K'.pin (C,oC) (yAX _ (yAX _ yAF))
 dsimp only at e2 n2
 refine ⟨m,⟨oC,es,ep,e2,dC,rC⟩,fun h' a0=>⟨_,_,K'.unpinned.turned (it:=C) (t':=B.toks) (fun b o hb e=>(a0.2 b hb).trans e) n2 c1 (.inr c5) c6 c7,q⟩⟩
end
mutual
noncomputable def Dp (K:W.Frag) (H:Hp):PyData->V->Prop
 | .none,v=>v=.non
 | .bool b,v=>v=.bl b
 | .int i,v=>v=.int i
 | .str x,v=>v=.str x
 | .list ds,v=>∃ a xs,v=.ref a /\ SqL K H a xs /\ DpAll K H ds xs
 | .tuple ds,v=>∃ a xs,v=.ref a /\ SqT K H a xs /\ DpAll K H ds xs
 | .dict _,_=>False
noncomputable def DpAll (K:W.Frag) (H:Hp):List PyData->List V->Prop
 | [],vs=>vs=[]
 | d::ds,vs=>∃ v r,vs=v::r /\ Dp K H d v /\ DpAll K H ds r
end
theorem DpAll.nil {K:W.Frag} {H:Hp}:DpAll K H [] []:=by unfold DpAll;rfl
theorem DpAll.cons {K:W.Frag} {H:Hp} {d:PyData} {ds:List PyData} {v:V} {vs:List V} (a:Dp K H d v) (t:DpAll K H ds vs):DpAll K H (d::ds) (v::vs):=by unfold DpAll;exact ⟨v,vs,rfl,a,t⟩
theorem DpAll.two {K:W.Frag} {H:Hp} {d e:PyData} {v u:V} (a:Dp K H d v) (b:Dp K H e u):DpAll K H [d,e] [v,u]:=.cons a (.cons b .nil)
theorem DpAll.ints {K:W.Frag} {H:Hp}:∀ (ns:List Int),DpAll K H (ns.map PyData.int) (ns.map V.int)
 | []=>.nil
 | n::r=>.cons (by unfold Dp;rfl) (DpAll.ints r)
theorem dp_int {K:W.Frag} {H:Hp} (i:Int):Dp K H (.int i) (.int i):=by unfold Dp;rfl
theorem ZEl {K:W.Frag} {H:Hp} {a:Addr} {xs:List V} {ds:List PyData} (h:SqL K H a xs) (t:DpAll K H ds xs):Dp K H (.list ds) (.ref a):=by unfold Dp;exact ⟨a,xs,rfl,h,t⟩
theorem dp_tup {K:W.Frag} {H:Hp} {a:Addr} {xs:List V} {ds:List PyData} (h:SqT K H a xs) (t:DpAll K H ds xs):Dp K H (.tuple ds) (.ref a):=by unfold Dp;exact ⟨a,xs,rfl,h,t⟩
section
variable {X:Cx} {pins:List (Addr×Obj)} {σ:St} {H:Hp} {s:Shared}
mutual
theorem Inv.reads (I:Inv X pins σ H s):∀ {d:PyData} {v:V} {u:Value},Dp X.K H d v->RelV v u->∃ as,Reads s.heap u d as
 | .none,_,_,h,r=>by unfold Dp at h;subst h;cases (show _=Value.none from r);exact ⟨_,.none⟩
 | .bool b,_,_,h,r=>by unfold Dp at h;subst h;cases (show _=Value.bool b from r);exact ⟨_,.bool b⟩
 | .int i,_,_,h,r=>by unfold Dp at h;subst h;obtain ⟨t,q⟩:=(show ∃ t,_=Value.int i t from r);subst q;exact ⟨_,.int i t⟩
 | .str x,_,_,h,r=>by unfold Dp at h;subst h;obtain ⟨t,q⟩:=(show ∃ t,_=Value.str x t from r);subst q;exact ⟨_,.str x t⟩
 | .list ds,_,_,h,r=>by
  unfold Dp at h
  obtain ⟨a,xs,q,Z,t⟩:=h
  subst q
  cases (show _=Value.ref a from r)
  obtain ⟨its,U,pl,_⟩:=I.list Z
  obtain ⟨as,B⟩:=Inv.readsAll I t U
  obtain ⟨o,n,J,O,_,e3⟩:=pl
  exact ⟨_,.list J O e3 (by simpa using B)⟩
 | .tuple ds,_,_,h,r=>by
  unfold Dp at h
  obtain ⟨a,xs,q,Z,t⟩:=h
  subst q
  cases (show _=Value.ref a from r)
  obtain ⟨its,U,pl,_⟩:=I.tuple Z
  obtain ⟨as,B⟩:=Inv.readsAll I t U
  obtain ⟨o,J,O,n,e3⟩:=pl
  exact ⟨_,.tuple J O e3 (by simpa using B)⟩
 | .dict _,_,_,h,_=>by unfold Dp at h;exact h.elim
theorem Inv.readsAll (I:Inv X pins σ H s):∀ {ds:List PyData} {vs:List V} {us:List Value},DpAll X.K H ds vs->Vals vs us->∃ as,ReadsAll s.heap us ds as
 | [],_,_,h,r=>by unfold DpAll at h;subst h;cases r;exact ⟨_,.nil⟩
 | _::_,_,_,h,r=>by
  unfold DpAll at h
  obtain ⟨v,q,e,a,t⟩:=h
  subst e
  cases r with
  | cons r1 r2=>
   obtain ⟨as,h1⟩:=Inv.reads I a r1
   obtain ⟨bs,h2⟩:=Inv.readsAll I t r2
   exact ⟨_,.cons h1 h2⟩
end
noncomputable def rNeD (K:W.Frag):R2:=fun x y H Q=>∃ d e,Dp K H d x /\ Dp K H e y /\ d.canLay0=true /\ e.canLay0=true /\ d.depth <= 64 /\ Q (.bl (!PyData.eqv d e)) H
theorem ZEJ (hu:X.A.units+64 < cLine):OpR X (compareOp .NotEq) (rNeD X.K):=by
 intro pins s σ H x y v u Q I U O h
 obtain ⟨d,e,h1,h2,c1,B,dp,q⟩:=h
 obtain ⟨as,J⟩:=I.reads h1 U
 obtain ⟨bs,Z⟩:=I.reads h2 O
 exact SeqAt.compareNe_reads J Z c1 B (by omega) ⟨.bl _,H,I,rfl,q⟩
end
section
variable {X:Cx} {x:Str} {pos:Pos}
theorem ZBJ {y:Int} (B:Gl X x) (h:∃ t,X.mg x=some (.int y t)) (J:(x == ("__debug__":Str))=false:=by decide):PE X (.Name x pos) (tC (.int y)):=by
 obtain ⟨t,e⟩:=h
 exact pe_glob B e ⟨t,rfl⟩ J
end
structure Fn (P:Program) (w:World) (K:W.Frag) (mg:Str->Option Value) (base:Heap) (CX:CXT) (x:Str) (k:Nat) (ps:List Str) (sp:Sp):Prop where
 ex:∃ f fd,FnOk P w K mg base CX k f fd ps sp /\ Binds K fd ps [] /\ W.keepIn K (.ref f)=true /\ mg x=some (.ref f)
structure Mt (P:Program) (w:World) (K:W.Frag) (mg:Str->Option Value) (base:Heap) (CX:CXT) (C:Addr) (m:Str) (k:Nat) (ps:List Str) (sp:Sp):Prop where
 cl:Cls K C
 ex:∃ f fd,FnOk P w K mg base CX k f fd ps sp /\ Binds K fd ps [] /\ Meth K C m f
structure Kl (P:Program) (w:World) (K:W.Frag) (mg:Str->Option Value) (base:Heap) (CX:CXT) (x:Str) (C:Addr) (k:Nat) (ps:List Str) (sp:Sp):Prop where
 mgC:mg x=some (.ref C)
 ex:∃ f fd,FnOk P w K mg base CX k f fd ps sp /\ Binds K fd ps [] /\ Mk K C f
section
variable {X:Cx} {CX:CXT} {k:Nat} {ps:List Str} {sp:Sp} {E:XK} {x m:Str} {C:Addr} {p pos apos:Pos} {e o:Expr} {es:List Expr} {ta:TE} {t:TA}
theorem ZBR (F:Fn X.prog X.w X.K X.mg X.base CX x k ps sp) (U:Room k X.A) (hg:Gl X x) (hx:ZBp CX X E) (ha:PA X (e::es) t) (B:(x == ("__debug__":Str))=false:=by decide) (O:starEach (e::es) X.env=(false,eval e X.env)::starEach es X.env:=by rfl) (J:(backTo pos (starEach es X.env)).any (·.1)=false:=by rfl) :
  PE X (.Call (.Name x p) (e::es) [] pos) (ZEY sp [] E t):=by
 obtain ⟨f,fd,h1,h2,h3,Z⟩:=F.ex
 exact pe_call h1 U hg Z h3 h2 .nil hx ha B O J
theorem ZBU {pl:Sem Bool} (F:Mt X.prog X.w X.K X.mg X.base CX C m k ps sp) (U:Room k X.A) (Z:ZBp CX X E) (O:PE X o ta) (ha:PA X (e::es) t)
  (J:starEach (e::es) X.env=(false,eval e X.env)::starEach es X.env:=by rfl) (B:(backTo pos (starEach es X.env)).any (·.1)=false:=by rfl)
  (ht:eval (.Call (.Attribute o m apos) (e::es) [] pos) X.env=(do
   let ov <- eval o X.env
   standAt apos.atName
   let (f,first) <- holding [ov] (getMethod ov m pl)
   callWith pos f first (backTo pos (starEach (e::es) X.env)) (backToKw pos (keywordEach [] X.env))):=by rfl) :
  PE X (.Call (.Attribute o m apos) (e::es) [] pos) (ZEQ C m sp [] E ta t):=by
 obtain ⟨f,fd,h1,h2,h3⟩:=F.ex
 exact pe_meth O F.cl h3 h1 U h2 .nil Z ha J B ht
theorem ZCL {pl:Sem Bool} (F:Mt X.prog X.w X.K X.mg X.base CX C m k ps sp) (J:Room k X.A) (O:ZBp CX X E) (B:PE X o ta)
  (U:eval (.Call (.Attribute o m apos) [] [] pos) X.env=(do
   let ov <- eval o X.env
   standAt apos.atName
   let (f,first) <- holding [ov] (getMethod ov m pl)
   callWith pos f first (backTo pos (starEach [] X.env)) (backToKw pos (keywordEach [] X.env))):=by rfl) :
  PE X (.Call (.Attribute o m apos) [] [] pos) (ZEQ C m sp [] E ta tNil):=by
 obtain ⟨f,fd,h1,h2,h3⟩:=F.ex
 exact pe_meth0 B F.cl h3 h1 J h2 .nil O U
theorem ZEu (F:Kl X.prog X.w X.K X.mg X.base CX x C k ps sp) (U:Room (k+1) X.A) (Z:Gl X x) (hx:ZBp CX X E) (ha:PA X (e::es) t) (B:(x == ("__debug__":Str))=false:=by decide) (O:starEach (e::es) X.env=(false,eval e X.env)::starEach es X.env:=by rfl) (J:(backTo pos (starEach es X.env)).any (·.1)=false:=by rfl) :
  PE X (.Call (.Name x p) (e::es) [] pos) (ZEW C sp [] E t):=by
 obtain ⟨f,fd,h1,h2,h3⟩:=F.ex
 exact pe_make h3 h1 U Z F.mgC h2 .nil hx ha B O J
end
section
variable {X:Cx}
end
theorem ZAj {v:V} {σ:St} {H:Hp} {Q:VK}:tVar 0 (some v::σ) H Q=Q v H:=by
 apply propext;unfold tVar;simp
theorem ZAo {i:Nat} {a:Option V} {σ:St} {H:Hp} {Q:VK}:tVar (i+1) (a::σ) H Q=tVar i σ H Q:=by
 apply propext;unfold tVar;simp
theorem rI0_int {g:Int->Int->V} {i j:Int} {H:Hp} {Q:VK}:rI0 g (.int i) (.int j) H Q=Q (g i j) H:=by
 apply propext;unfold rI0;simp
theorem rI_int {C:Int->Int->Prop} {g:Int->Int->V} {i j:Int} {H:Hp} {Q:VK}:rI C g (.int i) (.int j) H Q=(C i j /\ Q (g i j) H):=by
 apply propext;unfold rI;simp
theorem rU_int {g:Int->V} {i:Int} {H:Hp} {Q:VK}:rU g (.int i) H Q=Q (g i) H:=by
 apply propext;unfold rU;simp
theorem rEq_int {i j:Int} {H:Hp} {Q:VK}:rEq (.int i) (.int j) H Q=Q (.bl (decide (i=j))) H:=by
 exact propext ⟨fun h=>by simpa using h.2,fun h=>⟨rfl,by simpa using h⟩⟩
theorem rNe_int {i j:Int} {H:Hp} {Q:VK}:rNe (.int i) (.int j) H Q=Q (.bl (!decide (i=j))) H:=by
 exact propext ⟨fun h=>by simpa using h.2,fun h=>⟨rfl,by simpa using h⟩⟩
theorem rEq_bl {i j:Bool} {H:Hp} {Q:VK}:rEq (.bl i) (.bl j) H Q=Q (.bl (decide (i=j))) H:=by
 exact propext ⟨fun h=>by simpa using h.2,fun h=>⟨rfl,by simpa using h⟩⟩
theorem rNe_bl {i j:Bool} {H:Hp} {Q:VK}:rNe (.bl i) (.bl j) H Q=Q (.bl (!decide (i=j))) H:=by
 exact propext ⟨fun h=>by simpa using h.2,fun h=>⟨rfl,by simpa using h⟩⟩
theorem rEq_str {i j:Str} {H:Hp} {Q:VK}:rEq (.str i) (.str j) H Q=Q (.bl (decide (i=j))) H:=by
 exact propext ⟨fun h=>by simpa using h.2,fun h=>⟨rfl,by simpa using h⟩⟩
theorem rNe_str {i j:Str} {H:Hp} {Q:VK}:rNe (.str i) (.str j) H Q=Q (.bl (!decide (i=j))) H:=by
 exact propext ⟨fun h=>by simpa using h.2,fun h=>⟨rfl,by simpa using h⟩⟩
theorem ex_bl {c:Bool} {Q:Bool->Prop}:(∃ k,V.bl c=V.bl k /\ Q k)=Q c:=by
 apply propext;simp
theorem ex_int {c:Int} {Q:Int->Prop}:(∃ k,V.int c=V.int k /\ Q k)=Q c:=by
 apply propext;simp
theorem ZAe {n:Nat} (h:n <= 1000):n <= sizeLine:=yBJ (ZBP h)
theorem ZAT {H:Hp} {p:Addr} (h:H p=none) (o:HO):Same H (upd H p o):=fun b u q=>by rw [ZAK (ZAD q h)];exact q
noncomputable def getF (K:W.Frag) (f:Str) (x:V) (H:Hp) (Q:VK):Prop:=∃ a C dx fs v,x=.ref a /\ H a=some (.ins C dx fs) /\ Cls K C /\ NoAttr K C f /\ fs.lookup f=some v /\ Q v H
theorem tFld_eq {K:W.Frag} {ta:TE} {f:Str} {σ:St} {H:Hp} {Q:VK}:tFld K ta f σ H Q=ta σ H (fun x H1=>getF K f x H1 Q):=rfl
theorem getF_of {K:W.Frag} {f:Str} {a C dx:Addr} {fs:List (Str×V)} {v:V} {H:Hp} {Q:VK} (h:H a=some (.ins C dx fs)) (cl:Cls K C) (n:NoAttr K C f) (l:fs.lookup f=some v) (q:Q v H):getF K f (.ref a) H Q:=⟨a,C,dx,fs,v,rfl,h,cl,n,l,q⟩
noncomputable def setF (K:W.Frag) (f:Str) (x y:V) (H:Hp) (Q:Hp->Prop):Prop:=∃ a C dx fs,x=.ref a /\ H a=some (.ins C dx fs) /\ Cls K C /\ NoAttr K C f /\ fs.length < 1000 /\ Q (upd H a (.ins C dx (putF f y fs)))
theorem sFld_eq {K:W.Frag} {ta tv:TE} {f:Str} {D:Ends} {σ:St} {H:Hp}:sFld K ta tv f D σ H=tv σ H (fun y H1=>ta σ H1 fun x H2=>setF K f x y H2 (D.nx σ)):=rfl
theorem setF_of {K:W.Frag} {f:Str} {a C dx:Addr} {fs:List (Str×V)} {y:V} {H:Hp} {Q:Hp->Prop} (h:H a=some (.ins C dx fs)) (cl:Cls K C) (n:NoAttr K C f) (l:fs.length < 1000) (q:Q (upd H a (.ins C dx (putF f y fs)))):setF K f (.ref a) y H Q:=⟨a,C,dx,fs,rfl,h,cl,n,l,q⟩
theorem ZAy {K:W.Frag} {p:Addr} {xs:List V} {i:Int} {v:V} {H:Hp} {Q:VK} (h:SqL K H p xs) (e:atI xs i=some v) (q:Q v H):rIxL K (.ref p) (.int i) H Q:=⟨p,xs,i,v,rfl,rfl,h,e,q⟩
theorem ZAk {K:W.Frag} {p:Addr} {xs:List V} {i:Int} {v:V} {H:Hp} {Q:VK} (h:SqT K H p xs) (e:atI xs i=some v) (q:Q v H):rIxT K (.ref p) (.int i) H Q:=⟨p,xs,i,v,rfl,rfl,h,e,q⟩
theorem ZAY {α:Type} {xs:List α} {i:Int} {v:α} (B:0 <= i) (h:xs[i.toNat]?=some v):atI xs i=some v:=by
 have q:=atI_nat h
 rwa [Int.toNat_of_nonneg B] at q
theorem ZDj {xs:List Int} {i:Int} {v:Int} (B:0 <= i) (h:xs[i.toNat]?=some v):atI (xs.map V.int) i=some (.int v):=ZAY B (by rw [yAT,h];rfl)
noncomputable def Nxt (P:Nat->List V->St->Hp->Prop) (n i:Nat) (ys:List V) (σ:St) (H:Hp):Prop:=∃ m',m' < n-i /\ m'=n-(i+1) /\ i+1 <= n /\ P (i+1) ys σ H
theorem Nxt.of {P:Nat->List V->St->Hp->Prop} {n i:Nat} {ys:List V} {σ:St} {H:Hp} (h:i < n) (p:P (i+1) ys σ H):Nxt P n i ys σ H:=⟨n-(i+1),by omega,rfl,h,p⟩
theorem comp_list {K:W.Frag} {a:Addr} {xs:List V} {g:TG} {tt:TT} {te:TE} {Q:VK} {σ0:St} {H:Hp} (P:Nat->List V->St->Hp->Prop) (U:P 0 [] σ0 H) (hl:∀ i ys σ H,i <= xs.length->P i ys σ H->SqL K H a xs /\ ys.length <= i) (hz:xs.length <= sizeLine)
  (hs:∀ i ys x σ H,i < xs.length->xs[i]?=some x->P i ys σ H->g x σ H fun B H2=>tt B H2 fun b O=>if b=true then te B O fun y H4=>Nxt P xs.length i (ys++[y]) B H4 else Nxt P xs.length i ys B O)
  (Z:∀ ys σ H,P xs.length ys σ H->∀ p,H p=none->Q (.ref p) (upd H p (.lst ys))) :
  ∃ W:Nat->Nat->List V->St->Hp->Prop,(∃ m,W 0 m [] σ0 H) /\ ∀ i m ys σ H,W i m ys σ H ->
   ((Itl K a).stop i H /\ ys.length <= sizeLine /\ ∀ p,H p=none->Q (.ref p) (upd H p (.lst ys))) ∨
   ((Itl K a).go i H /\ ys.length < sizeLine /\ ∀ x H',(Itl K a).yld i H x H'->g x σ H' fun B H2=>tt B H2 fun b O=>if b=true then te B O fun y H4=>∃ J,J < m /\ W (i+1) J (ys++[y]) B H4 else ∃ J,J < m /\ W (i+1) J ys B O):=by
 refine ⟨fun i m ys σ H=>m=xs.length-i /\ i <= xs.length /\ P i ys σ H,⟨xs.length,by simp,yAG _,U⟩,?_⟩
 rintro i m ys σ H ⟨rfl,hi,p⟩
 obtain ⟨q,ly⟩:=hl i ys σ H hi p
 by_cases hlt:i < xs.length
 .refine .inr ⟨⟨xs,xs[i],q,by simp [hlt]⟩,by omega,fun x H' y=>?_⟩
  obtain ⟨e,y⟩:=y
  subst e
  exact hs i ys x σ _ hlt (y xs q) p
 .have e:i=xs.length:=by omega
  subst e
  exact .inl ⟨⟨xs,q,yAA _⟩,by omega,Z ys σ H p⟩
theorem comp_range {lo:Int} {n:Nat} {g:TG} {tt:TT} {te:TE} {Q:VK} {σ0:St} {H:Hp} (P:Nat->List V->St->Hp->Prop) (U:P 0 [] σ0 H) (hl:∀ i ys σ H,P i ys σ H->ys.length <= i) (hz:n <= sizeLine)
  (hs:∀ i ys σ H,i < n->P i ys σ H->g (.int (lo+i)) σ H fun B H2=>tt B H2 fun b O=>if b=true then te B O fun y H4=>Nxt P n i (ys++[y]) B H4 else Nxt P n i ys B O)
  (Z:∀ ys σ H,P n ys σ H->∀ p,H p=none->Q (.ref p) (upd H p (.lst ys))) :
  ∃ W:Nat->Nat->List V->St->Hp->Prop,(∃ m,W 0 m [] σ0 H) /\ ∀ i m ys σ H,W i m ys σ H ->
   ((Itr lo n).stop i H /\ ys.length <= sizeLine /\ ∀ p,H p=none->Q (.ref p) (upd H p (.lst ys))) ∨
   ((Itr lo n).go i H /\ ys.length < sizeLine /\ ∀ x H',(Itr lo n).yld i H x H'->g x σ H' fun B H2=>tt B H2 fun b O=>if b=true then te B O fun y H4=>∃ J,J < m /\ W (i+1) J (ys++[y]) B H4 else ∃ J,J < m /\ W (i+1) J ys B O):=by
 refine ⟨fun i m ys σ H=>m=n-i /\ i <= n /\ P i ys σ H,⟨n,by simp,yAG _,U⟩,?_⟩
 rintro i m ys σ H ⟨rfl,hi,p⟩
 have ly:=hl i ys σ H p
 by_cases hlt:i < n
 .refine .inr ⟨hlt,by omega,fun x H' y=>?_⟩
  obtain ⟨e,y⟩:=y
  subst e y
  exact hs i ys σ _ hlt p
 .have e:i=n:=by omega
  subst e
  exact .inl ⟨yAA _,by omega,Z ys σ H p⟩
theorem Same.upd {H H':Hp} {p:Addr} {o:HO} (e:Same H H') (h:H p=none):Same H (upd H' p o):=fun b u q=>by rw [ZAK (ZAD q h)];exact e b u q
theorem Same.new {H H':Hp} {p:Addr} {o:HO} (e:Same H H') (h:H' p=none):Same H (L2.upd H' p o):=e.upd (e.free h)
theorem ZCf (ns:List Int) (lo hi:Option Int):cutV (ns.map V.int) lo hi=(((ns.drop (HT.sIx ns.length 0 lo)).take (HT.sIx ns.length ns.length hi-HT.sIx ns.length 0 lo)).map V.int):=by
 unfold cutV
 rw [yAD,List.map_take,List.map_drop]
theorem get_ints {ns:List Int} {i:Nat} {x:V} (h:(ns.map V.int)[i]?=some x):∃ n,ns[i]?=some n /\ x=.int n:=by
 rw [yAT] at h
 cases e:ns[i]? with
 | none=>rw [e] at h;cases h
 | some n=>rw [e] at h;exact ⟨n,rfl,(Option.some.inj h).symm⟩
theorem ixN_of {n:Nat} {i:Int} (B:0 <= i) (h:i < n):ixN n i=some i.toNat:=by unfold ixN;rw [if_pos B,if_pos h]
theorem ZDq {K:W.Frag} {a:Addr} {xs:List V} {lo hi:Option Int} {H:Hp} {Q:VK} (h:SqL K H a xs) (q:∀ p,H p=none->Q (.ref p) (upd H p (.lst (cutV xs lo hi)))):rSlL K (.ref a) lo hi H Q:=⟨a,xs,rfl,h,q⟩
noncomputable def forL (K:W.Frag) (g:TG) (tb:TS) (D:Ends) (σ:St) (x:V) (H1:Hp):Prop:=∃ a,x=.ref a /\ (∃ xs,SqL K H1 a xs) /\ ∃ W:Nat->Nat->St->Hp->Prop,(∃ m,W 0 m σ H1) /\ ∀ i m σ H,W i m σ H ->
 ((Itl K a).stop i H /\ D.nx σ H)∨((Itl K a).go i H /\ ∃ N:St->Hp->Prop,(∀ σ' H',N σ' H'->∃ m',m' < m /\ W (i+1) m' σ' H') /\ ∀ x H',(Itl K a).yld i H x H'->g x σ H' fun σ2 H2=>tb { D with nx:=N,ct:=N,bk:=D.nx } σ2 H2)
theorem tForL_eq {K:W.Frag} {tl:TE} {g:TG} {tb:TS} {D:Ends} {σ:St} {H:Hp}:tFor (ZFC K tl) g tb D σ H=tl σ H (fun x H1=>forL K g tb D σ x H1):=rfl
theorem forL_of {K:W.Frag} {g:TG} {tb:TS} {D:Ends} {σ:St} {H:Hp} {a:Addr} {xs:List V} (h:SqL K H a xs) (B:Nat->St->Hp->Prop) (O:B 0 σ H) (hl:∀ i σ H,i <= xs.length->B i σ H->SqL K H a xs)
  (hs:∀ i x σ H,xs[i]?=some x->B i σ H->g x σ H fun J H2=>tb { D with nx:=B (i+1),ct:=B (i+1),bk:=D.nx } J H2) (U:∀ σ H,B xs.length σ H->D.nx σ H):forL K g tb D σ (.ref a) H :=
 ⟨a,rfl,⟨xs,h⟩,for_list B O hl hs U⟩
noncomputable def forR (lo:Int) (g:TG) (tb:TS) (D:Ends) (σ:St) (n:Nat) (H1:Hp):Prop:=∃ W:Nat->Nat->St->Hp->Prop,(∃ m,W 0 m σ H1) /\ ∀ i m σ H,W i m σ H ->
 ((Itr lo n).stop i H /\ D.nx σ H)∨((Itr lo n).go i H /\ ∃ N:St->Hp->Prop,(∀ σ' H',N σ' H'->∃ m',m' < m /\ W (i+1) m' σ' H') /\ ∀ x H',(Itr lo n).yld i H x H'->g x σ H' fun σ2 H2=>tb { D with nx:=N,ct:=N,bk:=D.nx } σ2 H2)
noncomputable def forR1 (g:TG) (tb:TS) (D:Ends) (σ:St) (x:V) (H1:Hp):Prop:=∃ j:Int,[x]=[.int j] /\ -(2 ^ 62) <= j /\ j < 2 ^ 62 /\ forR 0 g tb D σ j.toNat H1
noncomputable def forR2 (g:TG) (tb:TS) (D:Ends) (σ:St) (x y:V) (H1:Hp):Prop:=∃ i j:Int,[x,y]=[.int i,.int j] /\ (-(2 ^ 62) <= i /\ i < 2 ^ 62 /\ -(2 ^ 62) <= j /\ j < 2 ^ 62) /\ forR i g tb D σ (j-i).toNat H1
theorem tForR1_eq {t:TE} {g:TG} {tb:TS} {D:Ends} {σ:St} {H:Hp}:tFor (ZFB (ZCI t tNil)) g tb D σ H=t σ H (fun x H1=>forR1 g tb D σ x H1):=rfl
theorem tForR2_eq {t u:TE} {g:TG} {tb:TS} {D:Ends} {σ:St} {H:Hp}:tFor (ZFA (ZCI t (ZCI u tNil))) g tb D σ H=t σ H (fun x H1=>u σ H1 fun y H2=>forR2 g tb D σ x y H2):=rfl
theorem ZED {lo:Int} {n:Nat} {g:TG} {tb:TS} {D:Ends} {σ:St} {H:Hp} (B:Nat->St->Hp->Prop) (O:B 0 σ H)
  (hs:∀ i σ H,i < n->B i σ H->g (.int (lo+i)) σ H fun J H2=>tb { D with nx:=B (i+1),ct:=B (i+1),bk:=D.nx } J H2) (U:∀ σ H,B n σ H->D.nx σ H):forR lo g tb D σ n H:=for_range B O hs U
theorem forR1_of {j:Int} {g:TG} {tb:TS} {D:Ends} {σ:St} {H:Hp} (h:-1000 <= j /\ j <= 1000) (q:forR 0 g tb D σ j.toNat H):forR1 g tb D σ (.int j) H:=⟨j,rfl,by omega,by omega,q⟩
theorem forR2_of {i j:Int} {g:TG} {tb:TS} {D:Ends} {σ:St} {H:Hp} (h:-1000 <= i /\ i <= 1000 /\ -1000 <= j /\ j <= 1000) (q:forR i g tb D σ (j-i).toNat H):forR2 g tb D σ (.int i) (.int j) H:=⟨i,j,rfl,by omega,q⟩
noncomputable def ZFE (K:W.Frag) (g:TG) (tt:TT) (te:TE) (σ0:St) (Q:VK) (x:V) (H1:Hp):Prop:=∃ a,x=.ref a /\ (∃ xs,SqL K H1 a xs) /\ ∃ W:Nat->Nat->List V->St->Hp->Prop,(∃ m,W 0 m [] σ0 H1) /\ ∀ i m ys σ H,W i m ys σ H ->
 ((Itl K a).stop i H /\ ys.length <= sizeLine /\ ∀ p,H p=none->Q (.ref p) (upd H p (.lst ys))) ∨
 ((Itl K a).go i H /\ ys.length < sizeLine /\ ∀ x H',(Itl K a).yld i H x H'->g x σ H' fun σ2 H2=>tt σ2 H2 fun b H3=>if b=true then te σ2 H3 fun y H4=>∃ m',m' < m /\ W (i+1) m' (ys++[y]) σ2 H4 else ∃ m',m' < m /\ W (i+1) m' ys σ2 H3)
theorem tCompL_eq {k:Nat} {js:List Nat} {K:W.Frag} {tl:TE} {g:TG} {tt:TT} {te:TE} {σ:St} {H:Hp} {Q:VK}:ZDl k js (ZFC K tl) g tt te σ H Q=tl σ H (fun x H1=>ZFE K g tt te (up k js σ) Q x H1):=rfl
theorem ZDg {K:W.Frag} {a:Addr} {xs:List V} {g:TG} {tt:TT} {te:TE} {Q:VK} {σ0:St} {H:Hp} (h:SqL K H a xs) (O:xs.length <= 1000) (P:Nat->List V->St->Hp->Prop) (U:P 0 [] σ0 H) (hl:∀ i ys σ H,i <= xs.length->P i ys σ H->SqL K H a xs /\ ys.length <= i)
  (hs:∀ i ys x σ H,i < xs.length->xs[i]?=some x->P i ys σ H->g x σ H fun B H2=>tt B H2 fun b J=>if b=true then te B J fun y H4=>Nxt P xs.length i (ys++[y]) B H4 else Nxt P xs.length i ys B J)
  (Z:∀ ys σ H,P xs.length ys σ H->∀ p,H p=none->Q (.ref p) (upd H p (.lst ys))):ZFE K g tt te σ0 Q (.ref a) H:=⟨a,rfl,⟨xs,h⟩,comp_list P U hl (ZAe O) hs Z⟩
noncomputable def compR (lo:Int) (g:TG) (tt:TT) (te:TE) (σ0:St) (Q:VK) (n:Nat) (H1:Hp):Prop:=∃ W:Nat->Nat->List V->St->Hp->Prop,(∃ m,W 0 m [] σ0 H1) /\ ∀ i m ys σ H,W i m ys σ H ->
 ((Itr lo n).stop i H /\ ys.length <= sizeLine /\ ∀ p,H p=none->Q (.ref p) (upd H p (.lst ys))) ∨
 ((Itr lo n).go i H /\ ys.length < sizeLine /\ ∀ x H',(Itr lo n).yld i H x H'->g x σ H' fun σ2 H2=>tt σ2 H2 fun b H3=>if b=true then te σ2 H3 fun y H4=>∃ m',m' < m /\ W (i+1) m' (ys++[y]) σ2 H4 else ∃ m',m' < m /\ W (i+1) m' ys σ2 H3)
noncomputable def compR1 (g:TG) (tt:TT) (te:TE) (σ0:St) (Q:VK) (x:V) (H1:Hp):Prop:=∃ j:Int,[x]=[.int j] /\ -(2 ^ 62) <= j /\ j < 2 ^ 62 /\ compR 0 g tt te σ0 Q j.toNat H1
theorem tCompR1_eq {k:Nat} {js:List Nat} {t:TE} {g:TG} {tt:TT} {te:TE} {σ:St} {H:Hp} {Q:VK}:ZDl k js (ZFB (ZCI t tNil)) g tt te σ H Q=t σ H (fun x H1=>compR1 g tt te (up k js σ) Q x H1):=rfl
theorem compR1_of {j:Int} {g:TG} {tt:TT} {te:TE} {Q:VK} {σ0:St} {H:Hp} (h:-1000 <= j /\ j <= 1000) (P:Nat->List V->St->Hp->Prop) (O:P 0 [] σ0 H) (hl:∀ i ys σ H,P i ys σ H->ys.length <= i)
  (hs:∀ i ys σ H,i < j.toNat->P i ys σ H->g (.int (0+i)) σ H fun B H2=>tt B H2 fun b J=>if b=true then te B J fun y H4=>Nxt P j.toNat i (ys++[y]) B H4 else Nxt P j.toNat i ys B J)
  (U:∀ ys σ H,P j.toNat ys σ H->∀ p,H p=none->Q (.ref p) (upd H p (.lst ys))):compR1 g tt te σ0 Q (.int j) H:=⟨j,rfl,by omega,by omega,comp_range P O hl (ZAe (by omega)) hs U⟩
noncomputable def CDivB (i j:Int):Prop:=0 < j /\ j < 2 ^ 250
section
variable {X:Cx}
theorem ZCx:OpR X (binaryOp .FloorDiv) (rI CDivB fun i j=>.int (i / j)):=opI fun i j _ _ _ _ _ hc q=>by
 have h1:(0:Int) < j:=hc.1
 have h2:j < 2 ^ 250:=hc.2
 have h3:j.natAbs < 2 ^ 250:=by
  have e:(j.natAbs:Int)=j:=Int.natAbs_of_nonneg (by omega)
  have J:((2 ^ 250:Nat):Int)=2 ^ 250:=by rfl
  omega
 have B:j.natAbs.log2 < 250:=(Nat.log2_lt (by omega)).mpr h3
 exact floordiv_int (by omega) (by rw [Int.fdiv_eq_ediv_of_nonneg i (by omega)];exact q) (.inl (PyProof.noPylong_of_log2 (by omega)))
end
theorem gCons_eq {t:TG} {u:TGs} {v:V} {r:List V} {σ:St} {H:Hp} {Q:St->Hp->Prop}:ZFD t u (v::r) σ H Q=t v σ H (fun B H'=>u r B H' Q):=by
 apply propext;unfold ZFD;constructor
 .rintro ⟨J,r',e,q⟩;cases e;exact q
 .exact fun q=>⟨v,r,rfl,q⟩
theorem gNil_eq {σ:St} {H:Hp} {Q:St->Hp->Prop}:gNil [] σ H Q=Q σ H:=by
 apply propext;unfold gNil;simp
theorem gTup_of {K:W.Frag} {n:Nat} {t:TGs} {a:Addr} {xs:List V} {σ:St} {H:Hp} {Q:St->Hp->Prop} (h:SqT K H a xs) (l:xs.length=n) (q:t xs σ H Q):gTup K n t (.ref a) σ H Q:=⟨a,xs,rfl,h,l,q⟩
section
variable {X:Cx} {tg l e o:Expr} {es:List Expr} {tl te to:TE} {t:TA} {pos apos cpos:Pos} {f:Str}
theorem ix_listK (K:W.Frag) (h:X.K=K:=by rfl):IxR X (rIxL K):=h ▸ ZAi
theorem ZD9 (K:W.Frag) (h:X.K=K:=by rfl):IxR X (rIxT K):=h ▸ ZAp
theorem pg_tupK (K:W.Frag) {k:Nat} {B:TGs} {n:Nat} (hc:X.calm=true) (O:PGs X es B)
  (hn:(assignEach es X.env).length=n:=by rfl) (J:(assignEach es X.env).findIdx? (·.1)=none:=by rfl) (h:X.K=K:=by rfl):PG X (.Tuple es k pos) (gTup K n B):=h ▸ pg_tup hc O hn J
end
section
variable {X:Cx}
noncomputable def rBits:V->List V->Hp->VK->Prop:=fun x vs H Q=>∃ i,x=.int i /\ vs=[] /\ Q (.int (Builtin.Int.intBits i:Nat)) H
theorem mt_bitlen:MtR X "int.bit_length" rBits:=by
 intro pins s σ H x vs v us Q I J B h
 obtain ⟨i,rfl,rfl,q⟩:=h
 obtain ⟨t,rfl⟩:=J
 cases B.zero
 refine call_gives F.slot_int_bit_length (typeIs_int s i t) F.entry_int_bit_length (F.args_int_bit_length_1 _) (PySem.AutoIntG2.int_bit_length_int_0 i t) ?_
 exact ⟨.int (Builtin.Int.intBits i:Nat),_,I.tok _,⟨_,rfl⟩,q⟩
theorem bits_nat (n:Nat) (h:n≠0):Builtin.Int.intBits (n:Int)=n.log2+1:=by
 unfold Builtin.Int.intBits
 rw [if_neg (by simpa using h)]
 rfl
theorem tAug_eq {i:Nat} {te:TE} {ti:TIp} {D:Ends} {σ:St} {H:Hp}:tAug i te ti D σ H=tVar i σ H (fun x H0=>te σ H0 fun y H1=>ti x y H1 fun z H2=>D.nx (σ.set i (some z)) H2):=rfl
theorem ipI_int {f:Int->Int->Int} {i j:Int} {H:Hp} {Q:VK}:ipI f (.int i) (.int j) H Q=Q (.int (f i j)) H:=by
 refine propext ⟨?_,fun q=>⟨i,j,rfl,rfl,q⟩⟩
 rintro ⟨a,b,B,J,q⟩
 cases B;cases J;exact q
theorem cx_K {CX:CXT} {P:Program} {w:World} {K:W.Frag} {mg:Str->Option Value} {base:Heap} {N:List Str} {qual:Str} {scope:Scope} {f:Addr} {B:Value} {A:Around} {outer:List Env} {s:Shared} {H:Hp} {E:XK}:(cxOf CX P w K mg base N qual scope f B A outer s H E).K=K:=rfl
noncomputable def wBody (W:Nat->St->Hp->Prop) (m:Nat) (tb:TS) (D:Ends) (σ:St) (H1:Hp):Prop:=∃ N:St->Hp->Prop,(∀ σ' H',N σ' H'->∃ m',m' < m /\ W m' σ' H') /\ tb { D with nx:=N,ct:=N,bk:=D.nx } σ H1
theorem ZBM {W:Nat->St->Hp->Prop} {m:Nat} {tb:TS} {D:Ends} {σ:St} {H1:Hp} (h:tb { D with nx:=fun B H'=>∃ J,J < m /\ W J B H',ct:=fun B H'=>∃ J,J < m /\ W J B H',bk:=D.nx } σ H1):wBody W m tb D σ H1:=⟨_,fun _ _ q=>q,h⟩
theorem ZBL {c:TT} {tb:TS} {D:Ends} {σ:St} {H:Hp} (W:Nat->St->Hp->Prop) (B:∃ m,W m σ H) (hs:∀ m σ H,W m σ H->c σ H fun b H1=>if b=true then wBody W m tb D σ H1 else D.nx σ H1):tWhile c tb D σ H:=⟨W,B,hs⟩
noncomputable def insV (xs:List V) (i:Int) (y:V):List V:=let k:=if i < 0 then (i+(xs.length:Int)).toNat else min i.toNat xs.length;xs.take k++y::xs.drop k
noncomputable def rInsert:V->List V->Hp->VK->Prop:=fun x vs H Q=>∃ l xs i y,x=.ref l /\ vs=[.int i,y] /\ H l=some (.lst xs) /\ xs.length < sizeLine /\ (-(2 ^ 62) <= i /\ i < 2 ^ 62) /\ Q .non (upd H l (.lst (insV xs i y)))
theorem ins_arr (its:List Value) (k:Nat) (u:Value) (B:k <= its.length):(its.toArray.extract 0 k).push u++its.toArray.extract k=(its.take k++u::its.drop k).toArray:=by
 apply Array.ext'
 simp
 exact yCF (by rw [yBA];exact yAA _)
theorem insV_length (xs:List V) (i:Int) (y:V):(insV xs i y).length=xs.length+1:=by
 unfold insV
 dsimp only
 rw [yAB,yAH,yAP,yBA]
 omega
theorem Vals.ins {xs:List V} {us:List Value} {y:V} {u:Value} (r:Vals xs us) (q:RelV y u) (k:Nat):Vals (xs.take k++y::xs.drop k) (us.take k++u::us.drop k):=(r.take k).append (.cons q (r.drop k))
theorem mt_insert:MtM X "list.insert" rInsert:=by
 intro pins s σ H x vs v us Q I rx rv h
 obtain ⟨l,xs,i,y,rfl,rfl,U,hz,hi,q⟩:=h
 cases rx
 obtain ⟨u,B,rfl,ru,J⟩:=rv.two
 obtain ⟨t,rfl⟩:=ru
 obtain ⟨z,its,n,r,hl,e⟩:=I.lstM U
 have O:¬(!Builtin.List.listFitsIndex i)=true:=by
  unfold Builtin.List.listFitsIndex
  have:(decide (-(2 ^ 63:Int) <= i) && decide (i < 2 ^ 63))=true:=by
   rw [Bool.and_eq_true];exact ⟨decide_eq_true (by omega),decide_eq_true (by omega)⟩
  simpa using this
 refine call_meets F.slot_list_insert ⟨_,e,rfl⟩ F.entry_list_insert (F.args_list_insert_3 _ _ _) (PySem.AutoListH.list_insert_list_int_val_1 l its.toArray n i t B O (by rw [yAR];omega)) ⟨e,?_⟩
 have Z:(if i < 0 then (i+(its.length:Int)).toNat else min i.toNat its.length) <= its.length:=by split <;> omega
 refine ⟨.non,_,I.lset (its':=its.take (if i < 0 then (i+(its.length:Int)).toNat else min i.toNat its.length)++B::its.drop (if i < 0 then (i+(its.length:Int)).toNat else min i.toNat its.length)) U e ?_ (ys:=insV xs i y) ?_ ?_,rfl,q⟩
 .show (its.toArray.extract 0 _).push B++its.toArray.extract _=_
  rw [yAR]
  exact ins_arr its _ B Z
 .unfold insV
  rw [hl]
  exact r.ins J _
 .rw [insV_length];omega
end
structure Enc {α:Type} [DecidableEq α] (e:α->PyData) (n:Nat):Prop where
 eq:∀ a b,PyData.eqv (e a) (e b)=decide (a=b)
 lay:∀ a,(e a).canLay0=true
 dep:∀ a,(e a).depth <= n
theorem Enc.int:Enc PyData.int 0:=⟨fun a b=>by unfold PyData.eqv;rw [Bool.eq_iff_iff];simp,fun a=>by unfold PyData.canLay0;rfl,fun a=>by unfold PyData.depth;exact yAA _⟩
section
variable {α β γ:Type} [DecidableEq α] [DecidableEq β] [DecidableEq γ] {e:α->PyData} {f:β->PyData} {g:γ->PyData} {n m k:Nat}
theorem Enc.all (h:Enc e n):∀ xs ys:List α,PyData.eqvAll (xs.map e) (ys.map e)=decide (xs=ys)
 | [],[]=>by simp [PyData.eqvAll]
 | x::xs,[]=>by simp [PyData.eqvAll]
 | [],y::ys=>by simp [PyData.eqvAll]
 | x::xs,y::ys=>by
  rw [yBD,yBD]
  unfold PyData.eqvAll
  rw [h.eq,h.all xs ys,<- Bool.decide_and]
  exact decide_eq_decide.mpr (by rw [List.cons.injEq])
theorem Enc.layAll (h:Enc e n):∀ xs:List α,PyData.canLayAll0 (xs.map e)=true
 | []=>by simp [PyData.canLayAll0]
 | x::xs=>by rw [yBD];unfold PyData.canLayAll0;rw [h.lay,h.layAll xs];rfl
theorem Enc.depAll (h:Enc e n):∀ xs:List α,PyData.depthAll (xs.map e) <= n
 | []=>by simp [PyData.depthAll]
 | x::xs=>by
  rw [yBD];unfold PyData.depthAll
  have a:=h.dep x
  have b:=h.depAll xs
  omega
theorem Enc.list (h:Enc e n):Enc (fun xs:List α=>PyData.list (xs.map e)) (n+1) :=
 ⟨fun a b=>by unfold PyData.eqv;exact h.all a b,fun a=>by unfold PyData.canLay0;exact h.layAll a,fun a=>by unfold PyData.depth;have:=h.depAll a;omega⟩
theorem Enc.two (h:Enc e n) (h2:Enc f m):Enc (fun p:α×β=>PyData.tuple [e p.1,f p.2]) (max n m+1) where
 eq:=fun a b=>by
  unfold PyData.eqv PyData.eqvAll PyData.eqvAll PyData.eqvAll
  rw [h.eq,h2.eq,Bool.and_true,<- Bool.decide_and]
  exact decide_eq_decide.mpr (by rw [Prod.ext_iff])
 lay:=fun a=>by unfold PyData.canLay0 PyData.canLayAll0 PyData.canLayAll0 PyData.canLayAll0;rw [h.lay,h2.lay];rfl
 dep:=fun a=>by
  unfold PyData.depth PyData.depthAll PyData.depthAll PyData.depthAll
  have:=h.dep a.1
  have:=h2.dep a.2
  omega
theorem ZEL {K:W.Frag} {H:Hp} {x y:V} {a b:α} {Q:VK} (h:Enc e n) (hn:n <= 64) (dx:Dp K H (e a) x) (B:Dp K H (e b) y) (q:Q (.bl (!decide (a=b))) H):rNeD K x y H Q :=
 ⟨_,_,dx,B,h.lay a,h.lay b,yAL (h.dep a) hn,by rw [h.eq];exact q⟩
end
theorem ZCp {K:W.Frag} {H:Hp} {a:Addr} {xs:List Int} (h:SqL K H a (xs.map V.int)):Dp K H (.list (xs.map PyData.int)) (.ref a):=ZEl h (DpAll.ints xs)
section
variable {K:W.Frag} {H:Hp} {R:Bool->Prop}
end
structure FunD (K:W.Frag) (x qual:Str) (st:Stmt) (f:Addr) (fd:FuncData) (dv:List Value):Prop where
 ex:∃ (oc:Value) (od:Option Addr) (T:Addr) (kV doc pm:Value) (an:Option Addr) (cdv ct:Value) (osl:Array (Option Value)),
  fd=W.fnOf x qual (ZAO st) (ZAN st) (ZAC st) (.ref T) kV doc pm an cdv ct /\ K.lookup f=some ⟨oc,od,.func fd,osl⟩ /\ W.codeIn K cdv qual=true /\ ∃ o n,K.lookup T=some o /\ o.data=.seq dv.toArray n
 kp:W.keepIn K (.ref f)=true
section
variable {P:Program} {w:World} {K:W.Frag} {mg:Str->Option Value} {base:Heap}
theorem FunD.ok {x qual:Str} {st:Stmt} {f:Addr} {fd:FuncData} {dv:List Value} {N ps:List Str} {k:Nat} {sp:Sp} (F:FunD K x qual st f fd dv) (S:FnScope N ps (ZAC st)) (len:∀ vs H Q E,sp vs H Q E->vs.length=ps.length)
  (J:∀ (B:Value) (A:Around) (outer:List Env) (s:Shared) (H:Hp) (vs:List V) (Q:VK) (E:XK),Room k (A.deeper (envOfC qual (ZAC st) s.heap.objs.size f B))->sp vs H Q E ->
   ∃ t,PSs (cxOf CX0 P w K mg base N qual (ZAC st) f B A outer s H E).nox (ZAN st) t /\ t { nx:=fun _ H'=>Q .non H',rt:=Q } (start N vs) H):FnOk P w K mg base CX0 (k+1) f fd ps sp:=by
 obtain ⟨oc,od,T,kV,a1,pm,an,B,ct,a0,rfl,lk,U,_⟩:=F.ex
 refine fn_of lk U S len fun A outer s H vs Q E Z O=>?_
 obtain ⟨t,h,q⟩:=J B A outer s H vs Q E Z O
 exact ⟨t,h.nox,q⟩
theorem FunD.binds {x qual:Str} {st:Stmt} {f:Addr} {fd:FuncData} {dv ds:List Value} {ps:List Str} (F:FunD K x qual st f fd dv)
  (h:∀ (T:Addr) (kV J O:Value) (U:Option Addr) (B ct:Value) (us:List Value),(us++ds).length=ps.length->∃ k,bindArgs (W.fnOf x qual (ZAO st) (ZAN st) (ZAC st) (.ref T) kV J O U B ct) ⟨us,[]⟩=seqItems? (.ref T) >>= k /\ k (some dv.toArray)=pure (ps.zip (us++ds))):Binds K fd ps ds:=by
 obtain ⟨oc,od,T,kV,J,O,U,B,ct,a0,rfl,lk,a1,o,n,hT,ho⟩:=F.ex
 intro s us Z hl
 obtain ⟨k,h1,h2⟩:=h T kV J O U B ct us hl
 exact PySem.W.binds_K Z rfl hT ho h1 h2
theorem ZDC {x qual:Str} {st:Stmt} {f T:Addr} {oc:Value} {od an:Option Addr} {O:Array (Option Value)} {kV J Z B ct:Value} {dv:List Value} {a1:Value} {a0:Option Addr} {nT:Nat} {U:Array (Option Value)} (l:K.lookup f=some ⟨oc,od,.func (W.fnOf x qual (ZAO st) (ZAN st) (ZAC st) (.ref T) kV J Z an B ct),O⟩)
  (c:W.codeIn K B qual=true) (k:W.keepIn K (.ref f)=true) (t:K.lookup T=some ⟨a1,a0,.seq dv.toArray nT,U⟩):FunD K x qual st f (W.fnOf x qual (ZAO st) (ZAN st) (ZAC st) (.ref T) kV J Z an B ct) dv:=⟨⟨oc,od,T,kV,J,Z,an,B,ct,O,rfl,l,c,_,nT,t,rfl⟩,k⟩
end
structure FnD (P:Program) (w:World) (K:W.Frag) (mg:Str->Option Value) (base:Heap) (CX:CXT) (x:Str) (k:Nat) (ps:List Str) (sp:Sp) (dvs:List V):Prop where
 ex:∃ f fd ds,FnOk P w K mg base CX k f fd ps sp /\ Binds K fd ps ds /\ Vals dvs ds /\ W.keepIn K (.ref f)=true /\ mg x=some (.ref f)
structure KlD (P:Program) (w:World) (K:W.Frag) (mg:Str->Option Value) (base:Heap) (CX:CXT) (x:Str) (C:Addr) (k:Nat) (ps:List Str) (sp:Sp) (dvs:List V):Prop where
 mgC:mg x=some (.ref C)
 ex:∃ f fd ds,FnOk P w K mg base CX k f fd ps sp /\ Binds K fd ps ds /\ Vals dvs ds /\ Mk K C f
section
variable {X:Cx} {CX:CXT} {k:Nat} {ps:List Str} {sp:Sp} {dvs:List V} {E:XK} {x m:Str} {C:Addr} {p pos apos:Pos} {e o:Expr} {es:List Expr} {ta:TE} {t:TA}
theorem pe_fnD (F:FnD X.prog X.w X.K X.mg X.base CX x k ps sp dvs) (U:Room k X.A) (hg:Gl X x) (hx:ZBp CX X E) (ha:PA X (e::es) t) (B:(x == ("__debug__":Str))=false:=by decide) (O:starEach (e::es) X.env=(false,eval e X.env)::starEach es X.env:=by rfl) (J:(backTo pos (starEach es X.env)).any (·.1)=false:=by rfl) :
  PE X (.Call (.Name x p) (e::es) [] pos) (ZEY sp dvs E t):=by
 obtain ⟨f,fd,ds,h1,h2,hv,h3,Z⟩:=F.ex
 exact pe_call h1 U hg Z h3 h2 hv hx ha B O J
theorem ZEd (F:KlD X.prog X.w X.K X.mg X.base CX x C k ps sp dvs) (U:Room (k+1) X.A) (Z:Gl X x) (hx:ZBp CX X E) (ha:PA X (e::es) t) (B:(x == ("__debug__":Str))=false:=by decide) (O:starEach (e::es) X.env=(false,eval e X.env)::starEach es X.env:=by rfl) (J:(backTo pos (starEach es X.env)).any (·.1)=false:=by rfl) :
  PE X (.Call (.Name x p) (e::es) [] pos) (ZEW C sp dvs E t):=by
 obtain ⟨f,fd,ds,h1,h2,hv,h3⟩:=F.ex
 exact pe_make h3 h1 U Z F.mgC h2 hv hx ha B O J
end
section
variable {X:Cx}
theorem ZC4 (ns:List Int):∀ n,n <= ns.length->preSum (fun i=>ns.getD i 0) n=(ns.take n).sum
 | 0,_=>by simp [preSum]
 | n+1,h=>by
  show preSum (fun i=>ns.getD i 0) n+ns.getD n 0=_
  rw [ZC4 ns n (by omega),List.take_succ]
  rw [yBH,yAJ (show n < ns.length by omega),List.sum_append]
  simp
noncomputable def SumOk (ns:List Int):Prop:=ns.length <= 1000 /\ ∀ x∈ns,-1000000000 <= x /\ x <= 1000000000
theorem sum_bound:∀ (ns:List Int),(∀ x∈ns,-1000000000 <= x /\ x <= 1000000000)->-(ns.length * 1000000000:Int) <= ns.sum /\ ns.sum <= ns.length * 1000000000
 | [],_=>by simp
 | x::r,h=>by
  have a:=h x yAF
  have b:=sum_bound r fun y B=>h y (yAC _ B)
  rw [List.sum_cons,yAH]
  omega
theorem call_sum (hc:X.calm=true):ZCt X (.builtin "sum") (fun xs H Q=>∃ (p:Addr) (ns:List Int),xs=[.ref p] /\ SqL X.K H p (ns.map V.int) /\ SumOk ns /\ Q (.int ns.sum) H):=by
 intro pins s σ H xs us Q I r h
 obtain ⟨p,ns,rfl,hq,hs,q⟩:=h
 obtain ⟨u,rfl,rx⟩:=ZDE r
 cases rx
 obtain ⟨its,r',pl,hz⟩:=I.list hq
 have B:=r'.length
 rw [yAD] at B
 have hh:X.A.handled=none:=I.ok.hd hc
 have hl:=pl.isList
 have U:p < s.heap.objs.size:=by obtain ⟨_,e,_⟩:=hl;exact Heap.lt_size e
 refine call_sum_walk (wpAny_pyIter_list hl ⟨s.heap.objs.size,_,_,_,_,_,fun i=>ns.getD i 0,rfl,Walks.list (A:=X.A.in1) hh s.heap.objs.size p (yAM U) its.toArray,⟨⟨_,Heap.get?_push_size _ rfl,rfl,rfl⟩,hl.push _⟩,fun b Z=>?_,fun i v hP=>?_,fun j hj=>?_,fun h' tk t' hk=>?_⟩)
 .have a0:b=s.heap.objs.size∨b=p:=by simpa using Z
  show b < (s.heap.push _).objs.size
  rw [Heap.size_push]
  rcases a0 with rfl | rfl
  .exact yBP _
  .exact Nat.lt_succ_of_lt U
 .have O:its[i]?=some v:=by simpa using hP
  have hi:i < its.length:=(yAI.mp O).1
  obtain ⟨b,Z⟩:∃ b,ns[i]?=some b:=⟨_,yAJ (by omega)⟩
  obtain ⟨u,hu,ru⟩:=r'.get (i:=i) (x:=.int b) (by rw [yAT,Z];rfl)
  rw [O] at hu
  cases hu
  obtain ⟨t,rfl⟩:=ru
  refine ⟨t,?_⟩
  show _=Value.int (ns.getD i 0) t
  rw [yBH,Z]
  rfl
 .have J:j < ns.length:=by simp at hj;omega
  have a1:ns.getD j 0∈ns:=by
   rw [yBH,yAJ J]
   exact List.getElem_mem J
  have b1:=hs.2 _ a1
  have b2:=sum_bound (ns.take (j+1)) fun y hy=>hs.2 y (List.mem_of_mem_take hy)
  have b3:(ns.take (j+1)).length <= 1000:=by rw [yAP];have:=hs.1;omega
  rw [ZC4 ns (j+1) J]
  show (-(2 ^ 63) <= ns.getD j 0 /\ ns.getD j 0 < 2 ^ 63) /\ (-(2 ^ 63) <= (ns.take (j+1)).sum /\ (ns.take (j+1)).sum < 2 ^ 63)
  refine ⟨⟨by omega,by omega⟩,?_⟩
  omega
 .refine ⟨.int ns.sum,H,I.kept (t':=tk) (fun b o e=>hk b o ?_ (Heap.get?_push_of_some _ e)),⟨t',?_⟩,q⟩
  .intro z
   have:b=s.heap.objs.size:=by simpa using z
   exact absurd (Heap.lt_size e) (by rw [this];exact yBQ _)
  .have:its.toArray.size=ns.length:=by simp [B]
   rw [this,ZC4 ns ns.length (yAA _),List.take_length]
theorem rng_ok {P:Program} {w:World} {H:Hp} {h:Heap} {a:Addr} {lo hi:Int} {t u v:Tok} (e:h.get? a=some { cls:=.type "range",data:=.fields #[.int lo t,.int hi u,.int 1 v] }):ObjOk P w H h a (.rng lo hi):=⟨t,u,v,e⟩
theorem call_rng2:ZCt X (.type "range") (fun xs H Q=>∃ m n:Int,xs=[.int m,.int n] /\ ∀ p,H p=none->Q (.ref p) (upd H p (.rng m n))):=by
 intro pins s σ H xs us Q I r h
 obtain ⟨m,n,rfl,q⟩:=h
 obtain ⟨u,w',rfl,J,B⟩:=ZEo r
 obtain ⟨t,rfl⟩:=J
 obtain ⟨t',rfl⟩:=B
 exact call_range_2 ⟨.ref s.heap.objs.size,_,I.laid (fun b o e=>Heap.get?_push_of_some _ e) (yAA _) (rng_ok (Heap.get?_push_size _ rfl)),rfl,q _ (I.hok.fresh (yAA _))⟩
noncomputable def ZDF (lo hi:Int):List Int:=(List.range (hi-lo).toNat).map fun i:Nat=>lo+(i:Int)
theorem ZB1 (lo hi:Int):(ZDF lo hi).length=(hi-lo).toNat:=by unfold ZDF;rw [yAD,List.length_range]
theorem rints_get {lo hi:Int} {i:Nat} (h:i < (hi-lo).toNat):(ZDF lo hi)[i]?=some (lo+i):=by unfold ZDF;rw [yAT,List.getElem?_range h];rfl
theorem call_list_rng (hc:X.calm=true):ZCt X (.type "list") (fun xs H Q=>∃ (p:Addr) (lo hi:Int),xs=[.ref p] /\ H p=some (.rng lo hi) /\ (-1000 <= lo /\ lo <= 1000 /\ -1000 <= hi /\ hi <= 1000) /\ ∀ l,H l=none->Q (.ref l) (upd H l (.lst ((ZDF lo hi).map V.int)))):=by
 intro pins s σ H xs us Q I r h
 obtain ⟨p,lo,hi,rfl,hp,hb,q⟩:=h
 obtain ⟨u,rfl,rx⟩:=ZDE r
 cases rx
 obtain ⟨t,u,v,e⟩:=I.hok p _ hp
 have hh:X.A.handled=none:=I.ok.hd hc
 refine call_list_range (n:=(hi-lo).toNat) hh e (small_one (by omega) (by omega) (by omega) (by omega)) (by rw [rangeSize_one];split <;> omega) (by omega) fun h' tk B c' hk hS J=>?_
 have hz:(ZDF lo hi).length <= 1000 * 2:=by rw [ZB1];omega
 refine ⟨.ref s.heap.objs.size,_,I.laid (t':=tk) hk (yAA _) (o:=.lst ((ZDF lo hi).map V.int)) ⟨?_,B.toList,c',?_,by simpa using hS⟩,rfl,q _ (I.hok.fresh (yAA _))⟩
 .rw [yAD]
  exact yAL hz (by decide)
 .have U:B.size=(hi-lo).toNat:=J.1
  have O:∀ (vs:List Value) (k:Nat) (zs:List Int),vs.length=zs.length->(∀ (j:Nat) v z,vs[j]?=some v->zs[j]?=some z->∃ t,v=Value.int z t)->Vals (zs.map V.int) vs:=by
   intro vs
   induction vs with
   | nil=>intro k zs h1 _;cases zs with
    | nil=>exact .nil
    | cons _ _=>cases h1
   | cons v r ih=>intro k zs h1 h2;cases zs with
    | nil=>cases h1
    | cons z zr=>exact .cons (h2 0 v z rfl rfl) (ih 0 zr (by simpa using h1) fun j v' z' a b=>h2 (j+1) v' z' (by simpa using a) (by simpa using b))
  refine O B.toList 0 (ZDF lo hi) (by rw [ZB1,yAN,U]) fun j v z a b=>?_
  have Z:B[j]?=some v:=by simpa using a
  obtain ⟨t,rfl⟩:=J.2 j v Z
  have hj:j < (hi-lo).toNat:=by have:=(yBN.mp Z).1;omega
  rw [rints_get hj] at b
  cases b
  exact ⟨t,by rw [Int.mul_one]⟩
theorem call_sorted:ZCt X (.builtin "sorted") (fun xs H Q=>∃ (p:Addr) (ns:List Int),xs=[.ref p] /\ SqL X.K H p (ns.map V.int) /\ ns.length < 64 /\ ∀ (l:Addr) (ms:List Int),H l=none->ms.Perm ns->ms.Pairwise (· <= ·)->Q (.ref l) (upd H l (.lst (ms.map V.int)))):=by
 intro pins s σ H xs us Q I r h
 obtain ⟨p,ns,rfl,hq,hn,q⟩:=h
 obtain ⟨u,rfl,rx⟩:=ZDE r
 cases rx
 obtain ⟨its,r',pl,hz⟩:=I.list hq
 have J:=r'.length
 rw [yAD] at J
 refine sorted_ints pl.isList (ZCn r') (by omega) fun out B U O a3=>?_
 obtain ⟨e,Z⟩:=sortedAll_at s.heap its out
 have a0:B.length=ns.length:=O.length_eq
 refine ⟨.ref (s.heap.objs.size+1),_,I.laid (t':=s.toks) (fun b o e=>sortedAll_old e) (yBB _) (o:=.lst (B.map V.int)) ⟨?_,out.toList,e,ZBy U,by simpa using Z⟩,rfl,q _ B (I.hok.fresh (yBB _)) O a3⟩
 rw [yAD]
 exact yAL (show B.length <= 1000 by omega) (by decide)
end
theorem Same.get {H H':Hp} {b:Addr} {o:HO} (s:Same H H') (h:H b=some o):H' b=some o:=s b o h
theorem newH {H:Hp} {p:Addr} (h:H p=none) (o:HO):∃ H',upd H p o=H' /\ Same H H' /\ H' p=some o:=⟨_,rfl,ZAT h o,ZAG⟩
section
variable {K:W.Frag} {a:Addr} {xs:List V} {te:TE} {Q:VK} {σ0 rest:St} {H:Hp}
end
section
variable {X:Cx} {pins:List (Addr×Obj)} {σ:St} {H:Hp} {s:Shared}
end
noncomputable def Ite (K:W.Frag) (a:Addr):It :=
 ⟨fun i H=>∃ xs x,SqL K H a xs /\ xs[i]?=some x,fun i H v H'=>∃ p x,H p=none /\ (∀ xs,SqL K H a xs->xs[i]?=some x) /\ H'=upd H p (.tup [.int i,x]) /\ v=.ref p,fun i H=>∃ xs,SqL K H a xs /\ xs.length <= i⟩
section
variable {X:Cx}
noncomputable def iEnum (K:W.Frag) (ta:TA):TI:=fun σ H R=>ta σ H fun vs H1=>∃ a,vs=[.ref a] /\ (∃ xs,SqL K H1 a xs) /\ R (Ite K a) H1
end
section
variable {K:W.Frag} {a:Addr} {xs:List V} {g:TG} {tb:TS} {D:Ends} {σ:St} {H:Hp}
noncomputable def forE (K:W.Frag) (g:TG) (tb:TS) (D:Ends) (σ:St) (x:V) (H1:Hp):Prop:=∃ a,[x]=[.ref a] /\ (∃ xs,SqL K H1 a xs) /\ ∃ W:Nat->Nat->St->Hp->Prop,(∃ m,W 0 m σ H1) /\ ∀ i m σ H,W i m σ H ->
 ((Ite K a).stop i H /\ D.nx σ H)∨((Ite K a).go i H /\ ∃ N:St->Hp->Prop,(∀ σ' H',N σ' H'->∃ m',m' < m /\ W (i+1) m' σ' H') /\ ∀ x H',(Ite K a).yld i H x H'->g x σ H' fun σ2 H2=>tb { D with nx:=N,ct:=N,bk:=D.nx } σ2 H2)
theorem tForE_eq {t:TE}:tFor (iEnum K (ZCI t tNil)) g tb D σ H=t σ H (fun x H1=>forE K g tb D σ x H1):=rfl
variable {tt:TT} {te:TE} {Q:VK} {σ0:St}
noncomputable def compE (K:W.Frag) (g:TG) (tt:TT) (te:TE) (σ0:St) (Q:VK) (x:V) (H1:Hp):Prop:=∃ a,[x]=[.ref a] /\ (∃ xs,SqL K H1 a xs) /\ ∃ W:Nat->Nat->List V->St->Hp->Prop,(∃ m,W 0 m [] σ0 H1) /\ ∀ i m ys σ H,W i m ys σ H ->
 ((Ite K a).stop i H /\ ys.length <= sizeLine /\ ∀ p,H p=none->Q (.ref p) (upd H p (.lst ys))) ∨
 ((Ite K a).go i H /\ ys.length < sizeLine /\ ∀ x H',(Ite K a).yld i H x H'->g x σ H' fun σ2 H2=>tt σ2 H2 fun b H3=>if b=true then te σ2 H3 fun y H4=>∃ m',m' < m /\ W (i+1) m' (ys++[y]) σ2 H4 else ∃ m',m' < m /\ W (i+1) m' ys σ2 H3)
theorem tCompE_eq {k:Nat} {js:List Nat} {t:TE}:ZDl k js (iEnum K (ZCI t tNil)) g tt te σ H Q=t σ H (fun x H1=>compE K g tt te (up k js σ) Q x H1):=rfl
end
noncomputable abbrev FZ (o:Obj):HO:=.frz o (.ext fun _=>True)
theorem ZEk {P:Program} {w:World} {H:Hp} {h:Heap} {a:Addr} {o:Obj} (e:h.get? a=some o):ObjOk P w H h a (FZ o):=⟨e,trivial,⟨o,e⟩,fun _ _ _ _=>trivial⟩
theorem ZDM {P:Program} {w:World} {H:Hp} {h:Heap} {a:Addr} {o:Obj} (x:HOk P w H h) (e:H a=some (FZ o)):h.get? a=some o:=(x a _ e).1
noncomputable def CodeAt (H:Hp) (c:Addr) (qual:Str):Prop:=∃ oc vs t,H c=some (FZ oc) /\ oc.data=.fields vs /\ vs[1]?=some (.str qual t)
theorem CodeAt.rec {P:Program} {w:World} {H:Hp} {h:Heap} {c:Addr} {qual:Str} (x:HOk P w H h) (k:CodeAt H c qual):h.CodeRec (.ref c) qual :=
 let ⟨oc,vs,t,e,d,v⟩:=k;⟨c,oc,vs,t,rfl,ZDM x e,d,v⟩
structure CloL (H:Hp) (g:Addr) (iname iq:Str) (ip:Arguments) (ib:List Stmt) (isc:Scope) (fr:List Str) (cs:List V) (cl:List (Str×Addr)):Prop where
 obj:∃ (doc pm ctv:Value) (c':Addr),H g=some (FZ (PySem.W.fnMade iname iq ip ib isc cl doc pm c' ctv)) /\ CodeAt H c' iq
 keys:∀ x c,cl.lookup x=some c->x∈fr
 inj:∀ x y c,cl.lookup x=some c->cl.lookup y=some c->x=y
 cell:∀ (i:Nat) (x:Str),fr[i]?=some x->∃ v c u o,cs[i]?=some v /\ cl.lookup x=some c /\ RelV v u /\ H c=some (FZ o) /\ o.data=.cell (some u)
 len:cs.length=fr.length
noncomputable def Clo (H:Hp) (g:Addr) (iname iq:Str) (ip:Arguments) (ib:List Stmt) (isc:Scope) (fr:List Str) (cs:List V):Prop:=∃ cl,CloL H g iname iq ip ib isc fr cs cl
noncomputable def ZDu (H H':Hp):Prop:=∀ b o,H b=some (FZ o)->H' b=some (FZ o)
theorem CodeAt.mono {H H':Hp} {c:Addr} {q:Str} (e:ZDu H H') (k:CodeAt H c q):CodeAt H' c q:=let ⟨oc,vs,t,a,d,v⟩:=k;⟨oc,vs,t,e _ _ a,d,v⟩
theorem CloL.mono {H H':Hp} {g:Addr} {iname iq:Str} {ip:Arguments} {ib:List Stmt} {isc:Scope} {fr:List Str} {cs:List V} {cl:List (Str×Addr)} (e:ZDu H H') (k:CloL H g iname iq ip ib isc fr cs cl):CloL H' g iname iq ip ib isc fr cs cl where
 obj:=let ⟨doc,pm,ctv,c',a,b⟩:=k.obj;⟨doc,pm,ctv,c',e _ _ a,b.mono e⟩
 keys:=k.keys
 inj:=k.inj
 cell:=fun i x h=>let ⟨v,c,u,o,a1,a2,a3,a4,a5⟩:=k.cell i x h;⟨v,c,u,o,a1,a2,a3,e _ _ a4,a5⟩
 len:=k.len
theorem Clo.mono {H H':Hp} {g:Addr} {iname iq:Str} {ip:Arguments} {ib:List Stmt} {isc:Scope} {fr:List Str} {cs:List V} (e:ZDu H H') (k:Clo H g iname iq ip ib isc fr cs):Clo H' g iname iq ip ib isc fr cs:=let ⟨cl,x⟩:=k;⟨cl,x.mono e⟩
theorem Same.fz {H H':Hp} (e:Same H H'):ZDu H H':=fun b o h=>e b _ h
theorem CloL.inj' {H:Hp} {g:Addr} {iname iq:Str} {ip:Arguments} {ib:List Stmt} {isc:Scope} {fr:List Str} {cs cs':List V} {cl cl':List (Str×Addr)} (k:CloL H g iname iq ip ib isc fr cs cl) (J:CloL H g iname iq ip ib isc fr cs' cl'):cs=cs':=by
 obtain ⟨d1,p1,t1,c1,e1,_⟩:=k.obj
 obtain ⟨d2,p2,t2,c2,O,_⟩:=J.obj
 rw [e1] at O
 have B:cl=cl':=by
  have:=Option.some.inj O
  injection this with h1 h2
  injection h1 with h3 h4 h5
  injection h5 with h6
  injection h6
 subst B
 refine yCL fun i=>?_
 by_cases hi:i < fr.length
 .obtain ⟨v,c,u,o,a1,a2,a3,a4,a5⟩:=k.cell i _ (yAJ hi)
  obtain ⟨v',c',u',o',b1,b2,b3,U,Z⟩:=J.cell i _ (yAJ hi)
  rw [a2] at b2
  cases b2
  rw [a4] at U
  have eo:o=o':=by
   have:=Option.some.inj U
   injection this
  subst eo
  rw [a5] at Z
  have eu:u=u':=by injection Z with h;injection h
  subst eu
  rw [a1,b1,a3.inj b3]
 .rw [yBM (by rw [k.len];omega),yBM (by rw [J.len];omega)]
open Classical in
noncomputable def hid (cl:List (Str×Addr)) (H:Hp):Hp:=fun b=>if ∃ x,cl.lookup x=some b then none else H b
open Classical in
noncomputable def back (cl:List (Str×Addr)) (H H1:Hp):Hp:=fun b=>if ∃ x,cl.lookup x=some b then H b else H1 b
theorem ZEB {cl:List (Str×Addr)} {H:Hp} {x:Str} {b:Addr} (h:cl.lookup x=some b):hid cl H b=none:=by unfold hid;rw [if_pos ⟨x,h⟩]
theorem ZDB {cl:List (Str×Addr)} {H:Hp} {b:Addr} (h:¬ ∃ x,cl.lookup x=some b):hid cl H b=H b:=by unfold hid;rw [if_neg h]
theorem ZDN {cl:List (Str×Addr)} {H H1:Hp} {x:Str} {b:Addr} (h:cl.lookup x=some b):back cl H H1 b=H b:=by unfold back;rw [if_pos ⟨x,h⟩]
theorem ZCM {cl:List (Str×Addr)} {H H1:Hp} {b:Addr} (h:¬ ∃ x,cl.lookup x=some b):back cl H H1 b=H1 b:=by unfold back;rw [if_neg h]
theorem hid_le {cl:List (Str×Addr)} {H:Hp} {b:Addr} {o:HO} (h:hid cl H b=some o):H b=some o:=by
 by_cases q:∃ x,cl.lookup x=some b
 .obtain ⟨x,q⟩:=q;rw [ZEB q] at h;cases h
 .rw [ZDB q] at h;exact h
noncomputable def ZFH (cl:List (Str×Addr)) (H:Hp):Prop:=∀ x c,cl.lookup x=some c->∃ u o,H c=some (FZ o) /\ o.data=.cell u
theorem CloL.cells {H:Hp} {g:Addr} {iname iq:Str} {ip:Arguments} {ib:List Stmt} {isc:Scope} {fr:List Str} {cs:List V} {cl:List (Str×Addr)} (k:CloL H g iname iq ip ib isc fr cs cl):ZFH cl H:=fun x c h=>by
 obtain ⟨i,hi⟩:=yBI (k.keys x c h)
 obtain ⟨v,O,u,o,_,h2,_,J,B⟩:=k.cell i x hi
 rw [h] at h2
 cases h2
 exact ⟨_,o,J,B⟩
theorem ZBu {cl:List (Str×Addr)} {H:Hp} {b:Addr} {o:HO} (C:ZFH cl H) (h:H b=some o) (n:∀ B,o≠FZ B):hid cl H b=some o:=by
 rw [ZDB,h]
 rintro ⟨x,q⟩
 obtain ⟨u,B,e,_⟩:=C x b q
 rw [h] at e
 exact n B (Option.some.inj e)
theorem hid_none {cl:List (Str×Addr)} {H:Hp} {b:Addr} (C:ZFH cl H) (h:hid cl H b=none) (n:¬ ∃ x,cl.lookup x=some b):H b=none:=by rw [ZDB n] at h;exact h
theorem back_upd {cl:List (Str×Addr)} {H H1:Hp} {l:Addr} {o:HO} (n:¬ ∃ x,cl.lookup x=some l):back cl H (upd H1 l o)=upd (back cl H H1) l o:=by
 funext b
 by_cases q:∃ x,cl.lookup x=some b
 .have:b≠l:=fun e=>n (e ▸ q)
  obtain ⟨x,q⟩:=q
  rw [ZDN q,ZAK this,ZDN q]
 .rw [ZCM q]
  by_cases e:b=l
  .subst e;rw [ZAG,ZAG]
  .rw [ZAK e,ZAK e,ZCM q]
theorem back_hid {cl:List (Str×Addr)} {H:Hp}:back cl H (hid cl H)=H:=by
 funext b
 by_cases q:∃ x,cl.lookup x=some b
 .obtain ⟨x,q⟩:=q;rw [ZDN q]
 .rw [ZCM q,ZDB q]
noncomputable def NoC (cl:List (Str×Addr)) (H:Hp):Prop:=∀ x c,cl.lookup x=some c->H c=none
structure CloScope (N ps fr:List Str) (sc:Scope):Prop where
 kind:sc.kind=.function
 co:sc.isCoroutine=false
 gen:sc.isGenerator=false
 nd:N.Nodup
 pre:N.take ps.length=ps
 suf:N.drop (N.length-fr.length)=fr
 two:ps.length+fr.length <= N.length
 par:∀ x∈ps,sc.names.lookup x=some .local
 nocell:∀ y∈sc.names,y.2≠.cell
 free:∀ x∈fr,sc.names.lookup x=some .free
 only:∀ x,sc.names.lookup x=some .free->x∈fr
noncomputable def ZCW (N:List Str) (vs cs:List V):St:=vs.map some++(List.replicate (N.length-vs.length-cs.length) none++cs.map some)
noncomputable def ZET (P:Program) (w:World) (K:W.Frag) (mg:Str->Option Value) (base:Heap) (N:List Str) (qual:Str) (scope:Scope) (f:Addr) (cd:Value) (cl:List (Str×Addr)) (A:Around) (outer:List Env) (s:Shared) (H:Hp):Cx where
 prog:=P
 w:=w
 K:=K
 mg:=mg
 base:=base
 A:=A.deeper (PySem.W.envX qual scope s.heap.objs.size f cd cl)
 N:=N
 s₀:=s
 H₀:=H
 env:=PySem.W.envX qual scope s.heap.objs.size f cd cl
 outer:=outer
 stack:=PySem.W.envX qual scope s.heap.objs.size f cd cl::outer
 ex:=[]
 calm:=true
 fn:=fun _=>false
 pn:=[]
 xe:=fun _ _=>False
theorem startC_get {N:List Str} {vs cs:List V} {i:Nat} {v:V} (hl:vs.length+cs.length <= N.length) (h:(ZCW N vs cs)[i]?=some (some v)) :
  vs[i]?=some v∨(N.length-cs.length <= i /\ cs[i-(N.length-cs.length)]?=some v):=by
 unfold ZCW at h
 by_cases h1:i < vs.length
 .rw [yAY (by simpa using h1),yAT] at h
  cases e:vs[i]? with
  | none=>rw [e] at h;cases h
  | some a=>rw [e] at h;cases h;exact .inl rfl
 .rw [yBE (by simpa using Nat.le_of_not_lt h1),yAD] at h
  by_cases h2:i-vs.length < N.length-vs.length-cs.length
  .rw [yAY (by simpa using h2),List.getElem?_replicate,if_pos h2] at h
   cases h
  .rw [yBE (by simpa using Nat.le_of_not_lt h2),yCM,yAT] at h
   right
   refine ⟨by omega,?_⟩
   rw [show i-(N.length-cs.length)=i-vs.length-(N.length-vs.length-cs.length) by omega]
   cases e:cs[i-vs.length-(N.length-vs.length-cs.length)]? with
   | none=>rw [e] at h;cases h
   | some a=>rw [e] at h;cases h;rfl
theorem zip_fst_sub:∀ (ps:List Str) (us:List Value),((ps.zip us).map (·.1)).Sublist ps
 | [],_=>by simp
 | p::ps,[]=>by simp
 | p::ps,u::us=>by rw [List.zip_cons_cons,yBD];exact (zip_fst_sub ps us).cons₂ p
theorem lookup_nodup {α:Type}:∀ {cs:List (Str×α)} {n:Str} {c:α},(cs.map (·.1)).Nodup->(n,c)∈cs->cs.lookup n=some c
 | (m,d)::r,n,c,hn,h=>by
  rw [yBD] at hn
  have B:=yCG.mp hn
  rw [yCD]
  rcases yAE.mp h with e | h
  .cases e;simp
  .have:n≠m:=fun z=>B.1 (z ▸ List.mem_map_of_mem (f:=(·.1)) h)
   have:(n == m)=false:=by simpa using this
   rw [this]
   exact lookup_nodup B.2 h
theorem zip_lookup {ps:List Str} {us:List Value} (O:ps.Nodup) {i:Nat} {x:Str} {u:Value} (h1:ps[i]?=some x) (h2:us[i]?=some u):((ps.zip us).reverse).lookup x=some u:=by
 have J:(x,u)∈(ps.zip us).reverse:=by
  rw [List.mem_reverse]
  refine yAQ (i:=i) ?_
  rw [List.getElem?_zip_eq_some]
  exact ⟨h1,h2⟩
 have B:((ps.zip us).reverse.map (·.1)).Nodup:=by
  rw [List.map_reverse]
  exact List.pairwise_reverse.mpr (List.Pairwise.imp (fun h=>Ne.symm h) (O.sublist (zip_fst_sub ps us)))
 exact lookup_nodup B J
section
variable {P:Program} {w:World} {K:W.Frag} {mg:Str->Option Value} {base:Heap} {A:Around} {outer:List Env} {s:Shared} {H:Hp} {g:Addr} {iname iq:Str} {ip:Arguments} {ib:List Stmt} {isc:Scope} {N ps fr:List Str} {cs vs:List V} {us:List Value} {cl:List (Str×Addr)} {k:Nat}
theorem clo_call {Q:VK} (C:CloL H g iname iq ip ib isc fr cs cl) (S:CloScope N ps fr isc) (hr:Room (k+1) A) (Z:Env0 P w K mg base A outer s H) (hl:vs.length=ps.length) (r:Vals vs us)
  (aa:∀ (a0 pm a6:Value) (c':Addr),bindArgs (PySem.W.fnX iname iq ip ib isc cl .none .none a0 pm none (.ref c') a6) ⟨us,[]⟩=pure (ps.zip us))
  (a9:∀ (cd:Value) (A':Around),Room k A'->∃ t,PSs (ZET P w K mg base N iq isc g cd cl A outer s (hid cl H)) ib t /\ t { nx:=fun _ H'=>NoC cl H'->Q .non (back cl H H'),rt:=fun v H'=>NoC cl H'->Q v (back cl H H') } (ZCW N vs cs) (hid cl H)) :
  codeAny (model P w) A (.call (.ref g) ⟨us,[]⟩) (fun r s'=>match r with | .ok (.ret u)=>CE outer P w H s Q u s' | _=>False) s:=by
 obtain ⟨a0,pm,a6,c',hg,hc⟩:=C.obj
 have ac:=ZDM Z.hok hg
 have ai:s.heap.NoLimit:=Z.mod.nolimit.keeps fun b o e=>(Z.bs b o e).1
 have ah:ps.Nodup:=by rw [<- S.pre];exact S.nd.sublist (List.take_sublist _ _)
 refine codeAny_call_def (o:=PySem.W.fnMade iname iq ip ib isc cl a0 pm c' a6) (fd:=PySem.W.fnX iname iq ip ib isc cl .none .none a0 pm none (.ref c') a6) (body:=ib) (binds:=ps.zip us) hr.depth ac rfl ai (hc.rec Z.hok) rfl (.of_eq (aa a0 pm a6 c')) S.nocell (fun y hy=>S.par _ (List.of_mem_zip hy).1) (fun ab ag U=>?_) S.co S.gen S.kind
 obtain ⟨t,ht,hq⟩:=a9 (.ref c') _ (hr.deeper (PySem.W.envX iq isc s.heap.objs.size g (.ref c') cl))
 have B:∀ x c,cl.lookup x=some c->∃ o u,H c=some (FZ o) /\ s.heap.get? c=some o /\ o.data=.cell u:=fun x c h=>by
  obtain ⟨u,o,e,d⟩:=C.cells x c h
  exact ⟨o,u,e,ZDM Z.hok e,d⟩
 have ae:∀ x c,cl.lookup x=some c->c∉frs outer:=fun x c h hb=>by
  obtain ⟨o,u,e,_⟩:=B x c h
  rw [Z.frf c hb] at e;cases e
 have al:ps.length <= N.length:=by have:=S.two;omega
 have I:Inv (ZET P w K mg base N iq isc g (.ref c') cl A outer s (hid cl H)) [] (ZCW N vs cs) (hid cl H) { s with heap:=ab,toks:=s.toks+(ps.zip us).length }:=by
  refine ⟨⟨Z.mod,S.kind,rfl,rfl,yAA _,C.inj,fun x hx=>?_,fun y c h=>absurd h (by simp [ZET]),fun _=>hr.hd,Around.frames_deeper Z.frames,.inr ⟨rfl,rfl⟩,fun b z=>absurd (show b∈([]:List Addr) from z) (by simp),fun b o e=>?_,Z.bsz,fun b _ _ z=>absurd (show b∈([]:List Addr) from z) (by simp),fun b z=>absurd (show b∈([]:List Addr) from z) (by simp),Z.funs,fun b hb=>?_⟩,
   rfl,Z.bare,Un.kept U,⟨_,ag,fun i x v h1 h2 h3=>?_⟩,fun x c h=>?_,?_,fun x c h=>ZEB h,fun p hp=>absurd (show p∈([]:List (Addr×Obj)) from hp) (by simp),?_,?_⟩
  .have hx:isc.names.lookup x=some .cell∨isc.names.lookup x=some .free:=hx
   rcases hx with hx | hx
   .exact absurd rfl (S.nocell _ (PySem.mem_of_lookup hx))
   .obtain ⟨i,hi⟩:=yBI (S.only x hx)
    obtain ⟨v,c,u,o,_,h2,_⟩:=C.cell i x hi
    exact ⟨c,h2⟩
  .refine ⟨(Z.bs b o e).1,?_⟩
   show hid cl H b=none
   by_cases q:∃ x,cl.lookup x=some b
   .obtain ⟨x,q⟩:=q;exact ZEB q
   .rw [ZDB q];exact (Z.bs b o e).2
  .show hid cl H b=none
   rw [ZDB]
   .exact Z.frf b hb
   .rintro ⟨x,q⟩;exact ae x b q hb
  .have h1:N[i]?=some x:=h1
   have af:=C.len
   rcases startC_get (by rw [hl,af];exact S.two) h2 with h4 | ⟨h4,h5⟩
   .obtain ⟨u,hu,rv⟩:=r.get h4
    have hi:i < vs.length:=(yAI.mp h4).1
    have hp:ps[i]?=some x:=by rw [<- S.pre,yBY (by omega)];exact h1
    exact ⟨u,rv,.inl ⟨S.par x (yAQ hp),zip_lookup ah hp hu⟩⟩
   .have hf:fr[i-(N.length-cs.length)]?=some x:=by
     rw [<- S.suf,yBZ,<- af,show N.length-cs.length+(i-(N.length-cs.length))=i by omega]
     exact h1
    obtain ⟨v',c,u,o,a1,a2,a3,a4,a5⟩:=C.cell _ x hf
    rw [h5] at a1
    cases a1
    refine ⟨u,a3,.inr ⟨.inr (S.free x (yAQ hf)),c,a2,o,U _ _ (ZDM Z.hok a4),a5⟩⟩
  .obtain ⟨o,u,e,e2,d⟩:=B x c h
   exact ⟨u,o,U _ _ e2,d⟩
  .show hid cl H s.heap.objs.size=none
   have hn:=Z.hok.fresh (yAA _)
   rw [ZDB]
   .exact hn
   .rintro ⟨x,q⟩
    obtain ⟨o,u,e,_⟩:=B x _ q
    rw [hn] at e;cases e
  .intro b o e
   have e':=hid_le e
   refine (Z.hok b o e').stay (fun c v _ q=>U c v q) (fun c q=>?_) fun c xs q=>?_
   .exact ZBu C.cells q (fun ob z=>by cases z)
   .exact ZBu C.cells q (fun ob z=>by cases z)
  .unfold ZCW
   show _=N.length
   have:=S.two
   have:=C.len
   simp only [yAB,yAD,yCM]
   omega
 refine wpAny_mono (ht [] _ (ZCW N vs cs) (hid cl H) _ I hq) (fun fl s' hs=>?_) fun e s' hs=>False.elim hs
 have fin:∀ {a7:St} {H':Hp} {v:V} {u:Value},Inv (ZET P w K mg base N iq isc g (.ref c') cl A outer s (hid cl H)) [] a7 H' s'->RelV v u->(NoC cl H'->Q v (back cl H H'))->CE outer P w H s Q u s' :=
  fun {a7 H' v u} J rv q=>by
   have un:Un (frs outer) [] (hid cl H) H' s.heap s'.heap:=J.base
   have ad:∀ b:Addr,b∉([]:List Addr):=fun b=>by simp
   have a8:∀ x c o,cl.lookup x=some c->s.heap.get? c=some o->s'.heap.get? c=some o:=fun x c o h e=>un.keep c o e (ZEB h) (ae x c h) (ad c)
   have O:∀ x c,cl.lookup x=some c->H' c=none:=fun x c h=>by
    obtain ⟨o,u,e,e2,d⟩:=B x c h
    exact un.free c o e2 (ZEB h) (ad c)
   refine ⟨v,back cl H H',J.os,J.bare,⟨fun b o e n hb hx=>?_,fun b o e n hb hx=>?_,fun b o e n hx=>?_,un.there,fun b xs e=>?_,fun b o u' e=>?_,fun b aj e=>?_⟩,fun b o e=>?_,rv,q O⟩
   .refine un.keep b o e ?_ hb hx
    by_cases q:∃ x,cl.lookup x=some b
    .obtain ⟨x,q⟩:=q;exact ZEB q
    .rw [ZDB q];exact n
   .refine un.slot b o e ?_ hb hx
    by_cases q:∃ x,cl.lookup x=some b
    .obtain ⟨x,q⟩:=q;exact ZEB q
    .rw [ZDB q];exact n
   .have nc:¬ ∃ x,cl.lookup x=some b:=by
     rintro ⟨x,q⟩
     obtain ⟨o,u,e,_⟩:=B x b q
     rw [n] at e;cases e
    rw [ZCM nc]
    exact un.free b o e (by rw [ZDB nc];exact n) hx
   .have e2:=un.tups b xs (ZBu C.cells e (fun ob z=>by cases z))
    rw [ZCM]
    .exact e2
    .rintro ⟨x,q⟩;rw [O x b q] at e2;cases e2
   .by_cases q:∃ x,cl.lookup x=some b
    .obtain ⟨x,q⟩:=q;rw [ZDN q];exact e
    .rw [ZCM q];exact un.frzs b o u' (by rw [ZDB q];exact e)
   .obtain ⟨more,e2⟩:=un.tbls b aj (ZBu C.cells e (fun ob z=>by cases z))
    refine ⟨more,?_⟩
    rw [ZCM]
    .exact e2
    .rintro ⟨x,q⟩;rw [O x b q] at e2;cases e2
   .have up:∀ c oc,H' c=some oc->back cl H H' c=some oc:=fun c oc q=>by
     rw [ZCM]
     .exact q
     .rintro ⟨x,z⟩;rw [O x c z] at q;cases q
    by_cases q:∃ x,cl.lookup x=some b
    .obtain ⟨x,q⟩:=q
     rw [ZDN q] at e
     obtain ⟨o2,u2,e2,e3,d⟩:=B x b q
     rw [e] at e2
     cases e2
     exact ZEk (a8 x b _ q e3)
    .rw [ZCM q] at e
     exact (J.hok b o e).stay (fun c v _ q=>q) (fun c q=>up c _ q) fun c xs q=>up c _ q
 cases fl with
 | ret u=>
  obtain ⟨v,a7,H',J,rv,q⟩:=hs
  exact fin J rv q
 | next=>
  obtain ⟨a7,H',J,q⟩:=hs
  exact fin (v:=V.non) (u:=Value.none) J rfl q
 | brk=>
  obtain ⟨_,_,_,q⟩:=hs
  exact False.elim q
 | cont=>
  obtain ⟨_,_,_,q⟩:=hs
  exact False.elim q
end
noncomputable def ZEX (r:V->List V->Hp->VK->Prop) (ta:TE) (t:TA):TE:=fun σ H Q=>ta σ H fun f H1=>(∃ g o,f=.ref g /\ H1 g=some (FZ o) /\ ∃ fd,o.data=.func fd) /\ t σ H1 fun vs H2=>r f vs H2 Q
noncomputable def CloR (X:Cx) (r:V->List V->Hp->VK->Prop):Prop :=
 ∀ (pins:List (Addr×Obj)) (s:Shared) (σ:St) (H:Hp) (f:Addr) (vs:List V) (us:List Value) (Q:VK),Inv X pins σ H s->Vals vs us->r (.ref f) vs H Q ->
  PySem.W.FnAt f s.heap /\ wpAny (model X.prog X.w) X.A (call (.ref f) us) (EP X pins σ Q) X.xe s
theorem fnAt_of {h:Heap} {g:Addr} {o:Obj} {fd:FuncData} (e:h.get? g=some o) (d:o.data=.func fd):PySem.W.FnAt g h:=by
 obtain ⟨oc,od,B,sl⟩:=o
 have d':B=.func fd:=d
 subst d'
 exact ⟨oc,od,fd,sl,e⟩
theorem pe_callV {X:Cx} {x:Str} {p pos:Pos} {e:Expr} {es:List Expr} {ta:TE} {t:TA} {r:V->List V->Hp->VK->Prop} (hc:CloR X r) (U:PE X (.Name x p) ta) (ha:PA X (e::es) t)
  (Z:starEach (e::es) X.env=(false,eval e X.env)::starEach es X.env:=by rfl) (J:(backTo pos (starEach es X.env)).any (·.1)=false:=by rfl):PE X (.Call (.Name x p) (e::es) [] pos) (ZEX r ta t):=by
 intro pins s σ H Q I h
 refine wpAny_Call_Name_kw (thn (U pins s σ H _ I h) fun v s1 B=>?_)
 obtain ⟨f,H1,O,rf,⟨g,o,eg,hg,fd,hd⟩,q⟩:=B
 subst eg
 cases rf
 refine PySem.W.callWith_F (fnAt_of (ZDM O.hok hg) hd) (thn (ha pos pins s1 σ H1 _ O q) fun us s2 B=>?_) Z J
 obtain ⟨vs,H2,I2,r2,q2⟩:=B
 exact hc pins s2 σ H2 g vs us Q I2 r2 q2
structure CloOk (P:Program) (w:World) (K:W.Frag) (mg:Str->Option Value) (base:Heap) (k:Nat) (r:V->List V->Hp->VK->Prop):Prop where
 run:∀ (A:Around) (outer:List Env) (s:Shared) (H:Hp) (f:Addr) (vs:List V) (us:List Value) (Q:VK),Room k A->Env0 P w K mg base A outer s H->Vals vs us->r (.ref f) vs H Q ->
  PySem.W.FnAt f s.heap /\ codeAny (model P w) A (.call (.ref f) ⟨us,[]⟩) (fun r s'=>match r with | .ok (.ret u)=>CE outer P w H s Q u s' | _=>False) s
theorem CloOk.at {X:Cx} {k:Nat} {r:V->List V->Hp->VK->Prop} (C:CloOk X.prog X.w X.K X.mg X.base k r) (J:Room k X.A):CloR X r:=by
 intro pins s σ H f vs us Q I O h
 obtain ⟨h1,h2⟩:=C.run X.A X.stack s H f vs us Q J I.env0 O h
 refine ⟨h1,wpAny_call (codeAny_mono h2 fun r s' B=>?_)⟩
 cases r with
 | error e=>exact False.elim B
 | ok fl=>
  cases fl with
  | ret u=>exact I.after B
  | next=>exact False.elim B
  | brk=>exact False.elim B
  | cont=>exact False.elim B
theorem Clo.fnAt {P:Program} {w:World} {H:Hp} {h:Heap} {g:Addr} {iname iq:Str} {ip:Arguments} {ib:List Stmt} {isc:Scope} {fr:List Str} {cs:List V} {cl:List (Str×Addr)} (x:HOk P w H h) (C:CloL H g iname iq ip ib isc fr cs cl):PySem.W.FnAt g h:=by
 obtain ⟨B,O,J,c',e,_⟩:=C.obj
 exact fnAt_of (ZDM x e) rfl
theorem clo_of {P:Program} {w:World} {K:W.Frag} {mg:Str->Option Value} {base:Heap} {iname iq:Str} {ip:Arguments} {ib:List Stmt} {isc:Scope} {N ps fr:List Str} {k:Nat} {r:V->List V->Hp->VK->Prop} (S:CloScope N ps fr isc)
  (a0:∀ f vs H Q,r f vs H Q->∃ g cs,f=.ref g /\ Clo H g iname iq ip ib isc fr cs) (len:∀ f vs H Q,r f vs H Q->vs.length=ps.length)
  (U:∀ (cl:List (Str×Addr)) (J pm O:Value) (c':Addr) (us:List Value),us.length=ps.length->bindArgs (PySem.W.fnX iname iq ip ib isc cl .none .none J pm none (.ref c') O) ⟨us,[]⟩=pure (ps.zip us))
  (B:∀ (g:Addr) (cs:List V) (cl:List (Str×Addr)) (Z:Value) (A:Around) (outer:List Env) (s:Shared) (H:Hp) (vs:List V) (Q:VK),Room k (A.deeper (PySem.W.envX iq isc s.heap.objs.size g Z cl))->CloL H g iname iq ip ib isc fr cs cl->r (.ref g) vs H Q ->
   ∃ t,PSs (ZET P w K mg base N iq isc g Z cl A outer s (hid cl H)) ib t /\ t { nx:=fun _ H'=>NoC cl H'->Q .non (back cl H H'),rt:=fun v H'=>NoC cl H'->Q v (back cl H H') } (ZCW N vs cs) (hid cl H)):CloOk P w K mg base (k+1) r:=by
 refine ⟨fun A outer s H f vs us Q hr e0 rv h=>?_⟩
 obtain ⟨g,cs,eg,cl,C⟩:=a0 _ _ _ _ h
 cases eg
 have hl:=len _ _ _ _ h
 refine ⟨Clo.fnAt e0.hok C,clo_call (k:=k) C S hr e0 hl rv (fun J pm O c'=>U cl J pm O c' us (by rw [<- rv.length];exact hl)) fun Z A' a1=>?_⟩
 exact B f cs cl Z A outer s H vs Q (hr.deeper _) C h
theorem NoC.ne {cl:List (Str×Addr)} {H:Hp} {b:Addr} {o:HO} (n:NoC cl H) (h:H b=some o):¬ ∃ x,cl.lookup x=some b:=fun ⟨x,e⟩=>by rw [n x b e] at h;cases h
noncomputable def TabSt (H:Hp) (Pt:Addr) (pos:Pos) (iq:Str):Prop:=H Pt=some (.tbl #[])∨∃ c',H Pt=some (.tbl #[rawInt pos.line,rawInt pos.col,.ref c']) /\ CodeAt H c' iq
theorem TabSt.mono {H H':Hp} {Pt:Addr} {pos:Pos} {iq:Str} (e:H' Pt=H Pt) (f:ZDu H H') (k:TabSt H Pt pos iq):TabSt H' Pt pos iq:=by
 rcases k with k | ⟨c',k,q⟩
 .exact .inl (e.trans k)
 .exact .inr ⟨c',e.trans k,q.mono f⟩
noncomputable def ZDv (mg:Str->Option Value) (h:Heap):Prop:=∃ bm ob,mg "__builtins__"=some (.ref bm) /\ bm≠builtinsNs /\ h.get? bm=some ob /\ ob.cls=.type "module" /\ ob.dict=some builtinsNs /\ ob.data=.plain
structure MadeDef (H H':Hp) (Pt:Addr) (pos:Pos) (g:Addr) (iname iq:Str) (ip:Arguments) (ib:List Stmt) (isc:Scope) (fr:List Str) (cs:List V):Prop where
 same:∀ b o,b≠Pt->H b=some o->H' b=some o
 tab:TabSt H' Pt pos iq
 clo:Clo H' g iname iq ip ib isc fr cs
 fresh:H g=none
section
variable {X:Cx} {pins:List (Addr×Obj)} {σ:St} {H:Hp} {s:Shared}
structure MadeMid (H H':Hp) (Pt:Addr) (pos:Pos) (g:Addr) (iname iq:Str) (ip:Arguments) (ib:List Stmt) (isc:Scope) (cl:List (Str×Addr)):Prop where
 same:∀ b o,b≠Pt->H b=some o->H' b=some o
 tab:TabSt H' Pt pos iq
 obj:∃ (doc pm ctv:Value) (c':Addr),H' g=some (FZ (PySem.W.fnMade iname iq ip ib isc cl doc pm c' ctv)) /\ CodeAt H' c' iq
 fresh:H g=none
theorem Inv.made3 (I:Inv X pins σ H s) {Pt c':Addr} {ps more:Array Value} {h':Heap} {oc fo:Obj} {tk:Nat} (J:H Pt=some (.tbl ps)) (hx:Heap.ExtBut Pt s.heap h') (O:s.heap.objs.size <= c') (U:c' < h'.objs.size) (a1:h'.get? c'=some oc)
  (Z:h'.get? Pt=some (PySem.W.tabObj (ps++more))) (a0:fo.isFreed=false):Inv X pins σ (upd (upd (upd H Pt (.tbl (ps++more))) c' (FZ oc)) h'.objs.size (FZ fo)) { s with heap:=h'.push fo,toks:=tk }:=by
 have gn:∀ b o,s.heap.get? b=some o->b≠h'.objs.size /\ b≠c':=fun b o e=>by
  have l:=Heap.lt_size e
  exact ⟨yAM (Nat.lt_trans (yAW l O) U),yAM (yAW l O)⟩
 have gt:∀ b o,H b=some o->b≠h'.objs.size /\ b≠c':=fun b o e=>by
  have l:=I.hok.lt e
  exact ⟨yAM (Nat.lt_trans (yAW l O) U),yAM (yAW l O)⟩
 have np:∀ b,H b=none->b≠Pt:=fun b n z=>by rw [z,J] at n;cases n
 have cg:c'≠h'.objs.size:=yAM U
 have B:∀ b o,b≠Pt->H b=some o->upd (upd (upd H Pt (.tbl (ps++more))) c' (FZ oc)) h'.objs.size (FZ fo) b=some o:=fun b o n e=>by
  rw [ZAK (gt b o e).1,ZAK (gt b o e).2,ZAK n];exact e
 have a2:upd (upd (upd H Pt (.tbl (ps++more))) c' (FZ oc)) h'.objs.size (FZ fo) Pt=some (.tbl (ps++more)):=by
  rw [ZAK (gt Pt _ J).1,ZAK (gt Pt _ J).2,ZAG]
 refine I.un (h':=h'.push fo) (t':=tk) ⟨fun b o e n _ _=>?_,fun b o e n _ _=>?_,fun b o e n _=>?_,fun b o e _=>?_,fun b xs e=>?_,fun b o u e=>?_,fun b qs e=>?_⟩ fun b o e=>?_
 .exact Heap.get?_push_of_some _ (hx b o (np b n) e)
 .exact ⟨o.slots,Heap.get?_push_of_some _ (hx b o (np b n) e)⟩
 .rw [ZAK (gn b o e).1,ZAK (gn b o e).2,ZAK (np b n)];exact n
 .by_cases q:b=Pt
  .subst q;exact ⟨_,Heap.get?_push_of_some _ Z⟩
  .exact ⟨o,Heap.get?_push_of_some _ (hx b o q e)⟩
 .exact B b _ (fun z=>by rw [z,J] at e;cases e) e
 .exact B b _ (fun z=>by rw [z,J] at e;cases e) e
 .by_cases q:b=Pt
  .subst q
   rw [J] at e
   cases e
   exact ⟨more,a2⟩
  .exact ⟨#[],by rw [B b _ q e];simp⟩
 .by_cases q1:b=h'.objs.size
  .subst q1;rw [ZAG] at e;cases e;exact ZEk (Heap.get?_push_size _ a0)
  .rw [ZAK q1] at e
   by_cases q2:b=c'
   .subst q2;rw [ZAG] at e;cases e;exact ZEk (Heap.get?_push_of_some _ a1)
   .rw [ZAK q2] at e
    by_cases q3:b=Pt
    .subst q3;rw [ZAG] at e;cases e;exact Heap.get?_push_of_some _ Z
    .rw [ZAK q3] at e
     refine (I.hok b o e).stay (fun c u hc q=>?_) (fun c q=>?_) fun c xs q=>?_
     .refine Heap.get?_push_of_some _ (hx c u ?_ q)
      rcases hc with z | z
      .rw [z];exact q3
      .intro z2;rw [z2,J] at z;cases z
     .exact B c _ (fun z=>by rw [z,J] at q;cases q) q
     .exact B c _ (fun z=>by rw [z,J] at q;cases q) q
theorem Inv.made1 (I:Inv X pins σ H s) {h':Heap} {fo:Obj} {tk:Nat} (O:∀ b o,s.heap.get? b=some o->h'.get? b=some o) (B:s.heap.objs.size <= h'.objs.size) (J:fo.isFreed=false):Inv X pins σ (upd H h'.objs.size (FZ fo)) { s with heap:=h'.push fo,toks:=tk } :=
 I.laid (fun b u q=>Heap.get?_push_of_some _ (O b u q)) B (ZEk (Heap.get?_push_size _ J))
noncomputable def tDef (i:Nat) (Pt:Addr) (pos:Pos) (iname iq:Str) (ip:Arguments) (ib:List Stmt) (isc:Scope) (cl:List (Str×Addr)):TS:=fun D σ H=>TabSt H Pt pos iq /\ ∀ g H',MadeMid H H' Pt pos g iname iq ip ib isc cl->D.nx (σ.set i (some (.ref g))) H'
theorem ps_def {i:Nat} {Pt c:Addr} {pos:Pos} {iname iq:Str} {ip:Arguments} {ib:List Stmt} {isc:Scope} (hN:X.N.Nodup) (hi:X.N[i]?=some iname) (hx:Loc X.env.scope iname) (hf:X.fn iname=true∨X.env.scope.names.lookup iname=some .local)
  (Z:X.env.code=.ref c) (C:PySem.W.CodeHd X.base c Pt) (B:ZDv X.mg X.base) (hq:qualnameIn X.env iname iname=iq) (hd0:ip.defaults=[]) (ag:ip.kw_defaults=[]) (ha:annTrees ip none X.env=[])
  (ae:∀ x,(x,NameKind.free)∈isc.names->∃ c,X.env.cells.lookup x=some c) :
  PS X (.FunctionDef iname ip ib [] none [] isc none iname pos) (tDef i Pt pos iname iq ip ib isc (closFrom X.env.cells isc.names [])):=by
 intro pins s σ H D I h
 obtain ⟨ht,h⟩:=h
 refine PySem.W.nestDef_K hd0 ag ha ?_
 rw [hq]
 have a6:=I.ok.mod.glob.keeps I.bk
 have hC:=C.keeps I.bk
 have aa:=closureFor_eq (scope:=isc) (env:=X.env) ae
 obtain ⟨bm,ob,b1,b2,b3,b4,b5,b6⟩:=B
 have ah:bm≠mainGlobals:=fun q=>by
  obtain ⟨o,es,ep,e,hd,_⟩:=I.ok.mod.glob
  rw [q,e] at b3;cases b3;rw [hd] at b6;cases b6
 have apart:∀ {qs:Array Value},s.heap.get? Pt=some (PySem.W.tabObj qs)->mainGlobals≠Pt /\ s.heap.BuiltinsAt X.mg Pt:=fun {qs} hm=>by
  refine ⟨fun q=>?_,bm,ob,b1,b2,ah,fun q=>?_,I.bk _ _ b3,b4,b5,b6⟩
  .obtain ⟨o,es,ep,e,hd,_⟩:=a6
   rw [q,hm] at e;cases e;cases hd
  .have e:=I.bk _ _ b3
   rw [q,hm] at e;cases e;cases b4
 have fin:∀ {g:Addr} {H':Hp} {s':Shared},Inv X pins σ H' s'->MadeMid H H' Pt pos g iname iq ip ib isc (closFrom X.env.cells isc.names []) ->
   wpAny (model X.prog X.w) X.A (storeName X.env iname (.ref g)) (fun _ a9=>SP X pins D .next a9) X.xe s':=fun {g H' s'} J M=>
  ZCV J hN hi hx (v:=.ref g) rfl (fun a9 J'=>⟨_,H',J',h g H' M⟩) hf
 rcases ht with ht | ⟨c1,ht,ab⟩
 .have hP:s.heap.get? Pt=some (PySem.W.tabObj #[]):=I.hok Pt _ ht
  obtain ⟨a1,a2⟩:=apart hP
  refine PySem.W.makeFunction_K aa I.ok.glob a6 Z hC hP trivial rfl a1 a2 fun c' U O h' tk af a3 a4 a8 ad=>?_
  obtain ⟨c2,oc,vs,t,e2,ac,hd,hv⟩:=a8
  cases e2
  have J:=I.made3 (tk:=tk) (fo:=PySem.W.fnMade iname iq ip ib isc (closFrom X.env.cells isc.names []) O ((X.mg "__name__").getD .none) c' U) ht af a3 a4 ac ad rfl
  have gt:∀ b o,H b=some o->b≠h'.objs.size /\ b≠c':=fun b o e=>by
   have l:=I.hok.lt e
   exact ⟨yAM (Nat.lt_trans (yAW l a3) a4),yAM (yAW l a3)⟩
  have a0:CodeAt (upd (upd (upd H Pt (.tbl (#[]++#[rawInt pos.line,rawInt pos.col,.ref c']))) c' (FZ oc)) h'.objs.size (FZ (PySem.W.fnMade iname iq ip ib isc (closFrom X.env.cells isc.names []) O ((X.mg "__name__").getD .none) c' U))) c' iq :=
   ⟨oc,vs,t,by rw [ZAK (yAM a4),ZAG],hd,hv⟩
  refine fin J ⟨fun b o n e=>?_,.inr ⟨c',?_,a0⟩,⟨O,_,U,c',ZAG,a0⟩,?_⟩
  .rw [ZAK (gt b o e).1,ZAK (gt b o e).2,ZAK n];exact e
  .rw [ZAK (gt Pt _ ht).1,ZAK (gt Pt _ ht).2,ZAG];rfl
  .exact I.hok.fresh (yAL a3 (yBJ a4))
 .have hP:s.heap.get? Pt=some (PySem.W.tabObj #[rawInt pos.line,rawInt pos.col,.ref c1]):=I.hok Pt _ ht
  obtain ⟨a1,a2⟩:=apart hP
  refine PySem.W.makeFunction_hit (cv:=.ref c1) aa I.ok.glob a6 Z hC hP trivial ?_ a2 fun U O h' tk hk a7=>?_
  .simp [codeAmong,rawInt]
  have J:=I.made1 (tk:=tk) (fo:=PySem.W.fnMade iname iq ip ib isc (closFrom X.env.cells isc.names []) O ((X.mg "__name__").getD .none) c1 U) hk a7 rfl
  have gt:∀ b o,H b=some o->b≠h'.objs.size:=fun b o e=>yAM (yAW (I.hok.lt e) a7)
  have a5:∀ b o,H b=some o->upd H h'.objs.size (FZ (PySem.W.fnMade iname iq ip ib isc (closFrom X.env.cells isc.names []) O ((X.mg "__name__").getD .none) c1 U)) b=some o:=fun b o e=>by rw [ZAK (gt b o e)];exact e
  have a0:=ab.mono (H':=upd H h'.objs.size (FZ (PySem.W.fnMade iname iq ip ib isc (closFrom X.env.cells isc.names []) O ((X.mg "__name__").getD .none) c1 U))) fun b o e=>a5 b _ e
  exact fin J ⟨fun b o _ e=>a5 b o e,.inr ⟨c1,a5 _ _ ht,a0⟩,⟨O,_,U,c1,ZAG,a0⟩,I.hok.fresh a7⟩
end
noncomputable def ZDo (Pt:Addr) (pos:Pos) (iname iq:Str) (ip:Arguments) (ib:List Stmt) (isc:Scope) (fr:List Str) (ix:List Nat) (n:Nat):Sp:=fun vs H Q _=>
 vs.length=n /\ TabSt H Pt pos iq /\ ∀ g H',MadeDef H H' Pt pos g iname iq ip ib isc fr (ix.map fun i=>vs.getD i .non)->Q (.ref g) H'
theorem teller_ok {P:Program} {w:World} {K:W.Frag} {mg:Str->Option Value} {base:Heap} {x qual:Str} {st:Stmt} {f c Pt:Addr} {fd:FuncData} {ps:List Str} {iname iq:Str} {ip:Arguments} {ib:List Stmt} {isc:Scope} {pos rp af:Pos} {fr:List Str} {ix:List Nat}
  (F:Fun K x qual st f fd) (S:FnScope (ps++[iname]) ps (ZAC st)) (aq:fd.code=.ref c) (C:PySem.W.CodeHd base c Pt) (B:ZDv mg base)
  (hb:ZAN st=[.FunctionDef iname ip ib [] none [] isc none iname pos,.Return (some (.Name iname rp)) af]) (az:∀ L cd,qualnameIn (envOfC qual (ZAC st) L f cd) iname iname=iq) (hd0:ip.defaults=[]) (au:ip.kw_defaults=[]) (ha:∀ L cd,annTrees ip none (envOfC qual (ZAC st) L f cd)=[])
  (a0:(ZAC st).names.lookup iname=some .local) (ar:(iname == ("__debug__":Str))=false) (aa:(iname == ("__classdict__":Str))=false)
  (a6:∀ y∈isc.names,y.2=.free->y.1∈fr) (ae:∀ y∈fr,(y,NameKind.free)∈isc.names) (a8:∀ y∈fr,(ZAC st).names.lookup y=some .cell) (b0:∀ (j:Nat) (y:Str),fr[j]?=some y->∃ i,ix[j]?=some i /\ ps[i]?=some y) (ab:ix.length=fr.length) :
  FnOk P w K mg base CX0 1 f fd ps (ZDo Pt pos iname iq ip ib isc fr ix ps.length):=by
 obtain ⟨oc,od,kV,b2,pm,an,a7,ct,b1,rfl,lk,ai⟩:=F.ex
 have ad:a7=.ref c:=aq
 refine ⟨fun vs H Q E h=>h.1,fun A outer s H args us vs Q E hr e0 aw r av=>?_⟩
 obtain ⟨hl,hT,hQ⟩:=av
 have KX:K.In s.heap:=e0.mod.kin.keeps fun b o e=>(e0.bs b o e).1
 have ax:s.heap.NoLimit:=e0.mod.nolimit.keeps fun b o e=>(e0.bs b o e).1
 have a9:∀ y∈ps.zip us,(ZAC st).names.lookup y.1=some .local∨((ZAC st).names.lookup y.1=some .cell /\ ((cellsFrom (s.heap.objs.size+1) (ZAC st).names []).lookup y.1).isSome=true):=fun ⟨n,v⟩ hy=>by
  rcases S.par n (List.of_mem_zip hy).1 with q | q
  .exact .inl q
  .exact .inr ⟨q,PySem.W.cellsFrom_some _ _ _ (.inl q)⟩
 refine codeAny_call_function hr.depth (KX _ _ lk) rfl S.co S.gen rfl (PySem.W.codeRec_of KX ai) (aw _ _ _ _ ?_)
 refine wpAny_newFunctionEnv_cells S.kind a9 fun env he s1 xx=>?_
 subst he
 refine ⟨ax.keeps xx.toInCall.keep,codeAny_func ?_⟩
 have I:Inv (cxOf CX0 P w K mg base (ps++[iname]) qual (ZAC st) f a7 A outer s H E).nox [] (start (ps++[iname]) vs) H s1:=(inv_start S hr.hd e0 hl r xx).wish _
 have O:∀ y∈fr,∃ cc,(cellsFrom (s.heap.objs.size+1) (ZAC st).names []).lookup y=some cc:=fun y hy=>ZC1 (a8 y hy)
 rw [hb]
 have aj:(ps++[iname])[ps.length]?=some iname:=by simp
 have d1:=ps_def (X:=(cxOf CX0 P w K mg base (ps++[iname]) qual (ZAC st) f a7 A outer s H E).nox) (i:=ps.length) (pos:=pos) (Pt:=Pt) (c:=c) (iq:=iq) (ip:=ip) (ib:=ib) (isc:=isc) S.nd aj (.inl a0) (.inr a0) ad C B (az _ _) hd0 au (ha _ _) fun y hy=>O y (a6 _ hy rfl)
 have ag:(start (ps++[iname]) vs).length=ps.length+1:=by
  unfold start
  simp only [yAB,yAD,yCM,yAH,yCE]
  omega
 have ao:=d1 [] s1 (start (ps++[iname]) vs) H { nx:=fun ah H'=>∃ g,ah=(start (ps++[iname]) vs).set ps.length (some (.ref g)) /\ MadeMid H H' Pt pos g iname iq ip ib isc (closFrom (cellsFrom (s.heap.objs.size+1) (ZAC st).names []) isc.names []),rt:=fun _ _=>False } I ⟨hT,fun g H' M=>⟨g,rfl,M⟩⟩
 refine wpAny_execs_cons (wpAny_mono ao (fun fl s2 q=>?_) fun e s' z=>z.elim)
 cases fl with
 | ret v=>obtain ⟨_,_,_,_,_,q⟩:=q;exact q.elim
 | brk=>obtain ⟨_,_,_,q⟩:=q;exact q.elim
 | cont=>obtain ⟨_,_,_,q⟩:=q;exact q.elim
 | next=>
  obtain ⟨ah,H',J,g,rfl,M⟩:=q
  have v1:=pe_var (pos:=rp) (X:=(cxOf CX0 P w K mg base (ps++[iname]) qual (ZAC st) f a7 A outer s H E).nox) aj (.inl a0) ar aa [] s2 _ H' (fun v H2=>v=.ref g /\ H2=H') J ⟨.ref g,by rw [List.getElem?_set_self (by rw [ag];omega)],rfl,rfl⟩
  refine wpAny_execs_cons (wpAny_Return_some (wpAny_mono v1 (fun u s3 q=>?_) fun e s' z=>z.elim))
  obtain ⟨v,H2,J2,rv,rfl,rfl⟩:=q
  cases rv
  have un:Un (frs outer) [] H H2 s.heap s3.heap:=J2.base
  have b3:∀ b:Addr,b∉([]:List Addr):=fun b=>by simp
  have inj:=J2.ok.inj
  have ay:∀ (j:Nat) (y:Str),fr[j]?=some y->∃ v cc uu,(ix.map fun i=>vs.getD i .non)[j]?=some v /\ (cellsFrom (s.heap.objs.size+1) (ZAC st).names []).lookup y=some cc /\ RelV v uu /\ s3.heap.IsCell cc (some uu):=fun j y hj=>by
   obtain ⟨i,h1,h2⟩:=b0 j y hj
   have hi:i < ps.length:=(yAI.mp h2).1
   obtain ⟨v,hv⟩:∃ v,vs[i]?=some v:=⟨_,yAJ (by omega)⟩
   obtain ⟨m,_,hm⟩:=J2.loc
   have hs:((start (ps++[iname]) vs).set ps.length (some (.ref g)))[i]?=some (some v):=by
    rw [List.getElem?_set_ne (by omega)]
    unfold start
    rw [yAY (by rw [yAD];omega),yAT,hv]
    rfl
   have hN:(ps++[iname])[i]?=some y:=by rw [yAY hi];exact h2
   obtain ⟨uu,ru,ap⟩:=hm i y v hN hs (.inr (.inl (a8 y (yAQ hj))))
   refine ⟨v,?_⟩
   rcases ap with ⟨k1,_⟩ | ⟨_,cc,e1,e2⟩
   .have k2:(ZAC st).names.lookup y=some .local:=k1
    rw [a8 y (yAQ hj)] at k2
    cases k2
   .refine ⟨cc,uu,?_,e1,ru,e2⟩
    rw [yAT,h1]
    show some (vs.getD i .non)=some v
    rw [yBH,hv]
    rfl
  have Z:∀ y cc,(closFrom (cellsFrom (s.heap.objs.size+1) (ZAC st).names []) isc.names []).lookup y=some cc->y∈fr /\ (cellsFrom (s.heap.objs.size+1) (ZAC st).names []).lookup y=some cc:=fun y cc h=>by
   rcases ZBe _ _ y cc (PySem.mem_of_lookup h) with z | ⟨z1,z2⟩
   .cases z
   .have hy:=a6 _ z1 rfl
    obtain ⟨c3,h3⟩:=O y hy
    rw [h3] at z2
    exact ⟨hy,by rw [h3];exact congrArg some z2.symm⟩
  have ac:∀ y cc,y∈fr->(cellsFrom (s.heap.objs.size+1) (ZAC st).names []).lookup y=some cc->(closFrom (cellsFrom (s.heap.objs.size+1) (ZAC st).names []) isc.names []).lookup y=some cc:=fun y cc hy h=>by
   obtain ⟨c3,h3⟩:=ZBW (ZBf (cells:=cellsFrom (s.heap.objs.size+1) (ZAC st).names []) isc.names [] y (ae y hy))
   have:=(Z y c3 h3).2
   rw [h] at this
   rw [h3,Option.some.inj this]
  have U:∀ y cc,(closFrom (cellsFrom (s.heap.objs.size+1) (ZAC st).names []) isc.names []).lookup y=some cc->s.heap.objs.size <= cc /\ H2 cc=none /\ ∃ o u,s3.heap.get? cc=some o /\ o.data=.cell u:=fun y cc h=>by
   obtain ⟨hy,h2⟩:=Z y cc h
   obtain ⟨u,o,e1,e2⟩:=J2.cell y cc h2
   exact ⟨yBJ (xx.above y cc (PySem.mem_of_lookup h2)),J2.freeC y cc h2,o,u,e1,e2⟩
  generalize closFrom (cellsFrom (s.heap.objs.size+1) (ZAC st).names []) isc.names []=cl at M Z ac U
  have tr:∀ b,¬ (∃ y,cl.lookup y=some b)->back cl (fun b=>(s3.heap.get? b).map FZ) H2 b=H2 b:=fun b n=>ZCM n
  have tc:∀ y b o,cl.lookup y=some b->s3.heap.get? b=some o->back cl (fun b=>(s3.heap.get? b).map FZ) H2 b=some (FZ o):=fun y b o h e=>by rw [ZDN h,e];rfl
  have am:∀ b,b < s.heap.objs.size->¬ ∃ y,cl.lookup y=some b:=fun b hb ⟨y,z⟩=>absurd (U y b z).1 (Nat.not_le.mpr hb)
  have up:∀ b o,H2 b=some o->back cl (fun b=>(s3.heap.get? b).map FZ) H2 b=some o:=fun b o e=>by
   rw [tr b fun ⟨y,z⟩=>by rw [(U y b z).2.1] at e;cases e];exact e
  refine ⟨.ref g,back cl (fun b=>(s3.heap.get? b).map FZ) H2,J2.os,J2.bare,⟨un.keep,un.slot,fun b o e n hx=>?_,un.there,fun b xs e=>up _ _ (un.tups b xs e),fun b o u e=>up _ _ (un.frzs b o u e),fun b qs e=>?_⟩,fun b o e=>?_,rfl,hQ g _ ⟨fun b o n e=>up _ _ (M.same b o n e),?_,⟨cl,?_,fun y cc h=>(Z y cc h).1,fun y z cc h1 h2=>inj y z cc (Z y cc h1).2 (Z z cc h2).2,fun j y hj=>?_,?_⟩,M.fresh⟩⟩
  .rw [tr b (am b (Heap.lt_size e))];exact un.free b o e n hx
  .obtain ⟨more,e2⟩:=un.tbls b qs e
   exact ⟨more,up _ _ e2⟩
  .by_cases q:∃ y,cl.lookup y=some b
   .obtain ⟨y,q⟩:=q
    obtain ⟨_,_,o2,u2,e2,_⟩:=U y b q
    rw [tc y b o2 q e2] at e
    cases e
    exact ZEk e2
   .rw [tr b q] at e
    exact (J2.hok b o e).stay (fun c v _ q=>q) (fun c q=>up c _ q) fun c xs q=>up c _ q
  .exact M.tab.mono (by
    rcases M.tab with z | ⟨_,z,_⟩
    .rw [z];exact up _ _ z
    .rw [z];exact up _ _ z) fun b o e=>up b _ e
  .obtain ⟨d1,d2,d3,c3,e1,e2⟩:=M.obj
   exact ⟨d1,d2,d3,c3,up _ _ e1,e2.mono fun b o e=>up b _ e⟩
  .obtain ⟨v,cc,uu,a1,a2,a3,o,a4,a5⟩:=ay j y hj
   have al:=ac y cc (yAQ hj) a2
   exact ⟨v,cc,uu,o,a1,al,a3,tc y cc o al a4,a5⟩
  .rw [yAD];exact ab
noncomputable def ZFG (tabs:List (Addr×Addr)) (H:Hp):Prop:=∀ q∈tabs,H q.2=some (.tbl #[])
theorem law_callT {P:Program} {w:World} {K:W.Frag} {mg mb:Str->Option Value} {CX:CXT} {k:Nat} {fa a:Addr} {fd:FuncData} {x:Str} {sp:Sp} {s₁:Shared} {vs:List Value} {ns:List Int} {tabs:List (Addr×Addr)}
  (KX:K.In s₁.heap) (a6:s₁.heap.Ns mainGlobals mg) (U:s₁.heap.Ns builtinsNs mb) (ag:∀ x:Str,x≠"__name__"->mb x=bootBuiltins x) (aa:s₁.heap.NoLimit) (hg:s₁.gens=#[])
  (ha:s₁.heap.get? a=some { cls:=.type "list",data:=.seq vs.toArray }) (hi:IntsAre vs ns) (hl:ns.length <= sizeLine) (hr:Room k callerA)
  (hT:∀ q∈tabs,PySem.W.CodeHd s₁.heap q.1 q.2 /\ s₁.heap.get? q.2=some (PySem.W.tabObj #[])) (nt:PySem.W.noTabs K=true) (af:ZDv mg s₁.heap)
  (F:∀ base:Heap,K.In base->base.Ns mainGlobals mg->(∀ q∈tabs,PySem.W.CodeHd base q.1 q.2)->ZDv mg base->FnOk P w K mg base CX k fa fd [x] sp) (a5:∀ (s:Shared) (u:Value),BindsTo s fd ⟨[u],[]⟩ [(x,u)])
  (ai:∀ H:Hp,ZFG tabs H->SqL K H a (ns.map V.int)->sp [.ref a] H (fun v _=>v=.bl true) fun _ _ _=>False)
  (aj:∀ H e s',CX [] H s₁ (fun _ _ _=>False) e s'->False) :
  codeAny (model P w) callerA (.call (.ref fa) ⟨[.ref a],[]⟩) (fun r s'=>r=.ok (.ret (.bool true)) /\ OldK s₁.heap s'.heap /\ s'.os=s₁.os /\ AllBare s'.gens) s₁:=by
 have rv:=ZBy hi
 have ad:=hi.length
 have a2:∀ H:Hp,SqL K H a (ns.map V.int)->HOk P w H s₁.heap->(∀ b o,H b=some o->(b=a /\ K.lookup a=none /\ ∃ ob xs,o=.frz ob (.lst xs))∨(o=.tbl #[] /\ ∃ q∈tabs,q.2=b))->ZFG tabs H ->
   codeAny (model P w) callerA (.call (.ref fa) ⟨[.ref a],[]⟩) (fun r s'=>r=.ok (.ret (.bool true)) /\ OldK s₁.heap s'.heap /\ s'.os=s₁.os /\ AllBare s'.gens) s₁:=by
  intro H hS ab hA hO
  have B:∀ {b:Addr} {o:Obj},s₁.heap.get? b=some o->H b=none->(hidT s₁.heap H).get? b=some o:=fun e n=>hidT_get e n
  have Z:∀ {b:Addr} {o:Obj},s₁.heap.get? b=some o->(∀ a3 n',o.data≠.seq a3 n')->(o.cls=.none->∀ a3,o.data≠.fields a3)->H b=none:=fun {b o} e d1 d2=>by
   cases q:H b with
   | none=>rfl
   | some u=>
    rcases hA b u q with ⟨e',_⟩ | ⟨_,q',O,e'⟩
    .subst e'
     rw [ha] at e;cases e
     exact absurd rfl (d1 _ _)
    .subst e'
     rw [(hT q' O).2] at e;cases e
     exact absurd rfl (d2 rfl _)
  have a0:∀ {b:Addr} {m:Str->Option Value},s₁.heap.Ns b m->(hidT s₁.heap H).Ns b m:=fun {b m} ⟨o,es,ep,e,d,r⟩=>⟨o,es,ep,B e (Z e (by rw [d];intro _ _ z;cases z) (fun _=>by rw [d];intro _ z;cases z)),d,r⟩
  have a7:K.In (hidT s₁.heap H):=fun b o e=>B (KX b o e) (by
   cases q:H b with
   | none=>rfl
   | some u=>
    rcases hA b u q with ⟨e',n,_⟩ | ⟨_,q',O,e'⟩
    .subst e';rw [n] at e;cases e
    .subst e'
     have e2:=KX _ _ e
     rw [(hT q' O).2] at e2
     cases e2
     have h2:=List.all_eq_true.mp nt _ (PySem.W.mem_of_lookupK e)
     exact absurd (show false=true from h2) yBG)
  have hM:Mod K mg (hidT s₁.heap H):=⟨a7,a0 a6,⟨mb,a0 U,ag⟩,let ⟨mc,h1,h2⟩:=aa;⟨mc,a0 h1,h2⟩⟩
  have e0:Env0 P w K mg (hidT s₁.heap H) callerA [] s₁ H:=⟨rfl,hM,fun b o e=>of_hidT e,Nat.le_of_eq (hidT_size _ _),trivial,fun b U=>absurd (show b∈([]:List Addr) from U) (by simp),ab,.of_eq hg⟩
  have hC:∀ q∈tabs,PySem.W.CodeHd (hidT s₁.heap H) q.1 q.2:=fun q O=>by
   obtain ⟨o,vs,a9,tf,a4,tg,ah,a8,tt,e1,e2,e3,r⟩:=(hT q O).1
   exact ⟨o,vs,a9,tf,a4,tg,ah,a8,tt,B e1 (Z e1 (by rw [e3];intro _ _ z;cases z) (fun z=>by rw [e2] at z;cases z)),e2,e3,r⟩
  have hB:ZDv mg (hidT s₁.heap H):=by
   obtain ⟨bm,ob,b1,b2,b3,b4,b5,b6⟩:=af
   exact ⟨bm,ob,b1,b2,B b3 (Z b3 (by rw [b6];intro _ _ z;cases z) (fun z=>by rw [b4] at z;cases z)),b4,b5,b6⟩
  refine codeAny_mono ((F _ a7 (a0 a6) hC hB).run callerA [] s₁ H ⟨[.ref a],[]⟩ [.ref a] [.ref a] _ _ hr e0 (a5 s₁ (.ref a)) (.cons rfl .nil) (ai H hO hS)) fun r s' h=>?_
  cases r with
  | error e=>exact (aj H e s' h).elim
  | ok fl=>
   cases fl with
   | next=>exact False.elim h
   | brk=>exact False.elim h
   | cont=>exact False.elim h
   | ret u=>
    obtain ⟨v,H',os,ac,un,a1,r',q⟩:=h
    have q':v=.bl true:=q
    subst q'
    obtain rfl:u=Value.bool true:=r'
    have al:∀ b:Addr,b∉frs ([]:List Env):=fun b z=>absurd (show b∈([]:List Addr) from z) (by simp)
    refine ⟨rfl,⟨fun b o e=>?_,fun b o e=>un.there b o e (by simp)⟩,os,ac⟩
    cases q:H b with
    | none=>exact .inl (un.keep b o e q (al b) (by simp))
    | some u=>
     rcases hA b u q with ⟨_,_,ob,xs,z⟩ | ⟨z,q',O,e'⟩
     .subst z
      have z2:=un.frzs b ob _ q
      obtain ⟨e1,_⟩:=ab b _ q
      obtain ⟨e2,_⟩:=a1 b _ z2
      rw [e] at e1;cases e1
      exact .inl e2
     .subst z
      subst e'
      obtain ⟨more,z2⟩:=un.tbls _ _ q
      have e2:s'.heap.get? q'.2=some (PySem.W.tabObj (#[]++more)):=a1 _ _ z2
      have e3:=(hT q' O).2
      rw [e] at e3
      have e4:o=PySem.W.tabObj #[]:=Option.some.inj e3
      subst e4
      exact .inr (.inl ⟨((hT q' O).1.tab (hT q' O).2).isCodeTable,rfl,#[],more,rfl,e2⟩)
 have ae:∀ q∈tabs,q.2≠a:=fun q O z=>by
  have e:=(hT q O).2
  rw [z,ha] at e;cases e
 cases hk:K.lookup a with
 | some o=>
  have e:=KX a o hk
  rw [ha] at e
  cases e
  refine a2 (fun b=>if b∈tabs.map (·.2) then some (.tbl #[]) else none) (.inr ⟨_,vs.toArray,_,hk,rfl,rfl,rfl,by rw [yAR,ad];exact hl,by simpa using rv⟩) (fun b u z=>?_) (fun b u z=>?_) fun q O=>if_pos (List.mem_map_of_mem O)
  .by_cases U:b∈tabs.map (·.2)
   .have J:=(if_pos U).symm.trans z
    cases J
    obtain ⟨q,O,rfl⟩:=yBR.mp U
    exact (hT q O).2
   .have J:=(if_neg U).symm.trans z
    cases J
  .by_cases U:b∈tabs.map (·.2)
   .have J:=(if_pos U).symm.trans z
    cases J
    obtain ⟨q,O,e⟩:=yBR.mp U
    exact .inr ⟨rfl,q,O,e⟩
   .have J:=(if_neg U).symm.trans z
    cases J
 | none=>
  refine a2 (fun b=>if b∈tabs.map (·.2) then some (.tbl #[]) else if b=a then some (.frz { cls:=.type "list",data:=.seq vs.toArray } (.lst (ns.map V.int))) else none) (.inl (.inr ⟨{ cls:=.type "list",data:=.seq vs.toArray },?_⟩)) (fun b u z=>?_) (fun b u z=>?_) fun q O=>if_pos (List.mem_map_of_mem O)
  .dsimp only
   rw [if_neg,if_pos rfl]
   intro z
   obtain ⟨q,O,e⟩:=yBR.mp z
   exact ae q O e
  .by_cases U:b∈tabs.map (·.2)
   .have J:=(if_pos U).symm.trans z
    cases J
    obtain ⟨q,O,rfl⟩:=yBR.mp U
    exact (hT q O).2
   .have J:=(if_neg U).symm.trans z
    by_cases hba:b=a
    .have J:=(if_pos hba).symm.trans J
     cases J
     subst hba
     exact ⟨ha,by rw [yAD];exact hl,vs,_,rv,ha⟩
    .have J:=(if_neg hba).symm.trans J
     cases J
  .by_cases U:b∈tabs.map (·.2)
   .have J:=(if_pos U).symm.trans z
    cases J
    obtain ⟨q,O,e⟩:=yBR.mp U
    exact .inr ⟨rfl,q,O,e⟩
   .have J:=(if_neg U).symm.trans z
    by_cases hba:b=a
    .have J:=(if_pos hba).symm.trans J
     cases J
     exact .inl ⟨hba,hk,_,_,rfl⟩
    .have J:=(if_neg hba).symm.trans J
     cases J
noncomputable def ZEa (K:W.Frag) (tabs:List (Addr×Addr)):Sp:=fun vs H Q _=>∃ (a:Addr) (ns:List Int),vs=[.ref a] /\ SqL K H a (ns.map V.int) /\ ns.length <= 63 /\ ZFG tabs H /\ ∀ H',Q (.bl true) H'
theorem tabIn_of {K:W.Frag} {x:Str} {f c Pt:Addr} {oc B:Value} {od O:Option Addr} {fd:FuncData} {sl J:Array (Option Value)} {vs:Array Value} (a:W.nsIn K mainGlobals x=some (some (.ref f))) (l:K.lookup f=some ⟨oc,od,.func fd,sl⟩) (hc:fd.code=.ref c)
  (Z:K.lookup c=some ⟨B,O,.fields vs,J⟩) (U:vs[11]?=some (.ref Pt)):PySem.W.tabIn K x=some (c,Pt):=by
 unfold PySem.W.tabIn
 rw [a]
 dsimp only
 rw [l]
 dsimp only
 rw [hc]
 dsimp only
 rw [Z]
 dsimp only
 rw [U]
theorem walk_ofT2 {l:PySem.W.OpenLaw} {k:Nat} {q:Program} {loose:List Str} {XP:(Str->Option Value)->Heap->Prop} {YP:World->Heap->Prop} {d:DefRec} {K:Params->W.Frag} {x:Str} {names:List Str}
  (hn:l.most=some 63) (a1:d.params.defaults=[]) (hr:Room k callerA)
  (hY:∀ (w:World) (h:Heap),YP w h->(K w.params).In h) (O:∀ y∈names,∃ dr,(recsOf q).find? (fun e=>e.name == y)=some dr)
  (F:∀ (w:World) (mg:Str->Option Value) (Z:Addr) (h:Heap),(K w.params).In h->h.Ns mainGlobals mg->mg d.name=some (.ref Z) ->
   ∃ (tabs:List (Addr×Addr)) (fd:FuncData),PySem.W.noTabs (K w.params)=true /\ (∀ t∈tabs,∃ y∈names,PySem.W.tabIn (K w.params) y=some t) /\ (∀ (s:Shared) (u:Value),BindsTo s fd ⟨[u],[]⟩ [(x,u)]) /\
    ∀ base:Heap,(K w.params).In base->base.Ns mainGlobals mg->(∀ t∈tabs,PySem.W.CodeHd base t.1 t.2)->ZDv mg base->FnOk l.prog w (K w.params) mg base CX0 k Z fd [x] (ZEa (K w.params) tabs)) :
  PySem.W.WalkO q loose XP YP l.row.toRowW d [] (fun f vs=>PySem.call f vs):=by
 refine Att.attach_call hn a1 fun w s₀ s₁ mg mb Z o pm cd a2 a vs ns G Y ho hd a3 a0 U J B hg=>?_
 have KX:=hY w _ Y
 obtain ⟨tabs,fd,nt,ht,hb,hF⟩:=F w mg Z _ KX G.T.g a0
 refine law_callT (tabs:=tabs) KX G.T.g G.T.b G.T.builtins G.T.nolimit hg U J (yAL B (by decide)) hr (fun t h2=>?_) nt G.T.bmain hF hb (fun H hO hS=>⟨a,ns,rfl,hS,B,hO,fun _=>rfl⟩) fun H e s' z=>z
 obtain ⟨y,hy,e2⟩:=ht t h2
 obtain ⟨dr,e1⟩:=O y hy
 exact PySem.W.tab_of G.T KX e1 e2
theorem hix_of {B:List Nat} {ps fr:List Str} (h:B.map (fun i=>ps[i]?)=fr.map some):∀ (j:Nat) (y:Str),fr[j]?=some y->∃ i,B[j]?=some i /\ ps[i]?=some y:=fun j y e=>by
 have:=congrArg (fun l=>l[j]?) h
 simp only [yAT,e,yCK] at this
 cases q:B[j]? with
 | none=>rw [q] at this;cases this
 | some i=>rw [q] at this;exact ⟨i,rfl,by simpa using this⟩
noncomputable def inBody (s:Stmt) (j:Nat):Stmt:=(ZAN s).getD j (.Pass ⟨0,0,0,0⟩)
noncomputable def ZBD (s:Stmt):Pos:=match s with
 | .FunctionDef _ _ _ _ _ _ _ _ _ pos=>pos
 | _=>⟨0,0,0,0⟩
theorem cx_cloK {P:Program} {w:World} {K:W.Frag} {mg:Str->Option Value} {base:Heap} {N:List Str} {qual:Str} {scope:Scope} {f:Addr} {B:Value} {cl:List (Str×Addr)} {A:Around} {outer:List Env} {s:Shared} {H:Hp}:(ZET P w K mg base N qual scope f B cl A outer s H).K=K:=rfl
section
variable {prog:Program} {w:World} {A:Around} {R:Result->Shared->Prop} {I:Addr} {fp wr:List Addr} {n:Nat} {P:Nat->Value->Prop} {St:Nat->Heap->Prop}
end
section
variable {prog:Program} {w:World} {A:Around} {E:Value->Shared->Prop} {s:Shared} {l:Addr}
end
noncomputable def maxD (d:Int):List Int->Int
 | []=>d
 | x::r=>r.foldl (fun m y=>if m < y then y else m) x
section
variable {X:Cx} {e d:Expr} {te td:TE} {p pos:Pos} {kpos:Pos}
noncomputable def tMaxD (K:W.Frag) (te td:TE):TE:=fun σ H Q=>te σ H fun x H1=>td σ H1 fun y H2=>∃ a ns dd,x=.ref a /\ y=.int dd /\ SqL K H2 a (ns.map V.int) /\ Q (.int (maxD dd ns)) H2
end
theorem lkc {k B:Str} {v:V} {r:List (Str×V)}:List.lookup k ((B,v)::r)=if k=B then some v else List.lookup k r:=by
 rw [yCD]
 by_cases h:k=B
 .subst h;simp
 .have:(k == B)=false:=by simpa using h
  rw [this,if_neg h]
theorem ZBh {f:Str} {v u:V}:∀ {fs:List (Str×V)},fs.lookup f=some u->(putF f v fs).length=fs.length
 | [],h=>by cases h
 | (g,w)::r,h=>by
  unfold putF
  by_cases e:g=f
  .rw [if_pos e];rfl
  .rw [if_neg e,yAH,yAH]
   rw [lkc,if_neg (fun z=>e z.symm)] at h
   rw [ZBh h]
structure Ins (H:Hp) (a C:Addr) (fl:List (Str×V)):Prop where
 ex:∃ dx fs,H a=some (.ins C dx fs) /\ fs.length <= 50 /\ ∀ f,fs.lookup f=fl.lookup f
theorem Ins.of {H:Hp} {a C dx:Addr} {fl:List (Str×V)} (h:H a=some (.ins C dx fl)) (hl:fl.length <= 50):Ins H a C fl:=⟨dx,fl,h,hl,fun _=>rfl⟩
theorem Ins.congr {H:Hp} {a C:Addr} {fl fl':List (Str×V)} (h:Ins H a C fl) (e:∀ f,fl.lookup f=fl'.lookup f):Ins H a C fl':=let ⟨dx,fs,h1,h2,h3⟩:=h.ex;⟨dx,fs,h1,h2,fun f=>(h3 f).trans (e f)⟩
theorem Ins.mono {H H':Hp} {a C:Addr} {fl:List (Str×V)} (h:Ins H a C fl) (s:Same H H'):Ins H' a C fl:=let ⟨dx,fs,h1,h2,h3⟩:=h.ex;⟨dx,fs,s _ _ h1,h2,h3⟩
theorem Ins.keep {H H':Hp} {a C:Addr} {fl:List (Str×V)} (h:Ins H a C fl) (s:H' a=H a):Ins H' a C fl:=let ⟨dx,fs,h1,h2,h3⟩:=h.ex;⟨dx,fs,s.trans h1,h2,h3⟩
theorem Ins.ne {H:Hp} {a b C:Addr} {fl:List (Str×V)} {o:HO} (h:Ins H a C fl) (B:H b=some o) (n:∀ C dx fs,o≠.ins C dx fs):b≠a:=fun z=>by
 obtain ⟨dx,fs,h1,_⟩:=h.ex
 rw [z,h1] at B
 exact n _ _ _ (Option.some.inj B).symm
theorem Ins.neN {H:Hp} {a b C:Addr} {fl:List (Str×V)} (h:Ins H a C fl) (B:H b=none):b≠a:=fun z=>by
 obtain ⟨dx,fs,h1,_⟩:=h.ex
 rw [z,h1] at B;cases B
section
variable {K:W.Frag} {f:Str} {a C:Addr} {fl:List (Str×V)} {v:V} {H:Hp}
theorem Ins.get {Q:VK} (h:Ins H a C fl) (cl:Cls K C) (n:NoAttr K C f) (l:fl.lookup f=some v) (q:Q v H):getF K f (.ref a) H Q:=by
 obtain ⟨dx,fs,h1,h2,h3⟩:=h.ex
 exact getF_of h1 cl n ((h3 f).trans l) q
theorem Ins.set {Q:Hp->Prop} (h:Ins H a C fl) (cl:Cls K C) (n:NoAttr K C f) (q:∀ H',Ins H' a C (putF f v fl)->(∀ b,b≠a->H' b=H b)->Q H') (hl:∃ u,fl.lookup f=some u):setF K f (.ref a) v H Q:=by
 obtain ⟨dx,fs,h1,h2,h3⟩:=h.ex
 obtain ⟨u,J⟩:=hl
 refine setF_of h1 cl n (by omega) (q _ ⟨dx,_,ZAG,?_,fun g=>?_⟩ fun b B=>ZAK B)
 .rw [ZBh ((h3 f).trans J)];exact h2
 .rw [ZAd,ZAd,h3]
theorem Ins.meth {m:Str} {R:Prop} (h:Ins H a C fl) (l:fl.lookup m=none) (q:R):∃ b dx fs,V.ref a=.ref b /\ H b=some (.ins C dx fs) /\ fs.lookup m=none /\ R:=by
 obtain ⟨dx,fs,h1,h2,h3⟩:=h.ex
 exact ⟨a,dx,fs,rfl,h1,(h3 m).trans l,q⟩
end
noncomputable def augA (K:W.Frag) (tv:TE) (rd:V->V->Hp->VK->Prop) (f:Str) (D:Ends) (σ:St) (x:V) (H1:Hp):Prop:=∃ a C dx fs v,x=.ref a /\ H1 a=some (.ins C dx fs) /\ Cls K C /\ NoAttr K C f /\ fs.lookup f=some v /\
 tv σ H1 fun y H2=>rd v y H2 fun z H3=>∃ dx' fs',H3 a=some (.ins C dx' fs') /\ fs'.length < 1000 /\ D.nx σ (upd H3 a (.ins C dx' (putF f z fs')))
theorem sFldAug_eq {K:W.Frag} {ta tv:TE} {rd:V->V->Hp->VK->Prop} {f:Str} {D:Ends} {σ:St} {H:Hp}:sFldAug K ta tv rd f D σ H=ta σ H (fun x H1=>augA K tv rd f D σ x H1):=rfl
theorem Ins.aug {K:W.Frag} {f:Str} {a C:Addr} {fl:List (Str×V)} {i j:Int} {H:Hp} {D:Ends} {σ:St} (h:Ins H a C fl) (cl:Cls K C) (n:NoAttr K C f) (l:fl.lookup f=some (.int i))
  (q:∀ H',Ins H' a C (putF f (.int (i+j)) fl)->(∀ b,b≠a->H' b=H b)->D.nx σ H'):augA K (tC (.int j)) rAdd f D σ (.ref a) H:=by
 obtain ⟨dx,fs,h1,h2,h3⟩:=h.ex
 refine ⟨a,C,dx,fs,_,rfl,h1,cl,n,(h3 f).trans l,i,j,rfl,rfl,dx,fs,h1,by omega,q _ ⟨dx,_,ZAG,?_,fun g=>?_⟩ fun b B=>ZAK B⟩
 .rw [ZBh ((h3 f).trans l)];exact h2
 .rw [ZAd,ZAd,h3]
theorem setX {K:W.Frag} {f:Str} {a C dx:Addr} {fs:List (Str×V)} {v:V} {H:Hp} {Q:Hp->Prop} (h:H a=some (.ins C dx fs)) (cl:Cls K C) (n:NoAttr K C f) (hl:fs.length <= 20) (q:∀ H',H' a=some (.ins C dx (putF f v fs))->(∀ b,b≠a->H' b=H b)->Q H'):setF K f (.ref a) v H Q :=
 setF_of h cl n (by omega) (q _ ZAG fun b B=>ZAK B)
theorem ZAR {f:Str} {v:V} {fs:List (Str×V)} {n:Nat} (h:fs.length <= n):(putF f v fs).length <= n+1:=yAL (ZCS f v fs) (Nat.succ_le_succ h)
theorem ZEt {f0:Str} {B:V}:(putF f0 B []).length <= 20:=yAL (ZAR (yAA 0)) (by decide)
theorem ZEs {f0 f1:Str} {B v1:V}:(putF f1 v1 (putF f0 B [])).length <= 20:=yAL (ZAR (ZAR (yAA 0))) (by decide)
theorem ZEr {f0 f1 B:Str} {J v1 v2:V}:(putF B v2 (putF f1 v1 (putF f0 J []))).length <= 20:=yAL (ZAR (ZAR (ZAR (yAA 0)))) (by decide)
theorem ZE8 {f0 f1 B J:Str} {O v1 v2 v3:V}:(putF J v3 (putF B v2 (putF f1 v1 (putF f0 O [])))).length <= 20:=yAL (ZAR (ZAR (ZAR (ZAR (yAA 0))))) (by decide)
theorem putL5 {f0 f1 B O U:Str} {Z v1 v2 v3 J:V}:(putF U J (putF O v3 (putF B v2 (putF f1 v1 (putF f0 Z []))))).length <= 20:=yAL (ZAR (ZAR (ZAR (ZAR (ZAR (yAA 0)))))) (by decide)
theorem putL6 {f0 f1 B U f4 O:Str} {v0 v1 v2 v3 J Z:V}:(putF O Z (putF f4 J (putF U v3 (putF B v2 (putF f1 v1 (putF f0 v0 [])))))).length <= 20:=yAL (ZAR (ZAR (ZAR (ZAR (ZAR (ZAR (yAA 0))))))) (by decide)
theorem putL7 {f0 f1 B Z f4 U f6:Str} {v0 v1 v2 v3 J v5 O:V}:(putF f6 O (putF U v5 (putF f4 J (putF Z v3 (putF B v2 (putF f1 v1 (putF f0 v0 []))))))).length <= 20:=yAL (ZAR (ZAR (ZAR (ZAR (ZAR (ZAR (ZAR (yAA 0)))))))) (by decide)
theorem putL8 {f0 f1 B f3 f4 Z f6 f7:Str} {v0 v1 v2 v3 J v5 U O:V}:(putF f7 O (putF f6 U (putF Z v5 (putF f4 J (putF f3 v3 (putF B v2 (putF f1 v1 (putF f0 v0 [])))))))).length <= 20:=yAL (ZAR (ZAR (ZAR (ZAR (ZAR (ZAR (ZAR (ZAR (yAA 0))))))))) (by decide)
theorem mx_eq (p q:Int):(if q > p then q else p)=max p q:=by split <;> omega
theorem ZEw (p q:Int):(if q < p then q else p)=min p q:=by split <;> omega
section
variable {X:Cx}
end
theorem ZBx {us ds:List Value} {ps:List Str} {n:Nat} (h:(us++ds).length=ps.length) (e:n+ds.length=ps.length):us.length=n:=by
 rw [yAB] at h;omega
noncomputable def Fr (S:List Addr) (H H':Hp):Prop:=∀ b o,b∉S->H b=some o->H' b=some o
theorem Fr.refl {S:List Addr} {H:Hp}:Fr S H H:=fun _ _ _ h=>h
theorem Fr.trans {S:List Addr} {H H' H'':Hp} (e:Fr S H H') (f:Fr S H' H''):Fr S H H'':=fun b o n h=>f b o n (e b o n h)
theorem Same.fr {S:List Addr} {H H':Hp} (e:Same H H'):Fr S H H':=fun b o _ h=>e b o h
theorem Fr.upd {S:List Addr} {H:Hp} {l:Addr} {o:HO} (h:l∈S):Fr S H (upd H l o):=fun b o' n e=>by
 have z:b≠l:=fun z=>n (by rw [z];exact h)
 rw [ZAK z];exact e
end L2
namespace PySem
namespace F
theorem nolen_lri:typeLookup (.type "list_reverseiterator") "__len__"=pure none:=by rw [typeLookup_type,builtinLookup_eq_fast];kernel_rfl
theorem hint_lri:typeLookup (.type "list_reverseiterator") "__length_hint__"=pure (some (.builtin "list_reverseiterator.__length_hint__")):=by rw [typeLookup_type,builtinLookup_eq_fast];kernel_rfl
end F
section
variable {prog:Program} {w:World} {A:Around} {s:Shared} {R:Result->Shared->Prop}
variable {I:Addr} {fp wr:List Addr} {G:Array GenState->Array GenState->Prop} {n:Nat} {P:Nat->Value->Prop} {St:Nat->Shared->Prop}
theorem wpAny_extend_rev (W:WalksS prog w A.in1 I fp wr G n P St) (hT:∀ i s,St i s->s.TypeIs (.ref I) "list_reverseiterator") (S:Addr) (res:Value) (O:Nat) (J:St 0 s) (U:S∉fp) (hI:I∈fp)
  (hS:s.heap.get? S=some { cls:=.type "list",data:=.seq #[] O })
  (hR:∀ s' B c',Moved (S::wr) G s s'->s'.heap.get? S=some { cls:=.type "list",dict:=none,data:=.seq B c',slots:=#[] }->ItemsOf P B n->R (.ok (.ret res)) s') (hn:n <= sizeLine) :
  wpAny (model prog w) A.in1 (Builtin.List.listExtendWith (.ref S) (.ref I) res)
   (fun fin s'=>match fin with | .done f=>R (.ok f) s' | .again c'=>c'.quiet=true /\ codeAny (model prog w) A c' R s') (fun e s'=>R (.error e) s') s:=by
 have a1:S≠I:=fun e=>U (e ▸ hI)
 unfold Builtin.List.listExtendWith
 refine wpAny_bind (wpAny_typeOf (hT 0 _ J) ?_)
 have h1:Builtin.List.listSameRef (.ref S) (.ref I)=false:=by simp [Builtin.List.listSameRef,a1]
 rw [if_neg (by rw [h1];decide)]
 refine wpAny_bind (W.self 0 _ _ _ J ?_)
 refine wpAny_bind (wpAny_holding ?_)
 unfold Builtin.List.listLengthHint
 refine wpAny_bind (wpAny_specialOf (hT 0 _ J) F.nolen_lri ?_)
 show wpAny _ A.in1 (specialOf (Value.ref I) (Str.ofString "__length_hint__") >>= _) _ _ _
 refine wpAny_bind (wpAny_specialOf (hT 0 _ J) F.hint_lri ?_)
 (generalize hid:("list_reverseiterator.__length_hint__":String)=id0;(fail_if_success (clear hid id0));wp_delta;rw [show splitId id0=some ("list_reverseiterator","__length_hint__") from by subst hid;decide +kernel];subst hid)
 refine wpAny_bind (wpAny_isInstance (b:=true) (hT 0 _ J) (by rw [isSubtype_type];kernel_rfl) ?_)
 refine wpAny_pure ?_
 rw [if_neg (by decide)]
 refine wpAny_pure ⟨plainId_quiet F.plain_extend_loop _,codeAny_extend_loopS W hn _ U _ n 0 _ _ _ rfl (yAG _) J hS (ItemsOf.nil P) fun s' B c' hm a0 Z=>?_⟩
 exact hR s' B c' hm a0 Z
theorem wpAny_list_init_rev (W:WalksS prog w A.in1 I fp wr G n P St) (hT:∀ i s,St i s->s.TypeIs (.ref I) "list_reverseiterator") (S:Addr) (a2:St 0 s) (U:S∉fp) (hI:I∈fp)
  (hS:s.heap.get? S=some { cls:=.type "list",data:=.seq #[] })
  (hR:∀ s' B c',Moved (S::wr) G s s'->s'.heap.get? S=some { cls:=.type "list",dict:=none,data:=.seq B c',slots:=#[] }->ItemsOf P B n->R (.ok (.ret .none)) s') (hn:n <= sizeLine) :
  wpAny (model prog w) A.in1 (Builtin.«list.__init__» ⟨[.ref S,.ref I],[]⟩)
   (fun fin s'=>match fin with | .done f=>R (.ok f) s' | .again c'=>c'.quiet=true /\ codeAny (model prog w) A c' R s') (fun e s'=>R (.error e) s') s:=by
 show wpAny _ A.in1 (do let old <- Builtin.List.listItems (.ref S);Builtin.List.listUpdate (.ref S) (fun _=>#[]);letGo old.toList.reverse;Builtin.List.listExtendWith (.ref S) (.ref I) .none) _ _ s
 refine wpAny_bind ?_
 unfold Builtin.List.listItems
 refine wpAny_bind (wpAny_seqItems hS rfl (wpAny_pure ?_))
 show wpAny _ A.in1 (updateSeq S (fun _=>#[]) >>= fun _=>letGo (#[]:Array Value).toList.reverse >>= fun _=>Builtin.List.listExtendWith (.ref S) (.ref I) .none) _ _ s
 refine wpAny_bind (wpAny_updateSeq hS rfl ?_)
 have J:=Heap.get?_update_self (Obj.mapSeq (fun _=>(#[]:Array Value))) hS rfl
 have O:∀ b o,b≠S->s.heap.get? b=some o->(s.heap.update S (Obj.mapSeq (fun _=>(#[]:Array Value)))).get? b=some o :=
  fun b o Z e=>(Heap.get?_update_other _ _ (Ne.symm Z)).trans e
 refine wpAny_bind (wpAny_letGo ?_)
 refine wpAny_extend_rev (hn:=hn) W hT S .none _ (W.frame 0 s _ s.toks a2 (yAA _) fun b Z o e=>O b o (fun h=>U (h ▸ Z)) e) U hI J fun s' B c' hm a1 a0=>?_
 exact hR s' B c' (Moved.trans W.gtrans ((Moved.refl W.grefl).then_heap (yAA _) fun b o Z e=>O b o (fun h=>Z (h ▸ yAF)) e) hm) a1 a0
end
section
variable {prog:Program} {w:World} {A:Around} {E:Value->Shared->Prop} {s:Shared}
variable {I:Addr} {fp wr:List Addr} {G:Array GenState->Array GenState->Prop} {n:Nat} {P:Nat->Value->Prop} {St:Nat->Shared->Prop}
theorem call_list_revW {Q:Value->Shared->Prop} (W:WalksS prog w A.in1.in1 I fp wr G n P St) (hT:∀ i s,St i s->s.TypeIs (.ref I) "list_reverseiterator") (a0:St 0 s) (a1:∀ b∈fp,b < s.heap.objs.size) (hI:I∈fp)
  (hQ:∀ s' B c',Moved (s.heap.objs.size::wr) G { s with heap:=s.heap.push { cls:=.type "list",data:=.seq #[] } } s' ->
   s'.heap.get? s.heap.objs.size=some { cls:=.type "list",dict:=none,data:=.seq B c',slots:=#[] }->ItemsOf P B n->Q (.ref s.heap.objs.size) s') (hn:n <= sizeLine) :
  wpAny (model prog w) A (call (.type "list") [.ref I]) Q E s:=by
 have U:s.heap.objs.size∉fp:=fun hm=>yBQ _ (a1 _ hm)
 refine callType_codes (Q₁:=fun obj s₁=>obj=.ref s.heap.objs.size /\ s₁={ s with heap:=s.heap.push { cls:=.type "list",data:=.seq #[] } }) F.called_list (F.typeCall_list_1 _) F.entry_list_init
  (code_list_new _ ⟨rfl,rfl⟩) fun obj s₁ J=>?_
 obtain ⟨rfl,rfl⟩:=J
 have hS:(s.heap.push { cls:=.type "list",data:=.seq #[] }).get? s.heap.objs.size=some { cls:=.type "list",data:=.seq #[] }:=Heap.get?_push_size _ rfl
 refine ⟨⟨_,hS,rfl⟩,F.args_list_init_2 _ _,wpAny_list_init_rev (hn:=hn) W hT _ (W.frame 0 s _ s.toks a0 (yAA _) fun b _ o e=>Heap.get?_push_of_some _ e) U hI hS fun s' B c' hm Z O=>?_⟩
 exact ⟨rfl,hQ s' B c' hm Z O⟩
end
end PySem
namespace L2
open PySem PySem.Spec PyProof.Rows
noncomputable def ZEz (K:W.Frag) (t:TA):TE:=fun σ H Q=>t σ H fun vs H1=>∃ (l:Addr) (ys:List V),vs=[.ref l] /\ SqL K H1 l ys /\ ∀ r,H1 r=none->Q (.ref r) (upd H1 r (.lst ys.reverse))
section
variable {X:Cx} {e:Expr} {ta:TA} {p p2 pos pos2:Pos}
theorem pe_list_rev (hc:X.calm=true) (hg:Gl X "list") (hm:X.mg "list"=none) (a5:Gl X "reversed") (a6:X.mg "reversed"=none) (ha:PA X [e] ta)
  (he:starEach [.Call (.Name "reversed" p2) [e] [] pos2] X.env=(false,eval (.Call (.Name "reversed" p2) [e] [] pos2) X.env)::starEach [] X.env:=by rfl) (a7:(backTo pos (starEach [] X.env)).any (·.1)=false:=by rfl)
  (a1:starEach [e] X.env=(false,eval e X.env)::starEach [] X.env:=by rfl) (a0:(backTo pos2 (starEach [] X.env)).any (·.1)=false:=by rfl) :
  PE X (.Call (.Name "list" p) [.Call (.Name "reversed" p2) [e] [] pos2] [] pos) (ZEz X.K ta):=by
 intro pins s σ H Q I h
 refine wpAny_Call_Name_kw (ZCs I hg hm PyProof.Rows.boot_list ?_ (by decide) (by decide))
 refine PyProof.Rows.callWith_type1 ?_ he a7
 rw [he]
 show wpAny _ _ (spliced ((false,eval (.Call (.Name "reversed" p2) [e] [] pos2) X.env)::backTo pos (starEach [] X.env))) _ _ s
 refine Calls.spliced_cons ?_
 refine wpAny_Call_Name_kw (ZCs I a5 a6 PyProof.Rows.boot_reversed ?_ (by decide) (by decide))
 refine PyProof.Rows.callWith_type1 (thn (ha pos2 pins s σ H _ I h) fun us s1 zz=>?_) a1 a0
 obtain ⟨vs,H1,I1,r1,q1⟩:=zz
 obtain ⟨l,ys,rfl,hl,q⟩:=q1
 obtain ⟨u,rfl,rx⟩:=ZDE r1
 cases rx
 obtain ⟨its,r',pl,hz⟩:=I1.list hl
 have a4:l < s1.heap.objs.size:=by obtain ⟨o,ho,_⟩:=pl.isList;exact Heap.lt_size ho
 refine call_reversed_list pl.isList ?_
 refine Calls.spliced_nil ?_
 have hh:X.A.handled=none:=I1.ok.hd hc
 have a3:l≠s1.heap.objs.size:=yAM a4
 have W:=(Walks.listRev (prog:=X.prog) (w:=X.w) (A:=X.A.in1.in1) hh s1.heap.objs.size l a3 its.toArray).toS
 have Z:its.toArray.size=its.length:=yAR ..
 have a8:=r'.length
 refine call_list_revW W (fun i s st=>st.2.1.typeIs) ⟨yAG _,⟨_,Heap.get?_push_size _ rfl,rfl,by simp [revObj]⟩,pl.isList.at fun o e=>Heap.get?_push_of_some _ e⟩ (fun b hb=>?_) yAF (fun s' B c' hm a2 O=>?_) (by rw [Z];omega)
 .rcases yAE.mp hb with z | z
  .rw [z];exact Heap.lt_size (Heap.get?_push_size _ rfl)
  .rw [yAO.mp z]
   obtain ⟨o,ho,_⟩:=pl.isList
   exact Heap.lt_size (Heap.get?_push_of_some _ ho)
 .rw [Moved.eq_with hm]
  have U:s1.heap.objs.size <= (s1.heap.push (revObj l ((its.toArray.size:Int)-1))).objs.size:=yBJ (Heap.lt_size (Heap.get?_push_size _ rfl))
  have e:B.toList=its.reverse:=by
   refine yCL fun j=>?_
   have sz:B.toList.length=its.length:=by rw [yAN,O.1,Z]
   by_cases hj:j < its.length
   .have h1:B.toList[j]?=some (B.toList[j]'(by omega)):=yAJ (by omega)
    have h2:=O.2 j _ (by rw [<- yAV];exact h1)
    rw [h1,<- h2,List.getElem?_reverse hj,Z]
    simp
   .rw [yBM (by omega),yBM (by rw [List.length_reverse];omega)]
  refine ⟨.ref _,_,I1.laid (h':=s'.heap) (t':=s'.toks) (o:=.lst ys.reverse) (a:=(s1.heap.push (revObj l ((its.toArray.size:Int)-1))).objs.size) (fun b u hb=>hm.heap b u (fun z=>?_) (Heap.get?_push_of_some _ (Heap.get?_push_of_some _ hb))) U ⟨by rw [List.length_reverse];exact hz,B.toList,c',by rw [e];exact r'.reverse,by simpa using a2⟩,rfl,q _ (I1.hok.fresh U)⟩
  have J:=Heap.lt_size hb
  rcases yAE.mp z with z | z
  .rw [z] at J;exact absurd J (Nat.not_lt.mpr U)
  .rw [yAO.mp z] at J;exact yBQ _ J
end
noncomputable def compR2 (g:TG) (tt:TT) (te:TE) (σ0:St) (Q:VK) (x y:V) (H1:Hp):Prop:=∃ i j:Int,[x,y]=[.int i,.int j] /\ (-(2 ^ 62) <= i /\ i < 2 ^ 62 /\ -(2 ^ 62) <= j /\ j < 2 ^ 62) /\ compR i g tt te σ0 Q (j-i).toNat H1
theorem tCompR2_eq {k:Nat} {js:List Nat} {t u:TE} {g:TG} {tt:TT} {te:TE} {σ:St} {H:Hp} {Q:VK}:ZDl k js (ZFA (ZCI t (ZCI u tNil))) g tt te σ H Q=t σ H (fun x H1=>u σ H1 fun y H2=>compR2 g tt te (up k js σ) Q x y H2):=rfl
section
variable {X:Cx}
end
noncomputable def Itz (K:W.Frag) (a b:Addr):It :=
 ⟨fun i H=>∃ xs x ys y,SqL K H a xs /\ xs[i]?=some x /\ SqL K H b ys /\ ys[i]?=some y,fun i H v H'=>∃ p x y,H p=none /\ (∀ xs,SqL K H a xs->xs[i]?=some x) /\ (∀ ys,SqL K H b ys->ys[i]?=some y) /\ H'=upd H p (.tup [x,y]) /\ v=.ref p,fun i H=>∃ xs ys,SqL K H a xs /\ SqL K H b ys /\ (xs.length <= i∨ys.length <= i)⟩
section
variable {X:Cx}
noncomputable def iZip (K:W.Frag) (ta:TA):TI:=fun σ H R=>ta σ H fun vs H1=>∃ a b,vs=[.ref a,.ref b] /\ (∃ xs,SqL K H1 a xs) /\ (∃ xs,SqL K H1 b xs) /\ R (Itz K a b) H1
end
section
variable {K:W.Frag} {a b:Addr} {xs ys:List V} {g:TG} {tb:TS} {D:Ends} {σ:St} {H:Hp}
noncomputable def forZ (K:W.Frag) (g:TG) (tb:TS) (D:Ends) (σ:St) (x y:V) (H1:Hp):Prop:=∃ a b,[x,y]=[.ref a,.ref b] /\ (∃ xs,SqL K H1 a xs) /\ (∃ xs,SqL K H1 b xs) /\ ∃ W:Nat->Nat->St->Hp->Prop,(∃ m,W 0 m σ H1) /\ ∀ i m σ H,W i m σ H ->
 ((Itz K a b).stop i H /\ D.nx σ H)∨((Itz K a b).go i H /\ ∃ N:St->Hp->Prop,(∀ σ' H',N σ' H'->∃ m',m' < m /\ W (i+1) m' σ' H') /\ ∀ x H',(Itz K a b).yld i H x H'->g x σ H' fun σ2 H2=>tb { D with nx:=N,ct:=N,bk:=D.nx } σ2 H2)
theorem tForZ_eq {t u:TE}:tFor (iZip K (ZCI t (ZCI u tNil))) g tb D σ H=t σ H (fun x H1=>u σ H1 fun y H2=>forZ K g tb D σ x y H2):=rfl
end
section
open PySem.SeqAt
open PySem.AutoSeq1 (wpAny_loadPart')
open PySem.MeetsSeq PySem.MeetsSeq2 PySem.MeetsSeq3 HT
end
section
variable {prog:Program} {w:World} {A:Around} {E:Value->Shared->Prop} {s:Shared}
end
section
variable {X:Cx}
end
end L2
namespace L2S
open PySem PyProof.Rows
noncomputable def kn (f:Keyed->Int) (xs:Array Keyed) (i:Nat):Int:=((xs[i]?).map f).getD 0
theorem ZA4 {f:Keyed->Int} {xs ys:Array Keyed} {i j:Nat} (h:xs[i]?=ys[j]?):kn f xs i=kn f ys j:=by unfold kn;rw [h]
structure Asks (M:Model) (A:Around) (E:Value->Shared->Prop) (s:Shared) (κ:SortKind) (a₀:Array Keyed) (f:Keyed->Int):Prop where
 lt:∀ x y,x∈a₀.toList->y∈a₀.toList->∀ (st:SortSt) (Q:Option Bool->SortSt->Prop),kindOf st=κ->Q (some (decide (f x < f y))) st->wpS M A E s (lt' x y) Q st
structure SB (κ:SortKind) (a₀:Array Keyed) (st:SortSt):Prop where
 perm:(arrOf st).Perm a₀
 kind:kindOf st=κ
 fail:failedOf st=none
theorem SB.size {κ:SortKind} {a₀:Array Keyed} {st:SortSt} (h:SB κ a₀ st):(arrOf st).size=a₀.size:=h.perm.size_eq
theorem SB.arr {κ:SortKind} {a₀:Array Keyed} {st:SortSt} (h:SB κ a₀ st) {xs:Array Keyed} (B:xs.Perm (arrOf st)):SB κ a₀ (setArr st xs):=⟨B.trans h.perm,h.kind,h.fail⟩
theorem SB.get {κ:SortKind} {a₀:Array Keyed} {st:SortSt} {f:Keyed->Int} (h:SB κ a₀ st) {i:Nat} (hi:i < a₀.size):∃ x,(arrOf st)[i]?=some x /\ x∈a₀.toList /\ kn f (arrOf st) i=f x:=by
 have B:i < (arrOf st).size:=by rw [h.size];exact hi
 refine ⟨(arrOf st)[i],getElem?_pos _ i B,(Array.perm_iff_toList_perm.mp h.perm).mem_iff.mp (by simp),?_⟩
 unfold kn
 rw [getElem?_pos _ i B]
 rfl
noncomputable def Up (f:Keyed->Int) (xs:Array Keyed) (lo n:Nat):Prop:=∀ i j,lo <= i->i <= j->j < lo+n->kn f xs i <= kn f xs j
noncomputable def Down (f:Keyed->Int) (xs:Array Keyed) (lo n:Nat):Prop:=∀ i j,lo <= i->i <= j->j < lo+n->kn f xs j <= kn f xs i
noncomputable def Kept (lo:Nat) (xs ys:Array Keyed):Prop:=∀ i,i < lo->ys[i]?=xs[i]?
theorem Kept.refl {lo:Nat} {xs:Array Keyed}:Kept lo xs xs:=fun _ _=>rfl
theorem Kept.trans {lo:Nat} {xs ys zs:Array Keyed} (a:Kept lo xs ys) (b:Kept lo ys zs):Kept lo xs zs:=fun i h=>(b i h).trans (a i h)
theorem ZC8 {f:Keyed->Int} {xs:Array Keyed} {i j:Nat} (B:j <= xs.size) (k:Nat):kn f (mirror xs i j ((j-i) / 2)) k=if i <= k /\ k < j then kn f xs (i+j-1-k) else kn f xs k:=by
 have e:=getElem?_mirror_all (i:=i) B k
 split
 .rename_i h;rw [if_pos h] at e;exact ZA4 e
 .rename_i h;rw [if_neg h] at e;exact ZA4 e
theorem ZBt {lo:Nat} {xs:Array Keyed} {i j:Nat} (B:j <= xs.size) (hi:lo <= i):Kept lo xs (mirror xs i j ((j-i) / 2)):=fun k J=>by
 rw [getElem?_mirror_all B k,if_neg (by omega)]
theorem ZC7 {f:Keyed->Int} {xs:Array Keyed} {i j:Nat} (J:j <= xs.size) (B:∀ k,i <= k->k < j->kn f xs k=kn f xs (j-1)) (k:Nat):kn f (mirror xs i j ((j-i) / 2)) k=kn f xs k:=by
 rw [ZC8 J]
 split
 .rename_i h;rw [B _ (by omega) (by omega),B k h.1 h.2]
 .rfl
section
variable {M:Model} {A:Around} {E:Value->Shared->Prop} {s:Shared} {κ:SortKind} {a₀:Array Keyed} {f:Keyed->Int}
theorem ZDt {st:SortSt} {i j:Nat} {Q:Option Bool->SortSt->Prop} (L:Asks M A E s κ a₀ f) (B:SB κ a₀ st) (hi:i < a₀.size) (Z:j < a₀.size)
  (h:Q (some (decide (kn f (arrOf st) i < kn f (arrOf st) j))) st):wpS M A E s (ltAt' i j) Q st:=by
 obtain ⟨x,U,m1,k1⟩:=B.get (f:=f) hi
 obtain ⟨y,e2,O,J⟩:=B.get (f:=f) Z
 rw [ltAt'_eq]
 refine wpS_bind (wpS_get ?_)
 show wpS _ _ _ _ (elem' (arrOf st) i >>= fun x=>elem' (arrOf st) j >>= fun y=>lt' x y) Q st
 rw [elem'_eq,elem'_eq,U,e2]
 refine wpS_bind (wpS_pure (wpS_bind (wpS_pure (L.lt x y m1 O st Q B.kind ?_))))
 rw [<- k1,<- J]
 exact h
theorem ZEG {st:SortSt} {i j:Nat} {Q:Unit->SortSt->Prop} (h:Q () (setArr st (mirror (arrOf st) i j ((j-i) / 2)))):wpS M A E s (reverseSlice' i j) Q st:=by
 rw [reverseSlice'_eq]
 exact wpS_modify h
noncomputable def ZCJ (lo a nrem:Nat):StateT SortSt Sem AscSt :=
 forIn [a:nrem] ((none,a):AscSt) fun _ c=>do
  let r <- ltAt' (lo+c.snd) (lo+c.snd-1)
  match r with
  | some b=>if b=true then pure (ForInStep.done (none,c.snd)) else pure (ForInStep.yield (none,c.snd+1))
  | _=>pure (ForInStep.done (some none,c.snd))
noncomputable def ZDw (lo n nrem:Nat):StateT SortSt Sem (Option Nat):=do
 reverseSlice' lo (lo+n)
 let c <- ZCJ lo n nrem
 match c.fst with
 | some r=>pure r
 | none=>pure (some c.snd)
noncomputable def ZCH (lo n nrem:Nat):StateT SortSt Sem DescSt :=
 forIn [n:nrem] ((none,n,0):DescSt) fun _ c=>do
  let r <- ltAt' (lo+c.snd.fst) (lo+c.snd.fst-1)
  match r with
  | some b=>
   if b=true then
    if c.snd.snd > 0 then do
     reverseSlice' (lo+c.snd.fst-(c.snd.snd+1)) (lo+c.snd.fst)
     pure (ForInStep.yield (none,c.snd.fst+1,0))
    else pure (ForInStep.yield (none,c.snd.fst+1,0))
   else do
    let r2 <- ltAt' (lo+c.snd.fst-1) (lo+c.snd.fst)
    match r2 with
    | some b2=>
     if b2=true then pure (ForInStep.done (none,c.snd.fst,c.snd.snd))
     else pure (ForInStep.yield (none,c.snd.fst+1,c.snd.snd+1))
    | _=>pure (ForInStep.done (some none,c.snd.fst,c.snd.snd))
  | _=>pure (ForInStep.done (some none,c.snd.fst,c.snd.snd))
noncomputable def ZCe (lo n nrem:Nat):StateT SortSt Sem (Option Nat):=do
 liftM (rule "list.sort.descending-run")
 let c <- ZCH lo (n+1) nrem
 match c.fst with
 | some r=>pure r
 | none=>
  if c.snd.snd > 0 then do
   reverseSlice' (lo+c.snd.fst-(c.snd.snd+1)) (lo+c.snd.fst)
   ZDw lo c.snd.fst nrem
  else ZDw lo c.snd.fst nrem
theorem bnd {α B:Type} (m:StateT SortSt Sem α) {g h:α->StateT SortSt Sem B} (e:∀ a,g a=h a):(m >>= g)=(m >>= h):=by rw [show g=h from funext e]
theorem count_eq (lo nrem:Nat):countRun' lo nrem=(do
  let c <- ZCJ lo 1 nrem
  match c.fst with
  | some r=>pure r
  | none=>
   if (c.snd == nrem)=true then pure (some c.snd)
   else if c.snd > 1 then do
    let r <- ltAt' lo (lo+c.snd-1)
    match r with
    | some b=>if b=true then pure (some c.snd) else do
      reverseSlice' lo (lo+c.snd)
      ZCe lo c.snd nrem
    | _=>pure none
   else ZCe lo c.snd nrem):=by
 have tl:∀ B:Nat,ZDw lo B nrem=(reverseSlice' lo (lo+B) >>= fun _=>ZCJ lo B nrem >>= fun c=>match c.fst with | some r=>pure r | none=>pure (some c.snd)):=fun _=>rfl
 rw [countRun'_eq]
 refine bnd (ZCJ lo 1 nrem) fun c=>?_
 obtain ⟨r,n⟩:=c
 cases r with
 | some r=>rfl
 | none=>
  have dn:∀ Z:Nat,(liftM (rule "list.sort.descending-run") >>= fun _=>ZCH lo (Z+1) nrem >>= fun c=>match c.fst with
    | some r=>pure r
    | none=>if c.snd.snd > 0 then (reverseSlice' (lo+c.snd.fst-(c.snd.snd+1)) (lo+c.snd.fst) >>= fun _=>ZDw lo c.snd.fst nrem) else ZDw lo c.snd.fst nrem)=ZCe lo Z nrem:=fun _=>rfl
  dsimp only
  split
  .rfl
  .split
   .refine bnd (ltAt' lo (lo+n-1)) fun x=>?_
    cases x with
    | none=>rfl
    | some rose=>
     dsimp only
     split
     .rfl
     .refine bnd _ fun _=>?_
      rw [<- dn]
      refine bnd _ fun _=>bnd (ZCH lo (n+1) nrem) fun s2=>?_
      obtain ⟨r2,B,q2⟩:=s2
      cases r2 with
      | some r2=>rfl
      | none=>
       dsimp only
       split
       .refine bnd _ fun _=>?_
        rw [tl]
        refine bnd _ fun _=>bnd (ZCJ lo B nrem) fun J=>?_
        obtain ⟨O,U⟩:=J
        cases O <;> rfl
       .rw [tl]
        refine bnd _ fun _=>bnd (ZCJ lo B nrem) fun J=>?_
        obtain ⟨O,U⟩:=J
        cases O <;> rfl
   .rw [<- dn]
    refine bnd _ fun _=>bnd (ZCH lo (n+1) nrem) fun s2=>?_
    obtain ⟨r2,B,q2⟩:=s2
    cases r2 with
    | some r2=>rfl
    | none=>
     dsimp only
     split
     .refine bnd _ fun _=>?_
      rw [tl]
      refine bnd _ fun _=>bnd (ZCJ lo B nrem) fun J=>?_
      obtain ⟨O,U⟩:=J
      cases O <;> rfl
     .rw [tl]
      refine bnd _ fun _=>bnd (ZCJ lo B nrem) fun J=>?_
      obtain ⟨O,U⟩:=J
      cases O <;> rfl
theorem up_one {xs:Array Keyed} {lo:Nat}:Up f xs lo 1:=fun i j h1 h2 h3=>by rw [show i=j by omega];exact Int.le_refl _
theorem up_loop {st:SortSt} {lo a nrem:Nat} {Q:AscSt->SortSt->Prop} (L:Asks M A E s κ a₀ f) (hn:lo+nrem <= a₀.size) (ha:1 <= a) (J:a <= nrem) (U:SB κ a₀ st) (hs:Up f (arrOf st) lo a)
  (h:∀ n,a <= n->n <= nrem->Up f (arrOf st) lo n->(n=nrem∨kn f (arrOf st) (lo+n) < kn f (arrOf st) (lo+n-1))->Q (none,n) st):wpS M A E s (ZCJ lo a nrem) Q st:=by
 unfold ZCJ
 refine wpS_forRange (I:=fun x c st'=>st'=st /\ c=(none,x) /\ Up f (arrOf st) lo x) ?_ ?_ ⟨rfl,rfl,hs⟩
 .rintro x c st' O Z ⟨rfl,rfl,B⟩
  dsimp only
  refine wpS_bind (ZDt L U (by omega) (by omega) ?_)
  by_cases hl:kn f (arrOf st') (lo+x) < kn f (arrOf st') (lo+x-1)
  .rw [decide_eq_true hl]
   exact wpS_pure (h x O (by omega) B (.inr hl))
  .rw [decide_eq_false hl]
   refine wpS_pure ⟨rfl,rfl,fun i j h1 h2 h3=>?_⟩
   by_cases hj:j < lo+x
   .exact B i j h1 h2 hj
   .by_cases hi:i=j
    .rw [hi];exact Int.le_refl _
    .have e1:=B i (lo+x-1) h1 (by omega) (by omega)
     rw [show j=lo+x by omega]
     omega
 .rintro c st' ⟨rfl,rfl,B⟩
  rw [Nat.max_eq_right J] at B ⊢
  exact h nrem J (yAA _) B (.inl rfl)
noncomputable abbrev ZEn (κ:SortKind) (a₀:Array Keyed) (f:Keyed->Int) (lo nrem:Nat) (xs:Array Keyed) (pd:Array (Nat×Nat×Nat)) (Q:Option Nat->SortSt->Prop):Prop :=
 ∀ m st',SB κ a₀ st'->1 <= m->m <= nrem->Up f (arrOf st') lo m->Kept lo xs (arrOf st')->pendingOf st'=pd->Q (some m) st'
theorem tail_l {st:SortSt} {lo n nrem:Nat} {xs:Array Keyed} {pd:Array (Nat×Nat×Nat)} {Q:Option Nat->SortSt->Prop} (L:Asks M A E s κ a₀ f) (hn:lo+nrem <= a₀.size) (h1:1 <= n) (U:n <= nrem) (hB:SB κ a₀ st)
  (hs:Down f (arrOf st) lo n) (hk:Kept lo xs (arrOf st)) (hp:pendingOf st=pd) (h:ZEn κ a₀ f lo nrem xs pd Q):wpS M A E s (ZDw lo n nrem) Q st:=by
 unfold ZDw
 have B:lo+n <= (arrOf st).size:=by rw [hB.size];omega
 refine wpS_bind (ZEG ?_)
 have J:SB κ a₀ (setArr st (mirror (arrOf st) lo (lo+n) ((lo+n-lo) / 2))):=hB.arr (mirror_perm _ _ _ _)
 have O:Kept lo xs (mirror (arrOf st) lo (lo+n) ((lo+n-lo) / 2)):=hk.trans (ZBt B (yAA _))
 refine wpS_bind (up_loop L hn h1 U J (fun i j z1 z2 z3=>?_) fun m a1 a0 Z _=>wpS_pure (h m _ J (by omega) a0 Z O hp))
 show kn f (mirror (arrOf st) lo (lo+n) _) i <= kn f (mirror (arrOf st) lo (lo+n) _) j
 rw [ZC8 B,ZC8 B,if_pos (by omega),if_pos (by omega)]
 exact hs _ _ (by omega) (by omega) (by omega)
theorem down_loop {st:SortSt} {lo n nrem:Nat} {xs:Array Keyed} {pd:Array (Nat×Nat×Nat)} {Q:DescSt->SortSt->Prop} (L:Asks M A E s κ a₀ f) (hn:lo+nrem <= a₀.size) (h1:1 <= n) (a1:n <= nrem) (hB:SB κ a₀ st)
  (hs:Down f (arrOf st) lo n) (hk:Kept lo xs (arrOf st)) (hp:pendingOf st=pd)
  (h:∀ m q st',SB κ a₀ st'->n <= m->m <= nrem->Down f (arrOf st') lo m->q+1 <= m->(∀ i,lo+m-(q+1) <= i->i < lo+m->kn f (arrOf st') i=kn f (arrOf st') (lo+m-1))->Kept lo xs (arrOf st')->pendingOf st'=pd->Q (none,m,q) st') :
  wpS M A E s (ZCH lo n nrem) Q st:=by
 unfold ZCH
 refine wpS_forRange (I:=fun x c st'=>∃ q,c=(none,x,q) /\ SB κ a₀ st' /\ Down f (arrOf st') lo x /\ q+1 <= x /\ (∀ i,lo+x-(q+1) <= i->i < lo+x->kn f (arrOf st') i=kn f (arrOf st') (lo+x-1)) /\ Kept lo xs (arrOf st') /\ pendingOf st'=pd) ?_ ?_
  ⟨0,rfl,hB,hs,by omega,fun i Z z2=>by rw [show i=lo+n-1 by omega],hk,hp⟩
 .rintro x c st' a2 a3 ⟨q,rfl,B,J,hq,he,O,U⟩
  dsimp only
  have a0:lo+x <= (arrOf st').size:=by rw [B.size];omega
  refine wpS_bind (ZDt L B (by omega) (by omega) ?_)
  by_cases hl:kn f (arrOf st') (lo+x) < kn f (arrOf st') (lo+x-1)
  .rw [decide_eq_true hl]
   have more:∀ ys:Array Keyed,(∀ k,kn f ys k=kn f (arrOf st') k)->Down f ys lo (x+1):=fun ys hy i j Z z2 z3=>by
    rw [hy,hy]
    by_cases hj:j < lo+x
    .exact J i j Z z2 hj
    .by_cases hi:i=j
     .rw [hi];exact Int.le_refl _
     .have e1:=J i (lo+x-1) Z (by omega) (by omega)
      rw [show j=lo+x by omega]
      omega
   dsimp only
   rw [if_pos rfl]
   by_cases hq0:q > 0
   .rw [if_pos hq0]
    refine wpS_bind (ZEG (wpS_pure ⟨0,rfl,B.arr (mirror_perm _ _ _ _),more _ (ZC7 a0 he),by omega,fun i Z z2=>by rw [show i=lo+(x+1)-1 by omega],O.trans (ZBt a0 (by omega)),U⟩))
   .rw [if_neg hq0]
    exact wpS_pure ⟨0,rfl,B,more _ (fun _=>rfl),by omega,fun i Z z2=>by rw [show i=lo+(x+1)-1 by omega],O,U⟩
  .rw [decide_eq_false hl]
   dsimp only
   rw [if_neg (by decide)]
   refine wpS_bind (ZDt L B (by omega) (by omega) ?_)
   by_cases hg:kn f (arrOf st') (lo+x-1) < kn f (arrOf st') (lo+x)
   .rw [decide_eq_true hg]
    exact wpS_pure (h x q st' B a2 (by omega) J hq he O U)
   .rw [decide_eq_false hg]
    have ex:kn f (arrOf st') (lo+x)=kn f (arrOf st') (lo+x-1):=by omega
    refine wpS_pure ⟨q+1,rfl,B,fun i j Z z2 z3=>?_,by omega,fun i Z z2=>?_,O,U⟩
    .by_cases hj:j < lo+x
     .exact J i j Z z2 hj
     .by_cases hi:i=j
      .rw [hi];exact Int.le_refl _
      .have e1:=J i (lo+x-1) Z (by omega) (by omega)
       rw [show j=lo+x by omega]
       omega
    .rw [show lo+(x+1)-1=lo+x by omega]
     by_cases hi:i=lo+x
     .rw [hi]
     .rw [ex];exact he i (by omega) (by omega)
 .rintro c st' ⟨q,rfl,B,J,hq,he,O,U⟩
  rw [Nat.max_eq_right a1] at J hq he ⊢
  exact h nrem q st' B a1 (yAA _) J hq he O U
theorem down_part {st:SortSt} {lo n nrem:Nat} {xs:Array Keyed} {pd:Array (Nat×Nat×Nat)} {Q:Option Nat->SortSt->Prop} (L:Asks M A E s κ a₀ f) (hn:lo+nrem <= a₀.size) (a1:n+1 <= nrem) (hB:SB κ a₀ st)
  (hs:Down f (arrOf st) lo (n+1)) (hk:Kept lo xs (arrOf st)) (hp:pendingOf st=pd) (h:ZEn κ a₀ f lo nrem xs pd Q):wpS M A E s (ZCe lo n nrem) Q st:=by
 unfold ZCe
 refine wpS_bind (wpS_lift (wpAny_rule ⟨rfl,?_⟩))
 refine wpS_bind (down_loop L hn (by omega) a1 hB hs hk hp fun m q st' J a2 Z O hq he U a0=>?_)
 dsimp only
 have B:lo+m <= (arrOf st').size:=by rw [J.size];omega
 by_cases hq0:q > 0
 .rw [if_pos hq0]
  refine wpS_bind (ZEG (tail_l L hn (by omega) Z (J.arr (mirror_perm _ _ _ _)) (fun i j z1 z2 z3=>?_) (U.trans (ZBt B (by omega))) a0 h))
  show kn f (mirror (arrOf st') _ _ _) j <= kn f (mirror (arrOf st') _ _ _) i
  rw [ZC7 B he,ZC7 B he]
  exact O i j z1 z2 z3
 .rw [if_neg hq0]
  exact tail_l L hn (by omega) Z J O U a0 h
theorem count_run {st:SortSt} {lo nrem:Nat} {Q:Option Nat->SortSt->Prop} (L:Asks M A E s κ a₀ f) (hn:lo+nrem <= a₀.size) (h1:1 <= nrem) (O:SB κ a₀ st)
  (h:ZEn κ a₀ f lo nrem (arrOf st) (pendingOf st) Q):wpS M A E s (countRun' lo nrem) Q st:=by
 rw [count_eq]
 refine wpS_bind (up_loop L hn (yAA 1) h1 O up_one fun n a4 a0 J a5=>?_)
 dsimp only
 by_cases hnn:n=nrem
 .rw [if_pos (by simpa using hnn)]
  exact wpS_pure (h n st O a4 a0 J .refl rfl)
 rw [if_neg (by simpa using hnn)]
 have Z:=a5.resolve_left hnn
 by_cases hgt:n > 1
 .rw [if_pos hgt]
  refine wpS_bind (ZDt L O (by omega) (by omega) ?_)
  by_cases hr:kn f (arrOf st) lo < kn f (arrOf st) (lo+n-1)
  .rw [decide_eq_true hr]
   exact wpS_pure (h n st O a4 a0 J .refl rfl)
  rw [decide_eq_false hr]
  dsimp only
  rw [if_neg (by decide)]
  have U:lo+n <= (arrOf st).size:=by rw [O.size];omega
  have B:∀ k,lo <= k->k < lo+n->kn f (arrOf st) k=kn f (arrOf st) (lo+n-1):=fun k k1 k2=>by
   have a1:=J lo k (yAA _) k1 k2
   have a2:=J k (lo+n-1) k1 (by omega) (by omega)
   omega
  refine wpS_bind (ZEG (down_part L hn (by omega) (O.arr (mirror_perm _ _ _ _)) (fun i j z1 z2 z3=>?_) (ZBt U (yAA _)) rfl h))
  show kn f (mirror (arrOf st) _ _ _) j <= kn f (mirror (arrOf st) _ _ _) i
  rw [ZC7 U B,ZC7 U B]
  by_cases hj:j < lo+n
  .rw [B i z1 (by omega),B j (by omega) hj];exact Int.le_refl _
  .by_cases hi:i=j
   .rw [hi];exact Int.le_refl _
   .rw [B i z1 (by omega),show j=lo+n by omega];exact Int.le_of_lt Z
 .rw [if_neg hgt]
  have a3:n=1:=by omega
  subst a3
  refine down_part L hn (by omega) O (fun i j z1 z2 z3=>?_) .refl rfl h
  by_cases hi:i=j
  .rw [hi];exact Int.le_refl _
  .have e1:i=lo:=by omega
   have e2:j=lo+1:=by omega
   subst e1 e2
   exact Int.le_of_lt Z
theorem kn_bubble {xs:Array Keyed} {B d:Nat} (hs:B < xs.size) (J:d <= B) (k:Nat):kn f (bubble xs B d) k=if k=B-d then kn f xs B else if B-d < k /\ k <= B then kn f xs (k-1) else kn f xs k:=by
 have e:=getElem?_bubble hs d J k
 split
 .rename_i h;rw [if_pos h] at e;exact ZA4 e
 .rename_i h
  rw [if_neg h] at e
  split
  .rename_i h2;rw [if_pos h2] at e;exact ZA4 e
  .rename_i h2;rw [if_neg h2] at e;exact ZA4 e
theorem kept_bubble {lo:Nat} {xs:Array Keyed} {B d:Nat} (hs:B < xs.size) (O:lo+d <= B):Kept lo xs (bubble xs B d):=fun k J=>by
 rw [getElem?_bubble hs d (by omega) k,if_neg (by omega),if_neg (by omega)]
theorem bin_sort {st:SortSt} {lo n ok:Nat} {Q:Bool->SortSt->Prop} (L:Asks M A E s κ a₀ f) (hn:lo+n <= a₀.size) (a7:ok <= n) (hB:SB κ a₀ st) (hs:Up f (arrOf st) lo ok)
  (h:∀ st',SB κ a₀ st'->Up f (arrOf st') lo n->Kept lo (arrOf st) (arrOf st')->pendingOf st'=pendingOf st->Q true st'):wpS M A E s (binarySort' lo n ok) Q st:=by
 rw [binarySort'_eq]
 refine wpS_bind (wpS_mono (wpS_forRange (I:=fun k c st'=>c=(none,()) /\ SB κ a₀ st' /\ Up f (arrOf st') lo (min k n) /\ Kept lo (arrOf st) (arrOf st') /\ pendingOf st'=pendingOf st)
  (Q:=fun c st'=>c=(none,()) /\ SB κ a₀ st' /\ Up f (arrOf st') lo n /\ Kept lo (arrOf st) (arrOf st') /\ pendingOf st'=pendingOf st) ?_ ?_ ?_) ?_)
 .rintro k c st' ab aa ⟨rfl,J,B,Z,a0⟩
  rw [show min k n=k by omega] at B
  have hk:lo+k < a₀.size:=by omega
  refine wpS_bind (wpS_mono (wpS_forRange (I:=fun x c st2=>st2=st' /\ ∃ l r,c=(none,l,r) /\ l <= r /\ r <= k /\ r-l <= k-x /\
    (∀ i,i < l->kn f (arrOf st') (lo+i) <= kn f (arrOf st') (lo+k)) /\ (∀ i,r <= i->i < k->kn f (arrOf st') (lo+k) < kn f (arrOf st') (lo+i)))
   (Q:=fun c st2=>st2=st' /\ ∃ l r,c=(none,l,r) /\ l <= k /\ (∀ i,i < l->kn f (arrOf st') (lo+i) <= kn f (arrOf st') (lo+k)) /\ (∀ i,l <= i->i < k->kn f (arrOf st') (lo+k) < kn f (arrOf st') (lo+i))) ?_ ?_ ?_) ?_)
  .rintro x c st2 _ a8 ⟨rfl,l,r,rfl,a5,a1,hm,U,O⟩
   dsimp only
   by_cases hge:l≥r
   .rw [if_pos hge]
    have:l=r:=by omega
    subst this
    exact wpS_pure ⟨rfl,l,l,rfl,a1,U,O⟩
   rw [if_neg hge]
   refine wpS_bind (ZDt L J hk (by omega) ?_)
   by_cases hl:kn f (arrOf st2) (lo+k) < kn f (arrOf st2) (lo+(l+r) / 2)
   .rw [decide_eq_true hl]
    refine wpS_pure ⟨rfl,l,(l+r) / 2,rfl,by omega,by omega,by omega,U,fun i z1 z2=>?_⟩
    exact Int.lt_of_lt_of_le hl (B _ _ (by omega) (by omega) (by omega))
   .rw [decide_eq_false hl]
    refine wpS_pure ⟨rfl,(l+r) / 2+1,r,rfl,by omega,by omega,by omega,fun i z1=>?_,O⟩
    have e1:=B (lo+i) (lo+(l+r) / 2) (by omega) (by omega) (by omega)
    omega
  .rintro c st2 ⟨rfl,l,r,rfl,a5,a1,hm,U,O⟩
   have:l=r:=by omega
   subst this
   exact ⟨rfl,l,l,rfl,a1,U,O⟩
  .exact ⟨rfl,0,k,rfl,by omega,by omega,by omega,fun i hi=>by omega,fun i z1 z2=>by omega⟩
  .rintro c st2 ⟨rfl,l,r,rfl,a9,U,O⟩
   show wpS _ _ _ _ (moveDown' (lo+k) (lo+l) >>= fun _=>pure (ForInStep.yield (none,()))) _ _
   rw [moveDown'_eq,show lo+k-(lo+l)=k-l by omega]
   have a2:lo+k < (arrOf st2).size:=by rw [J.size];exact hk
   refine wpS_bind (wpS_modify (wpS_pure ⟨rfl,J.arr (bubble_perm _ _ _),?_,Z.trans (kept_bubble a2 (by omega)),a0⟩))
   rw [show min (k+1) n=k+1 by omega]
   intro i j z1 z2 z3
   show kn f (bubble (arrOf st2) (lo+k) (k-l)) i <= kn f (bubble (arrOf st2) (lo+k) (k-l)) j
   have a3:∀ m,lo <= m->m < lo+k+1->kn f (bubble (arrOf st2) (lo+k) (k-l)) m=if m < lo+l then kn f (arrOf st2) m else if m=lo+l then kn f (arrOf st2) (lo+k) else kn f (arrOf st2) (m-1):=fun m m1 m2=>by
    rw [kn_bubble a2 (by omega)]
    by_cases c1:m < lo+l
    .rw [if_pos c1,if_neg (by omega),if_neg (by omega)]
    .rw [if_neg c1]
     by_cases c2:m=lo+l
     .rw [if_pos c2,if_pos (by omega)]
     .rw [if_neg c2,if_neg (by omega),if_pos (by omega)]
   rw [a3 i z1 (by omega),a3 j (by omega) (by omega)]
   have a6:∀ m,lo <= m->m < lo+l->kn f (arrOf st2) m <= kn f (arrOf st2) (lo+k):=fun m m1 m2=>by
    have:=U (m-lo) (by omega)
    rw [show lo+(m-lo)=m by omega] at this
    exact this
   have a4:∀ m,lo+l <= m->m < lo+k->kn f (arrOf st2) (lo+k) < kn f (arrOf st2) m:=fun m m1 m2=>by
    have:=O (m-lo) (by omega) (by omega)
    rw [show lo+(m-lo)=m by omega] at this
    exact this
   by_cases c1:j < lo+l
   .rw [if_pos c1,if_pos (by omega)]
    exact B i j z1 z2 (by omega)
   rw [if_neg c1]
   by_cases c2:j=lo+l
   .rw [if_pos c2]
    by_cases c3:i < lo+l
    .rw [if_pos c3];exact a6 i z1 c3
    .rw [if_neg c3,if_pos (by omega)];exact Int.le_refl _
   .rw [if_neg c2]
    by_cases c3:i < lo+l
    .rw [if_pos c3];exact B i (j-1) z1 (by omega) (by omega)
    .rw [if_neg c3]
     by_cases c4:i=lo+l
     .rw [if_pos c4];exact Int.le_of_lt (a4 (j-1) (by omega) (by omega))
     .rw [if_neg c4];exact B (i-1) (j-1) (by omega) (by omega) (by omega)
 .rintro c st' ⟨hc,J,B,Z,a0⟩
  rw [show min (max (max ok 1) n) n=n by omega] at B
  exact ⟨hc,J,B,Z,a0⟩
 .refine ⟨rfl,hB,fun i j z1 z2 z3=>?_,.refl,rfl⟩
  by_cases h1:ok=0
  .rw [show i=j by omega];exact Int.le_refl _
  .exact hs i j z1 z2 (by omega)
 .rintro c st' ⟨rfl,J,B,Z,a0⟩
  exact wpS_pure (h st' J B Z a0)
end
end L2S
namespace L2S
open PySem PyProof.Rows
noncomputable def gal:Bool->Keyed->Array Keyed->Nat->Nat->Nat->StateT SortSt Sem (Option Nat):=sortPriv% PySem.Builtin.gallop
noncomputable def past (left:Bool) (key:Keyed) (arr:Array Keyed) (base i:Nat):StateT SortSt Sem (Option Bool):=do
 let y <- elem' arr (base+i)
 if left then lt' y key else return (<- lt' key y).map (!·)
theorem gal_eq (left:Bool) (J:Keyed) (arr:Array Keyed) (base n B:Nat):gal left J arr base n B=(do
 let mut o1:=0
 let mut o2:=1
 let mut p1:=0
 let mut p2:=0
 let some b0 <- past left J arr base B | return none
 if b0 then
  let mx:=n-B
  for _ in [0:n] do
   if o2≥mx then break
   let some b <- past left J arr base (B+o2) | return none
   if !b then break
   o1:=o2
   o2:=2 * o2+1
  p1:=B+o1+1
  p2:=B+min o2 mx
 else
  let mx:=B+1
  for _ in [0:n] do
   if o2≥mx then break
   let some b <- past left J arr base (B-o2) | return none
   if b then break
   o1:=o2
   o2:=2 * o2+1
  p1:=B+1-min o2 mx
  p2:=B-o1
 for _ in [0:n] do
  if p1≥p2 then break
  let m:=p1+(p2-p1) / 2
  let some b <- past left J arr base m | return none
  if b then p1:=m+1 else p2:=m
 return some p2):=rfl
section
variable {M:Model} {A:Around} {E:Value->Shared->Prop} {s:Shared}
theorem gal_ok {left:Bool} {a5:Keyed} {arr:Array Keyed} {base n B:Nat} {st:SortSt} {Q:Option Nat->SortSt->Prop} (g:Nat->Bool) (hh:B < n)
  (hp:∀ i,i < n->∀ Q:Option Bool->SortSt->Prop,Q (some (g i)) st->wpS M A E s (past left a5 arr base i) Q st) (hm:∀ i j,i <= j->j < n->g j=true->g i=true)
  (h:∀ k,k <= n->(∀ i,i < k->g i=true)->(∀ i,k <= i->i < n->g i=false)->Q (some k) st):wpS M A E s (gal left a5 arr base n B) Q st:=by
 have a0:∀ i j,i <= j->j < n->g i=false->g j=false:=fun i j z1 z2 z3=>by
  cases e:g j with
  | false=>rfl
  | true=>rw [hm i j z1 z2 e] at z3;cases z3
 have last:∀ p1 p2:Nat,p1 <= p2->p2 <= n->(∀ i,i < p1->g i=true)->(∀ i,p2 <= i->i < n->g i=false) ->
   wpS M A E s (forIn [0:n] ((none,p1,p2):Option (Option Nat)×Nat×Nat) fun _ c=>if c.2.1≥c.2.2 then pure (ForInStep.done (none,c.2.1,c.2.2)) else do
    let r <- past left a5 arr base (c.2.1+(c.2.2-c.2.1) / 2)
    match r with
    | some b=>if b=true then pure (ForInStep.yield (none,c.2.1+(c.2.2-c.2.1) / 2+1,c.2.2)) else pure (ForInStep.yield (none,c.2.1,c.2.1+(c.2.2-c.2.1) / 2))
    | _=>pure (ForInStep.done (some none,c.2.1,c.2.2))) (fun c st'=>∃ k,c=(none,k,k) /\ st'=st /\ k <= n /\ (∀ i,i < k->g i=true) /\ (∀ i,k <= i->i < n->g i=false)) st:=by
  intro p1 p2 a1 a2 a3 a4
  refine wpS_forRange (I:=fun x c st'=>st'=st /\ ∃ p1 p2,c=(none,p1,p2) /\ p1 <= p2 /\ p2 <= n /\ p2-p1 <= n-x /\ (∀ i,i < p1->g i=true) /\ (∀ i,p2 <= i->i < n->g i=false)) ?_ ?_ ⟨rfl,p1,p2,rfl,a1,a2,by omega,a3,a4⟩
  .rintro x c st' _ hx ⟨rfl,p1,p2,rfl,U,b2,O,J,Z⟩
   dsimp only
   by_cases hge:p1≥p2
   .rw [if_pos hge]
    have:p1=p2:=by omega
    subst this
    exact wpS_pure ⟨p1,rfl,rfl,b2,J,Z⟩
   rw [if_neg hge]
   refine wpS_bind (hp _ (by omega) _ ?_)
   cases e:g (p1+(p2-p1) / 2) with
   | true=>exact wpS_pure ⟨rfl,_,_,rfl,by omega,b2,by omega,fun i hi=>hm i _ (by omega) (by omega) e,Z⟩
   | false=>exact wpS_pure ⟨rfl,_,_,rfl,by omega,by omega,by omega,J,fun i i1 i2=>a0 _ i i1 i2 e⟩
  .rintro c st' ⟨rfl,p1,p2,rfl,U,b2,O,J,Z⟩
   have:p1=p2:=by omega
   subst this
   exact ⟨p1,rfl,rfl,b2,J,Z⟩
 rw [gal_eq]
 refine wpS_bind (hp B hh _ ?_)
 cases e0:g B with
 | true=>
  refine wpS_bind (wpS_mono (wpS_forRange (I:=fun x c st'=>st'=st /\ ∃ o1 o2,c=(none,o1,o2) /\ o1 < o2 /\ x+1 <= o2 /\ B+o1 < n /\ g (B+o1)=true)
   (Q:=fun c st'=>st'=st /\ ∃ o1 o2,c=(none,o1,o2) /\ o1 < o2 /\ B+o1 < n /\ g (B+o1)=true /\ (o2≥n-B∨(B+o2 < n /\ g (B+o2)=false))) ?_ ?_ ⟨rfl,0,1,rfl,by omega,by omega,by omega,e0⟩) ?_)
  .rintro x c st' _ hx ⟨rfl,o1,o2,rfl,U,b2,O,J⟩
   dsimp only
   by_cases hge:o2≥n-B
   .rw [if_pos hge]
    exact wpS_pure ⟨rfl,o1,o2,rfl,U,O,J,.inl hge⟩
   rw [if_neg hge]
   refine wpS_bind (hp _ (by omega) _ ?_)
   cases e:g (B+o2) with
   | true=>exact wpS_pure ⟨rfl,_,_,rfl,by omega,by omega,by omega,e⟩
   | false=>exact wpS_pure ⟨rfl,_,_,rfl,U,O,J,.inr ⟨by omega,e⟩⟩
  .rintro c st' ⟨rfl,o1,o2,rfl,U,b2,O,J⟩
   exact ⟨rfl,o1,o2,rfl,U,O,J,.inl (by omega)⟩
  .rintro c st' ⟨rfl,o1,o2,rfl,U,O,J,Z⟩
   dsimp only
   refine wpS_bind (wpS_mono (last (B+o1+1) (B+min o2 (n-B)) (by omega) (by omega) (fun i hi=>hm i _ (by omega) O J) fun i i1 i2=>?_) ?_)
   .rcases Z with z | ⟨z1,z2⟩
    .omega
    .exact a0 _ i (by omega) i2 z2
   .rintro c st' ⟨k,rfl,rfl,k1,k2,k3⟩
    exact wpS_pure (h k k1 k2 k3)
 | false=>
  refine wpS_bind (wpS_mono (wpS_forRange (I:=fun x c st'=>st'=st /\ ∃ o1 o2,c=(none,o1,o2) /\ o1 < o2 /\ x+1 <= o2 /\ o1 <= B /\ g (B-o1)=false)
   (Q:=fun c st'=>st'=st /\ ∃ o1 o2,c=(none,o1,o2) /\ o1 < o2 /\ o1 <= B /\ g (B-o1)=false /\ (o2≥B+1∨(o2 < B+1 /\ g (B-o2)=true))) ?_ ?_ ⟨rfl,0,1,rfl,by omega,by omega,by omega,e0⟩) ?_)
  .rintro x c st' _ hx ⟨rfl,o1,o2,rfl,U,b2,O,J⟩
   dsimp only
   by_cases hge:o2≥B+1
   .rw [if_pos hge]
    exact wpS_pure ⟨rfl,o1,o2,rfl,U,O,J,.inl hge⟩
   rw [if_neg hge]
   refine wpS_bind (hp _ (by omega) _ ?_)
   cases e:g (B-o2) with
   | true=>exact wpS_pure ⟨rfl,_,_,rfl,U,O,J,.inr ⟨by omega,e⟩⟩
   | false=>exact wpS_pure ⟨rfl,_,_,rfl,by omega,by omega,by omega,e⟩
  .rintro c st' ⟨rfl,o1,o2,rfl,U,b2,O,J⟩
   exact ⟨rfl,o1,o2,rfl,U,O,J,.inl (by omega)⟩
  .rintro c st' ⟨rfl,o1,o2,rfl,U,O,J,Z⟩
   dsimp only
   refine wpS_bind (wpS_mono (last (B+1-min o2 (B+1)) (B-o1) (by omega) (by omega) (fun i hi=>?_) fun i i1 i2=>a0 _ i i1 i2 J) ?_)
   .rcases Z with z | ⟨z1,z2⟩
    .omega
    .exact hm i _ (by omega) (by omega) z2
   .rintro c st' ⟨k,rfl,rfl,k1,k2,k3⟩
    exact wpS_pure (h k k1 k2 k3)
end
end L2S
namespace L2S
open PySem PyProof.Rows
noncomputable def mLo:Array Keyed->Array Keyed->StateT SortSt Sem (Array Keyed):=sortPriv% PySem.Builtin.mergeLo
noncomputable abbrev setG (st:SortSt) (g:Nat):SortSt:=SortSt.mk' (kindOf st) (arrOf st) (pendingOf st) g (failedOf st)
theorem mLo_eq (a b:Array Keyed):mLo a b=(do
 rule "list.sort.merge-lo"
 let tt:=a.size+b.size
 let dn (o:Array Keyed) (i j:Nat):=o++a.extract i a.size++b.extract j b.size
 let la (o:Array Keyed) (i j:Nat):=o++b.extract j b.size++a.extract i a.size
 let mut o:Array Keyed:=#[<- elem' b 0]
 let mut i:=0
 let mut j:=1
 if j == b.size then return dn o i j
 if i+1 == a.size then return la o i j
 let mut mg:=gallopOf (<- get)
 for _ in [0:tt] do
  let mut ac:=0
  let mut bc:=0
  for _ in [0:tt] do
   let some w <- lt' (<- elem' b j) (<- elem' a i) | return dn o i j
   if w then
    o:=o.push (<- elem' b j);j:=j+1;bc:=bc+1;ac:=0
    if j == b.size then return dn o i j
    if bc≥mg then break
   else
    o:=o.push (<- elem' a i);i:=i+1;ac:=ac+1;bc:=0
    if i+1 == a.size then return la o i j
    if ac≥mg then break
  rule "list.sort.gallop"
  mg:=mg+1
  for _ in [0:tt] do
   if mg > 1 then mg:=mg-1
   modify fun st=>setG st mg
   let some k <- gal false (<- elem' b j) a i (a.size-i) 0 | return dn o i j
   ac:=k
   if k > 0 then
    o:=o++a.extract i (i+k);i:=i+k
    if i+1 == a.size then return la o i j
    if i == a.size then return dn o i j
   o:=o.push (<- elem' b j);j:=j+1
   if j == b.size then return dn o i j
   let some k <- gal true (<- elem' a i) b j (b.size-j) 0 | return dn o i j
   bc:=k
   if k > 0 then
    o:=o++b.extract j (j+k);j:=j+k
    if j == b.size then return dn o i j
   o:=o.push (<- elem' a i);i:=i+1
   if i+1 == a.size then return la o i j
   if ac < 7 && bc < 7 then break
  mg:=mg+1
  modify fun st=>setG st mg
 unsupported "internal:list.sort.merge-bound"):=rfl
noncomputable def leK (f:Keyed->Int) (x y:Keyed):Prop:=f x <= f y
structure Jm (f:Keyed->Int) (as bs o:List Keyed) (i j:Nat):Prop where
 perm:o.Perm (as.take i++bs.take j)
 sa:(o++as.drop i).Pairwise (leK f)
 sb:(o++bs.drop j).Pairwise (leK f)
noncomputable def Good (f:Keyed->Int) (as bs r:List Keyed):Prop:=r.Perm (as++bs) /\ r.Pairwise (leK f)
theorem take_more (as:List Keyed) (i k:Nat):as.take (i+k)=as.take i++(as.drop i).take k:=List.take_add
theorem drop_more (as:List Keyed) (i k:Nat):as.drop i=(as.drop i).take k++as.drop (i+k):=by rw [<- List.drop_drop,yBO]
section
variable {f:Keyed->Int} {as bs o:List Keyed} {i j:Nat}
theorem Jm.swap (h:Jm f as bs o i j):Jm f bs as o j i:=⟨h.perm.trans yCN,h.sb,h.sa⟩
theorem Jm.chunk (h:Jm f as bs o i j) (k:Nat) (hc:∀ x∈(as.drop i).take k,∀ y∈bs.drop j,f x <= f y):Jm f as bs (o++(as.drop i).take k) (i+k) j:=by
 have sa:=h.sa
 rw [drop_more as i k,<- yAK] at sa
 refine ⟨?_,sa,?_⟩
 .rw [take_more]
  refine (List.Perm.append_right _ h.perm).trans ?_
  rw [yAK,yAK]
  exact List.Perm.append_left _ yCN
 .obtain ⟨p1,p2,O⟩:=yBK.mp h.sb
  obtain ⟨U,q2,Z⟩:=yBK.mp sa
  refine yBK.mpr ⟨U,p2,fun x J y B=>?_⟩
  rcases yAZ.mp J with z | z
  .exact O x z y B
  .exact hc x z y B
theorem Jm.dn (h:Jm f as bs o i j) (e:as.drop i=[]∨bs.drop j=[]):Good f as bs (o++as.drop i++bs.drop j):=by
 refine ⟨?_,?_⟩
 .have p:(o++as.drop i++bs.drop j).Perm ((as.take i++bs.take j)++as.drop i++bs.drop j):=List.Perm.append_right _ (List.Perm.append_right _ h.perm)
  refine p.trans ?_
  have B:(as.take i++bs.take j++as.drop i++bs.drop j).Perm (as.take i++as.drop i++(bs.take j++bs.drop j)):=by
   rw [yAK,yAK,yAK]
   refine List.Perm.append_left _ ?_
   rw [<- yAK,<- yAK]
   exact List.Perm.append_right _ yCN
  rw [yBO,yBO] at B
  exact B
 .rcases e with e | e
  .rw [e,yBC];exact h.sb
  .rw [e,yBC];exact h.sa
theorem Jm.la (h:Jm f as bs o i j) (hl:∀ x∈as.drop i,∀ y∈bs.drop j,f y <= f x):Good f as bs (o++bs.drop j++as.drop i):=by
 have c:=h.swap.chunk (bs.length-j) (fun x B y J=>hl y J x (List.mem_of_mem_take B))
 rw [yCF (by rw [yBA];exact yAA _)] at c
 have g:=c.dn (.inl (List.drop_eq_nil_of_le (by omega)))
 rw [List.drop_eq_nil_of_le (as:=bs) (i:=j+(bs.length-j)) (by omega),yBC] at g
 exact ⟨g.1.trans yCN,g.2⟩
end
theorem ZDe (a:Array Keyed) (i:Nat):(a.extract i a.size).toList=a.toList.drop i:=by
 rw [yCC,yCH]
 exact yCF (by rw [yBA];simp)
theorem ZEF (a:Array Keyed) (i k:Nat):(a.extract i (i+k)).toList=(a.toList.drop i).take k:=by
 rw [yCC,yCH,show i+k-i=k by omega]
theorem ZEh {a:Array Keyed} {i:Nat} {x:Keyed} (h:a[i]?=some x):(a.toList.drop i).take 1=[x]:=by
 have hi:i < a.toList.length:=by
  rw [yAN]
  exact (yBN.mp h).1
 rw [yCO hi]
 have:a.toList[i]=x:=by
  rw [yBN] at h
  obtain ⟨_,e⟩:=h
  simpa using e
 rw [this]
 simp
structure Ev (st st':SortSt):Prop where
 k:kindOf st'=kindOf st
 a:arrOf st'=arrOf st
 p:pendingOf st'=pendingOf st
 f:failedOf st'=failedOf st
theorem Ev.refl {st:SortSt}:Ev st st:=⟨rfl,rfl,rfl,rfl⟩
theorem Ev.setG {st st':SortSt} (h:Ev st st') (g:Nat):Ev st (setG st' g):=⟨h.k,h.a,h.p,h.f⟩
section
variable {M:Model} {A:Around} {E:Value->Shared->Prop} {s:Shared} {κ:SortKind} {a₀:Array Keyed} {f:Keyed->Int}
theorem ZAt {a:Array Keyed} {i:Nat} {x:Keyed} {st:SortSt} {Q:Keyed->SortSt->Prop} (h:a[i]?=some x) (q:Q x st):wpS M A E s (elem' a i) Q st:=by
 rw [elem'_eq,h]
 exact wpS_pure q
noncomputable def InA (a₀ a:Array Keyed):Prop:=∀ x∈a.toList,x∈a₀.toList
theorem InA.get {a:Array Keyed} (h:InA a₀ a) {i:Nat} {x:Keyed} (e:a[i]?=some x):x∈a₀.toList:=h x (by rw [yBN] at e;obtain ⟨_,rfl⟩:=e;simp)
theorem ZBK {a:Array Keyed} {i:Nat} {x:Keyed} (e:a[i]?=some x):kn f a i=f x:=by unfold kn;rw [e];rfl
theorem ZCT {a:Array Keyed} {i:Nat} (h:i < a.size):∃ x,a[i]?=some x:=⟨_,getElem?_pos a i h⟩
theorem past_at {left:Bool} {B x:Keyed} {arr:Array Keyed} {base i:Nat} {st:SortSt} {Q:Option Bool->SortSt->Prop} (L:Asks M A E s κ a₀ f) (J:kindOf st=κ) (O:arr[base+i]?=some x) (h1:x∈a₀.toList) (h2:B∈a₀.toList)
  (q:Q (some (if left=true then decide (f x < f B) else !decide (f B < f x))) st):wpS M A E s (past left B arr base i) Q st:=by
 unfold past
 refine wpS_bind (ZAt O ?_)
 cases left with
 | true=>exact L.lt x B h1 h2 st _ J q
 | false=>
  refine wpS_bind (L.lt B x h2 h1 st _ J ?_)
  exact wpS_pure q
theorem ZEi {B:Keyed} {arr:Array Keyed} {base n J:Nat} {st:SortSt} {Q:Option Nat->SortSt->Prop} (L:Asks M A E s κ a₀ f) (hk:kindOf st=κ) (hi:InA a₀ arr) (O:B∈a₀.toList) (hh:J < n) (hs:base+n <= arr.size) (hu:Up f arr base n)
  (h:∀ k,k <= n->(∀ i,i < k->kn f arr (base+i) <= f B)->(∀ i,k <= i->i < n->f B < kn f arr (base+i))->Q (some k) st):wpS M A E s (gal false B arr base n J) Q st:=by
 refine gal_ok (fun i=>!decide (f B < kn f arr (base+i))) hh (fun i a0 Q q=>?_) (fun i j z1 Z z3=>?_) fun k k1 k2 k3=>h k k1 (fun i z=>?_) fun i z1 Z=>?_
 .obtain ⟨x,U⟩:=ZCT (a:=arr) (i:=base+i) (by omega)
  refine past_at L hk U (hi.get U) O ?_
  rw [ZBK U] at q
  exact q
 .have:=hu (base+i) (base+j) (by omega) (by omega) (by omega)
  simp at z3 ⊢
  omega
 .have:=k2 i z
  simp at this
  exact this
 .have:=k3 i z1 Z
  simp at this
  exact this
theorem ZEC {B:Keyed} {arr:Array Keyed} {base n J:Nat} {st:SortSt} {Q:Option Nat->SortSt->Prop} (L:Asks M A E s κ a₀ f) (hk:kindOf st=κ) (hi:InA a₀ arr) (O:B∈a₀.toList) (hh:J < n) (hs:base+n <= arr.size) (hu:Up f arr base n)
  (h:∀ k,k <= n->(∀ i,i < k->kn f arr (base+i) < f B)->(∀ i,k <= i->i < n->f B <= kn f arr (base+i))->Q (some k) st):wpS M A E s (gal true B arr base n J) Q st:=by
 refine gal_ok (fun i=>decide (kn f arr (base+i) < f B)) hh (fun i a0 Q q=>?_) (fun i j z1 Z z3=>?_) fun k k1 k2 k3=>h k k1 (fun i z=>?_) fun i z1 Z=>?_
 .obtain ⟨x,U⟩:=ZCT (a:=arr) (i:=base+i) (by omega)
  refine past_at L hk U (hi.get U) O ?_
  rw [ZBK U] at q
  exact q
 .have:=hu (base+i) (base+j) (by omega) (by omega) (by omega)
  simp at z3 ⊢
  omega
 .have:=k2 i z
  simp at this
  exact this
 .have:=k3 i z1 Z
  simp at this
  exact this
theorem ZCz {a:Array Keyed} {i:Nat} {x:Keyed} (h:x∈a.toList.drop i):∃ k,i <= k /\ k < a.size /\ kn f a k=f x /\ a[k]?=some x:=by
 obtain ⟨n,hn⟩:=yBI h
 rw [yBZ] at hn
 rw [yAV] at hn
 exact ⟨i+n,by omega,(yBN.mp hn).1,ZBK hn,hn⟩
theorem mem_take {a:Array Keyed} {i k:Nat} {x:Keyed} (h:x∈(a.toList.drop i).take k):∃ n,i <= n /\ n < i+k /\ n < a.size /\ kn f a n=f x:=by
 obtain ⟨n,hn⟩:=yBI h
 have hl:=(yAI.mp hn).1
 rw [yAP] at hl
 rw [yBY (by omega),yBZ,yAV] at hn
 exact ⟨i+n,by omega,by omega,(yBN.mp hn).1,ZBK hn⟩
structure Two (a₀:Array Keyed) (f:Keyed->Int) (a b:Array Keyed):Prop where
 ia:InA a₀ a
 ib:InA a₀ b
 ua:Up f a 0 a.size
 ub:Up f b 0 b.size
 na:1 <= a.size
 nb:1 <= b.size
 lo:∀ i,i < a.size->kn f b 0 <= kn f a i
 hi:∀ j,j < b.size->kn f b j <= kn f a (a.size-1)
end
end L2S
namespace L2S
open PySem PyProof.Rows
noncomputable abbrev C5:=Option (Array Keyed)×Array Keyed×Nat×Nat×Nat
noncomputable abbrev C6:=Option (Array Keyed)×Array Keyed×Nat×Nat×Nat×Nat
noncomputable abbrev C7:=Option (Array Keyed)×Array Keyed×Nat×Nat×Nat×Nat×Nat
noncomputable abbrev SM (α:Type):=StateT SortSt Sem α
noncomputable abbrev dnA (a b o:Array Keyed) (i j:Nat):Array Keyed:=o++a.extract i a.size++b.extract j b.size
noncomputable abbrev laA (a b o:Array Keyed) (i j:Nat):Array Keyed:=o++b.extract j b.size++a.extract i a.size
noncomputable def lo1 (a b:Array Keyed) (mg:Nat) (c:C6):SM (ForInStep C6):=do
 let y <- elem' b c.2.2.2.1
 let x <- elem' a c.2.2.1
 let r <- lt' y x
 match r with
 | some w=>
  if w=true then do
   let y <- elem' b c.2.2.2.1
   if (c.2.2.2.1+1 == b.size)=true then pure (.done (some (dnA a b (c.2.1.push y) c.2.2.1 (c.2.2.2.1+1)),c.2.1.push y,c.2.2.1,c.2.2.2.1+1,0,c.2.2.2.2.2+1))
   else if c.2.2.2.2.2+1≥mg then pure (.done (none,c.2.1.push y,c.2.2.1,c.2.2.2.1+1,0,c.2.2.2.2.2+1))
   else pure (.yield (none,c.2.1.push y,c.2.2.1,c.2.2.2.1+1,0,c.2.2.2.2.2+1))
  else do
   let x <- elem' a c.2.2.1
   if (c.2.2.1+1+1 == a.size)=true then pure (.done (some (laA a b (c.2.1.push x) (c.2.2.1+1) c.2.2.2.1),c.2.1.push x,c.2.2.1+1,c.2.2.2.1,c.2.2.2.2.1+1,0))
   else if c.2.2.2.2.1+1≥mg then pure (.done (none,c.2.1.push x,c.2.2.1+1,c.2.2.2.1,c.2.2.2.2.1+1,0))
   else pure (.yield (none,c.2.1.push x,c.2.2.1+1,c.2.2.2.1,c.2.2.2.2.1+1,0))
 | _=>pure (.done (some (dnA a b c.2.1 c.2.2.1 c.2.2.2.1),c.2.1,c.2.2.1,c.2.2.2.1,c.2.2.2.2.1,c.2.2.2.2.2))
noncomputable def lo4 (a b:Array Keyed) (g ac bc:Nat) (o:Array Keyed) (i j:Nat):SM (ForInStep C7):=do
 let x <- elem' a i
 if (i+1+1 == a.size)=true then pure (.done (some (laA a b (o.push x) (i+1) j),o.push x,i+1,j,g,ac,bc))
 else if (decide (ac < 7) && decide (bc < 7))=true then pure (.done (none,o.push x,i+1,j,g,ac,bc))
 else pure (.yield (none,o.push x,i+1,j,g,ac,bc))
noncomputable def lo3 (a b:Array Keyed) (g ac bc:Nat) (o:Array Keyed) (i j:Nat):SM (ForInStep C7):=do
 let y <- elem' b j
 if (j+1 == b.size)=true then pure (.done (some (dnA a b (o.push y) i (j+1)),o.push y,i,j+1,g,ac,bc))
 else do
  let x <- elem' a i
  let r <- gal true x b (j+1) (b.size-(j+1)) 0
  match r with
  | some k=>
   if k > 0 then
    if (j+1+k == b.size)=true then pure (.done (some (dnA a b (o.push y++b.extract (j+1) (j+1+k)) i (j+1+k)),o.push y++b.extract (j+1) (j+1+k),i,j+1+k,g,ac,k))
    else lo4 a b g ac k (o.push y++b.extract (j+1) (j+1+k)) i (j+1+k)
   else lo4 a b g ac k (o.push y) i (j+1)
  | _=>pure (.done (some (dnA a b (o.push y) i (j+1)),o.push y,i,j+1,g,ac,bc))
noncomputable def lo2 (a b:Array Keyed) (g ac bc:Nat) (o:Array Keyed) (i j:Nat):SM (ForInStep C7):=do
 modify fun st=>setG st g
 let y <- elem' b j
 let r <- gal false y a i (a.size-i) 0
 match r with
 | some k=>
  if k > 0 then
   if (i+k+1 == a.size)=true then pure (.done (some (laA a b (o++a.extract i (i+k)) (i+k) j),o++a.extract i (i+k),i+k,j,g,k,bc))
   else if (i+k == a.size)=true then pure (.done (some (dnA a b (o++a.extract i (i+k)) (i+k) j),o++a.extract i (i+k),i+k,j,g,k,bc))
   else lo3 a b g k bc (o++a.extract i (i+k)) (i+k) j
  else lo3 a b g k bc o i j
 | _=>pure (.done (some (dnA a b o i j),o,i,j,g,ac,bc))
noncomputable def loB (a b:Array Keyed) (c:C7):SM (ForInStep C7) :=
 if c.2.2.2.2.1 > 1 then lo2 a b (c.2.2.2.2.1-1) c.2.2.2.2.2.1 c.2.2.2.2.2.2 c.2.1 c.2.2.1 c.2.2.2.1
 else lo2 a b c.2.2.2.2.1 c.2.2.2.2.2.1 c.2.2.2.2.2.2 c.2.1 c.2.2.1 c.2.2.2.1
noncomputable def loO (a b:Array Keyed) (c:C5):SM (ForInStep C5):=do
 let c1 <- forIn [0:a.size+b.size] ((none,c.2.1,c.2.2.1,c.2.2.2.1,0,0):C6) fun _ d=>lo1 a b c.2.2.2.2 d
 match c1.1 with
 | some r=>pure (.done (some r,c1.2.1,c1.2.2.1,c1.2.2.2.1,c.2.2.2.2))
 | none=>do
  liftM (rule "list.sort.gallop")
  let c2 <- forIn [0:a.size+b.size] ((none,c1.2.1,c1.2.2.1,c1.2.2.2.1,c.2.2.2.2+1,c1.2.2.2.2.1,c1.2.2.2.2.2):C7) fun _ d=>loB a b d
  match c2.1 with
  | some r=>pure (.done (some r,c2.2.1,c2.2.2.1,c2.2.2.2.1,c2.2.2.2.2.1))
  | none=>do
   modify fun st=>setG st (c2.2.2.2.2.1+1)
   pure (.yield (none,c2.2.1,c2.2.2.1,c2.2.2.2.1,c2.2.2.2.2.1+1))
theorem bnd2 {α J:Type} {m B:StateT SortSt Sem α} {g h:α->StateT SortSt Sem J} (O:m=B) (e:∀ a,g a=h a):(m >>= g)=(B >>= h):=by rw [O,show g=h from funext e]
theorem for2 {B:Type} {r:Std.Legacy.Range} {c:B} {g h:Nat->B->StateT SortSt Sem (ForInStep B)} (e:∀ x c,g x c=h x c):forIn r c g=forIn r c h:=by rw [show g=h from funext fun x=>funext (e x)]
theorem if2 {α:Type} {c:Prop} [Decidable c] {x y B J:α} (O:x=B) (U:y=J):(if c then x else y)=(if c then B else J):=by rw [O,U]
theorem mLo_low (a b:Array Keyed):mLo a b=(do
 liftM (rule "list.sort.merge-lo")
 let y <- elem' b 0
 if (1 == b.size)=true then pure (dnA a b #[y] 0 1)
 else if (0+1 == a.size)=true then pure (laA a b #[y] 0 1)
 else do
  let st <- get
  let c <- forIn [0:a.size+b.size] ((none,#[y],0,1,gallopOf st):C5) fun _ d=>loO a b d
  match c.1 with
  | some r=>pure r
  | none=>liftM (unsupported "internal:list.sort.merge-bound":Sem (Array Keyed))):=by
 rw [mLo_eq]
 refine bnd _ fun _=>bnd _ fun y=>?_
 refine if2 rfl (if2 rfl ?_)
 refine bnd _ fun st=>bnd2 (for2 fun _ c=>?_) fun c=>?_
 .unfold loO
  refine bnd2 (for2 fun _ d=>?_) fun c1=>?_
  .rfl
  .obtain ⟨r,o,i,j,ac,bc⟩:=c1
   cases r with
   | some r=>rfl
   | none=>
    refine bnd2 rfl fun _=>bnd2 (for2 fun _ d=>?_) fun B=>?_
    .unfold loB
     refine if2 ?_ ?_
     all_goals
      unfold lo2
      refine bnd2 rfl fun _=>bnd2 rfl fun y=>bnd2 rfl fun r=>?_
      cases r with
      | none=>rfl
      | some k=>
       refine if2 (if2 rfl (if2 rfl ?_)) ?_
       all_goals
        unfold lo3
        refine bnd2 rfl fun J=>if2 rfl (bnd2 rfl fun U=>bnd2 rfl fun r2=>?_)
        cases r2 with
        | none=>rfl
        | some k2=>
         refine if2 (if2 rfl ?_) ?_
         all_goals
          unfold lo4
          refine bnd2 rfl fun O=>if2 rfl (if2 rfl rfl)
    .obtain ⟨r,o,i,j,g,ac,bc⟩:=B
     cases r with
     | some r=>rfl
     | none=>rfl
 .obtain ⟨r,o,i,j,g⟩:=c
  cases r with
  | some r=>rfl
  | none=>rfl
end L2S
namespace L2S
open PySem PyProof.Rows
section
variable {M:Model} {A:Around} {E:Value->Shared->Prop} {s:Shared} {κ:SortKind} {a₀:Array Keyed} {f:Keyed->Int} {a b o:Array Keyed} {i j:Nat}
theorem ZEp {a:Array Keyed} (h:Up f a 0 a.size):a.toList.Pairwise (leK f):=by
 rw [yCB]
 intro i j hi J B
 rw [yAN] at hi J
 have:=h i j (yAG _) (yBJ B) (by omega)
 rw [ZBK (getElem?_pos a i hi),ZBK (getElem?_pos a j J)] at this
 simpa [leK] using this
noncomputable abbrev JA (f:Keyed->Int) (a b o:Array Keyed) (i j:Nat):Prop:=Jm f a.toList b.toList o.toList i j
noncomputable abbrev Fin (f:Keyed->Int) (a b r:Array Keyed):Prop:=Good f a.toList b.toList r.toList
theorem JA.dn (h:JA f a b o i j) (e:a.size <= i∨b.size <= j):Fin f a b (dnA a b o i j):=by
 have g:=Jm.dn h (e.imp (fun z=>List.drop_eq_nil_of_le (by rw [yAN];exact z)) (fun z=>List.drop_eq_nil_of_le (by rw [yAN];exact z)))
 unfold Fin dnA
 rw [yBV,yBV,ZDe,ZDe]
 exact g
theorem JA.la (h:JA f a b o i j) (T:Two a₀ f a b) (e:i+1=a.size):Fin f a b (laA a b o i j):=by
 have g:=Jm.la h fun x O y U=>by
  obtain ⟨k,k1,k2,Z,_⟩:=ZCz (f:=f) O
  obtain ⟨n,n1,J,B,_⟩:=ZCz (f:=f) U
  have:=T.hi n J
  rw [show a.size-1=k by omega,Z,B] at this
  exact this
 unfold Fin laA
 rw [yBV,yBV,ZDe,ZDe]
 exact g
theorem JA.pushA {x:Keyed} (h:JA f a b o i j) (J:a[i]?=some x) (hc:∀ n,j <= n->n < b.size->f x <= kn f b n):JA f a b (o.push x) (i+1) j:=by
 have g:=Jm.chunk h 1 fun u B y Z=>by
  rw [ZEh J,yAO] at B
  obtain ⟨n,U,n2,O,_⟩:=ZCz (f:=f) Z
  rw [B,<- O]
  exact hc n U n2
 rw [ZEh J] at g
 unfold JA
 rw [Array.toList_push]
 exact g
theorem JA.pushB {x:Keyed} (h:JA f a b o i j) (B:b[j]?=some x) (hc:∀ n,i <= n->n < a.size->f x <= kn f a n):JA f a b (o.push x) i (j+1) :=
 (JA.pushA (Jm.swap h) B hc).swap
theorem JA.chunkA (h:JA f a b o i j) (k:Nat) (hc:∀ n m,i <= n->n < i+k->n < a.size->j <= m->m < b.size->kn f a n <= kn f b m):JA f a b (o++a.extract i (i+k)) (i+k) j:=by
 have g:=Jm.chunk h k fun u hu y Z=>by
  obtain ⟨n,U,n2,O,J⟩:=mem_take (f:=f) hu
  obtain ⟨m,m1,B,m3,_⟩:=ZCz (f:=f) Z
  rw [<- J,<- m3]
  exact hc n m U n2 O m1 B
 unfold JA
 rw [yBV,ZEF]
 exact g
theorem JA.chunkB (h:JA f a b o i j) (k:Nat) (hc:∀ n m,j <= n->n < j+k->n < b.size->i <= m->m < a.size->kn f b n <= kn f a m):JA f a b (o++b.extract j (j+k)) i (j+k) :=
 (JA.chunkA (Jm.swap h) k hc).swap
theorem Up.sub {xs:Array Keyed} {n:Nat} (h:Up f xs 0 n) {lo m:Nat} (e:lo+m <= n):Up f xs lo m:=fun i j J B O=>h i j (yAG _) B (by omega)
noncomputable def R7 (f:Keyed->Int) (a b:Array Keyed) (st:SortSt) (x:Nat):ForInStep C7->SortSt->Prop
 | .done c,st'=>Ev st st' /\ ((∃ r z,c=(some r,z) /\ Fin f a b r)∨∃ o i j g ac bc,c=(none,o,i,j,g,ac,bc) /\ JA f a b o i j /\ i+1 < a.size /\ j < b.size /\ x+2 <= i+j)
 | .yield c,st'=>Ev st st' /\ ∃ o i j g ac bc,c=(none,o,i,j,g,ac,bc) /\ JA f a b o i j /\ i+1 < a.size /\ j < b.size /\ x+2 <= i+j
theorem mLo_ok {st:SortSt} {Q:Array Keyed->SortSt->Prop} (L:Asks M A E s κ a₀ f) (hk:kindOf st=κ) (T:Two a₀ f a b) (h:∀ r st',Ev st st'->Fin f a b r->Q r st'):wpS M A E s (mLo a b) Q st:=by
 have ta:=T.na
 have tb:=T.nb
 have ua:∀ n m,n <= m->m < a.size->kn f a n <= kn f a m:=fun n m z1 z2=>T.ua n m (yAG _) z1 (by omega)
 have ub:∀ n m,n <= m->m < b.size->kn f b n <= kn f b m:=fun n m z1 z2=>T.ub n m (yAG _) z1 (by omega)
 rw [mLo_low]
 refine wpS_bind (wpS_lift (wpAny_rule ⟨rfl,?_⟩))
 obtain ⟨y0,a3⟩:=ZCT (a:=b) (i:=0) (by omega)
 refine wpS_bind (ZAt a3 ?_)
 have J0:JA f a b #[y0] 0 1:=by
  have e:JA f a b #[] 0 0:=⟨by simp,by simpa using ZEp T.ua,by simpa using ZEp T.ub⟩
  have:=JA.pushB e a3 fun n _ n2=>by rw [<- ZBK (f:=f) a3];exact T.lo n n2
  exact this
 by_cases c1:1=b.size
 .rw [if_pos (by simpa using c1)]
  exact wpS_pure (h _ st .refl (J0.dn (.inr (by omega))))
 rw [if_neg (by simpa using c1)]
 by_cases c2:0+1=a.size
 .rw [if_pos (by simpa using c2)]
  exact wpS_pure (h _ st .refl (J0.la T c2))
 rw [if_neg (by simpa using c2)]
 refine wpS_bind (wpS_get ?_)
 refine wpS_bind (wpS_mono (wpS_forRange (I:=fun x c st'=>Ev st st' /\ ∃ o i j g,c=(none,o,i,j,g) /\ JA f a b o i j /\ i+1 < a.size /\ j < b.size /\ x+1 <= i+j) (Q:=fun c st'=>Ev st st' /\ ∃ r z,c=(some r,z) /\ Fin f a b r) ?_ ?_ ⟨.refl,_,0,1,_,rfl,J0,by omega,by omega,by omega⟩) ?_)
 .rintro x c a4 _ hx ⟨e1,o,i,j,g,rfl,J,hi,U,hp⟩
  unfold loO
  dsimp only
  refine wpS_bind (wpS_mono (wpS_forRange (I:=fun y c st'=>Ev st st' /\ ∃ o i j ac bc,c=(none,o,i,j,ac,bc) /\ JA f a b o i j /\ i+1 < a.size /\ j < b.size /\ x+1+y <= i+j)
   (Q:=fun c st'=>Ev st st' /\ ((∃ r z,c=(some r,z) /\ Fin f a b r)∨∃ o i j ac bc,c=(none,o,i,j,ac,bc) /\ JA f a b o i j /\ i+1 < a.size /\ j < b.size /\ x+2 <= i+j)) ?_ ?_ ⟨e1,o,i,j,0,0,rfl,J,hi,U,by omega⟩) ?_)
  .rintro y c st2 _ hy ⟨e2,o,i,j,ac,bc,rfl,J,hi,U,hp⟩
   unfold lo1
   dsimp only
   obtain ⟨yb,O⟩:=ZCT (a:=b) U
   obtain ⟨xa,B⟩:=ZCT (a:=a) (i:=i) (by omega)
   refine wpS_bind (ZAt O ?_)
   refine wpS_bind (ZAt B ?_)
   refine wpS_bind (L.lt yb xa (T.ib.get O) (T.ia.get B) st2 _ (e2.k.trans hk) ?_)
   by_cases hw:f yb < f xa
   .rw [decide_eq_true hw]
    dsimp only
    rw [if_pos rfl]
    refine wpS_bind (ZAt O ?_)
    have Z:=J.pushB O fun n n1 n2=>by
     have:=ua i n n1 n2
     rw [ZBK B] at this
     omega
    by_cases c3:j+1=b.size
    .rw [if_pos (by simpa using c3)]
     exact wpS_pure ⟨e2,.inl ⟨_,_,rfl,Z.dn (.inr (by omega))⟩⟩
    rw [if_neg (by simpa using c3)]
    split
    .exact wpS_pure ⟨e2,.inr ⟨_,_,_,_,_,rfl,Z,hi,by omega,by omega⟩⟩
    .exact wpS_pure ⟨e2,_,_,_,_,_,rfl,Z,hi,by omega,by omega⟩
   .rw [decide_eq_false hw]
    dsimp only
    rw [if_neg (by decide)]
    refine wpS_bind (ZAt B ?_)
    have Z:=J.pushA B fun n n1 n2=>by
     have:=ub j n n1 n2
     rw [ZBK O] at this
     omega
    by_cases c3:i+1+1=a.size
    .rw [if_pos (by simpa using c3)]
     exact wpS_pure ⟨e2,.inl ⟨_,_,rfl,Z.la T c3⟩⟩
    rw [if_neg (by simpa using c3)]
    split
    .exact wpS_pure ⟨e2,.inr ⟨_,_,_,_,_,rfl,Z,by omega,U,by omega⟩⟩
    .exact wpS_pure ⟨e2,_,_,_,_,_,rfl,Z,by omega,U,by omega⟩
  .rintro c st2 ⟨e2,o,i,j,ac,bc,rfl,J,hi,U,hp⟩
   exact ⟨e2,.inr ⟨_,_,_,_,_,rfl,J,hi,U,by omega⟩⟩
  .rintro c st2 ⟨e2,⟨r,z,rfl,hr⟩ | ⟨o,i,j,ac,bc,rfl,J,hi,U,hp⟩⟩
   .exact wpS_pure ⟨e2,r,_,rfl,hr⟩
   dsimp only
   refine wpS_bind (wpS_lift (wpAny_rule ⟨rfl,?_⟩))
   refine wpS_bind (wpS_mono (wpS_forRange (I:=fun y c st'=>Ev st st' /\ ∃ o i j g ac bc,c=(none,o,i,j,g,ac,bc) /\ JA f a b o i j /\ i+1 < a.size /\ j < b.size /\ x+2 <= i+j)
    (Q:=fun c st'=>Ev st st' /\ ((∃ r z,c=(some r,z) /\ Fin f a b r)∨∃ o i j g ac bc,c=(none,o,i,j,g,ac,bc) /\ JA f a b o i j /\ i+1 < a.size /\ j < b.size /\ x+2 <= i+j)) ?_ ?_ ⟨e2,o,i,j,_,ac,bc,rfl,J,hi,U,hp⟩) ?_)
   .rintro y c st3 _ hy ⟨e3,o,i,j,g,ac,bc,rfl,J,hi,U,hp⟩
    have a1:∀ (g ac bc:Nat) (o:Array Keyed) (i j:Nat) (st4:SortSt) (xa:Keyed),Ev st st4->JA f a b o i j->i+1 < a.size->j < b.size->x+2 <= i+j->a[i]?=some xa->(∀ n,j <= n->n < b.size->f xa <= kn f b n) ->
      wpS M A E s (lo4 a b g ac bc o i j) (R7 f a b st x) st4:=by
     intro g ac bc o i j st4 xa e4 J hi U hp B a2
     unfold lo4
     refine wpS_bind (ZAt B ?_)
     have Z:=J.pushA B a2
     by_cases c3:i+1+1=a.size
     .rw [if_pos (by simpa using c3)]
      exact wpS_pure ⟨e4,.inl ⟨_,_,rfl,Z.la T c3⟩⟩
     rw [if_neg (by simpa using c3)]
     split
     .exact wpS_pure ⟨e4,.inr ⟨_,_,_,_,_,_,rfl,Z,by omega,U,by omega⟩⟩
     .exact wpS_pure ⟨e4,_,_,_,_,_,_,rfl,Z,by omega,U,by omega⟩
    have a0:∀ (g ac bc:Nat) (o:Array Keyed) (i j:Nat) (st4:SortSt) (yb:Keyed),Ev st st4->JA f a b o i j->i+1 < a.size->j < b.size->x+2 <= i+j->b[j]?=some yb->(∀ n,i <= n->n < a.size->f yb <= kn f a n) ->
      wpS M A E s (lo3 a b g ac bc o i j) (R7 f a b st x) st4:=by
     intro g ac bc o i j st4 yb e4 J hi U hp O a2
     unfold lo3
     refine wpS_bind (ZAt O ?_)
     have Z:=J.pushB O a2
     by_cases c3:j+1=b.size
     .rw [if_pos (by simpa using c3)]
      exact wpS_pure ⟨e4,.inl ⟨_,_,rfl,Z.dn (.inr (by omega))⟩⟩
     rw [if_neg (by simpa using c3)]
     obtain ⟨xa,B⟩:=ZCT (a:=a) (i:=i) (by omega)
     refine wpS_bind (ZAt B ?_)
     refine wpS_bind (ZEC L (e4.k.trans hk) T.ib (T.ia.get B) (by omega) (by omega) (T.ub.sub (by omega)) fun k k1 k2 k3=>?_)
     dsimp only
     have rest:∀ n,j+1+k <= n->n < b.size->f xa <= kn f b n:=fun n n1 n2=>by
      have:=k3 (n-(j+1)) (by omega) (by omega)
      rw [show j+1+(n-(j+1))=n by omega] at this
      exact this
     by_cases hk0:k > 0
     .rw [if_pos hk0]
      have J3:=Z.chunkB k fun n m n1 n2 n3 m1 m2=>by
       have z:=k2 (n-(j+1)) (by omega)
       rw [show j+1+(n-(j+1))=n by omega] at z
       have z2:=ua i m m1 m2
       rw [ZBK B] at z2
       omega
      by_cases c4:j+1+k=b.size
      .rw [if_pos (by simpa using c4)]
       exact wpS_pure ⟨e4,.inl ⟨_,_,rfl,J3.dn (.inr (by omega))⟩⟩
      rw [if_neg (by simpa using c4)]
      exact a1 _ _ _ _ _ _ _ xa e4 J3 hi (by omega) (by omega) B rest
     .rw [if_neg hk0]
      have:k=0:=by omega
      subst this
      exact a1 _ _ _ _ _ _ _ xa e4 Z hi (by omega) (by omega) B rest
    have two:∀ (g ac bc:Nat),wpS M A E s (lo2 a b g ac bc o i j) (R7 f a b st x) st3:=by
     intro g ac bc
     unfold lo2
     obtain ⟨yb,O⟩:=ZCT (a:=b) U
     refine wpS_bind (wpS_modify ?_)
     have e4:=e3.setG g
     refine wpS_bind (ZAt O ?_)
     refine wpS_bind (ZEi L (e4.k.trans hk) T.ia (T.ib.get O) (by omega) (by omega) (T.ua.sub (by omega)) fun k k1 k2 k3=>?_)
     dsimp only
     have rest:∀ n,i+k <= n->n < a.size->f yb <= kn f a n:=fun n n1 n2=>by
      have:=k3 (n-i) (by omega) (by omega)
      rw [show i+(n-i)=n by omega] at this
      omega
     by_cases hk0:k > 0
     .rw [if_pos hk0]
      have J3:=J.chunkA k fun n m n1 n2 n3 m1 m2=>by
       have z:=k2 (n-i) (by omega)
       rw [show i+(n-i)=n by omega] at z
       have z2:=ub j m m1 m2
       rw [ZBK O] at z2
       omega
      by_cases c4:i+k+1=a.size
      .rw [if_pos (by simpa using c4)]
       exact wpS_pure ⟨e4,.inl ⟨_,_,rfl,J3.la T c4⟩⟩
      rw [if_neg (by simpa using c4)]
      by_cases c5:i+k=a.size
      .rw [if_pos (by simpa using c5)]
       exact wpS_pure ⟨e4,.inl ⟨_,_,rfl,J3.dn (.inl (by omega))⟩⟩
      rw [if_neg (by simpa using c5)]
      exact a0 _ _ _ _ _ _ _ yb e4 J3 (by omega) U (by omega) O rest
     .rw [if_neg hk0]
      have:k=0:=by omega
      subst this
      exact a0 _ _ _ _ _ _ _ yb e4 J hi U hp O rest
    unfold loB
    dsimp only
    split
    .exact wpS_mono (two _ _ _) fun r st' z=>by cases r <;> exact z
    .exact wpS_mono (two _ _ _) fun r st' z=>by cases r <;> exact z
   .rintro c st3 ⟨e3,o,i,j,g,ac,bc,rfl,J,hi,U,hp⟩
    exact ⟨e3,.inr ⟨_,_,_,_,_,_,rfl,J,hi,U,hp⟩⟩
   .rintro c st3 ⟨e3,⟨r,z,rfl,hr⟩ | ⟨o,i,j,g,ac,bc,rfl,J,hi,U,hp⟩⟩
    .exact wpS_pure ⟨e3,r,_,rfl,hr⟩
    .dsimp only
     exact wpS_bind (wpS_modify (wpS_pure ⟨e3.setG _,_,_,_,_,rfl,J,hi,U,by omega⟩))
 .rintro c a4 ⟨e1,o,i,j,g,rfl,J,hi,U,hp⟩
  omega
 .rintro c a4 ⟨e1,r,z,rfl,hr⟩
  exact wpS_pure (h r a4 e1 hr)
end
end L2S
namespace L2S
open PySem PyProof.Rows
noncomputable def mHi:Array Keyed->Array Keyed->StateT SortSt Sem (Array Keyed):=sortPriv% PySem.Builtin.mergeHi
theorem mHi_eq (a b:Array Keyed):mHi a b=(do
 rule "list.sort.merge-hi"
 let tt:=a.size+b.size
 let dn (o:Array Keyed) (i j:Nat):=a.extract 0 i++b.extract 0 j++o.reverse
 let fb (o:Array Keyed) (i j:Nat):=b.extract 0 j++a.extract 0 i++o.reverse
 let mut i:=a.size-1
 let mut j:=b.size
 let mut o:Array Keyed:=#[<- elem' a i]
 if i == 0 then return dn o i j
 if j == 1 then return fb o i j
 let mut mg:=gallopOf (<- get)
 for _ in [0:tt] do
  let mut ac:=0
  let mut bc:=0
  for _ in [0:tt] do
   let some w <- lt' (<- elem' b (j-1)) (<- elem' a (i-1)) | return dn o i j
   if w then
    i:=i-1;o:=o.push (<- elem' a i);ac:=ac+1;bc:=0
    if i == 0 then return dn o i j
    if ac≥mg then break
   else
    j:=j-1;o:=o.push (<- elem' b j);bc:=bc+1;ac:=0
    if j == 1 then return fb o i j
    if bc≥mg then break
  rule "list.sort.gallop"
  mg:=mg+1
  for _ in [0:tt] do
   if mg > 1 then mg:=mg-1
   modify fun st=>setG st mg
   let some t <- gal false (<- elem' b (j-1)) a 0 i (i-1) | return dn o i j
   let k:=i-t
   ac:=k
   if k > 0 then
    o:=o++(a.extract t i).reverse;i:=t
    if i == 0 then return dn o i j
   j:=j-1;o:=o.push (<- elem' b j)
   if j == 1 then return fb o i j
   let some t <- gal true (<- elem' a (i-1)) b 0 j (j-1) | return dn o i j
   let k:=j-t
   bc:=k
   if k > 0 then
    o:=o++(b.extract t j).reverse;j:=t
    if j == 1 then return fb o i j
    if j == 0 then return dn o i j
   i:=i-1;o:=o.push (<- elem' a i)
   if i == 0 then return dn o i j
   if ac < 7 && bc < 7 then break
  mg:=mg+1
  modify fun st=>setG st mg
 unsupported "internal:list.sort.merge-bound"):=rfl
noncomputable abbrev D5:=Option (Array Keyed)×Nat×Nat×Array Keyed×Nat
noncomputable abbrev D6:=Option (Array Keyed)×Nat×Nat×Array Keyed×Nat×Nat
noncomputable abbrev D7:=Option (Array Keyed)×Nat×Nat×Array Keyed×Nat×Nat×Nat
noncomputable abbrev dnH (a b o:Array Keyed) (i j:Nat):Array Keyed:=a.extract 0 i++b.extract 0 j++o.reverse
noncomputable abbrev fbH (a b o:Array Keyed) (i j:Nat):Array Keyed:=b.extract 0 j++a.extract 0 i++o.reverse
noncomputable def hi1 (a b:Array Keyed) (mg:Nat) (c:D6):SM (ForInStep D6):=do
 let y <- elem' b (c.2.2.1-1)
 let x <- elem' a (c.2.1-1)
 let r <- lt' y x
 match r with
 | some w=>
  if w=true then do
   let x <- elem' a (c.2.1-1)
   if (c.2.1-1 == 0)=true then pure (.done (some (dnH a b (c.2.2.2.1.push x) (c.2.1-1) c.2.2.1),c.2.1-1,c.2.2.1,c.2.2.2.1.push x,c.2.2.2.2.1+1,0))
   else if c.2.2.2.2.1+1≥mg then pure (.done (none,c.2.1-1,c.2.2.1,c.2.2.2.1.push x,c.2.2.2.2.1+1,0))
   else pure (.yield (none,c.2.1-1,c.2.2.1,c.2.2.2.1.push x,c.2.2.2.2.1+1,0))
  else do
   let y <- elem' b (c.2.2.1-1)
   if (c.2.2.1-1 == 1)=true then pure (.done (some (fbH a b (c.2.2.2.1.push y) c.2.1 (c.2.2.1-1)),c.2.1,c.2.2.1-1,c.2.2.2.1.push y,0,c.2.2.2.2.2+1))
   else if c.2.2.2.2.2+1≥mg then pure (.done (none,c.2.1,c.2.2.1-1,c.2.2.2.1.push y,0,c.2.2.2.2.2+1))
   else pure (.yield (none,c.2.1,c.2.2.1-1,c.2.2.2.1.push y,0,c.2.2.2.2.2+1))
 | _=>pure (.done (some (dnH a b c.2.2.2.1 c.2.1 c.2.2.1),c.2.1,c.2.2.1,c.2.2.2.1,c.2.2.2.2.1,c.2.2.2.2.2))
noncomputable def hi4 (a b:Array Keyed) (g ac bc:Nat) (o:Array Keyed) (i j:Nat):SM (ForInStep D7):=do
 let x <- elem' a (i-1)
 if (i-1 == 0)=true then pure (.done (some (dnH a b (o.push x) (i-1) j),i-1,j,o.push x,g,ac,bc))
 else if (decide (ac < 7) && decide (bc < 7))=true then pure (.done (none,i-1,j,o.push x,g,ac,bc))
 else pure (.yield (none,i-1,j,o.push x,g,ac,bc))
noncomputable def hi3 (a b:Array Keyed) (g ac bc:Nat) (o:Array Keyed) (i j:Nat):SM (ForInStep D7):=do
 let y <- elem' b (j-1)
 if (j-1 == 1)=true then pure (.done (some (fbH a b (o.push y) i (j-1)),i,j-1,o.push y,g,ac,bc))
 else do
  let x <- elem' a (i-1)
  let r <- gal true x b 0 (j-1) (j-1-1)
  match r with
  | some t=>
   if j-1-t > 0 then
    if (t == 1)=true then pure (.done (some (fbH a b (o.push y++(b.extract t (j-1)).reverse) i t),i,t,o.push y++(b.extract t (j-1)).reverse,g,ac,j-1-t))
    else if (t == 0)=true then pure (.done (some (dnH a b (o.push y++(b.extract t (j-1)).reverse) i t),i,t,o.push y++(b.extract t (j-1)).reverse,g,ac,j-1-t))
    else hi4 a b g ac (j-1-t) (o.push y++(b.extract t (j-1)).reverse) i t
   else hi4 a b g ac (j-1-t) (o.push y) i (j-1)
  | _=>pure (.done (some (dnH a b (o.push y) i (j-1)),i,j-1,o.push y,g,ac,bc))
noncomputable def hi2 (a b:Array Keyed) (g ac bc:Nat) (o:Array Keyed) (i j:Nat):SM (ForInStep D7):=do
 modify fun st=>setG st g
 let y <- elem' b (j-1)
 let r <- gal false y a 0 i (i-1)
 match r with
 | some t=>
  if i-t > 0 then
   if (t == 0)=true then pure (.done (some (dnH a b (o++(a.extract t i).reverse) t j),t,j,o++(a.extract t i).reverse,g,i-t,bc))
   else hi3 a b g (i-t) bc (o++(a.extract t i).reverse) t j
  else hi3 a b g (i-t) bc o i j
 | _=>pure (.done (some (dnH a b o i j),i,j,o,g,ac,bc))
noncomputable def hiB (a b:Array Keyed) (c:D7):SM (ForInStep D7) :=
 if c.2.2.2.2.1 > 1 then hi2 a b (c.2.2.2.2.1-1) c.2.2.2.2.2.1 c.2.2.2.2.2.2 c.2.2.2.1 c.2.1 c.2.2.1
 else hi2 a b c.2.2.2.2.1 c.2.2.2.2.2.1 c.2.2.2.2.2.2 c.2.2.2.1 c.2.1 c.2.2.1
noncomputable def hiO (a b:Array Keyed) (c:D5):SM (ForInStep D5):=do
 let c1 <- forIn [0:a.size+b.size] ((none,c.2.1,c.2.2.1,c.2.2.2.1,0,0):D6) fun _ d=>hi1 a b c.2.2.2.2 d
 match c1.1 with
 | some r=>pure (.done (some r,c1.2.1,c1.2.2.1,c1.2.2.2.1,c.2.2.2.2))
 | none=>do
  liftM (rule "list.sort.gallop")
  let c2 <- forIn [0:a.size+b.size] ((none,c1.2.1,c1.2.2.1,c1.2.2.2.1,c.2.2.2.2+1,c1.2.2.2.2.1,c1.2.2.2.2.2):D7) fun _ d=>hiB a b d
  match c2.1 with
  | some r=>pure (.done (some r,c2.2.1,c2.2.2.1,c2.2.2.2.1,c2.2.2.2.2.1))
  | none=>do
   modify fun st=>setG st (c2.2.2.2.2.1+1)
   pure (.yield (none,c2.2.1,c2.2.2.1,c2.2.2.2.1,c2.2.2.2.2.1+1))
theorem mHi_low (a b:Array Keyed):mHi a b=(do
 liftM (rule "list.sort.merge-hi")
 let x <- elem' a (a.size-1)
 if (a.size-1 == 0)=true then pure (dnH a b #[x] (a.size-1) b.size)
 else if (b.size == 1)=true then pure (fbH a b #[x] (a.size-1) b.size)
 else do
  let st <- get
  let c <- forIn [0:a.size+b.size] ((none,a.size-1,b.size,#[x],gallopOf st):D5) fun _ d=>hiO a b d
  match c.1 with
  | some r=>pure r
  | none=>liftM (unsupported "internal:list.sort.merge-bound":Sem (Array Keyed))):=by
 rw [mHi_eq]
 refine bnd _ fun _=>bnd _ fun y=>?_
 refine if2 rfl (if2 rfl ?_)
 refine bnd _ fun st=>bnd2 (for2 fun _ c=>?_) fun c=>?_
 .unfold hiO
  refine bnd2 (for2 fun _ d=>?_) fun c1=>?_
  .rfl
  .obtain ⟨r,i,j,o,ac,bc⟩:=c1
   cases r with
   | some r=>rfl
   | none=>
    refine bnd2 rfl fun _=>bnd2 (for2 fun _ d=>?_) fun B=>?_
    .unfold hiB
     refine if2 ?_ ?_
     all_goals
      unfold hi2
      refine bnd2 rfl fun _=>bnd2 rfl fun y=>bnd2 rfl fun r=>?_
      cases r with
      | none=>rfl
      | some k=>
       refine if2 (if2 rfl ?_) ?_
       all_goals
        unfold hi3
        refine bnd2 rfl fun J=>if2 rfl (bnd2 rfl fun U=>bnd2 rfl fun r2=>?_)
        cases r2 with
        | none=>rfl
        | some k2=>
         refine if2 (if2 rfl (if2 rfl ?_)) ?_
         all_goals
          unfold hi4
          refine bnd2 rfl fun O=>if2 rfl (if2 rfl rfl)
    .obtain ⟨r,i,j,o,g,ac,bc⟩:=B
     cases r with
     | some r=>rfl
     | none=>rfl
 .obtain ⟨r,i,j,o,g⟩:=c
  cases r with
  | some r=>rfl
  | none=>rfl
end L2S
namespace L2S
open PySem PyProof.Rows
section
variable {M:Model} {A:Around} {E:Value->Shared->Prop} {s:Shared} {κ:SortKind} {a₀:Array Keyed} {f:Keyed->Int} {a b o:Array Keyed} {i j:Nat}
noncomputable abbrev JH (f:Keyed->Int) (a b o:Array Keyed) (i j:Nat):Prop:=Jm (fun x=>- f x) a.toList.reverse b.toList.reverse o.toList (a.size-i) (b.size-j)
theorem ZBc {a:Array Keyed} {i:Nat} (h:i <= a.size):a.toList.reverse.drop (a.size-i)=(a.toList.take i).reverse:=by
 rw [List.drop_reverse,yAN,show a.size-(a.size-i)=i by omega]
theorem ZEO (a:Array Keyed) (i:Nat):(a.extract 0 i).toList=a.toList.take i:=by
 rw [yCC,yCH,Nat.sub_zero]
 rfl
theorem ZD6 {a:Array Keyed} {i:Nat} {x:Keyed} (h:i <= a.size) (B:x∈a.toList.reverse.drop (a.size-i)):∃ k,k < i /\ kn f a k=f x:=by
 rw [ZBc h,List.mem_reverse] at B
 obtain ⟨n,hn⟩:=yBI B
 have hl:=(yAI.mp hn).1
 rw [yAP] at hl
 rw [yBY (by omega),yAV] at hn
 exact ⟨n,by omega,ZBK hn⟩
theorem good_rev {as bs r:List Keyed} (h:Good (fun x=>- f x) as.reverse bs.reverse r):Good f as bs r.reverse:=by
 refine ⟨?_,?_⟩
 .refine (List.reverse_perm r).trans (h.1.trans ?_)
  exact List.Perm.append (List.reverse_perm as) (List.reverse_perm bs)
 .rw [List.pairwise_reverse]
  refine h.2.imp fun {x y} z=>?_
  have w:- f x <= - f y:=z
  show f y <= f x
  omega
theorem JH.dn (h:JH f a b o i j) (hi:i <= a.size) (B:j <= b.size) (e:i=0∨j=0):Fin f a b (dnH a b o i j):=by
 have g:=Jm.dn (Jm.swap h) (e.symm.imp (fun z=>by rw [ZBc B,z];rfl) (fun z=>by rw [ZBc hi,z];rfl))
 have g2:=good_rev g
 rw [ZBc hi,ZBc B,List.reverse_append,List.reverse_append,List.reverse_reverse,List.reverse_reverse,<- yAK] at g2
 unfold Fin dnH
 rw [yBV,yBV,ZEO,ZEO,Array.toList_reverse]
 exact ⟨g2.1.trans yCN,g2.2⟩
theorem JH.fb (h:JH f a b o i j) (T:Two a₀ f a b) (hi:i <= a.size) (J:j <= b.size) (e:j=1):Fin f a b (fbH a b o i j):=by
 have g:=Jm.la (Jm.swap h) fun x U y Z=>by
  obtain ⟨k,k1,B⟩:=ZD6 (f:=f) J U
  obtain ⟨n,n1,O⟩:=ZD6 (f:=f) hi Z
  have:=T.lo n (by omega)
  rw [show k=0 by omega] at B
  rw [B,O] at this
  show-f y <= - f x
  omega
 have g2:=good_rev g
 rw [ZBc hi,ZBc J,List.reverse_append,List.reverse_append,List.reverse_reverse,List.reverse_reverse,<- yAK] at g2
 unfold Fin fbH
 rw [yBV,yBV,ZEO,ZEO,Array.toList_reverse]
 exact ⟨g2.1.trans yCN,g2.2⟩
theorem JH.chunkA (h:JH f a b o i j) {t:Nat} (ht:t <= i) (hi:i <= a.size) (O:j <= b.size) (hc:∀ n m,t <= n->n < i->m < j->kn f b m <= kn f a n):JH f a b (o++(a.extract t i).reverse) t j:=by
 have e:(a.toList.reverse.drop (a.size-i)).take (i-t)=(a.extract t i).reverse.toList:=by
  rw [ZBc hi,List.take_reverse,Array.toList_reverse,yCC,yCH,yAP,yAN,yBW hi,show i-(i-t)=t by omega,List.drop_take]
 have g:=Jm.chunk h (i-t) fun u B y U=>by
  obtain ⟨m,m1,m2⟩:=ZD6 (f:=f) O U
  rw [e,Array.toList_reverse,List.mem_reverse,show i=t+(i-t) by omega,ZEF] at B
  obtain ⟨n,J,n2,n3,Z⟩:=mem_take (f:=f) B
  have:=hc n m J (by omega) m1
  show-f u <= - f y
  omega
 rw [e] at g
 unfold JH
 rw [yBV,show a.size-t=a.size-i+(i-t) by omega]
 exact g
theorem JH.chunkB (h:JH f a b o i j) {t:Nat} (J:t <= j) (hi:i <= a.size) (B:j <= b.size) (hc:∀ n m,t <= n->n < j->m < i->kn f a m <= kn f b n):JH f a b (o++(b.extract t j).reverse) i t :=
 (JH.chunkA (Jm.swap h) J B hi hc).swap
theorem one_rev {x:Keyed} (B:a[i-1]?=some x) (hi:1 <= i):(a.extract (i-1) i).reverse=#[x]:=by
 have e:(a.extract (i-1) i).toList=[x]:=by
  have:=ZEF a (i-1) 1
  rw [show i-1+1=i by omega] at this
  rw [this]
  exact ZEh B
 apply Array.toList_inj.mp
 rw [Array.toList_reverse,e]
 rfl
theorem JH.pushA {x:Keyed} (h:JH f a b o i j) (B:a[i-1]?=some x) (h1:1 <= i) (hi:i <= a.size) (J:j <= b.size) (hc:∀ m,m < j->kn f b m <= f x):JH f a b (o.push x) (i-1) j:=by
 have g:=JH.chunkA h (t:=i-1) (by omega) hi J fun n m O U m1=>by
  rw [show n=i-1 by omega,ZBK B]
  exact hc m m1
 rw [one_rev B h1] at g
 rw [show o.push x=o++#[x] from rfl]
 exact g
theorem JH.pushB {x:Keyed} (h:JH f a b o i j) (J:b[j-1]?=some x) (h1:1 <= j) (hi:i <= a.size) (B:j <= b.size) (hc:∀ m,m < i->kn f a m <= f x):JH f a b (o.push x) i (j-1) :=
 (JH.pushA (Jm.swap h) J h1 B hi hc).swap
structure At (f:Keyed->Int) (a b:Array Keyed) (x:Nat) (i j:Nat) (o:Array Keyed):Prop where
 J:JH f a b o i j
 i1:1 <= i
 i2:i <= a.size
 j1:2 <= j
 j2:j <= b.size
 p:x+i+j <= a.size+b.size
noncomputable def R7h (f:Keyed->Int) (a b:Array Keyed) (st:SortSt) (x:Nat):ForInStep D7->SortSt->Prop
 | .done c,st'=>Ev st st' /\ ((∃ r z,c=(some r,z) /\ Fin f a b r)∨∃ i j o g ac bc,c=(none,i,j,o,g,ac,bc) /\ At f a b x i j o)
 | .yield c,st'=>Ev st st' /\ ∃ i j o g ac bc,c=(none,i,j,o,g,ac,bc) /\ At f a b x i j o
theorem mHi_ok {st:SortSt} {Q:Array Keyed->SortSt->Prop} (L:Asks M A E s κ a₀ f) (hk:kindOf st=κ) (T:Two a₀ f a b) (h:∀ r st',Ev st st'->Fin f a b r->Q r st'):wpS M A E s (mHi a b) Q st:=by
 have ta:=T.na
 have tb:=T.nb
 have ua:∀ n m,n <= m->m < a.size->kn f a n <= kn f a m:=fun n m z1 z2=>T.ua n m (yAG _) z1 (by omega)
 have ub:∀ n m,n <= m->m < b.size->kn f b n <= kn f b m:=fun n m z1 z2=>T.ub n m (yAG _) z1 (by omega)
 have pr:∀ l:List Keyed,l.Pairwise (leK f)->l.reverse.Pairwise (leK fun x=>- f x):=fun l z=>by
  rw [List.pairwise_reverse]
  refine z.imp fun {x y} w=>?_
  have w':f x <= f y:=w
  show-f y <= - f x
  omega
 rw [mHi_low]
 refine wpS_bind (wpS_lift (wpAny_rule ⟨rfl,?_⟩))
 obtain ⟨x0,a2⟩:=ZCT (a:=a) (i:=a.size-1) (by omega)
 refine wpS_bind (ZAt a2 ?_)
 have J0:JH f a b #[x0] (a.size-1) b.size:=by
  have e:JH f a b #[] a.size b.size:=⟨by simp,by simpa using pr _ (ZEp T.ua),by simpa using pr _ (ZEp T.ub)⟩
  exact JH.pushA e a2 ta (yAA _) (yAA _) fun m m1=>by rw [<- ZBK (f:=f) a2];exact T.hi m m1
 by_cases c1:a.size-1=0
 .rw [if_pos (by simpa using c1)]
  exact wpS_pure (h _ st .refl (J0.dn (by omega) (yAA _) (.inl c1)))
 rw [if_neg (by simpa using c1)]
 by_cases c2:b.size=1
 .rw [if_pos (by simpa using c2)]
  exact wpS_pure (h _ st .refl (J0.fb T (by omega) (yAA _) c2))
 rw [if_neg (by simpa using c2)]
 refine wpS_bind (wpS_get ?_)
 refine wpS_bind (wpS_mono (wpS_forRange (I:=fun x c st'=>Ev st st' /\ ∃ i j o g,c=(none,i,j,o,g) /\ At f a b (x+1) i j o) (Q:=fun c st'=>Ev st st' /\ ∃ r z,c=(some r,z) /\ Fin f a b r) ?_ ?_ ⟨.refl,_,_,_,_,rfl,J0,by omega,by omega,by omega,by omega,by omega⟩) ?_)
 .rintro x c a4 _ hx ⟨e1,i,j,o,g,rfl,W⟩
  unfold hiO
  dsimp only
  refine wpS_bind (wpS_mono (wpS_forRange (I:=fun y c st'=>Ev st st' /\ ∃ i j o ac bc,c=(none,i,j,o,ac,bc) /\ At f a b (x+1+y) i j o)
   (Q:=fun c st'=>Ev st st' /\ ((∃ r z,c=(some r,z) /\ Fin f a b r)∨∃ i j o ac bc,c=(none,i,j,o,ac,bc) /\ At f a b (x+2) i j o)) ?_ ?_ ⟨e1,i,j,o,0,0,rfl,W⟩) ?_)
  .rintro y c st2 _ hy ⟨e2,i,j,o,ac,bc,rfl,J,i1,U,j1,Z,hp⟩
   unfold hi1
   dsimp only
   obtain ⟨yb,O⟩:=ZCT (a:=b) (i:=j-1) (by omega)
   obtain ⟨xa,B⟩:=ZCT (a:=a) (i:=i-1) (by omega)
   refine wpS_bind (ZAt O ?_)
   refine wpS_bind (ZAt B ?_)
   refine wpS_bind (L.lt yb xa (T.ib.get O) (T.ia.get B) st2 _ (e2.k.trans hk) ?_)
   by_cases hw:f yb < f xa
   .rw [decide_eq_true hw]
    dsimp only
    rw [if_pos rfl]
    refine wpS_bind (ZAt B ?_)
    have J2:=J.pushA B i1 U Z fun m m1=>by
     have:=ub m (j-1) (by omega) (by omega)
     rw [ZBK O] at this
     omega
    by_cases c3:i-1=0
    .rw [if_pos (by simpa using c3)]
     exact wpS_pure ⟨e2,.inl ⟨_,_,rfl,J2.dn (by omega) Z (.inl c3)⟩⟩
    rw [if_neg (by simpa using c3)]
    split
    .exact wpS_pure ⟨e2,.inr ⟨_,_,_,_,_,rfl,J2,by omega,by omega,j1,Z,by omega⟩⟩
    .exact wpS_pure ⟨e2,_,_,_,_,_,rfl,J2,by omega,by omega,j1,Z,by omega⟩
   .rw [decide_eq_false hw]
    dsimp only
    rw [if_neg (by decide)]
    refine wpS_bind (ZAt O ?_)
    have J2:=J.pushB O (by omega) U Z fun m m1=>by
     have:=ua m (i-1) (by omega) (by omega)
     rw [ZBK B] at this
     omega
    by_cases c3:j-1=1
    .rw [if_pos (by simpa using c3)]
     exact wpS_pure ⟨e2,.inl ⟨_,_,rfl,J2.fb T U (by omega) c3⟩⟩
    rw [if_neg (by simpa using c3)]
    split
    .exact wpS_pure ⟨e2,.inr ⟨_,_,_,_,_,rfl,J2,i1,U,by omega,by omega,by omega⟩⟩
    .exact wpS_pure ⟨e2,_,_,_,_,_,rfl,J2,i1,U,by omega,by omega,by omega⟩
  .rintro c st2 ⟨e2,i,j,o,ac,bc,rfl,J,i1,U,j1,Z,hp⟩
   exact ⟨e2,.inr ⟨_,_,_,_,_,rfl,J,i1,U,j1,Z,by omega⟩⟩
  .rintro c st2 ⟨e2,⟨r,z,rfl,hr⟩ | ⟨i,j,o,ac,bc,rfl,W⟩⟩
   .exact wpS_pure ⟨e2,r,_,rfl,hr⟩
   dsimp only
   refine wpS_bind (wpS_lift (wpAny_rule ⟨rfl,?_⟩))
   refine wpS_bind (wpS_mono (wpS_forRange (I:=fun y c st'=>Ev st st' /\ ∃ i j o g ac bc,c=(none,i,j,o,g,ac,bc) /\ At f a b (x+2) i j o)
    (Q:=fun c st'=>Ev st st' /\ ((∃ r z,c=(some r,z) /\ Fin f a b r)∨∃ i j o g ac bc,c=(none,i,j,o,g,ac,bc) /\ At f a b (x+2) i j o)) ?_ ?_ ⟨e2,i,j,o,_,ac,bc,rfl,W⟩) ?_)
   .rintro y c st3 _ hy ⟨e3,i,j,o,g,ac,bc,rfl,J,i1,U,j1,Z,hp⟩
    have a1:∀ (g ac bc:Nat) (o:Array Keyed) (i j:Nat) (st4:SortSt) (xa:Keyed),Ev st st4->At f a b (x+2) i j o->a[i-1]?=some xa->(∀ n,n < j->kn f b n <= f xa)->wpS M A E s (hi4 a b g ac bc o i j) (R7h f a b st (x+2)) st4:=by
     rintro g ac bc o i j st4 xa e4 ⟨J,i1,U,j1,Z,hp⟩ B a3
     unfold hi4
     refine wpS_bind (ZAt B ?_)
     have J2:=J.pushA B i1 U Z a3
     by_cases c3:i-1=0
     .rw [if_pos (by simpa using c3)]
      exact wpS_pure ⟨e4,.inl ⟨_,_,rfl,J2.dn (by omega) Z (.inl c3)⟩⟩
     rw [if_neg (by simpa using c3)]
     split
     .exact wpS_pure ⟨e4,.inr ⟨_,_,_,_,_,_,rfl,J2,by omega,by omega,j1,Z,by omega⟩⟩
     .exact wpS_pure ⟨e4,_,_,_,_,_,_,rfl,J2,by omega,by omega,j1,Z,by omega⟩
    have a0:∀ (g ac bc:Nat) (o:Array Keyed) (i j:Nat) (st4:SortSt) (yb:Keyed),Ev st st4->At f a b (x+2) i j o->b[j-1]?=some yb->(∀ n,n < i->kn f a n <= f yb)->wpS M A E s (hi3 a b g ac bc o i j) (R7h f a b st (x+2)) st4:=by
     rintro g ac bc o i j st4 yb e4 ⟨J,i1,U,j1,Z,hp⟩ O a3
     unfold hi3
     refine wpS_bind (ZAt O ?_)
     have J2:=J.pushB O (by omega) U Z a3
     by_cases c3:j-1=1
     .rw [if_pos (by simpa using c3)]
      exact wpS_pure ⟨e4,.inl ⟨_,_,rfl,J2.fb T U (by omega) c3⟩⟩
     rw [if_neg (by simpa using c3)]
     obtain ⟨xa,B⟩:=ZCT (a:=a) (i:=i-1) (by omega)
     refine wpS_bind (ZAt B ?_)
     refine wpS_bind (ZEC L (e4.k.trans hk) T.ib (T.ia.get B) (by omega) (by omega) (T.ub.sub (by omega)) fun t k1 k2 k3=>?_)
     dsimp only
     have rest:∀ n,n < t->kn f b n <= f xa:=fun n n1=>by
      have:=k2 n n1
      rw [yCI] at this
      omega
     by_cases hk0:j-1-t > 0
     .rw [if_pos hk0]
      have J3:=J2.chunkB k1 U (by omega) fun n m n1 n2 m1=>by
       have z:=k3 n n1 n2
       rw [yCI] at z
       have z2:=ua m (i-1) (by omega) (by omega)
       rw [ZBK B] at z2
       omega
      by_cases c4:t=1
      .rw [if_pos (by simpa using c4)]
       exact wpS_pure ⟨e4,.inl ⟨_,_,rfl,J3.fb T U (by omega) c4⟩⟩
      rw [if_neg (by simpa using c4)]
      by_cases c5:t=0
      .rw [if_pos (by simpa using c5)]
       exact wpS_pure ⟨e4,.inl ⟨_,_,rfl,J3.dn U (by omega) (.inr c5)⟩⟩
      rw [if_neg (by simpa using c5)]
      exact a1 _ _ _ _ _ _ _ xa e4 ⟨J3,i1,U,by omega,by omega,by omega⟩ B rest
     .rw [if_neg hk0]
      have:t=j-1:=by omega
      subst this
      exact a1 _ _ _ _ _ _ _ xa e4 ⟨J2,i1,U,by omega,by omega,by omega⟩ B rest
    have two:∀ (g ac bc:Nat),wpS M A E s (hi2 a b g ac bc o i j) (R7h f a b st (x+2)) st3:=by
     intro g ac bc
     unfold hi2
     obtain ⟨yb,O⟩:=ZCT (a:=b) (i:=j-1) (by omega)
     refine wpS_bind (wpS_modify ?_)
     have e4:=e3.setG g
     refine wpS_bind (ZAt O ?_)
     refine wpS_bind (ZEi L (e4.k.trans hk) T.ia (T.ib.get O) (by omega) (by omega) (T.ua.sub (by omega)) fun t k1 k2 k3=>?_)
     dsimp only
     have rest:∀ n,n < t->kn f a n <= f yb:=fun n n1=>by
      have:=k2 n n1
      rw [yCI] at this
      exact this
     by_cases hk0:i-t > 0
     .rw [if_pos hk0]
      have J3:=J.chunkA k1 U Z fun n m n1 n2 m1=>by
       have z:=k3 n n1 n2
       rw [yCI] at z
       have z2:=ub m (j-1) (by omega) (by omega)
       rw [ZBK O] at z2
       omega
      by_cases c4:t=0
      .rw [if_pos (by simpa using c4)]
       exact wpS_pure ⟨e4,.inl ⟨_,_,rfl,J3.dn (by omega) Z (.inl c4)⟩⟩
      rw [if_neg (by simpa using c4)]
      exact a0 _ _ _ _ _ _ _ yb e4 ⟨J3,by omega,by omega,j1,Z,by omega⟩ O rest
     .rw [if_neg hk0]
      have:t=i:=by omega
      subst this
      exact a0 _ _ _ _ _ _ _ yb e4 ⟨J,i1,U,j1,Z,hp⟩ O rest
    unfold hiB
    dsimp only
    split
    .exact wpS_mono (two _ _ _) fun r st' z=>by cases r <;> exact z
    .exact wpS_mono (two _ _ _) fun r st' z=>by cases r <;> exact z
   .rintro c st3 ⟨e3,i,j,o,g,ac,bc,rfl,W⟩
    exact ⟨e3,.inr ⟨_,_,_,_,_,_,rfl,W⟩⟩
   .rintro c st3 ⟨e3,⟨r,z,rfl,hr⟩ | ⟨i,j,o,g,ac,bc,rfl,W⟩⟩
    .exact wpS_pure ⟨e3,r,_,rfl,hr⟩
    .dsimp only
     exact wpS_bind (wpS_modify (wpS_pure ⟨e3.setG _,_,_,_,_,rfl,W⟩))
 .rintro c a4 ⟨e1,i,j,o,g,rfl,J,i1,U,j1,Z,hp⟩
  omega
 .rintro c a4 ⟨e1,r,z,rfl,hr⟩
  exact wpS_pure (h r a4 e1 hr)
end
end L2S
namespace L2S
open PySem PyProof.Rows
noncomputable abbrev PT:=Nat×Nat×Nat
noncomputable def ZDI (xs m:Array Keyed) (lo:Nat):Array Keyed:=m.toList.zipIdx.foldl (fun a (p,j)=>a.setIfInBounds (lo+j) p) xs
theorem mAt_eq (i:Nat):mergeAt' i=(do
 let z <- get
 let (some (s1,n1,w1),some (s2,n2,_)):=((pendingOf z)[i]?,(pendingOf z)[i+1]?) | unsupported "internal:list.sort.pending"
 set (setPending z (((pendingOf z).setIfInBounds i (s1,n1+n2,w1)).eraseIdxIfInBounds (i+1)))
 let some k <- gal false (<- elem' (arrOf z) s2) (arrOf z) s1 n1 0 | return false
 let (s1,n1):=(s1+k,n1-k)
 if n1 == 0 then return true
 let some n2 <- gal true (<- elem' (arrOf z) (s1+n1-1)) (arrOf z) s2 n2 (n2-1) | return false
 if n2 == 0 then return true
 let x:=(arrOf z).extract s1 s2
 let y:=(arrOf z).extract s2 (s2+n2)
 let m <- if n1 <= n2 then mLo x y else mHi x y
 modify fun z=>setArr z (ZDI (arrOf z) m s1)
 return (failedOf (<- get)).isNone):=rfl
theorem wpS_set {M:Model} {A:Around} {E:Value->Shared->Prop} {s:Shared} {σ:Type} {x:σ} {Q:PUnit->σ->Prop} {st:σ} (h:Q ⟨⟩ x):wpS M A E s (set x:StateT σ Sem PUnit) Q st:=by
 unfold wpS;rw [StateT.run_set];exact wpAny_pure ⟨rfl,h⟩
theorem lay_go (lo:Nat):∀ (l:List Keyed) (k:Nat) (xs:Array Keyed),lo+k+l.length <= xs.size ->
  (((l.zipIdx k).foldl (fun a (p:Keyed×Nat)=>a.setIfInBounds (lo+p.2) p.1) xs).size=xs.size) /\ ∀ n,((l.zipIdx k).foldl (fun a (p:Keyed×Nat)=>a.setIfInBounds (lo+p.2) p.1) xs)[n]?=if lo+k <= n /\ n < lo+k+l.length then l[n-(lo+k)]? else xs[n]?
 | [],k,xs,_=>by
  refine ⟨rfl,fun n=>?_⟩
  rw [if_neg (fun z=>by rw [yCE] at z;omega)]
  rfl
 | x::r,k,xs,h=>by
  rw [yAH] at h
  rw [List.zipIdx_cons,List.foldl_cons]
  obtain ⟨B,J⟩:=lay_go lo r (k+1) (xs.setIfInBounds (lo+k) x) (by rw [Array.size_setIfInBounds];omega)
  refine ⟨by rw [B,Array.size_setIfInBounds],fun n=>?_⟩
  rw [J,yAH]
  by_cases c1:lo+(k+1) <= n /\ n < lo+(k+1)+r.length
  .rw [if_pos c1,if_pos (by omega),show n-(lo+k)=(n-(lo+(k+1)))+1 by omega,List.getElem?_cons_succ]
  .rw [if_neg c1,Array.getElem?_setIfInBounds]
   by_cases c2:lo+k=n
   .rw [if_pos c2,if_pos (by omega),if_pos (by omega),show n-(lo+k)=0 by omega]
    rfl
   .rw [if_neg c2,if_neg (by omega)]
theorem ZD8 {xs m:Array Keyed} {lo:Nat} (h:lo+m.size <= xs.size) (n:Nat):(ZDI xs m lo)[n]?=if lo <= n /\ n < lo+m.size then m[n-lo]? else xs[n]?:=by
 have:=(lay_go lo m.toList 0 xs (by rw [yAN];omega)).2 n
 rw [yAN,Nat.add_zero,yAV] at this
 exact this
theorem lay_list {xs m:Array Keyed} {lo:Nat} (h:lo+m.size <= xs.size):(ZDI xs m lo).toList=xs.toList.take lo++m.toList++xs.toList.drop (lo+m.size):=by
 refine yCL fun n=>?_
 rw [yAV,ZD8 h]
 by_cases c1:n < lo
 .rw [if_neg (by omega),yAK,yAY (by rw [yAP,yAN];omega),yBY c1,yAV]
 .by_cases c2:n < lo+m.size
  .rw [if_pos (by omega),yAK,yBE (by rw [yAP,yAN];omega),yAP,yAN,yBW (by omega),yAY (by rw [yAN];omega),yAV]
  .rw [if_neg (by omega),yBE (by rw [yAB,yAP,yAN,yAN];omega),yAB,yAP,yAN,yAN,yBW (by omega),yBZ,yAV]
   congr 1
   omega
section
variable {M:Model} {A:Around} {E:Value->Shared->Prop} {s:Shared} {κ:SortKind} {a₀:Array Keyed} {f:Keyed->Int}
theorem SB.inA {st:SortSt} (h:SB κ a₀ st):InA a₀ (arrOf st):=fun x B=>(Array.perm_iff_toList_perm.mp h.perm).mem_iff.mp B
theorem ext_get {xs:Array Keyed} {i j n:Nat} (h:j <= xs.size) (hn:n < j-i):(xs.extract i j)[n]?=xs[i+n]?:=by
 rw [Array.getElem?_extract]
 rw [if_pos (by omega)]
theorem merge_at {st:SortSt} {i B na w nb v:Nat} {Q:Bool->SortSt->Prop} (L:Asks M A E s κ a₀ f) (hB:SB κ a₀ st) (p1:(pendingOf st)[i]?=some (B,na,w)) (p2:(pendingOf st)[i+1]?=some (B+na,nb,v)) (a9:1 <= na) (ab:1 <= nb) (hz:B+na+nb <= a₀.size)
  (ua:Up f (arrOf st) B na) (ub:Up f (arrOf st) (B+na) nb)
  (h:∀ st',SB κ a₀ st'->pendingOf st'=((pendingOf st).setIfInBounds i (B,na+nb,w)).eraseIdxIfInBounds (i+1)->Up f (arrOf st') B (na+nb)->(∀ k,k < B∨B+na+nb <= k->(arrOf st')[k]?=(arrOf st)[k]?)->Q true st'):wpS M A E s (mergeAt' i) Q st:=by
 have aa:=hB.size
 rw [mAt_eq]
 refine wpS_bind (wpS_get ?_)
 rw [p1,p2]
 dsimp only
 refine wpS_bind (wpS_set ?_)
 have Z:SB κ a₀ (setPending st (((pendingOf st).setIfInBounds i (B,na+nb,w)).eraseIdxIfInBounds (i+1))):=⟨hB.perm,hB.kind,hB.fail⟩
 obtain ⟨b0,a2⟩:=ZCT (a:=arrOf st) (i:=B+na) (by omega)
 refine wpS_bind (ZAt a2 ?_)
 refine wpS_bind (ZEi L Z.kind hB.inA (hB.inA.get a2) (by omega) (by omega) ua fun k k1 k2 k3=>?_)
 dsimp only
 have a1:∀ n,B <= n->n < B+k->kn f (arrOf st) n <= f b0:=fun n O J=>by
  have:=k2 (n-B) (by omega)
  rw [show B+(n-B)=n by omega] at this
  exact this
 have U:∀ n,B+na <= n->n < B+na+nb->f b0 <= kn f (arrOf st) n:=fun n O J=>by
  have:=ub (B+na) n (yAA _) O J
  rw [ZBK a2] at this
  exact this
 by_cases c1:na-k=0
 .rw [if_pos (by simpa using c1)]
  refine wpS_pure (h _ Z rfl (fun n m O J n3=>?_) fun _ _=>rfl)
  by_cases d1:m < B+na
  .exact ua n m O J d1
  .by_cases d2:n < B+na
   .have z1:=a1 n O (by omega)
    have z2:=U m (by omega) (by omega)
    show kn f (arrOf st) n <= kn f (arrOf st) m
    omega
   .exact ub n m (by omega) J (by omega)
 rw [if_neg (by simpa using c1)]
 rw [show B+k+(na-k)-1=B+na-1 by omega]
 obtain ⟨aN,a3⟩:=ZCT (a:=arrOf st) (i:=B+na-1) (by omega)
 refine wpS_bind (ZAt a3 ?_)
 refine wpS_bind (ZEC L Z.kind hB.inA (hB.inA.get a3) (by omega) (by omega) ub fun t t1 t2 t3=>?_)
 dsimp only
 have a0:∀ n,B+na+t <= n->n < B+na+nb->f aN <= kn f (arrOf st) n:=fun n O J=>by
  have:=t3 (n-(B+na)) (by omega) (by omega)
  rw [show B+na+(n-(B+na))=n by omega] at this
  exact this
 have a5:∀ n,B <= n->n < B+na->kn f (arrOf st) n <= f aN:=fun n O J=>by
  have:=ua n (B+na-1) O (by omega) (by omega)
  rw [ZBK a3] at this
  exact this
 by_cases c2:t=0
 .rw [if_pos (by simpa using c2)]
  refine wpS_pure (h _ Z rfl (fun n m O J n3=>?_) fun _ _=>rfl)
  by_cases d1:m < B+na
  .exact ua n m O J d1
  .by_cases d2:n < B+na
   .have z1:=a5 n O d2
    have z2:=a0 m (by omega) (by omega)
    show kn f (arrOf st) n <= kn f (arrOf st) m
    omega
   .exact ub n m (by omega) J (by omega)
 rw [if_neg (by simpa using c2)]
 have x1:((arrOf st).extract (B+k) (B+na)).size=na-k:=by rw [Array.size_extract];omega
 have y1:((arrOf st).extract (B+na) (B+na+t)).size=t:=by rw [Array.size_extract];omega
 have xg:∀ n,n < na-k->kn f ((arrOf st).extract (B+k) (B+na)) n=kn f (arrOf st) (B+k+n):=fun n hn=>ZA4 (ext_get (by omega) (by omega))
 have yg:∀ n,n < t->kn f ((arrOf st).extract (B+na) (B+na+t)) n=kn f (arrOf st) (B+na+n):=fun n hn=>ZA4 (ext_get (by omega) (by omega))
 have a8:∀ n,B+k <= n->n < B+na->f b0 < kn f (arrOf st) n:=fun n O J=>by
  have:=k3 (n-B) (by omega) (by omega)
  rw [show B+(n-B)=n by omega] at this
  exact this
 have a6:∀ (lo hi:Nat),InA a₀ ((arrOf st).extract lo hi):=fun lo hi x hx=>by
  rw [yCC,yCH] at hx
  exact hB.inA x (List.mem_of_mem_drop (List.mem_of_mem_take hx))
 have T:Two a₀ f ((arrOf st).extract (B+k) (B+na)) ((arrOf st).extract (B+na) (B+na+t)):={
  ia:=a6 _ _
  ib:=a6 _ _
  ua:=fun n m _ J n3=>by
   rw [xg n (by omega),xg m (by omega)]
   exact ua _ _ (by omega) (by omega) (by omega)
  ub:=fun n m _ J n3=>by
   rw [yg n (by omega),yg m (by omega)]
   exact ub _ _ (by omega) (by omega) (by omega)
  na:=by omega
  nb:=by omega
  lo:=fun n hn=>by
   rw [xg n (by omega),yg 0 (by omega),Nat.add_zero,ZBK a2]
   exact Int.le_of_lt (a8 _ (by omega) (by omega))
  hi:=fun n hn=>by
   rw [x1,xg _ (by omega),yg n (by omega),show B+k+(na-k-1)=B+na-1 by omega,ZBK a3]
   exact Int.le_of_lt (t2 n (by omega)) }
 have fin:∀ m st',Ev (setPending st (((pendingOf st).setIfInBounds i (B,na+nb,w)).eraseIdxIfInBounds (i+1))) st'->Fin f ((arrOf st).extract (B+k) (B+na)) ((arrOf st).extract (B+na) (B+na+t)) m ->
   wpS M A E s (modify (fun z=>setArr z (ZDI (arrOf z) m (B+k))) >>= fun _=>get >>= fun z=>pure (failedOf z).isNone) Q st':=by
  intro m st' ev g
  have ea:arrOf st'=arrOf st:=ev.a
  have hm:m.size=na-k+t:=by
   have:=g.1.length_eq
   rw [yAN,yAB,yAN,yAN,x1,y1] at this
   exact this
  refine wpS_bind (wpS_modify (wpS_bind (wpS_get (wpS_pure ?_))))
  have hf:failedOf st'=none:=ev.f.trans hB.fail
  show Q (failedOf st').isNone _
  rw [hf]
  have hl:B+k+m.size <= (arrOf st).size:=by omega
  have a4:∀ n,n < m.size->∃ p,B+k <= p /\ p < B+na+t /\ kn f m n=kn f (arrOf st) p:=fun n hn=>by
   obtain ⟨x,hx⟩:=ZCT (a:=m) hn
   have a7:x∈m.toList:=by
    rw [yBN] at hx
    obtain ⟨_,rfl⟩:=hx
    simp
   have:=g.1.mem_iff.mp a7
   rw [ZBK hx]
   rcases yAZ.mp this with z | z
   .obtain ⟨q,q1⟩:=yBI z
    rw [yAV] at q1
    have q2:=(yBN.mp q1).1
    refine ⟨B+k+q,by omega,by omega,?_⟩
    rw [<- xg q (by omega),ZBK q1]
   .obtain ⟨q,q1⟩:=yBI z
    rw [yAV] at q1
    have q2:=(yBN.mp q1).1
    refine ⟨B+na+q,by omega,by omega,?_⟩
    rw [<- yg q (by omega),ZBK q1]
  have ms:∀ n q,n <= q->q < m.size->kn f m n <= kn f m q:=fun n q O J=>by
   by_cases e:n=q
   .rw [e];exact Int.le_refl _
   .have:=yCB.mp g.2 n q (by rw [yAN];omega) (by rw [yAN];omega) (by omega)
    rw [ZBK (getElem?_pos m n (by omega)),ZBK (getElem?_pos m q J)]
    simpa [leK] using this
  have lk:∀ n,kn f (ZDI (arrOf st') m (B+k)) n=if B+k <= n /\ n < B+na+t then kn f m (n-(B+k)) else kn f (arrOf st) n:=fun n=>by
   rw [ea]
   have:=ZD8 hl n
   by_cases e:B+k <= n /\ n < B+na+t
   .rw [if_pos e]
    rw [if_pos (by omega)] at this
    exact ZA4 this
   .rw [if_neg e]
    rw [if_neg (by omega)] at this
    exact ZA4 this
  refine h (setArr st' (ZDI (arrOf st') m (B+k))) ⟨?_,ev.k.trans hB.kind,hf⟩ ev.p (fun n q O J n3=>?_) fun n hn=>?_
  .show (ZDI (arrOf st') m (B+k)).Perm a₀
   rw [ea]
   refine Array.Perm.trans ?_ hB.perm
   rw [Array.perm_iff_toList_perm,lay_list hl]
   have e1:(arrOf st).toList=(arrOf st).toList.take (B+k)++(((arrOf st).extract (B+k) (B+na)).toList++((arrOf st).extract (B+na) (B+na+t)).toList)++(arrOf st).toList.drop (B+k+m.size):=by
    rw [yCC,yCC,yCH,yCH]
    have s1:((arrOf st).toList.drop (B+k)).take (B+na-(B+k))++((arrOf st).toList.drop (B+na)).take (B+na+t-(B+na))=((arrOf st).toList.drop (B+k)).take m.size:=by
     rw [show m.size=(B+na-(B+k))+(B+na+t-(B+na)) by omega,List.take_add,List.drop_drop,show B+k+(B+na-(B+k))=B+na by omega]
    rw [s1,yAK,show (arrOf st).toList.drop (B+k+m.size)=((arrOf st).toList.drop (B+k)).drop m.size by rw [List.drop_drop],yBO,yBO]
   conv=>rhs;rw [e1]
   exact List.Perm.append_right _ (List.Perm.append_left _ g.1)
  .show kn f (ZDI (arrOf st') m (B+k)) n <= kn f (ZDI (arrOf st') m (B+k)) q
   rw [lk,lk]
   by_cases c3:B+k <= n /\ n < B+na+t
   .rw [if_pos c3]
    by_cases c4:B+k <= q /\ q < B+na+t
    .rw [if_pos c4]
     exact ms _ _ (by omega) (by omega)
    .rw [if_neg c4]
     obtain ⟨p,q1,q2,q3⟩:=a4 (n-(B+k)) (by omega)
     rw [q3]
     by_cases c5:p < B+na
     .have z1:=a5 p (by omega) c5
      have z2:=a0 q (by omega) (by omega)
      omega
     .exact ub p q (by omega) (by omega) (by omega)
   .rw [if_neg c3]
    by_cases c4:B+k <= q /\ q < B+na+t
    .rw [if_pos c4]
     obtain ⟨p,q1,q2,q3⟩:=a4 (q-(B+k)) (by omega)
     rw [q3]
     have z1:=a1 n O (by omega)
     by_cases c5:p < B+na
     .exact ua n p O (by omega) c5
     .have z2:=U p (by omega) (by omega)
      omega
    .rw [if_neg c4]
     by_cases c5:q < B+na
     .exact ua n q O J c5
     .by_cases c6:n < B+na
      .have z1:=a1 n O (by omega)
       have z2:=U q (by omega) (by omega)
       omega
      .exact ub n q (by omega) J (by omega)
  .show (ZDI (arrOf st') m (B+k))[n]?=(arrOf st)[n]?
   rw [ea,ZD8 hl,if_neg (by omega)]
 by_cases c3:na-k <= t
 .rw [if_pos c3]
  exact wpS_bind (mLo_ok L Z.kind T fin)
 .rw [if_neg c3]
  exact wpS_bind (mHi_ok L Z.kind T fin)
end
end L2S
namespace L2S
open PySem PyProof.Rows
section
variable {M:Model} {A:Around} {E:Value->Shared->Prop} {s:Shared} {κ:SortKind} {a₀:Array Keyed} {f:Keyed->Int}
noncomputable def Chn (f:Keyed->Int) (xs:Array Keyed):Nat->List PT->Nat->Prop
 | a,[],e=>a=e
 | a,(b,n,_)::r,e=>b=a /\ 1 <= n /\ Up f xs a n /\ Chn f xs (a+n) r e
theorem Chn.le {xs:Array Keyed}:∀ {l:List PT} {a e:Nat},Chn f xs a l e->a+l.length <= e
 | [],a,e,h=>by have:a=e:=h;rw [yCE];omega
 | (b,n,w)::r,a,e,h=>by
  obtain ⟨_,h1,_,h2⟩:=h
  have:=h2.le
  rw [yAH]
  omega
theorem Chn.keep {xs ys:Array Keyed}:∀ {l:List PT} {a e:Nat},Chn f xs a l e->(∀ k,a <= k->k < e->ys[k]?=xs[k]?)->Chn f ys a l e
 | [],a,e,h,_=>h
 | (b,n,w)::r,a,e,⟨h0,h1,h2,h3⟩,k=>by
  have hl:=h3.le
  refine ⟨h0,h1,fun i j B J U=>?_,h3.keep fun m m1 O=>k m (by omega) O⟩
  rw [ZA4 (k i B (by omega)),ZA4 (k j (by omega) (by omega))]
  exact h2 i j B J U
theorem Chn.app {xs:Array Keyed}:∀ {l m:List PT} {a e:Nat},Chn f xs a (l++m) e↔∃ c,Chn f xs a l c /\ Chn f xs c m e
 | [],m,a,e=>⟨fun h=>⟨a,rfl,h⟩,fun ⟨c,h1,h2⟩=>by have:a=c:=h1;rw [this];exact h2⟩
 | (b,n,w)::r,m,a,e=>by
  constructor
  .rintro ⟨J,h1,h2,h3⟩
   obtain ⟨c,B,O⟩:=Chn.app.mp h3
   exact ⟨c,⟨J,h1,h2,B⟩,O⟩
  .rintro ⟨c,⟨J,h1,h2,B⟩,O⟩
   exact ⟨J,h1,h2,Chn.app.mpr ⟨c,B,O⟩⟩
theorem two_of {l:List PT} {i:Nat} (h:i+1 < l.length):∃ B x y l2,l=B++x::y::l2 /\ B.length=i:=by
 refine ⟨l.take i,l[i],l[i+1],l.drop (i+2),?_,by rw [yAP];omega⟩
 rw [<- yCO (by omega),<- yCO (by omega),yBO]
theorem join_of {B l2:List PT} {x y v:PT} {i:Nat} (h:B.length=i):((B++x::y::l2).set i v).eraseIdx (i+1)=B++v::l2:=by
 subst h
 rw [List.set_append_right _ _ (yAA _),yBF,List.set_cons_zero,List.eraseIdx_append_of_length_le (by omega),show B.length+1-B.length=1 by omega]
 rfl
theorem join_at {st:SortSt} {i lo:Nat} {Q:Bool->SortSt->Prop} (L:Asks M A E s κ a₀ f) (hB:SB κ a₀ st) (hc:Chn f (arrOf st) 0 (pendingOf st).toList lo) (a1:lo <= a₀.size) (hi:i+1 < (pendingOf st).size)
  (h:∀ st',SB κ a₀ st'->Chn f (arrOf st') 0 (pendingOf st').toList lo->(pendingOf st').size+1=(pendingOf st).size->(∀ k,lo <= k->(arrOf st')[k]?=(arrOf st)[k]?)->Q true st'):wpS M A E s (mergeAt' i) Q st:=by
 obtain ⟨l1,⟨B,J,w1⟩,⟨b2,Z,w2⟩,l2,O,hl⟩:=two_of (l:=(pendingOf st).toList) (i:=i) (by rw [yAN];exact hi)
 have U:=hc
 rw [O] at U
 obtain ⟨c,c1,rfl,c2,c3,rfl,c4,c5,c6⟩:=Chn.app.mp U
 have le:=c6.le
 have p1:(pendingOf st)[i]?=some (B,J,w1):=by
  rw [<- yAV,O,yBE (by omega),hl,yBF]
  rfl
 have p2:(pendingOf st)[i+1]?=some (B+J,Z,w2):=by
  rw [<- yAV,O,yBE (by omega),show i+1-l1.length=1 by omega]
  rfl
 refine merge_at L hB p1 p2 c2 c4 (by omega) c3 c5 fun st' a0 hp hu hk=>?_
 have e2:(pendingOf st').toList=l1++(B,J+Z,w1)::l2:=by
  rw [hp,Array.toList_eraseIdxIfInBounds,Array.toList_setIfInBounds,O]
  exact join_of hl
 refine h st' a0 ?_ ?_ fun k a3=>hk k (.inr (by omega))
 .rw [e2]
  have a2:=c1.le
  refine Chn.app.mpr ⟨B,c1.keep fun k k1 k2=>hk k (.inl k2),rfl,by omega,hu,?_⟩
  rw [show B+(J+Z)=B+J+Z by omega]
  exact c6.keep fun k k1 k2=>hk k (.inr k1)
 .have z1:=congrArg List.length e2
  have z2:=congrArg List.length O
  rw [yAN,yAB,yAH] at z1 z2
  rw [yAH] at z2
  omega
theorem Chn.pow {xs:Array Keyed} {l:List PT} {b n w v a e:Nat} (h:Chn f xs a (l++[(b,n,w)]) e):Chn f xs a (l++[(b,n,v)]) e:=by
 obtain ⟨c,c1,U,J,O,B⟩:=Chn.app.mp h
 exact Chn.app.mpr ⟨c,c1,U,J,O,B⟩
noncomputable def more (sz pw:Nat):SM (Option Unit×Unit):=forIn [0:sz] ((none,()):Option Unit×Unit) fun _ _=>do
 let z <- get
 match if (pendingOf z).size > 1 then (pendingOf z)[(pendingOf z).size-2]? else none with
 | some (_,_,old)=>
  if old <= pw then pure (ForInStep.done (none,()))
  else do
   let b <- mergeAt' ((pendingOf z).size-2)
   if (!b)=true then pure (ForInStep.done (some (),())) else pure (ForInStep.yield (none,()))
 | _=>pure (ForInStep.done (none,()))
noncomputable def pile (sz lo n:Nat):SM (ForInStep (Option Unit×Nat)):=do
 let z <- get
 match (pendingOf z).back? with
 | some (s1,n1,_)=>do
  let c <- more sz (power' sz (2 * s1+n1) (2 * s1+n1+n1+n) sz)
  match c.fst with
  | some r=>pure (ForInStep.done (some r,lo))
  | none=>do
   modify fun z=>setPending z ((pendingOf z).modify ((pendingOf z).size-1) fun x=>(x.fst,x.2.fst,power' sz (2 * s1+n1) (2 * s1+n1+n1+n) sz))
   modify fun z=>setPending z ((pendingOf z).push (lo,n,0))
   pure (ForInStep.yield (none,lo+n))
 | _=>do
  modify fun z=>setPending z ((pendingOf z).push (lo,n,0))
  pure (ForInStep.yield (none,lo+n))
noncomputable abbrev PQ (κ:SortKind) (a₀:Array Keyed) (f:Keyed->Int) (lo n:Nat) (st:SortSt):Prop:=SB κ a₀ st /\ Chn f (arrOf st) 0 (pendingOf st).toList lo /\ Up f (arrOf st) lo n
theorem more_ok {sz pw lo n:Nat} {st:SortSt} {Q:Option Unit×Unit->SortSt->Prop} (L:Asks M A E s κ a₀ f) (a0:lo <= a₀.size) (U:PQ κ a₀ f lo n st) (h:∀ st',PQ κ a₀ f lo n st'->Q (none,()) st'):wpS M A E s (more sz pw) Q st:=by
 unfold more
 refine wpS_forRange (I:=fun x c st'=>c=(none,()) /\ PQ κ a₀ f lo n st') ?_ ?_ ⟨rfl,U⟩
 .rintro x c B _ _ ⟨rfl,O,hc,hu⟩
  refine wpS_bind (wpS_get ?_)
  by_cases h1:(pendingOf B).size > 1
  .rw [if_pos h1,getElem?_pos (pendingOf B) ((pendingOf B).size-2) (by omega)]
   dsimp only
   split
   .exact wpS_pure (h _ ⟨O,hc,hu⟩)
   .refine wpS_bind (join_at L O hc a0 (by omega) fun st2 a1 Z _ J=>?_)
    exact wpS_pure ⟨rfl,a1,Z,fun i j z1 z2 z3=>by rw [ZA4 (J i z1),ZA4 (J j (by omega))];exact hu i j z1 z2 z3⟩
  .rw [if_neg h1]
   exact wpS_pure (h _ ⟨O,hc,hu⟩)
 .rintro c B ⟨rfl,U⟩
  exact h _ U
theorem modify_last {p:Array PT} {w:Nat} {l:List PT} {b n v:Nat} (h:p.toList=l++[(b,n,v)]):(p.modify (p.size-1) fun x=>(x.fst,x.2.fst,w)).toList=l++[(b,n,w)]:=by
 have hs:p.size=l.length+1:=by rw [<- yAN,h,yAB];rfl
 refine yCL fun i=>?_
 rw [yAV,Array.getElem?_modify]
 rw [<- yAV,h]
 by_cases c:p.size-1=i
 .rw [if_pos c,yBE (by omega),yBE (by omega),show i-l.length=0 by omega]
  rfl
 .rw [if_neg c]
  by_cases c2:i < l.length
  .rw [yAY c2,yAY c2]
  .rw [yBM (by rw [yAB,yAS];omega),yBM (by rw [yAB,yAS];omega)]
theorem pile_ok {lo n:Nat} {st:SortSt} {Q:ForInStep (Option Unit×Nat)->SortSt->Prop} (L:Asks M A E s κ a₀ f) (hn:1 <= n) (a2:lo+n <= a₀.size) (hq:PQ κ a₀ f lo n st)
  (h:∀ st',SB κ a₀ st'->Chn f (arrOf st') 0 (pendingOf st').toList (lo+n)->Q (.yield (none,lo+n)) st'):wpS M A E s (pile a₀.size lo n) Q st:=by
 have fin:∀ st3:SortSt,PQ κ a₀ f lo n st3->wpS M A E s (modify (fun z=>setPending z ((pendingOf z).push (lo,n,0))) >>= fun _=>pure (ForInStep.yield ((none,lo+n):Option Unit×Nat))) Q st3:=by
  rintro st3 ⟨J,U,Z⟩
  refine wpS_bind (wpS_modify (wpS_pure (h _ ⟨J.perm,J.kind,J.fail⟩ ?_)))
  show Chn f (arrOf st3) 0 ((pendingOf st3).push (lo,n,0)).toList (lo+n)
  rw [Array.toList_push]
  exact Chn.app.mpr ⟨lo,U,rfl,hn,Z,rfl⟩
 unfold pile
 refine wpS_bind (wpS_get ?_)
 cases hb:(pendingOf st).back? with
 | none=>exact fin st hq
 | some t=>
  obtain ⟨s1,n1,w1⟩:=t
  dsimp only
  refine wpS_bind (more_ok L (by omega) hq fun st2 a0=>?_)
  dsimp only
  refine wpS_bind (wpS_modify (fin _ ?_))
  obtain ⟨O,B,a1⟩:=a0
  refine ⟨⟨O.perm,O.kind,O.fail⟩,?_,a1⟩
  show Chn f (arrOf st2) 0 ((pendingOf st2).modify _ _).toList lo
  rcases List.eq_nil_or_concat (pendingOf st2).toList with e | ⟨l,⟨b,k,v⟩,e⟩
  .have:pendingOf st2=#[]:=by rw [<- Array.toList_inj,e]
   rw [this] at B ⊢
   exact B
  .rw [List.concat_eq_append] at e
   rw [modify_last e]
   rw [e] at B
   exact B.pow
theorem ite_less (c:Prop) [Decidable c] (n:Nat):(if c then n-1 else n) <= n:=by split <;> omega
theorem wpS_cast {α:Type} {m B:SM α} {Q Q':α->SortSt->Prop} {st:SortSt} (e:m=B) (h:wpS M A E s B Q' st) (q:∀ a st',Q' a st'->Q a st'):wpS M A E s m Q st:=by rw [e];exact wpS_mono h q
theorem sort_runs {st:SortSt} {Q:Unit->SortSt->Prop} (L:Asks M A E s κ a₀ f) (hB:SB κ a₀ st) (hp:pendingOf st=#[]) (h2:2 <= a₀.size)
  (h:∀ st',SB κ a₀ st'->Up f (arrOf st') 0 a₀.size->Q () st'):wpS M A E s sortRuns' Q st:=by
 rw [sortRuns'_eq]
 refine wpS_bind (wpS_get ?_)
 dsimp only
 rw [hB.size]
 generalize minRun' a₀.size a₀.size 0=mr
 refine wpS_bind (wpS_mono (wpS_forRange (I:=fun x c st'=>∃ lo,c=(none,lo) /\ SB κ a₀ st' /\ Chn f (arrOf st') 0 (pendingOf st').toList lo /\ lo <= a₀.size /\ min x a₀.size <= lo)
  (Q:=fun c st'=>c=(none,a₀.size) /\ SB κ a₀ st' /\ Chn f (arrOf st') 0 (pendingOf st').toList a₀.size) ?_ ?_ ⟨0,rfl,hB,by rw [hp];rfl,by omega,by omega⟩) ?_)
 .rintro x c a2 _ hx ⟨lo,rfl,U,O,ab,ad⟩
  dsimp only
  by_cases hge:lo≥a₀.size
  .rw [if_pos hge]
   have:lo=a₀.size:=by omega
   subst this
   exact wpS_pure ⟨rfl,U,O⟩
  rw [if_neg hge]
  refine wpS_bind (count_run L (by omega) (by omega) U fun m st2 J af ah a4 ae a6=>?_)
  dsimp only
  have B:Chn f (arrOf st2) 0 (pendingOf st2).toList lo:=by
   rw [a6]
   exact O.keep fun k _ k2=>ae k k2
  have done:∀ (n:Nat) (st3:SortSt),1 <= n->lo+n <= a₀.size->PQ κ a₀ f lo n st3->wpS M A E s (pile a₀.size lo n)
    (fun r st'=>match r with | .done c'=>c'=(none,a₀.size) /\ SB κ a₀ st' /\ Chn f (arrOf st') 0 (pendingOf st').toList a₀.size | .yield c'=>∃ lo,c'=(none,lo) /\ SB κ a₀ st' /\ Chn f (arrOf st') 0 (pendingOf st').toList lo /\ lo <= a₀.size /\ min (x+1) a₀.size <= lo) st3 :=
   fun n st3 hn a1 hq=>pile_ok L hn a1 hq fun st' ac a8=>⟨lo+n,rfl,ac,a8,a1,by omega⟩
  by_cases hlt:m < mr
  .rw [if_pos hlt]
   refine wpS_bind (wpS_lift (wpAny_rule ⟨rfl,?_⟩))
   refine wpS_bind (bin_sort L (by omega) (by omega) J a4 fun st3 a0 a9 a7 aa=>?_)
   rw [if_neg (by decide)]
   refine wpS_cast (by
    refine bnd _ fun z=>?_
    cases (pendingOf z).back? with
    | none=>rfl
    | some t=>
     obtain ⟨s1,n1,w1⟩:=t
     refine bnd2 (for2 fun _ c=>bnd _ fun Z=>?_) fun c=>?_
     .generalize (if (pendingOf Z).size > 1 then (pendingOf Z)[(pendingOf Z).size-2]? else none)=t2
      cases t2 with
      | none=>rfl
      | some t2=>rfl
     .obtain ⟨r,u⟩:=c
      cases r with
      | none=>rfl
      | some r=>rfl) (done _ st3 (by omega) (by omega) ⟨a0,by rw [aa];exact B.keep fun k _ k2=>a7 k k2,a9⟩) fun r st' z=>by cases r <;> exact z
  .rw [if_neg hlt]
   refine wpS_cast (by
    refine bnd _ fun z=>?_
    cases (pendingOf z).back? with
    | none=>rfl
    | some t=>
     obtain ⟨s1,n1,w1⟩:=t
     refine bnd2 (for2 fun _ c=>bnd _ fun Z=>?_) fun c=>?_
     .generalize (if (pendingOf Z).size > 1 then (pendingOf Z)[(pendingOf Z).size-2]? else none)=t2
      cases t2 with
      | none=>rfl
      | some t2=>rfl
     .obtain ⟨r,u⟩:=c
      cases r with
      | none=>rfl
      | some r=>rfl) (done m st2 af (by omega) ⟨J,B,a4⟩) fun r st' z=>by cases r <;> exact z
 .rintro c a2 ⟨lo,rfl,U,O,ab,ad⟩
  have:lo=a₀.size:=by omega
  subst this
  exact ⟨rfl,U,O⟩
 .rintro c a2 ⟨rfl,U,O⟩
  dsimp only
  refine wpS_bind (wpS_mono (wpS_forRange (I:=fun x c st'=>c=(none,()) /\ SB κ a₀ st' /\ Chn f (arrOf st') 0 (pendingOf st').toList a₀.size /\ ((pendingOf st').size+x <= a₀.size∨(pendingOf st').size <= 1))
   (Q:=fun c st'=>c=(none,()) /\ SB κ a₀ st' /\ Chn f (arrOf st') 0 (pendingOf st').toList a₀.size /\ (pendingOf st').size <= 1) ?_ ?_ ?_) ?_)
  .rintro x c st2 _ hx ⟨rfl,J,B,a3⟩
   refine wpS_bind (wpS_get ?_)
   by_cases h1:(pendingOf st2).size <= 1
   .rw [if_pos h1]
    exact wpS_pure ⟨rfl,J,B,h1⟩
   rw [if_neg h1]
   have go:∀ i,i+1 < (pendingOf st2).size->wpS M A E s (mergeAt' i >>= fun b=>if (!b)=true then pure (ForInStep.done (some (),())) else pure (ForInStep.yield ((none,()):Option Unit×Unit)))
     (fun r st'=>match r with | .done c'=>c'=(none,()) /\ SB κ a₀ st' /\ Chn f (arrOf st') 0 (pendingOf st').toList a₀.size /\ (pendingOf st').size <= 1 | .yield c'=>c'=(none,()) /\ SB κ a₀ st' /\ Chn f (arrOf st') 0 (pendingOf st').toList a₀.size /\ ((pendingOf st').size+(x+1) <= a₀.size∨(pendingOf st').size <= 1)) st2:=fun i hi=>by
    refine wpS_bind (join_at L J B (yAA _) hi fun st3 a0 a5 ag _=>?_)
    exact wpS_pure ⟨rfl,a0,a5,by omega⟩
   refine wpS_mono (go _ ?_) fun r st' z=>by cases r <;> exact z
   exact Nat.lt_of_le_of_lt (Nat.add_le_add_right (ite_less _ _) 1) (by omega)
  .rintro c st2 ⟨rfl,J,B,a3⟩
   exact ⟨rfl,J,B,by omega⟩
  .refine ⟨rfl,U,O,.inl ?_⟩
   have:=O.le
   rw [yAN] at this
   omega
  .rintro c st2 ⟨rfl,J,B,a3⟩
   refine wpS_pure (h st2 J ?_)
   cases e:(pendingOf st2).toList with
   | nil=>
    rw [e] at B
    have:0=a₀.size:=B
    omega
   | cons t r=>
    have hl:=congrArg List.length e
    rw [yAN,yAH] at hl
    have hr:r=[]:=yCA.mp (by omega)
    subst hr
    obtain ⟨b,n,w⟩:=t
    rw [e] at B
    obtain ⟨_,_,hu,hn⟩:=B
    have:0+n=a₀.size:=hn
    rw [yCI] at this
    rw [<- this]
    exact hu
end
end L2S
namespace L2S
open PySem PyProof.Rows
noncomputable abbrev ZCR (h:Heap) (a:Addr) (vs:List Value):Heap:=((h.update a (Obj.mapSeq fun _=>#[])).push (seqObj "tuple" vs.toArray 0)).push (seqObj "list" #[] 0)
section
variable {prog:Program} {w:World} {A:Around} {E:Value->Shared->Prop} {s:Shared}
theorem mid_old {h:Heap} {a b:Addr} {vs:List Value} {o:Obj} (B:b≠a) (e:h.get? b=some o):(ZCR h a vs).get? b=some o:=by
 refine Heap.get?_push_of_some _ (Heap.get?_push_of_some _ ?_)
 exact (Heap.get?_update_other _ _ (Ne.symm B)).trans e
theorem sort_any {a:Addr} {vs:List Value} {n:Nat} {κ:SortKind} {f:Keyed->Int} {P:PySem.Fin->Shared->Prop} (Z:s.heap.get? a=some (seqObj "list" vs.toArray n)) (hz:vs.length <= 1000)
  (J:2 <= vs.length->∀ Q':SortKind->Shared->Prop,Q' κ { s with heap:=ZCR s.heap a vs }->wpAny (model prog w) A (keyKind' vs.toArray) Q' E { s with heap:=ZCR s.heap a vs })
  (U:2 <= vs.length->Asks (model prog w) A E { s with heap:=ZCR s.heap a vs } κ (pairsOf vs) f)
  (h:∀ out:Array Keyed,out.Perm (pairsOf vs)->Up f out 0 vs.length->P (.done (.ret .none)) { s with heap:=sortedHeap s.heap a vs (out.map (·.2)) }):wpAny (model prog w) A (Builtin.«list.sort» ⟨[.ref a],[]⟩) P E s:=by
 rw [list_sort_plain]
 have ha:a < s.heap.objs.size:=Heap.lt_size Z
 refine wpAny_bind (listItems_at Z rfl ?_)
 refine wpAny_bind (listUpdate_at Z rfl ?_)
 obtain ⟨e1,O⟩:∃ e1,(s.heap.update a (Obj.mapSeq fun _=>#[])).get? a=some (seqObj "list" #[] e1):=⟨_,get?_update_seq Z (fun _=>#[])⟩
 refine wpAny_bind (seqEpoch_at O rfl ?_)
 refine wpAny_bind (wpAny_newTuple (wpAny_bind (wpAny_newList (wpAny_holding ?_))))
 have B:(ZCR s.heap a vs).get? a=some (seqObj "list" #[] e1):=Heap.get?_push_of_some _ (Heap.get?_push_of_some _ O)
 show wpAny (model prog w) A _ P E { s with heap:=ZCR s.heap a vs }
 dsimp only
 have a0:vs.toArray.size=vs.length:=yAR ..
 have hl:vs.length <= sizeLine:=yAL hz (by decide)
 rw [a0]
 by_cases h2:vs.length < 2
 .rw [if_pos h2,if_pos h2]
  refine wpAny_bind (wpAny_pure ?_)
  rw [StateT.run_pure]
  refine wpAny_bind (wpAny_pure ?_)
  dsimp only
  refine wpAny_bind (seqEpoch_at B rfl ?_)
  refine wpAny_bind (listUpdate_at B rfl ?_ (hsz2:=by rw [Array.size_map];show (pairsOf vs).size <= _;rw [pairsOf_size];omega))
  rw [if_neg (by simp)]
  exact wpAny_pure (h (pairsOf vs) (Array.Perm.refl _) fun i j _ z2 z3=>by rw [show i=j by omega];exact Int.le_refl _)
 .rw [if_neg h2,if_neg h2]
  refine wpAny_bind (J (by omega) _ ?_)
  refine wpAny_bind (wpAny_mono (sort_runs (st:=SortSt.mk' κ (vs.toArray.zip vs.toArray) #[] 7 none) (Q:=fun _ st'=>SB κ (pairsOf vs) st' /\ Up f (arrOf st') 0 (pairsOf vs).size) (U (by omega)) ⟨Array.Perm.refl _,rfl,rfl⟩ rfl (by rw [pairsOf_size];omega) fun st' a1 a2=>⟨a1,a2⟩) ?_ fun _ _ e=>e)
  rintro ⟨⟨⟩,st'⟩ s' ⟨rfl,hB,hu⟩
  dsimp only
  refine wpAny_bind (seqEpoch_at B rfl ?_)
  have hs:(arrOf st').size=(pairsOf vs).size:=hB.size
  rw [pairsOf_size] at hs hu
  refine wpAny_bind (listUpdate_at B rfl ?_ (hsz2:=by rw [Array.size_map];omega))
  rw [hB.fail,if_neg (by simp)]
  exact wpAny_pure (h _ hB.perm hu)
theorem sorted_any {l:Addr} {vs:List Value} {κ:SortKind} {f:Keyed->Int} {Q:Value->Shared->Prop} (hl:s.heap.IsList l vs.toArray) (hz:vs.length <= 1000)
  (B:∀ h':Heap,(∀ b o,s.heap.get? b=some o->h'.get? b=some o)->2 <= vs.length->∀ (J:Around) (Z:Value->Shared->Prop) (Q':SortKind->Shared->Prop),J.units <= A.units+8->Q' κ { s with heap:=h' }->wpAny (model prog w) J (keyKind' vs.toArray) Q' Z { s with heap:=h' })
  (O:∀ h':Heap,(∀ b o,s.heap.get? b=some o->h'.get? b=some o)->2 <= vs.length->∀ (J:Around) (Z:Value->Shared->Prop),J.units <= A.units+8->Asks (model prog w) J Z { s with heap:=h' } κ (pairsOf vs) f)
  (h:∀ out:Array Keyed,out.Perm (pairsOf vs)->Up f out 0 vs.length->Q (.ref (s.heap.objs.size+1)) { s with heap:=sortedAll s.heap vs (out.map (·.2)) }):wpAny (model prog w) A (call (.builtin "sorted") [.ref l]) Q E s:=by
 refine Calls.call_function_entry kind_sorted plain_sorted entry_sorted (args_sorted1 _) ?_
 unfold Builtin.«sorted»
 refine wpAny_bind (m:=checkCount "sorted" 1 1 _) (wpAny_pure ?_)
 refine wpAny_bind (collect_list hl ?_ (yAL hz (by decide)))
 refine wpAny_bind (wpAny_newList ?_)
 have z1:((s.heap.push (seqObj "list" #[] 0)).update s.heap.objs.size (Obj.mapSeq (·++vs.toArray))).objs.size=s.heap.objs.size+1:=(Heap.size_update ..).trans (size_push' ..)
 have g1:(((s.heap.push (seqObj "list" #[] 0)).update s.heap.objs.size (Obj.mapSeq (·++vs.toArray))).push (seqObj "list" vs.toArray 0)).get? (s.heap.objs.size+1)=some (seqObj "list" vs.toArray 0):=by
  rw [<- z1];exact Heap.get?_push_size _ rfl
 have U:∀ b o,s.heap.get? b=some o->(ZCR (((s.heap.push (seqObj "list" #[] 0)).update s.heap.objs.size (Obj.mapSeq (·++vs.toArray))).push (seqObj "list" vs.toArray 0)) (s.heap.objs.size+1) vs).get? b=some o:=fun b o e=>by
  have lt:=Heap.lt_size e
  refine mid_old (yAM (Nat.lt_succ_of_lt lt)) (Heap.get?_push_of_some _ ?_)
  exact (Heap.get?_update_other _ _ (Nat.ne_of_gt lt)).trans (Heap.get?_push_of_some _ e)
 show wpAny _ _ _ _ _ { s with heap:=((s.heap.push (seqObj "list" #[] 0)).update s.heap.objs.size (Obj.mapSeq (·++vs.toArray))).push (seqObj "list" vs.toArray 0) }
 rw [z1]
 refine wpAny_bind (wpAny_holding (wpAny_call_entry slot_list_sort ⟨_,g1,rfl⟩ entry_list_sort (sort_any g1 hz (fun h2 Q' q=>B _ U h2 _ _ Q' ?_ q) (fun h2=>O _ U h2 _ _ ?_) fun out a1 a2=>⟨_,rfl,?_⟩) (args_list_sort _)))
 .show A.units+1+1 <= A.units+8;omega
 .show A.units+1+1 <= A.units+8;omega
 .exact wpAny_pure ⟨_,rfl,h out a1 a2⟩
end
end L2S
namespace L2
open PySem PySem.Spec PyProof.Rows L2S
theorem kn_K {xs:Array Keyed} {i:Nat}:kn (fun p=>numOf p.1) xs i=PyProof.Rows.K xs i:=by
 unfold kn PyProof.Rows.K
 cases xs[i]? <;> rfl
section
variable {prog:Program} {w:World} {A:Around} {E:Value->Shared->Prop} {s:Shared}
theorem asks_ints {a₀:Array Keyed} (B:IntKeys a₀):Asks (model prog w) A E s oneType' a₀ fun p=>numOf p.1 where
 lt:=fun x y O Z st Q U q=>by
  obtain ⟨n,t,J⟩:=B x O
  obtain ⟨m,u,e2⟩:=B y Z
  rw [lt'_eq]
  refine wpS_bind (wpS_get ?_)
  rw [U,keyLt'_oneType]
  rw [J,e2] at q ⊢
  exact wpS_bind (wpS_lift (wpAny_attempt (oneLt_int ⟨rfl,wpS_pure q⟩)))
theorem kind_of_ints {vs:List Value} {ns:List Int} (B:IntsAre vs ns) (h2:2 <= vs.length):keyKind' vs.toArray=pure oneType':=by
 cases vs with
 | nil=>exact absurd h2 (by simp)
 | cons v₁ r=>
  cases r with
  | nil=>exact absurd h2 (by simp)
  | cons v₂ r=>exact keyKind_ints B
theorem sorted_intsB {l:Addr} {vs:List Value} {ns:List Int} {Q:Value->Shared->Prop} (hl:s.heap.IsList l vs.toArray) (B:IntsAre vs ns) (hz:vs.length <= 1000)
  (h:∀ (out:Array Value) (ns':List Int),IntsAre out.toList ns'->ns'.Perm ns->ns'.Pairwise (· <= ·)->Q (.ref (s.heap.objs.size+1)) { s with heap:=sortedAll s.heap vs out }):wpAny (model prog w) A (call (.builtin "sorted") [.ref l]) Q E s:=by
 refine sorted_any (κ:=oneType') (f:=fun p=>numOf p.1) hl hz (fun h' _ h2 Z E' Q' _ q=>?_) (fun h' _ h2 Z E' _=>asks_ints B.intKeys) fun out U hu=>?_
 .rw [kind_of_ints B h2]
  exact wpAny_pure q
 .obtain ⟨ns',O,a2,a3⟩:=sorted_out B U (fun i j z1 J=>by
   rw [pairsOf_size] at J
   have:=hu i j (yAG _) z1 (by omega)
   rw [kn_K,kn_K] at this
   exact this)
  exact h _ ns' O a2 a3
end
section
variable {X:Cx}
theorem ZB8:ZCt X (.builtin "sorted") (fun xs H Q=>∃ (p:Addr) (ns:List Int),xs=[.ref p] /\ SqL X.K H p (ns.map V.int) /\ ns.length <= 1000 /\ ∀ (l:Addr) (ms:List Int),H l=none->ms.Perm ns->ms.Pairwise (· <= ·)->Q (.ref l) (upd H l (.lst (ms.map V.int)))):=by
 intro pins s σ H xs us Q I r h
 obtain ⟨p,ns,rfl,hq,hn,q⟩:=h
 obtain ⟨u,rfl,rx⟩:=ZDE r
 cases rx
 obtain ⟨its,r',pl,hz⟩:=I.list hq
 have J:=r'.length
 rw [yAD] at J
 refine sorted_intsB pl.isList (ZCn r') (by omega) fun out B U O a3=>?_
 obtain ⟨e,Z⟩:=sortedAll_at s.heap its out
 have a0:B.length=ns.length:=O.length_eq
 refine ⟨.ref (s.heap.objs.size+1),_,I.laid (t':=s.toks) (fun b o e=>sortedAll_old e) (yBB _) (o:=.lst (B.map V.int)) ⟨?_,out.toList,e,ZBy U,by simpa using Z⟩,rfl,q _ B (I.hok.fresh (yBB _)) O a3⟩
 rw [yAD]
 exact ZAe (by omega)
end
open PySem PySem.Spec PyProof.Rows L2S
theorem perm_of_sub {l:List Int}:∀ {m:List Int},l.Nodup->(∀ x∈l,x∈m)->m.length=l.length->l.Perm m:=by
 induction l with
 | nil=>
  intro m _ _ h
  rw [yCA.mp h]
 | cons a l ih=>
  intro m hn hs h
  have ha:a∈m:=hs a yAF
  have B:=yCG.mp hn
  refine List.Perm.trans (List.Perm.cons a (ih (m:=m.erase a) B.2 (fun x J=>?_) ?_)) (List.perm_cons_erase ha).symm
  .exact (List.mem_erase_of_ne (fun z:x=a=>B.1 (z ▸ J))).mpr (hs x (yAC _ J))
  .rw [List.length_erase_of_mem ha,h]
   simp
theorem ZBO (val:Nat->Int):∀ i,(firstMet val i).Nodup
 | 0=>List.nodup_nil
 | i+1=>by
  rw [firstMet_succ]
  unfold step_dedup
  by_cases h:(firstMet val i).any (· == val i)=true
  .rw [if_pos h];exact ZBO val i
  .rw [if_neg h]
   refine List.nodup_append.mpr ⟨ZBO val i,by simp,fun x J y B=>?_⟩
   rw [yAO.mp B]
   intro z
   refine h (List.any_eq_true.mpr ⟨x,J,?_⟩)
   rw [z]
   exact beq_self_eq_true _
theorem firstMet_mem {ns:List Int} {n:Nat} (hn:n=ns.length) (x:Int):x∈firstMet (fun i=>ns.getD i 0) n↔x∈ns:=by
 have h1:=firstMet_any (fun i=>ns.getD i 0) n x
 have e:(List.range n).map (fun i=>ns.getD i 0)=ns:=by
  refine List.ext_getElem (by simp [hn]) fun i Z J=>?_
  simp [List.getD,J]
 rw [e] at h1
 have O:(firstMet (fun i=>ns.getD i 0) n).any (· == x)=true↔x∈firstMet (fun i=>ns.getD i 0) n:=by
  rw [List.any_eq_true]
  exact ⟨fun ⟨y,B,z⟩=>eq_of_beq z ▸ B,fun h=>⟨x,h,beq_self_eq_true _⟩⟩
 have U:ns.any (· == x)=true↔x∈ns:=by
  rw [List.any_eq_true]
  exact ⟨fun ⟨y,B,z⟩=>eq_of_beq z ▸ B,fun h=>⟨x,h,beq_self_eq_true _⟩⟩
 rw [<- O,<- U,h1]
section
variable {prog:Program} {w:World} {A:Around} {E:Value->Shared->Prop} {s:Shared}
theorem ints_elems {es:List (Int×Value)} (h:ElemsOf (intKind prog w) es):∃ ks:List Int,IntsAre (es.map (·.2)) ks:=by
 induction es with
 | nil=>exact ⟨[],.nil⟩
 | cons e es ih=>
  obtain ⟨ks,J⟩:=ih h.tail
  obtain ⟨⟨k,B,_⟩,_⟩:=h.head
  obtain ⟨t,O⟩:=Value.isInt_shape B
  refine ⟨k::ks,?_⟩
  rw [yBD,O]
  exact .cons k t J
theorem intsAre_mem {vs:List Value} {ks:List Int} (h:IntsAre vs ks) (x:Int):x∈ks↔∃ t,Value.int x t∈vs:=by
 induction h with
 | nil=>simp
 | cons n t h ih=>
  rw [yAE,ih]
  constructor
  .rintro (z | ⟨u,z⟩)
   .exact ⟨t,by rw [z];exact yAF⟩
   .exact ⟨u,yAC _ z⟩
  .rintro ⟨u,z⟩
   rcases yAE.mp z with y | y
   .cases y;exact .inl rfl
   .exact .inr ⟨u,y⟩
theorem intsAre_perm {vs us:List Value} (J:us.Perm vs):∀ {ks:List Int},IntsAre vs ks->∃ js:List Int,js.Perm ks /\ IntsAre us js:=by
 intro ks h
 induction J generalizing ks with
 | nil=>exact ⟨ks,List.Perm.refl _,h⟩
 | cons x _ ih=>
  cases h with
  | cons n t h=>
   obtain ⟨js,h1,h2⟩:=ih h
   exact ⟨n::js,h1.cons n,.cons n t h2⟩
 | swap x y l=>
  cases h with
  | cons n t h=>
   cases h with
   | cons m u h=>exact ⟨m::n::_,List.Perm.swap _ _ _,.cons m u (.cons n t h)⟩
 | trans _ _ ih1 ih2=>
  obtain ⟨js,h1,h2⟩:=ih2 h
  obtain ⟨is,h3,B⟩:=ih1 h2
  exact ⟨is,h3.trans h1,B⟩
theorem sorted_set {S:Addr} {ns:List Int} {m:Nat} {Q:Value->Shared->Prop} (hh:A.handled=none) (hm:m=ns.length) (hz:ns.length <= 1000)
  (hS:s.heap.SetOfL (intKind prog w) (ledW w) S (fun k'=>(firstMet (fun i=>ns.getD i 0) m).any (· == k')) (firstMet (fun i=>ns.getD i 0) m).length)
  (h:∀ (r:Addr) (out:Array Value) (ms:List Int) (h':Heap) (d:Drawn) (tk e:Nat),IntsAre out.toList ms->ms.Pairwise (· < ·)->(∀ x,x∈ms↔x∈ns)->ms.length <= ns.length->(∀ b o,s.heap.get? b=some o->h'.get? b=some o)->s.heap.objs.size <= r->h'.get? r=some (seqObj "list" out e) ->
   Q (.ref r) { s with heap:=h',drawn:=d,toks:=tk }):wpAny (model prog w) A (call (.builtin "sorted") [.ref S]) Q E s:=by
 obtain ⟨o,es,ep,t,ho,a4,hd,a3,U,hb,hf,hn,hT⟩:=hS
 have ab:=firstMet_length_le (fun i=>ns.getD i 0) m
 refine Calls.call_function_entry kind_sorted plain_sorted entry_sorted (args_sorted1 _) ?_
 unfold Builtin.«sorted»
 refine wpAny_bind (m:=checkCount "sorted" 1 1 _) (wpAny_pure ?_)
 refine wpAny_bind (collect_set hh ho a4 hd hf (yAL (by omega:es.size <= 1000) (by decide)) hT fun vs h1 d tk hp hk a5=>?_)
 obtain ⟨ks,B⟩:=ints_elems a3
 obtain ⟨js,a9,O⟩:=intsAre_perm hp B
 have a8:ks.length=es.size:=by
  have:=B.length
  simpa using this.symm
 have a6:(firstMet (fun i=>ns.getD i 0) m).Perm ks:=by
  refine perm_of_sub (ZBO _ _) (fun x hx=>?_) (by rw [a8,hn])
  obtain ⟨e,a7,Z⟩:=(U x).mp (List.any_eq_true.mpr ⟨x,hx,beq_self_eq_true _⟩)
  obtain ⟨t,e3⟩:=Value.isInt_shape Z
  refine (intsAre_mem B x).mpr ⟨t,?_⟩
  rw [<- e3]
  exact yBR.mpr ⟨e,a7,rfl⟩
 have aa:vs.length <= 1000:=by
  rw [hp.length_eq]
  simp
  omega
 refine wpAny_bind (wpAny_newList ?_)
 have g1:(h1.push (seqObj "list" vs.toArray 0)).get? h1.objs.size=some (seqObj "list" vs.toArray 0):=Heap.get?_push_size _ rfl
 show wpAny _ _ _ _ _ { s with heap:=h1.push (seqObj "list" vs.toArray 0),drawn:=d,toks:=tk }
 refine wpAny_bind (wpAny_holding (wpAny_call_entry slot_list_sort ⟨_,g1,rfl⟩ entry_list_sort (sort_any (κ:=oneType') (f:=fun p=>numOf p.1) g1 aa (fun h2 Q' q=>?_) (fun h2=>asks_ints O.intKeys) fun out a1 a2=>⟨_,rfl,?_⟩) (args_list_sort _)))
 .rw [kind_of_ints O h2]
  exact wpAny_pure q
 .obtain ⟨ms,b1,b2,b3⟩:=sorted_out O a1 (fun i j z1 z2=>by
   rw [pairsOf_size] at z2
   have:=a2 i j (yAG _) z1 (by omega)
   rw [kn_K,kn_K] at this
   exact this)
  obtain ⟨e,he⟩:=sortedHeap_at (out:=out.map (·.2)) g1
  have J:ms.Perm (firstMet (fun i=>ns.getD i 0) m):=(b2.trans a9).trans a6.symm
  have a0:ms.Nodup:=J.nodup_iff.mpr (ZBO _ _)
  refine wpAny_pure ⟨_,rfl,h _ _ ms _ d tk e b1 ?_ (fun x=>?_) (by rw [J.length_eq];omega) (fun b o e=>?_) (yBJ a5) he⟩
  .exact List.Pairwise.imp₂ (fun a b h1 h2=>by omega) b3 a0
  .rw [J.mem_iff]
   exact firstMet_mem hm x
  .have e1:=hk b o e
   have l1:=Heap.lt_size e1
   rw [sortedHeap_old (yAM l1) (yAW l1 (by rw [size_push'];exact yBB _))]
   exact Heap.get?_push_of_some _ e1
end
noncomputable def ZDQ (K:W.Frag) (t:TA):TE:=fun σ H Q=>t σ H fun vs H1=>∃ (l:Addr) (ns:List Int),vs=[.ref l] /\ SqL K H1 l (ns.map V.int) /\ ns.length <= 1000 /\ ∀ (r:Addr) (ms:List Int),H1 r=none->(∀ x,x∈ms↔x∈ns)->ms.Pairwise (· < ·)->Q (.ref r) (upd H1 r (.lst (ms.map V.int)))
section
variable {X:Cx} {e:Expr} {ta:TA} {p p2 pos pos2:Pos}
theorem pe_sortset (hc:X.calm=true) (hg:Gl X "sorted") (hm:X.mg "sorted"=none) (a1:Gl X "set") (a3:X.mg "set"=none) (ha:PA X [e] ta)
  (he:starEach [.Call (.Name "set" p2) [e] [] pos2] X.env=(false,eval (.Call (.Name "set" p2) [e] [] pos2) X.env)::starEach [] X.env:=by rfl) (a4:(backTo pos (starEach [] X.env)).any (·.1)=false:=by rfl)
  (Z:starEach [e] X.env=(false,eval e X.env)::starEach [] X.env:=by rfl) (J:(backTo pos2 (starEach [] X.env)).any (·.1)=false:=by rfl) :
  PE X (.Call (.Name "sorted" p) [.Call (.Name "set" p2) [e] [] pos2] [] pos) (ZDQ X.K ta):=by
 intro pins s σ H Q I h
 refine wpAny_Call_Name_kw (ZCs I hg hm PyProof.Rows.boot_sorted ?_ (by decide) (by decide))
 refine PyProof.Rows.callWith_builtin1 ?_ he a4
 rw [he]
 show wpAny _ _ (spliced ((false,eval (.Call (.Name "set" p2) [e] [] pos2) X.env)::backTo pos (starEach [] X.env))) _ _ s
 refine Calls.spliced_cons ?_
 refine wpAny_Call_Name_kw (ZCs I a1 a3 PyProof.Rows.boot_set ?_ (by decide) (by decide))
 refine PyProof.Rows.callWith_type1 (thn (ha pos2 pins s σ H _ I h) fun us s1 zz=>?_) Z J
 obtain ⟨vs,H1,B,r1,q1⟩:=zz
 obtain ⟨l,ns,rfl,hl,hn,q⟩:=q1
 obtain ⟨u,rfl,rx⟩:=ZDE r1
 cases rx
 obtain ⟨its,r',pl,hz⟩:=B.list hl
 have O:=r'.length
 rw [yAD] at O
 have hh:X.A.handled=none:=B.ok.hd hc
 have a2:its.toArray.size=ns.length:=by rw [yAR];omega
 refine call_set_listL hh pl.isList (ZCn r') (Nat.lt_of_le_of_lt (by omega:its.toArray.size+1 <= 1001) (by decide)) fun h' tk hS hk=>?_
 refine Calls.spliced_nil ?_
 refine sorted_set hh a2 hn hS fun r out ms h2 d a0 e2 c1 c2 c3 c7 c4 c5 c6=>?_
 have k2:∀ b o,s1.heap.get? b=some o->h2.get? b=some o:=fun b o e=>c4 b o (hk b o (Heap.lt_size e) e)
 have U:s1.heap.objs.size <= r:=by
  obtain ⟨o,_,_,_,ho,_⟩:=hS
  exact yAL (yBJ (Heap.lt_size ho)) c5
 have I2:Inv X pins σ (upd H1 r (.lst (ms.map V.int))) { s1 with heap:=h2,gens:=s1.gens,drawn:=d,toks:=a0 } :=
  B.call (ch:=[]) (Un.laid k2 U (B.hok.fresh U)) (B.hok.laid k2 U (o:=.lst (ms.map V.int)) ⟨by rw [yAD];exact ZAe (by omega),out.toList,e2,ZBy c1,by simpa using c6⟩) B.bare (fun _ z=>nomatch z)
 exact ⟨.ref r,_,I2,rfl,q _ ms (B.hok.fresh U) c3 c2⟩
end
open PySem PySem.Spec PyProof.Rows
section
variable {κ:Type} [DecidableEq κ]
noncomputable def valV (kvs:List (κ×V)) (k:κ):Option V:=(kvs.find? fun kv=>decide (kv.1=k)).map (·.2)
noncomputable def putK (kvs:List (κ×V)) (k:κ) (v:V):List (κ×V) :=
 if (kvs.any fun kv=>decide (kv.1=k))=true then kvs.map (fun kv=>if kv.1=k then (kv.1,v) else kv) else kvs++[(k,v)]
end
section
variable {P:Program} {w:World} {H:Hp} {h:Heap} {a:Addr}
end
noncomputable def DGet (H:Hp) (a:Addr) (y:V) (r:Option V):Prop :=
 (∃ kvs k,Rd H a (.dK kvs) /\ y=kV k /\ r=valV kvs k)∨∃ kvs k b,Rd H a (.dT kvs) /\ y=.ref b /\ H b=some (.tup (k.map kV)) /\ r=valV kvs k
noncomputable def DPut (H:Hp) (a:Addr) (y v:V) (H':Hp):Prop :=
 (∃ kvs k,H a=some (.dK kvs) /\ y=kV k /\ kvs.length < sizeLine /\ H'=upd H a (.dK (putK kvs k v))) ∨
 ∃ kvs k b,H a=some (.dT kvs) /\ y=.ref b /\ H b=some (.tup (k.map kV)) /\ kvs.length < sizeLine /\ H'=upd H a (.dT (putK kvs k v))
section
variable {X:Cx} {pins:List (Addr×Obj)} {σ:St} {H:Hp} {s:Shared} {a:Addr} {y v:V} {u r:Value} {o:Option V} {A:Around} {E:Value->Shared->Prop}
end
section
variable {X:Cx} {pins:List (Addr×Obj)} {σ:St} {H:Hp} {s:Shared} {a:Addr} {kvs:List (Key×V)} {k:Key} {u:Value} {A:Around} {E:Value->Shared->Prop}
end
noncomputable def tDGet (td ty:TE):TE:=fun σ H Q=>td σ H fun x H1=>ty σ H1 fun y H2=>∃ a v,x=.ref a /\ DGet H2 a y (some v) /\ Q v H2
noncomputable def tDIn (ty td:TE):TE:=fun σ H Q=>ty σ H fun y H1=>td σ H1 fun x H2=>∃ a o,x=.ref a /\ DGet H2 a y o /\ Q (.bl o.isSome) H2
noncomputable def tDNotIn (ty td:TE):TE:=fun σ H Q=>ty σ H fun y H1=>td σ H1 fun x H2=>∃ a o,x=.ref a /\ DGet H2 a y o /\ Q (.bl (!o.isSome)) H2
noncomputable def sDPut (td ty tv:TE):TS:=fun D σ H=>tv σ H fun v H1=>td σ H1 fun x H2=>ty σ H2 fun y H3=>∃ a H4,x=.ref a /\ DPut H3 a y v H4 /\ D.nx σ H4
section
variable {X:Cx} {o i e value:Expr} {pos pos' tpos:Pos} {td ty tv:TE}
end
noncomputable def tDNewK:TE:=fun _ H Q=>∀ p,H p=none->Q (.ref p) (upd H p (.dK []))
noncomputable def tDNewT:TE:=fun _ H Q=>∀ p,H p=none->Q (.ref p) (upd H p (.dT []))
section
variable {X:Cx} {pos:Pos}
end
theorem call_absI {X:Cx}:ZCt X (.builtin "abs") (fun xs H Q=>∃ i,xs=[.int i] /\ Q (.int (if i < 0 then -i else i)) H):=by
 intro pins s σ H xs us Q I r h
 obtain ⟨i,rfl,q⟩:=h
 obtain ⟨u,rfl,⟨t,rfl⟩⟩:=ZDE r
 exact PyProof.Rows.call_abs_int fun u tk=>⟨.int (if i < 0 then -i else i),H,I.tok _,⟨_,rfl⟩,q⟩
end L2
namespace PySem
open Sem (wp)
namespace F
end F
section
variable {α:Type} {prog:Program} {w:World} {A:Around} {E:Value->Shared->Prop} {s:Shared}
end
section
variable {prog:Program} {w:World} {A:Around} {E:Value->Shared->Prop} {h:Heap} {g:Array GenState} {d:Drawn} {t:Nat} {os:OsState} {a:Addr} {its:Array Value} {n:Nat}
end
end PySem
namespace PySem
namespace F
end F
end PySem
namespace L2
open PySem PySem.Spec PyProof.Rows
section
variable {X:Cx} {pins:List (Addr×Obj)} {σ:St} {H:Hp} {s1:Shared} {A:Around}
end
end L2
namespace PySem
section
variable {prog:Program} {w:World} {A:Around} {E:Value->Shared->Prop} {s:Shared} {zo ti to:Addr} {f0 f1:Value}
end
end PySem
namespace L2
open PySem PySem.Spec PyProof.Rows
section
variable {X:Cx}
end
section
variable {K:W.Frag} {a b:Addr} {xs ys:List V} {g:TG} {σ:St} {H:Hp} {tt:TT} {te:TE} {Q:VK} {σ0:St}
end
section
variable {X:Cx}
end
section
variable {X:Cx}
end
section
variable {X:Cx}
end
noncomputable def Itr3 (lo d:Int) (n:Nat):It:=⟨fun i _=>i < n,fun i H x H'=>H'=H /\ x=.int (lo+i * d),fun i _=>n <= i⟩
section
variable {X:Cx} {tg:Expr}
noncomputable def iRng3 (ta:TA):TI:=fun σ H R=>ta σ H fun vs H1=>∃ i j d:Int,vs=[.int i,.int j,.int d] /\ (0 <= i /\ i <= 1000 /\ 0 <= j /\ j <= 1000 /\ 0 < d /\ d <= 1000) /\ R (Itr3 i d (Builtin.Range.rangeSize i j d).toNat) H1
end
noncomputable def compR3 (g:TG) (tt:TT) (te:TE) (σ0:St) (Q:VK) (x y z:V) (H1:Hp):Prop:=∃ i j d:Int,[x,y,z]=[.int i,.int j,.int d] /\ (0 <= i /\ i <= 1000 /\ 0 <= j /\ j <= 1000 /\ 0 < d /\ d <= 1000) /\
 ∃ W:Nat->Nat->List V->St->Hp->Prop,(∃ m,W 0 m [] σ0 H1) /\ ∀ k m ys σ H,W k m ys σ H ->
   ((Itr3 i d (Builtin.Range.rangeSize i j d).toNat).stop k H /\ ys.length <= sizeLine /\ ∀ p,H p=none->Q (.ref p) (upd H p (.lst ys))) ∨
   ((Itr3 i d (Builtin.Range.rangeSize i j d).toNat).go k H /\ ys.length < sizeLine /\ ∀ x H',(Itr3 i d (Builtin.Range.rangeSize i j d).toNat).yld k H x H'->g x σ H' fun σ2 H2=>tt σ2 H2 fun b H3=>if b=true then te σ2 H3 fun y H4=>∃ m',m' < m /\ W (k+1) m' (ys++[y]) σ2 H4 else ∃ m',m' < m /\ W (k+1) m' ys σ2 H3)
theorem tCompR3_eq {k:Nat} {js:List Nat} {t u v:TE} {g:TG} {tt:TT} {te:TE} {σ:St} {H:Hp} {Q:VK}:ZDl k js (iRng3 (ZCI t (ZCI u (ZCI v tNil)))) g tt te σ H Q=t σ H (fun x H1=>u σ H1 fun y H2=>v σ H2 fun z B=>compR3 g tt te (up k js σ) Q x y z B):=rfl
noncomputable def tBL (K:W.Frag) (t:TE):TT:=fun σ H Q=>t σ H fun x H1=>∃ a xs,x=.ref a /\ SqL K H1 a xs /\ Q (!xs.isEmpty) H1
section
variable {X:Cx}
theorem pt_lst {e:Expr} {t:TE} (h:PE X e t) (J:∀ whole,isTrue e X.env whole=(do let v <- whole;standAt e.pos;holding [v] (truthy v)):=by intro _;rfl):PT X e (tBL X.K t):=by
 intro pins s σ H Q I hw
 refine isTrue_plain (thn (h pins s σ H _ I hw) fun v s1 zz=>?_) (J _)
 obtain ⟨x,H1,B,r1,q1⟩:=zz
 obtain ⟨a,xs,rfl,O,q⟩:=q1
 cases r1
 obtain ⟨its,Z,p,U⟩:=B.list O
 have hl:=Z.length
 refine wpAny_truthy_list p.isList ?_ ?_
 .rw [yAR,<- hl]
  exact Int.lt_of_le_of_lt (Int.ofNat_le.mpr U) (by decide)
 .refine ⟨H1,B.kept (t':=s1.toks+1+1) (fun b o e=>e),?_⟩
  have:(!(its.toArray).isEmpty)=!xs.isEmpty:=by
   cases xs <;> cases its <;> first | rfl | cases hl
  rw [this];exact q
end
open PySem PySem.Spec PyProof.Rows L2S
section
variable {prog:Program} {w:World} {A:Around} {E:Value->Shared->Prop} {s:Shared}
end
section
variable {X:Cx}
end
end L2
namespace L2S
open PySem PyProof.Rows L2
section
variable {prog:Program} {w:World} {A:Around} {E:Value->Shared->Prop} {s:Shared}
end
end L2S
namespace L2
open PySem PySem.Spec PyProof.Rows L2S
section
variable {X:Cx} {e d:Expr} {te td:TE} {p pos:Pos} {kpos:Pos}
noncomputable def tSortR (K:W.Frag) (te td:TE):TE:=fun σ H Q=>te σ H fun x H1=>td σ H1 fun y H2=>∃ a ns,x=.ref a /\ y=.bl true /\ SqL K H2 a (ns.map V.int) /\ ns.length <= 1000 /\ ∀ (l:Addr) (ms:List Int),H2 l=none->ms.Perm ns->ms.Pairwise (·≥·)->Q (.ref l) (upd H2 l (.lst (ms.map V.int)))
end
end L2
namespace Gr
noncomputable def qt (m a:Int) (p:Nat):Int:=a * 2 ^ p / (2 * m)
structure IsG (m a b:Int) (g:Nat):Prop where
 pos:1 <= g
 eq:∀ q,1 <= q->q < g->qt m a q=qt m b q
 ne:qt m a g≠qt m b g
theorem p2pos (p:Nat):(0:Int) < 2 ^ p:=Int.pow_pos (by decide)
theorem qt_ne {m a b:Int} {p:Nat} (O:0 < m) (B:a+2 <= b) (J:m <= 2 ^ p):qt m a p≠qt m b p:=by
 unfold qt
 have h1:a * 2 ^ p+2 * m <= b * 2 ^ p:=by
  have:(a+2) * 2 ^ p <= b * 2 ^ p:=Int.mul_le_mul_of_nonneg_right B (Int.le_of_lt (p2pos p))
  rw [Int.add_mul] at this
  omega
 have h2:(a * 2 ^ p+2 * m) / (2 * m) <= b * 2 ^ p / (2 * m):=Int.ediv_le_ediv (by omega) h1
 rw [Int.add_ediv_of_dvd_right (Int.dvd_refl _),Int.ediv_self (by omega)] at h2
 omega
theorem qt_half (m a:Int) (p:Nat) (B:0 < m):qt m a p=qt m a (p+1) / 2:=by
 unfold qt
 rw [Int.pow_succ,<- Int.mul_assoc,Int.ediv_ediv_of_nonneg (by omega),Int.mul_ediv_mul_of_pos_left _ _ (by decide)]
theorem ZD4 {m a b:Int} (p:Nat) (B:0 < m) (h:a <= b):qt m a p <= qt m b p:=by
 unfold qt
 exact Int.ediv_le_ediv (by omega) (Int.mul_le_mul_of_nonneg_right h (Int.le_of_lt (p2pos p)))
theorem IsG.eq0 {m a b:Int} {g:Nat} (Z:0 < m) (ha:0 <= a) (O:0 <= b) (B:a < 2 * m) (J:b < 2 * m) (x:IsG m a b g) {q:Nat} (U:q < g):qt m a q=qt m b q:=by
 rcases Nat.eq_zero_or_pos q with e | e
 .subst e
  unfold qt
  rw [Int.pow_zero,Int.mul_one,Int.mul_one,Int.ediv_eq_zero_of_lt ha B,Int.ediv_eq_zero_of_lt O J]
 .exact x.eq q e U
theorem parted {m:Int} {f:Nat->Int} {gr:Nat->Nat} {i j:Nat} (J:0 < m) (a1:i < j) (h0:∀ k,k <= j+1->0 <= f k /\ f k < 2 * m) (U:∀ k,k <= j->f k <= f (k+1)) (O:∀ k,i <= k->k <= j->IsG m (f k) (f (k+1)) (gr k))
  (Z:∀ k,i <= k->k <= j->gr i <= gr k):gr i≠gr j:=by
 intro e
 have a0:=(O i (yAA _) (by omega)).pos
 obtain ⟨p,hp⟩:∃ p,gr i=p+1:=⟨gr i-1,by omega⟩
 have B:∀ d,i+d <= j+1->qt m (f (i+d)) p=qt m (f i) p:=by
  intro d
  induction d with
  | zero=>intro _;rfl
  | succ d ih=>
   intro hd
   rw [<- ih (by omega)]
   have b1:=h0 (i+d) (by omega)
   have b2:=h0 (i+d+1) (by omega)
   exact ((O (i+d) (by omega) (by omega)).eq0 J b1.1 b2.1 b1.2 b2.2 (by have:=Z (i+d) (by omega) (by omega);omega)).symm
 have mono:∀ d,i+1+d <= j+1->qt m (f (i+1)) (p+1) <= qt m (f (i+1+d)) (p+1):=by
  intro d
  induction d with
  | zero=>intro _;exact Int.le_refl _
  | succ d ih=>intro hd;exact Int.le_trans (ih (by omega)) (ZD4 _ J (U (i+1+d) (by omega)))
 have s1:=B 1 (by omega)
 have s2:=B (j-i) (by omega)
 have s3:=B (j+1-i) (by omega)
 rw [show i+(j-i)=j by omega] at s2
 rw [show i+(j+1-i)=j+1 by omega] at s3
 have n1:=(O i (yAA _) (by omega)).ne
 have n2:=(O j (by omega) (yAA _)).ne
 rw [hp] at n1
 rw [<- e,hp] at n2
 have m1:=ZD4 (p+1) J (U i (by omega))
 have m2:=ZD4 (p+1) J (U j (by omega))
 have m3:=mono (j-(i+1)) (by omega)
 rw [show i+1+(j-(i+1))=j by omega] at m3
 rw [qt_half m _ p J,qt_half m (f i) p J] at s1 s2 s3
 omega
end Gr
namespace Gr
structure Pil (m:Int) (f:Nat->Int) (gr:Nat->Nat) (k:Nat) (gs:List Nat):Prop where
 g:∀ j,j < k->IsG m (f j) (f (j+1)) (gr j)
 srt:gs.Pairwise (· < ·)
 at':∀ x∈gs,∃ i,i < k /\ gr i=x /\ ∀ j,i <= j->j < k->x <= gr j
theorem Pil.pre {m:Int} {f:Nat->Int} {gr:Nat->Nat} {k:Nat} {gs r:List Nat} (P:Pil m f gr k (gs++r)):Pil m f gr k gs :=
 ⟨P.g,(yBK.mp P.srt).1,fun x B=>P.at' x (yBU _ B)⟩
theorem Pil.no {m:Int} {f:Nat->Int} {gr:Nat->Nat} {k g:Nat} {gs:List Nat} (hm:0 < m) (U:∀ j,j <= k+1->0 <= f j /\ f j < 2 * m) (J:∀ j,j <= k->f j <= f (j+1)) (P:Pil m f gr k gs) (Z:IsG m (f k) (f (k+1)) g):g∉gs:=by
 intro O
 obtain ⟨i,hi,e,B⟩:=P.at' g O
 refine parted (gr:=fun j=>if j=k then g else gr j) hm hi U J (fun j h1 h2=>?_) (fun j h1 h2=>?_) ?_
 .by_cases q:j=k
  .subst q;rw [if_pos rfl];exact Z
  .rw [if_neg q];exact P.g j (by omega)
 .rw [if_neg (show ¬ i=k by omega),e]
  by_cases q:j=k
  .rw [if_pos q];exact yAA _
  .rw [if_neg q];exact B j h1 (by omega)
 .rw [if_neg (show ¬ i=k by omega),if_pos rfl,e]
theorem Pil.push {m:Int} {f:Nat->Int} {gr:Nat->Nat} {k g:Nat} {gs:List Nat} (P:Pil m f gr k gs) (O:IsG m (f k) (f (k+1)) g) (hl:∀ x∈gs,x < g):Pil m f (fun j=>if j=k then g else gr j) (k+1) (gs++[g]):=by
 refine ⟨fun j Z=>?_,yBK.mpr ⟨P.srt,List.pairwise_singleton _ _,fun x B y U=>?_⟩,fun x B=>?_⟩
 .by_cases q:j=k
  .subst q;rw [if_pos rfl];exact O
  .rw [if_neg q];exact P.g j (by omega)
 .rw [yAO.mp U];exact hl x B
 .rcases yAZ.mp B with B | B
  .obtain ⟨i,hi,e,J⟩:=P.at' x B
   refine ⟨i,by omega,by rw [if_neg (show ¬ i=k by omega)];exact e,fun j h1 h2=>?_⟩
   by_cases q:j=k
   .rw [if_pos q];exact yBJ (hl x B)
   .rw [if_neg q];exact J j h1 (by omega)
  .rw [yAO.mp B]
   refine ⟨k,by omega,if_pos rfl,fun j h1 h2=>?_⟩
   rw [if_pos (show j=k by omega)]
   exact yAA _
theorem last_le {gs:List Nat} {v g:Nat} (h:(gs++[v]).Pairwise (· < ·)) (J:v <= g):∀ x∈gs++[v],x <= g:=fun x B=>by
 rcases yAZ.mp B with B | B
 .have:=(yBK.mp h).2.2 x B v (List.mem_singleton_self v)
  omega
 .rw [yAO.mp B];exact J
end Gr
namespace L2
open PySem
theorem tVar_1 {v:V} {B:Option V} {σ:St} {H:Hp} {Q:VK}:tVar 1 (B::some v::σ) H Q=Q v H:=by
 simp only [ZAo,ZAj]
theorem tVar_2 {v:V} {J B:Option V} {σ:St} {H:Hp} {Q:VK}:tVar 2 (J::B::some v::σ) H Q=Q v H:=by
 simp only [ZAo,ZAj]
theorem tVar_3 {v:V} {J B O:Option V} {σ:St} {H:Hp} {Q:VK}:tVar 3 (J::B::O::some v::σ) H Q=Q v H:=by
 simp only [ZAo,ZAj]
theorem tVar_4 {v:V} {O B U J:Option V} {σ:St} {H:Hp} {Q:VK}:tVar 4 (O::B::U::J::some v::σ) H Q=Q v H:=by
 simp only [ZAo,ZAj]
theorem tVar_5 {v:V} {U J Z O B:Option V} {σ:St} {H:Hp} {Q:VK}:tVar 5 (U::J::Z::O::B::some v::σ) H Q=Q v H:=by
 simp only [ZAo,ZAj]
theorem tVar_6 {v:V} {U J a2 O B Z:Option V} {σ:St} {H:Hp} {Q:VK}:tVar 6 (U::J::a2::O::B::Z::some v::σ) H Q=Q v H:=by
 simp only [ZAo,ZAj]
theorem tVar_7 {v:V} {Z O a2 U B a5 J:Option V} {σ:St} {H:Hp} {Q:VK}:tVar 7 (Z::O::a2::U::B::a5::J::some v::σ) H Q=Q v H:=by
 simp only [ZAo,ZAj]
theorem tVar_8 {v:V} {Z O a2 U B a5 J a7:Option V} {σ:St} {H:Hp} {Q:VK}:tVar 8 (Z::O::a2::U::B::a5::J::a7::some v::σ) H Q=Q v H:=by
 simp only [ZAo,ZAj]
theorem tVar_9 {v:V} {a0 O a2 Z B a5 J a7 U:Option V} {σ:St} {H:Hp} {Q:VK}:tVar 9 (a0::O::a2::Z::B::a5::J::a7::U::some v::σ) H Q=Q v H:=by
 simp only [ZAo,ZAj]
theorem tVar_10 {v:V} {a0 O a2 a3 B a5 J a7 U Z:Option V} {σ:St} {H:Hp} {Q:VK}:tVar 10 (a0::O::a2::a3::B::a5::J::a7::U::Z::some v::σ) H Q=Q v H:=by
 simp only [ZAo,ZAj]
theorem tVar_11 {v:V} {a0 U a2 a3 J a5 O a7 Z a9 B:Option V} {σ:St} {H:Hp} {Q:VK}:tVar 11 (a0::U::a2::a3::J::a5::O::a7::Z::a9::B::some v::σ) H Q=Q v H:=by
 simp only [ZAo,ZAj]
theorem tVar_12 {v:V} {a0 Z a2 a3 O a5 U a7 a8 a9 B J:Option V} {σ:St} {H:Hp} {Q:VK}:tVar 12 (a0::Z::a2::a3::O::a5::U::a7::a8::a9::B::J::some v::σ) H Q=Q v H:=by
 simp only [ZAo,ZAj]
theorem tVar_13 {v:V} {a0 a1 a2 a3 U a5 Z a7 a8 a9 B J O:Option V} {σ:St} {H:Hp} {Q:VK}:tVar 13 (a0::a1::a2::a3::U::a5::Z::a7::a8::a9::B::J::O::some v::σ) H Q=Q v H:=by
 simp only [ZAo,ZAj]
theorem tVar_14 {v:V} {a0 a1 a2 a3 Z a5 a6 a7 a8 a9 B J O U:Option V} {σ:St} {H:Hp} {Q:VK}:tVar 14 (a0::a1::a2::a3::Z::a5::a6::a7::a8::a9::B::J::O::U::some v::σ) H Q=Q v H:=by
 simp only [ZAo,ZAj]
theorem tVar_15 {v:V} {a0 a1 a2 a3 a4 a5 a6 a7 a8 a9 B U Z O J:Option V} {σ:St} {H:Hp} {Q:VK}:tVar 15 (a0::a1::a2::a3::a4::a5::a6::a7::a8::a9::B::U::Z::O::J::some v::σ) H Q=Q v H:=by
 simp only [ZAo,ZAj]
theorem tVar_16 {v:V} {a0 a1 a2 a3 a4 a5 a6 a7 a8 a9 B Z aa O J U:Option V} {σ:St} {H:Hp} {Q:VK}:tVar 16 (a0::a1::a2::a3::a4::a5::a6::a7::a8::a9::B::Z::aa::O::J::U::some v::σ) H Q=Q v H:=by
 simp only [ZAo,ZAj]
theorem tVar_17 {v:V} {a0 a1 a2 a3 a4 a5 a6 a7 a8 a9 B Z ab O J U aa:Option V} {σ:St} {H:Hp} {Q:VK}:tVar 17 (a0::a1::a2::a3::a4::a5::a6::a7::a8::a9::B::Z::ab::O::J::U::aa::some v::σ) H Q=Q v H:=by
 simp only [ZAo,ZAj]
theorem tVar_18 {v:V} {a0 a1 a2 a3 a4 a5 a6 a7 a8 a9 B aa ac O J U ab Z:Option V} {σ:St} {H:Hp} {Q:VK}:tVar 18 (a0::a1::a2::a3::a4::a5::a6::a7::a8::a9::B::aa::ac::O::J::U::ab::Z::some v::σ) H Q=Q v H:=by
 simp only [ZAo,ZAj]
theorem tVar_19 {v:V} {a0 a1 a2 a3 a4 a5 a6 a7 a8 a9 B aa ad O J U ac Z ab:Option V} {σ:St} {H:Hp} {Q:VK}:tVar 19 (a0::a1::a2::a3::a4::a5::a6::a7::a8::a9::B::aa::ad::O::J::U::ac::Z::ab::some v::σ) H Q=Q v H:=by
 simp only [ZAo,ZAj]
theorem tVar_20 {v:V} {a0 a1 a2 a3 a4 a5 a6 a7 a8 a9 B ab ae O J U ad Z ac aa:Option V} {σ:St} {H:Hp} {Q:VK}:tVar 20 (a0::a1::a2::a3::a4::a5::a6::a7::a8::a9::B::ab::ae::O::J::U::ad::Z::ac::aa::some v::σ) H Q=Q v H:=by
 simp only [ZAo,ZAj]
theorem tVar_21 {v:V} {a0 a1 a2 a3 a4 a5 a6 a7 a8 a9 B ab af O J U ae Z ad aa ac:Option V} {σ:St} {H:Hp} {Q:VK}:tVar 21 (a0::a1::a2::a3::a4::a5::a6::a7::a8::a9::B::ab::af::O::J::U::ae::Z::ad::aa::ac::some v::σ) H Q=Q v H:=by
 simp only [ZAo,ZAj]
theorem tVar_22 {v:V} {a0 a1 a2 a3 a4 a5 a6 a7 a8 a9 B ac ag U O Z af aa ae ab ad J:Option V} {σ:St} {H:Hp} {Q:VK}:tVar 22 (a0::a1::a2::a3::a4::a5::a6::a7::a8::a9::B::ac::ag::U::O::Z::af::aa::ae::ab::ad::J::some v::σ) H Q=Q v H:=by
 simp only [ZAo,ZAj]
theorem tVar_23 {v:V} {a0 a1 a2 a3 a4 a5 a6 a7 a8 a9 B ac ag U O Z af aa ae ab ad J ah:Option V} {σ:St} {H:Hp} {Q:VK}:tVar 23 (a0::a1::a2::a3::a4::a5::a6::a7::a8::a9::B::ac::ag::U::O::Z::af::aa::ae::ab::ad::J::ah::some v::σ) H Q=Q v H:=by
 simp only [ZAo,ZAj]
theorem tVar_24 {v:V} {a0 a1 a2 a3 a4 a5 a6 a7 a8 a9 B ad ah U O Z ag aa af ac ae J ai ab:Option V} {σ:St} {H:Hp} {Q:VK}:tVar 24 (a0::a1::a2::a3::a4::a5::a6::a7::a8::a9::B::ad::ah::U::O::Z::ag::aa::af::ac::ae::J::ai::ab::some v::σ) H Q=Q v H:=by
 simp only [ZAo,ZAj]
theorem tVar_25 {v:V} {a0 a1 a2 a3 a4 a5 a6 a7 a8 a9 B ad ai U O Z ah aa af ac ae J aj ab ag:Option V} {σ:St} {H:Hp} {Q:VK}:tVar 25 (a0::a1::a2::a3::a4::a5::a6::a7::a8::a9::B::ad::ai::U::O::Z::ah::aa::af::ac::ae::J::aj::ab::ag::some v::σ) H Q=Q v H:=by
 simp only [ZAo,ZAj]
theorem tVar_26 {v:V} {a0 a1 a2 a3 a4 a5 a6 a7 a8 a9 B ad ai U O Z ah aa af ac ae J aj ab ag al:Option V} {σ:St} {H:Hp} {Q:VK}:tVar 26 (a0::a1::a2::a3::a4::a5::a6::a7::a8::a9::B::ad::ai::U::O::Z::ah::aa::af::ac::ae::J::aj::ab::ag::al::some v::σ) H Q=Q v H:=by
 simp only [ZAo,ZAj]
theorem tVar_27 {v:V} {a0 a1 a2 a3 a4 a5 a6 a7 a8 a9 B ae aj U O Z ai aa ag ad af J al ac ah am ab:Option V} {σ:St} {H:Hp} {Q:VK}:tVar 27 (a0::a1::a2::a3::a4::a5::a6::a7::a8::a9::B::ae::aj::U::O::Z::ai::aa::ag::ad::af::J::al::ac::ah::am::ab::some v::σ) H Q=Q v H:=by
 simp only [ZAo,ZAj]
theorem tVar_28 {v:V} {a0 a1 a2 a3 a4 a5 a6 a7 a8 a9 B ae al U O Z aj aa ah ad af J am ac ai an ab ag:Option V} {σ:St} {H:Hp} {Q:VK}:tVar 28 (a0::a1::a2::a3::a4::a5::a6::a7::a8::a9::B::ae::al::U::O::Z::aj::aa::ah::ad::af::J::am::ac::ai::an::ab::ag::some v::σ) H Q=Q v H:=by
 simp only [ZAo,ZAj]
theorem tVar_29 {v:V} {a0 a1 a2 a3 a4 a5 a6 a7 a8 a9 B ae al U O Z aj aa ah ad af J an ac ai ao ab ag am:Option V} {σ:St} {H:Hp} {Q:VK}:tVar 29 (a0::a1::a2::a3::a4::a5::a6::a7::a8::a9::B::ae::al::U::O::Z::aj::aa::ah::ad::af::J::an::ac::ai::ao::ab::ag::am::some v::σ) H Q=Q v H:=by
 simp only [ZAo,ZAj]
theorem tVar_30 {v:V} {a0 a1 a2 a3 a4 a5 a6 a7 a8 a9 B af am U O Z al aa ai ad ag J ao ac aj ap ab ah an ae:Option V} {σ:St} {H:Hp} {Q:VK}:tVar 30 (a0::a1::a2::a3::a4::a5::a6::a7::a8::a9::B::af::am::U::O::Z::al::aa::ai::ad::ag::J::ao::ac::aj::ap::ab::ah::an::ae::some v::σ) H Q=Q v H:=by
 simp only [ZAo,ZAj]
open PySem
noncomputable def Cut (t:TS):TS:=t
theorem ZAU {X:Cx} {rest:List Stmt} {u:TS} (h:PSs X rest u):PSs X rest (Cut u):=h
theorem ZAa {u:TS} {D:Ends} {σ:St} {H:Hp} (h:u D σ H):Cut u D σ H:=h
theorem us0 {l:List Value} (h:l.length=0):l=[]:=yCA.mp h
theorem us1 {l:List Value} (h:l.length=1):∃ B,l=[B]:=by
 cases l with
 | nil=>cases h
 | cons a l=>
  obtain rfl:=us0 (l:=l) (Nat.succ.inj h)
  exact ⟨a,rfl⟩
theorem us2 {l:List Value} (h:l.length=2):∃ J B,l=[J,B]:=by
 cases l with
 | nil=>cases h
 | cons a l=>
  obtain ⟨b0,rfl⟩:=us1 (l:=l) (Nat.succ.inj h)
  exact ⟨a,b0,rfl⟩
theorem us3 {l:List Value} (h:l.length=3):∃ J B U,l=[J,B,U]:=by
 cases l with
 | nil=>cases h
 | cons a l=>
  obtain ⟨b0,O,rfl⟩:=us2 (l:=l) (Nat.succ.inj h)
  exact ⟨a,b0,O,rfl⟩
theorem us4 {l:List Value} (h:l.length=4):∃ U B a2 O,l=[U,B,a2,O]:=by
 cases l with
 | nil=>cases h
 | cons a l=>
  obtain ⟨b0,Z,J,rfl⟩:=us3 (l:=l) (Nat.succ.inj h)
  exact ⟨a,b0,Z,J,rfl⟩
end L2
namespace Law
open PySem L2
local macro_rules | `(tactic| walk_at "o")=>`(tactic| first | exact Or.inl rfl | exact Or.inr rfl)
set_option hygiene false in
local macro_rules | `(tactic| walk_at "rd")=>`(tactic| ((try dsimp only [cx_K,tDNewT,tDNewK,tDNotIn,tDIn,tDGet,sDPut,tChain,tForZ_eq,ZEz,tCompR2_eq,sFldAug_eq,cx_cloK,ZEX,ZCW,tForE_eq,tCompE_eq,tMaxD,tAug_eq,ipI_int,gSub,gCons_eq,gNil_eq,tSeq,tIfS,ZEy,tB,tOr,tAnd,tNot,tOp,tUn,tC,ZAj,tSortR,ZDQ,tCompR3_eq,tBL,tVar_1,tVar_2,tVar_3,tVar_4,tVar_5,tVar_6,tVar_7,tVar_8,tVar_9,tVar_10,tVar_11,tVar_12,tVar_13,tVar_14,tVar_15,tVar_16,tVar_17,tVar_18,tVar_19,tVar_20,tVar_21,tVar_22,tVar_23,tVar_24,tVar_25,tVar_26,tVar_27,tVar_28,tVar_29,tVar_30,rI0_int,rI_int,rU_int,rEq_int,rNe_int,rEq_bl,rNe_bl,rEq_str,rNe_str,ex_bl,ex_int,tAsg,ZEj,tRet,tRetN,ZE2,ZEq,ZEV,ZE3,tOrV,ZE1,tIf,List.set_cons_zero,List.set_cons_succ,ZEY,ZEQ,ZCI,tNil,List.cons_append,List.nil_append,yBC,tCB,tFld_eq,sFld_eq,tForL_eq,tForR1_eq,tForR2_eq,tCompL_eq,tCompR1_eq,tYes,tBM,tBM0,tLst,tTup,ZEW,true_and,tSl,ZE0,ZDx,decide_eq_true_eq,Bool.not_eq_true',decide_eq_false_iff_not,L2.start,yBD,List.map_nil,yAH,yCE,Nat.reduceAdd,Nat.reduceSub,yCI,yBF,List.replicate_zero,List.replicate_succ,if_true,if_false,Bool.false_eq_true,Bool.true_eq_false,Bool.not_true,Bool.not_false]);(try simp only [cx_K,tDNewT,tDNewK,tDNotIn,tDIn,tDGet,sDPut,tChain,tForZ_eq,ZEz,tCompR2_eq,sFldAug_eq,cx_cloK,ZEX,ZCW,tForE_eq,tCompE_eq,tMaxD,tAug_eq,ipI_int,gSub,gCons_eq,gNil_eq,tSeq,tIfS,ZEy,tB,tOr,tAnd,tNot,tOp,tUn,tC,ZAj,tSortR,ZDQ,tCompR3_eq,tBL,tVar_1,tVar_2,tVar_3,tVar_4,tVar_5,tVar_6,tVar_7,tVar_8,tVar_9,tVar_10,tVar_11,tVar_12,tVar_13,tVar_14,tVar_15,tVar_16,tVar_17,tVar_18,tVar_19,tVar_20,tVar_21,tVar_22,tVar_23,tVar_24,tVar_25,tVar_26,tVar_27,tVar_28,tVar_29,tVar_30,rI0_int,rI_int,rU_int,rEq_int,rNe_int,rEq_bl,rNe_bl,rEq_str,rNe_str,ex_bl,ex_int,tAsg,ZEj,tRet,tRetN,ZE2,ZEq,ZEV,ZE3,tOrV,ZE1,tIf,List.set_cons_zero,List.set_cons_succ,ZEY,ZEQ,ZCI,tNil,List.cons_append,List.nil_append,yBC,tCB,tFld_eq,sFld_eq,tForL_eq,tForR1_eq,tForR2_eq,tCompL_eq,tCompR1_eq,tYes,tBM,tBM0,tLst,tTup,ZEW,true_and,tSl,ZE0,ZDx,decide_eq_true_eq,Bool.not_eq_true',decide_eq_false_iff_not,L2.start,yBD,List.map_nil,yAH,yCE,Nat.reduceAdd,Nat.reduceSub,yCI,yBF,List.replicate_zero,List.replicate_succ,if_true,if_false,Bool.false_eq_true,Bool.true_eq_false,Bool.not_true,Bool.not_false])))
local macro_rules | `(tactic| walk_at "up")=>`(tactic| first | assumption | (refine Same.get (by assumption) ?_;walk_at "up"))
local macro_rules | `(tactic| walk_at "lk")=>`(tactic| ((repeat (first | rw [lkc,if_pos rfl] | rw [lkc,if_neg (by decide +kernel)]));first | done | rfl))
noncomputable def top (i:Nat):Stmt:=PySem.Challenge.pw_sorthall_k56_whole_asks_of_the_pile.main.body.getD i (.Pass ⟨0,0,0,0⟩)
noncomputable abbrev ZDK:Stmt:=top 2
noncomputable abbrev ZBG:Stmt:=ZAw (top 7) 0
noncomputable abbrev ZAv:Stmt:=ZAw (top 7) 1
noncomputable abbrev ZA8:Stmt:=ZAw (top 7) 2
noncomputable abbrev ZA0:Stmt:=ZAw (top 7) 3
noncomputable abbrev ZAr:Stmt:=ZAw (top 7) 4
noncomputable abbrev ZBZ:Stmt:=ZAw (top 7) 5
noncomputable abbrev ZA1:Stmt:=ZAw (top 7) 6
noncomputable abbrev ZCC:Stmt:=top 8
noncomputable abbrev ZAz:Stmt:=top 10
noncomputable abbrev ZBl:Stmt:=top 11
noncomputable abbrev ZBj:Stmt:=top 13
noncomputable abbrev ZCD:Stmt:=top 14
noncomputable abbrev ZCk:Stmt:=top 16
noncomputable abbrev ZBF:Stmt:=ZAw (top 18) 0
noncomputable abbrev ZAq:Stmt:=ZAw (top 18) 1
noncomputable abbrev ZAZ:Stmt:=ZAw (top 18) 2
noncomputable abbrev ZAu:Stmt:=ZAw (top 18) 3
noncomputable abbrev ZAc:Stmt:=ZAw (top 18) 4
noncomputable abbrev ZBY:Stmt:=ZAw (top 18) 5
noncomputable abbrev ZBE:Stmt:=ZAw (top 18) 6
noncomputable abbrev ZA7:Stmt:=ZAw (top 18) 8
noncomputable abbrev ZBn:Stmt:=top 19
noncomputable abbrev ZBA:Stmt:=ZAw (top 24) 0
noncomputable abbrev ZA9:Stmt:=ZAw (top 24) 1
noncomputable abbrev ZA3:Stmt:=ZAw (top 24) 2
noncomputable abbrev ZAs:Stmt:=ZAw (top 27) 0
noncomputable abbrev ZAg:Stmt:=ZAw (top 27) 1
noncomputable abbrev ZBm:Stmt:=top 29
noncomputable abbrev ZCE:Stmt:=top 30
noncomputable abbrev ZBk:Stmt:=top 31
noncomputable abbrev ZCB:Stmt:=top 32
noncomputable abbrev ZBr:Stmt:=top 33
noncomputable abbrev ZDJ:Stmt:=top 34
noncomputable abbrev ZER:Stmt:=top 35
noncomputable abbrev ZBX:Stmt:=top 36
noncomputable abbrev ZDa:Stmt:=top 37
theorem sc_leap:FnScope ["asker","order","first","place","low","high","wide","middle"] ["asker","order","first","place"] (ZAC ZDK):=⟨rfl,rfl,rfl,by decide +kernel,rfl,by decide +kernel,by decide +kernel⟩
theorem sc_Join_init:FnScope ["self","asker","left","right"] ["self","asker","left","right"] (ZAC ZBG):=⟨rfl,rfl,rfl,by decide +kernel,rfl,by decide +kernel,by decide +kernel⟩
theorem sc_Join_has_more:FnScope ["self","side"] ["self","side"] (ZAC ZAv):=⟨rfl,rfl,rfl,by decide +kernel,rfl,by decide +kernel,by decide +kernel⟩
theorem sc_Join_front:FnScope ["self","side"] ["self","side"] (ZAC ZA8):=⟨rfl,rfl,rfl,by decide +kernel,rfl,by decide +kernel,by decide +kernel⟩
theorem sc_Join_take_on:FnScope ["self","side","more","start"] ["self","side","more"] (ZAC ZA0):=⟨rfl,rfl,rfl,by decide +kernel,rfl,by decide +kernel,by decide +kernel⟩
theorem sc_Join_take_rest:FnScope ["self","side"] ["self","side"] (ZAC ZAr):=⟨rfl,rfl,rfl,by decide +kernel,rfl,by decide +kernel,by decide +kernel⟩
theorem sc_Join_win:FnScope ["self","side"] ["self"] (ZAC ZBZ):=⟨rfl,rfl,rfl,by decide +kernel,rfl,by decide +kernel,by decide +kernel⟩
theorem sc_Join_leap_on:FnScope ["self","side","other"] ["self","side"] (ZAC ZA1):=⟨rfl,rfl,rfl,by decide +kernel,rfl,by decide +kernel,by decide +kernel⟩
theorem sc_joined:FnScope ["asker","left","right","join","wins","winner","side"] ["asker","left","right"] (ZAC ZCC):=⟨rfl,rfl,rfl,by decide +kernel,rfl,by decide +kernel,by decide +kernel⟩
theorem sc_stretch_from:FnScope ["asker","first","end","stop","beyond","falling"] ["asker","first","end"] (ZAC ZAz):=⟨rfl,rfl,rfl,by decide +kernel,rfl,by decide +kernel,by decide +kernel⟩
theorem sc_in_turn:FnScope ["first","beyond","falling","places"] ["first","beyond","falling"] (ZAC ZBl):=⟨rfl,rfl,rfl,by decide +kernel,rfl,by decide +kernel,by decide +kernel⟩
theorem sc_spot_of:FnScope ["asker","order","place","low","high","middle"] ["asker","order","place"] (ZAC ZBj):=⟨rfl,rfl,rfl,by decide +kernel,rfl,by decide +kernel,by decide +kernel⟩
theorem sc_filled:FnScope ["asker","first","least","end","stop","part","found","order","place"] ["asker","first","least","end"] (ZAC ZCD):=⟨rfl,rfl,rfl,by decide +kernel,rfl,by decide +kernel,by decide +kernel⟩
theorem sc_grade:FnScope ["many","first","middle","beyond","lower","upper","found"] ["many","first","middle","beyond"] (ZAC ZCk):=⟨rfl,rfl,rfl,by decide +kernel,rfl,by decide +kernel,by decide +kernel⟩
theorem sc_Pile_init:FnScope ["self","asker","least","part"] ["self","asker","least","part"] (ZAC ZBF):=⟨rfl,rfl,rfl,by decide +kernel,rfl,by decide +kernel,by decide +kernel⟩
theorem sc_Pile_beyond_of:FnScope ["self","number"] ["self","number"] (ZAC ZAq):=⟨rfl,rfl,rfl,by decide +kernel,rfl,by decide +kernel,by decide +kernel⟩
theorem sc_Pile_is_due_beneath:FnScope ["self"] ["self"] (ZAC ZAZ):=⟨rfl,rfl,rfl,by decide +kernel,rfl,by decide +kernel,by decide +kernel⟩
theorem sc_Pile_join_two:FnScope ["self","lower","order","deed"] ["self","lower"] (ZAC ZAu):=⟨rfl,rfl,rfl,by decide +kernel,rfl,by decide +kernel,by decide +kernel⟩
theorem sc_Pile_grade_on_top:FnScope ["self","middle","beyond"] ["self","middle","beyond"] (ZAC ZAc):=⟨rfl,rfl,rfl,by decide +kernel,rfl,by decide +kernel,by decide +kernel⟩
theorem sc_Pile_lay:FnScope ["self","first","found","beyond"] ["self"] (ZAC ZBY):=⟨rfl,rfl,rfl,by decide +kernel,rfl,by decide +kernel,by decide +kernel⟩
theorem sc_Pile_step:FnScope ["self"] ["self"] (ZAC ZBE):=⟨rfl,rfl,rfl,by decide +kernel,rfl,by decide +kernel,by decide +kernel⟩
theorem sc_Pile_paper:FnScope ["self","told","order"] ["self"] (ZAC ZA7):=⟨rfl,rfl,rfl,by decide +kernel,rfl,by decide +kernel,by decide +kernel⟩
theorem sc_by_pile:FnScope ["asker","least","part","pile"] ["asker","least","part"] (ZAC ZBn):=⟨rfl,rfl,rfl,by decide +kernel,rfl,by decide +kernel,by decide +kernel⟩
theorem sc_Asker_init:FnScope ["self","row","rule","most"] ["self","row","rule","most"] (ZAC ZBA):=⟨rfl,rfl,rfl,by decide +kernel,rfl,by decide +kernel,by decide +kernel⟩
theorem sc_Asker_many:FnScope ["self"] ["self"] (ZAC ZA9):=⟨rfl,rfl,rfl,by decide +kernel,rfl,by decide +kernel,by decide +kernel⟩
theorem sc_Asker_ahead:FnScope ["self","p","q","later","earlier","said"] ["self","p","q"] (ZAC ZA3):=⟨rfl,rfl,rfl,by decide +kernel,rfl,by decide +kernel,by decide +kernel⟩
theorem sc_AskedRule_init:FnScope ["self","teller"] ["self","teller"] (ZAC ZAs):=⟨rfl,rfl,rfl,by decide +kernel,rfl,by decide +kernel,by decide +kernel⟩
theorem sc_AskedRule_before:FnScope ["self","x","y","teller"] ["self","x","y"] (ZAC ZAg):=⟨rfl,rfl,rfl,by decide +kernel,rfl,by decide +kernel,by decide +kernel⟩
theorem sc_cell_at:FnScope ["_law_script","_law_k"] ["_law_script","_law_k"] (ZAC ZBm):=⟨rfl,rfl,rfl,by decide +kernel,rfl,by decide +kernel,by decide +kernel⟩
theorem sc_blocks:FnScope ["_law_keys","_law_one","_law_two","_law_row","_law_k","_law_block"] ["_law_keys","_law_one","_law_two"] (ZAC ZCE):=⟨rfl,rfl,rfl,by decide +kernel,rfl,by decide +kernel,by decide +kernel⟩
theorem sc_keys_by:FnScope ["_law_script","_law_many","_law_most_here","_law_number","_law_keys","_law_k"] ["_law_script","_law_many","_law_most_here"] (ZAC ZBk):=⟨rfl,rfl,rfl,by decide +kernel,rfl,by decide +kernel,by decide +kernel⟩
theorem sc_row_by:FnScope ["_law_script","_law_many","_law_keys","_law_way","_law_one","_law_two"] ["_law_script"] (ZAC ZCB):=⟨rfl,rfl,rfl,by decide +kernel,rfl,by decide +kernel,by decide +kernel⟩
theorem sc_teller:FnScope ["_law_written","_law_ask"] ["_law_written"] (ZAC ZBr):=⟨rfl,rfl,rfl,by decide +kernel,rfl,by decide +kernel,by decide +kernel⟩
theorem sc_most:FnScope ["_law_step","_law_many","_law_size","_law_most_here"] ["_law_step","_law_many"] (ZAC ZDJ):=⟨rfl,rfl,rfl,by decide +kernel,rfl,by decide +kernel,by decide +kernel⟩
theorem sc_sum:FnScope ["_law_lays","_law_many","_law_told","_law_first","_law_beyond","_law_most_here","_law_double"] ["_law_lays","_law_many"] (ZAC ZER):=⟨rfl,rfl,rfl,by decide +kernel,rfl,by decide +kernel,by decide +kernel⟩
theorem sc_straight:FnScope ["_law_keys","_law_row","_law_written","_law_paper"] ["_law_keys"] (ZAC ZBX):=⟨rfl,rfl,rfl,by decide +kernel,rfl,by decide +kernel,by decide +kernel⟩
theorem sc_law:FnScope ["_law_script","_law_row","_law_least","_law_written","_law_pile","_law_lays","_law_asked","_law_step","_law_more","_law_keys"] ["_law_script"] (ZAC ZDa):=⟨rfl,rfl,rfl,by decide +kernel,rfl,by decide +kernel,by decide +kernel⟩
noncomputable abbrev ZAH:Stmt:=inBody ZBr 0
theorem csc_teller:CloScope ["_law_one","_law_other","_law_written"] ["_law_one","_law_other"] ["_law_written"] (ZAC ZAH):=⟨rfl,rfl,rfl,by decide +kernel,rfl,rfl,by decide,by decide +kernel,by decide +kernel,by decide +kernel,fun x h=>(show ∀ y∈(ZAC ZAH).names,y.2=.free->y.1∈(["_law_written"]:List Str) by decide +kernel) _ (PySem.mem_of_lookup h) rfl⟩
structure Bt (K:W.Frag) (mg:Str->Option Value) (C_Join C_Pile C_Asker C_AskedRule:Addr):Prop where
 b_len:mg "len"=none
 b_range:mg "range"=none
 b_list:mg "list"=none
 b_max:mg "max"=none
 b_min:mg "min"=none
 b_abs:mg "abs"=none
 b_sum:mg "sum"=none
 b_sorted:mg "sorted"=none
 b_reversed:mg "reversed"=none
 b_set:mg "set"=none
 b_ValueError:mg "ValueError"=none
 c_LEFT:∃ t,mg "LEFT"=some (.int 0 t)
 c_RIGHT:∃ t,mg "RIGHT"=some (.int 1 t)
 c_WINS_TO_LEAP:∃ t,mg "WINS_TO_LEAP"=some (.int 4 t)
 m_Join:mg "Join"=some (.ref C_Join)
 cl_Join:Cls K C_Join
 n_Join_asker:NoAttr K C_Join "asker"
 n_Join_sides:NoAttr K C_Join "sides"
 n_Join_taken:NoAttr K C_Join "taken"
 n_Join_places:NoAttr K C_Join "places"
 m_Pile:mg "Pile"=some (.ref C_Pile)
 cl_Pile:Cls K C_Pile
 n_Pile_asker:NoAttr K C_Pile "asker"
 n_Pile_least:NoAttr K C_Pile "least"
 n_Pile_start:NoAttr K C_Pile "start"
 n_Pile_end:NoAttr K C_Pile "end"
 n_Pile_reached:NoAttr K C_Pile "reached"
 n_Pile_firsts:NoAttr K C_Pile "firsts"
 n_Pile_orders:NoAttr K C_Pile "orders"
 n_Pile_grades:NoAttr K C_Pile "grades"
 m_Asker:mg "Asker"=some (.ref C_Asker)
 cl_Asker:Cls K C_Asker
 n_Asker_row:NoAttr K C_Asker "row"
 n_Asker_rule:NoAttr K C_Asker "rule"
 n_Asker_most:NoAttr K C_Asker "most"
 n_Asker_asked:NoAttr K C_Asker "asked"
 n_Asker_told:NoAttr K C_Asker "told"
 m_AskedRule:mg "AskedRule"=some (.ref C_AskedRule)
 cl_AskedRule:Cls K C_AskedRule
 n_AskedRule_teller:NoAttr K C_AskedRule "teller"
 kit_int_bool:PySem.W.kitOne K (.type "int") (.type "bool")=some false
noncomputable def cellOf (ns:List Int) (k:Int):Int:=if k < (ns.length:Int) then (ns[k.toNat]?).getD 0 else 0
noncomputable def ZDp (K:W.Frag):Sp:=fun vs H Q _=>∃ (a:Addr) (ns:List Int) (k:Int),vs=[.ref a,.int k] /\ SqL K H a (ns.map V.int) /\ 0 <= k /\ Q (.int (cellOf ns k)) H
noncomputable def ZD3:Sp:=fun vs H Q _=>∃ m a b c:Int,vs=[.int m,.int a,.int b,.int c] /\ 1 < m /\ m < 2 ^ 240 /\ 0 <= a /\ a < b /\ b < c /\ c <= m /\ ∀ g:Nat,Gr.IsG m (a+b) (b+c) g->g <= 240->Q (.int g) H
theorem pow240 {p:Nat} {m:Int} (J:m < 2 ^ 240) (B:240 <= p):m <= 2 ^ p:=by
 obtain ⟨d,rfl⟩:∃ d,p=240+d:=⟨p-240,by omega⟩
 have h1:(1:Int) <= 2 ^ d:=Gr.p2pos d
 rw [Int.pow_add]
 have h2:(2:Int) ^ 240 * 1 <= 2 ^ 240 * 2 ^ d:=Int.mul_le_mul_of_nonneg_left h1 (by decide)
 omega
theorem dbl (x:Int) (p:Nat):2 * (x * 2 ^ p)=x * 2 ^ (p+1):=by rw [Int.pow_succ,Int.mul_comm 2,Int.mul_assoc]
theorem smallL {n:Nat} (h:n <= 90000):n < sizeLine:=Nat.lt_of_le_of_lt h (by decide)
noncomputable abbrev fA (rl ru:Addr) (m:V) (n:Int) (tl:Addr):List (Str×V):=[("told",.ref tl),("asked",.int n),("most",m),("rule",.ref ru),("row",.ref rl)]
noncomputable abbrev fR (g:Addr):List (Str×V):=[("teller",.ref g)]
noncomputable def ZBq (CA:Addr):Sp:=fun vs H Q _=>∃ (x dx r:Addr) (ru:Addr) (m:V) (xs:List V),vs=[.ref x,.ref r,.ref ru,m] /\ H x=some (.ins CA dx []) /\ H r=some (.lst xs) /\
 ∀ rl tl H',(∀ b o,b≠x->H b=some o->H' b=some o)->H rl=none->H tl=none->rl≠tl->Ins H' x CA (fA rl ru m 0 tl)->H' rl=some (.lst xs)->H' tl=some (.lst [])->Q .non H'
noncomputable def ZDn (CA:Addr):Sp:=fun vs H Q _=>∃ (a rl ru tl:Addr) (m:V) (n:Int) (xs:List V),vs=[.ref a] /\ Ins H a CA (fA rl ru m n tl) /\ H rl=some (.lst xs) /\ Q (.int xs.length) H
noncomputable def ZCA (CR:Addr):Sp:=fun vs H Q _=>∃ (x dx g:Addr),vs=[.ref x,.ref g] /\ H x=some (.ins CR dx []) /\ ∀ H',(∀ b o,b≠x->H b=some o->H' b=some o)->Ins H' x CR (fR g)->Q .non H'
noncomputable def ZCv (CR:Addr) (r:V->List V->Hp->VK->Prop):Sp:=fun vs H Q _=>∃ (ru g:Addr) (x y:V),vs=[.ref ru,x,y] /\ Ins H ru CR (fR g) /\ (∃ o,H g=some (FZ o) /\ ∃ fd,o.data=.func fd) /\ r (.ref g) [x,y] H Q
noncomputable def ZCN (CA CR:Addr) (r:V->List V->Hp->VK->Prop):Sp:=fun vs H Q _=>∃ (a rl ru tl:Addr) (n p q:Int) (xs ts:List V) (x y:V),vs=[.ref a,.int p,.int q] /\ Ins H a CA (fA rl ru .non n tl) /\ H rl=some (.lst xs) /\ p≠q /\ 0 <= p /\ 0 <= q /\
 xs[(max p q).toNat]?=some x /\ xs[(min p q).toNat]?=some y /\ ZCv CR r [.ref ru,x,y] H (fun v H1=>∃ b,v=.bl b /\ Ins H1 a CA (fA rl ru .non n tl) /\ H1 tl=some (.lst ts) /\ ts.length <= 90000 /\
  ∀ t H2,H1 t=none->Ins H2 a CA (fA rl ru .non (n+1) tl)->H2 tl=some (.lst (ts++[.ref t]))->H2 t=some (.tup [.int (max p q),.int (min p q),.bl b])->(∀ c,c≠a->c≠tl->c≠t->H2 c=H1 c)->Q (.bl (if q < p then b else !b)) H2) E0
theorem fA_canon {rl ru tl:Addr} {m:V} {n:Int}:∀ f,(putF "told" (.ref tl) (putF "asked" (.int n) (putF "most" m (putF "rule" (.ref ru) (putF "row" (.ref rl) []))))).lookup f=(fA rl ru m n tl).lookup f:=fun f=>by
 simp only [ZAd,lkc]
theorem fA_asked {rl ru tl:Addr} {m:V} {n k:Int}:∀ f,(putF "asked" (.int k) (fA rl ru m n tl)).lookup f=(fA rl ru m k tl).lookup f:=fun f=>by
 rw [ZAd]
 by_cases h:f=("asked":Str)
 .subst h
  rw [if_pos rfl]
  exact (show List.lookup _ (fA rl ru m k tl)=some (.int k) by walk_at "lk").symm
 .simp only [lkc,h,if_false]
noncomputable def kat (ks:List Int) (p:Nat):Int:=(ks[p]?).getD 0
structure Told (H:Hp) (ks:List Int) (pr:List (Nat×Nat)) (ts:List V):Prop where
 len:ts.length=pr.length
 get:∀ (j p q:Nat),pr[j]?=some (p,q)->∃ t,ts[j]?=some (V.ref t) /\ H t=some (.tup [.int p,.int q,.bl (decide (kat ks p < kat ks q))])
theorem Told.keep {H H':Hp} {ks:List Int} {pr:List (Nat×Nat)} {ts:List V} (e:∀ t x,H t=some (.tup x)->H' t=some (.tup x)) (h:Told H ks pr ts):Told H' ks pr ts :=
 ⟨h.len,fun j p q B=>let ⟨t,a,b⟩:=h.get j p q B;⟨t,a,e _ _ b⟩⟩
theorem Told.snoc {H:Hp} {ks:List Int} {pr:List (Nat×Nat)} {ts:List V} {p q:Nat} {t:Addr} (h:Told H ks pr ts) (U:H t=some (.tup [.int p,.int q,.bl (decide (kat ks p < kat ks q))])):Told H ks (pr++[(p,q)]) (ts++[.ref t]):=by
 refine ⟨by rw [yAB,yAB,h.len];rfl,fun j p' O B=>?_⟩
 by_cases hl:j < pr.length
 .rw [yAY hl] at B
  obtain ⟨t',a,b⟩:=h.get j p' O B
  exact ⟨t',by rw [yAY (by rw [h.len];exact hl)];exact a,b⟩
 .have e:=(yAI.mp B).1
  rw [yAB] at e
  have J:j=pr.length:=by have:([(p,q)]:List (Nat×Nat)).length=1:=rfl;omega
  subst J
  rw [yBE (yAA _),yBF] at B
  cases B
  exact ⟨t,by rw [<- h.len,yBE (yAA _),yBF];rfl,U⟩
theorem ZDA {H H':Hp} {S:List Addr} {a C:Addr} {fl:List (Str×V)} (e:Fr S H H') (n:a∉S) (h:Ins H a C fl):Ins H' a C fl:=let ⟨dx,fs,h1,h2,h3⟩:=h.ex;⟨dx,fs,e _ _ n h1,h2,h3⟩
noncomputable def rTL (iname iq:Str) (ip:Arguments) (ib:List Stmt) (isc:Scope):V->List V->Hp->VK->Prop:=fun f vs H Q=>∃ (g x y lg:Addr) (k k' i j:Int) (ws:List V),f=.ref g /\ vs=[.ref x,.ref y] /\ Clo H g iname iq ip ib isc ["_law_written"] [.ref lg] /\ H x=some (.tup [.int k,.int i]) /\ H y=some (.tup [.int k',.int j]) /\ H lg=some (.lst ws) /\ ws.length <= 90000 /\
 ∀ t,H t=none->Q (.bl (decide (k < k'))) (upd (upd H t (.tup [.int i,.int j])) lg (.lst (ws++[.ref t])))
theorem rT_mono {iname iq:Str} {ip:Arguments} {ib:List Stmt} {isc:Scope} {f:V} {vs:List V} {H:Hp} {Q Q':VK} (m:∀ v H,Q v H->Q' v H) (h:rTL iname iq ip ib isc f vs H Q):rTL iname iq ip ib isc f vs H Q' :=
 let ⟨g,x,y,lg,k,k',i,j,ws,e1,e2,h1,h2,h3,h4,h5,q⟩:=h;⟨g,x,y,lg,k,k',i,j,ws,e1,e2,h1,h2,h3,h4,h5,fun t B=>m _ _ (q t B)⟩
noncomputable abbrev ZBH:V->List V->Hp->VK->Prop:=rTL "_law_ask" "_law_teller.<locals>._law_ask" (ZAO ZAH) (ZAN ZAH) (ZAC ZAH)
structure RowC where
 v:List V
 c:Nat
structure Prs (H:Hp) (qr:List (Nat×Nat)) (ws:List V):Prop where
 len:ws.length=qr.length
 get:∀ (j p q:Nat),qr[j]?=some (p,q)->∃ t,ws[j]?=some (V.ref t) /\ H t=some (.tup [.int p,.int q])
theorem Prs.keep {H H':Hp} {pr:List (Nat×Nat)} {ts:List V} (e:∀ t x,H t=some (.tup x)->H' t=some (.tup x)) (h:Prs H pr ts):Prs H' pr ts :=
 ⟨h.len,fun j p q B=>let ⟨t,a,b⟩:=h.get j p q B;⟨t,a,e _ _ b⟩⟩
theorem Prs.snoc {H:Hp} {pr:List (Nat×Nat)} {ts:List V} {p q:Nat} {t:Addr} (h:Prs H pr ts) (U:H t=some (.tup [.int p,.int q])):Prs H (pr++[(p,q)]) (ts++[.ref t]):=by
 refine ⟨by rw [yAB,yAB,h.len];rfl,fun j p' O B=>?_⟩
 by_cases hl:j < pr.length
 .rw [yAY hl] at B
  obtain ⟨t',a,b⟩:=h.get j p' O B
  exact ⟨t',by rw [yAY (by rw [h.len];exact hl)];exact a,b⟩
 .have e:=(yAI.mp B).1
  rw [yAB] at e
  have J:j=pr.length:=by have:([(p,q)]:List (Nat×Nat)).length=1:=rfl;omega
  subst J
  rw [yBE (yAA _),yBF] at B
  cases B
  exact ⟨t,by rw [<- h.len,yBE (yAA _),yBF];rfl,U⟩
structure Lgd (H:Hp) (c:Nat) (pr:List (Nat×Nat)) (ws:List V):Prop where
 hc:c <= pr.length
 prs:Prs H (pr.drop c) ws
theorem Lgd.keep {H H':Hp} {c:Nat} {pr:List (Nat×Nat)} {ts:List V} (e:∀ t x,H t=some (.tup x)->H' t=some (.tup x)) (h:Lgd H c pr ts):Lgd H' c pr ts:=⟨h.hc,h.prs.keep e⟩
theorem Lgd.snoc {H:Hp} {c:Nat} {pr:List (Nat×Nat)} {ts:List V} {p q:Nat} {t:Addr} (h:Lgd H c pr ts) (B:H t=some (.tup [.int p,.int q])):Lgd H c (pr++[(p,q)]) (ts++[.ref t]) :=
 ⟨by rw [yAB];have:=h.hc;omega,by rw [List.drop_append_of_le_length h.hc];exact h.prs.snoc B⟩
theorem Lgd.len {H:Hp} {c:Nat} {pr:List (Nat×Nat)} {ts:List V} (h:Lgd H c pr ts):ts.length <= pr.length:=by rw [h.prs.len,yBA];omega
structure SitL (CA CR:Addr) (H:Hp) (ks:List Int) (xs:RowC) (a rl ru tl g lg:Addr) (pr:List (Nat×Nat)):Prop where
 ha:Ins H a CA (fA rl ru .non pr.length tl)
 hrl:H rl=some (.lst xs.v)
 hru:Ins H ru CR (fR g)
 clo:Clo H g "_law_ask" "_law_teller.<locals>._law_ask" (ZAO ZAH) (ZAN ZAH) (ZAC ZAH) ["_law_written"] [.ref lg]
 len:xs.v.length=ks.length
 row:∀ (i:Nat) k,ks[i]?=some k->∃ r,xs.v[i]?=some (V.ref r) /\ H r=some (.tup [.int k,.int i])
 hlg:∃ ws,H lg=some (.lst ws) /\ Lgd H xs.c pr ws
 htl:∃ ts,H tl=some (.lst ts) /\ Told H ks pr ts
 ne:lg≠tl /\ rl∉[a,lg,tl] /\ ru≠a
section
variable {CA CR:Addr} {H H':Hp} {ks:List Int} {xs:RowC} {a rl ru tl g lg:Addr} {pr:List (Nat×Nat)}
theorem SitL.tupS (h:SitL CA CR H ks xs a rl ru tl g lg pr) {b:Addr} {o:HO} (B:H b=some o) (J:∀ x,o≠.lst x) (O:∀ C d f,o≠.ins C d f):b∉[a,lg,tl]:=by
 obtain ⟨U,hlg,_⟩:=h.hlg
 obtain ⟨ts,htl,_⟩:=h.htl
 intro z
 rcases yAE.mp z with z | z
 .exact h.ha.ne B O z
 rcases yAE.mp z with z | z
 .rw [z,hlg] at B;exact J _ (Option.some.inj B).symm
 .rw [yAO.mp z,htl] at B;exact J _ (Option.some.inj B).symm
theorem SitL.ruS (h:SitL CA CR H ks xs a rl ru tl g lg pr):ru∉[a,lg,tl]:=by
 obtain ⟨O,hlg,_⟩:=h.hlg
 obtain ⟨ts,htl,_⟩:=h.htl
 obtain ⟨J,f1,B,_⟩:=h.hru.ex
 intro z
 rcases yAE.mp z with z | z
 .exact h.ne.2.2 z
 rcases yAE.mp z with z | z
 .rw [z,hlg] at B;cases B
 .rw [yAO.mp z,htl] at B;cases B
theorem SitL.keep (h:SitL CA CR H ks xs a rl ru tl g lg pr) (e:Fr [a,lg,tl] H H') {pr':List (Nat×Nat)} {J B:List V} (h1:Ins H' a CA (fA rl ru .non pr'.length tl)) (h2:H' tl=some (.lst J)) (h3:Told H' ks pr' J) (Z:H' lg=some (.lst B)) (h5:Lgd H' xs.c pr' B):SitL CA CR H' ks xs a rl ru tl g lg pr' where
 ha:=h1
 hrl:=e _ _ h.ne.2.1 h.hrl
 hru:=ZDA e h.ruS h.hru
 clo:=h.clo.mono fun b o O=>e _ _ (h.tupS O (fun _ z=>by cases z) (fun _ _ _ z=>by cases z)) O
 len:=h.len
 row:=fun i k U=>let ⟨r,a1,a2⟩:=h.row i k U;⟨r,a1,e _ _ (h.tupS a2 (fun _ z=>by cases z) (fun _ _ _ z=>by cases z)) a2⟩
 hlg:=⟨_,Z,h5⟩
 htl:=⟨_,h2,h3⟩
 ne:=h.ne
theorem SitL.mono (h:SitL CA CR H ks xs a rl ru tl g lg pr) (e:Same H H'):SitL CA CR H' ks xs a rl ru tl g lg pr :=
 let ⟨_,h2,h3⟩:=h.htl;let ⟨_,h4,h5⟩:=h.hlg;h.keep e.fr (h.ha.mono e) (e _ _ h2) (h3.keep fun _ _ z=>e _ _ z) (e _ _ h4) (h5.keep fun _ _ z=>e _ _ z)
theorem SitL.ahead (h:SitL CA CR H ks xs a rl ru tl g lg pr) {p q:Nat} (ah:p≠q) (hp:p < ks.length) (hq:q < ks.length) (ag:pr.length <= 80000) {Q:VK}
  (fin:∀ H',Fr [a,lg,tl] H H'->SitL CA CR H' ks xs a rl ru tl g lg (pr++[(max p q,min p q)])->Q (.bl (if q < p then decide (kat ks p < kat ks q) else !decide (kat ks q < kat ks p))) H'):ZCN CA CR ZBH [.ref a,.int p,.int q] H Q E0:=by
 obtain ⟨ws,hlg,a5⟩:=h.hlg
 obtain ⟨ts,htl,a4⟩:=h.htl
 have a6:max p q < ks.length:=by omega
 have J:min p q < ks.length:=by omega
 obtain ⟨x,hx,tx⟩:=h.row (max p q) _ (yAJ a6)
 obtain ⟨y,hy,ty⟩:=h.row (min p q) _ (yAJ J)
 have ab:(max (p:Int) q).toNat=max p q:=by omega
 have a9:(min (p:Int) q).toNat=min p q:=by omega
 have kx:ks[max p q]=kat ks (max p q):=by unfold kat;rw [yAJ a6];rfl
 have af:ks[min p q]=kat ks (min p q):=by unfold kat;rw [yAJ J];rfl
 refine ⟨a,rl,ru,tl,pr.length,p,q,xs.v,ts,.ref x,.ref y,rfl,h.ha,h.hrl,by omega,by omega,by omega,by rw [ab];exact hx,by rw [a9];exact hy,?_⟩
 obtain ⟨cl,C⟩:=h.clo
 obtain ⟨d1,d2,d3,d4,ho,_⟩:=C.obj
 refine ⟨ru,g,.ref x,.ref y,rfl,h.hru,⟨_,ho,_,rfl⟩,?_⟩
 rw [kx] at tx
 rw [af] at ty
 refine ⟨g,x,y,lg,_,_,_,_,ws,rfl,rfl,h.clo,tx,ty,hlg,by have:=a5.len;omega,fun t ht=>?_⟩
 have U:t≠a:=h.ha.neN ht
 have a0:lg≠t:=ZAD hlg ht
 have a2:tl≠t:=ZAD htl ht
 have a7:lg≠tl:=h.ne.1
 have a3:lg≠a:=h.ha.ne hlg fun _ _ _ z=>by cases z
 refine ⟨_,rfl,h.ha.keep (by rw [ZAK (Ne.symm a3),ZAK (Ne.symm U)]),by rw [ZAK (Ne.symm a7),ZAK a2];exact htl,by rw [a4.len];omega,fun t2 H2 B aa O ae k2=>?_⟩
 have ad:t2≠lg:=fun z=>by rw [z,ZAG] at B;cases B
 have a8:t2≠t:=fun z=>by rw [z,ZAK (Ne.symm a0),ZAG] at B;cases B
 have fr:Fr [a,lg,tl] H H2:=fun b o n hb=>by
  have m1:b≠a:=fun z=>n (by rw [z];exact yAF)
  have m2:b≠lg:=fun z=>n (by rw [z];exact yAC _ yAF)
  have m3:b≠tl:=fun z=>n (by rw [z];exact yAC _ (yAC _ yAF))
  have e1:(upd (upd H t (.tup [.int ((max p q:Nat):Int),.int ((min p q:Nat):Int)])) lg (.lst (ws++[.ref t]))) b=some o:=by rw [ZAK m2,ZAK (ZAD hb ht)];exact hb
  rw [k2 b m1 m3 (ZAD e1 B)]
  exact e1
 have tk:∀ b x,H b=some (.tup x)->H2 b=some (.tup x):=fun b x hb=>fr _ _ (h.tupS hb (fun _ z=>by cases z) (fun _ _ _ z=>by cases z)) hb
 have Z:H2 lg=some (.lst (ws++[.ref t])):=by rw [k2 lg a3 a7 (Ne.symm ad),ZAG]
 have ac:H2 t=some (.tup [.int ((max p q:Nat):Int),.int ((min p q:Nat):Int)]):=by rw [k2 t U (Ne.symm a2) (Ne.symm a8),ZAK (Ne.symm a0),ZAG]
 have a1:H2 t2=some (.tup [.int ((max p q:Nat):Int),.int ((min p q:Nat):Int),.bl (decide (kat ks (max p q) < kat ks (min p q)))]):=by
  rw [show (((max p q:Nat):Int))=max (p:Int) q by omega,show (((min p q:Nat):Int))=min (p:Int) q by omega]
  exact ae
 have st:=h.keep fr (pr':=pr++[(max p q,min p q)]) (by rw [yAB];exact aa) O ((a4.keep tk).snoc a1) Z ((a5.keep tk).snoc ac)
 have g':=fin H2 fr st
 by_cases hlt:q < p
 .rw [if_pos hlt] at g'
  rw [if_pos (by omega),show max p q=p by omega,show min p q=q by omega]
  exact g'
 .rw [if_neg hlt] at g'
  rw [if_neg (by omega),show max p q=q by omega,show min p q=p by omega]
  exact g'
theorem SitL.newS (h:SitL CA CR H ks xs a rl ru tl g lg pr) {b:Addr} (B:H b=none):b∉[a,lg,tl]:=fun z=>by
 obtain ⟨J,h1,_⟩:=h.hlg
 obtain ⟨us,h2,_⟩:=h.htl
 rcases yAE.mp z with z | z
 .exact h.ha.neN B z
 rcases yAE.mp z with z | z
 .rw [z,h1] at B;cases B
 .rw [yAO.mp z,h2] at B;cases B
end
noncomputable def dec (ks:List Int) (i:Nat):Bool:=decide (kat ks i < kat ks (i-1))
noncomputable def Beyond (ks:List Int) (first stop j:Nat) (f:Bool):Prop :=
 (first+1=stop /\ j=stop /\ f=false)∨(first+1 < stop /\ f=dec ks (first+1) /\ first+1 < j /\ j <= stop /\ (∀ i,first+1 <= i->i < j->dec ks i=f) /\ (j < stop->dec ks j≠f))
noncomputable def asks (first e:Nat):List (Nat×Nat):=(List.range' (first+1) (e-(first+1))).map fun k=>(k,k-1)
theorem ZCg (first e:Nat):(asks first e).length=e-(first+1):=by unfold asks;rw [yAD,yCP]
theorem asks_snoc {first k:Nat} (h:first+1 <= k):asks first (k+1)=asks first k++[(k,k-1)]:=by
 unfold asks
 rw [show k+1-(first+1)=(k-(first+1))+1 by omega,List.range'_concat,yAU]
 congr 1
 show [(first+1+1 * (k-(first+1)),first+1+1 * (k-(first+1))-1)]=_
 rw [show first+1+1 * (k-(first+1))=k by omega]
theorem asks_none {first e:Nat} (h:e <= first+1):asks first e=[]:=by unfold asks;rw [show e-(first+1)=0 by omega];rfl
noncomputable def ZCi (CA CR:Addr):Sp:=fun vs H Q _=>∃ (ks:List Int) (xs:RowC) (a rl ru tl g lg:Addr) (pr:List (Nat×Nat)) (first stop:Nat) (e:V),vs=[.ref a,.int first,e] /\ SitL CA CR H ks xs a rl ru tl g lg pr /\ ((e=.non /\ stop=ks.length)∨e=.int stop) /\ first < stop /\ stop <= ks.length /\ ks.length <= 119 /\ pr.length <= 50000 /\
 ∀ H' t j f,Fr [a,lg,tl] H H'->H' t=some (.tup [.int (j:Nat),.bl f])->Beyond ks first stop j f->SitL CA CR H' ks xs a rl ru tl g lg (pr++asks first (min (j+1) stop))->Q (.ref t) H'
noncomputable def ZBz (first j:Nat) (f:Bool):List Nat:=if f=true then (List.range' first (j-first)).reverse else List.range' first (j-first)
theorem ZCU (first j:Nat) (f:Bool):(ZBz first j f).length=j-first:=by unfold ZBz;split <;> simp
theorem turnN_mem {first j:Nat} {f:Bool} {x:Nat}:x∈ZBz first j f↔first <= x /\ x < j:=by
 unfold ZBz
 split
 .rw [List.mem_reverse,List.mem_range'_1];omega
 .rw [List.mem_range'_1];omega
theorem turnN_up {first j i:Nat} (h:i < j-first):(ZBz first j false)[i]?=some (first+i):=by
 unfold ZBz
 rw [if_neg (by decide),List.getElem?_range' h,Nat.one_mul]
theorem turnN_down {first j i:Nat} (h:i < j-first):(ZBz first j true)[i]?=some (j-1-i):=by
 unfold ZBz
 rw [if_pos rfl,List.getElem?_reverse (by rw [yCP];exact h),yCP,List.getElem?_range' (by omega),Nat.one_mul]
 congr 1
 omega
noncomputable abbrev nL (l:List Nat):List V:=l.map fun (x:Nat)=>V.int (x:Int)
theorem rints_nat {lo hi:Nat}:(ZDF (lo:Int) (hi:Int)).map V.int=nL (List.range' lo (hi-lo)):=by
 refine yCL fun i=>?_
 unfold nL
 rw [yAT,yAT]
 by_cases h:i < hi-lo
 .rw [List.getElem?_range' h,rints_get (by omega)]
  show some (V.int ((lo:Int)+i))=some (V.int ((lo+1 * i:Nat):Int))
  congr 2
  omega
 .rw [yBM (by rw [ZB1];omega),yBM (by rw [yCP];omega)]
  rfl
noncomputable def ZDW:Sp:=fun vs H Q _=>∃ (first j:Nat) (f:Bool),vs=[.int first,.int j,.bl f] /\ first <= 1000 /\ j <= 1000 /\ ∀ l H',Same H H'->H l=none->H' l=some (.lst (nL (ZBz first j f)))->Q (.ref l) H'
noncomputable def lx (ks:List Int) (x y:Nat):Prop:=kat ks x < kat ks y∨(kat ks x=kat ks y /\ x < y)
inductive Halv (ks:List Int) (os:List Nat) (pl:Nat):Nat->Nat->Nat->List (Nat×Nat)->Prop
 | done {low high:Nat}:¬ low < high->Halv ks os pl low high low []
 | less {low high r o:Nat} {l:List (Nat×Nat)}:low < high->os[(low+high) / 2]?=some o->kat ks pl < kat ks o->Halv ks os pl low ((low+high) / 2) r l->Halv ks os pl low high r ((pl,o)::l)
 | more {low high r o:Nat} {l:List (Nat×Nat)}:low < high->os[(low+high) / 2]?=some o->¬ kat ks pl < kat ks o->Halv ks os pl ((low+high) / 2+1) high r l->Halv ks os pl low high r ((pl,o)::l)
theorem Halv.bounds {ks:List Int} {os:List Nat} {pl low high r:Nat} {l:List (Nat×Nat)} (h:Halv ks os pl low high r l):low <= high->low <= r /\ r <= high:=by
 induction h with
 | done n=>intro h;omega
 | less a _ _ _ ih=>intro _;have:=ih (by omega);omega
 | more a _ _ _ ih=>intro _;have:=ih (by omega);omega
theorem Halv.len {ks:List Int} {os:List Nat} {pl low high r:Nat} {l:List (Nat×Nat)} (h:Halv ks os pl low high r l):l.length <= high-low:=by
 induction h with
 | done n=>simp
 | less a _ _ _ ih=>rw [yAH];omega
 | more a _ _ _ ih=>rw [yAH];omega
theorem Halv.asked {ks:List Int} {os:List Nat} {pl low high r:Nat} {l:List (Nat×Nat)} (h:Halv ks os pl low high r l):low <= high ->
  (∀ x,low < r->os[r-1]?=some x->(pl,x)∈l) /\ (∀ x,r < high->os[r]?=some x->(pl,x)∈l):=by
 induction h with
 | done n=>intro h;exact ⟨fun x z=>by omega,fun x z=>by omega⟩
 | @less low high r o l a b c d ih=>
  intro _
  have O:=d.bounds (by omega)
  obtain ⟨B,J⟩:=ih (by omega)
  refine ⟨fun x z e=>yAC _ (B x z e),fun x z e=>?_⟩
  by_cases hr:r < (low+high) / 2
  .exact yAC _ (J x hr e)
  .have:r=(low+high) / 2:=by omega
   rw [this,b] at e
   cases e
   exact yAF
 | @more low high r o l a b c d ih=>
  intro _
  have O:=d.bounds (by omega)
  obtain ⟨B,J⟩:=ih (by omega)
  refine ⟨fun x z e=>?_,fun x z e=>yAC _ (J x z e)⟩
  by_cases hr:(low+high) / 2+1 < r
  .exact yAC _ (B x hr e)
  .have:r-1=(low+high) / 2:=by omega
   rw [this,b] at e
   cases e
   exact yAF
theorem Halv.each {ks:List Int} {os:List Nat} {pl low high r:Nat} {l:List (Nat×Nat)} (h:Halv ks os pl low high r l):∀ c∈l,c.1=pl /\ c.2∈os:=by
 induction h with
 | done n=>intro c h;cases h
 | less a b _ _ ih=>
  intro c h
  rcases yAE.mp h with z | z
  .rw [z];exact ⟨rfl,yAQ b⟩
  .exact ih c z
 | more a b _ _ ih=>
  intro c h
  rcases yAE.mp h with z | z
  .rw [z];exact ⟨rfl,yAQ b⟩
  .exact ih c z
theorem ZCb {ks:List Int} {x y z:Nat} (a:lx ks x y) (b:lx ks y z):lx ks x z:=by unfold lx at *;omega
theorem ZDL {ks:List Int} {os:List Nat} (h:os.Pairwise (lx ks)) {i j x y:Nat} (B:i < j) (O:os[i]?=some x) (U:os[j]?=some y):lx ks x y:=by
 obtain ⟨h1,J⟩:=yAI.mp O
 obtain ⟨h2,Z⟩:=yAI.mp U
 have:=yCB.mp h i j h1 h2 B
 rw [J,Z] at this
 exact this
theorem Halv.spot {ks:List Int} {os:List Nat} {pl low high r:Nat} {l:List (Nat×Nat)} (hs:os.Pairwise (lx ks)) (h:Halv ks os pl low high r l):low <= high ->
  (∀ i x,low <= i->i < r->os[i]?=some x->¬ kat ks pl < kat ks x) /\ (∀ i x,r <= i->i < high->os[i]?=some x->kat ks pl < kat ks x):=by
 induction h with
 | done n=>intro h;exact ⟨fun i x B J=>by omega,fun i x B J=>by omega⟩
 | @less low high r o l a b c d ih=>
  intro _
  have Z:=d.bounds (by omega)
  obtain ⟨O,U⟩:=ih (by omega)
  refine ⟨O,fun i x B J e=>?_⟩
  by_cases hr:i < (low+high) / 2
  .exact U i x B hr e
  .by_cases hi:i=(low+high) / 2
   .rw [hi,b] at e;cases e;exact c
   .have:=ZDL hs (show (low+high) / 2 < i by omega) b e
    unfold lx at this
    omega
 | @more low high r o l a b c d ih=>
  intro _
  have Z:=d.bounds (by omega)
  obtain ⟨O,U⟩:=ih (by omega)
  refine ⟨fun i x B J e=>?_,U⟩
  by_cases hr:(low+high) / 2 < i
  .exact O i x hr J e
  .by_cases hi:i=(low+high) / 2
   .rw [hi,b] at e;cases e;exact c
   .have:=ZDL hs (show i < (low+high) / 2 by omega) e b
    unfold lx at this
    omega
noncomputable def insN (os:List Nat) (r pl:Nat):List Nat:=os.take r++pl::os.drop r
theorem ZDd {os:List Nat} {r pl:Nat}:(insN os r pl).length=os.length+1:=by
 unfold insN
 rw [yAB,yAH,yAP,yBA]
 omega
theorem insN_mem {os:List Nat} {r pl x:Nat}:x∈insN os r pl↔x=pl∨x∈os:=by
 unfold insN
 rw [yAZ,yAE]
 have:x∈os↔x∈os.take r∨x∈os.drop r:=by rw [<- yAZ,yBO]
 rw [this]
 exact ⟨fun h=>h.elim (fun z=>.inr (.inl z)) (fun z=>z.elim .inl fun z=>.inr (.inr z)),fun h=>h.elim (fun z=>.inr (.inl z)) fun z=>z.elim .inl fun z=>.inr (.inr z)⟩
theorem insN_sorted {ks:List Int} {os:List Nat} {pl r:Nat} {l:List (Nat×Nat)} (hs:os.Pairwise (lx ks)) (U:∀ x∈os,x < pl) (h:Halv ks os pl 0 os.length r l):(insN os r pl).Pairwise (lx ks):=by
 obtain ⟨s1,s2⟩:=h.spot hs (yAG _)
 have hb:=h.bounds (yAG _)
 have O:(os.take r++os.drop r).Pairwise (lx ks):=by rw [yBO];exact hs
 obtain ⟨p1,p2,p3⟩:=yBK.mp O
 have ha:∀ x∈os.take r,lx ks x pl:=fun x J=>by
  obtain ⟨i,hi⟩:=yBI J
  have B:i < r:=by
   have:=(yAI.mp hi).1
   rw [yAP] at this
   omega
  rw [yBY B] at hi
  have z1:=s1 i x (yAG _) B hi
  have z2:=U x (yAQ hi)
  unfold lx
  omega
 have hd:∀ y∈os.drop r,lx ks pl y:=fun y Z=>by
  obtain ⟨i,hi⟩:=yBI Z
  rw [yBZ] at hi
  exact .inl (s2 (r+i) y (by omega) (yAI.mp hi).1 hi)
 unfold insN
 refine yBK.mpr ⟨p1,yCJ.mpr ⟨hd,p2⟩,fun x J y Z=>?_⟩
 rcases yAE.mp Z with z | z
 .rw [z];exact ha x J
 .exact p3 x J y z
noncomputable def Adj (os:List Nat) (pr:List (Nat×Nat)):Prop:=∀ (i x y:Nat),os[i]?=some x->os[i+1]?=some y->(max x y,min x y)∈pr
theorem insN_get {os:List Nat} {r pl i:Nat} (B:r <= os.length):(insN os r pl)[i]?=if i < r then os[i]? else if i=r then some pl else os[i-1]?:=by
 unfold insN
 by_cases h:i < r
 .rw [if_pos h,yAY (by rw [yAP];omega),yBY h]
 .rw [if_neg h,yBE (by rw [yAP];omega),yAP,yBW B]
  by_cases e:i=r
  .rw [if_pos e,e,yBF];rfl
  .rw [if_neg e,show i-r=(i-r-1)+1 by omega,List.getElem?_cons_succ,yBZ]
   congr 1
   omega
theorem insN_adj {ks:List Int} {os:List Nat} {pr:List (Nat×Nat)} {pl r:Nat} {l:List (Nat×Nat)} (O:∀ x∈os,x < pl) (h:Halv ks os pl 0 os.length r l) (ha:Adj os pr):Adj (insN os r pl) (pr++l):=by
 have Z:=h.bounds (yAG _)
 obtain ⟨U,a2⟩:=h.asked (yAG _)
 intro i x y J B
 rw [insN_get Z.2] at J B
 by_cases h1:i+1 < r
 .rw [if_pos (by omega)] at J
  rw [if_pos h1] at B
  exact yBU _ (ha i x y J B)
 rw [if_neg h1] at B
 by_cases h2:i+1=r
 .rw [if_pos (by omega)] at J
  rw [if_pos h2] at B
  cases B
  have:=O x (yAQ J)
  rw [show max x pl=pl by omega,show min x pl=x by omega]
  exact yAX _ (U x (by omega) (by rw [show r-1=i by omega];exact J))
 rw [if_neg h2] at B
 rw [if_neg (by omega)] at J
 rw [show i+1-1=i by omega] at B
 by_cases h3:i=r
 .rw [if_pos h3] at J
  cases J
  have:=O y (yAQ B)
  rw [show max pl y=pl by omega,show min pl y=y by omega]
  rw [h3] at B
  exact yAX _ (a2 y (yAI.mp B).1 B)
 .rw [if_neg h3] at J
  refine yBU _ (ha (i-1) x y J (by rw [show i-1+1=i by omega];exact B))
inductive Put (ks:List Int):List Nat->Nat->Nat->List Nat->List (Nat×Nat)->Prop
 | nil {os:List Nat} {p e:Nat}:¬ p < e->Put ks os p e os []
 | cons {os os':List Nat} {p e r:Nat} {l l':List (Nat×Nat)}:p < e->Halv ks os p 0 os.length r l->Put ks (insN os r p) (p+1) e os' l'->Put ks os p e os' (l++l')
structure OrdN (ks:List Int) (first place:Nat) (os:List Nat):Prop where
 len:os.length=place-first
 mem:∀ x,x∈os↔first <= x /\ x < place
 srt:os.Pairwise (lx ks)
theorem OrdN.ins {ks:List Int} {first B:Nat} {os:List Nat} {r:Nat} {l:List (Nat×Nat)} (O:first <= B) (o:OrdN ks first B os) (h:Halv ks os B 0 os.length r l):OrdN ks first (B+1) (insN os r B) :=
 ⟨by rw [ZDd,o.len];omega,fun x=>by rw [insN_mem,o.mem];omega,insN_sorted o.srt (fun x J=>((o.mem x).mp J).2) h⟩
theorem Beyond.adj {ks:List Int} {first stop j:Nat} {f:Bool} (h:Beyond ks first stop j f):∀ (i x y:Nat),(ZBz first j f)[i]?=some x->(ZBz first j f)[i+1]?=some y->lx ks x y /\ (max x y,min x y)∈asks first (min (j+1) stop):=by
 intro i x y O B
 have U:=(yAI.mp B).1
 rw [ZCU] at U
 have hj:j <= stop:=by rcases h with ⟨z1,z2,_⟩ | ⟨_,_,z1,z2,_⟩ <;> omega
 have Z:∀ i,first+1 <= i->i < j->dec ks i=f:=by
  rcases h with ⟨a,b,_⟩ | ⟨_,_,_,_,e,_⟩
  .intro i h1 h2;omega
  .exact e
 have ha:∀ k,first+1 <= k->k < j->(k,k-1)∈asks first (min (j+1) stop):=fun k h1 h2=>by
  unfold asks
  exact yBR.mpr ⟨k,List.mem_range'_1.mpr (by omega),rfl⟩
 cases f with
 | false=>
  rw [turnN_up (by omega)] at O
  rw [turnN_up (by omega)] at B
  cases O
  cases B
  have z:=Z (first+i+1) (by omega) (by omega)
  have J:=of_decide_eq_false z
  rw [show first+i+1-1=first+i by omega] at J
  have m:=ha (first+i+1) (by omega) (by omega)
  rw [show first+i+1-1=first+i by omega] at m
  rw [show first+(i+1)=first+i+1 by omega,show max (first+i) (first+i+1)=first+i+1 by omega,show min (first+i) (first+i+1)=first+i by omega]
  refine ⟨?_,m⟩
  unfold lx
  omega
 | true=>
  rw [turnN_down (by omega)] at O
  rw [turnN_down (by omega)] at B
  cases O
  cases B
  have z:=Z (j-1-i) (by omega) (by omega)
  have J:=of_decide_eq_true z
  have m:=ha (j-1-i) (by omega) (by omega)
  rw [show j-1-i-1=j-1-(i+1) by omega] at J m
  rw [show max (j-1-i) (j-1-(i+1))=j-1-i by omega,show min (j-1-i) (j-1-(i+1))=j-1-(i+1) by omega]
  exact ⟨.inl J,m⟩
theorem pw_of_adj {ks:List Int}:∀ {os:List Nat},(∀ (i x y:Nat),os[i]?=some x->os[i+1]?=some y->lx ks x y)->os.Pairwise (lx ks)
 | [],_=>.nil
 | [x],_=>List.pairwise_singleton _ _
 | x::y::r,h=>by
  have J:=pw_of_adj (ks:=ks) (os:=y::r) fun i a b ha U=>h (i+1) a b ha U
  have B:=h 0 x y rfl rfl
  refine yCJ.mpr ⟨fun z O=>?_,J⟩
  rcases yAE.mp O with e | e
  .rw [e];exact B
  .exact ZCb B ((yCJ.mp J).1 z e)
theorem Beyond.ord {ks:List Int} {first stop j:Nat} {f:Bool} (h:Beyond ks first stop j f):OrdN ks first j (ZBz first j f) :=
 ⟨ZCU _ _ _,fun _=>turnN_mem,pw_of_adj fun i x y B J=>(h.adj i x y B J).1⟩
theorem ZDc {a lg tl b:Addr} (J:b≠a) (O:b≠lg) (B:b≠tl):b∉[a,lg,tl]:=fun z=>by
 rcases yAE.mp z with z | z
 .exact J z
 rcases yAE.mp z with z | z
 .exact O z
 .exact B (yAO.mp z)
theorem SitL.upd {CA CR:Addr} {H:Hp} {ks:List Int} {xs:RowC} {a rl ru tl g lg:Addr} {pr:List (Nat×Nat)} (h:SitL CA CR H ks xs a rl ru tl g lg pr) {l:Addr} {us B:List V} (hl:H l=some (.lst us)) (n:rl≠l /\ lg≠l /\ tl≠l):SitL CA CR (upd H l (.lst B)) ks xs a rl ru tl g lg pr:=by
 have k:∀ t o,H t=some o->(∀ x,o≠.lst x)->L2.upd H l (.lst B) t=some o:=fun t o z no=>by
  rw [ZAK (fun e=>by rw [e,hl] at z;exact no _ (Option.some.inj z).symm)];exact z
 have U:l≠a:=h.ha.ne hl fun _ _ _ z=>by cases z
 refine ⟨h.ha.keep (ZAK (Ne.symm U)),by rw [ZAK n.1];exact h.hrl,?_,?_,h.len,fun i c hk=>?_,?_,?_,h.ne⟩
 .obtain ⟨d1,f1,Z,e2,e3⟩:=h.hru.ex
  exact ⟨d1,f1,k _ _ Z (fun _ z=>by cases z),e2,e3⟩
 .exact h.clo.mono fun b o hb=>k _ _ hb (fun _ z=>by cases z)
 .obtain ⟨r,J,O⟩:=h.row i c hk
  exact ⟨r,J,k _ _ O (fun _ z=>by cases z)⟩
 .obtain ⟨ts,J,O⟩:=h.hlg
  exact ⟨ts,by rw [ZAK n.2.1];exact J,O.keep fun t x z=>k _ _ z (fun _ z=>by cases z)⟩
 .obtain ⟨ts,J,O⟩:=h.htl
  exact ⟨ts,by rw [ZAK n.2.2];exact J,O.keep fun t x z=>k _ _ z (fun _ z=>by cases z)⟩
noncomputable def ZDR (CA CR:Addr):Sp:=fun vs H Q _=>∃ (ks:List Int) (xs:RowC) (a rl ru tl g lg ol:Addr) (pr:List (Nat×Nat)) (os:List Nat) (pl:Nat),vs=[.ref a,.ref ol,.int pl] /\ SitL CA CR H ks xs a rl ru tl g lg pr /\ H ol=some (.lst (nL os)) /\ ol∉[a,lg,tl] /\ os.length <= 500 /\ (∀ x∈os,x < pl) /\ pl < ks.length /\ pr.length <= 70000 /\
 ∀ H' r l,Fr [a,lg,tl] H H'->Halv ks os pl 0 os.length r l->SitL CA CR H' ks xs a rl ru tl g lg (pr++l)->Q (.int (r:Nat)) H'
theorem ZDD {os:List Nat} {m o:Nat} (h:os[m]?=some o):atI (nL os) (m:Int)=some (.int o):=ZAY (by omega) (by rw [Int.toNat_natCast,yAT,h];rfl)
noncomputable def ZDY (CA CR:Addr):Sp:=fun vs H Q _=>∃ (ks:List Int) (xs:RowC) (a rl ru tl g lg:Addr) (pr:List (Nat×Nat)) (first least stop:Nat) (e:V),vs=[.ref a,.int first,.int least,e] /\ SitL CA CR H ks xs a rl ru tl g lg pr /\ pr.length <= 20000 /\ ((e=.non /\ stop=ks.length)∨e=.int stop) /\ first < stop /\ stop <= ks.length /\ ks.length <= 119 /\ least <= 500 /\
 ∀ H' t ol j f os l,Fr [a,lg,tl] H H'->H ol=none->ol∉[a,lg,tl]->H' t=some (.tup [.int (j:Nat),.ref ol])->H' ol=some (.lst (nL os))->Beyond ks first stop j f->Put ks (ZBz first j f) j (min (first+least) stop) os l->SitL CA CR H' ks xs a rl ru tl g lg (pr++(asks first (min (j+1) stop)++l))->Q (.ref t) H'
theorem insV_nL {os:List Nat} {r pl:Nat} (h:r <= os.length):insV (nL os) (r:Int) (.int pl)=nL (insN os r pl):=by
 unfold insV insN nL
 dsimp only
 rw [if_neg (by omega),Int.toNat_natCast,yAD,yBW h,yAU,yBD,List.map_take,List.map_drop]
theorem Put.few {ks:List Int} {os os':List Nat} {p e:Nat} {l:List (Nat×Nat)} (h:Put ks os p e os' l):l.length <= (e-p) * (os.length+(e-p)):=by
 induction h with
 | nil n=>simp
 | @cons os os' p e r l l' a b c ih=>
  have B:=b.len
  rw [ZDd,show os.length+1+(e-(p+1))=os.length+(e-p) by omega] at ih
  rw [yAB,show e-p=(e-(p+1))+1 by omega,Nat.add_mul,Nat.one_mul]
  rw [show os.length+(e-(p+1)+1)=os.length+(e-p) by omega]
  omega
theorem Put.all {ks:List Int} {first p e:Nat} {os os':List Nat} {l:List (Nat×Nat)} (h:Put ks os p e os' l):∀ pr,first <= p->OrdN ks first p os->Adj os pr->OrdN ks first (max p e) os' /\ Adj os' (pr++l) /\ ∀ c∈l,c.2 < c.1:=by
 induction h with
 | nil n=>intro pr Z J ha;exact ⟨by rw [show max _ _=_ from Nat.max_eq_left (Nat.not_lt.mp n)];exact J,by rw [yBC];exact ha,fun c h=>by cases h⟩
 | @cons os os' p e r l l' a b c ih=>
  intro pr Z J ha
  have B:∀ x∈os,x < p:=fun x O=>((J.mem x).mp O).2
  obtain ⟨U,i2,i3⟩:=ih (pr++l) (by omega) (J.ins Z b) (insN_adj B b ha)
  rw [show max (p+1) e=max p e by omega] at U
  refine ⟨U,by rw [<- yAK];exact i2,fun x O=>?_⟩
  rcases yAZ.mp O with z | z
  .obtain ⟨z1,z2⟩:=b.each x z
   rw [z1]
   exact B _ z2
  .exact i3 x z
theorem once0 {M G:Prop} (h:M->G) (t:M):G:=h t
theorem ZDG {B:Type} {M:B->Prop} (P:B->Prop) {G:Prop} (h:(∀ z,P z->M z)->G) (t:∀ z,P z->M z):G:=h t
theorem lx_asym {ks:List Int} {x y:Nat} (a:lx ks x y):¬ lx ks y x:=by unfold lx at *;omega
theorem lx_tot {ks:List Int} {x y:Nat} (a:x≠y) (b:¬ lx ks x y):lx ks y x:=by unfold lx at *;omega
noncomputable instance (ks:List Int) (x y:Nat):Decidable (lx ks x y):=by unfold lx;exact inferInstance
theorem ZDk {ks:List Int} {o pl:Nat} (h:o≠pl):(if pl < o then decide (kat ks o < kat ks pl) else !decide (kat ks pl < kat ks o))=decide (lx ks o pl):=by
 by_cases z:pl < o
 .rw [if_pos z]
  by_cases e:kat ks o < kat ks pl
  .rw [decide_eq_true e];exact (decide_eq_true (by unfold lx;omega)).symm
  .rw [decide_eq_false e];exact (decide_eq_false (by unfold lx;omega)).symm
 .rw [if_neg z]
  by_cases e:kat ks pl < kat ks o
  .rw [decide_eq_true e];exact (decide_eq_false (by unfold lx;omega)).symm
  .rw [decide_eq_false e];exact (decide_eq_true (by unfold lx;omega)).symm
theorem ZEv {α B:Type} {M:α->B->Prop} (P:α->B->Prop) {G:Prop} (h:(∀ x y,P x y->M x y)->G) (t:∀ x y,P x y->M x y):G:=h t
theorem once4 {α β γ δ:Type} {M:α->β->γ->δ->Prop} (P:α->β->γ->δ->Prop) {G:Prop} (h:(∀ x y z u,P x y z u->M x y z u)->G) (t:∀ x y z u,P x y z u->M x y z u):G:=h t
noncomputable def Things (H:Hp) (ks:List Int) (xs:List V):Prop:=xs.length=ks.length /\ ∀ (i:Nat) k,ks[i]?=some k->∃ r,xs[i]?=some (V.ref r) /\ H r=some (.tup [.int k,.int i])
theorem Things.mono {H H':Hp} {ks:List Int} {xs:List V} (h:Things H ks xs) (e:∀ b o,H b=some o->(∀ t,o≠.tbl t)->(∀ l,o≠.lst l)->H' b=some o):Things H' ks xs:=⟨h.1,fun i k B=>let ⟨r,a1,a2⟩:=h.2 i k B;⟨r,a1,e _ _ a2 (fun _ z=>by cases z) (fun _ z=>by cases z)⟩⟩
theorem insV_ints (rs:List Int) (i y:Int):∃ us:List Int,insV (rs.map V.int) i (.int y)=us.map V.int /\ us.length=rs.length+1:=by
 unfold insV
 dsimp only
 generalize (if i < 0 then (i+((rs.map V.int).length:Int)).toNat else min i.toNat (rs.map V.int).length)=k
 refine ⟨rs.take k++y::rs.drop k,by rw [yAU,yBD,List.map_take,List.map_drop],?_⟩
 rw [yAB,yAH,yAP,yBA]
 omega
theorem er_map {α B:Type} (f:α->B) (l:List α) (k:Nat):(l.map f).eraseIdx k=(l.eraseIdx k).map f:=by
 rw [List.eraseIdx_eq_take_drop_succ,List.eraseIdx_eq_take_drop_succ,yAU,List.map_take,List.map_drop]
noncomputable def ZE7:Sp:=fun vs H Q _=>∃ (a:Addr) (c1 c2:Int) (ks:List Int),vs=[.ref a,.int c1,.int c2] /\ H a=some (.lst (ks.map V.int)) /\ ks.length <= 63 /\ ∀ l H' (rs:List Int),Same H H'->H l=none->H' l=some (.lst (rs.map V.int))->rs.length <= 63->Q (.ref l) H'
noncomputable def ZDU (K:W.Frag):Sp:=fun vs H Q _=>∃ (a:Addr) (ns:List Int) (m:Int),vs=[.ref a,.int m,.int 63] /\ SqL K H a (ns.map V.int) /\ ns.length <= 63 /\ 0 < m /\ m <= 10 ^ 60 /\ ∀ l H' (rs:List Int),Same H H'->H l=none->H' l=some (.lst (rs.map V.int))->rs.length <= 63->Q (.ref l) H'
noncomputable def ZDz (K:W.Frag):Sp:=fun vs H Q _=>∃ (a:Addr) (ns:List Int),vs=[.ref a] /\ SqL K H a (ns.map V.int) /\ ns.length <= 63 /\ ∀ l H' ks xs,Same H H'->H l=none->H' l=some (.lst xs)->ks.length <= 63->Things H' ks xs->Q (.ref l) H'
inductive Bin (z:Nat):Nat->Nat->List Nat->Prop
 | done {i:Nat}:Bin z i i []
 | more {lo hi:Nat} {l:List Nat}:lo < hi->(lo+hi-1) / 2 < z->Bin z ((lo+hi-1) / 2+1) hi l->Bin z lo hi ((lo+hi-1) / 2::l)
 | less {lo hi:Nat} {l:List Nat}:lo < hi->z <= (lo+hi-1) / 2->Bin z lo ((lo+hi-1) / 2) l->Bin z lo hi ((lo+hi-1) / 2::l)
inductive Gal (z n f:Nat):Nat->Nat->List Nat->Prop
 | out {lo far:Nat} {l:List Nat}:n <= far->Bin z lo n l->Gal z n f lo far l
 | stop {lo far:Nat} {l:List Nat}:far < n->z <= far->Bin z lo far l->Gal z n f lo far (far::l)
 | more {lo far:Nat} {l:List Nat}:far < n->far < z->Gal z n f (far+1) (2 * far-f+1) l->Gal z n f lo far (far::l)
theorem Bin.len {z lo hi:Nat} {l:List Nat} (h:Bin z lo hi l):l.length <= hi-lo:=by
 induction h with
 | done=>simp
 | more a b c ih=>rw [yAH];omega
 | less a b c ih=>rw [yAH];omega
theorem Bin.bits {z lo hi:Nat} {l:List Nat} (h:Bin z lo hi l):∀ k,hi-lo < 2 ^ k->l.length <= k:=by
 induction h with
 | done=>intro k _;simp
 | @more lo hi l a b c ih=>
  intro k B
  cases k with
  | zero=>rw [Nat.pow_zero] at B;omega
  | succ k=>
   rw [yBS] at B
   rw [yAH]
   have:=ih k (by omega)
   omega
 | @less lo hi l a b c ih=>
  intro k B
  cases k with
  | zero=>rw [Nat.pow_zero] at B;omega
  | succ k=>
   rw [yBS] at B
   rw [yAH]
   have:=ih k (by omega)
   omega
theorem ZCc (j:Nat):2 ^ (j+1) / 2=2 ^ j:=by rw [yBS];omega
theorem lt_two_pow' (j:Nat):j+1 <= 2 ^ j:=Nat.lt_two_pow_self
theorem Gal.all {z n f lo far:Nat} {l:List Nat} (h:Gal z n f lo far l):∀ j:Nat,lo=f+2 ^ j / 2->far+1=f+2 ^ j->f <= n->lo <= n->z=n->l.length+j <= n-f:=by
 induction h with
 | @out lo far l a c=>
  intro j B J h1 h2 h3
  have:=c.len
  cases j with
  | zero=>rw [Nat.pow_zero] at B;omega
  | succ j=>
   rw [ZCc] at B
   have:=lt_two_pow' j
   omega
 | @stop lo far l a c d=>intro j B J h1 h2 h3;omega
 | @more lo far l a c d ih=>
  intro j B J h1 h2 h3
  have O:=yCQ (n:=j)
  have:=ih (j+1) (by rw [ZCc];omega) (by rw [yBS];omega) h1 (by omega) h3
  rw [yAH]
  omega
theorem Gal.range {z n f lo far:Nat} {l:List Nat} (h:Gal z n f lo far l):f <= lo->lo <= n->f <= far->∀ i∈l,f <= i /\ i < n:=by
 have B:∀ {z lo hi:Nat} {l:List Nat},Bin z lo hi l->f <= lo->hi <= n->∀ i∈l,f <= i /\ i < n:=by
  intro z lo hi l h
  induction h with
  | done=>intro _ _ i hi;cases hi
  | more a b c ih=>
   intro h1 h2 i hi
   rcases yAE.mp hi with e | e
   .omega
   .exact ih (by omega) h2 i e
  | less a b c ih=>
   intro h1 h2 i hi
   rcases yAE.mp hi with e | e
   .omega
   .exact ih h1 (by omega) i e
 induction h with
 | out a b=>intro h1 h2 h3;exact B b h1 (yAA _)
 | stop a b c=>
  intro h1 h2 h3 i hi
  rcases yAE.mp hi with e | e
  .omega
  .exact B c h1 (by omega) i e
 | more a b c ih=>
  intro h1 h2 h3 i hi
  rcases yAE.mp hi with e | e
  .omega
  .exact ih (by omega) (by omega) (by omega) i e
noncomputable def ask1 (os:List Nat) (pl i:Nat):Nat×Nat:=(max ((os[i]?).getD 0) pl,min ((os[i]?).getD 0) pl)
noncomputable def ZEZ (CA CR:Addr):Sp:=fun vs H Q _=>∃ (ks:List Int) (xs:RowC) (a rl ru tl g lg ol:Addr) (pr:List (Nat×Nat)) (os:List Nat) (f pl z:Nat),vs=[.ref a,.ref ol,.int f,.int pl] /\ SitL CA CR H ks xs a rl ru tl g lg pr /\ H ol=some (.lst (nL os)) /\ ol∉[a,lg,tl] /\ os.length <= 500 /\ (∀ x∈os,x < ks.length /\ x≠pl) /\ pl < ks.length /\ pr.length <= 70000 /\ f <= z /\ z <= os.length /\ (∀ i x,f <= i->os[i]?=some x->(lx ks x pl↔i < z)) /\
 ∀ H' L,Fr [a,lg,tl] H H'->Gal z os.length f f f L->SitL CA CR H' ks xs a rl ru tl g lg (pr++L.map (ask1 os pl))->Q (.int (z-f:Nat)) H'
structure LIn1 (CA CR:Addr) (ks:List Int) (xs:RowC) (a rl ru tl g lg:Addr) (pr:List (Nat×Nat)) (os:List Nat) (f pl z:Nat) (H:Hp) (lo far:Nat) (dn:List Nat) (H':Hp):Prop where
 h1:f <= lo
 h2:lo <= z
 h3:lo <= far
 h4:dn.length+f <= lo
 fr:Fr [a,lg,tl] H H'
 st:SitL CA CR H' ks xs a rl ru tl g lg (pr++dn.map (ask1 os pl))
 hg:∀ L,Gal z os.length f lo far L->Gal z os.length f f f (dn++L)
structure LIn2 (CA CR:Addr) (ks:List Int) (xs:RowC) (a rl ru tl g lg:Addr) (pr:List (Nat×Nat)) (os:List Nat) (f pl z:Nat) (H:Hp) (lo hi:Nat) (dn:List Nat) (H':Hp):Prop where
 h1:f <= lo
 h2:lo <= z
 h3:z <= hi
 h4:hi <= os.length
 h5:dn.length+(hi-lo) <= 2 * os.length+1
 fr:Fr [a,lg,tl] H H'
 st:SitL CA CR H' ks xs a rl ru tl g lg (pr++dn.map (ask1 os pl))
 hg:∀ L,Bin z lo hi L->Gal z os.length f f f (dn++L)
noncomputable def nw (w:Nat) (s:Bool):Nat:=if s then w+1 else 1
inductive JT (ks:List Int):List Nat->List Nat->Nat->Nat->Nat->Bool->List Nat->List (Nat×Nat)->Prop
 | done {ls rs:List Nat} {i j w:Nat} {s:Bool}:¬ (i < ls.length /\ j < rs.length)->JT ks ls rs i j w s (ls.drop i++rs.drop j) []
 | step {ls rs ps:List Nat} {i j w x y:Nat} {s:Bool} {L:List (Nat×Nat)}:ls[i]?=some x->rs[j]?=some y->lx ks x y->nw w s≠4->JT ks ls rs (i+1) j (nw w s) true ps L->JT ks ls rs i j w s (x::ps) ((max x y,min x y)::L)
 | leap {ls rs ps G:List Nat} {i j w x y z:Nat} {s:Bool} {L:List (Nat×Nat)}:ls[i]?=some x->rs[j]?=some y->lx ks x y->nw w s=4->i+1 <= z->z < ls.length->(∀ k u,i+1 <= k->ls[k]?=some u->(lx ks u y↔k < z))->Gal z ls.length (i+1) (i+1) (i+1) G->JT ks ls rs z (j+1) 0 true ps L->JT ks ls rs i j w s ((ls.drop i).take (z-i)++y::ps) ((max x y,min x y)::(G.map (ask1 ls y)++L))
 | last {ls rs ps G:List Nat} {i j w x y:Nat} {s:Bool} {L:List (Nat×Nat)}:ls[i]?=some x->rs[j]?=some y->lx ks x y->nw w s=4->(∀ k u,i+1 <= k->ls[k]?=some u->lx ks u y)->Gal ls.length ls.length (i+1) (i+1) (i+1) G->JT ks ls rs ls.length j 0 true ps L->JT ks ls rs i j w s (ls.drop i++ps) ((max x y,min x y)::(G.map (ask1 ls y)++L))
 | swap {ls rs ps:List Nat} {i j w:Nat} {s:Bool} {L:List (Nat×Nat)}:JT ks rs ls j i w (!s) ps L->JT ks ls rs i j w s ps L
theorem ZB6 {os:List Nat} {i x:Nat} (h:os[i]?=some x):os.drop i=x::os.drop (i+1):=by
 obtain ⟨h1,e⟩:=yAI.mp h
 rw [yCO h1,e]
theorem drop_seg {os:List Nat} {i z:Nat} (h:i <= z):os.drop i=(os.drop i).take (z-i)++os.drop z:=by
 have:os.drop z=(os.drop i).drop (z-i):=by rw [List.drop_drop,show i+(z-i)=z by omega]
 rw [this,yBO]
theorem JT.mem {ks:List Int} {ls rs ps:List Nat} {i j w:Nat} {s:Bool} {L:List (Nat×Nat)} (h:JT ks ls rs i j w s ps L):∀ u,u∈ps↔u∈ls.drop i∨u∈rs.drop j:=by
 induction h with
 | done _=>intro u;rw [yAZ]
 | step a b c d e ih=>
  intro u
  rw [ZB6 a,yAE,yAE,ih]
  exact ⟨fun z=>z.elim (fun z=>.inl (.inl z)) fun z=>z.elim (fun z=>.inl (.inr z)) .inr,fun z=>z.elim (fun z=>z.elim .inl fun z=>.inr (.inl z)) fun z=>.inr (.inr z)⟩
 | @leap ls rs ps G i j w x y z s L a b c d e f g k l ih=>
  intro u
  rw [drop_seg (os:=ls) (show i <= z by omega),ZB6 b,yAZ,yAZ,yAE,yAE,ih,List.take_append_of_le_length (by rw [yAP,yBA];omega),yCF (by rw [yAP];omega)]
  exact ⟨fun z=>z.elim (fun z=>.inl (.inl z)) fun z=>z.elim (fun z=>.inr (.inl z)) fun z=>z.elim (fun z=>.inl (.inr z)) fun z=>.inr (.inr z),fun z=>z.elim (fun z=>z.elim .inl fun z=>.inr (.inr (.inl z))) fun z=>z.elim (fun z=>.inr (.inl z)) fun z=>.inr (.inr (.inr z))⟩
 | @last ls rs ps G i j w x y s L a b c d g k l ih=>
  intro u
  rw [yAZ,ih,List.drop_of_length_le (yAA _)]
  exact ⟨fun z=>z.elim .inl fun z=>z.elim (fun z=>by cases z) .inr,fun z=>z.elim .inl fun z=>.inr (.inr z)⟩
 | swap h ih=>intro u;rw [ih];exact Or.comm
theorem ZCd {os:List Nat} {i u:Nat} (h:u∈os.drop i):∃ k,i <= k /\ os[k]?=some u:=by
 obtain ⟨n,hn⟩:=yBI h
 rw [yBZ] at hn
 exact ⟨i+n,by omega,hn⟩
theorem seg_mem {os:List Nat} {i z u:Nat} (h:u∈(os.drop i).take (z-i)):∃ k,i <= k /\ k < z /\ os[k]?=some u:=by
 obtain ⟨n,hn⟩:=yBI h
 have h1:=(yAI.mp hn).1
 rw [yAP] at h1
 rw [yBY (by omega),yBZ] at hn
 exact ⟨i+n,by omega,by omega,hn⟩
theorem drop_ge {ks:List Int} {os:List Nat} {j y u:Nat} (hs:os.Pairwise (lx ks)) (B:os[j]?=some y) (J:u∈os.drop j):u=y∨lx ks y u:=by
 obtain ⟨k,O,e⟩:=ZCd J
 by_cases z:k=j
 .rw [z,B] at e;cases e;exact .inl rfl
 .exact .inr (ZDL hs (by omega) B e)
theorem seg_pw {ks:List Int} {os:List Nat} {i n:Nat} (hs:os.Pairwise (lx ks)):((os.drop i).take n).Pairwise (lx ks):=(hs.sublist (List.drop_sublist _ _)).sublist (List.take_sublist _ _)
theorem JT.sorted {ks:List Int} {ls rs ps:List Nat} {i j w:Nat} {s:Bool} {L:List (Nat×Nat)} (h:JT ks ls rs i j w s ps L):ls.Pairwise (lx ks)->rs.Pairwise (lx ks)->(∀ x∈ls,∀ y∈rs,x≠y)->ps.Pairwise (lx ks):=by
 induction h with
 | @done ls rs i j w s n=>
  intro h1 h2 h3
  rcases yBT i ls.length with z | z
  .rw [List.drop_of_length_le (l:=rs) (by omega),yBC]
   exact h1.sublist (List.drop_sublist _ _)
  .rw [List.drop_of_length_le (l:=ls) z]
   exact h2.sublist (List.drop_sublist _ _)
 | step a b c d e ih=>
  intro h1 h2 h3
  refine yCJ.mpr ⟨fun u J=>?_,ih h1 h2 h3⟩
  rcases (e.mem u).mp J with z | z
  .obtain ⟨k,hk,B⟩:=ZCd z
   exact ZDL h1 (by omega) a B
  .rcases drop_ge h2 b z with z | z
   .rw [z];exact c
   .exact ZCb c z
 | @leap ls rs ps G i j w x y z s L a b c d e f g k l ih=>
  intro h1 h2 h3
  have U:∀ u∈ps,lx ks y u:=fun u J=>by
   rcases (l.mem u).mp J with v | v
   .obtain ⟨n,hn,B⟩:=ZCd v
    exact lx_tot (h3 u (yAQ B) y (yAQ b)) fun t=>by have:=(g n u (by omega) B).mp t;omega
   .obtain ⟨n,hn,B⟩:=ZCd v
    exact ZDL h2 (by omega) b B
  have O:∀ u∈(ls.drop i).take (z-i),lx ks u y:=fun u J=>by
   obtain ⟨n,h4,h5,B⟩:=seg_mem J
   by_cases v:n=i
   .rw [v,a] at B;cases B;exact c
   .exact (g n u (by omega) B).mpr h5
  refine yBK.mpr ⟨seg_pw h1,yCJ.mpr ⟨U,ih h1 h2 h3⟩,fun u J v Z=>?_⟩
  rcases yAE.mp Z with t | t
  .rw [t];exact O u J
  .exact ZCb (O u J) (U v t)
 | @last ls rs ps G i j w x y s L a b c d g k l ih=>
  intro h1 h2 h3
  refine yBK.mpr ⟨h1.sublist (List.drop_sublist _ _),ih h1 h2 h3,fun u J v Z=>?_⟩
  have O:lx ks u y:=by
   obtain ⟨n,h4,B⟩:=ZCd J
   by_cases t:n=i
   .rw [t,a] at B;cases B;exact c
   .exact g n u (by omega) B
  rcases (l.mem v).mp Z with t | t
  .rw [List.drop_of_length_le (yAA _)] at t;cases t
  .rcases drop_ge h2 b t with t | t
   .rw [t];exact O
   .exact ZCb O t
 | swap h ih=>intro h1 h2 h3;exact ih h2 h1 fun x hx y U e=>h3 y U x hx e.symm
theorem ask1_eq {os:List Nat} {pl i x:Nat} (h:os[i]?=some x):ask1 os pl i=(max x pl,min x pl):=by unfold ask1;rw [h];rfl
theorem mm_comm (x y:Nat):(max x y,min x y)=(max y x,min y x):=by rw [Nat.max_comm,Nat.min_comm]
theorem spot_ex {ks:List Int} {os:List Nat} {pl:Nat} (hs:os.Pairwise (lx ks)):∀ n f,f+n=os.length->∃ z,f <= z /\ z <= os.length /\ ∀ i x,f <= i->os[i]?=some x->(lx ks x pl↔i < z):=by
 intro n
 induction n with
 | zero=>intro f U;exact ⟨f,yAA _,by omega,fun i x h e=>by have:=(yAI.mp e).1;omega⟩
 | succ n ih=>
  intro f U
  have B:f < os.length:=by omega
  by_cases h:lx ks os[f] pl
  .obtain ⟨z,Z,J,O⟩:=ih (f+1) (by omega)
   refine ⟨z,by omega,J,fun i x hi e=>?_⟩
   by_cases t:i=f
   .subst t
    rw [yAJ B] at e;cases e
    exact ⟨fun _=>by omega,fun _=>h⟩
   .exact O i x (by omega) e
  .refine ⟨f,yAA _,by omega,fun i x hi e=>⟨fun r=>?_,fun r=>by omega⟩⟩
   by_cases t:i=f
   .subst t
    rw [yAJ B] at e;cases e
    exact absurd r h
   .exact absurd (ZCb (ZDL hs (by omega) (yAJ B) e) r) h
theorem two_pow_lin (n:Nat):2 * (n+1) <= 2 ^ n+2:=by
 induction n with
 | zero=>decide
 | succ n ih=>
  rw [yBS]
  cases n with
  | zero=>decide
  | succ n=>rw [yBS] at *;have:=yCQ (n:=n);omega
theorem bits_lin {g b:Nat} (h:∀ c,g < 2 ^ c->b <= c):max 1 (2 * b) <= g+2 /\ (g < 2->max 1 (2 * b) <= g+1):=by
 cases b with
 | zero=>omega
 | succ b=>
  have:2 ^ b <= g:=by
   rcases yBT g (2 ^ b) with z | z
   .have:=h b z;omega
   .exact z
  have:=two_pow_lin b
  refine ⟨by omega,fun z=>?_⟩
  cases b with
  | zero=>rw [Nat.pow_zero] at this;omega
  | succ b=>rw [yBS] at *;have:=yCQ (n:=b);omega
theorem Gal.most' {z n f lo far:Nat} {l:List Nat} (h:Gal z n f lo far l):∀ (j b:Nat),lo=f+2 ^ j / 2->far+1=f+2 ^ j->f <= z->z <= n->z-f < 2 ^ b->(∀ c,z-f < 2 ^ c->b <= c)->j <= b->l.length+j <= max 1 (2 * b):=by
 induction h with
 | @out lo far l a c=>
  intro j b B J h1 h2 h3 O h5
  have hb:=O j (by omega)
  have U:j=b:=by omega
  subst U
  cases j with
  | zero=>
   rw [Nat.pow_zero] at B J
   have:=c.len
   omega
  | succ j=>
   rw [ZCc] at B
   rw [yBS] at J
   have:=c.bits j (by have:=yCQ (n:=j);omega)
   omega
 | @stop lo far l a c d=>
  intro j b B J h1 h2 h3 O h5
  have hb:=O j (by omega)
  have U:j=b:=by omega
  subst U
  rw [yAH]
  cases j with
  | zero=>
   rw [Nat.pow_zero] at B J
   have:=d.len
   omega
  | succ j=>
   rw [ZCc] at B
   rw [yBS] at J
   have:=d.bits j (by have:=yCQ (n:=j);omega)
   omega
 | @more lo far l a c d ih=>
  intro j b B J h1 h2 h3 O h5
  have Z:j+1 <= b:=by
   rcases yBT j b with z | z
   .exact z
   .have:=Nat.pow_le_pow_right (show 2 > 0 by decide) z
    omega
  have hp:=yCQ (n:=j)
  have:=ih (j+1) b (by rw [ZCc];omega) (by rw [yBS];omega) h1 h2 h3 O Z
  rw [yAH]
  omega
noncomputable def ZBa (g:Nat):Nat:=if g=0 then 0 else g.log2+1
theorem nbits_lt (g:Nat):g < 2 ^ ZBa g:=by
 unfold ZBa
 split
 .omega
 .exact (Nat.log2_lt (by omega)).mp (yBP _)
theorem ZDb {g c:Nat} (h:g < 2 ^ c):ZBa g <= c:=by
 unfold ZBa
 split
 .exact yAG _
 .exact (Nat.log2_lt (by omega)).mpr h
theorem Gal.looks {z n f:Nat} {l:List Nat} (h:Gal z n f f f l) (h1:f <= z) (h2:z <= n):l.length <= max 1 (2 * ZBa (z-f)):=by
 have:=h.most' 0 (ZBa (z-f)) (by simp) (by simp) h1 h2 (nbits_lt _) (fun c=>ZDb) (yAG _)
 omega
theorem Gal.lin {z n f:Nat} {l:List Nat} (h:Gal z n f f f l) (h1:f <= z) (h2:z <= n):7 * l.length <= 8 * (z-f)+12:=by
 have h3:=h.looks h1 h2
 obtain ⟨g1,g2⟩:=bits_lin (g:=z-f) (b:=ZBa (z-f)) fun c=>ZDb
 clear h
 generalize z-f=g at *
 generalize max 1 (2 * ZBa g)=m at *
 clear h1 h2
 omega
theorem JT.most7 {ks:List Int} {ls rs ps:List Nat} {i j w:Nat} {s:Bool} {L:List (Nat×Nat)} (h:JT ks ls rs i j w s ps L):w <= 3->i <= ls.length->j <= rs.length->1 <= (ls.length-i)+(rs.length-j)->7 * (L.length+1) <= 8 * ((ls.length-i)+(rs.length-j))+w:=by
 induction h with
 | done n=>intro h1 h2 h3 B;rw [yCE];omega
 | @step ls rs ps i j w x y s L a b c d e ih=>
  intro h1 h2 h3 B
  have hi:=(yAI.mp a).1
  have J:=(yAI.mp b).1
  have hn:nw w s <= w+1:=by unfold nw;split <;> omega
  have:=ih (by omega) (by omega) h3 (by omega)
  rw [yAH]
  omega
 | @leap ls rs ps G i j w x y z s L a b c d e f g k l ih=>
  intro h1 h2 h3 B
  have hi:=(yAI.mp a).1
  have J:=(yAI.mp b).1
  have hw:w=3:=by unfold nw at d;split at d <;> omega
  have:=ih (by omega) (by omega) (by omega) (by omega)
  have O:=k.lin e (yBJ f)
  rw [yAH,yAB,yAD]
  omega
 | @last ls rs ps G i j w x y s L a b c d g k l ih=>
  intro h1 h2 h3 B
  have hi:=(yAI.mp a).1
  have J:=(yAI.mp b).1
  have:=ih (by omega) (by omega) (by omega) (by omega)
  have O:=k.all 0 (by simp) (by simp) hi hi rfl
  rw [yAH,yAB,yAD]
  omega
 | @swap ls rs ps i j w s L h ih=>
  intro h1 h2 h3 B
  have:=ih h1 h3 h2 (by omega)
  omega
theorem JT.most {ks:List Int} {ls rs ps:List Nat} {i j w:Nat} {s:Bool} {L:List (Nat×Nat)} (h:JT ks ls rs i j w s ps L) (h1:w <= 3) (h2:i <= ls.length) (h3:j <= rs.length) (B:1 <= (ls.length-i)+(rs.length-j)):L.length+1 <= (ls.length-i)+(rs.length-j)+((ls.length-i)+(rs.length-j)+w) / 7:=by
 have:=h.most7 h1 h2 h3 B
 clear h
 omega
theorem JT.len {ks:List Int} {ls rs ps:List Nat} {i j w:Nat} {s:Bool} {L:List (Nat×Nat)} (h:JT ks ls rs i j w s ps L):w <= 3->i <= ls.length->j <= rs.length->L.length <= 2 * ((ls.length-i)+(rs.length-j)):=by
 intro h1 h2 h3
 by_cases t:1 <= (ls.length-i)+(rs.length-j)
 .have:=h.most h1 h2 h3 t
  omega
 .have:∀ {ls rs ps:List Nat} {i j w:Nat} {s:Bool} {L:List (Nat×Nat)},JT ks ls rs i j w s ps L->ls.length <= i->rs.length <= j->L=[]:=by
   intro ls rs ps i j w s L h
   induction h with
   | done n=>intro _ _;rfl
   | step a=>intro h _;have:=(yAI.mp a).1;omega
   | leap a=>intro h _;have:=(yAI.mp a).1;omega
   | last a=>intro h _;have:=(yAI.mp a).1;omega
   | swap h ih=>intro h1 h2;exact ih h2 h1
  rw [this h (by omega) (by omega)]
  exact yAG _
noncomputable abbrev fJ (ak sd tk pc:Addr):List (Str×V):=[("places",.ref pc),("taken",.ref tk),("sides",.ref sd),("asker",.ref ak)]
noncomputable def pk {α:Type} (b:Bool) (x y:α):List α:=if b then [x,y] else [y,x]
noncomputable def sv (b:Bool):Int:=if b then 0 else 1
theorem ZCK {b:Bool} {x y:V}:atI (pk b x y) (sv b)=some x:=by cases b <;> exact ZAY (by decide) rfl
theorem pk_swap {α:Type} {b:Bool} {x y:α}:pk (!b) y x=pk b x y:=by cases b <;> rfl
theorem pk_len {α:Type} {b:Bool} {x y:α}:(pk b x y).length=2:=by cases b <;> rfl
theorem pk_set {b:Bool} {x y z:V}:(pk b x y).set (sv b).toNat z=pk b z y:=by cases b <;> rfl
structure JS (CJ:Addr) (H:Hp) (b:Bool) (jn ak sd ma ta tk pc:Addr) (ms ts:List Nat) (i j:Nat) (dn:List Nat):Prop where
 hj:Ins H jn CJ (fJ ak sd tk pc)
 hsd:H sd=some (.tup (pk b (.ref ma) (.ref ta)))
 hma:H ma=some (.lst (nL ms))
 hta:H ta=some (.lst (nL ts))
 htk:H tk=some (.lst (pk b (.int i) (.int j)))
 hpc:H pc=some (.lst (nL dn))
 ne:tk≠pc /\ ma≠tk /\ ma≠pc /\ ta≠tk /\ ta≠pc
section
variable {CJ:Addr} {H H':Hp} {b:Bool} {jn ak sd ma ta tk pc:Addr} {ms ts:List Nat} {i j:Nat} {dn:List Nat}
theorem JS.swap (h:JS CJ H b jn ak sd ma ta tk pc ms ts i j dn):JS CJ H (!b) jn ak sd ta ma tk pc ts ms j i dn :=
 ⟨h.hj,by rw [pk_swap];exact h.hsd,h.hta,h.hma,by rw [pk_swap];exact h.htk,h.hpc,h.ne.1,h.ne.2.2.2.1,h.ne.2.2.2.2,h.ne.2.1,h.ne.2.2.1⟩
theorem JS.keep {J O:Nat} {dn':List Nat} (h:JS CJ H b jn ak sd ma ta tk pc ms ts i j dn) (e:Fr [tk,pc] H H') (h1:H' tk=some (.lst (pk b (.int J) (.int O)))) (h2:H' pc=some (.lst (nL dn'))):JS CJ H' b jn ak sd ma ta tk pc ms ts J O dn':=by
 have B:∀ {x:Addr},x≠tk->x≠pc->x∉[tk,pc]:=fun a b z=>(yAE.mp z).elim a fun z=>b (yAO.mp z)
 have hj:jn∉[tk,pc]:=B (Ne.symm (h.hj.ne h.htk fun _ _ _ z=>by cases z)) (Ne.symm (h.hj.ne h.hpc fun _ _ _ z=>by cases z))
 have hs:sd∉[tk,pc]:=B (fun z=>by have:=h.hsd;rw [z,h.htk] at this;cases this) (fun z=>by have:=h.hsd;rw [z,h.hpc] at this;cases this)
 exact ⟨ZDA e hj h.hj,e _ _ hs h.hsd,e _ _ (B h.ne.2.1 h.ne.2.2.1) h.hma,e _ _ (B h.ne.2.2.2.1 h.ne.2.2.2.2) h.hta,h1,h2,h.ne⟩
theorem JS.fr {S:List Addr} (h:JS CJ H b jn ak sd ma ta tk pc ms ts i j dn) (e:Fr S H H') (n:jn∉S /\ sd∉S /\ ma∉S /\ ta∉S /\ tk∉S /\ pc∉S):JS CJ H' b jn ak sd ma ta tk pc ms ts i j dn :=
 ⟨ZDA e n.1 h.hj,e _ _ n.2.1 h.hsd,e _ _ n.2.2.1 h.hma,e _ _ n.2.2.2.1 h.hta,e _ _ n.2.2.2.2.1 h.htk,e _ _ n.2.2.2.2.2 h.hpc,h.ne⟩
theorem JS.mono (h:JS CJ H b jn ak sd ma ta tk pc ms ts i j dn) (e:Same H H'):JS CJ H' b jn ak sd ma ta tk pc ms ts i j dn :=
 h.fr (S:=[]) e.fr ⟨yBL,yBL,yBL,yBL,yBL,yBL⟩
end
noncomputable def ZD2 (CJ:Addr):Sp:=fun vs H Q _=>∃ (x dx ak al ar:Addr) (ls rs:List Nat),vs=[.ref x,.ref ak,.ref al,.ref ar] /\ H x=some (.ins CJ dx []) /\ H al=some (.lst (nL ls)) /\ H ar=some (.lst (nL rs)) /\
 ∀ sd la ra tk pc H',(∀ b o,b≠x->H b=some o->H' b=some o)->H sd=none->H la=none->H ra=none->H tk=none->H pc=none->JS CJ H' true x ak sd la ra tk pc ls rs 0 0 []->Q .non H'
noncomputable def ZCY (CJ:Addr):Sp:=fun vs H Q _=>∃ (b:Bool) (jn ak sd ma ta tk pc:Addr) (ms ts:List Nat) (i j:Nat) (dn:List Nat),vs=[.ref jn,.int (sv b)] /\ JS CJ H b jn ak sd ma ta tk pc ms ts i j dn /\ Q (.bl (decide (i < ms.length))) H
noncomputable def ZDX (CJ:Addr):Sp:=fun vs H Q _=>∃ (b:Bool) (jn ak sd ma ta tk pc:Addr) (ms ts:List Nat) (i j:Nat) (dn:List Nat) (x:Nat),vs=[.ref jn,.int (sv b)] /\ JS CJ H b jn ak sd ma ta tk pc ms ts i j dn /\ ms[i]?=some x /\ Q (.int x) H
noncomputable def ZCX (CJ:Addr):Sp:=fun vs H Q _=>∃ (b:Bool) (jn ak sd ma ta tk pc:Addr) (ms ts:List Nat) (i j:Nat) (dn:List Nat) (m:Nat),vs=[.ref jn,.int (sv b),.int m] /\ JS CJ H b jn ak sd ma ta tk pc ms ts i j dn /\ i+m <= ms.length /\ dn.length+ms.length <= 1000 /\
 ∀ H',Fr [tk,pc] H H'->JS CJ H' b jn ak sd ma ta tk pc ms ts (i+m) j (dn++(ms.drop i).take m)->Q .non H'
noncomputable def ZCh (CJ:Addr):Sp:=fun vs H Q _=>∃ (b:Bool) (jn ak sd ma ta tk pc:Addr) (ms ts:List Nat) (i j:Nat) (dn:List Nat),vs=[.ref jn,.int (sv b)] /\ JS CJ H b jn ak sd ma ta tk pc ms ts i j dn /\ i <= ms.length /\ dn.length+ms.length <= 1000 /\
 ∀ H',Fr [tk,pc] H H'->JS CJ H' b jn ak sd ma ta tk pc ms ts ms.length j (dn++ms.drop i)->Q .non H'
theorem SitL.apart {CA CR:Addr} {H H':Hp} {ks:List Int} {xs:RowC} {a rl ru tl g lg:Addr} {pr:List (Nat×Nat)} {S:List Addr} (h:SitL CA CR H ks xs a rl ru tl g lg pr) (e:Fr S H H') (hS:∀ b∈S,∃ l,H b=some (.lst l)) (n:rl∉S /\ lg∉S /\ tl∉S):SitL CA CR H' ks xs a rl ru tl g lg pr:=by
 have k:∀ {b:Addr} {o:HO},H b=some o->(∀ l,o≠.lst l)->H' b=some o:=fun {b o} J z=>e _ _ (fun m=>by obtain ⟨l,hl⟩:=hS b m;rw [hl] at J;exact z _ (Option.some.inj J).symm) J
 have Z:∀ {b C:Addr} {fl:List (Str×V)},Ins H b C fl->Ins H' b C fl:=fun hi=>let ⟨dx,fs,h1,h2,h3⟩:=hi.ex;⟨dx,fs,k h1 (fun _ z=>by cases z),h2,h3⟩
 obtain ⟨ws,h4,h5⟩:=h.hlg
 obtain ⟨us,h6,h7⟩:=h.htl
 have B:∀ (i:Nat) U,ks[i]?=some U->∃ r,xs.v[i]?=some (V.ref r) /\ H' r=some (.tup [.int U,.int i]):=fun i U hk=>by
  obtain ⟨r,a1,a2⟩:=h.row i U hk
  exact ⟨r,a1,k a2 (fun _ z=>by cases z)⟩
 have O:=h.clo.mono (H':=H') (fun b o J=>k J (fun _ z=>by cases z))
 have hl:=h5.keep (H':=H') (fun _ _ z=>k z (fun _ y=>by cases y))
 have ht:=h7.keep (H':=H') (fun _ _ z=>k z (fun _ y=>by cases y))
 exact ⟨Z h.ha,e _ _ n.1 h.hrl,Z h.hru,O,h.len,B,⟨ws,e _ _ n.2.1 h4,hl⟩,⟨us,e _ _ n.2.2 h6,ht⟩,h.ne⟩
structure NX (a rl lg tl jn sd ma ta tk pc:Addr):Prop where
 n1:jn∉[a,lg,tl] /\ sd∉[a,lg,tl] /\ ma∉[a,lg,tl] /\ ta∉[a,lg,tl] /\ tk∉[a,lg,tl] /\ pc∉[a,lg,tl]
 n2:rl∉[tk,pc] /\ lg∉[tk,pc] /\ tl∉[tk,pc]
theorem NX.swap {a rl lg tl jn sd ma ta tk pc:Addr} (h:NX a rl lg tl jn sd ma ta tk pc):NX a rl lg tl jn sd ta ma tk pc:=⟨⟨h.n1.1,h.n1.2.1,h.n1.2.2.2.1,h.n1.2.2.1,h.n1.2.2.2.2⟩,h.n2⟩
theorem fr_sub {S S':List Addr} {H H':Hp} (h:Fr S H H') (k:∀ b∈S,b∈S'):Fr S' H H':=fun b o n B=>h b o (fun m=>n (k b m)) B
theorem fr5a {a lg tl tk pc:Addr} {H H':Hp} (h:Fr [a,lg,tl] H H'):Fr [a,lg,tl,tk,pc] H H':=fr_sub h fun b B=>by
 rcases yAE.mp B with z | z
 .rw [z];exact yAF
 rcases yAE.mp z with z | z
 .rw [z];exact yAC _ yAF
 .rw [yAO.mp z];exact yAC _ (yAC _ yAF)
theorem fr5b {a lg tl tk pc:Addr} {H H':Hp} (h:Fr [tk,pc] H H'):Fr [a,lg,tl,tk,pc] H H'  :=fr_sub h fun b B=>yAC _ (yAC _ (yAC _ B))
section
variable {CA CR CJ:Addr} {H H':Hp} {b:Bool} {ks:List Int} {xs:RowC} {jn a rl ru tl g lg sd ma ta tk pc:Addr} {ms ts:List Nat} {i j:Nat} {dn:List Nat} {pr:List (Nat×Nat)}
theorem JS.lsts (h:JS CJ H b jn a sd ma ta tk pc ms ts i j dn):∀ c∈[tk,pc],∃ l,H c=some (.lst l):=fun c hc=>by
 rcases yAE.mp hc with z | z
 .rw [z];exact ⟨_,h.htk⟩
 .rw [yAO.mp z];exact ⟨_,h.hpc⟩
end
noncomputable def ZE4 (CA CR CJ:Addr):Sp:=fun vs H Q _=>∃ (ks:List Int) (xs:RowC) (a rl ru tl g lg jn sd la ra tk pc:Addr) (pr:List (Nat×Nat)) (ls rs dn:List Nat) (i j x y:Nat),vs=[.ref jn] /\ SitL CA CR H ks xs a rl ru tl g lg pr /\ JS CJ H true jn a sd la ra tk pc ls rs i j dn /\ NX a rl lg tl jn sd la ra tk pc /\ ls[i]?=some x /\ rs[j]?=some y /\ x≠y /\ x < ks.length /\ y < ks.length /\ pr.length <= 70000 /\ dn.length+ls.length <= 1000 /\ dn.length+rs.length <= 1000 /\
 ∀ H',Fr [a,lg,tl,tk,pc] H H'->SitL CA CR H' ks xs a rl ru tl g lg (pr++[(max x y,min x y)])->(lx ks x y->JS CJ H' true jn a sd la ra tk pc ls rs (i+1) j (dn++[x]))->(¬ lx ks x y->JS CJ H' true jn a sd la ra tk pc ls rs i (j+1) (dn++[y]))->Q (.int (sv (decide (lx ks x y)))) H'
noncomputable def ZDT (CA CR CJ:Addr):Sp:=fun vs H Q _=>∃ (ks:List Int) (xs:RowC) (a rl ru tl g lg jn sd ma ta tk pc:Addr) (b:Bool) (pr:List (Nat×Nat)) (ms ts dn:List Nat) (i j y z:Nat),vs=[.ref jn,.int (sv b)] /\ SitL CA CR H ks xs a rl ru tl g lg pr /\ JS CJ H b jn a sd ma ta tk pc ms ts i j dn /\ NX a rl lg tl jn sd ma ta tk pc /\ ts[j]?=some y /\ ms.length <= 500 /\ (∀ x∈ms,x < ks.length /\ x≠y) /\ y < ks.length /\ pr.length <= 70000 /\ dn.length+ms.length+ts.length <= 1000 /\ i <= z /\ z <= ms.length /\ (∀ k u,i <= k->ms[k]?=some u->(lx ks u y↔k < z)) /\
 ∀ H' G,Fr [a,lg,tl,tk,pc] H H'->Gal z ms.length i i i G->SitL CA CR H' ks xs a rl ru tl g lg (pr++G.map (ask1 ms y))->(z < ms.length->JS CJ H' b jn a sd ma ta tk pc ms ts z (j+1) (dn++(ms.drop i).take (z-i)++[y]))->(z=ms.length->JS CJ H' b jn a sd ma ta tk pc ms ts z j (dn++(ms.drop i).take (z-i)))->Q .non H'
noncomputable def ZDV (CA CR:Addr):Sp:=fun vs H Q _=>∃ (ks:List Int) (xs:RowC) (a rl ru tl g lg al ar:Addr) (pr:List (Nat×Nat)) (ls rs:List Nat),vs=[.ref a,.ref al,.ref ar] /\ SitL CA CR H ks xs a rl ru tl g lg pr /\ H al=some (.lst (nL ls)) /\ H ar=some (.lst (nL rs)) /\ ls.length <= 250 /\ rs.length <= 250 /\ (∀ x∈ls,x < ks.length) /\ (∀ x∈rs,x < ks.length) /\ ls.Pairwise (lx ks) /\ rs.Pairwise (lx ks) /\ (∀ x∈ls,∀ y∈rs,x≠y) /\ pr.length <= 60000 /\
 ∀ l H' ps L,Fr [a,lg,tl] H H'->H l=none->H' l=some (.lst (nL ps))->JT ks ls rs 0 0 0 true ps L->SitL CA CR H' ks xs a rl ru tl g lg (pr++L)->Q (.ref l) H'
theorem seg_cons {os:List Nat} {i x z:Nat} (h:os[i]?=some x) (B:i+1 <= z):(os.drop i).take (z-i)=x::(os.drop (i+1)).take (z-(i+1)):=by
 rw [ZB6 h,show z-i=z-(i+1)+1 by omega,List.take_succ_cons]
theorem ZDP {os:List Nat} {i x:Nat} (h:os[i]?=some x):(os.drop i).take 1=[x]:=by
 rw [ZB6 h];rfl
noncomputable def JInv (C_Asker C_AskedRule C_Join:Addr) (ks:List Int) (xs:RowC) (a rl ru tl g lg al ar jn sd la ra tk pc:Addr) (pr:List (Nat×Nat)) (ls rs:List Nat) (H2:Hp) (mm':Nat) (σ:St) (H':Hp):Prop:=∃ (i j w:Nat) (s:Bool) (v6:Option V) (dn:List Nat) (as:List (Nat×Nat)),mm'=(ls.length-i)+(rs.length-j) /\ σ=[some (.ref a),some (.ref al),some (.ref ar),some (.ref jn),some (.int w),some (.int (sv s)),v6] /\ i <= ls.length /\ j <= rs.length /\ w <= 3 /\ dn.length=i+j /\ as.length <= 20 * (i+j) /\ Fr [a,lg,tl,tk,pc] H2 H' /\ SitL C_Asker C_AskedRule H' ks xs a rl ru tl g lg (pr++as) /\ JS C_Join H' true jn a sd la ra tk pc ls rs i j dn /\ ∀ ps L,JT ks ls rs i j w s ps L->JT ks ls rs 0 0 0 true (dn++ps) (as++L)
theorem JInv.of {C_Asker C_AskedRule C_Join:Addr} {ks:List Int} {xs:RowC} {a rl ru tl g lg U B jn sd la O tk pc:Addr} {pr:List (Nat×Nat)} {ls rs:List Nat} {H2:Hp} {H':Hp} {i j w:Nat} {s:Bool} {J:Option V} {dn:List Nat} {as:List (Nat×Nat)} (h1:i <= ls.length) (h2:j <= rs.length) (h3:w <= 3) (h4:dn.length=i+j) (Z:as.length <= 20 * (i+j)) (h6:Fr [a,lg,tl,tk,pc] H2 H') (h7:SitL C_Asker C_AskedRule H' ks xs a rl ru tl g lg (pr++as)) (h8:JS C_Join H' true jn a sd la O tk pc ls rs i j dn) (h9:∀ ps L,JT ks ls rs i j w s ps L->JT ks ls rs 0 0 0 true (dn++ps) (as++L)):JInv C_Asker C_AskedRule C_Join ks xs a rl ru tl g lg U B jn sd la O tk pc pr ls rs H2 ((ls.length-i)+(rs.length-j)) [some (.ref a),some (.ref U),some (.ref B),some (.ref jn),some (.int w),some (.int (sv s)),J] H':=⟨i,j,w,s,J,dn,as,rfl,rfl,h1,h2,h3,h4,Z,h6,h7,h8,h9⟩
theorem JInv.fin {C_Asker C_AskedRule C_Join:Addr} {ks:List Int} {xs:RowC} {a rl ru tl g lg al ar jn sd la Z tk pc:Addr} {pr:List (Nat×Nat)} {ls rs:List Nat} {H2:Hp} {i j:Nat} {b:Bool} {ma ta:Addr} {ms ts:List Nat} {J O:Nat} {x6:Option V} {w':Nat} {H4:Hp} {dn':List Nat} {B:List (Nat×Nat)} (hb:(b=true /\ ma=la /\ ta=Z /\ ms=ls /\ ts=rs)∨(b=false /\ ma=Z /\ ta=la /\ ms=rs /\ ts=ls)) (h1:J <= ms.length) (h2:O <= ts.length) (h3:w' <= 3) (h4:i+j < J+O) (h5:dn'.length=J+O) (h6:B.length <= 20 * (J+O)) (h7:Fr [a,lg,tl,tk,pc] H2 H4) (h8:SitL C_Asker C_AskedRule H4 ks xs a rl ru tl g lg (pr++B)) (h9:JS C_Join H4 b jn a sd ma ta tk pc ms ts J O dn') (U:∀ ps L,JT ks ms ts J O w' true ps L->JT ks ms ts 0 0 0 b (dn'++ps) (B++L)) (hi:i <= ls.length) (hj:j <= rs.length):∃ m',m' < ls.length-i+(rs.length-j) /\ JInv C_Asker C_AskedRule C_Join ks xs a rl ru tl g lg al ar jn sd la Z tk pc pr ls rs H2 m' [some (V.ref a),some (.ref al),some (.ref ar),some (.ref jn),some (.int w'),some (.int (sv b)),x6] H4:=by
 rcases hb with ⟨rfl,rfl,rfl,rfl,rfl⟩ | ⟨rfl,rfl,rfl,rfl,rfl⟩
 .exact ⟨_,by omega,JInv.of h1 h2 h3 h5 h6 h7 h8 h9 U⟩
 .exact ⟨_,by omega,JInv.of (s:=false) h2 h1 h3 (by omega) (by omega) h7 h8 h9.swap fun ps L h=>JT.swap (U ps L (JT.swap (s:=true) h))⟩
theorem cut_var {P:TS} {D:Ends} {x y:Option V} {H:Hp} {o1 o2:Int} {c:Prop} [Decidable c] (h:∀ o:Int,(c /\ o=o1)∨(¬ c /\ o=o2)->Cut P D [x,y,some (.int o)] H):if c then Cut P D [x,y,some (.int o1)] H else Cut P D [x,y,some (.int o2)] H:=by
 split
 .rename_i h1;exact h o1 (.inl ⟨h1,rfl⟩)
 .rename_i h1;exact h o2 (.inr ⟨h1,rfl⟩)
theorem onceP (P:Prop) {M G:Prop} (h:(P->M)->G) (t:P->M):G:=h t
noncomputable abbrev fPl (a:Addr) (ls s e r:Int) (fs od gr:Addr):List (Str×V):=[("grades",.ref gr),("orders",.ref od),("firsts",.ref fs),("reached",.int r),("end",.int e),("start",.int s),("least",.int ls),("asker",.ref a)]
theorem fPl_reached {a fs od gr:Addr} {ls s e r r':Int}:∀ f,(putF "reached" (.int r') (fPl a ls s e r fs od gr)).lookup f=(fPl a ls s e r' fs od gr).lookup f:=fun f=>by
 rw [ZAd]
 by_cases h:f=("reached":Str)
 .subst h
  rw [if_pos rfl]
  exact (show List.lookup _ (fPl a ls s e r' fs od gr)=some (.int r') by walk_at "lk").symm
 .simp only [lkc,h,if_false]
noncomputable def Ch (ks:List Int):Nat->List (Nat×List Nat)->Nat->Prop
 | x,[],y=>x=y
 | x,(f,o)::r,y=>f=x /\ ∃ m,x < m /\ OrdN ks x m o /\ Ch ks m r y
theorem Ch.app {ks:List Int}:∀ {x y:Nat} {A B:List (Nat×List Nat)},Ch ks x (A++B) y↔∃ m,Ch ks x A m /\ Ch ks m B y
 | x,y,[],B=>⟨fun h=>⟨x,rfl,h⟩,fun ⟨m,h1,h2⟩=>by have e:x=m:=h1;rw [e];exact h2⟩
 | x,y,(f,o)::r,B=>by
  constructor
  .rintro ⟨h1,m,h2,h3,Z⟩
   obtain ⟨J,U,O⟩:=Ch.app.mp Z
   exact ⟨J,⟨h1,m,h2,h3,U⟩,O⟩
  .rintro ⟨J,⟨h1,m,h2,h3,U⟩,O⟩
   exact ⟨h1,m,h2,h3,Ch.app.mpr ⟨J,U,O⟩⟩
theorem Ch.le {ks:List Int}:∀ {x y:Nat} {ps:List (Nat×List Nat)},Ch ks x ps y->x+ps.length <= y
 | x,y,[],h=>by have e:x=y:=h;rw [e];exact yAA _
 | x,y,(f,o)::r,⟨h1,m,h2,h3,h4⟩=>by have:=Ch.le h4;rw [yAH];omega
noncomputable def flt (ps:List (Nat×List Nat)):List Nat:=(ps.map Prod.snd).flatten
theorem flt_app (A B:List (Nat×List Nat)):flt (A++B)=flt A++flt B:=by unfold flt;rw [yAU,List.flatten_append]
theorem Ch.flen {ks:List Int}:∀ {x y:Nat} {ps:List (Nat×List Nat)},Ch ks x ps y->(flt ps).length=y-x
 | x,y,[],h=>by have e:x=y:=h;rw [e];show 0=_;omega
 | x,y,(f,o)::r,⟨h1,m,h2,h3,h4⟩=>by
  have B:=Ch.flen h4
  have J:=Ch.le h4
  show (o++flt r).length=_
  rw [yAB,h3.len,B]
  omega
noncomputable def bB:List (Nat×List Nat)->Nat->Nat
 | [],r=>r
 | p::_,_=>p.1
theorem Ch.bey {ks:List Int} {x y:Nat} {ps:List (Nat×List Nat)} (h:Ch ks x ps y):bB ps y=x:=by
 cases ps with
 | nil=>exact h.symm
 | cons p r=>exact h.1
theorem ordN_of {ks:List Int} {x y:Nat} {o:List Nat} (h1:o.Pairwise (lx ks)) (h2:∀ u,u∈o↔x <= u /\ u < y):OrdN ks x y o:=by
 refine ⟨?_,h2,h1⟩
 have J:o.Nodup:=h1.imp fun {a b} h e=>by subst e;exact lx_asym h h
 have B:o.Perm (List.range' x (y-x)):=(List.perm_ext_iff_of_nodup J List.nodup_range').mpr fun u=>by rw [h2,List.mem_range'_1];omega
 rw [B.length_eq,yCP]
theorem OrdN.join {ks:List Int} {x m y:Nat} {o1 o2 o:List Nat} {L:List (Nat×Nat)} (h1:OrdN ks x m o1) (h2:OrdN ks m y o2) (a:x < m) (b:m < y) (h:JT ks o1 o2 0 0 0 true o L):OrdN ks x y o :=
 ordN_of (h.sorted h1.srt h2.srt fun u J v B=>by have:=(h1.mem u).mp J;have:=(h2.mem v).mp B;omega) fun u=>by
  rw [h.mem,List.drop_zero,List.drop_zero,h1.mem,h2.mem]
  omega
theorem Ch.two {ks:List Int} {x y v1 v2:Nat} {o1 o2:List Nat} {A B:List (Nat×List Nat)} (h:Ch ks x (A++(v1,o1)::(v2,o2)::B) y):∃ v3,Ch ks x A v1 /\ v1 < v2 /\ v2 < v3 /\ OrdN ks v1 v2 o1 /\ OrdN ks v2 v3 o2 /\ Ch ks v3 B y /\ bB B y=v3:=by
 obtain ⟨m,h1,h2,m2,h3,Z,O,U,h6,h7,J⟩:=Ch.app.mp h
 subst h2 O
 exact ⟨U,h1,h3,h6,Z,h7,J,J.bey⟩
theorem Ch.join {ks:List Int} {x y v1 v2:Nat} {o1 o2 o:List Nat} {A B:List (Nat×List Nat)} {L:List (Nat×Nat)} (h:Ch ks x (A++(v1,o1)::(v2,o2)::B) y) (U:JT ks o1 o2 0 0 0 true o L):Ch ks x (A++(v1,o)::B) y:=by
 obtain ⟨v3,h1,h2,h3,O,J,Z,_⟩:=h.two
 exact Ch.app.mpr ⟨v1,h1,rfl,v3,by omega,O.join J h2 h3 U,Z⟩
noncomputable def dueB (gs:List Nat):Bool:=match gs.reverse with
 | g2::g1::_=>decide (g2 < g1)
 | _=>false
theorem ZDf (G:List Nat) (g1 g2:Nat):dueB (G++[g1,g2])=decide (g2 < g1):=by unfold dueB;rw [List.reverse_append];rfl
theorem dueB_few {gs:List Nat} (h:gs.length <= 1):dueB gs=false:=by
 match gs,h with
 | [],_=>rfl
 | [g],_=>rfl
theorem ZCu {α:Type} {l:List α} (h:2 <= l.length):∃ A x y,l=A++[x,y]:=by
 refine ⟨l.take (l.length-2),l[l.length-2],l[l.length-1],?_⟩
 have B:l.drop (l.length-2)=[l[l.length-2],l[l.length-1]]:=by
  rw [yCO (by omega),show l.length-2+1=l.length-1 by omega,yCO (by omega),show l.length-1+1=l.length by omega,List.drop_length]
 rw [<- B,yBO]
structure PInv (ks:List Int) (s e r:Nat) (ps:List (Nat×List Nat)) (gs:List Nat):Prop where
 ch:Ch ks s ps r
 re:r <= e
 gl:gs.length=ps.length-1
 gb:∀ g∈gs,g <= 240
structure StJ (ks:List Int) (e:Nat) (ps:List (Nat×List Nat)) (gs:List Nat) (r v1 v2 v3:Nat) (L:List (Nat×Nat)) (ps':List (Nat×List Nat)) (gs':List Nat) (A:List (Nat×List Nat)) (o1 o2 o:List Nat) (B:List (Nat×List Nat)):Prop where
 e1:ps=A++(v1,o1)::(v2,o2)::B
 e2:ps'=A++(v1,o)::B
 e3:v3=bB B r
 jt:JT ks o1 o2 0 0 0 true o L
 e4:gs'=gs.eraseIdx A.length
 wh:(dueB gs=true /\ B.length=1)∨(dueB gs=false /\ r=e /\ B=[])
structure StL (ks:List Int) (ls s e:Nat) (ps:List (Nat×List Nat)) (gs:List Nat) (r v1 v2 v3:Nat) (L:List (Nat×Nat)) (ps':List (Nat×List Nat)) (gs':List Nat) (r':Nat) (f:Bool) (os:List Nat) (l:List (Nat×Nat)):Prop where
 e1:v1=r
 lt:r < e
 by':Beyond ks r e v2 f
 put:Put ks (ZBz r v2 f) v2 (min (r+ls) e) os l
 e2:L=asks r (min (v2+1) e)++l
 e3:v3=max v2 (min (r+ls) e)
 e4:r'=v3
 e5:ps'=ps++[(r,os)]
 wh:dueB gs=false
 gr:(ps=[] /\ gs'=gs)∨∃ A p g,ps=A++[p] /\ gs'=gs++[g] /\ Gr.IsG ((e:Int)-s) (((p.1:Int)-s)+((r:Int)-s)) (((r:Int)-s)+((v3:Int)-s)) g /\ g <= 240
noncomputable def Stp (ks:List Int) (ls s e:Nat) (ps:List (Nat×List Nat)) (gs:List Nat) (r:Nat) (k:Bool) (v1 v2 v3:Nat) (L:List (Nat×Nat)) (ps':List (Nat×List Nat)) (gs':List Nat) (r':Nat):Prop :=
 (k=true /\ r'=r /\ ∃ A o1 o2 o B,StJ ks e ps gs r v1 v2 v3 L ps' gs' A o1 o2 o B)∨(k=false /\ ∃ f os l,StL ks ls s e ps gs r v1 v2 v3 L ps' gs' r' f os l)
theorem Beyond.two {ks:List Int} {first stop j:Nat} {f:Bool} (h:Beyond ks first stop j f):first < j /\ j <= stop:=by rcases h with ⟨B,J,_⟩ | ⟨_,_,B,J,_⟩ <;> omega
theorem StL.ord {ks:List Int} {ls s e:Nat} {ps:List (Nat×List Nat)} {gs:List Nat} {r v1 v2 v3:Nat} {L:List (Nat×Nat)} {B:List (Nat×List Nat)} {gs':List Nat} {r':Nat} {f:Bool} {os:List Nat} {l:List (Nat×Nat)} (h:StL ks ls s e ps gs r v1 v2 v3 L B gs' r' f os l):OrdN ks r v3 os /\ r < v3 /\ v3 <= e:=by
 have U:=h.by'.two
 have:=h.lt
 have e3:=h.e3
 obtain ⟨o1,_,_⟩:=h.put.all (first:=r) (asks r (min (v2+1) e)) (by omega) h.by'.ord (fun i x y J O=>(h.by'.adj i x y J O).2)
 rw [<- e3] at o1
 exact ⟨o1,by omega,by omega⟩
theorem Stp.inv {ks:List Int} {ls s e:Nat} {ps:List (Nat×List Nat)} {gs:List Nat} {r:Nat} {k:Bool} {v1 v2 v3:Nat} {L:List (Nat×Nat)} {O:List (Nat×List Nat)} {gs':List Nat} {r':Nat} (h:Stp ks ls s e ps gs r k v1 v2 v3 L O gs' r') (i:PInv ks s e r ps gs):PInv ks s e r' O gs':=by
 rcases h with ⟨_,rfl,A,o1,o2,o,B,j⟩ | ⟨_,f,os,l,j⟩
 .have e1:=j.e1
  subst e1
  have gl:=i.gl
  refine ⟨by rw [j.e2];exact i.ch.join j.jt,i.re,?_,fun g J=>i.gb g ?_⟩
  .rw [j.e4,j.e2,List.length_eraseIdx_of_lt (by rw [gl];simp),gl]
   simp
  .rw [j.e4] at J
   exact List.mem_of_mem_eraseIdx J
 .obtain ⟨o1,o2,U⟩:=j.ord
  have e4:=j.e4
  subst e4
  have gl:=i.gl
  have hc:Ch ks s O r':=by rw [j.e5];exact Ch.app.mpr ⟨r,i.ch,rfl,r',o2,o1,rfl⟩
  rcases j.gr with ⟨g1,g2⟩ | ⟨A,p,g,g1,g2,g3,Z⟩
  .refine ⟨hc,U,?_,fun g J=>i.gb g (by rw [<- g2];exact J)⟩
   rw [g2,j.e5,gl,g1];rfl
  .refine ⟨hc,U,?_,fun g' J=>?_⟩
   .rw [g2,j.e5,yAB,yAB,gl,g1,yAB];simp
   .rw [g2] at J
    rcases yAZ.mp J with z | z
    .exact i.gb _ z
    .rw [yAO.mp z];exact Z
theorem Stp.less {ks:List Int} {ls s e:Nat} {ps:List (Nat×List Nat)} {gs:List Nat} {r:Nat} {k:Bool} {v1 v2 v3:Nat} {L:List (Nat×Nat)} {J:List (Nat×List Nat)} {gs':List Nat} {r':Nat} (h:Stp ks ls s e ps gs r k v1 v2 v3 L J gs' r'):2 * (e-r')+J.length < 2 * (e-r)+ps.length:=by
 rcases h with ⟨_,rfl,A,o1,o2,o,B,j⟩ | ⟨_,f,os,l,j⟩
 .rw [j.e1,j.e2];simp
 .obtain ⟨o1,o2,O⟩:=j.ord
  rw [j.e5,j.e4,yAB,yAS]
  omega
theorem cost_a {L a b c:Nat} (h:L <= 126):L+126 * (a+(b+1))+c <= 126 * (a+(b+1+1))+c:=by omega
theorem cost_b {v2 r w s a l p:Nat} (h1:r < v2) (h2:a <= v2-r) (h3:l <= w * 63) (B:s <= r):a+l+126 * (p+1)+191 * (r-s) <= 126 * p+191 * (v2+w-s):=by omega
theorem cost_c {a b c d l s r e:Nat} (h1:l <= 2 * (b-a-0+(c-b-0))) (h2:s <= a) (h3:c <= r) (B:r <= e) (U:e-s <= 63) (J:a < b) (O:b < c):l <= 126:=by omega
theorem max_sub (a b:Nat):max a b=a+(b-a):=by omega
theorem Stp.cost {ks:List Int} {ls s e:Nat} {ps:List (Nat×List Nat)} {gs:List Nat} {r:Nat} {k:Bool} {v1 v2 v3:Nat} {L:List (Nat×Nat)} {J:List (Nat×List Nat)} {gs':List Nat} {r':Nat} (h:Stp ks ls s e ps gs r k v1 v2 v3 L J gs' r') (i:PInv ks s e r ps gs) (U:e-s <= 63) (O:s <= r):L.length+126 * J.length+191 * (r-s) <= 126 * ps.length+191 * (r' - s):=by
 rcases h with ⟨_,rfl,A,o1,o2,o,B,j⟩ | ⟨_,f,os,l,j⟩
 .have e1:=j.e1
  subst e1
  obtain ⟨a0,h1,h2,h3,h4,h5,h6,_⟩:=i.ch.two
  have Z:=j.jt.len (by decide) (yAG _) (yAG _)
  rw [h4.len,h5.len] at Z
  have hL:=cost_c (d:=0) Z (yAL (Nat.le_add_right _ _) h1.le) (yAL (Nat.le_add_right _ _) h6.le) i.re U h2 h3
  rw [j.e2]
  simp only [yAB,yAH]
  exact cost_a hL
 .have hb:=j.by'.two
  have f1:=j.put.few
  have hm:=Nat.min_le_right (r+ls) e
  rw [ZCU] at f1
  rw [j.e5,j.e4,j.e2,yAB,yAB,yAS,ZCg,j.e3,max_sub]
  have hq:=Nat.min_le_left (v2+1) e
  generalize min (r+ls) e=m at f1 hm ⊢
  generalize min (v2+1) e=q at hq ⊢
  clear j i
  exact cost_b hb.1 (by omega) (yAL f1 (Nat.mul_le_mul_left _ (by omega))) O
noncomputable def OrdAt (H:Hp):List Addr->List (Nat×List Nat)->Prop
 | [],[]=>True
 | b::bs,p::ps=>H b=some (.lst (nL p.2)) /\ OrdAt H bs ps
 | _,_=>False
theorem OrdAt.len {H:Hp}:∀ {oa:List Addr} {ps:List (Nat×List Nat)},OrdAt H oa ps->oa.length=ps.length
 | [],[],_=>rfl
 | b::bs,p::ps,h=>by rw [yAH,yAH,OrdAt.len h.2]
 | [],p::ps,h=>h.elim
 | b::bs,[],h=>h.elim
theorem OrdAt.keep {H H':Hp}:∀ {oa:List Addr} {ps:List (Nat×List Nat)},OrdAt H oa ps->(∀ b∈oa,∀ o,H b=some o->H' b=some o)->OrdAt H' oa ps
 | [],[],_,_=>trivial
 | b::bs,p::ps,h,e=>⟨e b yAF _ h.1,OrdAt.keep h.2 fun c hc=>e c (yAC _ hc)⟩
 | [],p::ps,h,_=>h.elim
 | b::bs,[],h,_=>h.elim
theorem OrdAt.split {H:Hp}:∀ {P:List (Nat×List Nat)} {oa:List Addr} {Q:List (Nat×List Nat)},OrdAt H oa (P++Q)->∃ A B,oa=A++B /\ A.length=P.length /\ OrdAt H A P /\ OrdAt H B Q
 | [],oa,Q,h=>⟨[],oa,rfl,rfl,trivial,h⟩
 | p::P,[],Q,h=>h.elim
 | p::P,b::bs,Q,h=>by
  obtain ⟨A,B,O,U,Z,J⟩:=OrdAt.split (P:=P) h.2
  exact ⟨b::A,B,by rw [O];rfl,by rw [yAH,yAH,U],⟨h.1,Z⟩,J⟩
theorem OrdAt.app {H:Hp}:∀ {P:List (Nat×List Nat)} {A B:List Addr} {Q:List (Nat×List Nat)},OrdAt H A P->OrdAt H B Q->OrdAt H (A++B) (P++Q)
 | [],[],B,Q,_,h=>h
 | p::P,[],B,Q,h,_=>h.elim
 | [],b::bs,B,Q,h,_=>h.elim
 | p::P,b::bs,B,Q,h,h'=>⟨h.1,OrdAt.app h.2 h'⟩
theorem OrdAt.get {H:Hp}:∀ {ps:List (Nat×List Nat)} {oa:List Addr} {i:Nat} {b:Addr},OrdAt H oa ps->oa[i]?=some b->∃ p,ps[i]?=some p /\ H b=some (.lst (nL p.2))
 | [],[],i,b,_,e=>by simp at e
 | p::P,[],i,b,h,_=>h.elim
 | [],c::bs,i,b,h,_=>h.elim
 | p::P,c::bs,0,b,h,e=>by cases e;exact ⟨p,rfl,h.1⟩
 | p::P,c::bs,i+1,b,h,e=>by
  obtain ⟨p',B,J⟩:=OrdAt.get (ps:=P) (oa:=bs) (i:=i) h.2 (by simpa using e)
  exact ⟨p',by simpa using B,J⟩
theorem OrdAt.two {H:Hp} {oa:List Addr} {A B:List (Nat×List Nat)} {p1 p2:Nat×List Nat} (h:OrdAt H oa (A++p1::p2::B)):∃ O U Z OB,oa=O++U::Z::OB /\ O.length=A.length /\ OrdAt H O A /\ H U=some (.lst (nL p1.2)) /\ H Z=some (.lst (nL p2.2)) /\ OrdAt H OB B:=by
 obtain ⟨O,R,e1,e2,e3,J⟩:=h.split
 match R,J with
 | U::Z::OB,J=>exact ⟨O,U,Z,OB,e1,e2,e3,J.1,J.2.1,J.2.2⟩
 | [U],J=>exact J.2.elim
 | [],J=>exact J.elim
theorem atI_refs {oa:List Addr} {m:Nat} {b:Addr} (h:oa[m]?=some b):atI (oa.map V.ref) (m:Int)=some (.ref b):=ZAY (by omega) (by rw [Int.toNat_natCast,yAT,h];rfl)
theorem ZA6 {α:Type} (X:List α) (x:α) (Y:List α):(X++x::Y)[X.length]?=some x:=by rw [yBE (yAA _),yBF];rfl
theorem ZCG {α:Type} (X:List α) (x y:α) (Y:List α):(X++x::y::Y)[X.length+1]?=some y:=by rw [yBE (by omega),Nat.add_sub_cancel_left];rfl
theorem set_mid {α:Type} (X:List α) (x y:α) (Y:List α):(X++x::Y).set X.length y=X++y::Y:=by rw [List.set_append_right _ _ (yAA _),yBF];rfl
theorem er_mid2 {α:Type} (X:List α) (x y:α) (Y:List α):(X++x::y::Y).eraseIdx (X.length+1)=X++x::Y:=by rw [List.eraseIdx_append_of_length_le (by omega),Nat.add_sub_cancel_left];rfl
theorem atI_m2 {l:List V} {x y:V}:atI (l++[x,y]) (-2)=some x:=by
 unfold atI ixN
 rw [yAB,show ([x,y]:List V).length=2 from rfl,if_neg (by decide),if_pos (by omega),show ((-2:Int)+((l.length+2:Nat):Int)).toNat=l.length by omega]
 exact ZA6 l x [y]
theorem atI_m1 {l:List V} {y:V}:atI (l++[y]) (-1)=some y:=by
 unfold atI ixN
 rw [yAB,show ([y]:List V).length=1 from rfl,if_neg (by decide),if_pos (by omega),show ((-1:Int)+((l.length+1:Nat):Int)).toNat=l.length by omega]
 exact ZA6 l y []
structure PileAt (CP:Addr) (H:Hp) (x a fs od gr:Addr) (ls s e r:Nat) (oa:List Addr) (ps:List (Nat×List Nat)) (gs:List Nat):Prop where
 hp:Ins H x CP (fPl a ls s e r fs od gr)
 hfs:H fs=some (.lst (nL (ps.map Prod.fst)))
 hod:H od=some (.lst (oa.map V.ref))
 hgr:H gr=some (.lst (nL gs))
 oat:OrdAt H oa ps
 ne:fs≠od /\ fs≠gr /\ od≠gr
 nb:∀ b∈oa,b∉[fs,od,gr]
structure PXl (a rl ru lg tl x fs od gr:Addr) (oa:List Addr):Prop where
 n1:x∉[a,lg,tl] /\ fs∉[a,lg,tl] /\ od∉[a,lg,tl] /\ gr∉[a,lg,tl]
 n2:∀ b∈oa,b∉[a,lg,tl]
 n3:rl∉[fs,od,gr]
 nr:ru≠x
section
variable {CP:Addr} {H H':Hp} {x a fs od gr:Addr} {ls s e r:Nat} {oa:List Addr} {ps:List (Nat×List Nat)} {gs:List Nat}
theorem PileAt.fr {S:List Addr} (h:PileAt CP H x a fs od gr ls s e r oa ps gs) (f:Fr S H H') (n:x∉S /\ fs∉S /\ od∉S /\ gr∉S) (J:∀ b∈oa,b∉S):PileAt CP H' x a fs od gr ls s e r oa ps gs :=
 ⟨ZDA f n.1 h.hp,f _ _ n.2.1 h.hfs,f _ _ n.2.2.1 h.hod,f _ _ n.2.2.2 h.hgr,h.oat.keep fun b B o=>f b o (J b B),h.ne,h.nb⟩
theorem PileAt.mono (h:PileAt CP H x a fs od gr ls s e r oa ps gs) (f:Same H H'):PileAt CP H' x a fs od gr ls s e r oa ps gs:=h.fr (S:=[]) f.fr ⟨yBL,yBL,yBL,yBL⟩ fun _ _=>yBL
theorem PileAt.lsts (h:PileAt CP H x a fs od gr ls s e r oa ps gs):∀ c∈[fs,od,gr],∃ l,H c=some (.lst l):=fun c hc=>by
 rcases yAE.mp hc with z | z
 .rw [z];exact ⟨_,h.hfs⟩
 rcases yAE.mp z with z | z
 .rw [z];exact ⟨_,h.hod⟩
 .rw [yAO.mp z];exact ⟨_,h.hgr⟩
theorem PileAt.xl (h:PileAt CP H x a fs od gr ls s e r oa ps gs):x∉[fs,od,gr]:=fun z=>by
 obtain ⟨l,hl⟩:=h.lsts x z
 exact h.hp.ne hl (fun _ _ _ z=>by cases z) rfl
end
theorem SitL.butN {CA CR C d x:Addr} {f:List (Str×V)} {H H':Hp} {ks:List Int} {xs:RowC} {a rl ru tl g lg:Addr} {pr:List (Nat×Nat)} (h:SitL CA CR H ks xs a rl ru tl g lg pr) (hx:H x=some (.ins C d f)) (nx:x∉[a,lg,tl]) (J:ru≠x) (e:∀ b o,b≠x->H b=some o->H' b=some o):SitL CA CR H' ks xs a rl ru tl g lg pr:=by
 have k:∀ {b:Addr} {o:HO},H b=some o->(∀ C d f,o≠.ins C d f)->H' b=some o:=fun {b o} B z=>e b o (fun m=>by rw [m,hx] at B;exact z _ _ _ (Option.some.inj B).symm) B
 have O:∀ {b C:Addr} {fl:List (Str×V)},b≠x->Ins H b C fl->Ins H' b C fl:=fun n hi=>let ⟨dx,fs,h1,h2,h3⟩:=hi.ex;⟨dx,fs,e _ _ n h1,h2,h3⟩
 have na:a≠x:=fun z=>nx (by rw [<- z];exact yAF)
 obtain ⟨ws,h4,Z⟩:=h.hlg
 obtain ⟨us,h6,h7⟩:=h.htl
 exact ⟨O na h.ha,k h.hrl (fun _ _ _ z=>by cases z),O J h.hru,h.clo.mono (fun b o B=>k B (fun _ _ _ z=>by cases z)),h.len,fun i U hk=>let ⟨r,a1,a2⟩:=h.row i U hk;⟨r,a1,k a2 (fun _ _ _ z=>by cases z)⟩,⟨ws,k h4 (fun _ _ _ z=>by cases z),Z.keep fun _ _ z=>k z (fun _ _ _ y=>by cases y)⟩,⟨us,k h6 (fun _ _ _ z=>by cases z),h7.keep fun _ _ z=>k z (fun _ _ _ y=>by cases y)⟩,h.ne⟩
noncomputable def ZBi (CA CP:Addr):Sp:=fun vs H Q _=>∃ (x dx a:Addr) (ls s e:Nat) (pz:V),vs=[.ref x,.ref a,.int ls,pz] /\ H x=some (.ins CP dx []) /\ ((∃ pt,pz=.ref pt /\ H pt=some (.tup [.int s,.int e]))∨(pz=.non /\ s=0 /\ a≠x /\ ∃ rl ru m n tl xs,Ins H a CA (fA rl ru m n tl) /\ H rl=some (.lst xs) /\ xs.length=e)) /\
 ∀ fs od gr H',(∀ b o,b≠x->H b=some o->H' b=some o)->H fs=none->H od=none->H gr=none->PileAt CP H' x a fs od gr ls s e s [] [] []->Q .non H'
noncomputable def ZCj (CP:Addr):Sp:=fun vs H Q _=>∃ (x a fs od gr:Addr) (ls s e r:Nat) (oa:List Addr) (A:List (Nat×List Nat)) (p:Nat×List Nat) (B:List (Nat×List Nat)) (gs:List Nat),vs=[.ref x,.int (A.length:Nat)] /\ PileAt CP H x a fs od gr ls s e r oa (A++p::B) gs /\ Q (.int (bB B r:Nat)) H
noncomputable def ZE6 (CP:Addr):Sp:=fun vs H Q _=>∃ (x a fs od gr:Addr) (ls s e r:Nat) (oa:List Addr) (ps:List (Nat×List Nat)) (gs:List Nat),vs=[.ref x] /\ PileAt CP H x a fs od gr ls s e r oa ps gs /\ Q (.bl (dueB gs)) H
noncomputable def ZD1 (CP:Addr):Sp:=fun vs H Q _=>∃ (x a fs od gr:Addr) (ls s e r:Nat) (oa:List Addr) (A:List (Nat×List Nat)) (p:Nat×List Nat) (gs:List Nat) (m b:Nat),vs=[.ref x,.int m,.int b] /\ PileAt CP H x a fs od gr ls s e r oa (A++[p]) gs /\ s <= p.1 /\ p.1 < m /\ m < b /\ b <= e /\ e <= 63 /\ ∀ g:Nat,Gr.IsG ((e:Int)-s) (((p.1:Int)-s)+((m:Int)-s)) (((m:Int)-s)+((b:Int)-s)) g->g <= 240->Q (.int g) H
noncomputable def kS (k:Bool):V:=if k then .str "join" else .str "lay"
noncomputable def Left (CA CR CP:Addr) (H:Hp) (ks:List Int) (xs:RowC) (a rl ru tl g lg x fs od gr:Addr) (pr:List (Nat×Nat)) (ls s e:Nat) (oa:List Addr) (k:Bool) (v1 v2 v3:Nat) (L:List (Nat×Nat)) (oa':List Addr) (ps':List (Nat×List Nat)) (gs':List Nat) (r':Nat) (t:Addr) (H':Hp):Prop :=
 Fr [x,fs,od,gr,a,lg,tl] H H' /\ (∀ b∈oa',b∈oa∨H b=none) /\ H' t=some (.tup [kS k,.int v1,.int v2,.int v3]) /\ PileAt CP H' x a fs od gr ls s e r' oa' ps' gs' /\ PXl a rl ru lg tl x fs od gr oa' /\ SitL CA CR H' ks xs a rl ru tl g lg (pr++L)
noncomputable def ZC2 (CA CR CP:Addr):Sp:=fun vs H Q _=>∃ (ks:List Int) (xs:RowC) (a rl ru tl g lg x fs od gr:Addr) (pr:List (Nat×Nat)) (ls s e r:Nat) (oa:List Addr) (A:List (Nat×List Nat)) (v1 v2:Nat) (o1 o2:List Nat) (B:List (Nat×List Nat)) (gs:List Nat),vs=[.ref x,.int (A.length:Nat)] /\ SitL CA CR H ks xs a rl ru tl g lg pr /\ PileAt CP H x a fs od gr ls s e r oa (A++(v1,o1)::(v2,o2)::B) gs /\ PXl a rl ru lg tl x fs od gr oa /\ Ch ks s (A++(v1,o1)::(v2,o2)::B) r /\ A.length < gs.length /\ r <= ks.length /\ ks.length <= 63 /\ pr.length <= 13000 /\
 ∀ t H' o L oa',JT ks o1 o2 0 0 0 true o L->Left CA CR CP H ks xs a rl ru tl g lg x fs od gr pr ls s e oa true v1 v2 (bB B r) L oa' (A++(v1,o)::B) (gs.eraseIdx A.length) r t H'->Q (.ref t) H'
noncomputable def ZE5 (CA CR CP:Addr):Sp:=fun vs H Q _=>∃ (ks:List Int) (xs:RowC) (a rl ru tl g lg x fs od gr:Addr) (pr:List (Nat×Nat)) (ls s e r:Nat) (oa:List Addr) (ps:List (Nat×List Nat)) (gs:List Nat),vs=[.ref x] /\ SitL CA CR H ks xs a rl ru tl g lg pr /\ PileAt CP H x a fs od gr ls s e r oa ps gs /\ PXl a rl ru lg tl x fs od gr oa /\ PInv ks s e r ps gs /\ dueB gs=false /\ r < e /\ e <= ks.length /\ ks.length <= 63 /\ ls <= 500 /\ pr.length <= 13000 /\
 ∀ t H' v2 v3 L oa' ps' gs' f os l,StL ks ls s e ps gs r r v2 v3 L ps' gs' v3 f os l->Left CA CR CP H ks xs a rl ru tl g lg x fs od gr pr ls s e oa false r v2 v3 L oa' ps' gs' v3 t H'->Q (.ref t) H'
noncomputable def ZDm (CA CR CP:Addr):Sp:=fun vs H Q _=>∃ (ks:List Int) (xs:RowC) (a rl ru tl g lg x fs od gr:Addr) (pr:List (Nat×Nat)) (ls s e r:Nat) (oa:List Addr) (ps:List (Nat×List Nat)) (gs:List Nat),vs=[.ref x] /\ SitL CA CR H ks xs a rl ru tl g lg pr /\ PileAt CP H x a fs od gr ls s e r oa ps gs /\ PXl a rl ru lg tl x fs od gr oa /\ PInv ks s e r ps gs /\ e <= ks.length /\ ks.length <= 63 /\ ls <= 500 /\ pr.length <= 13000 /\
 (dueB gs=false->r=e->ps.length <= 1->Q .non H) /\
 ∀ t H' k v1 v2 v3 L oa' ps' gs' r',Stp ks ls s e ps gs r k v1 v2 v3 L ps' gs' r'->Left CA CR CP H ks xs a rl ru tl g lg x fs od gr pr ls s e oa k v1 v2 v3 L oa' ps' gs' r' t H'->Q (.ref t) H'
noncomputable def ZD0 (CP:Addr):Sp:=fun vs H Q _=>∃ (x a fs od gr:Addr) (ls s e r:Nat) (oa:List Addr) (ps:List (Nat×List Nat)) (gs:List Nat),vs=[.ref x] /\ PileAt CP H x a fs od gr ls s e r oa ps gs /\ (flt ps).length <= 63 /\ r <= e /\ e <= 63 /\ ∀ l H',Same H H'->H l=none->H' l=some (.lst (nL (flt ps++List.range' r (e-r))))->Q (.ref l) H'
theorem bB_ne {A:List (Nat×List Nat)} {p1 p2:Nat×List Nat} {B C:List (Nat×List Nat)} {r r':Nat} (h:p1.1=p2.1):bB (A++p1::B) r=bB (A++p2::C) r':=by
 cases A with
 | nil=>exact h
 | cons a A=>rfl
inductive Rn (ks:List Int) (ls s e:Nat):List (Nat×List Nat)->List Nat->Nat->List (Nat×Nat)->List (Nat×List Nat)->List Nat->Nat->Prop
 | nil {ps:List (Nat×List Nat)} {gs:List Nat} {r:Nat}:Rn ks ls s e ps gs r [] ps gs r
 | snoc {ps ps1 ps2:List (Nat×List Nat)} {gs gs1 gs2:List Nat} {r r1 r2:Nat} {L L':List (Nat×Nat)} {k:Bool} {v1 v2 v3:Nat}:Rn ks ls s e ps gs r L ps1 gs1 r1->Stp ks ls s e ps1 gs1 r1 k v1 v2 v3 L' ps2 gs2 r2->Rn ks ls s e ps gs r (L++L') ps2 gs2 r2
theorem Rn.inv {ks:List Int} {ls s e:Nat} {ps ps1:List (Nat×List Nat)} {gs gs1:List Nat} {r r1:Nat} {L:List (Nat×Nat)} (h:Rn ks ls s e ps gs r L ps1 gs1 r1) (i:PInv ks s e r ps gs):PInv ks s e r1 ps1 gs1:=by
 induction h with
 | nil=>exact i
 | snoc a b ih=>exact b.inv (ih i)
noncomputable def Fin' (e:Nat) (ps:List (Nat×List Nat)) (gs:List Nat) (r:Nat):Prop:=dueB gs=false /\ r=e /\ ps.length <= 1
theorem Fin'.no {ks:List Int} {ls s e:Nat} {ps:List (Nat×List Nat)} {gs:List Nat} {r:Nat} {k:Bool} {v1 v2 v3:Nat} {L:List (Nat×Nat)} {J:List (Nat×List Nat)} {gs':List Nat} {r':Nat} (f:Fin' e ps gs r) (h:Stp ks ls s e ps gs r k v1 v2 v3 L J gs' r'):False:=by
 obtain ⟨f1,U,O⟩:=f
 rcases h with ⟨_,_,A,o1,o2,o,B,j⟩ | ⟨_,f,os,l,j⟩
 .rw [j.e1,yAB,yAH,yAH] at O;omega
 .have:=j.lt;omega
theorem Rn.head {ks:List Int} {ls s e:Nat} {ps ps2:List (Nat×List Nat)} {gs gs2:List Nat} {r r2:Nat} {L:List (Nat×Nat)} (h:Rn ks ls s e ps gs r L ps2 gs2 r2):(L=[] /\ ps=ps2 /\ gs=gs2 /\ r=r2)∨∃ k v1 v2 v3 B L2 ps1 gs1 r1,L=B++L2 /\ Stp ks ls s e ps gs r k v1 v2 v3 B ps1 gs1 r1 /\ Rn ks ls s e ps1 gs1 r1 L2 ps2 gs2 r2:=by
 induction h with
 | nil=>exact .inl ⟨rfl,rfl,rfl,rfl⟩
 | snoc a b ih=>
  rcases ih with ⟨rfl,rfl,rfl,rfl⟩ | ⟨k',U,w2,w3,B,L2,O,J,r3,rfl,c1,Z⟩
  .exact .inr ⟨_,_,_,_,_,[],_,_,_,by simp,b,.nil⟩
  .exact .inr ⟨k',U,w2,w3,B,_,O,J,r3,yAK ..,c1,.snoc Z b⟩
theorem ZEb {x fs od gr a lg tl b:Addr} (J:b≠x) (h1:b≠fs) (h2:b≠od) (h3:b≠gr) (B:b∉[a,lg,tl]):b∉[x,fs,od,gr,a,lg,tl]:=fun z=>by
 rcases yAE.mp z with z | z
 .exact J z
 rcases yAE.mp z with z | z
 .exact h1 z
 rcases yAE.mp z with z | z
 .exact h2 z
 rcases yAE.mp z with z | z
 .exact h3 z
 .exact B z
theorem Rn.cost {ks:List Int} {ls s e:Nat} {ps ps1:List (Nat×List Nat)} {gs gs1:List Nat} {r r1:Nat} {L:List (Nat×Nat)} (h:Rn ks ls s e ps gs r L ps1 gs1 r1) (i:PInv ks s e r ps gs) (B:e-s <= 63):L.length+126 * ps1.length+191 * (r-s) <= 126 * ps.length+191 * (r1-s):=by
 induction h with
 | nil=>simp
 | snoc a b ih=>
  have J:=a.inv i
  have:=b.cost J B (by have:=J.ch.le;omega)
  rw [yAB]
  have:=ih i
  omega
noncomputable def JIn (J M:Nat->Nat):Nat->List (Nat×List Nat)->List Nat->Nat->Prop
 | _,[],_,_=>True
 | w,p::ps,gs,r=>(∀ u,p.1 <= u->u < bB ps r->J u+max w (gs.headD 0) <= M u) /\ JIn J M (gs.headD 0) ps gs.tail r
theorem JIn.ext {ks:List Int} {J J' M B:Nat->Nat}:∀ {ps:List (Nat×List Nat)} {gs:List Nat} {w x r:Nat},Ch ks x ps r->(∀ u,x <= u->u < r->J' u <= J u)->(∀ u,x <= u->u < r->M u <= B u)->JIn J M w ps gs r->JIn J' B w ps gs r
 | [],gs,w,x,r,_,_,_,_=>trivial
 | (f,o)::ps,gs,w,x,r,⟨e,m,hm,_,hc⟩,hJ,hM,⟨a,b⟩=>by
  have U:=hc.bey
  have e2:=hc.le
  subst e
  refine ⟨fun u h1 h2=>?_,JIn.ext hc (fun u h1 h2=>hJ u (by omega) h2) (fun u h1 h2=>hM u (by omega) h2) b⟩
  have O:f <= u:=h1
  have h3:=a u h1 h2
  have Z:=hJ u (by omega) (by omega)
  have h5:=hM u (by omega) (by omega)
  omega
theorem Ch.at_le {ks:List Int} {x r:Nat} {A B:List (Nat×List Nat)} {p:Nat×List Nat} (h:Ch ks x (A++p::B) r):x <= p.1:=by
 obtain ⟨m,h1,h2⟩:=Ch.app.mp h
 have:=h1.le
 have e:p.1=m:=h2.1
 omega
theorem JIn.join {ks:List Int} {J J' M:Nat->Nat} {p1 p2:Nat×List Nat} {B:List (Nat×List Nat)} {r:Nat} {o:List Nat} (hj:∀ u,J' u <= J u+1) (hn:∀ u,¬ (p1.1 <= u /\ u < bB B r)->J' u <= J u) :
  ∀ {A:List (Nat×List Nat)} {gs:List Nat} {w x:Nat},Ch ks x (A++p1::p2::B) r->JIn J M w (A++p1::p2::B) gs r->(w::gs).getD A.length 0 < gs.getD A.length 0->gs.getD (A.length+1) 0 < gs.getD A.length 0->JIn J' M w (A++(p1.1,o)::B) (gs.eraseIdx A.length) r
 | [],[],w,x,hc,hi,h1,h2=>by simp at h1
 | [],v::gs,w,x,hc,hi,h1,h2=>by
  have h1:w < v:=h1
  have h2:gs.headD 0 < v:=by cases gs <;> exact h2
  obtain ⟨U,O,i3⟩:=hi
  obtain ⟨e1,m1,l1,_,e2,m2,l2,_,hB⟩:=hc
  have e1:p1.1=x:=e1
  have e2:p2.1=m1:=e2
  have eb:=hB.bey
  refine ⟨fun u a b=>?_,JIn.ext hB (fun u a b=>hn u (by omega)) (fun u _ _=>yAA _) i3⟩
  have a:p1.1 <= u:=a
  have b:u < bB B r:=b
  have hj:=hj u
  show J' u+max w (gs.headD 0) <= M u
  by_cases c:u < p2.1
  .have U:J u+max w v <= M u:=U u a c
   omega
  .have O:J u+max v (gs.headD 0) <= M u:=O u (by omega) b
   omega
 | a::A,[],w,x,hc,hi,h1,h2=>by simp at h1
 | a::A,g::gs,w,x,hc,hi,h1,h2=>by
  obtain ⟨U,O⟩:=hi
  obtain ⟨e1,m,l1,_,hc⟩:=hc
  have hc:Ch ks m (A++p1::p2::B) r:=hc
  have hb:=hc.bey
  have hl:=hc.at_le
  refine ⟨fun u b1 Z=>?_,JIn.join hj hn hc O h1 h2⟩
  have Z:u < bB (A++(p1.1,o)::B) r:=Z
  rw [bB_ne (p1:=(p1.1,o)) (p2:=p1) (C:=p2::B) (r':=r) rfl] at Z
  have b1:a.1 <= u:=b1
  have h3:J u+max w g <= M u:=U u b1 Z
  have h4:=hn u (by omega)
  show J' u+max w g <= M u
  omega
theorem JIn.lay {ks:List Int} {J M B:Nat->Nat} {p:Nat×List Nat} {r g v3:Nat} {o:List Nat} (hM:∀ u,u < r->M u <= B u) (h1:∀ u,p.1 <= u->u < v3->J u=0 /\ g <= B u) (hr:r <= v3) :
  ∀ {A:List (Nat×List Nat)} {gs:List Nat} {w x:Nat},gs.length=A.length->Ch ks x (A++[p]) r->JIn J M w (A++[p]) gs r->JIn J B w (A++[p]++[(r,o)]) (gs++[g]) v3
 | [],g'::gs,w,x,hl,hc,hi=>by simp at hl
 | [],[],w,x,hl,hc,hi=>by
  obtain ⟨O,_⟩:=hi
  obtain ⟨Z,m,l1,_,e2⟩:=hc
  have Z:p.1=x:=Z
  have e2:m=r:=e2
  refine ⟨fun u a b=>?_,fun u a b=>?_,trivial⟩
  .have b:u < r:=b
   have O:J u+max w 0 <= M u:=O u a b
   have:=hM u b
   have h2:=h1 u a (by omega)
   show J u+max w g <= B u
   omega
  .have a:r <= u:=a
   have b:u < v3:=b
   have h2:=h1 u (by omega) b
   show J u+max g 0 <= B u
   omega
 | a::A,[],w,x,hl,hc,hi=>by simp at hl
 | a::A,g'::gs,w,x,hl,hc,hi=>by
  obtain ⟨O,i2⟩:=hi
  obtain ⟨Z,m,l1,_,hc⟩:=hc
  have hc:Ch ks m (A++[p]) r:=hc
  have hb:=hc.bey
  have a0:=hc.le
  refine ⟨fun u b1 U=>?_,JIn.lay hM h1 hr (by simpa using hl) hc i2⟩
  have U:u < bB (A++[p]++[(r,o)]) v3:=U
  rw [show A++[p]++[(r,o)]=A++p::[(r,o)] by simp,bB_ne (p1:=p) (p2:=p) (C:=[]) (r':=r) rfl] at U
  have h3:J u+max w g' <= M u:=O u b1 U
  have h4:=hM u (by omega)
  show J u+max w g' <= B u
  omega
noncomputable def LCh:Nat->List (Nat×Nat)->Nat->Prop
 | x,[],y=>x=y
 | x,(a,b)::l,y=>a=x /\ a < b /\ LCh b l y
theorem LCh.le:∀ {l:List (Nat×Nat)} {x y:Nat},LCh x l y->x+l.length <= y
 | [],x,y,h=>by have h:x=y:=h;simp;omega
 | (a,b)::l,x,y,⟨h1,h2,h3⟩=>by have:=LCh.le h3;rw [yAH];omega
theorem LCh.snoc:∀ {l:List (Nat×Nat)} {x y z:Nat},LCh x l y->y < z->LCh x (l++[(y,z)]) z
 | [],x,y,z,h,hz=>⟨Eq.symm h,hz,rfl⟩
 | (a,b)::l,x,y,z,⟨h1,h2,h3⟩,hz=>⟨h1,h2,LCh.snoc h3 hz⟩
theorem LCh.get:∀ {l:List (Nat×Nat)} {x y k a b:Nat},LCh x l y->l[k]?=some (a,b)->x <= a /\ a < b /\ b <= y
 | [],x,y,k,a,b,h,hk=>by simp at hk
 | (c,d)::l,x,y,0,a,b,⟨h1,h2,h3⟩,hk=>by
  cases hk
  have:=LCh.le h3
  omega
 | (c,d)::l,x,y,k+1,a,b,⟨h1,h2,h3⟩,hk=>by
  have:=LCh.get h3 (k:=k) (by simpa using hk)
  omega
theorem LCh.next:∀ {l:List (Nat×Nat)} {x y k a b c d:Nat},LCh x l y->l[k]?=some (a,b)->l[k+1]?=some (c,d)->c=b
 | [],x,y,k,a,b,c,d,h,hk,_=>by simp at hk
 | (e,f)::[],x,y,0,a,b,c,d,⟨h1,h2,h3⟩,hk,hk2=>by simp at hk2
 | (e,f)::(g,i)::l,x,y,0,a,b,c,d,⟨h1,h2,h3,_⟩,hk,hk2=>by
  cases hk
  cases hk2
  exact h3
 | (e,f)::l,x,y,k+1,a,b,c,d,⟨h1,h2,h3⟩,hk,hk2=>LCh.next h3 (k:=k) (by simpa using hk) (by simpa using hk2)
noncomputable def Mu:Nat->List (Nat×Nat)->List Nat->Nat->Nat
 | _,[],_,_=>0
 | w,(_,b)::l,Gs,u=>if u < b then max w (Gs.headD 0) else Mu (Gs.headD 0) l Gs.tail u
theorem Mu_get {u:Nat}:∀ {l:List (Nat×Nat)} {Gs:List Nat} {w x y k a b:Nat},LCh x l y->l[k]?=some (a,b)->a <= u->u < b->Mu w l Gs u=max ((w::Gs).getD k 0) (Gs.getD k 0)
 | [],Gs,w,x,y,k,a,b,h,B,_,_=>by simp at B
 | (c,d)::l,Gs,w,x,y,0,a,b,⟨h1,h2,h3⟩,B,ha,hb=>by
  cases B
  show (if u < d then _ else _)=_
  rw [if_pos hb]
  cases Gs <;> rfl
 | (c,d)::l,Gs,w,x,y,k+1,a,b,⟨h1,h2,h3⟩,B,ha,hb=>by
  have B:l[k]?=some (a,b):=by simpa using B
  have J:=LCh.get h3 B
  show (if u < d then _ else _)=_
  rw [if_neg (by omega),Mu_get (Gs:=Gs.tail) (w:=Gs.headD 0) h3 B ha hb]
  cases Gs with
  | nil=>cases k <;> simp
  | cons g Gs=>rfl
theorem ZEm {p r v3 g u:Nat}:∀ {L:List (Nat×Nat)} {Gs:List Nat} {w x:Nat},LCh x (L++[(p,r)]) r->Gs.length=L.length->(u < r->Mu w (L++[(p,r)]) Gs u <= Mu w (L++[(p,r)]++[(r,v3)]) (Gs++[g]) u) /\ (p <= u->u < v3->g <= Mu w (L++[(p,r)]++[(r,v3)]) (Gs++[g]) u)
 | [],g'::Gs,w,x,h,hl=>by simp at hl
 | [],[],w,x,h,hl=>by
  show (u < r->(if u < r then max w 0 else 0) <= (if u < r then max w g else if u < v3 then max g 0 else 0)) /\ (p <= u->u < v3->g <= (if u < r then max w g else if u < v3 then max g 0 else 0))
  refine ⟨fun h1=>?_,fun h1 h2=>?_⟩
  .rw [if_pos h1,if_pos h1];omega
  .rw [if_pos h2];split <;> omega
 | (a,b)::L,[],w,x,h,hl=>by simp at hl
 | (a,b)::L,g'::Gs,w,x,⟨h1,h2,h3⟩,hl=>by
  obtain ⟨J,O⟩:=ZEm (v3:=v3) (g:=g) (u:=u) (L:=L) (Gs:=Gs) (w:=g') h3 (by simpa using hl)
  have Z:b <= p:=(LCh.get h3 (k:=L.length) (a:=p) (b:=r) (ZA6 ..)).1
  show (u < r->(if u < b then max w g' else Mu g' (L++[(p,r)]) Gs u) <= (if u < b then max w g' else Mu g' (L++[(p,r)]++[(r,v3)]) (Gs++[g]) u)) /\ (p <= u->u < v3->g <= (if u < b then max w g' else Mu g' (L++[(p,r)]++[(r,v3)]) (Gs++[g]) u))
  refine ⟨fun B=>?_,fun B U=>?_⟩
  .split
   .exact yAA _
   .exact J B
  .rw [if_neg (by omega)];exact O B U
noncomputable def fL (s:Nat) (ls:List (Nat×Nat)) (j:Nat):Int:=((ls[j]?).map fun q=>((q.1:Int)-s)+((q.2:Int)-s)).getD 0
theorem ZEE {s j a b:Nat} {ls:List (Nat×Nat)} (h:ls[j]?=some (a,b)):fL s ls j=((a:Int)-s)+((b:Int)-s):=by unfold fL;rw [h];rfl
theorem fL_app {s j:Nat} {ls r:List (Nat×Nat)} (h:j < ls.length):fL s (ls++r) j=fL s ls j:=by unfold fL;rw [yAY h]
theorem fL_in {s e r j:Nat} {ls:List (Nat×Nat)} (h:LCh s ls r) (O:r <= e) (J:j < ls.length):0 <= fL s ls j /\ fL s ls j < 2 * ((e:Int)-s):=by
 obtain ⟨⟨a,b⟩,B⟩:∃ c,ls[j]?=some c:=⟨_,yAJ J⟩
 have:=h.get B
 rw [ZEE B]
 omega
theorem fL_up {s r j:Nat} {ls:List (Nat×Nat)} (h:LCh s ls r) (O:j+1 < ls.length):fL s ls j+2 <= fL s ls (j+1):=by
 obtain ⟨⟨a,b⟩,J⟩:∃ c,ls[j]?=some c:=⟨_,yAJ (by omega)⟩
 obtain ⟨⟨c,d⟩,B⟩:∃ c,ls[j+1]?=some c:=⟨_,yAJ O⟩
 have h1:=h.get J
 have h2:=h.get B
 have h3:=h.next J B
 rw [ZEE J,ZEE B]
 omega
theorem Pil.congr {m:Int} {f Z:Nat->Int} {gr B:Nat->Nat} {k:Nat} {gs:List Nat} (P:Gr.Pil m f gr k gs) (O:∀ j,j <= k->0 < k->Z j=f j) (J:∀ j,j < k->B j=gr j):Gr.Pil m Z B k gs :=
 ⟨fun j U=>by rw [O j (by omega) (by omega),O (j+1) (by omega) (by omega),J j U];exact P.g j U,P.srt,fun x hx=>by
  obtain ⟨i,h1,h2,h3⟩:=P.at' x hx
  exact ⟨i,h1,by rw [J i h1];exact h2,fun j q1 q2=>by rw [J j q2];exact h3 j q1 q2⟩⟩
theorem Pil.pos {m:Int} {f:Nat->Int} {gr:Nat->Nat} {k:Nat} {gs:List Nat} (P:Gr.Pil m f gr k gs) {x:Nat} (B:x∈gs):0 < x:=by
 obtain ⟨i,h1,h2,_⟩:=P.at' x B
 have:=(P.g i h1).pos
 omega
noncomputable def gD (Gs:List Nat) (j:Nat):Nat:=Gs.getD j 0
structure P54 (ks:List Int) (s e:Nat) (ls:List (Nat×Nat)) (Gs:List Nat) (J:Nat->Nat) (ps:List (Nat×List Nat)) (gs:List Nat) (r:Nat):Prop where
 lc:LCh s ls r
 gl:Gs.length=ls.length-1
 gg:∀ k g,Gs[k]?=some g->Gr.IsG ((e:Int)-s) (fL s ls k) (fL s ls (k+1)) g
 ne:ps=[]->ls=[]
 tp:r < e->∀ A p,ps=A++[p]->(∃ L,ls=L++[(p.1,r)]) /\ ∀ u,p.1 <= u->J u=0
 z:∀ u,u < s∨r <= u->J u=0
 ji:JIn J (Mu 0 ls Gs) 0 ps gs r
 pl:Gr.Pil ((e:Int)-s) (fL s ls) (gD Gs) Gs.length gs∨∃ P g H,gs=P++[g] /\ Gs=H++[g] /\ Gr.Pil ((e:Int)-s) (fL s ls) (gD Gs) H.length P
theorem P54.pil {ks:List Int} {s e r:Nat} {ls:List (Nat×Nat)} {Gs gs:List Nat} {J:Nat->Nat} {ps:List (Nat×List Nat)} (h:P54 ks s e ls Gs J ps gs r) (hr:r <= e) (B:dueB gs=false):Gr.Pil ((e:Int)-s) (fL s ls) (gD Gs) Gs.length gs:=by
 rcases h.pl with z | ⟨P,g,H,e1,O,P1⟩
 .exact z
 have hl:=h.gl
 rw [O,yAB,yAS] at hl
 have a1:=h.lc.le
 have hg:Gr.IsG ((e:Int)-s) (fL s ls H.length) (fL s ls (H.length+1)) g:=h.gg H.length g (by rw [O];exact ZA6 ..)
 have Z:=P1.no (g:=g) (by omega) (fun j hj=>fL_in h.lc hr (by omega)) (fun j hj=>by have:=fL_up h.lc (j:=j) (by omega);omega) hg
 have a0:∀ x∈P,x < g:=fun x U=>by
  rcases List.eq_nil_or_concat P with z | ⟨P',v,z⟩
  .rw [z] at U;cases U
  .rw [List.concat_eq_append] at z
   subst z
   rw [e1,yAK] at B
   have B:dueB (P'++[v,g])=false:=B
   rw [ZDf] at B
   have hv:¬ g < v:=of_decide_eq_false B
   have h1:=Gr.last_le P1.srt (show v <= g by omega) x U
   have:x≠g:=fun z=>Z (z ▸ U)
   omega
 have h2:=P1.push hg a0
 rw [e1,show Gs.length=H.length+1 by rw [O,yAB,yAS]]
 refine Pil.congr h2 (fun _ _ _=>rfl) (fun j hj=>?_)
 by_cases q:j=H.length
 .rw [if_pos q,q,O];unfold gD;rw [yBH,ZA6];rfl
 .rw [if_neg q]
theorem left_of {G R:List Nat} {v:Nat} (h:(G++v::R).Pairwise (· < ·)) (B:0 < v):(0::(G++v::R)).getD G.length 0 < v:=by
 rcases List.eq_nil_or_concat G with z | ⟨J,w,z⟩
 .rw [z];exact B
 .rw [List.concat_eq_append] at z
  subst z
  rw [yBH,yAB,yAS,List.getElem?_cons_succ,yAK,show [w]++v::R=w::(v::R) from rfl,ZA6]
  exact (yBK.mp h).2.2 w (by simp) v (by simp)
theorem P54.join {ks:List Int} {s e r v1 v2 v3:Nat} {L:List (Nat×Nat)} {ls:List (Nat×Nat)} {Gs gs gs':List Nat} {J J':Nat->Nat} {ps a6:List (Nat×List Nat)} {A:List (Nat×List Nat)} {o1 o2 o:List Nat} {B:List (Nat×List Nat)} (h:P54 ks s e ls Gs J ps gs r) (pi:PInv ks s e r ps gs) (st:StJ ks e ps gs r v1 v2 v3 L a6 gs' A o1 o2 o B) (hJ:∀ u,J' u=if v1 <= u /\ u < v3 then J u+1 else J u):P54 ks s e ls Gs J' a6 gs' r:=by
 have e1:=st.e1
 have e2:=st.e2
 have e3:=st.e3
 have e4:=st.e4
 subst e1 e2 e3 e4
 have gl:=pi.gl
 rw [yAB,yAH,yAH] at gl
 have aa:gs.getD A.length 0 < gs.getD A.length 0+1->True:=fun _=>trivial
 have a5:=pi.ch
 obtain ⟨a9,c1,c2,c3,_,_,c6,_⟩:=a5.two
 have c7:=c6.bey
 have c8:=c6.le
 have c9:=c1.le
 have ji:(0::gs).getD A.length 0 < gs.getD A.length 0->gs.getD (A.length+1) 0 < gs.getD A.length 0->JIn J' (Mu 0 ls Gs) 0 (A++(v1,o)::B) (gs.eraseIdx A.length) r:=fun h1 h2=>
  JIn.join (p1:=(v1,o1)) (p2:=(v2,o2)) (fun u=>by rw [hJ u];split <;> omega) (fun u hn=>by rw [hJ u,if_neg hn];exact yAA _) a5 h.ji h1 h2
 have hz:∀ u,u < s∨r <= u->J' u=0:=fun u hu=>by rw [hJ u,if_neg (by omega)];exact h.z u hu
 rcases st.wh with ⟨hd,hB⟩ | ⟨hd,re,hB⟩
 .obtain ⟨G,g1,g2,O⟩:=ZCu (l:=gs) (by omega)
  have U:G.length=A.length:=by
   have:=congrArg List.length O
   rw [yAB] at this
   have t2:([g1,g2]:List Nat).length=2:=rfl
   omega
  have hg:g2 < g1:=by rw [O,ZDf] at hd;exact of_decide_eq_true hd
  have a1:gs.getD A.length 0=g1:=by rw [O,yBH,<- U,ZA6];rfl
  have a2:gs.getD (A.length+1) 0=g2:=by rw [O,yBH,<- U,ZCG];rfl
  have a3:gs.eraseIdx A.length=G++[g2]:=by rw [O,<- U,List.eraseIdx_append_of_length_le (yAA _),yBF];rfl
  obtain ⟨P,g,H,b1,b2,P1⟩:∃ P g H,gs=P++[g] /\ Gs=H++[g] /\ Gr.Pil ((e:Int)-s) (fL s ls) (gD Gs) H.length P:=by
   rcases h.pl with z | z
   .have:=z.srt
    rw [O] at this
    have:=(yBK.mp this).2.1
    simp at this
    omega
   .exact z
  have b3:P=G++[g1] /\ g=g2:=by
   have:P++[g]=(G++[g1])++[g2]:=by rw [<- b1,O];simp
   have:=List.append_inj' this rfl
   exact ⟨this.1,by simpa using this.2⟩
  obtain ⟨b3,b4⟩:=b3
  subst b3 b4
  have a4:(0::gs).getD A.length 0 < g1:=by
   have h5:=left_of (G:=G) (R:=[]) P1.srt (Pil.pos P1 (by simp))
   rw [yBH] at h5 ⊢
   rw [O,<- U]
   cases G with
   | nil=>exact h5
   | cons x G=>
    rw [yAH,List.getElem?_cons_succ] at h5 ⊢
    rw [yAY (by simp)] at h5 ⊢
    exact h5
  refine ⟨h.lc,h.gl,h.gg,fun z=>by simp at z,fun a0 A' p ep=>?_,hz,ji (by rw [a1];exact a4) (by rw [a1,a2];exact hg),.inr ⟨G,g,H,a3,b2,P1.pre⟩⟩
  obtain ⟨Z,rfl⟩:∃ Z,B=[Z]:=by
   match B,hB with
   | [Z],_=>exact ⟨Z,rfl⟩
  obtain ⟨f1,f2⟩:=h.tp a0 (A++[(v1,o1),(v2,o2)]) Z (by simp)
  have a7:(A++[(v1,o)])++[Z]=A'++[p]:=by rw [<- ep];simp
  have a8:=(List.append_inj' a7 rfl).2
  obtain rfl:Z=p:=by simpa using a8
  refine ⟨f1,fun u hu=>?_⟩
  rw [hJ u,if_neg (fun z=>?_)]
  .exact f2 u hu
  .have z2:u < Z.1:=z.2
   omega
 .subst hB
  have P1:=h.pil pi.re hd
  obtain ⟨G,v,O⟩:∃ G v,gs=G++[v]:=by
   rcases List.eq_nil_or_concat gs with z | ⟨G,v,z⟩
   .rw [z] at gl;simp at gl
   .exact ⟨G,v,by rw [z,List.concat_eq_append]⟩
  have U:G.length=A.length:=by
   have:=congrArg List.length O
   rw [yAB,yAS] at this
   simp at gl
   omega
  have hv:0 < v:=Pil.pos P1 (by rw [O];simp)
  have a1:gs.getD A.length 0=v:=by rw [O,yBH,<- U,ZA6];rfl
  have a2:gs.getD (A.length+1) 0=0:=by rw [O,yBH,<- U,yBM (by simp)];rfl
  have a3:gs.eraseIdx A.length=G:=by rw [O,<- U,List.eraseIdx_append_of_length_le (yAA _),yBF];simp
  have a4:(0::gs).getD A.length 0 < v:=by rw [O,<- U];exact left_of (R:=[]) (O ▸ P1.srt) hv
  refine ⟨h.lc,h.gl,h.gg,fun z=>by simp at z,fun a0=>absurd a0 (by omega),hz,ji (by rw [a1];exact a4) (by rw [a1,a2];exact hv),.inl ?_⟩
  rw [a3]
  rw [O] at P1
  exact P1.pre
theorem P54.lay {ks:List Int} {a0 s e r v1 v2 v3 r':Nat} {L:List (Nat×Nat)} {ls:List (Nat×Nat)} {Gs gs gs':List Nat} {J:Nat->Nat} {ps Z:List (Nat×List Nat)} {f:Bool} {os:List Nat} {l:List (Nat×Nat)} (h:P54 ks s e ls Gs J ps gs r) (pi:PInv ks s e r ps gs) (st:StL ks a0 s e ps gs r v1 v2 v3 L Z gs' r' f os l):∃ a9,P54 ks s e (ls++[(v1,v3)]) a9 J Z gs' r':=by
 obtain ⟨o1,o2,o3⟩:=st.ord
 have e1:=st.e1
 have e4:=st.e4
 have e5:=st.e5
 have a5:=st.lt
 subst e1 e4 e5
 have P1:=h.pil pi.re st.wh
 have gl:=pi.gl
 have z':∀ u,u < s∨r' <= u->J u=0:=fun u U=>h.z u (by omega)
 rcases st.gr with ⟨g1,g2⟩ | ⟨A,p,g,g1,g2,g3,g4⟩
 .subst g1 g2
  have a3:=h.ne rfl
  subst a3
  have a7:Gs=[]:=yCA.mp h.gl
  have a4:gs'=[]:=yCA.mp gl
  subst a7 a4
  have a2:s=v1:=h.lc
  refine ⟨[],⟨a2.symm,o2,rfl⟩,rfl,fun k g B=>by simp at B,fun z=>by simp at z,fun _ A p ep=>?_,z',⟨fun u a b=>?_,trivial⟩,.inl ⟨fun j O=>absurd O (by simp),List.Pairwise.nil,fun x hx=>by cases hx⟩⟩
  .have aa:A=[] /\ p=(v1,os):=by
    have:=List.append_inj' (show ([]:List (Nat×List Nat))++[(v1,os)]=A++[p] from ep) rfl
    exact ⟨this.1.symm,by simpa using this.2.symm⟩
   obtain ⟨rfl,rfl⟩:=aa
   exact ⟨⟨[],rfl⟩,fun u U=>h.z u (.inr U)⟩
  .have a:v1 <= u:=a
   rw [h.z u (.inr a)]
   show 0+max 0 0 <= _
   omega
 .subst g1 g2
  obtain ⟨⟨L',eL⟩,hz⟩:=h.tp a5 A p rfl
  subst eL
  have a1:=h.gl
  rw [yAB,yAS] at a1
  have a8:gs.length=A.length:=by rw [gl,yAB,yAS];omega
  have a6:=h.lc.snoc o2
  have f1:fL s (L'++[(p.1,v1)]) Gs.length=((p.1:Int)-s)+((v1:Int)-s):=ZEE (by rw [show Gs.length=L'.length by omega];exact ZA6 ..)
  have f2:fL s (L'++[(p.1,v1)]++[(v1,r')]) (Gs.length+1)=((v1:Int)-s)+((r':Int)-s):=ZEE (by rw [show Gs.length+1=(L'++[(p.1,v1)]).length by simp;omega];exact ZA6 ..)
  have f3:∀ j,j <= Gs.length->fL s (L'++[(p.1,v1)]++[(v1,r')]) j=fL s (L'++[(p.1,v1)]) j:=fun j O=>fL_app (by rw [yAB,yAS];omega)
  have f4:∀ j,j < Gs.length->gD (Gs++[g]) j=gD Gs j:=fun j O=>by unfold gD;rw [yBH,yBH,yAY O]
  refine ⟨Gs++[g],a6,by simp;omega,fun k g' B=>?_,fun z=>by simp at z,fun _ A' p' ep=>?_,z',?_,.inr ⟨gs,g,Gs,rfl,rfl,Pil.congr P1 (fun j O _=>f3 j O) f4⟩⟩
  .rcases Nat.lt_trichotomy k Gs.length with q | q | q
   .rw [yAY q] at B
    rw [f3 k (by omega),f3 (k+1) (by omega)]
    exact h.gg k g' B
   .subst q
    rw [ZA6] at B
    cases B
    rw [f3 _ (yAA _),f1,f2]
    exact g3
   .rw [yBM (by simp;omega)] at B
    cases B
  .have:=List.append_inj' ep rfl
   obtain rfl:(v1,os)=p':=by simpa using this.2
   exact ⟨⟨L'++[(p.1,v1)],rfl⟩,fun u U=>h.z u (.inr U)⟩
  .exact JIn.lay (M:=Mu 0 (L'++[(p.1,v1)]) Gs) (fun u U=>(ZEm h.lc (by omega)).1 U) (fun u a b=>⟨hz u a,(ZEm h.lc (by omega)).2 a b⟩) (by omega) a8 pi.ch h.ji
theorem P54.fin {ks:List Int} {s e r:Nat} {ls:List (Nat×Nat)} {Gs gs:List Nat} {J:Nat->Nat} {ps:List (Nat×List Nat)} (h:P54 ks s e ls Gs J ps gs r) (B:PInv ks s e r ps gs) (h1:ps.length <= 1) (u:Nat) (hs:s <= u) (O:u < r):J u <= Mu 0 ls Gs u:=by
 have ch:=B.ch
 have ji:=h.ji
 match ps,h1 with
 | [],_=>have ch:s=r:=ch;omega
 | [p],_=>
  have U:p.1=s:=ch.1
  have:=ji.1 u (by omega) O
  omega
theorem qt_ne' {m a b:Int} {p:Nat} (B:0 < m) (h:2 * m <= (b-a) * 2 ^ p):Gr.qt m a p≠Gr.qt m b p:=by
 unfold Gr.qt
 have h1:a * 2 ^ p+2 * m <= b * 2 ^ p:=by rw [Int.sub_mul] at h;omega
 have h2:(a * 2 ^ p+2 * m) / (2 * m) <= b * 2 ^ p / (2 * m):=Int.ediv_le_ediv (by omega) h1
 rw [Int.add_ediv_of_dvd_right (Int.dvd_refl _),Int.ediv_self (by omega)] at h2
 omega
theorem g_le {m a b:Int} {g h:Nat} (B:0 < m) (x:Gr.IsG m a b g) (h1:1 <= h) (hh:2 * m <= (b-a) * 2 ^ h):g <= h :=
 Nat.le_of_not_lt fun z=>qt_ne' B hh (x.eq h h1 z)
noncomputable def SJ (J:Nat->Nat) (x:Nat):Nat->Nat
 | 0=>0
 | d+1=>SJ J x d+J (x+d)
theorem ZEP (J:Nat->Nat) (x d:Nat):∀ c,SJ J x (d+c)=SJ J x d+SJ J (x+d) c
 | 0=>rfl
 | c+1=>by
  show SJ J x (d+c)+J (x+(d+c))=SJ J x d+(SJ J (x+d) c+J (x+d+c))
  rw [ZEP J x d c,Nat.add_assoc x d c]
  omega
theorem ZFF {J:Nat->Nat} {x h:Nat}:∀ {d:Nat},(∀ u,x <= u->u < x+d->J u <= h)->SJ J x d <= d * h
 | 0,_=>yAG _
 | d+1,H=>by
  have h1:=ZFF (d:=d) fun u a b=>H u a (by omega)
  have h2:=H (x+d) (by omega) (by omega)
  show SJ J x d+J (x+d) <= (d+1) * h
  rw [Nat.succ_mul]
  omega
theorem ZEx {J J':Nat->Nat} {x c:Nat}:∀ {d:Nat},(∀ u,x <= u->u < x+d->J' u=J u+c)->SJ J' x d=SJ J x d+d * c
 | 0,_=>by show 0=0+0 * c;rw [Nat.zero_mul]
 | d+1,H=>by
  have h1:=ZEx (d:=d) (c:=c) fun u a b=>H u a (by omega)
  have h2:=H (x+d) (by omega) (by omega)
  show SJ J' x d+J' (x+d)=SJ J x d+J (x+d)+(d+1) * c
  rw [Nat.succ_mul,h1,h2]
  omega
theorem SJ_join {J J':Nat->Nat} {s e v1 v3:Nat} (h1:s <= v1) (h2:v1 <= v3) (h3:v3 <= e) (B:∀ u,J' u=if v1 <= u /\ u < v3 then J u+1 else J u):SJ J' s (e-s)=SJ J s (e-s)+(v3-v1):=by
 have O:∀ K:Nat->Nat,SJ K s (e-s)=SJ K s (v1-s)+SJ K v1 (v3-v1)+SJ K v3 (e-v3):=fun K=>by
  have a:=ZEP K s (v1-s) (e-v1)
  have b:=ZEP K v1 (v3-v1) (e-v3)
  rw [show v1-s+(e-v1)=e-s by omega,show s+(v1-s)=v1 by omega] at a
  rw [show v3-v1+(e-v3)=e-v1 by omega,show v1+(v3-v1)=v3 by omega] at b
  omega
 have a:=ZEx (J:=J) (J':=J') (x:=s) (c:=0) (d:=v1-s) fun u a b=>by rw [B u,if_neg (by omega)];rfl
 have b:=ZEx (J:=J) (J':=J') (x:=v1) (c:=1) (d:=v3-v1) fun u a b=>by rw [B u,if_pos (by omega)]
 have c:=ZEx (J:=J) (J':=J') (x:=v3) (c:=0) (d:=e-v3) fun u a b=>by rw [B u,if_neg (by omega)];rfl
 rw [O J',O J]
 omega
noncomputable def wsum:List (Nat×Nat)->List Nat->Nat
 | [],_=>0
 | (a,b)::l,hs=>(b-a) * hs.headD 0+wsum l hs.tail
theorem SJ_lays {J:Nat->Nat}:∀ {ls:List (Nat×Nat)} {hs:List Nat} {x y:Nat},LCh x ls y->(∀ k a b,ls[k]?=some (a,b)->∀ u,a <= u->u < b->J u <= hs.getD k 0)->SJ J x (y-x) <= wsum ls hs
 | [],hs,x,y,h,_=>by have h:x=y:=h;rw [h,yBF];exact yAA _
 | (a,b)::l,hs,x,y,⟨h1,h2,h3⟩,H=>by
  have h4:=LCh.le h3
  subst h1
  have i1:=ZFF (J:=J) (x:=a) (h:=hs.headD 0) (d:=b-a) fun u c d=>by
   have:=H 0 a b rfl u c (by omega)
   cases hs <;> exact this
  have i2:=SJ_lays (J:=J) (hs:=hs.tail) h3 fun k O Z B u c d=>by
   have:=H (k+1) O Z (by simpa using B) u c d
   cases hs with
   | nil=>simpa using this
   | cons g hs=>exact this
  have U:=ZEP J a (b-a) (y-b)
  rw [show b-a+(y-b)=y-a by omega,show a+(b-a)=b by omega] at U
  show SJ J a (y-a) <= (b-a) * hs.headD 0+wsum l hs.tail
  omega
theorem P54.seam {ks:List Int} {s e r:Nat} {ls:List (Nat×Nat)} {Gs gs:List Nat} {J:Nat->Nat} {ps:List (Nat×List Nat)} (h:P54 ks s e ls Gs J ps gs r) (hr:r <= e) {k a b hh u:Nat} (Z:ls[k]?=some (a,b)) (h1:1 <= hh) (h2:2 * (e-s) <= (b-a+1) * 2 ^ hh) (ha:a <= u) (hb:u < b):Mu 0 ls Gs u <= hh:=by
 rw [Mu_get h.lc Z ha hb]
 have hq:=h.lc.get Z
 have c1:((2 * (e-s):Nat):Int) <= (((b-a+1) * 2 ^ hh:Nat):Int):=Int.ofNat_le.mpr h2
 rw [show (((b-a+1) * 2 ^ hh:Nat):Int)=((b-a+1:Nat):Int) * 2 ^ hh by rw [Int.natCast_mul,Int.natCast_pow];rfl] at c1
 have c2:(((b-a+1:Nat)):Int)=(b:Int)-a+1:=by omega
 rw [c2] at c1
 have c3:2 * ((e:Int)-s) <= ((b:Int)-a+1) * 2 ^ hh:=by
  have:((2 * (e-s):Nat):Int)=2 * ((e:Int)-s):=by omega
  rw [this] at c1
  exact c1
 have O:∀ {j g:Nat},Gs[j]?=some g->(j=k∨j+1=k)->g <= hh:=fun {j g} hj a0=>by
  have hG:=h.gg j g hj
  have a4:=(yAI.mp hj).1
  have a3:=h.gl
  refine g_le (by omega) hG h1 (Int.le_trans c3 (Int.mul_le_mul_of_nonneg_right ?_ (Int.le_of_lt (Gr.p2pos hh))))
  obtain ⟨⟨a1,b1⟩,U⟩:∃ c,ls[j]?=some c:=⟨_,yAJ (by omega)⟩
  obtain ⟨⟨a2,b2⟩,B⟩:∃ c,ls[j+1]?=some c:=⟨_,yAJ (by omega)⟩
  have w1:=h.lc.get U
  have w2:=h.lc.get B
  have w3:=h.lc.next U B
  rw [ZEE U,ZEE B]
  rcases a0 with z | z
  .subst z
   rw [Z] at U
   cases U
   omega
  .subst z
   rw [Z] at B
   cases B
   omega
 have m1:Gs.getD k 0 <= hh:=by
  rw [yBH]
  cases hz:Gs[k]? with
  | none=>exact yAG _
  | some g=>exact O hz (.inl rfl)
 have m2:(0::Gs).getD k 0 <= hh:=by
  cases k with
  | zero=>exact yAG _
  | succ k=>
   rw [List.getD_cons_succ,yBH]
   cases hz:Gs[k]? with
   | none=>exact yAG _
   | some g=>exact O hz (.inr rfl)
 omega
theorem P54.two {ks:List Int} {s e r:Nat} {ls:List (Nat×Nat)} {Gs gs:List Nat} {J:Nat->Nat} {ps:List (Nat×List Nat)} (h:P54 ks s e ls Gs J ps gs r) (Z:PInv ks s e r ps gs) (h1:ps.length <= 1) (hr:r=e) (hl:ls.length < 2):SJ J s (e-s)=0:=by
 have O:Gs=[]:=yCA.mp (by rw [h.gl];omega)
 have:=ZFF (J:=J) (x:=s) (h:=0) (d:=e-s) fun u a b=>by
  have h2:=h.fin Z h1 u a (by omega)
  rw [O] at h2
  match ls,hl,h.lc with
  | [],_,B=>have B:s=r:=B;omega
  | [(a',b')],_,⟨e1,e2,U⟩=>
   have U:b'=r:=U
   have:Mu 0 [(a',b')] [] u=0:=by show (if u < b' then max 0 0 else 0)=0;split <;> rfl
   omega
 omega
theorem P54.all {ks:List Int} {s e r:Nat} {ls:List (Nat×Nat)} {Gs gs:List Nat} {J:Nat->Nat} {ps:List (Nat×List Nat)} (h:P54 ks s e ls Gs J ps gs r) (U:PInv ks s e r ps gs) (h1:ps.length <= 1) (Z:r=e) {hs:List Nat} (hh:∀ k a b,ls[k]?=some (a,b)->1 <= hs.getD k 0 /\ 2 * (e-s) <= (b-a+1) * 2 ^ hs.getD k 0):SJ J s (e-s) <= wsum ls hs:=by
 have B:=h.lc
 rw [Z] at B
 refine SJ_lays B fun k a b O u ha hb=>?_
 have hq:=h.lc.get O
 exact yAL (h.fin U h1 u (by omega) (by omega)) (h.seam U.re O (hh k a b O).1 (hh k a b O).2 ha hb)
theorem StJ.asks {ks:List Int} {e:Nat} {ps:List (Nat×List Nat)} {gs:List Nat} {r v1 v2 v3 s:Nat} {L:List (Nat×Nat)} {J:List (Nat×List Nat)} {gs':List Nat} {A:List (Nat×List Nat)} {o1 o2 o:List Nat} {B:List (Nat×List Nat)} (j:StJ ks e ps gs r v1 v2 v3 L J gs' A o1 o2 o B) (O:PInv ks s e r ps gs):s <= v1 /\ v1 < v3 /\ v3 <= e /\ L.length+1 <= (v3-v1)+(v3-v1) / 7:=by
 have ch:=O.ch
 rw [j.e1] at ch
 obtain ⟨a0,h1,h2,h3,h4,Z,U,_⟩:=ch.two
 have e3:=j.e3
 have hb:=U.bey
 have:=U.le
 have:=h1.le
 have:=O.re
 have l1:=h4.len
 have l2:=Z.len
 have:=j.jt.most (by decide) (yAG _) (yAG _) (by omega)
 have ee:(o1.length-0)+(o2.length-0)=v3-v1:=by omega
 rw [ee] at this
 exact ⟨by omega,by omega,by omega,this⟩
theorem Halv.bits {ks:List Int} {os:List Nat} {pl low high r:Nat} {l:List (Nat×Nat)} (h:Halv ks os pl low high r l):∀ n,l.length=n+1->2 ^ n <= high-low:=by
 have two:∀ n k m:Nat,2 ^ n <= k->2 * k <= m->2 ^ (n+1) <= m:=fun n k m h1 h2=>by rw [yBS];omega
 induction h with
 | done n=>intro n z;simp at z
 | @less low high r o l a b c d ih=>
  intro n z
  rw [yAH] at z
  cases n with
  | zero=>show 1 <= _;omega
  | succ n=>exact two n _ _ (ih n (by omega)) (by omega)
 | @more low high r o l a b c d ih=>
  intro n z
  rw [yAH] at z
  cases n with
  | zero=>show 1 <= _;omega
  | succ n=>exact two n _ _ (ih n (by omega)) (by omega)
theorem nbits_ge {n z:Nat} (h:2 ^ n <= z):n+1 <= ZBa z:=by
 have B:z≠0:=fun e=>by have:=Nat.pow_pos (n:=n) (show 0 < 2 by decide);omega
 unfold ZBa
 rw [if_neg B]
 have:=(Nat.le_log2 B).mpr h
 omega
noncomputable def bsum (z:Nat):Nat->Nat
 | 0=>0
 | d+1=>ZBa z+bsum (z+1) d
theorem Put.bits {ks:List Int} {os os':List Nat} {p e:Nat} {l:List (Nat×Nat)} (h:Put ks os p e os' l):l.length <= bsum os.length (e-p):=by
 induction h with
 | nil n=>exact yAG _
 | @cons os os' p e r l l' a b c ih=>
  rw [show e-p=(e-(p+1))+1 by omega]
  have hl:l.length <= ZBa os.length:=by
   rcases Nat.eq_zero_or_pos l.length with z | z
   .omega
   .have h1:=b.bits (l.length-1) (by omega)
    rw [Nat.sub_zero] at h1
    have:=nbits_ge h1
    omega
  rw [ZDd] at ih
  show (l++l').length <= ZBa os.length+bsum (os.length+1) (e-(p+1))
  rw [yAB]
  omega
theorem StL.asks {ks:List Int} {ls s e:Nat} {ps:List (Nat×List Nat)} {gs:List Nat} {r v1 v2 v3:Nat} {L:List (Nat×Nat)} {B:List (Nat×List Nat)} {gs':List Nat} {r':Nat} {f:Bool} {os:List Nat} {l:List (Nat×Nat)} (j:StL ks ls s e ps gs r v1 v2 v3 L B gs' r' f os l):v1 < v2 /\ v2 <= v3 /\ v3 <= e /\ L.length <= v2-v1-1+(if v2 < e then 1 else 0)+bsum (v2-v1) (v3-v2) /\ (ls=1->v3=v2):=by
 obtain ⟨o1,o2,U⟩:=j.ord
 have Z:=j.by'.two
 have e1:=j.e1
 have e3:=j.e3
 have O:=j.lt
 have f1:=j.put.bits
 rw [ZCU] at f1
 rw [j.e2,yAB,ZCg,e1]
 refine ⟨by omega,by omega,U,?_,fun z=>by omega⟩
 have J:min (r+ls) e-v2=v3-v2:=by omega
 rw [J] at f1
 split <;> omega
noncomputable def A56 (s e r n T:Nat):Prop:=n+(if r=e /\ s < e then 1 else 0) <= (r-s)+T+T / 7
theorem A56.step {ks:List Int} {s e:Nat} {ps:List (Nat×List Nat)} {gs:List Nat} {r:Nat} {k:Bool} {v1 v2 v3:Nat} {L:List (Nat×Nat)} {U:List (Nat×List Nat)} {gs':List Nat} {r':Nat} {J J':Nat->Nat} {n:Nat} (h:Stp ks 1 s e ps gs r k v1 v2 v3 L U gs' r') (i:PInv ks s e r ps gs) (Z:∀ u,J' u=if k=true /\ v1 <= u /\ u < v3 then J u+1 else J u) (a:A56 s e r n (SJ J s (e-s))):A56 s e r' (n+L.length) (SJ J' s (e-s)):=by
 have a1:=i.ch.le
 unfold A56 at *
 rcases h with ⟨rfl,rfl,A,o1,o2,o,B,j⟩ | ⟨rfl,f,os,l,j⟩
 .obtain ⟨b1,b2,b3,O⟩:=j.asks i
  rw [SJ_join (J:=J) b1 (by omega) b3 (fun u=>by rw [Z u];simp)]
  omega
 .obtain ⟨b1,b2,b3,O,b5⟩:=j.asks
  have e3:=b5 rfl
  have e4:=j.e4
  have a0:=j.e1
  have a2:=j.lt
  have eJ:J'=J:=funext fun u=>by rw [Z u,if_neg (by simp)]
  rw [e3,yBF] at O
  have O:L.length <= v2-v1-1+(if v2 < e then 1 else 0)+0:=O
  rw [eJ]
  rw [if_neg (by omega)] at a
  by_cases z:v2 < e
  .rw [if_pos z] at O
   rw [if_neg (by omega)]
   omega
  .rw [if_neg z] at O
   split <;> omega
theorem JT.down {ks:List Int} {ls rs ps:List Nat} {i j w:Nat} {s:Bool} {L:List (Nat×Nat)} (h:JT ks ls rs i j w s ps L):(∀ x∈ls,∀ y∈rs,x≠y)->∀ c∈L,c.2 < c.1:=by
 have B:∀ {x y:Nat},x≠y->(max x y,min x y).2 < (max x y,min x y).1:=fun {x y} a=>by show min x y < max x y;omega
 induction h with
 | done _=>intro _ c hc;cases hc
 | step a b c d e ih=>
  intro h1 c hc
  rcases yAE.mp hc with z | z
  .rw [z];exact B (h1 _ (yAQ a) _ (yAQ b))
  .exact ih h1 c z
 | @leap ls rs ps G i j w x y z s L a b c d e f g k l ih=>
  intro h1 c hc
  rcases yAE.mp hc with t | t
  .rw [t];exact B (h1 _ (yAQ a) _ (yAQ b))
  rcases yAZ.mp t with t | t
  .obtain ⟨m,U,rfl⟩:=yBR.mp t
   have O:=k.range (yAA _) (by omega) (yAA _) m U
   have J:=yAJ O.2
   rw [ask1_eq J]
   exact B (h1 _ (yAQ J) _ (yAQ b))
  .exact ih h1 c t
 | @last ls rs ps G i j w x y s L a b c d g k l ih=>
  intro h1 c hc
  rcases yAE.mp hc with t | t
  .rw [t];exact B (h1 _ (yAQ a) _ (yAQ b))
  rcases yAZ.mp t with t | t
  .obtain ⟨m,U,rfl⟩:=yBR.mp t
   have O:=k.range (yAA _) (yAI.mp a).1 (yAA _) m U
   have J:=yAJ O.2
   rw [ask1_eq J]
   exact B (h1 _ (yAQ J) _ (yAQ b))
  .exact ih h1 c t
 | swap h ih=>exact fun h1=>ih fun x Z y hy=>Ne.symm (h1 y hy x Z)
theorem Stp.down {ks:List Int} {ls s e:Nat} {ps:List (Nat×List Nat)} {gs:List Nat} {r:Nat} {k:Bool} {v1 v2 v3:Nat} {L:List (Nat×Nat)} {U:List (Nat×List Nat)} {gs':List Nat} {r':Nat} (h:Stp ks ls s e ps gs r k v1 v2 v3 L U gs' r') (i:PInv ks s e r ps gs):∀ c∈L,c.2 < c.1:=by
 rcases h with ⟨_,rfl,A,o1,o2,o,B,j⟩ | ⟨_,f,os,l,j⟩
 .have ch:=i.ch
  rw [j.e1] at ch
  obtain ⟨a1,h1,h2,h3,h4,Z,h6,_⟩:=ch.two
  refine j.jt.down fun x J y O=>?_
  have:=(h4.mem x).mp J
  have:=(Z.mem y).mp O
  omega
 .have hb:=j.by'.two
  have a0:=j.lt
  obtain ⟨_,_,o3⟩:=j.put.all (first:=r) (asks r (min (v2+1) e)) (by omega) j.by'.ord (fun i x y J O=>(j.by'.adj i x y J O).2)
  rw [j.e2]
  intro c hc
  rcases yAZ.mp hc with z | z
  .unfold asks at z
   obtain ⟨q,hq,rfl⟩:=yBR.mp z
   have:=List.mem_range'_1.mp hq
   show q-1 < q
   omega
  .exact o3 c z
theorem Beyond.whole {ks:List Int} {first stop j:Nat} {f:Bool} (h:Beyond ks first stop j f) (Z:∀ i,first+1 < i->i < stop->dec ks i=dec ks (first+1)):j=stop:=by
 have hb:=h.two
 rcases h with ⟨B,J,_⟩ | ⟨z0,O,B,J,z4,U⟩
 .omega
 .rcases yBT j stop with z | z
  .exact absurd (by have:=Z j B z;rw [this,O]) (U z)
  .omega
theorem Rn.straight {ks:List Int} {s e:Nat} {ps:List (Nat×List Nat)} {gs:List Nat} {r:Nat} {L:List (Nat×Nat)} (h:Rn ks 1 s e [] [] s L ps gs r) (hF:Fin' e ps gs r) (a0:s <= e) (hd:∀ i,s+1 < i->i < e->dec ks i=dec ks (s+1)):L.length=e-s-1:=by
 rcases h.head with ⟨rfl,rfl,rfl,rfl⟩ | ⟨k,v1,v2,v3,L1,L2,ps1,gs1,r1,rfl,U,Z⟩
 .have:=hF.2.1
  simp
  omega
 rcases id U with ⟨_,_,A,o1,o2,o,B,j⟩ | ⟨_,f,os,l,j⟩
 .have:=j.e1
  simp at this
 have hv:=j.by'.whole hd
 have a3:=j.lt
 obtain ⟨b1,b2,b3,b4,b5⟩:=j.asks
 have e3:=b5 rfl
 have e1:=j.e1
 have O:Fin' e ps1 gs1 r1:=by
  refine ⟨?_,by rw [j.e4,e3,hv],by rw [j.e5];simp⟩
  rcases j.gr with ⟨_,g2⟩ | ⟨A,p,g,g1,_⟩
  .rw [g2];rfl
  .simp at g1
 rcases Z.head with ⟨rfl,_,_,_⟩ | ⟨_,_,_,_,_,_,_,_,_,_,c1,_⟩
 .rw [yBC]
  have e2:=j.e2
  have J:l=[]:=by
   cases j.put with
   | nil n=>rfl
   | cons a b c=>omega
  rw [e2,J,yBC,ZCg]
  omega
 .exact (O.no c1).elim
noncomputable def ZDZ (CA:Addr) (CR:Addr):Sp:=fun vs H Q _=>∃ (ks:List Int) (xs:RowC) (a rl ru tl g lg:Addr) (ls s e:Nat) (pz:V),vs=[.ref a,.int ls,pz] /\ SitL CA CR H ks xs a rl ru tl g lg [] /\ ((∃ pt,pz=.ref pt /\ H pt=some (.tup [.int s,.int e]))∨(pz=.non /\ s=0 /\ e=ks.length)) /\ s <= e /\ e <= ks.length /\ ks.length <= 63 /\ ls <= 500 /\
 ∀ l H' L ps gs r,Fr [a,lg,tl] H H'->H' l=some (.lst (nL (flt ps)))->Rn ks ls s e [] [] s L ps gs r->Fin' e ps gs r->SitL CA CR H' ks xs a rl ru tl g lg L->Q (.ref l) H'
structure Lys (H:Hp) (ls:List (Nat×Nat)) (ts:List V):Prop where
 len:ts.length=ls.length
 get:∀ (j a b:Nat),ls[j]?=some (a,b)->∃ t,ts[j]?=some (V.ref t) /\ H t=some (.tup [.int a,.int b])
theorem Lys.keep {H H':Hp} {ls:List (Nat×Nat)} {ts:List V} (h:Lys H ls ts) (e:∀ t x,H t=some (.tup x)->H' t=some (.tup x)):Lys H' ls ts :=
 ⟨h.len,fun j x y B=>let ⟨t,a,b⟩:=h.get j x y B;⟨t,a,e _ _ b⟩⟩
theorem Lys.snoc {H:Hp} {ls:List (Nat×Nat)} {ts:List V} {x y:Nat} {t:Addr} (h:Lys H ls ts) (U:H t=some (.tup [.int x,.int y])):Lys H (ls++[(x,y)]) (ts++[.ref t]):=by
 refine ⟨by rw [yAB,yAB,h.len];rfl,fun j J O B=>?_⟩
 rcases Nat.lt_trichotomy j ls.length with z | z | z
 .rw [yAY z] at B
  obtain ⟨t',a,b⟩:=h.get j J O B
  exact ⟨t',by rw [yAY (by rw [h.len];exact z)];exact a,b⟩
 .subst z
  rw [ZA6] at B
  cases B
  exact ⟨t,by rw [<- h.len];exact ZA6 ..,U⟩
 .rw [yBM (by simp;omega)] at B;cases B
noncomputable def mo56 (k:Bool) (v1 v2 v3 n:Nat):Nat:=if k then (v3-v1)-1+(v3-v1) / 7 else v2-v1-1+(if v2 < n then 1 else 0)+bsum (v2-v1) (v3-v2)
theorem bsum_snoc:∀ (d z:Nat),bsum z (d+1)=bsum z d+ZBa (z+d)
 | 0,z=>by show ZBa z+0=0+ZBa z;omega
 | d+1,z=>by
  show ZBa z+bsum (z+1) (d+1)=ZBa z+bsum (z+1) d+ZBa (z+(d+1))
  rw [bsum_snoc d (z+1),show z+1+d=z+(d+1) by omega]
  omega
theorem intBits_n (n:Nat):Builtin.Int.intBits (n:Int)=ZBa n:=by
 unfold ZBa
 split
 .rename_i h;rw [h];rfl
 .rename_i h;exact bits_nat n h
noncomputable def ZDS:Sp:=fun vs H Q _=>∃ (x:Addr) (k:Bool) (v1 v2 v3 n:Nat),vs=[.ref x,.int n] /\ H x=some (.tup [kS k,.int v1,.int v2,.int v3]) /\ v1 < v2 /\ v2 <= v3 /\ v3 <= 63 /\ n <= 63 /\ Q (.int (mo56 k v1 v2 v3 n)) H
noncomputable def ZDy:Sp:=fun vs H Q _=>∃ (x:Addr) (n:Nat) (ls:List (Nat×Nat)) (ts:List V),vs=[.ref x,.int n] /\ H x=some (.lst ts) /\ Lys H ls ts /\ LCh 0 ls n /\ n <= 63 /\ (ls.length < 2->Q (.int 0) H) /\ ∀ hs:List Nat,2 <= ls.length->(∀ k a b,ls[k]?=some (a,b)->1 <= hs.getD k 0 /\ 2 * n <= (b-a+1) * 2 ^ hs.getD k 0)->Q (.int (wsum ls hs:Nat)) H
theorem wsum_snoc {a b p:Nat}:∀ {l:List (Nat×Nat)} {hs:List Nat},l.length=hs.length->wsum (l++[(a,b)]) (hs++[p])=wsum l hs+(b-a) * p
 | [],[],_=>by show (b-a) * p+0=0+(b-a) * p;omega
 | [],h::hs,e=>by simp at e
 | c::l,[],e=>by simp at e
 | (c,d)::l,h::hs,e=>by
  have B:=wsum_snoc (a:=a) (b:=b) (p:=p) (l:=l) (hs:=hs) (by simpa using e)
  show (d-c) * h+wsum (l++[(a,b)]) (hs++[p])=(d-c) * h+wsum l hs+(b-a) * p
  omega
noncomputable def ZB0 (Pt:Addr):Sp:=fun vs H Q _=>∃ (kl:Addr) (ks:List Int),vs=[.ref kl] /\ TabSt H Pt (ZBD ZAH) "_law_teller.<locals>._law_ask" /\ H kl=some (.lst (ks.map V.int)) /\ ks.length <= 63 /\ (∀ i,1 < i->i < ks.length->dec ks i=dec ks 1) /\ ∀ H',(∀ b o,b≠Pt->H b=some o->H' b=some o)->TabSt H' Pt (ZBD ZAH) "_law_teller.<locals>._law_ask"->Q (.bl true) H'
theorem dec_asc {ms:List Int} (h:ms.Pairwise (· <= ·)) {i:Nat} (B:0 < i) (hi:i < ms.length):dec ms i=false:=by
 have:=yCB.mp h (i-1) i (by omega) hi (by omega)
 unfold dec kat
 rw [yAJ hi,yAJ (show i-1 < ms.length by omega)]
 simp
 omega
theorem dec_desc {ms:List Int} (h:ms.Pairwise (· > ·)) {i:Nat} (B:0 < i) (hi:i < ms.length):dec ms i=true:=by
 have:=yCB.mp h (i-1) i (by omega) hi (by omega)
 unfold dec kat
 rw [yAJ hi,yAJ (show i-1 < ms.length by omega)]
 simp
 omega
theorem LCh.sum:∀ {l:List (Nat×Nat)} {x y:Nat},LCh x l y->(l.map fun c=>(c.2:Int)-(c.1:Int)).sum=(y:Int)-(x:Int)
 | [],x,y,h=>by
  have:x=y:=h
  subst this
  simp
 | (a,b)::l,x,y,h=>by
  obtain ⟨h1,h2,h3⟩:=h
  have:=LCh.sum h3
  subst h1
  simp only [yBD,List.sum_cons]
  rw [this]
  omega
theorem mem_len {ms ns:List Int} (h:ms.Nodup) (hs:∀ x∈ms,x∈ns):ms.length <= ns.length:=by
 induction ms generalizing ns with
 | nil=>exact yAG _
 | cons a ms ih=>
  have h':=yCG.mp h
  have ha:=hs a yAF
  have:=ih (ns:=ns.erase a) h'.2 fun x B=>(List.mem_erase_of_ne (fun z:x=a=>h'.1 (z ▸ B))).mpr (hs x (yAC _ B))
  rw [List.length_erase_of_mem ha] at this
  have:=List.length_pos_of_mem ha
  simp only [yAH]
  omega
structure W56 (CA:Addr) (CR:Addr) (CP:Addr) (X:Hp) (ks:List Int) (xs:List V) (ak rl ru tl g lg x fs od gr rw:Addr) (pr:List (Nat×Nat)) (ls s e r:Nat) (oa:List Addr) (ps:List (Nat×List Nat)) (gs:List Nat):Prop where
 hrw:X rw=some (.lst xs)
 th:Things X ks xs
 pa:PileAt CP X x ak fs od gr ls s e r oa ps gs
 px:PXl ak rl ru lg tl x fs od gr oa
 pi:PInv ks s e r ps gs
 st:SitL CA CR X ks ⟨xs,0⟩ ak rl ru tl g lg pr
 rn:Rn ks ls s e [] [] s pr ps gs r
section
variable {CA:Addr} {CR:Addr} {CP:Addr} {X Y:Hp} {ks:List Int} {xs:List V} {ak rl ru tl g lg x fs od gr rw:Addr} {pr:List (Nat×Nat)} {ls s e r:Nat} {oa:List Addr} {ps:List (Nat×List Nat)} {gs:List Nat}
theorem W56.fr {S:List Addr} (w:W56 CA CR CP X ks xs ak rl ru tl g lg x fs od gr rw pr ls s e r oa ps gs) (f:Fr S X Y) (O:∀ b∈S,∃ l,X b=some (.lst l)) (n:∀ b∈S,b∉[x,fs,od,gr,ak,lg,tl] /\ b∉oa /\ b≠rw /\ b≠rl):W56 CA CR CP Y ks xs ak rl ru tl g lg x fs od gr rw pr ls s e r oa ps gs:=by
 have B:∀ {b:Addr},b∈[x,fs,od,gr,ak,lg,tl]->b∉S:=fun {b} h z=>(n b z).1 h
 have m1:x∈[x,fs,od,gr,ak,lg,tl]:=yAF
 have m2:fs∈[x,fs,od,gr,ak,lg,tl]:=yAC _ yAF
 have m3:od∈[x,fs,od,gr,ak,lg,tl]:=yAC _ (yAC _ yAF)
 have m4:gr∈[x,fs,od,gr,ak,lg,tl]:=yAC _ (yAC _ (yAC _ yAF))
 have U:tl∈[x,fs,od,gr,ak,lg,tl]:=yAX [x,fs,od,gr,ak] (yAC _ yAF)
 have m5:lg∈[x,fs,od,gr,ak,lg,tl]:=yAX [x,fs,od,gr,ak] yAF
 refine ⟨f _ _ (fun z=>(n _ z).2.2.1 rfl) w.hrw,⟨w.th.1,fun i Z J=>let ⟨r0,a1,a2⟩:=w.th.2 i Z J;⟨r0,a1,f _ _ (fun z=>by obtain ⟨l,hl⟩:=O _ z;rw [hl] at a2;cases a2) a2⟩⟩,w.pa.fr f ⟨B m1,B m2,B m3,B m4⟩ (fun b hb z=>(n b z).2.1 hb),w.px,w.pi,w.st.apart f O ⟨fun z=>(n _ z).2.2.2 rfl,B m5,B U⟩,w.rn⟩
theorem W56.mono (w:W56 CA CR CP X ks xs ak rl ru tl g lg x fs od gr rw pr ls s e r oa ps gs) (f:Same X Y):W56 CA CR CP Y ks xs ak rl ru tl g lg x fs od gr rw pr ls s e r oa ps gs:=w.fr (S:=[]) f.fr (fun b h=>by cases h) (fun b h=>by cases h)
theorem W56.free (w:W56 CA CR CP X ks xs ak rl ru tl g lg x fs od gr rw pr ls s e r oa ps gs) {b:Addr} (B:X b=none):b∉[x,fs,od,gr,ak,lg,tl] /\ b∉oa /\ b≠rw /\ b≠rl:=by
 refine ⟨ZEb (w.pa.hp.neN B) (fun z=>by rw [z,w.pa.hfs] at B;cases B) (fun z=>by rw [z,w.pa.hod] at B;cases B) (fun z=>by rw [z,w.pa.hgr] at B;cases B) (w.st.newS B),fun z=>?_,(fun z=>by rw [z,w.hrw] at B;cases B),(fun z=>by rw [z,w.st.hrl] at B;cases B)⟩
 obtain ⟨i,hi⟩:=yBI z
 obtain ⟨p',_,J⟩:=w.pa.oat.get hi
 rw [J] at B;cases B
theorem W56.nt (w:W56 CA CR CP X ks xs ak rl ru tl g lg x fs od gr rw pr ls s e r oa ps gs) {b:Addr} {us:List V} (J:X b=some (.tup us)):b∉[x,fs,od,gr,ak,lg,tl]:=by
 obtain ⟨U,h2,_⟩:=w.st.htl
 obtain ⟨O,h3,_⟩:=w.st.hlg
 have L':∀ {c:Addr} {l:List V},X c=some (.lst l)->b≠c:=fun {c l} hc z=>by rw [<- z,J] at hc;cases hc
 have I:∀ {c C:Addr} {f:List (Str×V)},Ins X c C f->b≠c:=fun {c C f} hc z=>by obtain ⟨d,fs,B,_⟩:=hc.ex;rw [<- z,J] at B;cases B
 exact ZEb (I w.pa.hp) (L' w.pa.hfs) (L' w.pa.hod) (L' w.pa.hgr) (ZDc (I w.st.ha) (L' h3) (L' h2))
theorem W56.step {t:Addr} {L:List (Nat×Nat)} {r':Nat} {J:List Addr} {B:List (Nat×List Nat)} {gs':List Nat} {k:Bool} {v1 v2 v3:Nat} (w:W56 CA CR CP X ks xs ak rl ru tl g lg x fs od gr rw pr ls s e r oa ps gs) (Z:rw∉[x,fs,od,gr,ak,lg,tl]) (lf:Left CA CR CP X ks ⟨xs,0⟩ ak rl ru tl g lg x fs od gr pr ls s e oa k v1 v2 v3 L J B gs' r' t Y) (O:Stp ks ls s e ps gs r k v1 v2 v3 L B gs' r'):W56 CA CR CP Y ks xs ak rl ru tl g lg x fs od gr rw (pr++L) ls s e r' J B gs':=by
 obtain ⟨fr,a0,ht,pa,px,st'⟩:=lf
 exact ⟨fr _ _ Z w.hrw,⟨w.th.1,fun i kk U=>let ⟨r0,a1,a2⟩:=w.th.2 i kk U;⟨r0,a1,fr _ _ (w.nt a2) a2⟩⟩,pa,px,O.inv w.pi,st',.snoc w.rn O⟩
theorem W56.few (w:W56 CA CR CP X ks xs ak rl ru tl g lg x fs od gr rw pr ls s e r oa ps gs) (J:e-s <= 63) (B:s <= e):pr.length <= 13000:=by
 have h1:=w.rn.cost ⟨rfl,B,rfl,fun g O=>by cases O⟩ J
 have h2:=w.pi.re
 simp only [yCE,yBF] at h1
 omega
end
theorem compL_big {K:W.Frag} {a:Addr} {xs:List V} {g:TG} {tt:TT} {te:TE} {Q:VK} {σ0:St} {H:Hp} (h:SqL K H a xs) (O:xs.length <= 20000) (P:Nat->List V->St->Hp->Prop) (U:P 0 [] σ0 H) (hl:∀ i ys σ H,i <= xs.length->P i ys σ H->SqL K H a xs /\ ys.length <= i)
  (hs:∀ i ys x σ H,i < xs.length->xs[i]?=some x->P i ys σ H->g x σ H fun B H2=>tt B H2 fun b J=>if b=true then te B J fun y H4=>Nxt P xs.length i (ys++[y]) B H4 else Nxt P xs.length i ys B J)
  (Z:∀ ys σ H,P xs.length ys σ H->∀ p,H p=none->Q (.ref p) (upd H p (.lst ys))):ZFE K g tt te σ0 Q (.ref a) H:=⟨a,rfl,⟨xs,h⟩,comp_list P U hl (yAL O (by decide)) hs Z⟩
theorem pl_dp {K:W.Frag} {H:Hp}:∀ {ls:List (Int×Int)} {ts:List V},ts.length=ls.length->(∀ (j:Nat) (a b:Int),ls[j]?=some (a,b)->∃ t,ts[j]?=some (V.ref t) /\ H t=some (.tup [.int a,.int b]))->DpAll K H (ls.map fun p=>.tuple [.int p.1,.int p.2]) ts
 | [],ts,h,_=>by
  have:ts=[]:=yCA.mp h
  subst this
  exact .nil
 | c::r,[],h,_=>by cases h
 | (x,y)::r,v::ts,h,hg=>by
  obtain ⟨t,a,b⟩:=hg 0 x y rfl
  have Z:v=.ref t:=Option.some.inj a
  subst Z
  refine .cons (dp_tup (SqT.of b) (.two (dp_int _) (dp_int _))) (pl_dp (by simpa using h) fun j B J O=>?_)
  obtain ⟨t',U,b'⟩:=hg (j+1) B J (by simpa using O)
  exact ⟨t',by simpa using U,b'⟩
theorem Things.dp {K:W.Frag} {H:Hp} {ks:List Int} {xs:List V} (h:Things H ks xs):DpAll K H ((ks.zipIdx.map fun c=>(c.1,(c.2:Int))).map fun p=>.tuple [.int p.1,.int p.2]) xs:=by
 refine pl_dp (by rw [yAD,List.length_zipIdx];exact h.1) fun j a b B=>?_
 rw [yAT,List.getElem?_zipIdx] at B
 cases hk:ks[j]? with
 | none=>rw [hk] at B;cases B
 | some k=>
  rw [hk] at B
  cases B
  obtain ⟨r,J,O⟩:=h.2 j k hk
  exact ⟨r,J,by rw [O];simp⟩
noncomputable def I56 (CA CR CP Pt:Addr) (ks:List Int) (xs:List V) (ak rl ru tl g lg x fs od gr rw a sd:Addr) (ls:Nat) (n:Nat) (σ:St) (X:Hp):Prop :=
 ∃ (fv:V) (pr:List (Nat×Nat)) (r:Nat) (oa:List Addr) (ps:List (Nat×List Nat)) (gs:List Nat) (ly:List (Nat×Nat)) (Gs:List Nat) (J:Nat->Nat) (ts:List V) (na:Nat),
  σ=[some (.ref a),some (.ref rw),some (.int ls),some (.ref lg),some (.ref x),some (.ref sd),some (.int na),some fv,none,none] /\ W56 CA CR CP X ks xs ak rl ru tl g lg x fs od gr rw pr ls 0 ks.length r oa ps gs /\ X sd=some (.lst ts) /\ Lys X ly ts /\ sd∉oa /\ TabSt X Pt (ZBD ZAH) "_law_teller.<locals>._law_ask" /\ (∀ c∈pr,c.2 < c.1) /\
  ((fv=.non /\ n=0 /\ Fin' ks.length ps gs r /\ P54 ks 0 ks.length ly Gs J ps gs r /\ na=pr.length /\ (ls=1->A56 0 ks.length r pr.length (SJ J 0 (ks.length-0)))) ∨
    ∃ t k v1 v2 v3 L ps0 gs0 r0 pr0,fv=.ref t /\ n=2 * (ks.length-r)+ps.length+1 /\ X t=some (.tup [kS k,.int (v1:Nat),.int (v2:Nat),.int (v3:Nat)]) /\ Stp ks ls 0 ks.length ps0 gs0 r0 k v1 v2 v3 L ps gs r /\ PInv ks 0 ks.length r0 ps0 gs0 /\ P54 ks 0 ks.length ly Gs J ps0 gs0 r0 /\ pr=pr0++L /\ na=pr0.length /\ (ls=1->A56 0 ks.length r0 pr0.length (SJ J 0 (ks.length-0))))
section
variable {P:Program} {w:World} {K:W.Frag} {mg:Str->Option Value} {base:Heap} {C_Join C_Pile C_Asker C_AskedRule:Addr} {cc_teller Pt_teller:Addr}
theorem ok_teller {f:Addr} {fd:FuncData} (F:Fun K "_law_teller" "_law_teller" ZBr f fd) (J:fd.code=.ref cc_teller) (C:PySem.W.CodeHd base cc_teller Pt_teller) (B:ZDv mg base):FnOk P w K mg base CX0 1 f fd ["_law_written"] (ZDo Pt_teller (ZBD ZAH) "_law_ask" "_law_teller.<locals>._law_ask" (ZAO ZAH) (ZAN ZAH) (ZAC ZAH) ["_law_written"] [0] 1) :=
 teller_ok F sc_teller J C B rfl (fun _ _=>rfl) rfl rfl (fun _ _=>rfl) rfl (by decide) (by decide) (by decide +kernel) (by decide +kernel) (by decide +kernel) (hix_of rfl) rfl
theorem clo_teller (T:Bt K mg C_Join C_Pile C_Asker C_AskedRule):CloOk P w K mg base 1 (ZBH):=by
 refine clo_of (k:=0) (iname:="_law_ask") (iq:="_law_teller.<locals>._law_ask") (ip:=ZAO ZAH) (ib:=ZAN ZAH) (isc:=ZAC ZAH) csc_teller (fun f vs H Q h=>?_) (fun f vs H Q h=>?_) (fun cl a5 pm a6 c' us hl=>match us,hl with | [_,_],_=>rfl) (fun g cs cl cd A outer s H vs Q hr C h=>?_)
 .obtain ⟨g,x,y,lg,k,k2,i,j,ws,rfl,rfl,J,hx,hy,hlg,a0,q⟩:=h
  exact ⟨_,_,rfl,J⟩
 .obtain ⟨g,x,y,lg,k,k2,i,j,ws,rfl,rfl,J,hx,hy,hlg,a0,q⟩:=h
  rfl
 obtain ⟨g,x,y,lg,k,k2,i,j,ws,eg,rfl,J,hx,hy,hlg,a0,q⟩:=h
 cases eg
 obtain ⟨a4,C2⟩:=J
 obtain rfl:=C.inj' C2
 refine ⟨_,(ZAB (ZAn (ZCQ PySem.F.plainAttrs_list PySem.F.slot_list_append PySem.F.type_list_append ZBb (pv 2) (ZAA (ZB4 (ZAA (ZAb ZAp (pv 0) ZAF (fun _ _=>rfl)) (ZAA (ZAb ZAp (pv 1) ZAF (fun _ _=>rfl)) ZAE))) ZAE)))
  (ZAI (ZAX (ZCP ZCm (ZAb ZAp (pv 0) ZAF (fun _ _=>rfl)) (ZAb ZAp (pv 1) ZAF (fun _ _=>rfl)) (ZAV _))))),?_⟩
 walk_at "rd"
 have cells:=C.cells
 have U:hid cl H x=some (.tup [.int k,.int i]):=ZBu cells hx (by intro ob z;cases z)
 have O:hid cl H y=some (.tup [.int k2,.int j]):=ZBu cells hy (by intro ob z;cases z)
 have B:hid cl H lg=some (.lst ws):=ZBu cells hlg (by intro ob z;cases z)
 refine ⟨.inl ⟨rfl,_,SqL.of B⟩,ZAk (SqT.of U) (ZAY (by decide) rfl) (ZAk (SqT.of O) (ZAY (by decide) rfl) ⟨ZAe (by decide),fun t Z=>?_⟩)⟩
 have a2:t≠lg:=fun z=>by rw [z,B] at Z;cases Z
 refine ⟨lg,ws,_,rfl,rfl,ZAT Z _ _ _ B,smallL (by omega),?_⟩
 have a3:upd (upd (hid cl H) t (.tup [.int i,.int j])) lg (.lst (ws++[.ref t])) x=some (.tup [.int k,.int i]):=by
  rw [ZAK (fun z=>by rw [z,B] at U;cases U),ZAK (ZAD U Z)];exact U
 have a1:upd (upd (hid cl H) t (.tup [.int i,.int j])) lg (.lst (ws++[.ref t])) y=some (.tup [.int k2,.int j]):=by
  rw [ZAK (fun z=>by rw [z,B] at O;cases O),ZAK (ZAD O Z)];exact O
 refine ZAk (SqT.of a3) (ZAY (by decide) rfl) (ZAk (SqT.of a1) (ZAY (by decide) rfl) ⟨_,_,rfl,rfl,fun hn=>?_⟩)
 have nt:=hn.ne (b:=t) (by rw [ZAK a2,ZAG])
 have nl:=hn.ne (b:=lg) ZAG
 rw [back_upd nl,back_upd nt,back_hid]
 exact q t (hid_none cells Z nt)
theorem ok_Asker_init {f:Addr} {fd:FuncData} {dv:List Value} (F:FunD K "__init__" "Asker.__init__" ZBA f fd dv) (T:Bt K mg C_Join C_Pile C_Asker C_AskedRule)
 :FnOk P w K mg base CX0 1 f fd ["self","row","rule","most"] (ZBq C_Asker):=by
 refine F.ok sc_Asker_init (fun vs H Q E h=>?_) (fun a0 A outer s H vs Q E hr h=>?_)
 .obtain ⟨x,dx,r,ru,m,xs,rfl,U,O,q⟩:=h
  rfl
 obtain ⟨x,dx,r,ru,m,xs,rfl,U,O,q⟩:=h
 refine ⟨_,(ZAB (ZBB (pv 0) (ZBS ZBg rfl T.b_list PyProof.Rows.boot_list (ZAA (pv 1) ZAE)) rfl)
  (ZAB (ZBB (pv 0) (pv 2) rfl)
  (ZAB (ZBB (pv 0) (pv 3) rfl)
  (ZAB (ZBB (pv 0) ZAF rfl)
  (ZAI (ZBB (pv 0) (ZBC ZAE) rfl)))))),?_⟩
 walk_at "rd"
 refine ⟨r,xs,rfl,.inl (SqL.of O),fun rl hrl=>?_⟩
 have B:x≠rl:=ZAD U hrl
 obtain ⟨H1,e1,s1,h1⟩:=newH hrl (.lst xs)
 rw [e1];clear e1
 refine setX (s1 _ _ U) T.cl_Asker T.n_Asker_row (by decide) fun H2 x2 k2=>?_
 walk_at "rd"
 refine setX x2 T.cl_Asker T.n_Asker_rule ZEt fun H3 x3 k3=>?_
 walk_at "rd"
 refine setX x3 T.cl_Asker T.n_Asker_most ZEs fun H4 x4 k4=>?_
 walk_at "rd"
 refine setX x4 T.cl_Asker T.n_Asker_asked ZEr fun H5 x5 k5=>?_
 walk_at "rd"
 refine ⟨ZAe (by decide),fun tl htl=>?_⟩
 obtain ⟨H6,e6,s6,h6⟩:=newH htl (.lst [])
 rw [e6];clear e6
 have J:x≠tl:=ZAD x5 htl
 refine setX (s6 _ _ x5) T.cl_Asker T.n_Asker_told ZE8 fun H7 x7 Z=>?_
 have up:∀ b o,b≠x->H b=some o->H5 b=some o:=fun b o n e=>by rw [k5 b n,k4 b n,k3 b n,k2 b n];exact s1 b o e
 have h5:H5 rl=some (.lst xs):=by rw [k5 rl (Ne.symm B),k4 rl (Ne.symm B),k3 rl (Ne.symm B),k2 rl (Ne.symm B)];exact h1
 refine q rl tl H7 (fun b o n e=>by rw [Z b n];exact s6 _ _ (up b o n e)) hrl ?_ (ZAD h5 htl) ((Ins.of x7 (yAL putL5 (by decide))).congr fA_canon) (by rw [Z rl (Ne.symm B)];exact s6 _ _ h5) (by rw [Z tl (Ne.symm J)];exact h6)
 cases e:H tl with
 | none=>rfl
 | some o=>rw [up tl o (Ne.symm J) e] at htl;cases htl
theorem ok_Asker_many {f:Addr} {fd:FuncData} (F:Fun K "many" "Asker.many" ZA9 f fd) (T:Bt K mg C_Join C_Pile C_Asker C_AskedRule)
 :FnOk P w K mg base CX0 1 f fd ["self"] (ZDn C_Asker):=by
 refine F.ok sc_Asker_many (fun vs H Q E h=>?_) (fun B A outer s H vs Q E J h=>?_)
 .obtain ⟨a,rl,ru,tl,m,n,xs,rfl,ha,hrl,q⟩:=h
  rfl
 obtain ⟨a,rl,ru,tl,m,n,xs,rfl,ha,hrl,q⟩:=h
 refine ⟨_,(ZAI (ZAX (ZAM ZAJ rfl T.b_len PySem.boot_len (ZAA (ZAQ (pv 0) rfl) ZAE)))),?_⟩
 walk_at "rd"
 refine ha.get T.cl_Asker T.n_Asker_row (by walk_at "lk") ⟨rl,xs,rfl,.inl (SqL.of hrl),q⟩
theorem ok_AskedRule_init {f:Addr} {fd:FuncData} (F:Fun K "__init__" "AskedRule.__init__" ZAs f fd) (T:Bt K mg C_Join C_Pile C_Asker C_AskedRule)
 :FnOk P w K mg base CX0 1 f fd ["self","teller"] (ZCA C_AskedRule):=by
 refine F.ok sc_AskedRule_init (fun vs H Q E h=>?_) (fun O A outer s H vs Q E Z h=>?_)
 .obtain ⟨x,dx,g,rfl,B,q⟩:=h
  rfl
 obtain ⟨x,dx,g,rfl,B,q⟩:=h
 refine ⟨_,(ZAI (ZBB (pv 0) (pv 1) rfl)),?_⟩
 walk_at "rd"
 refine setX B T.cl_AskedRule T.n_AskedRule_teller (by decide) fun H2 U J=>?_
 exact q H2 (fun b o n e=>by rw [J b n];exact e) ((Ins.of U (yAL ZEt (by decide))).congr fun f=>by simp only [ZAd,lkc])
theorem ok_AskedRule_before {f:Addr} {fd:FuncData} (F:Fun K "before" "AskedRule.before" ZAg f fd) (T:Bt K mg C_Join C_Pile C_Asker C_AskedRule)
  (clo_teller:CloOk P w K mg base 1 (ZBH))
 :FnOk P w K mg base CX0 2 f fd ["self","x","y"] (ZCv C_AskedRule ZBH):=by
 refine F.ok sc_AskedRule_before (fun vs H Q E h=>?_) (fun U A outer s H vs Q E O h=>?_)
 .obtain ⟨ru,g,x,y,rfl,hru,⟨o,J,B⟩,q⟩:=h
  rfl
 obtain ⟨ru,g,x,y,rfl,hru,⟨o,J,B⟩,q⟩:=h
 refine ⟨_,(ZAB (ZAL (i:=3) sc_AskedRule_before.nd rfl (by walk_at "o") (ZAQ (pv 0) rfl))
  (ZAI (ZAX (pe_callV (clo_teller.at (O.mono (by decide))) (pv 3) (ZAA (pv 1) (ZAA (pv 2) ZAE)))))),?_⟩
 walk_at "rd"
 refine hru.get T.cl_AskedRule T.n_AskedRule_teller (by walk_at "lk") ⟨⟨g,o,rfl,J,B⟩,?_⟩
 exact q
theorem ok_Asker_ahead {f:Addr} {fd:FuncData} (F:Fun K "ahead" "Asker.ahead" ZA3 f fd) (T:Bt K mg C_Join C_Pile C_Asker C_AskedRule)
  (B:Mt P w K mg base CX0 C_AskedRule "before" 2 ["self","x","y"] (ZCv C_AskedRule ZBH))
 :FnOk P w K mg base CX0 3 f fd ["self","p","q"] (ZCN C_Asker C_AskedRule ZBH):=by
 refine F.ok sc_Asker_ahead (fun vs H Q E h=>?_) (fun a8 A outer s H vs Q E hr h=>?_)
 .obtain ⟨a,rl,ru,tl,n,p,q,xs,ts,x,y,rfl,ha,hrl,a5,a7,a3,hx,hy,hb⟩:=h
  rfl
 obtain ⟨a,rl,ru,tl,n,p,q,xs,ts,x,y,rfl,ha,hrl,a5,a7,a3,hx,hy,hb⟩:=h
 refine ⟨_,(ZAB (ZBQ (PW.pt (ZCq (ZAS ZD5 (ZAQ (pv 0) rfl) ZCr (ZAV _)) (ZCO (ZAS op_ge (ZAQ (pv 0) rfl) (ZAQ (pv 0) rfl) (ZAV _)))))
  (ZAI (ps_never)) ZAh)
  (ZAU
  (ZAB (ZAL (i:=3) sc_Asker_ahead.nd rfl (by walk_at "o") (ZAM (call_max2 rfl) rfl T.b_max PyProof.Rows.boot_max (ZAA (pv 1) (ZAA (pv 2) ZAE))))
  (ZAB (ZAL (i:=4) sc_Asker_ahead.nd rfl (by walk_at "o") (ZAM (ZB9 rfl) rfl T.b_min PyProof.Rows.boot_min (ZAA (pv 1) (ZAA (pv 2) ZAE))))
  (ZAB (ZAL (i:=5) sc_Asker_ahead.nd rfl (by walk_at "o") (ZBU B (hr.mono (by decide)) ZAW (ZAQ (pv 0) rfl) (ZAA (ZAb ZAi (ZAQ (pv 0) rfl) (pv 3) (fun _ _=>rfl)) (ZAA (ZAb ZAi (ZAQ (pv 0) rfl) (pv 4) (fun _ _=>rfl)) ZAE))))
  (ZAU
  (ZAB (ps_fldaug (pv 0) ZAF in_add)
  (ZAB (ZAn (ZCQ PySem.F.plainAttrs_list PySem.F.slot_list_append PySem.F.type_list_append ZBb (ZAQ (pv 0) rfl) (ZAA (ZB4 (ZAA (pv 3) (ZAA (pv 4) (ZAA (pv 5) ZAE)))) ZAE)))
  (ZAI (ZAX (ZBV (ZAS ZB5 (pv 1) (pv 3) (ZAV _)) (pv 5) (pe_not (pv 5))))))))))))),?_⟩
 walk_at "rd"
 obtain ⟨aa,g,x',y',e,hru,ho,a2⟩:=hb
 cases e
 refine ha.get T.cl_Asker T.n_Asker_most (by walk_at "lk") ?_
 rw [if_neg (by simp)]
 refine ZAa ?_
 walk_at "rd"
 refine ⟨p,q,rfl,p,q,rfl,ha.get T.cl_Asker T.n_Asker_rule (by walk_at "lk") (hru.meth (by walk_at "lk") ?_)⟩
 rw [mx_eq,ZEw]
 refine ha.get T.cl_Asker T.n_Asker_row (by walk_at "lk") (ZAy (SqL.of hrl) (ZAY (by omega) hx) ?_)
 refine ha.get T.cl_Asker T.n_Asker_row (by walk_at "lk") (ZAy (SqL.of hrl) (ZAY (by omega) hy) ?_)
 refine ⟨ru,g,x,y,rfl,hru,ho,rT_mono (fun v H1 h=>?_) a2⟩
 obtain ⟨b,rfl,a1,Z,a9,hq⟩:=h
 have a0:tl≠a:=a1.ne Z fun _ _ _ z=>by cases z
 refine ZAa ?_
 walk_at "rd"
 refine a1.aug T.cl_Asker T.n_Asker_asked (by walk_at "lk") fun H2 a4 k2=>?_
 have O:=a4.congr fA_asked
 have J:H2 tl=some (.lst ts):=by rw [k2 tl a0];exact Z
 walk_at "rd"
 refine O.get T.cl_Asker T.n_Asker_told (by walk_at "lk") ?_
 walk_at "rd"
 refine ⟨.inl ⟨rfl,_,SqL.of J⟩,ZAe (by decide),fun t ht=>?_⟩
 have a6:t≠tl:=fun z=>by rw [z,J] at ht;cases ht
 have U:t≠a:=O.neN ht
 refine ⟨tl,ts,_,rfl,rfl,ZAT ht _ _ _ J,smallL (by omega),?_⟩
 have fin:=hq t (upd (upd H2 t (.tup [.int (max p q),.int (min p q),.bl b])) tl (.lst (ts++[.ref t]))) (by rw [<- k2 t U];exact ht) (O.keep (by rw [ZAK (Ne.symm a0),ZAK (Ne.symm U)])) ZAG (by rw [ZAK a6,ZAG]) (fun c h1 h2 h3=>by rw [ZAK h2,ZAK h3,k2 c h1])
 by_cases hlt:q < p
 .rw [if_pos hlt] at fin
  show (if _ then _ else _)
  rw [if_pos (by omega)]
  exact fin
 .rw [if_neg hlt] at fin
  show (if _ then _ else _)
  rw [if_neg (by omega)]
  exact fin
theorem ok_stretch_from {f:Addr} {fd:FuncData} {dv:List Value} (F:FunD K "stretch_from" "stretch_from" ZAz f fd dv) (T:Bt K mg C_Join C_Pile C_Asker C_AskedRule)
  (B:Mt P w K mg base CX0 C_Asker "ahead" 3 ["self","p","q"] (ZCN C_Asker C_AskedRule ZBH))
  (J:Mt P w K mg base CX0 C_Asker "many" 1 ["self"] (ZDn C_Asker))
 :FnOk P w K mg base CX0 4 f fd ["asker","first","end"] (ZCi C_Asker C_AskedRule):=by
 refine F.ok sc_stretch_from (fun vs H Q E h=>?_) (fun a7 A outer s H vs Q E hr h=>?_)
 .obtain ⟨ks,xs,a,rl,ru,tl,g,lg,pr,first,stop,e,rfl,st,he,hf,a0,hk,a5,q⟩:=h
  rfl
 obtain ⟨ks,xs,a,rl,ru,tl,g,lg,pr,first,stop,e,rfl,st,he,hf,a0,hk,a5,q⟩:=h
 refine ⟨_,(ZAB (ZAL (i:=3) sc_stretch_from.nd rfl (by walk_at "o") (ZBV (ZAS ZEK (pv 2) ZCr (ZAV _)) (ZCL J (hr.mono (by decide)) ZAW (pv 0)) (pv 2)))
  (ZAU
  (ZAB (ZAL (i:=4) sc_stretch_from.nd rfl (by walk_at "o") (ZAP ZAf (pv 1) ZAF))
  (ZAB (ZBQ (ZAS op_ge (pv 4) (pv 3) (ZAV _))
  (ZAI (ZAX (ZB4 (ZAA (pv 4) (ZAA ZEf ZAE))))) ZAh)
  (ZAB (ZAL (i:=5) sc_stretch_from.nd rfl (by walk_at "o") (ZBU B (hr.mono (by decide)) ZAW (pv 0) (ZAA (pv 4) (ZAA (pv 1) ZAE))))
  (ZAB (ZEH (i:=4) sc_stretch_from.nd rfl (by walk_at "o") ZAF ZEN)
  (ZAB (ZBN PassesOwn.never (PW.pt (ZCq (ZAS ZCm (pv 4) (pv 3) (ZAV _)) (ZCO (ZAS ZB5 (ZBU B (hr.mono (by decide)) ZAW (pv 0) (ZAA (pv 4) (ZAA (ZAP ZA2 (pv 4) ZAF) ZAE))) (pv 5) (ZAV _)))))
  (ZAI (ZEH (i:=4) sc_stretch_from.nd rfl (by walk_at "o") ZAF ZEN)))
  (ZAI (ZAX (ZB4 (ZAA (pv 4) (ZAA (pv 5) ZAE)))))))))))),?_⟩
 walk_at "rd"
 apply once0
 .intro O
  rcases he with ⟨a6,es⟩ | a4
  .rw [if_pos a6]
   refine st.ha.meth (by walk_at "lk") ⟨a,rl,ru,tl,.non,_,xs.v,rfl,st.ha,st.hrl,?_⟩
   walk_at "rd"
   rw [st.len,<- es]
   exact O
  .subst a4
   rw [if_neg (by simp)]
   walk_at "rd"
   exact O
 refine ZAa ?_
 walk_at "rd"
 by_cases h1:first+1=stop
 .rw [if_pos (by omega)]
  refine ⟨ZAe (by decide),fun t Z=>q _ t (first+1) false (ZAT Z _).fr ZAG (.inl ⟨h1,h1,rfl⟩) ?_⟩
  rw [show asks first (min (first+1+1) stop)=[] from asks_none (by omega),yBC]
  exact st.mono (ZAT Z _)
 rw [if_neg (by omega)]
 refine st.ha.meth (by walk_at "lk") ?_
 rw [show ((first:Int)+1)=((first+1:Nat):Int) by omega]
 refine st.ahead (p:=first+1) (q:=first) (by omega) (by omega) (by omega) (by omega) fun H1 f1 s1=>?_
 rw [if_pos (by omega)]
 refine ZBL (fun m σ H'=>∃ (k:Nat) (v2:Option V),m=stop-k /\ σ=[some (.ref a),some (.int first),v2,some (.int stop),some (.int k),some (.bl (dec ks (first+1)))] /\ first+1 < k /\ k <= stop /\ Fr [a,lg,tl] H H' /\ SitL C_Asker C_AskedRule H' ks xs a rl ru tl g lg (pr++asks first k) /\ ∀ i,first+1 <= i->i < k->dec ks i=dec ks (first+1)) ⟨_,first+2,_,rfl,rfl,by omega,by omega,f1,?_,fun i h1 h2=>by rw [show i=first+1 by omega]⟩ ?_
 .rw [show asks first (first+2)=[(first+1,first)] by rw [show first+2=(first+1)+1 from rfl,asks_snoc (yAA _),asks_none (yAA _)];rfl]
  rw [show max (first+1) first=first+1 by omega,show min (first+1) first=first by omega] at s1
  exact s1
 rintro m σ H' ⟨k,v2,rfl,rfl,a1,a3,fr,s,U⟩
 walk_at "rd"
 have a2:(pr++asks first k).length <= 80000:=by rw [yAB,ZCg];omega
 by_cases hks:k < stop
 .rw [if_pos (by omega)]
  refine s.ha.meth (by walk_at "lk") ?_
  rw [show ((k:Int)-1)=((k-1:Nat):Int) by omega]
  refine s.ahead (p:=k) (q:=k-1) (by omega) (by omega) (by omega) a2 fun H2 f2 s2=>?_
  rw [if_pos (by omega)]
  rw [show max k (k-1)=k by omega,show min k (k-1)=k-1 by omega,yAK,<- asks_snoc (by omega)] at s2
  walk_at "rd"
  by_cases hd:dec ks k=dec ks (first+1)
  .rw [if_pos (show decide (kat ks k < kat ks (k-1))=dec ks (first+1) from hd)]
   refine ZBM ?_
   walk_at "rd"
   exact ⟨stop-(k+1),by omega,k+1,_,rfl,by rw [show ((k:Int)+1)=((k+1:Nat):Int) by omega],by omega,by omega,fr.trans f2,s2,fun i h1 h2=>by
    by_cases z:i=k
    .rw [z];exact hd
    .exact U i h1 (by omega)⟩
  .rw [if_neg (show ¬ decide (kat ks k < kat ks (k-1))=dec ks (first+1) from hd)]
   refine ⟨ZAe (by decide),fun t Z=>q _ t k _ (fr.trans (f2.trans (ZAT Z _).fr)) ZAG (.inr ⟨by omega,rfl,a1,a3,U,fun _=>hd⟩) ?_⟩
   rw [show min (k+1) stop=k+1 by omega]
   exact s2.mono (ZAT Z _)
 .rw [if_neg (by omega)]
  walk_at "rd"
  refine ⟨ZAe (by decide),fun t Z=>q _ t k _ (fr.trans (ZAT Z _).fr) ZAG (.inr ⟨by omega,rfl,a1,a3,U,fun z=>absurd z hks⟩) ?_⟩
  rw [show min (k+1) stop=k by omega]
  exact s.mono (ZAT Z _)
theorem ok_in_turn {f:Addr} {fd:FuncData} (F:Fun K "in_turn" "in_turn" ZBl f fd) (T:Bt K mg C_Join C_Pile C_Asker C_AskedRule)
 :FnOk P w K mg base CX0 1 f fd ["first","beyond","falling"] (ZDW):=by
 refine F.ok sc_in_turn (fun vs H Q E h=>?_) (fun J A outer s H vs Q E Z h=>?_)
 .obtain ⟨first,j,f,rfl,O,U,q⟩:=h
  rfl
 obtain ⟨first,j,f,rfl,O,U,q⟩:=h
 refine ⟨_,(ZAB (ZAL (i:=3) sc_in_turn.nd rfl (by walk_at "o") (ZBS (call_list_rng rfl) rfl T.b_list PyProof.Rows.boot_list (ZAA (ZBS call_rng2 rfl T.b_range PyProof.Rows.boot_range (ZAA (pv 0) (ZAA (pv 1) ZAE))) ZAE)))
  (ZAB (ZBQ (ZB2 (pv 2))
  (ZAI (ZAn (ZEe PySem.F.plainAttrs_list PySem.F.slot_list_reverse PySem.F.type_list_reverse mt_reverse (pv 3)))) ZAh)
  (ZAI (ZAX (pv 3))))),?_⟩
 walk_at "rd"
 refine ⟨first,j,rfl,fun p B=>⟨p,first,j,rfl,ZAG,by omega,fun l hl=>?_⟩⟩
 have S:Same H (upd (upd H p (.rng first j)) l (.lst ((ZDF (first:Int) (j:Int)).map V.int))):=((Same.refl H).new B).new hl
 have hn:H l=none:=((Same.refl H).new B).free hl
 rw [rints_nat] at S ⊢
 cases f with
 | true=>
  rw [if_pos rfl]
  refine ⟨.inl ⟨rfl,_,SqL.of ZAG⟩,l,_,rfl,rfl,ZAG,?_⟩
  rw [ZDO]
  refine q l _ (((Same.refl H).new B).new hl) hn ?_
  rw [ZAG]
  unfold ZBz nL
  rw [if_pos rfl,List.map_reverse]
 | false=>
  rw [if_neg (by decide)]
  refine q l _ S hn ?_
  rw [ZAG]
  rfl
theorem ok_spot_of {f:Addr} {fd:FuncData} (F:Fun K "spot_of" "spot_of" ZBj f fd) (T:Bt K mg C_Join C_Pile C_Asker C_AskedRule)
  (B:Mt P w K mg base CX0 C_Asker "ahead" 3 ["self","p","q"] (ZCN C_Asker C_AskedRule ZBH))
 :FnOk P w K mg base CX0 4 f fd ["asker","order","place"] (ZDR C_Asker C_AskedRule):=by
 refine F.ok sc_spot_of (fun vs H Q E h=>?_) (fun a3 A outer s H vs Q E hr h=>?_)
 .obtain ⟨ks,xs,a,rl,ru,tl,g,lg,ol,pr,os,pl,rfl,st,O,U,a2,J,Z,a0,q⟩:=h
  rfl
 obtain ⟨ks,xs,a,rl,ru,tl,g,lg,ol,pr,os,pl,rfl,st,O,U,a2,J,Z,a0,q⟩:=h
 refine ⟨_,(ZAB (ZAL (i:=3) sc_spot_of.nd rfl (by walk_at "o") ZAF)
  (ZAB (ZAL (i:=4) sc_spot_of.nd rfl (by walk_at "o") (ZAM ZAJ rfl T.b_len PySem.boot_len (ZAA (pv 1) ZAE)))
  (ZAB (ZBN PassesOwn.never (ZAS ZCm (pv 3) (pv 4) (ZAV _))
  (ZAB (ZAL (i:=5) sc_spot_of.nd rfl (by walk_at "o") (ZAP ZBs (ZAP ZAf (pv 3) (pv 4)) ZAF))
  (ZAI (ZBQ (ZB2 (ZBU B (hr.mono (by decide)) ZAW (pv 0) (ZAA (ZAb ZAi (pv 1) (pv 5) (fun _ _=>rfl)) (ZAA (pv 2) ZAE))))
  (ZAI (ZAL (i:=3) sc_spot_of.nd rfl (by walk_at "o") (ZAP ZAf (pv 5) ZAF)))
  (ZAI (ZAL (i:=4) sc_spot_of.nd rfl (by walk_at "o") (pv 5)))))))
  (ZAI (ZAX (pv 3)))))),?_⟩
 walk_at "rd"
 refine ⟨ol,_,rfl,.inl (SqL.of O),?_⟩
 rw [yAD]
 refine ZBL (fun m σ H'=>∃ (low high:Nat) (v5:Option V) (dn:List (Nat×Nat)),m=high-low /\ σ=[some (.ref a),some (.ref ol),some (.int pl),some (.int low),some (.int high),v5] /\ low <= high /\ high <= os.length /\ dn.length+(high-low) <= os.length /\ Fr [a,lg,tl] H H' /\ SitL C_Asker C_AskedRule H' ks xs a rl ru tl g lg (pr++dn) /\ ∀ r l,Halv ks os pl low high r l->Halv ks os pl 0 os.length r (dn++l)) ⟨_,0,os.length,_,[],rfl,rfl,yAG _,yAA _,by simp,.refl,by rw [yBC];exact st,fun r l h=>h⟩ ?_
 rintro m σ H' ⟨low,high,v5,dn,rfl,rfl,a7,a4,a6,fr,s,hh⟩
 walk_at "rd"
 by_cases hlt:low < high
 .rw [if_pos (by omega)]
  refine ZBM ?_
  walk_at "rd"
  have hm:(low+high) / 2 < os.length:=by omega
  obtain ⟨o,ho⟩:∃ o,os[(low+high) / 2]?=some o:=⟨_,yAJ hm⟩
  have a5:=J o (yAQ ho)
  have a1:((low:Int)+high) / 2=((low+high) / 2:Nat):=by omega
  refine ⟨⟨by decide,by decide⟩,?_⟩
  rw [a1]
  refine s.ha.meth (by walk_at "lk") ?_
  refine ZAy (SqL.of (fr _ _ U O)) (ZDD ho) ?_
  refine s.ahead (p:=o) (q:=pl) (by omega) (by omega) Z (by rw [yAB];omega) fun H2 f2 s2=>?_
  rw [if_neg (by omega)]
  rw [show max o pl=pl by omega,show min o pl=o by omega,yAK] at s2
  refine ⟨_,rfl,?_⟩
  by_cases hd:kat ks pl < kat ks o
  .rw [decide_eq_true hd,if_neg (by decide)]
   exact ⟨(low+high) / 2-low,by omega,low,(low+high) / 2,_,dn++[(pl,o)],rfl,rfl,by omega,by omega,by rw [yAB,yAS];omega,fr.trans f2,s2,fun r l h=>by rw [yAK];exact hh _ _ (.less hlt ho hd h)⟩
  .rw [decide_eq_false hd,if_pos (by decide)]
   exact ⟨high-((low+high) / 2+1),by omega,(low+high) / 2+1,high,_,dn++[(pl,o)],rfl,rfl,by omega,by omega,by rw [yAB,yAS];omega,fr.trans f2,s2,fun r l h=>by rw [yAK];exact hh _ _ (.more hlt ho hd h)⟩
 .rw [if_neg (by omega)]
  walk_at "rd"
  have z:=hh low [] (.done hlt)
  rw [yBC] at z
  exact q H' low dn fr z s
theorem ok_filled {f:Addr} {fd:FuncData} {dv:List Value} (F:FunD K "filled" "filled" ZCD f fd dv) (T:Bt K mg C_Join C_Pile C_Asker C_AskedRule)
  (O:Fn P w K mg base CX0 "stretch_from" 4 ["asker","first","end"] (ZCi C_Asker C_AskedRule))
  (a1:Fn P w K mg base CX0 "in_turn" 1 ["first","beyond","falling"] (ZDW))
  (a0:Fn P w K mg base CX0 "spot_of" 4 ["asker","order","place"] (ZDR C_Asker C_AskedRule))
  (U:Mt P w K mg base CX0 C_Asker "many" 1 ["self"] (ZDn C_Asker))
 :FnOk P w K mg base CX0 5 f fd ["asker","first","least","end"] (ZDY C_Asker C_AskedRule):=by
 refine F.ok sc_filled (fun vs H Q E h=>?_) (fun ao A outer s H vs Q E hr h=>?_)
 .obtain ⟨ks,xs,a,rl,ru,tl,g,lg,pr,first,B,stop,e,rfl,st,ad,he,hf,a7,hk,af,q⟩:=h
  rfl
 obtain ⟨ks,xs,a,rl,ru,tl,g,lg,pr,first,B,stop,e,rfl,st,ad,he,hf,a7,hk,af,q⟩:=h
 refine ⟨_,(ZAB (ZAL (i:=4) sc_filled.nd rfl (by walk_at "o") (ZBV (ZAS ZEK (pv 3) ZCr (ZAV _)) (ZCL U (hr.mono (by decide)) ZAW (pv 0)) (pv 3)))
  (ZAU
  (ZAB (ZAL (i:=5) sc_filled.nd rfl (by walk_at "o") (ZBR O (hr.mono (by decide)) rfl ZAW (ZAA (pv 0) (ZAA (pv 1) (ZAA (pv 4) ZAE)))))
  (ZAB (ZAL (i:=6) sc_filled.nd rfl (by walk_at "o") (ZAb ZAp (pv 5) ZAF (fun _ _=>rfl)))
  (ZAB (ZAL (i:=7) sc_filled.nd rfl (by walk_at "o") (ZBR a1 (hr.mono (by decide)) rfl ZAW (ZAA (pv 1) (ZAA (pv 6) (ZAA (ZAb ZAp (pv 5) ZAF (fun _ _=>rfl)) ZAE)))))
  (ZAU
  (ZAB (ZDr PassesOwn.never rfl (pi_range2 rfl T.b_range (ZAA (pv 6) (ZAA (ZAM (ZB9 rfl) rfl T.b_min PyProof.Rows.boot_min (ZAA (ZAP ZAf (pv 1) (pv 2)) (ZAA (pv 4) ZAE))) ZAE))) (ZBI (i:=8) sc_filled.nd rfl (by walk_at "o"))
  (ZAI (ZAn (ZCQ PySem.F.plainAttrs_list PySem.F.slot_list_insert PySem.F.type_list_insert mt_insert (pv 7) (ZAA (ZBR a0 (hr.mono (by decide)) rfl ZAW (ZAA (pv 0) (ZAA (pv 7) (ZAA (pv 8) ZAE)))) (ZAA (pv 8) ZAE))))))
  (ZAI (ZAX (ZB4 (ZAA (pv 6) (ZAA (pv 7) ZAE)))))))))))),?_⟩
 walk_at "rd"
 apply once0
 .intro a3
  rcases he with ⟨ah,es⟩ | ag
  .rw [if_pos ah]
   refine st.ha.meth (by walk_at "lk") ⟨a,rl,ru,tl,.non,_,xs.v,rfl,st.ha,st.hrl,?_⟩
   walk_at "rd"
   rw [st.len,<- es]
   exact a3
  .subst ag
   rw [if_neg (by simp)]
   walk_at "rd"
   exact a3
 refine ZAa ?_
 walk_at "rd"
 refine ⟨ks,xs,a,rl,ru,tl,g,lg,pr,first,stop,.int stop,rfl,st,.inr rfl,hf,a7,hk,by omega,fun H1 t j f ab ht hb a5=>?_⟩
 have hj:first+1 <= j /\ j <= stop:=by rcases hb with ⟨z1,z2,_⟩ | ⟨_,_,z1,z2,_⟩ <;> omega
 refine ZAk (SqT.of ht) (ZAY (by decide) rfl) ?_
 refine ZAk (SqT.of ht) (ZAY (by decide) rfl) ⟨first,j,f,rfl,by omega,by omega,fun ol H2 s2 J aj=>?_⟩
 have st2:=a5.mono s2
 have a2:ol∉[a,lg,tl]:=by
  obtain ⟨ws,hlg,_⟩:=a5.hlg
  obtain ⟨ts,htl,_⟩:=a5.htl
  intro z
  rcases yAE.mp z with z | z
  .exact a5.ha.neN J z
  rcases yAE.mp z with z | z
  .rw [z,hlg] at J;cases J
  .rw [yAO.mp z,htl] at J;cases J
 have am:rl≠ol /\ lg≠ol /\ tl≠ol:=by
  refine ⟨ZAD a5.hrl J,fun z=>a2 (by rw [<- z];exact yAC _ yAF),fun z=>a2 (by rw [<- z];exact yAC _ (yAC _ yAF))⟩
 have ac:H ol=none:=by
  cases z:H ol with
  | none=>rfl
  | some o=>rw [ab _ _ a2 z] at J;cases J
 refine ZAa ?_
 walk_at "rd"
 refine ⟨_,_,rfl,?_⟩
 rw [ZEw,show min ((first:Int)+B) stop=(min (first+B) stop:Nat) by omega]
 have o0:=hb.ord
 refine forR2_of (by omega) (ZED (fun i σ H'=>∃ (v3 v8:Option V) (os:List Nat) (dn:List (Nat×Nat)),σ=[some (.ref a),some (.int first),some (.int B),v3,some (.int stop),some (.ref t),some (.int j),some (.ref ol),v8] /\ H' ol=some (.lst (nL os)) /\ OrdN ks first (j+i) os /\ dn.length <= i * 120 /\ Fr [a,lg,tl] H H' /\ H' t=some (.tup [.int (j:Nat),.bl f]) /\ SitL C_Asker C_AskedRule H' ks xs a rl ru tl g lg (pr++(asks first (min (j+1) stop)++dn)) /\ ∀ os' l,Put ks os (j+i) (min (first+B) stop) os' l->Put ks (ZBz first j f) j (min (first+B) stop) os' (dn++l)) ⟨_,_,ZBz first j f,[],rfl,aj,o0,by simp,ab.trans s2.fr,s2 _ _ ht,by rw [yBC];exact st2,fun os' l h=>h⟩ ?_ ?_)
 .rintro i σ H' hi ⟨v3,v8,os,dn,rfl,Z,ho,ai,fr,a4,st',a6⟩
  walk_at "rd"
  have al:j+i < min (first+B) stop:=by omega
  have an:=ho.len
  rw [show ((j:Int)+i)=((j+i:Nat):Int) by omega]
  refine ⟨.inl ⟨rfl,_,SqL.of Z⟩,ks,xs,a,rl,ru,tl,g,lg,ol,_,os,j+i,rfl,st',Z,a2,by omega,fun x hx=>((ho.mem x).mp hx).2,by omega,by rw [yAB,yAB,ZCg];omega,fun H3 r l aa hh st3=>?_⟩
  have ae:=hh.bounds (yAG _)
  have a8:=aa _ _ a2 Z
  refine ⟨ol,_,_,_,rfl,rfl,a8,ZBP (by rw [yAD];omega),by omega,?_⟩
  rw [insV_nL ae.2]
  have ll:=hh.len
  refine ⟨_,_,insN os r (j+i),dn++l,rfl,ZAG,by rw [show j+(i+1)=j+i+1 by omega];exact ho.ins (by omega) hh,by rw [yAB];omega,fun b o n h=>?_,?_,?_,fun os' l' hp=>?_⟩
  .rw [ZAK (ZAD h ac)]
   exact aa _ _ n (fr _ _ n h)
  .have nt:t≠ol:=fun z=>by rw [z,Z] at a4;cases a4
   rw [ZAK nt]
   exact aa _ _ (st'.tupS a4 (fun _ z=>by cases z) (fun _ _ _ z=>by cases z)) a4
  .rw [show pr++(asks first (min (j+1) stop)++(dn++l))=pr++(asks first (min (j+1) stop)++dn)++l by simp only [yAK]]
   exact st3.upd a8 am
  .rw [yAK]
   exact a6 _ _ (.cons al hh (by rw [show j+i+1=j+(i+1) by omega];exact hp))
 rintro σ H' ⟨v3,v8,os,dn,rfl,Z,ho,ai,fr,a4,st',a6⟩
 walk_at "rd"
 refine ⟨ZAe (by decide),fun t2 a9=>?_⟩
 have z:=a6 os [] (.nil (by omega))
 rw [yBC] at z
 exact q _ t2 ol j f os dn (fr.trans (ZAT a9 _).fr) ac a2 ZAG (ZAT a9 _ _ _ Z) hb z (st'.mono (ZAT a9 _))
theorem ok_leap {f:Addr} {fd:FuncData} (F:Fun K "leap" "leap" ZDK f fd) (T:Bt K mg C_Join C_Pile C_Asker C_AskedRule)
  (B:Mt P w K mg base CX0 C_Asker "ahead" 3 ["self","p","q"] (ZCN C_Asker C_AskedRule ZBH))
 :FnOk P w K mg base CX0 4 f fd ["asker","order","first","place"] (ZEZ C_Asker C_AskedRule):=by
 refine F.ok sc_leap (fun vs H Q E h=>?_) (fun ad A outer s H vs Q E hr h=>?_)
 .obtain ⟨ks,xs,a,rl,ru,tl,g,lg,ol,pr,os,f,pl,z,rfl,st,a3,a2,ac,a1,a4,ab,a8,a7,a5,q⟩:=h
  rfl
 obtain ⟨ks,xs,a,rl,ru,tl,g,lg,ol,pr,os,f,pl,z,rfl,st,a3,a2,ac,a1,a4,ab,a8,a7,a5,q⟩:=h
 refine ⟨_,(ZAB (ZAL (i:=4) sc_leap.nd rfl (by walk_at "o") (ZAP ZA2 (pv 2) ZAF))
  (ZAB (ZAL (i:=5) sc_leap.nd rfl (by walk_at "o") (pv 2))
  (ZAB (ZAL (i:=6) sc_leap.nd rfl (by walk_at "o") ZAF)
  (ZAB (ZBN PassesOwn.never (PW.pt (ZCq (ZAS ZCm (pv 5) (ZAM ZAJ rfl T.b_len PySem.boot_len (ZAA (pv 1) ZAE)) (ZAV _)) (ZCO (ZB2 (ZBU B (hr.mono (by decide)) ZAW (pv 0) (ZAA (ZAb ZAi (pv 1) (pv 5) (fun _ _=>rfl)) (ZAA (pv 3) ZAE)))))))
  (ZAB (ZAL (i:=4) sc_leap.nd rfl (by walk_at "o") (pv 5))
  (ZAB (ZEH (i:=5) sc_leap.nd rfl (by walk_at "o") (pv 6) ZEN)
  (ZAI (ZAL (i:=6) sc_leap.nd rfl (by walk_at "o") (ZAP ZBd (pv 6) ZAF))))))
  (ZAB (ZAL (i:=5) sc_leap.nd rfl (by walk_at "o") (ZAM (ZB9 rfl) rfl T.b_min PyProof.Rows.boot_min (ZAA (pv 5) (ZAA (ZAM ZAJ rfl T.b_len PySem.boot_len (ZAA (pv 1) ZAE)) ZAE))))
  (ZAU
  (ZAB (ZBN PassesOwn.never (ZAS ZES (ZAP ZA2 (pv 5) (pv 4)) ZAF (ZAV _))
  (ZAB (ZAL (i:=7) sc_leap.nd rfl (by walk_at "o") (ZAP ZBs (ZAP ZAf (pv 4) (pv 5)) ZAF))
  (ZAI (ZBQ (ZB2 (ZBU B (hr.mono (by decide)) ZAW (pv 0) (ZAA (ZAb ZAi (pv 1) (pv 7) (fun _ _=>rfl)) (ZAA (pv 3) ZAE))))
  (ZAI (ZAL (i:=4) sc_leap.nd rfl (by walk_at "o") (pv 7)))
  (ZAI (ZAL (i:=5) sc_leap.nd rfl (by walk_at "o") (pv 7)))))))
  (ZAI (ZAX (ZAP ZA2 (pv 5) (pv 2))))))))))),?_⟩
 walk_at "rd"
 apply once4 (fun (lo hi:Nat) (_:Int) (H':Hp)=>f <= lo /\ lo <= z /\ z <= hi /\ hi <= os.length /\ ∃ dn:List Nat,dn.length <= os.length+1 /\ Fr [a,lg,tl] H H' /\ SitL C_Asker C_AskedRule H' ks xs a rl ru tl g lg (pr++dn.map (ask1 os pl)) /\ ∀ L,Bin z lo hi L->Gal z os.length f f f (dn++L))
 .intro a0
  refine ZBL (fun m σ H'=>∃ (lo far:Nat) (dn:List Nat),m=os.length-lo /\ σ=[some (.ref a),some (.ref ol),some (.int f),some (.int pl),some (.int ((lo:Int)-1)),some (.int far),some (.int ((far:Int)-f+1)),none] /\ LIn1 C_Asker C_AskedRule ks xs a rl ru tl g lg pr os f pl z H lo far dn H') ⟨_,f,f,[],rfl,by rw [show (f:Int)-f+1=1 by omega],yAA _,a8,yAA _,by simp,.refl,by rw [List.map_nil,yBC];exact st,fun L h=>h⟩ ?_
  rintro m σ H' ⟨lo,far,dn,rfl,rfl,h1,h2,h3,h4,fr,s,hg⟩
  walk_at "rd"
  have J:=fr _ _ a2 a3
  refine ⟨ol,_,rfl,.inl (SqL.of J),?_⟩
  rw [yAD]
  by_cases hf:far < os.length
  .rw [if_pos (by omega)]
   obtain ⟨o,ho⟩:∃ o,os[far]?=some o:=⟨_,yAJ hf⟩
   have O:=a1 o (yAQ ho)
   have Z:=a5 far o (by omega) ho
   refine s.ha.meth (by walk_at "lk") ?_
   refine ZAy (SqL.of J) (ZDD ho) ?_
   refine s.ahead (p:=o) (q:=pl) O.2 O.1 a4 (by rw [yAB,yAD];omega) fun H2 f2 s2=>?_
   rw [ZDk O.2]
   have ea:[(max o pl,min o pl)]=[far].map (ask1 os pl):=by
    show _=[ask1 os pl far]
    unfold ask1
    rw [ho]
    rfl
   rw [yAK,ea,<- yAU] at s2
   refine ⟨_,rfl,?_⟩
   by_cases hd:lx ks o pl
   .rw [decide_eq_true hd,if_pos rfl]
    refine ZBM ?_
    walk_at "rd"
    have U:=Z.mp hd
    exact ⟨.inr ⟨by decide,by decide⟩,os.length-(far+1),by omega,far+1,2 * far-f+1,dn++[far],rfl,by rw [show ((far+1:Nat):Int)-1=far by omega,show (far:Int)+(far-f+1)=((2 * far-f+1:Nat):Int) by omega,show (far:Int)-f+1=(far:Int)-f+1 from rfl,show ((far:Int)-f+1) * 2=((2 * far-f+1:Nat):Int)-f+1 by omega],by omega,by omega,by omega,by rw [yAB,yAS];omega,fr.trans f2,s2,fun L h=>by rw [yAK];exact hg _ (.more hf U h)⟩
   .rw [decide_eq_false hd,if_neg (by decide)]
    have U:z <= far:=by
     rcases yBT far z with y | y
     .exact absurd (Z.mpr y) hd
     .exact y
    refine ⟨ol,_,rfl,.inl (SqL.of (f2 _ _ a2 J)),_,_,rfl,?_⟩
    rw [yAD,ZEw,show min (far:Int) os.length=(far:Nat) by omega]
    generalize (far:Int)-f+1=wd
    exact a0 lo far wd H2 ⟨h1,h2,U,by omega,dn++[far],by rw [yAB,yAS];omega,fr.trans f2,s2,fun L h=>by rw [yAK];exact hg _ (.stop hf U h)⟩
  .rw [if_neg (by omega)]
   refine ⟨ol,_,rfl,.inl (SqL.of J),_,_,rfl,?_⟩
   rw [yAD,ZEw,show min (far:Int) os.length=(os.length:Nat) by omega]
   exact a0 lo os.length _ H' ⟨h1,h2,a7,yAA _,dn,by omega,fr,s,fun L h=>hg _ (.out (by omega) h)⟩
 rintro lo hi wd H1 ⟨h1,h2,h3,h4,dn,h5,aa,a9,hg⟩
 refine ZAa ?_
 walk_at "rd"
 refine ZBL (fun m σ H'=>∃ (lo hi:Nat) (v7:Option V) (dn:List Nat),m=hi-lo /\ σ=[some (.ref a),some (.ref ol),some (.int f),some (.int pl),some (.int ((lo:Int)-1)),some (.int hi),some (.int wd),v7] /\ LIn2 C_Asker C_AskedRule ks xs a rl ru tl g lg pr os f pl z H lo hi dn H') ⟨_,lo,hi,_,dn,rfl,rfl,h1,h2,h3,h4,by omega,aa,a9,hg⟩ ?_
 clear h1 h2 h3 h4 h5 aa a9 hg
 rintro m σ H' ⟨lo,hi,v7,dn,rfl,rfl,h1,h2,h3,h4,h5,fr,s,hg⟩
 walk_at "rd"
 by_cases hlt:lo < hi
 .rw [if_pos (by omega)]
  refine ZBM ?_
  walk_at "rd"
  refine ⟨⟨by decide,by decide⟩,?_⟩
  rw [show ((lo:Int)-1+hi) / 2=((lo+hi-1) / 2:Nat) by omega]
  have hm:(lo+hi-1) / 2 < os.length:=by omega
  obtain ⟨o,ho⟩:∃ o,os[(lo+hi-1) / 2]?=some o:=⟨_,yAJ hm⟩
  have O:=a1 o (yAQ ho)
  have Z:=a5 _ o (by omega) ho
  have J:=fr _ _ a2 a3
  refine s.ha.meth (by walk_at "lk") ?_
  refine ZAy (SqL.of J) (ZDD ho) ?_
  refine s.ahead (p:=o) (q:=pl) O.2 O.1 a4 (by rw [yAB,yAD];omega) fun H2 f2 s2=>?_
  rw [ZDk O.2]
  have ea:[(max o pl,min o pl)]=[(lo+hi-1) / 2].map (ask1 os pl):=by
   show _=[ask1 os pl ((lo+hi-1) / 2)]
   unfold ask1
   rw [ho]
   rfl
  rw [yAK,ea,<- yAU] at s2
  refine ⟨_,rfl,?_⟩
  by_cases hd:lx ks o pl
  .rw [decide_eq_true hd,if_pos rfl]
   exact ⟨hi-((lo+hi-1) / 2+1),by omega,(lo+hi-1) / 2+1,hi,_,dn++[(lo+hi-1) / 2],rfl,by rw [show (((lo+hi-1) / 2+1:Nat):Int)-1=((lo+hi-1) / 2:Nat) by omega],by omega,Z.mp hd,h3,h4,by rw [yAB,yAS];omega,fr.trans f2,s2,fun L h=>by rw [yAK];exact hg _ (.more hlt (Z.mp hd) h)⟩
  .rw [decide_eq_false hd,if_neg (by decide)]
   have a6:z <= (lo+hi-1) / 2:=by
    rcases yBT ((lo+hi-1) / 2) z with y | y
    .exact absurd (Z.mpr y) hd
    .exact y
   exact ⟨(lo+hi-1) / 2-lo,by omega,lo,(lo+hi-1) / 2,_,dn++[(lo+hi-1) / 2],rfl,rfl,h1,h2,a6,by omega,by rw [yAB,yAS];omega,fr.trans f2,s2,fun L h=>by rw [yAK];exact hg _ (.less hlt a6 h)⟩
 .rw [if_neg (by omega)]
  walk_at "rd"
  have e:lo=hi:=by omega
  subst e
  have y:=hg [] .done
  rw [yBC] at y
  rw [show (lo:Int)-f=((z-f:Nat):Int) by omega]
  exact q H' dn fr y s
theorem ok_Join_init {f:Addr} {fd:FuncData} (F:Fun K "__init__" "Join.__init__" ZBG f fd) (T:Bt K mg C_Join C_Pile C_Asker C_AskedRule)
 :FnOk P w K mg base CX0 1 f fd ["self","asker","left","right"] (ZD2 C_Join):=by
 refine F.ok sc_Join_init (fun vs H Q E h=>?_) (fun ag A outer s H vs Q E hr h=>?_)
 .obtain ⟨x,dx,ak,al,ar,ls,rs,rfl,hx,a1,a5,q⟩:=h
  rfl
 obtain ⟨x,dx,ak,al,ar,ls,rs,rfl,hx,a1,a5,q⟩:=h
 refine ⟨_,(ZAB (ZBB (pv 0) (pv 1) rfl)
  (ZAB (ZBB (pv 0) (ZB4 (ZAA (ZBS ZBg rfl T.b_list PyProof.Rows.boot_list (ZAA (pv 2) ZAE)) (ZAA (ZBS ZBg rfl T.b_list PyProof.Rows.boot_list (ZAA (pv 3) ZAE)) ZAE))) rfl)
  (ZAB (ZBB (pv 0) (ZBC (ZAA ZAF (ZAA ZAF ZAE))) rfl)
  (ZAI (ZBB (pv 0) (ZBC ZAE) rfl))))),?_⟩
 walk_at "rd"
 have ac:al≠x:=fun z=>by rw [z,hx] at a1;cases a1
 have ab:ar≠x:=fun z=>by rw [z,hx] at a5;cases a5
 refine setX hx T.cl_Join T.n_Join_asker (by decide) fun H2 x2 k2=>?_
 walk_at "rd"
 refine ⟨al,_,rfl,.inl (SqL.of (by rw [k2 al ac];exact a1)),fun la a3=>?_⟩
 obtain ⟨H3,e3,s3,h3⟩:=newH a3 (.lst (nL ls))
 rw [e3];clear e3
 refine ⟨ar,_,rfl,.inl (SqL.of (s3 _ _ (by rw [k2 ar ab];exact a5))),fun O a2=>?_⟩
 obtain ⟨H4,e4,s4,h4⟩:=newH a2 (.lst (nL rs))
 rw [e4];clear e4
 refine ⟨ZAe (by decide),fun sd Z=>?_⟩
 obtain ⟨H5,e5,s5,h5⟩:=newH Z (.tup [.ref la,.ref O])
 rw [e5];clear e5
 have x5:=s5 _ _ (s4 _ _ (s3 _ _ x2))
 refine setX x5 T.cl_Join T.n_Join_sides ZEt fun H6 x6 k6=>?_
 walk_at "rd"
 refine ⟨ZAe (by decide),fun tk J=>?_⟩
 obtain ⟨H7,e7,s7,h7⟩:=newH J (.lst [.int 0,.int 0])
 rw [e7];clear e7
 have x7:=s7 _ _ x6
 refine setX x7 T.cl_Join T.n_Join_taken ZEs fun H8 x8 k8=>?_
 walk_at "rd"
 refine ⟨ZAe (by decide),fun pc B=>?_⟩
 obtain ⟨H9,e9,s9,h9⟩:=newH B (.lst [])
 rw [e9];clear e9
 have x9:=s9 _ _ x8
 refine setX x9 T.cl_Join T.n_Join_places ZEr fun HA xA kA=>?_
 have a4:la≠x:=Ne.symm (ZAD x2 a3)
 have U:O≠x:=Ne.symm (ZAD (s3 _ _ x2) a2)
 have a7:sd≠x:=Ne.symm (ZAD (s4 _ _ (s3 _ _ x2)) Z)
 have a6:tk≠x:=Ne.symm (ZAD x6 J)
 have a8:pc≠x:=Ne.symm (ZAD x8 B)
 have a0:∀ b o,b≠x->H5 b=some o->HA b=some o:=fun b o n e=>by
  rw [kA b n]
  refine s9 _ _ ?_
  rw [k8 b n]
  refine s7 _ _ ?_
  rw [k6 b n]
  exact e
 have up:∀ b o,b≠x->H b=some o->H5 b=some o:=fun b o n e=>s5 _ _ (s4 _ _ (s3 _ _ (by rw [k2 b n];exact e)))
 have af:=a0 la _ a4 (s5 _ _ (s4 _ _ h3))
 have aa:=a0 O _ U (s5 _ _ h4)
 have ad:=a0 sd _ a7 h5
 have g8:H8 tk=some (.lst [.int 0,.int 0]):=by rw [k8 tk a6];exact h7
 have ae:HA tk=some (.lst [.int 0,.int 0]):=by rw [kA tk a6];exact s9 _ _ g8
 have a9:HA pc=some (.lst []):=by rw [kA pc a8];exact h9
 have f6:∀ b,b≠x->H6 b=none->H b=none:=fun b n e=>by
  cases eb:H b with
  | none=>rfl
  | some o=>have:=up b o n eb;rw [k6 b n,this] at e;cases e
 have f8:∀ b,b≠x->H8 b=none->H b=none:=fun b n e=>f6 b n (s7.free (by rw [<- k8 b n];exact e))
 have l5:H6 la=some (.lst (nL ls)):=by rw [k6 la a4];exact s5 _ _ (s4 _ _ h3)
 have r5:H6 O=some (.lst (nL rs)):=by rw [k6 O U];exact s5 _ _ h4
 have l8:H8 la=some (.lst (nL ls)):=by rw [k8 la a4];exact s7 _ _ l5
 have r8:H8 O=some (.lst (nL rs)):=by rw [k8 O U];exact s7 _ _ r5
 refine q sd la O tk pc HA (fun b o n e=>a0 b o n (up b o n e)) ?_ ?_ ?_ (f6 tk a6 J) (f8 pc a8 B) ⟨(Ins.of xA (yAL ZE8 (by decide))).congr fun f=>by simp only [ZAd,lkc],ad,af,aa,ae,a9,ZAD g8 B,ZAD l5 J,ZAD l8 B,ZAD r5 J,ZAD r8 B⟩
 .cases eb:H sd with
  | none=>rfl
  | some o=>have:=s4 _ _ (s3 _ _ (by rw [k2 sd a7];exact eb));rw [this] at Z;cases Z
 .cases eb:H la with
  | none=>rfl
  | some o=>rw [k2 la a4,eb] at a3;cases a3
 .cases eb:H O with
  | none=>rfl
  | some o=>have:=s3 O o (by rw [k2 O U];exact eb);rw [this] at a2;cases a2
theorem ok_Join_has_more {f:Addr} {fd:FuncData} (F:Fun K "has_more" "Join.has_more" ZAv f fd) (T:Bt K mg C_Join C_Pile C_Asker C_AskedRule)
 :FnOk P w K mg base CX0 1 f fd ["self","side"] (ZCY C_Join):=by
 refine F.ok sc_Join_has_more (fun vs H Q E h=>?_) (fun B A outer s H vs Q E J h=>?_)
 .obtain ⟨b,jn,ak,sd,ma,ta,tk,pc,ms,ts,i,j,dn,rfl,js,q⟩:=h
  rfl
 obtain ⟨b,jn,ak,sd,ma,ta,tk,pc,ms,ts,i,j,dn,rfl,js,q⟩:=h
 refine ⟨_,(ZAI (ZAX (ZCP ZCm (ZAb ZAi (ZAQ (pv 0) rfl) (pv 1) (fun _ _=>rfl)) (ZAM ZAJ rfl T.b_len PySem.boot_len (ZAA (ZAb ZAp (ZAQ (pv 0) rfl) (pv 1) (fun _ _=>rfl)) ZAE)) (ZAV _)))),?_⟩
 walk_at "rd"
 refine js.hj.get T.cl_Join T.n_Join_taken (by walk_at "lk") (ZAy (SqL.of js.htk) ZCK ?_)
 refine js.hj.get T.cl_Join T.n_Join_sides (by walk_at "lk") (ZAk (SqT.of js.hsd) ZCK ⟨ma,_,rfl,.inl (SqL.of js.hma),?_⟩)
 rw [yAD]
 refine ⟨_,_,rfl,rfl,?_⟩
 have e:decide ((i:Int) < ms.length)=decide (i < ms.length):=by rw [decide_eq_decide];omega
 rw [<- e] at q
 exact q
theorem ok_Join_front {f:Addr} {fd:FuncData} (F:Fun K "front" "Join.front" ZA8 f fd) (T:Bt K mg C_Join C_Pile C_Asker C_AskedRule)
 :FnOk P w K mg base CX0 1 f fd ["self","side"] (ZDX C_Join):=by
 refine F.ok sc_Join_front (fun vs H Q E h=>?_) (fun J A outer s H vs Q E O h=>?_)
 .obtain ⟨b,jn,ak,sd,ma,ta,tk,pc,ms,ts,i,j,dn,x,rfl,js,B,q⟩:=h
  rfl
 obtain ⟨b,jn,ak,sd,ma,ta,tk,pc,ms,ts,i,j,dn,x,rfl,js,B,q⟩:=h
 refine ⟨_,(ZAI (ZAX (ZAb ZAi (ZAb ZAp (ZAQ (pv 0) rfl) (pv 1) (fun _ _=>rfl)) (ZAb ZAi (ZAQ (pv 0) rfl) (pv 1) (fun _ _=>rfl)) (fun _ _=>rfl)))),?_⟩
 walk_at "rd"
 refine js.hj.get T.cl_Join T.n_Join_sides (by walk_at "lk") (ZAk (SqT.of js.hsd) ZCK ?_)
 refine js.hj.get T.cl_Join T.n_Join_taken (by walk_at "lk") (ZAy (SqL.of js.htk) ZCK ?_)
 exact ZAy (SqL.of js.hma) (ZDD B) q
theorem ok_Join_take_on {f:Addr} {fd:FuncData} (F:Fun K "take_on" "Join.take_on" ZA0 f fd) (T:Bt K mg C_Join C_Pile C_Asker C_AskedRule)
 :FnOk P w K mg base CX0 1 f fd ["self","side","more"] (ZCX C_Join):=by
 refine F.ok sc_Join_take_on (fun vs H Q E h=>?_) (fun Z A outer s H vs Q E hr h=>?_)
 .obtain ⟨b,jn,ak,sd,ma,ta,tk,pc,ms,ts,i,j,dn,m,rfl,js,hm,hl,q⟩:=h
  rfl
 obtain ⟨b,jn,ak,sd,ma,ta,tk,pc,ms,ts,i,j,dn,m,rfl,js,hm,hl,q⟩:=h
 refine ⟨_,(ZAB (ZAL (i:=3) sc_Join_take_on.nd rfl (by walk_at "o") (ZAb ZAi (ZAQ (pv 0) rfl) (pv 1) (fun _ _=>rfl)))
  (ZAB (ZAn (ZCQ PySem.F.plainAttrs_list PySem.F.slot_list_extend PySem.F.type_list_extend mt_extend (ZAQ (pv 0) rfl) (ZAA (ZCa ZC3 (ZAb ZAp (ZAQ (pv 0) rfl) (pv 1) (fun _ _=>rfl)) (ZB3 (pv 3)) (ZB3 (ZAP ZAf (pv 3) (pv 2)))) ZAE)))
  (ZAI (ps_asg (ZAP ZAf (pv 3) (pv 2)) (pg_sub (ZAQ (pv 0) rfl) (pv 1) set_list))))),?_⟩
 walk_at "rd"
 refine js.hj.get T.cl_Join T.n_Join_taken (by walk_at "lk") (ZAy (SqL.of js.htk) ZCK ?_)
 walk_at "rd"
 refine js.hj.get T.cl_Join T.n_Join_places (by walk_at "lk") ?_
 walk_at "rd"
 refine ⟨.inl ⟨rfl,_,SqL.of js.hpc⟩,?_⟩
 refine js.hj.get T.cl_Join T.n_Join_sides (by walk_at "lk") (ZAk (SqT.of js.hsd) ZCK ?_)
 walk_at "rd"
 refine ZDq (SqL.of js.hma) fun c hc=>?_
 have ec:cutV (nL ms) (some (i:Int)) (some ((i:Int)+m))=nL ((ms.drop i).take m):=by
  unfold cutV
  rw [show (i:Int)+m=((i+m:Nat):Int) by omega,HT.sIx_nat,HT.sIx_nat,yAD,yBW (show i <= ms.length by omega),yBW (show i+m <= ms.length by omega),Nat.add_sub_cancel_left]
  unfold nL
  rw [<- List.map_drop,<- List.map_take]
 rw [ec]
 obtain ⟨H1,U,s1,h1⟩:=newH hc (.lst (nL ((ms.drop i).take m)))
 rw [U];clear U
 have J:=js.mono s1
 refine ⟨pc,c,_,_,rfl,rfl,J.hpc,h1,ZAe (by rw [yAD,yAD,yAP,yBA];omega),?_⟩
 have O:tk≠pc:=js.ne.1
 have B:JS C_Join (upd H1 pc (.lst (nL dn++nL ((ms.drop i).take m)))) b jn ak sd ma ta tk pc ms ts i j (dn++(ms.drop i).take m):=J.keep (Fr.upd (yAC _ yAF)) (by rw [ZAK O];exact J.htk) (by rw [ZAG];unfold nL;rw [yAU])
 have f1:Fr [tk,pc] H (upd H1 pc (.lst (nL dn++nL ((ms.drop i).take m)))):=s1.fr.trans (Fr.upd (yAC _ yAF))
 generalize upd H1 pc (.lst (nL dn++nL ((ms.drop i).take m)))=H2 at B f1 ⊢
 refine B.hj.get T.cl_Join T.n_Join_taken (by walk_at "lk") ?_
 walk_at "rd"
 refine ⟨tk,_,_,_,rfl,rfl,B.htk,ixN_of (by cases b <;> decide) (by rw [pk_len];cases b <;> decide),?_⟩
 rw [pk_set,show (i:Int)+m=((i+m:Nat):Int) by omega]
 refine q _ (f1.trans (Fr.upd yAF)) (B.keep (Fr.upd yAF) ZAG (by rw [ZAK (Ne.symm O)];exact B.hpc))
theorem ok_Join_take_rest {f:Addr} {fd:FuncData} (F:Fun K "take_rest" "Join.take_rest" ZAr f fd) (T:Bt K mg C_Join C_Pile C_Asker C_AskedRule)
  (B:Mt P w K mg base CX0 C_Join "take_on" 1 ["self","side","more"] (ZCX C_Join))
 :FnOk P w K mg base CX0 2 f fd ["self","side"] (ZCh C_Join):=by
 refine F.ok sc_Join_take_rest (fun vs H Q E h=>?_) (fun U A outer s H vs Q E O h=>?_)
 .obtain ⟨b,jn,ak,sd,ma,ta,tk,pc,ms,ts,i,j,dn,rfl,js,hi,hl,q⟩:=h
  rfl
 obtain ⟨b,jn,ak,sd,ma,ta,tk,pc,ms,ts,i,j,dn,rfl,js,hi,hl,q⟩:=h
 refine ⟨_,(ZAI (ZAn (ZBU B (O.mono (by decide)) ZAW (pv 0) (ZAA (pv 1) (ZAA (ZAP ZA2 (ZAM ZAJ rfl T.b_len PySem.boot_len (ZAA (ZAb ZAp (ZAQ (pv 0) rfl) (pv 1) (fun _ _=>rfl)) ZAE)) (ZAb ZAi (ZAQ (pv 0) rfl) (pv 1) (fun _ _=>rfl))) ZAE))))),?_⟩
 walk_at "rd"
 refine js.hj.meth (by walk_at "lk") ?_
 refine js.hj.get T.cl_Join T.n_Join_sides (by walk_at "lk") (ZAk (SqT.of js.hsd) ZCK ⟨ma,_,rfl,.inl (SqL.of js.hma),?_⟩)
 refine js.hj.get T.cl_Join T.n_Join_taken (by walk_at "lk") (ZAy (SqL.of js.htk) ZCK ?_)
 walk_at "rd"
 rw [yAD,show (ms.length:Int)-i=((ms.length-i:Nat):Int) by omega]
 refine ⟨b,jn,ak,sd,ma,ta,tk,pc,ms,ts,i,j,dn,ms.length-i,rfl,js,by omega,hl,fun H' Z J=>?_⟩
 rw [show i+(ms.length-i)=ms.length by omega,yCF (by rw [yBA];exact yAA _)] at J
 exact q H' Z J
theorem ok_Join_win {f:Addr} {fd:FuncData} (F:Fun K "win" "Join.win" ZBZ f fd) (T:Bt K mg C_Join C_Pile C_Asker C_AskedRule)
  (J:Mt P w K mg base CX0 C_Join "take_on" 1 ["self","side","more"] (ZCX C_Join))
  (O:Mt P w K mg base CX0 C_Asker "ahead" 3 ["self","p","q"] (ZCN C_Asker C_AskedRule ZBH))
  (B:Mt P w K mg base CX0 C_Join "front" 1 ["self","side"] (ZDX C_Join))
 :FnOk P w K mg base CX0 4 f fd ["self"] (ZE4 C_Asker C_AskedRule C_Join):=by
 refine F.ok sc_Join_win (fun vs H Q E h=>?_) (fun a6 A outer s H vs Q E hr h=>?_)
 .obtain ⟨ks,xs,a,rl,ru,tl,g,lg,jn,sd,la,ra,tk,pc,pr,ls,rs,dn,i,j,x,y,rfl,st,js,nx,hx,hy,a0,a1,a2,a5,a4,a3,q⟩:=h
  rfl
 obtain ⟨ks,xs,a,rl,ru,tl,g,lg,jn,sd,la,ra,tk,pc,pr,ls,rs,dn,i,j,x,y,rfl,st,js,nx,hx,hy,a0,a1,a2,a5,a4,a3,q⟩:=h
 refine ⟨_,(ZAB (ZAL (i:=1) sc_Join_win.nd rfl (by walk_at "o") (ZBV (ZB2 (ZBU O (hr.mono (by decide)) ZAW (ZAQ (pv 0) rfl) (ZAA (ZBU B (hr.mono (by decide)) ZAW (pv 0) (ZAA (ZBJ rfl T.c_LEFT) ZAE)) (ZAA (ZBU B (hr.mono (by decide)) ZAW (pv 0) (ZAA (ZBJ rfl T.c_RIGHT) ZAE)) ZAE)))) (ZBJ rfl T.c_LEFT) (ZBJ rfl T.c_RIGHT)))
  (ZAB (ZAn (ZBU J (hr.mono (by decide)) ZAW (pv 0) (ZAA (pv 1) (ZAA ZAF ZAE))))
  (ZAI (ZAX (pv 1))))),?_⟩
 walk_at "rd"
 refine js.hj.get T.cl_Join T.n_Join_asker (by walk_at "lk") (st.ha.meth (by walk_at "lk") ?_)
 refine js.hj.meth (by walk_at "lk") ⟨true,jn,a,sd,la,ra,tk,pc,ls,rs,i,j,dn,x,rfl,js,hx,?_⟩
 refine js.hj.meth (by walk_at "lk") ⟨false,jn,a,sd,ra,la,tk,pc,rs,ls,j,i,dn,y,rfl,js.swap,hy,?_⟩
 refine st.ahead (p:=x) (q:=y) a0 a1 a2 (by omega) fun H2 f2 s2=>?_
 rw [ZDk a0]
 have U:=js.fr f2 nx.n1
 have hi:=(yAI.mp hx).1
 have hj:=(yAI.mp hy).1
 refine ⟨_,rfl,?_⟩
 by_cases hd:lx ks x y
 .rw [decide_eq_true hd,if_pos rfl]
  walk_at "rd"
  refine U.hj.meth (by walk_at "lk") ⟨true,jn,a,sd,la,ra,tk,pc,ls,rs,i,j,dn,1,rfl,U,by omega,by omega,fun H3 f3 Z=>?_⟩
  rw [ZDP hx] at Z
  have e:=q H3 ((fr5a f2).trans (fr5b f3)) (s2.apart f3 U.lsts nx.n2) (fun _=>Z) (fun z=>absurd hd z)
  rw [decide_eq_true hd] at e
  exact e
 .rw [decide_eq_false hd,if_neg (by decide)]
  walk_at "rd"
  refine U.hj.meth (by walk_at "lk") ⟨false,jn,a,sd,ra,la,tk,pc,rs,ls,j,i,dn,1,rfl,U.swap,by omega,by omega,fun H3 f3 Z=>?_⟩
  rw [ZDP hy] at Z
  have e:=q H3 ((fr5a f2).trans (fr5b f3)) (s2.apart f3 U.lsts nx.n2) (fun z=>absurd z hd) (fun _=>Z.swap)
  rw [decide_eq_false hd] at e
  exact e
theorem ok_Join_leap_on {f:Addr} {fd:FuncData} (F:Fun K "leap_on" "Join.leap_on" ZA1 f fd) (T:Bt K mg C_Join C_Pile C_Asker C_AskedRule)
  (Z:Fn P w K mg base CX0 "leap" 4 ["asker","order","first","place"] (ZEZ C_Asker C_AskedRule))
  (B:Mt P w K mg base CX0 C_Join "take_on" 1 ["self","side","more"] (ZCX C_Join))
  (J:Mt P w K mg base CX0 C_Join "has_more" 1 ["self","side"] (ZCY C_Join))
  (O:Mt P w K mg base CX0 C_Join "front" 1 ["self","side"] (ZDX C_Join))
 :FnOk P w K mg base CX0 5 f fd ["self","side"] (ZDT C_Asker C_AskedRule C_Join):=by
 refine F.ok sc_Join_leap_on (fun vs H Q E h=>?_) (fun ab A outer s H vs Q E hr h=>?_)
 .obtain ⟨ks,xs,a,rl,ru,tl,g,lg,jn,sd,ma,ta,tk,pc,b,pr,ms,ts,dn,i,j,y,z,rfl,st,js,nx,hy,a2,a3,a4,a7,hd,a8,a1,a9,q⟩:=h
  rfl
 obtain ⟨ks,xs,a,rl,ru,tl,g,lg,jn,sd,ma,ta,tk,pc,b,pr,ms,ts,dn,i,j,y,z,rfl,st,js,nx,hy,a2,a3,a4,a7,hd,a8,a1,a9,q⟩:=h
 refine ⟨_,(ZAB (ZAL (i:=2) sc_Join_leap_on.nd rfl (by walk_at "o") (ZBV (ZAS ZB5 (pv 1) (ZBJ rfl T.c_LEFT) (ZAV _)) (ZBJ rfl T.c_RIGHT) (ZBJ rfl T.c_LEFT)))
  (ZAU
  (ZAB (ZAn (ZBU B (hr.mono (by decide)) ZAW (pv 0) (ZAA (pv 1) (ZAA (ZBR Z (hr.mono (by decide)) rfl ZAW (ZAA (ZAQ (pv 0) rfl) (ZAA (ZAb ZAp (ZAQ (pv 0) rfl) (pv 1) (fun _ _=>rfl)) (ZAA (ZAb ZAi (ZAQ (pv 0) rfl) (pv 1) (fun _ _=>rfl)) (ZAA (ZBU O (hr.mono (by decide)) ZAW (pv 0) (ZAA (pv 2) ZAE)) ZAE))))) ZAE))))
  (ZAI (ZBQ (ZB2 (ZBU J (hr.mono (by decide)) ZAW (pv 0) (ZAA (pv 1) ZAE)))
  (ZAI (ZAn (ZBU B (hr.mono (by decide)) ZAW (pv 0) (ZAA (pv 2) (ZAA ZAF ZAE))))) ZAh))))),?_⟩
 walk_at "rd"
 have hj:=(yAI.mp hy).1
 refine cut_var fun o ho=>?_
 obtain rfl:o=sv (!b):=by
  rcases ho with ⟨h,e⟩ | ⟨h,e⟩
  .revert h;cases b <;> intro h
   .cases h
   .exact e
  .revert h;cases b <;> intro h
   .exact e
   .exact absurd rfl h
 refine ZAa ?_
 walk_at "rd"
 refine js.hj.meth (by walk_at "lk") ?_
 refine js.hj.get T.cl_Join T.n_Join_asker (by walk_at "lk") ?_
 refine js.hj.get T.cl_Join T.n_Join_sides (by walk_at "lk") (ZAk (SqT.of js.hsd) ZCK ?_)
 refine js.hj.get T.cl_Join T.n_Join_taken (by walk_at "lk") (ZAy (SqL.of js.htk) ZCK ?_)
 refine js.hj.meth (by walk_at "lk") ⟨!b,jn,a,sd,ta,ma,tk,pc,ts,ms,j,i,dn,y,rfl,js.swap,hy,?_⟩
 refine ⟨ks,xs,a,rl,ru,tl,g,lg,ma,pr,ms,i,y,z,rfl,st,js.hma,nx.n1.2.2.1,a2,a3,a4,a7,a8,a1,a9,fun H2 G f2 hG s2=>?_⟩
 have a5:=js.fr f2 nx.n1
 refine ⟨b,jn,a,sd,ma,ta,tk,pc,ms,ts,i,j,dn,z-i,rfl,a5,by omega,by omega,fun H3 f3 U=>?_⟩
 rw [show i+(z-i)=z by omega] at U
 have s3:=s2.apart f3 a5.lsts nx.n2
 have a0:=(fr5a f2 (tk:=tk) (pc:=pc)).trans (fr5b f3)
 refine U.hj.meth (by walk_at "lk") ⟨b,jn,a,sd,ma,ta,tk,pc,ms,ts,z,j,_,rfl,U,?_⟩
 refine ⟨_,rfl,?_⟩
 by_cases hz:z < ms.length
 .rw [decide_eq_true hz,if_pos rfl]
  walk_at "rd"
  refine U.hj.meth (by walk_at "lk") ⟨!b,jn,a,sd,ta,ma,tk,pc,ts,ms,j,z,_,1,rfl,U.swap,by omega,by rw [yAB,yAP,yBA];omega,fun H4 f4 aa=>?_⟩
  have a6:=aa.swap
  rw [Bool.not_not,ZDP hy] at a6
  exact q H4 G (a0.trans (fr5b f4)) hG (s3.apart f4 U.lsts nx.n2) (fun _=>a6) (fun e=>by omega)
 .rw [decide_eq_false hz,if_neg (by decide)]
  exact q H3 G a0 hG s3 (fun e=>absurd e hz) (fun _=>U)
theorem ok_joined {f:Addr} {fd:FuncData} (F:Fun K "joined" "joined" ZCC f fd) (T:Bt K mg C_Join C_Pile C_Asker C_AskedRule)
  (B:Mt P w K mg base CX0 C_Join "take_rest" 2 ["self","side"] (ZCh C_Join))
  (J:Mt P w K mg base CX0 C_Join "has_more" 1 ["self","side"] (ZCY C_Join))
  (a0:Mt P w K mg base CX0 C_Join "win" 4 ["self"] (ZE4 C_Asker C_AskedRule C_Join))
  (O:Mt P w K mg base CX0 C_Join "leap_on" 5 ["self","side"] (ZDT C_Asker C_AskedRule C_Join))
  (a8:Kl P w K mg base CX0 "Join" C_Join 1 ["self","asker","left","right"] (ZD2 C_Join))
 :FnOk P w K mg base CX0 6 f fd ["asker","left","right"] (ZDV C_Asker C_AskedRule):=by
 refine F.ok sc_joined (fun vs H Q E h=>?_) (fun bb A outer s H vs Q E hr h=>?_)
 .obtain ⟨ks,xs,a,rl,ru,tl,g,lg,al,ar,pr,ls,rs,rfl,st,an,au,a9,hrl,a6,a5,ah,aj,a1,b5,q⟩:=h
  rfl
 obtain ⟨ks,xs,a,rl,ru,tl,g,lg,al,ar,pr,ls,rs,rfl,st,an,au,a9,hrl,a6,a5,ah,aj,a1,b5,q⟩:=h
 refine ⟨_,(ZAB (ZAL (i:=3) sc_joined.nd rfl (by walk_at "o") (ZEu a8 (hr.mono (by decide)) rfl ZAW (ZAA (pv 0) (ZAA (pv 1) (ZAA (pv 2) ZAE)))))
  (ZAB (ZAL (i:=4) sc_joined.nd rfl (by walk_at "o") ZAF)
  (ZAB (ZAL (i:=5) sc_joined.nd rfl (by walk_at "o") (ZBJ rfl T.c_LEFT))
  (ZAB (ZBN PassesOwn.never (PW.pt (ZCq (ZB2 (ZBU J (hr.mono (by decide)) ZAW (pv 3) (ZAA (ZBJ rfl T.c_LEFT) ZAE))) (ZCO (ZB2 (ZBU J (hr.mono (by decide)) ZAW (pv 3) (ZAA (ZBJ rfl T.c_RIGHT) ZAE))))))
  (ZAB (ZAL (i:=6) sc_joined.nd rfl (by walk_at "o") (ZCL a0 (hr.mono (by decide)) ZAW (pv 3)))
  (ZAB (ZAL (i:=4) sc_joined.nd rfl (by walk_at "o") (ZBV (ZAS ZB5 (pv 6) (pv 5) (ZAV _)) (ZAP ZAf (pv 4) ZAF) ZAF))
  (ZAB (ZAL (i:=5) sc_joined.nd rfl (by walk_at "o") (pv 6))
  (ZAI (ZBQ (ZAS ZB5 (pv 4) (ZBJ rfl T.c_WINS_TO_LEAP) (ZAV _))
  (ZAB (ZAn (ZBU O (hr.mono (by decide)) ZAW (pv 3) (ZAA (pv 6) ZAE)))
  (ZAI (ZAL (i:=4) sc_joined.nd rfl (by walk_at "o") ZAF))) ZAh))))))
  (ZAB (ZAn (ZBU B (hr.mono (by decide)) ZAW (pv 3) (ZAA (ZBJ rfl T.c_LEFT) ZAE)))
  (ZAB (ZAn (ZBU B (hr.mono (by decide)) ZAW (pv 3) (ZAA (ZBJ rfl T.c_RIGHT) ZAE)))
  (ZAI (ZAX (ZBS ZBg rfl T.b_list PyProof.Rows.boot_list (ZAA (ZAQ (pv 3) rfl) ZAE)))))))))),?_⟩
 walk_at "rd"
 intro jn dj ac b3 b2
 have af:upd H dj (.own jn) jn=none:=by rw [ZAK (Ne.symm b2)];exact ac
 have s1:Same H (upd (upd H dj (.own jn)) jn (.ins C_Join dj [])):=(ZAT b3 _).trans (ZAT af _)
 refine ⟨jn,dj,a,al,ar,ls,rs,rfl,ZAG,s1 _ _ an,s1 _ _ au,fun sd la ra tk pc H2 k2 b1 b4 aw ai ap js=>⟨rfl,?_⟩⟩
 have u2:Same H H2:=fun b o h=>k2 b o (ZAD h ac) (s1 _ _ h)
 have st2:=st.mono u2
 have fH:∀ {b:Addr},upd (upd H dj (.own jn)) jn (.ins C_Join dj []) b=none->H b=none:=fun h=>s1.free h
 have n3:∀ {b:Addr},H b=none->b∉[a,lg,tl]:=fun {b} hb=>by
  obtain ⟨w1,h1,_⟩:=st.hlg
  obtain ⟨w2,h2,_⟩:=st.htl
  exact ZDc (st.ha.neN hb) (Ne.symm (ZAD h1 hb)) (Ne.symm (ZAD h2 hb))
 have n2:∀ {b:Addr} {o:HO},H b=some o->b∉[tk,pc]:=fun {b o} hb z=>by
  rcases yAE.mp z with z | z
  .exact ZAD hb (fH ai) z
  .exact ZAD hb (fH ap) (yAO.mp z)
 have nx:NX a rl lg tl jn sd la ra tk pc:=by
  obtain ⟨w1,h1,_⟩:=st.hlg
  obtain ⟨w2,h2,_⟩:=st.htl
  exact ⟨⟨n3 ac,n3 (fH b1),n3 (fH b4),n3 (fH aw),n3 (fH ai),n3 (fH ap)⟩,n2 st.hrl,n2 h1,n2 h2⟩
 have ag:∀ {H':Hp},Fr [a,lg,tl,tk,pc] H2 H'->Fr [a,lg,tl] H H':=fun f b o n h=>f b o (fun z=>by
  rcases yAE.mp z with z | z
  .exact n (by rw [z];exact yAF)
  rcases yAE.mp z with z | z
  .exact n (by rw [z];exact yAC _ yAF)
  rcases yAE.mp z with z | z
  .exact n (by rw [z];exact yAC _ (yAC _ yAF))
  .exact n2 h z) (u2 _ _ h)
 refine ZBL (JInv C_Asker C_AskedRule C_Join ks xs a rl ru tl g lg al ar jn sd la ra tk pc pr ls rs H2) ⟨_,JInv.of (i:=0) (j:=0) (w:=0) (s:=true) (dn:=[]) (as:=[]) (yAG _) (yAG _) (by decide) rfl (yAA _) .refl (by rw [yBC];exact st2) js fun ps L h=>h⟩ ?_
 rintro bh σ H' ⟨i,j,w,s,v6,dn,as,rfl,rfl,hi,hj,hw,bi,b7,fr,s',Z,hg⟩
 walk_at "rd"
 apply onceP (¬ (i < ls.length /\ j < rs.length))
 .intro U
  refine Z.hj.meth (by walk_at "lk") ⟨true,jn,a,sd,la,ra,tk,pc,ls,rs,i,j,dn,rfl,Z,?_⟩
  refine ⟨_,rfl,?_⟩
  by_cases hil:i < ls.length
  .rw [decide_eq_true hil,if_pos rfl]
   refine Z.hj.meth (by walk_at "lk") ⟨false,jn,a,sd,ra,la,tk,pc,rs,ls,j,i,dn,rfl,Z.swap,?_⟩
   refine ⟨_,rfl,?_⟩
   by_cases hjr:j < rs.length
   .rw [decide_eq_true hjr,if_pos rfl]
    refine ZBM ?_
    walk_at "rd"
    have hx:=yAJ hil
    have hy:=yAJ hjr
    generalize ls[i]=x at hx
    generalize rs[j]=y at hy
    have a3:=yAQ hx
    have a7:=yAQ hy
    have aq:=a1 x a3 y a7
    refine Z.hj.meth (by walk_at "lk") ⟨ks,xs,a,rl,ru,tl,g,lg,jn,sd,la,ra,tk,pc,_,ls,rs,dn,i,j,x,y,rfl,s',Z,nx,hx,hy,aq,a6 x a3,a5 y a7,by rw [yAB];omega,by omega,by omega,fun H3 f3 s3 jL jR=>?_⟩
    rw [yAK] at s3
    walk_at "rd"
    obtain ⟨b,ma,ta,ms,ts,mi,tj,u,v,eb,ad,ax,hu,hv,ae,jB,ay,b6,be,b8,az,b0,ao,ba,a4⟩:∃ (b:Bool) (ma ta:Addr) (ms ts:List Nat) (mi tj u v:Nat),decide (lx ks x y)=b /\ ((b=true /\ ma=la /\ ta=ra /\ ms=ls /\ ts=rs)∨(b=false /\ ma=ra /\ ta=la /\ ms=rs /\ ts=ls)) /\ mi < ms.length /\ ms[mi]?=some u /\ ts[tj]?=some v /\ lx ks u v /\ JS C_Join H3 b jn a sd ma ta tk pc ms ts (mi+1) tj (dn++[u]) /\ NX a rl lg tl jn sd ma ta tk pc /\ ms.Pairwise (lx ks) /\ ms.length <= 250 /\ ts.length <= 250 /\ (∀ c∈ms,c < ks.length /\ c≠v) /\ v < ks.length /\ (max x y,min x y)=(max u v,min u v) /\ mi+tj=i+j /\ ∀ ps L,JT ks ms ts mi tj w (if b then s else !s) ps L->JT ks ms ts 0 0 0 b (dn++ps) (as++L):=by
     by_cases hd:lx ks x y
     .exact ⟨true,la,ra,ls,rs,i,j,x,y,decide_eq_true hd,.inl ⟨rfl,rfl,rfl,rfl,rfl⟩,hil,hx,hy,hd,jL hd,nx,ah,a9,hrl,fun c hc=>⟨a6 c hc,a1 c hc y a7⟩,a5 y a7,rfl,rfl,fun ps L h=>hg ps L h⟩
     .exact ⟨false,ra,la,rs,ls,j,i,y,x,decide_eq_false hd,.inr ⟨rfl,rfl,rfl,rfl,rfl⟩,hjr,hy,hx,lx_tot aq hd,(jR hd).swap,nx.swap,aj,hrl,a9,fun c hc=>⟨a5 c hc,fun e=>a1 x a3 c hc e.symm⟩,a6 x a3,mm_comm x y,Nat.add_comm _ _,fun ps L h=>JT.swap (hg ps L (JT.swap h))⟩
    rw [eb]
    rw [ao] at s3
    have av:=(yAI.mp hv).1
    clear jL jR eb ao
    apply ZDG (fun (n:Int)=>n=(nw w (if b then s else !s):Nat))
    .intro U
     by_cases hs:sv b=sv s
     .rw [if_pos hs]
      obtain ⟨n,hn⟩:∃ n:Int,n=w+1:=⟨_,rfl⟩
      rw [<- hn]
      refine U n ?_
      rw [hn]
      revert hs
      cases b <;> cases s <;> intro hs <;> first | rfl | cases hs
     .rw [if_neg hs]
      refine U 1 ?_
      revert hs
      cases b <;> cases s <;> intro hs <;> first | rfl | exact absurd rfl hs
    rintro n rfl
    generalize (if b then s else !s)=sb at a4
    have bd:nw w sb <= 4:=by unfold nw;split <;> omega
    have bf:=jB.hpc
    by_cases h4:nw w sb=4
    .rw [if_pos (by omega)]
     obtain ⟨z,z1,z2,z3⟩:=spot_ex b6 (pl:=v) (ms.length-(mi+1)) (mi+1) (by omega)
     refine jB.hj.meth (by walk_at "lk") ⟨ks,xs,a,rl,ru,tl,g,lg,jn,sd,ma,ta,tk,pc,b,_,ms,ts,_,mi+1,tj,v,z,rfl,s3,jB,ay,hv,by omega,az,b0,by rw [yAB,yAB,yAS];omega,by rw [yAB,yAS];omega,z1,z2,z3,fun H4 G f4 hG s4 j1 j2=>?_⟩
     have bg:G.length <= 18:=by
      have:=hG.looks z1 z2
      have:=ZDb (g:=z-(mi+1)) (c:=9) (by show _ < 512;omega)
      omega
     rw [yAK,yAK] at s4
     have b9:(as++([(max u v,min u v)]++List.map (ask1 ms v) G)).length <= as.length+19:=by rw [yAB,yAB,yAS,yAD];omega
     by_cases hz:z < ms.length
     .refine JInv.fin ad (w':=0) z2 (show tj+1 <= ts.length by omega) (by decide) (by omega) ?_ (by omega) ((fr.trans f3).trans f4) s4 (j1 hz) (fun ps L h=>?_) hi hj
      .rw [yAB,yAB,yAB,yAP,yBA,yAS,yAS];omega
      .have:=a4 _ _ (JT.leap hu hv ae h4 z1 hz z3 hG h)
       rw [seg_cons hu z1] at this
       simpa [yAK] using this
     .have ez:z=ms.length:=by omega
      have j2:=j2 ez
      subst ez
      refine JInv.fin ad (w':=0) (yAA _) (yBJ av) (by decide) (by omega) ?_ (by omega) ((fr.trans f3).trans f4) s4 j2 (fun ps L h=>?_) hi hj
      .rw [yAB,yAB,yAP,yBA,yAS];omega
      .have:=a4 _ _ (JT.last hu hv ae h4 (fun k c h1 h2=>(z3 k c h1 h2).mpr (yAI.mp h2).1) hG h)
       rw [ZB6 hu] at this
       rw [yCF (by rw [yBA];exact yAA _)]
       simpa [yAK] using this
    .rw [if_neg (by omega)]
     refine JInv.fin ad ax (yBJ av) (by omega) (by omega) ?_ ?_ (fr.trans f3) s3 jB (fun ps L h=>?_) hi hj
     .rw [yAB,yAS];omega
     .rw [yAB,yAS];omega
     .have:=a4 _ _ (JT.step hu hv ae h4 h)
      simpa [yAK] using this
   .rw [decide_eq_false hjr,if_neg (by decide)]
    exact U (by omega)
  .rw [decide_eq_false hil,if_neg (by decide)]
   exact U (by omega)
 intro hn
 have a2:=hg _ _ (JT.done (s:=s) (w:=w) hn)
 refine Z.hj.meth (by walk_at "lk") ⟨true,jn,a,sd,la,ra,tk,pc,ls,rs,i,j,dn,rfl,Z,hi,by omega,fun H3 f3 ab=>?_⟩
 have s3:=s'.apart f3 Z.lsts nx.n2
 refine ab.hj.meth (by walk_at "lk") ⟨false,jn,a,sd,ra,la,tk,pc,rs,ls,j,ls.length,_,rfl,ab.swap,hj,by rw [yAB,yBA];omega,fun H4 f4 aa=>?_⟩
 have s4:=s3.apart f4 ab.lsts nx.n2
 rw [yAK] at aa
 rw [yBC] at a2
 refine aa.hj.get T.cl_Join T.n_Join_places (by walk_at "lk") ⟨pc,_,rfl,.inl (SqL.of aa.hpc),fun l hl=>?_⟩
 have am:Fr [a,lg,tl,tk,pc] H2 H4:=(fr.trans (fr5b f3)).trans (fr5b f4)
 refine q l _ _ as ((ag am).trans (ZAT hl _).fr) ?_ ZAG a2 (s4.mono (ZAT hl _))
 cases e:H l with
 | none=>rfl
 | some o=>
  by_cases hm:l∈[a,lg,tl]
  .obtain ⟨bc,h5,_⟩:=s4.hlg
   obtain ⟨us4,h6,_⟩:=s4.htl
   rcases yAE.mp hm with z | z
   .exact absurd z (s4.ha.neN hl)
   rcases yAE.mp z with z | z
   .rw [z,h5] at hl;cases hl
   .rw [yAO.mp z,h6] at hl;cases hl
  .rw [ag am l o hm e] at hl;cases hl
theorem ok_grade {f:Addr} {fd:FuncData} (F:Fun K "grade" "grade" ZCk f fd) (T:Bt K mg C_Join C_Pile C_Asker C_AskedRule)
 :FnOk P w K mg base CX0 1 f fd ["many","first","middle","beyond"] (ZD3):=by
 refine F.ok sc_grade (fun vs H Q E h=>?_) (fun a0 A outer s H vs Q E hr h=>?_)
 .obtain ⟨m,a,b,c,rfl,h1,hm,ha,B,O,Z,q⟩:=h
  rfl
 obtain ⟨m,a,b,c,rfl,h1,hm,ha,B,O,Z,q⟩:=h
 refine ⟨_,(ZAB (ZAL (i:=4) sc_grade.nd rfl (by walk_at "o") (ZAP ZBd ZAF (ZAP ZAf (pv 1) (pv 2))))
  (ZAB (ZAL (i:=5) sc_grade.nd rfl (by walk_at "o") (ZAP ZBd ZAF (ZAP ZAf (pv 2) (pv 3))))
  (ZAB (ZAL (i:=6) sc_grade.nd rfl (by walk_at "o") ZAF)
  (ZAB (ZBN PassesOwn.never (ZAS ZB5 (ZAP ZCx (pv 4) (ZAP ZBd ZAF (pv 0))) (ZAP ZCx (pv 5) (ZAP ZBd ZAF (pv 0))) (ZAV _))
  (ZAB (ZAL (i:=4) sc_grade.nd rfl (by walk_at "o") (ZAP ZBd ZAF (pv 4)))
  (ZAB (ZAL (i:=5) sc_grade.nd rfl (by walk_at "o") (ZAP ZBd ZAF (pv 5)))
  (ZAI (ZEH (i:=6) sc_grade.nd rfl (by walk_at "o") ZAF ZEN)))))
  (ZAI (ZAX (pv 6))))))),?_⟩
 walk_at "rd"
 refine ⟨.inl ⟨by decide,by decide⟩,.inl ⟨by decide,by decide⟩,?_⟩
 refine ZBL (fun n σ H'=>∃ p:Nat,n=240-p /\ H'=H /\ σ=[some (.int m),some (.int a),some (.int b),some (.int c),some (.int ((a+b) * 2 ^ p)),some (.int ((b+c) * 2 ^ p)),some (.int p)] /\ 1 <= p /\ p <= 240 /\ ∀ r,1 <= r->r < p->Gr.qt m (a+b) r=Gr.qt m (b+c) r) ⟨_,1,rfl,rfl,?_,yAA _,by decide,fun r h1 h2=>by omega⟩ ?_
 .rw [Int.pow_one,Int.mul_comm (a+b),Int.mul_comm (b+c)];rfl
 rintro n σ H' ⟨p,rfl,rfl,rfl,U,J,hq⟩
 walk_at "rd"
 refine ⟨.inl ⟨by decide,by decide⟩,⟨by omega,by omega⟩,.inl ⟨by decide,by decide⟩,⟨by omega,by omega⟩,?_⟩
 split
 .rename_i he
  have a1:p < 240:=by
   rcases yBT p 240 with l | l
   .exact l
   .exact absurd he (Gr.qt_ne (by omega) (by omega) (pow240 hm l))
  refine ZBM ?_
  walk_at "rd"
  refine ⟨.inl ⟨by decide,by decide⟩,.inl ⟨by decide,by decide⟩,?_⟩
  walk_at "rd"
  refine ⟨_,?_,p+1,rfl,?_,by omega,by omega,fun r h1 h2=>?_⟩
  .omega
  .rw [dbl,dbl];rfl
  .rcases yBT r p with l | l
   .exact hq r h1 l
   .obtain rfl:r=p:=by omega
    exact he
 .rename_i he
  exact q p ⟨U,hq,he⟩ J
theorem ok_cell_at {f:Addr} {fd:FuncData} (F:Fun K "_law_cell_at" "_law_cell_at" ZBm f fd) (T:Bt K mg C_Join C_Pile C_Asker C_AskedRule)
 :FnOk P w K mg base CX0 1 f fd ["_law_script","_law_k"] (ZDp K):=by
 refine F.ok sc_cell_at (fun vs H Q E h=>?_) (fun U A outer s H vs Q E Z h=>?_)
 .obtain ⟨a,ns,k,rfl,J,O,q⟩:=h
  rfl
 obtain ⟨a,ns,k,rfl,J,O,q⟩:=h
 refine ⟨_,(ZAB (ZBQ (ZAS ZCm (pv 1) (ZAM ZAJ rfl T.b_len PySem.boot_len (ZAA (pv 0) ZAE)) (ZAV _))
  (ZAI (ZAX (ZAb ZAi (pv 0) (pv 1) (fun _ _=>rfl)))) ZAh)
  (ZAI (ZAX ZAF))),?_⟩
 walk_at "rd"
 refine ⟨a,_,rfl,.inl J,?_⟩
 walk_at "rd"
 rw [yAD]
 unfold cellOf at q
 split
 .rename_i hk
  rw [if_pos hk] at q
  have B:k.toNat < ns.length:=by omega
  refine ZAy J (ZDj O (yAJ B)) ?_
  rw [yAJ B] at q
  exact q
 .rename_i hk
  rw [if_neg hk] at q
  exact q
theorem ok_blocks {f:Addr} {fd:FuncData} (F:Fun K "_law_blocks" "_law_blocks" ZCE f fd) (T:Bt K mg C_Join C_Pile C_Asker C_AskedRule)
 :FnOk P w K mg base CX0 1 f fd ["_law_keys","_law_one","_law_two"] (ZE7):=by
 refine F.ok sc_blocks (fun vs H Q E h=>?_) (fun aa A outer s H vs Q E hr h=>?_)
 .obtain ⟨a,c1,c2,ks,rfl,ha,hk,q⟩:=h
  rfl
 obtain ⟨a,c1,c2,ks,rfl,ha,hk,q⟩:=h
 refine ⟨_,(ZAB (ZAL (i:=3) sc_blocks.nd rfl (by walk_at "o") (ZBC ZAE))
  (ZAB (ZAL (i:=4) sc_blocks.nd rfl (by walk_at "o") ZAF)
  (ZAB (ZBN PassesOwn.never (ZAS ZCm (ZAM ZAJ rfl T.b_len PySem.boot_len (ZAA (pv 3) ZAE)) (ZAM ZAJ rfl T.b_len PySem.boot_len (ZAA (pv 0) ZAE)) (ZAV _))
  (ZAB (ZAL (i:=5) sc_blocks.nd rfl (by walk_at "o") (ZAM ZB8 rfl T.b_sorted PyProof.Rows.boot_sorted (ZAA (ZCa ZC3 (pv 0) (ZB3 (ZAM ZAJ rfl T.b_len PySem.boot_len (ZAA (pv 3) ZAE))) (ZB3 (ZAP ZAf (ZAP ZAf (ZAM ZAJ rfl T.b_len PySem.boot_len (ZAA (pv 3) ZAE)) ZAF) (ZAb ZAi (ZBC (ZAA (ZAP ZBT (pv 1) ZAF) (ZAA (ZAP ZBT (pv 2) ZAF) ZAE))) (ZAP ZBT (pv 4) ZAF) (fun _ _=>rfl))))) ZAE)))
  (ZAB (ZBQ (ZAS ZB5 (ZAP ZBT (ZAP ZCx (ZAP ZBs (pv 1) ZAF) (ZAP ZAf (pv 4) ZAF)) ZAF) ZAF (ZAV _))
  (ZAI (ZAn (ZEe PySem.F.plainAttrs_list PySem.F.slot_list_reverse PySem.F.type_list_reverse mt_reverse (pv 5)))) ZAh)
  (ZAB (ZAL (i:=3) sc_blocks.nd rfl (by walk_at "o") (ZAP ZEg (pv 3) (pv 5)))
  (ZAI (ZAL (i:=4) sc_blocks.nd rfl (by walk_at "o") (ZAP ZAf (pv 4) ZAF)))))))
  (ZAI (ZAX (pv 3)))))),?_⟩
 walk_at "rd"
 refine ⟨yAG _,fun r0 a2=>?_⟩
 obtain ⟨H1,e1,s1,h1⟩:=newH a2 (.lst [])
 rw [e1];clear e1
 refine ZBL (fun m σ H'=>∃ (rw:Addr) (k:Nat) (v5:Option V) (rs:List Int),m=ks.length-rs.length /\ σ=[some (.ref a),some (.int c1),some (.int c2),some (.ref rw),some (.int k),v5] /\ k <= rs.length /\ rs.length <= ks.length /\ Same H H' /\ H rw=none /\ H' rw=some (.lst (rs.map V.int))) ⟨_,r0,0,_,[],rfl,rfl,yAG _,yAG _,s1,a2,h1⟩ ?_
 rintro m σ H' ⟨rw,k,v5,rs,rfl,rfl,a9,a7,s2,a3,O⟩
 walk_at "rd"
 refine ⟨rw,_,rfl,.inl (SqL.of O),a,_,rfl,.inl (SqL.of (s2 _ _ ha)),?_⟩
 rw [yAD,yAD]
 walk_at "rd"
 by_cases hlt:rs.length < ks.length
 .rw [if_pos (by omega)]
  refine ZBM ?_
  walk_at "rd"
  refine ⟨rw,_,rfl,.inl (SqL.of O),rw,_,rfl,.inl (SqL.of O),by decide,by decide,ZAe (by decide),fun p hp=>⟨by decide,?_⟩⟩
  rw [yAD]
  obtain ⟨H3,e3,s3,h3⟩:=newH hp (.lst [.int (c1 % 17),.int (c2 % 40)])
  rw [e3];clear e3
  obtain ⟨b,ab,hb⟩:∃ b:Nat,0 <= b /\ atI [V.int (c1 % 17),V.int (c2 % 40)] ((k:Int) % 2)=some (V.int (b:Int)):=by
   have m0:(k:Int) % 2=0∨(k:Int) % 2=1:=by omega
   have g1:=Int.emod_nonneg c1 (show (17:Int)≠0 by decide)
   have g2:=Int.emod_nonneg c2 (show (40:Int)≠0 by decide)
   rcases m0 with e | e <;> rw [e]
   .exact ⟨(c1 % 17).toNat,yAG _,by rw [Int.toNat_of_nonneg g1];exact ZAY (by decide) rfl⟩
   .exact ⟨(c2 % 40).toNat,yAG _,by rw [Int.toNat_of_nonneg g2];exact ZAY (by decide) rfl⟩
  refine ZAy (SqL.of h3) hb ?_
  walk_at "rd"
  refine ZDq (SqL.of (s3 _ _ (s2 _ _ ha))) fun sl a6=>?_
  rw [ZCf,show (rs.length:Int)+1+(b:Int)=((rs.length+1+b:Nat):Int) by omega,HT.sIx_nat,HT.sIx_nat,yBW a7]
  obtain ⟨bl,Z⟩:∃ bl,(ks.drop rs.length).take (min (rs.length+1+b) ks.length-rs.length)=bl:=⟨_,rfl⟩
  have a8:1 <= bl.length /\ rs.length+bl.length <= ks.length:=by rw [<- Z,yAP,yBA];omega
  rw [Z];clear Z
  obtain ⟨H4,e4,s4,h4⟩:=newH a6 (.lst (bl.map V.int))
  rw [e4];clear e4
  refine ⟨sl,bl,rfl,SqL.of h4,by omega,fun l ms hl a0 _=>⟨⟨by decide,by decide⟩,⟨by omega,by omega⟩,by decide,?_⟩⟩
  have a5:=a0.length_eq
  have S4:Same H H4:=s2.trans (s3.trans s4)
  have B:=s4 _ _ (s3 _ _ O)
  have ad:rw≠l:=ZAD B hl
  apply ZDG (fun X:Hp=>Same H X /\ X rw=some (.lst (rs.map V.int)) /\ ∃ us:List Int,us.length=bl.length /\ X l=some (.lst (us.map V.int)))
  .intro J
   by_cases hc:c1 / 17 / ((k:Int)+1) % 2=1
   .rw [if_pos hc]
    refine ⟨.inl ⟨rfl,_,SqL.of ZAG⟩,l,_,rfl,rfl,ZAG,?_⟩
    rw [ZDO,<- List.map_reverse]
    obtain ⟨X,eX,U,hX⟩:=newH hl (.lst (ms.reverse.map V.int))
    rw [eX];clear eX
    exact J X ⟨S4.trans U,U _ _ B,ms.reverse,by rw [List.length_reverse,a5],hX⟩
   .rw [if_neg hc]
    obtain ⟨X,eX,U,hX⟩:=newH hl (.lst (ms.map V.int))
    rw [eX];clear eX
    exact J X ⟨S4.trans U,U _ _ B,ms,a5,hX⟩
  rintro X ⟨U,a1,us,ac,hX⟩
  refine ⟨rw,l,_,_,rfl,rfl,a1,hX,ZAe (by rw [yAD,yAD];omega),fun p2 a4=>?_⟩
  refine ⟨_,?_,p2,k+1,_,rs++us,rfl,by rw [show (k:Int)+1=((k+1:Nat):Int) by omega],?_,?_,U.new a4,U.free a4,by rw [ZAG,yAU]⟩ <;> rw [yAB] <;> omega
 .rw [if_neg (by omega)]
  walk_at "rd"
  exact q rw H' rs s2 a3 O (by omega)
theorem ok_keys_by {f:Addr} {fd:FuncData} (F:Fun K "_law_keys_by" "_law_keys_by" ZBk f fd) (T:Bt K mg C_Join C_Pile C_Asker C_AskedRule)
  (B:Fn P w K mg base CX0 "_law_cell_at" 1 ["_law_script","_law_k"] (ZDp K))
 :FnOk P w K mg base CX0 2 f fd ["_law_script","_law_many","_law_most_here"] (ZDU K):=by
 refine F.ok sc_keys_by (fun vs H Q E h=>?_) (fun a5 A outer s H vs Q E hr h=>?_)
 .obtain ⟨a,ns,m,rfl,hS,a3,O,a1,q⟩:=h
  rfl
 obtain ⟨a,ns,m,rfl,hS,a3,O,a1,q⟩:=h
 refine ⟨_,(ZAB (ZBQ (ZAS ZB5 (ZAP ZBT (ZAP ZBs (ZBR B (hr.mono (by decide)) rfl ZAW (ZAA (pv 0) (ZAA ZAF ZAE))) ZAF) ZAF) ZAF (ZAV _))
  (ZAI (ZAX (ZC6 rfl (k:=1) (js:=[1]) (N':=["_law_cell","_law_many"]) (by rfl) (ZCl (ZCa ZC3 (pv 0) (ZB3 ZAF) (ZB3 (ZAP ZAf ZAF (pv 2))))) (fun _ _ _ _=>ZBI (i:=0) (show (["_law_cell","_law_many"]:List Str).Nodup by decide +kernel) rfl (by walk_at "o")) (fun _ _ _ _=>ZCZ) (fun _ _ _ _=>(ZAP ZBT (pv 0) (pv 1)))))) ZAh)
  (ZAU
  (ZAB (ZAL (i:=3) sc_keys_by.nd rfl (by walk_at "o") (ZAP ZBs (ZBR B (hr.mono (by decide)) rfl ZAW (ZAA (pv 0) (ZAA ZAF ZAE))) (ZAP ZAf (ZAM (ZB9 rfl) rfl T.b_min PyProof.Rows.boot_min (ZAA (pv 2) (ZAA ZAF ZAE))) ZAF)))
  (ZAB (ZAL (i:=4) sc_keys_by.nd rfl (by walk_at "o") (ZBC ZAE))
  (ZAB (ZDr PassesOwn.never rfl (ZC5 rfl T.b_range (ZAA (ZAP ZBT (ZBR B (hr.mono (by decide)) rfl ZAW (ZAA (pv 0) (ZAA ZAF ZAE))) (ZAP ZAf (ZAM (ZB9 rfl) rfl T.b_min PyProof.Rows.boot_min (ZAA (pv 2) (ZAA ZAF ZAE))) ZAF)) ZAE)) (ZBI (i:=5) sc_keys_by.nd rfl (by walk_at "o"))
  (ZAB (ZBQ (ZAS ZCm (pv 3) ZAF (ZAV _))
  (ZAI (ZAL (i:=3) sc_keys_by.nd rfl (by walk_at "o") (ZAP ZAf (ZAP ZBd (ZAM call_absI rfl T.b_abs PyProof.Rows.boot_abs (ZAA (ZBR B (hr.mono (by decide)) rfl ZAW (ZAA (pv 0) (ZAA (ZAP ZAf ZAF (pv 5)) ZAE))) ZAE)) ZAF) (ZAP ZBd (ZAP ZBd ZAF (pv 5)) (pv 5))))) ZAh)
  (ZAB (ZAn (ZCQ PySem.F.plainAttrs_list PySem.F.slot_list_append PySem.F.type_list_append ZBb (pv 4) (ZAA (ZAP ZBT (pv 3) (pv 1)) ZAE)))
  (ZAI (ZAL (i:=3) sc_keys_by.nd rfl (by walk_at "o") (ZAP ZCx (pv 3) (pv 1)))))))
  (ZAI (ZAX (pv 4)))))))),?_⟩
 walk_at "rd"
 refine ⟨a,ns,1,rfl,hS,by decide,?_⟩
 generalize cellOf ns 1=c1
 walk_at "rd"
 refine ⟨⟨by decide,by decide⟩,by decide,?_⟩
 by_cases hc:c1 / 4 % 2=0
 .rw [if_pos hc]
  refine ZDq hS fun sl a2=>?_
  rw [ZCf]
  obtain ⟨bl,Z⟩:∃ bl,(ns.drop (HT.sIx ns.length 0 (some 5))).take (HT.sIx ns.length ns.length (some (5+63))-HT.sIx ns.length 0 (some 5))=bl:=⟨_,rfl⟩
  have a4:bl.length <= 63:=by rw [<- Z,yAP,yBA];omega
  rw [Z];clear Z
  obtain ⟨H4,e4,s4,h4⟩:=newH a2 (.lst (bl.map V.int))
  rw [e4];clear e4
  refine ZDg (SqL.of h4) (by rw [yAD];omega) (fun i ys σ H'=>∃ v,σ=[v,some (.int m)] /\ H'=H4 /\ ∃ cs:List Int,ys=cs.map V.int /\ cs.length=i) ⟨_,rfl,rfl,[],rfl,rfl⟩ (fun i ys σ H' _ ⟨_,_,e,cs,e2,e3⟩=>⟨by rw [e];exact SqL.of h4,by rw [e2,yAD];omega⟩) ?_ ?_
  .rintro i ys x σ H' hi hx ⟨v,rfl,rfl,cs,rfl,U⟩
   obtain ⟨n,a6,rfl⟩:=get_ints hx
   walk_at "rd"
   refine ⟨O,?_⟩
   exact Nxt.of hi ⟨_,rfl,rfl,cs++[_],by rw [yAU];rfl,by rw [yAB,U];rfl⟩
  rintro ys σ H2 ⟨v,rfl,rfl,cs,rfl,U⟩ k1 a0
  rw [yAD] at U
  exact q k1 _ cs (s4.trans (ZAT a0 _)) (s4.free a0) ZAG (by omega)
 rw [if_neg hc]
 refine ZAa ?_
 walk_at "rd"
 refine ⟨a,ns,5,rfl,hS,by decide,_,_,rfl,?_⟩
 generalize cellOf ns 5=c5
 walk_at "rd"
 rw [show ((if (60:Int) < 63 then (60:Int) else 63)+1)=61 from rfl]
 refine ⟨⟨by decide,by decide⟩,yAG _,fun p hp=>?_⟩
 obtain ⟨H1,e1,s1,h1⟩:=newH hp (.lst [])
 rw [e1];clear e1
 refine ⟨a,ns,5,rfl,s1.seq hS,by decide,_,_,rfl,?_⟩
 generalize cellOf ns 5=c6
 walk_at "rd"
 rw [show ((if (60:Int) < 63 then (60:Int) else 63)+1)=61 from rfl]
 refine ⟨by decide,?_⟩
 have r0:=Int.emod_nonneg c6 (show (61:Int)≠0 by decide)
 have r1:=Int.emod_lt_of_pos c6 (show (0:Int) < 61 by decide)
 obtain ⟨z0,ez⟩:∃ z0,c5 / 61=z0:=⟨_,rfl⟩
 rw [ez]
 refine forR1_of (by omega) (ZED (fun i σ H'=>∃ (z:Int) (rs:List Int) (v5:Option V),σ=[some (.ref a),some (.int m),some (.int 63),some (.int z),some (.ref p),v5] /\ Same H H' /\ H' p=some (.lst (rs.map V.int)) /\ rs.length=i) ⟨z0,[],_,rfl,s1,h1,rfl⟩ ?_ ?_)
 .rintro i σ H' hi ⟨z,rs,v5,rfl,s2,h2,hz⟩
  walk_at "rd"
  apply ZDG (fun y:Int=>True)
  .intro J
   by_cases hz1:z < 1
   .rw [if_pos hz1]
    refine ⟨a,ns,6+(0+(i:Int)),rfl,s2.seq hS,by omega,_,rfl,?_⟩
    walk_at "rd"
    refine ⟨.inr ⟨by decide,by decide⟩,.inr ⟨by omega,by omega⟩,.inr ⟨by omega,by omega⟩,?_⟩
    obtain ⟨y,ey⟩:∃ y,(if cellOf ns (6+(0+(i:Int))) < 0 then -cellOf ns (6+(0+(i:Int))) else cellOf ns (6+(0+(i:Int)))) * 48271+16807 * (0+(i:Int)) * (0+(i:Int))=y:=⟨_,rfl⟩
    rw [ey]
    exact J y trivial
   .rw [if_neg hz1]
    exact J z trivial
  intro y _
  refine ⟨.inl ⟨rfl,_,SqL.of h2⟩,O,p,_,_,rfl,rfl,h2,ZBP (by rw [yAD];omega),⟨O,Int.lt_of_le_of_lt a1 (by decide)⟩,?_⟩
  exact ⟨_,rs++[_],_,rfl,s2.upd hp,by rw [ZAG,yAU];rfl,by rw [yAB,hz];rfl⟩
 .rintro σ H' ⟨z,rs,v5,rfl,s2,h2,hz⟩
  walk_at "rd"
  exact q p H' rs s2 hp h2 (by omega)
theorem ok_row_by {f:Addr} {fd:FuncData} (F:Fun K "_law_row_by" "_law_row_by" ZCB f fd) (T:Bt K mg C_Join C_Pile C_Asker C_AskedRule)
  (a0:Fn P w K mg base CX0 "_law_keys_by" 2 ["_law_script","_law_many","_law_most_here"] (ZDU K))
  (J:Fn P w K mg base CX0 "_law_cell_at" 1 ["_law_script","_law_k"] (ZDp K))
  (a4:Fn P w K mg base CX0 "_law_blocks" 1 ["_law_keys","_law_one","_law_two"] (ZE7))
 :FnOk P w K mg base CX0 3 f fd ["_law_script"] (ZDz K):=by
 refine F.ok sc_row_by (fun vs H Q E h=>?_) (fun ar A outer s H vs Q E hr h=>?_)
 .obtain ⟨a,ns,rfl,hS,af,q⟩:=h
  rfl
 obtain ⟨a,ns,rfl,hS,af,q⟩:=h
 refine ⟨_,(ZAB (ZAL (i:=1) sc_row_by.nd rfl (by walk_at "o") (ZAb ZAi (ZBC (ZAA ZAF (ZAA ZAF (ZAA ZAF (ZAA (ZAP op_pow ZAF ZAF) ZAE))))) (ZAP ZBT (ZBR J (hr.mono (by decide)) rfl ZAW (ZAA (pv 0) (ZAA ZAF ZAE))) ZAF) (fun _ _=>rfl)))
  (ZAU
  (ZAB (ZAL (i:=2) sc_row_by.nd rfl (by walk_at "o") (ZBR a0 (hr.mono (by decide)) rfl ZAW (ZAA (pv 0) (ZAA (pv 1) (ZAA ZAF ZAE)))))
  (ZAU
  (ZAB (ZAL (i:=3) sc_row_by.nd rfl (by walk_at "o") (ZAP ZBT (ZBR J (hr.mono (by decide)) rfl ZAW (ZAA (pv 0) (ZAA ZAF ZAE))) ZAF))
  (ZAB (ZAL (i:=4) sc_row_by.nd rfl (by walk_at "o") (ZBR J (hr.mono (by decide)) rfl ZAW (ZAA (pv 0) (ZAA ZAF ZAE))))
  (ZAB (ZAL (i:=5) sc_row_by.nd rfl (by walk_at "o") (ZBR J (hr.mono (by decide)) rfl ZAW (ZAA (pv 0) (ZAA ZAF ZAE))))
  (ZAU
  (ZAB (ZBQ (ZAS ZB5 (pv 3) ZAF (ZAV _))
  (ZAI (ZAL (i:=2) sc_row_by.nd rfl (by walk_at "o") (ZBR a4 (hr.mono (by decide)) rfl ZAW (ZAA (pv 2) (ZAA (pv 4) (ZAA (pv 5) ZAE)))))) ZAh)
  (ZAU
  (ZAB (ZBQ (PW.pt (ZCq (ZAS ZB5 (pv 3) ZAF (ZAV _)) (ZCO (ZAS (ZEJ hr.units) (pv 2) (ZBC ZAE) (ZAV _)))))
  (ZAB (ZAL (i:=2) sc_row_by.nd rfl (by walk_at "o") (ZAM ZB8 rfl T.b_sorted PyProof.Rows.boot_sorted (ZAA (pv 2) ZAE)))
  (ZAI (ZAn (ZCQ PySem.F.plainAttrs_list PySem.F.slot_list_insert PySem.F.type_list_insert mt_insert (pv 2) (ZAA (ZAP ZBT (pv 5) (ZAM ZAJ rfl T.b_len PySem.boot_len (ZAA (pv 2) ZAE))) (ZAA (ZCQ PySem.F.plainAttrs_list PySem.F.slot_list_pop PySem.F.type_list_pop ZCy (pv 2) (ZAA (ZAP ZBT (pv 4) (ZAM ZAJ rfl T.b_len PySem.boot_len (ZAA (pv 2) ZAE))) ZAE)) ZAE)))))) ZAh)
  (ZAU
  (ZAB (ZBQ (PW.pt (ZCq (ZAS ZB5 (pv 3) ZAF (ZAV _)) (ZCO (ZAS (ZEJ hr.units) (pv 2) (ZBC ZAE) (ZAV _)))))
  (ZAI (ZAL (i:=2) sc_row_by.nd rfl (by walk_at "o") (ZAP ZEg (ZCa ZC3 (pv 2) po_none (ZB3 (ZAP ZBT (pv 4) (ZAM ZAJ rfl T.b_len PySem.boot_len (ZAA (pv 2) ZAE))))) (ZAM ZB8 rfl T.b_sorted PyProof.Rows.boot_sorted (ZAA (ZCa ZC3 (pv 2) (ZB3 (ZAP ZBT (pv 4) (ZAM ZAJ rfl T.b_len PySem.boot_len (ZAA (pv 2) ZAE)))) po_none) ZAE))))) ZAh)
  (ZAU
  (ZAI (ZAX (ZC6 rfl (k:=1) (js:=[2]) (N':=["_law_k","_law_keys"]) (by rfl) (ZC5 rfl T.b_range (ZAA (ZAM ZAJ rfl T.b_len PySem.boot_len (ZAA (pv 2) ZAE)) ZAE)) (fun _ _ _ _=>ZBI (i:=0) (show (["_law_k","_law_keys"]:List Str).Nodup by decide +kernel) rfl (by walk_at "o")) (fun _ _ _ _=>ZCZ) (fun _ _ _ _=>(ZB4 (ZAA (ZAb (ix_listK K) (pv 1) (pv 0) (fun _ _=>rfl)) (ZAA (pv 0) ZAE))))))))))))))))))))),?_⟩
 walk_at "rd"
 refine ⟨⟨by decide,by decide,by decide⟩,ZAe (by decide),fun p hp=>?_⟩
 obtain ⟨H1,e1,s1,h1⟩:=newH hp (.lst [.int 2,.int 5,.int 100,.int (10 ^ Int.toNat 60)])
 rw [e1];clear e1
 refine ⟨a,ns,0,rfl,s1.seq hS,by decide,?_⟩
 generalize cellOf ns 0=c0
 walk_at "rd"
 refine ⟨by decide,?_⟩
 obtain ⟨b,an,ao,hb⟩:∃ b:Int,0 < b /\ b <= 10 ^ 60 /\ atI [V.int 2,V.int 5,V.int 100,V.int (10 ^ Int.toNat 60)] (c0 % 4)=some (V.int b):=by
  have m0:c0 % 4=0∨c0 % 4=1∨c0 % 4=2∨c0 % 4=3:=by omega
  rcases m0 with e | e | e | e <;> rw [e]
  .exact ⟨2,by decide,by decide,ZAY (by decide) rfl⟩
  .exact ⟨5,by decide,by decide,ZAY (by decide) rfl⟩
  .exact ⟨100,by decide,by decide,ZAY (by decide) rfl⟩
  .exact ⟨10 ^ Int.toNat 60,by decide,by decide,ZAY (by decide) rfl⟩
 refine ZAy (SqL.of h1) hb ?_
 refine ZAa ?_
 walk_at "rd"
 refine ⟨a,ns,b,rfl,s1.seq hS,af,an,ao,fun k1 H2 r1 s2 al h2 a9=>?_⟩
 have S2:Same H H2:=s1.trans s2
 refine ZAa ?_
 walk_at "rd"
 refine ⟨a,ns,1,rfl,S2.seq hS,by decide,?_⟩
 generalize cellOf ns 1=c1
 walk_at "rd"
 refine ⟨by decide,a,ns,2,rfl,S2.seq hS,by decide,a,ns,3,rfl,S2.seq hS,by decide,?_⟩
 generalize c1 % 4=cw
 generalize cellOf ns 2=c2
 generalize cellOf ns 3=c3
 refine ZAa ?_
 walk_at "rd"
 apply ZEv (fun (O:Addr) (H4:Hp)=>Same H H4 /\ H O=none /\ ∃ ks:List Int,H4 O=some (.lst (ks.map V.int)) /\ ks.length <= 63)
 .intro B
  by_cases h1:cw=1
  .rw [if_pos h1]
   refine ⟨k1,c2,c3,r1,rfl,h2,a9,fun l H' rs s' hl h' hr=>?_⟩
   exact B l H' ⟨S2.trans s',S2.free hl,rs,h',hr⟩
  .rw [if_neg h1]
   exact B k1 H2 ⟨S2,s1.free al,r1,h2,a9⟩
 rintro O H4 ⟨S4,Z,ks,h4,U⟩
 clear h2 a9 s2
 refine ZAa ?_
 walk_at "rd"
 apply ZEv (fun (O:Addr) (H4:Hp)=>Same H H4 /\ H O=none /\ ∃ ks:List Int,H4 O=some (.lst (ks.map V.int)) /\ ks.length <= 63)
 .intro B
  by_cases h1:cw=2
  .rw [if_pos h1]
   refine ⟨yAG _,fun p2 a6=>?_⟩
   obtain ⟨H5,e5,s5,h5⟩:=newH a6 (.lst [])
   rw [e5];clear e5
   have S5:=S4.trans s5
   refine ZEL Enc.int.list (by decide) (a:=ks) (b:=[]) (ZCp (SqL.of (s5 _ _ h4))) (ZCp (xs:=[]) (SqL.of h5)) ⟨_,rfl,?_⟩
   by_cases hkn:ks≠[]
   .rw [if_pos (by simp [hkn])]
    refine ⟨O,ks,rfl,SqL.of (s5 _ _ h4),by omega,fun l ms hl a3 _=>?_⟩
    obtain ⟨H6,e6,s6,h6⟩:=newH hl (.lst (ms.map V.int))
    rw [e6];clear e6
    have a7:=a3.length_eq
    have ah:0 < ms.length:=by rw [a7];exact List.length_pos_iff.mpr hkn
    refine ⟨.inl ⟨rfl,_,SqL.of h6⟩,l,_,rfl,.inl (SqL.of h6),?_⟩
    rw [yAD]
    refine ⟨by omega,.inl ⟨rfl,_,SqL.of h6⟩,l,_,rfl,.inl (SqL.of h6),?_⟩
    rw [yAD]
    have g0:=Int.emod_nonneg c2 (show (ms.length:Int)≠0 by omega)
    have g1:=Int.emod_lt_of_pos c2 (show (0:Int) < ms.length by omega)
    have g2:=Int.emod_nonneg c3 (show (ms.length:Int)≠0 by omega)
    have g3:=Int.emod_lt_of_pos c3 (show (0:Int) < ms.length by omega)
    have hi:(c2 % (ms.length:Int)).toNat < ms.length:=by omega
    refine ⟨by omega,l,_,_,(c2 % (ms.length:Int)).toNat,V.int ms[(c2 % (ms.length:Int)).toNat],rfl,rfl,h6,by omega,by omega,PySem.StrLaws.seqIndex_nonneg g0 (by rw [yAD];omega),by rw [yAT,yAJ hi];rfl,?_⟩
    rw [er_map]
    obtain ⟨us,eu,ul⟩:=insV_ints (ms.eraseIdx (c2 % (ms.length:Int)).toNat) (c3 % (ms.length:Int)) ms[(c2 % (ms.length:Int)).toNat]
    have el:=List.length_eraseIdx_of_lt hi
    refine ⟨l,_,_,_,rfl,rfl,ZAG,ZBP (by rw [yAD];omega),by omega,?_⟩
    rw [ZDO,eu]
    have ag:Same H (upd H6 l (.lst (us.map V.int))):=(S5.trans s6).upd (S5.free hl)
    have ad:upd H6 l (.lst (us.map V.int)) l=some (.lst (us.map V.int)):=ZAG
    generalize upd H6 l (.lst (us.map V.int))=H7 at ag ad ⊢
    exact B l H7 ⟨ag,S5.free hl,us,ad,by omega⟩
   .rw [if_neg (by simpa using hkn)]
    exact B O H5 ⟨S5,Z,ks,s5 _ _ h4,U⟩
  .rw [if_neg h1]
   exact B O H4 ⟨S4,Z,ks,h4,U⟩
 clear h4 U Z S4
 clear ks H4 O
 rintro O H4 ⟨S4,Z,ks,h4,U⟩
 refine ZAa ?_
 walk_at "rd"
 apply ZEv (fun (O:Addr) (H4:Hp)=>Same H H4 /\ H O=none /\ ∃ ks:List Int,H4 O=some (.lst (ks.map V.int)) /\ ks.length <= 63)
 .intro B
  by_cases h1:cw=3
  .rw [if_pos h1]
   refine ⟨yAG _,fun p2 a6=>?_⟩
   obtain ⟨H5,e5,s5,h5⟩:=newH a6 (.lst [])
   rw [e5];clear e5
   have S5:=S4.trans s5
   refine ZEL Enc.int.list (by decide) (a:=ks) (b:=[]) (ZCp (SqL.of (s5 _ _ h4))) (ZCp (xs:=[]) (SqL.of h5)) ⟨_,rfl,?_⟩
   by_cases hkn:ks≠[]
   .rw [if_pos (by simp [hkn])]
    have ah:0 < ks.length:=List.length_pos_iff.mpr hkn
    have aa:=s5 _ _ h4
    refine ⟨O,_,rfl,.inl (SqL.of aa),?_⟩
    rw [yAD]
    have g0:=Int.emod_nonneg c2 (show (ks.length:Int)≠0 by omega)
    have g1:=Int.emod_lt_of_pos c2 (show (0:Int) < ks.length by omega)
    obtain ⟨d,ed⟩:∃ d:Nat,c2 % (ks.length:Int)=d:=⟨(c2 % (ks.length:Int)).toNat,by omega⟩
    rw [ed] at g0 g1 ⊢
    walk_at "rd"
    refine ⟨by omega,ZDq (SqL.of aa) fun l1 am=>?_⟩
    rw [ZCf,HT.sIx_none,HT.sIx_nat,yBW (show d <= ks.length by omega),Nat.sub_zero]
    obtain ⟨H6,e6,s6,h6⟩:=newH am (.lst (((ks.drop 0).take d).map V.int))
    rw [e6];clear e6
    have ac:=s6 _ _ aa
    refine ⟨O,_,rfl,.inl (SqL.of ac),?_⟩
    rw [yAD,ed]
    walk_at "rd"
    refine ⟨by omega,ZDq (SqL.of ac) fun l2 ap=>?_⟩
    rw [ZCf,HT.sIx_none,HT.sIx_nat,yBW (show d <= ks.length by omega)]
    obtain ⟨H7,e7,s7,h7⟩:=newH ap (.lst (((ks.drop d).take (ks.length-d)).map V.int))
    rw [e7];clear e7
    refine ⟨l2,_,rfl,SqL.of h7,by rw [yAP,yBA];omega,fun l3 ms aj a3 _=>?_⟩
    have a7:=a3.length_eq
    rw [yAP,yBA] at a7
    obtain ⟨H8,e8,s8,h8⟩:=newH aj (.lst (ms.map V.int))
    rw [e8];clear e8
    refine ⟨l1,l3,_,_,rfl,rfl,s8 _ _ (s7 _ _ h6),h8,ZAe (by rw [yAD,yAD,yAP,yBA];omega),fun p3 ae=>?_⟩
    rw [<- yAU]
    obtain ⟨H9,e9,s9,h9⟩:=newH ae (.lst (((ks.drop 0).take d++ms).map V.int))
    rw [e9];clear e9
    have S8:Same H H8:=S5.trans (s6.trans (s7.trans s8))
    exact B p3 H9 ⟨S8.trans s9,S8.free ae,_,h9,by rw [yAB,yAP,yBA];omega⟩
   .rw [if_neg (by simpa using hkn)]
    exact B O H5 ⟨S5,Z,ks,s5 _ _ h4,U⟩
  .rw [if_neg h1]
   exact B O H4 ⟨S4,Z,ks,h4,U⟩
 clear h4 U Z S4
 clear ks H4 O
 rintro O H4 ⟨S4,Z,ks,h4,U⟩
 refine ZAa ?_
 walk_at "rd"
 refine ⟨O,_,rfl,.inl (SqL.of h4),?_⟩
 rw [yAD]
 refine compR1_of (by omega) (fun i ys σ H'=>∃ v,σ=[v,some (.ref O)] /\ Same H4 H' /\ ys.length=i /\ ∀ (j:Nat) k,j < i->ks[j]?=some k->∃ r,ys[j]?=some (V.ref r) /\ H' r=some (.tup [.int k,.int j])) ⟨_,rfl,.refl _,rfl,fun _ _ h=>by omega⟩ (fun i ys σ H' ⟨_,_,_,l,_⟩=>Nat.le_of_eq l) ?_ ?_
 .rintro i ys σ H' hi ⟨v,rfl,s5,hl,ab⟩
  have ai:i < ks.length:=by omega
  walk_at "rd"
  rw [show (0+(i:Int))=i by omega]
  refine ZAy (SqL.of (s5 _ _ h4)) (ZDj (v:=ks[i]) (by omega) (by rw [Int.toNat_natCast];exact yAJ ai)) ⟨ZAe (by decide),fun t ht=>?_⟩
  refine Nxt.of hi ⟨_,rfl,s5.new ht,by rw [yAB,hl];rfl,fun j k' hj a8=>?_⟩
  by_cases z:j < i
  .obtain ⟨r,a1,a2⟩:=ab j k' z a8
   exact ⟨r,by rw [yAY (by omega)];exact a1,ZAT ht _ _ _ a2⟩
  .have:j=i:=by omega
   subst this
   rw [yAJ ai] at a8;cases a8
   exact ⟨t,by rw [<- hl,yBE (yAA _),yBF];rfl,ZAG⟩
 rintro xs σ H5 ⟨v,rfl,s5,aq,ab⟩ xl a5
 refine q xl _ ks xs (S4.trans (s5.new a5)) (S4.free (s5.free a5)) ZAG U ⟨by omega,fun i k hk=>?_⟩
 have hi:=(yAI.mp hk).1
 obtain ⟨r,a1,a2⟩:=ab i k (by omega) hk
 exact ⟨r,a1,ZAT a5 _ _ _ a2⟩
theorem ok_Pile_init {f:Addr} {fd:FuncData} {dv:List Value} (F:FunD K "__init__" "Pile.__init__" ZBF f fd dv) (T:Bt K mg C_Join C_Pile C_Asker C_AskedRule)
  (J:Mt P w K mg base CX0 C_Asker "many" 1 ["self"] (ZDn C_Asker))
 :FnOk P w K mg base CX0 2 f fd ["self","asker","least","part"] (ZBi C_Asker C_Pile):=by
 refine F.ok sc_Pile_init (fun vs H Q E h=>?_) (fun ae A outer s H vs Q E hr h=>?_)
 .obtain ⟨x,dx,a,ls,s,e,pz,rfl,hx,a0,q⟩:=h
  rfl
 obtain ⟨x,dx,a,ls,s,e,pz,rfl,hx,a0,q⟩:=h
 refine ⟨_,(ZAB (ZBB (pv 0) (pv 1) rfl)
  (ZAB (ZBB (pv 0) (pv 2) rfl)
  (ZAB (ZBB (pv 0) (ZBV (ZAS ZEK (pv 3) ZCr (ZAV _)) ZAF (ZAb ZAp (pv 3) ZAF (fun _ _=>rfl))) rfl)
  (ZAU
  (ZAB (ZBB (pv 0) (ZBV (ZAS ZEK (pv 3) ZCr (ZAV _)) (ZCL J (hr.mono (by decide)) ZAW (pv 1)) (ZAb ZAp (pv 3) ZAF (fun _ _=>rfl))) rfl)
  (ZAU
  (ZAB (ZBB (pv 0) (ZAQ (pv 0) rfl) rfl)
  (ZAB (ZBB (pv 0) (ZBC ZAE) rfl)
  (ZAB (ZBB (pv 0) (ZBC ZAE) rfl)
  (ZAI (ZBB (pv 0) (ZBC ZAE) rfl))))))))))),?_⟩
 walk_at "rd"
 refine setX hx T.cl_Pile T.n_Pile_asker (by decide) fun H2 x2 k2=>?_
 walk_at "rd"
 refine setX x2 T.cl_Pile T.n_Pile_least ZEt fun H3 x3 k3=>?_
 walk_at "rd"
 have u3:∀ b o,b≠x->H b=some o->H3 b=some o:=fun b o n h=>by rw [k3 b n,k2 b n];exact h
 apply ZDG (fun H4:Hp=>H4 x=some (.ins C_Pile dx (putF "start" (.int s) (putF "least" (.int ls) (putF "asker" (.ref a) [])))) /\ ∀ b,b≠x->H4 b=H3 b)
 .intro B
  rcases a0 with ⟨pt,hz,O⟩ | ⟨hz,a9,aa,rl,ru,m,n,tl,us,ha,hrl,a7⟩
  .rw [if_neg (by rw [hz];simp)]
   have a4:∀ {Q':VK},Q' (.int s) H3->rIxT K pz (.int 0) H3 Q':=fun h=>by rw [hz];exact ZAk (SqT.of (u3 _ _ (fun z=>by rw [z,hx] at O;cases O) O)) (ZAY (by decide) rfl) h
   exact a4 (setX x3 T.cl_Pile T.n_Pile_start ZEs fun H4 x4 k4=>B H4 ⟨x4,k4⟩)
  .rw [if_pos hz]
   exact setX x3 T.cl_Pile T.n_Pile_start ZEs fun H4 x4 k4=>B H4 ⟨by rw [a9];exact x4,k4⟩
 rintro H4 ⟨x4,k4⟩
 refine ZAa ?_
 walk_at "rd"
 have u4:∀ b o,b≠x->H b=some o->H4 b=some o:=fun b o n h=>by rw [k4 b n];exact u3 b o n h
 apply ZDG (fun H5:Hp=>H5 x=some (.ins C_Pile dx (putF "end" (.int e) (putF "start" (.int s) (putF "least" (.int ls) (putF "asker" (.ref a) []))))) /\ ∀ b,b≠x->H5 b=H4 b)
 .intro B
  rcases a0 with ⟨pt,hz,O⟩ | ⟨hz,a9,aa,rl,ru,m,n,tl,us,ha,hrl,a7⟩
  .rw [if_neg (by rw [hz];simp)]
   have a4:∀ {Q':VK},Q' (.int e) H4->rIxT K pz (.int 1) H4 Q':=fun h=>by rw [hz];exact ZAk (SqT.of (u4 _ _ (fun z=>by rw [z,hx] at O;cases O) O)) (ZAY (by decide) rfl) h
   exact a4 (setX x4 T.cl_Pile T.n_Pile_end ZEr fun H5 x5 k5=>B H5 ⟨x5,k5⟩)
  .rw [if_pos hz]
   have ad:rl≠x:=fun z=>by rw [z,hx] at hrl;cases hrl
   have ab:Ins H4 a C_Asker (fA rl ru m n tl):=let ⟨d1,f1,e1,e2,e3⟩:=ha.ex;⟨d1,f1,u4 _ _ aa e1,e2,e3⟩
   refine ab.meth (by walk_at "lk") ⟨a,rl,ru,tl,m,n,us,rfl,ab,u4 _ _ ad hrl,?_⟩
   rw [a7]
   exact setX x4 T.cl_Pile T.n_Pile_end ZEr fun H5 x5 k5=>B H5 ⟨x5,k5⟩
 clear a0
 rintro H5 ⟨x5,k5⟩
 have u5:∀ b o,b≠x->H b=some o->H5 b=some o:=fun b o n h=>by rw [k5 b n];exact u4 b o n h
 clear u3 u4 k2 k3 k4 k5 x2 x3 x4
 refine ZAa ?_
 walk_at "rd"
 refine getF_of x5 T.cl_Pile T.n_Pile_start (by simp only [ZAd,lkc];walk_at "lk") ?_
 refine setX x5 T.cl_Pile T.n_Pile_reached ZE8 fun H6 x6 k6=>?_
 walk_at "rd"
 refine ⟨yAG _,fun fs a3=>?_⟩
 obtain ⟨H7,e7,s7,h7⟩:=newH a3 (.lst [])
 rw [e7];clear e7
 refine setX (s7 _ _ x6) T.cl_Pile T.n_Pile_firsts putL5 fun H8 x8 k8=>?_
 walk_at "rd"
 refine ⟨yAG _,fun od Z=>?_⟩
 obtain ⟨H9,e9,s9,h9⟩:=newH Z (.lst [])
 rw [e9];clear e9
 refine setX (s9 _ _ x8) T.cl_Pile T.n_Pile_orders putL6 fun HA xA kA=>?_
 walk_at "rd"
 refine ⟨yAG _,fun gr U=>?_⟩
 obtain ⟨HB,eB,sB,hB⟩:=newH U (.lst [])
 rw [eB];clear eB
 refine setX (sB _ _ xA) T.cl_Pile T.n_Pile_grades putL7 fun HC xC kC=>?_
 have a1:fs≠x:=Ne.symm (ZAD x6 a3)
 have a2:od≠x:=Ne.symm (ZAD x8 Z)
 have a8:gr≠x:=Ne.symm (ZAD xA U)
 have h8:H8 fs=some (.lst []):=by rw [k8 fs a1];exact h7
 have a6:HA fs=some (.lst []):=by rw [kA fs a1];exact s9 _ _ h8
 have a5:HA od=some (.lst []):=by rw [kA od a2];exact h9
 have f6:∀ b,b≠x->H6 b=none->H b=none:=fun b n e=>by
  cases eb:H b with
  | none=>rfl
  | some o=>have:=u5 b o n eb;rw [k6 b n,this] at e;cases e
 have f8:∀ b,b≠x->H8 b=none->H b=none:=fun b n e=>f6 b n (s7.free (by rw [<- k8 b n];exact e))
 have ac:∀ b,b≠x->HA b=none->H b=none:=fun b n e=>f8 b n (s9.free (by rw [<- kA b n];exact e))
 refine q fs od gr HC (fun b o n h=>?_) (f6 fs a1 a3) (f8 od a2 Z) (ac gr a8 U) ⟨(Ins.of xC (yAL putL8 (by decide))).congr fun f=>by simp only [ZAd,lkc],by rw [kC fs a1];exact sB _ _ a6,by rw [kC od a2];exact sB _ _ a5,by rw [kC gr a8];exact hB,trivial,⟨ZAD h8 Z,ZAD a6 U,ZAD a5 U⟩,fun b hb=>by cases hb⟩
 rw [kC b n]
 refine sB _ _ ?_
 rw [kA b n]
 refine s9 _ _ ?_
 rw [k8 b n]
 refine s7 _ _ ?_
 rw [k6 b n]
 exact u5 b o n h
theorem ok_Pile_beyond_of {f:Addr} {fd:FuncData} (F:Fun K "beyond_of" "Pile.beyond_of" ZAq f fd) (T:Bt K mg C_Join C_Pile C_Asker C_AskedRule)
 :FnOk P w K mg base CX0 1 f fd ["self","number"] (ZCj C_Pile):=by
 refine F.ok sc_Pile_beyond_of (fun vs H Q E h=>?_) (fun O A outer s H vs Q E U h=>?_)
 .obtain ⟨x,a,fs,od,gr,ls,s,e,r,oa,A,p,B,gs,rfl,J,q⟩:=h
  rfl
 obtain ⟨x,a,fs,od,gr,ls,s,e,r,oa,A,p,B,gs,rfl,J,q⟩:=h
 refine ⟨_,(ZAI (ZAX (ZBV (ZAS ZCm (ZAP ZAf (pv 1) ZAF) (ZAM ZAJ rfl T.b_len PySem.boot_len (ZAA (ZAQ (pv 0) rfl) ZAE)) (ZAV _)) (ZAb ZAi (ZAQ (pv 0) rfl) (ZAP ZAf (pv 1) ZAF) (fun _ _=>rfl)) (ZAQ (pv 0) rfl)))),?_⟩
 walk_at "rd"
 refine J.hp.get T.cl_Pile T.n_Pile_firsts (by walk_at "lk") ⟨fs,_,rfl,.inl (SqL.of J.hfs),?_⟩
 rw [yAD,yAD,yAB,yAH]
 cases B with
 | nil=>
  rw [if_neg (by rw [yCE];omega)]
  exact J.hp.get T.cl_Pile T.n_Pile_reached (by walk_at "lk") q
 | cons p2 B=>
  rw [if_pos (by rw [yAH];omega)]
  refine J.hp.get T.cl_Pile T.n_Pile_firsts (by walk_at "lk") ?_
  rw [show (A.length:Int)+1=((A.length+1:Nat):Int) by omega]
  exact ZAy (SqL.of J.hfs) (ZDD (by rw [yAT,ZCG];rfl)) q
theorem ok_Pile_is_due_beneath {f:Addr} {fd:FuncData} (F:Fun K "is_due_beneath" "Pile.is_due_beneath" ZAZ f fd) (T:Bt K mg C_Join C_Pile C_Asker C_AskedRule)
 :FnOk P w K mg base CX0 1 f fd ["self"] (ZE6 C_Pile):=by
 refine F.ok sc_Pile_is_due_beneath (fun vs H Q E h=>?_) (fun O A outer s H vs Q E U h=>?_)
 .obtain ⟨x,a,fs,od,gr,ls,s,e,r,oa,ps,gs,rfl,B,q⟩:=h
  rfl
 obtain ⟨x,a,fs,od,gr,ls,s,e,r,oa,ps,gs,rfl,B,q⟩:=h
 refine ⟨_,(ZAI (ZAX (pe_and (ZCP ZES (ZAM ZAJ rfl T.b_len PySem.boot_len (ZAA (ZAQ (pv 0) rfl) ZAE)) ZAF (ZAV _)) (pe_one (ZCP ZES (ZAb ZAi (ZAQ (pv 0) rfl) (ZE9 ZEU ZAF) (fun _ _=>rfl)) (ZAb ZAi (ZAQ (pv 0) rfl) (ZE9 ZEU ZAF) (fun _ _=>rfl)) (ZAV _)))))),?_⟩
 walk_at "rd"
 refine B.hp.get T.cl_Pile T.n_Pile_grades (by walk_at "lk") ⟨gr,_,rfl,.inl (SqL.of B.hgr),?_⟩
 rw [yAD]
 by_cases h2:2 <= gs.length
 .rw [if_pos (by omega)]
  obtain ⟨G,g1,g2,rfl⟩:=ZCu h2
  have J:=B.hgr
  rw [show nL (G++[g1,g2])=nL G++[.int (g1:Nat),.int (g2:Nat)] by unfold nL;rw [yAU];rfl] at J
  refine B.hp.get T.cl_Pile T.n_Pile_grades (by walk_at "lk") (ZAy (SqL.of J) atI_m2 ?_)
  refine B.hp.get T.cl_Pile T.n_Pile_grades (by walk_at "lk") ?_
  rw [show nL G++[V.int (g1:Nat),V.int (g2:Nat)]=(nL G++[.int (g1:Nat)])++[.int (g2:Nat)] by rw [yAK];rfl] at J
  refine ZAy (SqL.of J) atI_m1 ⟨_,_,rfl,rfl,?_⟩
  rw [ZDf] at q
  have e:decide ((g2:Int) < g1)=decide (g2 < g1):=by rw [decide_eq_decide];omega
  rw [<- e] at q
  exact q
 .rw [if_neg (by omega)]
  rw [dueB_few (by omega)] at q
  exact q
theorem ok_Pile_grade_on_top {f:Addr} {fd:FuncData} (F:Fun K "grade_on_top" "Pile.grade_on_top" ZAc f fd) (T:Bt K mg C_Join C_Pile C_Asker C_AskedRule)
  (B:Fn P w K mg base CX0 "grade" 1 ["many","first","middle","beyond"] (ZD3))
 :FnOk P w K mg base CX0 2 f fd ["self","middle","beyond"] (ZD1 C_Pile):=by
 refine F.ok sc_Pile_grade_on_top (fun vs H Q E h=>?_) (fun a0 A outer s H vs Q E U h=>?_)
 .obtain ⟨x,a,fs,od,gr,ls,s,e,r,oa,A,p,gs,m,b,rfl,J,h1,h2,h3,h4,Z,q⟩:=h
  rfl
 obtain ⟨x,a,fs,od,gr,ls,s,e,r,oa,A,p,gs,m,b,rfl,J,h1,h2,h3,h4,Z,q⟩:=h
 refine ⟨_,(ZAI (ZAX (ZBR B (U.mono (by decide)) rfl ZAW (ZAA (ZAP ZA2 (ZAQ (pv 0) rfl) (ZAQ (pv 0) rfl)) (ZAA (ZAP ZA2 (ZAb ZAi (ZAQ (pv 0) rfl) (ZE9 ZEU ZAF) (fun _ _=>rfl)) (ZAQ (pv 0) rfl)) (ZAA (ZAP ZA2 (pv 1) (ZAQ (pv 0) rfl)) (ZAA (ZAP ZA2 (pv 2) (ZAQ (pv 0) rfl)) ZAE))))))),?_⟩
 walk_at "rd"
 have O:=J.hfs
 rw [yAU,show nL (A.map Prod.fst++[p].map Prod.fst)=nL (A.map Prod.fst)++[.int (p.1:Nat)] by unfold nL;rw [yAU];rfl] at O
 refine J.hp.get T.cl_Pile T.n_Pile_end (by walk_at "lk") (J.hp.get T.cl_Pile T.n_Pile_start (by walk_at "lk") ⟨_,_,rfl,rfl,?_⟩)
 refine J.hp.get T.cl_Pile T.n_Pile_firsts (by walk_at "lk") (ZAy (SqL.of O) atI_m1 (J.hp.get T.cl_Pile T.n_Pile_start (by walk_at "lk") ⟨_,_,rfl,rfl,?_⟩))
 refine J.hp.get T.cl_Pile T.n_Pile_start (by walk_at "lk") ⟨_,_,rfl,rfl,J.hp.get T.cl_Pile T.n_Pile_start (by walk_at "lk") ⟨_,_,rfl,rfl,?_⟩⟩
 exact ⟨_,_,_,_,rfl,by omega,by omega,by omega,by omega,by omega,by omega,q⟩
theorem ok_Pile_join_two {f:Addr} {fd:FuncData} (F:Fun K "join_two" "Pile.join_two" ZAu f fd) (T:Bt K mg C_Join C_Pile C_Asker C_AskedRule)
  (a1:Fn P w K mg base CX0 "joined" 6 ["asker","left","right"] (ZDV C_Asker C_AskedRule))
  (J:Mt P w K mg base CX0 C_Pile "beyond_of" 1 ["self","number"] (ZCj C_Pile))
 :FnOk P w K mg base CX0 7 f fd ["self","lower"] (ZC2 C_Asker C_AskedRule C_Pile):=by
 refine F.ok sc_Pile_join_two (fun vs H Q E h=>?_) (fun b0 A outer s H vs Q E hr h=>?_)
 .obtain ⟨ks,xs,a,rl,ru,tl,g,lg,x,fs,od,gr,pr,ls,s,e,r,oa,A,v1,v2,o1,o2,B,gs,rfl,st,pa,px,ch,a8,ap,hk,ay,q⟩:=h
  rfl
 obtain ⟨ks,xs,a,rl,ru,tl,g,lg,x,fs,od,gr,pr,ls,s,e,r,oa,A,v1,v2,o1,o2,B,gs,rfl,st,pa,px,ch,a8,ap,hk,ay,q⟩:=h
 refine ⟨_,(ZAB (ZAL (i:=2) sc_Pile_join_two.nd rfl (by walk_at "o") (ZBR a1 (hr.mono (by decide)) rfl ZAW (ZAA (ZAQ (pv 0) rfl) (ZAA (ZAb ZAi (ZAQ (pv 0) rfl) (pv 1) (fun _ _=>rfl)) (ZAA (ZAb ZAi (ZAQ (pv 0) rfl) (ZAP ZAf (pv 1) ZAF) (fun _ _=>rfl)) ZAE)))))
  (ZAU
  (ZAB (ZAL (i:=3) sc_Pile_join_two.nd rfl (by walk_at "o") (ZB4 (ZAA ZEI (ZAA (ZAb ZAi (ZAQ (pv 0) rfl) (pv 1) (fun _ _=>rfl)) (ZAA (ZAb ZAi (ZAQ (pv 0) rfl) (ZAP ZAf (pv 1) ZAF) (fun _ _=>rfl)) (ZAA (ZBU J (hr.mono (by decide)) ZAW (pv 0) (ZAA (ZAP ZAf (pv 1) ZAF) ZAE)) ZAE))))))
  (ZAU
  (ZAB (ps_asg (pv 2) (pg_sub (ZAQ (pv 0) rfl) (pv 1) set_list))
  (ZAB (ZAn (ZCQ PySem.F.plainAttrs_list PySem.F.slot_list_pop PySem.F.type_list_pop ZCy (ZAQ (pv 0) rfl) (ZAA (ZAP ZAf (pv 1) ZAF) ZAE)))
  (ZAB (ZAn (ZCQ PySem.F.plainAttrs_list PySem.F.slot_list_pop PySem.F.type_list_pop ZCy (ZAQ (pv 0) rfl) (ZAA (ZAP ZAf (pv 1) ZAF) ZAE)))
  (ZAB (ZAn (ZCQ PySem.F.plainAttrs_list PySem.F.slot_list_pop PySem.F.type_list_pop ZCy (ZAQ (pv 0) rfl) (ZAA (pv 1) ZAE)))
  (ZAI (ZAX (pv 3))))))))))),?_⟩
 walk_at "rd"
 obtain ⟨O,b1,b2,OB,rfl,a0,am,au,al,aw⟩:=pa.oat.two
 obtain ⟨v3,c1,c2,c3,c4,c5,c6,c7⟩:=ch.two
 have l1:=c4.len
 have l2:=c5.len
 have l6:=c6.le
 have az:(O.map V.ref).length <= 63:=by rw [yAD,a0];have:=c1.le;omega
 have m1:b1∈O++b1::b2::OB:=yAX _ yAF
 have m2:b2∈O++b1::b2::OB:=yAX _ (yAC _ yAF)
 refine pa.hp.get T.cl_Pile T.n_Pile_asker (by walk_at "lk") (pa.hp.get T.cl_Pile T.n_Pile_orders (by walk_at "lk") (ZAy (SqL.of pa.hod) (atI_refs (b:=b1) (by rw [<- a0];exact ZA6 ..)) ?_))
 refine pa.hp.get T.cl_Pile T.n_Pile_orders (by walk_at "lk") ?_
 rw [show (A.length:Int)+1=((A.length+1:Nat):Int) by omega]
 refine ZAy (SqL.of pa.hod) (atI_refs (b:=b2) (by rw [<- a0];exact ZCG ..)) ?_
 refine ⟨ks,xs,a,rl,ru,tl,g,lg,b1,b2,pr,o1,o2,rfl,st,au,al,by omega,by omega,fun u hu=>by have:=(c4.mem u).mp hu;omega,fun u hu=>by have:=(c5.mem u).mp hu;omega,c4.srt,c5.srt,fun u hu v hv=>by have:=(c4.mem u).mp hu;have:=(c5.mem v).mp hv;omega,by omega,fun l H1 o L a4 a2 ar hJ aq=>?_⟩
 have U:=pa.fr a4 px.n1 px.n2
 refine ZAa ?_
 walk_at "rd"
 refine U.hp.get T.cl_Pile T.n_Pile_firsts (by walk_at "lk") (ZAy (SqL.of U.hfs) (ZDD (o:=v1) (by rw [yAT,ZA6];rfl)) ?_)
 refine U.hp.get T.cl_Pile T.n_Pile_firsts (by walk_at "lk") ?_
 rw [show (A.length:Int)+1=((A.length+1:Nat):Int) by omega]
 refine ZAy (SqL.of U.hfs) (ZDD (o:=v2) (by rw [yAT,ZCG];rfl)) ?_
 refine U.hp.meth (by walk_at "lk") ⟨x,a,fs,od,gr,ls,s,e,r,_,A++[(v1,o1)],(v2,o2),B,gs,by rw [yAB];rfl,by rw [yAK];exact U,?_⟩
 refine ⟨ZAe (by decide),fun t ht=>?_⟩
 obtain ⟨H2,e2,s2,h2⟩:=newH ht (.tup [.str "join",.int (v1:Nat),.int (v2:Nat),.int (bB B r:Nat)])
 rw [e2];clear e2
 have Z:=U.mono s2
 have st2:=aq.mono s2
 refine ZAa ?_
 walk_at "rd"
 have a3:=Z.xl
 have ax:x≠fs:=fun z=>a3 (by rw [z];exact yAF)
 have aj:x≠od:=fun z=>a3 (by rw [z];exact yAC _ yAF)
 have av:x≠gr:=fun z=>a3 (by rw [z];exact yAC _ (yAC _ yAF))
 obtain ⟨aa,ai,a9⟩:=pa.ne
 refine Z.hp.get T.cl_Pile T.n_Pile_orders (by walk_at "lk") ⟨od,_,_,_,rfl,rfl,Z.hod,ixN_of (by omega) (by rw [yAD,yAB,yAH];omega),?_⟩
 rw [Int.toNat_natCast,yAU,yBD,yBD,show A.length=(O.map V.ref).length by rw [yAD,a0],set_mid]
 have an:Ins (upd H2 od (.lst (O.map V.ref++.ref l::.ref b2::OB.map V.ref))) x C_Pile (fPl a ls s e r fs od gr):=Z.hp.keep (ZAK aj)
 refine an.get T.cl_Pile T.n_Pile_orders (by walk_at "lk") ?_
 walk_at "rd"
 refine ⟨.inl ⟨rfl,_,SqL.of ZAG⟩,od,_,_,(O.map V.ref).length+1,_,rfl,rfl,ZAG,by omega,by omega,?_,ZCG ..,?_⟩
 .rw [show ((O.map V.ref).length:Int)+1=(((O.map V.ref).length+1:Nat):Int) by omega]
  exact PySem.StrLaws.seqIndex_nonneg (by omega) (by rw [yAB,yAH,yAH];omega)
 rw [er_mid2,ZDO]
 have ab:Ins (upd H2 od (.lst (O.map V.ref++.ref l::OB.map V.ref))) x C_Pile (fPl a ls s e r fs od gr):=Z.hp.keep (ZAK aj)
 have ag:upd H2 od (.lst (O.map V.ref++.ref l::OB.map V.ref)) fs=some (.lst (nL (A.map Prod.fst)++.int (v1:Nat)::.int (v2:Nat)::nL (B.map Prod.fst))):=by
  rw [ZAK aa,Z.hfs,yAU];unfold nL;rw [yAU];rfl
 have la:(nL (A.map Prod.fst)).length=(O.map V.ref).length:=by rw [yAD,yAD,yAD,a0]
 refine ab.get T.cl_Pile T.n_Pile_firsts (by walk_at "lk") ?_
 walk_at "rd"
 refine ⟨.inl ⟨rfl,_,SqL.of ag⟩,fs,_,_,(nL (A.map Prod.fst)).length+1,_,rfl,rfl,ag,by omega,by omega,?_,ZCG ..,?_⟩
 .rw [<- la,show ((nL (A.map Prod.fst)).length:Int)+1=(((nL (A.map Prod.fst)).length+1:Nat):Int) by omega]
  exact PySem.StrLaws.seqIndex_nonneg (by omega) (by rw [yAB,yAH,yAH];omega)
 rw [er_mid2]
 have af:Ins (upd (upd H2 od (.lst (O.map V.ref++.ref l::OB.map V.ref))) fs (.lst (nL (A.map Prod.fst)++.int (v1:Nat)::nL (B.map Prod.fst)))) x C_Pile (fPl a ls s e r fs od gr):=ab.keep (ZAK ax)
 have ad:upd (upd H2 od (.lst (O.map V.ref++.ref l::OB.map V.ref))) fs (.lst (nL (A.map Prod.fst)++.int (v1:Nat)::nL (B.map Prod.fst))) gr=some (.lst (nL gs)):=by rw [ZAK (Ne.symm ai),ZAK (Ne.symm a9)];exact Z.hgr
 refine af.get T.cl_Pile T.n_Pile_grades (by walk_at "lk") ?_
 walk_at "rd"
 refine ⟨.inl ⟨rfl,_,SqL.of ad⟩,gr,_,_,A.length,.int (gs[A.length]:Nat),rfl,rfl,ad,by omega,by omega,?_,by rw [yAT,yAJ a8];rfl,?_⟩
 .rw [show (O.map V.ref).length=A.length by rw [yAD,a0]]
  exact PySem.StrLaws.seqIndex_nonneg (by omega) (by rw [yAD];omega)
 rw [er_map]
 have F3:Fr [fs,od,gr] H2 (upd (upd (upd H2 od (.lst (O.map V.ref++.ref l::OB.map V.ref))) fs (.lst (nL (A.map Prod.fst)++.int (v1:Nat)::nL (B.map Prod.fst)))) gr (.lst (nL (gs.eraseIdx A.length)))):=((Fr.upd (yAC _ yAF)).trans (Fr.upd yAF)).trans (Fr.upd (yAC _ (yAC _ yAF)))
 have ah:Ins (upd (upd (upd H2 od (.lst (O.map V.ref++.ref l::OB.map V.ref))) fs (.lst (nL (A.map Prod.fst)++.int (v1:Nat)::nL (B.map Prod.fst)))) gr (.lst (nL (gs.eraseIdx A.length)))) x C_Pile (fPl a ls s e r fs od gr):=af.keep (ZAK av)
 have a7:(upd (upd (upd H2 od (.lst (O.map V.ref++.ref l::OB.map V.ref))) fs (.lst (nL (A.map Prod.fst)++.int (v1:Nat)::nL (B.map Prod.fst)))) gr (.lst (nL (gs.eraseIdx A.length)))) fs=some (.lst (nL (A.map Prod.fst)++.int (v1:Nat)::nL (B.map Prod.fst))):=by rw [ZAK ai,ZAG]
 have ae:(upd (upd (upd H2 od (.lst (O.map V.ref++.ref l::OB.map V.ref))) fs (.lst (nL (A.map Prod.fst)++.int (v1:Nat)::nL (B.map Prod.fst)))) gr (.lst (nL (gs.eraseIdx A.length)))) od=some (.lst (O.map V.ref++.ref l::OB.map V.ref)):=by rw [ZAK a9,ZAK (Ne.symm aa),ZAG]
 have ac:(upd (upd (upd H2 od (.lst (O.map V.ref++.ref l::OB.map V.ref))) fs (.lst (nL (A.map Prod.fst)++.int (v1:Nat)::nL (B.map Prod.fst)))) gr (.lst (nL (gs.eraseIdx A.length)))) gr=some (.lst (nL (gs.eraseIdx A.length))):=ZAG
 generalize (upd (upd (upd H2 od (.lst (O.map V.ref++.ref l::OB.map V.ref))) fs (.lst (nL (A.map Prod.fst)++.int (v1:Nat)::nL (B.map Prod.fst)))) gr (.lst (nL (gs.eraseIdx A.length))))=H3 at F3 ah a7 ae ac ⊢
 have a6:l∉[fs,od,gr]:=fun z=>by obtain ⟨y,hy⟩:=pa.lsts l z;rw [hy] at a2;cases a2
 have ao:t∉[fs,od,gr]:=fun z=>by obtain ⟨y,hy⟩:=U.lsts t z;rw [hy] at ht;cases ht
 have a5:∀ b∈O++l::OB,b∉[fs,od,gr] /\ b∉[a,lg,tl] /\ (b∈O++b1::b2::OB∨H b=none):=fun b hb=>by
  rcases yAZ.mp hb with z | z
  .have m:=yBU (b1::b2::OB) z
   exact ⟨pa.nb b m,px.n2 b m,.inl m⟩
  rcases yAE.mp z with z | z
  .rw [z];exact ⟨a6,st.newS a2,.inr a2⟩
  .have m:b∈O++b1::b2::OB:=yAX _ (yAC _ (yAC _ z))
   exact ⟨pa.nb b m,px.n2 b m,.inl m⟩
 have kp:∀ b∈O++b1::b2::OB,∀ o,H b=some o->H3 b=some o:=fun b hb o h=>F3 _ _ (pa.nb b hb) (s2 _ _ (a4 _ _ (px.n2 b hb) h))
 refine q t H3 o L (O++l::OB) hJ ⟨fun b o n h=>?_,fun b hb=>(a5 b hb).2.2,F3 _ _ ao h2,⟨ah,?_,?_,ac,?_,pa.ne,fun b hb=>(a5 b hb).1⟩,⟨px.n1,fun b hb=>(a5 b hb).2.1,px.n3,px.nr⟩,?_⟩
 .refine F3 _ _ (fun z=>n (yAC _ ?_)) (s2 _ _ (a4 _ _ (fun z=>n (yAC _ (yAC _ (yAC _ (yAC _ z))))) h))
  exact yBU [a,lg,tl] z
 .rw [a7,yAU];unfold nL;rw [yAU];rfl
 .rw [ae,yAU];rfl
 .exact (am.keep fun b hb=>kp b (yBU _ hb)).app ⟨F3 _ _ a6 (s2 _ _ ar),aw.keep fun b hb=>kp b (yAX _ (yAC _ (yAC _ hb)))⟩
 .refine st2.apart F3 Z.lsts ⟨px.n3,?_,?_⟩
  .intro z
   obtain ⟨w1,w2,w3,w4⟩:=px.n1
   rcases yAE.mp z with z | z
   .exact w2 (by rw [<- z];exact yAC _ yAF)
   rcases yAE.mp z with z | z
   .exact w3 (by rw [<- z];exact yAC _ yAF)
   .exact w4 (by rw [<- yAO.mp z];exact yAC _ yAF)
  .intro z
   obtain ⟨w1,w2,w3,w4⟩:=px.n1
   rcases yAE.mp z with z | z
   .exact w2 (by rw [<- z];exact yAC _ (yAC _ yAF))
   rcases yAE.mp z with z | z
   .exact w3 (by rw [<- z];exact yAC _ (yAC _ yAF))
   .exact w4 (by rw [<- yAO.mp z];exact yAC _ (yAC _ yAF))
theorem ok_Pile_lay {f:Addr} {fd:FuncData} (F:Fun K "lay" "Pile.lay" ZBY f fd) (T:Bt K mg C_Join C_Pile C_Asker C_AskedRule)
  (a0:Fn P w K mg base CX0 "filled" 5 ["asker","first","least","end"] (ZDY C_Asker C_AskedRule))
  (J:Mt P w K mg base CX0 C_Pile "grade_on_top" 2 ["self","middle","beyond"] (ZD1 C_Pile))
 :FnOk P w K mg base CX0 6 f fd ["self"] (ZE5 C_Asker C_AskedRule C_Pile):=by
 refine F.ok sc_Pile_lay (fun vs H Q E h=>?_) (fun bh A outer s H vs Q E hr h=>?_)
 .obtain ⟨ks,xs,a,rl,ru,tl,g,lg,x,fs,od,gr,pr,ls,s,e,r,oa,ps,gs,rfl,st,pa,px,pi,a6,ab,ae,hk,af,ba,q⟩:=h
  rfl
 obtain ⟨ks,xs,a,rl,ru,tl,g,lg,x,fs,od,gr,pr,ls,s,e,r,oa,ps,gs,rfl,st,pa,px,pi,a6,ab,ae,hk,af,ba,q⟩:=h
 refine ⟨_,(ZAB (ZAL (i:=1) sc_Pile_lay.nd rfl (by walk_at "o") (ZAQ (pv 0) rfl))
  (ZAB (ZAL (i:=2) sc_Pile_lay.nd rfl (by walk_at "o") (ZBR a0 (hr.mono (by decide)) rfl ZAW (ZAA (ZAQ (pv 0) rfl) (ZAA (pv 1) (ZAA (ZAQ (pv 0) rfl) (ZAA (ZAQ (pv 0) rfl) ZAE))))))
  (ZAU
  (ZAB (ZAL (i:=3) sc_Pile_lay.nd rfl (by walk_at "o") (ZAP ZAf (pv 1) (ZAM ZAJ rfl T.b_len PySem.boot_len (ZAA (ZAb ZAp (pv 2) ZAF (fun _ _=>rfl)) ZAE))))
  (ZAU
  (ZAB (ZBQ (pt_lst (ZAQ (pv 0) rfl))
  (ZAI (ZAn (ZCQ PySem.F.plainAttrs_list PySem.F.slot_list_append PySem.F.type_list_append ZBb (ZAQ (pv 0) rfl) (ZAA (ZBU J (hr.mono (by decide)) ZAW (pv 0) (ZAA (pv 1) (ZAA (pv 3) ZAE))) ZAE)))) ZAh)
  (ZAU
  (ZAB (ZAn (ZCQ PySem.F.plainAttrs_list PySem.F.slot_list_append PySem.F.type_list_append ZBb (ZAQ (pv 0) rfl) (ZAA (pv 1) ZAE)))
  (ZAB (ZAn (ZCQ PySem.F.plainAttrs_list PySem.F.slot_list_append PySem.F.type_list_append ZBb (ZAQ (pv 0) rfl) (ZAA (ZAb ZAp (pv 2) ZAF (fun _ _=>rfl)) ZAE)))
  (ZAB (ZBB (pv 0) (pv 3) rfl)
  (ZAI (ZAX (ZB4 (ZAA ZEI (ZAA (pv 1) (ZAA (ZAb ZAp (pv 2) ZAF (fun _ _=>rfl)) (ZAA (pv 3) ZAE))))))))))))))))),?_⟩
 walk_at "rd"
 have b8:=pi.ch.le
 refine pa.hp.get T.cl_Pile T.n_Pile_reached (by walk_at "lk") (pa.hp.get T.cl_Pile T.n_Pile_asker (by walk_at "lk") (pa.hp.get T.cl_Pile T.n_Pile_least (by walk_at "lk") (pa.hp.get T.cl_Pile T.n_Pile_end (by walk_at "lk") ?_)))
 refine ⟨ks,xs,a,rl,ru,tl,g,lg,pr,r,ls,e,.int e,rfl,st,by omega,.inr rfl,ab,ae,by omega,af,fun H1 t ol j f os l al a1 ax ht ao hb a7 b1=>?_⟩
 have B:=pa.fr al px.n1 px.n2
 have hj:=hb.two
 obtain ⟨o1,_,_⟩:=a7.all (first:=r) (asks r (min (j+1) e)) (by omega) hb.ord (fun i x y hx hy=>(hb.adj i x y hx hy).2)
 obtain ⟨v3,an⟩:∃ v3,v3=max j (min (r+ls) e):=⟨_,rfl⟩
 rw [<- an] at o1
 have bg:r < v3 /\ v3 <= e:=by omega
 have bf:=o1.len
 refine ZAa ?_
 walk_at "rd"
 refine ZAk (SqT.of ht) (ZAY (by decide) rfl) ⟨ol,_,rfl,.inl (SqL.of ao),?_⟩
 rw [yAD]
 walk_at "rd"
 rw [show (r:Int)+(os.length:Int)=(v3:Nat) by omega]
 refine ZAa ?_
 walk_at "rd"
 have aa:t∉[fs,od,gr]:=fun z=>by obtain ⟨y,hy⟩:=B.lsts t z;rw [hy] at ht;cases ht
 have a5:ol∉[fs,od,gr]:=fun z=>by obtain ⟨y,hy⟩:=pa.lsts ol z;rw [hy] at a1;cases a1
 apply ZDG (fun X:Hp=>∃ gs',((ps=[] /\ gs'=gs)∨∃ A p g,ps=A++[p] /\ gs'=gs++[g] /\ Gr.IsG ((e:Int)-s) (((p.1:Int)-s)+((r:Int)-s)) (((r:Int)-s)+((v3:Int)-s)) g /\ g <= 240) /\ PileAt C_Pile X x a fs od gr ls s e r oa ps gs' /\ Fr [fs,od,gr] H1 X)
 .intro a4
  refine B.hp.get T.cl_Pile T.n_Pile_firsts (by walk_at "lk") ⟨fs,_,rfl,SqL.of B.hfs,?_⟩
  by_cases a2:ps≠[]
  .obtain ⟨A,p,rfl⟩:∃ A p,ps=A++[p]:=⟨ps.dropLast,ps.getLast a2,(List.dropLast_concat_getLast _).symm⟩
   rw [if_pos (by simp)]
   obtain ⟨m,c1,c2,m2,c3,c4,c5⟩:=Ch.app.mp pi.ch
   have c5:m2=r:=c5
   have bj:=c1.le
   have az:=pi.gl
   rw [yAB,yAS] at az b8
   refine B.hp.get T.cl_Pile T.n_Pile_grades (by walk_at "lk") ?_
   walk_at "rd"
   refine ⟨.inl ⟨rfl,_,SqL.of B.hgr⟩,B.hp.meth (by walk_at "lk") ⟨x,a,fs,od,gr,ls,s,e,r,oa,A,p,gs,r,v3,rfl,B,by omega,by omega,by omega,by omega,by omega,fun gg bb b5=>?_⟩⟩
   refine ⟨gr,_,_,rfl,rfl,B.hgr,ZBP (by rw [yAD];omega),?_⟩
   have F:Fr [fs,od,gr] H1 (upd H1 gr (.lst (nL gs++[.int (gg:Nat)]))):=Fr.upd (yAC _ (yAC _ yAF))
   have P:PileAt C_Pile (upd H1 gr (.lst (nL gs++[.int (gg:Nat)]))) x a fs od gr ls s e r oa (A++[p]) (gs++[gg]):=⟨ZDA F B.xl B.hp,by rw [ZAK B.ne.2.1];exact B.hfs,by rw [ZAK B.ne.2.2];exact B.hod,by rw [ZAG];unfold nL;rw [yAU];rfl,B.oat.keep fun b hb o h=>F _ _ (B.nb b hb) h,B.ne,B.nb⟩
   generalize upd H1 gr (.lst (nL gs++[.int (gg:Nat)]))=X at F P ⊢
   exact a4 X ⟨gs++[gg],.inr ⟨A,p,gg,rfl,rfl,bb,b5⟩,P,F⟩
  .have a2:ps=[]:=Classical.byContradiction a2
   rw [if_neg (by rw [a2];simp)]
   exact a4 H1 ⟨gs,.inl ⟨a2,rfl⟩,B,.refl⟩
 rintro X ⟨gs',aj,O,FX⟩
 have aw:=FX _ _ aa ht
 have am:=FX _ _ a5 ao
 have be:=O.oat.len
 have a9:=O.xl
 have b9:x≠fs:=fun z=>a9 (by rw [z];exact yAF)
 have bd:x≠od:=fun z=>a9 (by rw [z];exact yAC _ yAF)
 have bi:x≠gr:=fun z=>a9 (by rw [z];exact yAC _ (yAC _ yAF))
 obtain ⟨ai,bc,b0⟩:=O.ne
 refine ZAa ?_
 walk_at "rd"
 refine O.hp.get T.cl_Pile T.n_Pile_firsts (by walk_at "lk") ?_
 walk_at "rd"
 refine ⟨.inl ⟨rfl,_,SqL.of O.hfs⟩,fs,_,_,rfl,rfl,O.hfs,ZBP (by rw [yAD,yAD];omega),?_⟩
 obtain ⟨us,au⟩:∃ us,nL (ps.map Prod.fst)++[.int (r:Nat)]=us:=⟨_,rfl⟩
 rw [au]
 have ah:Ins (upd X fs (.lst us)) x C_Pile (fPl a ls s e r fs od gr):=O.hp.keep (ZAK b9)
 have a8:upd X fs (.lst us) od=some (.lst (oa.map V.ref)):=by rw [ZAK (Ne.symm ai)];exact O.hod
 refine ah.get T.cl_Pile T.n_Pile_orders (by walk_at "lk") ?_
 walk_at "rd"
 refine ⟨.inl ⟨rfl,_,SqL.of a8⟩,ZAk (SqT.of (by rw [ZAK (fun z=>aa (by rw [z];exact yAF))];exact aw)) (ZAY (by decide) rfl) ⟨od,_,_,rfl,rfl,a8,ZBP (by rw [yAD];omega),?_⟩⟩
 have F2:Fr [fs,od,gr] X (upd (upd X fs (.lst us)) od (.lst (oa.map V.ref++[.ref ol]))):=(Fr.upd yAF).trans (Fr.upd (yAC _ yAF))
 have a3:Ins (upd (upd X fs (.lst us)) od (.lst (oa.map V.ref++[.ref ol]))) x C_Pile (fPl a ls s e r fs od gr):=ah.keep (ZAK bd)
 have aq:(upd (upd X fs (.lst us)) od (.lst (oa.map V.ref++[.ref ol]))) fs=some (.lst us):=by rw [ZAK ai,ZAG]
 have av:(upd (upd X fs (.lst us)) od (.lst (oa.map V.ref++[.ref ol]))) od=some (.lst (oa.map V.ref++[.ref ol])):=ZAG
 have ar:(upd (upd X fs (.lst us)) od (.lst (oa.map V.ref++[.ref ol]))) gr=some (.lst (nL gs')):=by rw [ZAK (Ne.symm b0),ZAK (Ne.symm bc)];exact O.hgr
 generalize (upd (upd X fs (.lst us)) od (.lst (oa.map V.ref++[.ref ol])))=Y at F2 a3 aq av ar ⊢
 refine a3.set T.cl_Pile T.n_Pile_reached (fun Z b7 kZ=>?_) ⟨_,by walk_at "lk"⟩
 have U:∀ {b:Addr} {us:List V},Y b=some (.lst us)->Z b=some (.lst us):=fun {b us} h=>by rw [kZ b (a3.ne h fun _ _ _ z=>by cases z)];exact h
 have ag:=F2 _ _ aa aw
 have b3:Z t=some (.tup [.int (j:Nat),.ref ol]):=by rw [kZ t (a3.ne ag fun _ _ _ z=>by cases z)];exact ag
 walk_at "rd"
 refine ZAk (SqT.of b3) (ZAY (by decide) rfl) ⟨ZAe (by decide),fun t2 b2=>?_⟩
 obtain ⟨W,eW,sW,hW⟩:=newH b2 (.tup [.str "lay",.int (r:Nat),.int (j:Nat),.int (v3:Nat)])
 rw [eW];clear eW
 have FY:Fr [fs,od,gr] H1 Y:=FX.trans F2
 have ac:∀ b∈oa++[ol],b∉[fs,od,gr] /\ b∉[a,lg,tl] /\ (b∈oa∨H b=none):=fun b hb=>by
  rcases yAZ.mp hb with z | z
  .exact ⟨pa.nb b z,px.n2 b z,.inl z⟩
  .rw [yAO.mp z];exact ⟨a5,ax,.inr a1⟩
 have ad:OrdAt W (oa++[ol]) (ps++[(r,os)]):=by
  refine OrdAt.app ?_ ⟨sW _ _ (U (F2 _ _ a5 am)),trivial⟩
  refine O.oat.keep fun b hb o h=>sW _ _ ?_
  obtain ⟨i,hi⟩:=yBI hb
  obtain ⟨p',_,ap⟩:=O.oat.get hi
  have e1:o=.lst (nL p'.2):=Option.some.inj (h.symm.trans ap)
  rw [e1]
  exact U (F2 _ _ (O.nb b hb) ap)
 obtain ⟨dx,fl,b6,_,_⟩:=a3.ex
 have b4:SitL C_Asker C_AskedRule Y ks xs a rl ru tl g lg (pr++(asks r (min (j+1) e)++l)):=b1.apart FY B.lsts ⟨px.n3,fun z=>(by
   obtain ⟨w1,w2,w3,w4⟩:=px.n1
   rcases yAE.mp z with z | z
   .exact w2 (by rw [<- z];exact yAC _ yAF)
   rcases yAE.mp z with z | z
   .exact w3 (by rw [<- z];exact yAC _ yAF)
   .exact w4 (by rw [<- yAO.mp z];exact yAC _ yAF)),fun z=>by
   obtain ⟨w1,w2,w3,w4⟩:=px.n1
   rcases yAE.mp z with z | z
   .exact w2 (by rw [<- z];exact yAC _ (yAC _ yAF))
   rcases yAE.mp z with z | z
   .exact w3 (by rw [<- z];exact yAC _ (yAC _ yAF))
   .exact w4 (by rw [<- yAO.mp z];exact yAC _ (yAC _ yAF))⟩
 have ay:=b4.butN b6 px.n1.1 px.nr (H':=Z) fun b o n h=>by rw [kZ b n];exact h
 refine q t2 W j v3 _ (oa++[ol]) (ps++[(r,os)]) gs' f os l ⟨rfl,ab,hb,a7,rfl,an,rfl,rfl,a6,aj⟩ ⟨fun b o n h=>?_,fun b hb=>(ac b hb).2.2,hW,⟨?_,?_,?_,?_,ad,O.ne,fun b hb=>(ac b hb).1⟩,⟨px.n1,fun b hb=>(ac b hb).2.1,px.n3,px.nr⟩,ay.mono sW⟩
 .refine sW _ _ ?_
  rw [kZ b (fun z=>n (by rw [z];exact yAF))]
  refine FY _ _ (fun z=>n (yAC _ (yBU [a,lg,tl] z))) (al _ _ (fun z=>n (yAC _ (yAC _ (yAC _ (yAC _ z))))) h)
 .exact (b7.congr fPl_reached).mono sW
 .refine sW _ _ (U ?_)
  rw [aq,<- au,yAU];unfold nL;rw [yAU];rfl
 .refine sW _ _ (U ?_)
  rw [av,yAU];rfl
 .exact sW _ _ (U ar)
theorem ok_Pile_step {f:Addr} {fd:FuncData} (F:Fun K "step" "Pile.step" ZBE f fd) (T:Bt K mg C_Join C_Pile C_Asker C_AskedRule)
  (J:Mt P w K mg base CX0 C_Pile "is_due_beneath" 1 ["self"] (ZE6 C_Pile))
  (B:Mt P w K mg base CX0 C_Pile "join_two" 7 ["self","lower"] (ZC2 C_Asker C_AskedRule C_Pile))
  (U:Mt P w K mg base CX0 C_Pile "lay" 6 ["self"] (ZE5 C_Asker C_AskedRule C_Pile))
 :FnOk P w K mg base CX0 8 f fd ["self"] (ZDm C_Asker C_AskedRule C_Pile):=by
 refine F.ok sc_Pile_step (fun vs H Q E h=>?_) (fun a9 A outer s H vs Q E hr h=>?_)
 .obtain ⟨ks,xs,a,rl,ru,tl,g,lg,x,fs,od,gr,pr,ls,s,e,r,oa,ps,gs,rfl,st,O,px,pi,a5,hk,a6,a0,q0,q⟩:=h
  rfl
 obtain ⟨ks,xs,a,rl,ru,tl,g,lg,x,fs,od,gr,pr,ls,s,e,r,oa,ps,gs,rfl,st,O,px,pi,a5,hk,a6,a0,q0,q⟩:=h
 refine ⟨_,(ZAB (ZBQ (ZB2 (ZCL J (hr.mono (by decide)) ZAW (pv 0)))
  (ZAI (ZAX (ZBU B (hr.mono (by decide)) ZAW (pv 0) (ZAA (ZAP ZA2 (ZAM ZAJ rfl T.b_len PySem.boot_len (ZAA (ZAQ (pv 0) rfl) ZAE)) ZAF) ZAE)))) ZAh)
  (ZAB (ZBQ (ZAS ZCm (ZAQ (pv 0) rfl) (ZAQ (pv 0) rfl) (ZAV _))
  (ZAI (ZAX (ZCL U (hr.mono (by decide)) ZAW (pv 0)))) ZAh)
  (ZAB (ZBQ (ZAS ZES (ZAM ZAJ rfl T.b_len PySem.boot_len (ZAA (ZAQ (pv 0) rfl) ZAE)) ZAF (ZAV _))
  (ZAI (ZAX (ZBU B (hr.mono (by decide)) ZAW (pv 0) (ZAA (ZAP ZA2 (ZAM ZAJ rfl T.b_len PySem.boot_len (ZAA (ZAQ (pv 0) rfl) ZAE)) ZAF) ZAE)))) ZAh)
  (ZAI (ZAX ZCr))))),?_⟩
 walk_at "rd"
 have a3:=O.oat.len
 have a2:=pi.gl
 have a4:=pi.ch.le
 have aa:=pi.re
 refine O.hp.meth (by walk_at "lk") ⟨x,a,fs,od,gr,ls,s,e,r,oa,ps,gs,rfl,O,_,rfl,?_⟩
 cases hd:dueB gs with
 | true=>
  rw [if_pos rfl]
  have h2:2 <= gs.length:=Nat.lt_of_not_le fun z=>by rw [dueB_few z] at hd;cases hd
  obtain ⟨A',p2,p3,rfl⟩:=ZCu (l:=ps) (by omega)
  rw [yAB] at a2 a3 a4
  have hA:1 <= A'.length:=by have:([p2,p3]:List (Nat×List Nat)).length=2:=rfl;omega
  obtain ⟨A,p1,rfl⟩:∃ A p1,A'=A++[p1]:=⟨A'.dropLast,A'.getLast (List.ne_nil_of_length_pos hA),(List.dropLast_concat_getLast _).symm⟩
  rw [yAK] at O
  have a7:=pi.ch
  rw [yAK] at a7
  obtain ⟨v1,o1⟩:=p1
  obtain ⟨v2,o2⟩:=p2
  rw [yAB,yAS] at a2 a3 a4
  have t2:([(v2,o2),p3]:List (Nat×List Nat)).length=2:=rfl
  refine O.hp.meth (by walk_at "lk") (O.hp.get T.cl_Pile T.n_Pile_orders (by walk_at "lk") ⟨od,_,rfl,.inl (SqL.of O.hod),?_⟩)
  refine ⟨ks,xs,a,rl,ru,tl,g,lg,x,fs,od,gr,pr,ls,s,e,r,oa,A,v1,v2,o1,o2,[p3],gs,?_,st,O,px,a7,by omega,by omega,hk,a0,fun t H' o L Z hJ lf=>?_⟩
  .rw [yAD];congr 3;omega
  .exact q t H' true v1 v2 _ L Z _ _ r (.inl ⟨rfl,rfl,A,o1,o2,o,[p3],⟨yAK ..,rfl,rfl,hJ,rfl,.inl ⟨hd,rfl⟩⟩⟩) lf
 | false=>
  rw [if_neg (by decide)]
  refine O.hp.get T.cl_Pile T.n_Pile_reached (by walk_at "lk") (O.hp.get T.cl_Pile T.n_Pile_end (by walk_at "lk") ⟨_,_,rfl,rfl,_,rfl,?_⟩)
  by_cases hlt:r < e
  .rw [if_pos (decide_eq_true (by omega))]
   refine O.hp.meth (by walk_at "lk") ⟨ks,xs,a,rl,ru,tl,g,lg,x,fs,od,gr,pr,ls,s,e,r,oa,ps,gs,rfl,st,O,px,pi,hd,hlt,a5,hk,a6,a0,fun t H' v2 v3 L Z a8 gs' f os l sl lf=>?_⟩
   exact q t H' false r v2 v3 L Z a8 gs' v3 (.inr ⟨rfl,f,os,l,sl⟩) lf
  .rw [if_neg (by simp;omega)]
   have a1:r=e:=by omega
   refine O.hp.get T.cl_Pile T.n_Pile_orders (by walk_at "lk") ⟨od,_,rfl,.inl (SqL.of O.hod),?_⟩
   rw [yAD]
   by_cases h2:2 <= ps.length
   .rw [if_pos (by omega)]
    obtain ⟨A,p1,p2,rfl⟩:=ZCu (l:=ps) h2
    obtain ⟨v1,o1⟩:=p1
    obtain ⟨v2,o2⟩:=p2
    rw [yAB] at a2 a3 a4
    have t2:([(v1,o1),(v2,o2)]:List (Nat×List Nat)).length=2:=rfl
    refine O.hp.meth (by walk_at "lk") (O.hp.get T.cl_Pile T.n_Pile_orders (by walk_at "lk") ⟨od,_,rfl,.inl (SqL.of O.hod),?_⟩)
    refine ⟨ks,xs,a,rl,ru,tl,g,lg,x,fs,od,gr,pr,ls,s,e,r,oa,A,v1,v2,o1,o2,[],gs,?_,st,O,px,pi.ch,by omega,by omega,hk,a0,fun t H' o L Z hJ lf=>?_⟩
    .rw [yAD];congr 3;omega
    .exact q t H' true v1 v2 _ L Z _ _ r (.inl ⟨rfl,rfl,A,o1,o2,o,[],⟨rfl,rfl,rfl,hJ,rfl,.inr ⟨hd,a1,rfl⟩⟩⟩) lf
   .rw [if_neg (by omega)]
    exact q0 hd a1 (by omega)
theorem ok_Pile_paper {f:Addr} {fd:FuncData} (F:Fun K "paper" "Pile.paper" ZA7 f fd) (T:Bt K mg C_Join C_Pile C_Asker C_AskedRule)
 :FnOk P w K mg base CX0 1 f fd ["self"] (ZD0 C_Pile):=by
 refine F.ok sc_Pile_paper (fun vs H Q E h=>?_) (fun a6 A outer s H vs Q E hr h=>?_)
 .obtain ⟨x,a,fs,od,gr,ls,s,e,r,oa,ps,gs,rfl,J,U,a4,he,q⟩:=h
  rfl
 obtain ⟨x,a,fs,od,gr,ls,s,e,r,oa,ps,gs,rfl,J,U,a4,he,q⟩:=h
 refine ⟨_,(ZAB (ZAL (i:=1) sc_Pile_paper.nd rfl (by walk_at "o") (ZBC ZAE))
  (ZAB (ZDr PassesOwn.never rfl (ZCl (ZAQ (pv 0) rfl)) (ZBI (i:=2) sc_Pile_paper.nd rfl (by walk_at "o"))
  (ZAI (ZAn (ZCQ PySem.F.plainAttrs_list PySem.F.slot_list_extend PySem.F.type_list_extend mt_extend (pv 1) (ZAA (pv 2) ZAE)))))
  (ZAI (ZAX (ZAP ZEg (pv 1) (ZBS (call_list_rng rfl) rfl T.b_list PyProof.Rows.boot_list (ZAA (ZBS call_rng2 rfl T.b_range PyProof.Rows.boot_range (ZAA (ZAQ (pv 0) rfl) (ZAA (ZAQ (pv 0) rfl) ZAE))) ZAE))))))),?_⟩
 walk_at "rd"
 refine ⟨yAG _,fun p hp=>?_⟩
 obtain ⟨H1,O,s1,h1⟩:=newH hp (.lst [])
 rw [O];clear O
 have a0:=J.mono s1
 have a2:=J.oat.len
 refine a0.hp.get T.cl_Pile T.n_Pile_orders (by walk_at "lk") ?_
 refine forL_of (SqL.of a0.hod) (fun i σ X=>∃ v2,σ=[some (.ref x),some (.ref p),v2] /\ Same H X /\ X p=some (.lst (nL (flt (ps.take i))))) ⟨_,rfl,s1,h1⟩ (fun i σ X _ ⟨_,_,B,_⟩=>SqL.of (B _ _ J.hod)) ?_ ?_
 .rintro i y σ X hy ⟨v2,rfl,B,hX⟩
  obtain ⟨b,hb,rfl⟩:∃ b,oa[i]?=some b /\ y=.ref b:=by
   rw [yAT] at hy
   cases hz:oa[i]? with
   | none=>rw [hz] at hy;cases hy
   | some b=>rw [hz] at hy;exact ⟨b,rfl,(Option.some.inj hy).symm⟩
  obtain ⟨p1,g1,g2⟩:=J.oat.get hb
  have O:flt (ps.take (i+1))=flt (ps.take i)++p1.2:=by
   rw [List.take_add_one,g1,flt_app]
   congr 1
   unfold flt
   simp
  have a5:(flt (ps.take i)).length+p1.2.length <= 63:=by
   have e2:flt ps=flt (ps.take (i+1))++flt (ps.drop (i+1)):=by rw [<- flt_app,yBO]
   rw [e2,O,yAB,yAB] at U
   omega
  walk_at "rd"
  refine ⟨.inl ⟨rfl,_,SqL.of hX⟩,p,b,_,_,rfl,rfl,hX,B _ _ g2,ZAe (by rw [yAD,yAD];omega),?_⟩
  refine ⟨_,rfl,B.upd hp,?_⟩
  rw [ZAG,O]
  unfold nL
  rw [yAU]
 rintro σ X ⟨v2,rfl,B,hX⟩
 rw [yAD,a2,List.take_length] at hX
 walk_at "rd"
 have Z:=J.mono B
 refine Z.hp.get T.cl_Pile T.n_Pile_reached (by walk_at "lk") (Z.hp.get T.cl_Pile T.n_Pile_end (by walk_at "lk") ⟨_,_,rfl,fun p2 a1=>?_⟩)
 obtain ⟨H3,e3,s3,h3⟩:=newH a1 (.rng r e)
 rw [e3];clear e3
 refine ⟨p2,r,e,rfl,h3,by omega,fun l2 a3=>?_⟩
 rw [rints_nat]
 obtain ⟨H4,e4,s4,h4⟩:=newH a3 (.lst (nL (List.range' r (e-r))))
 rw [e4];clear e4
 refine ⟨p,l2,_,_,rfl,rfl,s4 _ _ (s3 _ _ hX),h4,ZAe (by rw [yAD,yAD,yCP];omega),fun l hl=>?_⟩
 refine q l _ (B.trans (s3.trans (s4.new hl))) ((B.trans (s3.trans s4)).free hl) ?_
 rw [ZAG]
 unfold nL
 rw [yAU]
theorem ok_most {f:Addr} {fd:FuncData} (F:Fun K "_law_most" "_law_most" ZDJ f fd) (T:Bt K mg C_Join C_Pile C_Asker C_AskedRule)
 :FnOk P w K mg base CX0 1 f fd ["_law_step","_law_many"] (ZDS):=by
 refine F.ok sc_most (fun vs H Q E h=>?_) (fun a0 A outer s H vs Q E hr h=>?_)
 .obtain ⟨x,k,v1,v2,v3,n,rfl,J,h1,h2,h3,hn,q⟩:=h
  rfl
 obtain ⟨x,k,v1,v2,v3,n,rfl,J,h1,h2,h3,hn,q⟩:=h
 refine ⟨_,(ZAB (ZBQ (ZAS ZB5 (ZAb ZAp (pv 0) ZAF (fun _ _=>rfl)) ZEI (ZAV _))
  (ZAB (ZAL (i:=2) sc_most.nd rfl (by walk_at "o") (ZAP ZA2 (ZAb ZAp (pv 0) ZAF (fun _ _=>rfl)) (ZAb ZAp (pv 0) ZAF (fun _ _=>rfl))))
  (ZAI (ZAX (ZAP ZAf (ZAP ZA2 (pv 2) ZAF) (ZAP ZBs (pv 2) ZAF))))) ZAh)
  (ZAB (ZAL (i:=3) sc_most.nd rfl (by walk_at "o") (ZAP ZA2 (ZAP ZA2 (ZAb ZAp (pv 0) ZAF (fun _ _=>rfl)) (ZAb ZAp (pv 0) ZAF (fun _ _=>rfl))) ZAF))
  (ZAB (ZBQ (ZAS ZCm (ZAb ZAp (pv 0) ZAF (fun _ _=>rfl)) (pv 1) (ZAV _))
  (ZAI (ZAL (i:=3) sc_most.nd rfl (by walk_at "o") (ZAP ZAf (pv 3) ZAF))) ZAh)
  (ZAB (ZDr PassesOwn.never rfl (pi_range2 rfl T.b_range (ZAA (ZAP ZA2 (ZAb ZAp (pv 0) ZAF (fun _ _=>rfl)) (ZAb ZAp (pv 0) ZAF (fun _ _=>rfl))) (ZAA (ZAP ZA2 (ZAb ZAp (pv 0) ZAF (fun _ _=>rfl)) (ZAb ZAp (pv 0) ZAF (fun _ _=>rfl))) ZAE))) (ZBI (i:=2) sc_most.nd rfl (by walk_at "o"))
  (ZAI (ZAL (i:=3) sc_most.nd rfl (by walk_at "o") (ZAP ZAf (pv 3) (ZEe PySem.F.plainAttrs_int PySem.F.slot_int_bit_length PySem.F.type_int_bit_length mt_bitlen (pv 2))))))
  (ZAI (ZAX (pv 3))))))),?_⟩
 walk_at "rd"
 refine ZAk (SqT.of J) (ZAY (by decide) rfl) ?_
 cases k with
 | true=>
  refine ⟨rfl,_,rfl,?_⟩
  rw [if_pos (by simp [kS])]
  refine ZAk (SqT.of J) (ZAY (by decide) rfl) (ZAk (SqT.of J) (ZAY (by decide) rfl) ⟨_,_,rfl,rfl,?_⟩)
  walk_at "rd"
  refine ⟨⟨by decide,by decide⟩,?_⟩
  have e:(v3:Int)-v1-1+((v3:Int)-v1) / 7=((mo56 true v1 v2 v3 n:Nat):Int):=by unfold mo56;rw [if_pos rfl];omega
  rw [e]
  exact q
 | false=>
  refine ⟨rfl,_,rfl,?_⟩
  rw [if_neg (by unfold kS;simp;decide)]
  refine ZAk (SqT.of J) (ZAY (by decide) rfl) (ZAk (SqT.of J) (ZAY (by decide) rfl) ⟨_,_,rfl,rfl,?_⟩)
  walk_at "rd"
  refine ZAk (SqT.of J) (ZAY (by decide) rfl) ⟨_,_,rfl,rfl,_,rfl,?_⟩
  apply ZDG (fun (m:Int)=>m=((v2-v1-1+(if v2 < n then 1 else 0):Nat):Int))
  .intro B
   by_cases hv:v2 < n
   .rw [if_pos (by simp;omega)]
    obtain ⟨m,Z⟩:∃ m:Int,m=(v2:Int)-v1-1+1:=⟨_,rfl⟩
    rw [<- Z]
    exact B m (by rw [Z,if_pos hv];omega)
   .rw [if_neg (by simp;omega)]
    exact B _ (by rw [if_neg hv];omega)
  rintro m rfl
  refine ZAk (SqT.of J) (ZAY (by decide) rfl) (ZAk (SqT.of J) (ZAY (by decide) rfl) ⟨_,_,rfl,rfl,?_⟩)
  refine ZAk (SqT.of J) (ZAY (by decide) rfl) (ZAk (SqT.of J) (ZAY (by decide) rfl) ⟨_,_,rfl,rfl,?_⟩)
  obtain ⟨m0,U⟩:∃ m0,v2-v1-1+(if v2 < n then 1 else 0)=m0:=⟨_,rfl⟩
  rw [U]
  refine forR2_of (by omega) (ZED (fun i σ X=>∃ O,σ=[some (.ref x),some (.int n),O,some (.int (m0+bsum (v2-v1) i:Nat))] /\ X=H) ⟨_,rfl,rfl⟩ ?_ ?_)
  .rintro i σ X hi ⟨O,rfl,rfl⟩
   walk_at "rd"
   refine ⟨rfl,_,rfl,rfl,_,_,rfl,rfl,some (.int ((v2:Int)-v1+i)),?_,rfl⟩
   dsimp only
   rw [show (v2:Int)-v1+i=((v2-v1+i:Nat):Int) by omega,intBits_n,bsum_snoc]
   rw [show ((m0+bsum (v2-v1) i:Nat):Int)+(ZBa (v2-v1+i):Nat)=((m0+(bsum (v2-v1) i+ZBa (v2-v1+i)):Nat):Int) by omega]
  .rintro σ X ⟨O,rfl,rfl⟩
   walk_at "rd"
   rw [show ((v3:Int)-v1-((v2:Int)-v1)).toNat=v3-v2 by omega]
   have e:mo56 false v1 v2 v3 n=m0+bsum (v2-v1) (v3-v2):=by rw [<- U];rfl
   rw [<- e]
   exact q
theorem ok_sum {f:Addr} {fd:FuncData} (F:Fun K "_law_sum" "_law_sum" ZER f fd) (T:Bt K mg C_Join C_Pile C_Asker C_AskedRule)
 :FnOk P w K mg base CX0 1 f fd ["_law_lays","_law_many"] (ZDy):=by
 refine F.ok sc_sum (fun vs H Q E h=>?_) (fun a5 A outer s H vs Q E hr h=>?_)
 .obtain ⟨x,n,ls,ts,rfl,hx,Z,lc,hn,q0,q⟩:=h
  rfl
 obtain ⟨x,n,ls,ts,rfl,hx,Z,lc,hn,q0,q⟩:=h
 refine ⟨_,(ZAB (ZBQ (ZAS ZCm (ZAM ZAJ rfl T.b_len PySem.boot_len (ZAA (pv 0) ZAE)) ZAF (ZAV _))
  (ZAI (ZAX ZAF)) ZAh)
  (ZAB (ZAL (i:=2) sc_sum.nd rfl (by walk_at "o") ZAF)
  (ZAB (ZDr PassesOwn.never rfl (ZCl (pv 0)) (pg_tup (n:=2) rfl (ZCw (ZBI (i:=3) sc_sum.nd rfl (by walk_at "o")) (ZCw (ZBI (i:=4) sc_sum.nd rfl (by walk_at "o")) pgs_nil)))
  (ZAB (ZAL (i:=5) sc_sum.nd rfl (by walk_at "o") ZAF)
  (ZAB (ZAL (i:=6) sc_sum.nd rfl (by walk_at "o") ZAF)
  (ZAB (ZBN PassesOwn.never (ZAS ZCm (ZAP ZBd (pv 6) (ZAP ZAf (ZAP ZA2 (pv 4) (pv 3)) ZAF)) (ZAP ZBd ZAF (pv 1)) (ZAV _))
  (ZAB (ZAL (i:=6) sc_sum.nd rfl (by walk_at "o") (ZAP ZBd ZAF (pv 6)))
  (ZAI (ZAL (i:=5) sc_sum.nd rfl (by walk_at "o") (ZAP ZAf (pv 5) ZAF)))))
  (ZAI (ZAL (i:=2) sc_sum.nd rfl (by walk_at "o") (ZAP ZAf (pv 2) (ZAP ZBd (ZAP ZA2 (pv 4) (pv 3)) (pv 5)))))))))
  (ZAI (ZAX (pv 2)))))),?_⟩
 walk_at "rd"
 refine ⟨x,_,rfl,.inl (SqL.of hx),?_⟩
 have hl:=lc.le
 rw [Z.len]
 by_cases h2:ls.length < 2
 .rw [if_pos (by omega)]
  exact q0 h2
 rw [if_neg (by omega)]
 refine forL_of (SqL.of hx) (fun i σ X=>∃ hs v3 v4 v5 v6,σ=[some (.ref x),some (.int n),some (.int (wsum (ls.take i) hs:Nat)),v3,v4,v5,v6] /\ X=H /\ hs.length=i /\ ∀ k a b,k < i->ls[k]?=some (a,b)->1 <= hs.getD k 0 /\ 2 * n <= (b-a+1) * 2 ^ hs.getD k 0) ⟨[],_,_,_,_,rfl,rfl,rfl,fun k a b O=>absurd O (by omega)⟩ (fun i σ X _ ⟨_,_,_,_,_,_,e1,_⟩=>by rw [e1];exact SqL.of hx) ?_ ?_
 .rintro i y σ X hy ⟨hs,v3,v4,v5,v6,rfl,rfl,J,B⟩
  have hi:i < ls.length:=by have:=(yAI.mp hy).1;rw [Z.len] at this;exact this
  obtain ⟨⟨a,b⟩,O⟩:∃ c,ls[i]?=some c:=⟨_,yAJ hi⟩
  obtain ⟨t,a1,b1⟩:=Z.get i a b O
  rw [hy] at a1
  cases a1
  have hq:=lc.get O
  walk_at "rd"
  refine gTup_of (SqT.of b1) rfl ?_
  walk_at "rd"
  refine ZBL (fun m σ X'=>∃ p:Nat,m=10-p /\ X'=X /\ σ=[some (.ref x),some (.int n),some (.int (wsum (ls.take i) hs:Nat)),some (.int a),some (.int b),some (.int p),some (.int (2 ^ p))] /\ 1 <= p /\ p <= 9) ⟨_,1,rfl,rfl,rfl,yAA _,by decide⟩ ?_
  rintro m σ X' ⟨p,rfl,rfl,rfl,a2,a3⟩
  have a4:(2:Int) ^ p <= 512:=by
   have:(2:Nat) ^ p <= 2 ^ 9:=Nat.pow_le_pow_right (by decide) a3
   have h2:((2 ^ p:Nat):Int)=2 ^ p:=by simp
   omega
  have a8:=Gr.p2pos p
  walk_at "rd"
  refine ⟨.inl ⟨by omega,by omega⟩,.inl ⟨by decide,by decide⟩,?_⟩
  have a0:((2 ^ p:Nat):Int)=2 ^ p:=by simp
  by_cases hlt:(2:Int) ^ p * ((b:Int)-a+1) < 2 * n
  .rw [if_pos hlt]
   refine ZBM ?_
   walk_at "rd"
   have a6:p <= 8:=by
    refine Nat.le_of_not_lt fun z=>?_
    have:(2:Nat) ^ 9 <= 2 ^ p:=Nat.pow_le_pow_right (by decide) (by omega)
    have h3:(2:Int) ^ p * 1 <= 2 ^ p * ((b:Int)-a+1):=Int.mul_le_mul_of_nonneg_left (by omega) (by omega)
    omega
   refine ⟨.inl ⟨by decide,by decide⟩,10-(p+1),by omega,p+1,rfl,?_,by omega,by omega⟩
   rw [show (2:Int) * 2 ^ p=2 ^ (p+1) by rw [Int.pow_succ,Int.mul_comm]]
   rfl
  .rw [if_neg hlt]
   walk_at "rd"
   refine ⟨.inl ⟨by omega,by omega⟩,hs++[p],some (.int a),some (.int b),some (.int p),some (.int (2 ^ p)),?_,by rw [yAB,yAS,J],fun k a' b' a7 U=>?_⟩
   .rw [List.take_add_one,O]
    rw [show (ls.take i++(some (a,b)).toList)=ls.take i++[(a,b)] from rfl,wsum_snoc (by rw [yAP,J];omega)]
    have e:(wsum (ls.take i) hs:Int)+((b:Int)-a) * (p:Int)=((wsum (ls.take i) hs+(b-a) * p:Nat):Int):=by rw [Int.natCast_add,Int.natCast_mul,show ((b-a:Nat):Int)=(b:Int)-a by omega]
    rw [e]
   .rcases yBT k i with z | z
    .rw [yBH,yAY (by omega),<- yBH]
     exact B k a' b' z U
    .obtain rfl:k=i:=by omega
     rw [O] at U
     cases U
     rw [yBH,<- J,ZA6]
     refine ⟨a2,?_⟩
     have e:((((b-a+1) * 2 ^ p:Nat)):Int)=2 ^ p * ((b:Int)-a+1):=by rw [Int.natCast_mul,a0,Int.mul_comm,show ((b-a+1:Nat):Int)=(b:Int)-a+1 by omega]
     show 2 * n <= (b-a+1) * 2 ^ p
     omega
 rintro σ X ⟨hs,v3,v4,v5,v6,rfl,rfl,J,B⟩
 walk_at "rd"
 rw [Z.len,List.take_length] at *
 refine q hs (by omega) fun k a b O=>B k a b ?_ O
 exact (yAI.mp O).1
theorem ok_by_pile {f:Addr} {fd:FuncData} {dv:List Value} (F:FunD K "by_pile" "by_pile" ZBn f fd dv) (T:Bt K mg C_Join C_Pile C_Asker C_AskedRule)
  (B:Mt P w K mg base CX0 C_Pile "paper" 1 ["self"] (ZD0 C_Pile))
  (J:Mt P w K mg base CX0 C_Pile "step" 8 ["self"] (ZDm C_Asker C_AskedRule C_Pile))
  (U:Kl P w K mg base CX0 "Pile" C_Pile 2 ["self","asker","least","part"] (ZBi C_Asker C_Pile))
 :FnOk P w K mg base CX0 9 f fd ["asker","least","part"] (ZDZ C_Asker C_AskedRule):=by
 refine F.ok sc_by_pile (fun vs H Q E h=>?_) (fun ao A outer s H vs Q E hr h=>?_)
 .obtain ⟨ks,xs,a,rl,ru,tl,g,lg,ls,s,e,pz,rfl,st,a8,ac,a6,ad,a7,q⟩:=h
  rfl
 obtain ⟨ks,xs,a,rl,ru,tl,g,lg,ls,s,e,pz,rfl,st,a8,ac,a6,ad,a7,q⟩:=h
 refine ⟨_,(ZAB (ZAL (i:=3) sc_by_pile.nd rfl (by walk_at "o") (ZEu U (hr.mono (by decide)) rfl ZAW (ZAA (pv 0) (ZAA (pv 1) (ZAA (pv 2) ZAE)))))
  (ZAB (ZBN PassesOwn.never (ZAS ZD5 (ZCL J (hr.mono (by decide)) ZAW (pv 3)) ZCr (ZAV _))
  (ZAI (ps_pass)))
  (ZAI (ZAX (ZCL B (hr.mono (by decide)) ZAW (pv 3)))))),?_⟩
 walk_at "rd"
 intro x dx hx ae al
 have an:upd H dx (.own x) x=none:=by rw [ZAK (Ne.symm al)];exact hx
 have O:Same H (upd (upd H dx (.own x)) x (.ins C_Pile dx [])):=(ZAT ae _).trans (ZAT an _)
 have hB:(upd (upd H dx (.own x)) x (.ins C_Pile dx [])) x=some (.ins C_Pile dx []):=ZAG
 generalize upd (upd H dx (.own x)) x (.ins C_Pile dx [])=HB at O hB ⊢
 obtain ⟨d0,ap,ag,_,_⟩:=st.ha.ex
 refine ⟨x,dx,a,ls,s,e,pz,rfl,hB,a8.imp (fun ⟨pt,a1,a2⟩=>⟨pt,a1,O _ _ a2⟩) (fun ⟨a1,a2,a3⟩=>⟨a1,a2,ZAD ag hx,rl,ru,.non,_,tl,xs.v,st.ha.mono O,O _ _ st.hrl,by rw [a3];exact st.len⟩),fun fs od gr HC kC a5 a0 a4 aj=>⟨rfl,?_⟩⟩
 have kA:Same H HC:=fun b o h=>kC b o (ZAD h hx) (O _ _ h)
 have px:PXl a rl ru lg tl x fs od gr []:=⟨⟨st.newS hx,st.newS (O.free a5),st.newS (O.free a0),st.newS (O.free a4)⟩,fun b hb=>(by cases hb),fun z=>by
  rcases yAE.mp z with z | z
  .exact ZAD st.hrl (O.free a5) z
  rcases yAE.mp z with z | z
  .exact ZAD st.hrl (O.free a0) z
  .exact ZAD st.hrl (O.free a4) (yAO.mp z),by
  obtain ⟨d1,f1,e1,_⟩:=st.hru.ex
  exact ZAD e1 hx⟩
 have ab:PInv ks s e s [] []:=⟨rfl,ac,rfl,fun g hg=>by cases hg⟩
 walk_at "rd"
 refine ZBL (fun n σ X=>∃ L ps gs r oa,n=2 * (e-r)+ps.length /\ σ=[some (.ref a),some (.int ls),some pz,some (.ref x)] /\ Rn ks ls s e [] [] s L ps gs r /\ PileAt C_Pile X x a fs od gr ls s e r oa ps gs /\ PXl a rl ru lg tl x fs od gr oa /\ SitL C_Asker C_AskedRule X ks xs a rl ru tl g lg L /\ Fr [x,fs,od,gr,a,lg,tl] HC X) ⟨_,[],[],[],s,[],rfl,rfl,.nil,aj,px,st.mono kA,.refl⟩ ?_
 rintro n σ X ⟨L,ps,gs,r,oa,rfl,rfl,hR,pa,ai,aa,fX⟩
 have pi:=hR.inv ab
 have hc:=hR.cost ab (by omega)
 have af:=pi.re
 have aq:=pi.ch.le
 walk_at "rd"
 have fin:∀ {Z:Hp},Same X Z->Fr [a,lg,tl] H Z:=fun {Z} sZ b o n h=>sZ _ _ (fX _ _ (ZEb (ZAD h hx) (ZAD h (O.free a5)) (ZAD h (O.free a0)) (ZAD h (O.free a4)) n) (kA _ _ h))
 refine pa.hp.meth (by walk_at "lk") ⟨ks,xs,a,rl,ru,tl,g,lg,x,fs,od,gr,L,ls,s,e,r,oa,ps,gs,rfl,aa,pa,ai,pi,a6,ad,a7,by simp at hc;omega,fun z1 z2 z3=>?_,fun t Y k v1 v2 v3 L' ah am gs' r' a9 lf=>?_⟩
 .refine pa.hp.meth (by walk_at "lk") ⟨x,a,fs,od,gr,ls,s,e,r,oa,ps,gs,rfl,pa,by rw [pi.ch.flen];omega,af,by omega,fun l Z sZ ar hl=>?_⟩
  refine q l Z L ps gs r (fin sZ) ?_ hR ⟨z1,z2,z3⟩ (aa.mono sZ)
  rw [hl,z2,yBF]
  show some (HO.lst (nL (flt ps++[])))=_
  rw [yBC]
 .refine ZBM ?_
  walk_at "rd"
  obtain ⟨f1,f2,f3,f4,f5,f6⟩:=lf
  exact ⟨_,a9.less,L++L',am,gs',r',ah,rfl,.snoc hR a9,f4,f5,f6,fX.trans f1⟩
theorem ok_straight {f:Addr} {fd:FuncData} (F:Fun K "_law_straight" "_law_straight" ZBX f fd) (T:Bt K mg C_Join C_Pile C_Asker C_AskedRule)
  (U:FnD P w K mg base CX0 "by_pile" 9 ["asker","least","part"] (ZDZ C_Asker C_AskedRule) [.int 1,.non])
  (a4:Fn P w K mg base CX0 "_law_teller" 1 ["_law_written"] (ZDo Pt_teller (ZBD ZAH) "_law_ask" "_law_teller.<locals>._law_ask" (ZAO ZAH) (ZAN ZAH) (ZAC ZAH) ["_law_written"] [0] 1))
  (Z:KlD P w K mg base CX0 "Asker" C_Asker 1 ["self","row","rule","most"] (ZBq C_Asker) [.non])
  (J:Kl P w K mg base CX0 "AskedRule" C_AskedRule 1 ["self","teller"] (ZCA C_AskedRule))
 :FnOk P w K mg base CX0 10 f fd ["_law_keys"] (ZB0 Pt_teller):=by
 refine F.ok sc_straight (fun vs H Q E h=>?_) (fun bg A outer s H vs Q E hr h=>?_)
 .obtain ⟨kl,ks,rfl,ag,an,hk,hd,q⟩:=h
  rfl
 obtain ⟨kl,ks,rfl,ag,an,hk,hd,q⟩:=h
 refine ⟨_,(ZAB (ps_setComp (i:=1) sc_straight.nd rfl (Or.inl rfl) rfl (k:=1) (js:=[0]) (N':=["_law_k","_law_keys"]) (by rfl) (ZC5 rfl T.b_range (ZAA (ZAM ZAJ rfl T.b_len PySem.boot_len (ZAA (pv 0) ZAE)) ZAE)) (fun _ _ _ _=>ZBI (i:=0) (show (["_law_k","_law_keys"]:List Str).Nodup by decide +kernel) rfl (by walk_at "o")) (fun _ _ _ _=>ZCZ) (fun _ _ _ _=>(ZB4 (ZAA (ZAb (ix_listK K) (pv 1) (pv 0) (fun _ _=>rfl)) (ZAA (pv 0) ZAE)))))
  (ZAU
  (ZAB (ZAL (i:=2) sc_straight.nd rfl (by walk_at "o") (ZBC ZAE))
  (ZAU
  (ZAB (ZAL (i:=3) sc_straight.nd rfl (by walk_at "o") (pe_fnD U (hr.mono (by decide)) rfl ZAW (ZAA (ZEd Z (hr.mono (by decide)) rfl ZAW (ZAA (pv 1) (ZAA (ZEu J (hr.mono (by decide)) rfl ZAW (ZAA (ZBR a4 (hr.mono (by decide)) rfl ZAW (ZAA (pv 2) ZAE)) ZAE)) ZAE))) ZAE)))
  (ZAU
  (ZAI (ZAX (pe_and (ZCP ZB5 (ZAM ZAJ rfl T.b_len PySem.boot_len (ZAA (pv 3) ZAE)) (ZAM ZAJ rfl T.b_len PySem.boot_len (ZAA (pv 1) ZAE)) (ZAV _)) (pe_one (ZCP ZB5 (ZAM ZAJ rfl T.b_len PySem.boot_len (ZAA (pv 2) ZAE)) (ZAM (call_max2 rfl) rfl T.b_max PyProof.Rows.boot_max (ZAA (ZAP ZA2 (ZAM ZAJ rfl T.b_len PySem.boot_len (ZAA (pv 1) ZAE)) ZAF) (ZAA ZAF ZAE))) (ZAV _)))))))))))),?_⟩
 walk_at "rd"
 refine ⟨kl,_,rfl,.inl (SqL.of an),?_⟩
 rw [yAD]
 refine compR1_of (by omega) (fun i ys σ H'=>∃ v,σ=[v,some (.ref kl)] /\ Same H H' /\ ys.length=i /\ ∀ (j:Nat) k,j < i->ks[j]?=some k->∃ r,ys[j]?=some (V.ref r) /\ H' r=some (.tup [.int k,.int j])) ⟨_,rfl,.refl _,rfl,fun _ _ h=>by omega⟩ (fun i ys σ H' ⟨_,_,_,l,_⟩=>Nat.le_of_eq l) ?_ ?_
 .rintro i ys σ H' hi ⟨v,rfl,s5,hl,ao⟩
  have az:i < ks.length:=by omega
  walk_at "rd"
  rw [show (0+(i:Int))=i by omega]
  refine ZAy (SqL.of (s5 _ _ an)) (ZDj (v:=ks[i]) (by omega) (by rw [Int.toNat_natCast];exact yAJ az)) ⟨ZAe (by decide),fun t ht=>?_⟩
  refine Nxt.of hi ⟨_,rfl,s5.new ht,by rw [yAB,hl];rfl,fun j k' hj am=>?_⟩
  by_cases z:j < i
  .obtain ⟨r,a1,a2⟩:=ao j k' z am
   exact ⟨r,by rw [yAY (by omega)];exact a1,ZAT ht _ _ _ a2⟩
  .have:j=i:=by omega
   subst this
   rw [yAJ az] at am;cases am
   exact ⟨t,by rw [<- hl,yBE (yAA _),yBF];rfl,ZAG⟩
 rintro xs σ H5 ⟨v,rfl,s5,be,ao⟩ rw b9
 obtain ⟨H6,e6,s6,ae⟩:=newH b9 (.lst xs)
 rw [e6];clear e6
 have au:Things H6 ks xs:=⟨by omega,fun i k hk=>by
  have hi:=(yAI.mp hk).1
  obtain ⟨r,a1,a2⟩:=ao i k (by omega) hk
  exact ⟨r,a1,s6 _ _ a2⟩⟩
 refine ZAa ?_
 walk_at "rd"
 refine ⟨yAG _,fun lg hlg=>?_⟩
 obtain ⟨H0,e0,s0,a7⟩:=newH hlg (.lst [])
 rw [e0];clear e0
 have S0:Same H H0:=s5.trans (s6.trans s0)
 have av:TabSt H0 Pt_teller (ZBD ZAH) "_law_teller.<locals>._law_ask":=by
  rcases ag with h | ⟨c',h,hc⟩
  .exact .inl (S0 _ _ h)
  .exact .inr ⟨c',S0 _ _ h,hc.mono fun b o hb=>S0 _ _ hb⟩
 have a5:=s0 _ _ ae
 have a3:Things H0 ks xs:=au.mono fun b o h _ _=>s0 _ _ h
 have al:rw≠lg:=ZAD ae hlg
 refine ZAa ?_
 walk_at "rd"
 obtain ⟨bh,a8⟩:∃ t,H0 Pt_teller=some (.tbl t):=by
  rcases av with h | ⟨c',h,_⟩ <;> exact ⟨_,h⟩
 refine ⟨rfl,av,fun g H5 md=>?_⟩
 have nP:∀ b o,H0 b=some o->(∀ t,o≠.tbl t)->b≠Pt_teller:=fun b o h n z=>by rw [z,a8] at h;exact n _ (Option.some.inj h).symm
 intro ru dr hru aq b6
 have ah:upd H5 dr (.own ru) ru=none:=by rw [ZAK (Ne.symm b6)];exact hru
 have s6:Same H5 (upd (upd H5 dr (.own ru)) ru (.ins C_AskedRule dr [])):=(ZAT aq _).trans (ZAT ah _)
 refine ⟨ru,dr,g,rfl,ZAG,fun H7 k7 ir=>⟨rfl,?_⟩⟩
 have O:∀ b o,H5 b=some o->H7 b=some o:=fun b o h=>k7 b o (ZAD h hru) (s6 _ _ h)
 intro ak da a9 b0 b8
 have ai:upd H7 da (.own ak) ak=none:=by rw [ZAK (Ne.symm b8)];exact a9
 have s8:Same H7 (upd (upd H7 da (.own ak)) ak (.ins C_Asker da [])):=(ZAT b0 _).trans (ZAT ai _)
 have ac:∃ t,H5 Pt_teller=some (.tbl t):=by
  rcases md.tab with h | ⟨c',h,_⟩
  .exact ⟨_,h⟩
  .exact ⟨_,h⟩
 have u7:∀ b o,H0 b=some o->(∀ t,o≠.tbl t)->H7 b=some o:=fun b o h n=>O _ _ (md.same b o (nP b o h n) h)
 have a6:=u7 rw _ a5 fun _ z=>by cases z
 refine ⟨ak,da,rw,ru,.non,xs,rfl,ZAG,s8 _ _ a6,fun rl tl HA k9 ab aj ba ia hrl htl=>⟨rfl,?_⟩⟩
 have u9:∀ b o,H7 b=some o->HA b=some o:=fun b o h=>k9 b o (ZAD h a9) (s8 _ _ h)
 have a0:=u7 lg _ a7 fun _ z=>by cases z
 have ad:upd (upd H7 da (.own ak)) ak (.ins C_Asker da []) ak=some (.ins C_Asker da []):=ZAG
 obtain ⟨bd,bb,er,_,_⟩:=ir.ex
 have B:ru≠ak:=ZAD er a9
 have b2:rl≠rw:=fun z=>by rw [z,s8 _ _ a6] at ab;cases ab
 have st:SitL C_Asker C_AskedRule HA ks ⟨xs,0⟩ ak rl ru tl g lg []:={
  ha:=ia
  hrl:=hrl
  hru:=ZDA (S:=[ak]) (fun b o n h=>k9 b o (fun z=>n (by rw [z];exact yAF)) (s8 _ _ h)) (fun z=>B (yAO.mp z)) ir
  clo:=md.clo.mono fun b o h=>u9 _ _ (O _ _ h)
  len:=a3.1
  row:=fun i k hk=>by
   obtain ⟨r,a1,a2⟩:=a3.2 i k hk
   exact ⟨r,a1,u9 _ _ (u7 _ _ a2 fun _ z=>by cases z)⟩
  hlg:=⟨[],u9 _ _ a0,yAG _,rfl,fun j p q h=>by simp at h⟩
  htl:=⟨[],htl,rfl,fun j p q h=>by simp at h⟩
  ne:=⟨ZAD (s8 _ _ a0) aj,ZDc (Ne.symm (ZAD ad ab)) (Ne.symm (ZAD (s8 _ _ a0) ab)) ba,B⟩ }
 have ar:∀ b o,b≠Pt_teller->H0 b=some o->HA b=some o /\ (b≠lg->b∉[ak,lg,tl]):=fun b o n h=>by
  have h7:=O _ _ (md.same b o n h)
  exact ⟨u9 _ _ h7,fun nl=>ZDc (ZAD h7 a9) nl (ZAD (s8 _ _ h7) aj)⟩
 have b4:TabSt HA Pt_teller (ZBD ZAH) "_law_teller.<locals>._law_ask":=by
  rcases md.tab with h | ⟨c',h,hc⟩
  .exact .inl (u9 _ _ (O _ _ h))
  .exact .inr ⟨c',u9 _ _ (O _ _ h),hc.mono fun b o hb=>u9 _ _ (O _ _ hb)⟩
 have ax:Pt_teller∉[ak,lg,tl]:=by
  obtain ⟨t,ht⟩:=ac
  exact ZDc (ZAD (O _ _ ht) a9) (fun z=>by rw [z,a7] at a8;cases a8) (ZAD (s8 _ _ (O _ _ ht)) aj)
 clear u7 u9 k9 k7 O md s8 s6 ac a6 a0 er ad B ia hrl htl hru ah ai aq b0
 obtain ⟨af,aa⟩:=ar rw _ (nP rw _ a5 fun _ z=>by cases z) a5
 have aa:=aa al
 refine ⟨ks,⟨xs,0⟩,ak,rl,ru,tl,g,lg,1,0,ks.length,.non,rfl,st,.inr ⟨rfl,rfl,rfl⟩,yAG _,yAA _,by omega,by decide,fun lp Y Lb ps2 gs2 r3 fr hl aw ay st2=>?_⟩
 have bf:=aw.straight ay (yAG _) fun i h1 h2=>hd i h1 h2
 have ap:=(aw.inv ⟨rfl,yAG _,rfl,fun g hg=>by cases hg⟩).ch.flen
 rw [ay.2.1] at ap
 obtain ⟨ws,b7,b5⟩:=st2.hlg
 refine ZAa ?_
 walk_at "rd"
 refine ⟨lp,_,rfl,Or.inl (SqL.of hl),?_⟩
 refine ⟨rw,_,rfl,Or.inl (SqL.of (fr _ _ aa af)),?_⟩
 rw [show (nL (flt ps2)).length=(flt ps2).length from yAD ..,ap,a3.1,if_pos (by omega)]
 have b3:ws.length=ks.length-1:=by
  have h1:ws.length=Lb.length:=b5.prs.len
  omega
 refine ⟨lg,_,rfl,.inl (SqL.of b7),rw,_,rfl,.inl (SqL.of (fr _ _ aa af)),_,_,rfl,?_⟩
 rw [a3.1,mx_eq,decide_eq_true (by rw [b3];omega)]
 have bc:Pt_teller≠lg:=fun z=>by rw [z,a7] at a8;cases a8
 refine q Y (fun b o n h=>?_) ?_
 .have hb:=S0 _ _ h
  have b1:b≠lg:=fun z=>by rw [z] at h;exact absurd (s6.free hlg |> s5.free) (by rw [h];simp)
  obtain ⟨a1,a2⟩:=ar b o n hb
  exact fr _ _ (a2 b1) a1
 .rcases b4 with h | ⟨c',h,hc⟩
  .exact .inl (fr _ _ ax h)
  .exact .inr ⟨c',fr _ _ ax h,hc.mono fun b o hb=>fr _ _ (st.tupS hb (fun _ z=>by cases z) (fun _ _ _ z=>by cases z)) hb⟩
theorem ok_law {f:Addr} {fd:FuncData} (F:Fun K "law" "law" ZDa f fd) (T:Bt K mg C_Join C_Pile C_Asker C_AskedRule)
  (ap:Fn P w K mg base CX0 "_law_row_by" 3 ["_law_script"] (ZDz K))
  (c5:Fn P w K mg base CX0 "_law_sum" 1 ["_law_lays","_law_many"] (ZDy))
  (be:Fn P w K mg base CX0 "_law_most" 1 ["_law_step","_law_many"] (ZDS))
  (a3:Fn P w K mg base CX0 "_law_straight" 10 ["_law_keys"] (ZB0 Pt_teller))
  (a7:Fn P w K mg base CX0 "_law_cell_at" 1 ["_law_script","_law_k"] (ZDp K))
  (ar:Fn P w K mg base CX0 "_law_teller" 1 ["_law_written"] (ZDo Pt_teller (ZBD ZAH) "_law_ask" "_law_teller.<locals>._law_ask" (ZAO ZAH) (ZAN ZAH) (ZAC ZAH) ["_law_written"] [0] 1))
  (a0:Mt P w K mg base CX0 C_Pile "step" 8 ["self"] (ZDm C_Asker C_AskedRule C_Pile))
  (ao:KlD P w K mg base CX0 "Pile" C_Pile 2 ["self","asker","least","part"] (ZBi C_Asker C_Pile) [.non])
  (ag:KlD P w K mg base CX0 "Asker" C_Asker 1 ["self","row","rule","most"] (ZBq C_Asker) [.non])
  (ac:Kl P w K mg base CX0 "AskedRule" C_AskedRule 1 ["self","teller"] (ZCA C_AskedRule))
 :FnOk P w K mg base CX0 11 f fd ["_law_script"] (ZEa K [(cc_teller,Pt_teller)]):=by
 refine F.ok sc_law (fun vs H Q E h=>?_) (fun ff A outer s H vs Q E hr h=>?_)
 .obtain ⟨a,ns,rfl,hS,d5,hT,q⟩:=h
  rfl
 obtain ⟨a,ns,rfl,hS,d5,hT,q⟩:=h
 refine ⟨_,(ZAB (ZAL (i:=1) sc_law.nd rfl (by walk_at "o") (ZBR ap (hr.mono (by decide)) rfl ZAW (ZAA (pv 0) ZAE)))
  (ZAU
  (ZAB (ZAL (i:=2) sc_law.nd rfl (by walk_at "o") (ZAb ZAi (ZBC (ZAA ZAF (ZAA ZAF (ZAA (ZAP ZAf ZAF (ZAP ZBT (ZAP ZBs (ZBR a7 (hr.mono (by decide)) rfl ZAW (ZAA (pv 0) (ZAA ZAF ZAE))) ZAF) ZAF)) ZAE)))) (ZAP ZBT (ZAP ZBs (ZBR a7 (hr.mono (by decide)) rfl ZAW (ZAA (pv 0) (ZAA ZAF ZAE))) ZAF) ZAF) (fun _ _=>rfl)))
  (ZAU
  (ZAB (ZAL (i:=3) sc_law.nd rfl (by walk_at "o") (ZBC ZAE))
  (ZAU
  (ZAB (ZAL (i:=4) sc_law.nd rfl (by walk_at "o") (ZEd ao (hr.mono (by decide)) rfl ZAW (ZAA (ZEd ag (hr.mono (by decide)) rfl ZAW (ZAA (pv 1) (ZAA (ZEu ac (hr.mono (by decide)) rfl ZAW (ZAA (ZBR ar (hr.mono (by decide)) rfl ZAW (ZAA (pv 3) ZAE)) ZAE)) ZAE))) (ZAA (pv 2) ZAE))))
  (ZAU
  (ZAB (ZAL (i:=5) sc_law.nd rfl (by walk_at "o") (ZBC ZAE))
  (ZAU
  (ZAB (ZAL (i:=6) sc_law.nd rfl (by walk_at "o") ZAF)
  (ZAU
  (ZAB (ZAL (i:=7) sc_law.nd rfl (by walk_at "o") (ZCL a0 (hr.mono (by decide)) ZAW (pv 4)))
  (ZAU
  (ZAB (ZBN PassesOwn.never (ZAS ZD5 (pv 7) ZCr (ZAV _))
  (ZAB (ZBQ (ZAS ZB5 (ZAb ZAp (pv 7) ZAF (fun _ _=>rfl)) ZEI (ZAV _))
  (ZAI (ZAn (ZCQ PySem.F.plainAttrs_list PySem.F.slot_list_append PySem.F.type_list_append ZBb (pv 5) (ZAA (ZB4 (ZAA (ZAb ZAp (pv 7) ZAF (fun _ _=>rfl)) (ZAA (ZAb ZAp (pv 7) ZAF (fun _ _=>rfl)) ZAE))) ZAE)))) ZAh)
   (ZAU
  (ZAB (ZBQ (ZAS ZES (ZAP ZA2 (ZAM ZAJ rfl T.b_len PySem.boot_len (ZAA (pv 3) ZAE)) (pv 6)) (ZBR be (hr.mono (by decide)) rfl ZAW (ZAA (pv 7) (ZAA (ZAM ZAJ rfl T.b_len PySem.boot_len (ZAA (pv 1) ZAE)) ZAE))) (ZAV _))
  (ZAI (ZAX ZEf)) ZAh)
   (ZAU
  (ZAB (ZAL (i:=6) sc_law.nd rfl (by walk_at "o") (ZAM ZAJ rfl T.b_len PySem.boot_len (ZAA (pv 3) ZAE)))
   (ZAU
  (ZAI (ZAL (i:=7) sc_law.nd rfl (by walk_at "o") (ZCL a0 (hr.mono (by decide)) ZAW (pv 4)))))))))))
  (ZAU
  (ZAB (ZBQ (PW.pt (pw_or (ZAS op_ne (ZAM ZAJ rfl T.b_len PySem.boot_len (ZAA (pv 3) ZAE)) (pv 6) (ZAV _)) (pw_or1 (ZAS (ZEJ hr.units) (ZC6 rfl (k:=1) (js:=[]) (N':=["_law_pair"]) (by rfl) (ZCl (pv 3)) (fun _ _ _ _=>ZBI (i:=0) (show (["_law_pair"]:List Str).Nodup by decide +kernel) rfl (by walk_at "o")) (fun _ _ _ _=>(pifs_one (ZAS op_le (ZAb (ZD9 K) (pv 0) ZAF (fun _ _=>rfl)) (ZAb (ZD9 K) (pv 0) ZAF (fun _ _=>rfl)) (ZAV _)))) (fun _ _ _ _=>(pv 0))) (ZBC ZAE) (ZAV _)))))
  (ZAI (ZAX ZEf)) ZAh)
  (ZAU
  (ZAB (ZAL (i:=8) sc_law.nd rfl (by walk_at "o") (ZBR c5 (hr.mono (by decide)) rfl ZAW (ZAA (pv 5) (ZAA (ZAM ZAJ rfl T.b_len PySem.boot_len (ZAA (pv 1) ZAE)) ZAE))))
  (ZAU
  (ZAB (ZBQ (PW.pt (ZCq (ZAS ZB5 (pv 2) ZAF (ZAV _)) (ZCq (ZAS (ZEJ hr.units) (pv 1) (ZBC ZAE) (ZAV _)) (ZCO (ZAS ZES (pv 6) (ZAP ZAf (ZAP ZAf (ZAP ZA2 (ZAM ZAJ rfl T.b_len PySem.boot_len (ZAA (pv 1) ZAE)) ZAF) (pv 8)) (ZAP ZBs (pv 8) ZAF)) (ZAV _))))))
  (ZAI (ZAX ZEf)) ZAh)
  (ZAU
  (ZAB (ZAL (i:=9) sc_law.nd rfl (by walk_at "o") (ZAM call_sorted rfl T.b_sorted PyProof.Rows.boot_sorted (ZAA (ZC6 rfl (k:=1) (js:=[]) (N':=["_law_pair"]) (by rfl) (ZCl (pv 1)) (fun _ _ _ _=>ZBI (i:=0) (show (["_law_pair"]:List Str).Nodup by decide +kernel) rfl (by walk_at "o")) (fun _ _ _ _=>ZCZ) (fun _ _ _ _=>(ZAb (ZD9 K) (pv 0) ZAF (fun _ _=>rfl)))) ZAE)))
  (ZAU
  (ZAB (ZBQ (PW.pt (pw_or (pt_not (ZB2 (ZBR a3 (hr.mono (by decide)) rfl ZAW (ZAA (pv 9) ZAE)))) (pw_or1 (pt_not (ZB2 (ZBR a3 (hr.mono (by decide)) rfl ZAW (ZAA (pe_list_rev rfl rfl T.b_list rfl T.b_reversed (ZAA (pe_sortset rfl rfl T.b_sorted rfl T.b_set (ZAA (pv 9) ZAE)) ZAE)) ZAE)))))))
  (ZAI (ZAX ZEf)) ZAh)
  (ZAU
  (ZAI (ZAX (ZCP ZB5 (ZAM (call_sum rfl) rfl T.b_sum PyProof.Rows.boot_sum (ZAA (ZC6 rfl (k:=2) (js:=[]) (N':=["_law_first","_law_beyond"]) (by rfl) (ZCl (pv 5)) (fun _ _ _ _=>pg_tupK (n:=2) K rfl (ZCw (ZBI (i:=0) (show (["_law_first","_law_beyond"]:List Str).Nodup by decide +kernel) rfl (by walk_at "o")) (ZCw (ZBI (i:=1) (show (["_law_first","_law_beyond"]:List Str).Nodup by decide +kernel) rfl (by walk_at "o")) pgs_nil))) (fun _ _ _ _=>ZCZ) (fun _ _ _ _=>(ZAP ZA2 (pv 1) (pv 0)))) ZAE)) (ZAM ZAJ rfl T.b_len PySem.boot_len (ZAA (pv 1) ZAE)) (ZAV _)))))))))))))))))))))))))))))),?_⟩
 walk_at "rd"
 refine ⟨a,ns,rfl,hS,d5,fun rw H1 ks xs S1 hrw a8 cm bv=>?_⟩
 refine ZAa ?_
 walk_at "rd"
 refine ⟨a,ns,0,rfl,S1.seq hS,by decide,?_⟩
 generalize cellOf ns 0=c0
 walk_at "rd"
 refine ⟨⟨by decide,by decide⟩,by decide,ZAe (by decide),fun p hp=>?_⟩
 obtain ⟨H2,e2,s2,h2⟩:=newH hp (.lst [.int 1,.int 1,.int (1+c0 / 12 % 20)])
 rw [e2];clear e2
 have S2:=S1.trans s2
 refine ⟨a,ns,0,rfl,S2.seq hS,by decide,?_⟩
 generalize cellOf ns 0=c1
 walk_at "rd"
 refine ⟨⟨by decide,by decide⟩,by decide,?_⟩
 obtain ⟨ls,f2,eu,ef⟩:∃ ls:Nat,ls <= 500 /\ 1 <= ls /\ atI [V.int 1,V.int 1,V.int (1+c0 / 12 % 20)] (c1 / 4 % 3)=some (V.int (ls:Int)):=by
  have r0:=Int.emod_nonneg (c0 / 12) (show (20:Int)≠0 by decide)
  have r1:=Int.emod_lt_of_pos (c0 / 12) (show (0:Int) < 20 by decide)
  have m0:c1 / 4 % 3=0∨c1 / 4 % 3=1∨c1 / 4 % 3=2:=by omega
  rcases m0 with e | e | e <;> rw [e]
  .exact ⟨1,by decide,by decide,ZAY (by decide) rfl⟩
  .exact ⟨1,by decide,by decide,ZAY (by decide) rfl⟩
  .exact ⟨(1+c0 / 12 % 20).toNat,by omega,by omega,by rw [Int.toNat_of_nonneg (by omega)];exact ZAY (by decide) rfl⟩
 refine ZAy (SqL.of h2) ef ?_
 refine ZAa ?_
 walk_at "rd"
 refine ⟨yAG _,fun lg hlg=>?_⟩
 obtain ⟨H0,e0,s0,bu⟩:=newH hlg (.lst [])
 rw [e0];clear e0
 have S0:Same H H0:=S2.trans s0
 have d7:TabSt H0 Pt_teller (ZBD ZAH) "_law_teller.<locals>._law_ask":=.inl (S0 _ _ (hT _ yAF))
 have b0:=s0 _ _ (s2 _ _ a8)
 have b7:Things H0 ks xs:=bv.mono fun b o h _ _=>s0 _ _ (s2 _ _ h)
 have c7:rw≠lg:=ZAD (s2 _ _ a8) hlg
 refine ZAa ?_
 walk_at "rd"
 obtain ⟨ez,bz⟩:∃ t,H0 Pt_teller=some (.tbl t):=by
  rcases d7 with h | ⟨c',h,_⟩ <;> exact ⟨_,h⟩
 refine ⟨rfl,d7,fun g H5 md=>?_⟩
 have nP:∀ b o,H0 b=some o->(∀ t,o≠.tbl t)->b≠Pt_teller:=fun b o h n z=>by rw [z,bz] at h;exact n _ (Option.some.inj h).symm
 intro ru dr hru cq ep
 have bn:upd H5 dr (.own ru) ru=none:=by rw [ZAK (Ne.symm ep)];exact hru
 have s6:Same H5 (upd (upd H5 dr (.own ru)) ru (.ins C_AskedRule dr [])):=(ZAT cq _).trans (ZAT bn _)
 refine ⟨ru,dr,g,rfl,ZAG,fun H7 k7 ir=>⟨rfl,?_⟩⟩
 have aa:∀ b o,H5 b=some o->H7 b=some o:=fun b o h=>k7 b o (ZAD h hru) (s6 _ _ h)
 intro ak da ay df ei
 have bq:upd H7 da (.own ak) ak=none:=by rw [ZAK (Ne.symm ei)];exact ay
 have s8:Same H7 (upd (upd H7 da (.own ak)) ak (.ins C_Asker da [])):=(ZAT df _).trans (ZAT bq _)
 have br:∃ t,H5 Pt_teller=some (.tbl t):=by
  rcases md.tab with h | ⟨c',h,_⟩
  .exact ⟨_,h⟩
  .exact ⟨_,h⟩
 have u7:∀ b o,H0 b=some o->(∀ t,o≠.tbl t)->H7 b=some o:=fun b o h n=>aa _ _ (md.same b o (nP b o h n) h)
 have aw:=u7 rw _ b0 fun _ z=>by cases z
 refine ⟨ak,da,rw,ru,.non,xs,rfl,ZAG,s8 _ _ aw,fun rl tl HA k9 bh cb dm ia hrl htl=>⟨rfl,?_⟩⟩
 have u9:∀ b o,H7 b=some o->HA b=some o:=fun b o h=>k9 b o (ZAD h ay) (s8 _ _ h)
 have al:=u7 lg _ bu fun _ z=>by cases z
 have bp:upd (upd H7 da (.own ak)) ak (.ins C_Asker da []) ak=some (.ins C_Asker da []):=ZAG
 obtain ⟨fa,ev,er,_,_⟩:=ir.ex
 have ab:ru≠ak:=ZAD er ay
 have ek:rl≠rw:=fun z=>by rw [z,s8 _ _ aw] at bh;cases bh
 have st:SitL C_Asker C_AskedRule HA ks ⟨xs,0⟩ ak rl ru tl g lg []:={
  ha:=ia
  hrl:=hrl
  hru:=ZDA (S:=[ak]) (fun b o n h=>k9 b o (fun z=>n (by rw [z];exact yAF)) (s8 _ _ h)) (fun z=>ab (yAO.mp z)) ir
  clo:=md.clo.mono fun b o h=>u9 _ _ (aa _ _ h)
  len:=b7.1
  row:=fun i k hk=>by
   obtain ⟨r,a1,a2⟩:=b7.2 i k hk
   exact ⟨r,a1,u9 _ _ (u7 _ _ a2 fun _ z=>by cases z)⟩
  hlg:=⟨[],u9 _ _ al,yAG _,rfl,fun j p q h=>by simp at h⟩
  htl:=⟨[],htl,rfl,fun j p q h=>by simp at h⟩
  ne:=⟨ZAD (s8 _ _ al) cb,ZDc (Ne.symm (ZAD bp bh)) (Ne.symm (ZAD (s8 _ _ al) bh)) dm,ab⟩ }
 have cx:∀ b o,b≠Pt_teller->H0 b=some o->HA b=some o /\ (b≠lg->b∉[ak,lg,tl]):=fun b o n h=>by
  have h7:=aa _ _ (md.same b o n h)
  exact ⟨u9 _ _ h7,fun nl=>ZDc (ZAD h7 ay) nl (ZAD (s8 _ _ h7) cb)⟩
 have ec:TabSt HA Pt_teller (ZBD ZAH) "_law_teller.<locals>._law_ask":=by
  rcases md.tab with h | ⟨c',h,hc⟩
  .exact .inl (u9 _ _ (aa _ _ h))
  .exact .inr ⟨c',u9 _ _ (aa _ _ h),hc.mono fun b o U=>u9 _ _ (aa _ _ U)⟩
 have f3:Pt_teller∉[ak,lg,tl]:=by
  obtain ⟨t,ht⟩:=br
  exact ZDc (ZAD (aa _ _ ht) ay) (fun z=>by rw [z,bu] at bz;cases bz) (ZAD (s8 _ _ (aa _ _ ht)) cb)
 clear u7 u9 k9 k7 aa md s8 s6 br aw al er bp ab ia hrl htl hru bn bq cq df
 obtain ⟨ae,ca⟩:=cx rw _ (nP rw _ b0 fun _ z=>by cases z) b0
 have ca:=ca c7
 have d6:Things HA ks xs:=b7.mono fun b o h n _=>(cx b o (nP b o h n) h).1
 intro x dx hx el ej
 have dq:upd HA dx (.own x) x=none:=by rw [ZAK (Ne.symm ej)];exact hx
 have sB:Same HA (upd (upd HA dx (.own x)) x (.ins C_Pile dx [])):=(ZAT el _).trans (ZAT dq _)
 have hB:(upd (upd HA dx (.own x)) x (.ins C_Pile dx [])) x=some (.ins C_Pile dx []):=ZAG
 generalize upd (upd HA dx (.own x)) x (.ins C_Pile dx [])=HB at sB hB ⊢
 obtain ⟨d0,f6,dz,_,_⟩:=st.ha.ex
 refine ⟨x,dx,ak,ls,0,ks.length,.non,rfl,hB,.inr ⟨rfl,rfl,ZAD dz hx,rl,ru,.non,_,tl,xs,st.ha.mono sB,sB _ _ st.hrl,bv.1⟩,fun fs od gr HC kC c4 ci cf co=>⟨rfl,?_⟩⟩
 have kA:Same HA HC:=fun b o h=>kC b o (ZAD h hx) (sB _ _ h)
 have d4:PXl ak rl ru lg tl x fs od gr []:=⟨⟨st.newS hx,st.newS (sB.free c4),st.newS (sB.free ci),st.newS (sB.free cf)⟩,fun b U=>(by cases U),fun z=>by
  rcases yAE.mp z with z | z
  .exact ZAD st.hrl (sB.free c4) z
  rcases yAE.mp z with z | z
  .exact ZAD st.hrl (sB.free ci) z
  .exact ZAD st.hrl (sB.free cf) (yAO.mp z),by
  obtain ⟨d1,f1,e1,_⟩:=st.hru.ex
  exact ZAD e1 hx⟩
 have ed:PInv ks 0 ks.length 0 [] []:=⟨rfl,yAG _,rfl,fun g hg=>by cases hg⟩
 have wC:W56 C_Asker C_AskedRule C_Pile HC ks xs ak rl ru tl g lg x fs od gr rw [] ls 0 ks.length 0 [] [] []:=⟨kA _ _ ae,d6.mono fun b o h _ _=>kA _ _ h,co,d4,ed,st.mono kA,.nil⟩
 have cv:rw∉[x,fs,od,gr,ak,lg,tl]:=ZEb (ZAD ae hx) (ZAD ae (sB.free c4)) (ZAD ae (sB.free ci)) (ZAD ae (sB.free cf)) ca
 have ea:TabSt HC Pt_teller (ZBD ZAH) "_law_teller.<locals>._law_ask":=by
  rcases ec with h | ⟨c',h,hc⟩
  .exact .inl (kA _ _ h)
  .exact .inr ⟨c',kA _ _ h,hc.mono fun b o U=>kA _ _ U⟩
 clear d4 co st
 refine ZAa ?_
 walk_at "rd"
 refine ⟨yAG _,fun sd bx=>?_⟩
 obtain ⟨X1,e1,s4,h1⟩:=newH bx (.lst [])
 rw [e1];clear e1
 have w1:=wC.mono s4
 obtain ⟨cz,_,cg,cd⟩:=wC.free bx
 have bi:TabSt X1 Pt_teller (ZBD ZAH) "_law_teller.<locals>._law_ask":=by
  rcases ea with h | ⟨c',h,hc⟩
  .exact .inl (s4 _ _ h)
  .exact .inr ⟨c',s4 _ _ h,hc.mono fun b o U=>s4 _ _ U⟩
 refine ZAa ?_
 walk_at "rd"
 have an:∀ {X:Hp} {pr:List (Nat×Nat)} {r:Nat} {oa:List Addr} {ps:List (Nat×List Nat)} {gs:List Nat} {S:List Addr} {Y:Hp},W56 C_Asker C_AskedRule C_Pile X ks xs ak rl ru tl g lg x fs od gr rw pr ls 0 ks.length r oa ps gs->Fr S X Y->(∀ b∈S,b∈[x,fs,od,gr,ak,lg,tl]∨∃ l,X b=some (.lst l))->TabSt X Pt_teller (ZBD ZAH) "_law_teller.<locals>._law_ask"->TabSt Y Pt_teller (ZBD ZAH) "_law_teller.<locals>._law_ask":=fun {X pr r oa ps gs S Y} w f hS hT=>by
  have ce:∀ {b:Addr} {o:HO},X b=some o->(∀ l,o≠.lst l)->(∀ c d f,o≠.ins c d f)->b∉S:=fun {b o} U h1 h2 z=>by
   rcases hS b z with y | ⟨l,y⟩
   .have L':∀ {c:Addr} {l:List V},X c=some (.lst l)->b≠c:=fun {c l} hc z=>by rw [<- z,U] at hc;exact h1 _ (Option.some.inj hc)
    have I':∀ {c C:Addr} {f:List (Str×V)},Ins X c C f->b≠c:=fun {c C f} hc z=>by obtain ⟨d,fs,e1,_⟩:=hc.ex;rw [<- z,U] at e1;exact h2 _ _ _ (Option.some.inj e1)
    obtain ⟨w2,g2,_⟩:=w.st.htl
    obtain ⟨w3,g3,_⟩:=w.st.hlg
    exact ZEb (I' w.pa.hp) (L' w.pa.hfs) (L' w.pa.hod) (L' w.pa.hgr) (ZDc (I' w.st.ha) (L' g3) (L' g2)) y
   .rw [U] at y;exact h1 _ (Option.some.inj y)
  rcases hT with h | ⟨c',h,hc⟩
  .exact .inl (f _ _ (ce h (fun _ z=>by cases z) (fun _ _ _ z=>by cases z)) h)
  .exact .inr ⟨c',f _ _ (ce h (fun _ z=>by cases z) (fun _ _ _ z=>by cases z)) h,hc.mono fun b o U=>f _ _ (ce U (fun _ z=>by cases z) (fun _ _ _ z=>by cases z)) U⟩
 have ah:∀ {X:Hp} {pr:List (Nat×Nat)} {r:Nat} {oa:List Addr} {ps:List (Nat×List Nat)} {gs:List Nat} {ly:List (Nat×Nat)} {Gs:List Nat} {J:Nat->Nat} {ts:List V} {Q':VK},W56 C_Asker C_AskedRule C_Pile X ks xs ak rl ru tl g lg x fs od gr rw pr ls 0 ks.length r oa ps gs->X sd=some (.lst ts)->Lys X ly ts->sd∉oa->TabSt X Pt_teller (ZBD ZAH) "_law_teller.<locals>._law_ask"->(∀ c∈pr,c.2 < c.1)->P54 ks 0 ks.length ly Gs J ps gs r->(ls=1->A56 0 ks.length r pr.length (SJ J 0 (ks.length-0))) ->
   (∀ fv Y n,n <= 2 * (ks.length-r)+ps.length->I56 C_Asker C_AskedRule C_Pile Pt_teller ks xs ak rl ru tl g lg x fs od gr rw a sd ls n [some (.ref a),some (.ref rw),some (.int ls),some (.ref lg),some (.ref x),some (.ref sd),some (.int (pr.length:Nat)),some fv,none,none] Y->Q' fv Y)->ZDm C_Asker C_AskedRule C_Pile [.ref x] X Q' E0:=fun {X pr r oa ps gs ly Gs J ts Q'} w a6 hL au af b8 hP hA fin=>by
  refine ⟨ks,⟨xs,0⟩,ak,rl,ru,tl,g,lg,x,fs,od,gr,pr,ls,0,ks.length,r,oa,ps,gs,rfl,w.st,w.pa,w.px,w.pi,yAA _,cm,by omega,w.few (by omega) (yAG _),fun z1 z2 z3=>?_,fun t Y k v1 v2 v3 L eg cw gs' r' a9 lf=>?_⟩
  .exact fin .non X 0 (yAG _) ⟨.non,pr,r,oa,ps,gs,ly,Gs,J,ts,pr.length,rfl,w,a6,hL,au,af,b8,.inl ⟨rfl,rfl,⟨z1,z2,z3⟩,hP,rfl,hA⟩⟩
  .have wY:=w.step cv lf a9
   have eq:=a9.less
   obtain ⟨fY,eo,di,_⟩:=lf
   refine fin (.ref t) Y (2 * (ks.length-r')+cw.length+1) (by omega) ⟨.ref t,pr++L,r',eg,cw,gs',ly,Gs,J,ts,pr.length,rfl,wY,fY _ _ cz a6,hL.keep fun b us h=>fY _ _ (w.nt h) h,fun z=>?_,an w fY (fun b U=>.inl U) af,fun c hc=>?_,.inr ⟨t,k,v1,v2,v3,L,ps,gs,r,pr,rfl,rfl,di,a9,w.pi,hP,rfl,rfl,hA⟩⟩
   .rcases eo sd z with z | z
    .exact au z
    .rw [a6] at z;cases z
   .rcases yAZ.mp hc with z | z
    .exact b8 c z
    .exact a9.down w.pi c z
 refine ZAa ?_
 walk_at "rd"
 apply ZEv (fun (fv:V) (Y:Hp)=>∃ n,I56 C_Asker C_AskedRule C_Pile Pt_teller ks xs ak rl ru tl g lg x fs od gr rw a sd ls n [some (.ref a),some (.ref rw),some (.int ls),some (.ref lg),some (.ref x),some (.ref sd),some (.int 0),some fv,none,none] Y)
 .intro O
  refine w1.pa.hp.meth (by walk_at "lk") (ah (ly:=[]) (Gs:=[]) (J:=fun _=>0) w1 h1 ⟨rfl,fun j a b h=>by simp at h⟩ yBL bi (fun c hc=>by cases hc) ?_ (fun _=>?_) fun fv Y n _ hI=>O fv Y ⟨n,hI⟩)
  .exact ⟨rfl,rfl,fun k g h=>by simp at h,fun _=>rfl,fun _ A p h=>by simp at h,fun _ _=>rfl,trivial,.inl ⟨fun j hj=>absurd hj (by simp),.nil,fun x hx=>by cases hx⟩⟩
  .unfold A56
   rw [if_neg (by omega)]
   simp
 rintro fv Y ⟨n,hI⟩
 refine ZAa ?_
 walk_at "rd"
 refine ZBL (I56 C_Asker C_AskedRule C_Pile Pt_teller ks xs ak rl ru tl g lg x fs od gr rw a sd ls) ⟨n,hI⟩ ?_
 clear hI
 rintro n σ X ⟨fv,pr,r,oa,ps,gs,ly,Gs,J,ts,na,rfl,w,a6,hL,au,af,b8,du⟩
 have fg:=w.pi.re
 have f8:=w.pi.ch.le
 have f9:=w.pi.gl
 walk_at "rd"
 rcases du with ⟨rfl,rfl,hF,hP,rfl,hA⟩ | ⟨t,k,v1,v2,v3,L,ey,f5,r0,f4,rfl,rfl,ht,a9,a5,hP,d3,rfl,hA⟩
 rotate_left
 .rw [if_pos (by simp)]
  refine ZBM ?_
  walk_at "rd"
  refine ZAk (SqT.of ht) (ZAY (by decide) rfl) ?_
  have aq:=hP.lc.le
  have et:=a5.re
  have dt:v1 < v2 /\ v2 <= v3 /\ v3 <= ks.length /\ L.length <= mo56 k v1 v2 v3 ks.length:=by
   unfold mo56
   rcases id a9 with ⟨ad,_,A,o1,o2,o,B,j⟩ | ⟨ad,f,os,l,j⟩
   .obtain ⟨b1,b2,b3,b4⟩:=j.asks a5
    have ch:=a5.ch
    rw [j.e1] at ch
    obtain ⟨f7,_,c1,c2,_,_,c6,_⟩:=ch.two
    have:=c6.bey
    have:=j.e3
    rw [ad,if_pos rfl]
    exact ⟨c1,by omega,b3,by omega⟩
   .obtain ⟨b1,b2,b3,b4,_⟩:=j.asks
    rw [ad,if_neg (by simp)]
    exact ⟨b1,b2,b3,b4⟩
  apply ZDG (fun (Z:Hp)=>∃ cc bf J' c9,W56 C_Asker C_AskedRule C_Pile Z ks xs ak rl ru tl g lg x fs od gr rw pr ls 0 ks.length r oa ps gs /\ Z sd=some (.lst c9) /\ Lys Z cc c9 /\ TabSt Z Pt_teller (ZBD ZAH) "_law_teller.<locals>._law_ask" /\ P54 ks 0 ks.length cc bf J' ps gs r /\ (ls=1->A56 0 ks.length r pr.length (SJ J' 0 (ks.length-0))) /\ Z t=some (.tup [kS k,.int (v1:Nat),.int (v2:Nat),.int (v3:Nat)]))
  .intro O
   have d8:∀ {J':Nat->Nat},(∀ u,J' u=if k=true /\ v1 <= u /\ u < v3 then J u+1 else J u)->ls=1->A56 0 ks.length r pr.length (SJ J' 0 (ks.length-0)):=fun {J'} hJ ai=>by
    have bo:=a9
    rw [ai] at bo
    rw [d3,yAB]
    exact A56.step bo a5 hJ (hA ai)
   rcases id a9 with ⟨ad,eh,A,o1,o2,o,B,j⟩ | ⟨ad,f,os,l,j⟩
   rotate_left
   .rw [ad]
    refine ⟨rfl,_,rfl,?_⟩
    rw [if_pos (by simp [kS])]
    refine ⟨.inl ⟨rfl,_,SqL.of a6⟩,ZAk (SqT.of ht) (ZAY (by decide) rfl) (ZAk (SqT.of ht) (ZAY (by decide) rfl) ⟨ZAe (by decide),fun tp dl=>?_⟩)⟩
    obtain ⟨Z1,e1,s1,dy⟩:=newH dl (.tup [.int (v1:Nat),.int (v3:Nat)])
    rw [e1];clear e1
    refine ⟨sd,_,_,rfl,rfl,s1 _ _ a6,ZBP (by rw [hL.len];omega),?_⟩
    have F3:Fr [sd] Z1 (upd Z1 sd (.lst (ts++[.ref tp]))):=Fr.upd yAF
    have a4:=s1 _ _ a6
    have kt:∀ b us,Z1 b=some (.tup us)->upd Z1 sd (.lst (ts++[.ref tp])) b=some (.tup us):=fun b us h=>F3 _ _ (fun z=>by rw [yAO.mp z,a4] at h;cases h) h
    obtain ⟨bf,dv⟩:=hP.lay a5 j
    have wZ:=(w.mono s1).fr F3 (fun b U=>by rw [yAO.mp U];exact ⟨_,a4⟩) (fun b U=>by rw [yAO.mp U];exact ⟨cz,au,cg,cd⟩)
    have bd:=an (w.mono s1) F3 (fun b U=>.inr ⟨ts,by rw [yAO.mp U];exact a4⟩) (an w (s1.fr (S:=[])) (fun b U=>by cases U) af)
    have am:upd Z1 sd (.lst (ts++[.ref tp])) sd=some (.lst (ts++[.ref tp])):=ZAG
    have bg:=((hL.keep fun _ _ z=>s1 _ _ z).keep kt).snoc (kt _ _ dy)
    have bc:=kt _ _ (s1 _ _ ht)
    generalize upd Z1 sd (.lst (ts++[.ref tp]))=Z at wZ bd am bg bc ⊢
    exact O Z ⟨_,bf,J,_,wZ,am,bg,bd,dv,d8 fun u=>by rw [if_neg (by rw [ad];simp)],bc⟩
   .rw [ad]
    refine ⟨rfl,_,rfl,?_⟩
    rw [if_neg (by unfold kS;simp;decide)]
    refine O X ⟨ly,Gs,fun u=>if v1 <= u /\ u < v3 then J u+1 else J u,ts,w,a6,hL,af,?_,d8 fun u=>by rw [ad];simp,ht⟩
    rw [eh]
    exact hP.join a5 j fun u=>rfl
  rintro Z ⟨cc,bf,J',c9,wZ,am,bg,bd,ee,dk,bc⟩
  clear a9 hP w hL a6 a5 ht af hA
  obtain ⟨m1,m2,m3,m4⟩:=dt
  obtain ⟨ws,aj,ax⟩:=wZ.st.hlg
  have bj:ws.length=pr.length:=ax.prs.len
  refine ZAa ?_
  walk_at "rd"
  refine ⟨lg,_,rfl,.inl (SqL.of aj),?_⟩
  refine ⟨rw,_,rfl,.inl (SqL.of wZ.hrw),?_⟩
  rw [wZ.th.1]
  refine ⟨t,k,v1,v2,v3,ks.length,rfl,bc,m1,m2,by omega,cm,_,_,rfl,rfl,_,rfl,?_⟩
  rw [if_neg (by simp;rw [bj,d3,yAB];omega)]
  refine ZAa ?_
  walk_at "rd"
  refine ⟨lg,_,rfl,.inl (SqL.of aj),?_⟩
  rw [bj]
  refine ZAa ?_
  walk_at "rd"
  exact wZ.pa.hp.meth (by walk_at "lk") (ah wZ am bg au bd b8 ee dk fun fv Y n hn hI=>⟨n,by omega,hI⟩)
 rw [if_neg (by simp)]
 clear ah
 refine ZAa ?_
 walk_at "rd"
 have ew:=w.few (by omega) (yAG _)
 obtain ⟨ws,aj,ax⟩:=w.st.hlg
 have bj:ws.length=pr.length:=ax.prs.len
 refine ⟨lg,_,rfl,.inl (SqL.of aj),?_⟩
 rw [bj,if_neg (by simp)]
 refine compL_big (SqL.of aj) (by omega) (fun i ys σ Y=>∃ v,σ=[v] /\ Y=X /\ ys=[]) ⟨_,rfl,rfl,rfl⟩ (fun i ys σ Y _ ⟨_,_,e1,e2⟩=>⟨by rw [e1];exact SqL.of aj,by rw [e2];exact yAG _⟩) ?_ ?_
 .rintro i ys y σ Y hi hy ⟨v,rfl,rfl,rfl⟩
  obtain ⟨⟨c1,c2⟩,hc⟩:∃ c,pr[i]?=some c:=⟨_,yAJ (by omega)⟩
  obtain ⟨tq,a1,b1⟩:=ax.prs.get i c1 c2 hc
  rw [hy] at a1
  cases a1
  have ck:c2 < c1:=b8 (c1,c2) (yAQ hc)
  walk_at "rd"
  refine ZAk (SqT.of b1) (ZAY (by decide) rfl) (ZAk (SqT.of b1) (ZAY (by decide) rfl) ⟨_,_,rfl,rfl,_,rfl,?_⟩)
  rw [if_neg (by simp;omega)]
  exact Nxt.of hi ⟨_,rfl,rfl,rfl⟩
 rintro ys σ Y ⟨v,rfl,rfl,rfl⟩ l5 ba
 obtain ⟨Z5,e5,s9,h5⟩:=newH ba (.lst [])
 rw [e5];clear e5
 refine ⟨yAG _,fun l6 cr=>?_⟩
 obtain ⟨Z6,e6,s10,h6⟩:=newH cr (.lst [])
 rw [e6];clear e6
 refine ZEL Enc.int.list (by decide) (a:=[]) (b:=[]) (ZCp (xs:=[]) (SqL.of (s10 _ _ h5))) (ZCp (xs:=[]) (SqL.of h6)) ⟨_,rfl,?_⟩
 rw [if_neg (by simp)]
 have S6:Same Y Z6:=s9.trans s10
 have w6:=w.mono S6
 have b6:=S6 _ _ a6
 have c8:=hL.keep (H':=Z6) fun _ _ z=>S6 _ _ z
 have db:=an w (S6.fr (S:=[])) (fun b U=>by cases U) af
 clear h5 h6 s9 s10 ba cr hL a6 af aj ax
 refine ZAa ?_
 walk_at "rd"
 refine ⟨rw,_,rfl,.inl (SqL.of w6.hrw),?_⟩
 rw [w6.th.1]
 have aq:=hP.lc
 rw [hF.2.1] at aq
 apply ZDG (fun (m:Int)=>∃ W:Nat,m=(W:Nat) /\ (ls=1->0 < ks.length->pr.length+1 <= ks.length+W+W / 7))
 .intro O
  have fin:∀ {T W:Nat},SJ J 0 (ks.length-0)=T->T <= W->ls=1->0 < ks.length->pr.length+1 <= ks.length+W+W / 7:=fun {T W} eT fc ai hN=>by
   have h1:=hA ai
   have hr:=hF.2.1
   unfold A56 at h1
   rw [eT,if_pos ⟨hr,hN⟩] at h1
   omega
  refine ⟨sd,ks.length,ly,ts,rfl,b6,c8,aq,cm,fun h2=>?_,fun hs h2 hh=>?_⟩
  rotate_left
  .obtain ⟨m,em⟩:∃ m:Int,m=((wsum ly hs:Nat):Int):=⟨_,rfl⟩
   rw [<- em]
   exact O m ⟨wsum ly hs,em,fin rfl (hP.all w.pi hF.2.2 hF.2.1 fun k a b hk=>hh k a b hk)⟩
  .exact O 0 ⟨0,rfl,fin (hP.two w.pi hF.2.2 hF.2.1 h2) (yAA _)⟩
 rintro m ⟨W,rfl,hW⟩
 refine ZAa ?_
 walk_at "rd"
 apply ZDG (fun (Z:Hp)=>Same Z6 Z)
 .intro O
  by_cases ai:(ls:Int)=1
  .rw [if_pos ai]
   refine ⟨yAG _,fun p7 dw=>?_⟩
   obtain ⟨Z7,e7,s7,h7⟩:=newH dw (.lst [])
   rw [e7];clear e7
   have w7:=w6.mono s7
   refine ZEL (Enc.int.two Enc.int).list (by decide) (a:=ks.zipIdx.map fun c=>(c.1,(c.2:Int))) (b:=[]) (ZEl (SqL.of w7.hrw) w7.th.dp) (ZEl (SqL.of h7) .nil) ⟨_,rfl,?_⟩
   by_cases hks:ks=[]
   .rw [if_neg (by rw [hks];simp)]
    exact O Z7 s7
   .rw [if_pos (by simp [hks])]
    refine ⟨rw,_,rfl,.inl (SqL.of w7.hrw),⟨by decide,by decide⟩,?_⟩
    have hN:0 < ks.length:=List.length_pos_iff.mpr hks
    have:=hW (by omega) hN
    rw [w7.th.1,if_neg (by omega)]
    exact O Z7 s7
  .rw [if_neg ai]
   exact O Z6 (.refl _)
 rintro Z s7
 have w7:=w6.mono s7
 have bt:=s7 _ _ b6
 have ct:=c8.keep (H':=Z) fun _ _ z=>s7 _ _ z
 have dg:=an w6 (s7.fr (S:=[])) (fun b U=>by cases U) db
 clear c8 b6 db hW w
 refine ZAa ?_
 walk_at "rd"
 refine ZDg (SqL.of w7.hrw) (by rw [w7.th.1];omega) (fun i ys σ Y=>∃ v,σ=[v] /\ Y=Z /\ ys=(ks.take i).map V.int) ⟨_,rfl,rfl,rfl⟩ (fun i ys σ Y _ ⟨_,_,e1,e2⟩=>⟨by rw [e1];exact SqL.of w7.hrw,by rw [e2];simp;omega⟩) ?_ ?_
 .rintro i ys y σ Y hi hy ⟨v,rfl,rfl,rfl⟩
  obtain ⟨k,hk⟩:∃ k,ks[i]?=some k:=⟨_,yAJ (by rw [<- w7.th.1];exact hi)⟩
  obtain ⟨r0,a1,b1⟩:=w7.th.2 i k hk
  rw [hy] at a1
  cases a1
  walk_at "rd"
  refine ZAk (SqT.of b1) (ZAY (by decide) rfl) ?_
  exact Nxt.of hi ⟨_,rfl,rfl,by rw [List.take_succ,hk];simp⟩
 rintro ys σ Y ⟨v,rfl,rfl,rfl⟩ l8 d2
 rw [w7.th.1,List.take_length]
 obtain ⟨Z8,e8,s8,h8⟩:=newH d2 (.lst (ks.map V.int))
 rw [e8];clear e8
 refine ⟨l8,ks,rfl,SqL.of h8,by omega,fun l9 ms de eb d9=>?_⟩
 obtain ⟨Z9,e9,s9,h9⟩:=newH de (.lst (ms.map V.int))
 rw [e9];clear e9
 have S9:Same Y Z9:=s8.trans s9
 have az:=S9 _ _ bt
 have av:=S9 _ _ w7.hrw
 have cp:=ct.keep (H':=Z9) fun _ _ z=>S9 _ _ z
 have c3:=an w7 (S9.fr (S:=[])) (fun b U=>by cases U) dg
 have cn:ms.length <= 63:=by rw [eb.length_eq];omega
 have en:=w7.th.1
 clear ct bt dg w7 w6 s8 s9 h8 d2 de S9 s7
 refine ZAa ?_
 walk_at "rd"
 refine ⟨l9,ms,rfl,c3,h9,cn,fun i h1 h2=>?_,fun H1 k1 bi=>?_⟩
 .rw [dec_asc d9 (by omega) h2,dec_asc d9 (by omega) (by omega)]
 refine ⟨_,rfl,?_⟩
 rw [if_neg (by simp)]
 have b9:∀ b o,Z9 b=some o->(∀ t,o≠.tbl t)->b≠Pt_teller:=fun b o h n z=>by
  rcases c3 with e | ⟨c',e,_⟩ <;> (rw [z,e] at h;exact n _ (Option.some.inj h).symm)
 have dd:=k1 _ _ (b9 _ _ h9 (fun t z=>nomatch z)) h9
 have a4:=k1 _ _ (b9 _ _ az (fun t z=>nomatch z)) az
 have a8:=k1 _ _ (b9 _ _ av (fun t z=>nomatch z)) av
 have dc:=cp.keep (H':=H1) fun b us z=>k1 _ _ (b9 _ _ z (fun t y=>nomatch y)) z
 clear b9 c3 az av cp h9 k1
 refine ⟨l9,ms,rfl,SqL.of dd,by omega,fun r b5 hr cu ck=>?_⟩
 obtain ⟨Z2,e2,s2,h2⟩:=newH hr (.lst (b5.map V.int))
 rw [e2];clear e2
 refine ⟨r,_,rfl,SqL.of h2,fun r3 dh=>?_⟩
 rw [<- List.map_reverse]
 obtain ⟨Z3,e3,s3,h3⟩:=newH dh (.lst (b5.reverse.map V.int))
 rw [e3];clear e3
 have S3:Same H1 Z3:=s2.trans s3
 have cj:TabSt Z3 Pt_teller (ZBD ZAH) "_law_teller.<locals>._law_ask":=bi.mono (by rcases bi with e | ⟨c',e,_⟩ <;> rw [e,S3 _ _ e]) S3.fz
 have dj:b5.length <= 63:=yAL (mem_len (ck.imp fun h=>by omega) fun x hx=>(cu x).mp hx) cn
 refine ⟨r3,b5.reverse,rfl,cj,h3,by rw [List.length_reverse];exact dj,fun i h1 h2=>?_,fun H4 k4 e4=>?_⟩
 .have hd:b5.reverse.Pairwise (· > ·):=List.pairwise_reverse.mpr ck
  rw [dec_desc hd (by omega) h2,dec_desc hd (by omega) (by omega)]
 refine ⟨_,rfl,?_⟩
 rw [if_neg (by simp)]
 have bm:∀ b o,Z3 b=some o->(∀ t,o≠.tbl t)->b≠Pt_teller:=fun b o h n z=>by
  rcases cj with e | ⟨c',e,_⟩ <;> (rw [z,e] at h;exact n _ (Option.some.inj h).symm)
 have bw:=k4 _ _ (bm _ _ (S3 _ _ a4) (fun t z=>nomatch z)) (S3 _ _ a4)
 have cy:=k4 _ _ (bm _ _ (S3 _ _ a8) (fun t z=>nomatch z)) (S3 _ _ a8)
 have bb:=(dc.keep (H':=Z3) fun b us z=>S3 _ _ z).keep (H':=H4) fun b us z=>k4 _ _ (bm _ _ z (fun t y=>nomatch y)) z
 clear bm cj a4 a8 dc k4 e4 S3 s2 s3 h2 h3 dd
 refine ZAa ?_
 walk_at "rd"
 have fe:=aq.le
 refine ZDg (SqL.of bw) (by rw [bb.len];omega) (fun i ys σ Y=>∃ v u,σ=[v,u] /\ Y=H4 /\ ys=((ly.take i).map fun c=>(c.2:Int)-(c.1:Int)).map V.int) ⟨_,_,rfl,rfl,rfl⟩ (fun i ys σ Y _ ⟨_,_,_,e1,e2⟩=>⟨by rw [e1];exact SqL.of bw,by rw [e2];simp;omega⟩) ?_ ?_
 .rintro i ys y σ Y hi hy ⟨v,u,rfl,rfl,rfl⟩
  obtain ⟨⟨c1,c2⟩,hc⟩:∃ c,ly[i]?=some c:=⟨_,yAJ (by rw [<- bb.len];exact hi)⟩
  obtain ⟨tq,a1,b1⟩:=bb.get i c1 c2 hc
  rw [hy] at a1
  cases a1
  walk_at "rd"
  refine gTup_of (SqT.of b1) rfl ?_
  walk_at "rd"
  exact Nxt.of hi ⟨_,_,rfl,rfl,by rw [List.take_succ,hc];simp⟩
 rintro ys σ Y ⟨v,u,rfl,rfl,rfl⟩ l5 ba
 rw [bb.len,List.take_length]
 obtain ⟨Z5,e5,s5,h5⟩:=newH ba (.lst ((ly.map fun c=>(c.2:Int)-(c.1:Int)).map V.int))
 rw [e5];clear e5
 refine ⟨l5,_,rfl,SqL.of h5,⟨by rw [yAD];omega,fun d hd=>?_⟩,rw,_,rfl,.inl (SqL.of (s5 _ _ cy)),?_⟩
 .obtain ⟨⟨c1,c2⟩,hc,rfl⟩:=yBR.mp hd
  obtain ⟨j,hj⟩:=yBI hc
  have:=aq.get hj
  dsimp only
  omega
 rw [aq.sum,en]
 simp
 exact q _
end
theorem all_mk {l:PySem.W.OpenLaw} {w:World} {K:W.Frag} {h:Heap} {mg:Str->Option Value} {fa C_zaO bi av ba au be bp b2 C_zaN b6 hf bo bg bf az br bn bb C_zaM b5 gf b0 ay C_zaL bu b8 c2 fc c0 cm c1 f5 ch cc c4 ce cn ck c6 cb cd c3 fv ca ci cf a8 aa:Addr} {ar aq iz g7 ac:Tok} (X:K.In h) (G:h.Ns mainGlobals mg) (yf:mg "law"=some (.ref fa))
  {s8 kp:Option Addr} {nc:Array (Option Value)} {k4 se l2 ob d3 ry:Value}
  {iv jc:Option Addr} {iy:Array (Option Value)} {j6 ot ly k1 dk o2:Value}
  {jy qu:Option Addr} {nj:Array (Option Value)} {lb op ld n8 d7 kc:Value}
  {ns qz:Option Addr} {o9:Array (Option Value)} {hz m0 rj jd dl pq:Value}
  {ml n4:Option Addr} {pd:Array (Option Value)} {nq pp ol p4 d2 nf:Value}
  {rz l1:Option Addr} {io:Array (Option Value)} {mt o8 oi ih di hr:Value}
  {pb mr:Option Addr} {o5:Array (Option Value)} {rq m4 ka s0 dw nd:Value}
  {e7:Value} {gh:Option Addr} {rk:Nat} {en:Array (Option Value)}
  {l7 q5:Option Addr} {j7:Array (Option Value)} {r4 lm rh lh dg ph:Value}
  {jo k3:Option Addr} {mq:Array (Option Value)} {qv n6 j9 oz ct rm:Value}
  {pn jt:Option Addr} {m1:Array (Option Value)} {qc mf r3 sg e2 kb:Value}
  {kl r9:Option Addr} {l9:Array (Option Value)} {nu ho ig r8 cu pf:Value}
  {qj im:Option Addr} {ni:Array (Option Value)} {nb hq qr me d6 rb:Value}
  {i7 kx:Option Addr} {qp:Array (Option Value)} {qm j2 nk o1 dy lq:Value}
  {ku jh:Option Addr} {j5:Array (Option Value)} {m6 p9 kf n1 cv j4:Value}
  {oq qd:Option Addr} {mu:Array (Option Value)} {pw qn l4 qq de ki:Value}
  {e8:Value} {fn:Option Addr} {q3:Nat} {hh:Array (Option Value)}
  {lw jr:Option Addr} {rt:Array (Option Value)} {kh qa km qs cw mo:Value}
  {qf q7:Option Addr} {q1:Array (Option Value)} {s9 kt i3 q8 dz md:Value}
  {lu nr:Option Addr} {qw:Array (Option Value)} {l6 p7 mx it cx j3:Value}
  {ou jk:Option Addr} {r7:Array (Option Value)} {i4 k5 o6 l0 e1 pj:Value}
  {rp o7:Option Addr} {m2:Array (Option Value)} {o4 lj qo pi dj n9:Value}
  {h8:Value} {h4:Option Addr} {lc:Nat} {g1:Array (Option Value)}
  {qh hm:Option Addr} {s6:Array (Option Value)} {n3 rx ri om cz m3:Value}
  {je mm:Option Addr} {l3:Array (Option Value)} {l8 kk ik qb dr hx:Value}
  {mk sa:Option Addr} {pg:Array (Option Value)} {p3 my ra q4 e3 hp:Value}
  {he:Value} {gj:Option Addr} {jj:Nat} {eu:Array (Option Value)}
  {kz oc:Option Addr} {qy:Array (Option Value)} {hv pa ix nh d4 ov:Value}
  {lz mh:Option Addr} {nz:Array (Option Value)} {kr rg py on dh nv:Value}
  {mv p8:Option Addr} {ow:Array (Option Value)} {kv mj m9 i1 d9 k9:Value}
  {s3 kw:Option Addr} {i8:Array (Option Value)} {jz r5 i2 ic df hk:Value}
  {jb oe:Option Addr} {i6:Array (Option Value)} {p5 np s4 m7 dm lv:Value}
  {hu k6:Option Addr} {i9:Array (Option Value)} {ox r6 og jl dq kg:Value}
  {mc nl:Option Addr} {po:Array (Option Value)} {jq i0 mi qi dd i5:Value}
  {il jf:Option Addr} {s5:Array (Option Value)} {ll ny ju l5 du ij:Value}
  {ky jm:Option Addr} {rc:Array (Option Value)} {j8 na mb p6 dv p1:Value}
  {o0 m5:Option Addr} {hy:Array (Option Value)} {ie rv ji jv co j0:Value}
  {gd:Value} {eb:Option Addr} {rf:Nat} {go:Array (Option Value)}
  {pu re:Option Addr} {ro:Array (Option Value)} {lp n0 rn k2 cq jg:Value}
  {oy li:Option Addr} {q0:Array (Option Value)} {qx mn jw n5 cr iw:Value}
  {ja da:Option Addr} {ng:Array (Option Value)} {mz cp cy d0 bj dt:Value}
  {g3:Value} {fw:Option Addr} {d5:Array Value} {gu:Array (Option Value)}
  {px sc:Option Addr} {jx:Array (Option Value)} {ql q2 q6 lr j1:Value}
  (ge:W.nsIn K mainGlobals "Join"=some (some (.ref C_zaO)))
  (ht:PySem.W.plainGet K C_zaO Str.empty=true)
  (oh:PySem.W.hasDictIn K C_zaO=true)
  (n2:PySem.W.plainOver K C_zaO=true)
  (k7:W.findIn K (.ref C_zaO) "__setattr__"=some (some (.builtin "object.__setattr__")))
  (oj:PySem.W.makesIn K C_zaO=true)
  (pe:W.keepIn K (.ref C_zaO)=true)
  (bh:W.findIn K (.ref C_zaO) "asker"=some none)
  (b9:W.findIn K (.ref C_zaO) "sides"=some none)
  (b7:W.findIn K (.ref C_zaO) "taken"=some none)
  (an:W.findIn K (.ref C_zaO) "places"=some none)
  (x3:W.findIn K (.ref C_zaO) "__init__"=some (some (.ref bi)))
  (tf:PySem.W.isFn K (.ref bi)=true)
  (xg:K.lookup bi=some ⟨k4,s8,.func (W.fnOf "__init__" "Join.__init__" (ZAO ZBG) (ZAN ZBG) (ZAC ZBG) .none se l2 ob kp d3 ry),nc⟩)
  (uc:W.codeIn K d3 "Join.__init__"=true)
  (vl:W.keepIn K (.ref bi)=true)
  (t9:W.findIn K (.ref C_zaO) "has_more"=some (some (.ref av)))
  (t2:PySem.W.isFn K (.ref av)=true)
  (u7:K.lookup av=some ⟨j6,iv,.func (W.fnOf "has_more" "Join.has_more" (ZAO ZAv) (ZAN ZAv) (ZAC ZAv) .none ot ly k1 jc dk o2),iy⟩)
  (uy:W.codeIn K dk "Join.has_more"=true)
  (hd:W.keepIn K (.ref av)=true)
  (tj:W.findIn K (.ref C_zaO) "front"=some (some (.ref ba)))
  (v8:PySem.W.isFn K (.ref ba)=true)
  (v4:K.lookup ba=some ⟨lb,jy,.func (W.fnOf "front" "Join.front" (ZAO ZA8) (ZAN ZA8) (ZAC ZA8) .none op ld n8 qu d7 kc),nj⟩)
  (wh:W.codeIn K d7 "Join.front"=true)
  (gm:W.keepIn K (.ref ba)=true)
  (w0:W.findIn K (.ref C_zaO) "take_on"=some (some (.ref au)))
  (vc:PySem.W.isFn K (.ref au)=true)
  (x7:K.lookup au=some ⟨hz,ns,.func (W.fnOf "take_on" "Join.take_on" (ZAO ZA0) (ZAN ZA0) (ZAC ZA0) .none m0 rj jd qz dl pq),o9⟩)
  (uw:W.codeIn K dl "Join.take_on"=true)
  (eq:W.keepIn K (.ref au)=true)
  (wo:W.findIn K (.ref C_zaO) "take_rest"=some (some (.ref be)))
  (u4:PySem.W.isFn K (.ref be)=true)
  (vj:K.lookup be=some ⟨nq,ml,.func (W.fnOf "take_rest" "Join.take_rest" (ZAO ZAr) (ZAN ZAr) (ZAC ZAr) .none pp ol p4 n4 d2 nf),pd⟩)
  (u3:W.codeIn K d2 "Join.take_rest"=true)
  (ef:W.keepIn K (.ref be)=true)
  (w2:W.findIn K (.ref C_zaO) "win"=some (some (.ref bp)))
  (t6:PySem.W.isFn K (.ref bp)=true)
  (ve:K.lookup bp=some ⟨mt,rz,.func (W.fnOf "win" "Join.win" (ZAO ZBZ) (ZAN ZBZ) (ZAC ZBZ) .none o8 oi ih l1 di hr),io⟩)
  (tu:W.codeIn K di "Join.win"=true)
  (fh:W.keepIn K (.ref bp)=true)
  (we:W.findIn K (.ref C_zaO) "leap_on"=some (some (.ref b2)))
  (sn:PySem.W.isFn K (.ref b2)=true)
  (uu:K.lookup b2=some ⟨rq,pb,.func (W.fnOf "leap_on" "Join.leap_on" (ZAO ZA1) (ZAN ZA1) (ZAC ZA1) .none m4 ka s0 mr dw nd),o5⟩)
  (si:W.codeIn K dw "Join.leap_on"=true)
  (ed:W.keepIn K (.ref b2)=true)
  (c7:W.nsIn K mainGlobals "Pile"=some (some (.ref C_zaN)))
  (mw:PySem.W.plainGet K C_zaN Str.empty=true)
  (ir:PySem.W.hasDictIn K C_zaN=true)
  (hs:PySem.W.plainOver K C_zaN=true)
  (qk:W.findIn K (.ref C_zaN) "__setattr__"=some (some (.builtin "object.__setattr__")))
  (d1:PySem.W.makesIn K C_zaN=true)
  (dc:W.keepIn K (.ref C_zaN)=true)
  (b1:W.findIn K (.ref C_zaN) "asker"=some none)
  (bq:W.findIn K (.ref C_zaN) "least"=some none)
  (bt:W.findIn K (.ref C_zaN) "start"=some none)
  (cg:W.findIn K (.ref C_zaN) "end"=some none)
  (af:W.findIn K (.ref C_zaN) "reached"=some none)
  (am:W.findIn K (.ref C_zaN) "firsts"=some none)
  (aj:W.findIn K (.ref C_zaN) "orders"=some none)
  (ao:W.findIn K (.ref C_zaN) "grades"=some none)
  (gx:W.findIn K (.ref C_zaN) "__init__"=some (some (.ref b6)))
  (g9:PySem.W.isFn K (.ref b6)=true)
  (wm:K.lookup b6=some ⟨r4,l7,.func (W.fnOf "__init__" "Pile.__init__" (ZAO ZBF) (ZAN ZBF) (ZAC ZBF) (.ref hf) lm rh lh q5 dg ph),j7⟩)
  (xw:W.codeIn K dg "Pile.__init__"=true)
  (wb:K.lookup hf=some ⟨e7,gh,.seq ([.int 1 ar,.none]:List Value).toArray rk,en⟩)
  (w7:W.keepIn K (.ref b6)=true)
  (t5:W.findIn K (.ref C_zaN) "beyond_of"=some (some (.ref bo)))
  (y5:PySem.W.isFn K (.ref bo)=true)
  (t7:K.lookup bo=some ⟨qv,jo,.func (W.fnOf "beyond_of" "Pile.beyond_of" (ZAO ZAq) (ZAN ZAq) (ZAC ZAq) .none n6 j9 oz k3 ct rm),mq⟩)
  (wy:W.codeIn K ct "Pile.beyond_of"=true)
  (fj:W.keepIn K (.ref bo)=true)
  (x1:W.findIn K (.ref C_zaN) "is_due_beneath"=some (some (.ref bg)))
  (vb:PySem.W.isFn K (.ref bg)=true)
  (sw:K.lookup bg=some ⟨qc,pn,.func (W.fnOf "is_due_beneath" "Pile.is_due_beneath" (ZAO ZAZ) (ZAN ZAZ) (ZAC ZAZ) .none mf r3 sg jt e2 kb),m1⟩)
  (y2:W.codeIn K e2 "Pile.is_due_beneath"=true)
  (h0:W.keepIn K (.ref bg)=true)
  (xi:W.findIn K (.ref C_zaN) "grade_on_top"=some (some (.ref bf)))
  (vt:PySem.W.isFn K (.ref bf)=true)
  (ws:K.lookup bf=some ⟨nu,kl,.func (W.fnOf "grade_on_top" "Pile.grade_on_top" (ZAO ZAc) (ZAN ZAc) (ZAC ZAc) .none ho ig r8 r9 cu pf),l9⟩)
  (vm:W.codeIn K cu "Pile.grade_on_top"=true)
  (hg:W.keepIn K (.ref bf)=true)
  (vy:W.findIn K (.ref C_zaN) "join_two"=some (some (.ref az)))
  (tn:PySem.W.isFn K (.ref az)=true)
  (w5:K.lookup az=some ⟨nb,qj,.func (W.fnOf "join_two" "Pile.join_two" (ZAO ZAu) (ZAN ZAu) (ZAC ZAu) .none hq qr me im d6 rb),ni⟩)
  (xf:W.codeIn K d6 "Pile.join_two"=true)
  (ep:W.keepIn K (.ref az)=true)
  (wk:W.findIn K (.ref C_zaN) "lay"=some (some (.ref br)))
  (y6:PySem.W.isFn K (.ref br)=true)
  (u1:K.lookup br=some ⟨qm,i7,.func (W.fnOf "lay" "Pile.lay" (ZAO ZBY) (ZAN ZBY) (ZAC ZBY) .none j2 nk o1 kx dy lq),qp⟩)
  (wv:W.codeIn K dy "Pile.lay"=true)
  (gy:W.keepIn K (.ref br)=true)
  (y7:W.findIn K (.ref C_zaN) "step"=some (some (.ref bn)))
  (so:PySem.W.isFn K (.ref bn)=true)
  (x8:K.lookup bn=some ⟨m6,ku,.func (W.fnOf "step" "Pile.step" (ZAO ZBE) (ZAN ZBE) (ZAC ZBE) .none p9 kf n1 jh cv j4),j5⟩)
  (tx:W.codeIn K cv "Pile.step"=true)
  (el:W.keepIn K (.ref bn)=true)
  (vu:W.findIn K (.ref C_zaN) "paper"=some (some (.ref bb)))
  (vn:PySem.W.isFn K (.ref bb)=true)
  (x6:K.lookup bb=some ⟨pw,oq,.func (W.fnOf "paper" "Pile.paper" (ZAO ZA7) (ZAN ZA7) (ZAC ZA7) .none qn l4 qq qd de ki),mu⟩)
  (xq:W.codeIn K de "Pile.paper"=true)
  (f6:W.keepIn K (.ref bb)=true)
  (ey:W.nsIn K mainGlobals "Asker"=some (some (.ref C_zaM)))
  (iu:PySem.W.plainGet K C_zaM Str.empty=true)
  (rr:PySem.W.hasDictIn K C_zaM=true)
  (m8:PySem.W.plainOver K C_zaM=true)
  (kj:W.findIn K (.ref C_zaM) "__setattr__"=some (some (.builtin "object.__setattr__")))
  (hn:PySem.W.makesIn K C_zaM=true)
  (ii:W.keepIn K (.ref C_zaM)=true)
  (c5:W.findIn K (.ref C_zaM) "row"=some none)
  (bw:W.findIn K (.ref C_zaM) "rule"=some none)
  (bv:W.findIn K (.ref C_zaM) "most"=some none)
  (b3:W.findIn K (.ref C_zaM) "asked"=some none)
  (bz:W.findIn K (.ref C_zaM) "told"=some none)
  (w1:W.findIn K (.ref C_zaM) "__init__"=some (some (.ref b5)))
  (ut:PySem.W.isFn K (.ref b5)=true)
  (su:K.lookup b5=some ⟨kh,lw,.func (W.fnOf "__init__" "Asker.__init__" (ZAO ZBA) (ZAN ZBA) (ZAC ZBA) (.ref gf) qa km qs jr cw mo),rt⟩)
  (ww:W.codeIn K cw "Asker.__init__"=true)
  (xr:K.lookup gf=some ⟨e8,fn,.seq ([.none]:List Value).toArray q3,hh⟩)
  (vx:W.keepIn K (.ref b5)=true)
  (wa:W.findIn K (.ref C_zaM) "many"=some (some (.ref b0)))
  (u6:PySem.W.isFn K (.ref b0)=true)
  (sl:K.lookup b0=some ⟨s9,qf,.func (W.fnOf "many" "Asker.many" (ZAO ZA9) (ZAN ZA9) (ZAC ZA9) .none kt i3 q8 q7 dz md),q1⟩)
  (xk:W.codeIn K dz "Asker.many"=true)
  (ff:W.keepIn K (.ref b0)=true)
  (ux:W.findIn K (.ref C_zaM) "ahead"=some (some (.ref ay)))
  (xe:PySem.W.isFn K (.ref ay)=true)
  (vv:K.lookup ay=some ⟨l6,lu,.func (W.fnOf "ahead" "Asker.ahead" (ZAO ZA3) (ZAN ZA3) (ZAC ZA3) .none p7 mx it nr cx j3),qw⟩)
  (xp:W.codeIn K cx "Asker.ahead"=true)
  (eg:W.keepIn K (.ref ay)=true)
  (ek:W.nsIn K mainGlobals "AskedRule"=some (some (.ref C_zaL)))
  (qg:PySem.W.plainGet K C_zaL Str.empty=true)
  (s7:PySem.W.hasDictIn K C_zaL=true)
  (q9:PySem.W.plainOver K C_zaL=true)
  (nn:W.findIn K (.ref C_zaL) "__setattr__"=some (some (.builtin "object.__setattr__")))
  (jp:PySem.W.makesIn K C_zaL=true)
  (ia:W.keepIn K (.ref C_zaL)=true)
  (ah:W.findIn K (.ref C_zaL) "teller"=some none)
  (wq:W.findIn K (.ref C_zaL) "__init__"=some (some (.ref bu)))
  (uq:PySem.W.isFn K (.ref bu)=true)
  (tr:K.lookup bu=some ⟨i4,ou,.func (W.fnOf "__init__" "AskedRule.__init__" (ZAO ZAs) (ZAN ZAs) (ZAC ZAs) .none k5 o6 l0 jk e1 pj),r7⟩)
  (wl:W.codeIn K e1 "AskedRule.__init__"=true)
  (xz:W.keepIn K (.ref bu)=true)
  (v0:W.findIn K (.ref C_zaL) "before"=some (some (.ref b8)))
  (ss:PySem.W.isFn K (.ref b8)=true)
  (wu:K.lookup b8=some ⟨o4,rp,.func (W.fnOf "before" "AskedRule.before" (ZAO ZAg) (ZAN ZAg) (ZAC ZAg) .none lj qo pi o7 dj n9),m2⟩)
  (vg:W.codeIn K dj "AskedRule.before"=true)
  (ft:W.keepIn K (.ref b8)=true)
  (sr:W.nsIn K mainGlobals "stretch_from"=some (some (.ref c2)))
  (vd:K.lookup c2=some ⟨n3,qh,.func (W.fnOf "stretch_from" "stretch_from" (ZAO ZAz) (ZAN ZAz) (ZAC ZAz) (.ref fc) rx ri om hm cz m3),s6⟩)
  (xx:W.codeIn K cz "stretch_from"=true)
  (ug:K.lookup fc=some ⟨h8,h4,.seq ([.none]:List Value).toArray lc,g1⟩)
  (f9:W.keepIn K (.ref c2)=true)
  (vi:W.nsIn K mainGlobals "in_turn"=some (some (.ref c0)))
  (xt:K.lookup c0=some ⟨l8,je,.func (W.fnOf "in_turn" "in_turn" (ZAO ZBl) (ZAN ZBl) (ZAC ZBl) .none kk ik qb mm dr hx),l3⟩)
  (wf:W.codeIn K dr "in_turn"=true)
  (fx:W.keepIn K (.ref c0)=true)
  (t0:W.nsIn K mainGlobals "spot_of"=some (some (.ref cm)))
  (xv:K.lookup cm=some ⟨p3,mk,.func (W.fnOf "spot_of" "spot_of" (ZAO ZBj) (ZAN ZBj) (ZAC ZBj) .none my ra q4 sa e3 hp),pg⟩)
  (v7:W.codeIn K e3 "spot_of"=true)
  (f8:W.keepIn K (.ref cm)=true)
  (w4:W.nsIn K mainGlobals "filled"=some (some (.ref c1)))
  (y3:K.lookup c1=some ⟨hv,kz,.func (W.fnOf "filled" "filled" (ZAO ZCD) (ZAN ZCD) (ZAC ZCD) (.ref f5) pa ix nh oc d4 ov),qy⟩)
  (uf:W.codeIn K d4 "filled"=true)
  (wx:K.lookup f5=some ⟨he,gj,.seq ([.none]:List Value).toArray jj,eu⟩)
  (ez:W.keepIn K (.ref c1)=true)
  (x0:W.nsIn K mainGlobals "leap"=some (some (.ref ch)))
  (uh:K.lookup ch=some ⟨kr,lz,.func (W.fnOf "leap" "leap" (ZAO ZDK) (ZAN ZDK) (ZAC ZDK) .none rg py on mh dh nv),nz⟩)
  (wn:W.codeIn K dh "leap"=true)
  (hj:W.keepIn K (.ref ch)=true)
  (w9:W.nsIn K mainGlobals "joined"=some (some (.ref cc)))
  (tp:K.lookup cc=some ⟨kv,mv,.func (W.fnOf "joined" "joined" (ZAO ZCC) (ZAN ZCC) (ZAC ZCC) .none mj m9 i1 p8 d9 k9),ow⟩)
  (u0:W.codeIn K d9 "joined"=true)
  (h5:W.keepIn K (.ref cc)=true)
  (sq:W.nsIn K mainGlobals "grade"=some (some (.ref c4)))
  (tq:K.lookup c4=some ⟨jz,s3,.func (W.fnOf "grade" "grade" (ZAO ZCk) (ZAN ZCk) (ZAC ZCk) .none r5 i2 ic kw df hk),i8⟩)
  (vk:W.codeIn K df "grade"=true)
  (fk:W.keepIn K (.ref c4)=true)
  (ui:W.nsIn K mainGlobals "_law_cell_at"=some (some (.ref ce)))
  (vp:K.lookup ce=some ⟨p5,jb,.func (W.fnOf "_law_cell_at" "_law_cell_at" (ZAO ZBm) (ZAN ZBm) (ZAC ZBm) .none np s4 m7 oe dm lv),i6⟩)
  (wd:W.codeIn K dm "_law_cell_at"=true)
  (gk:W.keepIn K (.ref ce)=true)
  (y4:W.nsIn K mainGlobals "_law_blocks"=some (some (.ref cn)))
  (vo:K.lookup cn=some ⟨ox,hu,.func (W.fnOf "_law_blocks" "_law_blocks" (ZAO ZCE) (ZAN ZCE) (ZAC ZCE) .none r6 og jl k6 dq kg),i9⟩)
  (wt:W.codeIn K dq "_law_blocks"=true)
  (ec:W.keepIn K (.ref cn)=true)
  (u9:W.nsIn K mainGlobals "_law_keys_by"=some (some (.ref ck)))
  (tw:K.lookup ck=some ⟨jq,mc,.func (W.fnOf "_law_keys_by" "_law_keys_by" (ZAO ZBk) (ZAN ZBk) (ZAC ZBk) .none i0 mi qi nl dd i5),po⟩)
  (y1:W.codeIn K dd "_law_keys_by"=true)
  (ee:W.keepIn K (.ref ck)=true)
  (ud:W.nsIn K mainGlobals "_law_row_by"=some (some (.ref c6)))
  (xy:K.lookup c6=some ⟨ll,il,.func (W.fnOf "_law_row_by" "_law_row_by" (ZAO ZCB) (ZAN ZCB) (ZAC ZCB) .none ny ju l5 jf du ij),s5⟩)
  (sj:W.codeIn K du "_law_row_by"=true)
  (fg:W.keepIn K (.ref c6)=true)
  (xa:W.nsIn K mainGlobals "_law_most"=some (some (.ref cb)))
  (u2:K.lookup cb=some ⟨j8,ky,.func (W.fnOf "_law_most" "_law_most" (ZAO ZDJ) (ZAN ZDJ) (ZAC ZDJ) .none na mb p6 jm dv p1),rc⟩)
  (t1:W.codeIn K dv "_law_most"=true)
  (ev:W.keepIn K (.ref cb)=true)
  (t3:W.nsIn K mainGlobals "_law_sum"=some (some (.ref cd)))
  (xj:K.lookup cd=some ⟨ie,o0,.func (W.fnOf "_law_sum" "_law_sum" (ZAO ZER) (ZAN ZER) (ZAC ZER) .none rv ji jv m5 co j0),hy⟩)
  (ur:W.codeIn K co "_law_sum"=true)
  (fo:W.keepIn K (.ref cd)=true)
  (xn:W.nsIn K mainGlobals "by_pile"=some (some (.ref c3)))
  (u5:K.lookup c3=some ⟨lp,pu,.func (W.fnOf "by_pile" "by_pile" (ZAO ZBn) (ZAN ZBn) (ZAC ZBn) (.ref fv) n0 rn k2 re cq jg),ro⟩)
  (w3:W.codeIn K cq "by_pile"=true)
  (um:K.lookup fv=some ⟨gd,eb,.seq ([.int 1 aq,.none]:List Value).toArray rf,go⟩)
  (gp:W.keepIn K (.ref c3)=true)
  (uj:W.nsIn K mainGlobals "_law_straight"=some (some (.ref ca)))
  (vh:K.lookup ca=some ⟨qx,oy,.func (W.fnOf "_law_straight" "_law_straight" (ZAO ZBX) (ZAN ZBX) (ZAC ZBX) .none mn jw n5 li cr iw),q0⟩)
  (t4:W.codeIn K cr "_law_straight"=true)
  (hb:W.keepIn K (.ref ca)=true)
  (tm:W.nsIn K mainGlobals "law"=some (some (.ref ci)))
  (xh:K.lookup ci=some ⟨mz,ja,.func (W.fnOf "law" "law" (ZAO ZDa) (ZAN ZDa) (ZAC ZDa) .none cp cy d0 da bj dt),ng⟩)
  (uk:W.codeIn K bj "law"=true)
  (sx:W.keepIn K (.ref ci)=true)
  (gt:W.nsIn K mainGlobals "_law_teller"=some (some (.ref cf)))
  (fu:K.lookup cf=some ⟨ql,px,.func (W.fnOf "_law_teller" "_law_teller" (ZAO ZBr) (ZAN ZBr) (ZAC ZBr) .none q2 q6 lr sc (.ref a8) j1),jx⟩)
  (y0:W.codeIn K (.ref a8) "_law_teller"=true)
  (lf:K.lookup a8=some ⟨g3,fw,.fields d5,gu⟩)
  (n7:d5[11]?=some (.ref aa))
  (gq:W.keepIn K (.ref cf)=true)
  (pz:W.nsIn K mainGlobals "LEFT"=some (some (.int 0 iz)))
  (g6:W.nsIn K mainGlobals "RIGHT"=some (some (.int 1 g7)))
  (ad:W.nsIn K mainGlobals "WINS_TO_LEAP"=some (some (.int 4 ac)))
  (uo:W.nsIn K mainGlobals "len"=some none)
  (h3:W.nsIn K mainGlobals "range"=some none)
  (r0:W.nsIn K mainGlobals "list"=some none)
  (vq:W.nsIn K mainGlobals "max"=some none)
  (sm:W.nsIn K mainGlobals "min"=some none)
  (xc:W.nsIn K mainGlobals "abs"=some none)
  (t8:W.nsIn K mainGlobals "sum"=some none)
  (e5:W.nsIn K mainGlobals "sorted"=some none)
  (bx:W.nsIn K mainGlobals "reversed"=some none)
  (sh:W.nsIn K mainGlobals "set"=some none)
  (ai:W.nsIn K mainGlobals "ValueError"=some none)
  (al:PySem.W.kitOne K (.type "int") (.type "bool")=some false)
  (nt:PySem.W.noTabs K=true) :
  ∃ (tabs:List (Addr×Addr)) (fd:FuncData),PySem.W.noTabs K=true /\ (∀ t∈tabs,∃ y∈(["_law_teller"]:List Str),PySem.W.tabIn K y=some t) /\ (∀ (s:Shared) (v:Value),BindsTo s fd ⟨[v],[]⟩ [("_law_script",v)]) /\ ∀ base:Heap,K.In base->base.Ns mainGlobals mg->(∀ t∈tabs,PySem.W.CodeHd base t.1 t.2)->ZDv mg base->FnOk l.prog w K mg base CX0 11 fa fd ["_law_script"] (ZEa K tabs):=by
 have e:=yf.symm.trans (PySem.W.mg_of X G tm)
 cases e
 have a1:Cls K C_zaO:=⟨ht,oh,n2,k7⟩
 have gw:=ZAl (st:=ZBG) xg uc vl
 have ul:=gw.binds (ps:=["self","asker","left","right"]) fun _ _ _ _ _ _ us hl=>by obtain ⟨_,_,_,_,rfl⟩:=us4 hl;rfl
 have h7:=ZAl (st:=ZAv) u7 uy hd
 have x4:=h7.binds (ps:=["self","side"]) fun _ _ _ _ _ _ us hl=>by obtain ⟨_,_,rfl⟩:=us2 hl;rfl
 have gz:=ZAl (st:=ZA8) v4 wh gm
 have uv:=gz.binds (ps:=["self","side"]) fun _ _ _ _ _ _ us hl=>by obtain ⟨_,_,rfl⟩:=us2 hl;rfl
 have ej:=ZAl (st:=ZA0) x7 uw eq
 have v5:=ej.binds (ps:=["self","side","more"]) fun _ _ _ _ _ _ us hl=>by obtain ⟨_,_,_,rfl⟩:=us3 hl;rfl
 have f7:=ZAl (st:=ZAr) vj u3 ef
 have ue:=f7.binds (ps:=["self","side"]) fun _ _ _ _ _ _ us hl=>by obtain ⟨_,_,rfl⟩:=us2 hl;rfl
 have gn:=ZAl (st:=ZBZ) ve tu fh
 have ua:=gn.binds (ps:=["self"]) fun _ _ _ _ _ _ us hl=>by obtain ⟨_,rfl⟩:=us1 hl;rfl
 have gi:=ZAl (st:=ZA1) uu si ed
 have xm:=gi.binds (ps:=["self","side"]) fun _ _ _ _ _ _ us hl=>by obtain ⟨_,_,rfl⟩:=us2 hl;rfl
 have U:Cls K C_zaN:=⟨mw,ir,hs,qk⟩
 have ag:=ZDC (st:=ZBF) wm xw w7 wb
 have f4:=ag.binds (ps:=["self","asker","least","part"]) (ds:=[]) fun _ _ _ _ _ _ _ us hl=>by obtain ⟨_,_,_,_,rfl⟩:=us4 (ZBx (n:=4) hl rfl);exact ⟨_,rfl,rfl⟩
 have gg:=ag.binds (ps:=["self","asker","least","part"]) (ds:=[.none]) fun _ _ _ _ _ _ _ us hl=>by obtain ⟨_,_,_,rfl⟩:=us3 (ZBx (n:=3) hl rfl);exact ⟨_,rfl,rfl⟩
 have ya:=ag.binds (ps:=["self","asker","least","part"]) (ds:=[.int 1 ar,.none]) fun _ _ _ _ _ _ _ us hl=>by obtain ⟨_,_,rfl⟩:=us2 (ZBx (n:=2) hl rfl);exact ⟨_,rfl,rfl⟩
 have et:=ZAl (st:=ZAq) t7 wy fj
 have v9:=et.binds (ps:=["self","number"]) fun _ _ _ _ _ _ us hl=>by obtain ⟨_,_,rfl⟩:=us2 hl;rfl
 have h9:=ZAl (st:=ZAZ) sw y2 h0
 have wc:=h9.binds (ps:=["self"]) fun _ _ _ _ _ _ us hl=>by obtain ⟨_,rfl⟩:=us1 hl;rfl
 have ga:=ZAl (st:=ZAc) ws vm hg
 have vz:=ga.binds (ps:=["self","middle","beyond"]) fun _ _ _ _ _ _ us hl=>by obtain ⟨_,_,_,rfl⟩:=us3 hl;rfl
 have ew:=ZAl (st:=ZAu) w5 xf ep
 have u8:=ew.binds (ps:=["self","lower"]) fun _ _ _ _ _ _ us hl=>by obtain ⟨_,_,rfl⟩:=us2 hl;rfl
 have ei:=ZAl (st:=ZBY) u1 wv gy
 have va:=ei.binds (ps:=["self"]) fun _ _ _ _ _ _ us hl=>by obtain ⟨_,rfl⟩:=us1 hl;rfl
 have fm:=ZAl (st:=ZBE) x8 tx el
 have sk:=fm.binds (ps:=["self"]) fun _ _ _ _ _ _ us hl=>by obtain ⟨_,rfl⟩:=us1 hl;rfl
 have fi:=ZAl (st:=ZA7) x6 xq f6
 have xb:=fi.binds (ps:=["self"]) fun _ _ _ _ _ _ us hl=>by obtain ⟨_,rfl⟩:=us1 hl;rfl
 have ax:Cls K C_zaM:=⟨iu,rr,m8,kj⟩
 have c8:=ZDC (st:=ZBA) su ww vx xr
 have y9:=c8.binds (ps:=["self","row","rule","most"]) (ds:=[]) fun _ _ _ _ _ _ _ us hl=>by obtain ⟨_,_,_,_,rfl⟩:=us4 (ZBx (n:=4) hl rfl);exact ⟨_,rfl,rfl⟩
 have eo:=c8.binds (ps:=["self","row","rule","most"]) (ds:=[.none]) fun _ _ _ _ _ _ _ us hl=>by obtain ⟨_,_,_,rfl⟩:=us3 (ZBx (n:=3) hl rfl);exact ⟨_,rfl,rfl⟩
 have g4:=ZAl (st:=ZA9) sl xk ff
 have vf:=g4.binds (ps:=["self"]) fun _ _ _ _ _ _ us hl=>by obtain ⟨_,rfl⟩:=us1 hl;rfl
 have gc:=ZAl (st:=ZA3) vv xp eg
 have tz:=gc.binds (ps:=["self","p","q"]) fun _ _ _ _ _ _ us hl=>by obtain ⟨_,_,_,rfl⟩:=us3 hl;rfl
 have db:Cls K C_zaL:=⟨qg,s7,q9,nn⟩
 have er:=ZAl (st:=ZAs) tr wl xz
 have sy:=er.binds (ps:=["self","teller"]) fun _ _ _ _ _ _ us hl=>by obtain ⟨_,_,rfl⟩:=us2 hl;rfl
 have ea:=ZAl (st:=ZAg) wu vg ft
 have wg:=ea.binds (ps:=["self","x","y"]) fun _ _ _ _ _ _ us hl=>by obtain ⟨_,_,_,rfl⟩:=us3 hl;rfl
 have c9:=ZDC (st:=ZAz) vd xx f9 ug
 have g2:=c9.binds (ps:=["asker","first","end"]) (ds:=[]) fun _ _ _ _ _ _ _ us hl=>by obtain ⟨_,_,_,rfl⟩:=us3 (ZBx (n:=3) hl rfl);exact ⟨_,rfl,rfl⟩
 have yd:=c9.binds (ps:=["asker","first","end"]) (ds:=[.none]) fun _ _ _ _ _ _ _ us hl=>by obtain ⟨_,_,rfl⟩:=us2 (ZBx (n:=2) hl rfl);exact ⟨_,rfl,rfl⟩
 have fq:=ZAl (st:=ZBl) xt wf fx
 have vr:=fq.binds (ps:=["first","beyond","falling"]) fun _ _ _ _ _ _ us hl=>by obtain ⟨_,_,_,rfl⟩:=us3 hl;rfl
 have gv:=ZAl (st:=ZBj) xv v7 f8
 have wz:=gv.binds (ps:=["asker","order","place"]) fun _ _ _ _ _ _ us hl=>by obtain ⟨_,_,_,rfl⟩:=us3 hl;rfl
 have cj:=ZDC (st:=ZCD) y3 uf ez wx
 have em:=cj.binds (ps:=["asker","first","least","end"]) (ds:=[]) fun _ _ _ _ _ _ _ us hl=>by obtain ⟨_,_,_,_,rfl⟩:=us4 (ZBx (n:=4) hl rfl);exact ⟨_,rfl,rfl⟩
 have yb:=cj.binds (ps:=["asker","first","least","end"]) (ds:=[.none]) fun _ _ _ _ _ _ _ us hl=>by obtain ⟨_,_,_,rfl⟩:=us3 (ZBx (n:=3) hl rfl);exact ⟨_,rfl,rfl⟩
 have gb:=ZAl (st:=ZDK) uh wn hj
 have uz:=gb.binds (ps:=["asker","order","first","place"]) fun _ _ _ _ _ _ us hl=>by obtain ⟨_,_,_,_,rfl⟩:=us4 hl;rfl
 have gl:=ZAl (st:=ZCC) tp u0 h5
 have w8:=gl.binds (ps:=["asker","left","right"]) fun _ _ _ _ _ _ us hl=>by obtain ⟨_,_,_,rfl⟩:=us3 hl;rfl
 have g8:=ZAl (st:=ZCk) tq vk fk
 have xu:=g8.binds (ps:=["many","first","middle","beyond"]) fun _ _ _ _ _ _ us hl=>by obtain ⟨_,_,_,_,rfl⟩:=us4 hl;rfl
 have g0:=ZAl (st:=ZBm) vp wd gk
 have x2:=g0.binds (ps:=["_law_script","_law_k"]) fun _ _ _ _ _ _ us hl=>by obtain ⟨_,_,rfl⟩:=us2 hl;rfl
 have eh:=ZAl (st:=ZCE) vo wt ec
 have x5:=eh.binds (ps:=["_law_keys","_law_one","_law_two"]) fun _ _ _ _ _ _ us hl=>by obtain ⟨_,_,_,rfl⟩:=us3 hl;rfl
 have g5:=ZAl (st:=ZBk) tw y1 ee
 have v6:=g5.binds (ps:=["_law_script","_law_many","_law_most_here"]) fun _ _ _ _ _ _ us hl=>by obtain ⟨_,_,_,rfl⟩:=us3 hl;rfl
 have ha:=ZAl (st:=ZCB) xy sj fg
 have w6:=ha.binds (ps:=["_law_script"]) fun _ _ _ _ _ _ us hl=>by obtain ⟨_,rfl⟩:=us1 hl;rfl
 have e9:=ZAl (st:=ZDJ) u2 t1 ev
 have xo:=e9.binds (ps:=["_law_step","_law_many"]) fun _ _ _ _ _ _ us hl=>by obtain ⟨_,_,rfl⟩:=us2 hl;rfl
 have fy:=ZAl (st:=ZER) xj ur fo
 have ub:=fy.binds (ps:=["_law_lays","_law_many"]) fun _ _ _ _ _ _ us hl=>by obtain ⟨_,_,rfl⟩:=us2 hl;rfl
 have b4:=ZDC (st:=ZBn) u5 w3 gp um
 have y8:=b4.binds (ps:=["asker","least","part"]) (ds:=[]) fun _ _ _ _ _ _ _ us hl=>by obtain ⟨_,_,_,rfl⟩:=us3 (ZBx (n:=3) hl rfl);exact ⟨_,rfl,rfl⟩
 have yc:=b4.binds (ps:=["asker","least","part"]) (ds:=[.none]) fun _ _ _ _ _ _ _ us hl=>by obtain ⟨_,_,rfl⟩:=us2 (ZBx (n:=2) hl rfl);exact ⟨_,rfl,rfl⟩
 have f3:=b4.binds (ps:=["asker","least","part"]) (ds:=[.int 1 aq,.none]) fun _ _ _ _ _ _ _ us hl=>by obtain ⟨_,rfl⟩:=us1 (ZBx (n:=1) hl rfl);exact ⟨_,rfl,rfl⟩
 have fe:=ZAl (st:=ZBX) vh t4 hb
 have wj:=fe.binds (ps:=["_law_keys"]) fun _ _ _ _ _ _ us hl=>by obtain ⟨_,rfl⟩:=us1 hl;rfl
 have h6:=ZAl (st:=ZDa) xh uk sx
 have ye:=h6.binds (ps:=["_law_script"]) fun _ _ _ _ _ _ us hl=>by obtain ⟨_,rfl⟩:=us1 hl;rfl
 have f2:=ZAl (st:=ZBr) fu y0 gq
 have x9:=f2.binds (ps:=["_law_written"]) fun _ _ _ _ _ _ us hl=>by obtain ⟨_,rfl⟩:=us1 hl;rfl
 have T:Bt K mg C_zaO C_zaN C_zaM C_zaL:=⟨PySem.W.mg_none_of X G uo,PySem.W.mg_none_of X G h3,PySem.W.mg_none_of X G r0,PySem.W.mg_none_of X G vq,PySem.W.mg_none_of X G sm,PySem.W.mg_none_of X G xc,PySem.W.mg_none_of X G t8,PySem.W.mg_none_of X G e5,PySem.W.mg_none_of X G bx,PySem.W.mg_none_of X G sh,PySem.W.mg_none_of X G ai,⟨_,PySem.W.mg_of X G pz⟩,⟨_,PySem.W.mg_of X G g6⟩,⟨_,PySem.W.mg_of X G ad⟩,PySem.W.mg_of X G ge,a1,bh,b9,b7,an,PySem.W.mg_of X G c7,U,b1,bq,bt,cg,af,am,aj,ao,PySem.W.mg_of X G ey,ax,c5,bw,bv,b3,bz,PySem.W.mg_of X G ek,db,ah,al⟩
 refine ⟨[(a8,aa)],W.fnOf "law" "law" (ZAO ZDa) (ZAN ZDa) (ZAC ZDa) .none cp cy d0 da bj dt,nt,List.forall_mem_cons.mpr ⟨⟨"_law_teller",by simp,tabIn_of gt fu rfl lf n7⟩,fun _ h=>nomatch h⟩,fun s v=>.of_eq rfl,fun base _ _ hC hB=>?_⟩
 have aw:Fn l.prog w K mg base CX0 "_law_cell_at" 1 ["_law_script","_law_k"] (ZDp K):=⟨_,_,ok_cell_at g0 T ,x2,gk,PySem.W.mg_of X G ui⟩
 have ke:Fn l.prog w K mg base CX0 "_law_keys_by" 2 ["_law_script","_law_many","_law_most_here"] (ZDU K):=⟨_,_,ok_keys_by g5 T aw,v6,ee,PySem.W.mg_of X G u9⟩
 have qe:Fn l.prog w K mg base CX0 "_law_blocks" 1 ["_law_keys","_law_one","_law_two"] (ZE7):=⟨_,_,ok_blocks eh T ,x5,ec,PySem.W.mg_of X G y4⟩
 have p0:Fn l.prog w K mg base CX0 "_law_row_by" 3 ["_law_script"] (ZDz K):=⟨_,_,ok_row_by ha T ke aw qe,w6,fg,PySem.W.mg_of X G ud⟩
 have sb:Fn l.prog w K mg base CX0 "_law_sum" 1 ["_law_lays","_law_many"] (ZDy):=⟨_,_,ok_sum fy T ,ub,fo,PySem.W.mg_of X G t3⟩
 have k0:Fn l.prog w K mg base CX0 "_law_most" 1 ["_law_step","_law_many"] (ZDS):=⟨_,_,ok_most e9 T ,xo,ev,PySem.W.mg_of X G xa⟩
 have ae:Mt l.prog w K mg base CX0 C_zaN "paper" 1 ["self"] (ZD0 C_zaN):=⟨U,_,_,ok_Pile_paper fi T ,xb,vu,vn,f6⟩
 have a0:Mt l.prog w K mg base CX0 C_zaN "is_due_beneath" 1 ["self"] (ZE6 C_zaN):=⟨U,_,_,ok_Pile_is_due_beneath h9 T ,wc,x1,vb,h0⟩
 have O:Mt l.prog w K mg base CX0 C_zaO "take_on" 1 ["self","side","more"] (ZCX C_zaO):=⟨a1,_,_,ok_Join_take_on ej T ,v5,w0,vc,eq⟩
 have a7:Mt l.prog w K mg base CX0 C_zaO "take_rest" 2 ["self","side"] (ZCh C_zaO):=⟨a1,_,_,ok_Join_take_rest f7 T O,ue,wo,u4,ef⟩
 have Z:Mt l.prog w K mg base CX0 C_zaO "has_more" 1 ["self","side"] (ZCY C_zaO):=⟨a1,_,_,ok_Join_has_more h7 T ,x4,t9,t2,hd⟩
 have bc:CloOk l.prog w K mg base 1 (ZBH):=clo_teller T
 have a3:Mt l.prog w K mg base CX0 C_zaL "before" 2 ["self","x","y"] (ZCv C_zaL ZBH):=⟨db,_,_,ok_AskedRule_before ea T bc,wg,v0,ss,ft⟩
 have B:Mt l.prog w K mg base CX0 C_zaM "ahead" 3 ["self","p","q"] (ZCN C_zaM C_zaL ZBH):=⟨ax,_,_,ok_Asker_ahead gc T a3,tz,ux,xe,eg⟩
 have a4:Mt l.prog w K mg base CX0 C_zaO "front" 1 ["self","side"] (ZDX C_zaO):=⟨a1,_,_,ok_Join_front gz T ,uv,tj,v8,gm⟩
 have bd:Mt l.prog w K mg base CX0 C_zaO "win" 4 ["self"] (ZE4 C_zaM C_zaL C_zaO):=⟨a1,_,_,ok_Join_win gn T O B a4,ua,w2,t6,fh⟩
 have pm:Fn l.prog w K mg base CX0 "leap" 4 ["asker","order","first","place"] (ZEZ C_zaM C_zaL):=⟨_,_,ok_leap gb T B,uz,hj,PySem.W.mg_of X G x0⟩
 have ab:Mt l.prog w K mg base CX0 C_zaO "leap_on" 5 ["self","side"] (ZDT C_zaM C_zaL C_zaO):=⟨a1,_,_,ok_Join_leap_on gi T pm O Z a4,xm,we,sn,ed⟩
 have ko:Kl l.prog w K mg base CX0 "Join" C_zaO 1 ["self","asker","left","right"] (ZD2 C_zaO):=⟨PySem.W.mg_of X G ge,_,_,ok_Join_init gw T ,ul,oj,x3,tf,pe⟩
 have k8:Fn l.prog w K mg base CX0 "joined" 6 ["asker","left","right"] (ZDV C_zaM C_zaL):=⟨_,_,ok_joined gl T a7 Z bd ab ko,w8,h5,PySem.W.mg_of X G w9⟩
 have a6:Mt l.prog w K mg base CX0 C_zaN "beyond_of" 1 ["self","number"] (ZCj C_zaN):=⟨U,_,_,ok_Pile_beyond_of et T ,v9,t5,y5,fj⟩
 have a9:Mt l.prog w K mg base CX0 C_zaN "join_two" 7 ["self","lower"] (ZC2 C_zaM C_zaL C_zaN):=⟨U,_,_,ok_Pile_join_two ew T k8 a6,u8,vy,tn,ep⟩
 have J:Mt l.prog w K mg base CX0 C_zaM "many" 1 ["self"] (ZDn C_zaM):=⟨ax,_,_,ok_Asker_many g4 T ,vf,wa,u6,ff⟩
 have ln:Fn l.prog w K mg base CX0 "stretch_from" 4 ["asker","first","end"] (ZCi C_zaM C_zaL):=⟨_,_,ok_stretch_from c9 T B J,g2,f9,PySem.W.mg_of X G sr⟩
 have oo:Fn l.prog w K mg base CX0 "in_turn" 1 ["first","beyond","falling"] (ZDW):=⟨_,_,ok_in_turn fq T ,vr,fx,PySem.W.mg_of X G vi⟩
 have nx:Fn l.prog w K mg base CX0 "spot_of" 4 ["asker","order","place"] (ZDR C_zaM C_zaL):=⟨_,_,ok_spot_of gv T B,wz,f8,PySem.W.mg_of X G t0⟩
 have kd:Fn l.prog w K mg base CX0 "filled" 5 ["asker","first","least","end"] (ZDY C_zaM C_zaL):=⟨_,_,ok_filled cj T ln oo nx J,em,ez,PySem.W.mg_of X G w4⟩
 have o3:Fn l.prog w K mg base CX0 "grade" 1 ["many","first","middle","beyond"] (ZD3):=⟨_,_,ok_grade g8 T ,xu,fk,PySem.W.mg_of X G sq⟩
 have a2:Mt l.prog w K mg base CX0 C_zaN "grade_on_top" 2 ["self","middle","beyond"] (ZD1 C_zaN):=⟨U,_,_,ok_Pile_grade_on_top ga T o3,vz,xi,vt,hg⟩
 have bm:Mt l.prog w K mg base CX0 C_zaN "lay" 6 ["self"] (ZE5 C_zaM C_zaL C_zaN):=⟨U,_,_,ok_Pile_lay ei T kd a2,va,wk,y6,gy⟩
 have a5:Mt l.prog w K mg base CX0 C_zaN "step" 8 ["self"] (ZDm C_zaM C_zaL C_zaN):=⟨U,_,_,ok_Pile_step fm T a0 a9 bm,sk,y7,so,el⟩
 have kq:Kl l.prog w K mg base CX0 "Pile" C_zaN 2 ["self","asker","least","part"] (ZBi C_zaM C_zaN):=⟨PySem.W.mg_of X G c7,_,_,ok_Pile_init ag T J,f4,d1,gx,g9,dc⟩
 have e4:FnD l.prog w K mg base CX0 "by_pile" 9 ["asker","least","part"] (ZDZ C_zaM C_zaL) [.int 1,.non]:=⟨_,_,_,ok_by_pile b4 T ae a5 kq,f3,(.cons ⟨_,rfl⟩ (.cons rfl .nil)),gp,PySem.W.mg_of X G xn⟩
 have e0:Fn l.prog w K mg base CX0 "_law_teller" 1 ["_law_written"] (ZDo aa (ZBD ZAH) "_law_ask" "_law_teller.<locals>._law_ask" (ZAO ZAH) (ZAN ZAH) (ZAC ZAH) ["_law_written"] [0] 1):=⟨_,_,ok_teller f2 rfl (hC (a8,aa) (by simp)) hB,x9,gq,PySem.W.mg_of X G gt⟩
 have ap:KlD l.prog w K mg base CX0 "Asker" C_zaM 1 ["self","row","rule","most"] (ZBq C_zaM) [.non]:=⟨PySem.W.mg_of X G ey,_,_,_,ok_Asker_init c8 T ,eo,(.cons rfl .nil),hn,w1,ut,ii⟩
 have d8:Kl l.prog w K mg base CX0 "AskedRule" C_zaL 1 ["self","teller"] (ZCA C_zaL):=⟨PySem.W.mg_of X G ek,_,_,ok_AskedRule_init er T ,sy,jp,wq,uq,ia⟩
 have sf:Fn l.prog w K mg base CX0 "_law_straight" 10 ["_law_keys"] (ZB0 aa):=⟨_,_,ok_straight fe T e4 e0 ap d8,wj,hb,PySem.W.mg_of X G uj⟩
 have e6:KlD l.prog w K mg base CX0 "Pile" C_zaN 2 ["self","asker","least","part"] (ZBi C_zaM C_zaN) [.non]:=⟨PySem.W.mg_of X G c7,_,_,_,ok_Pile_init ag T J,gg,(.cons rfl .nil),d1,gx,g9,dc⟩
 exact ok_law h6 T p0 sb k0 sf aw e0 a5 e6 ap d8
end Law
open PySem PySem.W PyProof.Rows
set_option maxRecDepth 100000 in
set_option maxHeartbeats 0 in
theorem PySem.Challenge.cw_sorthall_k56_whole_asks_of_the_pile_holds : PySem.Challenge.rw_sorthall_k56_whole_asks_of_the_pile.Holds := by
 refine L2.hd0 ?_
 k_fill
 refine L2.walk_ofT2 (l:=PySem.Challenge.rw_sorthall_k56_whole_asks_of_the_pile) (k:=11) (x:="_law_script") (names:=["_law_teller"]) rfl rfl ⟨rfl,by decide,by decide,rfl⟩ (fun w h Y=>PySem.W.km_in_of Y) (List.forall_mem_cons.mpr ⟨⟨_,rfl⟩,fun _ h=>nomatch h⟩) ?F
 case F=>
  intro w mg fa h KX G hmg
  refine' Law.all_mk KX G hmg ?a_zaO ?pg_zaO ?hd_zaO ?po_zaO ?sa_zaO ?mk_zaO ?kc_zaO ?n_zaO_asker ?n_zaO_sides ?n_zaO_taken ?n_zaO_places ?a_zaq ?i_zaq ?l_zaq ?c_zaq ?k_zaq ?a_zah ?i_zah ?l_zah ?c_zah ?k_zah ?a_zam ?i_zam ?l_zam ?c_zam ?k_zam ?a_zaj ?i_zaj ?l_zaj ?c_zaj ?k_zaj ?a_zad ?i_zad ?l_zad ?c_zad ?k_zad ?a_zav ?i_zav ?l_zav ?c_zav ?k_zav ?a_zak ?i_zak ?l_zak ?c_zak ?k_zak ?a_zaN ?pg_zaN ?hd_zaN ?po_zaN ?sa_zaN ?mk_zaN ?kc_zaN ?n_zaN_asker ?n_zaN_least ?n_zaN_start ?n_zaN_end ?n_zaN_reached ?n_zaN_firsts ?n_zaN_orders ?n_zaN_grades ?a_zar ?i_zar ?l_zar ?c_zar ?d_zar ?k_zar ?a_zae ?i_zae ?l_zae ?c_zae ?k_zae ?a_zaa ?i_zaa ?l_zaa ?c_zaa ?k_zaa ?a_zab ?i_zab ?l_zab ?c_zab ?k_zab ?a_zag ?i_zag ?l_zag ?c_zag ?k_zag ?a_zat ?i_zat ?l_zat ?c_zat ?k_zat ?a_zas ?i_zas ?l_zas ?c_zas ?k_zas ?a_zao ?i_zao ?l_zao ?c_zao ?k_zao ?a_zaM ?pg_zaM ?hd_zaM ?po_zaM ?sa_zaM ?mk_zaM ?kc_zaM ?n_zaM_row ?n_zaM_rule ?n_zaM_most ?n_zaM_asked ?n_zaM_told ?a_zap ?i_zap ?l_zap ?c_zap ?d_zap ?k_zap ?a_zan ?i_zan ?l_zan ?c_zan ?k_zan ?a_zal ?i_zal ?l_zal ?c_zal ?k_zal ?a_zaL ?pg_zaL ?hd_zaL ?po_zaL ?sa_zaL ?mk_zaL ?kc_zaL ?n_zaL_teller ?a_zaf ?i_zaf ?l_zaf ?c_zaf ?k_zaf ?a_zac ?i_zac ?l_zac ?c_zac ?k_zac ?a_zai ?l_zai ?c_zai ?d_zai ?k_zai ?a_zax ?l_zax ?c_zax ?k_zax ?a_zaz ?l_zaz ?c_zaz ?k_zaz ?a_zaE ?l_zaE ?c_zaE ?d_zaE ?k_zaE ?a_zaI ?l_zaI ?c_zaI ?k_zaI ?a_zaC ?l_zaC ?c_zaC ?k_zaC ?a_zaG ?l_zaG ?c_zaG ?k_zaG ?a_zaA ?l_zaA ?c_zaA ?k_zaA ?a_zaD ?l_zaD ?c_zaD ?k_zaD ?a_zaw ?l_zaw ?c_zaw ?k_zaw ?a_zaF ?l_zaF ?c_zaF ?k_zaF ?a_zaH ?l_zaH ?c_zaH ?k_zaH ?a_zaK ?l_zaK ?c_zaK ?k_zaK ?a_zay ?l_zay ?c_zay ?d_zay ?k_zay ?a_zau ?l_zau ?c_zau ?k_zau ?a_zaJ ?l_zaJ ?c_zaJ ?k_zaJ ?a_zaB ?l_zaB ?c_zaB ?lc_zaB ?tp_zaB ?k_zaB ?z_LEFT ?z_RIGHT ?z_WINS_TO_LEAP ?z_len ?z_range ?z_list ?z_max ?z_min ?z_abs ?z_sum ?z_sorted ?z_reversed ?z_set ?z_ValueError ?kit_int_bool ?nt
  (case a_zaO=>k_is)
  (case pg_zaO=>k_is)
  (case hd_zaO=>k_is)
  (case po_zaO=>k_is)
  (case sa_zaO=>k_is)
  (case mk_zaO=>k_is)
  (case kc_zaO=>k_is)
  (case n_zaO_asker=>k_is)
  (case n_zaO_sides=>k_is)
  (case n_zaO_taken=>k_is)
  (case n_zaO_places=>k_is)
  (case a_zaq=>k_is)
  (case i_zaq=>k_is)
  (case l_zaq=>k_is)
  (case c_zaq=>k_is)
  (case k_zaq=>k_is)
  (case a_zah=>k_is)
  (case i_zah=>k_is)
  (case l_zah=>k_is)
  (case c_zah=>k_is)
  (case k_zah=>k_is)
  (case a_zam=>k_is)
  (case i_zam=>k_is)
  (case l_zam=>k_is)
  (case c_zam=>k_is)
  (case k_zam=>k_is)
  (case a_zaj=>k_is)
  (case i_zaj=>k_is)
  (case l_zaj=>k_is)
  (case c_zaj=>k_is)
  (case k_zaj=>k_is)
  (case a_zad=>k_is)
  (case i_zad=>k_is)
  (case l_zad=>k_is)
  (case c_zad=>k_is)
  (case k_zad=>k_is)
  (case a_zav=>k_is)
  (case i_zav=>k_is)
  (case l_zav=>k_is)
  (case c_zav=>k_is)
  (case k_zav=>k_is)
  (case a_zak=>k_is)
  (case i_zak=>k_is)
  (case l_zak=>k_is)
  (case c_zak=>k_is)
  (case k_zak=>k_is)
  (case a_zaN=>k_is)
  (case pg_zaN=>k_is)
  (case hd_zaN=>k_is)
  (case po_zaN=>k_is)
  (case sa_zaN=>k_is)
  (case mk_zaN=>k_is)
  (case kc_zaN=>k_is)
  (case n_zaN_asker=>k_is)
  (case n_zaN_least=>k_is)
  (case n_zaN_start=>k_is)
  (case n_zaN_end=>k_is)
  (case n_zaN_reached=>k_is)
  (case n_zaN_firsts=>k_is)
  (case n_zaN_orders=>k_is)
  (case n_zaN_grades=>k_is)
  (case a_zar=>k_is)
  (case i_zar=>k_is)
  (case l_zar=>k_is)
  (case c_zar=>k_is)
  (case d_zar=>k_is)
  (case k_zar=>k_is)
  (case a_zae=>k_is)
  (case i_zae=>k_is)
  (case l_zae=>k_is)
  (case c_zae=>k_is)
  (case k_zae=>k_is)
  (case a_zaa=>k_is)
  (case i_zaa=>k_is)
  (case l_zaa=>k_is)
  (case c_zaa=>k_is)
  (case k_zaa=>k_is)
  (case a_zab=>k_is)
  (case i_zab=>k_is)
  (case l_zab=>k_is)
  (case c_zab=>k_is)
  (case k_zab=>k_is)
  (case a_zag=>k_is)
  (case i_zag=>k_is)
  (case l_zag=>k_is)
  (case c_zag=>k_is)
  (case k_zag=>k_is)
  (case a_zat=>k_is)
  (case i_zat=>k_is)
  (case l_zat=>k_is)
  (case c_zat=>k_is)
  (case k_zat=>k_is)
  (case a_zas=>k_is)
  (case i_zas=>k_is)
  (case l_zas=>k_is)
  (case c_zas=>k_is)
  (case k_zas=>k_is)
  (case a_zao=>k_is)
  (case i_zao=>k_is)
  (case l_zao=>k_is)
  (case c_zao=>k_is)
  (case k_zao=>k_is)
  (case a_zaM=>k_is)
  (case pg_zaM=>k_is)
  (case hd_zaM=>k_is)
  (case po_zaM=>k_is)
  (case sa_zaM=>k_is)
  (case mk_zaM=>k_is)
  (case kc_zaM=>k_is)
  (case n_zaM_row=>k_is)
  (case n_zaM_rule=>k_is)
  (case n_zaM_most=>k_is)
  (case n_zaM_asked=>k_is)
  (case n_zaM_told=>k_is)
  (case a_zap=>k_is)
  (case i_zap=>k_is)
  (case l_zap=>k_is)
  (case c_zap=>k_is)
  (case d_zap=>k_is)
  (case k_zap=>k_is)
  (case a_zan=>k_is)
  (case i_zan=>k_is)
  (case l_zan=>k_is)
  (case c_zan=>k_is)
  (case k_zan=>k_is)
  (case a_zal=>k_is)
  (case i_zal=>k_is)
  (case l_zal=>k_is)
  (case c_zal=>k_is)
  (case k_zal=>k_is)
  (case a_zaL=>k_is)
  (case pg_zaL=>k_is)
  (case hd_zaL=>k_is)
  (case po_zaL=>k_is)
  (case sa_zaL=>k_is)
  (case mk_zaL=>k_is)
  (case kc_zaL=>k_is)
  (case n_zaL_teller=>k_is)
  (case a_zaf=>k_is)
  (case i_zaf=>k_is)
  (case l_zaf=>k_is)
  (case c_zaf=>k_is)
  (case k_zaf=>k_is)
  (case a_zac=>k_is)
  (case i_zac=>k_is)
  (case l_zac=>k_is)
  (case c_zac=>k_is)
  (case k_zac=>k_is)
  (case a_zai=>k_is)
  (case l_zai=>k_is)
  (case c_zai=>k_is)
  (case d_zai=>k_is)
  (case k_zai=>k_is)
  (case a_zax=>k_is)
  (case l_zax=>k_is)
  (case c_zax=>k_is)
  (case k_zax=>k_is)
  (case a_zaz=>k_is)
  (case l_zaz=>k_is)
  (case c_zaz=>k_is)
  (case k_zaz=>k_is)
  (case a_zaE=>k_is)
  (case l_zaE=>k_is)
  (case c_zaE=>k_is)
  (case d_zaE=>k_is)
  (case k_zaE=>k_is)
  (case a_zaI=>k_is)
  (case l_zaI=>k_is)
  (case c_zaI=>k_is)
  (case k_zaI=>k_is)
  (case a_zaC=>k_is)
  (case l_zaC=>k_is)
  (case c_zaC=>k_is)
  (case k_zaC=>k_is)
  (case a_zaG=>k_is)
  (case l_zaG=>k_is)
  (case c_zaG=>k_is)
  (case k_zaG=>k_is)
  (case a_zaA=>k_is)
  (case l_zaA=>k_is)
  (case c_zaA=>k_is)
  (case k_zaA=>k_is)
  (case a_zaD=>k_is)
  (case l_zaD=>k_is)
  (case c_zaD=>k_is)
  (case k_zaD=>k_is)
  (case a_zaw=>k_is)
  (case l_zaw=>k_is)
  (case c_zaw=>k_is)
  (case k_zaw=>k_is)
  (case a_zaF=>k_is)
  (case l_zaF=>k_is)
  (case c_zaF=>k_is)
  (case k_zaF=>k_is)
  (case a_zaH=>k_is)
  (case l_zaH=>k_is)
  (case c_zaH=>k_is)
  (case k_zaH=>k_is)
  (case a_zaK=>k_is)
  (case l_zaK=>k_is)
  (case c_zaK=>k_is)
  (case k_zaK=>k_is)
  (case a_zay=>k_is)
  (case l_zay=>k_is)
  (case c_zay=>k_is)
  (case d_zay=>k_is)
  (case k_zay=>k_is)
  (case a_zau=>k_is)
  (case l_zau=>k_is)
  (case c_zau=>k_is)
  (case k_zau=>k_is)
  (case a_zaJ=>k_is)
  (case l_zaJ=>k_is)
  (case c_zaJ=>k_is)
  (case k_zaJ=>k_is)
  (case a_zaB=>k_is)
  (case l_zaB=>k_is)
  (case c_zaB=>k_is)
  (case lc_zaB=>k_is)
  (case tp_zaB=>rfl)
  (case k_zaB=>k_is)
  (case z_LEFT=>k_is)
  (case z_RIGHT=>k_is)
  (case z_WINS_TO_LEAP=>k_is)
  (case z_len=>k_is)
  (case z_range=>k_is)
  (case z_list=>k_is)
  (case z_max=>k_is)
  (case z_min=>k_is)
  (case z_abs=>k_is)
  (case z_sum=>k_is)
  (case z_sorted=>k_is)
  (case z_reversed=>k_is)
  (case z_set=>k_is)
  (case z_ValueError=>k_is)
  (case kit_int_bool=>kit_is)
  (case nt=>kernel_rfl)
