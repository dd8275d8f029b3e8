import PyProof.Rows.All
import Wide.All
import OpenK.AllK
import Wide.FinOn
import Lean
import PyProof.EqAt
import PyProof.EqKinds
import PyProof.TupleCall
import PyProof.Rows.TupIter
import PyProof.Seq
import KE.KRevIter
import PyProof.CollectIter
import PyProof.SumWalkG
import KE.KDictOf
import PyProof.IsiH_list
import PyProof.RaisesAny
import PyProof.P3In
import KE.KSortTup
import PyProof.Rows.StrWeight2
import PyProof.StrCalls
import PyProof.Rows.FinIter
import PySem.Challenge.RW_sorthall_k94_whole_any_rule
set_option genSizeOf false
set_option compiler.extract_closed false
set_option Elab.async false
set_option linter.all false
set_option maxRecDepth 100000
open Nat renaming le_refl→aL,le_trans→cW,zero_le→dU,sub_self→gN,ne_of_lt→lD,le_succ→nN,lt_of_lt_of_le→qL,zero_add→wt,min_eq_left→xQ,lt_irrefl→Bm,lt_succ_self→Bl,zero_mul→Du,succ_mul→Ds,le_of_lt→ED,ne_of_gt→EC,le_add_right→Ew,add_sub_cancel_left→Gy
open List renaming length_map→aM,length_append→aU,mem_cons_self→bH,mem_cons_of_mem→bK,getElem?_eq_getElem→bV,mem_singleton→bY,map_append→cF,mem_cons→cL,length_cons→cP,length_range→cU,getElem?_eq_some_iff→cV,getElem?_map→dB,mem_append→fG,getElem?_append_right→gI,mem_of_getElem?→gO,mem_append_right→gR,prefix_refl→gZ,getElem?_append_left→iE,length_singleton→iK,map_cons→iT,size_toArray→iS,getD_eq_getElem?_getD→iR,append_assoc→jU,append_nil→kH,length_take→kP,length_drop→lC,mem_range→mL,not_mem_nil→mK,mem_append_left→nO,take_of_length_le→pE,getElem?_range→uN,flatten_append→uM,range_succ→uL,getElem?_eq_none→wu,mem_map→xR,take_append_drop→xP,count_append→xO,length_nil→yd,drop_eq_getElem_cons→yc,mem_filter→AQ,map_map→AO,filter_append→AN,length_eq_zero_iff→Bk,count_cons→Bj,map_nil→Dz,map_take→Dx,map_drop→Dv,count_nil→Dt,length_replicate→EA,length_set→Ez,lookup_cons→Ey,take_succ→Eu,cons_append→Et,pairwise_cons→Es,length_range'→Er,nodup_append→Ep,nodup_range→Eo,any_cons→GH,reverse_cons→GG,length_reverse→GF,forIn_nil→GD,find?_cons→GC,pairwise_map→GB,pairwise_iff_getElem→GA,countP_cons→Gz,length_filter_le→Gx
open Bool renaming false_ne_true→kS,and_eq_true→uO,false_eq_true→Dy,eq_iff_iff→EB
open Option renaming map_eq_some_iff→EE,map_some→Ex
open PySem renaming wpAny_bind→QJ,Addr→QK,Value→QM,Shared→QO,Heap.get?_push_of_some→QP,Str.ofString→QQ,wpAny_pure→QS,Heap.lt_size→QT,mainGlobals→QV,wpAny→QX,starEach→QY,model→QZ,Heap.get?_push_size→Q0,PassesOwn.never→Q1,Builtin.Range.rangeSize→Q2,Str→Q3,Program→Q6,Stmt→Q9,World→Rf,Heap.SameBut→Rg,wpAny_holding→Rh,wpAny_mono→Rk,Around→Rm,tupleKind→Rn,Builtin.SmallTypes.nextOf→Ru,Heap→Rv,Expr→Rw,mem_of_lookup→Rx,wpAny_setField_rec→RD,entryOfKey→RE,foldedSetIterable→RF,PyData.canLayAll0→RG,wpAny_nextOf_list_item→RI,Builtin.SmallTypes.ownedTupleIsFree→RK,assignEach→RM,compareOp→RN,cellsFrom→RO,PyData.depthAll→RP,wpAny_field→RQ,PyData.eqvAll→RT,treeTable→RV,backTo→RW,FuncData→RX,PyData.eqv→RZ,Obj.mapSeq→R0,Heap.get?_update_other→R1,wpAny_passesOwn→R5,Obj→R6,Str.empty→R7,PyData→Se,IsPair→Sg,OsState→Sh,wpAny_seqItems→Sj,sysModules→Sk,PyData.canLay0→Sl,NameKind→Sm,Heap.size_push→So,wpAny_call_entry→Sq,PyData.depth→Sr,Builtin.Tuple.tupleHashOf→Ss,letOwnedTupleGo→Sw,PyData.int→SD,wpAny_callSpecial?_slot→SE,bootBuiltins→SH,wpAny_nextOf_list_end→SK,sliceBounds→SN,binaryOp→SO,Scope→SQ,Heap.ExtBut→SS,importedModules→SW,wpAny_Call_Name_kw→Tb,wpAny_truthy_bool→Ti,wpAny_dictEntries→Tj,codeAny→To,wpAny_standAt→Ts,wpAny_attempt→Tt,Builtin.List.listTooLong→TC,wpAny_isInstance→TK,swapsWith→TL,boot_len→TM,codeAny_mono→TU,Builtin→TY,wpAny_specialOf→T1,wpAny_execs_nil→T3,pushCells_keeps→T4,F.slot_zip_next→T7,Heap.get?_update_self→Ua,wpAny_updateSeq_pair→Uc,keywordEach→Ud,getMethod→Ui,Builtin.SmallTypes.ownedTupleHandOut→Um,Builtin.Range.small→Uo,wpAny_onRaise→Up,behindInMarks→Uq,attributeBase→Ur,Paired.length→Us,wpAny_rule→Ut,tupleKind_room_in1→Uu,pyNext→Uv,call_meets→Uw,wpAny_newObj_type→Uz,valueAt→UA,standAt→UB,notedBy→UC,callerA→UD,ZipApart→UE,Pos→UG,Operator→UH,Heap.SameBut.refl→UJ,Around.under→UK,wpAny_eqBool_int→UN,wpAny_comp_letGo→UO,Env→UR,sizeLine_eq→US,cLine→UT,IsRangeIter→UU,Builtin.Dict.entriesForEmpty→UW,getItem→UX,Sem→UY,BindsTo→U0,wpAny_newTuple→U1,newFunctionEnv→U2,isSubtype_stop→U4,closureFor→U5,backToKw→U6,atKey→U7,Calls.Name_function_global→U8
open List renaming range→QL,replicate→Q5,range'→Q8,length→Rr,lookup→RH,filter_cons_of_neg→RS,drop_eq_nil_of_le→RU,concat_eq_append→RY,mem_of_mem_take→R8,mem_of_mem_drop→R9,length_flatten→Si,filter_cons_of_pos→Sv,take_sublist→Sx,take_add_one→Sy,drop_of_length_le→Sz,eq_nil_or_concat→SF,getElem_mem→SG,getElem?_of_mem→SJ,map_congr_left→SM,map→SV,reverse_perm→S0,ext_getElem?→S8,getElem?_take_of_lt→Ta,getElem?_replicate→Te,drop_length→Tf,pairwise_lt_range→Tp,getElem?_set_self→Tq,getElem?_toArray→TH,countP_mono_left→TJ,getElem?_set_ne→TQ,drop_drop→TR,filterMap_cons→T5,of_mem_zip→Ux
open PySem.W renaming mg_of→QN,mg_none_of→Rb,plainGet→Ri,hasDictIn→Rj,plainOver→Ro,kitOne→Rq,makesIn→Rt,kia_one→RA,instObj→RJ,boot_heap→RL,topFrom→Tn,lookIn→Tv,plainGet_of→TN,callWith_K→TV,methodObj→T8,isFn→T9,takerIn→Uj,OpenLaw→Uk,kas_sort→U3
open Option.some renaming inj→QR
open Int renaming emod_nonneg→QU,emod_lt_of_pos→QW,zero_add→Rl,toNat_of_nonneg→Sn,toNat→T6,fdiv_eq_ediv_of_nonneg→UQ
open Ne renaming symm→Q4
open PyProof.Rows renaming boot_isinstance→Q7,boot_list→Ra,callWith_type1→RB,boot_int→RR,boot_sorted→R3,boot_tuple→Sa,boot_range→Sb,seqObj→Tc,AllBare→TZ,envOfC→Ue,IntsAre→UZ
open PySem.F renaming plainAttrs_list→Rc,type_list_append→Ry,slot_list_append→Rz,slot_dict_get→Th
open Prod renaming fst→Rp,ext→SU
open False renaming elim→RC
open Classical renaming byContradiction→R4
open PySem.StrLaws renaming seqIndex_nonneg→Su
open Nat renaming min_eq_right→SI,le_of_eq→SR,lt_of_le_of_lt→SY,mul_succ→Tx,mod_lt→Tz,add_zero→TB,not_lt_zero→TF,mul_div_cancel→Ug,add_sub_cancel→Uh,mul_zero→Ul,div_add_mod→UI
open Nat.succ renaming inj→S9
open Array renaming forIn_toList→Ub
open Bool renaming decide_and→Uy,false_and→UL,and_false→UM
theorem Z9{c:Prop}{h:Decidable c}(y:c){α:Sort _}{t e:α}:ite c t e=t:=if_pos y
theorem Z8{c:Prop}{h:Decidable c}(y:¬c){α:Sort _}{t e:α}:ite c t e=e:=if_neg y
namespace L2
open PySem PySem.W
variable {loose:List Q3}{p:Q6}{g0:Bool}{α:Type}
theorem xc{q:Q6}{Xt:QO->Bool}{Yf:QO->α}{Ya:Rf->α}{N:Nat}
  (z:∀w:Rf,(fencedOpening RV p w N).map (λs=>(s.heap,s.gens,s.drawn,s.toks))=some (RL w.params,Array.mk [],boot_drawn,boot_toks))
  (h:∀(w:Rf) (os:Sh),(Tn RV p w N ⟨RL w.params,Array.mk [],boot_drawn,boot_toks,os⟩).map (λs=>(openSeen q loose (SW p.main.body) Xt g0 s,Yf s))=some (openGood q loose,Ya w)):LeftO p q loose Xt Yf Ya N g0:=λw=>by
 obtain⟨⟨J,gs,d,k,os⟩,e,O⟩:=EE.mp<|z w;obtain⟨rfl,rfl,rfl,rfl⟩:J=RL w.params/\gs=Array.mk []/\d=boot_drawn/\k=boot_toks:=by simpa using O
 unfold openEnds;rw[e];exact h w os
theorem zq{q:Q6}{Xt:QO->Bool}{Yf:QO->α}{Ya:Rf->α}{N:Nat}
  (z:∀w:Rf,(fencedOpening RV p w N).map (λs=>(s.heap,s.gens,s.drawn,s.toks))=some (RL w.params,Array.mk [],boot_drawn,boot_toks))
  (h1:∀(w:Rf) (os:Sh),(Tn RV p w N ⟨RL w.params,Array.mk [],boot_drawn,boot_toks,os⟩).map (λs=>openSeen q loose (SW p.main.body) Xt g0 s)=some (openGood q loose))
  (h2:∀(w:Rf) (os:Sh),(Tn RV p w N ⟨RL w.params,Array.mk [],boot_drawn,boot_toks,os⟩).map (λs=>Yf s)=some (Ya w)):LeftO p q loose Xt Yf Ya N g0:=
 xc z λw os=>by
  have a:=h1 w os;have b:=h2 w os;generalize Tn RV p w N ⟨RL w.params,Array.mk [],boot_drawn,boot_toks,os⟩=r at a b;cases r with
  |none=>cases a
  |some s=>exact congrArg some<|SU (QR a)<|QR b
noncomputable def qH(w:Rf)(os:Sh):QO:=⟨RL w.params,Array.mk [],boot_drawn,boot_toks,os⟩
noncomputable def HF:List R6->Nat->BT->BT
 |[],_,t=>t
 |o::r,n,t=>HF r (n+1)<|t.ins n o
noncomputable def GI(w:Rf)(os:Sh):SharedT:=⟨HF (RL w.params).objs.toList 0 .nil,(RL w.params).objs.size,(RL w.params).life,Array.mk [],boot_drawn,boot_toks,os⟩
noncomputable def eE(p:Q6)(w:Rf)(n₀:Nat)(ann:Option QM):Nat->SharedT->Thread->Option SharedT
 |0,_,_=>none
 |n+1,s,t=>match through t with
  |true=>some s
  |false=>match PySem.W.Fast.tw6613529449190102663 n₀ ann t with
   |false=>none
   |true=>match PySem.W.Fast.tw10156331382660048174 (PySem.W.Fast.tw11892475500146522536 PySem.W.Fast.tw14364793385576792824) p w s t with
    |some (s',t')=>eE p w n₀ ann n s' t'
    |none=>none
theorem iU{p:Q6}{w:Rf}{z:Nat}{J:Option QM}:∀{n:Nat} {s s':SharedT} {t:Thread},eE p w z J n s t=some s'->topRun RV p w z J n s.abs t=some s'.abs
 |0,_,_,_,h=>by cases h
 |n+1,s,s',t,h=>by
  unfold eE at h;rw[<- PySem.W.Fast.te6613529449190102663,<- PySem.W.Fast.te10156331382660048174,<- PySem.W.Fast.te11892475500146522536,<- PySem.W.Fast.te14364793385576792824] at h;unfold topRun;cases he:through t with
  |true=>rw[he] at h;cases h;rfl
  |false=>
   rw[he] at h;cases hk:stepOk z J t with
   |false=>rw[hk] at h;cases h
   |true=>
    rw[hk] at h;cases hs:stepT (denote RV) p w s t with
    |none=>rw[hs] at h;cases h
    |some r=>obtain⟨s₂,O⟩:=r;rw[hs] at h;rw[stepT_spec hs];exact iU h
set_option maxHeartbeats 0 in
theorem BE:∀(w:Rf) (os:Sh),(GI w os).abs=qH w os:=by
 intro w os
 kernel_rfl
set_option maxHeartbeats 0 in
theorem EU:∀(w:Rf) (os:Sh),((qH w os).heap.isNs QV&&(qH w os).gens.size==0)=true:=by
 intro w os
 kernel_rfl
noncomputable def Ir(p:Q6)(s₀ s₁:QO):Bool:=staticsOk (SW p.main.body) s₀.heap s₁.heap&&namesBound p s₁.heap&&gensDone s₁&&laidKept s₀.heap s₁.heap
theorem IF{N:Nat}{F:QO->α}{G:α}(w:Rf)(os:Sh)
  (h0:(eE p w (qH w os).heap.objs.size ((qH w os).heap.nsMap QV "__annotations__") N (GI w os)<|topStub p).map (λs=>Ir p (qH w os) s.abs)=some true)
  (h:(eE p w (qH w os).heap.objs.size ((qH w os).heap.nsMap QV "__annotations__") N (GI w os)<|topStub p).map (λs=>F s.abs)=some G):(Tn RV p w N ⟨RL w.params,Array.mk [],boot_drawn,boot_toks,os⟩).map F=some G:=by
 obtain⟨s',z,e4⟩:=EE.mp h;have r:=iU z;rw[BE] at r;rw[z] at h0;have e3:Ir p (qH w os) s'.abs=true:=QR h0;show(Tn RV p w N<|qH w os).map F=some G;unfold Tn;rw[EU w os];dsimp only;rw[r,Option.bind_some];unfold Ir at e3;rw[e3];exact congrArg some e4
noncomputable def IX(t:BT)(n a:Nat):Option R6:=match Nat.blt a n with
 |true=>alive<|(t.get a).getD default
 |false=>none
theorem Cw(t:BT)(n:Nat)(z:Life)(a:Nat):(absHeap t n z).get? a=IX t n a:=by
 unfold IX Heap.get?;rw[absHeap_at];by_cases h:a<n
 .rw [Z9 h,show Nat.blt a n=true from Nat.ble_eq.mpr h];obtain⟨c,d,J,sl⟩:=(t.get a).getD default;cases J<;>rfl
 .rw [Z8 h];cases e:Nat.blt a n with
  |true=>exact absurd (Nat.ble_eq.mp e) h
  |false=>rfl
theorem Br{N:Nat}{as:List QK}{V:List<|Option R6}(w:Rf)(os:Sh)
  (h0:(eE p w (qH w os).heap.objs.size ((qH w os).heap.nsMap QV "__annotations__") N (GI w os)<|topStub p).map (λs=>Ir p (qH w os) s.abs)=some true)
  (h:(eE p w (qH w os).heap.objs.size ((qH w os).heap.nsMap QV "__annotations__") N (GI w os)<|topStub p).map (λs=>as.map<|IX s.tree s.n)=some V):(Tn RV p w N ⟨RL w.params,Array.mk [],boot_drawn,boot_toks,os⟩).map (λs=>as.map s.heap.get?)=some V:=by
 refine IF w os h0 ?_;rw[<- h];refine congrArg (λf=>Option.map f _)<|funext λs=>?_;show as.map (absHeap s.tree s.n s.life).get?=_;rw[show(absHeap s.tree s.n s.life).get?=IX s.tree s.n from funext λa=>Cw _ _ _ a]
noncomputable def OI{A B C D E F I J M:Type}(x:A×B×C×D×E×F×I×J×M):A×B×E×M:=match x with|(a,b,_,_,e,_,_,_,m)=>(a,b,e,m)
noncomputable def OH{A B C D E F I J M:Type}(x:A×B×C×D×E×F×I×J×M):C×I:=match x with|(_,_,c,_,_,_,i,_,_)=>(c,i)
noncomputable def OG{A B C D E F I J M:Type}(x:A×B×C×D×E×F×I×J×M):D×J:=match x with|(_,_,_,d,_,_,_,j,_)=>(d,j)
noncomputable def OF{A B C D E F I J M:Type}(x:A×B×C×D×E×F×I×J×M):F:=match x with|(_,_,_,_,_,f,_,_,_)=>f
theorem FA{A B C D E F I J M:Type}{r:Option QO}{f:QO->A×B×C×D×E×F×I×J×M}{g:A×B×C×D×E×F×I×J×M}(hA:r.map (λs=>OI<|f s)=some (g.1,g.2.1,g.2.2.2.2.1,g.2.2.2.2.2.2.2.2))(hB:r.map (λs=>OH<|f s)=some (g.2.2.1,g.2.2.2.2.2.2.1))(hC:r.map (λs=>OG<|f s)=some (g.2.2.2.1,g.2.2.2.2.2.2.2.1))(hD:r.map (λs=>OF<|f s)=some g.2.2.2.2.2.1):r.map f=some g:=by
 cases r with
 |none=>cases hA
 |some s=>
  replace hA:=QR hA;replace hB:=QR hB;replace hC:=QR hC;replace hD:=QR hD;exact congrArg some<|SU (congrArg (·.1) hA)<|SU (congrArg (·.2.1) hA)<|SU (congrArg (·.1) hB)<|SU (congrArg (·.1) hC)<|SU (congrArg (·.2.2.1) hA)<|SU hD<|SU (congrArg (·.2) hB)<|SU (congrArg (·.2) hC)<|congrArg (·.2.2.2) hA
noncomputable def vw(p:Q6)(ix:List Nat):Q6:={ p with main:={ p.main with body:=ix.filterMap λi=>p.main.body[i]? } }
noncomputable def Vw:Q6:=vw PySem.Challenge.pw_sorthall_k94_whole_any_rule [0,2,3,4,5,7,9,10,11,12,13,14,15,17,19,21,22,23,24,25,27,28,30,31,32,33,35,38,40,41,42,43,46,48,51,55,56,57,58,59,60,61,62,63,64,65,66,68,69,70,71,72,73,74,75,76,77,78,79,80,81,82,83,84,85,86,87,88,89,90,91,92]
noncomputable abbrev IV(w:Rf)(os:Sh):Option QO:=Tn RV PySem.Challenge.pw_sorthall_k94_whole_any_rule w 13900 ⟨RL w.params,Array.mk [],boot_drawn,boot_toks,os⟩
noncomputable abbrev IW(s:QO):=openSeen L2.Vw (["stretch_from","filled","by_pile","in_rounds","by_pieces"]:List Q3) (SW PySem.Challenge.pw_sorthall_k94_whole_any_rule.main.body) (λs=>xlAt L2.Vw [] s&&recOk (RowW.records<|OpenRow.toRowW<|OpenLaw.row PySem.Challenge.rw_sorthall_k94_whole_any_rule) s) true s
noncomputable abbrev Cq:=openGood L2.Vw (["stretch_from","filled","by_pile","in_rounds","by_pieces"]:List Q3)
set_option maxHeartbeats 0 in
theorem qY:∀(w:Rf) (os:Sh),(eE PySem.Challenge.pw_sorthall_k94_whole_any_rule w (qH w os).heap.objs.size ((qH w os).heap.nsMap QV "__annotations__") 13900 (GI w os)<|topStub PySem.Challenge.pw_sorthall_k94_whole_any_rule).map (λs=>Ir PySem.Challenge.pw_sorthall_k94_whole_any_rule (qH w os) s.abs)=some true:=by
 intro w os
 kernel_rfl
set_option maxHeartbeats 0 in
theorem Hi:∀(w:Rf) (os:Sh),(IV w os).map (λs=>OI<|IW s)=some (Cq.1,Cq.2.1,Cq.2.2.2.2.1,Cq.2.2.2.2.2.2.2.2):=by
 intro w os;refine IF w os (qY w os) ?_
 kernel_rfl
set_option maxHeartbeats 0 in
theorem Hh:∀(w:Rf) (os:Sh),(IV w os).map (λs=>OH<|IW s)=some (Cq.2.2.1,Cq.2.2.2.2.2.2.1):=by
 intro w os;refine IF w os (qY w os) ?_
 kernel_rfl
set_option maxHeartbeats 0 in
theorem Hg:∀(w:Rf) (os:Sh),(IV w os).map (λs=>OG<|IW s)=some (Cq.2.2.2.1,Cq.2.2.2.2.2.2.2.1):=by
 intro w os;refine IF w os (qY w os) ?_
 kernel_rfl
set_option maxHeartbeats 0 in
theorem Hf:∀(w:Rf) (os:Sh),(IV w os).map (λs=>OF<|IW s)=some Cq.2.2.2.2.2.1:=by
 intro w os;refine IF w os (qY w os) ?_
 kernel_rfl
theorem Hj:∀(w:Rf) (os:Sh),(IV w os).map (λs=>IW s)=some Cq:=λw os=>FA (Hi w os) (Hh w os) (Hg w os)<|Hf w os
local macro_rules | `(tactic| o_law)=>`(tactic| refine holds_law (by(iterate 38 (refine look_both ?_ (by decide +kernel)));decide +kernel) fun said=>?_)
abbrev rr:=OpenLaw.row PySem.Challenge.rw_sorthall_k94_whole_any_rule
set_option maxHeartbeats 0 in
theorem hO(H:PySem.W.Hook){d:DefRec}{kwd:List (PySem.Str×PySem.Expr)}
  (h2:∀(w:Rf) (os:Sh),(IV w os).map (λs=>H.obs s)=some (H.val w))
  (a:defOf L2.Vw rr.name=some (d,kwd))(b:rr.prog.theDef rr.name=some (d.params,d.body,d.scope))(c:kwWritten? d.params.kwonlyargs d.params.kw_defaults=some kwd)(e:(!rr.writes||List.isEmpty rr.records)=true)(k:rr.wellSaid=true)(ok:(chainsOk L2.Vw&&opensWell rr.prog&&(frees rr.toRowW&&rr.within.isEmpty))=true)(hb:rr.prog.bare)(hw:rr.promised)(hc:WalkO L2.Vw ["stretch_from","filled","by_pile","in_rounds","by_pieces"] (XL L2.Vw []) H.says rr.toRowW d kwd fun f vs=>PySem.call f vs):rr.Holds:=holds_open (Xt:=fun s=>xlAt L2.Vw [] s && recOk (RowW.records _) s) (Yf:=H.obs) (Ya:=H.val) (N:=13900) (zq (PySem.W.boot_open (by rfl) (by decide) (fun s=>rfl)) (fun w os=>Hj w os) h2) H.of H.keeps (fun s e=>xl_of s (Bool.and_eq_true_iff.mp e).1) XL.keeps a b c (fun s e=>recFacts_of (Bool.and_eq_true_iff.mp e).2) e k ok hb hw hc
set_option hygiene false in
local macro_rules | `(tactic| o_head $H)=>`(tactic| (refine L2.hO $H (fun w os=>?h2) (by rfl) (by rfl) (by rfl) (by rfl) (by first | assumption | decide +kernel) (by decide +kernel) ⟨rfl,rfl,rfl,rfl,rfl,by decide +kernel⟩ ?hw ?hc;(case h2=>(refine L2.Br w os (L2.qY w os) ?_;kernel_rfl))))
set_option maxHeartbeats 0 in
open_top Xw for PySem.Challenge.rw_sorthall_k94_whole_any_rule
end L2
namespace PySem
open PyProof PyProof.Rows
open Sem (wp)
variable {it:QK}{i:Nat}
def Qt(A:Rm)(h:Rv):Prop:=∀v,A.handled=some v->∃a o vs,v=.ref a/\h.get? a=some o/\o.data=.fields vs/\vs[2]?=some .none
section
variable {prog:Q6}{w:Rf}{A:Rm}{E:QM->QO->Prop}{s:QO}
theorem mZ:entryFor table "proto.unchain"=some TY.«proto.unchain»:=entryFor_of_fast<|by kernel_rfl
theorem Qt.ext{h h':Rv}{o:R6}{vs:Array QM}(q:Qt A h)(J:h.get? it=some o)(O:o.data=.fields vs)(U:vs.size<=2)(k:SS it h h'):Qt A h':=λv e=>by
 obtain⟨a,u,us,h1,h2,h3,z⟩:=q v e;refine⟨a,u,us,h1,k a u (λx=>?_) h2,h3,z⟩;subst x;rw[J] at h2;cases h2;rw[O] at h3;cases h3;rw[Array.getElem?_eq_none U] at z;cases z
theorem Hd{α:Type}{Q:α->QO->Prop}(q:Qt A s.heap)(O:∀x h',(∃o,h'.get? x=some o/\o.cls=.type "StopIteration")->(∀b o,s.heap.get? b=some o->h'.get? b=some o)->E (.ref x) { s with heap:=h' }):
  QX (QZ prog w) A (newExc (.type "StopIteration") []>>=λe=>(raiseNew e:UY α)) Q E s:=by
 have mk:QX (QZ prog w) A (newExc (.type "StopIteration") []) (λv z=>∃x o vs h',v=.ref x/\z={ s with heap:=h' }/\(∀b u,s.heap.get? b=some u->b≠x/\h'.get? b=some u)/\h'.get? x=some o/\o.cls=.type "StopIteration"/\o.data=.fields vs/\2<vs.size) E s:=by
  unfold newExc newTuple;refine QJ (Uz ?_<|by size_fits);refine QJ (m:=firstArgMember _ _)<|wpAny_of_eq (a:=Value.none) (by rfl) ?_;refine Uz ⟨_,_,_,_,rfl,rfl,λb u h=>⟨λz=>?_,QP _<|QP _ h⟩,Q0 _ rfl,rfl,rfl,by simp;lia⟩ (by size_fits);have:=QT h;simp[z,Heap.push] at this;lia
 refine QJ<|Rk mk (λv z m=>?_) λ_ _ x=>x;obtain⟨x,o,vs,h',rfl,rfl,k,J,hc,U,h2⟩:=m;unfold raiseNew;refine QJ<|wpAny_handled ?_;cases e:A.handled with
 |none=>exact QJ<|QS<|wpAny_throw<|O x h' ⟨o,J,hc⟩ λb u h=>(k b u h).2
 |some v=>
  obtain⟨a,u,us,rfl,h3,h4,Z⟩:=q v e;obtain⟨n,h6⟩:=k a u h3;have hn:(Value.ref a !=Value.ref x)=true:=bne_iff_ne.mpr λz=>n (by injection z);dsimp only;rw[Z9 hn];refine QJ<|Rh<|wpAny_runValue<|codeAny_builtin mZ<|QJ<|RQ h6 h4 Z<|QJ<|QS<|QS ?_;refine QJ ?_;unfold updateField;refine QJ<|wpAny_load J ?_;rw[U];dsimp only;rw[Z9 h2];refine wpAny_update J<|wpAny_throw<|O x _ ⟨_,Ua _ J<|Obj.isFreed_of_fields<|Obj.data_mapFields U _,(Obj.cls_mapFields ..).trans hc⟩ λb u h=>?_;exact(R1 _ _<|Q4 (k b u h).1).trans (k b u h).2
theorem vj{b:TY}(hb:b=TY.«list_iterator.__next__»∨b=TY.«tuple_iterator.__next__»){q:QK}{o u:R6}{n:Nat}{xs:Array QM}{Q:Fin->QO->Prop}(hq:Qt A s.heap)(z:s.heap.get? it=some o)(J:o.data=.fields #[.ref q,.int i 0])(Z:s.heap.get? q=some u)(hv:u.data=.seq xs n)(hx:xs[i]?=none)
  (U:∀x h',(∃o,h'.get? x=some o/\o.cls=.type "StopIteration")->SS it s.heap h'->E (.ref x) { s with heap:=h' }):QX (QZ prog w) A (b ⟨[.ref it],[]⟩) Q E s:=by
 have O:SS it s.heap<|s.heap.update it<|Obj.mapFields (·.setIfInBounds 0 .none):=(Heap.SameBut.update ..).extBut;rcases hb with rfl|rfl<;>
 .refine QJ (m:=field (.ref it) 0) (RQ z J rfl ?_);refine QJ (m:=field (.ref it) 1)<|RQ z J rfl ?_;refine QJ (m:=seqItems?<|.ref q)<|Sj Z hv ?_;simp only[Int.toNat_natCast,hx];refine QJ<|Ut<|QJ<|wpAny_setField z J (by simp) ?_;exact Hd (hq.ext z J (by simp) O) λx h' c k=>U x h' c λb o n e=>k b o<|O b o n e
theorem xb{l:QK}{items}{Q:Option QM->QO->Prop}(O:Qt A s.heap)(z:s.heap.IsListIter it l i)(hl:s.heap.IsList l items)(hx:items[i]?=none)(hQ:∀h',SS it s.heap h'->Q none { s with heap:=h' }):QX (QZ prog w) A (Uv<|.ref it) Q E s:=by
 obtain⟨o,J,_,Z⟩:=id z;obtain⟨u,U,_,n,hv⟩:=hl;exact QJ<|Tt<|SE (name:=QQ "__next__") z.typeIs slot_listiter_next<|Sq slot_listiter_next z.typeIs entry_listiter_next (vj (.inl rfl) O J Z U hv hx λx h' c k=>QJ<|TK (T:="StopIteration") (b:=true) c U4<|QS<|hQ h' k)<|args_listiter_next _
theorem uc{t:QK}{items}{Q:Option QM->QO->Prop}(U:Qt A s.heap)(z:IsTupIter s.heap it t i)(J:IsTup s.heap t items)(hx:items[i]?=none)(hQ:∀h',SS it s.heap h'->Q none { s with heap:=h' }):QX (QZ prog w) A (Uv<|.ref it) Q E s:=by
 obtain⟨o,O,_,hd⟩:=id z;obtain⟨u,Z,_,n,hv⟩:=J;exact QJ<|Tt<|SE (name:=QQ "__next__") z.typeIs slot_tupleiter_next<|Sq slot_tupleiter_next z.typeIs entry_tupleiter_next (vj (.inr rfl) U O hd Z hv hx λx h' c k=>QJ<|TK (T:="StopIteration") (b:=true) c U4<|QS<|hQ h' k)<|args_tupleiter_next _
theorem nJ{env:UR}{J:List Rw}{x1}{pos:UG}{t:QK}{z:Array QM}{Q:Unit->QO->Prop}(hh:Qt A s.heap)(U:IsTup s.heap t z)(hn:(RM J env).length=z.size)(O:(RM J env).findIdx? (·.1)=none)
  (h:∀h',SS s.heap.objs.size s.heap h'->QX (QZ prog w) A (assignInOrder ((RM J env).map (·.2)) z.toList) Q E { s with heap:=h' }):QX (QZ prog w) A (assign (.Tuple J x1 pos) env<|.ref t) Q E s:=by
 have tl:t≠s.heap.objs.size:=lD<|QT U.choose_spec.1;rw[assign_Tuple];refine QJ<|Ts ?_;unfold unpack;rw[hn,O];refine QJ<|Rh<|QJ<|QJ<|T1 U.typeIs slot_tuple_iter.lookup<|QS ?_;refine QJ<|Rh<|iter_tuple U<|QJ<|Rh<|draw_tuple tl z.size 0 _ _ ⟨_,Q0 _ rfl,rfl,rfl⟩ (U.push _) (by lia) λh1 i1 s1=>?_;have al:(z.toList.drop 0).take z.size=z.toList:=pE (by simp);rw[al,Z8<|by simp];have Z:SS s.heap.objs.size s.heap h1:=λb o n e=>s1.extBut b o n<|QP _ e;have q1:Qt A h1:=Qt.ext (h:=s.heap.push _) (λv e=>by
  obtain⟨a,o,vs,z1,z2,z3⟩:=hh v e;exact⟨a,o,vs,z1,QP _ z2,z3⟩) (Q0 _ rfl) rfl (by simp) s1.extBut
 refine QJ<|Rh<|uc q1 i1 (U.extBut Z tl) (by simp) λh2 k2=>?_;exact QS<|h h2 λb o n e=>k2 b o n<|Z b o n e
end
end PySem
namespace L2
open PySem PySem.Spec PyProof.Rows
variable {C a dx it:QK}{i k n t':Nat}{scope:SQ}{base h:Rv}{c e tg:Rw}{pos pos':UG}{us:List QM}{outer:List UR}{w:Rf}{E Q:QM->QO->Prop}{qual x:Q3}{lo:Int}{ch fp:List QK}{ps:List Q3}{body:List Q9}{pl:UY Bool}{K:W.Frag}{s:QO}{pins:List (QK×R6)}{P:Q6}{u:QM}
inductive X2{A0 A1:Type}(p:A0->A1->Prop):Prop|mk (a:A0) (b:A1):p a b->X2 p
inductive X3{A0 A1 A2:Type}(p:A0->A1->A2->Prop):Prop|mk (a:A0) (b:A1) (c:A2):p a b c->X3 p
inductive X4{A0 A1 A2 A3:Type}(p:A0->A1->A2->A3->Prop):Prop|mk (a:A0) (b:A1) (c:A2) (d:A3):p a b c d->X4 p
inductive X5{A0 A1 A2 A3 A4:Type}(p:A0->A1->A2->A3->A4->Prop):Prop|mk (a:A0) (b:A1) (c:A2) (d:A3) (e:A4):p a b c d e->X5 p
inductive X6{A0 A1 A2 A3 A4 A5:Type}(p:A0->A1->A2->A3->A4->A5->Prop):Prop|mk (a:A0) (b:A1) (c:A2) (d:A3) (e:A4) (f:A5):p a b c d e f->X6 p
inductive X7{A0 A1 A2 A3 A4 A5 A6:Type}(p:A0->A1->A2->A3->A4->A5->A6->Prop):Prop|mk (a:A0) (b:A1) (c:A2) (d:A3) (e:A4) (f:A5) (g:A6):p a b c d e f g->X7 p
inductive X8{A0 A1 A2 A3 A4 A5 A6 A7:Type}(p:A0->A1->A2->A3->A4->A5->A6->A7->Prop):Prop|mk (a:A0) (b:A1) (c:A2) (d:A3) (e:A4) (f:A5) (g:A6) (h:A7):p a b c d e f g h->X8 p
inductive X9{A0 A1 A2 A3 A4 A5 A6 A7 A8:Type}(p:A0->A1->A2->A3->A4->A5->A6->A7->A8->Prop):Prop|mk (a:A0) (b:A1) (c:A2) (d:A3) (e:A4) (f:A5) (g:A6) (h:A7) (i:A8):p a b c d e f g h i->X9 p
inductive Pa{A0 A1 A2 A3 A4 A5 A6 A7 A8 A9 A10:Type}(p:A0->A1->A2->A3->A4->A5->A6->A7->A8->A9->A10->Prop):Prop|mk (a:A0) (b:A1) (c:A2) (d:A3) (e:A4) (f:A5) (g:A6) (h:A7) (i:A8) (j:A9) (k:A10):p a b c d e f g h i j k->Pa p
inductive OZ{A0 A1 A2 A3 A4 A5 A6 A7 A8 A9 A10 A11 A12 A13 A14 A15 A16:Type}(p:A0->A1->A2->A3->A4->A5->A6->A7->A8->A9->A10->A11->A12->A13->A14->A15->A16->Prop):Prop|mk (a0:A0) (a1:A1) (a2:A2) (a3:A3) (a4:A4) (a5:A5) (a6:A6) (a7:A7) (a8:A8) (a9:A9) (a10:A10) (a11:A11) (a12:A12) (a13:A13) (a14:A14) (a15:A15) (a16:A16):p a0 a1 a2 a3 a4 a5 a6 a7 a8 a9 a10 a11 a12 a13 a14 a15 a16->OZ p
noncomputable abbrev Key:=Sum Int Q3
noncomputable def GP:Key->QM->Bool
 |.inl k,v=>Value.isInt k v
 |.inr x,v=>Value.isStrOf x v
noncomputable def Kb(w:Rf):Key->Int
 |.inl k=>hashInt k
 |.inr x=>hashStr w x
theorem C6:∀{k:Key} {v:QM},GP k v=true->(∃i t,k=Sum.inl i/\v=Value.int i t)∨(∃x t,k=Sum.inr x/\v=Value.str x t)
 |.inl i,v,h=>by
  obtain⟨t,e⟩:=Value.isInt_shape (k:=i) (v:=v) h;exact .inl ⟨i,t,rfl,e⟩
 |.inr x,v,h=>by
  obtain⟨t,e⟩:=Value.isStrOf_shape (x:=x) (v:=v) h;exact .inr ⟨x,t,rfl,e⟩
theorem xg(i:Int)(t:Tok):GP (.inl i) (.int i t)=true:=by simp[GP,Value.isInt]
theorem xf(x:Q3)(t:Tok):GP (.inr x) (.str x t)=true:=by simp[GP,Value.isStrOf]
theorem Fq(a b:Int):decide ((Sum.inl a:Key)=Sum.inl b)=(a==b):=by
 by_cases e:a=b
 .subst e;simp
 .have h:¬ (Sum.inl a:Key)=Sum.inl b:=λq=>e<|Sum.inl.inj q;rw[decide_eq_false h];exact(beq_eq_false_iff_ne.mpr e).symm
theorem Fl(a b:Q3):decide ((Sum.inr a:Key)=Sum.inr b)=decide (a=b):=by
 by_cases e:a=b
 .subst e;simp
 .have h:¬ (Sum.inr a:Key)=Sum.inr b:=λq=>e<|Sum.inr.inj q;rw[decide_eq_false h,decide_eq_false e]
theorem Fp(a:Int)(b:Q3):decide ((Sum.inl a:Key)=Sum.inr b)=false:=decide_eq_false λq=>nomatch q
theorem Fm(a:Q3)(b:Int):decide ((Sum.inr a:Key)=Sum.inl b)=false:=decide_eq_false λq=>nomatch q
noncomputable def gK(prog:Q6)(w:Rf):PySem.KeyKind prog w Key where
 is:=GP
 hash:=Kb w
 inj:=λv a b ha hb=>by
  rcases C6 ha with ⟨i,t,rfl,rfl⟩|⟨x,t,rfl,rfl⟩
  .rcases C6 hb with ⟨j,u,rfl,e⟩|⟨y,u,rfl,e⟩
   .injection e with e1 _;rw[e1]
   .exact nomatch e
  .rcases C6 hb with ⟨j,u,rfl,e⟩|⟨y,u,rfl,e⟩
   .exact nomatch e
   .injection e with e1 _;rw[e1]
 byValue:=λk v h=>by
  rcases C6 h with ⟨i,t,rfl,rfl⟩|⟨x,t,rfl,rfl⟩<;>rfl
 pyHash:=λhv h=>by
  rcases C6 hv with ⟨i,t,rfl,rfl⟩|⟨x,t,rfl,rfl⟩
  .exact wpAny_pyHash_int h
  .exact wpAny_pyHash_str h
 eqBool:=λhu hv h=>by
  rcases C6 hu with ⟨i,t,rfl,rfl⟩|⟨x,t,rfl,rfl⟩
  .rcases C6 hv with ⟨j,u,rfl,rfl⟩|⟨y,u,rfl,rfl⟩
   .rw [Fq] at h;exact UN h
   .rw [Fp] at h;exact SeqAt.EqAt.int_str i t y u _ _ _ _ h
  .rcases C6 hv with ⟨j,u,rfl,rfl⟩|⟨y,u,rfl,rfl⟩
   .rw [Fm] at h;exact SeqAt.EqAt.str_int x t j u _ _ _ _ h
   .rw [Fl] at h;exact wpAny_eqBool_str h
 «strs»:=λk x t v h=>by
  rcases C6 h with ⟨i,u,rfl,e⟩|⟨y,u,rfl,e⟩
  .exact nomatch e
  .injection e with e1 _
   subst e1;cases v<;>rfl
theorem rT(prog:Q6)(w:Rf)(i:Int)(t:Tok):(gK prog w).is (.inl i) (.int i t)=true:=xg i t
theorem rS(prog:Q6)(w:Rf)(x:Q3)(t:Tok):(gK prog w).is (.inr x) (.str x t)=true:=xf x t
inductive V where
 |VA|bl (b:Bool)|int (i:Int)|str (x:Q3)|byt (b:Array UInt8)|flt (b:UInt64)|ref (a:QK)|ty (n:String)
 deriving DecidableEq
variable {v y:V}{vs xs:List V}
def RelV:V->QM->Prop
 |.VA,u=>u=Value.none
 |.bl b,u=>u=Value.bool b
 |.int i,u=>∃t,u=Value.int i t
 |.str x,u=>∃t,u=Value.str x t
 |.byt b,u=>∃t,u=Value.bytes b t
 |.flt b,u=>∃t,u=Value.float b t
 |.ref a,u=>u=Value.ref a
 |.ty n,u=>u=Value.type n
noncomputable abbrev Vals:List V->List QM->Prop:=Paired RelV
theorem Vals.length(r:Vals xs us):xs.length=us.length:=Us r
theorem Vals.get:∀{xs:List V} {us:List QM} {i:Nat} {x:V},Vals xs us->xs[i]?=some x->∃u,us[i]?=some u/\RelV x u
 |_,_,_,_,.nil,e=>by simp at e
 |_,_,0,_,.cons r _,e=>by simp at e;subst e;exact⟨_,rfl,r⟩
 |_,_,i+1,x,.cons _ t,e=>by
  obtain⟨u,h1,h2⟩:=Vals.get (i:=i) (x:=x) t (by simpa using e);exact⟨u,by simpa using h1,h2⟩
theorem Vals.set{x:V}{u:QM}(r:RelV x u):∀{xs:List V} {us:List QM} (i:Nat),Vals xs us->Vals (xs.set i x) (us.set i u)
 |_,_,_,.nil=>.nil
 |_,_,0,.cons _ t=>.cons r t
 |_,_,i+1,.cons q t=>.cons q<|Vals.set r i t
theorem Vals.append:∀{xs ys:List V} {us ws:List QM},Vals xs us->Vals ys ws->Vals (xs++ys) (us++ws)
 |_,_,_,_,.nil,s=>s
 |_,_,_,_,.cons r t,s=>.cons r<|Vals.append t s
theorem Vals.take:∀{xs:List V} {us:List QM} (n:Nat),Vals xs us->Vals (xs.take n) (us.take n)
 |_,_,0,_=>.nil
 |_,_,_+1,.nil=>.nil
 |_,_,n+1,.cons r t=>.cons r<|Vals.take n t
theorem Vals.drop:∀{xs:List V} {us:List QM} (n:Nat),Vals xs us->Vals (xs.drop n) (us.drop n)
 |_,_,0,r=>r
 |_,_,_+1,.nil=>.nil
 |_,_,n+1,.cons _ t=>Vals.drop n t
def gM:Option V->Option QM->Prop
 |some v,some u=>RelV v u
 |none,none=>True
 |_,_=>False
def KV{κ:Type}:List (κ×V)->List (κ×QM)->Prop:=Paired λ(p:κ×V) (q:κ×QM)=>p.1=q.1/\RelV p.2 q.2
noncomputable def kV:Key->V
 |.inl i=>.int i
 |.inr x=>.str x
inductive HO where
 |lst (xs:List V)
 |tup (xs:List V)
 |dK (kvs:List<|Key×V)|dT (kvs:List<|List Key×V)
 |set (S:Int->Bool) (n:Nat)
 |ins (C dx:QK) (fs:List<|Q3×V)
 |own (x:QK)
 |xd (fs:List<|Q3×V)
 |met (f x:QK)
 |rng (lo hi:Int)
 |frz (o:R6) (u:HO)
 |tbl (ps:Array QM)
 |ext (φ:Rv->Prop)
variable {o:HO}
noncomputable abbrev Hp:=QK->Option HO
variable {H:Hp}
noncomputable def upd(H:Hp)(a:QK)(o:HO):Hp:=λb=>if b=a then some o else H b
theorem aS:upd H a o a=some o:=by unfold upd;rw[Z9 rfl]
theorem bF{b:QK}(h:b≠a):upd H a o b=H b:=by unfold upd;rw[Z8 h]
theorem uV{u:HO}:upd (upd H a o) a u=upd H a u:=by
 funext b;unfold upd;split<;>rfl
theorem HG{b:QK}{u:HO}(h:H a=some o)(h':H b=some u)(d:o≠u):a≠b:=by
 intro e;subst e;rw[h] at h';exact d<|QR h'
theorem bR{b:QK}(h:H a=some o)(h':H b=none):a≠b:=by
 intro e;subst e;rw[h] at h';cases h'
section
variable (P:Q6)(w:Rf)
def bJ(H:Hp)(h:Rv)(a:QK):HO->Prop
 |.lst xs=>xs.length<=sizeLine/\∃(its:List QM) (n:Nat),Vals xs its/\h.get? a=some { cls:=.type "list",data:=.seq its.toArray n }
 |.tup xs=>xs.length<=sizeLine/\∃its:List QM,Vals xs its/\IsTup h a its.toArray
 |.dK kvs=>kvs.length<=sizeLine/\(a==Sk)=false/\∃vs,KV kvs vs/\h.DictOf (gK P w) a vs
 |.dT kvs=>kvs.length<=sizeLine/\(a==Sk)=false/\∃xs:List<|List Key×QK×QM,
   Paired (λ(p:List Key×V) (q:List Key×QK×QM)=>p.1=q.1/\H q.2.1=some (.tup<|p.1.map kV)/\RelV p.2 q.2.2) kvs xs/\
   ∃o es ep,h.get? a=some o/\o.ExactDict/\o.data=.dict es ep/\es.toList=xs.map (RE<|Rn<|gK P w)/\(xs.map (·.1)).Nodup
 |.set S n=>h.SetOf (intKind P w) a S n
 |.ins C dx fs=>H dx=some (.own a)/\fs.length<=1000/\dx≠a/\h.get? a=some (RJ C dx)/\
   ∃mA,h.Ns1 dx mA/\(∀f,gM (fs.lookup f)<|mA f)/\PySem.Within mA (fs.map (·.1))
 |.own _=>∃o,h.get? a=some o
 |.xd fs=>∃mA,h.Ns1 a mA/\∀f,gM (fs.lookup f)<|mA f
 |.rng lo hi=>L2.X3 λt u v=>h.get? a=some { cls:=.type "range",data:=.fields #[.int lo t,.int hi u,.int 1 v] }
 |.frz o u=>h.get? a=some o/\bJ H h a u
 |.tbl ps=>h.get? a=some { cls:=.none,data:=.fields ps }
 |.met f x=>h.get? a=some (T8 (.ref f)<|.ref x)
 |.ext φ=>φ h/\(∃o,h.get? a=some o)/\∀h1 h2:Rv,φ h1->(∀o,h1.get? a=some o->h2.get? a=some o)->φ h2
def iQ(H:Hp)(h:Rv):Prop:=∀a o,H a=some o->bJ P w H h a o
end
section
variable {H':Hp}{h':Rv}
theorem bJ.lt(x:bJ P w H h a o):a<h.objs.size:=by
 cases o with
 |lst xs=>obtain⟨_,_,_,_,e⟩:=x;exact QT e
 |tup xs=>obtain⟨_,_,_,p⟩:=x;exact p.lt
 |dK kvs=>obtain⟨_,_,_,_,o,_,_,e,_⟩:=x;exact QT e
 |dT kvs=>obtain⟨_,_,_,_,o,_,_,e,_⟩:=x;exact QT e
 |set S n=>obtain⟨o,_,_,_,e,_⟩:=x;exact QT e
 |ins C dx fs=>obtain⟨_,_,_,e,_⟩:=x;exact QT e
 |own y=>obtain⟨_,e⟩:=x;exact QT e
 |xd fs=>obtain⟨_,⟨_,_,_,e,_⟩,_⟩:=x;exact QT e
 |rng lo hi=>obtain⟨_,_,_,e⟩:=x;exact QT e
 |frz ob u=>obtain⟨e,_⟩:=x;exact QT e
 |tbl ps=>exact QT (show h.get? a=some _ from x)
 |met f y=>exact QT (show h.get? a=some _ from x)
 |ext φ=>obtain⟨_,⟨_,e⟩,_⟩:=x;exact QT e
theorem Paired.Xg{α z:Type}{F G:α->z->Prop}:∀{l₁:List α} {l₂:List z},Paired F l₁ l₂->(∀a b,F a b->G a b)->Paired G l₁ l₂
 |_,_,.nil,_=>.nil
 |_,_,.cons r t,f=>.cons (f _ _ r)<|Paired.Xg t f
theorem bJ.Wm(x:bJ P w H h a o)(k:∀b u,(b=a∨H b=some (.own a))->h.get? b=some u->h'.get? b=some u)
  (O:∀b,H b=some (.own a)->H' b=some (.own a)) (J:∀b xs,H b=some (.tup xs)->H' b=some (.tup xs)):bJ P w H' h' a o:=by
 induction o with
 |lst xs=>obtain⟨z,its,n,r,e⟩:=x;exact⟨z,its,n,r,k _ _ (.inl rfl) e⟩
 |tup xs=>obtain⟨z,its,r,ob,e,c⟩:=x;exact⟨z,its,r,ob,k _ _ (.inl rfl) e,c⟩
 |dK kvs=>obtain⟨z,y,vs,r,ob,es,ep,e,c⟩:=x;exact⟨z,y,vs,r,ob,es,ep,k _ _ (.inl rfl) e,c⟩
 |dT kvs=>
  obtain⟨z,y,xs,r,ob,es,ep,e,c⟩:=x;exact⟨z,y,xs,Paired.Xg r λp q z=>⟨z.1,J _ _ z.2.1,z.2.2⟩,ob,es,ep,k _ _ (.inl rfl) e,c⟩
 |set S n=>obtain⟨ob,es,ep,t,e,c⟩:=x;exact⟨ob,es,ep,t,k _ _ (.inl rfl) e,c⟩
 |ins C dx fs=>
  obtain⟨d,z,ne,e,mA,⟨od,es,ep,e2,c⟩,r⟩:=x;exact⟨O _ d,z,ne,k _ _ (.inl rfl) e,mA,⟨od,es,ep,k _ _ (.inr d) e2,c⟩,r⟩
 |own y=>obtain⟨ob,e⟩:=x;exact⟨ob,k _ _ (.inl rfl) e⟩
 |xd fs=>obtain⟨mA,⟨od,es,ep,e,c⟩,r⟩:=x;exact⟨mA,⟨od,es,ep,k _ _ (.inl rfl) e,c⟩,r⟩
 |rng lo hi=>obtain⟨t,u,v,e⟩:=x;exact⟨t,u,v,k _ _ (.inl rfl) e⟩
 |frz ob u ih=>obtain⟨e,q⟩:=x;exact⟨k _ _ (.inl rfl) e,ih q⟩
 |tbl ps=>
  have e:h.get? a=some { cls:=.none,data:=.fields ps }:=x;show h'.get? a=some { cls:=.none,data:=.fields ps };exact k a _ (.inl rfl) e
 |met f y=>
  have e:h.get? a=some (T8 (.ref f)<|.ref y):=x;show h'.get? a=some (T8 (.ref f)<|.ref y);exact k a _ (.inl rfl) e
 |ext φ=>obtain⟨p,⟨o,e⟩,st⟩:=x;exact⟨st _ _ p λo q=>k _ _ (.inl rfl) q,⟨o,k _ _ (.inl rfl) e⟩,st⟩
theorem iQ.lt(x:iQ P w H h)(e:H a=some o):a<h.objs.size:=(x a o e).lt
theorem iQ.fresh(x:iQ P w H h)(e:h.objs.size<=a):H a=none:=by
 cases q:H a with
 |none=>rfl
 |some u=>exact absurd (qL (x.lt q) e)<|Bm _
theorem iQ.kept(x:iQ P w H h)(k:∀b u,h.get? b=some u->h'.get? b=some u):iQ P w H h':=λa o e=>
 (x a o e).Wm (λb u _ q=>k b u q) (λ_ q=>q) λ_ _ q=>q
theorem iQ.laid(x:iQ P w H h)(k:∀b u,h.get? b=some u->h'.get? b=some u)(z:h.objs.size<=a)(new:bJ P w (upd H a o) h' a o):iQ P w (upd H a o) h':=λb u e=>by
 have hn:=x.fresh z;by_cases hb:b=a
 .subst hb;rw[aS] at e;cases e;exact new
 .rw [bF hb] at e;exact(x b u e).Wm (λc v _ q=>k c v q) (λc q=>by rw[bF<|bR q hn];exact q) λc xs q=>by rw[bF<|bR q hn];exact q
end
def Rd(H:Hp)(a:QK)(u:HO):Prop:=H a=some u∨∃o,H a=some (.frz o u)
theorem Rd.ok{u:HO}(r:Rd H a u)(x:iQ P w H h):bJ P w H h a u:=by
 rcases r with r|⟨o,r⟩
 .exact x a u r
 .obtain ⟨_,q⟩:=x a _ r;exact q
def IM:Option HO->Prop
 |some (.lst _)=>True
 |some (.dK _)=>True
 |some (.dT _)=>True
 |some (.set _ _)=>True
 |some (.ins _ _ _)=>True
 |some (.ext _)=>True
 |_=>False
section
variable {h':Rv}{x e:QK}{o':HO}
theorem iQ.write(ok:iQ P w H h)(U:IM<|H x)(he:e=x∨H e=some (.own x))(k:∀b u,b≠e->h.get? b=some u->h'.get? b=some u)(Z:∃u,h'.get? e=some u)
  (new:bJ P w (upd H x o') h' x o'):iQ P w (upd H x o') h':=λb u q=>by
 have J:∀c y,H c=some (.own y)->c≠x:=λc y r z=>by subst z;rw[r] at U;exact U
 have O:∀c xs,H c=some (.tup xs)->c≠x:=λc xs r z=>by subst z;rw[r] at U;exact U
 by_cases hb:b=x
 .subst hb;rw[aS] at q;cases q;exact new
 .rw [bF hb] at q;by_cases Xo:b=e
  .have q':H b=some (.own x):=by
    rcases he with z|z
    .exact absurd (Xo.trans z) hb
    .rw [Xo];exact z
   rw[q] at q';cases q';obtain⟨v,hv⟩:=Z;exact⟨v,by rw[Xo];exact hv⟩
  .refine (ok b u q).Wm (λc v hc r=>k c v ?_ r) (λc r=>by rw[bF<|J c b r];exact r) λc xs r=>by rw[bF<|O c xs r];exact r
   rcases hc with rfl|hc
   .exact Xo
   .rintro rfl;rcases he with z|z
    .exact J c b hc z
    .rw [hc] at z;cases z;exact hb rfl
end
structure Un(fs ex:List QK)(H H':Hp)(h h':Rv):Prop where
 keep:∀b o,h.get? b=some o->H b=none->b∉fs->b∉ex->h'.get? b=some o
 slot:∀b o,h.get? b=some o->H b=none->b∈fs->b∉ex->∃sl,h'.get? b=some { o with slots:=sl }
 free:∀b o,h.get? b=some o->H b=none->b∉ex->H' b=none
 there:∀b o,h.get? b=some o->b∉ex->∃o',h'.get? b=some o'
 Wj:∀b xs,H b=some (.tup xs)->H' b=some (.tup xs)
 Wg:∀b o u,H b=some (.frz o u)->H' b=some (.frz o u)
 Wk:∀b ps,H b=some (.tbl ps)->∃more,H' b=some (.tbl<|ps++more)
section
variable {fs fs' ex ex':List QK}{H1 H2:Hp}{h1 h2 h':Rv}{x e:QK}
theorem Un.any(u:Un fs ex H H1 h h1){b:QK}{ob:R6}(q:h.get? b=some ob)(n:H b=none)(z:b∉ex):∃sl,h1.get? b=some { ob with slots:=sl }:=by
 by_cases hb:b∈fs
 .exact u.slot b ob q n hb z
 .exact ⟨ob.slots,u.keep b ob q n hb z⟩
theorem Un.kept(k:∀b u,h.get? b=some u->h'.get? b=some u):Un fs ex H H h h':=
 ⟨λb ob q _ _ _=>k b ob q,λb ob q _ _ _=>⟨ob.slots,k b ob q⟩,λ_ _ _ n _=>n,λb ob q _=>⟨ob,k b ob q⟩,λ_ _ q=>q,λ_ _ _ q=>q,λ_ ps q=>⟨#[],by rw[q];simp⟩⟩
theorem Un.refl:Un fs ex H H h h:=Un.kept λ_ _ q=>q
theorem Un.laid(k:∀b u,h.get? b=some u->h'.get? b=some u)(z:h.objs.size<=a)(hn:H a=none):Un fs ex H (upd H a o) h h' where
 keep:=λb u q _ _ _=>k b u q
 slot:=λb u q _ _ _=>⟨u.slots,k b u q⟩
 free:=λb u q n _=>by rw[bF<|lD<|qL (QT q) z];exact n
 there:=λb u q _=>⟨u,k b u q⟩
 Wj:=λb xs q=>by rw[bF<|bR q hn];exact q
 Wg:=λb u xs q=>by rw[bF<|bR q hn];exact q
 Wk:=λb ps q=>⟨#[],by rw[bF<|bR q hn,q];simp⟩
theorem Un.write(J:IM<|H x)(he:e=x∨H e=some (.own x))(k:∀b u,b≠e->h.get? b=some u->h'.get? b=some u)(O:∃u,h'.get? e=some u):Un fs ex H (upd H x o) h h':=by
 have Z:∀b,H b=none->b≠x:=λb n z=>by subst z;rw[n] at J;exact J
 have U:∀b,H b=none->b≠e:=λb n z=>by
  subst z;rcases he with r|r
  .exact Z b n r
  .rw [n] at r;cases r
 have hm:∀b u,H b=some u->¬ IM (some u)->b≠x:=λb u q nm z=>by subst z;rw[q] at J;exact nm J
 refine⟨λb u q n _ _=>k b u (U b n) q,λb u q n _ _=>⟨u.slots,k b u (U b n) q⟩,λb u q n _=>by rw[bF<|Z b n];exact n,λb u q _=>?_,
  λb xs q=>by rw[bF<|hm b _ q λz=>z];exact q,λb u xs q=>by rw[bF<|hm b _ q λz=>z];exact q,λb ps q=>⟨#[],by rw[bF<|hm b _ q λz=>z,q];simp⟩⟩
 by_cases Xo:b=e
 .subst Xo;exact O
 .exact ⟨u,k b u Xo q⟩
end
noncomputable def trk(h:Rv)(H:Hp):List QK:=(QL h.objs.size).filter λa=>(H a).isSome
noncomputable def pY(h:Rv)(H:Hp):Rv:=PySem.W.hideAll h<|trk h H
theorem xm(h:Rv)(H:Hp):(pY h H).objs.size=h.objs.size:=PySem.W.hideAll_size _ _
theorem zK{b:QK}{o:R6}(e:h.get? b=some o)(n:H b=none):(pY h H).get? b=some o:=
 PySem.W.hideAll_get _ e λhm=>by
  have q:(H b).isSome=true:=(AQ.mp hm).2;rw[n] at q;simp at q
theorem BY{b:QK}{o:R6}(e:(pY h H).get? b=some o):h.get? b=some o/\H b=none:=by
 have J:h.get? b=some o:=PySem.W.of_hideAll (trk h H) e;refine⟨J,?_⟩;cases q:H b with
 |none=>rfl
 |some x=>
  have hm:b∈trk h H:=AQ.mpr ⟨mL.mpr<|QT J,by simp[q]⟩;have z:(pY h H).get? b=none:=PySem.W.hideAll_none (trk h H) hm;rw[z] at e;cases e
structure Mod(K:W.Frag)(mg:Q3->Option QM)(base:Rv):Prop where
 Xz:K.In base
 glob:base.Ns QV mg
 blt:∃mb,base.Ns builtinsNs mb/\∀x:Q3,x≠"__name__"->mb x=SH x
 nolimit:base.NoLimit
structure Cx where
 prog:Q6
 w:Rf
 K:W.Frag
 mg:Q3->Option QM
 base:Rv
 A:Rm
 N:List Q3
 s₀:QO
 H₀:Hp
 env:UR
 outer:List UR
 stack:List UR
 ex:List QK
 fn:Q3->Bool
 calm:Bool
 pn:List<|QK×R6
 xe:QM->QO->Prop
variable {X:Cx}
noncomputable def frs(l:List UR):List QK:=l.filterMap (·.frame)
noncomputable abbrev Cx.fs(X:Cx):List QK:=frs X.outer
def IG(sc:SQ)(x:Q3):Prop:=sc.names.lookup x=some .local∨sc.names.lookup x=some .cell∨sc.names.lookup x=some .free
def Loc(sc:SQ)(x:Q3):Prop:=sc.names.lookup x=some .local∨sc.names.lookup x=some .cell
def Look(env:UR)(h:Rv)(m:Q3->Option QM)(x:Q3)(u:QM):Prop:=
 (env.kindOf x=some .local/\m x=some u)∨((env.kindOf x=some .cell∨env.kindOf x=some .free)/\∃c,env.cells.lookup x=some c/\h.IsCell c (some u))
structure Cx.Ok(X:Cx):Prop where
 mod:Mod X.K X.mg X.base
 kind:X.env.scope.kind=.function
 glob:X.env.globals=QV
 blt:X.env.builtins=builtinsNs
 above:X.s₀.heap.objs.size<=X.env.locals
 inj:∀x y c,X.env.cells.lookup x=some c->X.env.cells.lookup y=some c->x=y
 has:∀x,(X.env.kindOf x=some .cell∨X.env.kindOf x=some .free)->∃c,X.env.cells.lookup x=some c
 XG:∀x c,X.fn x=true->X.env.cells.lookup x=some c->X.s₀.heap.objs.size<=c
 hd:X.calm=true->X.A.handled=none
 qt:∀v,X.A.handled=some v->∃a o vs,v=.ref a/\(a,o)∈X.pn/\o.data=.fields vs/\vs[2]?=some .none
 frames:X.A.frames=some X.stack
 XM:X.stack=X.outer∨(X.stack=X.env::X.outer/\X.env.frame=some X.env.locals)
 Yc:∀b∈X.ex,b≠X.env.locals/\∀x c,X.env.cells.lookup x=some c->c≠b
 bs:∀b o,X.base.get? b=some o->X.s₀.heap.get? b=some o/\X.H₀ b=none
 W3:X.base.objs.size<=X.s₀.heap.objs.size
 WH:∀b o,X.base.get? b=some o->b∉X.ex
 WW:∀b∈X.ex,b∉X.fs
 Wc:X.s₀.heap.FunFrames X.base X.outer
 Xp:∀b∈X.fs,X.H₀ b=none
structure Inv(X:Cx)(pins:List<|QK×R6)(σ:List<|Option V)(H:Hp)(s:QO):Prop where
 ok:X.Ok
 os:s.os=X.s₀.os
 bare:TZ s.gens
 base:Un X.fs X.ex X.H₀ H X.s₀.heap s.heap
 loc:∃m,s.heap.Ns X.env.locals m/\∀(i:Nat) (x:Q3) (v:V),X.N[i]?=some x->σ[i]?=some (some v)->IG X.env.scope x->∃u,RelV v u/\Look X.env s.heap m x u
 cell:∀x c,X.env.cells.lookup x=some c->∃v,s.heap.IsCell c v
 free:H X.env.locals=none
 VR:∀x c,X.env.cells.lookup x=some c->H c=none
 pin:∀p∈X.pn++pins,s.heap.get? p.1=some p.2/\H p.1=none/\p.1≠X.env.locals/\p.1∉X.fs/\∀v,p.2.data≠.cell v
 VF:iQ X.prog X.w H s.heap
 len:σ.length=X.N.length
section
variable {σ:List (Option V)}{H':Hp}{h':Rv}
theorem Cx.Ok.XR(ok:X.Ok){b:QK}{o:R6}(e:X.base.get? b=some o):b∉X.fs:=λz=>by
 have:=(ok.Wc.mem z).1;rw[e] at this;cases this
theorem Inv.bs(I:Inv X pins σ H s):∀b o,X.base.get? b=some o->s.heap.get? b=some o/\H b=none:=λb o e=>
 ⟨I.base.keep b o (I.ok.bs b o e).1 (I.ok.bs b o e).2 (I.ok.XR e)<|I.ok.WH b o e,I.base.free b o (I.ok.bs b o e).1 (I.ok.bs b o e).2<|I.ok.WH b o e⟩
theorem Inv.bk(I:Inv X pins σ H s):∀b o,X.base.get? b=some o->s.heap.get? b=some o:=λb o e=>(I.bs b o e).1
theorem Inv.mod(I:Inv X pins σ H s):Mod X.K X.mg X.base:=I.ok.mod
theorem Inv.Wb(I:Inv X pins σ H s):X.K.In s.heap:=I.ok.mod.Xz.keeps I.bk
theorem Inv.lt(I:Inv X pins σ H s):X.env.locals<s.heap.objs.size:=let ⟨_,hn,_⟩:=I.loc;hn.lt
theorem Inv.sz(I:Inv X pins σ H s):X.s₀.heap.objs.size<=s.heap.objs.size:=cW I.ok.above<|ED I.lt
theorem Inv.Xe(I:Inv X pins σ H s)(h:s.heap.objs.size<=a):a∉X.fs:=λJ=>by
 obtain⟨_,o,z,_⟩:=I.ok.Wc.mem J;exact absurd (qL (QT z)<|cW I.sz h)<|Bm _
theorem Inv.Xq(I:Inv X pins σ H s):∀x c,X.env.cells.lookup x=some c->c≠X.env.locals:=λx c e z=>by
 obtain⟨v,o,U,Z⟩:=I.cell x c e;obtain⟨m,⟨o',es,ep,O,J,_⟩,_⟩:=I.loc;rw[z,O] at U;cases U;rw[J] at Z;cases Z
theorem Inv.Wc(I:Inv X pins σ H s):s.heap.FunFrames X.base X.outer:=by
 have all:∀(l:List UR),(∀b∈frs l,b∈X.fs)->X.s₀.heap.FunFrames X.base l->s.heap.FunFrames X.base l:=by
  intro l;induction l with
  |nil=>intro _ _;trivial
  |cons env r ih=>
   intro Z hl;obtain⟨hk,⟨L,o,U,hn,ho,hd⟩,hr⟩:=hl;have J:L∈X.fs:=Z L (by unfold frs;rw[T5,U];exact bH);obtain⟨sl,e⟩:=I.base.slot L o ho (I.ok.Xp L J) J λz=>I.ok.WW L z J;exact⟨hk,⟨L,_,U,hn,e,hd⟩,ih (λb O=>Z b<|by unfold frs;rw[T5,U];exact bK _ O) hr⟩
 exact all X.outer (λ_ O=>O) I.ok.Wc
theorem Inv.stack(I:Inv X pins σ H s):s.heap.FunFrames X.base X.stack:=by
 rcases I.ok.XM with e|⟨e,z⟩
 .rw [e];exact I.Wc
 .rw [e];obtain⟨m,hn,_⟩:=I.loc;refine .cons (by rw[I.ok.kind];decide) z hn ?_ I.Wc;exact Heap.get?_none_of_le<|cW I.ok.W3 I.ok.above
theorem Inv.VX(I:Inv X pins σ H s):∀b∈frs X.stack,b∈X.env.locals::X.fs:=λb z=>by
 rcases I.ok.XM with e|⟨e,J⟩
 .rw [e] at z;exact bK _ z
 .rw [e] at z;unfold frs at z;rw[T5,J] at z;exact z
theorem Inv.Ww(I:Inv X pins σ H s):∀b∈frs X.stack,H b=none:=λb J=>by
 rcases cL.mp (I.VX b J) with e|J
 .rw [e];exact I.free
 .obtain ⟨_,o,O,_⟩:=I.ok.Wc.mem J;exact I.base.free b o O (I.ok.Xp b J) λz=>I.ok.WW b z J
theorem Inv.step{g':Array GenState}{d':Drawn}(I:Inv X pins σ H s)
  (Z:∀b∈ch,(b∈X.ex∨X.s₀.heap.objs.size<=b)/\b≠X.env.locals/\(∀x c,X.env.cells.lookup x=some c->c≠b)/\∀p∈X.pn++pins,p.1≠b)
  (keep:∀b o,b≠X.env.locals->b∉X.fs->b∉ch->s.heap.get? b=some o->H b=none->h'.get? b=some o)
  (slot:∀b o,b≠X.env.locals->b∈X.fs->b∉ch->s.heap.get? b=some o->H b=none->∃sl,h'.get? b=some { o with slots:=sl }) (free:∀b o,b∉ch->s.heap.get? b=some o->H b=none->H' b=none)
  (there:∀b o,b∉ch->s.heap.get? b=some o->∃o',h'.get? b=some o')
  (Wj:∀b xs,H b=some (.tup xs)->H' b=some (.tup xs)) (Wg:∀b o u,H b=some (.frz o u)->H' b=some (.frz o u)) (Wk:∀b ps,H b=some (.tbl ps)->∃ac,H' b=some (.tbl<|ps++ac))
  (ns:∀m,s.heap.Ns X.env.locals m->h'.Ns X.env.locals m) (ae:iQ X.prog X.w H' h') (hg:TZ g'):
  Inv X pins σ H' { s with heap:=h',gens:=g',drawn:=d',toks:=t' }:=by
 have ab:∀b o,X.s₀.heap.get? b=some o->b≠X.env.locals:=λb o e=>lD<|qL (QT e) I.ok.above;have aa:∀b o,X.s₀.heap.get? b=some o->b∉X.ex->b∉ch:=λb o e J hb=>by
  rcases(Z b hb).1 with z|z
  .exact J z
  .exact absurd (qL (QT e) z) (Bm _)
 have O:∀x c,X.env.cells.lookup x=some c->∀v,s.heap.IsCell c v->h'.IsCell c v:=λx c e v zz=>by
  obtain⟨o,ho,hd⟩:=zz;have U:c∉ch:=λz=>(Z c z).2.2.1 x c e rfl;by_cases hc:c∈X.fs
  .obtain ⟨sl,q⟩:=slot c o (I.Xq x c e) hc U ho<|I.VR x c e;exact⟨_,q,hd⟩
  .exact ⟨o,keep c o (I.Xq x c e) hc U ho<|I.VR x c e,hd⟩
 refine⟨I.ok,I.os,hg,⟨λb o e n hb J=>?_,λb o e n hb J=>?_,λb o e n J=>?_,λb o e J=>?_,λb xs e=>Wj b xs<|I.base.Wj b xs e,λb o xs e=>Wg b o xs<|I.base.Wg b o xs e,λb ps e=>?_⟩,?_,λx c e=>?_,?_,λx c e=>?_,λp hp=>?_,ae,I.len⟩
 .exact keep b o (ab b o e) hb (aa b o e J) (I.base.keep b o e n hb J) (I.base.free b o e n J)
 .obtain ⟨sl,e1⟩:=I.base.slot b o e n hb J;obtain⟨ad,e2⟩:=slot b _ (ab b o e) hb (aa b o e J) e1<|I.base.free b o e n J;exact⟨ad,e2⟩
 .obtain ⟨o',e1⟩:=I.base.there b o e J;exact free b o' (aa b o e J) e1<|I.base.free b o e n J
 .obtain ⟨o',e1⟩:=I.base.there b o e J;exact there b o' (aa b o e J) e1
 .obtain ⟨m1,e1⟩:=I.base.Wk b ps e;obtain⟨m2,e2⟩:=Wk b _ e1;exact⟨m1++m2,by rw[e2,Array.append_assoc]⟩
 .obtain ⟨m,hn,hl⟩:=I.loc;refine⟨m,ns m hn,λi x v e1 e2 e3=>?_⟩;obtain⟨u,r,l⟩:=hl i x v e1 e2 e3;refine⟨u,r,?_⟩;rcases l with l|⟨k,c,e,z⟩
  .exact .inl l
  .exact .inr ⟨k,c,e,O x c e _ z⟩
 .obtain ⟨v,z⟩:=I.cell x c e;exact⟨v,O x c e v z⟩
 .obtain ⟨m,⟨o,_,_,ho,_⟩,_⟩:=I.loc;exact free _ o (λz=>(Z _ z).2.1 rfl) ho I.free
 .obtain ⟨v,o,ho,hd⟩:=I.cell x c e;exact free c o (λz=>(Z c z).2.2.1 x c e rfl) ho<|I.VR x c e
 .obtain ⟨e,n,ne,nf,d⟩:=I.pin p hp;have U:p.1∉ch:=λz=>(Z p.1 z).2.2.2 p hp rfl;exact⟨keep p.1 p.2 ne nf U e n,free p.1 p.2 U e n,ne,nf,d⟩
theorem Inv.un(I:Inv X pins σ H s)(u:Un X.fs [] H H' s.heap h')(aa:iQ X.prog X.w H' h'):Inv X pins σ H' { s with heap:=h',toks:=t' }:=by
 obtain⟨m,⟨o,es,ep,ho,r⟩,_⟩:=id I.loc;obtain⟨sl,hL⟩:=u.any ho I.free (by simp);exact I.step (g':=s.gens) (d':=s.drawn) (ch:=[]) (λ_ z=>nomatch z) (λb o _ Z _ e n=>u.keep b o e n Z<|by simp) (λb o _ Z _ e n=>u.slot b o e n Z<|by simp) (λb o _ e n=>u.free b o e n<|by simp) (λb o _ e=>u.there b o e<|by simp) u.Wj u.Wg u.Wk (λm' hm=>by
  obtain⟨o',O,U,J,r'⟩:=hm;rw[ho] at J;cases J;exact⟨_,O,U,hL,r'⟩) aa I.bare
theorem Inv.call{g':Array GenState}{d':Drawn}(I:Inv X pins σ H s)(u:Un (frs X.stack) ch H H' s.heap h')(aa:iQ X.prog X.w H' h')(hg:TZ g')
  (O:∀b∈ch,(b∈X.ex∨X.s₀.heap.objs.size<=b)/\b≠X.env.locals/\(∀x c,X.env.cells.lookup x=some c->c≠b)/\∀p∈X.pn++pins,p.1≠b):
  Inv X pins σ H' { s with heap:=h',gens:=g',drawn:=d',toks:=t' }:=by
 obtain⟨m,⟨o,es,ep,ho,r⟩,_⟩:=id I.loc;obtain⟨sl,hL⟩:=u.any ho I.free λz=>(O _ z).2.1 rfl;exact I.step (ch:=ch) O (λb o hL hb hc e n=>u.keep b o e n (λz=>(cL.mp<|I.VX b z).elim hL hb) hc) (λb o _ _ hc e n=>u.any e n hc) (λb o hc e n=>u.free b o e n hc) (λb o hc e=>u.there b o e hc) u.Wj u.Wg u.Wk (λm' hm=>by
  obtain⟨o',U,Z,J,r'⟩:=hm;rw[ho] at J;cases J;exact⟨_,U,Z,hL,r'⟩) aa hg
theorem Inv.turned(I:Inv X pins σ H s)(k:∀b o,b≠it->s.heap.get? b=some o->h'.get? b=some o)(hn:H it=none)(O:it≠X.env.locals)
  (h1:it∈X.ex∨X.s₀.heap.objs.size<=it) (h2:∀x c,X.env.cells.lookup x=some c->c≠it) (h3:∀p∈X.pn++pins,p.1≠it):Inv X pins σ H { s with heap:=h',toks:=t' }:=by
 have J:∀b u,H b=some u->b≠it:=λb u e z=>by rw[z,hn] at e;cases e
 refine I.step (g':=s.gens) (d':=s.drawn) (ch:=[it]) (λb Z=>?_) (λb o _ _ hc e _=>k b o (λz=>hc<|by simp[z]) e) (λb o _ _ hc e _=>⟨o.slots,k b o (λz=>hc<|by simp[z]) e⟩) (λ_ _ _ _ n=>n)
  (λb o hc e=>⟨o,k b o (λz=>hc<|by simp[z]) e⟩) (λ_ _ e=>e) (λ_ _ _ e=>e) (λb ps e=>⟨#[],by rw[e];simp⟩) (λm hm=>?_) (λb u e=>?_) I.bare
 .have e:b=it:=by simpa using Z
  subst e;exact⟨h1,O,h2,h3⟩
 .obtain ⟨o,es,ep,U,r⟩:=hm;exact⟨o,es,ep,k _ o (Q4 O) U,r⟩
 .refine (I.VF b u e).Wm (λc v hc q=>k c v ?_ q) (λ_ q=>q) λ_ _ q=>q;rcases hc with z|z
  .rw [z];exact J b u e
  .exact J c _ z
theorem Inv.tok(I:Inv X pins σ H s)(t:Nat):Inv X pins σ H { s with toks:=t }:=I.un (h':=s.heap) (t':=t) Un.refl I.VF
theorem Inv.kept(I:Inv X pins σ H s)(k:∀b u,s.heap.get? b=some u->h'.get? b=some u):Inv X pins σ H { s with heap:=h',toks:=t' }:=I.un (Un.kept k)<|I.VF.kept k
theorem Inv.laid(I:Inv X pins σ H s)(k:∀b u,s.heap.get? b=some u->h'.get? b=some u)(z:s.heap.objs.size<=a)(new:bJ X.prog X.w (upd H a o) h' a o):
  Inv X pins σ (upd H a o) { s with heap:=h',toks:=t' }:=I.un (Un.laid k z<|I.VF.fresh z)<|I.VF.laid k z new
theorem Inv.write{x e:QK}(I:Inv X pins σ H s)(J:IM<|H x)(O:e=x∨H e=some (.own x))(k:∀b u,b≠e->s.heap.get? b=some u->h'.get? b=some u)(z:∃u,h'.get? e=some u)
  (new:bJ X.prog X.w (upd H x o) h' x o):Inv X pins σ (upd H x o) { s with heap:=h',toks:=t' }:=I.un (Un.write J O k z)<|I.VF.write J O k z new
theorem Inv.VT{J:List<|QK×R6}(I:Inv X pins σ H s)(h:∀p∈J,s.heap.get? p.1=some p.2/\H p.1=none/\p.1≠X.env.locals/\p.1∉X.fs/\∀v,p.2.data≠.cell v):Inv X J σ H s:=
 ⟨I.ok,I.os,I.bare,I.base,I.loc,I.cell,I.free,I.VR,λp O=>(fG.mp O).elim (λz=>I.pin p<|nO _ z)<|h p,I.VF,I.len⟩
theorem rQ{N:List Q3}(z:N.Nodup){j:Nat}(a:N[i]?=some x)(b:N[j]?=some x):i=j:=by
 obtain⟨h1,J⟩:=cV.mp a;obtain⟨h2,e2⟩:=cV.mp b;exact(List.getElem_inj z).mp<|J.trans e2.symm
theorem wK{M:Model}{A:Rm}{Q:Unit->QO->Prop}(I:Inv X pins σ H s)(hN:X.N.Nodup)(hi:X.N[i]?=some x)(Z:Loc X.env.scope x)(r:RelV v u)
  (h:∀s',Inv X pins (σ.set i<|some v) H s'->(∃a,Rg a s.heap s'.heap/\(a=X.env.locals∨X.env.cells.lookup x=some a))->Q () s') (hf:X.fn x=true∨X.env.scope.names.lookup x=some .local:=by first|exact .inl rfl|exact .inr rfl|assumption):QX M A (storeName X.env x u) Q E s:=by
 obtain⟨m,hn,hl⟩:=id I.loc;have af:(X.env.scope.kind==.class||(X.env.scope.kind==.module&&X.env.locals !=X.env.globals))=false:=by rw[I.ok.kind];rfl
 have ab:i<σ.length:=by rw[I.len];exact(cV.mp hi).1
 have Xq:=I.Xq;have U:∀{a:QK} {h':Rv},(∃o,s.heap.get? a=some o/\H a=none)->Rg a s.heap h'->iQ X.prog X.w H h':=fun {a h'} ha J b ob e=>by
  obtain⟨_,_,aa⟩:=ha;refine(I.VF b ob e).Wm (λc w' hc q=>(J.2 c ?_).trans q) (λ_ q=>q) λ_ _ q=>q;rintro rfl;rcases hc with rfl|hc
  .rw [aa] at e;cases e
  .rw [aa] at hc;cases hc
 rcases Z with hk|hk
 .refine wpAny_storeName_local hk hn (λh' ai J=>?_) af;obtain⟨oL,_,_,ah,_⟩:=id hn;refine h _ ⟨I.ok,I.os,I.bare,⟨λb o e n hb Z=>?_,λb o e n hb Z=>?_,I.base.free,λb o e Z=>?_,I.base.Wj,I.base.Wg,I.base.Wk⟩,⟨_,ai,λj y v' O e2 e3=>?_⟩,λy c e=>?_,I.free,I.VR,λp hp=>?_,U ⟨oL,ah,I.free⟩ J,by simpa using I.len⟩ ⟨_,J,.inl rfl⟩
  .exact (J.2 b<|lD<|qL (QT e) I.ok.above).trans (I.base.keep b o e n hb Z)
  .obtain ⟨sl,O⟩:=I.base.slot b o e n hb Z;exact⟨sl,(J.2 b<|lD<|qL (QT e) I.ok.above).trans O⟩
  .obtain ⟨o',O⟩:=I.base.there b o e Z;exact⟨o',(J.2 b<|lD<|qL (QT e) I.ok.above).trans O⟩
  .by_cases hj:j=i
   .subst hj;rw[hi] at O;cases O;rw[Tq ab] at e2;cases e2;exact⟨u,r,.inl ⟨hk,by simp⟩⟩
   .rw [TQ<|Q4 hj] at e2;obtain⟨u',r',q⟩:=hl j y v' O e2 e3;refine⟨u',r',?_⟩;rcases q with ⟨k,e⟩|⟨k,c,e,z⟩
    .refine .inl ⟨k,?_⟩;have:y≠x:=λe=>hj<|rQ hN O<|e▸hi;simp[this,e]
    .exact .inr ⟨k,c,e,z.sameBut J<|Xq y c e⟩
  .obtain ⟨w',z⟩:=I.cell y c e;exact⟨w',z.sameBut J<|Xq y c e⟩
  .obtain ⟨e,n,ne,nf,d⟩:=I.pin p hp;exact⟨(J.2 p.1 ne).trans e,n,ne,nf,d⟩
 .have ac:X.fn x=true:=by
   rcases hf with z|z
   .exact z
   .rw [z] at hk;cases hk
  obtain⟨c,hc⟩:=I.ok.has x<|.inl hk;obtain⟨w',z⟩:=I.cell x c hc;refine wpAny_storeName_cell I.ok.kind hk hc z λh' ad J=>?_;obtain⟨oc,ag,ae⟩:=id z;refine h { s with heap:=h' } ⟨I.ok,I.os,I.bare,⟨λb o e n hb Z=>?_,λb o e n hb Z=>?_,I.base.free,λb o e Z=>?_,I.base.Wj,I.base.Wg,I.base.Wk⟩,⟨m,hn.sameBut J<|Q4<|Xq x c hc,λj y v' O e2 e3=>?_⟩,λy c' e=>?_,I.free,I.VR,λp hp=>?_,U ⟨oc,ag,I.VR x c hc⟩ J,by simpa using I.len⟩ ⟨c,J,.inr hc⟩
  .exact (J.2 b<|lD<|qL (QT e)<|I.ok.XG x c ac hc).trans (I.base.keep b o e n hb Z)
  .obtain ⟨sl,O⟩:=I.base.slot b o e n hb Z;exact⟨sl,(J.2 b<|lD<|qL (QT e)<|I.ok.XG x c ac hc).trans O⟩
  .obtain ⟨o',O⟩:=I.base.there b o e Z;exact⟨o',(J.2 b<|lD<|qL (QT e)<|I.ok.XG x c ac hc).trans O⟩
  .by_cases hj:j=i
   .subst hj;rw[hi] at O;cases O;rw[Tq ab] at e2;cases e2;exact⟨u,r,.inr ⟨.inl hk,c,hc,ad⟩⟩
   .rw [TQ<|Q4 hj] at e2;obtain⟨u',r',q⟩:=hl j y v' O e2 e3;refine⟨u',r',?_⟩;rcases q with q|⟨k,c',e,z'⟩
    .exact .inl q
    .refine .inr ⟨k,c',e,z'.sameBut J ?_⟩;rintro rfl;exact hj<|rQ hN O<|I.ok.inj _ _ _ e hc▸hi
  .by_cases hcc:c'=c
   .subst hcc;exact⟨_,ad⟩
   .obtain ⟨w2,z2⟩:=I.cell y c' e;exact⟨w2,z2.sameBut J hcc⟩
  .obtain ⟨e,n,ne,nf,d⟩:=I.pin p hp;refine⟨(J.2 p.1 ?_).trans e,n,ne,nf,d⟩;intro q;rw[q,ag] at e;have q':oc=p.2:=QR e;exact d w'<|by rw[<- q'];exact ae
theorem JR{M:Model}{A:Rm}{Q:Unit->QO->Prop}(I:Inv X pins σ H s)(J:X.N.Nodup)(hi:X.N[i]?=some x)(O:Loc X.env.scope x)(r:RelV v u)
  (h:∀s',Inv X pins (σ.set i<|some v) H s'->Q () s') (U:X.fn x=true∨X.env.scope.names.lookup x=some .local:=by first|exact .inl rfl|exact .inr rfl|assumption):QX M A (storeName X.env x u) Q E s:=
 wK I J hi O r (λs' z _=>h s' z) U
theorem Inv.XF{s':QO}(I:Inv X pins σ H s)(O:s'.os=s.os)(u:Un (frs X.stack) ch H H' s.heap s'.heap)(J:iQ X.prog X.w H' s'.heap)(U:TZ s'.gens)
  (z:∀b∈ch,(b∈X.ex∨X.s₀.heap.objs.size<=b)/\b≠X.env.locals/\(∀x c,X.env.cells.lookup x=some c->c≠b)/\∀p∈X.pn++pins,p.1≠b):Inv X pins σ H' s':=by
 obtain⟨h',g',d',t',o'⟩:=s';have e:o'=s.os:=O;subst e;exact I.call (g':=g') (t':=t') (d':=d') u J U z
end
noncomputable abbrev XK:=QM->Option QK->Hp->Prop
noncomputable abbrev St:=List<|Option V
variable {σ:St}
noncomputable abbrev VK:=V->Hp->Prop
noncomputable abbrev TE:=St->Hp->VK->Prop
variable {te tl:TE}
noncomputable abbrev TT:=St->Hp->(Bool->Hp->Prop)->Prop
variable {tc:TT}
noncomputable abbrev TA:=St->Hp->(List V->Hp->Prop)->Prop
variable {ta:TA}
structure Ends where
 nx:St->Hp->Prop
 rt:VK
 bk:St->Hp->Prop:=λ_ _=>False
 ct:St->Hp->Prop:=λ_ _=>False
noncomputable abbrev TS:=Ends->St->Hp->Prop
variable {tb:TS}
def EP(X:Cx)(pins:List<|QK×R6)(σ:St)(Q:VK)(u:QM)(s':QO):Prop:=L2.X2 λv H'=>Inv X pins σ H' s'/\RelV v u/\Q v H'
def TP(X:Cx)(pins:List<|QK×R6)(σ:St)(Q:Bool->Hp->Prop)(b:Bool)(s':QO):Prop:=∃H',Inv X pins σ H' s'/\Q b H'
def AP(X:Cx)(pins:List<|QK×R6)(σ:St)(Q:List V->Hp->Prop)(us:List QM)(s':QO):Prop:=L2.X2 λvs H'=>Inv X pins σ H' s'/\Vals vs us/\Q vs H'
def SP(X:Cx)(pins:List<|QK×R6)(D:Ends)(f:Flow)(s':QO):Prop:=
 match f with
 |.next=>L2.X2 λσ' H'=>Inv X pins σ' H' s'/\D.nx σ' H'
 |.brk=>L2.X2 λσ' H'=>Inv X pins σ' H' s'/\D.bk σ' H'
 |.cont=>L2.X2 λσ' H'=>Inv X pins σ' H' s'/\D.ct σ' H'
 |.ret u=>L2.X3 λv σ' H'=>Inv X pins σ' H' s'/\RelV v u/\D.rt v H'
def PE(X:Cx)(e:Rw)(t:TE):Prop:=
 ∀(pins:List<|QK×R6) (s:QO) (σ:St) (H:Hp) (Q:VK),Inv X pins σ H s->t σ H Q->QX (QZ X.prog X.w) X.A (eval e X.env) (EP X pins σ Q) X.xe s
def PT(X:Cx)(e:Rw)(t:TT):Prop:=
 ∀(pins:List<|QK×R6) (s:QO) (σ:St) (H:Hp) (Q:Bool->Hp->Prop),Inv X pins σ H s->t σ H Q->QX (QZ X.prog X.w) X.A (isTrue e X.env<|eval e X.env) (TP X pins σ Q) X.xe s
def PW(X:Cx)(e:Rw)(t:TT):Prop:=
 ∀(whole:UY QM) (pins:List<|QK×R6) (s:QO) (σ:St) (H:Hp) (Q:Bool->Hp->Prop),Inv X pins σ H s->t σ H Q->QX (QZ X.prog X.w) X.A (isTrue e X.env whole) (TP X pins σ Q) X.xe s
theorem PW.pt{t:TT}(h:PW X e t):PT X e t:=h _
def PA(X:Cx)(es:List Rw)(t:TA):Prop:=
 ∀(pos:UG) (pins:List<|QK×R6) (s:QO) (σ:St) (H:Hp) (Q:List V->Hp->Prop),Inv X pins σ H s->t σ H Q->QX (QZ X.prog X.w) X.A (spliced<|RW pos<|QY es X.env) (AP X pins σ Q) X.xe s
def PS(X:Cx)(st:Q9)(t:TS):Prop:=
 ∀(pins:List<|QK×R6) (s:QO) (σ:St) (H:Hp) (D:Ends),Inv X pins σ H s->t D σ H->QX (QZ X.prog X.w) X.A (exec st X.env) (SP X pins D) X.xe s
def nM(X:Cx)(st:List Q9)(t:TS):Prop:=
 ∀(pins:List<|QK×R6) (s:QO) (σ:St) (H:Hp) (D:Ends),Inv X pins σ H s->t D σ H->QX (QZ X.prog X.w) X.A (execs st X.env) (SP X pins D) X.xe s
theorem thn{α:Type}{t:UY α}{Q Q':α->QO->Prop}{M:Model}{A:Rm}(h:QX M A t Q E s)(z:∀a s,Q a s->Q' a s):QX M A t Q' E s:=Rk h z λ_ _ x=>x
section
def IY(P:V->Prop):St->Nat->Prop
 |a::_,0=>match a with
  |some v=>P v
  |none=>False
 |_::σ,i+1=>IY P σ i
 |[],_=>False
theorem Aw{P:V->Prop}:∀{σ:St} {i:Nat},IY P σ i->∃v,σ[i]?=some (some v)/\P v:=by
 intro σ;induction σ with
 |nil=>intro i h;cases i<;>exact h.elim
 |cons a σ ih=>
  intro i h;cases i with
  |zero=>
   cases a with
   |none=>exact h.elim
   |some v=>exact⟨v,rfl,h⟩
  |succ i=>exact ih h
def wV(x:V)(P:Int->Prop):Prop:=match x with
 |.int i=>P i
 |_=>False
theorem Jw{x:V}{P:Int->Prop}(h:wV x P):∃i,x=.int i/\P i:=by
 cases x<;>first|exact⟨_,rfl,h⟩|exact h.elim
theorem zf{x:V}{P:Int->Int->Prop}(h:wV x λi=>wV y λj=>P i j):∃i j,x=.int i/\y=.int j/\P i j:=by
 obtain⟨i,e,h⟩:=Jw h;obtain⟨j,z,h⟩:=Jw h;exact⟨i,j,e,z,h⟩
def BX(x:V)(P:Bool->Prop):Prop:=match x with
 |.bl i=>P i
 |_=>False
theorem Jv{x:V}{P:Bool->Prop}(h:BX x P):∃i,x=.bl i/\P i:=by
 cases x<;>first|exact⟨_,rfl,h⟩|exact h.elim
def iL(i:Nat):TE:=λσ H Q=>IY (λv=>Q v H) σ i
def tC(v:V):TE:=λ_ H Q=>Q v H
theorem E8(Z:X.N[i]?=some x)(hv:IG X.env.scope x)(O:(x==("__debug__":Q3))=false:=by decide)(U:(x==("__classdict__":Q3))=false:=by decide):PE X (.Name x pos)<|iL i:=by
 intro pins s σ H Q I h;obtain⟨v,e,h⟩:=Aw h;obtain⟨m,hn,hl⟩:=I.loc;obtain⟨u,r,l⟩:=hl i x v Z e hv;have fin:EP X pins σ Q u s:=⟨v,H,I,r,h⟩
 rcases l with ⟨J,hm⟩|⟨J,c,hc,z⟩
 .exact wpAny_Name (wpAny_loadName_local I.ok.kind J hn hm fin) O
 .rcases J with J|J
  .exact wpAny_Name (wpAny_loadName_cell I.ok.kind J hc z fin) O
  .exact wpAny_Name (wpAny_loadName_free I.ok.kind J hc z fin U) O
theorem xH{i j pos}:PE X (.Constant (.int i) j pos)<|tC<|.int i:=λ_ _ _ H _ I h=>wpAny_Constant_int ⟨.int i,H,I.tok _,⟨_,rfl⟩,h⟩
theorem Hv{b j pos}:PE X (.Constant (.bool b) j pos)<|tC<|.bl b:=λ_ _ _ H _ I h=>Constant_bool ⟨.bl b,H,I,rfl,h⟩
theorem Fb{j pos}:PE X (.Constant .none j pos)<|tC .VA:=λ_ _ _ H _ I h=>Constant_none ⟨.VA,H,I,rfl,h⟩
theorem E9{x j pos}:PE X (.Constant (.str x) j pos)<|tC<|.str x:=λ_ _ _ H _ I h=>Calls.Constant_str ⟨.str x,H,I.tok _,⟨_,rfl⟩,h⟩
def Gl(X:Cx)(x:Q3):Prop:=X.env.kindOf x=some .globalImplicit
theorem KR(I:Inv X pins σ H s)(J:Gl X x)(hm:X.mg x=some u)(h:Q u s)
  (z:(x==("__debug__":Q3))=false:=by decide):QX (QZ X.prog X.w) X.A (eval (.Name x pos) X.env) Q E s:=
 U8 I.ok.kind J (Calls.loadGlobal_global (by rw[I.ok.glob];exact I.mod.glob.keeps I.bk) hm h) z
theorem D6(I:Inv X pins σ H s)(O:Gl X x)(hm:X.mg x=none)(J:SH x=some u)(h:Q u s)
  (hn:x≠"__name__":=by decide) (z:(x==("__debug__":Q3))=false:=by decide):QX (QZ X.prog X.w) X.A (eval (.Name x pos) X.env) Q E s:=by
 obtain⟨U,h1,h2⟩:=I.mod.blt;exact U8 I.ok.kind O (Calls.loadGlobal_builtin (by rw[I.ok.glob];exact I.mod.glob.keeps I.bk) hm (by rw[I.ok.blt];exact h1.keeps I.bk) ((h2 x hn).trans J) h) z
theorem vz(J:Gl X x)(hm:X.mg x=some u)(r:RelV v u)(z:(x==("__debug__":Q3))=false:=by decide):PE X (.Name x pos)<|tC v:=
 λ_ _ _ H _ I h=>KR I J hm ⟨v,H,I,r,h⟩ z
theorem BU(J:Gl X x)(hm:X.mg x=none)(O:SH x=some u)(r:RelV v u)(hn:x≠"__name__":=by decide)(z:(x==("__debug__":Q3))=false:=by decide):PE X (.Name x pos)<|tC v:=
 λ_ _ _ H _ I h=>D6 I J hm O ⟨v,H,I,r,h⟩ hn z
variable {a b:Rw}{ta tb:TE}
def tB(t:TE):TT:=λσ H Q=>t σ H λx H1=>BX x λc=>Q c H1
theorem tI{t:TE}(h:PE X e t)(Z:∀z,isTrue e X.env z=(do let v <- z;UB e.pos;holding [v] (truthy v)):=by intro _;rfl):PT X e<|tB t:=by
 intro pins s σ H Q I hw;refine isTrue_plain (thn (h pins s σ H _ I hw) λv s1 O=>?_)<|Z _;obtain⟨x,H1,U,r1,J⟩:=O;obtain⟨d,rfl,q⟩:=Jv J;cases r1;exact Ti ⟨H1,U,q⟩
variable {tA tB':TT}{rest:List Rw}
def Hc(t u:TT):TT:=λσ H Q=>t σ H λc H1=>if c=true then u σ H1 Q else Q false H1
def NZ(t u:TT):TT:=λσ H Q=>t σ H λc H1=>if c=true then Q true H1 else u σ H1 Q
def G8(t:TT):TT:=λσ H Q=>t σ H λc H1=>Q (!c) H1
theorem Iv(ha:PT X a tA):PW X (.BoolOp .And [a] pos) tA:=by
 intro z pins s σ H Q I h;refine isTrue_and<|thn (ha pins s σ H Q I h) λc s1 e=>?_;cases c with
 |true=>exact isTrue_and_nil e
 |false=>exact e
theorem yX(ha:PT X a tA):PW X (.BoolOp .Or [a] pos) tA:=by
 intro z pins s σ H Q I h;refine isTrue_or<|thn (ha pins s σ H Q I h) λc s1 e=>?_;cases c with
 |false=>exact isTrue_or_nil e
 |true=>exact e
theorem GV(ha:PT X a tA)(O:PW X (.BoolOp .And (b::rest) pos) tB'):PW X (.BoolOp .And (a::b::rest) pos)<|Hc tA tB':=by
 intro U pins s σ H Q I h;refine isTrue_and<|thn (ha pins s σ H _ I h) λc s1 Z=>?_;obtain⟨H1,J,z⟩:=Z;cases c with
 |true=>exact O U pins s1 σ H1 Q J z
 |false=>exact⟨H1,J,z⟩
theorem C1(ha:PT X a tA)(O:PW X (.BoolOp .Or (b::rest) pos) tB'):PW X (.BoolOp .Or (a::b::rest) pos)<|NZ tA tB':=by
 intro U pins s σ H Q I h;refine isTrue_or<|thn (ha pins s σ H _ I h) λc s1 Z=>?_;obtain⟨H1,J,z⟩:=Z;cases c with
 |true=>exact⟨H1,J,z⟩
 |false=>exact O U pins s1 σ H1 Q J z
theorem AE(ha:PT X a tA):PT X (.UnaryOp .Not a pos)<|G8 tA:=by
 intro pins s σ H Q I h;exact isTrue_not<|ha pins s σ H (λc H1=>Q (!c) H1) I h
def DF(ta tb:TE):TE:=λσ H Q=>ta σ H λx H1=>BX x λc=>if c=true then tb σ H1 Q else Q (.bl false) H1
def J3(ta tb:TE):TE:=λσ H Q=>ta σ H λx H1=>BX x λc=>if c=true then Q (.bl true) H1 else tb σ H1 Q
def DC(ta:TE):TE:=λσ H Q=>ta σ H λx H1=>BX x λc=>Q (.bl<|!c) H1
theorem Lc{op}{t:TE}(h:PE X a t):PE X (.BoolOp op [a] pos) t:=λpins s σ H Q I hw=>BoolOp_one<|h pins s σ H Q I hw
theorem Lb(ha:PE X a ta)(U:PE X (.BoolOp .And (b::rest) pos) tb):PE X (.BoolOp .And (a::b::rest) pos)<|DF ta tb:=by
 intro pins s σ H Q I h;refine BoolOp_and<|thn (ha pins s σ H _ I h) λv s1 O=>?_;obtain⟨x,H1,J,Z,z⟩:=O;obtain⟨c,rfl,z⟩:=Jv z;cases Z;refine Ti ?_;cases c with
 |true=>exact U pins s1 σ H1 Q J z
 |false=>exact⟨.bl false,H1,J,rfl,z⟩
theorem y4(ha:PE X a ta):PE X (.UnaryOp .Not a pos)<|DC ta:=by
 intro pins s σ H Q I h;refine UnaryOp_<|thn (ha pins s σ H _ I h) λv s1 J=>?_;obtain⟨x,H1,U,O,z⟩:=J;obtain⟨c,rfl,z⟩:=Jv z;cases O;exact not_of<|Ti ⟨.bl<|!c,H1,U,rfl,z⟩
def OA(t:TT)(ta tb:TE):TE:=λσ H Q=>t σ H λc H1=>if c=true then ta σ H1 Q else tb σ H1 Q
theorem JN(hc:PT X c tA)(ha:PE X a ta)(O:PE X b tb):PE X (.IfExp c a b pos)<|OA tA ta tb:=by
 intro pins s σ H Q I h;refine wpAny_IfExp<|thn (hc pins s σ H _ I h) λd s1 U=>?_;obtain⟨H1,J,z⟩:=U;cases d with
 |true=>exact ha pins s1 σ H1 Q J z
 |false=>exact O pins s1 σ H1 Q J z
end
def aD(K:W.Frag)(H:Hp)(a:QK)(xs:List V):Prop:=
 Rd H a (.lst xs)∨
  ∃(o:R6) (its:Array QM) (n:Nat),K.lookup a=some o/\o.cls=.type "list"/\o.dict=none/\o.data=.seq its n/\its.size<=sizeLine/\Vals xs its.toList
def aY(K:W.Frag)(H:Hp)(a:QK)(xs:List V):Prop:=
 Rd H a (.tup xs)∨
  ∃(o:R6) (its:Array QM) (n:Nat),K.lookup a=some o/\o.cls=.type "tuple"/\o.data=.seq its n/\its.size<=sizeLine/\Vals xs its.toList
noncomputable def Ki:QM->Option V
 |.none=>some .VA
 |.bool b=>some<|.bl b
 |.int i _=>some<|.int i
 |.str x _=>some<|.str x
 |.bytes b _=>some<|.byt b
 |.float b _=>some<|.flt b
 |.ref a=>some<|.ref a
 |.type n=>some<|.ty n
 |_=>none
theorem RelV.abs{x:V}(r:RelV x u):Ki u=some x:=by
 cases x with
 |VA=>cases r;rfl
 |bl _=>cases r;rfl
 |int _=>obtain⟨t,rfl⟩:=r;rfl
 |str _=>obtain⟨t,rfl⟩:=r;rfl
 |byt _=>obtain⟨t,rfl⟩:=r;rfl
 |flt _=>obtain⟨t,rfl⟩:=r;rfl
 |ref _=>cases r;rfl
 |ty _=>cases r;rfl
theorem RelV.inj{x:V}(r:RelV x u)(q:RelV y u):x=y:=QR<|r.abs.symm.trans q.abs
theorem Vals.inj:∀{xs ys:List V} {us:List QM},Vals xs us->Vals ys us->xs=ys
 |_,_,_,.nil,.nil=>rfl
 |_,_,_,.cons r t,.cons r' t'=>by rw[r.inj r',Vals.inj t t']
section
variable {ys:List V}
theorem aD.of(h:H a=some (.lst xs)):aD K H a xs:=.inl<|.inl h
theorem aY.of(h:H a=some (.tup xs)):aY K H a xs:=.inl<|.inl h
theorem Inv.list(I:Inv X pins σ H s)(h:aD X.K H a xs):∃its:List QM,Vals xs its/\PlainL s.heap a its.toArray/\xs.length<=sizeLine:=by
 rcases h with h|⟨o,its,n,J,hc,U,O,Z,r⟩
 .obtain ⟨z,its,n,r,e⟩:=h.ok I.VF;exact⟨its,r,⟨_,n,e,rfl,rfl,rfl⟩,z⟩
 .refine ⟨its.toList,r,⟨o,n,I.Wb a o J,hc,U,by simpa using O⟩,?_⟩;have e:=r.length;simp only[Array.length_toList] at e;lia
theorem Inv.tuple(I:Inv X pins σ H s)(h:aY X.K H a xs):∃its:List QM,Vals xs its/\IsTup s.heap a its.toArray/\xs.length<=sizeLine:=by
 rcases h with h|⟨o,its,n,J,hc,O,U,r⟩
 .obtain ⟨z,its,r,p⟩:=h.ok I.VF;exact⟨its,r,p,z⟩
 .refine ⟨its.toList,r,⟨o,I.Wb a o J,hc,n,by simpa using O⟩,?_⟩;have e:=r.length;simp only[Array.length_toList] at e;lia
theorem Inv.VU(I:Inv X pins σ H s)(h:aD X.K H a xs)(h':aD X.K H a ys):xs=ys:=by
 obtain⟨its,r,⟨o,n,e,_,_,d⟩,_⟩:=I.list h;obtain⟨its',r',⟨o',n',z,_,_,d'⟩,_⟩:=I.list h';rw[e] at z;cases z;rw[d] at d';injection d' with d1 _
 have:its=its':=by simpa using congrArg Array.toList d1
 subst this;exact r.inj r'
theorem Inv.Wy(I:Inv X pins σ H s)(h:aY X.K H a xs)(h':aY X.K H a ys):xs=ys:=by
 obtain⟨its,r,⟨o,e,_,n,d⟩,_⟩:=I.tuple h;obtain⟨its',r',⟨o',z,_,n',d'⟩,_⟩:=I.tuple h';rw[e] at z;cases z;rw[d] at d';injection d' with d1 _
 have:its=its':=by simpa using congrArg Array.toList d1
 subst this;exact r.inj r'
end
noncomputable abbrev Cx.VW(X:Cx)(E:QM->QO->Prop):Cx:={ X with xe:=E }
noncomputable abbrev Cx.WS(X:Cx):Cx:=X.VW λ_ _=>False
theorem Cx.Ok.VW(ok:X.Ok)(E:QM->QO->Prop):(X.VW E).Ok:=
 ⟨ok.mod,ok.kind,ok.glob,ok.blt,ok.above,ok.inj,ok.has,ok.XG,ok.hd,ok.qt,ok.frames,ok.XM,ok.Yc,ok.bs,ok.W3,ok.WH,ok.WW,ok.Wc,ok.Xp⟩
theorem Cx.Ok.VN(ok:(X.VW E).Ok):X.Ok:=
 ⟨ok.mod,ok.kind,ok.glob,ok.blt,ok.above,ok.inj,ok.has,ok.XG,ok.hd,ok.qt,ok.frames,ok.XM,ok.Yc,ok.bs,ok.W3,ok.WH,ok.WW,ok.Wc,ok.Xp⟩
section
theorem Inv.VW(I:Inv X pins σ H s)(E:QM->QO->Prop):Inv (X.VW E) pins σ H s:=⟨I.ok.VW E,I.os,I.bare,I.base,I.loc,I.cell,I.free,I.VR,I.pin,I.VF,I.len⟩
theorem Inv.VN(I:Inv (X.VW E) pins σ H s):Inv X pins σ H s:=⟨I.ok.VN,I.os,I.bare,I.base,I.loc,I.cell,I.free,I.VR,I.pin,I.VF,I.len⟩
theorem SP.VN{D:Ends}{f:Flow}{s':QO}(h:SP (X.VW E) pins D f s'):SP X pins D f s':=by
 cases f with
 |next=>obtain⟨z,H',I,q⟩:=h;exact⟨z,H',I.VN,q⟩
 |brk=>obtain⟨z,H',I,q⟩:=h;exact⟨z,H',I.VN,q⟩
 |cont=>obtain⟨z,H',I,q⟩:=h;exact⟨z,H',I.VN,q⟩
 |ret u=>obtain⟨v,z,H',I,r,q⟩:=h;exact⟨v,z,H',I.VN,r,q⟩
theorem PE.WS{t:TE}(h:PE X.WS e t):PE X e t:=λpins s σ H Q I hw=>
 Rk (h pins s σ H Q (I.VW _) hw) (λ_ _ ⟨v,H',J,r,q⟩=>⟨v,H',J.VN,r,q⟩) λ_ _ z=>RC z
theorem nM.WS{st:List Q9}{t:TS}(h:nM X.WS st t):nM X st t:=λpins s σ H D I hw=>
 Rk (h pins s σ H D (I.VW _) hw) (λ_ _ q=>q.VN) λ_ _ z=>RC z
end
section
variable {st:Q9}{rest:List Q9}{t u:TS}
def Kj:TS:=λD σ H=>D.nx σ H
def Bu(t u:TS):TS:=λD σ H=>t { D with nx:=u D } σ H
theorem BJ:nM X [] Kj:=λ_ _ σ H _ I h=>T3 ⟨σ,H,I,h⟩
theorem aG(h1:PS X st t)(h2:nM X rest u):nM X (st::rest)<|Bu t u:=by
 intro pins s σ H D I h;refine wpAny_execs_cons<|thn (h1 pins s σ H { D with nx:=u D } I h) λf s1 q=>?_;cases f with
 |next=>
  obtain⟨z,H',J,q⟩:=q;exact h2 pins s1 z H' D J q
 |ret v=>exact q
 |brk=>exact q
 |cont=>exact q
theorem bP(h1:PS X st t):nM X [st] t:=by
 intro pins s σ H D I h;refine wpAny_execs_cons<|thn (h1 pins s σ H D I h) λf s1 q=>?_;cases f with
 |next=>exact T3 q
 |ret v=>exact q
 |brk=>exact q
 |cont=>exact q
def yF:TS:=λD σ H=>D.bk σ H
theorem BK:PS X (.Pass pos) Kj:=λ_ _ σ H _ I h=>wpAny_Pass ⟨σ,H,I,h⟩
theorem Inv.quiet(I:Inv X pins σ H s):interactive X.env=false:=by simp[interactive,I.ok.kind]
def DD(te:TE):TS:=λD σ H=>te σ H λ_ H1=>D.nx σ H1
theorem Ef(U:PE X e te)(z:TL e none pos.line X.env=pure false:=by rfl):PS X (.Expr e pos)<|DD te:=by
 intro pins s σ H D I h;refine wpAny_Expr_any (thn (U pins s σ H _ I h) λv s1 O=>?_) I.quiet z;obtain⟨x,H1,Z,r1,J⟩:=O;exact⟨σ,H1,Z,J⟩
def G6(te:TE):TS:=λD σ H=>te σ H D.rt
theorem nK(U:PE X e te):PS X (.Return (some e) pos)<|G6 te:=by
 intro pins s σ H D I h;refine wpAny_Return_some<|thn (U pins s σ H _ I h) λv s1 O=>?_;obtain⟨x,H1,Z,z,J⟩:=O;exact⟨x,σ,H1,Z,z,J⟩
def G5:TS:=λD _ H=>D.rt .VA H
def Bv(c:TT)(t u:TS):TS:=λD σ H=>c σ H λb H1=>if b=true then t D σ H1 else u D σ H1
theorem kN{a b:List Q9}(hc:PT X c tc)(ha:nM X a t)(U:nM X b u):PS X (.If c a b pos)<|Bv tc t u:=by
 intro pins s σ H D I h;refine wpAny_If<|thn (hc pins s σ H _ I h) λd s1 O=>?_;obtain⟨H1,J,z⟩:=O;cases d with
 |true=>exact ha pins s1 σ H1 D J z
 |false=>exact U pins s1 σ H1 D J z
def yB:TS:=λ_ _ _=>False
theorem Gm:PS X st yB:=λ_ _ _ _ _ _ h=>h.elim
end
noncomputable abbrev TG:=V->St->Hp->(St->Hp->Prop)->Prop
variable {g:TG}
noncomputable abbrev AJ:=List V->St->Hp->(St->Hp->Prop)->Prop
def PG(X:Cx)(target:Rw)(t:TG):Prop:=
 ∀(pins:List<|QK×R6) (s:QO) (σ:St) (H:Hp) (v:V) (u:QM) (Q:St->Hp->Prop),Inv X pins σ H s->RelV v u->t v σ H Q->
  QX (QZ X.prog X.w) X.A (assign target X.env u) (λ_ s'=>L2.X2 λσ' H'=>Inv X pins σ' H' s'/\Q σ' H') X.xe s
def En(X:Cx)(ts:List Rw)(t:AJ):Prop:=
 ∀(pins:List<|QK×R6) (s:QO) (σ:St) (H:Hp) (vs:List V) (us:List QM) (Q:St->Hp->Prop),Inv X pins σ H s->Vals vs us->t vs σ H Q->
  QX (QZ X.prog X.w) X.A (assignInOrder ((RM ts X.env).map (·.2)) us) (λ_ s'=>L2.X2 λσ' H'=>Inv X pins σ' H' s'/\Q σ' H') X.xe s
noncomputable abbrev Gq:=V->V->V->Hp->(Hp->Prop)->Prop
def IK(X:Cx)(t:Gq):Prop:=
 ∀(pins:List<|QK×R6) (s:QO) (σ:St) (H:Hp) (o i v:V) (ov iv u:QM) (Q:Hp->Prop),Inv X pins σ H s->RelV o ov->RelV i iv->RelV v u->t o i v H Q->
  QX (QZ X.prog X.w) X.A (setItem ov iv u) (λ_ s'=>∃H',Inv X pins σ H' s'/\Q H') X.xe s
noncomputable abbrev IH:=V->V->Hp->VK->Prop
def J0(X:Cx)(op:UH)(t:IH):Prop:=
 ∀(pins:List<|QK×R6) (s:QO) (σ:St) (H:Hp) (x y:V) (v u:QM) (Q:VK),Inv X pins σ H s->RelV x v->RelV y u->t x y H Q->
  QX (QZ X.prog X.w) X.A (inplaceOp op v u) (EP X pins σ Q) X.xe s
section
def AA(i:Nat):TG:=λv σ H Q=>Q (σ.set i<|some v) H
theorem qI(J:X.N.Nodup)(hi:X.N[i]?=some x)(O:Loc X.env.scope x)(U:X.fn x=true∨X.env.scope.names.lookup x=some .local:=by first|exact .inl rfl|exact .inr rfl|assumption):PG X (.Name x pos)<|AA i:=by
 intro pins s σ H v u Q I r h;exact wpAny_assign_Name<|JR I J hi O r (λs' z=>⟨_,H,z,h⟩) U
def HJ:AJ:=λvs σ H Q=>match vs with
 |[]=>Q σ H
 |_=>False
def DQ(t:TG)(u:AJ):AJ:=λvs σ H Q=>match vs with
 |v::r=>t v σ H λσ' H'=>u r σ' H' Q
 |[]=>False
theorem KW:En X [] HJ:=by
 intro pins s σ H vs us Q I r h;cases r with
 |cons=>exact h.elim
 |nil=>exact assignInOrder_nil ⟨σ,H,I,h⟩
theorem IC{es:List Rw}{t:TG}{u:AJ}(h1:PG X e t)(h2:En X es u)
  (Z:(RM (e::es) X.env).map (·.2)=assign e X.env::(RM es X.env).map (·.2):=by rfl):En X (e::es)<|DQ t u:=by
 intro pins s σ H vs us Q I r h;cases r with
 |nil=>exact h.elim
 |cons r rr=>
  rw[Z];refine assignInOrder_cons<|thn (h1 pins s σ H _ _ _ I r h) λ_ s1 O=>?_;obtain⟨z,H1,U,J⟩:=O;exact h2 pins s1 z H1 _ _ Q U rr J
theorem Inv.W6(I:Inv X pins σ H s):Qt X.A s.heap:=λv e=>by
 obtain⟨a,o,vs,h1,h2,h3,z⟩:=I.ok.qt v e;exact⟨a,o,vs,h1,(I.pin (a,o)<|nO _ h2).1,h3,z⟩
def Cr(K:W.Frag)(n:Nat)(t:AJ):TG:=λv σ H Q=>L2.X2 λa xs=>v=.ref a/\aY K H a xs/\xs.length=n/\t xs σ H Q
theorem y3{es:List Rw}{t:AJ}(hc:X.calm=X.calm)(h:En X es t)
  (hn:(RM es X.env).length=n:=by rfl) (z:(RM es X.env).findIdx? (·.1)=none:=by rfl):PG X (.Tuple es k pos)<|Cr X.K n t:=by
 intro pins s σ H v u Q I r hw;obtain⟨a,xs,U,hq,hl,hw⟩:=hw;subst U;cases r;obtain⟨its,rv,J,hz⟩:=I.tuple hq;refine nJ I.W6 J (by simp[hn,<- hl,rv.length]) z λh' Z=>?_;have O:Inv X pins σ H { s with heap:=h' }:=I.kept (t':=s.toks) λb o e=>Z b o (lD<|QT e) e;exact h pins _ σ H xs _ Q O (by simpa using rv) hw
def HI(to ti:TE)(t:Gq):TG:=λv σ H Q=>to σ H λo H1=>ti σ H1 λi H2=>t o i v H2 λH3=>Q σ H3
theorem E7{o i:Rw}{to ti:TE}{t:Gq}(ho:PE X o to)(hi:PE X i ti)(hs:IK X t)
  (ha:∀v,assign (.Subscript o i pos) X.env v=(do
   let z <- holding [v] (eval o X.env)
   let O <- holding [v,z] (eval i X.env)
   UB pos
   holding [v,z,O] (setItem z O v)
   release [v,z,O] []):=by intro _;rfl):PG X (.Subscript o i pos)<|HI to ti t:=by
 intro pins s σ H v u Q I r h;rw[ha];refine QJ<|Rh<|thn (ho pins s σ H _ I h) λz s1 J=>?_;obtain⟨x,H1,Z,r1,U⟩:=J;refine QJ<|Rh<|thn (hi pins s1 σ H1 _ Z U) λO s2 J=>?_;obtain⟨y,H2,I2,r2,q2⟩:=J;refine QJ<|Ts<|QJ<|Rh<|thn (hs pins s2 σ H2 x y v z O u _ I2 r1 r2 r q2) λ_ s3 J=>?_;obtain⟨H3,I3,q3⟩:=J;exact wpAny_release ⟨σ,H3,I3,q3⟩
def wJ(te:TE)(g:TG):TS:=λD σ H=>te σ H λx H1=>g x σ H1 D.nx
theorem E1(U:PE X e te)(hg:PG X tg g)(hs:swapsWithSole [tg] e pos.line X.env=pure false:=by rfl)(hw:swappedStores [tg] e X.env=pure none:=by rfl)
  (h1:(RM [tg] X.env).map (·.2)=[assign tg X.env]:=by rfl):PS X (.Assign [tg] e pos)<|wJ te g:=by
 intro pins s σ H D I h;refine wpAny_Assign_stores (thn (U pins s σ H _ I h) λv s1 J=>?_) hs hw;obtain⟨x,H1,O,Z,z⟩:=J;rw[h1];exact thn (hg pins s1 σ H1 x v _ O Z z) λ_ s2 q=>q
theorem oY(z:X.N.Nodup)(hi:X.N[i]?=some x)(hx:Loc X.env.scope x)(Z:PE X e te)(hs:TL e (some<|.Name x pos') pos.line X.env=pure false:=by rfl)(hf:X.fn x=true∨X.env.scope.names.lookup x=some .local:=by first|exact .inl rfl|exact .inr rfl|assumption):
  PS X (.Assign [.Name x pos'] e pos)<|wJ te<|AA i:=by
 intro pins s σ H D I h;refine wpAny_Assign_Name (thn (Z pins s σ H _ I h) λv s1 O=>?_) hs;obtain⟨y,H1,U,r1,J⟩:=O;exact JR U z hi hx r1 (λs2 I2=>⟨_,H1,I2,J⟩) hf
def G7(i j:Nat)(ta:TA):TS:=λD σ H=>ta σ H λvs H1=>L2.X2 λv w=>vs=[v,w]/\D.nx ((σ.set i<|some v).set j<|some w) H1
def EN(i:Nat)(te:TE)(ti:IH):TS:=λD σ H=>IY (λx=>te σ H λy H1=>ti x y H1 λz H2=>D.nx (σ.set i<|some z) H2) σ i
theorem y0{op:UH}{ti:IH}(hN:X.N.Nodup)(hi:X.N[i]?=some x)(hx:Loc X.env.scope x)(he:PE X e te)(ho:J0 X op ti)(hf:X.fn x=true∨X.env.scope.names.lookup x=some .local:=by first|exact .inl rfl|exact .inr rfl|assumption):
  PS X (.AugAssign (.Name x pos') op e pos)<|EN i te ti:=by
 intro pins s σ H D I h;obtain⟨v,e1,h⟩:=Aw h;obtain⟨m,hn,hl⟩:=I.loc;have aa:IG X.env.scope x:=by rcases hx with k|k;exact .inl k;exact .inr<|.inl k
 obtain⟨u,r,l⟩:=hl i x v hi e1 aa;refine wpAny_AugAssign_Name ?_;have go:QX (QZ X.prog X.w) X.A (eval e X.env) (λw s₂=>QX (QZ X.prog X.w) X.A (inplaceOp op u w) (λr U=>QX (QZ X.prog X.w) X.A (storeName X.env x r) (λ_=>SP X pins D .next) X.xe U) X.xe s₂) X.xe s:=by
  refine thn (he pins s σ H _ I h) λw s1 Z=>?_;obtain⟨y,H1,I1,r1,q1⟩:=Z;refine thn (ho pins s1 σ H1 v y u w _ I1 r r1 q1) λz s2 Z=>?_;obtain⟨zv,H2,I2,r2,q2⟩:=Z;exact JR I2 hN hi hx r2 (λs3 I3=>⟨_,H2,I3,q2⟩) hf
 rcases l with ⟨J,hm⟩|⟨J,c,hc,O⟩
 .exact wpAny_loadName_local I.ok.kind J hn hm go
 .rcases J with J|J
  .exact wpAny_loadName_cell I.ok.kind J hc O go
  .rcases hx with k|k
   .have:X.env.scope.names.lookup x=some .free:=J;rw[k] at this;cases this
   .have:X.env.scope.names.lookup x=some .free:=J;rw[k] at this;cases this
def Kc(f:Int->Int->Int):IH:=λx y H Q=>wV x λi=>wV y λj=>Q (.int<|f i j) H
theorem K8:J0 X .Add<|Kc λi j=>i+j:=by
 intro pins s σ H x y v u Q I J O h;obtain⟨i,j,z,e2,q⟩:=zf h;subst z;subst e2;obtain⟨t,rfl⟩:=J;obtain⟨t',rfl⟩:=O;exact iadd_int ⟨.int _,H,I.tok _,⟨_,rfl⟩,q⟩
theorem Fw:J0 X .Sub<|Kc λi j=>i-j:=by
 intro pins s σ H x y v u Q I J O h;obtain⟨i,j,z,e2,q⟩:=zf h;subst z;subst e2;obtain⟨t,rfl⟩:=J;obtain⟨t',rfl⟩:=O;exact isub_int ⟨.int _,H,I.tok _,⟨_,rfl⟩,q⟩
end
section
def yp(c:TT)(tb:TS):TS:=λD σ H=>∃W:Nat->St->Hp->Prop,(∃m,W m σ H)/\∀m σ H,W m σ H->
 c σ H λb H1=>if b=true then ∃N:St->Hp->Prop,(∀σ' H',N σ' H'->∃m',m'<m/\W m' σ' H')/\tb { D with nx:=N,ct:=N,bk:=D.nx } σ H1 else D.nx σ H1
theorem JQ(hp:PassesOwn (QZ X.prog X.w) X.A X.env X.xe)(hc:PT X c tc)(hb:nM X body tb):PS X (.While c body [] pos)<|yp tc tb:=by
 intro pins s σ H D I h;obtain⟨W,⟨m0,w0⟩,turn⟩:=h;refine wpAny_While<|codeAny_whileLoop (λn s'=>L2.X2 λO H'=>Inv X pins O H' s'/\W n O H') ?_ m0 ⟨σ,H,I,w0⟩;rintro n s1 ⟨J,H1,I1,w1⟩;refine R5 hp<|thn (hc pins s1 J H1 _ I1<|turn n J H1 w1) λb s2 zz=>?_;obtain⟨H2,I2,U⟩:=zz;cases b with
 |true=>
  obtain⟨N,hN,U⟩:=U;rw[Z9 rfl];refine R5 hp<|thn (hb pins s2 J H2 _ I2 U) λf s3 Z=>?_;cases f with
  |next=>
   obtain⟨z,H3,I3,n3⟩:=Z;obtain⟨m',hm,w3⟩:=hN z H3 n3;exact⟨m',hm,z,H3,I3,w3⟩
  |cont=>
   obtain⟨z,H3,I3,n3⟩:=Z;obtain⟨m',hm,w3⟩:=hN z H3 n3;exact⟨m',hm,z,H3,I3,w3⟩
  |brk=>exact Z
  |ret v=>exact Z
 |false=>
  rw[Z8 kS];exact T3 ⟨J,H2,I2,U⟩
end
structure It where
 go:Nat->Hp->Prop
 Wi:Nat->Hp->V->Hp->Prop
 stop:Nat->Hp->Prop
def mI(X:Cx)(pins:List<|QK×R6)(H:Hp)(b:QK):Prop:=
 H b=none/\b≠X.env.locals/\b∉X.fs/\(b∈X.ex∨X.s₀.heap.objs.size<=b)/\(∀x c,X.env.cells.lookup x=some c->c≠b)/\∀p∈X.pn++pins,p.1≠b
theorem Inv.WC{H':Hp}{b:QK}(I:Inv X pins σ H s)(J:s.heap.objs.size<=b)(hn:H' b=none):mI X pins H' b:=by
 refine⟨hn,EC<|qL I.lt J,I.Xe J,.inr<|cW I.sz J,λx c e z=>?_,λp O z=>?_⟩
 .obtain ⟨v,q⟩:=I.cell x c e;exact absurd (qL q.lt<|by rw[z];exact J)<|Bm _
 .exact absurd (qL (QT (I.pin p O).1)<|by rw[z];exact J) (Bm _)
structure tO(cm:Bool)(P:Q6)(w:Rf)(K:W.Frag)(tg:Rw)(J:It)(fp:List QK)(it:QK)(tn:Nat->Rv->Prop):Prop where
 mem:it∈fp
 obj:∀i h,tn i h->∀b∈fp,∃o,h.get? b=some o/\∀v,o.data≠.cell v
 keep:∀i h h',tn i h->(∀b∈fp,∀o,h.get? b=some o->h'.get? b=some o)->tn i h'
 item:∀(X:Cx),X.prog=P->X.w=w->X.K=K->X.calm=cm->∀(i:Nat) (pins:List<|QK×R6) (s:QO) (σ:St) (H:Hp) (E:QM->QO->Prop),Inv X pins σ H s->(∀b∈fp,mI X pins H b)->tn i s.heap->J.go i H->
  QX (QZ P w) X.A (Uv<|.ref it) (λr s1=>∃u,r=some u/\ QX (QZ P w) X.A (Sw tg (.ref it) u) (λ_ s2=>L2.X2 λx H'=>Inv X pins σ H' s2/\RelV x u/\J.Wi i H x H'/\tn (i+1) s2.heap/\∀b∈fp,H' b=none) E s1) E s
 done:∀(X:Cx),X.prog=P->X.w=w->X.K=K->X.calm=cm->∀(i:Nat) (pins:List<|QK×R6) (s:QO) (σ:St) (H:Hp) (E:QM->QO->Prop),Inv X pins σ H s->(∀b∈fp,mI X pins H b)->tn i s.heap->J.stop i H->
  QX (QZ P w) X.A (Uv<|.ref it) (λr s1=>r=none/\Inv X pins σ H s1) E s
 self:∀(A:Rm) (i:Nat) (s:QO) (Q:QM->QO->Prop) (E:QM->QO->Prop),tn i s.heap->Q (.ref it) s->QX (QZ P w) A (pyIter<|.ref it) Q E s
noncomputable abbrev Turn:=tO true
theorem tO.at{J:It}{tn:Nat->Rv->Prop}(T:Turn P w K tg J fp it tn){b:Bool}(h:b=true):tO b P w K tg J fp it tn:=by
 subst h;exact T
noncomputable abbrev TI:=St->Hp->(It->Hp->Prop)->Prop
def NT(X:Cx)(pins:List<|QK×R6)(σ:St)(tg:Rw)(R:It->Hp->Prop)(itv:QM)(s2:QO):Prop:=
 ∃(it:QK) (fp:List QK) (tn:Nat->Rv->Prop) (J:It) (H':Hp),itv=.ref it/\Inv X pins σ H' s2/\tO X.calm X.prog X.w X.K tg J fp it tn/\tn 0 s2.heap/\(∀b∈fp,mI X pins H' b)/\R J H'
def PI(X:Cx)(tg iter:Rw)(wi:TI):Prop:=
 ∀(pins:List<|QK×R6) (s:QO) (σ:St) (H:Hp) (R:It->Hp->Prop),Inv X pins σ H s->wi σ H R->
  QX (QZ X.prog X.w) X.A (eval iter X.env) (λv s1=>QX (QZ X.prog X.w) X.A (pyIter v) (NT X pins σ tg R) X.xe s1) X.xe s
theorem Jd{M:Model}{A:Rm}{o:R6}{n:String}{vs:Array QM}{Q:Unit->QO->Prop}(J:s.heap.get? it=some o)(hc:o.cls=.type n)(O:o.data=.fields vs)
  (hn:["enumerate","zip","dict_itemiterator","dict_reverseitemiterator","odict_iterator","itertools.zip_longest","itertools.pairwise"].contains n=false) (z:Q () s):QX M A (Sw tg (.ref it) u) Q E s:=by
 unfold Sw;cases tg<;>first
  |exact QS z
  |(cases u<;>first
    |exact QS z
    |(refine QJ (wpAny_load J ?_);rw[hc,O];show QX M A (if (["enumerate","zip","dict_itemiterator","dict_reverseitemiterator","odict_iterator","itertools.zip_longest","itertools.pairwise"].contains n&&vs[0]?==some (rawInt _))=true then _ else _) Q E s;rw[Z8<|by intro h;rw[hn,UL] at h;cases h];exact QS z))
noncomputable def wg(K:W.Frag)(a:QK):It:=
 ⟨λi H=>L2.X2 λxs x=>aD K H a xs/\xs[i]?=some x,λi H x H'=>H'=H/\∀xs,aD K H a xs->xs[i]?=some x,λi H=>∃xs,aD K H a xs/\xs.length<=i⟩
noncomputable def AK(K:W.Frag)(a:QK):It:=
 ⟨λi H=>L2.X2 λxs x=>aY K H a xs/\xs[i]?=some x,λi H x H'=>H'=H/\∀xs,aY K H a xs->xs[i]?=some x,λi H=>∃xs,aY K H a xs/\xs.length<=i⟩
noncomputable def tU(lo:Int)(n:Nat):It:=⟨λi _=>i<n,λi H x H'=>H'=H/\x=.int (lo+i),λi _=>n<=i⟩
theorem wC{cm:Bool}(a it:QK):tO cm P w K tg (wg K a) [it] it (λi h=>h.IsListIter it a i) where
 mem:=by simp
 obj:=λi h st b J=>by
  have e:b=it:=by simpa using J
  subst e;obtain⟨o,e,c,d⟩:=st;exact⟨o,e,λv z=>by rw[d] at z;cases z⟩
 keep:=λi h h' st k=>st.at λo e=>k it (by simp) o e
 item:=by
  intro X hP hw hK hc i pins s σ H E I Z st hg;subst hP hw hK;obtain⟨xs,x,U,hx⟩:=hg;obtain⟨its,rv,p,hz⟩:=I.list U;obtain⟨u,hu,ru⟩:=rv.get hx;obtain⟨f0,f1,f2,f3,f4,f5⟩:=Z it (by simp);refine wpAny_pyNext_list_item st p.isList (x:=u) (by simpa using hu) λh' O sb=>?_;have I1:Inv X pins σ H { s with heap:=h' }:=I.turned (t':=s.toks) (λb o J e=>(sb.2 b J).trans e) f0 f1 f3 f4 f5;obtain⟨o,e,c,d⟩:=id O;exact⟨u,rfl,Jd (s:={ s with heap:=h' }) e c d (by decide) ⟨x,H,I1,ru,⟨rfl,λys hy=>by rw[I.VU hy U];exact hx⟩,O,λb J=>(Z b J).1⟩⟩
 done:=by
  intro X hP hw hK hc i pins s σ H E I Z st hg;subst hP hw hK;obtain⟨xs,U,hx⟩:=hg;obtain⟨its,rv,p,hz⟩:=I.list U;obtain⟨f0,f1,f2,f3,f4,f5⟩:=Z it (by simp);have hl:=rv.length;exact xb I.W6 st p.isList (by simp;lia) λh' eb=>⟨rfl,I.turned (t':=s.toks) (λb o J e=>eb b o J e) f0 f1 f3 f4 f5⟩
 self:=λ_ _ _ _ _ st h=>wpAny_pyIter_listiter st h
theorem tW(a it:QK):Turn P w K tg (AK K a) [it] it (λi h=>h.IsTupleIter it a i) where
 mem:=by simp
 obj:=λi h st b J=>by
  have e:b=it:=by simpa using J
  subst e;obtain⟨o,e,c,d⟩:=st;exact⟨o,e,λv z=>by rw[d] at z;cases z⟩
 keep:=λi h h' st k=>st.at λo e=>k it (by simp) o e
 item:=by
  intro X hP hw hK hc i pins s σ H E I Z st hg;subst hP hw hK;obtain⟨xs,x,U,hx⟩:=hg;obtain⟨its,rv,p,hz⟩:=I.tuple U;obtain⟨u,hu,ru⟩:=rv.get hx;obtain⟨f0,f1,f2,f3,f4,f5⟩:=Z it (by simp);refine wpAny_pyNext_tuple_item st (show s.heap.IsTuple a its.toArray from p) (x:=u) (by simpa using hu) λh' O sb=>?_;have I1:Inv X pins σ H { s with heap:=h' }:=I.turned (t':=s.toks) (λb o J e=>(sb.2 b J).trans e) f0 f1 f3 f4 f5;obtain⟨o,e,c,d⟩:=id O;exact⟨u,rfl,Jd (s:={ s with heap:=h' }) e c d (by decide) ⟨x,H,I1,ru,⟨rfl,λys hy=>by rw[I.Wy hy U];exact hx⟩,O,λb J=>(Z b J).1⟩⟩
 done:=by
  intro X hP hw hK hc i pins s σ H E I Z st hg;subst hP hw hK;obtain⟨xs,U,hx⟩:=hg;obtain⟨its,rv,p,hz⟩:=I.tuple U;obtain⟨f0,f1,f2,f3,f4,f5⟩:=Z it (by simp);have hl:=rv.length;exact wpAny_pyNext_tuple_end (I.ok.hd hc) st (show s.heap.IsTuple a its.toArray from p) (by simp;lia) λh' eb=>⟨rfl,I.turned (t':=s.toks) (λb o J e=>eb b o J e) f0 f1 f3 f4 f5⟩
 self:=λ_ _ _ _ _ st h=>wpAny_pyIter_tupleiter st h
theorem tY(it:QK)(lo:Int)(n:Nat):Turn P w K tg (tU lo n) [it] it (λi h=>UU h it (lo+(i:Nat)*1) ((n:Int)-(i:Nat)) 1) where
 mem:=by simp
 obj:=λi h st b J=>by
  have e:b=it:=by simpa using J
  subst e;exact⟨_,st,λv z=>by
   have z':Data.fields _=Data.cell v:=z;cases z'⟩
 keep:=λi h h' st k=>k it (by simp) _ st
 item:=by
  intro X hP hw hK hc i pins s σ H E I U st hg;subst hP hw hK;obtain⟨f0,f1,f2,f3,Z,f5⟩:=U it (by simp);have W:=Walks.range (prog:=X.prog) (w:=X.w) (I.ok.hd hc) it lo 1 n;refine W.item i s _ _ hg st λv h' tk hv O kk=>?_;obtain⟨t,rfl⟩:=hv;have I1:Inv X pins σ H { s with heap:=h',toks:=tk }:=I.turned (λb o J e=>kk b o (by simpa using J) e) f0 f1 f3 Z f5;refine⟨_,rfl,Jd (s:={ s with heap:=h',toks:=tk }) (n:="range_iterator") O rfl rfl (by decide) ⟨.int<|lo+i,H,I1,⟨t,?_⟩,⟨rfl,rfl⟩,O,λb J=>(U b J).1⟩⟩;rw[Int.mul_one]
 done:=by
  intro X hP hw hK hc i pins s σ H E I U st hg;subst hP hw hK;obtain⟨f0,f1,f2,f3,Z,f5⟩:=U it (by simp);exact wpAny_pyNext_range_end (I.ok.hd hc) st (by have:n<=i:=hg;lia) λh' eb=>⟨rfl,I.turned (t':=s.toks) (λb o J e=>eb b o J e) f0 f1 f3 Z f5⟩
 self:=λ_ _ _ _ _ st h=>wpAny_pyIter_rangeiter st h
section
def Je(K:W.Frag)(tl:TE):TI:=λσ H R=>tl σ H λx H1=>∃a,x=.ref a/\(∃xs,aD K H1 a xs)/\R (wg K a) H1
def Fz(K:W.Frag)(tl:TE):TI:=λσ H R=>tl σ H λx H1=>∃a,x=.ref a/\(∃xs,aY K H1 a xs)/\R (AK K a) H1
theorem KY{l:Rw}(hl:PE X l tl):PI X tg l<|Je X.K tl:=by
 intro pins s σ H R I h;refine thn (hl pins s σ H _ I h) λv s1 O=>?_;obtain⟨x,H1,z,Z,J⟩:=O;obtain⟨a,e,⟨xs,hq⟩,q⟩:=J;subst e;cases Z;obtain⟨its,rv,p,hz⟩:=z.list hq;refine wpAny_pyIter_list p.isList ?_;refine⟨s1.heap.objs.size,[s1.heap.objs.size],_,_,H1,rfl,z.kept (t':=s1.toks) λb o e=>QP _ e,wC a _,⟨_,Q0 _ rfl,rfl,rfl⟩,λb U=>?_,q⟩;have e:b=s1.heap.objs.size:=by simpa using U
 subst e;exact z.WC (aL _)<|z.VF.fresh<|aL _
theorem E6{l:Rw}(hl:PE X l tl)(hc:X.calm=true:=by rfl):PI X tg l<|Fz X.K tl:=by
 intro pins s σ H R I h;refine thn (hl pins s σ H _ I h) λv s1 O=>?_;obtain⟨x,H1,z,Z,J⟩:=O;obtain⟨a,e,⟨xs,hq⟩,q⟩:=J;subst e;cases Z;obtain⟨its,rv,p,hz⟩:=z.tuple hq;refine wpAny_pyIter_tuple (show s1.heap.IsTuple a its.toArray from p) ?_;refine⟨s1.heap.objs.size,[s1.heap.objs.size],_,_,H1,rfl,z.kept (t':=s1.toks) λb o e=>QP _ e,(tW a _).at hc,⟨_,Q0 _ rfl,rfl,rfl⟩,λb U=>?_,q⟩;have e:b=s1.heap.objs.size:=by simpa using U
 subst e;exact z.WC (aL _)<|z.VF.fresh<|aL _
theorem rE(hc:X.calm=true){R:It->Hp->Prop}{hi:Int}{t u v:Tok}{tk:Nat}(I:Inv X pins σ H s)(h1:-(2^62)<=lo)(h2:lo<2^62)(h3:-(2^62)<=hi)(O:hi<2^62)
  (q:R (tU lo (hi-lo).toNat) H):QX (QZ X.prog X.w) X.A (pyIter<|.ref s.heap.objs.size) (NT X pins σ tg R) E { s with heap:=s.heap.push { cls:=.type "range",data:=.fields #[.int lo t,.int hi u,.int 1 v] },toks:=tk }:=by
 refine wpAny_pyIter_range (IsRange.new ..) (small_one h1 h2 h3 O) ?_;have z:Inv X pins σ H { s with heap:=s.heap.push { cls:=.type "range",data:=.fields #[.int lo t,.int hi u,.int 1 v] },toks:=tk }:=I.kept λb o e=>QP _ e;refine⟨(s.heap.push { cls:=.type "range",data:=.fields #[.int lo t,.int hi u,.int 1 v] }).objs.size,[(s.heap.push { cls:=.type "range",data:=.fields #[.int lo t,.int hi u,.int 1 v] }).objs.size],_,_,H,rfl,z.kept (t':=tk) λb o e=>QP _ e,(tY _ lo (hi-lo).toNat).at hc,?_,λb U=>?_,q⟩
 .have J:lo+((0:Nat):Int)*1=lo:=by simp
  have e2:(((hi-lo).toNat:Nat):Int)-((0:Nat):Int)=Q2 lo hi 1:=by rw[rangeSize_one];split<;>lia
  show UU _ _ (lo+((0:Nat):Int)*1) ((((hi-lo).toNat:Nat):Int)-((0:Nat):Int)) 1;rw[J,e2];exact Q0 _ rfl
 .have e:b=(s.heap.push { cls:=.type "range",data:=.fields #[.int lo t,.int hi u,.int 1 v] }).objs.size:=by simpa using U
  subst e;exact z.WC (aL _)<|z.VF.fresh<|aL _
def zI(ta:TA):TI:=λσ H R=>ta σ H λvs H1=>∃j:Int,vs=[.int j]/\-(2^62)<=j/\j<2^62/\R (tU 0 j.toNat) H1
def zH(ta:TA):TI:=λσ H R=>ta σ H λvs H1=>L2.X2 λi j:Int=>vs=[.int i,.int j]/\(-(2^62)<=i/\i<2^62/\-(2^62)<=j/\j<2^62)/\R (tU i (j-i).toNat) H1
theorem oE{a:Rw}{p:UG}(hg:Gl X "range")(hm:X.mg "range"=none)(ha:PA X [a] ta)(hs:QY [a] X.env=[(false,eval a X.env)]:=by rfl)(hc:X.calm=true:=by rfl):PI X tg (.Call (.Name "range" p) [a] [] pos)<|zI ta:=by
 intro pins s σ H R I h;refine Call_<|D6 I hg hm boot_range<|RB (thn (ha pos pins s σ H _ I h) λus s1 J=>?_) hs rfl;obtain⟨vs,H1,O,Z,z⟩:=J;obtain⟨j,e,z,U,q⟩:=z;subst e;cases Z with
 |cons r rr=>
  cases rr;obtain⟨t,rfl⟩:=r;exact call_range_1<|rE hc O (by lia) (by lia) z U<|by simpa using q
theorem wQ{a b:Rw}{p:UG}(hg:Gl X "range")(hm:X.mg "range"=none)(ha:PA X [a,b] ta)(hs:QY [a,b] X.env=[(false,eval a X.env),(false,eval b X.env)]:=by rfl)(z:QY [b] X.env=[(false,eval b X.env)]:=by rfl)(hc:X.calm=true:=by rfl):
  PI X tg (.Call (.Name "range" p) [a,b] [] pos)<|zH ta:=by
 intro pins s σ H R I h;refine Call_ (D6 I hg hm boot_range<|RB (thn (ha pos pins s σ H _ I h) λus s1 O=>?_) (by rw[hs,z])<|by rw[z];rfl);obtain⟨vs,H1,Z,r1,J⟩:=O;obtain⟨i,j,e,⟨J,q2,q3,U⟩,q⟩:=J;subst e;cases r1 with
 |cons r rr=>
  cases rr with
  |cons r' rr=>
   cases rr;obtain⟨t,rfl⟩:=r;obtain⟨t',rfl⟩:=r';exact call_range_2<|rE hc Z J q2 q3 U q
def ud(wi:TI)(g:TG)(tb:TS):TS:=λD σ H=>wi σ H λJ H1=>∃W:Nat->Nat->St->Hp->Prop,(∃m,W 0 m σ H1)/\∀i m σ H,W i m σ H->
 (J.stop i H/\D.nx σ H)∨(J.go i H/\∃N:St->Hp->Prop,(∀σ' H',N σ' H'->∃m',m'<m/\W (i+1) m' σ' H')/\∀x H',J.Wi i H x H'->g x σ H' λσ2 H2=>tb { D with nx:=N,ct:=N,bk:=D.nx } σ2 H2)
noncomputable def Il(fp:List QK)(h:Rv):List<|QK×R6:=fp.filterMap λb=>(h.get? b).map λo=>(b,o)
theorem JW{b:QK}{o:R6}(z:b∈fp)(e:h.get? b=some o):(b,o)∈Il fp h:=List.mem_filterMap.mpr ⟨b,z,by rw[e];rfl⟩
theorem wW{p:QK×R6}(O:p∈Il fp h):p.1∈fp/\h.get? p.1=some p.2:=by
 obtain⟨b,z,e⟩:=List.mem_filterMap.mp O;cases q:h.get? b with
 |none=>rw[q] at e;cases e
 |some o=>
  rw[q] at e;have J:(b,o)=p:=QR e;subst J;exact⟨z,q⟩
theorem Inv.pinned(I:Inv X pins σ H s)(hf:∀b∈fp,mI X pins H b)(U:∀b∈fp,∃o,s.heap.get? b=some o/\∀v,o.data≠.cell v):Inv X (pins++Il fp s.heap) σ H s:=
 I.VT λp hp=>(fG.mp hp).elim (λz=>I.pin p<|gR _ z) λz=>by
  obtain⟨J,e⟩:=wW z;obtain⟨f0,f1,Z,_⟩:=hf p.1 J;obtain⟨o,O,d⟩:=U p.1 J;rw[e] at O;cases O;exact⟨e,f0,f1,Z,d⟩
theorem Inv.VO{pl:List<|QK×R6}(I:Inv X (pins++pl) σ H s):Inv X pins σ H s:=I.VT λp z=>I.pin p<|gR _<|nO _ z
theorem lR{iter:Rw}{wi:TI}(hp:PassesOwn (QZ X.prog X.w) X.A X.env X.xe)(hc:X.calm=X.calm)(hi:PI X tg iter wi)(hg:PG X tg g)(Z:nM X body tb)
  (hs:∀x,RF iter X.env x=pure x:=by intro _;rfl):PS X (.For tg iter body [] pos)<|ud wi g tb:=by
 intro pins s σ H D I h;refine wpAny_For (thn (hi pins s σ H _ I h) λv s1 h1=>thn h1 λai s2 h2=>?_) hs;obtain⟨it,fp,tn,J,H2,e,I2,T,ae,f2,W,⟨m0,w0⟩,turn⟩:=h2;subst e;have O:∀{H':Hp},(∀b∈fp,H' b=none)->∀b∈fp,mI X pins H' b:=λhn b Z=>⟨hn b Z,(f2 b Z).2⟩
 refine codeAny_forLoop_any (λn s'=>L2.X3 λi U H'=>Inv X pins U H' s'/\tn i s'.heap/\(∀b∈fp,H' b=none)/\W i n U H') ?_ m0 ⟨0,σ,H2,I2,ae,λb Z=>(f2 b Z).1,w0⟩;rintro n s3 ⟨i,ab,H3,I3,ad,Wv,w3⟩;rcases turn i n ab H3 w3 with ⟨stop,qn⟩|⟨go,N,hN,step⟩
 .refine R5 hp (thn (T.done X rfl rfl rfl hc i pins s3 ab H3 X.xe I3 (O Wv) ad stop) λr s4 zz=>?_);obtain⟨hr,I4⟩:=zz;subst hr;exact T3 ⟨ab,H3,I4,qn⟩
 .refine R5 hp (thn (T.item X rfl rfl rfl hc i pins s3 ab H3 X.xe I3 (O Wv) ad go) λr s4 zz=>?_);obtain⟨u,hr,h4⟩:=zz;subst hr;refine R5 hp<|thn h4 λ_ s5 zz=>?_;obtain⟨x,H5,I5,r5,y5,ac,ag⟩:=zz;have af:=I5.pinned (O ag)<|T.obj _ _ ac;refine R5 hp<|thn (hg _ s5 ab H5 x u _ af r5<|step x H5 y5) λ_ s6 zz=>?_;obtain⟨ah,H6,I6,q6⟩:=zz;refine R5 hp<|thn (Z _ s6 ah H6 _ I6 q6) λf s7 q7=>?_;have aa:∀{z:St} {H7:Hp},Inv X (pins++Il fp s5.heap) z H7 s7->N z H7->∃m,m<n/\L2.X3 λi U H'=>Inv X pins U H' s7/\tn i s7.heap/\(∀b∈fp,H' b=none)/\W i m U H':=fun {z H7} I7 n7=>by
   obtain⟨m',hm,w7⟩:=hN z H7 n7;refine⟨m',hm,i+1,z,H7,I7.VO,T.keep _ _ _ ac λb Z o e=>(I7.pin (b,o)<|gR _<|gR _<|JW Z e).1,λb Z=>?_,w7⟩;obtain⟨o,e,d⟩:=T.obj _ _ ac b Z;exact(I7.pin (b,o)<|gR _<|gR _<|JW Z e).2.1
  cases f with
  |next=>obtain⟨z,H7,I7,n7⟩:=q7;exact aa I7 n7
  |cont=>obtain⟨z,H7,I7,n7⟩:=q7;exact aa I7 n7
  |brk=>obtain⟨z,H7,I7,q7⟩:=q7;exact⟨z,H7,I7.VO,q7⟩
  |ret v=>obtain⟨x7,z,H7,I7,r7,q7⟩:=q7;exact⟨x7,z,H7,I7.VO,r7,q7⟩
end
theorem zT{D:Ends}(z:Nat->St->Hp->Prop)(h0:z 0 σ H)(hl:∀i σ H,i<=xs.length->z i σ H->aD K H a xs)
  (hs:∀i x σ H,xs[i]?=some x->z i σ H->g x σ H λO H2=>tb { D with nx:=z<|i+1,ct:=z<|i+1,bk:=D.nx } O H2) (Z:∀σ H,z xs.length σ H->D.nx σ H):
  ∃W:Nat->Nat->St->Hp->Prop,(∃m,W 0 m σ H)/\∀i m σ H,W i m σ H->
   ((wg K a).stop i H/\D.nx σ H)∨((wg K a).go i H/\∃N:St->Hp->Prop,(∀J H',N J H'->∃U,U<m/\W (i+1) U J H')/\∀x H',(wg K a).Wi i H x H'->g x σ H' λO H2=>tb { D with nx:=N,ct:=N,bk:=D.nx } O H2):=by
 refine⟨λi m σ H=>m=xs.length-i/\i<=xs.length/\z i σ H,⟨xs.length,by simp,dU _,h0⟩,?_⟩;rintro i m σ H ⟨rfl,hi,p⟩;have q:=hl i σ H hi p;by_cases VH:i<xs.length
 .refine .inr ⟨⟨xs,xs[i],q,by simp[VH]⟩,z<|i+1,λJ H' p'=>⟨xs.length-(i+1),by lia,rfl,VH,p'⟩,λx H' y=>?_⟩;obtain⟨e,y⟩:=y;subst e;exact hs i x σ _ (y xs q) p
 .have e:i=xs.length:=by lia
  subst e;exact .inl ⟨⟨xs,q,aL _⟩,Z σ H p⟩
theorem Cs{D:Ends}(z:Nat->St->Hp->Prop)(h0:z 0 σ H)(hl:∀i σ H,i<=xs.length->z i σ H->aY K H a xs)
  (hs:∀i x σ H,xs[i]?=some x->z i σ H->g x σ H λO H2=>tb { D with nx:=z<|i+1,ct:=z<|i+1,bk:=D.nx } O H2) (Z:∀σ H,z xs.length σ H->D.nx σ H):
  ∃W:Nat->Nat->St->Hp->Prop,(∃m,W 0 m σ H)/\∀i m σ H,W i m σ H->
   ((AK K a).stop i H/\D.nx σ H)∨((AK K a).go i H/\∃N:St->Hp->Prop,(∀J H',N J H'->∃U,U<m/\W (i+1) U J H')/\∀x H',(AK K a).Wi i H x H'->g x σ H' λO H2=>tb { D with nx:=N,ct:=N,bk:=D.nx } O H2):=by
 refine⟨λi m σ H=>m=xs.length-i/\i<=xs.length/\z i σ H,⟨xs.length,by simp,dU _,h0⟩,?_⟩;rintro i m σ H ⟨rfl,hi,p⟩;have q:=hl i σ H hi p;by_cases VH:i<xs.length
 .refine .inr ⟨⟨xs,xs[i],q,by simp[VH]⟩,z<|i+1,λJ H' p'=>⟨xs.length-(i+1),by lia,rfl,VH,p'⟩,λx H' y=>?_⟩;obtain⟨e,y⟩:=y;subst e;exact hs i x σ _ (y xs q) p
 .have e:i=xs.length:=by lia
  subst e;exact .inl ⟨⟨xs,q,aL _⟩,Z σ H p⟩
theorem xq{D:Ends}(J:Nat->St->Hp->Prop)(h0:J 0 σ H)
  (hs:∀i σ H,i<n->J i σ H->g (.int<|lo+i) σ H λO H2=>tb { D with nx:=J<|i+1,ct:=J<|i+1,bk:=D.nx } O H2) (Z:∀σ H,J n σ H->D.nx σ H):
  ∃W:Nat->Nat->St->Hp->Prop,(∃m,W 0 m σ H)/\∀i m σ H,W i m σ H->
   ((tU lo n).stop i H/\D.nx σ H)∨((tU lo n).go i H/\∃N:St->Hp->Prop,(∀z H',N z H'->∃U,U<m/\W (i+1) U z H')/\∀x H',(tU lo n).Wi i H x H'->g x σ H' λO H2=>tb { D with nx:=N,ct:=N,bk:=D.nx } O H2):=by
 refine⟨λi m σ H=>m=n-i/\i<=n/\J i σ H,⟨n,by simp,dU _,h0⟩,?_⟩;rintro i m σ H ⟨rfl,hi,p⟩;by_cases VH:i<n
 .refine .inr ⟨VH,J<|i+1,λz H' p'=>⟨n-(i+1),by lia,rfl,VH,p'⟩,λx H' y=>?_⟩;obtain⟨e,y⟩:=y;subst e y;exact hs i σ _ VH p
 .have e:i=n:=by lia
  subst e;exact .inl ⟨aL _,Z σ H p⟩
noncomputable abbrev R2:=V->V->Hp->VK->Prop
variable {r:R2}
def kG(X:Cx)(f:QM->QM->UY QM)(r:R2):Prop:=
 ∀(pins:List<|QK×R6) (s:QO) (σ:St) (H:Hp) (x y:V) (v u:QM) (Q:VK),Inv X pins σ H s->RelV x v->RelV y u->r x y H Q->
  QX (QZ X.prog X.w) X.A (f v u) (EP X pins σ Q) X.xe s
def NQ(X:Cx)(f:QM->UY QM)(r:V->Hp->VK->Prop):Prop:=
 ∀(pins:List<|QK×R6) (s:QO) (σ:St) (H:Hp) (x:V) (v:QM) (Q:VK),Inv X pins σ H s->RelV x v->r x H Q->
  QX (QZ X.prog X.w) X.A (f v) (EP X pins σ Q) X.xe s
def tF(X:Cx)(f:QM)(r:List V->Hp->VK->Prop):Prop:=
 ∀(pins:List<|QK×R6) (s:QO) (σ:St) (H:Hp) (xs:List V) (us:List QM) (Q:VK),Inv X pins σ H s->Vals xs us->r xs H Q->
  QX (QZ X.prog X.w) X.A (call f us) (EP X pins σ Q) X.xe s
def EK(r:R2)(ta tb:TE):TE:=λσ H Q=>ta σ H λx H1=>tb σ H1 λy H2=>r x y H2 Q
def NW(r:V->Hp->VK->Prop)(ta:TE):TE:=λσ H Q=>ta σ H λx H1=>r x H1 Q
def rI(C:Int->Int->Prop)(g:Int->Int->V):R2:=λx y H Q=>wV x λi=>wV y λj=>C i j/\Q (g i j) H
def AR(g:Int->Int->V):R2:=λx y H Q=>wV x λi=>wV y λj=>Q (g i j) H
def rU(g:Int->V):V->Hp->VK->Prop:=λx H Q=>wV x λi=>Q (g i) H
section
variable {a b:Rw}{ta tb tc:TE}
theorem FQ(ha:PE X a ta)(Z:PE X b tb){R:V->V->Hp->Prop}(I:Inv X pins σ H s)
  (h:ta σ H λx H1=>tb σ H1 λy H2=>R x y H2) {f:QM->QM->UY QM}
  (hf:∀v u s2 x y H2,Inv X pins σ H2 s2->RelV x v->RelV y u->R x y H2->QX (QZ X.prog X.w) X.A (f v u) Q X.xe s2):
  QX (QZ X.prog X.w) X.A (eval a X.env) (λv s₁=>QX (QZ X.prog X.w) X.A (eval b X.env) (λu s₂=>QX (QZ X.prog X.w) X.A (f v u) Q X.xe s₂) X.xe s₁) X.xe s:=by
 refine thn (ha pins s σ H _ I h) λv s1 z=>?_;obtain⟨x,H1,O,r1,J⟩:=z;refine thn (Z pins s1 σ H1 _ O J) λu s2 z=>?_;obtain⟨y,H2,I2,r2,U⟩:=z;exact hf v u s2 x y H2 I2 r1 r2 U
theorem dS{z:UH}(J:kG X (SO z) r)(ha:PE X a ta)(Z:PE X b tb):PE X (.BinOp a z b pos)<|EK r ta tb:=by
 intro pins s σ H Q I h;exact wpAny_BinOp<|FQ ha Z I h λv u s2 x y H2 I2 U O q=>J pins s2 σ H2 x y v u Q I2 U O q
theorem Hu{z:UnaryOp}{r:V->Hp->VK->Prop}(Z:NQ X (unaryOp z) r)(ha:PE X a ta):PE X (.UnaryOp z a pos)<|NW r ta:=by
 intro pins s σ H Q I h;refine UnaryOp_<|thn (ha pins s σ H _ I h) λv s1 O=>?_;obtain⟨x,H1,U,r1,J⟩:=O;exact Z pins s1 σ H1 x v Q U r1 J
theorem GL{f:QM->QM->UY QM}{C:Int->Int->Prop}{g:Int->Int->Int}
  (z:∀(i j:Int) (t u:Tok) (s:QO) (Q:QM->QO->Prop) (E:QM->QO->Prop),C i j->Q (.int (g i j) s.toks) { s with toks:=s.toks+1 }->QX (QZ X.prog X.w) X.A (f (.int i t)<|.int j u) Q E s):
  kG X f<|rI C λi j=>.int<|g i j:=by
 intro pins s σ H x y v u Q I O J h;obtain⟨i,j,rfl,rfl,hc,q⟩:=zf h;obtain⟨t,rfl⟩:=O;obtain⟨t',rfl⟩:=J;exact z i j t t' s _ _ hc ⟨.int<|g i j,H,I.tok _,⟨_,rfl⟩,q⟩
theorem Hz{f:QM->QM->UY QM}{g:Int->Int->Int}
  (z:∀(i j:Int) (t u:Tok) (s:QO) (Q:QM->QO->Prop) (E:QM->QO->Prop),Q (.int (g i j) s.toks) { s with toks:=s.toks+1 }->QX (QZ X.prog X.w) X.A (f (.int i t)<|.int j u) Q E s):
  kG X f<|AR λi j=>.int<|g i j:=by
 intro pins s σ H x y v u Q I O J h;obtain⟨i,j,rfl,rfl,q⟩:=zf h;obtain⟨t,rfl⟩:=O;obtain⟨t',rfl⟩:=J;exact z i j t t' s _ _ ⟨.int<|g i j,H,I.tok _,⟨_,rfl⟩,q⟩
theorem BW{f:QM->QM->UY QM}{g:Int->Int->Bool}
  (z:∀(i j:Int) (t u:Tok) (s:QO) (Q:QM->QO->Prop) (E:QM->QO->Prop),Q (.bool<|g i j) s->QX (QZ X.prog X.w) X.A (f (.int i t)<|.int j u) Q E s):
  kG X f<|AR λi j=>.bl<|g i j:=by
 intro pins s σ H x y v u Q I O J h;obtain⟨i,j,rfl,rfl,q⟩:=zf h;obtain⟨t,rfl⟩:=O;obtain⟨t',rfl⟩:=J;exact z i j t t' s _ _ ⟨.bl<|g i j,H,I,rfl,q⟩
def IT(i j:Int):Prop:=0<j/\j<1073741824
def Gv(i j:Int):Prop:=0<=j/\j<=1000000/\i.natAbs<2^64
def Gw(i j:Int):Prop:=(-(2^64)<i/\i<2^64)∨(-(2^64)<j/\j<2^64)
theorem Gw.ok{i j:Int}(h:Gw i j):IntMulOk i j:=by
 rcases h with ⟨h1,h2⟩|⟨h1,h2⟩
 .exact .of_left (intBits_le_64 h1 h2)
 .exact .of_right (intBits_le_64 h1 h2)
theorem AV:kG X (SO .Add)<|AR λi j=>.int<|i+j:=Hz λ_ _ _ _ _ _ _ q=>add_int q
theorem Jz:kG X (SO .Sub)<|AR λi j=>.int<|i-j:=Hz λ_ _ _ _ _ _ _ q=>sub_int q
theorem Jy:kG X (SO .Mult)<|rI Gw λi j=>.int<|i*j:=GL λ_ _ _ _ _ _ _ hc q=>mul_int q hc.ok
theorem Ec:kG X (SO .FloorDiv)<|rI IT λi j=>.int<|i/j:=GL λi j _ _ _ _ _ hc q=>by
 have h1:(0:Int)<j:=hc.1;have h2:j<1073741824:=hc.2;exact floordiv_int (by lia) (by rw[UQ i<|by lia];exact q)<|.inl<|PyProof.noPylong_small<|by lia
theorem GS:kG X (SO .Mod)<|rI (λ_ j=>0<j) λi j=>.int<|i%j:=GL λi j _ _ _ _ _ hc q=>by
 have h1:(0:Int)<j:=hc;exact mod_int' (by lia)<|by rw[Int.fmod_eq_emod_of_nonneg i<|by lia];exact q
theorem ze:kG X (SO .Pow)<|rI Gv λi j=>.int<|i^j.toNat:=GL λ_ _ _ _ _ _ _ hc q=>pow_int_small hc.1 hc.2.1 hc.2.2 q
theorem zd:kG X (SO .LShift)<|rI Gv λi j=>.int<|i*2^j.toNat:=GL λ_ _ _ _ _ _ _ hc q=>lshift_int_small hc.1 hc.2.1 hc.2.2 q
theorem OX{f:QM->UY QM}{g:Int->Int}
  (z:∀(i:Int) (t:Tok) (s:QO) (Q:QM->QO->Prop) (E:QM->QO->Prop),Q (.int (g i) s.toks) { s with toks:=s.toks+1 }->QX (QZ X.prog X.w) X.A (f<|.int i t) Q E s):
  NQ X f<|rU λi=>.int<|g i:=by
 intro pins s σ H x v Q I J h;obtain⟨i,rfl,q⟩:=Jw h;obtain⟨t,rfl⟩:=J;exact z i t s _ _ ⟨.int<|g i,H,I.tok _,⟨_,rfl⟩,q⟩
theorem EF:NQ X (unaryOp .USub)<|rU λi=>.int<|-i:=OX λ_ _ _ _ _ q=>neg_int q
end
noncomputable def scal:V->V->Bool
 |.VA,.VA=>true|.VA,.int _=>true|.int _,.VA=>true|.VA,.bl _=>true|.bl _,.VA=>true|.VA,.str _=>true|.str _,.VA=>true
 |.int _,.int _=>true|.bl _,.bl _=>true|.str _,.str _=>true|.byt _,.byt _=>true
 |.int _,.str _=>true|.str _,.int _=>true|.bl _,.str _=>true|.str _,.bl _=>true
 |_,_=>false
def GK:R2:=λx y H Q=>match x,y with
 |.int i,.int j=>Q (.bl<|decide<|i=j) H
 |.bl i,.bl j=>Q (.bl<|decide<|i=j) H
 |.str i,.str j=>Q (.bl<|decide<|i=j) H
 |x,y=>scal x y=true/\Q (.bl<|decide<|x=y) H
theorem BI{x:V}{Q:VK}(h:GK x y H Q):scal x y=true/\Q (.bl<|decide<|x=y) H:=by
 cases x<;>cases y<;>first|exact h|exact⟨rfl,by simpa[GK] using h⟩
def GJ:R2:=λx y H Q=>match x,y with
 |.int i,.int j=>Q (.bl<|!decide (i=j)) H
 |.bl i,.bl j=>Q (.bl<|!decide (i=j)) H
 |.str i,.str j=>Q (.bl<|!decide (i=j)) H
 |x,y=>scal x y=true/\Q (.bl<|!decide (x=y)) H
theorem BH{x:V}{Q:VK}(h:GJ x y H Q):scal x y=true/\Q (.bl<|!decide (x=y)) H:=by
 cases x<;>cases y<;>first|exact h|exact⟨rfl,by simpa[GJ] using h⟩
theorem vW{i j:Int}:decide (V.int i=V.int j)=(i==j):=by
 rw[EB];simp
theorem Ah{i j:Bool}:decide (V.bl i=V.bl j)=(i==j):=by
 rw[EB];simp
theorem vV{i j:Q3}:decide (V.str i=V.str j)=(i==j):=by
 rw[EB];simp
theorem vX{i j:Array UInt8}:decide (V.byt i=V.byt j)=(i.toList==j.toList):=by
 rw[EB];cases i;cases j;simp
section
variable {a b:Rw}{ta tb tc:TE}
theorem iJ{Q:VK}{k z:Bool}(I:Inv X pins σ H s)(q:Q (.bl k) H)(e:k=z):EP X pins σ Q (.bool z) s:=by
 subst e;exact⟨.bl k,H,I,rfl,q⟩
theorem Ic:kG X (RN .Eq) GK:=by
 intro pins s σ H x y v u Q I O z h;obtain⟨J,q⟩:=BI h;cases x with
 |VA=>
  cases O;cases y with
  |VA=>cases z;exact PySem.EqNone.eq_none_none<|iJ I q<|by simp
  |bl j=>cases z;exact PySem.EqNone.eq_none_bool<|iJ I q<|by simp
  |int j=>obtain⟨t',rfl⟩:=z;exact PySem.EqNone.eq_none_int<|iJ I q<|by simp
  |str j=>obtain⟨t',rfl⟩:=z;exact PySem.EqNone.eq_none_str<|iJ I q<|by simp
  |_=>exact absurd (show false=true from J) kS
 |bl i=>
  cases O;cases y with
  |VA=>cases z;exact PySem.EqNone.eq_bool_none<|iJ I q<|by simp
  |bl j=>cases z;exact eq_bool<|iJ I q Ah
  |str j=>obtain⟨t',rfl⟩:=z;exact PySem.EqMixed.eq_bool_str<|iJ I q<|by simp
  |_=>exact absurd (show false=true from J) kS
 |int i=>
  obtain⟨t,rfl⟩:=O;cases y with
  |VA=>cases z;exact PySem.EqNone.eq_int_none<|iJ I q<|by simp
  |int j=>obtain⟨t',rfl⟩:=z;exact eq_int<|iJ I q vW
  |str j=>obtain⟨t',rfl⟩:=z;exact PySem.EqMixed.eq_int_str<|iJ I q<|by simp
  |_=>exact absurd (show false=true from J) kS
 |str i=>
  obtain⟨t,rfl⟩:=O;cases y with
  |VA=>cases z;exact PySem.EqNone.eq_str_none<|iJ I q<|by simp
  |bl j=>cases z;exact PySem.EqMixed.eq_str_bool<|iJ I q<|by simp
  |int j=>obtain⟨t',rfl⟩:=z;exact PySem.EqMixed.eq_str_int<|iJ I q<|by simp
  |str j=>obtain⟨t',rfl⟩:=z;exact eq_str<|iJ I q vV
  |_=>exact absurd (show false=true from J) kS
 |byt i=>
  obtain⟨t,rfl⟩:=O;cases y with
  |byt j=>obtain⟨t',rfl⟩:=z;exact PySem.W.eq_bytes<|iJ I q vX
  |_=>exact absurd (show false=true from J) kS
 |_=>cases y<;>exact absurd (show false=true from J) kS
theorem Ie:kG X (RN .NotEq) GJ:=by
 intro pins s σ H x y v u Q I O z h;obtain⟨J,q⟩:=BH h;cases x with
 |VA=>
  cases O;cases y with
  |VA=>cases z;exact PySem.EqNone.ne_none_none<|iJ I q<|by simp
  |bl j=>cases z;exact PySem.EqNone.ne_none_bool<|iJ I q<|by simp
  |int j=>obtain⟨t',rfl⟩:=z;exact PySem.EqNone.ne_none_int<|iJ I q<|by simp
  |str j=>obtain⟨t',rfl⟩:=z;exact PySem.EqNone.ne_none_str<|iJ I q<|by simp
  |_=>exact absurd (show false=true from J) kS
 |bl i=>
  cases O;cases y with
  |VA=>cases z;exact PySem.EqNone.ne_bool_none<|iJ I q<|by simp
  |bl j=>cases z;exact ne_bool<|iJ I q<|congrArg not Ah
  |str j=>obtain⟨t',rfl⟩:=z;exact PySem.EqMixed.ne_bool_str<|iJ I q<|by simp
  |_=>exact absurd (show false=true from J) kS
 |int i=>
  obtain⟨t,rfl⟩:=O;cases y with
  |VA=>cases z;exact PySem.EqNone.ne_int_none<|iJ I q<|by simp
  |int j=>obtain⟨t',rfl⟩:=z;exact ne_int<|iJ I q<|congrArg not vW
  |str j=>obtain⟨t',rfl⟩:=z;exact PySem.EqMixed.ne_int_str<|iJ I q<|by simp
  |_=>exact absurd (show false=true from J) kS
 |str i=>
  obtain⟨t,rfl⟩:=O;cases y with
  |VA=>cases z;exact PySem.EqNone.ne_str_none<|iJ I q<|by simp
  |bl j=>cases z;exact PySem.EqMixed.ne_str_bool<|iJ I q<|by simp
  |int j=>obtain⟨t',rfl⟩:=z;exact PySem.EqMixed.ne_str_int<|iJ I q<|by simp
  |str j=>obtain⟨t',rfl⟩:=z;exact ne_str<|iJ I q<|congrArg not vV
  |_=>exact absurd (show false=true from J) kS
 |byt i=>
  obtain⟨t,rfl⟩:=O;cases y with
  |byt j=>obtain⟨t',rfl⟩:=z;exact PySem.W.ne_bytes<|iJ I q<|congrArg not vX
  |_=>exact absurd (show false=true from J) kS
 |_=>cases y<;>exact absurd (show false=true from J) kS
theorem Ji:kG X (RN .Lt)<|AR λi j=>.bl<|decide<|i<j:=BW λ_ _ _ _ _ _ _ q=>lt_int q
theorem Hx:kG X (RN .LtE)<|AR λi j=>.bl<|decide<|i<=j:=BW λ_ _ _ _ _ _ _ q=>le_int q
theorem DN:kG X (RN .Gt)<|AR λi j=>.bl<|decide<|j<i:=BW λ_ _ _ _ _ _ _ q=>gt_int q
theorem Hy:kG X (RN .GtE)<|AR λi j=>.bl<|decide<|j<=i:=BW λ_ _ _ _ _ _ _ q=>ge_int q
theorem Ff:kG X (RN .Is) λx y H Q=>y=.VA/\Q (.bl<|decide<|x=.VA) H:=by
 intro pins s σ H x y v u Q I z J h;obtain⟨rfl,q⟩:=h;cases J;refine is_none_gen<|iJ I q ?_;cases x<;>first
  |(cases z;rfl)
  |(obtain⟨t,rfl⟩:=z;rfl)
theorem BV:kG X (RN .IsNot) λx y H Q=>y=.VA/\Q (.bl<|!decide (x=.VA)) H:=by
 intro pins s σ H x y v u Q I z J h;obtain⟨rfl,q⟩:=h;cases J;refine isnot_none_gen<|iJ I q ?_;cases x<;>first
  |(cases z;rfl)
  |(obtain⟨t,rfl⟩:=z;rfl)
theorem mG(b:Rw){z:CmpOp}(h:z≠.In:=by decide)(h2:z≠.NotIn:=by decide):Uq z b=false:=by
 have J:(z==CmpOp.In)=false:=by cases z<;>first|rfl|exact absurd rfl h
 have e2:(z==CmpOp.NotIn)=false:=by cases z<;>first|rfl|exact absurd rfl h2
 cases b<;>simp[Uq,J,e2]
theorem Ed{z:CmpOp}(J:kG X (RN z) r)(ha:PE X a ta)(Z:PE X b tb)(hm:Uq z b=false):PE X (.Compare a [z] [b] pos)<|EK r ta tb:=by
 intro pins s σ H Q I h;exact wpAny_Compare1 (FQ ha Z I h λv u s2 x y H2 I2 U O q=>J pins s2 σ H2 x y v u Q I2 U O q) hm
def Jp(t:TE):TT:=λσ H Q=>t σ H λx H'=>BX x λk=>Q k H'
theorem tM{O:CmpOp}(ho:kG X (RN O) r)(ha:PE X a ta)(hb:PE X b tb)(hm:Uq O b=false):PT X (.Compare a [O] [b] pos)<|Jp<|EK r ta tb:=by
 intro pins s σ H Q I h;refine wpAny_isTrue_Compare1 (thn (ha pins s σ H _ I h) λv s1 J=>?_) hm;obtain⟨x,H1,Z,r1,U⟩:=J;refine thn (hb pins s1 σ H1 _ Z U) λu s2 J=>?_;obtain⟨y,H2,I2,r2,q2⟩:=J;refine thn (ho pins s2 σ H2 x y v u _ I2 r1 r2 q2) λc s3 J=>?_;obtain⟨z,H3,I3,r3,qz⟩:=J;obtain⟨k,e,q3⟩:=Jv qz;subst e;cases r3;exact Ti ⟨H3,I3,q3⟩
def EL(r r':R2)(ta tb tc:TE):TE:=λσ H Q=>ta σ H λx H1=>tb σ H1 λy H2=>r x y H2 λz H3=>BX z λk=>
 (if k=true then tc σ H3 λw' H4=>r' y w' H4 Q else Q (.bl false) H3)
theorem Ju:(sizeLine:Nat)<2^63:=by rw[US];decide
theorem xV{x:V}(r:Vals [x] us):∃u,us=[u]/\RelV x u:=by
 cases r with
 |cons r1 r2=>cases r2;exact⟨_,rfl,r1⟩
theorem FV{x:V}(r:Vals [x,y] us):∃u w',us=[u,w']/\RelV x u/\RelV y w':=by
 cases r with
 |cons r1 r2=>
  cases r2 with
  |cons r3 r4=>cases r4;exact⟨_,_,rfl,r1,r3⟩
theorem xB(hc:X.calm=true):tF X (.builtin "max") λxs H Q=>L2.X2 λi j=>xs=[.int i,.int j]/\Q (.int<|if j>i then j else i) H:=by
 intro pins s σ H xs us Q I r h;obtain⟨i,j,rfl,q⟩:=h;obtain⟨u,w',rfl,⟨t,rfl⟩,⟨t',rfl⟩⟩:=FV r;refine max_two_ints (I.ok.hd hc) λh' tk k=>⟨_,H,I.kept k,?_,q⟩
 by_cases hj:j>i
 .rw [Z9 hj,Z9 hj];exact⟨_,rfl⟩
 .rw [Z8 hj,Z8 hj];exact⟨_,rfl⟩
theorem oQ(hc:X.calm=true):tF X (.builtin "min") λxs H Q=>L2.X2 λi j=>xs=[.int i,.int j]/\Q (.int<|if j<i then j else i) H:=by
 intro pins s σ H xs us Q I r h;obtain⟨i,j,rfl,q⟩:=h;obtain⟨u,w',rfl,⟨t,rfl⟩,⟨t',rfl⟩⟩:=FV r;refine min_two_ints (I.ok.hd hc) λh' tk k=>⟨_,H,I.kept k,?_,q⟩
 by_cases hj:j<i
 .rw [Z9 hj,Z9 hj];exact⟨_,rfl⟩
 .rw [Z8 hj,Z8 hj];exact⟨_,rfl⟩
theorem JT:tF X (.type "int") λxs H Q=>(∃i,xs=[.int i]/\Q (.int i) H)∨∃k,xs=[.bl k]/\Q (.int<|if k then 1 else 0) H:=by
 intro pins s σ H xs us Q I r h;rcases h with ⟨i,rfl,q⟩|⟨k,rfl,q⟩
 .obtain ⟨u,rfl,t,rfl⟩:=xV r;exact call_int_int ⟨.int i,H,I,⟨_,rfl⟩,q⟩
 .obtain ⟨u,rfl,z⟩:=xV r;cases z;exact call_int_bool ⟨.int (if k then 1 else 0),H,I.tok _,⟨_,rfl⟩,q⟩
end
structure uI(h:Rv)(x dx C:QK)(mA:Q3->Option QM):Prop where
 obj:h.get? x=some (RJ C dx)
 ns:h.Ns1 dx mA
 ne:dx≠x
theorem xa{mA:Q3->Option QM}(n:h.Ns1 dx mA):∃od,h.get? dx=some od/\∀name,Tv name od=some (mA name):=by
 obtain⟨o,es,ep,O,Z,U,_,hm⟩:=n;refine⟨o,O,λname=>?_⟩;have e:=hm name;unfold nsFind findBy at e;rw[<- Array.find?_toList] at e;unfold Tv;rw[Z];dsimp only;split
 .rename_i y q;rw[q] at e;exact congrArg some e
 .rename_i q;rw[q] at e;have a:es.toList.any (·.refKey)=false:=by
   rw[List.any_eq_false];intro y hy;obtain⟨z,t,J⟩:=U y<|Array.mem_toList_iff.mp hy;simp[DictEntry.refKey,J]
  have a':¬ es.toList.any (·.refKey)=true:=by rw[a];exact kS
  rw[Z8 a'];exact congrArg some e
theorem uI.look{x:QK}{mA:Q3->Option QM}(I:uI h x dx C mA):∃od,PySem.W.InstAt h x (RJ C dx) C (some od)/\∀name,Tv name od=some (mA name):=
 let ⟨od,ho,hl⟩:=xa I.ns
 ⟨od,⟨I.obj,rfl,rfl,ho⟩,hl⟩
section
variable {prog:Q6}{A:Rm}{x f:QK}{mA:Q3->Option QM}{name:Q3}{v:QM}
theorem get_map{z:Bool}(X:K.In s.heap)(I:uI s.heap x dx C mA)(Z:Ri K C name=true)(U:Rj K C=true)
  (ha:W.findIn K (.ref C) name=some none) (hv:mA name=some v) (O:PySem.W.handedIn v=true) (h:Q v { s with toks:=s.toks+1 }):
  QX (QZ prog w) A (getAttr (.ref x) name z) Q E s:=by
 obtain⟨od,J,hl⟩:=I.look;exact PySem.W.get_value X J (TN Z).1 (PySem.W.findObj_own U ha rfl<|by rw[hl,hv]) O h
theorem zP{Q:QM×List QM->QO->Prop}(X:K.In s.heap)(I:uI s.heap x dx C mA)(z:Ri K C name=true)
  (Z:W.findIn K (.ref C) name=some (some<|.ref f)) (O:T9 K (.ref f)=true) (U:mA name=none) (h:Q (.ref f,[.ref x]) s):
  QX (QZ prog w) A (Ui (.ref x) name pl) Q E s:=by
 obtain⟨od,J,hl⟩:=I.look;exact PySem.W.method_fn X J (TN z).1 (TN z).2 Z (beq_iff_eq.mp O) (by show(Tv name od).map (·.isSome)=some false;rw[hl,U];rfl) h
theorem BC{ns:List Q3}{Q:Unit->QO->Prop}(X:K.In s.heap)(I:uI s.heap x dx C mA)
  (hs:W.findIn K (.ref C) "__setattr__"=some (some<|.builtin "object.__setattr__")) (hp:Ro K C=true) (ht:Uj K C name=some none) (hh:Rj K C=true)
  (hw:PySem.Within mA ns) (hsz:ns.length<=sizeLine)
  (h:∀h',uI h' x dx C (λy=>if y=name then some v else mA y)->Rg dx s.heap h'->Q () { s with heap:=h',toks:=s.toks+2 }):
  QX (QZ prog w) A (setAttr (.ref x) name v) Q E s:=by
 obtain⟨od,J,hl⟩:=I.look;refine PySem.W.set_plain X J hs<|PySem.W.osa_open (s:={ s with toks:=s.toks+1 }) (r:=none) X J hp ht λb=>?_;obtain⟨cd,hc,Z⟩:=PySem.W.any_some hh;have hx:s.heap.get? x=some ⟨.ref C,some dx,.plain,#[]⟩:=I.obj;refine QJ<|QS<|QJ<|QJ<|wpAny_loadPart hx<|QJ<|PySem.W.Looks.here (s:={ s with toks:=s.toks+1 }) (PySem.W.looks_clsIn X hc) ?_;rw[Z];refine QS (a:=some dx)<|QJ<|QS<|QJ ?_;refine wpAny_nsSet1 (s:={ s with toks:=s.toks+1 }) I.ns λh' z O=>?_;obtain⟨oD,ad,ac,ab,aa,U⟩:=z.count<|PySem.Within.cons name v hw;refine QJ<|wpAny_lookBehind ab (by rw[aa];exact pastItsLine_dict<|cW U<|by rw[cP];lia) ?_;exact QS<|h _ ⟨(O.2 _<|Q4 I.ne).trans I.obj,z,I.ne⟩ O
theorem zm{R:Result->QO->Prop}{vs:List QM}{z:List<|Q3×QM}(X:K.In s.heap)(hm:Rt K C=true)
  (hi:W.findIn K (.ref C) "__init__"=some (some<|.ref f)) (J:PySem.W.typeIn K (.ref f)=some (.type "function"))
  (h:To (QZ prog w) (A.under<|.builtin "type.__call__" ⟨.ref C::vs,z⟩) (.call (.ref f) ⟨.ref (s.heap.objs.size+1)::vs,z⟩) (PySem.W.InitBack (s.heap.objs.size+1) R) { s with heap:=(s.heap.push PySem.W.emptyDict).push<|RJ C s.heap.objs.size }):
  To (QZ prog w) A (.call (.ref C) ⟨vs,z⟩) R s:=by
 obtain⟨O,g,d,t,os⟩:=s;exact PySem.W.make_core (PySem.W.makes_of X hm) (PySem.W.looks_findIn X hi) (λself=>PySem.W.bind_fn X self J) (.inl rfl) h
end
noncomputable def aO(f:Q3)(v:V):List (Q3×V)->List (Q3×V)
 |[]=>[(f,v)]
 |(g,x)::r=>if g=f then(g,v)::r else(g,x)::aO f v r
theorem lS(f g:Q3)(v:V):∀fs:List<|Q3×V,(aO f v fs).lookup g=if g=f then some v else fs.lookup g
 |[]=>by
  show RH g [(f,v)]=_;by_cases h:g=f
  .have z:(g==f)=true:=beq_iff_eq.mpr h;simp only[RH,z,Z9 h]
  .have z:(g==f)=false:=beq_eq_false_iff_ne.mpr h;simp only[RH,z,Z8 h]
 |(k,x)::r=>by
  have J:=lS f g v r;rw[show aO f v ((k,x)::r)=(if k=f then(k,v)::r else(k,x)::aO f v r) from rfl];by_cases hk:k=f
  .rw [Z9 hk];by_cases h:g=k
   .have z:(g==k)=true:=beq_iff_eq.mpr h;simp only[RH,z,Z9<|h.trans hk]
   .have z:(g==k)=false:=beq_eq_false_iff_ne.mpr h;simp only[RH,z,Z8 λe:g=f=>h<|e.trans hk.symm]
  .rw [Z8 hk];by_cases h:g=k
   .have z:(g==k)=true:=beq_iff_eq.mpr h;simp only[RH,z,Z8 λe:g=f=>hk<|h.symm.trans e]
   .have z:(g==k)=false:=beq_eq_false_iff_ne.mpr h;simp only[RH,z];exact J
theorem Mc(f:Q3)(v:V):∀fs:List<|Q3×V,f∈(aO f v fs).map (·.1)/\∀g,g∈fs.map (·.1)->g∈(aO f v fs).map (·.1)
 |[]=>⟨by simp[aO],λg h=>by simp at h⟩
 |(k,x)::r=>by
  obtain⟨z,i2⟩:=Mc f v r;rw[show aO f v ((k,x)::r)=(if k=f then(k,v)::r else(k,x)::aO f v r) from rfl];by_cases hk:k=f
  .rw [Z9 hk];subst hk;exact⟨by simp,λg h=>by simpa using h⟩
  .rw [Z8 hk];refine⟨?_,λg h=>?_⟩
   .rw [iT];exact bK _ z
   .rw [iT] at h⊢;rcases cL.mp h with e|e
    .exact cL.mpr (.inl e)
    .exact bK _ (i2 g e)
theorem ML(f:Q3)(v:V):∀fs:List<|Q3×V,(aO f v fs).length<=fs.length+1
 |[]=>by simp[aO]
 |(k,x)::r=>by
  have z:=ML f v r;rw[show aO f v ((k,x)::r)=(if k=f then(k,v)::r else(k,x)::aO f v r) from rfl];by_cases hk:k=f
  .rw [Z9 hk,cP,cP];lia
  .rw [Z8 hk,cP,cP];lia
theorem gM.some_of{o:Option QM}(r:gM (some v) o):∃u,o=some u/\RelV v u:=by
 cases o with
 |none=>exact(show False from r).elim
 |some u=>exact⟨u,rfl,r⟩
theorem gM.none_of{o:Option QM}(r:gM none o):o=none:=by
 cases o with
 |none=>rfl
 |some u=>exact(show False from r).elim
theorem xn(r:RelV v u):PySem.W.handedIn u=true:=by
 cases v with
 |VA=>cases(show u=Value.none from r);rfl
 |bl b=>cases(show u=Value.bool b from r);rfl
 |int i=>obtain⟨t,e⟩:=(show ∃t,u=Value.int i t from r);cases e;rfl
 |str x=>obtain⟨t,e⟩:=(show ∃t,u=Value.str x t from r);cases e;rfl
 |byt b=>obtain⟨t,e⟩:=(show ∃t,u=Value.bytes b t from r);cases e;rfl
 |flt b=>obtain⟨t,e⟩:=(show ∃t,u=Value.float b t from r);cases e;rfl
 |ref a=>cases(show u=Value.ref a from r);rfl
 |ty n=>cases(show u=Value.type n from r);rfl
section
variable {H':Hp}{h':Rv}{fs fs':List (Q3×V)}
theorem JH(J:iQ P w H h)(e:H a=some (.ins C dx fs)):∃mA,uI h a dx C mA/\(∀f,gM (fs.lookup f)<|mA f)/\PySem.Within mA (fs.map (·.1))/\fs.length<=1000/\H dx=some (.own a):=by
 obtain⟨d,z,ne,ob,mA,n,r,q⟩:=(show bJ P w H h a (.ins C dx fs) from J a _ e)
 exact⟨mA,⟨ob,n,ne⟩,r,q,z,d⟩
end
structure eO(K:W.Frag)(C:QK):Prop where
 pg:Ri K C R7=true
 hd:Rj K C=true
 po:Ro K C=true
 sa:W.findIn K (.ref C) "__setattr__"=some (some<|.builtin "object.__setattr__")
theorem eO.get(c:eO K C)(f:Q3):Ri K C f=true:=c.pg
def aE(K:W.Frag)(C:QK)(f:Q3):Prop:=W.findIn K (.ref C) f=some none
theorem aE.Xy{f:Q3}(n:aE K C f):Uj K C f=some none:=by
 unfold Uj;rw[show W.findIn K (.ref C) f=some none from n];rfl
structure Meth(K:W.Frag)(C:QK)(m:Q3)(f:QK):Prop where
 at_:W.findIn K (.ref C) m=some (some<|.ref f)
 fn:T9 K (.ref f)=true
 kp:W.keepIn K (.ref f)=true
section
variable {fs:List (Q3×V)}{f:Q3}{A:Rm}
theorem mC{b:Bool}(I:Inv X pins σ H s)(e:H a=some (.ins C dx fs))(c:eO X.K C)(n:aE X.K C f)(l:fs.lookup f=some v)
  (h:∀u s',Inv X pins σ H s'->RelV v u->Q u s'):QX (QZ X.prog X.w) A (getAttr (.ref a) f b) Q E s:=by
 obtain⟨mA,O,r,_,_,_⟩:=JH I.VF e;obtain⟨u,z,ru⟩:=gM.some_of (v:=v) (o:=mA f) (by rw[<- l];exact r f);exact get_map I.Wb O (c.get f) c.hd n z (xn ru)<|h u _ (I.tok _) ru
theorem mB{m:Q3}{g:QK}{Q:QM×List QM->QO->Prop}(I:Inv X pins σ H s)(e:H a=some (.ins C dx fs))(c:eO X.K C)(k:Meth X.K C m g)(l:fs.lookup m=none)
  (h:Q (.ref g,[.ref a]) s):QX (QZ X.prog X.w) A (Ui (.ref a) m pl) Q E s:=by
 obtain⟨mA,O,r,_,_,_⟩:=JH I.VF e;have hn:mA m=none:=gM.none_of (by rw[<- l];exact r m);exact zP I.Wb O (c.get m) k.at_ k.fn hn h
theorem lU{Q:Unit->QO->Prop}(I:Inv X pins σ H s)(e:H a=some (.ins C dx fs))(c:eO X.K C)(n:aE X.K C f)(hl:fs.length<1000)(Z:RelV y u)
  (h:∀s',Inv X pins σ (upd H a<|.ins C dx<|aO f y fs) s'->Q () s'):QX (QZ X.prog X.w) A (setAttr (.ref a) f u) Q E s:=by
 obtain⟨mA,O,r,wi,_,U⟩:=JH I.VF e;have hz:(fs.map (·.1)).length<=sizeLine:=by rw[aM,US];lia
 refine BC I.Wb O c.sa c.po n.Xy c.hd wi hz λh' J sb=>h _ ?_;have hd:∃o,h'.get? dx=some o:=let ⟨o,_,_,e',_⟩:=J.ns;⟨o,e'⟩
 refine I.write (x:=a) (e:=dx) (by rw[e];exact True.intro) (.inr U) (λb q hb z=>(sb.2 b hb).trans z) hd ?_;refine⟨by rw[bF O.ne];exact U,?_,O.ne,J.obj,_,J.ns,λg=>?_,λg hg=>?_⟩
 .have:=ML f y fs;lia
 .show gM ((aO f y fs).lookup g) (if g=f then some u else mA g);rw[lS];by_cases q:g=f
  .rw [Z9 q,Z9 q];exact Z
  .rw [Z8 q,Z8 q];exact r g
 .by_cases q:g=f
  .rw [q];exact(Mc f y fs).1
  .refine (Mc f y fs).2 g (wi g λz=>hg ?_);show(if g=f then some u else mA g)=none;rw[Z8 q];exact z
theorem Inv.made(I:Inv X pins σ H s):Inv X pins σ (upd (upd H s.heap.objs.size<|.own<|s.heap.objs.size+1) (s.heap.objs.size+1)<|.ins C s.heap.objs.size [])
  { s with heap:=(s.heap.push PySem.W.emptyDict).push<|RJ C s.heap.objs.size }:=by
 have z:(s.heap.push PySem.W.emptyDict).get? s.heap.objs.size=some PySem.W.emptyDict:=Q0 s.heap rfl;have e2:((s.heap.push PySem.W.emptyDict).push<|RJ C s.heap.objs.size).get? (s.heap.objs.size+1)=some (RJ C s.heap.objs.size):=by
  have:=Q0 (s.heap.push PySem.W.emptyDict) (o:=RJ C s.heap.objs.size) rfl
  rwa [So] at this
 have e3:(s.heap.push PySem.W.emptyDict).Ns s.heap.objs.size λ_=>none:=⟨PySem.W.emptyDict,#[],_,z,rfl,(λe O=>absurd O<|by simp),λ_=>rfl⟩
 have U:=I.laid (a:=s.heap.objs.size) (o:=.own<|s.heap.objs.size+1) (h':=s.heap.push PySem.W.emptyDict) (t':=s.toks) (λb u q=>QP _ q) (aL _) ⟨_,z⟩;refine U.laid (a:=s.heap.objs.size+1) (o:=.ins C s.heap.objs.size []) (t':=s.toks) (λb u q=>QP _ q) (SR<|So _ _) ?_;have ne:s.heap.objs.size≠s.heap.objs.size+1:=lD<|Bl _;refine⟨by rw[bF ne,aS],dU _,ne,e2,λ_=>none,(Heap.Ns1.of_empty e3).at λo q=>QP _ q,λ_=>True.intro,λy J=>absurd rfl J⟩
theorem CO{prog:Q6}{env:UR}{f:Q3}(z:Ur e f env (eval e env)=eval e env)
  (h:QX (QZ prog w) A (eval e env) (λo s₁=>QX (QZ prog w) A (getAttr o f true) Q E s₁) E s):QX (QZ prog w) A (eval (.Attribute e f pos) env) Q E s:=
 Attribute_any_ h<|by rw[arm_eval_Attribute,z]
end
def Ha(K:W.Frag)(ta:TE)(f:Q3):TE:=λσ H Q=>ta σ H λx H1=>L2.X5 λa C dx fs v=>x=.ref a/\H1 a=some (.ins C dx fs)/\eO K C/\aE K C f/\fs.lookup f=some v/\Q v H1
def Hk(K:W.Frag)(ta tv:TE)(f:Q3):TS:=λD σ H=>tv σ H λy H1=>ta σ H1 λx H2=>L2.X4 λa C dx fs=>x=.ref a/\H2 a=some (.ins C dx fs)/\eO K C/\aE K C f/\fs.length<1000/\
 D.nx σ (upd H2 a<|.ins C dx<|aO f y fs)
def IQ(X:Cx)(op:UH)(rd:V->V->Hp->VK->Prop):Prop:=
 ∀(pins:List<|QK×R6) (s:QO) (σ:St) (H:Hp) (x y:V) (u v:QM) (Q:VK),Inv X pins σ H s->RelV x u->RelV y v->rd x y H Q->QX (QZ X.prog X.w) X.A (inplaceOp op u v) (EP X pins σ Q) X.xe s
def vf(K:W.Frag)(ta tv:TE)(rd:V->V->Hp->VK->Prop)(f:Q3):TS:=λD σ H=>ta σ H λx H1=>L2.X5 λa C dx fs v=>x=.ref a/\H1 a=some (.ins C dx fs)/\eO K C/\aE K C f/\fs.lookup f=some v/\
 tv σ H1 λy H2=>rd v y H2 λz H3=>L2.X2 λdx' fs'=>H3 a=some (.ins C dx' fs')/\fs'.length<1000/\D.nx σ (upd H3 a<|.ins C dx'<|aO f z fs')
section
variable {o value:Rw}{f:Q3}{tpos:UG}{ta tv:TE}
theorem Fd(Z:PE X e ta)(hb:Ur e f X.env (eval e X.env)=eval e X.env):PE X (.Attribute e f pos)<|Ha X.K ta f:=by
 intro pins s σ H Q I h;refine CO hb<|thn (Z pins s σ H _ I h) λu s1 z=>?_;obtain⟨x,H1,J,U,a,C,dx,fs,v,ex,O,c,n,l,q⟩:=z;subst ex;obtain rfl:u=Value.ref a:=U;exact mC J O c n l λu' s2 I2 ru=>⟨v,H1,I2,ru,q⟩
theorem Im(ha:PE X o ta)(hv:PE X value tv)(hs:TL value (some<|.Attribute o f pos') pos.line X.env=pure false):PS X (.Assign [.Attribute o f pos'] value pos)<|Hk X.K ta tv f:=by
 intro pins s σ H D I h;refine plainObj_wpAny_Assign_Attribute (thn (hv pins s σ H _ I h) λu s1 z=>?_) hs;obtain⟨y,H1,J,Z,q⟩:=z;refine thn (ha pins s1 σ H1 _ J q) λO s2 z=>?_;obtain⟨x,H2,I2,rx,a,C,dx,fs,ex,ea,c,n,l,q2⟩:=z;subst ex;obtain rfl:O=Value.ref a:=rx;exact lU I2 ea c n l Z λs3 U=>⟨σ,_,U,q2⟩
theorem wN{Z:UH}{rd:V->V->Hp->VK->Prop}(ha:PE X o ta)(hv:PE X value tv)(U:IQ X Z rd):PS X (.AugAssign (.Attribute o f tpos) Z value pos)<|vf X.K ta tv rd f:=by
 intro pins s σ H D I h;refine wpAny_AugAssign_AttributeAny<|thn (ha pins s σ H _ I h) λov s1 J=>?_;obtain⟨x,H1,I1,rx,a,C,dx,fs,v,ex,ea,c,n,l,q⟩:=J;subst ex;obtain rfl:ov=Value.ref a:=rx;refine mC I1 ea c n l λu s2 I2 ru=>thn (hv pins s2 σ H1 _ I2 q) λw3 s3 J=>?_;obtain⟨y,H2,I3,ry,q3⟩:=J;refine thn (U pins s3 σ H2 v y u w3 _ I3 ru ry q3) λw4 s4 J=>?_;obtain⟨z,H3,I4,rz,aa,fs',O,l',q4⟩:=J;exact lU I4 O c n l' rz λs5 I5=>⟨σ,_,I5,q4⟩
def Ho:V->V->Hp->VK->Prop:=λx y H Q=>L2.X2 λi j=>x=.int i/\y=.int j/\Q (.int<|i+j) H
theorem Fx:IQ X .Add Ho:=by
 rintro pins s σ H x y u v Q I J z ⟨i,j,rfl,rfl,q⟩;obtain⟨t,rfl⟩:=(show ∃t,u=Value.int i t from J)
 obtain⟨t',rfl⟩:=(show ∃t',v=Value.int j t' from z)
 exact PyProof.Rows.iadd_int ⟨.int<|i+j,H,I.tok _,⟨_,rfl⟩,q⟩
end
section
variable {A:Rm}{c:QM}{b:Bool}
inductive gX(K:W.Frag)(H:Hp):V->QM->Prop where
 |VA:gX K H .VA<|.type "NoneType"
 |bl (x:Bool):gX K H (.bl x)<|.type "bool"
 |int (i:Int):gX K H (.int i)<|.type "int"
 |str (x:Q3):gX K H (.str x)<|.type "str"
 |flt (x:UInt64):gX K H (.flt x)<|.type "float"
 |lst {a:QK} {xs:List V} (e:H a=some (.lst xs)):gX K H (.ref a)<|.type "list"
 |frz {a:QK} {o:R6} {xs:List V} (e:H a=some (.frz o<|.lst xs)):gX K H (.ref a)<|.type "list"
 |tup {a:QK} {xs:List V} (e:H a=some (.tup xs)):gX K H (.ref a)<|.type "tuple"
 |dK {a:QK} {kvs:List<|Key×V} (e:H a=some (.dK kvs)):gX K H (.ref a)<|.type "dict"
 |dT {a:QK} {kvs:List<|List Key×V} (e:H a=some (.dT kvs)):gX K H (.ref a)<|.type "dict"
 |ins {a C dx:QK} {fs:List<|Q3×V} (e:H a=some (.ins C dx fs)) (cl:eO K C) (ha:W.findIn K (.ref C) "__class__"=some (some<|.builtin "object.__class__"))
   (hn:PySem.W.specialIn K (.builtin "object.__class__") "__get__"=some (some<|.builtin "getset_descriptor.__get__")) (VQ:PySem.W.takesIn K (.builtin "object.__class__")=some true)
   (hm:PySem.W.mroIn K C (.type "object")=some true):gX K H (.ref a)<|.ref C
theorem xj{x:V}{t:QM}(I:Inv X pins σ H s)(U:RelV x u)(ty:gX X.K H x t)(e:Rq X.K t c=some b)(h:∀tk,Q (.bool b) { s with toks:=tk }):
  QX (QZ X.prog X.w) A (call (.builtin "isinstance") [u,c]) Q E s:=by
 cases ty with
 |VA=>cases(show u=Value.none from U);exact RA PySem.W.kitx_none I.Wb True.intro e (λz=>nomatch z) h
 |bl y=>cases(show u=Value.bool y from U);exact RA PySem.W.kitx_bool I.Wb True.intro e (λz=>nomatch z) h
 |int i=>obtain⟨t,q⟩:=(show ∃t,u=Value.int i t from U);cases q;exact RA PySem.W.kitx_int I.Wb True.intro e (λz=>nomatch z) h
 |str y=>obtain⟨t,q⟩:=(show ∃t,u=Value.str y t from U);cases q;exact RA PySem.W.kitx_str I.Wb True.intro e (λz=>nomatch z) h
 |flt y=>obtain⟨t,q⟩:=(show ∃t,u=Value.float y t from U);cases q;exact RA PySem.W.kitx_float I.Wb True.intro e (λz=>nomatch z) h
 |@lst a xs ea=>
  cases(show u=Value.ref a from U);obtain⟨_,_,n,_,h1⟩:=(show bJ X.prog X.w H s.heap a (.lst xs) from I.VF a _ ea)
  exact RA PySem.W.kitx_list I.Wb ⟨_,h1,rfl⟩ e (λz=>nomatch z) h
 |@frz a ob xs ea=>
  cases(show u=Value.ref a from U);obtain⟨_,_,_,n,_,h1⟩:=(show bJ X.prog X.w H s.heap a (.frz ob<|.lst xs) from I.VF a _ ea)
  exact RA PySem.W.kitx_list I.Wb ⟨_,h1,rfl⟩ e (λz=>nomatch z) h
 |@tup a xs ea=>
  cases(show u=Value.ref a from U);obtain⟨_,_,_,p⟩:=(show bJ X.prog X.w H s.heap a (.tup xs) from I.VF a _ ea)
  obtain⟨o,h1,h2,_⟩:=p;exact RA PySem.W.kitx_tuple I.Wb ⟨o,h1,h2⟩ e (λz=>nomatch z) h
 |@dK a kvs ea=>
  cases(show u=Value.ref a from U);obtain⟨_,_,vs,_,p⟩:=(show bJ X.prog X.w H s.heap a (.dK kvs) from I.VF a _ ea)
  obtain⟨o,es,ep,h1,h2,_⟩:=p;exact RA PySem.W.kitx_dict I.Wb ⟨o,h1,h2.1⟩ e (λz=>nomatch z) h
 |@dT a kvs ea=>
  cases(show u=Value.ref a from U);obtain⟨_,_,xs,_,o,es,ep,h1,h2,_⟩:=(show bJ X.prog X.w H s.heap a (.dT kvs) from I.VF a _ ea)
  exact RA PySem.W.kitx_dict I.Wb ⟨o,h1,h2.1⟩ e (λz=>nomatch z) h
 |@ins a C dx fs ea cl ha hn VQ hm=>
  cases(show u=Value.ref a from U);obtain⟨mA,O,_⟩:=JH I.VF ea;obtain⟨od,J,_⟩:=O.look;exact RA (PySem.W.kitx_own (cl.get _) cl.hd ha hn VQ hm) I.Wb J e (λz=>nomatch z) h
end
structure bO(k:Nat)(A:Rm):Prop where
 hd:A.handled=none
 dp:A.depth+3*k+5<recursionLimit
 un:A.units+16*k+200<UT
 gd:A.guards=some []
theorem bO.mono{j:Nat}{A:Rm}(r:bO k A)(h:j<=k):bO j A:=⟨r.hd,by have:=r.dp;lia,by have:=r.un;lia,r.gd⟩
theorem bO.deeper{A:Rm}(r:bO (k+1) A)(env:UR):bO k<|A.deeper env:=
 ⟨r.hd,by have:=r.dp;show A.depth+1+3*k+5<_;lia,by have:=r.un;show A.units+3+16*k+200<_;lia,r.gd⟩
theorem ux{A:Rm}{z:List<|Q3×QM}:(A.under<|.builtin "type.__call__" ⟨.ref C::us,z⟩).depth=A.depth+1:=by
 first|rfl|simp[UK,Code.weight,Code.isCreation,Code.isGuard,Code.isCaller,Code.frames,Code.isFrame,guardIds]
theorem uw{A:Rm}{z:List<|Q3×QM}:(A.under<|.builtin "type.__call__" ⟨.ref C::us,z⟩).units=A.units+1:=by
 first|rfl|simp[UK,Code.cUnits,Code.frames,Code.isFrame]
theorem bO.make{A:Rm}(r:bO (k+1) A)(C:QK)(us:List QM)(z:List<|Q3×QM):bO k<|A.under<|.builtin "type.__call__" ⟨.ref C::us,z⟩:=
 ⟨r.hd,by have:=r.dp;rw[ux];lia,by have:=r.un;rw[uw];lia,by have:=r.gd;first|exact this|simp[UK,Code.guards,Code.isGuard,guardIds,this]⟩
theorem bO.depth{A:Rm}(r:bO k A):A.depth<recursionLimit:=by have:=r.dp;lia
theorem bO.units{A:Rm}(r:bO k A):A.units+64<UT:=by have:=r.un;lia
def iB:TA:=λ_ H Q=>Q [] H
def mF(ta:TE)(tr:TA):TA:=λσ H Q=>ta σ H λx H1=>tr σ H1 λxs H2=>Q (x::xs) H2
section
variable {es:List Rw}{t:TA}
theorem La:PA X [] iB:=λ_ _ _ _ H Q I h=>Calls.spliced_nil ⟨[],H,I,.nil,h⟩
theorem Gb(ha:PE X e te)(O:PA X es t)(hs:QY (e::es) X.env=(false,eval e X.env)::QY es X.env:=by rfl):PA X (e::es)<|mF te t:=by
 intro pos pins s σ H Q I h;rw[hs];show QX _ _ (spliced<|(false,eval e X.env)::RW pos (QY es X.env)) _ _ s;refine Calls.spliced_cons<|thn (ha pins s σ H _ I h) λu s1 z=>?_;obtain⟨x,H1,U,r1,J⟩:=z;refine thn (O pos pins s1 σ H1 _ U J) λus s2 z=>?_;obtain⟨xs,H2,I2,r2,Z⟩:=z;exact⟨x::xs,H2,I2,.cons r1 r2,Z⟩
def G3(t:TA):TE:=λσ H Q=>t σ H λxs H1=>xs.length<=sizeLine/\∀p,H1 p=none->Q (.ref p) (upd H1 p<|.tup xs)
def G9(t:TA):TE:=λσ H Q=>t σ H λxs H1=>xs.length<=sizeLine/\∀p,H1 p=none->Q (.ref p) (upd H1 p<|.lst xs)
theorem D9{x1}(h:PA X es t):PE X (.Tuple es x1 pos)<|G3 t:=by
 intro pins s σ H Q I O;refine wpAny_Tuple_spliced<|thn (h pos pins s σ H _ I O) λus s1 ⟨xs,H1,J,r,z,q⟩=>⟨by rw[<- r.length];exact z,?_⟩;have U:H1 s1.heap.objs.size=none:=J.VF.fresh<|aL _;refine⟨.ref s1.heap.objs.size,upd H1 s1.heap.objs.size<|.tup xs,J.laid (t':=s1.toks) (λb u e=>QP _ e) (aL _) ?_,rfl,q _ U⟩;exact⟨z,us,r,⟨_,Q0 _ rfl,rfl,_,rfl⟩⟩
theorem Ik(h:PA X es t):PE X (.List es pos)<|G9 t:=by
 intro pins s σ H Q I O;refine wpAny_List_spliced<|thn (h pos pins s σ H _ I O) λus s1 ⟨xs,H1,J,r,z,q⟩=>⟨by rw[<- r.length];exact z,?_⟩;have U:H1 s1.heap.objs.size=none:=J.VF.fresh<|aL _;refine⟨.ref s1.heap.objs.size,upd H1 s1.heap.objs.size<|.lst xs,J.laid (t':=s1.toks) (λb u e=>QP _ e) (aL _) ?_,rfl,q _ U⟩;exact⟨z,us,0,r,Q0 _ rfl⟩
end
noncomputable abbrev Sp:=List V->Hp->VK->XK->Prop
noncomputable abbrev tV:=List UR->Hp->QO->XK->QM->QO->Prop
variable {CX:tV}
structure uJ(P:Q6)(w:Rf)(K:W.Frag)(mg:Q3->Option QM)(base:Rv)(A:Rm)(outer:List UR)(s:QO)(H:Hp):Prop where
 frames:A.frames=some outer
 mod:Mod K mg base
 bs:∀b o,base.get? b=some o->s.heap.get? b=some o/\H b=none
 W3:base.objs.size<=s.heap.objs.size
 Wc:s.heap.FunFrames base outer
 Xp:∀b∈frs outer,H b=none
 VF:iQ P w H s.heap
 bare:TZ s.gens
def CE(outer:List UR)(P:Q6)(w:Rf)(H:Hp)(s:QO)(Q:VK)(u:QM)(s':QO):Prop:=
 ∃v H',s'.os=s.os/\TZ s'.gens/\Un (frs outer) [] H H' s.heap s'.heap/\iQ P w H' s'.heap/\RelV v u/\Q v H'
def CR(CX:tV)(outer:List UR)(P:Q6)(w:Rf)(H:Hp)(s:QO)(Q:VK)(E:XK)(r:Result)(s':QO):Prop:=
 match r with
 |.ok (.ret u)=>CE outer P w H s Q u s'
 |.ok _=>False
 |.error e=>CX outer H s E e s'
structure aF(P:Q6)(w:Rf)(K:W.Frag)(mg:Q3->Option QM)(base:Rv)(CX:tV)(k:Nat)(f:QK)(fd:RX)(ps:List Q3)(sp:Sp):Prop where
 len:∀vs H Q E,sp vs H Q E->vs.length=ps.length
 run:∀(A:Rm) (outer:List UR) (s:QO) (H:Hp) (args:Args) (us:List QM) (vs:List V) (Q:VK) (E:XK),bO k A->uJ P w K mg base A outer s H->U0 s fd args (ps.zip us)->Vals vs us->sp vs H Q E->
  To (QZ P w) A (.call (.ref f) args) (CR CX outer P w H s Q E) s
theorem uJ.make{mg:Q3->Option QM}{A:Rm}(e:uJ P w K mg base A outer s H)(C:QK)(us:List QM)(z:List<|Q3×QM):
  uJ P w K mg base (A.under<|.builtin "type.__call__" ⟨.ref C::us,z⟩) outer s H:=⟨by first|exact e.frames|(simpa[UK,Code.envs,Code.isFrame,pushEnvs] using e.frames),e.mod,e.bs,e.W3,e.Wc,e.Xp,e.VF,e.bare⟩
section
variable {s':QO}
theorem Inv.XE(I:Inv X pins σ H s):uJ X.prog X.w X.K X.mg X.base X.A X.stack s H:=
 ⟨I.ok.frames,I.ok.mod,I.bs,cW I.ok.W3 I.sz,I.stack,I.Ww,I.VF,I.bare⟩
theorem Inv.after{Q:VK}(I:Inv X pins σ H s)(h:CE X.stack X.prog X.w H s Q u s'):EP X pins σ Q u s':=by
 obtain⟨v,H',os,J,un,U,r,q⟩:=h;obtain⟨Z,g,d,t,O⟩:=s';obtain rfl:O=s.os:=os;exact⟨v,H',I.call (h':=Z) (g':=g) (d':=d) (t':=t) (ch:=[]) un U J (λb z=>absurd z<|by simp),r,q⟩
end
def Jn(sp:Sp)(dvs:List V)(E:XK)(t:TA):TE:=λσ H Q=>t σ H λvs H1=>sp (vs++dvs) H1 Q E
def HZ(C:QK)(m:Q3)(sp:Sp)(dvs:List V)(E:XK)(ta:TE)(t:TA):TE:=λσ H Q=>ta σ H λx H1=>L2.X3 λa dx fs=>x=.ref a/\H1 a=some (.ins C dx fs)/\fs.lookup m=none/\
 t σ H1 λvs H2=>sp (x::(vs++dvs)) H2 Q E
def Jo(C:QK)(sp:Sp)(dvs:List V)(E:XK)(t:TA):TE:=λσ H Q=>t σ H λvs H1=>∀x dx,H1 x=none->H1 dx=none->dx≠x->
 sp (.ref x::(vs++dvs)) (upd (upd H1 dx<|.own x) x<|.ins C dx []) (λv H2=>v=.VA/\Q (.ref x) H2) E
def Binds(K:W.Frag)(fd:RX)(ps:List Q3)(ds:List QM):Prop:=
 ∀(s:QO) (us:List QM),K.In s.heap->(us++ds).length=ps.length->U0 s fd ⟨us,[]⟩ (ps.zip<|us++ds)
theorem Binds.all{fd:RX}(h:∀us:List QM,us.length=ps.length->bindArgs fd ⟨us,[]⟩=pure (ps.zip us)):Binds K fd ps []:=λs us _ hl=>by
 rw[kH] at hl⊢;exact .of_eq<|h us hl
def xG(CX:tV)(X:Cx)(E:XK):Prop:=∀(pins:List<|QK×R6) (σ:St) (H:Hp) (s:QO) (e:QM) (s':QO),Inv X pins σ H s->CX X.stack H s E e s'->X.xe e s'
section
variable {f:QK}{fd:RX}{sp:Sp}{dvs:List V}{ds:List QM}{E:XK}{m:Q3}{p apos:UG}{o:Rw}{es:List Rw}{ta:TE}{t:TA}
theorem Kw{Q:VK}(F:aF X.prog X.w X.K X.mg X.base CX k f fd ps sp)(O:bO k X.A)(U:Binds X.K fd ps ds)(Z:Vals dvs ds)(hx:xG CX X E)
  (I:Inv X pins σ H s) (r:Vals vs us) (h:sp (vs++dvs) H Q E):QX (QZ X.prog X.w) X.A (call (.ref f) us) (EP X pins σ Q) X.xe s:=by
 have J:Vals (vs++dvs)<|us++ds:=r.append Z;have hl:(us++ds).length=ps.length:=by rw[<- J.length];exact F.len _ _ _ _ h
 refine wpAny_call<|TU (F.run X.A X.stack s H ⟨us,[]⟩ (us++ds) (vs++dvs) Q E O I.XE (U s us I.Wb hl) J h) λr s' z=>?_;cases r with
 |error e=>exact hx pins σ H s e s' I z
 |ok fl=>
  cases fl with
  |ret u=>exact I.after z
  |next=>exact RC z
  |brk=>exact RC z
  |cont=>exact RC z
theorem vB(F:aF X.prog X.w X.K X.mg X.base CX k f fd ps sp)(U:bO k X.A)(hg:Gl X x)(hm:X.mg x=some (.ref f))(Z:W.keepIn X.K (.ref f)=true)(hb:Binds X.K fd ps ds)(hd:Vals dvs ds)(hx:xG CX X E)
  (ha:PA X (e::es) t) (z:(x==("__debug__":Q3))=false:=by decide) (he:QY (e::es) X.env=(false,eval e X.env)::QY es X.env:=by rfl) (VD:(RW pos<|QY es X.env).any (·.1)=false:=by rfl):
  PE X (.Call (.Name x p) (e::es) [] pos)<|Jn sp dvs E t:=by
 intro pins s σ H Q I h;refine Tb<|KR I hg hm ?_ z;refine TV (h₀:=X.base) I.ok.mod.Xz Z (thn (ha pos pins s σ H _ I h) λus s1 O=>?_) he VD;obtain⟨vs,H1,J,r,q⟩:=O;refine⟨J.Wb,?_⟩;exact Kw F U hb hd hx J r q
theorem BS(he:PE X o ta)(c:eO X.K C)(hm:Meth X.K C m f)(F:aF X.prog X.w X.K X.mg X.base CX k f fd ps sp)(hr:bO k X.A)(hb:Binds X.K fd ps ds)(hd:Vals dvs ds)(hx:xG CX X E)(ha:PA X (e::es) t)
  (J:QY (e::es) X.env=(false,eval e X.env)::QY es X.env:=by rfl) (VD:(RW pos<|QY es X.env).any (·.1)=false:=by rfl)
  (Z:eval (.Call (.Attribute o m apos) (e::es) [] pos) X.env=(do
   let ov <- eval o X.env
   UB apos.atName
   let (f,first) <- holding [ov] (Ui ov m pl)
   callWith pos f first (RW pos<|QY (e::es) X.env) (U6 pos<|Ud [] X.env)):=by rfl):
  PE X (.Call (.Attribute o m apos) (e::es) [] pos)<|HZ C m sp dvs E ta t:=by
 intro pins s σ H Q I h;refine PySem.W.methodCall_KW (pl:=pl) (thn (he pins s σ H _ I h) λu s1 z=>?_) Z;obtain⟨x,H1,O,rx,a,dx,fs,ex,ea,l,q⟩:=z;subst ex;obtain rfl:u=Value.ref a:=rx;refine mB O ea c hm l ?_;refine TV (first:=[.ref a]) (h₀:=X.base) I.ok.mod.Xz hm.kp (thn (ha pos pins s1 σ H1 _ O q) λus s2 z=>?_) J VD;obtain⟨vs,H2,U,r,q2⟩:=z;refine⟨U.Wb,?_⟩;exact Kw (us:=.ref a::us) (vs:=.ref a::vs) F hr hb hd hx U (.cons rfl r) q2
theorem y6(he:PE X o ta)(c:eO X.K C)(hm:Meth X.K C m f)(F:aF X.prog X.w X.K X.mg X.base CX k f fd ps sp)(U:bO k X.A)(hb:Binds X.K fd ps ds)(hd:Vals dvs ds)(hx:xG CX X E)
  (J:eval (.Call (.Attribute o m apos) [] [] pos) X.env=(do
   let ov <- eval o X.env
   UB apos.atName
   let (f,first) <- holding [ov] (Ui ov m pl)
   callWith pos f first (RW pos<|QY [] X.env) (U6 pos<|Ud [] X.env)):=by rfl):
  PE X (.Call (.Attribute o m apos) [] [] pos)<|HZ C m sp dvs E ta iB:=by
 intro pins s σ H Q I h;refine PySem.W.methodCall_KW (pl:=pl) (thn (he pins s σ H _ I h) λu s1 O=>?_) J;obtain⟨x,H1,z,rx,a,dx,fs,ex,Z,l,q⟩:=O;subst ex;obtain rfl:u=Value.ref a:=rx;refine mB z Z c hm l ?_;exact PySem.W.callWith_K0 (first:=[.ref a]) z.Wb hm.kp<|Kw (us:=[.ref a]) (vs:=[.ref a]) F U hb hd hx z (.cons rfl .nil) q
structure Mk(K:W.Frag)(C f:QK):Prop where
 makes:Rt K C=true
 init:W.findIn K (.ref C) "__init__"=some (some<|.ref f)
 fn:T9 K (.ref f)=true
 kp:W.keepIn K (.ref C)=true
theorem yM{Q:VK}(M:Mk X.K C f)(F:aF X.prog X.w X.K X.mg X.base CX k f fd ps sp)(Z:bO (k+1) X.A)(hb:Binds X.K fd ps ds)(hd:Vals dvs ds)
  (hx:xG CX X E) (I:Inv X pins σ H s) (r:Vals vs us)
  (h:∀x dx,H x=none->H dx=none->dx≠x->sp (.ref x::(vs++dvs)) (upd (upd H dx<|.own x) x<|.ins C dx []) (λv H2=>v=.VA/\Q (.ref x) H2) E):
  QX (QZ X.prog X.w) X.A (call (.ref C) us) (EP X pins σ Q) X.xe s:=by
 have U:=h (s.heap.objs.size+1) s.heap.objs.size (I.VF.fresh<|nN _) (I.VF.fresh<|aL _)<|lD<|Bl _;have J:=Inv.made (C:=C) I;have O:Vals (V.ref (s.heap.objs.size+1)::(vs++dvs))<|Value.ref (s.heap.objs.size+1)::(us++ds):=.cons rfl<|r.append hd;have hl:(Value.ref (s.heap.objs.size+1)::us++ds).length=ps.length:=by
  have e:=O.length;rw[F.len _ _ _ _ U] at e;exact e.symm
 refine wpAny_call<|zm (f:=f) I.Wb M.makes M.init (beq_iff_eq.mp M.fn)<|TU (F.run _ X.stack _ _ ⟨Value.ref (s.heap.objs.size+1)::us,[]⟩ (Value.ref (s.heap.objs.size+1)::(us++ds)) _ _ E (Z.make C us []) (J.XE.make C us []) (hb _ (Value.ref (s.heap.objs.size+1)::us) J.Wb hl) O U) λr s' z=>?_
 cases r with
 |error e=>exact hx pins σ _ _ e s' J z
 |ok fl=>
  cases fl with
  |ret u=>
   obtain⟨v,H',I3,rv,ev,q3⟩:=J.after z;subst ev;exact⟨rv,⟨V.ref<|s.heap.objs.size+1,H',I3,rfl,q3⟩⟩
  |next=>exact RC z
  |brk=>exact RC z
  |cont=>exact RC z
theorem vy(M:Mk X.K C f)(F:aF X.prog X.w X.K X.mg X.base CX k f fd ps sp)(U:bO (k+1) X.A)(hg:Gl X x)(hm:X.mg x=some (.ref C))(hb:Binds X.K fd ps ds)(hd:Vals dvs ds)(hx:xG CX X E)
  (ha:PA X (e::es) t) (z:(x==("__debug__":Q3))=false:=by decide) (Z:QY (e::es) X.env=(false,eval e X.env)::QY es X.env:=by rfl) (VD:(RW pos<|QY es X.env).any (·.1)=false:=by rfl):
  PE X (.Call (.Name x p) (e::es) [] pos)<|Jo C sp dvs E t:=by
 intro pins s σ H Q I h;refine Tb<|KR I hg hm ?_ z;refine TV (h₀:=X.base) I.ok.mod.Xz M.kp (thn (ha pos pins s σ H _ I h) λus s1 O=>?_) Z VD;obtain⟨vs,H1,J,r,q⟩:=O;refine⟨J.Wb,?_⟩;exact yM M F U hb hd hx J r q
end
structure aA(N P:List Q3)(sc:SQ):Prop where
 kind:sc.kind=.function
 co:sc.isCoroutine=false
 gen:sc.isGenerator=false
 nd:N.Nodup
 pre:N.take P.length=P
 par:∀x∈P,sc.names.lookup x=some .local∨sc.names.lookup x=some .cell
 Xf:∀y∈sc.names,y.2≠.free
theorem oR{z:Q3->Option Sm}{x:Q3}:∀{binds:List<|Q3×QM} {m:Q3->Option QM},(∀v,(x,v)∉binds)->bindL z binds m x=m x
 |[],_,_=>rfl
 |(n,v)::r,m,h=>by
  unfold bindL;rw[oR λw hw=>h w<|bK _ hw];split
  .have:x≠n:=by rintro rfl;exact h v bH
   simp[this]
  .rfl
theorem oT{z:Q3->Option Sm}{x:Q3}:∀{binds:List<|Q3×QM} {m:Q3->Option QM},(∀v,(x,v)∉binds)->bindC z binds m x=m x
 |[],_,_=>rfl
 |(n,v)::r,m,h=>by
  unfold bindC;rw[oT λw hw=>h w<|bK _ hw];split
  .rfl
  .have:x≠n:=by rintro rfl;exact h v bH
   simp[this]
theorem oS{z:Q3->Option Sm}{x:Q3}{v:QM}:∀{P:List Q3} {vs:List QM} {i:Nat} {m:Q3->Option QM},P.Nodup->P[i]?=some x->vs[i]?=some v->z x=some .local->
  bindL z (P.zip vs) m x=some v
 |[],_,_,_,_,h,_,_=>by simp at h
 |_::_,[],_,_,_,_,h,_=>by simp at h
 |p::P,w::vs,0,m,nd,h1,h2,hk=>by
  simp at h1 h2;subst h1;subst h2;show bindL z ((p,w)::P.zip vs) m p=_;unfold bindL;rw[oR λv J=>(List.nodup_cons.mp nd).1 (Ux J).1,Z9 hk];simp
 |p::P,w::vs,i+1,m,nd,h1,h2,hk=>by
  show bindL z ((p,w)::P.zip vs) m x=_;unfold bindL;exact oS (i:=i) (List.nodup_cons.mp nd).2 (by simpa using h1) (by simpa using h2) hk
theorem oU{z:Q3->Option Sm}{x:Q3}{v:QM}:∀{P:List Q3} {vs:List QM} {i:Nat} {m:Q3->Option QM},P.Nodup->P[i]?=some x->vs[i]?=some v->z x≠some .local->
  bindC z (P.zip vs) m x=some v
 |[],_,_,_,_,h,_,_=>by simp at h
 |_::_,[],_,_,_,_,h,_=>by simp at h
 |p::P,w::vs,0,m,nd,h1,h2,hk=>by
  simp at h1 h2;subst h1;subst h2;show bindC z ((p,w)::P.zip vs) m p=_;unfold bindC;rw[oT λv J=>(List.nodup_cons.mp nd).1 (Ux J).1,Z8 hk];simp
 |p::P,w::vs,i+1,m,nd,h1,h2,hk=>by
  show bindC z ((p,w)::P.zip vs) m x=_;unfold bindC;exact oU (i:=i) (List.nodup_cons.mp nd).2 (by simpa using h1) (by simpa using h2) hk
noncomputable def start(N:List Q3)(vs:List V):St:=vs.map some++Q5 (N.length-vs.length) none
noncomputable def sQ(CX:tV)(P:Q6)(w:Rf)(K:W.Frag)(mg:Q3->Option QM)(base:Rv)(N:List Q3)(qual:Q3)(scope:SQ)(f:QK)(cd:QM)(A:Rm)(outer:List UR)(s:QO)(H:Hp)(E:XK):Cx where
 prog:=P
 w:=w
 K:=K
 mg:=mg
 base:=base
 A:=A.deeper<|Ue qual scope s.heap.objs.size f cd
 N:=N
 s₀:=s
 H₀:=H
 env:=Ue qual scope s.heap.objs.size f cd
 outer:=outer
 stack:=Ue qual scope s.heap.objs.size f cd::outer
 ex:=[]
 calm:=true
 fn:=λ_=>true
 pn:=[]
 xe:=λe s'=>QX (QZ P w) (A.deeper<|Ue qual scope s.heap.objs.size f cd) (leaving (Ue qual scope s.heap.objs.size f cd) e) (λ_ s''=>CX outer H s E e s'') (λe' s''=>CX outer H s E e' s'') s'
theorem Lf{sc:SQ}(h:sc.names.lookup x=some .cell):∃c,(RO n sc.names []).lookup x=some c:=by
 have q:=PySem.W.cellsFrom_some sc.names n []<|.inl h;exact Option.isSome_iff_exists.mp q
theorem xk{mg:Q3->Option QM}{N:List Q3}{f:QK}{cd:QM}{A:Rm}{s1:QO}{E:XK}
  (S:aA N ps scope) (hd:A.handled=none) (J:uJ P w K mg base A outer s H) (hl:vs.length=ps.length) (r:Vals vs us)
  (x:InCallC s s.heap.objs.size (bindL (Ue qual scope s.heap.objs.size f cd).kindOf (ps.zip us) λ_=>none) (RO (s.heap.objs.size+1) scope.names []) (bindC (Ue qual scope s.heap.objs.size f cd).kindOf (ps.zip us) λ_=>none) s1):
  Inv (sQ CX P w K mg base N qual scope f cd A outer s H E) [] (start N vs) H s1:=by
 have VD:ps.length<=N.length:=by have:=congrArg Rr S.pre;rw[kP] at this;lia
 obtain⟨h1,tk,rfl,hk⟩:=x.done;have O:∀b:QK,b∉(sQ CX P w K mg base N qual scope f cd A outer s H E).ex:=λb z=>absurd (show b∈([]:List QK) from z) (by simp);refine⟨⟨J.mod,S.kind,rfl,rfl,aL _,λy z c h1 h2=>?_,λy U=>?_,λy c _ h=>?_,λ_=>hd,λv e=>(by have e2:A.handled=some v:=e;rw[hd] at e2;cases e2),Around.frames_deeper J.frames,.inr ⟨rfl,rfl⟩,λb z=>absurd z<|O b,J.bs,J.W3,λb _ _=>O b,λb z=>absurd z<|O b,J.Wc,J.Xp⟩,rfl,J.bare,Un.kept hk,⟨_,x.toInCall.ns,λi y v h1 h2 h3=>?_⟩,λy c h=>⟨_,x.cell y c h⟩,J.VF.fresh<|aL _,λy c h=>?_,λp hp=>absurd (show p∈([]:List<|QK×R6) from hp) (by simp),J.VF.kept hk,?_⟩
 .exact name_of_addr x.apart (Rx h1) (Rx h2)
 .have U:scope.names.lookup y=some .cell∨scope.names.lookup y=some .free:=U;rcases U with U|U
  .exact Lf U
  .exact absurd rfl (S.Xf _<|Rx U)
 .exact ED (x.above y c<|Rx h)
 .have hi:i<vs.length:=by
   unfold start at h2;by_cases hi:i<vs.length
   .exact hi
   .rw [gI<|by simpa using hi] at h2;rw[Te] at h2;split at h2<;>cases h2
  have ha:vs[i]?=some v:=by
   unfold start at h2;rw[iE (by simpa using hi),dB] at h2;cases e:vs[i]? with
   |none=>rw[e] at h2;cases h2
   |some a=>rw[e] at h2;cases h2;rfl
  obtain⟨u,hu,rv⟩:=r.get ha;have hp:ps[i]?=some y:=by
   rw[<- S.pre,Ta<|by lia];exact h1
  have Z:ps.Nodup:=by rw[<- S.pre];exact S.nd.sublist<|Sx _ _
  refine⟨u,rv,?_⟩;rcases S.par y (gO hp) with k|k
  .exact .inl ⟨k,oS Z hp hu k⟩
  .obtain ⟨c,e⟩:=Lf (n:=s.heap.objs.size+1) k;refine .inr ⟨.inl k,c,e,?_⟩;have q:=x.cell y c e;rw[oU Z hp hu<|by show scope.names.lookup y≠_;rw[k];decide] at q;exact q
 .exact J.VF.fresh (ED<|x.above y c<|Rx h)
 .unfold start;show _=N.length;rw[aU,aM,EA];lia
theorem DU{mg:Q3->Option QM}{f:QK}{name:Q3}{O:Arguments}{dV kV ac pm z ct oc:QM}{an od:Option QK}
  {ad:Array<|Option QM} {N:List Q3} {sp:Sp} (lk:K.lookup f=some ⟨oc,od,.func<|W.fnOf name qual O body scope dV kV ac pm an z ct,ad⟩) (ae:W.codeIn K z qual=true) (S:aA N ps scope)
  (len:∀vs H Q E,sp vs H Q E->vs.length=ps.length)
  (Z:∀(A:Rm) (outer:List UR) (s:QO) (H:Hp) (vs:List V) (Q:VK) (E:XK),bO k (A.deeper<|Ue qual scope s.heap.objs.size f z)->sp vs H Q E-> ∃t,nM (sQ CX P w K mg base N qual scope f z A outer s H E) body t/\t { nx:=λ_ H'=>Q .VA H',rt:=Q } (start N vs) H):
  aF P w K mg base CX (k+1) f (W.fnOf name qual O body scope dV kV ac pm an z ct) ps sp:=by
 refine⟨len,λA outer s H args us vs Q E hr e0 hb r ab=>?_⟩;have hl:=len _ _ _ _ ab;have KX:K.In s.heap:=e0.mod.Xz.keeps λb o e=>(e0.bs b o e).1;have lim:s.heap.NoLimit:=e0.mod.nolimit.keeps λb o e=>(e0.bs b o e).1;have aa:∀y∈ps.zip us,scope.names.lookup y.1=some .local∨(scope.names.lookup y.1=some .cell/\((RO (s.heap.objs.size+1) scope.names []).lookup y.1).isSome=true):=λ⟨n,v⟩ hy=>by
  rcases S.par n (Ux hy).1 with q|q
  .exact .inl q
  .exact .inr ⟨q,PySem.W.cellsFrom_some _ _ _<|.inl q⟩
 refine codeAny_call_function hr.depth (KX _ _ lk) rfl S.co S.gen rfl (PySem.W.codeRec_of KX ae)<|hb _ _ _ _ ?_;refine wpAny_newFunctionEnv_cells S.kind aa λenv he s1 x=>?_;subst he;refine⟨lim.keeps x.toInCall.keep,codeAny_func ?_⟩;obtain⟨t,ht,hq⟩:=Z A outer s H vs Q E (hr.deeper _) ab;have I:Inv (sQ CX P w K mg base N qual scope f z A outer s H E) [] (start N vs) H s1:=xk S hr.hd e0 hl r x;refine Rk (ht [] s1 (start N vs) H _ I hq) (λfl s' hs=>?_) λe s' hs=>hs;have fin:∀{U:St} {H':Hp} {v:V} {u:QM},Inv (sQ CX P w K mg base N qual scope f z A outer s H E) [] U H' s'->RelV v u->Q v H'->CE outer P w H s Q u s':=
  fun {U H' v u} J rv q=>⟨v,H',J.os,J.bare,J.base,J.VF,rv,q⟩
 cases fl with
 |ret u=>
  obtain⟨v,U,H',J,rv,q⟩:=hs;exact fin J rv q
 |next=>
  obtain⟨U,H',J,q⟩:=hs;exact fin (v:=V.VA) (u:=Value.none) J rfl q
 |brk=>
  obtain⟨_,_,_,q⟩:=hs;exact RC q
 |cont=>
  obtain⟨_,_,_,q⟩:=hs;exact RC q
section
variable {p:UG}{es:List Rw}{t:TA}{id T:String}{r:List V->Hp->VK->Prop}
def J5(r:List V->Hp->VK->Prop)(t:TA):TE:=λσ H Q=>t σ H λvs H1=>r vs H1 Q
theorem mH(hc:tF X (.builtin id) r)(hg:Gl X x)(hm:X.mg x=none)(hv:SH x=some (.builtin id))(ha:PA X (e::es) t)(hn:x≠"__name__":=by decide)(z:(x==("__debug__":Q3))=false:=by decide)
  (Z:QY (e::es) X.env=(false,eval e X.env)::QY es X.env:=by rfl) (VD:(RW pos<|QY es X.env).any (·.1)=false:=by rfl):PE X (.Call (.Name x p) (e::es) [] pos)<|J5 r t:=by
 intro pins s σ H Q I h;refine Tb<|D6 I hg hm hv ?_ hn z;refine PyProof.Rows.callWith_builtin1 (thn (ha pos pins s σ H _ I h) λus s1 O=>?_) Z VD;obtain⟨vs,H1,U,r1,J⟩:=O;exact hc pins s1 σ H1 vs us Q U r1 J
theorem qJ(hc:tF X (.type T) r)(hg:Gl X x)(hm:X.mg x=none)(hv:SH x=some (.type T))(ha:PA X (e::es) t)(hn:x≠"__name__":=by decide)(z:(x==("__debug__":Q3))=false:=by decide)
  (Z:QY (e::es) X.env=(false,eval e X.env)::QY es X.env:=by rfl) (VD:(RW pos<|QY es X.env).any (·.1)=false:=by rfl):PE X (.Call (.Name x p) (e::es) [] pos)<|J5 r t:=by
 intro pins s σ H Q I h;refine Tb<|D6 I hg hm hv ?_ hn z;refine RB (thn (ha pos pins s σ H _ I h) λus s1 O=>?_) Z VD;obtain⟨vs,H1,U,r1,J⟩:=O;exact hc pins s1 σ H1 vs us Q U r1 J
end
end L2
namespace HT
open PySem PyProof.Rows
section
variable {prog:Q6}{w:Rf}{A:Rm}{E:QM->QO->Prop}{s:QO}
noncomputable def sIx(n d:Nat):Option Int->Nat
 |none=>d
 |some v=>if v<0 then(v+(n:Int)).toNat else min v.toNat n
theorem sIx_none(n d:Nat):sIx n d none=d:=rfl
theorem sIx_nat(n d k:Nat):sIx n d (some (k:Int))=min k n:=by
 show(if (k:Int)<0 then((k:Int)+(n:Int)).toNat else min (k:Int).toNat n)=min k n;rw[Z8<|by lia,Int.toNat_natCast]
end
end HT
namespace L2
open PySem PySem.Spec PyProof.Rows
variable {x y:V}{n t':Nat}{H:Hp}{s:QO}{r:R2}{its us:List QM}{σ:St}
noncomputable abbrev TO:=St->Hp->(Option Int->Hp->Prop)->Prop
def PO(X:Cx)(e:Option Rw)(t:TO):Prop:=
 ∀(pins:List<|QK×R6) (s:QO) (σ:St) (H:Hp) (Q:Option Int->Hp->Prop),Inv X pins σ H s->t σ H Q->
  QX (QZ X.prog X.w) X.A (evalPart e X.env) (λu s'=>L2.X2 λo H'=>Inv X pins σ H' s'/\IsPart u o/\Q o H') X.xe s
def u7:TO:=λ_ H Q=>Q none H
def DB(t:TE):TO:=λσ H Q=>t σ H λx H1=>wV x λi=>Q (some i) H1
theorem intsAre_of{ns:List Int}:∀{us:List QM},Vals (ns.map V.int) us->UZ us ns:=by
 induction ns with
 |nil=>intro us r;rw[Dz] at r;cases r;exact .nil
 |cons n ns ih=>
  intro us r;rw[iT] at r;cases r with
  |cons r1 r2=>
   obtain⟨t,e⟩:=r1;subst e;exact .cons n t<|ih r2
section
variable {X:Cx}{e:Rw}{te:TE}{lo hi:Option Rw}{tl th:TO}{pos p2:UG}
theorem BQ:PO X none u7:=by
 intro pins s σ H Q I h;rw[evalPart_none];exact QS ⟨none,H,I,.none,h⟩
theorem Ge(h:PE X e te):PO X (some e)<|DB te:=by
 intro pins s σ H Q I hw;rw[evalPart_some];refine thn (h pins s σ H _ I hw) λu s1 J=>?_;obtain⟨x,H1,O,U,z⟩:=J;obtain⟨i,rfl,q⟩:=Jw z;obtain⟨t,rfl⟩:=U;exact⟨some i,H1,O,.int i t,q⟩
def NR(X:Cx)(r:V->Option Int->Option Int->Hp->VK->Prop):Prop:=
 ∀(pins:List<|QK×R6) (s:QO) (σ:St) (H:Hp) (x:V) (v vl vu:QM) (lo hi:Option Int) (sl:QK) (Q:VK),Inv X pins σ H s->RelV x v->s.heap.IsSliceOf sl vl vu .none->IsPart vl lo->IsPart vu hi->r x lo hi H Q->
  ∃T id,typeLookup (.type T) "__getitem__"=pure (some<|.builtin id)/\s.TypeIs v T/\QX (QZ X.prog X.w) X.A (UX v<|.ref sl) (EP X pins σ Q) X.xe s
def NY(r:V->Option Int->Option Int->Hp->VK->Prop)(te:TE)(tl th:TO):TE:=λσ H Q=>te σ H λx H1=>tl σ H1 λl H2=>th σ H2 λu H3=>r x l u H3 Q
theorem JO{r:V->Option Int->Option Int->Hp->VK->Prop}(hr:NR X r)(he:PE X e te)(hl:PO X lo tl)(hu:PO X hi th):PE X (.Subscript e (.Slice lo hi none p2) pos)<|NY r te tl th:=by
 intro pins s σ H Q I h;refine Subscript_<|thn (he pins s σ H _ I h) λv s1 J=>?_;obtain⟨x,H1,I1,r1,q1⟩:=J;refine wpAny_Slice<|thn (hl pins s1 σ H1 _ I1 q1) λO s2 J=>?_;obtain⟨l,H2,I2,pl,q2⟩:=J;refine thn (hu pins s2 σ H2 _ I2 q2) λU z J=>?_;obtain⟨u,H3,I3,pu,q3⟩:=J;rw[evalPart_none];refine QS ?_;have I4:Inv X pins σ H3 { z with heap:=z.heap.push { cls:=.type "slice",data:=.fields #[O,U,.none] } }:=I3.kept (t':=z.toks) λb ob q=>QP _ q;obtain⟨T,id,hT,Z,hg⟩:=hr pins { z with heap:=z.heap.push { cls:=.type "slice",data:=.fields #[O,U,.none] } } σ H3 x v O U l u z.heap.objs.size Q I4 r1 (Heap.IsSliceOf.new ..) pl pu q3;show QX (QZ X.prog X.w) X.A (subscriptTail e (.Slice lo hi none p2) v<|.ref z.heap.objs.size) (EP X pins σ Q) X.xe { z with heap:=z.heap.push { cls:=.type "slice",data:=.fields #[O,U,.none] } };exact tail_any (ops:=[.ref z.heap.objs.size,v]) Z hT hg<|by with_unfolding_all rfl
noncomputable def gJ(xs:List V)(lo hi:Option Int):List V:=(xs.drop<|HT.sIx xs.length 0 lo).take<|HT.sIx xs.length xs.length hi-HT.sIx xs.length 0 lo
theorem sT(xs:List V)(lo hi:Option Int):(gJ xs lo hi).length<=xs.length:=by
 unfold gJ;rw[kP,lC];lia
end
noncomputable def zB(n:Nat)(i:Int):Option Nat:=if 0<=i then(if i<n then some i.toNat else none) else if -(n:Int)<=i then some (i+n).toNat else none
noncomputable def dX{α:Type}(xs:List α)(i:Int):Option α:=(zB xs.length i).bind λj=>xs[j]?
theorem vI{i:Int}{j:Nat}(h:zB n i=some j):seqIndex? i n=some j/\j<n/\-(n:Int)<=i/\i<n:=by
 unfold zB at h;by_cases h0:0<=i
 .rw [Z9 h0] at h;by_cases h1:i<n
  .rw [Z9 h1] at h;have e:i.toNat=j:=QR h;exact⟨by rw[seqIndex_of h0 h1,e],by lia,by lia,h1⟩
  .rw [Z8 h1] at h;cases h
 .rw [Z8 h0] at h;by_cases h1:-(n:Int)<=i
  .rw [Z9 h1] at h;have e:(i+n).toNat=j:=QR h;exact⟨by rw[seqIndex_neg (by lia) h1,e],by lia,h1,by lia⟩
  .rw [Z8 h1] at h;cases h
theorem wa{α:Type}{xs:List α}{i:Int}{v:α}(h:dX xs i=some v):∃j,seqIndex? i xs.length=some j/\xs[j]?=some v/\j<xs.length/\-(xs.length:Int)<=i/\i<xs.length:=by
 unfold dX at h;cases e:zB xs.length i with
 |none=>rw[e] at h;cases h
 |some j=>
  rw[e] at h;obtain⟨h1,h2,h3,z⟩:=vI e;exact⟨j,h1,h,h2,h3,z⟩
theorem CQ{α:Type}{xs:List α}{j:Nat}{v:α}(h:xs[j]?=some v):dX xs (j:Int)=some v:=by
 have z:j<xs.length:=(cV.mp h).1;have e:zB xs.length (j:Int)=some j:=by
  unfold zB;rw[Z9<|by lia,Z9<|by lia];simp
 unfold dX;rw[e];exact h
def C8(b:Rw):Prop:=∀o i,subscripted b false o i=operate [o,i] (UX o i)
def C9(X:Cx)(r:R2):Prop:=
 ∀(value slice:Rw) (pins:List<|QK×R6) (s:QO) (σ:St) (H:Hp) (x y:V) (v u:QM) (Q:VK),Inv X pins σ H s->RelV x v->RelV y u->r x y H Q->
  subscripted slice false v u=operate [v,u] (UX v u)->QX (QZ X.prog X.w) X.A (subscriptTail value slice v u) (EP X pins σ Q) X.xe s
def NU(X:Cx)(id:String)(r:V->List V->Hp->VK->Prop):Prop:=
 ∀(pins:List<|QK×R6) (s:QO) (σ:St) (H:Hp) (x:V) (xs:List V) (v:QM) (us:List QM) (Q:VK),Inv X pins σ H s->RelV x v->Vals xs us->r x xs H Q->
  QX (QZ X.prog X.w) X.A (call (.builtin id)<|v::us) (EP X pins σ Q) X.xe s
section
variable {X:Cx}{a b:Rw}{ta tb:TE}{pos:UG}
theorem C9.or{r':R2}(h:C9 X r)(h':C9 X r'):C9 X λx y H Q=>r x y H Q∨r' x y H Q:=by
 intro value z pins s σ H x y v u Q I O J q U;rcases q with q|q
 .exact h value z pins s σ H x y v u Q I O J q U
 .exact h' value z pins s σ H x y v u Q I O J q U
theorem oW(z:C9 X r)(ha:PE X a ta)(U:PE X b tb)(Z:C8 b):PE X (.Subscript a b pos)<|EK r ta tb:=by
 intro pins s σ H Q I h;exact Subscript_<|FQ ha U I h λv u s2 x y H2 I2 O J q=>z a b pins s2 σ H2 x y v u Q I2 O J q<|Z _ _
def EY(K:W.Frag):R2:=λx y H Q=>L2.X4 λp xs i v=>x=.ref p/\y=.int i/\aD K H p xs/\dX xs i=some v/\Q v H
def EX(K:W.Frag):R2:=λx y H Q=>L2.X4 λp xs i v=>x=.ref p/\y=.int i/\aY K H p xs/\dX xs i=some v/\Q v H
theorem B9:C9 X<|EY X.K:=by
 intro value O pins s σ H x y v u Q I rx ry h hs;obtain⟨p,xs,i,z,rfl,rfl,hq,he,q⟩:=h;cases rx;obtain⟨t,rfl⟩:=ry;obtain⟨its,r,pl,hz⟩:=I.list hq;obtain⟨j,h1,h2,h3,h4,h5⟩:=wa he;obtain⟨w,Z,J⟩:=r.get h2;have hl:=r.length;have hn:=Ju;have fin:EP X pins σ Q w s:=⟨z,H,I,J,q⟩
 by_cases h0:0<=i
 .have U:i.toNat=j:=by
   rw[seqIndex_of h0 h5] at h1;exact QR h1
  exact item_listR pl.isList h0 (by lia) (by rw[U];simpa using Z) fin hs
 .have U:(i+(its.toArray.size:Int)).toNat=j:=by
   rw[seqIndex_neg (by lia) h4] at h1;rw[iS,<- hl];exact QR h1
  exact subscriptTail_builtinR (x:=w) pl.isList.typeIs slot_list_getitem.lookup
   (wpAny_getItem_list_neg (Q:=λr s'=>r=w/\EP X pins σ Q r s') pl.isList (by lia) (by rw[iS]<;>lia) (by lia) (by rw[U];simpa using Z) ⟨rfl,fin⟩) hs
theorem Ft:C9 X<|EX X.K:=by
 intro value O pins s σ H x y v u Q I rx Z h hs;obtain⟨p,xs,i,z,rfl,rfl,hq,he,q⟩:=h;cases rx;obtain⟨t,rfl⟩:=Z;obtain⟨its,r,pl,hz⟩:=I.tuple hq;obtain⟨j,h1,h2,h3,h4,h5⟩:=wa he;obtain⟨w,U,J⟩:=r.get h2;have hl:=r.length;have hn:=Ju;have fin:EP X pins σ Q w s:=⟨z,H,I,J,q⟩
 exact subscriptTail_builtinR (x:=w) pl.typeIs slot_tuple_getitem.lookup
  (getItem_tuple (j:=j) (Q:=λr s'=>r=w/\EP X pins σ Q r s') pl (by lia) (by lia) (by rw[iS,<- hl];exact h1) (by simpa using U) ⟨rfl,fin⟩) hs
theorem uv(its:List QM)(n j:Nat)(u:QM):R0 (·.setIfInBounds j u) { cls:=.type "list",data:=.seq its.toArray n }={ cls:=.type "list",data:=.seq (its.set j u).toArray n }:=by
 simp[R0]
theorem Inv.lst{pins:List<|QK×R6}{σ:St}{H:Hp}{s:QO}{p:QK}{xs:List V}(I:Inv X pins σ H s)(h:H p=some (.lst xs)):
  ∃(its:List QM) (n:Nat),Vals xs its/\s.heap.get? p=some { cls:=.type "list",data:=.seq its.toArray n }/\xs.length<=sizeLine:=by
 obtain⟨z,its,n,r,e⟩:=I.VF p _ h;exact⟨its,n,r,e,z⟩
theorem Inv.Xl{pins:List<|QK×R6}{p:QK}{xs ys:List V}{its':List QM}{n':Nat}{f:R6->R6}(I:Inv X pins σ H s)(h:H p=some (.lst xs))
  (J:s.heap.get? p=some { cls:=.type "list",data:=.seq its.toArray n }) (z:f { cls:=.type "list",data:=.seq its.toArray n }={ cls:=.type "list",data:=.seq its'.toArray n' }) (r:Vals ys its') (U:ys.length<=sizeLine) (t:Nat):
  Inv X pins σ (upd H p<|.lst ys) { s with heap:=s.heap.update p f,toks:=t }:=by
 have e:(s.heap.update p f).get? p=some { cls:=.type "list",data:=.seq its'.toArray n' }:=by
  rw[Ua f J (by rw[z]<;>rfl),z]
 refine I.write (x:=p) (e:=p) (by rw[h];trivial) (.inl rfl) (λb u O q=>(R1 _ _<|Q4 O).trans q) ⟨_,e⟩ ?_;exact⟨U,its',n',r,e⟩
inductive DJ:V->V->V->Hp->(Hp->Prop)->Prop
 |mk {o_ i_ v_ Y M} (p xs k j:_):o_=.ref p->i_=.int k->Y p=some (.lst xs)->zB xs.length k=some j->M (upd Y p<|.lst<|xs.set j v_)->DJ o_ i_ v_ Y M
theorem set_list:IK X DJ:=by
 intro pins s σ H o i v ov iv u Q I ro ri rv h;obtain⟨p,xs,k,j,rfl,rfl,Z,hj,q⟩:=h;cases ro;obtain⟨t,rfl⟩:=ri;obtain⟨its,n,r,z,hz⟩:=I.lst Z;obtain⟨h1,h2,h3,U⟩:=vI hj;have hl:=r.length;have hn:=Ju;have O:Inv X pins σ (upd H p<|.lst<|xs.set j v) { s with heap:=s.heap.update p<|R0 (·.setIfInBounds j u) }:=
  I.Xl Z z (uv its n j u) (r.set rv j) (by rw[Ez];exact hz) s.toks
 by_cases h0:0<=k
 .have J:k.toNat=j:=by
   rw[seqIndex_of h0 U] at h1;exact QR h1
  exact PySem.W.ki_setAt z h0 (by lia) (by rw[iS,<- hl];exact U)<|by rw[J];exact⟨_,O,q⟩
 .have J:(k+(its.toArray.size:Int)).toNat=j:=by
   rw[seqIndex_neg (by lia) h3] at h1;rw[iS,<- hl];exact QR h1
  exact PySem.W.ki_setBack z (by lia) (by rw[iS,<- hl];exact h3) (by lia)<|by rw[J];exact⟨_,O,q⟩
theorem pR(lo hi:Option Int)(n:Nat):(SN lo hi none n).1=((HT.sIx n 0 lo:Nat):Int)/\(SN lo hi none n).2.1=((HT.sIx n n hi:Nat):Int)/\(SN lo hi none n).2.2=1:=by
 refine⟨?_,?_,rfl⟩
 .cases lo with
  |none=>simp[SN,HT.sIx]
  |some i=>
   simp only[SN,HT.sIx,Option.getD_none,show(1:Int)>0 by decide,if_true];by_cases h:i<0
   .simp only[h,if_true]<;>lia
   .simp only[h,if_false]<;>lia
 .cases hi with
  |none=>simp[SN,HT.sIx]
  |some i=>
   simp only[SN,HT.sIx,Option.getD_none,show(1:Int)>0 by decide,if_true];by_cases h:i<0
   .simp only[h,if_true]<;>lia
   .simp only[h,if_false]<;>lia
theorem mQ(its:List QM)(lo hi:Option Int):slicePick its.toArray lo hi none=((its.drop<|HT.sIx its.length 0 lo).take<|HT.sIx its.length its.length hi-HT.sIx its.length 0 lo).toArray:=by
 obtain⟨h1,h2,h3⟩:=pR lo hi its.toArray.size;unfold slicePick;rw[h1,h2,h3];simp only[sliceRange_one,pick_run,iS]<;>rfl
def EW(K:W.Frag):V->Option Int->Option Int->Hp->VK->Prop:=λx lo hi H Q=>L2.X2 λa xs=>x=.ref a/\aD K H a xs/\∀p,H p=none->Q (.ref p) (upd H p<|.lst<|gJ xs lo hi)
theorem vd:NR X<|EW X.K:=by
 intro pins s σ H x v vl vu lo hi sl Q I U hs pl O h;obtain⟨a,xs,rfl,Z,q⟩:=h;cases U;obtain⟨its,r,J,hz⟩:=I.list Z;have z:=r.length;refine⟨"list",_,slot_list_getitem.lookup,J.isList.typeIs,?_⟩;refine wpAny_getItem_list_slice J.isList hs pl O .none (by simp) ?_ (by rw[iS]<;>lia);rw[mQ,<- z];refine⟨.ref s.heap.objs.size,_,I.laid (t':=s.toks) (o:=.lst<|gJ xs lo hi) (λb ob q=>QP _ q) (aL _) ?_,rfl,q _<|I.VF.fresh<|aL _⟩;exact⟨cW (sT xs lo hi) hz,_,0,(r.drop<|HT.sIx xs.length 0 lo).take<|HT.sIx xs.length xs.length hi-HT.sIx xs.length 0 lo,Q0 _ rfl⟩
noncomputable def CY:V->Bool
 |.VA=>true
 |.bl _=>true
 |.int _=>true
 |.str _=>true
 |_=>false
noncomputable def zZ:V->V->Bool
 |.VA,.VA=>true
 |.bl a,.bl b=>a==b
 |.bl a,.int b=>(if a then 1 else 0)==b
 |.int a,.bl b=>a==(if b then 1 else 0)
 |.int a,.int b=>a==b
 |.str a,.str b=>a==b
 |_,_=>false
theorem FI{A:Rm}{u v:QM}(O:RelV y u)(z:RelV x v)(U:CY y=true)(J:CY x=true):SeqAt.EqAt A s u v<|zZ y x:=by
 cases y with
 |VA=>
  cases O;cases x with
  |VA=>cases z;exact SeqAt.EqAt.same _
  |bl b=>cases z;exact SeqAt.EqAt.none_bool b
  |int b=>obtain⟨t,rfl⟩:=z;exact SeqAt.EqAt.none_int b t
  |str b=>obtain⟨t,rfl⟩:=z;exact SeqAt.EqAt.none_str b t
  |_=>exact absurd (show false=true from J) kS
 |bl a=>
  cases O;cases x with
  |VA=>cases z;exact SeqAt.EqAt.bool_none a
  |bl b=>cases z;exact SeqAt.EqAt.bool_bool a b
  |int b=>obtain⟨t,rfl⟩:=z;exact SeqAt.EqAt.bool_int a b t
  |str b=>obtain⟨t,rfl⟩:=z;exact SeqAt.EqAt.bool_str a b t
  |_=>exact absurd (show false=true from J) kS
 |int a=>
  obtain⟨t',rfl⟩:=O;cases x with
  |VA=>cases z;exact SeqAt.EqAt.int_none a t'
  |bl b=>cases z;exact SeqAt.EqAt.int_bool a t' b
  |int b=>obtain⟨t,rfl⟩:=z;exact SeqAt.EqAt.int_int a t' b t
  |str b=>obtain⟨t,rfl⟩:=z;exact SeqAt.EqAt.int_str a t' b t
  |_=>exact absurd (show false=true from J) kS
 |str a=>
  obtain⟨t',rfl⟩:=O;cases x with
  |VA=>cases z;exact SeqAt.EqAt.str_none a t'
  |bl b=>cases z;exact SeqAt.EqAt.str_bool a t' b
  |int b=>obtain⟨t,rfl⟩:=z;exact SeqAt.EqAt.str_int a t' b t
  |str b=>obtain⟨t,rfl⟩:=z;exact SeqAt.EqAt.str_str a t' b t
  |_=>exact absurd (show false=true from J) kS
 |_=>exact absurd (show false=true from U) kS
noncomputable def Cy(x:V)(u:QM):Bool:=match u with
 |.none=>zZ .VA x
 |.bool b=>zZ (.bl b) x
 |.int i _=>zZ (.int i) x
 |.str z _=>zZ (.str z) x
 |_=>false
theorem z9{u:QM}(r:RelV y u)(f:CY y=true):Cy x u=zZ y x:=by
 cases y with
 |VA=>cases r;rfl
 |bl b=>cases r;rfl
 |int i=>obtain⟨t,rfl⟩:=r;rfl
 |str z=>obtain⟨t,rfl⟩:=r;rfl
 |_=>exact absurd (show false=true from f) kS
theorem KH{x:V}:∀{xs:List V} {us:List QM},Vals xs us->xs.all CY=true->us.any (Cy x)=xs.any λy=>zZ y x
 |_,_,.nil,_=>rfl
 |y::xs,u::us,.cons r t,f=>by
  rw[List.all_cons,uO] at f;rw[GH,GH,z9 r f.1,KH t f.2]
theorem Lk{A:Rm}{s:QO}{x:V}{v:QM}(O:RelV x v)(J:CY x=true):∀{xs:List V} {us:List QM},Vals xs us->xs.all CY=true->∀u∈us,SeqAt.EqAt A s u v (Cy x u)
 |_,_,.nil,_=>λu z=>by cases z
 |y::xs,u::us,.cons r t,f=>λU z=>by
  rw[List.all_cons,uO] at f;rcases cL.mp z with rfl|z
  .rw [z9 r f.1];exact FI r O f.1 J
  .exact Lk O J t f.2 U z
noncomputable def HH(x:V)(xs:List V):Bool:=xs.any λy=>zZ y x
def OE(K:W.Frag)(neg:Bool):R2:=λx y H Q=>L2.X2 λp xs=>y=.ref p/\(aD K H p xs∨aY K H p xs)/\CY x=true/\xs.all CY=true/\Q (.bl<|if neg then !HH x xs else HH x xs) H
theorem pX:kG X (RN .NotIn)<|OE X.K true:=by
 intro pins s σ H x y v u Q I J U h;obtain⟨p,xs,rfl,z,O,fs,q⟩:=h;cases U;rcases z with z|z
 .obtain ⟨its,r,pl,Z⟩:=I.list z;refine SeqAt.notIn_listAt (Cy x) pl.isList (λw hw=>Lk J O r fs w<|by simpa using hw) ⟨.bl _,H,I,rfl,?_⟩;rw[show its.toArray.any (Cy x)=its.any (Cy x) by simp,KH r fs];exact q
 .obtain ⟨its,r,pl,Z⟩:=I.tuple z;refine SeqAt.notIn_tupleAt (Cy x) pl (λw hw=>Lk J O r fs w<|by simpa using hw) ⟨.bl _,H,I,rfl,?_⟩;rw[show its.toArray.any (Cy x)=its.any (Cy x) by simp,KH r fs];exact q
theorem Mr:tF X (.builtin "len") λxs H Q=>L2.X2 λp ys=>xs=[.ref p]/\(aD X.K H p ys∨aY X.K H p ys)/\Q (.int ys.length) H:=by
 intro pins s σ H xs us Q I r h;obtain⟨p,ys,rfl,J,q⟩:=h;obtain⟨u,rfl,O⟩:=xV r;cases O;have hn:=Ju;rcases J with J|J
 .obtain ⟨its,r',pl,U⟩:=I.list J;have z:=r'.length;exact Calls.call_len_list pl.isList (by simp only[iS]<;>lia) ⟨.int ys.length,H,I.tok _,⟨s.toks+1,by rw[iS,z]⟩,q⟩
 .obtain ⟨its,r',pl,U⟩:=I.tuple J;have z:=r'.length;exact len_tuple pl (by simp only[iS]<;>lia) ⟨.int ys.length,H,I.tok _,⟨s.toks+1,by rw[iS,z]⟩,q⟩
theorem jP:tF X (.type "list") λxs H Q=>L2.X2 λp ys=>xs=[.ref p]/\(aD X.K H p ys∨aY X.K H p ys)/\∀l,H l=none->Q (.ref l) (upd H l<|.lst ys):=by
 intro pins s σ H xs us Q I r h;obtain⟨p,ys,rfl,U,q⟩:=h;obtain⟨u,rfl,rx⟩:=xV r;cases rx;have fin:∀(its:List QM),Vals ys its->ys.length<=sizeLine->∀(h':Rv) (c':Nat),(∀b o',s.heap.get? b=some o'->h'.get? b=some o')->
   h'.get? s.heap.objs.size=some { cls:=.type "list",dict:=none,data:=.seq its.toArray c',slots:=#[] }->EP X pins σ Q (.ref s.heap.objs.size) { s with heap:=h' }:=λits r' O h' c' z e=>
  ⟨.ref s.heap.objs.size,_,I.laid (t':=s.toks) z (aL _) (show bJ X.prog X.w _ h' _ (.lst ys) from⟨O,its,c',r',e⟩),rfl,q _<|I.VF.fresh<|aL _⟩
 rcases U with U|U
 .obtain ⟨its,r',pl,O⟩:=I.list U;have J:=r'.length;obtain⟨o,Z,hc,n,hd⟩:=pl.isList;exact call_list_seq p (.inl rfl) Z hc hd (λh' c' z e=>fin its r' O h' c' z e)<|by simp only[iS]<;>lia
 .obtain ⟨its,r',pl,O⟩:=I.tuple U;have J:=r'.length;obtain⟨o,Z,hc,n,hd⟩:=pl;exact call_list_seq p (.inr rfl) Z hc hd (λh' c' z e=>fin its r' O h' c' z e)<|by simp only[iS]<;>lia
def IU(K:W.Frag)(T:String)(x:V)(H:Hp):Prop:=match x with
 |.str _=>T="str"
 |.int _=>T="int"
 |.ref p=>(T="list"/\∃xs,aD K H p xs)∨(T="tuple"/\∃o,K.lookup p=some o/\o.cls=.type "tuple"/\o.dict=none)∨
   (T="dict"/\((∃kvs,H p=some (.dK kvs))∨∃kvs,H p=some (.dT kvs)))∨(T="set"/\∃S n,H p=some (.set S n))
 |_=>False
theorem yk{pins:List<|QK×R6}{T:String}{v:QM}(I:Inv X pins σ H s)(r:RelV x v)(ty:IU X.K T x H):
  s.TypeIs v T/\∀a,v=.ref a->∃ob,s.heap.get? a=some ob/\ob.dict=none:=by
 cases x with
 |str z=>
  obtain⟨t,rfl⟩:=r;cases(show T="str" from ty);exact⟨typeIs_str s z t,λ_ e=>nomatch e⟩
 |int i=>
  obtain⟨t,rfl⟩:=r;cases(show T="int" from ty);exact⟨typeIs_int s i t,λ_ e=>nomatch e⟩
 |ref p=>
  cases r;rcases ty with ⟨rfl,xs,U⟩|⟨rfl,o,J,hc,O⟩|⟨rfl,J⟩|⟨rfl,S,n,J⟩
  .obtain ⟨its,_,pl,_⟩:=I.list U;refine⟨pl.isList.typeIs,λa e=>?_⟩;cases e;obtain⟨o,n,e,c,O,_⟩:=pl;exact⟨o,e,O⟩
  .refine ⟨⟨o,I.Wb p o J,hc⟩,λa e=>?_⟩;cases e;exact⟨o,I.Wb _ o J,O⟩
  .have z:∃o,s.heap.get? p=some o/\o.ExactDict:=by
    rcases J with ⟨kvs,J⟩|⟨kvs,J⟩
    .obtain ⟨_,_,_,_,o,_,_,e,ex,_⟩:=I.VF p _ J;exact⟨o,e,ex⟩
    .obtain ⟨_,_,_,_,o,_,_,e,ex,_⟩:=I.VF p _ J;exact⟨o,e,ex⟩
   obtain⟨o,e,ex⟩:=z;refine⟨⟨o,e,ex.1⟩,λa e2=>?_⟩;cases e2;exact⟨o,e,ex.2.1⟩
  .obtain ⟨o,_,_,_,e,ex,_⟩:=I.VF p _ J;refine⟨⟨o,e,ex.1⟩,λa e2=>?_⟩;cases e2;exact⟨o,e,ex.2.1⟩
 |_=>exact RC ty
def Hb(K:W.Frag)(T:String)(r:V->List V->Hp->VK->Prop)(to:TE):TE:=λσ H Q=>to σ H λx H1=>IU K T x H1/\r x [] H1 Q
def OC(K:W.Frag)(T:String)(r:V->List V->Hp->VK->Prop)(to:TE)(t:TA):TE:=λσ H Q=>to σ H λx H1=>IU K T x H1/\t σ H1 λxs H2=>r x xs H2 Q
variable {o e:Rw}{es:List Rw}{to:TE}{t:TA}{name:Q3}{apos cpos:UG}{T id:String}{r:V->List V->Hp->VK->Prop}
theorem Fe(pa:PlainAttrs T)(slot:Slot T name id)(O:typeOf (.builtin id)=pure (.type "method_descriptor"))(hm:NU X id r)(ho:PE X o to)
  (J:Ur o name X.env (eval o X.env)=eval o X.env:=by rfl) (z:(apos.endLine==cpos.line)=true:=by rfl):PE X (.Call (.Attribute o name apos) [] [] cpos)<|Hb X.K T r to:=by
 intro pins s σ H Q I h;refine wpAny_Call_method0_late J z<|thn (ho pins s σ H _ I h) λv s1 zz=>?_;obtain⟨x,H1,U,Z,ty,q1⟩:=zz;obtain⟨h1,h2⟩:=yk U Z ty;exact⟨T,id,pa,slot,O,h1,h2,Calls.callWith_builtin rfl<|PySem.evalArgs_none<|hm pins s1 σ H1 x [] v [] Q U Z .nil q1⟩
theorem AB(pa:PlainAttrs T)(slot:Slot T name id)(Z:typeOf (.builtin id)=pure (.type "method_descriptor"))(hm:NU X id r)(ho:PE X o to)(ha:PA X (e::es) t)
  (O:Ur o name X.env (eval o X.env)=eval o X.env:=by rfl)
  (U:((RW cpos<|QY (e::es) X.env).all (λx=>!x.1)&&(U6 cpos<|Ud [] X.env).all (λx=>x.1.isSome) &&decide ((e::es).length+([]:List Keyword).length+(if ([]:List Keyword).isEmpty then 0 else 1)<30))=true:=by rfl)
  (J:(apos.endLine==cpos.line)=true:=by rfl) (hs:QY (e::es) X.env=(false,eval e X.env)::QY es X.env:=by rfl) (z:(RW cpos<|QY es X.env).any (·.1)=false:=by rfl):
  PE X (.Call (.Attribute o name apos) (e::es) [] cpos)<|OC X.K T r to t:=by
 intro pins s σ H Q I h;refine wpAny_Call_method_late O U J rfl<|thn (ho pins s σ H _ I h) λv s1 zz=>?_;obtain⟨x,H1,I1,r1,ty,q1⟩:=zz;obtain⟨h1,h2⟩:=yk I1 r1 ty;refine⟨T,id,pa,slot,Z,h1,h2,?_⟩;have hA:=ha cpos pins s1 σ H1 _ I1 q1;rw[hs] at hA⊢;refine Calls.callWith_builtin (by show(false||(RW cpos<|QY es X.env).any (·.1))=false;rw[z]<;>rfl)<|Calls.evalArgs_plain ?_;refine thn hA λus s2 zz=>?_;obtain⟨vs,H2,I2,r2,q2⟩:=zz;exact hm pins s2 σ H2 x vs v us Q I2 r1 r2 q2
end
def IP(X:Cx)(id:String)(r:V->List V->Hp->VK->Prop):Prop:=
 ∀(pins:List<|QK×R6) (s:QO) (σ:St) (H:Hp) (x:V) (xs:List V) (v:QM) (us:List QM) (Q:VK),Inv X pins σ H s->RelV x v->Vals xs us->r x xs H Q->
  QX (QZ X.prog X.w) X.A (call (.builtin id)<|v::us) (EP X pins σ Q) X.xe s
theorem Vals.one(r:Vals [x] us):∃u,us=[u]/\RelV x u:=xV r
theorem Vals.two(r:Vals [x,y] us):∃u v,us=[u,v]/\RelV x u/\RelV y v:=FV r
theorem Vals.zero:∀{us:List QM},Vals [] us->us=[]
 |_,.nil=>rfl
theorem Vals.eraseIdx:∀{xs:List V} {us:List QM} (i:Nat),Vals xs us->Vals (xs.eraseIdx i) (us.eraseIdx i)
 |_,_,_,.nil=>.nil
 |_,_,0,.cons _ t=>t
 |_,_,i+1,.cons r t=>.cons r<|Vals.eraseIdx i t
theorem Vals.reverse{xs:List V}(h:Vals xs us):Vals xs.reverse us.reverse:=by
 induction h with
 |nil=>exact .nil
 |cons r t ih=>rw[GG,GG];exact Vals.append ih<|.cons r .nil
theorem oG{α:Type}:∀(l:List α) (i:Nat),(l.eraseIdx i).length<=l.length
 |[],_=>aL _
 |_::_,0=>nN _
 |_::r,i+1=>Nat.succ_le_succ<|oG r i
section
variable {X:Cx}{pins:List (QK×R6)}{l b:QK}{xs ys zs:List V}
theorem Inv.WI{its':List QM}{f:Array QM->Array QM}(I:Inv X pins σ H s)(z:H l=some (.lst xs))
  (e:s.heap.get? l=some { cls:=.type "list",data:=.seq its.toArray n }) (Z:f its.toArray=its'.toArray) (U:Vals ys its') (O:ys.length<=sizeLine):
  Inv X pins σ (upd H l<|.lst ys) { s with heap:=s.heap.update l<|R0 f,toks:=t' }:=by
 have q:=PySem.IsL.update e f;rw[Z] at q;refine I.write (x:=l) (e:=l) (by rw[z];exact trivial) (.inl rfl) (λb' u J hu=>(R1 s.heap (R0 f)<|Q4 J).trans hu) ⟨_,q⟩ ?_;exact⟨O,its',_,U,q⟩
theorem Inv.XX(I:Inv X pins σ H s)(J:Vals ys its)(z:ys.length<=sizeLine):
  Inv X pins σ (upd H s.heap.objs.size<|.lst ys) { s with heap:=s.heap.push { cls:=.type "list",data:=.seq its.toArray },toks:=t' }:=
 I.laid (λ_ _ q=>QP _ q) (aL _) ⟨z,its,0,J,Q0 _ rfl⟩
theorem Inv.fresh(I:Inv X pins σ H s):H s.heap.objs.size=none:=I.VF.fresh<|aL _
theorem Inv.Wn(I:Inv X pins σ H s)(J:H l=some (.lst xs)):xs.length<=sizeLine/\∃(its:List QM) (n:Nat),Vals xs its/\xs.length=its.length/\s.heap.get? l=some { cls:=.type "list",data:=.seq its.toArray n }:=by
 obtain⟨z,its,n,r,e⟩:=I.VF l _ J;exact⟨z,its,n,r,r.length,e⟩
theorem zh(h:n<=sizeLine):TC n=false:=by
 unfold TC;exact decide_eq_false<|by lia
end
section
variable {X:Cx}
inductive jL:V->List V->Hp->VK->Prop
 |mk (l xs y:_):x_=.ref l->N=[y]->Y l=some (.lst xs)->xs.length<sizeLine->M .VA (upd Y l<|.lst<|xs++[y])->jL x_ N Y M
theorem Gj:IP X "list.append" jL:=by
 intro pins s σ H x vs v us Q I O rv h;obtain⟨l,xs,y,rfl,rfl,J,U,q⟩:=h;cases O;obtain⟨u,rfl,ru⟩:=rv.one;obtain⟨z,its,n,r,hl,e⟩:=I.Wn J;refine Uw F.slot_list_append ⟨_,e,rfl⟩ F.entry_list_append (F.args_list_append_2 _ _) (PySem.list_append l its.toArray n u<|by rw[iS];lia) ⟨e,?_⟩;refine⟨.VA,_,I.WI (its':=its++[u]) J e (by simp) (r.append<|.cons ru .nil) ?_,rfl,q⟩;rw[aU,iK];lia
inductive vo:V->List V->Hp->VK->Prop
 |mk (l b xs zs:_):x_=.ref l->N=[.ref b]->Y l=some (.lst xs)->Y b=some (.lst zs)->xs.length+zs.length<=sizeLine->M .VA (upd Y l<|.lst<|xs++zs)->vo x_ N Y M
theorem w6:IP X "list.extend" vo:=by
 intro pins s σ H x vs v us Q I Z rv h;obtain⟨l,b,xs,zs,rfl,rfl,U,hB,hz,q⟩:=h;cases Z;obtain⟨u,rfl,ru⟩:=rv.one;cases ru;obtain⟨z,its,n,r,hl,e⟩:=I.Wn U;obtain⟨z2,J,n2,r2,aa,e2⟩:=I.Wn hB;have hsz:its.toArray.size+J.toArray.size<=sizeLine:=by rw[iS,iS];lia
 have O:¬ (!its.toArray.isEmpty&&TC (its.toArray.size+J.toArray.size))=true:=by
  rw[zh hsz,UM];exact kS
 refine Uw F.slot_list_extend ⟨_,e,rfl⟩ F.entry_list_extend (F.args_list_extend_2 _ _)
  (AutoSeq1.list_extend_list_list_0 l its.toArray n b J.toArray n2 O (by rw[iS];lia)<|by lia) ⟨e,e2,?_⟩
 refine⟨.VA,_,I.WI (its':=its++J) U e (by simp) (r.append r2) ?_,rfl,q⟩;rw[aU];lia
inductive yT:V->List V->Hp->VK->Prop
 |mk (l xs i k y:_):x_=.ref l->N=[.int i]->Y l=some (.lst xs)->-(2^63)<=i->i<2^63->seqIndex? i xs.length=some k->xs[k]?=some y->M y (upd Y l<|.lst<|xs.eraseIdx k)->yT x_ N Y M
theorem zj:IP X "list.pop" yT:=by
 intro pins s σ H x vs v us Q I Z rv h;obtain⟨l,xs,i,k,y,rfl,rfl,O,h1,h2,U,hy,q⟩:=h;cases Z;obtain⟨u,rfl,ru⟩:=rv.one;obtain⟨t,rfl⟩:=ru;obtain⟨z,its,n,r,hl,e⟩:=I.Wn O;obtain⟨w,hw,J⟩:=r.get hy;refine Uw F.slot_list_pop ⟨_,e,rfl⟩ F.entry_list_pop (F.args_list_pop_2 _ _)
  (MeetsSeq.list_pop_at l its.toArray n i t k w (fitsIndex_both h1 h2) (by rw[iS,<- hl];exact U) (by rw[<- Array.getElem?_toList];exact hw)<|by rw[iS];lia) ⟨e,?_⟩
 refine⟨y,_,I.WI (its':=its.eraseIdx k) O e ?_ (r.eraseIdx k) ?_,J,q⟩
 .show its.toArray.eraseIdxIfInBounds k=(its.eraseIdx k).toArray;rw[List.eraseIdxIfInBounds_toArray]
 .have:=oG xs k;lia
inductive rF:V->List V->Hp->VK->Prop
 |mk (l xs:_):x_=.ref l->N=[]->Y l=some (.lst xs)->M .VA (upd Y l<|.lst xs.reverse)->rF x_ N Y M
theorem ur:IP X "list.reverse" rF:=by
 intro pins s σ H x vs v us Q I U rv h;obtain⟨l,xs,rfl,rfl,O,q⟩:=h;cases U;have J:=rv.zero;subst J;obtain⟨z,its,n,r,hl,e⟩:=I.Wn O;refine Uw F.slot_list_reverse ⟨_,e,rfl⟩ F.entry_list_reverse (F.args_list_reverse_1 _) (AutoSeq1.list_reverse_list_0 l its.toArray n<|by rw[iS];lia) ⟨e,?_⟩;refine⟨.VA,_,I.WI (its':=its.reverse) O e (by simp) r.reverse ?_,rfl,q⟩;rw[GF];lia
inductive Hn:V->V->Hp->VK->Prop
 |mk (l b xs zs:_):x_=.ref l->y_=.ref b->Y l=some (.lst xs)->Y b=some (.lst zs)->xs.length+zs.length<=sizeLine->(∀p,Y p=none->M (.ref p) (upd Y p<|.lst<|xs++zs))->Hn x_ y_ Y M
theorem D8:kG X (SO .Add) Hn:=by
 intro pins s σ H x y v u Q I Z U h;obtain⟨l,b,xs,zs,rfl,rfl,hH,hB,hz,q⟩:=h;cases Z;cases U;obtain⟨z,its,n,r,hl,e⟩:=I.Wn hH;obtain⟨z2,J,n2,r2,aa,e2⟩:=I.Wn hB;refine PySem.P.add_list e e2 ?_ (by rw[iS,iS];lia);have O:its.toArray++J.toArray=(its++J).toArray:=by simp
 rw[O];exact⟨.ref _,_,I.XX (t':=s.toks) (r.append r2)<|by rw[aU];lia,rfl,q _ I.fresh⟩
end
end L2
namespace Att
open PySem PySem.W PySem.Calls PyProof.Rows
theorem kU{P:Params}{h:Rv}:∀(ns:List Int) (vs:List QM),WellAll P h vs (ns.map WData.int)->UZ vs ns:=by
 intro ns;induction ns with
 |nil=>
  intro vs w;rw[Dz] at w;cases w;exact .nil
 |cons n ns ih=>
  intro vs w;rw[iT] at w;cases w with
  |cons a b=>
   cases a;exact .cons _ _<|ih _ b
theorem wL{l:OpenLaw}{n:Nat}(hn:l.most=some n){P:Params}{h:Rv}{args:List WData}{J:List QM}
  (z:l.row.toRowW.claim.pre args=true) (aa:WellAll P h J args):
  ∃a vs ns,J=[Value.ref a]/\args=[WData.list<|ns.map WData.int]/\h.get? a=some { cls:=.type "list",data:=.seq vs.toArray }/\UZ vs ns/\ns.length<=n:=by
 have ab:WShape.hasAll [] args [.list .int]=true:=(pre_splitW z).1;have hc:l.pre.holds [] { args:=args }=true:=(pre_splitW z).2;obtain⟨d,r,rfl,h1,h2⟩:=hasAllW_cons ab;obtain rfl:=hasAllW_nil h2;obtain⟨xs,rfl,h3⟩:=hasW_list h1;obtain⟨ns,rfl⟩:=items_int h3;have O:ns.length<=n:=by
  unfold OpenLaw.pre at hc;have Z:(WTm.not<|.lt (.lit<|.int (n:Int))<|.len<|.arg 0).holds [] { args:=[.list<|ns.map .int] }=true:=by
   have Z:=(holds_andW hc).1;rw[hn] at Z;exact Z
  have U:=condW_of Z<|w_not<|w_lt w_lit<|w_len_list<|w_arg rfl;rw[aM] at U;refine Nat.le_of_not_lt λq=>?_;have q':(n:Int)<((ns.length:Nat):Int):=by lia
  first
   |(rw[decide_eq_true q'] at U;exact absurd U<|by decide)
   |(simp at U;lia)
 cases aa with
 |cons w1 w2=>
  cases w2;cases w1 with
  |list ho hall=>exact⟨_,_,ns,rfl,rfl,ho,kU ns _ hall,O⟩
theorem wO(l:OpenLaw)(args:List WData):l.row.toRowW.claim.post args (.bool true) args=true:=
 postW_of (r:=l.row.toRowW) (X:=(true==true))
  (show WShape.has [] (.bool true) .bool=true by first|rfl|decide|simp[WShape.has,WShape.arms,WShape.armsAll])
  (show(WTm.eq .res<|.lit<|.bool true).value [] { args:=args,res:=some<|.bool true,after:=args }=some (.bool<|true==true) from w_eq_bool (w_res rfl) w_lit) rfl
theorem attach_call{l:OpenLaw}{n:Nat}{q:Q6}{loose:List Q3}{XP:(Q3->Option QM)->Rv->Prop}{YP:Rf->Rv->Prop}{d:DefRec}
  (hn:l.most=some n) (ad:d.params.defaults=[])
  (call:∀(w:Rf) (s₀ s₁:QO) (mg mb:Q3->Option QM) (fa:QK) (o:R6) (pm cd z:QM) (a:QK) (vs:List QM) (ns:List Int),Ground q loose [] XP w s₀ mg mb s₁.heap->YP w s₁.heap-> s₁.heap.get? fa=some o->o.data=.func (docDef d.name d.params d.body d.scope pm cd z)->s₁.heap.CodeRec cd d.name->mg d.name=some (.ref fa)-> s₁.heap.get? a=some { cls:=.type "list",data:=.seq vs.toArray }->UZ vs ns->ns.length<=n->s₁.gens=#[]-> To (QZ l.prog w) UD (.call (.ref fa) ⟨[.ref a],[]⟩) (λr s'=>r=.ok (.ret<|.bool true)/\OldK s₁.heap s'.heap/\s'.os=s₁.os/\TZ s'.gens) s₁):
  WalkO q loose XP YP l.row.toRowW d [] λf vs=>PySem.call f vs:=by
 intro w s₀ s₁ mg mb G Y fa o pm cd z dV kV ho hd ac hD ab hg args af as U ae ah aa ag;obtain rfl:dV=.none:=Dflts.none hD ad;obtain rfl:kV=.none:=Dflts.noKw hD;obtain⟨a,vs,ns,rfl,rfl,Z,J,O⟩:=wL hn U aa;refine enter_call<|TU (call w s₀ s₁ mg mb fa o pm cd z a vs ns G Y ho (fd_plain hd) ac ab Z J O hg) λr s' hq=>?_;obtain⟨rfl,h2,h3,h4⟩:=hq;exact⟨.inl ⟨.bool true,.bool true,[],rfl,λ_=>rfl,.bool true,wO l _,λ_=>⟨List.Pairwise.nil,λ_ hm=>(nomatch hm)⟩⟩,h2,h3,h4⟩
end Att
namespace L2
open PySem PySem.Spec PyProof.Rows
variable {H H':Hp}{sp:Sp}{qual x:Q3}{k:Nat}{f:QK}{fd:RX}
theorem LY:∀{vs:List QM} {ns:List Int},UZ vs ns->Vals (ns.map V.int) vs
 |_,_,.nil=>.nil
 |_,_,.cons n t h=>.cons ⟨t,rfl⟩<|LY h
def Gu(H:Hp):Prop:=∀b,H b=none∨∃o xs,H b=some (.frz o<|.lst xs)
theorem zt{P:Q6}{w:Rf}{K:W.Frag}{mg mb:Q3->Option QM}{CX:tV}{fa a:QK}{s₁:QO}{vs:List QM}{ns:List Int}
  (KX:K.In s₁.heap) (ac:s₁.heap.Ns QV mg) (O:s₁.heap.Ns builtinsNs mb) (am:∀x:Q3,x≠"__name__"->mb x=SH x) (ag:s₁.heap.NoLimit) (hg:s₁.gens=#[])
  (ha:s₁.heap.get? a=some { cls:=.type "list",data:=.seq vs.toArray }) (hi:UZ vs ns) (hl:ns.length<=sizeLine) (hr:bO k UD)
  (F:∀base:Rv,K.In base->base.Ns QV mg->aF P w K mg base CX k fa fd [x] sp) (aa:∀(s:QO) (u:QM),U0 s fd ⟨[u],[]⟩ [(x,u)])
  (ai:∀H:Hp,Gu H->aD K H a (ns.map V.int)->sp [.ref a] H (λv _=>v=.bl true) λ_ _ _=>False)
  (ao:∀H e s',CX [] H s₁ (λ_ _ _=>False) e s'->False):
  To (QZ P w) UD (.call (.ref fa) ⟨[.ref a],[]⟩) (λr s'=>r=.ok (.ret<|.bool true)/\OldK s₁.heap s'.heap/\s'.os=s₁.os/\TZ s'.gens) s₁:=by
 have rv:=LY hi;have ae:=hi.length;have Z:∀H:Hp,Gu H->aD K H a (ns.map V.int)->iQ P w H s₁.heap->(∀b,H b≠none->b=a)->(H a≠none->K.lookup a=none)->
   To (QZ P w) UD (.call (.ref fa) ⟨[.ref a],[]⟩) (λr s'=>r=.ok (.ret<|.bool true)/\OldK s₁.heap s'.heap/\s'.os=s₁.os/\TZ s'.gens) s₁:=by
  intro H hO hS ab hA hK;have J:∀{b:QK} {o:R6},s₁.heap.get? b=some o->H b=none->(pY s₁.heap H).get? b=some o:=λe n=>zK e n;have aj:∀{b:QK} {o:R6} {es:Array DictEntry} {ep:Nat},s₁.heap.get? b=some o->o.data=.dict es ep->H b=none:=fun {b o es ep} e d=>by
   cases q:H b with
   |none=>rfl
   |some u=>
    have e':b=a:=hA b (by rw[q];simp);subst e';rw[ha] at e;cases e;have d':Data.seq vs.toArray _=Data.dict es ep:=d;cases d'
  have U:∀{b:QK} {m:Q3->Option QM},s₁.heap.Ns b m->(pY s₁.heap H).Ns b m:=fun {b m} ⟨o,es,ep,e,d,r⟩=>⟨o,es,ep,J e<|aj e d,d,r⟩
  have af:K.In<|pY s₁.heap H:=λb o e=>J (KX b o e) (by
   cases q:H b with
   |none=>rfl
   |some u=>
    have e':b=a:=hA b (by rw[q];simp);subst e';rw[hK<|by rw[q];simp] at e;cases e)
  have hM:Mod K mg<|pY s₁.heap H:=⟨af,U ac,⟨mb,U O,am⟩,let ⟨mc,h1,h2⟩:=ag;⟨mc,U h1,h2⟩⟩
  have e0:uJ P w K mg (pY s₁.heap H) UD [] s₁ H:=⟨rfl,hM,λb o e=>BY e,SR<|xm _ _,trivial,λb O=>absurd (show b∈([]:List QK) from O) (by simp),ab,.of_eq hg⟩
  refine TU ((F _ af<|U ac).run UD [] s₁ H ⟨[.ref a],[]⟩ [.ref a] [.ref a] _ _ hr e0 (aa s₁<|.ref a) (.cons rfl .nil)<|ai H hO hS) λr s' h=>?_;cases r with
  |error e=>exact(ao H e s' h).elim
  |ok fl=>
   cases fl with
   |next=>exact RC h
   |brk=>exact RC h
   |cont=>exact RC h
   |ret u=>
    obtain⟨v,H',os,ah,un,ad,r',q⟩:=h;have q':v=.bl true:=q;subst q';obtain rfl:u=Value.bool true:=r';refine⟨rfl,OldK.of_keep λb o e=>?_,os,ah⟩;cases q:H b with
    |none=>exact un.keep b o e q (by intro z;exact absurd (show b∈([]:List QK) from z)<|by simp)<|by simp
    |some u=>
     rcases hO b with z|⟨ob,xs,z⟩
     .rw [q] at z;cases z
     .have z2:=un.Wg b ob _ z;obtain⟨e1,_⟩:=ab b _ z;obtain⟨e2,_⟩:=ad b _ z2;rw[e] at e1;cases e1;exact e2
 cases hk:K.lookup a with
 |some o=>
  have e:=KX a o hk;rw[ha] at e;cases e;refine Z (λ_=>none) (λ_=>.inl rfl) (.inr ⟨_,vs.toArray,_,hk,rfl,rfl,rfl,by rw[iS,ae];exact hl,by simpa using rv⟩) (λb u z=>by have z':(none:Option HO)=some u:=z;cases z') (λb z=>absurd rfl z) λz=>absurd rfl z
 |none=>
  refine Z (λb=>if b=a then some (.frz { cls:=.type "list",data:=.seq vs.toArray } (.lst<|ns.map V.int)) else none) (λb=>?_) (.inl<|.inr ⟨{ cls:=.type "list",data:=.seq vs.toArray },Z9 rfl⟩) (λb u z=>?_) (λb z=>?_) λ_=>hk
  .by_cases O:b=a
   .exact .inr ⟨_,_,Z9 O⟩
   .exact .inl (Z8 O)
  .by_cases O:b=a
   .have z':=(Z9 O).symm.trans z;cases z';subst O;exact⟨ha,by rw[aM];exact hl,vs,_,rv,ha⟩
   .have z':=(Z8 O).symm.trans z;cases z'
  .by_cases O:b=a
   .exact O
   .exact absurd (Z8 O) z
theorem Bq{l:Uk}{n:Nat}{q:Q6}{loose:List Q3}{XP:(Q3->Option QM)->Rv->Prop}{YP:Rf->Rv->Prop}{d:DefRec}{K:Params->W.Frag}{CX:Rf->tV}{sp:Rf->Sp}
  (hn:l.most=some n) (ab:n<=sizeLine) (ad:d.params.defaults=[]) (hr:bO k UD)
  (hY:∀(w:Rf) (h:Rv),YP w h->(K w.params).In h)
  (F:∀(w:Rf) (mg:Q3->Option QM) (U:QK) (h:Rv),(K w.params).In h->h.Ns QV mg->mg d.name=some (.ref U)-> ∃fd:RX,(∀(s:QO) (u:QM),U0 s fd ⟨[u],[]⟩ [(x,u)])/\ ∀base:Rv,(K w.params).In base->base.Ns QV mg->aF l.prog w (K w.params) mg base (CX w) k U fd [x] (sp w))
  (Z:∀(w:Rf) (H:Hp) (a:QK) (ns:List Int),ns.length<=n->Gu H->aD (K w.params) H a (ns.map V.int)->sp w [.ref a] H (λv _=>v=.bl true) λ_ _ _=>False)
  (ac:∀(w:Rf) (H:Hp) (s:QO) (e:QM) (s':QO),CX w [] H s (λ_ _ _=>False) e s'->False):
  PySem.W.WalkO q loose XP YP l.row.toRowW d [] λf vs=>PySem.call f vs:=by
 refine Att.attach_call hn ad λw s₀ s₁ mg mb U o pm cd ae a vs ns G Y ho hd af aa O J z hg=>?_;have KX:=hY w _ Y;obtain⟨fd,hb,hF⟩:=F w mg U _ KX G.T.g aa;exact zt KX G.T.g G.T.b G.T.builtins G.T.nolimit hg O J (cW z ab) hr hF hb (λH hO hS=>Z w H a ns z hO hS) λH e s'=>ac w H s₁ e s'
noncomputable def eQ(s:Q9)(j:Nat):Q9:=match s with
 |.ClassDef _ _ _ body _ _ _ _ _ _ _=>body.getD j<|.Pass ⟨0,0,0,0⟩
 |_=>.Pass ⟨0,0,0,0⟩
noncomputable def AY(s:Q9):Arguments:=match s with
 |.FunctionDef _ a _ _ _ _ _ _ _ _=>a
 |_=>{ posonlyargs:=[],args:=[],vararg:=none,kwonlyargs:=[],kw_defaults:=[],kwarg:=none,defaults:=[] }
noncomputable def xX(s:Q9):List Q9:=match s with
 |.FunctionDef _ _ b _ _ _ _ _ _ _=>b
 |_=>[]
noncomputable def aZ(s:Q9):SQ:=match s with
 |.FunctionDef _ _ _ _ _ _ sc _ _ _=>sc
 |_=>{ kind:=.function,names:=[],isGenerator:=false,isCoroutine:=false }
noncomputable abbrev aC:tV:=λ_ _ _ _ _ _=>False
noncomputable abbrev E0:XK:=λ_ _ _=>False
theorem cG{X:Cx}:xG aC X E0:=λ_ _ _ _ _ _ _ h=>h.elim
structure aK(K:W.Frag)(x qual:Q3)(st:Q9)(f:QK)(fd:RX):Prop where
 ex:∃(oc:QM) (od:Option QK) (kV doc pm:QM) (an:Option QK) (cdv ct:QM) (osl:Array<|Option QM),
  fd=W.fnOf x qual (AY st) (xX st) (aZ st) .none kV doc pm an cdv ct/\K.lookup f=some ⟨oc,od,.func fd,osl⟩/\W.codeIn K cdv qual=true
 kp:W.keepIn K (.ref f)=true
section
variable {P:Q6}{w:Rf}{K:W.Frag}{mg:Q3->Option QM}{base:Rv}
theorem aK.ok{st:Q9}{N ps:List Q3}(F:aK K x qual st f fd)(S:aA N ps<|aZ st)(len:∀vs H Q E,sp vs H Q E->vs.length=ps.length)
  (J:∀(z:QM) (A:Rm) (outer:List UR) (s:QO) (H:Hp) (vs:List V) (Q:VK) (E:XK),bO k (A.deeper<|Ue qual (aZ st) s.heap.objs.size f z)->sp vs H Q E-> ∃t,nM (sQ aC P w K mg base N qual (aZ st) f z A outer s H E).WS (xX st) t/\t { nx:=λ_ H'=>Q .VA H',rt:=Q } (start N vs) H):aF P w K mg base aC (k+1) f fd ps sp:=by
 obtain⟨oc,od,kV,aa,pm,an,z,ct,Z,rfl,lk,U⟩:=F.ex;refine DU lk U S len λA outer s H vs Q E hr O=>?_;obtain⟨t,h,q⟩:=J z A outer s H vs Q E hr O;exact⟨t,h.WS,q⟩
theorem aK.binds{st:Q9}{ps:List Q3}(F:aK K x qual st f fd)
  (h:∀(kV J O:QM) (an:Option QK) (z ct:QM) (us:List QM),us.length=ps.length->bindArgs (W.fnOf x qual (AY st) (xX st) (aZ st) .none kV J O an z ct) ⟨us,[]⟩=pure (ps.zip us)):Binds K fd ps []:=by
 obtain⟨oc,od,kV,J,O,an,z,ct,U,rfl,lk,Z⟩:=F.ex;exact .all<|h kV J O an z ct
theorem NI{st:Q9}{Z:QM}{od an:Option QK}{O:Array<|Option QM}{kV J U z ct:QM}(l:K.lookup f=some ⟨Z,od,.func<|W.fnOf x qual (AY st) (xX st) (aZ st) .none kV J U an z ct,O⟩)
  (c:W.codeIn K z qual=true) (k:W.keepIn K (.ref f)=true):aK K x qual st f<|W.fnOf x qual (AY st) (xX st) (aZ st) .none kV J U an z ct:=⟨⟨Z,od,kV,J,U,an,z,ct,O,rfl,l,c⟩,k⟩
end
theorem GO{A:Rm}(z:bO k A):A.units+1<UT:=SY (Nat.add_le_add_left (by decide:1<=64) _) z.units
theorem oZ{n:Nat}(h:n<=1000):n<sizeLine:=SY h<|by decide
section
variable {X:Cx}
theorem pv(i:Nat){pos:UG}(J:X.N[i]?=some x:=by rfl)(U:IG X.env.scope x:=by first|exact Or.inl rfl|exact Or.inr (Or.inl rfl)|exact Or.inr<|Or.inr rfl)(O:(x==("__debug__":Q3))=false:=by decide)
  (z:(x==("__classdict__":Q3))=false:=by decide):PE X (.Name x pos)<|iL i:=E8 J U O z
end
def aB(H H':Hp):Prop:=∀b o,H b=some o->H' b=some o
theorem aB.refl(H:Hp):aB H H:=λ_ _ h=>h
theorem aB.trans{H1 H2:Hp}(a:aB H H1)(b:aB H1 H2):aB H H2:=λc o h=>b c o<|a c o h
theorem aB.free(e:aB H H'){l:QK}(h:H' l=Option.none):H l=Option.none:=by
 cases q:H l with
 |none=>rfl
 |some o=>
  rw[e l o q] at h;cases h
theorem aB.seq{K:W.Frag}{a:QK}{xs:List V}(e:aB H H')(h:aD K H a xs):aD K H' a xs:=by
 rcases h with (h|⟨o,h⟩)|h
 .exact .inl (.inl<|e _ _ h)
 .exact .inl (.inr ⟨o,e _ _ h⟩)
 .exact .inr h
end L2
set_option maxHeartbeats 4000000
namespace PySem
open Sem (wp)
section
variable {M:Model}{A:Rm}{E:QM->QO->Prop}{s:QO}{env:UR}
def GX(F:Option QK)(M:Model)(A:Rm)(E:QM->QO->Prop)(use:Option<|QM->UY Unit)(Q:QM->QO->Prop)(acc:QM)(C:QK)(r:Result)(s':QO):Prop:=
 match r with
 |.ok f=>compPost M A E use Q acc C (.ok f) s'
 |.error x=>∃m,s'.heap.Ns C m/\∀h' m',h'.Ns C m'->Rg C s'.heap h'->∀c:UR,c.locals=C->c.frame=F->QX M A (passOn "comprehension.variables-let-go" x c:UY QM) (λ_ _=>False) E { s' with heap:=h' }
theorem kW{e:Rw}{scope:SQ}{pos:UG}{O first:UY QM}{g:Comprehension}{gs:List Comprehension}{cl:List<|Q3×QK}{use:Option<|QM->UY Unit}{Q:QM->QO->Prop}
  (ab:clausesOf e=g::gs) (hs:∀x,RF g.iter env x=pure x) (Z:U5 scope env=pure cl) (J:scope.kind=.function) (U:∀x∈scope.names,x.2=.local->scope.names.lookup x.1=some .local)
  (h:QX M A first (λx s1=>QX M A (pyIter x) (λit s2=>QX M A O (λacc s3=>QX M A (U2 scope env.globals cl [] env.qual none .none<|some env) (λc s4=>c.frame=env.frame/\ To M A (.compStart e 0 it acc { c with scope:=relabel scope env }) (GX env.frame M A E use Q acc c.locals) s4) E s3) E s2) E s1) E s):
  QX M A (comprehension e scope env pos O false first use) Q E s:=by
 have keep:∀{α:Type} {t:UY α} {P P':α->QO->Prop} {s:QO},QX M A t P E s->(∀a z,P a z->P' a z)->QX M A t P' E s:=λx y=>Rk x y λ_ _ z=>z;unfold comprehension;rw[Z,ab];refine QJ<|keep h λx s1 h1=>?_;refine QJ<|Ts<|QJ<|wpAny_of_eq (hs x) ?_;refine QJ<|Rh<|keep h1 λit s2 h2=>?_;refine wpAny_standIf<|QJ<|keep h2 λacc s3 h3=>?_;refine QJ<|QS<|QJ<|keep h3 λc s4 h4=>?_;obtain⟨hf,h4⟩:=h4;dsimp only;have own:∀l:List<|Q3×Sm,(∀x∈l,x∈scope.names)->∀x∈l,x.2=.local->Env.kindOf { c with scope:=relabel scope env } x.1=some .local:=λl hl x hx z=>lookup_relabel_local<|U x (hl x hx) z;refine Rh<|QJ<|Tt<|Rh<|wpAny_run<|TU h4 λr s5 h5=>?_
 match r,h5 with
 |.error x,h5=>
  obtain⟨m,hn,h6⟩:=h5;exact QJ<|Rh<|UO (cenv:={ c with scope:=relabel scope env }) J _ s5 m (own _ λy hy=>(AQ.mp<|List.mem_reverse.mp hy).1) hn λh' m' aa sb=>Rk (h6 h' m' aa sb _ rfl hf) (λ_ _ z=>z.elim) λ_ _ z=>z
 |.ok f,h5=>
  cases use with
  |none=>
   obtain⟨m,hn,h6⟩:=h5;exact QJ<|Rh<|UO (cenv:={ c with scope:=relabel scope env }) J _ s5 m (own _ λy hy=>(AQ.mp<|List.mem_reverse.mp hy).1) hn λh' _ _ sb=>QS<|h6 h' sb
  |some u=>
   refine QJ<|Ut<|QJ<|Rh<|keep h5 λ_ s6 h6=>?_;obtain⟨m,hn,h7⟩:=h6;refine QJ<|UO (cenv:={ c with scope:=relabel scope env }) J _ s6 m (own _ λy hy=>?_) hn λh' _ _ sb=>QS<|h7 h' sb;have:y∈(scope.names.filter λx=>(x.2==.local||x.2==.cell)&&x.1!=(".0":Q3)).reverse:=(fG.mp hy).elim R9 R8;exact(AQ.mp<|List.mem_reverse.mp this).1
end
end PySem
namespace L2
open PySem PySem.Spec PyProof.Rows
variable {C a dx p:QK}{J O Z v v0 v2 v3 v5 v6:V}{a0 a1 a2 a3 a4 a5 a6 a7 a8:Option V}{hi i j lo:Int}{k n:Nat}{scope:SQ}{js:List Nat}{H H':Hp}{c:Bool}{tb u:TS}{ta te tl tv:TE}{dv l:List QM}{X:Cx}{outer:List UR}{σ σ0:St}{w:Rf}{U f f0 f1 f3 f4 qual x z:Q3}{ps:List Q3}{pos tpos:UG}{xs:List V}{g:TG}{K:W.Frag}{Q:VK}{ti:IH}{base:Rv}{s:QO}{ds:List Se}{α:Type}{env:UR}{P:Q6}{o:HO}{fl:List (Q3×V)}{tt:TT}
theorem natlt{b:QK}(h:a<b):@LT.lt Nat _ a b:=h
theorem xT{b:QK}(h:a<n)(k:n<=b):a≠b:=lD<|qL h k
theorem GY:∀(names:List<|Q3×Sm) (n:Nat) (acc:List<|Q3×QK),RO n names acc=RO n names []++acc
 |[]=>λ_ _=>rfl
 |(x,k)::r=>λn acc=>by
  unfold RO;split
  .rw [GY r (n+1)<|(x,n)::acc,GY r (n+1) [(x,n)],jU];rfl
  .exact GY r n acc
theorem MI:∀(names:List<|Q3×Sm) (n:Nat) (acc:List<|Q3×QK) (y:Q3) (c:QK),(y,c)∈RO n names acc->(y,c)∈acc∨((y,NameKind.cell)∈names/\n<=c)
 |[]=>λ_ _ _ _ h=>.inl h
 |(x,k)::r=>λn acc y c h=>by
  unfold RO at h;split at h
  .rename_i hk;have z:k=.cell:=by simpa using hk
   rcases MI r (n+1) _ y c h with h|⟨h,l⟩
   .rcases cL.mp h with e|h
    .cases e;subst z;exact .inr ⟨bH,aL _⟩
    .exact .inl h
   .exact .inr ⟨bK _ h,Nat.le_of_succ_le l⟩
  .rcases MI r n _ y c h with h|⟨h,l⟩
   .exact .inl h
   .exact .inr ⟨bK _ h,l⟩
noncomputable def qB(cells:List<|Q3×QK):List (Q3×Sm)->List (Q3×QK)->List (Q3×QK)
 |[],acc=>acc
 |(x,k)::r,acc=>if k==.free then qB cells r ((x,(cells.lookup x).getD 0)::acc) else qB cells r acc
theorem Mv{cells:List<|Q3×QK}:∀(names:List<|Q3×Sm) (acc:List<|Q3×QK) (y:Q3) (c:QK),(y,c)∈qB cells names acc->(y,c)∈acc∨((y,NameKind.free)∈names/\c=(cells.lookup y).getD 0)
 |[]=>λ_ _ _ h=>.inl h
 |(x,k)::r=>λacc y c h=>by
  unfold qB at h;split at h
  .rename_i hk;have z:k=.free:=by simpa using hk
   rcases Mv r _ y c h with h|⟨h,l⟩
   .rcases cL.mp h with e|h
    .cases e;subst z;exact .inr ⟨bH,rfl⟩
    .exact .inl h
   .exact .inr ⟨bK _ h,l⟩
  .rcases Mv r _ y c h with h|⟨h,l⟩
   .exact .inl h
   .exact .inr ⟨bK _ h,l⟩
theorem Ms{cells:List<|Q3×QK}:∀(names:List<|Q3×Sm) (acc:List<|Q3×QK) (p:Q3×QK),p∈acc->p∈qB cells names acc
 |[]=>λ_ _ h=>h
 |(x,k)::r=>λacc p h=>by
  unfold qB;split
  .exact Ms r _ p (bK _ h)
  .exact Ms r _ p h
theorem Mu{cells:List<|Q3×QK}:∀(names:List<|Q3×Sm) (acc:List<|Q3×QK) (y:Q3),(y,NameKind.free)∈names->(y,(cells.lookup y).getD 0)∈qB cells names acc
 |[]=>λ_ _ h=>nomatch h
 |(x,k)::r=>λacc y h=>by
  unfold qB;rcases cL.mp h with e|h
  .cases e;rw[Z9<|by rfl];exact Ms r _ _ bH
  .split
   .exact Mu r _ y h
   .exact Mu r _ y h
theorem M9{α:Type}:∀{l:List<|Q3×α} {y:Q3} {c:α},(y,c)∈l->∃c',l.lookup y=some c'
 |(k,v)::r,y,c,h=>by
  rw[Ey];cases hb:y==k with
  |true=>exact⟨v,rfl⟩
  |false=>
   rcases cL.mp h with e|h
   .cases e;rw[beq_self_eq_true] at hb;cases hb
   .exact M9 h
theorem MJ{env:UR}(f:Q3×Sm->List (Q3×QK)->UY (ForInStep<|List<|Q3×QK))
  (J:∀name kind cs,f (name,kind) cs=if kind==.free then(do let a <- cellOf env name;pure (.yield<|(name,a)::cs)) else pure (.yield cs)):
  ∀(names:List<|Q3×Sm) (acc:List<|Q3×QK),(∀x,(x,NameKind.free)∈names->∃c,env.cells.lookup x=some c)->forIn names acc f=(pure (qB env.cells names acc):UY<|List<|Q3×QK)
 |[],acc,_=>by rw[GD];rfl
 |(x,k)::r,acc,h=>by
  have O:∀x,(x,NameKind.free)∈r->∃c,env.cells.lookup x=some c:=λy U=>h y<|bK _ U;rw[List.forIn_cons,J];unfold qB;split
  .rename_i hk;have z:k=.free:=by simpa using hk
   subst z;obtain⟨c,hc⟩:=h x bH;have e:cellOf env x=(pure c:UY QK):=by unfold cellOf;rw[hc]
   rw[e,hc];exact MJ f J r ((x,c)::acc) O
  .exact MJ f J r acc O
theorem nH(h:∀x,(x,NameKind.free)∈scope.names->∃c,env.cells.lookup x=some c):U5 scope env=pure (qB env.cells scope.names []):=by
 simp only[U5];rw[MJ _ (λname kind cs=>by cases hk:kind==NameKind.free<;>simp[hk]) scope.names [] h];rfl
section
variable {M:Model}{A:Rm}{E:QM->QO->Prop}
theorem rR{globals:QK}{cl:List<|Q3×QK}{Q:UR->QO->Prop}
  (z:Q { scope:=scope,locals:=s.heap.objs.size,globals:=globals,cells:=RO (s.heap.objs.size+1) scope.names cl,qual:=qual,func:=none,code:=env.code,frame:=env.frame,builtins:=env.builtins } { s with heap:=pushCells (s.heap.push { cls:=.type "dict",data:=.dict #[] }) scope.names }):
  QX M A (U2 scope globals cl [] qual none .none<|some env) Q E s:=by
 simp only[U2,Option.isSome_some,if_true];refine QJ<|wpAny_alloc ?_;refine QJ<|wpAny_layCells _ (λname kind cells=>by cases hkc:kind==NameKind.cell<;>simp[hkc]) _ _ _ _ ?_;rw[show({ s with heap:=s.heap.push { cls:=.type "dict",data:=.dict #[] } }:QO).heap.objs.size=s.heap.objs.size+1 from So ..];rw[GD];exact QJ<|QS<|QS z
end
theorem gU(x:Q3):(relabel scope env).names.lookup x=(scope.names.lookup x).map λk=>if (k==.free&&env.scope.kind==.function&&env.kindOf x==some .cell)=true then NameKind.cell else k:=by
 unfold relabel;dsimp only;generalize scope.names=names;induction names with
 |nil=>rfl
 |cons p r ih=>
  obtain⟨n,k⟩:=p;rw[iT,Ey (as:=r)];cases hx:x==n with
  |true=>
   have e:x=n:=beq_iff_eq.mp hx;subst e;by_cases hc:(k==NameKind.free&&env.scope.kind==.function&&env.kindOf x==some .cell)=true
   .simp only[hc,if_true,Ey,hx,Ex]
   .simp only[hc,Dy,if_false,Ey,hx,Ex]
  |false=>
   by_cases hc:(k==NameKind.free&&env.scope.kind==.function&&env.kindOf n==some .cell)=true
   .simp only[hc,if_true,Ey,hx];exact ih
   .simp only[hc,Dy,if_false,Ey,hx];exact ih
noncomputable def Ei(N:List Q3)(osc:SQ)(k:Nat)(js:List Nat)(N':List Q3)(sc:SQ):Bool:=
 decide (sc.kind=.function)&&decide (N'.length=k+js.length)&&decide N'.Nodup&&
 sc.names.all (λp=>decide (sc.names.lookup p.1=some p.2)&&(decide (p.2≠.free)||decide (osc.names.lookup p.1=some .cell)||decide (osc.names.lookup p.1=some .free)))&&
 (QL js.length).all (λi=>decide (js[i]?.bind (λj=>N[j]?)=N'[k+i]?)&&decide ((N'[k+i]?).bind (λy=>sc.names.lookup y)=some .free))
structure wh(N:List Q3)(osc:SQ)(k:Nat)(js:List Nat)(N':List Q3)(sc:SQ):Prop where
 kind:sc.kind=.function
 len:N'.length=k+js.length
 nd:N'.Nodup
 look:∀p∈sc.names,sc.names.lookup p.1=some p.2
 fr:∀y,(y,NameKind.free)∈sc.names->osc.names.lookup y=some .cell∨osc.names.lookup y=some .free
 js:∀i j,js[i]?=some j->∃y,N'[k+i]?=some y/\N[j]?=some y/\sc.names.lookup y=some .free
theorem D2{N:List Q3}{J:SQ}{N':List Q3}{sc:SQ}(h:Ei N J k js N' sc=true):wh N J k js N' sc:=by
 unfold Ei at h;simp only[uO,decide_eq_true_eq,List.all_eq_true,Bool.or_eq_true,mL] at h;obtain⟨⟨⟨⟨h1,h2⟩,h3⟩,O⟩,Z⟩:=h;refine⟨h1,h2,h3,λp hp=>(O p hp).1,λy hy=>?_,λi j U=>?_⟩
 .rcases (O _ hy).2 with (z|z)|z
  .exact absurd rfl z
  .exact .inl z
  .exact .inr z
 .have hi:i<js.length:=(cV.mp U).1;obtain⟨a,b⟩:=Z i hi;rw[U] at a;cases e:N'[k+i]? with
  |none=>rw[e] at b;cases b
  |some y=>
   rw[e] at a b;exact⟨y,rfl,a,b⟩
noncomputable def Iu(scope:SQ)(cl:List<|Q3×QK)(C:QK)(env:UR):UR:=
 { scope:=relabel scope env,locals:=C,globals:=env.globals,cells:=RO (C+1) scope.names cl,qual:=env.qual,func:=none,code:=env.code,frame:=env.frame,builtins:=env.builtins }
noncomputable def qE(X:Cx)(N':List Q3)(scope:SQ)(C:QK)(fp:List QK)(s2:QO)(H2:Hp):Cx where
 prog:=X.prog
 w:=X.w
 K:=X.K
 mg:=X.mg
 base:=X.base
 A:=X.A
 N:=N'
 s₀:=s2
 H₀:=H2
 env:=Iu scope (qB X.env.cells scope.names []) C X.env
 outer:=X.stack
 stack:=X.stack
 ex:=fp
 fn:=λx=>decide<|scope.names.lookup x=some .cell
 calm:=X.calm
 pn:=X.pn
 xe:=λ_ _=>False
noncomputable def up(k:Nat)(js:List Nat)(σ:St):St:=Q5 k none++js.map λj=>(σ[j]?).getD none
section
variable {pins:List (QK×R6)}{s2:QO}{N':List Q3}{fp:List QK}
theorem Am(hc:wh X.N X.env.scope k js N' scope)(I:Inv X pins σ H s2)(ab:∀b∈fp,mI X pins H b)(af:∀b∈fp,b<s2.heap.objs.size){h3:Rv}(hz:h3.objs.size=s2.heap.objs.size+1)(aj:∀b o,s2.heap.get? b=some o->h3.get? b=some o):
  Inv (qE X N' scope (s2.heap.objs.size+1) fp s2 H) [] (up k js σ) H { s2 with heap:=pushCells (h3.push { cls:=.type "dict",data:=.dict #[] }) scope.names }:=by
 have U:∀y,(y,NameKind.free)∈scope.names->∃c,X.env.cells.lookup y=some c:=λy hy=>I.ok.has y<|hc.fr y hy;have ad:=cellsFrom_ok scope.names (h3.push { cls:=.type "dict",data:=.dict #[] }) (s2.heap.objs.size+2) [] ⟨λ_ _ hm=>(nomatch hm),List.Pairwise.nil⟩ (by rw[So,hz];exact aL _);rw[So,hz] at ad;have O:∀y c,(Iu scope (qB X.env.cells scope.names []) (s2.heap.objs.size+1) X.env).cells.lookup y=some c->
   ((y,c)∈RO (s2.heap.objs.size+2) scope.names []/\(y,NameKind.cell)∈scope.names/\s2.heap.objs.size+2<=c)∨((y,NameKind.free)∈scope.names/\X.env.cells.lookup y=some c):=λy c e=>by
  have m:=Rx e;change (y,c)∈RO (s2.heap.objs.size+1+1) scope.names _ at m;rw[GY] at m;rcases fG.mp m with m|m
  .rcases MI _ _ _ _ _ m with z|⟨z,l⟩
   .cases z
   .exact .inl ⟨m,z,l⟩
  .rcases Mv _ _ _ _ m with z|⟨z,l⟩
   .cases z
   .obtain ⟨c',e'⟩:=U y z;rw[e'] at l;exact .inr ⟨z,by rw[e'];exact congrArg some l.symm⟩
 have ag:∀y c,X.env.cells.lookup y=some c->c<s2.heap.objs.size:=λy c e=>by
  obtain⟨v,q⟩:=I.cell y c e;exact q.lt
 have Z:∀y,(y,NameKind.free)∈scope.names->∀c,X.env.cells.lookup y=some c->(Iu scope (qB X.env.cells scope.names []) (s2.heap.objs.size+1) X.env).cells.lookup y=some c:=λy hy c e=>by
  have m:(y,c)∈RO (s2.heap.objs.size+1+1) scope.names (qB X.env.cells scope.names []):=by
   rw[GY];have q:=Mu (cells:=X.env.cells) scope.names [] y hy;rw[e] at q;exact gR _ q
  obtain⟨c',q⟩:=M9 m;rcases O y c' q with ⟨_,z,_⟩|⟨_,z⟩
  .have z1:=hc.look _ z;have z2:=hc.look _ hy;rw[z1] at z2;cases z2
  .rw [e] at z;cases z;exact q
 have J:∀b o,s2.heap.get? b=some o->(pushCells (h3.push { cls:=.type "dict",data:=.dict #[] }) scope.names).get? b=some o:=λb o e=>T4 _ _ b o<|QP _<|aj b o e;refine⟨⟨I.ok.mod,hc.kind,I.ok.glob,I.ok.blt,nN _,λy z c h1 h2=>?_,λy hy=>?_,λy c h1 h2=>?_,I.ok.hd,I.ok.qt,I.ok.frames,.inl rfl,λb hb=>⟨?_,λy c e=>?_⟩,I.bs,cW I.ok.W3 I.sz,λb o e hb=>?_,λb hb hs=>?_,I.stack,I.Ww⟩,rfl,I.bare,Un.kept J,⟨λ_=>none,?_,λi y v e1 e2 e3=>?_⟩,λy c e=>?_,I.VF.fresh<|nN _,λy c e=>?_,λp hp=>?_,I.VF.kept J,?_⟩
 .
  rcases O y c h1 with ⟨a,_,l⟩|⟨_,a⟩<;>rcases O z c h2 with ⟨b,_,l'⟩|⟨_,b⟩
  .exact name_of_addr ad.apart a b
  .have:=natlt<|ag z c b;lia
  .have:=natlt<|ag y c a;lia
  .exact I.ok.inj y z c a b
 .
  have aa:(relabel scope X.env).names.lookup y=some .cell∨(relabel scope X.env).names.lookup y=some .free:=hy;rw[gU] at aa;have q:scope.names.lookup y=some .cell∨scope.names.lookup y=some .free:=by
   cases e:scope.names.lookup y with
   |none=>rw[e] at aa;rcases aa with z|z<;>cases z
   |some kk=>
    rw[e] at aa;cases kk<;>first|exact .inl rfl|exact .inr rfl|(rcases aa with z|z<;>simp at z)
  rcases q with q|q
  .obtain ⟨c,e⟩:=Lf (n:=s2.heap.objs.size+1+1) q;have m:(y,c)∈RO (s2.heap.objs.size+1+1) scope.names (qB X.env.cells scope.names []):=by
    rw[GY];exact nO _<|Rx e
   exact M9 m
  .have m:=Rx q;obtain⟨c,e⟩:=U y m;exact⟨c,Z y m c e⟩
 .
  have am:scope.names.lookup y=some .cell:=of_decide_eq_true h1;rcases O y c h2 with ⟨_,_,l⟩|⟨z,_⟩
  .show s2.heap.objs.size<=c;lia
  .have:=hc.look _ z;rw[am] at this;cases this
 .
  exact xT (af b hb)<|nN _
 .rcases O y c e with ⟨_,_,l⟩|⟨_,z⟩
  .exact (xT (af b hb)<|cW (Ew _ 2) l).symm
  .exact (ab b hb).2.2.2.2.1 y c z
 .
  rcases(ab b hb).2.2.2.1 with z|z
  .exact I.ok.WH b o e z
  .exact absurd (qL (QT e)<|cW I.ok.W3 z) (Bm _)
 .
  rcases cL.mp (I.VX b hs) with z|z
  .exact (ab b hb).2.1 z
  .exact (ab b hb).2.2.1 z
 .
  have q:=(Heap.Ns.new h3<|.type "dict").keeps<|T4 scope.names _;rw[hz] at q;exact q
 .
  unfold up at e2;have ah:k<=i:=by
   by_cases hi:i<k
   .rw [iE (by simpa using hi),Te] at e2;rw[Z9 hi] at e2;cases e2
   .lia
  rw[gI (by simpa using ah),EA,dB] at e2;cases ej:js[i-k]? with
  |none=>rw[ej] at e2;cases e2
  |some j=>
   rw[ej] at e2;have ac:(σ[j]?).getD none=some v:=QR e2;have e4:σ[j]?=some (some v):=by
    cases q:σ[j]? with
    |none=>rw[q] at ac;cases ac
    |some z=>rw[q] at ac;exact congrArg some ac
   obtain⟨y',n1,n2,n3⟩:=hc.js _ _ ej;rw[Nat.add_sub_cancel' ah] at n1;have n0:N'[i]?=some y:=e1;rw[n1] at n0;cases n0;have hm:=Rx n3;have ae:IG X.env.scope y:=.inr<|hc.fr y hm;obtain⟨m,hn,hl⟩:=I.loc;obtain⟨u,r,l⟩:=hl j y v n2 e4 ae;refine⟨u,r,?_⟩;rcases l with ⟨kk,_⟩|⟨kk,c,ec,ic⟩
   .have ai:X.env.scope.names.lookup y=some .local:=kk;rcases hc.fr y hm with z|z<;>(rw[ai] at z;cases z)
   .refine .inr ⟨?_,c,Z y hm c ec,ic.keeps J⟩;show(relabel scope X.env).names.lookup y=some .cell∨(relabel scope X.env).names.lookup y=some .free;rw[gU,n3];simp only[Ex];split
    .exact .inl rfl
    .exact .inr rfl
 .
  rcases O y c e with ⟨a,_,_⟩|⟨_,a⟩
  .exact ⟨none,(ad.empty y c a).1⟩
  .obtain ⟨v,q⟩:=I.cell y c a;exact⟨v,q.keeps J⟩
 .rcases O y c e with ⟨_,_,l⟩|⟨_,a⟩
  .exact I.VF.fresh (by lia)
  .exact I.VR y c a
 .
  have q:=I.pin p<|nO _<|(fG.mp hp).elim id λz=>nomatch z;exact⟨J _ _ q.1,q.2.1,xT (QT q.1)<|nN _,λz=>(cL.mp<|I.VX _ z).elim q.2.2.1 q.2.2.2.1,q.2.2.2.2⟩
 .unfold up;show _=N'.length;rw[aU,EA,aM,hc.len]
theorem Ao{ac:St}{s':QO}{D:QK}{its:List QM}{ys:List V}(I:Inv X pins σ H s2)(ae:∀b∈fp,mI X pins H b)(hC:s2.heap.objs.size<=C)(hD:s2.heap.objs.size<=D)(ad:D≠C)
  (I':Inv (qE X N' scope C fp s2 H) [(D,{ cls:=.type "list",data:=.seq its.toArray n })] ac H' s') (hv:Vals ys its) (hz:ys.length<=sizeLine):
  H' D=none/\∀h',Rg C s'.heap h'->Inv X pins σ (upd H' D<|.lst ys) { s' with heap:=h' }:=by
 obtain⟨eD,nD,_,_,_⟩:=I'.pin (D,{ cls:=.type "list",data:=.seq its.toArray n })<|gR _ bH;dsimp only at eD nD;have nC:H' C=none:=I'.free;refine⟨nD,λh' hs=>?_⟩;have Z:∀b o,s2.heap.get? b=some o->b≠C:=λb o e=>xT (QT e) hC;have af:∀b o,s2.heap.get? b=some o->b≠D:=λb o e=>xT (QT e) hD;have tr:∀b u,H' b=some u->b≠D:=λb u e z=>by rw[z,nD] at e;cases e
 have ab:∀b u,H' b=some u->b≠C:=λb u e z=>by rw[z,nC] at e;cases e
 have B:=I'.base;refine I.XF (s':={ s' with heap:=h' }) (ch:=fp) I'.os ⟨λb o e nn J U=>?_,λb o e nn J U=>?_,λb o e nn U=>?_,λb o e U=>?_,λb xs e=>?_,λb o u e=>?_,λb ps e=>?_⟩ (λb u e=>?_) I'.bare λb J=>?_
 .exact (hs.2 b<|Z b o e).trans (B.keep b o e nn J U)
 .obtain ⟨sl,q⟩:=B.slot b o e nn J U;exact⟨sl,(hs.2 b<|Z b o e).trans q⟩
 .rw [bF<|af b o e];exact B.free b o e nn U
 .obtain ⟨o',q⟩:=B.there b o e U;exact⟨o',(hs.2 b<|Z b o e).trans q⟩
 .have q:=B.Wj b xs e;rw[bF<|tr b _ q];exact q
 .have q:=B.Wg b o u e;rw[bF<|tr b _ q];exact q
 .obtain ⟨aa,q⟩:=B.Wk b ps e;exact⟨aa,by rw[bF<|tr b _ q];exact q⟩
 .by_cases J:b=D
  .subst J;rw[aS] at e;cases e;exact⟨hz,its,n,hv,(hs.2 b ad).trans eD⟩
  .rw [bF J] at e;refine(I'.VF b u e).Wm (λc v O q=>(hs.2 c ?_).trans q) (λc q=>by rw[bF<|tr c _ q];exact q) λc xs q=>by rw[bF<|tr c _ q];exact q
   rcases O with rfl|O
   .exact ab c _ e
   .exact ab c _ O
 .obtain ⟨_,f1,_,f3,f4,f5⟩:=ae b J;exact⟨f3,f1,f4,f5⟩
end
section
variable {prog:Q6}{A:Rm}{R:Result->QO->Prop}
theorem gW{elt z iter:Rw}{ifs:List Rw}{it acc:QM}(I:Nat->QO->Prop)
  (turn:∀n s,I n s->QX (QZ prog w) A (Uv it) (λr s₁=>match r with
   |none=>R (.ok .next) s₁
   |some v=>QX (QZ prog w) A (Sw z it v) (λ_ J=>QX (QZ prog w) A (assign z env v) (λ_ s₂=>QX (QZ prog w) A (forIn ifs true λc r=>if r=true then do let ok <- isTrue c env (eval c env);pure (ForInStep.yield ok) else pure (ForInStep.yield r)) (λok O=>if ok=true then QX (QZ prog w) A (eval elt env) (λx ab=>QX (QZ prog w) A (call (.builtin "list.append") [acc,x]) (λ_ aa=>∃m,m<n/\I m aa) (UC (QZ prog w) A env λe s'=>R (.error e) s') ab) (UC (QZ prog w) A env λe s'=>R (.error e) s') O else ∃m,m<n/\I m O) (UC (QZ prog w) A env λe s'=>R (.error e) s') s₂) (UC (QZ prog w) A env λe s'=>R (.error e) s') J) (UC (QZ prog w) A env λe s'=>R (.error e) s') s₁) (UC (QZ prog w) A env λe s'=>R (.error e) s') s)
  (n:Nat) (h:I n s):
  To (QZ prog w) A (.compLoop (.ListComp elt [⟨z,iter,ifs,0⟩] scope pos) 0 it acc env) R s:=by
 refine codeAny_loop rfl I (λn s hI=>?_) n h;show QX _ A ((compTurn (.ListComp elt [⟨z,iter,ifs,0⟩] scope pos) 0 it acc env).onRaise (λx=>do noteFrame x env;theTreesLotGoes x)) _ _ s;refine wpAny_noted ?_;rw[compTurn_list];refine QJ<|Ts<|QJ<|Rk (turn n s hI) (λr s₁ U=>?_) λ_ _ h'=>h';cases r with
 |none=>exact QS U
 |some v=>
  refine QJ<|Rk U (λ_ J ac=>?_) λ_ _ h'=>h';refine QJ<|Rk ac (λ_ s₂ ae=>QJ<|Rk ae (λok O Z=>?_) λ_ _ h'=>h') λ_ _ h'=>h';cases ok with
  |false=>exact QS ⟨rfl,Z⟩
  |true=>exact QJ<|QJ<|Rk Z (λx ab af=>QJ<|Rk af (λ_ aa ad=>QS<|QS ⟨rfl,ad⟩) λ_ _ h'=>h') λ_ _ h'=>h'
end
def xK(X:Cx)(ifs:List Rw)(t:TT):Prop:=
 ∀(pins:List<|QK×R6) (s:QO) (σ:St) (H:Hp) (Q:Bool->Hp->Prop),Inv X pins σ H s->t σ H Q->
  QX (QZ X.prog X.w) X.A (forIn ifs true λc r=>if r=true then do let ok <- isTrue c X.env (eval c X.env);pure (ForInStep.yield ok) else pure (ForInStep.yield r)) (TP X pins σ Q) X.xe s
def Bs:TT:=λ_ H Q=>Q true H
theorem C5:xK X [] Bs:=λ_ _ _ H _ I h=>wpAny_tests_nil ⟨H,I,h⟩
theorem Gk{c:Rw}{t:TT}(hc:PT X c t):xK X [c] t:=λpins s σ H Q I h=>wpAny_tests_one<|hc pins s σ H Q I h
def xF(k:Nat)(js:List Nat)(wi:TI)(g:TG)(tt:TT)(te:TE):TE:=λσ H Q=>wi σ H λJ H1=>∃W:Nat->Nat->List V->St->Hp->Prop,(∃m,W 0 m [] (up k js σ) H1)/\∀i m ys σ H,W i m ys σ H->
 (J.stop i H/\ys.length<=sizeLine/\∀p,H p=none->Q (.ref p) (upd H p<|.lst ys))∨
 (J.go i H/\ys.length<sizeLine/\∀x H',J.Wi i H x H'->g x σ H' λσ2 H2=>tt σ2 H2 λb H3=>if b=true then te σ2 H3 λy H4=>∃m',m'<m/\W (i+1) m' (ys++[y]) σ2 H4 else ∃m',m'<m/\W (i+1) m' ys σ2 H3)
section
variable {N':List Q3}{tg iter elt:Rw}{ifs:List Rw}{wi:TI}
theorem uE{use:Option<|QM->UY Unit}{Q':QM->QO->Prop}(be:X.calm=X.calm)(hc:wh X.N X.env.scope k js N' scope)(hi:PI X tg iter wi)
  (hg:∀C fp s2 H2,PG (qE X N' scope C fp s2 H2) tg g) (ht:∀C fp s2 H2,xK (qE X N' scope C fp s2 H2) ifs tt) (he:∀(s2:QO) (pins:List<|QK×R6) (σ:St) (H2:Hp) (fp:List QK),Inv X pins σ H2 s2->(∀b∈fp,mI X pins H2 b)->PE ((qE X N' scope (s2.heap.objs.size+1) fp s2 H2).VW<|UC (QZ X.prog X.w) X.A (Iu scope (qB X.env.cells scope.names []) (s2.heap.objs.size+1) X.env) λe s'=>GX X.env.frame (QZ X.prog X.w) X.A X.xe use Q' (.ref s2.heap.objs.size) (s2.heap.objs.size+1) (.error e) s') elt te)
  {pins:List<|QK×R6} (I:Inv X pins σ H s) (h:xF k js wi g tt te σ H Q)
  (fin:∀(C D:QK) (s':QO) (m:Q3->Option QM) (H':Hp) (ys:List V),s'.heap.Ns C m->C≠X.env.locals->C∉X.fs->D≠C->H' C=none->X.s₀.heap.objs.size<=C->(∀x c,X.env.cells.lookup x=some c->c≠C)->(∀p∈X.pn++pins,p.1≠C)->(∀h',Rg C s'.heap h'->Inv X pins σ (upd H' D<|.lst ys) { s' with heap:=h' })->Q (.ref D) (upd H' D<|.lst ys)-> GX X.env.frame (QZ X.prog X.w) X.A X.xe use Q' (.ref D) C (.ok .next) s')
  (hs:∀x,RF iter X.env x=pure x) (p':UG):
  QX (QZ X.prog X.w) X.A (comprehension (.ListComp elt [⟨tg,iter,ifs,0⟩] scope pos) scope X.env p' (newList []) false (eval iter X.env) use) Q' X.xe s:=by
 have av:U5 scope X.env=pure (qB X.env.cells scope.names []):=nH λy hy=>I.ok.has y<|hc.fr y hy;refine kW (g:=⟨tg,iter,ifs,0⟩) (gs:=[]) rfl hs av hc.kind (λx hx hl=>by rw[hc.look x hx,hl]) ?_;refine thn (hi pins s σ H _ I h) λv s1 h1=>thn h1 λbp s2 h2=>?_;obtain⟨it,fp,tn,J,H2,e,I2,T,au,f2,W,⟨m0,w0⟩,turn⟩:=h2;subst e;have ap:∀b∈fp,b<s2.heap.objs.size:=λb Z=>by
  obtain⟨o,e,_⟩:=T.obj _ _ au b Z;exact QT e
 refine Uz<|rR ?_;have b1:(s2.heap.push { cls:=.type "list",dict:=none,data:=.seq ([]:List QM).toArray }).objs.size=s2.heap.objs.size+1:=So ..;have I3:=Am (h3:=s2.heap.push { cls:=.type "list",dict:=none,data:=.seq ([]:List QM).toArray }) hc I2 f2 ap b1 λb o e=>QP _ e;refine⟨rfl,?_⟩;dsimp only;rw[b1];generalize Yk:({ s2 with heap:=pushCells ((s2.heap.push { cls:=.type "list",dict:=none,data:=.seq ([]:List QM).toArray }).push { cls:=.type "dict",data:=.dict #[] }) scope.names }:QO)=s4 at I3⊢;have ab:∀b o,s2.heap.get? b=some o->s4.heap.get? b=some o:=λb o e=>by
  rw[<- Yk];exact T4 _ _ b o<|QP _<|QP _ e
 have b2:s4.heap.get? s2.heap.objs.size=some { cls:=.type "list",data:=.seq ([]:List QM).toArray 0 }:=by
  rw[<- Yk];exact T4 _ _ _ _<|QP _<|Q0 _ rfl
 generalize Wo:qE X N' scope (s2.heap.objs.size+1) fp s2 H2=X' at I3;have ac:X'.env.locals=s2.heap.objs.size+1:=by rw[<- Wo];rfl
 have aj:X'.fs=frs X.stack:=by rw[<- Wo];rfl
 have aq:∀a,s2.heap.objs.size<=a->a∉frs X.stack:=λa ha Z=>by
  rcases cL.mp (I2.VX a Z) with z|z
  .exact absurd z.symm (xT I2.lt ha)
  .exact I2.Xe ha z
 have as:∀x c,X'.env.cells.lookup x=some c->c≠s2.heap.objs.size:=λx c e z=>by
  obtain⟨v,o,ho,hd⟩:=I3.cell x c e;rw[z,b2] at ho;cases ho;cases hd
 have ah:∀{O:St} {H':Hp} {s':QO} {its:List QM} {n:Nat},Inv X' [] O H' s'->s'.heap.get? s2.heap.objs.size=some { cls:=.type "list",data:=.seq its.toArray n }->H' s2.heap.objs.size=none->
   Inv X' [(s2.heap.objs.size,{ cls:=.type "list",data:=.seq its.toArray n })] O H' s':=fun {O H' s' its n} J e nn=>J.VT λp hp=>by
  have e':p=(s2.heap.objs.size,{ cls:=.type "list",data:=.seq its.toArray n }):=by simpa using hp
  subst e';refine⟨e,nn,?_,?_,λv z=>nomatch z⟩
  .rw [ac];exact lD<|Bl _
  .rw [aj];exact aq _<|aL _
 have I4:=ah I3 b2<|I2.VF.fresh<|aL _;have ad:∀{H':Hp} {o:R6},(∀b∈fp,H' b=none)->∀b∈fp,mI X' [(s2.heap.objs.size,o)] H' b:=fun {H' o} hn b Z=>by
  have aw:=ap b Z;refine⟨hn b Z,?_,?_,.inl (by rw[<- Wo];exact Z),λx c e z=>?_,λp hp z=>?_⟩
  .rw [ac];exact xT aw<|nN _
  .rw [aj];intro z;rcases cL.mp (I2.VX b z) with q|q
   .exact (f2 b Z).2.1 q
   .exact (f2 b Z).2.2.1 q
  .have q:=I3.ok.Yc b (by rw[<- Wo];exact Z);exact q.2 x c e z
  .rcases fG.mp hp with hp|hp
   .exact (f2 b Z).2.2.2.2.2 p (nO _<|by rw[<- Wo] at hp;exact hp) z
   have e':p=(s2.heap.objs.size,o):=by simpa using hp
   subst e';exact absurd aw<|by rw[<- z];exact Bm _
 have ax:∀{O:St} {H':Hp} {s':QO} {its:List QM} {n:Nat} {ys:List V},Inv X' [(s2.heap.objs.size,{ cls:=.type "list",data:=.seq its.toArray n })] O H' s'->Vals ys its->ys.length<=sizeLine->(∀p,H' p=none->Q (.ref p) (upd H' p<|.lst ys))->
   GX X.env.frame (QZ X.prog X.w) X.A X.xe use Q' (.ref s2.heap.objs.size) (s2.heap.objs.size+1) (.ok .next) s':=fun {O H' s' its n ys} J hv hz hq=>by
  obtain⟨m,hn,_⟩:=id J.loc;rw[ac] at hn;have nC:H' (s2.heap.objs.size+1)=none:=by rw[<- ac];exact J.free
  have J':Inv (qE X N' scope (s2.heap.objs.size+1) fp s2 H2) [(s2.heap.objs.size,{ cls:=.type "list",data:=.seq its.toArray n })] O H' s':=by rw[Wo];exact J
  obtain⟨nD,E⟩:=Ao I2 f2 (nN _) (aL _) (lD<|Bl _) J' hv hz;refine fin _ _ s' m H' ys hn ?_ (I2.Xe<|nN _) (lD<|Bl _) nC (cW I2.sz<|nN _) (λx c e z=>?_) (λp hp z=>?_) E<|hq _ nD
  .exact (xT I2.lt<|nN _).symm
  .obtain ⟨v,q⟩:=I2.cell x c e;exact absurd z<|xT q.lt<|nN _
  .exact absurd z (xT (QT (I2.pin p hp).1)<|nN _)
 have U:X'.prog=X.prog:=by rw[<- Wo];rfl
 have hw:X'.w=X.w:=by rw[<- Wo];rfl
 have hK:X'.K=X.K:=by rw[<- Wo];rfl
 have aa:X'.calm=X.calm:=by rw[<- Wo];rfl
 have hA:X'.A=X.A:=by rw[<- Wo];rfl
 have ai:Iu scope (qB X.env.cells scope.names []) (s2.heap.objs.size+1) X.env=X'.env:=by rw[<- Wo];rfl
 have az:=hg (s2.heap.objs.size+1) fp s2 H2;have b8:=ht (s2.heap.objs.size+1) fp s2 H2;have b6:=he s2 _ _ H2 fp I2 f2;rw[Wo,ai] at b6;rw[Wo] at az b8;have b7:∀e s',X'.xe e s'->False:=λe s' z=>by rw[<- Wo] at z;exact z
 have bh:∀p∈X'.pn,p.1≠s2.heap.objs.size:=λp hp=>xT (QT (I2.pin p<|nO _<|by rw[<- Wo] at hp;exact hp).1)<|aL _;have bj:X'.s₀.heap.objs.size=s2.heap.objs.size:=by rw[<- Wo];rfl
 have am:To (QZ X.prog X.w) X.A (.compLoop (.ListComp elt [⟨tg,iter,ifs,0⟩] scope pos) 0 (.ref it) (.ref s2.heap.objs.size) X'.env) (GX X.env.frame (QZ X.prog X.w) X.A X.xe use Q' (.ref s2.heap.objs.size)<|s2.heap.objs.size+1) s4:=by
  refine gW (λn s'=>L2.X6 λi O H' its nn ys=>Inv X' [(s2.heap.objs.size,{ cls:=.type "list",data:=.seq its.toArray nn })] O H' s'/\tn i s'.heap/\(∀b∈fp,H' b=none)/\Vals ys its/\W i n ys O H') ?_ m0
   ⟨0,_,H2,[],0,[],I4,T.keep _ _ _ au λb _ o e=>ab b o e,λb Z=>(f2 b Z).1,.nil,w0⟩
  rintro n s5 ⟨i,af,H5,its,nn,ys,I5,b4,b5,hv,w5⟩;rcases turn i n ys af H5 w5 with ⟨stop,hz,hq⟩|⟨go,hz,step⟩
  .have d:=T.done X' U hw hK aa i _ s5 af H5 (λ_ _=>False) I5 (ad b5) b4 stop;rw[hA] at d;refine Rk d (λr s6 zz=>?_) λ_ _ z=>z.elim;obtain⟨hr,I6⟩:=zz;subst hr;exact ax I6 hv hz hq
  .have d:=T.item X' U hw hK aa i _ s5 af H5 (λ_ _=>False) I5 (ad b5) b4 go;rw[hA] at d;refine Rk d (λr s6 zz=>?_) λ_ _ z=>z.elim;obtain⟨u,hr,h6⟩:=zz;subst hr;refine Rk h6 (λ_ s7 zz=>?_) λ_ _ z=>z.elim;obtain⟨x,H7,I7,r7,y7,ao,bc⟩:=zz;have bi:=I7.pinned (ad bc)<|T.obj _ _ ao;have a1:=az _ s7 af H7 x u _ bi r7<|step x H7 y7;rw[U,hw,hA] at a1;refine Rk a1 (λ_ s8 zz=>?_) λ_ _ z=>(b7 _ _ z).elim;obtain⟨ae,H8,I8,q8⟩:=zz;have a2:=b8 _ s8 ae H8 _ I8 q8;rw[U,hw,hA] at a2;refine Rk a2 (λok s9 zz=>?_) λ_ _ z=>(b7 _ _ z).elim;obtain⟨H9,I9,q9⟩:=zz;have back:∀{O:St} {H':Hp} {s':QO},Inv X' ([(s2.heap.objs.size,({ cls:=.type "list",data:=.seq its.toArray nn }:R6))]++Il fp s7.heap) O H' s'->tn (i+1) s'.heap/\(∀b∈fp,H' b=none):=fun {O H' s'} J=>by
    refine⟨T.keep _ _ _ ao λb Z o e=>(J.pin (b,o)<|gR _<|gR _<|JW Z e).1,λb Z=>?_⟩;obtain⟨o,e,d⟩:=T.obj _ _ ao b Z;exact(J.pin (b,o)<|gR _<|gR _<|JW Z e).2.1
   cases ok with
   |false=>
    rw[Z8 kS] at q9⊢;obtain⟨m',hm,w9⟩:=q9;obtain⟨t9,f9⟩:=back I9;exact⟨m',hm,i+1,ae,H9,its,nn,ys,I9.VO,t9,f9,hv,w9⟩
   |true=>
    rw[Z9 rfl] at q9⊢;have a3:=b6 _ s9 ae H9 _ (I9.VW _) q9;have a3:QX (QZ X'.prog X'.w) X'.A (eval elt X'.env) _ _ s9:=a3;rw[U,hw,hA] at a3;refine Rk a3 (λuy s10 zz=>?_) λ_ _ z=>z;obtain⟨y,b0,ag,ba,m',hm,bg⟩:=zz;have ag:=ag.VN;obtain⟨bf,bo⟩:=back ag;have b9:=ag.VO;obtain⟨eD,nD,_,_,_⟩:=b9.pin (s2.heap.objs.size,{ cls:=.type "list",data:=.seq its.toArray nn })<|gR _ bH;dsimp only at eD nD;have hsz:its.length<sizeLine:=by rw[<- hv.length];exact hz
    refine wpAny_list_append_plain ⟨nn,eD⟩ (λh' VD b3=>?_) (by rw[iS];lia);obtain⟨n',e'⟩:=VD;have bm:h'.get? s2.heap.objs.size=some { cls:=.type "list",data:=.seq (its++[uy]).toArray n' }:=by rw[e'];simp
    have bn:Inv X' [] ae b0 s10:=b9.VT λp hp=>absurd hp (by simp);have bd:=bn.turned (h':=h') (t':=s10.toks) (it:=s2.heap.objs.size) (λb o Z e=>(b3.2 b Z).trans e) nD (by rw[ac];exact lD<|Bl _) (.inr<|by rw[bj];exact aL _) as λp hp=>(fG.mp hp).elim (bh p) λz=>nomatch z;refine⟨m',hm,i+1,ae,b0,its++[uy],n',ys++[y],ah bd bm nD,T.keep _ _ _ bf λb Z o e=>?_,bo,hv.append<|.cons ba .nil,bg⟩;exact(b3.2 b<|xT (ap b Z)<|aL _).trans e
 have ay:To (QZ X.prog X.w) X.A (.compStart (.ListComp elt [⟨tg,iter,ifs,0⟩] scope pos) 0 (.ref it) (.ref s2.heap.objs.size) X'.env) (GX X.env.frame (QZ X.prog X.w) X.A X.xe use Q' (.ref s2.heap.objs.size)<|s2.heap.objs.size+1) s4:=
  codeAny_compStart_list am<|T.self X.A 0 s4 _ _ (T.keep _ _ _ au λb _ o e=>ab b o e) am
 rw[<- ai] at ay;exact ay
theorem oM{use:Option<|QM->UY Unit}{Q':QM->QO->Prop}(z:X.calm=X.calm)(hc:wh X.N X.env.scope k js N' scope)(hi:PI X tg iter wi)
  (hg:∀C fp s2 H2,PG (qE X N' scope C fp s2 H2) tg g) (O:∀C fp s2 H2,xK (qE X N' scope C fp s2 H2) ifs tt) (U:∀C fp s2 H2,PE (qE X N' scope C fp s2 H2) elt te)
  {pins:List<|QK×R6} (I:Inv X pins σ H s) (h:xF k js wi g tt te σ H Q)
  (fin:∀(C D:QK) (s':QO) (m:Q3->Option QM) (H':Hp) (ys:List V),s'.heap.Ns C m->C≠X.env.locals->C∉X.fs->D≠C->H' C=none->X.s₀.heap.objs.size<=C->(∀x c,X.env.cells.lookup x=some c->c≠C)->(∀p∈X.pn++pins,p.1≠C)->(∀h',Rg C s'.heap h'->Inv X pins σ (upd H' D<|.lst ys) { s' with heap:=h' })->Q (.ref D) (upd H' D<|.lst ys)-> compPost (QZ X.prog X.w) X.A X.xe use Q' (.ref D) C (.ok .next) s')
  (Z:∀x,RF iter X.env x=pure x) (J:UG):
  QX (QZ X.prog X.w) X.A (comprehension (.ListComp elt [⟨tg,iter,ifs,0⟩] scope pos) scope X.env J (newList []) false (eval iter X.env) use) Q' X.xe s:=
 uE z hc hi hg O (λs2 _ _ H2 fp _ _=>PE.WS<|U _ fp s2 H2) I h fin Z J
theorem Ba(z:X.calm=X.calm)(hc:Ei X.N X.env.scope k js N' scope=true)(hi:PI X tg iter wi)
  (hg:∀C fp s2 H2,PG (qE X N' scope C fp s2 H2) tg g) (O:∀C fp s2 H2,xK (qE X N' scope C fp s2 H2) ifs tt) (U:∀C fp s2 H2,PE (qE X N' scope C fp s2 H2) elt te)
  (Z:∀x,RF iter X.env x=pure x:=by intro _;rfl):PE X (.ListComp elt [⟨tg,iter,ifs,0⟩] scope pos)<|xF k js wi g tt te:=by
 intro pins s σ H Q I h;rw[eval_ListComp];refine oM (use:=none) z (D2 hc) hi hg O U I h (λC D s' m H' ys hn _ _ _ _ _ _ _ E q=>?_) Z _;exact⟨m,hn,λh' J=>⟨.ref D,_,E h' J,rfl,q⟩⟩
theorem GW{i:Nat}{px U:UG}(hN:X.N.Nodup)(aa:X.N[i]?=some x)(hx:Loc X.env.scope x)(Z:X.calm=X.calm)(hc:Ei X.N X.env.scope k js N' scope=true)(hi:PI X tg iter wi)
  (hg:∀C fp s2 H2,PG (qE X N' scope C fp s2 H2) tg g) (ht:∀C fp s2 H2,xK (qE X N' scope C fp s2 H2) ifs tt) (he:∀C fp s2 H2,PE (qE X N' scope C fp s2 H2) elt te)
  (hs:∀x,RF iter X.env x=pure x:=by intro _;rfl) (ab:TL (.ListComp elt [⟨tg,iter,ifs,0⟩] scope pos) (some<|.Name x px) U.line X.env=pure true:=by rfl)
  (hf:X.fn x=true∨X.env.scope.names.lookup x=some .local:=by first|exact .inl rfl|exact .inr rfl|assumption):
  PS X (.Assign [.Name x px] (.ListComp elt [⟨tg,iter,ifs,0⟩] scope pos) U)<|wJ (xF k js wi g tt te)<|AA i:=by
 intro pins s σ H D I h;rw[exec_Assign_Name_used _ _ _ _ ab];refine QJ<|Ts<|QJ ?_;show QX _ X.A (do let _ <- comprehension (.ListComp elt [⟨tg,iter,ifs,0⟩] scope pos) scope X.env _ (newList []) false (eval iter X.env) (some<|assign (.Name x px) X.env)) _ _ s;refine QJ<|Rk (oM (use:=some<|assign (.Name x px) X.env) (Q':=λ_ s'=>SP X pins D .next s') Z (D2 hc) hi hg ht he I h (λC Dd s' m H' ys hn c1 c2 c3 c4 c5 c6 c7 E q=>?_) hs _) (λ_ s' hq=>QS<|QS hq) λ_ _ e=>e;have J:=E s'.heap (.refl ..);obtain⟨oC,es,ep,eC,dC,rC⟩:=id hn;have J':Inv X (pins++[(C,oC)]) σ (upd H' Dd<|.lst ys) s':=J.VT λp hp=>by
  rcases fG.mp hp with z|z
  .exact J.pin p (gR _ z)
  .have e':p=(C,oC):=by simpa using z
   subst e';refine⟨eC,?_,c1,c2,λv z=>?_⟩
   .show upd H' Dd _ C=none;rw[bF<|Q4 c3];exact c4
   .have z':oC.data=.cell v:=z;rw[dC] at z';cases z'
 show QX _ X.A (assign (.Name x px) X.env<|.ref Dd) _ _ _;refine wpAny_assign_Name<|JR (Q:=λ_ O=>∃m,O.heap.Ns C m/\∀h',Rg C O.heap h'->SP X pins D .next { O with heap:=h' }) J' hN aa hx (v:=.ref Dd) (u:=.ref Dd) rfl (λO K'=>?_) hf;obtain⟨e2,n2,_,_,_⟩:=K'.pin (C,oC)<|gR _<|gR _ bH;dsimp only at e2 n2;refine⟨m,⟨oC,es,ep,e2,dC,rC⟩,λh' ac=>⟨_,_,K'.VO.turned (it:=C) (t':=O.toks) (λb o hb e=>(ac.2 b hb).trans e) n2 c1 (.inr c5) c6 c7,q⟩⟩
end
mutual
def Dp(K:W.Frag)(H:Hp):Se->V->Prop
 |.none,v=>v=.VA
 |.bool b,v=>v=.bl b
 |.int i,v=>v=.int i
 |.str x,v=>v=.str x
 |.list ds,v=>∃a xs,v=.ref a/\aD K H a xs/\aR K H ds xs
 |.tuple ds,v=>∃a xs,v=.ref a/\aY K H a xs/\aR K H ds xs
 |.dict _,_=>False
def aR(K:W.Frag)(H:Hp):List Se->List V->Prop
 |[],vs=>vs=[]
 |d::ds,vs=>∃v r,vs=v::r/\Dp K H d v/\aR K H ds r
end
theorem aB.VZ(e:aB H H')(h:aY K H a xs):aY K H' a xs:=by
 rcases h with (h|⟨o,h⟩)|h
 .exact .inl (.inl<|e _ _ h)
 .exact .inl (.inr ⟨o,e _ _ h⟩)
 .exact .inr h
theorem aR.length{K:W.Frag}{H:Hp}:∀{ds:List Se} {vs:List V},aR K H ds vs->vs.length=ds.length
 |[],_,h=>by unfold aR at h;subst h;rfl
 |_::_,_,h=>by
  unfold aR at h;obtain⟨v,r,q,a,t⟩:=h;subst q;rw[cP,cP,aR.length t]
theorem aR.get{K:W.Frag}{H:Hp}:∀{ds:List Se} {vs:List V} {i:Nat} {d:Se},aR K H ds vs->ds[i]?=some d->∃v,vs[i]?=some v/\Dp K H d v
 |[],_,_,_,_,e=>by simp at e
 |_::_,_,0,_,h,e=>by
  unfold aR at h;obtain⟨v,r,q,a,t⟩:=h;subst q;simp at e;subst e;exact⟨v,rfl,a⟩
 |_::_,_,i+1,_,h,e=>by
  unfold aR at h;obtain⟨v,r,q,a,t⟩:=h;subst q;simp at e;obtain⟨u,h1,h2⟩:=aR.get t e;exact⟨u,by simpa using h1,h2⟩
theorem aR.of_get{vs:List V}{i:Nat}(h:aR K H ds vs)(e:vs[i]?=some v):∃d,ds[i]?=some d/\Dp K H d v:=by
 have hi:i<ds.length:=by rw[<- h.length];exact(cV.mp e).1
 obtain⟨u,h1,h2⟩:=h.get<|bV hi;rw[e] at h1;cases h1;exact⟨_,bV hi,h2⟩
theorem aR.nil:aR K H [] []:=by unfold aR;rfl
theorem aR.cons{K:W.Frag}{H:Hp}{d:Se}{ds:List Se}{v:V}{vs:List V}(a:Dp K H d v)(t:aR K H ds vs):aR K H (d::ds)<|v::vs:=by unfold aR;exact⟨v,vs,rfl,a,t⟩
theorem aR.one{d:Se}(a:Dp K H d v):aR K H [d] [v]:=.cons a .nil
theorem aR.two{d e:Se}{u:V}(a:Dp K H d v)(b:Dp K H e u):aR K H [d,e] [v,u]:=.cons a<|.cons b .nil
theorem aR.ints{K:W.Frag}{H:Hp}:∀(ns:List Int),aR K H (ns.map SD) (ns.map V.int)
 |[]=>.nil
 |n::r=>.cons (by unfold Dp;rfl)<|aR.ints r
theorem F5(i:Int):Dp K H (.int i)<|.int i:=by unfold Dp;rfl
theorem FJ(i:Q3):Dp K H (.str i)<|.str i:=by unfold Dp;rfl
theorem DY(i:Bool):Dp K H (.bool i)<|.bl i:=by unfold Dp;rfl
theorem Jr(h:aD K H a xs)(t:aR K H ds xs):Dp K H (.list ds)<|.ref a:=by unfold Dp;exact⟨a,xs,rfl,h,t⟩
theorem Ih(h:aY K H a xs)(t:aR K H ds xs):Dp K H (.tuple ds)<|.ref a:=by unfold Dp;exact⟨a,xs,rfl,h,t⟩
theorem Dp.Ye(h:Dp K H (.tuple ds) v):∃a xs,v=.ref a/\aY K H a xs/\aR K H ds xs:=by unfold Dp at h;exact h
theorem Dp.Yr(h:Dp K H (.int i) v):v=.int i:=by unfold Dp at h;exact h
theorem Dp.Yq{i:Q3}(h:Dp K H (.str i) v):v=.str i:=by unfold Dp at h;exact h
section
variable {pins:List (QK×R6)}
mutual
theorem Inv.reads(I:Inv X pins σ H s):∀{d:Se} {v:V} {u:QM},Dp X.K H d v->RelV v u->∃as,Reads s.heap u d as
 |.none,_,_,h,r=>by unfold Dp at h;subst h;cases(show _=Value.none from r);exact⟨_,.none⟩
 |.bool b,_,_,h,r=>by unfold Dp at h;subst h;cases(show _=Value.bool b from r);exact⟨_,.bool b⟩
 |.int i,_,_,h,r=>by unfold Dp at h;subst h;obtain⟨t,q⟩:=(show ∃t,_=Value.int i t from r);subst q;exact⟨_,.int i t⟩
 |.str x,_,_,h,r=>by unfold Dp at h;subst h;obtain⟨t,q⟩:=(show ∃t,_=Value.str x t from r);subst q;exact⟨_,.str x t⟩
 |.list ds,_,_,h,r=>by
  unfold Dp at h;obtain⟨a,xs,q,z,t⟩:=h;subst q;cases(show _=Value.ref a from r);obtain⟨its,rv,pl,_⟩:=I.list z;obtain⟨as,ra⟩:=Inv.readsAll I t rv;obtain⟨o,n,J,e2,_,e3⟩:=pl;exact⟨_,.list J e2 e3<|by simpa using ra⟩
 |.tuple ds,_,_,h,r=>by
  unfold Dp at h;obtain⟨a,xs,q,z,t⟩:=h;subst q;cases(show _=Value.ref a from r);obtain⟨its,rv,pl,_⟩:=I.tuple z;obtain⟨as,ra⟩:=Inv.readsAll I t rv;obtain⟨o,J,e2,n,e3⟩:=pl;exact⟨_,.tuple J e2 e3<|by simpa using ra⟩
 |.dict _,_,_,h,_=>by unfold Dp at h;exact h.elim
theorem Inv.readsAll(I:Inv X pins σ H s):∀{ds:List Se} {vs:List V} {us:List QM},aR X.K H ds vs->Vals vs us->∃as,ReadsAll s.heap us ds as
 |[],_,_,h,r=>by unfold aR at h;subst h;cases r;exact⟨_,.nil⟩
 |_::_,_,_,h,r=>by
  unfold aR at h;obtain⟨v,q,e,a,t⟩:=h;subst e;cases r with
  |cons r1 r2=>
   obtain⟨as,h1⟩:=Inv.reads I a r1;obtain⟨bs,h2⟩:=Inv.readsAll I t r2;exact⟨_,.cons h1 h2⟩
end
inductive yW(K:W.Frag):V->V->Hp->VK->Prop
 |mk {x_ y_ Y M} (d e:_):Dp K Y d x_->Dp K Y e y_->d.canLay0=true->e.canLay0=true->d.depth<=64->M (.bl<|RZ d e) Y->yW K x_ y_ Y M
theorem K9(Z:X.A.units+64<UT):kG X (RN .Eq)<|yW X.K:=by
 intro pins s σ H x y v u Q I U J h;obtain⟨d,e,h1,h2,c1,z,dp,q⟩:=h;obtain⟨as,ra⟩:=I.reads h1 U;obtain⟨bs,O⟩:=I.reads h2 J;exact SeqAt.compareEq_reads ra O c1 z (by lia) ⟨.bl _,H,I,rfl,q⟩
end
section
theorem KU{y:Q3}(J:Gl X x)(h:∃t,X.mg x=some (.str y t))(z:(x==("__debug__":Q3))=false:=by decide):PE X (.Name x pos)<|tC<|.str y:=by
 obtain⟨t,e⟩:=h;exact vz J e ⟨t,rfl⟩ z
theorem JI{y:Int}(J:Gl X x)(h:∃t,X.mg x=some (.int y t))(z:(x==("__debug__":Q3))=false:=by decide):PE X (.Name x pos)<|tC<|.int y:=by
 obtain⟨t,e⟩:=h;exact vz J e ⟨t,rfl⟩ z
theorem AW{n:String}(J:Gl X x)(hm:X.mg x=none)(O:SH x=some (.type n))(hn:x≠"__name__":=by decide)(z:(x==("__debug__":Q3))=false:=by decide):PE X (.Name x pos)<|tC<|.ty n:=BU J hm O rfl hn z
end
structure Fn(P:Q6)(w:Rf)(K:W.Frag)(mg:Q3->Option QM)(base:Rv)(CX:tV)(x:Q3)(k:Nat)(ps:List Q3)(sp:Sp):Prop where
 ex:∃f fd,aF P w K mg base CX k f fd ps sp/\Binds K fd ps []/\W.keepIn K (.ref f)=true/\mg x=some (.ref f)
structure Mt(P:Q6)(w:Rf)(K:W.Frag)(mg:Q3->Option QM)(base:Rv)(CX:tV)(C:QK)(m:Q3)(k:Nat)(ps:List Q3)(sp:Sp):Prop where
 cl:eO K C
 ex:∃f fd,aF P w K mg base CX k f fd ps sp/\Binds K fd ps []/\Meth K C m f
structure Kl(P:Q6)(w:Rf)(K:W.Frag)(mg:Q3->Option QM)(base:Rv)(CX:tV)(x:Q3)(C:QK)(k:Nat)(ps:List Q3)(sp:Sp):Prop where
 XS:mg x=some (.ref C)
 ex:∃f fd,aF P w K mg base CX k f fd ps sp/\Binds K fd ps []/\Mk K C f
section
variable {CX:tV}{sp:Sp}{E:XK}{m:Q3}{p apos:UG}{e o:Rw}{es:List Rw}{t:TA}
theorem uG(F:Fn X.prog X.w X.K X.mg X.base CX x k ps sp)(O:bO k X.A)(U:Gl X x)(J:xG CX X E)(ha:PA X (e::es) t)(z:(x==("__debug__":Q3))=false:=by decide)(he:QY (e::es) X.env=(false,eval e X.env)::QY es X.env:=by rfl)(VD:(RW pos<|QY es X.env).any (·.1)=false:=by rfl):
  PE X (.Call (.Name x p) (e::es) [] pos)<|Jn sp [] E t:=by
 obtain⟨f,fd,h1,h2,h3,Z⟩:=F.ex;exact vB h1 O U Z h3 h2 .nil J ha z he VD
theorem iI{pl:UY Bool}(F:Mt X.prog X.w X.K X.mg X.base CX C m k ps sp)(U:bO k X.A)(O:xG CX X E)(Z:PE X o ta)(ha:PA X (e::es) t)
  (z:QY (e::es) X.env=(false,eval e X.env)::QY es X.env:=by rfl) (VD:(RW pos<|QY es X.env).any (·.1)=false:=by rfl)
  (J:eval (.Call (.Attribute o m apos) (e::es) [] pos) X.env=(do
   let ov <- eval o X.env
   UB apos.atName
   let (f,first) <- holding [ov] (Ui ov m pl)
   callWith pos f first (RW pos<|QY (e::es) X.env) (U6 pos<|Ud [] X.env)):=by rfl):
  PE X (.Call (.Attribute o m apos) (e::es) [] pos)<|HZ C m sp [] E ta t:=by
 obtain⟨f,fd,h1,h2,h3⟩:=F.ex;exact BS Z F.cl h3 h1 U h2 .nil O ha z VD J
theorem GU{pl:UY Bool}(F:Mt X.prog X.w X.K X.mg X.base CX C m k ps sp)(O:bO k X.A)(J:xG CX X E)(U:PE X o ta)
  (z:eval (.Call (.Attribute o m apos) [] [] pos) X.env=(do
   let ov <- eval o X.env
   UB apos.atName
   let (f,first) <- holding [ov] (Ui ov m pl)
   callWith pos f first (RW pos<|QY [] X.env) (U6 pos<|Ud [] X.env)):=by rfl):
  PE X (.Call (.Attribute o m apos) [] [] pos)<|HZ C m sp [] E ta iB:=by
 obtain⟨f,fd,h1,h2,h3⟩:=F.ex;exact y6 U F.cl h3 h1 O h2 .nil J z
theorem DM(F:Kl X.prog X.w X.K X.mg X.base CX x C k ps sp)(O:bO (k+1) X.A)(U:Gl X x)(J:xG CX X E)(ha:PA X (e::es) t)(z:(x==("__debug__":Q3))=false:=by decide)(Z:QY (e::es) X.env=(false,eval e X.env)::QY es X.env:=by rfl)(VD:(RW pos<|QY es X.env).any (·.1)=false:=by rfl):
  PE X (.Call (.Name x p) (e::es) [] pos)<|Jo C sp [] E t:=by
 obtain⟨f,fd,h1,h2,h3⟩:=F.ex;exact vy h3 h1 O U F.XS h2 .nil J ha z Z VD
end
noncomputable def Ib:V->Bool
 |.ty _=>true
 |.ref _=>true
 |_=>false
noncomputable def cval:V->QM
 |.ty n=>.type n
 |.ref a=>.ref a
 |_=>.none
section
theorem Be:tF X (.builtin "isinstance") λxs H Q=>L2.X4 λx c ty b=>xs=[x,c]/\Ib c=true/\gX X.K H x ty/\Rq X.K ty (cval c)=some b/\Q (.bl b) H:=by
 intro pins s σ H xs us Q I r h;obtain⟨x,c,ty,b,rfl,hc,z,e,q⟩:=h;obtain⟨u,w',rfl,J,O⟩:=FV r;have e2:w'=cval c:=by
  cases c<;>first|(cases hc;done)|exact O
 subst e2;exact xj I J z e λtk=>⟨.bl b,H,I.tok tk,rfl,q⟩
end
theorem yA:iL 0 (some v::σ) H Q=Q v H:=rfl
theorem K2{g:Int->Int->V}:AR g (.int i) (.int j) H Q=Q (g i j) H:=rfl
theorem yU{C:Int->Int->Prop}{g:Int->Int->V}:rI C g (.int i) (.int j) H Q=(C i j/\Q (g i j) H):=rfl
theorem yS{g:Int->V}:rU g (.int i) H Q=Q (g i) H:=rfl
theorem vp:GK (.int i) (.int j) H Q=Q (.bl<|decide<|i=j) H:=rfl
theorem K3:GJ (.int i) (.int j) H Q=Q (.bl<|!decide (i=j)) H:=rfl
theorem yV{i j:Bool}:GK (.bl i) (.bl j) H Q=Q (.bl<|decide<|i=j) H:=rfl
theorem Ku{i j:Bool}:GJ (.bl i) (.bl j) H Q=Q (.bl<|!decide (i=j)) H:=rfl
theorem Gf{i j:Q3}:GK (.str i) (.str j) H Q=Q (.bl<|decide<|i=j) H:=rfl
theorem Iw{i j:Q3}:GJ (.str i) (.str j) H Q=Q (.bl<|!decide (i=j)) H:=rfl
theorem zg{Q:Bool->Prop}:BX (.bl c) Q=Q c:=rfl
theorem vE{c:Int}{Q:Int->Prop}:wV (.int c) Q=Q c:=rfl
theorem DW{Q:Bool->Prop}:(∃k,V.bl c=V.bl k/\Q k)=Q c:=by
 apply propext;simp
theorem zY{c:Int}{Q:Int->Prop}:(∃k,V.int c=V.int k/\Q k)=Q c:=by
 apply propext;simp
theorem bX(h:n<=1000):n<=sizeLine:=ED<|oZ h
theorem aV(h:H p=none)(o:HO):aB H<|upd H p o:=λb u q=>by rw[bF<|bR q h];exact q
theorem LX{u:HO}(h:H p=none)(e:H a=some u):upd H p o a=some u:=by rw[bF<|bR e h];exact e
def xo(K:W.Frag)(f:Q3)(x:V)(H:Hp)(Q:VK):Prop:=L2.X5 λa C dx fs v=>x=.ref a/\H a=some (.ins C dx fs)/\eO K C/\aE K C f/\fs.lookup f=some v/\Q v H
theorem Bw:Ha K ta f σ H Q=ta σ H (λx H1=>xo K f x H1 Q):=rfl
theorem KO(h:H a=some (.ins C dx fl))(cl:eO K C)(n:aE K C f)(l:fl.lookup f=some v)(q:Q v H):xo K f (.ref a) H Q:=⟨a,C,dx,fl,v,rfl,h,cl,n,l,q⟩
def BD(K:W.Frag)(f:Q3)(x y:V)(H:Hp)(Q:Hp->Prop):Prop:=L2.X4 λa C dx fs=>x=.ref a/\H a=some (.ins C dx fs)/\eO K C/\aE K C f/\fs.length<1000/\Q (upd H a<|.ins C dx<|aO f y fs)
theorem BF{D:Ends}:Hk K ta tv f D σ H=tv σ H (λy H1=>ta σ H1 λx H2=>BD K f x y H2<|D.nx σ):=rfl
theorem LG{y:V}{Q:Hp->Prop}(h:H a=some (.ins C dx fl))(cl:eO K C)(n:aE K C f)(l:fl.length<1000)(q:Q<|upd H a<|.ins C dx<|aO f y fl):BD K f (.ref a) y H Q:=⟨a,C,dx,fl,rfl,h,cl,n,l,q⟩
theorem Fv(h:aD K H p xs)(e:dX xs i=some v)(q:Q v H):EY K (.ref p) (.int i) H Q:=⟨p,xs,i,v,rfl,rfl,h,e,q⟩
theorem Fu(h:aY K H p xs)(e:dX xs i=some v)(q:Q v H):EX K (.ref p) (.int i) H Q:=⟨p,xs,i,v,rfl,rfl,h,e,q⟩
def mU(K:W.Frag):R2:=λx y H Q=>EY K x y H Q∨EX K x y H Q
theorem B8:C9 X<|mU X.K:=B9.or Ft
theorem tG(K:W.Frag)(h:X.K=K:=by rfl):C9 X<|mU K:=h▸B8
theorem bM(h:aD K H p xs)(e:dX xs i=some v)(q:Q v H):mU K (.ref p) (.int i) H Q:=.inl<|Fv h e q
theorem cJ(h:aY K H p xs)(e:dX xs i=some v)(q:Q v H):mU K (.ref p) (.int i) H Q:=.inr<|Fu h e q
theorem cK{xs:List α}{v:α}(h0:0<=i)(h:xs[i.toNat]?=some v):dX xs i=some v:=by
 have q:=CQ h
 rwa [Sn h0] at q
theorem uH{xs:List Int}{v:Int}(h0:0<=i)(h:xs[i.toNat]?=some v):dX (xs.map V.int) i=some (.int v):=cK h0<|by rw[dB,h];rfl
def dI(P:Nat->List V->St->Hp->Prop)(n i:Nat)(ys:List V)(σ:St)(H:Hp):Prop:=∃m',m'<n-i/\m'=n-(i+1)/\i+1<=n/\P (i+1) ys σ H
theorem dI.of{P:Nat->List V->St->Hp->Prop}{i:Nat}{ys:List V}(h:i<n)(p:P (i+1) ys σ H):dI P n i ys σ H:=⟨n-(i+1),by lia,rfl,h,p⟩
theorem xy(P:Nat->List V->St->Hp->Prop)(h0:P 0 [] σ0 H)(hl:∀i ys σ H,i<=xs.length->P i ys σ H->aD K H a xs/\ys.length<=i)(hz:xs.length<=sizeLine)
  (U:∀i ys x σ H,i<xs.length->xs[i]?=some x->P i ys σ H->g x σ H λz H2=>tt z H2 λb H3=>if b=true then te z H3 λy H4=>dI P xs.length i (ys++[y]) z H4 else dI P xs.length i ys z H3)
  (O:∀ys σ H,P xs.length ys σ H->∀p,H p=none->Q (.ref p) (upd H p<|.lst ys)):
  ∃W:Nat->Nat->List V->St->Hp->Prop,(∃m,W 0 m [] σ0 H)/\∀i m ys σ H,W i m ys σ H->
   ((wg K a).stop i H/\ys.length<=sizeLine/\∀p,H p=none->Q (.ref p) (upd H p<|.lst ys))∨
   ((wg K a).go i H/\ys.length<sizeLine/\∀x H',(wg K a).Wi i H x H'->g x σ H' λz H2=>tt z H2 λb H3=>if b=true then te z H3 λy H4=>∃J,J<m/\W (i+1) J (ys++[y]) z H4 else ∃J,J<m/\W (i+1) J ys z H3):=by
 refine⟨λi m ys σ H=>m=xs.length-i/\i<=xs.length/\P i ys σ H,⟨xs.length,by simp,dU _,h0⟩,?_⟩;rintro i m ys σ H ⟨rfl,hi,p⟩;obtain⟨q,Z⟩:=hl i ys σ H hi p;by_cases VH:i<xs.length
 .refine .inr ⟨⟨xs,xs[i],q,by simp[VH]⟩,by lia,λx H' y=>?_⟩;obtain⟨e,y⟩:=y;subst e;exact U i ys x σ _ VH (y xs q) p
 .have e:i=xs.length:=by lia
  subst e;exact .inl ⟨⟨xs,q,aL _⟩,by lia,O ys σ H p⟩
theorem uD(P:Nat->List V->St->Hp->Prop)(h0:P 0 [] σ0 H)(hl:∀i ys σ H,P i ys σ H->ys.length<=i)(hz:n<=sizeLine)
  (U:∀i ys σ H,i<n->P i ys σ H->g (.int<|lo+i) σ H λz H2=>tt z H2 λb H3=>if b=true then te z H3 λy H4=>dI P n i (ys++[y]) z H4 else dI P n i ys z H3)
  (O:∀ys σ H,P n ys σ H->∀p,H p=none->Q (.ref p) (upd H p<|.lst ys)):
  ∃W:Nat->Nat->List V->St->Hp->Prop,(∃m,W 0 m [] σ0 H)/\∀i m ys σ H,W i m ys σ H->
   ((tU lo n).stop i H/\ys.length<=sizeLine/\∀p,H p=none->Q (.ref p) (upd H p<|.lst ys))∨
   ((tU lo n).go i H/\ys.length<sizeLine/\∀x H',(tU lo n).Wi i H x H'->g x σ H' λz H2=>tt z H2 λb H3=>if b=true then te z H3 λy H4=>∃J,J<m/\W (i+1) J (ys++[y]) z H4 else ∃J,J<m/\W (i+1) J ys z H3):=by
 refine⟨λi m ys σ H=>m=n-i/\i<=n/\P i ys σ H,⟨n,by simp,dU _,h0⟩,?_⟩;rintro i m ys σ H ⟨rfl,hi,p⟩;have Z:=hl i ys σ H p;by_cases VH:i<n
 .refine .inr ⟨VH,by lia,λx H' y=>?_⟩;obtain⟨e,y⟩:=y;subst e y;exact U i ys σ _ VH p
 .have e:i=n:=by lia
  subst e;exact .inl ⟨aL _,by lia,O ys σ H p⟩
theorem aB.upd{H H':Hp}{p:QK}{o:HO}(e:aB H H')(h:H p=none):aB H<|upd H' p o:=λb u q=>by rw[bF<|bR q h];exact e b u q
theorem aB.new(e:aB H H')(h:H' p=none):aB H<|L2.upd H' p o:=e.upd<|e.free h
theorem zu{t:QM}(h:(t==t)=true):Rq K t t=some true:=by unfold Rq;rw[Z9 h]
theorem oK(ns:List Int)(lo hi:Option Int):gJ (ns.map V.int) lo hi=(((ns.drop<|HT.sIx ns.length 0 lo).take<|HT.sIx ns.length ns.length hi-HT.sIx ns.length 0 lo).map V.int):=by
 unfold gJ;rw[aM,Dx,Dv]
theorem rZ{ns:List Int}{i:Nat}{x:V}(h:(ns.map V.int)[i]?=some x):∃n,ns[i]?=some n/\x=.int n:=by
 rw[dB] at h;cases e:ns[i]? with
 |none=>rw[e] at h;cases h
 |some n=>rw[e] at h;exact⟨n,rfl,(QR h).symm⟩
theorem Js(h0:0<=i)(h:i<n):zB n i=some i.toNat:=by unfold zB;rw[Z9 h0,Z9 h]
theorem C4{lo hi:Option Int}(h:aD K H a xs)(q:∀p,H p=none->Q (.ref p) (upd H p<|.lst<|gJ xs lo hi)):EW K (.ref a) lo hi H Q:=⟨a,xs,rfl,h,q⟩
def forL(K:W.Frag)(g:TG)(tb:TS)(D:Ends)(σ:St)(x:V)(H1:Hp):Prop:=∃a,x=.ref a/\(∃xs,aD K H1 a xs)/\∃W:Nat->Nat->St->Hp->Prop,(∃m,W 0 m σ H1)/\∀i m σ H,W i m σ H->
 ((wg K a).stop i H/\D.nx σ H)∨((wg K a).go i H/\∃N:St->Hp->Prop,(∀σ' H',N σ' H'->∃m',m'<m/\W (i+1) m' σ' H')/\∀x H',(wg K a).Wi i H x H'->g x σ H' λσ2 H2=>tb { D with nx:=N,ct:=N,bk:=D.nx } σ2 H2)
theorem yC{D:Ends}:ud (Je K tl) g tb D σ H=tl σ H (λx H1=>forL K g tb D σ x H1):=rfl
theorem xY{D:Ends}(h:aD K H a xs)(z:Nat->St->Hp->Prop)(h0:z 0 σ H)(hl:∀i σ H,i<=xs.length->z i σ H->aD K H a xs)
  (O:∀i x σ H,xs[i]?=some x->z i σ H->g x σ H λJ H2=>tb { D with nx:=z<|i+1,ct:=z<|i+1,bk:=D.nx } J H2) (U:∀σ H,z xs.length σ H->D.nx σ H):forL K g tb D σ (.ref a) H:=
 ⟨a,rfl,⟨xs,h⟩,zT z h0 hl O U⟩
def forR(lo:Int)(g:TG)(tb:TS)(D:Ends)(σ:St)(n:Nat)(H1:Hp):Prop:=∃W:Nat->Nat->St->Hp->Prop,(∃m,W 0 m σ H1)/\∀i m σ H,W i m σ H->
 ((tU lo n).stop i H/\D.nx σ H)∨((tU lo n).go i H/\∃N:St->Hp->Prop,(∀σ' H',N σ' H'->∃m',m'<m/\W (i+1) m' σ' H')/\∀x H',(tU lo n).Wi i H x H'->g x σ H' λσ2 H2=>tb { D with nx:=N,ct:=N,bk:=D.nx } σ2 H2)
def DS(g:TG)(tb:TS)(D:Ends)(σ:St)(x:V)(H1:Hp):Prop:=∃j:Int,[x]=[.int j]/\-(2^62)<=j/\j<2^62/\forR 0 g tb D σ j.toNat H1
def DR(g:TG)(tb:TS)(D:Ends)(σ:St)(x y:V)(H1:Hp):Prop:=L2.X2 λi j:Int=>[x,y]=[.int i,.int j]/\(-(2^62)<=i/\i<2^62/\-(2^62)<=j/\j<2^62)/\forR i g tb D σ (j-i).toNat H1
theorem wG{t:TE}{D:Ends}:ud (zI<|mF t iB) g tb D σ H=t σ H (λx H1=>DS g tb D σ x H1):=rfl
theorem wF{t u:TE}{D:Ends}:ud (zH<|mF t<|mF u iB) g tb D σ H=t σ H (λx H1=>u σ H1 λy H2=>DR g tb D σ x y H2):=rfl
theorem tK{D:Ends}(z:Nat->St->Hp->Prop)(h0:z 0 σ H)
  (O:∀i σ H,i<n->z i σ H->g (.int<|lo+i) σ H λJ H2=>tb { D with nx:=z<|i+1,ct:=z<|i+1,bk:=D.nx } J H2) (U:∀σ H,z n σ H->D.nx σ H):forR lo g tb D σ n H:=xq z h0 O U
theorem tT{D:Ends}(h:-1000<=j/\j<=1000)(q:forR 0 g tb D σ j.toNat H):DS g tb D σ (.int j) H:=⟨j,rfl,by lia,by lia,q⟩
theorem zU{D:Ends}(h:-1000<=i/\i<=1000/\-1000<=j/\j<=1000)(q:forR i g tb D σ (j-i).toNat H):DR g tb D σ (.int i) (.int j) H:=⟨i,j,rfl,by lia,q⟩
def D1(K:W.Frag)(g:TG)(tt:TT)(te:TE)(σ0:St)(Q:VK)(x:V)(H1:Hp):Prop:=∃a,x=.ref a/\(∃xs,aD K H1 a xs)/\∃W:Nat->Nat->List V->St->Hp->Prop,(∃m,W 0 m [] σ0 H1)/\∀i m ys σ H,W i m ys σ H->
 ((wg K a).stop i H/\ys.length<=sizeLine/\∀p,H p=none->Q (.ref p) (upd H p<|.lst ys))∨
 ((wg K a).go i H/\ys.length<sizeLine/\∀x H',(wg K a).Wi i H x H'->g x σ H' λσ2 H2=>tt σ2 H2 λb H3=>if b=true then te σ2 H3 λy H4=>∃m',m'<m/\W (i+1) m' (ys++[y]) σ2 H4 else ∃m',m'<m/\W (i+1) m' ys σ2 H3)
theorem wH:xF k js (Je K tl) g tt te σ H Q=tl σ H (λx H1=>D1 K g tt te (up k js σ) Q x H1):=rfl
theorem qC(h:aD K H a xs)(U:xs.length<=1000)(P:Nat->List V->St->Hp->Prop)(h0:P 0 [] σ0 H)(hl:∀i ys σ H,i<=xs.length->P i ys σ H->aD K H a xs/\ys.length<=i)
  (O:∀i ys x σ H,i<xs.length->xs[i]?=some x->P i ys σ H->g x σ H λz H2=>tt z H2 λb H3=>if b=true then te z H3 λy H4=>dI P xs.length i (ys++[y]) z H4 else dI P xs.length i ys z H3)
  (J:∀ys σ H,P xs.length ys σ H->∀p,H p=none->Q (.ref p) (upd H p<|.lst ys)):D1 K g tt te σ0 Q (.ref a) H:=⟨a,rfl,⟨xs,h⟩,xy P h0 hl (bX U) O J⟩
def D0(lo:Int)(g:TG)(tt:TT)(te:TE)(σ0:St)(Q:VK)(n:Nat)(H1:Hp):Prop:=∃W:Nat->Nat->List V->St->Hp->Prop,(∃m,W 0 m [] σ0 H1)/\∀i m ys σ H,W i m ys σ H->
 ((tU lo n).stop i H/\ys.length<=sizeLine/\∀p,H p=none->Q (.ref p) (upd H p<|.lst ys))∨
 ((tU lo n).go i H/\ys.length<sizeLine/\∀x H',(tU lo n).Wi i H x H'->g x σ H' λσ2 H2=>tt σ2 H2 λb H3=>if b=true then te σ2 H3 λy H4=>∃m',m'<m/\W (i+1) m' (ys++[y]) σ2 H4 else ∃m',m'<m/\W (i+1) m' ys σ2 H3)
def As(g:TG)(tt:TT)(te:TE)(σ0:St)(Q:VK)(x:V)(H1:Hp):Prop:=∃j:Int,[x]=[.int j]/\-(2^62)<=j/\j<2^62/\D0 0 g tt te σ0 Q j.toNat H1
theorem ug{t:TE}:xF k js (zI<|mF t iB) g tt te σ H Q=t σ H (λx H1=>As g tt te (up k js σ) Q x H1):=rfl
theorem xI(h:-1000<=j/\j<=1000)(P:Nat->List V->St->Hp->Prop)(h0:P 0 [] σ0 H)(hl:∀i ys σ H,P i ys σ H->ys.length<=i)
  (O:∀i ys σ H,i<j.toNat->P i ys σ H->g (.int<|0+i) σ H λz H2=>tt z H2 λb H3=>if b=true then te z H3 λy H4=>dI P j.toNat i (ys++[y]) z H4 else dI P j.toNat i ys z H3)
  (J:∀ys σ H,P j.toNat ys σ H->∀p,H p=none->Q (.ref p) (upd H p<|.lst ys)):As g tt te σ0 Q (.int j) H:=⟨j,rfl,by lia,by lia,uD P h0 hl (bX<|by lia) O J⟩
def IS(i j:Int):Prop:=0<j/\j<2^250
section
theorem Ll:kG X (SO .FloorDiv)<|rI IS λi j=>.int<|i/j:=GL λi j _ _ _ _ _ hc q=>by
 have h1:(0:Int)<j:=hc.1;have h2:j<2^250:=hc.2;have h3:j.natAbs<2^250:=by
  have e:(j.natAbs:Int)=j:=Int.natAbs_of_nonneg (by lia);have e2:((2^250:Nat):Int)=2^250:=by rfl
  lia
 have z:j.natAbs.log2<250:=(Nat.log2_lt<|by lia).mpr h3;exact floordiv_int (by lia) (by rw[UQ i<|by lia];exact q)<|.inl<|PyProof.noPylong_of_log2<|by lia
end
theorem sH{t:TG}{u:AJ}{r:List V}{Q:St->Hp->Prop}:DQ t u (v::r) σ H Q=t v σ H (λz H'=>u r z H' Q):=rfl
theorem vR{Q:St->Hp->Prop}:HJ [] σ H Q=Q σ H:=rfl
theorem xZ{t:AJ}{Q:St->Hp->Prop}(h:aY K H a xs)(l:xs.length=n)(q:t xs σ H Q):Cr K n t (.ref a) σ H Q:=⟨a,xs,rfl,h,l,q⟩
section
variable {tg l e o:Rw}{es:List Rw}{to:TE}{t:TA}{apos cpos:UG}
theorem Lw(K:W.Frag)(h:X.K=K:=by rfl):NR X<|EW K:=h▸vd
theorem rM(K:W.Frag)(hl:PE X l tl)(h:X.K=K:=by rfl):PI X tg l<|Je K tl:=h▸KY hl
theorem iH(K:W.Frag)(h:X.K=K:=by rfl):tF X (.builtin "len") λxs H Q=>L2.X2 λp ys=>xs=[.ref p]/\(aD K H p ys∨aY K H p ys)/\Q (.int ys.length) H:=h▸Mr
theorem MH(K:W.Frag)(h:X.K=K:=by rfl):tF X (.type "list") λxs H Q=>L2.X2 λp ys=>xs=[.ref p]/\(aD K H p ys∨aY K H p ys)/\∀l,H l=none->Q (.ref l) (upd H l<|.lst ys):=h▸jP
theorem vv(K:W.Frag){z:AJ}(hc:X.calm=X.calm)(O:En X es z)
  (hn:(RM es X.env).length=n:=by rfl) (J:(RM es X.env).findIdx? (·.1)=none:=by rfl) (h:X.K=K:=by rfl):PG X (.Tuple es k pos)<|Cr K n z:=h▸y3 hc O hn J
end
open PySem PySem.Spec PySem.W PySem.Calls PyProof.Rows
section
variable {p:UG}{iter elt:Rw}{N:List Q3}{wi:TI}
theorem rN{z:SQ}{O:List Q3}(hc:Ei O z 1 js (x::N) scope=true)(J:(relabel scope X.env).names.lookup x=some .local)(C:QK)(fp:List QK)(s:QO)(H:Hp):PG (qE X (x::N) scope C fp s H) (.Name x p)<|AA 0:=by
 refine qI ?_ rfl (.inl J)<|.inr J;unfold Ei at hc;simp only[uO,decide_eq_true_eq] at hc;exact hc.1.1.2
theorem we(hc:Ei X.N X.env.scope 1 js (x::N) scope=true)(hi:PI X (.Name x p) iter wi)(J:∀C fp s2 H2,PE (qE X (x::N) scope C fp s2 H2) elt te)
  (hl:(relabel scope X.env).names.lookup x=some .local:=by rfl) (z:∀x,RF iter X.env x=pure x:=by intro _;rfl):PE X (.ListComp elt [⟨.Name x p,iter,[],0⟩] scope pos)<|xF 1 js wi (AA 0) Bs te:=
 Ba rfl hc hi (rN hc hl) (λ_ _ _ _=>C5) J z
theorem Gn{i:Nat}{y:Q3}{U z:UG}(Z:X.N.Nodup)(J:X.N[i]?=some y)(hx:Loc X.env.scope y)(hc:Ei X.N X.env.scope 1 js (x::N) scope=true)(hi:PI X (.Name x p) iter wi)
  (he:∀C fp s2 H2,PE (qE X (x::N) scope C fp s2 H2) elt te) (hl:(relabel scope X.env).names.lookup x=some .local:=by rfl)
  (hs:∀x,RF iter X.env x=pure x:=by intro _;rfl) (O:TL (.ListComp elt [⟨.Name x p,iter,[],0⟩] scope pos) (some<|.Name y U) z.line X.env=pure true:=by rfl)
  (hf:X.fn y=true∨X.env.scope.names.lookup y=some .local:=by first|exact .inl rfl|exact .inr rfl|assumption):
  PS X (.Assign [.Name y U] (.ListComp elt [⟨.Name x p,iter,[],0⟩] scope pos) z)<|wJ (xF 1 js wi (AA 0) Bs te)<|AA i:=
 GW Z J hx rfl hc hi (rN hc hl) (λ_ _ _ _=>C5) he hs O hf
end
open PySem PySem.Spec PySem.W PySem.Calls PyProof.Rows
section
variable {e:Rw}{q:UG}
theorem ya(i:Nat)(z:X.N.Nodup)(hi:X.N[i]?=some x)(O:Loc X.env.scope x)(U:PE X e te)(J:TL e (some<|.Name x q) pos.line X.env=pure false:=by rfl)(Z:X.fn x=true∨X.env.scope.names.lookup x=some .local:=by first|exact .inl rfl|exact .inr rfl|assumption):PS X (.Assign [.Name x q] e pos)<|wJ te<|AA i:=oY z hi O U J Z
theorem Ek(i:Nat)(z:X.N.Nodup)(hi:X.N[i]?=some x)(J:Loc X.env.scope x)(O:X.fn x=true∨X.env.scope.names.lookup x=some .local:=by first|exact .inl rfl|exact .inr rfl|assumption):PG X (.Name x pos)<|AA i:=qI z hi J O
theorem KZ(i:Nat){z:UH}(O:X.N.Nodup)(hi:X.N[i]?=some x)(U:Loc X.env.scope x)(Z:PE X e te)(J:J0 X z ti)(hf:X.fn x=true∨X.env.scope.names.lookup x=some .local:=by first|exact .inl rfl|exact .inr rfl|assumption):PS X (.AugAssign (.Name x q) z e pos)<|EN i te ti:=y0 O hi U Z J hf
theorem vx(n:Nat){es:List Rw}{t:AJ}(h:En X es t)(hn:(RM es X.env).length=n:=by rfl)(z:(RM es X.env).findIdx? (·.1)=none:=by rfl):PG X (.Tuple es k pos)<|Cr X.K n t:=y3 rfl h hn z
end
open PySem
structure eR(K:W.Frag)(C:QK)(x:Q3)(f:QK)(F:Prop):Prop where
 a:W.findIn K (.ref C) x=some (some<|.ref f)
 i:T9 K (.ref f)=true
 F:F
 k:W.keepIn K (.ref f)=true
structure cT(K:W.Frag)(x:Q3)(f:QK)(F:Prop):Prop where
 a:W.nsIn K QV x=some (some<|.ref f)
 F:F
 k:W.keepIn K (.ref f)=true
theorem bW{a:Rw}(ha:PE X a ta)(h:QY [a] X.env=(false,eval a X.env)::QY [] X.env:=by rfl):PA X [a]<|mF ta iB:=Gb ha La h
theorem dG{a b:Rw}(ha:PE X a ta)(z:PE X b te)(h:QY [a,b] X.env=(false,eval a X.env)::QY [b] X.env:=by rfl)(h2:QY [b] X.env=(false,eval b X.env)::QY [] X.env:=by rfl):PA X [a,b]<|mF ta<|mF te iB:=Gb ha (bW z h2) h
theorem wR{a b c:Rw}{tc:TE}(ha:PE X a ta)(z:PE X b te)(hc:PE X c tc)(h:QY [a,b,c] X.env=(false,eval a X.env)::QY [b,c] X.env:=by rfl)(h2:QY [b,c] X.env=(false,eval b X.env)::QY [c] X.env:=by rfl)(h3:QY [c] X.env=(false,eval c X.env)::QY [] X.env:=by rfl):PA X [a,b,c]<|mF ta<|mF te<|mF tc iB:=Gb ha (dG z hc h2 h3) h
theorem bO.mn{j:Nat}{A:Rm}(r:bO k A)(h:j<=k:=by decide):bO j A:=r.mono h
theorem J9{z:Type}{f:α->z}{a:α}{l:List α}:SV f (a::l)=f a::SV f l:=rfl
theorem J8{z:Type}{f:α->z}:SV f []=[]:=rfl
theorem J6:(!true)=false:=rfl
theorem J7:(!false)=true:=rfl
theorem Kd{A B:Prop}:(if true=true then A else B)=A:=rfl
theorem Ke{A B:Prop}:(if false=true then A else B)=B:=rfl
theorem Jx{c:Int}{Q:Int->Prop}(h:Q c):wV (.int c) Q:=h
theorem cY{Q:Bool->Prop}(h:Q c):BX (.bl c) Q:=h
theorem FW{g:Int->Int->V}(h:Q (g i j) H):AR g (.int i) (.int j) H Q:=h
theorem yz:iL 1 (a0::some v::σ) H Q=Q v H:=rfl
theorem yy:iL 2 (a0::a1::some v::σ) H Q=Q v H:=rfl
theorem yx:iL 3 (a0::a1::a2::some v::σ) H Q=Q v H:=rfl
theorem yw:iL 4 (a0::a1::a2::a3::some v::σ) H Q=Q v H:=rfl
theorem yv:iL 5 (a0::a1::a2::a3::a4::some v::σ) H Q=Q v H:=rfl
theorem yu:iL 6 (a0::a1::a2::a3::a4::a5::some v::σ) H Q=Q v H:=rfl
theorem yt:iL 7 (a0::a1::a2::a3::a4::a5::a6::some v::σ) H Q=Q v H:=rfl
theorem yr:iL 8 (a0::a1::a2::a3::a4::a5::a6::a7::some v::σ) H Q=Q v H:=rfl
theorem yq:iL 9 (a0::a1::a2::a3::a4::a5::a6::a7::a8::some v::σ) H Q=Q v H:=rfl
theorem u6{a9:Option V}:iL 10 (a0::a1::a2::a3::a4::a5::a6::a7::a8::a9::some v::σ) H Q=Q v H:=rfl
theorem uZ{a9 a10:Option V}:iL 11 (a0::a1::a2::a3::a4::a5::a6::a7::a8::a9::a10::some v::σ) H Q=Q v H:=rfl
open PySem
def Cut(t:TS):TS:=t
theorem Eg{rest:List Q9}(h:nM X rest u):nM X rest<|Cut u:=h
theorem jQ{D:Ends}(h:u D σ H):Cut u D σ H:=h
def Le(u t:TS):Prop:=∀D σ H,u D σ H->t D σ H
theorem bN{body:List Q9}{R:TS->Prop}(k:Nat)(d:nM X (body.drop k) u)(h:∀t,nM X (body.drop k) t->Le u t->∃t,nM X body t/\R t):∃t,nM X body t/\R t:=h u d λ_ _ _ x=>x
theorem bL{t:TS}{D:Ends}(h:u D σ H)(e:Le u t:=by assumption):t D σ H:=e _ _ _ h
theorem OW(h:l.length=0):l=[]:=Bk.mp h
theorem lE(h:l.length=1):∃a0,l=[a0]:=by
 cases l with
 |nil=>cases h
 |cons a l=>
  obtain rfl:=OW (l:=l)<|S9 h;exact⟨a,rfl⟩
theorem gS(h:l.length=2):∃a0 a1,l=[a0,a1]:=by
 cases l with
 |nil=>cases h
 |cons a l=>
  obtain⟨z,rfl⟩:=lE (l:=l)<|S9 h;exact⟨a,z,rfl⟩
theorem gP(h:l.length=3):L2.X3 λa0 a1 a2=>l=[a0,a1,a2]:=by
 cases l with
 |nil=>cases h
 |cons a l=>
  obtain⟨J,z,rfl⟩:=gS (l:=l)<|S9 h;exact⟨a,J,z,rfl⟩
theorem uU(h:l.length=4):L2.X4 λa0 a1 a2 a3=>l=[a0,a1,a2,a3]:=by
 cases l with
 |nil=>cases h
 |cons a l=>
  obtain⟨J,z,O,rfl⟩:=gP (l:=l)<|S9 h;exact⟨a,J,z,O,rfl⟩
def u9(t u:TE):TE:=λσ H Q=>t σ H Q∨u σ H Q
theorem kO{e:Rw}{t u:TE}(h:PE X e t)(k:PE X e u):PE X e<|u9 t u:=λpins s σ H Q I z=>z.elim (h pins s σ H Q I)<|k pins s σ H Q I
section
variable {X:Cx}
theorem By{i:Nat}{D:Ends}:EN i te ti D σ H=iL i σ H (λx J=>te σ J λy H1=>ti x y H1 λz H2=>D.nx (σ.set i<|some z) H2):=rfl
theorem vJ{f:Int->Int->Int}:Kc f (.int i) (.int j) H Q=Q (.int<|f i j) H:=rfl
theorem Kh{CX:tV}{mg:Q3->Option QM}{N:List Q3}{f:QK}{z:QM}{A:Rm}{E:XK}:(sQ CX P w K mg base N qual scope f z A outer s H E).K=K:=rfl
def DA(W:Nat->St->Hp->Prop)(m:Nat)(tb:TS)(D:Ends)(σ:St)(H1:Hp):Prop:=∃N:St->Hp->Prop,(∀σ' H',N σ' H'->∃m',m'<m/\W m' σ' H')/\tb { D with nx:=N,ct:=N,bk:=D.nx } σ H1
theorem Bb{W:Nat->St->Hp->Prop}{m:Nat}{D:Ends}{H1:Hp}(h:tb { D with nx:=λz H'=>∃J,J<m/\W J z H',ct:=λz H'=>∃J,J<m/\W J z H',bk:=D.nx } σ H1):DA W m tb D σ H1:=⟨_,λ_ _ q=>q,h⟩
theorem Bc{c:TT}{D:Ends}(W:Nat->St->Hp->Prop)(h0:∃m,W m σ H)(z:∀m σ H,W m σ H->c σ H λb H1=>if b=true then DA W m tb D σ H1 else D.nx σ H1):yp c tb D σ H:=⟨W,h0,z⟩
noncomputable def uz(xs:List V)(i:Int)(y:V):List V:=let k:=if i<0 then(i+(xs.length:Int)).toNat else min i.toNat xs.length;xs.take k++y::xs.drop k
inductive vm:V->List V->Hp->VK->Prop
 |mk (l xs i y:_):x_=.ref l->N=[.int i,y]->Y l=some (.lst xs)->xs.length<sizeLine->(-(2^62)<=i/\i<2^62)->M .VA (upd Y l<|.lst<|uz xs i y)->vm x_ N Y M
theorem Co(its:List QM)(k:Nat)(u:QM)(z:k<=its.length):(its.toArray.extract 0 k).push u++its.toArray.extract k=(its.take k++u::its.drop k).toArray:=by
 apply Array.ext';simp;exact pE<|by rw[lC];exact aL _
theorem rY(xs:List V)(i:Int)(y:V):(uz xs i y).length=xs.length+1:=by
 unfold uz;dsimp only;rw[aU,cP,kP,lC];lia
theorem Vals.ins{xs:List V}{us:List QM}{y:V}{u:QM}(r:Vals xs us)(q:RelV y u)(k:Nat):Vals (xs.take k++y::xs.drop k)<|us.take k++u::us.drop k:=(r.take k).append<|.cons q<|r.drop k
theorem wZ:IP X "list.insert" vm:=by
 intro pins s σ H x vs v us Q I rx rv h;obtain⟨l,xs,i,y,rfl,rfl,U,hz,hi,q⟩:=h;cases rx;obtain⟨u,u2,rfl,ru,O⟩:=rv.two;obtain⟨t,rfl⟩:=ru;obtain⟨z,its,n,r,hl,e⟩:=I.Wn U;have J:¬(!Builtin.List.listFitsIndex i)=true:=by
  unfold Builtin.List.listFitsIndex;have:(decide (-(2^63:Int)<=i)&&decide (i<2^63))=true:=by
   rw[uO];exact⟨decide_eq_true<|by lia,decide_eq_true<|by lia⟩
  simpa using this
 refine Uw F.slot_list_insert ⟨_,e,rfl⟩ F.entry_list_insert (F.args_list_insert_3 _ _ _) (PySem.AutoListH.list_insert_list_int_val_1 l its.toArray n i t u2 J<|by rw[iS];lia) ⟨e,?_⟩;have Z:(if i<0 then(i+(its.length:Int)).toNat else min i.toNat its.length)<=its.length:=by split<;>lia
 refine⟨.VA,_,I.WI (its':=its.take (if i<0 then(i+(its.length:Int)).toNat else min i.toNat its.length)++u2::its.drop (if i<0 then(i+(its.length:Int)).toNat else min i.toNat its.length)) U e ?_ (ys:=uz xs i y) ?_ ?_,rfl,q⟩
 .show (its.toArray.extract 0 _).push u2++its.toArray.extract _=_;rw[iS];exact Co its _ u2 Z
 .unfold uz;rw[hl];exact r.ins O _
 .rw [rY];lia
end
structure Enc{α:Type}[DecidableEq α](e:α->Se)(n:Nat):Prop where
 eq:∀a b,RZ (e a) (e b)=decide (a=b)
 lay:∀a,(e a).canLay0=true
 dep:∀a,(e a).depth<=n
theorem Enc.int:Enc SD 0:=⟨λa b=>by unfold RZ;rw[EB];simp,λa=>by unfold Sl;rfl,λa=>by unfold Sr;exact aL _⟩
theorem Enc.bl:Enc PyData.bool 0:=⟨λa b=>by unfold RZ;rw[EB];simp,λa=>by unfold Sl;rfl,λa=>by unfold Sr;exact aL _⟩
section
variable {β γ:Type}[DecidableEq α][DecidableEq β][DecidableEq γ]{e:α->Se}{f:β->Se}{g:γ->Se}{m:Nat}
theorem Enc.all(h:Enc e n):∀xs ys:List α,RT (xs.map e) (ys.map e)=decide (xs=ys)
 |[],[]=>by simp[RT]
 |x::xs,[]=>by simp[RT]
 |[],y::ys=>by simp[RT]
 |x::xs,y::ys=>by
  rw[iT,iT];unfold RT;rw[h.eq,h.all xs ys,<- Uy];exact decide_eq_decide.mpr<|by rw[List.cons.injEq]
theorem Enc.Wu(h:Enc e n):∀xs:List α,RG (xs.map e)=true
 |[]=>by simp[RG]
 |x::xs=>by rw[iT];unfold RG;rw[h.lay,h.Wu xs];rfl
theorem Enc.WK(h:Enc e n):∀xs:List α,RP (xs.map e)<=n
 |[]=>by simp[RP]
 |x::xs=>by
  rw[iT];unfold RP;have a:=h.dep x;have b:=h.WK xs;lia
theorem Enc.list(h:Enc e n):Enc (λxs:List α=>PyData.list<|xs.map e)<|n+1:=
 ⟨λa b=>by unfold RZ;exact h.all a b,λa=>by unfold Sl;exact h.Wu a,λa=>by unfold Sr;have:=h.WK a;lia⟩
theorem Enc.three(h:Enc e n)(h2:Enc f m)(h3:Enc g k):Enc (λp:α×β×γ=>PyData.tuple [e p.1,f p.2.1,g p.2.2]) (max n (max m k)+1) where
 eq:=λa b=>by
  unfold RZ RT RT RT RT;rw[h.eq,h2.eq,h3.eq,Bool.and_true,<- Uy,<- Uy];exact decide_eq_decide.mpr<|by rw[Prod.ext_iff,Prod.ext_iff]
 lay:=λa=>by unfold Sl RG RG RG RG;rw[h.lay,h2.lay,h3.lay];rfl
 dep:=λa=>by
  unfold Sr RP RP RP RP;have:=h.dep a.1;have:=h2.dep a.2.1;have:=h3.dep a.2.2;lia
theorem Ab{x y:V}{a b:α}(h:Enc e n)(hn:n<=64)(dx:Dp K H (e a) x)(z:Dp K H (e b) y)(q:Q (.bl<|decide<|a=b) H):yW K x y H Q:=
 ⟨_,_,dx,z,h.lay a,h.lay b,cW (h.dep a) hn,by rw[h.eq];exact q⟩
end
theorem Eb{xs:List Int}(h:aD K H a<|xs.map V.int):Dp K H (.list<|xs.map SD)<|.ref a:=Jr h<|aR.ints xs
section
variable {R:Bool->Prop}
theorem vK{x c:V}{ty:QM}{b:Bool}(hc:Ib c=true)(t:gX K H x ty)(k:Rq K ty (cval c)=some b)(q:R b):L2.X4 λz c' ty b=>[x,c]=[z,c']/\Ib c'=true/\gX K H z ty/\Rq K ty (cval c')=some b/\R b:=⟨x,c,ty,b,rfl,hc,t,k,q⟩
theorem zC(q:R true):L2.X4 λz c' ty b=>[V.int i,V.ty "int"]=[z,c']/\Ib c'=true/\gX K H z ty/\Rq K ty (cval c')=some b/\R b:=vK rfl (.int i) (zu rfl) q
theorem rX(k:Rq K (.type "int") (.type "bool")=some false)(q:R false):L2.X4 λz c' ty b=>[V.int i,V.ty "bool"]=[z,c']/\Ib c'=true/\gX K H z ty/\Rq K ty (cval c')=some b/\R b:=vK rfl (.int i) k q
end
structure gD(K:W.Frag)(x qual:Q3)(st:Q9)(f:QK)(fd:RX)(dv:List QM):Prop where
 ex:∃(oc:QM) (od:Option QK) (T:QK) (kV doc pm:QM) (an:Option QK) (cdv ct:QM) (osl:Array<|Option QM),
  fd=W.fnOf x qual (AY st) (xX st) (aZ st) (.ref T) kV doc pm an cdv ct/\K.lookup f=some ⟨oc,od,.func fd,osl⟩/\W.codeIn K cdv qual=true/\∃o n,K.lookup T=some o/\o.data=.seq dv.toArray n
 kp:W.keepIn K (.ref f)=true
section
variable {mg:Q3->Option QM}
theorem gD.ok{st:Q9}{f:QK}{fd:RX}{N:List Q3}{sp:Sp}(F:gD K x qual st f fd dv)(S:aA N ps<|aZ st)(len:∀vs H Q E,sp vs H Q E->vs.length=ps.length)
  (J:∀(z:QM) (A:Rm) (outer:List UR) (s:QO) (H:Hp) (vs:List V) (Q:VK) (E:XK),bO k (A.deeper<|Ue qual (aZ st) s.heap.objs.size f z)->sp vs H Q E-> ∃t,nM (sQ aC P w K mg base N qual (aZ st) f z A outer s H E).WS (xX st) t/\t { nx:=λ_ H'=>Q .VA H',rt:=Q } (start N vs) H):aF P w K mg base aC (k+1) f fd ps sp:=by
 obtain⟨oc,od,T,kV,aa,pm,an,z,ct,Z,rfl,lk,U,_⟩:=F.ex;refine DU lk U S len λA outer s H vs Q E hr O=>?_;obtain⟨t,h,q⟩:=J z A outer s H vs Q E hr O;exact⟨t,h.WS,q⟩
theorem gD.binds{st:Q9}{f:QK}{fd:RX}{ds:List QM}(F:gD K x qual st f fd dv)
  (h:∀(T:QK) (kV J O:QM) (an:Option QK) (z ct:QM) (us:List QM),(us++ds).length=ps.length->∃k,bindArgs (W.fnOf x qual (AY st) (xX st) (aZ st) (.ref T) kV J O an z ct) ⟨us,[]⟩=seqItems? (.ref T)>>=k/\k (some dv.toArray)=pure (ps.zip<|us++ds)):Binds K fd ps ds:=by
 obtain⟨oc,od,T,kV,J,O,an,z,ct,U,rfl,lk,aa,o,n,hT,Z⟩:=F.ex;intro s us KX hl;obtain⟨k,h1,h2⟩:=h T kV J O an z ct us hl;exact PySem.W.binds_K KX rfl hT Z h1 h2
theorem OJ{st:Q9}{f T:QK}{oc:QM}{od an:Option QK}{O:Array<|Option QM}{kV J pm z ct:QM}{U:QM}{aa:Option QK}{nT:Nat}{Z:Array<|Option QM}(l:K.lookup f=some ⟨oc,od,.func<|W.fnOf x qual (AY st) (xX st) (aZ st) (.ref T) kV J pm an z ct,O⟩)
  (c:W.codeIn K z qual=true) (k:W.keepIn K (.ref f)=true) (t:K.lookup T=some ⟨U,aa,.seq dv.toArray nT,Z⟩):gD K x qual st f (W.fnOf x qual (AY st) (xX st) (aZ st) (.ref T) kV J pm an z ct) dv:=⟨⟨oc,od,T,kV,J,pm,an,z,ct,O,rfl,l,c,_,nT,t,rfl⟩,k⟩
end
structure NV(P:Q6)(w:Rf)(K:W.Frag)(mg:Q3->Option QM)(base:Rv)(CX:tV)(x:Q3)(k:Nat)(ps:List Q3)(sp:Sp)(dvs:List V):Prop where
 ex:∃f fd ds,aF P w K mg base CX k f fd ps sp/\Binds K fd ps ds/\Vals dvs ds/\W.keepIn K (.ref f)=true/\mg x=some (.ref f)
structure J1(P:Q6)(w:Rf)(K:W.Frag)(mg:Q3->Option QM)(base:Rv)(CX:tV)(x:Q3)(C:QK)(k:Nat)(ps:List Q3)(sp:Sp)(dvs:List V):Prop where
 XS:mg x=some (.ref C)
 ex:∃f fd ds,aF P w K mg base CX k f fd ps sp/\Binds K fd ps ds/\Vals dvs ds/\Mk K C f
section
variable {CX:tV}{sp:Sp}{dvs:List V}{E:XK}{m:Q3}{p apos:UG}{e o:Rw}{es:List Rw}{t:TA}
theorem Fc(F:NV X.prog X.w X.K X.mg X.base CX x k ps sp dvs)(O:bO k X.A)(U:Gl X x)(J:xG CX X E)(ha:PA X (e::es) t)(z:(x==("__debug__":Q3))=false:=by decide)(he:QY (e::es) X.env=(false,eval e X.env)::QY es X.env:=by rfl)(VD:(RW pos<|QY es X.env).any (·.1)=false:=by rfl):
  PE X (.Call (.Name x p) (e::es) [] pos)<|Jn sp dvs E t:=by
 obtain⟨f,fd,ds,h1,h2,hv,h3,Z⟩:=F.ex;exact vB h1 O U Z h3 h2 hv J ha z he VD
theorem JA(F:J1 X.prog X.w X.K X.mg X.base CX x C k ps sp dvs)(O:bO (k+1) X.A)(U:Gl X x)(J:xG CX X E)(ha:PA X (e::es) t)(z:(x==("__debug__":Q3))=false:=by decide)(Z:QY (e::es) X.env=(false,eval e X.env)::QY es X.env:=by rfl)(VD:(RW pos<|QY es X.env).any (·.1)=false:=by rfl):
  PE X (.Call (.Name x p) (e::es) [] pos)<|Jo C sp dvs E t:=by
 obtain⟨f,fd,ds,h1,h2,hv,h3⟩:=F.ex;exact vy h3 h1 O U F.XS h2 hv J ha z Z VD
end
section
theorem LK(ns:List Int):∀n,n<=ns.length->preSum (λi=>ns.getD i 0) n=(ns.take n).sum
 |0,_=>by simp[preSum]
 |n+1,h=>by
  show preSum (λi=>ns.getD i 0) n+ns.getD n 0=_;rw[LK ns n<|by lia,Eu];rw[iR,bV (show n<ns.length by lia),List.sum_append];simp
def II(ns:List Int):Prop:=ns.length<=1000/\∀x∈ns,-1000000000<=x/\x<=1000000000
theorem sum_bound:∀(ns:List Int),(∀x∈ns,-1000000000<=x/\x<=1000000000)->-(ns.length*1000000000:Int)<=ns.sum/\ns.sum<=ns.length*1000000000
 |[],_=>by simp
 |x::r,h=>by
  have a:=h x bH;have b:=sum_bound r λy z=>h y<|bK _ z;rw[List.sum_cons,cP];lia
theorem sV(hc:X.calm=true):tF X (.builtin "sum") λxs H Q=>L2.X2 λ(p:QK) (ns:List Int)=>xs=[.ref p]/\aD X.K H p (ns.map V.int)/\II ns/\Q (.int ns.sum) H:=by
 intro pins s σ H xs us Q I r h;obtain⟨p,ns,rfl,hq,hs,q⟩:=h;obtain⟨u,rfl,rx⟩:=xV r;cases rx;obtain⟨its,r',pl,hz⟩:=I.list hq;have J:=r'.length;rw[aM] at J;have hh:X.A.handled=none:=I.ok.hd hc;have hl:=pl.isList;have U:p<s.heap.objs.size:=by obtain⟨_,e,_⟩:=hl;exact QT e
 refine call_sum_walk<|wpAny_pyIter_list hl ⟨s.heap.objs.size,_,_,_,_,_,λi=>ns.getD i 0,rfl,Walks.list (A:=X.A.in1) hh s.heap.objs.size p (lD U) its.toArray,⟨⟨_,Q0 _ rfl,rfl,rfl⟩,hl.push _⟩,λb hb=>?_,λi v hP=>?_,λj hj=>?_,λh' tk t' hk=>?_⟩
 .have aa:b=s.heap.objs.size∨b=p:=by simpa using hb
  show b<(s.heap.push _).objs.size;rw[So];rcases aa with rfl|rfl
  .exact Bl _
  .exact Nat.lt_succ_of_lt U
 .have Z:its[i]?=some v:=by simpa using hP
  have hi:i<its.length:=(cV.mp Z).1;obtain⟨b,hb⟩:∃b,ns[i]?=some b:=⟨_,bV<|by lia⟩
  obtain⟨u,hu,ru⟩:=r'.get (i:=i) (x:=.int b) (by rw[dB,hb];rfl);rw[Z] at hu;cases hu;obtain⟨t,rfl⟩:=ru;refine⟨t,?_⟩;show _=Value.int (ns.getD i 0) t;rw[iR,hb];rfl
 .have O:j<ns.length:=by simp at hj;lia
  have ab:ns.getD j 0∈ns:=by
   rw[iR,bV O];exact SG O
  have b1:=hs.2 _ ab;have b2:=sum_bound (ns.take<|j+1) λy hy=>hs.2 y<|R8 hy;have b3:(ns.take<|j+1).length<=1000:=by rw[kP];have:=hs.1;lia
  rw[LK ns (j+1) O];show(-(2^63)<=ns.getD j 0/\ns.getD j 0<2^63)/\(-(2^63)<=(ns.take<|j+1).sum/\(ns.take<|j+1).sum<2^63);refine⟨⟨by lia,by lia⟩,?_⟩;lia
 .refine ⟨.int ns.sum,H,I.kept (t':=tk) λb o e=>hk b o ?_<|QP _ e,⟨t',?_⟩,q⟩
  .intro z;have:b=s.heap.objs.size:=by simpa using z
   exact absurd (QT e)<|by rw[this];exact Bm _
  .have:its.toArray.size=ns.length:=by simp[J]
   rw[this,LK ns ns.length<|aL _,List.take_length]
theorem yO{h:Rv}{t u v:Tok}(e:h.get? a=some { cls:=.type "range",data:=.fields #[.int lo t,.int hi u,.int 1 v] }):bJ P w H h a<|.rng lo hi:=⟨t,u,v,e⟩
theorem oP:tF X (.type "range") λxs H Q=>∃n:Int,xs=[.int n]/\∀p,H p=none->Q (.ref p) (upd H p<|.rng 0 n):=by
 intro pins s σ H xs us Q I r h;obtain⟨n,rfl,q⟩:=h;obtain⟨u,rfl,z⟩:=xV r;obtain⟨t,rfl⟩:=z;exact call_range_1 ⟨.ref s.heap.objs.size,_,I.laid (λb o e=>QP _ e) (aL _)<|yO<|Q0 _ rfl,rfl,q _<|I.VF.fresh<|aL _⟩
theorem oO:tF X (.type "range") λxs H Q=>L2.X2 λm n:Int=>xs=[.int m,.int n]/\∀p,H p=none->Q (.ref p) (upd H p<|.rng m n):=by
 intro pins s σ H xs us Q I r h;obtain⟨m,n,rfl,q⟩:=h;obtain⟨u,w',rfl,J,z⟩:=FV r;obtain⟨t,rfl⟩:=J;obtain⟨t',rfl⟩:=z;exact call_range_2 ⟨.ref s.heap.objs.size,_,I.laid (λb o e=>QP _ e) (aL _)<|yO<|Q0 _ rfl,rfl,q _<|I.VF.fresh<|aL _⟩
noncomputable def xE(lo hi:Int):List Int:=(QL (hi-lo).toNat).map λi:Nat=>lo+(i:Int)
theorem JY(lo hi:Int):(xE lo hi).length=(hi-lo).toNat:=by unfold xE;rw[aM,cU]
theorem LL{i:Nat}(h:i<(hi-lo).toNat):(xE lo hi)[i]?=some (lo+i):=by unfold xE;rw[dB,uN h];rfl
theorem JZ(hc:X.calm=true):tF X (.type "list") λxs H Q=>L2.X3 λ(p:QK) (lo hi:Int)=>xs=[.ref p]/\H p=some (.rng lo hi)/\(-1000<=lo/\lo<=1000/\-1000<=hi/\hi<=1000)/\∀l,H l=none->Q (.ref l) (upd H l<|.lst<|(xE lo hi).map V.int):=by
 intro pins s σ H xs us Q I r h;obtain⟨p,lo,hi,rfl,hp,hb,q⟩:=h;obtain⟨u,rfl,rx⟩:=xV r;cases rx;obtain⟨t,u,v,e⟩:=I.VF p _ hp;have hh:X.A.handled=none:=I.ok.hd hc;refine call_list_range (n:=(hi-lo).toNat) hh e (small_one (by lia) (by lia) (by lia)<|by lia) (by rw[rangeSize_one];split<;>lia) (by lia) λh' tk J c' Z hS O=>?_;have hz:(xE lo hi).length<=1000*2:=by rw[JY];lia
 refine⟨.ref s.heap.objs.size,_,I.laid (t':=tk) Z (aL _) (o:=.lst<|(xE lo hi).map V.int) ⟨?_,J.toList,c',?_,by simpa using hS⟩,rfl,q _<|I.VF.fresh<|aL _⟩
 .rw [aM];exact cW hz<|by decide
 .have hsz:J.size=(hi-lo).toNat:=O.1;have U:∀(vs:List QM) (k:Nat) (zs:List Int),vs.length=zs.length->(∀(j:Nat) v z,vs[j]?=some v->zs[j]?=some z->∃t,v=Value.int z t)->Vals (zs.map V.int) vs:=by
   intro vs;induction vs with
   |nil=>intro k zs h1 _;cases zs with
    |nil=>exact .nil
    |cons _ _=>cases h1
   |cons v r ih=>intro k zs h1 h2;cases zs with
    |nil=>cases h1
    |cons z zr=>exact .cons (h2 0 v z rfl rfl)<|ih 0 zr (by simpa using h1) λj v' z' a b=>h2 (j+1) v' z' (by simpa using a)<|by simpa using b
  refine U J.toList 0 (xE lo hi) (by rw[JY,Array.length_toList,hsz]) λj v z a b=>?_;have a':J[j]?=some v:=by simpa using a
  obtain⟨t,rfl⟩:=O.2 j v a';have hj:j<(hi-lo).toNat:=by have:=(Array.getElem?_eq_some_iff.mp a').1;lia
  rw[LL hj] at b;cases b;exact⟨t,by rw[Int.mul_one]⟩
theorem MK:tF X (.builtin "sorted") λxs H Q=>L2.X2 λ(p:QK) (ns:List Int)=>xs=[.ref p]/\aD X.K H p (ns.map V.int)/\ns.length<64/\∀(l:QK) (ms:List Int),H l=none->ms.Perm ns->ms.Pairwise (·<=·)->Q (.ref l) (upd H l<|.lst<|ms.map V.int):=by
 intro pins s σ H xs us Q I r h;obtain⟨p,ns,rfl,hq,hn,q⟩:=h;obtain⟨u,rfl,O⟩:=xV r;cases O;obtain⟨its,r',pl,hz⟩:=I.list hq;have J:=r'.length;rw[aM] at J;refine sorted_ints pl.isList (intsAre_of r') (by lia) λout z a1 a2 a3=>?_;obtain⟨e,U⟩:=sortedAll_at s.heap its out;have Z:z.length=ns.length:=a2.length_eq;refine⟨.ref<|s.heap.objs.size+1,_,I.laid (t':=s.toks) (λb o e=>sortedAll_old e) (nN _) (o:=.lst<|z.map V.int) ⟨?_,out.toList,e,LY a1,by simpa using U⟩,rfl,q _ z (I.VF.fresh<|nN _) a2 a3⟩;rw[aM];exact cW (show z.length<=1000 by lia)<|by decide
end
theorem aB.get{b:QK}(s:aB H H')(h:H b=some o):H' b=some o:=s b o h
theorem aT(h:H p=none)(o:HO):∃H',upd H p o=H'/\aB H H'/\H' p=some o:=⟨_,rfl,aV h o,aS⟩
section
variable {pins:List (QK×R6)}
theorem Inv.W5(I:Inv X pins σ H s){ch:List QK}{h':Rv}{t':Nat}(hf:∀b∈ch,mI X pins H b)(k:∀b ob,b∉ch->s.heap.get? b=some ob->h'.get? b=some ob)
  (Z:s.heap.objs.size<=p) (new:bJ X.prog X.w (upd H p o) h' p o):Inv X pins σ (upd H p o) { s with heap:=h',toks:=t' }:=by
 have hn:H p=none:=I.VF.fresh Z;have U:∀b u,H b=some u->b∉ch:=λb u e z=>by rw[(hf b z).1] at e;cases e
 refine I.call (g':=s.gens) (t':=t') (d':=s.drawn) (ch:=ch) ⟨λb ob e n _ J=>k b ob J e,λb ob e n _ J=>⟨ob.slots,k b ob J e⟩,λb ob e n _=>?_,λb ob e J=>⟨ob,k b ob J e⟩,λb xs e=>?_,λb ob u e=>?_,λb qs e=>⟨#[],?_⟩⟩ (λb u e=>?_) I.bare λb O=>?_
 .rw [bF<|lD<|qL (QT e) Z];exact n
 .rw [bF<|bR e hn];exact e
 .rw [bF<|bR e hn];exact e
 .rw [bF<|bR e hn,e];simp
 .by_cases O:b=p
  .subst O;rw[aS] at e;cases e;exact new
  .rw [bF O] at e;refine(I.VF b u e).Wm (λc v hc q=>k c v ?_ q) (λc q=>by rw[bF<|bR q hn];exact q) λc xs q=>by rw[bF<|bR q hn];exact q
   rcases hc with z|z
   .rw [z];exact U b u e
   .exact U c _ z
 .obtain ⟨a1,a2,a3,a4,a5,a6⟩:=hf b O;exact⟨a4,a2,a5,a6⟩
end
noncomputable def Dq(K:W.Frag)(a:QK):It:=
 ⟨λi H=>L2.X2 λxs x=>aD K H a xs/\xs[i]?=some x,λi H v H'=>L2.X2 λp x=>H p=none/\(∀xs,aD K H a xs->xs[i]?=some x)/\H'=upd H p (.tup [.int i,x])/\v=.ref p,λi H=>∃xs,aD K H a xs/\xs.length<=i⟩
theorem wD{af:List Rw}{x1}(a e it:QK)(ad:e≠it):Turn P w K (.Tuple af x1 tpos) (Dq K a) [e,it] e (λi h=>(∃J,IsEnum h e it ((i:Nat):Int) J)/\h.IsListIter it a i) where
 mem:=by simp
 obj:=λi h st b hb=>by
  obtain⟨⟨J,U⟩,o,e2,c,d⟩:=st;have aa:b=e∨b=it:=by simpa using hb
  rcases aa with rfl|rfl
  .exact ⟨_,U,λv z=>by cases z⟩
  .exact ⟨o,e2,λv z=>by rw[d] at z;cases z⟩
 keep:=λi h h' st k=>⟨let ⟨J,U⟩:=st.1;⟨J,k e (by simp) _ U⟩,st.2.at λo q=>k it (by simp) o q⟩
 item:=by
  intro X hP hw hK hc i pins s σ H E I hf st hg;subst hP hw hK;obtain⟨xs,x,hq,hx⟩:=hg;obtain⟨its,rv,p,hz⟩:=I.list hq;obtain⟨u,hu,ru⟩:=rv.get hx;obtain⟨⟨J,U⟩,Z⟩:=st;refine wpAny_pyNext_enum_item U Z p.isList (x:=u) (by simpa using hu) ad λh1 as ab ai au ao=>⟨_,rfl,?_⟩
  refine wpAny_letOwnedTupleGo_enum as λh2 aq O=>?_;replace O:Rg e h1 h2:=O;have ag:e<s.heap.objs.size:=QT U;have ah:h2.get? s.heap.objs.size=some { cls:=.type "tuple",data:=.seq #[.int i s.toks,u] }:=(O.2 _<|EC ag).trans ai;have ac:H s.heap.objs.size=none:=I.VF.fresh<|aL _;refine⟨.ref s.heap.objs.size,upd H s.heap.objs.size<|.tup [.int i,x],I.W5 (ch:=[e,it]) (t':=s.toks+1) hf (λb ob hb q=>?_) (aL _) ?_,rfl,⟨_,x,ac,λys hy=>by rw[I.VU hy hq];exact hx,rfl,rfl⟩,⟨⟨u,?_⟩,?_⟩,λb hb=>?_⟩
  .have ae:b≠e:=λz=>hb (by simp[z]);have am:b≠it:=λz=>hb (by simp[z]);exact(O.2 b ae).trans<|ao b ob ae am q
  .exact ⟨bX (show 2<=1000 by decide),[.int i s.toks,u],.cons ⟨_,rfl⟩<|.cons ru .nil,_,ah,rfl,0,rfl⟩
  .have:((i+1:Nat):Int)=(i:Int)+1:=by push_cast;rfl
   rw[this];exact aq
  .exact ab.at λo q=>(O.2 it<|Q4 ad).trans q
  .have hn:=(hf b hb).1;have aa:b=e∨b=it:=by simpa using hb
   obtain⟨oi,ap,_⟩:=Z;have aj:b<s.heap.objs.size:=by
    rcases aa with rfl|rfl
    .exact ag
    .exact QT ap
   rw[bF<|lD aj];exact hn
 done:=by
  intro X hP hw hK hc i pins s σ H E I hf st hg;subst hP hw hK;obtain⟨xs,hq,hx⟩:=hg;obtain⟨its,rv,p,hz⟩:=I.list hq;obtain⟨⟨J,U⟩,Z⟩:=st;obtain⟨f0,f1,f2,f3,f4,f5⟩:=hf it (by simp);have hl:=rv.length;exact wpAny_pyNext_enum_end (I.ok.hd hc) U Z p.isList (by rw[TH];exact wu<|by lia) λh' eb=>⟨rfl,I.turned (t':=s.toks) (λb o hb e=>eb b o hb e) f0 f1 f3 f4 f5⟩
 self:=λ_ _ _ _ _ st h=>let ⟨_,U⟩:=st.1;wpAny_pyIter_enum U h
section
def zJ(K:W.Frag)(ta:TA):TI:=λσ H R=>ta σ H λvs H1=>∃a,vs=[.ref a]/\(∃xs,aD K H1 a xs)/\R (Dq K a) H1
theorem JJ{J:List Rw}{x1}{l:Rw}{ta:TA}{p:UG}(hg:Gl X "enumerate")(hm:X.mg "enumerate"=none)(ha:PA X [l] ta)(hs:QY [l] X.env=[(false,eval l X.env)]:=by rfl)(hc:X.calm=true:=by rfl):
  PI X (.Tuple J x1 tpos) (.Call (.Name "enumerate" p) [l] [] pos)<|zJ X.K ta:=by
 intro pins s σ H R I h;refine Call_<|D6 I hg hm boot_enumerate<|RB (thn (ha pos pins s σ H _ I h) λus s1 zz=>?_) hs rfl;obtain⟨vs,H1,O,r1,q1⟩:=zz;obtain⟨a,e,⟨xs,hq⟩,q⟩:=q1;subst e;obtain⟨u,rfl,ru⟩:=xV r1;cases ru;obtain⟨its,rv,pl,hz⟩:=O.list hq;refine call_enumerate_list pl.isList λh' he Z hsz hk=>wpAny_pyIter_enum he ?_;have I2:Inv X pins σ H1 { s1 with heap:=h' }:=O.kept (t':=s1.toks) hk;refine⟨s1.heap.objs.size+1,[s1.heap.objs.size+1,s1.heap.objs.size],_,Dq X.K a,H1,rfl,I2,(wD a _ _<|Nat.succ_ne_self _).at hc,⟨⟨_,he⟩,Z⟩,λb hb=>?_,q⟩;have U:b=s1.heap.objs.size+1∨b=s1.heap.objs.size:=by simpa using hb
 have z:s1.heap.objs.size<=b:=by
  rcases U with rfl|rfl
  .exact nN _
  .exact aL _
 exact O.WC z<|O.VF.fresh z
end
section
variable {D:Ends}
def HL(K:W.Frag)(g:TG)(tb:TS)(D:Ends)(σ:St)(x:V)(H1:Hp):Prop:=∃a,[x]=[.ref a]/\(∃xs,aD K H1 a xs)/\∃W:Nat->Nat->St->Hp->Prop,(∃m,W 0 m σ H1)/\∀i m σ H,W i m σ H->
 ((Dq K a).stop i H/\D.nx σ H)∨((Dq K a).go i H/\∃N:St->Hp->Prop,(∀σ' H',N σ' H'->∃m',m'<m/\W (i+1) m' σ' H')/\∀x H',(Dq K a).Wi i H x H'->g x σ H' λσ2 H2=>tb { D with nx:=N,ct:=N,bk:=D.nx } σ2 H2)
theorem yD{t:TE}:ud (zJ K<|mF t iB) g tb D σ H=t σ H (λx H1=>HL K g tb D σ x H1):=rfl
theorem JE(h:aD K H a xs)(z:Nat->St->Hp->Prop)(h0:z 0 σ H)(hl:∀i σ H,i<=xs.length->z i σ H->aD K H a xs)
  (hs:∀(i:Nat) x σ H p,xs[i]?=some x->z i σ H->H p=none->g (.ref p) σ (upd H p<|.tup [.int i,x]) λJ H2=>tb { D with nx:=z<|i+1,ct:=z<|i+1,bk:=D.nx } J H2) (Z:∀σ H,z xs.length σ H->D.nx σ H):HL K g tb D σ (.ref a) H:=by
 refine⟨a,rfl,⟨xs,h⟩,λi m σ H=>m=xs.length-i/\i<=xs.length/\z i σ H,⟨xs.length,by simp,dU _,h0⟩,?_⟩;rintro i m σ H ⟨rfl,hi,p⟩;have q:=hl i σ H hi p;by_cases VH:i<xs.length
 .refine .inr ⟨⟨xs,xs[i],q,by simp[VH]⟩,z<|i+1,λO H' p'=>⟨xs.length-(i+1),by lia,rfl,VH,p'⟩,λx H' y=>?_⟩;obtain⟨U,x',hn,y,rfl,rfl⟩:=y;exact hs i x' σ _ U (y xs q) p hn
 .have e:i=xs.length:=by lia
  subst e;exact .inl ⟨⟨xs,q,aL _⟩,Z σ H p⟩
def HS(K:W.Frag)(g:TG)(tt:TT)(te:TE)(σ0:St)(Q:VK)(x:V)(H1:Hp):Prop:=∃a,[x]=[.ref a]/\(∃xs,aD K H1 a xs)/\∃W:Nat->Nat->List V->St->Hp->Prop,(∃m,W 0 m [] σ0 H1)/\∀i m ys σ H,W i m ys σ H->
 ((Dq K a).stop i H/\ys.length<=sizeLine/\∀p,H p=none->Q (.ref p) (upd H p<|.lst ys))∨
 ((Dq K a).go i H/\ys.length<sizeLine/\∀x H',(Dq K a).Wi i H x H'->g x σ H' λσ2 H2=>tt σ2 H2 λb H3=>if b=true then te σ2 H3 λy H4=>∃m',m'<m/\W (i+1) m' (ys++[y]) σ2 H4 else ∃m',m'<m/\W (i+1) m' ys σ2 H3)
theorem wI{t:TE}:xF k js (zJ K<|mF t iB) g tt te σ H Q=t σ H (λx H1=>HS K g tt te (up k js σ) Q x H1):=rfl
end
noncomputable abbrev FZ(o:R6):HO:=.frz o<|.ext λ_=>True
open Classical in
noncomputable def hid(cl:List<|Q3×QK)(H:Hp):Hp:=λb=>if ∃x,cl.lookup x=some b then none else H b
open Classical in
noncomputable def back(cl:List<|Q3×QK)(H H1:Hp):Hp:=λb=>if ∃x,cl.lookup x=some b then H b else H1 b
noncomputable def ER(N:List Q3)(vs cs:List V):St:=vs.map some++(Q5 (N.length-vs.length-cs.length) none++cs.map some)
noncomputable def HP(P:Q6)(w:Rf)(K:W.Frag)(mg:Q3->Option QM)(base:Rv)(N:List Q3)(qual:Q3)(scope:SQ)(f:QK)(cd:QM)(cl:List<|Q3×QK)(A:Rm)(outer:List UR)(s:QO)(H:Hp):Cx where
 prog:=P
 w:=w
 K:=K
 mg:=mg
 base:=base
 A:=A.deeper<|PySem.W.envX qual scope s.heap.objs.size f cd cl
 N:=N
 s₀:=s
 H₀:=H
 env:=PySem.W.envX qual scope s.heap.objs.size f cd cl
 outer:=outer
 stack:=PySem.W.envX qual scope s.heap.objs.size f cd cl::outer
 ex:=[]
 calm:=true
 fn:=λ_=>false
 pn:=[]
 xe:=λ_ _=>False
def EM(r:V->List V->Hp->VK->Prop)(ta:TE)(t:TA):TE:=λσ H Q=>ta σ H λf H1=>(∃g o,f=.ref g/\H1 g=some (FZ o)/\∃fd,o.data=.func fd)/\t σ H1 λvs H2=>r f vs H2 Q
theorem CD{mg:Q3->Option QM}{N:List Q3}{f:QK}{z:QM}{cl:List<|Q3×QK}{A:Rm}:(HP P w K mg base N qual scope f z cl A outer s H).K=K:=rfl
theorem lkc{k:Q3}{r:List<|Q3×V}:RH k ((z,v)::r)=if k=z then some v else RH k r:=by
 rw[Ey];by_cases h:k=z
 .subst h;simp
 .have:(k==z)=false:=by simpa using h
  rw[this,Z8 h]
theorem MN{f:Q3}{v u:V}:∀{fs:List<|Q3×V},fs.lookup f=some u->(aO f v fs).length=fs.length
 |[],h=>by cases h
 |(g,w)::r,h=>by
  unfold aO;by_cases e:g=f
  .rw [Z9 e];rfl
  .rw [Z8 e,cP,cP];rw[lkc,Z8 λz=>e z.symm] at h;rw[MN h]
structure bG(H:Hp)(a C:QK)(fl:List<|Q3×V):Prop where
 ex:∃dx fs,H a=some (.ins C dx fs)/\fs.length<=50/\∀f,fs.lookup f=fl.lookup f
theorem bG.of(h:H a=some (.ins C dx fl))(hl:fl.length<=50):bG H a C fl:=⟨dx,fl,h,hl,λ_=>rfl⟩
theorem bG.congr{fl':List<|Q3×V}(h:bG H a C fl)(e:∀f,fl.lookup f=fl'.lookup f):bG H a C fl':=let ⟨dx,fs,h1,h2,h3⟩:=h.ex;⟨dx,fs,h1,h2,λf=>(h3 f).trans<|e f⟩
theorem bG.mono(h:bG H a C fl)(s:aB H H'):bG H' a C fl:=let ⟨dx,fs,h1,h2,h3⟩:=h.ex;⟨dx,fs,s _ _ h1,h2,h3⟩
theorem bG.keep(h:bG H a C fl)(s:H' a=H a):bG H' a C fl:=let ⟨dx,fs,h1,h2,h3⟩:=h.ex;⟨dx,fs,s.trans h1,h2,h3⟩
theorem bG.ne{b:QK}(h:bG H a C fl)(J:H b=some o)(n:∀C dx fs,o≠.ins C dx fs):b≠a:=λz=>by
 obtain⟨dx,fs,h1,_⟩:=h.ex;rw[z,h1] at J;exact n _ _ _ (QR J).symm
theorem bG.neN{b:QK}(h:bG H a C fl)(J:H b=none):b≠a:=λz=>by
 obtain⟨dx,fs,h1,_⟩:=h.ex;rw[z,h1] at J;cases J
section
theorem bG.get(h:bG H a C fl)(cl:eO K C)(n:aE K C f)(l:fl.lookup f=some v)(q:Q v H):xo K f (.ref a) H Q:=by
 obtain⟨dx,fs,h1,h2,h3⟩:=h.ex;exact KO h1 cl n ((h3 f).trans l) q
theorem bG.set{Q:Hp->Prop}(h:bG H a C fl)(cl:eO K C)(n:aE K C f)(q:∀H',bG H' a C (aO f v fl)->(∀b,b≠a->H' b=H b)->Q H')(hl:∃u,fl.lookup f=some u):BD K f (.ref a) v H Q:=by
 obtain⟨dx,fs,h1,h2,h3⟩:=h.ex;obtain⟨u,J⟩:=hl;refine LG h1 cl n (by lia)<|q _ ⟨dx,_,aS,?_,λg=>?_⟩ λb z=>bF z
 .rw [MN<|(h3 f).trans J];exact h2
 .rw [lS,lS,h3]
theorem bG.U9{m:Q3}{R:Prop}(h:bG H a C fl)(l:fl.lookup m=none)(q:R):L2.X3 λb dx fs=>V.ref a=.ref b/\H b=some (.ins C dx fs)/\fs.lookup m=none/\R:=by
 obtain⟨dx,fs,h1,h2,h3⟩:=h.ex;exact⟨a,dx,fs,rfl,h1,(h3 m).trans l,q⟩
end
def HU(K:W.Frag)(tv:TE)(rd:V->V->Hp->VK->Prop)(f:Q3)(D:Ends)(σ:St)(x:V)(H1:Hp):Prop:=L2.X5 λa C dx fs v=>x=.ref a/\H1 a=some (.ins C dx fs)/\eO K C/\aE K C f/\fs.lookup f=some v/\
 tv σ H1 λy H2=>rd v y H2 λz H3=>L2.X2 λdx' fs'=>H3 a=some (.ins C dx' fs')/\fs'.length<1000/\D.nx σ (upd H3 a<|.ins C dx'<|aO f z fs')
theorem um{rd:V->V->Hp->VK->Prop}{D:Ends}:vf K ta tv rd f D σ H=ta σ H (λx H1=>HU K tv rd f D σ x H1):=rfl
theorem bG.aug{D:Ends}(h:bG H a C fl)(cl:eO K C)(n:aE K C f)(l:fl.lookup f=some (.int i))
  (q:∀H',bG H' a C (aO f (.int<|i+j) fl)->(∀b,b≠a->H' b=H b)->D.nx σ H'):HU K (tC<|.int j) Ho f D σ (.ref a) H:=by
 obtain⟨dx,fs,h1,h2,h3⟩:=h.ex;refine⟨a,C,dx,fs,_,rfl,h1,cl,n,(h3 f).trans l,i,j,rfl,rfl,dx,fs,h1,by lia,q _ ⟨dx,_,aS,?_,λg=>?_⟩ λb z=>bF z⟩
 .rw [MN<|(h3 f).trans l];exact h2
 .rw [lS,lS,h3]
theorem bZ{Q:Hp->Prop}(h:H a=some (.ins C dx fl))(cl:eO K C)(n:aE K C f)(hl:fl.length<=20)(q:∀H',H' a=some (.ins C dx<|aO f v fl)->(∀b,b≠a->H' b=H b)->Q H'):BD K f (.ref a) v H Q:=
 LG h cl n (by lia)<|q _ aS λb z=>bF z
theorem gQ(h:fl.length<=n):(aO f v fl).length<=n+1:=cW (ML f v fl)<|Nat.succ_le_succ h
theorem CZ:(aO f0 v0 []).length<=20:=cW (gQ<|aL 0)<|by decide
theorem C0:(aO f1 v<|aO f0 v0 []).length<=20:=cW (gQ<|gQ<|aL 0)<|by decide
theorem GR:(aO z O<|aO f1 J<|aO f0 v0 []).length<=20:=cW (gQ<|gQ<|gQ<|aL 0)<|by decide
theorem Jk:(aO U Z<|aO z O<|aO f1 J<|aO f0 v0 []).length<=20:=cW (gQ<|gQ<|gQ<|gQ<|aL 0)<|by decide
theorem yZ:(aO f4 J<|aO f3 v<|aO z Z<|aO f1 O<|aO f0 v0 []).length<=20:=cW (gQ<|gQ<|gQ<|gQ<|gQ<|aL 0)<|by decide
theorem Hs:(aO f v5<|aO f4 O<|aO f3 Z<|aO z v2<|aO f1 v<|aO f0 v0 []).length<=20:=cW (gQ<|gQ<|gQ<|gQ<|gQ<|gQ<|aL 0)<|by decide
theorem Hr:(aO U v6<|aO f v5<|aO f4 O<|aO f3 v3<|aO z v2<|aO f1 Z<|aO f0 v0 []).length<=20:=cW (gQ<|gQ<|gQ<|gQ<|gQ<|gQ<|gQ<|aL 0)<|by decide
theorem Hq{f7:Q3}{v7:V}:(aO f7 v7<|aO U v6<|aO f v5<|aO f4 O<|aO f3 v3<|aO z v2<|aO f1 Z<|aO f0 v0 []).length<=20:=cW (gQ<|gQ<|gQ<|gQ<|gQ<|gQ<|gQ<|gQ<|aL 0)<|by decide
theorem zi(p q:Int):(if q>p then q else p)=max p q:=by split<;>lia
theorem FT(p q:Int):(if q<p then q else p)=min p q:=by split<;>lia
theorem tJ{us ds:List QM}(h:(us++ds).length=ps.length)(e:n+ds.length=ps.length):us.length=n:=by
 rw[aU] at h;lia
def Fr(S:List QK)(H H':Hp):Prop:=∀b o,b∉S->H b=some o->H' b=some o
theorem Fr.refl{S:List QK}:Fr S H H:=λ_ _ _ h=>h
theorem Fr.trans{S:List QK}{H'':Hp}(e:Fr S H H')(f:Fr S H' H''):Fr S H H'':=λb o n h=>f b o n<|e b o n h
theorem aB.fr{S:List QK}(e:aB H H'):Fr S H H':=λb o _ h=>e b o h
theorem Fr.upd{S:List QK}{H:Hp}{l:QK}{o:HO}(h:l∈S):Fr S H<|upd H l o:=λb o' n e=>by
 have z:b≠l:=λz=>n (by rw[z];exact h);rw[bF z];exact e
end L2
namespace L2
open PySem PySem.Spec PyProof.Rows
variable {Q:VK}{y:V}{P:Q6}{o:Option V}{w:Rf}{u:QM}{kvs:List (List Key×V)}{H H':Hp}{h':Rv}{a:QK}{X:Cx}{σ:St}
def G4(K:W.Frag)(t:TA):TE:=λσ H Q=>t σ H λvs H1=>L2.X2 λ(l:QK) (ys:List V)=>vs=[.ref l]/\aD K H1 l ys/\∀r,H1 r=none->Q (.ref r) (upd H1 r<|.lst ys.reverse)
theorem Aa{K:W.Frag}{x:V}{d:Se}(J:Dp K H d x)(O:Dp K H d y)(hc:d.canLay0=true)(z:d.depth<=64)(q:Q (.bl true) H):yW K x y H Q:=
 ⟨d,d,J,O,hc,hc,z,by rw[PySem.SeqAt.eqv_refl d hc];exact q⟩
def FP(g:TG)(tt:TT)(te:TE)(σ0:St)(Q:VK)(x y:V)(H1:Hp):Prop:=L2.X2 λi j:Int=>[x,y]=[.int i,.int j]/\(-(2^62)<=i/\i<2^62/\-(2^62)<=j/\j<2^62)/\D0 i g tt te σ0 Q (j-i).toNat H1
theorem uf{k:Nat}{js:List Nat}{t u:TE}{g:TG}{tt:TT}{te:TE}:xF k js (zH<|mF t<|mF u iB) g tt te σ H Q=t σ H (λx H1=>u σ H1 λy H2=>FP g tt te (up k js σ) Q x y H2):=rfl
noncomputable def Dn(K:W.Frag)(a b:QK):It:=
 ⟨λi H=>L2.X4 λxs x ys y=>aD K H a xs/\xs[i]?=some x/\aD K H b ys/\ys[i]?=some y,λi H v H'=>L2.X3 λp x y=>H p=none/\(∀xs,aD K H a xs->xs[i]?=some x)/\(∀ys,aD K H b ys->ys[i]?=some y)/\H'=upd H p (.tup [x,y])/\v=.ref p,λi H=>L2.X2 λxs ys=>aD K H a xs/\aD K H b ys/\(xs.length<=i∨ys.length<=i)⟩
section
def Cp(K:W.Frag)(ta:TA):TI:=λσ H R=>ta σ H λvs H1=>L2.X2 λa b=>vs=[.ref a,.ref b]/\(∃xs,aD K H1 a xs)/\(∃xs,aD K H1 b xs)/\R (Dn K a b) H1
theorem J2{a b:Nat}(h:a≠b):(a:QK)≠b:=h
end
section
variable {K:W.Frag}{b:QK}{xs ys:List V}{g:TG}{tb:TS}{D:Ends}
def Kf(K:W.Frag)(g:TG)(tb:TS)(D:Ends)(σ:St)(x y:V)(H1:Hp):Prop:=L2.X2 λa b=>[x,y]=[.ref a,.ref b]/\(∃xs,aD K H1 a xs)/\(∃xs,aD K H1 b xs)/\∃W:Nat->Nat->St->Hp->Prop,(∃m,W 0 m σ H1)/\∀i m σ H,W i m σ H->
 ((Dn K a b).stop i H/\D.nx σ H)∨((Dn K a b).go i H/\∃N:St->Hp->Prop,(∀σ' H',N σ' H'->∃m',m'<m/\W (i+1) m' σ' H')/\∀x H',(Dn K a b).Wi i H x H'->g x σ H' λσ2 H2=>tb { D with nx:=N,ct:=N,bk:=D.nx } σ2 H2)
theorem qR{t u:TE}:ud (Cp K<|mF t<|mF u iB) g tb D σ H=t σ H (λx H1=>u σ H1 λy H2=>Kf K g tb D σ x y H2):=rfl
end
section
variable {κ:Type}[DecidableEq κ]
noncomputable def dW(kvs:List<|κ×V)(k:κ):Option V:=(kvs.find? λkv=>decide<|kv.1=k).map (·.2)
noncomputable def putK(kvs:List<|κ×V)(k:κ)(v:V):List<|κ×V:=
 if (kvs.any λkv=>decide<|kv.1=k)=true then kvs.map (λkv=>if kv.1=k then(kv.1,v) else kv) else kvs++[(k,v)]
theorem AI{p:κ×V}{r:List<|κ×V}{k:κ}(e:p.1=k):dW (p::r) k=some p.2:=by simp[dW,GC,e]
theorem AH{p:κ×V}{r:List<|κ×V}{k:κ}(e:¬ p.1=k):dW (p::r) k=dW r k:=by simp[dW,GC,e]
theorem IE(k:κ):∀kvs:List<|κ×V,(kvs.any λz=>decide<|z.1=k)=(dW kvs k).isSome
 |[]=>rfl
 |p::r=>by
  rw[GH];by_cases e:p.1=k
  .simp only[AI e,decide_eq_true e,Bool.true_or,Option.isSome_some]
  .rw [AH e,decide_eq_false e,Bool.false_or];exact IE k r
theorem qM(k j:κ)(y:V):∀kvs:List<|κ×V,dW (kvs.map λJ=>if J.1=k then(J.1,y) else J) j=(dW kvs j).map λx=>if j=k then y else x
 |[]=>rfl
 |p::r=>by
  have O:=qM k j y r;rw[iT];by_cases h:p.1=k
  .rw [Z9 h];by_cases e:p.1=j
   .rw [AI (p:=(p.1,y)) e,AI e,Ex,Z9<|e.symm.trans h]
   .rw [AH (p:=(p.1,y)) e,AH e,O]
  .rw [Z8 h];by_cases e:p.1=j
   .rw [AI (p:=p) e,AI e,Ex,Z8 λz=>h<|e.trans z]
   .rw [AH (p:=p) e,AH e,O]
theorem nQ(k j:κ)(y:V):∀kvs:List<|κ×V,dW kvs k=none->dW (kvs++[(k,y)]) j=if j=k then some y else dW kvs j
 |[],_=>by
  by_cases e:k=j
  .rw [Z9 e.symm];exact AI (p:=(k,y)) e
  .rw [Z8 λz=>e z.symm];exact AH (p:=(k,y)) e
 |p::r,hn=>by
  rw[Et];have J:¬ p.1=k:=λz=>by rw[AI z] at hn;cases hn
  rw[AH J] at hn;have O:=nQ k j y r hn;by_cases e:p.1=j
  .rw [AI e,AI e,Z8 λz=>J<|e.trans z]
  .rw [AH e,AH e,O]
theorem yj(kvs:List<|κ×V)(k j:κ)(y:V):dW (putK kvs k y) j=if j=k then some y else dW kvs j:=by
 unfold putK;by_cases a:(kvs.any λz=>decide<|z.1=k)=true
 .rw [Z9 a,qM];rw[IE] at a;by_cases e:j=k
  .obtain ⟨x,J⟩:=Option.isSome_iff_exists.mp a;rw[Z9 e,e,J,Ex,Z9 rfl]
  .rw [Z8 e];cases dW kvs j with
   |none=>rfl
   |some x=>rw[Ex,Z8 e]
 .rw [Z8 a];refine nQ k j y kvs ?_;rw[IE] at a;cases q:dW kvs k with
  |none=>rfl
  |some x=>rw[q] at a;exact(a rfl).elim
theorem MM(kvs:List<|κ×V)(k:κ)(v:V):(putK kvs k v).length<=kvs.length+1:=by
 unfold putK;split
 .rw [aM];lia
 .rw [aU,cP,yd];lia
theorem gM.WB{u:Option QM}(r:gM o u):o.isSome=u.isSome:=by
 cases o with
 |none=>cases u with
  |none=>rfl
  |some _=>exact(show False from r).elim
 |some _=>cases u with
  |none=>exact(show False from r).elim
  |some _=>rfl
theorem gM.getD{u:Option QM}{d:V}{d':QM}(r:gM o u)(rd:RelV d d'):RelV (o.getD d)<|u.getD d':=by
 cases o with
 |none=>cases u with
  |none=>exact rd
  |some _=>exact(show False from r).elim
 |some _=>cases u with
  |none=>exact(show False from r).elim
  |some _=>exact r
theorem KV.val{kvs:List<|κ×V}{vs:List<|κ×QM}(r:KV kvs vs)(k:κ):gM (dW kvs k)<|UA vs k:=by
 unfold KV at r;induction r with
 |nil=>exact True.intro
 |@cons p q ps qs h t ih=>
  obtain⟨h1,h2⟩:=h;by_cases e:p.1=k
  .have J:q.1=k:=h1.symm.trans e;have b:UA (q::qs) k=some q.2:=by simp[UA,GC,J]
   rw[AI e,b];exact h2
  .have J:¬ q.1=k:=λz=>e<|h1.trans z;have b:UA (q::qs) k=UA qs k:=by simp[UA,GC,J]
   rw[AH e,b];exact ih
theorem KV.any{kvs:List<|κ×V}{vs:List<|κ×QM}(r:KV kvs vs)(k:κ):(kvs.any λz=>decide<|z.1=k)=vs.any λz=>decide (z.1=k):=by
 unfold KV at r;induction r with
 |nil=>rfl
 |cons h t ih=>rw[GH,GH,ih,h.1]
theorem KV.Xd{kvs:List<|κ×V}{vs:List<|κ×QM}(r:KV kvs vs)(k:κ)(O:RelV y u):
  KV (kvs.map λJ=>if J.1=k then(J.1,y) else J)<|vs.map λJ=>if J.1=k then(J.1,u) else J:=by
 unfold KV at r⊢;induction r with
 |nil=>exact .nil
 |@cons p q ps qs h t ih=>
  rw[iT,iT];refine .cons ?_ ih;obtain⟨h1,h2⟩:=h;by_cases e:p.1=k
  .rw [Z9 e,Z9<|h1.symm.trans e];exact⟨h1,O⟩
  .rw [Z8 e,Z8 λz=>e<|h1.trans z];exact⟨h1,h2⟩
theorem KV.put{kvs:List<|κ×V}{vs:List<|κ×QM}(r:KV kvs vs)(k:κ)(z:RelV y u):KV (putK kvs k y)<|stored vs k u:=by
 unfold putK stored;rw[r.any k];by_cases e:(vs.any λJ=>decide<|J.1=k)=true
 .rw [Z9 e,Z9 e];exact r.Xd k z
 .rw [Z8 e,Z8 e];exact Paired.snoc r ⟨rfl,z⟩
theorem KV.length{kvs:List<|κ×V}{vs:List<|κ×QM}(r:KV kvs vs):kvs.length=vs.length:=Us r
end
theorem Jf{k:Key}(r:RelV (kV k) u):(gK P w).is k u=true:=by
 cases k with
 |inl i=>obtain⟨t,e⟩:=(show ∃t,u=Value.int i t from r);subst e;exact rT P w i t
 |inr x=>obtain⟨t,e⟩:=(show ∃t,u=Value.str x t from r);subst e;exact rS P w x t
theorem oH{P:Q6}{w:Rf}:∀{ks:List Key} {us:List QM},Vals (ks.map kV) us->ItemsAre (gK P w) ks us
 |[],_,r=>by rw[Dz] at r;cases r;exact .nil
 |k::ks,_,r=>by
  rw[iT] at r;cases r with
  |cons h t=>exact .cons (Jf h)<|oH t
noncomputable abbrev KT(H:Hp):List (List Key×V)->List (List Key×QK×QM)->Prop:=Paired λp q=>p.1=q.1/\H q.2.1=some (.tup<|p.1.map kV)/\RelV p.2 q.2.2
theorem KT.val{xs:List<|List Key×QK×QM}(r:KT H kvs xs)(k:List Key):gM (dW kvs k)<|(U7 xs k).map (·.2):=by
 induction r with
 |nil=>exact True.intro
 |@cons p q ps qs h t ih=>
  obtain⟨h1,_,h2⟩:=h;by_cases e:p.1=k
  .have J:q.1=k:=h1.symm.trans e;have b:U7 (q::qs) k=some q.2:=by simp[U7,GC,J]
   rw[AI e,b];exact h2
  .have J:¬ q.1=k:=λz=>e<|h1.trans z;have b:U7 (q::qs) k=U7 qs k:=by simp[U7,GC,J]
   rw[AH e,b];exact ih
theorem KT.Xd{xs:List<|List Key×QK×QM}(r:KT H kvs xs)(k:List Key)(O:RelV y u):
  KT H (kvs.map λJ=>if J.1=k then(J.1,y) else J)<|xs.map<|putAt k u:=by
 induction r with
 |nil=>exact .nil
 |@cons p q ps qs h t ih=>
  rw[iT,iT];refine .cons ?_ ih;obtain⟨h1,h2,h3⟩:=h;unfold putAt;by_cases e:p.1=k
  .rw [Z9 e,Z9<|h1.symm.trans e];exact⟨h1,h2,O⟩
  .rw [Z8 e,Z8 λz=>e<|h1.trans z];exact⟨h1,h2,h3⟩
theorem KT.put{xs:List<|List Key×QK×QM}(r:KT H kvs xs)(k:List Key){b:QK}(O:H b=some (.tup<|k.map kV))(z:RelV y u):
  KT H (putK kvs k y)<|storedH xs k b u:=by
 have e:(kvs.any λJ=>decide<|J.1=k)=(U7 xs k).isSome:=by
  rw[IE,(r.val k).WB,Option.isSome_map]
 unfold putK storedH;rw[e];by_cases q:(U7 xs k).isSome=true
 .rw [Z9 q,Z9 q];exact r.Xd k z
 .rw [Z8 q,Z8 q];exact Paired.snoc r ⟨rfl,O,z⟩
theorem KT.keeps{xs:List<|List Key×QK×QM}(r:KT H kvs xs)(J:∀b ys,H b=some (.tup ys)->H' b=some (.tup ys)):KT H' kvs xs:=
 Paired.Xg r λ_ _ z=>⟨z.1,J _ _ z.2.1,z.2.2⟩
section
variable {h:Rv}
theorem DH{u:HO}(ok:iQ P w H h)(e:Rd H a u):bJ P w H h a u:=e.ok ok
theorem Ja{kvs:List<|Key×V}(ok:iQ P w H h)(e:Rd H a<|.dK kvs):kvs.length<=sizeLine/\(a==Sk)=false/\∃vs,KV kvs vs/\h.DictOf (gK P w) a vs:=
 show bJ P w H h a (.dK kvs) from DH ok e
theorem HN{kvs:List<|Key×V}(ok:iQ P w H h)(e:H a=some (.dK kvs)):kvs.length<=sizeLine/\(a==Sk)=false/\∃vs,KV kvs vs/\h.DictOf (gK P w) a vs:=Ja ok<|.inl e
theorem Jt{ks:List Key}(ok:iQ P w H h)(e:H a=some (.tup<|ks.map kV)):(Rn<|gK P w).is h ks a:=by
 obtain⟨_,its,r,o,h1,h2,n,h3⟩:=(show bJ P w H h a (.tup<|ks.map kV) from ok a _ e)
 exact⟨o,its.toArray,n,h1,h2,h3,by simpa using oH r⟩
theorem Jb(ok:iQ P w H h)(e:Rd H a<|.dT kvs):kvs.length<=sizeLine/\(a==Sk)=false/\
  ∃xs,KT H kvs xs/\h.DictOfH (Rn<|gK P w) a xs:=by
 obtain⟨z,y,xs,r,o,es,ep,h1,h2,h3,U,O⟩:=(show bJ P w H h a (.dT kvs) from DH ok e)
 refine⟨z,y,xs,r,o,es,ep,h1,h2,h3,U,λx J=>?_,O⟩;have all:∀{l:List<|List Key×V} {m:List<|List Key×QK×QM},KT H l m->∀x∈m,(Rn<|gK P w).is h x.1 x.2.1:=by
  intro l m q;induction q with
  |nil=>intro x J;exact nomatch J
  |@cons p q ps qs hq t ih=>
   intro x J;rcases cL.mp J with e|J
   .subst e;exact Jt ok<|by rw[<- hq.1];exact hq.2.1
   .exact ih x J
 exact all r x J
theorem DX(ok:iQ P w H h)(e:H a=some (.dT kvs)):kvs.length<=sizeLine/\(a==Sk)=false/\
  ∃xs,KT H kvs xs/\h.DictOfH (Rn<|gK P w) a xs:=Jb ok<|.inl e
end
def mJ(H:Hp)(a:QK)(y:V)(r:Option V):Prop:=
 (∃kvs k,Rd H a (.dK kvs)/\y=kV k/\r=dW kvs k)∨∃kvs k b,Rd H a (.dT kvs)/\y=.ref b/\H b=some (.tup<|k.map kV)/\r=dW kvs k
def uK(H:Hp)(a:QK)(y v:V)(H':Hp):Prop:=
 (∃kvs k,H a=some (.dK kvs)/\y=kV k/\kvs.length<sizeLine/\H'=upd H a (.dK<|putK kvs k v))∨
 ∃kvs k b,H a=some (.dT kvs)/\y=.ref b/\H b=some (.tup<|k.map kV)/\kvs.length<sizeLine/\H'=upd H a (.dT<|putK kvs k v)
theorem mJ.t{b:QK}{k:List Key}(e:H a=some (.dT kvs))(z:H b=some (.tup<|k.map kV)):mJ H a (.ref b)<|dW kvs k:=.inr ⟨kvs,k,b,.inl e,rfl,z,rfl⟩
theorem uK.t{b:QK}{k:List Key}{v:V}(e:H a=some (.dT kvs))(z:H b=some (.tup<|k.map kV))(hl:kvs.length<sizeLine):
  uK H a (.ref b) v<|upd H a<|.dT<|putK kvs k v:=.inr ⟨kvs,k,b,e,rfl,z,hl,rfl⟩
section
variable {pins:List (QK×R6)}{s:QO}{v:V}{r:QM}{A:Rm}{E:QM->QO->Prop}
theorem Inv.big(I:Inv X pins σ H s):Sk<s.heap.objs.size:=by
 have h:QV<s.heap.objs.size:=(I.mod.glob.keeps I.bk).lt;exact Nat.lt_trans (by decide) h
theorem xv{Q:QM->QO->Prop}(hu:A.units+1<UT)(I:Inv X pins σ H s)(g:mJ H a y<|some v)(ry:RelV y u)(h:∀w' s',Inv X pins σ H s'->RelV v w'->Q w' s'):
  QX (QZ X.prog X.w) A (UX (.ref a) u) Q E s:=by
 rcases g with ⟨kvs,k,e,ey,l⟩|⟨kvs,k,b,e,ey,eb,l⟩
 .subst ey;obtain⟨z,hd,vs,O,Z⟩:=Ja I.VF e;obtain⟨w',hw,J⟩:=gM.some_of (v:=v) (o:=UA vs k) (by rw[l];exact O.val k);exact wpAny_getItem_of (Jf ry) Z.mapOf hw<|h w' _ (I.tok _) J
 .subst ey;cases(show u=Value.ref b from ry);obtain⟨z,hd,xs,O,Z⟩:=Jb I.VF e;obtain⟨w',hw,J⟩:=gM.some_of (v:=v) (o:=(U7 xs k).map (·.2)) (by rw[l];exact O.val k);obtain⟨p,hp,U⟩:=EE.mp hw;refine wpAny_getItem_heap (Uu hu) (Jt I.VF eb) Z hp ?_;rw[U];exact h w' _ (I.tok _) J
theorem vY{t':Nat}{ob:HO}(I:Inv X pins σ H s)(J:IM<|H a)(U:Rg a s.heap h')(Z:∃q,h'.get? a=some q)(new:bJ X.prog X.w (upd H a ob) h' a ob):
  Inv X pins σ (upd H a ob) { s with heap:=h',toks:=t' }:=
 I.write (x:=a) (e:=a) J (.inl rfl) (λb q O z=>(U.2 b O).trans z) Z new
theorem FO{kvs:List<|Key×V}{vs:List<|Key×QM}(z:kvs.length<=sizeLine)(O:(a==Sk)=false)(J:KV kvs vs)(U:h'.DictOf (gK P w) a vs):
  bJ P w H' h' a<|.dK kvs:=⟨z,O,vs,J,U⟩
theorem xu{Q:Unit->QO->Prop}(hu:A.units+1<UT)(I:Inv X pins σ H s)(g:uK H a y v H')(ry:RelV y u)(rv:RelV v r)(h:∀s',Inv X pins σ H' s'->Q () s'):
  QX (QZ X.prog X.w) A (setItem (.ref a) u r) Q E s:=by
 rcases g with ⟨kvs,k,e,ey,l,eH⟩|⟨kvs,k,b,e,ey,eb,l,eH⟩
 .subst ey eH;obtain⟨z,hd,vs,J,Z⟩:=HN I.VF e;have hz:vs.length<=sizeLine:=by rw[<- J.length];exact z
  have hl:(putK kvs k v).length<=sizeLine:=by have:=MM kvs k v;lia
  refine wpAny_setItem_pairs (hsz:=hz) (Jf ry) Z λh' O hs=>h _ ?_;have he:∃q,h'.get? a=some q:=let ⟨q,_,_,U,_⟩:=O;⟨q,U⟩
  exact vY I (by rw[e];exact True.intro) hs he<|FO hl hd (J.put k rv) O
 .subst ey eH;cases(show u=Value.ref b from ry);obtain⟨z,hd,xs,J,Z⟩:=DX I.VF e;have hz:xs.length<=sizeLine:=by rw[<- Us J];exact z
  have hl:(putK kvs k v).length<=sizeLine:=by have:=MM kvs k v;lia
  refine wpAny_setItem_heap (hsz:=hz) (Uu hu) (Jt I.VF eb) Z λh' O hs=>h _ ?_;obtain⟨q,es,ep,U,h2,h3,h4,_,h5⟩:=O;refine vY I (by rw[e];exact True.intro) hs ⟨q,U⟩ ⟨hl,hd,_,(J.put k eb rv).keeps λc ys ec=>?_,q,es,ep,U,h2,h3,h4,h5⟩;rw[bF<|HG ec e λz=>nomatch z];exact ec
end
def IL(i:Rw):Prop:=∀ov iv,subscripted i false ov iv=operate [ov,iv] (UX ov iv)
theorem Bz{prog:Q6}{A:Rm}{E:QM->QO->Prop}{s:QO}{env:UR}{value z:Rw}{pos:UG}{T id:String}{Q:QM->QO->Prop}
  (hl:typeLookup (.type T) "__getitem__"=pure (some<|.builtin id)) (hs:IL z)
  (h:QX (QZ prog w) A (eval value env) (λo s₁=>QX (QZ prog w) A (eval z env) (λi s₂=>s₂.TypeIs o T/\QX (QZ prog w) A (UX o i) Q E s₂) E s₁) E s):
  QX (QZ prog w) A (eval (.Subscript value z pos) env) Q E s:=by
 refine Subscript_<|Rk h (λo s₁ U=>Rk U (λi s₂ J=>?_) λ_ _ x=>x) λ_ _ x=>x;obtain⟨hT,J⟩:=J;unfold subscriptTail;refine QJ ?_;rw[getitemInPython_of_ne hT.not_modules];refine QJ<|T1 hT hl ?_;have fin:QX (QZ prog w) A (subscripted z false o i) (λr O=>QX (QZ prog w) A (letTemporaryGo value o r>>=λ_=>pure r) Q E O) E s₂:=by
  rw[hs o i];exact wpAny_operating<|Rk J (λr O Z=>QJ<|wpAny_letTemporaryGo<|QS Z) λ_ _ x=>x
 first
  |exact QS<|QJ fin
  |exact QJ<|QS<|QJ fin
  |exact QJ fin
theorem sP{pins:List<|QK×R6}{s:QO}(I:Inv X pins σ H s)(g:mJ H a y o):s.TypeIs (.ref a) "dict":=by
 rcases g with ⟨kvs,k,e,_,_⟩|⟨kvs,k,b,e,_,_,_⟩
 .obtain ⟨_,_,vs,_,z⟩:=Ja I.VF e;exact z.typeIs
 .obtain ⟨_,_,xs,_,z⟩:=Jb I.VF e;exact z.typeIs
def DE(td ty:TE):TE:=λσ H Q=>td σ H λx H1=>ty σ H1 λy H2=>L2.X2 λa v=>x=.ref a/\mJ H2 a y (some v)/\Q v H2
def J4(ty td:TE):TE:=λσ H Q=>ty σ H λy H1=>td σ H1 λx H2=>L2.X2 λa o=>x=.ref a/\mJ H2 a y o/\Q (.bl o.isSome) H2
def Bx(ty td:TE):TE:=λσ H Q=>ty σ H λy H1=>td σ H1 λx H2=>L2.X2 λa o=>x=.ref a/\mJ H2 a y o/\Q (.bl<|!o.isSome) H2
def DG(td ty tv:TE):TS:=λD σ H=>tv σ H λv H1=>td σ H1 λx H2=>ty σ H2 λy H3=>L2.X2 λa H4=>x=.ref a/\uK H3 a y v H4/\D.nx σ H4
section
variable {o i e value:Rw}{pos pos' tpos:UG}{td ty tv:TE}
theorem vA(hu:X.A.units+1<UT)(ho:PE X o td)(hi:PE X i ty)(hs:IL i):PE X (.Subscript o i pos)<|DE td ty:=by
 intro pins s σ H Q I h;refine Bz PySem.F.slot_dict_getitem.lookup hs<|thn (ho pins s σ H _ I h) λu s1 J=>?_;obtain⟨x,H1,Z,rx,U⟩:=J;refine thn (hi pins s1 σ H1 _ Z U) λiv s2 J=>?_;obtain⟨y,H2,O,ry,a,v,ex,g,q2⟩:=J;subst ex;obtain rfl:u=Value.ref a:=rx;exact⟨sP O g,xv hu O g ry λw' s3 I3 z=>⟨v,H2,I3,z,q2⟩⟩
theorem K0(hu:X.A.units+1<UT)(Z:PE X o td)(hi:PE X i ty)(hv:PE X value tv)(hs:TL value (some<|.Subscript o i pos') pos.line X.env=pure false):
  PS X (.Assign [.Subscript o i pos'] value pos)<|DG td ty tv:=by
 intro pins s σ H D I h;refine wpAny_Assign_Subscript (thn (hv pins s σ H _ I h) λr s1 z=>?_) hs;obtain⟨v,H1,U,rv,J⟩:=z;refine thn (Z pins s1 σ H1 _ U J) λu s2 z=>?_;obtain⟨x,H2,I2,rx,q2⟩:=z;refine thn (hi pins s2 σ H2 _ I2 q2) λiv s3 z=>?_;obtain⟨y,H3,I3,ry,a,H4,ex,g,q3⟩:=z;subst ex;obtain rfl:u=Value.ref a:=rx;exact xu hu I3 g ry rv λs4 O=>⟨σ,H4,O,q3⟩
end
theorem Ae(h:Rv)(z:Sk<h.objs.size):bJ P w H (h.push { cls:=.type "dict",data:=.dict #[] }) h.objs.size<|.dT []:=
 ⟨dU _,beq_eq_false_iff_ne.mpr<|Q4<|lD z,[],.nil,_,#[],0,Q0 _ rfl,⟨rfl,rfl,rfl⟩,rfl,rfl,List.nodup_nil⟩
def yE:TE:=λ_ H Q=>∀p,H p=none->Q (.ref p) (upd H p<|.dT [])
section
variable {pos:UG}
theorem y8:PE X (.Dict [] [] pos) yE:=λpins s σ H Q I h=>
 wpAny_Dict_empty ⟨.ref s.heap.objs.size,_,I.laid (a:=s.heap.objs.size) (o:=.dT []) (t':=s.toks) (λ_ _ q=>QP _ q) (aL _)<|Ae s.heap I.big,rfl,h _<|I.VF.fresh<|aL _⟩
end
inductive DK:V->List V->Hp->VK->Prop
 |mk (a y o:_):x_=.ref a->N=[y]->mJ Y a y o->M (o.getD .VA) Y->DK x_ N Y M
theorem B1(hu:X.A.units+1<UT):NU X "dict.get" DK:=by
 intro pins s σ H x vs v us Q I rx rv h;obtain⟨a,y,o,rfl,rfl,g,q⟩:=h;cases rx;obtain⟨u,rfl,ry⟩:=rv.one;rcases g with ⟨kvs,k,e,Z,l⟩|⟨kvs,k,b,e,Z,eb,l⟩
 .subst Z;obtain⟨z,U,vs,J,O⟩:=Ja I.VF e;refine call_meetsIn Th O.typeIs PySem.F.entry_dict_get (PySem.F.args_dict_get_2 _ _) (meets_dict_get (gK X.prog X.w) a (Jf ry) U) ⟨_,O.mapOf,?_⟩;subst l;exact⟨_,H,I.tok _,(J.val k).getD (d:=.VA) (d':=.none) rfl,q⟩
 .subst Z;cases(show u=Value.ref b from ry);obtain⟨z,U,xs,J,O⟩:=Jb I.VF e;refine call_meetsIn Th O.typeIs PySem.F.entry_dict_get (PySem.F.args_dict_get_2 _ _) (meetsH_dict_get (Rn<|gK X.prog X.w) a b U) ⟨Uu hu,k,xs,Jt I.VF eb,O,?_⟩;subst l;exact⟨_,H,I.tok _,(J.val k).getD (d:=.VA) (d':=.none) rfl,q⟩
theorem zw{h:Rv}{ks:List Key}(m:∀b o,h.get? b=some o->h'.get? b=some o)(k:(Rn<|gK P w).is h ks a):(Rn<|gK P w).is h' ks a:=by
 obtain⟨o,its,n,h1,r⟩:=k;exact⟨o,its,n,m _ _ h1,r⟩
end L2
namespace PySem
variable {i2 l1 l2:QK}{k:Nat}{xs ys:Array QM}{c0 c1:QM}
noncomputable abbrev pD(hp:Rv)(zo ti to:QK)(f0 f1:QM):Prop:=
 hp.get? zo=some { cls:=.type "zip",dict:=none,data:=.fields #[f0,f1,.bool false,.ref ti,.ref to],slots:=#[] }
def F0(f:QM):Prop:=f=.none∨∃a t,f=.int a t
section
variable {prog:Q6}{w:Rf}{A:Rm}{E:QM->QO->Prop}{s:QO}{zo ti to:QK}{f0 f1:QM}
theorem xD{a:QK}{Q:Option R6->QO->Prop}(q:Q (s.heap.get? a) s):QX (QZ prog w) A (loadIfAlive a) Q E s:=λΓ p z=>by
 unfold loadIfAlive;rw[Sem.wp_loadIfAlive];exact QS (M:=QZ prog w) (A:=A) (E:=E) q Γ p z
theorem zfree{Q:Bool->QO->Prop}(J:pD s.heap zo ti to f0 f1)(Z:F0 f0)(h1:Q true s)(h2:∀z g1,pD z zo ti to f0 g1->Rg zo s.heap z->Q false { s with heap:=z }):
  QX (QZ prog w) A (RK<|.ref zo) Q E s:=by
 unfold RK;refine QJ<|RQ J rfl (x:=f0) rfl ?_;rcases Z with rfl|⟨a,t,rfl⟩
 .exact QS h1
 .dsimp only;refine QJ<|xD ?_;by_cases ha:(s.heap.get? a.toNat).isNone=true
  .rw [Z9 ha];exact QS h1
  .rw [Z8 ha];refine QJ<|RQ J rfl (x:=f1) rfl ?_;by_cases hb:(f1 !=Value.bool true)=true
   .rw [Z9 hb];exact QJ<|RD J (by simp) λz U O=>QS<|h2 z _ U O
   .rw [Z8 hb];exact QS<|h2 s.heap f1 J<|UJ _ _
theorem wq{O:QK}{x y:QM}{Q:QM->QO->Prop}(D:UE zo ti to O i2 l1 l2)
  (qz:pD s.heap zo ti to f0 f1) (hf:F0 f0) (qT:Sg s.heap ti (.ref O)<|.ref i2) (qO:Sg s.heap to c0 c1)
  (h1:s.heap.IsListIter O l1 k) (h2:s.heap.IsListIter i2 l2 k) (aa:s.heap.IsList l1 xs) (ab:s.heap.IsList l2 ys) (hx:xs[k]?=some x) (hy:ys[k]?=some y)
  (q:∀(hp:Rv) (p:QK) (g0 g1 d0 d1:QM),pD hp zo ti to g0 g1->F0 g0->Sg hp to d0 d1->hp.IsListIter O l1 (k+1)->hp.IsListIter i2 l2 (k+1)->Sg hp p x y->p=s.heap.objs.size->(∀c o,c≠zo->c≠to->c≠O->c≠i2->s.heap.get? c=some o->hp.get? c=some o)->Q (.ref p) { s with heap:=hp }):
  QX (QZ prog w) A (TY.«zip.__next__» ⟨[.ref zo],[]⟩) (λfin s'=>∃v,fin=.done (.ret v)/\Q v s') E s:=by
 show QX _ _ (field (.ref zo) 2>>=_) _ _ _;refine QJ<|RQ qz rfl (x:=.bool false) rfl ?_;show QX _ _ (field (.ref zo) 3>>=_) _ _ _;refine QJ<|RQ qz rfl (x:=.ref ti) rfl ?_;refine QJ<|Sj qT rfl ?_;show QX _ _ (RK (.ref zo)>>=_) _ _ _;refine QJ<|zfree qz hf ?_ ?_
 .simp only[if_true];refine QJ<|Ut<|QJ<|RQ qz rfl (x:=.ref to) rfl<|QJ<|RD qz (by simp) λe1 z1 b1=>?_;replace z1:pD e1 zo ti to .ellipsis f1:=z1;simp only[List.zipIdx_cons,List.zipIdx_nil,List.forIn_cons,GD];refine QJ<|QJ<|QJ<|Up ?_;show QX _ _ (Ru (.ref O)>>=λv=>pure<|some v) _ _ _;refine QJ<|RI (h1.extBut b1.extBut D.i1z) (aa.extBut b1.extBut D.l1z) hx λe2 t2 z=>QS ?_;have o2:Sg e2 to c0 c1:=z.extBut _ _ D.TOi1<|b1.extBut _ _ D.TOz qO;refine QJ<|Sj o2 rfl<|QJ<|Uc o2 λe3 o3 U=>QJ<|wpAny_letGo<|QS ?_;replace o3:Sg e3 to x c1:=o3;refine QJ<|QJ<|Up ?_;show QX _ _ (Ru (.ref i2)>>=λv=>pure<|some v) _ _ _;refine QJ<|RI (((h2.extBut b1.extBut D.i2z).extBut z.extBut D.i12.symm).extBut U.extBut D.TOi2.symm) (((ab.extBut b1.extBut D.l2z).extBut z.extBut D.l2i1).extBut U.extBut D.l2TO) hy λe4 t4 J=>QS ?_;have o4:Sg e4 to x c1:=J.extBut _ _ D.TOi2 o3;refine QJ<|Sj o4 rfl<|QJ<|Uc o4 λe5 o5 b5=>QJ<|wpAny_letGo<|QS<|QS ?_;replace o5:Sg e5 to x y:=o5;refine QJ<|Sj o5 rfl<|QJ<|U1 ?_;replace z:Rg O e1 e2:=z;replace U:Rg to e2 e3:=U;replace J:Rg i2 e3 e4:=J;replace b5:Rg to e4 e5:=b5;have sz:e5.objs.size=s.heap.objs.size:=by rw[b5.1,J.1,U.1,z.1,b1.1]
  have z5:pD e5 zo ti to .ellipsis f1:=b5.extBut _ _ D.TOz.symm<|J.extBut _ _ D.i2z.symm<|U.extBut _ _ D.TOz.symm<|z.extBut _ _ D.i1z.symm z1;have k5:∀c o,c≠zo->c≠to->c≠O->c≠i2->s.heap.get? c=some o->e5.get? c=some o:=λc o n1 n2 n3 n4 e=>b5.extBut _ _ n2<|J.extBut _ _ n4<|U.extBut _ _ n2<|z.extBut _ _ n3<|b1.extBut _ _ n1 e;have t5:e5.IsListIter O l1<|k+1:=((t2.extBut U.extBut D.TOi1.symm).extBut J.extBut D.i12).extBut b5.extBut D.TOi1.symm;have u5:e5.IsListIter i2 l2<|k+1:=t4.extBut b5.extBut D.TOi2.symm;have lz:zo<e5.objs.size:=QT z5;show QX _ _ (Um (.ref zo) (.ref e5.objs.size)>>=_) _ _ _;refine QJ ?_;unfold Um;have z6:pD (e5.push { cls:=.type "tuple",data:=.seq #[x,y] }) zo ti to .ellipsis f1:=QP _ z5;refine QJ<|RD z6 (by simp) λe7 z7 b7=>RD z7 (by simp) λe8 z8 b8=>QS ⟨_,rfl,?_⟩;replace z8:pD e8 zo ti to (rawInt e5.objs.size)<|.bool false:=z8;replace b7:Rg zo (e5.push { cls:=.type "tuple",data:=.seq #[x,y] }) e7:=b7;replace b8:Rg zo e7 e8:=b8;have up:∀c o,c≠zo->e5.get? c=some o->e8.get? c=some o:=λc o n e=>b8.extBut _ _ n<|b7.extBut _ _ n<|QP _ e;exact q e8 e5.objs.size _ _ x y z8 (.inr ⟨_,_,rfl⟩) (up _ _ D.TOz o5) (t5.at λo e=>up _ o D.i1z e) (u5.at λo e=>up _ o D.i2z e) (b8.extBut _ _ (EC lz)<|b7.extBut _ _ (EC lz)<|Q0 _ rfl) sz λc o n1 n2 n3 n4 e=>up c o n1<|k5 c o n1 n2 n3 n4 e
 .intro hp g1 ac Z;simp only[Dy,if_false];simp only[<- Ub,List.forIn_cons,GD];refine QJ<|QJ<|QJ<|Rh ?_;show QX _ _ (Ru (.ref O)>>=λv=>pure<|some v) _ _ _;refine QJ<|RI (h1.extBut Z.extBut D.i1z) (aa.extBut Z.extBut D.l1z) hx λe2 t2 z=>QS<|QS ?_;replace z:Rg O hp e2:=z;refine QJ<|QJ<|Rh ?_;show QX _ _ (Ru (.ref i2)>>=λv=>pure<|some v) _ _ _;refine QJ<|RI ((h2.extBut Z.extBut D.i2z).extBut z.extBut D.i12.symm) ((ab.extBut Z.extBut D.l2z).extBut z.extBut D.l2i1) hy λe4 t4 J=>QS<|QS<|QS ?_;replace J:Rg i2 e2 e4:=J;show QX _ _ (newTuple [x,y]>>=λr=>ret r) _ _ { s with heap:=e4 };refine QJ<|U1<|QS ⟨_,rfl,?_⟩;have pu:∀c o,e4.get? c=some o->(e4.push { cls:=.type "tuple",data:=.seq #[x,y] }).get? c=some o:=λc o e=>QP _ e;have z4:pD e4 zo ti to f0 g1:=J.extBut _ _ D.i2z.symm<|z.extBut _ _ D.i1z.symm ac;have o4:Sg e4 to c0 c1:=J.extBut _ _ D.TOi2<|z.extBut _ _ D.TOi1<|Z.extBut _ _ D.TOz qO;have sz:e4.objs.size=s.heap.objs.size:=by rw[J.1,z.1,Z.1]
  exact q (e4.push { cls:=.type "tuple",data:=.seq #[x,y] }) e4.objs.size f0 g1 c0 c1 (pu _ _ z4) hf (pu _ _ o4) ((t2.extBut J.extBut D.i12).at λo e=>pu _ o e) (t4.at λo e=>pu _ o e) (Q0 _ rfl) sz λc o n1 n2 n3 n4 e=>pu _ _<|J.extBut _ _ n4<|z.extBut _ _ n3<|Z.extBut _ _ n1 e
theorem yb{i1:QK}{Q:Fin->QO->Prop}(hh:A.handled=none)(D:UE zo ti to i1 i2 l1 l2)
  (qz:pD s.heap zo ti to f0 f1) (hf:F0 f0) (qT:Sg s.heap ti (.ref i1)<|.ref i2) (qO:Sg s.heap to c0 c1)
  (h1:s.heap.IsListIter i1 l1 k) (h2:s.heap.IsListIter i2 l2 k) (U:s.heap.IsList l1 xs) (ab:s.heap.IsList l2 ys) (he:xs[k]?=none∨ys[k]?=none)
  (q:∀(hp:Rv) (e:QK),(∀c o,c≠zo->c≠to->c≠i1->c≠i2->s.heap.get? c=some o->hp.get? c=some o)->(∃o,hp.get? e=some o/\o.cls=.type "StopIteration")->E (.ref e) { s with heap:=hp }):
  QX (QZ prog w) A (TY.«zip.__next__» ⟨[.ref zo],[]⟩) Q E s:=by
 show QX _ _ (field (.ref zo) 2>>=_) _ _ _;refine QJ<|RQ qz rfl (x:=.bool false) rfl ?_;show QX _ _ (field (.ref zo) 3>>=_) _ _ _;refine QJ<|RQ qz rfl (x:=.ref ti) rfl ?_;refine QJ<|Sj qT rfl ?_;show QX _ _ (RK (.ref zo)>>=_) _ _ _;refine QJ<|zfree qz hf ?_ ?_
 .simp only[if_true];refine QJ<|Ut<|QJ<|RQ qz rfl (x:=.ref to) rfl<|QJ<|RD qz (by simp) λe1 z1 O=>?_;replace z1:pD e1 zo ti to .ellipsis f1:=z1;simp only[List.zipIdx_cons,List.zipIdx_nil,List.forIn_cons,GD];refine QJ<|QJ<|QJ<|Up ?_;show QX _ _ (Ru (.ref i1)>>=λv=>pure<|some v) _ _ _;cases hx:xs[k]? with
  |none=>
   refine QJ<|SK hh (h1.extBut O.extBut D.i1z) (U.extBut O.extBut D.l1z) hx λe2 e J ⟨oe,ho,hc⟩=>?_;have z2:pD e2 zo ti to .ellipsis f1:=J _ _ D.i1z.symm z1;have ne:e≠zo:=λz=>by subst z;rw[z2] at ho;cases ho;simp at hc
   exact RD z2 (by simp) λe3 _ b3=>q e3 e (λc o n1 _ n3 _ x=>b3.extBut _ _ n1<|J _ _ n3<|O.extBut _ _ n1 x) ⟨oe,b3.extBut _ _ ne ho,hc⟩
  |some x=>
   have hy:ys[k]?=none:=he.resolve_left (by rw[hx];simp);refine QJ<|RI (h1.extBut O.extBut D.i1z) (U.extBut O.extBut D.l1z) hx λe2 t2 J=>QS ?_;have o2:Sg e2 to c0 c1:=J.extBut _ _ D.TOi1<|O.extBut _ _ D.TOz qO;refine QJ<|Sj o2 rfl<|QJ<|Uc o2 λe3 o3 b3=>QJ<|wpAny_letGo<|QS ?_;refine QJ<|QJ<|Up ?_;show QX _ _ (Ru (.ref i2)>>=λv=>pure<|some v) _ _ _;refine QJ<|SK hh (((h2.extBut O.extBut D.i2z).extBut J.extBut D.i12.symm).extBut b3.extBut D.TOi2.symm) (((ab.extBut O.extBut D.l2z).extBut J.extBut D.l2i1).extBut b3.extBut D.l2TO) hy λe4 e b4 ⟨oe,ho,hc⟩=>?_;have z4:pD e4 zo ti to .ellipsis f1:=b4 _ _ D.i2z.symm<|b3.extBut _ _ D.TOz.symm<|J.extBut _ _ D.i1z.symm z1;have ne:e≠zo:=λz=>by subst z;rw[z4] at ho;cases ho;simp at hc
   exact RD z4 (by simp) λe5 _ b5=>q e5 e (λc o n1 n2 n3 n4 x=>b5.extBut _ _ n1<|b4 _ _ n4<|b3.extBut _ _ n2<|J.extBut _ _ n3<|O.extBut _ _ n1 x) ⟨oe,b5.extBut _ _ ne ho,hc⟩
 .intro hp g1 ac Z;simp only[Dy,if_false];simp only[<- Ub,List.forIn_cons,GD];refine QJ<|QJ<|QJ<|Rh ?_;show QX _ _ (Ru (.ref i1)>>=λv=>pure<|some v) _ _ _;cases hx:xs[k]? with
  |none=>
   exact QJ<|SK hh (h1.extBut Z.extBut D.i1z) (U.extBut Z.extBut D.l1z) hx λe2 e J aa=>q e2 e (λc o n1 _ n3 _ x=>J _ _ n3<|Z.extBut _ _ n1 x) aa
  |some x=>
   have hy:ys[k]?=none:=he.resolve_left (by rw[hx];simp);refine QJ<|RI (h1.extBut Z.extBut D.i1z) (U.extBut Z.extBut D.l1z) hx λe2 t2 J=>QS<|QS ?_;replace J:Rg i1 hp e2:=J;refine QJ<|QJ<|Rh ?_;show QX _ _ (Ru (.ref i2)>>=λv=>pure<|some v) _ _ _;exact QJ<|SK hh ((h2.extBut Z.extBut D.i2z).extBut J.extBut D.i12.symm) ((ab.extBut Z.extBut D.l2z).extBut J.extBut D.l2i1) hy λe4 e b4 aa=>q e4 e (λc o n1 _ n3 n4 x=>b4 _ _ n4<|J.extBut _ _ n3<|Z.extBut _ _ n1 x) aa
theorem wk{z:QK}{x y:QM}{Q:Option QM->QO->Prop}(D:UE zo ti to z i2 l1 l2)
  (qz:pD s.heap zo ti to f0 f1) (hf:F0 f0) (qT:Sg s.heap ti (.ref z)<|.ref i2) (qO:Sg s.heap to c0 c1)
  (h1:s.heap.IsListIter z l1 k) (h2:s.heap.IsListIter i2 l2 k) (Z:s.heap.IsList l1 xs) (J:s.heap.IsList l2 ys) (hx:xs[k]?=some x) (hy:ys[k]?=some y)
  (q:∀(hp:Rv) (p:QK) (g0 g1 U O:QM),pD hp zo ti to g0 g1->F0 g0->Sg hp to U O->hp.IsListIter z l1 (k+1)->hp.IsListIter i2 l2 (k+1)->Sg hp p x y->p=s.heap.objs.size->(∀c o,c≠zo->c≠to->c≠z->c≠i2->s.heap.get? c=some o->hp.get? c=some o)->Q (some<|.ref p) { s with heap:=hp }):
  QX (QZ prog w) A (Uv<|.ref zo) Q E s:=by
 have tz:s.TypeIs (.ref zo) "zip":=⟨_,qz,rfl⟩
 unfold Uv;exact QJ<|Tt<|SE (name:=QQ "__next__") tz T7<|Sq T7 tz F.entry_zip_next (wq D qz hf qT qO h1 h2 Z J hx hy λhp p g0 g1 U O a1 a2 a3 a4 a5 a6 a7 a8=>QS<|q hp p g0 g1 U O a1 a2 a3 a4 a5 a6 a7 a8)<|F.args_zip_next_1 _
theorem wj{z:QK}{Q:Option QM->QO->Prop}(hh:A.handled=none)(D:UE zo ti to z i2 l1 l2)
  (qz:pD s.heap zo ti to f0 f1) (hf:F0 f0) (qT:Sg s.heap ti (.ref z)<|.ref i2) (qO:Sg s.heap to c0 c1)
  (h1:s.heap.IsListIter z l1 k) (h2:s.heap.IsListIter i2 l2 k) (O:s.heap.IsList l1 xs) (J:s.heap.IsList l2 ys) (he:xs[k]?=none∨ys[k]?=none)
  (q:∀U:Rv,(∀c o,c≠zo->c≠to->c≠z->c≠i2->s.heap.get? c=some o->U.get? c=some o)->Q none { s with heap:=U }):QX (QZ prog w) A (Uv<|.ref zo) Q E s:=by
 have Z:s.TypeIs (.ref zo) "zip":=⟨_,qz,rfl⟩
 unfold Uv;refine QJ<|Tt<|SE (name:=QQ "__next__") Z T7<|Sq T7 Z F.entry_zip_next (yb hh D qz hf qT qO h1 h2 O J he λU e hk ⟨o,ho,hc⟩=>?_)<|F.args_zip_next_1 _;exact QJ<|TK (T:="StopIteration") (b:=true) ⟨o,ho,hc⟩ U4<|QS<|q _ hk
theorem wm{Q:QM->QO->Prop}(J:pD s.heap zo ti to f0 f1)(h:Q (.ref zo) s):QX (QZ prog w) A (pyIter<|.ref zo) Q E s:=by
 have z:s.TypeIs (.ref zo) "zip":=⟨_,J,rfl⟩
 refine wpAny_pyIter_slot z F.slot_zip_iter<|Sq F.slot_zip_iter z F.entry_zip_iter ?_<|F.args_zip_iter_1 _;show QX _ _ (ret<|.ref zo) _ _ s;exact QS ⟨_,rfl,"zip",_,z,F.slot_zip_next.lookup,h⟩
end
end PySem
namespace L2
open PySem PySem.Spec PyProof.Rows
variable {p pos:UG}{ta:TA}{tg:Rw}
def Kk(tg:Rw):Prop:=∀{prog:Q6} {w:Rf} {A:Rm} {E:QM->QO->Prop} {s:QO} {z TI TO T:QK} {f0 f1:QM} {Q:Unit->QO->Prop},pD s.heap z TI TO f0 f1->F0 f0->(∀hp g0,pD hp z TI TO g0 f1->F0 g0->Rg z s.heap hp->Q () { s with heap:=hp })->QX (QZ prog w) A (Sw tg (.ref z)<|.ref T) Q E s
theorem FE{es:List Rw}{x1}:Kk<|.Tuple es x1 p:=fun {prog w A E s z TI TO T f0 f1 Q} J hf q=>by
 unfold Sw;refine QJ<|wpAny_load J ?_;dsimp only;split
 .refine QJ (Ut ?_);show QX _ _ (setField (.ref z) 0 .none) Q E s;exact RD J (by simp) λZ U O=>q Z .none U (.inl rfl) O
 .exact QS (q _ _ J hf<|UJ _ _)
theorem wB{P:Q6}{w:Rf}{K:W.Frag}(go:Kk tg)(a b z TI TO Z i2:QK)(D:UE z TI TO Z i2 a b):Turn P w K tg (Dn K a b) [z,TI,TO,Z,i2] z (λi h=>(∃f0 f1,pD h z TI TO f0 f1/\F0 f0)/\Sg h TI (.ref Z) (.ref i2)/\(∃u v,Sg h TO u v)/\h.IsListIter Z a i/\h.IsListIter i2 b i) where
 mem:=by simp
 obj:=λi h st c hc=>by
  obtain⟨⟨f0,f1,U,_⟩,J,⟨u,v,O⟩,⟨o1,e1,c1,d1⟩,⟨o2,e2,c2,d2⟩⟩:=st;have ab:c=z∨c=TI∨c=TO∨c=Z∨c=i2:=by simpa using hc
  rcases ab with rfl|rfl|rfl|rfl|rfl
  .exact ⟨_,U,λv z=>by cases z⟩
  .exact ⟨_,J,λv z=>by cases z⟩
  .exact ⟨_,O,λv z=>by cases z⟩
  .exact ⟨o1,e1,λv z=>by rw[d1] at z;cases z⟩
  .exact ⟨o2,e2,λv z=>by rw[d2] at z;cases z⟩
 keep:=λi h h' st k=>by
  obtain⟨⟨f0,f1,U,hf⟩,J,⟨u,v,O⟩,h1,h2⟩:=st;exact⟨⟨f0,f1,k z (by simp) _ U,hf⟩,k TI (by simp) _ J,⟨u,v,k TO (by simp) _ O⟩,h1.at λo q=>k Z (by simp) o q,h2.at λo q=>k i2 (by simp) o q⟩
 item:=by
  intro X hP hw hK hc i pins s σ H E I hf st hg;subst hP hw hK;obtain⟨xs,x,ys,y,hq,hx,aa,hy⟩:=hg;obtain⟨its,rv,p,ag⟩:=I.list hq;obtain⟨u,hu,ru⟩:=rv.get hx;obtain⟨its',ac,p',af⟩:=I.list aa;obtain⟨u',am,aj⟩:=ac.get hy;obtain⟨⟨f0,f1,U,hF⟩,J,⟨ua,ub,O⟩,h1,h2⟩:=st;refine wk D U hF J O h1 h2 p.isList p'.isList (x:=u) (y:=u') (by simpa using hu) (by simpa using am) λhp pa g0 g1 d0 d1 a1 a2 a3 a4 a5 a6 a7 hk=>⟨_,rfl,?_⟩
  subst a7;refine go a1 a2 λai g2 z1 z2 sb=>?_;have ad:z<s.heap.objs.size:=QT U;have up:∀c o,c≠z->hp.get? c=some o->ai.get? c=some o:=λc o n q=>(sb.2 c n).trans q;have ae:H s.heap.objs.size=none:=I.VF.fresh<|aL _;refine⟨.ref s.heap.objs.size,upd H s.heap.objs.size<|.tup [x,y],I.W5 (ch:=[z,TI,TO,Z,i2]) (t':=s.toks) hf (λc ob hc q=>?_) (aL _) ?_,rfl,⟨_,x,y,ae,λzs U=>by rw[I.VU U hq];exact hx,λzs U=>by rw[I.VU U aa];exact hy,rfl,rfl⟩,⟨⟨g2,g1,z1,z2⟩,up _ _ D.TIz<|hk _ _ D.TIz D.TITO D.TIi1 D.TIi2 J,⟨_,_,up _ _ D.TOz a3⟩,a4.at λo q=>up _ _ D.i1z q,a5.at λo q=>up _ _ D.i2z q⟩,λc hc=>?_⟩
  .exact up _ _ (λe=>hc<|by simp[e]) (hk c ob (λe=>hc<|by simp[e]) (λe=>hc<|by simp[e]) (λe=>hc<|by simp[e]) (λe=>hc<|by simp[e]) q)
  .exact ⟨bX (show 2<=1000 by decide),[u,u'],.cons ru<|.cons aj .nil,_,up _ _ (EC ad) a6,rfl,0,rfl⟩
  .have hn:=(hf c hc).1;have ab:c=z∨c=TI∨c=TO∨c=Z∨c=i2:=by simpa using hc
   obtain⟨o1,g1,_⟩:=h1;obtain⟨o2,g2,_⟩:=h2;have ah:c<s.heap.objs.size:=by
    rcases ab with rfl|rfl|rfl|rfl|rfl
    .exact ad
    .exact QT J
    .exact QT O
    .exact QT g1
    .exact QT g2
   rw[bF<|lD ah];exact hn
 done:=by
  intro X hP hw hK hc i pins s σ H E I hf st hg;subst hP hw hK;obtain⟨xs,ys,hq,aa,hx⟩:=hg;obtain⟨its,rv,p,ag⟩:=I.list hq;obtain⟨its',ac,p',af⟩:=I.list aa;obtain⟨⟨f0,f1,U,hF⟩,J,⟨ua,ub,O⟩,h1,h2⟩:=st;have hl:=rv.length;have ao:=ac.length;refine wj (I.ok.hd hc) D U hF J O h1 h2 p.isList p'.isList (hx.imp (λz=>by rw[TH];exact wu<|by lia) λz=>by rw[TH];exact wu<|by lia) λh' eb=>⟨rfl,?_⟩
  have tr:∀c u,H c=some u->c∉[z,TI,TO,Z,i2]:=λc u e q=>by rw[(hf c q).1] at e;cases e
  have k:∀c ob,c∉[z,TI,TO,Z,i2]->s.heap.get? c=some ob->h'.get? c=some ob:=λc ob n q=>eb c ob (λe=>n<|by simp[e]) (λe=>n<|by simp[e]) (λe=>n<|by simp[e]) (λe=>n<|by simp[e]) q;refine I.call (g':=s.gens) (t':=s.toks) (d':=s.drawn) (ch:=[z,TI,TO,Z,i2]) ⟨λb ob e n _ hx=>k b ob hx e,λb ob e n _ hx=>⟨ob.slots,k b ob hx e⟩,λb ob e n _=>n,λb ob e hx=>⟨ob,k b ob hx e⟩,λb xs e=>e,λb ob u e=>e,λb qs e=>⟨#[],by rw[e];simp⟩⟩ (λb u e=>?_) I.bare λb hb=>?_
  .refine (I.VF b u e).Wm (λc v hc q=>k c v ?_ q) (λc q=>q) λc xs q=>q;rcases hc with z|z
   .rw [z];exact tr b u e
   .exact tr c _ z
  .obtain ⟨a1,a2,a3,a4,a5,a6⟩:=hf b hb;exact⟨a4,a2,a5,a6⟩
 self:=λ_ _ _ _ _ st h=>by obtain⟨⟨_,_,U,_⟩,_⟩:=st;exact wm U h
section
variable {X:Cx}
theorem BR(go:Kk tg){l m:Rw}(hg:Gl X "zip")(hm:X.mg "zip"=none)(ha:PA X [l,m] ta)
  (he:QY [l,m] X.env=(false,eval l X.env)::QY [m] X.env:=by rfl) (VD:(RW pos<|QY [m] X.env).any (·.1)=false:=by rfl) (hc:X.calm=true:=by rfl):
  PI X tg (.Call (.Name "zip" p) [l,m] [] pos)<|Cp X.K ta:=by
 intro pins s σ H R I h;refine Call_<|D6 I hg hm PyProof.Rows.boot_zip<|RB (thn (ha pos pins s σ H _ I h) λus s1 zz=>?_) he VD;obtain⟨vs,H1,O,r1,q1⟩:=zz;obtain⟨a,b,e,⟨xs,hq⟩,⟨ys,aa⟩,q⟩:=q1;subst e;obtain⟨u,u',rfl,ru,ac⟩:=FV r1;cases ru;cases ac;obtain⟨its,rv,pl,hz⟩:=O.list hq;obtain⟨its',ad,U,ae⟩:=O.list aa;have z:a<s1.heap.objs.size:=by obtain⟨o,ho,_⟩:=pl.isList;exact QT ho
 have Z:b<s1.heap.objs.size:=by obtain⟨o,ho,_⟩:=U.isList;exact QT ho
 have D:UE (s1.heap.objs.size+4) (s1.heap.objs.size+2) (s1.heap.objs.size+3) s1.heap.objs.size (s1.heap.objs.size+1) a b:=by
  generalize s1.heap.objs.size=n at z Z⊢;have h1:LT.lt (α:=Nat) a n:=z;have h2:LT.lt (α:=Nat) b n:=Z;constructor<;>(refine J2 ?_;lia)
 refine call_zip_2 pl.isList U.isList λh' z1 z2 z3 z4 z5 z6 hk=>wpAny_pyIter_zip z1 ?_;have I2:Inv X pins σ H1 { s1 with heap:=h' }:=O.kept (t':=s1.toks) hk;refine⟨s1.heap.objs.size+4,_,_,Dn X.K a b,H1,rfl,I2,(wB go a b _ _ _ _ _ D).at hc,⟨⟨_,_,z1,.inl rfl⟩,z2,⟨_,_,z3⟩,z4,z5⟩,λc hc=>?_,q⟩;have ab:c=s1.heap.objs.size+4∨c=s1.heap.objs.size+2∨c=s1.heap.objs.size+3∨c=s1.heap.objs.size∨c=s1.heap.objs.size+1:=by simpa using hc
 have J:s1.heap.objs.size<=c:=by
  rcases ab with rfl|rfl|rfl|rfl|rfl
  .exact Ew _ _
  .exact Ew _ _
  .exact Ew _ _
  .exact aL _
  .exact Ew _ _
 exact O.WC J<|O.VF.fresh J
theorem E5{z:List Rw}{x1}{tpos:UG}{l m:Rw}(J:Gl X "zip")(hm:X.mg "zip"=none)(ha:PA X [l,m] ta)
  (O:QY [l,m] X.env=(false,eval l X.env)::QY [m] X.env:=by rfl) (VD:(RW pos<|QY [m] X.env).any (·.1)=false:=by rfl) (hc:X.calm=true:=by rfl):
  PI X (.Tuple z x1 tpos) (.Call (.Name "zip" p) [l,m] [] pos)<|Cp X.K ta:=BR FE J hm ha O VD hc
end
section
variable {K:W.Frag}{a b:QK}{xs ys:List V}{g:TG}{σ:St}{H:Hp}{tt:TT}{te:TE}{Q:VK}{σ0:St}
def DZ(K:W.Frag)(g:TG)(tt:TT)(te:TE)(σ0:St)(Q:VK)(x y:V)(H1:Hp):Prop:=L2.X2 λa b=>[x,y]=[.ref a,.ref b]/\(∃xs,aD K H1 a xs)/\(∃xs,aD K H1 b xs)/\∃W:Nat->Nat->List V->St->Hp->Prop,(∃m,W 0 m [] σ0 H1)/\∀i m zs σ H,W i m zs σ H->
 ((Dn K a b).stop i H/\zs.length<=sizeLine/\∀p,H p=none->Q (.ref p) (upd H p<|.lst zs))∨
 ((Dn K a b).go i H/\zs.length<sizeLine/\∀x H',(Dn K a b).Wi i H x H'->g x σ H' λσ2 H2=>tt σ2 H2 λb H3=>if b=true then te σ2 H3 λy H4=>∃m',m'<m/\W (i+1) m' (zs++[y]) σ2 H4 else ∃m',m'<m/\W (i+1) m' zs σ2 H3)
theorem nS{k:Nat}{js:List Nat}{t u:TE}:xF k js (Cp K<|mF t<|mF u iB) g tt te σ H Q=t σ H (λx H1=>u σ H1 λy H2=>DZ K g tt te (up k js σ) Q x y H2):=rfl
theorem Aq(h:aD K H a xs)(h':aD K H b ys)(hz:xs.length<=1000)(P:Nat->List V->St->Hp->Prop)(h0:P 0 [] σ0 H)(hl:∀i zs σ H,i<=min xs.length ys.length->P i zs σ H->aD K H a xs/\aD K H b ys/\zs.length<=i)
  (hs:∀(i:Nat) zs x y σ H p,i<min xs.length ys.length->xs[i]?=some x->ys[i]?=some y->P i zs σ H->H p=none->g (.ref p) σ (upd H p<|.tup [x,y]) λz H2=>tt z H2 λb H3=>if b=true then te z H3 λy H4=>dI P (min xs.length ys.length) i (zs++[y]) z H4 else dI P (min xs.length ys.length) i zs z H3)
  (Z:∀zs σ H,P (min xs.length ys.length) zs σ H->∀p,H p=none->Q (.ref p) (upd H p<|.lst zs)):DZ K g tt te σ0 Q (.ref a) (.ref b) H:=by
 have O:=bX hz;refine⟨a,b,rfl,⟨xs,h⟩,⟨ys,h'⟩,λi m zs σ H=>m=min xs.length ys.length-i/\i<=min xs.length ys.length/\P i zs σ H,⟨min xs.length ys.length,by simp,dU _,h0⟩,?_⟩;rintro i m zs σ H ⟨rfl,hi,p⟩;obtain⟨q,q',ly⟩:=hl i zs σ H hi p;by_cases VH:i<min xs.length ys.length
 .refine .inr ⟨⟨xs,xs[i],ys,ys[i],q,bV<|by lia,q',bV<|by lia⟩,by lia,λx H' y=>?_⟩;obtain⟨J,x',y',hn,y1,U,rfl,rfl⟩:=y;exact hs i zs x' y' σ _ J VH (y1 xs q) (U ys q') p hn
 .have e:i=min xs.length ys.length:=by lia
  subst e;exact .inl ⟨⟨xs,ys,q,q',by lia⟩,by lia,Z zs σ H p⟩
end
section
variable {X:Cx}
def Hm(K:W.Frag)(neg:Bool):R2:=λx y H Q=>L2.X2 λd ds=>Dp K H d x/\Dp K H (.list ds) y/\d.canLay0=true/\RG ds=true/\d.depth<=60/\Q (.bl<|if neg then !ds.any (λy=>RZ y d) else ds.any λy=>RZ y d) H
theorem wU(Z:X.A.units+64<UT):kG X (RN .NotIn)<|Hm X.K true:=by
 intro pins s σ H x y v u Q I U J h;obtain⟨d,ds,h1,h2,c1,z,dp,q⟩:=h;obtain⟨as,ra⟩:=I.reads h1 U;obtain⟨bs,O⟩:=I.reads h2 J;exact SeqAt.notIn_list_reads O ra z c1 (by have:=Nat.min_le_right (RP ds) d.depth;lia) ⟨.bl _,H,I,rfl,q⟩
end
theorem Fy{α:Type}[DecidableEq α]{e:α->Se}{n:Nat}{K:W.Frag}{H:Hp}{x y:V}{a:α}{bs:List α}{z:Bool}{Q:VK}(h:Enc e n)(hn:n<=60)(dx:Dp K H (e a) x)(dy:Dp K H (.list<|bs.map e) y)
  (q:Q (.bl<|if z then !decide (a∈bs) else decide (a∈bs)) H):Hm K z x y H Q:=by
 refine⟨_,_,dx,dy,h.lay a,h.Wu bs,cW (h.dep a) hn,?_⟩;have U:(bs.map e).any (λy=>RZ y<|e a)=decide (a∈bs):=by
  rw[List.any_map,EB,List.any_eq_true,decide_eq_true_iff];constructor
  .rintro ⟨b,O,Z⟩;have J:RZ (e b) (e a)=true:=Z;rw[h.eq] at J;rw[<- of_decide_eq_true J];exact O
  .intro O;exact⟨a,O,show RZ (e a) (e a)=true by rw[h.eq];exact decide_eq_true rfl⟩
 rw[U];exact q
end L2
namespace Po
variable {a a' b' x y:Nat}
noncomputable def st(acc h:Nat):Nat:=(((acc+h*14029467366897019727)%2^64*2^31%2^64+(acc+h*14029467366897019727)%2^64/2^33)*11400714785074694791)%2^64
noncomputable def G(a:Nat):Nat:=st 2870177450012600261 a*839798700976720815%2^64
theorem Kv(x:Nat):x*2^31%2^64=x%2^33*2^31:=by
 rw[show(2:Nat)^64=2^33*2^31 by decide,Nat.mul_mod_mul_right]
theorem yN(z:x<2^64):x*2^31%2^64+x/2^33<2^64:=by rw[Kv];omega
theorem BG(z:x<2^64)(U:y<2^64)(h:x*2^31%2^64+x/2^33=y*2^31%2^64+y/2^33):x=y:=by
 rw[Kv,Kv] at h;have a1:=UI x<|2^33;have a2:=UI y<|2^33;have J:x/2^33<2^31:=by omega
 have O:y/2^33<2^31:=by omega
 generalize x/2^33=q at*;generalize y/2^33=q' at*;generalize x%2^33=r at*;generalize y%2^33=r' at*;omega
theorem back{p i:Nat}(h:p*i%2^64=1)(z:x<2^64):x*p%2^64*i%2^64=x:=by
 rw[Nat.mod_mul_mod,Nat.mul_assoc,Nat.mul_mod,h,Nat.mul_one,Nat.mod_mod,Nat.mod_eq_of_lt z]
theorem yH{b:Nat}(h:st a b=st a' b'):(a+b*14029467366897019727)%2^64=(a'+b'*14029467366897019727)%2^64:=by
 unfold st at h;have l1:(a+b*14029467366897019727)%2^64<2^64:=Tz _ (by decide);have l2:(a'+b'*14029467366897019727)%2^64<2^64:=Tz _ (by decide);generalize (a+b*14029467366897019727)%2^64=x at*;generalize (a'+b'*14029467366897019727)%2^64=y at*;have hi:11400714785074694791*614540362697595703%2^64=1:=by decide
 have e:=congrArg (λz=>z*614540362697595703%2^64) h;rw[back hi<|yN l1,back hi<|yN l2] at e;exact BG l1 l2 e
theorem EH{b:Nat}(h:(st 2870177450012600261 a+b*14029467366897019727)%2^64=x%2^64):(G a+b)%2^64=x*839798700976720815%2^64:=by
 have e:=congrArg (λz=>z*839798700976720815%2^64) h;rw[Nat.mod_mul_mod,Nat.mod_mul_mod,Nat.add_mul,Nat.mul_assoc,Nat.add_mod,Nat.mul_mod b,show 14029467366897019727*839798700976720815%2^64=1 by decide,Nat.mul_one,Nat.mod_mod] at e;unfold G;rw[<- e,Nat.add_mod,Nat.mod_mod]
noncomputable def far(x y:Nat):Bool:=decide (1000<(x+2^64-y)%2^64)&&decide ((x+2^64-y)%2^64<2^64-1000)
noncomputable def Ii:List Nat->Bool
 |[]=>true
 |x::r=>r.all (far x)&&Ii r
theorem JV:∀{l:List Nat} {i j x y:Nat},Ii l=true->i<j->l[i]?=some x->l[j]?=some y->far x y=true
 |x::r,0,j+1,a,b,h,hij,h1,h2=>by
  unfold Ii at h;rw[uO,List.all_eq_true] at h;cases h1;exact h.1 b<|gO<|by simpa using h2
 |x::r,i+1,j+1,a,b,h,hij,h1,h2=>by
  unfold Ii at h;rw[uO] at h;exact JV (i:=i) (j:=j) h.2 (by omega) (by simpa using h1)<|by simpa using h2
 |[],i,j,a,b,h,hij,h1,h2=>by simp at h1
theorem FG:Ii ((QL 205).map G++[9148689060682678900*839798700976720815%2^64])=true:=by decide+kernel
theorem AL(h:a<205):((QL 205).map G++[9148689060682678900*839798700976720815%2^64])[a]?=some (G a):=by
 rw[iE (by rw[aM,cU];exact h),dB,uN h];rfl
theorem Kq(h:far x y=true){b:Nat}(O:x<2^64)(U:y<2^64)(J:b<=500)(z:b'<=500):(x+b)%2^64≠(y+b')%2^64:=by
 unfold far at h;rw[uO,decide_eq_true_iff,decide_eq_true_iff] at h;omega
theorem xN(a:Nat):G a<2^64:=Tz _<|by decide
noncomputable def th(a b:Nat):Nat:=st (st 2870177450012600261 a) b
theorem yo(a b:Nat):th a b<2^64:=Tz _<|by decide
theorem EJ{b:Nat}(ha:a<205)(J:a'<205)(Z:b<=500)(O:b'<=500)(h:th a b=th a' b'):a=a'/\b=b':=by
 unfold th at h;have e:=yH (a:=st 2870177450012600261 a) (b:=b) (a':=st 2870177450012600261 a') (b':=b') h;have U:=EH (a:=a) (b:=b) (x:=st 2870177450012600261 a'+b'*14029467366897019727) e;have e2:=EH (a:=a') (b:=b') (x:=st 2870177450012600261 a'+b'*14029467366897019727)<|Eq.refl _;rw[<- e2] at U;clear e2 e h;rcases Nat.lt_trichotomy a a' with z|z|z
 .exact absurd U (Kq (JV FG z (AL ha)<|AL J) (xN _) (xN _) Z O)
 .subst z;have:=xN a;generalize G a=g at*;exact⟨rfl,by omega⟩
 .exact absurd U.symm (Kq (JV FG z (AL J)<|AL ha) (xN _) (xN _) O Z)
theorem yn{b:Nat}(ha:a<205)(z:b<=500):th a b≠15576566623696079691:=by
 intro h;have e:st (st 2870177450012600261 a) b=st 9148689060682678900 0:=by
  rw[show st 9148689060682678900 0=15576566623696079691 by decide+kernel];exact h
 have J:=EH (a:=a) (b:=b) (x:=9148689060682678900) (by
  have:=yH (a:=st 2870177450012600261 a) (b:=b) (a':=9148689060682678900) (b':=0) e;rw[Du,TB] at this;exact this)
 have f:=JV (i:=a) (j:=205) FG ha (AL ha) (y:=9148689060682678900*839798700976720815%2^64) (by
  rw[gI (by rw[aM,cU];exact aL _),aM,cU,gN,List.getElem?_cons_zero])
 have:=Kq f (xN _) (Tz _<|by decide) z (b':=0) (by decide);rw[TB,Nat.mod_mod] at this;exact this J
noncomputable def fin(acc:Nat):Int:=if (acc+2870177450013471924)%2^64=2^64-1 then 1546275796 else if (acc+2870177450013471924)%2^64<2^63 then(((acc+2870177450013471924)%2^64:Nat):Int) else(((acc+2870177450013471924)%2^64:Nat):Int)-2^64
theorem uB(z:x<2^64)(nx:x≠15576566623696079691):fin x=(((x+2870177450013471924)%2^64:Nat):Int)/\(x+2870177450013471924)%2^64<2^63∨fin x=(((x+2870177450013471924)%2^64:Nat):Int)-2^64/\¬ (x+2870177450013471924)%2^64<2^63/\(x+2870177450013471924)%2^64≠2^64-1:=by
 have h1:¬ (x+2870177450013471924)%2^64=2^64-1:=by omega
 unfold fin;rw[Z8 h1];by_cases h2:(x+2870177450013471924)%2^64<2^63
 .rw [Z9 h2];exact .inl ⟨rfl,h2⟩
 .rw [Z8 h2];exact .inr ⟨rfl,h2,h1⟩
theorem Cv(O:x<2^64)(U:y<2^64)(nx:x≠15576566623696079691)(J:y≠15576566623696079691)(h:fin x=fin y):x=y:=by
 rcases uB O nx with ⟨z,l1⟩|⟨z,l1,_⟩<;>rcases uB U J with ⟨e2,l2⟩|⟨e2,l2,_⟩<;>rw[z,e2] at h<;>omega
end Po
namespace L2
open PySem PySem.Spec PyProof.Rows
variable {Q:VK}{te:TE}{a d:Int}{H:Hp}{tt:TT}{g:TG}{σ:St}
theorem lZ(n:Nat)(hn:n<=500):hashInt (n:Int)=n:=by
 have e:rawHash (n:Int)=n:=by
  unfold rawHash;dsimp only;rw[Int.natAbs_natCast,Z8 (show ¬ (n:Int)<0 by lia),show(n:Int)%((2^61-1:Nat):Int)=n by lia,Z8 (λz=>by have:=eq_of_beq z;lia)]
 unfold hashInt;rw[e,Z8 (λz=>by have:=eq_of_beq z;lia)]
noncomputable def stI(acc:Nat)(h:Int):Nat:=Po.st acc (h%((2^64:Nat):Int)).toNat
theorem fold_eq(z:List Int):Ss z=(if (z.foldl stI 2870177450012600261+(z.length^^^(2870177450012600261^^^3527539)))%2^64==2^64-1 then 1546275796 else if (z.foldl stI 2870177450012600261+(z.length^^^(2870177450012600261^^^3527539)))%2^64<2^63 then(((z.foldl stI 2870177450012600261+(z.length^^^(2870177450012600261^^^3527539)))%2^64:Nat):Int) else(((z.foldl stI 2870177450012600261+(z.length^^^(2870177450012600261^^^3527539)))%2^64:Nat):Int)-((2^64:Nat):Int)):=by
 unfold Ss;rfl
theorem Hw{a b:Nat}(ha:a<205)(Z:b<=500):Ss [(a:Int),(b:Int)]=Po.fin (Po.th a b):=by
 have J:((a:Int)%((2^64:Nat):Int)).toNat=a:=by lia
 have O:((b:Int)%((2^64:Nat):Int)).toNat=b:=by lia
 have hC:([(a:Int),(b:Int)].length^^^(2870177450012600261^^^3527539))=2870177450013471924:=by
  show(2^^^(2870177450012600261^^^3527539):Nat)=_;decide+kernel
 have U:[(a:Int),(b:Int)].foldl stI 2870177450012600261=Po.th a b:=by
  rw[List.foldl_cons,List.foldl_cons,List.foldl_nil];unfold stI Po.th;rw[J,O]
 rw[fold_eq,hC,U];unfold Po.fin;by_cases h:(Po.th a b+2870177450013471924)%2^64=2^64-1
 .rw [Z9 h,Z9<|beq_iff_eq.mpr h]
 .rw [Z8 h,Z8 λz=>h<|beq_iff_eq.mp z];rfl
theorem oJ(P:Q6)(w:Rf){a b:Nat}(ha:a<205)(J:b<=500):(Rn<|gK P w).hash [.inl (a:Int),.inl (b:Int)]=Po.fin (Po.th a b):=by
 show reduceHash (Ss [hashInt (a:Int),hashInt (b:Int)])=_;rw[lZ a<|by lia,lZ b J];have e:=Hw ha J;rw[e];unfold reduceHash;have:=Po.uB (Po.yo a b)<|Po.yn ha J;have h1:-(2^63:Int)<=Po.fin (Po.th a b)/\Po.fin (Po.th a b)<2^63/\Po.fin (Po.th a b)≠-1:=by lia
 rw[Z9 (by rw[uO,decide_eq_true_iff,decide_eq_true_iff];exact⟨h1.1,h1.2.1⟩),Z8 λz=>h1.2.2<|eq_of_beq z]
def Km(kvs:List<|List Key×V):Prop:=∀kv∈kvs,∃a b:Nat,kv.1=[.inl (a:Int),.inl (b:Int)]/\a<205/\b<=500
section
variable {X:Cx}{pins:List (QK×R6)}{A:Rm}{E:QM->QO->Prop}{s:QO}
theorem uA{P:Q6}{w:Rf}:∀{kvs:List<|List Key×V} {xs:List<|List Key×QK×QM},Km kvs->KT H kvs xs->(xs.map (·.1)).Nodup->xs.Pairwise (λx y=>(RE (Rn<|gK P w) x).hash≠(RE (Rn<|gK P w) y).hash):=by
 intro kvs xs hk kt nd;have z:∀x∈xs,∃a b:Nat,x.1=[.inl (a:Int),.inl (b:Int)]/\a<205/\b<=500:=by
  intro x U;obtain⟨y,hy,e⟩:∃y∈kvs,y.1=x.1:=by
   clear nd hk;induction kt with
   |nil=>cases U
   |@cons p q ps qs hq t ih=>
    rcases cL.mp U with e|U
    .subst e;exact⟨p,bH,hq.1⟩
    .obtain ⟨y,h1,h2⟩:=ih U;exact⟨y,bK _ h1,h2⟩
  obtain⟨a,b,h1,h2,h3⟩:=hk y hy;exact⟨a,b,by rw[<- e,h1],h2,h3⟩
 rw[List.Nodup,GB] at nd;refine nd.imp_of_mem fun {x y} U hy ne e=>?_;obtain⟨a,b,e1,h1,h2⟩:=z x U;obtain⟨a',b',Z,J,O⟩:=z y hy;have e:(Rn<|gK P w).hash x.1=(Rn<|gK P w).hash y.1:=e;rw[e1,Z,oJ P w h1 h2,oJ P w J O] at e;have:=Po.EJ h1 J h2 O<|Po.Cv (Po.yo _ _) (Po.yo _ _) (Po.yn h1 h2) (Po.yn J O) e;exact ne<|by rw[e1,Z,this.1,this.2]
theorem rP{α:Type}(f:α->Int)(x:α):∀{l:List α},l.Pairwise (λa b=>f a≠f b)->(l.filter λy=>f y==f x).length<=1
 |[],_=>dU _
 |a::r,h=>by
  obtain⟨h1,h2⟩:=Es.mp h;by_cases e:f a=f x
  .rw [Sv<|by simpa using e];have:r.filter (λy=>f y==f x)=[]:=List.filter_eq_nil_iff.mpr λb J z=>h1 b J (by rw[e];exact(by simpa using z:f b=f x).symm);rw[this];exact aL _
  .rw [RS<|by simpa using e];exact rP f x h2
theorem nB{id:String}{d:QK}{o:R6}{es ep}{kvs:List<|List Key×V}{xs:List<|List Key×QK×QM}{Q:Array DictEntry->QO->Prop}(ho:s.heap.get? d=some o)(hd:o.data=.dict es ep)
  (Z:es.toList=xs.map (RE<|Rn<|gK X.prog X.w)) (hk:∀x∈xs,(Rn<|gK X.prog X.w).is s.heap x.1 x.2.1) (hp:xs.Pairwise λx y=>(RE (Rn<|gK X.prog X.w) x).hash≠(RE (Rn<|gK X.prog X.w) y).hash) (h:Q es s):
  QX (QZ X.prog X.w) A (UW id d) Q E s:=by
 unfold UW;refine QJ<|Tj ho hd ?_;refine QJ ?_;rw[<- Ub];refine wpAny_forIn_list _ (λrest _ s'=>s'=s/\∀e∈rest,e∈es.toList) _ ?_ ?_ _ _ ⟨rfl,λe z=>z⟩
 .rintro e rest b s' ⟨U,J⟩;rw[U];have hm:=J e bH;rw[Z] at hm;obtain⟨x,hx,rfl⟩:=xR.mp hm;have hT:Shared.TypeIs s (.ref x.2.1) "tuple":=IsTupleKey.typeIs<|hk x hx;have hsz:¬ (es.filter λO=>O.hash==(RE (Rn<|gK X.prog X.w) x).hash).size>1:=by
   have e1:(es.filter λO=>O.hash==(RE (Rn<|gK X.prog X.w) x).hash).size=(es.toList.filter λO=>O.hash==(RE (Rn<|gK X.prog X.w) x).hash).length:=by
    rw[<- Array.toList_filter,Array.length_toList]
   rw[e1,Z];have:=rP (λy=>(RE (Rn<|gK X.prog X.w) y).hash) x hp;rw[List.filter_map,aM];have this:(xs.filter λy=>(RE (Rn<|gK X.prog X.w) y).hash==(RE (Rn<|gK X.prog X.w) x).hash).length<=1:=this;exact Nat.not_lt.mpr this
  show QX _ _ (Builtin.Dict.quietEq (.ref x.2.1)>>=_) _ _ _;refine QJ ?_;unfold Builtin.Dict.quietEq;refine QJ<|T1 hT F.slot_tuple_eq.lookup<|QS ?_;rw[Z9<|by decide,Z8 hsz];exact QS ⟨rfl,λe z=>J e<|bK _ z⟩
 .rintro b s' ⟨rfl,_⟩;exact QS h
theorem uu{nm:String}{d o:QK}{kvs:List<|List Key×V}{xs:List<|List Key×QK×QM}{Q:Unit->QO->Prop}(ab:d≠o)(ac:(o==Sk)=false)(hd:s.heap.get? d=some { cls:=.type "dict",data:=.dict #[] })
  (ho:s.heap.DictOfH (Rn<|gK X.prog X.w) o xs) (hp:xs.Pairwise λx y=>(RE (Rn<|gK X.prog X.w) x).hash≠(RE (Rn<|gK X.prog X.w) y).hash) (hsz:xs.length<=sizeLine)
  (hQ:∀h',Rg d s.heap h'->(∃od es ep,h'.get? d=some od/\od.ExactDict/\od.data=.dict es ep/\es.toList=xs.map (RE<|Rn<|gK X.prog X.w))->Q () { s with heap:=h' }):
  QX (QZ X.prog X.w) A (Builtin.Dict.mergeDict nm d o) Q E s:=by
 obtain⟨oo,z,ag,aa,ah,J,U,af,ai⟩:=id ho;unfold Builtin.Dict.mergeDict;rw[Z8<|by simpa using ab];unfold Builtin.Dict.showsAll;rw[Z8<|by rw[ac];exact kS];refine QJ<|QS ?_;refine QJ<|Tj aa J ?_;have O:({ cls:=.type "dict",data:=.dict #[] }:R6).data=.dict #[] 0:=rfl;dsimp only;cases xs with
 |nil=>
  have h0:z=#[]:=by
   have:z.toList=[]:=U;exact Array.toList_eq_nil_iff.mp this
  subst h0;rw[Z8<|by rw[show(#[]:Array DictEntry).all (λe=>(keyPart e.key).isSome)=true by simp];simp];refine QJ<|wpAny_dictEpoch aa J ?_;refine QJ<|Tj aa J ?_;refine QJ ?_;rw[Std.Legacy.Range.forIn_eq_forIn_range'];refine QS<|QS<|hQ s.heap (UJ _ _) ⟨_,_,_,hd,⟨rfl,rfl,rfl⟩,O,rfl⟩
 |cons x r=>
  have ae:(z.all λe=>(keyPart e.key).isSome)=false:=by
   rw[<- Array.all_toList,U];rfl
  rw[Z9<|by rw[ae,UM];rfl];refine QJ<|Tj hd O ?_;rw[Z9<|by rfl];refine QJ<|nB (kvs:=kvs) aa J U af hp ?_;have Z:z.size=(x::r).length:=by rw[<- Array.length_toList,U,aM]
  have ad:z.isEmpty=false:=by
   cases e0:z.isEmpty with
   |false=>rfl
   |true=>rw[Array.isEmpty_iff.mp e0] at Z;cases Z
  rw[Z9<|by rw[ad];rfl];refine QJ<|wpAny_updateDictKeysTo hd O (QS<|hQ _ (Heap.SameBut.update ..) ⟨_,z,0+1,Ua _ hd<|Obj.isFreed_of_dict<|Obj.data_mapDictKeys O _,(show Obj.ExactDict _ from⟨rfl,rfl,rfl⟩).mapDictKeys _,Obj.data_mapDictKeys O _,U⟩)<|by lia
theorem mE:tF X (.type "dict") λxs H Q=>L2.X2 λ(p:QK) (kvs:List<|List Key×V)=>xs=[.ref p]/\H p=some (.dT kvs)/\Km kvs/\∀d,H d=none->Q (.ref d) (upd H d<|.dT kvs):=by
 intro pins s σ H xs us Q I r h;obtain⟨p,kvs,rfl,ab,ad,q⟩:=h;obtain⟨u,rfl,rx⟩:=xV r;cases rx;obtain⟨z,ah,xs,kt,dd⟩:=DX I.VF ab;have aq:xs.length=kvs.length:=(Us kt).symm;have U:(xs.map (·.1)).Nodup:=let ⟨_,_,_,_,_,_,_,_,hn⟩:=dd;hn;have ai:=uA (P:=X.prog) (w:=X.w) ad kt U;refine callType_codes (Q₁:=λobj s₁=>obj=.ref s.heap.objs.size/\s₁={ s with heap:=s.heap.push { cls:=.type "dict",data:=.dict #[] } }) F.kt_called_dict (F.kt_typeCall_dict_1 _) F.entry_dict_init (kt_code_dict_new _ ⟨rfl,rfl⟩) ?_;rintro obj s₁ ⟨rfl,rfl⟩;have aa:(s.heap.push { cls:=.type "dict",data:=.dict #[] }).get? s.heap.objs.size=some { cls:=.type "dict",data:=.dict #[] }:=Q0 _ rfl;have J:∀b o,s.heap.get? b=some o->(s.heap.push { cls:=.type "dict",data:=.dict #[] }).get? b=some o:=λb o hb=>QP _ hb;have hT:Shared.TypeIs { s with heap:=s.heap.push { cls:=.type "dict",data:=.dict #[] } } (.ref s.heap.objs.size) "dict":=⟨_,aa,rfl⟩
 have Z:(s.heap.push { cls:=.type "dict",data:=.dict #[] }).DictOfH (Rn<|gK X.prog X.w) p xs:=by
  obtain⟨o,es,ep,a1,a2,a3,a4,a5,a6⟩:=dd;exact⟨o,es,ep,J _ _ a1,a2,a3,a4,λx hx=>zw J<|a5 x hx,a6⟩
 obtain⟨oo,as,ao,ac,af,am,ap,av,au⟩:=id Z;have O:Shared.TypeIs { s with heap:=s.heap.push { cls:=.type "dict",data:=.dict #[] } } (.ref p) "dict":=⟨oo,ac,af.1⟩
 have ag:s.heap.objs.size≠p:=by
  obtain⟨_,_,_,hg,_⟩:=dd;exact λe=>absurd (QT hg)<|by rw[e];exact Bm _
 refine⟨hT,F.args_dict_init_2 _ _,?_⟩;unfold TY.«dict.__init__»;refine QJ ?_;unfold Builtin.Dict.selfAndRest;refine QJ<|wpAny_notOrdered_dict hT ?_;show QX _ _ (pure (s.heap.objs.size,[Value.ref p])) _ _ _;refine QS ?_;show QX _ _ (Builtin.Dict.updateFrom "dict.__init__" s.heap.objs.size (.ref p) [] .none) _ _ _;unfold Builtin.Dict.updateFrom;refine QJ<|wpAny_typeOf O ?_;rw[Z8<|by decide];refine QJ ?_;unfold Builtin.Dict.merge;refine QJ ?_;unfold Builtin.Dict.readDirectly;refine QJ<|TK O isSubtype_dict_dict ?_;simp only[Bool.not_true,Dy,if_false];refine QJ<|T1 O F.slot_dict_iter.lookup<|QS ?_;simp only[beq_self_eq_true,if_true];refine QJ<|QS ?_;refine uu (kvs:=kvs) ag ah aa Z ai (by lia) λh' aj ae=>?_;show QX _ _ (Builtin.Dict.addKeywords s.heap.objs.size []>>=_) _ _ _;refine QJ<|QS<|QS ⟨rfl,?_⟩;obtain⟨od,es,ep,g1,g2,g3,g4⟩:=ae;refine⟨.ref s.heap.objs.size,_,I.laid (h':=h') (t':=s.toks) (o:=.dT kvs) (λb o hb=>(aj.2 b<|lD<|QT hb).trans<|J _ _ hb) (aL _) ⟨z,?_,xs,kt.keeps λc ys ec=>?_,od,es,ep,g1,g2,g3,g4,U⟩,rfl,q _<|I.VF.fresh<|aL _⟩
 .have:=I.big;exact beq_eq_false_iff_ne.mpr<|EC this
 .rw [bF<|bR ec<|I.VF.fresh<|aL _];exact ec
end
theorem yQ{P:Q6}{w:Rf}{K:W.Frag}{mg:Q3->Option QM}{base:Rv}{x:Q3}{f:QK}{fd:RX}{ps:List Q3}{sp:Nat->Sp}(h0:∀vs H Q E,sp 0 vs H Q E->False)(J:Binds K fd ps [])(z:W.keepIn K (.ref f)=true)(hm:mg x=some (.ref f))
  (step:∀n,Fn P w K mg base aC x n ps (sp n)->aF P w K mg base aC (n+1) f fd ps (sp<|n+1)):∀n,Fn P w K mg base aC x n ps<|sp n
 |0=>⟨f,fd,⟨λvs H Q E h=>(h0 vs H Q E h).elim,λA outer s H args us vs Q E _ _ _ _ h=>(h0 vs H Q E h).elim⟩,J,z,hm⟩
 |n+1=>⟨f,fd,step n<|yQ h0 J z hm step n,J,z,hm⟩
section
variable {X:Cx}
theorem mW(K:W.Frag)(h:X.K=K:=by rfl):kG X (RN .NotIn)<|OE K true:=h▸pX
end
theorem xr(A:List Nat):((A.map λ(n:Nat)=>V.int (n:Int)).all CY)=true:=by
 induction A with
 |nil=>rfl
 |cons a r ih=>rw[iT,List.all_cons,ih];rfl
theorem zG(x:Nat)(A:List Nat):HH (.int (x:Int)) (A.map λ(n:Nat)=>V.int (n:Int))=decide (x∈A):=by
 induction A with
 |nil=>rfl
 |cons a r ih=>
  unfold HH at*;rw[iT,GH,ih];by_cases e:x=a
  .subst e;simp[zZ]
  .have h:zZ (.int (a:Int)) (.int (x:Int))=false:=by
    unfold zZ;simp;lia
   rw[h,Bool.false_or];by_cases m:x∈r
   .rw [decide_eq_true m,decide_eq_true<|bK _ m]
   .rw [decide_eq_false m,decide_eq_false λz=>(cL.mp z).elim e m]
noncomputable def xM(lo d:Int)(n:Nat):It:=⟨λi _=>i<n,λi H x H'=>H'=H/\x=.int (lo+i*d),λi _=>n<=i⟩
theorem qN{P:Q6}{w:Rf}{K:W.Frag}{tg:Rw}(it:QK)(lo d:Int)(n:Nat):Turn P w K tg (xM lo d n) [it] it (λi h=>UU h it (lo+(i:Nat)*d) ((n:Int)-(i:Nat)) d) where
 mem:=by simp
 obj:=λi h st b J=>by
  have e:b=it:=by simpa using J
  subst e;exact⟨_,st,λv z=>by
   have z':Data.fields _=Data.cell v:=z;cases z'⟩
 keep:=λi h h' st k=>k it (by simp) _ st
 item:=by
  intro X hP hw hK hc i pins s σ H E I U st hg;subst hP hw hK;obtain⟨f0,f1,f2,f3,Z,f5⟩:=U it (by simp);have W:=Walks.range (prog:=X.prog) (w:=X.w) (I.ok.hd hc) it lo d n;refine W.item i s _ _ hg st λv h' tk hv O kk=>?_;obtain⟨t,rfl⟩:=hv;have I1:Inv X pins σ H { s with heap:=h',toks:=tk }:=I.turned (λb o J e=>kk b o (by simpa using J) e) f0 f1 f3 Z f5;exact⟨_,rfl,Jd (s:={ s with heap:=h',toks:=tk }) (n:="range_iterator") O rfl rfl (by decide) ⟨.int<|lo+i*d,H,I1,⟨t,rfl⟩,⟨rfl,rfl⟩,O,λb J=>(U b J).1⟩⟩
 done:=by
  intro X hP hw hK hc i pins s σ H E I U st hg;subst hP hw hK;obtain⟨f0,f1,f2,f3,Z,f5⟩:=U it (by simp);exact wpAny_pyNext_range_end (I.ok.hd hc) st (by have:n<=i:=hg;lia) λh' eb=>⟨rfl,I.turned (t':=s.toks) (λb o J e=>eb b o J e) f0 f1 f3 Z f5⟩
 self:=λ_ _ _ _ _ st h=>wpAny_pyIter_rangeiter st h
theorem NA{b:Int}(z:0<d):Q2 a b d=if a<b then(b-a-1)/d+1 else 0:=by
 unfold Q2;rw[Z9 z]
theorem kE{b:Int}(z:0<d):0<=Q2 a b d:=by
 rw[NA z];split
 .have:0<=(b-a-1)/d:=Int.ediv_nonneg (by lia) (by lia);lia
 .lia
theorem ET{b:Int}(h1:0<=a)(h2:a<=1000)(h3:0<=b)(Z:b<=1000)(J:0<d)(U:d<=1000):Uo a b d=true:=by
 unfold Uo;rw[NA J];simp only[Builtin.Range.rangeFitsLong,uO,Bool.or_eq_true,decide_eq_true_eq,beq_iff_eq];have O:(b-a-1)/d<=1000:=by
  by_cases z:0<=b-a-1
  .exact Int.le_trans (Int.ediv_le_self _ z) (by lia)
  .have:(b-a-1)/d<=0:=by
    have:=Int.ediv_neg_of_neg_of_pos (show b-a-1<0 by lia) J;lia
   lia
 have e2:-1001<=(b-a-1)/d:=Int.le_ediv_of_mul_le J (by lia);have e3:a<b->0<=(b-a-1)/d:=λh=>Int.ediv_nonneg (by lia) (by lia);split
 .rename_i h;have:=e3 h;refine⟨by lia,.inr ?_⟩;rw[uO,decide_eq_true_iff,decide_eq_true_iff];lia
 .exact ⟨by lia,.inl rfl⟩
section
variable {X:Cx}{tg:Rw}
theorem wM(hc:X.calm=true){pins:List<|QK×R6}{s:QO}{R:It->Hp->Prop}{E:QM->QO->Prop}{lo hi:Int}{t u v:Tok}{tk:Nat}(I:Inv X pins σ H s)(U:0<d)(Z:Uo lo hi d=true)
  (q:R (xM lo d (Q2 lo hi d).toNat) H):QX (QZ X.prog X.w) X.A (pyIter<|.ref s.heap.objs.size) (NT X pins σ tg R) E { s with heap:=s.heap.push { cls:=.type "range",data:=.fields #[.int lo t,.int hi u,.int d v] },toks:=tk }:=by
 refine wpAny_pyIter_range (IsRange.new ..) Z ?_;have z:Inv X pins σ H { s with heap:=s.heap.push { cls:=.type "range",data:=.fields #[.int lo t,.int hi u,.int d v] },toks:=tk }:=I.kept λb o e=>QP _ e;refine⟨(s.heap.push { cls:=.type "range",data:=.fields #[.int lo t,.int hi u,.int d v] }).objs.size,[(s.heap.push { cls:=.type "range",data:=.fields #[.int lo t,.int hi u,.int d v] }).objs.size],_,_,H,rfl,z.kept (t':=tk) λb o e=>QP _ e,(qN _ lo d (Q2 lo hi d).toNat).at hc,?_,λb O=>?_,q⟩
 .have J:lo+((0:Nat):Int)*d=lo:=by simp
  have e2:(((Q2 lo hi d).toNat:Nat):Int)-((0:Nat):Int)=Q2 lo hi d:=by have:=kE (a:=lo) (b:=hi) U;lia
  show UU _ _ (lo+((0:Nat):Int)*d) ((((Q2 lo hi d).toNat:Nat):Int)-((0:Nat):Int)) d;rw[J,e2];exact Q0 _ rfl
 .have e:b=(s.heap.push { cls:=.type "range",data:=.fields #[.int lo t,.int hi u,.int d v] }).objs.size:=by simpa using O
  subst e;exact z.WC (aL _)<|z.VF.fresh<|aL _
def DP(ta:TA):TI:=λσ H R=>ta σ H λvs H1=>L2.X3 λi j d:Int=>vs=[.int i,.int j,.int d]/\(0<=i/\i<=1000/\0<=j/\j<=1000/\0<d/\d<=1000)/\R (xM i d (Q2 i j d).toNat) H1
theorem oB{a b c:Rw}{ta:TA}{p pos:UG}(hg:Gl X "range")(hm:X.mg "range"=none)(ha:PA X [a,b,c] ta)(hs:QY [a,b,c] X.env=(false,eval a X.env)::QY [b,c] X.env:=by rfl)(J:(RW pos<|QY [b,c] X.env).any (·.1)=false:=by rfl)(hc:X.calm=true:=by rfl):
  PI X tg (.Call (.Name "range" p) [a,b,c] [] pos)<|DP ta:=by
 intro pins s σ H R I h;refine Call_<|D6 I hg hm boot_range<|RB (thn (ha pos pins s σ H _ I h) λus s1 U=>?_) hs J;obtain⟨vs,H1,I1,r1,z⟩:=U;obtain⟨i,j,d,e,⟨z,q2,q3,Z,O,q6⟩,q⟩:=z;subst e;cases r1 with
 |cons r rr=>
  cases rr with
  |cons r' rr=>
   cases rr with
   |cons r'' rr=>
    cases rr;obtain⟨t,rfl⟩:=r;obtain⟨t',rfl⟩:=r';obtain⟨aa,rfl⟩:=r'';exact call_range_3 (by lia) (wM hc I1 O (ET z q2 q3 Z O q6) q)<|.inl<|PyProof.noPylong_small<|by lia
end
def Ar(g:TG)(tt:TT)(te:TE)(σ0:St)(Q:VK)(x y z:V)(H1:Hp):Prop:=L2.X3 λi j d:Int=>[x,y,z]=[.int i,.int j,.int d]/\(0<=i/\i<=1000/\0<=j/\j<=1000/\0<d/\d<=1000)/\
 ∃W:Nat->Nat->List V->St->Hp->Prop,(∃m,W 0 m [] σ0 H1)/\∀k m ys σ H,W k m ys σ H->
   ((xM i d (Q2 i j d).toNat).stop k H/\ys.length<=sizeLine/\∀p,H p=none->Q (.ref p) (upd H p<|.lst ys))∨
   ((xM i d (Q2 i j d).toNat).go k H/\ys.length<sizeLine/\∀x H',(xM i d (Q2 i j d).toNat).Wi k H x H'->g x σ H' λσ2 H2=>tt σ2 H2 λb H3=>if b=true then te σ2 H3 λy H4=>∃m',m'<m/\W (k+1) m' (ys++[y]) σ2 H4 else ∃m',m'<m/\W (k+1) m' ys σ2 H3)
theorem ue{k:Nat}{js:List Nat}{t u v:TE}:xF k js (DP<|mF t<|mF u<|mF v iB) g tt te σ H Q=t σ H (λx H1=>u σ H1 λy H2=>v σ H2 λz H3=>Ar g tt te (up k js σ) Q x y z H3):=rfl
theorem oN{i j:Int}{n:Nat}{σ0:St}(h:0<=i/\i<=1000/\0<=j/\j<=1000/\0<d/\d<=1000)(hn:(Q2 i j d).toNat=n)(Z:n<=sizeLine)(P:Nat->List V->St->Hp->Prop)(h0:P 0 [] σ0 H)(hl:∀i ys σ H,P i ys σ H->ys.length<=i)
  (O:∀k ys σ H,k<n->P k ys σ H->g (.int<|i+k*d) σ H λz H2=>tt z H2 λb H3=>if b=true then te z H3 λy H4=>dI P n k (ys++[y]) z H4 else dI P n k ys z H3)
  (J:∀ys σ H,P n ys σ H->∀p,H p=none->Q (.ref p) (upd H p<|.lst ys)):Ar g tt te σ0 Q (.int i) (.int j) (.int d) H:=by
 refine⟨i,j,d,rfl,h,?_⟩;rw[hn];refine⟨λk m ys σ H=>m=n-k/\k<=n/\P k ys σ H,⟨n,by simp,dU _,h0⟩,?_⟩;rintro k m ys σ H ⟨rfl,hi,p⟩;have U:=hl k ys σ H p;by_cases VH:k<n
 .refine .inr ⟨VH,by lia,λx H' y=>?_⟩;obtain⟨rfl,rfl⟩:=y;exact O k ys σ _ VH p
 .have e:k=n:=by lia
  subst e;exact .inl ⟨aL _,by lia,J ys σ H p⟩
def OD(K:W.Frag)(t:TE):TT:=λσ H Q=>t σ H λx H1=>L2.X2 λa xs=>x=.ref a/\aD K H1 a xs/\Q (!xs.isEmpty) H1
section
variable {X:Cx}
theorem Kt{e:Rw}{t:TE}(h:PE X e t)(Z:∀z,isTrue e X.env z=(do let v <- z;UB e.pos;holding [v] (truthy v)):=by intro _;rfl):PT X e<|OD X.K t:=by
 intro pins s σ H Q I hw;refine isTrue_plain (thn (h pins s σ H _ I hw) λv s1 U=>?_)<|Z _;obtain⟨x,H1,J,r1,O⟩:=U;obtain⟨a,xs,rfl,hq,q⟩:=O;cases r1;obtain⟨its,rv,p,hz⟩:=J.list hq;have hl:=rv.length;refine wpAny_truthy_list p.isList ?_ ?_
 .rw [iS,<- hl];exact Int.lt_of_le_of_lt (Int.ofNat_le.mpr hz)<|by decide
 .refine ⟨H1,J.kept (t':=s1.toks+1+1) λb o e=>e,?_⟩;have:(!(its.toArray).isEmpty)=!xs.isEmpty:=by
   cases xs<;>cases its<;>first|rfl|cases hl
  rw[this];exact q
end
end L2
namespace L2S
open PySem PySem.W PyProof.Rows
variable {n:Nat}{p:Array Nat}{vs:List QM}
noncomputable def pick{α:Type}(ans:Nat->Nat->Bool):KasT α->α
 |.ret a=>a
 |.ask i j k=>pick ans<|k<|ans i j
def bG(n:Nat){α:Type}(P:α->Prop):KasT α->Prop
 |.ret a=>P a
 |.ask i j k=>i<n/\j<n/\∀b,bG n P<|k b
theorem bG.bind{n:Nat}{α z:Type}{P:α->Prop}{R:z->Prop}{f:α->KasT z}:∀{t:KasT α},bG n P t->(∀a,P a->bG n R (f a))->bG n R (t.bind f)
 |.ret a,h,hf=>hf a h
 |.ask i j k,h,hf=>⟨h.1,h.2.1,λb=>bG.bind (t:=k b) (h.2.2 b) hf⟩
theorem bG.wp{n:Nat}{α:Type}{P:α->Prop}{z:Nat->Nat->(Bool->QO->Prop)->QO->Prop}{ans:Nat->Nat->Bool}{s:QO}{Q:α->QO->Prop}(hc:∀i j C,i<n->j<n->C (ans i j) s->z i j C s):∀{t:KasT α},bG n P t->(P (pick ans t)->Q (pick ans t) s)->t.kasWp z Q s
 |.ret a,h,q=>q h
 |.ask i j k,h,q=>hc i j _ h.1 h.2.1<|bG.wp hc (t:=k<|ans i j) (h.2.2 _) q
theorem bG.ite{α:Type}{P:α->Prop}{c:Prop}[Decidable c]{x y:KasT α}(z:bG n P x)(J:bG n P y):bG n P<|if c then x else y:=by split<;>assumption
section
noncomputable abbrev Pm(n:Nat)(p:Array Nat):Prop:=p.Perm (QL n).toArray
theorem Pm.lt(h:Pm n p)(h0:0<n)(i:Nat):p.getD i 0<n:=by
 rw[Array.getD_eq_getD_getElem?];by_cases hi:i<p.size
 .rw [getElem?_pos p i hi];have:=(Array.perm_iff_toList_perm.mp h).mem_iff.mp<|Array.mem_toList_iff.mpr<|Array.getElem_mem hi;exact mL.mp this
 .rw [Array.getElem?_eq_none<|Nat.le_of_not_lt hi];exact h0
theorem Pm.rev(h:Pm n p)(i j:Nat):Pm n<|kas_rev p i j:=(mirror_perm _ _ _ _).trans h
variable (h0:0<n)
include h0
theorem K7{p:Array Nat}(h:Pm n p):∀f m,bG n (λ_=>True) (kas_asc p f m)
 |0,_=>trivial
 |f+1,m=>⟨h.lt h0 _,h.lt h0 _,λb=>.ite trivial<|K7 h f _⟩
theorem JG:∀f p m q,Pm n p->bG n (λr=>Pm n r.1) (kas_desc f p m q)
 |0,_,_,_,h=>h
 |f+1,p,m,q,h=>⟨h.lt h0 _,h.lt h0 _,λb=>.ite (.ite (JG f _ _ _<|h.rev _ _)<|JG f _ _ _ h) ⟨h.lt h0 _,h.lt h0 _,λb=>.ite h<|JG f _ _ _ h⟩⟩
theorem vL(h:Pm n p)(m r:Nat):bG n (λx=>Pm n x.2)<|kas_tail3 m r p:=(K7 h0 (h.rev _ _) _ _).bind λ_ _=>h.rev _ _
theorem vN(h:Pm n p)(m r:Nat):bG n (λx=>Pm n x.2)<|kas_descPart m r p:=(JG h0 _ _ _ _ h).bind λ_ k=>.ite (vL h0 (k.rev _ _) _ _)<|vL h0 k _ _
theorem zE(h:Pm n p)(r:Nat):bG n (λx=>Pm n x.2)<|kas_count r p:=
 (K7 h0 h _ _).bind λ_ _=>.ite h<|.ite ⟨h.lt h0 _,h.lt h0 _,λ_=>.ite h<|vN h0 (h.rev _ _) _ _⟩<|vN h0 h _ _
theorem Li{p:Array Nat}(h:Pm n p)(k:Nat):∀f l r,bG n (λ_=>True) (kas_place p k f l r)
 |0,_,_=>trivial
 |f+1,l,r=>.ite trivial ⟨h.lt h0 _,h.lt h0 _,λ_=>.ite (Li h k f _ _)<|Li h k f _ _⟩
theorem zF:∀f p k,Pm n p->bG n (Pm n) (kas_bin f p k)
 |0,_,_,h=>h
 |f+1,p,k,h=>(Li h0 h k _ _ _).bind λ_ _=>zF f _ _<|(bubble_perm _ _ _).trans h
theorem vM:bG n (Pm n)<|U3 n:=(zE h0 (Array.Perm.refl _) n).bind λ_ h=>.ite (zF h0 _ _ _ h) h
end
theorem BZ{α:Type}{M:Model}{A:Rm}{t:UY α}{P:α->Prop}{s:QO}(c:Code)(p:UG)(hA:(Ctx.of c []).In A)(h1:QX M A t (λr _=>P r) (λ_ _=>False) s)(h2:QX M A t (λr _=>¬ P r) (λ_ _=>False) s):False:=by
 classical
 have k:∀(S:α->Prop) (b:Bool),(∀r,S r->decide (P r)=b)->QX M A t (λr _=>S r) (λ_ _=>False) s->∃s',Reach M [] s (t>>=λr=>pure<|.done<|.ret<|.bool<|decide<|P r) c p [] s' (.ret<|.ok<|.ret<|.bool b):=λS b J h=>by
  have w:QX M A (t>>=λr=>pure<|PySem.Fin.done<|.ret<|.bool<|decide<|P r) (λx _=>x=.done (.ret<|.bool b)) (λ_ _=>False) s:=QJ<|Rk h (λr _ z=>QS<|by rw[J r z]) λ_ _ z=>z;obtain⟨r,s',z,rfl⟩:=(wp_iff_reach (base:=[]) (c:=c) _ (λr _=>r=.ok (.ret<|.bool b)) p s).mp<|Sem.wp_mono M _ _ (λ_ _ _ e=>by cases e;rfl) (λ_ _ _ e=>e.elim) p s<|w _ p hA;exact⟨s',z⟩
 obtain⟨_,a⟩:=k P true (λ_ h=>decide_eq_true h) h1;obtain⟨_,b⟩:=k (λr=>¬ P r) false (λ_ h=>decide_eq_false h) h2;cases(a.det b).2
theorem sorts(prog:Q6)(w:Rf)(s:QO)(f:Nat->Int)(h2:2<=n)(ab:n<64):(pick (λi j=>decide<|f i<f j)<|U3 n).toList.Pairwise λi j=>f i<=f j:=by
 have hl:((QL n).map λi=>Value.int (f i) 0).length=n:=by rw[aM,cU]
 have hz:(pairsOf<|(QL n).map λi=>Value.int (f i) 0).size=n:=(pairsOf_size _).trans hl;have J:∀i,i<n->((QL n).map λi=>Value.int (f i) 0).getD i Value.none=.int (f i) 0:=λi hi=>by
  rw[iR,dB,uN hi];rfl
 refine R4 λno=>?_
 let c:Code:=.builtin "" ⟨[],[]⟩
 let A:Rm:={ depth:=0+c.weight,units:=(Ctx.of c []).units }
 refine BZ (M:=QZ prog w) (A:=A) (s:=s) (t:=sortRuns'.run<|SortSt.mk' oneType' (pairsOf<|(QL n).map λi=>Value.int (f i) 0) #[] 7 none) (P:=λr=>SortedTo (arrOf r.2) n) c default
  ⟨rfl,aL _,λ_ h=>(by cases h),λ_ h=>(by cases h),aL _⟩ ?_ ?_
 .refine Rk (wpS_sortRuns (a₀:=pairsOf<|(QL n).map λi=>Value.int (f i) 0) (Q:=λ_ st=>SortedTo (arrOf st) n) ?_ ⟨Array.Perm.refl _,rfl,rfl,rfl⟩ (by lia) (by lia) λO _ _ h=>by rw[hz] at h;exact h) (λ_ _ h=>h.2) λ_ _ e=>e;intro p hp;rw[pairsOf_toList] at hp;obtain⟨i,_,e⟩:=xR.mp (mem_zip_self hp).2;exact⟨_,_,e.symm⟩
 .refine kat_run (ks:=(QL n).map λi=>Value.int (f i) 0) (vs:=(QL n).map λi=>Value.int (f i) 0) (κ:=oneType') (Q:=λst _=>¬ SortedTo (arrOf st) n) (G:=λp _=>Pm n p/\p=pick (λi j=>decide<|f i<f j) (U3 n)) rfl (by lia) (by lia) (λp O s' _ e _ g so=>no ?_) ?_
  .rw [<- g.2,GA];intro i j hi Z aa;have hs:p.size=n:=by rw[g.1.size_eq];simp
   have U:∀k (hk:k<p.toList.length),PyProof.Rows.K (arrOf O) k=f p.toList[k]:=λk hk=>by
    have h1:k<p.size:=hk;have h3:=g.1.lt (by lia) k;have h4:p.getD k 0=p[k]:=by simp[Array.getD,h1]
    unfold PyProof.Rows.K;rw[e,Array.getElem?_map,getElem?_pos p k h1];show numOf (kas_item (pairsOf<|(QL n).map λi=>Value.int (f i) 0) p[k]).1=f p[k];rw[kas_item_eq,J _<|by rw[<- h4];exact h3];rfl
   have:=so i j (ED aa) (by rw[<- hs];exact Z);rw[U i hi,U j Z] at this;exact this
  .rw [hl];refine(vM<|by lia).wp (ans:=λi j=>decide<|f i<f j) (λi j C hi Z q=>?_) λz=>⟨z,rfl⟩
   unfold kas_ask;rw[J i hi,J j Z];exact kat_lt_int q
noncomputable abbrev AZ(h:Rv)(a:QK)(vs:List QM):Rv:=((h.update a<|R0 λ_=>#[]).push<|Tc "tuple" vs.toArray 0).push<|Tc "list" #[] 0
section
variable {prog:Q6}{w:Rf}{A:Rm}{E:QM->QO->Prop}{s:QO}
theorem B2{h:Rv}{a b:QK}{o:R6}(z:b≠a)(e:h.get? b=some o):(AZ h a vs).get? b=some o:=by
 refine QP _<|QP _ ?_;exact(R1 _ _<|Q4 z).trans e
theorem yI{a:QK}{κ:SortKind}{f:Nat->Int}{P:PySem.Fin->QO->Prop}(ho:s.heap.get? a=some (Tc "list" vs.toArray n))(hz:vs.length<64)
  (O:2<=vs.length->∀Q':SortKind->QO->Prop,Q' κ { s with heap:=AZ s.heap a vs }->QX (QZ prog w) A (keyKind' vs.toArray) Q' E { s with heap:=AZ s.heap a vs })
  (Z:2<=vs.length->∀i j C,i<vs.length->j<vs.length->C (decide<|f i<f j) { s with heap:=AZ s.heap a vs }->kas_ask prog w A κ vs i j C { s with heap:=AZ s.heap a vs })
  (h:∀p:List Nat,p.Perm (QL vs.length)->p.Pairwise (λi j=>f i<=f j)->P (.done<|.ret .none) { s with heap:=sortedHeap s.heap a vs (p.map λi=>vs.getD i Value.none).toArray }):QX (QZ prog w) A (TY.«list.sort» ⟨[.ref a],[]⟩) P E s:=by
 rw[list_sort_plain];have ha:a<s.heap.objs.size:=QT ho;refine QJ<|listItems_at ho rfl ?_;refine QJ<|listUpdate_at ho rfl ?_;obtain⟨e1,ab⟩:∃e1,(s.heap.update a<|R0 λ_=>#[]).get? a=some (Tc "list" #[] e1):=⟨_,get?_update_seq ho λ_=>#[]⟩
 refine QJ<|seqEpoch_at ab rfl ?_;refine QJ<|U1<|QJ<|wpAny_newList<|Rh ?_;have J:(AZ s.heap a vs).get? a=some (Tc "list" #[] e1):=QP _<|QP _ ab;show QX (QZ prog w) A _ P E { s with heap:=AZ s.heap a vs };dsimp only;have hsz:vs.toArray.size=vs.length:=iS ..;have hl:vs.length<=sizeLine:=cW (ED hz) (by decide);rw[hsz];by_cases h2:vs.length<2
 .rw [Z9 h2,Z9 h2];refine QJ<|QS ?_;rw[StateT.run_pure];refine QJ<|QS ?_;dsimp only;refine QJ<|seqEpoch_at J rfl ?_;refine QJ<|listUpdate_at J rfl ?_ (hsz2:=by rw[Array.size_map];show(pairsOf vs).size<=_;rw[pairsOf_size];lia);rw[Z8<|by simp];have o:=h (QL vs.length) (.refl _) (by
   rw[GA];intro i j _ hj _;rw[cU] at hj;lia)
  have e:(vs.toArray.zip vs.toArray).map (·.2)=((QL vs.length).map λi=>vs.getD i Value.none).toArray:=kat_snds (st:=SortSt.mk' κ (vs.toArray.zip vs.toArray) #[] 7 none) (ks:=vs) (p:=(QL vs.length).toArray) rfl (by
   have:=kas_range<|vs.toArray.zip vs.toArray;rw[show(vs.toArray.zip vs.toArray).size=vs.length by simp] at this;exact this.symm)
  rw[<- e] at o;exact QS o
 .rw [Z8 h2,Z8 h2];refine QJ<|O (by lia) _ ?_;refine QJ<|Rk (kat_run (ks:=vs) (κ:=κ) (Q:=λst s'=>s'={ s with heap:=AZ s.heap a vs }/\∃p:Array Nat,Pm vs.length p/\p=pick (λi j=>decide<|f i<f j) (U3 vs.length)/\arrOf st=p.map (kas_item<|vs.toArray.zip vs.toArray)/\failedOf st=none) (G:=λp s'=>s'={ s with heap:=AZ s.heap a vs }/\Pm vs.length p/\p=pick (λi j=>decide<|f i<f j) (U3 vs.length)) rfl (by lia) hz (λp U s' _ e g z=>⟨z.1,p,z.2.1,z.2.2,e,g⟩)<|(vM<|by lia).wp (Z<|by lia) λz=>⟨rfl,z,rfl⟩) ?_ λ_ _ e=>e;rintro⟨⟨⟩,U⟩ s' ⟨rfl,p,hp,ep,aa,hf⟩;dsimp only;refine QJ<|seqEpoch_at J rfl ?_;have hs:(arrOf U).size=vs.length:=by rw[aa,Array.size_map,hp.size_eq];simp
  refine QJ<|listUpdate_at J rfl ?_ (hsz2:=by rw[Array.size_map];lia);rw[hf,Z8<|by simp];have o:=h p.toList (Array.perm_iff_toList_perm.mp hp) (by rw[ep];exact sorts prog w s f (by lia) hz);rw[<- kat_snds rfl aa] at o;exact QS o
theorem ui{l:QK}{κ:SortKind}{f:Nat->Int}{Q:QM->QO->Prop}(hl:s.heap.IsList l vs.toArray)(hz:vs.length<64)
  (z:∀h':Rv,(∀b o,s.heap.get? b=some o->h'.get? b=some o)->2<=vs.length->∀(U:Rm) (E':QM->QO->Prop) (Q':SortKind->QO->Prop),Q' κ { s with heap:=h' }->QX (QZ prog w) U (keyKind' vs.toArray) Q' E' { s with heap:=h' })
  (J:∀h':Rv,(∀b o,s.heap.get? b=some o->h'.get? b=some o)->2<=vs.length->∀U i j C,i<vs.length->j<vs.length->C (decide<|f i<f j) { s with heap:=h' }->kas_ask prog w U κ vs i j C { s with heap:=h' })
  (h:∀p:List Nat,p.Perm (QL vs.length)->p.Pairwise (λi j=>f i<=f j)->Q (.ref<|s.heap.objs.size+1) { s with heap:=sortedAll s.heap vs (p.map λi=>vs.getD i Value.none).toArray }):QX (QZ prog w) A (call (.builtin "sorted") [.ref l]) Q E s:=by
 refine Calls.call_function_entry kind_sorted plain_sorted entry_sorted (args_sorted1 _) ?_;unfold TY.«sorted»;refine QJ (m:=checkCount "sorted" 1 1 _)<|QS ?_;refine QJ (collect_list hl ?_<|cW (ED hz)<|by decide);refine QJ<|wpAny_newList ?_;have Z:((s.heap.push<|Tc "list" #[] 0).update s.heap.objs.size<|R0 (·++vs.toArray)).objs.size=s.heap.objs.size+1:=(Heap.size_update ..).trans (size_push' ..);have g1:(((s.heap.push<|Tc "list" #[] 0).update s.heap.objs.size<|R0 (·++vs.toArray)).push<|Tc "list" vs.toArray 0).get? (s.heap.objs.size+1)=some (Tc "list" vs.toArray 0):=by
  rw[<- Z];exact Q0 _ rfl
 have O:∀b o,s.heap.get? b=some o->(AZ (((s.heap.push<|Tc "list" #[] 0).update s.heap.objs.size<|R0 (·++vs.toArray)).push<|Tc "list" vs.toArray 0) (s.heap.objs.size+1) vs).get? b=some o:=λb o e=>by
  have lt:=QT e;refine B2 (lD<|Nat.lt_succ_of_lt lt)<|QP _ ?_;exact(R1 _ _<|EC lt).trans<|QP _ e
 show QX _ _ _ _ _ { s with heap:=((s.heap.push<|Tc "list" #[] 0).update s.heap.objs.size<|R0 (·++vs.toArray)).push<|Tc "list" vs.toArray 0 };rw[Z];exact QJ<|Rh<|Sq slot_list_sort ⟨_,g1,rfl⟩ entry_list_sort (yI g1 hz (λh2 Q' q=>z _ O h2 _ _ Q' q) (λh2=>J _ O h2 _) λp a1 a2=>⟨_,rfl,QS ⟨_,rfl,h p a1 a2⟩⟩)<|args_list_sort _
end
end L2S
namespace L2
open PySem PySem.Spec PyProof.Rows L2S
variable {H:Hp}{tl:TE}{tb:TS}{g:TG}{K:W.Frag}{σ:St}
def jT(x y:Int×Int):Prop:=x.1<y.1∨(x.1=y.1/\x.2<y.2)
noncomputable instance (x y:Int×Int):Decidable<|jT x y:=by unfold jT;exact inferInstance
noncomputable abbrev mN:=QK×Int×Int
noncomputable def FU(zs:List mN)(v:Int×Int):Nat:=zs.countP λz=>decide<|jT z.2 v
theorem vk{zs:List mN}{x:mN}{v:Int×Int}(J:x∈zs):FU zs x.2<FU zs v↔jT x.2 v:=by
 have mono:∀(l:List mN) (a b:Int×Int),(∀z:Int×Int,jT z a->jT z b)->l.countP (λz=>decide<|jT z.2 a)<=l.countP (λz=>decide<|jT z.2 b):=λl a b h=>
  TJ λz _ e=>decide_eq_true<|h _<|of_decide_eq_true e
 constructor
 .intro h;by_cases e:jT x.2 v
  .exact e
  .have:=mono zs v x.2 λz O=>by unfold jT at*;lia
   unfold FU at h;lia
 .intro h;obtain⟨s,t,rfl⟩:=List.append_of_mem J;unfold FU;rw[List.countP_append,List.countP_append,Gz,Gz];have m:∀z:Int×Int,jT z x.2->jT z v:=λz O=>by unfold jT at*;lia
  have h1:=mono s x.2 v m;have h2:=mono t x.2 v m;have h3:decide (jT x.2 x.2)=false:=decide_eq_false (by unfold jT;lia);rw[h3,decide_eq_true h];simp only[Dy,if_false,if_true];lia
section
variable {prog:Q6}{w:Rf}{A:Rm}{E:QM->QO->Prop}{s:QO}
def kF(h:Rv)(z:mN):Prop:=L2.X4 λo t u n=>h.get? z.1=some o/\o.cls=.type "tuple"/\o.data=.seq #[.int z.2.1 t,.int z.2.2 u] n
theorem kF.keep{h h':Rv}{z:mN}(p:kF h z)(k:∀b o,h.get? b=some o->h'.get? b=some o):kF h' z:=let ⟨o,t,u,n,a,b,c⟩:=p;⟨o,t,u,n,k _ _ a,b,c⟩
theorem zx{a b a' b':Int}{t u t' J:Tok}{Q:Bool->QO->Prop}(h:Q (decide<|jT (a,b) (a',b')) s):PySem.W.KatLex prog w A true false Q [(.int a t,.int a' t'),(.int b u,.int b' J)] 0 s:=by
 refine PySem.W.kat_cons<|UN ?_;by_cases e:a=a'
 .rw [show(a==a')=true by simpa using e];refine PySem.W.kat_yes<|PySem.W.kat_cons<|UN ?_;by_cases e2:b=b'
  .rw [show(b==b')=true by simpa using e2];refine PySem.W.kat_yes<|PySem.W.kat_nil ?_;rw[decide_eq_false<|by unfold jT;dsimp only;lia] at h;exact h
  .rw [show(b==b')=false by simpa using e2];refine PySem.W.kat_no<|PySem.W.kat_one _ _<|lt_int ?_;have e3:decide (jT (a,b) (a',b'))=decide (b<b'):=by
    by_cases z:b<b'
    .rw [decide_eq_true z];exact decide_eq_true<|by unfold jT;dsimp only;lia
    .rw [decide_eq_false z];exact decide_eq_false<|by unfold jT;dsimp only;lia
   rw[e3] at h;exact h
 .rw [show(a==a')=false by simpa using e];refine PySem.W.kat_no ?_;have e3:decide (jT (a,b) (a',b'))=decide (a<a'):=by
   by_cases z:a<a'
   .rw [decide_eq_true z];exact decide_eq_true<|by unfold jT;dsimp only;lia
   .rw [decide_eq_false z];exact decide_eq_false<|by unfold jT;dsimp only;lia
  rw[e3] at h;exact oneLt_int h
theorem uX{h:Rv}:∀{zs:List mN},(∀z∈zs,kF h z)->∃fs,PySem.W.KatTups h (zs.map λz=>Value.ref z.1) fs/\fs.length=zs.length/\∀v∈fs,∃n t,v=Value.int n t
 |[],_=>⟨[],trivial,rfl,λv h=>by cases h⟩
 |z::r,hp=>by
  obtain⟨fs,f1,J,U⟩:=uX (zs:=r) λy Z=>hp y<|bK _ Z;obtain⟨o,t,u,n,a1,a2,a3⟩:=hp z bH;refine⟨.int z.2.1 t::fs,PySem.W.KatTups.cons a1 a2 a3 rfl f1,by rw[cP,cP,J],λv O=>?_⟩;rcases cL.mp O with e|e
  .exact ⟨_,_,e⟩
  .exact U v e
theorem rO{α J:Type}(g:α->J):∀{l:List J} {zs:List α},l.Perm (zs.map g)->∃ms:List α,ms.Perm zs/\l=ms.map g
 |[],zs,h=>by
  have:zs=[]:=by
   have:=h.length_eq;rw[yd,aM] at this;exact Bk.mp this.symm
  subst this;exact⟨[],.nil,rfl⟩
 |x::r,zs,h=>by
  obtain⟨z,O,e⟩:=xR.mp<|h.mem_iff.mp bH;obtain⟨a,b,rfl⟩:=List.append_of_mem O;have h2:(x::r).Perm<|x::(a++b).map g:=by
   refine h.trans ?_;rw[cF,iT,e,cF];exact List.perm_middle
  obtain⟨ms,U,Z⟩:=rO g<|List.Perm.cons_inv h2;exact⟨z::ms,(U.cons z).trans List.perm_middle.symm,by rw[Z,iT,e]⟩
theorem pQ{l:QK}{zs:List mN}{Q:QM->QO->Prop}(hl:s.heap.IsList l (zs.map λz=>Value.ref z.1).toArray)(hp:∀z∈zs,kF s.heap z)(hz:zs.length<64)
  (h:∀(ms:List mN),ms.Perm zs->ms.Pairwise (λx y=>¬ jT y.2 x.2)->Q (.ref<|s.heap.objs.size+1) { s with heap:=sortedAll s.heap (zs.map λz=>Value.ref z.1) (ms.map λz=>Value.ref z.1).toArray }):QX (QZ prog w) A (call (.builtin "sorted") [.ref l]) Q E s:=by
 have U:(zs.map λz=>Value.ref z.1).length=zs.length:=aM ..;have J:∀i,i<zs.length->(zs.map λz=>Value.ref z.1).getD i Value.none=.ref (zs.getD i (0,0,0)).1/\zs.getD i (0,0,0)∈zs:=λi hi=>by
  rw[iR,iR,dB,bV hi];exact⟨rfl,SG hi⟩
 refine ui (κ:=tuples' true) (f:=λi=>(FU zs (zs.getD i (0,0,0)).2:Int)) hl (by rw[U];exact hz) (λh' k h2 A' E' Q' q=>?_) (λh' k h2 A' i j C hi Z q=>?_) λp O p2=>?_
 .obtain ⟨fs,f1,f2,f3⟩:=uX (h:=h') λz hz=>(hp z hz).keep k;rw[U] at h2;refine PySem.W.kat_kind (T:=.type "int") f1 (by lia) (λv hv=>?_) rfl q;obtain⟨n,t,rfl⟩:=f3 v hv;exact .now
 .rw [U] at hi Z;obtain⟨e1,m1⟩:=J i hi;obtain⟨e2,m2⟩:=J j Z;unfold PySem.W.kas_ask;rw[e1,e2];obtain⟨o,t,u,n,a1,a2,a3⟩:=(hp _ m1).keep k;obtain⟨o',t',u',n',b1,b2,b3⟩:=(hp _ m2).keep k;refine PySem.W.kat_lt a1 a3 b1 b3<|zx ?_;rw[show decide (jT ((zs.getD i (0,0,0)).2.1,(zs.getD i (0,0,0)).2.2) ((zs.getD j (0,0,0)).2.1,(zs.getD j (0,0,0)).2.2))=decide ((FU zs (zs.getD i (0,0,0)).2:Int)<(FU zs (zs.getD j (0,0,0)).2:Int)) from decide_eq_decide.mpr<|(vk m1).symm.trans Int.ofNat_lt.symm];exact q
 .rw [U] at O;have pm:(p.map λi=>zs.getD i (0,0,0)).Perm zs:=by
   have:=O.map λi=>zs.getD i ((0,0,0):mN);rw[show(QL zs.length).map (λi=>zs.getD i ((0,0,0):mN))=zs from List.ext_getElem (by simp) λi h1 h2=>by simp[h2]] at this;exact this
  have e:(p.map λi=>(zs.map λz=>Value.ref z.1).getD i Value.none)=((p.map λi=>zs.getD i (0,0,0)).map λz=>Value.ref z.1):=by
   rw[AO];exact SM λi hi=>(J i<|mL.mp<|O.mem_iff.mp hi).1
  rw[e];refine h _ pm<|GB.mpr<|p2.imp_of_mem fun {i j} hi Z ab aa=>?_;have:=(vk (J j<|mL.mp<|O.mem_iff.mp Z).2).mpr aa;lia
end
theorem nP:∀{zs:List mN} {its:List QM},Vals (zs.map λz=>V.ref z.1) its->its=zs.map λz=>Value.ref z.1
 |[],_,.nil=>rfl
 |z::r,_,.cons a b=>by
  have e:=nP b;cases a;rw[e];rfl
theorem nX:∀ms:List mN,Vals (ms.map λz=>V.ref z.1) (ms.map λz=>Value.ref z.1)
 |[]=>.nil
 |_::r=>.cons rfl<|nX r
section
variable {X:Cx}
theorem qA:tF X (.builtin "sorted") λxs H Q=>L2.X2 λ(p:QK) (zs:List mN)=>xs=[.ref p]/\aD X.K H p (zs.map λz=>V.ref z.1)/\(∀z∈zs,aY X.K H z.1 [.int z.2.1,.int z.2.2])/\zs.length<64/\∀(l:QK) (ms:List mN),H l=none->ms.Perm zs->ms.Pairwise (λx y=>¬ jT y.2 x.2)->Q (.ref l) (upd H l<|.lst<|ms.map λz=>V.ref z.1):=by
 intro pins s σ H xs us Q I r h;obtain⟨p,zs,rfl,hq,hz,hn,q⟩:=h;obtain⟨u,rfl,rx⟩:=xV r;cases rx;obtain⟨its,r',pl,Z⟩:=I.list hq;obtain rfl:=nP r';have J:∀z∈zs,kF s.heap z:=λz O=>by
  obtain⟨it,rt,pt,_⟩:=I.tuple<|hz z O;obtain⟨a,b,rfl,⟨t,rfl⟩,⟨t',rfl⟩⟩:=FV rt;obtain⟨o,ho,hc,n,hd⟩:=pt;exact⟨o,t,t',n,ho,hc,hd⟩
 refine pQ pl.isList J hn λms U m2=>?_;obtain⟨e,he⟩:=sortedAll_at s.heap (zs.map λz=>Value.ref z.1) (ms.map λz=>Value.ref z.1).toArray;have aa:ms.length=zs.length:=U.length_eq;refine⟨.ref<|s.heap.objs.size+1,_,I.laid (t':=s.toks) (λb o e=>sortedAll_old e) (nN _) (o:=.lst<|ms.map λz=>V.ref z.1) ⟨?_,(ms.map λz=>Value.ref z.1),e,nX ms,he⟩,rfl,q _ ms (I.VF.fresh<|nN _) U m2⟩;rw[aM];exact bX<|by lia
end
open PySem PySem.Spec PyProof.Rows
def HK(K:W.Frag)(g:TG)(tb:TS)(D:Ends)(σ:St)(x:V)(H1:Hp):Prop:=∃a,x=.ref a/\(∃xs,aY K H1 a xs)/\∃W:Nat->Nat->St->Hp->Prop,(∃m,W 0 m σ H1)/\∀i m σ H,W i m σ H->
 ((AK K a).stop i H/\D.nx σ H)∨((AK K a).go i H/\∃N:St->Hp->Prop,(∀σ' H',N σ' H'->∃m',m'<m/\W (i+1) m' σ' H')/\∀x H',(AK K a).Wi i H x H'->g x σ H' λσ2 H2=>tb { D with nx:=N,ct:=N,bk:=D.nx } σ2 H2)
theorem qS{D:Ends}:ud (Fz K tl) g tb D σ H=tl σ H (λx H1=>HK K g tb D σ x H1):=rfl
theorem Cu{D:Ends}{a:QK}{xs:List V}(h:aY K H a xs)(z:Nat->St->Hp->Prop)(h0:z 0 σ H)(hl:∀i σ H,i<=xs.length->z i σ H->aY K H a xs)
  (O:∀i x σ H,xs[i]?=some x->z i σ H->g x σ H λJ H2=>tb { D with nx:=z<|i+1,ct:=z<|i+1,bk:=D.nx } J H2) (U:∀σ H,z xs.length σ H->D.nx σ H):HK K g tb D σ (.ref a) H:=
 ⟨a,rfl,⟨xs,h⟩,Cs z h0 hl O U⟩
def HR(K:W.Frag)(g:TG)(tt:TT)(te:TE)(σ0:St)(Q:VK)(x:V)(H1:Hp):Prop:=∃a,x=.ref a/\(∃xs,aY K H1 a xs)/\∃W:Nat->Nat->List V->St->Hp->Prop,(∃m,W 0 m [] σ0 H1)/\∀i m ys σ H,W i m ys σ H->
 ((AK K a).stop i H/\ys.length<=sizeLine/\∀p,H p=none->Q (.ref p) (upd H p<|.lst ys))∨
 ((AK K a).go i H/\ys.length<sizeLine/\∀x H',(AK K a).Wi i H x H'->g x σ H' λσ2 H2=>tt σ2 H2 λb H3=>if b=true then te σ2 H3 λy H4=>∃m',m'<m/\W (i+1) m' (ys++[y]) σ2 H4 else ∃m',m'<m/\W (i+1) m' ys σ2 H3)
theorem nU{k:Nat}{js:List Nat}{tt:TT}{te:TE}{Q:VK}:xF k js (Fz K tl) g tt te σ H Q=tl σ H (λx H1=>HR K g tt te (up k js σ) Q x H1):=rfl
end L2
namespace Gr
noncomputable def qt(m a:Int)(p:Nat):Int:=a*2^p/(2*m)
structure IsG(m a b:Int)(g:Nat):Prop where
 pos:1<=g
 eq:∀q,1<=q->q<g->qt m a q=qt m b q
 ne:qt m a g≠qt m b g
theorem p2pos(p:Nat):(0:Int)<2^p:=Int.pow_pos<|by decide
theorem IsG.uniq{m a b:Int}{g h:Nat}(x:IsG m a b g)(y:IsG m a b h):g=h:=by
 rcases Nat.lt_trichotomy g h with l|l|l
 .exact absurd (y.eq g x.pos l) x.ne
 .exact l
 .exact absurd (x.eq h y.pos l) y.ne
theorem qt_ne{m a b:Int}{p:Nat}(hm:0<m)(z:a+2<=b)(J:m<=2^p):qt m a p≠qt m b p:=by
 unfold qt;have h1:a*2^p+2*m<=b*2^p:=by
  have:(a+2)*2^p<=b*2^p:=Int.mul_le_mul_of_nonneg_right z<|Int.le_of_lt<|p2pos p;rw[Int.add_mul] at this;lia
 have h2:(a*2^p+2*m)/(2*m)<=b*2^p/(2*m):=Int.ediv_le_ediv (by lia) h1;rw[Int.add_ediv_of_dvd_right<|Int.dvd_refl _,Int.ediv_self<|by lia] at h2;lia
end Gr
namespace Pw
variable {f k pl stop x y z:Nat}{B l r:List Nat}{fal:Bool}{R:Nat->Nat->Prop}
noncomputable abbrev A3:=Nat×Nat×Bool
variable {pr':List A3}
inductive Pg(α:Type) where
 |ret (a:α):Pg α
 |ask (p q:Nat) (k:Bool->Pg α):Pg α
noncomputable def Pg.bind{α β:Type}(f:α->Pg β):Pg α->Pg β
 |.ret a=>f a
 |.ask p q k=>.ask p q λb=>(k b).bind f
noncomputable def VY{α:Type}(p q:Nat)(k:Bool->Pg α):Pg α:=.ask (max p q) (min p q) λb=>k (if q<p then b else !b)
noncomputable def Pg.run{α:Type}(An:Nat->Nat->Nat->Bool):Nat->Pg α->α×List A3
 |_,.ret a=>(a,[])
 |n,.ask p q k=>(((k<|An n p q).run An<|n+1).1,(p,q,An n p q)::((k<|An n p q).run An<|n+1).2)
section
variable {α β:Type}{n:Nat}{An:Nat->Nat->Nat->Bool}
def Wp(n:Nat)(An:Nat->Nat->Nat->Bool):Pg α->List A3->(α->List A3->Prop)->Prop
 |.ret a,pr,post=>post a pr
 |.ask p q k,pr,post=>q<p/\p<n/\pr.length<=800000/\Wp n An (k<|An pr.length p q) (pr++[(p,q,An pr.length p q)]) post
theorem Wp.imp{P Q:α->List A3->Prop}:∀{x:Pg α} {pr:List A3},Wp n An x pr P->(∀a pr',P a pr'->Q a pr')->Wp n An x pr Q
 |.ret a,pr,h,f=>f a pr h
 |.ask p q k,pr,h,f=>⟨h.1,h.2.1,h.2.2.1,h.2.2.2.imp f⟩
theorem Wp.bind{f:α->Pg β}{P:β->List A3->Prop}:∀{x:Pg α} {pr:List A3},Wp n An (x.bind f) pr P->Wp n An x pr λa pr'=>Wp n An (f a) pr' P
 |.ret a,pr,h=>h
 |.ask p q k,pr,h=>⟨h.1,h.2.1,h.2.2.1,Wp.bind h.2.2.2⟩
def Pg.Al:Pg α->(α->Prop)->Prop
 |.ret a,P=>P a
 |.ask _ _ k,P=>∀b,(k b).Al P
theorem Pg.Al.imp{P Q:α->Prop}:∀{x:Pg α},x.Al P->(∀a,P a->Q a)->x.Al Q
 |.ret a,h,f=>f a h
 |.ask _ _ k,h,f=>λb=>(h b).imp f
theorem Pg.Al.bind{f:α->Pg β}{P:β->Prop}:∀{x:Pg α},(x.Al λa=>(f a).Al P)->(x.bind f).Al P
 |.ret a,h=>h
 |.ask _ _ k,h=>λb=>Pg.Al.bind<|h b
theorem Wp.Wd{P:α->List A3->Prop}{Q:α->Prop}:∀{x:Pg α} {pr:List A3},Wp n An x pr P->x.Al Q->Wp n An x pr λa pr'=>Q a/\P a pr'
 |.ret a,pr,h,g=>⟨g,h⟩
 |.ask p q k,pr,h,g=>⟨h.1,h.2.1,h.2.2.1,h.2.2.2.Wd<|g _⟩
def Wa(n:Nat):Pg α->List A3->(α->List A3->Prop)->Prop
 |.ret a,pr,post=>post a pr
 |.ask p q k,pr,post=>q<p/\p<n/\pr.length<=800000/\∀b,Wa n (k b) (pr++[(p,q,b)]) post
theorem Wa.imp{P Q:α->List A3->Prop}:∀{x:Pg α} {pr:List A3},Wa n x pr P->(∀a pr',P a pr'->Q a pr')->Wa n x pr Q
 |.ret a,pr,h,f=>f a pr h
 |.ask p q k,pr,h,f=>⟨h.1,h.2.1,h.2.2.1,λb=>(h.2.2.2 b).imp f⟩
theorem Wa.bind{f:α->Pg β}{P:β->List A3->Prop}:∀{x:Pg α} {pr:List A3},(Wa n x pr λa pr'=>Wa n (f a) pr' P)->Wa n (x.bind f) pr P
 |.ret a,pr,h=>h
 |.ask p q k,pr,h=>⟨h.1,h.2.1,h.2.2.1,λb=>Wa.bind<|h.2.2.2 b⟩
theorem Wa.wp(An:Nat->Nat->Nat->Bool){P:α->List A3->Prop}:∀{x:Pg α} {pr:List A3},Wa n x pr P->Wp n An x pr λa pr'=>P a pr'/\(a,pr')=((x.run An pr.length).1,pr++(x.run An pr.length).2)
 |.ret a,pr,h=>⟨h,by rw[Pg.run,kH]⟩
 |.ask p q k,pr,h=>by
  refine⟨h.1,h.2.1,h.2.2.1,(Wa.wp An<|h.2.2.2 _).imp λa pr' z=>⟨z.1,?_⟩⟩;have e:(pr++[(p,q,An pr.length p q)]).length=pr.length+1:=by rw[aU];rfl
  rw[z.2,Pg.run,e,jU];rfl
end
def Td(pr:List A3)(p q:Nat):Prop:=∃b,(max p q,min p q,b)∈pr/\(if q<p then b else !b)=true
theorem Td.mono{pr:List A3}{p q:Nat}(h:Td pr p q)(f:pr<+:pr'):Td pr' p q:=let ⟨b,h1,h2⟩:=h;⟨b,f.subset h1,h2⟩
theorem Wa.VY{α:Type}{n p q:Nat}{pr:List A3}{k:Bool->Pg α}{P:α->List A3->Prop}(J:p≠q)(U:p<n)(O:q<n)(hl:pr.length<=800000)
  (h:∀b pr',pr<+:pr'->pr'.length=pr.length+1->(b=true->Td pr' p q)->(b=false->Td pr' q p)->Wa n (k b) pr' P):Wa n (VY p q k) pr P:=by
 refine⟨by lia,by lia,hl,λb=>h _ _ (List.prefix_append _ _) (by rw[aU];rfl) (λz=>⟨b,gR _ bH,z⟩) λz=>⟨b,gR _ (by rw[show max q p=max p q by lia,show min q p=min p q by lia];exact bH),?_⟩⟩;by_cases c:q<p
 .rw [Z9 c] at z;rw[Z8<|by lia,z];rfl
 .rw [Z8 c] at z;rw[Z9<|by lia];cases b
  .cases z
  .rfl
def Nb(R:Nat->Nat->Prop):List Nat->Prop
 |[]=>True
 |[_]=>True
 |a::b::l=>R a b/\Nb R (b::l)
theorem Nb.mono{R S:Nat->Nat->Prop}(f:∀a b,R a b->S a b):∀{l:List Nat},Nb R l->Nb S l
 |[],_=>trivial
 |[_],_=>trivial
 |_::_::_,h=>⟨f _ _ h.1,Nb.mono f h.2⟩
theorem Nb.split{R:Nat->Nat->Prop}{x:Nat}{r:List Nat}:∀{l:List Nat},Nb R (l++x::r)↔Nb R (l++[x])/\Nb R (x::r)
 |[]=>⟨λh=>⟨trivial,h⟩,λh=>h.2⟩
 |[a]=>⟨λh=>⟨⟨h.1,trivial⟩,h.2⟩,λh=>⟨h.1.1,h.2⟩⟩
 |a::b::l=>⟨λh=>⟨⟨h.1,(Nb.split (l:=b::l).mp h.2).1⟩,(Nb.split (l:=b::l).mp h.2).2⟩,λh=>⟨h.1.1,(Nb.split (l:=b::l)).mpr ⟨h.1.2,h.2⟩⟩⟩
theorem Nb.left(h:Nb R<|l++r):Nb R l:=by
 induction l with
 |nil=>exact trivial
 |cons a l ih=>
  cases l with
  |nil=>exact trivial
  |cons b l=>exact⟨h.1,ih h.2⟩
theorem Nb.right{R:Nat->Nat->Prop}{r:List Nat}:∀{l:List Nat},Nb R (l++r)->Nb R r
 |[],h=>h
 |[a],h=>by
  cases r with
  |nil=>exact trivial
  |cons b r=>exact h.2
 |a::b::l,h=>Nb.right (l:=b::l) h.2
theorem Nb.two:Nb R (l++x::y::r)↔Nb R (l++[x])/\R x y/\Nb R (y::r):=Nb.split
theorem Nb.rev{R:Nat->Nat->Prop}:∀{l:List Nat},Nb (λa b=>R b a) l->Nb R l.reverse
 |[],_=>trivial
 |[_],_=>trivial
 |a::b::l,h=>by
  have:=Nb.rev h.2;rw[GG] at this;rw[GG,GG,jU];exact Nb.two.mpr ⟨this,h.1,trivial⟩
noncomputable abbrev Nt(pr:List A3):List Nat->Prop:=Nb<|Td pr
theorem Nt.mono{pr:List A3}(h:Nt pr l)(f:pr<+:pr'):Nt pr' l:=Nb.mono (λ_ _ z=>z.mono f) h
noncomputable def pZ(os:List Nat)(pl:Nat):Nat->Nat->Nat->Pg (Nat×Nat)
 |0,lo,hi=>.ret (lo,hi)
 |n+1,lo,hi=>if hi<os.length then VY (os.getD hi 0) pl λb=>if b then pZ os pl n (hi+1) (2*hi+1) else .ret (lo,hi) else .ret (lo,hi)
noncomputable def iO(os:List Nat)(pl:Nat):Nat->Nat->Nat->Pg Nat
 |0,_,hi=>.ret hi
 |n+1,lo,hi=>if lo<hi then VY (os.getD ((lo+hi-1)/2) 0) pl λb=>if b then iO os pl n ((lo+hi-1)/2+1) hi else iO os pl n lo ((lo+hi-1)/2) else .ret hi
noncomputable def GQ(os:List Nat)(pl:Nat):Pg Nat:=(pZ os pl os.length 0 0).bind λr=>iO os pl os.length r.1<|min r.2 os.length
noncomputable def wb:Nat->Bool->Nat->List Nat->List Nat->List Nat->Pg (List Nat)
 |n+1,s,w,x::l,y::r,acc=>VY x y λb=>
  if (if b=s then w+1 else 1)=4 then
   if b then(GQ l y).bind λk=>if k<l.length then wb n b 0 (l.drop k) r (acc++x::l.take k++[y]) else wb n b 0 (l.drop k) (y::r) (acc++x::l.take k)
   else(GQ r x).bind λk=>if k<r.length then wb n b 0 l (r.drop k) (acc++y::r.take k++[x]) else wb n b 0 (x::l) (r.drop k) (acc++y::r.take k)
  else if b then wb n b (if b=s then w+1 else 1) l (y::r) (acc++[x]) else wb n b (if b=s then w+1 else 1) (x::l) r (acc++[y])
 |_,_,_,l,r,acc=>.ret<|acc++l++r
noncomputable def IA(l r:List Nat):Pg<|List Nat:=wb (l.length+r.length) true 0 l r []
noncomputable def AS(os:List Nat)(pl:Nat):Nat->Nat->Nat->Pg Nat
 |0,lo,_=>.ret lo
 |n+1,lo,hi=>if lo<hi then VY (os.getD ((lo+hi)/2) 0) pl λb=>if b then AS os pl n ((lo+hi)/2+1) hi else AS os pl n lo ((lo+hi)/2) else .ret lo
noncomputable def Az(os:List Nat)(pl:Nat):Pg Nat:=AS os pl os.length 0 os.length
noncomputable def lY(os:List Nat)(r x:Nat):List Nat:=os.take r++x::os.drop r
noncomputable def jM(sp:List Nat->Nat->Pg Nat):Nat->Nat->List Nat->Pg (List Nat)
 |0,_,os=>.ret os
 |n+1,pl,os=>(sp os pl).bind λr=>jM sp n (pl+1)<|lY os r pl
noncomputable def pW(stop:Nat)(fal:Bool):Nat->Nat->Pg (Nat×Bool)
 |0,by'=>.ret (by',fal)
 |n+1,by'=>if by'<stop then VY by' (by'-1) λb=>if b=fal then pW stop fal n (by'+1) else .ret (by',fal) else .ret (by',fal)
noncomputable def uh(stop first:Nat):Pg<|Nat×Bool:=if first+1<stop then VY (first+1) first λb=>pW stop b stop (first+2) else .ret (first+1,false)
noncomputable def dJ(a b:Nat)(f:Bool):List Nat:=if f then(Q8 a<|b-a).reverse else Q8 a (b-a)
noncomputable def Jc(ls stop first:Nat):Pg<|Nat×List Nat:=(uh stop first).bind λr=>(jM Az (min (first+ls) stop-r.1) r.1<|dJ first r.1 r.2).bind λos=>.ret (r.1,os)
section
variable {n:Nat}{pr:List A3}
def In(n:Nat)(os:List Nat)(pl:Nat):Prop:=∀x∈os,x<n/\x≠pl
theorem qD{os:List Nat}{i:Nat}(h:i<os.length):os[i]?=some (os.getD i 0)/\os.getD i 0∈os:=by
 rw[iR,bV h];exact⟨rfl,SG h⟩
structure Bd(pr:List A3)(os:List Nat)(pl lo hi:Nat):Prop where
 lo:lo=0∨Td pr (os.getD (lo-1) 0) pl
 hi:os.length<=hi∨Td pr pl (os.getD hi 0)
theorem vQ{os:List Nat}{pl:Nat}(J:In n os pl)(VD:pl<n):∀(m lo hi:Nat) (pr:List A3),os.length<=m+hi->lo<=hi->hi<=2*lo->lo<=os.length->Bd pr os pl lo os.length->pr.length+2*os.length<=800000+lo->Wa n (pZ os pl m lo hi) pr λr pr'=>pr<+:pr'/\r.1<=r.2/\r.2<=2*r.1/\r.1<=os.length/\Bd pr' os pl r.1 r.2/\pr'.length+lo<=pr.length+r.1+1
 |0,lo,hi,pr,hm,h1,h2,h3,b,c=>⟨gZ _,h1,h2,h3,⟨b.lo,.inl<|by lia⟩,by lia⟩
 |m+1,lo,hi,pr,hm,h1,h2,h3,b,c=>by
  rw[pZ.eq_2];by_cases z:hi<os.length
  .rw [Z9 z];obtain⟨g1,O⟩:=qD z;refine Wa.VY (J _ O).2 (J _ O).1 VD (by lia) λb' pr' f1 l1 Z U=>?_;cases b'
   .exact ⟨f1,h1,h2,h3,⟨b.lo.imp id λz=>z.mono f1,.inr<|U rfl⟩,by lia⟩
   .refine (vQ J VD m (hi+1) (2*hi+1) pr' (by lia) (by lia) (by lia) (by lia) ⟨.inr<|Z rfl,.inl<|aL _⟩<|by lia).imp λr pr2 h=>⟨f1.trans h.1,h.2.1,h.2.2.1,h.2.2.2.1,h.2.2.2.2.1,?_⟩
    have:=h.2.2.2.2.2;lia
  .rw [Z8 z];exact⟨gZ _,h1,h2,h3,⟨b.lo,.inl<|by lia⟩,by lia⟩
theorem KI{os:List Nat}{pl:Nat}(J:In n os pl)(VD:pl<n):∀(m lo hi:Nat) (pr:List A3),hi-lo<=m->lo<=hi->hi<=os.length->Bd pr os pl lo hi->pr.length+(hi-lo)<=800000->Wa n (iO os pl m lo hi) pr λr pr'=>pr<+:pr'/\lo<=r/\r<=hi/\Bd pr' os pl r r/\pr'.length<=pr.length+(hi-lo)
 |0,lo,hi,pr,hm,h1,h2,b,c=>by
  have:lo=hi:=by lia
  subst this;exact⟨gZ _,h1,h1,b,by lia⟩
 |m+1,lo,hi,pr,hm,h1,h2,b,c=>by
  rw[iO.eq_2];by_cases z:lo<hi
  .rw [Z9 z];have O:lo<=(lo+hi-1)/2:=by lia
   have U:(lo+hi-1)/2<hi:=by lia
   generalize (lo+hi-1)/2=mi at O U;obtain⟨g1,Z⟩:=qD (os:=os) (i:=mi) (by lia);refine Wa.VY (J _ Z).2 (J _ Z).1 VD (by lia) λb' pr' f1 l1 t1 t2=>?_;cases b'
   .refine (KI J VD m lo mi pr' (by lia) (by lia) (by lia) ⟨b.lo.imp id λz=>z.mono f1,.inr<|t2 rfl⟩<|by lia).imp λr pr2 h=>⟨f1.trans h.1,h.2.1,?_,h.2.2.2.1,?_⟩
    .have:=h.2.2.1;lia
    .have:=h.2.2.2.2;lia
   .refine (KI J VD m (mi+1) hi pr' (by lia) (by lia) (by lia) ⟨.inr<|t1 rfl,b.hi.imp id λz=>z.mono f1⟩<|by lia).imp λr pr2 h=>⟨f1.trans h.1,?_,h.2.2.1,h.2.2.2.1,?_⟩
    .have:=h.2.1;lia
    .have:=h.2.2.2.2;lia
  .rw [Z8 z];have:lo=hi:=by lia
   subst this;exact⟨gZ _,h1,h1,b,by lia⟩
theorem rV{os:List Nat}(J:In n os pl)(VD:pl<n)(c:pr.length+3*os.length+2<=800000):Wa n (GQ os pl) pr λk pr'=>pr<+:pr'/\k<=os.length/\Bd pr' os pl k k/\pr'.length<=pr.length+2*k+1:=by
 refine Wa.bind<|(vQ J VD os.length 0 0 pr (by lia) (aL _) (aL _) (dU _) ⟨.inl rfl,.inl<|aL _⟩<|by lia).imp λr pr' h=>?_;obtain⟨f1,h1,h2,h3,b,Z⟩:=h;have O:Bd pr' os pl r.1<|min r.2 os.length:=⟨b.lo,by
  by_cases z:r.2<os.length
  .rw [xQ<|by lia];exact b.hi
  .exact .inl (by lia)⟩
 refine(KI J VD os.length r.1 (min r.2 os.length) pr' (by lia) (by lia) (by lia) O<|by lia).imp λk pr2 h=>⟨f1.trans h.1,?_,h.2.2.2.1,?_⟩
 .have:=h.2.2.1;lia
 .have g1:=h.2.2.2.2;have U:=h.2.1;lia
theorem Nb.app{A:List Nat}(h1:Nb R A)(h2:Nb R B)(h:∀J z u O,A=J++[z]->B=u::O->R z u):Nb R<|A++B:=by
 cases B with
 |nil=>rw[kH];exact h1
 |cons u B=>
  rcases SF A with rfl|⟨J,z,rfl⟩
  .exact h2
  .rw [RY,jU];rw[RY] at h1 h;exact Nb.two.mpr ⟨h1,h J z u B rfl rfl,h2⟩
theorem JX{os A:List Nat}(J:k<=os.length)(h:os.take k=A++[z]):0<k/\z=os.getD (k-1) 0:=by
 have e:=congrArg Rr h;rw[kP,aU,iK] at e;refine⟨by lia,?_⟩;have e2:(os.take k)[k-1]?=some z:=by rw[h,gI<|by lia,show k-1-A.length=0 by lia];rfl
 rw[List.getElem?_take,Z9<|by lia] at e2;rw[iR,e2];rfl
theorem JU{os:List Nat}(h:os.drop k=z::B):k<os.length/\z=os.getD k 0:=by
 have e:=congrArg Rr h;rw[lC,cP] at e;refine⟨by lia,?_⟩;have e2:(os.drop k)[0]?=some z:=by rw[h];rfl
 rw[List.getElem?_drop,TB] at e2;rw[iR,e2];rfl
theorem Nb.take{os:List Nat}(h:Nb R os)(k:Nat):Nb R<|os.take k:=Nb.left (r:=os.drop k)<|by rw[xP];exact h
theorem Nb.drop{os:List Nat}(h:Nb R os)(k:Nat):Nb R<|os.drop k:=Nb.right (l:=os.take k)<|by rw[xP];exact h
theorem JM{A:List Nat}(h:A++[y]=B++[z]):y=z:=by
 have:=congrArg List.getLast? h;rw[List.getLast?_append,List.getLast?_append] at this;exact QR this
theorem vG{acc m t:List Nat}(h1:Nt pr<|acc++x::m)(h2:Nt pr<|acc++y::t)(O:Td pr x y)(Z:k<=m.length)(b:Bd pr m y k k):Nt pr (acc++x::m.take k++y::t)/\(k<m.length->Nt pr (acc++x::m.take k++[y]++m.drop k)):=by
 have e:acc++x::m=(acc++x::m.take k)++m.drop k:=by rw[jU,Et,xP]
 rw[e] at h1;have hl:∀t',Nt pr (y::t')->Nt pr (acc++x::m.take k++y::t'):=λt' U=>Nb.app h1.left U λA z u B J e2=>by
  cases e2;rcases SF (m.take k) with e3|⟨M,z',e3⟩
  .rw [e3] at J;rw[<- JM J];exact O
  .rw [RY] at e3;obtain⟨k0,e4⟩:=JX Z e3;rw[e3,<- Et,<- jU] at J;rw[<- JM J,e4];rcases b.lo with z|z
   .lia
   .exact z
 refine⟨hl t h2.right,λaa=>Nb.app (hl [] trivial) h1.right λA z u B J e2=>?_⟩;rw[<- JM J,(JU e2).2];rcases b.hi with z|z
 .lia
 .exact z
theorem LZ{A:List Nat}(h:∀c,A.count c=B.count c):A.Perm B:=List.perm_iff_count.mpr h
theorem Ig(l:List Nat)(k c:Nat):(l.take k).count c+(l.drop k).count c=l.count c:=by rw[<- xO,xP]
structure Tw(n:Nat)(A B:List Nat):Prop where
 l:∀x∈A,x<n
 r:∀x∈B,x<n
 d:∀x∈A,∀y∈B,x≠y
theorem Tw.sub{J r':List Nat}(h:Tw n l r)(h1:∀x∈J,x∈l)(h2:∀x∈r',x∈r):Tw n J r':=⟨λx z=>h.l x<|h1 x z,λx z=>h.r x<|h2 x z,λx z y w=>h.d x (h1 x z) y<|h2 y w⟩
theorem Gg:∀(m:Nat) (s:Bool) (w:Nat) (l r acc:List Nat) (pr:List A3),l.length+r.length<=m->w<=3->Tw n l r->Nt pr (acc++l)->Nt pr (acc++r)->pr.length+5*(l.length+r.length)+w<=800000->
  Wa n (wb m s w l r acc) pr λos pr'=>os.Perm (acc++l++r)/\Nt pr' os/\pr<+:pr'/\pr'.length<=pr.length+2*(l.length+r.length)+w
 |0,s,w,l,r,acc,pr,hm,hw,t,n1,n2,c=>by
  have e1:l=[]:=Bk.mp (by lia);subst e1;refine⟨.refl _,?_,gZ _,by lia⟩;rw[kH];exact n2
 |m+1,s,w,[],r,acc,pr,hm,hw,t,n1,n2,c=>by
  refine⟨.refl _,?_,gZ _,by lia⟩;rw[kH];exact n2
 |m+1,s,w,x::l,[],acc,pr,hm,hw,t,n1,n2,c=>by
  refine⟨.refl _,?_,gZ _,by lia⟩;rw[kH];exact n1
 |m+1,s,w,x::l,y::r,acc,pr,hm,hw,t,n1,n2,c=>by
  rw[wb];simp only[cP] at hm c;have aa:=t.d x bH y bH;refine Wa.VY aa (t.l x bH) (t.r y bH) (by lia) λb pr1 f1 l1 t1 t2=>?_;replace n1:=n1.mono f1;replace n2:=n2.mono f1;have J:∀(os A L R:List Nat) (pr2:List A3) (k:Nat),os.Perm (A++L++R)->(∀c,(A++L++R).count c=(acc++x::l++y::r).count c)->os.Perm (acc++x::l++y::r):=λos A L R _ _ h1 h2=>h1.trans<|LZ h2;have Z:(if b=s then w+1 else 1)<=w+1:=by split<;>lia
  by_cases h4:(if b=s then w+1 else 1)=4
  .rw [Z9 h4];rw[h4] at Z;cases b
   .rw [Z8<|by decide];refine Wa.bind<|(rV (os:=r) (pl:=x) (pr:=pr1) (λu z=>⟨t.r u<|bK _ z,Q4<|t.d x bH u<|bK _ z⟩) (t.l x bH)<|by lia).imp λk pr2 h=>?_;obtain⟨U,hk,bd,hc⟩:=h;obtain⟨g1,g2⟩:=vG (n2.mono U) (n1.mono U) ((t2 rfl).mono U) hk bd;have hd:(r.drop k).length=r.length-k:=lC ..;have O:=f1.trans U;have sub:∀u∈r.drop k,u∈y::r:=λu z=>bK _<|R9 z;have e2:acc++y::r.take k++r.drop k=acc++y::r:=by rw[jU,Et,xP]
    by_cases Xn:k<r.length
    .rw [Z9 Xn];refine(Gg m false 0 l (r.drop k) _ pr2 (by lia) (by decide) (t.sub (λu z=>bK _ z) sub) (by rw[jU];exact g1) (g2 Xn)<|by lia).imp λos pr3 h=>⟨J os _ _ _ pr3 0 h.1 λc=>?_,h.2.1,O.trans h.2.2.1,?_⟩
     .have:=Ig r k c;simp only[xO,Bj,Dt];lia
     .have:=h.2.2.2;simp only[cP];lia
    .rw [Z8 Xn];refine(Gg m false 0 (x::l) (r.drop k) _ pr2 (by rw[cP];lia) (by decide) (t.sub (λu z=>z) sub) g1 (by rw[e2];exact n2.mono U)<|by rw[cP];lia).imp λos pr3 h=>⟨J os _ _ _ pr3 0 h.1 λc=>?_,h.2.1,O.trans h.2.2.1,?_⟩
     .have:=Ig r k c;simp only[xO,Bj,Dt];lia
     .have:=h.2.2.2;simp only[cP] at*;lia
   .rw [Z9 rfl];refine Wa.bind<|(rV (os:=l) (pl:=y) (pr:=pr1) (λu z=>⟨t.l u<|bK _ z,t.d u (bK _ z) y bH⟩) (t.r y bH)<|by lia).imp λk pr2 h=>?_;obtain⟨U,hk,bd,hc⟩:=h;obtain⟨g1,g2⟩:=vG (n1.mono U) (n2.mono U) ((t1 rfl).mono U) hk bd;have hd:(l.drop k).length=l.length-k:=lC ..;have O:=f1.trans U;have sub:∀u∈l.drop k,u∈x::l:=λu z=>bK _<|R9 z;have e2:acc++x::l.take k++l.drop k=acc++x::l:=by rw[jU,Et,xP]
    by_cases Xn:k<l.length
    .rw [Z9 Xn];refine(Gg m true 0 (l.drop k) r _ pr2 (by lia) (by decide) (t.sub sub λu z=>bK _ z) (g2 Xn) (by rw[jU];exact g1)<|by lia).imp λos pr3 h=>⟨J os _ _ _ pr3 0 h.1 λc=>?_,h.2.1,O.trans h.2.2.1,?_⟩
     .have:=Ig l k c;simp only[xO,Bj,Dt];lia
     .have:=h.2.2.2;simp only[cP];lia
    .rw [Z8 Xn];refine(Gg m true 0 (l.drop k) (y::r) _ pr2 (by rw[cP];lia) (by decide) (t.sub sub λu z=>z) (by rw[e2];exact n1.mono U) g1<|by rw[cP];lia).imp λos pr3 h=>⟨J os _ _ _ pr3 0 h.1 λc=>?_,h.2.1,O.trans h.2.2.1,?_⟩
     .have:=Ig l k c;simp only[xO,Bj,Dt];lia
     .have:=h.2.2.2;simp only[cP] at*;lia
  .rw [Z8 h4];generalize (if b=s then w+1 else 1)=w' at h4 Z⊢;cases b
   .rw [Z8<|by decide];refine(Gg m false w' (x::l) r (acc++[y]) pr1 (by rw[cP];lia) (by lia) (t.sub (λu z=>z) λu z=>bK _ z) ?_ (by rw[jU];exact n2)<|by rw[cP];lia).imp λos pr3 h=>⟨J os _ _ _ pr3 0 h.1 λc=>?_,h.2.1,f1.trans h.2.2.1,?_⟩
    .rw [jU];exact Nb.two.mpr ⟨(Nb.split.mp n2).1,t2 rfl,(Nb.split.mp n1).2⟩
    .simp only[xO,Bj,Dt];lia
    .have:=h.2.2.2;simp only[cP] at*;lia
   .rw [Z9 rfl];refine(Gg m true w' l (y::r) (acc++[x]) pr1 (by rw[cP];lia) (by lia) (t.sub (λu z=>bK _ z) λu z=>z) (by rw[jU];exact n1) ?_<|by rw[cP];lia).imp λos pr3 h=>⟨J os _ _ _ pr3 0 h.1 λc=>?_,h.2.1,f1.trans h.2.2.1,?_⟩
    .rw [jU];exact Nb.two.mpr ⟨(Nb.split.mp n1).1,t1 rfl,(Nb.split.mp n2).2⟩
    .simp only[xO,Bj,Dt];lia
    .have:=h.2.2.2;simp only[cP] at*;lia
theorem lX(t:Tw n l r)(n1:Nt pr l)(n2:Nt pr r)(c:pr.length+5*(l.length+r.length)<=800000):Wa n (IA l r) pr λos pr'=>os.Perm (l++r)/\Nt pr' os/\pr<+:pr'/\pr'.length<=pr.length+2*(l.length+r.length):=
 (Gg _ true 0 l r [] pr (aL _) (by decide) t n1 n2 c).imp λ_ _ h=>h
theorem K6{os:List Nat}{pl:Nat}(J:In n os pl)(VD:pl<n):∀(m lo hi:Nat) (pr:List A3),hi-lo<=m->lo<=hi->hi<=os.length->Bd pr os pl lo hi->pr.length+(hi-lo)<=800000->Wa n (AS os pl m lo hi) pr λr pr'=>pr<+:pr'/\r<=hi/\Bd pr' os pl r r/\pr'.length<=pr.length+(hi-lo)
 |0,lo,hi,pr,hm,h1,h2,b,c=>by
  have:lo=hi:=by lia
  subst this;exact⟨gZ _,h1,b,by lia⟩
 |m+1,lo,hi,pr,hm,h1,h2,b,c=>by
  rw[AS.eq_2];by_cases z:lo<hi
  .rw [Z9 z];have O:lo<=(lo+hi)/2:=by lia
   have U:(lo+hi)/2<hi:=by lia
   generalize (lo+hi)/2=mi at O U;obtain⟨g1,Z⟩:=qD (os:=os) (i:=mi) (by lia);refine Wa.VY (J _ Z).2 (J _ Z).1 VD (by lia) λb' pr' f1 l1 t1 t2=>?_;cases b'
   .refine (K6 J VD m lo mi pr' (by lia) (by lia) (by lia) ⟨b.lo.imp id λz=>z.mono f1,.inr<|t2 rfl⟩<|by lia).imp λr pr2 h=>⟨f1.trans h.1,?_,h.2.2.1,?_⟩
    .have:=h.2.1;lia
    .have:=h.2.2.2;lia
   .refine (K6 J VD m (mi+1) hi pr' (by lia) (by lia) (by lia) ⟨.inr<|t1 rfl,b.hi.imp id λz=>z.mono f1⟩<|by lia).imp λr pr2 h=>⟨f1.trans h.1,h.2.1,h.2.2.1,?_⟩
    have:=h.2.2.2;lia
  .rw [Z8 z];have:lo=hi:=by lia
   subst this;exact⟨gZ _,h1,b,by lia⟩
theorem zD{os:List Nat}{r:Nat}(h:Nt pr os)(O:r<=os.length)(b:Bd pr os pl r r):Nt pr<|lY os r pl:=by
 refine Nb.app (h.take r) (B:=[pl]++os.drop r) (Nb.app trivial (h.drop r) λA z u B J e2=>?_) λA z u B J e2=>?_
 .cases A with
  |nil=>
   cases J;rw[(JU e2).2];have:=(JU e2).1;rcases b.hi with z|z
   .lia
   .exact z
  |cons a A=>simp at J
 .cases e2;obtain⟨U,e4⟩:=JX O J;rw[e4];rcases b.lo with z|z
  .lia
  .exact z
theorem dH{os:List Nat}{r:Nat}:(lY os r x).Perm<|os++[x]:=LZ λc=>by
 unfold lY;have:=Ig os r c;simp only[xO,Bj,Dt];lia
theorem Gp(f k:Nat):Q8 f (k+1)=Q8 f k++[f+k]:=by rw[List.range'_concat];simp
theorem K1{f:Nat}:∀(m pl:Nat) (os:List Nat) (pr:List A3),os.Perm (Q8 f<|pl-f)->f<=pl->pl+m<=n->n-f<=120->Nt pr os->pr.length+120*m<=800000->Wa n (jM Az m pl os) pr λos' pr'=>os'.Perm (Q8 f<|pl+m-f)/\Nt pr' os'/\pr<+:pr'/\pr'.length<=pr.length+120*m
 |0,pl,os,pr,hp,hf,hn,hk,h,c=>⟨hp,h,gZ _,by lia⟩
 |m+1,pl,os,pr,hp,hf,hn,hk,h,c=>by
  have hl:=hp.length_eq;rw[Er] at hl;have J:In n os pl:=λx U=>by
   have:=List.mem_range'_1.mp<|hp.mem_iff.mp U;lia
  refine Wa.bind<|(K6 J (by lia) os.length 0 os.length pr (by lia) (dU _) (aL _) ⟨.inl rfl,.inl<|aL _⟩<|by lia).imp λr pr' g=>?_;obtain⟨f1,g1,O,Z⟩:=g;refine(K1 m (pl+1) (lY os r pl) pr' ?_ (by lia) (by lia) hk (zD (h.mono f1) g1 O)<|by lia).imp λos' pr2 z=>⟨?_,z.2.1,f1.trans z.2.2.1,?_⟩
  .refine dH.trans ?_;rw[show pl+1-f=pl-f+1 by lia,Gp,show f+(pl-f)=pl by lia];exact hp.append_right _
  .rw [show pl+(m+1)-f=pl+1+m-f by lia];exact z.1
  .have:=z.2.2.2;lia
def Sf(pr:List A3)(f j:Nat)(fal:Bool):Prop:=Nb (λa b=>if fal then Td pr b a else Td pr a b)<|Q8 f<|j-f
theorem Sf.turn{j:Nat}(h:Sf pr f j fal):Nt pr<|dJ f j fal:=by
 unfold dJ;cases fal
 .exact h
 .exact Nb.rev h
theorem Sf.snoc{j:Nat}(h:Sf pr f j fal)(g:pr<+:pr')(J:f<j)(t:if fal then Td pr' j (j-1) else Td pr' (j-1) j):Sf pr' f (j+1) fal:=by
 unfold Sf;rw[show j+1-f=(j-f-1)+1+1 by lia,Gp,Gp,jU];have e:Q8 f (j-f)=Q8 f (j-f-1)++[f+(j-f-1)]:=by rw[<- Gp,show j-f-1+1=j-f by lia]
 refine Nb.two.mpr ⟨?_,?_,trivial⟩
 .rw [<- e];refine Nb.mono (λa b z=>?_) h;cases fal
  .exact Td.mono z g
  .exact Td.mono z g
 .rw [show f+(j-f-1)=j-1 by lia,show f+(j-f-1+1)=j by lia];exact t
theorem vg{stop f:Nat}(U:stop<=n)(fal:Bool):∀(m j:Nat) (pr:List A3),stop<=m+j->f<j->j<=stop->Sf pr f j fal->pr.length+(stop-j)<=800000->Wa n (pW stop fal m j) pr λr pr'=>pr<+:pr'/\j<=r.1/\r.1<=stop/\Sf pr' f r.1 r.2/\pr'.length<=pr.length+(r.1-j)+1
 |0,j,pr,hm,h1,h2,h3,c=>⟨gZ _,aL _,h2,h3,by lia⟩
 |m+1,j,pr,hm,h1,h2,h3,c=>by
  rw[pW.eq_2];by_cases z:j<stop
  .rw [Z9 z];refine Wa.VY (by lia) (by lia) (by lia) (by lia) λb pr' f1 l1 O J=>?_;by_cases zb:b=fal
   .rw [Z9 zb];subst zb;refine(vg U b m (j+1) pr' (by lia) (by lia) (by lia) (h3.snoc f1 h1 ?_)<|by lia).imp λr pr2 h=>⟨f1.trans h.1,Nat.le_of_succ_le h.2.1,h.2.2.1,h.2.2.2.1,?_⟩
    .cases b
     .exact J rfl
     .exact O rfl
    .have:=h.2.2.2.2;have:=h.2.1;lia
   .rw [Z8 zb];refine⟨f1,aL _,h2,?_,by lia⟩;refine Nb.mono (λa b' z=>?_) h3;cases fal
    .exact Td.mono z f1
    .exact Td.mono z f1
  .rw [Z8 z];exact⟨gZ _,aL _,h2,h3,by lia⟩
theorem BA(O:stop<=n)(Z:f<stop)(c:pr.length+(stop-f)<=800000):Wa n (uh stop f) pr λr pr'=>pr<+:pr'/\f<r.1/\r.1<=stop/\Nt pr' (dJ f r.1 r.2)/\pr'.length<=pr.length+(r.1-f):=by
 unfold uh;by_cases z:f+1<stop
 .rw [Z9 z];refine Wa.VY (by lia) (by lia) (by lia) (by lia) λb pr1 f1 l1 U J=>?_;refine(vg (f:=f) O b stop (f+2) pr1 (by lia) (by lia) (by lia) (Sf.snoc (pr:=pr1) (j:=f+1) ?_ (gZ _) (by lia) ?_)<|by lia).imp λr pr2 h=>⟨f1.trans h.1,?_,h.2.2.1,h.2.2.2.1.turn,?_⟩
  .unfold Sf;rw[show f+1-f=0+1 by lia,Gp];exact trivial
  .cases b
   .exact J rfl
   .exact U rfl
  .have:=h.2.1;lia
  .have:=h.2.2.2.2;have:=h.2.1;lia
 .rw [Z8 z];refine⟨gZ _,by lia,by lia,?_,by lia⟩;show Nt pr (dJ f (f+1) false);unfold dJ;rw[show f+1-f=0+1 by lia,Gp];exact trivial
theorem tZ(a b:Nat)(f:Bool):(dJ a b f).Perm<|Q8 a<|b-a:=by
 unfold dJ;cases f
 .exact .refl _
 .exact S0 _
theorem zV{ls:Nat}(J:stop<=n)(U:f<stop)(hn:n-f<=120)(c:pr.length+122*(stop-f)<=800000):Wa n (Jc ls stop f) pr λr pr'=>pr<+:pr'/\r.2.Perm (Q8 f r.2.length)/\0<r.2.length/\f+r.2.length<=stop/\Nt pr' r.2/\pr'.length<=pr.length+122*r.2.length:=by
 refine Wa.bind<|(BA J U<|by lia).imp λr pr1 h=>?_;obtain⟨f1,h1,h2,h3,Z⟩:=h;refine Wa.bind<|(K1 (f:=f) (min (f+ls) stop-r.1) r.1 _ pr1 (tZ ..) (by lia) (by lia) hn h3<|by lia).imp λos pr2 g=>?_;obtain⟨g1,z,O,g4⟩:=g;have hl:=g1.length_eq;rw[Er] at hl;refine⟨f1.trans O,?_,?_,?_,z,?_⟩<;>dsimp only
 .rw [hl];exact g1
 .lia
 .lia
 .lia
end
end Pw
namespace Po
variable {f:Nat}
noncomputable abbrev Fr:=Option<|Nat×Nat
noncomputable abbrev W:=Nat->Nat->Option Fr
noncomputable abbrev Mt:=Nat×Nat×Nat
noncomputable def mid(f b:Nat):Nat:=f+(b-f+1)/2
theorem cI{b:Nat}(h:¬ b-f<2):f<mid f b/\mid f b<b:=by unfold mid;lia
noncomputable def mts(f b:Nat):List Mt:=if h:b-f<2 then[] else mts f (mid f b)++mts (mid f b) b++[(f,mid f b,b)]
termination_by b-f
decreasing_by
 .have:=cI h;lia
 .have:=cI h;lia
theorem cH{b:Nat}(h:b-f<2):mts f b=[]:=by rw[mts,dif_pos h]
theorem cA{b:Nat}(h:¬ b-f<2):mts f b=mts f (mid f b)++mts (mid f b) b++[(f,mid f b,b)]:=by rw[mts,dif_neg h]
theorem tree{P:Nat->Nat->Prop}(h1:∀f b,b-f<2->P f b)(h2:∀f b,¬ b-f<2->P f (mid f b)->P (mid f b) b->P f b)(f b:Nat):P f b:=by
 suffices ∀n f b,b-f<=n->P f b from this _ f b<|aL _
 intro n;induction n with
 |zero=>intro f b h;exact h1 f b<|by lia
 |succ n ih=>
  intro f b h;by_cases z:b-f<2
  .exact h1 f b z
  .have:=cI z;exact h2 f b z (ih _ _<|by lia)<|ih _ _<|by lia
theorem gB(f b:Nat):(mts f b).length=b-f-1:=by
 refine tree (P:=λf b=>(mts f b).length=b-f-1) (λf b h=>?_) (λf b h h1 h2=>?_) f b
 .rw [cH h];simp;lia
 .have:=cI h;rw[cA h,aU,aU,h1,h2,iK];lia
theorem jO{a m c:Nat}(f b:Nat):(a,m,c)∈mts f b->m=mid a c/\f<=a/\c<=b/\¬ c-a<2:=by
 refine tree (P:=λf b=>(a,m,c)∈mts f b->m=mid a c/\f<=a/\c<=b/\¬ c-a<2) (λf b h=>?_) (λf b h h1 h2=>?_) f b
 .rw [cH h];intro z;cases z
 .have:=cI h;rw[cA h];intro z;rcases fG.mp z with z|z
  .rcases fG.mp z with z|z
   .have:=h1 z;lia
   .have:=h2 z;lia
  .cases bY.mp z;exact⟨rfl,aL _,aL _,h⟩
noncomputable def put(w:W)(a c:Nat)(v:Fr):W:=λa' c'=>if a'=a/\c'=c then some v else w a' c'
end Po
namespace Pw
variable {f i:Nat}{pr pr':List A3}{u v:Fr}{pcs:List (List Nat)}{w w':W}
structure PS where
 r:Nat
 ps:List<|Nat×List Nat
 gs:List Nat
noncomputable def flt(ps:List<|Nat×List Nat):List Nat:=(ps.map Prod.snd).flatten
noncomputable def nE(gs:List Nat):Bool:=match gs.reverse with
 |a::b::_=>decide<|a<b
 |_=>false
theorem Ac(G:List Nat)(g1 z:Nat):nE (G++[g1,z])=decide (z<g1):=by unfold nE;rw[List.reverse_append];rfl
theorem Lh{gs:List Nat}(h:nE gs=true):2<=gs.length:=by
 unfold nE at h;rw[<- GF];revert h;generalize gs.reverse=l;intro h
 match l,h with
 |a::b::l,_=>simp
noncomputable def ym(ps:List<|Nat×List Nat):Nat:=(ps.getLastD (0,[])).1
noncomputable def GN(i:Nat)(t:PS):Pg<|Option PS:=match t.ps.drop i with
 |p1::p2::B=>(IA p1.2 p2.2).bind λo=>.ret<|some ⟨t.r,t.ps.take i++(p1.1,o)::B,t.gs.eraseIdx i⟩
 |_=>.ret none
noncomputable def B7(G:Nat->Nat->Nat->Nat->Nat)(ls s e:Nat)(t:PS):Pg<|Option PS:=(Jc ls e t.r).bind λf=>.ret<|some ⟨t.r+f.2.length,t.ps++[(t.r,f.2)],if t.ps.isEmpty then t.gs else t.gs++[G (e-s) (ym t.ps-s) (t.r-s)<|t.r+f.2.length-s]⟩
noncomputable def HY(G:Nat->Nat->Nat->Nat->Nat)(ls s e:Nat)(t:PS):Pg<|Option PS:=
 if nE t.gs then GN (t.ps.length-3) t else if t.r<e then B7 G ls s e t else if 1<t.ps.length then GN (t.ps.length-2) t else .ret none
noncomputable def Ij(e:Nat)(t:PS):List Nat:=flt t.ps++Q8 t.r (e-t.r)
noncomputable def Jj(G:Nat->Nat->Nat->Nat->Nat)(ls s e:Nat):Nat->PS->Pg (List Nat)
 |0,t=>.ret<|Ij e t
 |m+1,t=>(HY G ls s e t).bind λo=>match o with
  |none=>.ret<|Ij e t
  |some t'=>Jj G ls s e m t'
noncomputable def CH(G:Nat->Nat->Nat->Nat->Nat)(ls s e:Nat):Pg<|List Nat:=Jj G ls s e (2*(e-s)+1) ⟨s,[],[]⟩
def Cn(pr:List A3):Nat->List (Nat×List Nat)->Nat->Prop
 |x,[],y=>x=y
 |x,p::ps,y=>p.1=x/\0<p.2.length/\p.2.Perm (Q8 x p.2.length)/\Nt pr p.2/\Cn pr (x+p.2.length) ps y
theorem Cn.mono(f:pr<+:pr'):∀{x y:Nat} {ps:List<|Nat×List Nat},Cn pr x ps y->Cn pr' x ps y
 |_,_,[],h=>h
 |_,_,_::_,h=>⟨h.1,h.2.1,h.2.2.1,h.2.2.2.1.mono f,h.2.2.2.2.mono f⟩
theorem Cn.app{pr:List A3}:∀{x y:Nat} {A B:List<|Nat×List Nat},Cn pr x (A++B) y↔∃m,Cn pr x A m/\Cn pr m B y
 |x,y,[],B=>⟨λh=>⟨x,rfl,h⟩,λ⟨m,h1,h2⟩=>by cases h1;exact h2⟩
 |x,y,p::A,B=>⟨λh=>let ⟨m,a,b⟩:=Cn.app.mp h.2.2.2.2;⟨m,⟨h.1,h.2.1,h.2.2.1,h.2.2.2.1,a⟩,b⟩,λ⟨m,a,b⟩=>⟨a.1,a.2.1,a.2.2.1,a.2.2.2.1,Cn.app.mpr ⟨m,a.2.2.2.2,b⟩⟩⟩
theorem Cn.le:∀{x y:Nat} {ps:List<|Nat×List Nat},Cn pr x ps y->x+ps.length<=y
 |_,_,[],h=>SR h
 |x,y,p::ps,h=>by
  have:=h.2.2.2.2.le;have:=h.2.1;rw[cP];lia
def Cl:Nat->List (Nat×List Nat)->Nat->Prop
 |x,[],y=>x=y
 |x,p::ps,y=>p.1=x/\0<p.2.length/\Cl (x+p.2.length) ps y
theorem Cl.app:∀{x y:Nat} {A B:List<|Nat×List Nat},Cl x (A++B) y↔∃m,Cl x A m/\Cl m B y
 |x,y,[],B=>⟨λh=>⟨x,rfl,h⟩,λ⟨m,h1,h2⟩=>by cases h1;exact h2⟩
 |x,y,p::A,B=>⟨λh=>let ⟨m,a,b⟩:=Cl.app.mp h.2.2;⟨m,⟨h.1,h.2.1,a⟩,b⟩,λ⟨m,a,b⟩=>⟨a.1,a.2.1,Cl.app.mpr ⟨m,a.2.2,b⟩⟩⟩
theorem Cl.le:∀{x y:Nat} {ps:List<|Nat×List Nat},Cl x ps y->x+ps.length<=y/\(flt ps).length=y-x
 |_,_,[],h=>⟨SR h,by cases h;rw[gN];rfl⟩
 |x,y,p::ps,h=>by
  have h1:=h.2.2.le;have h2:=h.2.1;refine⟨by rw[cP];lia,?_⟩;show(p.2++flt ps).length=_;rw[aU,h1.2];lia
structure PI(n s e:Nat)(pr:List A3)(t:PS):Prop where
 cn:Cn pr s t.ps t.r
 re:t.r<=e
 gl:t.gs.length=t.ps.length-1
theorem sO{α:Type}{l:List α}(h:i+2<=l.length):∃A x y B,l=A++x::y::B/\A.length=i/\l.drop i=x::y::B/\l.take i=A:=by
 have h1:i<l.length:=by lia
 have h2:i+1<l.length:=by lia
 refine⟨l.take i,l[i],l[i+1],l.drop<|i+2,?_,by rw[kP];lia,?_,rfl⟩
 .rw [<- yc h2,<- yc h1,xP]
 .rw [<- yc h2,<- yc h1]
section
variable {n s e ls:Nat}{G:Nat->Nat->Nat->Nat->Nat}
def Sd(n s e:Nat)(pr:List A3)(t:PS)(o:Option PS)(pr':List A3):Prop:=pr<+:pr'/\match o with
 |none=>t.r=e/\t.ps.length<=1/\pr'=pr
 |some t'=>PI n s e pr' t'/\2*(e-t'.r)+t'.ps.length<2*(e-t.r)+t.ps.length/\pr'.length+400*(e-t'.r)+250*t'.ps.length<=pr.length+400*(e-t.r)+250*t.ps.length
theorem zA{t:PS}(h:PI n s e pr t)(hi:i+2<=t.ps.length)(he:e<=n)(hn:n<=120)(c:pr.length<=790000):Wa n (GN i t) pr<|Sd n s e pr t:=by
 obtain⟨A,O,p2,B,e1,e2,e3,e4⟩:=sO hi;have U:=h.cn;rw[e1] at U;obtain⟨m,c1,c2⟩:=Cn.app.mp U;obtain⟨h1,h2,h3,h4,g1,g2,g3,g4,g5⟩:=c2;have l1:=c1.le;have l2:=g5.le;have aa:=h.re;have m1:∀x∈O.2,m<=x/\x<m+O.2.length:=λx J=>List.mem_range'_1.mp<|h3.mem_iff.mp J;have m2:∀x∈p2.2,m+O.2.length<=x/\x<m+O.2.length+p2.2.length:=λx J=>List.mem_range'_1.mp<|g3.mem_iff.mp J;unfold GN;rw[e3];dsimp only;refine Wa.bind<|(lX (n:=n) (pr:=pr) (l:=O.2) (r:=p2.2) ⟨λx J=>by have:=m1 x J;lia,λx J=>by have:=m2 x J;lia,λx J y hy=>by have:=m1 x J;have:=m2 y hy;lia⟩ h4 g4<|by lia).imp λo pr' z=>?_;obtain⟨z1,z2,Z,z4⟩:=z;have hl:=z1.length_eq;rw[aU] at hl;rw[e4];have e6:(A++(O.1,o)::B).length+1=t.ps.length:=by rw[e1];simp;lia
 refine⟨Z,⟨Cn.app.mpr ⟨m,c1.mono Z,h1,by dsimp only;lia,?_,z2,?_⟩,aa,?_⟩,?_,?_⟩<;>dsimp only
 .rw [hl];refine z1.trans<|(h3.append g3).trans ?_;have:=List.range'_append (s:=m) (m:=O.2.length) (n:=p2.2.length) (step:=1);rw[Nat.one_mul] at this;rw[this]
 .rw [hl,<- Nat.add_assoc];exact g5.mono Z
 .rw [List.length_eraseIdx];have:=h.gl;split<;>lia
 .lia
 .lia
theorem B6{t:PS}(h:PI n s e pr t)(U:t.r<e)(he:e<=n)(hn:n<=120)(c:pr.length<=780000):Wa n (B7 G ls s e t) pr<|Sd n s e pr t:=by
 refine Wa.bind<|(zV (n:=n) (pr:=pr) (ls:=ls) he U (by lia)<|by lia).imp λf pr' z=>?_;obtain⟨J,Z,z3,z4,O,z6⟩:=z;refine⟨J,⟨Cn.app.mpr ⟨t.r,h.cn.mono J,rfl,z3,Z,O,rfl⟩,by dsimp only;lia,?_⟩,?_,?_⟩<;>dsimp only
 .have:=h.gl;rw[aU,iK];cases hp:t.ps with
  |nil=>rw[hp] at this;simpa using this
  |cons p q=>
   rw[hp] at this;rw[Z8 (by simp),aU,iK,this,cP];lia
 .rw [aU,iK];lia
 .rw [aU,iK];lia
theorem yG{t:PS}(h:PI n s e pr t)(z:e<=n)(hn:n<=120)(c:pr.length<=780000):Wa n (HY G ls s e t) pr<|Sd n s e pr t:=by
 unfold HY;by_cases h1:nE t.gs=true
 .rw [Z9 h1];have:=Lh h1;have:=h.gl;exact zA h (by lia) z hn<|by lia
 rw[Z8 h1];by_cases h2:t.r<e
 .rw [Z9 h2];exact B6 h h2 z hn c
 rw[Z8 h2];by_cases h3:1<t.ps.length
 .rw [Z9 h3];exact zA h (by lia) z hn<|by lia
 rw[Z8 h3];have:=h.re;exact⟨gZ _,by lia,by lia,rfl⟩
theorem oF{t:PS}(h:PI n s e pr t)(h1:t.r=e)(h2:t.ps.length<=1):(Ij e t).Perm (Q8 s<|e-s)/\Nt pr (Ij e t):=by
 have hc:=h.cn;unfold Ij;rw[h1,gN,List.range'_zero,kH]
 match hp:t.ps,h2 with
 |[],_=>
  rw[hp] at hc;have:s=e:=by rw[<- h1];exact hc
  rw[this,gN];exact⟨.refl _,trivial⟩
 |[p],_=>
  rw[hp] at hc;have z:s+p.2.length=t.r:=hc.2.2.2.2;have e2:flt [p]=p.2:=by unfold flt;simp
  rw[e2,show e-s=p.2.length by lia];exact⟨hc.2.2.1,hc.2.2.2.1⟩
theorem rL(J:e<=n)(hn:n<=120):∀(m:Nat) (t:PS) (pr:List A3),PI n s e pr t->2*(e-t.r)+t.ps.length<=m->pr.length+400*(e-t.r)+250*t.ps.length<=780000->
  Wa n (Jj G ls s e m t) pr λos pr'=>os.Perm (Q8 s<|e-s)/\Nt pr' os/\pr<+:pr'/\pr'.length<=pr.length+400*(e-t.r)+250*t.ps.length
 |0=>λt pr h hm c=>by
  have:=h.re;have z:=oF h (by lia) (by lia);exact⟨z.1,z.2,gZ _,by lia⟩
 |m+1=>λt pr h hm c=>by
  refine Wa.bind<|(yG h J hn<|by lia).imp λo pr1 z=>?_;cases o with
  |none=>
   obtain⟨f,a,b,rfl⟩:=z;have z:=oF h a b;exact⟨z.1,z.2,f,by lia⟩
  |some t'=>
   obtain⟨f,a,b,c'⟩:=z;refine(rL J hn m t' pr1 a (by lia)<|by lia).imp λos pr2 y=>⟨y.1,y.2.1,f.trans y.2.2.1,?_⟩
   have:=y.2.2.2;lia
theorem vZ(z:s<=e)(J:e<=n)(hn:n<=120)(c:pr.length+400*(e-s)<=780000):Wa n (CH G ls s e) pr λos pr'=>os.Perm (Q8 s<|e-s)/\Nt pr' os/\pr<+:pr'/\pr'.length<=pr.length+400*(e-s):=
 rL J hn _ ⟨s,[],[]⟩ pr ⟨rfl,z,rfl⟩ (by dsimp only[Rr];lia)<|by dsimp only[Rr];lia
end
open Po (Fr W Mt mts mid put cH cA cI gB jO)
noncomputable def B3:Fr->Fr->Pg Fr
 |none,o=>.ret o
 |some x,none=>.ret<|some x
 |some x,some y=>VY x.1 y.1 λb=>.ret (if b then some x else some y)
noncomputable def kM:List Mt->W->Pg (Option W)
 |[],w=>.ret<|some w
 |m::ms,w=>match w m.1 m.2.1,w m.2.1 m.2.2 with
  |some u,some v=>(B3 u v).bind λx=>kM ms<|put w m.1 m.2.2 x
  |_,_=>.ret none
noncomputable def mY(pcs:List<|List Nat)(ts:List Nat)(i:Nat):Fr:=((pcs.getD i [])[ts.getD i 0]?).map λx=>(x,i)
noncomputable def tQ(i:Nat)(m:Mt):Bool:=decide (m.1<=i)&&decide (i<m.2.2)
noncomputable def qP(ts:List Nat)(i:Nat):List Nat:=ts.set i<|ts.getD i 0+1
noncomputable def oX(pcs:List<|List Nat):Nat->List Nat->W->List Nat->Pg (Option<|List Nat)
 |0,_,_,acc=>.ret<|some acc
 |k+1,ts,w,acc=>match w 0 pcs.length with
  |some (some c)=>(kM ((mts 0 pcs.length).filter<|tQ c.2)<|put w c.2 (c.2+1)<|mY pcs (qP ts c.2) c.2).bind λo=>match o with
   |none=>.ret none
   |some w'=>oX pcs k (qP ts c.2) w'<|acc++[c.1]
  |_=>.ret none
noncomputable def w8(pcs:List<|List Nat)(k:Nat):W:=λa c=>if c=a+1/\a<k then some (mY pcs (Q5 pcs.length 0) a) else none
noncomputable def Ee(pcs:List<|List Nat):Pg<|Option<|List Nat:=(kM (mts 0 pcs.length)<|w8 pcs pcs.length).bind λo=>match o with
 |none=>.ret none
 |some w=>oX pcs (pcs.map Rr).sum (Q5 pcs.length 0) w []
def Me(pr:List A3):Fr->Fr->Fr->Prop
 |none,v,x=>x=v
 |some u,none,x=>x=some u
 |some u,some v,x=>(x=some u/\Td pr u.1 v.1)∨(x=some v/\Td pr v.1 u.1)
theorem Me.mono(f:pr<+:pr'):∀{u v x:Fr},Me pr u v x->Me pr' u v x
 |none,_,_,h=>h
 |some _,none,_,h=>h
 |some _,some _,_,h=>h.imp (λz=>⟨z.1,z.2.mono f⟩) λz=>⟨z.1,z.2.mono f⟩
theorem Me.or:∀{u v x:Fr},Me pr u v x->x=u∨x=v
 |none,_,_,h=>.inr h
 |some _,none,_,h=>.inl h
 |some _,some _,_,h=>h.imp (λz=>z.1) λz=>z.1
def Nd(pr:List A3)(w:W)(m:Mt):Prop:=∃u v x,w m.1 m.2.1=some u/\w m.2.1 m.2.2=some v/\w m.1 m.2.2=some x/\Me pr u v x
theorem Nd.congr{m:Mt}(h:Nd pr w m)(f:pr<+:pr')(z:w' m.1 m.2.1=w m.1 m.2.1)(e2:w' m.2.1 m.2.2=w m.2.1 m.2.2)(e3:w' m.1 m.2.2=w m.1 m.2.2):Nd pr' w' m:=
 let ⟨u,v,x,h1,h2,h3,h4⟩:=h;⟨u,v,x,by rw[z,h1],by rw[e2,h2],by rw[e3,h3],h4.mono f⟩
structure Tr(pr:List A3)(fr:Nat->Fr)(w:W)(f b:Nat):Prop where
 lf:∀i,f<=i->i<b->w i (i+1)=some (fr i)
 nd:∀m∈mts f b,Nd pr w m
section
variable {n:Nat}{fr:Nat->Fr}
theorem Tr.congr{b:Nat}(h:Tr pr fr w f b)(g:pr<+:pr')(e:∀a c,f<=a->c<=b->a<c->w' a c=w a c):Tr pr' fr w' f b:=
 ⟨λi h1 h2=>by rw[e i (i+1) h1 (by lia)<|by lia];exact h.lf i h1 h2,λm hm=>by
  obtain⟨J,U,O,z⟩:=jO (a:=m.1) (m:=m.2.1) (c:=m.2.2) _ _ hm;have:=cI z;exact(h.nd m hm).congr g (e _ _ (by lia) (by lia)<|by lia) (e _ _ (by lia) (by lia)<|by lia)<|e _ _ (by lia) (by lia)<|by lia⟩
theorem Tr.top{b:Nat}(h:Tr pr fr w f b)(J:f<b):∃x,w f b=some x:=by
 by_cases z:b-f<2
 .rw [show b=f+1 by lia];exact⟨_,h.lf f (aL _) J⟩
 .obtain ⟨u,v,x,_,_,e,_⟩:=h.nd (f,mid f b,b) (by rw[cA z];exact gR _ bH);exact⟨x,e⟩
theorem Tr.down{b:Nat}(z:¬ b-f<2)(h:Tr pr fr w f b):Tr pr fr w f (mid f b)/\Tr pr fr w (mid f b) b/\Nd pr w (f,mid f b,b):=by
 have:=cI z;refine⟨⟨λi h1 h2=>h.lf i h1<|by lia,λm hm=>h.nd m ?_⟩,⟨λi h1 h2=>h.lf i (by lia) h2,λm hm=>h.nd m ?_⟩,h.nd _ ?_⟩<;>rw[cA z]
 .exact nO _ (nO _ hm)
 .exact nO _ (gR _ hm)
 .exact gR _ bH
theorem Tr.mem(f b:Nat):Tr pr fr w f b->f<b->∀x,w f b=some (some x)->(∀i y,fr i=some y->y.2=i)->f<=x.2/\x.2<b/\fr x.2=some x:=by
 refine Po.tree (P:=λf b=>Tr pr fr w f b->f<b->∀x,w f b=some (some x)->(∀i y,fr i=some y->y.2=i)->f<=x.2/\x.2<b/\fr x.2=some x) (λf b z h J x O hi=>?_) (λf b z Z i2 h J x O hi=>?_) f b
 .have e:=h.lf f (aL _) J;rw[show f+1=b by lia,O] at e;have e2:=QR e;rw[hi f x e2.symm];exact⟨aL _,J,e2.symm⟩
 .have:=cI z;obtain⟨t1,U,u,v,x',a1,a2,a3,a4⟩:=h.down z;dsimp only at a1 a2 a3;rw[O] at a3;cases a3;rcases a4.or with e|e
  .have:=Z t1 (by lia) x (by rw[a1,e]) hi;exact⟨this.1,by lia,this.2.2⟩
  .have:=i2 U (by lia) x (by rw[a2,e]) hi;exact⟨by lia,this.2.1,this.2.2⟩
theorem Tr.VA(f b:Nat):Tr pr fr w f b->f<b->w f b=some none->∀i,f<=i->i<b->fr i=none:=by
 refine Po.tree (P:=λf b=>Tr pr fr w f b->f<b->w f b=some none->∀i,f<=i->i<b->fr i=none) (λf b z h O J i h1 h2=>?_) (λf b z Z i2 h O J i h1 h2=>?_) f b
 .have e:=h.lf f (aL _) O;rw[show f+1=b by lia,J] at e;rw[show i=f by lia];exact(QR e).symm
 .have:=cI z;obtain⟨t1,U,u,v,x',a1,a2,a3,a4⟩:=h.down z;dsimp only at a1 a2 a3;rw[J] at a3;cases a3;have e:u=none/\v=none:=by
   cases u with
   |none=>exact⟨rfl,Eq.symm a4⟩
   |some u=>
    cases v with
    |none=>cases a4
    |some v=>rcases a4 with ⟨z,_⟩|⟨z,_⟩<;>cases z
  rw[e.1] at a1;rw[e.2] at a2;by_cases hi:i<mid f b
  .exact Z t1 (by lia) a1 i h1 hi
  .exact i2 U (by lia) a2 i (by lia) h2
structure Fo(n:Nat)(fr:Nat->Fr):Prop where
 ix:∀i y,fr i=some y->y.2=i
 lt:∀i y,fr i=some y->y.1<n
 ne:∀i j x y,i≠j->fr i=some x->fr j=some y->x.1≠y.1
theorem KS{P:Fr->List A3->Prop}(Z:∀x,u=some x->x.1<n)(U:∀x,v=some x->x.1<n)(z:∀x y,u=some x->v=some y->x.1≠y.1)(c:pr.length<=800000)(h:∀x pr',pr<+:pr'->pr'.length<=pr.length+1->Me pr' u v x->P x pr'):Wa n (B3 u v) pr P:=by
 cases u with
 |none=>exact h v pr (gZ _) (by lia) rfl
 |some x=>
  cases v with
  |none=>exact h (some x) pr (gZ _) (by lia) rfl
  |some y=>
   show Wa n (VY x.1 y.1 λb=>.ret<|if b then some x else some y) pr P;refine Wa.VY (z x y rfl rfl) (Z x rfl) (U y rfl) c λb pr' f l O J=>?_;cases b
   .exact h _ _ f (by lia) (.inr ⟨rfl,J rfl⟩)
   .exact h _ _ f (by lia) (.inl ⟨rfl,O rfl⟩)
theorem Io{a c:Nat}:put w a c v a c=some v:=by unfold Po.put;rw[Z9 ⟨rfl,rfl⟩]
theorem Ip{a c a' c':Nat}(h:¬ (a'=a/\c'=c)):put w a c v a' c'=w a' c':=by unfold Po.put;rw[Z8 h]
theorem Tr.up{b:Nat}{x:Fr}(z:¬ b-f<2)(U:Tr pr fr w f<|mid f b)(O:Tr pr fr w (mid f b) b)(h1:w f (mid f b)=some u)(h2:w (mid f b) b=some v)(Z:Me pr u v x):Tr pr fr (put w f b x) f b:=by
 have hm:=cI z;have g:∀a c,¬ (a=f/\c=b)->put w f b x a c=w a c:=λa c h=>Ip h;refine⟨λi h1 h2=>?_,λm J=>?_⟩
 .rw [g _ _<|by lia];by_cases hi:i<mid f b
  .exact U.lf i h1 hi
  .exact O.lf i (by lia) h2
 .rw [cA z] at J;rcases fG.mp J with J|J
  .rcases fG.mp J with J|J
   .exact (U.congr (gZ _) λa c _ _ _=>g _ _<|by lia).nd m J
   .exact (O.congr (gZ _) λa c _ _ _=>g _ _<|by lia).nd m J
  .cases bY.mp J;exact⟨u,v,x,by rw[g _ _<|by dsimp only;lia];exact h1,by rw[g _ _<|by dsimp only;lia];exact h2,Io,Z⟩
theorem zM(O:Fo n fr)(f b:Nat):f<b->∀(w:W) (pr:List A3) (ms:List Mt) (P:Option W->List A3->Prop),(∀i,f<=i->i<b->w i (i+1)=some (fr i))->pr.length+(b-f)<=800000->
  (∀w' pr',pr<+:pr'->(∀a c,¬ (f<=a/\c<=b/\a+2<=c)->w' a c=w a c)->Tr pr' fr w' f b->pr'.length+1<=pr.length+(b-f)->Wa n (kM ms w') pr' P)->Wa n (kM (mts f b++ms) w) pr P:=by
 refine Po.tree (P:=λf b=>f<b->∀(w:W) (pr:List A3) (ms:List Mt) (P:Option W->List A3->Prop),(∀i,f<=i->i<b->w i (i+1)=some (fr i))->pr.length+(b-f)<=800000-> (∀w' pr',pr<+:pr'->(∀a c,¬ (f<=a/\c<=b/\a+2<=c)->w' a c=w a c)->Tr pr' fr w' f b->pr'.length+1<=pr.length+(b-f)->Wa n (kM ms w') pr' P)->Wa n (kM (mts f b++ms) w) pr P) (λf b z hb w pr ms P hl c k=>?_) (λf b z i1 i2 hb w pr ms P hl c k=>?_) f b
 .rw [cH z];exact k w pr (gZ _) (λ_ _ _=>rfl) ⟨hl,λm hm=>by rw[cH z] at hm;cases hm⟩<|by lia
 .have hm:=cI z;rw[cA z,jU,jU];refine i1 (by lia) w pr _ P (λi h1 h2=>hl i h1<|by lia) (by lia) λw1 pr1 f1 e1 t1 l1=>?_;refine i2 (by lia) w1 pr1 _ P (λi h1 h2=>by rw[e1 _ _<|by lia];exact hl i (by lia) h2) (by lia) λw2 pr2 f2 e2 Z l2=>?_;have J:Tr pr2 fr w2 f<|mid f b:=t1.congr f2 λa c h1 h2 h3=>e2 a c (by lia);obtain⟨u,hu⟩:=J.top (by lia);obtain⟨v,hv⟩:=Z.top (by lia);have U:∀x,u=some x->f<=x.2/\x.2<mid f b/\fr x.2=some x:=λx e=>Tr.mem _ _ J (by lia) x (by rw[hu,e]) O.ix;have mv:∀x,v=some x->mid f b<=x.2/\x.2<b/\fr x.2=some x:=λx e=>Tr.mem _ _ Z (by lia) x (by rw[hv,e]) O.ix;show Wa n (kM ((f,mid f b,b)::ms) w2) pr2 P;rw[kM];dsimp only;rw[hu,hv];refine Wa.bind<|KS (λx e=>O.lt _ _ (U x e).2.2) (λx e=>O.lt _ _ (mv x e).2.2) (λx y ex ey=>O.ne x.2 y.2 x y (by have:=U x ex;have:=mv y ey;lia) (U x ex).2.2 (mv y ey).2.2) (by lia) λx pr3 f3 l3 me=>?_;refine k _ pr3 (f1.trans<|f2.trans f3) (λa c h=>?_) (Tr.up z (J.congr f3 λ_ _ _ _ _=>rfl) (Z.congr f3 λ_ _ _ _ _=>rfl) hu hv me) (by lia);rw[Ip<|by lia,e2 _ _<|by lia,e1 _ _<|by lia]
def Gd(pr:List A3)(x:Nat)(o:Option Fr):Prop:=∀c,o=some (some c)->Td pr x c.1
theorem mD{b:Nat}(h:¬ (f<=i/\i<b)):(mts f b).filter (tQ i)=[]:=by
 rw[List.filter_eq_nil_iff];intro m hm;obtain⟨_,O,J,_⟩:=jO (a:=m.1) (m:=m.2.1) (c:=m.2.2) _ _ hm;unfold tQ;intro z;rw[uO,decide_eq_true_eq,decide_eq_true_eq] at z;lia
theorem sI{b:Nat}(z:¬ b-f<2)(h:f<=i/\i<b):(mts f b).filter (tQ i)=(mts f<|mid f b).filter (tQ i)++((mts (mid f b) b).filter (tQ i)++[(f,mid f b,b)]):=by
 rw[cA z,AN,AN,jU,Sv<|by unfold tQ;rw[uO,decide_eq_true_eq,decide_eq_true_eq];exact h];rfl
theorem zL{fr':Nat->Fr}{w0:W}{x0:Nat}(ho:Fo n fr)(J:Fo n fr')(hf:∀j,j≠i->fr' j=fr j)(f b:Nat):f<=i->i<b->∀(w:W) (pr:List A3) (ms:List Mt) (P:Option W->List A3->Prop),Tr pr fr w0 f b->(∀a c,f<=a->c<=b->a<c->¬ (a=i/\c=i+1)->w a c=w0 a c)->w i (i+1)=some (fr' i)->(∀y,fr' i=some y->Td pr x0 y.1)->pr.length+(b-f)<=800000->
  (∀w' pr',pr<+:pr'->(∀a c,¬ (f<=a/\c<=b/\a+2<=c)->w' a c=w a c)->Tr pr' fr' w' f b->(w0 f b=some (some (x0,i))->Gd pr' x0 (w' f b))->pr'.length+1<=pr.length+(b-f)->Wa n (kM ms w') pr' P)->Wa n (kM ((mts f b).filter (tQ i)++ms) w) pr P:=by
 refine Po.tree (P:=λf b=>f<=i->i<b->∀(w:W) (pr:List A3) (ms:List Mt) (P:Option W->List A3->Prop),Tr pr fr w0 f b->(∀a c,f<=a->c<=b->a<c->¬ (a=i/\c=i+1)->w a c=w0 a c)->w i (i+1)=some (fr' i)->(∀y,fr' i=some y->Td pr x0 y.1)->pr.length+(b-f)<=800000-> (∀w' pr',pr<+:pr'->(∀a c,¬ (f<=a/\c<=b/\a+2<=c)->w' a c=w a c)->Tr pr' fr' w' f b->(w0 f b=some (some (x0,i))->Gd pr' x0 (w' f b))->pr'.length+1<=pr.length+(b-f)->Wa n (kM ms w') pr' P)->Wa n (kM ((mts f b).filter (tQ i)++ms) w) pr P) (λf b z h1 h2 w pr ms P t e hw hx c k=>?_) (λf b z i1 i2 h1 h2 w pr ms P t e hw hx c k=>?_) f b
 .rw [cH z];have Z:f=i:=by lia
  have e2:b=i+1:=by lia
  subst Z;subst e2;exact k w pr (gZ _) (λ_ _ _=>rfl) ⟨λj g1 U=>by rw[show j=f by lia];exact hw,λm hm=>by rw[cH z] at hm;cases hm⟩ (λ_ c hc=>hx c<|by rw[hw] at hc;exact QR hc)<|by lia
 .have hm:=cI z;rw[sI z ⟨h1,h2⟩,jU,jU];obtain⟨t1,t2,u0,v0,z0,a1,a2,a3,a4⟩:=t.down z;dsimp only at a1 a2 a3;by_cases hi:i<mid f b
  .rw [mD (f:=mid f b) (b:=b)<|by lia,List.nil_append];refine i1 h1 hi w pr _ P t1 (λa c g1 U=>e a c g1<|by lia) hw hx (by lia) λw1 pr1 f1 Z s1 gd l1=>?_;have s2:Tr pr1 fr' w1 (mid f b) b:=by
    have s:=t2.congr f1 (w':=w1) λa c g1 U g3=>by rw[Z a c<|by lia,e a c (by lia) U g3<|by lia]
    exact⟨λj g1 U=>by rw[hf j<|by lia];exact s.lf j g1 U,s.nd⟩
   obtain⟨u,hu⟩:=s1.top (by lia);have hv:w1 (mid f b) b=some v0:=by rw[Z _ _<|by lia,e _ _ (by lia) (aL _) (by lia)<|by lia];exact a2
   have mu:∀x,u=some x->f<=x.2/\x.2<mid f b/\fr' x.2=some x:=λx q=>Tr.mem _ _ s1 (by lia) x (by rw[hu,q]) J.ix;have mv:∀x,v0=some x->mid f b<=x.2/\x.2<b/\fr' x.2=some x:=λx q=>Tr.mem _ _ s2 (by lia) x (by rw[hv,q]) J.ix;show Wa n (kM ((f,mid f b,b)::ms) w1) pr1 P;rw[kM];dsimp only;rw[hu,hv];refine Wa.bind<|KS (λx q=>J.lt _ _ (mu x q).2.2) (λx q=>J.lt _ _ (mv x q).2.2) (λx y ex ey=>J.ne x.2 y.2 x y (by have:=mu x ex;have:=mv y ey;lia) (mu x ex).2.2 (mv y ey).2.2) (by lia) λx pr3 O l3 me=>?_;refine k _ pr3 (f1.trans O) (λa c h=>?_) (Tr.up z (s1.congr O λ_ _ _ _ _=>rfl) (s2.congr O λ_ _ _ _ _=>rfl) hu hv me) (λh0 c hc=>?_)<|by lia
   .rw [Ip<|by lia,Z _ _<|by lia]
   .rw [Io] at hc;have hc:=QR hc;rw[a3] at h0;have h0:=QR h0;subst h0;have ev:v0≠some (x0,i):=λq=>by have:=mv _ q;dsimp only at this;lia
    have eu:u0=some (x0,i):=by
     rcases a4.or with q|q
     .exact q.symm
     .exact absurd q.symm ev
    rcases me.or with q|q
    .rw [q] at hc;exact(gd (by rw[a1,eu]) c<|by rw[hu,hc]).mono O
    .rw [q] at hc;rw[eu,hc] at a4;rcases a4 with ⟨_,y⟩|⟨y,_⟩
     .exact y.mono (f1.trans O)
     .rw [hc] at ev;exact absurd y.symm ev
  .rw [mD (f:=f) (b:=mid f b)<|by lia,List.nil_append];refine i2 (by lia) h2 w pr _ P t2 (λa c g1 U=>e a c (by lia) U) hw hx (by lia) λw1 pr1 f1 Z s2 gd l1=>?_;have s1:Tr pr1 fr' w1 f<|mid f b:=by
    have s:=t1.congr f1 (w':=w1) λa c g1 U g3=>by rw[Z a c<|by lia,e a c g1 (by lia) g3<|by lia]
    exact⟨λj g1 U=>by rw[hf j<|by lia];exact s.lf j g1 U,s.nd⟩
   obtain⟨v,hv⟩:=s2.top (by lia);have hu:w1 f (mid f b)=some u0:=by rw[Z _ _<|by lia,e _ _ (aL _) (by lia) (by lia)<|by lia];exact a1
   have mu:∀x,u0=some x->f<=x.2/\x.2<mid f b/\fr' x.2=some x:=λx q=>Tr.mem _ _ s1 (by lia) x (by rw[hu,q]) J.ix;have mv:∀x,v=some x->mid f b<=x.2/\x.2<b/\fr' x.2=some x:=λx q=>Tr.mem _ _ s2 (by lia) x (by rw[hv,q]) J.ix;show Wa n (kM ((f,mid f b,b)::ms) w1) pr1 P;rw[kM];dsimp only;rw[hu,hv];refine Wa.bind<|KS (λx q=>J.lt _ _ (mu x q).2.2) (λx q=>J.lt _ _ (mv x q).2.2) (λx y ex ey=>J.ne x.2 y.2 x y (by have:=mu x ex;have:=mv y ey;lia) (mu x ex).2.2 (mv y ey).2.2) (by lia) λx pr3 O l3 me=>?_;refine k _ pr3 (f1.trans O) (λa c h=>?_) (Tr.up z (s1.congr O λ_ _ _ _ _=>rfl) (s2.congr O λ_ _ _ _ _=>rfl) hu hv me) (λh0 c hc=>?_)<|by lia
   .rw [Ip<|by lia,Z _ _<|by lia]
   .rw [Io] at hc;have hc:=QR hc;rw[a3] at h0;have h0:=QR h0;subst h0;have eu:u0≠some (x0,i):=λq=>by have:=mu _ q;dsimp only at this;lia
    have ev:v0=some (x0,i):=by
     rcases a4.or with q|q
     .exact absurd q.symm eu
     .exact q.symm
    rcases me.or with q|q
    .rw [q] at hc;rw[ev,hc] at a4;rcases a4 with ⟨y,_⟩|⟨_,y⟩
     .rw [hc] at eu;exact absurd y.symm eu
     .exact y.mono (f1.trans O)
    .rw [q] at hc;exact(gd (by rw[a2,ev]) c<|by rw[hv,hc]).mono O
end
theorem Nb.at{R:Nat->Nat->Prop}:∀{l:List Nat} {i a b:Nat},Nb R l->l[i]?=some a->l[i+1]?=some b->R a b
 |[],i,a,b,_,h,_=>by simp at h
 |[x],i,a,b,_,_,h=>by simp at h
 |x::y::l,0,a,b,h,h1,h2=>by cases h1;cases h2;exact h.1
 |x::y::l,i+1,a,b,h,h1,h2=>Nb.at (l:=y::l) h.2 (by simpa using h1)<|by simpa using h2
noncomputable def kD:List (List Nat)->List Nat->List Nat
 |p::ps,t::ts=>p.drop t++kD ps ts
 |_,_=>[]
theorem rD:∀{pcs:List<|List Nat} {ts:List Nat} {i t x:Nat} {p:List Nat},pcs[i]?=some p->ts[i]?=some t->p[t]?=some x->(kD pcs ts).Perm (x::kD pcs (ts.set i<|t+1))
 |[],_,_,_,_,_,h,_,_=>by simp at h
 |_::_,[],_,_,_,_,_,h,_=>by simp at h
 |q::ps,u::ts,0,t,x,p,h1,h2,h3=>by
  cases h1;cases h2;obtain⟨hl,e⟩:=cV.mp h3;show(q.drop u++kD ps ts).Perm (x::(q.drop (u+1)++kD ps ts));rw[yc hl,e];exact .refl _
 |q::ps,u::ts,i+1,t,x,p,h1,h2,h3=>by
  have:=rD (pcs:=ps) (ts:=ts) (i:=i) (by simpa using h1) (by simpa using h2) h3;show(q.drop u++kD ps ts).Perm (x::(q.drop u++kD ps (ts.set i<|t+1)));exact(this.append_left _).trans List.perm_middle
theorem vh:∀{pcs:List<|List Nat} {ts:List Nat},(∀i,i<pcs.length->(pcs.getD i [])[ts.getD i 0]?=none)->kD pcs ts=[]
 |[],_,_=>rfl
 |_::_,[],_=>rfl
 |p::ps,t::ts,h=>by
  have h0:=h 0 (by simp);have h1:=vh (pcs:=ps) (ts:=ts) λi hi=>by
   have:=h (i+1) (by simpa using hi);simpa using this
  show p.drop t++kD ps ts=[];have z:p[t]?=none:=by simpa using h0
  rw[h1,kH,RU<|List.getElem?_eq_none_iff.mp z]
theorem Lm:∀pcs:List<|List Nat,kD pcs (Q5 pcs.length 0)=pcs.flatten
 |[]=>rfl
 |p::ps=>by
  rw[cP,List.replicate_succ];show p.drop 0++kD ps (Q5 ps.length 0)=_;rw[Lm ps];rfl
structure Pc(n:Nat)(pr:List A3)(pcs:List<|List Nat):Prop where
 nt:∀p∈pcs,Nt pr p
 nd:pcs.flatten.Nodup
 lt:∀x∈pcs.flatten,x<n
theorem Pc.mono{n:Nat}(h:Pc n pr pcs)(f:pr<+:pr'):Pc n pr' pcs:=⟨λp z=>(h.nt p z).mono f,h.nd,h.lt⟩
theorem Ej{ts:List Nat}{y:Nat×Nat}(h:mY pcs ts i=some y):y.2=i/\∃p,pcs[i]?=some p/\p[ts.getD i 0]?=some y.1:=by
 unfold mY at h;obtain⟨x,h1,h2⟩:=EE.mp h;rw[<- h2];refine⟨rfl,?_⟩;rw[iR] at h1;cases e:pcs[i]? with
 |none=>rw[e] at h1;simp at h1
 |some p=>rw[e] at h1;exact⟨p,rfl,h1⟩
theorem Pc.fo{n:Nat}(h:Pc n pr pcs)(ts:List Nat):Fo n<|mY pcs ts:=by
 refine⟨λi y J=>(Ej J).1,λi y J=>?_,λi j x y U O J=>?_⟩
 .obtain ⟨_,p,h1,h2⟩:=Ej J;exact h.lt _<|List.mem_flatten.mpr ⟨p,gO h1,gO h2⟩
 .obtain ⟨_,p,h1,h2⟩:=Ej O;obtain⟨_,q,g1,g2⟩:=Ej J;have hd:=(List.pairwise_flatten.mp h.nd).2;have O:=gO h2;have J:=gO g2;obtain⟨a1,a2⟩:=cV.mp h1;obtain⟨b1,Z⟩:=cV.mp g1;rcases Nat.lt_or_gt_of_ne U with z|z
  .exact GA.mp hd i j a1 b1 z x.1 (by rw[a2];exact O) y.1 (by rw[Z];exact J)
  .exact Q4 (GA.mp hd j i b1 a1 z y.1 (by rw[Z];exact J) x.1<|by rw[a2];exact O)
theorem EI{ts:List Nat}{j:Nat}(h:j≠i):mY pcs (qP ts i) j=mY pcs ts j:=by
 unfold mY qP;rw[iR (l:=ts.set i _),List.getElem?_set,Z8<|Q4 h,<- iR]
section
variable {n:Nat}
theorem rK{pcs:List<|List Nat}{D:Nat}(hD:pcs.length<=D)(hp:0<pcs.length):∀(k:Nat) (ts:List Nat) (w:W) (acc:List Nat) (pr:List A3),Pc n pr pcs->ts.length=pcs.length->Tr pr (mY pcs ts) w 0 pcs.length->(kD pcs ts).length=k->Nt pr acc->(∀A z,acc=A++[z]->Gd pr z (w 0 pcs.length))->pr.length+D*k<=800000->
  Wa n (oX pcs k ts w acc) pr λo pr'=>∃os,o=some os/\os.Perm (acc++kD pcs ts)/\Nt pr' os/\pr<+:pr'/\pr'.length<=pr.length+D*k
 |0=>λts w acc pr pc tl O hk na ga c=>by
  refine⟨acc,rfl,?_,na,gZ _,by lia⟩;rw[Bk.mp hk,kH]
 |k+1=>λts w acc pr pc tl O hk na ga c=>by
  have fo:=pc.fo ts;obtain⟨o,U⟩:=O.top hp;cases o with
  |none=>
   exfalso;have:=Tr.VA _ _ O hp U;rw[vh (λi hi=>by
    have:=this i (dU _) hi;unfold mY at this;exact Option.map_eq_none_iff.mp this)] at hk
   cases hk
  |some c'=>
   obtain⟨_,hc,ab⟩:=Tr.mem _ _ O hp c' U fo.ix;obtain⟨_,p,J,Z⟩:=Ej ab;have ad:D*(k+1)=D*k+D:=Tx ..;have aa:ts[c'.2]?=some (ts.getD c'.2 0):=(qD<|by lia).1;rw[oX,U];dsimp only;refine Wa.bind ?_;rw[<- kH ((mts 0 pcs.length).filter<|tQ c'.2)];refine zL (fr:=mY pcs ts) (fr':=mY pcs<|qP ts c'.2) (w0:=w) (i:=c'.2) (x0:=c'.1) fo (pc.fo _) (λj hj=>EI hj) 0 pcs.length (dU _) hc _ pr [] _ O (λa c _ _ _ h=>Ip h) Io (λy hy=>?_) (by lia) λw' pr1 f1 _ ac gd l1=>?_
   .obtain ⟨_,q,q1,q2⟩:=Ej hy;rw[J] at q1;cases q1;have e:(qP ts c'.2).getD c'.2 0=ts.getD c'.2 0+1:=by
     unfold qP;rw[iR,List.getElem?_set,Z9 rfl,Z9<|by lia];rfl
    rw[e] at q2;exact(pc.nt p<|gO J).at Z q2
   .show Wa n (oX pcs k (qP ts c'.2) w'<|acc++[c'.1]) pr1 _;have pm:=rD J aa Z;have hl:=pm.length_eq;rw[cP] at hl;refine(rK hD hp k (qP ts c'.2) w' (acc++[c'.1]) pr1 (pc.mono f1) (by unfold qP;rw[Ez];exact tl) ac (by unfold qP;lia) ?_ (λA z e=>?_)<|by lia).imp λo pr2 h=>?_
    .refine Nb.app (na.mono f1) trivial λA z u B e1 e2=>?_;cases e2;exact(ga A z e1 c' U).mono f1
    .rw [<- JM e];exact gd U
    .obtain ⟨os,e,h1,h2,h3,h4⟩:=h;refine⟨os,e,?_,h2,f1.trans h3,by lia⟩;rw[jU] at h1;exact h1.trans<|(List.Perm.symm pm).append_left acc
theorem L0{D:Nat}(hD:pcs.length<=D)(pc:Pc n pr pcs)(c:pr.length+D*(pcs.flatten.length+1)<=800000):Wa n (Ee pcs) pr λo pr'=>∃os,o=some os/\os.Perm pcs.flatten/\Nt pr' os/\pr<+:pr'/\pr'.length<=pr.length+D*(pcs.flatten.length+1):=by
 have J:D*(pcs.flatten.length+1)=D*pcs.flatten.length+D:=Tx ..;refine Wa.bind ?_;by_cases hp:0<pcs.length
 .rw [<- kH (mts 0 pcs.length)];refine zM (fr:=mY pcs<|Q5 pcs.length 0) (pc.fo _) 0 pcs.length hp _ pr [] _ (λi _ hi=>by unfold w8;rw[Z9 ⟨rfl,hi⟩]) (by lia) λw' pr1 f1 _ O l1=>?_;show Wa n (oX pcs (pcs.map Rr).sum (Q5 pcs.length 0) w' []) pr1 _;refine(rK hD hp _ _ w' [] pr1 (pc.mono f1) (EA ..) O (by rw[Lm,Si]) trivial (λA z e=>by simp at e)<|by rw[<- Si];lia).imp λo pr2 h=>?_;obtain⟨os,e,h1,h2,h3,U⟩:=h;rw[<- Si] at U;refine⟨os,e,by rw[Lm] at h1;exact h1,h2,f1.trans h3,by lia⟩
 .have e:pcs=[]:=Bk.mp (by lia);subst e;rw[cH<|by decide];exact⟨[],rfl,.refl _,trivial,gZ _,by lia⟩
noncomputable def uq(d:Nat):Nat->List (List Nat)->List (List Nat)->Pg (Option<|List<|List Nat)
 |0,_,acc=>.ret<|some acc
 |k+1,pcs,acc=>(Ee<|pcs.take d).bind λo=>match o with
  |none=>.ret none
  |some os=>uq d k (pcs.drop d)<|acc++[os]
theorem KN(l:List<|List Nat)(d:Nat):(l.take d).flatten++(l.drop d).flatten=l.flatten:=by rw[<- uM,xP]
theorem vD{d:Nat}(hd:d<=9):∀(k:Nat) (pcs acc:List<|List Nat) (pr:List A3),Pc n pr (acc++pcs)->pcs.length<=k*d->pr.length+9*(pcs.flatten.length+k)<=800000->
  Wa n (uq d k pcs acc) pr λo pr'=>∃out,o=some out/\out.flatten.Perm (acc++pcs).flatten/\(∀p∈out,Nt pr' p)/\out.length=acc.length+k/\pr<+:pr'/\pr'.length<=pr.length+9*(pcs.flatten.length+k)
 |0=>λpcs acc pr pc hl c=>by
  rw[Du] at hl;have e:pcs=[]:=Bk.mp (by lia);subst e;rw[kH] at*;exact⟨acc,rfl,.refl _,pc.nt,rfl,gZ _,by lia⟩
 |k+1=>λpcs acc pr pc hl c=>by
  have U:=KN pcs d;have fl:=congrArg Rr U;rw[aU] at fl;rw[Ds] at hl;have O:∀x∈(pcs.take d).flatten,x∈(acc++pcs).flatten:=λx J=>by
   rw[uM,<- U];exact gR _<|nO _ J
  have pt:Pc n pr<|pcs.take d:=by
   refine⟨λp z=>pc.nt p<|gR _<|R8 z,?_,λx J=>pc.lt x<|O x J⟩;have:=pc.nd;rw[uM,<- U] at this;exact(Ep.mp (Ep.mp this).2.1).1
  refine Wa.bind<|(L0 (D:=9) (by rw[kP];lia) pt<|by lia).imp λo pr1 h=>?_;obtain⟨os,rfl,h1,h2,h3,h4⟩:=h;show Wa n (uq d k (pcs.drop d)<|acc++[os]) pr1 _;have Z:(acc++[os]++pcs.drop d).flatten.Perm (acc++pcs).flatten:=by
   rw[uM,uM,uM,<- U,jU];refine List.Perm.append_left _ ?_;rw[show[os].flatten=os by simp];exact h1.append_right _
  refine(vD hd k (pcs.drop d) (acc++[os]) pr1 ⟨λp z=>?_,Z.nodup_iff.mpr pc.nd,λx J=>pc.lt x<|Z.mem_iff.mp J⟩ (by rw[lC];lia)<|by lia).imp λo pr2 g=>?_
  .rcases fG.mp z with z|z
   .rcases fG.mp z with z|z
    .exact (pc.nt p<|nO _ z).mono h3
    .rw [bY.mp z];exact h2
   .exact (pc.nt p<|gR _<|R9 z).mono h3
  .obtain ⟨out,e,g1,g2,g3,g4,g5⟩:=g;refine⟨out,e,g1.trans Z,g2,?_,h3.trans g4,by lia⟩;rw[g3,aU,iK];lia
noncomputable def cS(l d:Nat):Nat:=(l+d-1)/d
theorem Kr{l d:Nat}(z:0<d):l<=cS l d*d:=by
 unfold cS;have h1:=UI (l+d-1) d;have h2:=Tz (l+d-1) z;rw[Nat.mul_comm] at h1;lia
theorem zN{l d:Nat}(z:2<=d)(hl:2<=l):cS l d<l:=by
 unfold cS;refine Nat.div_lt_of_lt_mul ?_;obtain⟨a,rfl⟩:∃a,d=a+2:=⟨d-2,by lia⟩
 obtain⟨b,rfl⟩:∃b,l=b+2:=⟨l-2,by lia⟩
 have:(a+2)*(b+2)=a*b+2*a+2*b+4:=by rw[Nat.add_mul,Nat.mul_add,Nat.mul_add];lia
 lia
noncomputable def AG(d:Nat):Nat->List (List Nat)->List Nat->Pg (Option<|List Nat×List Nat)
 |0,pcs,ns=>.ret<|some (pcs.headD [],ns)
 |m+1,pcs,ns=>if 1<pcs.length then(uq d (cS pcs.length d) pcs []).bind λo=>match o with
   |none=>.ret none
   |some out=>AG d m out<|ns++[out.length]
  else .ret (some (pcs.headD [],ns))
theorem oI(h:pcs.length<=1):pcs.headD []=pcs.flatten:=by
 match pcs,h with
 |[],_=>rfl
 |[p],_=>simp
theorem vP(pc:Pc n pr pcs)(h:pcs.length<=1):Nt pr pcs.flatten:=by
 match pcs,h with
 |[],_=>exact trivial
 |[p],_=>have:=pc.nt p bH;simpa using this
theorem lV{d:Nat}(O:2<=d)(J:d<=9):∀(m:Nat) (pcs:List<|List Nat) (ns:List Nat) (pr:List A3),Pc n pr pcs->pcs.length<=m+1->pcs.flatten.length<=120->pcs.length<=120->pr.length+2200*pcs.length<=800000->
  Wa n (AG d m pcs ns) pr λo pr'=>∃r,o=some r/\r.1.Perm pcs.flatten/\Nt pr' r.1/\pr<+:pr'/\pr'.length<=pr.length+2200*pcs.length
 |0=>λpcs ns pr pc hm hf hl c=>by
  refine⟨_,rfl,?_,?_,gZ _,by lia⟩<;>dsimp only<;>rw[oI<|by lia];exact vP pc<|by lia
 |m+1=>λpcs ns pr pc hm hf hl c=>by
  rw[AG];by_cases z:1<pcs.length
  .rw [Z9 z];have h1:=Kr (l:=pcs.length) (d:=d) (by lia);have h2:=zN (l:=pcs.length) O (by lia);refine Wa.bind<|(vD J _ pcs [] pr pc h1<|by lia).imp λo pr1 h=>?_;obtain⟨out,rfl,g1,U,g3,g4,g5⟩:=h;have g1:out.flatten.Perm pcs.flatten:=g1;show Wa n (AG d m out<|ns++[out.length]) pr1 _;rw[yd,wt] at g3;have gl:=g1.length_eq;refine(lV O J m out _ pr1 ⟨U,g1.nodup_iff.mpr pc.nd,λx Z=>pc.lt x<|g1.mem_iff.mp Z⟩ (by lia) (by lia) (by lia)<|by lia).imp λo pr2 h=>?_;obtain⟨r,e,a1,a2,a3,a4⟩:=h;exact⟨r,e,a1.trans g1,a2,g4.trans a3,by lia⟩
  .rw [Z8 z];refine⟨_,rfl,?_,?_,gZ _,by lia⟩<;>dsimp only<;>rw[oI<|by lia];exact vP pc<|by lia
noncomputable def y9(G:Nat->Nat->Nat->Nat->Nat)(ls wd N:Nat):Nat->Nat->List (List Nat)->Pg (List<|List Nat)
 |0,_,acc=>.ret acc
 |k+1,f,acc=>(CH G ls f<|min (f+wd) N).bind λos=>y9 G ls wd N k (f+wd)<|acc++[os]
theorem vC{G:Nat->Nat->Nat->Nat->Nat}{ls wd:Nat}(hw:0<wd)(hn:n<=120):∀(k f:Nat) (acc:List<|List Nat) (pr:List A3),n<=f+k*wd->k*wd<n-f+wd->acc.flatten.Perm (Q8 0<|min f n)->(∀p∈acc,Nt pr p)->pr.length+400*(n-f)<=780000->
  Wa n (y9 G ls wd n k f acc) pr λout pr'=>out.flatten.Perm (Q8 0 n)/\(∀p∈out,Nt pr' p)/\out.length=acc.length+k/\pr<+:pr'/\pr'.length<=pr.length+400*(n-f)
 |0=>λf acc pr h1 h2 h3 J c=>by
  rw[Du] at h1;rw[SI<|by lia] at h3;exact⟨h3,J,rfl,gZ _,by lia⟩
 |k+1=>λf acc pr h1 h2 h3 J c=>by
  rw[Ds] at h1 h2;have hf:f<n:=by lia
  refine Wa.bind<|(vZ (n:=n) (pr:=pr) (s:=f) (e:=min (f+wd) n) (by lia) (by lia) hn<|by lia).imp λos pr1 h=>?_;obtain⟨g1,U,O,Z⟩:=h;refine(vC hw hn k (f+wd) (acc++[os]) pr1 (by lia) (by lia) ?_ (λp z=>?_)<|by lia).imp λout pr2 h=>?_
  .rw [uM,show[os].flatten=os by simp];rw[xQ<|by lia] at h3;refine(h3.append g1).trans ?_;have:=List.range'_append (s:=0) (m:=f) (n:=min (f+wd) n-f) (step:=1);rw[Nat.one_mul,wt] at this;rw[this,show f+(min (f+wd) n-f)=min (f+wd) n by lia]
  .rcases fG.mp z with z|z
   .exact (J p z).mono O
   .rw [bY.mp z];exact U
  .obtain ⟨a1,a2,a3,a4,a5⟩:=h;refine⟨a1,a2,?_,O.trans a4,by lia⟩;rw[a3,aU,iK];lia
noncomputable def Ay(G:Nat->Nat->Nat->Nat->Nat)(ls wd N:Nat):Pg<|List<|List Nat:=y9 G ls wd N (cS N wd) 0 []
noncomputable def Jq(G:Nat->Nat->Nat->Nat->Nat)(ls wd d N:Nat):Pg<|Option<|List Nat:=(Ay G ls wd N).bind λpcs=>(AG d pcs.length pcs []).bind λo=>match o with
 |none=>.ret none
 |some r=>.ret<|some r.1
end
end Pw
namespace Pw
variable {a m ps x y z:Nat}{l r:List Nat}
section
variable {α:Type}{n:Nat}{An:Nat->Nat->Nat->Bool}
def Tu(n:Nat)(An:Nat->Nat->Nat->Bool)(pr:List A3):Prop:=pr.length<=800001/\∀e∈pr,e.2.1<e.1/\e.1<n/\e.2.2=An 0 e.1 e.2.1
theorem Wa.tu(hA:∀k p q,An k p q=An 0 p q){P:α->List A3->Prop}:∀{x:Pg α} {pr:List A3},Wa n x pr P->Tu n An pr->Wp n An x pr λa pr'=>P a pr'/\Tu n An pr'
 |.ret a,pr,h,t=>⟨h,t⟩
 |.ask p q k,pr,h,t=>⟨h.1,h.2.1,h.2.2.1,Wa.tu hA (h.2.2.2 _) ⟨by rw[aU,iK];have:=h.2.2.1;lia,λe J=>by
  rcases fG.mp J with z|z
  .exact t.2 e z
  .rw [bY.mp z];exact⟨h.1,h.2.1,hA _ _ _⟩⟩⟩
theorem Wp.ex{P:α->List A3->Prop}{Q:α->Prop}:∀{x:Pg α} {pr:List A3},Wp n An x pr P->x.Al Q->∃a pr',Q a/\P a pr'
 |.ret a,pr,h,g=>⟨a,pr,g,h⟩
 |.ask p q k,pr,h,g=>Wp.ex h.2.2.2<|g _
end
noncomputable def wx(os:List Nat)(pl:Nat):Nat->Pg Nat
 |0=>.ret 0
 |s+1=>VY (os.getD s 0) pl λb=>if b then .ret (s+1) else wx os pl s
noncomputable def D5(os:List Nat)(pl:Nat):Pg Nat:=wx os pl os.length
noncomputable def nF(l r:List Nat)(m:Nat):Nat->Nat->Nat->Pg Nat
 |0,lo,_=>.ret lo
 |f+1,lo,hi=>if lo<hi then VY (l.getD ((lo+hi)/2) 0) (r.getD (m-(lo+hi)/2-1) 0) λb=>if b then nF l r m f ((lo+hi)/2+1) hi else nF l r m f lo ((lo+hi)/2) else .ret lo
noncomputable def I0(l r:List Nat)(m:Nat):Pg Nat:=nF l r m l.length (m-r.length)<|min m l.length
noncomputable def bD(l r:List Nat)(ps j:Nat):Nat:=(l.length+r.length)*j/ps
noncomputable def HW(l r:List Nat)(ps:Nat):Nat->Nat->List Nat->Pg (List Nat)
 |0,_,acc=>.ret acc
 |k+1,j,acc=>(I0 l r<|bD l r ps j).bind λc=>HW l r ps k (j+1)<|acc++[c]
noncomputable def jV(l:List Nat)(a b:Nat):List Nat:=(l.drop a).take<|b-a
noncomputable def uo(l r cs os:List Nat):Nat->Nat->List (List Nat)->Pg (List<|List Nat)
 |0,_,acc=>.ret acc
 |k+1,i,acc=>(IA (jV l (cs.getD i 0)<|cs.getD (i+1) 0)<|jV r (os.getD i 0)<|os.getD (i+1) 0).bind λo=>uo l r cs os k (i+1)<|acc++[o]
noncomputable def lW(l r cs:List Nat)(ps:Nat):List Nat:=(QL<|ps+1).map λj=>bD l r ps j-cs.getD j 0
noncomputable def CU(l r:List Nat)(ps:Nat):Pg<|List<|List Nat:=(HW l r ps (ps-1) 1 []).bind λc=>uo l r (0::(c++[l.length])) (lW l r (0::(c++[l.length])) ps) ps 0 []
section
variable {n:Nat}{pr:List A3}
theorem uQ{os:List Nat}{pl:Nat}(J:In n os pl)(VD:pl<n):∀(s:Nat) (pr:List A3),s<=os.length->(os.length<=s∨Td pr pl (os.getD s 0))->pr.length+s<=800000->Wa n (wx os pl s) pr λr pr'=>pr<+:pr'/\r<=os.length/\Bd pr' os pl r r/\pr'.length<=pr.length+s
 |0,pr,h,b,c=>⟨gZ _,h,⟨.inl rfl,b⟩,by lia⟩
 |s+1,pr,h,b,c=>by
  obtain⟨g1,O⟩:=qD (os:=os) (i:=s) (by lia);refine Wa.VY (J _ O).2 (J _ O).1 VD (by lia) λb' pr' f1 l1 Z U=>?_;cases b'
  .refine (uQ J VD s pr' (by lia) (.inr<|U rfl)<|by lia).imp λr pr2 h=>⟨f1.trans h.1,h.2.1,h.2.2.1,?_⟩
   have:=h.2.2.2;lia
  .exact ⟨f1,h,⟨.inr<|Z rfl,b.imp id λz=>z.mono f1⟩,by lia⟩
theorem vq:∀(m pl:Nat) (os:List Nat) (pr:List A3),os.Perm (Q8 0 pl)->pl+m<=n->n<=120->Nt pr os->pr.length+120*m<=800000->Wa n (jM D5 m pl os) pr λos' pr'=>os'.Perm (Q8 0<|pl+m)/\Nt pr' os'
 |0,pl,os,pr,hp,hn,hk,h,c=>⟨hp,h⟩
 |m+1,pl,os,pr,hp,hn,hk,h,c=>by
  have hl:=hp.length_eq;rw[Er] at hl;have J:In n os pl:=λx O=>by
   have:=List.mem_range'_1.mp<|hp.mem_iff.mp O;lia
  refine Wa.bind<|(uQ J (by lia) os.length pr (aL _) (.inl<|aL _)<|by lia).imp λr pr' g=>?_;obtain⟨f1,g1,U,Z⟩:=g;refine(vq m (pl+1) (lY os r pl) pr' ?_ (by lia) hk (zD (h.mono f1) g1 U)<|by lia).imp λos' pr2 z=>⟨?_,z.2⟩
  .refine dH.trans ?_;rw[Gp,wt];exact hp.append_right _
  .rw [show pl+(m+1)=pl+1+m by lia];exact z.1
structure Ct(pr:List A3)(l r:List Nat)(m c:Nat):Prop where
 cl:c<=l.length
 cm:c<=m
 cr:m<=c+r.length
 lo:0<c->m-c<r.length->Td pr (l.getD (c-1) 0) (r.getD (m-c) 0)
 hi:c<m->c<l.length->Td pr (r.getD (m-c-1) 0) (l.getD c 0)
theorem Ct.mono{pr':List A3}{c:Nat}(h:Ct pr l r m c)(f:pr<+:pr'):Ct pr' l r m c:=⟨h.cl,h.cm,h.cr,λa b=>(h.lo a b).mono f,λa b=>(h.hi a b).mono f⟩
theorem KJ{l r:List Nat}{m:Nat}(t:Tw n l r)(hm:m<=l.length+r.length):∀(f lo hi:Nat) (pr:List A3),hi-lo<=f->lo<=hi->m-r.length<=lo->hi<=m->hi<=l.length->(m-r.length<lo->Td pr (l.getD (lo-1) 0) (r.getD (m-lo) 0))->(hi<m->hi<l.length->Td pr (r.getD (m-hi-1) 0) (l.getD hi 0))->pr.length+(hi-lo)<=800000->
  Wa n (nF l r m f lo hi) pr λc pr'=>Ct pr' l r m c/\pr<+:pr'/\pr'.length<=pr.length+(hi-lo)
 |0,lo,hi,pr,h0,h1,h2,h3,h4,b1,b2,c=>by
  have:lo=hi:=by lia
  subst this;exact⟨⟨h4,h3,by lia,λa b=>b1<|by lia,b2⟩,gZ _,by lia⟩
 |f+1,lo,hi,pr,h0,h1,h2,h3,h4,b1,b2,c=>by
  rw[nF.eq_2];by_cases z:lo<hi
  .rw [Z9 z];have J:lo<=(lo+hi)/2:=by lia
   have O:(lo+hi)/2<hi:=by lia
   generalize (lo+hi)/2=mi at J O;obtain⟨g1,U⟩:=qD (os:=l) (i:=mi) (by lia);obtain⟨g3,Z⟩:=qD (os:=r) (i:=m-mi-1) (by lia);refine Wa.VY (t.d _ U _ Z) (t.l _ U) (t.r _ Z) (by lia) λb' pr' f1 l1 t1 t2=>?_;cases b'
   .refine (KJ t hm f lo mi pr' (by lia) (by lia) h2 (by lia) (by lia) (λa=>(b1 a).mono f1) (λ_ _=>t2 rfl)<|by lia).imp λr pr2 h=>⟨h.1,f1.trans h.2.1,?_⟩
    have:=h.2.2;lia
   .refine (KJ t hm f (mi+1) hi pr' (by lia) (by lia) (by lia) h3 h4 (λ_=>by rw[show m-(mi+1)=m-mi-1 by lia];exact t1 rfl) (λa b=>(b2 a b).mono f1)<|by lia).imp λr pr2 h=>⟨h.1,f1.trans h.2.1,?_⟩
    have:=h.2.2;lia
  .rw [Z8 z];have:lo=hi:=by lia
   subst this;exact⟨⟨h4,h3,by lia,λa b=>b1<|by lia,b2⟩,gZ _,by lia⟩
theorem Ak(t:Tw n l r)(hm:m<=l.length+r.length)(c:pr.length+l.length<=800000):Wa n (I0 l r m) pr λc pr'=>Ct pr' l r m c/\pr<+:pr'/\pr'.length<=pr.length+l.length:=by
 refine(KJ t hm l.length (m-r.length) (min m l.length) pr (by lia) (by lia) (aL _) (by lia) (by lia) (λa=>by lia) (λa b=>by lia)<|by lia).imp λc pr' h=>⟨h.1,h.2.1,?_⟩
 have:=h.2.2;lia
theorem vU{j:Nat}(h:j<=ps)(z:0<ps):bD l r ps j<=l.length+r.length:=by
 unfold bD;refine Nat.div_le_of_le_mul ?_;rw[Nat.mul_comm];exact Nat.mul_le_mul_right _ h
theorem sS{l r:List Nat}{ps:Nat}(t:Tw n l r)(hl:l.length<=120):∀(k j:Nat) (acc:List Nat) (pr:List A3),j+k=ps->0<j->acc.length+1=j->(∀i c,acc[i]?=some c->Ct pr l r (bD l r ps<|i+1) c)->pr.length+120*k<=800000->
  Wa n (HW l r ps k j acc) pr λcs pr'=>cs.length=acc.length+k/\(∀i c,cs[i]?=some c->Ct pr' l r (bD l r ps<|i+1) c)/\pr<+:pr'/\pr'.length<=pr.length+120*k
 |0,j,acc,pr,h1,h2,h3,h4,c=>⟨rfl,h4,gZ _,by lia⟩
 |k+1,j,acc,pr,h1,h2,h3,h4,c=>by
  refine Wa.bind<|(Ak t (vU (by lia)<|by lia)<|by lia).imp λc pr1 h=>?_;obtain⟨a1,a2,a3⟩:=h;refine(sS t hl k (j+1) (acc++[c]) pr1 (by lia) (by lia) (by rw[aU,iK];lia) (λi c' e=>?_)<|by lia).imp λcs pr2 g=>?_
  .by_cases z:i<acc.length
   .rw [iE z] at e;exact(h4 i c' e).mono a2
   .rw [gI<|by lia] at e;cases y:i-acc.length with
    |zero=>
     rw[y] at e;cases e;rw[show i+1=j by lia];exact a1
    |succ y'=>rw[y] at e;simp at e
  .obtain ⟨O,J,U,Z⟩:=g;rw[aU,iK] at O;exact⟨by lia,J,a2.trans U,by lia⟩
theorem yJ{b:Nat}(h:Nt pr l):Nt pr<|jV l a b:=Nb.take (Nb.drop h a) _
theorem ve{b:Nat}(h:x∈jV l a b):x∈l:=R9<|R8 h
theorem JK{b:Nat}:(jV l a b).length<=l.length:=by unfold jV;rw[kP,lC];lia
theorem vr{l r cs os:List Nat}(t:Tw n l r)(hl:l.length+r.length<=200):∀(k i:Nat) (acc:List<|List Nat) (pr:List A3),acc.length=i->Nt pr l->Nt pr r->(∀j p,acc[j]?=some p->p.Perm (jV l (cs.getD j 0) (cs.getD (j+1) 0)++jV r (os.getD j 0) (os.getD (j+1) 0))/\Nt pr p)->pr.length+1000*k<=800000->
  Wa n (uo l r cs os k i acc) pr λps pr'=>ps.length=acc.length+k/\(∀j p,ps[j]?=some p->p.Perm (jV l (cs.getD j 0) (cs.getD (j+1) 0)++jV r (os.getD j 0) (os.getD (j+1) 0))/\Nt pr' p)/\pr<+:pr'
 |0,i,acc,pr,h1,n1,n2,h4,c=>⟨rfl,h4,gZ _⟩
 |k+1,i,acc,pr,h1,n1,n2,h4,c=>by
  have z1:=JK (l:=l) (a:=cs.getD i 0) (b:=cs.getD (i+1) 0);have z2:=JK (l:=r) (a:=os.getD i 0) (b:=os.getD (i+1) 0);refine Wa.bind<|(lX (t.sub (λx=>ve) λx=>ve) (yJ n1) (yJ n2)<|by lia).imp λo pr1 h=>?_;obtain⟨a1,a2,a3,a4⟩:=h;refine(vr t hl k (i+1) (acc++[o]) pr1 (by rw[aU,h1];rfl) (n1.mono a3) (n2.mono a3) (λj p e=>?_)<|by lia).imp λps pr2 g=>?_
  .by_cases z:j<acc.length
   .rw [iE z] at e;obtain⟨U,O⟩:=h4 j p e;exact⟨U,O.mono a3⟩
   .rw [gI<|by lia] at e;cases y:j-acc.length with
    |zero=>
     rw[y] at e;cases e;rw[show j=i by lia];exact⟨a1,a2⟩
    |succ y'=>rw[y] at e;simp at e
  .obtain ⟨Z,J,b3⟩:=g;rw[aU,iK] at Z;exact⟨by lia,J,a3.trans b3⟩
def Ap(pr:List A3)(l r:List Nat)(ps:Nat)(out:List<|List Nat):Prop:=∃cs:List Nat,cs.length=ps+1/\cs.getD 0 0=0/\cs.getD ps 0=l.length/\(∀j,j<=ps->Ct pr l r (bD l r ps j) (cs.getD j 0))/\out.length=ps/\∀j p,out[j]?=some p->p.Perm (jV l (cs.getD j 0) (cs.getD (j+1) 0)++jV r (bD l r ps j-cs.getD j 0) (bD l r ps (j+1)-cs.getD (j+1) 0))/\Nt pr p
theorem CS(t:Tw n l r)(hl:l.length+r.length<=120)(hp:0<ps)(aa:ps<=100)(n1:Nt pr l)(n2:Nt pr r)(c:pr.length+1120*ps<=800000):Wa n (CU l r ps) pr λout pr'=>pr<+:pr'/\Ap pr' l r ps out:=by
 refine Wa.bind<|(sS t (by lia) (ps-1) 1 [] pr (by lia) (by decide) rfl (λi c e=>by simp at e)<|by lia).imp λc pr1 h=>?_;obtain⟨a1,a2,a3,a4⟩:=h;rw[yd,wt] at a1;have O:(0::(c++[l.length])).length=ps+1:=by rw[cP,aU,iK];lia
 have U:(0::(c++[l.length])).getD 0 0=0:=rfl;have e2:(0::(c++[l.length])).getD ps 0=l.length:=by
  rw[iR,show ps=(ps-1)+1 by lia,List.getElem?_cons_succ,gI<|by lia,show ps-1-c.length=0 by lia];rfl
 have e3:∀j,j<=ps->Ct pr1 l r (bD l r ps j) ((0::(c++[l.length])).getD j 0):=λj J=>by
  by_cases z:j=0
  .subst z;rw[U,show bD l r ps 0=0 by unfold bD;rw[Ul,Nat.zero_div]];exact⟨dU _,aL _,dU _,λa=>by lia,λa=>by lia⟩
  .by_cases y:j=ps
   .subst y;rw[e2,show bD l r j j=l.length+r.length by unfold bD;exact Ug _ hp];exact⟨aL _,by lia,aL _,λa b=>by lia,λa b=>by lia⟩
   .obtain ⟨i,rfl⟩:∃i,j=i+1:=⟨j-1,by lia⟩
    have hi:i<c.length:=by lia
    rw[iR,List.getElem?_cons_succ,iE hi,bV hi];exact a2 i _<|bV hi
 have e4:∀j,j<=ps->(lW l r (0::(c++[l.length])) ps).getD j 0=bD l r ps j-(0::(c++[l.length])).getD j 0:=λj J=>by
  unfold lW;rw[iR,dB,uN<|by lia];rfl
 refine(vr t (by lia) ps 0 [] pr1 rfl (n1.mono a3) (n2.mono a3) (λj p e=>by simp at e)<|by lia).imp λout pr2 g=>?_;obtain⟨Z,b2,b3⟩:=g;rw[yd,wt] at Z;refine⟨a3.trans b3,_,O,U,e2,λj J=>(e3 j J).mono b3,Z,λj p e=>?_⟩;have J:=(cV.mp e).1;have:=b2 j p e;rw[e4 j<|by lia,e4 (j+1)<|by lia] at this;exact this
end
def lxf(κ:Nat->Int)(x y:Nat):Prop:=κ x<κ y∨(κ x=κ y/\x<y)
noncomputable def tE(κ:Nat->Int)(bb:Bool)(_ p q:Nat):Bool:=cond bb (!decide (κ p<κ q))<|decide<|κ p<κ q
def gV(κ:Nat->Int)(bb:Bool)(x y:Nat):Prop:=cond bb (lxf κ y x)<|lxf κ x y
section
variable {κ:Nat->Int}{n:Nat}{pr:List A3}{bb:Bool}
theorem Ga(a:gV κ bb x y)(b:gV κ bb y z):gV κ bb x z:=by
 cases bb<;>(simp only[gV,cond,lxf] at*;lia)
theorem F8(a:gV κ bb x y)(b:gV κ bb y x):False:=by
 cases bb<;>(simp only[gV,cond,lxf] at*;lia)
theorem Ia(t:Tu n (tE κ bb) pr){p q:Nat}(h:Td pr p q):gV κ bb p q:=by
 obtain⟨b,h1,h2⟩:=h;obtain⟨a1,_,a3⟩:=t.2 _ h1;dsimp only at a1 a3;subst a3;by_cases z:q<p
 .rw [Z9 z,show max p q=p by lia,show min p q=q by lia] at h2;cases bb
  .have:=of_decide_eq_true (show decide (κ p<κ q)=true from h2);exact .inl this
  .have:¬ κ p<κ q:=of_decide_eq_false (by simpa[tE] using h2);show lxf κ q p;unfold lxf;lia
 .rw [Z8 z,show max p q=q by lia,show min p q=p by lia] at h2;cases bb
  .have:¬ κ q<κ p:=of_decide_eq_false (by simpa[tE] using h2);show lxf κ p q;unfold lxf;lia
  .have:κ q<κ p:=of_decide_eq_true (by simpa[tE] using h2);exact .inl this
theorem DO{R:Nat->Nat->Prop}(J:∀x y z,R x y->R y z->R x z):∀{l:List Nat},Nb R l->l.Pairwise R
 |[],_=>.nil
 |[_],_=>List.pairwise_singleton _ _
 |a::b::l,h=>by
  have O:=DO J h.2;refine Es.mpr ⟨λx U=>?_,O⟩;rcases cL.mp U with z|z
  .rw [z];exact h.1
  .exact J _ _ _ h.1 ((Es.mp O).1 x z)
theorem D4(t:Tu n (tE κ bb) pr)(h:Nt pr l):l.Pairwise<|gV κ bb:=DO (R:=gV κ bb) (λ_ _ _ a b=>Ga a b)<|Nb.mono (λ_ _ z=>Ia t z) h
theorem Iq{A B:List Nat}(h:A.Perm B)(h1:A.Pairwise<|gV κ bb)(h2:B.Pairwise<|gV κ bb):A=B:=List.Perm.eq_of_pairwise (λa b _ _ h1 h2=>(F8 h1 h2).elim) h1 h2 h
theorem Jl(h:l.Pairwise<|gV κ bb){i j:Nat}(O:i<=j)(J:j<l.length):i=j∨gV κ bb (l.getD i 0) (l.getD j 0):=by
 by_cases z:i=j
 .exact .inl z
 .have:=GA.mp h i j (by lia) J (by lia);rw[iR,iR,bV<|by lia,bV J];exact .inr this
theorem vH{A L:List Nat}{U:List Nat}(hA:(A++[z]).Pairwise<|gV κ bb)(J:L.Pairwise<|gV κ bb)(sub:∀x∈L,x∈A++[z])(O:z∈L)(e:L=U++[y]):z=y:=by
 subst e;rcases fG.mp O with h|h
 .rcases fG.mp (sub y<|gR _ bH) with g|g
  .exact (F8 ((List.pairwise_append.mp J).2.2 z h y bH)<|(List.pairwise_append.mp hA).2.2 y g z bH).elim
  .exact (bY.mp g).symm
 .exact bY.mp h
theorem vO{A L:List Nat}{U:List Nat}(hA:(z::A).Pairwise<|gV κ bb)(J:L.Pairwise<|gV κ bb)(sub:∀x∈L,x∈z::A)(O:z∈L)(e:L=y::U):z=y:=by
 subst e;rcases cL.mp O with h|h
 .exact h
 .rcases cL.mp (sub y bH) with g|g
  .exact g.symm
  .exact (F8 ((Es.mp J).1 z h)<|(Es.mp hA).1 y g).elim
theorem HQ(t:Tu n (tE κ bb) pr){c c':Nat}(hl:l.Pairwise<|gV κ bb)(hr:r.Pairwise<|gV κ bb)(hm:m<=a)(h:Ct pr l r m c)(h':Ct pr l r a c'):c<=c'/\m-c<=a-c':=by
 have a1:=h.cl;have a2:=h.cm;have a3:=h.cr;have b1:=h'.cl;have b2:=h'.cm;have b3:=h'.cr;constructor
 .apply R4;intro z;have g1:=Ia t (h.lo (by lia)<|by lia);have O:=Ia t (h'.hi (by lia)<|by lia);have g3:=Jl hr (i:=m-c) (j:=a-c'-1) (by lia) (by lia);have Z:=Jl hl (i:=c') (j:=c-1) (by lia) (by lia);have J:gV κ bb (l.getD (c-1) 0)<|l.getD c' 0:=by
   rcases g3 with e|e
   .rw [<- e] at O;exact Ga g1 O
   .exact Ga g1 (Ga e O)
  rcases Z with e|e
  .rw [<- e] at J;exact F8 J J
  .exact F8 J e
 .apply R4;intro z;have g1:=Ia t (h.hi (by lia)<|by lia);have O:=Ia t (h'.lo (by lia)<|by lia);have g3:=Jl hl (i:=c) (j:=c'-1) (by lia) (by lia);have Z:=Jl hr (i:=a-c') (j:=m-c-1) (by lia) (by lia);have J:gV κ bb (r.getD (m-c-1) 0)<|r.getD (a-c') 0:=by
   rcases g3 with e|e
   .rw [<- e] at O;exact Ga g1 O
   .exact Ga g1 (Ga e O)
  rcases Z with e|e
  .rw [<- e] at J;exact F8 J J
  .exact F8 J e
theorem qQ{b:Nat}(h:a<=b):l.take b=l.take a++jV l a b:=by
 unfold jV;rw[<- List.take_add,show a+(b-a)=b by lia]
theorem qX{B:List Nat}{b:Nat}(h:jV l a b=z::B):a<l.length/\z=l.getD a 0:=by
 unfold jV at h;cases e:l.drop a with
 |nil=>rw[e] at h;simp at h
 |cons y D=>
  rw[e] at h;cases k:b-a with
  |zero=>rw[k] at h;simp at h
  |succ k'=>
   rw[k,List.take_succ_cons] at h;injection h with h1 _
   rw[<- h1];exact JU e
theorem CW(t:Tu n (tE κ bb) pr){out:List<|List Nat}(hp:0<ps)(h:Ap pr l r ps out)(nl:Nt pr l)(nr:Nt pr r):out.flatten.Perm (l++r)/\Nt pr out.flatten:=by
 obtain⟨cs,h1,h2,h3,h4,h5,h6⟩:=h;have hl:=D4 t nl;have hr:=D4 t nr;have hm:∀j,bD l r ps j<=bD l r ps (j+1):=λj=>by
  unfold bD;exact Nat.div_le_div_right<|Nat.mul_le_mul_left _<|nN _
 have go:∀k,k<=ps->(out.take k).flatten.Perm (l.take (cs.getD k 0)++r.take (bD l r ps k-cs.getD k 0))/\Nt pr (out.take k).flatten:=λk=>by
  induction k with
  |zero=>
   intro _;rw[h2,show bD l r ps 0=0 by unfold bD;rw[Ul,Nat.zero_div]];exact⟨.refl _,trivial⟩
  |succ k ih=>
   intro hk;obtain⟨p1,p2⟩:=ih (by lia);have aa:k<out.length:=by lia
   obtain⟨Z,q2⟩:=h6 k _<|bV aa;have c0:=h4 k (by lia);obtain⟨w1,w2⟩:=HQ t hl hr (hm k) c0<|h4 (k+1) hk;rw[Eu,bV aa,Option.toList_some,uM,show[out[k]].flatten=out[k] by simp];generalize out[k]=p at Z q2;rw[qQ w1,qQ w2];generalize cs.getD (k+1) 0=c' at*;generalize bD l r ps (k+1)=m' at*;generalize cs.getD k 0=c at*;generalize bD l r ps k=m at*;have z1:=c0.cl;have z2:=c0.cm;have z3:=c0.cr;refine⟨?_,Nb.app p2 q2 λA z u B eA eB=>?_⟩
   .refine (p1.append Z).trans (LZ λx=>?_);simp only[xO];lia
   .have pA:=D4 t p2;have pB:=D4 t q2;rw[eA] at pA p1;rw[eB] at pB Z;have sL:(l.take c).Pairwise<|gV κ bb:=hl.sublist<|Sx _ _;have sR:(r.take<|m-c).Pairwise<|gV κ bb:=hr.sublist<|Sx _ _;have tL:(jV l c c').Pairwise<|gV κ bb:=hl.sublist<|(Sx _ _).trans<|List.drop_sublist _ _;have tR:(jV r (m-c)<|m'-c').Pairwise<|gV κ bb:=hr.sublist<|(Sx _ _).trans<|List.drop_sublist _ _;have hz:(0<c/\z=l.getD (c-1) 0)∨(0<m-c/\z=r.getD (m-c-1) 0):=by
     rcases fG.mp (p1.mem_iff.mp<|gR _ bH) with g|g
     .rcases SF (l.take c) with e|⟨L',y,e⟩
      .rw [e] at g;cases g
      .rw [RY] at e;have ey:=vH pA sL (λx O=>p1.mem_iff.mpr<|nO _ O) g e;obtain⟨J,U⟩:=JX z1 e;exact .inl ⟨J,by rw[ey];exact U⟩
     .rcases SF (r.take<|m-c) with e|⟨L',y,e⟩
      .rw [e] at g;cases g
      .rw [RY] at e;have ey:=vH pA sR (λx O=>p1.mem_iff.mpr<|gR _ O) g e;obtain⟨J,U⟩:=JX (show m-c<=r.length by lia) e;exact .inr ⟨J,by rw[ey];exact U⟩
    have hu:(c<l.length/\u=l.getD c 0)∨(m-c<r.length/\u=r.getD (m-c) 0):=by
     rcases fG.mp (Z.mem_iff.mp bH) with g|g
     .cases e:jV l c c' with
      |nil=>rw[e] at g;cases g
      |cons y L'=>
       obtain⟨J,U⟩:=qX e;exact .inl ⟨J,by rw[vO pB tL (λx O=>Z.mem_iff.mpr<|nO _ O) g e];exact U⟩
     .cases e:jV r (m-c) (m'-c') with
      |nil=>rw[e] at g;cases g
      |cons y L'=>
       obtain⟨J,U⟩:=qX e;exact .inr ⟨J,by rw[vO pB tR (λx O=>Z.mem_iff.mpr<|gR _ O) g e];exact U⟩
    have nx:∀(L:List Nat) (i:Nat),Nt pr L->0<i->i<L.length->Td pr (L.getD (i-1) 0) (L.getD i 0):=λL i hL h0 hi=>hL.at (i:=i-1) (qD<|by lia).1 (by rw[show i-1+1=i by lia];exact(qD hi).1);rcases hz with ⟨a1,rfl⟩|⟨a1,rfl⟩<;>rcases hu with ⟨b1,rfl⟩|⟨b1,rfl⟩
    .exact nx l c nl a1 b1
    .exact c0.lo a1 b1
    .exact c0.hi (by lia) b1
    .exact nx r _ nr a1 b1
 have:=go ps<|aL _;rw[h3,pE<|by lia,show bD l r ps ps-l.length=r.length by unfold bD;rw[Ug _ hp];lia,pE<|aL _,pE<|aL _] at this;exact this
end
open Po
section
variable {n:Nat}
theorem Wa.unbind{α z:Type}{f:α->Pg z}{P:z->List A3->Prop}:∀{x:Pg α} {pr:List A3},Wa n (x.bind f) pr P->Wa n x pr λa pr'=>Wa n (f a) pr' P
 |.ret a,pr,h=>h
 |.ask p q k,pr,h=>⟨h.1,h.2.1,h.2.2.1,λb=>Wa.unbind<|h.2.2.2 b⟩
noncomputable def mP(pcs:List<|List Nat):Nat->List Nat->W->List Nat->Pg (Option<|List Nat×Nat)
 |0,_,w,acc=>match w 0 pcs.length with
  |some (some c)=>.ret<|some (acc,c.1)
  |_=>.ret none
 |k+1,ts,w,acc=>match w 0 pcs.length with
  |some (some c)=>(kM ((mts 0 pcs.length).filter<|tQ c.2)<|put w c.2 (c.2+1)<|mY pcs (qP ts c.2) c.2).bind λo=>match o with
   |none=>.ret none
   |some w'=>mP pcs k (qP ts c.2) w'<|acc++[c.1]
  |_=>.ret none
noncomputable def Eh(pcs:List<|List Nat)(k:Nat):Pg<|Option<|List Nat×Nat:=(kM (mts 0 pcs.length)<|w8 pcs pcs.length).bind λo=>match o with
 |none=>.ret none
 |some w=>mP pcs k (Q5 pcs.length 0) w []
def Goes(n:Nat)(pcs:List<|List Nat)(r k:Nat)(P:Option (List Nat)->List A3->Prop)(o:Option<|List Nat×Nat)(pr:List A3):Prop:=∃a x i ts w,o=some (a,x)/\a.length=k/\w 0 pcs.length=some (some (x,i))/\Wa n (oX pcs (r+1) ts w a) pr P
theorem vc{pcs:List<|List Nat}{r:Nat}{P:Option (List Nat)->List A3->Prop}(J:∀pr,¬ P none pr):∀(k:Nat) (ts:List Nat) (w:W) (acc:List Nat) (pr:List A3),Wa n (oX pcs (k+(r+1)) ts w acc) pr P->Wa n (mP pcs k ts w acc) pr (Goes n pcs r (acc.length+k) P)
 |0,ts,w,acc,pr,h=>by
  rw[wt] at h;have h':=h;rw[oX] at h';rw[mP];split at h'
  .rename_i c hc
   (try rw[hc])
   exact⟨acc,c.1,c.2,ts,w,rfl,rfl,hc,h⟩
  .exact absurd h' (J _)
 |k+1,ts,w,acc,pr,h=>by
  rw[show k+1+(r+1)=(k+(r+1))+1 by lia,oX] at h;rw[mP];split at h
  .rename_i c hc
   (try rw[hc])
   refine Wa.bind<|h.unbind.imp λo pr' z=>?_;cases o with
   |none=>exact absurd z<|J _
   |some w'=>
    refine(vc J k _ w' _ pr' z).imp λo pr2 y=>?_;rw[aU,iK,show acc.length+1+k=acc.length+(k+1) by lia] at y;exact y
  .exact absurd h (J _)
theorem uk{pcs:List<|List Nat}{k r:Nat}{pr:List A3}{P:Option (List Nat)->List A3->Prop}(J:∀pr,¬ P none pr)(O:(pcs.map Rr).sum=k+(r+1))(h:Wa n (Ee pcs) pr P):Wa n (Eh pcs k) pr<|Goes n pcs r k P:=by
 unfold Ee at h;unfold Eh;refine Wa.bind<|h.unbind.imp λo pr' z=>?_;cases o with
 |none=>exact absurd z<|J _
 |some w=>
  have z:Wa n (oX pcs (pcs.map Rr).sum (Q5 pcs.length 0) w []) pr' P:=z;rw[O] at z;have:=vc J k _ w [] pr' z;rw[yd,wt] at this;exact this
end
section
variable {n:Nat}{An:Nat->Nat->Nat->Bool}
theorem DL{R:Nat->Nat->Prop}:∀{l:List Nat},l.Pairwise R->Nb R l
 |[],_=>trivial
 |[_],_=>trivial
 |a::b::l,h=>⟨(Es.mp h).1 b bH,DL (Es.mp h).2⟩
noncomputable def sg(n:Nat):List<|List Nat:=(QL n).map λx=>[x]
theorem Ea(n:Nat):(sg n).length=n:=by unfold sg;rw[aM,cU]
theorem yL{n i:Nat}{ys:List Nat}(h:(sg n)[i]?=some ys):ys=[i]/\i<n:=by
 have hi:=(cV.mp h).1;rw[Ea] at hi;unfold sg at h;rw[dB,uN hi] at h;cases h;exact⟨rfl,hi⟩
theorem yK:∀n,((sg n).map Rr).sum=n
 |0=>rfl
 |n+1=>by
  have:=yK n;unfold sg at this⊢;rw[uL,cF,cF,List.sum_append,this];rfl
theorem Iy:∀n,(sg n).flatten=QL n
 |0=>rfl
 |n+1=>by
  have:=Iy n;unfold sg at this⊢;rw[uL,cF,uM,this];rfl
theorem He(n:Nat)(pr:List A3):Pc n pr<|sg n:=⟨λp h=>by
 unfold sg at h;obtain⟨x,_,rfl⟩:=xR.mp h;exact trivial,by rw[Iy];exact Eo,λx z=>by rw[Iy] at z;exact mL.mp z⟩
theorem uF{G:Nat->Nat->Nat->Nat->Nat}{ls wd d:Nat}{pr:List A3}(hw:0<wd)(U:2<=d)(J:d<=9)(hn:n<=30)(c:pr.length+81000<=800000):Wa n (Jq G ls wd d n) pr λo pr'=>∃os,o=some os/\os.Perm (Q8 0 n)/\Nt pr' os:=by
 have h1:=Kr (l:=n) (d:=wd) hw;have h2:cS n wd*wd<n-0+wd:=by
  unfold cS;have:=Nat.div_mul_le_self (n+wd-1) wd;lia
 have h3:cS n wd<=n+1:=by
  unfold cS;by_cases z:n=0
  .subst z;have:(0+wd-1)/wd<2:=Nat.div_lt_of_lt_mul (by lia);lia
  .refine Nat.div_le_of_le_mul ?_;have:wd*(n+1)=wd*n+wd:=Tx ..;have:n<=wd*n:=Nat.le_mul_of_pos_left n hw;lia
 refine Wa.bind<|(vC (G:=G) (ls:=ls) hw (by lia) (cS n wd) 0 [] pr (by lia) h2 (by rw[Nat.zero_min];exact .refl _) (λp hp=>by cases hp)<|by lia).imp λpcs pr1 h=>?_;obtain⟨a1,a2,a3,a4,a5⟩:=h;rw[yd,wt] at a3;have hl:=a1.length_eq;rw[Er] at hl;have pc:Pc n pr1 pcs:=⟨a2,a1.nodup_iff.mpr List.nodup_range',λx Z=>by have:=List.mem_range'_1.mp<|a1.mem_iff.mp Z;lia⟩
 refine Wa.bind<|(lV U J pcs.length pcs [] pr1 pc (by lia) (by lia) (by lia)<|by lia).imp λo pr2 h=>?_;obtain⟨r,rfl,b1,O,_,_⟩:=h;exact⟨r.1,rfl,b1.trans a1,O⟩
theorem Ko{α:Type}{P:α->Prop}(h:∀a,P a):∀{x:Pg α},x.Al P
 |.ret a=>h a
 |.ask _ _ k=>λb=>Ko h
theorem nZ{pcs:List<|List Nat}:∀(k:Nat) (ts:List Nat) (w:Po.W) (acc:List Nat),(oX pcs k ts w acc).Al λo=>∀os,o=some os->acc<+:os
 |0,ts,w,acc=>λos e=>by cases e;exact gZ _
 |k+1,ts,w,acc=>by
  rw[oX];split
  .refine Pg.Al.bind (Ko λo=>?_);cases o with
   |none=>exact λos e=>by cases e
   |some w'=>exact(nZ k _ w' _).imp λo h os e=>(List.prefix_append _ _).trans<|h os e
  .exact λos e=>by cases e
theorem nY{pcs:List<|List Nat}{k:Nat}{ts:List Nat}{w:Po.W}{acc:List Nat}{x:Nat×Nat}(h:w 0 pcs.length=some (some x)):(oX pcs (k+1) ts w acc).Al λo=>∀os,o=some os->acc++[x.1]<+:os:=by
 rw[oX,h];refine Pg.Al.bind<|Ko λo=>?_;cases o with
 |none=>exact λos e=>by cases e
 |some w'=>exact nZ k _ w' _
theorem Goes.os{r k:Nat}{o:Option<|List Nat×Nat}{pr:List A3}(g:Goes n (sg n) r k (λo pr'=>∃os,o=some os/\os.Perm (QL n)/\Nt pr' os) o pr){An:Nat->Nat->Nat->Bool}(hA:∀k p q,An k p q=An 0 p q)(Z:Prop)(t:Z->Tu n An pr):∃a x rest pr2,o=some (a,x)/\a.length=k/\(a++x::rest).Perm (QL n)/\Nt pr2 (a++x::rest)/\(Z->Tu n An pr2):=by
 obtain⟨a,x,i,ts,w,e,h1,h2,h3⟩:=g;have fin:∀os,a++[x]<+:os->∃rest,os=a++x::rest:=λos ⟨rest,h⟩=>⟨rest,by rw[<- h,jU];rfl⟩
 by_cases z:Z
 .obtain ⟨o,pr2,O,⟨os,e2,p2,J⟩,U⟩:=(Wa.tu hA h3<|t z).ex<|nY h2;obtain⟨rest,rfl⟩:=fin os<|O os e2;exact⟨a,x,rest,pr2,e,h1,p2,J,λ_=>U⟩
 .obtain ⟨o,pr2,O,⟨os,e2,p2,J⟩,_⟩:=(Wa.wp An h3).ex<|nY h2;obtain⟨rest,rfl⟩:=fin os<|O os e2;exact⟨a,x,rest,pr2,e,h1,p2,J,λy=>absurd y z⟩
end
end Pw
namespace Pw
variable {l od:List Nat}{pr:List A3}{An:Nat->Nat->Nat->Bool}{κ:Nat->Int}{k m wy x:Nat}{c cl:Int}{bb:Bool}
noncomputable def dst(k:Nat)(c:Int)(p:Nat):Nat:=((c/4/((p:Int)+1)+p)%(k:Int)).toNat
noncomputable def dlw(k:Nat)(c:Int)(od:List Nat):List<|List Nat:=(QL k).map λi=>od.filter λp=>dst k c p==i
theorem Af{p:Nat}(h:0<k):dst k c p<k:=by
 unfold dst;have h1:=QU (c/4/((p:Int)+1)+p) (show(k:Int)≠0 by lia);have h2:=QW (c/4/((p:Int)+1)+p) (show(0:Int)<(k:Int) by lia);lia
theorem JD(k:Nat)(c:Int)(od:List Nat):(dlw k c od).length=k:=by unfold dlw;rw[aM,cU]
theorem JC{i:Nat}(h:i<k):(dlw k c od)[i]?=some (od.filter λp=>dst k c p==i):=by
 unfold dlw;rw[dB,uN h];rfl
theorem kL{f:Nat->Nat}:∀{k:Nat} {l:List Nat},(∀x∈l,f x<k)->((QL k).map λi=>l.filter λp=>f p==i).flatten.Perm l
 |0,l,h=>by
  cases l with
  |nil=>exact .refl _
  |cons a l=>exact absurd (h a bH)<|TF _
 |k+1,l,h=>by
  rw[uL,cF,uM];have e:((QL k).map λi=>l.filter λp=>f p==i)=(QL k).map λi=>(l.filter λp=>decide<|f p<k).filter λp=>f p==i:=by
   refine SM λi hi=>?_;rw[List.filter_filter];refine List.filter_congr λx _=>?_;have:=mL.mp hi;by_cases z:f x=i
   .simp [z,this]
   .simp [z]
  rw[e];refine List.Perm.trans (List.Perm.append (kL λx J=>by simpa using (AQ.mp J).2)<|.refl _) ?_;have e2:[l.filter λp=>f p==k].flatten=l.filter λp=>!decide (f p<k):=by
   rw[show[l.filter λp=>f p==k].flatten=l.filter λp=>f p==k by simp];refine List.filter_congr λx J=>?_;have:=h x J;by_cases z:f x=k
   .simp [z]
   .rw [decide_eq_true<|show f x<k by lia];simp[z]
  rw[iT,Dz,e2];exact List.filter_append_perm (λp=>decide<|f p<k) l
theorem F4(h:0<k):(dlw k c od).flatten.Perm od:=kL λ_ _=>Af h
theorem CB{p:List Nat}(h:p∈dlw k c od):p.Sublist od:=by
 unfold dlw at h;obtain⟨i,_,rfl⟩:=xR.mp h;exact List.filter_sublist
theorem Ag(z:l.Pairwise<|Td pr){p:List Nat}(J:p∈dlw k c l):Nt pr p:=DL<|z.sublist<|CB J
theorem FL{n:Nat}(h:0<k)(z:l.Perm<|QL n)(J:l.Pairwise<|Td pr):Pc n pr<|dlw k c l:=
 ⟨λp U=>Ag J U,((F4 h).trans z).nodup_iff.mpr Eo,λx O=>mL.mp<|((F4 h).trans z).mem_iff.mp O⟩
theorem FN:dlw 2 c l=[(dlw 2 c l).getD 0 [],(dlw 2 c l).getD 1 []]:=rfl
noncomputable def wA(G:Nat->Nat->Nat->Nat->Nat)(n wy:Nat)(cl:Int)(od:List Nat):Pg<|Option<|List Nat:=
 if wy=0 then(jM Az n 0 []).bind λos=>.ret<|some os
 else if wy=1 then(jM D5 n 0 []).bind λos=>.ret<|some os
 else if wy=2 then(CH G (1+cl%5).toNat 0 n).bind λos=>.ret<|some os
 else if wy=3 then Jq G (1+cl/18%4).toNat (1+cl%6).toNat (2+cl/6%3).toNat n
 else if wy=4 then Ee (dlw (1+cl%4).toNat cl od)
 else(CU ((dlw 2 (cl/4*4+1) od).getD 0 []) ((dlw 2 (cl/4*4+1) od).getD 1 []) (1+cl%5).toNat).bind λout=>.ret<|some out.flatten
def OT(n wy:Nat)(cl:Int)(od:List Nat)(o:Option<|List Nat)(pr:List A3):Prop:=∃os,o=some os/\
 if wy=5 then ∃out,os=out.flatten/\Nt pr ((dlw 2 (cl/4*4+1) od).getD 0 [])/\Nt pr ((dlw 2 (cl/4*4+1) od).getD 1 [])/\Ap pr ((dlw 2 (cl/4*4+1) od).getD 0 []) ((dlw 2 (cl/4*4+1) od).getD 1 []) (1+cl%5).toNat out
 else os.Perm (QL n)/\Nt pr os
variable {n:Nat}
theorem LJ{G:Nat->Nat->Nat->Nat->Nat}(hw:wy<6)(hn:n<=30)(O:od.Perm<|QL n)(Z:4<=wy->od.Pairwise (Td pr))(c:pr.length+81000<=800000):Wa n (wA G n wy cl od) pr<|OT n wy cl od:=by
 have er:Q8 0 n=QL n:=List.range_eq_range'.symm;have J:od.length=n:=by rw[O.length_eq,cU]
 unfold wA;by_cases w0:wy=0
 .rw [Z9 w0];refine Wa.bind<|(K1 (f:=0) n 0 [] pr (.refl _) (aL _) (by lia) (by lia) trivial<|by lia).imp λos pr' h=>⟨os,rfl,?_⟩;rw[Z8<|by lia];have:=h.1;rw[wt,Nat.sub_zero,er] at this;exact⟨this,h.2.1⟩
 rw[Z8 w0];by_cases w1:wy=1
 .rw [Z9 w1];refine Wa.bind<|(vq n 0 [] pr (.refl _) (by lia) (by lia) trivial<|by lia).imp λos pr' h=>⟨os,rfl,?_⟩;rw[Z8<|by lia];have:=h.1;rw[wt,er] at this;exact⟨this,h.2⟩
 rw[Z8 w1];by_cases w2:wy=2
 .rw [Z9 w2];refine Wa.bind<|(vZ (G:=G) (ls:=(1+cl%5).toNat) (s:=0) (e:=n) (dU _) (aL _) (by lia)<|by lia).imp λos pr' h=>⟨os,rfl,?_⟩;rw[Z8<|by lia];have:=h.1;rw[Nat.sub_zero,er] at this;exact⟨this,h.2.1⟩
 rw[Z8 w2];by_cases w3:wy=3
 .rw [Z9 w3];have m1:=QU cl (show(6:Int)≠0 by decide);have m2:=QU (cl/6) (show(3:Int)≠0 by decide);have m3:=QW (cl/6) (show(0:Int)<3 by decide);refine(uF (G:=G) (ls:=(1+cl/18%4).toNat) (by lia) (by lia) (by lia) hn c).imp λo pr' h=>?_;obtain⟨os,e,h1,h2⟩:=h;rw[er] at h1;exact⟨os,e,by rw[Z8<|by lia];exact⟨h1,h2⟩⟩
 rw[Z8 w3];have Z:=Z (by lia);by_cases w4:wy=4
 .rw [Z9 w4];have d4:=QU cl (show(4:Int)≠0 by decide);have d5:=QW cl (show(0:Int)<4 by decide);have pm:=F4 (k:=(1+cl%4).toNat) (c:=cl) (od:=od) (by lia);refine(L0 (D:=5) (n:=n) (by rw[JD];lia) (FL (by lia) O Z)<|by rw[pm.length_eq,J];lia).imp λo pr' h=>?_;obtain⟨os,e,h1,h2,_⟩:=h;exact⟨os,e,by rw[Z8<|by lia];exact⟨h1.trans<|pm.trans O,h2⟩⟩
 rw[Z8 w4];have e2:=FN (c:=cl/4*4+1) (l:=od);have p2:=F4 (k:=2) (c:=cl/4*4+1) (od:=od) (by decide);have U:∀p∈dlw 2 (cl/4*4+1) od,Nt pr p:=λp hp=>Ag Z hp;rw[e2] at p2 U;unfold OT;generalize (dlw 2 (cl/4*4+1) od).getD 0 []=A at p2 U e2⊢;generalize (dlw 2 (cl/4*4+1) od).getD 1 []=B at p2 U e2⊢;have p3:(A++B).Perm od:=by
  have:[A,B].flatten=A++B:=by simp
  rw[this] at p2;exact p2
 have n1:Nt pr A:=U A bH;have n2:Nt pr B:=U B<|bK _ bH;have lt:∀x∈A++B,x<n:=λx z=>mL.mp<|O.mem_iff.mp<|p3.mem_iff.mp z;have nd:=Ep.mp<|p3.nodup_iff.mpr<|O.nodup_iff.mpr Eo;have tw:Tw n A B:=⟨λx z=>lt x<|nO _ z,λx z=>lt x<|gR _ z,λx z y hy=>nd.2.2 x z y hy⟩
 have ln:A.length+B.length=n:=by rw[<- aU,p3.length_eq,J]
 have m2:=QU cl (show(5:Int)≠0 by decide);have m3:=QW cl (show(0:Int)<5 by decide);refine Wa.bind<|(CS (ps:=(1+cl%5).toNat) tw (by lia) (by lia) (by lia) n1 n2<|by lia).imp λout pr' h=>⟨_,rfl,?_⟩;rw[Z9<|by lia];exact⟨out,rfl,n1.mono h.1,n2.mono h.1,h.2⟩
theorem Wp.drop{α:Type}{An:Nat->Nat->Nat->Bool}(hA:∀k O p q,An k p q=An O p q){P:α->List A3->Prop}{z:List A3}:∀{x:Pg α} {pr:List A3},Wp n An x (z++pr) P->Wp n An x pr λa pr'=>P a (z++pr')
 |.ret a,pr,h=>h
 |.ask p q k,pr,h=>by
  obtain⟨h1,h2,h3,J⟩:=h;rw[aU] at h3;rw[hA _ pr.length,jU] at J;exact⟨h1,h2,by lia,Wp.drop hA J⟩
theorem Wp.congr{α:Type}{An z:Nat->Nat->Nat->Bool}(hA:∀k p q,q<p->p<n->An k p q=z k p q){P:α->List A3->Prop}:∀{x:Pg α} {pr:List A3},Wp n An x pr P->Wp n z x pr P
 |.ret a,pr,h=>h
 |.ask p q k,pr,h=>by
  obtain⟨h1,h2,h3,J⟩:=h;rw[hA _ p q h1 h2] at J;exact⟨h1,h2,h3,Wp.congr hA J⟩
noncomputable def mV(An:Nat->Nat->Nat->Bool)(n:Nat):List A3:=(QL n).flatMap λp=>(QL p).map λq=>(p,q,An 0 p q)
theorem jN{e:A3}:e∈mV An n↔e.2.1<e.1/\e.1<n/\e.2.2=An 0 e.1 e.2.1:=by
 unfold mV;rw[List.mem_flatMap];constructor
 .rintro ⟨p,J,h⟩;obtain⟨q,z,rfl⟩:=xR.mp h;exact⟨mL.mp z,mL.mp J,rfl⟩
 .rintro ⟨h1,h2,h3⟩;obtain⟨p,q,b⟩:=e;dsimp only at h1 h2 h3;subst h3;exact⟨p,mL.mpr h2,xR.mpr ⟨q,mL.mpr h1,rfl⟩⟩
theorem DV{α J:Type}{f:α->List J}{m:Nat}:∀l:List α,(∀a∈l,(f a).length<=m)->(l.flatMap f).length<=m*l.length
 |[],_=>aL _
 |a::l,h=>by
  rw[List.flatMap_cons,aU,cP,Tx];have:=DV l λx z=>h x<|bK _ z;have:=h a bH;lia
theorem JP(h:n<=30):(mV An n).length<=4000:=by
 have:=DV (f:=λp=>(QL p).map λq=>((p,q,An 0 p q):A3)) (m:=30) (QL n) λp z=>by
  rw[aM,cU];have:=mL.mp z;lia
 rw[cU] at this;unfold mV;lia
theorem BO(h:n<=30):Tu n An<|mV An n:=⟨cW (JP h)<|by decide,λe z=>jN.mp z⟩
theorem BP{y:Nat}(J:x<n)(O:y<n)(h:gV κ false x y):Td (mV (tE κ false) n) x y:=by
 have h:lxf κ x y:=h;unfold lxf at h;have ne:x≠y:=λe=>by subst e;lia
 refine⟨tE κ false 0 (max x y)<|min x y,jN.mpr ⟨show min x y<max x y by lia,show max x y<n by lia,rfl⟩,?_⟩;by_cases z:y<x
 .rw [Z9 z,show max x y=x by lia,show min x y=y by lia];exact decide_eq_true<|by lia
 .rw [Z8 z,show max x y=y by lia,show min x y=x by lia];show(!decide (κ y<κ x))=true;rw[decide_eq_false<|by lia];rfl
noncomputable def BN(n:Nat):List A3:=mV (λ_ _ _=>true) n++mV (λ_ _ _=>false) n
theorem BM{y:Nat}(J:x<n)(O:y<n)(ne:x≠y):Td (BN n) x y:=by
 refine⟨decide<|y<x,?_,?_⟩
 .by_cases z:y<x
  .rw [decide_eq_true z];exact nO _<|jN.mpr ⟨show min x y<max x y by lia,show max x y<n by lia,rfl⟩
  .rw [decide_eq_false z];exact gR _<|jN.mpr ⟨show min x y<max x y by lia,show max x y<n by lia,rfl⟩
 .by_cases z:y<x
  .rw [Z9 z,decide_eq_true z]
  .rw [Z8 z,decide_eq_false z];rfl
theorem wz{G:Nat->Nat->Nat->Nat->Nat}(hA:∀k p q,q<p->p<n->tE κ false k p q=An k p q)(hw:wy<6)(hn:n<=30)(J:od.Perm<|QL n)(O:od.Pairwise<|gV κ false):
  Wp n An (wA G n wy cl od) [] λo pr'=>o=some od/\(wy<4->Nt pr' od):=by
 have lt:∀x∈od,x<n:=λx hx=>mL.mp<|J.mem_iff.mp hx;refine Wp.congr hA ?_;by_cases w4:wy<4
 .refine (Wa.tu (λ_ _ _=>rfl) (LJ (G:=G) (cl:=cl) (pr:=[]) hw hn J (λz=>absurd z<|by lia)<|by decide) ⟨by decide,λe Z=>by cases Z⟩).imp λo pr' h=>?_;obtain⟨⟨os,e,h⟩,t⟩:=h;rw[Z8<|by lia] at h;have e2:os=od:=Iq (h.1.trans J.symm) (D4 t h.2) O;subst e2;exact⟨e,λ_=>h.2⟩
 .have w:=Wa.tu (λ_ _ _=>rfl) (LJ (G:=G) (cl:=cl) (pr:=mV (tE κ false) n) hw hn J (λ_=>O.imp_of_mem fun {a b} ha hb z=>BP (lt a ha) (lt b hb) z) (by have:=JP (An:=tE κ false) hn;lia))<|BO hn;rw[<- kH (mV (tE κ false) n)] at w;refine(Wp.drop (λ_ _ _ _=>rfl) w).imp λo pr' h=>⟨?_,λz=>absurd z w4⟩
  obtain⟨⟨os,e,h⟩,t⟩:=h;rw[e];refine congrArg some ?_;by_cases w5:wy=5
  .rw [Z9 w5] at h;obtain⟨out,rfl,n1,n2,U⟩:=h;have m2:=QU cl (show(5:Int)≠0 by decide);obtain⟨p1,p2⟩:=CW t (by lia) U n1 n2;refine Iq (p1.trans ?_) (D4 t p2) O;have:=F4 (k:=2) (c:=cl/4*4+1) (od:=od) (by decide);rw[FN,show ∀A B:List Nat,[A,B].flatten=A++B from λA B=>by simp] at this;exact this
  .rw [Z8 w5] at h;exact Iq (h.1.trans J.symm) (D4 t h.2) O
theorem yf{G:Nat->Nat->Nat->Nat->Nat}(hA:∀k Z p q,An k p q=An Z p q)(hw:wy<5)(hn:n<=30)(J:od.Perm<|QL n):
  Wp n An (wA G n wy cl od) [] λo _=>∃os,o=some os/\os.Perm (QL n):=by
 have nd:od.Nodup:=J.nodup_iff.mpr Eo;have lt:∀x∈od,x<n:=λx U=>mL.mp<|J.mem_iff.mp U;have w:=Wa.wp An<|LJ (G:=G) (wy:=wy) (cl:=cl) (pr:=BN n) (by lia) hn J (λ_=>nd.imp_of_mem fun {a b} ha O z=>BM (lt a ha) (lt b O) z) (by
  have h1:=JP (An:=λ_ _ _=>true) hn;have h2:=JP (An:=λ_ _ _=>false) hn;unfold BN;rw[aU];lia)
 rw[<- kH (BN n)] at w;refine(Wp.drop hA w).imp λo pr' h=>?_;obtain⟨⟨os,e,h⟩,_⟩:=h;rw[Z8<|by lia] at h;exact⟨os,e,h.1⟩
theorem Fh(h:Nt pr od)(i p q:Nat)(h1:od[i]?=some p)(h2:od[i+1]?=some q):(max p q,min p q,decide<|q<p)∈pr:=by
 obtain⟨b,hm,J⟩:=Nb.at h h1 h2;by_cases z:q<p
 .rw [Z9 z] at J;rw[decide_eq_true z,<- J];exact hm
 .rw [Z8 z] at J;rw[decide_eq_false z];cases b
  .exact hm
  .cases J
theorem kI(hn:n<=30)(hm:m<n):Wa n (Eh (sg n)<|min m<|n-1-m) [] (Goes n (sg n) (n-1-min m (n-1-m)) (min m<|n-1-m) λo pr'=>∃os,o=some os/\os.Perm (QL n)/\Nt pr' os):=
 uk (r:=n-1-min m (n-1-m)) (λpr z=>by obtain⟨_,z,_⟩:=z;cases z) (by rw[yK];lia) ((L0 (D:=200) (n:=n) (pr:=[]) (by rw[Ea];lia) (He n _)<|by rw[Iy,cU];show 0+200*(n+1)<=_;lia).imp λo pr' h=>by
  obtain⟨os,e,h1,h2,_⟩:=h;rw[Iy] at h1;exact⟨os,e,h1,h2⟩)
theorem qW(hA:∀k p q,q<p->p<n->tE κ bb k p q=An k p q)(hn:n<=30)(hm:m<n):
  Wp n An (Eh (sg n)<|min m<|n-1-m) [] λo _=>∃a x rest,o=some (a,x)/\a.length=min m (n-1-m)/\(a++x::rest).Perm (QL n)/\(a++x::rest).Pairwise (gV κ bb):=by
 refine Wp.congr hA<|(Wa.tu (λ_ _ _=>rfl) (kI hn hm) ⟨by decide,λe J=>by cases J⟩).imp λo pr' h=>?_;obtain⟨g,t⟩:=h;obtain⟨a,x,rest,pr2,e,hl,p,z,tu⟩:=g.os (An:=tE κ bb) (λ_ _ _=>rfl) True λ_=>t;exact⟨a,x,rest,e,hl,p,D4 (tu trivial) z⟩
theorem uj(hA:∀k p q,An k p q=An 0 p q)(hn:n<=30)(hm:m<n):
  Wp n An (Eh (sg n)<|min m<|n-1-m) [] λo _=>∃a x rest,o=some (a,x)/\(a++x::rest).Perm (QL n):=by
 refine(Wa.wp An<|kI hn hm).imp λo pr' h=>?_;obtain⟨a,x,rest,pr2,e,hl,p,z,tu⟩:=h.1.os (An:=An) hA False RC;exact⟨a,x,rest,e,p⟩
theorem za{a rest A B:List Nat}(z:bb=decide (n-1-m<m))(hm:m<n)(hl:a.length=min m (n-1-m))(p:(a++x::rest).Perm<|QL n)(pw:(a++x::rest).Pairwise<|gV κ bb)(Z:od.Perm<|QL n)(hs:od.Pairwise<|gV κ false)(U:A.Perm<|cond bb rest a)(pB:B.Perm<|cond bb a rest):A.Perm (od.take m)/\od[m]?=some x/\B.Perm (od.drop<|m+1):=by
 have ln:=p.length_eq;rw[aU,cP,cU] at ln;by_cases hb:n-1-m<m
 .rw [decide_eq_true hb] at z;subst z;have O:rest.reverse++x::a.reverse=od:=by
   have e5:(a++x::rest).reverse=rest.reverse++x::a.reverse:=by rw[List.reverse_append,GG,jU];rfl
   rw[<- e5];exact Iq ((S0 _).trans<|p.trans Z.symm) (List.pairwise_reverse.mpr pw) hs
  have J:rest.reverse.length=m:=by rw[GF];lia
  refine⟨?_,?_,?_⟩
  .rw [<- O,<- J,List.take_left];exact U.trans (S0 _).symm
  .rw [<- O,gI<|by lia,J,gN];rfl
  .rw [<- O,<- J,List.drop_append,Sz<|by lia,Gy];exact pB.trans (S0 _).symm
 .rw [decide_eq_false hb] at z;subst z;have O:a++x::rest=od:=Iq (p.trans Z.symm) pw hs;have J:a.length=m:=by lia
  refine⟨?_,?_,?_⟩
  .rw [<- O,<- J,List.take_left];exact U
  .rw [<- O,gI<|by lia,J,gN];rfl
  .rw [<- O,<- J,List.drop_append,Sz<|by lia,Gy];exact pB
end Pw
namespace Law
open PySem L2 Pw
variable {hls oa pls:List QK}{u v y:V}{tm:Nat->Nat->Bool}{C CA CC CJ CK CN CP CT CV a ak d dx f gr jn l ma ml od p2 pc pl r rl ru sd ta tk tl wd x:QK}{B L e i j k ls m n:Nat}{H H' X:Hp}{pr:List A3}{rows:List (List Bool)}{fd:RX}{dv:List QM}{kvs:List (List Key×V)}{dn gs:List Nat}{rs ts vs xs:List V}{K:W.Frag}{Q:VK}{α:Type}{bb:Bool}{E:XK}{P:TS}{o:HO}{pcs:List (List Nat)}{w:Po.W}
local macro_rules|`(tactic|walk_at "r")=>do let f:=fun(s:String)=>((s.splitOn).map fun x=>Lean.mkIdent x.toName).toArray;let b:=f "qR vJ sH vR yA qS nU nS yF G7 yz yy yx yw yv yu yt yr yq u6 uZ K2 yU yS vp K3 yV Ku Gf Iw DW zY zg vE AA List.set_cons_zero List.set_cons_succ Et List.nil_append kH true_and decide_eq_true_eq Bool.not_eq_true' decide_eq_false_iff_not iT Dz cP yd Nat.reduceAdd Nat.reduceSub wt gN List.replicate_zero List.replicate_succ if_true if_false Dy Bool.true_eq_false Bool.not_true Bool.not_false";let a:=b++f "J9 J8 J6 J7 Kd Ke Kh yE Bx J4 DE DG EL G4 uf um CD EM ER yD wI By HI Bu Bv Jp tB NZ Hc G8 EK NW tC u9 ue OD wJ G6 G5 DD Kj yB DF J3 DC OA Jn HZ mF iB J5 Bw BF yC wG wF wH ug Bs OC Hb G9 G3 Jo NY DB u7 L2.start";`(tactic|((try dsimp only[$[$a:ident],*]);(try simp only[$[$b:ident],*])))
local macro_rules | `(tactic| walk_at "l")=>`(tactic| first | rfl | ((repeat (first | rw[lkc,Z9 rfl] | rw[lkc,Z8 (by decide +kernel)]));first | done | rfl))
noncomputable def top(i:Nat):Q9:=PySem.Challenge.pw_sorthall_k94_whole_any_rule.main.body.getD i<|.Pass ⟨0,0,0,0⟩
noncomputable abbrev L9:Q9:=top 7
noncomputable abbrev MG:Q9:=top 9
noncomputable abbrev M3:Q9:=top 10
noncomputable abbrev Mn:Q9:=top 11
noncomputable abbrev ME:Q9:=top 12
noncomputable abbrev NC:Q9:=top 13
noncomputable abbrev LO:Q9:=top 14
noncomputable abbrev Lu:Q9:=top 15
noncomputable abbrev Mw:Q9:=eQ (top 17) 0
noncomputable abbrev Mx:Q9:=eQ (top 17) 1
noncomputable abbrev NB:Q9:=eQ (top 17) 2
noncomputable abbrev MV:Q9:=eQ (top 17) 3
noncomputable abbrev Kz:Q9:=top 19
noncomputable abbrev Mf:Q9:=eQ (top 24) 0
noncomputable abbrev MW:Q9:=eQ (top 24) 1
noncomputable abbrev My:Q9:=eQ (top 24) 2
noncomputable abbrev MP:Q9:=eQ (top 24) 3
noncomputable abbrev M5:Q9:=eQ (top 24) 4
noncomputable abbrev L1:Q9:=eQ (top 24) 5
noncomputable abbrev MO:Q9:=eQ (top 24) 6
noncomputable abbrev Lq:Q9:=top 25
noncomputable abbrev MD:Q9:=top 27
noncomputable abbrev MT:Q9:=top 28
noncomputable abbrev ND:Q9:=top 30
noncomputable abbrev Mj:Q9:=eQ (top 31) 0
noncomputable abbrev MZ:Q9:=eQ (top 31) 1
noncomputable abbrev MR:Q9:=eQ (top 31) 2
noncomputable abbrev L4:Q9:=eQ (top 31) 3
noncomputable abbrev Mi:Q9:=eQ (top 31) 4
noncomputable abbrev L5:Q9:=eQ (top 31) 5
noncomputable abbrev MA:Q9:=eQ (top 31) 6
noncomputable abbrev Mm:Q9:=eQ (top 31) 7
noncomputable abbrev Ml:Q9:=eQ (top 31) 8
noncomputable abbrev NF:Q9:=eQ (top 32) 0
noncomputable abbrev NN:Q9:=eQ (top 32) 1
noncomputable abbrev Ls:Q9:=top 33
noncomputable abbrev MF:Q9:=top 35
noncomputable abbrev MU:Q9:=top 37
noncomputable abbrev LQ:Q9:=top 38
noncomputable abbrev LV:Q9:=top 40
noncomputable abbrev NP:Q9:=top 41
noncomputable abbrev MB:Q9:=top 42
noncomputable abbrev MC:Q9:=top 43
noncomputable abbrev Lp:Q9:=top 44
noncomputable abbrev K5:Q9:=top 46
noncomputable abbrev Mg:Q9:=eQ (top 48) 0
noncomputable abbrev M7:Q9:=eQ (top 48) 1
noncomputable abbrev NH:Q9:=eQ (top 48) 2
noncomputable abbrev MY:Q9:=eQ (top 48) 3
noncomputable abbrev NG:Q9:=eQ (top 48) 4
noncomputable abbrev L3:Q9:=eQ (top 48) 5
noncomputable abbrev Mh:Q9:=eQ (top 48) 6
noncomputable abbrev Mz:Q9:=eQ (top 48) 8
noncomputable abbrev LM:Q9:=top 49
noncomputable abbrev Mq:Q9:=top 51
noncomputable abbrev Mp:Q9:=top 52
noncomputable abbrev Mo:Q9:=top 53
noncomputable abbrev L6:Q9:=top 58
noncomputable abbrev MS:Q9:=top 59
noncomputable abbrev MQ:Q9:=eQ (top 61) 0
noncomputable abbrev M6:Q9:=eQ (top 61) 1
noncomputable abbrev MX:Q9:=eQ (top 62) 0
noncomputable abbrev NJ:Q9:=eQ (top 62) 1
noncomputable abbrev M0:Q9:=eQ (top 63) 0
noncomputable abbrev NK:Q9:=eQ (top 63) 1
noncomputable abbrev M8:Q9:=eQ (top 64) 0
noncomputable abbrev NO:Q9:=eQ (top 64) 1
noncomputable abbrev M1:Q9:=eQ (top 65) 0
noncomputable abbrev NL:Q9:=eQ (top 65) 1
noncomputable abbrev M4:Q9:=eQ (top 66) 0
noncomputable abbrev NM:Q9:=eQ (top 66) 1
noncomputable abbrev LN:Q9:=top 68
noncomputable abbrev LF:Q9:=top 69
noncomputable abbrev LD:Q9:=top 70
noncomputable abbrev LS:Q9:=top 71
noncomputable abbrev Lv:Q9:=top 72
noncomputable abbrev Ma:Q9:=top 73
noncomputable abbrev L8:Q9:=top 74
noncomputable abbrev LB:Q9:=top 75
noncomputable abbrev LA:Q9:=top 76
noncomputable abbrev Ky:Q9:=top 77
noncomputable abbrev KC:Q9:=top 78
noncomputable abbrev Ln:Q9:=top 79
noncomputable abbrev LU:Q9:=top 80
noncomputable abbrev KD:Q9:=top 81
noncomputable abbrev Lo:Q9:=top 82
noncomputable abbrev Lz:Q9:=top 83
noncomputable abbrev Kx:Q9:=top 84
noncomputable abbrev K4:Q9:=top 85
noncomputable abbrev KG:Q9:=top 86
noncomputable abbrev LR:Q9:=top 87
noncomputable abbrev LC:Q9:=top 88
noncomputable abbrev Lr:Q9:=top 89
noncomputable abbrev L7:Q9:=top 90
noncomputable abbrev KA:Q9:=top 91
noncomputable abbrev C2:Q9:=top 92
theorem Pf:aA ["many"] ["many"]<|aZ L9:=by exact⟨rfl,rfl,rfl,by decide +kernel,rfl,by decide +kernel,by decide +kernel⟩
theorem Pd:aA ["row","rule"] ["row","rule"]<|aZ MG:=by exact⟨rfl,rfl,rfl,by decide +kernel,rfl,by decide +kernel,by decide +kernel⟩
theorem V9:aA ["pairs","places"] ["pairs"]<|aZ M3:=by exact⟨rfl,rfl,rfl,by decide +kernel,rfl,by decide +kernel,by decide +kernel⟩
theorem V8:aA ["pairs","ranks","p","told","q","said"] ["pairs","ranks"]<|aZ Mn:=by exact⟨rfl,rfl,rfl,by decide +kernel,rfl,by decide +kernel,by decide +kernel⟩
theorem Pe:aA ["pairs","p","q"] ["pairs","p","q"]<|aZ ME:=by exact⟨rfl,rfl,rfl,by decide +kernel,rfl,by decide +kernel,by decide +kernel⟩
theorem V5:aA ["pairs","p","q","thirds"] ["pairs","p","q"]<|aZ NC:=by exact⟨rfl,rfl,rfl,by decide +kernel,rfl,by decide +kernel,by decide +kernel⟩
theorem Vx:aA ["pairs","p","told","q","said","found"] ["pairs"]<|aZ LO:=by exact⟨rfl,rfl,rfl,by decide +kernel,rfl,by decide +kernel,by decide +kernel⟩
theorem Vz:aA ["row","rule","pairs","ranks"] ["row","rule"]<|aZ Lu:=by exact⟨rfl,rfl,rfl,by decide +kernel,rfl,by decide +kernel,by decide +kernel⟩
theorem mT:aA ["self","row","rule","most"] ["self","row","rule","most"]<|aZ Mw:=by exact⟨rfl,rfl,rfl,by decide +kernel,rfl,by decide +kernel,by decide +kernel⟩
theorem mS:aA ["self"] ["self"]<|aZ Mx:=by exact⟨rfl,rfl,rfl,by decide +kernel,rfl,by decide +kernel,by decide +kernel⟩
theorem dR:aA ["self","p","q","later","earlier","said"] ["self","p","q"]<|aZ NB:=by exact⟨rfl,rfl,rfl,by decide +kernel,rfl,by decide +kernel,by decide +kernel⟩
theorem kB:aA ["self"] ["self"]<|aZ MV:=by exact⟨rfl,rfl,rfl,by decide +kernel,rfl,by decide +kernel,by decide +kernel⟩
theorem OQ:aA ["asker","order","first","place","low","high","wide","middle"] ["asker","order","first","place"]<|aZ Kz:=by exact⟨rfl,rfl,rfl,by decide +kernel,rfl,by decide +kernel,by decide +kernel⟩
theorem pV:aA ["self","asker","left","right"] ["self","asker","left","right"]<|aZ Mf:=by exact⟨rfl,rfl,rfl,by decide +kernel,rfl,by decide +kernel,by decide +kernel⟩
theorem jZ:aA ["self","side"] ["self","side"]<|aZ MW:=by exact⟨rfl,rfl,rfl,by decide +kernel,rfl,by decide +kernel,by decide +kernel⟩
theorem mR:aA ["self","side"] ["self","side"]<|aZ My:=by exact⟨rfl,rfl,rfl,by decide +kernel,rfl,by decide +kernel,by decide +kernel⟩
theorem gF:aA ["self","side","more","start"] ["self","side","more"]<|aZ MP:=by exact⟨rfl,rfl,rfl,by decide +kernel,rfl,by decide +kernel,by decide +kernel⟩
theorem jJ:aA ["self","side"] ["self","side"]<|aZ M5:=by exact⟨rfl,rfl,rfl,by decide +kernel,rfl,by decide +kernel,by decide +kernel⟩
theorem kK:aA ["self","side"] ["self"]<|aZ L1:=by exact⟨rfl,rfl,rfl,by decide +kernel,rfl,by decide +kernel,by decide +kernel⟩
theorem gG:aA ["self","side","other"] ["self","side"]<|aZ MO:=by exact⟨rfl,rfl,rfl,by decide +kernel,rfl,by decide +kernel,by decide +kernel⟩
theorem OS:aA ["asker","left","right","join","wins","winner","side"] ["asker","left","right"]<|aZ Lq:=by exact⟨rfl,rfl,rfl,by decide +kernel,rfl,by decide +kernel,by decide +kernel⟩
theorem Vu:aA ["asker","left","right","many","low","high","middle"] ["asker","left","right","many"]<|aZ MD:=by exact⟨rfl,rfl,rfl,by decide +kernel,rfl,by decide +kernel,by decide +kernel⟩
theorem Vd:aA ["asker","left","right","parts","both","ends","cuts","others"] ["asker","left","right","parts"]<|aZ MT:=by exact⟨rfl,rfl,rfl,by decide +kernel,rfl,by decide +kernel,by decide +kernel⟩
theorem V7:aA ["first","beyond","middle"] ["first","beyond"]<|aZ ND:=by exact⟨rfl,rfl,rfl,by decide +kernel,rfl,by decide +kernel,by decide +kernel⟩
theorem jH:aA ["self","asker","pieces","piece"] ["self","asker","pieces"]<|aZ Mj:=by exact⟨rfl,rfl,rfl,by decide +kernel,rfl,by decide +kernel,by decide +kernel⟩
theorem fD:aA ["self","piece","taken","places"] ["self","piece","taken"]<|aZ MZ:=by exact⟨rfl,rfl,rfl,by decide +kernel,rfl,by decide +kernel,by decide +kernel⟩
theorem kT:aA ["self","p","q"] ["self","p","q"]<|aZ MR:=by exact⟨rfl,rfl,rfl,by decide +kernel,rfl,by decide +kernel,by decide +kernel⟩
theorem rA:aA ["self","one","other"] ["self","one","other"]<|aZ L4:=by exact⟨rfl,rfl,rfl,by decide +kernel,rfl,by decide +kernel,by decide +kernel⟩
theorem fW:aA ["self","meetings","went_on","told","first","middle","beyond"] ["self","meetings","went_on"]<|aZ Mi:=by exact⟨rfl,rfl,rfl,by decide +kernel,rfl,by decide +kernel,by decide +kernel⟩
theorem qZ:aA ["self"] ["self"]<|aZ L5:=by exact⟨rfl,rfl,rfl,by decide +kernel,rfl,by decide +kernel,by decide +kernel⟩
theorem iF:aA ["self","top"] ["self"]<|aZ MA:=by exact⟨rfl,rfl,rfl,by decide +kernel,rfl,by decide +kernel,by decide +kernel⟩
theorem dD:aA ["self","top","piece","taken","way","went_on"] ["self"]<|aZ Mm:=by exact⟨rfl,rfl,rfl,by decide +kernel,rfl,by decide +kernel,by decide +kernel⟩
theorem pS:aA ["self"] ["self"]<|aZ Ml:=by exact⟨rfl,rfl,rfl,by decide +kernel,rfl,by decide +kernel,by decide +kernel⟩
theorem cR:aA ["self","piece","taken","places"] ["self","piece","taken"]<|aZ NF:=by exact⟨rfl,rfl,rfl,by decide +kernel,rfl,by decide +kernel,by decide +kernel⟩
theorem iD:aA ["self","p","q"] ["self","p","q"]<|aZ NN:=by exact⟨rfl,rfl,rfl,by decide +kernel,rfl,by decide +kernel,by decide +kernel⟩
theorem ON:aA ["asker","pieces","pour"] ["asker","pieces"]<|aZ Ls:=by exact⟨rfl,rfl,rfl,by decide +kernel,rfl,by decide +kernel,by decide +kernel⟩
theorem Va:aA ["asker","many","things","singly","from_behind","pour","taken","place","rest"] ["asker","many"]<|aZ MF:=by exact⟨rfl,rfl,rfl,by decide +kernel,rfl,by decide +kernel,by decide +kernel⟩
theorem OM:aA ["asker","first","end","stop","beyond","falling"] ["asker","first","end"]<|aZ MU:=by exact⟨rfl,rfl,rfl,by decide +kernel,rfl,by decide +kernel,by decide +kernel⟩
theorem Vs:aA ["first","beyond","falling","places"] ["first","beyond","falling"]<|aZ LQ:=by exact⟨rfl,rfl,rfl,by decide +kernel,rfl,by decide +kernel,by decide +kernel⟩
theorem V1:aA ["asker","order","place","low","high","middle"] ["asker","order","place"]<|aZ LV:=by exact⟨rfl,rfl,rfl,by decide +kernel,rfl,by decide +kernel,by decide +kernel⟩
theorem Vl:aA ["asker","order","place","spot"] ["asker","order","place"]<|aZ NP:=by exact⟨rfl,rfl,rfl,by decide +kernel,rfl,by decide +kernel,by decide +kernel⟩
theorem Vy:aA ["asker","order","place"] ["asker"]<|aZ MB:=by exact⟨rfl,rfl,rfl,by decide +kernel,rfl,by decide +kernel,by decide +kernel⟩
theorem Vt:aA ["asker","order","place"] ["asker"]<|aZ MC:=by exact⟨rfl,rfl,rfl,by decide +kernel,rfl,by decide +kernel,by decide +kernel⟩
theorem V2:aA ["asker","first","least","end","stop","part","found","order","place"] ["asker","first","least","end"]<|aZ Lp:=by exact⟨rfl,rfl,rfl,by decide +kernel,rfl,by decide +kernel,by decide +kernel⟩
theorem V4:aA ["many","first","middle","beyond","lower","upper","found"] ["many","first","middle","beyond"]<|aZ K5:=by exact⟨rfl,rfl,rfl,by decide +kernel,rfl,by decide +kernel,by decide +kernel⟩
theorem pU:aA ["self","asker","least","part"] ["self","asker","least","part"]<|aZ Mg:=by exact⟨rfl,rfl,rfl,by decide +kernel,rfl,by decide +kernel,by decide +kernel⟩
theorem jI:aA ["self","number"] ["self","number"]<|aZ M7:=by exact⟨rfl,rfl,rfl,by decide +kernel,rfl,by decide +kernel,by decide +kernel⟩
theorem gA:aA ["self"] ["self"]<|aZ NH:=by exact⟨rfl,rfl,rfl,by decide +kernel,rfl,by decide +kernel,by decide +kernel⟩
theorem fE:aA ["self","lower","order","deed"] ["self","lower"]<|aZ MY:=by exact⟨rfl,rfl,rfl,by decide +kernel,rfl,by decide +kernel,by decide +kernel⟩
theorem gT:aA ["self","middle","beyond"] ["self","middle","beyond"]<|aZ NG:=by exact⟨rfl,rfl,rfl,by decide +kernel,rfl,by decide +kernel,by decide +kernel⟩
theorem kJ:aA ["self","first","found","beyond"] ["self"]<|aZ L3:=by exact⟨rfl,rfl,rfl,by decide +kernel,rfl,by decide +kernel,by decide +kernel⟩
theorem pT:aA ["self"] ["self"]<|aZ Mh:=by exact⟨rfl,rfl,rfl,by decide +kernel,rfl,by decide +kernel,by decide +kernel⟩
theorem iG:aA ["self","told","order"] ["self"]<|aZ Mz:=by exact⟨rfl,rfl,rfl,by decide +kernel,rfl,by decide +kernel,by decide +kernel⟩
theorem V3:aA ["asker","least","part","pile"] ["asker","least","part"]<|aZ LM:=by exact⟨rfl,rfl,rfl,by decide +kernel,rfl,by decide +kernel,by decide +kernel⟩
theorem Var:aA ["asker","pieces","mouths"] ["asker","pieces","mouths"]<|aZ Mq:=by exact⟨rfl,rfl,rfl,by decide +kernel,rfl,by decide +kernel,by decide +kernel⟩
theorem Vh:aA ["asker","pieces","mouths","coming","numbers"] ["asker","pieces","mouths"]<|aZ Mp:=by exact⟨rfl,rfl,rfl,by decide +kernel,rfl,by decide +kernel,by decide +kernel⟩
theorem Vj:aA ["asker","wide","mouths","least","many","pieces"] ["asker","wide","mouths","least"]<|aZ Mo:=by exact⟨rfl,rfl,rfl,by decide +kernel,rfl,by decide +kernel,by decide +kernel⟩
theorem Val:aA ["at"] ["at"]<|aZ L6:=by exact⟨rfl,rfl,rfl,by decide +kernel,rfl,by decide +kernel,by decide +kernel⟩
theorem Pk:aA ["at","way"] ["at","way"]<|aZ MS:=by exact⟨rfl,rfl,rfl,by decide +kernel,rfl,by decide +kernel,by decide +kernel⟩
theorem gE:aA ["self","columns","at","way"] ["self","columns"]<|aZ MQ:=by exact⟨rfl,rfl,rfl,by decide +kernel,rfl,by decide +kernel,by decide +kernel⟩
theorem eN:aA ["self","x","y","at","way"] ["self","x","y"]<|aZ M6:=by exact⟨rfl,rfl,rfl,by decide +kernel,rfl,by decide +kernel,by decide +kernel⟩
theorem jY:aA ["self","at","gap"] ["self","at","gap"]<|aZ MX:=by exact⟨rfl,rfl,rfl,by decide +kernel,rfl,by decide +kernel,by decide +kernel⟩
theorem iN:aA ["self","x","y"] ["self","x","y"]<|aZ NJ:=by exact⟨rfl,rfl,rfl,by decide +kernel,rfl,by decide +kernel,by decide +kernel⟩
theorem jX:aA ["self","at","size"] ["self","at","size"]<|aZ M0:=by exact⟨rfl,rfl,rfl,by decide +kernel,rfl,by decide +kernel,by decide +kernel⟩
theorem dQ:aA ["self","x","y","up_to"] ["self","x","y"]<|aZ NK:=by exact⟨rfl,rfl,rfl,by decide +kernel,rfl,by decide +kernel,by decide +kernel⟩
theorem eM:aA ["self","at","table","truths"] ["self","at","table"]<|aZ M8:=by exact⟨rfl,rfl,rfl,by decide +kernel,rfl,by decide +kernel,by decide +kernel⟩
theorem iC:aA ["self","x","y"] ["self","x","y"]<|aZ NO:=by exact⟨rfl,rfl,rfl,by decide +kernel,rfl,by decide +kernel,by decide +kernel⟩
theorem jW:aA ["self","rules"] ["self","rules"]<|aZ M1:=by exact⟨rfl,rfl,rfl,by decide +kernel,rfl,by decide +kernel,by decide +kernel⟩
theorem cC:aA ["self","x","y","for_x","for_y"] ["self","x","y"]<|aZ NL:=by exact⟨rfl,rfl,rfl,by decide +kernel,rfl,by decide +kernel,by decide +kernel⟩
theorem jK:aA ["self","rules"] ["self","rules"]<|aZ M4:=by exact⟨rfl,rfl,rfl,by decide +kernel,rfl,by decide +kernel,by decide +kernel⟩
theorem dA:aA ["self","x","y","rule"] ["self","x","y"]<|aZ NM:=by exact⟨rfl,rfl,rfl,by decide +kernel,rfl,by decide +kernel,by decide +kernel⟩
theorem Pb:aA ["_law_script","_law_k"] ["_law_script","_law_k"]<|aZ LN:=by exact⟨rfl,rfl,rfl,by decide +kernel,rfl,by decide +kernel,by decide +kernel⟩
theorem Ph:aA ["_law_found"] ["_law_found"]<|aZ LF:=by exact⟨rfl,rfl,rfl,by decide +kernel,rfl,by decide +kernel,by decide +kernel⟩
theorem Vn:aA ["_law_many","_law_cell","_law_turns","_law_ranks","_law_number","_law_k","_law_table_here","_law_p","_law_q"] ["_law_many","_law_cell","_law_turns"]<|aZ LD:=by exact⟨rfl,rfl,rfl,by decide +kernel,rfl,by decide +kernel,by decide +kernel⟩
theorem Vv:aA ["_law_cell","_law_k","_law_number"] ["_law_cell","_law_k"]<|aZ LS:=by exact⟨rfl,rfl,rfl,by decide +kernel,rfl,by decide +kernel,by decide +kernel⟩
theorem Pn:aA ["_law_digit"] ["_law_digit"]<|aZ Lv:=by exact⟨rfl,rfl,rfl,by decide +kernel,rfl,by decide +kernel,by decide +kernel⟩
theorem Vg:aA ["_law_many","_law_cell","_law_table_here","_law_first","_law_p"] ["_law_many","_law_cell"]<|aZ Ma:=by exact⟨rfl,rfl,rfl,by decide +kernel,rfl,by decide +kernel,by decide +kernel⟩
theorem Ve:aA ["_law_cell","_law_many","_law_parts_here","_law_first","_law_k","_law_part","_law_votes","_law_j","_law_word","_law_wide"] ["_law_cell","_law_many"]<|aZ L8:=by exact⟨rfl,rfl,rfl,by decide +kernel,rfl,by decide +kernel,by decide +kernel⟩
theorem OR:aA ["_law_cell","_law_word"] ["_law_cell"]<|aZ LB:=by exact⟨rfl,rfl,rfl,by decide +kernel,rfl,by decide +kernel,by decide +kernel⟩
theorem V6:aA ["_law_cell","_law_many","_law_parts_here","_law_k","_law_here"] ["_law_cell","_law_many"]<|aZ LA:=by exact⟨rfl,rfl,rfl,by decide +kernel,rfl,by decide +kernel,by decide +kernel⟩
theorem OO:aA ["_law_plain_here","_law_table_here","_law_x","_law_y","_law_word","_law_key","_law_number","_law_far"] ["_law_plain_here","_law_table_here","_law_x","_law_y"]<|aZ Ky:=by exact⟨rfl,rfl,rfl,by decide +kernel,rfl,by decide +kernel,by decide +kernel⟩
theorem Vi:aA ["_law_part","_law_table_here","_law_x","_law_y","_law_votes","_law_plain_here"] ["_law_part","_law_table_here","_law_x","_law_y"]<|aZ KC:=by exact⟨rfl,rfl,rfl,by decide +kernel,rfl,by decide +kernel,by decide +kernel⟩
theorem Vo:aA ["_law_parts_here","_law_table_here","_law_x","_law_y","_law_part","_law_first"] ["_law_parts_here","_law_table_here","_law_x","_law_y"]<|aZ Ln:=by exact⟨rfl,rfl,rfl,by decide +kernel,rfl,by decide +kernel,by decide +kernel⟩
theorem Vq:aA ["_law_plain_here","_law_table_here","_law_word","_law_key","_law_number"] ["_law_plain_here","_law_table_here"]<|aZ LU:=by exact⟨rfl,rfl,rfl,by decide +kernel,rfl,by decide +kernel,by decide +kernel⟩
theorem Vr:aA ["_law_parts_here","_law_table_here","_law_rules","_law_part"] ["_law_parts_here","_law_table_here"]<|aZ KD:=by exact⟨rfl,rfl,rfl,by decide +kernel,rfl,by decide +kernel,by decide +kernel⟩
theorem OK:aA ["_law_goes_here","_law_many","_law_counts_here","_law_q"] ["_law_goes_here"]<|aZ Lo:=by exact⟨rfl,rfl,rfl,by decide +kernel,rfl,by decide +kernel,by decide +kernel⟩
theorem Vp:aA ["_law_goes_here","_law_counts_here","_law_many","_law_p","_law_q"] ["_law_goes_here","_law_counts_here"]<|aZ Lz:=by exact⟨rfl,rfl,rfl,by decide +kernel,rfl,by decide +kernel,by decide +kernel⟩
theorem V0:aA ["_law_goes_here","_law_found","_law_place","_law_p","_law_q","_law_r"] ["_law_goes_here","_law_found"]<|aZ Kx:=by exact⟨rfl,rfl,rfl,by decide +kernel,rfl,by decide +kernel,by decide +kernel⟩
theorem Vk:aA ["_law_order","_law_cell","_law_pieces","_law_place"] ["_law_order","_law_cell"]<|aZ K4:=by exact⟨rfl,rfl,rfl,by decide +kernel,rfl,by decide +kernel,by decide +kernel⟩
theorem Vm:aA ["_law_way","_law_asker","_law_order","_law_cell","_law_pieces","_law_told_here","_law_part"] ["_law_way","_law_asker","_law_order","_law_cell"]<|aZ KG:=by exact⟨rfl,rfl,rfl,by decide +kernel,rfl,by decide +kernel,by decide +kernel⟩
theorem OL:aA ["_law_found","_law_due","_law_k"] ["_law_found","_law_due"]<|aZ LR:=by exact⟨rfl,rfl,rfl,by decide +kernel,rfl,by decide +kernel,by decide +kernel⟩
theorem OP:aA ["_law_paper_here","_law_answers","_law_k","_law_p","_law_q"] ["_law_paper_here","_law_answers"]<|aZ LC:=by exact⟨rfl,rfl,rfl,by decide +kernel,rfl,by decide +kernel,by decide +kernel⟩
theorem Pj:aA ["_law_found","_law_many"] ["_law_found","_law_many"]<|aZ Lr:=by exact⟨rfl,rfl,rfl,by decide +kernel,rfl,by decide +kernel,by decide +kernel⟩
theorem Vf:aA ["_law_row","_law_rule_here","_law_due","_law_cell","_law_way","_law_asker","_law_many","_law_found"] ["_law_row","_law_rule_here","_law_due","_law_cell"]<|aZ L7:=by exact⟨rfl,rfl,rfl,by decide +kernel,rfl,by decide +kernel,by decide +kernel⟩
theorem Vc:aA ["_law_row","_law_rule_here","_law_cell","_law_stay","_law_way","_law_found","_law_parts_here"] ["_law_row","_law_rule_here","_law_cell"]<|aZ KA:=by exact⟨rfl,rfl,rfl,by decide +kernel,rfl,by decide +kernel,by decide +kernel⟩
theorem Vb:aA ["_law_script","_law_size","_law_width","_law_row","_law_table_here","_law_parts_here","_law_rule_here","_law_goes_here","_law_x","_law_counts_here","_law_due","_law_found"] ["_law_script"]<|aZ C2:=by exact⟨rfl,rfl,rfl,by decide +kernel,rfl,by decide +kernel,by decide +kernel⟩
structure Bt(K:W.Frag)(mg:Q3->Option QM)(Ce Ci Cj Ck Ch Cd Cc Ca Cb Cf Cg:QK):Prop where
 Wx:mg "len"=none
 VL:mg "range"=none
 We:mg "tuple"=none
 VJ:mg "list"=none
 VB:mg "isinstance"=none
 Xu:mg "bool"=none
 Wq:mg "int"=none
 XJ:mg "max"=none
 Xc:mg "min"=none
 Xb:mg "sum"=none
 VV:mg "sorted"=none
 VM:mg "enumerate"=none
 XI:mg "zip"=none
 WL:mg "dict"=none
 W4:mg "ValueError"=none
 Xr:∃t,mg "LEFT"=some (.int 0 t)
 WX:∃t,mg "RIGHT"=some (.int 1 t)
 Wf:∃t,mg "WINS_TO_LEAP"=some (.int 4 t)
 Wh:∃t,mg "GREATEST_AT"=some (.int 7 t)
 XH:∃t,mg "UP"=some (.str "up" t)
 Xs:∃t,mg "DOWN"=some (.str "down" t)
 XN:mg "Asker"=some (.ref Ce)
 De:eO K Ce
 Nn:aE K Ce "row"
 N1:aE K Ce "rule"
 N3:aE K Ce "most"
 N8:aE K Ce "asked"
 Ny:aE K Ce "told"
 XW:mg "Join"=some (.ref Ci)
 Dc:eO K Ci
 Nr:aE K Ci "asker"
 Nj:aE K Ci "sides"
 Nh:aE K Ci "taken"
 Np:aE K Ci "places"
 XT:mg "Pour"=some (.ref Cj)
 Dk:eO K Cj
 Ys:aE K Cj "asker"
 N9:aE K Cj "pieces"
 YA:aE K Cj "taken"
 YB:aE K Cj "meetings"
 Yy:aE K Cj "went_on"
 Xk:mg "LastPour"=some (.ref Ck)
 Dj:eO K Ck
 Yv:aE K Ck "asker"
 Yt:aE K Ck "pieces"
 Yw:aE K Ck "taken"
 Yz:aE K Ck "meetings"
 Yx:aE K Ck "went_on"
 XU:mg "Pile"=some (.ref Ch)
 Da:eO K Ch
 Nq:aE K Ch "asker"
 N4:aE K Ch "least"
 Ng:aE K Ch "start"
 Ni:aE K Ch "end"
 Nl:aE K Ch "reached"
 Nc:aE K Ch "firsts"
 Na:aE K Ch "orders"
 Nk:aE K Ch "grades"
 Xv:mg "KeyRule"=some (.ref Cd)
 Dm:eO K Cd
 N6:aE K Cd "columns"
 Xj:mg "NearRule"=some (.ref Cc)
 Dg:eO K Cc
 Nx:aE K Cc "at"
 N5:aE K Cc "gap"
 Xi:mg "RingRule"=some (.ref Ca)
 Df:eO K Ca
 N0:aE K Ca "at"
 Nu:aE K Ca "size"
 W7:mg "TableRule"=some (.ref Cb)
 Dh:eO K Cb
 Nw:aE K Cb "at"
 N2:aE K Cb "table"
 Xh:mg "VoteRule"=some (.ref Cf)
 Di:eO K Cf
 Nv:aE K Cf "rules"
 W8:mg "ChainRule"=some (.ref Cg)
 Dl:eO K Cg
 N7:aE K Cg "rules"
 Wl:Rq K (.type "int") (.type "bool")=some false
 VI:Rq K (.type "list") (.type "list")=some true
 VG:Rq K (.type "tuple") (.type "tuple")=some true
structure Dr(K:W.Frag)(Cm:QK):Prop where
 Db:eO K Cm
 Yu:aE K Cm "asker"
 Nm:aE K Cm "pieces"
 No:aE K Cm "taken"
 Nz:aE K Cm "meetings"
 Nf:aE K Cm "went_on"
inductive qV(K:W.Frag):List V->Hp->VK->XK->Prop
 |mk (a:QK) (ns:List Int):N=[.ref a]->aD K Y a (ns.map V.int)->ns.length<=63->(∀H',M (.bl true) H')->qV K N Y M D
noncomputable def cellOf(ns:List Int)(k:Int):Int:=if k<(ns.length:Int) then(ns[k.toNat]?).getD 0 else 0
inductive pP(K:W.Frag):List V->Hp->VK->XK->Prop
 |mk (a:QK) (ns:List Int) (k:Int):N=[.ref a,.int k]->aD K Y a (ns.map V.int)->0<=k->M (.int<|cellOf ns k) Y->pP K N Y M D
inductive lN:List V->Hp->VK->XK->Prop
 |mk {N Y M D} (m a b c:Int):N=[.int m,.int a,.int b,.int c]->1<m->m<2^240->0<=a->a<b->b<c->c<=m->(∀g:Nat,Gr.IsG m (a+b) (b+c) g->g<=240->M (.int g) Y)->lN N Y M D
theorem E2{p:Nat}{m:Int}(hm:m<2^240)(z:240<=p):m<=2^p:=by
 obtain⟨d,rfl⟩:∃d,p=240+d:=⟨p-240,by lia⟩
 have h1:(1:Int)<=2^d:=Gr.p2pos d;rw[Int.pow_add];have h2:(2:Int)^240*1<=2^240*2^d:=Int.mul_le_mul_of_nonneg_left h1 (by decide);lia
theorem dbl(x:Int)(p:Nat):2*(x*2^p)=x*2^(p+1):=by rw[Int.pow_succ,Int.mul_comm 2,Int.mul_assoc]
noncomputable def cX(xs:List Int)(a:Int):Int:=(xs[a.toNat]?).getD 0
noncomputable def mX:List (Int×Bool)->List Int->List Int->Bool
 |[],_,_=>false
 |(a,u)::r,x,y=>if cX x a=cX y a then mX r x y else if u=true then decide (cX x a<cX y a) else decide (cX y a<cX x a)
noncomputable def pF(u:Bool):Q3:=if u=true then "up" else "down"
noncomputable def nG(c:Int×Bool):Se:=.tuple [.int c.1,.str<|pF c.2]
theorem uR{u:Bool}:pF u=("up":Q3)↔u=true:=by
 cases u
 .exact ⟨λh=>absurd h<|by decide+kernel,λh=>by cases h⟩
 .exact ⟨λ_=>rfl,λ_=>rfl⟩
theorem Bp(u:Bool):pF u=("up":Q3)∨pF u=("down":Q3):=by
 cases u
 .exact .inr rfl
 .exact .inl rfl
theorem xW{xs:List Int}{a:Int}(h0:0<=a)(h:a<(xs.length:Int)):xs[a.toNat]?=some (cX xs a):=by
 unfold cX;rw[bV<|by lia];rfl
theorem FK{c:Int×Bool}(h:Dp K H (nG c) v):∃t,v=.ref t/\aY K H t [.int c.1,.str<|pF c.2]:=by
 unfold nG at h;obtain⟨t,xs,rfl,J,z⟩:=h.Ye;unfold aR at z;obtain⟨Z,r1,rfl,U,z⟩:=z;unfold aR at z;obtain⟨v2,r2,rfl,O,z⟩:=z;unfold aR at z;subst z;rw[U.Yr,O.Yq] at J;exact⟨t,rfl,J⟩
theorem Au{cols:List<|Int×Bool}(h:aR K H (cols.map nG) xs)(e:xs[i]?=some v):∃c t,cols[i]?=some c/\v=.ref t/\aY K H t [.int c.1,.str<|pF c.2]:=by
 obtain⟨d,z,U⟩:=h.of_get e;rw[dB] at z;cases ec:cols[i]? with
 |none=>rw[ec] at z;cases z
 |some c=>
  rw[ec] at z;have J:nG c=d:=QR z;subst J;obtain⟨t,rfl,O⟩:=FK U;exact⟨c,t,rfl,rfl,O⟩
theorem xh{cols:List<|Int×Bool}{c:Int×Bool}(e:cols[i]?=some c)(x y:List Int):mX (cols.drop i) x y=if cX x c.1=cX y c.1 then mX (cols.drop<|i+1) x y else if c.2=true then decide (cX x c.1<cX y c.1) else decide (cX y c.1<cX x c.1):=by
 obtain⟨hi,z⟩:=cV.mp e;rw[yc hi,z];rfl
inductive fS:List V->Hp->VK->XK->Prop
 |mk {N Y M D} (i:Int):N=[.int i]->0<=i->i<=7->M .VA Y->fS N Y M D
inductive fR:List V->Hp->VK->XK->Prop
 |mk {N Y M D} (i:Int) (u:Bool):N=[.int i,.str<|pF u]->0<=i->i<=7->M .VA Y->fR N Y M D
inductive eZ(K:W.Frag)(C:QK):List V->Hp->VK->XK->Prop
 |mk (p dx c:QK) (xs:List V) (cols:List<|Int×Bool):N=[.ref p,.ref c]->Y p=some (.ins C dx [])->aD K Y c xs->aR K Y (cols.map nG) xs->(∀c∈cols,0<=c.1/\c.1<=7)->(∀l,Y l=none->M .VA (upd (upd Y l<|.lst xs) p<|.ins C dx<|aO "columns" (.ref l) []))->eZ K C N Y M D
inductive bC(K:W.Frag)(C:QK):List V->Hp->VK->XK->Prop
 |mk (p dx c x y:QK) (xs:List V) (cols:List<|Int×Bool) (xi yi:List Int):N=[.ref p,.ref x,.ref y]->Y p=some (.ins C dx<|aO "columns" (.ref c) [])->aD K Y c xs->aR K Y (cols.map nG) xs->aY K Y x (xi.map V.int)->aY K Y y (yi.map V.int)->(∀c∈cols,0<=c.1/\c.1<(xi.length:Int)/\c.1<(yi.length:Int))->M (.bl<|mX cols xi yi) Y->bC K C N Y M D
theorem Ht{f:Q3}:(aO f v []).lookup f=some v:=by rw[lS,Z9 rfl]
theorem EZ{f g:Q3}(h:¬ g=f):(aO f v []).lookup g=none:=by
 rw[lS,Z8 h];rfl
def bS(H H':Hp):Prop:=∀b o,(∀k,o≠.dT k)->(∀t,o≠.tbl t)->H b=some o->H' b=some o
section
variable {H H':Hp}
theorem aB.b(s:aB H H'):bS H H':=λb o _ _ e=>s b o e
theorem bS.trans{A B C:Hp}(s:bS A B)(t:bS B C):bS A C:=λb o n m e=>t b o n m<|s b o n m e
theorem bS.ins{r C:QK}{fl:List<|Q3×V}(e:bS H H')(h:bG H r C fl):bG H' r C fl:=by
 obtain⟨dx,fs,h1,h2,h3⟩:=h.ex;exact⟨dx,fs,e _ _ (λ_ z=>by cases z) (λ_ z=>by cases z) h1,h2,h3⟩
theorem bS.seq(e:bS H H')(h:aD K H l xs):aD K H' l xs:=by
 rcases h with (h|⟨o,h⟩)|h
 .exact .inl (.inl<|e _ _ (λ_ z=>by cases z) (λ_ z=>by cases z) h)
 .exact .inl (.inr ⟨o,e _ _ (λ_ z=>by cases z) (λ_ z=>by cases z) h⟩)
 .exact .inr h
theorem bS.VZ(e:bS H H')(h:aY K H l xs):aY K H' l xs:=by
 rcases h with (h|⟨o,h⟩)|h
 .exact .inl (.inl<|e _ _ (λ_ z=>by cases z) (λ_ z=>by cases z) h)
 .exact .inl (.inr ⟨o,e _ _ (λ_ z=>by cases z) (λ_ z=>by cases z) h⟩)
 .exact .inr h
theorem bS.col(e:bS H H'):∀{cols:List<|Int×Bool} {xs:List V},aR K H (cols.map nG) xs->aR K H' (cols.map nG) xs
 |[],xs,h=>by unfold aR at h;subst h;exact .nil
 |c::r,xs,h=>by
  rw[iT] at h⊢;unfold aR at h;obtain⟨v,ys,rfl,J,z⟩:=h;refine .cons ?_<|e.col z;obtain⟨a,zs,rfl,h1,h2⟩:=Dp.Ye J;refine Ih (e.VZ h1) ?_;simp only[aR,Dp] at h2⊢;exact h2
end
noncomputable def cQ(n:Nat)(m:Nat->Nat->Bool)(q:Nat):Nat:=(QL n).countP λp=>m p q
def Bi(n:Nat)(m:Nat->Nat->Bool):Prop:=∀p,p<n->∀q,q<n->m p q=decide (cQ n m p<cQ n m q)
def GZ(n:Nat)(m:Nat->Nat->Bool)(p q:Nat):Prop:=m p q=true/\(p=q∨m q p=true∨∃r,r<n/\m p r=false/\m r q=false)
theorem xx{l:List Nat}{a b:Nat->Bool}(h:∀x∈l,a x=true->b x=true){y:Nat}(O:y∈l)(U:b y=true)(ha:a y=false):l.countP a<l.countP b:=by
 induction l with
 |nil=>cases O
 |cons x r ih=>
  rw[Gz,Gz];have Z:r.countP a<=r.countP b:=TJ λz J=>h z<|bK _ J;rcases cL.mp O with e|e
  .subst e;rw[Z9 U,Z8<|by rw[ha];decide];lia
  .have:=ih (λz J=>h z<|bK _ J) e;have h0:=h x bH;by_cases hx:a x=true
   .rw [Z9 hx,Z9<|h0 hx];lia
   .rw [Z8 hx];lia
theorem yR{m:Nat->Nat->Bool}(h:∀p,p<n->∀q,q<n->¬ GZ n m p q):Bi n m:=by
 have ab:∀p,p<n->m p p=false:=λp J=>Bool.eq_false_iff.mpr λz=>h p J p J ⟨z,.inl rfl⟩;have aa:∀p,p<n->∀q,q<n->m p q=true->m q p=false:=λp J q U z=>Bool.eq_false_iff.mpr λz'=>h p J q U ⟨z,.inr<|.inl z'⟩;have Z:∀p,p<n->∀q,q<n->m p q=true->∀r,r<n->m p r=false->m r q=true:=λp J q U z r hr z1=>(Bool.not_eq_false _).mp λz2=>h p J q U ⟨z,.inr<|.inr ⟨r,hr,z1,z2⟩⟩;intro p J q U;cases e:m p q
 .refine (decide_eq_false λac=>?_).symm;have:cQ n m q<=cQ n m p:=TJ λx hx hm=>by
   have O:=mL.mp hx;exact(Bool.not_eq_false _).mp λz=>by
    have:=Z x O q U hm p J z;rw[e] at this;cases this
  lia
 .refine (decide_eq_true ?_).symm;refine xx (y:=p) (λx hx hm=>?_) (mL.mpr J) e<|ab p J;have O:=mL.mp hx;exact Z p J q U e x O<|aa x O p J hm
def iP(H:Hp)(l:QK)(n:Nat)(m:Nat->Nat->Bool):Prop:=∃rs:List V,H l=some (.lst rs)/\rs.length=n/\∀p,p<n->∃r,rs[p]?=some (V.ref r)/\H r=some (.lst<|(QL n).map λq=>V.bl<|m p q)
theorem iP.mono{m:Nat->Nat->Bool}(s:bS H H')(h:iP H l n m):iP H' l n m:=by
 obtain⟨rs,a,b,c⟩:=h;exact⟨rs,s _ _ (λ_ z=>by cases z) (λ_ z=>by cases z) a,b,λp J=>by obtain⟨r,x,y⟩:=c p J;exact⟨r,x,s _ _ (λ_ z=>by cases z) (λ_ z=>by cases z) y⟩⟩
theorem xU{p:Nat}{g:Nat->V}(h:p<n):dX ((QL n).map g) (p:Int)=some (g p):=cK (by lia)<|by rw[Int.toNat_natCast,dB,uN h];rfl
inductive dM:List V->Hp->VK->XK->Prop
 |mk (n:Nat):N=[.int n]->n<=500->(∀l H',aB Y H'->Y l=none->H' l=some (.lst<|(QL n).map λp=>V.int (p:Nat))->M (.ref l) H')->dM N Y M D
inductive lP:List V->Hp->VK->XK->Prop
 |mk (l:QK) (n:Nat) (m:Nat->Nat->Bool):N=[.ref l]->iP Y l n m->n<=100->(∀l2 H',aB Y H'->Y l2=none->H' l2=some (.lst<|(QL n).map λq=>V.int (cQ n m q:Nat))->M (.ref l2) H')->lP N Y M D
inductive lQ:List V->Hp->VK->XK->Prop
 |mk (l l2:QK) (n:Nat) (m:Nat->Nat->Bool):N=[.ref l,.ref l2]->iP Y l n m->n<=100->Y l2=some (.lst<|(QL n).map λq=>V.int (cQ n m q:Nat))->(∀H',aB Y H'->(Bi n m->M (.bl true) H')/\(¬ Bi n m->M (.bl false) H'))->lQ N Y M D
inductive lK:List V->Hp->VK->XK->Prop
 |mk (l:QK) (p q n:Nat) (m:Nat->Nat->Bool):N=[.ref l,.int p,.int q]->iP Y l n m->n<=100->p<n->q<n->(∀l2 H',aB Y H'->Y l2=none->H' l2=some (.lst<|((QL n).filter λr=>!m p r&&!m r q).map λr=>V.int (r:Nat))->M (.ref l2) H')->lK N Y M D
def OU(n:Nat)(m:Nat->Nat->Bool)(w:Q3)(a b c:Nat):Prop:=a<n/\b<n/\c<n/\m a b=true/\((w=QQ "self"/\a=b/\b=c)∨(w=QQ "both"/\a≠b/\a=c/\m b a=true)∨(w=QQ "tie"/\a≠b/\b≠c/\a≠c/\m a c=false/\m c b=false))
def AM(H:Hp)(t:QK)(n:Nat)(m:Nat->Nat->Bool):Prop:=L2.X5 λ(t3:QK) (w:Q3) (a b c:Nat)=>H t=some (.tup [.str<|QQ "flaw",.str w,.ref t3])/\H t3=some (.tup [.int a,.int b,.int c])/\OU n m w a b c
inductive va:List V->Hp->VK->XK->Prop
 |mk (l:QK) (p q n:Nat) (m:Nat->Nat->Bool):N=[.ref l,.int p,.int q]->iP Y l n m->n<=100->p<n->q<n->m p q=true->(∀t H',aB Y H'->AM H' t n m->M (.ref t) H')->(¬ GZ n m p q->∀H',aB Y H'->M .VA H')->va N Y M D
inductive pN:List V->Hp->VK->XK->Prop
 |mk (l:QK) (n:Nat) (m:Nat->Nat->Bool):N=[.ref l]->iP Y l n m->n<=100->¬ Bi n m->(∀t H',aB Y H'->AM H' t n m->M (.ref t) H')->pN N Y M D
structure Pl where
 kd:Nat
 key:Nat
 num:Int
variable {p:Pl}
structure Tg(L:Nat)(x:List Int):Prop where
 len:x.length=2
 lo:0<=cX x 0
 hi:cX x 0<(L:Int)
noncomputable def wrd(k:Nat):Q3:=if k=0 then "up" else if k=1 then "down" else if k=2 then "near" else if k=3 then "ring" else "table"
structure Pl.Ok(p:Pl):Prop where
 kd:p.kd<5
 key:p.key<2
 n0:0<=p.num
 n1:p.kd=3->1<=p.num
noncomputable def xS(p:Pl):List V:=[.str<|wrd p.kd,.int p.key,.int p.num]
noncomputable def Jm(s d:Int):Bool:=decide (0<d%s)&&decide (2*(d%s)<s)
noncomputable def jR(tm:Nat->Nat->Bool)(p:Pl)(x y:List Int):Bool:=
 if p.kd=0 then decide (cX x p.key<cX y p.key) else if p.kd=1 then decide (cX y p.key<cX x p.key) else if p.kd=2 then decide (p.num<cX y p.key-cX x p.key) else if p.kd=3 then Jm p.num (cX y p.key-cX x p.key) else tm (cX x 0).toNat (cX y 0).toNat
theorem ye(h:p.kd<2):wrd p.kd=pF (decide<|p.kd=0):=by
 unfold wrd pF;by_cases z:p.kd=0
 .rw [Z9 z,decide_eq_true z,Z9 rfl]
 .rw [Z8 z,decide_eq_false z,Z9<|show p.kd=1 by lia];rfl
theorem zO(h:p.kd<2)(x y:List Int):mX [((p.key:Int),decide<|p.kd=0)] x y=jR tm p x y:=by
 unfold jR mX mX;by_cases z:p.kd=0
 .rw [Z9 z,decide_eq_true z,Z9 rfl];by_cases e:cX x p.key=cX y p.key
  .rw [Z9 e,decide_eq_false<|by lia]
  .rw [Z8 e]
 .rw [Z8 z,decide_eq_false z,Z9<|show p.kd=1 by lia];by_cases e:cX x p.key=cX y p.key
  .rw [Z9 e,decide_eq_false<|by lia]
  .rw [Z8 e,Z8<|show ¬ (false=true) by decide]
noncomputable abbrev fN(a gp:Int):List<|Q3×V:=[("gap",.int gp),("at",.int a)]
noncomputable abbrev Kg(a sz:Int):List<|Q3×V:=[("size",.int sz),("at",.int a)]
noncomputable abbrev fV(l:QK):List<|Q3×V:=[("rules",.ref l)]
inductive dP(C:QK):List V->Hp->VK->XK->Prop
 |mk (x dx:QK) (a gp:Int):N=[.ref x,.int a,.int gp]->Y x=some (.ins C dx [])->0<=a->a<=7->0<=gp->(∀H',(∀b o,b≠x->Y b=some o->H' b=some o)->bG H' x C (fN a gp)->M .VA H')->dP C N Y M D
inductive dN(C:QK):List V->Hp->VK->XK->Prop
 |mk (x dx:QK) (a sz:Int):N=[.ref x,.int a,.int sz]->Y x=some (.ins C dx [])->0<=a->a<=7->1<=sz->(∀H',(∀b o,b≠x->Y b=some o->H' b=some o)->bG H' x C (Kg a sz)->M .VA H')->dN C N Y M D
inductive aX(K:W.Frag)(C:QK):List V->Hp->VK->XK->Prop
 |mk (p x y:QK) (a gp:Int) (xi yi:List Int):N=[.ref p,.ref x,.ref y]->bG Y p C (fN a gp)->aY K Y x (xi.map V.int)->aY K Y y (yi.map V.int)->0<=a->a<(xi.length:Int)->a<(yi.length:Int)->M (.bl<|decide<|gp<cX yi a-cX xi a) Y->aX K C N Y M D
inductive aW(K:W.Frag)(C:QK):List V->Hp->VK->XK->Prop
 |mk (p x y:QK) (a sz:Int) (xi yi:List Int):N=[.ref p,.ref x,.ref y]->bG Y p C (Kg a sz)->aY K Y x (xi.map V.int)->aY K Y y (yi.map V.int)->0<=a->a<(xi.length:Int)->a<(yi.length:Int)->1<=sz->M (.bl<|Jm sz<|cX yi a-cX xi a) Y->aW K C N Y M D
noncomputable abbrev fT(a:Int)(l:QK):List<|Q3×V:=[("table",.ref l),("at",.int a)]
inductive eU(C:QK):List V->Hp->VK->XK->Prop
 |mk (x dx l:QK) (n:Nat) (m:Nat->Nat->Bool):N=[.ref x,.int 0,.ref l]->Y x=some (.ins C dx [])->iP Y l n m->n<=100->(∀l2 H',(∀b o,b≠x->Y b=some o->H' b=some o)->iP H' l2 n m->bG H' x C (fT 0 l2)->M .VA H')->eU C N Y M D
inductive bA(K:W.Frag)(C:QK):List V->Hp->VK->XK->Prop
 |mk (r x y l n':QK) (n:Nat) (m:Nat->Nat->Bool) (xi yi:List Int) (i j:Nat):N=[.ref r,.ref x,.ref y]->bG Y r C (fT 0 l)->iP Y l n m->aY K Y x (xi.map V.int)->aY K Y y (yi.map V.int)->xi[0]?=some (i:Int)->yi[0]?=some (j:Int)->i<n->j<n->M (.bl<|m i j) Y->bA K C N Y M D
def gL(K:W.Frag)(CK CN CR CT:QK)(L:Nat)(tm:Nat->Nat->Bool)(H:Hp)(r:QK)(p:Pl):Prop:=
 (p.kd<2/\∃dx c xs,H r=some (.ins CK dx<|aO "columns" (.ref c) [])/\aD K H c xs/\aR K H ([((p.key:Int),decide<|p.kd=0)].map nG) xs/\∃t zs,xs=[V.ref t]/\H t=some (.tup zs))∨(p.kd=2/\bG H r CN (fN p.key p.num))∨(p.kd=3/\bG H r CR (Kg p.key p.num))∨(p.kd=4/\∃l,bG H r CT (fT 0 l)/\iP H l L tm)
theorem gL.mono(e:bS H H')(h:gL K CK CN f CT L tm H r p):gL K CK CN f CT L tm H' r p:=by
 rcases h with ⟨h0,dx,c,xs,h1,h2,h3,O⟩|⟨h0,h1⟩|⟨h0,h1⟩|⟨h0,l,h1,h2⟩
 .obtain ⟨t,zs,J,e2⟩:=O;exact .inl ⟨h0,dx,c,xs,e _ _ (λ_ z=>by cases z) (λ_ z=>by cases z) h1,e.seq h2,e.col h3,t,zs,J,e _ _ (λ_ z=>by cases z) (λ_ z=>by cases z) e2⟩
 .exact .inr (.inl ⟨h0,e.ins h1⟩)
 .exact .inr (.inr<|.inl ⟨h0,e.ins h1⟩)
 .exact .inr (.inr<|.inr ⟨h0,l,e.ins h1,h2.mono e⟩)
noncomputable abbrev qK(C r:QK)(m:Q3)(H:Hp)(R:Prop):Prop:=L2.X3 λb dx fs=>V.ref r=.ref b/\H b=some (.ins C dx fs)/\fs.lookup m=none/\R
theorem LW{y:QK}{xi yi:List Int}(h:gL K CK CN f CT L tm H r p)(ok:p.Ok)(J:aY K H x<|xi.map V.int)(O:aY K H y<|yi.map V.int)(U:Tg L xi)(z:Tg L yi)(q:Q (.bl<|jR tm p xi yi) H):
  qK CK r (QQ "before") H (bC K CK [.ref r,.ref x,.ref y] H Q E)∨qK CN r (QQ "before") H (aX K CN [.ref r,.ref x,.ref y] H Q E)∨qK f r (QQ "before") H (aW K f [.ref r,.ref x,.ref y] H Q E)∨qK CT r (QQ "before") H (bA K CT [.ref r,.ref x,.ref y] H Q E):=by
 have hk:=ok.key;have l1:=U.len;have l2:=z.len;rcases h with ⟨h0,dx,c,xs,h1,h2,h3,h4⟩|⟨h0,h1⟩|⟨h0,h1⟩|⟨h0,l,h1,h2⟩
 .refine .inl ⟨r,dx,_,rfl,h1,EZ<|by decide+kernel,r,dx,c,x,y,xs,_,xi,yi,rfl,h1,h2,h3,J,O,λc' hc=>?_,by rw[zO h0];exact q⟩;rw[bY.mp hc];exact⟨by lia,by lia,by lia⟩
 .refine .inr (.inl<|h1.U9 (by walk_at "l") ⟨r,x,y,_,_,xi,yi,rfl,h1,J,O,by lia,by lia,by lia,?_⟩);unfold jR at q;rw[Z8<|by lia,Z8<|by lia,Z9 h0] at q;exact q
 .refine .inr (.inr<|.inl<|h1.U9 (by walk_at "l") ⟨r,x,y,_,_,xi,yi,rfl,h1,J,O,by lia,by lia,by lia,ok.n1 h0,?_⟩);unfold jR at q;rw[Z8<|by lia,Z8<|by lia,Z8<|by lia,Z9 h0] at q;exact q
 .have Z:xi[0]?=some (((cX xi 0).toNat:Nat):Int):=by rw[Sn U.lo];exact xW (a:=0) (by decide) (by lia)
  have aa:yi[0]?=some (((cX yi 0).toNat:Nat):Int):=by rw[Sn z.lo];exact xW (a:=0) (by decide)<|by lia
  have b1:=U.lo;have b2:=U.hi;have b3:=z.lo;have b4:=z.hi;refine .inr<|.inr<|.inr<|h1.U9 (by walk_at "l") ⟨r,x,y,l,l,L,tm,xi,yi,(cX xi 0).toNat,(cX yi 0).toNat,rfl,h1,h2,J,O,Z,aa,by lia,by lia,?_⟩;unfold jR at q;rw[Z8<|by lia,Z8<|by lia,Z8<|by lia,Z8<|by lia] at q;exact q
structure xJ(K:W.Frag)(CK CN CR CT:QK)(L:Nat)(tm:Nat->Nat->Bool)(H:Hp)(xs:List V)(ps:List Pl):Prop where
 len:xs.length=ps.length
 get:∀(i:Nat) p,ps[i]?=some p->∃r,xs[i]?=some (V.ref r)/\gL K CK CN CR CT L tm H r p
theorem xJ.mono{ps:List Pl}(e:bS H H')(h:xJ K CK CN f CT L tm H xs ps):xJ K CK CN f CT L tm H' xs ps:=⟨h.len,λi p z=>by
 obtain⟨r,a,b⟩:=h.get i p z;exact⟨r,a,b.mono e⟩⟩
theorem xJ.at{K:W.Frag}{CK CN CR CT:QK}{L:Nat}{tm:Nat->Nat->Bool}{H:Hp}{xs:List V}{ps:List Pl}{i:Nat}{x:V}(h:xJ K CK CN CR CT L tm H xs ps)(z:xs[i]?=some x):∃p r,ps[i]?=some p/\x=.ref r/\gL K CK CN CR CT L tm H r p:=by
 have hi:i<ps.length:=by rw[<- h.len];exact(cV.mp z).1
 obtain⟨r,a,b⟩:=h.get i ps[i] (bV hi);rw[z] at a;cases a;exact⟨_,r,bV hi,rfl,b⟩
noncomputable abbrev mM:=Bool×List Pl
variable {ps:List mM}{q:mM}
structure gH(q:mM):Prop where
 ok:∀p∈q.2,p.Ok
 ne:q.2≠[]
 le:q.2.length<=3
 one:q.1=false->∃p,q.2=[p]
noncomputable def b2i(b:Bool):Int:=if b then 1 else 0
noncomputable def vts(tm:Nat->Nat->Bool):List Pl->List Int->List Int->Int
 |[],_,_=>0
 |p::r,x,y=>vts tm r x y+b2i (jR tm p x y)-b2i (jR tm p y x)
noncomputable def cnt(tm:Nat->Nat->Bool)(ps:List Pl)(x y:List Int):Nat:=(ps.filter λp=>jR tm p x y).length
theorem uS{tm:Nat->Nat->Bool}(x y:List Int):∀ps:List Pl,vts tm ps x y=(cnt tm ps x y:Int)-(cnt tm ps y x:Int)
 |[]=>rfl
 |p::r=>by
  unfold vts cnt b2i;rw[uS x y r,List.filter_cons,List.filter_cons];unfold cnt;cases jR tm p x y<;>cases jR tm p y x<;>simp<;>lia
noncomputable def tH(tm:Nat->Nat->Bool)(q:mM)(x y:List Int):Bool:=if q.1=true then decide (0<vts tm q.2 x y) else q.2.any λp=>jR tm p x y
noncomputable def fF(tm:Nat->Nat->Bool):List mM->List Int->List Int->Bool
 |[],_,_=>false
 |q::r,x,y=>if tH tm q x y=true then true else if tH tm q y x=true then false else fF tm r x y
def tN(K:W.Frag)(CK CN CR CT:QK)(L:Nat)(tm:Nat->Nat->Bool)(CV:QK)(H:Hp)(r:QK)(ps:List Pl):Prop:=L2.X2 λl xs=>bG H r CV (fV l)/\H l=some (.lst xs)/\xJ K CK CN CR CT L tm H xs ps
def jS(K:W.Frag)(CK CN CR CT:QK)(L:Nat)(tm:Nat->Nat->Bool)(CV:QK)(H:Hp)(r:QK)(q:mM):Prop:=(q.1=false/\∃p,q.2=[p]/\gL K CK CN CR CT L tm H r p)∨(q.1=true/\tN K CK CN CR CT L tm CV H r q.2)
theorem tN.mono{ps:List Pl}(e:bS H H')(h:tN K CK CN f CT L tm CV H r ps):tN K CK CN f CT L tm CV H' r ps:=by
 obtain⟨l,xs,a,b,c⟩:=h;exact⟨l,xs,e.ins a,e _ _ (λ_ z=>by cases z) (λ_ z=>by cases z) b,c.mono e⟩
theorem tN.U9{ps:List Pl}{m:Q3}{R:Prop}(h:tN K CK CN f CT L tm CV H r ps)(hm:m=QQ "before"∨m=QQ "widest")(q:R):qK CV r m H R:=by
 obtain⟨l,xs,a,b,c⟩:=h;rcases hm with rfl|rfl
 .exact a.U9 (by walk_at "l") q
 .exact a.U9 (by walk_at "l") q
theorem jS.mono(e:bS H H')(h:jS K CK CN f CT L tm CV H r q):jS K CK CN f CT L tm CV H' r q:=by
 rcases h with ⟨h0,p,a,b⟩|⟨h0,a⟩
 .exact .inl ⟨h0,p,a,b.mono e⟩
 .exact .inr ⟨h0,a.mono e⟩
structure Gs(K:W.Frag)(CK CN CR CT:QK)(L:Nat)(tm:Nat->Nat->Bool)(CV:QK)(H:Hp)(xs:List V)(ps:List mM):Prop where
 len:xs.length=ps.length
 get:∀(i:Nat) q,ps[i]?=some q->∃r,xs[i]?=some (V.ref r)/\jS K CK CN CR CT L tm CV H r q
theorem Gs.mono(e:bS H H')(h:Gs K CK CN f CT L tm CV H xs ps):Gs K CK CN f CT L tm CV H' xs ps:=⟨h.len,λi p z=>by
 obtain⟨r,a,b⟩:=h.get i p z;exact⟨r,a,b.mono e⟩⟩
theorem Gs.at{K:W.Frag}{CK CN CR CT:QK}{L:Nat}{tm:Nat->Nat->Bool}{CV:QK}{H:Hp}{xs:List V}{ps:List mM}{i:Nat}{x:V}(h:Gs K CK CN CR CT L tm CV H xs ps)(z:xs[i]?=some x):∃p r,ps[i]?=some p/\x=.ref r/\jS K CK CN CR CT L tm CV H r p:=by
 have hi:i<ps.length:=by rw[<- h.len];exact(cV.mp z).1
 obtain⟨r,a,b⟩:=h.get i ps[i] (bV hi);rw[z] at a;cases a;exact⟨_,r,bV hi,rfl,b⟩
def tP(K:W.Frag)(CK CN CR CT:QK)(L:Nat)(tm:Nat->Nat->Bool)(CV CC:QK)(H:Hp)(r:QK)(ps:List mM):Prop:=L2.X2 λl xs=>bG H r CC (fV l)/\H l=some (.lst xs)/\Gs K CK CN CR CT L tm CV H xs ps
theorem tP.mono(e:bS H H')(h:tP K CK CN f CT L tm CV CC H r ps):tP K CK CN f CT L tm CV CC H' r ps:=by
 obtain⟨l,xs,a,b,c⟩:=h;exact⟨l,xs,e.ins a,e _ _ (λ_ z=>by cases z) (λ_ z=>by cases z) b,c.mono e⟩
theorem tP.U9{m:Q3}{R:Prop}(h:tP K CK CN f CT L tm CV CC H r ps)(hm:m=QQ "before"∨m=QQ "widest")(q:R):qK CC r m H R:=by
 obtain⟨l,xs,a,b,c⟩:=h;rcases hm with rfl|rfl
 .exact a.U9 (by walk_at "l") q
 .exact a.U9 (by walk_at "l") q
inductive eF(C:QK):List V->Hp->VK->XK->Prop
 |mk (p dx c:QK) (xs:List V):N=[.ref p,.ref c]->Y p=some (.ins C dx [])->Y c=some (.lst xs)->(∀l H',Y l=none->l≠p->(∀b o,b≠p->Y b=some o->H' b=some o)->H' l=some (.lst xs)->bG H' p C (fV l)->M .VA H')->eF C N Y M D
inductive bT(K:W.Frag)(CK CN CR CT:QK)(CV:QK):List V->Hp->VK->XK->Prop
 |mk (L:Nat) (tm:Nat->Nat->Bool) (r x y:QK) (ps:List Pl) (xi yi:List Int):N=[.ref r,.ref x,.ref y]->tN K CK CN CR CT L tm CV Y r ps->ps.length<=100->(∀p∈ps,p.Ok)->aY K Y x (xi.map V.int)->aY K Y y (yi.map V.int)->Tg L xi->Tg L yi->(∀H',aB Y H'->M (.bl<|decide<|0<vts tm ps xi yi) H')->bT K CK CN CR CT CV N Y M D
inductive cO(K:W.Frag)(CK CN CR CT:QK)(CV CC:QK):List V->Hp->VK->XK->Prop
 |mk (L:Nat) (tm:Nat->Nat->Bool) (r x y:QK) (ps:List mM) (xi yi:List Int):N=[.ref r,.ref x,.ref y]->tP K CK CN CR CT L tm CV CC Y r ps->(∀q∈ps,gH q)->ps.length<=100->aY K Y x (xi.map V.int)->aY K Y y (yi.map V.int)->Tg L xi->Tg L yi->(∀H',aB Y H'->M (.bl<|fF tm ps xi yi) H')->cO K CK CN CR CT CV CC N Y M D
theorem Md{y:QK}{xi yi:List Int}(h:jS K CK CN f CT L tm CV H r q)(ok:gH q)(O:aY K H x<|xi.map V.int)(U:aY K H y<|yi.map V.int)(Z:Tg L xi)(J:Tg L yi)(k:∀H',aB H H'->Q (.bl<|tH tm q xi yi) H'):
  qK CK r (QQ "before") H (bC K CK [.ref r,.ref x,.ref y] H Q E)∨qK CN r (QQ "before") H (aX K CN [.ref r,.ref x,.ref y] H Q E)∨qK f r (QQ "before") H (aW K f [.ref r,.ref x,.ref y] H Q E)∨qK CT r (QQ "before") H (bA K CT [.ref r,.ref x,.ref y] H Q E)∨qK CV r (QQ "before") H (bT K CK CN f CT CV [.ref r,.ref x,.ref y] H Q E):=by
 rcases h with ⟨h0,p,e,b⟩|⟨h0,b⟩
 .have:=k H<|.refl _;unfold tH at this;rw[h0,Z8<|by decide,e] at this;rcases LW (E:=E) (Q:=Q) b (ok.ok p<|by rw[e];exact bH) O U Z J (by simpa using this) with z|z|z|z
  .exact .inl z
  .exact .inr (.inl z)
  .exact .inr (.inr<|.inl z)
  .exact .inr (.inr<|.inr<|.inl z)
 .refine .inr (.inr<|.inr<|.inr<|tN.U9 b (.inl rfl) ⟨L,tm,r,x,y,q.2,xi,yi,rfl,b,cW ok.le<|by decide,ok.ok,O,U,Z,J,λH' s=>?_⟩);have:=k H' s;unfold tH at this;rw[h0,Z9 rfl] at this;exact this
theorem Av(ps:List Pl)(x y:List Int)(i:Nat):cnt tm (ps.take i) x y<=i:=cW (Gx _ _)<|by rw[kP];lia
theorem sU{ps:List Pl}(x y:List Int)(h:ps[i]?=some p):cnt tm (ps.take<|i+1) x y=cnt tm (ps.take i) x y+(if jR tm p x y=true then 1 else 0):=by
 unfold cnt;rw[Sy,h,AN,aU];congr 1;show(List.filter _ [p]).length=_;rw[List.filter_cons];cases jR tm p x y<;>rfl
theorem uT{tm:Nat->Nat->Bool}(x y:List Int)(p:Pl):∀ls:List Pl,vts tm (ls++[p]) x y=vts tm ls x y+b2i (jR tm p x y)-b2i (jR tm p y x)
 |[]=>rfl
 |q::r=>by
  show vts tm (r++[p]) x y+b2i (jR tm q x y)-b2i (jR tm q y x)=vts tm r x y+b2i (jR tm q x y)-b2i (jR tm q y x)+b2i (jR tm p x y)-b2i (jR tm p y x);rw[uT x y p r];lia
theorem yh{ls:List Pl}{x y:List Int}(h:ls[i]?=some p):vts tm (ls.take<|i+1) x y=vts tm (ls.take i) x y+b2i (jR tm p x y)-b2i (jR tm p y x):=by
 rw[Sy,h];exact uT x y p _
theorem oV{p:mM}(h:ps[i]?=some p)(x y:List Int):fF tm (ps.drop i) x y=if tH tm p x y=true then true else if tH tm p y x=true then false else fF tm (ps.drop<|i+1) x y:=by
 obtain⟨hi,z⟩:=cV.mp h;rw[yc hi,z];rfl
theorem xJ.snoc{ps:List Pl}(h:xJ K CK CN f CT L tm H xs ps)(J:gL K CK CN f CT L tm H r p):xJ K CK CN f CT L tm H (xs++[.ref r])<|ps++[p]:=by
 refine⟨by rw[aU,aU,h.len];rfl,λi ms hi=>?_⟩;by_cases z:i<ps.length
 .rw [iE z] at hi;obtain⟨t',a,b⟩:=h.get i ms hi;exact⟨t',by rw[iE<|by rw[h.len];exact z];exact a,b⟩
 .have e:=(cV.mp hi).1;rw[aU] at e;have O:i=ps.length:=by have:[p].length=1:=rfl;lia
  subst O;rw[gI<|aL _,gN] at hi;cases hi;exact⟨r,by rw[<- h.len,gI<|aL _,gN];rfl,J⟩
theorem El{G:Hp}(J:G x=none)(z:G dx=none):aB G<|upd (upd G dx<|.own x) x<|.ins C dx []:=λb o e=>by
 rw[bF<|bR e J,bF<|bR e z];exact e
theorem vmade{G:Hp}{ys:List V}(h:G p2=some (.lst ys))(O:G x=none)(z:G dx=none)(q:∀l H',aB G H'->H' l=some (.lst ys)->bG H' x C (fV l)->Q (.ref x) H'):eF C [.ref x,.ref p2] (upd (upd G dx<|.own x) x<|.ins C dx []) (λv H2=>v=.VA/\Q (.ref x) H2) E:=
 ⟨x,dx,p2,ys,rfl,aS,El O z _ _ h,λl H' hl U k J Z=>⟨rfl,q l H' (λb o e=>k b o (bR e O)<|El O z _ _ e) J Z⟩⟩
theorem nmade{G:Hp}(ok:p.Ok)(O:p.kd=2)(J:G x=none)(z:G dx=none)(q:∀H',aB G H'->gL K CK CN f CT L tm H' x p->Q (.ref x) H'):dP CN [.ref x,.int p.key,.int p.num] (upd (upd G dx<|.own x) x<|.ins CN dx []) (λv H2=>v=.VA/\Q (.ref x) H2) E:=
 ⟨x,dx,_,_,rfl,aS,by lia,by have:=ok.key;lia,ok.n0,λH' k U=>⟨rfl,q H' (λb o e=>k b o (bR e J)<|El J z _ _ e)<|.inr<|.inl ⟨O,U⟩⟩⟩
theorem rmade{G:Hp}(ok:p.Ok)(J:p.kd=3)(O:G x=none)(z:G dx=none)(q:∀H',aB G H'->gL K CK CN f CT L tm H' x p->Q (.ref x) H'):dN f [.ref x,.int p.key,.int p.num] (upd (upd G dx<|.own x) x<|.ins f dx []) (λv H2=>v=.VA/\Q (.ref x) H2) E:=
 ⟨x,dx,_,_,rfl,aS,by lia,by have:=ok.key;lia,ok.n1 J,λH' k U=>⟨rfl,q H' (λb o e=>k b o (bR e O)<|El O z _ _ e)<|.inr<|.inr<|.inl ⟨J,U⟩⟩⟩
theorem kmade{G:Hp}{O t:QK}(ok:p.Ok)(hk:p.kd<2)(hx:G x=none)(U:G dx=none)(h1:G O=some (.lst [.ref t]))(Z:G t=some (.tup [.int p.key,.str<|wrd p.kd]))(q:∀H',aB G H'->gL K CK CN f CT L tm H' x p->Q (.ref x) H'):eZ K CK [.ref x,.ref O] (upd (upd G dx<|.own x) x<|.ins CK dx []) (λv H2=>v=.VA/\Q (.ref x) H2) E:=by
 have S:=El (C:=CK) hx U;have hd:∀H',aB G H'->aR K H' ([((p.key:Int),decide<|p.kd=0)].map nG) [V.ref t]:=λH' s=>.one (by
  have:=s _ _ Z;rw[ye hk] at this;exact Ih (aY.of this)<|.two (F5 _)<|FJ _)
 refine⟨x,dx,O,[.ref t],_,rfl,aS,aD.of<|S _ _ h1,hd _ S,λc' hc=>?_,λl hl=>⟨rfl,?_⟩⟩
 .rw [bY.mp hc];have:=ok.key;exact⟨by show(0:Int)<=(p.key:Int);lia,by show(p.key:Int)<=7;lia⟩
 .have J:l≠x:=λz=>by rw[z,aS] at hl;cases hl
  have s2:aB G<|upd (upd (upd (upd G dx<|.own x) x<|.ins CK dx []) l<|.lst [V.ref t]) x<|.ins CK dx<|aO "columns" (.ref l) []:=(S.new hl).upd hx;exact q _ s2<|.inl ⟨hk,dx,l,_,aS,aD.of (by rw[bF J,aS]),hd _ s2,t,_,rfl,s2 _ _ Z⟩
def DI(K:W.Frag)(CK CN CR CT CV CC:QK)(ru:QK)(x y:V)(H:Hp)(Q:VK)(E:XK):Prop:=
 qK CK ru (QQ "before") H (bC K CK [.ref ru,x,y] H Q E)∨qK CN ru (QQ "before") H (aX K CN [.ref ru,x,y] H Q E)∨qK CR ru (QQ "before") H (aW K CR [.ref ru,x,y] H Q E)∨qK CT ru (QQ "before") H (bA K CT [.ref ru,x,y] H Q E)∨qK CV ru (QQ "before") H (bT K CK CN CR CT CV [.ref ru,x,y] H Q E)∨qK CC ru (QQ "before") H (cO K CK CN CR CT CV CC [.ref ru,x,y] H Q E)
def Bf(K:W.Frag)(CK CN CR CT CV CC:QK)(H:Hp)(ru:QK)(xs:List V)(gb:Nat->Nat->Bool):Prop:=∀(i j:Nat) x y,xs[i]?=some x->xs[j]?=some y->∀H' Q E,bS H H'->(∀H'',aB H' H''->Q (.bl<|gb i j) H'')->DI K CK CN CR CT CV CC ru x y H' Q E
inductive iV(K:W.Frag)(CK CN CR CT CV CC:QK):List V->Hp->VK->XK->Prop
 |mk (rw ru:QK) (xs:List V) (gb:Nat->Nat->Bool):N=[.ref rw,.ref ru]->Y rw=some (.lst xs)->xs.length<=100->Bf K CK CN CR CT CV CC Y ru xs gb->(∀l H',aB Y H'->iP H' l xs.length gb->M (.ref l) H')->iV K CK CN CR CT CV CC N Y M D
def NS(H:Hp)(t:QK)(n:Nat)(m:Nat->Nat->Bool):Prop:=(Bi n m/\∃l,H t=some (.tup [.str<|QQ "ranks",.ref l])/\H l=some (.lst<|(QL n).map λq=>V.int (cQ n m q:Nat)))∨AM H t n m
inductive pK(K:W.Frag)(CK CN CR CT CV CC:QK):List V->Hp->VK->XK->Prop
 |mk (rw ru:QK) (xs:List V) (gb:Nat->Nat->Bool):N=[.ref rw,.ref ru]->Y rw=some (.lst xs)->xs.length<=100->Bf K CK CN CR CT CV CC Y ru xs gb->(∀t H',aB Y H'->NS H' t xs.length gb->M (.ref t) H')->pK K CK CN CR CT CV CC N Y M D
theorem ES(h:n<=900000):n<sizeLine:=SY h<|by decide
noncomputable abbrev fA(rl ru:QK)(m:V)(n:Int)(tl:QK):List<|Q3×V:=[("told",.ref tl),("asked",.int n),("most",m),("rule",.ref ru),("row",.ref rl)]
inductive cE(CA:QK):List V->Hp->VK->XK->Prop
 |mk (x dx r:QK) (ru:QK) (m:V) (xs:List V):N=[.ref x,.ref r,.ref ru,m]->Y x=some (.ins CA dx [])->Y r=some (.lst xs)->(∀rl tl H',(∀b o,b≠x->Y b=some o->H' b=some o)->Y rl=none->Y tl=none->rl≠tl->bG H' x CA (fA rl ru m 0 tl)->H' rl=some (.lst xs)->H' tl=some (.lst [])->M .VA H')->cE CA N Y M D
inductive eP(CA:QK):List V->Hp->VK->XK->Prop
 |mk (a rl ru tl:QK) (m:V) (n:Int) (xs:List V):N=[.ref a]->bG Y a CA (fA rl ru m n tl)->Y rl=some (.lst xs)->M (.int xs.length) Y->eP CA N Y M D
inductive iA(CA:QK):List V->Hp->VK->XK->Prop
 |mk (a rl ru tl:QK) (m:V) (n:Int) (ts:List V):N=[.ref a]->bG Y a CA (fA rl ru m n tl)->Y tl=some (.lst ts)->(∀l H',aB Y H'->Y l=none->H' l=some (.lst ts)->M (.ref l) H')->iA CA N Y M D
structure aN where
 k:W.Frag
 ck:QK
 cn:QK
 cr:QK
 ct:QK
 cv:QK
 cc:QK
inductive bU(CA:QK)(R:aN):List V->Hp->VK->XK->Prop
 |mk (a rl ru tl:QK) (n p q:Int) (xs ts:List V) (x y:V) (b:Bool):N=[.ref a,.int p,.int q]->bG Y a CA (fA rl ru .VA n tl)->Y rl=some (.lst xs)->p≠q->0<=p->0<=q->xs[(max p q).toNat]?=some x->xs[(min p q).toNat]?=some y->(∀Q':VK,(∀H1,aB Y H1->Q' (.bl b) H1)->DI R.k R.ck R.cn R.cr R.ct R.cv R.cc ru x y Y Q' E0)->Y tl=some (.lst ts)->ts.length<=900000->(∀t H1 H2,aB Y H1->H1 t=none->bG H2 a CA (fA rl ru .VA (n+1) tl)->H2 tl=some (.lst<|ts++[.ref t])->H2 t=some (.tup [.int<|max p q,.int<|min p q,.bl b])->(∀c,c≠a->c≠tl->c≠t->H2 c=H1 c)->M (.bl<|if q<p then b else !b) H2)->bU CA R N Y M D
noncomputable abbrev QI(K:W.Frag)(a:QK)(M m:Int)(H:Hp)(Q:VK)(C:QK)(sp:Sp):Prop:=xo K (QQ "rule") (V.ref a) H λx H1=>L2.X3 λb dx fs=>x=V.ref b/\H1 b=some (.ins C dx fs)/\RH (QQ "before") fs=none/\
 xo K (QQ "row") (V.ref a) H1 λx1 H1=>mU K x1 (V.int M) H1 λx2 H1=>xo K (QQ "row") (V.ref a) H1 λx3 H1=>mU K x3 (V.int m) H1 λx4 H1=>sp [x,x2,x4] H1 Q E0
theorem zW{m:V}{n:Int}:∀f,(aO "told" (.ref tl)<|aO "asked" (.int n)<|aO "most" m<|aO "rule" (.ref ru)<|aO "row" (.ref rl) []).lookup f=(fA rl ru m n tl).lookup f:=λf=>by
 simp only[lS,lkc]
theorem zX{m:V}{n k:Int}:∀f,(aO "asked" (.int k)<|fA rl ru m n tl).lookup f=(fA rl ru m k tl).lookup f:=λf=>by
 rw[lS];by_cases h:f=("asked":Q3)
 .subst h;rw[Z9 rfl];exact(show RH _ (fA rl ru m k tl)=some (.int k) by walk_at "l").symm
 .simp only[lkc,h,if_false]
theorem AD{S:List QK}{fl:List<|Q3×V}(e:Fr S H H')(n:a∉S)(h:bG H a C fl):bG H' a C fl:=let ⟨dx,fs,h1,h2,h3⟩:=h.ex;⟨dx,fs,e _ _ n h1,h2,h3⟩
theorem HE{α β γ δ:Type}{M:α->β->γ->δ->Prop}(P:α->β->γ->δ->Prop){G:Prop}(h:(∀x y z u,P x y z u->M x y z u)->G)(t:∀x y z u,P x y z u->M x y z u):G:=h t
theorem FH{z:Type}(f:α->z)(l:List α)(k:Nat):(l.map f).eraseIdx k=(l.eraseIdx k).map f:=by
 rw[List.eraseIdx_eq_take_drop_succ,List.eraseIdx_eq_take_drop_succ,cF,Dx,Dv]
noncomputable def dJ(first j:Nat)(f:Bool):List Nat:=if f=true then(Q8 first (j-first)).reverse else Q8 first (j-first)
theorem nR(first j:Nat)(f:Bool):(dJ first j f).length=j-first:=by unfold dJ;split<;>simp
noncomputable abbrev nL(l:List Nat):List V:=l.map λ(x:Nat)=>V.int (x:Int)
theorem vF(l:List Nat):nL l=(l.map λ(x:Nat)=>(x:Int)).map V.int:=by rw[AO];rfl
theorem nW{lo hi:Nat}:(xE (lo:Int) (hi:Int)).map V.int=nL (Q8 lo<|hi-lo):=by
 refine S8 λi=>?_;unfold nL;rw[dB,dB];by_cases h:i<hi-lo
 .rw [List.getElem?_range' h,LL<|by lia];show some (V.int<|(lo:Int)+i)=some (V.int ((lo+1*i:Nat):Int));congr 2;lia
 .rw [wu<|by rw[JY];lia,wu<|by rw[Er];lia];rfl
inductive jC:List V->Hp->VK->XK->Prop
 |mk (first j:Nat) (f:Bool):N=[.int first,.int j,.bl f]->first<=1000->j<=1000->(∀l H',aB Y H'->Y l=none->H' l=some (.lst<|nL<|dJ first j f)->M (.ref l) H')->jC N Y M D
structure gY(H:Hp)(pr:List<|Nat×Nat×Bool)(ts:List V):Prop where
 len:ts.length=pr.length
 get:∀(j p q:Nat) (b:Bool),pr[j]?=some (p,q,b)->∃t,ts[j]?=some (V.ref t)/\H t=some (.tup [.int p,.int q,.bl b])
theorem gY.keep{pr:List<|Nat×Nat×Bool}(e:∀t x,H t=some (.tup x)->H' t=some (.tup x))(h:gY H pr ts):gY H' pr ts:=
 ⟨h.len,λj p q b z=>by
  obtain⟨t,a,b⟩:=h.get j p q b z;exact⟨t,a,e _ _ b⟩⟩
theorem gY.snoc{pr:List<|Nat×Nat×Bool}{p q:Nat}{b:Bool}{t:QK}(h:gY H pr ts)(O:H t=some (.tup [.int p,.int q,.bl b])):gY H (pr++[(p,q,b)])<|ts++[.ref t]:=by
 refine⟨by rw[aU,aU,h.len];rfl,λj U q' b' z=>?_⟩;by_cases hl:j<pr.length
 .rw [iE hl] at z;obtain⟨t',a,b⟩:=h.get j U q' b' z;exact⟨t',by rw[iE<|by rw[h.len];exact hl];exact a,b⟩
 .have e:=(cV.mp z).1;rw[aU] at e;have J:j=pr.length:=by have:([(p,q,b)]:List<|Nat×Nat×Bool).length=1:=rfl;lia
  subst J;rw[gI<|aL _,gN] at z;cases z;exact⟨t,by rw[<- h.len,gI<|aL _,gN];rfl,O⟩
structure Ad where
 n:Nat
 bf:Nat->Nat->Bool
 xs:List V
 a:QK
 rl:QK
 ru:QK
 tl:QK
 H0:Hp
variable {c:Ad}
noncomputable abbrev Ad.lg(c:Ad):QK:=c.tl
noncomputable abbrev Ad.S(c:Ad):List QK:=[c.a,c.lg,c.tl]
noncomputable def OV:=QK->Prop
instance:Membership QK OV:=⟨λs b=>s b⟩
noncomputable def Ad.A(c:Ad):OV:=λb=>b∈[c.a,c.tl,c.rl]∨(∃l,c.H0 b=some (.lst l))∨∃C d f,c.H0 b=some (.ins C d f)
noncomputable abbrev Ad.Ws(c:Ad)(bb:Bool):Nat->Nat->Nat->Bool:=λ_ p q=>cond bb (!c.bf p q)<|c.bf p q
noncomputable abbrev Ad.an(c:Ad):Nat->Nat->Nat->Bool:=c.Ws false
theorem Ad.SA{b:QK}(h:b∉c.A):b∉c.S:=λz=>h<|.inl (by
 rcases cL.mp z with z|z
 .rw [z];exact bH
 rcases cL.mp z with z|z
 .rw [z];exact bK _ bH
 .rw [bY.mp z];exact bK _ bH)
structure aH(CA:QK)(R:aN)(H:Hp)(c:Ad)(pr:List A3):Prop where
 ha:bG H c.a CA<|fA c.rl c.ru .VA pr.length c.tl
 VC:H c.rl=some (.lst c.xs)
 WO:∃ts,H c.tl=some (.lst ts)/\gY H pr ts
 len:c.xs.length=c.n
 base:bS c.H0 H
 new:c.H0 c.a=none/\c.H0 c.tl=none
 Yd:Bf R.k R.ck R.cn R.cr R.ct R.cv R.cc c.H0 c.ru c.xs c.bf
 ne:c.rl∉c.S
section
variable {CA:QK}{CR:aN}{H H':Hp}{c:Ad}{pr:List A3}
theorem aH.Yh(h:aH CA CR H c pr){b:QK}(z:b∈c.A):(∃l,H b=some (.lst l))∨∃C d f,H b=some (.ins C d f):=by
 obtain⟨ts,WO,_⟩:=h.WO;obtain⟨O,f1,J,_⟩:=h.ha.ex;rcases z with z|⟨l,z⟩|⟨C,d,f,z⟩
 .rcases cL.mp z with z|z
  .rw [z];exact .inr ⟨_,_,_,J⟩
  rcases cL.mp z with z|z
  .rw [z];exact .inl ⟨_,WO⟩
  .rw [bY.mp z];exact .inl ⟨_,h.VC⟩
 .exact .inl ⟨l,h.base _ _ (λ_ z=>by cases z) (λ_ z=>by cases z) z⟩
 .exact .inr ⟨C,d,f,h.base _ _ (λ_ z=>by cases z) (λ_ z=>by cases z) z⟩
theorem aH.tupS(h:aH CA CR H c pr){b:QK}(J:H b=some o)(n1:∀x,o≠.lst x)(n2:∀C d f,o≠.ins C d f):b∉c.A:=λz=>by
 rcases h.Yh z with ⟨l,e⟩|⟨C,d,f,e⟩
 .rw [e] at J;exact n1 _ (QR J).symm
 .rw [e] at J;exact n2 _ _ _ (QR J).symm
theorem aH.tup(h:aH CA CR H c pr)(f:Fr c.S H H'){b:QK}{x:List V}(J:H b=some (.tup x)):H' b=some (.tup x):=f _ _ (Ad.SA<|h.tupS J (λ_ z=>by cases z) λ_ _ _ z=>by cases z) J
theorem aH.off(h:aH CA CR H c pr)(hl:H l=none):l∉c.A:=λz=>by
 rcases h.Yh z with ⟨l,e⟩|⟨C,d,f,e⟩
 .rw [e] at hl;cases hl
 .rw [e] at hl;cases hl
theorem aH.free(h:aH CA CR H' c pr)(f:Fr c.S X H')(z:H' d=none):X d=none:=by
 cases e:X d with
 |none=>rfl
 |some o=>rw[f _ _ (Ad.SA<|h.off z) e] at z;cases z
theorem aH.but(h:aH CA CR H c pr)(e:∀b o,b∈c.A->H b=some o->H' b=some o)(t:∀b o,H b=some o->(∀x,o≠.lst x)->(∀C d f,o≠.ins C d f)->(∀k,o≠.dT k)->(∀t,o≠.tbl t)->H' b=some o):aH CA CR H' c pr:=by
 have ma:c.a∈c.A:=.inl bH;have mt:c.tl∈c.A:=.inl<|bK _ bH;have ml:c.rl∈c.A:=.inl<|bK _<|bK _ bH;obtain⟨dx,fs,h1,h2,h3⟩:=h.ha.ex;obtain⟨us,Z,U⟩:=h.WO;refine⟨⟨dx,fs,e _ _ ma h1,h2,h3⟩,e _ _ ml h.VC,⟨us,e _ _ mt Z,U.keep λb x O=>t _ _ O (λ_ z=>by cases z) (λ_ _ _ z=>by cases z) (λ_ z=>by cases z) λ_ z=>by cases z⟩,h.len,λb o n m O=>?_,h.new,h.Yd,h.ne⟩;have J:=h.base b o n m O;by_cases l1:∃x,o=.lst x
 .obtain ⟨x,rfl⟩:=l1;exact e _ _ (.inr<|.inl ⟨x,O⟩) J
 by_cases l2:∃C d f,o=.ins C d f
 .obtain ⟨C,d,f,rfl⟩:=l2;exact e _ _ (.inr<|.inr ⟨C,d,f,O⟩) J
 exact t _ _ J (λx z=>l1 ⟨x,z⟩) (λC d f z=>l2 ⟨C,d,f,z⟩) n m
theorem aH.mono(h:aH CA CR H c pr)(e:aB H H'):aH CA CR H' c pr:=h.but (λb o _ z=>e _ _ z) λb o z _ _ _ _=>e _ _ z
def Wr(H:Hp)(b:QK):Prop:=(∃l,H b=some (.lst l))∨(∃C d f,H b=some (.ins C d f))∨(∃k,H b=some (.dT k))∨H b=none
theorem aH.apart(h:aH CA CR H c pr){S:List QK}(e:Fr S H H')(hS:∀b∈S,Wr H b)(n:∀b∈S,b∉c.A):aH CA CR H' c pr:=
 h.but (λb o m z=>e _ _ (λy=>n b y m) z) λb o z n1 n2 J _=>e _ _ (λy=>by
  rcases hS b y with ⟨l,x⟩|⟨C,d,f,x⟩|⟨k,x⟩|x
  .rw [x] at z;exact n1 _ (QR z).symm
  .rw [x] at z;exact n2 _ _ _ (QR z).symm
  .rw [x] at z;exact J _ (QR z).symm
  .rw [x] at z;cases z) z
theorem zQ:Fr [l] H<|upd H l o:=λb o' n h=>by rw[bF λz=>n<|by rw[z];exact bH];exact h
theorem aH.upd(h:aH CA CR H c pr){l:QK}{us:List V}{o:HO}(hl:H l=some (.lst us))(n:l∉c.A):aH CA CR (upd H l o) c pr:=
 h.apart (S:=[l]) zQ (λb z=>by rw[bY.mp z];exact .inl ⟨_,hl⟩) λb z=>by rw[bY.mp z];exact n
theorem aH.WM(h:aH CA CR H c pr){p q:Nat}(ah:min p q<max p q)(af:max p q<c.n)(ag:pr.length<=800000)
  (fin:∀H',Fr c.S H H'->aH CA CR H' c (pr++[(max p q,min p q,c.an 0 (max p q)<|min p q)])->Q (.bl<|if q<p then c.an 0 (max p q) (min p q) else !c.an 0 (max p q) (min p q)) H'):bU CA CR [.ref c.a,.int p,.int q] H Q E0:=by
 obtain⟨ts,WO,U⟩:=h.WO;have ai:=h.len;have ab:(max (p:Int) q).toNat=max p q:=by lia
 have ae:(min (p:Int) q).toNat=min p q:=by lia
 have hx:=bV (l:=c.xs) (i:=max p q) (by lia);have hy:=bV (l:=c.xs) (i:=min p q) (by lia);refine⟨c.a,c.rl,c.ru,c.tl,_,p,q,c.xs,ts,_,_,c.bf (max p q)<|min p q,rfl,h.ha,h.VC,by lia,by lia,by lia,by rw[ab];exact hx,by rw[ae];exact hy,λQ' k=>h.Yd _ _ _ _ hx hy H Q' E0 h.base k,WO,by rw[U.len];lia,λt H1 H2 s1 ac ad Z O k2=>?_⟩;have eb:c.bf (max p q) (min p q)=c.an 0 (max p q) (min p q):=rfl;rw[eb] at O⊢;clear eb;generalize c.an 0 (max p q) (min p q)=b at fin O⊢;have fr:Fr c.S H H2:=λd o n J=>by
  have m1:d≠c.a:=λz=>n (by rw[z];exact bH);have m3:d≠c.tl:=λz=>n (by rw[z];exact bK _<|bK _ bH);have e1:=s1 _ _ J;rw[k2 d m1 m3<|bR e1 ac];exact e1
 have tk:∀b x,H b=some (.tup x)->H2 b=some (.tup x):=λb x J=>h.tup fr J;have aa:H2 t=some (.tup [.int ((max p q:Nat):Int),.int ((min p q:Nat):Int),.bl b]):=by
  rw[show(((max p q:Nat):Int))=max (p:Int) q by lia,show(((min p q:Nat):Int))=min (p:Int) q by lia];exact O
 have st:aH CA CR H2 c<|pr++[(max p q,min p q,b)]:=⟨by rw[aU];exact ad,fr _ _ h.ne h.VC,⟨_,Z,(U.keep tk).snoc aa⟩,h.len,λd o n m J=>fr _ _ (λz=>by
  rcases cL.mp z with z|z
  .rw [z,h.new.1] at J;cases J
  rcases cL.mp z with z|z
  .rw [z,h.new.2] at J;cases J
  .rw [bY.mp z,h.new.2] at J;cases J)<|h.base d o n m J,h.new,h.Yd,h.ne⟩
 have g':=fin H2 fr st;by_cases VH:q<p
 .rw [Z9 VH] at g';rw[Z9<|by lia];exact g'
 .rw [Z8 VH] at g';rw[Z8<|by lia];exact g'
theorem aH.ahead(h:aH CA CR H c pr){p q:Nat}(z:c.n<=1000){k:Bool->Pg α}{post:α->List A3->Prop}(w:Wp c.n c.an (VY p q k) pr post)
  (fin:∀b H' pr',Fr c.S H H'->aH CA CR H' c pr'->Wp c.n c.an (k b) pr' post->Q (.bl b) H'):bU CA CR [.ref c.a,.int p,.int q] H Q E0:=by
 obtain⟨h1,h2,h3,w⟩:=w;exact h.WM h1 h2 h3 λH' f s=>fin _ H' _ f s w
end
theorem C3{p q:Nat}{k:Bool->Pg α}{P:α->Prop}(h:∀b,(k b).Al P):(VY p q k).Al P:=λb=>h _
theorem oZ(h:n<=1000):n<sizeLine:=SY h<|by decide
theorem KQ{os:List Nat}{r pl:Nat}(h:r<=os.length):uz (nL os) (r:Int) (.int pl)=nL (lY os r pl):=by
 unfold uz lY nL;dsimp only;rw[Z8<|by lia,Int.toNat_natCast,aM,xQ h,cF,iT,Dx,Dv]
theorem wc{os:List Nat}{o:Nat}(h:os[m]?=some o):dX (nL os) (m:Int)=some (.int o):=cK (by lia)<|by rw[Int.toNat_natCast,dB,h];rfl
theorem sF{os:List Nat}{pl:Nat}:∀(m lo hi:Nat),lo<=os.length->(pZ os pl m lo hi).Al λr=>r.1<=os.length
 |0,lo,hi,h=>h
 |m+1,lo,hi,h=>by
  rw[pZ];by_cases z:hi<os.length
  .rw [Z9 z];refine C3 λb=>?_;split
   .exact sF m (hi+1) (2*hi+1) (by lia)
   .exact h
  .rw [Z8 z];exact h
theorem Ld{os:List Nat}{pl:Nat}:∀(m lo hi:Nat),(iO os pl m lo hi).Al λr=>r<=hi
 |0,lo,hi=>aL _
 |m+1,lo,hi=>by
  rw[iO];by_cases z:lo<hi
  .rw [Z9 z];refine C3 λb=>?_;split
   .exact Ld m _ hi
   .exact (Ld m lo _).imp λa h=>by lia
  .rw [Z8 z];exact aL _
theorem Lj(os:List Nat)(pl:Nat):(GQ os pl).Al λr=>r<=os.length:=
 Pg.Al.bind<|(sF os.length 0 0<|dU _).imp λr _=>(Ld os.length r.1<|min r.2 os.length).imp λa h=>by lia
theorem KP{os:List Nat}{pl:Nat}:∀(m lo hi:Nat),lo<=hi->(AS os pl m lo hi).Al λr=>r<=hi
 |0,lo,hi,h=>h
 |m+1,lo,hi,h=>by
  rw[AS];by_cases z:lo<hi
  .rw [Z9 z];refine C3 λb=>?_;split
   .exact KP m _ hi (by lia)
   .exact (KP m lo _<|by lia).imp λa h=>by lia
  .rw [Z8 z];exact h
theorem Lx(os:List Nat)(pl:Nat):(Az os pl).Al λr=>r<=os.length:=KP _ _ _<|dU _
inductive lL(CA:QK)(CR:aN):List V->Hp->VK->XK->Prop
 |mk (c:Ad) (pr:List A3) (ol:QK) (os:List Nat) (f pl:Nat) (post:Nat->List A3->Prop):N=[.ref c.a,.ref ol,.int f,.int pl]->aH CA CR Y c pr->Y ol=some (.lst<|nL os)->ol∉c.S->f<=os.length->c.n<=1000->Wp c.n c.an (GQ (os.drop f) pl) pr post->(∀r H' pr',Fr c.S Y H'->aH CA CR H' c pr'->post r pr'->M (.int (r:Nat)) H')->lL CA CR N Y M D
theorem sE{os:List Nat}{f:Nat}(h:i<(os.drop f).length):os[f+i]?=some ((os.drop f).getD i 0):=by
 have:=(qD h).1;rw[List.getElem?_drop] at this;exact this
inductive iW(CA:QK)(CR:aN):List V->Hp->VK->XK->Prop
 |mk (c:Ad) (pr:List A3) (os:List Nat) (pl:Nat) (ol:QK) (post:Nat->List A3->Prop):N=[.ref c.a,.ref ol,.int pl]->aH CA CR Y c pr->Y ol=some (.lst<|nL os)->ol∉c.S->c.n<=1000->Wp c.n c.an (Az os pl) pr post->(∀r H' pr',Fr c.S Y H'->aH CA CR H' c pr'->post r pr'->M (.int (r:Nat)) H')->iW CA CR N Y M D
inductive pI(CA:QK)(CR:aN):List V->Hp->VK->XK->Prop
 |mk (c:Ad) (pr:List A3) (first stop:Nat) (post:Nat×Bool->List A3->Prop):N=[.ref c.a,.int first,.int stop]->aH CA CR Y c pr->c.n<=1000->Wp c.n c.an (uh stop first) pr post->(∀t H' r pr',Fr c.S Y H'->aH CA CR H' c pr'->H' t=some (.tup [.int (r.1:Nat),.bl r.2])->post r pr'->M (.ref t) H')->pI CA CR N Y M D
inductive lO(CA:QK)(CR:aN):List V->Hp->VK->XK->Prop
 |mk (c:Ad) (pr:List A3) (first ls stop:Nat) (post:Nat×List Nat->List A3->Prop):N=[.ref c.a,.int first,.int ls,.int stop]->aH CA CR Y c pr->c.n<=1000->first<stop->stop<=600->Wp c.n c.an (Jc ls stop first) pr post->(∀t ol H' r pr',Fr c.S Y H'->Y ol=none->aH CA CR H' c pr'->H' t=some (.tup [.int (r.1:Nat),.ref ol])->H' ol=some (.lst<|nL r.2)->post r pr'->M (.ref t) H')->lO CA CR N Y M D
theorem rB{stop f:Nat}(fal:Bool):∀(m j:Nat),f<j->j<=stop->(pW stop fal m j).Al λr=>f<r.1/\r.1<=stop
 |0,j,h1,h2=>⟨h1,h2⟩
 |m+1,j,h1,h2=>by
  rw[pW];by_cases z:j<stop
  .rw [Z9 z];refine C3 λb=>?_;split
   .exact rB fal m (j+1) (by lia) (by lia)
   .exact ⟨h1,h2⟩
  .rw [Z8 z];exact⟨h1,h2⟩
theorem qU{stop f:Nat}(h:f<stop):(uh stop f).Al λr=>f<r.1/\r.1<=stop:=by
 unfold uh;by_cases z:f+1<stop
 .rw [Z9 z];refine C3 λb=>?_;exact rB _ stop (f+2) (by lia)<|by lia
 .rw [Z8 z];exact⟨Bl _,by lia⟩
theorem uW(a b:Nat)(f:Bool):Pw.dJ a b f=dJ a b f:=rfl
theorem Jg{M:α->Prop}(P:α->Prop){G:Prop}(h:(∀x,P x->M x)->G)(t:∀x,P x->M x):G:=h t
noncomputable abbrev fJ(ak sd tk pc:QK):List<|Q3×V:=[("places",.ref pc),("taken",.ref tk),("sides",.ref sd),("asker",.ref ak)]
noncomputable def pk{α:Type}(b:Bool)(x y:α):List α:=if b then[x,y] else[y,x]
noncomputable def sv(b:Bool):Int:=if b then 0 else 1
theorem AX{b:Bool}{x:V}:dX (pk b x y) (sv b)=some x:=by cases b<;>exact cK (by decide) rfl
theorem vt{b:Bool}{x y:α}:pk (!b) y x=pk b x y:=by cases b<;>rfl
theorem E4{b:Bool}{x y:α}:(pk b x y).length=2:=by cases b<;>rfl
theorem E3{b:Bool}{x:V}:(pk b x y).set (sv b).toNat v=pk b v y:=by cases b<;>rfl
structure JS(CJ:QK)(H:Hp)(b:Bool)(jn ak sd ma ta tk pc:QK)(ms ts:List Nat)(i j:Nat)(dn:List Nat):Prop where
 hj:bG H jn CJ<|fJ ak sd tk pc
 WQ:H sd=some (.tup<|pk b (.ref ma)<|.ref ta)
 W9:H ma=some (.lst<|nL ms)
 XZ:H ta=some (.lst<|nL ts)
 VQ:H tk=some (.lst<|pk b (.int i)<|.int j)
 WU:H pc=some (.lst<|nL dn)
 ne:tk≠pc/\ma≠tk/\ma≠pc/\ta≠tk/\ta≠pc
section
variable {b:Bool}{ms ts:List Nat}
theorem JS.swap(h:JS CJ H b jn ak sd ma ta tk pc ms ts i j dn):JS CJ H (!b) jn ak sd ta ma tk pc ts ms j i dn:=
 ⟨h.hj,by rw[vt];exact h.WQ,h.XZ,h.W9,by rw[vt];exact h.VQ,h.WU,h.ne.1,h.ne.2.2.2.1,h.ne.2.2.2.2,h.ne.2.1,h.ne.2.2.1⟩
theorem JS.keep{dn':List Nat}(h:JS CJ H b jn ak sd ma ta tk pc ms ts i j dn)(e:Fr [tk,pc] H H')(h1:H' tk=some (.lst<|pk b (.int n)<|.int L))(h2:H' pc=some (.lst<|nL dn')):JS CJ H' b jn ak sd ma ta tk pc ms ts n L dn':=by
 have n2:∀{x:QK},x≠tk->x≠pc->x∉[tk,pc]:=λa b z=>(cL.mp z).elim a λz=>b<|bY.mp z;have hj:jn∉[tk,pc]:=n2 (Q4<|h.hj.ne h.VQ λ_ _ _ z=>by cases z) (Q4<|h.hj.ne h.WU λ_ _ _ z=>by cases z);have U:sd∉[tk,pc]:=n2 (λz=>by have:=h.WQ;rw[z,h.VQ] at this;cases this) (λz=>by have:=h.WQ;rw[z,h.WU] at this;cases this);exact⟨AD e hj h.hj,e _ _ U h.WQ,e _ _ (n2 h.ne.2.1 h.ne.2.2.1) h.W9,e _ _ (n2 h.ne.2.2.2.1 h.ne.2.2.2.2) h.XZ,h1,h2,h.ne⟩
theorem JS.fr{S:List QK}(h:JS CJ H b jn ak sd ma ta tk pc ms ts i j dn)(e:Fr S H H')(n:jn∉S/\sd∉S/\ma∉S/\ta∉S/\tk∉S/\pc∉S):JS CJ H' b jn ak sd ma ta tk pc ms ts i j dn:=
 ⟨AD e n.1 h.hj,e _ _ n.2.1 h.WQ,e _ _ n.2.2.1 h.W9,e _ _ n.2.2.2.1 h.XZ,e _ _ n.2.2.2.2.1 h.VQ,e _ _ n.2.2.2.2.2 h.WU,h.ne⟩
theorem JS.mono(h:JS CJ H b jn ak sd ma ta tk pc ms ts i j dn)(e:aB H H'):JS CJ H' b jn ak sd ma ta tk pc ms ts i j dn:=
 h.fr (S:=[]) e.fr ⟨mK,mK,mK,mK,mK,mK⟩
end
inductive lM(CJ:QK):List V->Hp->VK->XK->Prop
 |mk (x dx ak al ar:QK) (ls rs:List Nat):N=[.ref x,.ref ak,.ref al,.ref ar]->Y x=some (.ins CJ dx [])->Y al=some (.lst<|nL ls)->Y ar=some (.lst<|nL rs)->(∀sd la ra tk pc H',(∀b o,b≠x->Y b=some o->H' b=some o)->Y sd=none->Y la=none->Y ra=none->Y tk=none->Y pc=none->JS CJ H' true x ak sd la ra tk pc ls rs 0 0 []->M .VA H')->lM CJ N Y M D
inductive fC(CJ:QK):List V->Hp->VK->XK->Prop
 |mk (b:Bool) (jn ak sd ma ta tk pc:QK) (ms ts:List Nat) (i j:Nat) (dn:List Nat):N=[.ref jn,.int<|sv b]->JS CJ Y b jn ak sd ma ta tk pc ms ts i j dn->M (.bl<|decide<|i<ms.length) Y->fC CJ N Y M D
inductive jE(CJ:QK):List V->Hp->VK->XK->Prop
 |mk (b:Bool) (jn ak sd ma ta tk pc:QK) (ms ts:List Nat) (i j:Nat) (dn:List Nat) (x:Nat):N=[.ref jn,.int<|sv b]->JS CJ Y b jn ak sd ma ta tk pc ms ts i j dn->ms[i]?=some x->M (.int x) Y->jE CJ N Y M D
inductive eT(CJ:QK):List V->Hp->VK->XK->Prop
 |mk (b:Bool) (jn ak sd ma ta tk pc:QK) (ms ts:List Nat) (i j:Nat) (dn:List Nat) (m:Nat):N=[.ref jn,.int<|sv b,.int m]->JS CJ Y b jn ak sd ma ta tk pc ms ts i j dn->i+m<=ms.length->dn.length+ms.length<=1000->(∀H',Fr [tk,pc] Y H'->JS CJ H' b jn ak sd ma ta tk pc ms ts (i+m) j (dn++(ms.drop i).take m)->M .VA H')->eT CJ N Y M D
inductive fK(CJ:QK):List V->Hp->VK->XK->Prop
 |mk (b:Bool) (jn ak sd ma ta tk pc:QK) (ms ts:List Nat) (i j:Nat) (dn:List Nat):N=[.ref jn,.int<|sv b]->JS CJ Y b jn ak sd ma ta tk pc ms ts i j dn->i<=ms.length->dn.length+ms.length<=1000->(∀H',Fr [tk,pc] Y H'->JS CJ H' b jn ak sd ma ta tk pc ms ts ms.length j (dn++ms.drop i)->M .VA H')->fK CJ N Y M D
theorem zR{S z:List QK}(h:Fr S H H')(k:∀b∈S,b∈z):Fr z H H':=λb o n J=>h b o (λm=>n<|k b m) J
theorem FF(h:Fr [a,f,tl] H H'):Fr [a,f,tl,tk,pc] H H':=zR h λb J=>by
 rcases cL.mp J with z|z
 .rw [z];exact bH
 rcases cL.mp z with z|z
 .rw [z];exact bK _ bH
 .rw [bY.mp z];exact bK _<|bK _ bH
theorem xp(h:Fr [tk,pc] H H'):Fr [a,f,tl,tk,pc] H H':=zR h λb z=>bK _<|bK _<|bK _ z
structure NX(c:Ad)(jn sd ma ta tk pc:QK):Prop where
 n1:jn∉c.A/\sd∉c.A/\ma∉c.A/\ta∉c.A/\tk∉c.A/\pc∉c.A
theorem NX.swap(h:NX c jn sd ma ta tk pc):NX c jn sd ta ma tk pc:=⟨⟨h.n1.1,h.n1.2.1,h.n1.2.2.2.1,h.n1.2.2.1,h.n1.2.2.2.2⟩⟩
theorem JS.XD{b:Bool}{ms ts:List Nat}(h:JS CJ H b jn ak sd ma ta tk pc ms ts i j dn)(nx:NX c jn sd ma ta tk pc)(f:Fr c.S H H'):JS CJ H' b jn ak sd ma ta tk pc ms ts i j dn:=
 h.fr f ⟨Ad.SA nx.n1.1,Ad.SA nx.n1.2.1,Ad.SA nx.n1.2.2.1,Ad.SA nx.n1.2.2.2.1,Ad.SA nx.n1.2.2.2.2.1,Ad.SA nx.n1.2.2.2.2.2⟩
theorem aH.Wz{CR:aN}{b:Bool}{ms ts:List Nat}(s:aH CA CR H c pr)(h:JS CJ H b jn ak sd ma ta tk pc ms ts i j dn)(nx:NX c jn sd ma ta tk pc)(f:Fr [tk,pc] H H'):aH CA CR H' c pr:=
 s.apart f (λx J=>by
  rcases cL.mp J with z|z
  .rw [z];exact .inl ⟨_,h.VQ⟩
  .rw [bY.mp z];exact .inl ⟨_,h.WU⟩) λx J=>by
  rcases cL.mp J with z|z
  .rw [z];exact nx.n1.2.2.2.2.1
  .rw [bY.mp z];exact nx.n1.2.2.2.2.2
theorem Gh{os:List Nat}{x:Nat}(h:os[i]?=some x):os.drop i=x::os.drop (i+1):=by
 obtain⟨h1,h2⟩:=cV.mp h;rw[yc h1,h2]
theorem Ly{os:List Nat}{x:Nat}(h:os[i]?=some x):(os.drop i).take 1=[x]:=by
 rw[Gh h];rfl
theorem CF{D:Ends}{x y:Option V}{z J:Int}{c:Prop}[Decidable c](h:∀o:Int,(c/\o=z)∨(¬ c/\o=J)->P D [x,y,some<|.int o] H):if c then P D [x,y,some<|.int z] H else P D [x,y,some<|.int J] H:=by
 split
 .rename_i h1;exact h z<|.inl ⟨h1,rfl⟩
 .rename_i h1;exact h J<|.inr ⟨h1,rfl⟩
theorem HD(P:Prop){M G:Prop}(h:(P->M)->G)(t:P->M):G:=h t
inductive pG(CA:QK)(CR:aN)(CJ:QK):List V->Hp->VK->XK->Prop
 |mk (c:Ad) (pr:List A3) (jn sd la ra tk pc:QK) (ls rs dn:List Nat) (i j x y:Nat) (k:Bool->Pg (List Nat)) (post:List Nat->List A3->Prop):N=[.ref jn]->aH CA CR Y c pr->JS CJ Y true jn c.a sd la ra tk pc ls rs i j dn->NX c jn sd la ra tk pc->ls[i]?=some x->rs[j]?=some y->c.n<=1000->dn.length+ls.length<=1000->dn.length+rs.length<=1000->Wp c.n c.an (VY x y k) pr post->(∀b H' pr',Fr [c.a,c.lg,c.tl,tk,pc] Y H'->aH CA CR H' c pr'->JS CJ H' true jn c.a sd la ra tk pc ls rs (if b then i+1 else i) (if b then j else j+1) (dn++[if b then x else y])->Wp c.n c.an (k b) pr' post->M (.int<|sv b) H')->pG CA CR CJ N Y M D
inductive hV(CA:QK)(CR:aN)(CJ:QK):List V->Hp->VK->XK->Prop
 |mk (c:Ad) (pr:List A3) (jn sd ma ta tk pc:QK) (b:Bool) (ms ts dn:List Nat) (i j y:Nat) (post:Nat->List A3->Prop):N=[.ref jn,.int<|sv b]->aH CA CR Y c pr->JS CJ Y b jn c.a sd ma ta tk pc ms ts i j dn->NX c jn sd ma ta tk pc->ts[j]?=some y->i<=ms.length->c.n<=1000->dn.length+ms.length+ts.length<=1000->Wp c.n c.an (GQ (ms.drop i) y) pr post->(∀k H' pr',Fr [c.a,c.lg,c.tl,tk,pc] Y H'->aH CA CR H' c pr'->i+k<=ms.length->JS CJ H' b jn c.a sd ma ta tk pc ms ts (i+k) (if i+k<ms.length then j+1 else j) (dn++(ms.drop i).take k++if i+k<ms.length then[y] else[])->post k pr'->M .VA H')->hV CA CR CJ N Y M D
inductive fB(CA:QK)(CR:aN):List V->Hp->VK->XK->Prop
 |mk (c:Ad) (pr:List A3) (al ar:QK) (ls rs:List Nat) (post:List Nat->List A3->Prop):N=[.ref c.a,.ref al,.ref ar]->aH CA CR Y c pr->Y al=some (.lst<|nL ls)->Y ar=some (.lst<|nL rs)->c.n<=1000->ls.length+rs.length<=500->Wp c.n c.an (IA ls rs) pr post->(∀l H' ps pr',Fr c.S Y H'->Y l=none->H' l=some (.lst<|nL ps)->aH CA CR H' c pr'->post ps pr'->M (.ref l) H')->fB CA CR N Y M D
theorem EO{a b:Bool}(h:sv a=sv b):a=b:=by revert h;cases a<;>cases b<;>intro h<;>first|rfl|cases h
theorem zy{N:Nat}{An:Nat->Nat->Nat->Bool}{w:Nat}{s:Bool}{ls:List Nat}{post:List Nat->List A3->Prop}(h:¬ (i<ls.length/\j<gs.length))(hi:i<=ls.length)(J:j<=gs.length)(hw:Wp N An (wb n s w (ls.drop i) (gs.drop j) dn) pr post):post (dn++ls.drop i++gs.drop j) pr:=by
 by_cases z:i<ls.length
 .have e:gs.drop j=[]:=RU (by lia);rw[e] at hw⊢;cases n with
  |zero=>exact hw
  |succ n=>
   cases e2:ls.drop i with
   |nil=>rw[e2] at hw;exact hw
   |cons x l=>rw[e2] at hw;exact hw
 .have e:ls.drop i=[]:=RU (by lia);rw[e] at hw⊢;cases n with
  |zero=>exact hw
  |succ n=>exact hw
noncomputable abbrev AU(a:QK)(ls s e r:Int)(fs od gr:QK):List<|Q3×V:=[("grades",.ref gr),("orders",.ref od),("firsts",.ref fs),("reached",.int r),("end",.int e),("start",.int s),("least",.int ls),("asker",.ref a)]
theorem sJ{ls s e r r':Int}:∀f,(aO "reached" (.int r')<|AU a ls s e r CT od gr).lookup f=(AU a ls s e r' CT od gr).lookup f:=λf=>by
 rw[lS];by_cases h:f=("reached":Q3)
 .subst h;rw[Z9 rfl];exact(show RH _ (AU a ls s e r' CT od gr)=some (.int r') by walk_at "l").symm
 .simp only[lkc,h,if_false]
noncomputable def bB:List (Nat×List Nat)->Nat->Nat
 |[],r=>r
 |p::_,_=>p.1
theorem yl{l:List α}(h:2<=l.length):∃A x y,l=A++[x,y]:=by
 refine⟨l.take<|l.length-2,l[l.length-2],l[l.length-1],?_⟩;have z:l.drop (l.length-2)=[l[l.length-2],l[l.length-1]]:=by
  rw[yc<|by lia,show l.length-2+1=l.length-1 by lia,yc<|by lia,show l.length-1+1=l.length by lia,Tf]
 rw[<- z,xP]
def bI(H:Hp):List QK->List (Nat×List Nat)->Prop
 |[],[]=>True
 |b::bs,p::ps=>H b=some (.lst<|nL p.2)/\bI H bs ps
 |_,_=>False
theorem bI.len{H:Hp}:∀{oa:List QK} {ps:List<|Nat×List Nat},bI H oa ps->oa.length=ps.length
 |[],[],_=>rfl
 |b::bs,p::ps,h=>by rw[cP,cP,bI.len h.2]
 |[],p::ps,h=>h.elim
 |b::bs,[],h=>h.elim
theorem bI.keep{H H':Hp}:∀{oa:List QK} {ps:List<|Nat×List Nat},bI H oa ps->(∀b∈oa,∀o,H b=some o->H' b=some o)->bI H' oa ps
 |[],[],_,_=>trivial
 |b::bs,p::ps,h,e=>⟨e b bH _ h.1,bI.keep h.2 λc hc=>e c<|bK _ hc⟩
 |[],p::ps,h,_=>h.elim
 |b::bs,[],h,_=>h.elim
theorem bI.split{H:Hp}:∀{P:List<|Nat×List Nat} {oa:List QK} {Q:List<|Nat×List Nat},bI H oa (P++Q)->∃A B,oa=A++B/\A.length=P.length/\bI H A P/\bI H B Q
 |[],oa,Q,h=>⟨[],oa,rfl,rfl,trivial,h⟩
 |p::P,[],Q,h=>h.elim
 |p::P,b::bs,Q,h=>by
  obtain⟨A,B,z,e2,e3,e4⟩:=bI.split (P:=P) h.2;exact⟨b::A,B,by rw[z];rfl,by rw[cP,cP,e2],⟨h.1,e3⟩,e4⟩
theorem bI.app{H:Hp}:∀{P:List<|Nat×List Nat} {A B:List QK} {Q:List<|Nat×List Nat},bI H A P->bI H B Q->bI H (A++B) (P++Q)
 |[],[],B,Q,_,h=>h
 |p::P,[],B,Q,h,_=>h.elim
 |[],b::bs,B,Q,h,_=>h.elim
 |p::P,b::bs,B,Q,h,h'=>⟨h.1,bI.app h.2 h'⟩
theorem bI.get{H:Hp}:∀{ps:List<|Nat×List Nat} {oa:List QK} {i:Nat} {b:QK},bI H oa ps->oa[i]?=some b->∃p,ps[i]?=some p/\H b=some (.lst<|nL p.2)
 |[],[],i,b,_,e=>by simp at e
 |p::P,[],i,b,h,_=>h.elim
 |[],c::bs,i,b,h,_=>h.elim
 |p::P,c::bs,0,b,h,e=>by cases e;exact⟨p,rfl,h.1⟩
 |p::P,c::bs,i+1,b,h,e=>by
  obtain⟨z,a1,a2⟩:=bI.get (ps:=P) (oa:=bs) (i:=i) h.2 (by simpa using e);exact⟨z,by simpa using a1,a2⟩
theorem bI.two{A B:List<|Nat×List Nat}{U p2:Nat×List Nat}(h:bI H oa<|A++U::p2::B):∃J z O OB,oa=J++z::O::OB/\J.length=A.length/\bI H J A/\H z=some (.lst<|nL U.2)/\H O=some (.lst<|nL p2.2)/\bI H OB B:=by
 obtain⟨J,R,Z,e2,e3,e4⟩:=h.split
 match R,e4 with
 |z::O::OB,e4=>exact⟨J,z,O,OB,Z,e2,e3,e4.1,e4.2.1,e4.2.2⟩
 |[z],e4=>exact e4.2.elim
 |[],e4=>exact e4.elim
theorem tD{b:QK}(h:oa[m]?=some b):dX (oa.map V.ref) (m:Int)=some (.ref b):=cK (by lia)<|by rw[Int.toNat_natCast,dB,h];rfl
theorem JF(X:List α)(x:α)(Y:List α):(X++x::Y)[X.length]?=some x:=by rw[gI<|aL _,gN];rfl
theorem Iz(X:List α)(x y:α)(Y:List α):(X++x::y::Y)[X.length+1]?=some y:=by rw[gI<|by lia,Gy];rfl
theorem BB(X:List α)(x y:α)(Y:List α):(X++x::Y).set X.length y=X++y::Y:=by rw[List.set_append_right _ _<|aL _,gN];rfl
theorem vT(X:List α)(x y:α)(Y:List α):(X++x::y::Y).eraseIdx (X.length+1)=X++x::Y:=by rw[List.eraseIdx_append_of_length_le<|by lia,Gy];rfl
theorem FR{l:List V}{x:V}:dX (l++[x,y]) (-2)=some x:=by
 unfold dX zB;rw[aU,show([x,y]:List V).length=2 from rfl,Z8<|by decide,Z9<|by lia,show((-2:Int)+((l.length+2:Nat):Int)).toNat=l.length by lia];exact JF l x [y]
theorem Ax{l:List V}:dX (l++[y]) (-1)=some y:=by
 unfold dX zB;rw[aU,show([y]:List V).length=1 from rfl,Z8<|by decide,Z9<|by lia,show((-1:Int)+((l.length+1:Nat):Int)).toNat=l.length by lia];exact JF l y []
structure bE(CP:QK)(H:Hp)(x a fs od gr:QK)(ls s e r:Nat)(oa:List QK)(ps:List<|Nat×List Nat)(gs:List Nat):Prop where
 hp:bG H x CP<|AU a ls s e r fs od gr
 WE:H fs=some (.lst<|nL<|ps.map Rp)
 WD:H od=some (.lst<|oa.map V.ref)
 Xa:H gr=some (.lst<|nL gs)
 WR:bI H oa ps
 ne:fs≠od/\fs≠gr/\od≠gr
 nb:∀b∈oa,b∉[fs,od,gr]
section
variable {fs:QK}{s r:Nat}{ps:List (Nat×List Nat)}
theorem bE.fr{S:List QK}(h:bE CP H x a fs od gr ls s e r oa ps gs)(f:Fr S H H')(n:x∉S/\fs∉S/\od∉S/\gr∉S)(n2:∀b∈oa,b∉S):bE CP H' x a fs od gr ls s e r oa ps gs:=
 ⟨AD f n.1 h.hp,f _ _ n.2.1 h.WE,f _ _ n.2.2.1 h.WD,f _ _ n.2.2.2 h.Xa,h.WR.keep λb z o=>f b o<|n2 b z,h.ne,h.nb⟩
theorem bE.mono(h:bE CP H x a fs od gr ls s e r oa ps gs)(f:aB H H'):bE CP H' x a fs od gr ls s e r oa ps gs:=h.fr (S:=[]) f.fr ⟨mK,mK,mK,mK⟩ λ_ _=>mK
theorem bE.WA(h:bE CP H x a fs od gr ls s e r oa ps gs):∀c∈[fs,od,gr],∃l,H c=some (.lst l):=λc hc=>by
 rcases cL.mp hc with z|z
 .rw [z];exact⟨_,h.WE⟩
 rcases cL.mp z with z|z
 .rw [z];exact⟨_,h.WD⟩
 .rw [bY.mp z];exact⟨_,h.Xa⟩
theorem bE.xl(h:bE CP H x a fs od gr ls s e r oa ps gs):x∉[fs,od,gr]:=λz=>by
 obtain⟨l,hl⟩:=h.WA x z;exact h.hp.ne hl (λ_ _ _ z=>by cases z) rfl
end
inductive fM(CA CP:QK):List V->Hp->VK->XK->Prop
 |mk (x dx a:QK) (ls s e:Nat) (pz:V):N=[.ref x,.ref a,.int ls,pz]->Y x=some (.ins CP dx [])->((∃pt,pz=.ref pt/\Y pt=some (.tup [.int s,.int e]))∨(pz=.VA/\s=0/\a≠x/\∃rl ru m n tl xs,bG Y a CA (fA rl ru m n tl)/\Y rl=some (.lst xs)/\xs.length=e))->(∀fs od gr H',(∀b o,b≠x->Y b=some o->H' b=some o)->Y fs=none->Y od=none->Y gr=none->bE CP H' x a fs od gr ls s e s [] [] []->M .VA H')->fM CA CP N Y M D
inductive fU(CP:QK):List V->Hp->VK->XK->Prop
 |mk (x a fs od gr:QK) (ls s e r:Nat) (oa:List QK) (A:List<|Nat×List Nat) (p:Nat×List Nat) (B:List<|Nat×List Nat) (gs:List Nat):N=[.ref x,.int (A.length:Nat)]->bE CP Y x a fs od gr ls s e r oa (A++p::B) gs->M (.int (bB B r:Nat)) Y->fU CP N Y M D
inductive vb(CP:QK):List V->Hp->VK->XK->Prop
 |mk (x a fs od gr:QK) (ls s e r:Nat) (oa:List QK) (ps:List<|Nat×List Nat) (gs:List Nat):N=[.ref x]->bE CP Y x a fs od gr ls s e r oa ps gs->M (.bl<|nE gs) Y->vb CP N Y M D
inductive lJ(CP:QK):List V->Hp->VK->XK->Prop
 |mk (x a fs od gr:QK) (ls s e r:Nat) (oa:List QK) (A:List<|Nat×List Nat) (p:Nat×List Nat) (gs:List Nat) (m b:Nat):N=[.ref x,.int m,.int b]->bE CP Y x a fs od gr ls s e r oa (A++[p]) gs->s<=p.1->p.1<m->m<b->b<=e->e<=500->(∀g:Nat,Gr.IsG ((e:Int)-s) (((p.1:Int)-s)+((m:Int)-s)) (((m:Int)-s)+((b:Int)-s)) g->g<=240->M (.int g) Y)->lJ CP N Y M D
inductive lI(CP:QK):List V->Hp->VK->XK->Prop
 |mk (x a fs od gr:QK) (ls s e r:Nat) (oa:List QK) (ps:List<|Nat×List Nat) (gs:List Nat):N=[.ref x]->bE CP Y x a fs od gr ls s e r oa ps gs->(flt ps).length<=500->r<=e->e<=500->(∀l H',aB Y H'->Y l=none->H' l=some (.lst<|nL<|flt ps++Q8 r (e-r))->M (.ref l) H')->lI CP N Y M D
theorem vS(A B:List<|Nat×List Nat):flt (A++B)=flt A++flt B:=by unfold flt;rw[cF,uM]
theorem Cz(h:gs.length<=1):nE gs=false:=by
 cases hd:nE gs with
 |false=>rfl
 |true=>have:=Lh hd;lia
noncomputable def grd(n a b c:Nat):Nat:=open Classical in if h:∃g,Gr.IsG (n:Int) ((a:Int)+b) ((b:Int)+c) g then h.choose else 0
theorem FD{a b c g:Nat}{N x y:Int}(h:Gr.IsG N x y g)(J:N=n)(e2:x=(a:Int)+b)(e3:y=(b:Int)+c):grd n a b c=g:=by
 subst J e2 e3;unfold grd;have z:∃g,Gr.IsG (n:Int) ((a:Int)+b) ((b:Int)+c) g:=⟨g,h⟩
 rw[dif_pos z];exact z.choose_spec.uniq h
theorem Gi:∀(m:Nat) (s:Bool) (w:Nat) (l r acc:List Nat),(wb m s w l r acc).Al λos=>os.length=acc.length+l.length+r.length
 |0,s,w,l,r,acc=>by
  show(acc++l++r).length=_;rw[aU,aU]
 |m+1,s,w,[],r,acc=>by
  show(acc++[]++r).length=_;rw[aU,aU]
 |m+1,s,w,x::l,[],acc=>by
  show(acc++x::l++[]).length=_;rw[aU,aU]
 |m+1,s,w,x::l,y::r,acc=>by
  rw[wb];refine C3 λb=>?_;have tk:∀(L:List Nat) k,k<=L.length->(L.take k).length=k/\(L.drop k).length=L.length-k:=λL k h=>⟨by rw[kP];lia,lC⟩
  by_cases h4:(if b=s then w+1 else 1)=4
  .rw [Z9 h4];cases b
   .rw [Z8<|by decide];refine Pg.Al.bind<|(Lj r x).imp λk z=>?_;have:=tk r k z;split
    .exact (Gi m _ _ _ _ _).imp λos h=>by simp at h⊢;lia
    .exact (Gi m _ _ _ _ _).imp λos h=>by simp at h⊢;lia
   .rw [Z9 rfl];refine Pg.Al.bind<|(Lj l y).imp λk z=>?_;have:=tk l k z;split
    .exact (Gi m _ _ _ _ _).imp λos h=>by simp at h⊢;lia
    .exact (Gi m _ _ _ _ _).imp λos h=>by simp at h⊢;lia
  .rw [Z8 h4];split
   .exact (Gi m _ _ _ _ _).imp λos h=>by simp at h⊢;lia
   .exact (Gi m _ _ _ _ _).imp λos h=>by simp at h⊢;lia
theorem rW(l r:List Nat):(IA l r).Al λos=>os.length=l.length+r.length:=(Gi _ _ _ _ _ _).imp λos h=>by rw[h];simp
theorem rG:∀(m pl:Nat) (os:List Nat),(jM Az m pl os).Al λz=>z.length=os.length+m
 |0,pl,os=>rfl
 |m+1,pl,os=>Pg.Al.bind ((Lx os pl).imp λr _=>(rG m (pl+1) _).imp λz h=>by
  have:=(dH (os:=os) (r:=r) (x:=pl)).length_eq;rw[aU,iK] at this;lia)
theorem xt{r:Nat}(h:r<e):(Jc ls e r).Al λf=>0<f.2.length/\r+f.2.length<=e:=
 Pg.Al.bind<|(qU h).imp λg J=>Pg.Al.bind ((rG _ _ _).imp λos z=>by
  have:=nR r g.1 g.2;rw[uW] at z;show 0<os.length/\r+os.length<=e;lia)
structure PW(s e:Nat)(t:PS):Prop where
 cl:Cl s t.ps t.r
 re:t.r<=e
 gl:t.gs.length=t.ps.length-1
structure Bg(c:Ad)(x fs od gr:QK)(oa:List QK):Prop where
 n1:x∉c.A/\fs∉c.A/\od∉c.A/\gr∉c.A
 n2:∀b∈oa,b∉c.A
theorem Bg.l3(h:Bg c x f od gr oa):∀b∈[f,od,gr],b∉c.A:=λb J=>by
 rcases cL.mp J with z|z
 .rw [z];exact h.n1.2.1
 rcases cL.mp z with z|z
 .rw [z];exact h.n1.2.2.1
 .rw [bY.mp z];exact h.n1.2.2.2
theorem bE.XD{s r:Nat}{ps:List<|Nat×List Nat}(h:bE CP H x a CT od gr ls s e r oa ps gs)(z:Bg c x CT od gr oa)(f:Fr c.S H H'):bE CP H' x a CT od gr ls s e r oa ps gs:=
 h.fr f ⟨Ad.SA z.n1.1,Ad.SA z.n1.2.1,Ad.SA z.n1.2.2.1,Ad.SA z.n1.2.2.2⟩ λb J=>Ad.SA<|z.n2 b J
theorem aH.three{CR:aN}{s r:Nat}{ps:List<|Nat×List Nat}(st:aH CA CR H c pr)(h:bE CP H x a CT od gr ls s e r oa ps gs)(J:Bg c x CT od gr oa)(f:Fr [CT,od,gr] H H'):aH CA CR H' c pr:=st.apart f (λb z=>.inl<|h.WA b z) J.l3
def LeftW(CA:QK)(CR:aN)(CP:QK)(H:Hp)(c:Ad)(x fs od gr:QK)(ls s e:Nat)(oa oa':List QK)(t:PS)(pr:List A3)(H':Hp):Prop:=
 Fr [x,fs,od,gr,c.a,c.lg,c.tl] H H'/\(∀b∈oa',b∈oa∨H b=none)/\bE CP H' x c.a fs od gr ls s e t.r oa' t.ps t.gs/\Bg c x fs od gr oa'/\aH CA CR H' c pr/\PW s e t
inductive fO(CA:QK)(CR:aN)(CP:QK):List V->Hp->VK->XK->Prop
 |mk (c:Ad) (pr:List A3) (x fs od gr:QK) (ls s e i r:Nat) (oa:List QK) (ps:List<|Nat×List Nat) (gs:List Nat) (post:Option PS->List A3->Prop):N=[.ref x,.int (i:Nat)]->aH CA CR Y c pr->bE CP Y x c.a fs od gr ls s e r oa ps gs->Bg c x fs od gr oa->PW s e ⟨r,ps,gs⟩->i+2<=ps.length->e<=500->c.n<=1000->Wp c.n c.an (GN i ⟨r,ps,gs⟩) pr post->(∀t H' t' oa' pr',LeftW CA CR CP Y c x fs od gr ls s e oa oa' t' pr' H'->t'.r=r->t'.ps.length+1=ps.length->post (some t') pr'->M (.ref t) H')->fO CA CR CP N Y M D
inductive pM(CA:QK)(CR:aN)(CP:QK):List V->Hp->VK->XK->Prop
 |mk (c:Ad) (pr:List A3) (x fs od gr:QK) (ls s e r:Nat) (oa:List QK) (ps:List<|Nat×List Nat) (gs:List Nat) (post:Option PS->List A3->Prop):N=[.ref x]->aH CA CR Y c pr->bE CP Y x c.a fs od gr ls s e r oa ps gs->Bg c x fs od gr oa->PW s e ⟨r,ps,gs⟩->r<e->e<=500->c.n<=1000->Wp c.n c.an (B7 grd ls s e ⟨r,ps,gs⟩) pr post->(∀t H' t' oa' pr',LeftW CA CR CP Y c x fs od gr ls s e oa oa' t' pr' H'->r<t'.r->t'.ps.length=ps.length+1->post (some t') pr'->M (.ref t) H')->pM CA CR CP N Y M D
inductive lG(CA:QK)(CR:aN)(CP:QK):List V->Hp->VK->XK->Prop
 |mk (c:Ad) (pr:List A3) (x fs od gr:QK) (ls s e r:Nat) (oa:List QK) (ps:List<|Nat×List Nat) (gs:List Nat) (post:Option PS->List A3->Prop):N=[.ref x]->aH CA CR Y c pr->bE CP Y x c.a fs od gr ls s e r oa ps gs->Bg c x fs od gr oa->PW s e ⟨r,ps,gs⟩->e<=500->c.n<=1000->Wp c.n c.an (HY grd ls s e ⟨r,ps,gs⟩) pr post->(post none pr->M .VA Y)->(∀t H' t' oa' pr',LeftW CA CR CP Y c x fs od gr ls s e oa oa' t' pr' H'->2*(e-t'.r)+t'.ps.length<2*(e-r)+ps.length->post (some t') pr'->M (.ref t) H')->lG CA CR CP N Y M D
inductive dF(CA:QK)(CR:aN):List V->Hp->VK->XK->Prop
 |mk (c:Ad) (pr:List A3) (ls s e:Nat) (pt:V) (post:List Nat->List A3->Prop):N=[.ref c.a,.int ls,pt]->aH CA CR Y c pr->((∃b,pt=.ref b/\Y b=some (.tup [.int s,.int e]))∨(pt=.VA/\s=0/\e=c.n))->s<=e->e<=500->c.n<=1000->Wp c.n c.an (CH grd ls s e) pr post->(∀l H' os pr',Fr c.S Y H'->Y l=none->H' l=some (.lst<|nL os)->aH CA CR H' c pr'->os.length=e-s->post os pr'->M (.ref l) H')->dF CA CR N Y M D
noncomputable abbrev fP(ak pl tk ml wd:QK):List<|Q3×V:=[("went_on",.ref wd),("meetings",.ref ml),("taken",.ref tk),("pieces",.ref pl),("asker",.ref ak)]
theorem Kp{os:List Nat}{o:Nat}(h:os[m]?=some o):dX (nL os) (m:Int)=some (.int o):=cK (by lia)<|by rw[Int.toNat_natCast,dB,h];rfl
noncomputable abbrev kQ(p q:Nat):List Key:=[Sum.inl (p:Int),Sum.inl (q:Int)]
theorem Fs{p q q':Nat}(h:kQ p q=kQ n q'):p=n/\q=q':=by
 injection h with h1 h2
 injection h2 with h2 _
 injection h1 with h1
 injection h2 with h2
 lia
noncomputable def flp(bb:Bool)(pr:List A3):List A3:=cond bb (pr.map λe=>(e.1,e.2.1,!e.2.2)) pr
noncomputable abbrev gC(bb:Bool)(CA:QK)(CR:aN)(H:Hp)(c:Ad)(pr:List A3):Prop:=aH CA CR H c<|flp bb pr
noncomputable def rv(bb:Bool)(xs:List Nat):List Nat:=cond bb xs.reverse xs
theorem EV(bb:Bool)(xs:List Nat):(rv bb xs).length=xs.length:=by cases bb;rfl;exact GF
def Bh(H:Hp)(u:V):Po.Fr->Prop
 |none=>u=.VA
 |some x=>∃t,u=.ref t/\H t=some (.tup [.int (x.1:Int),.int (x.2:Int)])
theorem Bh.keep{v:Po.Fr}(h:Bh H u v)(e:∀t x,H t=some (.tup x)->H' t=some (.tup x)):Bh H' u v:=by
 cases v with
 |none=>exact h
 |some x=>obtain⟨t,a,b⟩:=h;exact⟨t,a,e _ _ b⟩
noncomputable def front(xs:List Nat)(t i:Nat):Po.Fr:=(xs[t]?).map λx=>(x,i)
structure PB(bb:Bool)(CP:QK)(H:Hp)(p ak pl tk ml wd:QK)(pls:List QK)(pcs:List<|List Nat):Prop where
 hp:bG H p CP<|fP ak pl tk ml wd
 VD:H pl=some (.lst<|pls.map V.ref)
 len:pls.length=pcs.length
 pc:∀(i:Nat) l xs,pls[i]?=some l->pcs[i]?=some xs->H l=some (.lst<|nL<|rv bb xs)
theorem PB.at{p:QK}(h:PB bb CP H p ak pl tk ml wd pls pcs){xs:List Nat}(e:pcs[i]?=some xs):∃l,pls[i]?=some l/\H l=some (.lst<|nL<|rv bb xs):=by
 have hi:=(cV.mp e).1;have z:i<pls.length:=by rw[h.len];exact hi
 have J:pls[i]?=some pls[i]:=bV z;exact⟨_,J,h.pc i _ xs J e⟩
theorem PB.fr{S:List QK}{p:QK}(h:PB bb CP H p ak pl tk ml wd pls pcs)(e:Fr S H H')(n1:p∉S)(n2:pl∉S)(z:∀l∈pls,l∉S):PB bb CP H' p ak pl tk ml wd pls pcs:=
 ⟨AD e n1 h.hp,e _ _ n2 h.VD,h.len,λi l xs a b=>e _ _ (z l<|gO a)<|h.pc i l xs a b⟩
theorem PB.mono{p:QK}(h:PB bb CP H p ak pl tk ml wd pls pcs)(e:aB H H'):PB bb CP H' p ak pl tk ml wd pls pcs:=
 h.fr (S:=[]) e.fr mK mK λ_ _=>mK
structure dY(H:Hp)(vs:List V)(ms:List Po.Mt):Prop where
 len:vs.length=ms.length
 get:∀(i:Nat) m,ms[i]?=some m->∃t,vs[i]?=some (V.ref t)/\H t=some (.tup [.int (m.1:Int),.int (m.2.1:Int),.int (m.2.2:Int)])
theorem dY.keep{ms:List Po.Mt}(h:dY H vs ms)(e:∀t x,H t=some (.tup x)->H' t=some (.tup x)):dY H' vs ms:=⟨h.len,λi m hm=>let ⟨t,a,b⟩:=h.get i m hm;⟨t,a,e _ _ b⟩⟩
theorem dY.app{us:List V}{ms ns:List Po.Mt}(h:dY H vs ms)(g:dY H us ns):dY H (vs++us)<|ms++ns:=by
 refine⟨by rw[aU,aU,h.len,g.len],λj m z=>?_⟩;by_cases hl:j<ms.length
 .rw [iE hl] at z;rw[iE<|by rw[h.len];exact hl];exact h.get j m z
 .rw [gI<|by lia] at z;rw[gI<|by rw[h.len];lia,h.len];exact g.get _ m z
theorem dY.one{m:Po.Mt}{t:QK}(J:H t=some (.tup [.int (m.1:Int),.int (m.2.1:Int),.int (m.2.2:Int)])):dY H [.ref t] [m]:=⟨rfl,λj a z=>by
 cases j with
 |zero=>cases z;exact⟨t,rfl,J⟩
 |succ j=>simp at z⟩
theorem dY.nil:dY H [] []:=⟨rfl,λj a z=>by simp at z⟩
inductive cB(n:Nat):List V->Hp->VK->XK->Prop
 |mk (f b:Nat):N=[.int f,.int b]->f<=b->b<=600->0<n->b-f<=2^(n-1)->(∀l H' ws,aB Y H'->Y l=none->H' l=some (.lst ws)->dY H' ws (Po.mts f b)->M (.ref l) H')->cB n N Y M D
theorem mO(h:cB 0 vs H Q E):False:=by
 obtain⟨_,_,_,_,_,h0,_⟩:=h;lia
inductive cN(bb:Bool)(CP:QK):List V->Hp->VK->XK->Prop
 |mk (p ak pl tk ml wd:QK) (pls:List QK) (pcs:List<|List Nat) (i t:Nat) (xs:List Nat):N=[.ref p,.int i,.int t]->PB bb CP Y p ak pl tk ml wd pls pcs->pcs[i]?=some xs->(∀u H',aB Y H'->Bh H' u (front xs t i)->M u H')->cN bb CP N Y M D
structure DT(H:Hp)(d:QK)(w:Po.W)(B:Nat)(kvs:List<|List Key×V):Prop where
 hd:H d=some (.dT kvs)
 sm:Km kvs
 len:kvs.length<=B
 val:∀a c v,w a c=some v->∃u,dW kvs (kQ a c)=some u/\Bh H u v
theorem DT.fr{S:List QK}(h:DT H d w B kvs)(e:Fr S H H')(n:d∉S)(t:∀t x,H t=some (.tup x)->t∉S):DT H' d w B kvs:=
 ⟨e _ _ n h.hd,h.sm,h.len,λa c v z=>let ⟨u,x,y⟩:=h.val a c v z;⟨u,x,y.keep λb o q=>e _ _ (t _ _ q) q⟩⟩
theorem DT.mono(h:DT H d w B kvs)(e:aB H H'):DT H' d w B kvs:=h.fr (S:=[]) e.fr mK λ_ _ _=>mK
theorem zl{k:List Key}{J:List Key×V}(h:J∈putK kvs k v):J.1=k∨∃z∈kvs,z.1=J.1:=by
 unfold putK at h;split at h
 .obtain ⟨z,h1,h2⟩:=xR.mp h;split at h2
  .rename_i e;rw[<- h2];exact .inl e
  .rw [<- h2];exact .inr ⟨z,h1,rfl⟩
 .rcases fG.mp h with h|h
  .exact .inr ⟨J,h,rfl⟩
  .rw [bY.mp h];exact .inl rfl
theorem zp{k:List Key}(h:dW kvs k=some u):(putK kvs k v).length=kvs.length:=by
 unfold putK;rw[Z9<|by rw[IE,h];rfl,aM]
theorem DT.put(h:DT H d w B kvs){a c:Nat}{v:Po.Fr}(ha:a<205)(hc:c<=500)(hu:Bh H u v)(hk:k=1∨(w a c).isSome=true):DT (upd H d<|.dT<|putK kvs (kQ a c) u) d (Po.put w a c v) (B+k)<|putK kvs (kQ a c) u:=by
 have e:∀t x,H t=some (.tup x)->upd H d (.dT<|putK kvs (kQ a c) u) t=some (.tup x):=λt x O=>by rw[bF λz=>by rw[z,h.hd] at O;cases O];exact O
 refine⟨aS,λkv U=>?_,?_,λa' c' v' J=>?_⟩
 .rcases zl U with z|⟨Z,h1,h2⟩
  .exact ⟨a,c,z,ha,hc⟩
  .rw [<- h2];exact h.sm Z h1
 .have:=h.len;rcases hk with rfl|z
  .exact cW (MM _ _ _) (by lia)
  .obtain ⟨v0,aa⟩:=Option.isSome_iff_exists.mp z;obtain⟨u0,ab,_⟩:=h.val a c v0 aa;rw[zp ab];lia
 .unfold Po.put at J;rw[yj];by_cases z:a'=a/\c'=c
  .rw [Z9 z] at J;rw[Z9<|by rw[z.1,z.2]];cases J;exact⟨u,rfl,hu.keep e⟩
  .rw [Z8 z] at J;rw[Z8 λy=>z<|Fs y];obtain⟨u',x,y⟩:=h.val a' c' v' J;exact⟨u',x,y.keep e⟩
theorem uC{os:List α}{x:α}(h:os[i]?=some x):os.drop i=x::os.drop (i+1):=by
 obtain⟨h1,h2⟩:=cV.mp h;rw[yc h1,h2]
inductive nV(bb:Bool)(CP:QK):List V->Hp->VK->XK->Prop
 |mk (p ak pl tk ml wd:QK) (pls:List QK) (pcs:List<|List Nat) (w:Po.W) (B:Nat) (kvs:List<|List Key×V) (top:Po.Fr):N=[.ref p]->PB bb CP Y p ak pl tk ml wd pls pcs->DT Y wd w B kvs->(w 0 pcs.length=some top∨B=0/\top=none)->(∀u H',aB Y H'->Bh H' u top->M u H')->nV bb CP N Y M D
inductive ip(bb:Bool)(CP:QK):List V->Hp->VK->XK->Prop
 |mk (p ak pl tk ml wd:QK) (pls:List QK) (pcs:List<|List Nat) (w:Po.W) (B:Nat) (kvs:List<|List Key×V) (top:Po.Fr):N=[.ref p]->PB bb CP Y p ak pl tk ml wd pls pcs->DT Y wd w B kvs->(w 0 pcs.length=some top∨B=0/\top=none)->(∀H',aB Y H'->M (match top with|none=>V.VA|some x=>.int (x.1:Int)) H')->ip bb CP N Y M D
inductive pL(bb:Bool)(CP:QK):List V->Hp->VK->XK->Prop
 |mk (p ak pl tk ml wd:QK) (pls:List QK) (pcs:List<|List Nat) (ts:List Nat):N=[.ref p]->PB bb CP Y p ak pl tk ml wd pls pcs->Y tk=some (.lst<|nL ts)->pcs.length<=500->ts.length<=500->(∀xs∈pcs,xs.length<=500)->(∀t∈ts,t<=500)->(∀H',aB Y H'->M (.int<|((pcs.map Rr).sum:Nat)-(ts.sum:Nat)) H')->pL bb CP N Y M D
theorem sum_nat(l:List Nat):(l.map λ(n:Nat)=>(n:Int)).sum=((l.sum:Nat):Int):=by
 induction l with
 |nil=>rfl
 |cons a r ih=>rw[iT,List.sum_cons,List.sum_cons,ih];lia
theorem zS{ts:List Nat}{t:Nat}{zs:List Nat}(h:pcs[i]?=some zs)(z:ts[i]?=some t):mY pcs ts i=front zs t i:=by
 unfold mY front;rw[iR,iR,h,z];rfl
structure cZ(bb:Bool)(CP:QK)(H:Hp)(p ak pl tk ml wd:QK)(pls:List QK)(pcs:List<|List Nat)(ts:List Nat)(w:Po.W)(kvs:List<|List Key×V):Prop where
 pb:PB bb CP H p ak pl tk ml wd pls pcs
 VQ:H tk=some (.lst<|nL ts)
 Yb:∃mvs,H ml=some (.lst mvs)/\dY H mvs (Po.mts 0 pcs.length)
 WN:DT H wd w (2*pcs.length-1) kvs
 WG:ts.length=pcs.length
 ne:tk≠pl/\tk≠ml/\∀l∈pls,l≠tk
theorem cZ.fr{S:List QK}{p:QK}{ts:List Nat}(h:cZ bb CP H p ak pl tk ml wd pls pcs ts w kvs)(e:Fr S H H')(hS:∀b∈S,∃l,H b=some (.lst l))(n:pl∉S/\tk∉S/\ml∉S/\∀l∈pls,l∉S):cZ bb CP H' p ak pl tk ml wd pls pcs ts w kvs:=by
 have J:∀b o,H b=some o->(∀l,o≠.lst l)->b∉S:=λb o O z m=>by
  obtain⟨l,hl⟩:=hS b m;rw[hl] at O;exact z _ (QR O).symm
 obtain⟨dx,fs,U,_⟩:=h.pb.hp.ex;obtain⟨mvs,h1,h2⟩:=h.Yb;exact⟨h.pb.fr e (J _ _ U λ_ z=>by cases z) n.1 n.2.2.2,e _ _ n.2.1 h.VQ,⟨mvs,e _ _ n.2.2.1 h1,h2.keep λt z y=>e _ _ (J _ _ y λ_ z=>by cases z) y⟩,h.WN.fr e (J _ _ h.WN.hd λ_ z=>by cases z) (λt z y=>J _ _ y λ_ z=>by cases z),h.WG,h.ne⟩
theorem cZ.mono{p:QK}{ts:List Nat}(h:cZ bb CP H p ak pl tk ml wd pls pcs ts w kvs)(e:aB H H'):cZ bb CP H' p ak pl tk ml wd pls pcs ts w kvs:=
 h.fr (S:=[]) e.fr (λb z=>by cases z) ⟨mK,mK,mK,λ_ _=>mK⟩
structure Dw(n:Nat)(ms:List Po.Mt)(w:Po.W):Prop where
 pr:∀m∈ms,(w m.1 m.2.2).isSome=true
 ix:∀a c x,w a c=some (some x)->x.2<n
theorem zk{P:Po.Fr->Prop}:∀{u v:Po.Fr},P u->P v->(B3 u v).Al P
 |none,_,_,h=>h
 |some _,none,h,_=>h
 |some x,some y,h,g=>by
  show(VY x.1 y.1 λb=>.ret<|if b then some x else some y).Al P;exact C3 λb=>(by cases b<;>first|exact h|exact g)
theorem ID{a c a' c':Nat}{v:Po.Fr}(h:(w a' c').isSome=true):(Po.put w a c v a' c').isSome=true:=by
 unfold Po.put;split
 .rfl
 .exact h
theorem yY{a c:Nat}{v:Po.Fr}(h:∀a c x,w a c=some (some x)->x.2<n)(z:∀x,v=some x->x.2<n):∀a' c' x,Po.put w a c v a' c'=some (some x)->x.2<n:=λa' c' x e=>by
 unfold Po.put at e;split at e
 .exact z x (QR e)
 .exact h _ _ x e
theorem Mb{n:Nat}:∀(ms:List Po.Mt) (w:Po.W),(∀a c x,w a c=some (some x)->x.2<n)->(kM ms w).Al λo=>∀w',o=some w'->(∀a c,(w a c).isSome=true->(w' a c).isSome=true)/\Dw n ms w'
 |[],w,h=>λw' e=>by cases e;exact⟨λ_ _ z=>z,⟨λm hm=>(by cases hm),h⟩⟩
 |m::ms,w,h=>by
  rw[kM];cases e1:w m.1 m.2.1 with
  |none=>exact λw' e=>by cases e
  |some u=>
   cases e2:w m.2.1 m.2.2 with
   |none=>exact λw' e=>by cases e
   |some v=>
    refine Pg.Al.bind<|(zk (P:=λx=>∀y,x=some y->y.2<n) (λy z=>h _ _ y<|by rw[e1,z]) λy z=>h _ _ y<|by rw[e2,z]).imp λx O=>(Mb ms _<|yY h O).imp λo g w' e=>?_;obtain⟨g1,J⟩:=g w' e;refine⟨λa c z=>g1 a c<|ID z,⟨λU hm=>?_,J.ix⟩⟩;rcases cL.mp hm with z|z
    .rw [z];exact g1 _ _<|by rw[Io];rfl
    .exact J.pr U z
structure PX(c:Ad)(p pl tk ml:QK)(pls:List QK):Prop where
 p:p∉c.A
 pl:pl∉c.A
 tk:tk∉c.A
 ml:ml∉c.A
 ls:∀l∈pls,l∉c.A
inductive dE(CA:QK)(CR:aN)(bb:Bool)(CP:QK):List V->Hp->VK->XK->Prop
 |mk (c:Ad) (pr:List A3) (p pl tk ml wd:QK) (x y:Nat) (k:Bool->Pg Po.Fr) (post:Po.Fr->List A3->Prop):N=[.ref p,.int x,.int y]->gC bb CA CR Y c pr->bG Y p CP (fP c.a pl tk ml wd)->c.n<=1000->Wp c.n (c.Ws bb) (VY x y k) pr post->(∀b H' pr',Fr c.S Y H'->gC bb CA CR H' c pr'->Wp c.n (c.Ws bb) (k b) pr' post->M (.bl b) H')->dE CA CR bb CP N Y M D
inductive lT(CA:QK)(CR:aN)(bb:Bool)(CP:QK):List V->Hp->VK->XK->Prop
 |mk (c:Ad) (pr:List A3) (p pl tk ml wd:QK) (u1 u2:V) (one other:Po.Fr) (post:Po.Fr->List A3->Prop):N=[.ref p,u1,u2]->gC bb CA CR Y c pr->bG Y p CP (fP c.a pl tk ml wd)->Bh Y u1 one->Bh Y u2 other->c.n<=1000->Wp c.n (c.Ws bb) (B3 one other) pr post->(∀u H' x pr',Fr c.S Y H'->gC bb CA CR H' c pr'->Bh H' u x->post x pr'->M u H')->lT CA CR bb CP N Y M D
inductive ib(CA:QK)(CR:aN)(bb:Bool)(CP:QK):List V->Hp->VK->XK->Prop
 |mk (c:Ad) (pr:List A3) (p pl tk ml wd mt wo:QK) (mvs:List V) (ms:List Po.Mt) (w:Po.W) (B k:Nat) (kvs:List<|List Key×V) (post:Option Po.W->List A3->Prop):N=[.ref p,.ref mt,.ref wo]->gC bb CA CR Y c pr->bG Y p CP (fP c.a pl tk ml wd)->p∉c.S->mt∉c.S->Y mt=some (.lst mvs)->dY Y mvs ms->ms.length<=400->(∀m∈ms,m.1<205/\m.2.2<=500)->DT Y wo w B kvs->B<=500->(k=1∨k=0/\∀m∈ms,(w m.1 m.2.2).isSome=true)->c.n<=1000->Wp c.n (c.Ws bb) (kM ms w) pr post->(∀pr',¬ post none pr')->(∀d H' w' kvs' pr',Fr c.S Y H'->Y d=none->DT H' d w' (B+k*ms.length) kvs'->gC bb CA CR H' c pr'->post (some w') pr'->M (.ref d) H')->ib CA CR bb CP N Y M D
inductive bQ(CA:QK)(CR:aN)(bb:Bool)(CP:QK):List V->Hp->VK->XK->Prop
 |mk (c:Ad) (pr:List A3) (x dx hl:QK) (hls:List QK) (pcs:List<|List Nat) (post:Option Po.W->List A3->Prop):N=[.ref x,.ref c.a,.ref hl]->Y x=some (.ins CP dx [])->gC bb CA CR Y c pr->Y hl=some (.lst<|hls.map V.ref)->hls.length=pcs.length->(∀(i:Nat) l ys,hls[i]?=some l->pcs[i]?=some ys->Y l=some (.lst<|nL<|rv bb ys))->pcs.length<=200->x∉c.A->c.n<=1000->Wp c.n (c.Ws bb) (kM (Po.mts 0 pcs.length)<|w8 pcs pcs.length) pr post->(∀pr',¬ post none pr')->(∀pl tk ml wd pls w H' kvs pr',(∀b o,b≠x->b∉c.S->Y b=some o->H' b=some o)->cZ bb CP H' x c.a pl tk ml wd pls pcs (Q5 pcs.length 0) w kvs->Dw pcs.length (Po.mts 0 pcs.length) w->(∀j,j<pcs.length->(w j<|j+1).isSome=true)->(Y pl=none/\Y tk=none/\Y ml=none/\Y wd=none/\∀l∈pls,Y l=none)->gC bb CA CR H' c pr'->post (some w) pr'->M .VA H')->bQ CA CR bb CP N Y M D
theorem Fi(pcs:List<|List Nat)(k:Nat)(z:k<=pcs.length):∀a c x,w8 pcs k a c=some (some x)->x.2<pcs.length:=λa c x e=>by
 unfold w8 at e;split at e
 .have:=(Ej<|QR e).1;lia
 .cases e
theorem B4(pcs:List<|List Nat)(i:Nat):Po.put (w8 pcs i) i (i+1) (mY pcs (Q5 pcs.length 0) i)=w8 pcs (i+1):=by
 funext a c;unfold Po.put w8;by_cases h1:a=i/\c=i+1
 .rw [Z9 h1,Z9 ⟨by lia,by lia⟩,h1.1]
 .rw [Z8 h1];by_cases h2:c=a+1/\a<i
  .rw [Z9 h2,Z9 ⟨h2.1,by lia⟩]
  .rw [Z8 h2,Z8<|by lia]
inductive fI(CA:QK)(CR:aN)(bb:Bool)(CP:QK):List V->Hp->VK->XK->Prop
 |mk (c:Ad) (pr:List A3) (p pl tk ml wd:QK) (pls:List QK) (pcs:List<|List Nat) (ts:List Nat) (w:Po.W) (kvs:List<|List Key×V):N=[.ref p]->gC bb CA CR Y c pr->cZ bb CP Y p c.a pl tk ml wd pls pcs ts w kvs->PX c p pl tk ml pls->Dw pcs.length (Po.mts 0 pcs.length) w->(∀j,j<pcs.length->(w j<|j+1).isSome=true)->pcs.length<=200->c.n<=1000->(((pcs.length=0∨w 0 pcs.length=some none)/\∀H',aB Y H'->M .VA H')∨∃(x i:Nat) (post:Option Po.W->List A3->Prop),0<pcs.length/\w 0 pcs.length=some (some (x,i))/\Wp c.n (c.Ws bb) (kM ((Po.mts 0 pcs.length).filter<|tQ i)<|Po.put w i (i+1)<|mY pcs (qP ts i) i) pr post/\(∀pr',¬ post none pr')/\∀wd' w' H' kvs' pr',Fr [p,tk,c.a,c.lg,c.tl] Y H'->cZ bb CP H' p c.a pl tk ml wd' pls pcs (qP ts i) w' kvs'->Dw pcs.length (Po.mts 0 pcs.length) w'->(∀j,j<pcs.length->(w' j<|j+1).isSome=true)->gC bb CA CR H' c pr'->post (some w') pr'->M (.int x) H')->fI CA CR bb CP N Y M D
structure PL(H:Hp)(hls:List QK)(pcs:List<|List Nat):Prop where
 len:hls.length=pcs.length
 at':∀(i:Nat) l ys,hls[i]?=some l->pcs[i]?=some ys->H l=some (.lst<|nL ys)
theorem PL.nil:PL H [] []:=⟨rfl,λi l ys h=>by simp at h⟩
theorem PL.sl(h:PL H hls pcs)(i d:Nat):PL H ((hls.drop i).take d)<|(pcs.drop i).take d:=by
 refine⟨by rw[kP,kP,lC,lC,h.len],λj l ys h1 h2=>?_⟩;have z:j<d:=by have:=(cV.mp h1).1;rw[kP] at this;lia
 rw[Ta z,List.getElem?_drop] at h1 h2;exact h.at' _ l ys h1 h2
theorem PL.Xx{S:List QK}(h:PL H hls pcs)(e:Fr S H H')(n:∀b∈hls,b∉S):PL H' hls pcs:=⟨h.len,λi b ys h1 h2=>e _ _ (n b<|gO h1)<|h.at' i b ys h1 h2⟩
theorem PL.mono(h:PL H hls pcs)(e:aB H H'):PL H' hls pcs:=h.Xx (S:=[]) e.fr λ_ _=>mK
theorem PL.ex(h:PL H hls pcs){b:QK}(O:b∈hls):∃z,H b=some (.lst z):=by
 obtain⟨j,J,e⟩:=List.getElem_of_mem O;exact⟨_,h.at' j b _ (by rw[bV J,e])<|bV<|show j<pcs.length by rw[<- h.len];exact J⟩
theorem PL.snoc{os:List Nat}(h:PL H hls pcs)(hl:H l=some (.lst<|nL os)):PL H (hls++[l])<|pcs++[os]:=by
 refine⟨by rw[aU,aU,h.len];rfl,λj b ys h1 h2=>?_⟩;by_cases z:j<hls.length
 .rw [iE z] at h1;rw[iE<|by rw[<- h.len];exact z] at h2;exact h.at' j b ys h1 h2
 .rw [gI<|by lia] at h1;rw[gI<|by rw[<- h.len];lia,<- h.len] at h2;cases hk:j-hls.length with
  |zero=>rw[hk] at h1 h2;cases h1;cases h2;exact hl
  |succ m=>rw[hk] at h1;simp at h1
theorem vi{d:Nat}(z:0<d):(Q2 ((0:Nat):Int) (n:Int) (d:Int)).toNat=cS n d:=by
 rw[NA<|by lia];unfold cS;by_cases h:n=0
 .subst h;rw[Z8<|by lia,Nat.div_eq_of_lt<|by lia];rfl
 .rw [Z9<|by lia];have e:(n:Int)-((0:Nat):Int)-1=((n-1:Nat):Int):=by lia
  have e2:(((n-1:Nat):Int)/(d:Int))=(((n-1)/d:Nat):Int):=by rw[Int.natCast_ediv]
  rw[e,e2];rw[show n+d-1=(n-1)+d by lia,Nat.add_div_right _ z];generalize (n-1)/d=t;lia
theorem Ks{d:Nat}(z:0<d):cS n d<=n:=by
 unfold cS;by_cases h:n=0
 .subst h;rw[Nat.div_eq_of_lt<|by lia];exact aL _
 .refine Nat.le_of_lt_succ ((Nat.div_lt_iff_lt_mul z).mpr ?_);have:(n+1)*d=n*d+d:=Ds ..;have:n<=n*d:=Nat.le_mul_of_pos_right _ z;show n+d-1<(n+1)*d;lia
theorem Ai{d:Nat}:gJ xs (some (i:Int)) (some<|(i:Int)+d)=(xs.drop i).take d:=by
 unfold gJ;rw[show((i:Int)+d)=((i+d:Nat):Int) by lia,HT.sIx_nat,HT.sIx_nat];by_cases h:i<=xs.length
 .rw [xQ h];by_cases h2:i+d<=xs.length
  .rw [xQ h2,Gy]
  .rw [SI<|by lia,pE (by rw[lC];exact aL _),pE<|by rw[lC];lia]
 .rw [SI<|by lia,SI<|by lia,Sz<|aL _,Sz<|by lia];simp
noncomputable def tot(pcs:List<|List Nat):Nat:=(pcs.map Rr).sum
theorem LH(a b:List<|List Nat):tot (a++b)=tot a+tot b:=by unfold tot;rw[cF,List.sum_append]
theorem EG(l:List<|List Nat)(d:Nat):tot (l.take d)+tot (l.drop d)=tot l:=by rw[<- LH,xP]
theorem uY{p:List Nat}:∀{l:List<|List Nat},p∈l->p.length<=tot l
 |q::l,h=>by
  show p.length<=q.length+tot l;rcases cL.mp h with z|z
  .rw [z];lia
  .have:=uY z;lia
theorem Kn{α:Type}{P:α->Prop}(h:∀a,P a):∀{x:Pg α},x.Al P
 |.ret a=>h a
 |.ask _ _ k=>λb=>Kn h
theorem oA{pcs:List<|List Nat}:∀(k:Nat) (ts:List Nat) (w:Po.W) (acc:List Nat),(oX pcs k ts w acc).Al λo=>∀os,o=some os->os.length=acc.length+k
 |0,ts,w,acc=>λos e=>by cases e;rfl
 |k+1,ts,w,acc=>by
  rw[oX];split
  .refine Pg.Al.bind (Kn λo=>?_);cases o with
   |none=>exact λos e=>by cases e
   |some w'=>
    refine(oA k _ w' _).imp λo h os e=>?_;rw[h os e,aU,iK];lia
  .exact λos e=>by cases e
theorem rJ(pcs:List<|List Nat):(Ee pcs).Al λo=>∀os,o=some os->os.length=tot pcs:=by
 refine Pg.Al.bind<|Kn λo=>?_;cases o with
 |none=>exact λos e=>by cases e
 |some w=>exact(oA _ _ w []).imp λo h os e=>by rw[h os e,yd,wt];rfl
inductive eY(CA:QK)(CR:aN):List V->Hp->VK->XK->Prop
 |mk (c:Ad) (pr:List A3) (hl:QK) (hls:List QK) (pcs:List<|List Nat) (post:Option (List Nat)->List A3->Prop):N=[.ref c.a,.ref hl]->aH CA CR Y c pr->Y hl=some (.lst<|hls.map V.ref)->PL Y hls pcs->pcs.length<=200->tot pcs<=500->c.n<=1000->Wp c.n c.an (Ee pcs) pr post->(∀pr',¬ post none pr')->(∀l H' os pr',Fr c.S Y H'->Y l=none->H' l=some (.lst<|nL os)->aH CA CR H' c pr'->os.length=tot pcs->post (some os) pr'->M (.ref l) H')->eY CA CR N Y M D
inductive eG(CA:QK)(CR:aN):List V->Hp->VK->XK->Prop
 |mk (c:Ad) (pr:List A3) (hl:QK) (hls:List QK) (pcs:List<|List Nat) (d:Nat) (post:Option (List<|List Nat)->List A3->Prop):N=[.ref c.a,.ref hl,.int (d:Int)]->aH CA CR Y c pr->Y hl=some (.lst<|hls.map V.ref)->PL Y hls pcs->hl∉c.A->(∀l∈hls,l∉c.A)->pcs.length<=200->tot pcs<=500->0<d->d<=1000->c.n<=1000->Wp c.n c.an (uq d (cS pcs.length d) pcs []) pr post->(∀pr',¬ post none pr')->(∀l H' ls out pr',Fr c.S Y H'->Y l=none->H' l=some (.lst<|ls.map V.ref)->PL H' ls out->(∀b∈ls,Y b=none)->aH CA CR H' c pr'->out.length=cS pcs.length d->tot out=tot pcs->post (some out) pr'->M (.ref l) H')->eG CA CR N Y M D
inductive eJ(CA:QK)(CR:aN):List V->Hp->VK->XK->Prop
 |mk (c:Ad) (pr:List A3) (hl:QK) (hls:List QK) (pcs:List<|List Nat) (d:Nat) (post:Option (List Nat×List Nat)->List A3->Prop):N=[.ref c.a,.ref hl,.int (d:Int)]->aH CA CR Y c pr->Y hl=some (.lst<|hls.map V.ref)->PL Y hls pcs->pcs.length<=200->tot pcs<=500->2<=d->d<=1000->c.n<=1000->Wp c.n c.an (AG d pcs.length pcs []) pr post->(∀pr',¬ post none pr')->(∀t l nm H' r pr',Fr c.S Y H'->Y t=none->Y l=none->Y nm=none->H' t=some (.tup [.ref l,.ref nm])->H' l=some (.lst<|nL r.1)->H' nm=some (.lst<|nL r.2)->aH CA CR H' c pr'->r.1.length=tot pcs->post (some r) pr'->M (.ref t) H')->eJ CA CR N Y M D
theorem FC{d:Nat}(z:0<d)(h:k<cS n d):k*d<n:=by
 unfold cS at h;have:=(Nat.le_div_iff_mul_le z).mp (show k+1<=(n+d-1)/d from h);rw[Ds] at this;lia
inductive eL(CA:QK)(CR:aN):List V->Hp->VK->XK->Prop
 |mk (c:Ad) (pr:List A3) (wd d ls:Nat) (post:Option (List Nat)->List A3->Prop):N=[.ref c.a,.int (wd:Nat),.int (d:Nat),.int (ls:Nat)]->aH CA CR Y c pr->0<wd->wd<=1000->2<=d->d<=1000->c.n<=200->Wp c.n c.an (Jq grd ls wd d c.n) pr post->(∀pr',¬ post none pr')->(∀l H' os pr',Fr c.S Y H'->Y l=none->H' l=some (.lst<|nL os)->aH CA CR H' c pr'->post (some os) pr'->M (.ref l) H')->eL CA CR N Y M D
inductive pJ(CA:QK)(CR:aN):List V->Hp->VK->XK->Prop
 |mk (c:Ad) (pr:List A3) (os:List Nat) (pl:Nat) (ol:QK) (post:Nat->List A3->Prop):N=[.ref c.a,.ref ol,.int pl]->aH CA CR Y c pr->Y ol=some (.lst<|nL os)->ol∉c.S->c.n<=1000->Wp c.n c.an (D5 os pl) pr post->(∀r H' pr',Fr c.S Y H'->aH CA CR H' c pr'->post r pr'->M (.int (r:Nat)) H')->pJ CA CR N Y M D
inductive iM(sp:List Nat->Nat->Pg Nat)(CA:QK)(CR:aN):List V->Hp->VK->XK->Prop
 |mk (c:Ad) (pr:List A3) (post:List Nat->List A3->Prop):N=[.ref c.a]->aH CA CR Y c pr->c.n<=200->Wp c.n c.an (jM sp c.n 0 []) pr post->(∀ol H' os pr',Fr c.S Y H'->Y ol=none->H' ol=some (.lst<|nL os)->aH CA CR H' c pr'->post os pr'->M (.ref ol) H')->iM sp CA CR N Y M D
theorem uP{os:List Nat}{pl:Nat}:∀s,s<=os.length->(wx os pl s).Al λr=>r<=os.length
 |0,h=>dU _
 |s+1,h=>C3 λb=>by
  cases b
  .exact uP s (by lia)
  .exact h
theorem yg(os:List Nat)(pl:Nat):(D5 os pl).Al λr=>r<=os.length:=uP _<|aL _
theorem B0{l:List Nat}{ms:List Int}(U:ms.Perm<|l.map λ(n:Nat)=>(n:Int))(J:ms.Pairwise (·<=·))(O:l.Nodup):∃so:List Nat,ms=so.map (λ(n:Nat)=>(n:Int))/\so.Perm l/\so.Pairwise (·<·):=by
 obtain⟨so,h1,h2⟩:=rO _ U;subst h2;refine⟨so,rfl,h1,?_⟩;have z:=h1.nodup_iff.mpr O;have h3:=GB.mp J;exact(h3.and z).imp fun {a b} h=>by have:=h.1;have:=h.2;lia
inductive pO(CA:QK)(CR:aN):List V->Hp->VK->XK->Prop
 |mk (c:Ad) (pr:List A3) (al ar:QK) (ls rs:List Nat) (m:Nat) (post:Nat->List A3->Prop):N=[.ref c.a,.ref al,.ref ar,.int m]->aH CA CR Y c pr->Y al=some (.lst<|nL ls)->Y ar=some (.lst<|nL rs)->al∉c.S->ar∉c.S->c.n<=1000->m<=ls.length+rs.length->Wp c.n c.an (I0 ls rs m) pr post->(∀r H' pr',Fr c.S Y H'->aH CA CR H' c pr'->post r pr'->M (.int (r:Nat)) H')->pO CA CR N Y M D
theorem kY(l:List Nat):(nL l).length=l.length:=aM ..
theorem D7(a b:List Nat):nL (a++b)=nL a++nL b:=by unfold nL;rw[cF]
theorem Lg{l:List Nat}(hi:i<=l.length)(z:j<=l.length):gJ (nL l) (some (i:Int)) (some (j:Int))=nL (jV l i j):=by
 unfold gJ;rw[HT.sIx_nat,HT.sIx_nat,kY,xQ z,xQ hi];unfold nL jV;rw[Dx,Dv]
theorem IB{f:Nat->Nat}(h:i<n):((QL n).map f)[i]?=some (f i):=by rw[dB,uN h];rfl
theorem KL{l r:List Nat}{m:Nat}:∀(f lo hi:Nat),lo<=hi->(nF l r m f lo hi).Al λc=>lo<=c/\c<=hi
 |0,lo,hi,h=>⟨aL _,h⟩
 |f+1,lo,hi,h=>by
  rw[nF];by_cases z:lo<hi
  .rw [Z9 z];refine C3 λb=>?_;cases b
   .exact (KL f lo ((lo+hi)/2)<|by lia).imp λc h=>⟨h.1,by have:=h.2;lia⟩
   .exact (KL f ((lo+hi)/2+1) hi<|by lia).imp λc h=>⟨by have:=h.1;lia,h.2⟩
  .rw [Z8 z];exact⟨aL _,h⟩
theorem Aj{l r:List Nat}(h:m<=l.length+r.length):(I0 l r m).Al λc=>c<=l.length/\c<=m/\m<=c+r.length:=
 (KL _ _ _<|by lia).imp λc h=>by have:=h.1;have:=h.2;lia
inductive jG(CA:QK)(CR:aN):List V->Hp->VK->XK->Prop
 |mk (c:Ad) (pr:List A3) (al ar:QK) (ls rs:List Nat) (P:Nat) (post:List (List Nat)->List A3->Prop):N=[.ref c.a,.ref al,.ref ar,.int P]->aH CA CR Y c pr->Y al=some (.lst<|nL ls)->Y ar=some (.lst<|nL rs)->al∉c.A->ar∉c.A->c.n<=200->ls.length+rs.length<=200->0<P->P<=40->Wp c.n c.an (CU ls rs P) pr post->(∀l hls H' out pr',Fr c.S Y H'->Y l=none->H' l=some (.lst<|hls.map V.ref)->PL H' hls out->(∀b∈hls,Y b=none)->aH CA CR H' c pr'->post out pr'->M (.ref l) H')->jG CA CR N Y M D
theorem Jh{D:Ends}(σ:α->St)(X:α->Hp)(p:α->Prop){G:Prop}(h:(∀x,p x->P D (σ x) (X x))->G)(t:∀x,p x->P D (σ x) (X x)):G:=h t
structure C7(CA:QK)(CR:aN)(CP:QK)(bb:Bool)(H X:Hp)(c:Ad)(kk:Nat)(post:Option (List Nat×Nat)->List A3->Prop)(po pl tk ml wd:QK)(pls:List QK)(acc:List Nat)(kvs:List<|List Key×V)(ts:List Nat)(w:Po.W)(pr:List A3):Prop where
 st:gC bb CA CR X c pr
 wp:Wp c.n (c.Ws bb) (mP (sg c.n) (kk-acc.length) ts w acc) pr post
 pa:cZ bb CP X po c.a pl tk ml wd pls (sg c.n) ts w kvs
 dw:Dw (sg c.n).length (Po.mts 0 (sg c.n).length) w
 lv:∀j,j<(sg c.n).length->(w j<|j+1).isSome=true
 px:PX c po pl tk ml pls
 fr:Fr [po,tk,c.a,c.lg,c.tl] H X
 new:H po=none/\H tk=none
section
variable {CR:aN}{Y:Hp}{kk:Nat}{post:Option (List Nat×Nat)->List A3->Prop}{po:QK}{acc:List Nat}{ts:List Nat}
theorem C7.mono(h:C7 CA CR CP bb H X c kk post po pl tk ml wd pls acc kvs ts w pr)(e:aB X Y):C7 CA CR CP bb H Y c kk post po pl tk ml wd pls acc kvs ts w pr:=
 ⟨h.st.mono e,h.wp,h.pa.mono e,h.dw,h.lv,h.px,h.fr.trans e.fr,h.new⟩
theorem C7.Wv(h:C7 CA CR CP bb H X c kk post po pl tk ml wd pls acc kvs ts w pr):Fr c.S H X:=λb o n J=>h.fr b o (λz=>by
 rcases cL.mp z with z|z
 .rw [z,h.new.1] at J;cases J
 rcases cL.mp z with z|z
 .rw [z,h.new.2] at J;cases J
 .exact n z) J
theorem C7.free(h:C7 CA CR CP bb H X c kk post po pl tk ml wd pls acc kvs ts w pr){b:QK}(z:X b=none):H b=none:=h.st.free h.Wv z
end
inductive eV(CA:QK)(CR:aN):List V->Hp->VK->XK->Prop
 |mk (c:Ad) (pr:List A3) (m:Nat) (bb:Bool) (post:Option (List Nat×Nat)->List A3->Prop):N=[.ref c.a,.int (m:Int)]->bb=decide (c.n-1-m<m)->gC bb CA CR Y c pr->m<c.n->c.n<=63->Wp c.n (c.Ws bb) (Eh (sg c.n)<|min m<|c.n-1-m) pr post->(∀o pr',post o pr'->∃a x rest,o=some (a,x)/\(a++x::rest).Perm (QL c.n))->(∀(t l1 l2:QK) (x:Nat) (a A B:List Nat) (H':Hp) (pr':List A3),Fr c.S Y H'->Y t=none->Y l1=none->Y l2=none->H' t=some (.tup [.ref l1,.int (x:Int),.ref l2])->H' l1=some (.lst<|nL A)->H' l2=some (.lst<|nL B)->A.Pairwise (·<·)->B.Pairwise (·<·)->gC bb CA CR H' c pr'->post (some (a,x)) pr'->(∀rest,(a++x::rest).Perm (QL c.n)->A.Perm (cond bb rest a)/\B.Perm (cond bb a rest))->M (.ref t) H')->eV CA CR N Y M D
theorem B5{acc rest T:List Nat}{x:Nat}(U:(acc++x::rest).Perm<|QL n)(O:T.Perm acc):((QL n).filter λy=>decide (y≠x)&&!decide (y∈T)).Perm rest:=by
 refine(U.symm.filter _).trans ?_;have Z:=U.nodup_iff.mpr Eo;obtain⟨n1,n2,n3⟩:=Ep.mp Z;rw[AN,List.filter_eq_nil_iff.mpr (λy J=>by simp[O.mem_iff,J]),List.nil_append,RS (by simp),List.filter_eq_self.mpr λy J=>?_];have h1:y≠x:=λe=>(List.nodup_cons.mp n2).1 (by rw[<- e];exact J);have h2:y∉T:=λz=>n3 y (O.mem_iff.mp z) y (bK _ J) rfl;simp[h1,h2]
inductive hE:List V->Hp->VK->XK->Prop
 |mk {N Y M D} (i:Int):N=[.int i]->M (.bl true) Y->hE N Y M D
def lB(H:Hp)(rs:List V)(rows:List<|List Bool):Prop:=rs.length=rows.length/\∀(p:Nat) row,rows[p]?=some row->∃r,rs[p]?=some (V.ref r)/\H r=some (.lst<|row.map V.bl)
theorem lB.mono(s:aB H H')(h:lB H rs rows):lB H' rs rows:=⟨h.1,λp z e=>by obtain⟨r,a,b⟩:=h.2 p z e;exact⟨r,a,s _ _ b⟩⟩
theorem lB.nil:lB H [] []:=⟨rfl,λp z h=>by simp at h⟩
theorem lB.snoc{J:List Bool}(h:lB H rs rows)(U:H r=some (.lst<|J.map V.bl)):lB H (rs++[.ref r])<|rows++[J]:=by
 refine⟨by rw[aU,aU,h.1];rfl,λi ms hi=>?_⟩;by_cases z:i<rows.length
 .rw [iE z] at hi;obtain⟨t',a,b⟩:=h.2 i ms hi;exact⟨t',by rw[iE<|by rw[h.1];exact z];exact a,b⟩
 .have e:=(cV.mp hi).1;rw[aU] at e;have O:i=rows.length:=by have:[J].length=1:=rfl;lia
  subst O;rw[gI<|aL _,gN] at hi;cases hi;exact⟨r,by rw[<- h.1,gI<|aL _,gN];rfl,U⟩
theorem lB.upd{H:Hp}{rs:List V}{rows:List<|List Bool}{l:QK}{o:HO}(h:lB H rs rows)(z:∀b,V.ref b∈rs->b≠l):lB (upd H l o) rs rows:=⟨h.1,λp J e=>by
 obtain⟨r,a,b⟩:=h.2 p J e;exact⟨r,a,by rw[bF<|z r<|gO a];exact b⟩⟩
theorem lB.alive{b:QK}(h:lB H rs rows)(U:V.ref b∈rs):∃z:List Bool,H b=some (.lst<|z.map V.bl):=by
 obtain⟨k,O⟩:=SJ U;have J:k<rows.length:=by rw[<- h.1];exact(cV.mp O).1
 obtain⟨r,a1,Z⟩:=h.2 k rows[k] (bV J);rw[O] at a1;cases a1;exact⟨_,Z⟩
theorem lB.flip{p:Nat}{J:List Bool}(h:lB H rs rows)(U:rs.Nodup)(hr:rs[p]?=some (V.ref r)):lB (L2.upd H r<|.lst<|J.map V.bl) rs<|rows.set p J:=by
 refine⟨by rw[Ez];exact h.1,λi O e=>?_⟩;by_cases z:i=p
 .subst z;have Z:i<rows.length:=by have:=(cV.mp e).1;rw[Ez] at this;exact this
  rw[Tq Z] at e;cases e;exact⟨r,hr,aS⟩
 .rw [TQ<|Q4 z] at e;obtain⟨ri,a1,b1⟩:=h.2 i O e;refine⟨ri,a1,?_⟩;have aa:ri≠r:=λzz=>by
   rw[zz] at a1;obtain⟨l1,e1⟩:=cV.mp a1;obtain⟨l2,e2⟩:=cV.mp hr;have pw:=GA.mp U;rcases Nat.lt_or_gt_of_ne z with lt|gt
   .exact pw i p l1 l2 lt (e1.trans e2.symm)
   .exact pw p i l2 l1 gt (e2.trans e1.symm)
  show L2.upd H r _ ri=_;rw[bF aa];exact b1
noncomputable def Ka(rows:List<|List Bool)(p q:Nat):Bool:=(rows.getD p []).getD q false
theorem lB.Yg(hl:H l=some (.lst rs))(h:lB H rs rows)(hn:rows.length=n)(hw:∀z∈rows,z.length=n):iP H l n<|Ka rows:=by
 refine⟨rs,hl,by rw[h.1,hn],λp O=>?_⟩;obtain⟨r,a,b⟩:=h.2 p rows[p] (bV<|by lia);refine⟨r,a,?_⟩;rw[b];have J:=hw rows[p] (SG<|by lia);congr 2;refine S8 λq=>?_;by_cases hq:q<n
 .rw [dB,dB,uN hq];show Option.map V.bl rows[p][q]?=some (V.bl<|Ka rows p q);unfold Ka;rw[iR,iR,bV<|show p<rows.length by lia];show _=some (V.bl<|(rows[p])[q]?.getD false);rw[bV<|show q<rows[p].length by lia];rfl
 .rw [wu<|by rw[aM];lia,wu<|by rw[aM,cU];lia]
inductive lF:List V->Hp->VK->XK->Prop
 |mk (n:Nat) (c:Int):N=[.int n,.int c]->2<=n->n<=20->(∀l H' m,aB Y H'->Y l=none->iP H' l n m->M (.ref l) H')->lF N Y M D
inductive pH:List V->Hp->VK->XK->Prop
 |mk (n:Nat) (c t:Int):N=[.int n,.int c,.int t]->2<=n->n<=20->(∀l H' m,aB Y H'->Y l=none->iP H' l n m->M (.ref l) H')->pH N Y M D
inductive iY:List V->Hp->VK->XK->Prop
 |mk {N Y M D} (d:Int):N=[.int d]->0<=d->(∀n:Int,M (.int n) Y)->iY N Y M D
inductive eX:List V->Hp->VK->XK->Prop
 |mk {N Y M D} (c k:Int):N=[.int c,.int k]->0<=k->k<=1000->(∀n:Int,1<=n->M (.int n) Y)->eX N Y M D
inductive lH:List V->Hp->VK->XK->Prop
 |mk (c:Int):N=[.int c]->(∀t H' p,aB Y H'->Y t=none->H' t=some (.tup<|xS p)->p.Ok->M (.ref t) H')->lH N Y M D
structure qG(H:Hp)(ts:List V)(ps:List Pl):Prop where
 len:ts.length=ps.length
 get:∀(i:Nat) p,ps[i]?=some p->∃t,ts[i]?=some (V.ref t)/\H t=some (.tup<|xS p)
def LP(H:Hp)(a:QK)(q:mM):Prop:=∃ts,H a=some (.lst ts)/\qG H ts q.2/\(q.1=true->q.2.length=3)
structure pC(H:Hp)(xs:List V)(ps:List mM):Prop where
 len:xs.length=ps.length
 get:∀(i:Nat) q,ps[i]?=some q->∃a,xs[i]?=some (V.ref a)/\LP H a q
theorem qG.mono{ps:List Pl}(e:aB H H')(h:qG H ts ps):qG H' ts ps:=⟨h.len,λi p z=>by
 obtain⟨t,a,b⟩:=h.get i p z;exact⟨t,a,e _ _ b⟩⟩
theorem LP.mono(e:aB H H')(h:LP H a q):LP H' a q:=by
 obtain⟨ts,x,y,z⟩:=h;exact⟨ts,e _ _ x,y.mono e,z⟩
theorem pC.mono(e:aB H H')(h:pC H xs ps):pC H' xs ps:=⟨h.len,λi p z=>by
 obtain⟨t,a,b⟩:=h.get i p z;exact⟨t,a,b.mono e⟩⟩
theorem qG.at{H:Hp}{xs:List V}{ps:List Pl}{i:Nat}{x:V}(h:qG H xs ps)(z:xs[i]?=some x):∃p t,ps[i]?=some p/\x=.ref t/\H t=some (.tup<|xS p):=by
 have hi:i<ps.length:=by rw[<- h.len];exact(cV.mp z).1
 obtain⟨r,a,b⟩:=h.get i ps[i] (bV hi);rw[z] at a;cases a;exact⟨_,r,bV hi,rfl,b⟩
theorem pC.at{H:Hp}{xs:List V}{ps:List mM}{i:Nat}{x:V}(h:pC H xs ps)(z:xs[i]?=some x):∃q a,ps[i]?=some q/\x=.ref a/\LP H a q:=by
 have hi:i<ps.length:=by rw[<- h.len];exact(cV.mp z).1
 obtain⟨r,a,b⟩:=h.get i ps[i] (bV hi);rw[z] at a;cases a;exact⟨_,r,bV hi,rfl,b⟩
theorem qG.nil:qG H [] []:=⟨rfl,λi p h=>by simp at h⟩
theorem qG.snoc{ps:List Pl}{t:QK}(h:qG H ts ps)(J:H t=some (.tup<|xS p)):qG H (ts++[.ref t])<|ps++[p]:=by
 refine⟨by rw[aU,aU,h.len];rfl,λi ms hi=>?_⟩;by_cases z:i<ps.length
 .rw [iE z] at hi;obtain⟨t',a,b⟩:=h.get i ms hi;exact⟨t',by rw[iE<|by rw[h.len];exact z];exact a,b⟩
 .have e:=(cV.mp hi).1;rw[aU] at e;have O:i=ps.length:=by have:([p]:List Pl).length=1:=rfl;lia
  subst O;rw[gI<|aL _,gN] at hi;cases hi;exact⟨t,by rw[<- h.len,gI<|aL _,gN];rfl,J⟩
theorem pC.nil:pC H [] []:=⟨rfl,λi p h=>by simp at h⟩
theorem pC.snoc{t:QK}{p:mM}(h:pC H ts ps)(J:LP H t p):pC H (ts++[.ref t])<|ps++[p]:=by
 refine⟨by rw[aU,aU,h.len];rfl,λi ms hi=>?_⟩;by_cases z:i<ps.length
 .rw [iE z] at hi;obtain⟨t',a,b⟩:=h.get i ms hi;exact⟨t',by rw[iE<|by rw[h.len];exact z];exact a,b⟩
 .have e:=(cV.mp hi).1;rw[aU] at e;have O:i=ps.length:=by have:([p]:List mM).length=1:=rfl;lia
  subst O;rw[gI<|aL _,gN] at hi;cases hi;exact⟨t,by rw[<- h.len,gI<|aL _,gN];rfl,J⟩
theorem qG.upd{H:Hp}{ts:List V}{ps:List Pl}{l:QK}{us us':List V}(h:qG H ts ps)(hl:H l=some (.lst us)):qG (upd H l<|.lst us') ts ps:=⟨h.len,λi p J=>by
 obtain⟨t,a,b⟩:=h.get i p J;exact⟨t,a,by rw[bF λz=>by rw[z,hl] at b;cases b];exact b⟩⟩
theorem LP.upd{H:Hp}{a:QK}{q:mM}{l:QK}{us us':List V}(h:LP H a q)(hl:H l=some (.lst us))(J:a≠l):LP (upd H l<|.lst us') a q:=by
 obtain⟨ts,x,y,z⟩:=h;exact⟨ts,by rw[bF J];exact x,y.upd hl,z⟩
theorem pC.upd{H:Hp}{xs:List V}{ps:List mM}{l:QK}{us us':List V}(h:pC H xs ps)(hl:H l=some (.lst us))(z:∀a,V.ref a∈xs->a≠l):pC (upd H l<|.lst us') xs ps:=⟨h.len,λi p J=>by
 obtain⟨t,a,b⟩:=h.get i p J;exact⟨t,a,b.upd hl<|z t<|gO a⟩⟩
inductive jD(K:W.Frag):List V->Hp->VK->XK->Prop
 |mk (t x y tb:QK) (p:Pl) (L:Nat) (tm:Nat->Nat->Bool) (xi yi:List Int):N=[.ref t,.ref tb,.ref x,.ref y]->Y t=some (.tup<|xS p)->iP Y tb L tm->aY K Y x (xi.map V.int)->aY K Y y (yi.map V.int)->Tg L xi->Tg L yi->p.Ok->M (.bl<|jR tm p xi yi) Y->jD K N Y M D
inductive jA(K:W.Frag):List V->Hp->VK->XK->Prop
 |mk (t x y tb:QK) (p:mM) (L:Nat) (tm:Nat->Nat->Bool) (xi yi:List Int):N=[.ref t,.ref tb,.ref x,.ref y]->LP Y t p->iP Y tb L tm->aY K Y x (xi.map V.int)->aY K Y y (yi.map V.int)->Tg L xi->Tg L yi->gH p->M (.bl<|tH tm p xi yi) Y->jA K N Y M D
inductive eI(K:W.Frag):List V->Hp->VK->XK->Prop
 |mk (l x y tb:QK) (xs:List V) (ps:List mM) (L:Nat) (tm:Nat->Nat->Bool) (xi yi:List Int):N=[.ref l,.ref tb,.ref x,.ref y]->Y l=some (.lst xs)->pC Y xs ps->iP Y tb L tm->aY K Y x (xi.map V.int)->aY K Y y (yi.map V.int)->Tg L xi->Tg L yi->(∀q∈ps,gH q)->ps.length<=5->M (.bl<|fF tm ps xi yi) Y->eI K N Y M D
theorem F1(h:k<5)(z:j<5)(w:Q3)(e:w=wrd j):wrd k=w↔k=j:=by
 subst e;exact(by decide:∀k,k<5->∀j,j<5->(wrd k=wrd j↔k=j)) k h j z
theorem Bn(h:k<5):wrd k=QQ "table"↔k=4:=F1 h (by decide) _ rfl
theorem G0(h:k<5):wrd k=QQ "up"↔k=0:=F1 h (by decide) _ rfl
theorem G2(h:k<5):wrd k=QQ "down"↔k=1:=F1 h (by decide) _ rfl
theorem Bo(h:k<5):wrd k=QQ "near"↔k=2:=F1 h (by decide) _ rfl
theorem HV(c:Int):dX [V.str<|QQ "up",.str<|QQ "down",.str<|QQ "near",.str<|QQ "ring",.str<|QQ "table"] (c%5)=some (.str<|wrd (c%5).toNat):=by
 have h1:=QU c (show(5:Int)≠0 by decide);have h2:=QW c (show(0:Int)<5 by decide);generalize c%5=z at h1 h2;obtain⟨k,rfl⟩:=Int.eq_ofNat_of_zero_le h1;have J:k<5:=by lia
 match k,J with
 |0,_=>rfl
 |1,_=>rfl
 |2,_=>rfl
 |3,_=>rfl
 |4,_=>rfl
theorem G1(h:k<5):wrd k=QQ "ring"↔k=3:=F1 h (by decide) _ rfl
theorem tmade{G:Hp}(O:p.kd=4)(Z:L<=100)(J:G x=none)(z:G dx=none)(hM:iP G l L tm)(q:∀H',aB G H'->gL K CK CN f CT L tm H' x p->Q (.ref x) H'):eU CT [.ref x,.int 0,.ref l] (upd (upd G dx<|.own x) x<|.ins CT dx []) (λv H2=>v=.VA/\Q (.ref x) H2) E:=
 ⟨x,dx,l,L,tm,rfl,aS,hM.mono<|aB.b<|El J z,Z,λl2 H' k hm U=>⟨rfl,q H' (λb o e=>k b o (bR e J)<|El J z _ _ e)<|.inr<|.inr<|.inr ⟨O,l2,U,hm⟩⟩⟩
inductive fL(K:W.Frag)(CK CN CR CT:QK):List V->Hp->VK->XK->Prop
 |mk (t tb:QK) (p:Pl) (L:Nat) (tm:Nat->Nat->Bool):N=[.ref t,.ref tb]->Y t=some (.tup<|xS p)->iP Y tb L tm->L<=100->p.Ok->(∀r H',aB Y H'->gL K CK CN CR CT L tm H' r p->M (.ref r) H')->fL K CK CN CR CT N Y M D
inductive fQ:List V->Hp->VK->XK->Prop
 |mk (l:QK) (n:Nat) (m:Nat->Nat->Bool):N=[.ref l]->iP Y l n m->n<=100->(∀l2 H',aB Y H'->Y l2=none->H' l2=some (.lst<|(QL n).map λq=>V.int (cQ n m q:Nat))->M (.ref l2) H')->fQ N Y M D
inductive cD:List V->Hp->VK->XK->Prop
 |mk (l l2:QK) (xs:List V) (ys:List Nat):N=[.ref l,.ref l2]->Y l=some (.lst xs)->Y l2=some (.lst<|nL ys)->xs=nL ys->ys.length<=100->M (.bl true) Y->cD N Y M D
inductive dO:List V->Hp->VK->XK->Prop
 |mk (t l1 l2:QK) (x many:Int) (A B:List V):N=[.ref t,.int many]->Y t=some (.tup [.ref l1,.int x,.ref l2])->Y l1=some (.lst A)->Y l2=some (.lst B)->(∀p H',aB Y H'->Y p=none->H' p=some (.lst [.ref l1,.int x,.ref l2])->M (.ref p) H')->dO N Y M D
inductive hJ:List V->Hp->VK->XK->Prop
 |mk (l l2:QK) (ds:List Nat) (pr:List A3) (ts:List V):N=[.ref l,.ref l2]->Y l=some (.lst<|nL ds)->Y l2=some (.lst ts)->gY Y pr ts->ds.length<=100->(∀(i:Nat) p q,ds[i]?=some p->ds[i+1]?=some q->(max p q,min p q,decide<|q<p)∈pr)->(∀H',aB Y H'->M (.bl true) H')->hJ N Y M D
theorem Fg{D:Ends}(σ:α->St)(p:α->Prop){G:Prop}(h:(∀x,p x->P D (σ x) H)->G)(t:∀x,p x->P D (σ x) H):G:=h t
def Em(p:QK)(H X:Hp)(i:Nat):Prop:=L2.X2 λxs ps=>aB H X/\X p=some (.lst xs)/\pC X xs ps/\(∀b,V.ref b∈xs->b≠p)/\(∀q∈ps,gH q)/\ps.length=i
theorem Em.snoc{p:QK}(hp:H p=none)(h:Em p H X i)(hi:i<10){Y:Hp}(s:aB X Y)(h2:X p2=none)(hq:LP Y p2 q)(ok:gH q){R:VK}(k:∀Z,Em p H Z (i+1)->R .VA Z):jL (.ref p) [.ref p2] Y R:=by
 obtain⟨xs,ps,sX,hX,hL,U,ab,J⟩:=h;have O:p2≠p:=λz=>by rw[z,hX] at h2;cases h2
 refine⟨p,xs,_,rfl,rfl,s _ _ hX,oZ<|by rw[hL.len,J];lia,k _ ⟨xs++[.ref p2],ps++[q],(sX.trans s).upd hp,aS,((hL.mono s).upd (s _ _ hX) U).snoc<|hq.upd (s _ _ hX) O,λb hb=>?_,λq' aa=>?_,by rw[aU,J];rfl⟩⟩
 .rcases fG.mp hb with z|z
  .exact U b z
  .cases bY.mp z;exact O
 .rcases fG.mp aa with z|z
  .exact ab q' z
  .rw [bY.mp z];exact ok
inductive cM:List V->Hp->VK->XK->Prop
 |mk (c:Int) (m:Nat):N=[.int c,.int m]->m<=5->(∀l H' xs ps,aB Y H'->Y l=none->H' l=some (.lst xs)->pC H' xs ps->(∀q∈ps,gH q)->ps.length=m->M (.ref l) H')->cM N Y M D
theorem Fj{t:QK}{pl:Pl}(s:aB X H)(O:H t=some (.tup<|xS pl))(J:H p2=none):LP (L2.upd H p2<|.lst [.ref t]) p2 (false,[pl]):=⟨[.ref t],aS,qG.nil.snoc<|aV J _ _ _ O,λz=>by cases z⟩
theorem BL{pl:Pl}(ok:pl.Ok):gH (false,[pl]):=⟨(λp z=>by rw[bY.mp z];exact ok),List.cons_ne_nil _ _,Nat.le_add_left 1 2,λ_=>⟨pl,rfl⟩⟩
theorem rH{ls:List Pl}{b:Bool}(J:b=decide (ls.length≠1))(h:1<=ls.length)(h3:ls.length<=3)(ok:∀p∈ls,p.Ok):gH (b,ls):=⟨ok,(λz=>by have z:ls=[]:=z;rw[z] at h;exact absurd h<|by decide),h3,λz=>by
 have z:b=false:=z;rw[z] at J;exact List.length_eq_one_iff.mp<|Decidable.not_not.mp<|of_decide_eq_false J.symm⟩
inductive jF:List V->Hp->VK->XK->Prop
 |mk (l t:QK) (n:Nat) (m:Nat->Nat->Bool):N=[.ref l,.ref t]->iP Y l n m->n<=100->AM Y t n m->M (.bl true) Y->jF N Y M D
theorem Hl{m:Nat->Nat->Bool}{ms as:List mN}(ha:as.map (·.2)=(QL n).map λk=>((cQ n m k:Int),(k:Int)))(O:ms.Perm as)(hs:ms.Pairwise λx y=>¬ jT y.2 x.2):(ms.map λz=>z.2.2.toNat).Perm (QL n)/\(ms.map λz=>z.2.2.toNat).Pairwise (gV (λp=>(cQ n m p:Int)) false)/\∀z∈ms,z.2.2=((z.2.2.toNat:Nat):Int):=by
 have U:∀z∈as,∃k,z.2=((cQ n m k:Int),(k:Int)):=λz h=>by
  have h1:z.2∈(QL n).map λk=>((cQ n m k:Int),(k:Int)):=by rw[<- ha];exact List.mem_map_of_mem h
  obtain⟨k,_,e⟩:=xR.mp h1;exact⟨k,e.symm⟩
 have pm:(ms.map λz=>z.2.2.toNat).Perm<|QL n:=by
  have e:as.map (λz=>z.2.2.toNat)=QL n:=by
   rw[show(λz:mN=>z.2.2.toNat)=(λy:Int×Int=>y.2.toNat)∘(·.2) from rfl,<- AO,ha,AO];exact(SM λi _=>rfl).trans<|List.map_id _
  rw[<- e];exact O.map _
 refine⟨pm,?_,λz h=>?_⟩
 .have nd:=GB.mp<|pm.nodup_iff.mpr Eo;rw[GB];refine(hs.and nd).imp_of_mem fun {x y} hx hy h=>?_;obtain⟨k,J⟩:=U x<|O.mem_iff.mp hx;obtain⟨j,Z⟩:=U y<|O.mem_iff.mp hy;obtain⟨h1,h2⟩:=h;rw[J,Z] at h1 h2;unfold jT at h1;unfold gV lxf;rw[J,Z];dsimp only[cond] at h1 h2⊢;rw[Int.toNat_natCast,Int.toNat_natCast] at h2⊢;lia
 .obtain ⟨k,J⟩:=U z<|O.mem_iff.mp h;rw[J];rfl
inductive hU:List V->Hp->VK->XK->Prop
 |mk (l l2:QK) (n:Nat) (m:Nat->Nat->Bool):N=[.ref l,.ref l2]->iP Y l n m->n<=30->Y l2=some (.lst<|(QL n).map λq=>V.int (cQ n m q:Nat))->((¬ Bi n m)->M .VA Y)->(Bi n m->∀l3 H' (ds:List Nat),aB Y H'->Y l3=none->H' l3=some (.lst<|nL ds)->ds.Perm (QL n)->ds.Pairwise (gV (λp=>(cQ n m p:Int)) false)->M (.ref l3) H')->hU N Y M D
noncomputable def OY(e:A3):Se:=.tuple [.int e.1,.int e.2.1,.bool e.2.2]
theorem gY.dp{K:W.Frag}{H:Hp}:∀{pr:List A3} {ts:List V},gY H pr ts->aR K H (pr.map OY) ts
 |[],ts,h=>by
  have:ts=[]:=Bk.mp h.len;subst this;exact .nil
 |c::r,[],h=>by have:=h.len;cases this
 |(p,q,b)::r,v::ts,h=>by
  obtain⟨t,a,O⟩:=h.get 0 p q b rfl;have J:v=.ref t:=QR a;subst J;refine .cons (Ih (aY.of O)<|.cons (F5 _)<|.cons (F5 _)<|.cons (DY _) .nil)<|gY.dp ⟨S9 h.len,λj Z q' b' U=>?_⟩;obtain⟨t',a',z⟩:=h.get (j+1) Z q' b' U;exact⟨t',a',z⟩
inductive iq:List V->Hp->VK->XK->Prop
 |mk (ol:QK) (od:List Nat) (cl:Int):N=[.ref ol,.int cl]->Y ol=some (.lst<|nL od)->od.length<=30->(∀p∈od,p<100)->(∀l hls H',aB Y H'->Y l=none->(∀b∈hls,Y b=none)->H' l=some (.lst<|hls.map V.ref)->PL H' hls (dlw (1+cl%4).toNat cl od)->M (.ref l) H')->iq N Y M D
inductive eS(CA:QK)(CR:aN):List V->Hp->VK->XK->Prop
 |mk (c:Ad) (pr:List A3) (wy:Nat) (cl:Int) (ol:QK) (od:List Nat) (post:Option (List Nat)->List A3->Prop):N=[.int wy,.ref c.a,.ref ol,.int cl]->aH CA CR Y c pr->Y ol=some (.lst<|nL od)->od.Perm (QL c.n)->c.n<=30->wy<6->Wp c.n c.an (wA grd c.n wy cl od) pr post->(∀pr',¬ post none pr')->(∀os pr',post (some os) pr'->os.length<=500)->(∀l H' os pr',Fr c.S Y H'->Y l=none->H' l=some (.lst<|nL os)->aH CA CR H' c pr'->post (some os) pr'->M (.ref l) H')->eS CA CR N Y M D
theorem PL.two{A B:List Nat}(h:PL H hls [A,B]):∃a b,hls=[a,b]/\H a=some (.lst<|nL A)/\H b=some (.lst<|nL B):=by
 have hl:hls.length=2:=h.len
 match hls,hl with
 |[a,b],_=>
  exact⟨a,b,rfl,h.at' 0 a _ rfl rfl,h.at' 1 b _ rfl rfl⟩
theorem KN(o:List<|List Nat)(k:Nat):(o.take k).flatten++(o.drop k).flatten=o.flatten:=by rw[<- uM,xP]
section
variable {CR:QK}{us us':List V}
theorem JL{fl:List<|Q3×V}(h:bG H r C fl)(hl:H l=some (.lst us)):bG (upd H l<|.lst us') r C fl:=by
 obtain⟨dx,fs,h1,h2,h3⟩:=h.ex;exact⟨dx,fs,by rw[bF λz=>by rw[z,hl] at h1;cases h1];exact h1,h2,h3⟩
theorem iP.Wt{m:Nat->Nat->Bool}(h:iP H a n m)(hl:H l=some (.lst us))(O:us.length<2)(hn:2<=n):iP (upd H l<|.lst us') a n m:=by
 obtain⟨rs,h1,h2,h3⟩:=h;refine⟨rs,by rw[bF λz=>by rw[z,hl] at h1;cases h1;lia];exact h1,h2,λp J=>?_⟩;obtain⟨r,a1,a2⟩:=h3 p J;refine⟨r,a1,?_⟩;rw[bF (λz=>by
  rw[z,hl] at a2;have e:=QR a2;injection e with e
  rw[e,aM,cU] at O;lia)]
 exact a2
theorem gL.Wt(h:gL K CK CN CR CT L tm H r p)(hl:H l=some (.lst us))(hu:us.length<2)(J:∀a zs,V.ref a∈us->H a≠some (.tup zs))(hL:2<=L):gL K CK CN CR CT L tm (upd H l<|.lst us') r p:=by
 have tp:∀{a zs},H a=some (.tup zs)->upd H l (.lst us') a=some (.tup zs):=fun {a zs} e=>by rw[bF λz=>by rw[z,hl] at e;cases e];exact e
 rcases h with ⟨h0,dx,c,xs,h1,h2,h3,t,zs,rfl,Z⟩|⟨h0,h1⟩|⟨h0,h1⟩|⟨h0,l2,h1,h2⟩
 .refine .inl ⟨h0,dx,c,_,by rw[bF λz=>by rw[z,hl] at h1;cases h1];exact h1,?_,?_,t,zs,rfl,tp Z⟩
  .rcases h2 with (h|⟨o,h⟩)|h
   .refine .inl (.inl ?_);rw[bF λz=>by rw[z,hl] at h;cases h;exact J t zs bH Z];exact h
   .refine .inl (.inr ⟨o,?_⟩);rw[bF λz=>by rw[z,hl] at h;cases h];exact h
   .exact .inr h
  .rw [iT,Dz] at h3⊢;unfold aR at h3;obtain⟨v,ys,e,hv,O⟩:=h3;cases e;refine .cons ?_ (by unfold aR at O⊢;exact O);obtain⟨a,aa,e,g1,U⟩:=Dp.Ye hv;cases e;refine Ih ?_ (by simp only[aR,Dp] at U⊢;exact U);rcases g1 with (h|⟨o,h⟩)|h
   .exact .inl (.inl<|tp h)
   .refine .inl (.inr ⟨o,?_⟩);rw[bF λz=>by rw[z,hl] at h;cases h];exact h
   .exact .inr h
 .exact .inr (.inl ⟨h0,JL h1 hl⟩)
 .exact .inr (.inr<|.inl ⟨h0,JL h1 hl⟩)
 .exact .inr (.inr<|.inr ⟨h0,l2,JL h1 hl,h2.Wt hl hu hL⟩)
theorem gL.WJ(h:gL K CK CN CR CT L tm H r p):∃C d f,H r=some (.ins C d f):=by
 rcases h with ⟨_,dx,c,xs,h1,_⟩|⟨_,h1⟩|⟨_,h1⟩|⟨_,l2,h1,_⟩
 .exact ⟨_,_,_,h1⟩
 all_goals
  obtain⟨dx,fs,e,_⟩:=h1.ex;exact⟨_,_,_,e⟩
theorem jS.WJ(h:jS K CK CN CR CT L tm CV H r q):∃C d f,H r=some (.ins C d f):=by
 rcases h with ⟨_,p,_,b⟩|⟨_,z,xs,b,_⟩
 .exact b.WJ
 .obtain ⟨dx,fs,e,_⟩:=b.ex;exact⟨_,_,_,e⟩
theorem jS.Wt(h:jS K CK CN CR CT L tm CV H r q)(hl:H l=some (.lst us))(U:us.length<2)(J:∀a zs,V.ref a∈us->H a≠some (.tup zs))(O:2<=L)(h3:q.1=true->q.2.length=3):jS K CK CN CR CT L tm CV (upd H l<|.lst us') r q:=by
 rcases h with ⟨h0,p,a,b⟩|⟨h0,Z,xs,a,b,c⟩
 .exact .inl ⟨h0,p,a,b.Wt hl U J O⟩
 .have hx:=c.len;have:=h3 h0;refine .inr ⟨h0,Z,xs,JL a hl,by rw[bF λz=>by rw[z,hl] at b;cases b;lia];exact b,c.len,λi p hp=>?_⟩;obtain⟨r',e,g⟩:=c.get i p hp;exact⟨r',e,g.Wt hl U J O⟩
theorem xJ.nil:xJ K CK CN CR CT L tm H [] []:=⟨rfl,λi p h=>by simp at h⟩
def IJ(K:W.Frag)(CK CN CR CT:QK)(L:Nat)(tm:Nat->Nat->Bool)(CV:QK)(p:QK)(H X:Hp)(ps:List mM):Prop:=∃ys,aB H X/\X p=some (.lst ys)/\Gs K CK CN CR CT L tm CV X ys ps
theorem IJ.snoc{p:QK}{Y:Hp}(hp:H p=none)(I:IJ K CK CN CR CT L tm CV p H X ps)(s:aB X Y)(hr:jS K CK CN CR CT L tm CV Y r q)(hl:ps.length<2)(hL:2<=L)(h3:∀q'∈ps++[q],q'.1=true->q'.2.length=3){R:VK}(k:∀Z,IJ K CK CN CR CT L tm CV p H Z (ps++[q])->R .VA Z):jL (.ref p) [.ref r] Y R:=by
 obtain⟨ys,sX,hX,hP⟩:=I;have hY:=s _ _ hX;have O:=hP.len;have aa:=hP.mono<|aB.b s;have U:∀a zs,V.ref a∈ys->Y a≠some (.tup zs):=λa zs hm e=>by
  obtain⟨i,hi⟩:=SJ hm;obtain⟨q',r',_,e2,g⟩:=aa.at hi;cases e2;obtain⟨_,_,_,e3⟩:=g.WJ;rw[e] at e3;cases e3
 refine⟨p,ys,_,rfl,rfl,hY,oZ<|by lia,k _ ⟨ys++[.ref r],(sX.trans s).upd hp,aS,by rw[aU,aU,O];rfl,λi q' J=>?_⟩⟩;by_cases z:i<ps.length
 .have hm:=h3 q'<|gO J;rw[iE z] at J;obtain⟨r',a,b⟩:=aa.get i q' J;exact⟨r',by rw[iE<|by rw[O];exact z];exact a,b.Wt hY (by lia) U hL hm⟩
 .have hm:=h3 q'<|gO J;have e:=(cV.mp J).1;rw[aU,iK] at e;have e2:i=ps.length:=by lia
  subst e2;rw[gI<|aL _,gN] at J;cases J;exact⟨r,by rw[<- O,gI<|aL _,gN];rfl,hr.Wt hY (by lia) U hL hm⟩
end
inductive iZ(K:W.Frag)(CK CN CR CT CV CC:QK):List V->Hp->VK->XK->Prop
 |mk (l tb:QK) (xs:List V) (ps:List mM) (L:Nat) (tm:Nat->Nat->Bool):N=[.ref l,.ref tb]->Y l=some (.lst xs)->pC Y xs ps->iP Y tb L tm->2<=L->L<=100->(∀q∈ps,gH q)->1<=ps.length->ps.length<=2->(∀r H',aB Y H'->((∃q,ps=[q]/\jS K CK CN CR CT L tm CV H' r q)∨(ps.length=2/\tP K CK CN CR CT L tm CV CC H' r ps))->M (.ref r) H')->iZ K CK CN CR CT CV CC N Y M D
noncomputable abbrev nI(l:List Nat):List Int:=l.map λp:Nat=>(p:Int)
theorem D3(l:List Nat):nL l=(nI l).map V.int:=by unfold nL nI;rw[AO];rfl
theorem JB{ms:List Int}{A l:List Nat}(h:ms.Perm<|nI l)(s:ms.Pairwise (·<=·))(p:A.Perm l)(z:A.Pairwise (·<·)):ms=nI A:=
 List.Perm.eq_of_pairwise (le:=λa b=>a<=b) (λa b _ _ h1 h2=>Int.le_antisymm h1 h2) s (GB.mpr<|z.imp λh=>by lia)<|h.trans<|p.symm.map _
theorem CG{l:List Nat}(h:m<=l.length):gJ (nL l) none (some (m:Int))=(nI<|l.take m).map V.int:=by
 rw[D3];unfold gJ;rw[HT.sIx_none,HT.sIx_nat,aM,aM,xQ h,Nat.sub_zero,List.drop_zero];unfold nI;rw[Dx,Dx]
theorem xw{l:List Nat}(h:m+1<=l.length):gJ (nL l) (some<|(m:Int)+1) none=(nI<|l.drop<|m+1).map V.int:=by
 rw[D3,show((m:Int)+1)=((m+1:Nat):Int) by lia];unfold gJ;rw[HT.sIx_none,HT.sIx_nat,aM,aM,xQ h,pE<|by rw[lC,aM,aM];exact aL _];unfold nI;rw[Dv,Dv]
theorem zc{p q l1 l2:QK}{y:Int}{A B:List Nat}(O:H p=some (.lst [.ref l1,.int y,.ref l2]))(hq:H q=some (.lst [.ref f,.int y,.ref r]))(h1:H l1=some (.lst<|(nI A).map V.int))(h2:H l2=some (.lst<|(nI B).map V.int))(h3:H f=some (.lst<|(nI A).map V.int))(U:H r=some (.lst<|(nI B).map V.int))(k:Q (.bl true) H):yW K (.ref p) (.ref q) H Q:=by
 have la:=Enc.int.list.lay<|nI A;have Z:=Enc.int.list.lay<|nI B;have da:=Enc.int.list.dep<|nI A;have db:=Enc.int.list.dep<|nI B;refine Aa (d:=.list [.list<|(nI A).map SD,.int y,.list<|(nI B).map SD]) (Jr (aD.of O)<|.cons (Eb<|aD.of h1)<|.cons (F5 _)<|.cons (Eb<|aD.of h2) .nil) (Jr (aD.of hq)<|.cons (Eb<|aD.of h3)<|.cons (F5 _)<|.cons (Eb<|aD.of U) .nil) ?_ ?_ k
 .show (Sl (.list<|(nI A).map SD)&&(Sl (.int y)&&(Sl (.list<|(nI B).map SD)&&true)))=true;rw[la,Z];rfl
 .show max (Sr<|.list<|(nI A).map SD) (max (Sr<|.int y)<|max (Sr<|.list<|(nI B).map SD) 0)+1<=64;have:Sr (.int y)=0:=rfl;lia
theorem AF{gb:Nat->Nat->Bool}(h:Bf K CK CN f CT CV CC H ru xs gb)(s:bS H H'):Bf K CK CN f CT CV CC H' ru xs gb:=λi j x y z J H2 Q E s2 k=>h i j x y z J H2 Q E (s.trans s2) k
theorem IZ{R:aN}{G:Hp}{gb:Nat->Nat->Bool}{P:Hp->Prop}(U:G x=none)(aa:G dx=none)(hr:G r=some (.lst xs))(hb:Bf R.k R.ck R.cn R.cr R.ct R.cv R.cc G ru xs gb)(q:∀H' (c:Ad),c.n=xs.length->c.bf=gb->c.a=x->(∀b o,G b=some o->b∉c.S)->aB G H'->aH CA R H' c []->P H'):cE CA [.ref x,.ref r,.ref ru,.VA] (upd (upd G dx<|.own x) x<|.ins CA dx []) (λv H2=>v=.VA/\P H2) E:=by
 have S:=El (C:=CA) U aa;refine⟨x,dx,r,ru,.VA,xs,rfl,aS,S _ _ hr,λrl tl H' k VC J O hI h1 h2=>⟨rfl,?_⟩⟩;have S':aB G H':=λb o e=>k b o (bR e U)<|S _ _ e;have rx:rl≠x:=λz=>by rw[z,aS] at VC;cases VC
 have Z:G tl=none:=by
  cases e:G tl with
  |none=>rfl
  |some o=>rw[S _ _ e] at J;cases J
 refine q H' ⟨xs.length,gb,xs,x,rl,ru,tl,G⟩ rfl rfl rfl (λb o e hm=>?_) S' ⟨hI,h1,⟨[],h2,rfl,λj p q b z=>by simp at z⟩,rfl,aB.b S',⟨U,Z⟩,hb,λz=>?_⟩
 .rcases cL.mp hm with z|z
  .rw [z,U] at e;cases e
  rcases cL.mp z with z|z
  .rw [z,Z] at e;cases e
  .rw [bY.mp z,Z] at e;cases e
 .rcases cL.mp z with z|z
  .exact rx z
  rcases cL.mp z with z|z
  .exact O z
  .exact O (bY.mp z)
noncomputable abbrev kR(n:Nat)(m:Nat->Nat->Bool)(p:Nat):Int:=(cQ n m p:Int)
inductive eK(K:W.Frag)(CK CN CR CT CV CC:QK):List V->Hp->VK->XK->Prop
 |mk (rw ru dl:QK) (cl:Int) (xs:List V) (gb:Nat->Nat->Bool) (od:List Nat):N=[.ref rw,.ref ru,.ref dl,.int cl]->Y rw=some (.lst xs)->xs.length<=30->Bf K CK CN CR CT CV CC Y ru xs gb->Y dl=some (.lst<|nL od)->Bi xs.length gb->od.Perm (QL xs.length)->od.Pairwise (gV (kR xs.length gb) false)->(∀H',aB Y H'->M (.bl true) H')->eK K CK CN CR CT CV CC N Y M D
inductive jB(K:W.Frag)(CK CN CR CT CV CC:QK):List V->Hp->VK->XK->Prop
 |mk (rw ru:QK) (cl:Int) (xs:List V) (gb:Nat->Nat->Bool):N=[.ref rw,.ref ru,.int cl]->Y rw=some (.lst xs)->0<xs.length->xs.length<=30->Bf K CK CN CR CT CV CC Y ru xs gb->(∀H',aB Y H'->M (.bl true) H')->jB K CK CN CR CT CV CC N Y M D
theorem yP(n:Nat):xE 0 (n:Int)=nI (QL n):=by
 unfold xE nI;rw[Int.sub_zero,Int.toNat_natCast];exact SM λi _=>by rw[Rl]
def lA(H:Hp)(L:Nat)(xs:List V)(ts:List<|List Int):Prop:=xs.length=ts.length/\∀(i:Nat) t,ts[i]?=some t->Tg L t/\∃r,xs[i]?=some (V.ref r)/\H r=some (.tup<|t.map V.int)
theorem lA.mono{ts:List<|List Int}(h:lA H L xs ts)(s:aB H H'):lA H' L xs ts:=⟨h.1,λi t e=>by
 obtain⟨a,r,b,c⟩:=h.2 i t e;exact⟨a,r,b,s _ _ c⟩⟩
theorem lA.snoc{ts:List<|List Int}(h:lA H L xs ts){t:List Int}(g:Tg L t)(e:H r=some (.tup<|t.map V.int)):lA H L (xs++[.ref r])<|ts++[t]:=by
 refine⟨by rw[aU,aU,h.1];rfl,λi t' J=>?_⟩;by_cases z:i<ts.length
 .rw [iE z] at J;obtain⟨a,r',b,c⟩:=h.2 i t' J;exact⟨a,r',by rw[iE<|by rw[h.1];exact z];exact b,c⟩
 .have O:=(cV.mp J).1;rw[aU,iK] at O;have e2:i=ts.length:=by lia
  subst e2;rw[gI<|aL _,gN] at J;cases J;exact⟨g,r,by rw[<- h.1,gI<|aL _,gN];rfl,e⟩
theorem lA.at{H:Hp}{L:Nat}{xs:List V}{ts:List<|List Int}(h:lA H L xs ts){i:Nat}{x:V}(e:xs[i]?=some x):∃t r,ts[i]?=some t/\x=.ref r/\Tg L t/\H r=some (.tup<|t.map V.int):=by
 have hi:i<ts.length:=by rw[<- h.1];exact(cV.mp e).1
 obtain⟨a,r,b,c⟩:=h.2 i ts[i] (bV hi);rw[e] at b;cases b;exact⟨_,r,bV hi,rfl,a,c⟩
def QH(H:Hp)(L:Nat)(rl tb pl:QK):Prop:=L2.X5 λxs ts tm xl ps=>H rl=some (.lst xs)/\lA H L xs ts/\xs.length<=14/\iP H tb L tm/\H pl=some (.lst xl)/\pC H xl ps/\(∀q∈ps,gH q)/\1<=ps.length/\ps.length<=2
theorem HM{t:QK}{m:Nat->Nat->Bool}(hA:Bi n m)(h:AM H t n m):False:=by
 obtain⟨_,w,a,b,c,_,_,ha,J,hc,O,hw⟩:=h;have e1:cQ n m a<cQ n m b:=of_decide_eq_true<|(hA a ha b J).symm.trans O;rcases hw with ⟨_,z,_⟩|⟨_,_,_,z⟩|⟨_,_,_,_,U,Z⟩
 .subst z;lia
 .have:=of_decide_eq_true<|(hA b J a ha).symm.trans z;lia
 .have y1:=of_decide_eq_false<|(hA a ha c hc).symm.trans U;have y2:=of_decide_eq_false<|(hA c hc b J).symm.trans Z;lia
theorem CM{x y:List Int}:fF tm [q] x y=tH tm q x y:=by
 unfold fF fF;cases tH tm q x y<;>cases tH tm q y x<;>rfl
theorem CL{ts:List<|List Int}(hR:lA H L xs ts)(ok:∀q∈ps,gH q)(hp:ps.length<=2)(h:(∃q,ps=[q]/\jS K CK CN f CT L tm CV H ru q)∨(ps.length=2/\tP K CK CN f CT L tm CV CC H ru ps)):
  Bf K CK CN f CT CV CC H ru xs λi j=>fF tm ps (ts.getD i []) (ts.getD j []):=λi j x y hx hy H' Q E s k=>by
 obtain⟨ti,ri,e1,rfl,g1,hi⟩:=hR.at hx;obtain⟨U,rj,e2,rfl,Z,hj⟩:=hR.at hy;dsimp only at k;rw[show ts.getD i []=ti by rw[iR,e1];rfl,show ts.getD j []=U by rw[iR,e2];rfl] at k;have J:aY K H' ri<|ti.map V.int:=aY.of<|s _ _ (λ_ z=>by cases z) (λ_ z=>by cases z) hi;have O:aY K H' rj<|U.map V.int:=aY.of<|s _ _ (λ_ z=>by cases z) (λ_ z=>by cases z) hj;rcases h with ⟨q,rfl,h⟩|⟨_,h⟩
 .rw [CM] at k;rcases Md (h.mono s) (ok q bH) J O g1 Z k with h|h|h|h|h
  .exact .inl h
  .exact .inr (.inl h)
  .exact .inr (.inr<|.inl h)
  .exact .inr (.inr<|.inr<|.inl h)
  .exact .inr (.inr<|.inr<|.inr<|.inl h)
 .exact .inr (.inr<|.inr<|.inr<|.inr<|(h.mono s).U9 (.inl rfl) ⟨L,tm,ru,ri,rj,ps,ti,U,rfl,h.mono s,ok,by lia,J,O,g1,Z,k⟩)
def dvP(A O L u q:Lean.Term)(s:String):Lean.Term:=let tk:=fun(w:String)=>(if w=="_" then u else if w=="?" then q else if w=="A" then A else if w=="O" then O else if w=="L" then L else if w.toNat?.isSome then ⟨Lean.Syntax.mkNumLit w⟩ else if w.startsWith "'" then ⟨Lean.Syntax.mkStrLit (w.toList.drop 1|>String.ofList)⟩ else ⟨Lean.mkIdent w.toName⟩:Lean.Term);let st:=fun(k:List (Array Lean.Term))(w:String)=>match w,k with|"(",k=>#[]::k|"[",k=>#[]::k|")",a::b::r=>b.push ⟨Lean.Syntax.mkApp a[0]! (a.extract 1 a.size)⟩::r|"]",a::b::r=>b.push (a.foldr (fun x y=>⟨Lean.Syntax.mkApp (Lean.mkIdent ``List.cons) #[x,y]⟩) ⟨Lean.mkIdent ``List.nil⟩)::r|"",k=>k|w,a::r=>a.push (tk w)::r|_,k=>k;((((((s.replace "(" " ( ").replace ")" " ) ").replace "[" " [ ").replace "]" " ] ").splitOn.foldl st [#[]]).headD #[])[0]!
abbrev dvT:=Lean.TSyntax `tactic
def dvF(l:List dvT):Lean.MacroM dvT:=do let z<-`(tactic|fail);l.foldrM (fun a b=>`(tactic|first|$a:tactic|$b:tactic)) z
def dvM(P:String->Lean.Term)(x:String):Lean.MacroM dvT:=match x.splitOn "|" with|[c,t]=>if c=="" then `(tactic|with_reducible refine' $(P t)) else if c=="!" then `(tactic|refine' $(P t)) else `(tactic|((with_reducible refine (?_:$(P c)));refine' $(P t)))|_=>`(tactic|fail)
def dvG(P:String->Lean.Term)(g:String):Lean.MacroM dvT:=match g.splitOn ";" with|h::r=>(do let t<-dvF (<-r.mapM<|dvM P);`(tactic|((with_reducible refine (?_:$(P h)));$t:tactic)))|_=>`(tactic|fail)
local macro_rules|`(tactic|walk_at "d")=>do let A<-`(by assumption);let O<-`(by first|exact Or.inl rfl|exact Or.inr rfl);let L<-`(fun _ _=>rfl);let u<-`(_);let q<-`(?_);let P:=dvP A O L u q;let G<-("(PE _ _ _);|Hv;|xH;|Fb;|E9;(PE _(PySem.Expr.Name _ _)_)|(pv 0);(PE _(PySem.Expr.Name _ _)_)|(pv 1);(PE _(PySem.Expr.Name _ _)_)|(pv 2);(PE _(PySem.Expr.Name _ _)_)|(pv 3);(PE _(PySem.Expr.Name _ _)_)|(pv 4);(PE _(PySem.Expr.Name _ _)_)|(pv 5);(PE _(PySem.Expr.Name _ _)_)|(pv 6);(PE _(PySem.Expr.Name _ _)_)|(pv 7);(PE _(PySem.Expr.Name _ _)_)|(pv 8);(PE _(PySem.Expr.Name _ _)_)|(pv 9);(PE _(PySem.Expr.Name _ _)_)|(pv 10);(PE _(PySem.Expr.Name _ _)_)|(pv 11);(PE _(PySem.Expr.Name _ _)_)|(JI rfl(Bt.Wh A));(PE _(PySem.Expr.Name _ _)_)|(JI rfl(Bt.Xr A));(PE _(PySem.Expr.Name _ _)_)|(JI rfl(Bt.WX A));(PE _(PySem.Expr.Name _ _)_)|(JI rfl(Bt.Wf A));(PE _(PySem.Expr.Attribute _ _ _)_)|(Fd ? rfl);(PE _(PySem.Expr.Compare _[PySem.CmpOp.Eq]_ _)_)|(Ed Ic ? ?(mG _));(PE _(PySem.Expr.Compare _[PySem.CmpOp.Gt]_ _)_)|(Ed DN ? ?(mG _));(PE _(PySem.Expr.Compare _[PySem.CmpOp.Lt]_ _)_)|(Ed Ji ? ?(mG _));(PE _(PySem.Expr.Compare _[PySem.CmpOp.NotEq]_ _)_)|(Ed Ie ? ?(mG _));|(dS AV ? ?);|(dS Ec ? ?);|(dS GS ? ?);|(dS Jy ? ?);|(dS Jz ? ?);|(JO vd ? ? ?);(PE _(PySem.Expr.Subscript _ _ _)_)|(oW B8 ? ? L);|(Lb ? ?);|(JN ? ? ?);|(Ik ?);|(y4 ?);|(Lc ?);|(D9 ?);|(Hu EF ?);(PE _(PySem.Expr.Call(PySem.Expr.Name 'len _)_ _ _)_)|(mH Mr rfl(Bt.Wx A)TM ?);(PE _(PySem.Expr.Call(PySem.Expr.Name 'max _)_ _ _)_)|(mH(xB rfl)rfl(Bt.XJ A)PyProof.Rows.boot_max ?);(PE _(PySem.Expr.Call(PySem.Expr.Name 'min _)_ _ _)_)|(mH(oQ rfl)rfl(Bt.Xc A)PyProof.Rows.boot_min ?);(PE _(PySem.Expr.Call(PySem.Expr.Name 'sorted _)_ _ _)_)|(mH MK rfl(Bt.VV A)R3 ?);(PE _(PySem.Expr.Call(PySem.Expr.Name 'list _)_ _ _)_)|(qJ jP rfl(Bt.VJ A)Ra ?);(PE _(PySem.Expr.Call(PySem.Expr.Attribute _ 'append _)_ _ _)_)|(AB Rc Rz Ry Gj ? ?);(PE _(PySem.Expr.Call(PySem.Expr.Attribute _ 'extend _)_ _ _)_)|(AB Rc PySem.F.slot_list_extend PySem.F.type_list_extend w6 ? ?);(PE _(PySem.Expr.Call(PySem.Expr.Attribute _ 'insert _)_ _ _)_)|(AB Rc PySem.F.slot_list_insert PySem.F.type_list_insert wZ ? ?);(PE _(PySem.Expr.Call(PySem.Expr.Attribute _ 'pop _)_ _ _)_)|(AB Rc PySem.F.slot_list_pop PySem.F.type_list_pop zj ? ?);(PE _(PySem.Expr.Call(PySem.Expr.Name _ _)_ _ _)_)|(uG A(bO.mn A)rfl cG ?);(PE _(PySem.Expr.Call(PySem.Expr.Name _ _)_ _ _)_)|(DM A(bO.mn A)rfl cG ?);(PE _(PySem.Expr.Call(PySem.Expr.Attribute _ _ _)[]_ _)_)|(GU A(bO.mn A)cG ?);(PE _(PySem.Expr.Call(PySem.Expr.Attribute _ _ _)_ _ _)_)|(iI A(bO.mn A)cG ? ?)#(PA _ _ _);|La;(PA _[_]_)|(bW ?);(PA _[_ _]_)|(dG ? ?);(PA _[_ _ _]_)|(wR ? ? ?);!|(Gb ? ?)#(nM _ _ _);|BJ;|(bP ?);|(aG ? ?)#(L2.PS _ _ _);|(kN ? ? ?);|(nK ?);(L2.PS _(PySem.Stmt.Expr _ _)_)|(Ef ?);|(JQ Q1 ? ?);(L2.PS _(PySem.Stmt.Assign[(PySem.Expr.Name _ _)]_ _)_)|(ya 0 A rfl O ?);(L2.PS _(PySem.Stmt.Assign[(PySem.Expr.Name _ _)]_ _)_)|(ya 1 A rfl O ?);(L2.PS _(PySem.Stmt.Assign[(PySem.Expr.Name _ _)]_ _)_)|(ya 2 A rfl O ?);(L2.PS _(PySem.Stmt.Assign[(PySem.Expr.Name _ _)]_ _)_)|(ya 3 A rfl O ?);(L2.PS _(PySem.Stmt.Assign[(PySem.Expr.Name _ _)]_ _)_)|(ya 4 A rfl O ?);(L2.PS _(PySem.Stmt.Assign[(PySem.Expr.Name _ _)]_ _)_)|(ya 5 A rfl O ?);(L2.PS _(PySem.Stmt.Assign[(PySem.Expr.Name _ _)]_ _)_)|(ya 6 A rfl O ?);(L2.PS _(PySem.Stmt.Assign[(PySem.Expr.Name _ _)]_ _)_)|(ya 7 A rfl O ?);(L2.PS _(PySem.Stmt.Assign[(PySem.Expr.Name _ _)]_ _)_)|(ya 8 A rfl O ?);(L2.PS _(PySem.Stmt.Assign[(PySem.Expr.Name _ _)]_ _)_)|(ya 9 A rfl O ?);(L2.PS _(PySem.Stmt.Assign[(PySem.Expr.Name _ _)]_ _)_)|(ya 10 A rfl O ?);(L2.PS _(PySem.Stmt.Assign[(PySem.Expr.Name _ _)]_ _)_)|(ya 11 A rfl O ?);(L2.PS _(PySem.Stmt.Assign[(PySem.Expr.Attribute _ _ _)]_ _)_)|(Im ? ? rfl);(L2.PS _(PySem.Stmt.For _ _ _ _ _)_)|(lR Q1 rfl ? ? ?);(L2.PS _(PySem.Stmt.AugAssign(PySem.Expr.Name _ _)_ _ _)_)|(KZ 4 A rfl O ? K8);(L2.PS _(PySem.Stmt.AugAssign(PySem.Expr.Name _ _)_ _ _)_)|(KZ 5 A rfl O ? K8);(L2.PS _(PySem.Stmt.AugAssign(PySem.Expr.Name _ _)_ _ _)_)|(KZ 6 A rfl O ? K8);(L2.PS _(PySem.Stmt.AugAssign(PySem.Expr.Attribute _ _ _)_ _ _)_)|(wN ? ? Fx);(L2.PS _(PySem.Stmt.Assign _ _ _)_)|(E1 ? ?)#(PT _ _ _);(PT _(PySem.Expr.Compare _[PySem.CmpOp.Eq]_ _)_)|(tM Ic ? ?(mG _));(PT _(PySem.Expr.Compare _[PySem.CmpOp.GtE]_ _)_)|(tM Hy ? ?(mG _));(PT _(PySem.Expr.Compare _[PySem.CmpOp.Gt]_ _)_)|(tM DN ? ?(mG _));(PT _(PySem.Expr.Compare _[PySem.CmpOp.Is]_ _)_)|(tM Ff ? ?(mG _));(PT _(PySem.Expr.Compare _[PySem.CmpOp.Lt]_ _)_)|(tM Ji ? ?(mG _));(PT _(PySem.Expr.Compare _[PySem.CmpOp.NotEq]_ _)_)|(tM Ie ? ?(mG _));(PT _(PySem.Expr.Compare _[PySem.CmpOp.IsNot]_ _)_)|(tM BV ? ?(mG _));|(AE ?);|(PW.pt(GV ? ?));|(PW.pt(C1 ? ?));!|(tI ?)#(L2.PW _ _ _);|(GV ? ?);|(Iv ?);|(C1 ? ?);|(yX ?)#(PG _ _ _);(PG _(PySem.Expr.Name _ _)_)|(Ek 1 A rfl O);(PG _(PySem.Expr.Name _ _)_)|(Ek 2 A rfl O);(PG _(PySem.Expr.Name _ _)_)|(Ek 3 A rfl O);(PG _(PySem.Expr.Name _ _)_)|(Ek 4 A rfl O);(PG _(PySem.Expr.Name _ _)_)|(Ek 5 A rfl O);(PG _(PySem.Expr.Name _ _)_)|(Ek 6 A rfl O);(PG _(PySem.Expr.Name _ _)_)|(Ek 7 A rfl O);(PG _(PySem.Expr.Name _ _)_)|(Ek 8 A rfl O);(PG _(PySem.Expr.Subscript _ _ _)_)|(E7 ? ? set_list);(PG _(PySem.Expr.Tuple[_ _]_ _)_)|(vx 2 ?);(PG _(PySem.Expr.Tuple[_ _ _]_ _)_)|(vx 3 ?)#(En _ _ _);|KW;(En _(List.cons _ _)_)|(IC ? ?)#(PI _ _ _ _);(PI _ _(PySem.Expr.Call(PySem.Expr.Name 'range _)[_]_ _)_)|(oE rfl(Bt.VL A)?);!|(KY ?)#(PO _ _ _);|(Ge ?);|BQ".splitOn "#").mapM (dvG P);let t<-dvF G;`(tactic|repeat' $t:tactic)
noncomputable abbrev LI:=Nat->St->Hp->Prop
noncomputable abbrev CI:=Nat->List V->St->Hp->Prop
section
variable {P:Q6}{w:Rf}{mg:Q3->Option QM}{base:Rv}{Ce Ci Cj Ck Ch Cd Cc Ca Cb Cf Cg:QK}{Cm:QK}
theorem Qc(F:aK K "straight" "straight" L9 f fd)(T:Bt K mg Ce Ci Cj Ck Ch Cd Cc Ca Cb Cf Cg)
 :aF P w K mg base aC 1 f fd ["many"]<|dM:=by
 refine F.ok Pf (by (intro _ _ _ _ h;cases h;subst_vars;rfl)) λJ A outer s H vs Q E O h=>?_
 refine' ⟨_,(bP<|nK<|qJ (JZ rfl) rfl T.VJ Ra<|bW<|qJ oP rfl T.VL Sb ?_),?_⟩;walk_at "d";obtain⟨n,rfl,hn,q⟩:=h;walk_at "r";refine⟨_,rfl,λp z=>⟨p,0,n,rfl,aS,by lia,λl hl=>?_⟩⟩;have e:(xE 0 n).map V.int=(QL n).map λp=>V.int (p:Nat):=by
  refine S8 λi=>?_;by_cases hi:i<n
  .rw [dB,LL<|by lia,dB,uN hi];show some (V.int<|0+(i:Int))=some (V.int (i:Int));rw[Rl]
  .rw [wu<|by rw[aM,JY];lia,wu<|by rw[aM,cU];lia]
 rw[e];exact q l _ (((aB.refl _).new z).new hl) ((aV z _).free hl) aS
theorem O1(F:aK K "counted_ranks" "counted_ranks" M3 f fd)(T:Bt K mg Ce Ci Cj Ck Ch Cd Cc Ca Cb Cf Cg)
  (O:Fn P w K mg base aC "straight" 1 ["many"]<|dM)
 :aF P w K mg base aC 2 f fd ["pairs"]<|lP:=by
 refine F.ok V9 (by (intro _ _ _ _ h;cases h;subst_vars;rfl)) λah A outer s H vs Q E hr h=>?_
 have aj:=V9.nd;refine' ⟨_,(aG ?_<|bP<|nK<|Ba rfl (k:=1) (js:=[1,0]) (N':=["q","places","pairs"]) (by rfl) ?_ (λ_ _ _ _=>qI (i:=0) (show(["q","places","pairs"]:List Q3).Nodup by decide+kernel) rfl<|by (first | exact Or.inl rfl | exact Or.inr rfl)) (λ_ _ _ _=>C5) λ_ _ _ _=>(mH (iH K) rfl T.Wx TM<|bW<|Ba rfl (k:=1) (js:=[2,0]) (N':=["p","pairs","q"]) (by rfl) (rM K<|pv 1) (λ_ _ _ _=>qI (i:=0) (show(["p","pairs","q"]:List Q3).Nodup by decide+kernel) rfl<|by (first | exact Or.inl rfl | exact Or.inr rfl)) (λ_ _ _ _=>(Gk<|tI<|oW (tG K) (oW (tG K) (pv 1) (pv 0) λ_ _=>rfl) (pv 2) λ_ _=>rfl)) λ_ _ _ _=>(pv 0))),?_⟩;walk_at "d";obtain⟨l,n,m,rfl,hM,hn,q⟩:=h;walk_at "r";obtain⟨rs,hl,VC,hm⟩:=hM;refine⟨l,_,rfl,.inl<|aD.of hl,?_⟩;rw[VC];refine⟨n,rfl,by lia,λpl H1 s1 ai VD=>?_⟩;have ae:=s1 _ _ hl;have z:((QL n).map λp=>V.int ((p:Nat):Int)).length=n:=by rw[aM,cU]
 have aa:∀(i:Nat) x,((QL n).map λp=>V.int ((p:Nat):Int))[i]?=some x->i<n/\x=.int i:=λi x Z=>by
  have h1:=(cV.mp Z).1;rw[z] at h1;rw[dB,uN h1] at Z;cases Z;exact⟨h1,rfl⟩
 let VE:CI:=λi ys σ H'=>∃v,σ=[v,some<|.ref pl,some<|.ref l]/\aB H1 H'/\ys=(QL i).map λq=>V.int (cQ n m q:Nat)
 refine qC (aD.of VD) (by rw[z];lia) VE ⟨_,rfl,.refl _,rfl⟩ (λi ys σ H' _ h=>by obtain⟨_,_,e,e2⟩:=h;rw[e2,aM,cU];exact⟨aD.of<|e _ _ VD,aL _⟩) ?_ ?_
 .rintro i ys x σ H' hi Z ⟨v,rfl,J,rfl⟩;obtain⟨ac,rfl⟩:=aa i x Z;walk_at "r"
  let VS:CI:=λj zs σ H2=>∃v,σ=[v,some<|.ref l,some<|.int i]/\H2=H'/\zs.length=(QL j).countP λx=>m x i
  refine qC (aD.of<|J _ _ VD) (by rw[z];lia) VS ⟨_,rfl,rfl,rfl⟩ (λj zs σ H2 hj h=>by obtain⟨_,_,e,e2⟩:=h;rw[e,e2];exact⟨aD.of<|J _ _ VD,cW List.countP_le_length<|by rw[cU];exact aL _⟩) ?_ ?_
  .rintro j zs y σ H2 hj hy ⟨v,rfl,rfl,hz⟩;obtain⟨ab,rfl⟩:=aa j y hy;obtain⟨r,ad,af⟩:=hm j ab;have ec:(QL<|j+1).countP (λx=>m x i)=(QL j).countP (λx=>m x i)+(if m j i=true then 1 else 0):=by
    rw[uL,List.countP_append];simp[Gz]
   walk_at "r";refine bM (aD.of<|J _ _ ae) (cK (by lia)<|by rw[Int.toNat_natCast];exact ad) ?_;refine bM (aD.of<|J _ _<|s1 _ _ af) (xU ac) ?_;refine cY ?_;cases hk:m j i with
   |true=>
    rw[Z9 rfl];exact dI.of hj ⟨_,rfl,rfl,by rw[ec,hk,aU,hz];rfl⟩
   |false=>
    rw[Z8 kS];exact dI.of hj ⟨_,rfl,rfl,by rw[ec,hk,hz];rfl⟩
  rintro zs σ H2 ⟨v,rfl,rfl,hz⟩ cl ag;rw[z] at hz;refine⟨cl,_,rfl,.inl<|aD.of aS,?_⟩;refine dI.of hi ⟨_,rfl,J.new ag,?_⟩;rw[hz,uL,cF];rfl
 rintro ys σ H' ⟨v,rfl,J,rfl⟩ l2 U;rw[z];exact q l2 _ (s1.trans<|J.new U) ((s1.trans J).free U) aS
theorem Px(F:aK K "are_ranks" "are_ranks" Mn f fd)(T:Bt K mg Ce Ci Cj Ck Ch Cd Cc Ca Cb Cf Cg)
 :aF P w K mg base aC 1 f fd ["pairs","ranks"]<|lQ:=by
 refine F.ok V8 (by (intro _ _ _ _ h;cases h;subst_vars;rfl)) λad A outer s H vs Q E hr h=>?_
 have af:=V8.nd;refine' ⟨_,(aG (lR Q1 rfl (JJ rfl T.VM ?_) ?_<|bP<|lR Q1 rfl (JJ rfl T.VM ?_) ?_ ?_) ?_),?_⟩;walk_at "d";obtain⟨l,l2,n,m,rfl,hM,hn,Z,q⟩:=h;walk_at "r";obtain⟨rs,hl,VC,hm⟩:=hM;refine JE (aD.of hl) (λi σ H'=>L2.X4 λv2 v3 U v5=>σ=[some<|.ref l,some<|.ref l2,v2,v3,U,v5]/\aB H H'/\∀p,p<i->∀q,q<n->m p q=decide (cQ n m p<cQ n m q)) ⟨_,_,_,_,rfl,.refl _,λp h=>by lia⟩ (λi σ H' _ h=>by obtain⟨_,_,_,_,_,e,_⟩:=h;exact aD.of<|e _ _ hl) ?_ ?_
 .rintro i x σ H' p hx ⟨v2,v3,U,v5,rfl,sA,J⟩ hp;have hi:i<n:=by rw[<- VC];exact(cV.mp hx).1
  obtain⟨r,aa,ab⟩:=hm i hi;rw[hx] at aa;cases aa;refine xZ (aY.of aS) rfl ?_;have sB:=sA.new hp (o:=.tup [.int i,.ref r]);generalize upd H' p (.tup [.int i,.ref r])=H2 at sB⊢;walk_at "r";refine JE (aD.of<|sB _ _ ab) (λj σ H'=>L2.X2 λU v5=>σ=[some<|.ref l,some<|.ref l2,some<|.int i,some<|.ref r,U,v5]/\aB H H'/\∀q,q<j->m i q=decide (cQ n m i<cQ n m q)) ⟨_,_,rfl,sB,λq h=>by lia⟩ (λj σ H' _ h=>by obtain⟨_,_,_,e,_⟩:=h;exact aD.of<|e _ _ ab) ?_ ?_
  .rintro j y σ H3 p2 hy ⟨U,v5,rfl,sC,O⟩ ac;have hj:j<n:=by have:=(cV.mp hy).1;rw[aM,cU] at this;exact this
   rw[dB,uN hj] at hy;cases hy;refine xZ (aY.of aS) rfl ?_;have sD:=sC.new ac (o:=.tup [.int j,.bl<|m i j]);generalize upd H3 p2 (.tup [.int j,.bl<|m i j])=H4 at sD⊢;walk_at "r";refine bM (aD.of<|sD _ _ Z) (xU hi)<|bM (aD.of<|sD _ _ Z) (xU hj) ?_;walk_at "r";by_cases ek:m i j=decide (cQ n m i<cQ n m j)
   .rw [Z8 λz=>z<|by rw[ek,decide_eq_decide];lia];refine⟨_,_,rfl,sD,λq hq=>?_⟩;by_cases X0:q<j
    .exact O q X0
    .rw [show q=j by lia];exact ek
   .rw [Z9 λz=>ek<|z.trans<|decide_eq_decide.mpr<|by lia];exact(q _ sD).2 λhA=>ek<|hA i hi j hj
  .rintro σ H3 ⟨U,v5,rfl,sC,O⟩;rw[aM,cU] at O;refine⟨_,_,_,_,rfl,sC,λp' ae=>?_⟩;by_cases Xm:p'<i
   .exact J p' Xm
   .rw [show p'=i by lia];exact O
 rintro σ H' ⟨v2,v3,U,v5,rfl,sA,J⟩;walk_at "r";rw[VC] at J;exact(q _ sA).1 J
theorem O2(F:aK K "odd_thirds" "odd_thirds" ME f fd)(T:Bt K mg Ce Ci Cj Ck Ch Cd Cc Ca Cb Cf Cg)
  (J:Fn P w K mg base aC "straight" 1 ["many"]<|dM)
 :aF P w K mg base aC 2 f fd ["pairs","p","q"]<|lK:=by
 refine F.ok Pe (by (intro _ _ _ _ h;cases h;subst_vars;rfl)) λad A outer s H vs Q E hr h=>?_
 refine' ⟨_,(bP<|nK<|Ba rfl (k:=1) (js:=[0,1,2]) (N':=["r","pairs","p","q"]) (by rfl) ?_ (λ_ _ _ _=>qI (i:=0) (show(["r","pairs","p","q"]:List Q3).Nodup by decide+kernel) rfl<|by (first | exact Or.inl rfl | exact Or.inr rfl)) (λ_ _ _ _=>(Gk<|PW.pt<|GV (AE<|tI<|oW (tG K) (oW (tG K) (pv 1) (pv 2) λ_ _=>rfl) (pv 0) λ_ _=>rfl)<|Iv<|AE<|tI<|oW (tG K) (oW (tG K) (pv 1) (pv 0) λ_ _=>rfl) (pv 3) λ_ _=>rfl)) λ_ _ _ _=>(pv 0)),?_⟩;walk_at "d";obtain⟨l,p,q',n,m,rfl,hM,hn,hp,hq,q⟩:=h;walk_at "r";obtain⟨rs,hl,VC,hm⟩:=hM;refine⟨l,_,rfl,.inl<|aD.of hl,?_⟩;rw[VC];refine⟨n,rfl,by lia,λpl H1 s1 ae VD=>?_⟩;have ab:=s1 _ _ hl;have O:((QL n).map λp=>V.int ((p:Nat):Int)).length=n:=by rw[aM,cU]
 have ac:∀(i:Nat) x,((QL n).map λp=>V.int ((p:Nat):Int))[i]?=some x->i<n/\x=.int i:=λi x Z=>by
  have h1:=(cV.mp Z).1;rw[O] at h1;rw[dB,uN h1] at Z;cases Z;exact⟨h1,rfl⟩
 have z:∀i,i<n->∃r,dX rs (i:Int)=some (.ref r)/\H1 r=some (.lst<|(QL n).map λq=>V.bl<|m i q):=λi hi=>by
  obtain⟨r,a,b⟩:=hm i hi;exact⟨r,cK (by lia) (by rw[Int.toNat_natCast];exact a),s1 _ _ b⟩
 obtain⟨rp,ap,bp⟩:=z p hp
 let VE:CI:=λi ys σ H'=>∃v,σ=[v,some<|.ref l,some<|.int p,some<|.int q']/\H'=H1/\ys=((QL i).filter λr=>!m p r&&!m r q').map λr=>V.int (r:Nat)
 refine qC (aD.of VD) (by rw[O];lia) VE ⟨_,rfl,rfl,rfl⟩ (λi ys σ H' _ h=>by obtain⟨_,_,e,e2⟩:=h;rw[e,e2,aM];exact⟨aD.of VD,cW (Gx _ _)<|by rw[cU];exact aL _⟩) ?_ ?_
 .rintro i ys x σ H' hi Z ⟨v,rfl,rfl,rfl⟩;obtain⟨aa,rfl⟩:=ac i x Z;obtain⟨ri,ai,bi⟩:=z i aa;have ef:(QL<|i+1).filter (λr=>!m p r&&!m r q')=(QL i).filter (λr=>!m p r&&!m r q')++if (!m p i&&!m i q')=true then[i] else[]:=by
   rw[uL,AN];congr 1;rw[List.filter_cons];rfl
  walk_at "r";refine bM (aD.of ab) ap<|bM (aD.of bp) (xU aa)<|cY ?_;cases h1:m p i
  .rw [Z9 rfl];refine bM (aD.of ab) ai<|bM (aD.of bi) (xU hq)<|cY ?_;cases h2:m i q'
   .walk_at "r";refine dI.of hi ⟨_,rfl,rfl,?_⟩;rw[ef,h1,h2,cF];rfl
   .walk_at "r";refine dI.of hi ⟨_,rfl,rfl,?_⟩;rw[ef,h1,h2,cF];exact(kH _).symm
  .rw [Z8<|by decide];refine dI.of hi ⟨_,rfl,rfl,?_⟩;rw[ef,h1,cF];exact(kH _).symm
 rintro ys σ H' ⟨v,rfl,rfl,rfl⟩ l2 U;rw[O];exact q l2 _ (s1.trans<|aV U _) (s1.free U) aS
theorem Oy(F:aK K "flaw_of_two" "flaw_of_two" NC f fd)(T:Bt K mg Ce Ci Cj Ck Ch Cd Cc Ca Cb Cf Cg)
  (O:Fn P w K mg base aC "odd_thirds" 2 ["pairs","p","q"]<|lK)
 :aF P w K mg base aC 3 f fd ["pairs","p","q"]<|va:=by
 refine F.ok V5 (by (intro _ _ _ _ h;cases h;subst_vars;rfl)) λae A outer s H vs Q E hr h=>?_
 have ag:=V5.nd;refine' ⟨_,(aG ?_<|aG ?_<|aG ?_<|bP<|nK<|JN (Kt ?_) ?_ ?_),?_⟩;walk_at "d";obtain⟨l,p,q',n,m,rfl,hM,hn,U,hq,J,q1,q2⟩:=h;walk_at "r";have mk:∀(G:Hp) (w:Q3) (a b c:Nat),aB H G->OU n m w a b c->3<=sizeLine/\∀t3,G t3=none->3<=sizeLine/\∀t,upd G t3 (.tup [.int a,.int b,.int c]) t=none->Q (.ref t) (upd (upd G t3<|.tup [.int a,.int b,.int c]) t<|.tup [.str<|QQ "flaw",.str w,.ref t3]):=λG w a b c sG hF=>⟨bX<|by decide,λt3 h3=>⟨bX<|by decide,λt ht=>q1 t _ (sG.trans<|(aV h3 _).trans<|aV ht _) ⟨t3,w,a,b,c,aS,aV ht _ _ _ aS,hF⟩⟩⟩
 by_cases e:p=q'
 .rw [Z9<|by lia];subst e;exact mk H _ p p p (.refl _) ⟨U,U,U,J,.inl ⟨rfl,rfl,rfl⟩⟩
 rw[Z8<|by lia];obtain⟨rs,hl,VC,hm⟩:=id hM;obtain⟨r,ac,ad⟩:=hm q' hq;refine bM (aD.of hl) (cK (by lia)<|by rw[Int.toNat_natCast];exact ac)<|bM (aD.of ad) (xU U)<|cY ?_;cases hk:m q' p
 .rw [Z8<|by decide];refine⟨l,p,q',n,m,rfl,hM,hn,U,hq,λl2 H2 s2 af h2=>⟨l2,_,rfl,aD.of h2,?_⟩⟩;rcases ht:(QL n).filter (λr=>!m p r&&!m r q') with _|⟨t0,ts⟩
  .rw [Z8<|by decide];refine q2 (λz=>?_) _ s2;rcases z.2 with z|z|⟨x,hx,z1,z2⟩
   .exact e z
   .rw [hk] at z;cases z
   .have:x∈(QL n).filter (λr=>!m p r&&!m r q'):=AQ.mpr ⟨mL.mpr hx,by rw[z1,z2];rfl⟩;rw[ht] at this;cases this
  .rw [Z9<|show(SV (λr=>V.int ((r:Nat):Int))<|t0::ts).isEmpty=false from rfl];rw[ht] at h2;have aa:t0∈(QL n).filter (λr=>!m p r&&!m r q'):=by rw[ht];exact bH
   obtain⟨h1,Z⟩:=AQ.mp aa;have ab:=mL.mp h1;rw[uO,Bool.not_eq_true',Bool.not_eq_true'] at Z;refine bM (aD.of h2) (cK (by decide) rfl) ?_;refine mk H2 _ p q' t0 s2 ⟨U,hq,ab,J,.inr<|.inr ⟨rfl,e,λz=>?_,λz=>?_,Z.1,Z.2⟩⟩
   .rw [<- z,J] at Z;cases Z.1
   .rw [<- z,J] at Z;cases Z.2
 .rw [Z9 rfl];exact mk H _ p q' p (.refl _) ⟨U,hq,U,J,.inr<|.inl ⟨rfl,e,rfl,hk⟩⟩
theorem Oj(F:aK K "flaw_of" "flaw_of" LO f fd)(T:Bt K mg Ce Ci Cj Ck Ch Cd Cc Ca Cb Cf Cg)
  (O:Fn P w K mg base aC "flaw_of_two" 3 ["pairs","p","q"]<|va)
 :aF P w K mg base aC 4 f fd ["pairs"]<|pN:=by
 refine F.ok Vx (by (intro _ _ _ _ h;cases h;subst_vars;rfl)) λae A outer s H vs Q E hr h=>?_
 have ag:=Vx.nd;refine' ⟨_,(aG (lR Q1 rfl (JJ rfl T.VM ?_) ?_<|bP<|lR Q1 rfl (JJ rfl T.VM ?_) ?_ ?_) ?_),?_⟩;walk_at "d";obtain⟨l,n,m,rfl,hM,hn,hA,q⟩:=h;walk_at "r";obtain⟨rs,hl,VC,hm⟩:=id hM;refine JE (aD.of hl) (λi σ H'=>L2.X5 λv1 v2 Z v4 v5=>σ=[some<|.ref l,v1,v2,Z,v4,v5]/\aB H H'/\∀p,p<i->∀q,q<n->¬ GZ n m p q) ⟨_,_,_,_,_,rfl,.refl _,λp h=>by lia⟩ (λi σ H' _ h=>by obtain⟨_,_,_,_,_,_,e,_⟩:=h;exact aD.of<|e _ _ hl) ?_ ?_
 .rintro i x σ H' p hx ⟨v1,v2,Z,v4,v5,rfl,sA,J⟩ hp;have hi:i<n:=by rw[<- VC];exact(cV.mp hx).1
  obtain⟨r,aa,ab⟩:=hm i hi;rw[hx] at aa;cases aa;refine xZ (aY.of aS) rfl ?_;have sB:=sA.new hp (o:=.tup [.int i,.ref r]);generalize upd H' p (.tup [.int i,.ref r])=H2 at sB⊢;walk_at "r";refine JE (aD.of<|sB _ _ ab) (λj σ H'=>L2.X3 λZ v4 v5=>σ=[some<|.ref l,some<|.int i,some<|.ref r,Z,v4,v5]/\aB H H'/\∀q,q<j->¬ GZ n m i q) ⟨_,_,_,rfl,sB,λq h=>by lia⟩ (λj σ H' _ h=>by obtain⟨_,_,_,_,e,_⟩:=h;exact aD.of<|e _ _ ab) ?_ ?_
  .rintro j y σ H3 p2 hy ⟨Z,v4,v5,rfl,sC,U⟩ ac;have hj:j<n:=by have:=(cV.mp hy).1;rw[aM,cU] at this;exact this
   rw[dB,uN hj] at hy;cases hy;refine xZ (aY.of aS) rfl ?_;have sD:=sC.new ac (o:=.tup [.int j,.bl<|m i j]);generalize upd H3 p2 (.tup [.int j,.bl<|m i j])=H4 at sD⊢;walk_at "r";have nx:¬ GZ n m i j->∀q,q<j+1->¬ GZ n m i q:=λh q hq=>by
    by_cases X0:q<j
    .exact U q X0
    .rw [show q=j by lia];exact h
   cases hk:m i j
   .rw [Z8<|by decide,Z8 λz=>z trivial];exact⟨_,_,_,rfl,sD,nx λz=>by have:=z.1;rw[hk] at this;cases this⟩
   .rw [Z9 rfl];refine⟨l,i,j,n,m,rfl,hM.mono<|aB.b sD,hn,hi,hj,hk,λt H5 s5 hF=>?_,λad H5 s5=>?_⟩
    .rw [Z9<|show ¬ (V.ref t=.VA) from λz=>by cases z];exact q t H5 (sD.trans s5) hF
    .rw [Z8<|show ¬ ¬ (V.VA=.VA) from λz=>z rfl];exact⟨_,_,_,rfl,sD.trans s5,nx ad⟩
  .rintro σ H3 ⟨Z,v4,v5,rfl,sC,U⟩;rw[aM,cU] at U;refine⟨_,_,_,_,_,rfl,sC,λp' af=>?_⟩;by_cases Xm:p'<i
   .exact J p' Xm
   .rw [show p'=i by lia];exact U
 rintro σ H' ⟨v1,v2,Z,v4,v5,rfl,sA,J⟩;rw[VC] at J;exact absurd (yR J) hA
theorem P8(F:aK K "check_at" "check_at" L6 f fd)(T:Bt K mg Ce Ci Cj Ck Ch Cd Cc Ca Cb Cf Cg)
 :aF P w K mg base aC 1 f fd ["at"]<|fS:=by
 refine F.ok Val (by (intro _ _ _ _ h;cases h;subst_vars;rfl)) λz A outer s H vs Q E O h=>?_
 refine' ⟨_,(bP<|kN ?_ (bP Gm) ?_),?_⟩;walk_at "d";obtain⟨i,rfl,h0,J,q⟩:=h;walk_at "r";rw[Z8<|by lia,Z8<|by lia];exact q
theorem PD(F:aK K "check_column" "check_column" MS f fd)(T:Bt K mg Ce Ci Cj Ck Ch Cd Cc Ca Cb Cf Cg)
  (z:Fn P w K mg base aC "check_at" 1 ["at"]<|fS)
 :aF P w K mg base aC 2 f fd ["at","way"]<|fR:=by
 refine F.ok Pk (by (intro _ _ _ _ h;cases h;subst_vars;rfl)) λO A outer s H vs Q E U h=>?_
 refine' ⟨_,(aG ?_<|bP<|kN (PW.pt<|GV (tM Ie ?_ (KU rfl T.XH)<|mG _)<|Iv<|tM Ie ?_ (KU rfl T.Xs)<|mG _) (bP Gm) ?_),?_⟩;walk_at "d";obtain⟨i,u,rfl,h0,J,q⟩:=h;walk_at "r";refine⟨i,rfl,h0,J,?_⟩;walk_at "r";split
 .rename_i h1;rw[Z8 λh2=>(Bp u).elim h1 h2];exact q
 .exact q
theorem PN(F:aK K "__init__" "KeyRule.__init__" MQ f fd)(T:Bt K mg Ce Ci Cj Ck Ch Cd Cc Ca Cb Cf Cg)
  (z:Fn P w K mg base aC "check_column" 2 ["at","way"]<|fR)
 :aF P w K mg base aC 3 f fd ["self","columns"]<|eZ K Cd:=by
 refine F.ok gE (by (intro _ _ _ _ h;cases h;subst_vars;rfl)) λaa A outer s H vs Q E hr h=>?_
 have ab:=gE.nd;refine' ⟨_,(aG ?_ ?_),?_⟩;walk_at "d";obtain⟨p,dx,c,xs,cols,rfl,hp,hc,hd,Z,q⟩:=h;walk_at "r"
 let VE:LI:=λi σ H'=>H'=H/\∃U O,σ=[some<|.ref p,some<|.ref c,U,O]
 refine xY hc VE ⟨rfl,_,_,rfl⟩ (λi σ H' _ h=>by rw[h.1];exact hc) ?_ ?_
 .rintro i x σ H' hx ⟨rfl,U,O,rfl⟩;obtain⟨c',t,ec,rfl,ht⟩:=Au hd hx;have J:=Z c'<|gO ec;refine xZ ht rfl ?_;walk_at "r";exact⟨c'.1,c'.2,rfl,J.1,J.2,rfl,_,_,rfl⟩
 .rintro σ H' ⟨rfl,U,O,rfl⟩;walk_at "r";refine⟨c,xs,rfl,.inl hc,λl hl=>?_⟩;exact LG (LX hl hp) T.Dm T.N6 (by decide)<|q l hl
theorem PV(F:aK K "before" "KeyRule.before" M6 f fd)(T:Bt K mg Ce Ci Cj Ck Ch Cd Cc Ca Cb Cf Cg)
 :aF P w K mg base aC 1 f fd ["self","x","y"]<|bC K Cd:=by
 refine F.ok eN (by (intro _ _ _ _ h;cases h;subst_vars;rfl)) λab A outer s H vs Q E hr h=>?_
 have ac:=eN.nd;refine' ⟨_,(aG (lR Q1 rfl ?_ ?_<|bP<|kN ?_ (bP<|nK<|JN (tM Ic ?_ (KU rfl T.XH)<|mG _) ?_ ?_) ?_) ?_),?_⟩;walk_at "d";obtain⟨p,dx,c,x,y,xs,cols,xi,yi,rfl,hp,hc,hd,O,U,hb,q⟩:=h;walk_at "r";refine KO hp T.Dm T.N6 Ht ?_;refine xY hc (λi σ H'=>H'=H/\mX cols xi yi=mX (cols.drop i) xi yi/\∃v3 v4,σ=[some<|.ref p,some<|.ref x,some<|.ref y,v3,v4]) ⟨rfl,rfl,_,_,rfl⟩ (λi σ H' _ h=>by rw[h.1];exact hc) ?_ ?_
 .rintro i v σ H' hv ⟨rfl,J,v3,v4,rfl⟩;obtain⟨c',t,ec,rfl,ht⟩:=Au hd hv;obtain⟨h0,aa,Z⟩:=hb c'<|gO ec;have ax:=uH h0<|xW h0 aa;have ay:=uH h0<|xW h0 Z;rw[xh ec] at J;refine xZ ht rfl ?_;walk_at "r";refine cJ O ax<|cJ U ay ?_;walk_at "r";split
  .rename_i hne;rw[Z8 hne] at J;split
   .rename_i hu;rw[Z9<|uR.mp hu] at J;refine cJ O ax<|cJ U ay ?_;walk_at "r";rw[<- J];exact q
   .rename_i hu;rw[Z8 λz=>hu<|uR.mpr z] at J;refine cJ O ax<|cJ U ay ?_;walk_at "r";rw[<- J];exact q
  .rename_i he;rw[Z9<|Decidable.of_not_not he] at J;exact⟨J,_,_,rfl⟩
 .rintro σ H' ⟨rfl,J,v3,v4,rfl⟩;have hl:xs.length=cols.length:=by rw[hd.length,aM]
  rw[hl,Tf] at J;walk_at "r";rw[show false=mX cols xi yi by rw[J];rfl];exact q
theorem Qr(F:aK K "__init__" "NearRule.__init__" MX f fd)(T:Bt K mg Ce Ci Cj Ck Ch Cd Cc Ca Cb Cf Cg)
  (z:Fn P w K mg base aC "check_at" 1 ["at"]<|fS)
 :aF P w K mg base aC 2 f fd ["self","at","gap"]<|dP Cc:=by
 refine F.ok jY (by (intro _ _ _ _ h;cases h;subst_vars;rfl)) λU A outer s H vs Q E hr h=>?_
 refine' ⟨_,(aG ?_<|aG (kN ?_ (bP Gm) ?_) ?_),?_⟩;walk_at "d";obtain⟨x,dx,a,gp,rfl,O,h0,J,hg,q⟩:=h;walk_at "r";refine⟨a,rfl,h0,J,?_⟩;rw[Z8<|by lia];refine bZ O T.Dg T.Nx (by decide) λH2 Z k2=>?_;walk_at "r";refine bZ Z T.Dg T.N5 CZ λH3 x3 k3=>?_;exact q H3 (λb o n e=>by rw[k3 b n,k2 b n];exact e)<|(bG.of x3<|cW C0<|by decide).congr λf=>by simp only[lS,lkc]
theorem Qp(F:aK K "before" "NearRule.before" NJ f fd)(T:Bt K mg Ce Ci Cj Ck Ch Cd Cc Ca Cb Cf Cg)
 :aF P w K mg base aC 1 f fd ["self","x","y"]<|aX K Cc:=by
 refine F.ok iN (by (intro _ _ _ _ h;cases h;subst_vars;rfl)) λU A outer s H vs Q E Z h=>?_
 refine' ⟨_,(bP ?_),?_⟩;walk_at "d";obtain⟨p,x,y,a,gp,xi,yi,rfl,z,J,O,h0,h1,h2,q⟩:=h;walk_at "r";refine z.get T.Dg T.Nx (by walk_at "l")<|cJ O (uH h0<|xW h0 h2) ?_;refine z.get T.Dg T.Nx (by walk_at "l")<|cJ J (uH h0<|xW h0 h1) ?_;walk_at "r";refine z.get T.Dg T.N5 (by walk_at "l") ?_;walk_at "r";exact q
theorem Qd(F:aK K "__init__" "RingRule.__init__" M0 f fd)(T:Bt K mg Ce Ci Cj Ck Ch Cd Cc Ca Cb Cf Cg)
  (z:Fn P w K mg base aC "check_at" 1 ["at"]<|fS)
 :aF P w K mg base aC 2 f fd ["self","at","size"]<|dN Ca:=by
 refine F.ok jX (by (intro _ _ _ _ h;cases h;subst_vars;rfl)) λU A outer s H vs Q E hr h=>?_
 refine' ⟨_,(aG ?_<|aG (kN ?_ (bP Gm) ?_) ?_),?_⟩;walk_at "d";obtain⟨x,dx,a,gp,rfl,O,h0,J,hg,q⟩:=h;walk_at "r";refine⟨a,rfl,h0,J,?_⟩;rw[Z8<|by lia];refine bZ O T.Df T.N0 (by decide) λH2 Z k2=>?_;walk_at "r";refine bZ Z T.Df T.Nu CZ λH3 x3 k3=>?_;exact q H3 (λb o n e=>by rw[k3 b n,k2 b n];exact e)<|(bG.of x3<|cW C0<|by decide).congr λf=>by simp only[lS,lkc]
theorem Ol(F:aK K "before" "RingRule.before" NK f fd)(T:Bt K mg Ce Ci Cj Ck Ch Cd Cc Ca Cb Cf Cg)
 :aF P w K mg base aC 1 f fd ["self","x","y"]<|aW K Ca:=by
 refine F.ok dQ (by (intro _ _ _ _ h;cases h;subst_vars;rfl)) λU A outer s H vs Q E hr h=>?_
 have Z:=dQ.nd;refine' ⟨_,(aG ?_ ?_),?_⟩;walk_at "d";obtain⟨p,x,y,a,sz,xi,yi,rfl,z,J,O,h0,h1,h2,hsz,q⟩:=h;walk_at "r";refine z.get T.Df T.N0 (by walk_at "l")<|cJ O (uH h0<|xW h0 h2) ?_;refine z.get T.Df T.N0 (by walk_at "l")<|cJ J (uH h0<|xW h0 h1) ?_;walk_at "r";refine z.get T.Df T.Nu (by walk_at "l") ?_;walk_at "r";refine⟨by lia,?_⟩;unfold Jm at q;by_cases h:0<(cX yi a-cX xi a)%sz
 .rw [Z9 h];rw[decide_eq_true h] at q;refine⟨.inl ⟨by decide,by decide⟩,z.get T.Df T.Nu (by walk_at "l") ?_⟩;walk_at "r";exact q
 .rw [Z8 h];rw[decide_eq_false h] at q;exact q
theorem Pp(F:aK K "__init__" "TableRule.__init__" M8 f fd)(T:Bt K mg Ce Ci Cj Ck Ch Cd Cc Ca Cb Cf Cg)
  (aa:Fn P w K mg base aC "check_at" 1 ["at"]<|fS)
 :aF P w K mg base aC 2 f fd ["self","at","table"]<|eU Cb:=by
 refine F.ok eM (by (intro _ _ _ _ h;cases h;subst_vars;rfl)) λah A outer s H vs Q E hr h=>?_
 have ai:=eM.nd;refine' ⟨_,(aG ?_<|aG (lR Q1 rfl ?_ ?_<|bP<|kN ?_ (bP Gm) ?_)<|aG ?_<|bP<|Im ?_ (we (js:=[]) (N:=[]) rfl ?_ λ_ _ _ _=>(qJ (MH K) rfl T.VJ Ra<|bW<|pv 0)) rfl),?_⟩;walk_at "d";obtain⟨x,dx,l,n,m,rfl,hx,hM,hn,q⟩:=h;walk_at "r";refine⟨0,rfl,by decide,by decide,?_⟩;obtain⟨rs,hl,VC,hm⟩:=id hM;have ae:l≠x:=λz=>by rw[z,hx] at hl;cases hl
 walk_at "r";refine xY (aD.of hl) (λi σ X=>∃v,σ=[some<|.ref x,some<|.int 0,some<|.ref l,v]/\X=H) ⟨_,rfl,rfl⟩ (λi σ X _ z=>?_) (λi u σ X hu z=>?_) λσ X z=>?_
 .obtain ⟨_,_,e⟩:=z;rw[e];exact aD.of hl
 .obtain ⟨v,rfl,rfl⟩:=z;have hi:i<n:=by rw[<- VC];exact(cV.mp hu).1
  obtain⟨r,J,ab⟩:=hm i hi;rw[hu] at J;cases J;walk_at "r";refine⟨r,_,rfl,.inl<|aD.of ab,l,_,rfl,.inl<|aD.of hl,?_⟩;rw[aM,cU,VC,Z8 λz=>z rfl];exact⟨_,rfl,trivial⟩
 obtain⟨v,rfl,rfl⟩:=z;walk_at "r";refine bZ hx T.Dh T.Nw (by decide) λH2 x2 k2=>?_;walk_at "r";have ad:H2 l=some (.lst rs):=by rw[k2 l ae];exact hl
 have ag:∀p,p<n->∃r,rs[p]?=some (V.ref r)/\H2 r=some (.lst<|(QL n).map λq=>V.bl<|m p q):=λp hp=>by
  obtain⟨r,a,b⟩:=hm p hp;exact⟨r,a,by rw[k2 r λz=>by rw[z,hx] at b;cases b];exact b⟩
 refine qC (aD.of ad) (by lia) (λi ys σ X=>∃v,σ=[v]/\aB H2 X/\ys.length=i/\∀p,p<i->∃r,ys[p]?=some (V.ref r)/\X r=some (.lst<|(QL n).map λq=>V.bl<|m p q)) ⟨_,rfl,.refl _,rfl,λp h=>by lia⟩ (λi ys σ X _ z=>?_) (λi ys u σ X hi hu z=>?_) λys σ X z p2 ac=>?_
 .obtain ⟨_,_,e,e2,_⟩:=z;exact⟨aD.of<|e _ _ ad,SR e2⟩
 .obtain ⟨v,rfl,sX,U,O⟩:=z;obtain⟨r,J,ab⟩:=ag i (by lia);rw[hu] at J;cases J;walk_at "r";refine⟨r,_,rfl,.inl<|aD.of<|sX _ _ ab,λr2 Z=>.of hi ⟨_,rfl,sX.trans<|aV Z _,by rw[aU,U];rfl,λp hp=>?_⟩⟩;by_cases Xm:p<i
  .obtain ⟨r3,a,b⟩:=O p Xm;exact⟨r3,by rw[iE<|by lia];exact a,aV Z _ _ _ b⟩
  .rw [show p=i by lia];exact⟨r2,by rw[<- U,gI<|aL _,gN];rfl,aS⟩
 obtain⟨v,rfl,sX,U,O⟩:=z;have sY:=sX.trans<|aV ac<|.lst ys;have x3:=sY _ _ x2;refine bZ x3 T.Dh T.N2 CZ λH3 x4 k3=>?_;have nx:∀b o,upd X p2 (.lst ys) b=some o->(∀C d f,o≠.ins C d f)->H3 b=some o:=λb o e af=>by
  rw[k3 b λz=>by rw[z,x3] at e;cases e;exact af _ _ _ rfl];exact e
 refine q p2 H3 (λb o nb e=>?_) ⟨ys,nx _ _ aS (λ_ _ _ z=>by cases z),by rw[U,VC],λp hp=>?_⟩<|(bG.of x4<|cW C0<|by decide).congr λf=>by simp only[lS,lkc]
 .rw [k3 b nb];exact sY _ _<|by rw[k2 b nb];exact e
 .obtain ⟨r,a,b⟩:=O p (by lia);exact⟨r,a,nx _ _ (aV ac _ _ _ b) λ_ _ _ z=>by cases z⟩
theorem PZ(F:aK K "before" "TableRule.before" NO f fd)(T:Bt K mg Ce Ci Cj Ck Ch Cd Cc Ca Cb Cf Cg)
 :aF P w K mg base aC 1 f fd ["self","x","y"]<|bA K Cb:=by
 refine F.ok iC (by (intro _ _ _ _ h;cases h;subst_vars;rfl)) λaa A outer s H vs Q E hr h=>?_
 refine' ⟨_,(bP ?_),?_⟩;walk_at "d";obtain⟨r,x,y,l,n',n,m,xi,yi,i,j,rfl,O,hM,hx,hy,z,J,hi,hj,q⟩:=h;walk_at "r";obtain⟨rs,hl,VC,hm⟩:=id hM;obtain⟨rr,U,Z⟩:=hm i hi;refine O.get T.Dh T.N2 (by walk_at "l") ?_;refine O.get T.Dh T.Nw (by walk_at "l") ?_;refine cJ hx (uH (i:=0) (by decide) z) ?_;refine bM (aD.of hl) (cK (by lia)<|by rw[Int.toNat_natCast];exact U) ?_;refine O.get T.Dh T.Nw (by walk_at "l") ?_;refine cJ hy (uH (i:=0) (by decide) J) ?_;exact bM (aD.of Z) (xU hj) q
theorem PK(F:aK K "__init__" "VoteRule.__init__" M1 f fd)(T:Bt K mg Ce Ci Cj Ck Ch Cd Cc Ca Cb Cf Cg)
 :aF P w K mg base aC 1 f fd ["self","rules"]<|eF Cf:=by
 refine F.ok jW (by (intro _ _ _ _ h;cases h;subst_vars;rfl)) λZ A outer s H vs Q E hr h=>?_
 refine' ⟨_,(bP ?_),?_⟩;walk_at "d";obtain⟨p,dx,c,xs,rfl,O,hc,q⟩:=h;walk_at "r";refine⟨c,xs,rfl,.inl<|aD.of hc,λl hl=>?_⟩;refine bZ (LX hl O) T.Di T.Nv (by decide) λH2 x2 U=>?_;have J:l≠p:=λz=>by rw[z,O] at hl;cases hl
 exact q l H2 hl J (λb o n e=>by rw[U b n,bF<|bR e hl];exact e) (by rw[U l J,aS])<|(bG.of x2<|cW CZ<|by decide).congr λf=>by simp only[lS,lkc]
theorem Ow(F:aK K "before" "VoteRule.before" NL f fd)(T:Bt K mg Ce Ci Cj Ck Ch Cd Cc Ca Cb Cf Cg)
  (Z:Mt P w K mg base aC Cd "before" 1 ["self","x","y"]<|bC K Cd)
  (U:Mt P w K mg base aC Cc "before" 1 ["self","x","y"]<|aX K Cc)
  (O:Mt P w K mg base aC Ca "before" 1 ["self","x","y"]<|aW K Ca)
  (J:Mt P w K mg base aC Cb "before" 1 ["self","x","y"]<|bA K Cb)
 :aF P w K mg base aC 2 f fd ["self","x","y"]<|bT K Cd Cc Ca Cb Cf:=by
 refine F.ok cC (by (intro _ _ _ _ h;cases h;subst_vars;rfl)) λah A outer s H vs Q E hr h=>?_
 refine' ⟨_,(aG (GW (i:=3) cC.nd rfl (Or.inl rfl) rfl (k:=1) (js:=[1,2]) (N':=["rule","x","y"]) (by rfl) ?_ (λ_ _ _ _=>qI (i:=0) (show(["rule","x","y"]:List Q3).Nodup by decide+kernel) rfl<|by (first | exact Or.inl rfl | exact Or.inr rfl)) (λ_ _ _ _=>(Gk<|tI<|kO (iI Z hr.mn cG (pv 0)<|dG (pv 1)<|pv 2)<|kO (iI U hr.mn cG (pv 0)<|dG (pv 1)<|pv 2)<|kO (iI O hr.mn cG (pv 0)<|dG (pv 1)<|pv 2)<|iI J hr.mn cG (pv 0)<|dG (pv 1)<|pv 2)) λ_ _ _ _=>(pv 0))<|aG (GW (i:=4) cC.nd rfl (Or.inl rfl) rfl (k:=1) (js:=[2,1]) (N':=["rule","y","x"]) (by rfl) ?_ (λ_ _ _ _=>qI (i:=0) (show(["rule","y","x"]:List Q3).Nodup by decide+kernel) rfl<|by (first | exact Or.inl rfl | exact Or.inr rfl)) (λ_ _ _ _=>(Gk<|tI<|kO (iI Z hr.mn cG (pv 0)<|dG (pv 1)<|pv 2)<|kO (iI U hr.mn cG (pv 0)<|dG (pv 1)<|pv 2)<|kO (iI O hr.mn cG (pv 0)<|dG (pv 1)<|pv 2)<|iI J hr.mn cG (pv 0)<|dG (pv 1)<|pv 2)) λ_ _ _ _=>(pv 0)) ?_),?_⟩;walk_at "d";obtain⟨L,tm,r,x,y,ps,xi,yi,rfl,hv,ae,ok,hx,hy,lx,ly,q⟩:=h;walk_at "r";obtain⟨l,xs,hI,hl,hs⟩:=hv;have aa:=hs.len;refine hI.get T.Di T.Nv (by walk_at "l") ?_
 let VE:CI:=λi ys σ X=>∃v,σ=[v,some<|.ref x,some<|.ref y]/\X=H/\ys.length=cnt tm (ps.take i) xi yi
 refine qC (aD.of hl) (by lia) VE ⟨_,rfl,rfl,rfl⟩ (λi ys σ X _ z=>?_) (λi ys u σ X hi hu z=>?_) λys σ X z p hp=>?_
 .obtain ⟨v,_,e,e2⟩:=z;rw[e,e2];exact⟨aD.of hl,Av _ _ _ _⟩
 .obtain ⟨v,rfl,rfl,e2⟩:=z;obtain⟨p,a,hp,rfl,ha⟩:=hs.at hu;walk_at "r";refine LW ha (ok p<|gO hp) hx hy lx ly<|cY ?_;have ec:=sU (tm:=tm) xi yi hp;cases hg:jR tm p xi yi
  .rw [hg] at ec;rw[Z8<|by decide];exact .of hi ⟨_,rfl,rfl,by rw[e2,ec];rfl⟩
  .rw [hg] at ec;rw[Z9 rfl];exact .of hi ⟨_,rfl,rfl,by rw[aU,e2,ec];rfl⟩
 obtain⟨v,rfl,rfl,e2⟩:=z;rw[aa,pE<|aL _] at e2;obtain⟨X1,e1,s1,h1⟩:=aT hp<|.lst ys;rw[e1];clear e1;have ag:=hs.mono<|aB.b s1;have ab:=s1 _ _ hl;have af:=s1.VZ hx;have ad:=s1.VZ hy;refine(hI.mono s1).get T.Di T.Nv (by walk_at "l") ?_
 let VS:CI:=λi zs σ X=>∃v,σ=[v,some<|.ref y,some<|.ref x]/\X=X1/\zs.length=cnt tm (ps.take i) yi xi
 refine qC (aD.of ab) (by lia) VS ⟨_,rfl,rfl,rfl⟩ (λi zs σ X _ z=>?_) (λi zs u σ X hi hu z=>?_) λzs σ X z p2 ac=>?_
 .obtain ⟨v,_,e,e2⟩:=z;rw[e,e2];exact⟨aD.of ab,Av _ _ _ _⟩
 .obtain ⟨v,rfl,rfl,e2⟩:=z;obtain⟨p,a,hp,rfl,ha⟩:=ag.at hu;walk_at "r";refine LW ha (ok p<|gO hp) ad af ly lx<|cY ?_;have ec:=sU (tm:=tm) yi xi hp;cases hg:jR tm p yi xi
  .rw [hg] at ec;rw[Z8<|by decide];exact .of hi ⟨_,rfl,rfl,by rw[e2,ec];rfl⟩
  .rw [hg] at ec;rw[Z9 rfl];exact .of hi ⟨_,rfl,rfl,by rw[aU,e2,ec];rfl⟩
 obtain⟨v,rfl,rfl,e3⟩:=z;rw[aa,pE<|aL _] at e3;have s2:=aV ac<|.lst zs;refine⟨p,ys,rfl,.inl<|aD.of<|s2 _ _ h1,p2,zs,rfl,.inl<|aD.of aS,?_⟩;rw[e2,e3];have:=q _<|s1.trans s2;rw[uS] at this;rw[show decide ((cnt tm ps yi xi:Int)<(cnt tm ps xi yi:Int))=decide (0<(cnt tm ps xi yi:Int)-(cnt tm ps yi xi:Int)) from decide_eq_decide.mpr<|by lia];exact this
theorem Oz(F:aK K "__init__" "ChainRule.__init__" M4 f fd)(T:Bt K mg Ce Ci Cj Ck Ch Cd Cc Ca Cb Cf Cg)
 :aF P w K mg base aC 1 f fd ["self","rules"]<|eF Cg:=by
 refine F.ok jK (by (intro _ _ _ _ h;cases h;subst_vars;rfl)) λZ A outer s H vs Q E hr h=>?_
 refine' ⟨_,(bP ?_),?_⟩;walk_at "d";obtain⟨p,dx,c,xs,rfl,O,hc,q⟩:=h;walk_at "r";refine⟨c,xs,rfl,.inl<|aD.of hc,λl hl=>?_⟩;refine bZ (LX hl O) T.Dl T.N7 (by decide) λH2 x2 U=>?_;have J:l≠p:=λz=>by rw[z,O] at hl;cases hl
 exact q l H2 hl J (λb o n e=>by rw[U b n,bF<|bR e hl];exact e) (by rw[U l J,aS])<|(bG.of x2<|cW CZ<|by decide).congr λf=>by simp only[lS,lkc]
theorem O7(F:aK K "before" "ChainRule.before" NM f fd)(T:Bt K mg Ce Ci Cj Ck Ch Cd Cc Ca Cb Cf Cg)
  (aa:Mt P w K mg base aC Cd "before" 1 ["self","x","y"]<|bC K Cd)
  (Z:Mt P w K mg base aC Cc "before" 1 ["self","x","y"]<|aX K Cc)
  (O:Mt P w K mg base aC Ca "before" 1 ["self","x","y"]<|aW K Ca)
  (J:Mt P w K mg base aC Cb "before" 1 ["self","x","y"]<|bA K Cb)
  (U:Mt P w K mg base aC Cf "before" 2 ["self","x","y"]<|bT K Cd Cc Ca Cb Cf)
 :aF P w K mg base aC 3 f fd ["self","x","y"]<|cO K Cd Cc Ca Cb Cf Cg:=by
 refine F.ok dA (by (intro _ _ _ _ h;cases h;subst_vars;rfl)) λaf A outer s H vs Q E hr h=>?_
 have ag:=dA.nd;refine' ⟨_,(aG (lR Q1 rfl ?_ ?_<|aG (kN (tI<|kO (iI aa hr.mn cG ?_ ?_)<|kO (iI Z hr.mn cG ?_ ?_)<|kO (iI O hr.mn cG ?_ ?_)<|kO (iI J hr.mn cG ?_ ?_)<|iI U hr.mn cG ?_ ?_) ?_ ?_)<|bP<|kN (tI<|kO (iI aa hr.mn cG ?_ ?_)<|kO (iI Z hr.mn cG ?_ ?_)<|kO (iI O hr.mn cG ?_ ?_)<|kO (iI J hr.mn cG ?_ ?_)<|iI U hr.mn cG ?_ ?_) ?_ ?_) ?_),?_⟩;walk_at "d";obtain⟨L,tm,r,x,y,ps,xi,yi,rfl,hv,ok,ae,hx,hy,lx,ly,q⟩:=h;walk_at "r";obtain⟨l,xs,hI,hl,hs⟩:=hv;refine hI.get T.Dl T.N7 (by walk_at "l") ?_;have ad:=hs.len
 let VE:LI:=λi σ X=>∃v,σ=[some<|.ref r,some<|.ref x,some<|.ref y,v]/\aB H X/\fF tm ps xi yi=fF tm (ps.drop i) xi yi
 refine xY (aD.of hl) VE ⟨_,rfl,.refl _,rfl⟩ (λi σ X _ z=>?_) (λi u σ X hu z=>?_) λσ X z=>?_
 .obtain ⟨v,_,e,_⟩:=z;exact aD.of<|e _ _ hl
 .obtain ⟨v,rfl,sX,eb⟩:=z;obtain⟨p,a,hp,rfl,ha⟩:=(hs.mono<|aB.b sX).at hu;have ac:=ok p<|gO hp;rw[oV hp] at eb;walk_at "r";refine Md ha ac (sX.VZ hx) (sX.VZ hy) lx ly λX2 s2=>cY ?_;have ab:=sX.trans s2;by_cases h1:tH tm p xi yi=true
  .rw [Z9 h1] at eb⊢;rw[<- eb];exact q _ ab
  rw[Z8 h1] at eb⊢;refine Md (ha.mono<|aB.b s2) ac (ab.VZ hy) (ab.VZ hx) ly lx λX3 s3=>cY ?_;by_cases h2:tH tm p yi xi=true
  .rw [Z9 h2] at eb⊢;rw[<- eb];exact q _<|ab.trans s3
  rw[Z8 h2] at eb⊢;exact⟨_,rfl,ab.trans s3,eb⟩
 .obtain ⟨v,rfl,sX,eb⟩:=z;walk_at "r";rw[ad,Tf] at eb;rw[show false=fF tm ps xi yi by rw[eb];rfl];exact q _ sX
theorem Qn(F:aK K "told_pairs" "told_pairs" MG f fd)(T:Bt K mg Ce Ci Cj Ck Ch Cd Cc Ca Cb Cf Cg)
  (ab:Mt P w K mg base aC Cd "before" 1 ["self","x","y"]<|bC K Cd)
  (aa:Mt P w K mg base aC Cc "before" 1 ["self","x","y"]<|aX K Cc)
  (U:Mt P w K mg base aC Ca "before" 1 ["self","x","y"]<|aW K Ca)
  (J:Mt P w K mg base aC Cb "before" 1 ["self","x","y"]<|bA K Cb)
  (Z:Mt P w K mg base aC Cf "before" 2 ["self","x","y"]<|bT K Cd Cc Ca Cb Cf)
  (O:Mt P w K mg base aC Cg "before" 3 ["self","x","y"]<|cO K Cd Cc Ca Cb Cf Cg)
 :aF P w K mg base aC 4 f fd ["row","rule"]<|iV K Cd Cc Ca Cb Cf Cg:=by
 refine F.ok Pd (by (intro _ _ _ _ h;cases h;subst_vars;rfl)) λah A outer s H vs Q E hr h=>?_
 refine' ⟨_,(bP<|nK<|Ba rfl (k:=1) (js:=[0,1]) (N':=["x","row","rule"]) (by rfl) ?_ (λ_ _ _ _=>qI (i:=0) (show(["x","row","rule"]:List Q3).Nodup by decide+kernel) rfl<|by (first | exact Or.inl rfl | exact Or.inr rfl)) (λ_ _ _ _=>C5) λ_ _ _ _=>(Ba rfl (k:=1) (js:=[2,0]) (N':=["y","rule","x"]) (by rfl) (rM K<|pv 1) (λ_ _ _ _=>qI (i:=0) (show(["y","rule","x"]:List Q3).Nodup by decide+kernel) rfl<|by (first | exact Or.inl rfl | exact Or.inr rfl)) (λ_ _ _ _=>C5) λ_ _ _ _=>(kO (iI ab hr.mn cG (pv 1)<|dG (pv 2)<|pv 0)<|kO (iI aa hr.mn cG (pv 1)<|dG (pv 2)<|pv 0)<|kO (iI U hr.mn cG (pv 1)<|dG (pv 2)<|pv 0)<|kO (iI J hr.mn cG (pv 1)<|dG (pv 2)<|pv 0)<|kO (iI Z hr.mn cG (pv 1)<|dG (pv 2)<|pv 0)<|iI O hr.mn cG (pv 1)<|dG (pv 2)<|pv 0))),?_⟩;walk_at "d";obtain⟨af,ru,xs,gb,rfl,hl,hn,hB,q⟩:=h;walk_at "r"
 let VE:CI:=λi ys σ X=>∃v,σ=[v,some<|.ref af,some<|.ref ru]/\aB H X/\ys.length=i/\∀p,p<i->∃r,ys[p]?=some (V.ref r)/\X r=some (.lst<|(QL xs.length).map λq=>V.bl<|gb p q)
 refine qC (aD.of hl) (by lia) VE ⟨_,rfl,.refl _,rfl,λp h=>by lia⟩ (λi ys σ X _ z=>?_) (λi ys x σ X hi hx z=>?_) λys σ X z p2 ag=>?_
 .obtain ⟨_,_,e,e2,_⟩:=z;exact⟨aD.of<|e _ _ hl,SR e2⟩
 .obtain ⟨v,rfl,sX,ad,ac⟩:=z;walk_at "r"
  let VS:CI:=λj zs σ Y=>∃v,σ=[v,some<|.ref ru,some x]/\aB X Y/\zs=(QL j).map λq=>V.bl<|gb i q
  refine qC (aD.of<|sX _ _ hl) (by lia) VS ⟨_,rfl,.refl _,rfl⟩ (λj zs σ Y _ z=>?_) (λj zs y σ Y hj hy z=>?_) λzs σ Y z p3 ae=>?_
  .obtain ⟨_,_,e,e2⟩:=z;rw[e2,aM,cU];exact⟨aD.of<|e _ _<|sX _ _ hl,aL _⟩
  .obtain ⟨v,rfl,sY,rfl⟩:=z;walk_at "r";refine hB i j x y hx hy Y _ _ (aB.b<|sX.trans sY) ?_;intro Y2 s2;refine .of hj ⟨_,rfl,sY.trans s2,?_⟩;rw[uL,cF];rfl
  obtain⟨v,rfl,sY,rfl⟩:=z;refine .of hi ⟨_,rfl,sX.trans<|sY.trans<|aV ae _,by rw[aU,ad];rfl,λp hp=>?_⟩;by_cases Xm:p<i
  .obtain ⟨r3,a,b⟩:=ac p Xm;exact⟨r3,by rw[iE<|by lia];exact a,aV ae _ _ _<|sY _ _ b⟩
  .rw [show p=i by lia];exact⟨p3,by rw[<- ad,gI<|aL _,gN];rfl,aS⟩
 obtain⟨v,rfl,sX,ad,ac⟩:=z;refine q p2 _ (sX.trans<|aV ag _) ⟨ys,aS,ad,λp hp=>?_⟩;obtain⟨r,a,b⟩:=ac p hp;exact⟨r,a,aV ag _ _ _ b⟩
theorem Oq(F:aK K "ranked" "ranked" Lu f fd)(T:Bt K mg Ce Ci Cj Ck Ch Cd Cc Ca Cb Cf Cg)
  (J:Fn P w K mg base aC "told_pairs" 4 ["row","rule"]<|iV K Cd Cc Ca Cb Cf Cg)
  (z:Fn P w K mg base aC "counted_ranks" 2 ["pairs"]<|lP)
  (O:Fn P w K mg base aC "are_ranks" 1 ["pairs","ranks"]<|lQ)
  (U:Fn P w K mg base aC "flaw_of" 4 ["pairs"]<|pN)
 :aF P w K mg base aC 5 f fd ["row","rule"]<|pK K Cd Cc Ca Cb Cf Cg:=by
 refine F.ok Vz (by (intro _ _ _ _ h;cases h;subst_vars;rfl)) λaa A outer s H vs Q E hr h=>?_
 have ac:=Vz.nd;refine' ⟨_,(aG ?_ ?_),?_⟩;walk_at "d";obtain⟨Z,ru,xs,gb,rfl,hl,hn,hB,q⟩:=h;walk_at "r";refine⟨Z,ru,xs,gb,rfl,hl,hn,hB,λl H1 s1 hM=>?_⟩;refine⟨l,_,gb,rfl,hM,hn,λl2 H2 s2 ab h2=>?_⟩;refine⟨l,l2,_,gb,rfl,hM.mono<|aB.b s2,hn,h2,λH3 s3=>⟨λhA=>cY ?_,λhA=>cY ?_⟩⟩
 .rw [Z9 rfl];exact⟨bX<|by decide,λt ht=>q t _ (s1.trans<|s2.trans<|s3.trans<|aV ht _)<|.inl ⟨hA,l2,aS,aV ht _ _ _<|s3 _ _ h2⟩⟩
 .rw [Z8<|by decide];exact⟨l,_,gb,rfl,(hM.mono<|aB.b s2).mono<|aB.b s3,hn,hA,λt H4 s4 hF=>q t H4 (s1.trans<|s2.trans<|s3.trans s4)<|.inr hF⟩
theorem PU(F:gD K "__init__" "Asker.__init__" Mw f fd dv)(T:Bt K mg Ce Ci Cj Ck Ch Cd Cc Ca Cb Cf Cg)
 :aF P w K mg base aC 1 f fd ["self","row","rule","most"]<|cE Ce:=by
 refine F.ok mT (by (intro _ _ _ _ h;cases h;subst_vars;rfl)) λaa A outer s H vs Q E hr h=>?_
 refine' ⟨_,(aG ?_ ?_),?_⟩;walk_at "d";obtain⟨x,dx,r,ru,m,xs,rfl,hx,U,q⟩:=h;walk_at "r";refine⟨r,xs,rfl,.inl<|aD.of U,λrl VC=>?_⟩;have z:x≠rl:=bR hx VC;obtain⟨H1,e1,s1,h1⟩:=aT VC<|.lst xs;rw[e1];clear e1;refine bZ (s1 _ _ hx) T.De T.Nn (by decide) λH2 x2 k2=>?_;walk_at "r";refine bZ x2 T.De T.N1 CZ λH3 x3 k3=>?_;walk_at "r";refine bZ x3 T.De T.N3 C0 λH4 x4 k4=>?_;walk_at "r";refine bZ x4 T.De T.N8 GR λH5 x5 k5=>?_;walk_at "r";refine⟨bX<|by decide,λtl J=>?_⟩;obtain⟨H6,e6,s6,h6⟩:=aT J<|.lst [];rw[e6];clear e6;have O:x≠tl:=bR x5 J;refine bZ (s6 _ _ x5) T.De T.Ny Jk λH7 x7 Z=>?_;have up:∀b o,b≠x->H b=some o->H5 b=some o:=λb o n e=>by rw[k5 b n,k4 b n,k3 b n,k2 b n];exact s1 b o e
 have h5:H5 rl=some (.lst xs):=by rw[k5 rl<|Q4 z,k4 rl<|Q4 z,k3 rl<|Q4 z,k2 rl<|Q4 z];exact h1
 refine q rl tl H7 (λb o n e=>by rw[Z b n];exact s6 _ _<|up b o n e) VC ?_ (bR h5 J) ((bG.of x7<|cW yZ<|by decide).congr zW) (by rw[Z rl<|Q4 z];exact s6 _ _ h5) (by rw[Z tl<|Q4 O];exact h6);cases e:H tl with
 |none=>rfl
 |some o=>rw[up tl o (Q4 O) e] at J;cases J
theorem Ox(F:aK K "many" "Asker.many" Mx f fd)(T:Bt K mg Ce Ci Cj Ck Ch Cd Cc Ca Cb Cf Cg)
 :aF P w K mg base aC 1 f fd ["self"]<|eP Ce:=by
 refine F.ok mS (by (intro _ _ _ _ h;cases h;subst_vars;rfl)) λz A outer s H vs Q E J h=>?_
 refine' ⟨_,(bP ?_),?_⟩;walk_at "d";obtain⟨a,rl,ru,tl,m,n,xs,rfl,ha,VC,q⟩:=h;walk_at "r";refine ha.get T.De T.Nn (by walk_at "l") ⟨rl,xs,rfl,.inl<|aD.of VC,q⟩
theorem O3(F:aK K "answers" "Asker.answers" MV f fd)(T:Bt K mg Ce Ci Cj Ck Ch Cd Cc Ca Cb Cf Cg)
 :aF P w K mg base aC 1 f fd ["self"]<|iA Ce:=by
 refine F.ok kB (by (intro _ _ _ _ h;cases h;subst_vars;rfl)) λJ A outer s H vs Q E O h=>?_
 refine' ⟨_,(bP ?_),?_⟩;walk_at "d";obtain⟨a,rl,ru,tl,m,n,ts,rfl,ha,z,q⟩:=h;walk_at "r";refine ha.get T.De T.Ny (by walk_at "l") ⟨tl,ts,rfl,.inl<|aD.of z,λl hl=>?_⟩;exact q l _ (aV hl _) hl aS
theorem Ou(F:aK K "ahead" "Asker.ahead" NB f fd)(T:Bt K mg Ce Ci Cj Ck Ch Cd Cc Ca Cb Cf Cg)
  (ab:Mt P w K mg base aC Cd "before" 1 ["self","x","y"]<|bC K Cd)
  (Z:Mt P w K mg base aC Cc "before" 1 ["self","x","y"]<|aX K Cc)
  (U:Mt P w K mg base aC Ca "before" 1 ["self","x","y"]<|aW K Ca)
  (J:Mt P w K mg base aC Cb "before" 1 ["self","x","y"]<|bA K Cb)
  (aa:Mt P w K mg base aC Cf "before" 2 ["self","x","y"]<|bT K Cd Cc Ca Cb Cf)
  (O:Mt P w K mg base aC Cg "before" 3 ["self","x","y"]<|cO K Cd Cc Ca Cb Cf Cg)
 :aF P w K mg base aC 4 f fd ["self","p","q"]<|bU Ce<|aN.mk K Cd Cc Ca Cb Cf Cg:=by
 refine F.ok dR (by (intro _ _ _ _ h;cases h;subst_vars;rfl)) λav A outer s H vs Q E hr h=>?_
 have aw:=dR.nd;refine' bN 4 (aG ?_ ?_) λ_ dZ _=>bN 1 (aG ?_<|aG ?_<|aG (oY (i:=5) dR.nd rfl (by (first | exact Or.inl rfl | exact Or.inr rfl))<|kO (iI ab hr.mn cG ?_ ?_)<|kO (iI Z hr.mn cG ?_ ?_)<|kO (iI U hr.mn cG ?_ ?_)<|kO (iI J hr.mn cG ?_ ?_)<|kO (iI aa hr.mn cG ?_ ?_)<|iI O hr.mn cG ?_ ?_) dZ) λ_ dZ _=>⟨_,(aG (kN ?_ (bP Gm) ?_) dZ),?_⟩
 walk_at "d";obtain⟨a,rl,ru,tl,n,p,q,xs,ts,x,y,b,rfl,ha,VC,au,ao,as,hx,hy,hb,ah,aj,hq⟩:=h;walk_at "r";refine ha.get T.De T.N3 (by walk_at "l") ?_;rw[Z8<|by simp];refine bL ?_;walk_at "r";refine⟨p,q,rfl,p,q,rfl,?_⟩;have one:∀{C:QK} {sp:Sp} {Q':VK},qK C ru (QQ "before") H (sp [.ref ru,x,y] H Q' E0)->QI K a (if q>p then q else p) (if q<p then q else p) H Q' C sp:=by
  intro C sp Q' z;obtain⟨b1,dx,fs,e,h1,h2,r⟩:=z;cases e;refine ha.get T.De T.N1 (by walk_at "l") ⟨_,dx,fs,rfl,h1,h2,?_⟩;rw[zi,FT];exact ha.get T.De T.Nn (by walk_at "l")<|bM (aD.of VC) (cK (by lia) hx)<|ha.get T.De T.Nn (by walk_at "l")<|bM (aD.of VC) (cK (by lia) hy) r
 have am:=λ(Q':VK) k=>Or.imp (one (sp:=bC K Cd)) (Or.imp (one (sp:=aX K Cc))<|Or.imp (one (sp:=aW K Ca))<|Or.imp (one (sp:=bA K Cb))<|Or.imp (one (sp:=bT K Cd Cc Ca Cb Cf))<|one (sp:=cO K Cd Cc Ca Cb Cf Cg))<|hb Q' k;refine am _ λHX sX=>?_;rw[zi,FT];have ag:=ha.mono sX;have ae:=sX _ _ ah;have ai:tl≠a:=ag.ne ae λ_ _ _ z=>by cases z
 refine bL ?_;walk_at "r";refine ag.aug T.De T.N8 (by walk_at "l") λH2 ap k2=>?_;have ad:=ap.congr zX;have ac:H2 tl=some (.lst ts):=by rw[k2 tl ai];exact ae
 walk_at "r";refine ad.get T.De T.Ny (by walk_at "l") ?_;walk_at "r";refine⟨.inl ⟨rfl,_,aD.of ac⟩,bX<|by decide,λt ht=>?_⟩;have aq:t≠tl:=λz=>by rw[z,ac] at ht;cases ht
 have af:t≠a:=ad.neN ht;refine⟨tl,ts,_,rfl,rfl,aV ht _ _ _ ac,ES<|by lia,?_⟩;have fin:=hq t HX (upd (upd H2 t<|.tup [.int<|max p q,.int<|min p q,.bl b]) tl<|.lst<|ts++[.ref t]) sX (by rw[<- k2 t af];exact ht) (ad.keep<|by rw[bF<|Q4 ai,bF<|Q4 af]) aS (by rw[bF aq,aS]) (λc h1 h2 h3=>by rw[bF h2,bF h3,k2 c h1]);by_cases VH:q<p
 .rw [Z9 VH] at fin;show(if _ then _ else _);rw[Z9<|by lia];exact fin
 .rw [Z8 VH] at fin;show(if _ then _ else _);rw[Z8<|by lia];exact fin
theorem Qi(F:gD K "stretch_from" "stretch_from" MU f fd dv)(T:Bt K mg Ce Ci Cj Ck Ch Cd Cc Ca Cb Cf Cg)
  (z:Mt P w K mg base aC Ce "ahead" 4 ["self","p","q"]<|bU Ce<|aN.mk K Cd Cc Ca Cb Cf Cg)
  (J:Mt P w K mg base aC Ce "many" 1 ["self"]<|eP Ce)
 :aF P w K mg base aC 5 f fd ["asker","first","end"]<|pI Ce<|aN.mk K Cd Cc Ca Cb Cf Cg:=by
 refine F.ok OM (by (intro _ _ _ _ h;cases h;subst_vars;rfl)) λaa A outer s H vs Q E hr h=>?_
 have ac:=OM.nd;refine' bN 1 (aG ?_ ?_) λ_ dZ _=>⟨_,(aG ?_ dZ),?_⟩
 walk_at "d";obtain⟨c,pr,first,stop,post,rfl,st,Z,w,q⟩:=h;walk_at "r";rw[Z8<|by simp];walk_at "r";refine bL ?_;walk_at "r";unfold uh at w;by_cases h1:first+1<stop
 .rw [Z9 h1] at w;rw[Z8<|by lia];refine st.ha.U9 (by walk_at "l") ?_;rw[show((first:Int)+1)=((first+1:Nat):Int) by lia];refine st.ahead Z w λb H1 pr1 f1 s1 w1=>?_
  let VE:LI:=λm σ H'=>L2.X4 λ(k n:Nat) (v2:Option V) (pr':List A3)=>m=stop-k/\σ=[some<|.ref c.a,some<|.int first,v2,some<|.int (stop:Nat),some<|.int k,some<|.bl b]/\first+1<k/\stop<=k+n/\Fr c.S H H'/\aH Ce (aN.mk K Cd Cc Ca Cb Cf Cg) H' c pr'/\Wp c.n c.an (pW stop b n k) pr' post
  refine Bc VE ⟨_,first+2,_,_,_,rfl,rfl,by lia,by lia,f1,s1,w1⟩ ?_;rintro m σ H' ⟨k,n,v2,pr',rfl,rfl,ab,hn,fr,s,w⟩;walk_at "r";by_cases Yj:k<stop
  .rw [Z9<|by lia];obtain⟨n,rfl⟩:∃n',n=n'+1:=⟨n-1,by lia⟩
   rw[pW,Z9 Yj] at w;refine s.ha.U9 (by walk_at "l") ?_;rw[show((k:Int)-1)=((k-1:Nat):Int) by lia];refine s.ahead Z w λd H2 pr2 f2 s2 U=>?_;walk_at "r";by_cases hd:d=b
   .rw [Z9 hd];rw[Z9 hd] at U;refine Bb ?_;walk_at "r";exact⟨stop-(k+1),by lia,k+1,n,_,_,rfl,by rw[show((k:Int)+1)=((k+1:Nat):Int) by lia],by lia,by lia,fr.trans f2,s2,U⟩
   .rw [Z8 hd];rw[Z8 hd] at U;exact⟨bX<|by decide,λt O=>q t _ (k,b) _ (fr.trans<|f2.trans (aV O _).fr) (s2.mono<|aV O _) aS U⟩
  .rw [Z8<|by lia];walk_at "r";refine⟨bX<|by decide,λt O=>q t _ (k,b) _ (fr.trans (aV O _).fr) (s.mono<|aV O _) aS ?_⟩;cases n with
   |zero=>exact w
   |succ n=>rw[pW,Z8 Yj] at w;exact w
 .rw [Z8 h1] at w;rw[Z9<|by lia];exact⟨bX<|by decide,λt O=>q t _ (first+1,false) _ (aV O _).fr (st.mono<|aV O _) aS w⟩
theorem Pr(F:aK K "in_turn" "in_turn" LQ f fd)(T:Bt K mg Ce Ci Cj Ck Ch Cd Cc Ca Cb Cf Cg)
 :aF P w K mg base aC 1 f fd ["first","beyond","falling"]<|jC:=by
 refine F.ok Vs (by (intro _ _ _ _ h;cases h;subst_vars;rfl)) λJ A outer s H vs Q E Z h=>?_
 refine' ⟨_,(aG (oY (i:=3) Vs.nd rfl (by (first | exact Or.inl rfl | exact Or.inr rfl))<|qJ (JZ rfl) rfl T.VJ Ra<|bW<|qJ oO rfl T.VL Sb ?_)<|aG (kN ?_ (bP<|Ef<|Fe Rc PySem.F.slot_list_reverse PySem.F.type_list_reverse ur ?_) ?_) ?_),?_⟩;walk_at "d";obtain⟨first,j,f,rfl,U,O,q⟩:=h;walk_at "r";refine⟨first,j,rfl,λp z=>⟨p,first,j,rfl,aS,by lia,λl hl=>?_⟩⟩;have S:aB H<|upd (upd H p<|.rng first j) l<|.lst<|(xE (first:Int) (j:Int)).map V.int:=((aB.refl H).new z).new hl;have hn:H l=none:=((aB.refl H).new z).free hl;rw[nW] at S⊢;cases f with
 |true=>
  rw[Z9 rfl];refine⟨.inl ⟨rfl,_,aD.of aS⟩,l,_,rfl,rfl,aS,?_⟩;rw[uV];refine q l _ (((aB.refl H).new z).new hl) hn ?_;rw[aS];unfold dJ nL;rw[Z9 rfl,List.map_reverse]
 |false=>
  rw[Z8<|by decide];refine q l _ S hn ?_;rw[aS];rfl
theorem Ov(F:aK K "spot_of" "spot_of" LV f fd)(T:Bt K mg Ce Ci Cj Ck Ch Cd Cc Ca Cb Cf Cg)
  (J:Mt P w K mg base aC Ce "ahead" 4 ["self","p","q"]<|bU Ce<|aN.mk K Cd Cc Ca Cb Cf Cg)
 :aF P w K mg base aC 5 f fd ["asker","order","place"]<|iW Ce<|aN.mk K Cd Cc Ca Cb Cf Cg:=by
 refine F.ok V1 (by (intro _ _ _ _ h;cases h;subst_vars;rfl)) λac A outer s H vs Q E hr h=>?_
 have ae:=V1.nd;refine' ⟨_,(aG ?_ ?_),?_⟩;walk_at "d";obtain⟨c,pr,os,pl,ol,post,rfl,st,O,U,hk,w,q⟩:=h;walk_at "r";refine⟨ol,_,rfl,.inl<|aD.of O,?_⟩;rw[aM]
 let VE:LI:=λm σ H'=>L2.X5 λ(z high n:Nat) (v5:Option V) (pr':List A3)=>m=high-z/\σ=[some<|.ref c.a,some<|.ref ol,some<|.int pl,some<|.int z,some<|.int high,v5]/\high<=os.length/\high-z<=n/\Fr c.S H H'/\aH Ce (aN.mk K Cd Cc Ca Cb Cf Cg) H' c pr'/\Wp c.n c.an (AS os pl n z high) pr' post
 refine Bc VE ⟨_,0,os.length,os.length,_,pr,rfl,rfl,aL _,aL _,.refl,st,w⟩ ?_;rintro m σ H' ⟨z,high,n,v5,pr',rfl,rfl,ad,hn,fr,s,w⟩;walk_at "r";by_cases VH:z<high
 .rw [Z9<|by lia];refine Bb ?_;walk_at "r";obtain⟨n,rfl⟩:∃n',n=n'+1:=⟨n-1,by lia⟩
  rw[AS,Z9 VH] at w;have Z:z<=(z+high)/2:=by lia
  have aa:(z+high)/2<high:=by lia
  have ab:((z:Int)+high)/2=((z+high)/2:Nat):=by lia
  refine⟨⟨by decide,by decide⟩,?_⟩;rw[ab];generalize (z+high)/2=mi at w Z aa;have ho:=(qD (os:=os) (i:=mi)<|by lia).1;generalize os.getD mi 0=o at ho w;refine s.ha.U9 (by walk_at "l") ?_;refine bM (aD.of<|fr _ _ U O) (wc ho) ?_;refine s.ahead hk w λb H2 pr2 f2 s2 w2=>?_;refine cY ?_;cases b
  .rw [Z8<|by decide];exact⟨mi-z,by lia,z,mi,n,_,pr2,rfl,rfl,by lia,by lia,fr.trans f2,s2,w2⟩
  .rw [Z9 rfl];exact⟨high-(mi+1),by lia,mi+1,high,n,_,pr2,rfl,rfl,by lia,by lia,fr.trans f2,s2,w2⟩
 .rw [Z8<|by lia];walk_at "r";refine q z H' pr' fr s ?_;cases n with
  |zero=>exact w
  |succ n=>rw[AS,Z8 VH] at w;exact w
theorem O6(F:gD K "filled" "filled" Lp f fd dv)(T:Bt K mg Ce Ci Cj Ck Ch Cd Cc Ca Cb Cf Cg)
  (J:Fn P w K mg base aC "stretch_from" 5 ["asker","first","end"]<|pI Ce<|aN.mk K Cd Cc Ca Cb Cf Cg)
  (af:Fn P w K mg base aC "in_turn" 1 ["first","beyond","falling"]<|jC)
  (ae:Fn P w K mg base aC "spot_of" 5 ["asker","order","place"]<|iW Ce<|aN.mk K Cd Cc Ca Cb Cf Cg)
  (O:Mt P w K mg base aC Ce "many" 1 ["self"]<|eP Ce)
 :aF P w K mg base aC 6 f fd ["asker","first","least","end"]<|lO Ce<|aN.mk K Cd Cc Ca Cb Cf Cg:=by
 refine F.ok V2 (by (intro _ _ _ _ h;cases h;subst_vars;rfl)) λav A outer s H vs Q E hr h=>?_
 have ax:=V2.nd;refine' bN 4 (aG (lR Q1 rfl (wQ rfl T.VL ?_) ?_ ?_) ?_) λ_ dZ _=>bN 1 (aG ?_<|aG ?_<|aG ?_ dZ) λ_ dZ _=>⟨_,(aG ?_ dZ),?_⟩
 walk_at "d";obtain⟨c,pr,first,ls,stop,post,rfl,st,hk,hf,hs,w,q⟩:=h;walk_at "r";rw[Z8<|by simp];walk_at "r";refine bL ?_;walk_at "r";refine⟨c,pr,first,stop,_,rfl,st,hk,(w.bind).Wd<|qU hf,λt H1 r pr1 ah ac ht hw=>?_⟩;obtain⟨⟨aq,ap⟩,w1⟩:=hw;obtain⟨j,f⟩:=r;dsimp only at aq ap ht w1;refine cJ (aY.of ht) (cK (by decide) rfl) ?_;refine cJ (aY.of ht) (cK (by decide) rfl) ⟨first,j,f,rfl,by lia,by lia,λol H2 s2 Z ao=>?_⟩;have am:=ac.mono s2;have ad:=ac.off Z;have ag:H ol=none:=ac.free ah Z;rw[uW] at w1;refine bL ?_;walk_at "r";refine⟨_,_,rfl,?_⟩;rw[FT,show min ((first:Int)+ls) stop=(min (first+ls) stop:Nat) by lia];have au:=nR first j f
 let VE:LI:=λi σ H'=>L2.X4 λ(v3 v8:Option V) (os:List Nat) (pr':List A3)=>σ=[some<|.ref c.a,some<|.int first,some<|.int ls,v3,some<|.int stop,some<|.ref t,some<|.int j,some<|.ref ol,v8]/\H' ol=some (.lst<|nL os)/\os.length=j+i-first/\Fr c.S H H'/\aH Ce (aN.mk K Cd Cc Ca Cb Cf Cg) H' c pr'/\Wp c.n c.an (jM Az (min (first+ls) stop-j-i) (j+i) os) pr' λai pr2=>post (j,ai) pr2
 refine zU (by lia)<|tK VE ⟨_,_,_,_,rfl,ao,by lia,ah.trans s2.fr,am,w1.bind⟩ ?_ ?_
 .rintro i σ H' hi ⟨v3,v8,os,pr',rfl,z,ho,fr,ab,w'⟩;walk_at "r";have aw:j+i<min (first+ls) stop:=by lia
  rw[show min (first+ls) stop-j-i=(min (first+ls) stop-j-(i+1))+1 by lia,jM] at w';rw[show((j:Int)+i)=((j+i:Nat):Int) by lia];refine⟨.inl ⟨rfl,_,aD.of z⟩,c,pr',os,j+i,ol,_,rfl,ab,z,Ad.SA ad,hk,(w'.bind).Wd<|Lx os<|j+i,λr H3 pr3 Wv aj hp=>?_⟩;obtain⟨as,w3⟩:=hp;have U:=Wv _ _ (Ad.SA ad) z;refine⟨ol,_,_,_,rfl,rfl,U,oZ<|by rw[aM];lia,by lia,?_⟩;rw[KQ as];refine⟨_,_,lY os r<|j+i,pr3,rfl,aS,?_,λb o n h=>?_,aj.upd U ad,w3⟩
  .have:=dH (os:=os) (r:=r) (x:=j+i) |>.length_eq
   rw[this,aU,iK];lia
  .rw [bF<|bR h ag];exact Wv _ _ n<|fr _ _ n h
 rintro σ H' ⟨v3,v8,os,pr',rfl,z,ho,fr,ab,w'⟩;walk_at "r";rw[show min (first+ls) stop-j-((min (first+ls) stop:Nat)-(j:Int)).toNat=0 by lia] at w';refine⟨bX<|by decide,λt2 aa=>?_⟩;exact q t2 ol _ (j,os) pr' (fr.trans (aV aa _).fr) ag (ab.mono<|aV aa _) aS (aV aa _ _ _ z) w'
theorem Op(F:aK K "leap" "leap" Kz f fd)(T:Bt K mg Ce Ci Cj Ck Ch Cd Cc Ca Cb Cf Cg)
  (O:Mt P w K mg base aC Ce "ahead" 4 ["self","p","q"]<|bU Ce<|aN.mk K Cd Cc Ca Cb Cf Cg)
 :aF P w K mg base aC 5 f fd ["asker","order","first","place"]<|lL Ce<|aN.mk K Cd Cc Ca Cb Cf Cg:=by
 refine F.ok OQ (by (intro _ _ _ _ h;cases h;subst_vars;rfl)) λag A outer s H vs Q E hr h=>?_
 have ai:=OQ.nd;refine' bN 5 (aG ?_ ?_) λ_ dZ _=>⟨_,(aG ?_<|aG ?_<|aG ?_<|aG ?_<|aG ?_ dZ),?_⟩
 walk_at "d";obtain⟨c,pr,ol,os,f,pl,post,rfl,st,Z,U,ae,hk,w,q⟩:=h;walk_at "r";have hd:(os.drop f).length=os.length-f:=lC ..;apply HE λ(lo hi:Nat) (_:Int) (H':Hp)=>L2.X2 λ(n:Nat) (pr':List A3)=>hi-lo<=n/\hi<=(os.drop f).length/\Fr c.S H H'/\aH Ce (aN.mk K Cd Cc Ca Cb Cf Cg) H' c pr'/\Wp c.n c.an (iO (os.drop f) pl n lo hi) pr' post
 .intro J
  let VE:LI:=λm σ H'=>L2.X4 λ(lo hi n:Nat) (pr':List A3)=>m=os.length+1-hi/\σ=[some<|.ref c.a,some<|.ref ol,some<|.int f,some<|.int pl,some<|.int<|(f:Int)+lo-1,some<|.int<|(f:Int)+hi,some<|.int<|(hi:Int)+1,none]/\lo<=hi/\(os.drop f).length<=n+hi/\Fr c.S H H'/\aH Ce (aN.mk K Cd Cc Ca Cb Cf Cg) H' c pr'/\Wp c.n c.an (pZ (os.drop f) pl n lo hi) pr' λr pr2=>Wp c.n c.an (iO (os.drop f) pl (os.drop f).length r.1<|min r.2 (os.drop f).length) pr2 post
  refine Bc VE ⟨_,0,0,_,pr,rfl,by rw[Int.natCast_zero,Int.add_zero,Rl],aL _,Ew _ _,.refl,st,w.bind⟩ ?_;rintro m σ H' ⟨lo,hi,n,pr',rfl,rfl,ah,hn,fr,s,w⟩;walk_at "r";have z:=fr _ _ U Z;refine⟨ol,_,rfl,.inl<|aD.of z,?_⟩;rw[aM];by_cases hf:hi<(os.drop f).length
  .rw [Z9<|by lia];have ho:=sE hf;obtain⟨n,rfl⟩:∃n',n=n'+1:=⟨n-1,by lia⟩
   rw[pZ,Z9 hf] at w;generalize (os.drop f).getD hi 0=o at ho w;refine s.ha.U9 (by walk_at "l") ?_;refine bM (aD.of z) (by rw[show(f:Int)+hi=((f+hi:Nat):Int) by lia];exact wc ho) ?_;refine s.ahead hk w λb H2 pr2 f2 s2 w2=>?_;refine cY ?_;cases b
   .rw [Z8<|by decide];refine⟨ol,_,rfl,.inl<|aD.of<|f2 _ _ U z,_,_,rfl,?_⟩;rw[aM,FT,show min ((f:Int)+hi) os.length=(f:Int)+(hi:Nat) by lia];have w3:Wp c.n c.an (iO (os.drop f) pl (os.drop f).length lo<|min hi (os.drop f).length) pr2 post:=w2;rw[xQ<|by lia] at w3;generalize (hi:Int)+1=wd;exact J lo hi wd H2 ⟨_,pr2,by lia,by lia,fr.trans f2,s2,w3⟩
   .rw [Z9 rfl];refine Bb ?_;walk_at "r";refine⟨.inr ⟨by decide,by decide⟩,os.length+1-(2*hi+1),by lia,hi+1,2*hi+1,n,pr2,rfl,?_,by lia,by lia,fr.trans f2,s2,w2⟩;rw[show(f:Int)+((hi+1:Nat):Int)-1=f+hi by lia,show(f:Int)+((2*hi+1:Nat):Int)=f+hi+(hi+1) by lia,show((2*hi+1:Nat):Int)+1=((hi:Int)+1)*2 by lia]
  .rw [Z8<|by lia];refine⟨ol,_,rfl,.inl<|aD.of z,_,_,rfl,?_⟩;have w3:Wp c.n c.an (iO (os.drop f) pl (os.drop f).length lo<|min hi (os.drop f).length) pr' post:=by
    cases n with
    |zero=>exact w
    |succ n=>rw[pZ,Z8 hf] at w;exact w
   rw[SI<|by lia] at w3;rw[aM,FT,show min ((f:Int)+hi) os.length=(f:Int)+((os.drop f).length:Nat) by lia];generalize (hi:Int)+1=wd;have e5:Wp c.n c.an (iO (os.drop f) pl (os.drop f).length lo (os.drop f).length) pr' post/\(os.drop f).length<=(os.drop f).length:=⟨w3,aL _⟩
   generalize Yp:(os.drop f).length=h2 at e5⊢;rw[Yp] at hd;exact J lo h2 wd H' ⟨h2,pr',by lia,by lia,fr,s,e5.1⟩
 rintro lo hi wd H1 ⟨n,pr1,hn,aa,ac,ab,w1⟩;refine bL ?_;walk_at "r"
 let VS:LI:=λm σ H'=>L2.X5 λ(lo hi n:Nat) (v7:Option V) (pr':List A3)=>m=hi-lo/\σ=[some<|.ref c.a,some<|.ref ol,some<|.int f,some<|.int pl,some<|.int<|(f:Int)+lo-1,some<|.int<|(f:Int)+hi,some<|.int wd,v7]/\hi-lo<=n/\hi<=(os.drop f).length/\Fr c.S H H'/\aH Ce (aN.mk K Cd Cc Ca Cb Cf Cg) H' c pr'/\Wp c.n c.an (iO (os.drop f) pl n lo hi) pr' post
 refine Bc VS ⟨_,lo,hi,n,_,pr1,rfl,rfl,hn,aa,ac,ab,w1⟩ ?_;clear hn aa ac ab w1;rintro m σ H' ⟨lo,hi,n,v7,pr',rfl,rfl,hn,aa,fr,s,w⟩;walk_at "r";by_cases VH:lo<hi
 .rw [Z9<|by lia];refine Bb ?_;walk_at "r";refine⟨⟨by decide,by decide⟩,?_⟩;obtain⟨n,rfl⟩:∃n',n=n'+1:=⟨n-1,by lia⟩
  rw[iO,Z9 VH] at w;have ad:lo<=(lo+hi-1)/2:=by lia
  have af:(lo+hi-1)/2<hi:=by lia
  rw[show((f:Int)+lo-1+(f+hi))/2=((f+(lo+hi-1)/2:Nat):Int) by lia];generalize (lo+hi-1)/2=mi at w ad af;have ho:=sE (os:=os) (f:=f) (i:=mi) (by lia);generalize (os.drop f).getD mi 0=o at ho w;have z:=fr _ _ U Z;refine s.ha.U9 (by walk_at "l") ?_;refine bM (aD.of z) (wc ho) ?_;refine s.ahead hk w λb H2 pr2 f2 s2 w2=>?_;refine cY ?_;cases b
  .rw [Z8<|by decide];exact⟨mi-lo,by lia,lo,mi,n,_,pr2,rfl,by rw[show((f+mi:Nat):Int)=(f:Int)+mi by lia],by lia,by lia,fr.trans f2,s2,w2⟩
  .rw [Z9 rfl];exact⟨hi-(mi+1),by lia,mi+1,hi,n,_,pr2,rfl,by rw[show(f:Int)+((mi+1:Nat):Int)-1=((f+mi:Nat):Int) by lia],by lia,by lia,fr.trans f2,s2,w2⟩
 .rw [Z8<|by lia];walk_at "r";have w4:post hi pr':=by
   cases n with
   |zero=>exact w
   |succ n=>rw[iO,Z8 VH] at w;exact w
  rw[show(f:Int)+hi-f=((hi:Nat):Int) by lia];exact q hi H' pr' fr s w4
theorem QA(F:aK K "__init__" "Join.__init__" Mf f fd)(T:Bt K mg Ce Ci Cj Ck Ch Cd Cc Ca Cb Cf Cg)
 :aF P w K mg base aC 1 f fd ["self","asker","left","right"]<|lM Ci:=by
 refine F.ok pV (by (intro _ _ _ _ h;cases h;subst_vars;rfl)) λau A outer s H vs Q E hr h=>?_
 refine' ⟨_,(aG ?_ ?_),?_⟩;walk_at "d";obtain⟨x,dx,ak,al,ar,ls,rs,rfl,hx,ab,ae,q⟩:=h;walk_at "r";have aq:al≠x:=λz=>by rw[z,hx] at ab;cases ab
 have ao:ar≠x:=λz=>by rw[z,hx] at ae;cases ae
 refine bZ hx T.Dc T.Nr (by decide) λH2 x2 k2=>?_;walk_at "r";refine⟨al,_,rfl,.inl (aD.of<|by rw[k2 al aq];exact ab),λla U=>?_⟩;obtain⟨H3,e3,s3,h3⟩:=aT U<|.lst<|nL ls;rw[e3];clear e3;refine⟨ar,_,rfl,.inl (aD.of<|s3 _ _<|by rw[k2 ar ao];exact ae),λra aa=>?_⟩;obtain⟨H4,e4,s4,h4⟩:=aT aa<|.lst<|nL rs;rw[e4];clear e4;refine⟨bX<|by decide,λsd O=>?_⟩;obtain⟨H5,e5,s5,h5⟩:=aT O<|.tup [.ref la,.ref ra];rw[e5];clear e5;have x5:=s5 _ _<|s4 _ _<|s3 _ _ x2;refine bZ x5 T.Dc T.Nj CZ λH6 x6 k6=>?_;walk_at "r";refine⟨bX<|by decide,λtk VQ=>?_⟩;obtain⟨H7,e7,s7,h7⟩:=aT VQ<|.lst [.int 0,.int 0];rw[e7];clear e7;have x7:=s7 _ _ x6;refine bZ x7 T.Dc T.Nh C0 λH8 x8 k8=>?_;walk_at "r";refine⟨bX<|by decide,λpc J=>?_⟩;obtain⟨H9,e9,s9,h9⟩:=aT J<|.lst [];rw[e9];clear e9;have x9:=s9 _ _ x8;refine bZ x9 T.Dc T.Np GR λHA xA kA=>?_;have ad:la≠x:=Q4<|bR x2 U;have ac:ra≠x:=Q4<|bR (s3 _ _ x2) aa;have ah:sd≠x:=Q4<|bR (s4 _ _<|s3 _ _ x2) O;have af:tk≠x:=Q4<|bR x6 VQ;have ag:pc≠x:=Q4<|bR x8 J;have Z:∀b o,b≠x->H5 b=some o->HA b=some o:=λb o n e=>by
  rw[kA b n];refine s9 _ _ ?_;rw[k8 b n];refine s7 _ _ ?_;rw[k6 b n];exact e
 have up:∀b o,b≠x->H b=some o->H5 b=some o:=λb o n e=>s5 _ _ (s4 _ _<|s3 _ _<|by rw[k2 b n];exact e);have am:=Z la _ ad<|s5 _ _<|s4 _ _ h3;have ap:=Z ra _ ac<|s5 _ _ h4;have as:=Z sd _ ah h5;have g8:H8 tk=some (.lst [.int 0,.int 0]):=by rw[k8 tk af];exact h7
 have ai:HA tk=some (.lst [.int 0,.int 0]):=by rw[kA tk af];exact s9 _ _ g8
 have aj:HA pc=some (.lst []):=by rw[kA pc ag];exact h9
 have f6:∀b,b≠x->H6 b=none->H b=none:=λb n e=>by
  cases eb:H b with
  |none=>rfl
  |some o=>have:=up b o n eb;rw[k6 b n,this] at e;cases e
 have f8:∀b,b≠x->H8 b=none->H b=none:=λb n e=>f6 b n (s7.free<|by rw[<- k8 b n];exact e);have l5:H6 la=some (.lst<|nL ls):=by rw[k6 la ad];exact s5 _ _<|s4 _ _ h3
 have r5:H6 ra=some (.lst<|nL rs):=by rw[k6 ra ac];exact s5 _ _ h4
 have l8:H8 la=some (.lst<|nL ls):=by rw[k8 la ad];exact s7 _ _ l5
 have r8:H8 ra=some (.lst<|nL rs):=by rw[k8 ra ac];exact s7 _ _ r5
 refine q sd la ra tk pc HA (λb o n e=>Z b o n<|up b o n e) ?_ ?_ ?_ (f6 tk af VQ) (f8 pc ag J) ⟨(bG.of xA<|cW Jk<|by decide).congr λf=>by simp only[lS,lkc],as,am,ap,ai,aj,bR g8 J,bR l5 VQ,bR l8 J,bR r5 VQ,bR r8 J⟩
 .cases eb:H sd with
  |none=>rfl
  |some o=>have:=s4 _ _ (s3 _ _<|by rw[k2 sd ah];exact eb);rw[this] at O;cases O
 .cases eb:H la with
  |none=>rfl
  |some o=>rw[k2 la ad,eb] at U;cases U
 .cases eb:H ra with
  |none=>rfl
  |some o=>have:=s3 ra o (by rw[k2 ra ac];exact eb);rw[this] at aa;cases aa
theorem P9(F:aK K "has_more" "Join.has_more" MW f fd)(T:Bt K mg Ce Ci Cj Ck Ch Cd Cc Ca Cb Cf Cg)
 :aF P w K mg base aC 1 f fd ["self","side"]<|fC Ci:=by
 refine F.ok jZ (by (intro _ _ _ _ h;cases h;subst_vars;rfl)) λz A outer s H vs Q E J h=>?_
 refine' ⟨_,(bP ?_),?_⟩;walk_at "d";obtain⟨b,jn,ak,sd,ma,ta,tk,pc,ms,ts,i,j,dn,rfl,js,q⟩:=h;walk_at "r";refine js.hj.get T.Dc T.Nh (by walk_at "l")<|bM (aD.of js.VQ) AX ?_;refine js.hj.get T.Dc T.Nj (by walk_at "l")<|cJ (aY.of js.WQ) AX ⟨ma,_,rfl,.inl<|aD.of js.W9,?_⟩;rw[aM];refine FW ?_;have e:decide ((i:Int)<ms.length)=decide (i<ms.length):=by rw[decide_eq_decide];lia
 rw[<- e] at q;exact q
theorem O0(F:aK K "front" "Join.front" My f fd)(T:Bt K mg Ce Ci Cj Ck Ch Cd Cc Ca Cb Cf Cg)
 :aF P w K mg base aC 1 f fd ["self","side"]<|jE Ci:=by
 refine F.ok mR (by (intro _ _ _ _ h;cases h;subst_vars;rfl)) λJ A outer s H vs Q E O h=>?_
 refine' ⟨_,(bP ?_),?_⟩;walk_at "d";obtain⟨b,jn,ak,sd,ma,ta,tk,pc,ms,ts,i,j,dn,x,rfl,js,z,q⟩:=h;walk_at "r";refine js.hj.get T.Dc T.Nj (by walk_at "l")<|cJ (aY.of js.WQ) AX ?_;refine js.hj.get T.Dc T.Nh (by walk_at "l")<|bM (aD.of js.VQ) AX ?_;exact bM (aD.of js.W9) (wc z) q
theorem Pq(F:aK K "take_on" "Join.take_on" MP f fd)(T:Bt K mg Ce Ci Cj Ck Ch Cd Cc Ca Cb Cf Cg)
 :aF P w K mg base aC 1 f fd ["self","side","more"]<|eT Ci:=by
 refine F.ok gF (by (intro _ _ _ _ h;cases h;subst_vars;rfl)) λZ A outer s H vs Q E hr h=>?_
 have aa:=gF.nd;refine' ⟨_,(aG ?_ ?_),?_⟩;walk_at "d";obtain⟨b,jn,ak,sd,ma,ta,tk,pc,ms,ts,i,j,dn,m,rfl,js,hm,hl,q⟩:=h;walk_at "r";refine js.hj.get T.Dc T.Nh (by walk_at "l")<|bM (aD.of js.VQ) AX ?_;walk_at "r";refine js.hj.get T.Dc T.Np (by walk_at "l") ?_;walk_at "r";refine⟨.inl ⟨rfl,_,aD.of js.WU⟩,?_⟩;refine js.hj.get T.Dc T.Nj (by walk_at "l")<|cJ (aY.of js.WQ) AX ?_;walk_at "r";refine C4 (aD.of js.W9) λc hc=>?_;have ec:gJ (nL ms) (some (i:Int)) (some<|(i:Int)+m)=nL ((ms.drop i).take m):=by
  unfold gJ;rw[show(i:Int)+m=((i+m:Nat):Int) by lia,HT.sIx_nat,HT.sIx_nat,aM,xQ (show i<=ms.length by lia),xQ (show i+m<=ms.length by lia),Gy];unfold nL;rw[<- Dv,<- Dx]
 rw[ec];obtain⟨H1,U,s1,h1⟩:=aT hc<|.lst<|nL<|(ms.drop i).take m;rw[U];clear U;have J:=js.mono s1;refine⟨pc,c,_,_,rfl,rfl,J.WU,h1,bX<|by rw[aM,aM,kP,lC];lia,?_⟩;have O:tk≠pc:=js.ne.1;have z:JS Ci (upd H1 pc<|.lst<|nL dn++nL ((ms.drop i).take m)) b jn ak sd ma ta tk pc ms ts i j<|dn++(ms.drop i).take m:=J.keep (Fr.upd<|bK _ bH) (by rw[bF O];exact J.VQ) (by rw[aS];unfold nL;rw[cF]);have f1:Fr [tk,pc] H<|upd H1 pc<|.lst<|nL dn++nL ((ms.drop i).take m):=s1.fr.trans<|Fr.upd<|bK _ bH;generalize upd H1 pc (.lst<|nL dn++nL ((ms.drop i).take m))=H2 at z f1⊢;refine z.hj.get T.Dc T.Nh (by walk_at "l") ?_;walk_at "r";refine⟨tk,_,_,_,rfl,rfl,z.VQ,Js (by cases b<;>decide) (by rw[E4];cases b<;>decide),?_⟩;rw[E3,show(i:Int)+m=((i+m:Nat):Int) by lia];refine q _ (f1.trans<|Fr.upd bH)<|z.keep (Fr.upd bH) aS<|by rw[bF<|Q4 O];exact z.WU
theorem PF(F:aK K "take_rest" "Join.take_rest" M5 f fd)(T:Bt K mg Ce Ci Cj Ck Ch Cd Cc Ca Cb Cf Cg)
  (z:Mt P w K mg base aC Ci "take_on" 1 ["self","side","more"]<|eT Ci)
 :aF P w K mg base aC 2 f fd ["self","side"]<|fK Ci:=by
 refine F.ok jJ (by (intro _ _ _ _ h;cases h;subst_vars;rfl)) λO A outer s H vs Q E Z h=>?_
 refine' ⟨_,(bP ?_),?_⟩;walk_at "d";obtain⟨b,jn,ak,sd,ma,ta,tk,pc,ms,ts,i,j,dn,rfl,js,hi,hl,q⟩:=h;walk_at "r";refine js.hj.U9 (by walk_at "l") ?_;refine js.hj.get T.Dc T.Nj (by walk_at "l")<|cJ (aY.of js.WQ) AX ⟨ma,_,rfl,.inl<|aD.of js.W9,?_⟩;refine js.hj.get T.Dc T.Nh (by walk_at "l")<|bM (aD.of js.VQ) AX ?_;walk_at "r";rw[aM,show(ms.length:Int)-i=((ms.length-i:Nat):Int) by lia];refine⟨b,jn,ak,sd,ma,ta,tk,pc,ms,ts,i,j,dn,ms.length-i,rfl,js,by lia,hl,λH' U J=>?_⟩;rw[show i+(ms.length-i)=ms.length by lia,pE<|by rw[lC];exact aL _] at J;exact q H' U J
theorem PJ(F:aK K "win" "Join.win" L1 f fd)(T:Bt K mg Ce Ci Cj Ck Ch Cd Cc Ca Cb Cf Cg)
  (J:Mt P w K mg base aC Ci "take_on" 1 ["self","side","more"]<|eT Ci)
  (O:Mt P w K mg base aC Ce "ahead" 4 ["self","p","q"]<|bU Ce<|aN.mk K Cd Cc Ca Cb Cf Cg)
  (Z:Mt P w K mg base aC Ci "front" 1 ["self","side"]<|jE Ci)
 :aF P w K mg base aC 5 f fd ["self"]<|pG Ce (aN.mk K Cd Cc Ca Cb Cf Cg) Ci:=by
 refine F.ok kK (by (intro _ _ _ _ h;cases h;subst_vars;rfl)) λac A outer s H vs Q E hr h=>?_
 have ad:=kK.nd;refine' ⟨_,(aG ?_ ?_),?_⟩;walk_at "d";obtain⟨c,pr,jn,sd,la,ra,tk,pc,ls,rs,dn,i,j,x,y,k,post,rfl,st,js,nx,hx,hy,hk,aa,ab,w,q⟩:=h;walk_at "r";refine js.hj.get T.Dc T.Nr (by walk_at "l")<|st.ha.U9 (by walk_at "l") ?_;refine js.hj.U9 (by walk_at "l") ⟨true,jn,c.a,sd,la,ra,tk,pc,ls,rs,i,j,dn,x,rfl,js,hx,?_⟩;refine js.hj.U9 (by walk_at "l") ⟨false,jn,c.a,sd,ra,la,tk,pc,rs,ls,j,i,dn,y,rfl,js.swap,hy,?_⟩;refine st.ahead hk w λb H2 pr2 f2 s2 w2=>?_;have z:=js.XD nx f2;have hi:=(cV.mp hx).1;have hj:=(cV.mp hy).1;refine cY ?_;cases b
 .rw [Z8<|by decide];walk_at "r";refine z.hj.U9 (by walk_at "l") ⟨false,jn,c.a,sd,ra,la,tk,pc,rs,ls,j,i,dn,1,rfl,z.swap,by lia,by lia,λH3 f3 U=>?_⟩;rw[Ly hy] at U;exact q false H3 pr2 ((FF f2).trans<|xp f3) (s2.Wz z nx f3) U.swap w2
 .rw [Z9 rfl];walk_at "r";refine z.hj.U9 (by walk_at "l") ⟨true,jn,c.a,sd,la,ra,tk,pc,ls,rs,i,j,dn,1,rfl,z,by lia,by lia,λH3 f3 U=>?_⟩;rw[Ly hx] at U;exact q true H3 pr2 ((FF f2).trans<|xp f3) (s2.Wz z nx f3) U w2
theorem Py(F:aK K "leap_on" "Join.leap_on" MO f fd)(T:Bt K mg Ce Ci Cj Ck Ch Cd Cc Ca Cb Cf Cg)
  (ac:Fn P w K mg base aC "leap" 5 ["asker","order","first","place"]<|lL Ce<|aN.mk K Cd Cc Ca Cb Cf Cg)
  (O:Mt P w K mg base aC Ci "take_on" 1 ["self","side","more"]<|eT Ci)
  (z:Mt P w K mg base aC Ci "has_more" 1 ["self","side"]<|fC Ci)
  (U:Mt P w K mg base aC Ci "front" 1 ["self","side"]<|jE Ci)
 :aF P w K mg base aC 6 f fd ["self","side"]<|hV Ce (aN.mk K Cd Cc Ca Cb Cf Cg) Ci:=by
 refine F.ok gG (by (intro _ _ _ _ h;cases h;subst_vars;rfl)) λaf A outer s H vs Q E hr h=>?_
 have ag:=gG.nd;refine' bN 1 (aG ?_ ?_) λ_ dZ _=>⟨_,(aG ?_ dZ),?_⟩
 walk_at "d";obtain⟨c,pr,jn,sd,ma,ta,tk,pc,b,ms,ts,dn,i,j,y,post,rfl,st,js,nx,hy,hi,hk,hd,w,q⟩:=h;walk_at "r";have hj:=(cV.mp hy).1;refine CF λo ho=>?_;obtain rfl:o=sv (!b):=by
  rcases ho with ⟨h,e⟩|⟨h,e⟩
  .revert h;cases b<;>intro h
   .cases h
   .exact e
  .revert h;cases b<;>intro h
   .exact e
   .exact absurd rfl h
 refine bL ?_;walk_at "r";refine js.hj.U9 (by walk_at "l") ?_;refine js.hj.get T.Dc T.Nr (by walk_at "l") ?_;refine js.hj.get T.Dc T.Nj (by walk_at "l")<|cJ (aY.of js.WQ) AX ?_;refine js.hj.get T.Dc T.Nh (by walk_at "l")<|bM (aD.of js.VQ) AX ?_;refine js.hj.U9 (by walk_at "l") ⟨!b,jn,c.a,sd,ta,ma,tk,pc,ts,ms,j,i,dn,y,rfl,js.swap,hy,?_⟩;refine⟨c,pr,ma,ms,i,y,_,rfl,st,js.W9,Ad.SA nx.n1.2.2.1,hi,hk,w.Wd<|Lj _ _,λk H2 pr2 f2 s2 hw=>?_⟩;obtain⟨ae,hp⟩:=hw;rw[lC] at ae;have aa:=js.XD nx f2;refine⟨b,jn,c.a,sd,ma,ta,tk,pc,ms,ts,i,j,dn,k,rfl,aa,by lia,by lia,λH3 f3 J=>?_⟩;have s3:=s2.Wz aa nx f3;have Z:=(FF f2 (tk:=tk) (pc:=pc)).trans<|xp f3;refine J.hj.U9 (by walk_at "l") ⟨b,jn,c.a,sd,ma,ta,tk,pc,ms,ts,i+k,j,_,rfl,J,?_⟩;refine cY ?_;by_cases hz:i+k<ms.length
 .rw [decide_eq_true hz,Z9 rfl];walk_at "r";refine J.hj.U9 (by walk_at "l") ⟨!b,jn,c.a,sd,ta,ma,tk,pc,ts,ms,j,i+k,_,1,rfl,J.swap,by lia,by rw[aU,kP,lC];lia,λH4 f4 ad=>?_⟩;have ab:=ad.swap;rw[Bool.not_not,Ly hy] at ab;refine q k H4 pr2 (Z.trans<|xp f4) (s3.Wz J nx f4) (by lia) ?_ hp;rw[Z9 hz,Z9 hz];exact ab
 .rw [decide_eq_false hz,Z8<|by decide];refine q k H3 pr2 Z s3 (by lia) ?_ hp;rw[Z8 hz,Z8 hz,kH];exact J
theorem P1(F:aK K "joined" "joined" Lq f fd)(T:Bt K mg Ce Ci Cj Ck Ch Cd Cc Ca Cb Cf Cg)
  (aa:Mt P w K mg base aC Ci "take_rest" 2 ["self","side"]<|fK Ci)
  (ab:Mt P w K mg base aC Ci "has_more" 1 ["self","side"]<|fC Ci)
  (ag:Mt P w K mg base aC Ci "win" 5 ["self"]<|pG Ce (aN.mk K Cd Cc Ca Cb Cf Cg) Ci)
  (ac:Mt P w K mg base aC Ci "leap_on" 6 ["self","side"]<|hV Ce (aN.mk K Cd Cc Ca Cb Cf Cg) Ci)
  (ax:Kl P w K mg base aC "Join" Ci 1 ["self","asker","left","right"]<|lM Ci)
 :aF P w K mg base aC 7 f fd ["asker","left","right"]<|fB Ce<|aN.mk K Cd Cc Ca Cb Cf Cg:=by
 refine F.ok OS (by (intro _ _ _ _ h;cases h;subst_vars;rfl)) λb6 A outer s H vs Q E hr h=>?_
 have b8:=OS.nd;refine' bN 4 (aG ?_ ?_) λ_ dZ _=>⟨_,(aG ?_<|aG ?_<|aG ?_<|aG ?_ dZ),?_⟩
 walk_at "d";obtain⟨c,pr,al,ar,ls,rs,post,rfl,st,av,aw,hk,b1,w,q⟩:=h;walk_at "r";intro jn dj ai b5 az;have aq:upd H dj (.own jn) jn=none:=by rw[bF<|Q4 az];exact ai
 have s1:aB H<|upd (upd H dj<|.own jn) jn<|.ins Ci dj []:=(aV b5 _).trans<|aV aq _;refine⟨jn,dj,c.a,al,ar,ls,rs,rfl,aS,s1 _ _ av,s1 _ _ aw,λsd la ra tk pc H2 k2 ay b4 b3 au aj js=>⟨rfl,?_⟩⟩;have u2:aB H H2:=λb o h=>k2 b o (bR h ai)<|s1 _ _ h;have b0:=st.mono u2;have fH:∀{b:QK},upd (upd H dj<|.own jn) jn (.ins Ci dj []) b=none->H b=none:=λh=>s1.free h;have nx:NX c jn sd la ra tk pc:=⟨⟨st.off ai,st.off<|fH ay,st.off<|fH b4,st.off<|fH b3,st.off<|fH au,st.off<|fH aj⟩⟩
 have ap:∀{H':Hp},Fr [c.a,c.lg,c.tl,tk,pc] H2 H'->Fr c.S H H':=λf b o n h=>f b o (λz=>by
  rcases cL.mp z with z|z
  .exact n (by rw[z];exact bH)
  rcases cL.mp z with z|z
  .exact n (by rw[z];exact bK _ bH)
  rcases cL.mp z with z|z
  .exact n (by rw[z];exact bK _<|bK _ bH)
  rcases cL.mp z with z|z
  .exact bR h (fH au) z
  .exact bR h (fH aj) (bY.mp z))<|u2 _ _ h
 let VE:LI:=λm σ H'=>L2.X8 λ(i j w n:Nat) (s:Bool) (v6:Option V) (dn:List Nat) (pr':List A3)=>m=(ls.length-i)+(rs.length-j)/\σ=[some<|.ref c.a,some<|.ref al,some<|.ref ar,some<|.ref jn,some<|.int w,some<|.int<|sv s,v6]/\i<=ls.length/\j<=rs.length/\dn.length=i+j/\(ls.length-i)+(rs.length-j)<=n/\Fr [c.a,c.lg,c.tl,tk,pc] H2 H'/\aH Ce (aN.mk K Cd Cc Ca Cb Cf Cg) H' c pr'/\JS Ci H' true jn c.a sd la ra tk pc ls rs i j dn/\Wp c.n c.an (wb n s w (ls.drop i) (rs.drop j) dn) pr' post
 refine Bc VE ⟨_,0,0,0,_,true,_,[],pr,rfl,rfl,dU _,dU _,rfl,aL _,.refl,b0,js,w⟩ ?_;rintro m σ H' ⟨i,j,w,n,s,v6,dn,pr',rfl,rfl,hi,hj,b7,hn,fr,s',U,hw⟩;walk_at "r";apply HD<|¬ (i<ls.length/\j<rs.length)
 .intro ae;refine U.hj.U9 (by walk_at "l") ⟨true,jn,c.a,sd,la,ra,tk,pc,ls,rs,i,j,dn,rfl,U,?_⟩;refine cY ?_;by_cases XQ:i<ls.length
  .rw [decide_eq_true XQ,Z9 rfl];refine U.hj.U9 (by walk_at "l") ⟨false,jn,c.a,sd,ra,la,tk,pc,rs,ls,j,i,dn,rfl,U.swap,?_⟩;refine cY ?_;by_cases XO:j<rs.length
   .rw [decide_eq_true XO,Z9 rfl];refine Bb ?_;walk_at "r";have hx:=bV XQ;have hy:=bV XO;generalize ls[i]=x at hx;generalize rs[j]=y at hy;obtain⟨n,rfl⟩:∃n',n=n'+1:=⟨n-1,by lia⟩
    rw[Gh hx,Gh hy,wb] at hw;refine U.hj.U9 (by walk_at "l") ⟨c,pr',jn,sd,la,ra,tk,pc,ls,rs,dn,i,j,x,y,_,post,rfl,s',U,nx,hx,hy,hk,by lia,by lia,hw,λb H3 pr3 f3 s3 O w3=>?_⟩;walk_at "r";apply Jg λ(k:Int)=>k=((if b=s then w+1 else 1:Nat):Int)
    .intro Z;by_cases hs:sv b=sv s
     .rw [Z9 hs];obtain⟨k,am⟩:∃k:Int,k=w+1:=⟨_,rfl⟩
      rw[<- am];refine Z k ?_;rw[am,Z9<|EO hs];rfl
     .rw [Z8 hs];refine Z 1 ?_;rw[Z8 λz=>hs<|by rw[z]];rfl
    rintro k rfl
    skip
    generalize (if b=s then w+1 else 1:Nat)=w' at w3;have af:(dn++[if b then x else y]).length=dn.length+1:=by rw[aU];rfl
    by_cases h4:w'=4
    .rw [Z9<|by lia];rw[Z9 h4] at w3;cases b
     .rw [Z8<|by decide] at w3;refine O.hj.U9 (by walk_at "l") ⟨c,pr3,jn,sd,ra,la,tk,pc,false,rs,ls,_,j+1,i,x,_,rfl,s3,O.swap,nx.swap,hx,by lia,hk,by rw[af];lia,w3.bind,λk H4 ad f4 s4 b2 J w4=>?_⟩;have el:(rs.drop<|j+1).length=rs.length-(j+1):=lC ..;have ed:rs.drop (j+1+k)=(rs.drop<|j+1).drop k:=by rw[TR]
      by_cases hz:j+1+k<rs.length
      .rw [Z9 hz,Z9 hz] at J;rw[Z9<|by lia] at w4;exact⟨(ls.length-(i+1))+(rs.length-(j+1+k)),by lia,i+1,j+1+k,0,n,false,_,_,ad,rfl,rfl,by lia,by lia,by simp;lia,by lia,(fr.trans f3).trans f4,s4,J.swap,by rw[ed];simpa using w4⟩
      .rw [Z8 hz,Z8 hz,kH] at J;rw[Z8<|by lia] at w4;exact⟨(ls.length-i)+(rs.length-(j+1+k)),by lia,i,j+1+k,0,n,false,_,_,ad,rfl,rfl,by lia,by lia,by simp;lia,by lia,(fr.trans f3).trans f4,s4,J.swap,by rw[ed,Gh hx];simpa using w4⟩
     .rw [Z9 rfl] at w3;refine O.hj.U9 (by walk_at "l") ⟨c,pr3,jn,sd,la,ra,tk,pc,true,ls,rs,_,i+1,j,y,_,rfl,s3,O,nx,hy,by lia,hk,by rw[af];lia,w3.bind,λk H4 ad f4 s4 b2 J w4=>?_⟩;have el:(ls.drop<|i+1).length=ls.length-(i+1):=lC ..;have ed:ls.drop (i+1+k)=(ls.drop<|i+1).drop k:=by rw[TR]
      by_cases hz:i+1+k<ls.length
      .rw [Z9 hz,Z9 hz] at J;rw[Z9<|by lia] at w4;exact⟨(ls.length-(i+1+k))+(rs.length-(j+1)),by lia,i+1+k,j+1,0,n,true,_,_,ad,rfl,rfl,by lia,by lia,by simp;lia,by lia,(fr.trans f3).trans f4,s4,J,by rw[ed];simpa using w4⟩
      .rw [Z8 hz,Z8 hz,kH] at J;rw[Z8<|by lia] at w4;exact⟨(ls.length-(i+1+k))+(rs.length-j),by lia,i+1+k,j,0,n,true,_,_,ad,rfl,rfl,by lia,by lia,by simp;lia,by lia,(fr.trans f3).trans f4,s4,J,by rw[ed,Gh hy];simpa using w4⟩
    .rw [Z8<|by lia];rw[Z8 h4] at w3;cases b
     .rw [Z8<|by decide] at w3;exact⟨(ls.length-i)+(rs.length-(j+1)),by lia,i,j+1,w',n,false,_,_,pr3,rfl,rfl,by lia,by lia,by rw[af];lia,by lia,fr.trans f3,s3,O,by rw[Gh hx];exact w3⟩
     .rw [Z9 rfl] at w3;exact⟨(ls.length-(i+1))+(rs.length-j),by lia,i+1,j,w',n,true,_,_,pr3,rfl,rfl,by lia,by lia,by rw[af];lia,by lia,fr.trans f3,s3,O,by rw[Gh hy];exact w3⟩
   .rw [decide_eq_false XO,Z8<|by decide];exact ae λz=>XO z.2
  .rw [decide_eq_false XQ,Z8<|by decide];exact ae λz=>XQ z.1
 intro ao;refine bL ?_;walk_at "r";have ah:post (dn++ls.drop i++rs.drop j) pr':=zy ao hi hj hw;refine U.hj.U9 (by walk_at "l") ⟨true,jn,c.a,sd,la,ra,tk,pc,ls,rs,i,j,dn,rfl,U,hi,by lia,λH3 f3 O=>?_⟩;have s3:=s'.Wz U nx f3;refine O.hj.U9 (by walk_at "l") ⟨false,jn,c.a,sd,ra,la,tk,pc,rs,ls,j,ls.length,_,rfl,O.swap,hj,by rw[aU,lC];lia,λH4 f4 J=>?_⟩;have s4:=s3.Wz O nx f4;refine J.hj.get T.Dc T.Np (by walk_at "l") ⟨pc,_,rfl,.inl<|aD.of J.WU,λl hl=>?_⟩;have as:Fr [c.a,c.lg,c.tl,tk,pc] H2 H4:=(fr.trans<|xp f3).trans<|xp f4;exact q l _ _ pr' ((ap as).trans (aV hl _).fr) (s4.free (ap as) hl) aS (s4.mono<|aV hl _) ah
theorem Qx(F:aK K "grade" "grade" K5 f fd)(T:Bt K mg Ce Ci Cj Ck Ch Cd Cc Ca Cb Cf Cg)
 :aF P w K mg base aC 1 f fd ["many","first","middle","beyond"]<|lN:=by
 refine F.ok V4 (by (intro _ _ _ _ h;cases h;subst_vars;rfl)) λaa A outer s H vs Q E hr h=>?_
 have ac:=V4.nd;refine' ⟨_,(aG ?_<|aG ?_<|aG ?_<|aG (JQ Q1 (tM Ic (dS Ll ?_ ?_) (dS Ll ?_ ?_)<|mG _) ?_) ?_),?_⟩;walk_at "d";obtain⟨m,a,b,c,rfl,h1,hm,ha,O,Z,U,q⟩:=h;walk_at "r";refine⟨.inl ⟨by decide,by decide⟩,.inl ⟨by decide,by decide⟩,?_⟩;refine Bc (λn σ H'=>∃p:Nat,n=240-p/\H'=H/\σ=[some<|.int m,some<|.int a,some<|.int b,some<|.int c,some<|.int<|(a+b)*2^p,some<|.int<|(b+c)*2^p,some<|.int p]/\1<=p/\p<=240/\∀r,1<=r->r<p->Gr.qt m (a+b) r=Gr.qt m (b+c) r) ⟨_,1,rfl,rfl,?_,aL _,by decide,λr h1 h2=>by lia⟩ ?_
 .rw [Int.pow_one,Int.mul_comm<|a+b,Int.mul_comm<|b+c];rfl
 rintro n σ H' ⟨p,rfl,rfl,rfl,z,J,hq⟩;walk_at "r";refine⟨.inl ⟨by decide,by decide⟩,⟨by lia,by lia⟩,.inl ⟨by decide,by decide⟩,⟨by lia,by lia⟩,?_⟩;split
 .rename_i he;have ab:p<240:=by
   rcases Nat.lt_or_ge p 240 with l|l
   .exact l
   .exact absurd he (Gr.qt_ne (by lia) (by lia)<|E2 hm l)
  refine Bb ?_;walk_at "r";refine⟨.inl ⟨by decide,by decide⟩,.inl ⟨by decide,by decide⟩,?_⟩;walk_at "r";refine⟨_,?_,p+1,rfl,?_,by lia,by lia,λr h1 h2=>?_⟩
  .lia
  .rw [dbl,dbl];rfl
  .rcases Nat.lt_or_ge r p with l|l
   .exact hq r h1 l
   .obtain rfl:r=p:=by lia
    exact he
 .rename_i he;exact q p ⟨z,hq,he⟩ J
theorem Os(F:gD K "__init__" "Pile.__init__" Mg f fd dv)(T:Bt K mg Ce Ci Cj Ck Ch Cd Cc Ca Cb Cf Cg)
  (Z:Mt P w K mg base aC Ce "many" 1 ["self"]<|eP Ce)
 :aF P w K mg base aC 2 f fd ["self","asker","least","part"]<|fM Ce Ch:=by
 refine F.ok pU (by (intro _ _ _ _ h;cases h;subst_vars;rfl)) λau A outer s H vs Q E hr h=>?_
 refine' bN 4 (aG ?_ ?_) λ_ dZ _=>bN 3 (aG ?_ dZ) λ_ dZ _=>⟨_,(aG ?_<|aG ?_<|aG ?_ dZ),?_⟩
 walk_at "d";obtain⟨x,dx,a,ls,s,e,pz,rfl,hx,ab,q⟩:=h;walk_at "r";refine bZ hx T.Da T.Nq (by decide) λH2 x2 k2=>?_;walk_at "r";refine bZ x2 T.Da T.N4 CZ λH3 x3 k3=>?_;walk_at "r";have u3:∀b o,b≠x->H b=some o->H3 b=some o:=λb o n h=>by rw[k3 b n,k2 b n];exact h
 apply Jg λH4:Hp=>H4 x=some (.ins Ch dx<|aO "start" (.int s)<|aO "least" (.int ls)<|aO "asker" (.ref a) [])/\∀b,b≠x->H4 b=H3 b
 .intro J;rcases ab with ⟨pt,hz,O⟩|⟨hz,ap,ah,rl,ru,m,n,tl,us,ha,VC,ao⟩
  .rw [Z8<|by rw[hz];simp];have ad:∀{Q':VK},Q' (.int s) H3->mU K pz (.int 0) H3 Q':=λh=>by rw[hz];exact cJ (aY.of<|u3 _ _ (λz=>by rw[z,hx] at O;cases O) O) (cK (by decide) rfl) h
   exact ad<|bZ x3 T.Da T.Ng C0 λH4 x4 k4=>J H4 ⟨x4,k4⟩
  .rw [Z9 hz];exact bZ x3 T.Da T.Ng C0 λH4 x4 k4=>J H4 ⟨by rw[ap];exact x4,k4⟩
 rintro H4 ⟨x4,k4⟩;refine bL ?_;walk_at "r";have u4:∀b o,b≠x->H b=some o->H4 b=some o:=λb o n h=>by rw[k4 b n];exact u3 b o n h
 apply Jg λH5:Hp=>H5 x=some (.ins Ch dx<|aO "end" (.int e)<|aO "start" (.int s)<|aO "least" (.int ls)<|aO "asker" (.ref a) [])/\∀b,b≠x->H5 b=H4 b
 .intro J;rcases ab with ⟨pt,hz,O⟩|⟨hz,ap,ah,rl,ru,m,n,tl,us,ha,VC,ao⟩
  .rw [Z8<|by rw[hz];simp];have ad:∀{Q':VK},Q' (.int e) H4->mU K pz (.int 1) H4 Q':=λh=>by rw[hz];exact cJ (aY.of<|u4 _ _ (λz=>by rw[z,hx] at O;cases O) O) (cK (by decide) rfl) h
   exact ad<|bZ x4 T.Da T.Ni GR λH5 x5 k5=>J H5 ⟨x5,k5⟩
  .rw [Z9 hz];have aq:rl≠x:=λz=>by rw[z,hx] at VC;cases VC
   have am:bG H4 a Ce<|fA rl ru m n tl:=let ⟨d1,f1,e1,e2,e3⟩:=ha.ex;⟨d1,f1,u4 _ _ ah e1,e2,e3⟩
   refine am.U9 (by walk_at "l") ⟨a,rl,ru,tl,m,n,us,rfl,am,u4 _ _ aq VC,?_⟩;rw[ao];exact bZ x4 T.Da T.Ni GR λH5 x5 k5=>J H5 ⟨x5,k5⟩
 clear ab;rintro H5 ⟨x5,k5⟩;have u5:∀b o,b≠x->H b=some o->H5 b=some o:=λb o n h=>by rw[k5 b n];exact u4 b o n h
 clear u3 u4 k2 k3 k4 k5 x2 x3 x4;refine bL ?_;walk_at "r";refine KO x5 T.Da T.Ng (by simp only[lS,lkc];walk_at "l") ?_;refine bZ x5 T.Da T.Nl Jk λH6 x6 k6=>?_;walk_at "r";refine⟨dU _,λfs ae=>?_⟩;obtain⟨H7,e7,s7,h7⟩:=aT ae<|.lst [];rw[e7];clear e7;refine bZ (s7 _ _ x6) T.Da T.Nc yZ λH8 x8 k8=>?_;walk_at "r";refine⟨dU _,λod aa=>?_⟩;obtain⟨H9,e9,s9,h9⟩:=aT aa<|.lst [];rw[e9];clear e9;refine bZ (s9 _ _ x8) T.Da T.Na Hs λHA xA kA=>?_;walk_at "r";refine⟨dU _,λgr U=>?_⟩;obtain⟨HB,eB,sB,hB⟩:=aT U<|.lst [];rw[eB];clear eB;refine bZ (sB _ _ xA) T.Da T.Nk Hr λHC xC kC=>?_;have ac:fs≠x:=Q4<|bR x6 ae;have af:od≠x:=Q4<|bR x8 aa;have aj:gr≠x:=Q4<|bR xA U;have h8:H8 fs=some (.lst []):=by rw[k8 fs ac];exact h7
 have ai:HA fs=some (.lst []):=by rw[kA fs ac];exact s9 _ _ h8
 have ag:HA od=some (.lst []):=by rw[kA od af];exact h9
 have f6:∀b,b≠x->H6 b=none->H b=none:=λb n e=>by
  cases eb:H b with
  |none=>rfl
  |some o=>have:=u5 b o n eb;rw[k6 b n,this] at e;cases e
 have f8:∀b,b≠x->H8 b=none->H b=none:=λb n e=>f6 b n (s7.free<|by rw[<- k8 b n];exact e);have as:∀b,b≠x->HA b=none->H b=none:=λb n e=>f8 b n (s9.free<|by rw[<- kA b n];exact e);refine q fs od gr HC (λb o n h=>?_) (f6 fs ac ae) (f8 od af aa) (as gr aj U) ⟨(bG.of xC<|cW Hq<|by decide).congr λf=>by simp only[lS,lkc],by rw[kC fs ac];exact sB _ _ ai,by rw[kC od af];exact sB _ _ ag,by rw[kC gr aj];exact hB,trivial,⟨bR h8 aa,bR ai U,bR ag U⟩,λb hb=>by cases hb⟩;rw[kC b n];refine sB _ _ ?_;rw[kA b n];refine s9 _ _ ?_;rw[k8 b n];refine s7 _ _ ?_;rw[k6 b n];exact u5 b o n h
theorem Ql(F:aK K "beyond_of" "Pile.beyond_of" M7 f fd)(T:Bt K mg Ce Ci Cj Ck Ch Cd Cc Ca Cb Cf Cg)
 :aF P w K mg base aC 1 f fd ["self","number"]<|fU Ch:=by
 refine F.ok jI (by (intro _ _ _ _ h;cases h;subst_vars;rfl)) λJ A outer s H vs Q E O h=>?_
 refine' ⟨_,(bP ?_),?_⟩;walk_at "d";obtain⟨x,a,fs,od,gr,ls,s,e,r,oa,A,p,B,gs,rfl,z,q⟩:=h;walk_at "r";refine z.hp.get T.Da T.Nc (by walk_at "l") ⟨fs,_,rfl,.inl<|aD.of z.WE,?_⟩;rw[aM,aM,aU,cP];cases B with
 |nil=>
  rw[Z8<|by rw[yd];lia];exact z.hp.get T.Da T.Nl (by walk_at "l") q
 |cons p2 B=>
  rw[Z9<|by rw[cP];lia];refine z.hp.get T.Da T.Nc (by walk_at "l") ?_;rw[show(A.length:Int)+1=((A.length+1:Nat):Int) by lia];exact bM (aD.of z.WE) (wc<|by rw[dB,Iz];rfl) q
theorem QB(F:aK K "is_due_beneath" "Pile.is_due_beneath" NH f fd)(T:Bt K mg Ce Ci Cj Ck Ch Cd Cc Ca Cb Cf Cg)
 :aF P w K mg base aC 1 f fd ["self"]<|vb Ch:=by
 refine F.ok gA (by (intro _ _ _ _ h;cases h;subst_vars;rfl)) λU A outer s H vs Q E Z h=>?_
 refine' ⟨_,(bP ?_),?_⟩;walk_at "d";obtain⟨x,a,fs,od,gr,ls,s,e,r,oa,ps,gs,rfl,J,q⟩:=h;walk_at "r";refine J.hp.get T.Da T.Nk (by walk_at "l") ⟨gr,_,rfl,.inl<|aD.of J.Xa,?_⟩;rw[aM];by_cases h2:2<=gs.length
 .rw [Z9<|by lia];obtain⟨G,g1,z,rfl⟩:=yl h2;have O:=J.Xa;rw[show nL (G++[g1,z])=nL G++[.int (g1:Nat),.int (z:Nat)] by unfold nL;rw[cF];rfl] at O;refine J.hp.get T.Da T.Nk (by walk_at "l")<|bM (aD.of O) FR ?_;refine J.hp.get T.Da T.Nk (by walk_at "l") ?_;rw[show nL G++[V.int (g1:Nat),V.int (z:Nat)]=(nL G++[.int (g1:Nat)])++[.int (z:Nat)] by rw[jU];rfl] at O;refine bM (aD.of O) Ax<|FW ?_;rw[Ac] at q;have e:decide ((z:Int)<g1)=decide (z<g1):=by rw[decide_eq_decide];lia
  rw[<- e] at q;exact q
 .rw [Z8<|by lia];rw[Cz<|by lia] at q;exact q
theorem Qg(F:aK K "grade_on_top" "Pile.grade_on_top" NG f fd)(T:Bt K mg Ce Ci Cj Ck Ch Cd Cc Ca Cb Cf Cg)
  (J:Fn P w K mg base aC "grade" 1 ["many","first","middle","beyond"]<|lN)
 :aF P w K mg base aC 2 f fd ["self","middle","beyond"]<|lJ Ch:=by
 refine F.ok gT (by (intro _ _ _ _ h;cases h;subst_vars;rfl)) λU A outer s H vs Q E hr h=>?_
 refine' ⟨_,(bP ?_),?_⟩;walk_at "d";obtain⟨x,a,fs,od,gr,ls,s,e,r,oa,A,p,gs,m,b,rfl,z,h1,h2,h3,h4,Z,q⟩:=h;walk_at "r";have O:=z.WE;rw[cF,show nL (A.map Rp++[p].map Rp)=nL (A.map Rp)++[.int (p.1:Nat)] by unfold nL;rw[cF];rfl] at O;refine z.hp.get T.Da T.Ni (by walk_at "l")<|z.hp.get T.Da T.Ng (by walk_at "l")<|FW ?_;refine z.hp.get T.Da T.Nc (by walk_at "l")<|bM (aD.of O) Ax<|z.hp.get T.Da T.Ng (by walk_at "l")<|FW ?_;refine z.hp.get T.Da T.Ng (by walk_at "l")<|FW<|z.hp.get T.Da T.Ng (by walk_at "l")<|FW ?_;exact⟨_,_,_,_,rfl,by lia,by lia,by lia,by lia,by lia,by lia,q⟩
theorem Qb(F:aK K "join_two" "Pile.join_two" MY f fd)(T:Bt K mg Ce Ci Cj Ck Ch Cd Cc Ca Cb Cf Cg)
  (ag:Fn P w K mg base aC "joined" 7 ["asker","left","right"]<|fB Ce<|aN.mk K Cd Cc Ca Cb Cf Cg)
  (Z:Mt P w K mg base aC Ch "beyond_of" 1 ["self","number"]<|fU Ch)
 :aF P w K mg base aC 8 f fd ["self","lower"]<|fO Ce (aN.mk K Cd Cc Ca Cb Cf Cg) Ch:=by
 refine F.ok fE (by (intro _ _ _ _ h;cases h;subst_vars;rfl)) λbm A outer s H vs Q E hr h=>?_
 have bn:=fE.nd;refine' bN 2 (aG ?_ ?_) λ_ dZ _=>bN 1 (aG ?_ dZ) λ_ dZ _=>⟨_,(aG ?_ dZ),?_⟩
 walk_at "d";obtain⟨c,pr,x,fs,od,gr,ls,s,e,i,r,oa,ps,gs,post,rfl,st,U,px,pw,hi,he,hk,w,q⟩:=h;walk_at "r";obtain⟨A,p1,p2,B,rfl,rfl,e3,e4⟩:=sO hi;obtain⟨O,o1⟩:=p1;obtain⟨v2,o2⟩:=p2;unfold GN at w;dsimp only at w;rw[e3,e4] at w;dsimp only at w;obtain⟨J,b1,b2,OB,rfl,aa,b4,bf,bc,b5⟩:=U.WR.two;obtain⟨mm,c1,c2,c3,c4,c5,c6⟩:=Cl.app.mp pw.cl;dsimp only at c2 c3 c4 c5 c6;have l1:=c1.le.1;have l6:=c6.le.1;have aw:=pw.re;have ab:=pw.gl;dsimp only at l6 aw ab;rw[aU,cP,cP] at ab;replace ab:A.length<gs.length:=by lia
 have bj:(J.map V.ref).length<=500:=by rw[aM,aa];lia
 have m1:b1∈J++b1::b2::OB:=gR _ bH;have m2:b2∈J++b1::b2::OB:=gR _<|bK _ bH;refine U.hp.get T.Da T.Nq (by walk_at "l")<|U.hp.get T.Da T.Na (by walk_at "l")<|bM (aD.of U.WD) (tD (b:=b1) (by rw[<- aa];exact JF ..)) ?_;refine U.hp.get T.Da T.Na (by walk_at "l") ?_;rw[show(A.length:Int)+1=((A.length+1:Nat):Int) by lia];refine bM (aD.of U.WD) (tD (b:=b2) (by rw[<- aa];exact Iz ..)) ?_;refine⟨c,pr,b1,b2,o1,o2,_,rfl,st,bf,bc,hk,by lia,(w.bind).Wd<|rW o1 o2,λl H1 o pr1 ae ac ba b0 hp=>?_⟩;obtain⟨b8,hp⟩:=hp;have bW:=U.XD px ae;refine bL ?_;walk_at "r";refine bW.hp.get T.Da T.Nc (by walk_at "l")<|bM (aD.of bW.WE) (wc (o:=O)<|by rw[dB,JF];rfl) ?_;refine bW.hp.get T.Da T.Nc (by walk_at "l") ?_;rw[show(A.length:Int)+1=((A.length+1:Nat):Int) by lia];refine bM (aD.of bW.WE) (wc (o:=v2)<|by rw[dB,Iz];rfl) ?_;refine bW.hp.U9 (by walk_at "l") ⟨x,c.a,fs,od,gr,ls,s,e,r,_,A++[(O,o1)],(v2,o2),B,gs,by rw[aU];rfl,by rw[jU];exact bW,?_⟩;refine⟨bX<|by decide,λt ht=>?_⟩;obtain⟨H2,e2,s2,h2⟩:=aT ht<|.tup [.str "join",.int (O:Nat),.int (v2:Nat),.int (bB B r:Nat)];rw[e2];clear e2;have dG:=bW.mono s2;have b6:=b0.mono s2;refine bL ?_;walk_at "r";have ad:=dG.xl;have be:x≠fs:=λz=>ad (by rw[z];exact bH);have am:x≠od:=λz=>ad (by rw[z];exact bK _ bH);have bg:x≠gr:=λz=>ad (by rw[z];exact bK _<|bK _ bH);obtain⟨ay,av,aq⟩:=U.ne;refine dG.hp.get T.Da T.Na (by walk_at "l") ⟨od,_,_,_,rfl,rfl,dG.WD,Js (by lia)<|by rw[aM,aU,cP];lia,?_⟩;rw[Int.toNat_natCast,cF,iT,iT,show A.length=(J.map V.ref).length by rw[aM,aa],BB];have b7:bG (upd H2 od<|.lst<|J.map V.ref++.ref l::.ref b2::OB.map V.ref) x Ch<|AU c.a ls s e r fs od gr:=dG.hp.keep<|bF am;refine b7.get T.Da T.Na (by walk_at "l") ?_;walk_at "r";refine⟨.inl ⟨rfl,_,aD.of aS⟩,od,_,_,(J.map V.ref).length+1,_,rfl,rfl,aS,by lia,by lia,?_,Iz ..,?_⟩
 .rw [show((J.map V.ref).length:Int)+1=(((J.map V.ref).length+1:Nat):Int) by lia];exact Su (by lia)<|by rw[aU,cP,cP];lia
 rw[vT,uV];have as:bG (upd H2 od<|.lst<|J.map V.ref++.ref l::OB.map V.ref) x Ch<|AU c.a ls s e r fs od gr:=dG.hp.keep<|bF am;have au:upd H2 od (.lst<|J.map V.ref++.ref l::OB.map V.ref) fs=some (.lst<|nL (A.map Rp)++.int (O:Nat)::.int (v2:Nat)::nL (B.map Rp)):=by
  rw[bF ay,dG.WE,cF];unfold nL;rw[cF];rfl
 have la:(nL<|A.map Rp).length=(J.map V.ref).length:=by rw[aM,aM,aM,aa]
 refine as.get T.Da T.Nc (by walk_at "l") ?_;walk_at "r";refine⟨.inl ⟨rfl,_,aD.of au⟩,fs,_,_,(nL<|A.map Rp).length+1,_,rfl,rfl,au,by lia,by lia,?_,Iz ..,?_⟩
 .rw [<- la,show((nL<|A.map Rp).length:Int)+1=(((nL<|A.map Rp).length+1:Nat):Int) by lia];exact Su (by lia)<|by rw[aU,cP,cP];lia
 rw[vT];have ai:bG (upd (upd H2 od<|.lst<|J.map V.ref++.ref l::OB.map V.ref) fs<|.lst<|nL (A.map Rp)++.int (O:Nat)::nL (B.map Rp)) x Ch<|AU c.a ls s e r fs od gr:=as.keep<|bF be;have aj:upd (upd H2 od<|.lst<|J.map V.ref++.ref l::OB.map V.ref) fs (.lst<|nL (A.map Rp)++.int (O:Nat)::nL (B.map Rp)) gr=some (.lst<|nL gs):=by rw[bF<|Q4 av,bF<|Q4 aq];exact dG.Xa
 refine ai.get T.Da T.Nk (by walk_at "l") ?_;walk_at "r";refine⟨.inl ⟨rfl,_,aD.of aj⟩,gr,_,_,A.length,.int (gs[A.length]:Nat),rfl,rfl,aj,by lia,by lia,?_,by rw[dB,bV ab];rfl,?_⟩
 .rw [show(J.map V.ref).length=A.length by rw[aM,aa]];exact Su (by lia)<|by rw[aM];lia
 rw[FH];have F3:Fr [fs,od,gr] H2<|upd (upd (upd H2 od<|.lst<|J.map V.ref++.ref l::OB.map V.ref) fs<|.lst<|nL (A.map Rp)++.int (O:Nat)::nL (B.map Rp)) gr<|.lst<|nL<|gs.eraseIdx A.length:=((Fr.upd<|bK _ bH).trans<|Fr.upd bH).trans<|Fr.upd<|bK _<|bK _ bH;have az:bG (upd (upd (upd H2 od<|.lst<|J.map V.ref++.ref l::OB.map V.ref) fs<|.lst<|nL (A.map Rp)++.int (O:Nat)::nL (B.map Rp)) gr<|.lst<|nL<|gs.eraseIdx A.length) x Ch<|AU c.a ls s e r fs od gr:=ai.keep<|bF bg;have ax:(upd (upd (upd H2 od<|.lst<|J.map V.ref++.ref l::OB.map V.ref) fs<|.lst<|nL (A.map Rp)++.int (O:Nat)::nL (B.map Rp)) gr<|.lst<|nL<|gs.eraseIdx A.length) fs=some (.lst<|nL (A.map Rp)++.int (O:Nat)::nL (B.map Rp)):=by rw[bF av,aS]
 have ap:(upd (upd (upd H2 od<|.lst<|J.map V.ref++.ref l::OB.map V.ref) fs<|.lst<|nL (A.map Rp)++.int (O:Nat)::nL (B.map Rp)) gr<|.lst<|nL<|gs.eraseIdx A.length) od=some (.lst<|J.map V.ref++.ref l::OB.map V.ref):=by rw[bF aq,bF<|Q4 ay,aS]
 have ao:(upd (upd (upd H2 od<|.lst<|J.map V.ref++.ref l::OB.map V.ref) fs<|.lst<|nL (A.map Rp)++.int (O:Nat)::nL (B.map Rp)) gr<|.lst<|nL<|gs.eraseIdx A.length) gr=some (.lst<|nL<|gs.eraseIdx A.length):=aS;generalize (upd (upd (upd H2 od<|.lst<|J.map V.ref++.ref l::OB.map V.ref) fs<|.lst<|nL (A.map Rp)++.int (O:Nat)::nL (B.map Rp)) gr<|.lst<|nL<|gs.eraseIdx A.length)=H3 at F3 az ax ap ao⊢;have ah:l∉[fs,od,gr]:=λz=>by obtain⟨y,hy⟩:=U.WA l z;rw[hy] at ac;cases ac
 have bi:t∉[fs,od,gr]:=λz=>by obtain⟨y,hy⟩:=bW.WA t z;rw[hy] at ht;cases ht
 have af:∀b∈J++l::OB,b∉[fs,od,gr]/\b∉c.A/\(b∈J++b1::b2::OB∨H b=none):=λb hb=>by
  rcases fG.mp hb with z|z
  .have m:=nO (b1::b2::OB) z;exact⟨U.nb b m,px.n2 b m,.inl m⟩
  rcases cL.mp z with z|z
  .rw [z];exact⟨ah,st.off ac,.inr ac⟩
  .have m:b∈J++b1::b2::OB:=gR _<|bK _<|bK _ z;exact⟨U.nb b m,px.n2 b m,.inl m⟩
 have kp:∀b∈J++b1::b2::OB,∀o,H b=some o->H3 b=some o:=λb hb o h=>F3 _ _ (U.nb b hb)<|s2 _ _<|ae _ _ (Ad.SA<|px.n2 b hb) h;have b3:H3 fs=some (.lst<|nL<|(A++(O,o)::B).map Rp):=by rw[ax,cF];unfold nL;rw[cF];rfl
 have bd:H3 od=some (.lst<|(J++l::OB).map V.ref):=by rw[ap,cF];rfl
 have b9:bI H3 (J++l::OB)<|A++(O,o)::B:=(b4.keep λb hb=>kp b<|nO _ hb).app ⟨F3 _ _ ah<|s2 _ _ ba,b5.keep λb hb=>kp b<|gR _<|bK _<|bK _ hb⟩;have bh:PW s e ⟨r,A++(O,o)::B,gs.eraseIdx A.length⟩:=by
  refine⟨Cl.app.mpr ⟨mm,c1,c2,by dsimp only;lia,?_⟩,aw,?_⟩<;>dsimp only
  .rw [b8,<- Nat.add_assoc];exact c6
  .have:=pw.gl;dsimp only at this;rw[List.length_eraseIdx,Z9 ab,this];simp
 refine q t H3 ⟨r,A++(O,o)::B,gs.eraseIdx A.length⟩ (J++l::OB) pr1 ⟨λb o n h=>?_,λb hb=>(af b hb).2.2,⟨az,b3,bd,ao,b9,U.ne,λb hb=>(af b hb).1⟩,⟨px.n1,λb hb=>(af b hb).2.1⟩,b6.three dG px F3,bh⟩ rfl (by simp;lia) hp;refine F3 _ _ (λz=>n<|bK _ ?_)<|s2 _ _<|ae _ _ (λz=>n<|bK _<|bK _<|bK _<|bK _ z) h;exact nO [c.a,c.lg,c.tl] z
theorem Qs(F:aK K "lay" "Pile.lay" L3 f fd)(T:Bt K mg Ce Ci Cj Ck Ch Cd Cc Ca Cb Cf Cg)
  (aq:Fn P w K mg base aC "filled" 6 ["asker","first","least","end"]<|lO Ce<|aN.mk K Cd Cc Ca Cb Cf Cg)
  (O:Mt P w K mg base aC Ch "grade_on_top" 2 ["self","middle","beyond"]<|lJ Ch)
 :aF P w K mg base aC 7 f fd ["self"]<|pM Ce (aN.mk K Cd Cc Ca Cb Cf Cg) Ch:=by
 refine F.ok kJ (by (intro _ _ _ _ h;cases h;subst_vars;rfl)) λbu A outer s H vs Q E hr h=>?_
 have bw:=kJ.nd;refine' bN 4 (aG ?_ ?_) λ_ dZ _=>bN 3 (aG (kN (Kt ?_) ?_ ?_) dZ) λ_ dZ _=>bN 2 (aG ?_ dZ) λ_ dZ _=>⟨_,(aG ?_<|aG ?_ dZ),?_⟩
 walk_at "d";obtain⟨c,pr,x,fs,od,gr,ls,s,e,r,oa,ps,gs,post,rfl,st,pa,px,pw,am,he,hk,w,q⟩:=h;walk_at "r";have bi:=pw.re;have ac:=pw.gl;have b5:=pw.cl.le.1;dsimp only at bi ac b5;unfold B7 at w;refine pa.hp.get T.Da T.Nl (by walk_at "l")<|pa.hp.get T.Da T.Nq (by walk_at "l")<|pa.hp.get T.Da T.N4 (by walk_at "l")<|pa.hp.get T.Da T.Ni (by walk_at "l") ?_;refine⟨c,pr,r,ls,e,_,rfl,st,hk,am,by lia,(w.bind).Wd<|xt am,λt ol H1 fj pr1 b3 ab ba ht ao hp=>?_⟩;obtain⟨⟨au,be⟩,hp⟩:=hp;obtain⟨j,os⟩:=fj;dsimp only at au be ht ao hp;have bW:=pa.XD px b3;obtain⟨v3,av⟩:∃v3,v3=r+os.length:=⟨_,rfl⟩
 rw[<- av] at hp;refine bL ?_;walk_at "r";refine cJ (aY.of ht) (cK (by decide) rfl) ⟨ol,_,rfl,.inl<|aD.of ao,?_⟩;rw[aM];walk_at "r";rw[show(r:Int)+(os.length:Int)=(v3:Nat) by lia];refine bL ?_;walk_at "r";have ai:t∉[fs,od,gr]:=λz=>by obtain⟨y,hy⟩:=bW.WA t z;rw[hy] at ht;cases ht
 have ag:ol∉[fs,od,gr]:=λz=>by obtain⟨y,hy⟩:=pa.WA ol z;rw[hy] at ab;cases ab
 apply Jg λX:Hp=>bE Ch X x c.a fs od gr ls s e r oa ps (if ps.isEmpty then gs else gs++[grd (e-s) (ym ps-s) (r-s)<|v3-s])/\Fr [fs,od,gr] H1 X
 .intro ad;refine bW.hp.get T.Da T.Nc (by walk_at "l") ⟨fs,_,rfl,aD.of bW.WE,?_⟩;by_cases aa:ps≠[]
  .obtain ⟨A,p,rfl⟩:∃A p,ps=A++[p]:=⟨ps.dropLast,ps.getLast aa,(List.dropLast_concat_getLast _).symm⟩
   rw[Z9<|by simp];obtain⟨m,c1,c2,c3,c5⟩:=Cl.app.mp pw.cl;have c5:m+p.2.length=r:=c5;have bt:=c1.le.1;rw[aU,iK] at ac b5;refine bW.hp.get T.Da T.Nk (by walk_at "l") ?_;walk_at "r";refine⟨.inl ⟨rfl,_,aD.of bW.Xa⟩,bW.hp.U9 (by walk_at "l") ⟨x,c.a,fs,od,gr,ls,s,e,r,oa,A,p,gs,r,v3,rfl,bW,by lia,by lia,by lia,by lia,by lia,λgg bp bv=>?_⟩⟩;refine⟨gr,_,_,rfl,rfl,bW.Xa,oZ<|by rw[aM];lia,?_⟩;have F:Fr [fs,od,gr] H1<|upd H1 gr<|.lst<|nL gs++[.int (gg:Nat)]:=Fr.upd<|bK _<|bK _ bH;have P:bE Ch (upd H1 gr<|.lst<|nL gs++[.int (gg:Nat)]) x c.a fs od gr ls s e r oa (A++[p])<|gs++[gg]:=⟨AD F bW.xl bW.hp,by rw[bF bW.ne.2.1];exact bW.WE,by rw[bF bW.ne.2.2];exact bW.WD,by rw[aS];unfold nL;rw[cF];rfl,bW.WR.keep λb hb o h=>F _ _ (bW.nb b hb) h,bW.ne,bW.nb⟩
   generalize upd H1 gr (.lst<|nL gs++[.int (gg:Nat)])=X at F P⊢;refine ad X ⟨?_,F⟩;rw[Z8 (by simp),show ym (A++[p])=p.1 by unfold ym;simp,FD (a:=p.1-s) (b:=r-s) (c:=v3-s) (n:=e-s) bp (by lia) (by lia)<|by lia];exact P
  .have aa:ps=[]:=R4 aa;rw[Z8<|by rw[aa];simp];refine ad H1 ⟨?_,.refl⟩;rw[aa] at bW⊢;exact bW
 rintro X ⟨J,FX⟩;obtain⟨af,ay⟩:∃af,af=(if ps.isEmpty then gs else gs++[grd (e-s) (ym ps-s) (r-s)<|v3-s]):=⟨_,rfl⟩
 rw[<- ay] at J hp;have b7:=FX _ _ ai ht;have b4:=FX _ _ ag ao;have br:=J.WR.len;have aj:=J.xl;have bn:x≠fs:=λz=>aj (by rw[z];exact bH);have bc:x≠od:=λz=>aj (by rw[z];exact bK _ bH);have bx:x≠gr:=λz=>aj (by rw[z];exact bK _<|bK _ bH);obtain⟨b8,bh,bf⟩:=J.ne;refine bL ?_;walk_at "r";refine J.hp.get T.Da T.Nc (by walk_at "l") ?_;walk_at "r";refine⟨.inl ⟨rfl,_,aD.of J.WE⟩,fs,_,_,rfl,rfl,J.WE,oZ<|by rw[aM,aM];lia,?_⟩;obtain⟨us,b2⟩:∃us,nL (ps.map Rp)++[.int (r:Nat)]=us:=⟨_,rfl⟩
 rw[b2];have b0:bG (upd X fs<|.lst us) x Ch<|AU c.a ls s e r fs od gr:=J.hp.keep<|bF bn;have ah:upd X fs (.lst us) od=some (.lst<|oa.map V.ref):=by rw[bF<|Q4 b8];exact J.WD
 refine b0.get T.Da T.Na (by walk_at "l") ?_;walk_at "r";refine⟨.inl ⟨rfl,_,aD.of ah⟩,cJ (aY.of<|by rw[bF λz=>ai<|by rw[z];exact bH];exact b7) (cK (by decide) rfl) ⟨od,_,_,rfl,rfl,ah,oZ<|by rw[aM];lia,?_⟩⟩;have F2:Fr [fs,od,gr] X<|upd (upd X fs<|.lst us) od<|.lst<|oa.map V.ref++[.ref ol]:=(Fr.upd bH).trans<|Fr.upd<|bK _ bH;have ae:bG (upd (upd X fs<|.lst us) od<|.lst<|oa.map V.ref++[.ref ol]) x Ch<|AU c.a ls s e r fs od gr:=b0.keep<|bF bc;have b1:(upd (upd X fs<|.lst us) od<|.lst<|oa.map V.ref++[.ref ol]) fs=some (.lst us):=by rw[bF b8,aS]
 have aw:(upd (upd X fs<|.lst us) od<|.lst<|oa.map V.ref++[.ref ol]) od=some (.lst<|oa.map V.ref++[.ref ol]):=aS;have b6:(upd (upd X fs<|.lst us) od<|.lst<|oa.map V.ref++[.ref ol]) gr=some (.lst<|nL af):=by rw[bF<|Q4 bf,bF<|Q4 bh];exact J.Xa
 generalize (upd (upd X fs<|.lst us) od<|.lst<|oa.map V.ref++[.ref ol])=Y at F2 ae b1 aw b6⊢;refine ae.set T.Da T.Nl (λZ bd kZ=>?_) ⟨_,by walk_at "l"⟩;have U:∀{b:QK} {us:List V},Y b=some (.lst us)->Z b=some (.lst us):=fun {b us} h=>by rw[kZ b<|ae.ne h λ_ _ _ z=>by cases z];exact h
 have az:=F2 _ _ ai b7;have bj:Z t=some (.tup [.int (j:Nat),.ref ol]):=by rw[kZ t<|ae.ne az λ_ _ _ z=>by cases z];exact az
 walk_at "r";refine cJ (aY.of bj) (cK (by decide) rfl) ⟨bX<|by decide,λt2 b9=>?_⟩;obtain⟨W,eW,sW,hW⟩:=aT b9<|.tup [.str "lay",.int (r:Nat),.int (j:Nat),.int (v3:Nat)];rw[eW];clear eW;have FY:Fr [fs,od,gr] H1 Y:=FX.trans F2;have ap:∀b∈oa++[ol],b∉[fs,od,gr]/\b∉c.A/\(b∈oa∨H b=none):=λb hb=>by
  rcases fG.mp hb with z|z
  .exact ⟨pa.nb b z,px.n2 b z,.inl z⟩
  .rw [bY.mp z];exact⟨ag,st.off ab,.inr ab⟩
 have ax:bI W (oa++[ol])<|ps++[(r,os)]:=by
  refine bI.app ?_ ⟨sW _ _<|U<|F2 _ _ ag b4,trivial⟩;refine J.WR.keep λb hb o h=>sW _ _ ?_;obtain⟨i,hi⟩:=SJ hb;obtain⟨p',_,as⟩:=J.WR.get hi;have e1:o=.lst (nL p'.2):=QR<|h.symm.trans as;rw[e1];exact U<|F2 _ _ (J.nb b hb) as
 obtain⟨dx,fl,bm,_,_⟩:=ae.ex;have bq:=ba.three bW px FY;have bg:aH Ce (aN.mk K Cd Cc Ca Cb Cf Cg) Z c pr1:=bq.apart (S:=[x]) (λb o n h=>by rw[kZ b λz=>n<|by rw[z];exact bH];exact h) (λb hb=>by rw[bY.mp hb];exact .inr<|.inl ⟨_,_,_,bm⟩) λb hb=>by rw[bY.mp hb];exact px.n1.1
 have bo:PW s e ⟨v3,ps++[(r,os)],af⟩:=by
  refine⟨Cl.app.mpr ⟨r,pw.cl,rfl,au,av.symm⟩,by dsimp only;lia,?_⟩;dsimp only;rw[aU,iK,ay];cases aa:ps with
  |nil=>rw[aa] at ac;simpa using ac
  |cons p ps'=>rw[aa] at ac;simp at ac⊢;lia
 refine q t2 W ⟨v3,ps++[(r,os)],af⟩ (oa++[ol]) pr1 ⟨λb o n h=>?_,λb hb=>(ap b hb).2.2,⟨?_,?_,?_,?_,ax,J.ne,λb hb=>(ap b hb).1⟩,⟨px.n1,λb hb=>(ap b hb).2.1⟩,bg.mono sW,bo⟩ (by dsimp only;lia) (by simp) hp
 .refine sW _ _ ?_;rw[kZ b λz=>n<|by rw[z];exact bH];refine FY _ _ (λz=>n<|bK _<|nO [c.a,c.lg,c.tl] z)<|b3 _ _ (λz=>n<|bK _<|bK _<|bK _<|bK _ z) h
 .exact (bd.congr sJ).mono sW
 .refine sW _ _ (U ?_);rw[b1,<- b2,cF];unfold nL;rw[cF];rfl
 .refine sW _ _ (U ?_);rw[aw,cF];rfl
 .exact sW _ _ (U b6)
theorem Oo(F:aK K "step" "Pile.step" Mh f fd)(T:Bt K mg Ce Ci Cj Ck Ch Cd Cc Ca Cb Cf Cg)
  (z:Mt P w K mg base aC Ch "is_due_beneath" 1 ["self"]<|vb Ch)
  (O:Mt P w K mg base aC Ch "join_two" 8 ["self","lower"]<|fO Ce (aN.mk K Cd Cc Ca Cb Cf Cg) Ch)
  (U:Mt P w K mg base aC Ch "lay" 7 ["self"]<|pM Ce (aN.mk K Cd Cc Ca Cb Cf Cg) Ch)
 :aF P w K mg base aC 9 f fd ["self"]<|lG Ce (aN.mk K Cd Cc Ca Cb Cf Cg) Ch:=by
 refine F.ok pT (by (intro _ _ _ _ h;cases h;subst_vars;rfl)) λad A outer s H vs Q E hr h=>?_
 refine' ⟨_,(aG ?_ ?_),?_⟩;walk_at "d";obtain⟨c,pr,x,fs,od,gr,ls,s,e,r,oa,ps,gs,post,rfl,st,J,px,Z,he,hk,w,q0,q⟩:=h;walk_at "r";have ae:=J.WR.len;have aa:=Z.gl;have ac:=Z.cl.le.1;have ab:=Z.re;dsimp only at aa ac ab;unfold HY at w;dsimp only at w;refine J.hp.U9 (by walk_at "l") ⟨x,c.a,fs,od,gr,ls,s,e,r,oa,ps,gs,rfl,J,cY ?_⟩;cases hd:nE gs with
 |true=>
  rw[Z9 rfl];rw[Z9 hd] at w;have h2:=Lh hd;refine J.hp.U9 (by walk_at "l")<|J.hp.get T.Da T.Na (by walk_at "l") ⟨od,_,rfl,.inl<|aD.of J.WD,?_⟩;refine⟨c,pr,x,fs,od,gr,ls,s,e,ps.length-3,r,oa,ps,gs,post,?_,st,J,px,Z,by lia,he,hk,w,λt H' t' oa' pr' lf e1 e2 hp=>?_⟩
  .rw [aM];congr 3;lia
  .exact q t H' t' oa' pr' lf (by lia) hp
 |false=>
  rw[Z8<|by decide];rw[Z8<|by rw[hd];decide] at w;refine J.hp.get T.Da T.Nl (by walk_at "l")<|J.hp.get T.Da T.Ni (by walk_at "l")<|FW<|cY ?_;by_cases VH:r<e
  .rw [Z9<|decide_eq_true<|by lia];rw[Z9 VH] at w;refine J.hp.U9 (by walk_at "l") ⟨c,pr,x,fs,od,gr,ls,s,e,r,oa,ps,gs,post,rfl,st,J,px,Z,VH,he,hk,w,λt H' t' oa' pr' lf e1 e2 hp=>?_⟩;have:=lf.2.2.2.2.2.re;exact q t H' t' oa' pr' lf (by lia) hp
  .rw [Z8<|by simp;lia];rw[Z8 VH] at w;refine J.hp.get T.Da T.Na (by walk_at "l") ⟨od,_,rfl,.inl<|aD.of J.WD,?_⟩;rw[aM];by_cases h2:1<ps.length
   .rw [Z9<|by lia];rw[Z9 h2] at w;refine J.hp.U9 (by walk_at "l")<|J.hp.get T.Da T.Na (by walk_at "l") ⟨od,_,rfl,.inl<|aD.of J.WD,?_⟩;refine⟨c,pr,x,fs,od,gr,ls,s,e,ps.length-2,r,oa,ps,gs,post,?_,st,J,px,Z,by lia,he,hk,w,λt H' t' oa' pr' lf e1 e2 hp=>?_⟩
    .rw [aM];congr 3;lia
    .exact q t H' t' oa' pr' lf (by lia) hp
   .rw [Z8<|by lia];rw[Z8 h2] at w;exact q0 w
theorem P6(F:aK K "paper" "Pile.paper" Mz f fd)(T:Bt K mg Ce Ci Cj Ck Ch Cd Cc Ca Cb Cf Cg)
 :aF P w K mg base aC 1 f fd ["self"]<|lI Ch:=by
 refine F.ok iG (by (intro _ _ _ _ h;cases h;subst_vars;rfl)) λaf A outer s H vs Q E hr h=>?_
 have ah:=iG.nd;refine' ⟨_,(aG ?_<|aG ?_<|bP<|nK<|dS D8 ?_<|qJ (JZ rfl) rfl T.VJ Ra<|bW<|qJ oO rfl T.VL Sb ?_),?_⟩;walk_at "d";obtain⟨x,a,fs,od,gr,ls,s,e,r,oa,ps,gs,rfl,J,aa,ae,he,q⟩:=h;walk_at "r";refine⟨dU _,λp hp=>?_⟩;obtain⟨H1,O,s1,h1⟩:=aT hp<|.lst [];rw[O];clear O;have bW:=J.mono s1;have ab:=J.WR.len;refine bW.hp.get T.Da T.Na (by walk_at "l") ?_
 let VE:LI:=λi σ X=>∃v2,σ=[some<|.ref x,some<|.ref p,v2]/\aB H X/\X p=some (.lst<|nL<|flt<|ps.take i)
 refine xY (aD.of bW.WD) VE ⟨_,rfl,s1,h1⟩ (λi σ X _ zz=>by obtain⟨_,_,z,_⟩:=zz;exact aD.of<|z _ _ J.WD) ?_ ?_
 .rintro i y σ X Z ⟨v2,rfl,z,hX⟩;obtain⟨b,hb,rfl⟩:∃b,oa[i]?=some b/\y=.ref b:=by
   rw[dB] at Z;cases hz:oa[i]? with
   |none=>rw[hz] at Z;cases Z
   |some b=>rw[hz] at Z;exact⟨b,rfl,(QR Z).symm⟩
  obtain⟨p1,g1,g2⟩:=J.WR.get hb;have O:flt (ps.take<|i+1)=flt (ps.take i)++p1.2:=by
   rw[Sy,g1,vS];congr 1;unfold flt;simp
  have ag:(flt<|ps.take i).length+p1.2.length<=500:=by
   have e2:flt ps=flt (ps.take<|i+1)++flt (ps.drop<|i+1):=by rw[<- vS,xP]
   rw[e2,O,aU,aU] at aa;lia
  walk_at "r";refine⟨.inl ⟨rfl,_,aD.of hX⟩,p,b,_,_,rfl,rfl,hX,z _ _ g2,bX<|by rw[aM,aM];lia,?_⟩;refine⟨_,rfl,z.upd hp,?_⟩;rw[aS,O];unfold nL;rw[cF]
 rintro σ X ⟨v2,rfl,z,hX⟩;rw[aM,ab,List.take_length] at hX;walk_at "r";have U:=J.mono z;refine U.hp.get T.Da T.Nl (by walk_at "l")<|U.hp.get T.Da T.Ni (by walk_at "l") ⟨_,_,rfl,λp2 ac=>?_⟩;obtain⟨H3,e3,s3,h3⟩:=aT ac<|.rng r e;rw[e3];clear e3;refine⟨p2,r,e,rfl,h3,by lia,λl2 ad=>?_⟩;rw[nW];obtain⟨H4,e4,s4,h4⟩:=aT ad<|.lst<|nL<|Q8 r<|e-r;rw[e4];clear e4;refine⟨p,l2,_,_,rfl,rfl,s4 _ _<|s3 _ _ hX,h4,bX<|by rw[aM,aM,Er];lia,λl hl=>?_⟩;refine q l _ (z.trans<|s3.trans<|s4.new hl) ((z.trans<|s3.trans s4).free hl) ?_;rw[aS];unfold nL;rw[cF]
theorem Og(F:gD K "by_pile" "by_pile" LM f fd dv)(T:Bt K mg Ce Ci Cj Ck Ch Cd Cc Ca Cb Cf Cg)
  (O:Mt P w K mg base aC Ch "paper" 1 ["self"]<|lI Ch)
  (U:Mt P w K mg base aC Ch "step" 9 ["self"]<|lG Ce (aN.mk K Cd Cc Ca Cb Cf Cg) Ch)
  (ai:Kl P w K mg base aC "Pile" Ch 2 ["self","asker","least","part"]<|fM Ce Ch)
 :aF P w K mg base aC 10 f fd ["asker","least","part"]<|dF Ce<|aN.mk K Cd Cc Ca Cb Cf Cg:=by
 refine F.ok V3 (by (intro _ _ _ _ h;cases h;subst_vars;rfl)) λaw A outer s H vs Q E hr h=>?_
 have ax:=V3.nd;refine' ⟨_,(aG ?_<|aG (JQ Q1 ?_<|bP BK) ?_),?_⟩;walk_at "d";obtain⟨c,pr,ls,s,e,pt,post,rfl,st,aa,ad,he,hk,w,q⟩:=h;walk_at "r";intro x dx hx as ap;have aq:upd H dx (.own x) x=none:=by rw[bF<|Q4 ap];exact hx
 have J:aB H<|upd (upd H dx<|.own x) x<|.ins Ch dx []:=(aV as _).trans<|aV aq _;have hB:(upd (upd H dx<|.own x) x<|.ins Ch dx []) x=some (.ins Ch dx []):=aS;generalize upd (upd H dx<|.own x) x (.ins Ch dx [])=HB at J hB⊢;have aj:(∃b,pt=.ref b/\HB b=some (.tup [.int s,.int e]))∨(pt=.VA/\s=0/\c.a≠x/\∃rl ru m n tl xs,bG HB c.a Ce (fA rl ru m n tl)/\HB rl=some (.lst xs)/\xs.length=e):=by
  rcases aa with ⟨b,h1,h2⟩|⟨h1,h2,h3⟩
  .exact .inl ⟨b,h1,J _ _ h2⟩
  .exact .inr ⟨h1,h2,Q4<|st.ha.neN hx,c.rl,c.ru,_,_,c.tl,c.xs,(st.mono J).ha,J _ _ st.VC,by rw[st.len,h3]⟩
 clear aa;refine⟨x,dx,c.a,ls,s,e,pt,rfl,hB,aj,λfs od gr HC kC ah af ae ao=>⟨rfl,?_⟩⟩;have kA:aB H HC:=λb o h=>kC b o (bR h hx)<|J _ _ h;have px:Bg c x fs od gr []:=⟨⟨st.off hx,st.off<|J.free ah,st.off<|J.free af,st.off<|J.free ae⟩,λb hb=>by cases hb⟩
 walk_at "r";refine Bc (λn σ X=>L2.X4 λ(t:PS) (m:Nat) (oa:List QK) (pr':List A3)=>n=2*(e-t.r)+t.ps.length/\σ=[some<|.ref c.a,some<|.int ls,some pt,some<|.ref x]/\2*(e-t.r)+t.ps.length<m/\PW s e t/\bE Ch X x c.a fs od gr ls s e t.r oa t.ps t.gs/\Bg c x fs od gr oa/\aH Ce (aN.mk K Cd Cc Ca Cb Cf Cg) X c pr'/\Wp c.n c.an (Jj grd ls s e m t) pr' post/\Fr [x,fs,od,gr,c.a,c.lg,c.tl] HC X) ⟨_,⟨s,[],[]⟩,_,[],pr,rfl,rfl,by simp,⟨rfl,ad,rfl⟩,ao,px,st.mono kA,w,.refl⟩ ?_;rintro n σ X ⟨t,m,oa,pr',rfl,rfl,hm,pw,pa,au,ab,wX,fX⟩;obtain⟨m,rfl⟩:∃m',m=m'+1:=⟨m-1,by lia⟩
 obtain⟨r,ps,gs⟩:=t;dsimp only at hm pa;have ac:=pw.cl.le;have ag:=pw.re;dsimp only at ac ag;have fin:∀{Z:Hp},aB X Z->Fr c.S H Z:=fun {Z} sZ b o n h=>sZ _ _<|fX _ _ (λz=>by
  rcases cL.mp z with z|z
  .exact bR h hx z
  rcases cL.mp z with z|z
  .exact bR h (J.free ah) z
  rcases cL.mp z with z|z
  .exact bR h (J.free af) z
  rcases cL.mp z with z|z
  .exact bR h (J.free ae) z
  .exact n z)<|kA _ _ h
 walk_at "r";refine pa.hp.U9 (by walk_at "l") ⟨c,pr',x,fs,od,gr,ls,s,e,r,oa,ps,gs,_,rfl,ab,pa,au,pw,he,hk,wX.bind,λhp=>?_,λt2 Y t' oa' pr2 lf am hp=>?_⟩
 .refine pa.hp.U9 (by walk_at "l") ⟨x,c.a,fs,od,gr,ls,s,e,r,oa,ps,gs,rfl,pa,by rw[ac.2];lia,ag,he,λl Z sZ av hl=>?_⟩;exact q l Z _ pr' (fin sZ) (ab.free (fin<|.refl _) av) hl (ab.mono sZ) (by rw[aU,ac.2,Er];lia) hp
 .refine Bb ?_;walk_at "r";obtain⟨f1,f2,f4,f5,f6,f7⟩:=lf;exact⟨_,am,t',m,oa',pr2,rfl,by lia,f7,f4,f5,f6,hp,fX.trans f1⟩
theorem PC(F:aK K "meetings_of" "meetings_of" ND f fd)(T:Bt K mg Ce Ci Cj Ck Ch Cd Cc Ca Cb Cf Cg)
  (J:Fn P w K mg base aC "meetings_of" n ["first","beyond"]<|cB n)
 :aF P w K mg base aC (n+1) f fd ["first","beyond"]<|cB<|n+1:=by
 refine F.ok V7 (by (intro _ _ _ _ h;cases h;subst_vars;rfl)) λau A outer s H vs Q E hr h=>?_
 have av:=V7.nd;refine' ⟨_,(aG ?_<|aG ?_<|bP<|nK<|dS D8 (dS D8 (uG J (hr.mono<|aL _) rfl cG ?_)<|uG J (hr.mono<|aL _) rfl cG ?_) ?_),?_⟩;walk_at "d";obtain⟨f,b,rfl,ag,ao,ah,U,q⟩:=h;walk_at "r";by_cases VH:(b:Int)-f<2
 .rw [Z9 VH];refine⟨dU _,λl hl=>q l _ [] (aV hl _) hl aS ?_⟩;rw[Po.cH<|by lia];exact dY.nil
 rw[Z8 VH];refine⟨⟨by decide,by decide⟩,?_⟩;have hm:=Po.cI (f:=f) (b:=b) (by lia);have em:(f:Int)+((b:Int)-f+1)/2=((Po.mid f b:Nat):Int):=by unfold Po.mid;lia
 rw[em];have ai:2^(n+1-1)=2^n:=by rw[Uh]
 rw[ai] at U;obtain⟨k,rfl⟩:∃k,n=k+1:=⟨n-1,by
  cases n with
  |zero=>rw[Nat.pow_zero] at U;lia
  |succ n=>rfl⟩
 rw[Nat.pow_succ] at U;refine⟨f,Po.mid f b,rfl,by lia,by lia,by lia,by rw[Uh];unfold Po.mid at*;lia,λl1 H1 Z s1 as ap ac=>?_⟩;refine⟨Po.mid f b,b,rfl,by lia,by lia,by lia,by rw[Uh];unfold Po.mid at*;lia,λl2 H2 aa s2 aq aj ab=>?_⟩;have ad:=ac.len;have ae:=ab.len;rw[Po.gB] at ad ae;refine⟨l1,l2,Z,aa,rfl,rfl,s2 _ _ ap,aj,bX<|by lia,λl3 am=>?_⟩;obtain⟨H3,e3,s3,h3⟩:=aT am<|.lst<|Z++aa;rw[e3];clear e3;refine⟨bX<|by decide,λt ht=>?_⟩;obtain⟨H4,e4,s4,h4⟩:=aT ht<|.tup [.int (f:Int),.int ((Po.mid f b:Nat):Int),.int (b:Int)];rw[e4];clear e4;refine⟨bX<|by decide,λl4 af=>?_⟩;obtain⟨H5,e5,s5,h5⟩:=aT af<|.lst [.ref t];rw[e5];clear e5;refine⟨l3,l4,_,_,rfl,rfl,s5 _ _<|s4 _ _ h3,h5,bX<|by rw[aU,iK];lia,λl6 O=>?_⟩;have S5:=s1.trans<|s2.trans<|s3.trans<|s4.trans s5;refine q l6 _ _ (S5.trans<|aV O _) (S5.free O) aS ?_;rw[Po.cA<|by lia];have up:∀t x,H5 t=some (.tup x)->upd H5 l6 (.lst<|Z++aa++[.ref t]) t=some (.tup x):=λt x h=>aV O _ _ _ h;exact((ac.keep λ_ _ z=>aV O _ _ _<|s5 _ _<|s4 _ _<|s3 _ _<|s2 _ _ z).app<|ab.keep λ_ _ z=>aV O _ _ _<|s5 _ _<|s4 _ _<|s3 _ _ z).app<|dY.one<|aV O _ _ _<|s5 _ _ h4
theorem Qe(F:aK K "front_of" "Pour.front_of" MZ f fd)(T:Bt K mg Ce Ci Cj Ck Ch Cd Cc Ca Cb Cf Cg)
 :aF P w K mg base aC 1 f fd ["self","piece","taken"]<|cN false Cj:=by
 refine F.ok fD (by (intro _ _ _ _ h;cases h;subst_vars;rfl)) λZ A outer s H vs Q E hr h=>?_
 have aa:=fD.nd;refine' ⟨_,(aG ?_ ?_),?_⟩;walk_at "d";obtain⟨p,ak,pl,tk,ml,wd,pls,pcs,i,t,xs,rfl,z,U,q⟩:=h;walk_at "r";obtain⟨l,el,hl⟩:=z.at U;have hl:H l=some (.lst<|nL xs):=hl;refine z.hp.get T.Dk T.N9 (by walk_at "l")<|bM (aD.of z.VD) (cK (v:=.ref l) (by lia)<|by rw[Int.toNat_natCast,dB,el];rfl) ?_;walk_at "r";refine⟨l,_,rfl,.inl<|aD.of hl,?_⟩;rw[aM];by_cases VH:(t:Int)<xs.length
 .rw [Z9 VH];have ht:t<xs.length:=by lia
  have O:xs[t]?=some xs[t]:=bV ht;refine bM (aD.of hl) (Kp O) ⟨bX<|by decide,λr J=>q _ _ (aV J _) ?_⟩;unfold front;rw[O];exact⟨r,rfl,aS⟩
 .rw [Z8 VH];refine q _ _ (.refl _) ?_;unfold front;rw[wu<|by lia];rfl
theorem Om(F:aK K "front_of" "LastPour.front_of" NF f fd)(T:Bt K mg Ce Ci Cj Ck Ch Cd Cc Ca Cb Cf Cg)
 :aF P w K mg base aC 1 f fd ["self","piece","taken"]<|cN true Ck:=by
 refine F.ok cR (by (intro _ _ _ _ h;cases h;subst_vars;rfl)) λZ A outer s H vs Q E hr h=>?_
 have aa:=cR.nd;refine' ⟨_,(aG ?_ ?_),?_⟩;walk_at "d";obtain⟨p,ak,pl,tk,ml,wd,pls,pcs,i,t,xs,rfl,z,U,q⟩:=h;walk_at "r";obtain⟨l,el,hl⟩:=z.at U;have hl:H l=some (.lst<|nL xs.reverse):=hl;refine z.hp.get T.Dj T.Yt (by walk_at "l")<|bM (aD.of z.VD) (cK (v:=.ref l) (by lia)<|by rw[Int.toNat_natCast,dB,el];rfl) ?_;walk_at "r";refine⟨l,_,rfl,.inl<|aD.of hl,?_⟩;rw[aM,GF];by_cases VH:(t:Int)<xs.length
 .rw [Z9 VH];have ht:t<xs.length:=by lia
  have O:xs[t]?=some xs[t]:=bV ht;have e2:xs.reverse[xs.length-1-t]?=some xs[t]:=by
   rw[List.getElem?_reverse<|by lia,show xs.length-1-(xs.length-1-t)=t by lia];exact O
  refine⟨l,_,rfl,.inl<|aD.of hl,?_⟩;rw[aM,GF,show(xs.length:Int)-1-t=((xs.length-1-t:Nat):Int) by lia];refine bM (aD.of hl) (Kp e2) ⟨bX<|by decide,λr J=>q _ _ (aV J _) ?_⟩;unfold front;rw[O];exact⟨r,rfl,aS⟩
 .rw [Z8 VH];refine q _ _ (.refl _) ?_;unfold front;rw[wu<|by lia];rfl
theorem Qz(F:aK K "goes_on" "Pour.goes_on" MR f fd)(T:Bt K mg Ce Ci Cj Ck Ch Cd Cc Ca Cb Cf Cg)
  (z:Mt P w K mg base aC Ce "ahead" 4 ["self","p","q"]<|bU Ce<|aN.mk K Cd Cc Ca Cb Cf Cg)
 :aF P w K mg base aC 5 f fd ["self","p","q"]<|dE Ce (aN.mk K Cd Cc Ca Cb Cf Cg) false Cj:=by
 refine F.ok kT (by (intro _ _ _ _ h;cases h;subst_vars;rfl)) λU A outer s H vs Q E Z h=>?_
 refine' ⟨_,(bP ?_),?_⟩;walk_at "d";obtain⟨c,pr,p,pl,tk,ml,wd,x,y,k,post,rfl,st,O,J,w,q⟩:=h;walk_at "r";exact O.get T.Dk T.Ys (by walk_at "l")<|st.ha.U9 (by walk_at "l")<|aH.ahead st J w q
theorem PM(F:aK K "goes_on" "LastPour.goes_on" NN f fd)(T:Bt K mg Ce Ci Cj Ck Ch Cd Cc Ca Cb Cf Cg)
  (J:Mt P w K mg base aC Ce "ahead" 4 ["self","p","q"]<|bU Ce<|aN.mk K Cd Cc Ca Cb Cf Cg)
 :aF P w K mg base aC 5 f fd ["self","p","q"]<|dE Ce (aN.mk K Cd Cc Ca Cb Cf Cg) true Ck:=by
 refine F.ok iD (by (intro _ _ _ _ h;cases h;subst_vars;rfl)) λU A outer s H vs Q E hr h=>?_
 refine' ⟨_,(bP ?_),?_⟩;walk_at "d";obtain⟨c,pr,p,pl,tk,ml,wd,x,y,k,post,rfl,st,O,Z,w,q⟩:=h;walk_at "r";refine O.get T.Dj T.Yv (by walk_at "l")<|st.ha.U9 (by walk_at "l") ?_;obtain⟨h1,h2,h3,w⟩:=w;have hf:(flp true pr).length=pr.length:=aM ..;refine aH.WM st h1 h2 (by rw[hf];exact h3) λH2 f2 s2=>cY ?_;have e:c.Ws true pr.length (max x y) (min x y)=!c.an 0 (max x y) (min x y):=rfl;rw[e] at w;generalize c.an 0 (max x y) (min x y)=b at w s2⊢;have z:=q _ H2 (pr++[(max x y,min x y,!b)]) f2 (by
  have:flp true (pr++[(max x y,min x y,!b)])=flp true pr++[(max x y,min x y,b)]:=by
   show SV _ _=_;rw[cF];cases b<;>rfl
  show aH _ _ _ _ (flp true _);rw[this];exact s2) w
 by_cases VH:y<x
 .rw [Z9 VH] at z⊢;exact z
 .rw [Z8 VH] at z⊢;exact z
theorem Of(F:aK K "met" "Pour.met" L4 f fd)(T:Bt K mg Ce Ci Cj Ck Ch Cd Cc Ca Cb Cf Cg)(TX:Dr K Cm)
  (J:Mt P w K mg base aC Cm "goes_on" 5 ["self","p","q"]<|dE Ce (aN.mk K Cd Cc Ca Cb Cf Cg) bb Cm)
 :aF P w K mg base aC 6 f fd ["self","one","other"]<|lT Ce (aN.mk K Cd Cc Ca Cb Cf Cg) bb Cm:=by
 refine F.ok rA (by (intro _ _ _ _ h;cases h;subst_vars;rfl)) λaa A outer s H vs Q E hr h=>?_
 refine' ⟨_,(aG ?_ ?_),?_⟩;walk_at "d";obtain⟨c,pr,p,pl,tk,ml,wd,u1,u2,one,other,post,rfl,st,hp,h1,h2,hk,w,q⟩:=h;walk_at "r";have nn:∀t,V.ref t≠V.VA:=λ_ z=>by cases z
 cases one with
 |none=>
  cases(show u1=V.VA from h1);rw[Z9 rfl,Z9 rfl];exact q u2 H other pr .refl st h2 w
 |some x=>
  obtain⟨t1,rfl,O⟩:=h1;rw[Z8<|nn _];cases other with
  |none=>
   cases(show u2=V.VA from h2);rw[Z9 rfl,Z8<|nn _];exact q _ H (some x) pr .refl st ⟨t1,rfl,O⟩ w
  |some y=>
   obtain⟨t2,rfl,U⟩:=h2;rw[Z8<|nn _];refine hp.U9 (by walk_at "l")<|cJ (aY.of O) (cK (by decide) rfl)<|cJ (aY.of U) (cK (by decide) rfl) ?_;have w:Wp c.n (c.Ws bb) (VY x.1 y.1 λb=>.ret<|if b then some x else some y) pr post:=w;refine⟨c,pr,p,pl,tk,ml,wd,x.1,y.1,_,post,rfl,st,hp,hk,w,λb H2 pr2 Z s2 w2=>cY ?_⟩;cases b
   .rw [Z8<|by decide];exact q _ H2 (some y) pr2 Z s2 ⟨t2,rfl,st.tup Z U⟩ w2
   .rw [Z9 rfl];exact q _ H2 (some x) pr2 Z s2 ⟨t1,rfl,st.tup Z O⟩ w2
theorem Oc(F:aK K "held" "Pour.held" Mi f fd)(T:Bt K mg Ce Ci Cj Ck Ch Cd Cc Ca Cb Cf Cg)(TX:Dr K Cm)
  (O:Mt P w K mg base aC Cm "met" 6 ["self","one","other"]<|lT Ce (aN.mk K Cd Cc Ca Cb Cf Cg) bb Cm)
 :aF P w K mg base aC 7 f fd ["self","meetings","went_on"]<|ib Ce (aN.mk K Cd Cc Ca Cb Cf Cg) bb Cm:=by
 refine F.ok fW (by (intro _ _ _ _ h;cases h;subst_vars;rfl)) λbh A outer s H vs Q E hr h=>?_
 have bi:=fW.nd;refine' ⟨_,(aG (oY (i:=3) fW.nd rfl (by (first | exact Or.inl rfl | exact Or.inr rfl))<|qJ (mE) rfl T.WL PyProof.Rows.boot_dict ?_)<|aG (lR Q1 rfl ?_ ?_<|bP<|K0 (GO hr) ?_ ?_ (iI O hr.mn cG ?_<|dG (vA (GO hr) ?_ ?_ λ_ _=>rfl)<|vA (GO hr) ?_ ?_ λ_ _=>rfl) rfl) ?_),?_⟩;walk_at "d";obtain⟨c,pr,p,pl,tk,ml,wd,mt,wo,mvs,ms,w0,B,k,kvs,post,rfl,st,hp,np,as,ag,hM,ba,am,dt,hB,af,hk,w,ad,q⟩:=h;walk_at "r";refine⟨wo,kvs,rfl,dt.hd,dt.sm,λd hd=>?_⟩;obtain⟨H1,e1,s1,h1⟩:=aT hd<|.dT kvs;rw[e1];clear e1;have b7:DT H1 d w0 B kvs:=⟨h1,dt.sm,dt.len,(dt.mono s1).val⟩
 have ai:=st.off hd
 let VE:LI:=λi σ X=>L2.X6 λv4 v5 v6 wi kvi pr'=>σ=[some<|.ref p,some<|.ref mt,some<|.ref wo,some<|.ref d,v4,v5,v6]/\DT X d wi (B+k*i) kvi/\(k=1∨k=0/\∀m∈ms,(wi m.1 m.2.2).isSome=true)/\gC bb Ce (aN.mk K Cd Cc Ca Cb Cf Cg) X c pr'/\Fr c.S H X/\Wp c.n (c.Ws bb) (kM (ms.drop i) wi) pr' post
 refine xY (aD.of<|s1 _ _ ag) VE ⟨_,_,_,w0,kvs,pr,rfl,by rw[Ul];exact b7,af,st.mono s1,s1.fr,w⟩ (λi σ X _ zz=>by obtain⟨_,_,_,_,_,_,_,_,_,_,f,_⟩:=zz;exact aD.of<|f _ _ as ag) ?_ ?_
 .rintro i x σ X hx ⟨v4,v5,v6,wi,kvi,pr',rfl,U,ac,ae,fi,J⟩;have hi:=(cV.mp hx).1;rw[hM.len] at hi;obtain⟨m,hm⟩:∃m,ms[i]?=some m:=⟨_,bV hi⟩
  obtain⟨t,ah,aw⟩:=hM.get i m hm;rw[hx] at ah;cases ah;refine xZ (aY.of<|st.tup fi aw) rfl ?_;walk_at "r";rw[uC hm,kM] at J;have ao:=AD fi np hp;cases e1:wi m.1 m.2.1 with
  |none=>rw[e1] at J;exact absurd J<|ad _
  |some x=>
  cases e2:wi m.2.1 m.2.2 with
  |none=>rw[e1,e2] at J;exact absurd J<|ad _
  |some y=>
   rw[e1,e2] at J;dsimp only at J;obtain⟨u1,bd,be⟩:=U.val _ _ _ e1;obtain⟨u2,b1,bc⟩:=U.val _ _ _ e2;refine ao.U9 (by walk_at "l") ⟨bX<|by decide,λk1 b8=>?_⟩;obtain⟨X1,av,aj,b2⟩:=aT b8<|.tup [.int (m.1:Int),.int (m.2.1:Int)];rw[av];clear av;refine⟨d,u1,rfl,by have:=mJ.t (k:=kQ m.1 m.2.1) (aj _ _ U.hd) b2;rw[bd] at this;exact this,bX<|by decide,λk2 az=>?_⟩;obtain⟨X2,ap,b5,b4⟩:=aT az<|.tup [.int (m.2.1:Int),.int (m.2.2:Int)];rw[ap];clear ap;have S2:=aj.trans b5;refine⟨d,u2,rfl,by have:=mJ.t (k:=kQ m.2.1 m.2.2) (S2 _ _ U.hd) b4;rw[b1] at this;exact this,?_⟩;have ab:=ae.mono S2;refine⟨c,pr',p,pl,tk,ml,wd,u1,u2,x,y,_,rfl,ab,ao.mono S2,be.keep λ_ _ z=>S2 _ _ z,bc.keep λ_ _ z=>S2 _ _ z,hk,J.bind,λu Y v pr2 fY bf b6 ax=>⟨bX<|by decide,λk3 ay=>?_⟩⟩;obtain⟨Y2,aq,Z,b9⟩:=aT ay<|.tup [.int (m.1:Int),.int (m.2.2:Int)];rw[aq];clear aq;have aa:DT Y2 d wi (B+k*i) kvi:=((U.mono S2).fr fY (Ad.SA ai) λt z h=>Ad.SA<|ab.tupS h (λ_ z=>by cases z) λ_ _ _ z=>by cases z).mono Z;have bg:k*i<=400:=by
    rcases af with rfl|⟨rfl,_⟩
    .lia
    .lia
   refine⟨d,_,rfl,uK.t (k:=kQ m.1 m.2.2) aa.hd b9<|oZ (by have:=aa.len;lia),?_⟩;have au:=am m<|gO hm;have b0:k=1∨(wi m.1 m.2.2).isSome=true:=by
    rcases ac with z|⟨_,z⟩
    .exact .inl z
    .exact .inr (z m<|gO hm)
   refine⟨_,_,_,Po.put wi m.1 m.2.2 v,putK kvi (kQ m.1 m.2.2) u,pr2,rfl,?_,ac.imp id λz=>⟨z.1,λm' b3=>ID<|z.2 m' b3⟩,?_,?_,ax⟩
   .rw [Tx,<- Nat.add_assoc];exact aa.put au.1 au.2 (b6.keep λ_ _ z=>Z _ _ z) b0
   .exact (bf.mono Z).apart (S:=[d]) zQ (λb hb=>by rw[bY.mp hb];exact .inr<|.inr<|.inl ⟨_,aa.hd⟩) λb hb=>by rw[bY.mp hb];exact ai
   .intro b o n hb;rw[bF<|bR hb hd];exact Z _ _<|fY _ _ n<|S2 _ _<|fi _ _ n hb
 rintro σ X ⟨v4,v5,v6,wi,kvi,pr',rfl,U,ac,ae,fi,J⟩;rw[hM.len] at U J;rw[RU<|aL _] at J;walk_at "r";exact q d X wi kvi pr' fi hd U ae J
theorem Oa(F:aK K "top" "Pour.top" L5 f fd)(T:Bt K mg Ce Ci Cj Ck Ch Cd Cc Ca Cb Cf Cg)(Z:Dr K Cm)
 :aF P w K mg base aC 1 f fd ["self"]<|nV bb Cm:=by
 refine F.ok qZ (by (intro _ _ _ _ h;cases h;subst_vars;rfl)) λaa A outer s H vs Q E hr h=>?_
 refine' ⟨_,(bP<|nK<|AB PySem.F.plainAttrs_dict Th PySem.F.type_dict_get (B1<|GO hr) ?_ ?_),?_⟩;walk_at "d";obtain⟨p,ak,pl,tk,ml,wd,pls,pcs,w0,B,kvs,top,rfl,U,O,J,q⟩:=h;walk_at "r";refine U.hp.get Z.Db Z.Nf (by walk_at "l") ?_;walk_at "r";refine⟨.inr<|.inr<|.inl ⟨rfl,.inr ⟨_,O.hd⟩⟩,?_⟩;refine U.hp.get Z.Db Z.Nm (by walk_at "l") ?_;walk_at "r";refine⟨pl,_,rfl,.inl<|aD.of U.VD,bX<|by decide,λt ht=>?_⟩;rw[aM,U.len];obtain⟨H1,e1,s1,h1⟩:=aT ht<|.tup [.int ((0:Nat):Int),.int (pcs.length:Int)];rw[show((0:Nat):Int)=0 from rfl] at e1;rw[e1];clear e1;refine⟨wd,_,_,rfl,rfl,mJ.t (k:=kQ 0 pcs.length) (s1 _ _ O.hd) h1,?_⟩;rcases J with hv|⟨rfl,rfl⟩
 .obtain ⟨u,hu,fv⟩:=O.val _ _ _ hv;rw[hu];exact q u H1 s1<|fv.keep λ_ _ z=>s1 _ _ z
 .have:kvs=[]:=Bk.mp (by have:=O.len;lia);rw[this];exact q _ H1 s1 rfl
theorem Ob(F:aK K "first" "Pour.first" MA f fd)(T:Bt K mg Ce Ci Cj Ck Ch Cd Cc Ca Cb Cf Cg)(TX:Dr K Cm)
  (O:Mt P w K mg base aC Cm "top" 1 ["self"]<|nV bb Cm)
 :aF P w K mg base aC 2 f fd ["self"]<|ip bb Cm:=by
 refine F.ok iF (by (intro _ _ _ _ h;cases h;subst_vars;rfl)) λaa A outer s H vs Q E hr h=>?_
 have ab:=iF.nd;refine' ⟨_,(aG ?_ ?_),?_⟩;walk_at "d";obtain⟨p,ak,pl,tk,ml,wd,pls,pcs,w0,B,kvs,top,rfl,U,dt,J,q⟩:=h;walk_at "r";refine U.hp.U9 (by walk_at "l") ⟨p,ak,pl,tk,ml,wd,pls,pcs,w0,B,kvs,top,rfl,U,dt,J,λu H1 s1 Z=>?_⟩;walk_at "r";cases top with
 |none=>
  cases(show u=V.VA from Z);rw[Z9 rfl];exact q H1 s1
 |some x=>
  obtain⟨t,rfl,ht⟩:=Z;rw[Z8 λz=>by cases z];exact cJ (aY.of ht) (cK (by decide) rfl)<|q H1 s1
theorem P0(F:aK K "left" "Pour.left" Ml f fd)(T:Bt K mg Ce Ci Cj Ck Ch Cd Cc Ca Cb Cf Cg)(TX:Dr K Cm)
 :aF P w K mg base aC 1 f fd ["self"]<|pL bb Cm:=by
 refine F.ok pS (by (intro _ _ _ _ h;cases h;subst_vars;rfl)) λac A outer s H vs Q E hr h=>?_
 refine' ⟨_,(bP<|nK<|dS Jz (mH (sV rfl) rfl T.Xb PyProof.Rows.boot_sum<|bW<|we (js:=[]) (N:=[]) rfl ?_ λ_ _ _ _=>(mH (iH K) rfl T.Wx TM<|bW<|pv 0))<|mH (sV rfl) rfl T.Xb PyProof.Rows.boot_sum ?_),?_⟩;walk_at "d";obtain⟨p,ak,pl,tk,ml,wd,pls,pcs,ts,rfl,z,VQ,VD,ab,O,Z,q⟩:=h;walk_at "r";refine z.hp.get TX.Db TX.Nm (by walk_at "l") ?_;walk_at "r"
 let VE:CI:=λi ys σ H'=>∃v,σ=[v]/\H'=H/\ys=((pcs.take i).map λxs=>((xs.length:Nat):Int)).map V.int
 refine qC (aD.of z.VD) (by rw[aM,z.len];lia) VE ⟨_,rfl,rfl,rfl⟩ (λi ys σ H' _ zz=>by obtain⟨_,_,e,e2⟩:=zz;exact⟨by rw[e];exact aD.of z.VD,by rw[e2,aM,aM,kP];lia⟩) ?_ ?_
 .rintro i ys x σ H' hi J ⟨v,rfl,rfl,rfl⟩;rw[aM,z.len] at hi;obtain⟨xs,U⟩:∃xs,pcs[i]?=some xs:=⟨_,bV hi⟩
  obtain⟨l,el,hl⟩:=z.at U;rw[dB,el] at J;cases J;walk_at "r";refine⟨l,_,rfl,.inl<|aD.of hl,?_⟩;refine dI.of (by rw[aM,z.len];exact hi) ⟨_,rfl,rfl,?_⟩;rw[Sy,U,cF,cF];show _=_++[V.int ((xs.length:Nat):Int)];rw[aM,EV]
 rintro ys σ H' ⟨v,rfl,rfl,rfl⟩ sl aa;rw[aM,z.len,pE<|aL _];obtain⟨H1,e1,s1,h1⟩:=aT aa<|.lst<|(pcs.map λxs=>((xs.length:Nat):Int)).map V.int;rw[e1];clear e1;refine⟨sl,_,rfl,aD.of h1,⟨by rw[aM];lia,λx J=>by
  obtain⟨xs,h2,rfl⟩:=xR.mp J;have:=O xs h2;lia⟩,?_⟩
 refine(z.mono s1).hp.get TX.Db TX.No (by walk_at "l") ?_;have e2:nL ts=(ts.map λ(n:Nat)=>(n:Int)).map V.int:=by unfold nL;rw[AO];rfl
 refine⟨tk,_,rfl,aD.of (by rw[<- e2];exact s1 _ _ VQ),⟨by rw[aM];lia,λx J=>by
  obtain⟨t,h2,rfl⟩:=xR.mp J;have:=Z t h2;lia⟩,?_⟩
 rw[sum_nat,show(pcs.map λxs=>((xs.length:Nat):Int))=(pcs.map Rr).map λ(n:Nat)=>(n:Int) by rw[AO];rfl,sum_nat];exact q H1 s1
theorem Oe(F:aK K "__init__" "Pour.__init__" Mj f fd)(T:Bt K mg Ce Ci Cj Ck Ch Cd Cc Ca Cb Cf Cg)(O:Dr K Cm)
  (b9:Fn P w K mg base aC "meetings_of" 9 ["first","beyond"]<|cB 9)
  (be:Mt P w K mg base aC Cm "held" 7 ["self","meetings","went_on"]<|ib Ce (aN.mk K Cd Cc Ca Cb Cf Cg) bb Cm)
  (aw:Mt P w K mg base aC Cm "front_of" 1 ["self","piece","taken"]<|cN bb Cm)
 :aF P w K mg base aC 10 f fd ["self","asker","pieces"]<|bQ Ce (aN.mk K Cd Cc Ca Cb Cf Cg) bb Cm:=by
 refine F.ok jH (by (intro _ _ _ _ h;cases h;subst_vars;rfl)) λdy A outer s H vs Q E hr h=>?_
 have dz:=jH.nd;refine' bN 6 (bP ?_) λ_ dZ _=>bN 4 (aG (Im ?_ y8 rfl)<|aG (lR Q1 rfl ?_ ?_<|bP<|K0 (GO hr) ?_ ?_ ?_ rfl) dZ) λ_ dZ _=>bN 3 (aG ?_ dZ) λ_ dZ _=>bN 2 (aG (Im ?_ (we (js:=[]) (N:=[]) rfl ?_ λ_ _ _ _=>xH) rfl) dZ) λ_ dZ _=>⟨_,(aG ?_<|aG (Im ?_ (we (js:=[]) (N:=[]) rfl ?_ λ_ _ _ _=>(qJ (MH K) rfl T.VJ Ra<|bW<|pv 0)) rfl) dZ),?_⟩
 walk_at "d";obtain⟨c,pr,x,dx,hl,hls,pcs,post,rfl,hx,st,b0,b4,bi,hn,nx,hk,w,cq,q⟩:=h;walk_at "r";have d1:hl≠x:=λz=>by rw[z,hx] at b0;cases b0
 refine bZ hx O.Db O.Yu (by decide) λH2 x2 k2=>?_;walk_at "r";have au:∀b o,b≠x->H b=some o->H2 b=some o:=λb o n e=>by rw[k2 b n];exact e
 have d3:∀(i:Nat) l ys,hls[i]?=some l->pcs[i]?=some ys->H2 l=some (.lst<|nL<|rv bb ys):=λi l ys h1 h2=>by
  have h:=bi i l ys h1 h2;exact au _ _ (λz=>by rw[z,hx] at h;cases h) h
 let VE:CI:=λi ys σ H'=>L2.X2 λ(v:Option V) (ns:List QK)=>σ=[v]/\aB H2 H'/\ys=ns.map V.ref/\ns.length=i/\(∀(j:Nat) l zs,ns[j]?=some l->pcs[j]?=some zs->H' l=some (.lst<|nL<|rv bb zs))/\∀l∈ns,H2 l=none
 refine qC (aD.of<|au _ _ d1 b0) (by rw[aM];lia) VE ⟨_,[],rfl,.refl _,rfl,rfl,λj l zs h=>by simp at h,λl h=>by cases h⟩ (λi ys σ H' _ zz=>by obtain⟨_,ns,_,e,e2,e3,_⟩:=zz;exact⟨aD.of<|e _ _<|au _ _ d1 b0,by rw[e2,aM];lia⟩) ?_ ?_
 .rintro i ys u σ H' hi hu ⟨v,ns,rfl,sA,rfl,dr,d9,dc⟩;rw[aM] at hi;have d8:i<pcs.length:=by lia
  obtain⟨zs,ay⟩:∃zs,pcs[i]?=some zs:=⟨_,bV d8⟩
  rw[dB,bV hi] at hu;cases hu;have dm:=sA _ _<|d3 i _ zs (bV hi) ay;walk_at "r";refine⟨_,_,rfl,.inl<|aD.of dm,λl' bq=>?_⟩;refine dI.of (by rw[aM];exact hi) ⟨_,ns++[l'],rfl,sA.new bq,by rw[cF];rfl,by rw[aU,dr];rfl,λj l da h1 h2=>?_,λl h=>?_⟩
  .by_cases z:j<ns.length
   .rw [iE z] at h1;exact aV bq _ _ _<|d9 j l da h1 h2
   .rw [gI<|by lia] at h1;cases hk:j-ns.length with
    |zero=>
     rw[hk] at h1;cases h1;rw[show j=i by lia,ay] at h2;cases h2;exact aS
    |succ m=>rw[hk] at h1;simp at h1
  .rcases fG.mp h with h|h
   .exact dc l h
   .rw [bY.mp h];exact sA.free bq
 rintro ys σ H3 ⟨v,pls,rfl,s3,rfl,b3,bm,b7⟩ pl bd;rw[aM] at b3;obtain⟨H4,e4,s4,h4⟩:=aT bd<|.lst<|pls.map V.ref;rw[e4];clear e4;have x4:=s4 _ _<|s3 _ _ x2;have af:pl≠x:=Q4<|bR (s3 _ _ x2) bd;refine bZ x4 O.Db O.Nm CZ λH5 x5 k5=>?_;walk_at "r";have bg:∀b o,b≠x->H4 b=some o->H5 b=some o:=λb o n e=>by rw[k5 b n];exact e
 have U:=bg _ _ af h4;have ab:∀l∈pls,l≠x:=λl h z=>by have:=b7 l h;rw[z,x2] at this;cases this
 have ai:∀(j:Nat) l zs,pls[j]?=some l->pcs[j]?=some zs->H5 l=some (.lst<|nL<|rv bb zs):=λj l zs h1 h2=>bg _ _ (ab l<|gO h1)<|s4 _ _<|bm j l zs h1 h2;refine bL ?_;walk_at "r";have i5:bG H5 x Cm [("pieces",.ref pl),("asker",.ref c.a)]:=(bG.of x5<|cW C0<|by decide).congr λf=>by simp only[lS,lkc]
 refine i5.get O.Db O.Nm (by walk_at "l") ?_
 let VS:CI:=λi ys σ H'=>∃v,σ=[v]/\aB H5 H'/\ys=nL (Q5 i 0)
 refine qC (aD.of U) (by rw[aM];lia) VS ⟨_,rfl,.refl _,rfl⟩ (λi ys σ H' _ zz=>by obtain⟨_,_,e,e2⟩:=zz;exact⟨aD.of<|e _ _ U,by rw[e2,aM,EA];exact aL _⟩) ?_ ?_
 .rintro i ys u σ H' hi hu ⟨v,rfl,sA,rfl⟩;walk_at "r";refine dI.of hi ⟨_,rfl,sA,?_⟩;unfold nL;rw[List.replicate_succ',cF];rfl
 rintro ys σ H6 ⟨v,rfl,s6,rfl⟩ tk ao;rw[aM,b3,b4];obtain⟨H7,e7,s7,h7⟩:=aT ao<|.lst<|nL<|Q5 pcs.length 0;rw[e7];clear e7;have x7:=s7 _ _<|s6 _ _ x5;have ad:tk≠x:=Q4<|bR (s6 _ _ x5) ao;refine bZ x7 O.Db O.No C0 λH8 x8 k8=>?_;walk_at "r";have b6:∀b o,b≠x->H5 b=some o->H8 b=some o:=λb o n e=>by rw[k8 b n];exact s7 _ _<|s6 _ _ e
 have as:H8 tk=some (.lst<|nL<|Q5 pcs.length 0):=by rw[k8 tk ad];exact h7
 refine bL ?_;walk_at "r";have i8:bG H8 x Cm [("taken",.ref tk),("pieces",.ref pl),("asker",.ref c.a)]:=(bG.of x8<|cW GR<|by decide).congr λf=>by simp only[lS,lkc]
 refine i8.get O.Db O.Nm (by walk_at "l") ⟨pl,_,rfl,.inl<|aD.of<|b6 _ _ af U,?_⟩;rw[aM,b3,b4];refine⟨0,pcs.length,rfl,dU _,by lia,by decide,cW (by lia:pcs.length-0<=256)<|by decide,λml H9 mvs s9 ax bn d0=>?_⟩;have x9:=s9 _ _ x8;have b2:ml≠x:=Q4<|bR x8 ax;refine bZ x9 O.Db O.Nz GR λb1 c3 b8=>?_;walk_at "r";have Z:∀b o,b≠x->H8 b=some o->b1 b=some o:=λb o n e=>by rw[b8 b n];exact s9 _ _ e
 refine bL ?_;walk_at "r";intro wd aq;obtain⟨H11,ch,c1,d2⟩:=aT aq<|.dT [];rw[ch];clear ch;have ce:=c1 _ _ c3;have ap:wd≠x:=Q4<|bR c3 aq;refine bZ ce O.Db O.Nf Jk λac db bt=>?_;walk_at "r";have ae:∀b o,b≠x->b1 b=some o->ac b=some o:=λb o n e=>by rw[bt b n];exact c1 _ _ e
 have c7:bG ac x Cm<|fP c.a pl tk ml wd:=(bG.of db<|cW yZ<|by decide).congr λf=>by simp only[lS,lkc]
 have am:b1 ml=some (.lst mvs):=by rw[b8 ml b2];exact bn
 have br:dY ac mvs<|Po.mts 0 pcs.length:=d0.keep λt z h=>by
  have n:t≠x:=λe=>by rw[e,x9] at h;cases h
  exact ae _ _ n<|by rw[b8 t n];exact h
 have up:∀b o,b≠x->H5 b=some o->ac b=some o:=λb o n e=>ae _ _ n<|Z _ _ n<|b6 _ _ n e;have c6:∀b o,b≠x->H b=some o->ac b=some o:=λb o n e=>up _ _ n<|bg _ _ n<|s4 _ _<|s3 _ _<|au _ _ n e;have J:PB bb Cm ac x c.a pl tk ml wd pls pcs:=⟨c7,up _ _ af U,by lia,λi l ys h1 h2=>up _ _ (ab l<|gO h1)<|ai i l ys h1 h2⟩
 have c9:gC bb Ce (aN.mk K Cd Cc Ca Cb Cf Cg) ac c pr:=st.apart (S:=[x]) (λb o n h=>c6 b o (λz=>n<|by rw[z];exact bH) h) (λb hb=>by rw[bY.mp hb];exact .inr<|.inl ⟨_,_,_,hx⟩) λb hb=>by rw[bY.mp hb];exact nx
 have fx:∀b,H2 b=none->H b=none:=λb h=>by
  cases e:H b with
  |none=>rfl
  |some o=>
   have n:b≠x:=λz=>by rw[z,x2] at h;cases h
   rw[au b o n e] at h;cases h
 have f5:∀b,b≠x->H5 b=none->H b=none:=λb n h=>fx b (s3.free<|s4.free<|by rw[<- k5 b n];exact h);have f8:∀b,b≠x->H8 b=none->H b=none:=λb n h=>f5 b n (s6.free<|s7.free<|by rw[<- k8 b n];exact h);have d4:∀b,b≠x->b1 b=none->H b=none:=λb n h=>f8 b n (s9.free<|by rw[<- b8 b n];exact h);have cw:=fx pl<|s3.free bd;have ca:=f5 tk ad<|s6.free ao;have cf:=f8 ml b2 ax;have cg:=d4 wd ap aq;have bj:∀l∈pls,H l=none:=λl h=>fx l<|b7 l h;have n5:∀b o,H5 b=some o->b≠tk:=λb o h=>bR (s6 _ _ h) ao;have n8:∀b o,H8 b=some o->b≠ml:=λb o h=>bR h ax;have ba:∀b o,b1 b=some o->b≠wd:=λb o h=>bR h aq;have aj:ac wd=some (.dT []):=by rw[bt wd ap];exact d2
 have bx:=ae _ _ ad<|Z _ _ ad as;have bz:=ae _ _ b2 am;have cj:pl≠wd:=ba _ _<|Z _ _ af<|b6 _ _ af U;have dh:tk≠wd:=ba _ _<|Z _ _ ad as;have d7:ml≠wd:=ba _ _ am;have b5:∀l∈pls,l≠wd/\l≠tk:=λl h=>by
  obtain⟨j,hj,e⟩:=List.getElem_of_mem h;have e1:pls[j]?=some l:=by rw[bV hj,e]
  have h5:=ai j l _ e1 (bV<|show j<pcs.length by lia);exact⟨ba _ _<|Z _ _ (ab l h)<|b6 _ _ (ab l h) h5,n5 _ _ h5⟩
 have bv:tk≠pl:=Q4<|n5 _ _ U;have bu:tk≠ml:=n8 tk _ as;clear k2 k5 k8 b8 bt x2 x4 x5 x7 x8 x9 c3 ce i5 i8 au bg b6 Z ae s3 s4 s6 s7 s9 c1 d0 h4 h7 d2 U ai as bn am bm b7 fx f5 f8 d4 n5 n8 ba d3 up;refine c7.get O.Db O.Nm (by walk_at "l") ⟨pl,_,rfl,.inl<|aD.of J.VD,?_⟩;rw[aM,J.len]
 let WT:LI:=λi σ X=>L2.X2 λv3 kvs=>σ=[some<|.ref x,some<|.ref c.a,some<|.ref hl,v3]/\DT X wd (w8 pcs i) i kvs/\∀b o,b≠wd->ac b=some o->X b=some o
 refine tT (by lia)<|tK WT ⟨_,[],rfl,⟨aj,(λkv h=>by cases h),aL _,(λa c v h=>by unfold w8 at h;rw[Z8<|by lia] at h;cases h)⟩,λb o _ h=>h⟩ ?_ ?_
 .rintro i σ X hi ⟨v3,kvs,rfl,dq,kX⟩;have cz:i<pcs.length:=by lia
  obtain⟨zs,ay⟩:∃zs,pcs[i]?=some zs:=⟨_,bV cz⟩
  have az:PB bb Cm X x c.a pl tk ml wd pls pcs:=⟨AD (S:=[wd]) (λb o n h=>kX b o (λz=>n<|by rw[z];exact bH) h) (λz=>ap (bY.mp z).symm) J.hp,kX _ _ cj J.VD,J.len,λj l ys h1 h2=>kX _ _ (b5 l<|gO h1).1<|J.pc j l ys h1 h2⟩
  walk_at "r";rw[Rl];refine az.hp.U9 (by walk_at "l") ⟨x,c.a,pl,tk,ml,wd,pls,pcs,i,0,zs,rfl,az,ay,λu X2 c0 fv=>?_⟩;refine(az.mono c0).hp.get O.Db O.Nf (by walk_at "l") ?_;walk_at "r";refine⟨bX<|by decide,λk1 df=>?_⟩;obtain⟨X3,e3,bw,de⟩:=aT df<|.tup [.int (i:Int),.int ((i+1:Nat):Int)];rw[show(i:Int)+1=((i+1:Nat):Int) by lia,e3];clear e3;have c4:=(dq.mono c0).mono bw;refine⟨wd,_,rfl,uK.t (k:=kQ i<|i+1) c4.hd de<|oZ (by have:=c4.len;lia),?_⟩;have ef:front zs 0 i=mY pcs (Q5 pcs.length 0) i:=(zS ay<|by rw[Te,Z9 cz]).symm;have d5:=c4.put (a:=i) (c:=i+1) (k:=1) (by lia) (by lia) (fv.keep λ_ _ z=>bw _ _ z)<|.inl rfl;rw[ef,B4] at d5;exact⟨_,_,rfl,d5,λb o n h=>by rw[bF n];exact bw _ _<|c0 _ _<|kX b o n h⟩
 rintro σ X ⟨v3,kvs,rfl,bp,kX⟩;rw[Int.toNat_natCast] at bp;walk_at "r";refine bL ?_;walk_at "r";have iX:bG X x Cm<|fP c.a pl tk ml wd:=AD (S:=[wd]) (λb o n h=>kX b o (λz=>n<|by rw[z];exact bH) h) (λz=>ap (bY.mp z).symm) c7;have dk:=st.off cg;have co:gC bb Ce (aN.mk K Cd Cc Ca Cb Cf Cg) X c pr:=c9.apart (S:=[wd]) (λb o n h=>kX b o (λz=>n<|by rw[z];exact bH) h) (λb hb=>by rw[bY.mp hb];exact .inr<|.inr<|.inl ⟨_,aj⟩) λb hb=>by rw[bY.mp hb];exact dk
 have bh:=kX _ _ d7 bz;have bo:dY X mvs<|Po.mts 0 pcs.length:=br.keep λt z h=>kX _ _ (λe=>by rw[e,aj] at h;cases h) h;refine iX.U9 (by walk_at "l")<|iX.get O.Db O.Nz (by walk_at "l")<|iX.get O.Db O.Nf (by walk_at "l") ?_;have sM:=Ad.SA<|st.off cf;refine⟨c,pr,x,pl,tk,ml,wd,ml,wd,mvs,Po.mts 0 pcs.length,w8 pcs pcs.length,pcs.length,1,kvs,_,rfl,co,iX,Ad.SA nx,sM,bh,bo,by rw[Po.gB];lia,λm hm=>?_,bp,by lia,.inl rfl,hk,w.Wd<|Mb _ _<|Fi pcs pcs.length<|aL _,λpr' z=>cq pr' z.2,λd cu w1 kvs' pr2 av aa ah cy dt=>?_⟩
 .have:=Po.jO (a:=m.1) (m:=m.2.1) (c:=m.2.2) _ _ hm;lia
 obtain⟨c5,c2⟩:=dt;obtain⟨c8,c5⟩:=c5 w1 rfl;have cd:=AD av (Ad.SA nx) iX;refine cd.set O.Db O.Nf (λag dg di=>?_) ⟨_,by walk_at "l"⟩;have cm:d≠x:=λz=>by
  obtain⟨_,_,e1,_⟩:=iX.ex;rw[z,e1] at aa;cases aa
 have bf:∀b o,b≠x->cu b=some o->ag b=some o:=λb o n h=>by rw[di b n];exact h
 have az:PB bb Cm X x c.a pl tk ml wd pls pcs:=⟨iX,kX _ _ cj J.VD,J.len,λj l ys h1 h2=>kX _ _ (b5 l<|gO h1).1<|J.pc j l ys h1 h2⟩
 have bc:=az.fr av (Ad.SA nx) (Ad.SA<|st.off cw) λl h=>Ad.SA<|st.off<|bj l h;obtain⟨du,dw,cx,_⟩:=cd.ex;have tX:∀b o,cu b=some o->(∀C d f,o≠.ins C d f)->ag b=some o:=λb o h n=>bf b o (λz=>by
  rw[z,cx] at h;exact n _ _ _ (QR h).symm) h
 have dj:bG ag x Cm<|fP c.a pl tk ml d:=dg.congr λf=>by
  simp only[lS,lkc];by_cases z:f=QQ "went_on"
  .rw [Z9 z,Z9 z]
  .rw [Z8 z,Z8 z,Z8 z]
 have dd:pcs.length+1*(Po.mts 0 pcs.length).length=2*pcs.length-1:=by rw[Po.gB];lia
 rw[dd] at ah;have d6:DT ag d w1 (2*pcs.length-1) kvs':=⟨bf d _ cm ah.hd,ah.sm,ah.len,λa c v h=>let ⟨u,h1,h2⟩:=ah.val a c v h;⟨u,h1,h2.keep λt z y=>tX _ _ y λ_ _ _ z=>by cases z⟩⟩
 have cb:PB bb Cm ag x c.a pl tk ml d pls pcs:=⟨dj,tX _ _ bc.VD (λ_ _ _ z=>by cases z),bc.len,λj l ys h1 h2=>tX _ _ (bc.pc j l ys h1 h2) λ_ _ _ z=>by cases z⟩
 have ci:dY ag mvs<|Po.mts 0 pcs.length:=(bo.keep λt z h=>co.tup av h).keep λt z h=>tX _ _ h (λ_ _ _ z=>by cases z);have cp:gC bb Ce (aN.mk K Cd Cc Ca Cb Cf Cg) ag c pr2:=cy.apart (S:=[x]) (λb o n h=>bf b o (λz=>n<|by rw[z];exact bH) h) (λb hb=>by rw[bY.mp hb];exact .inr<|.inl ⟨_,_,_,cx⟩) λb hb=>by rw[bY.mp hb];exact nx
 have gd:H d=none:=by
  cases e:H d with
  |none=>rfl
  |some o=>
   have h1:=c6 d o cm e;by_cases z:d=wd
   .rw [z,bp.hd] at aa;cases aa
   .rw [kX d o z h1] at aa;cases aa
 refine q pl tk ml d pls w1 ag kvs' pr2 (λb o n1 n2 h=>?_) ⟨cb,tX _ _ (av _ _ (Ad.SA<|st.off ca)<|kX _ _ dh bx) (λ_ _ _ z=>by cases z),⟨mvs,tX _ _ (av _ _ sM bh) (λ_ _ _ z=>by cases z),ci⟩,d6,by rw[EA],⟨bv,bu,λl h=>(b5 l h).2⟩⟩ c5 (λj hj=>c8 _ _<|by unfold w8;rw[Z9 ⟨rfl,hj⟩];rfl) ⟨cw,ca,cf,gd,bj⟩ cp c2;have n3:b≠wd:=λz=>by rw[z,cg] at h;cases h
 exact bf b o n1<|av _ _ n2<|kX b o n3<|c6 b o n1 h
theorem Od(F:aK K "take" "Pour.take" Mm f fd)(T:Bt K mg Ce Ci Cj Ck Ch Cd Cc Ca Cb Cf Cg)(TX:Dr K Cm)
  (aw:Mt P w K mg base aC Cm "top" 1 ["self"]<|nV bb Cm)
  (ac:Mt P w K mg base aC Cm "front_of" 1 ["self","piece","taken"]<|cN bb Cm)
  (ao:Mt P w K mg base aC Cm "held" 7 ["self","meetings","went_on"]<|ib Ce (aN.mk K Cd Cc Ca Cb Cf Cg) bb Cm)
 :aF P w K mg base aC 8 f fd ["self"]<|fI Ce (aN.mk K Cd Cc Ca Cb Cf Cg) bb Cm:=by
 refine F.ok dD (by (intro _ _ _ _ h;cases h;subst_vars;rfl)) λcb A outer s H vs Q E hr h=>?_
 have ce:=dD.nd;refine' bN 8 (aG ?_ ?_) λ_ dZ _=>bN 7 (aG ?_ dZ) λ_ dZ _=>bN 6 (aG (K0 (GO hr) ?_ ?_ ?_ rfl) dZ) λ_ dZ _=>bN 5 (aG (oY (i:=5) dD.nd rfl (by (first | exact Or.inl rfl | exact Or.inr rfl))<|qJ (mE) rfl T.WL PyProof.Rows.boot_dict ?_) dZ) λ_ dZ _=>bN 4 (aG (GW (i:=4) dD.nd rfl (Or.inl rfl) rfl (k:=1) (js:=[2]) (N':=["meeting","piece"]) (by rfl) ?_ (λ_ _ _ _=>qI (i:=0) (show(["meeting","piece"]:List Q3).Nodup by decide+kernel) rfl<|by (first | exact Or.inl rfl | exact Or.inr rfl)) (λ_ _ _ _=>(Gk<|PW.pt<|GV (tM Hx (oW (tG K) (pv 0) xH λ_ _=>rfl) (pv 1)<|mG _)<|Iv<|tM Ji (pv 1) (oW (tG K) (pv 0) xH λ_ _=>rfl)<|mG _)) λ_ _ _ _=>(pv 0)) dZ) λ_ dZ _=>bN 2 (aG ?_<|aG ?_ dZ) λ_ dZ _=>⟨_,(aG ?_<|aG ?_ dZ),?_⟩
 walk_at "d";obtain⟨c,pr,p,pl,tk,ml,wd,pls,pcs,ts,w0,kvs,rfl,st,O,px,dw,ap,hn,hk,ai⟩:=h;walk_at "r";have az:w0 0 pcs.length=some (if 0<pcs.length then((w0 0 pcs.length).getD none) else none)∨2*pcs.length-1=0/\(if 0<pcs.length then((w0 0 pcs.length).getD none) else none)=none:=by
  by_cases hz:0<pcs.length
  .rw [Z9 hz];left;have:(w0 0 pcs.length).isSome=true:=by
    by_cases z:pcs.length-0<2
    .have:=ap 0 hz;rw[show 0+1=pcs.length by lia] at this;exact this
    .exact dw.pr (0,Po.mid 0 pcs.length,pcs.length) (by rw[Po.cA z];exact gR _ bH)
   obtain⟨v,hv⟩:=Option.isSome_iff_exists.mp this;rw[hv];rfl
  .rw [Z8 hz];exact .inr ⟨by lia,rfl⟩
 refine O.pb.hp.U9 (by walk_at "l") ⟨p,c.a,pl,tk,ml,wd,pls,pcs,w0,_,kvs,_,rfl,O.pb,O.WN,az,λu H1 s1 fv=>?_⟩;walk_at "r";rcases ai with ⟨b1,q1⟩|⟨x,i,post,hz,bn,w,bz,q2⟩
 .have e0:(if 0<pcs.length then((w0 0 pcs.length).getD none) else none:Po.Fr)=none:=by
   rcases b1 with z|z
   .rw [Z8<|by lia]
   .rw [z];split<;>rfl
  rw[e0] at fv;cases(show u=V.VA from fv);rw[Z9 rfl];exact q1 H1 s1
 rw[Z9 hz,bn] at fv;obtain⟨t0,rfl,as⟩:=fv;dsimp only at as;rw[Z8 λz=>by cases z];have af:i<pcs.length:=dw.ix _ _ _ bn;obtain⟨zs,b6⟩:∃zs,pcs[i]?=some zs:=⟨_,bV af⟩
 obtain⟨t,ht⟩:∃t,ts[i]?=some t:=⟨_,bV<|show i<ts.length by rw[O.WG];exact af⟩
 have ag:qP ts i=ts.set i (t+1):=by
  unfold qP;rw[iR,ht];rfl
 rw[ag] at w q2;have c7:=st.mono s1;have bW:=O.mono s1;clear az;refine bL ?_;walk_at "r";refine cJ (aY.of as) (cK (by decide) rfl) ?_;walk_at "r";refine bW.pb.hp.get TX.Db TX.No (by walk_at "l")<|bM (aD.of bW.VQ) (Kp ht) ?_;walk_at "r";rw[show(t:Int)+1=((t+1:Nat):Int) by lia];refine bL ?_;walk_at "r";obtain⟨mvs,ay,am⟩:=bW.Yb;refine bW.pb.hp.get TX.Db TX.Nz (by walk_at "l") ?_;have b9:=am.len;rw[Po.gB] at b9
 let VE:CI:=λk ys σ H'=>∃v,σ=[v,some<|.int (i:Int)]/\aB H1 H'/\dY H' ys (((Po.mts 0 pcs.length).take k).filter<|tQ i)
 refine qC (aD.of ay) (by lia) VE ⟨_,rfl,.refl _,dY.nil⟩ (λk ys σ H' _ zz=>by obtain⟨_,_,e,hM⟩:=zz;exact⟨aD.of<|e _ _ ay,by rw[hM.len];exact cW (Gx _ _)<|by rw[kP];lia⟩) ?_ ?_
 .rintro k ys u σ H' hk hu ⟨v,rfl,sA,hM⟩;obtain⟨m,hm⟩:∃m,(Po.mts 0 pcs.length)[k]?=some m:=⟨_,bV<|by rw[Po.gB];lia⟩
  obtain⟨tm,be,c0⟩:=am.get k m hm;rw[hu] at be;cases be;have b0:=sA _ _ c0;have ag:(Po.mts 0 pcs.length).take (k+1)=(Po.mts 0 pcs.length).take k++[m]:=by rw[Sy,hm];rfl
  walk_at "r";refine cJ (aY.of b0) (cK (by decide) rfl) ?_;walk_at "r";by_cases h1:(m.1:Int)<=i
  .rw [Z9 h1];refine cJ (aY.of b0) (cK (by decide) rfl) ?_;walk_at "r";by_cases h2:(i:Int)<m.2.2
   .rw [Z9 h2];refine dI.of hk ⟨_,rfl,sA,?_⟩;rw[ag,AN,Sv<|by unfold tQ;rw[decide_eq_true<|by lia,decide_eq_true<|by lia];rfl];exact hM.app<|dY.one b0
   .rw [Z8 h2];refine dI.of hk ⟨_,rfl,sA,?_⟩;rw[ag,AN,RS<|by unfold tQ;rw[decide_eq_false (show ¬ i<m.2.2 by lia),UM];decide,List.filter_nil,kH];exact hM
  .rw [Z8 h1];refine dI.of hk ⟨_,rfl,sA,?_⟩;rw[ag,AN,RS<|by unfold tQ;rw[decide_eq_false (show ¬ m.1<=i by lia),UL];decide,List.filter_nil,kH];exact hM
 rintro ys σ H2 ⟨v,rfl,s2,ba⟩ wy av;rw[am.len,pE<|aL _] at ba;obtain⟨H3,e3,s3,h3⟩:=aT av<|.lst ys;rw[e3];clear e3;have S3:=s1.trans<|s2.trans s3;have wR:=O.mono S3;refine bL ?_;walk_at "r";refine wR.pb.hp.get TX.Db TX.Nf (by walk_at "l") ⟨wd,kvs,rfl,wR.WN.hd,wR.WN.sm,λd2 bj=>?_⟩;obtain⟨H4,e4,s4,h4⟩:=aT bj<|.dT kvs;rw[e4];clear e4;have S4:=S3.trans s4;have aj:=O.mono S4;have bp:DT H4 d2 w0 (2*pcs.length-1) kvs:=⟨h4,aj.WN.sm,aj.WN.len,aj.WN.val⟩
 refine bL ?_;walk_at "r";refine aj.pb.hp.U9 (by walk_at "l") ⟨p,c.a,pl,tk,ml,wd,pls,pcs,i,t+1,zs,rfl,aj.pb,b6,λu H5 s5 fv=>?_⟩;walk_at "r";rw[show(i:Int)+1=((i+1:Nat):Int) by lia];refine⟨bX<|by decide,λk1 bg=>?_⟩;obtain⟨H6,e6,s6,h6⟩:=aT bg<|.tup [.int (i:Int),.int ((i+1:Nat):Int)];rw[e6];clear e6;have Z:=(bp.mono s5).mono s6;have hB:2*pcs.length-1<=400:=by lia
 refine⟨d2,_,rfl,uK.t (k:=kQ i<|i+1) Z.hd h6<|oZ (by have:=Z.len;lia),?_⟩;have ah:=Z.put (a:=i) (c:=i+1) (k:=0) (by lia) (by lia) (fv.keep λ_ _ z=>s6 _ _ z)<|.inr<|ap i af;rw[TB] at ah;have S6:=S4.trans<|s5.trans s6;have bd:H d2=none:=S3.free bj;have k7:∀b o,b≠d2->H6 b=some o->upd H6 d2 (.dT<|putK kvs (kQ i<|i+1) u) b=some o:=λb o n h=>by rw[bF n];exact h
 have S7:aB H<|upd H6 d2<|.dT<|putK kvs (kQ i<|i+1) u:=λb o h=>k7 b o (bR h bd)<|S6 _ _ h;have ab:=(s4.trans<|s5.trans s6) _ _ h3;have ax:=k7 wy _ (λz=>by rw[z,Z.hd] at ab;cases ab) ab;have bo:=ba.keep λb z h=>by
  have U:=(s3.trans<|s4.trans<|s5.trans s6) _ _ h;exact k7 b _ (λz=>by rw[z,Z.hd] at U;cases U) U
 have c5:front zs (t+1) i=mY pcs (ts.set i<|t+1) i:=(zS b6<|by rw[List.getElem?_set,Z9 rfl,Z9<|by rw[O.WG];exact af]).symm;rw[c5] at ah;have b8:∀b z,H1 b=some (.tup z)->upd H6 d2 (.dT<|putK kvs (kQ i<|i+1) u) b=some (.tup z):=λb z h=>by
  have U:=(s2.trans<|s3.trans<|s4.trans<|s5.trans s6) _ _ h;exact k7 b _ (λz=>by rw[z,Z.hd] at U;cases U) U
 generalize upd H6 d2 (.dT<|putK kvs (kQ i<|i+1) u)=H7 at ah S7 ax bo b8⊢;generalize putK kvs (kQ i<|i+1) u=kv7 at ah;have bt:∀b z,H1 b=some (.tup z)->H7 b=some (.tup z):=λb z h=>b8 b z h;have b4:=st.mono S7;have J:=O.mono S7;have c8:=as;have bq:H wy=none:=(s1.trans s2).free av;clear k7 Z bp s6 S6 ab h6 bg;refine bL ?_;walk_at "r";have bu:∀a' c' x,Po.put w0 i (i+1) (mY pcs (ts.set i<|t+1) i) a' c'=some (some x)->x.2<pcs.length:=yY dw.ix λx hx=>by rw[(Ej hx).1];exact af
 refine J.pb.hp.U9 (by walk_at "l") ⟨c,pr,p,pl,tk,ml,wd,wy,d2,ys,_,_,2*pcs.length-1,0,kv7,_,rfl,b4,J.pb.hp,Ad.SA px.p,Ad.SA<|st.off bq,ax,bo,cW (Gx _ _)<|by rw[Po.gB];lia,λm hm=>?_,ah,by lia,.inr ⟨rfl,λm hm=>ID<|dw.pr m (AQ.mp hm).1⟩,hk,w.Wd<|Mb _ _ bu,λpr' z=>bz pr' z.2,λd8 H8 w1 kv8 pr2 f8 aq ae bv c3=>?_⟩
 .have:=Po.jO (a:=m.1) (m:=m.2.1) (c:=m.2.2) _ _ (AQ.mp hm).1;lia
 obtain⟨c4,b3⟩:=c3;obtain⟨au,b7⟩:=c4 w1 rfl;have bx:Dw pcs.length (Po.mts 0 pcs.length) w1:=⟨λm hm=>au _ _<|ID<|dw.pr m hm,b7.ix⟩
 have br:∀j,j<pcs.length->(w1 j<|j+1).isSome=true:=λj hj=>au _ _<|ID<|ap j hj;have i8:=AD f8 (Ad.SA px.p) J.pb.hp;refine i8.set TX.Db TX.Nf (λH9 i9 k9=>?_) ⟨_,by walk_at "l"⟩;have b2:bG H9 p Cm<|fP c.a pl tk ml d8:=i9.congr λf=>by
  simp only[lS,lkc];by_cases z:f=QQ "went_on"
  .rw [Z9 z,Z9 z]
  .rw [Z8 z,Z8 z,Z8 z]
 obtain⟨cd,c9,e8,_⟩:=i8.ex;have e9:∀b o,b≠p->H8 b=some o->H9 b=some o:=λb o n h=>by rw[k9 b n];exact h
 have tX:∀b o,H8 b=some o->(∀C d f,o≠.ins C d f)->H9 b=some o:=λb o h n=>e9 b o (λz=>by rw[z,e8] at h;exact n _ _ _ (QR h).symm) h;have ad:=tX _ _ (f8 _ _ (Ad.SA px.tk) J.VQ) (λ_ _ _ z=>by cases z);have c1:gC bb Ce (aN.mk K Cd Cc Ca Cb Cf Cg) H9 c pr2:=bv.apart (S:=[p]) (λb o n h=>e9 b o (λz=>n<|by rw[z];exact bH) h) (λb hb=>by rw[bY.mp hb];exact .inr<|.inl ⟨_,_,_,e8⟩) λb hb=>by rw[bY.mp hb];exact px.p
 have ca:d8≠p:=λz=>by
  obtain⟨_,_,e1,_⟩:=J.pb.hp.ex;rw[z,e1] at aq;cases aq
 have bf:d8≠tk:=λz=>by rw[z,J.VQ] at aq;cases aq
 refine bL ?_;walk_at "r";refine b2.get TX.Db TX.No (by walk_at "l") ?_;refine⟨tk,_,_,_,rfl,rfl,ad,Js (by lia)<|by rw[aM,O.WG];lia,?_⟩;rw[Int.toNat_natCast];have aa:∀b o,b≠tk->H9 b=some o->upd H9 tk (.lst<|(nL ts).set i<|.int ((t+1:Nat):Int)) b=some o:=λb o n h=>by rw[bF n];exact h
 have bi:upd H9 tk (.lst<|(nL ts).set i<|.int ((t+1:Nat):Int)) tk=some (.lst<|nL<|ts.set i<|t+1):=by
  rw[aS];unfold nL;rw[List.map_set]
 generalize upd H9 tk (.lst<|(nL ts).set i<|.int ((t+1:Nat):Int))=H10 at aa bi⊢;have c6:p≠tk:=λz=>by
  obtain⟨_,_,e1,_⟩:=b2.ex;rw[z,ad] at e1;cases e1
 have up:∀b o,b∉c.S->b≠tk->H7 b=some o->(∀C d f,o≠.ins C d f)->H10 b=some o:=λb o n1 n2 h n3=>aa b o n2<|tX _ _ (f8 _ _ n1 h) n3;have tS:∀b z,H7 b=some (.tup z)->H10 b=some (.tup z):=λb z h=>up b _ (Ad.SA<|b4.tupS h (λ_ z=>by cases z) λ_ _ _ z=>by cases z) (λy=>by rw[y,J.VQ] at h;cases h) h (λ_ _ _ z=>by cases z);have bw:=tS _ _<|bt t0 _ as;obtain⟨c2,bm,b5⟩:=J.Yb;rw[Du,TB] at ae;have bc:cZ bb Cm H10 p c.a pl tk ml d8 pls pcs (ts.set i<|t+1) w1 kv8:=⟨⟨AD (S:=[tk]) (λb o n h=>aa b o (λz=>n<|by rw[z];exact bH) h) (λz=>c6<|bY.mp z) b2,up _ _ (Ad.SA px.pl) (Q4 O.ne.1) J.pb.VD (λ_ _ _ z=>by cases z),O.pb.len,λj l ys h1 h2=>up _ _ (Ad.SA<|px.ls l<|gO h1) (O.ne.2.2 l<|gO h1) (J.pb.pc j l ys h1 h2) λ_ _ _ z=>by cases z⟩,bi,⟨c2,up _ _ (Ad.SA px.ml) (Q4 O.ne.2.1) bm (λ_ _ _ z=>by cases z),b5.keep tS⟩,⟨aa _ _ bf (tX _ _ ae.hd λ_ _ _ z=>by cases z),ae.sm,ae.len,λb c v h=>let ⟨u,h1,h2⟩:=ae.val b c v h;⟨u,h1,h2.keep λt z y=>aa _ _ (λe=>by rw[e,f8 _ _ (Ad.SA px.tk) J.VQ] at y;cases y)<|tX _ _ y λ_ _ _ z=>by cases z⟩⟩,by rw[Ez];exact O.WG,O.ne⟩
 have bh:gC bb Ce (aN.mk K Cd Cc Ca Cb Cf Cg) H10 c pr2:=c1.apart (S:=[tk]) (λb o n h=>aa b o (λz=>n<|by rw[z];exact bH) h) (λb hb=>by rw[bY.mp hb];exact .inl ⟨_,ad⟩) λb hb=>by rw[bY.mp hb];exact px.tk
 walk_at "r";refine cJ (aY.of bw) (cK (by decide) rfl) ?_;refine q2 d8 w1 H10 kv8 pr2 (λb o n h=>?_) bc bx br bh b3;have m:∀c',c'∈[p,tk,c.a,c.lg,c.tl]->b≠c':=λc' hc z=>n (by rw[z];exact hc);exact aa b o (m tk<|by simp)<|e9 b o (m p<|by simp)<|f8 b o (λz=>n<|bK _<|bK _ z)<|S7 _ _ h
theorem Pz(F:aK K "poured" "poured" Ls f fd)(T:Bt K mg Ce Ci Cj Ck Ch Cd Cc Ca Cb Cf Cg)
  (J:Mt P w K mg base aC Cj "take" 8 ["self"]<|fI Ce (aN.mk K Cd Cc Ca Cb Cf Cg) false Cj)
  (ad:Mt P w K mg base aC Cj "left" 1 ["self"]<|pL false Cj)
  (az:Kl P w K mg base aC "Pour" Cj 10 ["self","asker","pieces"]<|bQ Ce (aN.mk K Cd Cc Ca Cb Cf Cg) false Cj)
 :aF P w K mg base aC 12 f fd ["asker","pieces"]<|eY Ce<|aN.mk K Cd Cc Ca Cb Cf Cg:=by
 refine F.ok ON (by (intro _ _ _ _ h;cases h;subst_vars;rfl)) λbg A outer s H vs Q E hr h=>?_
 have bi:=ON.nd;refine' ⟨_,(aG ?_<|bP<|nK<|we (js:=[2]) (N:=["pour"]) rfl ?_ λ_ _ _ _=>(GU J hr.mn cG<|pv 1)),?_⟩;walk_at "d";obtain⟨c,pr,hl,hls,pcs,post,rfl,st,aq,hP,hn,ht,hk,w,af,q⟩:=h;walk_at "r";intro po dp ac b7 b3;have as:upd H dp (.own po) po=none:=by rw[bF<|Q4 b3];exact ac
 have U:aB H<|upd (upd H dp<|.own po) po<|.ins Cj dp []:=(aV b7 _).trans<|aV as _;have au:(upd (upd H dp<|.own po) po<|.ins Cj dp []) po=some (.ins Cj dp []):=aS;generalize upd (upd H dp<|.own po) po (.ins Cj dp [])=H16 at U au⊢;have ax:=st.off ac;replace w:=w.Wd<|rJ pcs;replace af:∀pr',¬ ((∀os,(none:Option<|List Nat)=some os->os.length=tot pcs)/\post none pr'):=λpr' z=>af pr' z.2;generalize XA:(λo pr'=>(∀os,o=some os->os.length=tot pcs)/\post o pr')=post2 at w;have aa:∀pr',¬ post2 none pr':=λpr' z=>by rw[<- XA] at z;exact af pr' z
 unfold Ee at w;refine⟨c,pr,po,dp,hl,hls,pcs,_,rfl,au,st.mono U,U _ _ aq,hP.len,λj l zs h1 h2=>U _ _<|hP.at' j l zs h1 h2,hn,ax,hk,w.bind,λpr' z=>aa pr' z,λpl tk ml wd pls w1 H17 kvs pr1 b4 pa dw b5 O ap ab=>⟨rfl,?_⟩⟩;have fr:∀b,H16 b=none->H b=none:=λb h=>U.free h;have px:PX c po pl tk ml pls:=⟨ax,st.off<|fr _ O.1,st.off<|fr _ O.2.1,st.off<|fr _ O.2.2.1,λl h=>st.off<|fr _<|O.2.2.2.2 l h⟩
 have b1:=fr _ O.2.1;have ba:Fr c.S H H17:=λb o n h=>b4 b o (bR h ac) n<|U _ _ h;have hsz:∀ys∈pcs,ys.length<=500:=λys hy=>cW (uY hy) ht;walk_at "r";have tz:∀t∈Q5 pcs.length 0,t<=500:=λt h=>by rw[(List.mem_replicate.mp h).2];decide
 refine pa.pb.hp.U9 (by walk_at "l") ⟨po,c.a,pl,tk,ml,wd,pls,pcs,_,rfl,pa.pb,pa.VQ,by lia,by rw[EA];lia,hsz,tz,λbh ai=>?_⟩;rw[show(Q5 pcs.length 0).sum=0 by simp,Int.natCast_zero,Int.sub_zero];have ab:Wp c.n c.an (oX pcs (pcs.map Rr).sum (Q5 pcs.length 0) w1 []) pr1 post2:=ab;have b0:(pcs.map Rr).sum<=500:=ht;obtain⟨m,hm⟩:∃m,(pcs.map Rr).sum=m:=⟨_,rfl⟩
 rw[hm] at ab b0⊢
 let VE:CI:=λk ys σ X=>L2.X7 λv wd w kvs ts acc pr'=>σ=[v,some<|.ref po]/\ys=nL acc/\acc.length=k/\k<=m/\aH Ce (aN.mk K Cd Cc Ca Cb Cf Cg) X c pr'/\cZ false Cj X po c.a pl tk ml wd pls pcs ts w kvs/\Dw pcs.length (Po.mts 0 pcs.length) w/\(∀j,j<pcs.length->(w j<|j+1).isSome=true)/\Fr [po,tk,c.a,c.lg,c.tl] H17 X/\Wp c.n c.an (oX pcs (m-k) ts w acc) pr' post2
 refine xI (by lia) VE ⟨_,wd,w1,kvs,_,[],pr1,rfl,rfl,rfl,dU _,ap.mono ai,pa.mono ai,dw,b5,ai.fr,ab⟩ (λk ys σ X zz=>by obtain⟨_,_,_,_,_,_,_,_,e,e2,_⟩:=zz;rw[e,aM,e2];exact aL _) ?_ ?_
 .rintro k ys σ X be ⟨v,ao,w2,ag,ts,acc,pr2,rfl,rfl,av,b8,ae,aj,ay,ah,fX,Z⟩;have bf:k<m:=by lia
  have hz:0<pcs.length:=by
   cases pcs with
   |nil=>simp at hm;lia
   |cons p ps=>simp
  rw[show m-k=(m-(k+1))+1 by lia,oX] at Z;walk_at "r";split at Z
  .rename_i cc hcc;obtain⟨x,i⟩:=cc;dsimp only at Z;refine aj.pb.hp.U9 (by walk_at "l") ⟨c,pr2,po,pl,tk,ml,ao,pls,pcs,ts,w2,ag,rfl,ae,aj,px,ay,ah,hn,hk,.inr ⟨x,i,_,hz,hcc,Z.bind,λpr' z=>aa pr' z,λwd' w' Y bc pr3 fY b2 b9 aw bd b6=>?_⟩⟩;refine dI.of (by lia) ⟨_,wd',w',bc,_,acc++[x],pr3,rfl,?_,by rw[aU,av];rfl,by lia,bd,b2,b9,aw,fX.trans fY,b6⟩;unfold nL;rw[cF];rfl
  .exact absurd Z (aa _)
 rintro ys σ X ⟨v,ao,w2,ag,ts,acc,pr2,rfl,rfl,av,b8,ae,aj,ay,ah,fX,Z⟩ l am;rw[Int.toNat_natCast,gN] at Z;have fH:Fr c.S H X:=λb o n h=>by
  refine fX b o (λz=>?_)<|ba b o n h;rcases cL.mp z with z|z
  .exact bR h ac z
  rcases cL.mp z with z|z
  .exact bR h b1 z
  .exact n z
 have Z:post2 (some acc) pr2:=Z;rw[<- XA] at Z;exact q l _ acc pr2 (fH.trans (aV am _).fr) (ae.free fH am) aS (ae.mono<|aV am _) (Z.1 acc rfl) Z.2
theorem QC(F:aK K "one_round" "one_round" Mq f fd)(T:Bt K mg Ce Ci Cj Ck Ch Cd Cc Ca Cb Cf Cg)
  (O:Fn P w K mg base aC "poured" 12 ["asker","pieces"]<|eY Ce<|aN.mk K Cd Cc Ca Cb Cf Cg)
 :aF P w K mg base aC 13 f fd ["asker","pieces","mouths"]<|eG Ce<|aN.mk K Cd Cc Ca Cb Cf Cg:=by
 refine F.ok Var (by (intro _ _ _ _ h;cases h;subst_vars;rfl)) λax A outer s H vs Q E hr h=>?_
 refine' ⟨_,(bP<|nK<|we (js:=[0,1,2]) (N:=["asker","pieces","mouths"]) rfl (oB rfl T.VL ?_) λ_ _ _ _=>(uG O hr.mn rfl cG<|dG (pv 1)<|JO (Lw K) (pv 2) (Ge<|pv 0)<|Ge<|dS AV (pv 0)<|pv 3)),?_⟩;walk_at "d";obtain⟨c,pr,hl,hls,pcs,d,post,rfl,st,ad,hP,ai,ac,hn,ht,hd,ap,hk,w,af,q⟩:=h;walk_at "r";refine⟨hl,_,rfl,.inl<|aD.of ad,?_⟩;rw[aM,hP.len];refine oN (i:=((0:Nat):Int)) (by lia) (vi hd) (bX (by have:=Ks (n:=pcs.length) hd;lia)) (λk ys σ X=>L2.X4 λv ls out pr'=>σ=[v,some<|.ref c.a,some<|.ref hl,some<|.int (d:Int)]/\ys=ls.map V.ref/\ls.length=k/\PL X ls out/\tot out+tot (pcs.drop<|k*d)=tot pcs/\aH Ce (aN.mk K Cd Cc Ca Cb Cf Cg) X c pr'/\Fr c.S H X/\(∀l∈ls,H l=none)/\Wp c.n c.an (uq d (cS pcs.length d-k) (pcs.drop<|k*d) out) pr' post) ⟨_,[],[],pr,rfl,rfl,rfl,.nil,by rw[Du];show 0+tot pcs=tot pcs;lia,st,.refl,(λl h=>by cases h),by rw[Du];exact w⟩ (λk ys σ X zz=>by obtain⟨_,ls,_,_,_,e,e2,_⟩:=zz;rw[e,aM,e2];exact aL _) ?_ ?_
 .rintro k ys σ X ao ⟨v,ls,out,pr1,rfl,rfl,ae,aa,ag,Z,fX,J,wX⟩;walk_at "r";have e0:((0:Nat):Int)+(k:Int)*(d:Int)=((k*d:Nat):Int):=by rw[Int.natCast_mul];lia
  rw[e0];refine C4 (aD.of<|fX _ _ (Ad.SA ai) ad) λs1 as=>?_;rw[Ai,<- Dv,<- Dx];obtain⟨X1,e1,U,h1⟩:=aT as<|.lst<|((hls.drop<|k*d).take d).map V.ref;rw[e1];clear e1;have av:PL X1 ((hls.drop<|k*d).take d)<|(pcs.drop<|k*d).take d:=((hP.Xx fX λb hb=>Ad.SA<|ac b hb).sl (k*d) d).mono U;have am:=EG (pcs.drop<|k*d) d;rw[TR] at am;rw[show cS pcs.length d-k=(cS pcs.length d-(k+1))+1 by lia,uq,TR] at wX;walk_at "r";refine⟨c,pr1,s1,_,_,_,rfl,Z.mono U,h1,av,by rw[kP,lC];lia,by lia,hk,wX.bind,λpr' z=>af pr' z,λl Y os pr2 fY ab au aw ay aq=>?_⟩;have ah:X l=none:=U.free ab;have aj:H l=none:=Z.free fX ah;refine dI.of ao ⟨_,ls++[l],out++[os],pr2,rfl,by rw[cF];rfl,by rw[aU,ae];rfl,?_,?_,aw,fX.trans<|U.fr.trans fY,λl' h=>?_,?_⟩
  .exact ((aa.mono U).Xx fY λb hb=>Ad.SA<|st.off<|J b hb).snoc au
  .rw [LH,Ds,show tot [os]=os.length by unfold tot;simp];lia
  .rcases fG.mp h with h|h
   .exact J l' h
   .rw [bY.mp h];exact aj
  .rw [Ds];exact aq
 rintro ys σ X ⟨v,ls,out,pr1,rfl,rfl,ae,aa,ag,Z,fX,J,wX⟩ l ab;have sN:=aV ab<|.lst<|ls.map V.ref;rw[gN] at wX;have e0:pcs.drop (cS pcs.length d*d)=[]:=RU<|Kr hd;rw[e0] at ag;have:tot ([]:List<|List Nat)=0:=rfl;exact q l _ ls out pr1 (fX.trans sN.fr) (Z.free fX ab) aS (aa.mono sN) J (Z.mono sN) (by rw[<- aa.len,ae]) (by lia) wX
theorem Qf(F:gD K "in_rounds" "in_rounds" Mp f fd dv)(T:Bt K mg Ce Ci Cj Ck Ch Cd Cc Ca Cb Cf Cg)
  (as:Fn P w K mg base aC "one_round" 13 ["asker","pieces","mouths"]<|eG Ce<|aN.mk K Cd Cc Ca Cb Cf Cg)
 :aF P w K mg base aC 14 f fd ["asker","pieces","mouths"]<|eJ Ce<|aN.mk K Cd Cc Ca Cb Cf Cg:=by
 refine F.ok Vh (by (intro _ _ _ _ h;cases h;subst_vars;rfl)) λbx A outer s H vs Q E hr h=>?_
 have c6:=Vh.nd;refine' bN 3 (bP<|nK<|D9<|dG (JN (Kt ?_) ?_ ?_) ?_) λ_ dZ _=>bN 2 (aG ?_ dZ) λ_ dZ _=>bN 1 (aG ?_ dZ) λ_ dZ _=>⟨_,(aG (Gn (i:=3) Vh.nd rfl (Or.inl rfl) (js:=[]) (N:=[]) rfl ?_ λ_ _ _ _=>(qJ (MH K) rfl T.VJ Ra<|bW<|pv 0)) dZ),?_⟩
 walk_at "d";obtain⟨c,pr,hl,hls,pcs,d,post,rfl,st,au,hP,hn,ht,bd,b5,hk,w,b9,q⟩:=h;walk_at "r";have c5:=hP.len
 let VE:CI:=λi ys σ H'=>L2.X2 λ(v:Option V) (ns:List QK)=>σ=[v]/\aB H H'/\ys=ns.map V.ref/\ns.length=i/\(∀(j:Nat) l zs,ns[j]?=some l->pcs[j]?=some zs->H' l=some (.lst<|nL zs))/\∀l∈ns,H l=none/\∃z,H' l=some (.lst z)
 refine qC (aD.of au) (by rw[aM];lia) VE ⟨_,[],rfl,.refl _,rfl,rfl,λj l zs h=>by simp at h,λl h=>by cases h⟩ (λi ys σ H' _ zz=>by obtain⟨_,ns,_,e,e2,e3,_⟩:=zz;exact⟨aD.of<|e _ _ au,by rw[e2,aM];lia⟩) ?_ ?_
 .rintro i ys u σ H' hi hu ⟨v,ns,rfl,sA,rfl,aq,ad,bo⟩;rw[aM] at hi;have bi:i<pcs.length:=by lia
  obtain⟨zs,b2⟩:∃zs,pcs[i]?=some zs:=⟨_,bV bi⟩
  rw[dB,bV hi] at hu;cases hu;have bv:=sA _ _<|hP.at' i _ zs (bV hi) b2;walk_at "r";refine⟨_,_,rfl,.inl<|aD.of bv,λl' aj=>?_⟩;refine dI.of (by rw[aM];exact hi) ⟨_,ns++[l'],rfl,sA.new aj,by rw[cF];rfl,by rw[aU,aq];rfl,λj l bj h1 h2=>?_,λl h=>?_⟩
  .by_cases z:j<ns.length
   .rw [iE z] at h1;exact aV aj _ _ _<|ad j l bj h1 h2
   .rw [gI<|by lia] at h1;cases hk:j-ns.length with
    |zero=>
     rw[hk] at h1;cases h1;rw[show j=i by lia,b2] at h2;cases h2;exact aS
    |succ m=>rw[hk] at h1;simp at h1
  .rcases fG.mp h with h|h
   .obtain ⟨a1,z,a2⟩:=bo l h;exact⟨a1,z,aV aj _ _ _ a2⟩
   .rw [bY.mp h];exact⟨sA.free aj,_,aS⟩
 rintro ys σ c0 ⟨v,ad,rfl,bg,rfl,aq,b0,b6⟩ bu Xw;rw[aM] at aq;obtain⟨bt,b1,b4,az⟩:=aT Xw<|.lst<|ad.map V.ref;rw[b1];clear b1;have bh:=bg.trans b4;have ah:PL bt ad pcs:=⟨by lia,λj l zs h1 h2=>b4 _ _<|b0 j l zs h1 h2⟩
 refine bL ?_;walk_at "r";refine⟨dU _,λnm aa=>?_⟩;obtain⟨c4,ba,ax,bq⟩:=aT aa<|.lst [];rw[ba];clear ba;have bc:=bh.trans ax;refine bL ?_;walk_at "r"
 let VS:LI:=λm σ X=>L2.X6 λcm ls O J f pr'=>m=O.length/\σ=[some<|.ref c.a,some<|.ref hl,some<|.int (d:Int),some<|.ref cm,some<|.ref nm]/\aH Ce (aN.mk K Cd Cc Ca Cb Cf Cg) X c pr'/\X cm=some (.lst<|ls.map V.ref)/\PL X ls O/\X nm=some (.lst<|nL J)/\H cm=none/\(∀b∈ls,H b=none/\b≠nm)/\cm≠nm/\J.length+O.length<=200/\O.length<=f+1/\tot O=tot pcs/\Fr c.S H X/\Wp c.n c.an (AG d f O J) pr' post
 refine Bc VS ⟨_,bu,ad,pcs,[],_,pr,rfl,rfl,st.mono bc,ax _ _ az,ah.mono ax,bq,bg.free Xw,λb hb=>⟨(b6 b hb).1,λz=>by obtain⟨y,hy⟩:=ah.ex hb;rw[z,aa] at hy;cases hy⟩,bR az aa,by simp;lia,nN _,rfl,bc.fr,w⟩ ?_;rintro m σ X ⟨cm,ls,O,J,f,pr1,rfl,rfl,U,ao,ag,ap,bm,b7,bz,aq,c7,ac,fX,wX⟩;have ae:H nm=none:=bh.free aa;walk_at "r";refine⟨cm,_,rfl,.inl<|aD.of ao,?_⟩;rw[aM,ag.len];by_cases VH:(O.length:Int)>1
 .rw [Z9 VH];refine Bb ?_;walk_at "r";obtain⟨f,rfl⟩:∃k,f=k+1:=⟨f-1,by lia⟩
  rw[AG,Z9<|by lia] at wX;have c3:=zN (l:=O.length) bd (by lia);refine⟨c,pr1,cm,ls,O,d,_,rfl,U,ao,ag,st.off bm,λl hl=>st.off (b7 l hl).1,by lia,by lia,by lia,b5,hk,wX.bind,λpr' z=>b9 pr' z,λl Y br out pr2 fY ay be b8 af bw c1 c2 bn=>?_⟩;have ai:=fY _ _ (Ad.SA<|st.off ae) ap;walk_at "r";refine⟨.inl ⟨rfl,_,aD.of ai⟩,l,_,rfl,.inl<|aD.of be,nm,_,_,rfl,rfl,ai,oZ<|by rw[aM];lia,?_⟩;rw[aM,b8.len];have fZ:Fr [nm] Y<|upd Y nm<|.lst<|nL J++[.int ((out.length:Nat):Int)]:=Fr.upd bH;have hZ:upd Y nm (.lst<|nL J++[.int ((out.length:Nat):Int)]) nm=some (.lst<|nL<|J++[out.length]):=by
   rw[aS];unfold nL;rw[cF];rfl
  generalize upd Y nm (.lst<|nL J++[.int ((out.length:Nat):Int)])=Z at fZ hZ⊢;have am:∀b,X b=none->b≠nm:=λb h=>Q4<|bR ap h;have aw:∀b,b≠nm->b∉[nm]:=λb n z=>n<|bY.mp z;refine⟨out.length,by lia,l,br,out,J++[out.length],f,pr2,rfl,rfl,?_,fZ _ _ (aw _<|am l ay) be,b8.Xx fZ λb hb=>aw _<|am b<|af b hb,hZ,U.free fX ay,λb hb=>⟨U.free fX<|af b hb,am b<|af b hb⟩,am l ay,by rw[aU,iK];lia,by lia,by lia,λb o n hb=>fZ _ _ (aw _<|bR hb ae)<|fY _ _ n<|fX b o n hb,bn⟩;exact bw.apart fZ (λb hb=>by rw[bY.mp hb];exact .inl ⟨_,ai⟩) λb hb=>by rw[bY.mp hb];exact st.off ae
 .rw [Z8 VH];have h1:O.length<=1:=by lia
  have wE:post (some (O.headD [],J)) pr1:=by
   cases f with
   |zero=>exact wX
   |succ f=>rw[AG,Z8<|by lia] at wX;exact wX
  refine bL ?_;walk_at "r";refine⟨cm,_,rfl,aD.of ao,?_⟩;cases ls with
  |nil=>
   have bf:O=[]:=Bk.mp (by have:=ag.len;rw[<- this];rfl);rw[Z8<|by simp];refine⟨dU _,λe0 b3=>⟨bX<|by decide,λtt ab=>?_⟩⟩;have s0:=aV b3<|.lst [];have S:=s0.trans<|aV ab<|.tup [.ref e0,.ref nm];refine q tt e0 nm _ _ pr1 (fX.trans S.fr) (U.free fX<|s0.free ab) (U.free fX b3) ae aS ?_ (S _ _ ap) (U.mono S) ?_ wE
   .rw [bf];exact aV ab _ _ _ aS
   .rw [bf] at ac⊢;exact ac
  |cons b r=>
   obtain⟨ys,av⟩:∃ys,O=[ys]:=by
    have bp:=ag.len;cases O with
    |nil=>simp at bp
    |cons y t=>
     cases t with
     |nil=>exact⟨y,rfl⟩
     |cons z t=>simp at h1
   rw[Z9<|by simp];refine bM (aD.of ao) (cK (v:=.ref b) (by decide) rfl) ⟨bX<|by decide,λtt ab=>?_⟩;have S:=aV ab<|.tup [.ref b,.ref nm];have hb:=ag.at' 0 b ys rfl (by rw[av];rfl);refine q tt b nm _ _ pr1 (fX.trans S.fr) (U.free fX ab) (b7 b bH).1 ae aS ?_ (S _ _ ap) (U.mono S) ?_ wE
   .rw [av];exact S _ _ hb
   .rw [av] at ac⊢;unfold tot at ac⊢;simpa using ac
theorem Qa(F:gD K "by_pieces" "by_pieces" Mo f fd dv)(T:Bt K mg Ce Ci Cj Ck Ch Cd Cc Ca Cb Cf Cg)
  (U:Fn P w K mg base aC "by_pile" 10 ["asker","least","part"]<|dF Ce<|aN.mk K Cd Cc Ca Cb Cf Cg)
  (ad:Fn P w K mg base aC "in_rounds" 14 ["asker","pieces","mouths"]<|eJ Ce<|aN.mk K Cd Cc Ca Cb Cf Cg)
  (ac:Mt P w K mg base aC Ce "many" 1 ["self"]<|eP Ce)
 :aF P w K mg base aC 15 f fd ["asker","wide","mouths","least"]<|eL Ce<|aN.mk K Cd Cc Ca Cb Cf Cg:=by
 refine F.ok Vj (by (intro _ _ _ _ h;cases h;subst_vars;rfl)) λb3 A outer s H vs Q E hr h=>?_
 have b9:=Vj.nd;refine' bN 2 (bP ?_) λ_ dZ _=>bN 1 (aG (Gn (i:=5) Vj.nd rfl (Or.inl rfl) (js:=[0,3,1,4]) (N:=["asker","least","wide","many"]) rfl (oB rfl T.VL ?_) λ_ _ _ _=>(uG U hr.mn rfl cG<|wR (pv 1) (pv 2)<|D9<|dG (pv 0)<|mH (oQ rfl) rfl T.Xc PyProof.Rows.boot_min<|dG (dS AV (pv 0)<|pv 3)<|pv 4)) dZ) λ_ dZ _=>⟨_,(aG ?_ dZ),?_⟩
 walk_at "d";obtain⟨c,pr,wd,d,ls,post,rfl,st,aa,aq,au,aj,hn,w,am,q⟩:=h;walk_at "r";refine st.ha.U9 (by walk_at "l") ⟨c.a,c.rl,c.ru,c.tl,.VA,_,c.xs,rfl,st.ha,st.VC,?_⟩;rw[st.len];walk_at "r";refine bL ?_;walk_at "r";have b5:c.n<=200:=hn;unfold Jq at w;have w:=w.bind;unfold Ay at w;refine oN (i:=((0:Nat):Int)) (by lia) (vi (n:=c.n) aa) (bX (by have:=Ks (n:=c.n) aa;lia)) (λk ys σ X=>L2.X4 λv O out pr'=>σ=[v,some<|.ref c.a,some<|.int (ls:Nat),some<|.int (wd:Nat),some<|.int (c.n:Nat)]/\ys=O.map V.ref/\O.length=k/\PL X O out/\tot out=min (k*wd) c.n/\aH Ce (aN.mk K Cd Cc Ca Cb Cf Cg) X c pr'/\Fr c.S H X/\(∀l∈O,H l=none)/\Wp c.n c.an (y9 grd ls wd c.n (cS c.n wd-k) (k*wd) out) pr' λpcs pr'=>Wp c.n c.an ((AG d pcs.length pcs []).bind λo=>match o with
  |none=>.ret none
  |some r=>.ret<|some r.1) pr' post) ⟨_,[],[],pr,rfl,rfl,rfl,.nil,by rw[Du,Nat.zero_min];rfl,st,.refl,(λl h=>by cases h),by rw[Du];exact w⟩ (λk ys σ X zz=>by obtain⟨_,ls,_,_,_,e,e2,_⟩:=zz;rw[e,aM,e2];exact aL _) ?_ ?_
 .rintro k ys σ X ai ⟨v,O,out,pr1,rfl,rfl,ao,ae,ap,ab,fX,Z,wX⟩;walk_at "r";have b0:=FC aa ai;have e0:((0:Nat):Int)+(k:Int)*(wd:Int)=((k*wd:Nat):Int):=by rw[Int.natCast_mul];lia
  rw[e0];generalize Yi:k*wd=s at wX b0 ap;refine⟨_,_,rfl,?_⟩;rw[FT,show min ((s:Int)+wd) (c.n:Nat)=((min (s+wd) c.n:Nat):Int) by lia];refine⟨bX<|by decide,λpt ax=>?_⟩;obtain⟨X1,e1,J,h1⟩:=aT ax<|.tup [.int (s:Int),.int ((min (s+wd) c.n:Nat):Int)];rw[e1];clear e1;rw[show cS c.n wd-k=(cS c.n wd-(k+1))+1 by lia,y9] at wX;refine⟨c,pr1,ls,s,min (s+wd) c.n,.ref pt,_,rfl,ab.mono J,.inl ⟨pt,rfl,h1⟩,by lia,by lia,by lia,wX.bind,λl Y os pr2 fY ag az ah b4 af=>?_⟩;have as:X l=none:=J.free ag;refine dI.of ai ⟨_,O++[l],out++[os],pr2,rfl,by rw[cF];rfl,by rw[aU,ao];rfl,((ae.mono J).Xx fY λb hb=>Ad.SA<|st.off<|Z b hb).snoc az,?_,ah,fX.trans<|J.fr.trans fY,λl' h=>?_,?_⟩
  .rw [LH,Ds,Yi,show tot [os]=os.length by unfold tot;simp];lia
  .rcases fG.mp h with h|h
   .exact Z l' h
   .rw [bY.mp h];exact ab.free fX as
  .rw [Ds,Yi];exact af
 rintro ys σ X ⟨v,O,out,pr1,rfl,rfl,ao,ae,ap,ab,fX,Z,wX⟩ pl av;rw[gN] at wX;have wX:Wp c.n c.an ((AG d out.length out []).bind _) pr1 post:=wX;obtain⟨X1,e1,J,h1⟩:=aT av<|.lst<|O.map V.ref;rw[e1];clear e1;have b7:=Ks (n:=c.n) aa;have b6:=ae.len;refine bL ?_;walk_at "r";refine⟨c,pr1,pl,O,out,d,_,rfl,ab.mono J,h1,ae.mono J,by lia,by lia,au,aj,by lia,wX.bind,λpr' z=>am pr' z,λt l nm Y r pr2 fY b8 ag b1 ay aw b2 ah VC af=>?_⟩;refine cJ (aY.of ay) (cK (by decide) rfl) ?_;exact q l Y r.1 pr2 (fX.trans<|J.fr.trans fY) (ab.free fX<|J.free ag) aw ah af
theorem O4(F:aK K "spot_from_behind" "spot_from_behind" NP f fd)(T:Bt K mg Ce Ci Cj Ck Ch Cd Cc Ca Cb Cf Cg)
  (z:Mt P w K mg base aC Ce "ahead" 4 ["self","p","q"]<|bU Ce<|aN.mk K Cd Cc Ca Cb Cf Cg)
 :aF P w K mg base aC 5 f fd ["asker","order","place"]<|pJ Ce<|aN.mk K Cd Cc Ca Cb Cf Cg:=by
 refine F.ok Vl (by (intro _ _ _ _ h;cases h;subst_vars;rfl)) λaa A outer s H vs Q E hr h=>?_
 have ab:=Vl.nd;refine' ⟨_,(aG ?_<|aG (JQ Q1 ?_<|bP<|y0 (i:=3) Vl.nd rfl (by (first | exact Or.inl rfl | exact Or.inr rfl)) ?_ Fw) ?_),?_⟩;walk_at "d";obtain⟨c,pr,os,pl,ol,post,rfl,st,O,U,hk,w,q⟩:=h;walk_at "r";refine⟨ol,_,rfl,.inl<|aD.of O,?_⟩;rw[aM]
 let VE:LI:=λm σ H'=>L2.X2 λ(s:Nat) (pr':List A3)=>m=s/\σ=[some<|.ref c.a,some<|.ref ol,some<|.int pl,some<|.int s]/\s<=os.length/\Fr c.S H H'/\aH Ce (aN.mk K Cd Cc Ca Cb Cf Cg) H' c pr'/\Wp c.n c.an (wx os pl s) pr' post
 refine Bc VE ⟨_,os.length,pr,rfl,rfl,aL _,.refl,st,w⟩ ?_;rintro m σ H' ⟨s,pr',rfl,rfl,hs,fr,J,w'⟩;walk_at "r";cases m with
 |zero=>
  rw[Z8<|by lia];walk_at "r";exact q 0 H' pr' fr J w'
 |succ s=>
  rw[Z9<|by lia];have ho:=(qD (os:=os) (i:=s)<|by lia).1;rw[wx] at w';generalize os.getD s 0=o at ho w';refine J.ha.U9 (by walk_at "l") ?_;rw[show((s+1:Nat):Int)-1=(s:Int) by lia];refine bM (aD.of<|fr _ _ U O) (wc ho) ?_;refine J.ahead hk w' λb H2 pr2 f2 s2 Z=>?_;refine cY ?_;cases b
  .rw [Z9<|by decide];refine Bb ?_;walk_at "r";exact⟨s,Bl _,s,pr2,rfl,by rw[show((s+1:Nat):Int)-1=(s:Int) by lia],by lia,fr.trans f2,s2,Z⟩
  .rw [Z8<|by decide];walk_at "r";exact q (s+1) H2 pr2 (fr.trans f2) s2 Z
theorem QG(F:aK K "by_putting" "by_putting" MB f fd)(T:Bt K mg Ce Ci Cj Ck Ch Cd Cc Ca Cb Cf Cg)
  (ab:Fn P w K mg base aC "spot_of" 5 ["asker","order","place"]<|iW Ce<|aN.mk K Cd Cc Ca Cb Cf Cg)
  (U:Mt P w K mg base aC Ce "many" 1 ["self"]<|eP Ce)
 :aF P w K mg base aC 6 f fd ["asker"]<|iM Az Ce<|aN.mk K Cd Cc Ca Cb Cf Cg:=by
 refine F.ok Vy (by (intro _ _ _ _ h;cases h;subst_vars;rfl)) λag A outer s H vs Q E hr h=>?_
 have aj:=Vy.nd;refine' ⟨_,(aG ?_ ?_),?_⟩;walk_at "d";obtain⟨c,pr,post,rfl,st,hk,w,q⟩:=h;walk_at "r";refine⟨dU _,λol J=>?_⟩;obtain⟨H2,e2,s2,ad⟩:=aT J<|.lst<|nL [];rw[show(HO.lst ([]:List V))=.lst (nL []) from rfl,e2];clear e2;have O:=st.mono s2;have ac:=st.off J;refine O.ha.U9 (by walk_at "l") ⟨c.a,c.rl,c.ru,c.tl,.VA,_,c.xs,rfl,O.ha,O.VC,?_⟩;rw[O.len];have ah:c.n<=200:=hk
 let VE:LI:=λi σ H'=>L2.X3 λ(v2:Option V) (os:List Nat) (pr':List A3)=>σ=[some<|.ref c.a,some<|.ref ol,v2]/\H' ol=some (.lst<|nL os)/\os.length=i/\Fr c.S H H'/\aH Ce (aN.mk K Cd Cc Ca Cb Cf Cg) H' c pr'/\Wp c.n c.an (jM Az (c.n-i) i os) pr' post
 refine tT (by lia)<|tK VE ⟨_,[],pr,rfl,ad,rfl,s2.fr,O,w⟩ ?_ ?_
 .rintro i σ H' hi ⟨v2,os,pr',rfl,z,ho,fr,aa,w'⟩;walk_at "r";rw[Rl];have ai:i<c.n:=by show i<c.n;lia
  rw[show c.n-i=(c.n-(i+1))+1 by lia,jM] at w';refine⟨.inl ⟨rfl,_,aD.of z⟩,c,pr',os,i,ol,_,rfl,aa,z,Ad.SA ac,by lia,(w'.bind).Wd<|Lx os i,λr H3 pr3 Wv ae hp=>?_⟩;obtain⟨af,w3⟩:=hp;have Z:=Wv _ _ (Ad.SA ac) z;refine⟨ol,_,_,_,rfl,rfl,Z,oZ<|by rw[aM];lia,by lia,?_⟩;rw[KQ af];refine⟨_,lY os r i,pr3,rfl,aS,?_,λb o n h=>?_,ae.upd Z ac,w3⟩
  .have:=dH (os:=os) (r:=r) (x:=i) |>.length_eq
   rw[this,aU,iK];lia
  .rw [bF<|bR h J];exact Wv _ _ n<|fr _ _ n h
 rintro σ H' ⟨v2,os,pr',rfl,z,ho,fr,aa,w'⟩;walk_at "r";rw[Int.toNat_natCast,gN] at w';exact q ol H' os pr' fr J z aa w'
theorem PY(F:aK K "by_walking" "by_walking" MC f fd)(T:Bt K mg Ce Ci Cj Ck Ch Cd Cc Ca Cb Cf Cg)
  (J:Fn P w K mg base aC "spot_from_behind" 5 ["asker","order","place"]<|pJ Ce<|aN.mk K Cd Cc Ca Cb Cf Cg)
  (Z:Mt P w K mg base aC Ce "many" 1 ["self"]<|eP Ce)
 :aF P w K mg base aC 6 f fd ["asker"]<|iM D5 Ce<|aN.mk K Cd Cc Ca Cb Cf Cg:=by
 refine F.ok Vt (by (intro _ _ _ _ h;cases h;subst_vars;rfl)) λag A outer s H vs Q E hr h=>?_
 have aj:=Vt.nd;refine' ⟨_,(aG ?_ ?_),?_⟩;walk_at "d";obtain⟨c,pr,post,rfl,st,hk,w,q⟩:=h;walk_at "r";refine⟨dU _,λol O=>?_⟩;obtain⟨H2,e2,s2,ad⟩:=aT O<|.lst<|nL [];rw[show(HO.lst ([]:List V))=.lst (nL []) from rfl,e2];clear e2;have U:=st.mono s2;have ac:=st.off O;refine U.ha.U9 (by walk_at "l") ⟨c.a,c.rl,c.ru,c.tl,.VA,_,c.xs,rfl,U.ha,U.VC,?_⟩;rw[U.len];have ah:c.n<=200:=hk
 let VE:LI:=λi σ H'=>L2.X3 λ(v2:Option V) (os:List Nat) (pr':List A3)=>σ=[some<|.ref c.a,some<|.ref ol,v2]/\H' ol=some (.lst<|nL os)/\os.length=i/\Fr c.S H H'/\aH Ce (aN.mk K Cd Cc Ca Cb Cf Cg) H' c pr'/\Wp c.n c.an (jM D5 (c.n-i) i os) pr' post
 refine tT (by lia)<|tK VE ⟨_,[],pr,rfl,ad,rfl,s2.fr,U,w⟩ ?_ ?_
 .rintro i σ H' hi ⟨v2,os,pr',rfl,z,ho,fr,ab,w'⟩;walk_at "r";rw[Rl];have ai:i<c.n:=by show i<c.n;lia
  rw[show c.n-i=(c.n-(i+1))+1 by lia,jM] at w';refine⟨.inl ⟨rfl,_,aD.of z⟩,c,pr',os,i,ol,_,rfl,ab,z,Ad.SA ac,by lia,(w'.bind).Wd<|yg os i,λr H3 pr3 Wv ae hp=>?_⟩;obtain⟨af,w3⟩:=hp;have aa:=Wv _ _ (Ad.SA ac) z;refine⟨ol,_,_,_,rfl,rfl,aa,oZ<|by rw[aM];lia,by lia,?_⟩;rw[KQ af];refine⟨_,lY os r i,pr3,rfl,aS,?_,λb o n h=>?_,ae.upd aa ac,w3⟩
  .have:=dH (os:=os) (r:=r) (x:=i) |>.length_eq
   rw[this,aU,iK];lia
  .rw [bF<|bR h O];exact Wv _ _ n<|fr _ _ n h
 rintro σ H' ⟨v2,os,pr',rfl,z,ho,fr,ab,w'⟩;walk_at "r";rw[Int.toNat_natCast,gN] at w';exact q ol H' os pr' fr O z ab w'
theorem Qm(F:aK K "cut_of_two" "cut_of_two" MD f fd)(T:Bt K mg Ce Ci Cj Ck Ch Cd Cc Ca Cb Cf Cg)
  (J:Mt P w K mg base aC Ce "ahead" 4 ["self","p","q"]<|bU Ce<|aN.mk K Cd Cc Ca Cb Cf Cg)
 :aF P w K mg base aC 5 f fd ["asker","left","right","many"]<|pO Ce<|aN.mk K Cd Cc Ca Cb Cf Cg:=by
 refine F.ok Vu (by (intro _ _ _ _ h;cases h;subst_vars;rfl)) λae A outer s H vs Q E hr h=>?_
 have af:=Vu.nd;refine' ⟨_,(aG ?_ ?_),?_⟩;walk_at "d";obtain⟨c,pr,al,ar,ls,rs,m,post,rfl,st,U,O,Z,ab,hk,hm,w,q⟩:=h;walk_at "r";refine⟨ar,_,rfl,.inl<|aD.of O,_,_,rfl,al,_,rfl,.inl<|aD.of U,_,_,rfl,?_⟩;rw[aM,aM,FT,show min (m:Int) ls.length=((min m ls.length:Nat):Int) by lia,zi,show max (0:Int) ((m:Int)-rs.length)=((m-rs.length:Nat):Int) by lia]
 let VE:LI:=λd σ H'=>L2.X5 λ(z high f:Nat) (v6:Option V) (pr':List A3)=>d=high-z/\σ=[some<|.ref c.a,some<|.ref al,some<|.ref ar,some<|.int m,some<|.int z,some<|.int high,v6]/\m-rs.length<=z/\high<=ls.length/\high<=m/\high-z<=f/\Fr c.S H H'/\aH Ce (aN.mk K Cd Cc Ca Cb Cf Cg) H' c pr'/\Wp c.n c.an (nF ls rs m f z high) pr' post
 refine Bc VE ⟨_,m-rs.length,min m ls.length,ls.length,_,pr,rfl,rfl,aL _,by lia,by lia,by lia,.refl,st,w⟩ ?_;rintro d σ H' ⟨z,high,f,v6,pr',rfl,rfl,h1,h2,h3,hf,fr,s,w⟩;walk_at "r";by_cases VH:z<high
 .rw [Z9<|by lia];refine Bb ?_;walk_at "r";obtain⟨f,rfl⟩:∃f',f=f'+1:=⟨f-1,by lia⟩
  rw[nF,Z9 VH] at w;have ac:z<=(z+high)/2:=by lia
  have ad:(z+high)/2<high:=by lia
  refine⟨⟨by decide,by decide⟩,?_⟩;rw[show((z:Int)+high)/2=((z+high)/2:Nat) by lia];generalize (z+high)/2=mi at w ac ad;have ho:=(qD (os:=ls) (i:=mi)<|by lia).1;have aa:=(qD (os:=rs) (i:=m-mi-1)<|by lia).1;generalize ls.getD mi 0=o at ho w;generalize rs.getD (m-mi-1) 0=o2 at aa w;refine s.ha.U9 (by walk_at "l") ?_;refine bM (aD.of<|fr _ _ Z U) (wc ho) ?_;rw[show(m:Int)-(mi:Nat)-1=((m-mi-1:Nat):Int) by lia];refine bM (aD.of<|fr _ _ ab O) (wc aa) ?_;refine s.ahead hk w λb H2 pr2 f2 s2 w2=>?_;refine cY ?_;cases b
  .rw [Z8<|by decide];exact⟨mi-z,by lia,z,mi,f,_,pr2,rfl,rfl,by lia,by lia,by lia,by lia,fr.trans f2,s2,w2⟩
  .rw [Z9 rfl];exact⟨high-(mi+1),by lia,mi+1,high,f,_,pr2,rfl,rfl,by lia,by lia,by lia,by lia,fr.trans f2,s2,w2⟩
 .rw [Z8<|by lia];walk_at "r";refine q z H' pr' fr s ?_;cases f with
  |zero=>exact w
  |succ f=>rw[nF,Z8 VH] at w;exact w
theorem Pu(F:aK K "joined_apart" "joined_apart" MT f fd)(T:Bt K mg Ce Ci Cj Ck Ch Cd Cc Ca Cb Cf Cg)
  (U:Fn P w K mg base aC "joined" 7 ["asker","left","right"]<|fB Ce<|aN.mk K Cd Cc Ca Cb Cf Cg)
  (J:Fn P w K mg base aC "cut_of_two" 5 ["asker","left","right","many"]<|pO Ce<|aN.mk K Cd Cc Ca Cb Cf Cg)
 :aF P w K mg base aC 8 f fd ["asker","left","right","parts"]<|jG Ce<|aN.mk K Cd Cc Ca Cb Cf Cg:=by
 refine F.ok Vd (by (intro _ _ _ _ h;cases h;subst_vars;rfl)) λcm A outer s H vs Q E hr h=>?_
 have co:=Vd.nd;refine' bN 4 (bP<|nK<|we (js:=[0,1,6,2,7]) (N:=["asker","left","cuts","right","others"]) rfl ?_ λ_ _ _ _=>(uG U hr.mn rfl cG<|wR (pv 1) (JO (Lw K) (pv 2) (Ge<|oW (tG K) (pv 3) (pv 0) λ_ _=>rfl)<|Ge<|oW (tG K) (pv 3) (dS AV (pv 0) xH) λ_ _=>rfl)<|JO (Lw K) (pv 4) (Ge<|oW (tG K) (pv 5) (pv 0) λ_ _=>rfl)<|Ge<|oW (tG K) (pv 5) (dS AV (pv 0) xH) λ_ _=>rfl)) λ_ dZ _=>bN 3 (aG (oY (i:=7) Vd.nd rfl (by (first | exact Or.inl rfl | exact Or.inr rfl))<|Ba rfl (k:=2) (js:=[]) (N':=["end","cut"]) (by rfl) (E5 rfl T.XI ?_) (λ_ _ _ _=>vv (n:=2) K rfl<|IC (qI (i:=0) (show(["end","cut"]:List Q3).Nodup by decide+kernel) rfl<|by (first | exact Or.inl rfl | exact Or.inr rfl))<|IC (qI (i:=1) (show(["end","cut"]:List Q3).Nodup by decide+kernel) rfl<|by (first | exact Or.inl rfl | exact Or.inr rfl)) KW) (λ_ _ _ _=>C5) λ_ _ _ _=>(dS Jz (pv 0)<|pv 1)) dZ) λ_ dZ _=>bN 2 (aG (oY (i:=6) Vd.nd rfl (by (first | exact Or.inl rfl | exact Or.inr rfl))<|dS D8 (dS D8 ?_<|we (js:=[0,1,2]) (N:=["asker","left","right"]) rfl ?_ λ_ _ _ _=>(uG J hr.mn rfl cG<|Gb (pv 1)<|wR (pv 2) (pv 3)<|pv 0)) ?_) dZ) λ_ dZ _=>bN 1 (aG (Gn (i:=5) Vd.nd rfl (Or.inl rfl) (js:=[4,3]) (N:=["both","parts"]) rfl ?_ λ_ _ _ _=>(dS Ec (dS Jy (pv 1)<|pv 0)<|pv 2)) dZ) λ_ dZ _=>⟨_,(aG ?_ dZ),?_⟩
 walk_at "d";obtain⟨c,pr,al,ar,ls,rs,P,post,rfl,st,ag,am,Z,ae,hk,cd,b1,c4,w,q⟩:=h;walk_at "r";refine⟨al,_,rfl,.inl<|aD.of ag,ar,_,rfl,.inl<|aD.of am,?_⟩;rw[kY,kY];refine bL ?_;walk_at "r"
 let VE:CI:=λi ys σ X=>∃v,σ=[v,some<|.int<|(ls.length:Int)+(rs.length:Int),some<|.int (P:Int)]/\aB H X/\ys=nL ((QL i).map<|bD ls rs P)
 refine xI (by lia) VE ⟨_,rfl,.refl _,rfl⟩ (λi ys σ X zz=>by obtain⟨_,_,_,e⟩:=zz;rw[e,kY,aM,cU];exact aL _) ?_ ?_
 .rintro i ys σ X hi ⟨v,rfl,sX,rfl⟩;walk_at "r";rw[Rl];refine⟨.inl ⟨by lia,by lia⟩,⟨by lia,by lia⟩,?_⟩;refine dI.of hi ⟨_,rfl,sX,?_⟩;rw[uL,cF,D7];show _++[V.int<|((ls.length:Int)+(rs.length:Int))*(i:Int)/(P:Int)]=_++[V.int ((bD ls rs P i:Nat):Int)];unfold bD;rw[Int.natCast_ediv,Int.natCast_mul,Int.natCast_add]
 rintro ys σ H1 ⟨v,rfl,s1,rfl⟩ el av;rw[show((P:Int)+1).toNat=P+1 by lia];obtain⟨H2,g2,s2,b5⟩:=aT av<|.lst<|nL<|(QL<|P+1).map<|bD ls rs P;rw[g2];clear g2;have S2:=s1.trans s2;have ca:=st.mono S2;refine bL ?_;walk_at "r";refine⟨by decide,λz0 bt=>?_⟩;obtain⟨H3,g3,s3,hz⟩:=aT bt<|.lst<|nL [0];rw[show upd H2 z0 (HO.lst [V.int 0])=H3 from g3];clear g3;refine C4 (aD.of<|s3 _ _ b5) λsl ay=>?_;rw[show gJ (nL<|(QL<|P+1).map<|bD ls rs P) (some 1) (some (P:Int))=nL (jV ((QL<|P+1).map<|bD ls rs P) 1 P) from Lg (i:=1) (by rw[aM,cU];lia)<|by rw[aM,cU];lia];have cg:jV ((QL<|P+1).map<|bD ls rs P) 1 P=(QL<|P-1).map λt=>bD ls rs P (t+1):=by
  refine S8 λk=>?_;unfold jV;by_cases hk:k<P-1
  .rw [Ta hk,List.getElem?_drop,IB<|by lia,IB hk,Nat.add_comm]
  .rw [wu<|by rw[kP];lia,wu<|by rw[aM,cU];lia]
 rw[cg];obtain⟨H4,g4,s4,aa⟩:=aT ay<|.lst<|nL<|(QL<|P-1).map λt=>bD ls rs P<|t+1;rw[g4];clear g4;have S4:=S2.trans<|s3.trans s4;have c6:=st.mono S4;have ce:=Ad.SA<|(st.mono<|S2.trans s3).off ay;have bd:c.n<=1000:=by lia
 unfold CU at w;replace w:=w.bind
 let VS:CI:=λi ys σ X=>L2.X3 λv acc pr'=>σ=[v,some<|.ref c.a,some<|.ref al,some<|.ref ar]/\Fr c.S H4 X/\aH Ce (aN.mk K Cd Cc Ca Cb Cf Cg) X c pr'/\ys=nL acc/\acc.length=i/\(∀j x,acc[j]?=some x->x<=ls.length/\x<=bD ls rs P (j+1)/\bD ls rs P (j+1)<=x+rs.length)/\Wp c.n c.an (HW ls rs P (P-1-i) (i+1) acc) pr' λc' pr'=>Wp c.n c.an (uo ls rs (0::(c'++[ls.length])) (lW ls rs (0::(c'++[ls.length])) P) P 0 []) pr' post
 refine qC (aD.of aa) (by rw[kY,aM,cU];lia) VS ⟨_,[],pr,rfl,.refl,c6,rfl,rfl,λj x e=>by simp at e,w⟩ (λi ys σ X _ zz=>by obtain⟨_,acc,_,_,e,_,e2,e3,_⟩:=zz;exact⟨aD.of<|e _ _ ce aa,by rw[e2,kY,e3];exact aL _⟩) ?_ ?_
 .rintro i ys x σ X hi hx ⟨v,acc,pr1,rfl,fX,sX,rfl,ab,O,wX⟩;rw[kY,aM,cU] at hi;obtain rfl:x=.int ((bD ls rs P (i+1):Nat):Int):=by
   unfold nL at hx;rw[dB,IB hi] at hx;exact(QR hx).symm
  have he:=vU (l:=ls) (r:=rs) (show i+1<=P by lia) b1;rw[show P-1-i=(P-1-(i+1))+1 by lia,HW] at wX;walk_at "r";refine⟨c,pr1,al,ar,ls,rs,bD ls rs P<|i+1,_,rfl,sX,fX _ _ (Ad.SA Z)<|S4 _ _ ag,fX _ _ (Ad.SA ae)<|S4 _ _ am,Ad.SA Z,Ad.SA ae,bd,he,(wX.bind).Wd<|Aj he,λr Y pr2 fY sY hp=>?_⟩;obtain⟨hr,wY⟩:=hp;refine dI.of (by rw[kY,aM,cU];exact hi) ⟨_,acc++[r],pr2,rfl,fX.trans fY,sY,by rw[D7];rfl,by rw[aU,ab];rfl,λj x e=>?_,wY⟩;by_cases z:j<acc.length
  .rw [iE z] at e;exact O j x e
  .rw [gI<|by lia] at e;cases y:j-acc.length with
   |zero=>
    rw[y] at e;cases e;rw[show j=i by lia];exact hr
   |succ y'=>rw[y] at e;simp at e
 rintro ys σ H5 ⟨v,acc,bp,rfl,f5,ch,rfl,ab,O,w5⟩ c1 bc;rw[kY,aM,cU] at ab w5;rw[gN] at w5;have w5:Wp c.n c.an (uo ls rs (0::(acc++[ls.length])) (lW ls rs (0::(acc++[ls.length])) P) P 0 []) bp post:=w5;obtain⟨H6,g6,s6,bh⟩:=aT bc<|.lst<|nL acc;rw[g6];clear g6;have c7:=Ad.SA<|ca.off bt;refine⟨z0,c1,_,_,rfl,rfl,s6 _ _<|f5 _ _ c7<|s4 _ _ hz,bh,by rw[kY,kY,US];show 1+_<=_;lia,λc2 bm=>?_⟩;obtain⟨H7,g7,s7,ba⟩:=aT bm<|.lst<|nL [0]++nL acc;rw[g7];clear g7;have F7:Fr c.S H H7:=(S4.fr.trans f5).trans (s6.trans s7).fr;have be:=ch.mono<|s6.trans s7;refine⟨al,_,rfl,.inl<|aD.of<|F7 _ _ (Ad.SA Z) ag,by decide,λe1 bo=>?_⟩;rw[kY];obtain⟨H8,g8,s8,bg⟩:=aT bo<|.lst<|nL [ls.length];rw[show upd H7 e1 (HO.lst [V.int (ls.length:Int)])=H8 from g8];clear g8;refine⟨c2,e1,_,_,rfl,rfl,s8 _ _ ba,bg,by rw[aU,kY,kY,kY,US];show 1+_+1<=_;lia,λcu aw=>?_⟩;obtain⟨cs,af⟩:∃cs,cs=0::(acc++[ls.length]):=⟨_,rfl⟩
 have br:(nL [0]++nL acc)++nL [ls.length]=nL cs:=by rw[<- D7,<- D7,af];rfl
 have aq:cs.length=P+1:=by rw[af,cP,aU,iK];lia
 rw[<- af] at w5;rw[br];clear br;have ai:∀j,j<=P->cs.getD j 0<=ls.length/\cs.getD j 0<=bD ls rs P j/\bD ls rs P j<=cs.getD j 0+rs.length:=λj hj=>by
  rw[af];by_cases z:j=0
  .subst z;have e0:bD ls rs P 0=0:=by unfold bD;rw[Ul,Nat.zero_div]
   rw[e0];exact⟨dU _,aL _,dU _⟩
  .obtain ⟨i,rfl⟩:∃i,j=i+1:=⟨j-1,by lia⟩
   rw[iR,List.getElem?_cons_succ];by_cases y:i<acc.length
   .rw [iE y,bV y];exact O i _<|bV y
   .have ei:i+1=P:=by lia
    rw[gI<|by lia,show i-acc.length=0 by lia,ei,show bD ls rs P P=ls.length+rs.length by unfold bD;exact Ug _ b1];exact⟨aL _,Ew _ _,aL _⟩
 clear af O;obtain⟨H9,g9,s9,b0⟩:=aT aw<|.lst<|nL cs;rw[g9];clear g9;have c9:=Ad.SA<|(st.mono s1).off av;have ci:=Ad.SA<|(be.mono s8).off aw;have F9:Fr c.S H H9:=F7.trans (s8.trans s9).fr;have bw:=be.mono<|s8.trans s9;have as:H9 el=some (.lst<|nL<|(QL<|P+1).map<|bD ls rs P):=s9 _ _<|s8 _ _<|s7 _ _<|s6 _ _<|f5 _ _ c9<|s4 _ _<|s3 _ _ b5;have b4:∀f:Nat->Nat,(nL<|(QL<|P+1).map f).length=P+1:=λf=>by rw[kY,aM,cU]
 clear ba bg bh hz aa b5;refine bL ?_;walk_at "r";refine Aq (aD.of as) (aD.of b0) (by rw[b4];lia) (λi ys σ X=>L2.X2 λv w=>σ=[v,w]/\aB H9 X/\ys=nL ((QL i).map λt=>bD ls rs P t-cs.getD t 0)) ⟨_,_,rfl,.refl _,rfl⟩ (λi ys σ X _ zz=>by obtain⟨_,_,_,e,e2⟩:=zz;exact⟨aD.of<|e _ _ as,aD.of<|e _ _ b0,by rw[e2,kY,aM,cU];exact aL _⟩) ?_ ?_
 .rintro i ys x y σ X p hi hx hy ⟨v,w,rfl,sX,rfl⟩ hp;have bq:i<P+1:=by rw[b4,kY,aq] at hi;lia
  obtain rfl:x=.int ((bD ls rs P i:Nat):Int):=by
   unfold nL at hx;rw[dB,IB bq] at hx;exact(QR hx).symm
  obtain rfl:y=.int ((cs.getD i 0:Nat):Int):=by
   unfold nL at hy;rw[dB,(qD (os:=cs) (i:=i)<|by lia).1] at hy;exact(QR hy).symm
  refine xZ (aY.of aS) rfl ?_;walk_at "r";have A:=ai i (by lia);refine dI.of hi ⟨_,_,rfl,sX.new hp,?_⟩;rw[uL,cF,D7];show _++[V.int<|((bD ls rs P i:Nat):Int)-((cs.getD i 0:Nat):Int)]=_++[V.int ((bD ls rs P i-cs.getD i 0:Nat):Int)];rw[show(((bD ls rs P i:Nat):Int)-((cs.getD i 0:Nat):Int))=((bD ls rs P i-cs.getD i 0:Nat):Int) by lia]
 rintro ys σ c8 ⟨v,w,rfl,s10,rfl⟩ ot ax;rw[b4,kY,aq,Nat.min_self];obtain⟨H11,bv,cf,bn⟩:=aT ax<|.lst<|nL<|lW ls rs cs P;rw[show upd c8 ot (HO.lst<|nL<|(QL<|P+1).map λt=>bD ls rs P t-cs.getD t 0)=H11 from bv];clear bv;have b7:∀j,j<=P->(lW ls rs cs P).getD j 0<=rs.length:=λj hj=>by
  have:=ai j hj;unfold lW;rw[iR,IB<|by lia];show bD ls rs P j-cs.getD j 0<=rs.length;lia
 have cb:(lW ls rs cs P).length=P+1:=by unfold lW;rw[aM,cU]
 generalize lW ls rs cs P=ot' at bn b7 cb w5;have b8:=s10.trans cf;have ah:Fr c.S H H11:=F9.trans b8.fr;have ac:=bw.mono b8;have bf:=Ad.SA<|(bw.mono s10).off ax;have b2:=b8 _ _ b0;have b6:=ah _ _ (Ad.SA Z) ag;have az:=ah _ _ (Ad.SA ae) am;refine bL ?_;walk_at "r"
 let WT:CI:=λi ys σ X=>L2.X4 λv fs out pr'=>σ=[v,some<|.ref c.a,some<|.ref al,some<|.ref cu,some<|.ref ar,some<|.ref ot]/\Fr c.S H11 X/\aH Ce (aN.mk K Cd Cc Ca Cb Cf Cg) X c pr'/\ys=fs.map V.ref/\fs.length=i/\PL X fs out/\(∀f∈fs,H11 f=none)/\Wp c.n c.an (uo ls rs cs ot' (P-i) i out) pr' post
 refine xI (by lia) WT ⟨_,[],[],bp,rfl,.refl,ac,rfl,rfl,.nil,λf h=>(by cases h),w5⟩ (λi ys σ X zz=>by obtain⟨_,fs,_,_,_,_,_,e,e2,_⟩:=zz;rw[e,aM];lia) ?_ ?_
 .rintro i ys σ X hi ⟨v,fs,out,pr1,rfl,fX,ad,rfl,bz,b3,aj,wX⟩;have bq:i<P:=by lia
  walk_at "r";rw[Rl,show(i:Int)+1=((i+1:Nat):Int) by lia];have ap:=fX _ _ ci b2;have au:=fX _ _ bf bn;have A:=ai i (by lia);have A':=ai (i+1) (by lia);have B:=b7 i (by lia);have B':=b7 (i+1) (by lia);rw[show P-i=(P-(i+1))+1 by lia,uo] at wX;refine bM (aD.of ap) (wc (qD (os:=cs) (i:=i)<|by lia).1)<|Jx ?_;refine bM (aD.of ap) (wc (qD (os:=cs) (i:=i+1)<|by lia).1)<|Jx ?_;refine C4 (aD.of<|fX _ _ (Ad.SA Z) b6) λl1 bi=>?_;rw[Lg A.1 A'.1];have z1:=JK (l:=ls) (a:=cs.getD i 0) (b:=cs.getD (i+1) 0);have z2:=JK (l:=rs) (a:=ot'.getD i 0) (b:=ot'.getD (i+1) 0);generalize jV ls (cs.getD i 0) (cs.getD (i+1) 0)=A1 at wX z1⊢;obtain⟨X1,k1,t1,bx⟩:=aT bi<|.lst<|nL A1;rw[k1];clear k1;refine bM (aD.of<|t1 _ _ au) (wc (qD (os:=ot') (i:=i)<|by lia).1)<|Jx ?_;refine bM (aD.of<|t1 _ _ au) (wc (qD (os:=ot') (i:=i+1)<|by lia).1)<|Jx ?_;refine C4 (aD.of<|t1 _ _<|fX _ _ (Ad.SA ae) az) λl2 bu=>?_;rw[Lg B B'];generalize jV rs (ot'.getD i 0) (ot'.getD (i+1) 0)=A2 at wX z2⊢;obtain⟨X2,k2,t2,bj⟩:=aT bu<|.lst<|nL A2;rw[k2];clear k2;have T2:=t1.trans t2;refine⟨c,pr1,l1,l2,A1,A2,_,rfl,ad.mono T2,t2 _ _ bx,bj,bd,by lia,wX.bind,λl Y os pr2 fY ao c3 cj c5=>?_⟩;have b9:Fr c.S X Y:=T2.fr.trans fY;have c0:X l=none:=T2.free ao;refine dI.of hi ⟨_,fs++[l],out++[os],pr2,rfl,fX.trans b9,cj,by rw[cF];rfl,by rw[aU,bz];rfl,(b3.Xx b9 λb hb=>Ad.SA<|ac.off<|aj b hb).snoc c3,λf hf=>?_,c5⟩;rcases fG.mp hf with h|h
  .exact aj f h
  .rw [bY.mp h];exact ad.free fX c0
 rintro ys σ X ⟨v,fs,out,pr1,rfl,fX,ad,rfl,bz,b3,aj,wX⟩ l ao;rw[Int.toNat_natCast,gN] at wX;have FX:Fr c.S H X:=ah.trans fX;have sN:=aV ao<|.lst<|fs.map V.ref;exact q l fs _ out pr1 (FX.trans sN.fr) (ad.free FX ao) aS (b3.mono sN) (λf hf=>ac.free ah<|aj f hf) (ad.mono sN) wX
theorem QE(F:aK K "so_manieth" "so_manieth" MF f fd)(T:Bt K mg Ce Ci Cj Ck Ch Cd Cc Ca Cb Cf Cg)
  (b9:Mt P w K mg base aC Ce "many" 1 ["self"]<|eP Ce)
  (ae:Mt P w K mg base aC Cj "first" 2 ["self"]<|ip false Cj)
  (O:Mt P w K mg base aC Ck "first" 2 ["self"]<|ip true Ck)
  (ag:Mt P w K mg base aC Cj "take" 8 ["self"]<|fI Ce (aN.mk K Cd Cc Ca Cb Cf Cg) false Cj)
  (U:Mt P w K mg base aC Ck "take" 8 ["self"]<|fI Ce (aN.mk K Cd Cc Ca Cb Cf Cg) true Ck)
  (bf:Kl P w K mg base aC "LastPour" Ck 10 ["self","asker","pieces"]<|bQ Ce (aN.mk K Cd Cc Ca Cb Cf Cg) true Ck)
  (ca:Kl P w K mg base aC "Pour" Cj 10 ["self","asker","pieces"]<|bQ Ce (aN.mk K Cd Cc Ca Cb Cf Cg) false Cj)
 :aF P w K mg base aC 12 f fd ["asker","many"]<|eV Ce<|aN.mk K Cd Cc Ca Cb Cf Cg:=by
 refine F.ok Va (by (intro _ _ _ _ h;cases h;subst_vars;rfl)) λcj A outer s H vs Q E hr h=>?_
 have cp:=Va.nd;refine' bN 8 (bP ?_) λ_ dZ _=>bN 7 (aG (GW (i:=8) Va.nd rfl (Or.inl rfl) rfl (k:=1) (js:=[7,6]) (N':=["other","place","taken"]) (by rfl) ?_ (λ_ _ _ _=>qI (i:=0) (show(["other","place","taken"]:List Q3).Nodup by decide+kernel) rfl<|by (first | exact Or.inl rfl | exact Or.inr rfl)) (λ_ _ _ _=>(Gk<|PW.pt<|GV (tM Ie (pv 0) (pv 1)<|mG _)<|Iv<|tM (mW K) (pv 0) (pv 2) rfl)) λ_ _ _ _=>(pv 0)) dZ) λ_ dZ _=>bN 6 (aG (oY (i:=7) Va.nd rfl (by (first | exact Or.inl rfl | exact Or.inr rfl))<|kO (GU ae hr.mn cG ?_)<|GU O hr.mn cG ?_) dZ) λ_ dZ _=>bN 5 (aG (oY (i:=6) Va.nd rfl (by (first | exact Or.inl rfl | exact Or.inr rfl))<|mH MK rfl T.VV R3<|bW<|we (js:=[5]) (N:=["pour"]) rfl ?_ λ_ _ _ _=>(kO (GU ag hr.mn cG<|pv 1)<|GU U hr.mn cG<|pv 1)) dZ) λ_ dZ _=>bN 4 (aG ?_ dZ) λ_ dZ _=>bN 2 (aG (Gn (i:=3) Va.nd rfl (Or.inl rfl) (js:=[]) (N:=[]) rfl ?_ λ_ _ _ _=>(Ik<|bW<|pv 0))<|aG ?_ dZ) λ_ dZ _=>⟨_,(aG ?_<|aG (kN ?_ (bP Gm) ?_) dZ),?_⟩
 walk_at "d";obtain⟨c,pr,m,bb,post,rfl,b5,st,hm,hk,w,aj,q⟩:=h;walk_at "r";refine st.ha.U9 (by walk_at "l") ⟨c.a,c.rl,c.ru,c.tl,_,_,c.xs,rfl,st.ha,st.VC,?_⟩;walk_at "r";rw[st.len];have ch:c.n<=63:=hk;have co:m<c.n:=hm;rw[Z8<|by lia];rw[Z8<|by lia];refine bL ?_;walk_at "r"
 let VE:CI:=λi ys σ X=>L2.X2 λ(v:Option V) (ls:List QK)=>σ=[v]/\aB H X/\ys=ls.map V.ref/\ls.length=i/\(∀(j:Nat) l,ls[j]?=some l->X l=some (.lst<|nL [j]))
 refine xI (by lia) VE ⟨_,[],rfl,.refl _,rfl,rfl,λj l h=>by simp at h⟩ (λi ys σ X zz=>by obtain⟨_,ls,_,_,e,e2,_⟩:=zz;rw[e,aM,e2];exact aL _) ?_ ?_
 .rintro i ys σ X hi ⟨v,ls,rfl,sX,rfl,c8,hls⟩;walk_at "r";rw[Rl];refine⟨bX<|by decide,λl hl=>?_⟩;refine dI.of hi ⟨_,ls++[l],rfl,sX.new hl,by rw[cF];rfl,by rw[aU,c8];rfl,λj l' h=>?_⟩;by_cases z:j<ls.length
  .rw [iE z] at h;exact aV hl _ _ _<|hls j l' h
  .have h1:=(cV.mp h).1;rw[aU,iK] at h1;have:j=i:=by lia
   subst this;rw[gI<|by lia,c8,gN] at h;cases h;exact aS
 rintro ys σ X ⟨v,ls,rfl,sX,rfl,au,as⟩ sl c7;rw[Int.toNat_natCast] at au;obtain⟨af,c0,ba,bg⟩:=aT c7<|.lst<|ls.map V.ref;rw[c0];clear c0;have ah:=sX.trans ba;walk_at "r";refine bL ?_;walk_at "r";apply Jh (α:=QK×Hp) (λx=>[some<|.ref c.a,some<|.int (m:Int),some<|.int (c.n:Int),some<|.ref sl,some<|.bl<|decide<|(c.n:Int)-1-m<m,some<|.ref x.1,none,none,none]) (λx=>x.2) λx=>L2.X9 λpl tk ml wd pls kvs ts w pr=>C7 Ce (aN.mk K Cd Cc Ca Cb Cf Cg) (cond bb Ck Cj) bb H x.2 c (min m<|c.n-1-m) post x.1 pl tk ml wd pls [] kvs ts w pr
 .intro ab;by_cases XC:(c.n:Int)-1-m<m
  .rw [Z9 XC];obtain rfl:bb=true:=b5.trans (decide_eq_true<|by show c.n-1-m<m;lia);intro po dp aq bt bi;have b1:upd af dp (.own po) po=none:=by rw[bF<|Q4 bi];exact aq
   have aa:aB af<|upd (upd af dp<|.own po) po<|.ins Ck dp []:=(aV bt _).trans<|aV b1 _;have b2:(upd (upd af dp<|.own po) po<|.ins Ck dp []) po=some (.ins Ck dp []):=aS;generalize upd (upd af dp<|.own po) po (.ins Ck dp [])=H16 at aa b2⊢;have ai:=st.mono ah;have b7:=ai.off aq;have W:=w;unfold Eh at W;refine⟨c,pr,po,dp,sl,ls,sg c.n,_,rfl,b2,ai.mono aa,aa _ _ bg,by rw[au,Ea],λj l zs h1 h2=>?_,by rw[Ea];lia,b7,by lia,W.bind,λpr' z=>(by obtain⟨_,_,_,z,_⟩:=aj _ _ z;cases z),λpl tk ml wd pls w1 H17 kvs pr1 bj pa dw bm J az ap=>⟨rfl,?_⟩⟩
   .obtain ⟨rfl,_⟩:=yL h2;exact aa _ _<|ba _ _<|as j l h1
   have ac:∀b,H16 b=none->H b=none:=λb h=>ah.free<|aa.free h;have ap:Wp c.n (c.Ws true) (mP (sg c.n) (min m<|c.n-1-m) (Q5 (sg c.n).length 0) w1 []) pr1 post:=ap;refine ab (po,H17) ⟨pl,tk,ml,wd,pls,kvs,_,w1,pr1,⟨az,ap,pa,dw,bm,⟨b7,st.off<|ac _ J.1,st.off<|ac _ J.2.1,st.off<|ac _ J.2.2.1,λl h=>st.off<|ac _<|J.2.2.2.2 l h⟩,λb o m h=>?_,ah.free aq,ac _ J.2.1⟩⟩;exact bj b o (λz=>m<|by rw[z];exact bH) (λz=>m<|bK _<|bK _ z)<|aa _ _<|ah _ _ h
  .rw [Z8 XC];obtain rfl:bb=false:=b5.trans (decide_eq_false<|by show ¬ c.n-1-m<m;lia);intro po dp aq bt bi;have b1:upd af dp (.own po) po=none:=by rw[bF<|Q4 bi];exact aq
   have aa:aB af<|upd (upd af dp<|.own po) po<|.ins Cj dp []:=(aV bt _).trans<|aV b1 _;have b2:(upd (upd af dp<|.own po) po<|.ins Cj dp []) po=some (.ins Cj dp []):=aS;generalize upd (upd af dp<|.own po) po (.ins Cj dp [])=H16 at aa b2⊢;have ai:=st.mono ah;have b7:=ai.off aq;have W:=w;unfold Eh at W;refine⟨c,pr,po,dp,sl,ls,sg c.n,_,rfl,b2,ai.mono aa,aa _ _ bg,by rw[au,Ea],λj l zs h1 h2=>?_,by rw[Ea];lia,b7,by lia,W.bind,λpr' z=>(by obtain⟨_,_,_,z,_⟩:=aj _ _ z;cases z),λpl tk ml wd pls w1 H17 kvs pr1 bj pa dw bm J az ap=>⟨rfl,?_⟩⟩
   .obtain ⟨rfl,_⟩:=yL h2;exact aa _ _<|ba _ _<|as j l h1
   have ac:∀b,H16 b=none->H b=none:=λb h=>ah.free<|aa.free h;have ap:Wp c.n (c.Ws false) (mP (sg c.n) (min m<|c.n-1-m) (Q5 (sg c.n).length 0) w1 []) pr1 post:=ap;refine ab (po,H17) ⟨pl,tk,ml,wd,pls,kvs,_,w1,pr1,⟨az,ap,pa,dw,bm,⟨b7,st.off<|ac _ J.1,st.off<|ac _ J.2.1,st.off<|ac _ J.2.2.1,λl h=>st.off<|ac _<|J.2.2.2.2 l h⟩,λb o m h=>?_,ah.free aq,ac _ J.2.1⟩⟩;exact bj b o (λz=>m<|by rw[z];exact bH) (λz=>m<|bK _<|bK _ z)<|aa _ _<|ah _ _ h
 rintro⟨po,H17⟩ ⟨pl,tk,ml,wd,pls,kvs,ts,w1,pr1,W0⟩;dsimp only at W0;obtain⟨k,ek⟩:∃k,min m (c.n-1-m)=k:=⟨_,rfl⟩
 rw[ek] at W0;have ek:min m (c.n-1-m)=k:=ek;clear sX as bg ah c7 ba au;have hz:0<(sg c.n).length:=by rw[Ea];lia
 have b8:(sg c.n).length<=200:=by rw[Ea];lia
 have bc:∀pr',¬ post none pr':=λpr' z=>by obtain⟨_,_,_,z,_⟩:=aj _ _ z;cases z
 clear w st;refine bL ?_;walk_at "r";refine⟨_,_,rfl,?_⟩;rw[show(if (c.n:Int)-1-m<m then(c.n:Int)-1-m else(m:Int))=(k:Int) by rw[<- ek];split<;>lia]
 let VS:CI:=λi ys σ X=>L2.X7 λv wd kvs ts w pr acc=>σ=[v,some<|.ref po]/\ys=nL acc/\acc.length=i/\i<=k/\C7 Ce (aN.mk K Cd Cc Ca Cb Cf Cg) (cond bb Ck Cj) bb H X c k post po pl tk ml wd pls acc kvs ts w pr
 refine xI (by lia) VS ⟨_,wd,kvs,ts,w1,pr1,[],rfl,rfl,rfl,dU _,W0⟩ (λi ys σ X zz=>by obtain⟨_,_,_,_,_,_,_,_,e,e2,_⟩:=zz;rw[e,aM,e2];exact aL _) ?_ ?_
 .rintro i ys σ X hi ⟨v,ay,ao,ts,w2,pr2,acc,rfl,rfl,am,c6,W⟩;have cm:i<k:=by lia
  have wX:=W.wp;rw[am,show k-i=(k-(i+1))+1 by lia,mP] at wX;walk_at "r";split at wX
  .rename_i cc hcc;obtain⟨x,j⟩:=cc;dsimp only at wX;cases bb
   .refine .inl (W.pa.pb.hp.U9 (by walk_at "l") ⟨c,pr2,po,pl,tk,ml,ay,pls,sg c.n,ts,w2,ao,rfl,W.st,W.pa,W.px,W.dw,W.lv,b8,by lia,.inr ⟨x,j,_,hz,hcc,wX.bind,λpr' z=>bc pr' z,λwd' w' Y bw pr3 fY bh bv b6 bx bp=>?_⟩⟩);refine dI.of (by lia) ⟨_,wd',bw,_,w',pr3,acc++[x],rfl,?_,by rw[aU,am];rfl,by lia,⟨bx,?_,bh,bv,b6,W.px,W.fr.trans fY,W.new⟩⟩
    .unfold nL;rw[cF];rfl
    .rw [aU,am];exact bp
   .refine .inr (W.pa.pb.hp.U9 (by walk_at "l") ⟨c,pr2,po,pl,tk,ml,ay,pls,sg c.n,ts,w2,ao,rfl,W.st,W.pa,W.px,W.dw,W.lv,b8,by lia,.inr ⟨x,j,_,hz,hcc,wX.bind,λpr' z=>bc pr' z,λwd' w' Y bw pr3 fY bh bv b6 bx bp=>?_⟩⟩);refine dI.of (by lia) ⟨_,wd',bw,_,w',pr3,acc++[x],rfl,?_,by rw[aU,am];rfl,by lia,⟨bx,?_,bh,bv,b6,W.px,W.fr.trans fY,W.new⟩⟩
    .unfold nL;rw[cF];rfl
    .rw [aU,am];exact bp
  .exact absurd wX (bc _)
 rintro ys σ X ⟨v,ay,ao,ts,w2,pr2,acc,rfl,rfl,am,c6,W⟩ l cf;rw[Int.toNat_natCast] at c6 am;obtain⟨X1,e1,bz,c2⟩:=aT cf<|.lst<|nL acc;rw[e1];clear e1;have ci:k<c.n:=by lia
 have wX:=W.wp;rw[am,gN,mP] at wX;obtain⟨⟨x,j⟩,av⟩:∃x,w2 0 (sg c.n).length=some (some x):=by
  have wX:=wX;split at wX
  .rename_i cc hcc;exact⟨cc,hcc⟩
  .exact absurd wX (bc _)
 rw[av] at wX;have wX:post (some (acc,x)) pr2:=wX;obtain⟨cg,x',rest,e,c4⟩:=aj _ _ wX;cases e;have cd:acc.Nodup:=by
  exact(Ep.mp<|c4.nodup_iff.mpr Eo).1
 refine⟨l,acc.map λ(n:Nat)=>(n:Int),rfl,aD.of (by rw[c2,vF]),by rw[aM];lia,λaw ms bd b3 b4=>?_⟩;obtain⟨T2,rfl,bq,c1⟩:=B0 b3 b4 cd;rw[<- vF];obtain⟨X2,e2,ce,c3⟩:=aT bd<|.lst<|nL T2;rw[e2];clear e2;have W2:=(W.mono bz).mono ce;have ax:H aw=none:=W.free<|bz.free bd;refine bL ?_;walk_at "r";apply Jh (α:=Hp) (λ_=>[some<|.ref c.a,some<|.int (m:Int),some<|.int (c.n:Int),some<|.ref sl,some<|.bl<|decide<|(c.n:Int)-1-m<m,some<|.ref po,some<|.ref aw,some<|.int (x:Int),none]) (λY=>Y) λY=>aB X2 Y
 .intro ab;cases bb
  .exact .inl (W2.pa.pb.hp.U9 (by walk_at "l") ⟨po,c.a,pl,tk,ml,ay,pls,sg c.n,w2,_,ao,some (x,j),rfl,W2.pa.pb,W2.pa.WN,.inl av,λY sY=>ab Y sY⟩)
  .exact .inr (W2.pa.pb.hp.U9 (by walk_at "l") ⟨po,c.a,pl,tk,ml,ay,pls,sg c.n,w2,_,ao,some (x,j),rfl,W2.pa.pb,W2.pa.WN,.inl av,λY sY=>ab Y sY⟩)
 intro Y sY;have WY:=W2.mono sY;have c9:=sY _ _ c3;clear b3 b4 av W W2 c2 c3;refine bL ?_;walk_at "r"
 let WT:CI:=λi ys σ Y'=>∃v,σ=[v,some<|.int (x:Int),some<|.ref aw]/\Y'=Y/\ys=nL ((QL i).filter λy=>decide (y≠x)&&!decide (y∈T2))
 refine xI (by lia) WT ⟨_,rfl,rfl,rfl⟩ (λi ys σ Y' zz=>by obtain⟨_,_,_,e⟩:=zz;rw[e,aM];exact cW (Gx _ _)<|by rw[cU];exact aL _) ?_ ?_
 .rintro i ys σ Y' hi ⟨v,rfl,rfl,rfl⟩;walk_at "r";rw[show(0+(i:Int))=(i:Int) by lia];have bn:∀f:Nat->Bool,(QL<|i+1).filter f=(QL i).filter f++if f i=true then[i] else[]:=λf=>by
   rw[uL,AN];by_cases z:f i=true
   .rw [Z9 z,Sv z];rfl
   .rw [Z8 z,RS z];rfl
  by_cases e:i=x
  .rw [Z8<|by lia];refine dI.of hi ⟨_,rfl,rfl,?_⟩;rw[bn,Z8 (by simp[e]),kH]
  .rw [Z9<|by lia];refine⟨aw,nL T2,rfl,.inl<|aD.of c9,rfl,xr T2,?_⟩;rw[Z9 rfl,show HH (.int (i:Int)) (nL T2)=decide (i∈T2) from zG i T2];refine cY ?_;by_cases e2:i∈T2
   .rw [Z8<|by simp[e2]];refine dI.of hi ⟨_,rfl,rfl,?_⟩;rw[bn,Z8 (by simp[e2]),kH]
   .rw [Z9<|by simp[e2]];refine dI.of hi ⟨_,rfl,rfl,?_⟩;rw[bn,Z9<|by simp[e,e2]];unfold nL;rw[cF];rfl
 rintro ys σ Y' ⟨v,rfl,rfl,rfl⟩ bo be;rw[Int.toNat_natCast];obtain⟨Z,e2,sZ,hZ⟩:=aT be<|.lst<|nL<|(QL c.n).filter λy=>decide (y≠x)&&!decide (y∈T2);rw[e2];clear e2;have WZ:=WY.mono sZ;have c5:=sZ _ _ c9;have b0:H bo=none:=WY.free be;have br:∀rest,(acc++x::rest).Perm (QL c.n)->((QL c.n).filter λy=>decide (y≠x)&&!decide (y∈T2)).Perm rest:=λrest cb=>B5 (T:=T2) cb bq;have bu:((QL c.n).filter λy=>decide (y≠x)&&!decide (y∈T2)).Pairwise (·<·):=List.Pairwise.filter _ Tp;generalize (QL c.n).filter (λy=>decide (y≠x)&&!decide (y∈T2))=R at hZ br bu⊢;refine bL ?_;walk_at "r";by_cases XC:(c.n:Int)-1-m<m
 .rw [Z9 XC];obtain rfl:bb=true:=b5.trans (decide_eq_true<|by show c.n-1-m<m;lia);refine⟨bX<|by decide,λtt ad=>?_⟩;exact q tt bo aw x acc R T2 _ pr2 (WZ.Wv.trans (aV ad _).fr) (WZ.free ad) b0 ax aS (aV ad _ _ _ hZ) (aV ad _ _ _ c5) bu c1 (WZ.st.mono<|aV ad _) wX λr hr=>⟨br r hr,bq⟩
 .rw [Z8 XC];obtain rfl:bb=false:=b5.trans (decide_eq_false<|by show ¬ c.n-1-m<m;lia);refine⟨bX<|by decide,λtt ad=>?_⟩;exact q tt aw bo x acc T2 R _ pr2 (WZ.Wv.trans (aV ad _).fr) (WZ.free ad) ax b0 aS (aV ad _ _ _ c5) (aV ad _ _ _ hZ) c1 bu (WZ.st.mono<|aV ad _) wX λr hr=>⟨bq,br r hr⟩
theorem P7(F:aK K "_law_cell_at" "_law_cell_at" LN f fd)(T:Bt K mg Ce Ci Cj Ck Ch Cd Cc Ca Cb Cf Cg)
 :aF P w K mg base aC 1 f fd ["_law_script","_law_k"]<|pP K:=by
 refine F.ok Pb (by (intro _ _ _ _ h;cases h;subst_vars;rfl)) λJ A outer s H vs Q E O h=>?_
 refine' ⟨_,(aG ?_ ?_),?_⟩;walk_at "d";obtain⟨a,ns,k,rfl,hS,h0,q⟩:=h;walk_at "r";refine⟨a,_,rfl,.inl hS,?_⟩;walk_at "r";rw[aM];unfold cellOf at q;split
 .rename_i hk;rw[Z9 hk] at q;have z:k.toNat<ns.length:=by lia
  refine bM hS (uH h0<|bV z) ?_;rw[bV z] at q;exact q
 .rename_i hk;rw[Z8 hk] at q;exact q
theorem Qq(F:aK K "_law_whole" "_law_whole" LF f fd)(T:Bt K mg Ce Ci Cj Ck Ch Cd Cc Ca Cb Cf Cg)
 :aF P w K mg base aC 1 f fd ["_law_found"]<|hE:=by
 refine F.ok Ph (by (intro _ _ _ _ h;cases h;subst_vars;rfl)) λz A outer s H vs Q E J h=>?_
 refine' ⟨_,(bP<|nK<|Lb (mH Be rfl T.VB Q7<|dG ?_<|AW rfl T.Wq RR)<|Lc<|y4<|mH Be rfl T.VB Q7<|dG ?_<|AW rfl T.Xu PyProof.Rows.boot_bool),?_⟩;walk_at "d";obtain⟨i,rfl,q⟩:=h;walk_at "r";refine zC ?_;walk_at "r";refine rX T.Wl ?_;walk_at "r";exact q
theorem Qu(F:aK K "_law_signed" "_law_signed" Lv f fd)(T:Bt K mg Ce Ci Cj Ck Ch Cd Cc Ca Cb Cf Cg)
 :aF P w K mg base aC 1 f fd ["_law_digit"]<|iY:=by
 refine F.ok Pn (by (intro _ _ _ _ h;cases h;subst_vars;rfl)) λz A outer s H vs Q E O h=>?_
 refine' ⟨_,(bP ?_),?_⟩;walk_at "d";obtain⟨d,rfl,J,q⟩:=h;walk_at "r";exact⟨⟨by decide,by decide⟩,by decide,.inr ⟨by decide,by decide⟩,.inr ⟨by lia,by lia⟩,q _⟩
theorem P4(F:aK K "_law_reserve" "_law_reserve" LS f fd)(T:Bt K mg Ce Ci Cj Ck Ch Cd Cc Ca Cb Cf Cg)
 :aF P w K mg base aC 1 f fd ["_law_cell","_law_k"]<|eX:=by
 refine F.ok Vv (by (intro _ _ _ _ h;cases h;subst_vars;rfl)) λJ A outer s H vs Q E Z h=>?_
 have U:=Vv.nd;refine' ⟨_,(aG ?_ ?_),?_⟩;walk_at "d";obtain⟨c,k,rfl,h0,h1,q⟩:=h;walk_at "r";have O:0<=(c%2147483629+48271*(k+1))%2147483629/\(c%2147483629+48271*(k+1))%2147483629<2147483629:=by lia
 generalize (c%2147483629+48271*(k+1))%2147483629=z at O⊢;refine⟨by decide,.inl ⟨by decide,by decide⟩,by decide,.inl ⟨by lia,by lia⟩,.inl ⟨by decide,by decide⟩,.inl ⟨by decide,by decide⟩,by decide,q _ ?_⟩;generalize z*z+48271*z+7*k=y;lia
theorem PQ(F:aK K "_law_table_of" "_law_table_of" Ma f fd)(T:Bt K mg Ce Ci Cj Ck Ch Cd Cc Ca Cb Cf Cg)
  (U:Fn P w K mg base aC "_law_reserve" 1 ["_law_cell","_law_k"]<|eX)
 :aF P w K mg base aC 2 f fd ["_law_many","_law_cell"]<|lF:=by
 refine F.ok Vg (by (intro _ _ _ _ h;cases h;subst_vars;rfl)) λae A outer s H vs Q E hr h=>?_
 have af:=Vg.nd;refine' ⟨_,(aG ?_<|aG ?_<|aG (lR Q1 rfl ?_ ?_<|aG ?_<|Eg<|aG (Ef<|AB Rc Rz Ry Gj ?_<|bW<|we (js:=[1]) (N:=["_law_cell"]) rfl ?_ λ_ _ _ _=>(Ed Ic (dS GS (dS Ec (pv 1)<|dS zd xH<|pv 0) xH) xH<|mG _))<|bP<|oY (i:=1) Vg.nd rfl (by (first | exact Or.inl rfl | exact Or.inr rfl))<|dS Ec ?_<|dS zd ?_ ?_) ?_),?_⟩;walk_at "d";obtain⟨n,c,rfl,ad,hn,q⟩:=h;walk_at "r";refine⟨bX<|by decide,λp hp=>?_⟩
 let VE:LI:=λi σ X=>L2.X4 λc' v4 rs rows=>σ=[some<|.int n,some<|.int c',some<|.ref p,some<|.int c,v4]/\aB H X/\X p=some (.lst rs)/\lB X rs rows/\(∀b,V.ref b∈rs->b≠p)/\rows.length=i/\∀J∈rows,J.length=n
 refine tT (by lia)<|tK VE ⟨c,_,[],[],rfl,aV hp _,aS,lB.nil,(λb h=>by cases h),rfl,λJ h=>by cases h⟩ (λi σ X hi z=>?_) λσ X z=>?_
 .obtain ⟨c',v4,rs,rows,rfl,sX,hX,hR,aa,O,hw⟩:=z;walk_at "r";have ac:rs.length+1<=sizeLine:=by rw[hR.1,O];exact oZ (by lia)
  have pw:∀j:Nat,j<=20->Gv 1 (j:Int)/\IT 0 (1*2^((j:Int)).toNat):=λj hj=>by
   refine⟨⟨by lia,by lia,by decide⟩,?_⟩;rw[Int.toNat_natCast];have h1:(2:Nat)^j<=2^20:=Nat.pow_le_pow_right (by decide) hj;have h2:0<(2:Nat)^j:=Nat.pow_pos (by decide);have e:(1*2^j:Int)=((2^j:Nat):Int):=by rw[Int.one_mul];norm_cast
   rw[e];exact⟨by lia,by lia⟩
  apply Jh (λd:Int=>[some<|.int n,some<|.int d,some<|.ref p,some<|.int c,some<|.int<|0+(i:Int)]) (λ_=>X) λ_=>True
  .intro rest;by_cases h1:c'<1
   .rw [Z9 h1];exact⟨c,_,rfl,by lia,by lia,λd _=>rest d trivial⟩
   .rw [Z8 h1];exact rest c' trivial
  intro d _;refine jQ ?_;walk_at "r";refine⟨.inl ⟨rfl,_,aD.of hX⟩,?_⟩
  let VS:CI:=λj ys σ Y=>L2.X2 λv J=>σ=[v,some<|.int d]/\Y=X/\ys=SV V.bl J/\J.length=j
  refine xI (by lia) VS ⟨_,[],rfl,rfl,rfl,rfl⟩ (λj ys σ Y z=>?_) (λj ys σ Y hj z=>?_) λys σ Y z p2 Z=>?_
  .obtain ⟨v,J,_,_,e,e2⟩:=z;rw[e,aM,e2];exact aL _
  .obtain ⟨v,J,rfl,rfl,rfl,e2⟩:=z;obtain⟨w1,w2⟩:=pw j (by lia);walk_at "r";rw[Rl];exact⟨w1,w2,by decide,.of hj ⟨_,J++[_],rfl,rfl,by rw[cF];rfl,by rw[aU,e2];rfl⟩⟩
  obtain⟨v,J,rfl,rfl,rfl,e2⟩:=z;rw[Int.toNat_natCast] at e2;have ab:p2≠p:=λz=>by rw[z,hX] at Z;cases Z
  have s2:=aV Z<|.lst<|J.map V.bl;obtain⟨w1,w2⟩:=pw n (by lia);refine⟨p,rs,_,rfl,rfl,s2 _ _ hX,ac,?_⟩;walk_at "r";refine⟨w1,w2,_,_,rs++[.ref p2],rows++[J],rfl,(sX.trans s2).upd hp,aS,((hR.mono s2).snoc aS).upd λb hb=>?_,λb hb=>?_,by rw[aU,O];rfl,λr hr=>?_⟩
  .rcases fG.mp hb with z|z
   .exact aa b z
   .cases bY.mp z;exact ab
  .rcases fG.mp hb with z|z
   .exact aa b z
   .cases bY.mp z;exact ab
  .rcases fG.mp hr with z|z
   .exact hw r z
   .rw [bY.mp z];exact e2
 .obtain ⟨c',v4,rs,rows,rfl,sX,hX,hR,aa,O,hw⟩:=z;walk_at "r";exact q p X _ sX hp<|lB.Yg hX hR (by lia) hw
theorem Qh(F:aK K "_law_table" "_law_table" LD f fd)(T:Bt K mg Ce Ci Cj Ck Ch Cd Cc Ca Cb Cf Cg)
 :aF P w K mg base aC 1 f fd ["_law_many","_law_cell","_law_turns"]<|pH:=by
 refine F.ok Vn (by (intro _ _ _ _ h;cases h;subst_vars;rfl)) λay A outer s H vs Q E hr h=>?_
 have b0:=Vn.nd;refine' bN 5 (bP ?_) λ_ dZ _=>bN 4 (aG ?_ dZ) λ_ dZ _=>bN 3 (aG (GW (i:=6) Vn.nd rfl (Or.inl rfl) rfl (k:=1) (js:=[0,3]) (N':=["_law_p","_law_many","_law_ranks"]) (by rfl) ?_ (λ_ _ _ _=>qI (i:=0) (show(["_law_p","_law_many","_law_ranks"]:List Q3).Nodup by decide+kernel) rfl<|by (first | exact Or.inl rfl | exact Or.inr rfl)) (λ_ _ _ _=>C5) λ_ _ _ _=>(Ba rfl (k:=1) (js:=[2,0]) (N':=["_law_q","_law_ranks","_law_p"]) (by rfl) (oE rfl T.VL<|bW<|pv 1) (λ_ _ _ _=>qI (i:=0) (show(["_law_q","_law_ranks","_law_p"]:List Q3).Nodup by decide+kernel) rfl<|by (first | exact Or.inl rfl | exact Or.inr rfl)) (λ_ _ _ _=>C5) λ_ _ _ _=>(Ed Ji (oW (tG K) (pv 1) (pv 2) λ_ _=>rfl) (oW (tG K) (pv 1) (pv 0) λ_ _=>rfl)<|mG _))) dZ) λ_ dZ _=>⟨_,(aG ?_<|aG ?_<|aG ?_ dZ),?_⟩
 walk_at "d";obtain⟨n,c,t,rfl,ae,hn,q⟩:=h;walk_at "r";refine⟨bX<|by decide,λp hp=>⟨by decide,?_⟩⟩
 let VE:LI:=λi σ X=>L2.X3 λz v5 ms=>σ=[some<|.int n,some<|.int c,some<|.int t,some<|.ref p,some<|.int z,v5,none,none,none]/\(0<=z/\z<4294967296)/\aB H X/\X p=some (.lst<|SV V.int ms)/\ms.length=i
 refine tT (by lia)<|tK VE ⟨c%2147483629+48271,_,[],rfl,⟨by lia,by lia⟩,aV hp _,aS,rfl⟩ (λi σ X hi z=>?_) λσ X z=>?_
 .obtain ⟨z,v5,ms,rfl,hz,sX,O,U⟩:=z;walk_at "r";have ap:(SV V.int ms).length+1<=sizeLine:=by rw[aM,U];exact oZ (by lia)
  refine⟨.inl ⟨by lia,by lia⟩,.inl ⟨by decide,by decide⟩,.inl ⟨by decide,by decide⟩,by decide,.inl ⟨rfl,_,aD.of O⟩,⟨by decide,by decide⟩,?_⟩;have av:(0:Int)<(n:Int):=by lia
  have hb:0<=(z*z+48271*z+7*(0+(i:Int))+1)%2147483629/\(z*z+48271*z+7*(0+(i:Int))+1)%2147483629<2147483629:=⟨QU _<|by decide,QW _<|by decide⟩
  generalize (z*z+48271*z+7*(0+(i:Int))+1)%2147483629=z2 at hb⊢;have h2:=QU (z2/3000) (show(n:Int)≠0 by lia);refine⟨av,by lia,p,_,_,rfl,rfl,O,ap,z2,_,ms++[_],rfl,⟨hb.1,by lia⟩,sX.upd hp,by rw[aS,cF];rfl,by rw[aU,U];rfl⟩
 obtain⟨z,v5,ms,rfl,hz,sX,O,U⟩:=z;have az:ms.length=n:=by lia
 walk_at "r";refine bL ?_;walk_at "r"
 let VS:CI:=λi ys σ Y=>L2.X2 λv rows=>σ=[v,some<|.int n,some<|.ref p]/\aB X Y/\lB Y ys rows/\ys.Nodup/\(∀b,V.ref b∈ys->X b=none)/\rows.length=i/\∀J∈rows,J.length=n
 refine xI (by lia) VS ⟨_,[],rfl,.refl _,lB.nil,List.nodup_nil,(λb h=>by cases h),rfl,λJ h=>by cases h⟩ (λi ys σ Y z=>?_) (λi ys σ Y hi z=>?_) λys σ Y z p2 ac=>?_
 .obtain ⟨v,rows,_,_,e,_,_,e2,_⟩:=z;rw[e.1,e2];exact aL _
 .obtain ⟨v,rows,rfl,sY,hR,af,aa,VC,hw⟩:=z;have aw:i<ms.length:=by lia
  have aI:dX (ms.map V.int) (0+(i:Int))=some (.int ms[i]):=uH (by lia) (by rw[show(0+(i:Int)).toNat=i by lia];exact bV aw);have am:=aD.of (K:=K)<|sY _ _ O;walk_at "r"
  let WT:CI:=λj zs σ Z=>L2.X2 λv J=>σ=[v,some<|.ref p,some<|.int<|0+(i:Int)]/\Z=Y/\zs=SV V.bl J/\J.length=j
  refine xI (by lia) WT ⟨_,[],rfl,rfl,rfl,rfl⟩ (λj zs σ Z z=>?_) (λj zs σ Z hj z=>?_) λzs σ Z z p3 ab=>?_
  .obtain ⟨v,J,_,_,e,e2⟩:=z;rw[e,aM,e2];exact aL _
  .obtain ⟨v,J,rfl,rfl,rfl,e2⟩:=z;have ax:j<ms.length:=by lia
   have aJ:dX (ms.map V.int) (0+(j:Int))=some (.int ms[j]):=uH (by lia) (by rw[show(0+(j:Int)).toNat=j by lia];exact bV ax);walk_at "r";refine bM am aI<|bM am aJ ?_;walk_at "r";exact .of hj ⟨_,J++[_],rfl,rfl,by rw[cF];rfl,by rw[aU,e2];rfl⟩
  obtain⟨v,J,rfl,rfl,rfl,e2⟩:=z;rw[Int.toNat_natCast] at e2;refine .of hi ⟨_,rows++[J],rfl,sY.trans<|aV ab _,(hR.mono<|aV ab _).snoc aS,?_,λb hb=>?_,by rw[aU,VC];rfl,λr hr=>?_⟩
  .refine Ep.mpr ⟨af,by simp,λa ha b hb=>?_⟩;rw[bY.mp hb];intro z;rw[z] at ha;obtain⟨_,b1⟩:=hR.alive ha;rw[ab] at b1;cases b1
  .rcases fG.mp hb with z|z
   .exact aa b z
   .cases bY.mp z;exact sY.free ab
  .rcases fG.mp hr with z|z
   .exact hw r z
   .rw [bY.mp z];exact e2
 obtain⟨v,rows,rfl,sY,hR,af,aa,VC,hw⟩:=z;rw[Int.toNat_natCast] at VC;have s2:=aV ac<|.lst ys;have ai:=hR.mono s2;have S2:=sX.trans<|sY.trans s2;have ae:H p2=none:=sX.free<|sY.free ac;have ag:∀b,V.ref b∈ys->H b=none:=λb hb=>sX.free<|aa b hb;have ah:upd Y p2 (.lst ys) p2=some (.lst ys):=aS;have ao:∀b,V.ref b∈ys->b≠p2:=λb hb z=>by
  obtain⟨_,b1⟩:=hR.alive hb;rw[z,ac] at b1;cases b1
 generalize upd Y p2 (.lst ys)=Y2 at ai S2 ah⊢;clear s2 hR sY ac aa O sX;refine bL ?_;walk_at "r";refine⟨by decide,?_⟩;have as:0<=t%4/\t%4<=3:=by lia
 generalize t%4=reps at as⊢
 let XY:LI:=λi σ X=>L2.X4 λv5 v7 v8 rows=>σ=[some<|.int n,some<|.int c,some<|.int t,some<|.ref p,some<|.int z,v5,some<|.ref p2,v7,v8]/\aB H X/\X p2=some (.lst ys)/\lB X ys rows/\rows.length=n/\∀J∈rows,J.length=n
 refine tT (by lia)<|tK XY ⟨_,_,_,rows,rfl,S2,ah,ai,VC,hw⟩ (λi σ X hi z=>?_) λσ X z=>?_
 .obtain ⟨v5,v7,v8,rows,rfl,sX,O,hR,VC,hw⟩:=z;have b2:0<n:=by lia
  walk_at "r";refine⟨.inl ⟨by decide,by decide⟩,⟨by lia,by lia⟩,⟨by decide,by decide⟩,by lia,.inl ⟨by decide,by decide⟩,⟨by lia,by lia⟩,⟨by decide,by decide⟩,by lia,?_⟩;have pa:=QU (z/(7*(0+(i:Int))+1)+t/4) (show(n:Int)≠0 by lia);have pb:=QW (z/(7*(0+(i:Int))+1)+t/4) (show(0:Int)<(n:Int) by lia);have qa:=QU (z/(11*(0+(i:Int))+3)+t/28) (show(n:Int)≠0 by lia);have qb:=QW (z/(11*(0+(i:Int))+3)+t/28) (show(0:Int)<(n:Int) by lia);generalize (z/(7*(0+(i:Int))+1)+t/4)%(n:Int)=pp at pa pb⊢;generalize (z/(11*(0+(i:Int))+3)+t/28)%(n:Int)=qq at qa qb⊢;have VD:pp.toNat<rows.length:=by lia
  obtain⟨r,a1,b1⟩:=hR.2 pp.toNat rows[pp.toNat] (bV VD);have aq:=hw rows[pp.toNat] (SG VD);have au:qq.toNat<rows[pp.toNat].length:=by lia
  have aP:dX ys pp=some (.ref r):=cK pa a1;have aQ:dX (rows[pp.toNat].map V.bl) qq=some (.bl (rows[pp.toNat])[qq.toNat]):=cK qa (by rw[dB,bV au];rfl);refine bM (aD.of O) aP<|bM (aD.of b1) aQ<|cY<|bM (aD.of O) aP ?_;have ad:V.ref r∈ys:=gO a1;have em:(rows[pp.toNat].map V.bl).set qq.toNat (V.bl !(rows[pp.toNat])[qq.toNat])=(rows[pp.toNat].set qq.toNat (!(rows[pp.toNat])[qq.toNat])).map V.bl:=by rw[List.map_set]
  refine⟨r,_,qq,qq.toNat,rfl,rfl,b1,Js qa<|by rw[aM];lia,?_⟩;rw[em];refine⟨_,_,_,rows.set pp.toNat<|rows[pp.toNat].set qq.toNat (!(rows[pp.toNat])[qq.toNat]),rfl,sX.upd<|ag r ad,by rw[bF<|Q4<|ao r ad];exact O,hR.flip af a1,by rw[Ez];exact VC,λJ aj=>?_⟩;rcases List.mem_or_eq_of_mem_set aj with z|z
  .exact hw J z
  .rw [z,Ez];exact aq
 .obtain ⟨v5,v7,v8,rows,rfl,sX,O,hR,VC,hw⟩:=z;walk_at "r";refine bL ?_;walk_at "r";exact q p2 X _ sX ae<|lB.Yg O hR VC hw
theorem QD(F:aK K "_law_plain" "_law_plain" LB f fd)(T:Bt K mg Ce Ci Cj Ck Ch Cd Cc Ca Cb Cf Cg)
 :aF P w K mg base aC 1 f fd ["_law_cell"]<|lH:=by
 refine F.ok OR (by (intro _ _ _ _ h;cases h;subst_vars;rfl)) λaa A outer s H vs Q E hr h=>?_
 have ad:=OR.nd;refine' ⟨_,(aG ?_<|bP<|nK<|D9<|wR ?_ ?_<|dS AV ?_<|dS Jy (qJ JT rfl T.Wq RR ?_) ?_),?_⟩;walk_at "d";obtain⟨c,rfl,q⟩:=h;walk_at "r";refine⟨bX<|by decide,λp Z=>⟨by decide,bM (aD.of aS) (HV c) ⟨⟨by decide,by decide⟩,by decide,⟨by decide,by decide⟩,by decide,?_⟩⟩⟩;walk_at "r";have h5:=QU c (show(5:Int)≠0 by decide);have h6:=QW c (show(0:Int)<5 by decide);have O:wrd (c%5).toNat=QQ "ring"↔(c%5).toNat=3:=F1 (by lia) (by decide) _ rfl;generalize hd:decide (wrd (c%5).toNat=QQ "ring")=d;have J:(c%5).toNat=3->d=true:=λz=>by rw[<- hd];exact decide_eq_true<|O.mpr z
 have hk:=QU (c/5) (show(2:Int)≠0 by decide);have ab:=QW (c/5) (show(0:Int)<2 by decide);have hx:=QU (c/40) (show(6:Int)≠0 by decide);have ac:=QW (c/40) (show(0:Int)<6 by decide);have hy:=QU (c/10) (show(4:Int)≠0 by decide);refine .inr ⟨_,rfl,⟨by decide,by decide⟩,by decide,.inl ⟨by split<;>lia,by lia⟩,bX<|by decide,λt U=>?_⟩;refine q t _ ⟨(c%5).toNat,(c/5%2).toNat,c/10%4+(if d=true then 1 else 0)*(1+c/40%6)⟩ ((aV Z _).trans<|aV U _) ((aV Z _).free U) ?_ ⟨?_,?_,?_,?_⟩
 .rw [aS];unfold xS;rw[show(((c/5%2).toNat:Nat):Int)=c/5%2 by lia]
 .show (c%5).toNat<5;lia
 .show (c/5%2).toNat<2;lia
 .show 0<=c/10%4+(if d=true then 1 else 0)*(1+c/40%6);split<;>lia
 .show (c%5).toNat=3->1<=c/10%4+(if d=true then 1 else 0)*(1+c/40%6);intro h;rw[Z9<|J h];lia
theorem O9(F:aK K "_law_goes" "_law_goes" Ky f fd)(T:Bt K mg Ce Ci Cj Ck Ch Cd Cc Ca Cb Cf Cg)
 :aF P w K mg base aC 1 f fd ["_law_plain_here","_law_table_here","_law_x","_law_y"]<|jD K:=by
 refine F.ok OO (by (intro _ _ _ _ h;cases h;subst_vars;rfl)) λac A outer s H vs Q E hr h=>?_
 have ae:=OO.nd;refine' ⟨_,(aG ?_ ?_),?_⟩;walk_at "d";obtain⟨t,x,y,tb,p,L,tm,xi,yi,rfl,ht,hM,J,O,Z,U,ok,q⟩:=h;walk_at "r";unfold xS at ht;have l1:=Z.len;have l2:=U.len;have hk:=ok.key;have ax:dX (xi.map V.int) (p.key:Int)=some (.int<|cX xi p.key):=uH (by lia) (xW (by lia)<|by lia);have ay:dX (yi.map V.int) (p.key:Int)=some (.int<|cX yi p.key):=uH (by lia) (xW (by lia)<|by lia);refine xZ (aY.of ht) rfl ?_;unfold Bu Bv Jp EK;walk_at "r";by_cases k4:p.kd=4
 .rw [Z9<|(Bn ok.kd).mpr k4];unfold jR at q;rw[Z8<|by lia,Z8<|by lia,Z8<|by lia,Z8<|by lia] at q;have aa:dX (xi.map V.int) 0=some (.int (((cX xi 0).toNat:Nat):Int)):=by rw[Sn Z.lo];exact uH (by lia) (xW (by lia)<|by lia)
  have ab:dX (yi.map V.int) 0=some (.int (((cX yi 0).toNat:Nat):Int)):=by rw[Sn U.lo];exact uH (by lia)<|xW (by lia)<|by lia
  have b1:=Z.lo;have b2:=Z.hi;have b3:=U.lo;have b4:=U.hi;obtain⟨rs,r1,r2,r3⟩:=hM;obtain⟨r,a1,a2⟩:=r3 (cX xi 0).toNat (by lia);refine cJ J aa ?_;walk_at "r";refine bM (aD.of r1) (cK (by lia)<|by rw[Int.toNat_natCast];exact a1) ?_;refine cJ O ab<|bM (aD.of a2) (xU<|by lia) ?_;exact q
 rw[Z8 λz=>k4<|(Bn ok.kd).mp z];unfold jR at q;by_cases k0:p.kd=0
 .rw [Z9<|(G0 ok.kd).mpr k0];rw[Z9 k0] at q;refine cJ J ax<|cJ O ay ?_;walk_at "r";exact q
 rw[Z8 λz=>k0<|(G0 ok.kd).mp z];rw[Z8 k0] at q;by_cases k1:p.kd=1
 .rw [Z9<|(G2 ok.kd).mpr k1];rw[Z9 k1] at q;refine cJ O ay<|cJ J ax ?_;walk_at "r";exact q
 rw[Z8 λz=>k1<|(G2 ok.kd).mp z];rw[Z8 k1] at q;by_cases k2:p.kd=2
 .rw [Z9<|(Bo ok.kd).mpr k2];rw[Z9 k2] at q;refine cJ J ax ?_;walk_at "r";refine cJ O ay ?_;walk_at "r";rw[show decide (cX xi p.key+p.num<cX yi p.key)=decide (p.num<cX yi p.key-cX xi p.key) from decide_eq_decide.mpr<|by lia];exact q
 rw[Z8 λz=>k2<|(Bo ok.kd).mp z];rw[Z8 k2] at q;refine cJ O ay<|cJ J ax ?_;walk_at "r";have ad:=ok.kd;rw[Z9<|by lia] at q;have h1:=ok.n1 (by lia);refine⟨by lia,?_⟩;unfold Jm at q;walk_at "r";by_cases h:0<(cX yi p.key-cX xi p.key)%p.num
 .rw [Z9 h];rw[decide_eq_true h,Bool.true_and] at q;rw[show ∀z:Int,z+z=2*z from λz=>by lia];exact q
 .rw [Z8 h];rw[decide_eq_false h,UL] at q;exact q
theorem Qw(F:aK K "_law_puts" "_law_puts" KC f fd)(T:Bt K mg Ce Ci Cj Ck Ch Cd Cc Ca Cb Cf Cg)
  (aa:Fn P w K mg base aC "_law_goes" 1 ["_law_plain_here","_law_table_here","_law_x","_law_y"]<|jD K)
 :aF P w K mg base aC 2 f fd ["_law_part","_law_table_here","_law_x","_law_y"]<|jA K:=by
 refine F.ok Vi (by (intro _ _ _ _ h;cases h;subst_vars;rfl)) λab A outer s H vs Q E hr h=>?_
 have ac:=Vi.nd;refine' ⟨_,(aG ?_<|aG ?_<|aG (lR Q1 rfl ?_ ?_<|bP<|oY (i:=4) Vi.nd rfl (by (first | exact Or.inl rfl | exact Or.inr rfl))<|dS Jz (dS AV ?_<|qJ JT rfl T.Wq RR ?_)<|qJ JT rfl T.Wq RR ?_) ?_),?_⟩;walk_at "d";obtain⟨a,x,y,tb,p,L,tm,xi,yi,rfl,ht,hM,hx,hy,lx,ly,ok,q⟩:=h;walk_at "r";obtain⟨ts,ha,Z,h3⟩:=ht;obtain⟨v,ls⟩:=p;cases v with
 |false=>
  obtain⟨p,e⟩:=ok.one rfl;have e':ls=[p]:=e;subst e';obtain⟨t,h1,h2⟩:=Z.get 0 p rfl;have J:ts.length=1:=Z.len;refine⟨a,ts,rfl,.inl<|aD.of ha,?_⟩;rw[Z9<|by rw[J];rfl];refine bM (aD.of ha) (cK (by decide) h1) ?_;refine⟨t,x,y,tb,p,L,tm,xi,yi,rfl,h2,hM,hx,hy,lx,ly,ok.ok p bH,?_⟩;unfold tH at q;rw[Z8<|show ¬ (false=true) by decide] at q;simpa using q
 |true=>
  have O:=ha;have J:ts.length=3:=by rw[Z.len];exact h3 rfl
  refine⟨a,ts,rfl,.inl<|aD.of ha,?_⟩;rw[Z8<|by rw[J];decide];refine xY (aD.of O) (λi σ X=>∃v4,σ=[some<|.ref a,some<|.ref tb,some<|.ref x,some<|.ref y,some<|.int<|vts tm (ls.take i) xi yi,v4]/\X=H) ⟨_,rfl,rfl⟩ (λi σ X _ z=>?_) (λi w σ X hw z=>?_) λσ X z=>?_
  .obtain ⟨_,_,e⟩:=z;rw[e];exact aD.of O
  .obtain ⟨v4,rfl,rfl⟩:=z;obtain⟨p,t,hp,rfl,h2⟩:=Z.at hw;have U:=ok.ok p<|gO hp;walk_at "r";refine⟨t,x,y,tb,p,L,tm,xi,yi,rfl,h2,hM,hx,hy,lx,ly,U,.inr ⟨_,rfl,?_⟩⟩;walk_at "r";refine⟨t,y,x,tb,p,L,tm,yi,xi,rfl,h2,hM,hy,hx,ly,lx,U,.inr ⟨_,rfl,?_⟩⟩;walk_at "r";rw[yh hp];exact⟨_,rfl,trivial⟩
  .obtain ⟨v4,rfl,rfl⟩:=z;walk_at "r";rw[Z.len,pE<|aL _];unfold tH at q;rw[Z9 rfl] at q;exact q
theorem Oi(F:aK K "_law_before" "_law_before" Ln f fd)(T:Bt K mg Ce Ci Cj Ck Ch Cd Cc Ca Cb Cf Cg)
  (U:Fn P w K mg base aC "_law_puts" 2 ["_law_part","_law_table_here","_law_x","_law_y"]<|jA K)
 :aF P w K mg base aC 3 f fd ["_law_parts_here","_law_table_here","_law_x","_law_y"]<|eI K:=by
 refine F.ok Vo (by (intro _ _ _ _ h;cases h;subst_vars;rfl)) λac A outer s H vs Q E hr h=>?_
 have ad:=Vo.nd;refine' ⟨_,(aG ?_ ?_),?_⟩;walk_at "d";obtain⟨l,x,y,tb,xs,ps,L,tm,xi,yi,rfl,hl,hp,hM,hx,hy,lx,Z,ok,ab,q⟩:=h;walk_at "r";have aa:=hp.len
 let VE:LI:=λi σ X=>L2.X2 λv w=>σ=[some<|.ref l,some<|.ref tb,some<|.ref x,some<|.ref y,v,w]/\X=H/\fF tm ps xi yi=fF tm (ps.drop i) xi yi
 refine xY (aD.of hl) VE ⟨_,_,rfl,rfl,rfl⟩ (λi σ X _ z=>?_) (λi u σ X hu z=>?_) λσ X z=>?_
 .obtain ⟨v,w,_,e,_⟩:=z;rw[e];exact aD.of hl
 .obtain ⟨v,w,rfl,rfl,J⟩:=z;obtain⟨p,a,hq,rfl,ha⟩:=hp.at hu;have O:=ok p<|gO hq;rw[oV hq] at J;walk_at "r";refine⟨a,x,y,tb,p,L,tm,xi,yi,rfl,ha,hM,hx,hy,lx,Z,O,?_⟩;walk_at "r";cases h1:tH tm p xi yi with
  |true=>
   rw[Z9 h1] at J;rw[J] at q;exact q
  |false=>
   rw[Z8<|by rw[h1];decide] at J;refine⟨a,y,x,tb,p,L,tm,yi,xi,rfl,ha,hM,hy,hx,Z,lx,O,cY ?_⟩;by_cases h2:tH tm p yi xi=true
   .rw [Z9 h2] at J⊢;rw[J] at q;exact q
   rw[Z8 h2] at J⊢;exact⟨_,_,rfl,rfl,J⟩
 .obtain ⟨v,w,rfl,rfl,J⟩:=z;walk_at "r";rw[aa,Tf] at J;rw[show false=fF tm ps xi yi by rw[J];rfl];exact q
theorem P2(F:aK K "_law_rule_of" "_law_rule_of" LU f fd)(T:Bt K mg Ce Ci Cj Ck Ch Cd Cc Ca Cb Cf Cg)
  (aa:Kl P w K mg base aC "KeyRule" Cd 3 ["self","columns"]<|eZ K Cd)
  (O:Kl P w K mg base aC "TableRule" Cb 2 ["self","at","table"]<|eU Cb)
  (U:Kl P w K mg base aC "NearRule" Cc 2 ["self","at","gap"]<|dP Cc)
  (Z:Kl P w K mg base aC "RingRule" Ca 2 ["self","at","size"]<|dN Ca)
 :aF P w K mg base aC 5 f fd ["_law_plain_here","_law_table_here"]<|fL K Cd Cc Ca Cb:=by
 refine F.ok Vq (by (intro _ _ _ _ h;cases h;subst_vars;rfl)) λac A outer s H vs Q E hr h=>?_
 have ae:=Vq.nd;refine' ⟨_,(aG ?_ ?_),?_⟩;walk_at "d";obtain⟨t,tb,p,L,tm,rfl,ht,hM,hL,ok,q⟩:=h;walk_at "r";unfold xS at ht;refine xZ (aY.of ht) rfl ?_;unfold Bu Bv Jp EK;walk_at "r";by_cases k4:p.kd=4
 .rw [Z9<|(Bn ok.kd).mpr k4];exact λx dx hx J _=>tmade k4 hL hx J hM λH' s h=>q x H' s h
 rw[Z8 λz=>k4<|(Bn ok.kd).mp z];by_cases k2:p.kd=2
 .rw [Z9<|(Bo ok.kd).mpr k2];exact λx dx hx J _=>nmade ok k2 hx J λH' s h=>q x H' s h
 rw[Z8 λz=>k2<|(Bo ok.kd).mp z];by_cases k3:p.kd=3
 .rw [Z9<|(G1 ok.kd).mpr k3];exact λx dx hx J _=>rmade ok k3 hx J λH' s h=>q x H' s h
 rw[Z8 λz=>k3<|(G1 ok.kd).mp z];have ad:=ok.kd;exact⟨bX<|by decide,λpt ab=>⟨bX<|by decide,λpl VD x dx hx J _=>kmade ok (by lia) hx J aS (aV VD _ _ _ aS) λH' s h=>q x H' (((aV ab _).trans<|aV VD _).trans s) h⟩⟩
theorem PH(F:aK K "_law_picked" "_law_picked" Lr f fd)(T:Bt K mg Ce Ci Cj Ck Ch Cd Cc Ca Cb Cf Cg)
  (O:Fn P w K mg base aC "_law_whole" 1 ["_law_found"]<|hE)
 :aF P w K mg base aC 2 f fd ["_law_found","_law_many"]<|dO:=by
 refine F.ok Pj (by (intro _ _ _ _ h;cases h;subst_vars;rfl)) λaa A outer s H vs Q E hr h=>?_
 refine' ⟨_,(aG (kN (PW.pt<|C1 (AE<|tI<|mH Be rfl T.VB Q7<|dG ?_<|AW rfl T.We Sa) ?_) ?_ ?_)<|aG (kN (PW.pt<|C1 (AE<|tI<|mH Be rfl T.VB Q7<|dG ?_<|AW rfl T.VJ Ra)<|yX<|AE<|tI<|mH Be rfl T.VB Q7<|dG ?_<|AW rfl T.VJ Ra) ?_ ?_) ?_),?_⟩;walk_at "d";obtain⟨t,l1,l2,x,many,A,B,rfl,J,h1,h2,q⟩:=h;walk_at "r";have Z:dX [V.ref l1,.int x,.ref l2] 0=some (.ref l1):=cK (by decide) rfl;have U:dX [V.ref l1,.int x,.ref l2] 1=some (.int x):=cK (by decide) rfl;have i2:dX [V.ref l1,.int x,.ref l2] 2=some (.ref l2):=cK (by decide) rfl;refine⟨.ref t,.ty "tuple",_,true,rfl,rfl,.tup J,T.VG,?_⟩;rw[Z8<|by decide];refine⟨t,_,rfl,.inr<|aY.of J,?_⟩;rw[Z8 λz=>z rfl];refine cJ (aY.of J) U ⟨x,rfl,cY ?_⟩;rw[Z8<|by decide];refine cJ (aY.of J) Z ⟨.ref l1,.ty "list",_,true,rfl,rfl,.lst h1,T.VI,?_⟩;rw[Z8<|by decide];refine cJ (aY.of J) i2 ⟨.ref l2,.ty "list",_,true,rfl,rfl,.lst h2,T.VI,?_⟩;rw[Z8<|by decide];exact cJ (aY.of J) Z<|cJ (aY.of J) U<|cJ (aY.of J) i2 ⟨bX<|by decide,λp hp=>q p _ (aV hp _) hp aS⟩
theorem PR(F:aK K "_law_counts" "_law_counts" Lo f fd)(T:Bt K mg Ce Ci Cj Ck Ch Cd Cc Ca Cb Cf Cg)
 :aF P w K mg base aC 1 f fd ["_law_goes_here"]<|fQ:=by
 refine F.ok OK (by (intro _ _ _ _ h;cases h;subst_vars;rfl)) λae A outer s H vs Q E hr h=>?_
 have af:=OK.nd;refine' ⟨_,(aG ?_<|aG ?_<|aG (lR Q1 rfl ?_ ?_<|bP<|Ef<|AB Rc Rz Ry Gj ?_<|bW<|mH Mr rfl T.Wx TM<|bW<|Ba rfl (k:=1) (js:=[0,3]) (N':=["_law_p","_law_goes_here","_law_q"]) (by rfl) ?_ (λ_ _ _ _=>qI (i:=0) (show(["_law_p","_law_goes_here","_law_q"]:List Q3).Nodup by decide+kernel) rfl<|by (first | exact Or.inl rfl | exact Or.inr rfl)) (λ_ _ _ _=>(Gk<|tI<|oW (tG K) (oW (tG K) (pv 1) (pv 0) λ_ _=>rfl) (pv 2) λ_ _=>rfl)) λ_ _ _ _=>(pv 0)) ?_),?_⟩;walk_at "d";obtain⟨l,n,m,rfl,hM,hn,q⟩:=h;walk_at "r";obtain⟨rs,hl,VC,hm⟩:=hM;refine⟨l,_,rfl,.inl<|aD.of hl,?_⟩;rw[VC];refine⟨dU _,λp hp=>?_⟩
 let VE:LI:=λi σ X=>∃v,σ=[some<|.ref l,some<|.int n,some<|.ref p,v]/\aB H X/\X p=some (.lst<|(QL i).map λq=>V.int (cQ n m q:Nat))
 refine tT (by lia)<|tK VE ⟨_,rfl,aV hp _,aS⟩ (λi σ X hi z=>?_) λσ X z=>?_
 .obtain ⟨v,rfl,J,O⟩:=z;have ab:i<n:=by lia
  rw[Rl];walk_at "r";refine⟨.inl ⟨rfl,_,aD.of O⟩,?_⟩
  let VS:CI:=λj zs σ Y=>∃v,σ=[v,some<|.ref l,some<|.int i]/\Y=X/\zs.length=(QL j).countP λx=>m x i
  refine xI (by lia) VS ⟨_,rfl,rfl,rfl⟩ (λj zs σ Y z=>?_) (λj zs σ Y hj z=>?_) λzs σ Y z p2 Z=>?_
  .obtain ⟨_,_,_,e2⟩:=z;rw[e2];exact cW List.countP_le_length<|by rw[cU];exact aL _
  .obtain ⟨v,rfl,rfl,U⟩:=z;have aa:j<n:=by lia
   obtain⟨r,ac,ad⟩:=hm j aa;have ec:(QL<|j+1).countP (λx=>m x i)=(QL j).countP (λx=>m x i)+(if m j i=true then 1 else 0):=by
    rw[uL,List.countP_append];simp[Gz]
   rw[Rl];walk_at "r";refine bM (aD.of<|J _ _ hl) (cK (by lia)<|by rw[Int.toNat_natCast];exact ac) ?_;refine bM (aD.of<|J _ _ ad) (xU ab) ?_;refine cY ?_;cases hk:m j i with
   |true=>
    rw[Z9 rfl];exact dI.of hj ⟨_,rfl,rfl,by rw[ec,hk,aU,U];rfl⟩
   |false=>
    rw[Z8 kS];exact dI.of hj ⟨_,rfl,rfl,by rw[ec,hk,U];rfl⟩
  obtain⟨v,rfl,rfl,U⟩:=z;rw[Int.toNat_natCast] at U;have s4:=aV Z<|.lst zs;refine⟨p2,_,rfl,.inl<|aD.of aS,p,_,_,rfl,rfl,s4 _ _ O,oZ<|by rw[aM,cU];lia,_,rfl,(J.trans s4).upd hp,?_⟩;rw[aS,U,uL,cF];rfl
 .obtain ⟨v,rfl,J,O⟩:=z;walk_at "r";exact q p X J hp<|by rw[Int.toNat_natCast] at O;exact O
theorem Qv(F:aK K "_law_numbers" "_law_numbers" LR f fd)(T:Bt K mg Ce Ci Cj Ck Ch Cd Cc Ca Cb Cf Cg)
  (O:Fn P w K mg base aC "_law_whole" 1 ["_law_found"]<|hE)
 :aF P w K mg base aC 2 f fd ["_law_found","_law_due"]<|cD:=by
 refine F.ok OL (by (intro _ _ _ _ h;cases h;subst_vars;rfl)) λab A outer s H vs Q E hr h=>?_
 have ac:=OL.nd;refine' ⟨_,(aG (kN (PW.pt<|C1 (AE<|tI<|mH Be rfl T.VB Q7<|dG ?_<|AW rfl T.VJ Ra) ?_) ?_ ?_) ?_),?_⟩;walk_at "d";obtain⟨l,l2,xs,ys,rfl,h1,h2,J,hn,q⟩:=h;walk_at "r";subst J;refine⟨.ref l,.ty "list",_,true,rfl,rfl,.lst h1,T.VI,?_⟩;rw[Z8<|by decide];refine⟨l,_,rfl,.inl<|aD.of h1,l2,_,rfl,.inl<|aD.of h2,?_⟩;rw[Z8 λz=>z rfl];refine⟨l2,_,rfl,.inl<|aD.of h2,?_⟩;have U:(nL ys).length=ys.length:=by unfold nL;rw[aM]
 rw[U]
 let VE:LI:=λi σ X=>∃v,σ=[some<|.ref l,some<|.ref l2,v]/\X=H
 refine tT (by lia)<|tK VE ⟨_,rfl,rfl⟩ (λi σ X hi z=>?_) λσ X z=>?_
 .obtain ⟨v,rfl,rfl⟩:=z;have aa:i<ys.length:=by lia
  have Z:dX (nL ys) (i:Int)=some (.int ((ys[i]:Nat):Int)):=cK (by lia) (by unfold nL;rw[Int.toNat_natCast,dB,bV aa];rfl);rw[Rl];walk_at "r";refine bM (aD.of h1) Z ⟨_,rfl,?_⟩;refine cY ?_;rw[Z8<|by decide];refine bM (aD.of h1) Z<|bM (aD.of h2) Z ?_;rw[K3];refine cY ?_;rw[Z8<|by simp];exact⟨_,rfl,rfl⟩
 .obtain ⟨v,rfl,rfl⟩:=z;walk_at "r";exact q
theorem Pt(F:aK K "_law_parts" "_law_parts" LA f fd)(T:Bt K mg Ce Ci Cj Ck Ch Cd Cc Ca Cb Cf Cg)
  (O:Fn P w K mg base aC "_law_plain" 1 ["_law_cell"]<|lH)
 :aF P w K mg base aC 2 f fd ["_law_cell","_law_many"]<|cM:=by
 refine F.ok V6 (by (intro _ _ _ _ h;cases h;subst_vars;rfl)) λag A outer s H vs Q E hr h=>?_
 have ah:=V6.nd;refine' ⟨_,(aG ?_<|aG (lR Q1 rfl ?_ ?_<|aG ?_<|bP<|kN ?_ (bP<|Ef<|AB Rc Rz Ry Gj ?_<|bW<|we (js:=[4]) (N:=["_law_here"]) rfl ?_ λ_ _ _ _=>(uG O hr.mn rfl cG<|bW<|dS AV (dS Ec (dS Ec (pv 1) xH)<|dS AV (pv 0) xH)<|dS Jy xH<|pv 0)) ?_) ?_),?_⟩;walk_at "d";obtain⟨c,m,rfl,hm,q⟩:=h;walk_at "r";refine⟨bX<|by decide,λp hp=>?_⟩
 let VE:LI:=λi σ X=>L2.X2 λv3 v4=>σ=[some<|.int c,some<|.int m,some<|.ref p,v3,v4]/\Em p H X i
 refine tT (by lia)<|tK VE ⟨_,_,rfl,[],[],aV hp _,aS,pC.nil,(λb h=>by cases h),(λq h=>by cases h),rfl⟩ (λi σ X hi z=>?_) λσ X z=>?_
 .obtain ⟨v3,v4,rfl,I⟩:=z;obtain⟨xs,ps,sX,hX,hL,af,ok,ae⟩:=id I;walk_at "r";rw[Rl];generalize c/(6*(i:Int)+1)=d;refine⟨.inl ⟨by decide,by decide⟩,⟨by lia,by lia⟩,by decide,?_⟩;split
  .refine ⟨.inl ⟨rfl,_,aD.of hX⟩,?_⟩
   let VS:CI:=λj ys σ Y=>L2.X2 λv pls=>σ=[v,some<|.int d]/\aB X Y/\qG Y ys pls/\pls.length=j/\∀p∈pls,p.Ok
   refine xI (by lia) VS ⟨_,[],rfl,.refl _,qG.nil,rfl,λp h=>by cases h⟩ (λj ys σ Y z=>?_) (λj ys σ Y hj z=>?_) λys σ Y z p2 J=>?_
   .obtain ⟨v,pls,_,_,e,e2,_⟩:=z;rw[e.len,e2];exact aL _
   .obtain ⟨v,pls,rfl,U,hY,ab,ad⟩:=z;walk_at "r";refine⟨⟨by decide,by decide⟩,⟨by lia,by lia⟩,.inl ⟨by decide,by decide⟩,_,rfl,λt Y2 pl s2 ht aa ac=>.of hj ⟨_,pls++[pl],rfl,U.trans s2,(hY.mono s2).snoc aa,by rw[aU,ab];rfl,λp hp=>?_⟩⟩;rcases fG.mp hp with z|z
    .exact ad p z
    .rw [bY.mp z];exact ac
   obtain⟨v,pls,rfl,U,hY,ab,ad⟩:=z;have h3:pls.length=3:=ab;exact Em.snoc hp I (by lia) (U.trans<|aV J _) (U.free J) (q:=(true,pls)) ⟨ys,aS,hY.mono<|aV J _,λ_=>h3⟩ (rH (by rw[h3];rfl) (by lia) (by lia) ad) λZ I'=>⟨_,_,rfl,I'⟩
  .refine ⟨.inl ⟨rfl,_,aD.of hX⟩,⟨by decide,by decide⟩,_,rfl,λt Y pl U ht aa ac=>⟨bX<|by decide,λp2 J=>?_⟩⟩;exact Em.snoc hp I (by lia) (U.trans<|aV J _) (U.free J) (Fj U aa J) (BL ac) λZ I'=>⟨_,_,rfl,I'⟩
 .obtain ⟨v3,v4,rfl,I⟩:=z;obtain⟨xs,ps,sX,hX,hL,af,ok,ae⟩:=I;walk_at "r";exact q p X xs ps sX hp hX hL ok<|by lia
theorem Qj(F:aK K "_law_parts_of" "_law_parts_of" L8 f fd)(T:Bt K mg Ce Ci Cj Ck Ch Cd Cc Ca Cb Cf Cg)
  (ad:Fn P w K mg base aC "_law_reserve" 1 ["_law_cell","_law_k"]<|eX)
 :aF P w K mg base aC 2 f fd ["_law_cell","_law_many"]<|cM:=by
 refine F.ok Ve (by (intro _ _ _ _ h;cases h;subst_vars;rfl)) λax A outer s H vs Q E hr h=>?_
 have ay:=Ve.nd;refine' ⟨_,(aG ?_<|aG ?_<|aG (lR Q1 rfl ?_ ?_<|aG ?_<|aG ?_<|aG ?_<|aG (lR Q1 rfl ?_ ?_<|aG ?_<|Eg<|aG ?_<|Eg<|aG (oY (i:=9) Ve.nd rfl (by (first | exact Or.inl rfl | exact Or.inr rfl))<|oW B8 (Ik<|dG ?_<|dS ze ?_ ?_) ?_ λ_ _=>rfl)<|Eg<|aG (Ef<|AB Rc Rz Ry Gj ?_<|bW<|D9<|wR ?_ ?_<|dS AV ?_<|qJ JT rfl T.Wq RR ?_)<|bP<|oY (i:=0) Ve.nd rfl (by (first | exact Or.inl rfl | exact Or.inr rfl))<|dS Ll ?_ ?_) ?_) ?_),?_⟩;walk_at "d";obtain⟨c,m,rfl,hm,q⟩:=h;walk_at "r";refine⟨bX<|by decide,λp hp=>?_⟩
 let VE:LI:=λi σ X=>L2.X7 λc' v5 v6 v7 v8 v9 J=>σ=[some<|.int c',some<|.int m,some<|.ref p,some<|.int c,v5,v6,v7,v8,v9,J]/\Em p H X i
 refine tT (by lia)<|tK VE ⟨_,_,_,_,_,_,_,rfl,[],[],aV hp _,aS,pC.nil,(λb h=>by cases h),(λq h=>by cases h),rfl⟩ (λi σ X hi z=>?_) λσ X z=>?_
 .obtain ⟨c',v5,v6,v7,v8,v9,J,rfl,I⟩:=z;obtain⟨xs,ps,sX,hX,hL,ap,ok,ag⟩:=id I;walk_at "r";refine⟨dU _,λp2 ab=>⟨by decide,.inr ⟨by decide,by decide⟩,⟨by decide,by decide⟩,?_⟩⟩;have h2:=QU c' (show(2:Int)≠0 by decide);have av:=QW c' (show(0:Int)<2 by decide);obtain⟨vn,ah,hv⟩:∃vn:Nat,1+c'%2*2=(vn:Int)/\(vn=1∨vn=3):=⟨(1+c'%2*2).toNat,by lia,by lia⟩
  rw[ah];clear h2 av ah;have s2:=aV ab<|.lst []
  let VS:LI:=λj σ Y=>L2.X7 λc' v7 v8 v9 J ys pls=>σ=[some<|.int c',some<|.int m,some<|.ref p,some<|.int c,some<|.int<|0+(i:Int),some<|.ref p2,v7,v8,v9,J]/\aB X Y/\Y p2=some (.lst ys)/\qG Y ys pls/\pls.length=j/\∀p∈pls,p.Ok
  refine tT (by lia)<|tK VS ⟨_,_,_,_,_,_,[],rfl,s2,aS,qG.nil,rfl,λp h=>by cases h⟩ (λj σ Y hj z=>?_) λσ Y z=>?_
  .obtain ⟨c',v7,v8,v9,J,ys,pls,rfl,sY,hY,U,aa,ac⟩:=z;have az:j<3:=by lia
   apply Fg (λc':Int=>[some<|.int c',some<|.int m,some<|.ref p,some<|.int c,some<|.int<|0+(i:Int),some<|.ref p2,v7,some<|.int<|0+(j:Int),v9,J]) λ_=>True
   .intro O;refine jQ ?_;walk_at "r";split
    .exact ⟨.inl ⟨by decide,by decide⟩,_,_,rfl,by lia,by lia,λn _=>O n trivial⟩
    .exact O c' trivial
   intro c1 _;refine jQ ?_;walk_at "r";refine⟨bX<|by decide,λq1 as=>⟨by decide,bM (aD.of aS) (HV c1) ?_⟩⟩;have s1:=aV as<|.lst [.str<|QQ "up",.str<|QQ "down",.str<|QQ "near",.str<|QQ "ring",.str<|QQ "table"];generalize upd Y q1 _=Y1 at s1⊢;refine jQ ?_;walk_at "r";obtain⟨wd,af,ai,au⟩:∃wd:Int,dX [V.int 4,V.int<|10^T6 59] (c1/10%2)=some (.int wd)/\0<wd/\wd<2^250:=by
    rcases Int.emod_two_eq (c1/10) with z|z
    .exact ⟨4,by rw[z];rfl,by decide,by decide⟩
    .exact ⟨10^T6 59,by rw[z];rfl,by decide,by decide⟩
   refine⟨⟨by decide,by decide⟩,bX<|by decide,λq2 ae=>⟨⟨by decide,by decide⟩,by decide,bM (aD.of aS) af ?_⟩⟩;have s3:=s1.trans<|aV ae<|.lst [.int 4,.int<|10^T6 59];generalize upd Y1 q2 _=Y2 at s3⊢;clear af ae s1;refine jQ ?_;walk_at "r";have h5:=QU c1 (show(5:Int)≠0 by decide);have h6:=QW c1 (show(0:Int)<5 by decide);have ao:wrd (c1%5).toNat=QQ "ring"↔(c1%5).toNat=3:=F1 (by lia) (by decide) _ rfl;generalize hd:decide (wrd (c1%5).toNat=QQ "ring")=d;have am:(c1%5).toNat=3->d=true:=λz=>by rw[<- hd];exact decide_eq_true<|ao.mpr z
   have hk:=QU (c1/5) (show(2:Int)≠0 by decide);have aw:=QW (c1/5) (show(0:Int)<2 by decide);have hy:=QU (c1/20) (show wd≠0 by lia);refine⟨.inl ⟨rfl,_,aD.of<|s3 _ _ hY⟩,⟨by decide,by decide⟩,by decide,⟨by decide,by decide⟩,ai,.inr ⟨_,rfl,bX<|by decide,λt ht=>?_⟩⟩;have s4:=s3.trans<|aV ht<|.tup [.str<|wrd (c1%5).toNat,.int<|c1/5%2,.int<|c1/20%wd+if d=true then 1 else 0];have ok:Pl.Ok ⟨(c1%5).toNat,(c1/5%2).toNat,c1/20%wd+if d=true then 1 else 0⟩:=⟨by show(c1%5).toNat<5;lia,by show(c1/5%2).toNat<2;lia,by
    show 0<=c1/20%wd+if d=true then 1 else 0
    split<;>lia,λh=>by
    show 1<=c1/20%wd+if d=true then 1 else 0
    rw[Z9<|am h];lia⟩
   have aj:upd Y2 t (.tup [.str<|wrd (c1%5).toNat,.int<|c1/5%2,.int<|c1/20%wd+if d=true then 1 else 0]) t=some (.tup<|xS ⟨(c1%5).toNat,(c1/5%2).toNat,c1/20%wd+if d=true then 1 else 0⟩):=by
    rw[aS];unfold xS;rw[show(((c1/5%2).toNat:Nat):Int)=c1/5%2 by lia]
   refine⟨p2,ys,_,rfl,rfl,s4 _ _ hY,oZ<|by rw[U.len,aa];lia,⟨by decide,by decide⟩,⟨ai,au⟩,_,_,_,_,_,ys++[.ref t],pls++[_],rfl,(sY.trans s4).upd ab,aS,((U.mono s4).upd<|s4 _ _ hY).snoc (by rw[bF λz=>by rw[z,s3 _ _ hY] at ht;cases ht];exact aj),by rw[aU,aa];rfl,λq' aq=>?_⟩;rcases fG.mp aq with z|z
   .exact ac q' z
   .rw [bY.mp z];exact ok
  .obtain ⟨c',v7,v8,v9,J,ys,pls,rfl,sY,hY,U,aa,ac⟩:=z;walk_at "r";have h3:pls.length=vn:=by lia
   refine⟨.inl ⟨rfl,_,aD.of<|sY _ _ hX⟩,?_⟩;exact Em.snoc hp I (by lia) sY ab (q:=(decide<|pls.length≠1,pls)) ⟨ys,hY,U,λz=>by have z:=of_decide_eq_true z;lia⟩ (rH rfl (by lia) (by lia) ac) λZ I'=>⟨_,_,_,_,_,_,_,rfl,I'⟩
 .obtain ⟨c',v5,v6,v7,v8,v9,J,rfl,I⟩:=z;obtain⟨xs,ps,sX,hX,hL,ap,ok,ag⟩:=I;walk_at "r";exact q p X xs ps sX hp hX hL ok<|by lia
theorem Qk(F:aK K "_law_shown" "_law_shown" LC f fd)(T:Bt K mg Ce Ci Cj Ck Ch Cd Cc Ca Cb Cf Cg)
 :aF P w K mg base aC 1 f fd ["_law_paper_here","_law_answers"]<|hJ:=by
 refine F.ok OP (by (intro _ _ _ _ h;cases h;subst_vars;rfl)) λad A outer s H vs Q E hr h=>?_
 have ae:=OP.nd;refine' ⟨_,(aG (lR Q1 rfl ?_ ?_<|aG ?_<|aG ?_<|bP<|kN (tM (wU hr.units) ?_ ?_ rfl) ?_ ?_) ?_),?_⟩;walk_at "d";obtain⟨l,l2,ds,pr,ts,rfl,hl,Z,hT,hn,U,q⟩:=h;walk_at "r";refine⟨l,_,rfl,.inl<|aD.of hl,?_⟩;have ac:(nL ds).length=ds.length:=by unfold nL;rw[aM]
 rw[ac];have O:∀{i:Nat} {p:Nat},ds[i]?=some p->dX (nL ds) (i:Int)=some (.int (p:Nat)):=fun {i p} h=>cK (by lia)<|by unfold nL;rw[Int.toNat_natCast,dB,h];rfl
 let VE:LI:=λi σ X=>L2.X3 λv2 v3 v4=>σ=[some<|.ref l,some<|.ref l2,v2,v3,v4]/\aB H X
 refine tT (by lia)<|tK VE ⟨_,_,_,rfl,.refl _⟩ (λi σ X hi z=>?_) λσ X z=>?_
 .obtain ⟨v2,v3,v4,rfl,J⟩:=z;have aa:i+1<ds.length:=by lia
  have e1:=bV (l:=ds) (i:=i) (by lia);have e2:=bV (l:=ds) (i:=i+1) aa;have hm:=U i _ _ e1 e2;generalize ds[i]=p at e1 hm;generalize ds[i+1]=p' at e2 hm;rw[Rl];walk_at "r";refine bM (aD.of<|J _ _ hl) (O e1)<|bM (aD.of<|J _ _ hl) (O e2) ⟨_,_,rfl,_,_,rfl,?_⟩;refine⟨bX<|by decide,λt ht=>?_⟩;dsimp only;rw[show(if (p':Int)>(p:Int) then(p':Int) else p)=((max p p':Nat):Int) by split<;>lia,show(if (p':Int)<(p:Int) then(p':Int) else p)=((min p p':Nat):Int) by split<;>lia,show decide ((p':Int)<p)=decide (p'<p) by by_cases z:p'<p<;>simp[z]];have s2:=aV ht<|.tup [.int ((max p p':Nat):Int),.int ((min p p':Nat):Int),.bl<|decide<|p'<p];have hd:=(hT.keep (H':=upd X t<|.tup [.int ((max p p':Nat):Int),.int ((min p p':Nat):Int),.bl<|decide<|p'<p]) λ_ _ z=>s2 _ _<|J _ _ z).dp (K:=K);refine Fy (Enc.three Enc.int Enc.int Enc.bl) (by decide) (a:=(((max p p':Nat):Int),((min p p':Nat):Int),decide<|p'<p)) (bs:=pr.map λe=>((e.1:Int),(e.2.1:Int),e.2.2)) (Ih (aY.of aS)<|.cons (F5 _)<|.cons (F5 _)<|.cons (DY _) .nil) (Jr (aD.of<|s2 _ _<|J _ _ Z)<|by rw[AO];exact hd) ?_;have ab:(((max p p':Nat):Int),((min p p':Nat):Int),decide<|p'<p)∈pr.map λe:A3=>((e.1:Int),(e.2.1:Int),e.2.2):=xR.mpr ⟨_,hm,rfl⟩;simp only[ab,decide_true,Bool.not_true,if_true];refine cY ?_;rw[Z8<|by decide];exact⟨_,_,_,rfl,J.trans s2⟩
 .obtain ⟨v2,v3,v4,rfl,J⟩:=z;walk_at "r";exact q X J
theorem On(F:aK K "_law_flaw" "_law_flaw" Kx f fd)(T:Bt K mg Ce Ci Cj Ck Ch Cd Cc Ca Cb Cf Cg)
  (aa:Fn P w K mg base aC "_law_whole" 1 ["_law_found"]<|hE)
 :aF P w K mg base aC 2 f fd ["_law_goes_here","_law_found"]<|jF:=by
 refine F.ok V0 (by (intro _ _ _ _ h;cases h;subst_vars;rfl)) λac A outer s H vs Q E hr h=>?_
 have ad:=V0.nd;refine' bN 7 (bP ?_) λ_ U _=>bN 6 (aG ?_ U) λ_ U _=>bN 5 (aG ?_ U) λ_ U _=>bN 4 (aG ?_ U) λ_ U _=>bN 3 (aG ?_ U) λ_ U _=>bN 2 (aG (lR Q1 rfl (E6 ?_) ?_ ?_) U) λ_ U _=>⟨_,(aG (kN (PW.pt<|C1 (AE<|tI<|mH Be rfl T.VB Q7<|dG ?_<|AW rfl T.We Sa) ?_) ?_ ?_)<|aG (kN (PW.pt<|C1 (AE<|tI<|mH Be rfl T.VB Q7<|dG ?_<|AW rfl T.We Sa) ?_) ?_ ?_) U),?_⟩
 walk_at "d";obtain⟨l,t,n,m,rfl,hM,hn,hF,q⟩:=h;walk_at "r";obtain⟨t3,w,a,b,c,O,h3,ha,hb,hc,Z,hw⟩:=hF;obtain⟨rs,hl,VC,hm⟩:=id hM;have ab:∀i,i<n->∃r,dX rs (i:Int)=some (.ref r)/\H r=some (.lst<|(QL n).map λq=>V.bl<|m i q):=λi hi=>by
  obtain⟨r,x,y⟩:=hm i hi;exact⟨r,cK (by lia) (by rw[Int.toNat_natCast];exact x),y⟩
 have J:∀{i j:Nat} {Q':VK},i<n->j<n->Q' (.bl<|m i j) H->mU K (.ref l) (.int i) H λx H1=>mU K x (.int j) H1 Q':=fun {i j Q'} hi hj k=>by
  obtain⟨r,x,y⟩:=ab i hi;exact bM (aD.of hl) x<|bM (aD.of y) (xU hj) k
 have i0:dX [V.str<|QQ "flaw",.str w,.ref t3] 0=some (.str<|QQ "flaw"):=cK (by decide) rfl;have i1:dX [V.str<|QQ "flaw",.str w,.ref t3] 1=some (.str w):=cK (by decide) rfl;have i2:dX [V.str<|QQ "flaw",.str w,.ref t3] 2=some (.ref t3):=cK (by decide) rfl;refine⟨.ref t,.ty "tuple",_,true,rfl,rfl,.tup O,T.VG,?_⟩;rw[Z8<|by decide];refine⟨t,_,rfl,.inr<|aY.of O,?_⟩;rw[Z8 λz=>z rfl];refine cJ (aY.of O) i0 ?_;rw[Iw,decide_eq_true rfl];refine cY ?_;rw[Z8<|by decide];refine cJ (aY.of O) i2 ⟨.ref t3,.ty "tuple",_,true,rfl,rfl,.tup h3,T.VG,?_⟩;rw[Z8<|by decide];refine cJ (aY.of O) i2 ⟨t3,_,rfl,.inr<|aY.of h3,?_⟩;rw[Z8 λz=>z rfl];refine bL ?_;walk_at "r";refine cJ (aY.of O) i2 ?_
 let VE:LI:=λi σ X=>L2.X4 λv3 v4 v5 v6=>σ=[some<|.ref l,some<|.ref t,v3,v4,v5,v6]/\X=H
 refine Cu (aY.of h3) VE ⟨_,_,_,_,rfl,rfl⟩ (λi σ X _ z=>?_) (λi u σ X hu z=>?_) λσ X z=>?_
 .obtain ⟨_,_,_,_,_,e⟩:=z;rw[e];exact aY.of h3
 .obtain ⟨v3,v4,v5,v6,rfl,rfl⟩:=z;obtain⟨k,rfl,hk⟩:∃k:Nat,u=.int k/\k<n:=by
   have:=gO hu;simp only[cL,mK,or_false] at this;rcases this with rfl|rfl|rfl
   .exact ⟨a,rfl,ha⟩
   .exact ⟨b,rfl,hb⟩
   .exact ⟨c,rfl,hc⟩
  walk_at "r";refine⟨_,rfl,cY ?_⟩;rw[Z8<|by decide,Z8<|by lia];refine⟨l,_,rfl,.inl<|aD.of hl,?_⟩;rw[VC,Z8<|by lia];exact⟨_,_,_,_,rfl,rfl⟩
 obtain⟨v3,v4,v5,v6,rfl,rfl⟩:=z;walk_at "r";refine bL ?_;walk_at "r";refine cJ (aY.of O) i2 ?_;refine xZ (aY.of h3) rfl ?_;have d1:QQ "both"≠QQ "self":=by decide+kernel
 have d2:QQ "tie"≠QQ "self":=by decide+kernel
 have d3:QQ "tie"≠QQ "both":=by decide+kernel
 walk_at "r";refine bL ?_;walk_at "r";refine cJ (aY.of O) i1 ?_;rcases hw with ⟨rfl,e1,e2⟩|⟨rfl,e1,e2,e4⟩|⟨rfl,e1,e2,e4,e5,e6⟩
 .rw [Gf,decide_eq_true rfl];refine cY ?_;subst e1 e2;rw[Z9 rfl,Z9 rfl,Z9 rfl];refine J ha ha ?_;rw[Z];exact q
 .rw [Gf,decide_eq_false d1];refine cY ?_;rw[Z8<|by decide];refine bL ?_;walk_at "r";refine cJ (aY.of O) i1 ?_;rw[Gf,decide_eq_true rfl];refine cY ?_;rw[Z9 rfl,Z9<|by lia,Z9<|by lia];refine J ha hb<|cY ?_;rw[Z,Z9 rfl];refine J hb ha ?_;rw[e4];exact q
 .rw [Gf,decide_eq_false d2];refine cY ?_;rw[Z8<|by decide];refine bL ?_;walk_at "r";refine cJ (aY.of O) i1 ?_;rw[Gf,decide_eq_false d3];refine cY ?_;rw[Z8<|by decide];refine bL ?_;walk_at "r";refine cJ (aY.of O) i1 ?_;rw[Iw,decide_eq_true rfl];refine cY ?_;rw[Z8<|by decide,Z8<|by lia,Z8<|by lia,Z8<|by lia];refine bL ?_;walk_at "r";refine J ha hb<|cY ?_;rw[Z,Z9 rfl];refine J ha hc ?_;rw[e5];refine cY ?_;rw[Z9 rfl];refine J hc hb<|cY ?_;rw[e6];exact q
theorem Qy(F:aK K "_law_paper" "_law_paper" Lz f fd)(T:Bt K mg Ce Ci Cj Ck Ch Cd Cc Ca Cb Cf Cg)
 :aF P w K mg base aC 1 f fd ["_law_goes_here","_law_counts_here"]<|hU:=by
 refine F.ok Vp (by (intro _ _ _ _ h;cases h;subst_vars;rfl)) λag A outer s H vs Q E hr h=>?_
 have ai:=Vp.nd;refine' bN 2 (bP<|nK<|Ba rfl (k:=2) (js:=[]) (N':=["_law_count","_law_place"]) (by rfl) (KY<|mH qA rfl T.VV R3<|bW<|we (js:=[1]) (N:=["_law_counts_here"]) rfl ?_ λ_ _ _ _=>(D9<|dG (oW (tG K) (pv 1) (pv 0) λ_ _=>rfl)<|pv 0)) (λ_ _ _ _=>vv (n:=2) K rfl<|IC (qI (i:=0) (show(["_law_count","_law_place"]:List Q3).Nodup by decide+kernel) rfl<|by (first | exact Or.inl rfl | exact Or.inr rfl))<|IC (qI (i:=1) (show(["_law_count","_law_place"]:List Q3).Nodup by decide+kernel) rfl<|by (first | exact Or.inl rfl | exact Or.inr rfl)) KW) (λ_ _ _ _=>C5) λ_ _ _ _=>(pv 1)) λ_ dZ _=>⟨_,(aG ?_<|aG ?_ dZ),?_⟩
 walk_at "d";obtain⟨l,l2,n,m,rfl,hM,hn,U,q0,q1⟩:=h;walk_at "r";obtain⟨rs,hl,VC,hm⟩:=id hM;refine⟨l,_,rfl,.inl<|aD.of hl,?_⟩;rw[VC];have J:∀{i:Nat},i<n->dX ((QL n).map λq=>V.int (cQ n m q:Nat)) (i:Int)=some (.int (cQ n m i:Nat)):=λh=>xU h;refine tT (by lia)<|tK (λi σ X=>L2.X2 λv3 v4=>σ=[some<|.ref l,some<|.ref l2,some<|.int n,v3,v4]/\X=H/\∀p,p<i->∀q,q<n->m p q=decide (cQ n m p<cQ n m q)) ⟨_,_,rfl,rfl,λp h=>absurd h<|TF _⟩ (λi σ X hi z=>?_) λσ X z=>?_
 .obtain ⟨v3,v4,rfl,rfl,hA⟩:=z;have ab:i<n:=by lia
  rw[Rl];walk_at "r";refine tT (by lia)<|tK (λj σ Y=>∃v4,σ=[some<|.ref l,some<|.ref l2,some<|.int n,some<|.int (i:Int),v4]/\Y=X/\∀q,q<j->m i q=decide (cQ n m i<cQ n m q)) ⟨_,rfl,rfl,λp h=>absurd h<|TF _⟩ (λj σ X hj z=>?_) λσ X z=>?_
  .obtain ⟨v4,rfl,rfl,hB⟩:=z;have O:j<n:=by lia
   obtain⟨r,x,y⟩:=hm i ab;rw[Rl];walk_at "r";refine bM (aD.of hl) (cK (by lia)<|by rw[Int.toNat_natCast];exact x)<|bM (aD.of y) (xU O)<|bM (aD.of U) (J ab)<|bM (aD.of U) (J O) ?_;rw[K2,Ku];refine cY ?_;by_cases hd:m i j=decide ((cQ n m i:Int)<cQ n m j)
   .rw [Z8<|by rw[decide_eq_true hd];decide];refine⟨_,rfl,rfl,λq hq=>?_⟩;by_cases z:q=j
    .rw [z,hd];by_cases y:cQ n m i<cQ n m j<;>simp[y]
    .exact hB q (by lia)
   .rw [Z9<|by rw[decide_eq_false hd];rfl];exact q0 λar=>hd (by rw[ar i ab j O];by_cases y:cQ n m i<cQ n m j<;>simp[y])
  .obtain ⟨v4,rfl,rfl,hB⟩:=z;walk_at "r";refine⟨_,_,rfl,λp hp q hq=>?_⟩;by_cases z:p=i
   .rw [z];exact hB q<|by lia
   .exact hA p (by lia) q hq
 .obtain ⟨v3,v4,rfl,rfl,hA⟩:=z;walk_at "r";refine bL ?_;walk_at "r";have ar:Bi n m:=λp hp q hq=>hA p (by lia) q hq;refine xI (by lia) (λj ys σ Y=>L2.X2 λv as=>σ=[v,some<|.ref l2]/\aB X Y/\ys=(as.map λz:mN=>V.ref z.1)/\as.map (·.2)=((QL j).map λk=>((cQ n m k:Int),(k:Int)))/\∀z∈as,aY K Y z.1 [.int z.2.1,.int z.2.2]) ⟨_,[],rfl,.refl _,rfl,rfl,λz h=>by cases h⟩ (λj ys σ Y z=>?_) (λj ys σ Y hj z=>?_) λys σ Y z p hp=>?_
  .obtain ⟨_,as,_,_,e,e2,_⟩:=z;have e3:=congrArg Rr e2;rw[aM,aM,cU] at e3;rw[e,aM,e3];exact aL _
  .obtain ⟨v,as,rfl,sY,rfl,e2,hz⟩:=z;have O:j<n:=by lia
   rw[Rl];walk_at "r";refine bM (aD.of<|sY _ _ U) (J O) ⟨bX<|by decide,λt ht=>?_⟩;have s2:=aV ht<|.tup [.int ((cQ n m j:Nat):Int),.int (j:Int)];refine .of hj ⟨_,as++[(t,(cQ n m j:Int),(j:Int))],rfl,sY.trans s2,by rw[cF];rfl,by rw[cF,e2,uL,cF];rfl,λz h=>?_⟩;rcases fG.mp h with y|y
   .exact s2.VZ (hz z y)
   .rw [bY.mp y];exact aY.of aS
  obtain⟨v,as,rfl,sY,rfl,e2,hz⟩:=z;rw[Int.toNat_natCast] at e2;have al:=congrArg Rr e2;rw[aM,aM,cU] at al;have s2:=aV hp<|.lst (as.map λz:mN=>V.ref z.1);refine⟨p,as,rfl,aD.of aS,λz h=>s2.VZ<|hz z h,by lia,λl3 ms af aa hs=>?_⟩;obtain⟨pm,pw,tn⟩:=Hl e2 aa hs;have s3:=aV af<|.lst (ms.map λz:mN=>V.ref z.1);have ah:ms.length=n:=by rw[aa.length_eq,al]
  refine qC (aD.of aS) (by rw[aM];lia) (λi ys σ Z=>L2.X2 λv w=>σ=[v,w]/\Z=upd (upd Y p<|.lst (as.map λz:mN=>V.ref z.1)) l3 (.lst (ms.map λz:mN=>V.ref z.1))/\ys=nL ((ms.take i).map λz=>z.2.2.toNat)) ⟨_,_,rfl,rfl,rfl⟩ (λi ys σ Z _ zz=>?_) (λi ys x σ Z hi hx zz=>?_) λys σ Z zz l4 ac=>?_
  .obtain ⟨_,_,_,e,e3⟩:=zz;refine⟨by rw[e];exact aD.of aS,?_⟩;rw[e3];unfold nL;rw[aM,aM,kP];exact Nat.min_le_left _ _
  .obtain ⟨v,w,rfl,rfl,rfl⟩:=zz;rw[dB] at hx;obtain⟨z,ae,rfl⟩:=EE.mp hx;have ad:=gO ae;walk_at "r";refine xZ (s3.VZ<|s2.VZ<|hz z<|aa.mem_iff.mp ad) rfl ?_;walk_at "r";refine dI.of hi ⟨_,_,rfl,rfl,?_⟩;rw[Eu,ae,cF];unfold nL;rw[cF,tn z ad];rfl
  obtain⟨v,w,rfl,rfl,rfl⟩:=zz;have S:=sY.trans<|s2.trans s3;rw[aM,pE<|aL _] at*;exact q1 ar l4 _ _ (S.trans<|aV ac _) (S.free ac) aS pm pw
theorem Qo(F:aK K "_law_dealt" "_law_dealt" K4 f fd)(T:Bt K mg Ce Ci Cj Ck Ch Cd Cc Ca Cb Cf Cg)
 :aF P w K mg base aC 1 f fd ["_law_order","_law_cell"]<|iq:=by
 refine F.ok Vk (by (intro _ _ _ _ h;cases h;subst_vars;rfl)) λap A outer s H vs Q E hr h=>?_
 have au:=Vk.nd;refine' bN 2 (bP ?_) λ_ dZ _=>bN 1 (aG ?_ dZ) λ_ dZ _=>⟨_,(aG (Gn (i:=2) Vk.nd rfl (Or.inl rfl) (js:=[]) (N:=[]) rfl ?_ λ_ _ _ _=>(Ik La)) dZ),?_⟩
 walk_at "d";obtain⟨ol,od,cl,rfl,aa,ah,ad,q⟩:=h;walk_at "r";refine⟨by decide,?_⟩;have d4:=QU cl (show(4:Int)≠0 by decide);have d5:=QW cl (show(0:Int)<4 by decide);obtain⟨k,hk,aj,aq⟩:∃k:Nat,1+cl%4=(k:Int)/\1<=k/\k<=4:=⟨(1+cl%4).toNat,by lia,by lia,by lia⟩
 rw[hk] at q⊢;rw[Int.toNat_natCast] at q;clear d4 d5 hk
 let VE:CI:=λi ys σ X=>L2.X2 λ(v:Option V) (ls:List QK)=>σ=[v]/\aB H X/\ys=ls.map V.ref/\ls.length=i/\ls.Nodup/\(∀b∈ls,H b=none)/\∀b∈ls,X b=some (.lst<|nL [])
 refine xI (by lia) VE ⟨_,[],rfl,.refl _,rfl,rfl,.nil,(λb J=>by cases J),λb J=>by cases J⟩ (λi ys σ X zz=>by obtain⟨_,ls,_,_,e,e2,_⟩:=zz;rw[e,aM,e2];exact aL _) ?_ ?_
 .rintro i ys σ X hi ⟨v,ls,rfl,sX,rfl,O,ab,Z,hls⟩;walk_at "r";refine⟨dU _,λl hl=>?_⟩;refine dI.of hi ⟨_,ls++[l],rfl,sX.new hl,by rw[cF];rfl,by rw[aU,O];rfl,?_,λb J=>?_,λb J=>?_⟩
  .refine Ep.mpr ⟨ab,List.Pairwise.cons (λ_ h=>by cases h) .nil,λa ha b J=>?_⟩;rw[bY.mp J];exact bR (hls a ha) hl
  .rcases fG.mp J with h|h
   .exact Z b h
   .rw [bY.mp h];exact sX.free hl
  .rcases fG.mp J with h|h
   .exact aV hl _ _ _ (hls b h)
   .rw [bY.mp h];exact aS
 rintro ys σ X ⟨v,hls,rfl,sX,rfl,O,ab,Z,U⟩ l hl;rw[Int.toNat_natCast] at O;obtain⟨H1,e1,s1,h1⟩:=aT hl<|.lst<|hls.map V.ref;rw[e1];clear e1;have S1:=sX.trans s1;have am:H l=none:=sX.free hl;have af:∀b∈hls,b≠l:=λb J=>bR (U b J) hl;have ae:∀b∈hls,H1 b=some (.lst<|nL []):=λb J=>s1 _ _<|U b J;clear U sX s1 hl;refine bL ?_;walk_at "r"
 let VS:LI:=λi σ X=>∃(v3:Option V),σ=[some<|.ref ol,some<|.int cl,some<|.ref l,v3]/\(∀b o,b∉hls->H1 b=some o->X b=some o)/\PL X hls (dlw k cl<|od.take i)
 refine xY (aD.of<|S1 _ _ aa) VS ⟨_,rfl,λb o _ h=>h,by rw[O,JD],λi b ys e1 e2=>?_⟩ (λi σ X _ z=>?_) (λi u σ X hu z=>?_) λσ X z=>?_
 .have hi:=(cV.mp e1).1;rw[JC<|by lia,List.take_zero] at e2;cases e2;exact ae b<|gO e1
 .obtain ⟨_,_,kX,_⟩:=z;exact aD.of<|kX _ _ (λz=>by rw[Z ol z] at aa;cases aa)<|S1 _ _ aa
 .obtain ⟨v3,rfl,kX,pl⟩:=z;obtain⟨p,hp,rfl⟩:∃p,od[i]?=some p/\u=.int (p:Nat):=by
   unfold nL at hu;rw[dB] at hu;obtain⟨p,h1,h2⟩:=EE.mp hu;exact⟨p,h1,h2.symm⟩
  have ao:=ad p<|gO hp;have hj:=Af (k:=k) (c:=cl) (p:=p) aj;have ac:=kX l _ (λz=>af l z rfl) h1;obtain⟨b,J⟩:∃b,hls[dst k cl p]?=some b:=⟨_,bV<|by rw[O];exact hj⟩
  have ag:=pl.at' _ _ _ J<|JC hj;have t0:=QU (cl/4/((p:Int)+1)+p) (show(k:Int)≠0 by lia);walk_at "r";have Xw:dst k cl p=((cl/4/((p:Int)+1)+p)%(k:Int)).toNat:=rfl;refine⟨⟨by decide,by decide⟩,⟨by lia,by lia⟩,l,_,rfl,.inl<|aD.of ac,?_⟩;rw[aM,O];refine⟨by lia,bM (aD.of ac) (cK (v:=.ref b) t0<|by rw[<- Xw,dB,J];rfl) ⟨show IU K "list" (.ref b) X from .inl ⟨rfl,_,aD.of ag⟩,?_⟩⟩;have as:(nL<|(od.take i).filter λp'=>dst k cl p'==dst k cl p).length<=30:=by
   unfold nL;rw[aM];exact cW (Gx _ _)<|by rw[kP];lia
  have ht:od.take (i+1)=od.take i++[p]:=by rw[Eu,hp];rfl
  refine⟨b,_,_,rfl,rfl,ag,oZ<|by lia,_,rfl,λb' o n h=>?_,by rw[JD,O],λk' l' ys e1 e2=>?_⟩
  .rw [bF λz=>n<|by rw[z];exact gO J];exact kX b' o n h
  .have ai:=(cV.mp e1).1;rw[JC<|by lia,ht,AN] at e2;cases e2;by_cases z:k'=dst k cl p
   .subst z;rw[J] at e1;cases e1;rw[aS,show[p].filter (λp'=>dst k cl p'==dst k cl p)=[p] by simp];unfold nL;rw[cF];rfl
   .rw [bF (λy=>z<|(List.getElem?_inj ai ab).mp<|by rw[e1,y,J]),show[p].filter (λp'=>dst k cl p'==k')=[] by simp;exact λy=>z y.symm,kH];exact pl.at' _ _ _ e1<|JC<|by lia
 .obtain ⟨v3,rfl,kX,pl⟩:=z;rw[show(nL od).length=od.length by unfold nL;rw[aM],pE<|aL _] at pl;dsimp only;refine bL ?_;walk_at "r";exact q l hls X (λb o h=>kX b o (λz=>by rw[Z b z] at h;cases h)<|S1 _ _ h) am Z (kX l _ (λz=>af l z rfl) h1) pl
theorem O8(F:aK K "_law_told" "_law_told" KG f fd)(T:Bt K mg Ce Ci Cj Ck Ch Cd Cc Ca Cb Cf Cg)
  (b2:Fn P w K mg base aC "_law_dealt" 1 ["_law_order","_law_cell"]<|iq)
  (Z:Fn P w K mg base aC "joined_apart" 8 ["asker","left","right","parts"]<|jG Ce<|aN.mk K Cd Cc Ca Cb Cf Cg)
  (ac:Fn P w K mg base aC "by_putting" 6 ["asker"]<|iM Az Ce<|aN.mk K Cd Cc Ca Cb Cf Cg)
  (ab:Fn P w K mg base aC "by_walking" 6 ["asker"]<|iM D5 Ce<|aN.mk K Cd Cc Ca Cb Cf Cg)
  (z:NV P w K mg base aC "by_pile" 10 ["asker","least","part"] (dF Ce<|aN.mk K Cd Cc Ca Cb Cf Cg) [.VA])
  (ad:Fn P w K mg base aC "by_pieces" 15 ["asker","wide","mouths","least"]<|eL Ce<|aN.mk K Cd Cc Ca Cb Cf Cg)
  (as:Fn P w K mg base aC "poured" 12 ["asker","pieces"]<|eY Ce<|aN.mk K Cd Cc Ca Cb Cf Cg)
 :aF P w K mg base aC 16 f fd ["_law_way","_law_asker","_law_order","_law_cell"]<|eS Ce<|aN.mk K Cd Cc Ca Cb Cf Cg:=by
 refine F.ok Vm (by (intro _ _ _ _ h;cases h;subst_vars;rfl)) λb8 A outer s H vs Q E hr h=>?_
 have bf:=Vm.nd;refine' bN 7 (aG (lR Q1 rfl ?_ ?_<|bP<|oY (i:=5) Vm.nd rfl (by (first | exact Or.inl rfl | exact Or.inr rfl))<|dS D8 ?_ ?_) ?_) λ_ U _=>bN 6 (aG ?_ U) λ_ U _=>bN 5 (aG ?_ U) λ_ U _=>bN 4 (aG ?_ U) λ_ U _=>bN 3 (aG ?_ U) λ_ U _=>bN 2 (aG (kN ?_ (bP<|nK<|Fc z hr.mn rfl cG ?_) ?_) U) λ_ U _=>bN 1 (aG ?_ U) λ_ U _=>⟨_,(aG ?_ U),?_⟩
 walk_at "d";obtain⟨c,pr,wy,cl,ol,od,post,rfl,st,aq,ai,hn,hw,w,am,ah,q⟩:=h;walk_at "r";have ag:od.length=c.n:=by rw[ai.length_eq,cU]
 have ax:∀p∈od,p<100:=λp O=>by have:=mL.mp<|ai.mem_iff.mp O;lia
 unfold wA at w;by_cases Yo:wy=0
 .rw [Z9<|by lia];rw[Z9 Yo] at w;exact⟨c,pr,_,rfl,st,by lia,w.bind,λl H' os pr' fr hl h1 s O=>q l H' os pr' fr hl h1 s O⟩
 rw[Z8<|by lia];rw[Z8 Yo] at w;refine bL ?_;walk_at "r";by_cases Yn:wy=1
 .rw [Z9<|by lia];rw[Z9 Yn] at w;exact⟨c,pr,_,rfl,st,by lia,w.bind,λl H' os pr' fr hl h1 s O=>q l H' os pr' fr hl h1 s O⟩
 rw[Z8<|by lia];rw[Z8 Yn] at w;refine bL ?_;walk_at "r";by_cases Ym:wy=2
 .rw [Z9<|by lia];rw[Z9 Ym] at w;have m9:=QU cl (show(5:Int)≠0 by decide);have b9:=QW cl (show(0:Int)<5 by decide);obtain⟨a1,ap⟩:∃a1:Nat,1+cl%5=(a1:Int):=⟨(1+cl%5).toNat,by lia⟩
  refine⟨by decide,?_⟩;rw[ap] at w⊢;rw[Int.toNat_natCast] at w;exact⟨c,pr,a1,0,c.n,.VA,_,rfl,st,.inr ⟨rfl,rfl,rfl⟩,dU _,by lia,by lia,w.bind,λl H' os pr' fr hl h1 s _ O=>q l H' os pr' fr hl h1 s O⟩
 rw[Z8<|by lia];rw[Z8 Ym] at w;refine bL ?_;walk_at "r";by_cases Yl:wy=3
 .rw [Z9<|by lia];rw[Z9 Yl] at w;refine⟨by decide,⟨by decide,by decide⟩,by decide,⟨by decide,by decide⟩,by decide,?_⟩;have m0:=QU cl (show(6:Int)≠0 by decide);have bd:=QW cl (show(0:Int)<6 by decide);have m3:=QU (cl/6) (show(3:Int)≠0 by decide);have ba:=QW (cl/6) (show(0:Int)<3 by decide);have m4:=QU (cl/18) (show(4:Int)≠0 by decide);obtain⟨a1,ap⟩:∃a1:Nat,1+cl%6=(a1:Int):=⟨(1+cl%6).toNat,by lia⟩
  obtain⟨d,hd⟩:∃d:Nat,2+cl/6%3=(d:Int):=⟨(2+cl/6%3).toNat,by lia⟩
  obtain⟨ls,hls⟩:∃ls:Nat,1+cl/18%4=(ls:Int):=⟨(1+cl/18%4).toNat,by lia⟩
  rw[ap,hd,hls] at w⊢;rw[Int.toNat_natCast,Int.toNat_natCast,Int.toNat_natCast] at w;exact⟨c,pr,a1,d,ls,_,rfl,st,by lia,by lia,by lia,by lia,by lia,w,am,λl H' os pr' fr hl h1 s O=>q l H' os pr' fr hl h1 s O⟩
 rw[Z8<|by lia];rw[Z8 Yl] at w;refine bL ?_;walk_at "r";have d4:=QU cl (show(4:Int)≠0 by decide);have d5:=QW cl (show(0:Int)<4 by decide);by_cases h4:wy=4
 .rw [Z9<|by lia];rw[Z9 h4] at w;refine⟨ol,od,cl,rfl,aq,by lia,ax,λl hls H1 s1 hl aa h1 pl=>?_⟩;have J:tot (dlw (1+cl%4).toNat cl od)=c.n:=by unfold tot;rw[<- Si,(F4<|by lia).length_eq,ag]
  have VD:=JD (1+cl%4).toNat cl od;exact⟨c,pr,l,hls,_,post,rfl,st.mono s1,h1,pl,by lia,by lia,by lia,w,am,λl2 H2 os pr2 f2 af h2 s2 _ O=>q l2 H2 os pr2 (s1.fr.trans f2) (s1.free af) h2 s2 O⟩
 rw[Z8<|by lia];rw[Z8 h4] at w;refine bL ?_;walk_at "r";refine⟨⟨by decide,by decide⟩,.inr ⟨by decide,by decide⟩,ol,od,_,rfl,aq,by lia,ax,λl hls H1 s1 hl aa h1 pl=>?_⟩;rw[show(1+(cl/4*4+1)%4).toNat=2 by lia] at pl;have aw:=st.mono s1;have J:tot (dlw 2 (cl/4*4+1) od)=c.n:=by unfold tot;rw[<- Si,(F4<|by decide).length_eq,ag]
 rw[FN] at pl J;generalize (dlw 2 (cl/4*4+1) od).getD 0 []=A at w pl J;generalize (dlw 2 (cl/4*4+1) od).getD 1 []=B at w pl J;obtain⟨a,b,rfl,ha,hb⟩:=pl.two;have na:=st.off<|aa a bH;have nb:=st.off<|aa b<|bK _ bH;have b7:A.length+B.length=c.n:=by simpa[tot] using J
 refine bL ?_;walk_at "r";refine⟨dU _,λpp aj=>?_⟩;obtain⟨H5,e5,s5,b5⟩:=aT aj<|.lst<|nL [];rw[show upd H1 pp (HO.lst [])=H5 from e5];clear e5;refine bL ?_;walk_at "r";refine bM (aD.of<|s5 _ _ h1) (cK (v:=.ref a) (by decide) rfl)<|bM (aD.of<|s5 _ _ h1) (cK (v:=.ref b) (by decide) rfl) ⟨by decide,?_⟩;have m5:=QU cl (show(5:Int)≠0 by decide);have be:=QW cl (show(0:Int)<5 by decide);obtain⟨P5,hP⟩:∃P5:Nat,1+cl%5=(P5:Int):=⟨(1+cl%5).toNat,by lia⟩
 rw[hP] at w⊢;rw[Int.toNat_natCast] at w;have b4:=aw.off aj;refine⟨c,pr,a,b,A,B,P5,_,rfl,aw.mono s5,s5 _ _ ha,s5 _ _ hb,na,nb,by lia,by lia,by lia,by lia,w.bind,λlo bc H6 out pr3 f6 bh az ao b6 b1 O=>?_⟩;have F6:Fr c.S H H6:=s1.fr.trans<|s5.fr.trans f6;have O:post (some out.flatten) pr3:=O;have bg:=ah _ _ O
 let VE:LI:=λi σ X=>L2.X2 λ(v6:Option V) (pq:QK)=>σ=[some<|.int wy,some<|.ref c.a,some<|.ref ol,some<|.int cl,some<|.ref l,some<|.ref pq,v6]/\aB H6 X/\X pq=some (.lst<|nL (out.take i).flatten)/\H pq=none
 refine xY (aD.of az) VE ⟨_,pp,rfl,.refl _,f6 _ _ (Ad.SA b4) b5,s1.free aj⟩ (λi σ X _ zz=>by obtain⟨_,_,_,e,_⟩:=zz;exact aD.of<|e _ _ az) ?_ ?_
 .rintro i x σ X hx ⟨v8,pq,rfl,sX,ae,b0⟩;rw[dB] at hx;obtain⟨b',au,rfl⟩:=EE.mp hx;have hi:=(cV.mp au).1;rw[ao.len] at hi;have av:=bV hi;have b3:=sX _ _<|ao.at' i b' _ au av;have ht:out.take (i+1)=out.take i++[out[i]]:=by rw[Eu,av];rfl
  have af:=congrArg Rr<|KN out<|i+1;rw[ht,aU,uM,aU,show[out[i]].flatten=out[i] by simp] at af;generalize out[i]=ys at b3 ht af;walk_at "r";refine⟨pq,b',_,_,rfl,rfl,ae,b3,bX<|by rw[kY,kY];lia,λp2 ay=>?_⟩;exact⟨_,p2,rfl,sX.new ay,by rw[aS,ht,uM,show[ys].flatten=ys by simp,D7],b1.free F6<|sX.free ay⟩
 rintro σ X ⟨v8,pq,rfl,sX,ae,b0⟩;rw[aM,ao.len,pE<|aL _] at ae;walk_at "r";exact q pq X _ pr3 (F6.trans sX.fr) b0 ae (b1.mono sX) O
theorem QF(F:aK K "_law_rule" "_law_rule" KD f fd)(T:Bt K mg Ce Ci Cj Ck Ch Cd Cc Ca Cb Cf Cg)
  (O:Fn P w K mg base aC "_law_rule_of" 5 ["_law_plain_here","_law_table_here"]<|fL K Cd Cc Ca Cb)
  (ab:Kl P w K mg base aC "ChainRule" Cg 1 ["self","rules"]<|eF Cg)
  (J:Kl P w K mg base aC "VoteRule" Cf 1 ["self","rules"]<|eF Cf)
 :aF P w K mg base aC 6 f fd ["_law_parts_here","_law_table_here"]<|iZ K Cd Cc Ca Cb Cf Cg:=by
 refine F.ok Vr (by (intro _ _ _ _ h;cases h;subst_vars;rfl)) λay A outer s H vs Q E hr h=>?_
 have b0:=Vr.nd;refine' bN 2 (aG ?_ ?_) λ_ dZ _=>⟨_,(aG ?_<|aG (lR Q1 rfl ?_ ?_<|bP<|kN ?_ ?_<|bP<|Ef<|AB Rc Rz Ry Gj ?_<|bW<|DM J hr.mn rfl cG<|bW<|we (js:=[1]) (N:=["_law_table_here"]) rfl ?_ λ_ _ _ _=>(uG O hr.mn rfl cG<|dG (pv 0)<|pv 1)) dZ),?_⟩
 walk_at "d";obtain⟨l,tb,xs,ps,L,tm,rfl,hl,hP,hM,ai,hL,ok,au,ac,q⟩:=h;walk_at "r";have h3:∀q'∈ps,q'.1=true->q'.2.length=3:=λq' hq=>by
  obtain⟨i,hi⟩:=SJ hq;obtain⟨a,_,ts,_,_,z⟩:=hP.get i q' hi;exact z
 refine⟨dU _,λp hp=>?_⟩
 let VE:LI:=λi σ X=>∃v3,σ=[some<|.ref l,some<|.ref tb,some<|.ref p,v3]/\IJ K Cd Cc Ca Cb L tm Cf p H X (ps.take i)
 refine xY (aD.of<|aV hp _ _ _ hl) VE ⟨_,rfl,[],aV hp _,aS,rfl,λi q h=>by simp at h⟩ (λi σ X _ z=>by obtain⟨_,_,_,s,_⟩:=z;exact aD.of<|s _ _ hl) (λi u σ X hu z=>?_) λσ X z=>?_
 .obtain ⟨v3,rfl,I⟩:=z;obtain⟨q0,a,am,rfl,ha⟩:=hP.at hu;have ah:=ok q0<|gO am;have sX:aB H X:=by obtain⟨_,s,_⟩:=id I;exact s
  have as:LP X a q0:=by
   obtain⟨ts,x,y,z⟩:=ha;exact⟨ts,sX _ _ x,y.mono sX,z⟩
  have ht:ps.take (i+1)=ps.take i++[q0]:=by rw[Eu,am];rfl
  have ax:=(cV.mp am).1;have aq:(ps.take i).length<2:=by rw[kP];lia
  have ao:∀q'∈ps.take i++[q0],q'.1=true->q'.2.length=3:=λq' hq=>h3 q' (by rw[<- ht] at hq;exact R8 hq);obtain⟨bq,pls⟩:=q0;obtain⟨ts,aa,ag,av⟩:=as;walk_at "r";have ad:∃ys,X p=some (.lst ys):=by obtain⟨ys,_,e,_⟩:=id I;exact⟨ys,e⟩
  obtain⟨az,ad⟩:=ad;have U:=ag.len;refine⟨a,ts,rfl,.inl<|aD.of aa,?_⟩;cases bq with
  |false=>
   obtain⟨pl,e⟩:=ah.one rfl;have e:pls=[pl]:=e;subst e;rw[Z9<|by rw[U];rfl];obtain⟨t,g1,g2⟩:=ag.get 0 pl rfl;refine⟨.inl ⟨rfl,_,aD.of ad⟩,bM (aD.of aa) (cK (by decide) g1) ⟨t,tb,pl,L,tm,rfl,g2,hM.mono<|aB.b sX,hL,ah.ok pl bH,λr H1 s1 hr=>?_⟩⟩;refine I.snoc hp s1 (.inl ⟨rfl,pl,rfl,hr⟩) aq ai ao λZ I'=>⟨_,rfl,?_⟩
   rw[ht];exact I'
  |true=>
   have aw:pls.length=3:=av rfl;rw[Z8<|by rw[U,aw];decide];refine⟨.inl ⟨rfl,_,aD.of ad⟩,?_⟩
   let VS:CI:=λj ys σ Y=>∃v,σ=[v,some<|.ref tb]/\aB X Y/\xJ K Cd Cc Ca Cb L tm Y ys (pls.take j)
   refine qC (aD.of aa) (by lia) VS ⟨_,rfl,.refl _,xJ.nil⟩ (λj ys σ Y hj zz=>?_) (λj ys x σ Y hj hx zz=>?_) λys σ Y zz p2 ac x dx hx af _=>?_
   .obtain ⟨_,_,sY,hS⟩:=zz;refine⟨aD.of<|sY _ _ aa,?_⟩;rw[hS.len,kP];exact Nat.min_le_left _ _
   .obtain ⟨v,rfl,sY,hS⟩:=zz;obtain⟨pl,t,e1,rfl,g2⟩:=ag.at hx;walk_at "r";refine⟨t,tb,pl,L,tm,rfl,sY _ _ g2,hM.mono<|aB.b<|sX.trans sY,hL,ah.ok pl<|gO e1,λr H1 s1 hr=>?_⟩;refine dI.of hj ⟨_,rfl,sY.trans s1,?_⟩;rw[Eu,e1];exact(hS.mono<|aB.b s1).snoc hr
   obtain⟨v,rfl,sY,hS⟩:=zz;rw[U,pE<|aL _] at hS;refine vmade (Q:=λv Z=>jL (V.ref p) [v] Z λ_ H1=>∃v3:Option V,[some<|V.ref l,some<|V.ref tb,some<|V.ref p,some<|V.ref a]=[some<|V.ref l,some<|V.ref tb,some<|V.ref p,v3]/\IJ K Cd Cc Ca Cb L tm Cf p H H1 (ps.take<|i+1)) aS hx af λl1 H1 s1 aj hI=>?_;have s2:=sY.trans<|(aV ac<|.lst ys).trans s1;refine I.snoc hp s2 (.inr ⟨rfl,l1,ys,hI,aj,hS.mono<|aB.b<|(aV ac<|.lst ys).trans s1⟩) aq ai ao λZ I'=>⟨_,rfl,?_⟩
   rw[ht];exact I'
 .obtain ⟨v3,rfl,ys,sX,hX,ae⟩:=z;rw[hP.len,pE<|aL _] at ae;have ap:=ae.len;dsimp only;refine bL ?_;walk_at "r";refine⟨p,ys,rfl,.inl<|aD.of hX,?_⟩;by_cases h1:ps.length=1
  .rw [Z9<|by rw[ap,h1];rfl];obtain⟨q0,rfl⟩:=List.length_eq_one_iff.mp h1;obtain⟨r,g1,g2⟩:=ae.get 0 q0 rfl;exact bM (aD.of hX) (cK (by decide) g1)<|q r X sX<|.inl ⟨q0,rfl,g2⟩
  .rw [Z8<|by rw[ap];lia];intro x dx hx af _;exact vmade hX hx af λl1 H1 s1 aj hI=>q x H1 (sX.trans s1)<|.inr ⟨by lia,l1,ys,hI,aj,ae.mono<|aB.b s1⟩
theorem Oh(F:aK K "_law_in_order" "_law_in_order" L7 f fd)(T:Bt K mg Ce Ci Cj Ck Ch Cd Cc Ca Cb Cf Cg)
  (O:Fn P w K mg base aC "so_manieth" 12 ["asker","many"]<|eV Ce<|aN.mk K Cd Cc Ca Cb Cf Cg)
  (ap:Fn P w K mg base aC "_law_picked" 2 ["_law_found","_law_many"]<|dO)
  (ai:Fn P w K mg base aC "_law_numbers" 2 ["_law_found","_law_due"]<|cD)
  (b1:Fn P w K mg base aC "_law_told" 16 ["_law_way","_law_asker","_law_order","_law_cell"]<|eS Ce<|aN.mk K Cd Cc Ca Cb Cf Cg)
  (aw:Fn P w K mg base aC "_law_shown" 1 ["_law_paper_here","_law_answers"]<|hJ)
  (Z:Mt P w K mg base aC Ce "answers" 1 ["self"]<|iA Ce)
  (J:J1 P w K mg base aC "Asker" Ce 1 ["self","row","rule","most"] (cE Ce) [.VA])
 :aF P w K mg base aC 17 f fd ["_law_row","_law_rule_here","_law_due","_law_cell"]<|eK K Cd Cc Ca Cb Cf Cg:=by
 refine F.ok Vf (by (intro _ _ _ _ h;cases h;subst_vars;rfl)) λba A outer s H vs Q E hr h=>?_
 have bg:=Vf.nd;refine' bN 4 (bP<|nK<|Ed (K9 hr.units) ?_ ?_<|mG _) λ_ dZ _=>bN 3 (aG (oY (i:=7) Vf.nd rfl (by (first | exact Or.inl rfl | exact Or.inr rfl))<|uG O hr.mn rfl cG<|dG (JA J hr.mn rfl cG ?_) ?_) dZ) λ_ dZ _=>bN 2 (aG ?_ dZ) λ_ dZ _=>bN 1 (aG (kN (tM (K9 hr.units) ?_ ?_<|mG _) ?_ ?_) dZ) λ_ dZ _=>⟨_,(aG (lR Q1 rfl ?_ ?_<|aG (oY (i:=5) Vf.nd rfl (by (first | exact Or.inl rfl | exact Or.inr rfl))<|JA J hr.mn rfl cG ?_)<|Eg<|aG ?_<|Eg<|bP ?_) dZ),?_⟩
 walk_at "d";obtain⟨rw,ru,dl,cl,xs,gb,od,rfl,af,hn,hB,U,hA,aa,ao,q⟩:=h;walk_at "r";have aq:od.length=xs.length:=by rw[aa.length_eq,cU]
 let VE:LI:=λi σ X=>L2.X4 λv4 v5 v6 v7=>σ=[some<|.ref rw,some<|.ref ru,some<|.ref dl,some<|.int cl,v4,v5,v6,v7]/\aB H X
 refine tT (by decide)<|tK VE ⟨_,_,_,_,rfl,.refl _⟩ (λi σ X hi z=>?_) λσ X z=>?_
 .obtain ⟨v4,v5,v6,v7,rfl,sX⟩:=z;have ay:i<6:=by have:=hi;lia
  rw[Rl];walk_at "r";intro x dx hx ab _;refine IZ (R:=⟨K,Cd,Cc,Ca,Cb,Cf,Cg⟩) hx ab (sX _ _ af) (AF hB<|aB.b sX) λH1 c e1 e2 e3 hS s1 st=>?_;have av:=s1 _ _<|sX _ _ U;refine jQ ?_;walk_at "r";have ad:∀k p q,q<p->p<c.n->tE (kR xs.length gb) false k p q=c.an k p q:=λk p q h1 h2=>by
   rw[e1] at h2;show decide ((cQ xs.length gb p:Int)<cQ xs.length gb q)=c.bf p q;rw[e2,hA p h2 q<|by lia];by_cases z:cQ xs.length gb p<cQ xs.length gb q<;>simp[z]
  have w:=wz (G:=grd) (wy:=i) (cl:=cl) ad ay (by lia) (by rw[e1];exact aa) ao;refine⟨c,[],i,cl,dl,od,_,by rw[e3],st,av,by rw[e1];exact aa,by lia,ay,w,(λpr' z=>by cases z.1),(λos pr' z=>by cases z.1;lia),λl H2 os pr' fr hl h1 ac hp=>?_⟩;obtain⟨e4,b7⟩:=hp;cases e4;have s2:aB H H2:=λb o e=>fr _ _ (hS b o<|sX _ _ e)<|s1 _ _<|sX _ _ e;refine⟨l,dl,_,od,rfl,h1,s2 _ _ U,rfl,by lia,cY ?_⟩;rw[Z8<|by decide];refine jQ ?_;walk_at "r";split
  .rename_i h4;obtain⟨ts,WO,hT⟩:=ac.WO;have ah:=ac.ha;rw[e3] at ah;refine ah.U9 (by walk_at "l") ⟨x,c.rl,c.ru,c.tl,.VA,_,ts,rfl,ah,WO,λl3 H3 s3 bd h3=>?_⟩;refine⟨dl,l3,od,pr',ts,rfl,s3 _ _<|s2 _ _ U,h3,hT.keep λ_ _ z=>s3 _ _ z,by lia,Fh<|b7<|by lia,λH4 s4=>cY ?_⟩;rw[Z8<|by decide];exact⟨_,_,_,_,rfl,s2.trans<|s3.trans s4⟩
  .exact ⟨_,_,_,_,rfl,s2⟩
 .obtain ⟨v4,v5,v6,v7,rfl,sX⟩:=z;dsimp only
  first|refine bL ?_|refine jQ ?_
  walk_at "r";refine⟨dU _,λp hp=>?_⟩;have s1:=sX.trans<|aV hp<|.lst [];refine Ab Enc.int.list (by decide) (a:=od.map λp:Nat=>(p:Int)) (b:=[]) (by rw[show nL od=(od.map λp:Nat=>(p:Int)).map V.int by unfold nL;rw[AO];rfl] at U;exact Eb<|aD.of<|s1 _ _ U) (Eb (xs:=[])<|aD.of aS)<|cY ?_;by_cases h0:od=[]
  .rw [Z9<|by rw[h0];rfl];exact q _ s1
  have bh:0<xs.length:=by
   rw[<- aq];exact List.length_pos_iff.mpr h0
  rw[Z8<|by simp[h0]];generalize upd X p (HO.lst [])=X1 at s1
  first|refine bL ?_|refine jQ ?_
  walk_at "r";refine⟨dl,_,rfl,.inl<|aD.of<|s1 _ _ U,?_⟩;rw[show(nL od).length=xs.length by unfold nL;rw[aM,aq]];have m1:=QU cl (show(xs.length:Int)≠0 by lia);have m2:=QW cl (show(0:Int)<xs.length by lia);obtain⟨m,em⟩:∃m:Nat,cl%(xs.length:Int)=m:=⟨(cl%(xs.length:Int)).toNat,by lia⟩
  rw[em] at m1 m2⊢;have hm:m<xs.length:=by lia
  refine⟨by lia,?_⟩
  first|refine bL ?_|refine jQ ?_
  walk_at "r";intro x dx hx ab _;refine IZ (R:=⟨K,Cd,Cc,Ca,Cb,Cf,Cg⟩) hx ab (s1 _ _ af) (AF hB<|aB.b s1) λH1 c e1 e2 e3 hS s2 st=>?_;obtain⟨bb,am⟩:∃bb,bb=decide (c.n-1-m<m):=⟨_,rfl⟩
  have ad:∀k p q,q<p->p<c.n->tE (kR xs.length gb) bb k p q=c.Ws bb k p q:=λk p q h1 h2=>by
   rw[e1] at h2;have z1:decide ((cQ xs.length gb p:Int)<cQ xs.length gb q)=c.bf p q:=by
    rw[e2,hA p h2 q<|by lia];by_cases z:cQ xs.length gb p<cQ xs.length gb q<;>simp[z]
   show cond bb (!decide ((cQ xs.length gb p:Int)<cQ xs.length gb q)) (decide<|(cQ xs.length gb p:Int)<cQ xs.length gb q)=cond bb (!c.bf p q) (c.bf p q);rw[z1]
  have w:=qW (κ:=kR xs.length gb) (bb:=bb) (m:=m) ad (by lia) (by lia);refine⟨c,[],m,bb,_,by rw[e3],am,by cases bb<;>exact st,by lia,by lia,w,λo pr' z=>?_,λt l1 l2 y a A B H2 pr' fr ht be bi h1 h2 h3 sA sB ac hp au=>?_⟩
  .obtain ⟨a,x',rest,e,_,p,_⟩:=z;exact⟨a,x',rest,e,p⟩
  obtain⟨a',x',rest,e,aj,pm,pw⟩:=hp;cases e;obtain⟨pA,pB⟩:=au rest pm;rw[e1] at pm aj am;obtain⟨q1,q2,q3⟩:=za am hm aj pm pw aa ao pA pB;have s3:aB H H2:=λb o e=>fr _ _ (hS b o<|s1 _ _ e)<|s2 _ _<|s1 _ _ e;clear au pA pB pm pw aj w ad fr st ac hS s2 s1 hx ab hp
  first|refine bL ?_|refine jQ ?_
  walk_at "r";refine⟨t,l1,l2,y,m,_,_,rfl,h1,h2,h3,λp1 H3 s4 b8 h4=>?_⟩;have s5:=s3.trans s4;have ax:=s4 _ _ h2;have as:=s4 _ _ h3;rw[D3] at ax as;refine C4 (aD.of<|s5 _ _ U) λv1 b2=>?_;rw[CG<|by lia];have t1:=aV b2<|.lst<|(nI<|od.take m).map V.int;refine⟨v1,_,rfl,aD.of aS,by rw[aM,kP];lia,λv2 bc b5 p2 w2=>?_⟩;have b4:=JB p2 w2 q1 sA;subst b4;have t2:=t1.trans<|aV b5<|.lst<|(nI A).map V.int;have ae:upd (upd H3 v1<|.lst<|(nI<|od.take m).map V.int) v2 (.lst<|(nI A).map V.int) v2=some (.lst<|(nI A).map V.int):=aS;generalize upd (upd H3 v1 _) v2 _=H4 at t2 ae⊢;refine bM (aD.of<|t2 _ _<|s5 _ _ U) (cK (v:=.int (y:Nat)) (by lia)<|by unfold nL;rw[Int.toNat_natCast,dB,q2];rfl) ?_;refine C4 (aD.of<|t2 _ _<|s5 _ _ U) λv3 az=>?_;rw[xw<|by lia];have t3:=t2.trans<|aV az<|.lst<|(nI<|od.drop<|m+1).map V.int;have ag:=aV az (.lst<|(nI<|od.drop<|m+1).map V.int) _ _ ae;refine⟨v3,_,rfl,aD.of aS,by rw[aM,lC];lia,λv4 b9 b0 p4 w4=>?_⟩;have b6:=JB p4 w4 q3 sB;subst b6;have t4:=t3.trans<|aV b0<|.lst<|(nI B).map V.int;have g2:=aV b0 (.lst<|(nI B).map V.int) _ _ ag;have g4:upd (upd H4 v3<|.lst<|(nI<|od.drop<|m+1).map V.int) v4 (.lst<|(nI B).map V.int) v4=some (.lst<|(nI B).map V.int):=aS;generalize upd (upd H4 v3 _) v4 _=H5 at t4 g2 g4⊢;refine⟨bX<|by decide,λv5 b3=>?_⟩;have u5:=aV b3<|.lst [.ref v2,.int (y:Nat),.ref v4];exact zc (u5 _ _<|t4 _ _ h4) aS (u5 _ _<|t4 _ _ ax) (u5 _ _<|t4 _ _ as) (u5 _ _ g2) (u5 _ _ g4)<|q _<|s5.trans<|t4.trans u5
theorem O5(F:aK K "_law_once" "_law_once" KA f fd)(T:Bt K mg Ce Ci Cj Ck Ch Cd Cc Ca Cb Cf Cg)
  (Z:Fn P w K mg base aC "_law_picked" 2 ["_law_found","_law_many"]<|dO)
  (ac:Fn P w K mg base aC "_law_told" 16 ["_law_way","_law_asker","_law_order","_law_cell"]<|eS Ce<|aN.mk K Cd Cc Ca Cb Cf Cg)
  (O:Fn P w K mg base aC "so_manieth" 12 ["asker","many"]<|eV Ce<|aN.mk K Cd Cc Ca Cb Cf Cg)
  (ae:Fn P w K mg base aC "_law_numbers" 2 ["_law_found","_law_due"]<|cD)
  (J:J1 P w K mg base aC "Asker" Ce 1 ["self","row","rule","most"] (cE Ce) [.VA])
 :aF P w K mg base aC 17 f fd ["_law_row","_law_rule_here","_law_cell"]<|jB K Cd Cc Ca Cb Cf Cg:=by
 refine F.ok Vc (by (intro _ _ _ _ h;cases h;subst_vars;rfl)) λb1 A outer s H vs Q E hr h=>?_
 have b3:=Vc.nd;refine' bN 3 (bP<|nK<|Lb ?_<|Lc<|Ed (K9 hr.units) (mH MK rfl T.VV R3<|bW<|dS D8 (dS D8 ?_ ?_) ?_) ?_<|mG _) λ_ dZ _=>bN 2 (aG (oY (i:=6) Vc.nd rfl (by (first | exact Or.inl rfl | exact Or.inr rfl))<|uG Z hr.mn rfl cG<|dG (uG O hr.mn rfl cG<|dG (JA J hr.mn rfl cG ?_) ?_) ?_) dZ) λ_ dZ _=>bN 1 (aG (lR Q1 rfl ?_ ?_<|aG (oY (i:=5) Vc.nd rfl (by (first | exact Or.inl rfl | exact Or.inr rfl))<|uG ac hr.mn rfl cG<|Gb ?_<|wR (JA J hr.mn rfl cG ?_) ?_ ?_)<|bP<|kN (PW.pt<|C1 (AE<|tI<|mH Be rfl T.VB Q7<|dG ?_<|AW rfl T.VJ Ra) ?_) ?_ ?_) dZ) λ_ dZ _=>⟨_,(aG (oY (i:=3) Vc.nd rfl (by (first | exact Or.inl rfl | exact Or.inr rfl))<|qJ (JZ rfl) rfl T.VJ Ra<|bW<|qJ oP rfl T.VL Sb ?_) dZ),?_⟩
 walk_at "d";obtain⟨rw,ru,cl,xs,gb,rfl,U,ax,hn,hB,q⟩:=h;walk_at "r";refine⟨rw,_,rfl,.inl<|aD.of U,_,rfl,λg hg=>?_⟩;obtain⟨H1,e1,s1,h1⟩:=aT hg<|.rng 0 (xs.length:Int);rw[e1];clear e1;refine⟨g,0,(xs.length:Int),rfl,h1,by lia,λsl aj=>?_⟩;rw[yP];obtain⟨H2,e2,s2,h2⟩:=aT aj<|.lst<|(nI<|QL xs.length).map V.int;rw[e2];clear e2;have S:=s1.trans s2;rw[<- D3] at h2;clear h1 hg aj s1 s2;refine bL ?_;walk_at "r"
 let VE:LI:=λi σ X=>L2.X3 λv4 v5 v6=>σ=[some<|.ref rw,some<|.ref ru,some<|.int cl,some<|.ref sl,v4,v5,v6]/\aB H2 X
 refine tT (by decide)<|tK VE ⟨_,_,_,rfl,.refl _⟩ (λi σ X hi z=>?_) λσ X z=>?_
 .obtain ⟨v4,v5,v6,rfl,sX⟩:=z;have ay:i<5:=by have:=hi;lia
  rw[Rl];walk_at "r";intro x dx hx ab _;refine IZ (R:=⟨K,Cd,Cc,Ca,Cb,Cf,Cg⟩) hx ab (sX _ _<|S _ _ U) (AF hB<|aB.b<|S.trans sX) λH1 c e1 e2 e3 hS s1 st=>?_;have w:=yf (G:=grd) (n:=c.n) (An:=c.an) (λ_ _ _ _=>rfl) (wy:=i) (cl:=cl) ay (by lia) (by rw[e1]);have ah:=s1 _ _<|sX _ _ h2;refine⟨c,[],i,cl,sl,_,_,by rw[e3],st,ah,by rw[e1],by lia,by lia,w,(λpr' z=>by obtain⟨_,z,_⟩:=z;cases z),(λos pr' z=>by obtain⟨_,e,p⟩:=z;cases e;have:=p.length_eq;rw[cU] at this;lia),λl H3 os pr' fr hl h1 ai hp=>?_⟩;obtain⟨b0,e4,pm⟩:=hp;cases e4;rw[e1] at pm;have s3:aB X H3:=λb o e=>fr _ _ (hS b o e)<|s1 _ _ e;rw[D3] at h1;refine⟨.ref l,.ty "list",_,true,rfl,rfl,.lst h1,T.VI,?_⟩;rw[Z8<|by decide];refine⟨l,_,rfl,aD.of h1,by rw[aM,pm.length_eq,cU];lia,λl2 ms am p2 w2=>?_⟩;have em:=JB p2 w2 (pm.symm) Tp;subst em;have t1:=aV am<|.lst<|(nI<|QL xs.length).map V.int;refine⟨l2,sl,_,QL xs.length,rfl,aS,t1 _ _<|s3 _ _<|sX _ _ h2,(D3 _).symm,by rw[cU];lia,cY ?_⟩;rw[Z8<|by decide];exact⟨_,_,_,rfl,sX.trans<|s3.trans t1⟩
 .obtain ⟨v4,v5,v6,rfl,sX⟩:=z;dsimp only;refine bL ?_;walk_at "r";have SX:=S.trans sX;intro x dx hx ab _;refine IZ (R:=⟨K,Cd,Cc,Ca,Cb,Cf,Cg⟩) hx ab (SX _ _ U) (AF hB<|aB.b SX) λH1 c e1 e2 e3 hS s1 st=>?_;refine⟨rw,_,rfl,.inl<|aD.of<|s1 _ _<|SX _ _ U,by lia,?_⟩;have m1:=QU cl (show(xs.length:Int)≠0 by lia);have m2:=QW cl (show(0:Int)<xs.length by lia);obtain⟨m,em⟩:∃m:Nat,cl%(xs.length:Int)=m:=⟨(cl%(xs.length:Int)).toNat,by lia⟩
  rw[em] at m1 m2⊢;have hm:m<xs.length:=by lia
  obtain⟨bb,aw⟩:∃bb,bb=decide (c.n-1-m<m):=⟨_,rfl⟩
  have w:=uj (n:=c.n) (An:=c.Ws bb) (m:=m) (λ_ _ _=>rfl) (by lia) (by lia);refine⟨c,[],m,bb,_,by rw[e3],aw,by cases bb<;>exact st,by lia,by lia,w,λo pr' z=>z,λt l1 l2 y a A B H3 pr' fr ht b2 am h1 h3 h4 sA sB ai hp ag=>?_⟩;obtain⟨a',x',rest,e,pm⟩:=hp;cases e;obtain⟨pA,pB⟩:=ag rest pm;rw[e1] at pm;have s3:aB X H3:=λb o e=>fr _ _ (hS b o e)<|s1 _ _ e;have af:(A++[y]++B).Perm<|QL xs.length:=by
   refine List.Perm.trans ?_ pm;refine List.perm_iff_count.mpr λz=>?_;have g1:=pA.count_eq z;have g2:=pB.count_eq z;rw[xO,xO,xO,Bj,g1,g2,Bj,Dt];cases bb<;>dsimp only[cond]<;>lia
  refine⟨rw,_,rfl,.inl<|aD.of<|s3 _ _<|SX _ _ U,by lia,?_⟩;rw[em];refine⟨t,l1,l2,y,m,_,_,rfl,h1,h3,h4,λp1 H4 s4 az h5=>?_⟩;have s5:=s3.trans s4;have h6:=s4 _ _ h3;have h7:=s4 _ _ h4;have ap:=s5 _ _<|sX _ _ h2;clear ag pA pB pm w fr st ai hS s1 hx ab h1 h3 h4;have pl:=af.length_eq;rw[aU,aU,cU,iK] at pl;refine bL ?_;walk_at "r";refine⟨p1,_,rfl,.inl<|aD.of h5,?_⟩;rw[Z9<|show(([V.ref l1,V.int (y:Nat),V.ref l2].length:Nat):Int)=3 from rfl];refine bM (aD.of h5) (cK (v:=.ref l1) (by decide) rfl)<|bM (aD.of h5) (cK (v:=.int (y:Nat)) (by decide) rfl) ⟨bX<|by decide,λp2 av=>?_⟩;obtain⟨Z1,e1,s6,z1⟩:=aT av<|.lst<|nL [y];rw[show upd H4 p2 (HO.lst [V.int (y:Nat)])=Z1 from e1];clear e1;refine⟨l1,p2,_,_,rfl,rfl,s6 _ _ h6,z1,bX<|by rw[kY,kY,iK];lia,λp3 as=>?_⟩;rw[<- D7];obtain⟨Z2,e2,s7,z2⟩:=aT as<|.lst<|nL<|A++[y];rw[e2];clear e2;have aa:=s6.trans s7;refine bM (aD.of<|aa _ _ h5) (cK (v:=.ref l2) (by decide) rfl) ⟨p3,l2,_,_,rfl,rfl,z2,aa _ _ h7,bX<|by rw[kY,kY,aU,iK];lia,λp4 aq=>?_⟩;rw[<- D7];obtain⟨Z3,e3,s8,z3⟩:=aT aq<|.lst<|nL<|A++[y]++B;rw[e3];clear e3;rw[D3] at z3;refine⟨p4,_,rfl,aD.of z3,by rw[aM,af.length_eq,cU];lia,λp5 ms ao pm ws=>?_⟩;have au:=JB pm ws af.symm Tp;subst au;have s9:=aV ao<|.lst<|(nI<|QL xs.length).map V.int;have ad:=s9 _ _<|s8 _ _<|aa _ _ ap;rw[D3] at ad;refine Ab Enc.int.list (by decide) (Eb<|aD.of aS) (Eb<|aD.of ad) ?_;rw[decide_eq_true rfl];exact q _<|SX.trans<|s5.trans<|aa.trans<|s8.trans s9
theorem Ot(F:aK K "law" "law" C2 f fd)(T:Bt K mg Ce Ci Cj Ck Ch Cd Cc Ca Cb Cf Cg)
  (b6:Fn P w K mg base aC "_law_table" 1 ["_law_many","_law_cell","_law_turns"]<|pH)
  (b4:Fn P w K mg base aC "_law_parts" 2 ["_law_cell","_law_many"]<|cM)
  (bn:Fn P w K mg base aC "_law_rule" 6 ["_law_parts_here","_law_table_here"]<|iZ K Cd Cc Ca Cb Cf Cg)
  (b1:Fn P w K mg base aC "_law_counts" 1 ["_law_goes_here"]<|fQ)
  (bd:Fn P w K mg base aC "_law_paper" 1 ["_law_goes_here","_law_counts_here"]<|hU)
  (b0:Fn P w K mg base aC "ranked" 5 ["row","rule"]<|pK K Cd Cc Ca Cb Cf Cg)
  (am:Fn P w K mg base aC "_law_in_order" 17 ["_law_row","_law_rule_here","_law_due","_law_cell"]<|eK K Cd Cc Ca Cb Cf Cg)
  (ay:Fn P w K mg base aC "_law_cell_at" 1 ["_law_script","_law_k"]<|pP K)
  (aj:Fn P w K mg base aC "_law_table_of" 2 ["_law_many","_law_cell"]<|lF)
  (ao:Fn P w K mg base aC "_law_parts_of" 2 ["_law_cell","_law_many"]<|cM)
  (bm:Fn P w K mg base aC "_law_flaw" 2 ["_law_goes_here","_law_found"]<|jF)
  (bo:Fn P w K mg base aC "_law_once" 17 ["_law_row","_law_rule_here","_law_cell"]<|jB K Cd Cc Ca Cb Cf Cg)
  (au:Fn P w K mg base aC "_law_numbers" 2 ["_law_found","_law_due"]<|cD)
  (ac:Fn P w K mg base aC "_law_signed" 1 ["_law_digit"]<|iY)
  (ad:Fn P w K mg base aC "_law_before" 3 ["_law_parts_here","_law_table_here","_law_x","_law_y"]<|eI K)
 :aF P w K mg base aC 18 f fd ["_law_script"]<|qV K:=by
 refine F.ok Vb (by (intro _ _ _ _ h;cases h;subst_vars;rfl)) λcb A outer s H vs Q E hr h=>?_
 have cf:=Vb.nd;refine' bN 14 (bP ?_) λ_ J _=>bN 13 (aG (kN (PW.pt<|C1 (AE<|tI<|mH Be rfl T.VB Q7<|dG ?_<|AW rfl T.We Sa) ?_) ?_ ?_) J) λ_ J _=>bN 12 (aG ?_ J) λ_ J _=>bN 11 (aG ?_ J) λ_ J _=>bN 10 (aG ?_ J) λ_ J _=>bN 9 (aG ?_ J) λ_ J _=>bN 8 (aG (lR Q1 rfl ?_ ?_<|bP<|Ef<|AB Rc Rz Ry Gj ?_<|bW<|we (js:=[5,4,8]) (N:=["_law_parts_here","_law_table_here","_law_x"]) rfl ?_ λ_ _ _ _=>(uG ad hr.mn rfl cG<|Gb (pv 1)<|wR (pv 2) (pv 3)<|pv 0)) J) λ_ J _=>bN 7 (aG ?_ J) λ_ J _=>bN 6 (aG ?_ J) λ_ J _=>bN 5 (aG (kN ?_ (aG (Gn (i:=3) Vb.nd rfl (Or.inl rfl) (js:=[1,2]) (N:=["_law_size","_law_width"]) rfl ?_ λ_ _ _ _=>(D9<|dG (dS GS (pv 0)<|pv 1)<|uG ac hr.mn rfl cG<|bW<|dS GS (dS Ec (pv 0)<|pv 1)<|pv 2))<|Eg<|aG ?_<|Eg<|bP ?_) ?_) J) λ_ J _=>bN 4 (aG ?_ J) λ_ J _=>bN 3 (aG ?_ J) λ_ J _=>bN 2 (aG (Gn (i:=3) Vb.nd rfl (Or.inl rfl) (js:=[1,2]) (N:=["_law_size","_law_width"]) rfl ?_ λ_ _ _ _=>(D9<|dG (dS GS (pv 0)<|pv 1)<|dS GS (dS Ec (pv 0) xH)<|pv 2)) J) λ_ J _=>bN 1 (aG (oY (i:=2) Vb.nd rfl (by (first | exact Or.inl rfl | exact Or.inr rfl))<|oW B8 (Ik<|wR ?_ ?_<|dS ze ?_ ?_) ?_ λ_ _=>rfl) J) λ_ J _=>⟨_,(aG ?_ J),?_⟩
 walk_at "d";obtain⟨a,ns,rfl,hS,bw,q⟩:=h;walk_at "r";refine⟨a,ns,0,rfl,hS,by decide,?_⟩;generalize cellOf ns 0=c0;walk_at "r";refine⟨by decide,?_⟩;have l0:=QU c0 (show(5:Int)≠0 by decide);have l1:=QW c0 (show(0:Int)<5 by decide);obtain⟨L,bg,aw,cd⟩:∃L:Nat,2+c0%5=(L:Int)/\2<=L/\L<=6:=⟨(2+c0%5).toNat,by lia,by lia,by lia⟩
 rw[bg];clear l0 l1 bg
 first|refine bL ?_|refine jQ ?_
 walk_at "r";refine⟨⟨by decide,by decide⟩,bX<|by decide,λq1 av=>⟨a,ns,0,rfl,(aV av _).seq hS,by decide,?_⟩⟩;generalize cellOf ns 0=c1;walk_at "r";obtain⟨wd,b3,bj⟩:∃wd:Int,dX [V.int 3,V.int 40,V.int<|10^T6 60] (c1/5%3)=some (.int wd)/\0<wd:=by
  have h0:=QU (c1/5) (show(3:Int)≠0 by decide);have h1:=QW (c1/5) (show(0:Int)<3 by decide);generalize c1/5%3=z at h0 h1;obtain⟨k,rfl⟩:=Int.eq_ofNat_of_zero_le h0;have hk:k<3:=by lia
  match k,hk with
  |0,_=>exact⟨3,rfl,by decide⟩
  |1,_=>exact⟨40,rfl,by decide⟩
  |2,_=>exact⟨10^T6 60,rfl,by decide⟩
 refine⟨⟨by decide,by decide⟩,by decide,bM (aD.of aS) b3 ?_⟩;have s1:=aV av<|.lst [.int 3,.int 40,.int<|10^T6 60];generalize upd H q1 _=H1 at s1⊢;clear b3 av
 first|refine bL ?_|refine jQ ?_
 walk_at "r";have O:∀ms:List Int,ms=(ns.drop<|HT.sIx ns.length 0<|some 6).take (HT.sIx ns.length ns.length (some 20)-HT.sIx ns.length 0 (some 6))->ms.length<=14:=λms e=>by
  rw[e,kP,show(some (20:Int))=some ((20:Nat):Int) from rfl,show(some (6:Int))=some ((6:Nat):Int) from rfl,HT.sIx_nat,HT.sIx_nat];lia
 refine C4 (s1.seq hS) λsl ah=>?_;rw[oK];generalize XB:(ns.drop _).take _=ms;have b8:=O ms XB.symm;clear XB;obtain⟨H2,e2,s2,h2⟩:=aT ah<|.lst<|ms.map V.int;rw[e2];clear e2
 let VE:CI:=λi ys σ X=>L2.X2 λv ts=>σ=[v,some<|.int L,some<|.int wd]/\aB H2 X/\lA X L ys ts/\ys.length=i
 refine qC (aD.of h2) (by rw[aM];lia) VE ⟨_,[],rfl,.refl _,⟨rfl,λi t h=>by simp at h⟩,rfl⟩ (λi ys σ X _ z=>by obtain⟨_,_,_,s,_,e⟩:=z;exact⟨aD.of<|s _ _ h2,by lia⟩) (λi ys x σ X hi hx z=>?_) λys σ X z rl VC=>?_
 .obtain ⟨v,ts,rfl,U,hR,ab⟩:=z;obtain⟨n,_,rfl⟩:=rZ hx;walk_at "r";refine⟨by lia,⟨by decide,by decide⟩,bj,bX<|by decide,λt ht=>?_⟩;have n1:=QU n (show(L:Int)≠0 by lia);have n2:=QW n (show(0:Int)<(L:Int) by lia);exact dI.of hi ⟨_,ts++[[n%L,n/7%wd]],rfl,U.new ht,(hR.mono<|aV ht _).snoc ⟨rfl,n1,n2⟩ aS,by rw[aU,ab];rfl⟩
 obtain⟨v,ts,rfl,U,hR,ab⟩:=z;rw[aM] at ab;obtain⟨H3,e3,s3,h3⟩:=aT VC<|.lst ys;rw[e3];clear e3;have S3:=s1.trans<|s2.trans<|U.trans s3;replace hR:=hR.mono s3;have ax:ys.length<=14:=by lia
 clear s1 s2 U s3 h2 ah VC ab b8 ms
 first|refine bL ?_|refine jQ ?_
 walk_at "r";refine⟨a,ns,1,rfl,S3.seq hS,by decide,a,ns,2,rfl,S3.seq hS,by decide,?_⟩;walk_at "r";refine⟨⟨by decide,by decide⟩,a,ns,2,rfl,S3.seq hS,by decide,?_⟩;walk_at "r";have k1:=QU (cellOf ns 2) (show(2:Int)≠0 by decide);have k2:=QW (cellOf ns 2) (show(0:Int)<2 by decide);refine⟨by decide,.inr ⟨by lia,by lia⟩,L,_,_,rfl,aw,by lia,λtb H4 tm s4 c7 hM=>?_⟩;clear k1 k2;have S4:=S3.trans s4
 first|refine bL ?_|refine jQ ?_
 walk_at "r";refine⟨a,ns,3,rfl,S4.seq hS,by decide,a,ns,4,rfl,S4.seq hS,by decide,?_⟩;walk_at "r";have k1:=QU (cellOf ns 4) (show(2:Int)≠0 by decide);have k2:=QW (cellOf ns 4) (show(0:Int)<2 by decide);obtain⟨pn,az,as,Z⟩:∃pn:Nat,1+cellOf ns 4%2=(pn:Int)/\1<=pn/\pn<=2:=⟨(1+cellOf ns 4%2).toNat,by lia,by lia,by lia⟩
 rw[az];clear k1 k2;refine⟨by decide,_,pn,rfl,by lia,λpl H5 xl ps s5 VD aq WV b7 ba=>?_⟩;have S5:=S4.trans s5
 first|refine bL ?_|refine jQ ?_
 walk_at "r";refine⟨a,ns,4,rfl,S5.seq hS,by decide,?_⟩;walk_at "r";refine⟨⟨by decide,by decide⟩,by decide,?_⟩;apply Jh (α:=QK×QK×QK×Hp) (λx=>[some<|.ref a,some<|.int L,some<|.int wd,some<|.ref x.1,some<|.ref x.2.1,some<|.ref x.2.2.1,none,none,none,none,none,none]) (λx=>x.2.2.2) λx=>aB H x.2.2.2/\QH x.2.2.2 L x.1 x.2.1 x.2.2.1
 .intro ae;split
  .refine C4 (S5.seq hS) λsl ah=>?_;rw[oK];generalize XB:(ns.drop _).take _=ms;have b8:=O ms XB.symm;clear XB;obtain⟨H6,e6,s6,h6⟩:=aT ah<|.lst<|ms.map V.int;rw[e6];clear e6
   let VS:CI:=λi ys σ X=>L2.X2 λv ts=>σ=[v,some<|.int L,some<|.int wd]/\aB H6 X/\lA X L ys ts/\ys.length=i
   refine qC (aD.of h6) (by rw[aM];lia) VS ⟨_,[],rfl,.refl _,⟨rfl,λi t h=>by simp at h⟩,rfl⟩ (λi ys σ X _ z=>by obtain⟨_,_,_,s,_,e⟩:=z;exact⟨aD.of<|s _ _ h6,by lia⟩) (λi ys x σ X hi hx z=>?_) λys σ X z bt bi=>?_
   .obtain ⟨v,ts,rfl,U,hR,ab⟩:=z;obtain⟨n,_,rfl⟩:=rZ hx;walk_at "r";refine⟨by lia,⟨by lia,by lia⟩,bj,_,rfl,QU _<|by lia,λn'=>⟨bX<|by decide,λt ht=>?_⟩⟩;have n1:=QU n (show(L:Int)≠0 by lia);have n2:=QW n (show(0:Int)<(L:Int) by lia);exact dI.of hi ⟨_,ts++[[n%L,n']],rfl,U.new ht,(hR.mono<|aV ht _).snoc ⟨rfl,n1,n2⟩ aS,by rw[aU,ab];rfl⟩
   obtain⟨v,bp,rfl,U,bq,be⟩:=z;rw[aM] at be;obtain⟨H7,e7,s7,h7⟩:=aT bi<|.lst ys;rw[e7];clear e7;have S7:=S5.trans<|s6.trans<|U.trans s7;refine jQ ?_;walk_at "r";refine⟨a,ns,1,rfl,S7.seq hS,by decide,L,_,rfl,aw,by lia,λc8 H8 bv s8 _ br=>?_⟩;refine jQ ?_;walk_at "r";refine⟨a,ns,3,rfl,(S7.trans s8).seq hS,by decide,a,ns,4,rfl,(S7.trans s8).seq hS,by decide,?_⟩;walk_at "r";rw[az];refine⟨by decide,_,pn,rfl,by lia,λbx H9 c9 c2 s9 _ b9 b2 bc c3=>?_⟩;exact ae (bt,c8,bx,H9) ⟨S7.trans<|s8.trans s9,ys,bp,bv,c9,c2,(s8.trans s9) _ _ h7,(bq.mono s7).mono<|s8.trans s9,by lia,br.mono<|aB.b s9,b9,b2,bc,by lia,by lia⟩
  .exact ae (rl,tb,pl,H5) ⟨S5,ys,ts,tm,xl,ps,(s4.trans s5) _ _ h3,hR.mono<|s4.trans s5,ax,hM.mono<|aB.b s5,aq,WV,b7,by lia,by lia⟩
 clear hR h3 hM WV b7 S5 S4 S3 aq s4 s5 c7 VD O ba az;rintro⟨rl,tb,pl,X⟩ ⟨S,xs,ts,tm,xl,ps,VC,hR,hn,hM,VD,WV,ok,as,Z⟩;dsimp only at S VC hR hM VD WV⊢
 first|refine bL ?_|refine jQ ?_
 walk_at "r";refine⟨pl,tb,xl,ps,L,tm,rfl,VD,WV,hM,aw,by lia,ok,as,Z,λru H1 s1 bh=>?_⟩;have hB:=CL (hR.mono s1) ok Z bh;have S1:=S.trans s1;replace VC:=s1 _ _ VC;replace hR:=hR.mono s1;replace hM:=hM.mono<|aB.b s1;replace VD:=s1 _ _ VD;replace WV:=WV.mono s1;clear bh
 first|refine bL ?_|refine jQ ?_
 walk_at "r";refine⟨dU _,λg hg=>?_⟩;obtain⟨H2,e2,s2,h2⟩:=aT hg<|.lst [];rw[e2];clear e2
 first|refine bL ?_|refine jQ ?_
 walk_at "r"
 let WT:LI:=λi σ X=>∃v8,σ=[some<|.ref a,some<|.int L,some<|.int wd,some<|.ref rl,some<|.ref tb,some<|.ref pl,some<|.ref ru,some<|.ref g,v8,none,none,none]/\aB H1 X/\∃rs,X g=some (.lst rs)/\rs.length=i/\∀p,p<i->∃r,rs[p]?=some (V.ref r)/\r≠g/\X r=some (.lst<|(QL xs.length).map λq=>V.bl<|fF tm ps (ts.getD p [])<|ts.getD q [])
 refine xY (aD.of<|s2 _ _ VC) WT ⟨_,rfl,s2,_,h2,rfl,λp h=>absurd h<|TF _⟩ (λi σ X _ z=>by obtain⟨_,_,s,_⟩:=z;exact aD.of<|s _ _ VC) (λi u σ X hu z=>?_) λσ X z=>?_
 .obtain ⟨v8,rfl,U,rs,hX,af,aa⟩:=z;obtain⟨ti,ri,e1,rfl,g1,hi⟩:=hR.at hu;have ca:=(cV.mp hu).1;walk_at "r";refine⟨.inl ⟨rfl,_,aD.of hX⟩,?_⟩
  let XY:CI:=λj ys σ Y=>∃v,σ=[v,some<|.ref pl,some<|.ref tb,some<|.ref ri]/\aB X Y/\ys=(QL j).map λq=>V.bl<|fF tm ps (ts.getD i [])<|ts.getD q []
  refine qC (aD.of<|U _ _ VC) (by lia) XY ⟨_,rfl,.refl _,rfl⟩ (λj ys σ Y _ z=>by obtain⟨_,_,s,e⟩:=z;exact⟨aD.of<|s _ _<|U _ _ VC,by rw[e,aM,cU];exact aL _⟩) (λj ys x σ Y hj hx z=>?_) λys σ Y z p2 Z=>?_
  .obtain ⟨v,rfl,sY,rfl⟩:=z;obtain⟨tj,rj,e2,rfl,g2,c6⟩:=hR.at hx;have ag:=U.trans sY;walk_at "r";refine⟨pl,ri,rj,tb,xl,ps,L,tm,ti,tj,rfl,ag _ _ VD,WV.mono ag,hM.mono<|aB.b ag,aY.of<|ag _ _ hi,aY.of<|ag _ _ c6,g1,g2,ok,by lia,?_⟩;refine dI.of hj ⟨_,rfl,sY,?_⟩;rw[uL,cF,iT,Dz,iR,iR (l:=ts) (i:=j),e1,e2];rfl
  obtain⟨v,rfl,sY,rfl⟩:=z;have s4:=sY.trans<|aV Z<|.lst<|(QL xs.length).map λq=>V.bl<|fF tm ps (ts.getD i [])<|ts.getD q [];have b5:p2≠g:=λz=>by rw[z,sY _ _ hX] at Z;cases Z
  refine⟨g,rs,_,rfl,rfl,s4 _ _ hX,oZ<|by lia,_,rfl,(U.trans s4).upd hg,rs++[.ref p2],aS,by rw[aU,af];rfl,λp hp=>?_⟩;by_cases z:p<i
  .obtain ⟨r,a1,a2,a3⟩:=aa p z;exact⟨r,by rw[iE<|by lia];exact a1,a2,by rw[bF a2];exact s4 _ _ a3⟩
  .have ep:p=i:=by lia
   subst ep;exact⟨p2,by rw[gI<|by lia,af,gN];rfl,b5,by rw[bF b5,aS]⟩
 obtain⟨v8,rfl,U,rs,hX,af,aa⟩:=z;dsimp only;have hG:iP X g xs.length λp q=>fF tm ps (ts.getD p []) (ts.getD q []):=⟨rs,hX,af,λp hp=>by obtain⟨r,a1,_,a3⟩:=aa p hp;exact⟨r,a1,a3⟩⟩
 replace hB:=AF hB<|aB.b U;replace VC:=U _ _ VC;replace hS:=U.seq<|S1.seq hS;generalize (λp q:Nat=>fF tm ps (ts.getD p [])<|ts.getD q [])=gb at hG hB;clear aa hX af U h2 s2 hg VD WV hM hR S1 S ok as Z s1
 first|refine bL ?_|refine jQ ?_
 walk_at "r";refine⟨g,xs.length,gb,rfl,hG,by lia,λcl H4 s4 cg ap=>?_⟩;replace hB:=AF hB<|aB.b s4;replace VC:=s4 _ _ VC;replace hS:=s4.seq hS;replace hG:=hG.mono<|aB.b s4
 first|refine bL ?_|refine jQ ?_
 walk_at "r";refine⟨g,cl,xs.length,gb,rfl,hG,by lia,ap,λnA=>?_,λhA dl H5 od s5 ce bf bz c5=>?_⟩
 .first|refine bL ?_|refine jQ ?_
  walk_at "r";refine⟨rl,xs,rfl,.inl<|aD.of VC,λl hl=>⟨l,ru,xs,gb,rfl,aS,by lia,AF hB<|aB.b<|aV hl _,λt H6 s6 hr=>?_⟩⟩;have S:=(aV hl<|.lst xs).trans s6;rcases hr with ⟨z,_⟩|hF
  .exact absurd z nA
  have c4:0<xs.length:=by obtain⟨_,_,a,_,_,_,_,h,_⟩:=hF;lia
  first|refine bL ?_|refine jQ ?_
  walk_at "r";refine⟨g,t,xs.length,gb,rfl,hG.mono<|aB.b S,by lia,hF,cY ?_⟩;rw[Z9 rfl];refine⟨a,ns,5,rfl,S.seq hS,by decide,rl,ru,_,xs,gb,rfl,S _ _ VC,c4,by lia,AF hB<|aB.b S,λH7 _=>?_⟩;exact q H7
 replace hB:=AF hB<|aB.b s5;replace VC:=s5 _ _ VC;replace hS:=s5.seq hS
 first|refine bL ?_|refine jQ ?_
 walk_at "r";refine⟨rl,xs,rfl,.inl<|aD.of VC,λl hl=>⟨l,ru,xs,gb,rfl,aS,by lia,AF hB<|aB.b<|aV hl _,λt H6 s6 hr=>?_⟩⟩;have S:=(aV hl<|.lst xs).trans s6;rcases hr with ⟨_,rk,ht,bu⟩|hF
 rotate_left
 .exact (HM hA hF).elim
 first|refine bL ?_|refine jQ ?_
 walk_at "r";rw[Z8 λz=>by cases z]
 first|refine bL ?_|refine jQ ?_
 walk_at "r";have i0:dX [V.str<|QQ "ranks",.ref rk] 0=some (.str<|QQ "ranks"):=cK (by decide) rfl;have i1:dX [V.str<|QQ "ranks",.ref rk] 1=some (.ref rk):=cK (by decide) rfl;refine⟨.ref t,.ty "tuple",_,true,rfl,rfl,.tup ht,T.VG,?_⟩;rw[Z8<|by decide];refine⟨t,_,rfl,.inr<|aY.of ht,?_⟩;rw[Z8 λz=>z rfl];refine cJ (aY.of ht) i0 ?_;rw[Iw,decide_eq_true rfl];refine cY ?_;rw[Z8<|by decide];refine cJ (aY.of ht) i1 ?_;have ec:((QL xs.length).map λq=>V.int (cQ xs.length gb q:Nat))=nL ((QL xs.length).map λq=>cQ xs.length gb q):=by unfold nL;rw[AO];rfl
 have ai:=S _ _<|s5 _ _ ap;rw[ec] at ai;refine⟨rk,cl,_,_,rfl,bu,ai,ec,by rw[aM,cU];lia,cY ?_⟩;rw[Z8<|by decide]
 first|refine bL ?_|refine jQ ?_
 walk_at "r";exact⟨a,ns,5,rfl,S.seq hS,by decide,rl,ru,dl,_,xs,gb,od,rfl,S _ _ VC,by lia,AF hB<|aB.b S,S _ _ bf,hA,bz,c5,λH7 _=>q H7⟩
end
theorem all_mk{l:Uk}{w:Rf}{h:Rv}{mg:Q3->Option QM}{fa Y4 dq dr bc cg Zc el be db c1 b8 ge c5 Y0 bd c2 cp bv d2 ba bt br bq Y3 aj ap Y5 ej b6 ae ai bo gk ev dy Za c0 b5 Y6 bj b0 Y8 bn ay Y7 b3 au Y9 bg ax Zb b7 as gi bh f7 dm cx hf gj c3 dc jo c8 i9 hd jm nd jq m2 hv ci jv eh et f5 aq dj du dg c6 dw ih l4 jr hj ga lz lm n3 nb jp ig jw ju hq ln gl li n9 lr lu n7 n4 gc nh mv:QK}{bz dk bx c7 ao q8 q1 h4 i6 tw sj:Tok}(X:K.In h)(G:h.Ns QV mg)(tz:mg "law"=some (.ref fa))
  {ho h8 eb gt ix fc hy ft e9 k0 g2 ec fz kb ji k7 i0 j8 j9 jj ca cm j5 e7 bi cd fb ku iv hu g6 e3 ep da en d7 e2 d1 eq d4 e4 cq k5 f8 j2 i8 gz l9 kr fi ik m9 g5 m3 lb mw py md o6 m1 h6 mj ir j1 jc cu i1 hx i2 fx ia lc nq mx l5 kn o9 ny p3 px mc lx mf m7 lh oi kf o8 ow oe np pw pg ki q2:RX} {rh n6:Option QK} {s3:Array<|Option QM} {rq n5 nj n8 jz ng:QM}
  (oz:W.nsIn K QV "Asker"=some (some<|.ref Y4))
  (qs:Ri K Y4 R7=true)
  (qf:Rj K Y4=true)
  (rf:Ro K Y4=true)
  (qg:W.findIn K (.ref Y4) "__setattr__"=some (some<|.builtin "object.__setattr__"))
  (ql:Rt K Y4=true)
  (rt:W.keepIn K (.ref Y4)=true)
  (mh:W.findIn K (.ref Y4) "row"=some none)
  (lp:W.findIn K (.ref Y4) "rule"=some none)
  (l7:W.findIn K (.ref Y4) "most"=some none)
  (ke:W.findIn K (.ref Y4) "asked"=some none)
  (lw:W.findIn K (.ref Y4) "told"=some none)
  (At:eR K Y4 "__init__" dq<|gD K "__init__" "Asker.__init__" Mw dq ho [.none])
  (KK:eR K Y4 "many" dr<|aK K "many" "Asker.many" Mx dr h8)
  (KF:eR K Y4 "answers" bc<|aK K "answers" "Asker.answers" MV bc eb)
  (GM:eR K Y4 "ahead" cg<|aK K "ahead" "Asker.ahead" NB cg gt)
  (p7:W.nsIn K QV "Join"=some (some<|.ref Zc))
  (q7:Ri K Zc R7=true)
  (t2:Rj K Zc=true)
  (qh:Ro K Zc=true)
  (r7:W.findIn K (.ref Zc) "__setattr__"=some (some<|.builtin "object.__setattr__"))
  (qp:Rt K Zc=true)
  (r1:W.keepIn K (.ref Zc)=true)
  (kw:W.findIn K (.ref Zc) "asker"=some none)
  (ko:W.findIn K (.ref Zc) "sides"=some none)
  (k9:W.findIn K (.ref Zc) "taken"=some none)
  (io:W.findIn K (.ref Zc) "places"=some none)
  (YZ:eR K Zc "__init__" el<|aK K "__init__" "Join.__init__" Mf el ix)
  (Fk:eR K Zc "has_more" be<|aK K "has_more" "Join.has_more" MW be fc)
  (Ps:eR K Zc "front" db<|aK K "front" "Join.front" My db hy)
  (Ix:eR K Zc "take_on" c1<|aK K "take_on" "Join.take_on" MP c1 ft)
  (KB:eR K Zc "take_rest" b8<|aK K "take_rest" "Join.take_rest" M5 b8 e9)
  (GE:eR K Zc "win" ge<|aK K "win" "Join.win" L1 ge k0)
  (GT:eR K Zc "leap_on" c5<|aK K "leap_on" "Join.leap_on" MO c5 g2)
  (pb:W.nsIn K QV "Pour"=some (some<|.ref Y0))
  (rn:Ri K Y0 R7=true)
  (q6:Rj K Y0=true)
  (ro:Ro K Y0=true)
  (qz:W.findIn K (.ref Y0) "__setattr__"=some (some<|.builtin "object.__setattr__"))
  (ri:Rt K Y0=true)
  (r2:W.keepIn K (.ref Y0)=true)
  (ey:W.findIn K (.ref Y0) "asker"=some none)
  (dh:W.findIn K (.ref Y0) "pieces"=some none)
  (f3:W.findIn K (.ref Y0) "taken"=some none)
  (c9:W.findIn K (.ref Y0) "meetings"=some none)
  (co:W.findIn K (.ref Y0) "went_on"=some none)
  (M2:eR K Y0 "front_of" bd<|aK K "front_of" "Pour.front_of" MZ bd ec)
  (Do:eR K Y0 "goes_on" c2<|aK K "goes_on" "Pour.goes_on" MR c2 fz)
  (wS:eR K Y0 "met" cp<|aK K "met" "Pour.met" L4 cp kb)
  (wr:eR K Y0 "held" bv<|aK K "held" "Pour.held" Mi bv ji)
  (wv:eR K Y0 "top" d2<|aK K "top" "Pour.top" L5 d2 k7)
  (wP:eR K Y0 "first" ba<|aK K "first" "Pour.first" MA ba i0)
  (NE:eR K Y0 "left" bt<|aK K "left" "Pour.left" Ml bt j8)
  (xL:eR K Y0 "__init__" br<|aK K "__init__" "Pour.__init__" Mj br j9)
  (ww:eR K Y0 "take" bq<|aK K "take" "Pour.take" Mm bq jj)
  (p5:W.nsIn K QV "LastPour"=some (some<|.ref Y3))
  (rp:Ri K Y3 R7=true)
  (sn:Rj K Y3=true)
  (s6:Ro K Y3=true)
  (sm:W.findIn K (.ref Y3) "__setattr__"=some (some<|.builtin "object.__setattr__"))
  (r3:Rt K Y3=true)
  (r8:W.keepIn K (.ref Y3)=true)
  (ed:W.findIn K (.ref Y3) "asker"=some none)
  (dt:W.findIn K (.ref Y3) "pieces"=some none)
  (f2:W.findIn K (.ref Y3) "taken"=some none)
  (c4:W.findIn K (.ref Y3) "meetings"=some none)
  (d3:W.findIn K (.ref Y3) "went_on"=some none)
  (LE:eR K Y3 "front_of" aj<|aK K "front_of" "LastPour.front_of" NF aj ca)
  (Gc:eR K Y3 "goes_on" ap<|aK K "goes_on" "LastPour.goes_on" NN ap cm)
  (gm:W.findIn K (.ref Y3) "met"=some (some<|.ref cp))
  (g3:W.findIn K (.ref Y3) "held"=some (some<|.ref bv))
  (gy:W.findIn K (.ref Y3) "top"=some (some<|.ref d2))
  (ez:W.findIn K (.ref Y3) "first"=some (some<|.ref ba))
  (nr:W.findIn K (.ref Y3) "left"=some (some<|.ref bt))
  (g4:W.findIn K (.ref Y3) "__init__"=some (some<|.ref br))
  (fv:W.findIn K (.ref Y3) "take"=some (some<|.ref bq))
  (pi:W.nsIn K QV "Pile"=some (some<|.ref Y5))
  (r9:Ri K Y5 R7=true)
  (sr:Rj K Y5=true)
  (rg:Ro K Y5=true)
  (rj:W.findIn K (.ref Y5) "__setattr__"=some (some<|.builtin "object.__setattr__"))
  (s8:Rt K Y5=true)
  (r5:W.keepIn K (.ref Y5)=true)
  (kl:W.findIn K (.ref Y5) "asker"=some none)
  (ka:W.findIn K (.ref Y5) "least"=some none)
  (k6:W.findIn K (.ref Y5) "start"=some none)
  (m5:W.findIn K (.ref Y5) "end"=some none)
  (i7:W.findIn K (.ref Y5) "reached"=some none)
  (jl:W.findIn K (.ref Y5) "firsts"=some none)
  (iu:W.findIn K (.ref Y5) "orders"=some none)
  (j6:W.findIn K (.ref Y5) "grades"=some none)
  (xz:eR K Y5 "__init__" ej<|gD K "__init__" "Pile.__init__" Mg ej j5 [.int 1 bz,.none])
  (KM:eR K Y5 "beyond_of" b6<|aK K "beyond_of" "Pile.beyond_of" M7 b6 e7)
  (IR:eR K Y5 "is_due_beneath" ae<|aK K "is_due_beneath" "Pile.is_due_beneath" NH ae bi)
  (FB:eR K Y5 "grade_on_top" ai<|aK K "grade_on_top" "Pile.grade_on_top" NG ai cd)
  (IN:eR K Y5 "join_two" bo<|aK K "join_two" "Pile.join_two" MY bo fb)
  (FS:eR K Y5 "lay" gk<|aK K "lay" "Pile.lay" L3 gk ku)
  (Go:eR K Y5 "step" ev<|aK K "step" "Pile.step" Mh ev iv)
  (Pi:eR K Y5 "paper" dy<|aK K "paper" "Pile.paper" Mz dy hu)
  (ou:W.nsIn K QV "KeyRule"=some (some<|.ref Za))
  (q9:Ri K Za R7=true)
  (qv:Rj K Za=true)
  (sx:Ro K Za=true)
  (s5:W.findIn K (.ref Za) "__setattr__"=some (some<|.builtin "object.__setattr__"))
  (sa:Rt K Za=true)
  (sh:W.keepIn K (.ref Za)=true)
  (hk:W.findIn K (.ref Za) "columns"=some none)
  (WP:eR K Za "__init__" c0<|aK K "__init__" "KeyRule.__init__" MQ c0 g6)
  (AC:eR K Za "before" b5<|aK K "before" "KeyRule.before" M6 b5 e3)
  (ph:W.nsIn K QV "NearRule"=some (some<|.ref Y6))
  (sf:Ri K Y6 R7=true)
  (qi:Rj K Y6=true)
  (r0:Ro K Y6=true)
  (qu:W.findIn K (.ref Y6) "__setattr__"=some (some<|.builtin "object.__setattr__"))
  (ry:Rt K Y6=true)
  (qe:W.keepIn K (.ref Y6)=true)
  (o1:W.findIn K (.ref Y6) "at"=some none)
  (mo:W.findIn K (.ref Y6) "gap"=some none)
  (WF:eR K Y6 "__init__" bj<|aK K "__init__" "NearRule.__init__" MX bj ep)
  (EQ:eR K Y6 "before" b0<|aK K "before" "NearRule.before" NJ b0 da)
  (oo:W.nsIn K QV "RingRule"=some (some<|.ref Y8))
  (s0:Ri K Y8 R7=true)
  (qc:Rj K Y8=true)
  (qw:Ro K Y8=true)
  (r6:W.findIn K (.ref Y8) "__setattr__"=some (some<|.builtin "object.__setattr__"))
  (rc:Rt K Y8=true)
  (rx:W.keepIn K (.ref Y8)=true)
  (nt:W.findIn K (.ref Y8) "at"=some none)
  (ky:W.findIn K (.ref Y8) "size"=some none)
  (SL:eR K Y8 "__init__" bn<|aK K "__init__" "RingRule.__init__" M0 bn en)
  (Fa:eR K Y8 "before" ay<|aK K "before" "RingRule.before" NK ay d7)
  (ov:W.nsIn K QV "TableRule"=some (some<|.ref Y7))
  (s7:Ri K Y7 R7=true)
  (sq:Rj K Y7=true)
  (rb:Ro K Y7=true)
  (qo:W.findIn K (.ref Y7) "__setattr__"=some (some<|.builtin "object.__setattr__"))
  (qb:Rt K Y7=true)
  (qy:W.keepIn K (.ref Y7)=true)
  (o2:W.findIn K (.ref Y7) "at"=some none)
  (k1:W.findIn K (.ref Y7) "table"=some none)
  (Rs:eR K Y7 "__init__" b3<|aK K "__init__" "TableRule.__init__" M8 b3 e2)
  (Id:eR K Y7 "before" au<|aK K "before" "TableRule.before" NO au d1)
  (pu:W.nsIn K QV "VoteRule"=some (some<|.ref Y9))
  (qm:Ri K Y9 R7=true)
  (so:Rj K Y9=true)
  (qq:Ro K Y9=true)
  (sy:W.findIn K (.ref Y9) "__setattr__"=some (some<|.builtin "object.__setattr__"))
  (sc:Rt K Y9=true)
  (sb:W.keepIn K (.ref Y9)=true)
  (jy:W.findIn K (.ref Y9) "rules"=some none)
  (Uf:eR K Y9 "__init__" bg<|aK K "__init__" "VoteRule.__init__" M1 bg eq)
  (zn:eR K Y9 "before" ax<|aK K "before" "VoteRule.before" NL ax d4)
  (pf:W.nsIn K QV "ChainRule"=some (some<|.ref Zb))
  (sk:Ri K Zb R7=true)
  (qa:Rj K Zb=true)
  (qx:Ro K Zb=true)
  (s9:W.findIn K (.ref Zb) "__setattr__"=some (some<|.builtin "object.__setattr__"))
  (su:Rt K Zb=true)
  (sw:W.keepIn K (.ref Zb)=true)
  (kt:W.findIn K (.ref Zb) "rules"=some none)
  (YO:eR K Zb "__init__" b7<|aK K "__init__" "ChainRule.__init__" M4 b7 e4)
  (AT:eR K Zb "before" as<|aK K "before" "ChainRule.before" NM as cq)
  (TW:cT K "straight" gi<|aK K "straight" "straight" L9 gi k5)
  (YI:cT K "counted_ranks" bh<|aK K "counted_ranks" "counted_ranks" M3 bh f8)
  (Tl:cT K "are_ranks" f7<|aK K "are_ranks" "are_ranks" Mn f7 j2)
  (YM:cT K "odd_thirds" dm<|aK K "odd_thirds" "odd_thirds" ME dm i8)
  (PP:cT K "flaw_of_two" cx<|aK K "flaw_of_two" "flaw_of_two" NC cx gz)
  (wn:cT K "flaw_of" hf<|aK K "flaw_of" "flaw_of" LO hf l9)
  (YV:cT K "check_at" gj<|aK K "check_at" "check_at" L6 gj kr)
  (SC:cT K "check_column" c3<|aK K "check_column" "check_column" MS c3 fi)
  (YH:cT K "told_pairs" dc<|aK K "told_pairs" "told_pairs" MG dc ik)
  (SZ:cT K "ranked" jo<|aK K "ranked" "ranked" Lu jo m9)
  (FM:cT K "stretch_from" c8<|gD K "stretch_from" "stretch_from" MU c8 g5 [.none])
  (YR:cT K "in_turn" i9<|aK K "in_turn" "in_turn" LQ i9 m3)
  (YX:cT K "spot_of" hd<|aK K "spot_of" "spot_of" LV hd lb)
  (Ev:cT K "filled" jm<|gD K "filled" "filled" Lp jm mw [.none])
  (Ty:cT K "leap" nd<|aK K "leap" "leap" Kz nd py)
  (ul:cT K "joined" jq<|aK K "joined" "joined" Lq jq md)
  (YT:cT K "grade" m2<|aK K "grade" "grade" K5 m2 o6)
  (wf:cT K "by_pile" hv<|gD K "by_pile" "by_pile" LM hv m1 [.int 1 dk,.none])
  (YE:cT K "meetings_of" ci<|aK K "meetings_of" "meetings_of" ND ci h6)
  (YC:cT K "poured" jv<|aK K "poured" "poured" Ls jv mj)
  (YQ:cT K "one_round" eh<|aK K "one_round" "one_round" Mq eh ir)
  (IO:cT K "in_rounds" et<|gD K "in_rounds" "in_rounds" Mp et j1 [.int 2 bx])
  (wT:cT K "by_pieces" f5<|gD K "by_pieces" "by_pieces" Mo f5 jc [.int 2 c7,.int 1 ao])
  (YG:cT K "spot_from_behind" aq<|aK K "spot_from_behind" "spot_from_behind" NP aq cu)
  (YJ:cT K "by_putting" dj<|aK K "by_putting" "by_putting" MB dj i1)
  (T0:cT K "by_walking" du<|aK K "by_walking" "by_walking" MC du hx)
  (P3:cT K "cut_of_two" dg<|aK K "cut_of_two" "cut_of_two" MD dg i2)
  (Re:cT K "joined_apart" c6<|aK K "joined_apart" "joined_apart" MT c6 fx)
  (XV:cT K "so_manieth" dw<|aK K "so_manieth" "so_manieth" MF dw ia)
  (YS:cT K "_law_cell_at" ih<|aK K "_law_cell_at" "_law_cell_at" LN ih lc)
  (Tm:cT K "_law_whole" l4<|aK K "_law_whole" "_law_whole" LF l4 nq)
  (TD:cT K "_law_signed" jr<|aK K "_law_signed" "_law_signed" Lv jr mx)
  (YW:cT K "_law_reserve" hj<|aK K "_law_reserve" "_law_reserve" LS hj l5)
  (W1:cT K "_law_table_of" ga<|aK K "_law_table_of" "_law_table_of" Ma ga kn)
  (wl:cT K "_law_table" lz<|aK K "_law_table" "_law_table" LD lz o9)
  (Sc:cT K "_law_plain" lm<|aK K "_law_plain" "_law_plain" LB lm ny)
  (SB:cT K "_law_goes" n3<|aK K "_law_goes" "_law_goes" Ky n3 p3)
  (YU:cT K "_law_puts" nb<|aK K "_law_puts" "_law_puts" KC nb px)
  (Pv:cT K "_law_before" jp<|aK K "_law_before" "_law_before" Ln jp mc)
  (UF:cT K "_law_rule_of" ig<|aK K "_law_rule_of" "_law_rule_of" LU ig lx)
  (Tk:cT K "_law_picked" jw<|aK K "_law_picked" "_law_picked" Lr jw mf)
  (YL:cT K "_law_counts" ju<|aK K "_law_counts" "_law_counts" Lo ju m7)
  (YY:cT K "_law_numbers" hq<|aK K "_law_numbers" "_law_numbers" LR hq lh)
  (ut:cT K "_law_parts" ln<|aK K "_law_parts" "_law_parts" LA ln oi)
  (YD:cT K "_law_parts_of" gl<|aK K "_law_parts_of" "_law_parts_of" L8 gl kf)
  (YF:cT K "_law_shown" li<|aK K "_law_shown" "_law_shown" LC li o8)
  (dL:cT K "_law_flaw" n9<|aK K "_law_flaw" "_law_flaw" Kx n9 ow)
  (YN:cT K "_law_paper" lr<|aK K "_law_paper" "_law_paper" Lz lr oe)
  (UV:cT K "_law_dealt" lu<|aK K "_law_dealt" "_law_dealt" K4 lu np)
  (u8:cT K "_law_told" n7<|aK K "_law_told" "_law_told" KG n7 pw)
  (sK:cT K "_law_rule" n4<|aK K "_law_rule" "_law_rule" KD n4 pg)
  (YK:cT K "_law_in_order" gc<|aK K "_law_in_order" "_law_in_order" L7 gc ki)
  (ST:cT K "_law_once" nh<|aK K "_law_once" "_law_once" KA nh q2)
  (t8:W.nsIn K QV "law"=some (some<|.ref mv))
  (tn:K.lookup mv=some ⟨rq,rh,.func<|W.fnOf "law" "law" (AY C2) (xX C2) (aZ C2) .none n5 nj n8 n6 jz ng,s3⟩)
  (tr:W.codeIn K jz "law"=true)
  (tq:W.keepIn K (.ref mv)=true)
  (t1:W.nsIn K QV "LEFT"=some (some<|.int 0 q8))
  (pa:W.nsIn K QV "RIGHT"=some (some<|.int 1 q1))
  (gw:W.nsIn K QV "WINS_TO_LEAP"=some (some<|.int 4 h4))
  (i3:W.nsIn K QV "GREATEST_AT"=some (some<|.int 7 i6))
  (tx:W.nsIn K QV "UP"=some (some<|.str "up" tw))
  (rr:W.nsIn K QV "DOWN"=some (some<|.str "down" sj))
  (t9:W.nsIn K QV "len"=some none)
  (om:W.nsIn K QV "range"=some none)
  (oq:W.nsIn K QV "tuple"=some none)
  (q5:W.nsIn K QV "list"=some none)
  (iw:W.nsIn K QV "isinstance"=some none)
  (rm:W.nsIn K QV "bool"=some none)
  (t6:W.nsIn K QV "int"=some none)
  (tf:W.nsIn K QV "max"=some none)
  (t7:W.nsIn K QV "min"=some none)
  (tj:W.nsIn K QV "sum"=some none)
  (o5:W.nsIn K QV "sorted"=some none)
  (k2:W.nsIn K QV "enumerate"=some none)
  (tp:W.nsIn K QV "zip"=some none)
  (ss:W.nsIn K QV "dict"=some none)
  (j7:W.nsIn K QV "ValueError"=some none)
  (j4:Rq K (.type "int") (.type "bool")=some false)
  (ii:Rq K (.type "list") (.type "list")=some true)
  (fn:Rq K (.type "tuple") (.type "tuple")=some true):
  ∃fd:RX,(∀(s:QO) (v:QM),U0 s fd ⟨[v],[]⟩ [("_law_script",v)])/\∀base:Rv,K.In base->base.Ns QV mg->aF l.prog w K mg base aC 18 fa fd ["_law_script"] (qV K):=by
 have e:=tz.symm.trans<|QN X G t8;cases e;have h7:eO K Y4:=⟨qs,qf,rf,qg⟩
 have oj:=At.F.binds (ps:=["self","row","rule","most"]) (ds:=[]) (by exact λ_ _ _ _ _ _ _ us hl=>by obtain⟨_,_,_,_,e⟩:=uU (tJ (n:=4) hl rfl);subst e;exact⟨_,rfl,rfl⟩);have gu:=At.F.binds (ps:=["self","row","rule","most"]) (ds:=[.none]) (by exact λ_ _ _ _ _ _ _ us hl=>by obtain⟨_,_,_,e⟩:=gP (tJ (n:=3) hl rfl);subst e;exact⟨_,rfl,rfl⟩);have il:=KK.F.binds (ps:=["self"]) (by exact λ_ _ _ _ _ _ us hl=>by obtain⟨_,e⟩:=lE hl;subst e;rfl);have fw:=KF.F.binds (ps:=["self"]) (by exact λ_ _ _ _ _ _ us hl=>by obtain⟨_,e⟩:=lE hl;subst e;rfl);have i5:=GM.F.binds (ps:=["self","p","q"]) (by exact λ_ _ _ _ _ _ us hl=>by obtain⟨_,_,_,e⟩:=gP hl;subst e;rfl);have bu:eO K Zc:=⟨q7,t2,qh,r7⟩
 have kg:=YZ.F.binds (ps:=["self","asker","left","right"]) (by exact λ_ _ _ _ _ _ us hl=>by obtain⟨_,_,_,_,e⟩:=uU hl;subst e;rfl);have fy:=Fk.F.binds (ps:=["self","side"]) (by exact λ_ _ _ _ _ _ us hl=>by obtain⟨_,_,e⟩:=gS hl;subst e;rfl);have jg:=Ps.F.binds (ps:=["self","side"]) (by exact λ_ _ _ _ _ _ us hl=>by obtain⟨_,_,e⟩:=gS hl;subst e;rfl);have gn:=Ix.F.binds (ps:=["self","side","more"]) (by exact λ_ _ _ _ _ _ us hl=>by obtain⟨_,_,_,e⟩:=gP hl;subst e;rfl);have ea:=KB.F.binds (ps:=["self","side"]) (by exact λ_ _ _ _ _ _ us hl=>by obtain⟨_,_,e⟩:=gS hl;subst e;rfl);have l8:=GE.F.binds (ps:=["self"]) (by exact λ_ _ _ _ _ _ us hl=>by obtain⟨_,e⟩:=lE hl;subst e;rfl);have h3:=GT.F.binds (ps:=["self","side"]) (by exact λ_ _ _ _ _ _ us hl=>by obtain⟨_,_,e⟩:=gS hl;subst e;rfl);have ah:eO K Y0:=⟨rn,q6,ro,qz⟩
 have fg:=M2.F.binds (ps:=["self","piece","taken"]) (by exact λ_ _ _ _ _ _ us hl=>by obtain⟨_,_,_,e⟩:=gP hl;subst e;rfl);have gv:=Do.F.binds (ps:=["self","p","q"]) (by exact λ_ _ _ _ _ _ us hl=>by obtain⟨_,_,_,e⟩:=gP hl;subst e;rfl);have gg:=wS.F.binds (ps:=["self","one","other"]) (by exact λ_ _ _ _ _ _ us hl=>by obtain⟨_,_,_,e⟩:=gP hl;subst e;rfl);have ef:=wr.F.binds (ps:=["self","meetings","went_on"]) (by exact λ_ _ _ _ _ _ us hl=>by obtain⟨_,_,_,e⟩:=gP hl;subst e;rfl);have gd:=wv.F.binds (ps:=["self"]) (by exact λ_ _ _ _ _ _ us hl=>by obtain⟨_,e⟩:=lE hl;subst e;rfl);have df:=wP.F.binds (ps:=["self"]) (by exact λ_ _ _ _ _ _ us hl=>by obtain⟨_,e⟩:=lE hl;subst e;rfl);have k4:=NE.F.binds (ps:=["self"]) (by exact λ_ _ _ _ _ _ us hl=>by obtain⟨_,e⟩:=lE hl;subst e;rfl);have eu:=xL.F.binds (ps:=["self","asker","pieces"]) (by exact λ_ _ _ _ _ _ us hl=>by obtain⟨_,_,_,e⟩:=gP hl;subst e;rfl);have eg:=ww.F.binds (ps:=["self"]) (by exact λ_ _ _ _ _ _ us hl=>by obtain⟨_,e⟩:=lE hl;subst e;rfl);have az:Dr K Y0:=⟨ah,ey,dh,f3,c9,co⟩
 have av:eO K Y3:=⟨rp,sn,s6,sm⟩
 have cj:=LE.F.binds (ps:=["self","piece","taken"]) (by exact λ_ _ _ _ _ _ us hl=>by obtain⟨_,_,_,e⟩:=gP hl;subst e;rfl);have d8:=Gc.F.binds (ps:=["self","p","q"]) (by exact λ_ _ _ _ _ _ us hl=>by obtain⟨_,_,_,e⟩:=gP hl;subst e;rfl);have ac:Dr K Y3:=⟨av,ed,dt,f2,c4,d3⟩
 have b1:eO K Y5:=⟨r9,sr,rg,rj⟩
 have ie:=xz.F.binds (ps:=["self","asker","least","part"]) (ds:=[]) (by exact λ_ _ _ _ _ _ _ us hl=>by obtain⟨_,_,_,_,e⟩:=uU (tJ (n:=4) hl rfl);subst e;exact⟨_,rfl,rfl⟩);have p8:=xz.F.binds (ps:=["self","asker","least","part"]) (ds:=[.none]) (by exact λ_ _ _ _ _ _ _ us hl=>by obtain⟨_,_,_,e⟩:=gP (tJ (n:=3) hl rfl);subst e;exact⟨_,rfl,rfl⟩);have pp:=xz.F.binds (ps:=["self","asker","least","part"]) (ds:=[.int 1 bz,.none]) (by exact λ_ _ _ _ _ _ _ us hl=>by obtain⟨_,_,e⟩:=gS (tJ (n:=2) hl rfl);subst e;exact⟨_,rfl,rfl⟩);have fe:=KM.F.binds (ps:=["self","number"]) (by exact λ_ _ _ _ _ _ us hl=>by obtain⟨_,_,e⟩:=gS hl;subst e;rfl);have bp:=IR.F.binds (ps:=["self"]) (by exact λ_ _ _ _ _ _ us hl=>by obtain⟨_,e⟩:=lE hl;subst e;rfl);have cz:=FB.F.binds (ps:=["self","middle","beyond"]) (by exact λ_ _ _ _ _ _ us hl=>by obtain⟨_,_,_,e⟩:=gP hl;subst e;rfl);have fm:=IN.F.binds (ps:=["self","lower"]) (by exact λ_ _ _ _ _ _ us hl=>by obtain⟨_,_,e⟩:=gS hl;subst e;rfl);have ly:=FS.F.binds (ps:=["self"]) (by exact λ_ _ _ _ _ _ us hl=>by obtain⟨_,e⟩:=lE hl;subst e;rfl);have kq:=Go.F.binds (ps:=["self"]) (by exact λ_ _ _ _ _ _ us hl=>by obtain⟨_,e⟩:=lE hl;subst e;rfl);have jf:=Pi.F.binds (ps:=["self"]) (by exact λ_ _ _ _ _ _ us hl=>by obtain⟨_,e⟩:=lE hl;subst e;rfl);have n1:eO K Za:=⟨q9,qv,sx,s5⟩
 have gq:=WP.F.binds (ps:=["self","columns"]) (by exact λ_ _ _ _ _ _ us hl=>by obtain⟨_,_,e⟩:=gS hl;subst e;rfl);have ei:=AC.F.binds (ps:=["self","x","y"]) (by exact λ_ _ _ _ _ _ us hl=>by obtain⟨_,_,_,e⟩:=gP hl;subst e;rfl);have nk:eO K Y6:=⟨sf,qi,r0,qu⟩
 have g0:=WF.F.binds (ps:=["self","at","gap"]) (by exact λ_ _ _ _ _ _ us hl=>by obtain⟨_,_,_,e⟩:=gP hl;subst e;rfl);have e0:=EQ.F.binds (ps:=["self","x","y"]) (by exact λ_ _ _ _ _ _ us hl=>by obtain⟨_,_,_,e⟩:=gP hl;subst e;rfl);have nn:eO K Y8:=⟨s0,qc,qw,r6⟩
 have ff:=SL.F.binds (ps:=["self","at","size"]) (by exact λ_ _ _ _ _ _ us hl=>by obtain⟨_,_,_,e⟩:=gP hl;subst e;rfl);have e1:=Fa.F.binds (ps:=["self","x","y"]) (by exact λ_ _ _ _ _ _ us hl=>by obtain⟨_,_,_,e⟩:=gP hl;subst e;rfl);have nc:eO K Y7:=⟨s7,sq,rb,qo⟩
 have f9:=Rs.F.binds (ps:=["self","at","table"]) (by exact λ_ _ _ _ _ _ us hl=>by obtain⟨_,_,_,e⟩:=gP hl;subst e;rfl);have d6:=Id.F.binds (ps:=["self","x","y"]) (by exact λ_ _ _ _ _ _ us hl=>by obtain⟨_,_,_,e⟩:=gP hl;subst e;rfl);have na:eO K Y9:=⟨qm,so,qq,sy⟩
 have fh:=Uf.F.binds (ps:=["self","rules"]) (by exact λ_ _ _ _ _ _ us hl=>by obtain⟨_,_,e⟩:=gS hl;subst e;rfl);have e5:=zn.F.binds (ps:=["self","x","y"]) (by exact λ_ _ _ _ _ _ us hl=>by obtain⟨_,_,_,e⟩:=gP hl;subst e;rfl);have n2:eO K Zb:=⟨sk,qa,qx,s9⟩
 have em:=YO.F.binds (ps:=["self","rules"]) (by exact λ_ _ _ _ _ _ us hl=>by obtain⟨_,_,e⟩:=gS hl;subst e;rfl);have d5:=AT.F.binds (ps:=["self","x","y"]) (by exact λ_ _ _ _ _ _ us hl=>by obtain⟨_,_,_,e⟩:=gP hl;subst e;rfl);have l0:=TW.F.binds (ps:=["many"]) (by exact λ_ _ _ _ _ _ us hl=>by obtain⟨_,e⟩:=lE hl;subst e;rfl);have fq:=YI.F.binds (ps:=["pairs"]) (by exact λ_ _ _ _ _ _ us hl=>by obtain⟨_,e⟩:=lE hl;subst e;rfl);have kj:=Tl.F.binds (ps:=["pairs","ranks"]) (by exact λ_ _ _ _ _ _ us hl=>by obtain⟨_,_,e⟩:=gS hl;subst e;rfl);have jd:=YM.F.binds (ps:=["pairs","p","q"]) (by exact λ_ _ _ _ _ _ us hl=>by obtain⟨_,_,_,e⟩:=gP hl;subst e;rfl);have he:=PP.F.binds (ps:=["pairs","p","q"]) (by exact λ_ _ _ _ _ _ us hl=>by obtain⟨_,_,_,e⟩:=gP hl;subst e;rfl);have me:=wn.F.binds (ps:=["pairs"]) (by exact λ_ _ _ _ _ _ us hl=>by obtain⟨_,e⟩:=lE hl;subst e;rfl);have kx:=YV.F.binds (ps:=["at"]) (by exact λ_ _ _ _ _ _ us hl=>by obtain⟨_,e⟩:=lE hl;subst e;rfl);have h5:=SC.F.binds (ps:=["at","way"]) (by exact λ_ _ _ _ _ _ us hl=>by obtain⟨_,_,e⟩:=gS hl;subst e;rfl);have j3:=YH.F.binds (ps:=["row","rule"]) (by exact λ_ _ _ _ _ _ us hl=>by obtain⟨_,_,e⟩:=gS hl;subst e;rfl);have oh:=SZ.F.binds (ps:=["row","rule"]) (by exact λ_ _ _ _ _ _ us hl=>by obtain⟨_,_,e⟩:=gS hl;subst e;rfl);have f6:=FM.F.binds (ps:=["asker","first","end"]) (ds:=[]) (by exact λ_ _ _ _ _ _ _ us hl=>by obtain⟨_,_,_,e⟩:=gP (tJ (n:=3) hl rfl);subst e;exact⟨_,rfl,rfl⟩);have nl:=FM.F.binds (ps:=["asker","first","end"]) (ds:=[.none]) (by exact λ_ _ _ _ _ _ _ us hl=>by obtain⟨_,_,e⟩:=gS (tJ (n:=2) hl rfl);subst e;exact⟨_,rfl,rfl⟩);have m6:=YR.F.binds (ps:=["first","beyond","falling"]) (by exact λ_ _ _ _ _ _ us hl=>by obtain⟨_,_,_,e⟩:=gP hl;subst e;rfl);have mr:=YX.F.binds (ps:=["asker","order","place"]) (by exact λ_ _ _ _ _ _ us hl=>by obtain⟨_,_,_,e⟩:=gP hl;subst e;rfl);have ld:=Ev.F.binds (ps:=["asker","first","least","end"]) (ds:=[]) (by exact λ_ _ _ _ _ _ _ us hl=>by obtain⟨_,_,_,_,e⟩:=uU (tJ (n:=4) hl rfl);subst e;exact⟨_,rfl,rfl⟩);have t5:=Ev.F.binds (ps:=["asker","first","least","end"]) (ds:=[.none]) (by exact λ_ _ _ _ _ _ _ us hl=>by obtain⟨_,_,_,e⟩:=gP (tJ (n:=3) hl rfl);subst e;exact⟨_,rfl,rfl⟩);have rz:=Ty.F.binds (ps:=["asker","order","first","place"]) (by exact λ_ _ _ _ _ _ us hl=>by obtain⟨_,_,_,_,e⟩:=uU hl;subst e;rfl);have oc:=ul.F.binds (ps:=["asker","left","right"]) (by exact λ_ _ _ _ _ _ us hl=>by obtain⟨_,_,_,e⟩:=gP hl;subst e;rfl);have pm:=YT.F.binds (ps:=["many","first","middle","beyond"]) (by exact λ_ _ _ _ _ _ us hl=>by obtain⟨_,_,_,_,e⟩:=uU hl;subst e;rfl);have kd:=wf.F.binds (ps:=["asker","least","part"]) (ds:=[]) (by exact λ_ _ _ _ _ _ _ us hl=>by obtain⟨_,_,_,e⟩:=gP (tJ (n:=3) hl rfl);subst e;exact⟨_,rfl,rfl⟩);have km:=wf.F.binds (ps:=["asker","least","part"]) (ds:=[.none]) (by exact λ_ _ _ _ _ _ _ us hl=>by obtain⟨_,_,e⟩:=gS (tJ (n:=2) hl rfl);subst e;exact⟨_,rfl,rfl⟩);have qd:=wf.F.binds (ps:=["asker","least","part"]) (ds:=[.int 1 dk,.none]) (by exact λ_ _ _ _ _ _ _ us hl=>by obtain⟨_,e⟩:=lE (tJ (n:=1) hl rfl);subst e;exact⟨_,rfl,rfl⟩);have i4:=YE.F.binds (ps:=["first","beyond"]) (by exact λ_ _ _ _ _ _ us hl=>by obtain⟨_,_,e⟩:=gS hl;subst e;rfl);have nw:=YC.F.binds (ps:=["asker","pieces"]) (by exact λ_ _ _ _ _ _ us hl=>by obtain⟨_,_,e⟩:=gS hl;subst e;rfl);have k8:=YQ.F.binds (ps:=["asker","pieces","mouths"]) (by exact λ_ _ _ _ _ _ us hl=>by obtain⟨_,_,_,e⟩:=gP hl;subst e;rfl);have hs:=IO.F.binds (ps:=["asker","pieces","mouths"]) (ds:=[]) (by exact λ_ _ _ _ _ _ _ us hl=>by obtain⟨_,_,_,e⟩:=gP (tJ (n:=3) hl rfl);subst e;exact⟨_,rfl,rfl⟩);have ot:=IO.F.binds (ps:=["asker","pieces","mouths"]) (ds:=[.int 2 bx]) (by exact λ_ _ _ _ _ _ _ us hl=>by obtain⟨_,_,e⟩:=gS (tJ (n:=2) hl rfl);subst e;exact⟨_,rfl,rfl⟩);have hb:=wT.F.binds (ps:=["asker","wide","mouths","least"]) (ds:=[]) (by exact λ_ _ _ _ _ _ _ us hl=>by obtain⟨_,_,_,_,e⟩:=uU (tJ (n:=4) hl rfl);subst e;exact⟨_,rfl,rfl⟩);have pn:=wT.F.binds (ps:=["asker","wide","mouths","least"]) (ds:=[.int 1 ao]) (by exact λ_ _ _ _ _ _ _ us hl=>by obtain⟨_,_,_,e⟩:=gP (tJ (n:=3) hl rfl);subst e;exact⟨_,rfl,rfl⟩);have ox:=wT.F.binds (ps:=["asker","wide","mouths","least"]) (ds:=[.int 2 c7,.int 1 ao]) (by exact λ_ _ _ _ _ _ _ us hl=>by obtain⟨_,_,e⟩:=gS (tJ (n:=2) hl rfl);subst e;exact⟨_,rfl,rfl⟩);have d9:=YG.F.binds (ps:=["asker","order","place"]) (by exact λ_ _ _ _ _ _ us hl=>by obtain⟨_,_,_,e⟩:=gP hl;subst e;rfl);have j0:=YJ.F.binds (ps:=["asker"]) (by exact λ_ _ _ _ _ _ us hl=>by obtain⟨_,e⟩:=lE hl;subst e;rfl);have iz:=T0.F.binds (ps:=["asker"]) (by exact λ_ _ _ _ _ _ us hl=>by obtain⟨_,e⟩:=lE hl;subst e;rfl);have jh:=P3.F.binds (ps:=["asker","left","right","many"]) (by exact λ_ _ _ _ _ _ us hl=>by obtain⟨_,_,_,_,e⟩:=uU hl;subst e;rfl);have go:=Re.F.binds (ps:=["asker","left","right","parts"]) (by exact λ_ _ _ _ _ _ us hl=>by obtain⟨_,_,_,_,e⟩:=uU hl;subst e;rfl);have it:=XV.F.binds (ps:=["asker","many"]) (by exact λ_ _ _ _ _ _ us hl=>by obtain⟨_,_,e⟩:=gS hl;subst e;rfl);have mb:=YS.F.binds (ps:=["_law_script","_law_k"]) (by exact λ_ _ _ _ _ _ us hl=>by obtain⟨_,_,e⟩:=gS hl;subst e;rfl);have q0:=Tm.F.binds (ps:=["_law_found"]) (by exact λ_ _ _ _ _ _ us hl=>by obtain⟨_,e⟩:=lE hl;subst e;rfl);have o7:=TD.F.binds (ps:=["_law_digit"]) (by exact λ_ _ _ _ _ _ us hl=>by obtain⟨_,e⟩:=lE hl;subst e;rfl);have mu:=YW.F.binds (ps:=["_law_cell","_law_k"]) (by exact λ_ _ _ _ _ _ us hl=>by obtain⟨_,_,e⟩:=gS hl;subst e;rfl);have m0:=W1.F.binds (ps:=["_law_many","_law_cell"]) (by exact λ_ _ _ _ _ _ us hl=>by obtain⟨_,_,e⟩:=gS hl;subst e;rfl);have oy:=wl.F.binds (ps:=["_law_many","_law_cell","_law_turns"]) (by exact λ_ _ _ _ _ _ us hl=>by obtain⟨_,_,_,e⟩:=gP hl;subst e;rfl);have q3:=Sc.F.binds (ps:=["_law_cell"]) (by exact λ_ _ _ _ _ _ us hl=>by obtain⟨_,e⟩:=lE hl;subst e;rfl);have se:=SB.F.binds (ps:=["_law_plain_here","_law_table_here","_law_x","_law_y"]) (by exact λ_ _ _ _ _ _ us hl=>by obtain⟨_,_,_,_,e⟩:=uU hl;subst e;rfl);have r4:=YU.F.binds (ps:=["_law_part","_law_table_here","_law_x","_law_y"]) (by exact λ_ _ _ _ _ _ us hl=>by obtain⟨_,_,_,_,e⟩:=uU hl;subst e;rfl);have o3:=Pv.F.binds (ps:=["_law_parts_here","_law_table_here","_law_x","_law_y"]) (by exact λ_ _ _ _ _ _ us hl=>by obtain⟨_,_,_,_,e⟩:=uU hl;subst e;rfl);have mz:=UF.F.binds (ps:=["_law_plain_here","_law_table_here"]) (by exact λ_ _ _ _ _ _ us hl=>by obtain⟨_,_,e⟩:=gS hl;subst e;rfl);have nu:=Tk.F.binds (ps:=["_law_found","_law_many"]) (by exact λ_ _ _ _ _ _ us hl=>by obtain⟨_,_,e⟩:=gS hl;subst e;rfl);have og:=YL.F.binds (ps:=["_law_goes_here"]) (by exact λ_ _ _ _ _ _ us hl=>by obtain⟨_,e⟩:=lE hl;subst e;rfl);have mi:=YY.F.binds (ps:=["_law_found","_law_due"]) (by exact λ_ _ _ _ _ _ us hl=>by obtain⟨_,_,e⟩:=gS hl;subst e;rfl);have p1:=ut.F.binds (ps:=["_law_cell","_law_many"]) (by exact λ_ _ _ _ _ _ us hl=>by obtain⟨_,_,e⟩:=gS hl;subst e;rfl);have m4:=YD.F.binds (ps:=["_law_cell","_law_many"]) (by exact λ_ _ _ _ _ _ us hl=>by obtain⟨_,_,e⟩:=gS hl;subst e;rfl);have pe:=YF.F.binds (ps:=["_law_paper_here","_law_answers"]) (by exact λ_ _ _ _ _ _ us hl=>by obtain⟨_,_,e⟩:=gS hl;subst e;rfl);have re:=dL.F.binds (ps:=["_law_goes_here","_law_found"]) (by exact λ_ _ _ _ _ _ us hl=>by obtain⟨_,_,e⟩:=gS hl;subst e;rfl);have p6:=YN.F.binds (ps:=["_law_goes_here","_law_counts_here"]) (by exact λ_ _ _ _ _ _ us hl=>by obtain⟨_,_,e⟩:=gS hl;subst e;rfl);have pd:=UV.F.binds (ps:=["_law_order","_law_cell"]) (by exact λ_ _ _ _ _ _ us hl=>by obtain⟨_,_,e⟩:=gS hl;subst e;rfl);have rk:=u8.F.binds (ps:=["_law_way","_law_asker","_law_order","_law_cell"]) (by exact λ_ _ _ _ _ _ us hl=>by obtain⟨_,_,_,_,e⟩:=uU hl;subst e;rfl);have qk:=sK.F.binds (ps:=["_law_parts_here","_law_table_here"]) (by exact λ_ _ _ _ _ _ us hl=>by obtain⟨_,_,e⟩:=gS hl;subst e;rfl);have lj:=YK.F.binds (ps:=["_law_row","_law_rule_here","_law_due","_law_cell"]) (by exact λ_ _ _ _ _ _ us hl=>by obtain⟨_,_,_,_,e⟩:=uU hl;subst e;rfl);have qn:=ST.F.binds (ps:=["_law_row","_law_rule_here","_law_cell"]) (by exact λ_ _ _ _ _ _ us hl=>by obtain⟨_,_,_,e⟩:=gP hl;subst e;rfl);have p9:=NI (st:=C2) tn tr tq;have u0:=p9.binds (ps:=["_law_script"]) (by exact λ_ _ _ _ _ _ us hl=>by obtain⟨_,e⟩:=lE hl;subst e;rfl);have T:Bt K mg Y4 Zc Y0 Y3 Y5 Za Y6 Y8 Y7 Y9 Zb:=⟨Rb X G t9,Rb X G om,Rb X G oq,Rb X G q5,Rb X G iw,Rb X G rm,Rb X G t6,Rb X G tf,Rb X G t7,Rb X G tj,Rb X G o5,Rb X G k2,Rb X G tp,Rb X G ss,Rb X G j7,⟨_,QN X G t1⟩,⟨_,QN X G pa⟩,⟨_,QN X G gw⟩,⟨_,QN X G i3⟩,⟨_,QN X G tx⟩,⟨_,QN X G rr⟩,QN X G oz,h7,mh,lp,l7,ke,lw,QN X G p7,bu,kw,ko,k9,io,QN X G pb,ah,ey,dh,f3,c9,co,QN X G p5,av,ed,dt,f2,c4,d3,QN X G pi,b1,kl,ka,k6,m5,i7,jl,iu,j6,QN X G ou,n1,hk,QN X G ph,nk,o1,mo,QN X G oo,nn,nt,ky,QN X G ov,nc,o2,k1,QN X G pu,na,jy,QN X G pf,n2,kt,j4,ii,fn⟩
 refine⟨W.fnOf "law" "law" (AY C2) (xX C2) (aZ C2) .none n5 nj n8 n6 jz ng,λs v=>.of_eq rfl,λbase _ _=>?_⟩;have nv:Fn l.prog w K mg base _ _ _ _ _:=⟨_,_,Qh wl.F T,oy,wl.k,QN X G wl.a⟩
 have nz:Fn l.prog w K mg base _ _ _ _ _:=⟨_,_,QD Sc.F T,q3,Sc.k,QN X G Sc.a⟩
 have o4:Fn l.prog w K mg base _ _ _ _ _:=⟨_,_,Pt ut.F T nz,p1,ut.k,QN X G ut.a⟩
 have aw:Fn l.prog w K mg base _ _ _ _ _:=⟨_,_,P8 YV.F T,kx,YV.k,QN X G YV.a⟩
 have fj:Fn l.prog w K mg base _ _ _ _ _:=⟨_,_,PD SC.F T aw,h5,SC.k,QN X G SC.a⟩
 have qj:Kl l.prog w K mg base _ _ _ _ _ _:=⟨QN X G ou,_,_,PN WP.F T fj,gq,sa,WP.a,WP.i,sh⟩
 have qr:Kl l.prog w K mg base _ _ _ _ _ _:=⟨QN X G ov,_,_,Pp Rs.F T aw,f9,qb,Rs.a,Rs.i,qy⟩
 have t3:Kl l.prog w K mg base _ _ _ _ _ _:=⟨QN X G ph,_,_,Qr WF.F T aw,g0,ry,WF.a,WF.i,qe⟩
 have s4:Kl l.prog w K mg base _ _ _ _ _ _:=⟨QN X G oo,_,_,Qd SL.F T aw,ff,rc,SL.a,SL.i,rx⟩
 have kz:Fn l.prog w K mg base _ _ _ _ _:=⟨_,_,P2 UF.F T qj qr t3 s4,mz,UF.k,QN X G UF.a⟩
 have t4:Kl l.prog w K mg base _ _ _ _ _ _:=⟨QN X G pf,_,_,Oz YO.F T,em,su,YO.a,YO.i,sw⟩
 have t0:Kl l.prog w K mg base _ _ _ _ _ _:=⟨QN X G pu,_,_,PK Uf.F T,fh,sc,Uf.a,Uf.i,sb⟩
 have p0:Fn l.prog w K mg base _ _ _ _ _:=⟨_,_,QF sK.F T kz t4 t0,qk,sK.k,QN X G sK.a⟩
 have n0:Fn l.prog w K mg base _ _ _ _ _:=⟨_,_,PR YL.F T,og,YL.k,QN X G YL.a⟩
 have nx:Fn l.prog w K mg base _ _ _ _ _:=⟨_,_,Qy YN.F T,p6,YN.k,QN X G YN.a⟩
 have ab:Mt l.prog w K mg base _ _ _ _ _ _:=⟨n1,_,_,PV AC.F T,ei,AC.a,AC.i,AC.k⟩
 have Z:Mt l.prog w K mg base _ _ _ _ _ _:=⟨nk,_,_,Qp EQ.F T,e0,EQ.a,EQ.i,EQ.k⟩
 have aa:Mt l.prog w K mg base _ _ _ _ _ _:=⟨nn,_,_,Ol Fa.F T,e1,Fa.a,Fa.i,Fa.k⟩
 have U:Mt l.prog w K mg base _ _ _ _ _ _:=⟨nc,_,_,PZ Id.F T,d6,Id.a,Id.i,Id.k⟩
 have ad:Mt l.prog w K mg base _ _ _ _ _ _:=⟨na,_,_,Ow zn.F T ab Z aa U,e5,zn.a,zn.i,zn.k⟩
 have am:Mt l.prog w K mg base _ _ _ _ _ _:=⟨n2,_,_,O7 AT.F T ab Z aa U ad,d5,AT.a,AT.i,AT.k⟩
 have ht:Fn l.prog w K mg base _ _ _ _ _:=⟨_,_,Qn YH.F T ab Z aa U ad am,j3,YH.k,QN X G YH.a⟩
 have ew:Fn l.prog w K mg base _ _ _ _ _:=⟨_,_,Qc TW.F T,l0,TW.k,QN X G TW.a⟩
 have eo:Fn l.prog w K mg base _ _ _ _ _:=⟨_,_,O1 YI.F T ew,fq,YI.k,QN X G YI.a⟩
 have jk:Fn l.prog w K mg base _ _ _ _ _:=⟨_,_,Px Tl.F T,kj,Tl.k,QN X G Tl.a⟩
 have hr:Fn l.prog w K mg base _ _ _ _ _:=⟨_,_,O2 YM.F T ew,jd,YM.k,QN X G YM.a⟩
 have gx:Fn l.prog w K mg base _ _ _ _ _:=⟨_,_,Oy PP.F T hr,he,PP.k,QN X G PP.a⟩
 have lf:Fn l.prog w K mg base _ _ _ _ _:=⟨_,_,Oj wn.F T gx,me,wn.k,QN X G wn.a⟩
 have my:Fn l.prog w K mg base _ _ _ _ _:=⟨_,_,Oq SZ.F T ht eo jk lf,oh,SZ.k,QN X G SZ.a⟩
 have O:Mt l.prog w K mg base _ _ _ _ _ _:=⟨h7,_,_,Ox KK.F T,il,KK.a,KK.i,KK.k⟩
 have f4:Mt l.prog w K mg base aC Y0 "top" 1 ["self"]<|nV false Y0:=⟨ah,_,_,Oa wv.F T az,gd,wv.a,wv.i,wv.k⟩
 have hp:Mt l.prog w K mg base aC Y0 "first" 2 ["self"]<|ip false Y0:=⟨ah,_,_,Ob wP.F T az f4,df,wP.a,wP.i,wP.k⟩
 have bf:Mt l.prog w K mg base aC Y3 "top" 1 ["self"]<|nV true Y3:=⟨av,_,_,Oa wv.F T ac,gd,gy,wv.i,wv.k⟩
 have e6:Mt l.prog w K mg base aC Y3 "first" 2 ["self"]<|ip true Y3:=⟨av,_,_,Ob wP.F T ac bf,df,ez,wP.i,wP.k⟩
 have b9:Mt l.prog w K mg base aC Y0 "front_of" 1 ["self","piece","taken"]<|cN false Y0:=⟨ah,_,_,Qe M2.F T,fg,M2.a,M2.i,M2.k⟩
 have J:Mt l.prog w K mg base _ _ _ _ _ _:=⟨h7,_,_,Ou GM.F T ab Z aa U ad am,i5,GM.a,GM.i,GM.k⟩
 have g9:Mt l.prog w K mg base aC Y0 "goes_on" 5 ["self","p","q"]<|dE Y4 (aN.mk K Za Y6 Y8 Y7 Y9 Zb) false Y0:=⟨ah,_,_,Qz Do.F T J,gv,Do.a,Do.i,Do.k⟩
 have jx:Mt l.prog w K mg base aC Y0 "met" 6 ["self","one","other"]<|lT Y4 (aN.mk K Za Y6 Y8 Y7 Y9 Zb) false Y0:=⟨ah,_,_,Of wS.F T az g9,gg,wS.a,wS.i,wS.k⟩
 have di:Mt l.prog w K mg base aC Y0 "held" 7 ["self","meetings","went_on"]<|ib Y4 (aN.mk K Za Y6 Y8 Y7 Y9 Zb) false Y0:=⟨ah,_,_,Oc wr.F T az jx,ef,wr.a,wr.i,wr.k⟩
 have de:Mt l.prog w K mg base aC Y0 "take" 8 ["self"]<|fI Y4 (aN.mk K Za Y6 Y8 Y7 Y9 Zb) false Y0:=⟨ah,_,_,Od ww.F T az f4 b9 di,eg,ww.a,ww.i,ww.k⟩
 have af:Mt l.prog w K mg base aC Y3 "front_of" 1 ["self","piece","taken"]<|cN true Y3:=⟨av,_,_,Om LE.F T,cj,LE.a,LE.i,LE.k⟩
 have d0:Mt l.prog w K mg base aC Y3 "goes_on" 5 ["self","p","q"]<|dE Y4 (aN.mk K Za Y6 Y8 Y7 Y9 Zb) true Y3:=⟨av,_,_,PM Gc.F T J,d8,Gc.a,Gc.i,Gc.k⟩
 have g8:Mt l.prog w K mg base aC Y3 "met" 6 ["self","one","other"]<|lT Y4 (aN.mk K Za Y6 Y8 Y7 Y9 Zb) true Y3:=⟨av,_,_,Of wS.F T ac d0,gg,gm,wS.i,wS.k⟩
 have b2:Mt l.prog w K mg base aC Y3 "held" 7 ["self","meetings","went_on"]<|ib Y4 (aN.mk K Za Y6 Y8 Y7 Y9 Zb) true Y3:=⟨av,_,_,Oc wr.F T ac g8,ef,g3,wr.i,wr.k⟩
 have er:Mt l.prog w K mg base aC Y3 "take" 8 ["self"]<|fI Y4 (aN.mk K Za Y6 Y8 Y7 Y9 Zb) true Y3:=⟨av,_,_,Od ww.F T ac bf af b2,eg,fv,ww.i,ww.k⟩
 have bw:Fn l.prog w K mg base aC "meetings_of" 9 ["first","beyond"]<|cB 9:=yQ (sp:=cB) (λ_ _ _ _ z=>mO z) i4 YE.k (QN X G YE.a) (λn h=>PC YE.F T h) 9;have q4:Kl l.prog w K mg base aC "LastPour" Y3 10 ["self","asker","pieces"]<|bQ Y4 (aN.mk K Za Y6 Y8 Y7 Y9 Zb) true Y3:=⟨QN X G p5,_,_,Oe xL.F T ac bw b2 af,eu,r3,g4,xL.i,r8⟩
 have ni:Kl l.prog w K mg base aC "Pour" Y0 10 ["self","asker","pieces"]<|bQ Y4 (aN.mk K Za Y6 Y8 Y7 Y9 Zb) false Y0:=⟨QN X G pb,_,_,Oe xL.F T az bw di b9,eu,ri,xL.a,xL.i,r2⟩
 have ce:Fn l.prog w K mg base _ _ _ _ _:=⟨_,_,QE XV.F T O hp e6 de er q4 ni,it,XV.k,QN X G XV.a⟩
 have fu:Fn l.prog w K mg base _ _ _ _ _:=⟨_,_,Qq Tm.F T,q0,Tm.k,QN X G Tm.a⟩
 have hh:Fn l.prog w K mg base _ _ _ _ _:=⟨_,_,PH Tk.F T fu,nu,Tk.k,QN X G Tk.a⟩
 have cy:Fn l.prog w K mg base _ _ _ _ _:=⟨_,_,Qv YY.F T fu,mi,YY.k,QN X G YY.a⟩
 have o0:Fn l.prog w K mg base _ _ _ _ _:=⟨_,_,Qo UV.F T,pd,UV.k,QN X G UV.a⟩
 have ag:Mt l.prog w K mg base _ _ _ _ _ _:=⟨bu,_,_,Pq Ix.F T,gn,Ix.a,Ix.i,Ix.k⟩
 have dz:Mt l.prog w K mg base _ _ _ _ _ _:=⟨bu,_,_,PF KB.F T ag,ea,KB.a,KB.i,KB.k⟩
 have b4:Mt l.prog w K mg base _ _ _ _ _ _:=⟨bu,_,_,P9 Fk.F T,fy,Fk.a,Fk.i,Fk.k⟩
 have cf:Mt l.prog w K mg base _ _ _ _ _ _:=⟨bu,_,_,O0 Ps.F T,jg,Ps.a,Ps.i,Ps.k⟩
 have kv:Mt l.prog w K mg base _ _ _ _ _ _:=⟨bu,_,_,PJ GE.F T ag J cf,l8,GE.a,GE.i,GE.k⟩
 have op:Fn l.prog w K mg base _ _ _ _ _:=⟨_,_,Op Ty.F T J,rz,Ty.k,QN X G Ty.a⟩
 have g7:Mt l.prog w K mg base _ _ _ _ _ _:=⟨bu,_,_,Py GT.F T op ag b4 cf,h3,GT.a,GT.i,GT.k⟩
 have si:Kl l.prog w K mg base _ _ _ _ _ _:=⟨QN X G p7,_,_,QA YZ.F T,kg,qp,YZ.a,YZ.i,r1⟩
 have ic:Fn l.prog w K mg base _ _ _ _ _:=⟨_,_,P1 ul.F T dz b4 kv g7 si,oc,ul.k,QN X G ul.a⟩
 have hz:Fn l.prog w K mg base _ _ _ _ _:=⟨_,_,Qm P3.F T J,jh,P3.k,QN X G P3.a⟩
 have fk:Fn l.prog w K mg base _ _ _ _ _:=⟨_,_,Pu Re.F T ic hz,go,Re.k,QN X G Re.a⟩
 have gf:Fn l.prog w K mg base _ _ _ _ _:=⟨_,_,Ov YX.F T J,mr,YX.k,QN X G YX.a⟩
 have h9:Fn l.prog w K mg base _ _ _ _ _:=⟨_,_,QG YJ.F T gf O,j0,YJ.k,QN X G YJ.a⟩
 have cw:Fn l.prog w K mg base _ _ _ _ _:=⟨_,_,O4 YG.F T J,d9,YG.k,QN X G YG.a⟩
 have ij:Fn l.prog w K mg base _ _ _ _ _:=⟨_,_,PY T0.F T cw O,iz,T0.k,QN X G T0.a⟩
 have ch:Mt l.prog w K mg base _ _ _ _ _ _:=⟨b1,_,_,P6 Pi.F T,jf,Pi.a,Pi.i,Pi.k⟩
 have bm:Mt l.prog w K mg base _ _ _ _ _ _:=⟨b1,_,_,QB IR.F T,bp,IR.a,IR.i,IR.k⟩
 have e8:Mt l.prog w K mg base _ _ _ _ _ _:=⟨b1,_,_,Ql KM.F T,fe,KM.a,KM.i,KM.k⟩
 have ee:Mt l.prog w K mg base _ _ _ _ _ _:=⟨b1,_,_,Qb IN.F T ic e8,fm,IN.a,IN.i,IN.k⟩
 have g1:Fn l.prog w K mg base _ _ _ _ _:=⟨_,_,Qi FM.F T J O,f6,FM.k,QN X G FM.a⟩
 have l6:Fn l.prog w K mg base _ _ _ _ _:=⟨_,_,Pr YR.F T,m6,YR.k,QN X G YR.a⟩
 have m8:Fn l.prog w K mg base _ _ _ _ _:=⟨_,_,O6 Ev.F T g1 l6 gf O,ld,Ev.k,QN X G Ev.a⟩
 have ob:Fn l.prog w K mg base _ _ _ _ _:=⟨_,_,Qx YT.F T,pm,YT.k,QN X G YT.a⟩
 have cb:Mt l.prog w K mg base _ _ _ _ _ _:=⟨b1,_,_,Qg FB.F T ob,cz,FB.a,FB.i,FB.k⟩
 have kh:Mt l.prog w K mg base _ _ _ _ _ _:=⟨b1,_,_,Qs FS.F T m8 cb,ly,FS.a,FS.i,FS.k⟩
 have dd:Mt l.prog w K mg base _ _ _ _ _ _:=⟨b1,_,_,Oo Go.F T bm ee kh,kq,Go.a,Go.i,Go.k⟩
 have nf:Kl l.prog w K mg base _ _ _ _ _ _:=⟨QN X G pi,_,_,Os xz.F T O,ie,s8,xz.a,xz.i,r5⟩
 have iy:NV l.prog w K mg base aC "by_pile" 10 ["asker","least","part"] (dF Y4<|aN.mk K Za Y6 Y8 Y7 Y9 Zb) [.VA]:=⟨_,_,_,Og wf.F T ch dd nf,km,(.cons rfl .nil),wf.k,QN X G wf.a⟩
 have ll:Fn l.prog w K mg base _ _ _ _ _:=⟨_,_,Og wf.F T ch dd nf,kd,wf.k,QN X G wf.a⟩
 have je:Mt l.prog w K mg base aC Y0 "left" 1 ["self"]<|pL false Y0:=⟨ah,_,_,P0 NE.F T az,k4,NE.a,NE.i,NE.k⟩
 have hg:Fn l.prog w K mg base _ _ _ _ _:=⟨_,_,Pz YC.F T de je ni,nw,YC.k,QN X G YC.a⟩
 have ja:Fn l.prog w K mg base _ _ _ _ _:=⟨_,_,QC YQ.F T hg,k8,YQ.k,QN X G YQ.a⟩
 have im:Fn l.prog w K mg base _ _ _ _ _:=⟨_,_,Qf IO.F T ja,hs,IO.k,QN X G IO.a⟩
 have jb:Fn l.prog w K mg base _ _ _ _ _:=⟨_,_,Qa wT.F T ll im O,hb,wT.k,QN X G wT.a⟩
 have lv:Fn l.prog w K mg base _ _ _ _ _:=⟨_,_,O8 u8.F T o0 fk h9 ij iy jb hg,rk,u8.k,QN X G u8.a⟩
 have no:Fn l.prog w K mg base _ _ _ _ _:=⟨_,_,Qk YF.F T,pe,YF.k,QN X G YF.a⟩
 have ek:Mt l.prog w K mg base _ _ _ _ _ _:=⟨h7,_,_,O3 KF.F T,fw,KF.a,KF.i,KF.k⟩
 have jt:J1 l.prog w K mg base aC "Asker" Y4 1 ["self","row","rule","most"] (cE Y4) [.VA]:=⟨QN X G oz,_,_,_,PU At.F T,gu,(.cons rfl .nil),ql,At.a,At.i,rt⟩
 have kp:Fn l.prog w K mg base _ _ _ _ _:=⟨_,_,Oh YK.F T ce hh cy lv no ek jt,lj,YK.k,QN X G YK.a⟩
 have lq:Fn l.prog w K mg base _ _ _ _ _:=⟨_,_,P7 YS.F T,mb,YS.k,QN X G YS.a⟩
 have gh:Fn l.prog w K mg base _ _ _ _ _:=⟨_,_,P4 YW.F T,mu,YW.k,QN X G YW.a⟩
 have k3:Fn l.prog w K mg base _ _ _ _ _:=⟨_,_,PQ W1.F T gh,m0,W1.k,QN X G W1.a⟩
 have kc:Fn l.prog w K mg base _ _ _ _ _:=⟨_,_,Qj YD.F T gh,m4,YD.k,QN X G YD.a⟩
 have pq:Fn l.prog w K mg base _ _ _ _ _:=⟨_,_,On dL.F T fu,re,dL.k,QN X G dL.a⟩
 have p4:Fn l.prog w K mg base _ _ _ _ _:=⟨_,_,O5 ST.F T hh lv ce cy jt,qn,ST.k,QN X G ST.a⟩
 have mm:Fn l.prog w K mg base _ _ _ _ _:=⟨_,_,Qu TD.F T,o7,TD.k,QN X G TD.a⟩
 have on:Fn l.prog w K mg base _ _ _ _ _:=⟨_,_,O9 SB.F T,se,SB.k,QN X G SB.a⟩
 have pj:Fn l.prog w K mg base _ _ _ _ _:=⟨_,_,Qw YU.F T on,r4,YU.k,QN X G YU.a⟩
 have mq:Fn l.prog w K mg base _ _ _ _ _:=⟨_,_,Oi Pv.F T pj,o3,Pv.k,QN X G Pv.a⟩
 exact Ot p9 T nv o4 p0 n0 nx my kp lq k3 kc pq p4 cy mm mq
theorem walk{l:Uk}{q:Q6}{loose:List Q3}{XP:(Q3->Option QM)->Rv->Prop}{YP:Rf->Rv->Prop}{d:DefRec}{K:Params->W.Frag}(hn:l.most=some 63)(J:d.params.defaults=[])
  (U:∀(w:Rf) (h:Rv),YP w h->(K w.params).In h)
  (F:∀(w:Rf) (mg:Q3->Option QM) (O:QK) (h:Rv),(K w.params).In h->h.Ns QV mg->mg d.name=some (.ref O)-> ∃fd:RX,(∀(s:QO) (u:QM),U0 s fd ⟨[u],[]⟩ [("_law_script",u)])/\∀base:Rv,(K w.params).In base->base.Ns QV mg->aF l.prog w (K w.params) mg base aC 18 O fd ["_law_script"] (qV<|K w.params)):
  PySem.W.WalkO q loose XP YP l.row.toRowW d [] λf vs=>PySem.call f vs:=
 L2.Bq (n:=63) (k:=18) (x:="_law_script") (CX:=λ_=>aC) (sp:=λw=>qV<|K w.params) hn (by decide) J ⟨rfl,by decide,by decide,rfl⟩ U F (λ_ _ a ns hl _ hS=>⟨a,ns,rfl,hS,hl,λ_=>rfl⟩) λ_ _ _ _ _ z=>z
end Law
open PySem PySem.W PyProof.Rows L2
set_option maxRecDepth 100000 in
set_option maxHeartbeats 0 in
theorem PySem.Challenge.cw_sorthall_k94_whole_any_rule_holds : PySem.Challenge.rw_sorthall_k94_whole_any_rule.Holds := by
 refine L2.Xw ?_
 k_fill
 refine Law.walk (l:=PySem.Challenge.rw_sorthall_k94_whole_any_rule) rfl rfl (λw h Y=>PySem.W.kIn_of Y) ?F
 case F=>
  intro w mg fa h KX G hmg;apply Law.all_mk KX G hmg
  (all_goals try first|k_is|kit_is|(refine' ⟨?qa_,?qi_,?qF_,?qk_⟩;(case qa_=>k_is);(case qi_=>k_is);(case qF_=>(refine' OJ ?_ ?_ ?_ ?_;all_goals try k_is));(case qk_=>k_is))|(refine' ⟨?qa_,?qi_,?qF_,?qk_⟩;(case qa_=>k_is);(case qi_=>k_is);(case qF_=>(refine' NI ?_ ?_ ?_;all_goals try k_is));(case qk_=>k_is))|(refine' ⟨?qa_,?qF_,?qk_⟩;(case qa_=>k_is);(case qF_=>(refine' NI ?_ ?_ ?_;all_goals try k_is));(case qk_=>k_is))|(refine' ⟨?qa_,?qF_,?qk_⟩;(case qa_=>k_is);(case qF_=>(refine' OJ ?_ ?_ ?_ ?_;all_goals try k_is));(case qk_=>k_is))|kernel_rfl)
