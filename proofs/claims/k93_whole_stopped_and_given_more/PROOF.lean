import PyProof.Rows.All
import Wide.All
import OpenK.AllK
import Wide.FinOn
import Lean
import PyProof.EqAt
import PyProof.EqKinds
import PyProof.TupleCall
import PyProof.Rows.TupIter
import PyProof.Seq
import KE.KRevIter
import PyProof.CollectIter
import PyProof.SumWalkG
import KE.KDictOf
import PyProof.IsiH_list
import PyProof.RaisesAny
import PyProof.P3In
import KE.KSortTup
import PyProof.Rows.FStrParts
import PyProof.Rows.SortRev
import PySem.Challenge.RW_sorthall_k93_whole_stopped_and_given_mor
set_option genSizeOf false
set_option compiler.extract_closed false
set_option Elab.async false
set_option linter.all false
set_option maxRecDepth 100000
local macro_rules | `(#[$xs,*])=>`(⟨$xs,*⟩)
local macro_rules | `(∅)=>`(by lia)
local macro_rules | `(nofun)=>`(by intro _ _ _ _ h;cases h;subst_vars;rfl)
open List renaming length_map->aM,length_append->aQ,mem_cons_self->aZ,mem_cons_of_mem->bF,getElem?_eq_getElem->bV,mem_cons->bY,length_cons->cF,mem_singleton->cI,map_append->cU,not_mem_nil->dU,getElem?_map->eJ,getD_eq_getElem?_getD->fC,mem_append_right->fN,length_singleton->fM,append_assoc->fL,prefix_refl->fK,length_range->fW,length_drop->gP,mem_append->gZ,append_nil->iG,length_take->iF,map_cons->iK,size_toArray->iJ,mem_of_getElem?->jD,getElem?_eq_some_iff->jS,getElem?_append_right->kE,mem_append_left->mC,getElem?_append_left->mB,count_append->ph,mem_range->qb,mem_map->qg,take_append_drop->qf,getElem?_eq_none->r9,length_nil->r6,count_cons->r0,take_of_length_le->tM,flatten_append->tJ,length_replicate->vR,length_eq_zero_iff->Az,drop_eq_getElem_cons->Ay,nodup_range->Ax,lookup_cons->AZ,getElem?_drop->AY,length_range'->C9,filter_append->C8,nodup_append->C6,mem_filter->Ey,nodup_cons->Ex,take_sublist->Ew,mem_of_mem_drop->Eu,map_take->Es,map_drop->Er,getElem?_range->Ep,cons_append->Eo,map_map->En,pairwise_cons->Em,count_nil->El,mem_range'_1->Ek,getElem?_set_self->GO,getElem?_set_ne->GN,mem_filterMap->GL,getElem?_take_of_lt->GK,length_set->GJ,any_cons->GI,reverse_cons->GH,length_reverse->GG,mem_reverse->GF,forIn_nil->GD,find?_cons->GC,pairwise_map->GB
open Option renaming some->Zh,none->Zi
open Bool renaming true->Zj,false->Zk
open Nat renaming le_refl->aN,zero_le->cQ,le_trans->dJ,ne_of_lt->fQ,lt_of_lt_of_le->jI,le_succ->kR,sub_self->kP,zero_add->rZ,min_eq_left->vQ,lt_irrefl->AA,le_of_lt->Bb,lt_succ_self->Ba,zero_mul->Di,succ_mul->C7,le_add_right->Et,add_sub_cancel_left->GA
open Bool renaming false_ne_true->kS,and_eq_true->tK,false_eq_true->Dj
open Option renaming map_eq_some_iff->Bc,map_some->Dk
open PySem renaming wpAny_bind->OQ,Value->OR,Addr->OS,Heap.get?_push_of_some->OT,Shared->OU,wpAny_pure->OV,wpAny->OZ,Heap.lt_size->Pa,starEach->Pb,model->Pd,Heap.get?_push_size->Pf,mainGlobals->Ph,Str->Pj,Program->Pl,Builtin.Range.rangeSize->Pn,Heap.SameBut->Pr,wpAny_mono->Pu,Around->Py,wpAny_holding->PC,boot_len->PF,mem_of_lookup->PH,Heap->PJ,Stmt->PM,World->PN,Heap.get?_update_self->PQ,tupleKind->PR,cellsFrom->P0,Expr->P1,Builtin.SmallTypes.nextOf->P2,foldedSetIterable->P7,wpAny_field->Qb,backTo->Qd,Heap.get?_update_other->Qe,Obj->Qf,FuncData->Qg,wpAny_setField_rec->Qj,wpAny_Call_Name_kw->Qk,entryOfKey->Ql,PyData.canLayAll0->Qn,PyData.depthAll->Qo,Scope->Qq,wpAny_nextOf_list_item->Qr,Builtin.SmallTypes.ownedTupleIsFree->Qv,assignEach->Qw,compareOp->Qz,keywordEach->QA,wpAny_standAt->QC,sizeLine_eq->QG,Obj.mapSeq->QJ,wpAny_passesOwn->QM,PyData.eqvAll->QN,rawInt->QO,IsPair->QP,wpAny_seqItems->QS,sysModules->QT,NameKind->QV,Heap.size_push->QW,wpAny_call_entry->QX,treeTable->QY,codeAny_mono->QZ,Arguments->Q0,Builtin.Tuple.tupleHashOf->Q3,Heap.get?_update_ne->Q7,Obj.mapFields->Q8,letOwnedTupleGo->Q9,codeAny->Ra,wpAny_callSpecial?_slot->Rg,noteFrame->Rh,Heap.ExtBut->Ri,wpAny_loadPart_at->Rk,bootBuiltins->Rl,binaryOp->Rm,backToKw->Rn,Str.ofString->Ro,wpAny_nextOf_list_end->Rv,wpAny_call->Rz,swapsWith->RA,Pos->RC,wpAny_attempt->RE,attributeBase->RF,OsState->RH,sliceBounds->RI,Env->RN,wpAny_execs_nil->RO,PyData->RR,Builtin->RV,getMethod->RW,Str.empty->RX,Obj.data_mapFields->R1,wpAny_truthy_bool->Se,wpAny_dictEntries->Sg,standAt->Sh,wpAny_onRaise->Si,Builtin.List.listTooLong->So,wpAny_isInstance->Sr,wpAny_execs_cons->Ss,PyData.depth->SD,wpAny_specialOf->SE,pushCells_keeps->SF,importedModules->SG,Sem->SH,Model->SI,F.slot_zip_next->SN,wpAny_updateSeq_pair->SU,wpAny_newTuple->SV,unbindBehindTheSuite->SW,excClassObj->SY,codeAny_call_builtin->S0,PyData.canLay0->S8,Heap.get?_none_of_le->Tc,notedBy->Tf,Builtin.SmallTypes.ownedTupleHandOut->To,Builtin.Range.small->Tp,behindInMarks->Tq,Paired.length->Ts,wpAny_rule->Tt,tupleKind_room_in1->Tv,pyNext->Tx,call_meets->Tz,builtinsNs->TB,PyData.int->TF,PyData.eqv->TH,wpAny_newObj_type->TJ,wpAny_assign_Name->TK,valueAt->TL,callerA->TM,callWith->TN,ZipApart->TQ,Operator->TR,Heap.SameBut.refl->TV,ExcBaseFacts->TY,Around.under->TZ,plainObj_wpAny_Assign_Attribute->T1,wpAny_lookBehind->T5,wpAny_eqBool_int->T6,wpAny_comp_letGo->T7,pastItsLine_dict->T8,wpAny_letGo->T9,cLine->Ua,IsRangeIter->Ub,Builtin.BaseException.bexcPut->Uc,PassesOwn.never->Ud,Builtin.Dict.entriesForEmpty->Ue,getItem->Ug,wpAny_setField->Ui,wpAny_newFunctionEnv_cells->Uj,wpAny_loadPart->Uk,typeLookup->Ul,setField->Um,newFunctionEnv->Uo,isSubtype_stop->Uq,closureFor->Ur,bindArgs->Us,atKey->Ut,GenState->Uu,Calls.Name_function_global->Uv,Builtin.bitAnd->Uw
open List renaming range->OW,replicate->Pp,range'->Pz,length->PV,lookup->Qp,filter_cons_of_neg->QB,drop_eq_nil_of_le->QD,concat_eq_append->QH,prefix_append->Q2,filter_cons_of_pos->Q6,take_add_one->Rb,drop_of_length_le->Rc,eq_nil_or_concat->Rj,mem_of_mem_take->Ru,range_succ->Rw,of_mem_zip->Rx,length_flatten->RD,ext_getElem?->RU,take_length->R4,getElem_mem->R5,length_filter_le->Sq,take_succ->Sx,getElem?_of_mem->Sy,drop_drop->Sz,mem_map_of_mem->SJ,map_congr_left->SK,filterMap_cons->SM,drop_sublist->Tg,take_left->T3
open Option.some renaming inj->OX
open PySem.W renaming mg_of->OY,mg_none_of->PY,hasDictIn->PZ,kitOne->P6,kia_one->Qa,plainGet->Qc,plainOver->Qh,makesIn->Qs,instObj->Qu,fnMade->Qx,CodeHd->Qy,boot_heap->QE,tabObj->QI,callWith_K->QU,specialIn->RM,mroIn->RQ,envX->RZ,cellsFrom_some->R0,hideAll->R3,methodCall_KW->R6,noTabs->Sj,lookIn->Sk,plainGet_of->Su,tabIn->Sv,methodObj->SO,isFn->SQ,FnAt->SR,topFrom->Te,takesIn->Th,takerIn->Ti,InstAt->TC,kas_sort->Up
open Ne renaming symm->Pe
open PySem.F renaming plainAttrs_list->Pk,type_list_append->P8,slot_list_append->P9,type_list_insert->QQ,slot_list_insert->QR,excBase_ValueError->RB,type_list_pop->R7,slot_list_pop->R8,slot_dict_get->R9
open Int renaming emod_nonneg->Pq,emod_lt_of_pos->Px,zero_add->QF,fdiv_eq_ediv_of_nonneg->RS
open False renaming elim->PD
open Prod renaming fst->PU
open PyProof.Rows renaming boot_list->P4,callWith_type1->Qi,boot_min->Qm,boot_sorted->QK,AllBare->Q1,boot_range->RG,envOfC->RP,boot_max->RT,seqObj->RY,callWith_builtin1->Sw,IntsAre->Uh
open Classical renaming byContradiction->QL
open PySem.StrLaws renaming seqIndex_nonneg->Q4
open Nat renaming lt_of_le_of_lt->Q5,min_eq_right->Rp,ne_of_gt->RJ,mul_succ->RK,le_of_not_lt->Sa,mod_lt->Sl,le_of_eq->Sm,add_zero->Sn,mul_div_cancel->S9,add_sub_cancel->Ta,mul_zero->Tj,lt_trans->Tn,div_add_mod->TU
open Array renaming getElem?_setIfInBounds_ne->Rf,getElem?_eq_none->Sb,forIn_toList->SS
open Nat.succ renaming inj->Rr
open Bool renaming eq_iff_iff->Ry,and_false->T4
open List.Perm renaming eq_of_pairwise->RL,trans->Tb

theorem Z9{c:Prop}{h:Decidable c}(y:c){α:Sort _}{t e:α}:ite c t e=t:=if_pos y
theorem Z8{c:Prop}{h:Decidable c}(y:¬c){α:Sort _}{t e:α}:ite c t e=e:=if_neg y
namespace L2
open PySem PySem.W
variable {N:Nat}{α:Type}{p:Pl}{loose:List Pj}{g0:Bool}
theorem wD{q:Pl}{Xt:OU->Bool}{Yf:OU->α}{Ya:PN->α}
  (z:∀w:PN,(fencedOpening QY p w N).map (λs=>(s.heap,s.gens,s.drawn,s.toks))=Zh (QE w.params,Array.mk [],boot_drawn,boot_toks))
  (h:∀(w:PN) (os:RH),(Te QY p w N #[QE w.params,Array.mk [],boot_drawn,boot_toks,os]).map (λs=>(openSeen q loose (SG p.main.body) Xt g0 s,Yf s))=Zh (openGood q loose,Ya w)):LeftO p q loose Xt Yf Ya N g0:=λw=>by
 obtain⟨⟨hh,gs,d,k,os⟩,e,J⟩:=Bc.mp<|z w;obtain⟨rfl,rfl,rfl,rfl⟩:hh=QE w.params/\gs=Array.mk []/\d=boot_drawn/\k=boot_toks:=by simpa using J
 unfold openEnds;rw[e];exact h w os
theorem yY{q:Pl}{Xt:OU->Bool}{Yf:OU->α}{Ya:PN->α}
  (z:∀w:PN,(fencedOpening QY p w N).map (λs=>(s.heap,s.gens,s.drawn,s.toks))=Zh (QE w.params,Array.mk [],boot_drawn,boot_toks))
  (h1:∀(w:PN) (os:RH),(Te QY p w N #[QE w.params,Array.mk [],boot_drawn,boot_toks,os]).map (λs=>openSeen q loose (SG p.main.body) Xt g0 s)=Zh (openGood q loose))
  (h2:∀(w:PN) (os:RH),(Te QY p w N #[QE w.params,Array.mk [],boot_drawn,boot_toks,os]).map (λs=>Yf s)=Zh (Ya w)):LeftO p q loose Xt Yf Ya N g0:=
 wD z λw os=>by
  have a:=h1 w os;have b:=h2 w os;generalize Te QY p w N #[QE w.params,Array.mk [],boot_drawn,boot_toks,os]=r at a b;cases r with
  |none=>cases a
  |some s=>exact congrArg Zh<|Prod.ext (OX a)<|OX b
noncomputable def EN(w:PN)(os:RH):OU:=#[QE w.params,Array.mk [],boot_drawn,boot_toks,os]
noncomputable def HR:List Qf->Nat->BT->BT
 |[],_,t=>t
 |o::r,n,t=>HR r (n+1)<|t.ins n o
noncomputable def NB(w:PN)(os:RH):SharedT:=#[HR (QE w.params).objs.toList 0 .nil,(QE w.params).objs.size,(QE w.params).life,Array.mk [],boot_drawn,boot_toks,os]
noncomputable def kT(p:Pl)(w:PN)(n₀:Nat)(ann:Option OR):Nat->SharedT->Thread->Option SharedT
 |0,_,_=>Zi
 |n+1,s,t=>match through t with
  |true=>Zh s
  |false=>match PySem.W.Fast.tw6613529449190102663 n₀ ann t with
   |false=>Zi
   |true=>match PySem.W.Fast.tw10156331382660048174 (PySem.W.Fast.tw11892475500146522536 PySem.W.Fast.tw14364793385576792824) p w s t with
    |some (s',t')=>kT p w n₀ ann n s' t'
    |none=>Zi
theorem iL{p:Pl}{w:PN}{z:Nat}{J:Option OR}:∀{n:Nat} {s s':SharedT} {t:Thread},kT p w z J n s t=Zh s'->topRun QY p w z J n s.abs t=Zh s'.abs
 |0,_,_,_,h=>by cases h
 |n+1,s,s',t,h=>by
  unfold kT at h;rw[<- PySem.W.Fast.te6613529449190102663,<- PySem.W.Fast.te10156331382660048174,<- PySem.W.Fast.te11892475500146522536,<- PySem.W.Fast.te14364793385576792824] at h;unfold topRun;cases he:through t with
  |true=>rw[he] at h;cases h;rfl
  |false=>
   rw[he] at h;cases hk:stepOk z J t with
   |false=>rw[hk] at h;cases h
   |true=>
    rw[hk] at h;cases hs:stepT (denote QY) p w s t with
    |none=>rw[hs] at h;cases h
    |some r=>obtain⟨s₂,O⟩:=r;rw[hs] at h;rw[stepT_spec hs];exact iL h
set_option maxHeartbeats 0 in
theorem Bq:∀(w:PN) (os:RH),(NB w os).abs=EN w os:=by
 intro w os
 kernel_rfl
set_option maxHeartbeats 0 in
theorem EM:∀(w:PN) (os:RH),((EN w os).heap.isNs Ph&&(EN w os).gens.size==0)=Zj:=by
 intro w os
 kernel_rfl
noncomputable def xB(p:Pl)(s₀ s₁:OU):Bool:=staticsOk (SG p.main.body) s₀.heap s₁.heap&&namesBound p s₁.heap&&gensDone s₁&&laidKept s₀.heap s₁.heap
theorem qh{F:OU->α}{G:α}(w:PN)(os:RH)
  (h:(kT p w (EN w os).heap.objs.size ((EN w os).heap.nsMap Ph "__annotations__") N (NB w os)<|topStub p).map (λs=>(xB p (EN w os) s.abs,F s.abs))=Zh (Zj,G)):(Te QY p w N #[QE w.params,Array.mk [],boot_drawn,boot_toks,os]).map F=Zh G:=by
 obtain⟨s',z,e2⟩:=Bc.mp h;have r:=iL z;rw[Bq] at r;obtain⟨e3,e4⟩:=Prod.mk.inj e2;show(Te QY p w N<|EN w os).map F=Zh G;unfold Te;rw[EM w os];dsimp only;rw[r,Option.bind_some];unfold xB at e3;rw[e3];exact congrArg Zh e4
noncomputable def vw(p:Pl)(ix:List Nat):Pl:={ p with main:={ p.main with body:=ix.filterMap λi=>p.main.body[i]? } }
noncomputable def Vw:Pl:=vw PySem.Challenge.pw_sorthall_k93_whole_stopped_and_given_mor [0,2,3,4,5,7,9,11,12,13,14,15,17,18,20,21,22,23,25,28,30,31,32,33,36,38,41,43,47,48,50,51,52,53,54,55,56,57,58,59,60]
set_option maxHeartbeats 0 in
theorem HD:∀(w:PN) (os:RH),(Te QY PySem.Challenge.pw_sorthall_k93_whole_stopped_and_given_mor w 9366 #[QE w.params,Array.mk [],boot_drawn,boot_toks,os]).map (λs=>openSeen L2.Vw (["stretch_from","filled","by_pile","in_rounds","by_pieces"]:List Pj) (SG PySem.Challenge.pw_sorthall_k93_whole_stopped_and_given_mor.main.body) (λs=>xlAt L2.Vw [] s&&recOk (RowW.records<|OpenRow.toRowW<|OpenLaw.row PySem.Challenge.rw_sorthall_k93_whole_stopped_and_given_mor) s) Zj s)=Zh (openGood L2.Vw (["stretch_from","filled","by_pile","in_rounds","by_pieces"]:List Pj)):=by
 intro w os;refine qh w os ?_;rw[PySem.W.Fast.te4187177175401517315]
 kernel_rfl
local macro_rules | `(tactic| o_law)=>`(tactic| refine holds_law (by decide +kernel) fun said=>?_)
abbrev rr:=OpenLaw.row PySem.Challenge.rw_sorthall_k93_whole_stopped_and_given_mor
set_option maxHeartbeats 0 in
theorem hO(H:PySem.W.Hook){d:DefRec}{kwd:List (PySem.Str×PySem.Expr)}
  (h2:∀(w:PN) (os:RH),(Te QY PySem.Challenge.pw_sorthall_k93_whole_stopped_and_given_mor w 9366 #[QE w.params,Array.mk [],boot_drawn,boot_toks,os]).map (λs=>H.obs s)=some (H.val w))
  (a:defOf L2.Vw rr.name=some (d,kwd))(b:rr.prog.theDef rr.name=some (d.params,d.body,d.scope))(c:kwWritten? d.params.kwonlyargs d.params.kw_defaults=some kwd)(e:(!rr.writes||List.isEmpty rr.records)=true)(k:rr.wellSaid=true)(ok:(chainsOk L2.Vw&&opensWell rr.prog&&(frees rr.toRowW&&rr.within.isEmpty))=true)(hb:rr.prog.bare)(hw:rr.promised)(hc:WalkO L2.Vw ["stretch_from","filled","by_pile","in_rounds","by_pieces"] (XL L2.Vw []) H.says rr.toRowW d kwd fun f vs=>PySem.call f vs):rr.Holds:=holds_open (Xt:=fun s=>xlAt L2.Vw [] s && recOk (RowW.records _) s) (Yf:=H.obs) (Ya:=H.val) (N:=9366) (yY (PySem.W.boot_open (by rfl) (by decide) (fun s=>rfl)) (fun w os=>HD w os) h2) H.of H.keeps (fun s e=>xl_of s (Bool.and_eq_true_iff.mp e).1) XL.keeps a b c (fun s e=>recFacts_of (Bool.and_eq_true_iff.mp e).2) e k ok hb hw hc
set_option hygiene false in
local macro_rules | `(tactic| o_head $H)=>`(tactic| (refine L2.hO $H (fun w os=>?h2) (by rfl) (by rfl) (by rfl) (by rfl) (by first | assumption | decide +kernel) (by decide +kernel) ⟨rfl,rfl,rfl,rfl,rfl,by decide +kernel⟩ ?hw ?hc;(case h2=>(refine L2.qh w os ?_;kernel_rfl))))
set_option maxHeartbeats 0 in
open_top hd0 for PySem.Challenge.rw_sorthall_k93_whole_stopped_and_given_mor
end L2
namespace PySem
open PyProof PyProof.Rows
open Sem (wp)
variable {i:Nat}{it:OS}
def Qt(A:Py)(h:PJ):Prop:=∀v,A.handled=Zh v->∃a o vs,v=.ref a/\h.get? a=Zh o/\o.data=.fields vs/\vs[2]?=Zh .none
section
variable {prog:Pl}{w:PN}{A:Py}{E:OR->OU->Prop}{s:OU}
theorem mT:entryFor table "proto.unchain"=Zh RV.«proto.unchain»:=entryFor_of_fast<|by kernel_rfl
theorem Qt.ext{h h':PJ}{o:Qf}{vs:Array OR}(q:Qt A h)(J:h.get? it=Zh o)(hd:o.data=.fields vs)(O:vs.size<=2)(k:Ri it h h'):Qt A h':=λv e=>by
 obtain⟨a,u,us,h1,h2,h3,z⟩:=q v e;refine#[a,u,us,h1,k a u (λx=>?_) h2,h3,z];subst x;rw[J] at h2;cases h2;rw[hd] at h3;cases h3;rw[Sb O] at z;cases z
theorem Hz{α:Type}{Q:α->OU->Prop}(q:Qt A s.heap)(O:∀x h',(∃o,h'.get? x=Zh o/\o.cls=.type "StopIteration")->(∀b o,s.heap.get? b=Zh o->h'.get? b=Zh o)->E (.ref x) { s with heap:=h' }):
  OZ (Pd prog w) A (newExc (.type "StopIteration") []>>=λe=>(raiseNew e:SH α)) Q E s:=by
 have mk:OZ (Pd prog w) A (newExc (.type "StopIteration") []) (λv z=>∃x o vs h',v=.ref x/\z={ s with heap:=h' }/\(∀b u,s.heap.get? b=Zh u->b≠x/\h'.get? b=Zh u)/\h'.get? x=Zh o/\o.cls=.type "StopIteration"/\o.data=.fields vs/\2<vs.size) E s:=by
  unfold newExc newTuple;refine OQ (TJ ?_<|by size_fits);refine OQ (m:=firstArgMember _ _)<|wpAny_of_eq (a:=Value.none) (by rfl) ?_;refine TJ #[_,_,_,_,rfl,rfl,λb u h=>#[λz=>?_,OT _<|OT _ h],Pf _ rfl,rfl,rfl,by simp;lia] (by size_fits);have:=Pa h;simp[z,Heap.push] at this;lia
 refine OQ<|Pu mk (λv z m=>?_) λ_ _ x=>x;obtain⟨x,o,vs,h',rfl,rfl,k,J,hc,hd,h2⟩:=m;unfold raiseNew;refine OQ<|wpAny_handled ?_;cases e:A.handled with
 |none=>exact OQ<|OV<|wpAny_throw<|O x h' ⟨o,J,hc⟩ λb u h=>(k b u h).2
 |some v=>
  obtain⟨a,u,us,rfl,h3,Z,h5⟩:=q v e;obtain⟨n,U⟩:=k a u h3;have hn:(Value.ref a !=Value.ref x)=Zj:=bne_iff_ne.mpr λz=>n (by injection z);dsimp only;rw[Z9 hn];refine OQ<|PC<|wpAny_runValue<|codeAny_builtin mT<|OQ<|Qb U Z h5<|OQ<|OV<|OV ?_;refine OQ ?_;unfold updateField;refine OQ<|wpAny_load J ?_;rw[hd];dsimp only;rw[Z9 h2];refine wpAny_update J<|wpAny_throw<|O x _ #[_,PQ _ J<|Obj.isFreed_of_fields<|R1 hd _,(Obj.cls_mapFields ..).trans hc] λb u h=>?_;exact(Qe _ _<|Pe (k b u h).1).trans (k b u h).2
theorem uo{b:RV}(hb:b=RV.«list_iterator.__next__»∨b=RV.«tuple_iterator.__next__»){q:OS}{o u:Qf}{n:Nat}{xs:Array OR}{Q:Fin->OU->Prop}(U:Qt A s.heap)(z:s.heap.get? it=Zh o)(hd:o.data=.fields (List.toArray [.ref q,.int i 0]))(Z:s.heap.get? q=Zh u)(O:u.data=.seq xs n)(hx:xs[i]?=Zi)
  (hE:∀x h',(∃o,h'.get? x=Zh o/\o.cls=.type "StopIteration")->Ri it s.heap h'->E (.ref x) { s with heap:=h' }):OZ (Pd prog w) A (b #[[.ref it],[]]) Q E s:=by
 have J:Ri it s.heap<|s.heap.update it<|Q8 (·.setIfInBounds 0 .none):=(Heap.SameBut.update ..).extBut;rcases hb with rfl|rfl<;>
 .refine OQ (m:=field (.ref it) 0) (Qb z hd rfl ?_);refine OQ (m:=field (.ref it) 1)<|Qb z hd rfl ?_;refine OQ (m:=seqItems?<|.ref q)<|QS Z O ?_;simp only[Int.toNat_natCast,hx];refine OQ<|Tt<|OQ<|Ui z hd (by simp) ?_;exact Hz (U.ext z hd (by simp) J) λx h' c k=>hE x h' c λb o n e=>k b o<|J b o n e
theorem wC{l:OS}{items}{Q:Option OR->OU->Prop}(hh:Qt A s.heap)(z:s.heap.IsListIter it l i)(hl:s.heap.IsList l items)(hx:items[i]?=Zi)(J:∀h',Ri it s.heap h'->Q Zi { s with heap:=h' }):OZ (Pd prog w) A (Tx<|.ref it) Q E s:=by
 obtain⟨o,U,_,hd⟩:=id z;obtain⟨u,Z,_,n,O⟩:=hl;exact OQ<|RE<|Rg (name:=Ro "__next__") z.typeIs slot_listiter_next<|QX slot_listiter_next z.typeIs entry_listiter_next (uo (.inl rfl) hh U hd Z O hx λx h' c k=>OQ<|Sr (T:="StopIteration") (b:=Zj) c Uq<|OV<|J h' k)<|args_listiter_next _
theorem sj{t:OS}{items}{Q:Option OR->OU->Prop}(hh:Qt A s.heap)(z:IsTupIter s.heap it t i)(U:IsTup s.heap t items)(hx:items[i]?=Zi)(J:∀h',Ri it s.heap h'->Q Zi { s with heap:=h' }):OZ (Pd prog w) A (Tx<|.ref it) Q E s:=by
 obtain⟨o,Z,_,hd⟩:=id z;obtain⟨u,hu,_,n,O⟩:=U;exact OQ<|RE<|Rg (name:=Ro "__next__") z.typeIs slot_tupleiter_next<|QX slot_tupleiter_next z.typeIs entry_tupleiter_next (uo (.inr rfl) hh Z hd hu O hx λx h' c k=>OQ<|Sr (T:="StopIteration") (b:=Zj) c Uq<|OV<|J h' k)<|args_tupleiter_next _
theorem mZ{env:RN}{J:List P1}{x1}{pos:RC}{t:OS}{z:Array OR}{Q:Unit->OU->Prop}(hh:Qt A s.heap)(U:IsTup s.heap t z)(hn:(Qw J env).length=z.size)(O:(Qw J env).findIdx? (·.1)=Zi)
  (h:∀h',Ri s.heap.objs.size s.heap h'->OZ (Pd prog w) A (assignInOrder ((Qw J env).map (·.2)) z.toList) Q E { s with heap:=h' }):OZ (Pd prog w) A (assign (.Tuple J x1 pos) env<|.ref t) Q E s:=by
 have tl:t≠s.heap.objs.size:=fQ<|Pa U.choose_spec.1;rw[assign_Tuple];refine OQ<|QC ?_;unfold unpack;rw[hn,O];refine OQ<|PC<|OQ<|OQ<|SE U.typeIs slot_tuple_iter.lookup<|OV ?_;refine OQ<|PC<|iter_tuple U<|OQ<|PC<|draw_tuple tl z.size 0 _ _ #[_,Pf _ rfl,rfl,rfl] (U.push _) ∅ λh1 i1 s1=>?_;have al:(z.toList.drop 0).take z.size=z.toList:=tM (by simp);rw[al,Z8<|by simp];have k1:Ri s.heap.objs.size s.heap h1:=λb o n e=>s1.extBut b o n<|OT _ e;have Z:Qt A h1:=Qt.ext (h:=s.heap.push _) (λv e=>by
  obtain⟨a,o,vs,z1,z2,z3⟩:=hh v e;exact#[a,o,vs,z1,OT _ z2,z3]) (Pf _ rfl) rfl (by simp) s1.extBut
 refine OQ<|PC<|sj Z i1 (U.extBut k1 tl) (by simp) λh2 k2=>?_;exact OV<|h h2 λb o n e=>k2 b o n<|k1 b o n e
end
end PySem
namespace L2
open PySem PySem.Spec PyProof.Rows
variable {C a b dx it:OS}{c e tg:P1}{base h:PJ}{E Q:OR->OU->Prop}{s:OU}{pos pos':RC}{ch fp:List OS}{i k t':Nat}{lo:Int}{K:W.Frag}{mg:Pj->Option OR}{qual x:Pj}{outer:List RN}{pl:SH Bool}{N ps:List Pj}{body:List PM}{u:OR}{scope:Qq}{P:Pl}{us:List OR}{pins:List (OS×Qf)}{w:PN}
inductive X2{A0 A1:Type}(p:A0->A1->Prop):Prop|mk (a:A0) (b:A1):p a b->X2 p
inductive X3{A0 A1 A2:Type}(p:A0->A1->A2->Prop):Prop|mk (a:A0) (b:A1) (c:A2):p a b c->X3 p
inductive X4{A0 A1 A2 A3:Type}(p:A0->A1->A2->A3->Prop):Prop|mk (a:A0) (b:A1) (c:A2) (d:A3):p a b c d->X4 p
inductive X5{A0 A1 A2 A3 A4:Type}(p:A0->A1->A2->A3->A4->Prop):Prop|mk (a:A0) (b:A1) (c:A2) (d:A3) (e:A4):p a b c d e->X5 p
inductive X6{A0 A1 A2 A3 A4 A5:Type}(p:A0->A1->A2->A3->A4->A5->Prop):Prop|mk (a:A0) (b:A1) (c:A2) (d:A3) (e:A4) (f:A5):p a b c d e f->X6 p
inductive X7{A0 A1 A2 A3 A4 A5 A6:Type}(p:A0->A1->A2->A3->A4->A5->A6->Prop):Prop|mk (a:A0) (b:A1) (c:A2) (d:A3) (e:A4) (f:A5) (g:A6):p a b c d e f g->X7 p
inductive X8{A0 A1 A2 A3 A4 A5 A6 A7:Type}(p:A0->A1->A2->A3->A4->A5->A6->A7->Prop):Prop|mk (a:A0) (b:A1) (c:A2) (d:A3) (e:A4) (f:A5) (g:A6) (h:A7):p a b c d e f g h->X8 p
inductive X9{A0 A1 A2 A3 A4 A5 A6 A7 A8:Type}(p:A0->A1->A2->A3->A4->A5->A6->A7->A8->Prop):Prop|mk (a:A0) (b:A1) (c:A2) (d:A3) (e:A4) (f:A5) (g:A6) (h:A7) (i:A8):p a b c d e f g h i->X9 p
inductive MV{A0 A1 A2 A3 A4 A5 A6 A7 A8 A9 A10:Type}(p:A0->A1->A2->A3->A4->A5->A6->A7->A8->A9->A10->Prop):Prop|mk (a:A0) (b:A1) (c:A2) (d:A3) (e:A4) (f:A5) (g:A6) (h:A7) (i:A8) (j:A9) (k:A10):p a b c d e f g h i j k->MV p
inductive NF{A0 A1 A2 A3 A4 A5 A6 A7 A8 A9 A10 A11 A12 A13 A14 A15 A16:Type}(p:A0->A1->A2->A3->A4->A5->A6->A7->A8->A9->A10->A11->A12->A13->A14->A15->A16->Prop):Prop|mk (a0:A0) (a1:A1) (a2:A2) (a3:A3) (a4:A4) (a5:A5) (a6:A6) (a7:A7) (a8:A8) (a9:A9) (a10:A10) (a11:A11) (a12:A12) (a13:A13) (a14:A14) (a15:A15) (a16:A16):p a0 a1 a2 a3 a4 a5 a6 a7 a8 a9 a10 a11 a12 a13 a14 a15 a16->NF p
noncomputable abbrev Key:=Sum Int Pj
noncomputable def GV:Key->OR->Bool
 |.inl k,v=>Value.isInt k v
 |.inr x,v=>Value.isStrOf x v
noncomputable def Kh(w:PN):Key->Int
 |.inl k=>hashInt k
 |.inr x=>hashStr w x
theorem CY:∀{k:Key} {v:OR},GV k v=Zj->(∃i t,k=Sum.inl i/\v=Value.int i t)∨(∃x t,k=Sum.inr x/\v=Value.str x t)
 |.inl i,v,h=>by
  obtain⟨t,e⟩:=Value.isInt_shape (k:=i) (v:=v) h;exact .inl #[i,t,rfl,e]
 |.inr x,v,h=>by
  obtain⟨t,e⟩:=Value.isStrOf_shape (x:=x) (v:=v) h;exact .inr #[x,t,rfl,e]
theorem wH(i:Int)(t:Tok):GV (.inl i) (.int i t)=Zj:=by simp[GV,Value.isInt]
theorem wG(x:Pj)(t:Tok):GV (.inr x) (.str x t)=Zj:=by simp[GV,Value.isStrOf]
theorem Fq(a b:Int):decide ((Sum.inl a:Key)=Sum.inl b)=(a==b):=by
 by_cases e:a=b
 .subst e;simp
 .have h:¬ (Sum.inl a:Key)=Sum.inl b:=λq=>e<|Sum.inl.inj q;rw[decide_eq_false h];exact(beq_eq_false_iff_ne.mpr e).symm
theorem Fl(a b:Pj):decide ((Sum.inr a:Key)=Sum.inr b)=decide (a=b):=by
 by_cases e:a=b
 .subst e;simp
 .have h:¬ (Sum.inr a:Key)=Sum.inr b:=λq=>e<|Sum.inr.inj q;rw[decide_eq_false h,decide_eq_false e]
theorem Fp(a:Int)(b:Pj):decide ((Sum.inl a:Key)=Sum.inr b)=Zk:=decide_eq_false λq=>nomatch q
theorem Fm(a:Pj)(b:Int):decide ((Sum.inr a:Key)=Sum.inl b)=Zk:=decide_eq_false λq=>nomatch q
noncomputable def fO(prog:Pl)(w:PN):PySem.KeyKind prog w Key where
 is:=GV
 hash:=Kh w
 inj:=λv a b ha hb=>by
  rcases CY ha with ⟨i,t,rfl,rfl⟩|⟨x,t,rfl,rfl⟩
  .rcases CY hb with ⟨j,u,rfl,e⟩|⟨y,u,rfl,e⟩
   .injection e with e1 _;rw[e1]
   .exact nomatch e
  .rcases CY hb with ⟨j,u,rfl,e⟩|⟨y,u,rfl,e⟩
   .exact nomatch e
   .injection e with e1 _;rw[e1]
 byValue:=λk v h=>by
  rcases CY h with ⟨i,t,rfl,rfl⟩|⟨x,t,rfl,rfl⟩<;>rfl
 pyHash:=λhv h=>by
  rcases CY hv with ⟨i,t,rfl,rfl⟩|⟨x,t,rfl,rfl⟩
  .exact wpAny_pyHash_int h
  .exact wpAny_pyHash_str h
 eqBool:=λhu hv h=>by
  rcases CY hu with ⟨i,t,rfl,rfl⟩|⟨x,t,rfl,rfl⟩
  .rcases CY hv with ⟨j,u,rfl,rfl⟩|⟨y,u,rfl,rfl⟩
   .rw [Fq] at h;exact T6 h
   .rw [Fp] at h;exact SeqAt.EqAt.int_str i t y u _ _ _ _ h
  .rcases CY hv with ⟨j,u,rfl,rfl⟩|⟨y,u,rfl,rfl⟩
   .rw [Fm] at h;exact SeqAt.EqAt.str_int x t j u _ _ _ _ h
   .rw [Fl] at h;exact wpAny_eqBool_str h
 «strs»:=λk x t v h=>by
  rcases CY h with ⟨i,u,rfl,e⟩|⟨y,u,rfl,e⟩
  .exact nomatch e
  .injection e with e1 _
   subst e1;cases v<;>rfl
theorem qZ(prog:Pl)(w:PN)(i:Int)(t:Tok):(fO prog w).is (.inl i) (.int i t)=Zj:=wH i t
theorem qY(prog:Pl)(w:PN)(x:Pj)(t:Tok):(fO prog w).is (.inr x) (.str x t)=Zj:=wG x t
inductive V where
 |Uy|bl (b:Bool)|int (i:Int)|str (x:Pj)|byt (b:Array UInt8)|flt (b:UInt64)|ref (a:OS)|ty (n:String)
 deriving DecidableEq
variable {vs:List V}{v y:V}
def RelV:V->OR->Prop
 |.Uy,u=>u=Value.none
 |.bl b,u=>u=Value.bool b
 |.int i,u=>∃t,u=Value.int i t
 |.str x,u=>∃t,u=Value.str x t
 |.byt b,u=>∃t,u=Value.bytes b t
 |.flt b,u=>∃t,u=Value.float b t
 |.ref a,u=>u=Value.ref a
 |.ty n,u=>u=Value.type n
noncomputable abbrev Vals:List V->List OR->Prop:=Paired RelV
theorem Vals.length{xs:List V}(r:Vals xs us):xs.length=us.length:=Ts r
theorem Vals.get:∀{xs:List V} {us:List OR} {i:Nat} {x:V},Vals xs us->xs[i]?=Zh x->∃u,us[i]?=Zh u/\RelV x u
 |_,_,_,_,.nil,e=>by simp at e
 |_,_,0,_,.cons r _,e=>by simp at e;subst e;exact#[_,rfl,r]
 |_,_,i+1,x,.cons _ t,e=>by
  obtain⟨u,h1,h2⟩:=Vals.get (i:=i) (x:=x) t (by simpa using e);exact#[u,by simpa using h1,h2]
theorem Vals.set{x:V}{u:OR}(r:RelV x u):∀{xs:List V} {us:List OR} (i:Nat),Vals xs us->Vals (xs.set i x) (us.set i u)
 |_,_,_,.nil=>.nil
 |_,_,0,.cons _ t=>.cons r t
 |_,_,i+1,.cons q t=>.cons q<|Vals.set r i t
theorem Vals.append:∀{xs ys:List V} {us ws:List OR},Vals xs us->Vals ys ws->Vals (xs++ys) (us++ws)
 |_,_,_,_,.nil,s=>s
 |_,_,_,_,.cons r t,s=>.cons r<|Vals.append t s
theorem Vals.take:∀{xs:List V} {us:List OR} (n:Nat),Vals xs us->Vals (xs.take n) (us.take n)
 |_,_,0,_=>.nil
 |_,_,_+1,.nil=>.nil
 |_,_,n+1,.cons r t=>.cons r<|Vals.take n t
theorem Vals.drop:∀{xs:List V} {us:List OR} (n:Nat),Vals xs us->Vals (xs.drop n) (us.drop n)
 |_,_,0,r=>r
 |_,_,_+1,.nil=>.nil
 |_,_,n+1,.cons _ t=>Vals.drop n t
def dH:Option V->Option OR->Prop
 |some v,Zh u=>RelV v u
 |none,Zi=>True
 |_,_=>False
def KV{κ:Type}:List (κ×V)->List (κ×OR)->Prop:=Paired λ(p:κ×V) (q:κ×OR)=>p.1=q.1/\RelV p.2 q.2
noncomputable def kV:Key->V
 |.inl i=>.int i
 |.inr x=>.str x
inductive HO where
 |lst (xs:List V)
 |tup (xs:List V)
 |dK (kvs:List<|Key×V)|dT (kvs:List<|List Key×V)
 |set (S:Int->Bool) (n:Nat)
 |ins (C dx:OS) (fs:List<|Pj×V)
 |own (x:OS)
 |xd (fs:List<|Pj×V)
 |met (f x:OS)
 |rng (lo hi:Int)
 |frz (o:Qf) (u:HO)
 |tbl (ps:Array OR)
 |ext (φ:PJ->Prop)
variable {o:HO}
noncomputable abbrev Hp:=OS->Option HO
variable {H:Hp}
noncomputable def upd(H:Hp)(a:OS)(o:HO):Hp:=λb=>if b=a then Zh o else H b
theorem aU:upd H a o a=Zh o:=by unfold upd;rw[Z9 rfl]
theorem aO(h:b≠a):upd H a o b=H b:=by unfold upd;rw[Z8 h]
theorem tQ{u:HO}:upd (upd H a o) a u=upd H a u:=by
 funext b;unfold upd;split<;>rfl
theorem HS{u:HO}(h:H a=Zh o)(h':H b=Zh u)(d:o≠u):a≠b:=by
 intro e;subst e;rw[h] at h';exact d<|OX h'
theorem bE(h:H a=Zh o)(h':H b=Zi):a≠b:=by
 intro e;subst e;rw[h] at h';cases h'
section
variable (P:Pl)(w:PN)
def aW(H:Hp)(h:PJ)(a:OS):HO->Prop
 |.lst xs=>xs.length<=sizeLine/\∃(its:List OR) (n:Nat),Vals xs its/\h.get? a=Zh { cls:=.type "list",data:=.seq its.toArray n }
 |.tup xs=>xs.length<=sizeLine/\∃its:List OR,Vals xs its/\IsTup h a its.toArray
 |.dK kvs=>kvs.length<=sizeLine/\(a==QT)=Zk/\∃vs,KV kvs vs/\h.DictOf (fO P w) a vs
 |.dT kvs=>kvs.length<=sizeLine/\(a==QT)=Zk/\∃xs:List<|List Key×OS×OR,
   Paired (λ(p:List Key×V) (q:List Key×OS×OR)=>p.1=q.1/\H q.2.1=Zh (.tup<|p.1.map kV)/\RelV p.2 q.2.2) kvs xs/\
   ∃o es ep,h.get? a=Zh o/\o.ExactDict/\o.data=.dict es ep/\es.toList=xs.map (Ql<|PR<|fO P w)/\(xs.map (·.1)).Nodup
 |.set S n=>h.SetOf (intKind P w) a S n
 |.ins C dx fs=>H dx=Zh (.own a)/\fs.length<=1000/\dx≠a/\h.get? a=Zh (Qu C dx)/\
   ∃mA,h.Ns1 dx mA/\(∀f,dH (fs.lookup f)<|mA f)/\PySem.Within mA (fs.map (·.1))
 |.own _=>∃o,h.get? a=Zh o
 |.xd fs=>∃mA,h.Ns1 a mA/\∀f,dH (fs.lookup f)<|mA f
 |.rng lo hi=>L2.X3 λt u v=>h.get? a=Zh { cls:=.type "range",data:=.fields (List.toArray [.int lo t,.int hi u,.int 1 v]) }
 |.frz o u=>h.get? a=Zh o/\aW H h a u
 |.tbl ps=>h.get? a=Zh { cls:=.none,data:=.fields ps }
 |.met f x=>h.get? a=Zh (SO (.ref f)<|.ref x)
 |.ext φ=>φ h/\(∃o,h.get? a=Zh o)/\∀h1 h2:PJ,φ h1->(∀o,h1.get? a=Zh o->h2.get? a=Zh o)->φ h2
def cY(H:Hp)(h:PJ):Prop:=∀a o,H a=Zh o->aW P w H h a o
end
section
variable {H':Hp}{h':PJ}
theorem aW.lt(x:aW P w H h a o):a<h.objs.size:=by
 cases o with
 |lst xs=>obtain⟨_,_,_,_,e⟩:=x;exact Pa e
 |tup xs=>obtain⟨_,_,_,p⟩:=x;exact p.lt
 |dK kvs=>obtain⟨_,_,_,_,o,_,_,e,_⟩:=x;exact Pa e
 |dT kvs=>obtain⟨_,_,_,_,o,_,_,e,_⟩:=x;exact Pa e
 |set S n=>obtain⟨o,_,_,_,e,_⟩:=x;exact Pa e
 |ins C dx fs=>obtain⟨_,_,_,e,_⟩:=x;exact Pa e
 |own y=>obtain⟨_,e⟩:=x;exact Pa e
 |xd fs=>obtain⟨_,⟨_,_,_,e,_⟩,_⟩:=x;exact Pa e
 |rng lo hi=>obtain⟨_,_,_,e⟩:=x;exact Pa e
 |frz ob u=>obtain⟨e,_⟩:=x;exact Pa e
 |tbl ps=>exact Pa (show h.get? a=Zh _ from x)
 |met f y=>exact Pa (show h.get? a=Zh _ from x)
 |ext φ=>obtain⟨_,⟨_,e⟩,_⟩:=x;exact Pa e
theorem Paired.WX{α z:Type}{F G:α->z->Prop}:∀{l₁:List α} {l₂:List z},Paired F l₁ l₂->(∀a b,F a b->G a b)->Paired G l₁ l₂
 |_,_,.nil,_=>.nil
 |_,_,.cons r t,f=>.cons (f _ _ r)<|Paired.WX t f
theorem aW.UR(x:aW P w H h a o)(k:∀b u,(b=a∨H b=Zh (.own a))->h.get? b=Zh u->h'.get? b=Zh u)
  (U:∀b,H b=Zh (.own a)->H' b=Zh (.own a)) (O:∀b xs,H b=Zh (.tup xs)->H' b=Zh (.tup xs)):aW P w H' h' a o:=by
 induction o with
 |lst xs=>obtain⟨z,its,n,r,e⟩:=x;exact#[z,its,n,r,k _ _ (.inl rfl) e]
 |tup xs=>obtain⟨z,its,r,ob,e,c⟩:=x;exact#[z,its,r,ob,k _ _ (.inl rfl) e,c]
 |dK kvs=>obtain⟨z,y,vs,r,ob,es,J,e,c⟩:=x;exact#[z,y,vs,r,ob,es,J,k _ _ (.inl rfl) e,c]
 |dT kvs=>
  obtain⟨z,y,xs,r,ob,es,J,e,c⟩:=x;exact#[z,y,xs,Paired.WX r λp q z=>#[z.1,O _ _ z.2.1,z.2.2],ob,es,J,k _ _ (.inl rfl) e,c]
 |set S n=>obtain⟨ob,es,J,t,e,c⟩:=x;exact#[ob,es,J,t,k _ _ (.inl rfl) e,c]
 |ins C dx fs=>
  obtain⟨d,z,ne,e,mA,⟨od,es,J,e2,c⟩,r⟩:=x;exact#[U _ d,z,ne,k _ _ (.inl rfl) e,mA,#[od,es,J,k _ _ (.inr d) e2,c],r]
 |own y=>obtain⟨ob,e⟩:=x;exact#[ob,k _ _ (.inl rfl) e]
 |xd fs=>obtain⟨mA,⟨od,es,J,e,c⟩,r⟩:=x;exact#[mA,#[od,es,J,k _ _ (.inl rfl) e,c],r]
 |rng lo hi=>obtain⟨t,u,v,e⟩:=x;exact#[t,u,v,k _ _ (.inl rfl) e]
 |frz ob u ih=>obtain⟨e,q⟩:=x;exact#[k _ _ (.inl rfl) e,ih q]
 |tbl ps=>
  have e:h.get? a=Zh { cls:=.none,data:=.fields ps }:=x;show h'.get? a=Zh { cls:=.none,data:=.fields ps };exact k a _ (.inl rfl) e
 |met f y=>
  have e:h.get? a=Zh (SO (.ref f)<|.ref y):=x;show h'.get? a=Zh (SO (.ref f)<|.ref y);exact k a _ (.inl rfl) e
 |ext φ=>obtain⟨p,⟨o,e⟩,st⟩:=x;exact#[st _ _ p λo q=>k _ _ (.inl rfl) q,#[o,k _ _ (.inl rfl) e],st]
theorem cY.lt(x:cY P w H h)(e:H a=Zh o):a<h.objs.size:=(x a o e).lt
theorem cY.fresh(x:cY P w H h)(e:h.objs.size<=a):H a=Zi:=by
 cases q:H a with
 |none=>rfl
 |some u=>exact absurd (jI (x.lt q) e)<|AA _
theorem cY.kept(x:cY P w H h)(k:∀b u,h.get? b=Zh u->h'.get? b=Zh u):cY P w H h':=λa o e=>
 (x a o e).UR (λb u _ q=>k b u q) (λ_ q=>q) λ_ _ q=>q
theorem cY.laid(x:cY P w H h)(k:∀b u,h.get? b=Zh u->h'.get? b=Zh u)(z:h.objs.size<=a)(new:aW P w (upd H a o) h' a o):cY P w (upd H a o) h':=λb u e=>by
 have hn:=x.fresh z;by_cases hb:b=a
 .subst hb;rw[aU] at e;cases e;exact new
 .rw [aO hb] at e;exact(x b u e).UR (λc v _ q=>k c v q) (λc q=>by rw[aO<|bE q hn];exact q) λc xs q=>by rw[aO<|bE q hn];exact q
end
def Rd(H:Hp)(a:OS)(u:HO):Prop:=H a=Zh u∨∃o,H a=Zh (.frz o u)
theorem Rd.ok{u:HO}(r:Rd H a u)(x:cY P w H h):aW P w H h a u:=by
 rcases r with r|⟨o,r⟩
 .exact x a u r
 .obtain ⟨_,q⟩:=x a _ r;exact q
def IS:Option HO->Prop
 |some (.lst _)=>True
 |some (.dK _)=>True
 |some (.dT _)=>True
 |some (.set _ _)=>True
 |some (.ins _ _ _)=>True
 |some (.ext _)=>True
 |_=>False
section
variable {h':PJ}{x e:OS}{o':HO}
theorem cY.write(ok:cY P w H h)(U:IS<|H x)(he:e=x∨H e=Zh (.own x))(k:∀b u,b≠e->h.get? b=Zh u->h'.get? b=Zh u)(Z:∃u,h'.get? e=Zh u)
  (new:aW P w (upd H x o') h' x o'):cY P w (upd H x o') h':=λb u q=>by
 have J:∀c y,H c=Zh (.own y)->c≠x:=λc y r z=>by subst z;rw[r] at U;exact U
 have O:∀c xs,H c=Zh (.tup xs)->c≠x:=λc xs r z=>by subst z;rw[r] at U;exact U
 by_cases hb:b=x
 .subst hb;rw[aU] at q;cases q;exact new
 .rw [aO hb] at q;by_cases V8:b=e
  .have q':H b=Zh (.own x):=by
    rcases he with z|z
    .exact absurd (V8.trans z) hb
    .rw [V8];exact z
   rw[q] at q';cases q';obtain⟨v,hv⟩:=Z;exact#[v,by rw[V8];exact hv]
  .refine (ok b u q).UR (λc v hc r=>k c v ?_ r) (λc r=>by rw[aO<|J c b r];exact r) λc xs r=>by rw[aO<|O c xs r];exact r
   rcases hc with rfl|hc
   .exact V8
   .rintro rfl;rcases he with z|z
    .exact J c b hc z
    .rw [hc] at z;cases z;exact hb rfl
end
structure Un(fs ex:List OS)(H H':Hp)(h h':PJ):Prop where
 keep:∀b o,h.get? b=Zh o->H b=Zi->b∉fs->b∉ex->h'.get? b=Zh o
 slot:∀b o,h.get? b=Zh o->H b=Zi->b∈fs->b∉ex->∃sl,h'.get? b=Zh { o with slots:=sl }
 free:∀b o,h.get? b=Zh o->H b=Zi->b∉ex->H' b=Zi
 there:∀b o,h.get? b=Zh o->b∉ex->∃o',h'.get? b=Zh o'
 UN:∀b xs,H b=Zh (.tup xs)->H' b=Zh (.tup xs)
 UK:∀b o u,H b=Zh (.frz o u)->H' b=Zh (.frz o u)
 UJ:∀b ps,H b=Zh (.tbl ps)->∃more,H' b=Zh (.tbl<|ps++more)
section
variable {fs fs' ex ex':List OS}{H1 H2:Hp}{h1 h2 h':PJ}{x e:OS}
theorem Un.any(u:Un fs ex H H1 h h1){ob:Qf}(q:h.get? b=Zh ob)(n:H b=Zi)(hx:b∉ex):∃sl,h1.get? b=Zh { ob with slots:=sl }:=by
 by_cases hb:b∈fs
 .exact u.slot b ob q n hb hx
 .exact #[ob.slots,u.keep b ob q n hb hx]
theorem Un.trans(a:Un fs ex H H1 h h1)(b:Un fs ex H1 H2 h1 h2):Un fs ex H H2 h h2 where
 keep:=λc ob q n hc hx=>b.keep c ob (a.keep c ob q n hc hx) (a.free c ob q n hx) hc hx
 slot:=λc ob q n hc hx=>by
  obtain⟨sl,z⟩:=a.slot c ob q n hc hx;obtain⟨J,e2⟩:=b.slot c _ z (a.free c ob q n hx) hc hx;exact#[J,e2]
 free:=λc ob q n hx=>by
  obtain⟨o',z⟩:=a.there c ob q hx;exact b.free c o' z (a.free c ob q n hx) hx
 there:=λc ob q hx=>by
  obtain⟨o',z⟩:=a.there c ob q hx;exact b.there c o' z hx
 UN:=λc xs q=>b.UN c xs<|a.UN c xs q
 UK:=λc ob xs q=>b.UK c ob xs<|a.UK c ob xs q
 UJ:=λc ps q=>by
  obtain⟨U,z⟩:=a.UJ c ps q;obtain⟨O,e2⟩:=b.UJ c _ z;exact#[U++O,by rw[e2,Array.append_assoc]]
theorem Un.kept(k:∀b u,h.get? b=Zh u->h'.get? b=Zh u):Un fs ex H H h h':=
 #[λb ob q _ _ _=>k b ob q,λb ob q _ _ _=>#[ob.slots,k b ob q],λ_ _ _ n _=>n,λb ob q _=>#[ob,k b ob q],λ_ _ q=>q,λ_ _ _ q=>q,λ_ ps q=>#[(List.toArray []),by rw[q];simp]]
theorem Un.refl:Un fs ex H H h h:=Un.kept λ_ _ q=>q
theorem Un.laid(k:∀b u,h.get? b=Zh u->h'.get? b=Zh u)(z:h.objs.size<=a)(hn:H a=Zi):Un fs ex H (upd H a o) h h' where
 keep:=λb u q _ _ _=>k b u q
 slot:=λb u q _ _ _=>#[u.slots,k b u q]
 free:=λb u q n _=>by rw[aO<|fQ<|jI (Pa q) z];exact n
 there:=λb u q _=>#[u,k b u q]
 UN:=λb xs q=>by rw[aO<|bE q hn];exact q
 UK:=λb u xs q=>by rw[aO<|bE q hn];exact q
 UJ:=λb ps q=>#[(List.toArray []),by rw[aO<|bE q hn,q];simp]
theorem Un.write(J:IS<|H x)(Z:e=x∨H e=Zh (.own x))(k:∀b u,b≠e->h.get? b=Zh u->h'.get? b=Zh u)(O:∃u,h'.get? e=Zh u):Un fs ex H (upd H x o) h h':=by
 have hx:∀b,H b=Zi->b≠x:=λb n z=>by subst z;rw[n] at J;exact J
 have U:∀b,H b=Zi->b≠e:=λb n z=>by
  subst z;rcases Z with r|r
  .exact hx b n r
  .rw [n] at r;cases r
 have hm:∀b u,H b=Zh u->¬ IS (Zh u)->b≠x:=λb u q nm z=>by subst z;rw[q] at J;exact nm J
 refine#[λb u q n _ _=>k b u (U b n) q,λb u q n _ _=>#[u.slots,k b u (U b n) q],λb u q n _=>by rw[aO<|hx b n];exact n,λb u q _=>?_,
  λb xs q=>by rw[aO<|hm b _ q λz=>z];exact q,λb u xs q=>by rw[aO<|hm b _ q λz=>z];exact q,λb ps q=>#[(List.toArray []),by rw[aO<|hm b _ q λz=>z,q];simp]]
 by_cases V8:b=e
 .subst V8;exact O
 .exact #[u,k b u V8 q]
end
noncomputable def trk(h:PJ)(H:Hp):List OS:=(OW h.objs.size).filter λa=>(H a).isSome
noncomputable def lO(h:PJ)(H:Hp):PJ:=R3 h<|trk h H
theorem wJ(h:PJ)(H:Hp):(lO h H).objs.size=h.objs.size:=PySem.W.hideAll_size _ _
theorem zk{o:Qf}(e:h.get? b=Zh o)(n:H b=Zi):(lO h H).get? b=Zh o:=
 PySem.W.hideAll_get _ e λhm=>by
  have q:(H b).isSome=Zj:=(Ey.mp hm).2;rw[n] at q;simp at q
theorem BS{o:Qf}(e:(lO h H).get? b=Zh o):h.get? b=Zh o/\H b=Zi:=by
 have J:h.get? b=Zh o:=PySem.W.of_hideAll (trk h H) e;refine#[J,?_];cases q:H b with
 |none=>rfl
 |some x=>
  have hm:b∈trk h H:=Ey.mpr #[qb.mpr<|Pa J,by simp[q]];have z:(lO h H).get? b=Zi:=PySem.W.hideAll_none (trk h H) hm;rw[z] at e;cases e
structure Mod(K:W.Frag)(mg:Pj->Option OR)(base:PJ):Prop where
 WM:K.In base
 glob:base.Ns Ph mg
 blt:∃mb,base.Ns TB mb/\∀x:Pj,x≠"__name__"->mb x=Rl x
 nolimit:base.NoLimit
structure Cx where
 prog:Pl
 w:PN
 K:W.Frag
 mg:Pj->Option OR
 base:PJ
 A:Py
 N:List Pj
 s₀:OU
 H₀:Hp
 env:RN
 outer:List RN
 stack:List RN
 ex:List OS
 fn:Pj->Bool
 calm:Bool
 pn:List<|OS×Qf
 xe:OR->OU->Prop
variable {X:Cx}
noncomputable def frs(l:List RN):List OS:=l.filterMap (·.frame)
noncomputable abbrev Cx.fs(X:Cx):List OS:=frs X.outer
def IK(sc:Qq)(x:Pj):Prop:=sc.names.lookup x=Zh .local∨sc.names.lookup x=Zh .cell∨sc.names.lookup x=Zh .free
def Loc(sc:Qq)(x:Pj):Prop:=sc.names.lookup x=Zh .local∨sc.names.lookup x=Zh .cell
def Look(env:RN)(h:PJ)(m:Pj->Option OR)(x:Pj)(u:OR):Prop:=
 (env.kindOf x=Zh .local/\m x=Zh u)∨((env.kindOf x=Zh .cell∨env.kindOf x=Zh .free)/\∃c,env.cells.lookup x=Zh c/\h.IsCell c (Zh u))
structure Cx.Ok(X:Cx):Prop where
 mod:Mod X.K X.mg X.base
 kind:X.env.scope.kind=.function
 glob:X.env.globals=Ph
 blt:X.env.builtins=TB
 above:X.s₀.heap.objs.size<=X.env.locals
 inj:∀x y c,X.env.cells.lookup x=Zh c->X.env.cells.lookup y=Zh c->x=y
 has:∀x,(X.env.kindOf x=Zh .cell∨X.env.kindOf x=Zh .free)->∃c,X.env.cells.lookup x=Zh c
 WR:∀x c,X.fn x=Zj->X.env.cells.lookup x=Zh c->X.s₀.heap.objs.size<=c
 hd:X.calm=Zj->X.A.handled=Zi
 qt:∀v,X.A.handled=Zh v->∃a o vs,v=.ref a/\(a,o)∈X.pn/\o.data=.fields vs/\vs[2]?=Zh .none
 frames:X.A.frames=Zh X.stack
 Xa:X.stack=X.outer∨(X.stack=X.env::X.outer/\X.env.frame=Zh X.env.locals)
 Xp:∀b∈X.ex,b≠X.env.locals/\∀x c,X.env.cells.lookup x=Zh c->c≠b
 bs:∀b o,X.base.get? b=Zh o->X.s₀.heap.get? b=Zh o/\X.H₀ b=Zi
 V9:X.base.objs.size<=X.s₀.heap.objs.size
 VN:∀b o,X.base.get? b=Zh o->b∉X.ex
 VW:∀b∈X.ex,b∉X.fs
 U0:X.s₀.heap.FunFrames X.base X.outer
 Wk:∀b∈X.fs,X.H₀ b=Zi
structure Inv(X:Cx)(pins:List<|OS×Qf)(σ:List<|Option V)(H:Hp)(s:OU):Prop where
 ok:X.Ok
 os:s.os=X.s₀.os
 bare:Q1 s.gens
 base:Un X.fs X.ex X.H₀ H X.s₀.heap s.heap
 loc:∃m,s.heap.Ns X.env.locals m/\∀(i:Nat) (x:Pj) (v:V),X.N[i]?=Zh x->σ[i]?=Zh (Zh v)->IK X.env.scope x->∃u,RelV v u/\Look X.env s.heap m x u
 cell:∀x c,X.env.cells.lookup x=Zh c->∃v,s.heap.IsCell c v
 free:H X.env.locals=Zi
 UE:∀x c,X.env.cells.lookup x=Zh c->H c=Zi
 pin:∀p∈X.pn++pins,s.heap.get? p.1=Zh p.2/\H p.1=Zi/\p.1≠X.env.locals/\p.1∉X.fs/\∀v,p.2.data≠.cell v
 Uz:cY X.prog X.w H s.heap
 len:σ.length=X.N.length
section
variable {σ:List (Option V)}{H':Hp}{h':PJ}
theorem Cx.Ok.Xx(ok:X.Ok){o:Qf}(e:X.base.get? b=Zh o):b∉X.fs:=λz=>by
 have:=(ok.U0.mem z).1;rw[e] at this;cases this
theorem Inv.bs(I:Inv X pins σ H s):∀b o,X.base.get? b=Zh o->s.heap.get? b=Zh o/\H b=Zi:=λb o e=>
 #[I.base.keep b o (I.ok.bs b o e).1 (I.ok.bs b o e).2 (I.ok.Xx e)<|I.ok.VN b o e,I.base.free b o (I.ok.bs b o e).1 (I.ok.bs b o e).2<|I.ok.VN b o e]
theorem Inv.bk(I:Inv X pins σ H s):∀b o,X.base.get? b=Zh o->s.heap.get? b=Zh o:=λb o e=>(I.bs b o e).1
theorem Inv.mod(I:Inv X pins σ H s):Mod X.K X.mg X.base:=I.ok.mod
theorem Inv.UP(I:Inv X pins σ H s):X.K.In s.heap:=I.ok.mod.WM.keeps I.bk
theorem Inv.lt(I:Inv X pins σ H s):X.env.locals<s.heap.objs.size:=let ⟨_,hn,_⟩:=I.loc;hn.lt
theorem Inv.sz(I:Inv X pins σ H s):X.s₀.heap.objs.size<=s.heap.objs.size:=dJ I.ok.above<|Bb I.lt
theorem Inv.WC(I:Inv X pins σ H s)(h:s.heap.objs.size<=a):a∉X.fs:=λJ=>by
 obtain⟨_,o,z,_⟩:=I.ok.U0.mem J;exact absurd (jI (Pa z)<|dJ I.sz h)<|AA _
theorem Inv.Ww(I:Inv X pins σ H s):∀x c,X.env.cells.lookup x=Zh c->c≠X.env.locals:=λx c e z=>by
 obtain⟨v,o,U,hd⟩:=I.cell x c e;obtain⟨m,⟨o',es,Z,J,O,_⟩,_⟩:=I.loc;rw[z,J] at U;cases U;rw[O] at hd;cases hd
theorem Inv.U0(I:Inv X pins σ H s):s.heap.FunFrames X.base X.outer:=by
 have all:∀(l:List RN),(∀b∈frs l,b∈X.fs)->X.s₀.heap.FunFrames X.base l->s.heap.FunFrames X.base l:=by
  intro l;induction l with
  |nil=>intro _ _;trivial
  |cons env r ih=>
   intro U hl;obtain⟨hk,⟨L,o,J,hn,ho,hd⟩,Z⟩:=hl;have hL:L∈X.fs:=U L (by unfold frs;rw[SM,J];exact aZ);obtain⟨sl,e⟩:=I.base.slot L o ho (I.ok.Wk L hL) hL λz=>I.ok.VW L z hL;exact#[hk,#[L,_,J,hn,e,hd],ih (λb O=>U b<|by unfold frs;rw[SM,J];exact bF _ O) Z]
 exact all X.outer (λ_ O=>O) I.ok.U0
theorem Inv.stack(I:Inv X pins σ H s):s.heap.FunFrames X.base X.stack:=by
 rcases I.ok.Xa with e|⟨e,z⟩
 .rw [e];exact I.U0
 .rw [e];obtain⟨m,hn,_⟩:=I.loc;refine .cons (by rw[I.ok.kind];decide) z hn ?_ I.U0;exact Tc<|dJ I.ok.V9 I.ok.above
theorem Inv.US(I:Inv X pins σ H s):∀b∈frs X.stack,b∈X.env.locals::X.fs:=λb z=>by
 rcases I.ok.Xa with e|⟨e,J⟩
 .rw [e] at z;exact bF _ z
 .rw [e] at z;unfold frs at z;rw[SM,J] at z;exact z
theorem Inv.VG(I:Inv X pins σ H s):∀b∈frs X.stack,H b=Zi:=λb J=>by
 rcases bY.mp (I.US b J) with e|J
 .rw [e];exact I.free
 .obtain ⟨_,o,O,_⟩:=I.ok.U0.mem J;exact I.base.free b o O (I.ok.Wk b J) λz=>I.ok.VW b z J
theorem Inv.step{g':Array Uu}{d':Drawn}(I:Inv X pins σ H s)
  (O:∀b∈ch,(b∈X.ex∨X.s₀.heap.objs.size<=b)/\b≠X.env.locals/\(∀x c,X.env.cells.lookup x=Zh c->c≠b)/\∀p∈X.pn++pins,p.1≠b)
  (keep:∀b o,b≠X.env.locals->b∉X.fs->b∉ch->s.heap.get? b=Zh o->H b=Zi->h'.get? b=Zh o)
  (slot:∀b o,b≠X.env.locals->b∈X.fs->b∉ch->s.heap.get? b=Zh o->H b=Zi->∃sl,h'.get? b=Zh { o with slots:=sl }) (free:∀b o,b∉ch->s.heap.get? b=Zh o->H b=Zi->H' b=Zi)
  (there:∀b o,b∉ch->s.heap.get? b=Zh o->∃o',h'.get? b=Zh o')
  (UN:∀b xs,H b=Zh (.tup xs)->H' b=Zh (.tup xs)) (UK:∀b o u,H b=Zh (.frz o u)->H' b=Zh (.frz o u)) (UJ:∀b ps,H b=Zh (.tbl ps)->∃aa,H' b=Zh (.tbl<|ps++aa))
  (ns:∀m,s.heap.Ns X.env.locals m->h'.Ns X.env.locals m) (ad:cY X.prog X.w H' h') (hg:Q1 g'):
  Inv X pins σ H' { s with heap:=h',gens:=g',drawn:=d',toks:=t' }:=by
 have ac:∀b o,X.s₀.heap.get? b=Zh o->b≠X.env.locals:=λb o e=>fQ<|jI (Pa e) I.ok.above;have Z:∀b o,X.s₀.heap.get? b=Zh o->b∉X.ex->b∉ch:=λb o e hx hb=>by
  rcases(O b hb).1 with z|z
  .exact hx z
  .exact absurd (jI (Pa e) z) (AA _)
 have J:∀x c,X.env.cells.lookup x=Zh c->∀v,s.heap.IsCell c v->h'.IsCell c v:=λx c e v zz=>by
  obtain⟨o,ho,hd⟩:=zz;have U:c∉ch:=λz=>(O c z).2.2.1 x c e rfl;by_cases hc:c∈X.fs
  .obtain ⟨sl,q⟩:=slot c o (I.Ww x c e) hc U ho<|I.UE x c e;exact#[_,q,hd]
  .exact #[o,keep c o (I.Ww x c e) hc U ho<|I.UE x c e,hd]
 refine#[I.ok,I.os,hg,#[λb o e n hb hx=>?_,λb o e n hb hx=>?_,λb o e n hx=>?_,λb o e hx=>?_,λb xs e=>UN b xs<|I.base.UN b xs e,λb o xs e=>UK b o xs<|I.base.UK b o xs e,λb ps e=>?_],?_,λx c e=>?_,?_,λx c e=>?_,λp hp=>?_,ad,I.len]
 .exact keep b o (ac b o e) hb (Z b o e hx) (I.base.keep b o e n hb hx) (I.base.free b o e n hx)
 .obtain ⟨sl,e1⟩:=I.base.slot b o e n hb hx;obtain⟨ae,e2⟩:=slot b _ (ac b o e) hb (Z b o e hx) e1<|I.base.free b o e n hx;exact#[ae,e2]
 .obtain ⟨o',e1⟩:=I.base.there b o e hx;exact free b o' (Z b o e hx) e1<|I.base.free b o e n hx
 .obtain ⟨o',e1⟩:=I.base.there b o e hx;exact there b o' (Z b o e hx) e1
 .obtain ⟨m1,e1⟩:=I.base.UJ b ps e;obtain⟨m2,e2⟩:=UJ b _ e1;exact#[m1++m2,by rw[e2,Array.append_assoc]]
 .obtain ⟨m,hn,hl⟩:=I.loc;refine#[m,ns m hn,λi x v e1 e2 e3=>?_];obtain⟨u,r,l⟩:=hl i x v e1 e2 e3;refine#[u,r,?_];rcases l with l|⟨k,c,e,z⟩
  .exact .inl l
  .exact .inr #[k,c,e,J x c e _ z]
 .obtain ⟨v,z⟩:=I.cell x c e;exact#[v,J x c e v z]
 .obtain ⟨m,⟨o,_,_,ho,_⟩,_⟩:=I.loc;exact free _ o (λz=>(O _ z).2.1 rfl) ho I.free
 .obtain ⟨v,o,ho,hd⟩:=I.cell x c e;exact free c o (λz=>(O c z).2.2.1 x c e rfl) ho<|I.UE x c e
 .obtain ⟨e,n,ne,nf,d⟩:=I.pin p hp;have U:p.1∉ch:=λz=>(O p.1 z).2.2.2 p hp rfl;exact#[keep p.1 p.2 ne nf U e n,free p.1 p.2 U e n,ne,nf,d]
theorem Inv.un(I:Inv X pins σ H s)(u:Un X.fs [] H H' s.heap h')(O:cY X.prog X.w H' h'):Inv X pins σ H' { s with heap:=h',toks:=t' }:=by
 obtain⟨m,⟨o,es,ep,ho,r⟩,_⟩:=id I.loc;obtain⟨sl,hL⟩:=u.any ho I.free (by simp);exact I.step (g':=s.gens) (d':=s.drawn) (ch:=[]) (λ_ z=>nomatch z) (λb o _ U _ e n=>u.keep b o e n U<|by simp) (λb o _ U _ e n=>u.slot b o e n U<|by simp) (λb o _ e n=>u.free b o e n<|by simp) (λb o _ e=>u.there b o e<|by simp) u.UN u.UK u.UJ (λm' hm=>by
  obtain⟨o',aa,Z,J,r'⟩:=hm;rw[ho] at J;cases J;exact#[_,aa,Z,hL,r']) O I.bare
theorem Inv.call{g':Array Uu}{d':Drawn}(I:Inv X pins σ H s)(u:Un (frs X.stack) ch H H' s.heap h')(U:cY X.prog X.w H' h')(hg:Q1 g')
  (O:∀b∈ch,(b∈X.ex∨X.s₀.heap.objs.size<=b)/\b≠X.env.locals/\(∀x c,X.env.cells.lookup x=Zh c->c≠b)/\∀p∈X.pn++pins,p.1≠b):
  Inv X pins σ H' { s with heap:=h',gens:=g',drawn:=d',toks:=t' }:=by
 obtain⟨m,⟨o,es,ep,ho,r⟩,_⟩:=id I.loc;obtain⟨sl,hL⟩:=u.any ho I.free λz=>(O _ z).2.1 rfl;exact I.step (ch:=ch) O (λb o hL hb hc e n=>u.keep b o e n (λz=>(bY.mp<|I.US b z).elim hL hb) hc) (λb o _ _ hc e n=>u.any e n hc) (λb o hc e n=>u.free b o e n hc) (λb o hc e=>u.there b o e hc) u.UN u.UK u.UJ (λm' hm=>by
  obtain⟨o',aa,Z,J,r'⟩:=hm;rw[ho] at J;cases J;exact#[_,aa,Z,hL,r']) U hg
theorem Inv.turned(I:Inv X pins σ H s)(k:∀b o,b≠it->s.heap.get? b=Zh o->h'.get? b=Zh o)(hn:H it=Zi)(hL:it≠X.env.locals)
  (h1:it∈X.ex∨X.s₀.heap.objs.size<=it) (h2:∀x c,X.env.cells.lookup x=Zh c->c≠it) (h3:∀p∈X.pn++pins,p.1≠it):Inv X pins σ H { s with heap:=h',toks:=t' }:=by
 have J:∀b u,H b=Zh u->b≠it:=λb u e z=>by rw[z,hn] at e;cases e
 refine I.step (g':=s.gens) (d':=s.drawn) (ch:=[it]) (λb U=>?_) (λb o _ _ hc e _=>k b o (λz=>hc<|by simp[z]) e) (λb o _ _ hc e _=>#[o.slots,k b o (λz=>hc<|by simp[z]) e]) (λ_ _ _ _ n=>n)
  (λb o hc e=>#[o,k b o (λz=>hc<|by simp[z]) e]) (λ_ _ e=>e) (λ_ _ _ e=>e) (λb ps e=>#[(List.toArray []),by rw[e];simp]) (λm hm=>?_) (λb u e=>?_) I.bare
 .have e:b=it:=by simpa using U
  subst e;exact#[h1,hL,h2,h3]
 .obtain ⟨o,es,Z,O,r⟩:=hm;exact#[o,es,Z,k _ o (Pe hL) O,r]
 .refine (I.Uz b u e).UR (λc v hc q=>k c v ?_ q) (λ_ q=>q) λ_ _ q=>q;rcases hc with z|z
  .rw [z];exact J b u e
  .exact J c _ z
theorem Inv.tok(I:Inv X pins σ H s)(t:Nat):Inv X pins σ H { s with toks:=t }:=I.un (h':=s.heap) (t':=t) Un.refl I.Uz
theorem Inv.kept(I:Inv X pins σ H s)(k:∀b u,s.heap.get? b=Zh u->h'.get? b=Zh u):Inv X pins σ H { s with heap:=h',toks:=t' }:=I.un (Un.kept k)<|I.Uz.kept k
theorem Inv.laid(I:Inv X pins σ H s)(k:∀b u,s.heap.get? b=Zh u->h'.get? b=Zh u)(z:s.heap.objs.size<=a)(new:aW X.prog X.w (upd H a o) h' a o):
  Inv X pins σ (upd H a o) { s with heap:=h',toks:=t' }:=I.un (Un.laid k z<|I.Uz.fresh z)<|I.Uz.laid k z new
theorem Inv.write{x e:OS}(I:Inv X pins σ H s)(O:IS<|H x)(J:e=x∨H e=Zh (.own x))(k:∀b u,b≠e->s.heap.get? b=Zh u->h'.get? b=Zh u)(z:∃u,h'.get? e=Zh u)
  (new:aW X.prog X.w (upd H x o) h' x o):Inv X pins σ (upd H x o) { s with heap:=h',toks:=t' }:=I.un (Un.write O J k z)<|I.Uz.write O J k z new
theorem Inv.UW{pins':List<|OS×Qf}(I:Inv X pins σ H s)(h:∀p∈pins',s.heap.get? p.1=Zh p.2/\H p.1=Zi/\p.1≠X.env.locals/\p.1∉X.fs/\∀v,p.2.data≠.cell v):Inv X pins' σ H s:=
 #[I.ok,I.os,I.bare,I.base,I.loc,I.cell,I.free,I.UE,λp J=>(gZ.mp J).elim (λz=>I.pin p<|mC _ z)<|h p,I.Uz,I.len]
theorem JR(z:N.Nodup){j:Nat}(a:N[i]?=Zh x)(b:N[j]?=Zh x):i=j:=by
 obtain⟨h1,J⟩:=jS.mp a;obtain⟨h2,e2⟩:=jS.mp b;exact(List.getElem_inj z).mp<|J.trans e2.symm
theorem nI{M:SI}{A:Py}{Q:Unit->OU->Prop}(I:Inv X pins σ H s)(hN:X.N.Nodup)(hi:X.N[i]?=Zh x)(hx:Loc X.env.scope x)(r:RelV v u)
  (h:∀s',Inv X pins (σ.set i<|some v) H s'->(∃a,Pr a s.heap s'.heap/\(a=X.env.locals∨X.env.cells.lookup x=Zh a))->Q .unit s') (hf:X.fn x=Zj∨X.env.scope.names.lookup x=Zh .local:=by first|exact .inl rfl|exact .inr rfl|assumption):OZ M A (storeName X.env x u) Q E s:=by
 obtain⟨m,hn,hl⟩:=id I.loc;have ad:(X.env.scope.kind==.class||(X.env.scope.kind==.module&&X.env.locals !=X.env.globals))=Zk:=by rw[I.ok.kind];rfl
 have aa:i<σ.length:=by rw[I.len];exact(jS.mp hi).1
 have Ww:=I.Ww;have O:∀{a:OS} {h':PJ},(∃o,s.heap.get? a=Zh o/\H a=Zi)->Pr a s.heap h'->cY X.prog X.w H h':=fun {a h'} ha J b ob e=>by
  obtain⟨_,_,Z⟩:=ha;refine(I.Uz b ob e).UR (λc w' hc q=>(J.2 c ?_).trans q) (λ_ q=>q) λ_ _ q=>q;rintro rfl;rcases hc with rfl|hc
  .rw [Z] at e;cases e
  .rw [Z] at hc;cases hc
 rcases hx with hk|hk
 .refine wpAny_storeName_local hk hn (λh' ah J=>?_) ad;obtain⟨oL,_,_,ai,_⟩:=id hn;refine h _ #[I.ok,I.os,I.bare,#[λb o e n hb hx=>?_,λb o e n hb hx=>?_,I.base.free,λb o e hx=>?_,I.base.UN,I.base.UK,I.base.UJ],#[_,ah,λj y v' U e2 e3=>?_],λy c e=>?_,I.free,I.UE,λp hp=>?_,O #[oL,ai,I.free] J,by simpa using I.len] #[_,J,.inl rfl]
  .exact (J.2 b<|fQ<|jI (Pa e) I.ok.above).trans (I.base.keep b o e n hb hx)
  .obtain ⟨sl,U⟩:=I.base.slot b o e n hb hx;exact#[sl,(J.2 b<|fQ<|jI (Pa e) I.ok.above).trans U]
  .obtain ⟨o',U⟩:=I.base.there b o e hx;exact#[o',(J.2 b<|fQ<|jI (Pa e) I.ok.above).trans U]
  .by_cases hj:j=i
   .subst hj;rw[hi] at U;cases U;rw[GO aa] at e2;cases e2;exact#[u,r,.inl #[hk,by simp]]
   .rw [GN<|Pe hj] at e2;obtain⟨u',r',q⟩:=hl j y v' U e2 e3;refine#[u',r',?_];rcases q with ⟨k,e⟩|⟨k,c,e,z⟩
    .refine .inl #[k,?_];have:y≠x:=λe=>hj<|JR hN U<|e▸hi;simp[this,e]
    .exact .inr #[k,c,e,z.sameBut J<|Ww y c e]
  .obtain ⟨w',z⟩:=I.cell y c e;exact#[w',z.sameBut J<|Ww y c e]
  .obtain ⟨e,n,ne,nf,d⟩:=I.pin p hp;exact#[(J.2 p.1 ne).trans e,n,ne,nf,d]
 .have ac:X.fn x=Zj:=by
   rcases hf with z|z
   .exact z
   .rw [z] at hk;cases hk
  obtain⟨c,hc⟩:=I.ok.has x<|.inl hk;obtain⟨w',z⟩:=I.cell x c hc;refine wpAny_storeName_cell I.ok.kind hk hc z λh' ag J=>?_;obtain⟨oc,af,ae⟩:=id z;refine h { s with heap:=h' } #[I.ok,I.os,I.bare,#[λb o e n hb hx=>?_,λb o e n hb hx=>?_,I.base.free,λb o e hx=>?_,I.base.UN,I.base.UK,I.base.UJ],#[m,hn.sameBut J<|Pe<|Ww x c hc,λj y v' U e2 e3=>?_],λy c' e=>?_,I.free,I.UE,λp hp=>?_,O #[oc,af,I.UE x c hc] J,by simpa using I.len] #[c,J,.inr hc]
  .exact (J.2 b<|fQ<|jI (Pa e)<|I.ok.WR x c ac hc).trans (I.base.keep b o e n hb hx)
  .obtain ⟨sl,U⟩:=I.base.slot b o e n hb hx;exact#[sl,(J.2 b<|fQ<|jI (Pa e)<|I.ok.WR x c ac hc).trans U]
  .obtain ⟨o',U⟩:=I.base.there b o e hx;exact#[o',(J.2 b<|fQ<|jI (Pa e)<|I.ok.WR x c ac hc).trans U]
  .by_cases hj:j=i
   .subst hj;rw[hi] at U;cases U;rw[GO aa] at e2;cases e2;exact#[u,r,.inr #[.inl hk,c,hc,ag]]
   .rw [GN<|Pe hj] at e2;obtain⟨u',r',q⟩:=hl j y v' U e2 e3;refine#[u',r',?_];rcases q with q|⟨k,c',e,z'⟩
    .exact .inl q
    .refine .inr #[k,c',e,z'.sameBut J ?_];rintro rfl;exact hj<|JR hN U<|I.ok.inj _ _ _ e hc▸hi
  .by_cases hcc:c'=c
   .subst hcc;exact#[_,ag]
   .obtain ⟨w2,z2⟩:=I.cell y c' e;exact#[w2,z2.sameBut J hcc]
  .obtain ⟨e,n,ne,nf,d⟩:=I.pin p hp;refine#[(J.2 p.1 ?_).trans e,n,ne,nf,d];intro q;rw[q,af] at e;have q':oc=p.2:=OX e;exact d w'<|by rw[<- q'];exact ae
theorem Hd{M:SI}{A:Py}{Q:Unit->OU->Prop}(I:Inv X pins σ H s)(z:X.N.Nodup)(hi:X.N[i]?=Zh x)(hx:Loc X.env.scope x)(r:RelV v u)
  (h:∀s',Inv X pins (σ.set i<|some v) H s'->Q .unit s') (O:X.fn x=Zj∨X.env.scope.names.lookup x=Zh .local:=by first|exact .inl rfl|exact .inr rfl|assumption):OZ M A (storeName X.env x u) Q E s:=
 nI I z hi hx r (λs' J _=>h s' J) O
theorem Inv.VD{s':OU}(I:Inv X pins σ H s)(U:s'.os=s.os)(u:Un (frs X.stack) ch H H' s.heap s'.heap)(J:cY X.prog X.w H' s'.heap)(O:Q1 s'.gens)
  (z:∀b∈ch,(b∈X.ex∨X.s₀.heap.objs.size<=b)/\b≠X.env.locals/\(∀x c,X.env.cells.lookup x=Zh c->c≠b)/\∀p∈X.pn++pins,p.1≠b):Inv X pins σ H' s':=by
 obtain⟨h',g',d',t',o'⟩:=s';have e:o'=s.os:=U;subst e;exact I.call (g':=g') (t':=t') (d':=d') u J O z
end
noncomputable abbrev XK:=OR->Option OS->Hp->Prop
noncomputable abbrev St:=List<|Option V
variable {σ:St}
noncomputable abbrev VK:=V->Hp->Prop
noncomputable abbrev TE:=St->Hp->VK->Prop
variable {te:TE}
noncomputable abbrev TT:=St->Hp->(Bool->Hp->Prop)->Prop
variable {tc:TT}
noncomputable abbrev TA:=St->Hp->(List V->Hp->Prop)->Prop
variable {ta:TA}
structure Ends where
 nx:St->Hp->Prop
 rt:VK
 bk:St->Hp->Prop:=λ_ _=>False
 ct:St->Hp->Prop:=λ_ _=>False
variable {D:Ends}
noncomputable abbrev TS:=Ends->St->Hp->Prop
variable {tb:TS}
def EP(X:Cx)(pins:List<|OS×Qf)(σ:St)(Q:VK)(u:OR)(s':OU):Prop:=L2.X2 λv H'=>Inv X pins σ H' s'/\RelV v u/\Q v H'
def TP(X:Cx)(pins:List<|OS×Qf)(σ:St)(Q:Bool->Hp->Prop)(b:Bool)(s':OU):Prop:=∃H',Inv X pins σ H' s'/\Q b H'
def AP(X:Cx)(pins:List<|OS×Qf)(σ:St)(Q:List V->Hp->Prop)(us:List OR)(s':OU):Prop:=L2.X2 λvs H'=>Inv X pins σ H' s'/\Vals vs us/\Q vs H'
def SP(X:Cx)(pins:List<|OS×Qf)(D:Ends)(f:Flow)(s':OU):Prop:=
 match f with
 |.next=>L2.X2 λσ' H'=>Inv X pins σ' H' s'/\D.nx σ' H'
 |.brk=>L2.X2 λσ' H'=>Inv X pins σ' H' s'/\D.bk σ' H'
 |.cont=>L2.X2 λσ' H'=>Inv X pins σ' H' s'/\D.ct σ' H'
 |.ret u=>L2.X3 λv σ' H'=>Inv X pins σ' H' s'/\RelV v u/\D.rt v H'
def PE(X:Cx)(e:P1)(t:TE):Prop:=
 ∀(pins:List<|OS×Qf) (s:OU) (σ:St) (H:Hp) (Q:VK),Inv X pins σ H s->t σ H Q->OZ (Pd X.prog X.w) X.A (eval e X.env) (EP X pins σ Q) X.xe s
def PT(X:Cx)(e:P1)(t:TT):Prop:=
 ∀(pins:List<|OS×Qf) (s:OU) (σ:St) (H:Hp) (Q:Bool->Hp->Prop),Inv X pins σ H s->t σ H Q->OZ (Pd X.prog X.w) X.A (isTrue e X.env<|eval e X.env) (TP X pins σ Q) X.xe s
def PW(X:Cx)(e:P1)(t:TT):Prop:=
 ∀(whole:SH OR) (pins:List<|OS×Qf) (s:OU) (σ:St) (H:Hp) (Q:Bool->Hp->Prop),Inv X pins σ H s->t σ H Q->OZ (Pd X.prog X.w) X.A (isTrue e X.env whole) (TP X pins σ Q) X.xe s
theorem PW.pt{t:TT}(h:PW X e t):PT X e t:=h _
def PA(X:Cx)(es:List P1)(t:TA):Prop:=
 ∀(pos:RC) (pins:List<|OS×Qf) (s:OU) (σ:St) (H:Hp) (Q:List V->Hp->Prop),Inv X pins σ H s->t σ H Q->OZ (Pd X.prog X.w) X.A (spliced<|Qd pos<|Pb es X.env) (AP X pins σ Q) X.xe s
def PS(X:Cx)(st:PM)(t:TS):Prop:=
 ∀(pins:List<|OS×Qf) (s:OU) (σ:St) (H:Hp) (D:Ends),Inv X pins σ H s->t D σ H->OZ (Pd X.prog X.w) X.A (exec st X.env) (SP X pins D) X.xe s
def kN(X:Cx)(st:List PM)(t:TS):Prop:=
 ∀(pins:List<|OS×Qf) (s:OU) (σ:St) (H:Hp) (D:Ends),Inv X pins σ H s->t D σ H->OZ (Pd X.prog X.w) X.A (execs st X.env) (SP X pins D) X.xe s
theorem thn{α:Type}{t:SH α}{Q Q':α->OU->Prop}{M:SI}{A:Py}(h:OZ M A t Q E s)(z:∀a s,Q a s->Q' a s):OZ M A t Q' E s:=Pu h z λ_ _ x=>x
section
def Ia(P:V->Prop):St->Nat->Prop
 |a::_,0=>match a with
  |some v=>P v
  |none=>False
 |_::σ,i+1=>Ia P σ i
 |[],_=>False
theorem Ab{P:V->Prop}:∀{σ:St} {i:Nat},Ia P σ i->∃v,σ[i]?=Zh (Zh v)/\P v:=by
 intro σ;induction σ with
 |nil=>intro i h;cases i<;>exact h.elim
 |cons a σ ih=>
  intro i h;cases i with
  |zero=>
   cases a with
   |none=>exact h.elim
   |some v=>exact#[v,rfl,h]
  |succ i=>exact ih h
theorem FU{P:V->Prop}:∀{σ:St} {i:Nat},σ[i]?=Zh (Zh v)->P v->Ia P σ i:=by
 intro σ;induction σ with
 |nil=>intro i h;cases i<;>cases h
 |cons a σ ih=>
  intro i h q;cases i with
  |zero=>cases h;exact q
  |succ i=>exact ih h q
def wu(x:V)(P:Int->Prop):Prop:=match x with
 |.int i=>P i
 |_=>False
theorem Js{x:V}{P:Int->Prop}(h:wu x P):∃i,x=.int i/\P i:=by
 cases x<;>first|exact#[_,rfl,h]|exact h.elim
theorem yQ{x:V}{P:Int->Int->Prop}(h:wu x λi=>wu y λj=>P i j):∃i j,x=.int i/\y=.int j/\P i j:=by
 obtain⟨i,e,h⟩:=Js h;obtain⟨j,z,h⟩:=Js h;exact#[i,j,e,z,h]
def BR(x:V)(P:Bool->Prop):Prop:=match x with
 |.bl i=>P i
 |_=>False
theorem Jr{x:V}{P:Bool->Prop}(h:BR x P):∃i,x=.bl i/\P i:=by
 cases x<;>first|exact#[_,rfl,h]|exact h.elim
def gQ(i:Nat):TE:=λσ H Q=>Ia (λv=>Q v H) σ i
def tC(v:V):TE:=λ_ H Q=>Q v H
theorem yI(Z:X.N[i]?=Zh x)(U:IK X.env.scope x)(hd:(x==("__debug__":Pj))=Zk:=by decide)(O:(x==("__classdict__":Pj))=Zk:=by decide):PE X (.Name x pos)<|gQ i:=by
 intro pins s σ H Q I h;obtain⟨v,e,h⟩:=Ab h;obtain⟨m,hn,hl⟩:=I.loc;obtain⟨u,r,l⟩:=hl i x v Z e U;have fin:EP X pins σ Q u s:=#[v,H,I,r,h]
 rcases l with ⟨J,hm⟩|⟨J,c,hc,z⟩
 .exact wpAny_Name (wpAny_loadName_local I.ok.kind J hn hm fin) hd
 .rcases J with J|J
  .exact wpAny_Name (wpAny_loadName_cell I.ok.kind J hc z fin) hd
  .exact wpAny_Name (wpAny_loadName_free I.ok.kind J hc z fin O) hd
theorem bJ{i j pos}:PE X (.Constant (.int i) j pos)<|tC<|.int i:=λ_ _ _ H _ I h=>wpAny_Constant_int #[.int i,H,I.tok _,#[_,rfl],h]
theorem DG{b j pos}:PE X (.Constant (.bool b) j pos)<|tC<|.bl b:=λ_ _ _ H _ I h=>Constant_bool #[.bl b,H,I,rfl,h]
theorem AI{j pos}:PE X (.Constant .none j pos)<|tC .Uy:=λ_ _ _ H _ I h=>Constant_none #[.Uy,H,I,rfl,h]
theorem KA{x j pos}:PE X (.Constant (.str x) j pos)<|tC<|.str x:=λ_ _ _ H _ I h=>Calls.Constant_str #[.str x,H,I.tok _,#[_,rfl],h]
def Gl(X:Cx)(x:Pj):Prop:=X.env.kindOf x=Zh .globalImplicit
theorem Gm(I:Inv X pins σ H s)(z:Gl X x)(hm:X.mg x=Zh u)(h:Q u s)
  (hd:(x==("__debug__":Pj))=Zk:=by decide):OZ (Pd X.prog X.w) X.A (eval (.Name x pos) X.env) Q E s:=
 Uv I.ok.kind z (Calls.loadGlobal_global (by rw[I.ok.glob];exact I.mod.glob.keeps I.bk) hm h) hd
theorem D4(I:Inv X pins σ H s)(J:Gl X x)(hm:X.mg x=Zi)(z:Rl x=Zh u)(h:Q u s)
  (hn:x≠"__name__":=by decide) (hd:(x==("__debug__":Pj))=Zk:=by decide):OZ (Pd X.prog X.w) X.A (eval (.Name x pos) X.env) Q E s:=by
 obtain⟨O,h1,h2⟩:=I.mod.blt;exact Uv I.ok.kind J (Calls.loadGlobal_builtin (by rw[I.ok.glob];exact I.mod.glob.keeps I.bk) hm (by rw[I.ok.blt];exact h1.keeps I.bk) ((h2 x hn).trans z) h) hd
theorem BM(z:Gl X x)(hm:X.mg x=Zh u)(r:RelV v u)(hd:(x==("__debug__":Pj))=Zk:=by decide):PE X (.Name x pos)<|tC v:=
 λ_ _ _ H _ I h=>Gm I z hm #[v,H,I,r,h] hd
theorem BP(z:Gl X x)(hm:X.mg x=Zi)(J:Rl x=Zh u)(r:RelV v u)(hn:x≠"__name__":=by decide)(hd:(x==("__debug__":Pj))=Zk:=by decide):PE X (.Name x pos)<|tC v:=
 λ_ _ _ H _ I h=>D4 I z hm J #[v,H,I,r,h] hn hd
variable {a b:P1}{ta tb:TE}
def tB(t:TE):TT:=λσ H Q=>t σ H λx H1=>BR x λc=>Q c H1
theorem vD{t:TE}(h:PE X e t)(Z:∀z,isTrue e X.env z=(do let v <- z;Sh e.pos;holding [v] (truthy v)):=by intro _;rfl):PT X e<|tB t:=by
 intro pins s σ H Q I hw;refine isTrue_plain (thn (h pins s σ H _ I hw) λv s1 zz=>?_)<|Z _;obtain⟨x,H1,U,O,J⟩:=zz;obtain⟨d,rfl,q⟩:=Jr J;cases O;exact Se #[H1,U,q]
variable {tA tB':TT}{rest:List P1}
def Hy(t u:TT):TT:=λσ H Q=>t σ H λc H1=>if c=Zj then u σ H1 Q else Q Zk H1
def M7(t u:TT):TT:=λσ H Q=>t σ H λc H1=>if c=Zj then Q Zj H1 else u σ H1 Q
def Hr(t:TT):TT:=λσ H Q=>t σ H λc H1=>Q (!c) H1
theorem Ea(ha:PT X a tA):PW X (.BoolOp .And [a] pos) tA:=by
 intro z pins s σ H Q I h;refine isTrue_and<|thn (ha pins s σ H Q I h) λc s1 e=>?_;cases c with
 |true=>exact isTrue_and_nil e
 |false=>exact e
theorem Jy(ha:PT X a tA):PW X (.BoolOp .Or [a] pos) tA:=by
 intro z pins s σ H Q I h;refine isTrue_or<|thn (ha pins s σ H Q I h) λc s1 e=>?_;cases c with
 |false=>exact isTrue_or_nil e
 |true=>exact e
theorem CN(ha:PT X a tA)(U:PW X (.BoolOp .And (b::rest) pos) tB'):PW X (.BoolOp .And (a::b::rest) pos)<|Hy tA tB':=by
 intro Z pins s σ H Q I h;refine isTrue_and<|thn (ha pins s σ H _ I h) λc s1 O=>?_;obtain⟨H1,J,z⟩:=O;cases c with
 |true=>exact U Z pins s1 σ H1 Q J z
 |false=>exact#[H1,J,z]
theorem DX(ha:PT X a tA)(U:PW X (.BoolOp .Or (b::rest) pos) tB'):PW X (.BoolOp .Or (a::b::rest) pos)<|M7 tA tB':=by
 intro Z pins s σ H Q I h;refine isTrue_or<|thn (ha pins s σ H _ I h) λc s1 O=>?_;obtain⟨H1,J,z⟩:=O;cases c with
 |true=>exact#[H1,J,z]
 |false=>exact U Z pins s1 σ H1 Q J z
theorem Jw(ha:PT X a tA):PT X (.UnaryOp .Not a pos)<|Hr tA:=by
 intro pins s σ H Q I h;exact isTrue_not<|ha pins s σ H (λc H1=>Q (!c) H1) I h
def Dy(ta tb:TE):TE:=λσ H Q=>ta σ H λx H1=>BR x λc=>if c=Zj then tb σ H1 Q else Q (.bl Zk) H1
def Kc(ta tb:TE):TE:=λσ H Q=>ta σ H λx H1=>BR x λc=>if c=Zj then Q (.bl Zj) H1 else tb σ H1 Q
def Ds(ta:TE):TE:=λσ H Q=>ta σ H λx H1=>BR x λc=>Q (.bl<|!c) H1
theorem E6{op}{t:TE}(h:PE X a t):PE X (.BoolOp op [a] pos) t:=λpins s σ H Q I hw=>BoolOp_one<|h pins s σ H Q I hw
theorem Fe(ha:PE X a ta)(U:PE X (.BoolOp .And (b::rest) pos) tb):PE X (.BoolOp .And (a::b::rest) pos)<|Dy ta tb:=by
 intro pins s σ H Q I h;refine BoolOp_and<|thn (ha pins s σ H _ I h) λv s1 Z=>?_;obtain⟨x,H1,J,O,z⟩:=Z;obtain⟨c,rfl,z⟩:=Jr z;cases O;refine Se ?_;cases c with
 |true=>exact U pins s1 σ H1 Q J z
 |false=>exact#[.bl Zk,H1,J,rfl,z]
theorem yK(ha:PE X a ta):PE X (.UnaryOp .Not a pos)<|Ds ta:=by
 intro pins s σ H Q I h;refine UnaryOp_<|thn (ha pins s σ H _ I h) λv s1 U=>?_;obtain⟨x,H1,O,J,z⟩:=U;obtain⟨c,rfl,z⟩:=Jr z;cases J;exact not_of<|Se #[.bl<|!c,H1,O,rfl,z]
def M8(t:TT)(ta tb:TE):TE:=λσ H Q=>t σ H λc H1=>if c=Zj then ta σ H1 Q else tb σ H1 Q
theorem xo(hc:PT X c tA)(ha:PE X a ta)(O:PE X b tb):PE X (.IfExp c a b pos)<|M8 tA ta tb:=by
 intro pins s σ H Q I h;refine wpAny_IfExp<|thn (hc pins s σ H _ I h) λd s1 U=>?_;obtain⟨H1,J,z⟩:=U;cases d with
 |true=>exact ha pins s1 σ H1 Q J z
 |false=>exact O pins s1 σ H1 Q J z
end
def aB(K:W.Frag)(H:Hp)(a:OS)(xs:List V):Prop:=
 Rd H a (.lst xs)∨
  ∃(o:Qf) (its:Array OR) (n:Nat),K.lookup a=Zh o/\o.cls=.type "list"/\o.dict=Zi/\o.data=.seq its n/\its.size<=sizeLine/\Vals xs its.toList
def cH(K:W.Frag)(H:Hp)(a:OS)(xs:List V):Prop:=
 Rd H a (.tup xs)∨
  ∃(o:Qf) (its:Array OR) (n:Nat),K.lookup a=Zh o/\o.cls=.type "tuple"/\o.data=.seq its n/\its.size<=sizeLine/\Vals xs its.toList
noncomputable def Kn:OR->Option V
 |.none=>Zh .Uy
 |.bool b=>Zh<|.bl b
 |.int i _=>Zh<|.int i
 |.str x _=>Zh<|.str x
 |.bytes b _=>Zh<|.byt b
 |.float b _=>Zh<|.flt b
 |.ref a=>Zh<|.ref a
 |.type n=>Zh<|.ty n
 |_=>Zi
theorem RelV.abs{x:V}(r:RelV x u):Kn u=Zh x:=by
 cases x with
 |Uy=>cases r;rfl
 |bl _=>cases r;rfl
 |int _=>obtain⟨t,rfl⟩:=r;rfl
 |str _=>obtain⟨t,rfl⟩:=r;rfl
 |byt _=>obtain⟨t,rfl⟩:=r;rfl
 |flt _=>obtain⟨t,rfl⟩:=r;rfl
 |ref _=>cases r;rfl
 |ty _=>cases r;rfl
theorem RelV.inj{x:V}(r:RelV x u)(q:RelV y u):x=y:=OX<|r.abs.symm.trans q.abs
theorem Vals.inj:∀{xs ys:List V} {us:List OR},Vals xs us->Vals ys us->xs=ys
 |_,_,_,.nil,.nil=>rfl
 |_,_,_,.cons r t,.cons r' t'=>by rw[r.inj r',Vals.inj t t']
section
variable {xs ys:List V}
theorem aB.of(h:H a=Zh (.lst xs)):aB K H a xs:=.inl<|.inl h
theorem cH.of(h:H a=Zh (.tup xs)):cH K H a xs:=.inl<|.inl h
theorem Inv.list(I:Inv X pins σ H s)(h:aB X.K H a xs):∃its:List OR,Vals xs its/\PlainL s.heap a its.toArray/\xs.length<=sizeLine:=by
 rcases h with h|⟨o,its,n,O,hc,hd,J,U,r⟩
 .obtain ⟨z,its,n,r,e⟩:=h.ok I.Uz;exact#[its,r,#[_,n,e,rfl,rfl,rfl],z]
 .refine #[its.toList,r,#[o,n,I.UP a o O,hc,hd,by simpa using J],?_];have e:=r.length;simp only[Array.length_toList] at e;lia
theorem Inv.tuple(I:Inv X pins σ H s)(h:cH X.K H a xs):∃its:List OR,Vals xs its/\IsTup s.heap a its.toArray/\xs.length<=sizeLine:=by
 rcases h with h|⟨o,its,n,O,hc,J,U,r⟩
 .obtain ⟨z,its,r,p⟩:=h.ok I.Uz;exact#[its,r,p,z]
 .refine #[its.toList,r,#[o,I.UP a o O,hc,n,by simpa using J],?_];have e:=r.length;simp only[Array.length_toList] at e;lia
theorem Inv.VA(I:Inv X pins σ H s)(h:aB X.K H a xs)(h':aB X.K H a ys):xs=ys:=by
 obtain⟨its,r,⟨o,n,e,_,_,d⟩,_⟩:=I.list h;obtain⟨its',r',⟨o',J,z,_,_,d'⟩,_⟩:=I.list h';rw[e] at z;cases z;rw[d] at d';injection d' with d1 _
 have:its=its':=by simpa using congrArg Array.toList d1
 subst this;exact r.inj r'
end
noncomputable abbrev Cx.UH(X:Cx)(E:OR->OU->Prop):Cx:={ X with xe:=E }
noncomputable abbrev Cx.UA(X:Cx):Cx:=X.UH λ_ _=>False
theorem Cx.Ok.UH(ok:X.Ok)(E:OR->OU->Prop):(X.UH E).Ok:=
 #[ok.mod,ok.kind,ok.glob,ok.blt,ok.above,ok.inj,ok.has,ok.WR,ok.hd,ok.qt,ok.frames,ok.Xa,ok.Xp,ok.bs,ok.V9,ok.VN,ok.VW,ok.U0,ok.Wk]
theorem Cx.Ok.UB(ok:(X.UH E).Ok):X.Ok:=
 #[ok.mod,ok.kind,ok.glob,ok.blt,ok.above,ok.inj,ok.has,ok.WR,ok.hd,ok.qt,ok.frames,ok.Xa,ok.Xp,ok.bs,ok.V9,ok.VN,ok.VW,ok.U0,ok.Wk]
section
theorem Inv.UH(I:Inv X pins σ H s)(E:OR->OU->Prop):Inv (X.UH E) pins σ H s:=#[I.ok.UH E,I.os,I.bare,I.base,I.loc,I.cell,I.free,I.UE,I.pin,I.Uz,I.len]
theorem Inv.UB(I:Inv (X.UH E) pins σ H s):Inv X pins σ H s:=#[I.ok.UB,I.os,I.bare,I.base,I.loc,I.cell,I.free,I.UE,I.pin,I.Uz,I.len]
theorem SP.UB{f:Flow}{s':OU}(h:SP (X.UH E) pins D f s'):SP X pins D f s':=by
 cases f with
 |next=>obtain⟨z,H',I,q⟩:=h;exact#[z,H',I.UB,q]
 |brk=>obtain⟨z,H',I,q⟩:=h;exact#[z,H',I.UB,q]
 |cont=>obtain⟨z,H',I,q⟩:=h;exact#[z,H',I.UB,q]
 |ret u=>obtain⟨v,z,H',I,r,q⟩:=h;exact#[v,z,H',I.UB,r,q]
theorem PE.UA{t:TE}(h:PE X.UA e t):PE X e t:=λpins s σ H Q I hw=>
 Pu (h pins s σ H Q (I.UH _) hw) (λ_ _ ⟨v,H',J,r,q⟩=>#[v,H',J.UB,r,q]) λ_ _ z=>PD z
theorem kN.UA{st:List PM}{t:TS}(h:kN X.UA st t):kN X st t:=λpins s σ H D I hw=>
 Pu (h pins s σ H D (I.UH _) hw) (λ_ _ q=>q.UB) λ_ _ z=>PD z
end
section
variable {st:PM}{rest:List PM}{t u:TS}
def xW:TS:=λD σ H=>D.nx σ H
def Hk(t u:TS):TS:=λD σ H=>t { D with nx:=u D } σ H
theorem CV:kN X [] xW:=λ_ _ σ H _ I h=>RO #[σ,H,I,h]
theorem aG(h1:PS X st t)(h2:kN X rest u):kN X (st::rest)<|Hk t u:=by
 intro pins s σ H D I h;refine Ss<|thn (h1 pins s σ H { D with nx:=u D } I h) λf s1 q=>?_;cases f with
 |next=>
  obtain⟨z,H',J,q⟩:=q;exact h2 pins s1 z H' D J q
 |ret v=>exact q
 |brk=>exact q
 |cont=>exact q
theorem bA(h1:PS X st t):kN X [st] t:=by
 intro pins s σ H D I h;refine Ss<|thn (h1 pins s σ H D I h) λf s1 q=>?_;cases f with
 |next=>exact RO q
 |ret v=>exact q
 |brk=>exact q
 |cont=>exact q
def yg:TS:=λD σ H=>D.bk σ H
theorem BC:PS X (.Pass pos) xW:=λ_ _ σ H _ I h=>wpAny_Pass #[σ,H,I,h]
theorem Inv.quiet(I:Inv X pins σ H s):interactive X.env=Zk:=by simp[interactive,I.ok.kind]
def Dt(te:TE):TS:=λD σ H=>te σ H λ_ H1=>D.nx σ H1
theorem mF(J:PE X e te)(O:RA e Zi pos.line X.env=pure Zk:=by rfl):PS X (.Expr e pos)<|Dt te:=by
 intro pins s σ H D I h;refine wpAny_Expr_any (thn (J pins s σ H _ I h) λv s1 Z=>?_) I.quiet O;obtain⟨x,H1,U,r1,z⟩:=Z;exact#[σ,H1,U,z]
def Hn(te:TE):TS:=λD σ H=>te σ H D.rt
theorem cL(J:PE X e te):PS X (.Return (Zh e) pos)<|Hn te:=by
 intro pins s σ H D I h;refine wpAny_Return_some<|thn (J pins s σ H _ I h) λv s1 Z=>?_;obtain⟨x,H1,U,O,z⟩:=Z;exact#[x,σ,H1,U,O,z]
def Hm:TS:=λD _ H=>D.rt .Uy H
def Ht(c:TT)(t u:TS):TS:=λD σ H=>c σ H λb H1=>if b=Zj then t D σ H1 else u D σ H1
theorem gO{a b:List PM}(hc:PT X c tc)(ha:kN X a t)(O:kN X b u):PS X (.If c a b pos)<|Ht tc t u:=by
 intro pins s σ H D I h;refine wpAny_If<|thn (hc pins s σ H _ I h) λd s1 U=>?_;obtain⟨H1,J,z⟩:=U;cases d with
 |true=>exact ha pins s1 σ H1 D J z
 |false=>exact O pins s1 σ H1 D J z
def xX:TS:=λ_ _ _=>False
theorem qH:PS X st xX:=λ_ _ _ _ _ _ h=>h.elim
end
noncomputable abbrev TG:=V->St->Hp->(St->Hp->Prop)->Prop
variable {g:TG}
noncomputable abbrev Ar:=List V->St->Hp->(St->Hp->Prop)->Prop
def PG(X:Cx)(target:P1)(t:TG):Prop:=
 ∀(pins:List<|OS×Qf) (s:OU) (σ:St) (H:Hp) (v:V) (u:OR) (Q:St->Hp->Prop),Inv X pins σ H s->RelV v u->t v σ H Q->
  OZ (Pd X.prog X.w) X.A (assign target X.env u) (λ_ s'=>L2.X2 λσ' H'=>Inv X pins σ' H' s'/\Q σ' H') X.xe s
def Ej(X:Cx)(ts:List P1)(t:Ar):Prop:=
 ∀(pins:List<|OS×Qf) (s:OU) (σ:St) (H:Hp) (vs:List V) (us:List OR) (Q:St->Hp->Prop),Inv X pins σ H s->Vals vs us->t vs σ H Q->
  OZ (Pd X.prog X.w) X.A (assignInOrder ((Qw ts X.env).map (·.2)) us) (λ_ s'=>L2.X2 λσ' H'=>Inv X pins σ' H' s'/\Q σ' H') X.xe s
noncomputable abbrev Gx:=V->V->V->Hp->(Hp->Prop)->Prop
def IP(X:Cx)(t:Gx):Prop:=
 ∀(pins:List<|OS×Qf) (s:OU) (σ:St) (H:Hp) (o i v:V) (ov iv u:OR) (Q:Hp->Prop),Inv X pins σ H s->RelV o ov->RelV i iv->RelV v u->t o i v H Q->
  OZ (Pd X.prog X.w) X.A (setItem ov iv u) (λ_ s'=>∃H',Inv X pins σ H' s'/\Q H') X.xe s
noncomputable abbrev IL:=V->V->Hp->VK->Prop
def Ka(X:Cx)(op:TR)(t:IL):Prop:=
 ∀(pins:List<|OS×Qf) (s:OU) (σ:St) (H:Hp) (x y:V) (v u:OR) (Q:VK),Inv X pins σ H s->RelV x v->RelV y u->t x y H Q->
  OZ (Pd X.prog X.w) X.A (inplaceOp op v u) (EP X pins σ Q) X.xe s
section
def xk(i:Nat):TG:=λv σ H Q=>Q (σ.set i<|some v) H
theorem kB(z:X.N.Nodup)(hi:X.N[i]?=Zh x)(hx:Loc X.env.scope x)(O:X.fn x=Zj∨X.env.scope.names.lookup x=Zh .local:=by first|exact .inl rfl|exact .inr rfl|assumption):PG X (.Name x pos)<|xk i:=by
 intro pins s σ H v u Q I r h;exact TK<|Hd I z hi hx r (λs' J=>#[_,H,J,h]) O
def FF:Ar:=λvs σ H Q=>vs=[]/\Q σ H
def zx(t:TG)(u:Ar):Ar:=λvs σ H Q=>L2.X2 λv r=>vs=v::r/\t v σ H λσ' H'=>u r σ' H' Q
theorem K1:Ej X [] FF:=by
 intro pins s σ H vs us Q I r h;obtain⟨e,h⟩:=h;subst e;cases r;exact assignInOrder_nil #[σ,H,I,h]
theorem Hc{es:List P1}{t:TG}{u:Ar}(h1:PG X e t)(h2:Ej X es u)
  (U:(Qw (e::es) X.env).map (·.2)=assign e X.env::(Qw es X.env).map (·.2):=by rfl):Ej X (e::es)<|zx t u:=by
 intro pins s σ H vs us Q I r h;obtain⟨v,vr,Z,h⟩:=h;subst Z;cases r with
 |cons r rr=>
  rw[U];refine assignInOrder_cons<|thn (h1 pins s σ H _ _ _ I r h) λ_ s1 zz=>?_;obtain⟨z,H1,O,J⟩:=zz;exact h2 pins s1 z H1 _ _ Q O rr J
theorem Inv.WK(I:Inv X pins σ H s):Qt X.A s.heap:=λv e=>by
 obtain⟨a,o,vs,h1,h2,h3,z⟩:=I.ok.qt v e;exact#[a,o,vs,h1,(I.pin (a,o)<|mC _ h2).1,h3,z]
def B9(K:W.Frag)(n:Nat)(t:Ar):TG:=λv σ H Q=>L2.X2 λa xs=>v=.ref a/\cH K H a xs/\xs.length=n/\t xs σ H Q
theorem KD{es:List P1}{t:Ar}{n:Nat}(hc:X.calm=X.calm)(h:Ej X es t)
  (hn:(Qw es X.env).length=n:=by rfl) (z:(Qw es X.env).findIdx? (·.1)=Zi:=by rfl):PG X (.Tuple es k pos)<|B9 X.K n t:=by
 intro pins s σ H v u Q I r hw;obtain⟨a,xs,Z,J,hl,hw⟩:=hw;subst Z;cases r;obtain⟨its,rv,O,hz⟩:=I.tuple J;refine mZ I.WK O (by simp[hn,<- hl,rv.length]) z λh' hx=>?_;have U:Inv X pins σ H { s with heap:=h' }:=I.kept (t':=s.toks) λb o e=>hx b o (fQ<|Pa e) e;exact h pins _ σ H xs _ Q U (by simpa using rv) hw
def HV(to ti:TE)(t:Gx):TG:=λv σ H Q=>to σ H λo H1=>ti σ H1 λi H2=>t o i v H2 λH3=>Q σ H3
theorem KC{o i:P1}{ti:TE}{t:Gx}(ho:PE X o te)(hi:PE X i ti)(hs:IP X t)
  (ha:∀v,assign (.Subscript o i pos) X.env v=(do
   let z <- holding [v] (eval o X.env)
   let J <- holding [v,z] (eval i X.env)
   Sh pos
   holding [v,z,J] (setItem z J v)
   release [v,z,J] []):=by intro _;rfl):PG X (.Subscript o i pos)<|HV te ti t:=by
 intro pins s σ H v u Q I r h;rw[ha];refine OQ<|PC<|thn (ho pins s σ H _ I h) λz s1 O=>?_;obtain⟨x,H1,I1,r1,U⟩:=O;refine OQ<|PC<|thn (hi pins s1 σ H1 _ I1 U) λJ s2 O=>?_;obtain⟨y,H2,I2,r2,Z⟩:=O;refine OQ<|QC<|OQ<|PC<|thn (hs pins s2 σ H2 x y v z J u _ I2 r1 r2 r Z) λ_ s3 O=>?_;obtain⟨H3,I3,q3⟩:=O;exact wpAny_release #[σ,H3,I3,q3]
def sx(te:TE)(g:TG):TS:=λD σ H=>te σ H λx H1=>g x σ H1 D.nx
theorem Il(U:PE X e te)(Z:PG X tg g)(hs:swapsWithSole [tg] e pos.line X.env=pure Zk:=by rfl)(hw:swappedStores [tg] e X.env=pure Zi:=by rfl)
  (h1:(Qw [tg] X.env).map (·.2)=[assign tg X.env]:=by rfl):PS X (.Assign [tg] e pos)<|sx te g:=by
 intro pins s σ H D I h;refine wpAny_Assign_stores (thn (U pins s σ H _ I h) λv s1 zz=>?_) hs hw;obtain⟨x,H1,O,J,z⟩:=zz;rw[h1];exact thn (Z pins s1 σ H1 x v _ O J z) λ_ s2 q=>q
theorem bK(J:X.N.Nodup)(hi:X.N[i]?=Zh x)(hx:Loc X.env.scope x)(Z:PE X e te)(hs:RA e (Zh<|.Name x pos') pos.line X.env=pure Zk:=by rfl)(hf:X.fn x=Zj∨X.env.scope.names.lookup x=Zh .local:=by first|exact .inl rfl|exact .inr rfl|assumption):
  PS X (.Assign [.Name x pos'] e pos)<|sx te<|xk i:=by
 intro pins s σ H D I h;refine wpAny_Assign_Name (thn (Z pins s σ H _ I h) λv s1 zz=>?_) hs;obtain⟨y,H1,U,O,z⟩:=zz;exact Hd U J hi hx O (λs2 I2=>#[_,H1,I2,z]) hf
def Ho(i j:Nat)(ta:TA):TS:=λD σ H=>ta σ H λvs H1=>L2.X2 λv w=>vs=[v,w]/\D.nx ((σ.set i<|some v).set j<|some w) H1
def EH(i:Nat)(te:TE)(ti:IL):TS:=λD σ H=>Ia (λx=>te σ H λy H1=>ti x y H1 λz H2=>D.nx (σ.set i<|some z) H2) σ i
theorem Im{Z:TR}{ti:IL}(hN:X.N.Nodup)(hi:X.N[i]?=Zh x)(hx:Loc X.env.scope x)(he:PE X e te)(ho:Ka X Z ti)(hf:X.fn x=Zj∨X.env.scope.names.lookup x=Zh .local:=by first|exact .inl rfl|exact .inr rfl|assumption):
  PS X (.AugAssign (.Name x pos') Z e pos)<|EH i te ti:=by
 intro pins s σ H D I h;obtain⟨v,e1,h⟩:=Ab h;obtain⟨m,hn,hl⟩:=I.loc;have aa:IK X.env.scope x:=by rcases hx with k|k;exact .inl k;exact .inr<|.inl k
 obtain⟨u,r,l⟩:=hl i x v hi e1 aa;refine wpAny_AugAssign_Name ?_;have go:OZ (Pd X.prog X.w) X.A (eval e X.env) (λw s₂=>OZ (Pd X.prog X.w) X.A (inplaceOp Z u w) (λr U=>OZ (Pd X.prog X.w) X.A (storeName X.env x r) (λ_=>SP X pins D .next) X.xe U) X.xe s₂) X.xe s:=by
  refine thn (he pins s σ H _ I h) λw s1 zz=>?_;obtain⟨y,H1,I1,r1,q1⟩:=zz;refine thn (ho pins s1 σ H1 v y u w _ I1 r r1 q1) λz s2 zz=>?_;obtain⟨zv,H2,I2,r2,q2⟩:=zz;exact Hd I2 hN hi hx r2 (λs3 I3=>#[_,H2,I3,q2]) hf
 rcases l with ⟨J,hm⟩|⟨J,c,hc,O⟩
 .exact wpAny_loadName_local I.ok.kind J hn hm go
 .rcases J with J|J
  .exact wpAny_loadName_cell I.ok.kind J hc O go
  .rcases hx with k|k
   .have:X.env.scope.names.lookup x=Zh .free:=J;rw[k] at this;cases this
   .have:X.env.scope.names.lookup x=Zh .free:=J;rw[k] at this;cases this
def Ki(f:Int->Int->Int):IL:=λx y H Q=>wu x λi=>wu y λj=>Q (.int<|f i j) H
theorem Jn:Ka X .Add<|Ki λi j=>i+j:=by
 intro pins s σ H x y v u Q I z J h;obtain⟨i,j,O,e2,q⟩:=yQ h;subst O;subst e2;obtain⟨t,rfl⟩:=z;obtain⟨t',rfl⟩:=J;exact iadd_int #[.int _,H,I.tok _,#[_,rfl],q]
theorem Fw:Ka X .Sub<|Ki λi j=>i-j:=by
 intro pins s σ H x y v u Q I z J h;obtain⟨i,j,O,e2,q⟩:=yQ h;subst O;subst e2;obtain⟨t,rfl⟩:=z;obtain⟨t',rfl⟩:=J;exact isub_int #[.int _,H,I.tok _,#[_,rfl],q]
end
section
def xJ(c:TT)(tb:TS):TS:=λD σ H=>∃W:Nat->St->Hp->Prop,(∃m,W m σ H)/\∀m σ H,W m σ H->
 c σ H λb H1=>if b=Zj then ∃N:St->Hp->Prop,(∀σ' H',N σ' H'->∃m',m'<m/\W m' σ' H')/\tb { D with nx:=N,ct:=N,bk:=D.nx } σ H1 else D.nx σ H1
theorem AR(hp:PassesOwn (Pd X.prog X.w) X.A X.env X.xe)(hc:PT X c tc)(hb:kN X body tb):PS X (.While c body [] pos)<|xJ tc tb:=by
 intro pins s σ H D I h;obtain⟨W,⟨m0,w0⟩,turn⟩:=h;refine wpAny_While<|codeAny_whileLoop (λn s'=>L2.X2 λO H'=>Inv X pins O H' s'/\W n O H') ?_ m0 #[σ,H,I,w0];rintro n s1 ⟨J,H1,I1,w1⟩;refine QM hp<|thn (hc pins s1 J H1 _ I1<|turn n J H1 w1) λb s2 zz=>?_;obtain⟨H2,I2,U⟩:=zz;cases b with
 |true=>
  obtain⟨N,hN,U⟩:=U;rw[Z9 rfl];refine QM hp<|thn (hb pins s2 J H2 _ I2 U) λf s3 Z=>?_;cases f with
  |next=>
   obtain⟨z,H3,I3,n3⟩:=Z;obtain⟨m',hm,w3⟩:=hN z H3 n3;exact#[m',hm,z,H3,I3,w3]
  |cont=>
   obtain⟨z,H3,I3,n3⟩:=Z;obtain⟨m',hm,w3⟩:=hN z H3 n3;exact#[m',hm,z,H3,I3,w3]
  |brk=>exact Z
  |ret v=>exact Z
 |false=>
  rw[Z8 kS];exact RO #[J,H2,I2,U]
end
structure It where
 go:Nat->Hp->Prop
 VP:Nat->Hp->V->Hp->Prop
 stop:Nat->Hp->Prop
def jQ(X:Cx)(pins:List<|OS×Qf)(H:Hp)(b:OS):Prop:=
 H b=Zi/\b≠X.env.locals/\b∉X.fs/\(b∈X.ex∨X.s₀.heap.objs.size<=b)/\(∀x c,X.env.cells.lookup x=Zh c->c≠b)/\∀p∈X.pn++pins,p.1≠b
theorem Inv.WH{H':Hp}(I:Inv X pins σ H s)(J:s.heap.objs.size<=b)(hn:H' b=Zi):jQ X pins H' b:=by
 refine#[hn,RJ<|jI I.lt J,I.WC J,.inr<|dJ I.sz J,λx c e z=>?_,λp O z=>?_]
 .obtain ⟨v,q⟩:=I.cell x c e;exact absurd (jI q.lt<|by rw[z];exact J)<|AA _
 .exact absurd (jI (Pa (I.pin p O).1)<|by rw[z];exact J) (AA _)
structure rQ(cm:Bool)(P:Pl)(w:PN)(K:W.Frag)(tg:P1)(J:It)(fp:List OS)(it:OS)(tn:Nat->PJ->Prop):Prop where
 mem:it∈fp
 obj:∀i h,tn i h->∀b∈fp,∃o,h.get? b=Zh o/\∀v,o.data≠.cell v
 keep:∀i h h',tn i h->(∀b∈fp,∀o,h.get? b=Zh o->h'.get? b=Zh o)->tn i h'
 item:∀(X:Cx),X.prog=P->X.w=w->X.K=K->X.calm=cm->∀(i:Nat) (pins:List<|OS×Qf) (s:OU) (σ:St) (H:Hp) (E:OR->OU->Prop),Inv X pins σ H s->(∀b∈fp,jQ X pins H b)->tn i s.heap->J.go i H->
  OZ (Pd P w) X.A (Tx<|.ref it) (λr s1=>∃u,r=Zh u/\ OZ (Pd P w) X.A (Q9 tg (.ref it) u) (λ_ s2=>L2.X2 λx H'=>Inv X pins σ H' s2/\RelV x u/\J.VP i H x H'/\tn (i+1) s2.heap/\∀b∈fp,H' b=Zi) E s1) E s
 done:∀(X:Cx),X.prog=P->X.w=w->X.K=K->X.calm=cm->∀(i:Nat) (pins:List<|OS×Qf) (s:OU) (σ:St) (H:Hp) (E:OR->OU->Prop),Inv X pins σ H s->(∀b∈fp,jQ X pins H b)->tn i s.heap->J.stop i H->
  OZ (Pd P w) X.A (Tx<|.ref it) (λr s1=>r=Zi/\Inv X pins σ H s1) E s
 self:∀(A:Py) (i:Nat) (s:OU) (Q:OR->OU->Prop) (E:OR->OU->Prop),tn i s.heap->Q (.ref it) s->OZ (Pd P w) A (pyIter<|.ref it) Q E s
noncomputable abbrev Turn:=rQ Zj
theorem rQ.at{J:It}{tn:Nat->PJ->Prop}(T:Turn P w K tg J fp it tn){b:Bool}(h:b=Zj):rQ b P w K tg J fp it tn:=by
 subst h;exact T
noncomputable abbrev TI:=St->Hp->(It->Hp->Prop)->Prop
def MZ(X:Cx)(pins:List<|OS×Qf)(σ:St)(tg:P1)(R:It->Hp->Prop)(itv:OR)(s2:OU):Prop:=
 ∃(it:OS) (fp:List OS) (tn:Nat->PJ->Prop) (J:It) (H':Hp),itv=.ref it/\Inv X pins σ H' s2/\rQ X.calm X.prog X.w X.K tg J fp it tn/\tn 0 s2.heap/\(∀b∈fp,jQ X pins H' b)/\R J H'
def PI(X:Cx)(tg iter:P1)(wi:TI):Prop:=
 ∀(pins:List<|OS×Qf) (s:OU) (σ:St) (H:Hp) (R:It->Hp->Prop),Inv X pins σ H s->wi σ H R->
  OZ (Pd X.prog X.w) X.A (eval iter X.env) (λv s1=>OZ (Pd X.prog X.w) X.A (pyIter v) (MZ X pins σ tg R) X.xe s1) X.xe s
theorem zt{M:SI}{A:Py}{o:Qf}{n:String}{vs:Array OR}{Q:Unit->OU->Prop}(J:s.heap.get? it=Zh o)(hc:o.cls=.type n)(hd:o.data=.fields vs)
  (hn:["enumerate","zip","dict_itemiterator","dict_reverseitemiterator","odict_iterator","itertools.zip_longest","itertools.pairwise"].contains n=Zk) (z:Q .unit s):OZ M A (Q9 tg (.ref it) u) Q E s:=by
 unfold Q9;cases tg<;>first
  |exact OV z
  |(cases u<;>first
    |exact OV z
    |(refine OQ (wpAny_load J ?_);rw[hc,hd];show OZ M A (if (["enumerate","zip","dict_itemiterator","dict_reverseitemiterator","odict_iterator","itertools.zip_longest","itertools.pairwise"].contains n&&vs[0]?==Zh (QO _))=Zj then _ else _) Q E s;rw[Z8<|by intro h;rw[hn,Bool.false_and] at h;cases h];exact OV z))
noncomputable def vL(K:W.Frag)(a:OS):It:=
 #[λi H=>L2.X2 λxs x=>aB K H a xs/\xs[i]?=Zh x,λi H x H'=>H'=H/\∀xs,aB K H a xs->xs[i]?=Zh x,λi H=>∃xs,aB K H a xs/\xs.length<=i]
noncomputable def rX(lo:Int)(n:Nat):It:=#[λi _=>i<n,λi H x H'=>H'=H/\x=.int (lo+i),λi _=>n<=i]
theorem vW{cm:Bool}(a it:OS):rQ cm P w K tg (vL K a) [it] it (λi h=>h.IsListIter it a i) where
 mem:=by simp
 obj:=λi h st b J=>by
  have e:b=it:=by simpa using J
  subst e;obtain⟨o,e,c,d⟩:=st;exact#[o,e,λv z=>by rw[d] at z;cases z]
 keep:=λi h h' st k=>st.at λo e=>k it (by simp) o e
 item:=by
  intro X hP hw hK hc i pins s σ H E I Z st hg;subst hP hw hK;obtain⟨xs,x,U,hx⟩:=hg;obtain⟨its,rv,p,hz⟩:=I.list U;obtain⟨u,hu,ru⟩:=rv.get hx;obtain⟨f0,f1,f2,f3,f4,f5⟩:=Z it (by simp);refine wpAny_pyNext_list_item st p.isList (x:=u) (by simpa using hu) λh' O sb=>?_;have I1:Inv X pins σ H { s with heap:=h' }:=I.turned (t':=s.toks) (λb o J e=>(sb.2 b J).trans e) f0 f1 f3 f4 f5;obtain⟨o,e,c,d⟩:=id O;exact#[u,rfl,zt (s:={ s with heap:=h' }) e c d (by decide) #[x,H,I1,ru,#[rfl,λys hy=>by rw[I.VA hy U];exact hx],O,λb J=>(Z b J).1]]
 done:=by
  intro X hP hw hK hc i pins s σ H E I Z st hg;subst hP hw hK;obtain⟨xs,U,hx⟩:=hg;obtain⟨its,rv,p,hz⟩:=I.list U;obtain⟨f0,f1,f2,f3,f4,f5⟩:=Z it (by simp);have hl:=rv.length;exact wC I.WK st p.isList (by simp;lia) λh' eb=>#[rfl,I.turned (t':=s.toks) (λb o J e=>eb b o J e) f0 f1 f3 f4 f5]
 self:=λ_ _ _ _ _ st h=>wpAny_pyIter_listiter st h
theorem sh(it:OS)(lo:Int)(n:Nat):Turn P w K tg (rX lo n) [it] it (λi h=>Ub h it (lo+(i:Nat)*1) ((n:Int)-(i:Nat)) 1) where
 mem:=by simp
 obj:=λi h st b J=>by
  have e:b=it:=by simpa using J
  subst e;exact#[_,st,λv z=>by
   have z':Data.fields _=Data.cell v:=z;cases z']
 keep:=λi h h' st k=>k it (by simp) _ st
 item:=by
  intro X hP hw Z hc i pins s σ H E I U st hg;subst hP hw Z;obtain⟨f0,f1,f2,f3,f4,f5⟩:=U it (by simp);have W:=Walks.range (prog:=X.prog) (w:=X.w) (I.ok.hd hc) it lo 1 n;refine W.item i s _ _ hg st λv h' tk hv O kk=>?_;obtain⟨t,rfl⟩:=hv;have I1:Inv X pins σ H { s with heap:=h',toks:=tk }:=I.turned (λb o J e=>kk b o (by simpa using J) e) f0 f1 f3 f4 f5;refine#[_,rfl,zt (s:={ s with heap:=h',toks:=tk }) (n:="range_iterator") O rfl rfl (by decide) #[.int<|lo+i,H,I1,⟨t,?_⟩,⟨rfl,rfl⟩,O,λb J=>(U b J).1]];rw[Int.mul_one]
 done:=by
  intro X hP hw Z hc i pins s σ H E I U st hg;subst hP hw Z;obtain⟨f0,f1,f2,f3,f4,f5⟩:=U it (by simp);exact wpAny_pyNext_range_end (I.ok.hd hc) st (by have:n<=i:=hg;lia) λh' eb=>#[rfl,I.turned (t':=s.toks) (λb o J e=>eb b o J e) f0 f1 f3 f4 f5]
 self:=λ_ _ _ _ _ st h=>wpAny_pyIter_rangeiter st h
section
def zj(K:W.Frag)(tl:TE):TI:=λσ H R=>tl σ H λx H1=>∃a,x=.ref a/\(∃xs,aB K H1 a xs)/\R (vL K a) H1
theorem CU{l:P1}{tl:TE}(hl:PE X l tl):PI X tg l<|zj X.K tl:=by
 intro pins s σ H R I h;refine thn (hl pins s σ H _ I h) λv s1 zz=>?_;obtain⟨x,H1,z,U,J⟩:=zz;obtain⟨a,e,⟨xs,O⟩,q⟩:=J;subst e;cases U;obtain⟨its,rv,p,hz⟩:=z.list O;refine wpAny_pyIter_list p.isList ?_;refine#[s1.heap.objs.size,[s1.heap.objs.size],_,_,H1,rfl,z.kept (t':=s1.toks) λb o e=>OT _ e,vW a _,#[_,Pf _ rfl,rfl,rfl],λb Z=>?_,q];have e:b=s1.heap.objs.size:=by simpa using Z
 subst e;exact z.WH (aN _)<|z.Uz.fresh<|aN _
theorem qB(hc:X.calm=Zj){R:It->Hp->Prop}{hi:Int}{t u v:Tok}{tk:Nat}(I:Inv X pins σ H s)(h1:-(2^62)<=lo)(h2:lo<2^62)(h3:-(2^62)<=hi)(J:hi<2^62)
  (q:R (rX lo (hi-lo).toNat) H):OZ (Pd X.prog X.w) X.A (pyIter<|.ref s.heap.objs.size) (MZ X pins σ tg R) E { s with heap:=s.heap.push { cls:=.type "range",data:=.fields (List.toArray [.int lo t,.int hi u,.int 1 v]) },toks:=tk }:=by
 refine wpAny_pyIter_range (IsRange.new ..) (small_one h1 h2 h3 J) ?_;have z:Inv X pins σ H { s with heap:=s.heap.push { cls:=.type "range",data:=.fields (List.toArray [.int lo t,.int hi u,.int 1 v]) },toks:=tk }:=I.kept λb o e=>OT _ e;refine#[(s.heap.push { cls:=.type "range",data:=.fields (List.toArray [.int lo t,.int hi u,.int 1 v]) }).objs.size,[(s.heap.push { cls:=.type "range",data:=.fields (List.toArray [.int lo t,.int hi u,.int 1 v]) }).objs.size],_,_,H,rfl,z.kept (t':=tk) λb o e=>OT _ e,(sh _ lo (hi-lo).toNat).at hc,?_,λb O=>?_,q]
 .have U:lo+((0:Nat):Int)*1=lo:=by simp
  have e2:(((hi-lo).toNat:Nat):Int)-((0:Nat):Int)=Pn lo hi 1:=by rw[rangeSize_one];split<;>lia
  show Ub _ _ (lo+((0:Nat):Int)*1) ((((hi-lo).toNat:Nat):Int)-((0:Nat):Int)) 1;rw[U,e2];exact Pf _ rfl
 .have e:b=(s.heap.push { cls:=.type "range",data:=.fields (List.toArray [.int lo t,.int hi u,.int 1 v]) }).objs.size:=by simpa using O
  subst e;exact z.WH (aN _)<|z.Uz.fresh<|aN _
def zi(ta:TA):TI:=λσ H R=>ta σ H λvs H1=>∃j:Int,vs=[.int j]/\-(2^62)<=j/\j<2^62/\R (rX 0 j.toNat) H1
def zh(ta:TA):TI:=λσ H R=>ta σ H λvs H1=>L2.X2 λi j:Int=>vs=[.int i,.int j]/\(-(2^62)<=i/\i<2^62/\-(2^62)<=j/\j<2^62)/\R (rX i (j-i).toNat) H1
theorem Am{a:P1}{p:RC}(Z:Gl X "range")(hm:X.mg "range"=Zi)(ha:PA X [a] ta)(hs:Pb [a] X.env=[(Zk,eval a X.env)]:=by rfl)(hc:X.calm=Zj:=by rfl):PI X tg (.Call (.Name "range" p) [a] [] pos)<|zi ta:=by
 intro pins s σ H R I h;refine Call_<|D4 I Z hm boot_range<|Qi (thn (ha pos pins s σ H _ I h) λus s1 zz=>?_) hs rfl;obtain⟨vs,H1,U,O,z⟩:=zz;obtain⟨j,e,z,J,q⟩:=z;subst e;cases O with
 |cons r rr=>
  cases rr;obtain⟨t,rfl⟩:=r;exact call_range_1<|qB hc U ∅ ∅ z J<|by simpa using q
theorem wm{a b:P1}{p:RC}(hg:Gl X "range")(hm:X.mg "range"=Zi)(ha:PA X [a,b] ta)(hs:Pb [a,b] X.env=[(Zk,eval a X.env),(Zk,eval b X.env)]:=by rfl)(z:Pb [b] X.env=[(Zk,eval b X.env)]:=by rfl)(hc:X.calm=Zj:=by rfl):
  PI X tg (.Call (.Name "range" p) [a,b] [] pos)<|zh ta:=by
 intro pins s σ H R I h;refine Call_ (D4 I hg hm boot_range<|Qi (thn (ha pos pins s σ H _ I h) λus s1 zz=>?_) (by rw[hs,z])<|by rw[z];rfl);obtain⟨vs,H1,Z,U,J⟩:=zz;obtain⟨i,j,e,⟨J,O,q3,q4⟩,q⟩:=J;subst e;cases U with
 |cons r rr=>
  cases rr with
  |cons r' rr=>
   cases rr;obtain⟨t,rfl⟩:=r;obtain⟨t',rfl⟩:=r';exact call_range_2<|qB hc Z J O q3 q4 q
def yc(wi:TI)(g:TG)(tb:TS):TS:=λD σ H=>wi σ H λJ H1=>∃W:Nat->Nat->St->Hp->Prop,(∃m,W 0 m σ H1)/\∀i m σ H,W i m σ H->
 (J.stop i H/\D.nx σ H)∨(J.go i H/\∃N:St->Hp->Prop,(∀σ' H',N σ' H'->∃m',m'<m/\W (i+1) m' σ' H')/\∀x H',J.VP i H x H'->g x σ H' λσ2 H2=>tb { D with nx:=N,ct:=N,bk:=D.nx } σ2 H2)
noncomputable def Ik(fp:List OS)(h:PJ):List<|OS×Qf:=fp.filterMap λb=>(h.get? b).map λo=>(b,o)
theorem JZ{o:Qf}(z:b∈fp)(e:h.get? b=Zh o):(b,o)∈Ik fp h:=GL.mpr #[b,z,by rw[e];rfl]
theorem wz{p:OS×Qf}(z:p∈Ik fp h):p.1∈fp/\h.get? p.1=Zh p.2:=by
 obtain⟨b,J,e⟩:=GL.mp z;cases q:h.get? b with
 |none=>rw[q] at e;cases e
 |some o=>
  rw[q] at e;have O:(b,o)=p:=OX e;subst O;exact#[J,q]
theorem Inv.pinned(I:Inv X pins σ H s)(hf:∀b∈fp,jQ X pins H b)(ho:∀b∈fp,∃o,s.heap.get? b=Zh o/\∀v,o.data≠.cell v):Inv X (pins++Ik fp s.heap) σ H s:=
 I.UW λp Z=>(gZ.mp Z).elim (λz=>I.pin p<|fN _ z) λz=>by
  obtain⟨J,e⟩:=wz z;obtain⟨f0,f1,U,_⟩:=hf p.1 J;obtain⟨o,O,d⟩:=ho p.1 J;rw[e] at O;cases O;exact#[e,f0,f1,U,d]
theorem Inv.UM{pl:List<|OS×Qf}(I:Inv X (pins++pl) σ H s):Inv X pins σ H s:=I.UW λp z=>I.pin p<|fN _<|mC _ z
theorem D5{iter:P1}{wi:TI}(hp:PassesOwn (Pd X.prog X.w) X.A X.env X.xe)(hc:X.calm=X.calm)(hi:PI X tg iter wi)(hg:PG X tg g)(hb:kN X body tb)
  (hs:∀x,P7 iter X.env x=pure x:=by intro _;rfl):PS X (.For tg iter body [] pos)<|yc wi g tb:=by
 intro pins s σ H D I h;refine wpAny_For (thn (hi pins s σ H _ I h) λv s1 h1=>thn h1 λaj s2 h2=>?_) hs;obtain⟨it,fp,tn,J,H2,e,I2,T,ah,f2,W,⟨m0,w0⟩,turn⟩:=h2;subst e;have O:∀{H':Hp},(∀b∈fp,H' b=Zi)->∀b∈fp,jQ X pins H' b:=λhn b hb=>#[hn b hb,(f2 b hb).2]
 refine codeAny_forLoop_any (λn s'=>L2.X3 λi aa H'=>Inv X pins aa H' s'/\tn i s'.heap/\(∀b∈fp,H' b=Zi)/\W i n aa H') ?_ m0 #[0,σ,H2,I2,ah,λb hb=>(f2 b hb).1,w0];rintro n s3 ⟨i,Z,H3,I3,ae,VO,w3⟩;rcases turn i n Z H3 w3 with ⟨stop,qn⟩|⟨go,N,hN,step⟩
 .refine QM hp (thn (T.done X rfl rfl rfl hc i pins s3 Z H3 X.xe I3 (O VO) ae stop) λr s4 zz=>?_);obtain⟨hr,I4⟩:=zz;subst hr;exact RO #[Z,H3,I4,qn]
 .refine QM hp (thn (T.item X rfl rfl rfl hc i pins s3 Z H3 X.xe I3 (O VO) ae go) λr s4 zz=>?_);obtain⟨u,hr,h4⟩:=zz;subst hr;refine QM hp<|thn h4 λ_ s5 zz=>?_;obtain⟨x,H5,I5,r5,y5,ad,ai⟩:=zz;have ag:=I5.pinned (O ai)<|T.obj _ _ ad;refine QM hp<|thn (hg _ s5 Z H5 x u _ ag r5<|step x H5 y5) λ_ s6 zz=>?_;obtain⟨af,H6,I6,q6⟩:=zz;refine QM hp<|thn (hb _ s6 af H6 _ I6 q6) λf s7 q7=>?_;have ac:∀{z:St} {H7:Hp},Inv X (pins++Ik fp s5.heap) z H7 s7->N z H7->∃m,m<n/\L2.X3 λi aa H'=>Inv X pins aa H' s7/\tn i s7.heap/\(∀b∈fp,H' b=Zi)/\W i m aa H':=fun {z H7} U n7=>by
   obtain⟨m',hm,w7⟩:=hN z H7 n7;refine#[m',hm,i+1,z,H7,U.UM,T.keep _ _ _ ad λb hb o e=>(U.pin (b,o)<|fN _<|fN _<|JZ hb e).1,λb hb=>?_,w7];obtain⟨o,e,d⟩:=T.obj _ _ ad b hb;exact(U.pin (b,o)<|fN _<|fN _<|JZ hb e).2.1
  cases f with
  |next=>obtain⟨z,H7,U,n7⟩:=q7;exact ac U n7
  |cont=>obtain⟨z,H7,U,n7⟩:=q7;exact ac U n7
  |brk=>obtain⟨z,H7,U,q7⟩:=q7;exact#[z,H7,U.UM,q7]
  |ret v=>obtain⟨x7,z,H7,U,r7,q7⟩:=q7;exact#[x7,z,H7,U.UM,r7,q7]
end
theorem zC{xs:List V}(z:Nat->St->Hp->Prop)(h0:z 0 σ H)(hl:∀i σ H,i<=xs.length->z i σ H->aB K H a xs)
  (hs:∀i x σ H,xs[i]?=Zh x->z i σ H->g x σ H λJ H2=>tb { D with nx:=z<|i+1,ct:=z<|i+1,bk:=D.nx } J H2) (hd:∀σ H,z xs.length σ H->D.nx σ H):
  ∃W:Nat->Nat->St->Hp->Prop,(∃m,W 0 m σ H)/\∀i m σ H,W i m σ H->
   ((vL K a).stop i H/\D.nx σ H)∨((vL K a).go i H/\∃N:St->Hp->Prop,(∀O H',N O H'->∃U,U<m/\W (i+1) U O H')/\∀x H',(vL K a).VP i H x H'->g x σ H' λJ H2=>tb { D with nx:=N,ct:=N,bk:=D.nx } J H2):=by
 refine#[λi m σ H=>m=xs.length-i/\i<=xs.length/\z i σ H,#[xs.length,by simp,cQ _,h0],?_];rintro i m σ H ⟨rfl,hi,p⟩;have q:=hl i σ H hi p;by_cases UI:i<xs.length
 .refine .inr #[#[xs,xs[i],q,by simp[UI]],z<|i+1,λO H' Z=>#[xs.length-(i+1),∅,rfl,UI,Z],λx H' y=>?_];obtain⟨e,y⟩:=y;subst e;exact hs i x σ _ (y xs q) p
 .have e:i=xs.length:=∅
  subst e;exact .inl #[#[xs,q,aN _],hd σ H p]
theorem wL{n:Nat}(z:Nat->St->Hp->Prop)(h0:z 0 σ H)
  (hs:∀i σ H,i<n->z i σ H->g (.int<|lo+i) σ H λJ H2=>tb { D with nx:=z<|i+1,ct:=z<|i+1,bk:=D.nx } J H2) (hd:∀σ H,z n σ H->D.nx σ H):
  ∃W:Nat->Nat->St->Hp->Prop,(∃m,W 0 m σ H)/\∀i m σ H,W i m σ H->
   ((rX lo n).stop i H/\D.nx σ H)∨((rX lo n).go i H/\∃N:St->Hp->Prop,(∀O H',N O H'->∃U,U<m/\W (i+1) U O H')/\∀x H',(rX lo n).VP i H x H'->g x σ H' λJ H2=>tb { D with nx:=N,ct:=N,bk:=D.nx } J H2):=by
 refine#[λi m σ H=>m=n-i/\i<=n/\z i σ H,#[n,by simp,cQ _,h0],?_];rintro i m σ H ⟨rfl,hi,p⟩;by_cases UI:i<n
 .refine .inr #[UI,z<|i+1,λO H' Z=>#[n-(i+1),∅,rfl,UI,Z],λx H' y=>?_];obtain⟨e,y⟩:=y;subst e y;exact hs i σ _ UI p
 .have e:i=n:=∅
  subst e;exact .inl #[aN _,hd σ H p]
noncomputable abbrev R2:=V->V->Hp->VK->Prop
variable {r:R2}
def jH(X:Cx)(f:OR->OR->SH OR)(r:R2):Prop:=
 ∀(pins:List<|OS×Qf) (s:OU) (σ:St) (H:Hp) (x y:V) (v u:OR) (Q:VK),Inv X pins σ H s->RelV x v->RelV y u->r x y H Q->
  OZ (Pd X.prog X.w) X.A (f v u) (EP X pins σ Q) X.xe s
def MW(X:Cx)(f:OR->SH OR)(r:V->Hp->VK->Prop):Prop:=
 ∀(pins:List<|OS×Qf) (s:OU) (σ:St) (H:Hp) (x:V) (v:OR) (Q:VK),Inv X pins σ H s->RelV x v->r x H Q->
  OZ (Pd X.prog X.w) X.A (f v) (EP X pins σ Q) X.xe s
def oV(X:Cx)(f:OR)(r:List V->Hp->VK->Prop):Prop:=
 ∀(pins:List<|OS×Qf) (s:OU) (σ:St) (H:Hp) (xs:List V) (us:List OR) (Q:VK),Inv X pins σ H s->Vals xs us->r xs H Q->
  OZ (Pd X.prog X.w) X.A (call f us) (EP X pins σ Q) X.xe s
def Hq(r:R2)(ta tb:TE):TE:=λσ H Q=>ta σ H λx H1=>tb σ H1 λy H2=>r x y H2 Q
def M5(r:V->Hp->VK->Prop)(ta:TE):TE:=λσ H Q=>ta σ H λx H1=>r x H1 Q
def rI(C:Int->Int->Prop)(g:Int->Int->V):R2:=λx y H Q=>wu x λi=>wu y λj=>C i j/\Q (g i j) H
def yA(g:Int->Int->V):R2:=λx y H Q=>wu x λi=>wu y λj=>Q (g i j) H
def rU(g:Int->V):V->Hp->VK->Prop:=λx H Q=>wu x λi=>Q (g i) H
section
variable {a b:P1}{ta tb tc:TE}
theorem FR(ha:PE X a ta)(hb:PE X b tb){R:V->V->Hp->Prop}(I:Inv X pins σ H s)
  (h:ta σ H λx H1=>tb σ H1 λy H2=>R x y H2) {f:OR->OR->SH OR}
  (hf:∀v u s2 x y H2,Inv X pins σ H2 s2->RelV x v->RelV y u->R x y H2->OZ (Pd X.prog X.w) X.A (f v u) Q X.xe s2):
  OZ (Pd X.prog X.w) X.A (eval a X.env) (λv s₁=>OZ (Pd X.prog X.w) X.A (eval b X.env) (λu s₂=>OZ (Pd X.prog X.w) X.A (f v u) Q X.xe s₂) X.xe s₁) X.xe s:=by
 refine thn (ha pins s σ H _ I h) λv s1 z=>?_;obtain⟨x,H1,Z,U,J⟩:=z;refine thn (hb pins s1 σ H1 _ Z J) λu s2 z=>?_;obtain⟨y,H2,I2,r2,O⟩:=z;exact hf v u s2 x y H2 I2 U r2 O
theorem bI{z:TR}(J:jH X (Rm z) r)(ha:PE X a ta)(U:PE X b tb):PE X (.BinOp a z b pos)<|Hq r ta tb:=by
 intro pins s σ H Q I h;exact wpAny_BinOp<|FR ha U I h λv u s2 x y H2 O rx Z q=>J pins s2 σ H2 x y v u Q O rx Z q
theorem HK{z:UnaryOp}{r:V->Hp->VK->Prop}(Z:MW X (unaryOp z) r)(ha:PE X a ta):PE X (.UnaryOp z a pos)<|M5 r ta:=by
 intro pins s σ H Q I h;refine UnaryOp_<|thn (ha pins s σ H _ I h) λv s1 zz=>?_;obtain⟨x,H1,U,O,J⟩:=zz;exact Z pins s1 σ H1 x v Q U O J
theorem GQ{f:OR->OR->SH OR}{C:Int->Int->Prop}{g:Int->Int->Int}
  (z:∀(i j:Int) (t u:Tok) (s:OU) (Q:OR->OU->Prop) (E:OR->OU->Prop),C i j->Q (.int (g i j) s.toks) { s with toks:=s.toks+1 }->OZ (Pd X.prog X.w) X.A (f (.int i t)<|.int j u) Q E s):
  jH X f<|rI C λi j=>.int<|g i j:=by
 intro pins s σ H x y v u Q I O J h;obtain⟨i,j,rfl,rfl,hc,q⟩:=yQ h;obtain⟨t,rfl⟩:=O;obtain⟨t',rfl⟩:=J;exact z i j t t' s _ _ hc #[.int<|g i j,H,I.tok _,#[_,rfl],q]
theorem Fi{f:OR->OR->SH OR}{g:Int->Int->Int}
  (z:∀(i j:Int) (t u:Tok) (s:OU) (Q:OR->OU->Prop) (E:OR->OU->Prop),Q (.int (g i j) s.toks) { s with toks:=s.toks+1 }->OZ (Pd X.prog X.w) X.A (f (.int i t)<|.int j u) Q E s):
  jH X f<|yA λi j=>.int<|g i j:=by
 intro pins s σ H x y v u Q I O J h;obtain⟨i,j,rfl,rfl,q⟩:=yQ h;obtain⟨t,rfl⟩:=O;obtain⟨t',rfl⟩:=J;exact z i j t t' s _ _ #[.int<|g i j,H,I.tok _,#[_,rfl],q]
theorem BQ{f:OR->OR->SH OR}{g:Int->Int->Bool}
  (z:∀(i j:Int) (t u:Tok) (s:OU) (Q:OR->OU->Prop) (E:OR->OU->Prop),Q (.bool<|g i j) s->OZ (Pd X.prog X.w) X.A (f (.int i t)<|.int j u) Q E s):
  jH X f<|yA λi j=>.bl<|g i j:=by
 intro pins s σ H x y v u Q I O J h;obtain⟨i,j,rfl,rfl,q⟩:=yQ h;obtain⟨t,rfl⟩:=O;obtain⟨t',rfl⟩:=J;exact z i j t t' s _ _ #[.bl<|g i j,H,I,rfl,q]
def IZ(i j:Int):Prop:=0<j/\j<1073741824
def M4(i j:Int):Prop:=0<=j/\j<=1000000/\i.natAbs<2^64
def Gz(i j:Int):Prop:=(-(2^64)<i/\i<2^64)∨(-(2^64)<j/\j<2^64)
theorem Gz.ok{i j:Int}(h:Gz i j):IntMulOk i j:=by
 rcases h with ⟨h1,h2⟩|⟨h1,h2⟩
 .exact .of_left (intBits_le_64 h1 h2)
 .exact .of_right (intBits_le_64 h1 h2)
theorem sf(k:Nat):(0:Int)<=2^k:=by
 rw[two_pow_cast];exact Int.natCast_nonneg _
theorem jO:jH X (Rm .Add)<|yA λi j=>.int<|i+j:=Fi λ_ _ _ _ _ _ _ q=>add_int q
theorem qd:jH X (Rm .Sub)<|yA λi j=>.int<|i-j:=Fi λ_ _ _ _ _ _ _ q=>sub_int q
theorem Iy:jH X (Rm .Mult)<|rI Gz λi j=>.int<|i*j:=GQ λ_ _ _ _ _ _ _ hc q=>mul_int q hc.ok
theorem CT:jH X (Rm .FloorDiv)<|rI IZ λi j=>.int<|i/j:=GQ λi j _ _ _ _ _ hc q=>by
 have h1:(0:Int)<j:=hc.1;have h2:j<1073741824:=hc.2;exact floordiv_int ∅ (by rw[RS i<|∅];exact q)<|.inl<|PyProof.noPylong_small<|∅
theorem Gh:jH X (Rm .Mod)<|rI (λ_ j=>0<j) λi j=>.int<|i%j:=GQ λi j _ _ _ _ _ hc q=>by
 have h1:(0:Int)<j:=hc;exact mod_int' ∅<|by rw[Int.fmod_eq_emod_of_nonneg i<|∅];exact q
theorem Fg:jH X (Rm .Pow)<|rI M4 λi j=>.int<|i^j.toNat:=GQ λ_ _ _ _ _ _ _ hc q=>pow_int_small hc.1 hc.2.1 hc.2.2 q
theorem Ff:jH X (Rm .RShift)<|rI (λ_ j=>0<=j) λi j=>.int<|i/2^j.toNat:=GQ λi j _ _ _ _ _ hc q=>
 rshift_int hc<|by rw[RS i<|sf _];exact q
theorem Fh:jH X (Rm .BitAnd)<|yA λi j=>.int<|Uw i j:=Fi λ_ _ _ _ _ _ _ q=>and_int q
theorem NI{f:OR->SH OR}{g:Int->Int}
  (z:∀(i:Int) (t:Tok) (s:OU) (Q:OR->OU->Prop) (E:OR->OU->Prop),Q (.int (g i) s.toks) { s with toks:=s.toks+1 }->OZ (Pd X.prog X.w) X.A (f<|.int i t) Q E s):
  MW X f<|rU λi=>.int<|g i:=by
 intro pins s σ H x v Q I J h;obtain⟨i,rfl,q⟩:=Js h;obtain⟨t,rfl⟩:=J;exact z i t s _ _ #[.int<|g i,H,I.tok _,#[_,rfl],q]
theorem EA:MW X (unaryOp .USub)<|rU λi=>.int<|-i:=NI λ_ _ _ _ _ q=>neg_int q
end
noncomputable def scal:V->V->Bool
 |.Uy,.Uy=>Zj|.Uy,.int _=>Zj|.int _,.Uy=>Zj|.Uy,.bl _=>Zj|.bl _,.Uy=>Zj|.Uy,.str _=>Zj|.str _,.Uy=>Zj
 |.int _,.int _=>Zj|.bl _,.bl _=>Zj|.str _,.str _=>Zj|.byt _,.byt _=>Zj
 |.int _,.str _=>Zj|.str _,.int _=>Zj|.bl _,.str _=>Zj|.str _,.bl _=>Zj
 |_,_=>Zk
def EW:R2:=λx y H Q=>match x,y with
 |.int i,.int j=>Q (.bl<|decide<|i=j) H
 |.bl i,.bl j=>Q (.bl<|decide<|i=j) H
 |.str i,.str j=>Q (.bl<|decide<|i=j) H
 |x,y=>scal x y=Zj/\Q (.bl<|decide<|x=y) H
theorem Bz{x:V}{Q:VK}(h:EW x y H Q):scal x y=Zj/\Q (.bl<|decide<|x=y) H:=by
 cases x<;>cases y<;>first|exact h|exact#[rfl,by simpa[EW] using h]
def GP:R2:=λx y H Q=>match x,y with
 |.int i,.int j=>Q (.bl<|!decide (i=j)) H
 |.bl i,.bl j=>Q (.bl<|!decide (i=j)) H
 |.str i,.str j=>Q (.bl<|!decide (i=j)) H
 |x,y=>scal x y=Zj/\Q (.bl<|!decide (x=y)) H
theorem Bx{x:V}{Q:VK}(h:GP x y H Q):scal x y=Zj/\Q (.bl<|!decide (x=y)) H:=by
 cases x<;>cases y<;>first|exact h|exact#[rfl,by simpa[GP] using h]
theorem vj{i j:Int}:decide (V.int i=V.int j)=(i==j):=by
 rw[Ry];simp
theorem zR{i j:Bool}:decide (V.bl i=V.bl j)=(i==j):=by
 rw[Ry];simp
theorem vi{i j:Pj}:decide (V.str i=V.str j)=(i==j):=by
 rw[Ry];simp
theorem vk{i j:Array UInt8}:decide (V.byt i=V.byt j)=(i.toList==j.toList):=by
 rw[Ry];cases i;cases j;simp
section
variable {a b:P1}{ta tb tc:TE}
theorem iA{Q:VK}{k z:Bool}(I:Inv X pins σ H s)(q:Q (.bl k) H)(e:k=z):EP X pins σ Q (.bool z) s:=by
 subst e;exact#[.bl k,H,I,rfl,q]
theorem CH:jH X (Qz .Eq) EW:=by
 intro pins s σ H x y v u Q I O z h;obtain⟨J,q⟩:=Bz h;cases x with
 |Uy=>
  cases O;cases y with
  |Uy=>cases z;exact PySem.EqNone.eq_none_none<|iA I q<|by simp
  |bl j=>cases z;exact PySem.EqNone.eq_none_bool<|iA I q<|by simp
  |int j=>obtain⟨t',rfl⟩:=z;exact PySem.EqNone.eq_none_int<|iA I q<|by simp
  |str j=>obtain⟨t',rfl⟩:=z;exact PySem.EqNone.eq_none_str<|iA I q<|by simp
  |_=>exact absurd (show Zk=Zj from J) kS
 |bl i=>
  cases O;cases y with
  |Uy=>cases z;exact PySem.EqNone.eq_bool_none<|iA I q<|by simp
  |bl j=>cases z;exact eq_bool<|iA I q zR
  |str j=>obtain⟨t',rfl⟩:=z;exact PySem.EqMixed.eq_bool_str<|iA I q<|by simp
  |_=>exact absurd (show Zk=Zj from J) kS
 |int i=>
  obtain⟨t,rfl⟩:=O;cases y with
  |Uy=>cases z;exact PySem.EqNone.eq_int_none<|iA I q<|by simp
  |int j=>obtain⟨t',rfl⟩:=z;exact eq_int<|iA I q vj
  |str j=>obtain⟨t',rfl⟩:=z;exact PySem.EqMixed.eq_int_str<|iA I q<|by simp
  |_=>exact absurd (show Zk=Zj from J) kS
 |str i=>
  obtain⟨t,rfl⟩:=O;cases y with
  |Uy=>cases z;exact PySem.EqNone.eq_str_none<|iA I q<|by simp
  |bl j=>cases z;exact PySem.EqMixed.eq_str_bool<|iA I q<|by simp
  |int j=>obtain⟨t',rfl⟩:=z;exact PySem.EqMixed.eq_str_int<|iA I q<|by simp
  |str j=>obtain⟨t',rfl⟩:=z;exact eq_str<|iA I q vi
  |_=>exact absurd (show Zk=Zj from J) kS
 |byt i=>
  obtain⟨t,rfl⟩:=O;cases y with
  |byt j=>obtain⟨t',rfl⟩:=z;exact PySem.W.eq_bytes<|iA I q vk
  |_=>exact absurd (show Zk=Zj from J) kS
 |_=>cases y<;>exact absurd (show Zk=Zj from J) kS
theorem DH:jH X (Qz .NotEq) GP:=by
 intro pins s σ H x y v u Q I O z h;obtain⟨J,q⟩:=Bx h;cases x with
 |Uy=>
  cases O;cases y with
  |Uy=>cases z;exact PySem.EqNone.ne_none_none<|iA I q<|by simp
  |bl j=>cases z;exact PySem.EqNone.ne_none_bool<|iA I q<|by simp
  |int j=>obtain⟨t',rfl⟩:=z;exact PySem.EqNone.ne_none_int<|iA I q<|by simp
  |str j=>obtain⟨t',rfl⟩:=z;exact PySem.EqNone.ne_none_str<|iA I q<|by simp
  |_=>exact absurd (show Zk=Zj from J) kS
 |bl i=>
  cases O;cases y with
  |Uy=>cases z;exact PySem.EqNone.ne_bool_none<|iA I q<|by simp
  |bl j=>cases z;exact ne_bool<|iA I q<|congrArg not zR
  |str j=>obtain⟨t',rfl⟩:=z;exact PySem.EqMixed.ne_bool_str<|iA I q<|by simp
  |_=>exact absurd (show Zk=Zj from J) kS
 |int i=>
  obtain⟨t,rfl⟩:=O;cases y with
  |Uy=>cases z;exact PySem.EqNone.ne_int_none<|iA I q<|by simp
  |int j=>obtain⟨t',rfl⟩:=z;exact ne_int<|iA I q<|congrArg not vj
  |str j=>obtain⟨t',rfl⟩:=z;exact PySem.EqMixed.ne_int_str<|iA I q<|by simp
  |_=>exact absurd (show Zk=Zj from J) kS
 |str i=>
  obtain⟨t,rfl⟩:=O;cases y with
  |Uy=>cases z;exact PySem.EqNone.ne_str_none<|iA I q<|by simp
  |bl j=>cases z;exact PySem.EqMixed.ne_str_bool<|iA I q<|by simp
  |int j=>obtain⟨t',rfl⟩:=z;exact PySem.EqMixed.ne_str_int<|iA I q<|by simp
  |str j=>obtain⟨t',rfl⟩:=z;exact ne_str<|iA I q<|congrArg not vi
  |_=>exact absurd (show Zk=Zj from J) kS
 |byt i=>
  obtain⟨t,rfl⟩:=O;cases y with
  |byt j=>obtain⟨t',rfl⟩:=z;exact PySem.W.ne_bytes<|iA I q<|congrArg not vk
  |_=>exact absurd (show Zk=Zj from J) kS
 |_=>cases y<;>exact absurd (show Zk=Zj from J) kS
theorem CI:jH X (Qz .Lt)<|yA λi j=>.bl<|decide<|i<j:=BQ λ_ _ _ _ _ _ _ q=>lt_int q
theorem HM:jH X (Qz .LtE)<|yA λi j=>.bl<|decide<|i<=j:=BQ λ_ _ _ _ _ _ _ q=>le_int q
theorem F4:jH X (Qz .Gt)<|yA λi j=>.bl<|decide<|j<i:=BQ λ_ _ _ _ _ _ _ q=>gt_int q
theorem DI:jH X (Qz .GtE)<|yA λi j=>.bl<|decide<|j<=i:=BQ λ_ _ _ _ _ _ _ q=>ge_int q
theorem Gg:jH X (Qz .Is) λx y H Q=>y=.Uy/\Q (.bl<|decide<|x=.Uy) H:=by
 intro pins s σ H x y v u Q I z J h;obtain⟨rfl,q⟩:=h;cases J;refine is_none_gen<|iA I q ?_;cases x<;>first
  |(cases z;rfl)
  |(obtain⟨t,rfl⟩:=z;rfl)
theorem uK:jH X (Qz .IsNot) λx y H Q=>y=.Uy/\Q (.bl<|!decide (x=.Uy)) H:=by
 intro pins s σ H x y v u Q I z J h;obtain⟨rfl,q⟩:=h;cases J;refine isnot_none_gen<|iA I q ?_;cases x<;>first
  |(cases z;rfl)
  |(obtain⟨t,rfl⟩:=z;rfl)
theorem dF(b:P1){z:CmpOp}(h:z≠.In:=by decide)(h2:z≠.NotIn:=by decide):Tq z b=Zk:=by
 have J:(z==CmpOp.In)=Zk:=by cases z<;>first|rfl|exact absurd rfl h
 have e2:(z==CmpOp.NotIn)=Zk:=by cases z<;>first|rfl|exact absurd rfl h2
 cases b<;>simp[Tq,J,e2]
theorem AM{z:CmpOp}(J:jH X (Qz z) r)(ha:PE X a ta)(U:PE X b tb)(hm:Tq z b=Zk):PE X (.Compare a [z] [b] pos)<|Hq r ta tb:=by
 intro pins s σ H Q I h;exact wpAny_Compare1 (FR ha U I h λv u s2 x y H2 O rx Z q=>J pins s2 σ H2 x y v u Q O rx Z q) hm
def Dq(t:TE):TT:=λσ H Q=>t σ H λx H'=>BR x λk=>Q k H'
theorem fF{O:CmpOp}(ho:jH X (Qz O) r)(ha:PE X a ta)(hb:PE X b tb)(hm:Tq O b=Zk):PT X (.Compare a [O] [b] pos)<|Dq<|Hq r ta tb:=by
 intro pins s σ H Q I h;refine wpAny_isTrue_Compare1 (thn (ha pins s σ H _ I h) λv s1 J=>?_) hm;obtain⟨x,H1,I1,r1,U⟩:=J;refine thn (hb pins s1 σ H1 _ I1 U) λu s2 J=>?_;obtain⟨y,H2,I2,r2,Z⟩:=J;refine thn (ho pins s2 σ H2 x y v u _ I2 r1 r2 Z) λc s3 J=>?_;obtain⟨z,H3,I3,r3,qz⟩:=J;obtain⟨k,e,q3⟩:=Jr qz;subst e;cases r3;exact Se #[H3,I3,q3]
def EG(r r':R2)(ta tb tc:TE):TE:=λσ H Q=>ta σ H λx H1=>tb σ H1 λy H2=>r x y H2 λz H3=>BR z λk=>
 (if k=Zj then tc σ H3 λw' H4=>r' y w' H4 Q else Q (.bl Zk) H3)
theorem Jq:(sizeLine:Nat)<2^63:=by rw[QG];decide
theorem Ah{x:V}(r:Vals [x] us):∃u,us=[u]/\RelV x u:=by
 cases r with
 |cons r1 r2=>cases r2;exact#[_,rfl,r1]
theorem DY{x:V}(r:Vals [x,y] us):∃u w',us=[u,w']/\RelV x u/\RelV y w':=by
 cases r with
 |cons r1 r2=>
  cases r2 with
  |cons r3 r4=>cases r4;exact#[_,_,rfl,r1,r3]
theorem Ly(hc:X.calm=Zj):oV X (.builtin "max") λxs H Q=>L2.X2 λi j=>xs=[.int i,.int j]/\Q (.int<|if j>i then j else i) H:=by
 intro pins s σ H xs us Q I r h;obtain⟨i,j,rfl,q⟩:=h;obtain⟨u,w',rfl,⟨t,rfl⟩,⟨t',rfl⟩⟩:=DY r;refine max_two_ints (I.ok.hd hc) λh' tk k=>#[_,H,I.kept k,?_,q]
 by_cases hj:j>i
 .rw [Z9 hj,Z9 hj];exact#[_,rfl]
 .rw [Z8 hj,Z8 hj];exact#[_,rfl]
theorem Hf(hc:X.calm=Zj):oV X (.builtin "min") λxs H Q=>L2.X2 λi j=>xs=[.int i,.int j]/\Q (.int<|if j<i then j else i) H:=by
 intro pins s σ H xs us Q I r h;obtain⟨i,j,rfl,q⟩:=h;obtain⟨u,w',rfl,⟨t,rfl⟩,⟨t',rfl⟩⟩:=DY r;refine min_two_ints (I.ok.hd hc) λh' tk k=>#[_,H,I.kept k,?_,q]
 by_cases hj:j<i
 .rw [Z9 hj,Z9 hj];exact#[_,rfl]
 .rw [Z8 hj,Z8 hj];exact#[_,rfl]
theorem oM:oV X (.type "int") λxs H Q=>(∃i,xs=[.int i]/\Q (.int i) H)∨∃k,xs=[.bl k]/\Q (.int<|if k then 1 else 0) H:=by
 intro pins s σ H xs us Q I r h;rcases h with ⟨i,rfl,q⟩|⟨k,rfl,q⟩
 .obtain ⟨u,rfl,t,rfl⟩:=Ah r;exact call_int_int #[.int i,H,I,#[_,rfl],q]
 .obtain ⟨u,rfl,z⟩:=Ah r;cases z;exact call_int_bool #[.int (if k then 1 else 0),H,I.tok _,#[_,rfl],q]
end
structure tH(h:PJ)(x dx C:OS)(mA:Pj->Option OR):Prop where
 obj:h.get? x=Zh (Qu C dx)
 ns:h.Ns1 dx mA
 ne:dx≠x
theorem LW(n:h.Ns1 dx mg):∃od,h.get? dx=Zh od/\∀name,Sk name od=Zh (mg name):=by
 obtain⟨o,es,ep,U,hd,Z,_,hm⟩:=n;refine#[o,U,λname=>?_];have e:=hm name;unfold nsFind findBy at e;rw[<- Array.find?_toList] at e;unfold Sk;rw[hd];dsimp only;split
 .rename_i y q;rw[q] at e;exact congrArg Zh e
 .rename_i q;rw[q] at e;have a:es.toList.any (·.refKey)=Zk:=by
   rw[List.any_eq_false];intro y O;obtain⟨z,t,J⟩:=Z y<|Array.mem_toList_iff.mp O;simp[DictEntry.refKey,J]
  have a':¬ es.toList.any (·.refKey)=Zj:=by rw[a];exact kS
  rw[Z8 a'];exact congrArg Zh e
theorem tH.look{x:OS}(I:tH h x dx C mg):∃od,TC h x (Qu C dx) C (Zh od)/\∀name,Sk name od=Zh (mg name):=
 let ⟨od,ho,hl⟩:=LW I.ns
 #[od,#[I.obj,rfl,rfl,ho],hl]
section
variable {prog:Pl}{A:Py}{x f:OS}{mA:Pj->Option OR}{name:Pj}{v:OR}
theorem get_map{z:Bool}(X:K.In s.heap)(I:tH s.heap x dx C mA)(U:Qc K C name=Zj)(hh:PZ K C=Zj)
  (ha:W.findIn K (.ref C) name=Zh Zi) (Z:mA name=Zh v) (O:PySem.W.handedIn v=Zj) (h:Q v { s with toks:=s.toks+1 }):
  OZ (Pd prog w) A (getAttr (.ref x) name z) Q E s:=by
 obtain⟨od,J,hl⟩:=I.look;exact PySem.W.get_value X J (Su U).1 (PySem.W.findObj_own hh ha rfl<|by rw[hl,Z]) O h
theorem zu{Q:OR×List OR->OU->Prop}(X:K.In s.heap)(I:tH s.heap x dx C mA)(z:Qc K C name=Zj)
  (O:W.findIn K (.ref C) name=Zh (Zh<|.ref f)) (Z:SQ K (.ref f)=Zj) (U:mA name=Zi) (h:Q (.ref f,[.ref x]) s):
  OZ (Pd prog w) A (RW (.ref x) name pl) Q E s:=by
 obtain⟨od,J,hl⟩:=I.look;exact PySem.W.method_fn X J (Su z).1 (Su z).2 O (beq_iff_eq.mp Z) (by show(Sk name od).map (·.isSome)=Zh Zk;rw[hl,U];rfl) h
theorem Bo{ns:List Pj}{Q:Unit->OU->Prop}(X:K.In s.heap)(I:tH s.heap x dx C mA)
  (hs:W.findIn K (.ref C) "__setattr__"=Zh (Zh<|.builtin "object.__setattr__")) (hp:Qh K C=Zj) (ht:Ti K C name=Zh Zi) (hh:PZ K C=Zj)
  (hw:PySem.Within mA ns) (hsz:ns.length<=sizeLine)
  (h:∀h',tH h' x dx C (λy=>if y=name then Zh v else mA y)->Pr dx s.heap h'->Q .unit { s with heap:=h',toks:=s.toks+2 }):
  OZ (Pd prog w) A (setAttr (.ref x) name v) Q E s:=by
 obtain⟨od,J,hl⟩:=I.look;refine PySem.W.set_plain X J hs<|PySem.W.osa_open (s:={ s with toks:=s.toks+1 }) (r:=Zi) X J hp ht λb=>?_;obtain⟨cd,hc,ac⟩:=PySem.W.any_some hh;have hx:s.heap.get? x=Zh #[.ref C,Zh dx,.plain,(List.toArray [])]:=I.obj;refine OQ<|OV<|OQ<|OQ<|Uk hx<|OQ<|PySem.W.Looks.here (s:={ s with toks:=s.toks+1 }) (PySem.W.looks_clsIn X hc) ?_;rw[ac];refine OV (a:=Zh dx)<|OQ<|OV<|OQ ?_;refine wpAny_nsSet1 (s:={ s with toks:=s.toks+1 }) I.ns λh' z O=>?_;obtain⟨oD,ad,ae,U,Z,aa⟩:=z.count<|PySem.Within.cons name v hw;refine OQ<|T5 U (by rw[Z];exact T8<|dJ aa<|by rw[cF];lia) ?_;exact OV<|h _ #[(O.2 _<|Pe I.ne).trans I.obj,z,I.ne] O
theorem yW{R:Result->OU->Prop}{vs:List OR}{z:List<|Pj×OR}(X:K.In s.heap)(hm:Qs K C=Zj)
  (hi:W.findIn K (.ref C) "__init__"=Zh (Zh<|.ref f)) (J:PySem.W.typeIn K (.ref f)=Zh (.type "function"))
  (h:Ra (Pd prog w) (A.under<|.builtin "type.__call__" #[.ref C::vs,z]) (.call (.ref f) #[.ref (s.heap.objs.size+1)::vs,z]) (PySem.W.InitBack (s.heap.objs.size+1) R) { s with heap:=(s.heap.push PySem.W.emptyDict).push<|Qu C s.heap.objs.size }):
  Ra (Pd prog w) A (.call (.ref C) #[vs,z]) R s:=by
 obtain⟨hh,g,d,t,os⟩:=s;exact PySem.W.make_core (PySem.W.makes_of X hm) (PySem.W.looks_findIn X hi) (λself=>PySem.W.bind_fn X self J) (.inl rfl) h
end
noncomputable def aL(f:Pj)(v:V):List (Pj×V)->List (Pj×V)
 |[]=>[(f,v)]
 |(g,x)::r=>if g=f then(g,v)::r else(g,x)::aL f v r
theorem mH(f g:Pj)(v:V):∀fs:List<|Pj×V,(aL f v fs).lookup g=if g=f then Zh v else fs.lookup g
 |[]=>by
  show Qp g [(f,v)]=_;by_cases h:g=f
  .have z:(g==f)=Zj:=beq_iff_eq.mpr h;simp only[Qp,z,Z9 h]
  .have z:(g==f)=Zk:=beq_eq_false_iff_ne.mpr h;simp only[Qp,z,Z8 h]
 |(k,x)::r=>by
  have J:=mH f g v r;rw[show aL f v ((k,x)::r)=(if k=f then(k,v)::r else(k,x)::aL f v r) from rfl];by_cases hk:k=f
  .rw [Z9 hk];by_cases h:g=k
   .have z:(g==k)=Zj:=beq_iff_eq.mpr h;simp only[Qp,z,Z9<|h.trans hk]
   .have z:(g==k)=Zk:=beq_eq_false_iff_ne.mpr h;simp only[Qp,z,Z8 λe:g=f=>h<|e.trans hk.symm]
  .rw [Z8 hk];by_cases h:g=k
   .have z:(g==k)=Zj:=beq_iff_eq.mpr h;simp only[Qp,z,Z8 λe:g=f=>hk<|h.symm.trans e]
   .have z:(g==k)=Zk:=beq_eq_false_iff_ne.mpr h;simp only[Qp,z];exact J
theorem LV(f:Pj)(v:V):∀fs:List<|Pj×V,f∈(aL f v fs).map (·.1)/\∀g,g∈fs.map (·.1)->g∈(aL f v fs).map (·.1)
 |[]=>#[by simp[aL],λg h=>by simp at h]
 |(k,x)::r=>by
  obtain⟨z,i2⟩:=LV f v r;rw[show aL f v ((k,x)::r)=(if k=f then(k,v)::r else(k,x)::aL f v r) from rfl];by_cases hk:k=f
  .rw [Z9 hk];subst hk;exact#[by simp,λg h=>by simpa using h]
  .rw [Z8 hk];refine#[?_,λg h=>?_]
   .rw [iK];exact bF _ z
   .rw [iK] at h⊢;rcases bY.mp h with e|e
    .exact bY.mpr (.inl e)
    .exact bF _ (i2 g e)
theorem Mq(f:Pj)(v:V):∀fs:List<|Pj×V,(aL f v fs).length<=fs.length+1
 |[]=>by simp[aL]
 |(k,x)::r=>by
  have z:=Mq f v r;rw[show aL f v ((k,x)::r)=(if k=f then(k,v)::r else(k,x)::aL f v r) from rfl];by_cases hk:k=f
  .rw [Z9 hk,cF,cF];lia
  .rw [Z8 hk,cF,cF];lia
theorem dH.some_of{o:Option OR}(r:dH (Zh v) o):∃u,o=Zh u/\RelV v u:=by
 cases o with
 |none=>exact(show False from r).elim
 |some u=>exact#[u,rfl,r]
theorem dH.none_of{o:Option OR}(r:dH Zi o):o=Zi:=by
 cases o with
 |none=>rfl
 |some u=>exact(show False from r).elim
theorem oG(r:RelV v u):PySem.W.handedIn u=Zj:=by
 cases v with
 |Uy=>cases(show u=Value.none from r);rfl
 |bl b=>cases(show u=Value.bool b from r);rfl
 |int i=>obtain⟨t,e⟩:=(show ∃t,u=Value.int i t from r);cases e;rfl
 |str x=>obtain⟨t,e⟩:=(show ∃t,u=Value.str x t from r);cases e;rfl
 |byt b=>obtain⟨t,e⟩:=(show ∃t,u=Value.bytes b t from r);cases e;rfl
 |flt b=>obtain⟨t,e⟩:=(show ∃t,u=Value.float b t from r);cases e;rfl
 |ref a=>cases(show u=Value.ref a from r);rfl
 |ty n=>cases(show u=Value.type n from r);rfl
section
variable {H':Hp}{h':PJ}{fs fs':List (Pj×V)}
theorem JF(J:cY P w H h)(e:H a=Zh (.ins C dx fs)):∃mA,tH h a dx C mA/\(∀f,dH (fs.lookup f)<|mA f)/\PySem.Within mA (fs.map (·.1))/\fs.length<=1000/\H dx=Zh (.own a):=by
 obtain⟨d,z,ne,ob,mA,n,r,q⟩:=(show aW P w H h a (.ins C dx fs) from J a _ e)
 exact#[mA,#[ob,n,ne],r,q,z,d]
end
structure gF(K:W.Frag)(C:OS):Prop where
 pg:Qc K C RX=Zj
 hd:PZ K C=Zj
 po:Qh K C=Zj
 sa:W.findIn K (.ref C) "__setattr__"=Zh (Zh<|.builtin "object.__setattr__")
theorem gF.get(c:gF K C)(f:Pj):Qc K C f=Zj:=c.pg
def aD(K:W.Frag)(C:OS)(f:Pj):Prop:=W.findIn K (.ref C) f=Zh Zi
theorem aD.Wf{f:Pj}(n:aD K C f):Ti K C f=Zh Zi:=by
 unfold Ti;rw[show W.findIn K (.ref C) f=Zh Zi from n];rfl
structure Meth(K:W.Frag)(C:OS)(m:Pj)(f:OS):Prop where
 at_:W.findIn K (.ref C) m=Zh (Zh<|.ref f)
 fn:SQ K (.ref f)=Zj
 kp:W.keepIn K (.ref f)=Zj
section
variable {fs:List (Pj×V)}{f:Pj}{A:Py}
theorem lR{b:Bool}(I:Inv X pins σ H s)(e:H a=Zh (.ins C dx fs))(c:gF X.K C)(n:aD X.K C f)(l:fs.lookup f=Zh v)
  (h:∀u s',Inv X pins σ H s'->RelV v u->Q u s'):OZ (Pd X.prog X.w) A (getAttr (.ref a) f b) Q E s:=by
 obtain⟨mA,O,r,_,_,_⟩:=JF I.Uz e;obtain⟨u,z,ru⟩:=dH.some_of (v:=v) (o:=mA f) (by rw[<- l];exact r f);exact get_map I.UP O (c.get f) c.hd n z (oG ru)<|h u _ (I.tok _) ru
theorem lQ{m:Pj}{g:OS}{Q:OR×List OR->OU->Prop}(I:Inv X pins σ H s)(e:H a=Zh (.ins C dx fs))(c:gF X.K C)(k:Meth X.K C m g)(l:fs.lookup m=Zi)
  (h:Q (.ref g,[.ref a]) s):OZ (Pd X.prog X.w) A (RW (.ref a) m pl) Q E s:=by
 obtain⟨mA,O,r,_,_,_⟩:=JF I.Uz e;have hn:mA m=Zi:=dH.none_of (by rw[<- l];exact r m);exact zu I.UP O (c.get m) k.at_ k.fn hn h
theorem lK{Q:Unit->OU->Prop}(I:Inv X pins σ H s)(e:H a=Zh (.ins C dx fs))(c:gF X.K C)(n:aD X.K C f)(hl:fs.length<1000)(ry:RelV y u)
  (h:∀s',Inv X pins σ (upd H a<|.ins C dx<|aL f y fs) s'->Q .unit s'):OZ (Pd X.prog X.w) A (setAttr (.ref a) f u) Q E s:=by
 obtain⟨mA,O,r,wi,_,U⟩:=JF I.Uz e;have hz:(fs.map (·.1)).length<=sizeLine:=by rw[aM,QG];lia
 refine Bo I.UP O c.sa c.po n.Wf c.hd wi hz λh' J Z=>h _ ?_;have hd:∃o,h'.get? dx=Zh o:=let ⟨o,_,_,e',_⟩:=J.ns;#[o,e']
 refine I.write (x:=a) (e:=dx) (by rw[e];exact True.intro) (.inr U) (λb q hb z=>(Z.2 b hb).trans z) hd ?_;refine#[by rw[aO O.ne];exact U,?_,O.ne,J.obj,_,J.ns,λg=>?_,λg hg=>?_]
 .have:=Mq f y fs;lia
 .show dH ((aL f y fs).lookup g) (if g=f then Zh u else mA g);rw[mH];by_cases q:g=f
  .rw [Z9 q,Z9 q];exact ry
  .rw [Z8 q,Z8 q];exact r g
 .by_cases q:g=f
  .rw [q];exact(LV f y fs).1
  .refine (LV f y fs).2 g (wi g λz=>hg ?_);show(if g=f then Zh u else mA g)=Zi;rw[Z8 q];exact z
theorem Inv.made(I:Inv X pins σ H s):Inv X pins σ (upd (upd H s.heap.objs.size<|.own<|s.heap.objs.size+1) (s.heap.objs.size+1)<|.ins C s.heap.objs.size [])
  { s with heap:=(s.heap.push PySem.W.emptyDict).push<|Qu C s.heap.objs.size }:=by
 have z:(s.heap.push PySem.W.emptyDict).get? s.heap.objs.size=Zh PySem.W.emptyDict:=Pf s.heap rfl;have e2:((s.heap.push PySem.W.emptyDict).push<|Qu C s.heap.objs.size).get? (s.heap.objs.size+1)=Zh (Qu C s.heap.objs.size):=by
  have:=Pf (s.heap.push PySem.W.emptyDict) (o:=Qu C s.heap.objs.size) rfl
  rwa [QW] at this
 have e3:(s.heap.push PySem.W.emptyDict).Ns s.heap.objs.size λ_=>Zi:=#[PySem.W.emptyDict,(List.toArray []),_,z,rfl,(λe J=>absurd J<|by simp),λ_=>rfl]
 have U:=I.laid (a:=s.heap.objs.size) (o:=.own<|s.heap.objs.size+1) (h':=s.heap.push PySem.W.emptyDict) (t':=s.toks) (λb u q=>OT _ q) (aN _) #[_,z];refine U.laid (a:=s.heap.objs.size+1) (o:=.ins C s.heap.objs.size []) (t':=s.toks) (λb u q=>OT _ q) (Sm<|QW _ _) ?_;have ne:s.heap.objs.size≠s.heap.objs.size+1:=fQ<|Ba _;refine#[by rw[aO ne,aU],cQ _,ne,e2,λ_=>Zi,(Heap.Ns1.of_empty e3).at λo q=>OT _ q,λ_=>True.intro,λy O=>absurd rfl O]
theorem vt{prog:Pl}{env:RN}{f:Pj}(z:RF e f env (eval e env)=eval e env)
  (h:OZ (Pd prog w) A (eval e env) (λo s₁=>OZ (Pd prog w) A (getAttr o f Zj) Q E s₁) E s):OZ (Pd prog w) A (eval (.Attribute e f pos) env) Q E s:=
 Attribute_any_ h<|by rw[arm_eval_Attribute,z]
end
def Hv(K:W.Frag)(ta:TE)(f:Pj):TE:=λσ H Q=>ta σ H λx H1=>L2.X5 λa C dx fs v=>x=.ref a/\H1 a=Zh (.ins C dx fs)/\gF K C/\aD K C f/\fs.lookup f=Zh v/\Q v H1
def HE(K:W.Frag)(ta tv:TE)(f:Pj):TS:=λD σ H=>tv σ H λy H1=>ta σ H1 λx H2=>L2.X4 λa C dx fs=>x=.ref a/\H2 a=Zh (.ins C dx fs)/\gF K C/\aD K C f/\fs.length<1000/\
 D.nx σ (upd H2 a<|.ins C dx<|aL f y fs)
def IU(X:Cx)(op:TR)(rd:V->V->Hp->VK->Prop):Prop:=
 ∀(pins:List<|OS×Qf) (s:OU) (σ:St) (H:Hp) (x y:V) (u v:OR) (Q:VK),Inv X pins σ H s->RelV x u->RelV y v->rd x y H Q->OZ (Pd X.prog X.w) X.A (inplaceOp op u v) (EP X pins σ Q) X.xe s
def ui(K:W.Frag)(ta tv:TE)(rd:V->V->Hp->VK->Prop)(f:Pj):TS:=λD σ H=>ta σ H λx H1=>L2.X5 λa C dx fs v=>x=.ref a/\H1 a=Zh (.ins C dx fs)/\gF K C/\aD K C f/\fs.lookup f=Zh v/\
 tv σ H1 λy H2=>rd v y H2 λz H3=>L2.X2 λdx' fs'=>H3 a=Zh (.ins C dx' fs')/\fs'.length<1000/\D.nx σ (upd H3 a<|.ins C dx'<|aL f z fs')
section
variable {o value:P1}{f:Pj}{tpos:RC}{ta tv:TE}
theorem kL(J:PE X e ta)(U:RF e f X.env (eval e X.env)=eval e X.env):PE X (.Attribute e f pos)<|Hv X.K ta f:=by
 intro pins s σ H Q I h;refine vt U<|thn (J pins s σ H _ I h) λu s1 zz=>?_;obtain⟨x,H1,z,Z,a,C,dx,fs,v,ex,ea,c,n,l,q⟩:=zz;subst ex;obtain rfl:u=Value.ref a:=Z;exact lR z ea c n l λu' s2 O ru=>#[v,H1,O,ru,q]
theorem CM(ha:PE X o ta)(J:PE X value tv)(hs:RA value (Zh<|.Attribute o f pos') pos.line X.env=pure Zk):PS X (.Assign [.Attribute o f pos'] value pos)<|HE X.K ta tv f:=by
 intro pins s σ H D I h;refine T1 (thn (J pins s σ H _ I h) λu s1 z=>?_) hs;obtain⟨y,H1,Z,ry,q⟩:=z;refine thn (ha pins s1 σ H1 _ Z q) λov s2 z=>?_;obtain⟨x,H2,I2,rx,a,C,dx,fs,ex,ea,c,n,l,O⟩:=z;subst ex;obtain rfl:ov=Value.ref a:=rx;exact lK I2 ea c n l ry λs3 U=>#[σ,_,U,O]
theorem nQ{Z:TR}{rd:V->V->Hp->VK->Prop}(ha:PE X o ta)(hv:PE X value tv)(U:IU X Z rd):PS X (.AugAssign (.Attribute o f tpos) Z value pos)<|ui X.K ta tv rd f:=by
 intro pins s σ H D I h;refine wpAny_AugAssign_AttributeAny<|thn (ha pins s σ H _ I h) λov s1 J=>?_;obtain⟨x,H1,I1,rx,a,C,dx,fs,v,ex,ea,c,n,l,q⟩:=J;subst ex;obtain rfl:ov=Value.ref a:=rx;refine lR I1 ea c n l λu s2 I2 ru=>thn (hv pins s2 σ H1 _ I2 q) λw3 s3 J=>?_;obtain⟨y,H2,I3,ry,q3⟩:=J;refine thn (U pins s3 σ H2 v y u w3 _ I3 ru ry q3) λw4 s4 J=>?_;obtain⟨z,H3,I4,rz,aa,fs',O,l',q4⟩:=J;exact lK I4 O c n l' rz λs5 I5=>#[σ,_,I5,q4]
def EX:V->V->Hp->VK->Prop:=λx y H Q=>L2.X2 λi j=>x=.int i/\y=.int j/\Q (.int<|i+j) H
theorem zf:IU X .Add EX:=by
 rintro pins s σ H x y u v Q I J z ⟨i,j,rfl,rfl,q⟩;obtain⟨t,rfl⟩:=(show ∃t,u=Value.int i t from J)
 obtain⟨t',rfl⟩:=(show ∃t',v=Value.int j t' from z)
 exact PyProof.Rows.iadd_int #[.int<|i+j,H,I.tok _,#[_,rfl],q]
end
section
variable {A:Py}{c:OR}{b:Bool}
inductive gX(K:W.Frag)(H:Hp):V->OR->Prop where
 |Uy:gX K H .Uy<|.type "NoneType"
 |bl (x:Bool):gX K H (.bl x)<|.type "bool"
 |int (i:Int):gX K H (.int i)<|.type "int"
 |str (x:Pj):gX K H (.str x)<|.type "str"
 |flt (x:UInt64):gX K H (.flt x)<|.type "float"
 |lst {a:OS} {xs:List V} (e:H a=Zh (.lst xs)):gX K H (.ref a)<|.type "list"
 |frz {a:OS} {o:Qf} {xs:List V} (e:H a=Zh (.frz o<|.lst xs)):gX K H (.ref a)<|.type "list"
 |tup {a:OS} {xs:List V} (e:H a=Zh (.tup xs)):gX K H (.ref a)<|.type "tuple"
 |dK {a:OS} {kvs:List<|Key×V} (e:H a=Zh (.dK kvs)):gX K H (.ref a)<|.type "dict"
 |dT {a:OS} {kvs:List<|List Key×V} (e:H a=Zh (.dT kvs)):gX K H (.ref a)<|.type "dict"
 |ins {a C dx:OS} {fs:List<|Pj×V} (e:H a=Zh (.ins C dx fs)) (cl:gF K C) (ha:W.findIn K (.ref C) "__class__"=Zh (Zh<|.builtin "object.__class__"))
   (hn:RM K (.builtin "object.__class__") "__get__"=Zh (Zh<|.builtin "getset_descriptor.__get__")) (UZ:Th K (.builtin "object.__class__")=Zh Zj)
   (hm:RQ K C (.type "object")=Zh Zj):gX K H (.ref a)<|.ref C
theorem wI{x:V}{t:OR}(I:Inv X pins σ H s)(U:RelV x u)(ty:gX X.K H x t)(e:P6 X.K t c=Zh b)(h:∀tk,Q (.bool b) { s with toks:=tk }):
  OZ (Pd X.prog X.w) A (call (.builtin "isinstance") [u,c]) Q E s:=by
 cases ty with
 |Uy=>cases(show u=Value.none from U);exact Qa PySem.W.kitx_none I.UP True.intro e (λz=>nomatch z) h
 |bl y=>cases(show u=Value.bool y from U);exact Qa PySem.W.kitx_bool I.UP True.intro e (λz=>nomatch z) h
 |int i=>obtain⟨t,q⟩:=(show ∃t,u=Value.int i t from U);cases q;exact Qa PySem.W.kitx_int I.UP True.intro e (λz=>nomatch z) h
 |str y=>obtain⟨t,q⟩:=(show ∃t,u=Value.str y t from U);cases q;exact Qa PySem.W.kitx_str I.UP True.intro e (λz=>nomatch z) h
 |flt y=>obtain⟨t,q⟩:=(show ∃t,u=Value.float y t from U);cases q;exact Qa PySem.W.kitx_float I.UP True.intro e (λz=>nomatch z) h
 |@lst a xs ea=>
  cases(show u=Value.ref a from U);obtain⟨_,_,n,_,h1⟩:=(show aW X.prog X.w H s.heap a (.lst xs) from I.Uz a _ ea)
  exact Qa PySem.W.kitx_list I.UP #[_,h1,rfl] e (λz=>nomatch z) h
 |@frz a ob xs ea=>
  cases(show u=Value.ref a from U);obtain⟨_,_,_,n,_,h1⟩:=(show aW X.prog X.w H s.heap a (.frz ob<|.lst xs) from I.Uz a _ ea)
  exact Qa PySem.W.kitx_list I.UP #[_,h1,rfl] e (λz=>nomatch z) h
 |@tup a xs ea=>
  cases(show u=Value.ref a from U);obtain⟨_,_,_,p⟩:=(show aW X.prog X.w H s.heap a (.tup xs) from I.Uz a _ ea)
  obtain⟨o,h1,h2,_⟩:=p;exact Qa PySem.W.kitx_tuple I.UP #[o,h1,h2] e (λz=>nomatch z) h
 |@dK a kvs ea=>
  cases(show u=Value.ref a from U);obtain⟨_,_,vs,_,p⟩:=(show aW X.prog X.w H s.heap a (.dK kvs) from I.Uz a _ ea)
  obtain⟨o,es,Z,h1,h2,_⟩:=p;exact Qa PySem.W.kitx_dict I.UP #[o,h1,h2.1] e (λz=>nomatch z) h
 |@dT a kvs ea=>
  cases(show u=Value.ref a from U);obtain⟨_,_,xs,_,o,es,Z,h1,h2,_⟩:=(show aW X.prog X.w H s.heap a (.dT kvs) from I.Uz a _ ea)
  exact Qa PySem.W.kitx_dict I.UP #[o,h1,h2.1] e (λz=>nomatch z) h
 |@ins a C dx fs ea cl ha hn UZ hm=>
  cases(show u=Value.ref a from U);obtain⟨mA,O,_⟩:=JF I.Uz ea;obtain⟨od,J,_⟩:=O.look;exact Qa (PySem.W.kitx_own (cl.get _) cl.hd ha hn UZ hm) I.UP J e (λz=>nomatch z) h
end
structure aY(k:Nat)(A:Py):Prop where
 hd:A.handled=Zi
 dp:A.depth+3*k+5<recursionLimit
 un:A.units+16*k+200<Ua
 gd:A.guards=Zh []
theorem aY.mono{j:Nat}{A:Py}(r:aY k A)(h:j<=k):aY j A:=#[r.hd,by have:=r.dp;lia,by have:=r.un;lia,r.gd]
theorem aY.deeper{A:Py}(r:aY (k+1) A)(env:RN):aY k<|A.deeper env:=
 #[r.hd,by have:=r.dp;show A.depth+1+3*k+5<_;lia,by have:=r.un;show A.units+3+16*k+200<_;lia,r.gd]
theorem sT{A:Py}{z:List<|Pj×OR}:(A.under<|.builtin "type.__call__" #[.ref C::us,z]).depth=A.depth+1:=by
 first|rfl|simp[TZ,Code.weight,Code.isCreation,Code.isGuard,Code.isCaller,Code.frames,Code.isFrame,guardIds]
theorem sS{A:Py}{z:List<|Pj×OR}:(A.under<|.builtin "type.__call__" #[.ref C::us,z]).units=A.units+1:=by
 first|rfl|simp[TZ,Code.cUnits,Code.frames,Code.isFrame]
theorem aY.make{A:Py}(r:aY (k+1) A)(C:OS)(us:List OR)(z:List<|Pj×OR):aY k<|A.under<|.builtin "type.__call__" #[.ref C::us,z]:=
 #[r.hd,by have:=r.dp;rw[sT];lia,by have:=r.un;rw[sS];lia,by have:=r.gd;first|exact this|simp[TZ,Code.guards,Code.isGuard,guardIds,this]]
theorem aY.depth{A:Py}(r:aY k A):A.depth<recursionLimit:=by have:=r.dp;lia
theorem aY.units{A:Py}(r:aY k A):A.units+64<Ua:=by have:=r.un;lia
def gR:TA:=λ_ H Q=>Q [] H
def lX(ta:TE)(tr:TA):TA:=λσ H Q=>ta σ H λx H1=>tr σ H1 λxs H2=>Q (x::xs) H2
section
variable {es:List P1}{t:TA}
theorem AH:PA X [] gR:=λ_ _ _ _ H Q I h=>Calls.spliced_nil #[[],H,I,.nil,h]
theorem Aj(ha:PE X e te)(U:PA X es t)(hs:Pb (e::es) X.env=(Zk,eval e X.env)::Pb es X.env:=by rfl):PA X (e::es)<|lX te t:=by
 intro pos pins s σ H Q I h;rw[hs];show OZ _ _ (spliced<|(Zk,eval e X.env)::Qd pos (Pb es X.env)) _ _ s;refine Calls.spliced_cons<|thn (ha pins s σ H _ I h) λu s1 z=>?_;obtain⟨x,H1,I1,Z,J⟩:=z;refine thn (U pos pins s1 σ H1 _ I1 J) λus s2 z=>?_;obtain⟨xs,H2,I2,r2,O⟩:=z;exact#[x::xs,H2,I2,.cons Z r2,O]
def Hj(t:TA):TE:=λσ H Q=>t σ H λxs H1=>xs.length<=sizeLine/\∀p,H1 p=Zi->Q (.ref p) (upd H1 p<|.tup xs)
def Hs(t:TA):TE:=λσ H Q=>t σ H λxs H1=>xs.length<=sizeLine/\∀p,H1 p=Zi->Q (.ref p) (upd H1 p<|.lst xs)
theorem qe{x1}(h:PA X es t):PE X (.Tuple es x1 pos)<|Hj t:=by
 intro pins s σ H Q I O;refine wpAny_Tuple_spliced<|thn (h pos pins s σ H _ I O) λus s1 ⟨xs,H1,J,r,z,q⟩=>#[by rw[<- r.length];exact z,?_];have U:H1 s1.heap.objs.size=Zi:=J.Uz.fresh<|aN _;refine#[.ref s1.heap.objs.size,upd H1 s1.heap.objs.size<|.tup xs,J.laid (t':=s1.toks) (λb u e=>OT _ e) (aN _) ?_,rfl,q _ U];exact#[z,us,r,#[_,Pf _ rfl,rfl,_,rfl]]
theorem xa(h:PA X es t):PE X (.List es pos)<|Hs t:=by
 intro pins s σ H Q I O;refine wpAny_List_spliced<|thn (h pos pins s σ H _ I O) λus s1 ⟨xs,H1,J,r,z,q⟩=>#[by rw[<- r.length];exact z,?_];have U:H1 s1.heap.objs.size=Zi:=J.Uz.fresh<|aN _;refine#[.ref s1.heap.objs.size,upd H1 s1.heap.objs.size<|.lst xs,J.laid (t':=s1.toks) (λb u e=>OT _ e) (aN _) ?_,rfl,q _ U];exact#[z,us,0,r,Pf _ rfl]
end
noncomputable abbrev Sp:=List V->Hp->VK->XK->Prop
noncomputable abbrev pf:=List RN->Hp->OU->XK->OR->OU->Prop
variable {CX:pf}
structure p9(P:Pl)(w:PN)(K:W.Frag)(mg:Pj->Option OR)(base:PJ)(A:Py)(outer:List RN)(s:OU)(H:Hp):Prop where
 frames:A.frames=Zh outer
 mod:Mod K mg base
 bs:∀b o,base.get? b=Zh o->s.heap.get? b=Zh o/\H b=Zi
 V9:base.objs.size<=s.heap.objs.size
 U0:s.heap.FunFrames base outer
 Wk:∀b∈frs outer,H b=Zi
 Uz:cY P w H s.heap
 bare:Q1 s.gens
def CE(outer:List RN)(P:Pl)(w:PN)(H:Hp)(s:OU)(Q:VK)(u:OR)(s':OU):Prop:=
 ∃v H',s'.os=s.os/\Q1 s'.gens/\Un (frs outer) [] H H' s.heap s'.heap/\cY P w H' s'.heap/\RelV v u/\Q v H'
def CR(CX:pf)(outer:List RN)(P:Pl)(w:PN)(H:Hp)(s:OU)(Q:VK)(E:XK)(r:Result)(s':OU):Prop:=
 match r with
 |.ok (.ret u)=>CE outer P w H s Q u s'
 |.ok _=>False
 |.error e=>CX outer H s E e s'
structure aI(P:Pl)(w:PN)(K:W.Frag)(mg:Pj->Option OR)(base:PJ)(CX:pf)(k:Nat)(f:OS)(fd:Qg)(ps:List Pj)(sp:Sp):Prop where
 len:∀vs H Q E,sp vs H Q E->vs.length=ps.length
 run:∀(A:Py) (outer:List RN) (s:OU) (H:Hp) (args:Args) (us:List OR) (vs:List V) (Q:VK) (E:XK),aY k A->p9 P w K mg base A outer s H->BindsTo s fd args (ps.zip us)->Vals vs us->sp vs H Q E->
  Ra (Pd P w) A (.call (.ref f) args) (CR CX outer P w H s Q E) s
theorem p9.make{A:Py}(e:p9 P w K mg base A outer s H)(C:OS)(us:List OR)(z:List<|Pj×OR):
  p9 P w K mg base (A.under<|.builtin "type.__call__" #[.ref C::us,z]) outer s H:=#[by first|exact e.frames|(simpa[TZ,Code.envs,Code.isFrame,pushEnvs] using e.frames),e.mod,e.bs,e.V9,e.U0,e.Wk,e.Uz,e.bare]
section
variable {s':OU}
theorem Inv.Wl(I:Inv X pins σ H s):p9 X.prog X.w X.K X.mg X.base X.A X.stack s H:=
 #[I.ok.frames,I.ok.mod,I.bs,dJ I.ok.V9 I.sz,I.stack,I.VG,I.Uz,I.bare]
theorem Inv.after{Q:VK}(I:Inv X pins σ H s)(h:CE X.stack X.prog X.w H s Q u s'):EP X pins σ Q u s':=by
 obtain⟨v,H',os,J,un,O,r,q⟩:=h;obtain⟨hh,g,d,t,U⟩:=s';obtain rfl:U=s.os:=os;exact#[v,H',I.call (h':=hh) (g':=g) (d':=d) (t':=t) (ch:=[]) un O J (λb z=>absurd z<|by simp),r,q]
end
def Jf(sp:Sp)(dvs:List V)(E:XK)(t:TA):TE:=λσ H Q=>t σ H λvs H1=>sp (vs++dvs) H1 Q E
def Ij(C:OS)(m:Pj)(sp:Sp)(dvs:List V)(E:XK)(ta:TE)(t:TA):TE:=λσ H Q=>ta σ H λx H1=>L2.X3 λa dx fs=>x=.ref a/\H1 a=Zh (.ins C dx fs)/\fs.lookup m=Zi/\
 t σ H1 λvs H2=>sp (x::(vs++dvs)) H2 Q E
def Jg(C:OS)(sp:Sp)(dvs:List V)(E:XK)(t:TA):TE:=λσ H Q=>t σ H λvs H1=>∀x dx,H1 x=Zi->H1 dx=Zi->dx≠x->
 sp (.ref x::(vs++dvs)) (upd (upd H1 dx<|.own x) x<|.ins C dx []) (λv H2=>v=.Uy/\Q (.ref x) H2) E
def Binds(K:W.Frag)(fd:Qg)(ps:List Pj)(ds:List OR):Prop:=
 ∀(s:OU) (us:List OR),K.In s.heap->(us++ds).length=ps.length->BindsTo s fd #[us,[]] (ps.zip<|us++ds)
theorem Binds.all{fd:Qg}(h:∀us:List OR,us.length=ps.length->Us fd #[us,[]]=pure (ps.zip us)):Binds K fd ps []:=λs us _ hl=>by
 rw[iG] at hl⊢;exact .of_eq<|h us hl
def nA(CX:pf)(X:Cx)(E:XK):Prop:=∀(pins:List<|OS×Qf) (σ:St) (H:Hp) (s:OU) (e:OR) (s':OU),Inv X pins σ H s->CX X.stack H s E e s'->X.xe e s'
section
variable {f:OS}{fd:Qg}{sp:Sp}{dvs:List V}{ds:List OR}{E:XK}{m:Pj}{p apos:RC}{o:P1}{es:List P1}{ta:TE}{t:TA}
theorem KI{Q:VK}(F:aI X.prog X.w X.K X.mg X.base CX k f fd ps sp)(O:aY k X.A)(U:Binds X.K fd ps ds)(hd:Vals dvs ds)(hx:nA CX X E)
  (I:Inv X pins σ H s) (r:Vals vs us) (h:sp (vs++dvs) H Q E):OZ (Pd X.prog X.w) X.A (call (.ref f) us) (EP X pins σ Q) X.xe s:=by
 have J:Vals (vs++dvs)<|us++ds:=r.append hd;have hl:(us++ds).length=ps.length:=by rw[<- J.length];exact F.len _ _ _ _ h
 refine Rz<|QZ (F.run X.A X.stack s H #[us,[]] (us++ds) (vs++dvs) Q E O I.Wl (U s us I.UP hl) J h) λr s' z=>?_;cases r with
 |error e=>exact hx pins σ H s e s' I z
 |ok fl=>
  cases fl with
  |ret u=>exact I.after z
  |next=>exact PD z
  |brk=>exact PD z
  |cont=>exact PD z
theorem uI(F:aI X.prog X.w X.K X.mg X.base CX k f fd ps sp)(U:aY k X.A)(hg:Gl X x)(hm:X.mg x=Zh (.ref f))(hk:W.keepIn X.K (.ref f)=Zj)(hb:Binds X.K fd ps ds)(hd:Vals dvs ds)(hx:nA CX X E)
  (ha:PA X (e::es) t) (J:(x==("__debug__":Pj))=Zk:=by decide) (Z:Pb (e::es) X.env=(Zk,eval e X.env)::Pb es X.env:=by rfl) (z:(Qd pos<|Pb es X.env).any (·.1)=Zk:=by rfl):
  PE X (.Call (.Name x p) (e::es) [] pos)<|Jf sp dvs E t:=by
 intro pins s σ H Q I h;refine Qk<|Gm I hg hm ?_ J;refine QU (h₀:=X.base) I.ok.mod.WM hk (thn (ha pos pins s σ H _ I h) λus s1 zz=>?_) Z z;obtain⟨vs,H1,O,r,q⟩:=zz;refine#[O.UP,?_];exact KI F U hb hd hx O r q
theorem BL(he:PE X o ta)(c:gF X.K C)(hm:Meth X.K C m f)(F:aI X.prog X.w X.K X.mg X.base CX k f fd ps sp)(hr:aY k X.A)(hb:Binds X.K fd ps ds)(hd:Vals dvs ds)(hx:nA CX X E)(ha:PA X (e::es) t)
  (J:Pb (e::es) X.env=(Zk,eval e X.env)::Pb es X.env:=by rfl) (z:(Qd pos<|Pb es X.env).any (·.1)=Zk:=by rfl)
  (ht:eval (.Call (.Attribute o m apos) (e::es) [] pos) X.env=(do
   let ov <- eval o X.env
   Sh apos.atName
   let (f,first) <- holding [ov] (RW ov m pl)
   TN pos f first (Qd pos<|Pb (e::es) X.env) (Rn pos<|QA [] X.env)):=by rfl):
  PE X (.Call (.Attribute o m apos) (e::es) [] pos)<|Ij C m sp dvs E ta t:=by
 intro pins s σ H Q I h;refine R6 (pl:=pl) (thn (he pins s σ H _ I h) λu s1 O=>?_) ht;obtain⟨x,H1,U,rx,a,dx,fs,ex,ea,l,q⟩:=O;subst ex;obtain rfl:u=Value.ref a:=rx;refine lQ U ea c hm l ?_;refine QU (first:=[.ref a]) (h₀:=X.base) I.ok.mod.WM hm.kp (thn (ha pos pins s1 σ H1 _ U q) λus s2 O=>?_) J z;obtain⟨vs,H2,Z,r,q2⟩:=O;refine#[Z.UP,?_];exact KI (us:=.ref a::us) (vs:=.ref a::vs) F hr hb hd hx Z (.cons rfl r) q2
theorem yL(U:PE X o ta)(c:gF X.K C)(hm:Meth X.K C m f)(F:aI X.prog X.w X.K X.mg X.base CX k f fd ps sp)(O:aY k X.A)(Z:Binds X.K fd ps ds)(hd:Vals dvs ds)(hx:nA CX X E)
  (J:eval (.Call (.Attribute o m apos) [] [] pos) X.env=(do
   let ov <- eval o X.env
   Sh apos.atName
   let (f,first) <- holding [ov] (RW ov m pl)
   TN pos f first (Qd pos<|Pb [] X.env) (Rn pos<|QA [] X.env)):=by rfl):
  PE X (.Call (.Attribute o m apos) [] [] pos)<|Ij C m sp dvs E ta gR:=by
 intro pins s σ H Q I h;refine R6 (pl:=pl) (thn (U pins s σ H _ I h) λu s1 zz=>?_) J;obtain⟨x,H1,z,rx,a,dx,fs,ex,ea,l,q⟩:=zz;subst ex;obtain rfl:u=Value.ref a:=rx;refine lQ z ea c hm l ?_;exact PySem.W.callWith_K0 (first:=[.ref a]) z.UP hm.kp<|KI (us:=[.ref a]) (vs:=[.ref a]) F O Z hd hx z (.cons rfl .nil) q
structure Mk(K:W.Frag)(C f:OS):Prop where
 makes:Qs K C=Zj
 init:W.findIn K (.ref C) "__init__"=Zh (Zh<|.ref f)
 fn:SQ K (.ref f)=Zj
 kp:W.keepIn K (.ref C)=Zj
theorem yo{Q:VK}(M:Mk X.K C f)(F:aI X.prog X.w X.K X.mg X.base CX k f fd ps sp)(Z:aY (k+1) X.A)(hb:Binds X.K fd ps ds)(hd:Vals dvs ds)
  (hx:nA CX X E) (I:Inv X pins σ H s) (r:Vals vs us)
  (h:∀x dx,H x=Zi->H dx=Zi->dx≠x->sp (.ref x::(vs++dvs)) (upd (upd H dx<|.own x) x<|.ins C dx []) (λv H2=>v=.Uy/\Q (.ref x) H2) E):
  OZ (Pd X.prog X.w) X.A (call (.ref C) us) (EP X pins σ Q) X.xe s:=by
 have O:=h (s.heap.objs.size+1) s.heap.objs.size (I.Uz.fresh<|kR _) (I.Uz.fresh<|aN _)<|fQ<|Ba _;have J:=Inv.made (C:=C) I;have U:Vals (V.ref (s.heap.objs.size+1)::(vs++dvs))<|Value.ref (s.heap.objs.size+1)::(us++ds):=.cons rfl<|r.append hd;have hl:(Value.ref (s.heap.objs.size+1)::us++ds).length=ps.length:=by
  have e:=U.length;rw[F.len _ _ _ _ O] at e;exact e.symm
 refine Rz<|yW (f:=f) I.UP M.makes M.init (beq_iff_eq.mp M.fn)<|QZ (F.run _ X.stack _ _ #[Value.ref (s.heap.objs.size+1)::us,[]] (Value.ref (s.heap.objs.size+1)::(us++ds)) _ _ E (Z.make C us []) (J.Wl.make C us []) (hb _ (Value.ref (s.heap.objs.size+1)::us) J.UP hl) U O) λr s' z=>?_
 cases r with
 |error e=>exact hx pins σ _ _ e s' J z
 |ok fl=>
  cases fl with
  |ret u=>
   obtain⟨v,H',I3,rv,ev,q3⟩:=J.after z;subst ev;exact#[rv,#[V.ref<|s.heap.objs.size+1,H',I3,rfl,q3]]
  |next=>exact PD z
  |brk=>exact PD z
  |cont=>exact PD z
theorem uG(M:Mk X.K C f)(F:aI X.prog X.w X.K X.mg X.base CX k f fd ps sp)(U:aY (k+1) X.A)(hg:Gl X x)(hm:X.mg x=Zh (.ref C))(hb:Binds X.K fd ps ds)(hd:Vals dvs ds)(hx:nA CX X E)
  (ha:PA X (e::es) t) (J:(x==("__debug__":Pj))=Zk:=by decide) (Z:Pb (e::es) X.env=(Zk,eval e X.env)::Pb es X.env:=by rfl) (z:(Qd pos<|Pb es X.env).any (·.1)=Zk:=by rfl):
  PE X (.Call (.Name x p) (e::es) [] pos)<|Jg C sp dvs E t:=by
 intro pins s σ H Q I h;refine Qk<|Gm I hg hm ?_ J;refine QU (h₀:=X.base) I.ok.mod.WM M.kp (thn (ha pos pins s σ H _ I h) λus s1 zz=>?_) Z z;obtain⟨vs,H1,O,r,q⟩:=zz;refine#[O.UP,?_];exact yo M F U hb hd hx O r q
end
def PK(X:Cx)(kws:List Keyword)(t:TA):Prop:=
 ∀(pos:RC) (pins:List<|OS×Qf) (s:OU) (σ:St) (H:Hp) (Q:List V->Hp->Prop),Inv X pins σ H s->t σ H Q->OZ (Pd X.prog X.w) X.A (evalAll<|(Rn pos<|QA kws X.env).map (·.2)) (AP X pins σ Q) X.xe s
section
variable {f:OS}{fd:Qg}{ks:List Pj}{sp:Sp}{E:XK}{m:Pj}{p apos kpos:RC}{o:P1}{es:List P1}{kws:List Keyword}{ta:TE}{t tk:TA}{nm:Option Pj}
theorem E3:PK X [] gR:=λ_ _ _ _ H Q I h=>wpAny_evalAll_nil #[[],H,I,.nil,h]
theorem BI(ha:PE X e te)(U:PK X kws t):PK X (#[nm,e,kpos]::kws)<|lX te t:=by
 intro pos pins s σ H Q I h;show OZ _ _ (evalAll<|(do let v <- eval e X.env;Sh pos;pure v)::(Rn pos<|QA kws X.env).map (·.2)) _ _ s;refine wpAny_evalAll_cons<|OQ<|thn (ha pins s σ H _ I h) λu s1 z=>?_;obtain⟨x,H1,I1,Z,J⟩:=z;refine OQ<|QC<|OV ?_;refine thn (U pos pins s1 σ H1 _ I1 J) λus s2 z=>?_;obtain⟨xs,H2,I2,r2,O⟩:=z;exact#[x::xs,H2,I2,.cons Z r2,O]
variable {g:List OR->List OR->List OR}{gV:List V->List V->List V}
end
structure aA(N P:List Pj)(sc:Qq):Prop where
 kind:sc.kind=.function
 co:sc.isCoroutine=Zk
 gen:sc.isGenerator=Zk
 nd:N.Nodup
 pre:N.take P.length=P
 par:∀x∈P,sc.names.lookup x=Zh .local∨sc.names.lookup x=Zh .cell
 WW:∀y∈sc.names,y.2≠.free
theorem oN{z:Pj->Option QV}{x:Pj}:∀{binds:List<|Pj×OR} {m:Pj->Option OR},(∀v,(x,v)∉binds)->bindL z binds m x=m x
 |[],_,_=>rfl
 |(n,v)::r,m,h=>by
  unfold bindL;rw[oN λw hw=>h w<|bF _ hw];split
  .have:x≠n:=by rintro rfl;exact h v aZ
   simp[this]
  .rfl
theorem oP{z:Pj->Option QV}{x:Pj}:∀{binds:List<|Pj×OR} {m:Pj->Option OR},(∀v,(x,v)∉binds)->bindC z binds m x=m x
 |[],_,_=>rfl
 |(n,v)::r,m,h=>by
  unfold bindC;rw[oP λw hw=>h w<|bF _ hw];split
  .rfl
  .have:x≠n:=by rintro rfl;exact h v aZ
   simp[this]
theorem oO{z:Pj->Option QV}{x:Pj}{v:OR}:∀{P:List Pj} {vs:List OR} {i:Nat} {m:Pj->Option OR},P.Nodup->P[i]?=Zh x->vs[i]?=Zh v->z x=Zh .local->
  bindL z (P.zip vs) m x=Zh v
 |[],_,_,_,_,h,_,_=>by simp at h
 |_::_,[],_,_,_,_,h,_=>by simp at h
 |p::P,w::vs,0,m,nd,h1,h2,hk=>by
  simp at h1 h2;subst h1;subst h2;show bindL z ((p,w)::P.zip vs) m p=_;unfold bindL;rw[oN λv J=>(Ex.mp nd).1 (Rx J).1,Z9 hk];simp
 |p::P,w::vs,i+1,m,nd,h1,h2,hk=>by
  show bindL z ((p,w)::P.zip vs) m x=_;unfold bindL;exact oO (i:=i) (Ex.mp nd).2 (by simpa using h1) (by simpa using h2) hk
theorem oQ{z:Pj->Option QV}{x:Pj}{v:OR}:∀{P:List Pj} {vs:List OR} {i:Nat} {m:Pj->Option OR},P.Nodup->P[i]?=Zh x->vs[i]?=Zh v->z x≠Zh .local->
  bindC z (P.zip vs) m x=Zh v
 |[],_,_,_,_,h,_,_=>by simp at h
 |_::_,[],_,_,_,_,h,_=>by simp at h
 |p::P,w::vs,0,m,nd,h1,h2,hk=>by
  simp at h1 h2;subst h1;subst h2;show bindC z ((p,w)::P.zip vs) m p=_;unfold bindC;rw[oP λv J=>(Ex.mp nd).1 (Rx J).1,Z8 hk];simp
 |p::P,w::vs,i+1,m,nd,h1,h2,hk=>by
  show bindC z ((p,w)::P.zip vs) m x=_;unfold bindC;exact oQ (i:=i) (Ex.mp nd).2 (by simpa using h1) (by simpa using h2) hk
noncomputable def start(N:List Pj)(vs:List V):St:=vs.map Zh++Pp (N.length-vs.length) Zi
noncomputable def aX(CX:pf)(P:Pl)(w:PN)(K:W.Frag)(mg:Pj->Option OR)(base:PJ)(N:List Pj)(qual:Pj)(scope:Qq)(f:OS)(cd:OR)(A:Py)(outer:List RN)(s:OU)(H:Hp)(E:XK):Cx where
 prog:=P
 w:=w
 K:=K
 mg:=mg
 base:=base
 A:=A.deeper<|RP qual scope s.heap.objs.size f cd
 N:=N
 s₀:=s
 H₀:=H
 env:=RP qual scope s.heap.objs.size f cd
 outer:=outer
 stack:=RP qual scope s.heap.objs.size f cd::outer
 ex:=[]
 calm:=Zj
 fn:=λ_=>Zj
 pn:=[]
 xe:=λe s'=>OZ (Pd P w) (A.deeper<|RP qual scope s.heap.objs.size f cd) (leaving (RP qual scope s.heap.objs.size f cd) e) (λ_ s''=>CX outer H s E e s'') (λe' s''=>CX outer H s E e' s'') s'
theorem JO{sc:Qq}{n:Nat}(h:sc.names.lookup x=Zh .cell):∃c,(P0 n sc.names []).lookup x=Zh c:=by
 have q:=R0 sc.names n []<|.inl h;exact Option.isSome_iff_exists.mp q
theorem oB{f:OS}{cd:OR}{A:Py}{s1:OU}{E:XK}
  (S:aA N ps scope) (hd:A.handled=Zi) (J:p9 P w K mg base A outer s H) (hl:vs.length=ps.length) (r:Vals vs us)
  (x:InCallC s s.heap.objs.size (bindL (RP qual scope s.heap.objs.size f cd).kindOf (ps.zip us) λ_=>Zi) (P0 (s.heap.objs.size+1) scope.names []) (bindC (RP qual scope s.heap.objs.size f cd).kindOf (ps.zip us) λ_=>Zi) s1):
  Inv (aX CX P w K mg base N qual scope f cd A outer s H E) [] (start N vs) H s1:=by
 have ac:ps.length<=N.length:=by have:=congrArg PV S.pre;rw[iF] at this;lia
 obtain⟨h1,tk,rfl,hk⟩:=x.done;have U:∀b:OS,b∉(aX CX P w K mg base N qual scope f cd A outer s H E).ex:=λb z=>absurd (show b∈([]:List OS) from z) (by simp);refine#[#[J.mod,S.kind,rfl,rfl,aN _,λy z c h1 h2=>?_,λy O=>?_,λy c _ h=>?_,λ_=>hd,λv e=>(by have e2:A.handled=Zh v:=e;rw[hd] at e2;cases e2),Around.frames_deeper J.frames,.inr #[rfl,rfl],λb z=>absurd z<|U b,J.bs,J.V9,λb _ _=>U b,λb z=>absurd z<|U b,J.U0,J.Wk],rfl,J.bare,Un.kept hk,⟨_,x.toInCall.ns,λi y v h1 h2 h3=>?_⟩,λy c h=>#[_,x.cell y c h],J.Uz.fresh<|aN _,λy c h=>?_,λp Z=>absurd (show p∈([]:List<|OS×Qf) from Z) (by simp),J.Uz.kept hk,?_]
 .exact name_of_addr x.apart (PH h1) (PH h2)
 .have O:scope.names.lookup y=Zh .cell∨scope.names.lookup y=Zh .free:=O;rcases O with O|O
  .exact JO O
  .exact absurd rfl (S.WW _<|PH O)
 .exact Bb (x.above y c<|PH h)
 .have hi:i<vs.length:=by
   unfold start at h2;by_cases hi:i<vs.length
   .exact hi
   .rw [kE<|by simpa using hi] at h2;rw[List.getElem?_replicate] at h2;split at h2<;>cases h2
  have ha:vs[i]?=Zh v:=by
   unfold start at h2;rw[mB (by simpa using hi),eJ] at h2;cases e:vs[i]? with
   |none=>rw[e] at h2;cases h2
   |some a=>rw[e] at h2;cases h2;rfl
  obtain⟨u,hu,rv⟩:=r.get ha;have Z:ps[i]?=Zh y:=by
   rw[<- S.pre,GK<|∅];exact h1
  have aa:ps.Nodup:=by rw[<- S.pre];exact S.nd.sublist<|Ew _ _
  refine#[u,rv,?_];rcases S.par y (jD Z) with k|k
  .exact .inl #[k,oO aa Z hu k]
  .obtain ⟨c,e⟩:=JO (n:=s.heap.objs.size+1) k;refine .inr #[.inl k,c,e,?_];have q:=x.cell y c e;rw[oQ aa Z hu<|by show scope.names.lookup y≠_;rw[k];decide] at q;exact q
 .exact J.Uz.fresh (Bb<|x.above y c<|PH h)
 .unfold start;show _=N.length;rw[aQ,aM,vR];lia
theorem u7{f:OS}{name:Pj}{O:Q0}{dV kV ac pm z ct oc:OR}{an od:Option OS}
  {ae:Array<|Option OR} {sp:Sp} (lk:K.lookup f=Zh #[oc,od,.func<|W.fnOf name qual O body scope dV kV ac pm an z ct,ae]) (af:W.codeIn K z qual=Zj) (S:aA N ps scope)
  (len:∀vs H Q E,sp vs H Q E->vs.length=ps.length)
  (Z:∀(A:Py) (outer:List RN) (s:OU) (H:Hp) (vs:List V) (Q:VK) (E:XK),aY k (A.deeper<|RP qual scope s.heap.objs.size f z)->sp vs H Q E-> ∃t,kN (aX CX P w K mg base N qual scope f z A outer s H E) body t/\t { nx:=λ_ H'=>Q .Uy H',rt:=Q } (start N vs) H):
  aI P w K mg base CX (k+1) f (W.fnOf name qual O body scope dV kV ac pm an z ct) ps sp:=by
 refine#[len,λA outer s H args us vs Q E hr e0 hb r ad=>?_];have hl:=len _ _ _ _ ad;have KX:K.In s.heap:=e0.mod.WM.keeps λb o e=>(e0.bs b o e).1;have lim:s.heap.NoLimit:=e0.mod.nolimit.keeps λb o e=>(e0.bs b o e).1;have aa:∀y∈ps.zip us,scope.names.lookup y.1=Zh .local∨(scope.names.lookup y.1=Zh .cell/\((P0 (s.heap.objs.size+1) scope.names []).lookup y.1).isSome=Zj):=λ⟨n,v⟩ hy=>by
  rcases S.par n (Rx hy).1 with q|q
  .exact .inl q
  .exact .inr #[q,R0 _ _ _<|.inl q]
 refine codeAny_call_function hr.depth (KX _ _ lk) rfl S.co S.gen rfl (PySem.W.codeRec_of KX af)<|hb _ _ _ _ ?_;refine Uj S.kind aa λenv he s1 x=>?_;subst he;refine#[lim.keeps x.toInCall.keep,codeAny_func ?_];obtain⟨t,ht,hq⟩:=Z A outer s H vs Q E (hr.deeper _) ad;have I:Inv (aX CX P w K mg base N qual scope f z A outer s H E) [] (start N vs) H s1:=oB S hr.hd e0 hl r x;refine Pu (ht [] s1 (start N vs) H _ I hq) (λfl s' hs=>?_) λe s' hs=>hs;have fin:∀{U:St} {H':Hp} {v:V} {u:OR},Inv (aX CX P w K mg base N qual scope f z A outer s H E) [] U H' s'->RelV v u->Q v H'->CE outer P w H s Q u s':=
  fun {U H' v u} J rv q=>#[v,H',J.os,J.bare,J.base,J.Uz,rv,q]
 cases fl with
 |ret u=>
  obtain⟨v,U,H',J,rv,q⟩:=hs;exact fin J rv q
 |next=>
  obtain⟨U,H',J,q⟩:=hs;exact fin (v:=V.Uy) (u:=Value.none) J rfl q
 |brk=>
  obtain⟨_,_,_,q⟩:=hs;exact PD q
 |cont=>
  obtain⟨_,_,_,q⟩:=hs;exact PD q
section
variable {p:RC}{es:List P1}{t:TA}{id T:String}{r:List V->Hp->VK->Prop}
def Hw(r:List V->Hp->VK->Prop)(t:TA):TE:=λσ H Q=>t σ H λvs H1=>r vs H1 Q
theorem gE(hc:oV X (.builtin id) r)(hg:Gl X x)(hm:X.mg x=Zi)(U:Rl x=Zh (.builtin id))(ha:PA X (e::es) t)(hn:x≠"__name__":=by decide)(J:(x==("__debug__":Pj))=Zk:=by decide)
  (he:Pb (e::es) X.env=(Zk,eval e X.env)::Pb es X.env:=by rfl) (z:(Qd pos<|Pb es X.env).any (·.1)=Zk:=by rfl):PE X (.Call (.Name x p) (e::es) [] pos)<|Hw r t:=by
 intro pins s σ H Q I h;refine Qk<|D4 I hg hm U ?_ hn J;refine Sw (thn (ha pos pins s σ H _ I h) λus s1 zz=>?_) he z;obtain⟨vs,H1,I1,Z,O⟩:=zz;exact hc pins s1 σ H1 vs us Q I1 Z O
theorem vH(hc:oV X (.type T) r)(hg:Gl X x)(hm:X.mg x=Zi)(U:Rl x=Zh (.type T))(ha:PA X (e::es) t)(hn:x≠"__name__":=by decide)(J:(x==("__debug__":Pj))=Zk:=by decide)
  (he:Pb (e::es) X.env=(Zk,eval e X.env)::Pb es X.env:=by rfl) (z:(Qd pos<|Pb es X.env).any (·.1)=Zk:=by rfl):PE X (.Call (.Name x p) (e::es) [] pos)<|Hw r t:=by
 intro pins s σ H Q I h;refine Qk<|D4 I hg hm U ?_ hn J;refine Qi (thn (ha pos pins s σ H _ I h) λus s1 zz=>?_) he z;obtain⟨vs,H1,I1,Z,O⟩:=zz;exact hc pins s1 σ H1 vs us Q I1 Z O
end
end L2
namespace HT
open PySem PyProof.Rows
section
variable {prog:Pl}{w:PN}{A:Py}{E:OR->OU->Prop}{s:OU}
noncomputable def sIx(n d:Nat):Option Int->Nat
 |none=>d
 |some v=>if v<0 then(v+(n:Int)).toNat else min v.toNat n
theorem sIx_none(n d:Nat):sIx n d Zi=d:=rfl
theorem sIx_nat(n d k:Nat):sIx n d (Zh (k:Int))=min k n:=by
 show(if (k:Int)<0 then((k:Int)+(n:Int)).toNat else min (k:Int).toNat n)=min k n;rw[Z8<|∅,Int.toNat_natCast]
end
end HT
namespace L2
open PySem PySem.Spec PyProof.Rows
variable {x y:V}{σ:St}{r:R2}{s:OU}{its us:List OR}{H:Hp}{t':Nat}
noncomputable abbrev TO:=St->Hp->(Option Int->Hp->Prop)->Prop
def PO(X:Cx)(e:Option P1)(t:TO):Prop:=
 ∀(pins:List<|OS×Qf) (s:OU) (σ:St) (H:Hp) (Q:Option Int->Hp->Prop),Inv X pins σ H s->t σ H Q->
  OZ (Pd X.prog X.w) X.A (evalPart e X.env) (λu s'=>L2.X2 λo H'=>Inv X pins σ H' s'/\IsPart u o/\Q o H') X.xe s
def t7:TO:=λ_ H Q=>Q Zi H
def Dr(t:TE):TO:=λσ H Q=>t σ H λx H1=>wu x λi=>Q (Zh i) H1
theorem intsAre_of{ns:List Int}:∀{us:List OR},Vals (ns.map V.int) us->Uh us ns:=by
 induction ns with
 |nil=>intro us r;rw[List.map_nil] at r;cases r;exact .nil
 |cons n ns ih=>
  intro us r;rw[iK] at r;cases r with
  |cons r1 r2=>
   obtain⟨t,e⟩:=r1;subst e;exact .cons n t<|ih r2
section
variable {X:Cx}{e:P1}{te:TE}{lo hi:Option P1}{tl th:TO}{pos p2:RC}
theorem uD:PO X Zi t7:=by
 intro pins s σ H Q I h;rw[evalPart_none];exact OV #[Zi,H,I,.none,h]
theorem AN(h:PE X e te):PO X (Zh e)<|Dr te:=by
 intro pins s σ H Q I hw;rw[evalPart_some];refine thn (h pins s σ H _ I hw) λu s1 U=>?_;obtain⟨x,H1,O,J,z⟩:=U;obtain⟨i,rfl,q⟩:=Js z;obtain⟨t,rfl⟩:=J;exact#[Zh i,H1,O,.int i t,q]
def MX(X:Cx)(r:V->Option Int->Option Int->Hp->VK->Prop):Prop:=
 ∀(pins:List<|OS×Qf) (s:OU) (σ:St) (H:Hp) (x:V) (v vl vu:OR) (lo hi:Option Int) (sl:OS) (Q:VK),Inv X pins σ H s->RelV x v->s.heap.IsSliceOf sl vl vu .none->IsPart vl lo->IsPart vu hi->r x lo hi H Q->
  ∃T id,Ul (.type T) "__getitem__"=pure (Zh<|.builtin id)/\s.TypeIs v T/\OZ (Pd X.prog X.w) X.A (Ug v<|.ref sl) (EP X pins σ Q) X.xe s
def M6(r:V->Option Int->Option Int->Hp->VK->Prop)(te:TE)(tl th:TO):TE:=λσ H Q=>te σ H λx H1=>tl σ H1 λl H2=>th σ H2 λu H3=>r x l u H3 Q
theorem Ha{r:V->Option Int->Option Int->Hp->VK->Prop}(hr:MX X r)(he:PE X e te)(hl:PO X lo tl)(hu:PO X hi th):PE X (.Subscript e (.Slice lo hi Zi p2) pos)<|M6 r te tl th:=by
 intro pins s σ H Q I h;refine Subscript_<|thn (he pins s σ H _ I h) λv s1 J=>?_;obtain⟨x,H1,I1,r1,Z⟩:=J;refine wpAny_Slice<|thn (hl pins s1 σ H1 _ I1 Z) λO s2 J=>?_;obtain⟨l,H2,I2,pl,q2⟩:=J;refine thn (hu pins s2 σ H2 _ I2 q2) λU z J=>?_;obtain⟨u,H3,I3,pu,q3⟩:=J;rw[evalPart_none];refine OV ?_;have I4:Inv X pins σ H3 { z with heap:=z.heap.push { cls:=.type "slice",data:=.fields (List.toArray [O,U,.none]) } }:=I3.kept (t':=z.toks) λb ob q=>OT _ q;obtain⟨T,id,hT,ht,hg⟩:=hr pins { z with heap:=z.heap.push { cls:=.type "slice",data:=.fields (List.toArray [O,U,.none]) } } σ H3 x v O U l u z.heap.objs.size Q I4 r1 (Heap.IsSliceOf.new ..) pl pu q3;show OZ (Pd X.prog X.w) X.A (subscriptTail e (.Slice lo hi Zi p2) v<|.ref z.heap.objs.size) (EP X pins σ Q) X.xe { z with heap:=z.heap.push { cls:=.type "slice",data:=.fields (List.toArray [O,U,.none]) } };exact tail_any (ops:=[.ref z.heap.objs.size,v]) ht hT hg<|by with_unfolding_all rfl
noncomputable def dR(xs:List V)(lo hi:Option Int):List V:=(xs.drop<|HT.sIx xs.length 0 lo).take<|HT.sIx xs.length xs.length hi-HT.sIx xs.length 0 lo
theorem rJ(xs:List V)(lo hi:Option Int):(dR xs lo hi).length<=xs.length:=by
 unfold dR;rw[iF,gP];lia
end
noncomputable def za(n:Nat)(i:Int):Option Nat:=if 0<=i then(if i<n then Zh i.toNat else Zi) else if -(n:Int)<=i then Zh (i+n).toNat else Zi
noncomputable def mE{α:Type}(xs:List α)(i:Int):Option α:=(za xs.length i).bind λj=>xs[j]?
theorem uQ{n:Nat}{i:Int}{j:Nat}(h:za n i=Zh j):seqIndex? i n=Zh j/\j<n/\-(n:Int)<=i/\i<n:=by
 unfold za at h;by_cases h0:0<=i
 .rw [Z9 h0] at h;by_cases h1:i<n
  .rw [Z9 h1] at h;have e:i.toNat=j:=OX h;exact#[by rw[seqIndex_of h0 h1,e],∅,∅,h1]
  .rw [Z8 h1] at h;cases h
 .rw [Z8 h0] at h;by_cases h1:-(n:Int)<=i
  .rw [Z9 h1] at h;have e:(i+n).toNat=j:=OX h;exact#[by rw[seqIndex_neg ∅ h1,e],∅,h1,∅]
  .rw [Z8 h1] at h;cases h
theorem vv{α:Type}{xs:List α}{i:Int}{v:α}(h:mE xs i=Zh v):∃j,seqIndex? i xs.length=Zh j/\xs[j]?=Zh v/\j<xs.length/\-(xs.length:Int)<=i/\i<xs.length:=by
 unfold mE at h;cases e:za xs.length i with
 |none=>rw[e] at h;cases h
 |some j=>
  rw[e] at h;obtain⟨h1,h2,h3,z⟩:=uQ e;exact#[j,h1,h,h2,h3,z]
theorem CB{α:Type}{xs:List α}{j:Nat}{v:α}(h:xs[j]?=Zh v):mE xs (j:Int)=Zh v:=by
 have z:j<xs.length:=(jS.mp h).1;have e:za xs.length (j:Int)=Zh j:=by
  unfold za;rw[Z9<|∅,Z9<|∅];simp
 unfold mE;rw[e];exact h
def C1(b:P1):Prop:=∀o i,subscripted b Zk o i=operate [o,i] (Ug o i)
def C3(X:Cx)(r:R2):Prop:=
 ∀(value slice:P1) (pins:List<|OS×Qf) (s:OU) (σ:St) (H:Hp) (x y:V) (v u:OR) (Q:VK),Inv X pins σ H s->RelV x v->RelV y u->r x y H Q->
  subscripted slice Zk v u=operate [v,u] (Ug v u)->OZ (Pd X.prog X.w) X.A (subscriptTail value slice v u) (EP X pins σ Q) X.xe s
def M0(X:Cx)(id:String)(r:V->List V->Hp->VK->Prop):Prop:=
 ∀(pins:List<|OS×Qf) (s:OU) (σ:St) (H:Hp) (x:V) (xs:List V) (v:OR) (us:List OR) (Q:VK),Inv X pins σ H s->RelV x v->Vals xs us->r x xs H Q->
  OZ (Pd X.prog X.w) X.A (call (.builtin id)<|v::us) (EP X pins σ Q) X.xe s
section
variable {X:Cx}{a b:P1}{ta tb:TE}{pos:RC}
theorem C3.or{r':R2}(h:C3 X r)(h':C3 X r'):C3 X λx y H Q=>r x y H Q∨r' x y H Q:=by
 intro value z pins s σ H x y v u Q I U O q J;rcases q with q|q
 .exact h value z pins s σ H x y v u Q I U O q J
 .exact h' value z pins s σ H x y v u Q I U O q J
theorem dW(z:C3 X r)(ha:PE X a ta)(U:PE X b tb)(O:C1 b):PE X (.Subscript a b pos)<|Hq r ta tb:=by
 intro pins s σ H Q I h;exact Subscript_<|FR ha U I h λv u s2 x y H2 J rx Z q=>z a b pins s2 σ H2 x y v u Q J rx Z q<|O _ _
def EU(K:W.Frag):R2:=λx y H Q=>L2.X4 λp xs i v=>x=.ref p/\y=.int i/\aB K H p xs/\mE xs i=Zh v/\Q v H
def ET(K:W.Frag):R2:=λx y H Q=>L2.X4 λp xs i v=>x=.ref p/\y=.int i/\cH K H p xs/\mE xs i=Zh v/\Q v H
theorem B4:C3 X<|EU X.K:=by
 intro value O pins s σ H x y v u Q I rx ry h hs;obtain⟨p,xs,i,z,rfl,rfl,hq,he,q⟩:=h;cases rx;obtain⟨t,rfl⟩:=ry;obtain⟨its,r,pl,hz⟩:=I.list hq;obtain⟨j,h1,h2,h3,h4,h5⟩:=vv he;obtain⟨w,Z,J⟩:=r.get h2;have hl:=r.length;have hn:=Jq;have fin:EP X pins σ Q w s:=#[z,H,I,J,q]
 by_cases h0:0<=i
 .have U:i.toNat=j:=by
   rw[seqIndex_of h0 h5] at h1;exact OX h1
  exact item_listR pl.isList h0 ∅ (by rw[U];simpa using Z) fin hs
 .have U:(i+(its.toArray.size:Int)).toNat=j:=by
   rw[seqIndex_neg ∅ h4] at h1;rw[iJ,<- hl];exact OX h1
  exact subscriptTail_builtinR (x:=w) pl.isList.typeIs slot_list_getitem.lookup
   (wpAny_getItem_list_neg (Q:=λr s'=>r=w/\EP X pins σ Q r s') pl.isList ∅ (by rw[iJ]<;>lia) ∅ (by rw[U];simpa using Z) #[rfl,fin]) hs
theorem Ft:C3 X<|ET X.K:=by
 intro value O pins s σ H x y v u Q I rx ry h hs;obtain⟨p,xs,i,z,rfl,rfl,U,he,q⟩:=h;cases rx;obtain⟨t,rfl⟩:=ry;obtain⟨its,r,pl,hz⟩:=I.tuple U;obtain⟨j,h1,h2,h3,h4,h5⟩:=vv he;obtain⟨w,Z,J⟩:=r.get h2;have hl:=r.length;have hn:=Jq;have fin:EP X pins σ Q w s:=#[z,H,I,J,q]
 exact subscriptTail_builtinR (x:=w) pl.typeIs slot_tuple_getitem.lookup
  (getItem_tuple (j:=j) (Q:=λr s'=>r=w/\EP X pins σ Q r s') pl ∅ ∅ (by rw[iJ,<- hl];exact h1) (by simpa using Z) #[rfl,fin]) hs
theorem sQ(its:List OR)(n j:Nat)(u:OR):QJ (·.setIfInBounds j u) { cls:=.type "list",data:=.seq its.toArray n }={ cls:=.type "list",data:=.seq (its.set j u).toArray n }:=by
 simp[QJ]
theorem Inv.lst{pins:List<|OS×Qf}{σ:St}{H:Hp}{s:OU}{p:OS}{xs:List V}(I:Inv X pins σ H s)(h:H p=Zh (.lst xs)):
  ∃(its:List OR) (n:Nat),Vals xs its/\s.heap.get? p=Zh { cls:=.type "list",data:=.seq its.toArray n }/\xs.length<=sizeLine:=by
 obtain⟨z,its,n,r,e⟩:=I.Uz p _ h;exact#[its,n,r,e,z]
theorem Inv.W4{pins:List<|OS×Qf}{p:OS}{xs ys:List V}{its':List OR}{n z:Nat}{f:Qf->Qf}(I:Inv X pins σ H s)(h:H p=Zh (.lst xs))
  (U:s.heap.get? p=Zh { cls:=.type "list",data:=.seq its.toArray n }) (J:f { cls:=.type "list",data:=.seq its.toArray n }={ cls:=.type "list",data:=.seq its'.toArray z }) (r:Vals ys its') (O:ys.length<=sizeLine) (t:Nat):
  Inv X pins σ (upd H p<|.lst ys) { s with heap:=s.heap.update p f,toks:=t }:=by
 have e:(s.heap.update p f).get? p=Zh { cls:=.type "list",data:=.seq its'.toArray z }:=by
  rw[PQ f U (by rw[J]<;>rfl),J]
 refine I.write (x:=p) (e:=p) (by rw[h];trivial) (.inl rfl) (λb u Z q=>(Qe _ _<|Pe Z).trans q) ⟨_,e⟩ ?_;exact#[O,its',z,r,e]
inductive DC:V->V->V->Hp->(Hp->Prop)->Prop
 |mk {o_ i_ v_ Y L} (p xs k j:_):o_=.ref p->i_=.int k->Y p=Zh (.lst xs)->za xs.length k=Zh j->L (upd Y p<|.lst<|xs.set j v_)->DC o_ i_ v_ Y L
theorem Lu:IP X DC:=by
 intro pins s σ H o i v ov iv u Q I ro ri rv h;obtain⟨p,xs,k,j,rfl,rfl,O,hj,q⟩:=h;cases ro;obtain⟨t,rfl⟩:=ri;obtain⟨its,n,r,z,hz⟩:=I.lst O;obtain⟨h1,h2,h3,Z⟩:=uQ hj;have hl:=r.length;have hn:=Jq;have U:Inv X pins σ (upd H p<|.lst<|xs.set j v) { s with heap:=s.heap.update p<|QJ (·.setIfInBounds j u) }:=
  I.W4 O z (sQ its n j u) (r.set rv j) (by rw[GJ];exact hz) s.toks
 by_cases h0:0<=k
 .have J:k.toNat=j:=by
   rw[seqIndex_of h0 Z] at h1;exact OX h1
  exact PySem.W.ki_setAt z h0 ∅ (by rw[iJ,<- hl];exact Z)<|by rw[J];exact#[_,U,q]
 .have J:(k+(its.toArray.size:Int)).toNat=j:=by
   rw[seqIndex_neg ∅ h3] at h1;rw[iJ,<- hl];exact OX h1
  exact PySem.W.ki_setBack z ∅ (by rw[iJ,<- hl];exact h3) ∅<|by rw[J];exact#[_,U,q]
theorem pL(lo hi:Option Int)(n:Nat):(RI lo hi Zi n).1=((HT.sIx n 0 lo:Nat):Int)/\(RI lo hi Zi n).2.1=((HT.sIx n n hi:Nat):Int)/\(RI lo hi Zi n).2.2=1:=by
 refine#[?_,?_,rfl]
 .cases lo with
  |none=>simp[RI,HT.sIx]
  |some i=>
   simp only[RI,HT.sIx,Option.getD_none,show(1:Int)>0 by decide,if_true];by_cases h:i<0
   .simp only[h,if_true]<;>lia
   .simp only[h,if_false]<;>lia
 .cases hi with
  |none=>simp[RI,HT.sIx]
  |some i=>
   simp only[RI,HT.sIx,Option.getD_none,show(1:Int)>0 by decide,if_true];by_cases h:i<0
   .simp only[h,if_true]<;>lia
   .simp only[h,if_false]<;>lia
theorem mK(its:List OR)(lo hi:Option Int):slicePick its.toArray lo hi Zi=((its.drop<|HT.sIx its.length 0 lo).take<|HT.sIx its.length its.length hi-HT.sIx its.length 0 lo).toArray:=by
 obtain⟨h1,h2,h3⟩:=pL lo hi its.toArray.size;unfold slicePick;rw[h1,h2,h3];simp only[sliceRange_one,pick_run,iJ]<;>rfl
def ER(K:W.Frag):V->Option Int->Option Int->Hp->VK->Prop:=λx lo hi H Q=>L2.X2 λa xs=>x=.ref a/\aB K H a xs/\∀p,H p=Zi->Q (.ref p) (upd H p<|.lst<|dR xs lo hi)
theorem JL:MX X<|ER X.K:=by
 intro pins s σ H x v vl vu lo hi sl Q I rx Z pl O h;obtain⟨a,xs,rfl,hx,q⟩:=h;cases rx;obtain⟨its,r,J,U⟩:=I.list hx;have z:=r.length;refine#["list",_,slot_list_getitem.lookup,J.isList.typeIs,?_];refine wpAny_getItem_list_slice J.isList Z pl O .none (by simp) ?_ (by rw[iJ]<;>lia);rw[mK,<- z];refine#[.ref s.heap.objs.size,_,I.laid (t':=s.toks) (o:=.lst<|dR xs lo hi) (λb ob q=>OT _ q) (aN _) ?_,rfl,q _<|I.Uz.fresh<|aN _];exact#[dJ (rJ xs lo hi) U,_,0,(r.drop<|HT.sIx xs.length 0 lo).take<|HT.sIx xs.length xs.length hi-HT.sIx xs.length 0 lo,Pf _ rfl]
noncomputable def CG:V->Bool
 |.Uy=>Zj
 |.bl _=>Zj
 |.int _=>Zj
 |.str _=>Zj
 |_=>Zk
noncomputable def zJ:V->V->Bool
 |.Uy,.Uy=>Zj
 |.bl a,.bl b=>a==b
 |.bl a,.int b=>(if a then 1 else 0)==b
 |.int a,.bl b=>a==(if b then 1 else 0)
 |.int a,.int b=>a==b
 |.str a,.str b=>a==b
 |_,_=>Zk
theorem FL{A:Py}{u v:OR}(O:RelV y u)(z:RelV x v)(U:CG y=Zj)(J:CG x=Zj):SeqAt.EqAt A s u v<|zJ y x:=by
 cases y with
 |Uy=>
  cases O;cases x with
  |Uy=>cases z;exact SeqAt.EqAt.same _
  |bl b=>cases z;exact SeqAt.EqAt.none_bool b
  |int b=>obtain⟨t,rfl⟩:=z;exact SeqAt.EqAt.none_int b t
  |str b=>obtain⟨t,rfl⟩:=z;exact SeqAt.EqAt.none_str b t
  |_=>exact absurd (show Zk=Zj from J) kS
 |bl a=>
  cases O;cases x with
  |Uy=>cases z;exact SeqAt.EqAt.bool_none a
  |bl b=>cases z;exact SeqAt.EqAt.bool_bool a b
  |int b=>obtain⟨t,rfl⟩:=z;exact SeqAt.EqAt.bool_int a b t
  |str b=>obtain⟨t,rfl⟩:=z;exact SeqAt.EqAt.bool_str a b t
  |_=>exact absurd (show Zk=Zj from J) kS
 |int a=>
  obtain⟨t',rfl⟩:=O;cases x with
  |Uy=>cases z;exact SeqAt.EqAt.int_none a t'
  |bl b=>cases z;exact SeqAt.EqAt.int_bool a t' b
  |int b=>obtain⟨t,rfl⟩:=z;exact SeqAt.EqAt.int_int a t' b t
  |str b=>obtain⟨t,rfl⟩:=z;exact SeqAt.EqAt.int_str a t' b t
  |_=>exact absurd (show Zk=Zj from J) kS
 |str a=>
  obtain⟨t',rfl⟩:=O;cases x with
  |Uy=>cases z;exact SeqAt.EqAt.str_none a t'
  |bl b=>cases z;exact SeqAt.EqAt.str_bool a t' b
  |int b=>obtain⟨t,rfl⟩:=z;exact SeqAt.EqAt.str_int a t' b t
  |str b=>obtain⟨t,rfl⟩:=z;exact SeqAt.EqAt.str_str a t' b t
  |_=>exact absurd (show Zk=Zj from J) kS
 |_=>exact absurd (show Zk=Zj from U) kS
noncomputable def Cs(x:V)(u:OR):Bool:=match u with
 |.none=>zJ .Uy x
 |.bool b=>zJ (.bl b) x
 |.int i _=>zJ (.int i) x
 |.str z _=>zJ (.str z) x
 |_=>Zk
theorem zK{u:OR}(r:RelV y u)(f:CG y=Zj):Cs x u=zJ y x:=by
 cases y with
 |Uy=>cases r;rfl
 |bl b=>cases r;rfl
 |int i=>obtain⟨t,rfl⟩:=r;rfl
 |str z=>obtain⟨t,rfl⟩:=r;rfl
 |_=>exact absurd (show Zk=Zj from f) kS
theorem KN{x:V}:∀{xs:List V} {us:List OR},Vals xs us->xs.all CG=Zj->us.any (Cs x)=xs.any λy=>zJ y x
 |_,_,.nil,_=>rfl
 |y::xs,u::us,.cons r t,f=>by
  rw[List.all_cons,tK] at f;rw[GI,GI,zK r f.1,KN t f.2]
theorem Ll{A:Py}{s:OU}{x:V}{v:OR}(O:RelV x v)(J:CG x=Zj):∀{xs:List V} {us:List OR},Vals xs us->xs.all CG=Zj->∀u∈us,SeqAt.EqAt A s u v (Cs x u)
 |_,_,.nil,_=>λu z=>by cases z
 |y::xs,u::us,.cons r t,f=>λu' z=>by
  rw[List.all_cons,tK] at f;rcases bY.mp z with rfl|z
  .rw [zK r f.1];exact FL r O f.1 J
  .exact Ll O J t f.2 u' z
noncomputable def HU(x:V)(xs:List V):Bool:=xs.any λy=>zJ y x
def NC(K:W.Frag)(neg:Bool):R2:=λx y H Q=>L2.X2 λp xs=>y=.ref p/\(aB K H p xs∨cH K H p xs)/\CG x=Zj/\xs.all CG=Zj/\Q (.bl<|if neg then !HU x xs else HU x xs) H
theorem pS:jH X (Qz .NotIn)<|NC X.K Zj:=by
 intro pins s σ H x y v u Q I O Z h;obtain⟨p,xs,rfl,z,J,fs,q⟩:=h;cases Z;rcases z with z|z
 .obtain ⟨its,r,pl,U⟩:=I.list z;refine SeqAt.notIn_listAt (Cs x) pl.isList (λw hw=>Ll O J r fs w<|by simpa using hw) ⟨.bl _,H,I,rfl,?_⟩;rw[show its.toArray.any (Cs x)=its.any (Cs x) by simp,KN r fs];exact q
 .obtain ⟨its,r,pl,U⟩:=I.tuple z;refine SeqAt.notIn_tupleAt (Cs x) pl (λw hw=>Ll O J r fs w<|by simpa using hw) ⟨.bl _,H,I,rfl,?_⟩;rw[show its.toArray.any (Cs x)=its.any (Cs x) by simp,KN r fs];exact q
theorem oY:oV X (.builtin "len") λxs H Q=>L2.X2 λp ys=>xs=[.ref p]/\(aB X.K H p ys∨cH X.K H p ys)/\Q (.int ys.length) H:=by
 intro pins s σ H xs us Q I r h;obtain⟨p,ys,rfl,J,q⟩:=h;obtain⟨u,rfl,U⟩:=Ah r;cases U;have hn:=Jq;rcases J with J|J
 .obtain ⟨its,r',pl,O⟩:=I.list J;have z:=r'.length;exact Calls.call_len_list pl.isList (by simp only[iJ]<;>lia) #[.int ys.length,H,I.tok _,#[s.toks+1,by rw[iJ,z]],q]
 .obtain ⟨its,r',pl,O⟩:=I.tuple J;have z:=r'.length;exact len_tuple pl (by simp only[iJ]<;>lia) #[.int ys.length,H,I.tok _,#[s.toks+1,by rw[iJ,z]],q]
theorem L8:oV X (.type "list") λxs H Q=>L2.X2 λp ys=>xs=[.ref p]/\(aB X.K H p ys∨cH X.K H p ys)/\∀l,H l=Zi->Q (.ref l) (upd H l<|.lst ys):=by
 intro pins s σ H xs us Q I r h;obtain⟨p,ys,rfl,J,q⟩:=h;obtain⟨u,rfl,rx⟩:=Ah r;cases rx;have fin:∀(its:List OR),Vals ys its->ys.length<=sizeLine->∀(h':PJ) (c':Nat),(∀b o',s.heap.get? b=Zh o'->h'.get? b=Zh o')->
   h'.get? s.heap.objs.size=Zh { cls:=.type "list",dict:=Zi,data:=.seq its.toArray c',slots:=(List.toArray []) }->EP X pins σ Q (.ref s.heap.objs.size) { s with heap:=h' }:=λits r' O h' c' U e=>
  #[.ref s.heap.objs.size,_,I.laid (t':=s.toks) U (aN _) (show aW X.prog X.w _ h' _ (.lst ys) from#[O,its,c',r',e]),rfl,q _<|I.Uz.fresh<|aN _]
 rcases J with J|J
 .obtain ⟨its,r',pl,O⟩:=I.list J;have z:=r'.length;obtain⟨o,Z,hc,n,hd⟩:=pl.isList;exact call_list_seq p (.inl rfl) Z hc hd (λh' c' U e=>fin its r' O h' c' U e)<|by simp only[iJ]<;>lia
 .obtain ⟨its,r',pl,O⟩:=I.tuple J;have z:=r'.length;obtain⟨o,Z,hc,n,hd⟩:=pl;exact call_list_seq p (.inr rfl) Z hc hd (λh' c' U e=>fin its r' O h' c' U e)<|by simp only[iJ]<;>lia
def Hh(K:W.Frag)(T:String)(x:V)(H:Hp):Prop:=match x with
 |.str _=>T="str"
 |.int _=>T="int"
 |.ref p=>(T="list"/\∃xs,aB K H p xs)∨(T="tuple"/\∃o,K.lookup p=Zh o/\o.cls=.type "tuple"/\o.dict=Zi)∨
   (T="dict"/\((∃kvs,H p=Zh (.dK kvs))∨∃kvs,H p=Zh (.dT kvs)))∨(T="set"/\∃S n,H p=Zh (.set S n))
 |_=>False
theorem xw{pins:List<|OS×Qf}{T:String}{v:OR}(I:Inv X pins σ H s)(r:RelV x v)(ty:Hh X.K T x H):
  s.TypeIs v T/\∀a,v=.ref a->∃ob,s.heap.get? a=Zh ob/\ob.dict=Zi:=by
 cases x with
 |str z=>
  obtain⟨t,rfl⟩:=r;cases(show T="str" from ty);exact#[typeIs_str s z t,λ_ e=>nomatch e]
 |int i=>
  obtain⟨t,rfl⟩:=r;cases(show T="int" from ty);exact#[typeIs_int s i t,λ_ e=>nomatch e]
 |ref p=>
  cases r;rcases ty with ⟨rfl,xs,O⟩|⟨rfl,o,J,hc,hd⟩|⟨rfl,J⟩|⟨rfl,S,n,J⟩
  .obtain ⟨its,_,pl,_⟩:=I.list O;refine#[pl.isList.typeIs,λa e=>?_];cases e;obtain⟨o,n,e,c,hd,_⟩:=pl;exact#[o,e,hd]
  .refine #[#[o,I.UP p o J,hc],λa e=>?_];cases e;exact#[o,I.UP _ o J,hd]
  .have z:∃o,s.heap.get? p=Zh o/\o.ExactDict:=by
    rcases J with ⟨kvs,J⟩|⟨kvs,J⟩
    .obtain ⟨_,_,_,_,o,_,_,e,ex,_⟩:=I.Uz p _ J;exact#[o,e,ex]
    .obtain ⟨_,_,_,_,o,_,_,e,ex,_⟩:=I.Uz p _ J;exact#[o,e,ex]
   obtain⟨o,e,ex⟩:=z;refine#[#[o,e,ex.1],λa e2=>?_];cases e2;exact#[o,e,ex.2.1]
  .obtain ⟨o,_,_,_,e,ex,_⟩:=I.Uz p _ J;refine#[#[o,e,ex.1],λa e2=>?_];cases e2;exact#[o,e,ex.2.1]
 |_=>exact PD ty
def Hx(K:W.Frag)(T:String)(r:V->List V->Hp->VK->Prop)(to:TE):TE:=λσ H Q=>to σ H λx H1=>Hh K T x H1/\r x [] H1 Q
def M9(K:W.Frag)(T:String)(r:V->List V->Hp->VK->Prop)(to:TE)(t:TA):TE:=λσ H Q=>to σ H λx H1=>Hh K T x H1/\t σ H1 λxs H2=>r x xs H2 Q
variable {o e:P1}{es:List P1}{to:TE}{t:TA}{name:Pj}{apos cpos:RC}{T id:String}{r:V->List V->Hp->VK->Prop}
theorem Fd(pa:PlainAttrs T)(slot:Slot T name id)(O:typeOf (.builtin id)=pure (.type "method_descriptor"))(hm:M0 X id r)(ho:PE X o to)
  (J:RF o name X.env (eval o X.env)=eval o X.env:=by rfl) (z:(apos.endLine==cpos.line)=Zj:=by rfl):PE X (.Call (.Attribute o name apos) [] [] cpos)<|Hx X.K T r to:=by
 intro pins s σ H Q I h;refine wpAny_Call_method0_late J z<|thn (ho pins s σ H _ I h) λv s1 zz=>?_;obtain⟨x,H1,Z,U,ty,q1⟩:=zz;obtain⟨h1,h2⟩:=xw Z U ty;exact#[T,id,pa,slot,O,h1,h2,Calls.callWith_builtin rfl<|PySem.evalArgs_none<|hm pins s1 σ H1 x [] v [] Q Z U .nil q1]
theorem rV(pa:PlainAttrs T)(slot:Slot T name id)(Z:typeOf (.builtin id)=pure (.type "method_descriptor"))(hm:M0 X id r)(ho:PE X o to)(ha:PA X (e::es) t)
  (O:RF o name X.env (eval o X.env)=eval o X.env:=by rfl)
  (U:((Qd cpos<|Pb (e::es) X.env).all (λx=>!x.1)&&(Rn cpos<|QA [] X.env).all (λx=>x.1.isSome) &&decide ((e::es).length+([]:List Keyword).length+(if ([]:List Keyword).isEmpty then 0 else 1)<30))=Zj:=by rfl)
  (J:(apos.endLine==cpos.line)=Zj:=by rfl) (hs:Pb (e::es) X.env=(Zk,eval e X.env)::Pb es X.env:=by rfl) (z:(Qd cpos<|Pb es X.env).any (·.1)=Zk:=by rfl):
  PE X (.Call (.Attribute o name apos) (e::es) [] cpos)<|M9 X.K T r to t:=by
 intro pins s σ H Q I h;refine wpAny_Call_method_late O U J rfl<|thn (ho pins s σ H _ I h) λv s1 zz=>?_;obtain⟨x,H1,I1,r1,ty,q1⟩:=zz;obtain⟨h1,h2⟩:=xw I1 r1 ty;refine#[T,id,pa,slot,Z,h1,h2,?_];have hA:=ha cpos pins s1 σ H1 _ I1 q1;rw[hs] at hA⊢;refine Calls.callWith_builtin (by show(Zk||(Qd cpos<|Pb es X.env).any (·.1))=Zk;rw[z]<;>rfl)<|Calls.evalArgs_plain ?_;refine thn hA λus s2 zz=>?_;obtain⟨vs,H2,I2,r2,q2⟩:=zz;exact hm pins s2 σ H2 x vs v us Q I2 r1 r2 q2
end
def IT(X:Cx)(id:String)(r:V->List V->Hp->VK->Prop):Prop:=
 ∀(pins:List<|OS×Qf) (s:OU) (σ:St) (H:Hp) (x:V) (xs:List V) (v:OR) (us:List OR) (Q:VK),Inv X pins σ H s->RelV x v->Vals xs us->r x xs H Q->
  OZ (Pd X.prog X.w) X.A (call (.builtin id)<|v::us) (EP X pins σ Q) X.xe s
theorem Vals.one(r:Vals [x] us):∃u,us=[u]/\RelV x u:=Ah r
theorem Vals.two(r:Vals [x,y] us):∃u v,us=[u,v]/\RelV x u/\RelV y v:=DY r
theorem Vals.zero:∀{us:List OR},Vals [] us->us=[]
 |_,.nil=>rfl
theorem Vals.eraseIdx:∀{xs:List V} {us:List OR} (i:Nat),Vals xs us->Vals (xs.eraseIdx i) (us.eraseIdx i)
 |_,_,_,.nil=>.nil
 |_,_,0,.cons _ t=>t
 |_,_,i+1,.cons r t=>.cons r<|Vals.eraseIdx i t
theorem Vals.reverse{xs:List V}(h:Vals xs us):Vals xs.reverse us.reverse:=by
 induction h with
 |nil=>exact .nil
 |cons r t ih=>rw[GH,GH];exact Vals.append ih<|.cons r .nil
theorem nZ{α:Type}:∀(l:List α) (i:Nat),(l.eraseIdx i).length<=l.length
 |[],_=>aN _
 |_::_,0=>kR _
 |_::r,i+1=>Nat.succ_le_succ<|nZ r i
section
variable {X:Cx}{pins:List (OS×Qf)}{l b:OS}{xs ys zs:List V}
theorem Inv.Wi{its':List OR}{n:Nat}{f:Array OR->Array OR}(I:Inv X pins σ H s)(hH:H l=Zh (.lst xs))
  (e:s.heap.get? l=Zh { cls:=.type "list",data:=.seq its.toArray n }) (J:f its.toArray=its'.toArray) (O:Vals ys its') (z:ys.length<=sizeLine):
  Inv X pins σ (upd H l<|.lst ys) { s with heap:=s.heap.update l<|QJ f,toks:=t' }:=by
 have q:=PySem.IsL.update e f;rw[J] at q;refine I.write (x:=l) (e:=l) (by rw[hH];exact trivial) (.inl rfl) (λb' u Z U=>(Qe s.heap (QJ f)<|Pe Z).trans U) ⟨_,q⟩ ?_;exact#[z,its',_,O,q]
theorem Inv.XB(I:Inv X pins σ H s)(J:Vals ys its)(z:ys.length<=sizeLine):
  Inv X pins σ (upd H s.heap.objs.size<|.lst ys) { s with heap:=s.heap.push { cls:=.type "list",data:=.seq its.toArray },toks:=t' }:=
 I.laid (λ_ _ q=>OT _ q) (aN _) #[z,its,0,J,Pf _ rfl]
theorem Inv.fresh(I:Inv X pins σ H s):H s.heap.objs.size=Zi:=I.Uz.fresh<|aN _
theorem Inv.VL(I:Inv X pins σ H s)(J:H l=Zh (.lst xs)):xs.length<=sizeLine/\∃(its:List OR) (n:Nat),Vals xs its/\xs.length=its.length/\s.heap.get? l=Zh { cls:=.type "list",data:=.seq its.toArray n }:=by
 obtain⟨z,its,n,r,e⟩:=I.Uz l _ J;exact#[z,its,n,r,r.length,e]
theorem yS{n:Nat}(h:n<=sizeLine):So n=Zk:=by
 unfold So;exact decide_eq_false<|∅
end
section
variable {X:Cx}
inductive pR:V->List V->Hp->VK->Prop
 |mk (l xs y:_):x_=.ref l->R=[y]->Y l=Zh (.lst xs)->xs.length<sizeLine->L .Uy (upd Y l<|.lst<|xs++[y])->pR x_ R Y L
theorem Gs:IT X "list.append" pR:=by
 intro pins s σ H x vs v us Q I O rv h;obtain⟨l,xs,y,rfl,rfl,J,U,q⟩:=h;cases O;obtain⟨u,rfl,ru⟩:=rv.one;obtain⟨z,its,n,r,hl,e⟩:=I.VL J;refine Tz F.slot_list_append #[_,e,rfl] F.entry_list_append (F.args_list_append_2 _ _) (PySem.list_append l its.toArray n u<|by rw[iJ];lia) #[e,?_];refine#[.Uy,_,I.Wi (its':=its++[u]) J e (by simp) (r.append<|.cons ru .nil) ?_,rfl,q];rw[aQ,fM];lia
inductive uz:V->List V->Hp->VK->Prop
 |mk (l b xs zs:_):x_=.ref l->R=[.ref b]->Y l=Zh (.lst xs)->Y b=Zh (.lst zs)->xs.length+zs.length<=sizeLine->L .Uy (upd Y l<|.lst<|xs++zs)->uz x_ R Y L
theorem wA:IT X "list.extend" uz:=by
 intro pins s σ H x vs v us Q I rx rv h;obtain⟨l,b,xs,zs,rfl,rfl,U,Z,hz,q⟩:=h;cases rx;obtain⟨u,rfl,ru⟩:=rv.one;cases ru;obtain⟨z,its,n,r,hl,e⟩:=I.VL U;obtain⟨z2,J,n2,r2,aa,e2⟩:=I.VL Z;have hsz:its.toArray.size+J.toArray.size<=sizeLine:=by rw[iJ,iJ];lia
 have O:¬ (!its.toArray.isEmpty&&So (its.toArray.size+J.toArray.size))=Zj:=by
  rw[yS hsz,T4];exact kS
 refine Tz F.slot_list_extend #[_,e,rfl] F.entry_list_extend (F.args_list_extend_2 _ _)
  (AutoSeq1.list_extend_list_list_0 l its.toArray n b J.toArray n2 O (by rw[iJ];lia)<|∅) #[e,e2,?_]
 refine#[.Uy,_,I.Wi (its':=its++J) U e (by simp) (r.append r2) ?_,rfl,q];rw[aQ];lia
inductive yx:V->List V->Hp->VK->Prop
 |mk (l xs i k y:_):x_=.ref l->R=[.int i]->Y l=Zh (.lst xs)->-(2^63)<=i->i<2^63->seqIndex? i xs.length=Zh k->xs[k]?=Zh y->L y (upd Y l<|.lst<|xs.eraseIdx k)->yx x_ R Y L
theorem Lm:IT X "list.pop" yx:=by
 intro pins s σ H x vs v us Q I rx rv h;obtain⟨l,xs,i,k,y,rfl,rfl,O,h1,h2,Z,U,q⟩:=h;cases rx;obtain⟨u,rfl,ru⟩:=rv.one;obtain⟨t,rfl⟩:=ru;obtain⟨z,its,n,r,hl,e⟩:=I.VL O;obtain⟨w,hw,J⟩:=r.get U;refine Tz F.slot_list_pop #[_,e,rfl] F.entry_list_pop (F.args_list_pop_2 _ _)
  (MeetsSeq.list_pop_at l its.toArray n i t k w (fitsIndex_both h1 h2) (by rw[iJ,<- hl];exact Z) (by rw[<- Array.getElem?_toList];exact hw)<|by rw[iJ];lia) #[e,?_]
 refine#[y,_,I.Wi (its':=its.eraseIdx k) O e ?_ (r.eraseIdx k) ?_,J,q]
 .show its.toArray.eraseIdxIfInBounds k=(its.eraseIdx k).toArray;rw[List.eraseIdxIfInBounds_toArray]
 .have:=nZ xs k;lia
inductive qC:V->List V->Hp->VK->Prop
 |mk (l xs:_):x_=.ref l->R=[]->Y l=Zh (.lst xs)->L .Uy (upd Y l<|.lst xs.reverse)->qC x_ R Y L
theorem sO:IT X "list.reverse" qC:=by
 intro pins s σ H x vs v us Q I U rv h;obtain⟨l,xs,rfl,rfl,O,q⟩:=h;cases U;have J:=rv.zero;subst J;obtain⟨z,its,n,r,hl,e⟩:=I.VL O;refine Tz F.slot_list_reverse #[_,e,rfl] F.entry_list_reverse (F.args_list_reverse_1 _) (AutoSeq1.list_reverse_list_0 l its.toArray n<|by rw[iJ];lia) #[e,?_];refine#[.Uy,_,I.Wi (its':=its.reverse) O e (by simp) r.reverse ?_,rfl,q];rw[GG];lia
inductive HG:V->V->Hp->VK->Prop
 |mk (l b xs zs:_):x_=.ref l->y_=.ref b->Y l=Zh (.lst xs)->Y b=Zh (.lst zs)->xs.length+zs.length<=sizeLine->(∀p,Y p=Zi->L (.ref p) (upd Y p<|.lst<|xs++zs))->HG x_ y_ Y L
theorem AG:jH X (Rm .Add) HG:=by
 intro pins s σ H x y v u Q I rx Z h;obtain⟨l,b,xs,zs,rfl,rfl,O,U,hz,q⟩:=h;cases rx;cases Z;obtain⟨z,its,n,r,hl,e⟩:=I.VL O;obtain⟨z2,J,n2,r2,aa,e2⟩:=I.VL U;refine PySem.P.add_list e e2 ?_ (by rw[iJ,iJ];lia);have ea:its.toArray++J.toArray=(its++J).toArray:=by simp
 rw[ea];exact#[.ref _,_,I.XB (t':=s.toks) (r.append r2)<|by rw[aQ];lia,rfl,q _ I.fresh]
end
end L2
namespace Att
open PySem PySem.W PySem.Calls PyProof.Rows
theorem kJ{P:Params}{h:PJ}:∀(ns:List Int) (vs:List OR),WellAll P h vs (ns.map WData.int)->Uh vs ns:=by
 intro ns;induction ns with
 |nil=>
  intro vs w;rw[List.map_nil] at w;cases w;exact .nil
 |cons n ns ih=>
  intro vs w;rw[iK] at w;cases w with
  |cons a b=>
   cases a;exact .cons _ _<|ih _ b
theorem wc{l:OpenLaw}{n:Nat}(hn:l.most=Zh n){P:Params}{h:PJ}{args:List WData}{z:List OR}
  (J:l.row.toRowW.claim.pre args=Zj) (ac:WellAll P h z args):
  ∃a vs ns,z=[Value.ref a]/\args=[WData.list<|ns.map WData.int]/\h.get? a=Zh { cls:=.type "list",data:=.seq vs.toArray }/\Uh vs ns/\ns.length<=n:=by
 have aa:WShape.hasAll [] args [.list .int]=Zj:=(pre_splitW J).1;have hc:l.pre.holds [] { args:=args }=Zj:=(pre_splitW J).2;obtain⟨d,r,rfl,h1,h2⟩:=hasAllW_cons aa;obtain rfl:=hasAllW_nil h2;obtain⟨xs,rfl,h3⟩:=hasW_list h1;obtain⟨ns,rfl⟩:=items_int h3;have O:ns.length<=n:=by
  unfold OpenLaw.pre at hc;have U:(WTm.not<|.lt (.lit<|.int (n:Int))<|.len<|.arg 0).holds [] { args:=[.list<|ns.map .int] }=Zj:=by
   have U:=(holds_andW hc).1;rw[hn] at U;exact U
  have Z:=condW_of U<|w_not<|w_lt w_lit<|w_len_list<|w_arg rfl;rw[aM] at Z;refine Sa λq=>?_;have q':(n:Int)<((ns.length:Nat):Int):=∅
  first
   |(rw[decide_eq_true q'] at Z;exact absurd Z<|by decide)
   |(simp at Z;lia)
 cases ac with
 |cons w1 w2=>
  cases w2;cases w1 with
  |list ho hall=>exact#[_,_,ns,rfl,rfl,ho,kJ ns _ hall,O]
theorem wk(l:OpenLaw)(args:List WData):l.row.toRowW.claim.post args (.bool Zj) args=Zj:=
 postW_of (r:=l.row.toRowW) (X:=(Zj==Zj))
  (show WShape.has [] (.bool Zj) .bool=Zj by first|rfl|decide|simp[WShape.has,WShape.arms,WShape.armsAll])
  (show(WTm.eq .res<|.lit<|.bool Zj).value [] { args:=args,res:=Zh<|.bool Zj,after:=args }=Zh (.bool<|true==Zj) from w_eq_bool (w_res rfl) w_lit) rfl
theorem attach_call{l:OpenLaw}{n:Nat}{q:Pl}{loose:List Pj}{XP:(Pj->Option OR)->PJ->Prop}{YP:PN->PJ->Prop}{d:DefRec}
  (hn:l.most=Zh n) (ac:d.params.defaults=[])
  (call:∀(w:PN) (s₀ s₁:OU) (mg mb:Pj->Option OR) (Z:OS) (o:Qf) (pm cd z:OR) (a:OS) (vs:List OR) (ns:List Int),Ground q loose [] XP w s₀ mg mb s₁.heap->YP w s₁.heap-> s₁.heap.get? Z=Zh o->o.data=.func (docDef d.name d.params d.body d.scope pm cd z)->s₁.heap.CodeRec cd d.name->mg d.name=Zh (.ref Z)-> s₁.heap.get? a=Zh { cls:=.type "list",data:=.seq vs.toArray }->Uh vs ns->ns.length<=n->s₁.gens=(List.toArray [])-> Ra (Pd l.prog w) TM (.call (.ref Z) #[[.ref a],[]]) (λr s'=>r=.ok (.ret<|.bool Zj)/\OldK s₁.heap s'.heap/\s'.os=s₁.os/\Q1 s'.gens) s₁):
  WalkO q loose XP YP l.row.toRowW d [] λf vs=>PySem.call f vs:=by
 intro w s₀ s₁ mg mb G Y Z o pm cd z dV kV ho hd ad hD ae hg args ag as aa ah ai af aj;obtain rfl:dV=.none:=Dflts.none hD ac;obtain rfl:kV=.none:=Dflts.noKw hD;obtain⟨a,vs,ns,rfl,rfl,O,J,U⟩:=wc hn aa af;refine enter_call<|QZ (call w s₀ s₁ mg mb Z o pm cd z a vs ns G Y ho (fd_plain hd) ad ae O J U hg) λr s' hq=>?_;obtain⟨rfl,h2,h3,h4⟩:=hq;exact#[.inl #[.bool Zj,.bool Zj,[],rfl,λ_=>rfl,.bool Zj,wk l _,λ_=>#[List.Pairwise.nil,λ_ hm=>(nomatch hm)]],h2,h3,h4]
end Att
namespace L2
open PySem PySem.Spec PyProof.Rows
variable {f:OS}{qual x:Pj}{H H':Hp}
theorem J4:∀{vs:List OR} {ns:List Int},Uh vs ns->Vals (ns.map V.int) vs
 |_,_,.nil=>.nil
 |_,_,.cons n t h=>.cons #[t,rfl]<|J4 h
noncomputable def gW(s:PM)(j:Nat):PM:=match s with
 |.ClassDef _ _ _ body _ _ _ _ _ _ _=>body.getD j<|.Pass ⟨0,0,0,0⟩
 |_=>.Pass #[0,0,0,0]
noncomputable def oW(s:PM):Q0:=match s with
 |.FunctionDef _ a _ _ _ _ _ _ _ _=>a
 |_=>{ posonlyargs:=[],args:=[],vararg:=Zi,kwonlyargs:=[],kw_defaults:=[],kwarg:=Zi,defaults:=[] }
noncomputable def kn(s:PM):List PM:=match s with
 |.FunctionDef _ _ b _ _ _ _ _ _ _=>b
 |_=>[]
noncomputable def aR(s:PM):Qq:=match s with
 |.FunctionDef _ _ _ _ _ _ sc _ _ _=>sc
 |_=>{ kind:=.function,names:=[],isGenerator:=Zk,isCoroutine:=Zk }
noncomputable abbrev aP:pf:=λ_ _ _ _ _ _=>False
noncomputable abbrev E0:XK:=λ_ _ _=>False
theorem eX{X:Cx}:nA aP X E0:=λ_ _ _ _ _ _ _ h=>h.elim
structure aS(K:W.Frag)(x qual:Pj)(st:PM)(f:OS)(fd:Qg):Prop where
 ex:∃(oc:OR) (od:Option OS) (kV doc pm:OR) (an:Option OS) (cdv ct:OR) (osl:Array<|Option OR),
  fd=W.fnOf x qual (oW st) (kn st) (aR st) .none kV doc pm an cdv ct/\K.lookup f=Zh #[oc,od,.func fd,osl]/\W.codeIn K cdv qual=Zj
 kp:W.keepIn K (.ref f)=Zj
section
variable {P:Pl}{w:PN}{K:W.Frag}{mg:Pj->Option OR}{base:PJ}
theorem aS.ok{st:PM}{fd:Qg}{N ps:List Pj}{k:Nat}{sp:Sp}(F:aS K x qual st f fd)(S:aA N ps<|aR st)(len:∀vs H Q E,sp vs H Q E->vs.length=ps.length)
  (J:∀(z:OR) (A:Py) (outer:List RN) (s:OU) (H:Hp) (vs:List V) (Q:VK) (E:XK),aY k (A.deeper<|RP qual (aR st) s.heap.objs.size f z)->sp vs H Q E-> ∃t,kN (aX aP P w K mg base N qual (aR st) f z A outer s H E).UA (kn st) t/\t { nx:=λ_ H'=>Q .Uy H',rt:=Q } (start N vs) H):aI P w K mg base aP (k+1) f fd ps sp:=by
 obtain⟨oc,od,kV,aa,pm,an,z,ct,ac,rfl,lk,U⟩:=F.ex;refine u7 lk U S len λA outer s H vs Q E Z O=>?_;obtain⟨t,h,q⟩:=J z A outer s H vs Q E Z O;exact#[t,h.UA,q]
theorem aS.binds{st:PM}{fd:Qg}{ps:List Pj}(F:aS K x qual st f fd)
  (h:∀(kV J O:OR) (an:Option OS) (z ct:OR) (us:List OR),us.length=ps.length->Us (W.fnOf x qual (oW st) (kn st) (aR st) .none kV J O an z ct) #[us,[]]=pure (ps.zip us)):Binds K fd ps []:=by
 obtain⟨oc,od,kV,J,O,an,z,ct,U,rfl,lk,Z⟩:=F.ex;exact .all<|h kV J O an z ct
theorem J9{st:PM}{oc:OR}{od an:Option OS}{O:Array<|Option OR}{kV J U z ct:OR}(l:K.lookup f=Zh #[oc,od,.func<|W.fnOf x qual (oW st) (kn st) (aR st) .none kV J U an z ct,O])
  (c:W.codeIn K z qual=Zj) (k:W.keepIn K (.ref f)=Zj):aS K x qual st f<|W.fnOf x qual (oW st) (kn st) (aR st) .none kV J U an z ct:=#[#[oc,od,kV,J,U,an,z,ct,O,rfl,l,c],k]
end
theorem GU{A:Py}{k:Nat}(z:aY k A):A.units+1<Ua:=Q5 (Nat.add_le_add_left (by decide:1<=64) _) z.units
theorem vI{n:Nat}(h:n<=1000):n<sizeLine:=Q5 h<|by decide
section
variable {X:Cx}
theorem pv(i:Nat){pos:RC}(J:X.N[i]?=Zh x:=by rfl)(O:IK X.env.scope x:=by first|exact Or.inl rfl|exact Or.inr (Or.inl rfl)|exact Or.inr<|Or.inr rfl)(hd:(x==("__debug__":Pj))=Zk:=by decide)
  (z:(x==("__classdict__":Pj))=Zk:=by decide):PE X (.Name x pos)<|gQ i:=yI J O hd z
end
def aC(H H':Hp):Prop:=∀b o,H b=Zh o->H' b=Zh o
theorem aC.refl(H:Hp):aC H H:=λ_ _ h=>h
theorem aC.trans{H1 H2:Hp}(a:aC H H1)(b:aC H1 H2):aC H H2:=λc o h=>b c o<|a c o h
theorem aC.free(e:aC H H'){l:OS}(h:H' l=Option.none):H l=Option.none:=by
 cases q:H l with
 |none=>rfl
 |some o=>
  rw[e l o q] at h;cases h
theorem aC.seq{K:W.Frag}{a:OS}{xs:List V}(e:aC H H')(h:aB K H a xs):aB K H' a xs:=by
 rcases h with (h|⟨o,h⟩)|h
 .exact .inl (.inl<|e _ _ h)
 .exact .inl (.inr #[o,e _ _ h])
 .exact .inr h
end L2
set_option maxHeartbeats 4000000
namespace PySem
open Sem (wp)
section
variable {M:SI}{A:Py}{E:OR->OU->Prop}{s:OU}{env:RN}
def Gn(F:Option OS)(M:SI)(A:Py)(E:OR->OU->Prop)(use:Option<|OR->SH Unit)(Q:OR->OU->Prop)(acc:OR)(C:OS)(r:Result)(s':OU):Prop:=
 match r with
 |.ok f=>compPost M A E use Q acc C (.ok f) s'
 |.error x=>∃m,s'.heap.Ns C m/\∀h' m',h'.Ns C m'->Pr C s'.heap h'->∀c:RN,c.locals=C->c.frame=F->OZ M A (passOn "comprehension.variables-let-go" x c:SH OR) (λ_ _=>False) E { s' with heap:=h' }
theorem kK{e:P1}{scope:Qq}{pos:RC}{O first:SH OR}{g:Comprehension}{gs:List Comprehension}{cl:List<|Pj×OS}{use:Option<|OR->SH Unit}{Q:OR->OU->Prop}
  (aa:clausesOf e=g::gs) (hs:∀x,P7 g.iter env x=pure x) (Z:Ur scope env=pure cl) (J:scope.kind=.function) (U:∀x∈scope.names,x.2=.local->scope.names.lookup x.1=Zh .local)
  (h:OZ M A first (λx s1=>OZ M A (pyIter x) (λit s2=>OZ M A O (λacc s3=>OZ M A (Uo scope env.globals cl [] env.qual Zi .none<|some env) (λc s4=>c.frame=env.frame/\ Ra M A (.compStart e 0 it acc { c with scope:=relabel scope env }) (Gn env.frame M A E use Q acc c.locals) s4) E s3) E s2) E s1) E s):
  OZ M A (comprehension e scope env pos O Zk first use) Q E s:=by
 have keep:∀{α:Type} {t:SH α} {P P':α->OU->Prop} {s:OU},OZ M A t P E s->(∀a z,P a z->P' a z)->OZ M A t P' E s:=λx y=>Pu x y λ_ _ z=>z;unfold comprehension;rw[Z,aa];refine OQ<|keep h λx s1 h1=>?_;refine OQ<|QC<|OQ<|wpAny_of_eq (hs x) ?_;refine OQ<|PC<|keep h1 λit s2 h2=>?_;refine wpAny_standIf<|OQ<|keep h2 λacc s3 h3=>?_;refine OQ<|OV<|OQ<|keep h3 λc s4 h4=>?_;obtain⟨hf,h4⟩:=h4;dsimp only;have own:∀l:List<|Pj×QV,(∀x∈l,x∈scope.names)->∀x∈l,x.2=.local->Env.kindOf { c with scope:=relabel scope env } x.1=Zh .local:=λl hl x hx z=>lookup_relabel_local<|U x (hl x hx) z;refine PC<|OQ<|RE<|PC<|wpAny_run<|QZ h4 λr s5 h5=>?_
 match r,h5 with
 |.error x,h5=>
  obtain⟨m,hn,h6⟩:=h5;exact OQ<|PC<|T7 (cenv:={ c with scope:=relabel scope env }) J _ s5 m (own _ λy hy=>(Ey.mp<|GF.mp hy).1) hn λh' m' ac sb=>Pu (h6 h' m' ac sb _ rfl hf) (λ_ _ z=>z.elim) λ_ _ z=>z
 |.ok f,h5=>
  cases use with
  |none=>
   obtain⟨m,hn,h6⟩:=h5;exact OQ<|PC<|T7 (cenv:={ c with scope:=relabel scope env }) J _ s5 m (own _ λy hy=>(Ey.mp<|GF.mp hy).1) hn λh' _ _ sb=>OV<|h6 h' sb
  |some u=>
   refine OQ<|Tt<|OQ<|PC<|keep h5 λ_ s6 h6=>?_;obtain⟨m,hn,h7⟩:=h6;refine OQ<|T7 (cenv:={ c with scope:=relabel scope env }) J _ s6 m (own _ λy hy=>?_) hn λh' _ _ sb=>OV<|h7 h' sb;have:y∈(scope.names.filter λx=>(x.2==.local||x.2==.cell)&&x.1!=(".0":Pj)).reverse:=(gZ.mp hy).elim Eu Ru;exact(Ey.mp<|GF.mp this).1
end
end PySem
namespace L2
open PySem PySem.Spec PyProof.Rows
variable {base h h':PJ}{ta te tl tv:TE}{O U Z v v0 v1 v3 v5 v6 y:V}{tb:TS}{C Pt a b c dx p:OS}{J f f0 f1 f3 f5 iname iq qual x z:Pj}{outer:List RN}{cs xs:List V}{g:TG}{hi i j lo:Int}{Q:VK}{dv:List OR}{σ σ0:St}{fd:Qg}{js:List Nat}{env:RN}{K:W.Frag}{tt:TT}{H H' H1:Hp}{k tk:Nat}{isc scope:Qq}{pos:RC}{s:OU}{ip:Q0}{o:HO}{mg:Pj->Option OR}{N ps:List Pj}{ib:List PM}{cl:List (Pj×OS)}{sp:Sp}{fl:List (Pj×V)}{cd:OR}{D:Ends}{CX:pf}{ti:IL}{X:Cx}{P:Pl}{w:PN}
theorem natlt(h:a<b):@LT.lt Nat _ a b:=h
theorem vz{n:Nat}(h:a<n)(k:n<=b):a≠b:=fQ<|jI h k
theorem Hg:∀(names:List<|Pj×QV) (n:Nat) (acc:List<|Pj×OS),P0 n names acc=P0 n names []++acc
 |[]=>λ_ _=>rfl
 |(x,k)::r=>λn acc=>by
  unfold P0;split
  .rw [Hg r (n+1)<|(x,n)::acc,Hg r (n+1) [(x,n)],fL];rfl
  .exact Hg r n acc
theorem Mo:∀(names:List<|Pj×QV) (n:Nat) (acc:List<|Pj×OS) (y:Pj) (c:OS),(y,c)∈P0 n names acc->(y,c)∈acc∨((y,NameKind.cell)∈names/\n<=c)
 |[]=>λ_ _ _ _ h=>.inl h
 |(x,k)::r=>λn acc y c h=>by
  unfold P0 at h;split at h
  .rename_i hk;have z:k=.cell:=by simpa using hk
   rcases Mo r (n+1) _ y c h with h|⟨h,l⟩
   .rcases bY.mp h with e|h
    .cases e;subst z;exact .inr #[aZ,aN _]
    .exact .inl h
   .exact .inr #[bF _ h,Nat.le_of_succ_le l]
  .rcases Mo r n _ y c h with h|⟨h,l⟩
   .exact .inl h
   .exact .inr #[bF _ h,l]
noncomputable def aE(cells:List<|Pj×OS):List (Pj×QV)->List (Pj×OS)->List (Pj×OS)
 |[],acc=>acc
 |(x,k)::r,acc=>if k==.free then aE cells r ((x,(cells.lookup x).getD 0)::acc) else aE cells r acc
theorem J6{cells:List<|Pj×OS}:∀(names:List<|Pj×QV) (acc:List<|Pj×OS) (y:Pj) (c:OS),(y,c)∈aE cells names acc->(y,c)∈acc∨((y,NameKind.free)∈names/\c=(cells.lookup y).getD 0)
 |[]=>λ_ _ _ h=>.inl h
 |(x,k)::r=>λacc y c h=>by
  unfold aE at h;split at h
  .rename_i hk;have z:k=.free:=by simpa using hk
   rcases J6 r _ y c h with h|⟨h,l⟩
   .rcases bY.mp h with e|h
    .cases e;subst z;exact .inr #[aZ,rfl]
    .exact .inl h
   .exact .inr #[bF _ h,l]
  .rcases J6 r _ y c h with h|⟨h,l⟩
   .exact .inl h
   .exact .inr #[bF _ h,l]
theorem L9{cells:List<|Pj×OS}:∀(names:List<|Pj×QV) (acc:List<|Pj×OS) (p:Pj×OS),p∈acc->p∈aE cells names acc
 |[]=>λ_ _ h=>h
 |(x,k)::r=>λacc p h=>by
  unfold aE;split
  .exact L9 r _ p (bF _ h)
  .exact L9 r _ p h
theorem J5{cells:List<|Pj×OS}:∀(names:List<|Pj×QV) (acc:List<|Pj×OS) (y:Pj),(y,NameKind.free)∈names->(y,(cells.lookup y).getD 0)∈aE cells names acc
 |[]=>λ_ _ h=>nomatch h
 |(x,k)::r=>λacc y h=>by
  unfold aE;rcases bY.mp h with e|h
  .cases e;rw[Z9<|by rfl];exact L9 r _ _ aZ
  .split
   .exact J5 r _ y h
   .exact J5 r _ y h
theorem J7{α:Type}:∀{l:List<|Pj×α} {y:Pj} {c:α},(y,c)∈l->∃c',l.lookup y=Zh c'
 |(k,v)::r,y,c,h=>by
  rw[AZ];cases hb:y==k with
  |true=>exact#[v,rfl]
  |false=>
   rcases bY.mp h with e|h
   .cases e;rw[beq_self_eq_true] at hb;cases hb
   .exact J7 h
theorem Mp{env:RN}(f:Pj×QV->List (Pj×OS)->SH (ForInStep<|List<|Pj×OS))
  (z:∀name kind cs,f (name,kind) cs=if kind==.free then(do let a <- cellOf env name;pure (.yield<|(name,a)::cs)) else pure (.yield cs)):
  ∀(names:List<|Pj×QV) (acc:List<|Pj×OS),(∀x,(x,NameKind.free)∈names->∃c,env.cells.lookup x=Zh c)->forIn names acc f=(pure (aE env.cells names acc):SH<|List<|Pj×OS)
 |[],acc,_=>by rw[GD];rfl
 |(x,k)::r,acc,h=>by
  have O:∀x,(x,NameKind.free)∈r->∃c,env.cells.lookup x=Zh c:=λy U=>h y<|bF _ U;rw[List.forIn_cons,z];unfold aE;split
  .rename_i hk;have J:k=.free:=by simpa using hk
   subst J;obtain⟨c,hc⟩:=h x aZ;have e:cellOf env x=(pure c:SH OS):=by unfold cellOf;rw[hc]
   rw[e,hc];exact Mp f z r ((x,c)::acc) O
  .exact Mp f z r acc O
theorem hU(h:∀x,(x,NameKind.free)∈scope.names->∃c,env.cells.lookup x=Zh c):Ur scope env=pure (aE env.cells scope.names []):=by
 simp only[Ur];rw[Mp _ (λname kind cs=>by cases hk:kind==NameKind.free<;>simp[hk]) scope.names [] h];rfl
section
variable {M:SI}{A:Py}{E:OR->OU->Prop}
theorem qW{globals:OS}{Q:RN->OU->Prop}
  (z:Q { scope:=scope,locals:=s.heap.objs.size,globals:=globals,cells:=P0 (s.heap.objs.size+1) scope.names cl,qual:=qual,func:=Zi,code:=env.code,frame:=env.frame,builtins:=env.builtins } { s with heap:=pushCells (s.heap.push { cls:=.type "dict",data:=.dict (List.toArray []) }) scope.names }):
  OZ M A (Uo scope globals cl [] qual Zi .none<|some env) Q E s:=by
 simp only[Uo,Option.isSome_some,if_true];refine OQ<|wpAny_alloc ?_;refine OQ<|wpAny_layCells _ (λname kind cells=>by cases hkc:kind==NameKind.cell<;>simp[hkc]) _ _ _ _ ?_;rw[show({ s with heap:=s.heap.push { cls:=.type "dict",data:=.dict (List.toArray []) } }:OU).heap.objs.size=s.heap.objs.size+1 from QW ..];rw[GD];exact OQ<|OV<|OV z
end
theorem gC(x:Pj):(relabel scope env).names.lookup x=(scope.names.lookup x).map λk=>if (k==.free&&env.scope.kind==.function&&env.kindOf x==Zh .cell)=Zj then NameKind.cell else k:=by
 unfold relabel;dsimp only;generalize scope.names=names;induction names with
 |nil=>rfl
 |cons p r ih=>
  obtain⟨n,k⟩:=p;rw[iK,AZ (as:=r)];cases hx:x==n with
  |true=>
   have e:x=n:=beq_iff_eq.mp hx;subst e;by_cases hc:(k==NameKind.free&&env.scope.kind==.function&&env.kindOf x==Zh .cell)=Zj
   .simp only[hc,if_true,AZ,hx,Dk]
   .simp only[hc,Dj,if_false,AZ,hx,Dk]
  |false=>
   by_cases hc:(k==NameKind.free&&env.scope.kind==.function&&env.kindOf n==Zh .cell)=Zj
   .simp only[hc,if_true,AZ,hx];exact ih
   .simp only[hc,Dj,if_false,AZ,hx];exact ih
noncomputable def AQ(N:List Pj)(osc:Qq)(k:Nat)(js:List Nat)(N':List Pj)(sc:Qq):Bool:=
 decide (sc.kind=.function)&&decide (N'.length=k+js.length)&&decide N'.Nodup&&
 sc.names.all (λp=>decide (sc.names.lookup p.1=Zh p.2)&&(decide (p.2≠.free)||decide (osc.names.lookup p.1=Zh .cell)||decide (osc.names.lookup p.1=Zh .free)))&&
 (OW js.length).all (λi=>decide (js[i]?.bind (λj=>N[j]?)=N'[k+i]?)&&decide ((N'[k+i]?).bind (λy=>sc.names.lookup y)=Zh .free))
structure rS(N:List Pj)(osc:Qq)(k:Nat)(js:List Nat)(N':List Pj)(sc:Qq):Prop where
 kind:sc.kind=.function
 len:N'.length=k+js.length
 nd:N'.Nodup
 look:∀p∈sc.names,sc.names.lookup p.1=Zh p.2
 fr:∀y,(y,NameKind.free)∈sc.names->osc.names.lookup y=Zh .cell∨osc.names.lookup y=Zh .free
 js:∀i j,js[i]?=Zh j->∃y,N'[k+i]?=Zh y/\N[j]?=Zh y/\sc.names.lookup y=Zh .free
theorem vp{J:Qq}{N':List Pj}{sc:Qq}(h:AQ N J k js N' sc=Zj):rS N J k js N' sc:=by
 unfold AQ at h;simp only[tK,decide_eq_true_eq,List.all_eq_true,Bool.or_eq_true,qb] at h;obtain⟨⟨⟨⟨h1,h2⟩,h3⟩,O⟩,h5⟩:=h;refine#[h1,h2,h3,λp hp=>(O p hp).1,λy Z=>?_,λi j U=>?_]
 .rcases (O _ Z).2 with (z|z)|z
  .exact absurd rfl z
  .exact .inl z
  .exact .inr z
 .have hi:i<js.length:=(jS.mp U).1;obtain⟨a,b⟩:=h5 i hi;rw[U] at a;cases e:N'[k+i]? with
  |none=>rw[e] at b;cases b
  |some y=>
   rw[e] at a b;exact#[y,rfl,a,b]
noncomputable def D7(scope:Qq)(cl:List<|Pj×OS)(C:OS)(env:RN):RN:=
 { scope:=relabel scope env,locals:=C,globals:=env.globals,cells:=P0 (C+1) scope.names cl,qual:=env.qual,func:=Zi,code:=env.code,frame:=env.frame,builtins:=env.builtins }
noncomputable def gU(X:Cx)(N':List Pj)(scope:Qq)(C:OS)(fp:List OS)(s2:OU)(H2:Hp):Cx where
 prog:=X.prog
 w:=X.w
 K:=X.K
 mg:=X.mg
 base:=X.base
 A:=X.A
 N:=N'
 s₀:=s2
 H₀:=H2
 env:=D7 scope (aE X.env.cells scope.names []) C X.env
 outer:=X.stack
 stack:=X.stack
 ex:=fp
 fn:=λx=>decide<|scope.names.lookup x=Zh .cell
 calm:=X.calm
 pn:=X.pn
 xe:=λ_ _=>False
noncomputable def up(k:Nat)(js:List Nat)(σ:St):St:=Pp k Zi++js.map λj=>(σ[j]?).getD Zi
section
variable {pins:List (OS×Qf)}{s2:OU}{N':List Pj}{fp:List OS}
theorem zW(hc:rS X.N X.env.scope k js N' scope)(I:Inv X pins σ H s2)(ac:∀b∈fp,jQ X pins H b)(ah:∀b∈fp,b<s2.heap.objs.size){h3:PJ}(hz:h3.objs.size=s2.heap.objs.size+1)(aj:∀b o,s2.heap.get? b=Zh o->h3.get? b=Zh o):
  Inv (gU X N' scope (s2.heap.objs.size+1) fp s2 H) [] (up k js σ) H { s2 with heap:=pushCells (h3.push { cls:=.type "dict",data:=.dict (List.toArray []) }) scope.names }:=by
 have Z:∀y,(y,NameKind.free)∈scope.names->∃c,X.env.cells.lookup y=Zh c:=λy hy=>I.ok.has y<|hc.fr y hy;have ae:=cellsFrom_ok scope.names (h3.push { cls:=.type "dict",data:=.dict (List.toArray []) }) (s2.heap.objs.size+2) [] #[λ_ _ hm=>(nomatch hm),List.Pairwise.nil] (by rw[QW,hz];exact aN _);rw[QW,hz] at ae;have O:∀y c,(D7 scope (aE X.env.cells scope.names []) (s2.heap.objs.size+1) X.env).cells.lookup y=Zh c->
   ((y,c)∈P0 (s2.heap.objs.size+2) scope.names []/\(y,NameKind.cell)∈scope.names/\s2.heap.objs.size+2<=c)∨((y,NameKind.free)∈scope.names/\X.env.cells.lookup y=Zh c):=λy c e=>by
  have m:=PH e;change (y,c)∈P0 (s2.heap.objs.size+1+1) scope.names _ at m;rw[Hg] at m;rcases gZ.mp m with m|m
  .rcases Mo _ _ _ _ _ m with z|⟨z,l⟩
   .cases z
   .exact .inl #[m,z,l]
  .rcases J6 _ _ _ _ m with z|⟨z,l⟩
   .cases z
   .obtain ⟨c',e'⟩:=Z y z;rw[e'] at l;exact .inr #[z,by rw[e'];exact congrArg Zh l.symm]
 have af:∀y c,X.env.cells.lookup y=Zh c->c<s2.heap.objs.size:=λy c e=>by
  obtain⟨v,q⟩:=I.cell y c e;exact q.lt
 have U:∀y,(y,NameKind.free)∈scope.names->∀c,X.env.cells.lookup y=Zh c->(D7 scope (aE X.env.cells scope.names []) (s2.heap.objs.size+1) X.env).cells.lookup y=Zh c:=λy hy c e=>by
  have m:(y,c)∈P0 (s2.heap.objs.size+1+1) scope.names (aE X.env.cells scope.names []):=by
   rw[Hg];have q:=J5 (cells:=X.env.cells) scope.names [] y hy;rw[e] at q;exact fN _ q
  obtain⟨c',q⟩:=J7 m;rcases O y c' q with ⟨_,z,_⟩|⟨_,z⟩
  .have z1:=hc.look _ z;have z2:=hc.look _ hy;rw[z1] at z2;cases z2
  .rw [e] at z;cases z;exact q
 have J:∀b o,s2.heap.get? b=Zh o->(pushCells (h3.push { cls:=.type "dict",data:=.dict (List.toArray []) }) scope.names).get? b=Zh o:=λb o e=>SF _ _ b o<|OT _<|aj b o e;refine#[#[I.ok.mod,hc.kind,I.ok.glob,I.ok.blt,kR _,λy z c h1 h2=>?_,λy hy=>?_,λy c h1 h2=>?_,I.ok.hd,I.ok.qt,I.ok.frames,.inl rfl,λb hb=>#[?_,λy c e=>?_],I.bs,dJ I.ok.V9 I.sz,λb o e hb=>?_,λb hb hs=>?_,I.stack,I.VG],rfl,I.bare,Un.kept J,#[λ_=>Zi,?_,λi y v e1 e2 e3=>?_],λy c e=>?_,I.Uz.fresh<|kR _,λy c e=>?_,λp hp=>?_,I.Uz.kept J,?_]
 .
  rcases O y c h1 with ⟨a,_,l⟩|⟨_,a⟩<;>rcases O z c h2 with ⟨b,_,l'⟩|⟨_,b⟩
  .exact name_of_addr ae.apart a b
  .have:=natlt<|af z c b;lia
  .have:=natlt<|af y c a;lia
  .exact I.ok.inj y z c a b
 .
  have aa:(relabel scope X.env).names.lookup y=Zh .cell∨(relabel scope X.env).names.lookup y=Zh .free:=hy;rw[gC] at aa;have q:scope.names.lookup y=Zh .cell∨scope.names.lookup y=Zh .free:=by
   cases e:scope.names.lookup y with
   |none=>rw[e] at aa;rcases aa with z|z<;>cases z
   |some kk=>
    rw[e] at aa;cases kk<;>first|exact .inl rfl|exact .inr rfl|(rcases aa with z|z<;>simp at z)
  rcases q with q|q
  .obtain ⟨c,e⟩:=JO (n:=s2.heap.objs.size+1+1) q;have m:(y,c)∈P0 (s2.heap.objs.size+1+1) scope.names (aE X.env.cells scope.names []):=by
    rw[Hg];exact mC _<|PH e
   exact J7 m
  .have m:=PH q;obtain⟨c,e⟩:=Z y m;exact#[c,U y m c e]
 .
  have am:scope.names.lookup y=Zh .cell:=of_decide_eq_true h1;rcases O y c h2 with ⟨_,_,l⟩|⟨z,_⟩
  .show s2.heap.objs.size<=c;lia
  .have:=hc.look _ z;rw[am] at this;cases this
 .
  exact vz (ah b hb)<|kR _
 .rcases O y c e with ⟨_,_,l⟩|⟨_,z⟩
  .exact (vz (ah b hb)<|dJ (Et _ 2) l).symm
  .exact (ac b hb).2.2.2.2.1 y c z
 .
  rcases(ac b hb).2.2.2.1 with z|z
  .exact I.ok.VN b o e z
  .exact absurd (jI (Pa e)<|dJ I.ok.V9 z) (AA _)
 .
  rcases bY.mp (I.US b hs) with z|z
  .exact (ac b hb).2.1 z
  .exact (ac b hb).2.2.1 z
 .
  have q:=(Heap.Ns.new h3<|.type "dict").keeps<|SF scope.names _;rw[hz] at q;exact q
 .
  unfold up at e2;have ag:k<=i:=by
   by_cases hi:i<k
   .rw [mB (by simpa using hi),List.getElem?_replicate] at e2;rw[Z9 hi] at e2;cases e2
   .lia
  rw[kE (by simpa using ag),vR,eJ] at e2;cases ej:js[i-k]? with
  |none=>rw[ej] at e2;cases e2
  |some j=>
   rw[ej] at e2;have ad:(σ[j]?).getD Zi=Zh v:=OX e2;have e4:σ[j]?=Zh (Zh v):=by
    cases q:σ[j]? with
    |none=>rw[q] at ad;cases ad
    |some z=>rw[q] at ad;exact congrArg Zh ad
   obtain⟨y',n1,n2,n3⟩:=hc.js _ _ ej;rw[Nat.add_sub_cancel' ag] at n1;have n0:N'[i]?=Zh y:=e1;rw[n1] at n0;cases n0;have hm:=PH n3;have ai:IK X.env.scope y:=.inr<|hc.fr y hm;obtain⟨m,hn,hl⟩:=I.loc;obtain⟨u,r,l⟩:=hl j y v n2 e4 ai;refine#[u,r,?_];rcases l with ⟨kk,_⟩|⟨kk,c,ec,ic⟩
   .have ao:X.env.scope.names.lookup y=Zh .local:=kk;rcases hc.fr y hm with z|z<;>(rw[ao] at z;cases z)
   .refine .inr #[?_,c,U y hm c ec,ic.keeps J];show(relabel scope X.env).names.lookup y=Zh .cell∨(relabel scope X.env).names.lookup y=Zh .free;rw[gC,n3];simp only[Dk];split
    .exact .inl rfl
    .exact .inr rfl
 .
  rcases O y c e with ⟨a,_,_⟩|⟨_,a⟩
  .exact #[Zi,(ae.empty y c a).1]
  .obtain ⟨v,q⟩:=I.cell y c a;exact#[v,q.keeps J]
 .rcases O y c e with ⟨_,_,l⟩|⟨_,a⟩
  .exact I.Uz.fresh ∅
  .exact I.UE y c a
 .
  have q:=I.pin p<|mC _<|(gZ.mp hp).elim id λz=>nomatch z;exact#[J _ _ q.1,q.2.1,vz (Pa q.1)<|kR _,λz=>(bY.mp<|I.US _ z).elim q.2.2.1 q.2.2.2.1,q.2.2.2.2]
 .unfold up;show _=N'.length;rw[aQ,vR,aM,hc.len]
theorem zX{ag:St}{s':OU}{D:OS}{its:List OR}{n:Nat}{ys:List V}(I:Inv X pins σ H s2)(ad:∀b∈fp,jQ X pins H b)(hC:s2.heap.objs.size<=C)(hD:s2.heap.objs.size<=D)(af:D≠C)
  (Z:Inv (gU X N' scope C fp s2 H) [(D,{ cls:=.type "list",data:=.seq its.toArray n })] ag H' s') (hv:Vals ys its) (hz:ys.length<=sizeLine):
  H' D=Zi/\∀h',Pr C s'.heap h'->Inv X pins σ (upd H' D<|.lst ys) { s' with heap:=h' }:=by
 obtain⟨eD,nD,_,_,_⟩:=Z.pin (D,{ cls:=.type "list",data:=.seq its.toArray n })<|fN _ aZ;dsimp only at eD nD;have nC:H' C=Zi:=Z.free;refine#[nD,λh' hs=>?_];have O:∀b o,s2.heap.get? b=Zh o->b≠C:=λb o e=>vz (Pa e) hC;have ae:∀b o,s2.heap.get? b=Zh o->b≠D:=λb o e=>vz (Pa e) hD;have tr:∀b u,H' b=Zh u->b≠D:=λb u e z=>by rw[z,nD] at e;cases e
 have ac:∀b u,H' b=Zh u->b≠C:=λb u e z=>by rw[z,nC] at e;cases e
 have B:=Z.base;refine I.VD (s':={ s' with heap:=h' }) (ch:=fp) Z.os #[λb o e nn J hx=>?_,λb o e nn J hx=>?_,λb o e nn hx=>?_,λb o e hx=>?_,λb xs e=>?_,λb o u e=>?_,λb ps e=>?_] (λb u e=>?_) Z.bare λb J=>?_
 .exact (hs.2 b<|O b o e).trans (B.keep b o e nn J hx)
 .obtain ⟨sl,q⟩:=B.slot b o e nn J hx;exact#[sl,(hs.2 b<|O b o e).trans q]
 .rw [aO<|ae b o e];exact B.free b o e nn hx
 .obtain ⟨o',q⟩:=B.there b o e hx;exact#[o',(hs.2 b<|O b o e).trans q]
 .have q:=B.UN b xs e;rw[aO<|tr b _ q];exact q
 .have q:=B.UK b o u e;rw[aO<|tr b _ q];exact q
 .obtain ⟨aa,q⟩:=B.UJ b ps e;exact#[aa,by rw[aO<|tr b _ q];exact q]
 .by_cases J:b=D
  .subst J;rw[aU] at e;cases e;exact#[hz,its,n,hv,(hs.2 b af).trans eD]
  .rw [aO J] at e;refine(Z.Uz b u e).UR (λc v U q=>(hs.2 c ?_).trans q) (λc q=>by rw[aO<|tr c _ q];exact q) λc xs q=>by rw[aO<|tr c _ q];exact q
   rcases U with rfl|U
   .exact ac c _ e
   .exact ac c _ U
 .obtain ⟨_,f1,_,f3,f4,f5⟩:=ad b J;exact#[f3,f1,f4,f5]
end
section
variable {prog:Pl}{A:Py}{R:Result->OU->Prop}
theorem gD{elt z iter:P1}{ifs:List P1}{it acc:OR}(I:Nat->OU->Prop)
  (turn:∀n s,I n s->OZ (Pd prog w) A (Tx it) (λr s₁=>match r with
   |none=>R (.ok .next) s₁
   |some v=>OZ (Pd prog w) A (Q9 z it v) (λ_ J=>OZ (Pd prog w) A (assign z env v) (λ_ s₂=>OZ (Pd prog w) A (forIn ifs Zj λc r=>if r=Zj then do let ok <- isTrue c env (eval c env);pure (ForInStep.yield ok) else pure (ForInStep.yield r)) (λok O=>if ok=Zj then OZ (Pd prog w) A (eval elt env) (λx aa=>OZ (Pd prog w) A (call (.builtin "list.append") [acc,x]) (λ_ Z=>∃m,m<n/\I m Z) (Tf (Pd prog w) A env λe s'=>R (.error e) s') aa) (Tf (Pd prog w) A env λe s'=>R (.error e) s') O else ∃m,m<n/\I m O) (Tf (Pd prog w) A env λe s'=>R (.error e) s') s₂) (Tf (Pd prog w) A env λe s'=>R (.error e) s') J) (Tf (Pd prog w) A env λe s'=>R (.error e) s') s₁) (Tf (Pd prog w) A env λe s'=>R (.error e) s') s)
  (n:Nat) (h:I n s):
  Ra (Pd prog w) A (.compLoop (.ListComp elt [#[z,iter,ifs,0]] scope pos) 0 it acc env) R s:=by
 refine codeAny_loop rfl I (λn s hI=>?_) n h;show OZ _ A ((compTurn (.ListComp elt [#[z,iter,ifs,0]] scope pos) 0 it acc env).onRaise (λx=>do Rh x env;theTreesLotGoes x)) _ _ s;refine wpAny_noted ?_;rw[compTurn_list];refine OQ<|QC<|OQ<|Pu (turn n s hI) (λr s₁ ac=>?_) λ_ _ h'=>h';cases r with
 |none=>exact OV ac
 |some v=>
  refine OQ<|Pu ac (λ_ J ad=>?_) λ_ _ h'=>h';refine OQ<|Pu ad (λ_ s₂ af=>OQ<|Pu af (λok O U=>?_) λ_ _ h'=>h') λ_ _ h'=>h';cases ok with
  |false=>exact OV #[rfl,U]
  |true=>exact OQ<|OQ<|Pu U (λx aa ae=>OQ<|Pu ae (λ_ Z ag=>OV<|OV ⟨rfl,ag⟩) λ_ _ h'=>h') λ_ _ h'=>h'
end
def pY(X:Cx)(ifs:List P1)(t:TT):Prop:=
 ∀(pins:List<|OS×Qf) (s:OU) (σ:St) (H:Hp) (Q:Bool->Hp->Prop),Inv X pins σ H s->t σ H Q->
  OZ (Pd X.prog X.w) X.A (forIn ifs Zj λc r=>if r=Zj then do let ok <- isTrue c X.env (eval c X.env);pure (ForInStep.yield ok) else pure (ForInStep.yield r)) (TP X pins σ Q) X.xe s
def Bg:TT:=λ_ H Q=>Q Zj H
theorem vG:pY X [] Bg:=λ_ _ _ H _ I h=>wpAny_tests_nil #[H,I,h]
theorem qN{c:P1}{t:TT}(hc:PT X c t):pY X [c] t:=λpins s σ H Q I h=>wpAny_tests_one<|hc pins s σ H Q I h
def vC(k:Nat)(js:List Nat)(wi:TI)(g:TG)(tt:TT)(te:TE):TE:=λσ H Q=>wi σ H λJ H1=>∃W:Nat->Nat->List V->St->Hp->Prop,(∃m,W 0 m [] (up k js σ) H1)/\∀i m ys σ H,W i m ys σ H->
 (J.stop i H/\ys.length<=sizeLine/\∀p,H p=Zi->Q (.ref p) (upd H p<|.lst ys))∨
 (J.go i H/\ys.length<sizeLine/\∀x H',J.VP i H x H'->g x σ H' λσ2 H2=>tt σ2 H2 λb H3=>if b=Zj then te σ2 H3 λy H4=>∃m',m'<m/\W (i+1) m' (ys++[y]) σ2 H4 else ∃m',m'<m/\W (i+1) m' ys σ2 H3)
section
variable {N':List Pj}{tg iter elt:P1}{ifs:List P1}{wi:TI}
theorem lU{use:Option<|OR->SH Unit}{Q':OR->OU->Prop}(bf:X.calm=X.calm)(hc:rS X.N X.env.scope k js N' scope)(hi:PI X tg iter wi)
  (hg:∀C fp s2 H2,PG (gU X N' scope C fp s2 H2) tg g) (ht:∀C fp s2 H2,pY (gU X N' scope C fp s2 H2) ifs tt) (he:∀(s2:OU) (pins:List<|OS×Qf) (σ:St) (H2:Hp) (fp:List OS),Inv X pins σ H2 s2->(∀b∈fp,jQ X pins H2 b)->PE ((gU X N' scope (s2.heap.objs.size+1) fp s2 H2).UH<|Tf (Pd X.prog X.w) X.A (D7 scope (aE X.env.cells scope.names []) (s2.heap.objs.size+1) X.env) λe s'=>Gn X.env.frame (Pd X.prog X.w) X.A X.xe use Q' (.ref s2.heap.objs.size) (s2.heap.objs.size+1) (.error e) s') elt te)
  {pins:List<|OS×Qf} (I:Inv X pins σ H s) (h:vC k js wi g tt te σ H Q)
  (fin:∀(C D:OS) (s':OU) (m:Pj->Option OR) (H':Hp) (ys:List V),s'.heap.Ns C m->C≠X.env.locals->C∉X.fs->D≠C->H' C=Zi->X.s₀.heap.objs.size<=C->(∀x c,X.env.cells.lookup x=Zh c->c≠C)->(∀p∈X.pn++pins,p.1≠C)->(∀h',Pr C s'.heap h'->Inv X pins σ (upd H' D<|.lst ys) { s' with heap:=h' })->Q (.ref D) (upd H' D<|.lst ys)-> Gn X.env.frame (Pd X.prog X.w) X.A X.xe use Q' (.ref D) C (.ok .next) s')
  (hs:∀x,P7 iter X.env x=pure x) (p':RC):
  OZ (Pd X.prog X.w) X.A (comprehension (.ListComp elt [#[tg,iter,ifs,0]] scope pos) scope X.env p' (newList []) Zk (eval iter X.env) use) Q' X.xe s:=by
 have aw:Ur scope X.env=pure (aE X.env.cells scope.names []):=hU λy hy=>I.ok.has y<|hc.fr y hy;refine kK (g:=#[tg,iter,ifs,0]) (gs:=[]) rfl hs aw hc.kind (λx hx hl=>by rw[hc.look x hx,hl]) ?_;refine thn (hi pins s σ H _ I h) λv s1 h1=>thn h1 λbt s2 h2=>?_;obtain⟨it,fp,tn,J,H2,e,I2,T,au,f2,W,⟨m0,w0⟩,turn⟩:=h2;subst e;have av:∀b∈fp,b<s2.heap.objs.size:=λb Z=>by
  obtain⟨o,e,_⟩:=T.obj _ _ au b Z;exact Pa e
 refine TJ<|qW ?_;have b0:(s2.heap.push { cls:=.type "list",dict:=Zi,data:=.seq ([]:List OR).toArray }).objs.size=s2.heap.objs.size+1:=QW ..;have I3:=zW (h3:=s2.heap.push { cls:=.type "list",dict:=Zi,data:=.seq ([]:List OR).toArray }) hc I2 f2 av b0 λb o e=>OT _ e;refine#[rfl,?_];dsimp only;rw[b0];generalize XN:({ s2 with heap:=pushCells ((s2.heap.push { cls:=.type "list",dict:=Zi,data:=.seq ([]:List OR).toArray }).push { cls:=.type "dict",data:=.dict (List.toArray []) }) scope.names }:OU)=s4 at I3⊢;have ac:∀b o,s2.heap.get? b=Zh o->s4.heap.get? b=Zh o:=λb o e=>by
  rw[<- XN];exact SF _ _ b o<|OT _<|OT _ e
 have az:s4.heap.get? s2.heap.objs.size=Zh { cls:=.type "list",data:=.seq ([]:List OR).toArray 0 }:=by
  rw[<- XN];exact SF _ _ _ _<|OT _<|Pf _ rfl
 generalize VM:gU X N' scope (s2.heap.objs.size+1) fp s2 H2=X' at I3;have af:X'.env.locals=s2.heap.objs.size+1:=by rw[<- VM];rfl
 have ai:X'.fs=frs X.stack:=by rw[<- VM];rfl
 have aq:∀a,s2.heap.objs.size<=a->a∉frs X.stack:=λa ha Z=>by
  rcases bY.mp (I2.US a Z) with z|z
  .exact absurd z.symm (vz I2.lt ha)
  .exact I2.WC ha z
 have ap:∀x c,X'.env.cells.lookup x=Zh c->c≠s2.heap.objs.size:=λx c e z=>by
  obtain⟨v,o,ho,hd⟩:=I3.cell x c e;rw[z,az] at ho;cases ho;cases hd
 have ao:∀{O:St} {H':Hp} {s':OU} {its:List OR} {n:Nat},Inv X' [] O H' s'->s'.heap.get? s2.heap.objs.size=Zh { cls:=.type "list",data:=.seq its.toArray n }->H' s2.heap.objs.size=Zi->
   Inv X' [(s2.heap.objs.size,{ cls:=.type "list",data:=.seq its.toArray n })] O H' s':=fun {O H' s' its n} J e nn=>J.UW λp hp=>by
  have e':p=(s2.heap.objs.size,{ cls:=.type "list",data:=.seq its.toArray n }):=by simpa using hp
  subst e';refine#[e,nn,?_,?_,λv z=>nomatch z]
  .rw [af];exact fQ<|Ba _
  .rw [ai];exact aq _<|aN _
 have I4:=ao I3 az<|I2.Uz.fresh<|aN _;have ad:∀{H':Hp} {o:Qf},(∀b∈fp,H' b=Zi)->∀b∈fp,jQ X' [(s2.heap.objs.size,o)] H' b:=fun {H' o} hn b Z=>by
  have b2:=av b Z;refine#[hn b Z,?_,?_,.inl (by rw[<- VM];exact Z),λx c e z=>?_,λp hp z=>?_]
  .rw [af];exact vz b2<|kR _
  .rw [ai];intro z;rcases bY.mp (I2.US b z) with q|q
   .exact (f2 b Z).2.1 q
   .exact (f2 b Z).2.2.1 q
  .have q:=I3.ok.Xp b (by rw[<- VM];exact Z);exact q.2 x c e z
  .rcases gZ.mp hp with hp|hp
   .exact (f2 b Z).2.2.2.2.2 p (mC _<|by rw[<- VM] at hp;exact hp) z
   have e':p=(s2.heap.objs.size,o):=by simpa using hp
   subst e';exact absurd b2<|by rw[<- z];exact AA _
 have b9:∀{O:St} {H':Hp} {s':OU} {its:List OR} {n:Nat} {ys:List V},Inv X' [(s2.heap.objs.size,{ cls:=.type "list",data:=.seq its.toArray n })] O H' s'->Vals ys its->ys.length<=sizeLine->(∀p,H' p=Zi->Q (.ref p) (upd H' p<|.lst ys))->
   Gn X.env.frame (Pd X.prog X.w) X.A X.xe use Q' (.ref s2.heap.objs.size) (s2.heap.objs.size+1) (.ok .next) s':=fun {O H' s' its n ys} J hv hz hq=>by
  obtain⟨m,hn,_⟩:=id J.loc;rw[af] at hn;have nC:H' (s2.heap.objs.size+1)=Zi:=by rw[<- af];exact J.free
  have J':Inv (gU X N' scope (s2.heap.objs.size+1) fp s2 H2) [(s2.heap.objs.size,{ cls:=.type "list",data:=.seq its.toArray n })] O H' s':=by rw[VM];exact J
  obtain⟨nD,E⟩:=zX I2 f2 (kR _) (aN _) (fQ<|Ba _) J' hv hz;refine fin _ _ s' m H' ys hn ?_ (I2.WC<|kR _) (fQ<|Ba _) nC (dJ I2.sz<|kR _) (λx c e z=>?_) (λp hp z=>?_) E<|hq _ nD
  .exact (vz I2.lt<|kR _).symm
  .obtain ⟨v,q⟩:=I2.cell x c e;exact absurd z<|vz q.lt<|kR _
  .exact absurd z (vz (Pa (I2.pin p hp).1)<|kR _)
 have U:X'.prog=X.prog:=by rw[<- VM];rfl
 have hw:X'.w=X.w:=by rw[<- VM];rfl
 have hK:X'.K=X.K:=by rw[<- VM];rfl
 have aa:X'.calm=X.calm:=by rw[<- VM];rfl
 have hA:X'.A=X.A:=by rw[<- VM];rfl
 have aj:D7 scope (aE X.env.cells scope.names []) (s2.heap.objs.size+1) X.env=X'.env:=by rw[<- VM];rfl
 have b4:=hg (s2.heap.objs.size+1) fp s2 H2;have b1:=ht (s2.heap.objs.size+1) fp s2 H2;have b5:=he s2 _ _ H2 fp I2 f2;rw[VM,aj] at b5;rw[VM] at b4 b1;have ax:∀e s',X'.xe e s'->False:=λe s' z=>by rw[<- VM] at z;exact z
 have bp:∀p∈X'.pn,p.1≠s2.heap.objs.size:=λp hp=>vz (Pa (I2.pin p<|mC _<|by rw[<- VM] at hp;exact hp).1)<|aN _;have bh:X'.s₀.heap.objs.size=s2.heap.objs.size:=by rw[<- VM];rfl
 have am:Ra (Pd X.prog X.w) X.A (.compLoop (.ListComp elt [#[tg,iter,ifs,0]] scope pos) 0 (.ref it) (.ref s2.heap.objs.size) X'.env) (Gn X.env.frame (Pd X.prog X.w) X.A X.xe use Q' (.ref s2.heap.objs.size)<|s2.heap.objs.size+1) s4:=by
  refine gD (λn s'=>L2.X6 λi O H' its nn ys=>Inv X' [(s2.heap.objs.size,{ cls:=.type "list",data:=.seq its.toArray nn })] O H' s'/\tn i s'.heap/\(∀b∈fp,H' b=Zi)/\Vals ys its/\W i n ys O H') ?_ m0
   #[0,_,H2,[],0,[],I4,T.keep _ _ _ au λb _ o e=>ac b o e,λb Z=>(f2 b Z).1,.nil,w0]
  rintro n s5 ⟨i,ah,H5,its,nn,ys,I5,b8,b6,hv,w5⟩;rcases turn i n ys ah H5 w5 with ⟨stop,hz,hq⟩|⟨go,hz,step⟩
  .have d:=T.done X' U hw hK aa i _ s5 ah H5 (λ_ _=>False) I5 (ad b6) b8 stop;rw[hA] at d;refine Pu d (λr s6 zz=>?_) λ_ _ z=>z.elim;obtain⟨hr,I6⟩:=zz;subst hr;exact b9 I6 hv hz hq
  .have d:=T.item X' U hw hK aa i _ s5 ah H5 (λ_ _=>False) I5 (ad b6) b8 go;rw[hA] at d;refine Pu d (λr s6 zz=>?_) λ_ _ z=>z.elim;obtain⟨u,hr,h6⟩:=zz;subst hr;refine Pu h6 (λ_ s7 zz=>?_) λ_ _ z=>z.elim;obtain⟨x,H7,I7,r7,y7,as,bj⟩:=zz;have bq:=I7.pinned (ad bj)<|T.obj _ _ as;have a1:=b4 _ s7 ah H7 x u _ bq r7<|step x H7 y7;rw[U,hw,hA] at a1;refine Pu a1 (λ_ s8 zz=>?_) λ_ _ z=>(ax _ _ z).elim;obtain⟨ae,H8,I8,q8⟩:=zz;have a2:=b1 _ s8 ae H8 _ I8 q8;rw[U,hw,hA] at a2;refine Pu a2 (λok s9 zz=>?_) λ_ _ z=>(ax _ _ z).elim;obtain⟨H9,I9,q9⟩:=zz;have back:∀{O:St} {H':Hp} {s':OU},Inv X' ([(s2.heap.objs.size,({ cls:=.type "list",data:=.seq its.toArray nn }:Qf))]++Ik fp s7.heap) O H' s'->tn (i+1) s'.heap/\(∀b∈fp,H' b=Zi):=fun {O H' s'} J=>by
    refine#[T.keep _ _ _ as λb Z o e=>(J.pin (b,o)<|fN _<|fN _<|JZ Z e).1,λb Z=>?_];obtain⟨o,e,d⟩:=T.obj _ _ as b Z;exact(J.pin (b,o)<|fN _<|fN _<|JZ Z e).2.1
   cases ok with
   |false=>
    rw[Z8 kS] at q9⊢;obtain⟨m',hm,w9⟩:=q9;obtain⟨t9,f9⟩:=back I9;exact#[m',hm,i+1,ae,H9,its,nn,ys,I9.UM,t9,f9,hv,w9]
   |true=>
    rw[Z9 rfl] at q9⊢;have a3:=b5 _ s9 ae H9 _ (I9.UH _) q9;have a3:OZ (Pd X'.prog X'.w) X'.A (eval elt X'.env) _ _ s9:=a3;rw[U,hw,hA] at a3;refine Pu a3 (λuy s10 zz=>?_) λ_ _ z=>z;obtain⟨y,ay,ag,bi,m',hm,be⟩:=zz;have ag:=ag.UB;obtain⟨br,bn⟩:=back ag;have b3:=ag.UM;obtain⟨eD,nD,_,_,_⟩:=b3.pin (s2.heap.objs.size,{ cls:=.type "list",data:=.seq its.toArray nn })<|fN _ aZ;dsimp only at eD nD;have hsz:its.length<sizeLine:=by rw[<- hv.length];exact hz
    refine wpAny_list_append_plain #[nn,eD] (λh' bo b7=>?_) (by rw[iJ];lia);obtain⟨n',e'⟩:=bo;have bc:h'.get? s2.heap.objs.size=Zh { cls:=.type "list",data:=.seq (its++[uy]).toArray n' }:=by rw[e'];simp
    have bd:Inv X' [] ae ay s10:=b3.UW λp hp=>absurd hp (by simp);have bg:=bd.turned (h':=h') (t':=s10.toks) (it:=s2.heap.objs.size) (λb o Z e=>(b7.2 b Z).trans e) nD (by rw[af];exact fQ<|Ba _) (.inr<|by rw[bh];exact aN _) ap λp hp=>(gZ.mp hp).elim (bp p) λz=>nomatch z;refine#[m',hm,i+1,ae,ay,its++[uy],n',ys++[y],ao bg bc nD,T.keep _ _ _ br λb Z o e=>?_,bn,hv.append<|.cons bi .nil,be];exact(b7.2 b<|vz (av b Z)<|aN _).trans e
 have ba:Ra (Pd X.prog X.w) X.A (.compStart (.ListComp elt [#[tg,iter,ifs,0]] scope pos) 0 (.ref it) (.ref s2.heap.objs.size) X'.env) (Gn X.env.frame (Pd X.prog X.w) X.A X.xe use Q' (.ref s2.heap.objs.size)<|s2.heap.objs.size+1) s4:=
  codeAny_compStart_list am<|T.self X.A 0 s4 _ _ (T.keep _ _ _ au λb _ o e=>ac b o e) am
 rw[<- aj] at ba;exact ba
theorem oH{use:Option<|OR->SH Unit}{Q':OR->OU->Prop}(z:X.calm=X.calm)(hc:rS X.N X.env.scope k js N' scope)(hi:PI X tg iter wi)
  (Z:∀C fp s2 H2,PG (gU X N' scope C fp s2 H2) tg g) (O:∀C fp s2 H2,pY (gU X N' scope C fp s2 H2) ifs tt) (U:∀C fp s2 H2,PE (gU X N' scope C fp s2 H2) elt te)
  {pins:List<|OS×Qf} (I:Inv X pins σ H s) (h:vC k js wi g tt te σ H Q)
  (fin:∀(C D:OS) (s':OU) (m:Pj->Option OR) (H':Hp) (ys:List V),s'.heap.Ns C m->C≠X.env.locals->C∉X.fs->D≠C->H' C=Zi->X.s₀.heap.objs.size<=C->(∀x c,X.env.cells.lookup x=Zh c->c≠C)->(∀p∈X.pn++pins,p.1≠C)->(∀h',Pr C s'.heap h'->Inv X pins σ (upd H' D<|.lst ys) { s' with heap:=h' })->Q (.ref D) (upd H' D<|.lst ys)-> compPost (Pd X.prog X.w) X.A X.xe use Q' (.ref D) C (.ok .next) s')
  (hs:∀x,P7 iter X.env x=pure x) (J:RC):
  OZ (Pd X.prog X.w) X.A (comprehension (.ListComp elt [#[tg,iter,ifs,0]] scope pos) scope X.env J (newList []) Zk (eval iter X.env) use) Q' X.xe s:=
 lU z hc hi Z O (λs2 _ _ H2 fp _ _=>PE.UA<|U _ fp s2 H2) I h fin hs J
theorem JG(z:X.calm=X.calm)(hc:AQ X.N X.env.scope k js N' scope=Zj)(hi:PI X tg iter wi)
  (Z:∀C fp s2 H2,PG (gU X N' scope C fp s2 H2) tg g) (O:∀C fp s2 H2,pY (gU X N' scope C fp s2 H2) ifs tt) (U:∀C fp s2 H2,PE (gU X N' scope C fp s2 H2) elt te)
  (hs:∀x,P7 iter X.env x=pure x:=by intro _;rfl):PE X (.ListComp elt [#[tg,iter,ifs,0]] scope pos)<|vC k js wi g tt te:=by
 intro pins s σ H Q I h;rw[eval_ListComp];refine oH (use:=Zi) z (vp hc) hi Z O U I h (λC D s' m H' ys hn _ _ _ _ _ _ _ E q=>?_) hs _;exact#[m,hn,λh' J=>#[.ref D,_,E h' J,rfl,q]]
theorem He{i:Nat}{px U:RC}(hN:X.N.Nodup)(ac:X.N[i]?=Zh x)(hx:Loc X.env.scope x)(Z:X.calm=X.calm)(hc:AQ X.N X.env.scope k js N' scope=Zj)(hi:PI X tg iter wi)
  (hg:∀C fp s2 H2,PG (gU X N' scope C fp s2 H2) tg g) (ht:∀C fp s2 H2,pY (gU X N' scope C fp s2 H2) ifs tt) (he:∀C fp s2 H2,PE (gU X N' scope C fp s2 H2) elt te)
  (hs:∀x,P7 iter X.env x=pure x:=by intro _;rfl) (ad:RA (.ListComp elt [#[tg,iter,ifs,0]] scope pos) (Zh<|.Name x px) U.line X.env=pure Zj:=by rfl)
  (hf:X.fn x=Zj∨X.env.scope.names.lookup x=Zh .local:=by first|exact .inl rfl|exact .inr rfl|assumption):
  PS X (.Assign [.Name x px] (.ListComp elt [#[tg,iter,ifs,0]] scope pos) U)<|sx (vC k js wi g tt te)<|xk i:=by
 intro pins s σ H D I h;rw[exec_Assign_Name_used _ _ _ _ ad];refine OQ<|QC<|OQ ?_;show OZ _ X.A (do let _ <- comprehension (.ListComp elt [#[tg,iter,ifs,0]] scope pos) scope X.env _ (newList []) Zk (eval iter X.env) (Zh<|assign (.Name x px) X.env)) _ _ s;refine OQ<|Pu (oH (use:=Zh<|assign (.Name x px) X.env) (Q':=λ_ s'=>SP X pins D .next s') Z (vp hc) hi hg ht he I h (λC Dd s' m H' ys hn c1 c2 c3 c4 c5 c6 c7 E q=>?_) hs _) (λ_ s' hq=>OV<|OV hq) λ_ _ e=>e;have J:=E s'.heap (.refl ..);obtain⟨oC,es,ep,eC,dC,rC⟩:=id hn;have J':Inv X (pins++[(C,oC)]) σ (upd H' Dd<|.lst ys) s':=J.UW λp hp=>by
  rcases gZ.mp hp with z|z
  .exact J.pin p (fN _ z)
  .have e':p=(C,oC):=by simpa using z
   subst e';refine#[eC,?_,c1,c2,λv z=>?_]
   .show upd H' Dd _ C=Zi;rw[aO<|Pe c3];exact c4
   .have z':oC.data=.cell v:=z;rw[dC] at z';cases z'
 show OZ _ X.A (assign (.Name x px) X.env<|.ref Dd) _ _ _;refine TK<|Hd (Q:=λ_ O=>∃m,O.heap.Ns C m/\∀h',Pr C O.heap h'->SP X pins D .next { O with heap:=h' }) J' hN ac hx (v:=.ref Dd) (u:=.ref Dd) rfl (λO K'=>?_) hf;obtain⟨e2,n2,_,_,_⟩:=K'.pin (C,oC)<|fN _<|fN _ aZ;dsimp only at e2 n2;refine#[m,#[oC,es,ep,e2,dC,rC],λh' aa=>#[_,_,K'.UM.turned (it:=C) (t':=O.toks) (λb o hb e=>(aa.2 b hb).trans e) n2 c1 (.inr c5) c6 c7,q]]
end
mutual
def Dp(K:W.Frag)(H:Hp):RR->V->Prop
 |.none,v=>v=.Uy
 |.bool b,v=>v=.bl b
 |.int i,v=>v=.int i
 |.str x,v=>v=.str x
 |.list ds,v=>∃a xs,v=.ref a/\aB K H a xs/\bU K H ds xs
 |.tuple ds,v=>∃a xs,v=.ref a/\cH K H a xs/\bU K H ds xs
 |.dict _,_=>False
def bU(K:W.Frag)(H:Hp):List RR->List V->Prop
 |[],vs=>vs=[]
 |d::ds,vs=>∃v r,vs=v::r/\Dp K H d v/\bU K H ds r
end
theorem bU.nil:bU K H [] []:=by unfold bU;rfl
theorem bU.cons{K:W.Frag}{H:Hp}{d:RR}{ds:List RR}{v:V}{vs:List V}(a:Dp K H d v)(t:bU K H ds vs):bU K H (d::ds)<|v::vs:=by unfold bU;exact#[v,vs,rfl,a,t]
theorem bU.ints{K:W.Frag}{H:Hp}:∀(ns:List Int),bU K H (ns.map TF) (ns.map V.int)
 |[]=>.nil
 |n::r=>.cons (by unfold Dp;rfl)<|bU.ints r
theorem Jk(i:Int):Dp K H (.int i)<|.int i:=by unfold Dp;rfl
theorem HW(i:Bool):Dp K H (.bool i)<|.bl i:=by unfold Dp;rfl
theorem Gb{ds:List RR}(h:aB K H a xs)(t:bU K H ds xs):Dp K H (.list ds)<|.ref a:=by unfold Dp;exact#[a,xs,rfl,h,t]
theorem zN{ds:List RR}(h:cH K H a xs)(t:bU K H ds xs):Dp K H (.tuple ds)<|.ref a:=by unfold Dp;exact#[a,xs,rfl,h,t]
section
variable {pins:List (OS×Qf)}
mutual
theorem Inv.reads(I:Inv X pins σ H s):∀{d:RR} {v:V} {u:OR},Dp X.K H d v->RelV v u->∃as,Reads s.heap u d as
 |.none,_,_,h,r=>by unfold Dp at h;subst h;cases(show _=Value.none from r);exact#[_,.none]
 |.bool b,_,_,h,r=>by unfold Dp at h;subst h;cases(show _=Value.bool b from r);exact#[_,.bool b]
 |.int i,_,_,h,r=>by unfold Dp at h;subst h;obtain⟨t,q⟩:=(show ∃t,_=Value.int i t from r);subst q;exact#[_,.int i t]
 |.str x,_,_,h,r=>by unfold Dp at h;subst h;obtain⟨t,q⟩:=(show ∃t,_=Value.str x t from r);subst q;exact#[_,.str x t]
 |.list ds,_,_,h,r=>by
  unfold Dp at h;obtain⟨a,xs,q,z,t⟩:=h;subst q;cases(show _=Value.ref a from r);obtain⟨its,rv,pl,_⟩:=I.list z;obtain⟨as,ra⟩:=Inv.readsAll I t rv;obtain⟨o,n,J,e2,_,e3⟩:=pl;exact#[_,.list J e2 e3<|by simpa using ra]
 |.tuple ds,_,_,h,r=>by
  unfold Dp at h;obtain⟨a,xs,q,z,t⟩:=h;subst q;cases(show _=Value.ref a from r);obtain⟨its,rv,pl,_⟩:=I.tuple z;obtain⟨as,ra⟩:=Inv.readsAll I t rv;obtain⟨o,J,e2,n,e3⟩:=pl;exact#[_,.tuple J e2 e3<|by simpa using ra]
 |.dict _,_,_,h,_=>by unfold Dp at h;exact h.elim
theorem Inv.readsAll(I:Inv X pins σ H s):∀{ds:List RR} {vs:List V} {us:List OR},bU X.K H ds vs->Vals vs us->∃as,ReadsAll s.heap us ds as
 |[],_,_,h,r=>by unfold bU at h;subst h;cases r;exact#[_,.nil]
 |_::_,_,_,h,r=>by
  unfold bU at h;obtain⟨v,q,e,a,t⟩:=h;subst e;cases r with
  |cons r1 r2=>
   obtain⟨as,h1⟩:=Inv.reads I a r1;obtain⟨bs,h2⟩:=Inv.readsAll I t r2;exact#[_,.cons h1 h2]
end
inductive EV(K:W.Frag):V->V->Hp->VK->Prop
 |mk {x_ y_ Y L} (d e:_):Dp K Y d x_->Dp K Y e y_->d.canLay0=Zj->e.canLay0=Zj->d.depth<=64->L (.bl<|TH d e) Y->EV K x_ y_ Y L
inductive By(K:W.Frag):V->V->Hp->VK->Prop
 |mk {x_ y_ Y L} (d e:_):Dp K Y d x_->Dp K Y e y_->d.canLay0=Zj->e.canLay0=Zj->d.depth<=64->L (.bl<|!PyData.eqv d e) Y->By K x_ y_ Y L
theorem Ju(U:X.A.units+64<Ua):jH X (Qz .Eq)<|EV X.K:=by
 intro pins s σ H x y v u Q I O z h;obtain⟨d,e,h1,h2,c1,c2,dp,q⟩:=h;obtain⟨as,ra⟩:=I.reads h1 O;obtain⟨bs,J⟩:=I.reads h2 z;exact SeqAt.compareEq_reads ra J c1 c2 ∅ #[.bl _,H,I,rfl,q]
theorem Jv(U:X.A.units+64<Ua):jH X (Qz .NotEq)<|By X.K:=by
 intro pins s σ H x y v u Q I O z h;obtain⟨d,e,h1,h2,c1,c2,dp,q⟩:=h;obtain⟨as,ra⟩:=I.reads h1 O;obtain⟨bs,J⟩:=I.reads h2 z;exact SeqAt.compareNe_reads ra J c1 c2 ∅ #[.bl _,H,I,rfl,q]
end
section
theorem Ak{y:Int}(z:Gl X x)(h:∃t,X.mg x=Zh (.int y t))(hd:(x==("__debug__":Pj))=Zk:=by decide):PE X (.Name x pos)<|tC<|.int y:=by
 obtain⟨t,e⟩:=h;exact BM z e #[t,rfl] hd
theorem Fc{n:String}(z:Gl X x)(hm:X.mg x=Zi)(J:Rl x=Zh (.type n))(hn:x≠"__name__":=by decide)(hd:(x==("__debug__":Pj))=Zk:=by decide):PE X (.Name x pos)<|tC<|.ty n:=BP z hm J rfl hn hd
end
structure Fn(P:Pl)(w:PN)(K:W.Frag)(mg:Pj->Option OR)(base:PJ)(CX:pf)(x:Pj)(k:Nat)(ps:List Pj)(sp:Sp):Prop where
 ex:∃f fd,aI P w K mg base CX k f fd ps sp/\Binds K fd ps []/\W.keepIn K (.ref f)=Zj/\mg x=Zh (.ref f)
structure Mt(P:Pl)(w:PN)(K:W.Frag)(mg:Pj->Option OR)(base:PJ)(CX:pf)(C:OS)(m:Pj)(k:Nat)(ps:List Pj)(sp:Sp):Prop where
 cl:gF K C
 ex:∃f fd,aI P w K mg base CX k f fd ps sp/\Binds K fd ps []/\Meth K C m f
structure Kl(P:Pl)(w:PN)(K:W.Frag)(mg:Pj->Option OR)(base:PJ)(CX:pf)(x:Pj)(C:OS)(k:Nat)(ps:List Pj)(sp:Sp):Prop where
 Xf:mg x=Zh (.ref C)
 ex:∃f fd,aI P w K mg base CX k f fd ps sp/\Binds K fd ps []/\Mk K C f
section
variable {E:XK}{m:Pj}{p apos:RC}{e o:P1}{es:List P1}{t:TA}
theorem iE(F:Fn X.prog X.w X.K X.mg X.base CX x k ps sp)(O:aY k X.A)(Z:Gl X x)(hx:nA CX X E)(ha:PA X (e::es) t)(J:(x==("__debug__":Pj))=Zk:=by decide)(U:Pb (e::es) X.env=(Zk,eval e X.env)::Pb es X.env:=by rfl)(z:(Qd pos<|Pb es X.env).any (·.1)=Zk:=by rfl):
  PE X (.Call (.Name x p) (e::es) [] pos)<|Jf sp [] E t:=by
 obtain⟨f,fd,h1,h2,h3,h4⟩:=F.ex;exact uI h1 O Z h4 h3 h2 .nil hx ha J U z
theorem hX{pl:SH Bool}(F:Mt X.prog X.w X.K X.mg X.base CX C m k ps sp)(O:aY k X.A)(hx:nA CX X E)(U:PE X o ta)(ha:PA X (e::es) t)
  (J:Pb (e::es) X.env=(Zk,eval e X.env)::Pb es X.env:=by rfl) (z:(Qd pos<|Pb es X.env).any (·.1)=Zk:=by rfl)
  (Z:eval (.Call (.Attribute o m apos) (e::es) [] pos) X.env=(do
   let ov <- eval o X.env
   Sh apos.atName
   let (f,first) <- holding [ov] (RW ov m pl)
   TN pos f first (Qd pos<|Pb (e::es) X.env) (Rn pos<|QA [] X.env)):=by rfl):
  PE X (.Call (.Attribute o m apos) (e::es) [] pos)<|Ij C m sp [] E ta t:=by
 obtain⟨f,fd,h1,h2,h3⟩:=F.ex;exact BL U F.cl h3 h1 O h2 .nil hx ha J z Z
theorem pX{pl:SH Bool}(F:Mt X.prog X.w X.K X.mg X.base CX C m k ps sp)(z:aY k X.A)(hx:nA CX X E)(J:PE X o ta)
  (O:eval (.Call (.Attribute o m apos) [] [] pos) X.env=(do
   let ov <- eval o X.env
   Sh apos.atName
   let (f,first) <- holding [ov] (RW ov m pl)
   TN pos f first (Qd pos<|Pb [] X.env) (Rn pos<|QA [] X.env)):=by rfl):
  PE X (.Call (.Attribute o m apos) [] [] pos)<|Ij C m sp [] E ta gR:=by
 obtain⟨f,fd,h1,h2,h3⟩:=F.ex;exact yL J F.cl h3 h1 z h2 .nil hx O
theorem GZ(F:Kl X.prog X.w X.K X.mg X.base CX x C k ps sp)(O:aY (k+1) X.A)(Z:Gl X x)(hx:nA CX X E)(ha:PA X (e::es) t)(J:(x==("__debug__":Pj))=Zk:=by decide)(U:Pb (e::es) X.env=(Zk,eval e X.env)::Pb es X.env:=by rfl)(z:(Qd pos<|Pb es X.env).any (·.1)=Zk:=by rfl):
  PE X (.Call (.Name x p) (e::es) [] pos)<|Jg C sp [] E t:=by
 obtain⟨f,fd,h1,h2,h3⟩:=F.ex;exact uG h3 h1 O Z F.Xf h2 .nil hx ha J U z
end
noncomputable def uR:V->Bool
 |.ty _=>Zj
 |.ref _=>Zj
 |_=>Zk
noncomputable def cval:V->OR
 |.ty n=>.type n
 |.ref a=>.ref a
 |_=>.none
section
theorem rL:oV X (.builtin "isinstance") λxs H Q=>L2.X4 λx c ty b=>xs=[x,c]/\uR c=Zj/\gX X.K H x ty/\P6 X.K ty (cval c)=Zh b/\Q (.bl b) H:=by
 intro pins s σ H xs us Q I r h;obtain⟨x,c,ty,b,rfl,hc,z,e,q⟩:=h;obtain⟨u,w',rfl,J,O⟩:=DY r;have e2:w'=cval c:=by
  cases c<;>first|(cases hc;done)|exact O
 subst e2;exact wI I J z e λtk=>#[.bl b,H,I.tok tk,rfl,q]
end
theorem xU:gQ 0 (Zh v::σ) H Q=Q v H:=rfl
theorem ux{g:Int->Int->V}:yA g (.int i) (.int j) H Q=Q (g i j) H:=rfl
theorem yz{C:Int->Int->Prop}{g:Int->Int->V}:rI C g (.int i) (.int j) H Q=(C i j/\Q (g i j) H):=rfl
theorem yv{g:Int->V}:rU g (.int i) H Q=Q (g i) H:=rfl
theorem JJ:EW (.int i) (.int j) H Q=Q (.bl<|decide<|i=j) H:=rfl
theorem K4:GP (.int i) (.int j) H Q=Q (.bl<|!decide (i=j)) H:=rfl
theorem yB{i j:Bool}:EW (.bl i) (.bl j) H Q=Q (.bl<|decide<|i=j) H:=rfl
theorem yy{i j:Bool}:GP (.bl i) (.bl j) H Q=Q (.bl<|!decide (i=j)) H:=rfl
theorem uA{i j:Pj}:EW (.str i) (.str j) H Q=Q (.bl<|decide<|i=j) H:=rfl
theorem uv{i j:Pj}:GP (.str i) (.str j) H Q=Q (.bl<|!decide (i=j)) H:=rfl
theorem yR{c:Bool}{Q:Bool->Prop}:BR (.bl c) Q=Q c:=rfl
theorem uM{c:Int}{Q:Int->Prop}:wu (.int c) Q=Q c:=rfl
theorem DP{c:Bool}{Q:Bool->Prop}:(∃k,V.bl c=V.bl k/\Q k)=Q c:=by
 apply propext;simp
theorem zI{c:Int}{Q:Int->Prop}:(∃k,V.int c=V.int k/\Q k)=Q c:=by
 apply propext;simp
theorem cP{n:Nat}(h:n<=1000):n<=sizeLine:=Bb<|vI h
theorem bO(h:H p=Zi)(o:HO):aC H<|upd H p o:=λb u q=>by rw[aO<|bE q h];exact q
def FE(K:W.Frag)(f:Pj)(x:V)(H:Hp)(Q:VK):Prop:=L2.X5 λa C dx fs v=>x=.ref a/\H a=Zh (.ins C dx fs)/\gF K C/\aD K C f/\fs.lookup f=Zh v/\Q v H
theorem Bh:Hv K ta f σ H Q=ta σ H (λx H1=>FE K f x H1 Q):=rfl
theorem uY(h:H a=Zh (.ins C dx fl))(cl:gF K C)(n:aD K C f)(l:fl.lookup f=Zh v)(q:Q v H):FE K f (.ref a) H Q:=#[a,C,dx,fl,v,rfl,h,cl,n,l,q]
def Bp(K:W.Frag)(f:Pj)(x y:V)(H:Hp)(Q:Hp->Prop):Prop:=L2.X4 λa C dx fs=>x=.ref a/\H a=Zh (.ins C dx fs)/\gF K C/\aD K C f/\fs.length<1000/\Q (upd H a<|.ins C dx<|aL f y fs)
theorem Br:HE K ta tv f D σ H=tv σ H (λy H1=>ta σ H1 λx H2=>Bp K f x y H2<|D.nx σ):=rfl
theorem uh{Q:Hp->Prop}(h:H a=Zh (.ins C dx fl))(cl:gF K C)(n:aD K C f)(l:fl.length<1000)(q:Q<|upd H a<|.ins C dx<|aL f y fl):Bp K f (.ref a) y H Q:=#[a,C,dx,fl,rfl,h,cl,n,l,q]
theorem Fv(h:aB K H p xs)(e:mE xs i=Zh v)(q:Q v H):EU K (.ref p) (.int i) H Q:=#[p,xs,i,v,rfl,rfl,h,e,q]
theorem Fu(h:cH K H p xs)(e:mE xs i=Zh v)(q:Q v H):ET K (.ref p) (.int i) H Q:=#[p,xs,i,v,rfl,rfl,h,e,q]
def qD(K:W.Frag):R2:=λx y H Q=>EU K x y H Q∨ET K x y H Q
theorem bQ:C3 X<|qD X.K:=B4.or Ft
theorem D1(K:W.Frag)(h:X.K=K:=by rfl):C3 X<|qD K:=h▸bQ
theorem dQ(h:aB K H p xs)(e:mE xs i=Zh v)(q:Q v H):qD K (.ref p) (.int i) H Q:=.inl<|Fv h e q
theorem iI(h:cH K H p xs)(e:mE xs i=Zh v)(q:Q v H):qD K (.ref p) (.int i) H Q:=.inr<|Fu h e q
theorem dE{α:Type}{xs:List α}{v:α}(h0:0<=i)(h:xs[i.toNat]?=Zh v):mE xs i=Zh v:=by
 have q:=CB h
 rwa [Int.toNat_of_nonneg h0] at q
theorem rN{xs:List Int}{v:Int}(h0:0<=i)(h:xs[i.toNat]?=Zh v):mE (xs.map V.int) i=Zh (.int v):=dE h0<|by rw[eJ,h];rfl
def fG(P:Nat->List V->St->Hp->Prop)(n i:Nat)(ys:List V)(σ:St)(H:Hp):Prop:=∃m',m'<n-i/\m'=n-(i+1)/\i+1<=n/\P (i+1) ys σ H
theorem fG.of{P:Nat->List V->St->Hp->Prop}{n i:Nat}{ys:List V}(h:i<n)(p:P (i+1) ys σ H):fG P n i ys σ H:=#[n-(i+1),∅,rfl,h,p]
theorem wV(P:Nat->List V->St->Hp->Prop)(h0:P 0 [] σ0 H)(hl:∀i ys σ H,i<=xs.length->P i ys σ H->aB K H a xs/\ys.length<=i)(Z:xs.length<=sizeLine)
  (O:∀i ys x σ H,i<xs.length->xs[i]?=Zh x->P i ys σ H->g x σ H λz H2=>tt z H2 λb H3=>if b=Zj then te z H3 λy H4=>fG P xs.length i (ys++[y]) z H4 else fG P xs.length i ys z H3)
  (hd:∀ys σ H,P xs.length ys σ H->∀p,H p=Zi->Q (.ref p) (upd H p<|.lst ys)):
  ∃W:Nat->Nat->List V->St->Hp->Prop,(∃m,W 0 m [] σ0 H)/\∀i m ys σ H,W i m ys σ H->
   ((vL K a).stop i H/\ys.length<=sizeLine/\∀p,H p=Zi->Q (.ref p) (upd H p<|.lst ys))∨
   ((vL K a).go i H/\ys.length<sizeLine/\∀x H',(vL K a).VP i H x H'->g x σ H' λz H2=>tt z H2 λb H3=>if b=Zj then te z H3 λy H4=>∃J,J<m/\W (i+1) J (ys++[y]) z H4 else ∃J,J<m/\W (i+1) J ys z H3):=by
 refine#[λi m ys σ H=>m=xs.length-i/\i<=xs.length/\P i ys σ H,#[xs.length,by simp,cQ _,h0],?_];rintro i m ys σ H ⟨rfl,hi,p⟩;obtain⟨q,U⟩:=hl i ys σ H hi p;by_cases UI:i<xs.length
 .refine .inr #[#[xs,xs[i],q,by simp[UI]],∅,λx H' y=>?_];obtain⟨e,y⟩:=y;subst e;exact O i ys x σ _ UI (y xs q) p
 .have e:i=xs.length:=∅
  subst e;exact .inl #[#[xs,q,aN _],∅,hd ys σ H p]
theorem tq{n:Nat}(P:Nat->List V->St->Hp->Prop)(h0:P 0 [] σ0 H)(hl:∀i ys σ H,P i ys σ H->ys.length<=i)(Z:n<=sizeLine)
  (O:∀i ys σ H,i<n->P i ys σ H->g (.int<|lo+i) σ H λz H2=>tt z H2 λb H3=>if b=Zj then te z H3 λy H4=>fG P n i (ys++[y]) z H4 else fG P n i ys z H3)
  (hd:∀ys σ H,P n ys σ H->∀p,H p=Zi->Q (.ref p) (upd H p<|.lst ys)):
  ∃W:Nat->Nat->List V->St->Hp->Prop,(∃m,W 0 m [] σ0 H)/\∀i m ys σ H,W i m ys σ H->
   ((rX lo n).stop i H/\ys.length<=sizeLine/\∀p,H p=Zi->Q (.ref p) (upd H p<|.lst ys))∨
   ((rX lo n).go i H/\ys.length<sizeLine/\∀x H',(rX lo n).VP i H x H'->g x σ H' λz H2=>tt z H2 λb H3=>if b=Zj then te z H3 λy H4=>∃J,J<m/\W (i+1) J (ys++[y]) z H4 else ∃J,J<m/\W (i+1) J ys z H3):=by
 refine#[λi m ys σ H=>m=n-i/\i<=n/\P i ys σ H,#[n,by simp,cQ _,h0],?_];rintro i m ys σ H ⟨rfl,hi,p⟩;have U:=hl i ys σ H p;by_cases UI:i<n
 .refine .inr #[UI,∅,λx H' y=>?_];obtain⟨e,y⟩:=y;subst e y;exact O i ys σ _ UI p
 .have e:i=n:=∅
  subst e;exact .inl #[aN _,∅,hd ys σ H p]
theorem aC.upd{H H':Hp}{p:OS}{o:HO}(e:aC H H')(h:H p=Zi):aC H<|upd H' p o:=λb u q=>by rw[aO<|bE q h];exact e b u q
theorem aC.new{H H':Hp}{p:OS}{o:HO}(e:aC H H')(h:H' p=Zi):aC H<|L2.upd H' p o:=e.upd<|e.free h
theorem yZ{t:OR}(h:(t==t)=Zj):P6 K t t=Zh Zj:=by unfold P6;rw[Z9 h]
theorem wU(ns:List Int)(lo hi:Option Int):dR (ns.map V.int) lo hi=(((ns.drop<|HT.sIx ns.length 0 lo).take<|HT.sIx ns.length ns.length hi-HT.sIx ns.length 0 lo).map V.int):=by
 unfold dR;rw[aM,Es,Er]
theorem zw{ns:List Int}{i:Nat}{x:V}(h:(ns.map V.int)[i]?=Zh x):∃n,ns[i]?=Zh n/\x=.int n:=by
 rw[eJ] at h;cases e:ns[i]? with
 |none=>rw[e] at h;cases h
 |some n=>rw[e] at h;exact#[n,rfl,(OX h).symm]
theorem Kz{n:Nat}(h0:0<=i)(h:i<n):za n i=Zh i.toNat:=by unfold za;rw[Z9 h0,Z9 h]
theorem xb{lo hi:Option Int}(h:aB K H a xs)(q:∀p,H p=Zi->Q (.ref p) (upd H p<|.lst<|dR xs lo hi)):ER K (.ref a) lo hi H Q:=#[a,xs,rfl,h,q]
def forL(K:W.Frag)(g:TG)(tb:TS)(D:Ends)(σ:St)(x:V)(H1:Hp):Prop:=∃a,x=.ref a/\(∃xs,aB K H1 a xs)/\∃W:Nat->Nat->St->Hp->Prop,(∃m,W 0 m σ H1)/\∀i m σ H,W i m σ H->
 ((vL K a).stop i H/\D.nx σ H)∨((vL K a).go i H/\∃N:St->Hp->Prop,(∀σ' H',N σ' H'->∃m',m'<m/\W (i+1) m' σ' H')/\∀x H',(vL K a).VP i H x H'->g x σ H' λσ2 H2=>tb { D with nx:=N,ct:=N,bk:=D.nx } σ2 H2)
theorem yb:yc (zj K tl) g tb D σ H=tl σ H (λx H1=>forL K g tb D σ x H1):=rfl
theorem KW(h:aB K H a xs)(z:Nat->St->Hp->Prop)(h0:z 0 σ H)(hl:∀i σ H,i<=xs.length->z i σ H->aB K H a xs)
  (O:∀i x σ H,xs[i]?=Zh x->z i σ H->g x σ H λJ H2=>tb { D with nx:=z<|i+1,ct:=z<|i+1,bk:=D.nx } J H2) (hd:∀σ H,z xs.length σ H->D.nx σ H):forL K g tb D σ (.ref a) H:=
 #[a,rfl,#[xs,h],zC z h0 hl O hd]
def forR(lo:Int)(g:TG)(tb:TS)(D:Ends)(σ:St)(n:Nat)(H1:Hp):Prop:=∃W:Nat->Nat->St->Hp->Prop,(∃m,W 0 m σ H1)/\∀i m σ H,W i m σ H->
 ((rX lo n).stop i H/\D.nx σ H)∨((rX lo n).go i H/\∃N:St->Hp->Prop,(∀σ' H',N σ' H'->∃m',m'<m/\W (i+1) m' σ' H')/\∀x H',(rX lo n).VP i H x H'->g x σ H' λσ2 H2=>tb { D with nx:=N,ct:=N,bk:=D.nx } σ2 H2)
def DO(g:TG)(tb:TS)(D:Ends)(σ:St)(x:V)(H1:Hp):Prop:=∃j:Int,[x]=[.int j]/\-(2^62)<=j/\j<2^62/\forR 0 g tb D σ j.toNat H1
def DN(g:TG)(tb:TS)(D:Ends)(σ:St)(x y:V)(H1:Hp):Prop:=L2.X2 λi j:Int=>[x,y]=[.int i,.int j]/\(-(2^62)<=i/\i<2^62/\-(2^62)<=j/\j<2^62)/\forR i g tb D σ (j-i).toNat H1
theorem vZ{t:TE}:yc (zi<|lX t gR) g tb D σ H=t σ H (λx H1=>DO g tb D σ x H1):=rfl
theorem vY{t u:TE}:yc (zh<|lX t<|lX u gR) g tb D σ H=t σ H (λx H1=>u σ H1 λy H2=>DN g tb D σ x y H2):=rfl
theorem Gk{n:Nat}(z:Nat->St->Hp->Prop)(h0:z 0 σ H)
  (O:∀i σ H,i<n->z i σ H->g (.int<|lo+i) σ H λJ H2=>tb { D with nx:=z<|i+1,ct:=z<|i+1,bk:=D.nx } J H2) (hd:∀σ H,z n σ H->D.nx σ H):forR lo g tb D σ n H:=wL z h0 O hd
theorem G9(h:-1000<=j/\j<=1000)(q:forR 0 g tb D σ j.toNat H):DO g tb D σ (.int j) H:=#[j,rfl,∅,∅,q]
theorem zD(h:-1000<=i/\i<=1000/\-1000<=j/\j<=1000)(q:forR i g tb D σ (j-i).toNat H):DN g tb D σ (.int i) (.int j) H:=#[i,j,rfl,∅,q]
def DW(K:W.Frag)(g:TG)(tt:TT)(te:TE)(σ0:St)(Q:VK)(x:V)(H1:Hp):Prop:=∃a,x=.ref a/\(∃xs,aB K H1 a xs)/\∃W:Nat->Nat->List V->St->Hp->Prop,(∃m,W 0 m [] σ0 H1)/\∀i m ys σ H,W i m ys σ H->
 ((vL K a).stop i H/\ys.length<=sizeLine/\∀p,H p=Zi->Q (.ref p) (upd H p<|.lst ys))∨
 ((vL K a).go i H/\ys.length<sizeLine/\∀x H',(vL K a).VP i H x H'->g x σ H' λσ2 H2=>tt σ2 H2 λb H3=>if b=Zj then te σ2 H3 λy H4=>∃m',m'<m/\W (i+1) m' (ys++[y]) σ2 H4 else ∃m',m'<m/\W (i+1) m' ys σ2 H3)
theorem v9:vC k js (zj K tl) g tt te σ H Q=tl σ H (λx H1=>DW K g tt te (up k js σ) Q x H1):=rfl
theorem Ec(h:aB K H a xs)(J:xs.length<=1000)(P:Nat->List V->St->Hp->Prop)(h0:P 0 [] σ0 H)(hl:∀i ys σ H,i<=xs.length->P i ys σ H->aB K H a xs/\ys.length<=i)
  (O:∀i ys x σ H,i<xs.length->xs[i]?=Zh x->P i ys σ H->g x σ H λz H2=>tt z H2 λb H3=>if b=Zj then te z H3 λy H4=>fG P xs.length i (ys++[y]) z H4 else fG P xs.length i ys z H3)
  (hd:∀ys σ H,P xs.length ys σ H->∀p,H p=Zi->Q (.ref p) (upd H p<|.lst ys)):DW K g tt te σ0 Q (.ref a) H:=#[a,rfl,#[xs,h],wV P h0 hl (cP J) O hd]
def DV(lo:Int)(g:TG)(tt:TT)(te:TE)(σ0:St)(Q:VK)(n:Nat)(H1:Hp):Prop:=∃W:Nat->Nat->List V->St->Hp->Prop,(∃m,W 0 m [] σ0 H1)/\∀i m ys σ H,W i m ys σ H->
 ((rX lo n).stop i H/\ys.length<=sizeLine/\∀p,H p=Zi->Q (.ref p) (upd H p<|.lst ys))∨
 ((rX lo n).go i H/\ys.length<sizeLine/\∀x H',(rX lo n).VP i H x H'->g x σ H' λσ2 H2=>tt σ2 H2 λb H3=>if b=Zj then te σ2 H3 λy H4=>∃m',m'<m/\W (i+1) m' (ys++[y]) σ2 H4 else ∃m',m'<m/\W (i+1) m' ys σ2 H3)
def z9(g:TG)(tt:TT)(te:TE)(σ0:St)(Q:VK)(x:V)(H1:Hp):Prop:=∃j:Int,[x]=[.int j]/\-(2^62)<=j/\j<2^62/\DV 0 g tt te σ0 Q j.toNat H1
theorem su{t:TE}:vC k js (zi<|lX t gR) g tt te σ H Q=t σ H (λx H1=>z9 g tt te (up k js σ) Q x H1):=rfl
theorem Ef(h:-1000<=j/\j<=1000)(P:Nat->List V->St->Hp->Prop)(h0:P 0 [] σ0 H)(hl:∀i ys σ H,P i ys σ H->ys.length<=i)
  (J:∀i ys σ H,i<j.toNat->P i ys σ H->g (.int<|0+i) σ H λz H2=>tt z H2 λb H3=>if b=Zj then te z H3 λy H4=>fG P j.toNat i (ys++[y]) z H4 else fG P j.toNat i ys z H3)
  (hd:∀ys σ H,P j.toNat ys σ H->∀p,H p=Zi->Q (.ref p) (upd H p<|.lst ys)):z9 g tt te σ0 Q (.int j) H:=#[j,rfl,∅,∅,tq P h0 hl (cP<|∅) J hd]
def IY(i j:Int):Prop:=0<j/\j<2^250
section
theorem qU:jH X (Rm .FloorDiv)<|rI IY λi j=>.int<|i/j:=GQ λi j _ _ _ _ _ hc q=>by
 have h1:(0:Int)<j:=hc.1;have h2:j<2^250:=hc.2;have h3:j.natAbs<2^250:=by
  have e:(j.natAbs:Int)=j:=Int.natAbs_of_nonneg ∅;have e2:((2^250:Nat):Int)=2^250:=by rfl
  lia
 have z:j.natAbs.log2<250:=(Nat.log2_lt<|∅).mpr h3;exact floordiv_int ∅ (by rw[RS i<|∅];exact q)<|.inl<|PyProof.noPylong_of_log2<|∅
end
theorem rq{t:TG}{u:Ar}{r:List V}{Q:St->Hp->Prop}:zx t u (v::r) σ H Q=t v σ H (λz H'=>u r z H' Q):=by
 apply propext;unfold zx;constructor
 .rintro ⟨J,r',e,q⟩;cases e;exact q
 .exact λq=>#[v,r,rfl,q]
theorem u6{Q:St->Hp->Prop}:FF [] σ H Q=Q σ H:=by
 apply propext;unfold FF;simp
theorem G6{n:Nat}{t:Ar}{Q:St->Hp->Prop}(h:cH K H a xs)(l:xs.length=n)(q:t xs σ H Q):B9 K n t (.ref a) σ H Q:=#[a,xs,rfl,h,l,q]
section
variable {tg l e o:P1}{es:List P1}{to:TE}{t:TA}{apos cpos:RC}
theorem Lv(K:W.Frag)(h:X.K=K:=by rfl):MX X<|ER K:=h▸JL
theorem mY(K:W.Frag)(h:X.K=K:=by rfl):oV X (.builtin "len") λxs H Q=>L2.X2 λp ys=>xs=[.ref p]/\(aB K H p ys∨cH K H p ys)/\Q (.int ys.length) H:=h▸oY
theorem hV(K:W.Frag)(h:X.K=K:=by rfl):oV X (.type "list") λxs H Q=>L2.X2 λp ys=>xs=[.ref p]/\(aB K H p ys∨cH K H p ys)/\∀l,H l=Zi->Q (.ref l) (upd H l<|.lst ys):=h▸L8
theorem BK(K:W.Frag){z:Ar}{n:Nat}(hc:X.calm=X.calm)(O:Ej X es z)
  (hn:(Qw es X.env).length=n:=by rfl) (J:(Qw es X.env).findIdx? (·.1)=Zi:=by rfl) (h:X.K=K:=by rfl):PG X (.Tuple es k pos)<|B9 K n z:=h▸KD hc O hn J
end
open PySem PySem.Spec PySem.W PySem.Calls PyProof.Rows
section
variable {p:RC}{iter elt:P1}{wi:TI}
theorem qP{z:Qq}{O:List Pj}(hc:AQ O z 1 js (x::N) scope=Zj)(J:(relabel scope X.env).names.lookup x=Zh .local)(C:OS)(fp:List OS)(s:OU)(H:Hp):PG (gU X (x::N) scope C fp s H) (.Name x p)<|xk 0:=by
 refine kB ?_ rfl (.inl J)<|.inr J;unfold AQ at hc;simp only[tK,decide_eq_true_eq] at hc;exact hc.1.1.2
theorem Ln(hc:AQ X.N X.env.scope 1 js (x::N) scope=Zj)(hi:PI X (.Name x p) iter wi)(z:∀C fp s2 H2,PE (gU X (x::N) scope C fp s2 H2) elt te)
  (hl:(relabel scope X.env).names.lookup x=Zh .local:=by rfl) (J:∀x,P7 iter X.env x=pure x:=by intro _;rfl):PE X (.ListComp elt [#[.Name x p,iter,[],0]] scope pos)<|vC 1 js wi (xk 0) Bg te:=
 JG rfl hc hi (qP hc hl) (λ_ _ _ _=>vG) z J
theorem jV{i:Nat}{y:Pj}{U z:RC}(Z:X.N.Nodup)(J:X.N[i]?=Zh y)(hx:Loc X.env.scope y)(hc:AQ X.N X.env.scope 1 js (x::N) scope=Zj)(hi:PI X (.Name x p) iter wi)
  (he:∀C fp s2 H2,PE (gU X (x::N) scope C fp s2 H2) elt te) (hl:(relabel scope X.env).names.lookup x=Zh .local:=by rfl)
  (hs:∀x,P7 iter X.env x=pure x:=by intro _;rfl) (O:RA (.ListComp elt [#[.Name x p,iter,[],0]] scope pos) (Zh<|.Name y U) z.line X.env=pure Zj:=by rfl)
  (hf:X.fn y=Zj∨X.env.scope.names.lookup y=Zh .local:=by first|exact .inl rfl|exact .inr rfl|assumption):
  PS X (.Assign [.Name y U] (.ListComp elt [#[.Name x p,iter,[],0]] scope pos) z)<|sx (vC 1 js wi (xk 0) Bg te)<|xk i:=
 He Z J hx rfl hc hi (qP hc hl) (λ_ _ _ _=>vG) he hs O hf
end
open PySem PySem.Spec PySem.W PySem.Calls PyProof.Rows
section
variable {e:P1}{q:RC}
theorem AO(i:Nat)(z:X.N.Nodup)(hi:X.N[i]?=Zh x)(hx:Loc X.env.scope x)(J:PE X e te)(U:RA e (Zh<|.Name x q) pos.line X.env=pure Zk:=by rfl)(O:X.fn x=Zj∨X.env.scope.names.lookup x=Zh .local:=by first|exact .inl rfl|exact .inr rfl|assumption):PS X (.Assign [.Name x q] e pos)<|sx te<|xk i:=bK z hi hx J U O
theorem Hb(i:Nat)(z:X.N.Nodup)(hi:X.N[i]?=Zh x)(hx:Loc X.env.scope x)(J:X.fn x=Zj∨X.env.scope.names.lookup x=Zh .local:=by first|exact .inl rfl|exact .inr rfl|assumption):PG X (.Name x pos)<|xk i:=kB z hi hx J
theorem BD(i:Nat){z:TR}(J:X.N.Nodup)(hi:X.N[i]?=Zh x)(hx:Loc X.env.scope x)(O:PE X e te)(U:Ka X z ti)(Z:X.fn x=Zj∨X.env.scope.names.lookup x=Zh .local:=by first|exact .inl rfl|exact .inr rfl|assumption):PS X (.AugAssign (.Name x q) z e pos)<|EH i te ti:=Im J hi hx O U Z
theorem uF(n:Nat){es:List P1}{t:Ar}(h:Ej X es t)(hn:(Qw es X.env).length=n:=by rfl)(z:(Qw es X.env).findIdx? (·.1)=Zi:=by rfl):PG X (.Tuple es k pos)<|B9 X.K n t:=KD rfl h hn z
end
open PySem
def Hu(mg:Pj->Option OR)(x:Pj):TE:=λ_ H Q=>∀f,mg x=Zh (.ref f)->Q (.ref f) H
def yf(mg:Pj->Option OR)(y:Pj)(sp:Sp)(E:XK)(ta:TE)(t:TA):TE:=λσ H Q=>ta σ H λv H1=>(∃f,v=.ref f/\mg y=Zh (.ref f))/\t σ H1 λvs H2=>sp vs H2 Q E
section
variable {X:Cx}
theorem Bj{i:Nat}:EH i te ti D σ H=gQ i σ H (λx H0=>te σ H0 λy H1=>ti x y H1 λz H2=>D.nx (σ.set i<|some z) H2):=rfl
theorem uS{f:Int->Int->Int}:Ki f (.int i) (.int j) H Q=Q (.int<|f i j) H:=rfl
theorem Km{f:OS}{A:Py}{E:XK}:(aX CX P w K mg base N qual scope f cd A outer s H E).K=K:=rfl
def Dm(W:Nat->St->Hp->Prop)(m:Nat)(tb:TS)(D:Ends)(σ:St)(H1:Hp):Prop:=∃N:St->Hp->Prop,(∀σ' H',N σ' H'->∃m',m'<m/\W m' σ' H')/\tb { D with nx:=N,ct:=N,bk:=D.nx } σ H1
theorem AS{W:Nat->St->Hp->Prop}{m:Nat}(h:tb { D with nx:=λz H'=>∃J,J<m/\W J z H',ct:=λz H'=>∃J,J<m/\W J z H',bk:=D.nx } σ H1):Dm W m tb D σ H1:=#[_,λ_ _ q=>q,h]
theorem AU{c:TT}(W:Nat->St->Hp->Prop)(h0:∃m,W m σ H)(z:∀m σ H,W m σ H->c σ H λb H1=>if b=Zj then Dm W m tb D σ H1 else D.nx σ H1):xJ c tb D σ H:=#[W,h0,z]
noncomputable def sU(xs:List V)(i:Int)(y:V):List V:=let k:=if i<0 then(i+(xs.length:Int)).toNat else min i.toNat xs.length;xs.take k++y::xs.drop k
inductive uw:V->List V->Hp->VK->Prop
 |mk (l xs i y:_):x_=.ref l->R=[.int i,y]->Y l=Zh (.lst xs)->xs.length<sizeLine->(-(2^62)<=i/\i<2^62)->L .Uy (upd Y l<|.lst<|sU xs i y)->uw x_ R Y L
theorem B6(its:List OR)(k:Nat)(u:OR)(z:k<=its.length):(its.toArray.extract 0 k).push u++its.toArray.extract k=(its.take k++u::its.drop k).toArray:=by
 apply Array.ext';simp;exact tM<|by rw[gP];exact aN _
theorem rj(xs:List V)(i:Int)(y:V):(sU xs i y).length=xs.length+1:=by
 unfold sU;dsimp only;rw[aQ,cF,iF,gP];lia
theorem Vals.ins{xs:List V}{us:List OR}{y:V}{u:OR}(r:Vals xs us)(q:RelV y u)(k:Nat):Vals (xs.take k++y::xs.drop k)<|us.take k++u::us.drop k:=(r.take k).append<|.cons q<|r.drop k
theorem JV:IT X "list.insert" uw:=by
 intro pins s σ H x vs v us Q I rx rv h;obtain⟨l,xs,i,y,rfl,rfl,U,hz,hi,q⟩:=h;cases rx;obtain⟨u,u2,rfl,ru,O⟩:=rv.two;obtain⟨t,rfl⟩:=ru;obtain⟨z,its,n,r,hl,e⟩:=I.VL U;have J:¬(!Builtin.List.listFitsIndex i)=Zj:=by
  unfold Builtin.List.listFitsIndex;have:(decide (-(2^63:Int)<=i)&&decide (i<2^63))=Zj:=by
   rw[tK];exact#[decide_eq_true<|∅,decide_eq_true<|∅]
  simpa using this
 refine Tz F.slot_list_insert #[_,e,rfl] F.entry_list_insert (F.args_list_insert_3 _ _ _) (PySem.AutoListH.list_insert_list_int_val_1 l its.toArray n i t u2 J<|by rw[iJ];lia) #[e,?_];have Z:(if i<0 then(i+(its.length:Int)).toNat else min i.toNat its.length)<=its.length:=by split<;>lia
 refine#[.Uy,_,I.Wi (its':=its.take (if i<0 then(i+(its.length:Int)).toNat else min i.toNat its.length)++u2::its.drop (if i<0 then(i+(its.length:Int)).toNat else min i.toNat its.length)) U e ?_ (ys:=sU xs i y) ?_ ?_,rfl,q]
 .show (its.toArray.extract 0 _).push u2++its.toArray.extract _=_;rw[iJ];exact B6 its _ u2 Z
 .unfold sU;rw[hl];exact r.ins O _
 .rw [rj];lia
end
structure dS(K:W.Frag)(x qual:Pj)(st:PM)(f:OS)(fd:Qg)(dv:List OR):Prop where
 ex:∃(oc:OR) (od:Option OS) (T:OS) (kV doc pm:OR) (an:Option OS) (cdv ct:OR) (osl:Array<|Option OR),
  fd=W.fnOf x qual (oW st) (kn st) (aR st) (.ref T) kV doc pm an cdv ct/\K.lookup f=Zh #[oc,od,.func fd,osl]/\W.codeIn K cdv qual=Zj/\∃o n,K.lookup T=Zh o/\o.data=.seq dv.toArray n
 kp:W.keepIn K (.ref f)=Zj
section
theorem dS.ok{st:PM}{f:OS}(F:dS K x qual st f fd dv)(S:aA N ps<|aR st)(len:∀vs H Q E,sp vs H Q E->vs.length=ps.length)
  (J:∀(z:OR) (A:Py) (outer:List RN) (s:OU) (H:Hp) (vs:List V) (Q:VK) (E:XK),aY k (A.deeper<|RP qual (aR st) s.heap.objs.size f z)->sp vs H Q E-> ∃t,kN (aX aP P w K mg base N qual (aR st) f z A outer s H E).UA (kn st) t/\t { nx:=λ_ H'=>Q .Uy H',rt:=Q } (start N vs) H):aI P w K mg base aP (k+1) f fd ps sp:=by
 obtain⟨oc,od,T,kV,aa,pm,an,z,ct,ac,rfl,lk,U,_⟩:=F.ex;refine u7 lk U S len λA outer s H vs Q E Z O=>?_;obtain⟨t,h,q⟩:=J z A outer s H vs Q E Z O;exact#[t,h.UA,q]
theorem dS.binds{st:PM}{f:OS}{ds:List OR}(F:dS K x qual st f fd dv)
  (h:∀(T:OS) (kV J O:OR) (an:Option OS) (z ct:OR) (us:List OR),(us++ds).length=ps.length->∃k,Us (W.fnOf x qual (oW st) (kn st) (aR st) (.ref T) kV J O an z ct) #[us,[]]=seqItems? (.ref T)>>=k/\k (Zh dv.toArray)=pure (ps.zip<|us++ds)):Binds K fd ps ds:=by
 obtain⟨oc,od,T,kV,J,O,an,z,ct,U,rfl,lk,aa,o,n,Z,ho⟩:=F.ex;intro s us KX hl;obtain⟨k,h1,h2⟩:=h T kV J O an z ct us hl;exact PySem.W.binds_K KX rfl Z ho h1 h2
theorem ND{st:PM}{f T:OS}{oc:OR}{od an:Option OS}{O:Array<|Option OR}{J Z z ct:OR}{aa:OR}{ac:Option OS}{nT:Nat}{U:Array<|Option OR}(l:K.lookup f=Zh #[oc,od,.func<|W.fnOf x qual (oW st) (kn st) (aR st) (.ref T) cd J Z an z ct,O])
  (c:W.codeIn K z qual=Zj) (k:W.keepIn K (.ref f)=Zj) (t:K.lookup T=Zh #[aa,ac,.seq dv.toArray nT,U]):dS K x qual st f (W.fnOf x qual (oW st) (kn st) (aR st) (.ref T) cd J Z an z ct) dv:=#[#[oc,od,T,cd,J,Z,an,z,ct,O,rfl,l,c,_,nT,t,rfl],k]
end
structure M3(P:Pl)(w:PN)(K:W.Frag)(mg:Pj->Option OR)(base:PJ)(CX:pf)(x:Pj)(k:Nat)(ps:List Pj)(sp:Sp)(dvs:List V):Prop where
 ex:∃f fd ds,aI P w K mg base CX k f fd ps sp/\Binds K fd ps ds/\Vals dvs ds/\W.keepIn K (.ref f)=Zj/\mg x=Zh (.ref f)
structure M1(P:Pl)(w:PN)(K:W.Frag)(mg:Pj->Option OR)(base:PJ)(CX:pf)(x:Pj)(C:OS)(k:Nat)(ps:List Pj)(sp:Sp)(dvs:List V):Prop where
 Xf:mg x=Zh (.ref C)
 ex:∃f fd ds,aI P w K mg base CX k f fd ps sp/\Binds K fd ps ds/\Vals dvs ds/\Mk K C f
section
variable {dvs:List V}{E:XK}{m:Pj}{p apos:RC}{e o:P1}{es:List P1}{t:TA}
theorem Fb(F:M3 X.prog X.w X.K X.mg X.base CX x k ps sp dvs)(O:aY k X.A)(Z:Gl X x)(hx:nA CX X E)(ha:PA X (e::es) t)(J:(x==("__debug__":Pj))=Zk:=by decide)(U:Pb (e::es) X.env=(Zk,eval e X.env)::Pb es X.env:=by rfl)(z:(Qd pos<|Pb es X.env).any (·.1)=Zk:=by rfl):
  PE X (.Call (.Name x p) (e::es) [] pos)<|Jf sp dvs E t:=by
 obtain⟨f,fd,ds,h1,h2,hv,h3,h4⟩:=F.ex;exact uI h1 O Z h4 h3 h2 hv hx ha J U z
theorem E7(F:M1 X.prog X.w X.K X.mg X.base CX x C k ps sp dvs)(O:aY (k+1) X.A)(Z:Gl X x)(hx:nA CX X E)(ha:PA X (e::es) t)(J:(x==("__debug__":Pj))=Zk:=by decide)(U:Pb (e::es) X.env=(Zk,eval e X.env)::Pb es X.env:=by rfl)(z:(Qd pos<|Pb es X.env).any (·.1)=Zk:=by rfl):
  PE X (.Call (.Name x p) (e::es) [] pos)<|Jg C sp dvs E t:=by
 obtain⟨f,fd,ds,h1,h2,hv,h3⟩:=F.ex;exact uG h3 h1 O Z F.Xf h2 hv hx ha J U z
end
open PySem
noncomputable def FG(d:V)(vs zs:List V):List V:=match vs,zs with
 |[a,b],[c]=>[a,b,d,c]
 |_,_=>[]
def ya(C:OS)(sp:Sp)(d:V)(E:XK)(t tk:TA):TE:=λσ H Q=>t σ H λvs H1=>tk σ H1 λzs H2=>∀x dx,H2 x=Zi->H2 dx=Zi->dx≠x->
 sp (FG d (.ref x::vs) zs) (upd (upd H2 dx<|.own x) x<|.ins C dx []) (λv H3=>v=.Uy/\Q (.ref x) H3) E
structure Enc{α:Type}[DecidableEq α](e:α->RR)(n:Nat):Prop where
 eq:∀a b,TH (e a) (e b)=decide (a=b)
 lay:∀a,(e a).canLay0=Zj
 dep:∀a,(e a).depth<=n
theorem Enc.int:Enc TF 0:=#[λa b=>by unfold TH;rw[Ry];simp,λa=>by unfold S8;rfl,λa=>by unfold SD;exact aN _]
section
variable {α β γ:Type}[DecidableEq α][DecidableEq β][DecidableEq γ]{e:α->RR}{f:β->RR}{g:γ->RR}{n m:Nat}
theorem Enc.all(h:Enc e n):∀xs ys:List α,QN (xs.map e) (ys.map e)=decide (xs=ys)
 |[],[]=>by simp[QN]
 |x::xs,[]=>by simp[QN]
 |[],y::ys=>by simp[QN]
 |x::xs,y::ys=>by
  rw[iK,iK];unfold QN;rw[h.eq,h.all xs ys,<- Bool.decide_and];exact decide_eq_decide.mpr<|by rw[List.cons.injEq]
theorem Enc.Wj(h:Enc e n):∀xs:List α,Qn (xs.map e)=Zj
 |[]=>by simp[Qn]
 |x::xs=>by rw[iK];unfold Qn;rw[h.lay,h.Wj xs];rfl
theorem Enc.Wm(h:Enc e n):∀xs:List α,Qo (xs.map e)<=n
 |[]=>by simp[Qo]
 |x::xs=>by
  rw[iK];unfold Qo;have a:=h.dep x;have b:=h.Wm xs;lia
theorem Enc.list(h:Enc e n):Enc (λxs:List α=>PyData.list<|xs.map e)<|n+1:=
 #[λa b=>by unfold TH;exact h.all a b,λa=>by unfold S8;exact h.Wj a,λa=>by unfold SD;have:=h.Wm a;lia]
theorem Enc.two(h:Enc e n)(h2:Enc f m):Enc (λp:α×β=>PyData.tuple [e p.1,f p.2]) (max n m+1) where
 eq:=λa b=>by
  unfold TH QN QN QN;rw[h.eq,h2.eq,Bool.and_true,<- Bool.decide_and];exact decide_eq_decide.mpr<|by rw[Prod.ext_iff]
 lay:=λa=>by unfold S8 Qn Qn Qn;rw[h.lay,h2.lay];rfl
 dep:=λa=>by
  unfold SD Qo Qo Qo;have:=h.dep a.1;have:=h2.dep a.2;lia
theorem Jl{x:V}{a b:α}(h:Enc e n)(hn:n<=64)(dx:Dp K H (e a) x)(z:Dp K H (e b) y)(q:Q (.bl<|decide<|a=b) H):EV K x y H Q:=
 #[_,_,dx,z,h.lay a,h.lay b,dJ (h.dep a) hn,by rw[h.eq];exact q]
theorem yT{x:V}{a b:α}(h:Enc e n)(hn:n<=64)(dx:Dp K H (e a) x)(z:Dp K H (e b) y)(q:Q (.bl<|!decide (a=b)) H):By K x y H Q:=
 #[_,_,dx,z,h.lay a,h.lay b,dJ (h.dep a) hn,by rw[h.eq];exact q]
end
theorem AK{xs:List Int}(h:aB K H a<|xs.map V.int):Dp K H (.list<|xs.map TF)<|.ref a:=Gb h<|bU.ints xs
section
variable {R:Bool->Prop}
theorem B5{x c:V}{ty:OR}{b:Bool}(hc:uR c=Zj)(t:gX K H x ty)(k:P6 K ty (cval c)=Zh b)(q:R b):L2.X4 λz c' ty b=>[x,c]=[z,c']/\uR c'=Zj/\gX K H z ty/\P6 K ty (cval c')=Zh b/\R b:=#[x,c,ty,b,rfl,hc,t,k,q]
theorem zc(h:H a=Zh (.lst xs))(q:R Zj):L2.X4 λz c' ty b=>[V.ref a,V.ty "list"]=[z,c']/\uR c'=Zj/\gX K H z ty/\P6 K ty (cval c')=Zh b/\R b:=B5 rfl (.lst h) (yZ rfl) q
end
section
theorem LY(ns:List Int):∀n,n<=ns.length->preSum (λi=>ns.getD i 0) n=(ns.take n).sum
 |0,_=>by simp[preSum]
 |n+1,h=>by
  show preSum (λi=>ns.getD i 0) n+ns.getD n 0=_;rw[LY ns n<|∅,Sx];rw[fC,bV (show n<ns.length by lia),List.sum_append];simp
def IM(ns:List Int):Prop:=ns.length<=1000/\∀x∈ns,-1000000000<=x/\x<=1000000000
theorem sum_bound:∀(ns:List Int),(∀x∈ns,-1000000000<=x/\x<=1000000000)->-(ns.length*1000000000:Int)<=ns.sum/\ns.sum<=ns.length*1000000000
 |[],_=>by simp
 |x::r,h=>by
  have a:=h x aZ;have b:=sum_bound r λy z=>h y<|bF _ z;rw[List.sum_cons,cF];lia
theorem rK(hc:X.calm=Zj):oV X (.builtin "sum") λxs H Q=>L2.X2 λ(p:OS) (ns:List Int)=>xs=[.ref p]/\aB X.K H p (ns.map V.int)/\IM ns/\Q (.int ns.sum) H:=by
 intro pins s σ H xs us Q I r h;obtain⟨p,ns,rfl,hq,hs,q⟩:=h;obtain⟨u,rfl,rx⟩:=Ah r;cases rx;obtain⟨its,r',pl,hz⟩:=I.list hq;have J:=r'.length;rw[aM] at J;have hh:X.A.handled=Zi:=I.ok.hd hc;have hl:=pl.isList;have Z:p<s.heap.objs.size:=by obtain⟨_,e,_⟩:=hl;exact Pa e
 refine call_sum_walk<|wpAny_pyIter_list hl #[s.heap.objs.size,_,_,_,_,_,λi=>ns.getD i 0,rfl,Walks.list (A:=X.A.in1) hh s.heap.objs.size p (fQ Z) its.toArray,#[#[_,Pf _ rfl,rfl,rfl],hl.push _],λb hb=>?_,λi v hP=>?_,λj hj=>?_,λh' tk t' hk=>?_]
 .have aa:b=s.heap.objs.size∨b=p:=by simpa using hb
  show b<(s.heap.push _).objs.size;rw[QW];rcases aa with rfl|rfl
  .exact Ba _
  .exact Nat.lt_succ_of_lt Z
 .have U:its[i]?=Zh v:=by simpa using hP
  have hi:i<its.length:=(jS.mp U).1;obtain⟨b,hb⟩:∃b,ns[i]?=Zh b:=#[_,bV<|∅]
  obtain⟨u,hu,ru⟩:=r'.get (i:=i) (x:=.int b) (by rw[eJ,hb];rfl);rw[U] at hu;cases hu;obtain⟨t,rfl⟩:=ru;refine#[t,?_];show _=Value.int (ns.getD i 0) t;rw[fC,hb];rfl
 .have O:j<ns.length:=by simp at hj;lia
  have ac:ns.getD j 0∈ns:=by
   rw[fC,bV O];exact R5 O
  have b1:=hs.2 _ ac;have b2:=sum_bound (ns.take<|j+1) λy hy=>hs.2 y<|Ru hy;have b3:(ns.take<|j+1).length<=1000:=by rw[iF];have:=hs.1;lia
  rw[LY ns (j+1) O];show(-(2^63)<=ns.getD j 0/\ns.getD j 0<2^63)/\(-(2^63)<=(ns.take<|j+1).sum/\(ns.take<|j+1).sum<2^63);refine#[#[∅,∅],?_];lia
 .refine #[.int ns.sum,H,I.kept (t':=tk) λb o e=>hk b o ?_<|OT _ e,⟨t',?_⟩,q]
  .intro z;have:b=s.heap.objs.size:=by simpa using z
   exact absurd (Pa e)<|by rw[this];exact AA _
  .have:its.toArray.size=ns.length:=by simp[J]
   rw[this,LY ns ns.length<|aN _,R4]
theorem yr{t u v:Tok}(e:h.get? a=Zh { cls:=.type "range",data:=.fields (List.toArray [.int lo t,.int hi u,.int 1 v]) }):aW P w H h a<|.rng lo hi:=#[t,u,v,e]
theorem wZ:oV X (.type "range") λxs H Q=>∃n:Int,xs=[.int n]/\∀p,H p=Zi->Q (.ref p) (upd H p<|.rng 0 n):=by
 intro pins s σ H xs us Q I r h;obtain⟨n,rfl,q⟩:=h;obtain⟨u,rfl,z⟩:=Ah r;obtain⟨t,rfl⟩:=z;exact call_range_1 #[.ref s.heap.objs.size,_,I.laid (λb o e=>OT _ e) (aN _)<|yr<|Pf _ rfl,rfl,q _<|I.Uz.fresh<|aN _]
theorem oK:oV X (.type "range") λxs H Q=>L2.X2 λm n:Int=>xs=[.int m,.int n]/\∀p,H p=Zi->Q (.ref p) (upd H p<|.rng m n):=by
 intro pins s σ H xs us Q I r h;obtain⟨m,n,rfl,q⟩:=h;obtain⟨u,w',rfl,J,z⟩:=DY r;obtain⟨t,rfl⟩:=J;obtain⟨t',rfl⟩:=z;exact call_range_2 #[.ref s.heap.objs.size,_,I.laid (λb o e=>OT _ e) (aN _)<|yr<|Pf _ rfl,rfl,q _<|I.Uz.fresh<|aN _]
noncomputable def xm(lo hi:Int):List Int:=(OW (hi-lo).toNat).map λi:Nat=>lo+(i:Int)
theorem Ma(lo hi:Int):(xm lo hi).length=(hi-lo).toNat:=by unfold xm;rw[aM,fW]
theorem nM{i:Nat}(h:i<(hi-lo).toNat):(xm lo hi)[i]?=Zh (lo+i):=by unfold xm;rw[eJ,Ep h];rfl
theorem Mn(hc:X.calm=Zj):oV X (.type "list") λxs H Q=>L2.X3 λ(p:OS) (lo hi:Int)=>xs=[.ref p]/\H p=Zh (.rng lo hi)/\(-1000<=lo/\lo<=1000/\-1000<=hi/\hi<=1000)/\∀l,H l=Zi->Q (.ref l) (upd H l<|.lst<|(xm lo hi).map V.int):=by
 intro pins s σ H xs us Q I r h;obtain⟨p,lo,hi,rfl,Z,hb,q⟩:=h;obtain⟨u,rfl,rx⟩:=Ah r;cases rx;obtain⟨t,u,v,e⟩:=I.Uz p _ Z;have hh:X.A.handled=Zi:=I.ok.hd hc;refine call_list_range (n:=(hi-lo).toNat) hh e (small_one ∅ ∅ ∅<|∅) (by rw[rangeSize_one];split<;>lia) ∅ λh' tk J c' hk hS O=>?_;have hz:(xm lo hi).length<=1000*2:=by rw[Ma];lia
 refine#[.ref s.heap.objs.size,_,I.laid (t':=tk) hk (aN _) (o:=.lst<|(xm lo hi).map V.int) #[?_,J.toList,c',?_,by simpa using hS],rfl,q _<|I.Uz.fresh<|aN _]
 .rw [aM];exact dJ hz<|by decide
 .have hsz:J.size=(hi-lo).toNat:=O.1;have U:∀(vs:List OR) (k:Nat) (zs:List Int),vs.length=zs.length->(∀(j:Nat) v z,vs[j]?=Zh v->zs[j]?=Zh z->∃t,v=Value.int z t)->Vals (zs.map V.int) vs:=by
   intro vs;induction vs with
   |nil=>intro k zs h1 _;cases zs with
    |nil=>exact .nil
    |cons _ _=>cases h1
   |cons v r ih=>intro k zs h1 h2;cases zs with
    |nil=>cases h1
    |cons z zr=>exact .cons (h2 0 v z rfl rfl)<|ih 0 zr (by simpa using h1) λj v' z' a b=>h2 (j+1) v' z' (by simpa using a)<|by simpa using b
  refine U J.toList 0 (xm lo hi) (by rw[Ma,Array.length_toList,hsz]) λj v z a b=>?_;have a':J[j]?=Zh v:=by simpa using a
  obtain⟨t,rfl⟩:=O.2 j v a';have hj:j<(hi-lo).toNat:=by have:=(Array.getElem?_eq_some_iff.mp a').1;lia
  rw[nM hj] at b;cases b;exact#[t,by rw[Int.mul_one]]
theorem jX:oV X (.builtin "sorted") λxs H Q=>L2.X2 λ(p:OS) (ns:List Int)=>xs=[.ref p]/\aB X.K H p (ns.map V.int)/\ns.length<64/\∀(l:OS) (ms:List Int),H l=Zi->ms.Perm ns->ms.Pairwise (·<=·)->Q (.ref l) (upd H l<|.lst<|ms.map V.int):=by
 intro pins s σ H xs us Q I r h;obtain⟨p,ns,rfl,O,hn,q⟩:=h;obtain⟨u,rfl,rx⟩:=Ah r;cases rx;obtain⟨its,r',pl,hz⟩:=I.list O;have J:=r'.length;rw[aM] at J;refine sorted_ints pl.isList (intsAre_of r') ∅ λout z a1 a2 a3=>?_;obtain⟨e,Z⟩:=sortedAll_at s.heap its out;have U:z.length=ns.length:=a2.length_eq;refine#[.ref<|s.heap.objs.size+1,_,I.laid (t':=s.toks) (λb o e=>sortedAll_old e) (kR _) (o:=.lst<|z.map V.int) ⟨?_,out.toList,e,J4 a1,by simpa using Z⟩,rfl,q _ z (I.Uz.fresh<|kR _) a2 a3];rw[aM];exact dJ (show z.length<=1000 by lia)<|by decide
end
theorem aC.get(s:aC H H')(h:H b=Zh o):H' b=Zh o:=s b o h
theorem aJ(h:H p=Zi)(o:HO):∃H',upd H p o=H'/\aC H H'/\H' p=Zh o:=#[_,rfl,bO h o,aU]
section
variable {pins:List (OS×Qf)}
theorem Inv.Xd(I:Inv X pins σ H s){ch:List OS}{t':Nat}(Z:∀b∈ch,jQ X pins H b)(k:∀b ob,b∉ch->s.heap.get? b=Zh ob->h'.get? b=Zh ob)
  (U:s.heap.objs.size<=p) (new:aW X.prog X.w (upd H p o) h' p o):Inv X pins σ (upd H p o) { s with heap:=h',toks:=t' }:=by
 have hn:H p=Zi:=I.Uz.fresh U;have O:∀b u,H b=Zh u->b∉ch:=λb u e z=>by rw[(Z b z).1] at e;cases e
 refine I.call (g':=s.gens) (t':=t') (d':=s.drawn) (ch:=ch) #[λb ob e n _ hx=>k b ob hx e,λb ob e n _ hx=>#[ob.slots,k b ob hx e],λb ob e n _=>?_,λb ob e hx=>#[ob,k b ob hx e],λb xs e=>?_,λb ob u e=>?_,λb qs e=>#[(List.toArray []),?_]] (λb u e=>?_) I.bare λb J=>?_
 .rw [aO<|fQ<|jI (Pa e) U];exact n
 .rw [aO<|bE e hn];exact e
 .rw [aO<|bE e hn];exact e
 .rw [aO<|bE e hn,e];simp
 .by_cases J:b=p
  .subst J;rw[aU] at e;cases e;exact new
  .rw [aO J] at e;refine(I.Uz b u e).UR (λc v hc q=>k c v ?_ q) (λc q=>by rw[aO<|bE q hn];exact q) λc xs q=>by rw[aO<|bE q hn];exact q
   rcases hc with z|z
   .rw [z];exact O b u e
   .exact O c _ z
 .obtain ⟨a1,a2,a3,a4,a5,a6⟩:=Z b J;exact#[a4,a2,a5,a6]
end
noncomputable abbrev FZ(o:Qf):HO:=.frz o<|.ext λ_=>True
theorem Ic{o:Qf}(e:h.get? a=Zh o):aW P w H h a<|FZ o:=#[e,trivial,#[o,e],λ_ _ _ _=>trivial]
theorem G3{o:Qf}(x:cY P w H h)(e:H a=Zh (FZ o)):h.get? a=Zh o:=(x a _ e).1
def fB(H:Hp)(c:OS)(qual:Pj):Prop:=∃oc vs t,H c=Zh (FZ oc)/\oc.data=.fields vs/\vs[1]?=Zh (.str qual t)
theorem fB.rec(x:cY P w H h)(k:fB H c qual):h.CodeRec (.ref c) qual:=
 let ⟨oc,vs,t,e,d,v⟩:=k;#[c,oc,vs,t,rfl,G3 x e,d,v]
structure kO(H:Hp)(g:OS)(iname iq:Pj)(ip:Q0)(ib:List PM)(isc:Qq)(fr:List Pj)(cs:List V)(cl:List<|Pj×OS):Prop where
 obj:∃(doc pm ctv:OR) (c':OS),H g=Zh (FZ<|Qx iname iq ip ib isc cl doc pm c' ctv)/\fB H c' iq
 keys:∀x c,cl.lookup x=Zh c->x∈fr
 inj:∀x y c,cl.lookup x=Zh c->cl.lookup y=Zh c->x=y
 cell:∀(i:Nat) (x:Pj),fr[i]?=Zh x->∃v c u o,cs[i]?=Zh v/\cl.lookup x=Zh c/\RelV v u/\H c=Zh (FZ o)/\o.data=.cell (Zh u)
 len:cs.length=fr.length
def AX(H:Hp)(g:OS)(iname iq:Pj)(ip:Q0)(ib:List PM)(isc:Qq)(fr:List Pj)(cs:List V):Prop:=∃cl,kO H g iname iq ip ib isc fr cs cl
def F8(H H':Hp):Prop:=∀b o,H b=Zh (FZ o)->H' b=Zh (FZ o)
theorem fB.mono{q:Pj}(e:F8 H H')(k:fB H c q):fB H' c q:=let ⟨oc,vs,t,a,d,v⟩:=k;#[oc,vs,t,e _ _ a,d,v]
theorem kO.mono{g:OS}{fr:List Pj}(e:F8 H H')(k:kO H g iname iq ip ib isc fr cs cl):kO H' g iname iq ip ib isc fr cs cl where
 obj:=let ⟨doc,pm,ctv,c',a,b⟩:=k.obj;#[doc,pm,ctv,c',e _ _ a,b.mono e]
 keys:=k.keys
 inj:=k.inj
 cell:=λi x h=>let ⟨v,c,u,o,a1,a2,a3,a4,a5⟩:=k.cell i x h;#[v,c,u,o,a1,a2,a3,e _ _ a4,a5]
 len:=k.len
theorem AX.mono{g:OS}{fr:List Pj}(e:F8 H H')(k:AX H g iname iq ip ib isc fr cs):AX H' g iname iq ip ib isc fr cs:=let ⟨cl,x⟩:=k;#[cl,x.mono e]
theorem aC.fz(e:aC H H'):F8 H H':=λb o h=>e b _ h
theorem kO.XC{g:OS}{fr:List Pj}{cs':List V}{cl':List<|Pj×OS}(k:kO H g iname iq ip ib isc fr cs cl)(J:kO H g iname iq ip ib isc fr cs' cl'):cs=cs':=by
 obtain⟨d1,p1,t1,c1,e1,_⟩:=k.obj;obtain⟨d2,p2,t2,c2,e2,_⟩:=J.obj;rw[e1] at e2;have z:cl=cl':=by
  have:=OX e2;injection this with h1 h2
  injection h1 with h3 h4 h5
  injection h5 with h6
  injection h6
 subst z;refine RU λi=>?_;by_cases hi:i<fr.length
 .obtain ⟨v,c,u,o,a1,a2,a3,a4,a5⟩:=k.cell i _<|bV hi;obtain⟨v',c',u',o',b1,U,b3,Z,O⟩:=J.cell i _<|bV hi;rw[a2] at U;cases U;rw[a4] at Z;have eo:o=o':=by
   have:=OX Z;injection this
  subst eo;rw[a5] at O;have eu:u=u':=by injection O with h;injection h
  subst eu;rw[a1,b1,a3.inj b3]
 .rw [r9<|by rw[k.len];lia,r9<|by rw[J.len];lia]
open Classical in
noncomputable def hid(cl:List<|Pj×OS)(H:Hp):Hp:=λb=>if ∃x,cl.lookup x=Zh b then Zi else H b
open Classical in
noncomputable def back(cl:List<|Pj×OS)(H H1:Hp):Hp:=λb=>if ∃x,cl.lookup x=Zh b then H b else H1 b
theorem FW(h:cl.lookup x=Zh b):hid cl H b=Zi:=by unfold hid;rw[Z9 #[x,h]]
theorem AF(h:¬ ∃x,cl.lookup x=Zh b):hid cl H b=H b:=by unfold hid;rw[Z8 h]
theorem G2(h:cl.lookup x=Zh b):back cl H H1 b=H b:=by unfold back;rw[Z9 #[x,h]]
theorem xn(h:¬ ∃x,cl.lookup x=Zh b):back cl H H1 b=H1 b:=by unfold back;rw[Z8 h]
theorem Fz(h:hid cl H b=Zh o):H b=Zh o:=by
 by_cases q:∃x,cl.lookup x=Zh b
 .obtain ⟨x,q⟩:=q;rw[FW q] at h;cases h
 .rw [AF q] at h;exact h
def Cells(cl:List<|Pj×OS)(H:Hp):Prop:=∀x c,cl.lookup x=Zh c->∃u o,H c=Zh (FZ o)/\o.data=.cell u
theorem kO.cells{g:OS}{fr:List Pj}(k:kO H g iname iq ip ib isc fr cs cl):Cells cl H:=λx c h=>by
 obtain⟨i,hi⟩:=Sy<|k.keys x c h;obtain⟨v,c2,u,o,_,h2,_,z,J⟩:=k.cell i x hi;rw[h] at h2;cases h2;exact#[_,o,z,J]
theorem Ee(C:Cells cl H)(h:H b=Zh o)(n:∀ob,o≠FZ ob):hid cl H b=Zh o:=by
 rw[AF,h];rintro⟨x,q⟩;obtain⟨u,ob,e,_⟩:=C x b q;rw[h] at e;exact n ob<|OX e
theorem JN{l:OS}(n:¬ ∃x,cl.lookup x=Zh l):back cl H (upd H1 l o)=upd (back cl H H1) l o:=by
 funext b;by_cases q:∃x,cl.lookup x=Zh b
 .have:b≠l:=λe=>n<|e▸q;obtain⟨x,q⟩:=q;rw[G2 q,aO this,G2 q]
 .rw [xn q];by_cases e:b=l
  .subst e;rw[aU,aU]
  .rw [aO e,aO e,xn q]
def Gy(cl:List<|Pj×OS)(H:Hp):Prop:=∀x c,cl.lookup x=Zh c->H c=Zi
structure lZ(N ps fr:List Pj)(sc:Qq):Prop where
 kind:sc.kind=.function
 co:sc.isCoroutine=Zk
 gen:sc.isGenerator=Zk
 nd:N.Nodup
 pre:N.take ps.length=ps
 XU:N.drop (N.length-fr.length)=fr
 two:ps.length+fr.length<=N.length
 par:∀x∈ps,sc.names.lookup x=Zh .local
 Wh:∀y∈sc.names,y.2≠.cell
 free:∀x∈fr,sc.names.lookup x=Zh .free
 only:∀x,sc.names.lookup x=Zh .free->x∈fr
noncomputable def D6(N:List Pj)(vs cs:List V):St:=vs.map Zh++(Pp (N.length-vs.length-cs.length) Zi++cs.map Zh)
noncomputable def GS(P:Pl)(w:PN)(K:W.Frag)(mg:Pj->Option OR)(base:PJ)(N:List Pj)(qual:Pj)(scope:Qq)(f:OS)(cd:OR)(cl:List<|Pj×OS)(A:Py)(outer:List RN)(s:OU)(H:Hp):Cx where
 prog:=P
 w:=w
 K:=K
 mg:=mg
 base:=base
 A:=A.deeper<|RZ qual scope s.heap.objs.size f cd cl
 N:=N
 s₀:=s
 H₀:=H
 env:=RZ qual scope s.heap.objs.size f cd cl
 outer:=outer
 stack:=RZ qual scope s.heap.objs.size f cd cl::outer
 ex:=[]
 calm:=Zj
 fn:=λ_=>Zk
 pn:=[]
 xe:=λ_ _=>False
theorem sC{vs:List V}{i:Nat}(hl:vs.length+cs.length<=N.length)(h:(D6 N vs cs)[i]?=Zh (Zh v)):
  vs[i]?=Zh v∨(N.length-cs.length<=i/\cs[i-(N.length-cs.length)]?=Zh v):=by
 unfold D6 at h;by_cases h1:i<vs.length
 .rw [mB (by simpa using h1),eJ] at h;cases e:vs[i]? with
  |none=>rw[e] at h;cases h
  |some a=>rw[e] at h;cases h;exact .inl rfl
 .rw [kE (by simpa using Sa h1),aM] at h;by_cases h2:i-vs.length<N.length-vs.length-cs.length
  .rw [mB (by simpa using h2),List.getElem?_replicate,Z9 h2] at h;cases h
  .rw [kE (by simpa using Sa h2),vR,eJ] at h;right;refine#[∅,?_];rw[show i-(N.length-cs.length)=i-vs.length-(N.length-vs.length-cs.length) by lia];cases e:cs[i-vs.length-(N.length-vs.length-cs.length)]? with
   |none=>rw[e] at h;cases h
   |some a=>rw[e] at h;cases h;rfl
theorem jR:∀(ps:List Pj) (us:List OR),((ps.zip us).map (·.1)).Sublist ps
 |[],_=>by simp
 |p::ps,[]=>by simp
 |p::ps,u::us=>by rw[List.zip_cons_cons,iK];exact(jR ps us).cons₂ p
theorem jB{α:Type}:∀{cs:List<|Pj×α} {n:Pj} {c:α},(cs.map (·.1)).Nodup->(n,c)∈cs->cs.lookup n=Zh c
 |(m,d)::r,n,c,hn,h=>by
  rw[iK] at hn;have J:=Ex.mp hn;rw[AZ];rcases bY.mp h with e|h
  .cases e;simp
  .have:n≠m:=λz=>J.1<|z▸SJ (f:=(·.1)) h;have:(n==m)=Zk:=by simpa using this
   rw[this];exact jB J.2 h
theorem rY{us:List OR}(J:ps.Nodup){i:Nat}{u:OR}(h1:ps[i]?=Zh x)(h2:us[i]?=Zh u):((ps.zip us).reverse).lookup x=Zh u:=by
 have hm:(x,u)∈(ps.zip us).reverse:=by
  rw[GF];refine jD (i:=i) ?_;rw[List.getElem?_zip_eq_some];exact#[h1,h2]
 have z:((ps.zip us).reverse.map (·.1)).Nodup:=by
  rw[List.map_reverse];exact List.pairwise_reverse.mpr<|List.Pairwise.imp (λh=>Pe h)<|J.sublist<|jR ps us
 exact jB z hm
section
variable {A:Py}{g:OS}{fr:List Pj}{vs:List V}{us:List OR}
theorem Aa(C:kO H g iname iq ip ib isc fr cs cl)(S:lZ N ps fr isc)(hr:aY (k+1) A)(e0:p9 P w K mg base A outer s H)(hl:vs.length=ps.length)(r:Vals vs us)
  (af:∀(ac pm aa:OR) (c':OS),Us (PySem.W.fnX iname iq ip ib isc cl .none .none ac pm Zi (.ref c') aa) #[us,[]]=pure (ps.zip us))
  (ag:∀(cd:OR) (A':Py),aY k A'->∃t,kN (GS P w K mg base N iq isc g cd cl A outer s<|hid cl H) ib t/\t { nx:=λ_ H'=>Gy cl H'->Q .Uy (back cl H H'),rt:=λv H'=>Gy cl H'->Q v (back cl H H') } (D6 N vs cs) (hid cl H)):
  Ra (Pd P w) A (.call (.ref g) #[us,[]]) (λr s'=>match r with|.ok (.ret u)=>CE outer P w H s Q u s'|_=>False) s:=by
 obtain⟨ac,pm,aa,c',hg,hc⟩:=C.obj;have ao:=G3 e0.Uz hg;have lim:s.heap.NoLimit:=e0.mod.nolimit.keeps λb o e=>(e0.bs b o e).1;have aq:ps.Nodup:=by rw[<- S.pre];exact S.nd.sublist<|Ew _ _
 refine codeAny_call_def (o:=Qx iname iq ip ib isc cl ac pm c' aa) (fd:=PySem.W.fnX iname iq ip ib isc cl .none .none ac pm Zi (.ref c') aa) (body:=ib) (binds:=ps.zip us) hr.depth ao rfl lim (hc.rec e0.Uz) rfl (.of_eq<|af ac pm aa c') S.Wh (λy hy=>S.par _ (Rx hy).1) (λah as Z=>?_) S.co S.gen S.kind;obtain⟨t,ht,hq⟩:=ag (.ref c') _<|hr.deeper<|RZ iq isc s.heap.objs.size g (.ref c') cl;have O:∀x c,cl.lookup x=Zh c->∃o u,H c=Zh (FZ o)/\s.heap.get? c=Zh o/\o.data=.cell u:=λx c h=>by
  obtain⟨u,o,e,d⟩:=C.cells x c h;exact#[o,u,e,G3 e0.Uz e,d]
 have am:∀x c,cl.lookup x=Zh c->c∉frs outer:=λx c h hb=>by
  obtain⟨o,u,e,_⟩:=O x c h;rw[e0.Wk c hb] at e;cases e
 have av:ps.length<=N.length:=by have:=S.two;lia
 have I:Inv (GS P w K mg base N iq isc g (.ref c') cl A outer s<|hid cl H) [] (D6 N vs cs) (hid cl H) { s with heap:=ah,toks:=s.toks+(ps.zip us).length }:=by
  refine#[#[e0.mod,S.kind,rfl,rfl,aN _,C.inj,λx hx=>?_,λy c h=>absurd h (by simp[GS]),λ_=>hr.hd,λv e=>(by have e':A.handled=Zh v:=e;have e2:A.handled=Zi:=hr.hd;rw[e2] at e';cases e'),Around.frames_deeper e0.frames,.inr #[rfl,rfl],λb z=>absurd (show b∈([]:List OS) from z) (by simp),λb o e=>?_,e0.V9,λb _ _ z=>absurd (show b∈([]:List OS) from z) (by simp),λb z=>absurd (show b∈([]:List OS) from z) (by simp),e0.U0,λb hb=>?_],rfl,e0.bare,Un.kept Z,#[_,as,λi x v h1 h2 h3=>?_],λx c h=>?_,?_,λx c h=>FW h,λp hp=>absurd (show p∈([]:List<|OS×Qf) from hp) (by simp),?_,?_]
  .have hx:isc.names.lookup x=Zh .cell∨isc.names.lookup x=Zh .free:=hx;rcases hx with hx|hx
   .exact absurd rfl (S.Wh _<|PH hx)
   .obtain ⟨i,hi⟩:=Sy<|S.only x hx;obtain⟨v,c,u,o,_,h2,_⟩:=C.cell i x hi;exact#[c,h2]
  .refine #[(e0.bs b o e).1,?_];show hid cl H b=Zi;by_cases q:∃x,cl.lookup x=Zh b
   .obtain ⟨x,q⟩:=q;exact FW q
   .rw [AF q];exact(e0.bs b o e).2
  .show hid cl H b=Zi;rw[AF]
   .exact e0.Wk b hb
   .rintro ⟨x,q⟩;exact am x b q hb
  .have h1:N[i]?=Zh x:=h1;have ap:=C.len;rcases sC (by rw[hl,ap];exact S.two) h2 with h4|⟨h4,h5⟩
   .obtain ⟨u,hu,rv⟩:=r.get h4;have hi:i<vs.length:=(jS.mp h4).1;have hp:ps[i]?=Zh x:=by rw[<- S.pre,GK<|∅];exact h1
    exact#[u,rv,.inl #[S.par x<|jD hp,rY aq hp hu]]
   .have hf:fr[i-(N.length-cs.length)]?=Zh x:=by
     rw[<- S.XU,AY,<- ap,show N.length-cs.length+(i-(N.length-cs.length))=i by lia];exact h1
    obtain⟨v',c,u,o,a1,a2,a3,a4,a5⟩:=C.cell _ x hf;rw[h5] at a1;cases a1;refine#[u,a3,.inr #[.inr<|S.free x<|jD hf,c,a2,o,Z _ _<|G3 e0.Uz a4,a5]]
  .obtain ⟨o,u,e,e2,d⟩:=O x c h;exact#[u,o,Z _ _ e2,d]
  .show hid cl H s.heap.objs.size=Zi;have hn:=e0.Uz.fresh<|aN _;rw[AF]
   .exact hn
   .rintro ⟨x,q⟩;obtain⟨o,u,e,_⟩:=O x _ q;rw[hn] at e;cases e
  .intro b o e;have e':=Fz e;refine(e0.Uz b o e').UR (λc v _ q=>Z c v q) (λc q=>?_) λc xs q=>?_
   .exact Ee C.cells q (λob z=>by cases z)
   .exact Ee C.cells q (λob z=>by cases z)
  .unfold D6;show _=N.length;have:=S.two;have:=C.len;simp only[aQ,aM,vR];lia
 refine Pu (ht [] _ (D6 N vs cs) (hid cl H) _ I hq) (λfl s' hs=>?_) λe s' hs=>PD hs;have fin:∀{ad:St} {H':Hp} {v:V} {u:OR},Inv (GS P w K mg base N iq isc g (.ref c') cl A outer s<|hid cl H) [] ad H' s'->RelV v u->(Gy cl H'->Q v (back cl H H'))->CE outer P w H s Q u s':=
  fun {ad H' v u} J rv q=>by
   have un:Un (frs outer) [] (hid cl H) H' s.heap s'.heap:=J.base;have ai:∀b:OS,b∉([]:List OS):=λb=>by simp
   have ae:∀x c o,cl.lookup x=Zh c->s.heap.get? c=Zh o->s'.heap.get? c=Zh o:=λx c o h e=>un.keep c o e (FW h) (am x c h)<|ai c;have U:∀x c,cl.lookup x=Zh c->H' c=Zi:=λx c h=>by
    obtain⟨o,u,e,e2,d⟩:=O x c h;exact un.free c o e2 (FW h)<|ai c
   refine#[v,back cl H H',J.os,J.bare,#[λb o e n hb hx=>?_,λb o e n hb hx=>?_,λb o e n hx=>?_,un.there,λb xs e=>?_,λb o u' e=>?_,λb au e=>?_],λb o e=>?_,rv,q U]
   .refine un.keep b o e ?_ hb hx;by_cases q:∃x,cl.lookup x=Zh b
    .obtain ⟨x,q⟩:=q;exact FW q
    .rw [AF q];exact n
   .refine un.slot b o e ?_ hb hx;by_cases q:∃x,cl.lookup x=Zh b
    .obtain ⟨x,q⟩:=q;exact FW q
    .rw [AF q];exact n
   .have nc:¬ ∃x,cl.lookup x=Zh b:=by
     rintro⟨x,q⟩;obtain⟨o,u,e,_⟩:=O x b q;rw[n] at e;cases e
    rw[xn nc];exact un.free b o e (by rw[AF nc];exact n) hx
   .have e2:=un.UN b xs (Ee C.cells e λob z=>by cases z);rw[xn]
    .exact e2
    .rintro ⟨x,q⟩;rw[U x b q] at e2;cases e2
   .by_cases q:∃x,cl.lookup x=Zh b
    .obtain ⟨x,q⟩:=q;rw[G2 q];exact e
    .rw [xn q];exact un.UK b o u'<|by rw[AF q];exact e
   .obtain ⟨aj,e2⟩:=un.UJ b au (Ee C.cells e λob z=>by cases z);refine#[aj,?_];rw[xn]
    .exact e2
    .rintro ⟨x,q⟩;rw[U x b q] at e2;cases e2
   .have up:∀c oc,H' c=Zh oc->back cl H H' c=Zh oc:=λc oc q=>by
     rw[xn]
     .exact q
     .rintro ⟨x,z⟩;rw[U x c z] at q;cases q
    by_cases q:∃x,cl.lookup x=Zh b
    .obtain ⟨x,q⟩:=q;rw[G2 q] at e;obtain⟨o2,u2,e2,e3,d⟩:=O x b q;rw[e] at e2;cases e2;exact Ic<|ae x b _ q e3
    .rw [xn q] at e;exact(J.Uz b o e).UR (λc v _ q=>q) (λc q=>up c _ q) λc xs q=>up c _ q
 cases fl with
 |ret u=>
  obtain⟨v,ad,H',J,rv,q⟩:=hs;exact fin J rv q
 |next=>
  obtain⟨ad,H',J,q⟩:=hs;exact fin (v:=V.Uy) (u:=Value.none) J rfl q
 |brk=>
  obtain⟨_,_,_,q⟩:=hs;exact PD q
 |cont=>
  obtain⟨_,_,_,q⟩:=hs;exact PD q
end
def ye(r:V->List V->Hp->VK->Prop)(ta:TE)(t:TA):TE:=λσ H Q=>ta σ H λf H1=>(∃g o,f=.ref g/\H1 g=Zh (FZ o)/\∃fd,o.data=.func fd)/\t σ H1 λvs H2=>r f vs H2 Q
def IX(X:Cx)(r:V->List V->Hp->VK->Prop):Prop:=
 ∀(pins:List<|OS×Qf) (s:OU) (σ:St) (H:Hp) (f:OS) (vs:List V) (us:List OR) (Q:VK),Inv X pins σ H s->Vals vs us->r (.ref f) vs H Q->
  SR f s.heap/\OZ (Pd X.prog X.w) X.A (call (.ref f) us) (EP X pins σ Q) X.xe s
theorem u9{g:OS}{o:Qf}(e:h.get? g=Zh o)(d:o.data=.func fd):SR g h:=by
 obtain⟨oc,od,z,sl⟩:=o;have d':z=.func fd:=d;subst d';exact#[oc,od,fd,sl,e]
theorem yN{p:RC}{e:P1}{es:List P1}{t:TA}{r:V->List V->Hp->VK->Prop}(hc:IX X r)(hx:PE X (.Name x p) ta)(ha:PA X (e::es) t)
  (he:Pb (e::es) X.env=(Zk,eval e X.env)::Pb es X.env:=by rfl) (z:(Qd pos<|Pb es X.env).any (·.1)=Zk:=by rfl):PE X (.Call (.Name x p) (e::es) [] pos)<|ye r ta t:=by
 intro pins s σ H Q I h;refine Qk<|thn (hx pins s σ H _ I h) λv s1 J=>?_;obtain⟨f,H1,O,rf,⟨g,o,Z,hg,fd,hd⟩,q⟩:=J;subst Z;cases rf;refine PySem.W.callWith_F (u9 (G3 O.Uz hg) hd) (thn (ha pos pins s1 σ H1 _ O q) λus s2 J=>?_) he z;obtain⟨vs,H2,I2,r2,U⟩:=J;exact hc pins s2 σ H2 g vs us Q I2 r2 U
structure pe(P:Pl)(w:PN)(K:W.Frag)(mg:Pj->Option OR)(base:PJ)(k:Nat)(r:V->List V->Hp->VK->Prop):Prop where
 run:∀(A:Py) (outer:List RN) (s:OU) (H:Hp) (f:OS) (vs:List V) (us:List OR) (Q:VK),aY k A->p9 P w K mg base A outer s H->Vals vs us->r (.ref f) vs H Q->
  SR f s.heap/\Ra (Pd P w) A (.call (.ref f) #[us,[]]) (λr s'=>match r with|.ok (.ret u)=>CE outer P w H s Q u s'|_=>False) s
theorem pe.at{r:V->List V->Hp->VK->Prop}(C:pe X.prog X.w X.K X.mg X.base k r)(J:aY k X.A):IX X r:=by
 intro pins s σ H f vs us Q I rv h;obtain⟨h1,h2⟩:=C.run X.A X.stack s H f vs us Q J I.Wl rv h;refine#[h1,Rz<|QZ h2 λr s' z=>?_];cases r with
 |error e=>exact PD z
 |ok fl=>
  cases fl with
  |ret u=>exact I.after z
  |next=>exact PD z
  |brk=>exact PD z
  |cont=>exact PD z
theorem AX.fnAt{g:OS}{fr:List Pj}(x:cY P w H h)(C:kO H g iname iq ip ib isc fr cs cl):SR g h:=by
 obtain⟨z,O,J,c',e,_⟩:=C.obj;exact u9 (G3 x e) rfl
theorem FQ{fr:List Pj}{r:V->List V->Hp->VK->Prop}(S:lZ N ps fr isc)
  (Z:∀f vs H Q,r f vs H Q->∃g cs,f=.ref g/\AX H g iname iq ip ib isc fr cs) (len:∀f vs H Q,r f vs H Q->vs.length=ps.length)
  (U:∀(cl:List<|Pj×OS) (J pm O:OR) (c':OS) (us:List OR),us.length=ps.length->Us (PySem.W.fnX iname iq ip ib isc cl .none .none J pm Zi (.ref c') O) #[us,[]]=pure (ps.zip us))
  (z:∀(g:OS) (cs:List V) (cl:List<|Pj×OS) (cd:OR) (A:Py) (outer:List RN) (s:OU) (H:Hp) (vs:List V) (Q:VK),aY k (A.deeper<|RZ iq isc s.heap.objs.size g cd cl)->kO H g iname iq ip ib isc fr cs cl->r (.ref g) vs H Q-> ∃t,kN (GS P w K mg base N iq isc g cd cl A outer s<|hid cl H) ib t/\t { nx:=λ_ H'=>Gy cl H'->Q .Uy (back cl H H'),rt:=λv H'=>Gy cl H'->Q v (back cl H H') } (D6 N vs cs) (hid cl H)):pe P w K mg base (k+1) r:=by
 refine#[λA outer s H f vs us Q hr e0 rv h=>?_];obtain⟨g,cs,eg,cl,C⟩:=Z _ _ _ _ h;cases eg;have hl:=len _ _ _ _ h;refine#[AX.fnAt e0.Uz C,Aa (k:=k) C S hr e0 hl rv (λJ pm O c'=>U cl J pm O c' us<|by rw[<- rv.length];exact hl) λcd A' aa=>?_];exact z f cs cl cd A outer s H vs Q (hr.deeper _) C h
theorem Gy.ne(n:Gy cl H)(h:H b=Zh o):¬ ∃x,cl.lookup x=Zh b:=λ⟨x,e⟩=>by rw[n x b e] at h;cases h
def kD(H:Hp)(Pt:OS)(pos:RC)(iq:Pj):Prop:=H Pt=Zh (.tbl (List.toArray []))∨∃c',H Pt=Zh (.tbl (List.toArray [QO pos.line,QO pos.col,.ref c']))/\fB H c' iq
theorem kD.mono(e:H' Pt=H Pt)(f:F8 H H')(k:kD H Pt pos iq):kD H' Pt pos iq:=by
 rcases k with k|⟨c',k,q⟩
 .exact .inl (e.trans k)
 .exact .inr #[c',e.trans k,q.mono f]
def D0(mg:Pj->Option OR)(h:PJ):Prop:=∃bm ob,mg "__builtins__"=Zh (.ref bm)/\bm≠TB/\h.get? bm=Zh ob/\ob.cls=.type "module"/\ob.dict=Zh TB/\ob.data=.plain
structure p8(H H':Hp)(Pt:OS)(pos:RC)(g:OS)(iname iq:Pj)(ip:Q0)(ib:List PM)(isc:Qq)(fr:List Pj)(cs:List V):Prop where
 same:∀b o,b≠Pt->H b=Zh o->H' b=Zh o
 tab:kD H' Pt pos iq
 W9:AX H' g iname iq ip ib isc fr cs
 fresh:H g=Zi
section
variable {pins:List (OS×Qf)}
structure pZ(H H':Hp)(Pt:OS)(pos:RC)(g:OS)(iname iq:Pj)(ip:Q0)(ib:List PM)(isc:Qq)(cl:List<|Pj×OS):Prop where
 same:∀b o,b≠Pt->H b=Zh o->H' b=Zh o
 tab:kD H' Pt pos iq
 obj:∃(doc pm ctv:OR) (c':OS),H' g=Zh (FZ<|Qx iname iq ip ib isc cl doc pm c' ctv)/\fB H' c' iq
 fresh:H g=Zi
theorem Inv.Xg(I:Inv X pins σ H s){c':OS}{ps J:Array OR}{oc fo:Qf}(U:H Pt=Zh (.tbl ps))(hx:Ri Pt s.heap h')(Z:s.heap.objs.size<=c')(aa:c'<h'.objs.size)(ae:h'.get? c'=Zh oc)
  (ac:h'.get? Pt=Zh (QI<|ps++J)) (af:fo.isFreed=Zk):Inv X pins σ (upd (upd (upd H Pt<|.tbl<|ps++J) c'<|FZ oc) h'.objs.size<|FZ fo) { s with heap:=h'.push fo,toks:=tk }:=by
 have gn:∀b o,s.heap.get? b=Zh o->b≠h'.objs.size/\b≠c':=λb o e=>by
  have l:=Pa e;exact#[fQ<|Tn (jI l Z) aa,fQ<|jI l Z]
 have gt:∀b o,H b=Zh o->b≠h'.objs.size/\b≠c':=λb o e=>by
  have l:=I.Uz.lt e;exact#[fQ<|Tn (jI l Z) aa,fQ<|jI l Z]
 have np:∀b,H b=Zi->b≠Pt:=λb n z=>by rw[z,U] at n;cases n
 have cg:c'≠h'.objs.size:=fQ aa;have O:∀b o,b≠Pt->H b=Zh o->upd (upd (upd H Pt<|.tbl<|ps++J) c'<|FZ oc) h'.objs.size (FZ fo) b=Zh o:=λb o n e=>by
  rw[aO (gt b o e).1,aO (gt b o e).2,aO n];exact e
 have ad:upd (upd (upd H Pt<|.tbl<|ps++J) c'<|FZ oc) h'.objs.size (FZ fo) Pt=Zh (.tbl<|ps++J):=by
  rw[aO (gt Pt _ U).1,aO (gt Pt _ U).2,aU]
 refine I.un (h':=h'.push fo) (t':=tk) #[λb o e n _ _=>?_,λb o e n _ _=>?_,λb o e n _=>?_,λb o e _=>?_,λb xs e=>?_,λb o u e=>?_,λb qs e=>?_] λb o e=>?_
 .exact OT _ (hx b o (np b n) e)
 .exact #[o.slots,OT _<|hx b o (np b n) e]
 .rw [aO (gn b o e).1,aO (gn b o e).2,aO<|np b n];exact n
 .by_cases q:b=Pt
  .subst q;exact#[_,OT _ ac]
  .exact #[o,OT _<|hx b o q e]
 .exact O b _ (λz=>by rw[z,U] at e;cases e) e
 .exact O b _ (λz=>by rw[z,U] at e;cases e) e
 .by_cases q:b=Pt
  .subst q;rw[U] at e;cases e;exact#[J,ad]
  .exact #[(List.toArray []),by rw[O b _ q e];simp]
 .by_cases q1:b=h'.objs.size
  .subst q1;rw[aU] at e;cases e;exact Ic<|Pf _ af
  .rw [aO q1] at e;by_cases q2:b=c'
   .subst q2;rw[aU] at e;cases e;exact Ic<|OT _ ae
   .rw [aO q2] at e;by_cases q3:b=Pt
    .subst q3;rw[aU] at e;cases e;exact OT _ ac
    .rw [aO q3] at e;refine(I.Uz b o e).UR (λc u hc q=>?_) (λc q=>?_) λc xs q=>?_
     .refine OT _ (hx c u ?_ q);rcases hc with z|z
      .rw [z];exact q3
      .intro z2;rw[z2,U] at z;cases z
     .exact O c _ (λz=>by rw[z,U] at q;cases q) q
     .exact O c _ (λz=>by rw[z,U] at q;cases q) q
theorem Inv.Xh(I:Inv X pins σ H s){fo:Qf}(J:∀b o,s.heap.get? b=Zh o->h'.get? b=Zh o)(hsz:s.heap.objs.size<=h'.objs.size)(z:fo.isFreed=Zk):Inv X pins σ (upd H h'.objs.size<|FZ fo) { s with heap:=h'.push fo,toks:=tk }:=
 I.laid (λb u q=>OT _<|J b u q) hsz<|Ic<|Pf _ z
def Ke(i:Nat)(Pt:OS)(pos:RC)(iname iq:Pj)(ip:Q0)(ib:List PM)(isc:Qq)(cl:List<|Pj×OS):TS:=λD σ H=>kD H Pt pos iq/\∀g H',pZ H H' Pt pos g iname iq ip ib isc cl->D.nx (σ.set i<|some<|.ref g) H'
theorem EY{i:Nat}(hN:X.N.Nodup)(hi:X.N[i]?=Zh iname)(hx:Loc X.env.scope iname)(hf:X.fn iname=Zj∨X.env.scope.names.lookup iname=Zh .local)
  (U:X.env.code=.ref c) (C:Qy X.base c Pt) (B:D0 X.mg X.base) (hq:qualnameIn X.env iname iname=iq) (hd0:ip.defaults=[]) (aj:ip.kw_defaults=[]) (ha:annTrees ip Zi X.env=[])
  (as:∀x,(x,NameKind.free)∈isc.names->∃c,X.env.cells.lookup x=Zh c):
  PS X (.FunctionDef iname ip ib [] Zi [] isc Zi iname pos)<|Ke i Pt pos iname iq ip ib isc<|aE X.env.cells isc.names []:=by
 intro pins s σ H D I h;obtain⟨ht,h⟩:=h;refine PySem.W.nestDef_K hd0 aj ha ?_;rw[hq];have ae:=I.ok.mod.glob.keeps I.bk;have hC:=C.keeps I.bk;have ag:=hU (scope:=isc) (env:=X.env) as;obtain⟨bm,ob,b1,b2,b3,b4,b5,b6⟩:=B;have aq:bm≠Ph:=λq=>by
  obtain⟨o,es,ep,e,hd,_⟩:=I.ok.mod.glob;rw[q,e] at b3;cases b3;rw[hd] at b6;cases b6
 have apart:∀{qs:Array OR},s.heap.get? Pt=Zh (QI qs)->Ph≠Pt/\s.heap.BuiltinsAt X.mg Pt:=fun {qs} hm=>by
  refine#[λq=>?_,bm,ob,b1,b2,aq,λq=>?_,I.bk _ _ b3,b4,b5,b6]
  .obtain ⟨o,es,ep,e,hd,_⟩:=ae;rw[q,hm] at e;cases e;cases hd
  .have e:=I.bk _ _ b3;rw[q,hm] at e;cases e;cases b4
 have fin:∀{g:OS} {H':Hp} {s':OU},Inv X pins σ H' s'->pZ H H' Pt pos g iname iq ip ib isc (aE X.env.cells isc.names [])->
   OZ (Pd X.prog X.w) X.A (storeName X.env iname<|.ref g) (λ_ ah=>SP X pins D .next ah) X.xe s':=fun {g H' s'} J M=>
  Hd J hN hi hx (v:=.ref g) rfl (λah J'=>#[_,H',J',h g H' M]) hf
 rcases ht with ht|⟨c1,ht,ap⟩
 .have hP:s.heap.get? Pt=Zh (QI (List.toArray [])):=I.Uz Pt _ ht;obtain⟨a1,a2⟩:=apart hP;refine PySem.W.makeFunction_K ag I.ok.glob ae U hC hP trivial rfl a1 a2 λc' z O h' tk ao aa ac af ai=>?_;obtain⟨c2,oc,vs,t,e2,am,hd,hv⟩:=af;cases e2;have J:=I.Xg (tk:=tk) (fo:=Qx iname iq ip ib isc (aE X.env.cells isc.names []) O ((X.mg "__name__").getD .none) c' z) ht ao aa ac am ai rfl;have gt:∀b o,H b=Zh o->b≠h'.objs.size/\b≠c':=λb o e=>by
   have l:=I.Uz.lt e;exact#[fQ<|Tn (jI l aa) ac,fQ<|jI l aa]
  have Z:fB (upd (upd (upd H Pt<|.tbl<|(List.toArray [])++(List.toArray [QO pos.line,QO pos.col,.ref c'])) c'<|FZ oc) h'.objs.size<|FZ<|Qx iname iq ip ib isc (aE X.env.cells isc.names []) O ((X.mg "__name__").getD .none) c' z) c' iq:=
   #[oc,vs,t,by rw[aO<|fQ ac,aU],hd,hv]
  refine fin J #[λb o n e=>?_,.inr #[c',?_,Z],#[O,_,z,c',aU,Z],?_]
  .rw [aO (gt b o e).1,aO (gt b o e).2,aO n];exact e
  .rw [aO (gt Pt _ ht).1,aO (gt Pt _ ht).2,aU];rfl
  .exact I.Uz.fresh (dJ aa<|Bb ac)
 .have hP:s.heap.get? Pt=Zh (QI (List.toArray [QO pos.line,QO pos.col,.ref c1])):=I.Uz Pt _ ht;obtain⟨a1,a2⟩:=apart hP;refine PySem.W.makeFunction_hit (cv:=.ref c1) ag I.ok.glob ae U hC hP trivial ?_ a2 λz O h' tk hk hsz=>?_
  .simp [codeAmong,QO]
  have J:=I.Xh (tk:=tk) (fo:=Qx iname iq ip ib isc (aE X.env.cells isc.names []) O ((X.mg "__name__").getD .none) c1 z) hk hsz rfl;have gt:∀b o,H b=Zh o->b≠h'.objs.size:=λb o e=>fQ<|jI (I.Uz.lt e) hsz;have ad:∀b o,H b=Zh o->upd H h'.objs.size (FZ<|Qx iname iq ip ib isc (aE X.env.cells isc.names []) O ((X.mg "__name__").getD .none) c1 z) b=Zh o:=λb o e=>by rw[aO<|gt b o e];exact e
  have Z:=ap.mono (H':=upd H h'.objs.size<|FZ<|Qx iname iq ip ib isc (aE X.env.cells isc.names []) O ((X.mg "__name__").getD .none) c1 z) λb o e=>ad b _ e;exact fin J #[λb o _ e=>ad b o e,.inr #[c1,ad _ _ ht,Z],#[O,_,z,c1,aU,Z],I.Uz.fresh hsz]
end
def Iq(Pt:OS)(pos:RC)(iname iq:Pj)(ip:Q0)(ib:List PM)(isc:Qq)(fr:List Pj)(ix:List Nat)(n:Nat):Sp:=λvs H Q _=>
 vs.length=n/\kD H Pt pos iq/\∀g H',p8 H H' Pt pos g iname iq ip ib isc fr (ix.map λi=>vs.getD i .Uy)->Q (.ref g) H'
theorem vX{st:PM}{f:OS}{rp ah:RC}{fr:List Pj}{ix:List Nat}
  (F:aS K x qual st f fd) (S:aA (ps++[iname]) ps<|aR st) (b0:fd.code=.ref c) (C:Qy base c Pt) (B:D0 mg base)
  (hb:kn st=[.FunctionDef iname ip ib [] Zi [] isc Zi iname pos,.Return (Zh<|.Name iname rp) ah]) (b3:∀L cd,qualnameIn (RP qual (aR st) L f cd) iname iname=iq) (hd0:ip.defaults=[]) (b2:ip.kw_defaults=[]) (ha:∀L cd,annTrees ip Zi (RP qual (aR st) L f cd)=[])
  (ac:(aR st).names.lookup iname=Zh .local) (b5:(iname==("__debug__":Pj))=Zk) (aj:(iname==("__classdict__":Pj))=Zk)
  (aa:∀y∈isc.names,y.2=.free->y.1∈fr) (as:∀y∈fr,(y,NameKind.free)∈isc.names) (af:∀y∈fr,(aR st).names.lookup y=Zh .cell) (b1:∀(j:Nat) (y:Pj),fr[j]?=Zh y->∃i,ix[j]?=Zh i/\ps[i]?=Zh y) (ax:ix.length=fr.length):
  aI P w K mg base aP 1 f fd ps<|Iq Pt pos iname iq ip ib isc fr ix ps.length:=by
 obtain⟨oc,od,kV,b9,pm,an,ad,ct,b7,rfl,lk,ao⟩:=F.ex;have ag:ad=.ref c:=b0;refine#[λvs H Q E h=>h.1,λA outer s H args us vs Q E hr e0 b4 r az=>?_];obtain⟨hl,hT,hQ⟩:=az;have KX:K.In s.heap:=e0.mod.WM.keeps λb o e=>(e0.bs b o e).1;have lim:s.heap.NoLimit:=e0.mod.nolimit.keeps λb o e=>(e0.bs b o e).1;have ae:∀y∈ps.zip us,(aR st).names.lookup y.1=Zh .local∨((aR st).names.lookup y.1=Zh .cell/\((P0 (s.heap.objs.size+1) (aR st).names []).lookup y.1).isSome=Zj):=λ⟨n,v⟩ hy=>by
  rcases S.par n (Rx hy).1 with q|q
  .exact .inl q
  .exact .inr #[q,R0 _ _ _<|.inl q]
 refine codeAny_call_function hr.depth (KX _ _ lk) rfl S.co S.gen rfl (PySem.W.codeRec_of KX ao)<|b4 _ _ _ _ ?_;refine Uj S.kind ae λenv he s1 xx=>?_;subst he;refine#[lim.keeps xx.toInCall.keep,codeAny_func ?_];have I:Inv (aX aP P w K mg base (ps++[iname]) qual (aR st) f ad A outer s H E).UA [] (start (ps++[iname]) vs) H s1:=(oB S hr.hd e0 hl r xx).UH _;have O:∀y∈fr,∃cc,(P0 (s.heap.objs.size+1) (aR st).names []).lookup y=Zh cc:=λy hy=>JO<|af y hy;rw[hb];have ai:(ps++[iname])[ps.length]?=Zh iname:=by simp
 have d1:=EY (X:=(aX aP P w K mg base (ps++[iname]) qual (aR st) f ad A outer s H E).UA) (i:=ps.length) (pos:=pos) (Pt:=Pt) (c:=c) (iq:=iq) (ip:=ip) (ib:=ib) (isc:=isc) S.nd ai (.inl ac) (.inr ac) ag C B (b3 _ _) hd0 b2 (ha _ _) λy hy=>O y<|aa _ hy rfl;have ap:(start (ps++[iname]) vs).length=ps.length+1:=by
  unfold start;simp only[aQ,aM,vR,cF,r6];lia
 have run:=d1 [] s1 (start (ps++[iname]) vs) H { nx:=λaw H'=>∃g,aw=(start (ps++[iname]) vs).set ps.length (Zh<|.ref g)/\pZ H H' Pt pos g iname iq ip ib isc (aE (P0 (s.heap.objs.size+1) (aR st).names []) isc.names []),rt:=λ_ _=>False } I #[hT,λg H' M=>#[g,rfl,M]];refine Ss<|Pu run (λfl s2 q=>?_) λe s' z=>z.elim;cases fl with
 |ret v=>obtain⟨_,_,_,_,_,q⟩:=q;exact q.elim
 |brk=>obtain⟨_,_,_,q⟩:=q;exact q.elim
 |cont=>obtain⟨_,_,_,q⟩:=q;exact q.elim
 |next=>
  obtain⟨aw,H',J,g,rfl,M⟩:=q;have v1:=yI (pos:=rp) (X:=(aX aP P w K mg base (ps++[iname]) qual (aR st) f ad A outer s H E).UA) ai (.inl ac) b5 aj [] s2 _ H' (λv H2=>v=.ref g/\H2=H') J<|FU (v:=.ref g) (by rw[GO<|by rw[ap];lia]) #[rfl,rfl];refine Ss<|wpAny_Return_some<|Pu v1 (λu s3 q=>?_) λe s' z=>z.elim;obtain⟨v,H2,J2,rv,rfl,rfl⟩:=q;cases rv;have un:Un (frs outer) [] H H2 s.heap s3.heap:=J2.base;have b8:∀b:OS,b∉([]:List OS):=λb=>by simp
  have inj:=J2.ok.inj;have b6:∀(j:Nat) (y:Pj),fr[j]?=Zh y->∃v cc uu,(ix.map λi=>vs.getD i .Uy)[j]?=Zh v/\(P0 (s.heap.objs.size+1) (aR st).names []).lookup y=Zh cc/\RelV v uu/\s3.heap.IsCell cc (Zh uu):=λj y hj=>by
   obtain⟨i,h1,h2⟩:=b1 j y hj;have hi:i<ps.length:=(jS.mp h2).1;obtain⟨v,hv⟩:∃v,vs[i]?=Zh v:=#[_,bV<|∅]
   obtain⟨m,_,hm⟩:=J2.loc;have hs:((start (ps++[iname]) vs).set ps.length<|some<|.ref g)[i]?=Zh (Zh v):=by
    rw[GN<|∅];unfold start;rw[mB<|by rw[aM];lia,eJ,hv];rfl
   have hN:(ps++[iname])[i]?=Zh y:=by rw[mB hi];exact h2
   obtain⟨uu,ru,ay⟩:=hm i y v hN hs<|.inr<|.inl<|af y<|jD hj;refine#[v,?_];rcases ay with ⟨k1,_⟩|⟨_,cc,e1,e2⟩
   .have k2:(aR st).names.lookup y=Zh .local:=k1;rw[af y<|jD hj] at k2;cases k2
   .refine #[cc,uu,?_,e1,ru,e2];rw[eJ,h1];show Zh (vs.getD i .Uy)=Zh v;rw[fC,hv];rfl
  have Z:∀y cc,(aE (P0 (s.heap.objs.size+1) (aR st).names []) isc.names []).lookup y=Zh cc->y∈fr/\(P0 (s.heap.objs.size+1) (aR st).names []).lookup y=Zh cc:=λy cc h=>by
   rcases J6 _ _ y cc (PH h) with z|⟨z1,z2⟩
   .cases z
   .have hy:=aa _ z1 rfl;obtain⟨c3,h3⟩:=O y hy;rw[h3] at z2;exact#[hy,by rw[h3];exact congrArg Zh z2.symm]
  have am:∀y cc,y∈fr->(P0 (s.heap.objs.size+1) (aR st).names []).lookup y=Zh cc->(aE (P0 (s.heap.objs.size+1) (aR st).names []) isc.names []).lookup y=Zh cc:=λy cc hy h=>by
   obtain⟨c3,h3⟩:=J7<|J5 (cells:=P0 (s.heap.objs.size+1) (aR st).names []) isc.names [] y<|as y hy;have:=(Z y c3 h3).2;rw[h] at this;rw[h3,OX this]
  have U:∀y cc,(aE (P0 (s.heap.objs.size+1) (aR st).names []) isc.names []).lookup y=Zh cc->s.heap.objs.size<=cc/\H2 cc=Zi/\∃o u,s3.heap.get? cc=Zh o/\o.data=.cell u:=λy cc h=>by
   obtain⟨hy,h2⟩:=Z y cc h;obtain⟨u,o,e1,e2⟩:=J2.cell y cc h2;exact#[Bb<|xx.above y cc<|PH h2,J2.UE y cc h2,o,u,e1,e2]
  generalize aE (P0 (s.heap.objs.size+1) (aR st).names []) isc.names []=cl at M Z am U;have tr:∀b,¬ (∃y,cl.lookup y=Zh b)->back cl (λb=>(s3.heap.get? b).map FZ) H2 b=H2 b:=λb n=>xn n;have tc:∀y b o,cl.lookup y=Zh b->s3.heap.get? b=Zh o->back cl (λb=>(s3.heap.get? b).map FZ) H2 b=Zh (FZ o):=λy b o h e=>by rw[G2 h,e];rfl
  have au:∀b,b<s.heap.objs.size->¬ ∃y,cl.lookup y=Zh b:=λb hb ⟨y,z⟩=>absurd (U y b z).1<|Nat.not_le.mpr hb;have up:∀b o,H2 b=Zh o->back cl (λb=>(s3.heap.get? b).map FZ) H2 b=Zh o:=λb o e=>by
   rw[tr b λ⟨y,z⟩=>by rw[(U y b z).2.1] at e;cases e];exact e
  refine#[.ref g,back cl (λb=>(s3.heap.get? b).map FZ) H2,J2.os,J2.bare,#[un.keep,un.slot,λb o e n hx=>?_,un.there,λb xs e=>up _ _<|un.UN b xs e,λb o u e=>up _ _<|un.UK b o u e,λb qs e=>?_],λb o e=>?_,rfl,hQ g _ #[λb o n e=>up _ _<|M.same b o n e,?_,⟨cl,?_,λy cc h=>(Z y cc h).1,λy z cc h1 h2=>inj y z cc (Z y cc h1).2 (Z z cc h2).2,λj y hj=>?_,?_⟩,M.fresh]]
  .rw [tr b<|au b<|Pa e];exact un.free b o e n hx
  .obtain ⟨aq,e2⟩:=un.UJ b qs e;exact#[aq,up _ _ e2]
  .by_cases q:∃y,cl.lookup y=Zh b
   .obtain ⟨y,q⟩:=q;obtain⟨_,_,o2,u2,e2,_⟩:=U y b q;rw[tc y b o2 q e2] at e;cases e;exact Ic e2
   .rw [tr b q] at e;exact(J2.Uz b o e).UR (λc v _ q=>q) (λc q=>up c _ q) λc xs q=>up c _ q
  .exact M.tab.mono (by
    rcases M.tab with z|⟨_,z,_⟩
    .rw [z];exact up _ _ z
    .rw [z];exact up _ _ z) λb o e=>up b _ e
  .obtain ⟨d1,d2,d3,c3,e1,e2⟩:=M.obj;exact#[d1,d2,d3,c3,up _ _ e1,e2.mono λb o e=>up b _ e]
  .obtain ⟨v,cc,uu,a1,a2,a3,o,a4,a5⟩:=b6 j y hj;have av:=am y cc (jD hj) a2;exact#[v,cc,uu,o,a1,av,a3,tc y cc o av a4,a5]
  .rw [aM];exact ax
def Au(tabs:List<|OS×OS)(H:Hp):Prop:=∀q∈tabs,H q.2=Zh (.tbl (List.toArray []))
theorem wF{mb:Pj->Option OR}{fa:OS}{s₁:OU}{vs:List OR}{ns:List Int}{tabs:List<|OS×OS}
  (KX:K.In s₁.heap) (ap:s₁.heap.Ns Ph mg) (Z:s₁.heap.Ns TB mb) (az:∀x:Pj,x≠"__name__"->mb x=Rl x) (aj:s₁.heap.NoLimit) (hg:s₁.gens=(List.toArray []))
  (ha:s₁.heap.get? a=Zh { cls:=.type "list",data:=.seq vs.toArray }) (hi:Uh vs ns) (hl:ns.length<=sizeLine) (hr:aY k TM)
  (hT:∀q∈tabs,Qy s₁.heap q.1 q.2/\s₁.heap.get? q.2=Zh (QI (List.toArray []))) (nt:Sj K=Zj) (b8:D0 mg s₁.heap)
  (F:∀base:PJ,K.In base->base.Ns Ph mg->(∀q∈tabs,Qy base q.1 q.2)->D0 mg base->aI P w K mg base CX k fa fd [x] sp) (ai:∀(s:OU) (u:OR),BindsTo s fd #[[u],[]] [(x,u)])
  (b0:∀H:Hp,Au tabs H->aB K H a (ns.map V.int)->sp [.ref a] H (λv _=>v=.bl Zj) λ_ _ _=>False)
  (ay:∀H e s',CX [] H s₁ (λ_ _ _=>False) e s'->False):
  Ra (Pd P w) TM (.call (.ref fa) #[[.ref a],[]]) (λr s'=>r=.ok (.ret<|.bool Zj)/\OldK s₁.heap s'.heap/\s'.os=s₁.os/\Q1 s'.gens) s₁:=by
 have rv:=J4 hi;have aw:=hi.length;have af:∀H:Hp,aB K H a (ns.map V.int)->cY P w H s₁.heap->(∀b o,H b=Zh o->(b=a/\K.lookup a=Zi/\∃ob xs,o=.frz ob (.lst xs))∨(o=.tbl (List.toArray [])/\∃q∈tabs,q.2=b))->Au tabs H->
   Ra (Pd P w) TM (.call (.ref fa) #[[.ref a],[]]) (λr s'=>r=.ok (.ret<|.bool Zj)/\OldK s₁.heap s'.heap/\s'.os=s₁.os/\Q1 s'.gens) s₁:=by
  intro H hS aq hA hO;have J:∀{b:OS} {o:Qf},s₁.heap.get? b=Zh o->H b=Zi->(lO s₁.heap H).get? b=Zh o:=λe n=>zk e n;have aa:∀{b:OS} {o:Qf},s₁.heap.get? b=Zh o->(∀ah n',o.data≠.seq ah n')->(o.cls=.none->∀ah,o.data≠.fields ah)->H b=Zi:=fun {b o} e d1 d2=>by
   cases q:H b with
   |none=>rfl
   |some u=>
    rcases hA b u q with ⟨e',_⟩|⟨_,q',O,e'⟩
    .subst e';rw[ha] at e;cases e;exact absurd rfl<|d1 _ _
    .subst e';rw[(hT q' O).2] at e;cases e;exact absurd rfl<|d2 rfl _
  have ac:∀{b:OS} {m:Pj->Option OR},s₁.heap.Ns b m->(lO s₁.heap H).Ns b m:=fun {b m} ⟨o,es,ep,e,d,r⟩=>#[o,es,ep,J e (aa e (by rw[d];intro _ _ z;cases z) λ_=>by rw[d];intro _ z;cases z),d,r]
  have am:K.In<|lO s₁.heap H:=λb o e=>J (KX b o e) (by
   cases q:H b with
   |none=>rfl
   |some u=>
    rcases hA b u q with ⟨e',n,_⟩|⟨_,q',O,e'⟩
    .subst e';rw[n] at e;cases e
    .subst e';have e2:=KX _ _ e;rw[(hT q' O).2] at e2;cases e2;have h2:=List.all_eq_true.mp nt _<|PySem.W.mem_of_lookupK e;exact absurd (show Zk=Zj from h2) kS)
  have hM:Mod K mg<|lO s₁.heap H:=#[am,ac ap,#[mb,ac Z,az],let ⟨mc,h1,h2⟩:=aj;#[mc,ac h1,h2]]
  have e0:p9 P w K mg (lO s₁.heap H) TM [] s₁ H:=#[rfl,hM,λb o e=>BS e,Sm<|wJ _ _,trivial,λb Z=>absurd (show b∈([]:List OS) from Z) (by simp),aq,.of_eq hg]
  have hC:∀q∈tabs,Qy (lO s₁.heap H) q.1 q.2:=λq O=>by
   obtain⟨o,vs,as,tf,ag,tg,ax,au,tt,e1,e2,e3,r⟩:=(hT q O).1;exact#[o,vs,as,tf,ag,tg,ax,au,tt,J e1 (aa e1 (by rw[e3];intro _ _ z;cases z) λz=>by rw[e2] at z;cases z),e2,e3,r]
  have hB:D0 mg<|lO s₁.heap H:=by
   obtain⟨bm,ob,b1,b2,b3,b4,b5,b6⟩:=b8;exact#[bm,ob,b1,b2,J b3 (aa b3 (by rw[b6];intro _ _ z;cases z) λz=>by rw[b4] at z;cases z),b4,b5,b6]
  refine QZ ((F _ am (ac ap) hC hB).run TM [] s₁ H #[[.ref a],[]] [.ref a] [.ref a] _ _ hr e0 (ai s₁<|.ref a) (.cons rfl .nil)<|b0 H hO hS) λr s' h=>?_;cases r with
  |error e=>exact(ay H e s' h).elim
  |ok fl=>
   cases fl with
   |next=>exact PD h
   |brk=>exact PD h
   |cont=>exact PD h
   |ret u=>
    obtain⟨v,H',os,av,un,ae,r',q⟩:=h;have q':v=.bl Zj:=q;subst q';obtain rfl:u=Value.bool Zj:=r';have b7:∀b:OS,b∉frs ([]:List RN):=λb z=>absurd (show b∈([]:List OS) from z) (by simp);refine#[rfl,#[λb o e=>?_,λb o e=>un.there b o e<|by simp],os,av];cases q:H b with
    |none=>exact .inl<|un.keep b o e q (b7 b)<|by simp
    |some u=>
     rcases hA b u q with ⟨_,_,ob,xs,z⟩|⟨z,q',O,e'⟩
     .subst z;have z2:=un.UK b ob _ q;obtain⟨e1,_⟩:=aq b _ q;obtain⟨e2,_⟩:=ae b _ z2;rw[e] at e1;cases e1;exact .inl e2
     .subst z;subst e';obtain⟨ad,z2⟩:=un.UJ _ _ q;have e2:s'.heap.get? q'.2=Zh (QI<|(List.toArray [])++ad):=ae _ _ z2;have e3:=(hT q' O).2;rw[e] at e3;have e4:o=QI (List.toArray []):=OX e3;subst e4;exact .inr<|.inl #[((hT q' O).1.tab (hT q' O).2).isCodeTable,rfl,(List.toArray []),ad,rfl,e2]
 have ao:∀q∈tabs,q.2≠a:=λq O z=>by
  have e:=(hT q O).2;rw[z,ha] at e;cases e
 cases hk:K.lookup a with
 |some o=>
  have e:=KX a o hk;rw[ha] at e;cases e;refine af (λb=>if b∈tabs.map (·.2) then Zh (.tbl (List.toArray [])) else Zi) (.inr #[_,vs.toArray,_,hk,rfl,rfl,rfl,by rw[iJ,aw];exact hl,by simpa using rv]) (λb u z=>?_) (λb u z=>?_) λq O=>Z9<|SJ O
  .by_cases Z:b∈tabs.map (·.2)
   .have U:=(Z9 Z).symm.trans z;cases U;obtain⟨q,O,rfl⟩:=qg.mp Z;exact(hT q O).2
   .have U:=(Z8 Z).symm.trans z;cases U
  .by_cases Z:b∈tabs.map (·.2)
   .have U:=(Z9 Z).symm.trans z;cases U;obtain⟨q,O,e⟩:=qg.mp Z;exact .inr #[rfl,q,O,e]
   .have U:=(Z8 Z).symm.trans z;cases U
 |none=>
  refine af (λb=>if b∈tabs.map (·.2) then Zh (.tbl (List.toArray [])) else if b=a then Zh (.frz { cls:=.type "list",data:=.seq vs.toArray } (.lst<|ns.map V.int)) else Zi) (.inl<|.inr ⟨{ cls:=.type "list",data:=.seq vs.toArray },?_⟩) (λb u z=>?_) (λb u z=>?_) λq O=>Z9<|SJ O
  .dsimp only;rw[Z8,Z9 rfl];intro z;obtain⟨q,O,e⟩:=qg.mp z;exact ao q O e
  .by_cases Z:b∈tabs.map (·.2)
   .have U:=(Z9 Z).symm.trans z;cases U;obtain⟨q,O,rfl⟩:=qg.mp Z;exact(hT q O).2
   .have U:=(Z8 Z).symm.trans z;by_cases W8:b=a
    .have U:=(Z9 W8).symm.trans U;cases U;subst W8;exact#[ha,by rw[aM];exact hl,vs,_,rv,ha]
    .have U:=(Z8 W8).symm.trans U;cases U
  .by_cases Z:b∈tabs.map (·.2)
   .have U:=(Z9 Z).symm.trans z;cases U;obtain⟨q,O,e⟩:=qg.mp Z;exact .inr #[rfl,q,O,e]
   .have U:=(Z8 Z).symm.trans z;by_cases W8:b=a
    .have U:=(Z9 W8).symm.trans U;cases U;exact .inl #[W8,hk,_,_,rfl]
    .have U:=(Z8 W8).symm.trans U;cases U
def Lb(K:W.Frag)(tabs:List<|OS×OS):Sp:=λvs H Q _=>∃(a:OS) (ns:List Int),vs=[.ref a]/\aB K H a (ns.map V.int)/\ns.length<=63/\Au tabs H/\∀H',Q (.bl Zj) H'
theorem xH{f:OS}{oc z:OR}{od O:Option OS}{sl J:Array<|Option OR}{vs:Array OR}(a:W.nsIn K Ph x=Zh (Zh<|.ref f))(l:K.lookup f=Zh #[oc,od,.func fd,sl])(hc:fd.code=.ref c)
  (Z:K.lookup c=Zh #[z,O,.fields vs,J]) (U:vs[11]?=Zh (.ref Pt)):Sv K x=Zh (c,Pt):=by
 unfold Sv;rw[a];dsimp only;rw[l];dsimp only;rw[hc];dsimp only;rw[Z];dsimp only;rw[U]
theorem vT{l:PySem.W.OpenLaw}{q:Pl}{loose:List Pj}{XP:(Pj->Option OR)->PJ->Prop}{YP:PN->PJ->Prop}{d:DefRec}{K:Params->W.Frag}{names:List Pj}
  (hn:l.most=Zh 63) (aa:d.params.defaults=[]) (hr:aY k TM)
  (hY:∀(w:PN) (h:PJ),YP w h->(K w.params).In h) (Z:∀y∈names,∃dr,(recsOf q).find? (λe=>e.name==y)=Zh dr)
  (F:∀(w:PN) (mg:Pj->Option OR) (fa:OS) (h:PJ),(K w.params).In h->h.Ns Ph mg->mg d.name=Zh (.ref fa)-> ∃(tabs:List<|OS×OS) (fd:Qg),Sj (K w.params)=Zj/\(∀t∈tabs,∃y∈names,Sv (K w.params) y=Zh t)/\(∀(s:OU) (u:OR),BindsTo s fd #[[u],[]] [(x,u)])/\ ∀base:PJ,(K w.params).In base->base.Ns Ph mg->(∀t∈tabs,Qy base t.1 t.2)->D0 mg base->aI l.prog w (K w.params) mg base aP k fa fd [x] (Lb (K w.params) tabs)):
  PySem.W.WalkO q loose XP YP l.row.toRowW d [] λf vs=>PySem.call f vs:=by
 refine Att.attach_call hn aa λw s₀ s₁ mg mb fa o pm cd ad a vs ns G Y ho hd ae ac U O J hg=>?_;have KX:=hY w _ Y;obtain⟨tabs,fd,nt,ht,hb,hF⟩:=F w mg fa _ KX G.T.g ac;refine wF (tabs:=tabs) KX G.T.g G.T.b G.T.builtins G.T.nolimit hg U O (dJ J<|by decide) hr (λt h2=>?_) nt G.T.bmain hF hb (λH hO hS=>#[a,ns,rfl,hS,J,hO,λ_=>rfl]) λH e s' z=>z;obtain⟨y,hy,e2⟩:=ht t h2;obtain⟨dr,e1⟩:=Z y hy;exact PySem.W.tab_of G.T KX e1 e2
theorem Fy{z:List Nat}{fr:List Pj}(h:z.map (λi=>ps[i]?)=fr.map Zh):∀(j:Nat) (y:Pj),fr[j]?=Zh y->∃i,z[j]?=Zh i/\ps[i]?=Zh y:=λj y e=>by
 have:=congrArg (λl=>l[j]?) h;simp only[eJ,e,Dk] at this;cases q:z[j]? with
 |none=>rw[q] at this;cases this
 |some i=>rw[q] at this;exact#[i,rfl,by simpa using this]
noncomputable def Fx(s:PM)(j:Nat):PM:=(kn s).getD j<|.Pass #[0,0,0,0]
noncomputable def Ga(s:PM):RC:=match s with
 |.FunctionDef _ _ _ _ _ _ _ _ _ pos=>pos
 |_=>#[0,0,0,0]
theorem Cv{f:OS}{A:Py}:(GS P w K mg base N qual scope f cd cl A outer s H).K=K:=rfl
theorem lkc{k:Pj}{r:List<|Pj×V}:Qp k ((z,v)::r)=if k=z then Zh v else Qp k r:=by
 rw[AZ];by_cases h:k=z
 .subst h;simp
 .have:(k==z)=Zk:=by simpa using h
  rw[this,Z8 h]
theorem J8{f:Pj}{v u:V}:∀{fs:List<|Pj×V},fs.lookup f=Zh u->(aL f v fs).length=fs.length
 |[],h=>by cases h
 |(g,w)::r,h=>by
  unfold aL;by_cases e:g=f
  .rw [Z9 e];rfl
  .rw [Z8 e,cF,cF];rw[lkc,Z8 λz=>e z.symm] at h;rw[J8 h]
structure bD(H:Hp)(a C:OS)(fl:List<|Pj×V):Prop where
 ex:∃dx fs,H a=Zh (.ins C dx fs)/\fs.length<=50/\∀f,fs.lookup f=fl.lookup f
theorem bD.of(h:H a=Zh (.ins C dx fl))(hl:fl.length<=50):bD H a C fl:=#[dx,fl,h,hl,λ_=>rfl]
theorem bD.congr{fl':List<|Pj×V}(h:bD H a C fl)(e:∀f,fl.lookup f=fl'.lookup f):bD H a C fl':=let ⟨dx,fs,h1,h2,h3⟩:=h.ex;#[dx,fs,h1,h2,λf=>(h3 f).trans<|e f]
theorem bD.mono(h:bD H a C fl)(s:aC H H'):bD H' a C fl:=let ⟨dx,fs,h1,h2,h3⟩:=h.ex;#[dx,fs,s _ _ h1,h2,h3]
theorem bD.keep(h:bD H a C fl)(s:H' a=H a):bD H' a C fl:=let ⟨dx,fs,h1,h2,h3⟩:=h.ex;#[dx,fs,s.trans h1,h2,h3]
theorem bD.ne(h:bD H a C fl)(J:H b=Zh o)(n:∀C dx fs,o≠.ins C dx fs):b≠a:=λz=>by
 obtain⟨dx,fs,h1,_⟩:=h.ex;rw[z,h1] at J;exact n _ _ _ (OX J).symm
theorem bD.neN(h:bD H a C fl)(J:H b=Zi):b≠a:=λz=>by
 obtain⟨dx,fs,h1,_⟩:=h.ex;rw[z,h1] at J;cases J
section
theorem bD.get(h:bD H a C fl)(cl:gF K C)(n:aD K C f)(l:fl.lookup f=Zh v)(q:Q v H):FE K f (.ref a) H Q:=by
 obtain⟨dx,fs,h1,h2,h3⟩:=h.ex;exact uY h1 cl n ((h3 f).trans l) q
theorem bD.set{Q:Hp->Prop}(h:bD H a C fl)(cl:gF K C)(n:aD K C f)(q:∀H',bD H' a C (aL f v fl)->(∀b,b≠a->H' b=H b)->Q H')(hl:∃u,fl.lookup f=Zh u):Bp K f (.ref a) v H Q:=by
 obtain⟨dx,fs,h1,h2,h3⟩:=h.ex;obtain⟨u,z⟩:=hl;refine uh h1 cl n ∅<|q _ #[dx,_,aU,?_,λg=>?_] λb J=>aO J
 .rw [J8<|(h3 f).trans z];exact h2
 .rw [mH,mH,h3]
theorem bD.Ux{m:Pj}{R:Prop}(h:bD H a C fl)(l:fl.lookup m=Zi)(q:R):L2.X3 λb dx fs=>V.ref a=.ref b/\H b=Zh (.ins C dx fs)/\fs.lookup m=Zi/\R:=by
 obtain⟨dx,fs,h1,h2,h3⟩:=h.ex;exact#[a,dx,fs,rfl,h1,(h3 m).trans l,q]
end
def FT(K:W.Frag)(tv:TE)(rd:V->V->Hp->VK->Prop)(f:Pj)(D:Ends)(σ:St)(x:V)(H1:Hp):Prop:=L2.X5 λa C dx fs v=>x=.ref a/\H1 a=Zh (.ins C dx fs)/\gF K C/\aD K C f/\fs.lookup f=Zh v/\
 tv σ H1 λy H2=>rd v y H2 λz H3=>L2.X2 λdx' fs'=>H3 a=Zh (.ins C dx' fs')/\fs'.length<1000/\D.nx σ (upd H3 a<|.ins C dx'<|aL f z fs')
theorem sE{rd:V->V->Hp->VK->Prop}:ui K ta tv rd f D σ H=ta σ H (λx H1=>FT K tv rd f D σ x H1):=rfl
theorem bD.aug(h:bD H a C fl)(cl:gF K C)(n:aD K C f)(l:fl.lookup f=Zh (.int i))
  (q:∀H',bD H' a C (aL f (.int<|i+j) fl)->(∀b,b≠a->H' b=H b)->D.nx σ H'):FT K (tC<|.int j) EX f D σ (.ref a) H:=by
 obtain⟨dx,fs,h1,h2,h3⟩:=h.ex;refine#[a,C,dx,fs,_,rfl,h1,cl,n,(h3 f).trans l,i,j,rfl,rfl,dx,fs,h1,∅,q _ #[dx,_,aU,?_,λg=>?_] λb z=>aO z]
 .rw [J8<|(h3 f).trans l];exact h2
 .rw [mH,mH,h3]
theorem cR{Q:Hp->Prop}(h:H a=Zh (.ins C dx fl))(cl:gF K C)(n:aD K C f)(hl:fl.length<=20)(q:∀H',H' a=Zh (.ins C dx<|aL f v fl)->(∀b,b≠a->H' b=H b)->Q H'):Bp K f (.ref a) v H Q:=
 uh h cl n ∅<|q _ aU λb z=>aO z
theorem fU{n:Nat}(h:fl.length<=n):(aL f v fl).length<=n+1:=dJ (Mq f v fl)<|Nat.succ_le_succ h
theorem Ig:(aL f0 v0 []).length<=20:=dJ (fU<|aN 0)<|by decide
theorem G0:(aL f1 v<|aL f0 v0 []).length<=20:=dJ (fU<|fU<|aN 0)<|by decide
theorem G1:(aL z v<|aL f1 O<|aL f0 v0 []).length<=20:=dJ (fU<|fU<|fU<|aN 0)<|by decide
theorem Jd:(aL x Z<|aL z v<|aL f1 O<|aL f0 v0 []).length<=20:=dJ (fU<|fU<|fU<|fU<|aN 0)<|by decide
theorem yD:(aL z O<|aL f3 v3<|aL J U<|aL f1 Z<|aL f0 v0 []).length<=20:=dJ (fU<|fU<|fU<|fU<|fU<|aN 0)<|by decide
theorem HJ:(aL f5 Z<|aL z O<|aL f3 v3<|aL J U<|aL f1 v1<|aL f0 v0 []).length<=20:=dJ (fU<|fU<|fU<|fU<|fU<|fU<|aN 0)<|by decide
theorem HI:(aL x v6<|aL f5 v5<|aL z O<|aL f3 v3<|aL J U<|aL f1 v1<|aL f0 v0 []).length<=20:=dJ (fU<|fU<|fU<|fU<|fU<|fU<|fU<|aN 0)<|by decide
theorem HH{f7:Pj}{v7:V}:(aL f7 v7<|aL x v6<|aL f5 v5<|aL z O<|aL f3 v3<|aL J U<|aL f1 v1<|aL f0 v0 []).length<=20:=dJ (fU<|fU<|fU<|fU<|fU<|fU<|fU<|fU<|aN 0)<|by decide
theorem DL(p q:Int):(if q>p then q else p)=max p q:=by split<;>lia
theorem GY(p q:Int):(if q<p then q else p)=min p q:=by split<;>lia
theorem rP{us ds:List OR}{n:Nat}(h:(us++ds).length=ps.length)(e:n+ds.length=ps.length):us.length=n:=by
 rw[aQ] at h;lia
def Fr(S:List OS)(H H':Hp):Prop:=∀b o,b∉S->H b=Zh o->H' b=Zh o
theorem Fr.refl{S:List OS}:Fr S H H:=λ_ _ _ h=>h
theorem Fr.trans{S:List OS}{H'':Hp}(e:Fr S H H')(f:Fr S H' H''):Fr S H H'':=λb o n h=>f b o n<|e b o n h
theorem aC.fr{S:List OS}(e:aC H H'):Fr S H H':=λb o _ h=>e b o h
theorem Fr.upd{S:List OS}{H:Hp}{l:OS}{o:HO}(h:l∈S):Fr S H<|upd H l o:=λb o' n e=>by
 have z:b≠l:=λz=>n (by rw[z];exact h);rw[aO z];exact e
end L2
namespace L2
open PySem PySem.Spec PyProof.Rows
variable {a b:OS}{P:Pl}{kvs:List (List Key×V)}{σ:St}{X:Cx}{H H':Hp}{y:V}{o:Option V}{w:PN}{h':PJ}{u:OR}{Q:VK}
def Hl(K:W.Frag)(t:TA):TE:=λσ H Q=>t σ H λvs H1=>L2.X2 λ(l:OS) (ys:List V)=>vs=[.ref l]/\aB K H1 l ys/\∀r,H1 r=Zi->Q (.ref r) (upd H1 r<|.lst ys.reverse)
theorem qX{K:W.Frag}{x:V}{d:RR}(hx:Dp K H d x)(z:Dp K H d y)(hc:d.canLay0=Zj)(hd:d.depth<=64)(q:Q (.bl Zk) H):By K x y H Q:=
 #[d,d,hx,z,hc,hc,hd,by rw[PySem.SeqAt.eqv_refl d hc];exact q]
def FP(g:TG)(tt:TT)(te:TE)(σ0:St)(Q:VK)(x y:V)(H1:Hp):Prop:=L2.X2 λi j:Int=>[x,y]=[.int i,.int j]/\(-(2^62)<=i/\i<2^62/\-(2^62)<=j/\j<2^62)/\DV i g tt te σ0 Q (j-i).toNat H1
theorem sr{k:Nat}{js:List Nat}{t u:TE}{g:TG}{tt:TT}{te:TE}:vC k js (zh<|lX t<|lX u gR) g tt te σ H Q=t σ H (λx H1=>u σ H1 λy H2=>FP g tt te (up k js σ) Q x y H2):=rfl
noncomputable def C4(K:W.Frag)(a b:OS):It:=
 #[λi H=>L2.X4 λxs x ys y=>aB K H a xs/\xs[i]?=Zh x/\aB K H b ys/\ys[i]?=Zh y,λi H v H'=>L2.X3 λp x y=>H p=Zi/\(∀xs,aB K H a xs->xs[i]?=Zh x)/\(∀ys,aB K H b ys->ys[i]?=Zh y)/\H'=upd H p (.tup [x,y])/\v=.ref p,λi H=>L2.X2 λxs ys=>aB K H a xs/\aB K H b ys/\(xs.length<=i∨ys.length<=i)]
section
def B8(K:W.Frag)(ta:TA):TI:=λσ H R=>ta σ H λvs H1=>L2.X2 λa b=>vs=[.ref a,.ref b]/\(∃xs,aB K H1 a xs)/\(∃xs,aB K H1 b xs)/\R (C4 K a b) H1
theorem Kb{a b:Nat}(h:a≠b):(a:OS)≠b:=h
end
section
variable {K:W.Frag}{xs ys:List V}{g:TG}{tb:TS}{D:Ends}
def Kj(K:W.Frag)(g:TG)(tb:TS)(D:Ends)(σ:St)(x y:V)(H1:Hp):Prop:=L2.X2 λa b=>[x,y]=[.ref a,.ref b]/\(∃xs,aB K H1 a xs)/\(∃xs,aB K H1 b xs)/\∃W:Nat->Nat->St->Hp->Prop,(∃m,W 0 m σ H1)/\∀i m σ H,W i m σ H->
 ((C4 K a b).stop i H/\D.nx σ H)∨((C4 K a b).go i H/\∃N:St->Hp->Prop,(∀σ' H',N σ' H'->∃m',m'<m/\W (i+1) m' σ' H')/\∀x H',(C4 K a b).VP i H x H'->g x σ H' λσ2 H2=>tb { D with nx:=N,ct:=N,bk:=D.nx } σ2 H2)
theorem qp{t u:TE}:yc (B8 K<|lX t<|lX u gR) g tb D σ H=t σ H (λx H1=>u σ H1 λy H2=>Kj K g tb D σ x y H2):=rfl
end
section
variable {κ:Type}[DecidableEq κ]
noncomputable def dG(kvs:List<|κ×V)(k:κ):Option V:=(kvs.find? λkv=>decide<|kv.1=k).map (·.2)
noncomputable def putK(kvs:List<|κ×V)(k:κ)(v:V):List<|κ×V:=
 if (kvs.any λkv=>decide<|kv.1=k)=Zj then kvs.map (λkv=>if kv.1=k then(kv.1,v) else kv) else kvs++[(k,v)]
theorem Aq{p:κ×V}{r:List<|κ×V}{k:κ}(e:p.1=k):dG (p::r) k=Zh p.2:=by simp[dG,GC,e]
theorem Ao{p:κ×V}{r:List<|κ×V}{k:κ}(e:¬ p.1=k):dG (p::r) k=dG r k:=by simp[dG,GC,e]
theorem IF(k:κ):∀kvs:List<|κ×V,(kvs.any λz=>decide<|z.1=k)=(dG kvs k).isSome
 |[]=>rfl
 |p::r=>by
  rw[GI];by_cases e:p.1=k
  .simp only[Aq e,decide_eq_true e,Bool.true_or,Option.isSome_some]
  .rw [Ao e,decide_eq_false e,Bool.false_or];exact IF k r
theorem qj(k j:κ)(y:V):∀kvs:List<|κ×V,dG (kvs.map λJ=>if J.1=k then(J.1,y) else J) j=(dG kvs j).map λx=>if j=k then y else x
 |[]=>rfl
 |p::r=>by
  have O:=qj k j y r;rw[iK];by_cases h:p.1=k
  .rw [Z9 h];by_cases e:p.1=j
   .rw [Aq (p:=(p.1,y)) e,Aq e,Dk,Z9<|e.symm.trans h]
   .rw [Ao (p:=(p.1,y)) e,Ao e,O]
  .rw [Z8 h];by_cases e:p.1=j
   .rw [Aq (p:=p) e,Aq e,Dk,Z8 λz=>h<|e.trans z]
   .rw [Ao (p:=p) e,Ao e,O]
theorem nE(k j:κ)(y:V):∀kvs:List<|κ×V,dG kvs k=Zi->dG (kvs++[(k,y)]) j=if j=k then Zh y else dG kvs j
 |[],_=>by
  by_cases e:k=j
  .rw [Z9 e.symm];exact Aq (p:=(k,y)) e
  .rw [Z8 λz=>e z.symm];exact Ao (p:=(k,y)) e
 |p::r,hn=>by
  rw[Eo];have J:¬ p.1=k:=λz=>by rw[Aq z] at hn;cases hn
  rw[Ao J] at hn;have O:=nE k j y r hn;by_cases e:p.1=j
  .rw [Aq e,Aq e,Z8 λz=>J<|e.trans z]
  .rw [Ao e,Ao e,O]
theorem xu(kvs:List<|κ×V)(k j:κ)(y:V):dG (putK kvs k y) j=if j=k then Zh y else dG kvs j:=by
 unfold putK;by_cases a:(kvs.any λz=>decide<|z.1=k)=Zj
 .rw [Z9 a,qj];rw[IF] at a;by_cases e:j=k
  .obtain ⟨x,hx⟩:=Option.isSome_iff_exists.mp a;rw[Z9 e,e,hx,Dk,Z9 rfl]
  .rw [Z8 e];cases dG kvs j with
   |none=>rfl
   |some x=>rw[Dk,Z8 e]
 .rw [Z8 a];refine nE k j y kvs ?_;rw[IF] at a;cases q:dG kvs k with
  |none=>rfl
  |some x=>rw[q] at a;exact(a rfl).elim
theorem Mr(kvs:List<|κ×V)(k:κ)(v:V):(putK kvs k v).length<=kvs.length+1:=by
 unfold putK;split
 .rw [aM];lia
 .rw [aQ,cF,r6];lia
theorem dH.VU{u:Option OR}(r:dH o u):o.isSome=u.isSome:=by
 cases o with
 |none=>cases u with
  |none=>rfl
  |some _=>exact(show False from r).elim
 |some _=>cases u with
  |none=>exact(show False from r).elim
  |some _=>rfl
theorem dH.getD{u:Option OR}{d:V}{d':OR}(r:dH o u)(rd:RelV d d'):RelV (o.getD d)<|u.getD d':=by
 cases o with
 |none=>cases u with
  |none=>exact rd
  |some _=>exact(show False from r).elim
 |some _=>cases u with
  |none=>exact(show False from r).elim
  |some _=>exact r
theorem KV.val{kvs:List<|κ×V}{vs:List<|κ×OR}(r:KV kvs vs)(k:κ):dH (dG kvs k)<|TL vs k:=by
 unfold KV at r;induction r with
 |nil=>exact True.intro
 |@cons p q ps qs h t ih=>
  obtain⟨h1,h2⟩:=h;by_cases e:p.1=k
  .have J:q.1=k:=h1.symm.trans e;have b:TL (q::qs) k=Zh q.2:=by simp[TL,GC,J]
   rw[Aq e,b];exact h2
  .have J:¬ q.1=k:=λz=>e<|h1.trans z;have b:TL (q::qs) k=TL qs k:=by simp[TL,GC,J]
   rw[Ao e,b];exact ih
theorem KV.any{kvs:List<|κ×V}{vs:List<|κ×OR}(r:KV kvs vs)(k:κ):(kvs.any λz=>decide<|z.1=k)=vs.any λz=>decide (z.1=k):=by
 unfold KV at r;induction r with
 |nil=>rfl
 |cons h t ih=>rw[GI,GI,ih,h.1]
theorem KV.WV{kvs:List<|κ×V}{vs:List<|κ×OR}(r:KV kvs vs)(k:κ)(O:RelV y u):
  KV (kvs.map λJ=>if J.1=k then(J.1,y) else J)<|vs.map λJ=>if J.1=k then(J.1,u) else J:=by
 unfold KV at r⊢;induction r with
 |nil=>exact .nil
 |@cons p q ps qs h t ih=>
  rw[iK,iK];refine .cons ?_ ih;obtain⟨h1,h2⟩:=h;by_cases e:p.1=k
  .rw [Z9 e,Z9<|h1.symm.trans e];exact#[h1,O]
  .rw [Z8 e,Z8 λz=>e<|h1.trans z];exact#[h1,h2]
theorem KV.put{kvs:List<|κ×V}{vs:List<|κ×OR}(r:KV kvs vs)(k:κ)(z:RelV y u):KV (putK kvs k y)<|stored vs k u:=by
 unfold putK stored;rw[r.any k];by_cases e:(vs.any λJ=>decide<|J.1=k)=Zj
 .rw [Z9 e,Z9 e];exact r.WV k z
 .rw [Z8 e,Z8 e];exact Paired.snoc r #[rfl,z]
theorem KV.length{kvs:List<|κ×V}{vs:List<|κ×OR}(r:KV kvs vs):kvs.length=vs.length:=Ts r
end
theorem Ja{k:Key}(r:RelV (kV k) u):(fO P w).is k u=Zj:=by
 cases k with
 |inl i=>obtain⟨t,e⟩:=(show ∃t,u=Value.int i t from r);subst e;exact qZ P w i t
 |inr x=>obtain⟨t,e⟩:=(show ∃t,u=Value.str x t from r);subst e;exact qY P w x t
theorem oA{P:Pl}{w:PN}:∀{ks:List Key} {us:List OR},Vals (ks.map kV) us->ItemsAre (fO P w) ks us
 |[],_,r=>by rw[List.map_nil] at r;cases r;exact .nil
 |k::ks,_,r=>by
  rw[iK] at r;cases r with
  |cons h t=>exact .cons (Ja h)<|oA t
noncomputable abbrev KT(H:Hp):List (List Key×V)->List (List Key×OS×OR)->Prop:=Paired λp q=>p.1=q.1/\H q.2.1=Zh (.tup<|p.1.map kV)/\RelV p.2 q.2.2
theorem KT.val{xs:List<|List Key×OS×OR}(r:KT H kvs xs)(k:List Key):dH (dG kvs k)<|(Ut xs k).map (·.2):=by
 induction r with
 |nil=>exact True.intro
 |@cons p q ps qs h t ih=>
  obtain⟨h1,_,h2⟩:=h;by_cases e:p.1=k
  .have J:q.1=k:=h1.symm.trans e;have b:Ut (q::qs) k=Zh q.2:=by simp[Ut,GC,J]
   rw[Aq e,b];exact h2
  .have J:¬ q.1=k:=λz=>e<|h1.trans z;have b:Ut (q::qs) k=Ut qs k:=by simp[Ut,GC,J]
   rw[Ao e,b];exact ih
theorem KT.WV{xs:List<|List Key×OS×OR}(r:KT H kvs xs)(k:List Key)(O:RelV y u):
  KT H (kvs.map λJ=>if J.1=k then(J.1,y) else J)<|xs.map<|putAt k u:=by
 induction r with
 |nil=>exact .nil
 |@cons p q ps qs h t ih=>
  rw[iK,iK];refine .cons ?_ ih;obtain⟨h1,h2,h3⟩:=h;unfold putAt;by_cases e:p.1=k
  .rw [Z9 e,Z9<|h1.symm.trans e];exact#[h1,h2,O]
  .rw [Z8 e,Z8 λz=>e<|h1.trans z];exact#[h1,h2,h3]
theorem KT.put{xs:List<|List Key×OS×OR}(r:KT H kvs xs)(k:List Key)(O:H b=Zh (.tup<|k.map kV))(z:RelV y u):
  KT H (putK kvs k y)<|storedH xs k b u:=by
 have e:(kvs.any λJ=>decide<|J.1=k)=(Ut xs k).isSome:=by
  rw[IF,(r.val k).VU,Option.isSome_map]
 unfold putK storedH;rw[e];by_cases q:(Ut xs k).isSome=Zj
 .rw [Z9 q,Z9 q];exact r.WV k z
 .rw [Z8 q,Z8 q];exact Paired.snoc r #[rfl,O,z]
theorem KT.keeps{xs:List<|List Key×OS×OR}(r:KT H kvs xs)(J:∀b ys,H b=Zh (.tup ys)->H' b=Zh (.tup ys)):KT H' kvs xs:=
 Paired.WX r λ_ _ z=>#[z.1,J _ _ z.2.1,z.2.2]
section
variable {h:PJ}
theorem DB{u:HO}(ok:cY P w H h)(e:Rd H a u):aW P w H h a u:=e.ok ok
theorem vh{kvs:List<|Key×V}(ok:cY P w H h)(e:Rd H a<|.dK kvs):kvs.length<=sizeLine/\(a==QT)=Zk/\∃vs,KV kvs vs/\h.DictOf (fO P w) a vs:=
 show aW P w H h a (.dK kvs) from DB ok e
theorem HX{kvs:List<|Key×V}(ok:cY P w H h)(e:H a=Zh (.dK kvs)):kvs.length<=sizeLine/\(a==QT)=Zk/\∃vs,KV kvs vs/\h.DictOf (fO P w) a vs:=vh ok<|.inl e
theorem Jo{ks:List Key}(ok:cY P w H h)(e:H a=Zh (.tup<|ks.map kV)):(PR<|fO P w).is h ks a:=by
 obtain⟨_,its,r,o,h1,h2,n,h3⟩:=(show aW P w H h a (.tup<|ks.map kV) from ok a _ e)
 exact#[o,its.toArray,n,h1,h2,h3,by simpa using oA r]
theorem vg(ok:cY P w H h)(e:Rd H a<|.dT kvs):kvs.length<=sizeLine/\(a==QT)=Zk/\
  ∃xs,KT H kvs xs/\h.DictOfH (PR<|fO P w) a xs:=by
 obtain⟨z,y,xs,r,o,es,O,h1,h2,h3,J,U⟩:=(show aW P w H h a (.dT kvs) from DB ok e)
 refine#[z,y,xs,r,o,es,O,h1,h2,h3,J,λx hx=>?_,U];have all:∀{l:List<|List Key×V} {m:List<|List Key×OS×OR},KT H l m->∀x∈m,(PR<|fO P w).is h x.1 x.2.1:=by
  intro l m q;induction q with
  |nil=>intro x hx;exact nomatch hx
  |@cons p q ps qs hq t ih=>
   intro x hx;rcases bY.mp hx with e|hx
   .subst e;exact Jo ok<|by rw[<- hq.1];exact hq.2.1
   .exact ih x hx
 exact all r x hx
theorem DQ(ok:cY P w H h)(e:H a=Zh (.dT kvs)):kvs.length<=sizeLine/\(a==QT)=Zk/\
  ∃xs,KT H kvs xs/\h.DictOfH (PR<|fO P w) a xs:=vg ok<|.inl e
end
def lY(H:Hp)(a:OS)(y:V)(r:Option V):Prop:=
 (∃kvs k,Rd H a (.dK kvs)/\y=kV k/\r=dG kvs k)∨∃kvs k b,Rd H a (.dT kvs)/\y=.ref b/\H b=Zh (.tup<|k.map kV)/\r=dG kvs k
def tI(H:Hp)(a:OS)(y v:V)(H':Hp):Prop:=
 (∃kvs k,H a=Zh (.dK kvs)/\y=kV k/\kvs.length<sizeLine/\H'=upd H a (.dK<|putK kvs k v))∨
 ∃kvs k b,H a=Zh (.dT kvs)/\y=.ref b/\H b=Zh (.tup<|k.map kV)/\kvs.length<sizeLine/\H'=upd H a (.dT<|putK kvs k v)
theorem lY.t{k:List Key}(e:H a=Zh (.dT kvs))(z:H b=Zh (.tup<|k.map kV)):lY H a (.ref b)<|dG kvs k:=.inr #[kvs,k,b,.inl e,rfl,z,rfl]
theorem tI.t{k:List Key}{v:V}(e:H a=Zh (.dT kvs))(z:H b=Zh (.tup<|k.map kV))(hl:kvs.length<sizeLine):
  tI H a (.ref b) v<|upd H a<|.dT<|putK kvs k v:=.inr #[kvs,k,b,e,rfl,z,hl,rfl]
section
variable {pins:List (OS×Qf)}{s:OU}{v:V}{r:OR}{A:Py}{E:OR->OU->Prop}
theorem Inv.big(I:Inv X pins σ H s):QT<s.heap.objs.size:=by
 have h:Ph<s.heap.objs.size:=(I.mod.glob.keeps I.bk).lt;exact Tn (by decide) h
theorem wR{Q:OR->OU->Prop}(hu:A.units+1<Ua)(I:Inv X pins σ H s)(g:lY H a y<|some v)(ry:RelV y u)(h:∀w' s',Inv X pins σ H s'->RelV v w'->Q w' s'):
  OZ (Pd X.prog X.w) A (Ug (.ref a) u) Q E s:=by
 rcases g with ⟨kvs,k,e,U,l⟩|⟨kvs,k,b,e,U,eb,l⟩
 .subst U;obtain⟨z,hd,vs,O,dd⟩:=vh I.Uz e;obtain⟨w',hw,J⟩:=dH.some_of (v:=v) (o:=TL vs k) (by rw[l];exact O.val k);exact wpAny_getItem_of (Ja ry) dd.mapOf hw<|h w' _ (I.tok _) J
 .subst U;cases(show u=Value.ref b from ry);obtain⟨z,hd,xs,O,dd⟩:=vg I.Uz e;obtain⟨w',hw,J⟩:=dH.some_of (v:=v) (o:=(Ut xs k).map (·.2)) (by rw[l];exact O.val k);obtain⟨p,hp,Z⟩:=Bc.mp hw;refine wpAny_getItem_heap (Tv hu) (Jo I.Uz eb) dd hp ?_;rw[Z];exact h w' _ (I.tok _) J
theorem vm{t':Nat}{ob:HO}(I:Inv X pins σ H s)(Z:IS<|H a)(O:Pr a s.heap h')(J:∃q,h'.get? a=Zh q)(new:aW X.prog X.w (upd H a ob) h' a ob):
  Inv X pins σ (upd H a ob) { s with heap:=h',toks:=t' }:=
 I.write (x:=a) (e:=a) Z (.inl rfl) (λb q U z=>(O.2 b U).trans z) J new
theorem FO{kvs:List<|Key×V}{vs:List<|Key×OR}(z:kvs.length<=sizeLine)(hd:(a==QT)=Zk)(J:KV kvs vs)(dd:h'.DictOf (fO P w) a vs):
  aW P w H' h' a<|.dK kvs:=#[z,hd,vs,J,dd]
theorem wQ{Q:Unit->OU->Prop}(hu:A.units+1<Ua)(I:Inv X pins σ H s)(g:tI H a y v H')(ry:RelV y u)(rv:RelV v r)(h:∀s',Inv X pins σ H' s'->Q .unit s'):
  OZ (Pd X.prog X.w) A (setItem (.ref a) u r) Q E s:=by
 rcases g with ⟨kvs,k,e,Z,l,eH⟩|⟨kvs,k,b,e,Z,eb,l,eH⟩
 .subst Z eH;obtain⟨z,hd,vs,J,dd⟩:=HX I.Uz e;have hz:vs.length<=sizeLine:=by rw[<- J.length];exact z
  have hl:(putK kvs k v).length<=sizeLine:=by have:=Mr kvs k v;lia
  refine wpAny_setItem_pairs (hsz:=hz) (Ja ry) dd λh' O hs=>h _ ?_;have he:∃q,h'.get? a=Zh q:=let ⟨q,_,_,U,_⟩:=O;#[q,U]
  exact vm I (by rw[e];exact True.intro) hs he<|FO hl hd (J.put k rv) O
 .subst Z eH;cases(show u=Value.ref b from ry);obtain⟨z,hd,xs,J,dd⟩:=DQ I.Uz e;have hz:xs.length<=sizeLine:=by rw[<- Ts J];exact z
  have hl:(putK kvs k v).length<=sizeLine:=by have:=Mr kvs k v;lia
  refine wpAny_setItem_heap (hsz:=hz) (Tv hu) (Jo I.Uz eb) dd λh' O hs=>h _ ?_;obtain⟨q,es,ep,U,h2,h3,h4,_,h5⟩:=O;refine vm I (by rw[e];exact True.intro) hs #[q,U] #[hl,hd,_,(J.put k eb rv).keeps λc ys ec=>?_,q,es,ep,U,h2,h3,h4,h5];rw[aO<|HS ec e λz=>nomatch z];exact ec
end
def IQ(i:P1):Prop:=∀ov iv,subscripted i Zk ov iv=operate [ov,iv] (Ug ov iv)
theorem Bk{prog:Pl}{A:Py}{E:OR->OU->Prop}{s:OU}{env:RN}{value z:P1}{pos:RC}{T id:String}{Q:OR->OU->Prop}
  (hl:Ul (.type T) "__getitem__"=pure (Zh<|.builtin id)) (hs:IQ z)
  (h:OZ (Pd prog w) A (eval value env) (λo s₁=>OZ (Pd prog w) A (eval z env) (λi s₂=>s₂.TypeIs o T/\OZ (Pd prog w) A (Ug o i) Q E s₂) E s₁) E s):
  OZ (Pd prog w) A (eval (.Subscript value z pos) env) Q E s:=by
 refine Subscript_<|Pu h (λo s₁ Z=>Pu Z (λi s₂ J=>?_) λ_ _ x=>x) λ_ _ x=>x;obtain⟨hT,J⟩:=J;unfold subscriptTail;refine OQ ?_;rw[getitemInPython_of_ne hT.not_modules];refine OQ<|SE hT hl ?_;have fin:OZ (Pd prog w) A (subscripted z Zk o i) (λr O=>OZ (Pd prog w) A (letTemporaryGo value o r>>=λ_=>pure r) Q E O) E s₂:=by
  rw[hs o i];exact wpAny_operating<|Pu J (λr O U=>OQ<|wpAny_letTemporaryGo<|OV U) λ_ _ x=>x
 first
  |exact OV<|OQ fin
  |exact OQ<|OV<|OQ fin
  |exact OQ fin
theorem rG{pins:List<|OS×Qf}{s:OU}(I:Inv X pins σ H s)(g:lY H a y o):s.TypeIs (.ref a) "dict":=by
 rcases g with ⟨kvs,k,e,_,_⟩|⟨kvs,k,b,e,_,_,_⟩
 .obtain ⟨_,_,vs,_,dd⟩:=vh I.Uz e;exact dd.typeIs
 .obtain ⟨_,_,xs,_,dd⟩:=vg I.Uz e;exact dd.typeIs
def Dv(td ty:TE):TE:=λσ H Q=>td σ H λx H1=>ty σ H1 λy H2=>L2.X2 λa v=>x=.ref a/\lY H2 a y (Zh v)/\Q v H2
def Kf(ty td:TE):TE:=λσ H Q=>ty σ H λy H1=>td σ H1 λx H2=>L2.X2 λa o=>x=.ref a/\lY H2 a y o/\Q (.bl o.isSome) H2
def Bi(ty td:TE):TE:=λσ H Q=>ty σ H λy H1=>td σ H1 λx H2=>L2.X2 λa o=>x=.ref a/\lY H2 a y o/\Q (.bl<|!o.isSome) H2
def DA(td ty tv:TE):TS:=λD σ H=>tv σ H λv H1=>td σ H1 λx H2=>ty σ H2 λy H3=>L2.X2 λa H4=>x=.ref a/\tI H3 a y v H4/\D.nx σ H4
section
variable {o i e value:P1}{pos pos' tpos:RC}{td ty tv:TE}
theorem uH(hu:X.A.units+1<Ua)(ho:PE X o td)(hi:PE X i ty)(hs:IQ i):PE X (.Subscript o i pos)<|Dv td ty:=by
 intro pins s σ H Q I h;refine Bk PySem.F.slot_dict_getitem.lookup hs<|thn (ho pins s σ H _ I h) λu s1 J=>?_;obtain⟨x,H1,I1,rx,U⟩:=J;refine thn (hi pins s1 σ H1 _ I1 U) λiv s2 J=>?_;obtain⟨y,H2,O,ry,a,v,ex,g,Z⟩:=J;subst ex;obtain rfl:u=Value.ref a:=rx;exact#[rG O g,wR hu O g ry λw' s3 I3 z=>#[v,H2,I3,z,Z]]
theorem K2(hu:X.A.units+1<Ua)(ho:PE X o td)(hi:PE X i ty)(O:PE X value tv)(hs:RA value (Zh<|.Subscript o i pos') pos.line X.env=pure Zk):
  PS X (.Assign [.Subscript o i pos'] value pos)<|DA td ty tv:=by
 intro pins s σ H D I h;refine wpAny_Assign_Subscript (thn (O pins s σ H _ I h) λr s1 z=>?_) hs;obtain⟨v,H1,I1,rv,J⟩:=z;refine thn (ho pins s1 σ H1 _ I1 J) λu s2 z=>?_;obtain⟨x,H2,I2,rx,U⟩:=z;refine thn (hi pins s2 σ H2 _ I2 U) λiv s3 z=>?_;obtain⟨y,H3,Z,ry,a,H4,ex,g,q3⟩:=z;subst ex;obtain rfl:u=Value.ref a:=rx;exact wQ hu Z g ry rv λs4 I4=>#[σ,H4,I4,q3]
end
theorem zM(h:PJ)(z:QT<h.objs.size):aW P w H (h.push { cls:=.type "dict",data:=.dict (List.toArray []) }) h.objs.size<|.dT []:=
 #[cQ _,beq_eq_false_iff_ne.mpr<|Pe<|fQ z,[],.nil,_,(List.toArray []),0,Pf _ rfl,#[rfl,rfl,rfl],rfl,rfl,List.nodup_nil]
def yd:TE:=λ_ H Q=>∀p,H p=Zi->Q (.ref p) (upd H p<|.dT [])
section
variable {pos:RC}
theorem yM:PE X (.Dict [] [] pos) yd:=λpins s σ H Q I h=>
 wpAny_Dict_empty #[.ref s.heap.objs.size,_,I.laid (a:=s.heap.objs.size) (o:=.dT []) (t':=s.toks) (λ_ _ q=>OT _ q) (aN _)<|zM s.heap I.big,rfl,h _<|I.Uz.fresh<|aN _]
end
inductive DD:V->List V->Hp->VK->Prop
 |mk (a y o:_):x_=.ref a->R=[y]->lY Y a y o->L (o.getD .Uy) Y->DD x_ R Y L
theorem BW(hu:X.A.units+1<Ua):M0 X "dict.get" DD:=by
 intro pins s σ H x vs v us Q I rx rv h;obtain⟨a,y,o,rfl,rfl,g,q⟩:=h;cases rx;obtain⟨u,rfl,U⟩:=rv.one;rcases g with ⟨kvs,k,e,O,l⟩|⟨kvs,k,b,e,O,Z,l⟩
 .subst O;obtain⟨z,hd,vs,J,dd⟩:=vh I.Uz e;refine call_meetsIn R9 dd.typeIs PySem.F.entry_dict_get (PySem.F.args_dict_get_2 _ _) (meets_dict_get (fO X.prog X.w) a (Ja U) hd) #[_,dd.mapOf,?_];subst l;exact#[_,H,I.tok _,(J.val k).getD (d:=.Uy) (d':=.none) rfl,q]
 .subst O;cases(show u=Value.ref b from U);obtain⟨z,hd,xs,J,dd⟩:=vg I.Uz e;refine call_meetsIn R9 dd.typeIs PySem.F.entry_dict_get (PySem.F.args_dict_get_2 _ _) (meetsH_dict_get (PR<|fO X.prog X.w) a b hd) #[Tv hu,k,xs,Jo I.Uz Z,dd,?_];subst l;exact#[_,H,I.tok _,(J.val k).getD (d:=.Uy) (d':=.none) rfl,q]
theorem y3{h:PJ}{ks:List Key}(m:∀b o,h.get? b=Zh o->h'.get? b=Zh o)(k:(PR<|fO P w).is h ks a):(PR<|fO P w).is h' ks a:=by
 obtain⟨o,its,n,h1,r⟩:=k;exact#[o,its,n,m _ _ h1,r]
end L2
namespace PySem
variable {i2 l1 l2:OS}{xs ys:Array OR}{c0 c1:OR}{k:Nat}
noncomputable abbrev pd(hp:PJ)(zo ti to:OS)(f0 f1:OR):Prop:=
 hp.get? zo=Zh { cls:=.type "zip",dict:=Zi,data:=.fields (List.toArray [f0,f1,.bool Zk,.ref ti,.ref to]),slots:=(List.toArray []) }
def F0(f:OR):Prop:=f=.none∨∃a t,f=.int a t
section
variable {prog:Pl}{w:PN}{A:Py}{E:OR->OU->Prop}{s:OU}{zo ti to:OS}{f0 f1:OR}
theorem w8{a:OS}{Q:Option Qf->OU->Prop}(q:Q (s.heap.get? a) s):OZ (Pd prog w) A (loadIfAlive a) Q E s:=λΓ p z=>by
 unfold loadIfAlive;rw[Sem.wp_loadIfAlive];exact OV (M:=Pd prog w) (A:=A) (E:=E) q Γ p z
theorem zfree{Q:Bool->OU->Prop}(J:pd s.heap zo ti to f0 f1)(Z:F0 f0)(h1:Q Zj s)(h2:∀z g1,pd z zo ti to f0 g1->Pr zo s.heap z->Q Zk { s with heap:=z }):
  OZ (Pd prog w) A (Qv<|.ref zo) Q E s:=by
 unfold Qv;refine OQ<|Qb J rfl (x:=f0) rfl ?_;rcases Z with rfl|⟨a,t,rfl⟩
 .exact OV h1
 .dsimp only;refine OQ<|w8 ?_;by_cases ha:(s.heap.get? a.toNat).isNone=Zj
  .rw [Z9 ha];exact OV h1
  .rw [Z8 ha];refine OQ<|Qb J rfl (x:=f1) rfl ?_;by_cases hb:(f1 !=Value.bool Zj)=Zj
   .rw [Z9 hb];exact OQ<|Qj J (by simp) λz O U=>OV<|h2 z _ O U
   .rw [Z8 hb];exact OV<|h2 s.heap f1 J<|TV _ _
theorem vP{O:OS}{x y:OR}{Q:OR->OU->Prop}(D:TQ zo ti to O i2 l1 l2)
  (qz:pd s.heap zo ti to f0 f1) (hf:F0 f0) (qT:QP s.heap ti (.ref O)<|.ref i2) (qO:QP s.heap to c0 c1)
  (h1:s.heap.IsListIter O l1 k) (h2:s.heap.IsListIter i2 l2 k) (ac:s.heap.IsList l1 xs) (aa:s.heap.IsList l2 ys) (hx:xs[k]?=Zh x) (hy:ys[k]?=Zh y)
  (q:∀(hp:PJ) (p:OS) (g0 g1 d0 d1:OR),pd hp zo ti to g0 g1->F0 g0->QP hp to d0 d1->hp.IsListIter O l1 (k+1)->hp.IsListIter i2 l2 (k+1)->QP hp p x y->p=s.heap.objs.size->(∀c o,c≠zo->c≠to->c≠O->c≠i2->s.heap.get? c=Zh o->hp.get? c=Zh o)->Q (.ref p) { s with heap:=hp }):
  OZ (Pd prog w) A (RV.«zip.__next__» #[[.ref zo],[]]) (λfin s'=>∃v,fin=.done (.ret v)/\Q v s') E s:=by
 show OZ _ _ (field (.ref zo) 2>>=_) _ _ _;refine OQ<|Qb qz rfl (x:=.bool Zk) rfl ?_;show OZ _ _ (field (.ref zo) 3>>=_) _ _ _;refine OQ<|Qb qz rfl (x:=.ref ti) rfl ?_;refine OQ<|QS qT rfl ?_;show OZ _ _ (Qv (.ref zo)>>=_) _ _ _;refine OQ<|zfree qz hf ?_ ?_
 .simp only[if_true];refine OQ<|Tt<|OQ<|Qb qz rfl (x:=.ref to) rfl<|OQ<|Qj qz (by simp) λe1 z1 b1=>?_;replace z1:pd e1 zo ti to .ellipsis f1:=z1;simp only[List.zipIdx_cons,List.zipIdx_nil,List.forIn_cons,GD];refine OQ<|OQ<|OQ<|Si ?_;show OZ _ _ (P2 (.ref O)>>=λv=>pure<|some v) _ _ _;refine OQ<|Qr (h1.extBut b1.extBut D.i1z) (ac.extBut b1.extBut D.l1z) hx λe2 t2 z=>OV ?_;have o2:QP e2 to c0 c1:=z.extBut _ _ D.TOi1<|b1.extBut _ _ D.TOz qO;refine OQ<|QS o2 rfl<|OQ<|SU o2 λe3 o3 U=>OQ<|T9<|OV ?_;replace o3:QP e3 to x c1:=o3;refine OQ<|OQ<|Si ?_;show OZ _ _ (P2 (.ref i2)>>=λv=>pure<|some v) _ _ _;refine OQ<|Qr (((h2.extBut b1.extBut D.i2z).extBut z.extBut D.i12.symm).extBut U.extBut D.TOi2.symm) (((aa.extBut b1.extBut D.l2z).extBut z.extBut D.l2i1).extBut U.extBut D.l2TO) hy λe4 t4 J=>OV ?_;have o4:QP e4 to x c1:=J.extBut _ _ D.TOi2 o3;refine OQ<|QS o4 rfl<|OQ<|SU o4 λe5 o5 b5=>OQ<|T9<|OV<|OV ?_;replace o5:QP e5 to x y:=o5;refine OQ<|QS o5 rfl<|OQ<|SV ?_;replace z:Pr O e1 e2:=z;replace U:Pr to e2 e3:=U;replace J:Pr i2 e3 e4:=J;replace b5:Pr to e4 e5:=b5;have sz:e5.objs.size=s.heap.objs.size:=by rw[b5.1,J.1,U.1,z.1,b1.1]
  have z5:pd e5 zo ti to .ellipsis f1:=b5.extBut _ _ D.TOz.symm<|J.extBut _ _ D.i2z.symm<|U.extBut _ _ D.TOz.symm<|z.extBut _ _ D.i1z.symm z1;have k5:∀c o,c≠zo->c≠to->c≠O->c≠i2->s.heap.get? c=Zh o->e5.get? c=Zh o:=λc o n1 n2 n3 n4 e=>b5.extBut _ _ n2<|J.extBut _ _ n4<|U.extBut _ _ n2<|z.extBut _ _ n3<|b1.extBut _ _ n1 e;have t5:e5.IsListIter O l1<|k+1:=((t2.extBut U.extBut D.TOi1.symm).extBut J.extBut D.i12).extBut b5.extBut D.TOi1.symm;have u5:e5.IsListIter i2 l2<|k+1:=t4.extBut b5.extBut D.TOi2.symm;have lz:zo<e5.objs.size:=Pa z5;show OZ _ _ (To (.ref zo) (.ref e5.objs.size)>>=_) _ _ _;refine OQ ?_;unfold To;have z6:pd (e5.push { cls:=.type "tuple",data:=.seq (List.toArray [x,y]) }) zo ti to .ellipsis f1:=OT _ z5;refine OQ<|Qj z6 (by simp) λe7 z7 b7=>Qj z7 (by simp) λe8 z8 b8=>OV #[_,rfl,?_];replace z8:pd e8 zo ti to (QO e5.objs.size)<|.bool Zk:=z8;replace b7:Pr zo (e5.push { cls:=.type "tuple",data:=.seq (List.toArray [x,y]) }) e7:=b7;replace b8:Pr zo e7 e8:=b8;have up:∀c o,c≠zo->e5.get? c=Zh o->e8.get? c=Zh o:=λc o n e=>b8.extBut _ _ n<|b7.extBut _ _ n<|OT _ e;exact q e8 e5.objs.size _ _ x y z8 (.inr #[_,_,rfl]) (up _ _ D.TOz o5) (t5.at λo e=>up _ o D.i1z e) (u5.at λo e=>up _ o D.i2z e) (b8.extBut _ _ (RJ lz)<|b7.extBut _ _ (RJ lz)<|Pf _ rfl) sz λc o n1 n2 n3 n4 e=>up c o n1<|k5 c o n1 n2 n3 n4 e
 .intro hp g1 ad Z;simp only[Dj,if_false];simp only[<- SS,List.forIn_cons,GD];refine OQ<|OQ<|OQ<|PC ?_;show OZ _ _ (P2 (.ref O)>>=λv=>pure<|some v) _ _ _;refine OQ<|Qr (h1.extBut Z.extBut D.i1z) (ac.extBut Z.extBut D.l1z) hx λe2 t2 z=>OV<|OV ?_;replace z:Pr O hp e2:=z;refine OQ<|OQ<|PC ?_;show OZ _ _ (P2 (.ref i2)>>=λv=>pure<|some v) _ _ _;refine OQ<|Qr ((h2.extBut Z.extBut D.i2z).extBut z.extBut D.i12.symm) ((aa.extBut Z.extBut D.l2z).extBut z.extBut D.l2i1) hy λe4 t4 J=>OV<|OV<|OV ?_;replace J:Pr i2 e2 e4:=J;show OZ _ _ (newTuple [x,y]>>=λr=>ret r) _ _ { s with heap:=e4 };refine OQ<|SV<|OV #[_,rfl,?_];have pu:∀c o,e4.get? c=Zh o->(e4.push { cls:=.type "tuple",data:=.seq (List.toArray [x,y]) }).get? c=Zh o:=λc o e=>OT _ e;have z4:pd e4 zo ti to f0 g1:=J.extBut _ _ D.i2z.symm<|z.extBut _ _ D.i1z.symm ad;have o4:QP e4 to c0 c1:=J.extBut _ _ D.TOi2<|z.extBut _ _ D.TOi1<|Z.extBut _ _ D.TOz qO;have sz:e4.objs.size=s.heap.objs.size:=by rw[J.1,z.1,Z.1]
  exact q (e4.push { cls:=.type "tuple",data:=.seq (List.toArray [x,y]) }) e4.objs.size f0 g1 c0 c1 (pu _ _ z4) hf (pu _ _ o4) ((t2.extBut J.extBut D.i12).at λo e=>pu _ o e) (t4.at λo e=>pu _ o e) (Pf _ rfl) sz λc o n1 n2 n3 n4 e=>pu _ _<|J.extBut _ _ n4<|z.extBut _ _ n3<|Z.extBut _ _ n1 e
theorem xp{i1:OS}{Q:Fin->OU->Prop}(hh:A.handled=Zi)(D:TQ zo ti to i1 i2 l1 l2)
  (qz:pd s.heap zo ti to f0 f1) (hf:F0 f0) (qT:QP s.heap ti (.ref i1)<|.ref i2) (qO:QP s.heap to c0 c1)
  (h1:s.heap.IsListIter i1 l1 k) (h2:s.heap.IsListIter i2 l2 k) (O:s.heap.IsList l1 xs) (ac:s.heap.IsList l2 ys) (he:xs[k]?=Zi∨ys[k]?=Zi)
  (q:∀(hp:PJ) (e:OS),(∀c o,c≠zo->c≠to->c≠i1->c≠i2->s.heap.get? c=Zh o->hp.get? c=Zh o)->(∃o,hp.get? e=Zh o/\o.cls=.type "StopIteration")->E (.ref e) { s with heap:=hp }):
  OZ (Pd prog w) A (RV.«zip.__next__» #[[.ref zo],[]]) Q E s:=by
 show OZ _ _ (field (.ref zo) 2>>=_) _ _ _;refine OQ<|Qb qz rfl (x:=.bool Zk) rfl ?_;show OZ _ _ (field (.ref zo) 3>>=_) _ _ _;refine OQ<|Qb qz rfl (x:=.ref ti) rfl ?_;refine OQ<|QS qT rfl ?_;show OZ _ _ (Qv (.ref zo)>>=_) _ _ _;refine OQ<|zfree qz hf ?_ ?_
 .simp only[if_true];refine OQ<|Tt<|OQ<|Qb qz rfl (x:=.ref to) rfl<|OQ<|Qj qz (by simp) λe1 z1 U=>?_;replace z1:pd e1 zo ti to .ellipsis f1:=z1;simp only[List.zipIdx_cons,List.zipIdx_nil,List.forIn_cons,GD];refine OQ<|OQ<|OQ<|Si ?_;show OZ _ _ (P2 (.ref i1)>>=λv=>pure<|some v) _ _ _;cases hx:xs[k]? with
  |none=>
   refine OQ<|Rv hh (h1.extBut U.extBut D.i1z) (O.extBut U.extBut D.l1z) hx λe2 e J ⟨oe,ho,hc⟩=>?_;have z2:pd e2 zo ti to .ellipsis f1:=J _ _ D.i1z.symm z1;have ne:e≠zo:=λz=>by subst z;rw[z2] at ho;cases ho;simp at hc
   exact Qj z2 (by simp) λe3 _ b3=>q e3 e (λc o n1 _ n3 _ x=>b3.extBut _ _ n1<|J _ _ n3<|U.extBut _ _ n1 x) ⟨oe,b3.extBut _ _ ne ho,hc⟩
  |some x=>
   have hy:ys[k]?=Zi:=he.resolve_left (by rw[hx];simp);refine OQ<|Qr (h1.extBut U.extBut D.i1z) (O.extBut U.extBut D.l1z) hx λe2 t2 J=>OV ?_;have o2:QP e2 to c0 c1:=J.extBut _ _ D.TOi1<|U.extBut _ _ D.TOz qO;refine OQ<|QS o2 rfl<|OQ<|SU o2 λe3 o3 b3=>OQ<|T9<|OV ?_;refine OQ<|OQ<|Si ?_;show OZ _ _ (P2 (.ref i2)>>=λv=>pure<|some v) _ _ _;refine OQ<|Rv hh (((h2.extBut U.extBut D.i2z).extBut J.extBut D.i12.symm).extBut b3.extBut D.TOi2.symm) (((ac.extBut U.extBut D.l2z).extBut J.extBut D.l2i1).extBut b3.extBut D.l2TO) hy λe4 e b4 ⟨oe,ho,hc⟩=>?_;have z4:pd e4 zo ti to .ellipsis f1:=b4 _ _ D.i2z.symm<|b3.extBut _ _ D.TOz.symm<|J.extBut _ _ D.i1z.symm z1;have ne:e≠zo:=λz=>by subst z;rw[z4] at ho;cases ho;simp at hc
   exact Qj z4 (by simp) λe5 _ b5=>q e5 e (λc o n1 n2 n3 n4 x=>b5.extBut _ _ n1<|b4 _ _ n4<|b3.extBut _ _ n2<|J.extBut _ _ n3<|U.extBut _ _ n1 x) ⟨oe,b5.extBut _ _ ne ho,hc⟩
 .intro hp g1 ad Z;simp only[Dj,if_false];simp only[<- SS,List.forIn_cons,GD];refine OQ<|OQ<|OQ<|PC ?_;show OZ _ _ (P2 (.ref i1)>>=λv=>pure<|some v) _ _ _;cases hx:xs[k]? with
  |none=>
   exact OQ<|Rv hh (h1.extBut Z.extBut D.i1z) (O.extBut Z.extBut D.l1z) hx λe2 e J aa=>q e2 e (λc o n1 _ n3 _ x=>J _ _ n3<|Z.extBut _ _ n1 x) aa
  |some x=>
   have hy:ys[k]?=Zi:=he.resolve_left (by rw[hx];simp);refine OQ<|Qr (h1.extBut Z.extBut D.i1z) (O.extBut Z.extBut D.l1z) hx λe2 t2 J=>OV<|OV ?_;replace J:Pr i1 hp e2:=J;refine OQ<|OQ<|PC ?_;show OZ _ _ (P2 (.ref i2)>>=λv=>pure<|some v) _ _ _;exact OQ<|Rv hh ((h2.extBut Z.extBut D.i2z).extBut J.extBut D.i12.symm) ((ac.extBut Z.extBut D.l2z).extBut J.extBut D.l2i1) hy λe4 e b4 aa=>q e4 e (λc o n1 _ n3 n4 x=>b4 _ _ n4<|J.extBut _ _ n3<|Z.extBut _ _ n1 x) aa
theorem vN{z:OS}{x y:OR}{Q:Option OR->OU->Prop}(D:TQ zo ti to z i2 l1 l2)
  (qz:pd s.heap zo ti to f0 f1) (hf:F0 f0) (qT:QP s.heap ti (.ref z)<|.ref i2) (qO:QP s.heap to c0 c1)
  (h1:s.heap.IsListIter z l1 k) (h2:s.heap.IsListIter i2 l2 k) (O:s.heap.IsList l1 xs) (J:s.heap.IsList l2 ys) (hx:xs[k]?=Zh x) (hy:ys[k]?=Zh y)
  (q:∀(hp:PJ) (p:OS) (g0 g1 U Z:OR),pd hp zo ti to g0 g1->F0 g0->QP hp to U Z->hp.IsListIter z l1 (k+1)->hp.IsListIter i2 l2 (k+1)->QP hp p x y->p=s.heap.objs.size->(∀c o,c≠zo->c≠to->c≠z->c≠i2->s.heap.get? c=Zh o->hp.get? c=Zh o)->Q (Zh<|.ref p) { s with heap:=hp }):
  OZ (Pd prog w) A (Tx<|.ref zo) Q E s:=by
 have tz:s.TypeIs (.ref zo) "zip":=#[_,qz,rfl]
 unfold Tx;exact OQ<|RE<|Rg (name:=Ro "__next__") tz SN<|QX SN tz F.entry_zip_next (vP D qz hf qT qO h1 h2 O J hx hy λhp p g0 g1 U Z a1 a2 a3 a4 a5 a6 a7 a8=>OV<|q hp p g0 g1 U Z a1 a2 a3 a4 a5 a6 a7 a8)<|F.args_zip_next_1 _
theorem vM{z:OS}{Q:Option OR->OU->Prop}(hh:A.handled=Zi)(D:TQ zo ti to z i2 l1 l2)
  (qz:pd s.heap zo ti to f0 f1) (hf:F0 f0) (qT:QP s.heap ti (.ref z)<|.ref i2) (qO:QP s.heap to c0 c1)
  (h1:s.heap.IsListIter z l1 k) (h2:s.heap.IsListIter i2 l2 k) (U:s.heap.IsList l1 xs) (O:s.heap.IsList l2 ys) (he:xs[k]?=Zi∨ys[k]?=Zi)
  (q:∀J:PJ,(∀c o,c≠zo->c≠to->c≠z->c≠i2->s.heap.get? c=Zh o->J.get? c=Zh o)->Q Zi { s with heap:=J }):OZ (Pd prog w) A (Tx<|.ref zo) Q E s:=by
 have Z:s.TypeIs (.ref zo) "zip":=#[_,qz,rfl]
 unfold Tx;refine OQ<|RE<|Rg (name:=Ro "__next__") Z SN<|QX SN Z F.entry_zip_next (xp hh D qz hf qT qO h1 h2 U O he λJ e hk ⟨o,ho,hc⟩=>?_)<|F.args_zip_next_1 _;exact OQ<|Sr (T:="StopIteration") (b:=Zj) #[o,ho,hc] Uq<|OV<|q _ hk
theorem vO{Q:OR->OU->Prop}(J:pd s.heap zo ti to f0 f1)(h:Q (.ref zo) s):OZ (Pd prog w) A (pyIter<|.ref zo) Q E s:=by
 have z:s.TypeIs (.ref zo) "zip":=#[_,J,rfl]
 refine wpAny_pyIter_slot z F.slot_zip_iter<|QX F.slot_zip_iter z F.entry_zip_iter ?_<|F.args_zip_iter_1 _;show OZ _ _ (ret<|.ref zo) _ _ s;exact OV #[_,rfl,"zip",_,z,F.slot_zip_next.lookup,h]
end
end PySem
namespace L2
open PySem PySem.Spec PyProof.Rows
variable {g:TG}{a b d:Int}{σ:St}{ta:TA}{tt:TT}{tg:P1}{p pos:RC}{te u:TE}{H:Hp}{Q:VK}
def Ko(tg:P1):Prop:=∀{prog:Pl} {w:PN} {A:Py} {E:OR->OU->Prop} {s:OU} {z TI TO T:OS} {f0 f1:OR} {Q:Unit->OU->Prop},pd s.heap z TI TO f0 f1->F0 f0->(∀hp g0,pd hp z TI TO g0 f1->F0 g0->Pr z s.heap hp->Q .unit { s with heap:=hp })->OZ (Pd prog w) A (Q9 tg (.ref z)<|.ref T) Q E s
theorem FD{es:List P1}{x1}:Ko<|.Tuple es x1 p:=fun {prog w A E s z TI TO T f0 f1 Q} J hf q=>by
 unfold Q9;refine OQ<|wpAny_load J ?_;dsimp only;split
 .refine OQ (Tt ?_);show OZ _ _ (Um (.ref z) 0 .none) Q E s;exact Qj J (by simp) λO Z U=>q O .none Z (.inl rfl) U
 .exact OV (q _ _ J hf<|TV _ _)
theorem vV{P:Pl}{w:PN}{K:W.Frag}(go:Ko tg)(a b z TI TO Z i2:OS)(D:TQ z TI TO Z i2 a b):Turn P w K tg (C4 K a b) [z,TI,TO,Z,i2] z (λi h=>(∃f0 f1,pd h z TI TO f0 f1/\F0 f0)/\QP h TI (.ref Z) (.ref i2)/\(∃u v,QP h TO u v)/\h.IsListIter Z a i/\h.IsListIter i2 b i) where
 mem:=by simp
 obj:=λi h st c hc=>by
  obtain⟨⟨f0,f1,U,_⟩,J,⟨u,v,O⟩,⟨o1,e1,c1,d1⟩,⟨o2,e2,c2,d2⟩⟩:=st;have ad:c=z∨c=TI∨c=TO∨c=Z∨c=i2:=by simpa using hc
  rcases ad with rfl|rfl|rfl|rfl|rfl
  .exact #[_,U,λv z=>by cases z]
  .exact #[_,J,λv z=>by cases z]
  .exact #[_,O,λv z=>by cases z]
  .exact #[o1,e1,λv z=>by rw[d1] at z;cases z]
  .exact #[o2,e2,λv z=>by rw[d2] at z;cases z]
 keep:=λi h h' st k=>by
  obtain⟨⟨f0,f1,U,hf⟩,J,⟨u,v,O⟩,h1,h2⟩:=st;exact#[#[f0,f1,k z (by simp) _ U,hf],k TI (by simp) _ J,#[u,v,k TO (by simp) _ O],h1.at λo q=>k Z (by simp) o q,h2.at λo q=>k i2 (by simp) o q]
 item:=by
  intro X hP hw hK hc i pins s σ H E I hf st hg;subst hP hw hK;obtain⟨xs,x,ys,y,hq,hx,aa,hy⟩:=hg;obtain⟨its,rv,p,ai⟩:=I.list hq;obtain⟨u,hu,ru⟩:=rv.get hx;obtain⟨its',ac,p',ae⟩:=I.list aa;obtain⟨u',aj,am⟩:=ac.get hy;obtain⟨⟨f0,f1,U,hF⟩,J,⟨ua,ub,O⟩,h1,h2⟩:=st;refine vN D U hF J O h1 h2 p.isList p'.isList (x:=u) (y:=u') (by simpa using hu) (by simpa using aj) λhp pa g0 g1 d0 d1 a1 a2 a3 a4 a5 a6 a7 hk=>#[_,rfl,?_]
  subst a7;refine go a1 a2 λah g2 z1 z2 sb=>?_;have af:z<s.heap.objs.size:=Pa U;have up:∀c o,c≠z->hp.get? c=Zh o->ah.get? c=Zh o:=λc o n q=>(sb.2 c n).trans q;have ag:H s.heap.objs.size=Zi:=I.Uz.fresh<|aN _;refine#[.ref s.heap.objs.size,upd H s.heap.objs.size<|.tup [x,y],I.Xd (ch:=[z,TI,TO,Z,i2]) (t':=s.toks) hf (λc ob hc q=>?_) (aN _) ?_,rfl,#[_,x,y,ag,λzs U=>by rw[I.VA U hq];exact hx,λzs U=>by rw[I.VA U aa];exact hy,rfl,rfl],#[#[g2,g1,z1,z2],up _ _ D.TIz<|hk _ _ D.TIz D.TITO D.TIi1 D.TIi2 J,#[_,_,up _ _ D.TOz a3],a4.at λo q=>up _ _ D.i1z q,a5.at λo q=>up _ _ D.i2z q],λc hc=>?_]
  .exact up _ _ (λe=>hc<|by simp[e]) (hk c ob (λe=>hc<|by simp[e]) (λe=>hc<|by simp[e]) (λe=>hc<|by simp[e]) (λe=>hc<|by simp[e]) q)
  .exact #[cP (show 2<=1000 by decide),[u,u'],.cons ru<|.cons am .nil,_,up _ _ (RJ af) a6,rfl,0,rfl]
  .have hn:=(hf c hc).1;have ad:c=z∨c=TI∨c=TO∨c=Z∨c=i2:=by simpa using hc
   obtain⟨o1,g1,_⟩:=h1;obtain⟨o2,g2,_⟩:=h2;have ao:c<s.heap.objs.size:=by
    rcases ad with rfl|rfl|rfl|rfl|rfl
    .exact af
    .exact Pa J
    .exact Pa O
    .exact Pa g1
    .exact Pa g2
   rw[aO<|fQ ao];exact hn
 done:=by
  intro X hP hw hK hc i pins s σ H E I hf st hg;subst hP hw hK;obtain⟨xs,ys,hq,aa,hx⟩:=hg;obtain⟨its,rv,p,ai⟩:=I.list hq;obtain⟨its',ac,p',ae⟩:=I.list aa;obtain⟨⟨f0,f1,U,hF⟩,J,⟨ua,ub,O⟩,h1,h2⟩:=st;have hl:=rv.length;have ap:=ac.length;refine vM (I.ok.hd hc) D U hF J O h1 h2 p.isList p'.isList (hx.imp (λz=>by rw[List.getElem?_toArray];exact r9<|∅) λz=>by rw[List.getElem?_toArray];exact r9<|∅) λh' eb=>#[rfl,?_]
  have tr:∀c u,H c=Zh u->c∉[z,TI,TO,Z,i2]:=λc u e q=>by rw[(hf c q).1] at e;cases e
  have k:∀c ob,c∉[z,TI,TO,Z,i2]->s.heap.get? c=Zh ob->h'.get? c=Zh ob:=λc ob n q=>eb c ob (λe=>n<|by simp[e]) (λe=>n<|by simp[e]) (λe=>n<|by simp[e]) (λe=>n<|by simp[e]) q;refine I.call (g':=s.gens) (t':=s.toks) (d':=s.drawn) (ch:=[z,TI,TO,Z,i2]) #[λb ob e n _ hx=>k b ob hx e,λb ob e n _ hx=>#[ob.slots,k b ob hx e],λb ob e n _=>n,λb ob e hx=>#[ob,k b ob hx e],λb xs e=>e,λb ob u e=>e,λb qs e=>#[(List.toArray []),by rw[e];simp]] (λb u e=>?_) I.bare λb hb=>?_
  .refine (I.Uz b u e).UR (λc v hc q=>k c v ?_ q) (λc q=>q) λc xs q=>q;rcases hc with z|z
   .rw [z];exact tr b u e
   .exact tr c _ z
  .obtain ⟨a1,a2,a3,a4,a5,a6⟩:=hf b hb;exact#[a4,a2,a5,a6]
 self:=λ_ _ _ _ _ st h=>by obtain⟨⟨_,_,U,_⟩,_⟩:=st;exact vO U h
section
variable {X:Cx}
theorem BJ(go:Ko tg){l m:P1}(hg:Gl X "zip")(hm:X.mg "zip"=Zi)(ha:PA X [l,m] ta)
  (he:Pb [l,m] X.env=(Zk,eval l X.env)::Pb [m] X.env:=by rfl) (ac:(Qd pos<|Pb [m] X.env).any (·.1)=Zk:=by rfl) (hc:X.calm=Zj:=by rfl):
  PI X tg (.Call (.Name "zip" p) [l,m] [] pos)<|B8 X.K ta:=by
 intro pins s σ H R I h;refine Call_<|D4 I hg hm PyProof.Rows.boot_zip<|Qi (thn (ha pos pins s σ H _ I h) λus s1 zz=>?_) he ac;obtain⟨vs,H1,O,r1,q1⟩:=zz;obtain⟨a,b,e,⟨xs,hq⟩,⟨ys,aa⟩,q⟩:=q1;subst e;obtain⟨u,u',rfl,ru,ad⟩:=DY r1;cases ru;cases ad;obtain⟨its,rv,pl,hz⟩:=O.list hq;obtain⟨its',ag,J,af⟩:=O.list aa;have U:a<s1.heap.objs.size:=by obtain⟨o,ho,_⟩:=pl.isList;exact Pa ho
 have Z:b<s1.heap.objs.size:=by obtain⟨o,ho,_⟩:=J.isList;exact Pa ho
 have D:TQ (s1.heap.objs.size+4) (s1.heap.objs.size+2) (s1.heap.objs.size+3) s1.heap.objs.size (s1.heap.objs.size+1) a b:=by
  generalize s1.heap.objs.size=n at U Z⊢;have h1:LT.lt (α:=Nat) a n:=U;have h2:LT.lt (α:=Nat) b n:=Z;constructor<;>(refine Kb ?_;lia)
 refine call_zip_2 pl.isList J.isList λh' z1 z2 z3 z4 z5 z6 hk=>wpAny_pyIter_zip z1 ?_;have I2:Inv X pins σ H1 { s1 with heap:=h' }:=O.kept (t':=s1.toks) hk;refine#[s1.heap.objs.size+4,_,_,C4 X.K a b,H1,rfl,I2,(vV go a b _ _ _ _ _ D).at hc,#[#[_,_,z1,.inl rfl],z2,#[_,_,z3],z4,z5],λc hc=>?_,q];have ae:c=s1.heap.objs.size+4∨c=s1.heap.objs.size+2∨c=s1.heap.objs.size+3∨c=s1.heap.objs.size∨c=s1.heap.objs.size+1:=by simpa using hc
 have z:s1.heap.objs.size<=c:=by
  rcases ae with rfl|rfl|rfl|rfl|rfl
  .exact Et _ _
  .exact Et _ _
  .exact Et _ _
  .exact aN _
  .exact Et _ _
 exact O.WH z<|O.Uz.fresh z
theorem E5{z:List P1}{x1}{tpos:RC}{l m:P1}(U:Gl X "zip")(hm:X.mg "zip"=Zi)(ha:PA X [l,m] ta)
  (O:Pb [l,m] X.env=(Zk,eval l X.env)::Pb [m] X.env:=by rfl) (J:(Qd pos<|Pb [m] X.env).any (·.1)=Zk:=by rfl) (hc:X.calm=Zj:=by rfl):
  PI X (.Tuple z x1 tpos) (.Call (.Name "zip" p) [l,m] [] pos)<|B8 X.K ta:=BJ FD U hm ha O J hc
end
section
variable {K:W.Frag}{a b:OS}{xs ys:List V}{σ0:St}
def DU(K:W.Frag)(g:TG)(tt:TT)(te:TE)(σ0:St)(Q:VK)(x y:V)(H1:Hp):Prop:=L2.X2 λa b=>[x,y]=[.ref a,.ref b]/\(∃xs,aB K H1 a xs)/\(∃xs,aB K H1 b xs)/\∃W:Nat->Nat->List V->St->Hp->Prop,(∃m,W 0 m [] σ0 H1)/\∀i m zs σ H,W i m zs σ H->
 ((C4 K a b).stop i H/\zs.length<=sizeLine/\∀p,H p=Zi->Q (.ref p) (upd H p<|.lst zs))∨
 ((C4 K a b).go i H/\zs.length<sizeLine/\∀x H',(C4 K a b).VP i H x H'->g x σ H' λσ2 H2=>tt σ2 H2 λb H3=>if b=Zj then te σ2 H3 λy H4=>∃m',m'<m/\W (i+1) m' (zs++[y]) σ2 H4 else ∃m',m'<m/\W (i+1) m' zs σ2 H3)
theorem nH{k:Nat}{js:List Nat}{t:TE}:vC k js (B8 K<|lX t<|lX u gR) g tt te σ H Q=t σ H (λx H1=>u σ H1 λy H2=>DU K g tt te (up k js σ) Q x y H2):=rfl
theorem zY(h:aB K H a xs)(h':aB K H b ys)(hz:xs.length<=1000)(P:Nat->List V->St->Hp->Prop)(h0:P 0 [] σ0 H)(hl:∀i zs σ H,i<=min xs.length ys.length->P i zs σ H->aB K H a xs/\aB K H b ys/\zs.length<=i)
  (hs:∀(i:Nat) zs x y σ H p,i<min xs.length ys.length->xs[i]?=Zh x->ys[i]?=Zh y->P i zs σ H->H p=Zi->g (.ref p) σ (upd H p<|.tup [x,y]) λz H2=>tt z H2 λb H3=>if b=Zj then te z H3 λy H4=>fG P (min xs.length ys.length) i (zs++[y]) z H4 else fG P (min xs.length ys.length) i zs z H3)
  (hd:∀zs σ H,P (min xs.length ys.length) zs σ H->∀p,H p=Zi->Q (.ref p) (upd H p<|.lst zs)):DU K g tt te σ0 Q (.ref a) (.ref b) H:=by
 have J:=cP hz;refine#[a,b,rfl,#[xs,h],#[ys,h'],λi m zs σ H=>m=min xs.length ys.length-i/\i<=min xs.length ys.length/\P i zs σ H,#[min xs.length ys.length,by simp,cQ _,h0],?_];rintro i m zs σ H ⟨rfl,hi,p⟩;obtain⟨q,q',ly⟩:=hl i zs σ H hi p;by_cases UI:i<min xs.length ys.length
 .refine .inr #[#[xs,xs[i],ys,ys[i],q,bV<|∅,q',bV<|∅],∅,λx H' y=>?_];obtain⟨U,O,y',hn,Z,y2,rfl,rfl⟩:=y;exact hs i zs O y' σ _ U UI (Z xs q) (y2 ys q') p hn
 .have e:i=min xs.length ys.length:=∅
  subst e;exact .inl #[#[xs,ys,q,q',∅],∅,hd zs σ H p]
end
section
variable {X:Cx}
theorem mQ(K:W.Frag)(h:X.K=K:=by rfl):jH X (Qz .NotIn)<|NC K Zj:=h▸pS
end
theorem wM(A:List Nat):((A.map λ(n:Nat)=>V.int (n:Int)).all CG)=Zj:=by
 induction A with
 |nil=>rfl
 |cons a r ih=>rw[iK,List.all_cons,ih];rfl
theorem zg(x:Nat)(A:List Nat):HU (.int (x:Int)) (A.map λ(n:Nat)=>V.int (n:Int))=decide (x∈A):=by
 induction A with
 |nil=>rfl
 |cons a r ih=>
  unfold HU at*;rw[iK,GI,ih];by_cases e:x=a
  .subst e;simp[zJ]
  .have h:zJ (.int (a:Int)) (.int (x:Int))=Zk:=by
    unfold zJ;simp;lia
   rw[h,Bool.false_or];by_cases m:x∈r
   .rw [decide_eq_true m,decide_eq_true<|bF _ m]
   .rw [decide_eq_false m,decide_eq_false λz=>(bY.mp z).elim e m]
noncomputable def xg(lo d:Int)(n:Nat):It:=#[λi _=>i<n,λi H x H'=>H'=H/\x=.int (lo+i*d),λi _=>n<=i]
theorem ql{P:Pl}{w:PN}{K:W.Frag}(it:OS)(lo d:Int)(n:Nat):Turn P w K tg (xg lo d n) [it] it (λi h=>Ub h it (lo+(i:Nat)*d) ((n:Int)-(i:Nat)) d) where
 mem:=by simp
 obj:=λi h st b J=>by
  have e:b=it:=by simpa using J
  subst e;exact#[_,st,λv z=>by
   have z':Data.fields _=Data.cell v:=z;cases z']
 keep:=λi h h' st k=>k it (by simp) _ st
 item:=by
  intro X hP hw Z hc i pins s σ H E I U st hg;subst hP hw Z;obtain⟨f0,f1,f2,f3,f4,f5⟩:=U it (by simp);have W:=Walks.range (prog:=X.prog) (w:=X.w) (I.ok.hd hc) it lo d n;refine W.item i s _ _ hg st λv h' tk hv O kk=>?_;obtain⟨t,rfl⟩:=hv;have I1:Inv X pins σ H { s with heap:=h',toks:=tk }:=I.turned (λb o J e=>kk b o (by simpa using J) e) f0 f1 f3 f4 f5;exact#[_,rfl,zt (s:={ s with heap:=h',toks:=tk }) (n:="range_iterator") O rfl rfl (by decide) #[.int<|lo+i*d,H,I1,⟨t,rfl⟩,⟨rfl,rfl⟩,O,λb J=>(U b J).1]]
 done:=by
  intro X hP hw Z hc i pins s σ H E I U st hg;subst hP hw Z;obtain⟨f0,f1,f2,f3,f4,f5⟩:=U it (by simp);exact wpAny_pyNext_range_end (I.ok.hd hc) st (by have:n<=i:=hg;lia) λh' eb=>#[rfl,I.turned (t':=s.toks) (λb o J e=>eb b o J e) f0 f1 f3 f4 f5]
 self:=λ_ _ _ _ _ st h=>wpAny_pyIter_rangeiter st h
theorem MI(hd:0<d):Pn a b d=if a<b then(b-a-1)/d+1 else 0:=by
 unfold Pn;rw[Z9 hd]
theorem jN(hd:0<d):0<=Pn a b d:=by
 rw[MI hd];split
 .have:0<=(b-a-1)/d:=Int.ediv_nonneg ∅ ∅;lia
 .lia
theorem EK(h1:0<=a)(h2:a<=1000)(h3:0<=b)(Z:b<=1000)(J:0<d)(U:d<=1000):Tp a b d=Zj:=by
 unfold Tp;rw[MI J];simp only[Builtin.Range.rangeFitsLong,tK,Bool.or_eq_true,decide_eq_true_eq,beq_iff_eq];have O:(b-a-1)/d<=1000:=by
  by_cases z:0<=b-a-1
  .exact Int.le_trans (Int.ediv_le_self _ z) ∅
  .have:(b-a-1)/d<=0:=by
    have:=Int.ediv_neg_of_neg_of_pos (show b-a-1<0 by lia) J;lia
   lia
 have e2:-1001<=(b-a-1)/d:=Int.le_ediv_of_mul_le J ∅;have e3:a<b->0<=(b-a-1)/d:=λh=>Int.ediv_nonneg ∅ ∅;split
 .rename_i h;have:=e3 h;refine#[∅,.inr ?_];rw[tK,decide_eq_true_iff,decide_eq_true_iff];lia
 .exact #[∅,.inl rfl]
section
variable {X:Cx}
theorem wg(hc:X.calm=Zj){pins:List<|OS×Qf}{s:OU}{R:It->Hp->Prop}{E:OR->OU->Prop}{lo hi:Int}{t u v:Tok}{tk:Nat}(I:Inv X pins σ H s)(hd:0<d)(J:Tp lo hi d=Zj)
  (q:R (xg lo d (Pn lo hi d).toNat) H):OZ (Pd X.prog X.w) X.A (pyIter<|.ref s.heap.objs.size) (MZ X pins σ tg R) E { s with heap:=s.heap.push { cls:=.type "range",data:=.fields (List.toArray [.int lo t,.int hi u,.int d v]) },toks:=tk }:=by
 refine wpAny_pyIter_range (IsRange.new ..) J ?_;have z:Inv X pins σ H { s with heap:=s.heap.push { cls:=.type "range",data:=.fields (List.toArray [.int lo t,.int hi u,.int d v]) },toks:=tk }:=I.kept λb o e=>OT _ e;refine#[(s.heap.push { cls:=.type "range",data:=.fields (List.toArray [.int lo t,.int hi u,.int d v]) }).objs.size,[(s.heap.push { cls:=.type "range",data:=.fields (List.toArray [.int lo t,.int hi u,.int d v]) }).objs.size],_,_,H,rfl,z.kept (t':=tk) λb o e=>OT _ e,(ql _ lo d (Pn lo hi d).toNat).at hc,?_,λb O=>?_,q]
 .have U:lo+((0:Nat):Int)*d=lo:=by simp
  have e2:(((Pn lo hi d).toNat:Nat):Int)-((0:Nat):Int)=Pn lo hi d:=by have:=jN (a:=lo) (b:=hi) hd;lia
  show Ub _ _ (lo+((0:Nat):Int)*d) ((((Pn lo hi d).toNat:Nat):Int)-((0:Nat):Int)) d;rw[U,e2];exact Pf _ rfl
 .have e:b=(s.heap.push { cls:=.type "range",data:=.fields (List.toArray [.int lo t,.int hi u,.int d v]) }).objs.size:=by simpa using O
  subst e;exact z.WH (aN _)<|z.Uz.fresh<|aN _
def DM(ta:TA):TI:=λσ H R=>ta σ H λvs H1=>L2.X3 λi j d:Int=>vs=[.int i,.int j,.int d]/\(0<=i/\i<=1000/\0<=j/\j<=1000/\0<d/\d<=1000)/\R (xg i d (Pn i j d).toNat) H1
theorem nV{a b c:P1}(hg:Gl X "range")(hm:X.mg "range"=Zi)(ha:PA X [a,b,c] ta)(hs:Pb [a,b,c] X.env=(Zk,eval a X.env)::Pb [b,c] X.env:=by rfl)(J:(Qd pos<|Pb [b,c] X.env).any (·.1)=Zk:=by rfl)(hc:X.calm=Zj:=by rfl):
  PI X tg (.Call (.Name "range" p) [a,b,c] [] pos)<|DM ta:=by
 intro pins s σ H R I h;refine Call_<|D4 I hg hm boot_range<|Qi (thn (ha pos pins s σ H _ I h) λus s1 zz=>?_) hs J;obtain⟨vs,H1,I1,r1,z⟩:=zz;obtain⟨i,j,d,e,⟨z,Z,q3,q4,O,U⟩,q⟩:=z;subst e;cases r1 with
 |cons r rr=>
  cases rr with
  |cons r' rr=>
   cases rr with
   |cons r'' rr=>
    cases rr;obtain⟨t,rfl⟩:=r;obtain⟨t',rfl⟩:=r';obtain⟨aa,rfl⟩:=r'';exact call_range_3 ∅ (wg hc I1 O (EK z Z q3 q4 O U) q)<|.inl<|PyProof.noPylong_small<|∅
end
def zZ(g:TG)(tt:TT)(te:TE)(σ0:St)(Q:VK)(x y z:V)(H1:Hp):Prop:=L2.X3 λi j d:Int=>[x,y,z]=[.int i,.int j,.int d]/\(0<=i/\i<=1000/\0<=j/\j<=1000/\0<d/\d<=1000)/\
 ∃W:Nat->Nat->List V->St->Hp->Prop,(∃m,W 0 m [] σ0 H1)/\∀k m ys σ H,W k m ys σ H->
   ((xg i d (Pn i j d).toNat).stop k H/\ys.length<=sizeLine/\∀p,H p=Zi->Q (.ref p) (upd H p<|.lst ys))∨
   ((xg i d (Pn i j d).toNat).go k H/\ys.length<sizeLine/\∀x H',(xg i d (Pn i j d).toNat).VP k H x H'->g x σ H' λσ2 H2=>tt σ2 H2 λb H3=>if b=Zj then te σ2 H3 λy H4=>∃m',m'<m/\W (k+1) m' (ys++[y]) σ2 H4 else ∃m',m'<m/\W (k+1) m' ys σ2 H3)
theorem sq{k:Nat}{js:List Nat}{t v:TE}:vC k js (DM<|lX t<|lX u<|lX v gR) g tt te σ H Q=t σ H (λx H1=>u σ H1 λy H2=>v σ H2 λz H3=>zZ g tt te (up k js σ) Q x y z H3):=rfl
theorem oJ{i j:Int}{n:Nat}{σ0:St}(h:0<=i/\i<=1000/\0<=j/\j<=1000/\0<d/\d<=1000)(hn:(Pn i j d).toNat=n)(U:n<=sizeLine)(P:Nat->List V->St->Hp->Prop)(h0:P 0 [] σ0 H)(hl:∀i ys σ H,P i ys σ H->ys.length<=i)
  (J:∀k ys σ H,k<n->P k ys σ H->g (.int<|i+k*d) σ H λz H2=>tt z H2 λb H3=>if b=Zj then te z H3 λy H4=>fG P n k (ys++[y]) z H4 else fG P n k ys z H3)
  (hd:∀ys σ H,P n ys σ H->∀p,H p=Zi->Q (.ref p) (upd H p<|.lst ys)):zZ g tt te σ0 Q (.int i) (.int j) (.int d) H:=by
 refine#[i,j,d,rfl,h,?_];rw[hn];refine#[λk m ys σ H=>m=n-k/\k<=n/\P k ys σ H,#[n,by simp,cQ _,h0],?_];rintro k m ys σ H ⟨rfl,hi,p⟩;have O:=hl k ys σ H p;by_cases UI:k<n
 .refine .inr #[UI,∅,λx H' y=>?_];obtain⟨rfl,rfl⟩:=y;exact J k ys σ _ UI p
 .have e:k=n:=∅
  subst e;exact .inl #[aN _,∅,hd ys σ H p]
def NA(K:W.Frag)(t:TE):TT:=λσ H Q=>t σ H λx H1=>L2.X2 λa xs=>x=.ref a/\aB K H1 a xs/\Q (!xs.isEmpty) H1
section
variable {X:Cx}
theorem yE{e:P1}{t:TE}(h:PE X e t)(he:∀z,isTrue e X.env z=(do let v <- z;Sh e.pos;holding [v] (truthy v)):=by intro _;rfl):PT X e<|NA X.K t:=by
 intro pins s σ H Q I hw;refine isTrue_plain (thn (h pins s σ H _ I hw) λv s1 zz=>?_)<|he _;obtain⟨x,H1,J,Z,O⟩:=zz;obtain⟨a,xs,rfl,U,q⟩:=O;cases Z;obtain⟨its,rv,p,hz⟩:=J.list U;have hl:=rv.length;refine wpAny_truthy_list p.isList ?_ ?_
 .rw [iJ,<- hl];exact Int.lt_of_le_of_lt (Int.ofNat_le.mpr hz)<|by decide
 .refine #[H1,J.kept (t':=s1.toks+1+1) λb o e=>e,?_];have:(!(its.toArray).isEmpty)=!xs.isEmpty:=by
   cases xs<;>cases its<;>first|rfl|cases hl
  rw[this];exact q
end
end L2
namespace L2S
open PySem PySem.W PyProof.Rows
variable {p:Array Nat}{vs:List OR}
noncomputable def pick{α:Type}(ans:Nat->Nat->Bool):KasT α->α
 |.ret a=>a
 |.ask i j k=>pick ans<|k<|ans i j
def bD(n:Nat){α:Type}(P:α->Prop):KasT α->Prop
 |.ret a=>P a
 |.ask i j k=>i<n/\j<n/\∀b,bD n P<|k b
theorem bD.bind{n:Nat}{α z:Type}{P:α->Prop}{R:z->Prop}{f:α->KasT z}:∀{t:KasT α},bD n P t->(∀a,P a->bD n R (f a))->bD n R (t.bind f)
 |.ret a,h,hf=>hf a h
 |.ask i j k,h,hf=>#[h.1,h.2.1,λb=>bD.bind (t:=k b) (h.2.2 b) hf]
theorem bD.wp{n:Nat}{α:Type}{P:α->Prop}{z:Nat->Nat->(Bool->OU->Prop)->OU->Prop}{ans:Nat->Nat->Bool}{s:OU}{Q:α->OU->Prop}(hc:∀i j C,i<n->j<n->C (ans i j) s->z i j C s):∀{t:KasT α},bD n P t->(P (pick ans t)->Q (pick ans t) s)->t.kasWp z Q s
 |.ret a,h,q=>q h
 |.ask i j k,h,q=>hc i j _ h.1 h.2.1<|bD.wp hc (t:=k<|ans i j) (h.2.2 _) q
theorem bD.ite{n:Nat}{α:Type}{P:α->Prop}{c:Prop}[Decidable c]{x y:KasT α}(hx:bD n P x)(z:bD n P y):bD n P<|if c then x else y:=by split<;>assumption
section
variable {n:Nat}
noncomputable abbrev Pm(n:Nat)(p:Array Nat):Prop:=p.Perm (OW n).toArray
theorem Pm.lt(h:Pm n p)(h0:0<n)(i:Nat):p.getD i 0<n:=by
 rw[Array.getD_eq_getD_getElem?];by_cases hi:i<p.size
 .rw [getElem?_pos p i hi];have:=(Array.perm_iff_toList_perm.mp h).mem_iff.mp<|Array.mem_toList_iff.mpr<|Array.getElem_mem hi;exact qb.mp this
 .rw [Sb<|Sa hi];exact h0
theorem Pm.rev(h:Pm n p)(i j:Nat):Pm n<|kas_rev p i j:=(mirror_perm _ _ _ _).trans h
variable (h0:0<n)
include h0
theorem Kx{p:Array Nat}(h:Pm n p):∀f m,bD n (λ_=>True) (kas_asc p f m)
 |0,_=>trivial
 |f+1,m=>#[h.lt h0 _,h.lt h0 _,λb=>.ite trivial<|Kx h f _]
theorem JD:∀f p m q,Pm n p->bD n (λr=>Pm n r.1) (kas_desc f p m q)
 |0,_,_,_,h=>h
 |f+1,p,m,q,h=>#[h.lt h0 _,h.lt h0 _,λb=>.ite (.ite (JD f _ _ _<|h.rev _ _)<|JD f _ _ _ h) ⟨h.lt h0 _,h.lt h0 _,λb=>.ite h<|JD f _ _ _ h⟩]
theorem uT(h:Pm n p)(m r:Nat):bD n (λx=>Pm n x.2)<|kas_tail3 m r p:=(Kx h0 (h.rev _ _) _ _).bind λ_ _=>h.rev _ _
theorem uV(h:Pm n p)(m r:Nat):bD n (λx=>Pm n x.2)<|kas_descPart m r p:=(JD h0 _ _ _ _ h).bind λ_ k=>.ite (uT h0 (k.rev _ _) _ _)<|uT h0 k _ _
theorem zd(h:Pm n p)(r:Nat):bD n (λx=>Pm n x.2)<|kas_count r p:=
 (Kx h0 h _ _).bind λ_ _=>.ite h<|.ite ⟨h.lt h0 _,h.lt h0 _,λ_=>.ite h<|uV h0 (h.rev _ _) _ _⟩<|uV h0 h _ _
theorem Lj{p:Array Nat}(h:Pm n p)(k:Nat):∀f l r,bD n (λ_=>True) (kas_place p k f l r)
 |0,_,_=>trivial
 |f+1,l,r=>.ite trivial #[h.lt h0 _,h.lt h0 _,λ_=>.ite (Lj h k f _ _)<|Lj h k f _ _]
theorem ze:∀f p k,Pm n p->bD n (Pm n) (kas_bin f p k)
 |0,_,_,h=>h
 |f+1,p,k,h=>(Lj h0 h k _ _ _).bind λ_ _=>ze f _ _<|(bubble_perm _ _ _).trans h
theorem uU:bD n (Pm n)<|Up n:=(zd h0 (Array.Perm.refl _) n).bind λ_ h=>.ite (ze h0 _ _ _ h) h
end
theorem BU{α:Type}{M:SI}{A:Py}{t:SH α}{P:α->Prop}{s:OU}(c:Code)(p:RC)(J:(Ctx.of c []).In A)(h1:OZ M A t (λr _=>P r) (λ_ _=>False) s)(h2:OZ M A t (λr _=>¬ P r) (λ_ _=>False) s):False:=by
 classical
 have k:∀(S:α->Prop) (b:Bool),(∀r,S r->decide (P r)=b)->OZ M A t (λr _=>S r) (λ_ _=>False) s->∃s',Reach M [] s (t>>=λr=>pure<|.done<|.ret<|.bool<|decide<|P r) c p [] s' (.ret<|.ok<|.ret<|.bool b):=λS b O h=>by
  have w:OZ M A (t>>=λr=>pure<|PySem.Fin.done<|.ret<|.bool<|decide<|P r) (λx _=>x=.done (.ret<|.bool b)) (λ_ _=>False) s:=OQ<|Pu h (λr _ z=>OV<|by rw[O r z]) λ_ _ z=>z;obtain⟨r,s',z,rfl⟩:=(wp_iff_reach (base:=[]) (c:=c) _ (λr _=>r=.ok (.ret<|.bool b)) p s).mp<|Sem.wp_mono M _ _ (λ_ _ _ e=>by cases e;rfl) (λ_ _ _ e=>e.elim) p s<|w _ p J;exact#[s',z]
 obtain⟨_,a⟩:=k P Zj (λ_ h=>decide_eq_true h) h1;obtain⟨_,b⟩:=k (λr=>¬ P r) Zk (λ_ h=>decide_eq_false h) h2;cases(a.det b).2
theorem sorts{n:Nat}(prog:Pl)(w:PN)(s:OU)(f:Nat->Int)(h2:2<=n)(ac:n<64):(pick (λi j=>decide<|f i<f j)<|Up n).toList.Pairwise λi j=>f i<=f j:=by
 have hl:((OW n).map λi=>Value.int (f i) 0).length=n:=by rw[aM,fW]
 have hz:(pairsOf<|(OW n).map λi=>Value.int (f i) 0).size=n:=(pairsOf_size _).trans hl;have J:∀i,i<n->((OW n).map λi=>Value.int (f i) 0).getD i Value.none=.int (f i) 0:=λi hi=>by
  rw[fC,eJ,Ep hi];rfl
 refine QL λno=>?_
 let c:Code:=.builtin "" #[[],[]]
 let A:Py:={ depth:=0+c.weight,units:=(Ctx.of c []).units }
 refine BU (M:=Pd prog w) (A:=A) (s:=s) (t:=sortRuns'.run<|SortSt.mk' oneType' (pairsOf<|(OW n).map λi=>Value.int (f i) 0) (List.toArray []) 7 Zi) (P:=λr=>SortedTo (arrOf r.2) n) c default
  #[rfl,aN _,λ_ h=>(by cases h),λ_ h=>(by cases h),aN _] ?_ ?_
 .refine Pu (wpS_sortRuns (a₀:=pairsOf<|(OW n).map λi=>Value.int (f i) 0) (Q:=λ_ st=>SortedTo (arrOf st) n) ?_ #[Array.Perm.refl _,rfl,rfl,rfl] ∅ ∅ λU _ _ h=>by rw[hz] at h;exact h) (λ_ _ h=>h.2) λ_ _ e=>e;intro p hp;rw[pairsOf_toList] at hp;obtain⟨i,_,e⟩:=qg.mp (mem_zip_self hp).2;exact#[_,_,e.symm]
 .refine kat_run (ks:=(OW n).map λi=>Value.int (f i) 0) (vs:=(OW n).map λi=>Value.int (f i) 0) (κ:=oneType') (Q:=λst _=>¬ SortedTo (arrOf st) n) (G:=λp _=>Pm n p/\p=pick (λi j=>decide<|f i<f j) (Up n)) rfl ∅ ∅ (λp U s' _ e _ g so=>no ?_) ?_
  .rw [<- g.2,List.pairwise_iff_getElem];intro i j hi Z aa;have hs:p.size=n:=by rw[g.1.size_eq];simp
   have O:∀k (hk:k<p.toList.length),PyProof.Rows.K (arrOf U) k=f p.toList[k]:=λk hk=>by
    have h1:k<p.size:=hk;have h3:=g.1.lt ∅ k;have h4:p.getD k 0=p[k]:=by simp[Array.getD,h1]
    unfold PyProof.Rows.K;rw[e,Array.getElem?_map,getElem?_pos p k h1];show numOf (kas_item (pairsOf<|(OW n).map λi=>Value.int (f i) 0) p[k]).1=f p[k];rw[kas_item_eq,J _<|by rw[<- h4];exact h3];rfl
   have:=so i j (Bb aa) (by rw[<- hs];exact Z);rw[O i hi,O j Z] at this;exact this
  .rw [hl];refine(uU<|∅).wp (ans:=λi j=>decide<|f i<f j) (λi j C hi Z q=>?_) λz=>#[z,rfl]
   unfold kas_ask;rw[J i hi,J j Z];exact kat_lt_int q
noncomputable abbrev AL(h:PJ)(a:OS)(vs:List OR):PJ:=((h.update a<|QJ λ_=>(List.toArray [])).push<|RY "tuple" vs.toArray 0).push<|RY "list" (List.toArray []) 0
section
variable {prog:Pl}{w:PN}{A:Py}{E:OR->OU->Prop}{s:OU}
theorem BX{h:PJ}{a b:OS}{o:Qf}(z:b≠a)(e:h.get? b=Zh o):(AL h a vs).get? b=Zh o:=by
 refine OT _<|OT _ ?_;exact(Qe _ _<|Pe z).trans e
theorem yj{a:OS}{n:Nat}{κ:SortKind}{f:Nat->Int}{P:PySem.Fin->OU->Prop}(ho:s.heap.get? a=Zh (RY "list" vs.toArray n))(hz:vs.length<64)
  (O:2<=vs.length->∀Q':SortKind->OU->Prop,Q' κ { s with heap:=AL s.heap a vs }->OZ (Pd prog w) A (keyKind' vs.toArray) Q' E { s with heap:=AL s.heap a vs })
  (Z:2<=vs.length->∀i j C,i<vs.length->j<vs.length->C (decide<|f i<f j) { s with heap:=AL s.heap a vs }->kas_ask prog w A κ vs i j C { s with heap:=AL s.heap a vs })
  (h:∀p:List Nat,p.Perm (OW vs.length)->p.Pairwise (λi j=>f i<=f j)->P (.done<|.ret .none) { s with heap:=sortedHeap s.heap a vs (p.map λi=>vs.getD i Value.none).toArray }):OZ (Pd prog w) A (RV.«list.sort» #[[.ref a],[]]) P E s:=by
 rw[list_sort_plain];have ha:a<s.heap.objs.size:=Pa ho;refine OQ<|listItems_at ho rfl ?_;refine OQ<|listUpdate_at ho rfl ?_;obtain⟨e1,ac⟩:∃e1,(s.heap.update a<|QJ λ_=>(List.toArray [])).get? a=Zh (RY "list" (List.toArray []) e1):=#[_,get?_update_seq ho λ_=>(List.toArray [])]
 refine OQ<|seqEpoch_at ac rfl ?_;refine OQ<|SV<|OQ<|wpAny_newList<|PC ?_;have J:(AL s.heap a vs).get? a=Zh (RY "list" (List.toArray []) e1):=OT _<|OT _ ac;show OZ (Pd prog w) A _ P E { s with heap:=AL s.heap a vs };dsimp only;have hsz:vs.toArray.size=vs.length:=iJ ..;have hl:vs.length<=sizeLine:=dJ (Bb hz) (by decide);rw[hsz];by_cases h2:vs.length<2
 .rw [Z9 h2,Z9 h2];refine OQ<|OV ?_;rw[StateT.run_pure];refine OQ<|OV ?_;dsimp only;refine OQ<|seqEpoch_at J rfl ?_;refine OQ<|listUpdate_at J rfl ?_ (hsz2:=by rw[Array.size_map];show(pairsOf vs).size<=_;rw[pairsOf_size];lia);rw[Z8<|by simp];have o:=h (OW vs.length) (.refl _) (by
   rw[List.pairwise_iff_getElem];intro i j _ hj _;rw[fW] at hj;lia)
  have e:(vs.toArray.zip vs.toArray).map (·.2)=((OW vs.length).map λi=>vs.getD i Value.none).toArray:=kat_snds (st:=SortSt.mk' κ (vs.toArray.zip vs.toArray) (List.toArray []) 7 Zi) (ks:=vs) (p:=(OW vs.length).toArray) rfl (by
   have:=kas_range<|vs.toArray.zip vs.toArray;rw[show(vs.toArray.zip vs.toArray).size=vs.length by simp] at this;exact this.symm)
  rw[<- e] at o;exact OV o
 .rw [Z8 h2,Z8 h2];refine OQ<|O ∅ _ ?_;refine OQ<|Pu (kat_run (ks:=vs) (κ:=κ) (Q:=λst s'=>s'={ s with heap:=AL s.heap a vs }/\∃p:Array Nat,Pm vs.length p/\p=pick (λi j=>decide<|f i<f j) (Up vs.length)/\arrOf st=p.map (kas_item<|vs.toArray.zip vs.toArray)/\failedOf st=Zi) (G:=λp s'=>s'={ s with heap:=AL s.heap a vs }/\Pm vs.length p/\p=pick (λi j=>decide<|f i<f j) (Up vs.length)) rfl ∅ hz (λp aa s' _ e g z=>#[z.1,p,z.2.1,z.2.2,e,g])<|(uU<|∅).wp (Z<|∅) λz=>#[rfl,z,rfl]) ?_ λ_ _ e=>e;rintro⟨⟨⟩,aa⟩ s' ⟨rfl,p,hp,ep,U,hf⟩;dsimp only;refine OQ<|seqEpoch_at J rfl ?_;have hs:(arrOf aa).size=vs.length:=by rw[U,Array.size_map,hp.size_eq];simp
  refine OQ<|listUpdate_at J rfl ?_ (hsz2:=by rw[Array.size_map];lia);rw[hf,Z8<|by simp];have o:=h p.toList (Array.perm_iff_toList_perm.mp hp) (by rw[ep];exact sorts prog w s f ∅ hz);rw[<- kat_snds rfl U] at o;exact OV o
theorem sD{l:OS}{κ:SortKind}{f:Nat->Int}{Q:OR->OU->Prop}(hl:s.heap.IsList l vs.toArray)(hz:vs.length<64)
  (z:∀h':PJ,(∀b o,s.heap.get? b=Zh o->h'.get? b=Zh o)->2<=vs.length->∀(U:Py) (E':OR->OU->Prop) (Q':SortKind->OU->Prop),Q' κ { s with heap:=h' }->OZ (Pd prog w) U (keyKind' vs.toArray) Q' E' { s with heap:=h' })
  (O:∀h':PJ,(∀b o,s.heap.get? b=Zh o->h'.get? b=Zh o)->2<=vs.length->∀U i j C,i<vs.length->j<vs.length->C (decide<|f i<f j) { s with heap:=h' }->kas_ask prog w U κ vs i j C { s with heap:=h' })
  (h:∀p:List Nat,p.Perm (OW vs.length)->p.Pairwise (λi j=>f i<=f j)->Q (.ref<|s.heap.objs.size+1) { s with heap:=sortedAll s.heap vs (p.map λi=>vs.getD i Value.none).toArray }):OZ (Pd prog w) A (call (.builtin "sorted") [.ref l]) Q E s:=by
 refine Calls.call_function_entry kind_sorted plain_sorted entry_sorted (args_sorted1 _) ?_;unfold RV.«sorted»;refine OQ (m:=checkCount "sorted" 1 1 _)<|OV ?_;refine OQ (collect_list hl ?_<|dJ (Bb hz)<|by decide);refine OQ<|wpAny_newList ?_;have Z:((s.heap.push<|RY "list" (List.toArray []) 0).update s.heap.objs.size<|QJ (·++vs.toArray)).objs.size=s.heap.objs.size+1:=(Heap.size_update ..).trans (size_push' ..);have g1:(((s.heap.push<|RY "list" (List.toArray []) 0).update s.heap.objs.size<|QJ (·++vs.toArray)).push<|RY "list" vs.toArray 0).get? (s.heap.objs.size+1)=Zh (RY "list" vs.toArray 0):=by
  rw[<- Z];exact Pf _ rfl
 have J:∀b o,s.heap.get? b=Zh o->(AL (((s.heap.push<|RY "list" (List.toArray []) 0).update s.heap.objs.size<|QJ (·++vs.toArray)).push<|RY "list" vs.toArray 0) (s.heap.objs.size+1) vs).get? b=Zh o:=λb o e=>by
  have lt:=Pa e;refine BX (fQ<|Nat.lt_succ_of_lt lt)<|OT _ ?_;exact(Qe _ _<|RJ lt).trans<|OT _ e
 show OZ _ _ _ _ _ { s with heap:=((s.heap.push<|RY "list" (List.toArray []) 0).update s.heap.objs.size<|QJ (·++vs.toArray)).push<|RY "list" vs.toArray 0 };rw[Z];exact OQ<|PC<|QX slot_list_sort #[_,g1,rfl] entry_list_sort (yj g1 hz (λh2 Q' q=>z _ J h2 _ _ Q' q) (λh2=>O _ J h2 _) λp a1 a2=>#[_,rfl,OV #[_,rfl,h p a1 a2]])<|args_list_sort _
end
end L2S
namespace L2
open PySem PySem.Spec PyProof.Rows L2S
def jF(x y:Int×Int):Prop:=x.1<y.1∨(x.1=y.1/\x.2<y.2)
noncomputable instance (x y:Int×Int):Decidable<|jF x y:=by unfold jF;exact inferInstance
noncomputable abbrev oZ:=OS×Int×Int
noncomputable def F5(zs:List oZ)(v:Int×Int):Nat:=zs.countP λz=>decide<|jF z.2 v
theorem ur{zs:List oZ}{x:oZ}{v:Int×Int}(hx:x∈zs):F5 zs x.2<F5 zs v↔jF x.2 v:=by
 have mono:∀(l:List oZ) (a b:Int×Int),(∀z:Int×Int,jF z a->jF z b)->l.countP (λz=>decide<|jF z.2 a)<=l.countP (λz=>decide<|jF z.2 b):=λl a b h=>
  List.countP_mono_left λz _ e=>decide_eq_true<|h _<|of_decide_eq_true e
 constructor
 .intro h;by_cases e:jF x.2 v
  .exact e
  .have:=mono zs v x.2 λz J=>by unfold jF at*;lia
   unfold F5 at h;lia
 .intro h;obtain⟨s,t,rfl⟩:=List.append_of_mem hx;unfold F5;rw[List.countP_append,List.countP_append,List.countP_cons,List.countP_cons];have m:∀z:Int×Int,jF z x.2->jF z v:=λz J=>by unfold jF at*;lia
  have h1:=mono s x.2 v m;have h2:=mono t x.2 v m;have h3:decide (jF x.2 x.2)=Zk:=decide_eq_false (by unfold jF;lia);rw[h3,decide_eq_true h];simp only[Dj,if_false,if_true];lia
section
variable {prog:Pl}{w:PN}{A:Py}{E:OR->OU->Prop}{s:OU}
def jP(h:PJ)(z:oZ):Prop:=L2.X4 λo t u n=>h.get? z.1=Zh o/\o.cls=.type "tuple"/\o.data=.seq (List.toArray [.int z.2.1 t,.int z.2.2 u]) n
theorem jP.keep{h h':PJ}{z:oZ}(p:jP h z)(k:∀b o,h.get? b=Zh o->h'.get? b=Zh o):jP h' z:=let ⟨o,t,u,n,a,b,c⟩:=p;#[o,t,u,n,k _ _ a,b,c]
theorem y6{a b a' b':Int}{t u t' u':Tok}{Q:Bool->OU->Prop}(h:Q (decide<|jF (a,b) (a',b')) s):PySem.W.KatLex prog w A Zj Zk Q [(.int a t,.int a' t'),(.int b u,.int b' u')] 0 s:=by
 refine PySem.W.kat_cons<|T6 ?_;by_cases e:a=a'
 .rw [show(a==a')=Zj by simpa using e];refine PySem.W.kat_yes<|PySem.W.kat_cons<|T6 ?_;by_cases e2:b=b'
  .rw [show(b==b')=Zj by simpa using e2];refine PySem.W.kat_yes<|PySem.W.kat_nil ?_;rw[decide_eq_false<|by unfold jF;dsimp only;lia] at h;exact h
  .rw [show(b==b')=Zk by simpa using e2];refine PySem.W.kat_no<|PySem.W.kat_one _ _<|lt_int ?_;have e3:decide (jF (a,b) (a',b'))=decide (b<b'):=by
    by_cases z:b<b'
    .rw [decide_eq_true z];exact decide_eq_true<|by unfold jF;dsimp only;lia
    .rw [decide_eq_false z];exact decide_eq_false<|by unfold jF;dsimp only;lia
   rw[e3] at h;exact h
 .rw [show(a==a')=Zk by simpa using e];refine PySem.W.kat_no ?_;have e3:decide (jF (a,b) (a',b'))=decide (a<a'):=by
   by_cases z:a<a'
   .rw [decide_eq_true z];exact decide_eq_true<|by unfold jF;dsimp only;lia
   .rw [decide_eq_false z];exact decide_eq_false<|by unfold jF;dsimp only;lia
  rw[e3] at h;exact oneLt_int h
theorem tU{h:PJ}:∀{zs:List oZ},(∀z∈zs,jP h z)->∃fs,PySem.W.KatTups h (zs.map λz=>Value.ref z.1) fs/\fs.length=zs.length/\∀v∈fs,∃n t,v=Value.int n t
 |[],_=>#[[],trivial,rfl,λv h=>by cases h]
 |z::r,hp=>by
  obtain⟨fs,f1,J,Z⟩:=tU (zs:=r) λy O=>hp y<|bF _ O;obtain⟨o,t,u,n,a1,a2,a3⟩:=hp z aZ;refine#[.int z.2.1 t::fs,PySem.W.KatTups.cons a1 a2 a3 rfl f1,by rw[cF,cF,J],λv U=>?_];rcases bY.mp U with e|e
  .exact #[_,_,e]
  .exact Z v e
theorem qQ{α J:Type}(g:α->J):∀{l:List J} {zs:List α},l.Perm (zs.map g)->∃ms:List α,ms.Perm zs/\l=ms.map g
 |[],zs,h=>by
  have:zs=[]:=by
   have:=h.length_eq;rw[r6,aM] at this;exact Az.mp this.symm
  subst this;exact#[[],.nil,rfl]
 |x::r,zs,h=>by
  obtain⟨z,O,e⟩:=qg.mp<|h.mem_iff.mp aZ;obtain⟨a,b,rfl⟩:=List.append_of_mem O;have h2:(x::r).Perm<|x::(a++b).map g:=by
   refine h.trans ?_;rw[cU,iK,e,cU];exact List.perm_middle
  obtain⟨ms,Z,U⟩:=qQ g<|List.Perm.cons_inv h2;exact#[z::ms,(Z.cons z).trans List.perm_middle.symm,by rw[U,iK,e]]
theorem pK{l:OS}{zs:List oZ}{Q:OR->OU->Prop}(hl:s.heap.IsList l (zs.map λz=>Value.ref z.1).toArray)(hp:∀z∈zs,jP s.heap z)(hz:zs.length<64)
  (h:∀(ms:List oZ),ms.Perm zs->ms.Pairwise (λx y=>¬ jF y.2 x.2)->Q (.ref<|s.heap.objs.size+1) { s with heap:=sortedAll s.heap (zs.map λz=>Value.ref z.1) (ms.map λz=>Value.ref z.1).toArray }):OZ (Pd prog w) A (call (.builtin "sorted") [.ref l]) Q E s:=by
 have U:(zs.map λz=>Value.ref z.1).length=zs.length:=aM ..;have J:∀i,i<zs.length->(zs.map λz=>Value.ref z.1).getD i Value.none=.ref (zs.getD i (0,0,0)).1/\zs.getD i (0,0,0)∈zs:=λi hi=>by
  rw[fC,fC,eJ,bV hi];exact#[rfl,R5 hi]
 refine sD (κ:=tuples' Zj) (f:=λi=>(F5 zs (zs.getD i (0,0,0)).2:Int)) hl (by rw[U];exact hz) (λh' k h2 A' E' Q' q=>?_) (λh' k h2 A' i j C hi Z q=>?_) λp O p2=>?_
 .obtain ⟨fs,f1,f2,f3⟩:=tU (h:=h') λz hz=>(hp z hz).keep k;rw[U] at h2;refine PySem.W.kat_kind (T:=.type "int") f1 ∅ (λv hv=>?_) rfl q;obtain⟨n,t,rfl⟩:=f3 v hv;exact .now
 .rw [U] at hi Z;obtain⟨e1,m1⟩:=J i hi;obtain⟨e2,m2⟩:=J j Z;unfold PySem.W.kas_ask;rw[e1,e2];obtain⟨o,t,u,n,a1,a2,a3⟩:=(hp _ m1).keep k;obtain⟨o',t',u',n',b1,b2,b3⟩:=(hp _ m2).keep k;refine PySem.W.kat_lt a1 a3 b1 b3<|y6 ?_;rw[show decide (jF ((zs.getD i (0,0,0)).2.1,(zs.getD i (0,0,0)).2.2) ((zs.getD j (0,0,0)).2.1,(zs.getD j (0,0,0)).2.2))=decide ((F5 zs (zs.getD i (0,0,0)).2:Int)<(F5 zs (zs.getD j (0,0,0)).2:Int)) from decide_eq_decide.mpr<|(ur m1).symm.trans Int.ofNat_lt.symm];exact q
 .rw [U] at O;have pm:(p.map λi=>zs.getD i (0,0,0)).Perm zs:=by
   have:=O.map λi=>zs.getD i ((0,0,0):oZ);rw[show(OW zs.length).map (λi=>zs.getD i ((0,0,0):oZ))=zs from List.ext_getElem (by simp) λi h1 h2=>by simp[h2]] at this;exact this
  have e:(p.map λi=>(zs.map λz=>Value.ref z.1).getD i Value.none)=((p.map λi=>zs.getD i (0,0,0)).map λz=>Value.ref z.1):=by
   rw[En];exact SK λi hi=>(J i<|qb.mp<|O.mem_iff.mp hi).1
  rw[e];refine h _ pm<|GB.mpr<|p2.imp_of_mem fun {i j} hi Z ac aa=>?_;have:=(ur (J j<|qb.mp<|O.mem_iff.mp Z).2).mpr aa;lia
end
theorem nB:∀{zs:List oZ} {its:List OR},Vals (zs.map λz=>V.ref z.1) its->its=zs.map λz=>Value.ref z.1
 |[],_,.nil=>rfl
 |z::r,_,.cons a b=>by
  have e:=nB b;cases a;rw[e];rfl
theorem nO:∀ms:List oZ,Vals (ms.map λz=>V.ref z.1) (ms.map λz=>Value.ref z.1)
 |[]=>.nil
 |_::r=>.cons rfl<|nO r
section
variable {X:Cx}
theorem pW:oV X (.builtin "sorted") λxs H Q=>L2.X2 λ(p:OS) (zs:List oZ)=>xs=[.ref p]/\aB X.K H p (zs.map λz=>V.ref z.1)/\(∀z∈zs,cH X.K H z.1 [.int z.2.1,.int z.2.2])/\zs.length<64/\∀(l:OS) (ms:List oZ),H l=Zi->ms.Perm zs->ms.Pairwise (λx y=>¬ jF y.2 x.2)->Q (.ref l) (upd H l<|.lst<|ms.map λz=>V.ref z.1):=by
 intro pins s σ H xs us Q I r h;obtain⟨p,zs,rfl,Z,hz,hn,q⟩:=h;obtain⟨u,rfl,rx⟩:=Ah r;cases rx;obtain⟨its,r',pl,ac⟩:=I.list Z;obtain rfl:=nB r';have O:∀z∈zs,jP s.heap z:=λz J=>by
  obtain⟨it,rt,pt,_⟩:=I.tuple<|hz z J;obtain⟨a,b,rfl,⟨t,rfl⟩,⟨t',rfl⟩⟩:=DY rt;obtain⟨o,ho,hc,n,hd⟩:=pt;exact#[o,t,t',n,ho,hc,hd]
 refine pK pl.isList O hn λms U m2=>?_;obtain⟨e,he⟩:=sortedAll_at s.heap (zs.map λz=>Value.ref z.1) (ms.map λz=>Value.ref z.1).toArray;have aa:ms.length=zs.length:=U.length_eq;refine#[.ref<|s.heap.objs.size+1,_,I.laid (t':=s.toks) (λb o e=>sortedAll_old e) (kR _) (o:=.lst<|ms.map λz=>V.ref z.1) #[?_,(ms.map λz=>Value.ref z.1),e,nO ms,he],rfl,q _ ms (I.Uz.fresh<|kR _) U m2];rw[aM];exact cP<|∅
end
end L2
namespace Po
variable {a a' b b' x y:Nat}
noncomputable def st(acc h:Nat):Nat:=(((acc+h*14029467366897019727)%2^64*2^31%2^64+(acc+h*14029467366897019727)%2^64/2^33)*11400714785074694791)%2^64
noncomputable def G(a:Nat):Nat:=st 2870177450012600261 a*839798700976720815%2^64
theorem KH(x:Nat):x*2^31%2^64=x%2^33*2^31:=by
 rw[show(2:Nat)^64=2^33*2^31 by decide,Nat.mul_mod_mul_right]
theorem yq(hx:x<2^64):x*2^31%2^64+x/2^33<2^64:=by rw[KH];omega
theorem Bu(hx:x<2^64)(J:y<2^64)(h:x*2^31%2^64+x/2^33=y*2^31%2^64+y/2^33):x=y:=by
 rw[KH,KH] at h;have a1:=TU x<|2^33;have a2:=TU y<|2^33;have z:x/2^33<2^31:=by omega
 have O:y/2^33<2^31:=by omega
 generalize x/2^33=q at*;generalize y/2^33=q' at*;generalize x%2^33=r at*;generalize y%2^33=r' at*;omega
theorem back{p i:Nat}(h:p*i%2^64=1)(hx:x<2^64):x*p%2^64*i%2^64=x:=by
 rw[Nat.mod_mul_mod,Nat.mul_assoc,Nat.mul_mod,h,Nat.mul_one,Nat.mod_mod,Nat.mod_eq_of_lt hx]
theorem yi(h:st a b=st a' b'):(a+b*14029467366897019727)%2^64=(a'+b'*14029467366897019727)%2^64:=by
 unfold st at h;have l1:(a+b*14029467366897019727)%2^64<2^64:=Sl _ (by decide);have l2:(a'+b'*14029467366897019727)%2^64<2^64:=Sl _ (by decide);generalize (a+b*14029467366897019727)%2^64=x at*;generalize (a'+b'*14029467366897019727)%2^64=y at*;have hi:11400714785074694791*614540362697595703%2^64=1:=by decide
 have e:=congrArg (λz=>z*614540362697595703%2^64) h;rw[back hi<|yq l1,back hi<|yq l2] at e;exact Bu l1 l2 e
theorem EC(h:(st 2870177450012600261 a+b*14029467366897019727)%2^64=x%2^64):(G a+b)%2^64=x*839798700976720815%2^64:=by
 have e:=congrArg (λz=>z*839798700976720815%2^64) h;rw[Nat.mod_mul_mod,Nat.mod_mul_mod,Nat.add_mul,Nat.mul_assoc,Nat.add_mod,Nat.mul_mod b,show 14029467366897019727*839798700976720815%2^64=1 by decide,Nat.mul_one,Nat.mod_mod] at e;unfold G;rw[<- e,Nat.add_mod,Nat.mod_mod]
noncomputable def far(x y:Nat):Bool:=decide (1000<(x+2^64-y)%2^64)&&decide ((x+2^64-y)%2^64<2^64-1000)
noncomputable def Iw:List Nat->Bool
 |[]=>Zj
 |x::r=>r.all (far x)&&Iw r
theorem JY:∀{l:List Nat} {i j x y:Nat},Iw l=Zj->i<j->l[i]?=Zh x->l[j]?=Zh y->far x y=Zj
 |x::r,0,j+1,a,b,h,hij,h1,h2=>by
  unfold Iw at h;rw[tK,List.all_eq_true] at h;cases h1;exact h.1 b<|jD<|by simpa using h2
 |x::r,i+1,j+1,a,b,h,hij,h1,h2=>by
  unfold Iw at h;rw[tK] at h;exact JY (i:=i) (j:=j) h.2 (by omega) (by simpa using h1)<|by simpa using h2
 |[],i,j,a,b,h,hij,h1,h2=>by simp at h1
theorem FI:Iw ((OW 205).map G++[9148689060682678900*839798700976720815%2^64])=Zj:=by decide+kernel
theorem Av(h:a<205):((OW 205).map G++[9148689060682678900*839798700976720815%2^64])[a]?=Zh (G a):=by
 rw[mB (by rw[aM,fW];exact h),eJ,Ep h];rfl
theorem Ku(h:far x y=Zj)(hx:x<2^64)(J:y<2^64)(O:b<=500)(z:b'<=500):(x+b)%2^64≠(y+b')%2^64:=by
 unfold far at h;rw[tK,decide_eq_true_iff,decide_eq_true_iff] at h;omega
theorem xh(a:Nat):G a<2^64:=Sl _<|by decide
noncomputable def th(a b:Nat):Nat:=st (st 2870177450012600261 a) b
theorem xG(a b:Nat):th a b<2^64:=Sl _<|by decide
theorem EE(ha:a<205)(O:a'<205)(Z:b<=500)(J:b'<=500)(h:th a b=th a' b'):a=a'/\b=b':=by
 unfold th at h;have e:=yi (a:=st 2870177450012600261 a) (b:=b) (a':=st 2870177450012600261 a') (b':=b') h;have U:=EC (a:=a) (b:=b) (x:=st 2870177450012600261 a'+b'*14029467366897019727) e;have e2:=EC (a:=a') (b:=b') (x:=st 2870177450012600261 a'+b'*14029467366897019727)<|Eq.refl _;rw[<- e2] at U;clear e2 e h;rcases Nat.lt_trichotomy a a' with z|z|z
 .exact absurd U (Ku (JY FI z (Av ha)<|Av O) (xh _) (xh _) Z J)
 .subst z;have:=xh a;generalize G a=g at*;exact#[rfl,by omega]
 .exact absurd U.symm (Ku (JY FI z (Av O)<|Av ha) (xh _) (xh _) J Z)
theorem xF(ha:a<205)(J:b<=500):th a b≠15576566623696079691:=by
 intro h;have e:st (st 2870177450012600261 a) b=st 9148689060682678900 0:=by
  rw[show st 9148689060682678900 0=15576566623696079691 by decide+kernel];exact h
 have z:=EC (a:=a) (b:=b) (x:=9148689060682678900) (by
  have:=yi (a:=st 2870177450012600261 a) (b:=b) (a':=9148689060682678900) (b':=0) e;rw[Di,Sn] at this;exact this)
 have f:=JY (i:=a) (j:=205) FI ha (Av ha) (y:=9148689060682678900*839798700976720815%2^64) (by
  rw[kE (by rw[aM,fW];exact aN _),aM,fW,kP,List.getElem?_cons_zero])
 have:=Ku f (xh _) (Sl _<|by decide) J (b':=0) (by decide);rw[Sn,Nat.mod_mod] at this;exact this z
noncomputable def fin(acc:Nat):Int:=if (acc+2870177450013471924)%2^64=2^64-1 then 1546275796 else if (acc+2870177450013471924)%2^64<2^63 then(((acc+2870177450013471924)%2^64:Nat):Int) else(((acc+2870177450013471924)%2^64:Nat):Int)-2^64
theorem tj(hx:x<2^64)(nx:x≠15576566623696079691):fin x=(((x+2870177450013471924)%2^64:Nat):Int)/\(x+2870177450013471924)%2^64<2^63∨fin x=(((x+2870177450013471924)%2^64:Nat):Int)-2^64/\¬ (x+2870177450013471924)%2^64<2^63/\(x+2870177450013471924)%2^64≠2^64-1:=by
 have h1:¬ (x+2870177450013471924)%2^64=2^64-1:=by omega
 unfold fin;rw[Z8 h1];by_cases h2:(x+2870177450013471924)%2^64<2^63
 .rw [Z9 h2];exact .inl #[rfl,h2]
 .rw [Z8 h2];exact .inr #[rfl,h2,h1]
theorem Co(hx:x<2^64)(J:y<2^64)(nx:x≠15576566623696079691)(O:y≠15576566623696079691)(h:fin x=fin y):x=y:=by
 rcases tj hx nx with ⟨z,l1⟩|⟨z,l1,_⟩<;>rcases tj J O with ⟨e2,l2⟩|⟨e2,l2,_⟩<;>rw[z,e2] at h<;>omega
end Po
namespace L2
open PySem PySem.Spec PyProof.Rows
theorem lP(n:Nat)(hn:n<=500):hashInt (n:Int)=n:=by
 have e:rawHash (n:Int)=n:=by
  unfold rawHash;dsimp only;rw[Int.natAbs_natCast,Z8 (show ¬ (n:Int)<0 by lia),show(n:Int)%((2^61-1:Nat):Int)=n by lia,Z8 (λz=>by have:=eq_of_beq z;lia)]
 unfold hashInt;rw[e,Z8 (λz=>by have:=eq_of_beq z;lia)]
noncomputable def stI(acc:Nat)(h:Int):Nat:=Po.st acc (h%((2^64:Nat):Int)).toNat
theorem fold_eq(z:List Int):Q3 z=(if (z.foldl stI 2870177450012600261+(z.length^^^(2870177450012600261^^^3527539)))%2^64==2^64-1 then 1546275796 else if (z.foldl stI 2870177450012600261+(z.length^^^(2870177450012600261^^^3527539)))%2^64<2^63 then(((z.foldl stI 2870177450012600261+(z.length^^^(2870177450012600261^^^3527539)))%2^64:Nat):Int) else(((z.foldl stI 2870177450012600261+(z.length^^^(2870177450012600261^^^3527539)))%2^64:Nat):Int)-((2^64:Nat):Int)):=by
 unfold Q3;rfl
theorem HL{a b:Nat}(ha:a<205)(Z:b<=500):Q3 [(a:Int),(b:Int)]=Po.fin (Po.th a b):=by
 have ea:((a:Int)%((2^64:Nat):Int)).toNat=a:=∅
 have O:((b:Int)%((2^64:Nat):Int)).toNat=b:=∅
 have J:([(a:Int),(b:Int)].length^^^(2870177450012600261^^^3527539))=2870177450013471924:=by
  show(2^^^(2870177450012600261^^^3527539):Nat)=_;decide+kernel
 have U:[(a:Int),(b:Int)].foldl stI 2870177450012600261=Po.th a b:=by
  rw[List.foldl_cons,List.foldl_cons,List.foldl_nil];unfold stI Po.th;rw[ea,O]
 rw[fold_eq,J,U];unfold Po.fin;by_cases h:(Po.th a b+2870177450013471924)%2^64=2^64-1
 .rw [Z9 h,Z9<|beq_iff_eq.mpr h]
 .rw [Z8 h,Z8 λz=>h<|beq_iff_eq.mp z];rfl
theorem oF(P:Pl)(w:PN){a b:Nat}(ha:a<205)(J:b<=500):(PR<|fO P w).hash [.inl (a:Int),.inl (b:Int)]=Po.fin (Po.th a b):=by
 show reduceHash (Q3 [hashInt (a:Int),hashInt (b:Int)])=_;rw[lP a<|∅,lP b J];have e:=HL ha J;rw[e];unfold reduceHash;have:=Po.tj (Po.xG a b)<|Po.xF ha J;have h1:-(2^63:Int)<=Po.fin (Po.th a b)/\Po.fin (Po.th a b)<2^63/\Po.fin (Po.th a b)≠-1:=∅
 rw[Z9 (by rw[tK,decide_eq_true_iff,decide_eq_true_iff];exact#[h1.1,h1.2.1]),Z8 λz=>h1.2.2<|eq_of_beq z]
def Kp(kvs:List<|List Key×V):Prop:=∀kv∈kvs,∃a b:Nat,kv.1=[.inl (a:Int),.inl (b:Int)]/\a<205/\b<=500
section
variable {X:Cx}{pins:List (OS×Qf)}{σ:St}{H:Hp}{A:Py}{E:OR->OU->Prop}{s:OU}
theorem sV{P:Pl}{w:PN}:∀{kvs:List<|List Key×V} {xs:List<|List Key×OS×OR},Kp kvs->KT H kvs xs->(xs.map (·.1)).Nodup->xs.Pairwise (λx y=>(Ql (PR<|fO P w) x).hash≠(Ql (PR<|fO P w) y).hash):=by
 intro kvs xs hk kt Z;have keys:∀x∈xs,∃a b:Nat,x.1=[.inl (a:Int),.inl (b:Int)]/\a<205/\b<=500:=by
  intro x hx;obtain⟨y,U,e⟩:∃y∈kvs,y.1=x.1:=by
   clear Z hk;induction kt with
   |nil=>cases hx
   |@cons p q ps qs hq t ih=>
    rcases bY.mp hx with e|hx
    .subst e;exact#[p,aZ,hq.1]
    .obtain ⟨y,h1,h2⟩:=ih hx;exact#[y,bF _ h1,h2]
  obtain⟨a,b,h1,h2,h3⟩:=hk y U;exact#[a,b,by rw[<- e,h1],h2,h3]
 rw[List.Nodup,GB] at Z;refine Z.imp_of_mem fun {x y} hx U ne e=>?_;obtain⟨a,b,e1,h1,h2⟩:=keys x hx;obtain⟨a',b',O,J,z⟩:=keys y U;have e:(PR<|fO P w).hash x.1=(PR<|fO P w).hash y.1:=e;rw[e1,O,oF P w h1 h2,oF P w J z] at e;have:=Po.EE h1 J h2 z<|Po.Co (Po.xG _ _) (Po.xG _ _) (Po.xF h1 h2) (Po.xF J z) e;exact ne<|by rw[e1,O,this.1,this.2]
theorem qV{α:Type}(f:α->Int)(x:α):∀{l:List α},l.Pairwise (λa b=>f a≠f b)->(l.filter λy=>f y==f x).length<=1
 |[],_=>cQ _
 |a::r,h=>by
  obtain⟨h1,h2⟩:=Em.mp h;by_cases e:f a=f x
  .rw [Q6<|by simpa using e];have:r.filter (λy=>f y==f x)=[]:=List.filter_eq_nil_iff.mpr λb J z=>h1 b J (by rw[e];exact(by simpa using z:f b=f x).symm);rw[this];exact aN _
  .rw [QB<|by simpa using e];exact qV f x h2
theorem mU{id:String}{d:OS}{o:Qf}{es ep}{kvs:List<|List Key×V}{xs:List<|List Key×OS×OR}{Q:Array DictEntry->OU->Prop}(ho:s.heap.get? d=Zh o)(hd:o.data=.dict es ep)
  (Z:es.toList=xs.map (Ql<|PR<|fO X.prog X.w)) (hk:∀x∈xs,(PR<|fO X.prog X.w).is s.heap x.1 x.2.1) (hp:xs.Pairwise λx y=>(Ql (PR<|fO X.prog X.w) x).hash≠(Ql (PR<|fO X.prog X.w) y).hash) (h:Q es s):
  OZ (Pd X.prog X.w) A (Ue id d) Q E s:=by
 unfold Ue;refine OQ<|Sg ho hd ?_;refine OQ ?_;rw[<- SS];refine wpAny_forIn_list _ (λrest _ s'=>s'=s/\∀e∈rest,e∈es.toList) _ ?_ ?_ _ _ #[rfl,λe z=>z]
 .rintro e rest b s' ⟨U,J⟩;rw[U];have hm:=J e aZ;rw[Z] at hm;obtain⟨x,hx,rfl⟩:=qg.mp hm;have hT:Shared.TypeIs s (.ref x.2.1) "tuple":=IsTupleKey.typeIs<|hk x hx;have hsz:¬ (es.filter λO=>O.hash==(Ql (PR<|fO X.prog X.w) x).hash).size>1:=by
   have e1:(es.filter λO=>O.hash==(Ql (PR<|fO X.prog X.w) x).hash).size=(es.toList.filter λO=>O.hash==(Ql (PR<|fO X.prog X.w) x).hash).length:=by
    rw[<- Array.toList_filter,Array.length_toList]
   rw[e1,Z];have:=qV (λy=>(Ql (PR<|fO X.prog X.w) y).hash) x hp;rw[List.filter_map,aM];have this:(xs.filter λy=>(Ql (PR<|fO X.prog X.w) y).hash==(Ql (PR<|fO X.prog X.w) x).hash).length<=1:=this;exact Nat.not_lt.mpr this
  show OZ _ _ (Builtin.Dict.quietEq (.ref x.2.1)>>=_) _ _ _;refine OQ ?_;unfold Builtin.Dict.quietEq;refine OQ<|SE hT F.slot_tuple_eq.lookup<|OV ?_;rw[Z9<|by decide,Z8 hsz];exact OV #[rfl,λe z=>J e<|bF _ z]
 .rintro b s' ⟨rfl,_⟩;exact OV h
theorem sP{nm:String}{d o:OS}{kvs:List<|List Key×V}{xs:List<|List Key×OS×OR}{Q:Unit->OU->Prop}(ag:d≠o)(ac:(o==QT)=Zk)(hd:s.heap.get? d=Zh { cls:=.type "dict",data:=.dict (List.toArray []) })
  (ho:s.heap.DictOfH (PR<|fO X.prog X.w) o xs) (hp:xs.Pairwise λx y=>(Ql (PR<|fO X.prog X.w) x).hash≠(Ql (PR<|fO X.prog X.w) y).hash) (hsz:xs.length<=sizeLine)
  (hQ:∀h',Pr d s.heap h'->(∃od es ep,h'.get? d=Zh od/\od.ExactDict/\od.data=.dict es ep/\es.toList=xs.map (Ql<|PR<|fO X.prog X.w))->Q .unit { s with heap:=h' }):
  OZ (Pd X.prog X.w) A (Builtin.Dict.mergeDict nm d o) Q E s:=by
 obtain⟨oo,z,ah,aa,aj,J,U,ad,ai⟩:=id ho;unfold Builtin.Dict.mergeDict;rw[Z8<|by simpa using ag];unfold Builtin.Dict.showsAll;rw[Z8<|by rw[ac];exact kS];refine OQ<|OV ?_;refine OQ<|Sg aa J ?_;have Z:({ cls:=.type "dict",data:=.dict (List.toArray []) }:Qf).data=.dict (List.toArray []) 0:=rfl;dsimp only;cases xs with
 |nil=>
  have h0:z=(List.toArray []):=by
   have:z.toList=[]:=U;exact Array.toList_eq_nil_iff.mp this
  subst h0;rw[Z8<|by rw[show((List.toArray []):Array DictEntry).all (λe=>(keyPart e.key).isSome)=Zj by simp];simp];refine OQ<|wpAny_dictEpoch aa J ?_;refine OQ<|Sg aa J ?_;refine OQ ?_;rw[Std.Legacy.Range.forIn_eq_forIn_range'];refine OV<|OV<|hQ s.heap (TV _ _) #[_,_,_,hd,#[rfl,rfl,rfl],Z,rfl]
 |cons x r=>
  have af:(z.all λe=>(keyPart e.key).isSome)=Zk:=by
   rw[<- Array.all_toList,U];rfl
  rw[Z9<|by rw[af,T4];rfl];refine OQ<|Sg hd Z ?_;rw[Z9<|by rfl];refine OQ<|mU (kvs:=kvs) aa J U ad hp ?_;have O:z.size=(x::r).length:=by rw[<- Array.length_toList,U,aM]
  have ae:z.isEmpty=Zk:=by
   cases e0:z.isEmpty with
   |false=>rfl
   |true=>rw[Array.isEmpty_iff.mp e0] at O;cases O
  rw[Z9<|by rw[ae];rfl];refine OQ<|wpAny_updateDictKeysTo hd Z (OV<|hQ _ (Heap.SameBut.update ..) #[_,z,0+1,PQ _ hd<|Obj.isFreed_of_dict<|Obj.data_mapDictKeys Z _,(show Obj.ExactDict _ from#[rfl,rfl,rfl]).mapDictKeys _,Obj.data_mapDictKeys Z _,U])<|∅
theorem lW:oV X (.type "dict") λxs H Q=>L2.X2 λ(p:OS) (kvs:List<|List Key×V)=>xs=[.ref p]/\H p=Zh (.dT kvs)/\Kp kvs/\∀d,H d=Zi->Q (.ref d) (upd H d<|.dT kvs):=by
 intro pins s σ H xs us Q I r h;obtain⟨p,kvs,rfl,af,am,q⟩:=h;obtain⟨u,rfl,rx⟩:=Ah r;cases rx;obtain⟨z,ac,xs,kt,dd⟩:=DQ I.Uz af;have aw:xs.length=kvs.length:=(Ts kt).symm;have U:(xs.map (·.1)).Nodup:=let ⟨_,_,_,_,_,_,_,_,hn⟩:=dd;hn;have ah:=sV (P:=X.prog) (w:=X.w) am kt U;refine callType_codes (Q₁:=λobj s₁=>obj=.ref s.heap.objs.size/\s₁={ s with heap:=s.heap.push { cls:=.type "dict",data:=.dict (List.toArray []) } }) F.kt_called_dict (F.kt_typeCall_dict_1 _) F.entry_dict_init (kt_code_dict_new _ #[rfl,rfl]) ?_;rintro obj s₁ ⟨rfl,rfl⟩;have Z:(s.heap.push { cls:=.type "dict",data:=.dict (List.toArray []) }).get? s.heap.objs.size=Zh { cls:=.type "dict",data:=.dict (List.toArray []) }:=Pf _ rfl;have O:∀b o,s.heap.get? b=Zh o->(s.heap.push { cls:=.type "dict",data:=.dict (List.toArray []) }).get? b=Zh o:=λb o hb=>OT _ hb;have hT:Shared.TypeIs { s with heap:=s.heap.push { cls:=.type "dict",data:=.dict (List.toArray []) } } (.ref s.heap.objs.size) "dict":=#[_,Z,rfl]
 have aa:(s.heap.push { cls:=.type "dict",data:=.dict (List.toArray []) }).DictOfH (PR<|fO X.prog X.w) p xs:=by
  obtain⟨o,es,ep,a1,a2,a3,a4,a5,a6⟩:=dd;exact#[o,es,ep,O _ _ a1,a2,a3,a4,λx hx=>y3 O<|a5 x hx,a6]
 obtain⟨oo,aq,as,ae,ag,ao,av,ap,au⟩:=id aa;have J:Shared.TypeIs { s with heap:=s.heap.push { cls:=.type "dict",data:=.dict (List.toArray []) } } (.ref p) "dict":=#[oo,ae,ag.1]
 have ai:s.heap.objs.size≠p:=by
  obtain⟨_,_,_,hg,_⟩:=dd;exact λe=>absurd (Pa hg)<|by rw[e];exact AA _
 refine#[hT,F.args_dict_init_2 _ _,?_];unfold RV.«dict.__init__»;refine OQ ?_;unfold Builtin.Dict.selfAndRest;refine OQ<|wpAny_notOrdered_dict hT ?_;show OZ _ _ (pure (s.heap.objs.size,[Value.ref p])) _ _ _;refine OV ?_;show OZ _ _ (Builtin.Dict.updateFrom "dict.__init__" s.heap.objs.size (.ref p) [] .none) _ _ _;unfold Builtin.Dict.updateFrom;refine OQ<|wpAny_typeOf J ?_;rw[Z8<|by decide];refine OQ ?_;unfold Builtin.Dict.merge;refine OQ ?_;unfold Builtin.Dict.readDirectly;refine OQ<|Sr J isSubtype_dict_dict ?_;simp only[Bool.not_true,Dj,if_false];refine OQ<|SE J F.slot_dict_iter.lookup<|OV ?_;simp only[beq_self_eq_true,if_true];refine OQ<|OV ?_;refine sP (kvs:=kvs) ai ac Z aa ah ∅ λh' ad aj=>?_;show OZ _ _ (Builtin.Dict.addKeywords s.heap.objs.size []>>=_) _ _ _;refine OQ<|OV<|OV #[rfl,?_];obtain⟨od,es,ep,g1,g2,g3,g4⟩:=aj;refine#[.ref s.heap.objs.size,_,I.laid (h':=h') (t':=s.toks) (o:=.dT kvs) (λb o hb=>(ad.2 b<|fQ<|Pa hb).trans<|O _ _ hb) (aN _) ⟨z,?_,xs,kt.keeps λc ys ec=>?_,od,es,ep,g1,g2,g3,g4,U⟩,rfl,q _<|I.Uz.fresh<|aN _]
 .have:=I.big;exact beq_eq_false_iff_ne.mpr<|RJ this
 .rw [aO<|bE ec<|I.Uz.fresh<|aN _];exact ec
end
theorem yu{P:Pl}{w:PN}{K:W.Frag}{mg:Pj->Option OR}{base:PJ}{x:Pj}{f:OS}{fd:Qg}{ps:List Pj}{sp:Nat->Sp}(h0:∀vs H Q E,sp 0 vs H Q E->False)(J:Binds K fd ps [])(z:W.keepIn K (.ref f)=Zj)(hm:mg x=Zh (.ref f))
  (step:∀n,Fn P w K mg base aP x n ps (sp n)->aI P w K mg base aP (n+1) f fd ps (sp<|n+1)):∀n,Fn P w K mg base aP x n ps<|sp n
 |0=>#[f,fd,#[λvs H Q E h=>(h0 vs H Q E h).elim,λA outer s H args us vs Q E _ _ _ _ h=>(h0 vs H Q E h).elim],J,z,hm]
 |n+1=>#[f,fd,step n<|yu h0 J z hm step n,J,z,hm]
end L2
namespace PySem
open Sem (wp)
variable {h h':PJ}
structure xf(o o':Qf):Prop where
 fr:o'.isFreed=o.isFreed
 di:o'.dict=o.dict
 th:∀vs,o.data=.fields vs->∃us,o'.data=.fields us/\us[2]?=vs[2]?
theorem xf.refl(o:Qf):xf o o:=#[rfl,rfl,λvs h=>#[vs,h,rfl]]
theorem xf.trans{a b c:Qf}(x:xf a b)(y:xf b c):xf a c:=#[y.fr.trans x.fr,y.di.trans x.di,λvs h=>by
 obtain⟨us,h1,h2⟩:=x.th vs h;obtain⟨ws,h3,z⟩:=y.th us h1;exact#[ws,h3,z.trans h2]]
theorem xf.set{i:Nat}(hi:i≠2)(v:OR)(o:Qf):xf o<|o.mapFields (·.setIfInBounds i v):=by
 unfold Q8;split
 .exact #[rfl,rfl,λvs h=>by cases h;exact#[_,rfl,Rf hi]]
 .exact .refl _
def vK(h h':PJ):Prop:=∀b o,h.get? b=Zh o->∃u,h'.get? b=Zh u/\xf o u
theorem vK.trans{k:PJ}(x:vK h h')(y:vK h' k):vK h k:=λb o e=>by
 obtain⟨u,O,z⟩:=x b o e;obtain⟨w,e2,J⟩:=y b u O;exact#[w,e2,z.trans J]
theorem vK.upd(h:PJ)(a:OS){f:Qf->Qf}(z:∀o,xf o<|f o):vK h<|h.update a f:=λb o e=>by
 by_cases q:a=b
 .subst q;exact#[_,PQ f e<|(z o).fr.trans (Heap.get?_some_iff.mp e).2,z o]
 .exact #[o,(Qe h f q).trans e,.refl o]
inductive Tame{α:Type}:SH α->Prop
 |pure (a):Tame<|.pure a
 |no (w):Tame<|.unsupported w
 |load {a p k}:(∀o,Tame<|k o)->Tame (.load a p k)
 |upd {a p f k}:(∀o,xf o<|f o)->Tame (k .unit)->Tame (.update a p f k)
 |new {o k}:(∀a,Tame<|k a)->Tame (.alloc o k)
 |stack {k}:(∀l,Tame<|k l)->Tame (.stack k)
section
variable {α β:Type}{M:SI}{Γ:Ctx}{A:Py}{E:OR->OU->Prop}{s:OU}
theorem Tame.wp{t:SH α}(T:Tame t){Q:α->RC->OU->Prop}{E:OR->RC->OU->Prop}{p:RC}:∀{s:OU},wp M Γ t Q E p s->wp M Γ t (λa p z=>Q a p z/\vK s.heap z.heap) E p s:=by
 have go:∀{t:SH α} {s s1:OU},vK s.heap s1.heap->(∀{s:OU},Sem.wp M Γ t Q E p s->Sem.wp M Γ t (λa p z=>Q a p z/\vK s.heap z.heap) E p s)->Sem.wp M Γ t Q E p s1->Sem.wp M Γ t (λa p z=>Q a p z/\vK s.heap z.heap) E p s1:=
  λk J h=>Sem.wp_mono M Γ _ (λ_ _ _ z=>#[z.1,k.trans z.2]) (λ_ _ _ z=>z) _ _<|J h
 induction T with
 |pure=>exact λh=>#[h,λb o e=>#[o,e,.refl o]]
 |no=>exact id
 |load _ J=>exact λ⟨o,e,h⟩=>#[o,e,J o h]
 |upd f _ J=>exact λ⟨e,h⟩=>#[e,go (vK.upd _ _ f) J h]
 |@new o k _ J=>exact fun {s} h=>go (t:=k s.heap.objs.size) (s1:={ s with heap:=s.heap.push o }) (λb u e=>#[u,OT _ e,.refl u]) (J _) h
 |stack _ J=>exact λh=>J _ h
theorem Tame.any{t:SH α}(T:Tame t){Q:α->OU->Prop}(h:OZ M A t Q E s):OZ M A t (λa z=>Q a z/\vK s.heap z.heap) E s:=λΓ p J=>T.wp<|h Γ p J
theorem Tame.bind{m:SH α}{f:α->SH β}(x:Tame m)(y:∀a,Tame<|f a):Tame<|m>>=f:=by
 show Tame (m.bind f);induction x with
 |pure a=>exact y a
 |no w=>exact .no w
 |load _ ih=>exact .load ih
 |upd h _ ih=>exact .upd h ih
 |new _ ih=>exact .new ih
 |stack _ ih=>exact .stack ih
theorem Tame.ite{c:Prop}[Decidable c]{x y:SH α}(hx:Tame x)(z:Tame y):Tame<|if c then x else y:=by split<;>assumption
theorem J3(v:OR)(i:Nat):Tame<|field v i:=by
 refine .bind (m:=fieldsOf v) ?_ λa=>?_
 .unfold fieldsOf;split
  .refine .bind (.load λo=>.pure o) λo=>?_;split
   .exact .pure _
   .exact .no _
  .exact .no _
 .split
  .exact .pure _
  .exact .no _
theorem MM{i:Nat}(hi:i≠2)(v x:OR):Tame<|Um v i x:=by
 unfold Um;split
 .unfold updateField;refine .bind (.load λo=>.pure o) λo=>?_;split
  .exact .ite (.upd (xf.set hi x)<|.pure _) (.no _)
  .exact .no _
 .exact .no _
theorem sk(l:List RN):Tame<|readyFrames l:=by
 induction l with
 |nil=>exact .pure _
 |cons env r ih=>
  unfold readyFrames;split
  next f hf=>
   refine .bind (.load λo=>.pure o) λo=>.ite (.pure _)<|.bind ?_ λb=>.bind ?_ λc=>.bind (.upd (λo=>#[by cases o with|mk a b d c=>cases d<;>rfl,rfl,λvs h=>#[vs,h,rfl]])<|.pure _) λ_=>ih
   .unfold behindIsImport;exact .ite (.pure _)<|.ite (.pure _)<|.bind (J3 _ _) λ_=>.pure _
   .unfold keptBack;split
    .exact .ite (.pure _) (.bind (.bind (.stack λl=>.pure l) λ_=>.pure _) λ_=>.pure _)
    .exact .pure _
  .exact .no _
theorem LI(e:OR)(env:RN):Tame<|Rh e env:=by
 unfold Rh;split
 next f hf=>
  have rest:∀z b,Tame (do Um e 1 (<- EntryCells.newEntry z (<- frameOf env) .none (QO f) .none (<- entryPlaceOf f b))):=λz b=>by
   refine .bind ?_ λa=>.bind ?_ λpl=>.bind ?_ λn=>MM (by decide) _ _
   .unfold frameOf;refine .bind (.bind (.stack λl=>.pure l) λ_=>.pure _) λl=>.bind ?_ λo=>?_
    .unfold frameObject;split
     .exact .pure _
     .exact .bind (sk _) λ_=>.pure _
    .split
     .exact .pure _
     .exact .no _
   .unfold entryPlaceOf;refine .bind (.stack λl=>.pure l) λl=>?_;split<;>exact .pure _
   .unfold EntryCells.newEntry newFields newObj;exact .ite (.bind (.no _) λ_=>.bind (.new λa=>.pure a) λa=>.pure _)<|.bind (.new λa=>.pure a) λa=>.pure _
  refine .bind (J3 _ _) λz=>.ite (.bind (J3 _ _) λy=>.ite (.pure _)<|.bind (MM (by decide) _ _) λ_=>rest _ _)<|rest _ _
 .exact .no _
theorem jT(e:OR)(o:Option OS):Tame<|setFlight e o:=.bind (J3 _ _) λ_=>.ite (MM (by decide) _ _)<|.pure _
theorem iM(env:RN)(e:OR):Tame<|leaving env e:=.bind (LI _ _) λ_=>jT _ _
def Heap.Dx(h:PJ)(e:OS)(d:Option OS):Prop:=L2.X2 λo vs=>h.get? e=Zh o/\o.data=.fields vs/\o.dict=d/\vs[2]?=Zh .none
theorem Heap.Dx.kept{e:OS}{d:Option OS}(x:h.Dx e d)(k:vK h h'):h'.Dx e d:=by
 obtain⟨o,vs,h1,h2,h3,z⟩:=x;obtain⟨u,O,q⟩:=k e o h1;obtain⟨us,U,J⟩:=q.th vs h2;exact#[u,us,O,U,q.di.trans h3,J.trans z]
def Heap.UL(h base:PJ)(e:OS)(cls:OR)(a:OR×Option OS)(fl:OR):Prop:=h.TracedAtW base e cls a.1 fl/\h.Dx e a.2
def Heap.VX(base:PJ)(l:List RN)(e:OS)(cls:OR)(a:OR×Option OS)(fl:OR)(h:PJ):Prop:=base.StaysIn h/\base.get? e=Zi/\h.FunFrames base l/\h.UL base e cls a fl
noncomputable abbrev Heap.UG(base:PJ)(l:List RN)(e:OS)(cls:OR)(a:OR×Option OS)(h:PJ):Prop:=Heap.VX base l e cls a .none h
noncomputable abbrev Heap.WU(base:PJ)(l:List RN)(e:OS)(cls:OR)(a:OR×Option OS)(L:OS)(h:PJ):Prop:=Heap.VX base l e cls a (QO L) h
theorem Heap.VX.We{base:PJ}{l:List RN}{e:OS}{cls fl:OR}{a:OR×Option OS}(x:Heap.VX base l e cls a fl h):∃ob,h.get? e=Zh ob/\ob.cls=cls/\ob.dict=a.2/\∃vs,ob.data=.fields vs/\vs[2]?=Zh .none:=by
 obtain⟨_,_,_,⟨oe,vs,_,_,_,z,hc,_⟩,o,us,h1,h2,h3,J⟩:=x;rw[z] at h1;cases h1;exact#[oe,z,hc.1,h3,us,h2,J]
variable {base:PJ}{env:RN}{l outer:List RN}{L e:OS}{cls:OR}{a:OR×Option OS}{Q:Unit->OU->Prop}
theorem Tame.go{t:SH Unit}(T:Tame t){P:PJ->Prop}(w:OZ M A t (λ_ z=>∃h',z={ s with heap:=h' }/\P h') E s)(J:∀h',P h'->vK s.heap h'->Q .unit { s with heap:=h' }):OZ M A t Q E s:=
 Pu (T.any w) (λ_ _ z=>by
  obtain⟨⟨h',rfl,p⟩,k⟩:=z;exact J h' p k) λ_ _ z=>z
theorem dX(z:A.frames=Zh (env::outer))(hf:env.frame=Zh L)(x:Heap.UG base (env::outer) e cls a s.heap)(hQ:∀h',Heap.UG base outer e cls a h'->s.heap.UpToSlots h'->Q .unit { s with heap:=h' }):OZ M A (leaving env<|.ref e) Q E s:=by
 obtain⟨f1,O,f3,J,d⟩:=x;refine(iM _ _).go (P:=λh'=>Heap.FlyingW base outer e cls a.1 h'/\s.heap.UpToSlots h') (wpAny_leaves_onW z hf #[f1,O,f3,J] λh' y u=>#[h',rfl,y,u]) λh' ⟨⟨U,y2,Z,y4⟩,u⟩ k=>hQ h' #[U,y2,Z,y4,d.kept k] u
theorem ME(z:A.frames=Zh (env::outer))(hf:env.frame=Zh L)(x:Heap.UG base (env::outer) e cls a s.heap)(hQ:∀h',Heap.WU base (env::outer) e cls a L h'->s.heap.UpToSlots h'->Q .unit { s with heap:=h' }):OZ M A (Rh (.ref e) env) Q E s:=by
 obtain⟨f1,O,f3,J,d⟩:=x;refine(LI _ _).go (P:=λh'=>Heap.HeldW base (env::outer) e cls a.1 L h'/\s.heap.UpToSlots h') (wpAny_looks_onW z hf #[f1,O,f3,J] λh' y u=>#[h',rfl,y,u]) λh' ⟨⟨U,y2,Z,y4⟩,u⟩ k=>hQ h' #[U,y2,Z,y4,d.kept k] u
theorem bZ(z:env.frame=Zh L)(x:s.heap.UL base e cls a<|QO L)(h:Q .unit s):OZ M A (Rh (.ref e) env) Q E s:=wpAny_noteFrame_againW z x.1 h
theorem IJ{fl:OR}(o:Option OS)(x:Heap.VX base l e cls a fl s.heap)(hQ:∀h',Heap.VX base l e cls a (o.elim .none λf=>QO f) h'->s.heap.UpToSlots h'->Q .unit { s with heap:=h' }):OZ M A (setFlight (.ref e) o) Q E s:=by
 obtain⟨f1,f2,f3,⟨oe,vs,T,oT,ts,he,hc,hd,h1,U,O,hT,J,h3⟩,d⟩:=x;refine(jT _ _).go (P:=λh'=>h'=s.heap.update T (Q8 (·.setIfInBounds 3 (o.elim .none λf=>QO f)))) ?_ λh' z k=>?_
 .refine OQ (Qb he hd h1 ?_);show OZ M A (Um (.ref T) 3 _) _ E s;exact Ui hT J (Array.getElem?_eq_some_iff.mp h3).1 #[_,rfl,rfl]
 .subst z;have Z:∀b u,s.heap.get? b=Zh u->b≠T->(s.heap.update T<|Q8 (·.setIfInBounds 3 (o.elim .none λf=>QO f))).get? b=Zh u:=λb u h n=>(Qe _ _<|Pe n).trans h;have nt:∀b u,s.heap.get? b=Zh u->(∀vs,u.data≠.fields vs)->b≠T:=λb u h n z=>by
   subst z;rw[hT] at h;cases h;exact n ts J
  exact hQ _ #[λb u h=>Z b u (f1 b u h) (λz=>by subst z;rw[U] at h;cases h),f2,f3.of_keeps λb u h n=>#[u,Z b u h<|nt b u h n,rfl],⟨oe,vs,T,_,_,Z e oe he<|Pe O,hc,hd,h1,U,O,PQ _ hT<|Obj.isFreed_of_fields<|R1 J _,R1 J _,by
    have:=(Array.getElem?_eq_some_iff.mp h3).1;simp[this]⟩,d.kept k] λb u h n=>#[u.slots,Z b u h<|nt b u h n]
theorem pj{oe:Qf}{vs:Array OR}(J:A.frames=Zh (env::outer))(hl:s.heap.FunFrames base<|env::outer)(hf:env.frame=Zh L)(U:s.heap.get? e=Zh oe)(O:base.StaysIn s.heap)(z:base.get? e=Zi)(hd:oe.data=.fields vs)(h1:vs[1]?=Zh .none)
  (h0:vs[0]?=Zh a.1/\oe.dict=a.2/\vs[2]?=Zh .none):
  ((∀h',Heap.UG base (env::outer) e oe.cls a h'->s.heap.UpToSlots h'->Q .unit { s with heap:=h' })->OZ M A (leaving env<|.ref e) Q E s)/\
  ((∀h',Heap.WU base (env::outer) e oe.cls a L h'->s.heap.UpToSlots h'->Q .unit { s with heap:=h' })->OZ M A (Rh (.ref e) env) Q E s):=by
 have d:s.heap.Dx e a.2:=#[oe,vs,U,hd,h0.2]
 refine#[λhQ=>?_,λhQ=>?_]
 .exact (iM _ _).go (P:=λh'=>Heap.LeftW base (env::outer) e oe.cls a.1 s.heap h') (wpAny_leaving_firstW J hl hf U O z hd h1 h0.1 λh' y=>#[h',rfl,y]) λh' ⟨y1,y2,Z,y4⟩ k=>hQ h' #[y1,z,y2,Z,d.kept k] y4
 .refine (LI _ _).go (P:=λh'=>Heap.NotedW base (env::outer) e oe.cls a.1 (QO L) s.heap h') ?_ λh' ⟨y1,y2,Z,y4⟩ k=>hQ h' #[y1,z,y2,Z,d.kept k] y4;unfold Rh;rw[hf];exact OQ<|Qb U hd h1<|wpAny_entryW J hl hf U O z hd (Array.getElem?_eq_some_iff.mp h1).1 h0.1 λh' y=>#[h',rfl,y]
end
end PySem
namespace L2
open PySem PySem.Spec PyProof.Rows
variable {σ:St}{X:Cx}{H H1:Hp}{pins:List (OS×Qf)}{cls:OR}{h':PJ}{ea:OS}
theorem aW.ex{P:Pl}{w:PN}{h:PJ}{a:OS}{o:HO}(x:aW P w H h a o):∃ob,h.get? a=Zh ob:=by
 cases o with
 |lst xs=>obtain⟨_,_,_,_,e⟩:=x;exact#[_,e]
 |tup xs=>obtain⟨_,_,_,ob,e,_⟩:=x;exact#[_,e]
 |dK kvs=>obtain⟨_,_,_,_,ob,es,z,e,_⟩:=x;exact#[_,e]
 |dT kvs=>obtain⟨_,_,_,_,ob,es,z,e,_⟩:=x;exact#[_,e]
 |set S n=>obtain⟨ob,es,z,t,e,_⟩:=x;exact#[_,e]
 |ins C dx fs=>obtain⟨_,_,_,e,_⟩:=x;exact#[_,e]
 |own y=>obtain⟨_,e⟩:=x;exact#[_,e]
 |xd fs=>obtain⟨_,⟨_,_,_,e,_⟩,_⟩:=x;exact#[_,e]
 |rng lo hi=>obtain⟨_,_,_,e⟩:=x;exact#[_,e]
 |frz ob u=>obtain⟨e,_⟩:=x;exact#[_,e]
 |tbl ps=>exact#[_,(show h.get? a=Zh _ from x)]
 |met f y=>exact#[_,(show h.get? a=Zh _ from x)]
 |ext φ=>obtain⟨_,⟨_,e⟩,_⟩:=x;exact#[_,e]
def OP(l:List RN)(H:Hp)(h0:PJ)(e:OS)(cls:OR)(dd:Option OS)(h:PJ):Prop:=
 ∃B a0,Heap.UG B l e cls (a0,dd) h/\H e=Zi/\h0.get? e=Zi/\∀b o,h.get? b=Zh o->b∉frs l->(H b≠Zi∨∃o0,h0.get? b=Zh o0)->B.get? b=Zh o
noncomputable def aK(P:Pl)(w:PN):pf:=λouter H s E e s'=>
 ∃ea cls dd H',e=.ref ea/\s'.os=s.os/\Q1 s'.gens/\Un (frs outer) [] H H' s.heap s'.heap/\cY P w H' s'.heap/\OP outer H' s.heap ea cls dd s'.heap/\E cls dd H'
section
variable {P:Pl}{w:PN}{l:List RN}{H':Hp}{h h1 h2 B base:PJ}
theorem Un.WI(u:Un (frs l) [] H H' h h1)(hB:∀b o,h1.get? b=Zh o->b∉frs l->(H' b≠Zi∨∃o0,h.get? b=Zh o0)->B.get? b=Zh o)(st:B.StaysIn h2)(up:h1.UpToSlots h2)(Z:h1.FunFrames base l):Un (frs l) [] H H' h h2 where
 keep b o e n hb hx:=st b o<|hB b o (u.keep b o e n hb hx) hb<|.inr #[o,e]
 slot b o e n hb hx:=by
  obtain⟨sl,z⟩:=u.slot b o e n hb hx;obtain⟨_,o',J,hd⟩:=Z.mem hb;rw[z] at J;cases J;obtain⟨U,e2⟩:=up b _ z hd;exact#[U,e2]
 free:=u.free
 there b o e hx:=by
  obtain⟨o',z⟩:=u.there b o e hx;by_cases hb:b∈frs l
  .obtain ⟨_,o2,O,hd⟩:=Z.mem hb;rw[z] at O;cases O;obtain⟨sl,e2⟩:=up b _ z hd;exact#[_,e2]
  .exact #[o',st b o'<|hB b o' z hb<|.inr #[o,e]]
 UN:=u.UN
 UK:=u.UK
 UJ:=u.UJ
theorem cY.WI(x:cY P w H' h1)(J:∀b o,h1.get? b=Zh o->b∉frs l->(H' b≠Zi∨∃o0,h.get? b=Zh o0)->B.get? b=Zh o)(st:B.StaysIn h2)(hn:∀b∈frs l,H' b=Zi):cY P w H' h2:=λa o e=>by
 have k:∀b o,H' b=Zh o->b∉frs l:=λb o z m=>by rw[hn b m] at z;cases z
 refine(x a o e).UR (λb v hc q=>?_) (λ_ q=>q) λ_ _ q=>q;rcases hc with z|z
 .exact st b v (J b v q (by rw[z];exact k _ _ e)<|.inl<|by rw[z,e];exact λy=>nomatch y)
 .exact st b v (J b v q (k _ _ z)<|.inl<|by rw[z];exact λy=>nomatch y)
theorem Inv.U2{s:OU}(I:Inv X pins σ H s)(u:Un (frs X.stack) [] H H' s.heap h1):∀b∈frs X.stack,H' b=Zi:=λb z=>by
 obtain⟨_,o,J,_⟩:=I.stack.mem z;exact u.free b o J (I.VG b z) dU
end
section
variable {P:Pl}{w:PN}{K:W.Frag}{mg:Pj->Option OR}{base:PJ}{N:List Pj}{qual:Pj}{scope:Qq}{f:OS}{cd:OR}{A:Py}{outer:List RN}{s:OU}{E:XK}
theorem Jj{H':Hp}{s1 s2:OU}{hm B B':PJ}{a0:OR}{dd:Option OS}(I:Inv (aX (aK P w) P w K mg base N qual scope f cd A outer s H E) pins σ H1 s1)
  (un:Un (frs (aX (aK P w) P w K mg base N qual scope f cd A outer s H E).stack) [] H1 H' s1.heap hm) (aa:cY P w H' hm)
  (hB:∀b o,hm.get? b=Zh o->b∉frs (aX (aK P w) P w K mg base N qual scope f cd A outer s H E).stack->(H' b≠Zi∨∃o0,s1.heap.get? b=Zh o0)->B.get? b=Zh o)
  (ff:hm.FunFrames B' (aX (aK P w) P w K mg base N qual scope f cd A outer s H E).stack) (up:hm.UpToSlots h') (fl:Heap.UG B outer ea cls (a0,dd) h') (ac:H' ea=Zi) (ad:s1.heap.get? ea=Zi) (os:s2.os=s1.os) (J:Q1 s2.gens) (hE:E cls dd H'):
  aK P w outer H s E (.ref ea) { s2 with heap:=h' }:=by
 have fr:=I.U2 un;have af:=un.WI hB fl.1 up ff;have O:=aa.WI hB fl.1 fr;have I2:=I.VD (s':={ s2 with heap:=h' }) os af O J λb z=>nomatch z;have Z:∀b o,s.heap.get? b=Zh o->∃o1,s1.heap.get? b=Zh o1:=λb o q=>I.base.there b o q λz=>nomatch z;refine#[ea,cls,dd,H',rfl,I2.os,J,I2.base,O,#[B,a0,fl,ac,?_,λb o ho hb U=>?_],hE]
 .cases q:s.heap.get? ea with
  |none=>rfl
  |some o=>
   obtain⟨o1,h1⟩:=Z ea o q;rw[ad] at h1;cases h1
 .have ae:b∉frs (aX (aK P w) P w K mg base N qual scope f cd A outer s H E).stack:=λm=>by
   rcases bY.mp (I2.US b m) with z|z
   .rcases U with y|⟨o0,y⟩
    .exact y (by rw[z];exact I2.free)
    .exact absurd (jI (Pa y) I.ok.above) (by rw[z];exact AA _)
   .exact hb z
  have:∃o1,hm.get? b=Zh o1/\(H' b≠Zi∨∃o0,s1.heap.get? b=Zh o0):=by
   rcases U with y|⟨o0,y⟩
   .obtain ⟨u,hu⟩:=Option.ne_none_iff_exists'.mp y;obtain⟨o1,z⟩:=(aa b u hu).ex;exact#[o1,z,.inl y]
   .obtain ⟨o1,h1⟩:=Z b o0 y;obtain⟨o2,h2⟩:=un.there b o1 h1 λz=>nomatch z;exact#[o2,h2,.inr #[o1,h1]]
  obtain⟨o1,q1,q2⟩:=this;have q3:=hB b o1 q1 ae q2;have q4:=fl.1 b o1 q3;rw[ho] at q4;cases q4;exact q3
theorem jG:nA (aK P w) (aX (aK P w) P w K mg base N qual scope f cd A outer s H E) E:=by
 intro pins σ H1 s1 e s2 I hc;obtain⟨ea,cls,dd,H',rfl,os,z,un,U,⟨B,a0,fl,J,O,Z⟩,hE⟩:=hc;refine dX (base:=B) I.ok.frames rfl fl λh' fl' up=>?_;exact Jj I un U Z fl.2.2.1 up fl' J O os z hE
theorem Bv{H2:Hp}{s1 s2:OU}{oe:Qf}{vs:Array OR}{a0:OR}{dd:Option OS}(I:Inv (aX (aK P w) P w K mg base N qual scope f cd A outer s H E) pins σ H1 s1)
  (un:Un (frs (aX (aK P w) P w K mg base N qual scope f cd A outer s H E).stack) [] H1 H2 s1.heap s2.heap) (Z:cY P w H2 s2.heap) (os:s2.os=s1.os) (J:Q1 s2.gens) (U:s1.heap.get? ea=Zi) (O:H2 ea=Zi)
  (he:s2.heap.get? ea=Zh oe) (hc:oe.cls=cls) (hd:oe.dict=dd) (hv:oe.data=.fields vs) (h1:vs[1]?=Zh .none) (h0:vs[0]?=Zh a0) (h2:vs[2]?=Zh .none) (hE:E cls dd H2):
  (aX (aK P w) P w K mg base N qual scope f cd A outer s H E).xe (.ref ea) s2:=by
 have I2:=I.VD (s':=s2) os un Z J λb z=>nomatch z;have ac:∀env∈(aX (aK P w) P w K mg base N qual scope f cd A outer s H E).stack,∀b,env.frame=Zh b->b∈ea::frs (aX (aK P w) P w K mg base N qual scope f cd A outer s H E).stack:=λenv he b hb=>bF _<|GL.mpr ⟨env,he,hb⟩;subst hc;have eh:∀b∈ea::frs (aX (aK P w) P w K mg base N qual scope f cd A outer s H E).stack,(R3 s2.heap<|ea::frs (aX (aK P w) P w K mg base N qual scope f cd A outer s H E).stack).get? b=Zi:=λb hb=>by
  exact PySem.W.hideAll_none _ hb
 refine(pj (a:=(a0,dd)) (base:=R3 s2.heap<|ea::frs (aX (aK P w) P w K mg base N qual scope f cd A outer s H E).stack) I.ok.frames (PySem.W.funFrames_hide I2.stack ac) rfl he (λb o q=>PySem.W.of_hideAll _ q) (eh ea aZ) hv h1 #[h0,hd,h2]).1 λh' hL k4=>?_;obtain⟨k1,k5,⟨_,_,k2⟩,k3⟩:=hL;refine Jj (s2:=s2) (B:=R3 s2.heap<|ea::frs (aX (aK P w) P w K mg base N qual scope f cd A outer s H E).stack) I un Z (λb o q nb aa=>PySem.W.hideAll_get _ q λz=>?_) I2.stack k4 #[k1,k5,k2,k3] O U os J hE;rcases bY.mp z with z|z
 .subst z;rcases aa with y|⟨o0,y⟩
  .exact y O
  .rw [U] at y;cases y
 .exact nb z
end
open PySem PySem.Spec PySem.W PySem.Calls PyProof.Rows Builtin.Getset_descriptor Builtin.ObjectAttr
structure Aw(K:W.Frag)(C:OS):Prop where
 ga:W.findIn K (.ref C) "__getattribute__"=Zh (Zh<|.builtin "BaseException.__getattribute__")
 gt:W.findIn K (.ref C) "__getattr__"=Zh Zi
 ca:W.findIn K (.ref C) "__class__"=Zh (Zh<|.builtin "object.__class__")
 sg:RM K (.builtin "object.__class__") "__get__"=Zh (Zh<|.builtin "getset_descriptor.__get__")
 tk:Th K (.builtin "object.__class__")=Zh Zj
 mo:RQ K C (.type "object")=Zh Zj
 mb:RQ K C (.type "BaseException")=Zh Zj
section
variable {prog:Pl}{w:PN}{A:Py}{E:OR->OU->Prop}{K:W.Frag}{a C:OS}{o:Qf}{h:PJ}{g:Array Uu}{d:Drawn}{t:Nat}{os:RH}
theorem FJ{M:SI}(hx:h.get? a=Zh o)(hc:o.cls=.ref C):Looks M h (typeOf<|.ref a)<|.ref C:=hc▸(Looks.ld hx).andThen .now
theorem pU{M:SI}{z:OR}{Q:Unit->OU->Prop}(X:K.In h)(F:Aw K C)(hx:h.get? a=Zh o)(hc:o.cls=.ref C)(J:Q .unit #[h,g,d,t,os]):
  OZ M A (checkBuiltinCall "BaseException.__getattribute__" #[[.ref a,z],[]]) Q E #[h,g,d,t,os]:=by
 have U:=FJ (M:=M) hx hc;have O:=looks_mroIn (M:=M) X F.mb;have k1:builtinKind "BaseException.__getattribute__"=Zh .slot:=by decide+kernel
 have k2:splitId "BaseException.__getattribute__"=Zh ("BaseException","__getattribute__"):=by decide+kernel
 have k3:=PySem.F.args_bexc_ga (.ref a) z;simp only[checkBuiltinCall,k1,k2];refine OQ ?_;unfold isInstance
 repeat lk
 exact J
end
noncomputable def Kk(a:OS)(cls:OR)(dd:Option OS):HO:=.ext λh=>∃o,h.get? a=Zh o/\o.cls=cls/\o.dict=dd/\∃vs,o.data=.fields vs
open PySem PySem.Spec PySem.W PySem.Calls PyProof.Rows
abbrev AE:List OR:=[.type "ValueError",.type "Exception",.type "BaseException",.type "object"]
def xV(E:XK)(C:OS):TS:=λ_ _ H=>E (.ref C) Zi H
section
variable {P:Pl}{w:PN}{K:W.Frag}{mg:Pj->Option OR}{base:PJ}{N:List Pj}{qual:Pj}{scope:Qq}{f:OS}{cd:OR}{A:Py}{outer:List RN}{s:OU}{E:XK}
theorem aS.UY{x:Pj}{st:PM}{fd:Qg}{ps:List Pj}{k:Nat}{sp:Sp}(F:aS K x qual st f fd)(S:aA N ps<|aR st)(len:∀vs H Q E,sp vs H Q E->vs.length=ps.length)
  (J:∀(z:OR) (A:Py) (outer:List RN) (s:OU) (H:Hp) (vs:List V) (Q:VK) (E:XK),aY k (A.deeper<|RP qual (aR st) s.heap.objs.size f z)->sp vs H Q E-> ∃t,kN (aX (aK P w) P w K mg base N qual (aR st) f z A outer s H E) (kn st) t/\t { nx:=λ_ H'=>Q .Uy H',rt:=Q } (start N vs) H):aI P w K mg base (aK P w) (k+1) f fd ps sp:=by
 obtain⟨oc,od,kV,aa,pm,an,z,ct,ac,rfl,lk,U⟩:=F.ex;exact u7 lk U S len λA outer s H vs Q E Z O=>J z A outer s H vs Q E Z O
end
theorem PS.UA{st:PM}{t:TS}(h:PS X.UA st t):PS X st t:=λpins s σ H D I hw=>
 Pu (h pins s σ H D (I.UH _) hw) (λ_ _ q=>q.UB) λ_ _ z=>PD z
def vJ(CX:pf)(X:Cx)(E:St->XK):Prop:=∀(pins:List<|OS×Qf) (σ:St) (H:Hp) (s:OU) (e:OR) (s':OU),Inv X pins σ H s->CX X.stack H s (E σ) e s'->X.xe e s'
def Lc(sp:Sp)(dvs:List V)(E:St->XK)(t:TA):TE:=λσ H Q=>t σ H λvs H1=>sp (vs++dvs) H1 Q<|E σ
section
variable {CX:pf}{k:Nat}{f:OS}{fd:Qg}{ps:List Pj}{sp:Sp}{dvs:List V}{ds:List OR}{E:St->XK}{x:Pj}{p pos:RC}{e:P1}{es:List P1}{t:TA}
theorem Bs{s:OU}{Q:VK}{E:XK}{us:List OR}{vs:List V}(F:aI X.prog X.w X.K X.mg X.base CX k f fd ps sp)(O:aY k X.A)(U:Binds X.K fd ps ds)(hd:Vals dvs ds)(hx:∀e s',CX X.stack H s E e s'->X.xe e s')
  (I:Inv X pins σ H s) (r:Vals vs us) (h:sp (vs++dvs) H Q E):OZ (Pd X.prog X.w) X.A (call (.ref f) us) (EP X pins σ Q) X.xe s:=by
 have J:Vals (vs++dvs)<|us++ds:=r.append hd;have hl:(us++ds).length=ps.length:=by rw[<- J.length];exact F.len _ _ _ _ h
 refine Rz<|QZ (F.run X.A X.stack s H #[us,[]] (us++ds) (vs++dvs) Q E O I.Wl (U s us I.UP hl) J h) λr s' z=>?_;cases r with
 |error e=>exact hx e s' z
 |ok fl=>
  cases fl with
  |ret u=>exact I.after z
  |next=>exact PD z
  |brk=>exact PD z
  |cont=>exact PD z
theorem E9(F:Fn X.prog X.w X.K X.mg X.base CX x k ps sp)(Z:aY k X.A)(hg:Gl X x)(hx:vJ CX X E)
  (ha:PA X (e::es) t) (U:(x==("__debug__":Pj))=Zk:=by decide) (he:Pb (e::es) X.env=(Zk,eval e X.env)::Pb es X.env:=by rfl) (J:(Qd pos<|Pb es X.env).any (·.1)=Zk:=by rfl):
  PE X (.Call (.Name x p) (e::es) [] pos)<|Lc sp [] E t:=by
 obtain⟨f,fd,h1,h2,h3,h4⟩:=F.ex;intro pins s σ H Q I h;refine Qk<|Gm I hg h4 ?_ U;refine QU (h₀:=X.base) I.ok.mod.WM h3 (thn (ha pos pins s σ H _ I h) λus s1 zz=>?_) he J;obtain⟨vs,H1,O,r,q⟩:=zz;refine#[O.UP,?_];exact Bs h1 Z h2 .nil (λe s' z=>hx pins σ H1 s1 e s' O z) O r q
end
noncomputable abbrev Cx.tries(X:Cx)(pn:List<|OS×Qf)(xe:OR->OU->Prop):Cx:={ X with pn:=pn,xe:=xe }
noncomputable abbrev Cx.U6(X:Cx)(e:OS)(o:Qf):Cx:={ X with A:=X.A.mark<|some<|.ref e,calm:=Zk,pn:=(e,o)::X.pn,xe:=λ_ _=>False }
section
variable {pins':List (OS×Qf)}{s:OU}{xe:OR->OU->Prop}{e:OS}
theorem Inv.Xe(I:Inv X pins σ H s):Inv (X.tries (X.pn++pins) xe) [] σ H s:=
 #[#[I.ok.mod,I.ok.kind,I.ok.glob,I.ok.blt,I.ok.above,I.ok.inj,I.ok.has,I.ok.WR,I.ok.hd,(λv z=>by
  obtain⟨a,o,vs,h1,h2,h3⟩:=I.ok.qt v z;exact#[a,o,vs,h1,mC _ h2,h3]),I.ok.frames,I.ok.Xa,I.ok.Xp,I.ok.bs,I.ok.V9,I.ok.VN,I.ok.VW,I.ok.U0,I.ok.Wk],I.os,I.bare,I.base,I.loc,I.cell,I.free,I.UE,λp J=>I.pin p (by simpa using J),I.Uz,I.len]
theorem Inv.U9(I:Inv (X.tries (X.pn++pins) xe) pins' σ H s)(ok:X.Ok):Inv X pins σ H s:=
 #[ok,I.os,I.bare,I.base,I.loc,I.cell,I.free,I.UE,λp z=>I.pin p<|mC _ z,I.Uz,I.len]
theorem Inv.XH{o:Qf}(I:Inv X pins σ H s)(e:OS)(h1:s.heap.get? e=Zh o)(h2:H e=Zi)(h3:e≠X.env.locals)(U:e∉X.fs)(J:∃vs,o.data=.fields vs/\vs[2]?=Zh .none):Inv (X.U6 e o) pins σ H s:=
 #[#[I.ok.mod,I.ok.kind,I.ok.glob,I.ok.blt,I.ok.above,I.ok.inj,I.ok.has,I.ok.WR,(λz=>nomatch z),(λv z=>by
  obtain⟨vs,k1,k2⟩:=J;cases(show Zh (Value.ref e)=Zh v from z);exact#[e,o,vs,rfl,aZ,k1,k2]),I.ok.frames,I.ok.Xa,I.ok.Xp,I.ok.bs,I.ok.V9,I.ok.VN,I.ok.VW,I.ok.U0,I.ok.Wk],I.os,I.bare,I.base,I.loc,I.cell,I.free,I.UE,(λp O=>by
  rcases bY.mp (show p∈(e,o)::(X.pn++pins) from O) with z|z
  .subst z;obtain⟨vs,k1,_⟩:=J;exact#[h1,h2,h3,U,λv y=>by rw[k1] at y;cases y]
  .exact I.pin p z),I.Uz,I.len]
theorem Inv.Xs{o:Qf}(I:Inv (X.U6 e o) pins σ H s)(ok:X.Ok):Inv X pins σ H s:=#[ok,I.os,I.bare,I.base,I.loc,I.cell,I.free,I.UE,λp z=>I.pin p<|bF _ z,I.Uz,I.len]
theorem SP.U9{D:Ends}{f:Flow}(h:SP (X.tries (X.pn++pins) xe) pins' D f s)(ok:X.Ok):SP X pins D f s:=by
 cases f with
 |next=>obtain⟨z,H',I,q⟩:=h;exact#[z,H',I.U9 ok,q]
 |brk=>obtain⟨z,H',I,q⟩:=h;exact#[z,H',I.U9 ok,q]
 |cont=>obtain⟨z,H',I,q⟩:=h;exact#[z,H',I.U9 ok,q]
 |ret u=>obtain⟨v,z,H',I,r,q⟩:=h;exact#[v,z,H',I.U9 ok,r,q]
theorem Inv.gone{i t':Nat}{x:Pj}{m:Pj->Option OR}{v:Option OR}(I:Inv X pins σ H s)(hN:X.N.Nodup)(hi:X.N[i]?=Zh x)(hn:s.heap.Ns X.env.locals m)(ad:h'.Ns X.env.locals λy=>if y=x then v else m y)(J:Pr X.env.locals s.heap h'):
  Inv X pins (σ.set i Zi) H { s with heap:=h',toks:=t' }:=by
 obtain⟨m0,ah,hl⟩:=I.loc;obtain⟨oL,_,_,ao,_⟩:=id hn;have hm:m0=m:=by
  obtain⟨o1,aj,ai,ae,ag,_,ac⟩:=ah;obtain⟨o2,am,ap,Z,aa,_,af⟩:=hn;rw[ae] at Z;cases Z;rw[ag] at aa;cases aa;funext y;rw[<- ac y,<- af y]
 subst hm;have nL:∀b ob,X.s₀.heap.get? b=Zh ob->b≠X.env.locals:=λb ob q=>fQ<|jI (Pa q) I.ok.above;refine#[I.ok,I.os,I.bare,#[λb o q n hb hx=>(J.2 b<|nL b o q).trans<|I.base.keep b o q n hb hx,λb o q n hb hx=>?_,I.base.free,λb o q hx=>?_,I.base.UN,I.base.UK,I.base.UJ],#[_,ad,λj y v' O U q3=>?_],λy c q=>?_,I.free,I.UE,λp hp=>?_,λb u q=>?_,by simpa using I.len]
 .obtain ⟨sl,O⟩:=I.base.slot b o q n hb hx;exact#[sl,(J.2 b<|nL b o q).trans O]
 .obtain ⟨o',O⟩:=I.base.there b o q hx;exact#[o',(J.2 b<|nL b o q).trans O]
 .by_cases hj:j=i
  .subst hj;by_cases hlen:j<σ.length
   .rw [GO hlen] at U;cases U
   .rw [r9<|by rw[GJ];lia] at U;cases U
  .rw [GN<|Pe hj] at U;obtain⟨u',r',q⟩:=hl j y v' O U q3;refine#[u',r',?_];rcases q with ⟨k,q⟩|⟨k,c,q,z⟩
   .have:y≠x:=λz=>hj<|JR hN O<|z▸hi;exact .inl #[k,by simp[this,q]]
   .exact .inr #[k,c,q,z.sameBut J<|I.Ww y c q]
 .obtain ⟨w',z⟩:=I.cell y c q;exact#[w',z.sameBut J<|I.Ww y c q]
 .obtain ⟨q,n,ne,nf,d⟩:=I.pin p hp;exact#[(J.2 p.1 ne).trans q,n,ne,nf,d]
 .refine (I.Uz b u q).UR (λc w' hc z=>(J.2 c ?_).trans z) (λ_ z=>z) λ_ _ z=>z;rintro rfl;rcases hc with y|y
  .rw [<- y,I.free] at q;cases q
  .rw [I.free] at y;cases y
end
end L2
namespace PySem
section
variable {M:SI}{A:Py}{E:OR->OU->Prop}{s:OU}
theorem mR{env:RN}{n:Pj}{pos:RC}{c:OS}{v0:Option OR}{Q:Unit->OU->Prop}(hk:env.scope.kind=.function)(hl:env.kindOf n=Zh .cell)(hc:env.cells.lookup n=Zh c)(hv:s.heap.IsCell c v0)
  (h:∀h',h'.IsCell c Zi->Pr c s.heap h'->Q .unit { s with heap:=h' }):OZ M A (do bindName env n .none;SW env n pos) Q E s:=by
 refine OQ<|wpAny_bindName<|wpAny_storeName_cell hk hl hc hv λaa z U=>?_;unfold SW;refine Si ?_;unfold unbindName;refine OQ<|wpAny_point<|OQ ?_;unfold deleteName;simp only[hl];refine OQ<|wpAny_cellOf hc<|OQ<|wpAny_cellGet z ?_;rw[Z9<|show(Zh Value.none).isSome=Zj from rfl];exact wpAny_cellSet z λZ J O=>wpAny_point<|h Z J<|U.trans O
end
end PySem
namespace L2
open PySem PySem.Spec PySem.W PySem.Calls PyProof.Rows
variable {o:Qf}{a0 a1 a2 a3 a4 a5 a6 a7 a8 a9:Option V}{e:P1}{bp σ:St}{s s':OU}{cls:OR}{E:XK}{f name x:Pj}{K:W.Frag}{h h' h2:PJ}{ta tb:TE}{dd:Option OS}{C a fI:OS}{X:Cx}{H H':Hp}{v y:V}{Q:VK}{l:List OR}{P:Pl}{pos:RC}{i:Nat}{pins:List (OS×Qf)}{w:PN}
section
theorem Inv.Xm{t':Nat}{c:OS}(I:Inv X pins σ H s)(hN:X.N.Nodup)(hi:X.N[i]?=Zh x)(hc:X.env.cells.lookup x=Zh c)(aa:X.fn x=Zj)(J:Pr c s.heap h')(ae:h'.IsCell c Zi):
  Inv X pins (σ.set i Zi) H { s with heap:=h',toks:=t' }:=by
 obtain⟨m,hn,hl⟩:=id I.loc;obtain⟨w',z⟩:=I.cell x c hc;obtain⟨oc,ad,Z⟩:=id z;have O:∀b o,X.s₀.heap.get? b=Zh o->b≠c:=λb o e=>fQ<|jI (Pa e)<|I.ok.WR x c aa hc;refine#[I.ok,I.os,I.bare,#[λb o e n hb hx=>(J.2 b<|O b o e).trans<|I.base.keep b o e n hb hx,λb o e n hb hx=>?_,I.base.free,λb o e hx=>?_,I.base.UN,I.base.UK,I.base.UJ],#[m,hn.sameBut J<|Pe<|I.Ww x c hc,λj y v' U e2 e3=>?_],λy c' e=>?_,I.free,I.UE,λp hp=>?_,λb ob e=>?_,by simpa using I.len]
 .obtain ⟨sl,U⟩:=I.base.slot b o e n hb hx;exact#[sl,(J.2 b<|O b o e).trans U]
 .obtain ⟨o',U⟩:=I.base.there b o e hx;exact#[o',(J.2 b<|O b o e).trans U]
 .by_cases hj:j=i
  .subst hj;by_cases hlen:j<σ.length
   .rw [GO hlen] at e2;cases e2
   .rw [r9<|by rw[GJ];lia] at e2;cases e2
  .rw [GN<|Pe hj] at e2;obtain⟨u',r',q⟩:=hl j y v' U e2 e3;refine#[u',r',?_];rcases q with q|⟨k,c',e,z'⟩
   .exact .inl q
   .refine .inr #[k,c',e,z'.sameBut J ?_];rintro rfl;exact hj<|JR hN U<|I.ok.inj _ _ _ e hc▸hi
 .by_cases hcc:c'=c
  .subst hcc;exact#[_,ae]
  .obtain ⟨w2,z2⟩:=I.cell y c' e;exact#[w2,z2.sameBut J hcc]
 .obtain ⟨e,n,ne,nf,d⟩:=I.pin p hp;refine#[(J.2 p.1 ?_).trans e,n,ne,nf,d];intro q;rw[q,ad] at e;have q':oc=p.2:=OX e;exact d w'<|by rw[<- q'];exact Z
 .refine (I.Uz b ob e).UR (λc2 w2 ac q=>(J.2 c2 ?_).trans q) (λ_ q=>q) λ_ _ q=>q;rintro rfl;rcases ac with y|y
  .rw [<- y,I.UE x _ hc] at e;cases e
  .rw [I.UE x _ hc] at y;cases y
theorem JW{M:SI}{A:Py}{E:OR->OU->Prop}{n:Pj}{Q:Unit->OU->Prop}(I:Inv X pins σ H s)(Z:X.N.Nodup)(hi:X.N[i]?=Zh n)(hl:Loc X.env.scope n)(hf:X.fn n=Zj∨X.env.scope.names.lookup n=Zh .local)
  (h:∀s',Inv X pins (σ.set i Zi) H s'->Q .unit s'):OZ M A (do bindName X.env n .none;SW X.env n pos) Q E s:=by
 by_cases W6:X.env.scope.names.lookup n=Zh .local
 .obtain ⟨m,hn,_⟩:=id I.loc;exact wpAny_nameGoes_keeps W6 hn (by rw[I.ok.kind];rfl) λh9 v U z=>h _<|I.gone Z hi hn U z
 .have hk:=hl.resolve_left W6;have J:=hf.resolve_right W6;obtain⟨c,hc⟩:=I.ok.has n<|.inl hk;obtain⟨v,hv⟩:=I.cell n c hc;exact mR I.ok.kind hk hc hv λh9 O z=>h _<|I.Xm (t':=s.toks) Z hi hc J z O
end
noncomputable def IW(K:W.Frag)(HC:OS)(i:Nat)(ts:OS->Qf->TS)(D:Ends):St->XK:=λσ cls dd H'=>exmOne K cls (.ref HC)=Zh Zj/\∀ea o,H' ea=Zi->o.cls=cls->o.dict=dd->(∃vs,o.data=.fields vs)->
 ts ea o { nx:=λσ' H''=>D.nx (σ'.set i Zi) H'',rt:=D.rt,bk:=λσ' H''=>D.bk (σ'.set i Zi) H'',ct:=λσ' H''=>D.ct (σ'.set i Zi) H'' } (σ.set i<|some<|.ref ea) H'
def EF(K:W.Frag)(HC:OS)(i:Nat)(tb:(St->XK)->TS)(ts:OS->Qf->TS):TS:=λD σ H=>tb (IW K HC i ts D) D σ H
theorem BB{body U:List PM}{ad:PM}{n:Pj}{HC:OS}{np ah:RC}{tb:(St->XK)->TS}{ts:OS->Qf->TS}(as:X.stack=X.env::X.outer/\X.env.frame=Zh X.env.locals)(b5:X.ex=[])(hg:Gl X x)(hm:X.mg x=Zh (.ref HC))
  (hN:X.N.Nodup) (hi:X.N[i]?=Zh n) (hl:Loc X.env.scope n) (hf:X.fn n=Zj∨X.env.scope.names.lookup n=Zh .local)
  (hb:∀(pn:List<|OS×Qf) (xe:OR->OU->Prop) (E:St->XK),vJ (aK X.prog X.w) (X.tries pn xe) E->kN (X.tries pn xe) body (tb E)) (hs:∀e o,kN (X.U6 e o) (ad::U)<|ts e o) (b0:(x==("__debug__":Pj))=Zk:=by decide):
  PS X (.Try body [.ExceptHandler (Zh<|.Name x np) (Zh n) (ad::U) ah] [] [] pos)<|EF X.K HC i tb ts:=by
 intro pins s σ H D I hw;refine wpAny_Try_except ?_;refine Pu (hb (X.pn++pins) _ (IW X.K HC i ts D) ?_ [] s σ H D I.Xe hw) (λf s1 q=>?_) λe s1 q=>q
 .intro pins' aj H1 s1 e s2 I1 hc;obtain⟨ea,cls,dd,H',rfl,os,av,un,az,⟨B,a0,fl,ac,aa,hB⟩,b3,hE⟩:=hc;have J:Inv X pins aj H1 s1:=I1.U9 I.ok;obtain⟨e1,e2⟩:=as;have un:Un (frs X.stack) [] H1 H' s1.heap s2.heap:=un;have fr:=J.U2 un;have af:X.A.frames=Zh (X.env::X.outer):=by rw[<- e1];exact J.ok.frames
  have fl:Heap.UG B (X.env::X.outer) ea cls (a0,dd) s2.heap:=by rw[<- e1];exact fl
  have ff:s2.heap.FunFrames B X.stack:=by rw[e1];exact fl.2.2.1
  have nx:∀h5,Heap.UG B (X.env::X.outer) ea cls (a0,dd) h5->s2.heap.UpToSlots h5->Inv X pins aj H' { s2 with heap:=h5 }:=λh5 f5 u5=>J.VD os (un.WI hB f5.1 u5 ff) (az.WI hB f5.1 fr) av λb z=>nomatch z;refine ME af e2 fl λh3 ax am=>?_;refine IJ Zi ax λh4 ae aw=>?_;have I4:=nx h4 ae<|am.trans aw;obtain⟨ob,au,b2,_,b4⟩:=ae.We;have nL:ea≠X.env.locals:=λz=>by
   obtain⟨m,⟨o,_,_,ho,_⟩,_⟩:=J.loc;rw[<- z,aa] at ho;cases ho
  have nF:ea∉X.fs:=λz=>by
   obtain⟨en,m1,m2⟩:=GL.mp z;obtain⟨_,o,ho,_⟩:=J.stack.mem<|GL.mpr #[en,by rw[e1];exact bF _ m1,m2];rw[aa] at ho;cases ho
  refine wpAny_handleBy_cons (codeAny_handlers_test ?_) (by intro q;cases q);refine Gm (X:=X.U6 ea ob) (I4.XH ea au ac nL nF b4) hg hm ?_ b0;refine(exm_one I4.UP (b2▸(Looks.ld au).andThen .now) b3).here ?_;refine codeAny_handlers_suite_as ?_;refine IJ Zi ae λh6 ap ay=>?_;have I6:=nx h6 ap<|(am.trans aw).trans ay;obtain⟨ob6,ai,aq,Z⟩:=ap.We;refine nI I6 hN hi hl (show RelV (.ref ea) (.ref ea) from rfl) (λs7 I7 b1=>?_) hf;have nC:∀x c,X.env.cells.lookup x=Zh c->c≠ea:=λx c q z=>by
   obtain⟨v,o,ho,_⟩:=J.cell x c q;rw[z,aa] at ho;cases ho
  have ao:s7.heap.get? ea=Zh ob6:=by
   obtain⟨a,sb,z⟩:=b1;refine(sb.2 ea ?_).trans ai;rcases z with z|z
   .rw [z];exact nL
   .exact Pe (nC _ _ z)
  have I8:=I7.XH ea ao ac nL nF Z.2;refine Pu (hs ea ob6 pins s7 _ _ _ I8<|hE ea ob6 ac aq Z.1<|Z.2.imp λ_ z=>z.1) (λf s8 q8=>?_) λ_ _ z=>z.elim;cases f with
  |next=>
   obtain⟨ag,H'',O,q⟩:=q8;have O:=O.Xs J.ok;exact JW O hN hi hl hf λ_ J=>#[_,_,J,q]
  |brk=>
   obtain⟨ag,H'',O,q⟩:=q8;have O:=O.Xs J.ok;exact JW O hN hi hl hf λ_ J=>#[_,_,J,q]
  |cont=>
   obtain⟨ag,H'',O,q⟩:=q8;have O:=O.Xs J.ok;exact JW O hN hi hl hf λ_ J=>#[_,_,J,q]
  |ret u=>
   obtain⟨v',ag,H'',O,r,q⟩:=q8;have O:=O.Xs J.ok;exact JW O hN hi hl hf λ_ J=>#[_,_,_,J,r,q]
 .have q':SP X pins D f s1:=q.U9 I.ok;cases f with
  |next=>exact RO q'
  |brk=>exact q'
  |cont=>exact q'
  |ret u=>exact q'
open PySem PySem.Spec PySem.W PySem.Calls PyProof.Rows Builtin.Getset_descriptor Builtin.ObjectAttr
section
variable {prog:Pl}{A:Py}{E:OR->OU->Prop}{g:Array Uu}{d:Drawn}{t:Nat}{os:RH}
theorem wO{v:OR}{od:Option Qf}{z:Bool}{Q:OR->OU->Prop}(X:K.In h)(F:Aw K C)(I:TC h a o C od)(hf:findObj K C od name=Zh (.value v))(hv:handedIn v=Zj)(hq:Q v #[h,g,d,t+1,os]):
  OZ (Pd prog w) A (getAttr (.ref a) name z) Q E #[h,g,d,t,os]:=by
 have O:=I.type (M:=Pd prog w);have U:=looks_findIn (M:=Pd prog w) X F.ga;have y2:=looks_findIn (M:=Pd prog w) X F.gt;have Z:=looks_find (M:=Pd prog w) X I hf;have bd:=PySem.F.attr_ValueError.ga.bind<|.ref a;have J:(z&&onTheHeap (Value.builtin "BaseException.__getattribute__"))=Zk:=by cases z<;>rfl
 simp only[getAttr,getAttrBy];refine OQ<|wpAny_mkText<|PC<|OQ<|O.at<|OQ<|U.at ?_;show OZ _ _ (getAttrByItsOwn _ _ _ _ _ _) _ _ _;unfold getAttrByItsOwn;refine OQ ?_;show OZ _ _ (Ul (.ref C) "__getattr__") _ _ _;refine y2.at<|OQ<|RE<|PC ?_;unfold callGetattribute;rw[J];show OZ _ _ (boundAndCalled _ _ _) _ _ _;unfold boundAndCalled;rw[bd];refine OQ<|OV<|Rz<|S0 PySem.F.attr_ValueError.ga.plain PySem.F.entry_bexc_ga<|pU X F I.at_ I.cls ?_;unfold RV.«object.__getattribute__»;refine OQ<|OV<|OQ<|OV<|OQ<|O.at<|OQ<|Z.at ?_;refine OV ?_;show OZ _ _ (handedOut v) _ _ _;rw[handedOut_of hv];exact OV hq
end
open PySem PySem.Spec PySem.W PySem.Calls PyProof.Rows
section
variable {prog:Pl}{A:Py}{E:OR->OU->Prop}{g:Array Uu}{d:Drawn}{t:Nat}{os:RH}
variable {nm q:Pj}{N:OS}{bs bm bmB:List OR}{hdct:Bool}{sn:List Pj}{sub:List OR}{ab:Bool}{col:Option Bool}{k0 k1 k2 k3 k5:Option OR}{B Bn newId nid initId inN:String}{bmN:List OR}
theorem kF(Fn:TY Bn newId inN bmN)(aa:bmB.contains (.type Bn)=Zj)(F:TY B nid initId bmB)(T:OwnTail h bmB bm){mN:Pj->Option OR}{rest:List OR}{oI:Qf}{Q:Fin->OU->Prop}
  (hC:h.get? C=Zh (SY nm q C N bs bm hdct sn sub ab col dd k0 k1 k2 k3 k5 newId)) (hn:h.Ns N mN) (hi:mN "__init__"=Zh (.ref fI)) (ac:h.get? fI=Zh oI) (ae:oI.cls=.type "function")
  (hq:∀h' e,Heap.MadeExcOf h h' e (.ref C) rest->e=h.objs.size+1->OZ (Pd prog w) A (call (.ref fI)<|.ref e::rest) (λr s'=>r=.none/\Q (.done<|.ret<|.ref e) s') E ⟨h',g,d,t,os⟩) (hrest:rest.length<=sizeLine:=by size_fits):
  OZ (Pd prog w) A (RV.«type.__call__» #[.ref C::rest,[]]) Q E #[h,g,d,t,os]:=by
 repeat (first|with_reducible refine Rk hC ?_|with_reducible refine wpAny_madeBy_exc hC ?_|wp_step)
 refine codeAny_call_builtin_code (Code.quiet_builtin _ Fn.quiet)<|wpAny_check_new_subU Fn aa T hC ?_;refine codeAny_exc_new_subU Fn aa F T hC ?_ hrest;show OZ _ _ _ _ _ _;have kp:∀b o,h.get? b=Zh o->((h.push { cls:=.type "tuple",data:=.seq rest.toArray }).push { cls:=.ref C,data:=.fields (List.toArray [.ref h.objs.size,.none,.none,.none,.bool Zk,.none]) }).get? b=Zh o:=λb o e=>OT _<|OT _ e;have z:=kp _ _ hC;have J:=kp _ _ ac;have U:=hn.keeps kp;have O:((h.push { cls:=.type "tuple",data:=.seq rest.toArray }).push { cls:=.ref C,data:=.fields (List.toArray [.ref h.objs.size,.none,.none,.none,.bool Zk,.none]) }).get? (h.objs.size+1)=Zh
   { cls:=.ref C,data:=.fields (List.toArray [.ref h.objs.size,.none,.none,.none,.bool Zk,.none]) }:=by heap_get
 have ad:(Value.ref C::bm).contains (.ref C)=Zj:=by simp
 have Z:=T.keeps kp;unfold isInstance
 repeat (first|with_reducible refine Rk O ?_|(with_reducible refine wpAny_isSubtype_exc z ?_;rw[ad])|wp_step)
 show OZ _ _ (Ul (.ref C) _) _ _ _;refine wpAny_typeLookup_tail z U Z F.mroIs F.init.lookup ?_;rw[hi];refine PC<|OQ ?_;unfold bindSpecial;refine OQ<|wpAny_typeOf (T:="function") #[_,J,ae] ?_;rw[Z9<|by decide];refine OV<|OQ<|Pu (hq _ (h.objs.size+1) #[kp,Tc<|kR _,h.objs.size,O,Tc<|aN _,?_] rfl) (λr s' hr=>?_) λ_ _ x=>x
 .exact OT _ (Heap.get?_push_at rfl rfl)
 .obtain ⟨rfl,hQ⟩:=hr
  wp_walk
  exact hQ
theorem lV(Fn:TY Bn newId inN bmN)(O:bmB.contains (.type Bn)=Zj)(F:TY B nid initId bmB)(T:OwnTail h bmB bm){mN:Pj->Option OR}{rest:List OR}{Z:Qf}{Q:OR->OU->Prop}
  (z:h.get? C=Zh (SY nm q C N bs bm hdct sn sub ab col dd k0 k1 k2 k3 k5 newId)) (hn:h.Ns N mN) (hi:mN "__init__"=Zh (.ref fI)) (J:h.get? fI=Zh Z) (U:Z.cls=.type "function")
  (hq:∀h' e,Heap.MadeExcOf h h' e (.ref C) rest->e=h.objs.size+1->OZ (Pd prog w) (A.under<|.builtin "type.__call__" #[.ref C::rest,[]]) (call (.ref fI)<|.ref e::rest) (λr s'=>r=.none/\Q (.ref e) s') E #[h',g,d,t,os]) (hrest:rest.length<=sizeLine:=by size_fits):
  OZ (Pd prog w) A (call (.ref C) rest) Q E #[h,g,d,t,os]:=by
 have f1:=tc_lookup;have f2:=tc_bind<|.ref C;have hT:(#[h,g,d,t,os]:OU).TypeIs (.ref C) "type":=#[_,z,rfl]
 refine Rz<|codeAny_of_tree ?_;show OZ _ _ (callAny (.ref C) _) _ _ _
 repeat (any_goals (first|assumption|with_reducible refine Rk z ?_|wp_step))
 refine#[rfl,?_];refine codeAny_call_builtin_at (Code.quiet_builtin _<|by decide+kernel) entry_typeCall<|wpAny_check_type_call_sub z<|kF (hrest:=hrest) Fn O F T z hn hi J U λh' e hm he=>?_;exact hq h' e hm he
end
section
variable {M:SI}{A:Py}{E:OR->OU->Prop}{env:RN}
variable {nm q:Pj}{N:OS}{bs bm:List OR}{hdct:Bool}{sn:List Pj}{sub:List OR}{ab:Bool}{col:Option Bool}{k0 k1 k2 k3 k5:Option OR}{newId:String}
theorem kI{x:SH OR}{Q:Flow->OU->Prop}(z:bm.contains (.type "BaseException")=Zj)(hh:A.handled=Zi)
  (h:OZ M A x (λv s₁=>L2.X3 λe oe vs=>v=.ref e/\s₁.heap.get? C=Zh (SY nm q C N bs bm hdct sn sub ab col dd k0 k1 k2 k3 k5 newId)/\ s₁.heap.get? e=Zh oe/\oe.cls=.ref C/\oe.data=.fields vs/\vs[1]?=Zh .none/\E (.ref e) s₁) E s):
  OZ M A (raiseStmt env (Zh x) Zi) Q E s:=by
 have O:(Value.ref C::bm).contains (.type "BaseException")=Zj:=by rw[List.contains_cons,z,Bool.or_true]
 unfold raiseStmt;refine OQ<|Pu h (λv s₁ J=>?_) λ_ _ x=>x;obtain⟨e,oe,vs,rfl,U,he,hc,hd,h1,hE⟩:=J;obtain⟨oc,od,Z,aa⟩:=oe;dsimp only at hc hd;subst hc hd;obtain⟨hp,g,d,tk,os⟩:=s₁
 repeat (first|with_reducible refine Rk he ?_|with_reducible refine Rk U ?_|(with_reducible refine wpAny_isSubtype_exc U ?_;rw[O])|wp_step)
 rw[h1];exact OV<|by rw[Z8<|by decide];exact OV<|wpAny_raiseNew_none hh hE
end
noncomputable def D3(K:W.Frag)(C fI:OS)(bmB:List OR)(newId:String):Bool:=match K.lookup C with
 |none=>Zk
 |some o=>match o.data with
  |.cls cd=>o.cls==.type "type"&&cd.mro.head?==Zh (.ref C)&&o.slots.size==6&&o.slots[4]?==Zh (Zh<|.builtin newId)&&!cd.hasDel&&tailIn K bmB cd.mro.tail&&nsOkIn K cd.ns&&nsIn K cd.ns "__init__"==Zh (Zh<|.ref fI)
  |_=>Zk
theorem sI{N:OS}{mg:Pj->Option OR}{n:Pj}{v:OR}(X:K.In h)(G:h.Ns N mg)(e:W.nsIn K N n=Zh (Zh v)):mg n=Zh v:=by
 obtain⟨o,es,O,z,hd,_,J⟩:=G;unfold nsIn at e;split at e
 .rename_i hl;rw[X _ _ hl] at z;cases z;cases hd;split at e
  .rename_i y he;rw[<- J];unfold nsFind findBy;rw[<- Array.find?_toList,he];exact(OX e)
  .split at e<;>cases e
 .cases e
theorem EL{α:Type}{l:List α}{x:α}(h:l.length=6)(e:l[4]?=Zh x):∃k0 k1 k2 k3 k5,l=[k0,k1,k2,k3,x,k5]:=by
 rcases l with _|⟨k0,_|⟨k1,_|⟨k2,_|⟨k3,_|⟨z,_|⟨k5,_|⟨J,l⟩⟩⟩⟩⟩⟩⟩
 case cons.cons.cons.cons.cons.cons.nil=>cases e;exact#[_,_,_,_,_,rfl]
 all_goals simp at h
theorem Li{bmB:List OR}{newId:String}(X:K.In h)(q:D3 K C fI bmB newId=Zj):L2.NF λbm N nm J bs hdct sn sub ab col dd k0 k1 k2 k3 k5 mN=>
  h.get? C=Zh (SY nm J C N bs bm hdct sn sub ab col dd k0 k1 k2 k3 k5 newId)/\h.Ns N mN/\mN "__init__"=Zh (.ref fI)/\OwnTail h bmB bm/\K.lookup C=Zh (SY nm J C N bs bm hdct sn sub ab col dd k0 k1 k2 k3 k5 newId):=by
 unfold D3 at q;cases ho:K.lookup C with
 |none=>rw[ho] at q;cases q
 |some o=>
  rw[ho] at q;obtain⟨oc,dd,dt,⟨sl⟩⟩:=o;cases dt with
  |cls cd=>
   simp only[tK,beq_iff_eq,Bool.not_eq_true'] at q;obtain⟨⟨⟨⟨⟨⟨⟨y0,O⟩,y2⟩,y7⟩,U⟩,y4⟩,y5⟩,Z⟩:=q;obtain⟨nm,bs,z,ns,J,hd,sn,sub,ab,col,aa⟩:=cd;dsimp only at y0 O U y4 y5 Z;subst y0 U;obtain⟨bm,rfl⟩:∃bm,z=.ref C::bm:=by
    cases z with
    |nil=>cases O
    |cons m bm=>cases O;exact#[bm,rfl]
   obtain⟨k0,k1,k2,k3,k5,rfl⟩:∃k0 k1 k2 k3 k5,sl=[k0,k1,k2,k3,Zh<|.builtin newId,k5]:=EL (by simpa using y2) (by simpa using y7);have G:h.Ns ns<|h.nsMap ns:=.of_isNs<|isNs_of_in X y5;exact#[bm,ns,nm,J,bs,hd,sn,sub,ab,col,dd,k0,k1,k2,k3,k5,_,X _ _ ho,G,sI X G Z,tail_of_in X y4,rfl]
  |_=>cases q
open PySem PySem.Spec PySem.W PySem.Calls PyProof.Rows Builtin.Getset_descriptor Builtin.ObjectAttr
noncomputable def dD(a:OS)(cls:OR)(dd:Option OS):HO:=.ext λh=>∃o,h.get? a=Zh o/\o.cls=cls/\o.dict=dd/\∃vs,o.data=.fields vs/\(vs[1]?=Zh .none/\vs[2]?=Zh .none)/\∃a0,vs[0]?=Zh a0
theorem KR{vs:Array OR}{a0:OR}(e:h.get? a=Zh o)(O:o.cls=cls)(e2:o.dict=dd)(e3:o.data=.fields vs)(e4:vs[1]?=Zh .none/\vs[2]?=Zh .none)(e5:vs[0]?=Zh a0):aW P w H h a<|dD a cls dd:=
 #[#[o,e,O,e2,vs,e3,e4,a0,e5],#[o,e],λh1 h2 ⟨o,z,J⟩ k=>#[o,k o z,J]]
theorem JP(x:cY P w H h)(e:H a=Zh (dD a cls dd)):L2.X3 λo vs a0=>h.get? a=Zh o/\o.cls=cls/\o.dict=dd/\o.data=.fields vs/\(vs[1]?=Zh .none/\vs[2]?=Zh .none)/\vs[0]?=Zh a0:=
 let ⟨⟨o,e1,e2,e3,vs,e4,e5,a0,e6⟩,_⟩:=x a _ e;#[o,vs,a0,e1,e2,e3,e4,e5,e6]
theorem xv{o:HO}(h:H a=Zh o):upd H a o=H:=funext λb=>by
 by_cases z:b=a
 .rw [z,aU,h]
 .rw [aO z]
section
theorem wW(fI:OS):oV X (.builtin "ValueError.__init__") λxs H Q=>L2.X4 λe C dd v=>xs=[.ref e,v]/\H e=Zh (dD e (.ref C) dd)/\D3 X.K C fI AE "ValueError.__new__"=Zj/\Q .Uy H:=by
 intro pins s σ H xs us Q I r h;obtain⟨e,C,dd,v,rfl,U,hm,q⟩:=h;obtain⟨u,w',rfl,r1,r2⟩:=DY r;cases(show u=Value.ref e from r1);obtain⟨o,vs,a0,z1,z2,z3,O,z5,Z⟩:=JP I.Uz U;have F:=RB;obtain⟨bm,N',nm,qn,bs,hdct,sn,sub,ab,col,d0,k0,k1,k2,k3,k5,mN,hC,hN,ae,T,aa⟩:=Li I.UP hm;obtain⟨h0,g,d,t,os⟩:=s;refine Rz<|S0 F.init.plain F.initEntry<|wpAny_check_init_subU F T hC z1 z2 ?_;show OZ _ _ (do Uc (.ref e) 0 (<- newTuple [w']);ret .none) _ _ _;refine OQ (SV ?_<|by rw[QG];simp);have z:(h0.push { cls:=.type "tuple",data:=.seq [w'].toArray }).get? e=Zh o:=OT _ z1;have hsz:0<vs.size:=by
  cases hv:vs.size with
  |zero=>rw[Sb<|∅] at Z;cases Z
  |succ n=>lia
 unfold Uc;refine OQ<|OQ<|Qb z O Z<|OQ<|Ui z O hsz ?_;have h2:((h0.push { cls:=.type "tuple",data:=.seq [w'].toArray }).update e<|Q8 (·.setIfInBounds 0 (.ref h0.objs.size))).get? e=Zh (o.mapFields (·.setIfInBounds 0 (.ref h0.objs.size))):=
  PQ _ z (by obtain⟨oc,od,ac,ad⟩:=o;cases O;rfl)
 have fin:∀tk,EP X pins σ Q .none #[(h0.push { cls:=.type "tuple",data:=.seq [w'].toArray }).update e<|Q8 (·.setIfInBounds 0 (.ref h0.objs.size)),g,d,tk,os]:=λtk=>by
  refine#[.Uy,H,?_,rfl,q];have J:=I.write (x:=e) (e:=e) (o:=dD e (.ref C) dd) (t':=tk) (h':=(h0.push { cls:=.type "tuple",data:=.seq [w'].toArray }).update e<|Q8 (·.setIfInBounds 0 (.ref h0.objs.size))) (by rw[U];exact True.intro) (.inl rfl)
   (λb u hb q=>(Q7 _ _ _ _ hb).trans<|OT _ q) ⟨_,h2⟩<|KR (vs:=vs.setIfInBounds 0<|.ref h0.objs.size) (a0:=.ref h0.objs.size) h2 (by rw[Obj.cls_mapFields];exact z2) ((xf.set (by decide) _ _).di.trans z3) (R1 O _) #[by rw[Rf<|by decide];exact z5.1,by rw[Rf<|by decide];exact z5.2]<|by rw[Array.getElem?_setIfInBounds_self_of_lt hsz]
  rw[xv U] at J;exact J
 cases a0 with
 |ref b=>exact T9<|OV<|fin t
 |_=>exact OV<|OV<|fin t
end
section
variable {np apos:RC}{es:List P1}{t:TA}{r:List V->Hp->VK->Prop}{id:String}
theorem BO{pl:SH Bool}(hc:oV X (.builtin id) r)(hg:Gl X x)(hm:X.mg x=Zh (.ref C))(z:specialIn X.K (.ref C) "__getattribute__"=Zh (Zh<|.builtin "type.__getattribute__"))(hr:readsIn X.K C (.type "type")=Zj)
  (hf:findCls X.K (.ref C) (.type "type") name=Zh (.val<|.builtin id)) (hid:handedIn (.builtin id)=Zj) (ha:PA X (e::es) t) (O:(x==("__debug__":Pj))=Zk:=by decide)
  (he:Pb (e::es) X.env=(Zk,eval e X.env)::Pb es X.env:=by rfl) (J:(Qd pos<|Pb es X.env).any (·.1)=Zk:=by rfl)
  (Z:eval (.Call (.Attribute (.Name x np) name apos) (e::es) [] pos) X.env=(do
   let ov <- eval (.Name x np) X.env
   Sh apos.atName
   let (f,first) <- holding [ov] (RW ov name pl)
   TN pos f first (Qd pos<|Pb (e::es) X.env) (Rn pos<|QA [] X.env)):=by rfl):PE X (.Call (.Attribute (.Name x np) name apos) (e::es) [] pos)<|Hw r t:=by
 intro pins s σ H Q I h;refine R6 (pl:=pl) (Gm I hg hm ?_ O) Z;refine method_cls I.UP z<|cls_value I.UP hr hf hid ?_;refine Sw (thn (ha pos pins _ σ H _ (I.tok _) h) λus s1 zz=>?_) he J;obtain⟨vs,H1,I1,r1,U⟩:=zz;exact hc pins s1 σ H1 vs us Q I1 r1 U
end
def Kd(te:TE):TE:=λσ H Q=>te σ H λx H1=>∃i:Int,x=.int i/\i.natAbs.log2<1920/\∀y,Q (.str y) H1
section
variable {v c1 c2:P1}{s1 s2:Pj}{te:TE}{p:RC}
theorem E8(h1:PE X c1<|tC<|.str s1)(hv:PE X v te)(hl:s1.length<=1000:=by decide):PE X (.JoinedStr [c1,.FormattedValue v (-1) Zi p] pos)<|Kd te:=by
 intro pins s σ H Q I h;refine JoinedStr_many<|joinParts_cons<|thn (h1 pins s σ H (λx H1=>x=.str s1/\H1=H) I #[rfl,rfl]) λu O Z=>?_;obtain⟨y,H1,I1,J,U,e2⟩:=Z;subst U e2;obtain⟨tk,rfl⟩:=(show ∃t,u=Value.str s1 t from J)
 refine#[by rw[strLen_append,QG];show 0+s1.length<=_;lia,joinParts_cons<|FormattedValue_plain<|thn (hv pins O σ H1 _ I1 h) λu2 ac Z=>?_];obtain⟨y,H2,I2,J,i,U,hi,q⟩:=Z;subst U;obtain⟨aa,rfl⟩:=(show ∃t,u2=Value.int i t from J)
 refine formatField_int_small hi ?_;have hz:=int_text_length_le (k:=1920) (by decide) hi;have z:(RX++s1++Ro (toString i)).length<=sizeLine:=by rw[strLen_append,strLen_append,PySem.ofString_length,QG];show 0+s1.length+_<=_;lia
 exact#[z,joinParts_nil #[.str _,H2,I2.tok _,#[_,rfl],q _] z]
end
noncomputable def IB:List OR->Bool
 |.ref c::r=>IB r
 |l=>l==AE
theorem qR{P:List OR->Prop}(h0:P AE)(h1:∀c r,P r->P (.ref c::r)):∀{l:List OR},IB l=Zj->P l:=by
 intro l;induction l with
 |nil=>intro e;cases(beq_iff_eq.mp<|show([]==AE)=Zj from e)
 |cons v r ih=>
  intro e;cases v with
  |ref c=>exact h1 c r<|ih e
  |_=>
   have e:=beq_iff_eq.mp (show(_::r==AE)=Zj from e);rw[e];exact h0
theorem wt(self:OR)(e:IB l=Zj):refuseLoop self "__setattr__" l=pure .unit:=
 qR (P:=λl=>refuseLoop self "__setattr__" l=pure .unit) (PySem.F.store_ValueError.passes self) (λc r h=>by rw[refuseLoop_ref];exact h) e
theorem qS(e:IB l=Zj):l.contains (.type "object")=Zj/\l.isEmpty=Zk:=
 qR (P:=λl=>l.contains (.type "object")=Zj/\l.isEmpty=Zk) #[by decide,rfl] (λc r h=>#[by rw[List.contains_cons,h.1,Bool.or_true],rfl]) e
noncomputable def KS(K:Frag)(C:OS):Bool:=(clsIn K C).any λcd=>IB cd.mro
section
variable {prog:Pl}{A:Py}{R:Result->OU->Prop}{K:Frag}{x:OS}
theorem nY{ox:Qf}{od:Option Qf}{tk:Tok}{v:OR}{r:Option OR}(X:K.In s.heap)(I:InstAt s.heap x ox C od)(hp:KS K C=Zj)(Z:takerIn K C name=Zh r)
  (h:∀b,OZ (Pd prog w) A.in1 (match r with|some a=>setByDescriptor a (.ref x) v|none=>storeInOwnDict (.ref x) (.ref C) (.str name tk) name v b) (λfin s'=>match fin with|Fin.done f=>R (.ok f) s'|Fin.again c'=>c'.quiet=Zj/\Ra (Pd prog w) A c' R s') (λe s'=>R (.error e) s') s):
  Ra (Pd prog w) A (.call (.builtin "object.__setattr__") #[[.ref x,.str name tk,v],[]]) R s:=by
 have J:=PySem.F.store_object;obtain⟨cd,hc,O⟩:=any_some hp;have ne:cd.mro.isEmpty=Zk:=(qS O).2;have sub:Looks (Pd prog w) s.heap (isInstance (.ref x)<|.type "object") Zj:=I.type.andThen (looks_mroIn X<|by unfold mroIn;rw[hc,Option.bind_some,Z8<|by rw[ne];decide,(qS O).1]);refine S0 J.slot.plain J.entry<|@check_slot (Pd prog w) _ _ s "object.__setattr__" "object" "__setattr__" (.ref x) [.str name tk,v] [] _ J.kind J.split sub (J.args (.ref x) (.str name tk) v) ?_;obtain⟨z,ha,U⟩:=Option.bind_eq_some_iff.mp Z;have hm:Looks (Pd prog w) s.heap (mroOf<|.ref C) cd.mro:=(looks_clsIn X hc).andThen .now;have L3:Looks (Pd prog w) s.heap (storeTaker? z) r:=by
  cases z with
  |none=>cases U;exact .now
  |some a=>
   obtain⟨b,hb,rfl⟩:=Bc.mp U;refine(looks_takesIn X hb).andThen ?_;cases b<;>exact .now
 rw[osa_eq,refuse_eq];refine OQ<|OQ<|I.type.here<|OQ<|hm.here ?_;rw[wt _ O];refine OV<|OQ<|I.type.here<|OQ<|(looks_findIn X ha).here<|OQ<|L3.here ?_;exact h _
end
noncomputable def qc(d:OS)(fs:List<|Pj×V):HO:=.ext λh=>∃mA,h.Ns1 d mA/\∀f,dH (fs.lookup f)<|mA f
theorem xq{d:OS}{fs:List<|Pj×V}{mA:Pj->Option OR}(n:h.Ns1 d mA)(r:∀f,dH (fs.lookup f)<|mA f):aW P w H h d<|qc d fs:=
 #[#[mA,n,r],let ⟨o,_,_,e,_⟩:=n;#[o,e],λh1 h2 ⟨mA,⟨o,es,z,e,c⟩,r⟩ k=>#[mA,#[o,es,z,k _ e,c],r]]
structure CZ(K:Frag)(C:OS):Prop where
 hd:hasDictIn K C=Zj
 ov:KS K C=Zj
 sa:findIn K (.ref C) "__setattr__"=Zh (Zh<|.builtin "object.__setattr__")
section
variable {A:Py}{E:OR->OU->Prop}
theorem Cr{u:OR}{Q:Unit->OU->Prop}(I:Inv X pins σ H s)(e:H a=Zh (dD a (.ref C) Zi))(c:CZ X.K C)(n:aD X.K C f)(ry:RelV y u)
  (h:∀d s',H d=Zi->d≠a->Inv X pins σ (upd (upd H d<|qc d [(f,y)]) a<|dD a (.ref C)<|some d) s'->Q .unit s'):OZ (Pd X.prog X.w) A (setAttr (.ref a) f u) Q E s:=by
 obtain⟨o,vs,a0,O,z2,z3,z4,z5,z6⟩:=JP I.Uz e;have J:InstAt s.heap a o C Zi:=#[O,z2,by unfold notCls;rw[z4],by rw[z3];trivial]
 refine set_plain I.UP J c.sa<|nY (s:={ s with toks:=s.toks+1 }) (r:=Zi) I.UP J c.ov n.Wf λb=>?_;obtain⟨cd,hc,ao⟩:=any_some c.hd;obtain⟨oc,od,au,U⟩:=o;dsimp only at z2 z3 z4;subst z2 z3 z4;refine OQ<|OV<|OQ<|OQ<|Uk (s:={ s with toks:=s.toks+1 }) O<|OQ<|Looks.here (s:={ s with toks:=s.toks+1 }) (looks_clsIn I.UP hc) ?_;rw[ao];have z:a≠s.heap.objs.size:=fQ<|Pa O;have ad:(s.heap.push { cls:=.type "dict",data:=.dict (List.toArray []) }).get? a=Zh #[.ref C,Zi,.fields vs,U]:=OT _ O;rw[Z8<|by decide];show OZ _ _ (do
  let d <- alloc { cls:=Value.type "dict",data:=Data.dict (List.toArray []) }
  update a λo=>{ cls:=o.cls,dict:=Zh d,data:=o.data,slots:=o.slots }
  dictMade (.ref C) a d) _ _ _
 refine OQ<|wpAny_alloc' ?_;refine OQ<|wpAny_update' ad ?_;refine OV ?_;have aq:((s.heap.push { cls:=.type "dict",data:=.dict (List.toArray []) }).update a λo=>{ cls:=o.cls,dict:=Zh s.heap.objs.size,data:=o.data,slots:=o.slots }).get? s.heap.objs.size=Zh { cls:=.type "dict",data:=.dict (List.toArray []) }:=
  (Q7 _ _ _ _<|Pe z).trans<|Heap.get?_push_at rfl rfl
 have ah:((s.heap.push { cls:=.type "dict",data:=.dict (List.toArray []) }).update a λo=>{ cls:=o.cls,dict:=Zh s.heap.objs.size,data:=o.data,slots:=o.slots }).Ns s.heap.objs.size λ_=>Zi:=
  #[_,(List.toArray []),_,aq,rfl,λe he=>absurd he (by simp),λ_=>rfl]
 have ai:((s.heap.push { cls:=.type "dict",data:=.dict (List.toArray []) }).update a λo=>{ cls:=o.cls,dict:=Zh s.heap.objs.size,data:=o.data,slots:=o.slots }).get? a=Zh #[.ref C,Zh s.heap.objs.size,.fields vs,U]:=PQ _ ad rfl;show OZ _ _ (storeInDict s.heap.objs.size (.str f s.toks) f u) _ _ _;unfold storeInDict newKeyGuard;refine OQ<|OV<|OQ<|wpAny_nsSet1 (Heap.Ns1.of_empty ah) λh' ac hs=>?_;obtain⟨oD,as,av,af,ag,aj⟩:=ac.count<|Within.cons f u Within.nil;refine OQ<|T5 af (by rw[ag];exact T8<|dJ aj<|by rw[cF,r6,QG];lia) ?_;refine OV ?_;have ae:H s.heap.objs.size=Zi:=I.Uz.fresh<|aN _;have aa:∀b ob,b≠a->s.heap.get? b=Zh ob->h'.get? b=Zh ob:=λb ob Z q=>(hs.2 b<|fQ<|Pa q).trans<|(Q7 _ _ _ _ Z).trans<|OT _ q;have am:h'.get? a=Zh #[.ref C,Zh s.heap.objs.size,.fields vs,U]:=(hs.2 a z).trans ai;have ap:∀g,dH ([(f,y)].lookup g) (if g=f then Zh u else Zi):=λg=>by
  by_cases q:g=f
  .rw [Z9 q,q,List.lookup_cons_self];exact ry
  .rw [Z8 q,AZ,show(g==f)=Zk from by simpa using q];trivial
 have J1:=I.write (x:=a) (e:=a) (o:=dD a (.ref C)<|some s.heap.objs.size) (t':=s.toks+1+1) (h':=(s.heap.update a λo=>{ cls:=o.cls,dict:=Zh s.heap.objs.size,data:=o.data,slots:=o.slots })) (by rw[e];exact True.intro) (.inl rfl)
  (λb ob Z q=>(Q7 _ _ _ _ Z).trans q) #[_,PQ _ O rfl]<|KR (PQ _ O rfl) rfl rfl rfl z5 z6
 have hsz:(s.heap.update a λo=>{ cls:=o.cls,dict:=Zh s.heap.objs.size,data:=o.data,slots:=o.slots }).objs.size=s.heap.objs.size:=Heap.size_update ..;have J2:=J1.laid (a:=s.heap.objs.size) (o:=qc s.heap.objs.size [(f,y)]) (t':=s.toks+1+1) (h':=h') (λb ob q=>?_) (by rw[show({ s with heap:=(s.heap.update a λo=>{ cls:=o.cls,dict:=Zh s.heap.objs.size,data:=o.data,slots:=o.slots }),toks:=s.toks+1+1 }:OU).heap.objs.size=_ from hsz];exact aN _)<|xq ac ap
 .have:=h s.heap.objs.size _ ae (Pe z) (by
   have e2:upd (upd H s.heap.objs.size<|qc s.heap.objs.size [(f,y)]) a (dD a (.ref C)<|some s.heap.objs.size)=upd (upd H a<|dD a (.ref C)<|some s.heap.objs.size) s.heap.objs.size (qc s.heap.objs.size [(f,y)]):=funext λb=>by
    by_cases q1:b=a
    .rw [q1,aU,aO z,aU]
    .rw [aO q1];by_cases q2:b=s.heap.objs.size
     .rw [q2,aU,aU]
     .rw [aO q2,aO q2,aO q1]
   rw[e2];exact J2)
  exact this
 .by_cases Z:b=a
  .rw [Z] at q⊢;rw[PQ _ O rfl] at q;rw[am,<- q]
  .exact aa b ob Z ((Q7 _ _ _ _ Z).symm.trans q)
theorem Cq{u:OR}{Q:Unit->OU->Prop}{d:OS}{fs:List<|Pj×V}(I:Inv X pins σ H s)(e:H a=Zh (dD a (.ref C)<|some d))(af:d≠a)(ed:H d=Zh (qc d fs))(hl:fs.length<1000)(c:CZ X.K C)(n:aD X.K C f)(ry:RelV y u)
  (h:∀s',Inv X pins σ (upd H d<|qc d<|aL f y fs) s'->Q .unit s'):OZ (Pd X.prog X.w) A (setAttr (.ref a) f u) Q E s:=by
 obtain⟨o,vs,a0,z1,z2,z3,z4,z5,z6⟩:=JP I.Uz e;obtain⟨⟨mA,z,r⟩,_,_⟩:=(show aW X.prog X.w H s.heap d (qc d fs) from I.Uz d _ ed)
 obtain⟨od,Z,ag⟩:=LW z;have J:InstAt s.heap a o C<|some od:=#[z1,z2,by unfold notCls;rw[z4],by rw[z3];exact Z]
 refine set_plain I.UP J c.sa<|nY (s:={ s with toks:=s.toks+1 }) (r:=Zi) I.UP J c.ov n.Wf λb=>?_;obtain⟨cd,hc,ad⟩:=any_some c.hd;obtain⟨oc,ah,aj,am⟩:=o;dsimp only at z2 z3 z4;subst z2 z3 z4;refine OQ<|OV<|OQ<|OQ<|Uk (s:={ s with toks:=s.toks+1 }) z1<|OQ<|Looks.here (s:={ s with toks:=s.toks+1 }) (looks_clsIn I.UP hc) ?_;rw[ad,Z8<|by decide];refine OV (a:=Zh d)<|OQ<|OV<|OQ ?_;refine wpAny_nsSet1 (s:={ s with toks:=s.toks+1 }) z λh' U ae=>?_;have hw:Within mA<|fs.map (·.1):=λg hg=>by
  have:=r g;cases XM:fs.lookup g with
  |none=>rw[XM] at this;cases hm:mA g with
   |none=>exact absurd hm hg
   |some u=>rw[hm] at this;exact this.elim
  |some v=>exact qg.mpr #[(g,v),PH XM,rfl]
 obtain⟨oD,ai,ao,O,aa,ac⟩:=U.count<|PySem.Within.cons f u hw;refine OQ<|T5 O (by rw[aa];exact T8<|dJ ac<|by rw[cF,aM,QG];lia) ?_;refine OV<|h _ ?_;exact I.write (s:=s) (x:=d) (e:=d) (o:=qc d<|aL f y fs) (t':=s.toks+1+1) (h':=h') (by rw[ed];exact True.intro) (.inl rfl) (λb ob hb q=>(ae.2 b hb).trans q) #[oD,O] (xq U λg=>by
  rw[mH];by_cases q:g=f
  .rw [Z9 q,Z9 q];exact ry
  .rw [Z8 q,Z8 q];exact r g)
end
def yn(K:Frag)(ta tv:TE)(f:Pj):TS:=λD σ H=>tv σ H λy H1=>ta σ H1 λx H2=>L2.X3 λa C dd=>x=.ref a/\H2 a=Zh (dD a (.ref C) dd)/\CZ K C/\aD K C f/\
 ((dd=Zi/\∀d,H2 d=Zi->d≠a->D.nx σ (upd (upd H2 d<|qc d [(f,y)]) a<|dD a (.ref C)<|some d))∨∃d fs,dd=Zh d/\d≠a/\H2 d=Zh (qc d fs)/\fs.length<1000/\D.nx σ (upd H2 d<|qc d<|aL f y fs))
theorem BA{o value:P1}{pos':RC}{tv:TE}(ha:PE X o ta)(hv:PE X value tv)(hs:RA value (Zh<|.Attribute o f pos') pos.line X.env=pure Zk):PS X (.Assign [.Attribute o f pos'] value pos)<|yn X.K ta tv f:=by
 intro pins s σ H D I h;refine T1 (thn (hv pins s σ H _ I h) λu s1 U=>?_) hs;obtain⟨y,H1,I1,ry,q⟩:=U;refine thn (ha pins s1 σ H1 _ I1 q) λov s2 U=>?_;obtain⟨x,H2,Z,rx,a,C,dd,ex,ea,c,n,J⟩:=U;subst ex;obtain rfl:ov=Value.ref a:=rx;rcases J with ⟨rfl,J⟩|⟨d,fs,rfl,z,ed,hl,J⟩
 .exact Cr Z ea c n ry λd s3 hd z O=>#[σ,_,O,J d hd z]
 .exact Cq Z ea z ed hl c n ry λs3 O=>#[σ,_,O,J]
structure MT(K:Frag)(C f:OS):Prop where
 ii:D3 K C f AE "ValueError.__new__"=Zj
 fn:isFn K (.ref f)=Zj
 kp:keepIn K (.ref C)=Zj
section
variable {CX:pf}{k:Nat}{f:OS}{fd:Qg}{ps:List Pj}{sp:Sp}{p:RC}{es:List P1}{t:TA}
theorem we{R:OR->OU->Prop}{us:List OR}{vs:List V}(M:MT X.K C f)(F:aI X.prog X.w X.K X.mg X.base CX k f fd ps sp)(hr:aY (k+1) X.A)(hb:Binds X.K fd ps [])
  (hx:nA CX X E) (I:Inv X pins σ H s) (r:Vals vs us) (hz:us.length<=sizeLine)
  (h:∀x,H x=Zi->sp (.ref x::vs) (upd H x<|dD x (.ref C) Zi) (λv H2=>v=.Uy/\Q (.ref x) H2) E)
  (fin:∀a H2 s2,s.heap.get? a=Zi->H a=Zi->Un (frs X.stack) [] H H2 s.heap s2.heap->cY X.prog X.w H2 s2.heap->s2.os=s.os->Q1 s2.gens->Q (.ref a) H2->R (.ref a) s2):
  OZ (Pd X.prog X.w) X.A (call (.ref C) us) R X.xe s:=by
 obtain⟨bm,N',nm,qn,bs,hdct,sn,sub,ab,col,d0,k0,k1,k2,k3,k5,mN,hC,hN,Z,T,af⟩:=Li I.UP M.ii;obtain⟨oI,ae,ad⟩:∃oI,s.heap.get? f=Zh oI/\oI.cls=.type "function":=by
  have ht:=beq_iff_eq.mp M.fn;unfold typeIn at ht;obtain⟨o,h1,h2⟩:=Bc.mp ht;exact#[o,I.UP _ _ h1,h2]
 obtain⟨h0,g,d,tk,os⟩:=s;refine lV (hrest:=hz) RB PySem.F.excBase_ValueError.hasB RB T hC hN Z ae ad λh' a hm ha=>?_;obtain⟨t0,ac,_⟩:=hm.there;have J:h0.objs.size<=a:=by rw[ha];exact kR _
 have O:H a=Zi:=I.Uz.fresh J;have I2:=I.laid (a:=a) (o:=dD a (.ref C) Zi) (h':=h') (t':=tk) hm.keeps J<|KR ac rfl rfl rfl #[rfl,rfl] rfl;have hq:=h a O;have r2:Vals (V.ref a::vs)<|Value.ref a::us:=.cons rfl r;have hl:(Value.ref a::us).length=ps.length:=by rw[<- r2.length];exact F.len _ _ _ _ hq
 have U:=hb #[h',g,d,tk,os] (Value.ref a::us) I2.UP (by rw[iG];exact hl);rw[iG] at U;refine Rz<|QZ (F.run _ X.stack #[h',g,d,tk,os] _ #[Value.ref a::us,[]] (Value.ref a::us) _ _ E (hr.make C us []) (I2.Wl.make C us []) U r2 hq) λr s' z=>?_;cases r with
 |error e=>exact hx pins σ _ _ e s' I2 z
 |ok fl=>
  cases fl with
  |ret u=>
   obtain⟨v,H2,ho,aa,un,Uz,rv,ev,q3⟩:=z;subst ev;exact#[rv,fin a H2 s' hm.new O (Un.trans (Un.laid hm.keeps J O) un) Uz ho aa q3]
  |next=>exact PD z
  |brk=>exact PD z
  |cont=>exact PD z
def Hi(C:OS)(sp:Sp)(E:XK)(t:TA):TE:=λσ H Q=>t σ H λvs H1=>vs.length<=1000/\∀x,H1 x=Zi->sp (.ref x::vs) (upd H1 x<|dD x (.ref C) Zi) (λv H2=>v=.Uy/\Q (.ref x) H2) E
end
noncomputable def forget(H:Hp)(a:OS):Hp:=λb=>if b=a then Zi else H b
theorem CW{b:OS}(h:b≠a):forget H a b=H b:=Z8 h
theorem jW:forget H a a=Zi:=Z9 rfl
theorem Un.forget{fs:List OS}{H2:Hp}(u:Un fs [] H H2 h h2)(hn:h.get? a=Zi)(J:H a=Zi):Un fs [] H (L2.forget H2 a) h h2 where
 keep:=u.keep
 slot:=u.slot
 free:=λb o q n hx=>by
  rw[CW λz=>by rw[z,hn] at q;cases q];exact u.free b o q n hx
 there:=u.there
 UN:=λb xs q=>by rw[CW<|bE q J];exact u.UN b xs q
 UK:=λb o xs q=>by rw[CW<|bE q J];exact u.UK b o xs q
 UJ:=λb ps q=>by
  obtain⟨m,hm⟩:=u.UJ b ps q;exact#[m,by rw[CW<|bE q J];exact hm]
theorem cY.forget{φ:PJ->Prop}(x:cY P w H h)(ha:H a=Zh (.ext φ)):cY P w (L2.forget H a) h:=λb o q=>by
 by_cases z:b=a
 .rw [z,jW] at q;cases q
 .rw [CW z] at q;refine(x b o q).UR (λ_ _ _ y=>y) (λc y=>?_) λc xs y=>?_
  .rw [CW λz=>by rw[z,ha] at y;cases y];exact y
  .rw [CW λz=>by rw[z,ha] at y;cases y];exact y
def JM(E:XK)(C:OS)(sp:Sp)(t:TA):TS:=λ_ σ H=>t σ H λvs H1=>vs.length<=1000/\∀x,H1 x=Zi->sp (.ref x::vs) (upd H1 x<|dD x (.ref C) Zi) (λv H2=>v=.Uy/\∃dd,H2 x=Zh (dD x (.ref C) dd)/\E (.ref C) dd (forget H2 x)) E0
section
variable {mg:Pj->Option OR}{base:PJ}{N:List Pj}{qual:Pj}{scope:Qq}{f:OS}{cd:OR}{A:Py}{outer:List RN}
variable {CX:pf}{k:Nat}{fd:Qg}{ps:List Pj}{sp:Sp}{np cpos:RC}{es:List P1}{t:TA}
theorem wh(M:MT K C fI)(F:aI P w K mg base CX k fI fd ps sp)(hr:aY (k+1) (aX (aK P w) P w K mg base N qual scope f cd A outer s H E).A)(hg:Gl (aX (aK P w) P w K mg base N qual scope f cd A outer s H E) x)(hm:mg x=Zh (.ref C))(hb:Binds K fd ps [])(hx:nA CX (aX (aK P w) P w K mg base N qual scope f cd A outer s H E) E0)
  (ha:PA (aX (aK P w) P w K mg base N qual scope f cd A outer s H E) (e::es) t) (ad:(x==("__debug__":Pj))=Zk:=by decide) (he:Pb (e::es) (aX (aK P w) P w K mg base N qual scope f cd A outer s H E).env=(Zk,eval e (aX (aK P w) P w K mg base N qual scope f cd A outer s H E).env)::Pb es (aX (aK P w) P w K mg base N qual scope f cd A outer s H E).env:=by rfl) (ac:(Qd cpos<|Pb es (aX (aK P w) P w K mg base N qual scope f cd A outer s H E).env).any (·.1)=Zk:=by rfl):
  PS (aX (aK P w) P w K mg base N qual scope f cd A outer s H E) (.Raise (Zh<|.Call (.Name x np) (e::es) [] cpos) Zi pos)<|JM E C sp t:=by
 intro pins s1 σ H1 D I h;obtain⟨bm,N',nm,qn,bs,hdct,sn,sub,ab,col,d0,k0,k1,k2,k3,k5,mN,hC,hN,af,T,aa⟩:=Li I.UP M.ii;rw[arm_exec_Raise];simp only[evalOpt,Option.map];refine OQ<|QC<|kI (C:=C) (nm:=nm) (q:=qn) (N:=N') (bs:=bs) (bm:=bm) (hdct:=hdct) (sn:=sn) (sub:=sub) (ab:=ab) (col:=col) (dd:=d0) (k0:=k0) (k1:=k1) (k2:=k2) (k3:=k3) (k5:=k5) (newId:="ValueError.__new__") (T.hasType PySem.F.excBase_ValueError.hasBase) (I.ok.hd rfl) ?_;refine OQ<|Qk<|Gm I hg hm ?_ ad;refine QU (h₀:=base) I.ok.mod.WM M.kp (thn (ha cpos pins s1 σ H1 _ I h) λus s2 zz=>?_) he ac;obtain⟨vs,H2,Z,r,hl,q⟩:=zz;refine#[Z.UP,?_];refine we (us:=us) (Q:=λv H3=>match v with|.ref x=>∃dd,H3 x=Zh (dD x (.ref C) dd)/\E (.ref C) dd (forget H3 x)|_=>False) M F hr hb hx Z r (by rw[<- r.length,QG];lia) q λa H3 s3 hn hH un J ho O q2=>?_;obtain⟨dd,U,hE⟩:=q2;obtain⟨o,ae,a0,z1,z2,z3,z4,z5,z6⟩:=JP J U;have I3:=Z.VD (s':=s3) ho un J O λb z=>nomatch z;refine OQ<|QC<|OV ?_;refine#[a,o,ae,rfl,I3.UP _ _ aa,z1,z2,z4,z5.1,?_];exact Bv (s2:=s3) Z (un.forget hn hH) (J.forget U) ho O hn jW z1 z2 z3 z4 z5.1 z6 z5.2 hE
end
open PySem PySem.Spec PySem.W PySem.Calls PyProof.Rows Builtin.Getset_descriptor Builtin.ObjectAttr
structure MU(P:Pl)(w:PN)(K:W.Frag)(mg:Pj->Option OR)(base:PJ)(CX:pf)(x:Pj)(C:OS)(k:Nat)(ps:List Pj)(sp:Sp):Prop where
 Xf:mg x=Zh (.ref C)
 ex:∃f fd,aI P w K mg base CX k f fd ps sp/\Binds K fd ps []/\MT K C f
structure Eh(K:W.Frag)(C:OS):Prop where
 gs:specialIn K (.ref C) "__getattribute__"=Zh (Zh<|.builtin "type.__getattribute__")
 rd:readsIn K C (.type "type")=Zj
 fc:findCls K (.ref C) (.type "type") "__init__"=Zh (.val<|.builtin "ValueError.__init__")
section
variable {CX:pf}{k:Nat}{ps:List Pj}{sp:Sp}{m:Pj}{p np apos:RC}{o:P1}{es:List P1}{t:TA}
theorem tE:oV X (.builtin "ValueError.__init__") λxs H Q=>L2.X4 λe C dd v=>xs=[.ref e,v]/\H e=Zh (dD e (.ref C) dd)/\(∃fI,D3 X.K C fI AE "ValueError.__new__"=Zj)/\Q .Uy H:=by
 intro pins s σ H xs us Q I r h;obtain⟨e,C,dd,v,h1,h2,⟨fI,h3⟩,q⟩:=h;exact wW fI pins s σ H xs us Q I r #[e,C,dd,v,h1,h2,h3,q]
theorem BN{pl:SH Bool}(B:Eh X.K C)(hm:X.mg x=Zh (.ref C))(U:Gl X x)(ha:PA X (e::es) t)(J:(x==("__debug__":Pj))=Zk:=by decide)
  (O:Pb (e::es) X.env=(Zk,eval e X.env)::Pb es X.env:=by rfl) (z:(Qd pos<|Pb es X.env).any (·.1)=Zk:=by rfl)
  (Z:eval (.Call (.Attribute (.Name x np) "__init__" apos) (e::es) [] pos) X.env=(do
   let ov <- eval (.Name x np) X.env
   Sh apos.atName
   let (f,first) <- holding [ov] (RW ov "__init__" pl)
   TN pos f first (Qd pos<|Pb (e::es) X.env) (Rn pos<|QA [] X.env)):=by rfl):
  PE X (.Call (.Attribute (.Name x np) "__init__" apos) (e::es) [] pos)<|Hw (λxs H Q=>L2.X4 λe C dd v=>xs=[.ref e,v]/\H e=Zh (dD e (.ref C) dd)/\(∃fI,D3 X.K C fI AE "ValueError.__new__"=Zj)/\Q .Uy H) t:=
 BO (pl:=pl) tE U hm B.gs B.rd B.fc (by decide+kernel) ha J O z Z
end
section
variable {mg:Pj->Option OR}{base:PJ}{N:List Pj}{qual:Pj}{scope:Qq}{f:OS}{cd:OR}{A:Py}{outer:List RN}
variable {CX:pf}{k:Nat}{ps:List Pj}{sp:Sp}{np cpos:RC}{es:List P1}{t:TA}
theorem wj(F:MU P w K mg base CX x C k ps sp)(O:aY (k+1) (aX (aK P w) P w K mg base N qual scope f cd A outer s H E).A)(Z:Gl (aX (aK P w) P w K mg base N qual scope f cd A outer s H E) x)(hx:nA CX (aX (aK P w) P w K mg base N qual scope f cd A outer s H E) E0)
  (ha:PA (aX (aK P w) P w K mg base N qual scope f cd A outer s H E) (e::es) t) (J:(x==("__debug__":Pj))=Zk:=by decide) (U:Pb (e::es) (aX (aK P w) P w K mg base N qual scope f cd A outer s H E).env=(Zk,eval e (aX (aK P w) P w K mg base N qual scope f cd A outer s H E).env)::Pb es (aX (aK P w) P w K mg base N qual scope f cd A outer s H E).env:=by rfl) (z:(Qd cpos<|Pb es (aX (aK P w) P w K mg base N qual scope f cd A outer s H E).env).any (·.1)=Zk:=by rfl):
  PS (aX (aK P w) P w K mg base N qual scope f cd A outer s H E) (.Raise (Zh<|.Call (.Name x np) (e::es) [] cpos) Zi pos)<|JM E C sp t:=by
 obtain⟨fI,fd,h1,h2,h3⟩:=F.ex;exact wh h3 h1 O Z F.Xf h2 hx ha J U z
end
def xY(C:OS)(m:Pj)(sp:Sp)(E:St->XK)(ta:TE)(t:TA):TE:=λσ H Q=>ta σ H λx H1=>L2.X3 λa dx fs=>x=.ref a/\H1 a=Zh (.ins C dx fs)/\fs.lookup m=Zi/\t σ H1 λvs H2=>sp (x::vs) H2 Q<|E σ
def JA(K:W.Frag)(a:OS)(o:Qf)(ta:TE)(f:Pj):TE:=λσ H Q=>ta σ H λx H1=>L2.X4 λC d fs v=>x=.ref a/\(o.cls=.ref C/\o.dict=Zh d/\∃vs,o.data=.fields vs)/\H1 d=Zh (qc d fs)/\Aw K C/\PZ K C=Zj/\W.findIn K (.ref C) f=Zh Zi/\fs.lookup f=Zh v/\Q v H1
theorem yH(Z:(a,o)∈X.pn)(he:PE X e ta)(hb:RF e f X.env (eval e X.env)=eval e X.env):PE X (.Attribute e f pos)<|JA X.K a o ta f:=by
 intro pins s σ H Q I h;refine vt hb<|thn (he pins s σ H _ I h) λu s1 zz=>?_;obtain⟨x,H1,z,rx,C,d,fs,v,ex,⟨z2,z3,vs,z4⟩,ed,F,hd,hn,l,q⟩:=zz;subst ex;obtain rfl:u=Value.ref a:=rx;have z1:=(z.pin (a,o)<|mC _ Z).1;obtain⟨⟨mA,U,r⟩,_,_⟩:=(show aW X.prog X.w H1 s1.heap d (qc d fs) from z.Uz d _ ed)
 obtain⟨od,O,hl⟩:=LW U;obtain⟨u',hu,ru⟩:=dH.some_of (v:=v) (o:=mA f) (by rw[<- l];exact r f);have J:TC s1.heap a o C<|some od:=#[z1,z2,by unfold notCls;rw[z4],by rw[z3];exact O]
 obtain⟨hh,g,dd,t,os⟩:=s1;exact wO z.UP F J (PySem.W.findObj_own hd hn rfl<|by rw[hl,hu]) (oG ru) #[v,H1,z.tok _,ru,q]
theorem wq(K:W.Frag)(J:(a,o)∈X.pn)(z:PE X e ta)(O:RF e f X.env (eval e X.env)=eval e X.env)(h:X.K=K:=by rfl):PE X (.Attribute e f pos)<|JA K a o ta f:=h▸yH J z O
def xI(K:W.Frag)(ta:TE)(f:Pj):TE:=λσ H Q=>ta σ H λx H1=>L2.X5 λa C d fs v=>x=.ref a/\(H1 a=Zh (Kk a (.ref C)<|some d)∨H1 a=Zh (dD a (.ref C)<|some d))/\H1 d=Zh (qc d fs)/\Aw K C/\PZ K C=Zj/\W.findIn K (.ref C) f=Zh Zi/\fs.lookup f=Zh v/\Q v H1
open PySem PySem.Spec PySem.W PySem.Calls PyProof.Rows
def XF(X:Cx)(E:XK):OR->OU->Prop:=λe s'=>L2.MV λ(pins:List<|OS×Qf) (σ:St) (H1:Hp) (s1:OU) (ea:OS) (cls:OR) (dd:Option OS) (H':Hp) (B:PJ) (a0:OR) (fl:OR)=>
 e=.ref ea/\Inv X pins σ H1 s1/\s'.os=s1.os/\Q1 s'.gens/\Un (frs X.stack) [] H1 H' s1.heap s'.heap/\cY X.prog X.w H' s'.heap/\H' ea=Zi/\s1.heap.get? ea=Zi/\
 (fl=.none∨fl=QO X.env.locals)/\B.StaysIn s'.heap/\B.get? ea=Zi/\s'.heap.FunFrames B X.stack/\s'.heap.UL B ea cls (a0,dd) fl/\
 (∀b o,s'.heap.get? b=Zh o->b∉frs X.stack->(H' b≠Zi∨∃o0,s1.heap.get? b=Zh o0)->B.get? b=Zh o)/\E cls dd H'
section
theorem rO(h1:X.prog=P:=by rfl)(h2:X.w=w:=by rfl):nA (aK P w) (X.UH<|XF X E) E:=by
 subst h1 h2;intro pins σ H s e s' I hc;obtain⟨ea,cls,dd,H',rfl,os,z,un,U,⟨B,a0,⟨f1,f2,f3,f4⟩,J,O,Z⟩,hE⟩:=hc;exact#[pins,σ,H,s,ea,cls,dd,H',B,a0,.none,rfl,I.UB,os,z,un,U,J,O,.inl rfl,f1,f2,f3,f4,Z,hE]
theorem XF.next{H1:Hp}{s1:OU}{ea:OS}{B:PJ}{a0 fl:OR}(I:Inv X pins σ H1 s1)(os:s'.os=s1.os)(O:Q1 s'.gens)(un:Un (frs X.stack) [] H1 H' s1.heap s'.heap)(U:cY X.prog X.w H' s'.heap)(Z:H' ea=Zi)(aa:s1.heap.get? ea=Zi)
  (ff:s'.heap.FunFrames B X.stack) (hB:∀b o,s'.heap.get? b=Zh o->b∉frs X.stack->(H' b≠Zi∨∃o0,s1.heap.get? b=Zh o0)->B.get? b=Zh o) (hE:E cls dd H') (ac:fl=.none∨fl=QO X.env.locals)
  (up:s'.heap.UpToSlots h2) (k1:B.StaysIn h2) (k2:B.get? ea=Zi) (k3:h2.FunFrames B X.stack) (k4:h2.UL B ea cls (a0,dd) fl):XF X E (.ref ea) { s' with heap:=h2 }:=by
 refine#[pins,σ,H1,s1,ea,cls,dd,H',B,a0,fl,rfl,I,os,O,un.WI hB k1 up ff,U.WI hB k1<|I.U2 un,Z,aa,ac,k1,k2,k3,k4,λb o ho nb J=>?_,hE];have:∃o1,s'.heap.get? b=Zh o1:=by
  rcases J with y|⟨o0,y⟩
  .obtain ⟨u,hu⟩:=Option.ne_none_iff_exists'.mp y;exact(U b u hu).ex
  .exact un.there b o0 y (λz=>nomatch z)
 obtain⟨o1,h1⟩:=this;have h3:=hB b o1 h1 nb J;have h4:=k1 b o1 h3;rw[ho] at h4;cases h4;exact h3
theorem tG(z:X.stack=X.env::X.outer/\X.env.frame=Zh X.env.locals):PassesOwn (Pd X.prog X.w) X.A X.env<|XF X E:=by
 intro e s' hx;obtain⟨pins,σ,H1,s1,ea,cls,dd,H',B,a0,fl,rfl,I,os,J,un,aa,O,U,ad,f1,f2,f3,f4,hB,hE⟩:=hx;have af:X.A.frames=Zh (X.env::X.outer):=by rw[<- z.1];exact I.ok.frames
 have back:∀h2,s'.heap.UpToSlots h2->B.StaysIn h2->h2.FunFrames B X.stack->h2.UL B ea cls (a0,dd) (QO X.env.locals)->cameBackBy (Pd X.prog X.w) X.A X.env (XF X E) (.ref ea) { s' with heap:=h2 }:=λh2 up k1 k3 Z=>by
  obtain⟨⟨oe,vs,T,oT,ts,he,ae,hd,h1,_⟩,_⟩:=id Z;show OZ _ _ (do
   if (<- field (.ref ea) 1)==.none then unsupported "frame.own-activation:exception-without-traceback"
   setFlight (.ref ea) X.env.frame) _ _ _
  refine OQ<|Qb he hd h1 ?_;rw[Z8 (show ¬ ((Value.ref T==Value.none)=Zj) from by simp),z.2];refine IJ (Zh X.env.locals) #[k1,f2,k3,Z] λhh ⟨m1,_,m2,m3⟩ m4=>?_;have ac:s'.heap.UpToSlots hh:=up.trans m4;have:=XF.next (s':=s') (h2:=hh) I os J un aa O U f3 hB hE (.inr rfl) ac m1 f2 m2 m3;exact this
 rcases ad with rfl|rfl
 .have ff:Heap.UG B (X.env::X.outer) ea cls (a0,dd) s'.heap:=#[f1,f2,by rw[<- z.1];exact f3,f4]
  refine ME af z.2 ff λh2 hH up=>?_;obtain⟨k1,_,k3,Z⟩:=hH;exact back h2 up k1 (by rw[z.1];exact k3) Z
 .refine bZ z.2 f4 ?_;exact back s'.heap (λb o hb hn=>#[o.slots,hb]) f1 f3 f4
end
section
variable {mg:Pj->Option OR}{base:PJ}{N:List Pj}{qual:Pj}{scope:Qq}{f:OS}{cd:OR}{A:Py}{outer:List RN}
theorem XF.xe{e:OR}(hx:XF (aX (aK P w) P w K mg base N qual scope f cd A outer s H E) E e s'):(aX (aK P w) P w K mg base N qual scope f cd A outer s H E).xe e s':=by
 obtain⟨pins,σ,H1,s1,ea,cls,dd,H',B,a0,fl,rfl,I,os,z,un,Z,J,O,U,f1,f2,f3,f4,hB,hE⟩:=hx;rcases U with rfl|rfl
 .exact dX (base:=B) I.ok.frames rfl #[f1,f2,f3,f4] λh' fl' up=>Jj I un Z hB f3 up fl' J O os z hE
 .show OZ _ _ (leaving _ _) _ _ _;unfold leaving;refine OQ<|bZ rfl f4 ?_;refine IJ Zi #[f1,f2,f3,f4] λh' U up=>?_;obtain⟨k1,k2,⟨_,_,k3⟩,k4⟩:=U;exact Jj I un Z hB f3 up #[k1,k2,k3,k4] J O os z hE
theorem PS.VC{st:PM}{t:TS}(h:PS ((aX (aK P w) P w K mg base N qual scope f cd A outer s H E).UH<|XF (aX (aK P w) P w K mg base N qual scope f cd A outer s H E) E) st t):PS (aX (aK P w) P w K mg base N qual scope f cd A outer s H E) st t:=λpins s1 σ H1 D I hw=>
 Pu (h pins s1 σ H1 D (I.UH _) hw) (λ_ _ q=>q.UB) λ_ _ z=>z.xe
end
noncomputable def IV(K:W.Frag)(HC:OS)(ts:TS)(D:Ends):St->XK:=λσ cls dd H'=>exmOne K cls (.ref HC)=Zh Zj/\ts D σ H'
def Dn(K:W.Frag)(HC:OS)(tb:(St->XK)->TS)(ts:TS):TS:=λD σ H=>tb (IV K HC ts D) D σ H
theorem dS.UY{mg:Pj->Option OR}{base:PJ}{qual:Pj}{st:PM}{f:OS}{fd:Qg}{dv:List OR}{N ps:List Pj}{k:Nat}{sp:Sp}(F:dS K x qual st f fd dv)(S:aA N ps<|aR st)(len:∀vs H Q E,sp vs H Q E->vs.length=ps.length)
  (J:∀(z:OR) (A:Py) (outer:List RN) (s:OU) (H:Hp) (vs:List V) (Q:VK) (E:XK),aY k (A.deeper<|RP qual (aR st) s.heap.objs.size f z)->sp vs H Q E-> ∃t,kN (aX (aK P w) P w K mg base N qual (aR st) f z A outer s H E) (kn st) t/\t { nx:=λ_ H'=>Q .Uy H',rt:=Q } (start N vs) H):aI P w K mg base (aK P w) (k+1) f fd ps sp:=by
 obtain⟨oc,od,T,kV,aa,pm,an,z,ct,ac,rfl,lk,U,_⟩:=F.ex;exact u7 lk U S len λA outer s H vs Q E Z O=>J z A outer s H vs Q E Z O
open PySem PySem.Spec PyProof.Rows
def xZ(C:OS)(sp:Sp)(dvs:List V)(ES:St->XK)(t:TA):TE:=λσ H Q=>t σ H λvs H1=>∀x dx,H1 x=Zi->H1 dx=Zi->dx≠x->
 sp (.ref x::(vs++dvs)) (upd (upd H1 dx<|.own x) x<|.ins C dx []) (λv H2=>v=.Uy/\Q (.ref x) H2) (ES σ)
open PySem PySem.Spec PySem.W PySem.Calls PyProof.Rows
open PySem PySem.Spec PySem.W PySem.Calls PyProof.Rows Builtin.Getset_descriptor Builtin.ObjectAttr
open PySem PySem.Spec PySem.W PySem.Calls PyProof.Rows
theorem sJ{env env2:RN}(h:env.frame=env2.frame)(x:OR):Rh x env=Rh x env2:=by
 unfold PySem.noteFrame PySem.frameOf;rw[h]
theorem Un.but{fs:List OS}{J:PJ}{oh:Qf}(u:Un fs [] H H' h h2)(s1:Pr C h h')(s2:Pr C h2 J)(Z:h'.get? C=Zh oh)(e2:J.get? C=Zh oh)(O:H' C=Zi)(U:C∉fs):Un fs [] H H' h' J where
 keep b o e n hb hx:=by
  by_cases z:b=C
  .subst z;rw[Z] at e;cases e;exact e2
  .exact (s2.2 b z).trans (u.keep b o ((s1.2 b z).symm.trans e) n hb hx)
 slot b o e n hb hx:=by
  have z:b≠C:=λz=>U<|z▸hb;obtain⟨sl,q⟩:=u.slot b o ((s1.2 b z).symm.trans e) n hb hx;exact#[sl,(s2.2 b z).trans q]
 free b o e n hx:=by
  by_cases z:b=C
  .subst z;exact O
  .exact u.free b o ((s1.2 b z).symm.trans e) n hx
 there b o e hx:=by
  by_cases z:b=C
  .subst z;exact#[_,e2]
  .obtain ⟨o',q⟩:=u.there b o ((s1.2 b z).symm.trans e) hx;exact#[o',(s2.2 b z).trans q]
 UN:=u.UN
 UK:=u.UK
 UJ:=u.UJ
section
variable {s2:OU}{k:Nat}{js:List Nat}{N':List Pj}{scope:Qq}{fp:List OS}
theorem zV{pins':List<|OS×Qf}(I:Inv X pins σ H s2)(ac:∀b∈fp,jQ X pins H b)(hC:s2.heap.objs.size<=C)
  (U:Inv (gU X N' scope C fp s2 H) pins' bp H' s') (hs:Pr C s'.heap h'):Inv X pins σ H' { s' with heap:=h' }:=by
 have nC:H' C=Zi:=U.free;have J:∀b o,s2.heap.get? b=Zh o->b≠C:=λb o e=>vz (Pa e) hC;have aa:∀b u,H' b=Zh u->b≠C:=λb u e z=>by rw[z,nC] at e;cases e
 have B:=U.base;refine I.VD (s':={ s' with heap:=h' }) (ch:=fp) U.os #[λb o e Z hb hx=>?_,λb o e Z hb hx=>?_,λb o e Z hx=>?_,λb o e hx=>?_,λb xs e=>?_,λb o u e=>?_,λb ps e=>?_] (λb u e=>?_) U.bare λb hb=>?_
 .exact (hs.2 b<|J b o e).trans (B.keep b o e Z hb hx)
 .obtain ⟨sl,q⟩:=B.slot b o e Z hb hx;exact#[sl,(hs.2 b<|J b o e).trans q]
 .exact B.free b o e Z hx
 .obtain ⟨o',q⟩:=B.there b o e hx;exact#[o',(hs.2 b<|J b o e).trans q]
 .exact B.UN b xs e
 .exact B.UK b o u e
 .exact B.UJ b ps e
 .refine (U.Uz b u e).UR (λc v O q=>(hs.2 c ?_).trans q) (λc q=>q) λc xs q=>q;rcases O with rfl|O
  .exact aa c _ e
  .exact aa c _ O
 .obtain ⟨_,f1,_,f3,f4,f5⟩:=ac b hb;exact#[f3,f1,f4,f5]
theorem tD{use:Option<|OR->SH Unit}{Q':OR->OU->Prop}{D:OS}{am:List<|OS×Qf}{H5:Hp}{e:OR}(O:X.stack=X.env::X.outer/\X.env.frame=Zh X.env.locals)(hx:∀e s',XF X E e s'->X.xe e s')
  (I:Inv X pins σ H s2) (be:∀b∈fp,jQ X pins H b) (hC:s2.heap.objs.size<=C) (I5:Inv (gU X N' scope C fp s2 H) am bp H5 s) (hc:aK X.prog X.w X.stack H5 s E e s'):
  Tf (Pd X.prog X.w) X.A (D7 scope (aE X.env.cells scope.names []) C X.env) (λe s'=>Gn X.env.frame (Pd X.prog X.w) X.A X.xe use Q' (.ref D) C (.error e) s') e s':=by
 obtain⟨ea,cls,dd,H',rfl,os,ay,un,as,⟨B,a0,⟨f1,f2,f3,f4⟩,b7,ad,hB⟩,hE⟩:=hc;obtain⟨m,ai,_⟩:=id I5.loc;have ai:s.heap.Ns C m:=ai;obtain⟨oC,es,ep,eC,dC,rC⟩:=id ai;have b5:H5 C=Zi:=I5.free;have ag:C∉frs X.stack:=λz=>by
  rcases bY.mp (I.US C z) with q|q
  .exact absurd q.symm (vz I.lt hC)
  .exact I.WC hC q
 have au:H' C=Zi:=un.free C oC eC b5 λz=>nomatch z;have bh:s'.heap.get? C=Zh oC:=un.keep C oC eC b5 ag λz=>nomatch z;have ac:ea≠C:=λz=>by rw[z,eC] at ad;cases ad
 have af:X.A.frames=Zh (X.env::X.outer):=by rw[<- O.1];exact I.ok.frames
 have ae:B.get? C=Zh oC:=hB C oC bh ag<|.inr #[oC,eC];show OZ _ _ (Rh (.ref ea)<|D7 scope (aE X.env.cells scope.names []) C X.env) _ _ s';rw[sJ<|show(D7 scope (aE X.env.cells scope.names []) C X.env).frame=X.env.frame from rfl];have ff:Heap.UG B (X.env::X.outer) ea cls (a0,dd) s'.heap:=#[f1,f2,by rw[<- O.1];exact f3,f4]
 refine ME af O.2 ff λh2 hH up=>?_;obtain⟨k1,_,k3,k4⟩:=hH;rw[<- O.1] at k3;have bg:h2.get? C=Zh oC:=k1 C oC ae;refine#[m,#[oC,es,ep,bg,dC,rC],λh' m' ba U cenv bw b9=>?_];obtain⟨oh,bv,bx,eh,dh,rh⟩:=id ba;have bj:oh.isFreed=Zk:=(Heap.get?_some_iff.mp eh).2;have aa:∀(hp:PJ) (o:Qf),hp.get? C=Zh o->(hp.update C λ_=>oh).get? C=Zh oh:=λhp o e0=>PQ _ e0 bj;have sb:∀hp:PJ,Pr C hp (hp.update C λ_=>oh):=λhp=>.update hp C _;obtain⟨⟨oe,vs,T,oT,ts,he,aw,hd,h1,aj,bn,hT,br,h3⟩,od,vd,d1,d2⟩:=id k4;have az:T≠C:=λz=>by rw[z,ae] at aj;cases aj
 have av:h'.get? ea=Zh oe:=(U.2 ea ac).trans he;have bf:h'.get? T=Zh oT:=(U.2 T az).trans hT;have bq:(B.update C λ_=>oh).StaysIn h':=λb o hb=>by
  by_cases z:b=C
  .subst z;rw[aa B oC ae] at hb;cases hb;exact eh
  .exact (U.2 b z).trans (k1 b o<|((sb B).2 b z).symm.trans hb)
 have frames:∀l:List RN,(∀env∈l,∀L,env.frame=Zh L->L≠C)->h2.FunFrames B l->h'.FunFrames (B.update C λ_=>oh) l:=λl=>by
  induction l with
  |nil=>intro _ _;trivial
  |cons env r ih=>
   intro hl hf;obtain⟨a1,⟨L,o,b1,b2,b3,b4⟩,a3⟩:=hf;have ap:=hl env aZ L b1;exact#[a1,#[L,o,b1,((sb B).2 L ap).trans b2,(U.2 L ap).trans b3,b4],ih (λe he=>hl e<|bF _ he) a3]
 have b0:h'.FunFrames (B.update C λ_=>oh) X.stack:=frames _ (λenv he L hL z=>ag (by
  rw[<- z];exact GL.mpr #[env,he,hL])) k3
 have bt:h'.UL (B.update C λ_=>oh) ea cls (a0,dd)<|QO X.env.locals:=⟨⟨oe,vs,T,oT,ts,av,aw,hd,h1,((sb B).2 T az).trans aj,bn,bf,br,h3⟩,od,vd,(U.2 ea ac).trans d1,d2⟩
 unfold PySem.passOn;refine OQ<|Qb av hd h1 ?_;rw[Z8 (show ¬ ((Value.ref T==Value.none)=Zj) from by simp),b9,O.2];refine OQ<|IJ (Zh X.env.locals) #[bq,((sb B).2 ea ac).trans f2,b0,bt] λhh ⟨m1,_,m2,m3⟩ m4=>?_;refine wpAny_throw<|hx _ _ ?_;have J:Inv X pins σ H5 { s with heap:=s.heap.update C λ_=>oh }:=zV I be hC I5<|sb _;have bu:∀b o,s'.heap.get? b=Zh o->b∉frs X.stack->(H' b≠Zi∨∃o0,s.heap.get? b=Zh o0)->B.get? b=Zh o:=hB;have bd:Un (frs X.stack) [] H5 H' s.heap h2:=un.WI hB k1 up f3;have bo:Un (frs X.stack) [] H5 H' (s.heap.update C λ_=>oh) h':=bd.but (sb _) U (aa _ _ eC) eh au ag;have ax:cY X.prog X.w H' h2:=as.WI hB k1<|I5.U2 un;have b6:∀b u,H' b=Zh u->b≠C:=λb u e z=>by rw[z,au] at e;cases e
 have aq:cY X.prog X.w H' h':=λb u e=>(ax b u e).UR (λc v ao q=>(U.2 c (by
  rcases ao with rfl|ao
  .exact b6 c _ e
  .exact b6 c _ ao)).trans q) (λc q=>q) λc xs q=>q
 have bi:∀b o,h'.get? b=Zh o->b∉frs X.stack->(H' b≠Zi∨∃o0,(s.heap.update C λ_=>oh).get? b=Zh o0)->(B.update C λ_=>oh).get? b=Zh o:=λb o e nb b8=>by
  by_cases z:b=C
  .subst z;rw[eh] at e;cases e;exact aa B oC ae
  .have ah:H' b≠Zi∨∃o0,s.heap.get? b=Zh o0:=b8.imp id λ⟨o0,q⟩=>#[o0,((sb s.heap).2 b z).symm.trans q]
   have e2:h2.get? b=Zh o:=(U.2 b z).symm.trans e;have:∃o1,s'.heap.get? b=Zh o1:=by
    rcases ah with y|⟨o0,y⟩
    .obtain ⟨u,hu⟩:=Option.ne_none_iff_exists'.mp y;exact(as b u hu).ex
    .exact un.there b o0 y (λz=>nomatch z)
   obtain⟨o1,q1⟩:=this;have q2:=hB b o1 q1 nb ah;have q3:=k1 b o1 q2;rw[e2] at q3;cases q3;exact((sb B).2 b z).trans q2
 have bc:Heap.UpToSlots h' hh:=m4;exact XF.next (s':={ s' with heap:=h' }) (h2:=hh) J os ay bo aq b7 (((sb s.heap).2 ea ac).trans ad) b0 bi hE (.inr rfl) bc m1 (((sb B).2 ea ac).trans f2) m2 m3
end
section
variable {k:Nat}{js:List Nat}{N':List Pj}{scope:Qq}{tg iter elt:P1}{ifs:List P1}{wi:TI}{g:TG}{tt:TT}{te:TE}
theorem lT(J:X.stack=X.env::X.outer/\X.env.frame=Zh X.env.locals)(hx:∀e s',XF X E e s'->X.xe e s'){use:Option<|OR->SH Unit}{Q':OR->OU->Prop}(z:X.calm=X.calm)(hc:rS X.N X.env.scope k js N' scope)(hi:PI X tg iter wi)
  (hg:∀C fp s2 H2,PG (gU X N' scope C fp s2 H2) tg g) (ht:∀C fp s2 H2,pY (gU X N' scope C fp s2 H2) ifs tt) (he:∀C fp s2 H2 xe,nA (aK X.prog X.w) ((gU X N' scope C fp s2 H2).UH xe) E->PE ((gU X N' scope C fp s2 H2).UH xe) elt te)
  (I:Inv X pins σ H s) (h:vC k js wi g tt te σ H Q)
  (fin:∀(C D:OS) (s':OU) (m:Pj->Option OR) (H':Hp) (ys:List V),s'.heap.Ns C m->C≠X.env.locals->C∉X.fs->D≠C->H' C=Zi->X.s₀.heap.objs.size<=C->(∀x c,X.env.cells.lookup x=Zh c->c≠C)->(∀p∈X.pn++pins,p.1≠C)->(∀h',Pr C s'.heap h'->Inv X pins σ (upd H' D<|.lst ys) { s' with heap:=h' })->Q (.ref D) (upd H' D<|.lst ys)-> compPost (Pd X.prog X.w) X.A X.xe use Q' (.ref D) C (.ok .next) s')
  (hs:∀x,P7 iter X.env x=pure x) (Z:RC):
  OZ (Pd X.prog X.w) X.A (comprehension (.ListComp elt [#[tg,iter,ifs,0]] scope pos) scope X.env Z (newList []) Zk (eval iter X.env) use) Q' X.xe s:=
 lU z hc hi hg ht (λs2 _ _ H2 fp I2 f2=>he _ fp s2 H2 _ λO aa H5 s5 e s' I5 U=>tD J hx I2 f2 (kR _) I5.UB U) I h fin hs Z
theorem IC(J:X.stack=X.env::X.outer/\X.env.frame=Zh X.env.locals)(hx:∀e s',XF X E e s'->X.xe e s')(z:X.calm=X.calm)(hc:AQ X.N X.env.scope k js N' scope=Zj)(hi:PI X tg iter wi)
  (hg:∀C fp s2 H2,PG (gU X N' scope C fp s2 H2) tg g) (U:∀C fp s2 H2,pY (gU X N' scope C fp s2 H2) ifs tt) (Z:∀C fp s2 H2 xe,nA (aK X.prog X.w) ((gU X N' scope C fp s2 H2).UH xe) E->PE ((gU X N' scope C fp s2 H2).UH xe) elt te)
  (hs:∀x,P7 iter X.env x=pure x:=by intro _;rfl):PE X (.ListComp elt [#[tg,iter,ifs,0]] scope pos)<|vC k js wi g tt te:=by
 intro pins s σ H Q I h;rw[eval_ListComp];refine lT J hx (use:=Zi) z (vp hc) hi hg U Z I h (λC D s' m H' ys hn _ _ _ _ _ _ _ E q=>?_) hs _;exact#[m,hn,λh' O=>#[.ref D,_,E h' O,rfl,q]]
theorem qG(aa:X.stack=X.env::X.outer/\X.env.frame=Zh X.env.locals)(ad:∀e s',XF X E e s'->X.xe e s'){px U:RC}(hN:X.N.Nodup)(ae:X.N[i]?=Zh x)(hx:Loc X.env.scope x)(Z:X.calm=X.calm)(hc:AQ X.N X.env.scope k js N' scope=Zj)(hi:PI X tg iter wi)
  (hg:∀C fp s2 H2,PG (gU X N' scope C fp s2 H2) tg g) (ht:∀C fp s2 H2,pY (gU X N' scope C fp s2 H2) ifs tt) (he:∀C fp s2 H2 xe,nA (aK X.prog X.w) ((gU X N' scope C fp s2 H2).UH xe) E->PE ((gU X N' scope C fp s2 H2).UH xe) elt te)
  (hs:∀x,P7 iter X.env x=pure x:=by intro _;rfl) (af:RA (.ListComp elt [#[tg,iter,ifs,0]] scope pos) (Zh<|.Name x px) U.line X.env=pure Zj:=by rfl)
  (hf:X.fn x=Zj∨X.env.scope.names.lookup x=Zh .local:=by first|exact .inl rfl|exact .inr rfl|assumption):
  PS X (.Assign [.Name x px] (.ListComp elt [#[tg,iter,ifs,0]] scope pos) U)<|sx (vC k js wi g tt te)<|xk i:=by
 intro pins s σ H D I h;rw[exec_Assign_Name_used _ _ _ _ af];refine OQ<|QC<|OQ ?_;show OZ _ X.A (do let _ <- comprehension (.ListComp elt [#[tg,iter,ifs,0]] scope pos) scope X.env _ (newList []) Zk (eval iter X.env) (Zh<|assign (.Name x px) X.env)) _ _ s;refine OQ<|Pu (lT aa ad (use:=Zh<|assign (.Name x px) X.env) (Q':=λ_ s'=>SP X pins D .next s') Z (vp hc) hi hg ht he I h (λC Dd s' m H' ys hn c1 c2 c3 c4 c5 c6 c7 E q=>?_) hs _) (λ_ s' hq=>OV<|OV hq) λ_ _ e=>e;have J:=E s'.heap (.refl ..);obtain⟨oC,es,ep,eC,dC,rC⟩:=id hn;have J':Inv X (pins++[(C,oC)]) σ (upd H' Dd<|.lst ys) s':=J.UW λp hp=>by
  rcases gZ.mp hp with z|z
  .exact J.pin p (fN _ z)
  .have e':p=(C,oC):=by simpa using z
   subst e';refine#[eC,?_,c1,c2,λv z=>?_]
   .show upd H' Dd _ C=Zi;rw[aO<|Pe c3];exact c4
   .have z':oC.data=.cell v:=z;rw[dC] at z';cases z'
 show OZ _ X.A (assign (.Name x px) X.env<|.ref Dd) _ _ _;refine TK<|Hd (Q:=λ_ O=>∃m,O.heap.Ns C m/\∀h',Pr C O.heap h'->SP X pins D .next { O with heap:=h' }) J' hN ae hx (v:=.ref Dd) (u:=.ref Dd) rfl (λO K'=>?_) hf;obtain⟨e2,n2,_,_,_⟩:=K'.pin (C,oC)<|fN _<|fN _ aZ;dsimp only at e2 n2;refine#[m,#[oC,es,ep,e2,dC,rC],λh' ac=>#[_,_,K'.UM.turned (it:=C) (t':=O.toks) (λb o hb e=>(ac.2 b hb).trans e) n2 c1 (.inr c5) c6 c7,q]]
theorem XF.UB{z:OR->OU->Prop}{e:OR}(h:XF (X.UH z) E e s'):XF X E e s':=by
 obtain⟨pins,σ,H1,s1,ea,cls,dd,H',B,a0,fl,rfl,I,r⟩:=h;exact#[pins,σ,H1,s1,ea,cls,dd,H',B,a0,fl,rfl,I.UB,r]
end
open PySem
structure gY(K:W.Frag)(C:OS)(x:Pj)(f:OS)(F:Prop):Prop where
 a:W.findIn K (.ref C) x=Zh (Zh<|.ref f)
 i:SQ K (.ref f)=Zj
 F:F
 k:W.keepIn K (.ref f)=Zj
structure jC(K:W.Frag)(x:Pj)(f:OS)(F:Prop):Prop where
 a:W.nsIn K Ph x=Zh (Zh<|.ref f)
 F:F
 k:W.keepIn K (.ref f)=Zj
theorem bC{a:P1}(ha:PE X a ta)(h:Pb [a] X.env=(Zk,eval a X.env)::Pb [] X.env:=by rfl):PA X [a]<|lX ta gR:=Aj ha AH h
theorem cG{a b:P1}(ha:PE X a ta)(z:PE X b tb)(h:Pb [a,b] X.env=(Zk,eval a X.env)::Pb [b] X.env:=by rfl)(h2:Pb [b] X.env=(Zk,eval b X.env)::Pb [] X.env:=by rfl):PA X [a,b]<|lX ta<|lX tb gR:=Aj ha (bC z h2) h
theorem jE{a b c:P1}{tc:TE}(ha:PE X a ta)(z:PE X b tb)(hc:PE X c tc)(h:Pb [a,b,c] X.env=(Zk,eval a X.env)::Pb [b,c] X.env:=by rfl)(h2:Pb [b,c] X.env=(Zk,eval b X.env)::Pb [c] X.env:=by rfl)(h3:Pb [c] X.env=(Zk,eval c X.env)::Pb [] X.env:=by rfl):PA X [a,b,c]<|lX ta<|lX tb<|lX tc gR:=Aj ha (cG z hc h2 h3) h
theorem aY.mn{j k:Nat}{A:Py}(r:aY k A)(h:j<=k:=by decide):aY j A:=r.mono h
theorem Jt{c:Int}{Q:Int->Prop}(h:Q c):wu (.int c) Q:=h
theorem jZ{c:Bool}{Q:Bool->Prop}(h:Q c):BR (.bl c) Q:=h
theorem CO{g:Int->Int->V}{i j:Int}(h:Q (g i j) H):yA g (.int i) (.int j) H Q:=h
theorem xT:gQ 1 (a0::Zh v::σ) H Q=Q v H:=rfl
theorem xS:gQ 2 (a0::a1::Zh v::σ) H Q=Q v H:=rfl
theorem xR:gQ 3 (a0::a1::a2::Zh v::σ) H Q=Q v H:=rfl
theorem xQ:gQ 4 (a0::a1::a2::a3::Zh v::σ) H Q=Q v H:=rfl
theorem xP:gQ 5 (a0::a1::a2::a3::a4::Zh v::σ) H Q=Q v H:=rfl
theorem xO:gQ 6 (a0::a1::a2::a3::a4::a5::Zh v::σ) H Q=Q v H:=rfl
theorem xN:gQ 7 (a0::a1::a2::a3::a4::a5::a6::Zh v::σ) H Q=Q v H:=rfl
theorem xM:gQ 8 (a0::a1::a2::a3::a4::a5::a6::a7::Zh v::σ) H Q=Q v H:=rfl
theorem xK:gQ 9 (a0::a1::a2::a3::a4::a5::a6::a7::a8::Zh v::σ) H Q=Q v H:=rfl
theorem t6:gQ 10 (a0::a1::a2::a3::a4::a5::a6::a7::a8::a9::Zh v::σ) H Q=Q v H:=rfl
theorem tZ{a10:Option V}:gQ 11 (a0::a1::a2::a3::a4::a5::a6::a7::a8::a9::a10::Zh v::σ) H Q=Q v H:=rfl
theorem tY{a10 a11:Option V}:gQ 12 (a0::a1::a2::a3::a4::a5::a6::a7::a8::a9::a10::a11::Zh v::σ) H Q=Q v H:=rfl
open PySem
def Le(u t:TS):Prop:=∀D σ H,u D σ H->t D σ H
theorem bM{body:List PM}{u:TS}{R:TS->Prop}(k:Nat)(d:kN X (body.drop k) u)(h:∀t,kN X (body.drop k) t->Le u t->∃t,kN X body t/\R t):∃t,kN X body t/\R t:=h u d λ_ _ _ x=>x
theorem bN{u t:TS}{D:Ends}(h:u D σ H)(e:Le u t:=by assumption):t D σ H:=e _ _ _ h
theorem NH(h:l.length=0):l=[]:=Az.mp h
theorem se(h:l.length=1):∃a0,l=[a0]:=by
 cases l with
 |nil=>cases h
 |cons a l=>
  obtain rfl:=NH (l:=l)<|Rr h;exact#[a,rfl]
theorem mD(h:l.length=2):∃a0 a1,l=[a0,a1]:=by
 cases l with
 |nil=>cases h
 |cons a l=>
  obtain⟨z,rfl⟩:=se (l:=l)<|Rr h;exact#[a,z,rfl]
theorem jJ(h:l.length=3):L2.X3 λa0 a1 a2=>l=[a0,a1,a2]:=by
 cases l with
 |nil=>cases h
 |cons a l=>
  obtain⟨J,z,rfl⟩:=mD (l:=l)<|Rr h;exact#[a,J,z,rfl]
theorem vU(h:l.length=4):L2.X4 λa0 a1 a2 a3=>l=[a0,a1,a2,a3]:=by
 cases l with
 |nil=>cases h
 |cons a l=>
  obtain⟨J,z,O,rfl⟩:=jJ (l:=l)<|Rr h;exact#[a,J,z,O,rfl]
theorem NG(h:l.length=5):L2.X5 λa0 a1 a2 a3 a4=>l=[a0,a1,a2,a3,a4]:=by
 cases l with
 |nil=>cases h
 |cons a l=>
  obtain⟨O,z,U,J,rfl⟩:=vU (l:=l)<|Rr h;exact#[a,O,z,U,J,rfl]
def t8(t u:TE):TE:=λσ H Q=>t σ H Q∨u σ H Q
theorem nW{t u:TE}(h:PE X e t)(k:PE X e u):PE X e<|t8 t u:=λpins s σ H Q I z=>z.elim (h pins s σ H Q I)<|k pins s σ H Q I
section
variable {d:P1}{te td:TE}{p:RC}{kpos:RC}
def Ld(K:W.Frag)(te td:TE):TE:=λσ H Q=>te σ H λx H1=>td σ H1 λy H2=>∃a ns,x=.ref a/\y=.bl Zj/\aB K H2 a (ns.map V.int)/\ns.length<64/\∀(l:OS) (ms:List Int),H2 l=Zi->ms.Perm ns->ms.Pairwise (·≥·)->Q (.ref l) (upd H2 l<|.lst<|ms.map V.int)
theorem yJ(U:PE X e te)(hd:PE X d td)(hg:Gl X "sorted")(hm:X.mg "sorted"=Zi)
  (h1:Pb [e] X.env=(Zk,eval e X.env)::Pb [] X.env:=by rfl) (h2:Qd pos (Pb [e] X.env)=(Zk,eval e X.env)::Qd pos (Pb [] X.env):=by rfl)
  (h3:(Qd pos<|Pb [e] X.env).any (·.1)=Zk:=by rfl) (h4:(Rn pos<|QA [#[Zh "reverse",d,kpos]] X.env).all (·.1.isSome)=Zj:=by rfl)
  (h5:(Rn pos<|QA [#[Zh "reverse",d,kpos]] X.env).any (·.1.isNone)=Zk:=by rfl):
  PE X (.Call (.Name "sorted" p) [e] [#[Zh "reverse",d,kpos]] pos)<|Ld X.K te td:=by
 intro pins s σ H Q I h;refine Qk (D4 I hg hm QK ?_ (by decide)<|by decide);refine PyProof.Rows.callWith_kw ?_ h2 h3 h4 h5;rw[h1];show OZ _ _ (spliced<|(Zk,eval e X.env)::Qd pos (Pb [] X.env)) _ _ s;refine Calls.spliced_cons<|thn (U pins s σ H _ I h) λu s1 zz=>?_;obtain⟨x,H1,I1,r1,q1⟩:=zz;refine Calls.spliced_nil ?_;have O:lX td gR σ H1 (λzs H2=>match zs with|[y]=>∃a ns,x=.ref a/\y=.bl Zj/\aB X.K H2 a (ns.map V.int)/\ns.length<64/\∀(l:OS) (ms:List Int),H2 l=Zi->ms.Perm ns->ms.Pairwise (·≥·)->Q (.ref l) (upd H2 l<|.lst<|ms.map V.int)|_=>False):=q1;refine thn (BI (nm:=Zh "reverse") (kpos:=kpos) hd (E3 (X:=X)) pos pins s1 σ H1 _ I1 O) λkvs s2 zz=>?_;obtain⟨zs,H2,Z,r2,q2⟩:=zz
 match zs,r2,q2 with
 |[y],.cons ry .nil,⟨a,ns,ex,ey,hS,hn,q⟩=>
  subst ex ey;cases r1;cases ry;obtain⟨its,rv,pl,_⟩:=Z.list hS;have J:=rv.length;rw[aM] at J;refine sorted_ints_rev (b:=Zj) pl.isList (intsAre_of rv) ∅ λout z a1 a2 a3=>?_;obtain⟨e,U⟩:=sortedAll_at s2.heap its out;have aa:z.length=ns.length:=a2.length_eq;refine#[.ref<|s2.heap.objs.size+1,_,Z.laid (t':=s2.toks) (λb o e=>sortedAll_old e) (kR _) (o:=.lst<|z.map V.int) ⟨?_,out.toList,e,J4 a1,by simpa using U⟩,rfl,q _ z (Z.Uz.fresh<|kR _) a2 a3];rw[aM];exact cP<|∅
end
end L2
namespace Gr
noncomputable def qt(m a:Int)(p:Nat):Int:=a*2^p/(2*m)
structure IsG(m a b:Int)(g:Nat):Prop where
 pos:1<=g
 eq:∀q,1<=q->q<g->qt m a q=qt m b q
 ne:qt m a g≠qt m b g
theorem p2pos(p:Nat):(0:Int)<2^p:=Int.pow_pos<|by decide
theorem IsG.uniq{m a b:Int}{g h:Nat}(x:IsG m a b g)(y:IsG m a b h):g=h:=by
 rcases Nat.lt_trichotomy g h with l|l|l
 .exact absurd (y.eq g x.pos l) x.ne
 .exact l
 .exact absurd (x.eq h y.pos l) y.ne
theorem qt_ne{m a b:Int}{p:Nat}(hm:0<m)(z:a+2<=b)(J:m<=2^p):qt m a p≠qt m b p:=by
 unfold qt;have h1:a*2^p+2*m<=b*2^p:=by
  have:(a+2)*2^p<=b*2^p:=Int.mul_le_mul_of_nonneg_right z<|Int.le_of_lt<|p2pos p;rw[Int.add_mul] at this;lia
 have h2:(a*2^p+2*m)/(2*m)<=b*2^p/(2*m):=Int.ediv_le_ediv ∅ h1;rw[Int.add_ediv_of_dvd_right<|Int.dvd_refl _,Int.ediv_self<|∅] at h2;lia
end Gr
namespace Pw
variable {f k pl stop x y z:Nat}{B l r:List Nat}{fal:Bool}
noncomputable abbrev A3:=Nat×Nat×Bool
variable {pr':List A3}
inductive Pg(α:Type) where
 |ret (a:α):Pg α
 |ask (p q:Nat) (k:Bool->Pg α):Pg α
noncomputable def Pg.bind{α β:Type}(f:α->Pg β):Pg α->Pg β
 |.ret a=>f a
 |.ask p q k=>.ask p q λb=>(k b).bind f
noncomputable def U4{α:Type}(p q:Nat)(k:Bool->Pg α):Pg α:=.ask (max p q) (min p q) λb=>k (if q<p then b else !b)
noncomputable def Pg.run{α:Type}(An:Nat->Nat->Nat->Bool):Nat->Pg α->α×List A3
 |_,.ret a=>(a,[])
 |n,.ask p q k=>(((k<|An n p q).run An<|n+1).1,(p,q,An n p q)::((k<|An n p q).run An<|n+1).2)
section
variable {α β:Type}{n:Nat}{An:Nat->Nat->Nat->Bool}
def Wp(n:Nat)(An:Nat->Nat->Nat->Bool):Pg α->List A3->(α->List A3->Prop)->Prop
 |.ret a,pr,post=>post a pr
 |.ask p q k,pr,post=>q<p/\p<n/\pr.length<=800000/\Wp n An (k<|An pr.length p q) (pr++[(p,q,An pr.length p q)]) post
theorem Wp.imp{P Q:α->List A3->Prop}:∀{x:Pg α} {pr:List A3},Wp n An x pr P->(∀a pr',P a pr'->Q a pr')->Wp n An x pr Q
 |.ret a,pr,h,f=>f a pr h
 |.ask p q k,pr,h,f=>#[h.1,h.2.1,h.2.2.1,h.2.2.2.imp f]
def Pg.Al:Pg α->(α->Prop)->Prop
 |.ret a,P=>P a
 |.ask _ _ k,P=>∀b,(k b).Al P
theorem Pg.Al.imp{P Q:α->Prop}:∀{x:Pg α},x.Al P->(∀a,P a->Q a)->x.Al Q
 |.ret a,h,f=>f a h
 |.ask _ _ k,h,f=>λb=>(h b).imp f
theorem Pg.Al.bind{f:α->Pg β}{P:β->Prop}:∀{x:Pg α},(x.Al λa=>(f a).Al P)->(x.bind f).Al P
 |.ret a,h=>h
 |.ask _ _ k,h=>λb=>Pg.Al.bind<|h b
def Wa(n:Nat):Pg α->List A3->(α->List A3->Prop)->Prop
 |.ret a,pr,post=>post a pr
 |.ask p q k,pr,post=>q<p/\p<n/\pr.length<=800000/\∀b,Wa n (k b) (pr++[(p,q,b)]) post
theorem Wa.imp{P Q:α->List A3->Prop}:∀{x:Pg α} {pr:List A3},Wa n x pr P->(∀a pr',P a pr'->Q a pr')->Wa n x pr Q
 |.ret a,pr,h,f=>f a pr h
 |.ask p q k,pr,h,f=>#[h.1,h.2.1,h.2.2.1,λb=>(h.2.2.2 b).imp f]
theorem Wa.bind{f:α->Pg β}{P:β->List A3->Prop}:∀{x:Pg α} {pr:List A3},(Wa n x pr λa pr'=>Wa n (f a) pr' P)->Wa n (x.bind f) pr P
 |.ret a,pr,h=>h
 |.ask p q k,pr,h=>#[h.1,h.2.1,h.2.2.1,λb=>Wa.bind<|h.2.2.2 b]
theorem Wa.UU{P:α->List A3->Prop}{Q:α->Prop}:∀{x:Pg α} {pr:List A3},Wa n x pr P->x.Al Q->Wa n x pr λa pr'=>Q a/\P a pr'
 |.ret a,pr,h,g=>#[g,h]
 |.ask p q k,pr,h,g=>#[h.1,h.2.1,h.2.2.1,λb=>(h.2.2.2 b).UU<|g b]
theorem Wa.wp(An:Nat->Nat->Nat->Bool){P:α->List A3->Prop}:∀{x:Pg α} {pr:List A3},Wa n x pr P->Wp n An x pr λa pr'=>P a pr'/\(a,pr')=((x.run An pr.length).1,pr++(x.run An pr.length).2)
 |.ret a,pr,h=>#[h,by rw[Pg.run,iG]]
 |.ask p q k,pr,h=>by
  refine#[h.1,h.2.1,h.2.2.1,(Wa.wp An<|h.2.2.2 _).imp λa pr' z=>#[z.1,?_]];have e:(pr++[(p,q,An pr.length p q)]).length=pr.length+1:=by rw[aQ];rfl
  rw[z.2,Pg.run,e,fL];rfl
theorem qx{P:α->List A3->Prop}(An:Nat->Nat->Nat->Bool):∀{x:Pg α} {pr:List A3},Wa n x pr P->P (x.run An pr.length).1 (pr++(x.run An pr.length).2)
 |.ret a,pr,h=>by rw[Pg.run,iG];exact h
 |.ask p q k,pr,h=>by
  have:=qx An<|h.2.2.2<|An pr.length p q;rw[aQ,fM,fL] at this;rw[Pg.run];exact this
theorem IE(h:∀k z p q,An k p q=An z p q):∀(x:Pg α) (k z:Nat),x.run An k=x.run An z
 |.ret a,k,z=>rfl
 |.ask p q f,k,z=>by rw[Pg.run,Pg.run,h k z p q,IE h _ (k+1)<|z+1]
end
def Td(pr:List A3)(p q:Nat):Prop:=∃b,(max p q,min p q,b)∈pr/\(if q<p then b else !b)=Zj
theorem Td.mono{pr:List A3}{p q:Nat}(h:Td pr p q)(f:pr<+:pr'):Td pr' p q:=let ⟨b,h1,h2⟩:=h;#[b,f.subset h1,h2]
theorem Wa.U4{α:Type}{n p q:Nat}{pr:List A3}{k:Bool->Pg α}{P:α->List A3->Prop}(J:p≠q)(O:p<n)(U:q<n)(hl:pr.length<=800000)
  (h:∀b pr',pr<+:pr'->pr'.length=pr.length+1->(b=Zj->Td pr' p q)->(b=Zk->Td pr' q p)->Wa n (k b) pr' P):Wa n (U4 p q k) pr P:=by
 refine#[∅,∅,hl,λb=>h _ _ (Q2 _ _) (by rw[aQ];rfl) (λz=>#[b,fN _ aZ,z]) λz=>#[b,fN _ (by rw[show max q p=max p q by lia,show min q p=min p q by lia];exact aZ),?_]];by_cases c:q<p
 .rw [Z9 c] at z;rw[Z8<|∅,z];rfl
 .rw [Z8 c] at z;rw[Z9<|∅];cases b
  .cases z
  .rfl
def Nb(R:Nat->Nat->Prop):List Nat->Prop
 |[]=>True
 |[_]=>True
 |a::b::l=>R a b/\Nb R (b::l)
theorem Nb.mono{R S:Nat->Nat->Prop}(f:∀a b,R a b->S a b):∀{l:List Nat},Nb R l->Nb S l
 |[],_=>trivial
 |[_],_=>trivial
 |_::_::_,h=>#[f _ _ h.1,Nb.mono f h.2]
theorem Nb.split{R:Nat->Nat->Prop}{x:Nat}{r:List Nat}:∀{l:List Nat},Nb R (l++x::r)↔Nb R (l++[x])/\Nb R (x::r)
 |[]=>#[λh=>#[trivial,h],λh=>h.2]
 |[a]=>#[λh=>#[#[h.1,trivial],h.2],λh=>#[h.1.1,h.2]]
 |a::b::l=>#[λh=>#[#[h.1,(Nb.split (l:=b::l).mp h.2).1],(Nb.split (l:=b::l).mp h.2).2],λh=>#[h.1.1,(Nb.split (l:=b::l)).mpr #[h.1.2,h.2]]]
theorem Nb.left{R:Nat->Nat->Prop}(h:Nb R<|l++r):Nb R l:=by
 induction l with
 |nil=>exact trivial
 |cons a l ih=>
  cases l with
  |nil=>exact trivial
  |cons b l=>exact#[h.1,ih h.2]
theorem Nb.right{R:Nat->Nat->Prop}{r:List Nat}:∀{l:List Nat},Nb R (l++r)->Nb R r
 |[],h=>h
 |[a],h=>by
  cases r with
  |nil=>exact trivial
  |cons b r=>exact h.2
 |a::b::l,h=>Nb.right (l:=b::l) h.2
theorem Nb.two{R:Nat->Nat->Prop}:Nb R (l++x::y::r)↔Nb R (l++[x])/\R x y/\Nb R (y::r):=Nb.split
theorem Nb.rev{R:Nat->Nat->Prop}:∀{l:List Nat},Nb (λa b=>R b a) l->Nb R l.reverse
 |[],_=>trivial
 |[_],_=>trivial
 |a::b::l,h=>by
  have:=Nb.rev h.2;rw[GH] at this;rw[GH,GH,fL];exact Nb.two.mpr #[this,h.1,trivial]
noncomputable abbrev Nt(pr:List A3):List Nat->Prop:=Nb<|Td pr
theorem Nt.mono{pr:List A3}(h:Nt pr l)(f:pr<+:pr'):Nt pr' l:=Nb.mono (λ_ _ z=>z.mono f) h
noncomputable def pT(os:List Nat)(pl:Nat):Nat->Nat->Nat->Pg (Nat×Nat)
 |0,lo,hi=>.ret (lo,hi)
 |n+1,lo,hi=>if hi<os.length then U4 (os.getD hi 0) pl λb=>if b then pT os pl n (hi+1) (2*hi+1) else .ret (lo,hi) else .ret (lo,hi)
noncomputable def iD(os:List Nat)(pl:Nat):Nat->Nat->Nat->Pg Nat
 |0,_,hi=>.ret hi
 |n+1,lo,hi=>if lo<hi then U4 (os.getD ((lo+hi-1)/2) 0) pl λb=>if b then iD os pl n ((lo+hi-1)/2+1) hi else iD os pl n lo ((lo+hi-1)/2) else .ret hi
noncomputable def GW(os:List Nat)(pl:Nat):Pg Nat:=(pT os pl os.length 0 0).bind λr=>iD os pl os.length r.1<|min r.2 os.length
noncomputable def vy:Nat->Bool->Nat->List Nat->List Nat->List Nat->Pg (List Nat)
 |n+1,s,w,x::l,y::r,acc=>U4 x y λb=>
  if (if b=s then w+1 else 1)=4 then
   if b then(GW l y).bind λk=>if k<l.length then vy n b 0 (l.drop k) r (acc++x::l.take k++[y]) else vy n b 0 (l.drop k) (y::r) (acc++x::l.take k)
   else(GW r x).bind λk=>if k<r.length then vy n b 0 l (r.drop k) (acc++y::r.take k++[x]) else vy n b 0 (x::l) (r.drop k) (acc++y::r.take k)
  else if b then vy n b (if b=s then w+1 else 1) l (y::r) (acc++[x]) else vy n b (if b=s then w+1 else 1) (x::l) r (acc++[y])
 |_,_,_,l,r,acc=>.ret<|acc++l++r
noncomputable def G8(l r:List Nat):Pg<|List Nat:=vy (l.length+r.length) Zj 0 l r []
noncomputable def AB(os:List Nat)(pl:Nat):Nat->Nat->Nat->Pg Nat
 |0,lo,_=>.ret lo
 |n+1,lo,hi=>if lo<hi then U4 (os.getD ((lo+hi)/2) 0) pl λb=>if b then AB os pl n ((lo+hi)/2+1) hi else AB os pl n lo ((lo+hi)/2) else .ret lo
noncomputable def vB(os:List Nat)(pl:Nat):Pg Nat:=AB os pl os.length 0 os.length
noncomputable def gT(os:List Nat)(r x:Nat):List Nat:=os.take r++x::os.drop r
noncomputable def iY(sp:List Nat->Nat->Pg Nat):Nat->Nat->List Nat->Pg (List Nat)
 |0,_,os=>.ret os
 |n+1,pl,os=>(sp os pl).bind λr=>iY sp n (pl+1)<|gT os r pl
noncomputable def pQ(stop:Nat)(fal:Bool):Nat->Nat->Pg (Nat×Bool)
 |0,by'=>.ret (by',fal)
 |n+1,by'=>if by'<stop then U4 by' (by'-1) λb=>if b=fal then pQ stop fal n (by'+1) else .ret (by',fal) else .ret (by',fal)
noncomputable def sy(stop first:Nat):Pg<|Nat×Bool:=if first+1<stop then U4 (first+1) first λb=>pQ stop b stop (first+2) else .ret (first+1,Zk)
noncomputable def cZ(a b:Nat)(f:Bool):List Nat:=if f then(Pz a<|b-a).reverse else Pz a (b-a)
noncomputable def vc(ls stop first:Nat):Pg<|Nat×List Nat:=(sy stop first).bind λr=>(iY vB (min (first+ls) stop-r.1) r.1<|cZ first r.1 r.2).bind λos=>.ret (r.1,os)
section
variable {n:Nat}{pr:List A3}
def In(n:Nat)(os:List Nat)(pl:Nat):Prop:=∀x∈os,x<n/\x≠pl
theorem oX{os:List Nat}{i:Nat}(h:i<os.length):os[i]?=Zh (os.getD i 0)/\os.getD i 0∈os:=by
 rw[fC,bV h];exact#[rfl,R5 h]
structure Bd(pr:List A3)(os:List Nat)(pl lo hi:Nat):Prop where
 lo:lo=0∨Td pr (os.getD (lo-1) 0) pl
 hi:os.length<=hi∨Td pr pl (os.getD hi 0)
theorem uZ{os:List Nat}{pl:Nat}(J:In n os pl)(O:pl<n):∀(m lo hi:Nat) (pr:List A3),os.length<=m+hi->lo<=hi->hi<=2*lo->lo<=os.length->Bd pr os pl lo os.length->pr.length+2*os.length<=800000+lo->Wa n (pT os pl m lo hi) pr λr pr'=>pr<+:pr'/\r.1<=r.2/\r.2<=2*r.1/\r.1<=os.length/\Bd pr' os pl r.1 r.2/\pr'.length+lo<=pr.length+r.1+1
 |0,lo,hi,pr,hm,h1,h2,h3,b,c=>#[fK _,h1,h2,h3,#[b.lo,.inl<|∅],∅]
 |m+1,lo,hi,pr,hm,h1,h2,h3,b,c=>by
  rw[pT.eq_2];by_cases z:hi<os.length
  .rw [Z9 z];obtain⟨g1,U⟩:=oX z;refine Wa.U4 (J _ U).2 (J _ U).1 O ∅ λb' pr' f1 l1 Z t2=>?_;cases b'
   .exact #[f1,h1,h2,h3,#[b.lo.imp id λz=>z.mono f1,.inr<|t2 rfl],∅]
   .refine (uZ J O m (hi+1) (2*hi+1) pr' ∅ ∅ ∅ ∅ #[.inr<|Z rfl,.inl<|aN _]<|∅).imp λr pr2 h=>#[f1.trans h.1,h.2.1,h.2.2.1,h.2.2.2.1,h.2.2.2.2.1,?_]
    have:=h.2.2.2.2.2;lia
  .rw [Z8 z];exact#[fK _,h1,h2,h3,#[b.lo,.inl<|∅],∅]
theorem KO{os:List Nat}{pl:Nat}(J:In n os pl)(O:pl<n):∀(m lo hi:Nat) (pr:List A3),hi-lo<=m->lo<=hi->hi<=os.length->Bd pr os pl lo hi->pr.length+(hi-lo)<=800000->Wa n (iD os pl m lo hi) pr λr pr'=>pr<+:pr'/\lo<=r/\r<=hi/\Bd pr' os pl r r/\pr'.length<=pr.length+(hi-lo)
 |0,lo,hi,pr,hm,h1,h2,b,c=>by
  have:lo=hi:=∅
  subst this;exact#[fK _,h1,h1,b,∅]
 |m+1,lo,hi,pr,hm,h1,h2,b,c=>by
  rw[iD.eq_2];by_cases z:lo<hi
  .rw [Z9 z];have U:lo<=(lo+hi-1)/2:=∅
   have Z:(lo+hi-1)/2<hi:=∅
   generalize (lo+hi-1)/2=mi at U Z;obtain⟨g1,g2⟩:=oX (os:=os) (i:=mi) ∅;refine Wa.U4 (J _ g2).2 (J _ g2).1 O ∅ λb' pr' f1 l1 t1 t2=>?_;cases b'
   .refine (KO J O m lo mi pr' ∅ ∅ ∅ #[b.lo.imp id λz=>z.mono f1,.inr<|t2 rfl]<|∅).imp λr pr2 h=>#[f1.trans h.1,h.2.1,?_,h.2.2.2.1,?_]
    .have:=h.2.2.1;lia
    .have:=h.2.2.2.2;lia
   .refine (KO J O m (mi+1) hi pr' ∅ ∅ ∅ #[.inr<|t1 rfl,b.hi.imp id λz=>z.mono f1]<|∅).imp λr pr2 h=>#[f1.trans h.1,?_,h.2.2.1,h.2.2.2.1,?_]
    .have:=h.2.1;lia
    .have:=h.2.2.2.2;lia
  .rw [Z8 z];have:lo=hi:=∅
   subst this;exact#[fK _,h1,h1,b,∅]
theorem q5{os:List Nat}(O:In n os pl)(J:pl<n)(c:pr.length+3*os.length+2<=800000):Wa n (GW os pl) pr λk pr'=>pr<+:pr'/\k<=os.length/\Bd pr' os pl k k/\pr'.length<=pr.length+2*k+1:=by
 refine Wa.bind<|(uZ O J os.length 0 0 pr ∅ (aN _) (aN _) (cQ _) #[.inl rfl,.inl<|aN _]<|∅).imp λr pr' h=>?_;obtain⟨f1,h1,h2,h3,b,h4⟩:=h;have U:Bd pr' os pl r.1<|min r.2 os.length:=#[b.lo,by
  by_cases z:r.2<os.length
  .rw [vQ<|∅];exact b.hi
  .exact .inl ∅]
 refine(KO O J os.length r.1 (min r.2 os.length) pr' ∅ ∅ ∅ U<|∅).imp λk pr2 h=>#[f1.trans h.1,?_,h.2.2.2.1,?_]
 .have:=h.2.2.1;lia
 .have g1:=h.2.2.2.2;have Z:=h.2.1;lia
theorem Nb.app{R:Nat->Nat->Prop}{A:List Nat}(h1:Nb R A)(h2:Nb R B)(h:∀J z u O,A=J++[z]->B=u::O->R z u):Nb R<|A++B:=by
 cases B with
 |nil=>rw[iG];exact h1
 |cons u B=>
  rcases Rj A with rfl|⟨J,z,rfl⟩
  .exact h2
  .rw [QH,fL];rw[QH] at h1 h;exact Nb.two.mpr #[h1,h J z u B rfl rfl,h2]
theorem JX{os A:List Nat}(J:k<=os.length)(h:os.take k=A++[z]):0<k/\z=os.getD (k-1) 0:=by
 have e:=congrArg PV h;rw[iF,aQ,fM] at e;refine#[∅,?_];have e2:(os.take k)[k-1]?=Zh z:=by rw[h,kE<|∅,show k-1-A.length=0 by lia];rfl
 rw[List.getElem?_take,Z9<|∅] at e2;rw[fC,e2];rfl
theorem IH{os:List Nat}(h:os.drop k=z::B):k<os.length/\z=os.getD k 0:=by
 have e:=congrArg PV h;rw[gP,cF] at e;refine#[∅,?_];have e2:(os.drop k)[0]?=Zh z:=by rw[h];rfl
 rw[AY,Sn] at e2;rw[fC,e2];rfl
theorem Nb.take{R:Nat->Nat->Prop}{os:List Nat}(h:Nb R os)(k:Nat):Nb R<|os.take k:=Nb.left (r:=os.drop k)<|by rw[qf];exact h
theorem Nb.drop{R:Nat->Nat->Prop}{os:List Nat}(h:Nb R os)(k:Nat):Nb R<|os.drop k:=Nb.right (l:=os.take k)<|by rw[qf];exact h
theorem JQ{A:List Nat}(h:A++[y]=B++[z]):y=z:=by
 have:=congrArg List.getLast? h;rw[List.getLast?_append,List.getLast?_append] at this;exact OX this
theorem uO{acc m t:List Nat}(h1:Nt pr<|acc++x::m)(h2:Nt pr<|acc++y::t)(O:Td pr x y)(hk:k<=m.length)(b:Bd pr m y k k):Nt pr (acc++x::m.take k++y::t)/\(k<m.length->Nt pr (acc++x::m.take k++[y]++m.drop k)):=by
 have e:acc++x::m=(acc++x::m.take k)++m.drop k:=by rw[fL,Eo,qf]
 rw[e] at h1;have hl:∀t',Nt pr (y::t')->Nt pr (acc++x::m.take k++y::t'):=λt' U=>Nb.app h1.left U λA z u B J e2=>by
  cases e2;rcases Rj (m.take k) with e3|⟨M,z',e3⟩
  .rw [e3] at J;rw[<- JQ J];exact O
  .rw [QH] at e3;obtain⟨k0,e4⟩:=JX hk e3;rw[e3,<- Eo,<- fL] at J;rw[<- JQ J,e4];rcases b.lo with z|z
   .lia
   .exact z
 refine#[hl t h2.right,λZ=>Nb.app (hl [] trivial) h1.right λA z u B J e2=>?_];rw[<- JQ J,(IH e2).2];rcases b.hi with z|z
 .lia
 .exact z
theorem Gu{A:List Nat}(h:∀c,A.count c=B.count c):A.Perm B:=List.perm_iff_count.mpr h
theorem Iv(l:List Nat)(k c:Nat):(l.take k).count c+(l.drop k).count c=l.count c:=by rw[<- ph,qf]
structure Tw(n:Nat)(A B:List Nat):Prop where
 l:∀x∈A,x<n
 r:∀x∈B,x<n
 d:∀x∈A,∀y∈B,x≠y
theorem Tw.sub{J r':List Nat}(h:Tw n l r)(h1:∀x∈J,x∈l)(h2:∀x∈r',x∈r):Tw n J r':=#[λx z=>h.l x<|h1 x z,λx z=>h.r x<|h2 x z,λx z y w=>h.d x (h1 x z) y<|h2 y w]
theorem Gj:∀(m:Nat) (s:Bool) (w:Nat) (l r acc:List Nat) (pr:List A3),l.length+r.length<=m->w<=3->Tw n l r->Nt pr (acc++l)->Nt pr (acc++r)->pr.length+5*(l.length+r.length)+w<=800000->
  Wa n (vy m s w l r acc) pr λos pr'=>os.Perm (acc++l++r)/\Nt pr' os/\pr<+:pr'/\pr'.length<=pr.length+2*(l.length+r.length)+w
 |0,s,w,l,r,acc,pr,hm,hw,t,n1,n2,c=>by
  have e1:l=[]:=Az.mp ∅;subst e1;refine#[.refl _,?_,fK _,∅];rw[iG];exact n2
 |m+1,s,w,[],r,acc,pr,hm,hw,t,n1,n2,c=>by
  refine#[.refl _,?_,fK _,∅];rw[iG];exact n2
 |m+1,s,w,x::l,[],acc,pr,hm,hw,t,n1,n2,c=>by
  refine#[.refl _,?_,fK _,∅];rw[iG];exact n1
 |m+1,s,w,x::l,y::r,acc,pr,hm,hw,t,n1,n2,c=>by
  rw[vy];simp only[cF] at hm c;have aa:=t.d x aZ y aZ;refine Wa.U4 aa (t.l x aZ) (t.r y aZ) ∅ λb pr1 f1 l1 t1 t2=>?_;replace n1:=n1.mono f1;replace n2:=n2.mono f1;have J:∀(os A L R:List Nat) (pr2:List A3) (k:Nat),os.Perm (A++L++R)->(∀c,(A++L++R).count c=(acc++x::l++y::r).count c)->os.Perm (acc++x::l++y::r):=λos A L R _ _ h1 h2=>h1.trans<|Gu h2;have Z:(if b=s then w+1 else 1)<=w+1:=by split<;>lia
  by_cases h4:(if b=s then w+1 else 1)=4
  .rw [Z9 h4];rw[h4] at Z;cases b
   .rw [Z8<|by decide];refine Wa.bind<|(q5 (os:=r) (pl:=x) (pr:=pr1) (λu z=>#[t.r u<|bF _ z,Pe<|t.d x aZ u<|bF _ z]) (t.l x aZ)<|∅).imp λk pr2 h=>?_;obtain⟨O,hk,bd,hc⟩:=h;obtain⟨g1,g2⟩:=uO (n2.mono O) (n1.mono O) ((t2 rfl).mono O) hk bd;have hd:(r.drop k).length=r.length-k:=gP ..;have U:=f1.trans O;have sub:∀u∈r.drop k,u∈y::r:=λu z=>bF _<|Eu z;have e2:acc++y::r.take k++r.drop k=acc++y::r:=by rw[fL,Eo,qf]
    by_cases W7:k<r.length
    .rw [Z9 W7];refine(Gj m Zk 0 l (r.drop k) _ pr2 ∅ (by decide) (t.sub (λu z=>bF _ z) sub) (by rw[fL];exact g1) (g2 W7)<|∅).imp λos pr3 h=>#[J os _ _ _ pr3 0 h.1 λc=>?_,h.2.1,U.trans h.2.2.1,?_]
     .have:=Iv r k c;simp only[ph,r0,El];lia
     .have:=h.2.2.2;simp only[cF];lia
    .rw [Z8 W7];refine(Gj m Zk 0 (x::l) (r.drop k) _ pr2 (by rw[cF];lia) (by decide) (t.sub (λu z=>z) sub) g1 (by rw[e2];exact n2.mono O)<|by rw[cF];lia).imp λos pr3 h=>#[J os _ _ _ pr3 0 h.1 λc=>?_,h.2.1,U.trans h.2.2.1,?_]
     .have:=Iv r k c;simp only[ph,r0,El];lia
     .have:=h.2.2.2;simp only[cF] at*;lia
   .rw [Z9 rfl];refine Wa.bind<|(q5 (os:=l) (pl:=y) (pr:=pr1) (λu z=>#[t.l u<|bF _ z,t.d u (bF _ z) y aZ]) (t.r y aZ)<|∅).imp λk pr2 h=>?_;obtain⟨O,hk,bd,hc⟩:=h;obtain⟨g1,g2⟩:=uO (n1.mono O) (n2.mono O) ((t1 rfl).mono O) hk bd;have hd:(l.drop k).length=l.length-k:=gP ..;have U:=f1.trans O;have sub:∀u∈l.drop k,u∈x::l:=λu z=>bF _<|Eu z;have e2:acc++x::l.take k++l.drop k=acc++x::l:=by rw[fL,Eo,qf]
    by_cases W7:k<l.length
    .rw [Z9 W7];refine(Gj m Zj 0 (l.drop k) r _ pr2 ∅ (by decide) (t.sub sub λu z=>bF _ z) (g2 W7) (by rw[fL];exact g1)<|∅).imp λos pr3 h=>#[J os _ _ _ pr3 0 h.1 λc=>?_,h.2.1,U.trans h.2.2.1,?_]
     .have:=Iv l k c;simp only[ph,r0,El];lia
     .have:=h.2.2.2;simp only[cF];lia
    .rw [Z8 W7];refine(Gj m Zj 0 (l.drop k) (y::r) _ pr2 (by rw[cF];lia) (by decide) (t.sub sub λu z=>z) (by rw[e2];exact n1.mono O) g1<|by rw[cF];lia).imp λos pr3 h=>#[J os _ _ _ pr3 0 h.1 λc=>?_,h.2.1,U.trans h.2.2.1,?_]
     .have:=Iv l k c;simp only[ph,r0,El];lia
     .have:=h.2.2.2;simp only[cF] at*;lia
  .rw [Z8 h4];generalize (if b=s then w+1 else 1)=w' at h4 Z⊢;cases b
   .rw [Z8<|by decide];refine(Gj m Zk w' (x::l) r (acc++[y]) pr1 (by rw[cF];lia) ∅ (t.sub (λu z=>z) λu z=>bF _ z) ?_ (by rw[fL];exact n2)<|by rw[cF];lia).imp λos pr3 h=>#[J os _ _ _ pr3 0 h.1 λc=>?_,h.2.1,f1.trans h.2.2.1,?_]
    .rw [fL];exact Nb.two.mpr #[(Nb.split.mp n2).1,t2 rfl,(Nb.split.mp n1).2]
    .simp only[ph,r0,El];lia
    .have:=h.2.2.2;simp only[cF] at*;lia
   .rw [Z9 rfl];refine(Gj m Zj w' l (y::r) (acc++[x]) pr1 (by rw[cF];lia) ∅ (t.sub (λu z=>bF _ z) λu z=>z) (by rw[fL];exact n1) ?_<|by rw[cF];lia).imp λos pr3 h=>#[J os _ _ _ pr3 0 h.1 λc=>?_,h.2.1,f1.trans h.2.2.1,?_]
    .rw [fL];exact Nb.two.mpr #[(Nb.split.mp n1).1,t1 rfl,(Nb.split.mp n2).2]
    .simp only[ph,r0,El];lia
    .have:=h.2.2.2;simp only[cF] at*;lia
theorem LL(t:Tw n l r)(n1:Nt pr l)(n2:Nt pr r)(c:pr.length+5*(l.length+r.length)<=800000):Wa n (G8 l r) pr λos pr'=>os.Perm (l++r)/\Nt pr' os/\pr<+:pr'/\pr'.length<=pr.length+2*(l.length+r.length):=
 (Gj _ Zj 0 l r [] pr (aN _) (by decide) t n1 n2 c).imp λ_ _ h=>h
theorem Jm{os:List Nat}{pl:Nat}(J:In n os pl)(O:pl<n):∀(m lo hi:Nat) (pr:List A3),hi-lo<=m->lo<=hi->hi<=os.length->Bd pr os pl lo hi->pr.length+(hi-lo)<=800000->Wa n (AB os pl m lo hi) pr λr pr'=>pr<+:pr'/\r<=hi/\Bd pr' os pl r r/\pr'.length<=pr.length+(hi-lo)
 |0,lo,hi,pr,hm,h1,h2,b,c=>by
  have:lo=hi:=∅
  subst this;exact#[fK _,h1,b,∅]
 |m+1,lo,hi,pr,hm,h1,h2,b,c=>by
  rw[AB.eq_2];by_cases z:lo<hi
  .rw [Z9 z];have U:lo<=(lo+hi)/2:=∅
   have Z:(lo+hi)/2<hi:=∅
   generalize (lo+hi)/2=mi at U Z;obtain⟨g1,g2⟩:=oX (os:=os) (i:=mi) ∅;refine Wa.U4 (J _ g2).2 (J _ g2).1 O ∅ λb' pr' f1 l1 t1 t2=>?_;cases b'
   .refine (Jm J O m lo mi pr' ∅ ∅ ∅ #[b.lo.imp id λz=>z.mono f1,.inr<|t2 rfl]<|∅).imp λr pr2 h=>#[f1.trans h.1,?_,h.2.2.1,?_]
    .have:=h.2.1;lia
    .have:=h.2.2.2;lia
   .refine (Jm J O m (mi+1) hi pr' ∅ ∅ ∅ #[.inr<|t1 rfl,b.hi.imp id λz=>z.mono f1]<|∅).imp λr pr2 h=>#[f1.trans h.1,h.2.1,h.2.2.1,?_]
    have:=h.2.2.2;lia
  .rw [Z8 z];have:lo=hi:=∅
   subst this;exact#[fK _,h1,b,∅]
theorem Ky{os:List Nat}{r:Nat}(h:Nt pr os)(O:r<=os.length)(b:Bd pr os pl r r):Nt pr<|gT os r pl:=by
 refine Nb.app (h.take r) (B:=[pl]++os.drop r) (Nb.app trivial (h.drop r) λA z u B J e2=>?_) λA z u B J e2=>?_
 .cases A with
  |nil=>
   cases J;rw[(IH e2).2];have:=(IH e2).1;rcases b.hi with z|z
   .lia
   .exact z
  |cons a A=>simp at J
 .cases e2;obtain⟨k0,e4⟩:=JX O J;rw[e4];rcases b.lo with z|z
  .lia
  .exact z
theorem bS{os:List Nat}{r:Nat}:(gT os r x).Perm<|os++[x]:=Gu λc=>by
 unfold gT;have:=Iv os r c;simp only[ph,r0,El];lia
theorem Eg(f k:Nat):Pz f (k+1)=Pz f k++[f+k]:=by rw[List.range'_concat];simp
theorem K3{f:Nat}:∀(m pl:Nat) (os:List Nat) (pr:List A3),os.Perm (Pz f<|pl-f)->f<=pl->pl+m<=n->n-f<=120->Nt pr os->pr.length+120*m<=800000->Wa n (iY vB m pl os) pr λos' pr'=>os'.Perm (Pz f<|pl+m-f)/\Nt pr' os'/\pr<+:pr'/\pr'.length<=pr.length+120*m
 |0,pl,os,pr,hp,hf,hn,hk,h,c=>#[hp,h,fK _,∅]
 |m+1,pl,os,pr,hp,hf,hn,hk,h,c=>by
  have hl:=hp.length_eq;rw[C9] at hl;have J:In n os pl:=λx hx=>by
   have:=Ek.mp<|hp.mem_iff.mp hx;lia
  refine Wa.bind<|(Jm J ∅ os.length 0 os.length pr ∅ (cQ _) (aN _) #[.inl rfl,.inl<|aN _]<|∅).imp λr pr' g=>?_;obtain⟨f1,g1,O,U⟩:=g;refine(K3 m (pl+1) (gT os r pl) pr' ?_ ∅ ∅ hk (Ky (h.mono f1) g1 O)<|∅).imp λos' pr2 z=>#[?_,z.2.1,f1.trans z.2.2.1,?_]
  .refine bS.trans ?_;rw[show pl+1-f=pl-f+1 by lia,Eg,show f+(pl-f)=pl by lia];exact hp.append_right _
  .rw [show pl+(m+1)-f=pl+1+m-f by lia];exact z.1
  .have:=z.2.2.2;lia
def Sf(pr:List A3)(f j:Nat)(fal:Bool):Prop:=Nb (λa b=>if fal then Td pr b a else Td pr a b)<|Pz f<|j-f
theorem Sf.turn{j:Nat}(h:Sf pr f j fal):Nt pr<|cZ f j fal:=by
 unfold cZ;cases fal
 .exact h
 .exact Nb.rev h
theorem Sf.snoc{j:Nat}(h:Sf pr f j fal)(g:pr<+:pr')(J:f<j)(t:if fal then Td pr' j (j-1) else Td pr' (j-1) j):Sf pr' f (j+1) fal:=by
 unfold Sf;rw[show j+1-f=(j-f-1)+1+1 by lia,Eg,Eg,fL];have e:Pz f (j-f)=Pz f (j-f-1)++[f+(j-f-1)]:=by rw[<- Eg,show j-f-1+1=j-f by lia]
 refine Nb.two.mpr #[?_,?_,trivial]
 .rw [<- e];refine Nb.mono (λa b z=>?_) h;cases fal
  .exact Td.mono z g
  .exact Td.mono z g
 .rw [show f+(j-f-1)=j-1 by lia,show f+(j-f-1+1)=j by lia];exact t
theorem uj{stop f:Nat}(O:stop<=n)(fal:Bool):∀(m j:Nat) (pr:List A3),stop<=m+j->f<j->j<=stop->Sf pr f j fal->pr.length+(stop-j)<=800000->Wa n (pQ stop fal m j) pr λr pr'=>pr<+:pr'/\j<=r.1/\r.1<=stop/\Sf pr' f r.1 r.2/\pr'.length<=pr.length+(r.1-j)+1
 |0,j,pr,hm,h1,h2,h3,c=>#[fK _,aN _,h2,h3,∅]
 |m+1,j,pr,hm,h1,h2,h3,c=>by
  rw[pQ.eq_2];by_cases z:j<stop
  .rw [Z9 z];refine Wa.U4 ∅ ∅ ∅ ∅ λb pr' f1 l1 J U=>?_;by_cases zb:b=fal
   .rw [Z9 zb];subst zb;refine(uj O b m (j+1) pr' ∅ ∅ ∅ (h3.snoc f1 h1 ?_)<|∅).imp λr pr2 h=>#[f1.trans h.1,Nat.le_of_succ_le h.2.1,h.2.2.1,h.2.2.2.1,?_]
    .cases b
     .exact U rfl
     .exact J rfl
    .have:=h.2.2.2.2;have:=h.2.1;lia
   .rw [Z8 zb];refine#[f1,aN _,h2,?_,∅];refine Nb.mono (λa b' z=>?_) h3;cases fal
    .exact Td.mono z f1
    .exact Td.mono z f1
  .rw [Z8 z];exact#[fK _,aN _,h2,h3,∅]
theorem Bl(O:stop<=n)(Z:f<stop)(c:pr.length+(stop-f)<=800000):Wa n (sy stop f) pr λr pr'=>pr<+:pr'/\f<r.1/\r.1<=stop/\Nt pr' (cZ f r.1 r.2)/\pr'.length<=pr.length+(r.1-f):=by
 unfold sy;by_cases z:f+1<stop
 .rw [Z9 z];refine Wa.U4 ∅ ∅ ∅ ∅ λb pr1 f1 l1 J U=>?_;refine(uj (f:=f) O b stop (f+2) pr1 ∅ ∅ ∅ (Sf.snoc (pr:=pr1) (j:=f+1) ?_ (fK _) ∅ ?_)<|∅).imp λr pr2 h=>#[f1.trans h.1,?_,h.2.2.1,h.2.2.2.1.turn,?_]
  .unfold Sf;rw[show f+1-f=0+1 by lia,Eg];exact trivial
  .cases b
   .exact U rfl
   .exact J rfl
  .have:=h.2.1;lia
  .have:=h.2.2.2.2;have:=h.2.1;lia
 .rw [Z8 z];refine#[fK _,∅,∅,?_,∅];show Nt pr (cZ f (f+1) Zk);unfold cZ;rw[show f+1-f=0+1 by lia,Eg];exact trivial
theorem si(a b:Nat)(f:Bool):(cZ a b f).Perm<|Pz a<|b-a:=by
 unfold cZ;cases f
 .exact .refl _
 .exact List.reverse_perm _
theorem zF{ls:Nat}(U:stop<=n)(O:f<stop)(hn:n-f<=120)(c:pr.length+122*(stop-f)<=800000):Wa n (vc ls stop f) pr λr pr'=>pr<+:pr'/\r.2.Perm (Pz f r.2.length)/\0<r.2.length/\f+r.2.length<=stop/\Nt pr' r.2/\pr'.length<=pr.length+122*r.2.length:=by
 refine Wa.bind<|(Bl U O<|∅).imp λr pr1 h=>?_;obtain⟨f1,h1,h2,h3,Z⟩:=h;refine Wa.bind<|(K3 (f:=f) (min (f+ls) stop-r.1) r.1 _ pr1 (si ..) ∅ ∅ hn h3<|∅).imp λos pr2 g=>?_;obtain⟨g1,J,z,g4⟩:=g;have hl:=g1.length_eq;rw[C9] at hl;refine#[f1.trans z,?_,?_,?_,J,?_]<;>dsimp only
 .rw [hl];exact g1
 .lia
 .lia
 .lia
end
end Pw
namespace Po
variable {b f:Nat}
noncomputable abbrev Fr:=Option<|Nat×Nat
noncomputable abbrev W:=Nat->Nat->Option Fr
noncomputable abbrev Mt:=Nat×Nat×Nat
noncomputable def mid(f b:Nat):Nat:=f+(b-f+1)/2
theorem cD(h:¬ b-f<2):f<mid f b/\mid f b<b:=by unfold mid;lia
noncomputable def mts(f b:Nat):List Mt:=if h:b-f<2 then[] else mts f (mid f b)++mts (mid f b) b++[(f,mid f b,b)]
termination_by b-f
decreasing_by
 .have:=cD h;lia
 .have:=cD h;lia
theorem cC(h:b-f<2):mts f b=[]:=by rw[mts,dif_pos h]
theorem bT(h:¬ b-f<2):mts f b=mts f (mid f b)++mts (mid f b) b++[(f,mid f b,b)]:=by rw[mts,dif_neg h]
theorem tree{P:Nat->Nat->Prop}(h1:∀f b,b-f<2->P f b)(h2:∀f b,¬ b-f<2->P f (mid f b)->P (mid f b) b->P f b)(f b:Nat):P f b:=by
 suffices ∀n f b,b-f<=n->P f b from this _ f b<|aN _
 intro n;induction n with
 |zero=>intro f b h;exact h1 f b<|∅
 |succ n ih=>
  intro f b h;by_cases z:b-f<2
  .exact h1 f b z
  .have:=cD z;exact h2 f b z (ih _ _<|∅)<|ih _ _<|∅
theorem eU(f b:Nat):(mts f b).length=b-f-1:=by
 refine tree (P:=λf b=>(mts f b).length=b-f-1) (λf b h=>?_) (λf b h h1 h2=>?_) f b
 .rw [cC h];simp;lia
 .have:=cD h;rw[bT h,aQ,aQ,h1,h2,fM];lia
theorem iZ{a m c:Nat}(f b:Nat):(a,m,c)∈mts f b->m=mid a c/\f<=a/\c<=b/\¬ c-a<2:=by
 refine tree (P:=λf b=>(a,m,c)∈mts f b->m=mid a c/\f<=a/\c<=b/\¬ c-a<2) (λf b h=>?_) (λf b h h1 h2=>?_) f b
 .rw [cC h];intro z;cases z
 .have:=cD h;rw[bT h];intro z;rcases gZ.mp z with z|z
  .rcases gZ.mp z with z|z
   .have:=h1 z;lia
   .have:=h2 z;lia
  .cases cI.mp z;exact#[rfl,aN _,aN _,h]
noncomputable def put(w:W)(a c:Nat)(v:Fr):W:=λa' c'=>if a'=a/\c'=c then Zh v else w a' c'
end Po
namespace Pw
variable {b f i:Nat}{pr pr':List A3}{pcs:List (List Nat)}{u v:Fr}{w w':W}
structure PS where
 r:Nat
 ps:List<|Nat×List Nat
 gs:List Nat
noncomputable def flt(ps:List<|Nat×List Nat):List Nat:=(ps.map Prod.snd).flatten
noncomputable def mW(gs:List Nat):Bool:=match gs.reverse with
 |a::b::_=>decide<|a<b
 |_=>Zk
theorem zL(G:List Nat)(g1 z:Nat):mW (G++[g1,z])=decide (z<g1):=by unfold mW;rw[List.reverse_append];rfl
theorem Lh{gs:List Nat}(h:mW gs=Zj):2<=gs.length:=by
 unfold mW at h;rw[<- GG];revert h;generalize gs.reverse=l;intro h
 match l,h with
 |a::b::l,_=>simp
noncomputable def xD(ps:List<|Nat×List Nat):Nat:=(ps.getLastD (0,[])).1
noncomputable def GR(i:Nat)(t:PS):Pg<|Option PS:=match t.ps.drop i with
 |p1::p2::B=>(G8 p1.2 p2.2).bind λo=>.ret<|some ⟨t.r,t.ps.take i++(p1.1,o)::B,t.gs.eraseIdx i⟩
 |_=>.ret Zi
noncomputable def B3(G:Nat->Nat->Nat->Nat->Nat)(ls s e:Nat)(t:PS):Pg<|Option PS:=(vc ls e t.r).bind λf=>.ret<|some ⟨t.r+f.2.length,t.ps++[(t.r,f.2)],if t.ps.isEmpty then t.gs else t.gs++[G (e-s) (xD t.ps-s) (t.r-s)<|t.r+f.2.length-s]⟩
noncomputable def Ii(G:Nat->Nat->Nat->Nat->Nat)(ls s e:Nat)(t:PS):Pg<|Option PS:=
 if mW t.gs then GR (t.ps.length-3) t else if t.r<e then B3 G ls s e t else if 1<t.ps.length then GR (t.ps.length-2) t else .ret Zi
noncomputable def Iz(e:Nat)(t:PS):List Nat:=flt t.ps++Pz t.r (e-t.r)
noncomputable def Jc(G:Nat->Nat->Nat->Nat->Nat)(ls s e:Nat):Nat->PS->Pg (List Nat)
 |0,t=>.ret<|Iz e t
 |m+1,t=>(Ii G ls s e t).bind λo=>match o with
  |none=>.ret<|Iz e t
  |some t'=>Jc G ls s e m t'
noncomputable def Cz(G:Nat->Nat->Nat->Nat->Nat)(ls s e:Nat):Pg<|List Nat:=Jc G ls s e (2*(e-s)+1) #[s,[],[]]
def Cn(pr:List A3):Nat->List (Nat×List Nat)->Nat->Prop
 |x,[],y=>x=y
 |x,p::ps,y=>p.1=x/\0<p.2.length/\p.2.Perm (Pz x p.2.length)/\Nt pr p.2/\Cn pr (x+p.2.length) ps y
theorem Cn.mono(f:pr<+:pr'):∀{x y:Nat} {ps:List<|Nat×List Nat},Cn pr x ps y->Cn pr' x ps y
 |_,_,[],h=>h
 |_,_,_::_,h=>#[h.1,h.2.1,h.2.2.1,h.2.2.2.1.mono f,h.2.2.2.2.mono f]
theorem Cn.app{pr:List A3}:∀{x y:Nat} {A B:List<|Nat×List Nat},Cn pr x (A++B) y↔∃m,Cn pr x A m/\Cn pr m B y
 |x,y,[],B=>#[λh=>#[x,rfl,h],λ⟨m,h1,h2⟩=>by cases h1;exact h2]
 |x,y,p::A,B=>#[λh=>let ⟨m,a,b⟩:=Cn.app.mp h.2.2.2.2;#[m,#[h.1,h.2.1,h.2.2.1,h.2.2.2.1,a],b],λ⟨m,a,b⟩=>#[a.1,a.2.1,a.2.2.1,a.2.2.2.1,Cn.app.mpr #[m,a.2.2.2.2,b]]]
theorem Cn.le:∀{x y:Nat} {ps:List<|Nat×List Nat},Cn pr x ps y->x+ps.length<=y
 |_,_,[],h=>Sm h
 |x,y,p::ps,h=>by
  have:=h.2.2.2.2.le;have:=h.2.1;rw[cF];lia
def Cl:Nat->List (Nat×List Nat)->Nat->Prop
 |x,[],y=>x=y
 |x,p::ps,y=>p.1=x/\0<p.2.length/\Cl (x+p.2.length) ps y
theorem Cl.app:∀{x y:Nat} {A B:List<|Nat×List Nat},Cl x (A++B) y↔∃m,Cl x A m/\Cl m B y
 |x,y,[],B=>#[λh=>#[x,rfl,h],λ⟨m,h1,h2⟩=>by cases h1;exact h2]
 |x,y,p::A,B=>#[λh=>let ⟨m,a,b⟩:=Cl.app.mp h.2.2;#[m,#[h.1,h.2.1,a],b],λ⟨m,a,b⟩=>#[a.1,a.2.1,Cl.app.mpr #[m,a.2.2,b]]]
theorem Cl.le:∀{x y:Nat} {ps:List<|Nat×List Nat},Cl x ps y->x+ps.length<=y/\(flt ps).length=y-x
 |_,_,[],h=>#[Sm h,by cases h;rw[kP];rfl]
 |x,y,p::ps,h=>by
  have h1:=h.2.2.le;have h2:=h.2.1;refine#[by rw[cF];lia,?_];show(p.2++flt ps).length=_;rw[aQ,h1.2];lia
structure PI(n s e:Nat)(pr:List A3)(t:PS):Prop where
 cn:Cn pr s t.ps t.r
 re:t.r<=e
 gl:t.gs.length=t.ps.length-1
theorem rE{α:Type}{l:List α}(h:i+2<=l.length):∃A x y B,l=A++x::y::B/\A.length=i/\l.drop i=x::y::B/\l.take i=A:=by
 have h1:i<l.length:=∅
 have h2:i+1<l.length:=∅
 refine#[l.take i,l[i],l[i+1],l.drop<|i+2,?_,by rw[iF];lia,?_,rfl]
 .rw [<- Ay h2,<- Ay h1,qf]
 .rw [<- Ay h2,<- Ay h1]
section
variable {n s e ls:Nat}{G:Nat->Nat->Nat->Nat->Nat}
def Sd(n s e:Nat)(pr:List A3)(t:PS)(o:Option PS)(pr':List A3):Prop:=pr<+:pr'/\match o with
 |none=>t.r=e/\t.ps.length<=1/\pr'=pr
 |some t'=>PI n s e pr' t'/\2*(e-t'.r)+t'.ps.length<2*(e-t.r)+t.ps.length/\pr'.length+400*(e-t'.r)+250*t'.ps.length<=pr.length+400*(e-t.r)+250*t.ps.length
theorem y9{t:PS}(h:PI n s e pr t)(hi:i+2<=t.ps.length)(he:e<=n)(hn:n<=120)(c:pr.length<=790000):Wa n (GR i t) pr<|Sd n s e pr t:=by
 obtain⟨A,J,p2,B,e1,e2,e3,e4⟩:=rE hi;have O:=h.cn;rw[e1] at O;obtain⟨m,c1,c2⟩:=Cn.app.mp O;obtain⟨h1,h2,h3,h4,g1,g2,g3,g4,g5⟩:=c2;have l1:=c1.le;have l2:=g5.le;have Z:=h.re;have m1:∀x∈J.2,m<=x/\x<m+J.2.length:=λx hx=>Ek.mp<|h3.mem_iff.mp hx;have m2:∀x∈p2.2,m+J.2.length<=x/\x<m+J.2.length+p2.2.length:=λx hx=>Ek.mp<|g3.mem_iff.mp hx;unfold GR;rw[e3];dsimp only;refine Wa.bind<|(LL (n:=n) (pr:=pr) (l:=J.2) (r:=p2.2) #[λx hx=>by have:=m1 x hx;lia,λx hx=>by have:=m2 x hx;lia,λx hx y hy=>by have:=m1 x hx;have:=m2 y hy;lia] h4 g4<|∅).imp λo pr' z=>?_;obtain⟨z1,z2,U,z4⟩:=z;have hl:=z1.length_eq;rw[aQ] at hl;rw[e4];have e6:(A++(J.1,o)::B).length+1=t.ps.length:=by rw[e1];simp;lia
 refine#[U,#[Cn.app.mpr #[m,c1.mono U,h1,by dsimp only;lia,?_,z2,?_],Z,?_],?_,?_]<;>dsimp only
 .rw [hl];refine z1.trans<|(h3.append g3).trans ?_;have:=List.range'_append (s:=m) (m:=J.2.length) (n:=p2.2.length) (step:=1);rw[Nat.one_mul] at this;rw[this]
 .rw [hl,<- Nat.add_assoc];exact g5.mono U
 .rw [List.length_eraseIdx];have:=h.gl;split<;>lia
 .lia
 .lia
theorem B2{t:PS}(h:PI n s e pr t)(O:t.r<e)(Z:e<=n)(hn:n<=120)(c:pr.length<=780000):Wa n (B3 G ls s e t) pr<|Sd n s e pr t:=by
 refine Wa.bind<|(zF (n:=n) (pr:=pr) (ls:=ls) Z O ∅<|∅).imp λf pr' z=>?_;obtain⟨J,U,z3,z4,z5,z6⟩:=z;refine#[J,#[Cn.app.mpr #[t.r,h.cn.mono J,rfl,z3,U,z5,rfl],by dsimp only;lia,?_],?_,?_]<;>dsimp only
 .have:=h.gl;rw[aQ,fM];cases hp:t.ps with
  |nil=>rw[hp] at this;simpa using this
  |cons p q=>
   rw[hp] at this;rw[Z8 (by simp),aQ,fM,this,cF];lia
 .rw [aQ,fM];lia
 .rw [aQ,fM];lia
theorem yh{t:PS}(h:PI n s e pr t)(z:e<=n)(hn:n<=120)(c:pr.length<=780000):Wa n (Ii G ls s e t) pr<|Sd n s e pr t:=by
 unfold Ii;by_cases h1:mW t.gs=Zj
 .rw [Z9 h1];have:=Lh h1;have:=h.gl;exact y9 h ∅ z hn<|∅
 rw[Z8 h1];by_cases h2:t.r<e
 .rw [Z9 h2];exact B2 h h2 z hn c
 rw[Z8 h2];by_cases h3:1<t.ps.length
 .rw [Z9 h3];exact y9 h ∅ z hn<|∅
 rw[Z8 h3];have:=h.re;exact#[fK _,∅,∅,rfl]
theorem nX{t:PS}(h:PI n s e pr t)(h1:t.r=e)(h2:t.ps.length<=1):(Iz e t).Perm (Pz s<|e-s)/\Nt pr (Iz e t):=by
 have hc:=h.cn;unfold Iz;rw[h1,kP,List.range'_zero,iG]
 match hp:t.ps,h2 with
 |[],_=>
  rw[hp] at hc;have:s=e:=by rw[<- h1];exact hc
  rw[this,kP];exact#[.refl _,trivial]
 |[p],_=>
  rw[hp] at hc;have z:s+p.2.length=t.r:=hc.2.2.2.2;have e2:flt [p]=p.2:=by unfold flt;simp
  rw[e2,show e-s=p.2.length by lia];exact#[hc.2.2.1,hc.2.2.2.1]
theorem qM(J:e<=n)(hn:n<=120):∀(m:Nat) (t:PS) (pr:List A3),PI n s e pr t->2*(e-t.r)+t.ps.length<=m->pr.length+400*(e-t.r)+250*t.ps.length<=780000->
  Wa n (Jc G ls s e m t) pr λos pr'=>os.Perm (Pz s<|e-s)/\Nt pr' os/\pr<+:pr'/\pr'.length<=pr.length+400*(e-t.r)+250*t.ps.length
 |0=>λt pr h hm c=>by
  have:=h.re;have z:=nX h ∅ ∅;exact#[z.1,z.2,fK _,∅]
 |m+1=>λt pr h hm c=>by
  refine Wa.bind<|(yh h J hn<|∅).imp λo pr1 z=>?_;cases o with
  |none=>
   obtain⟨f,a,b,rfl⟩:=z;have z:=nX h a b;exact#[z.1,z.2,f,∅]
  |some t'=>
   obtain⟨f,a,b,c'⟩:=z;refine(qM J hn m t' pr1 a ∅<|∅).imp λos pr2 y=>#[y.1,y.2.1,f.trans y.2.2.1,?_]
   have:=y.2.2.2;lia
theorem vq(J:s<=e)(z:e<=n)(hn:n<=120)(c:pr.length+400*(e-s)<=780000):Wa n (Cz G ls s e) pr λos pr'=>os.Perm (Pz s<|e-s)/\Nt pr' os/\pr<+:pr'/\pr'.length<=pr.length+400*(e-s):=
 qM z hn _ #[s,[],[]] pr #[rfl,J,rfl] (by dsimp only[PV];lia)<|by dsimp only[PV];lia
end
open Po (Fr W Mt mts mid put cC bT cD eU iZ)
noncomputable def BY:Fr->Fr->Pg Fr
 |none,o=>.ret o
 |some x,Zi=>.ret<|some x
 |some x,Zh y=>U4 x.1 y.1 λb=>.ret (if b then Zh x else Zh y)
noncomputable def jY:List Mt->W->Pg (Option W)
 |[],w=>.ret<|some w
 |m::ms,w=>match w m.1 m.2.1,w m.2.1 m.2.2 with
  |some u,Zh v=>(BY u v).bind λx=>jY ms<|put w m.1 m.2.2 x
  |_,_=>.ret Zi
noncomputable def mS(pcs:List<|List Nat)(ts:List Nat)(i:Nat):Fr:=((pcs.getD i [])[ts.getD i 0]?).map λx=>(x,i)
noncomputable def rT(i:Nat)(m:Mt):Bool:=decide (m.1<=i)&&decide (i<m.2.2)
noncomputable def qm(ts:List Nat)(i:Nat):List Nat:=ts.set i<|ts.getD i 0+1
noncomputable def oU(pcs:List<|List Nat):Nat->List Nat->W->List Nat->Pg (Option<|List Nat)
 |0,_,_,acc=>.ret<|some acc
 |k+1,ts,w,acc=>match w 0 pcs.length with
  |some (Zh c)=>(jY ((mts 0 pcs.length).filter<|rT c.2)<|put w c.2 (c.2+1)<|mS pcs (qm ts c.2) c.2).bind λo=>match o with
   |none=>.ret Zi
   |some w'=>oU pcs k (qm ts c.2) w'<|acc++[c.1]
  |_=>.ret Zi
noncomputable def wB(pcs:List<|List Nat)(k:Nat):W:=λa c=>if c=a+1/\a<k then Zh (mS pcs (Pp pcs.length 0) a) else Zi
noncomputable def D9(pcs:List<|List Nat):Pg<|Option<|List Nat:=(jY (mts 0 pcs.length)<|wB pcs pcs.length).bind λo=>match o with
 |none=>.ret Zi
 |some w=>oU pcs (pcs.map PV).sum (Pp pcs.length 0) w []
def Me(pr:List A3):Fr->Fr->Fr->Prop
 |none,v,x=>x=v
 |some u,Zi,x=>x=Zh u
 |some u,Zh v,x=>(x=Zh u/\Td pr u.1 v.1)∨(x=Zh v/\Td pr v.1 u.1)
theorem Me.mono(f:pr<+:pr'):∀{u v x:Fr},Me pr u v x->Me pr' u v x
 |none,_,_,h=>h
 |some _,Zi,_,h=>h
 |some _,Zh _,_,h=>h.imp (λz=>#[z.1,z.2.mono f]) λz=>#[z.1,z.2.mono f]
theorem Me.or:∀{u v x:Fr},Me pr u v x->x=u∨x=v
 |none,_,_,h=>.inr h
 |some _,Zi,_,h=>.inl h
 |some _,Zh _,_,h=>h.imp (λz=>z.1) λz=>z.1
def Nd(pr:List A3)(w:W)(m:Mt):Prop:=∃u v x,w m.1 m.2.1=Zh u/\w m.2.1 m.2.2=Zh v/\w m.1 m.2.2=Zh x/\Me pr u v x
theorem Nd.congr{m:Mt}(h:Nd pr w m)(f:pr<+:pr')(z:w' m.1 m.2.1=w m.1 m.2.1)(e2:w' m.2.1 m.2.2=w m.2.1 m.2.2)(e3:w' m.1 m.2.2=w m.1 m.2.2):Nd pr' w' m:=
 let ⟨u,v,x,h1,h2,h3,h4⟩:=h;#[u,v,x,by rw[z,h1],by rw[e2,h2],by rw[e3,h3],h4.mono f]
structure Tr(pr:List A3)(fr:Nat->Fr)(w:W)(f b:Nat):Prop where
 lf:∀i,f<=i->i<b->w i (i+1)=Zh (fr i)
 nd:∀m∈mts f b,Nd pr w m
section
variable {n:Nat}{fr:Nat->Fr}
theorem Tr.congr(h:Tr pr fr w f b)(g:pr<+:pr')(e:∀a c,f<=a->c<=b->a<c->w' a c=w a c):Tr pr' fr w' f b:=
 #[λi h1 h2=>by rw[e i (i+1) h1 ∅<|∅];exact h.lf i h1 h2,λm hm=>by
  obtain⟨J,O,U,z⟩:=iZ (a:=m.1) (m:=m.2.1) (c:=m.2.2) _ _ hm;have:=cD z;exact(h.nd m hm).congr g (e _ _ ∅ ∅<|∅) (e _ _ ∅ ∅<|∅)<|e _ _ ∅ ∅<|∅]
theorem Tr.top(h:Tr pr fr w f b)(J:f<b):∃x,w f b=Zh x:=by
 by_cases z:b-f<2
 .rw [show b=f+1 by lia];exact#[_,h.lf f (aN _) J]
 .obtain ⟨u,v,x,_,_,e,_⟩:=h.nd (f,mid f b,b) (by rw[bT z];exact fN _ aZ);exact#[x,e]
theorem Tr.down(z:¬ b-f<2)(h:Tr pr fr w f b):Tr pr fr w f (mid f b)/\Tr pr fr w (mid f b) b/\Nd pr w (f,mid f b,b):=by
 have:=cD z;refine#[#[λi h1 h2=>h.lf i h1<|∅,λm hm=>h.nd m ?_],#[λi h1 h2=>h.lf i ∅ h2,λm hm=>h.nd m ?_],h.nd _ ?_]<;>rw[bT z]
 .exact mC _ (mC _ hm)
 .exact mC _ (fN _ hm)
 .exact fN _ aZ
theorem Tr.mem(f b:Nat):Tr pr fr w f b->f<b->∀x,w f b=Zh (Zh x)->(∀i y,fr i=Zh y->y.2=i)->f<=x.2/\x.2<b/\fr x.2=Zh x:=by
 refine Po.tree (P:=λf b=>Tr pr fr w f b->f<b->∀x,w f b=Zh (Zh x)->(∀i y,fr i=Zh y->y.2=i)->f<=x.2/\x.2<b/\fr x.2=Zh x) (λf b z h J x hx hi=>?_) (λf b z U i2 h J x hx hi=>?_) f b
 .have e:=h.lf f (aN _) J;rw[show f+1=b by lia,hx] at e;have e2:=OX e;rw[hi f x e2.symm];exact#[aN _,J,e2.symm]
 .have:=cD z;obtain⟨O,Z,u,v,x',a1,a2,a3,a4⟩:=h.down z;dsimp only at a1 a2 a3;rw[hx] at a3;cases a3;rcases a4.or with e|e
  .have:=U O ∅ x (by rw[a1,e]) hi;exact#[this.1,∅,this.2.2]
  .have:=i2 Z ∅ x (by rw[a2,e]) hi;exact#[∅,this.2.1,this.2.2]
theorem Tr.Uy(f b:Nat):Tr pr fr w f b->f<b->w f b=Zh Zi->∀i,f<=i->i<b->fr i=Zi:=by
 refine Po.tree (P:=λf b=>Tr pr fr w f b->f<b->w f b=Zh Zi->∀i,f<=i->i<b->fr i=Zi) (λf b z h J hx i h1 h2=>?_) (λf b z U i2 h J hx i h1 h2=>?_) f b
 .have e:=h.lf f (aN _) J;rw[show f+1=b by lia,hx] at e;rw[show i=f by lia];exact(OX e).symm
 .have:=cD z;obtain⟨O,Z,u,v,x',a1,a2,a3,a4⟩:=h.down z;dsimp only at a1 a2 a3;rw[hx] at a3;cases a3;have e:u=Zi/\v=Zi:=by
   cases u with
   |none=>exact#[rfl,Eq.symm a4]
   |some u=>
    cases v with
    |none=>cases a4
    |some v=>rcases a4 with ⟨z,_⟩|⟨z,_⟩<;>cases z
  rw[e.1] at a1;rw[e.2] at a2;by_cases hi:i<mid f b
  .exact U O ∅ a1 i h1 hi
  .exact i2 Z ∅ a2 i ∅ h2
structure Fo(n:Nat)(fr:Nat->Fr):Prop where
 ix:∀i y,fr i=Zh y->y.2=i
 lt:∀i y,fr i=Zh y->y.1<n
 ne:∀i j x y,i≠j->fr i=Zh x->fr j=Zh y->x.1≠y.1
theorem KZ{P:Fr->List A3->Prop}(O:∀x,u=Zh x->x.1<n)(U:∀x,v=Zh x->x.1<n)(z:∀x y,u=Zh x->v=Zh y->x.1≠y.1)(c:pr.length<=800000)(h:∀x pr',pr<+:pr'->pr'.length<=pr.length+1->Me pr' u v x->P x pr'):Wa n (BY u v) pr P:=by
 cases u with
 |none=>exact h v pr (fK _) ∅ rfl
 |some x=>
  cases v with
  |none=>exact h (Zh x) pr (fK _) ∅ rfl
  |some y=>
   show Wa n (U4 x.1 y.1 λb=>.ret<|if b then Zh x else Zh y) pr P;refine Wa.U4 (z x y rfl rfl) (O x rfl) (U y rfl) c λb pr' f l J Z=>?_;cases b
   .exact h _ _ f ∅ (.inr #[rfl,Z rfl])
   .exact h _ _ f ∅ (.inl #[rfl,J rfl])
theorem Io{a c:Nat}:put w a c v a c=Zh v:=by unfold Po.put;rw[Z9 #[rfl,rfl]]
theorem Ip{a c a' c':Nat}(h:¬ (a'=a/\c'=c)):put w a c v a' c'=w a' c':=by unfold Po.put;rw[Z8 h]
theorem Tr.up{x:Fr}(z:¬ b-f<2)(O:Tr pr fr w f<|mid f b)(U:Tr pr fr w (mid f b) b)(h1:w f (mid f b)=Zh u)(h2:w (mid f b) b=Zh v)(Z:Me pr u v x):Tr pr fr (put w f b x) f b:=by
 have hm:=cD z;have g:∀a c,¬ (a=f/\c=b)->put w f b x a c=w a c:=λa c h=>Ip h;refine#[λi h1 h2=>?_,λm J=>?_]
 .rw [g _ _<|∅];by_cases hi:i<mid f b
  .exact O.lf i h1 hi
  .exact U.lf i ∅ h2
 .rw [bT z] at J;rcases gZ.mp J with J|J
  .rcases gZ.mp J with J|J
   .exact (O.congr (fK _) λa c _ _ _=>g _ _<|∅).nd m J
   .exact (U.congr (fK _) λa c _ _ _=>g _ _<|∅).nd m J
  .cases cI.mp J;exact#[u,v,x,by rw[g _ _<|by dsimp only;lia];exact h1,by rw[g _ _<|by dsimp only;lia];exact h2,Io,Z]
theorem zp(O:Fo n fr)(f b:Nat):f<b->∀(w:W) (pr:List A3) (ms:List Mt) (P:Option W->List A3->Prop),(∀i,f<=i->i<b->w i (i+1)=Zh (fr i))->pr.length+(b-f)<=800000->
  (∀w' pr',pr<+:pr'->(∀a c,¬ (f<=a/\c<=b/\a+2<=c)->w' a c=w a c)->Tr pr' fr w' f b->pr'.length+1<=pr.length+(b-f)->Wa n (jY ms w') pr' P)->Wa n (jY (mts f b++ms) w) pr P:=by
 refine Po.tree (P:=λf b=>f<b->∀(w:W) (pr:List A3) (ms:List Mt) (P:Option W->List A3->Prop),(∀i,f<=i->i<b->w i (i+1)=Zh (fr i))->pr.length+(b-f)<=800000-> (∀w' pr',pr<+:pr'->(∀a c,¬ (f<=a/\c<=b/\a+2<=c)->w' a c=w a c)->Tr pr' fr w' f b->pr'.length+1<=pr.length+(b-f)->Wa n (jY ms w') pr' P)->Wa n (jY (mts f b++ms) w) pr P) (λf b z hb w pr ms P hl c k=>?_) (λf b z i1 i2 hb w pr ms P hl c k=>?_) f b
 .rw [cC z];exact k w pr (fK _) (λ_ _ _=>rfl) #[hl,λm hm=>by rw[cC z] at hm;cases hm]<|∅
 .have hm:=cD z;rw[bT z,fL,fL];refine i1 ∅ w pr _ P (λi h1 h2=>hl i h1<|∅) ∅ λw1 pr1 f1 e1 t1 l1=>?_;refine i2 ∅ w1 pr1 _ P (λi h1 h2=>by rw[e1 _ _<|∅];exact hl i ∅ h2) ∅ λw2 pr2 f2 e2 t2 l2=>?_;have J:Tr pr2 fr w2 f<|mid f b:=t1.congr f2 λa c h1 h2 h3=>e2 a c ∅;obtain⟨u,hu⟩:=J.top ∅;obtain⟨v,Z⟩:=t2.top ∅;have mu:∀x,u=Zh x->f<=x.2/\x.2<mid f b/\fr x.2=Zh x:=λx e=>Tr.mem _ _ J ∅ x (by rw[hu,e]) O.ix;have U:∀x,v=Zh x->mid f b<=x.2/\x.2<b/\fr x.2=Zh x:=λx e=>Tr.mem _ _ t2 ∅ x (by rw[Z,e]) O.ix;show Wa n (jY ((f,mid f b,b)::ms) w2) pr2 P;rw[jY];dsimp only;rw[hu,Z];refine Wa.bind<|KZ (λx e=>O.lt _ _ (mu x e).2.2) (λx e=>O.lt _ _ (U x e).2.2) (λx y ex ey=>O.ne x.2 y.2 x y (by have:=mu x ex;have:=U y ey;lia) (mu x ex).2.2 (U y ey).2.2) ∅ λx pr3 f3 l3 me=>?_;refine k _ pr3 (f1.trans<|f2.trans f3) (λa c h=>?_) (Tr.up z (J.congr f3 λ_ _ _ _ _=>rfl) (t2.congr f3 λ_ _ _ _ _=>rfl) hu Z me) ∅;rw[Ip<|∅,e2 _ _<|∅,e1 _ _<|∅]
def Gd(pr:List A3)(x:Nat)(o:Option Fr):Prop:=∀c,o=Zh (Zh c)->Td pr x c.1
theorem lS(h:¬ (f<=i/\i<b)):(mts f b).filter (rT i)=[]:=by
 rw[List.filter_eq_nil_iff];intro m hm;obtain⟨_,J,O,_⟩:=iZ (a:=m.1) (m:=m.2.1) (c:=m.2.2) _ _ hm;unfold rT;intro z;rw[tK,decide_eq_true_eq,decide_eq_true_eq] at z;lia
theorem rA(z:¬ b-f<2)(h:f<=i/\i<b):(mts f b).filter (rT i)=(mts f<|mid f b).filter (rT i)++((mts (mid f b) b).filter (rT i)++[(f,mid f b,b)]):=by
 rw[bT z,C8,C8,fL,Q6<|by unfold rT;rw[tK,decide_eq_true_eq,decide_eq_true_eq];exact h];rfl
theorem zl{fr':Nat->Fr}{w0:W}{x0:Nat}(ho:Fo n fr)(J:Fo n fr')(hf:∀j,j≠i->fr' j=fr j)(f b:Nat):f<=i->i<b->∀(w:W) (pr:List A3) (ms:List Mt) (P:Option W->List A3->Prop),Tr pr fr w0 f b->(∀a c,f<=a->c<=b->a<c->¬ (a=i/\c=i+1)->w a c=w0 a c)->w i (i+1)=Zh (fr' i)->(∀y,fr' i=Zh y->Td pr x0 y.1)->pr.length+(b-f)<=800000->
  (∀w' pr',pr<+:pr'->(∀a c,¬ (f<=a/\c<=b/\a+2<=c)->w' a c=w a c)->Tr pr' fr' w' f b->(w0 f b=Zh (Zh (x0,i))->Gd pr' x0 (w' f b))->pr'.length+1<=pr.length+(b-f)->Wa n (jY ms w') pr' P)->Wa n (jY ((mts f b).filter (rT i)++ms) w) pr P:=by
 refine Po.tree (P:=λf b=>f<=i->i<b->∀(w:W) (pr:List A3) (ms:List Mt) (P:Option W->List A3->Prop),Tr pr fr w0 f b->(∀a c,f<=a->c<=b->a<c->¬ (a=i/\c=i+1)->w a c=w0 a c)->w i (i+1)=Zh (fr' i)->(∀y,fr' i=Zh y->Td pr x0 y.1)->pr.length+(b-f)<=800000-> (∀w' pr',pr<+:pr'->(∀a c,¬ (f<=a/\c<=b/\a+2<=c)->w' a c=w a c)->Tr pr' fr' w' f b->(w0 f b=Zh (Zh (x0,i))->Gd pr' x0 (w' f b))->pr'.length+1<=pr.length+(b-f)->Wa n (jY ms w') pr' P)->Wa n (jY ((mts f b).filter (rT i)++ms) w) pr P) (λf b z h1 h2 w pr ms P t e hw hx c k=>?_) (λf b z i1 i2 h1 h2 w pr ms P t e hw hx c k=>?_) f b
 .rw [cC z];have Z:f=i:=∅
  have e2:b=i+1:=∅
  subst Z;subst e2;exact k w pr (fK _) (λ_ _ _=>rfl) #[λj g1 U=>by rw[show j=f by lia];exact hw,λm hm=>by rw[cC z] at hm;cases hm] (λ_ c hc=>hx c<|by rw[hw] at hc;exact OX hc)<|∅
 .have hm:=cD z;rw[rA z #[h1,h2],fL,fL];obtain⟨t1,t2,u0,v0,z0,a1,a2,a3,a4⟩:=t.down z;dsimp only at a1 a2 a3;by_cases hi:i<mid f b
  .rw [lS (f:=mid f b) (b:=b)<|∅,List.nil_append];refine i1 h1 hi w pr _ P t1 (λa c g1 U=>e a c g1<|∅) hw hx ∅ λw1 pr1 f1 Z s1 gd l1=>?_;have s2:Tr pr1 fr' w1 (mid f b) b:=by
    have s:=t2.congr f1 (w':=w1) λa c g1 U g3=>by rw[Z a c<|∅,e a c ∅ U g3<|∅]
    exact#[λj g1 U=>by rw[hf j<|∅];exact s.lf j g1 U,s.nd]
   obtain⟨u,hu⟩:=s1.top ∅;have hv:w1 (mid f b) b=Zh v0:=by rw[Z _ _<|∅,e _ _ ∅ (aN _) ∅<|∅];exact a2
   have mu:∀x,u=Zh x->f<=x.2/\x.2<mid f b/\fr' x.2=Zh x:=λx q=>Tr.mem _ _ s1 ∅ x (by rw[hu,q]) J.ix;have mv:∀x,v0=Zh x->mid f b<=x.2/\x.2<b/\fr' x.2=Zh x:=λx q=>Tr.mem _ _ s2 ∅ x (by rw[hv,q]) J.ix;show Wa n (jY ((f,mid f b,b)::ms) w1) pr1 P;rw[jY];dsimp only;rw[hu,hv];refine Wa.bind<|KZ (λx q=>J.lt _ _ (mu x q).2.2) (λx q=>J.lt _ _ (mv x q).2.2) (λx y ex ey=>J.ne x.2 y.2 x y (by have:=mu x ex;have:=mv y ey;lia) (mu x ex).2.2 (mv y ey).2.2) ∅ λx pr3 O l3 me=>?_;refine k _ pr3 (f1.trans O) (λa c h=>?_) (Tr.up z (s1.congr O λ_ _ _ _ _=>rfl) (s2.congr O λ_ _ _ _ _=>rfl) hu hv me) (λh0 c hc=>?_)<|∅
   .rw [Ip<|∅,Z _ _<|∅]
   .rw [Io] at hc;have hc:=OX hc;rw[a3] at h0;have h0:=OX h0;subst h0;have ev:v0≠Zh (x0,i):=λq=>by have:=mv _ q;dsimp only at this;lia
    have eu:u0=Zh (x0,i):=by
     rcases a4.or with q|q
     .exact q.symm
     .exact absurd q.symm ev
    rcases me.or with q|q
    .rw [q] at hc;exact(gd (by rw[a1,eu]) c<|by rw[hu,hc]).mono O
    .rw [q] at hc;rw[eu,hc] at a4;rcases a4 with ⟨_,y⟩|⟨y,_⟩
     .exact y.mono (f1.trans O)
     .rw [hc] at ev;exact absurd y.symm ev
  .rw [lS (f:=f) (b:=mid f b)<|∅,List.nil_append];refine i2 ∅ h2 w pr _ P t2 (λa c g1 U=>e a c ∅ U) hw hx ∅ λw1 pr1 f1 Z s2 gd l1=>?_;have s1:Tr pr1 fr' w1 f<|mid f b:=by
    have s:=t1.congr f1 (w':=w1) λa c g1 U g3=>by rw[Z a c<|∅,e a c g1 ∅ g3<|∅]
    exact#[λj g1 U=>by rw[hf j<|∅];exact s.lf j g1 U,s.nd]
   obtain⟨v,hv⟩:=s2.top ∅;have hu:w1 f (mid f b)=Zh u0:=by rw[Z _ _<|∅,e _ _ (aN _) ∅ ∅<|∅];exact a1
   have mu:∀x,u0=Zh x->f<=x.2/\x.2<mid f b/\fr' x.2=Zh x:=λx q=>Tr.mem _ _ s1 ∅ x (by rw[hu,q]) J.ix;have mv:∀x,v=Zh x->mid f b<=x.2/\x.2<b/\fr' x.2=Zh x:=λx q=>Tr.mem _ _ s2 ∅ x (by rw[hv,q]) J.ix;show Wa n (jY ((f,mid f b,b)::ms) w1) pr1 P;rw[jY];dsimp only;rw[hu,hv];refine Wa.bind<|KZ (λx q=>J.lt _ _ (mu x q).2.2) (λx q=>J.lt _ _ (mv x q).2.2) (λx y ex ey=>J.ne x.2 y.2 x y (by have:=mu x ex;have:=mv y ey;lia) (mu x ex).2.2 (mv y ey).2.2) ∅ λx pr3 O l3 me=>?_;refine k _ pr3 (f1.trans O) (λa c h=>?_) (Tr.up z (s1.congr O λ_ _ _ _ _=>rfl) (s2.congr O λ_ _ _ _ _=>rfl) hu hv me) (λh0 c hc=>?_)<|∅
   .rw [Ip<|∅,Z _ _<|∅]
   .rw [Io] at hc;have hc:=OX hc;rw[a3] at h0;have h0:=OX h0;subst h0;have eu:u0≠Zh (x0,i):=λq=>by have:=mu _ q;dsimp only at this;lia
    have ev:v0=Zh (x0,i):=by
     rcases a4.or with q|q
     .exact absurd q.symm eu
     .exact q.symm
    rcases me.or with q|q
    .rw [q] at hc;rw[ev,hc] at a4;rcases a4 with ⟨y,_⟩|⟨_,y⟩
     .rw [hc] at eu;exact absurd y.symm eu
     .exact y.mono (f1.trans O)
    .rw [q] at hc;exact(gd (by rw[a2,ev]) c<|by rw[hv,hc]).mono O
end
theorem Nb.at{R:Nat->Nat->Prop}:∀{l:List Nat} {i a b:Nat},Nb R l->l[i]?=Zh a->l[i+1]?=Zh b->R a b
 |[],i,a,b,_,h,_=>by simp at h
 |[x],i,a,b,_,_,h=>by simp at h
 |x::y::l,0,a,b,h,h1,h2=>by cases h1;cases h2;exact h.1
 |x::y::l,i+1,a,b,h,h1,h2=>Nb.at (l:=y::l) h.2 (by simpa using h1)<|by simpa using h2
noncomputable def jM:List (List Nat)->List Nat->List Nat
 |p::ps,t::ts=>p.drop t++jM ps ts
 |_,_=>[]
theorem qA:∀{pcs:List<|List Nat} {ts:List Nat} {i t x:Nat} {p:List Nat},pcs[i]?=Zh p->ts[i]?=Zh t->p[t]?=Zh x->(jM pcs ts).Perm (x::jM pcs (ts.set i<|t+1))
 |[],_,_,_,_,_,h,_,_=>by simp at h
 |_::_,[],_,_,_,_,_,h,_=>by simp at h
 |q::ps,u::ts,0,t,x,p,h1,h2,h3=>by
  cases h1;cases h2;obtain⟨hl,e⟩:=jS.mp h3;show(q.drop u++jM ps ts).Perm (x::(q.drop (u+1)++jM ps ts));rw[Ay hl,e];exact .refl _
 |q::ps,u::ts,i+1,t,x,p,h1,h2,h3=>by
  have:=qA (pcs:=ps) (ts:=ts) (i:=i) (by simpa using h1) (by simpa using h2) h3;show(q.drop u++jM ps ts).Perm (x::(q.drop u++jM ps (ts.set i<|t+1)));exact(this.append_left _).trans List.perm_middle
theorem uk:∀{pcs:List<|List Nat} {ts:List Nat},(∀i,i<pcs.length->(pcs.getD i [])[ts.getD i 0]?=Zi)->jM pcs ts=[]
 |[],_,_=>rfl
 |_::_,[],_=>rfl
 |p::ps,t::ts,h=>by
  have h0:=h 0 (by simp);have h1:=uk (pcs:=ps) (ts:=ts) λi hi=>by
   have:=h (i+1) (by simpa using hi);simpa using this
  show p.drop t++jM ps ts=[];have z:p[t]?=Zi:=by simpa using h0
  rw[h1,iG,QD<|List.getElem?_eq_none_iff.mp z]
theorem Lo:∀pcs:List<|List Nat,jM pcs (Pp pcs.length 0)=pcs.flatten
 |[]=>rfl
 |p::ps=>by
  rw[cF,List.replicate_succ];show p.drop 0++jM ps (Pp ps.length 0)=_;rw[Lo ps];rfl
structure Pc(n:Nat)(pr:List A3)(pcs:List<|List Nat):Prop where
 nt:∀p∈pcs,Nt pr p
 nd:pcs.flatten.Nodup
 lt:∀x∈pcs.flatten,x<n
theorem Pc.mono{n:Nat}(h:Pc n pr pcs)(f:pr<+:pr'):Pc n pr' pcs:=#[λp z=>(h.nt p z).mono f,h.nd,h.lt]
theorem Ed{ts:List Nat}{y:Nat×Nat}(h:mS pcs ts i=Zh y):y.2=i/\∃p,pcs[i]?=Zh p/\p[ts.getD i 0]?=Zh y.1:=by
 unfold mS at h;obtain⟨x,h1,h2⟩:=Bc.mp h;rw[<- h2];refine#[rfl,?_];rw[fC] at h1;cases e:pcs[i]? with
 |none=>rw[e] at h1;simp at h1
 |some p=>rw[e] at h1;exact#[p,rfl,h1]
theorem Pc.fo{n:Nat}(h:Pc n pr pcs)(ts:List Nat):Fo n<|mS pcs ts:=by
 refine#[λi y J=>(Ed J).1,λi y J=>?_,λi j x y O hx J=>?_]
 .obtain ⟨_,p,h1,h2⟩:=Ed J;exact h.lt _<|List.mem_flatten.mpr #[p,jD h1,jD h2]
 .obtain ⟨_,p,h1,h2⟩:=Ed hx;obtain⟨_,q,g1,g2⟩:=Ed J;have hd:=(List.pairwise_flatten.mp h.nd).2;have hx:=jD h2;have J:=jD g2;obtain⟨a1,a2⟩:=jS.mp h1;obtain⟨Z,U⟩:=jS.mp g1;rcases Nat.lt_or_gt_of_ne O with z|z
  .exact List.pairwise_iff_getElem.mp hd i j a1 Z z x.1 (by rw[a2];exact hx) y.1 (by rw[U];exact J)
  .exact Pe (List.pairwise_iff_getElem.mp hd j i Z a1 z y.1 (by rw[U];exact J) x.1<|by rw[a2];exact hx)
theorem ED{ts:List Nat}{j:Nat}(h:j≠i):mS pcs (qm ts i) j=mS pcs ts j:=by
 unfold mS qm;rw[fC (l:=ts.set i _),List.getElem?_set,Z8<|Pe h,<- fC]
section
variable {n:Nat}
theorem qL{pcs:List<|List Nat}{D:Nat}(hD:pcs.length<=D)(hp:0<pcs.length):∀(k:Nat) (ts:List Nat) (w:W) (acc:List Nat) (pr:List A3),Pc n pr pcs->ts.length=pcs.length->Tr pr (mS pcs ts) w 0 pcs.length->(jM pcs ts).length=k->Nt pr acc->(∀A z,acc=A++[z]->Gd pr z (w 0 pcs.length))->pr.length+D*k<=800000->
  Wa n (oU pcs k ts w acc) pr λo pr'=>∃os,o=Zh os/\os.Perm (acc++jM pcs ts)/\Nt pr' os/\pr<+:pr'/\pr'.length<=pr.length+D*k
 |0=>λts w acc pr pc tl O hk na ga c=>by
  refine#[acc,rfl,?_,na,fK _,∅];rw[Az.mp hk,iG]
 |k+1=>λts w acc pr pc tl O hk na ga c=>by
  have fo:=pc.fo ts;obtain⟨o,Z⟩:=O.top hp;cases o with
  |none=>
   exfalso;have:=Tr.Uy _ _ O hp Z;rw[uk (λi hi=>by
    have:=this i (cQ _) hi;unfold mS at this;exact Option.map_eq_none_iff.mp this)] at hk
   cases hk
  |some c'=>
   obtain⟨_,hc,aa⟩:=Tr.mem _ _ O hp c' Z fo.ix;obtain⟨_,p,J,U⟩:=Ed aa;have ae:D*(k+1)=D*k+D:=RK ..;have ad:ts[c'.2]?=Zh (ts.getD c'.2 0):=(oX<|∅).1;rw[oU,Z];dsimp only;refine Wa.bind ?_;rw[<- iG ((mts 0 pcs.length).filter<|rT c'.2)];refine zl (fr:=mS pcs ts) (fr':=mS pcs<|qm ts c'.2) (w0:=w) (i:=c'.2) (x0:=c'.1) fo (pc.fo _) (λj hj=>ED hj) 0 pcs.length (cQ _) hc _ pr [] _ O (λa c _ _ _ h=>Ip h) Io (λy hy=>?_) ∅ λw' pr1 f1 _ ac gd l1=>?_
   .obtain ⟨_,q,q1,q2⟩:=Ed hy;rw[J] at q1;cases q1;have e:(qm ts c'.2).getD c'.2 0=ts.getD c'.2 0+1:=by
     unfold qm;rw[fC,List.getElem?_set,Z9 rfl,Z9<|∅];rfl
    rw[e] at q2;exact(pc.nt p<|jD J).at U q2
   .show Wa n (oU pcs k (qm ts c'.2) w'<|acc++[c'.1]) pr1 _;have pm:=qA J ad U;have hl:=pm.length_eq;rw[cF] at hl;refine(qL hD hp k (qm ts c'.2) w' (acc++[c'.1]) pr1 (pc.mono f1) (by unfold qm;rw[GJ];exact tl) ac (by unfold qm;lia) ?_ (λA z e=>?_)<|∅).imp λo pr2 h=>?_
    .refine Nb.app (na.mono f1) trivial λA z u B e1 e2=>?_;cases e2;exact(ga A z e1 c' Z).mono f1
    .rw [<- JQ e];exact gd Z
    .obtain ⟨os,e,h1,h2,h3,h4⟩:=h;refine#[os,e,?_,h2,f1.trans h3,∅];rw[fL] at h1;exact h1.trans<|(List.Perm.symm pm).append_left acc
theorem J0{D:Nat}(hD:pcs.length<=D)(pc:Pc n pr pcs)(c:pr.length+D*(pcs.flatten.length+1)<=800000):Wa n (D9 pcs) pr λo pr'=>∃os,o=Zh os/\os.Perm pcs.flatten/\Nt pr' os/\pr<+:pr'/\pr'.length<=pr.length+D*(pcs.flatten.length+1):=by
 have J:D*(pcs.flatten.length+1)=D*pcs.flatten.length+D:=RK ..;refine Wa.bind ?_;by_cases hp:0<pcs.length
 .rw [<- iG (mts 0 pcs.length)];refine zp (fr:=mS pcs<|Pp pcs.length 0) (pc.fo _) 0 pcs.length hp _ pr [] _ (λi _ hi=>by unfold wB;rw[Z9 #[rfl,hi]]) ∅ λw' pr1 f1 _ O l1=>?_;show Wa n (oU pcs (pcs.map PV).sum (Pp pcs.length 0) w' []) pr1 _;refine(qL hD hp _ _ w' [] pr1 (pc.mono f1) (vR ..) O (by rw[Lo,RD]) trivial (λA z e=>by simp at e)<|by rw[<- RD];lia).imp λo pr2 h=>?_;obtain⟨os,e,h1,h2,h3,U⟩:=h;rw[<- RD] at U;refine#[os,e,by rw[Lo] at h1;exact h1,h2,f1.trans h3,∅]
 .have e:pcs=[]:=Az.mp ∅;subst e;rw[cC<|by decide];exact#[[],rfl,.refl _,trivial,fK _,∅]
noncomputable def sH(d:Nat):Nat->List (List Nat)->List (List Nat)->Pg (Option<|List<|List Nat)
 |0,_,acc=>.ret<|some acc
 |k+1,pcs,acc=>(D9<|pcs.take d).bind λo=>match o with
  |none=>.ret Zi
  |some os=>sH d k (pcs.drop d)<|acc++[os]
theorem KU(l:List<|List Nat)(d:Nat):(l.take d).flatten++(l.drop d).flatten=l.flatten:=by rw[<- tJ,qf]
theorem uL{d:Nat}(hd:d<=9):∀(k:Nat) (pcs acc:List<|List Nat) (pr:List A3),Pc n pr (acc++pcs)->pcs.length<=k*d->pr.length+9*(pcs.flatten.length+k)<=800000->
  Wa n (sH d k pcs acc) pr λo pr'=>∃out,o=Zh out/\out.flatten.Perm (acc++pcs).flatten/\(∀p∈out,Nt pr' p)/\out.length=acc.length+k/\pr<+:pr'/\pr'.length<=pr.length+9*(pcs.flatten.length+k)
 |0=>λpcs acc pr pc hl c=>by
  rw[Di] at hl;have e:pcs=[]:=Az.mp ∅;subst e;rw[iG] at*;exact#[acc,rfl,.refl _,pc.nt,rfl,fK _,∅]
 |k+1=>λpcs acc pr pc hl c=>by
  have O:=KU pcs d;have fl:=congrArg PV O;rw[aQ] at fl;rw[C7] at hl;have J:∀x∈(pcs.take d).flatten,x∈(acc++pcs).flatten:=λx hx=>by
   rw[tJ,<- O];exact fN _<|mC _ hx
  have pt:Pc n pr<|pcs.take d:=by
   refine#[λp z=>pc.nt p<|fN _<|Ru z,?_,λx hx=>pc.lt x<|J x hx];have:=pc.nd;rw[tJ,<- O] at this;exact(C6.mp (C6.mp this).2.1).1
  refine Wa.bind<|(J0 (D:=9) (by rw[iF];lia) pt<|∅).imp λo pr1 h=>?_;obtain⟨os,rfl,h1,h2,h3,h4⟩:=h;show Wa n (sH d k (pcs.drop d)<|acc++[os]) pr1 _;have U:(acc++[os]++pcs.drop d).flatten.Perm (acc++pcs).flatten:=by
   rw[tJ,tJ,tJ,<- O,fL];refine List.Perm.append_left _ ?_;rw[show[os].flatten=os by simp];exact h1.append_right _
  refine(uL hd k (pcs.drop d) (acc++[os]) pr1 #[λp z=>?_,U.nodup_iff.mpr pc.nd,λx hx=>pc.lt x<|U.mem_iff.mp hx] (by rw[gP];lia)<|∅).imp λo pr2 g=>?_
  .rcases gZ.mp z with z|z
   .rcases gZ.mp z with z|z
    .exact (pc.nt p<|mC _ z).mono h3
    .rw [cI.mp z];exact h2
   .exact (pc.nt p<|fN _<|Eu z).mono h3
  .obtain ⟨out,e,g1,g2,Z,g4,g5⟩:=g;refine#[out,e,g1.trans U,g2,?_,h3.trans g4,∅];rw[Z,aQ,fM];lia
noncomputable def cO(l d:Nat):Nat:=(l+d-1)/d
theorem Kv{l d:Nat}(hd:0<d):l<=cO l d*d:=by
 unfold cO;have h1:=TU (l+d-1) d;have h2:=Sl (l+d-1) hd;rw[Nat.mul_comm] at h1;lia
theorem zq{l d:Nat}(hd:2<=d)(hl:2<=l):cO l d<l:=by
 unfold cO;refine Nat.div_lt_of_lt_mul ?_;obtain⟨a,rfl⟩:∃a,d=a+2:=#[d-2,∅]
 obtain⟨b,rfl⟩:∃b,l=b+2:=#[l-2,∅]
 have:(a+2)*(b+2)=a*b+2*a+2*b+4:=by rw[Nat.add_mul,Nat.mul_add,Nat.mul_add];lia
 lia
noncomputable def vF(d:Nat):Nat->List (List Nat)->List Nat->Pg (Option<|List Nat×List Nat)
 |0,pcs,ns=>.ret<|some (pcs.headD [],ns)
 |m+1,pcs,ns=>if 1<pcs.length then(sH d (cO pcs.length d) pcs []).bind λo=>match o with
   |none=>.ret Zi
   |some out=>vF d m out<|ns++[out.length]
  else .ret (Zh (pcs.headD [],ns))
theorem oE(h:pcs.length<=1):pcs.headD []=pcs.flatten:=by
 match pcs,h with
 |[],_=>rfl
 |[p],_=>simp
theorem uX(pc:Pc n pr pcs)(h:pcs.length<=1):Nt pr pcs.flatten:=by
 match pcs,h with
 |[],_=>exact trivial
 |[p],_=>have:=pc.nt p aZ;simpa using this
theorem LM{d:Nat}(hd:2<=d)(J:d<=9):∀(m:Nat) (pcs:List<|List Nat) (ns:List Nat) (pr:List A3),Pc n pr pcs->pcs.length<=m+1->pcs.flatten.length<=120->pcs.length<=120->pr.length+2200*pcs.length<=800000->
  Wa n (vF d m pcs ns) pr λo pr'=>∃r,o=Zh r/\r.1.Perm pcs.flatten/\Nt pr' r.1/\pr<+:pr'/\pr'.length<=pr.length+2200*pcs.length
 |0=>λpcs ns pr pc hm hf hl c=>by
  refine#[_,rfl,?_,?_,fK _,∅]<;>dsimp only<;>rw[oE<|∅];exact uX pc<|∅
 |m+1=>λpcs ns pr pc hm hf hl c=>by
  rw[vF];by_cases z:1<pcs.length
  .rw [Z9 z];have h1:=Kv (l:=pcs.length) (d:=d) ∅;have h2:=zq (l:=pcs.length) hd ∅;refine Wa.bind<|(uL J _ pcs [] pr pc h1<|∅).imp λo pr1 h=>?_;obtain⟨out,rfl,g1,U,O,Z,g5⟩:=h;have g1:out.flatten.Perm pcs.flatten:=g1;show Wa n (vF d m out<|ns++[out.length]) pr1 _;rw[r6,rZ] at O;have gl:=g1.length_eq;refine(LM hd J m out _ pr1 #[U,g1.nodup_iff.mpr pc.nd,λx hx=>pc.lt x<|g1.mem_iff.mp hx] ∅ ∅ ∅<|∅).imp λo pr2 h=>?_;obtain⟨r,e,a1,a2,a3,a4⟩:=h;exact#[r,e,a1.trans g1,a2,Z.trans a3,∅]
  .rw [Z8 z];refine#[_,rfl,?_,?_,fK _,∅]<;>dsimp only<;>rw[oE<|∅];exact uX pc<|∅
noncomputable def yO(G:Nat->Nat->Nat->Nat->Nat)(ls wd N:Nat):Nat->Nat->List (List Nat)->Pg (List<|List Nat)
 |0,_,acc=>.ret acc
 |k+1,f,acc=>(Cz G ls f<|min (f+wd) N).bind λos=>yO G ls wd N k (f+wd)<|acc++[os]
theorem uJ{G:Nat->Nat->Nat->Nat->Nat}{ls wd:Nat}(hw:0<wd)(hn:n<=120):∀(k f:Nat) (acc:List<|List Nat) (pr:List A3),n<=f+k*wd->k*wd<n-f+wd->acc.flatten.Perm (Pz 0<|min f n)->(∀p∈acc,Nt pr p)->pr.length+400*(n-f)<=780000->
  Wa n (yO G ls wd n k f acc) pr λout pr'=>out.flatten.Perm (Pz 0 n)/\(∀p∈out,Nt pr' p)/\out.length=acc.length+k/\pr<+:pr'/\pr'.length<=pr.length+400*(n-f)
 |0=>λf acc pr h1 h2 h3 J c=>by
  rw[Di] at h1;rw[Rp<|∅] at h3;exact#[h3,J,rfl,fK _,∅]
 |k+1=>λf acc pr h1 h2 h3 J c=>by
  rw[C7] at h1 h2;have Z:f<n:=∅
  refine Wa.bind<|(vq (n:=n) (pr:=pr) (s:=f) (e:=min (f+wd) n) ∅ ∅ hn<|∅).imp λos pr1 h=>?_;obtain⟨g1,U,O,g4⟩:=h;refine(uJ hw hn k (f+wd) (acc++[os]) pr1 ∅ ∅ ?_ (λp z=>?_)<|∅).imp λout pr2 h=>?_
  .rw [tJ,show[os].flatten=os by simp];rw[vQ<|∅] at h3;refine(h3.append g1).trans ?_;have:=List.range'_append (s:=0) (m:=f) (n:=min (f+wd) n-f) (step:=1);rw[Nat.one_mul,rZ] at this;rw[this,show f+(min (f+wd) n-f)=min (f+wd) n by lia]
  .rcases gZ.mp z with z|z
   .exact (J p z).mono O
   .rw [cI.mp z];exact U
  .obtain ⟨a1,a2,a3,a4,a5⟩:=h;refine#[a1,a2,?_,O.trans a4,∅];rw[a3,aQ,fM];lia
noncomputable def Ae(G:Nat->Nat->Nat->Nat->Nat)(ls wd N:Nat):Pg<|List<|List Nat:=yO G ls wd N (cO N wd) 0 []
noncomputable def Ji(G:Nat->Nat->Nat->Nat->Nat)(ls wd d N:Nat):Pg<|Option<|List Nat:=(Ae G ls wd N).bind λpcs=>(vF d pcs.length pcs []).bind λo=>match o with
 |none=>.ret Zi
 |some r=>.ret<|some r.1
end
end Pw
namespace Pw
variable {a b j k m ps wy x y z:Nat}{cl deal:Int}{pr:List A3}{l od r:List Nat}{bb:Bool}
section
variable {α:Type}{n:Nat}{An:Nat->Nat->Nat->Bool}
def Tu(n:Nat)(An:Nat->Nat->Nat->Bool)(pr:List A3):Prop:=pr.length<=800001/\∀e∈pr,e.2.1<e.1/\e.1<n/\e.2.2=An 0 e.1 e.2.1
theorem Wa.tu(J:∀k p q,An k p q=An 0 p q){P:α->List A3->Prop}:∀{x:Pg α} {pr:List A3},Wa n x pr P->Tu n An pr->Wp n An x pr λa pr'=>P a pr'/\Tu n An pr'
 |.ret a,pr,h,t=>#[h,t]
 |.ask p q k,pr,h,t=>#[h.1,h.2.1,h.2.2.1,Wa.tu J (h.2.2.2 _) #[by rw[aQ,fM];have:=h.2.2.1;lia,λe O=>by
  rcases gZ.mp O with z|z
  .exact t.2 e z
  .rw [cI.mp z];exact#[h.1,h.2.1,J _ _ _]]]
theorem Wp.ex{P:α->List A3->Prop}{Q:α->Prop}:∀{x:Pg α} {pr:List A3},Wp n An x pr P->x.Al Q->∃a pr',Q a/\P a pr'
 |.ret a,pr,h,g=>#[a,pr,g,h]
 |.ask p q k,pr,h,g=>Wp.ex h.2.2.2<|g _
end
noncomputable def vS(os:List Nat)(pl:Nat):Nat->Pg Nat
 |0=>.ret 0
 |s+1=>U4 (os.getD s 0) pl λb=>if b then .ret (s+1) else vS os pl s
noncomputable def DZ(os:List Nat)(pl:Nat):Pg Nat:=vS os pl os.length
noncomputable def lM(R:Nat):Nat->Nat->List Nat->Pg (List Nat ⊕ Nat×List Nat)
 |0,_,os=>.ret<|.inl os
 |m+1,pl,os=>(if 0<os.length-R then U4 (os.getD (os.length-R-1) 0) pl λb=>.ret b else .ret Zj).bind λb=>if b then(vB (os.drop<|os.length-R) pl).bind λr=>lM R m (pl+1) (gT os (os.length-R+r) pl) else .ret (.inr (pl,os.drop<|os.length-R-1))
noncomputable def mX(l r:List Nat)(m:Nat):Nat->Nat->Nat->Pg Nat
 |0,lo,_=>.ret lo
 |f+1,lo,hi=>if lo<hi then U4 (l.getD ((lo+hi)/2) 0) (r.getD (m-(lo+hi)/2-1) 0) λb=>if b then mX l r m f ((lo+hi)/2+1) hi else mX l r m f lo ((lo+hi)/2) else .ret lo
noncomputable def vo(l r:List Nat)(m:Nat):Pg Nat:=mX l r m l.length (m-r.length)<|min m l.length
noncomputable def aT(l r:List Nat)(ps j:Nat):Nat:=(l.length+r.length)*j/ps
noncomputable def Ib(l r:List Nat)(ps:Nat):Nat->Nat->List Nat->Pg (List Nat)
 |0,_,acc=>.ret acc
 |k+1,j,acc=>(vo l r<|aT l r ps j).bind λc=>Ib l r ps k (j+1)<|acc++[c]
noncomputable def jK(l:List Nat)(a b:Nat):List Nat:=(l.drop a).take<|b-a
noncomputable def sF(l r cs os:List Nat):Nat->Nat->List (List Nat)->Pg (List<|List Nat)
 |0,_,acc=>.ret acc
 |k+1,i,acc=>(G8 (jK l (cs.getD i 0)<|cs.getD (i+1) 0)<|jK r (os.getD i 0)<|os.getD (i+1) 0).bind λo=>sF l r cs os k (i+1)<|acc++[o]
noncomputable def lN(l r cs:List Nat)(ps:Nat):List Nat:=(OW<|ps+1).map λj=>aT l r ps j-cs.getD j 0
noncomputable def CD(l r:List Nat)(ps:Nat):Pg<|List<|List Nat:=(Ib l r ps (ps-1) 1 []).bind λc=>sF l r (0::(c++[l.length])) (lN l r (0::(c++[l.length])) ps) ps 0 []
section
variable {n:Nat}
theorem tP{os:List Nat}{pl:Nat}(J:In n os pl)(O:pl<n):∀(s:Nat) (pr:List A3),s<=os.length->(os.length<=s∨Td pr pl (os.getD s 0))->pr.length+s<=800000->Wa n (vS os pl s) pr λr pr'=>pr<+:pr'/\r<=os.length/\Bd pr' os pl r r/\pr'.length<=pr.length+s
 |0,pr,h,b,c=>#[fK _,h,#[.inl rfl,b],∅]
 |s+1,pr,h,b,c=>by
  obtain⟨g1,U⟩:=oX (os:=os) (i:=s) ∅;refine Wa.U4 (J _ U).2 (J _ U).1 O ∅ λb' pr' f1 l1 Z t2=>?_;cases b'
  .refine (tP J O s pr' ∅ (.inr<|t2 rfl)<|∅).imp λr pr2 h=>#[f1.trans h.1,h.2.1,h.2.2.1,?_]
   have:=h.2.2.2;lia
  .exact #[f1,h,#[.inr<|Z rfl,b.imp id λz=>z.mono f1],∅]
theorem uB:∀(m pl:Nat) (os:List Nat) (pr:List A3),os.Perm (Pz 0 pl)->pl+m<=n->n<=120->Nt pr os->pr.length+120*m<=800000->Wa n (iY DZ m pl os) pr λos' pr'=>os'.Perm (Pz 0<|pl+m)/\Nt pr' os'
 |0,pl,os,pr,hp,hn,hk,h,c=>#[hp,h]
 |m+1,pl,os,pr,hp,hn,hk,h,c=>by
  have hl:=hp.length_eq;rw[C9] at hl;have J:In n os pl:=λx hx=>by
   have:=Ek.mp<|hp.mem_iff.mp hx;lia
  refine Wa.bind<|(tP J ∅ os.length pr (aN _) (.inl<|aN _)<|∅).imp λr pr' g=>?_;obtain⟨f1,g1,O,U⟩:=g;refine(uB m (pl+1) (gT os r pl) pr' ?_ ∅ hk (Ky (h.mono f1) g1 O)<|∅).imp λos' pr2 z=>#[?_,z.2]
  .refine bS.trans ?_;rw[Eg,rZ];exact hp.append_right _
  .rw [show pl+(m+1)=pl+1+m by lia];exact z.1
structure Fa(n:Nat)(pr:List A3)(R pl:Nat)(l:List Nat):Prop where
 hp:pl<n
 len:l.length=R+1
 lt:∀x∈l,x<pl
 nt:Nt pr l
 hd:∀x l',l=x::l'->Td pr pl x
def Rq(n:Nat)(R:Nat)(o:List Nat ⊕ Nat×List Nat)(pr:List A3):Prop:=match o with
 |.inl os=>os.Perm (Pz 0 n)/\Nt pr os
 |.inr x=>Fa n pr R x.1 x.2
theorem uq{R:Nat}:∀(m pl:Nat) (os:List Nat) (pr:List A3),os.Perm (Pz 0 pl)->pl+m=n->n<=120->Nt pr os->pr.length+121*m<=800000->Wa n (lM R m pl os) pr (Rq n R)
 |0,pl,os,pr,hp,hn,hk,h,c=>#[by rw[<- hn];exact hp,h]
 |m+1,pl,os,pr,hp,hn,hk,h,c=>by
  have hl:=hp.length_eq;rw[C9] at hl;have J:In n os pl:=λx hx=>by
   have:=Ek.mp<|hp.mem_iff.mp hx;lia
  have go:∀pr1,pr<+:pr1->pr1.length<=pr.length+1->(0<os.length-R->Td pr1 (os.getD (os.length-R-1) 0) pl)->Wa n ((vB (os.drop<|os.length-R) pl).bind λr=>lM R m (pl+1)<|gT os (os.length-R+r) pl) pr1 (Rq n R):=λpr1 f0 l0 U=>by
   have hd:(os.drop<|os.length-R).length=os.length-(os.length-R):=gP ..;refine Wa.bind<|(Jm (os:=os.drop<|os.length-R) (λx hx=>J x<|Eu hx) ∅ (os.drop<|os.length-R).length 0 (os.drop<|os.length-R).length pr1 ∅ (cQ _) (aN _) ⟨.inl rfl,.inl<|aN _⟩<|∅).imp λr pr' g=>?_;obtain⟨f1,g1,O,g3⟩:=g;have hb:Bd pr' os pl (os.length-R+r)<|os.length-R+r:=by
    refine#[?_,?_]
    .rcases O.lo with z|z
     .subst z;by_cases y:0<os.length-R
      .exact .inr ((U y).mono f1)
      .exact .inl ∅
     .by_cases y:r=0
      .subst y;by_cases y:0<os.length-R
       .exact .inr ((U y).mono f1)
       .exact .inl ∅
      .rw [fC,AY,<- fC,show os.length-R+(r-1)=os.length-R+r-1 by lia] at z;exact .inr z
    .rcases O.hi with z|z
     .exact .inl ∅
     .rw [fC,AY,<- fC] at z;exact .inr z
   refine(uq m (pl+1) (gT os (os.length-R+r) pl) pr' ?_ ∅ hk (Ky (h.mono<|f0.trans f1) ∅ hb)<|∅);refine bS.trans ?_;rw[Eg,rZ];exact hp.append_right _
  rw[lM.eq_2];refine Wa.bind ?_;by_cases z:0<os.length-R
  .rw [Z9 z];obtain⟨g1,O⟩:=oX (os:=os) (i:=os.length-R-1) ∅;refine Wa.U4 (J _ O).2 (J _ O).1 ∅ ∅ λb' pr' f1 l1 Z t2=>?_;cases b'
   .refine (show Fa n pr' R pl _ from#[∅,by rw[gP];lia,λx hx=>?_,Nb.drop (h.mono f1) _,λx l' e=>?_])
    .have:=Ek.mp<|hp.mem_iff.mp<|Eu hx;lia
    .rw [(IH e).2];exact t2 rfl
   .exact go pr' f1 ∅ λ_=>Z rfl
  .rw [Z8 z];exact go pr (fK _) ∅ λy=>absurd y z
structure Ct(pr:List A3)(l r:List Nat)(m c:Nat):Prop where
 cl:c<=l.length
 cm:c<=m
 cr:m<=c+r.length
 lo:0<c->m-c<r.length->Td pr (l.getD (c-1) 0) (r.getD (m-c) 0)
 hi:c<m->c<l.length->Td pr (r.getD (m-c-1) 0) (l.getD c 0)
theorem Ct.mono{pr':List A3}{c:Nat}(h:Ct pr l r m c)(f:pr<+:pr'):Ct pr' l r m c:=#[h.cl,h.cm,h.cr,λa b=>(h.lo a b).mono f,λa b=>(h.hi a b).mono f]
theorem KP{l r:List Nat}{m:Nat}(t:Tw n l r)(hm:m<=l.length+r.length):∀(f lo hi:Nat) (pr:List A3),hi-lo<=f->lo<=hi->m-r.length<=lo->hi<=m->hi<=l.length->(m-r.length<lo->Td pr (l.getD (lo-1) 0) (r.getD (m-lo) 0))->(hi<m->hi<l.length->Td pr (r.getD (m-hi-1) 0) (l.getD hi 0))->pr.length+(hi-lo)<=800000->
  Wa n (mX l r m f lo hi) pr λc pr'=>Ct pr' l r m c/\pr<+:pr'/\pr'.length<=pr.length+(hi-lo)
 |0,lo,hi,pr,h0,h1,h2,h3,h4,b1,b2,c=>by
  have:lo=hi:=∅
  subst this;exact#[#[h4,h3,∅,λa b=>b1<|∅,b2],fK _,∅]
 |f+1,lo,hi,pr,h0,h1,h2,h3,h4,b1,b2,c=>by
  rw[mX.eq_2];by_cases z:lo<hi
  .rw [Z9 z];have J:lo<=(lo+hi)/2:=∅
   have O:(lo+hi)/2<hi:=∅
   generalize (lo+hi)/2=mi at J O;obtain⟨g1,U⟩:=oX (os:=l) (i:=mi) ∅;obtain⟨g3,Z⟩:=oX (os:=r) (i:=m-mi-1) ∅;refine Wa.U4 (t.d _ U _ Z) (t.l _ U) (t.r _ Z) ∅ λb' pr' f1 l1 t1 t2=>?_;cases b'
   .refine (KP t hm f lo mi pr' ∅ ∅ h2 ∅ ∅ (λa=>(b1 a).mono f1) (λ_ _=>t2 rfl)<|∅).imp λr pr2 h=>#[h.1,f1.trans h.2.1,?_]
    have:=h.2.2;lia
   .refine (KP t hm f (mi+1) hi pr' ∅ ∅ ∅ h3 h4 (λ_=>by rw[show m-(mi+1)=m-mi-1 by lia];exact t1 rfl) (λa b=>(b2 a b).mono f1)<|∅).imp λr pr2 h=>#[h.1,f1.trans h.2.1,?_]
    have:=h.2.2;lia
  .rw [Z8 z];have:lo=hi:=∅
   subst this;exact#[#[h4,h3,∅,λa b=>b1<|∅,b2],fK _,∅]
theorem zU(t:Tw n l r)(hm:m<=l.length+r.length)(c:pr.length+l.length<=800000):Wa n (vo l r m) pr λc pr'=>Ct pr' l r m c/\pr<+:pr'/\pr'.length<=pr.length+l.length:=by
 refine(KP t hm l.length (m-r.length) (min m l.length) pr ∅ ∅ (aN _) ∅ ∅ (λa=>∅) (λa b=>∅)<|∅).imp λc pr' h=>#[h.1,h.2.1,?_]
 have:=h.2.2;lia
theorem vf(h:j<=ps)(z:0<ps):aT l r ps j<=l.length+r.length:=by
 unfold aT;refine Nat.div_le_of_le_mul ?_;rw[Nat.mul_comm];exact Nat.mul_le_mul_right _ h
theorem rH{l r:List Nat}{ps:Nat}(t:Tw n l r)(hl:l.length<=120):∀(k j:Nat) (acc:List Nat) (pr:List A3),j+k=ps->0<j->acc.length+1=j->(∀i c,acc[i]?=Zh c->Ct pr l r (aT l r ps<|i+1) c)->pr.length+120*k<=800000->
  Wa n (Ib l r ps k j acc) pr λcs pr'=>cs.length=acc.length+k/\(∀i c,cs[i]?=Zh c->Ct pr' l r (aT l r ps<|i+1) c)/\pr<+:pr'/\pr'.length<=pr.length+120*k
 |0,j,acc,pr,h1,h2,h3,h4,c=>#[rfl,h4,fK _,∅]
 |k+1,j,acc,pr,h1,h2,h3,h4,c=>by
  refine Wa.bind<|(zU t (vf ∅<|∅)<|∅).imp λc pr1 h=>?_;obtain⟨a1,a2,a3⟩:=h;refine(rH t hl k (j+1) (acc++[c]) pr1 ∅ ∅ (by rw[aQ,fM];lia) (λi c' e=>?_)<|∅).imp λcs pr2 g=>?_
  .by_cases z:i<acc.length
   .rw [mB z] at e;exact(h4 i c' e).mono a2
   .rw [kE<|∅] at e;cases y:i-acc.length with
    |zero=>
     rw[y] at e;cases e;rw[show i+1=j by lia];exact a1
    |succ y'=>rw[y] at e;simp at e
  .obtain ⟨U,O,J,Z⟩:=g;rw[aQ,fM] at U;exact#[∅,O,a2.trans J,∅]
theorem yk(h:Nt pr l):Nt pr<|jK l a b:=Nb.take (Nb.drop h a) _
theorem ug(h:x∈jK l a b):x∈l:=Eu<|Ru h
theorem JK:(jK l a b).length<=l.length:=by unfold jK;rw[iF,gP];lia
theorem uC{l r cs os:List Nat}(t:Tw n l r)(hl:l.length+r.length<=200):∀(k i:Nat) (acc:List<|List Nat) (pr:List A3),acc.length=i->Nt pr l->Nt pr r->(∀j p,acc[j]?=Zh p->p.Perm (jK l (cs.getD j 0) (cs.getD (j+1) 0)++jK r (os.getD j 0) (os.getD (j+1) 0))/\Nt pr p)->pr.length+1000*k<=800000->
  Wa n (sF l r cs os k i acc) pr λps pr'=>ps.length=acc.length+k/\(∀j p,ps[j]?=Zh p->p.Perm (jK l (cs.getD j 0) (cs.getD (j+1) 0)++jK r (os.getD j 0) (os.getD (j+1) 0))/\Nt pr' p)/\pr<+:pr'
 |0,i,acc,pr,h1,n1,n2,h4,c=>#[rfl,h4,fK _]
 |k+1,i,acc,pr,h1,n1,n2,h4,c=>by
  have z1:=JK (l:=l) (a:=cs.getD i 0) (b:=cs.getD (i+1) 0);have z2:=JK (l:=r) (a:=os.getD i 0) (b:=os.getD (i+1) 0);refine Wa.bind<|(LL (t.sub (λx=>ug) λx=>ug) (yk n1) (yk n2)<|∅).imp λo pr1 h=>?_;obtain⟨a1,a2,a3,a4⟩:=h;refine(uC t hl k (i+1) (acc++[o]) pr1 (by rw[aQ,h1];rfl) (n1.mono a3) (n2.mono a3) (λj p e=>?_)<|∅).imp λps pr2 g=>?_
  .by_cases z:j<acc.length
   .rw [mB z] at e;obtain⟨U,y2⟩:=h4 j p e;exact#[U,y2.mono a3]
   .rw [kE<|∅] at e;cases y:j-acc.length with
    |zero=>
     rw[y] at e;cases e;rw[show j=i by lia];exact#[a1,a2]
    |succ y'=>rw[y] at e;simp at e
  .obtain ⟨Z,O,J⟩:=g;rw[aQ,fM] at Z;exact#[∅,O,a3.trans J]
def Ap(pr:List A3)(l r:List Nat)(ps:Nat)(out:List<|List Nat):Prop:=∃cs:List Nat,cs.length=ps+1/\cs.getD 0 0=0/\cs.getD ps 0=l.length/\(∀j,j<=ps->Ct pr l r (aT l r ps j) (cs.getD j 0))/\out.length=ps/\∀j p,out[j]?=Zh p->p.Perm (jK l (cs.getD j 0) (cs.getD (j+1) 0)++jK r (aT l r ps j-cs.getD j 0) (aT l r ps (j+1)-cs.getD (j+1) 0))/\Nt pr p
theorem CC(t:Tw n l r)(hl:l.length+r.length<=120)(hp:0<ps)(aa:ps<=100)(n1:Nt pr l)(n2:Nt pr r)(c:pr.length+1120*ps<=800000):Wa n (CD l r ps) pr λout pr'=>pr<+:pr'/\Ap pr' l r ps out:=by
 refine Wa.bind<|(rH t ∅ (ps-1) 1 [] pr ∅ (by decide) rfl (λi c e=>by simp at e)<|∅).imp λc pr1 h=>?_;obtain⟨a1,a2,a3,a4⟩:=h;rw[r6,rZ] at a1;have O:(0::(c++[l.length])).length=ps+1:=by rw[cF,aQ,fM];lia
 have e1:(0::(c++[l.length])).getD 0 0=0:=rfl;have e2:(0::(c++[l.length])).getD ps 0=l.length:=by
  rw[fC,show ps=(ps-1)+1 by lia,List.getElem?_cons_succ,kE<|∅,show ps-1-c.length=0 by lia];rfl
 have e3:∀j,j<=ps->Ct pr1 l r (aT l r ps j) ((0::(c++[l.length])).getD j 0):=λj J=>by
  by_cases z:j=0
  .subst z;rw[e1,show aT l r ps 0=0 by unfold aT;rw[Tj,Nat.zero_div]];exact#[cQ _,aN _,cQ _,λa=>∅,λa=>∅]
  .by_cases y:j=ps
   .subst y;rw[e2,show aT l r j j=l.length+r.length by unfold aT;exact S9 _ hp];exact#[aN _,∅,aN _,λa b=>∅,λa b=>∅]
   .obtain ⟨i,rfl⟩:∃i,j=i+1:=#[j-1,∅]
    have hi:i<c.length:=∅
    rw[fC,List.getElem?_cons_succ,mB hi,bV hi];exact a2 i _<|bV hi
 have e4:∀j,j<=ps->(lN l r (0::(c++[l.length])) ps).getD j 0=aT l r ps j-(0::(c++[l.length])).getD j 0:=λj J=>by
  unfold lN;rw[fC,eJ,Ep<|∅];rfl
 refine(uC t ∅ ps 0 [] pr1 rfl (n1.mono a3) (n2.mono a3) (λj p e=>by simp at e)<|∅).imp λout pr2 g=>?_;obtain⟨Z,b2,U⟩:=g;rw[r6,rZ] at Z;refine#[a3.trans U,_,O,e1,e2,λj J=>(e3 j J).mono U,Z,λj p e=>?_];have J:=(jS.mp e).1;have:=b2 j p e;rw[e4 j<|∅,e4 (j+1)<|∅] at this;exact this
end
def lxf(κ:Nat->Int)(x y:Nat):Prop:=κ x<κ y∨(κ x=κ y/\x<y)
noncomputable def oS(κ:Nat->Int)(bb:Bool)(_ p q:Nat):Bool:=cond bb (!decide (κ p<κ q))<|decide<|κ p<κ q
def jA(κ:Nat->Int)(bb:Bool)(x y:Nat):Prop:=cond bb (lxf κ y x)<|lxf κ x y
section
variable {κ:Nat->Int}{n:Nat}
theorem Gf(a:jA κ bb x y)(b:jA κ bb y z):jA κ bb x z:=by
 cases bb<;>(simp only[jA,cond,lxf] at*;lia)
theorem Ge(a:jA κ bb x y)(b:jA κ bb y x):False:=by
 cases bb<;>(simp only[jA,cond,lxf] at*;lia)
theorem Ih(t:Tu n (oS κ bb) pr){p q:Nat}(h:Td pr p q):jA κ bb p q:=by
 obtain⟨b,h1,h2⟩:=h;obtain⟨a1,_,a3⟩:=t.2 _ h1;dsimp only at a1 a3;subst a3;by_cases z:q<p
 .rw [Z9 z,show max p q=p by lia,show min p q=q by lia] at h2;cases bb
  .have:=of_decide_eq_true (show decide (κ p<κ q)=Zj from h2);exact .inl this
  .have:¬ κ p<κ q:=of_decide_eq_false (by simpa[oS] using h2);show lxf κ q p;unfold lxf;lia
 .rw [Z8 z,show max p q=q by lia,show min p q=p by lia] at h2;cases bb
  .have:¬ κ q<κ p:=of_decide_eq_false (by simpa[oS] using h2);show lxf κ p q;unfold lxf;lia
  .have:κ q<κ p:=of_decide_eq_true (by simpa[oS] using h2);exact .inl this
theorem DK{R:Nat->Nat->Prop}(O:∀x y z,R x y->R y z->R x z):∀{l:List Nat},Nb R l->l.Pairwise R
 |[],_=>.nil
 |[_],_=>List.pairwise_singleton _ _
 |a::b::l,h=>by
  have J:=DK O h.2;refine Em.mpr #[λx hx=>?_,J];rcases bY.mp hx with z|z
  .rw [z];exact h.1
  .exact O _ _ _ h.1 ((Em.mp J).1 x z)
theorem F1(t:Tu n (oS κ bb) pr)(h:Nt pr l):l.Pairwise<|jA κ bb:=DK (R:=jA κ bb) (λ_ _ _ a b=>Gf a b)<|Nb.mono (λ_ _ z=>Ih t z) h
theorem Jx{A B:List Nat}(h:A.Perm B)(h1:A.Pairwise<|jA κ bb)(h2:B.Pairwise<|jA κ bb):A=B:=RL (λa b _ _ h1 h2=>(Ge h1 h2).elim) h1 h2 h
theorem Je(h:l.Pairwise<|jA κ bb){i:Nat}(O:i<=j)(J:j<l.length):i=j∨jA κ bb (l.getD i 0) (l.getD j 0):=by
 by_cases z:i=j
 .exact .inl z
 .have:=List.pairwise_iff_getElem.mp h i j ∅ J ∅;rw[fC,fC,bV<|∅,bV J];exact .inr this
theorem uP{A L:List Nat}{J:List Nat}(U:(A++[z]).Pairwise<|jA κ bb)(Z:L.Pairwise<|jA κ bb)(sub:∀x∈L,x∈A++[z])(O:z∈L)(e:L=J++[y]):z=y:=by
 subst e;rcases gZ.mp O with h|h
 .rcases gZ.mp (sub y<|fN _ aZ) with g|g
  .exact (Ge ((List.pairwise_append.mp Z).2.2 z h y aZ)<|(List.pairwise_append.mp U).2.2 y g z aZ).elim
  .exact (cI.mp g).symm
 .exact cI.mp h
theorem uW{A L:List Nat}{J:List Nat}(U:(z::A).Pairwise<|jA κ bb)(Z:L.Pairwise<|jA κ bb)(sub:∀x∈L,x∈z::A)(O:z∈L)(e:L=y::J):z=y:=by
 subst e;rcases bY.mp O with h|h
 .exact h
 .rcases bY.mp (sub y aZ) with g|g
  .exact g.symm
  .exact (Ge ((Em.mp Z).1 z h)<|(Em.mp U).1 y g).elim
theorem HZ(t:Tu n (oS κ bb) pr){U c c':Nat}(hl:l.Pairwise<|jA κ bb)(hr:r.Pairwise<|jA κ bb)(hm:m<=U)(h:Ct pr l r m c)(h':Ct pr l r U c'):c<=c'/\m-c<=U-c':=by
 have a1:=h.cl;have a2:=h.cm;have a3:=h.cr;have b1:=h'.cl;have b2:=h'.cm;have b3:=h'.cr;constructor
 .apply QL;intro z;have g1:=Ih t (h.lo ∅<|∅);have O:=Ih t (h'.hi ∅<|∅);have Z:=Je hr (i:=m-c) (j:=U-c'-1) ∅ ∅;have g4:=Je hl (i:=c') (j:=c-1) ∅ ∅;have J:jA κ bb (l.getD (c-1) 0)<|l.getD c' 0:=by
   rcases Z with e|e
   .rw [<- e] at O;exact Gf g1 O
   .exact Gf g1 (Gf e O)
  rcases g4 with e|e
  .rw [<- e] at J;exact Ge J J
  .exact Ge J e
 .apply QL;intro z;have g1:=Ih t (h.hi ∅<|∅);have O:=Ih t (h'.lo ∅<|∅);have Z:=Je hl (i:=c) (j:=c'-1) ∅ ∅;have g4:=Je hr (i:=U-c') (j:=m-c-1) ∅ ∅;have J:jA κ bb (r.getD (m-c-1) 0)<|r.getD (U-c') 0:=by
   rcases Z with e|e
   .rw [<- e] at O;exact Gf g1 O
   .exact Gf g1 (Gf e O)
  rcases g4 with e|e
  .rw [<- e] at J;exact Ge J J
  .exact Ge J e
theorem qo(h:a<=b):l.take b=l.take a++jK l a b:=by
 unfold jK;rw[<- List.take_add,show a+(b-a)=b by lia]
theorem qu{B:List Nat}(h:jK l a b=z::B):a<l.length/\z=l.getD a 0:=by
 unfold jK at h;cases e:l.drop a with
 |nil=>rw[e] at h;simp at h
 |cons y D=>
  rw[e] at h;cases k:b-a with
  |zero=>rw[k] at h;simp at h
  |succ k'=>
   rw[k,List.take_succ_cons] at h;injection h with h1 _
   rw[<- h1];exact IH e
theorem CF(t:Tu n (oS κ bb) pr){out:List<|List Nat}(hp:0<ps)(h:Ap pr l r ps out)(nl:Nt pr l)(nr:Nt pr r):out.flatten.Perm (l++r)/\Nt pr out.flatten:=by
 obtain⟨cs,h1,h2,h3,h4,h5,h6⟩:=h;have hl:=F1 t nl;have hr:=F1 t nr;have hm:∀j,aT l r ps j<=aT l r ps (j+1):=λj=>by
  unfold aT;exact Nat.div_le_div_right<|Nat.mul_le_mul_left _<|kR _
 have go:∀k,k<=ps->(out.take k).flatten.Perm (l.take (cs.getD k 0)++r.take (aT l r ps k-cs.getD k 0))/\Nt pr (out.take k).flatten:=λk=>by
  induction k with
  |zero=>
   intro _;rw[h2,show aT l r ps 0=0 by unfold aT;rw[Tj,Nat.zero_div]];exact#[.refl _,trivial]
  |succ k ih=>
   intro hk;obtain⟨U,p2⟩:=ih ∅;have Z:k<out.length:=∅
   obtain⟨J,q2⟩:=h6 k _<|bV Z;have O:=h4 k ∅;obtain⟨w1,w2⟩:=HZ t hl hr (hm k) O<|h4 (k+1) hk;rw[Sx,bV Z,Option.toList_some,tJ,show[out[k]].flatten=out[k] by simp];generalize out[k]=p at J q2;rw[qo w1,qo w2];generalize cs.getD (k+1) 0=c' at*;generalize aT l r ps (k+1)=m' at*;generalize cs.getD k 0=c at*;generalize aT l r ps k=m at*;have z1:=O.cl;have z2:=O.cm;have z3:=O.cr;refine#[?_,Nb.app p2 q2 λA z u B eA eB=>?_]
   .refine (U.append J).trans (Gu λx=>?_);simp only[ph];lia
   .have pA:=F1 t p2;have pB:=F1 t q2;rw[eA] at pA U;rw[eB] at pB J;have sL:(l.take c).Pairwise<|jA κ bb:=hl.sublist<|Ew _ _;have sR:(r.take<|m-c).Pairwise<|jA κ bb:=hr.sublist<|Ew _ _;have tL:(jK l c c').Pairwise<|jA κ bb:=hl.sublist<|(Ew _ _).trans<|Tg _ _;have tR:(jK r (m-c)<|m'-c').Pairwise<|jA κ bb:=hr.sublist<|(Ew _ _).trans<|Tg _ _;have hz:(0<c/\z=l.getD (c-1) 0)∨(0<m-c/\z=r.getD (m-c-1) 0):=by
     rcases gZ.mp (U.mem_iff.mp<|fN _ aZ) with g|g
     .rcases Rj (l.take c) with e|⟨L',y,e⟩
      .rw [e] at g;cases g
      .rw [QH] at e;have ey:=uP pA sL (λx hx=>U.mem_iff.mpr<|mC _ hx) g e;obtain⟨k1,k2⟩:=JX z1 e;exact .inl #[k1,by rw[ey];exact k2]
     .rcases Rj (r.take<|m-c) with e|⟨L',y,e⟩
      .rw [e] at g;cases g
      .rw [QH] at e;have ey:=uP pA sR (λx hx=>U.mem_iff.mpr<|fN _ hx) g e;obtain⟨k1,k2⟩:=JX (show m-c<=r.length by lia) e;exact .inr #[k1,by rw[ey];exact k2]
    have hu:(c<l.length/\u=l.getD c 0)∨(m-c<r.length/\u=r.getD (m-c) 0):=by
     rcases gZ.mp (J.mem_iff.mp aZ) with g|g
     .cases e:jK l c c' with
      |nil=>rw[e] at g;cases g
      |cons y L'=>
       obtain⟨k1,k2⟩:=qu e;exact .inl #[k1,by rw[uW pB tL (λx hx=>J.mem_iff.mpr<|mC _ hx) g e];exact k2]
     .cases e:jK r (m-c) (m'-c') with
      |nil=>rw[e] at g;cases g
      |cons y L'=>
       obtain⟨k1,k2⟩:=qu e;exact .inr #[k1,by rw[uW pB tR (λx hx=>J.mem_iff.mpr<|fN _ hx) g e];exact k2]
    have nx:∀(L:List Nat) (i:Nat),Nt pr L->0<i->i<L.length->Td pr (L.getD (i-1) 0) (L.getD i 0):=λL i hL h0 hi=>hL.at (i:=i-1) (oX<|∅).1 (by rw[show i-1+1=i by lia];exact(oX hi).1);rcases hz with ⟨a1,rfl⟩|⟨a1,rfl⟩<;>rcases hu with ⟨b1,rfl⟩|⟨b1,rfl⟩
    .exact nx l c nl a1 b1
    .exact O.lo a1 b1
    .exact O.hi ∅ b1
    .exact nx r _ nr a1 b1
 have:=go ps<|aN _;rw[h3,tM<|∅,show aT l r ps ps-l.length=r.length by unfold aT;rw[S9 _ hp];lia,tM<|aN _,tM<|aN _] at this;exact this
end
section
variable {α β:Type}{n:Nat}{An:Nat->Nat->Nat->Bool}{lim:Option Nat}{exc:List A3->Prop}
def Wx(n:Nat)(An:Nat->Nat->Nat->Bool)(lim:Option Nat)(exc:List A3->Prop):Pg α->List A3->(α->List A3->Prop)->Prop
 |.ret a,pr,post=>post a pr
 |.ask p q k,pr,post=>q<p/\p<n/\pr.length<=800000/\((∃m,lim=Zh m/\m<=pr.length/\exc pr)∨(∀m,lim=Zh m->pr.length<m)/\Wx n An lim exc (k<|An pr.length p q) (pr++[(p,q,An pr.length p q)]) post)
theorem Wx.imp{P Q:α->List A3->Prop}:∀{x:Pg α} {pr:List A3},Wx n An lim exc x pr P->(∀a pr',P a pr'->Q a pr')->Wx n An lim exc x pr Q
 |.ret a,pr,h,f=>f a pr h
 |.ask p q k,pr,h,f=>#[h.1,h.2.1,h.2.2.1,h.2.2.2.imp id λz=>#[z.1,z.2.imp f]]
theorem Wx.bind{f:α->Pg β}{P:β->List A3->Prop}:∀{x:Pg α} {pr:List A3},Wx n An lim exc (x.bind f) pr P->Wx n An lim exc x pr λa pr'=>Wx n An lim exc (f a) pr' P
 |.ret a,pr,h=>h
 |.ask p q k,pr,h=>#[h.1,h.2.1,h.2.2.1,h.2.2.2.imp id λz=>#[z.1,Wx.bind z.2]]
theorem Wx.UU{P:α->List A3->Prop}{Q:α->Prop}:∀{x:Pg α} {pr:List A3},Wx n An lim exc x pr P->x.Al Q->Wx n An lim exc x pr λa pr'=>Q a/\P a pr'
 |.ret a,pr,h,g=>#[g,h]
 |.ask p q k,pr,h,g=>#[h.1,h.2.1,h.2.2.1,h.2.2.2.imp id λz=>#[z.1,z.2.UU<|g _]]
theorem Wa.wx(An:Nat->Nat->Nat->Bool){P:α->List A3->Prop}:∀{x:Pg α} {pr:List A3},Wa n x pr P->(∀m,lim=Zh m->pr.length<=m)->(∀m,lim=Zh m->m<(pr++(x.run An pr.length).2).length->exc ((pr++(x.run An pr.length).2).take m))->
  Wx n An lim exc x pr λa pr'=>P a pr'/\a=(x.run An pr.length).1/\pr'=pr++(x.run An pr.length).2/\∀m,lim=Zh m->pr'.length<=m
 |.ret a,pr,h,hl,_=>#[h,rfl,by rw[Pg.run,iG],hl]
 |.ask p q k,pr,h,hl,hx=>by
  have e:(pr++[(p,q,An pr.length p q)]).length=pr.length+1:=by rw[aQ];rfl
  have O:pr++((Pg.ask p q k).run An pr.length).2=(pr++[(p,q,An pr.length p q)])++((k<|An pr.length p q).run An (pr++[(p,q,An pr.length p q)]).length).2:=by rw[e,Pg.run,fL];rfl
  rw[O] at hx;refine#[h.1,h.2.1,h.2.2.1,?_];by_cases hm:∃m,lim=Zh m/\m<=pr.length
  .obtain ⟨m,J,e2⟩:=hm;obtain rfl:m=pr.length:=Nat.le_antisymm e2<|hl m J;have:=hx _ J (by rw[aQ,e];lia);rw[fL,T3] at this;exact .inl #[_,J,e2,this]
  .have lt:∀m,lim=Zh m->pr.length<m:=λm z=>Nat.lt_of_not_le λy=>hm #[m,z,y];refine .inr #[lt,(Wa.wx An (h.2.2.2 _) (λm z=>by rw[e];exact lt m z) hx).imp λa pr' z=>#[z.1,?_,?_,z.2.2.2]]
   .rw [z.2.1,e];rfl
   .rw [z.2.2.1,O]
end
open Po
section
variable {n:Nat}
theorem Wa.unbind{α z:Type}{f:α->Pg z}{P:z->List A3->Prop}:∀{x:Pg α} {pr:List A3},Wa n (x.bind f) pr P->Wa n x pr λa pr'=>Wa n (f a) pr' P
 |.ret a,pr,h=>h
 |.ask p q k,pr,h=>#[h.1,h.2.1,h.2.2.1,λb=>Wa.unbind<|h.2.2.2 b]
noncomputable def mJ(pcs:List<|List Nat):Nat->List Nat->W->List Nat->Pg (Option<|List Nat×Nat)
 |0,_,w,acc=>match w 0 pcs.length with
  |some (Zh c)=>.ret<|some (acc,c.1)
  |_=>.ret Zi
 |k+1,ts,w,acc=>match w 0 pcs.length with
  |some (Zh c)=>(jY ((mts 0 pcs.length).filter<|rT c.2)<|put w c.2 (c.2+1)<|mS pcs (qm ts c.2) c.2).bind λo=>match o with
   |none=>.ret Zi
   |some w'=>mJ pcs k (qm ts c.2) w'<|acc++[c.1]
  |_=>.ret Zi
noncomputable def Eb(pcs:List<|List Nat)(k:Nat):Pg<|Option<|List Nat×Nat:=(jY (mts 0 pcs.length)<|wB pcs pcs.length).bind λo=>match o with
 |none=>.ret Zi
 |some w=>mJ pcs k (Pp pcs.length 0) w []
def Goes(n:Nat)(pcs:List<|List Nat)(r k:Nat)(P:Option (List Nat)->List A3->Prop)(o:Option<|List Nat×Nat)(pr:List A3):Prop:=∃a x i ts w,o=Zh (a,x)/\a.length=k/\w 0 pcs.length=Zh (Zh (x,i))/\Wa n (oU pcs (r+1) ts w a) pr P
theorem uf{pcs:List<|List Nat}{r:Nat}{P:Option (List Nat)->List A3->Prop}(J:∀pr,¬ P Zi pr):∀(k:Nat) (ts:List Nat) (w:W) (acc:List Nat) (pr:List A3),Wa n (oU pcs (k+(r+1)) ts w acc) pr P->Wa n (mJ pcs k ts w acc) pr (Goes n pcs r (acc.length+k) P)
 |0,ts,w,acc,pr,h=>by
  rw[rZ] at h;have h':=h;rw[oU] at h';rw[mJ];split at h'
  .rename_i c hc
   (try rw[hc])
   exact#[acc,c.1,c.2,ts,w,rfl,rfl,hc,h]
  .exact absurd h' (J _)
 |k+1,ts,w,acc,pr,h=>by
  rw[show k+1+(r+1)=(k+(r+1))+1 by lia,oU] at h;rw[mJ];split at h
  .rename_i c hc
   (try rw[hc])
   refine Wa.bind<|h.unbind.imp λo pr' z=>?_;cases o with
   |none=>exact absurd z<|J _
   |some w'=>
    refine(uf J k _ w' _ pr' z).imp λo pr2 y=>?_;rw[aQ,fM,show acc.length+1+k=acc.length+(k+1) by lia] at y;exact y
  .exact absurd h (J _)
theorem lJ{pcs:List<|List Nat}{r:Nat}{P:Option (List Nat)->List A3->Prop}(J:∀pr,¬ P Zi pr)(O:(pcs.map PV).sum=k+(r+1))(h:Wa n (D9 pcs) pr P):Wa n (Eb pcs k) pr<|Goes n pcs r k P:=by
 unfold D9 at h;unfold Eb;refine Wa.bind<|h.unbind.imp λo pr' z=>?_;cases o with
 |none=>exact absurd z<|J _
 |some w=>
  have z:Wa n (oU pcs (pcs.map PV).sum (Pp pcs.length 0) w []) pr' P:=z;rw[O] at z;have:=uf J k _ w [] pr' z;rw[r6,rZ] at this;exact this
end
section
variable {n:Nat}{An:Nat->Nat->Nat->Bool}
theorem Wa.len{α:Type}{P:α->List A3->Prop}(An:Nat->Nat->Nat->Bool):∀{x:Pg α} {pr:List A3},Wa n x pr P->(x.run An pr.length).2.length<=800001-pr.length
 |.ret a,pr,h=>cQ _
 |.ask p q k,pr,h=>by
  have:=Wa.len An<|h.2.2.2<|An pr.length p q;rw[aQ,fM] at this;have e:=h.2.2.1;rw[Pg.run,cF];lia
noncomputable def flp(bb:Bool)(pr:List A3):List A3:=cond bb (pr.map λe=>(e.1,e.2.1,!e.2.2)) pr
theorem IG(bb:Bool)(pr:List A3):(flp bb pr).length=pr.length:=by cases bb;rfl;exact aM ..
theorem Ir(bb:Bool)(pr:List A3):flp bb (flp bb pr)=pr:=by
 cases bb
 .rfl
 .show List.map _ (List.map _ pr)=pr;rw[En];exact(SK λe _=>by obtain⟨a,b,c⟩:=e;cases c<;>rfl).trans<|List.map_id _
theorem vb(bb:Bool)(a b:List A3):flp bb (a++b)=flp bb a++flp bb b:=by cases bb;rfl;exact cU
noncomputable def Cm{α:Type}:Pg α->Pg α
 |.ret a=>.ret a
 |.ask p q k=>.ask p q λb=>Cm<|k<|!b
noncomputable def Xo{α:Type}(bb:Bool)(x:Pg α):Pg α:=cond bb (Cm x) x
theorem Wa.flip{α:Type}{P:α->List A3->Prop}:∀{x:Pg α} {pr:List A3},Wa n x (flp Zj pr) (λa pr'=>P a<|flp Zj pr')->Wa n (Cm x) pr P
 |.ret a,pr,h=>by have h:P a<|flp Zj<|flp Zj pr:=h;rw[Ir] at h;exact h
 |.ask p q k,pr,h=>by
  refine#[h.1,h.2.1,by rw[<- IG Zj pr];exact h.2.2.1,λb=>Wa.flip ?_];rw[vb];exact h.2.2.2<|!b
theorem Wa.Xo{α:Type}{bb:Bool}{P:α->List A3->Prop}{x:Pg α}{pr:List A3}(h:Wa n x (flp bb pr) λa pr'=>P a<|flp bb pr'):Wa n (Xo bb x) pr P:=by
 cases bb
 .exact h
 .exact Wa.flip h
noncomputable def DS(m deal:Int):Nat->Int
 |0=>deal/2
 |k+1=>(if DS m deal k<1 then m+(deal%65521+97*(k:Int))*48271%65519 else DS m deal k)/m
noncomputable def DR(m deal:Int)(k:Nat):Int:=if DS m deal k<1 then m+(deal%65521+97*(k:Int))*48271%65519 else DS m deal k
noncomputable def toS(m deal:Int)(k:Nat):Nat:=((if deal%2=1 then DR m deal k else(k:Int)*(1+deal/2%97)/5)%m).toNat
noncomputable def dlt(m:Nat)(deal:Int)(l:List Nat):Nat->List (List Nat)
 |0=>Pp m []
 |k+1=>(dlt m deal l k).set (toS m deal k)<|(dlt m deal l k).getD (toS m deal k) []++[l.getD k 0]
theorem xE(h:0<m):toS m deal k<m:=by
 unfold toS;have h1:=Pq (if deal%2=1 then DR m deal k else(k:Int)*(1+deal/2%97)/5) (show(m:Int)≠0 by lia);have h2:=Px (if deal%2=1 then DR m deal k else(k:Int)*(1+deal/2%97)/5) (show(0:Int)<m by lia);lia
theorem vE{m:Nat}{deal:Int}{l:List Nat}:∀k,(dlt m deal l k).length=m
 |0=>vR ..
 |k+1=>by rw[dlt,GJ,vE k]
theorem zE{L:List<|List Nat}(h:j<L.length):(L.set j<|L.getD j []++[x]).flatten.Perm<|L.flatten++[x]:=by
 have e:L=L.take j++L.getD j []::L.drop (j+1):=by
  rw[fC,bV h];exact(qf j L).symm.trans<|by rw[Ay h];rfl
 refine Gu λc=>?_;rw[List.set_eq_take_append_cons_drop,Z9 h];have:=congrArg (λz:List (List Nat)=>z.flatten.count c) e;have this:L.flatten.count c=(L.take j++L.getD j []::L.drop (j+1)).flatten.count c:=this;rw[ph,this];simp only[tJ,List.flatten_cons,ph];lia
theorem rF{m:Nat}{deal:Int}{l:List Nat}(h:0<m):∀k,k<=l.length->(dlt m deal l k).flatten.Perm (l.take k)
 |0,_=>by
  rw[dlt,List.take_zero];have:∀m,(Pp m ([]:List Nat)).flatten=[]:=λm=>by induction m with|zero=>rfl|succ m ih=>rw[List.replicate_succ,List.flatten_cons,ih];rfl
  rw[this]
 |k+1,hk=>by
  rw[dlt];refine(zE<|by rw[vE];exact xE h).trans ?_;rw[Rb,bV<|∅,fC,bV<|∅];exact(rF h k<|∅).append_right _
theorem JB{m:Nat}{deal:Int}{l:List Nat}:∀k,k<=l.length->∀p∈dlt m deal l k,p.Sublist (l.take k)
 |0,_,p,hp=>by rw[(List.mem_replicate.mp hp).2];exact List.nil_sublist _
 |k+1,hk,p,hp=>by
  have e:l.take (k+1)=l.take k++[l.getD k 0]:=by rw[Rb,bV<|∅,fC,bV<|∅];rfl
  rw[dlt] at hp;rw[e];rcases List.mem_or_eq_of_mem_set hp with h|h
  .exact (JB k ∅ p h).trans (List.sublist_append_left _ _)
  .rw [h];refine List.Sublist.append ?_<|List.Sublist.refl _;rw[fC];cases z:(dlt m deal l k)[toS m deal k]? with
   |none=>exact List.nil_sublist _
   |some q=>exact JB k ∅ q<|jD z
theorem DE{R:Nat->Nat->Prop}:∀{l:List Nat},l.Pairwise R->Nb R l
 |[],_=>trivial
 |[_],_=>trivial
 |a::b::l,h=>#[(Em.mp h).1 b aZ,DE (Em.mp h).2]
noncomputable abbrev fT(m:Nat)(deal:Int)(l:List Nat):List<|List Nat:=dlt m deal l l.length
theorem D2(h:0<m):(fT m deal l).flatten.Perm l:=by
 have:=rF (deal:=deal) (l:=l) h l.length<|aN _;rw[R4] at this;exact this
theorem zQ(J:l.Pairwise<|Td pr){p:List Nat}(z:p∈fT m deal l):Nt pr p:=by
 have:=JB (deal:=deal) (l:=l) l.length (aN _) p z;rw[R4] at this;exact DE<|J.sublist this
theorem zP(h:0<m)(z:l.Perm<|OW n)(O:l.Pairwise<|Td pr):Pc n pr<|fT m deal l:=
 #[λp J=>zQ O J,(D2 h).nodup_iff.mpr<|z.nodup_iff.mpr Ax,λx hx=>qb.mp<|z.mem_iff.mp<|(D2 h).mem_iff.mp hx]
theorem I0:fT 2 deal l=[(fT 2 deal l).getD 0 [],(fT 2 deal l).getD 1 []]:=by
 have h:(fT 2 deal l).length=2:=vE _
 match fT 2 deal l,h with
 |[a,b],_=>rfl
noncomputable def sg(n:Nat):List<|List Nat:=(OW n).map λx=>[x]
theorem CQ(n:Nat):(sg n).length=n:=by unfold sg;rw[aM,fW]
theorem yl{n i:Nat}{ys:List Nat}(h:(sg n)[i]?=Zh ys):ys=[i]/\i<n:=by
 have hi:=(jS.mp h).1;rw[CQ] at hi;unfold sg at h;rw[eJ,Ep hi] at h;cases h;exact#[rfl,hi]
theorem K9:∀n,((sg n).map PV).sum=n
 |0=>rfl
 |n+1=>by
  have:=K9 n;unfold sg at this⊢;rw[Rw,cU,cU,List.sum_append,this];rfl
theorem Gi:∀n,(sg n).flatten=OW n
 |0=>rfl
 |n+1=>by
  have:=Gi n;unfold sg at this⊢;rw[Rw,cU,tJ,this];rfl
theorem Dz(n:Nat)(pr:List A3):Pc n pr<|sg n:=#[λp h=>by
 unfold sg at h;obtain⟨x,_,rfl⟩:=qg.mp h;exact trivial,by rw[Gi];exact Ax,λx hx=>by rw[Gi] at hx;exact qb.mp hx]
noncomputable def pC(n:Nat)(l:List Nat):List Nat:=(OW n).filter λx=>decide<|x∈l
noncomputable def yp(n x:Nat)(l:List Nat):List Nat:=(OW n).filter λy=>decide (y≠x)&&!decide (y∈l)
noncomputable def yt(n:Nat)(bb:Bool)(p:List Nat×Nat):List Nat:=cond bb (yp n p.2 p.1++p.2::pC n p.1)<|pC n p.1++p.2::yp n p.2 p.1
theorem JU(h:(l++r).Perm<|OW n):(pC n l).Perm l:=by
 refine(h.symm.filter _).trans ?_;have J:=C6.mp<|h.nodup_iff.mpr Ax;rw[C8,List.filter_eq_self.mpr (λx hx=>by simpa using hx),List.filter_eq_nil_iff.mpr (λx hx=>by simpa using λz=>J.2.2 x z x hx rfl),iG]
theorem Jz{a:List Nat}(h:(a++x::r).Perm<|OW n):yp n x a=pC n r:=by
 refine List.filter_congr λy O=>?_;have J:=C6.mp<|h.nodup_iff.mpr Ax;have nx:=Ex.mp J.2.1;have hm:=(h.mem_iff (a:=y)).mpr O;by_cases z:y∈r
 .have h1:y≠x:=λe=>nx.1 (by rw[<- e];exact z);have h2:y∉a:=λw=>J.2.2 y w y (bF _ z) rfl;simp[z,h1,h2]
 .rcases gZ.mp hm with w|w
  .simp [w,z]
  .rcases bY.mp w with w|w
   .simp [w,z];exact λe=>z<|by rw[w];exact e
   .exact absurd w z
theorem nJ(h:∀x,x∈l↔x∈r):pC n l=pC n r:=List.filter_congr λy _=>by simp[h y]
theorem tF{G:Nat->Nat->Nat->Nat->Nat}{ls wd d:Nat}(hw:0<wd)(hd:2<=d)(J:d<=9)(hn:n<=30)(c:pr.length+81000<=800000):Wa n (Ji G ls wd d n) pr λo pr'=>∃os,o=Zh os/\os.Perm (Pz 0 n)/\Nt pr' os:=by
 have h1:=Kv (l:=n) (d:=wd) hw;have h2:cO n wd*wd<n-0+wd:=by
  unfold cO;have:=Nat.div_mul_le_self (n+wd-1) wd;lia
 have h3:cO n wd<=n+1:=by
  unfold cO;by_cases z:n=0
  .subst z;have:(0+wd-1)/wd<2:=Nat.div_lt_of_lt_mul ∅;lia
  .refine Nat.div_le_of_le_mul ?_;have:wd*(n+1)=wd*n+wd:=RK ..;have:n<=wd*n:=Nat.le_mul_of_pos_left n hw;lia
 refine Wa.bind<|(uJ (G:=G) (ls:=ls) hw ∅ (cO n wd) 0 [] pr ∅ h2 (by rw[Nat.zero_min];exact .refl _) (λp O=>by cases O)<|∅).imp λpcs pr1 h=>?_;obtain⟨a1,a2,a3,a4,a5⟩:=h;rw[r6,rZ] at a3;have hl:=a1.length_eq;rw[C9] at hl;have pc:Pc n pr1 pcs:=#[a2,a1.nodup_iff.mpr List.nodup_range',λx hx=>by have:=Ek.mp<|a1.mem_iff.mp hx;lia]
 refine Wa.bind<|(LM hd J pcs.length pcs [] pr1 pc ∅ ∅ ∅<|∅).imp λo pr2 h=>?_;obtain⟨r,rfl,Z,U,_,_⟩:=h;exact#[r.1,rfl,Z.trans a1,U]
theorem Jh{α:Type}{P:α->Prop}(h:∀a,P a):∀{x:Pg α},x.Al P
 |.ret a=>h a
 |.ask _ _ k=>λb=>Jh h
theorem nP{R:Nat}:∀(m pl:Nat) (os:List Nat),os.length+m<=R->(lM R m pl os).Al λo=>o.isLeft=Zj
 |0,pl,os,h=>rfl
 |m+1,pl,os,h=>by
  rw[lM,Z8<|∅];have h2:((vB (os.drop<|os.length-R) pl).bind λr=>lM R m (pl+1)<|gT os (os.length-R+r) pl).Al λo=>o.isLeft=Zj:=Pg.Al.bind (Jh λr=>nP m (pl+1) _<|by rw[bS.length_eq,aQ,fM];lia);exact Pg.Al.bind h2
noncomputable def dY(G:Nat->Nat->Nat->Nat->Nat)(n wy:Nat)(cl:Int)(od:List Nat):Pg<|Option<|List Nat:=
 if wy=0 then(iY vB n 0 []).bind λos=>.ret<|some os
 else if wy=1 then(iY DZ n 0 []).bind λos=>.ret<|some os
 else if wy=2 then(Cz G (1+cl%9).toNat 0 n).bind λos=>.ret<|some os
 else if wy=3 then Ji G (1+cl/27%4).toNat (1+cl%9).toNat (2+cl/9%3).toNat n
 else if wy=9 then(lM n n 0 []).bind λr=>.ret r.getLeft?
 else if wy=7 then(Xo (decide<|n-1-(cl%n).toNat<(cl%n).toNat)<|Eb (sg n)<|min (cl%n).toNat<|n-1-(cl%n).toNat).bind λo=>.ret<|o.map<|yt n<|decide<|n-1-(cl%n).toNat<(cl%n).toNat
 else if wy=4 then D9 (fT (2+cl%4).toNat (cl/60) od)
 else if wy=5 then(vF (2+cl/4%3).toNat (2+cl%4).toNat (fT (2+cl%4).toNat (cl/60) od) []).bind λo=>.ret<|o.map PU
 else if wy=6 then(G8 ((fT 2 (cl/60) od).getD 0 [])<|(fT 2 (cl/60) od).getD 1 []).bind λos=>.ret<|some os
 else(CD ((fT 2 (cl/60) od).getD 0 []) ((fT 2 (cl/60) od).getD 1 []) (1+cl/4%5).toNat).bind λout=>.ret<|some out.flatten
def Rt(n wy:Nat)(cl:Int)(od:List Nat)(o:Option<|List Nat)(pr:List A3):Prop:=∃os,o=Zh os/\
 if wy=7 then ∃a x,os=yt n (decide<|n-1-(cl%n).toNat<(cl%n).toNat) (a,x)/\Goes n (sg n) (n-1-min (cl%n).toNat (n-1-(cl%n).toNat)) (min (cl%n).toNat<|n-1-(cl%n).toNat) (λo pr'=>∃os,o=Zh os/\os.Perm (OW n)/\Nt pr' os) (Zh (a,x)) (flp (decide<|n-1-(cl%n).toNat<(cl%n).toNat) pr)
 else if wy=8 then ∃out,os=out.flatten/\Nt pr ((fT 2 (cl/60) od).getD 0 [])/\Nt pr ((fT 2 (cl/60) od).getD 1 [])/\Ap pr ((fT 2 (cl/60) od).getD 0 []) ((fT 2 (cl/60) od).getD 1 []) (1+cl/4%5).toNat out
 else os.Perm (OW n)/\Nt pr os
theorem KL{G:Nat->Nat->Nat->Nat->Nat}(hw:wy<10)(hn:n<=30)(h0:wy≠0->0<n)(J:od.Perm<|OW n)(hk:od.Pairwise<|Td pr)(c:pr.length+81000<=800000):Wa n (dY G n wy cl od) pr<|Rt n wy cl od:=by
 have Z:Pz 0 n=OW n:=List.range_eq_range'.symm;have U:od.length=n:=by rw[J.length_eq,fW]
 unfold dY;by_cases w0:wy=0
 .rw [Z9 w0];refine Wa.bind<|(K3 (f:=0) n 0 [] pr (.refl _) (aN _) ∅ ∅ trivial<|∅).imp λos pr' h=>#[os,rfl,?_];rw[Z8<|∅,Z8<|∅];have:=h.1;rw[rZ,Nat.sub_zero,Z] at this;exact#[this,h.2.1]
 rw[Z8 w0];have h0:=h0 w0;by_cases w1:wy=1
 .rw [Z9 w1];refine Wa.bind<|(uB n 0 [] pr (.refl _) ∅ ∅ trivial<|∅).imp λos pr' h=>#[os,rfl,?_];rw[Z8<|∅,Z8<|∅];have:=h.1;rw[rZ,Z] at this;exact#[this,h.2]
 rw[Z8 w1];by_cases w2:wy=2
 .rw [Z9 w2];refine Wa.bind<|(vq (G:=G) (ls:=(1+cl%9).toNat) (s:=0) (e:=n) (cQ _) (aN _) ∅<|∅).imp λos pr' h=>#[os,rfl,?_];rw[Z8<|∅,Z8<|∅];have:=h.1;rw[Nat.sub_zero,Z] at this;exact#[this,h.2.1]
 rw[Z8 w2];by_cases w3:wy=3
 .rw [Z9 w3];have m1:=Pq cl (show(9:Int)≠0 by decide);have m2:=Pq (cl/9) (show(3:Int)≠0 by decide);have m3:=Px (cl/9) (show(0:Int)<3 by decide);refine(tF (G:=G) (ls:=(1+cl/27%4).toNat) ∅ ∅ ∅ hn c).imp λo pr' h=>?_;obtain⟨os,e,h1,h2⟩:=h;rw[Z] at h1;exact#[os,e,by rw[Z8<|∅,Z8<|∅];exact#[h1,h2]]
 rw[Z8 w3];by_cases w9:wy=9
 .rw [Z9 w9];refine Wa.bind<|((uq (R:=n) n 0 [] pr (.refl _) (rZ _) ∅ trivial<|∅).UU<|nP n 0 []<|by rw[r6];lia).imp λo pr' h=>?_;cases o with
  |inl os=>
   have h:os.Perm (Pz 0 n)/\Nt pr' os:=h.2;rw[Z] at h;exact#[os,rfl,by rw[Z8<|∅,Z8<|∅];exact h]
  |inr x=>
   exact absurd h.1<|by simp
 rw[Z8 w9];by_cases w7:wy=7
 .rw [Z9 w7];have m1:=Pq cl (show(n:Int)≠0 by lia);have m2:=Px cl (show(0:Int)<n by lia);obtain⟨m,em⟩:∃m:Nat,(cl%n).toNat=m:=#[_,rfl]
  have hm:m<n:=∅
  have aa:∀bb:Bool,Wa n (Eb (sg n)<|min m<|n-1-m) (flp bb pr) (Goes n (sg n) (n-1-min m (n-1-m)) (min m<|n-1-m) λo pr'=>∃os,o=Zh os/\os.Perm (OW n)/\Nt pr' os):=λbb=>
   lJ (r:=n-1-min m (n-1-m)) (λpr z=>by obtain⟨_,z,_⟩:=z;cases z) (by rw[K9];lia) ((J0 (D:=200) (n:=n) (pr:=flp bb pr) (by rw[CQ];lia) (Dz n _)<|by rw[Gi,fW,IG];lia).imp λo pr' h=>by
    obtain⟨os,e,h1,h2,_⟩:=h;rw[Gi] at h1;exact#[os,e,h1,h2])
  rw[em];refine Wa.bind<|Wa.Xo<|(aa _).imp λo pr' h=>?_;obtain⟨a,x,i,ts,w,e,h1,h2,h3⟩:=h;subst e;refine#[_,rfl,?_];rw[Z9 w7,em];refine#[a,x,rfl,a,x,i,ts,w,rfl,h1,h2,?_];rw[Ir];exact h3
 rw[Z8 w7];have d4:=Pq cl (show(4:Int)≠0 by decide);have d5:=Px cl (show(0:Int)<4 by decide);have fl:∀m:Nat,0<m->(fT m (cl/60) od).flatten.length=n:=λm hm=>by rw[(D2 hm).length_eq,U]
 by_cases w4:wy=4
 .rw [Z9 w4];refine(J0 (D:=5) (n:=n) (by rw[vE];lia) (zP ∅ J hk)<|by rw[fl _<|∅];lia).imp λo pr' h=>?_;obtain⟨os,e,h1,h2,_⟩:=h;exact#[os,e,by rw[Z8 w7,Z8<|∅];exact#[h1.trans<|(D2<|∅).trans J,h2]]
 rw[Z8 w4];by_cases w5:wy=5
 .rw [Z9 w5];have m2:=Pq (cl/4) (show(3:Int)≠0 by decide);have m3:=Px (cl/4) (show(0:Int)<3 by decide);refine Wa.bind<|(LM (n:=n) (d:=(2+cl/4%3).toNat) ∅ ∅ (2+cl%4).toNat (fT (2+cl%4).toNat (cl/60) od) [] pr (zP ∅ J hk) (by rw[vE];lia) (by rw[fl _<|∅];lia) (by rw[vE];lia)<|by rw[vE];lia).imp λo pr' h=>?_;obtain⟨r,e,h1,h2,_⟩:=h;subst e;exact#[r.1,rfl,by rw[Z8 w7,Z8<|∅];exact#[h1.trans<|(D2<|∅).trans J,h2]]
 rw[Z8 w5];have e2:=I0 (deal:=cl/60) (l:=od);have p2:=D2 (m:=2) (deal:=cl/60) (l:=od) (by decide);have O:∀p∈fT 2 (cl/60) od,Nt pr p:=λp hp=>zQ hk hp;rw[e2] at p2 O;unfold Rt;generalize (fT 2 (cl/60) od).getD 0 []=A at p2 O e2⊢;generalize (fT 2 (cl/60) od).getD 1 []=B at p2 O e2⊢;have p3:(A++B).Perm od:=by
  have:[A,B].flatten=A++B:=by simp
  rw[this] at p2;exact p2
 have n1:Nt pr A:=O A aZ;have n2:Nt pr B:=O B<|bF _ aZ;have lt:∀x∈A++B,x<n:=λx hx=>qb.mp<|J.mem_iff.mp<|p3.mem_iff.mp hx;have nd:=C6.mp<|p3.nodup_iff.mpr<|J.nodup_iff.mpr Ax;have tw:Tw n A B:=#[λx hx=>lt x<|mC _ hx,λx hx=>lt x<|fN _ hx,λx hx y hy=>nd.2.2 x hx y hy]
 have ln:A.length+B.length=n:=by rw[<- aQ,p3.length_eq,U]
 by_cases w6:wy=6
 .rw [Z9 w6];refine Wa.bind<|(LL tw n1 n2<|∅).imp λos pr' h=>#[os,rfl,?_];rw[Z8 w7,Z8<|∅];exact#[h.1.trans<|p3.trans J,h.2.1]
 rw[Z8 w6];have m2:=Pq (cl/4) (show(5:Int)≠0 by decide);have m3:=Px (cl/4) (show(0:Int)<5 by decide);refine Wa.bind<|(CC (ps:=(1+cl/4%5).toNat) tw ∅ ∅ ∅ n1 n2<|∅).imp λout pr' h=>#[_,rfl,?_];rw[Z8 w7,Z9<|∅];exact#[out,rfl,n1.mono h.1,n2.mono h.1,h.2]
theorem nS{pcs:List<|List Nat}:∀(k:Nat) (ts:List Nat) (w:Po.W) (acc:List Nat),(oU pcs k ts w acc).Al λo=>∀os,o=Zh os->acc<+:os
 |0,ts,w,acc=>λos e=>by cases e;exact fK _
 |k+1,ts,w,acc=>by
  rw[oU];split
  .refine Pg.Al.bind (Jh λo=>?_);cases o with
   |none=>exact λos e=>by cases e
   |some w'=>exact(nS k _ w' _).imp λo h os e=>(Q2 _ _).trans<|h os e
  .exact λos e=>by cases e
theorem nR{pcs:List<|List Nat}{ts:List Nat}{w:Po.W}{acc:List Nat}{x:Nat×Nat}(h:w 0 pcs.length=Zh (Zh x)):(oU pcs (k+1) ts w acc).Al λo=>∀os,o=Zh os->acc++[x.1]<+:os:=by
 rw[oU,h];refine Pg.Al.bind<|Jh λo=>?_;cases o with
 |none=>exact λos e=>by cases e
 |some w'=>exact nS k _ w' _
theorem Goes.os{r k:Nat}{o:Option<|List Nat×Nat}{pr:List A3}(g:Goes n (sg n) r k (λo pr'=>∃os,o=Zh os/\os.Perm (OW n)/\Nt pr' os) o pr){An:Nat->Nat->Nat->Bool}(U:∀k p q,An k p q=An 0 p q)(Z:Prop)(t:Z->Tu n An pr):∃a x rest pr2,o=Zh (a,x)/\a.length=k/\(a++x::rest).Perm (OW n)/\Nt pr2 (a++x::rest)/\(Z->Tu n An pr2):=by
 obtain⟨a,x,i,ts,w,e,h1,h2,h3⟩:=g;have fin:∀os,a++[x]<+:os->∃rest,os=a++x::rest:=λos ⟨rest,h⟩=>#[rest,by rw[<- h,fL];rfl]
 by_cases z:Z
 .obtain ⟨o,pr2,O,⟨os,e2,p2,J⟩,p4⟩:=(Wa.tu U h3<|t z).ex<|nR h2;obtain⟨rest,rfl⟩:=fin os<|O os e2;exact#[a,x,rest,pr2,e,h1,p2,J,λ_=>p4]
 .obtain ⟨o,pr2,O,⟨os,e2,p2,J⟩,_⟩:=(Wa.wp An h3).ex<|nR h2;obtain⟨rest,rfl⟩:=fin os<|O os e2;exact#[a,x,rest,pr2,e,h1,p2,J,λy=>absurd y z]
theorem nN{a rest:List Nat}(h:(a++x::rest).Perm<|OW n):(yt n bb (a,x)).Perm<|OW n:=by
 have h1:=JU h;have h2:(pC n rest).Perm rest:=JU (r:=x::a) (by
  refine Tb ?_ h;refine Gu λc=>?_;rw[ph,ph,r0,r0];lia)
 have e:yp n x a=pC n rest:=Jz h;refine Tb (Gu λc=>?_) h;have g1:=h1.count_eq c;have z:=h2.count_eq c;cases bb
 .show List.count c (pC n a++x::yp n x a)=_;rw[e,ph,ph,r0,r0];lia
 .show List.count c (yp n x a++x::pC n a)=_;rw[e,ph,ph,r0,r0];lia
noncomputable def mV(n wy:Nat)(cl:Int)(od:List Nat):List Nat:=if wy=7 then pC n (od.take (cl%n).toNat)++od.getD (cl%n).toNat 0::pC n (od.drop<|(cl%n).toNat+1) else od
theorem Bf{o:Option<|List Nat}(h:Rt n wy cl od o pr)(z:wy≠8):∃os,o=Zh os/\os.Perm (OW n):=by
 obtain⟨os,e,h⟩:=h;by_cases h7:wy=7
 .rw [Z9 h7] at h;obtain⟨a,x,e2,g⟩:=h;obtain⟨a',J,rest,_,e3,_,p,_⟩:=g.os (An:=λ_ _ _=>Zj) (λ_ _ _=>rfl) False PD;cases e3;exact#[os,e,by rw[e2];exact nN p]
 .rw [Z8 h7,Z8 z] at h;exact#[os,e,h.1]
theorem Tu.flip{κ:Nat->Int}(t:Tu n (oS κ Zk) pr):Tu n (oS κ bb)<|flp bb pr:=by
 cases bb
 .exact t
 .refine #[by rw[IG];exact t.1,λe O=>?_];obtain⟨z,J,rfl⟩:=qg.mp O;obtain⟨h1,h2,h3⟩:=t.2 z J;exact#[h1,h2,congrArg not h3]
theorem xr{κ:Nat->Int}{o:Option<|List Nat}(hn:0<n∨wy=0)(ho:od.Perm<|OW n)(U:od.Pairwise<|jA κ Zk)(t:Tu n (oS κ Zk) pr)(h:Rt n wy cl od o pr):o=Zh (mV n wy cl od):=by
 obtain⟨os,e,h⟩:=h;rw[e];refine congrArg Zh ?_;unfold mV;by_cases h7:wy=7
 .rw [Z9 h7] at h⊢;have hn:0<n:=∅
  have m1:=Pq cl (show(n:Int)≠0 by lia);have m2:=Px cl (show(0:Int)<n by lia);obtain⟨m,em⟩:∃m:Nat,(cl%n).toNat=m:=#[_,rfl]
  have hm:m<n:=∅
  rw[em] at h⊢;obtain⟨a,x,rfl,g⟩:=h;obtain⟨a',x',rest,pr2,e3,hl,p,nt,tu⟩:=g.os (An:=oS κ<|decide<|n-1-m<m) (λ_ _ _=>rfl) True λ_=>t.flip;cases e3;have O:=F1 (tu trivial) nt;have e4:yp n x a=pC n rest:=Jz p;have ln:=p.length_eq;rw[aQ,cF,fW] at ln;by_cases hb:n-1-m<m
  .rw [decide_eq_true hb] at O⊢;have J:rest.reverse++x::a.reverse=od:=by
    have e5:(a++x::rest).reverse=rest.reverse++x::a.reverse:=by rw[List.reverse_append,GH,fL];rfl
    rw[<- e5];exact Jx ((List.reverse_perm _).trans<|p.trans ho.symm) (List.pairwise_reverse.mpr O) U
   have z:rest.reverse.length=m:=by rw[GG];lia
   have t1:od.take m=rest.reverse:=by rw[<- J,<- z,T3]
   have t2:od.getD m 0=x:=by rw[<- J,fC,kE<|∅,z,kP];rfl
   have Z:od.drop (m+1)=a.reverse:=by rw[<- J,<- z,List.drop_append,Rc<|∅,GA];rfl
   rw[t1,t2,Z];show yp n x a++x::pC n a=_;rw[e4,nJ (r:=rest.reverse) λy=>GF.symm,nJ (l:=a) (r:=a.reverse) λy=>GF.symm]
  .rw [decide_eq_false hb] at O⊢;have J:a++x::rest=od:=Jx (p.trans ho.symm) O U;have z:a.length=m:=∅
   have t1:od.take m=a:=by rw[<- J,<- z,T3]
   have t2:od.getD m 0=x:=by rw[<- J,fC,kE<|∅,z,kP];rfl
   have Z:od.drop (m+1)=rest:=by rw[<- J,<- z,List.drop_append,Rc<|∅,GA];rfl
   rw[t1,t2,Z];show pC n a++x::yp n x a=_;rw[e4]
 .rw [Z8 h7] at h⊢;by_cases h8:wy=8
  .rw [Z9 h8] at h;obtain⟨out,rfl,n1,n2,ap⟩:=h;have m2:=Pq (cl/4) (show(5:Int)≠0 by decide);obtain⟨p1,p2⟩:=CF t ∅ ap n1 n2;refine Jx (p1.trans ?_) (F1 t p2) U;have:=D2 (m:=2) (deal:=cl/60) (l:=od) (by decide);rw[I0,show ∀A B:List Nat,[A,B].flatten=A++B from λA B=>by simp] at this;exact this
  .rw [Z8 h8] at h;exact Jx (h.1.trans ho.symm) (F1 t h.2) U
theorem Be{G:Nat->Nat->Nat->Nat->Nat}{An:Nat->Nat->Nat->Bool}(U:∀k Z p q,An k p q=An Z p q){pre:List A3}(hw:wy<10)(hn:n<=30)(h0:wy≠0->0<n)(J:od.Perm<|OW n)(O:od.Pairwise<|Td pre)(hp:pre.length<=4000):
  ((dY G n wy cl od).run An 0).2.length<=81001/\Rt n wy cl od ((dY G n wy cl od).run An 0).1 (pre++((dY G n wy cl od).run An 0).2)/\∀pr,pre<+:pr->pr.length<=700000->Wa n (dY G n wy cl od) pr λ_ _=>True:=by
 refine#[?_,?_,λpr f c=>(KL hw hn h0 J (O.imp λz=>z.mono f)<|∅).imp λ_ _ _=>trivial]
 .have h:=KL (G:=G) (cl:=cl) (pr:=pre++Pp (719000-pre.length) (0,0,Zk)) hw hn h0 J (O.imp λz=>z.mono<|Q2 _ _) (by rw[aQ,vR];lia);have:=h.len An;rw[IE U _ _ 0,aQ,vR] at this;lia
 .have:=qx An (KL (G:=G) (cl:=cl) (pr:=pre) hw hn h0 J O<|∅);rw[IE U _ pre.length 0] at this;exact this
end
end Pw
namespace Law
open PySem L2 Pw
variable {C CA CJ CP Pt a ak bl d dl f fg g gr jn lg ma ml ol pc pl rl ru rwA sd ta tk tl wd:OS}{dn gs l od ts:List Nat}{hls oa pls:List OS}{N cl:Int}{pr:List A3}{u y z:V}{Q Q':VK}{dv:List OR}{fd:Qg}{w:Po.W}{H H' H0 H4 H7 HA X X':Hp}{B e i j k ls m p q r wy x:Nat}{E:XK}{vs xs:List V}{K:W.Frag}{v:Po.Fr}{o:HO}{pcs:List (List Nat)}{α:Type}{b bb:Bool}{ks:List Int}{kvs:List (List Key×V)}{fl:List (Pj×V)}{D:Ends}{P:TS}
local macro_rules|`(tactic|walk_at "r")=>do let f:=fun(s:String)=>((s.splitOn).map fun x=>Lean.mkIdent x.toName).toArray;let b:=f "qp uS rq u6 xU EF Lc xV xY JM Hi Kd yn xI JA Dn xZ Ld nH yg Ho ya FG Hu yf xT xS xR xQ xP xO xN xM xK t6 tZ tY ux yz yv JJ K4 yB yy uA uv DP zI yR uM xk List.set_cons_zero List.set_cons_succ Eo List.nil_append iG true_and decide_eq_true_eq Bool.not_eq_true' decide_eq_false_iff_not iK List.map_nil cF r6 Nat.reduceAdd Nat.reduceSub rZ kP List.replicate_zero List.replicate_succ if_true if_false Dj Bool.true_eq_false Bool.not_true Bool.not_false";let a:=b++f "Km yd Bi Kf Dv DA EG Hl sr sE Cv ye D6 Bj HV Hk Ht Dq tB M7 Hy Hr Hq M5 tC t8 sq NA sx Hn Hm Dt xW xX Dy Kc Ds M8 Jf Ij lX gR Hw Bh Br yb vZ vY v9 su Bg M9 Hx Hs Hj Jg M6 Dr t7 L2.start";`(tactic|((try dsimp only[$[$a:ident],*]);(try simp only[$[$b:ident],*])))
local macro_rules | `(tactic| walk_at "l")=>`(tactic| ((repeat (first | rw[lkc,Z9 rfl] | rw[lkc,Z8 (by decide +kernel)]));first | done | rfl))
noncomputable def top(i:Nat):PM:=PySem.Challenge.pw_sorthall_k93_whole_stopped_and_given_mor.main.body.getD i<|.Pass #[0,0,0,0]
noncomputable abbrev Mh:PM:=gW (top 5) 0
noncomputable abbrev Mb:PM:=gW (top 7) 0
noncomputable abbrev Mc:PM:=gW (top 7) 1
noncomputable abbrev MJ:PM:=gW (top 7) 2
noncomputable abbrev MK:PM:=gW (top 7) 4
noncomputable abbrev K7:PM:=top 9
noncomputable abbrev Ms:PM:=gW (top 14) 0
noncomputable abbrev MB:PM:=gW (top 14) 1
noncomputable abbrev Md:PM:=gW (top 14) 2
noncomputable abbrev Mx:PM:=gW (top 14) 3
noncomputable abbrev MG:PM:=gW (top 14) 4
noncomputable abbrev LN:PM:=gW (top 14) 5
noncomputable abbrev Mw:PM:=gW (top 14) 6
noncomputable abbrev Lr:PM:=top 15
noncomputable abbrev Ml:PM:=top 17
noncomputable abbrev Mz:PM:=top 18
noncomputable abbrev ML:PM:=top 20
noncomputable abbrev L0:PM:=gW (top 21) 0
noncomputable abbrev MD:PM:=gW (top 21) 1
noncomputable abbrev My:PM:=gW (top 21) 2
noncomputable abbrev LP:PM:=gW (top 21) 3
noncomputable abbrev LZ:PM:=gW (top 21) 4
noncomputable abbrev LQ:PM:=gW (top 21) 5
noncomputable abbrev Mg:PM:=gW (top 21) 6
noncomputable abbrev L4:PM:=gW (top 21) 7
noncomputable abbrev L1:PM:=gW (top 21) 8
noncomputable abbrev MS:PM:=gW (top 22) 0
noncomputable abbrev MQ:PM:=gW (top 22) 1
noncomputable abbrev Ls:PM:=top 23
noncomputable abbrev Mm:PM:=top 25
noncomputable abbrev MA:PM:=top 27
noncomputable abbrev LG:PM:=top 28
noncomputable abbrev LH:PM:=top 30
noncomputable abbrev MR:PM:=top 31
noncomputable abbrev Mi:PM:=top 32
noncomputable abbrev Mj:PM:=top 33
noncomputable abbrev Lq:PM:=top 34
noncomputable abbrev Lz:PM:=top 36
noncomputable abbrev Mu:PM:=gW (top 38) 0
noncomputable abbrev MH:PM:=gW (top 38) 1
noncomputable abbrev MO:PM:=gW (top 38) 2
noncomputable abbrev MC:PM:=gW (top 38) 3
noncomputable abbrev MN:PM:=gW (top 38) 4
noncomputable abbrev LO:PM:=gW (top 38) 5
noncomputable abbrev Mv:PM:=gW (top 38) 6
noncomputable abbrev Mf:PM:=gW (top 38) 8
noncomputable abbrev LD:PM:=top 39
noncomputable abbrev LS:PM:=top 41
noncomputable abbrev L7:PM:=top 43
noncomputable abbrev L6:PM:=top 44
noncomputable abbrev L5:PM:=top 45
noncomputable abbrev MF:PM:=gW (top 48) 0
noncomputable abbrev MP:PM:=gW (top 48) 1
noncomputable abbrev LF:PM:=top 50
noncomputable abbrev s_row:PM:=top 51
noncomputable abbrev Gv:PM:=top 52
noncomputable abbrev K5:PM:=top 53
noncomputable abbrev LR:PM:=top 54
noncomputable abbrev Lp:PM:=top 55
noncomputable abbrev ym:PM:=top 56
noncomputable abbrev LA:PM:=top 57
noncomputable abbrev K8:PM:=top 58
noncomputable abbrev K6:PM:=top 59
noncomputable abbrev CK:PM:=top 60
theorem mL:aA ["self","asked"] ["self","asked"]<|aR Mh:=by exact#[rfl,rfl,rfl,by decide +kernel,rfl,by decide +kernel,by decide +kernel]
theorem mP:aA ["self","row","rule","most"] ["self","row","rule","most"]<|aR Mb:=by exact#[rfl,rfl,rfl,by decide +kernel,rfl,by decide +kernel,by decide +kernel]
theorem mO:aA ["self"] ["self"]<|aR Mc:=by exact#[rfl,rfl,rfl,by decide +kernel,rfl,by decide +kernel,by decide +kernel]
theorem cB:aA ["self","p","q","later","earlier","said"] ["self","p","q"]<|aR MJ:=by exact#[rfl,rfl,rfl,by decide +kernel,rfl,by decide +kernel,by decide +kernel]
theorem lL:aA ["self","more"] ["self","more"]<|aR MK:=by exact#[rfl,rfl,rfl,by decide +kernel,rfl,by decide +kernel,by decide +kernel]
theorem Va:aA ["asker","order","first","place","low","high","wide","middle"] ["asker","order","first","place"]<|aR K7:=by exact#[rfl,rfl,rfl,by decide +kernel,rfl,by decide +kernel,by decide +kernel]
theorem pP:aA ["self","asker","left","right"] ["self","asker","left","right"]<|aR Ms:=by exact#[rfl,rfl,rfl,by decide +kernel,rfl,by decide +kernel,by decide +kernel]
theorem jL:aA ["self","side"] ["self","side"]<|aR MB:=by exact#[rfl,rfl,rfl,by decide +kernel,rfl,by decide +kernel,by decide +kernel]
theorem mM:aA ["self","side"] ["self","side"]<|aR Md:=by exact#[rfl,rfl,rfl,by decide +kernel,rfl,by decide +kernel,by decide +kernel]
theorem fD:aA ["self","side","more","start"] ["self","side","more"]<|aR Mx:=by exact#[rfl,rfl,rfl,by decide +kernel,rfl,by decide +kernel,by decide +kernel]
theorem iV:aA ["self","side"] ["self","side"]<|aR MG:=by exact#[rfl,rfl,rfl,by decide +kernel,rfl,by decide +kernel,by decide +kernel]
theorem jU:aA ["self","side"] ["self"]<|aR LN:=by exact#[rfl,rfl,rfl,by decide +kernel,rfl,by decide +kernel,by decide +kernel]
theorem fE:aA ["self","side","other"] ["self","side"]<|aR Mw:=by exact#[rfl,rfl,rfl,by decide +kernel,rfl,by decide +kernel,by decide +kernel]
theorem Vb:aA ["asker","left","right","join","wins","winner","side"] ["asker","left","right"]<|aR Lr:=by exact#[rfl,rfl,rfl,by decide +kernel,rfl,by decide +kernel,by decide +kernel]
theorem Ve:aA ["asker","left","right","many","low","high","middle"] ["asker","left","right","many"]<|aR Ml:=by exact#[rfl,rfl,rfl,by decide +kernel,rfl,by decide +kernel,by decide +kernel]
theorem Vi:aA ["asker","left","right","parts","both","ends","cuts","others"] ["asker","left","right","parts"]<|aR Mz:=by exact#[rfl,rfl,rfl,by decide +kernel,rfl,by decide +kernel,by decide +kernel]
theorem Vz:aA ["first","beyond","middle"] ["first","beyond"]<|aR ML:=by exact#[rfl,rfl,rfl,by decide +kernel,rfl,by decide +kernel,by decide +kernel]
theorem iT:aA ["self","asker","pieces","piece"] ["self","asker","pieces"]<|aR L0:=by exact#[rfl,rfl,rfl,by decide +kernel,rfl,by decide +kernel,by decide +kernel]
theorem eI:aA ["self","piece","taken","places"] ["self","piece","taken"]<|aR MD:=by exact#[rfl,rfl,rfl,by decide +kernel,rfl,by decide +kernel,by decide +kernel]
theorem kG:aA ["self","p","q"] ["self","p","q"]<|aR My:=by exact#[rfl,rfl,rfl,by decide +kernel,rfl,by decide +kernel,by decide +kernel]
theorem qw:aA ["self","one","other"] ["self","one","other"]<|aR LP:=by exact#[rfl,rfl,rfl,by decide +kernel,rfl,by decide +kernel,by decide +kernel]
theorem cA:aA ["self","meetings","went_on","told","first","middle","beyond"] ["self","meetings","went_on"]<|aR LZ:=by exact#[rfl,rfl,rfl,by decide +kernel,rfl,by decide +kernel,by decide +kernel]
theorem qv:aA ["self"] ["self"]<|aR LQ:=by exact#[rfl,rfl,rfl,by decide +kernel,rfl,by decide +kernel,by decide +kernel]
theorem hG:aA ["self","top"] ["self"]<|aR Mg:=by exact#[rfl,rfl,rfl,by decide +kernel,rfl,by decide +kernel,by decide +kernel]
theorem bR:aA ["self","top","piece","taken","way","went_on"] ["self"]<|aR L4:=by exact#[rfl,rfl,rfl,by decide +kernel,rfl,by decide +kernel,by decide +kernel]
theorem pM:aA ["self"] ["self"]<|aR L1:=by exact#[rfl,rfl,rfl,by decide +kernel,rfl,by decide +kernel,by decide +kernel]
theorem cN:aA ["self","piece","taken","places"] ["self","piece","taken"]<|aR MS:=by exact#[rfl,rfl,rfl,by decide +kernel,rfl,by decide +kernel,by decide +kernel]
theorem gS:aA ["self","p","q"] ["self","p","q"]<|aR MQ:=by exact#[rfl,rfl,rfl,by decide +kernel,rfl,by decide +kernel,by decide +kernel]
theorem V0:aA ["asker","pieces","pour"] ["asker","pieces"]<|aR Ls:=by exact#[rfl,rfl,rfl,by decide +kernel,rfl,by decide +kernel,by decide +kernel]
theorem Vc:aA ["asker","many","things","singly","from_behind","pour","taken","place","rest"] ["asker","many"]<|aR Mm:=by exact#[rfl,rfl,rfl,by decide +kernel,rfl,by decide +kernel,by decide +kernel]
theorem Vg:aA ["asker","first","end","stop","beyond","falling"] ["asker","first","end"]<|aR MA:=by exact#[rfl,rfl,rfl,by decide +kernel,rfl,by decide +kernel,by decide +kernel]
theorem Vy:aA ["first","beyond","falling","places"] ["first","beyond","falling"]<|aR LG:=by exact#[rfl,rfl,rfl,by decide +kernel,rfl,by decide +kernel,by decide +kernel]
theorem Vf:aA ["asker","order","place","low","high","middle"] ["asker","order","place"]<|aR LH:=by exact#[rfl,rfl,rfl,by decide +kernel,rfl,by decide +kernel,by decide +kernel]
theorem Vr:aA ["asker","order","place","spot"] ["asker","order","place"]<|aR MR:=by exact#[rfl,rfl,rfl,by decide +kernel,rfl,by decide +kernel,by decide +kernel]
theorem Vq:aA ["asker","order","place"] ["asker"]<|aR Mi:=by exact#[rfl,rfl,rfl,by decide +kernel,rfl,by decide +kernel,by decide +kernel]
theorem Vo:aA ["asker","order","place"] ["asker"]<|aR Mj:=by exact#[rfl,rfl,rfl,by decide +kernel,rfl,by decide +kernel,by decide +kernel]
theorem Vd:aA ["asker","first","least","end","stop","part","found","order","place"] ["asker","first","least","end"]<|aR Lq:=by exact#[rfl,rfl,rfl,by decide +kernel,rfl,by decide +kernel,by decide +kernel]
theorem Vu:aA ["many","first","middle","beyond","lower","upper","found"] ["many","first","middle","beyond"]<|aR Lz:=by exact#[rfl,rfl,rfl,by decide +kernel,rfl,by decide +kernel,by decide +kernel]
theorem pO:aA ["self","asker","least","part"] ["self","asker","least","part"]<|aR Mu:=by exact#[rfl,rfl,rfl,by decide +kernel,rfl,by decide +kernel,by decide +kernel]
theorem iU:aA ["self","number"] ["self","number"]<|aR MH:=by exact#[rfl,rfl,rfl,by decide +kernel,rfl,by decide +kernel,by decide +kernel]
theorem eS:aA ["self"] ["self"]<|aR MO:=by exact#[rfl,rfl,rfl,by decide +kernel,rfl,by decide +kernel,by decide +kernel]
theorem cK:aA ["self","lower","order","deed"] ["self","lower"]<|aR MC:=by exact#[rfl,rfl,rfl,by decide +kernel,rfl,by decide +kernel,by decide +kernel]
theorem gB:aA ["self","middle","beyond"] ["self","middle","beyond"]<|aR MN:=by exact#[rfl,rfl,rfl,by decide +kernel,rfl,by decide +kernel,by decide +kernel]
theorem dP:aA ["self","first","found","beyond"] ["self"]<|aR LO:=by exact#[rfl,rfl,rfl,by decide +kernel,rfl,by decide +kernel,by decide +kernel]
theorem pN:aA ["self"] ["self"]<|aR Mv:=by exact#[rfl,rfl,rfl,by decide +kernel,rfl,by decide +kernel,by decide +kernel]
theorem hJ:aA ["self","told","order"] ["self"]<|aR Mf:=by exact#[rfl,rfl,rfl,by decide +kernel,rfl,by decide +kernel,by decide +kernel]
theorem Vt:aA ["asker","least","part","pile"] ["asker","least","part"]<|aR LD:=by exact#[rfl,rfl,rfl,by decide +kernel,rfl,by decide +kernel,by decide +kernel]
theorem Vn:aA ["asker","reach","order","place","start"] ["asker","reach"]<|aR LS:=by exact#[rfl,rfl,rfl,by decide +kernel,rfl,by decide +kernel,by decide +kernel]
theorem V2:aA ["asker","pieces","mouths"] ["asker","pieces","mouths"]<|aR L7:=by exact#[rfl,rfl,rfl,by decide +kernel,rfl,by decide +kernel,by decide +kernel]
theorem Vl:aA ["asker","pieces","mouths","coming","numbers"] ["asker","pieces","mouths"]<|aR L6:=by exact#[rfl,rfl,rfl,by decide +kernel,rfl,by decide +kernel,by decide +kernel]
theorem Vp:aA ["asker","wide","mouths","least","many","pieces"] ["asker","wide","mouths","least"]<|aR L5:=by exact#[rfl,rfl,rfl,by decide +kernel,rfl,by decide +kernel,by decide +kernel]
theorem iW:aA ["self","teller"] ["self","teller"]<|aR MF:=by exact#[rfl,rfl,rfl,by decide +kernel,rfl,by decide +kernel,by decide +kernel]
theorem cT:aA ["self","x","y","teller"] ["self","x","y"]<|aR MP:=by exact#[rfl,rfl,rfl,by decide +kernel,rfl,by decide +kernel,by decide +kernel]
theorem V5:aA ["_law_script","_law_k"] ["_law_script","_law_k"]<|aR LF:=by exact#[rfl,rfl,rfl,by decide +kernel,rfl,by decide +kernel,by decide +kernel]
theorem Vh:aA ["_law_numbers","_law_kind","_law_base","_law_keys"] ["_law_numbers","_law_kind"]<|aR s_row:=by exact#[rfl,rfl,rfl,by decide +kernel,rfl,by decide +kernel,by decide +kernel]
theorem V3:aA ["_law_log","_law_bits","_law_tells"] ["_law_log","_law_bits"]<|aR Gv:=by exact#[rfl,rfl,rfl,by decide +kernel,rfl,by decide +kernel,by decide +kernel]
theorem Vs:aA ["_law_many","_law_deal","_law_order","_law_lists","_law_digits","_law_k","_law_to"] ["_law_many","_law_deal","_law_order"]<|aR K5:=by exact#[rfl,rfl,rfl,by decide +kernel,rfl,by decide +kernel,by decide +kernel]
theorem Vk:aA ["_law_asker","_law_way","_law_cell","_law_order","_law_lists","_law_paper","_law_part"] ["_law_asker","_law_way","_law_cell","_law_order"]<|aR LR:=by exact#[rfl,rfl,rfl,by decide +kernel,rfl,by decide +kernel,by decide +kernel]
theorem Vx:aA ["_law_asker","_law_way","_law_cell","_law_order","_law_ahead","_law_place","_law_after"] ["_law_asker","_law_way","_law_cell","_law_order"]<|aR Lp:=by exact#[rfl,rfl,rfl,by decide +kernel,rfl,by decide +kernel,by decide +kernel]
theorem Vv:aA ["_law_way","_law_cell","_law_order","_law_many"] ["_law_way","_law_cell","_law_order"]<|aR ym:=by exact#[rfl,rfl,rfl,by decide +kernel,rfl,by decide +kernel,by decide +kernel]
theorem Vj:aA ["_law_asker","_law_way","_law_cell","_law_order","_law_found","_law_spent","e"] ["_law_asker","_law_way","_law_cell","_law_order"]<|aR LA:=by exact#[rfl,rfl,rfl,by decide +kernel,rfl,by decide +kernel,by decide +kernel]
theorem V4:aA ["_law_found","_law_due_here","_law_bits"] ["_law_found","_law_due_here","_law_bits"]<|aR K8:=by exact#[rfl,rfl,rfl,by decide +kernel,rfl,by decide +kernel,by decide +kernel]
theorem Vm:aA ["_law_asker","_law_log","_law_row_here","_law_bits","_law_cell","_law_order","_law_way","_law_due_here","_law_free","_law_found","_law_spent","_law_before","_law_given"] ["_law_asker","_law_log","_law_row_here","_law_bits","_law_cell"]<|aR K6:=by exact#[rfl,rfl,rfl,by decide +kernel,rfl,by decide +kernel,by decide +kernel]
theorem V1:aA ["_law_script","_law_row_here","_law_bits","_law_log","_law_asker","_law_k"] ["_law_script"]<|aR CK:=by exact#[rfl,rfl,rfl,by decide +kernel,rfl,by decide +kernel,by decide +kernel]
noncomputable abbrev fV:PM:=Fx Gv 0
theorem eV:lZ ["_law_x","_law_y","_law_first","_law_k","_law_bits","_law_log"] ["_law_x","_law_y"] ["_law_bits","_law_log"]<|aR fV:=#[rfl,rfl,rfl,by decide+kernel,rfl,rfl,by decide,by decide+kernel,by decide+kernel,by decide+kernel,λx h=>(show ∀y∈(aR fV).names,y.2=.free->y.1∈(["_law_bits","_law_log"]:List Pj) by decide+kernel) _ (PH h) rfl]
structure Bt(K:W.Frag)(mg:Pj->Option OR)(Cb Ce Cf Cg Cd Cc Ch Cj Ci Ca:OS):Prop where
 UD:mg "len"=Zi
 UC:mg "range"=Zi
 UT:mg "list"=Zi
 VH:mg "isinstance"=Zi
 WT:mg "int"=Zi
 Wn:mg "max"=Zi
 VE:mg "min"=Zi
 WS:mg "sum"=Zi
 U3:mg "sorted"=Zi
 Xr:mg "zip"=Zi
 Wo:mg "dict"=Zi
 WJ:mg "ValueError"=Zi
 U5:∃t,mg "LEFT"=Zh (.int 0 t)
 U7:∃t,mg "RIGHT"=Zh (.int 1 t)
 VB:∃t,mg "WINS_TO_LEAP"=Zh (.int 4 t)
 Xu:mg "Asker"=Zh (.ref Cb)
 Db:gF K Cb
 Nq:aD K Cb "row"
 Nx:aD K Cb "rule"
 Nf:aD K Cb "most"
 Nn:aD K Cb "asked"
 Ny:aD K Cb "told"
 XA:mg "Join"=Zh (.ref Ce)
 De:gF K Ce
 Nv:aD K Ce "asker"
 Nl:aD K Ce "sides"
 Ni:aD K Ce "taken"
 Nu:aD K Ce "places"
 Xy:mg "Pour"=Zh (.ref Cf)
 Dg:gF K Cf
 N4:aD K Cf "asker"
 N6:aD K Cf "pieces"
 N7:aD K Cf "taken"
 N8:aD K Cf "meetings"
 X0:aD K Cf "went_on"
 W3:mg "LastPour"=Zh (.ref Cg)
 Dh:gF K Cg
 N5:aD K Cg "asker"
 N3:aD K Cg "pieces"
 N9:aD K Cg "taken"
 XZ:aD K Cg "meetings"
 Yb:aD K Cg "went_on"
 Xz:mg "Pile"=Zh (.ref Cd)
 Da:gF K Cd
 Nw:aD K Cd "asker"
 Nz:aD K Cd "least"
 Ng:aD K Cd "start"
 Nj:aD K Cd "end"
 Nk:aD K Cd "reached"
 Nc:aD K Cd "firsts"
 Na:aD K Cd "orders"
 No:aD K Cd "grades"
 WL:mg "AskedRule"=Zh (.ref Cc)
 Df:gF K Cc
 N0:aD K Cc "teller"
 VJ:mg "HallError"=Zh (.ref Ch)
 Xb:mg "NoPlace"=Zh (.ref Cj)
 Xi:mg "TooFar"=Zh (.ref Ci)
 WD:mg "Spent"=Zh (.ref Ca)
 Wc:Aw K Ca
 VI:CZ K Ca
 Wb:∃fI,D3 K Ca fI AE "ValueError.__new__"=Zj
 U8:PySem.W.exmOne K (.ref Ca) (.ref Ca)=Zh Zj
 N1:aD K Ca "asked"
 VF:Eh K Ch
 WE:P6 K (.type "int") (.type "bool")=Zh Zk
 Ws:P6 K (.type "list") (.type "bool")=Zh Zk
 VY:P6 K (.ref Ca) (.ref Ca)=Zh Zj
structure C5(K:W.Frag)(Ck:OS):Prop where
 Dc:gF K Ck
 N2:aD K Ck "asker"
 Nm:aD K Ck "pieces"
 Np:aD K Ck "taken"
 Nr:aD K Ck "meetings"
 Nh:aD K Ck "went_on"
noncomputable def cellOf(ns:List Int)(k:Int):Int:=if k<(ns.length:Int) then(ns[k.toNat]?).getD 0 else 0
inductive pJ(K:W.Frag):List V->Hp->VK->XK->Prop
 |mk (a:OS) (ns:List Int) (k:Int):R=[.ref a,.int k]->aB K Y a (ns.map V.int)->0<=k->L (.int<|cellOf ns k) Y->pJ K R Y L M
inductive lF:List V->Hp->VK->XK->Prop
 |mk {R Y L M} (m a b c:Int):R=[.int m,.int a,.int b,.int c]->1<m->m<2^240->0<=a->a<b->b<c->c<=m->(∀g:Nat,Gr.IsG m (a+b) (b+c) g->g<=240->L (.int g) Y)->lF R Y L M
theorem E1{m:Int}(hm:m<2^240)(z:240<=p):m<=2^p:=by
 obtain⟨d,rfl⟩:∃d,p=240+d:=#[p-240,∅]
 have h1:(1:Int)<=2^d:=Gr.p2pos d;rw[Int.pow_add];have h2:(2:Int)^240*1<=2^240*2^d:=Int.mul_le_mul_of_nonneg_left h1 (by decide);lia
theorem dbl(x:Int)(p:Nat):2*(x*2^p)=x*2^(p+1):=by rw[Int.pow_succ,Int.mul_comm 2,Int.mul_assoc]
theorem HQ{M G:Prop}(h:M->G)(t:M):G:=h t
theorem La{n:Nat}(h:n<=900000):n<sizeLine:=Q5 h<|by decide
noncomputable abbrev fA(rl ru:OS)(m:V)(n:Int)(tl:OS):List<|Pj×V:=[("told",.ref tl),("asked",.int n),("most",m),("rule",.ref ru),("row",.ref rl)]
noncomputable abbrev fR(g:OS):List<|Pj×V:=[("teller",.ref g)]
theorem zG{m:V}{n:Int}:∀f,(aL "told" (.ref tl)<|aL "asked" (.int n)<|aL "most" m<|aL "rule" (.ref ru)<|aL "row" (.ref rl) []).lookup f=(fA rl ru m n tl).lookup f:=λf=>by
 simp only[mH,lkc]
theorem zH{m:V}{n k:Int}:∀f,(aL "asked" (.int k)<|fA rl ru m n tl).lookup f=(fA rl ru m k tl).lookup f:=λf=>by
 rw[mH];by_cases h:f=("asked":Pj)
 .subst h;rw[Z9 rfl];exact(show Qp _ (fA rl ru m k tl)=Zh (.int k) by walk_at "l").symm
 .simp only[lkc,h,if_false]
theorem Cp{m:V}{n:Int}:∀f,(aL "most" z<|fA rl ru m n tl).lookup f=(fA rl ru z n tl).lookup f:=λf=>by
 rw[mH];by_cases h:f=("most":Pj)
 .subst h;rw[Z9 rfl];exact(show Qp _ (fA rl ru z n tl)=Zh z by walk_at "l").symm
 .simp only[lkc,h,if_false]
theorem B7{f:Pj}{i j:Int}{σ:St}(h:bD H a C fl)(cl:gF K C)(n:aD K C f)(l:fl.lookup f=Zh (.int i))
  {te:TE} (z:∀Q:VK,Q (.int j) H->te σ H Q)
  (q:∀H',bD H' a C (aL f (.int<|i+j) fl)->(∀b,b≠a->H' b=H b)->D.nx σ H'):FT K te EX f D σ (.ref a) H:=by
 obtain⟨dx,fs,h1,h2,h3⟩:=h.ex;refine#[a,C,dx,fs,_,rfl,h1,cl,n,(h3 f).trans l,z _ #[i,j,rfl,rfl,dx,fs,h1,∅,q _ #[dx,_,aU,?_,λg=>?_] λb J=>aO J]]
 .rw [J8<|(h3 f).trans l];exact h2
 .rw [mH,mH,h3]
noncomputable abbrev fS(n:Int):List<|Pj×V:=[("asked",.int n)]
inductive dM(C:OS):List V->Hp->VK->XK->Prop
 |mk (e:OS) (n:Int):R=[.ref e,.int n]->Y e=Zh (dD e (.ref C) Zi)->n.natAbs.log2<1920->(∀d,Y d=Zi->d≠e->L .Uy (upd (upd Y d<|qc d<|fS n) e<|dD e (.ref C)<|some d))->dM C R Y L M
inductive bX(CA:OS):List V->Hp->VK->XK->Prop
 |mk (x dx r:OS) (ru:OS) (m:V) (xs:List V):R=[.ref x,.ref r,.ref ru,m]->Y x=Zh (.ins CA dx [])->Y r=Zh (.lst xs)->(∀rl tl H',(∀b o,b≠x->Y b=Zh o->H' b=Zh o)->Y rl=Zi->Y tl=Zi->rl≠tl->bD H' x CA (fA rl ru m 0 tl)->H' rl=Zh (.lst xs)->H' tl=Zh (.lst [])->L .Uy H')->bX CA R Y L M
inductive dA(CR:OS):List V->Hp->VK->XK->Prop
 |mk (x dx g:OS):R=[.ref x,.ref g]->Y x=Zh (.ins CR dx [])->(∀H',(∀b o,b≠x->Y b=Zh o->H' b=Zh o)->bD H' x CR (fR g)->L .Uy H')->dA CR R Y L M
inductive gA(CR:OS)(r:V->List V->Hp->VK->Prop):List V->Hp->VK->XK->Prop
 |mk (ru g:OS) (x y:V):R=[.ref ru,x,y]->bD Y ru CR (fR g)->(∃o,Y g=Zh (FZ o)/\∃fd,o.data=.func fd)->r (.ref g) [x,y] Y L->gA CR r R Y L M
noncomputable def wdn(m:V)(i:Int):V:=match m with|.int k=>.int (k+i)|m=>m
inductive kU(CA:OS):List V->Hp->VK->XK->Prop
 |mk (a rl ru tl:OS) (m:V) (n i:Int):R=[.ref a,.int i]->bD Y a CA (fA rl ru m n tl)->(m=.Uy∨∃k,m=.int k)->(∀H',(∀b,b≠a->H' b=Y b)->bD H' a CA (fA rl ru (wdn m i) n tl)->L .Uy H')->kU CA R Y L M
inductive bL(CA CR CS:OS)(r:V->List V->Hp->VK->Prop):List V->Hp->VK->XK->Prop
 |mk {R Y L M} (a rl ru tl:OS) (m:V) (n p q:Int):R=[.ref a,.int p,.int q]->bD Y a CA (fA rl ru m n tl)->n.natAbs.log2<1920->((∃k,m=.int k/\k<=n/\∀d H',aC Y H'->Y d=Zi->H' d=Zh (qc d<|fS n)->M (.ref CS) (Zh d) H')∨((m=.Uy∨∃k,m=.int k/\n<k)/\∃(xs ts:List V) (x y:V),Y rl=Zh (.lst xs)/\p≠q/\0<=p/\0<=q/\xs[(max p q).toNat]?=Zh x/\xs[(min p q).toNat]?=Zh y/\gA CR r [.ref ru,x,y] Y (λv H1=>∃b,v=.bl b/\bD H1 a CA (fA rl ru m n tl)/\H1 tl=Zh (.lst ts)/\ts.length<=900000/\∀t H2,H1 t=Zi->bD H2 a CA (fA rl ru m (n+1) tl)->H2 tl=Zh (.lst<|ts++[.ref t])->H2 t=Zh (.tup [.int<|max p q,.int<|min p q,.bl b])->(∀c,c≠a->c≠tl->c≠t->H2 c=H1 c)->L (.bl<|if q<p then b else !b) H2) E0))->bL CA CR CS r R Y L M
noncomputable def kat(ks:List Int)(p:Nat):Int:=(ks[p]?).getD 0
theorem xc{S:List OS}(e:Fr S H H')(n:a∉S)(h:bD H a C fl):bD H' a C fl:=let ⟨dx,fs,h1,h2,h3⟩:=h.ex;#[dx,fs,e _ _ n h1,h2,h3]
inductive dB(CA:OS):List V->Hp->VK->XK->Prop
 |mk (a rl ru tl:OS) (m:V) (n:Int) (xs:List V):R=[.ref a]->bD Y a CA (fA rl ru m n tl)->Y rl=Zh (.lst xs)->L (.int xs.length) Y->dB CA R Y L M
theorem DJ{z:Type}{M:α->z->Prop}(P:α->z->Prop){G:Prop}(h:(∀x y,P x y->M x y)->G)(t:∀x y,P x y->M x y):G:=h t
theorem HP{α β γ δ:Type}{M:α->β->γ->δ->Prop}(P:α->β->γ->δ->Prop){G:Prop}(h:(∀x y z u,P x y z u->M x y z u)->G)(t:∀x y z u,P x y z u->M x y z u):G:=h t
theorem FK{z:Type}(f:α->z)(l:List α)(k:Nat):(l.map f).eraseIdx k=(l.eraseIdx k).map f:=by
 rw[List.eraseIdx_eq_take_drop_succ,List.eraseIdx_eq_take_drop_succ,cU,Es,Er]
noncomputable def cZ(first j:Nat)(f:Bool):List Nat:=if f=Zj then(Pz first (j-first)).reverse else Pz first (j-first)
theorem nG(first j:Nat)(f:Bool):(cZ first j f).length=j-first:=by unfold cZ;split<;>simp
noncomputable abbrev nL(l:List Nat):List V:=l.map λ(x:Nat)=>V.int (x:Int)
theorem D8(l:List Nat):nL l=(l.map λ(x:Nat)=>(x:Int)).map V.int:=by rw[En];rfl
theorem LC{lo hi:Nat}:(xm (lo:Int) (hi:Int)).map V.int=nL (Pz lo<|hi-lo):=by
 refine RU λi=>?_;unfold nL;rw[eJ,eJ];by_cases h:i<hi-lo
 .rw [List.getElem?_range' h,nM<|∅];show Zh (V.int<|(lo:Int)+i)=Zh (V.int ((lo+1*i:Nat):Int));congr 2;lia
 .rw [r9<|by rw[Ma];lia,r9<|by rw[C9];lia];rfl
inductive iP:List V->Hp->VK->XK->Prop
 |mk (first j:Nat) (f:Bool):R=[.int first,.int j,.bl f]->first<=1000->j<=1000->(∀l H',aC Y H'->Y l=Zi->H' l=Zh (.lst<|nL<|cZ first j f)->L (.ref l) H')->iP R Y L M
noncomputable def xj(k k':Int)(bs:List Int)(i j:Nat):Bool:=if bs=[] then decide (k<k') else decide (Uw (bs.getD ((31*(i:Int)+j)%bs.length).toNat 0/2^((31*(i:Int)+j)/bs.length%61).toNat) 1=1)
def Kg(iname iq:Pj)(ip:Q0)(ib:List PM)(isc:Qq)(fr:List Pj):V->List V->Hp->VK->Prop:=λf vs H Q=>L2.MV λ(g x y lg bl:OS) (k k':Int) (i j:Nat) (bs:List Int) (ws:List V)=>f=.ref g/\vs=[.ref x,.ref y]/\AX H g iname iq ip ib isc fr [.ref bl,.ref lg]/\H bl=Zh (.lst<|bs.map V.int)/\bs.length<=1000/\H x=Zh (.tup [.int k,.int i])/\H y=Zh (.tup [.int k',.int j])/\i<=1000/\j<=1000/\H lg=Zh (.lst ws)/\ws.length<=900000/\
 ∀H1 t,aC H H1->H1 t=Zi->Q (.bl<|xj k k' bs i j) (upd (upd H1 t<|.tup [.int i,.int j,.bl<|xj k k' bs i j]) lg<|.lst<|ws++[.ref t])
theorem yw{iname iq:Pj}{ip:Q0}{ib:List PM}{isc:Qq}{fr:List Pj}{f:V}(m:∀v H,Q v H->Q' v H)(h:Kg iname iq ip ib isc fr f vs H Q):Kg iname iq ip ib isc fr f vs H Q':=by
 obtain⟨g,x,y,lg,bl,k,J,i,j,bs,ws,e1,e2,h1,h2,Z,h5,U,h7,h8,h9,z,q⟩:=h;exact#[g,x,y,lg,bl,k,J,i,j,bs,ws,e1,e2,h1,h2,Z,h5,U,h7,h8,h9,z,λH1 t s O=>m _ _<|q H1 t s O]
noncomputable abbrev mG:V->List V->Hp->VK->Prop:=Kg "_law_tells" "_law_teller.<locals>._law_tells" (oW fV) (kn fV) (aR fV) ["_law_bits","_law_log"]
theorem Bw{f:V}(m:∀v H,Q v H->Q' v H)(h:mG f vs H Q):mG f vs H Q':=yw m h
def Ei(H:Hp)(g lg bl:OS):Prop:=AX H g "_law_tells" "_law_teller.<locals>._law_tells" (oW fV) (kn fV) (aR fV) ["_law_bits","_law_log"] [.ref bl,.ref lg]
theorem Ei.mono(e:F8 H H')(h:Ei H g lg bl):Ei H' g lg bl:=AX.mono e h
theorem Ei.fn(h:Ei H g lg bl):∃o,H g=Zh (FZ o)/\∃fd,o.data=.func fd:=by
 obtain⟨cl,C⟩:=h;obtain⟨Z,J,O,U,z,_⟩:=C.obj;exact#[_,z,_,rfl]
theorem Ei.tells(h:Ei H g lg bl){x y:OS}{k:Int}{bs:List Int}{ws:List V}(h2:H bl=Zh (.lst<|bs.map V.int))(U:bs.length<=1000)(h5:H x=Zh (.tup [.int k,.int i]))(O:H y=Zh (.tup [.int N,.int j]))(Z:i<=1000)(h8:j<=1000)(h9:H lg=Zh (.lst ws))(J:ws.length<=900000)
  (q:∀H1 t,aC H H1->H1 t=Zi->Q (.bl<|xj k N bs i j) (upd (upd H1 t<|.tup [.int i,.int j,.bl<|xj k N bs i j]) lg<|.lst<|ws++[.ref t])):mG (.ref g) [.ref x,.ref y] H Q:=
 #[g,x,y,lg,bl,k,N,i,j,bs,ws,rfl,rfl,h,h2,U,h5,O,Z,h8,h9,J,q]
theorem oR{cl:List<|Pj×OS}(s:aC (hid cl H) H0):aC H<|back cl H H0:=λb o h=>by
 by_cases q:∃x,cl.lookup x=Zh b
 .obtain ⟨x,q⟩:=q;rw[G2 q];exact h
 .rw [xn q];exact s b o<|by rw[AF q];exact h
structure aF where
 c:OS
 s:OS
structure cE(H:Hp)(pr:List<|Nat×Nat×Bool)(ts:List V):Prop where
 len:ts.length=pr.length
 get:∀(j p q:Nat) (b:Bool),pr[j]?=Zh (p,q,b)->∃t,ts[j]?=Zh (V.ref t)/\H t=Zh (.tup [.int p,.int q,.bl b])
theorem cE.keep{pr:List<|Nat×Nat×Bool}{ts:List V}(e:∀t x,H t=Zh (.tup x)->H' t=Zh (.tup x))(h:cE H pr ts):cE H' pr ts:=
 #[h.len,λj p q b z=>by
  obtain⟨t,a,b⟩:=h.get j p q b z;exact#[t,a,e _ _ b]]
theorem cE.snoc{pr:List<|Nat×Nat×Bool}{ts:List V}{t:OS}(h:cE H pr ts)(U:H t=Zh (.tup [.int p,.int q,.bl b])):cE H (pr++[(p,q,b)])<|ts++[.ref t]:=by
 refine#[by rw[aQ,aQ,h.len];rfl,λj O q' b' z=>?_];by_cases hl:j<pr.length
 .rw [mB hl] at z;obtain⟨t',a,b⟩:=h.get j O q' b' z;exact#[t',by rw[mB<|by rw[h.len];exact hl];exact a,b]
 .have e:=(jS.mp z).1;rw[aQ] at e;have J:j=pr.length:=by have:([(p,q,b)]:List<|Nat×Nat×Bool).length=1:=rfl;lia
  subst J;rw[kE<|aN _,kP] at z;cases z;exact#[t,by rw[<- h.len,kE<|aN _,kP];rfl,U]
theorem wb{n:Nat}(h:n<=900000):((n:Nat):Int).natAbs.log2<1920:=by
 rw[Int.natAbs_natCast];by_cases z:n=0
 .rw [z];decide
 .exact (Nat.log2_lt z).mpr (Q5 h<|by decide)
structure Ad where
 ks:List Int
 bs:List Int
 xs:List V
 a:OS
 rl:OS
 ru:OS
 tl:OS
 g:OS
 lg:OS
 bl:OS
 pre:List A3
 lim:Option Nat
 exc:List A3->Prop
 H0:Hp
variable {c:Ad}
noncomputable abbrev Ad.S(c:Ad):List OS:=[c.a,c.lg,c.tl]
structure As where
 p:OS->Prop
instance:Membership OS As:=#[λs a=>s.p a]
noncomputable def Ad.A(c:Ad):As:=#[λb=>b∈[c.a,c.lg,c.tl,c.rl,c.ru,c.bl]∨c.H0 b≠Zi]
theorem Ad.mA{b:OS}(h:b∈[c.a,c.lg,c.tl,c.rl,c.ru,c.bl]):b∈c.A:=Or.inl h
noncomputable abbrev Ad.n(c:Ad):Nat:=c.ks.length
noncomputable def Ad.XG(c:Ad)(bb:Bool)(_ p q:Nat):Bool:=cond bb (!xj (kat c.ks p) (kat c.ks q) c.bs p q)<|xj (kat c.ks p) (kat c.ks q) c.bs p q
noncomputable abbrev Ad.an(c:Ad):Nat->Nat->Nat->Bool:=c.XG Zk
noncomputable abbrev Ad.top(c:Ad):Option Nat:=c.lim.map (·+c.pre.length)
noncomputable abbrev Ad.W{α:Type}(c:Ad):Pg α->List A3->(α->List A3->Prop)->Prop:=Wx c.n c.an c.top c.exc
noncomputable abbrev Ad.WB{α:Type}(c:Ad)(bb:Bool):Pg α->List A3->(α->List A3->Prop)->Prop:=Wx c.n (c.XG bb) c.top λpr=>c.exc<|flp bb pr
theorem Ad.SA{b:OS}(h:b∉c.A):b∉c.S:=λz=>h<|c.mA (by
 rcases bY.mp z with z|z
 .rw [z];exact aZ
 rcases bY.mp z with z|z
 .rw [z];exact bF _ aZ
 .rw [cI.mp z];exact bF _<|bF _ aZ)
noncomputable def B0:Option Nat->V
 |none=>.Uy
 |some m=>.int m
structure bH(CA:OS)(CR:aF)(H:Hp)(c:Ad)(pr:List A3):Prop where
 ha:bD H c.a CA<|fA c.rl c.ru (B0 c.lim) ((pr.length-c.pre.length:Nat):Int) c.tl
 VZ:H c.rl=Zh (.lst c.xs)
 WN:bD H c.ru CR.c<|fR c.g
 W9:Ei H c.g c.lg c.bl
 Wv:H c.bl=Zh (.lst<|c.bs.map V.int)
 Xq:c.bs.length<=1000
 len:c.xs.length=c.ks.length
 row:∀(i:Nat) k,c.ks[i]?=Zh k->∃r,c.xs[i]?=Zh (V.ref r)/\H r=Zh (.tup [.int k,.int i])
 UQ:∃ws qr,pr=c.pre++qr/\H c.lg=Zh (.lst ws)/\cE H qr ws
 UX:∃ts qr,pr=c.pre++qr/\H c.tl=Zh (.lst ts)/\cE H qr ts
 ne:c.lg≠c.tl/\c.rl∉c.S/\c.ru≠c.a/\c.bl∉c.S
 base:Fr c.S c.H0 H
structure aH(CA:OS)(CR:aF)(E:XK)(H:Hp)(c:Ad)(pr:List A3):Prop extends bH CA CR H c pr where
 ex:∀d H' pr',bH CA CR H' c pr'->c.H0 d=Zi->H' d=Zh (qc d<|fS ((pr'.length-c.pre.length:Nat):Int))->c.exc pr'->E (.ref CR.s) (Zh d) H'
section
variable {CA:OS}{CR:aF}{E:XK}{H H':Hp}{c:Ad}{pr:List A3}
theorem bH.tupS(h:bH CA CR H c pr){b:OS}(J:H b=Zh o)(n1:∀x,o≠.lst x)(n2:∀C d f,o≠.ins C d f):b∉c.S:=by
 obtain⟨ws,_,_,UQ,_⟩:=h.UQ;obtain⟨ts,_,_,UX,_⟩:=h.UX;intro z;rcases bY.mp z with z|z
 .exact h.ha.ne J n2 z
 rcases bY.mp z with z|z
 .rw [z,UQ] at J;exact n1 _ (OX J).symm
 .rw [cI.mp z,UX] at J;exact n1 _ (OX J).symm
theorem aH.tup(h:aH CA CR E H c pr)(f:Fr c.S H H'){b:OS}{x:List V}(J:H b=Zh (.tup x)):H' b=Zh (.tup x):=f _ _ (h.tupS J (λ_ z=>by cases z) λ_ _ _ z=>by cases z) J
theorem bH.XW(h:bH CA CR H c pr):c.ru∉c.S:=by
 obtain⟨ws,_,_,UQ,_⟩:=h.UQ;obtain⟨ts,_,_,UX,_⟩:=h.UX;obtain⟨O,f1,J,_⟩:=h.WN.ex;intro z;rcases bY.mp z with z|z
 .exact h.ne.2.2.1 z
 rcases bY.mp z with z|z
 .rw [z,UQ] at J;cases J
 .rw [cI.mp z,UX] at J;cases J
theorem bH.there(h:bH CA CR H c pr){b:OS}(J:b∈[c.a,c.lg,c.tl,c.rl,c.ru,c.bl]):H b≠Zi:=λhl=>by
 obtain⟨ws,_,_,UQ,_⟩:=h.UQ;obtain⟨ts,_,_,UX,_⟩:=h.UX;simp only[bY,dU,or_false] at J;rcases J with z|z|z|z|z|z<;>subst z
 .exact h.ha.neN hl rfl
 .rw [UQ] at hl;cases hl
 .rw [UX] at hl;cases hl
 .rw [h.VZ] at hl;cases hl
 .exact h.WN.neN hl rfl
 .rw [h.Wv] at hl;cases hl
theorem bH.new(h:bH CA CR H c pr){l:OS}(hl:H l=Zi):c.H0 l=Zi:=by
 cases e:c.H0 l with
 |none=>rfl
 |some o=>
  have n:l∉c.S:=λz=>h.there (b:=l) (by simp only[bY,dU,or_false] at z⊢;rcases z with z|z|z<;>simp[z]) hl;rw[h.base _ _ n e] at hl;cases hl
theorem bH.off(h:bH CA CR H c pr){l:OS}(hl:H l=Zi):l∉c.A:=λz=>by
 rcases z with z|z
 .exact h.there z hl
 .exact z (h.new hl)
theorem bH.free(h:bH CA CR H' c pr)(f:Fr c.S H0 H')(hd:H' d=Zi):H0 d=Zi:=by
 cases e:H0 d with
 |none=>rfl
 |some o=>rw[f _ _ (Ad.SA<|h.off hd) e] at hd;cases hd
theorem bH.but(h:bH CA CR H c pr)(e:∀b o,b∈c.A->H b=Zh o->H' b=Zh o)(t:∀b o,H b=Zh o->(∀x,o≠.lst x)->(∀C d f,o≠.ins C d f)->(∀k,o≠.dT k)->(∀t,o≠.tbl t)->H' b=Zh o):bH CA CR H' c pr:=by
 have m:∀{b:OS},b∈[c.a,c.lg,c.tl,c.rl,c.ru,c.bl]->b∈c.A:=λh=>c.mA h;have ki:∀{b C:OS} {fl:List<|Pj×V},b∈[c.a,c.lg,c.tl,c.rl,c.ru,c.bl]->bD H b C fl->bD H' b C fl:=λhm hi=>by
  obtain⟨dx,fs,h1,h2,h3⟩:=hi.ex;exact#[dx,fs,e _ _ (m hm) h1,h2,h3]
 have kt:∀b x,H b=Zh (.tup x)->H' b=Zh (.tup x):=λb x Z=>t _ _ Z (λ_ z=>by cases z) (λ_ _ _ z=>by cases z) (λ_ z=>by cases z) (λ_ z=>by cases z);obtain⟨us,qr,h5,h6,h7⟩:=h.UX;obtain⟨O,qr',aa,J,U⟩:=h.UQ;have hr:∀(i:Nat) k,c.ks[i]?=Zh k->∃r,c.xs[i]?=Zh (V.ref r)/\H' r=Zh (.tup [.int k,.int i]):=λi k hk=>by
  obtain⟨r,a1,a2⟩:=h.row i k hk;exact#[r,a1,kt _ _ a2]
 refine#[ki (by simp) h.ha,e _ _ (m<|by simp) h.VZ,ki (by simp) h.WN,h.W9.mono λb o Z=>t _ _ Z (λ_ z=>by cases z) (λ_ _ _ z=>by cases z) (λ_ z=>by cases z) (λ_ z=>by cases z),e _ _ (m<|by simp) h.Wv,h.Xq,h.len,hr,⟨O,qr',aa,e _ _ (m<|by simp) J,U.keep kt⟩,⟨us,qr,h5,e _ _ (m<|by simp) h6,h7.keep kt⟩,h.ne,λb o n z=>e _ _ (.inr<|by rw[z];exact λy=>by cases y)<|h.base _ _ n z]
theorem bH.mono(h:bH CA CR H c pr)(e:aC H H'):bH CA CR H' c pr:=h.but (λb o _ z=>e _ _ z) λb o z _ _ _ _=>e _ _ z
theorem aH.mono(h:aH CA CR E H c pr)(e:aC H H'):aH CA CR E H' c pr:=#[h.1.mono e,h.ex]
def Wr(H:Hp)(b:OS):Prop:=(∃l,H b=Zh (.lst l))∨(∃C d f,H b=Zh (.ins C d f))∨(∃k,H b=Zh (.dT k))∨H b=Zi
theorem aH.apart(h:aH CA CR E H c pr){S:List OS}(e:Fr S H H')(J:∀b∈S,Wr H b)(n:∀b∈S,b∉c.A):aH CA CR E H' c pr:=
 #[h.1.but (λb o m z=>e _ _ (λy=>n b y m) z) λb o z n1 n2 O _=>e _ _ (λy=>by
  rcases J b y with ⟨l,x⟩|⟨C,d,f,x⟩|⟨k,x⟩|x
  .rw [x] at z;exact n1 _ (OX z).symm
  .rw [x] at z;exact n2 _ _ _ (OX z).symm
  .rw [x] at z;exact O _ (OX z).symm
  .rw [x] at z;cases z) z,h.ex]
theorem zy{l:OS}:Fr [l] H<|upd H l o:=λb o' n h=>by rw[aO λz=>n<|by rw[z];exact aZ];exact h
theorem aH.upd(h:aH CA CR E H c pr){l:OS}{us:List V}{o:HO}(hl:H l=Zh (.lst us))(n:l∉c.A):aH CA CR E (upd H l o) c pr:=
 h.apart (S:=[l]) zy (λb z=>by rw[cI.mp z];exact .inl #[_,hl]) λb z=>by rw[cI.mp z];exact n
theorem aH.Wq(h:aH CA CR E H c pr)(b1:min p q<max p q)(U:max p q<c.n)(b0:pr.length<=800000)(hk:c.n<=1000)
  (w:(∃m,c.top=Zh m/\m<=pr.length/\c.exc pr)∨(∀m,c.top=Zh m->pr.length<m)/\ ∀H',Fr c.S H H'->aH CA CR E H' c (pr++[(max p q,min p q,c.an 0 (max p q)<|min p q)])->Q (.bl<|if q<p then c.an 0 (max p q) (min p q) else !c.an 0 (max p q) (min p q)) H'):bL CA CR.c CR.s mG [.ref c.a,.int p,.int q] H Q E:=by
 have ae:min p q<c.ks.length:=by show min p q<c.n;lia
 have U:max p q<c.ks.length:=U;have b2:c.ks.length<=1000:=hk;obtain⟨ws,qr',aj,UQ,W5⟩:=h.UQ;obtain⟨ts,qr,O,UX,Xj⟩:=h.UX;obtain rfl:qr=qr':=List.append_cancel_left<|O.symm.trans aj;have aq:=congrArg PV O;rw[aQ] at aq;refine#[c.a,c.rl,c.ru,c.tl,B0 c.lim,_,p,q,rfl,h.ha,wb<|∅,?_];rcases w with ⟨m,e,hm,hx⟩|⟨hm,fin⟩
 .obtain ⟨l,el,rfl⟩:=Bc.mp e;exact .inl #[l,by rw[el];rfl,∅,λd H' s hd h'=>h.ex d H' pr (h.1.mono s) (h.new hd) h' hx]
 refine .inr #[?_,?_]
 .cases e:c.lim with
  |none=>exact .inl rfl
  |some l=>exact .inr #[l,rfl,by have:=hm (l+c.pre.length) (by show c.lim.map _=_;rw[e];rfl);lia]
 obtain⟨x,hx,tx⟩:=h.row (max p q) _<|bV U;obtain⟨y,hy,ty⟩:=h.row (min p q) _<|bV ae;have av:(max (p:Int) q).toNat=max p q:=∅
 have az:(min (p:Int) q).toNat=min p q:=∅
 have kx:c.ks[max p q]=kat c.ks (max p q):=by unfold kat;rw[bV U];rfl
 have as:c.ks[min p q]=kat c.ks (min p q):=by unfold kat;rw[bV ae];rfl
 refine#[c.xs,ts,.ref x,.ref y,h.VZ,∅,∅,∅,by rw[av];exact hx,by rw[az];exact hy,?_];rw[kx] at tx;rw[as] at ty;refine#[c.ru,c.g,.ref x,.ref y,rfl,h.WN,h.W9.fn,?_];refine h.W9.tells h.Wv h.Xq tx ty ∅ ∅ UQ (by rw[W5.len];lia) λH1 t s1 ht=>?_;have eb:xj (kat c.ks<|max p q) (kat c.ks<|min p q) c.bs (max p q) (min p q)=c.an 0 (max p q) (min p q):=rfl;rw[eb];clear eb;generalize c.an 0 (max p q) (min p q)=b at fin⊢;clear tx ty;replace UQ:=s1 _ _ UQ;replace UX:=s1 _ _ UX;replace W5:=W5.keep (H':=H1) λ_ _ z=>s1 _ _ z;replace Xj:=Xj.keep (H':=H1) λ_ _ z=>s1 _ _ z;replace fin:=λH' f s=>fin H' (s1.fr.trans f) s;replace h:=h.mono s1;have ai:t≠c.a:=h.ha.neN ht;have ad:c.lg≠t:=bE UQ ht;have ag:c.tl≠t:=bE UX ht;have am:c.lg≠c.tl:=h.ne.1;have aa:c.lg≠c.a:=h.ha.ne UQ λ_ _ _ z=>by cases z
 refine#[_,rfl,h.ha.keep (by rw[aO<|Pe aa,aO<|Pe ai]),by rw[aO<|Pe am,aO ag];exact UX,by rw[Xj.len];lia,λt2 H2 J aw ac ax k2=>?_];have ap:t2≠c.lg:=λz=>by rw[z,aU] at J;cases J
 have ay:t2≠t:=λz=>by rw[z,aO<|Pe ad,aU] at J;cases J
 have fr:Fr c.S H1 H2:=λd o n Z=>by
  have m1:d≠c.a:=λz=>n (by rw[z];exact aZ);have m2:d≠c.lg:=λz=>n (by rw[z];exact bF _ aZ);have m3:d≠c.tl:=λz=>n (by rw[z];exact bF _<|bF _ aZ);have e1:(L2.upd (L2.upd H1 t<|.tup [.int ((max p q:Nat):Int),.int ((min p q:Nat):Int),.bl b]) c.lg<|.lst<|ws++[.ref t]) d=Zh o:=by rw[aO m2,aO<|bE Z ht];exact Z
  rw[k2 d m1 m3<|bE e1 J];exact e1
 have tk:∀b x,H1 b=Zh (.tup x)->H2 b=Zh (.tup x):=λb x Z=>h.tup fr Z;have ah:H2 c.lg=Zh (.lst<|ws++[.ref t]):=by rw[k2 c.lg aa am<|Pe ap,aU]
 have au:H2 t=Zh (.tup [.int ((max p q:Nat):Int),.int ((min p q:Nat):Int),.bl b]):=by rw[k2 t ai (Pe ag)<|Pe ay,aO<|Pe ad,aU]
 have af:H2 t2=Zh (.tup [.int ((max p q:Nat):Int),.int ((min p q:Nat):Int),.bl b]):=by
  rw[show(((max p q:Nat):Int))=max (p:Int) q by lia,show(((min p q:Nat):Int))=min (p:Int) q by lia];exact ax
 have ao:∀(i:Nat) k,c.ks[i]?=Zh k->∃r,c.xs[i]?=Zh (V.ref r)/\H2 r=Zh (.tup [.int k,.int i]):=λi k hk=>by
  obtain⟨r,a1,a2⟩:=h.row i k hk;exact#[r,a1,tk _ _ a2]
 have st:aH CA CR E H2 c<|pr++[(max p q,min p q,b)]:=#[#[by rw[aQ,fM,show((pr.length+1-c.pre.length:Nat):Int)=((pr.length-c.pre.length:Nat):Int)+1 by lia];exact aw,fr _ _ h.ne.2.1 h.VZ,xc fr h.XW h.WN,h.W9.mono λb o Z=>fr _ _ (h.tupS Z (λ_ z=>by cases z) λ_ _ _ z=>by cases z) Z,fr _ _ h.ne.2.2.2 h.Wv,h.Xq,h.len,ao,#[_,qr++[(max p q,min p q,b)],by rw[O,fL],ah,(W5.keep tk).snoc au],#[_,qr++[(max p q,min p q,b)],by rw[O,fL],ac,(Xj.keep tk).snoc af],h.ne,h.base.trans fr],h.ex]
 have g':=fin H2 fr st;by_cases UI:q<p
 .rw [Z9 UI] at g';rw[Z9<|∅];exact g'
 .rw [Z8 UI] at g';rw[Z8<|∅];exact g'
theorem aH.ahead(h:aH CA CR E H c pr)(z:c.n<=1000){k:Bool->Pg α}{post:α->List A3->Prop}(w:c.W (U4 p q k) pr post)
  (fin:∀b H' pr',Fr c.S H H'->aH CA CR E H' c pr'->c.W (k b) pr' post->Q (.bl b) H'):bL CA CR.c CR.s mG [.ref c.a,.int p,.int q] H Q E:=by
 obtain⟨h1,h2,h3,w⟩:=w;exact h.Wq h1 h2 h3 z<|w.imp id λw=>#[w.1,λH' f s=>fin _ H' _ f s w.2]
end
theorem CL{k:Bool->Pg α}{P:α->Prop}(h:∀b,(k b).Al P):(U4 p q k).Al P:=λb=>h _
theorem vI{n:Nat}(h:n<=1000):n<sizeLine:=Q5 h<|by decide
theorem JE{os:List Nat}{pl:Nat}(h:r<=os.length):sU (nL os) (r:Int) (.int pl)=nL (gT os r pl):=by
 unfold sU gT nL;dsimp only;rw[Z8<|∅,Int.toNat_natCast,aM,vQ h,cU,iK,Es,Er]
theorem rW{os:List Nat}{o:Nat}(h:os[m]?=Zh o):mE (nL os) (m:Int)=Zh (.int o):=dE ∅<|by rw[Int.toNat_natCast,eJ,h];rfl
theorem rm{os:List Nat}{pl:Nat}:∀(m lo hi:Nat),lo<=os.length->(pT os pl m lo hi).Al λr=>r.1<=os.length
 |0,lo,hi,h=>h
 |m+1,lo,hi,h=>by
  rw[pT];by_cases z:hi<os.length
  .rw [Z9 z];refine CL λb=>?_;split
   .exact rm m (hi+1) (2*hi+1) ∅
   .exact h
  .rw [Z8 z];exact h
theorem Lf{os:List Nat}{pl:Nat}:∀(m lo hi:Nat),(iD os pl m lo hi).Al λr=>r<=hi
 |0,lo,hi=>aN _
 |m+1,lo,hi=>by
  rw[iD];by_cases z:lo<hi
  .rw [Z9 z];refine CL λb=>?_;split
   .exact Lf m _ hi
   .exact (Lf m lo _).imp λa h=>by lia
  .rw [Z8 z];exact aN _
theorem Lk(os:List Nat)(pl:Nat):(GW os pl).Al λr=>r<=os.length:=
 Pg.Al.bind<|(rm os.length 0 0<|cQ _).imp λr _=>(Lf os.length r.1<|min r.2 os.length).imp λa h=>by lia
theorem KY{os:List Nat}{pl:Nat}:∀(m lo hi:Nat),lo<=hi->(AB os pl m lo hi).Al λr=>r<=hi
 |0,lo,hi,h=>h
 |m+1,lo,hi,h=>by
  rw[AB];by_cases z:lo<hi
  .rw [Z9 z];refine CL λb=>?_;split
   .exact KY m _ hi ∅
   .exact (KY m lo _<|∅).imp λa h=>by lia
  .rw [Z8 z];exact h
theorem JT(os:List Nat)(pl:Nat):(vB os pl).Al λr=>r<=os.length:=KY _ _ _<|cQ _
inductive lD(CA:OS)(CR:aF):List V->Hp->VK->XK->Prop
 |mk {R Y L M} (c:Ad) (pr:List A3) (ol:OS) (os:List Nat) (f pl:Nat) (post:Nat->List A3->Prop):R=[.ref c.a,.ref ol,.int f,.int pl]->aH CA CR M Y c pr->Y ol=Zh (.lst<|nL os)->ol∉c.S->f<=os.length->c.n<=1000->c.W (GW (os.drop f) pl) pr post->(∀r H' pr',Fr c.S Y H'->aH CA CR M H' c pr'->post r pr'->L (.int (r:Nat)) H')->lD CA CR R Y L M
theorem rk{os:List Nat}{f:Nat}(h:i<(os.drop f).length):os[f+i]?=Zh ((os.drop f).getD i 0):=by
 have:=(oX h).1;rw[AY] at this;exact this
inductive gH(CA:OS)(CR:aF):List V->Hp->VK->XK->Prop
 |mk {R Y L M} (c:Ad) (pr:List A3) (os:List Nat) (pl:Nat) (ol:OS) (post:Nat->List A3->Prop):R=[.ref c.a,.ref ol,.int pl]->aH CA CR M Y c pr->Y ol=Zh (.lst<|nL os)->ol∉c.S->c.n<=1000->c.W (vB os pl) pr post->(∀r H' pr',Fr c.S Y H'->aH CA CR M H' c pr'->post r pr'->L (.int (r:Nat)) H')->gH CA CR R Y L M
inductive pE(CA:OS)(CR:aF):List V->Hp->VK->XK->Prop
 |mk {R Y L M} (c:Ad) (pr:List A3) (first stop:Nat) (post:Nat×Bool->List A3->Prop):R=[.ref c.a,.int first,.int stop]->aH CA CR M Y c pr->c.n<=1000->c.W (sy stop first) pr post->(∀t H' r pr',Fr c.S Y H'->aH CA CR M H' c pr'->H' t=Zh (.tup [.int (r.1:Nat),.bl r.2])->post r pr'->L (.ref t) H')->pE CA CR R Y L M
inductive lG(CA:OS)(CR:aF):List V->Hp->VK->XK->Prop
 |mk {R Y L M} (c:Ad) (pr:List A3) (first ls stop:Nat) (post:Nat×List Nat->List A3->Prop):R=[.ref c.a,.int first,.int ls,.int stop]->aH CA CR M Y c pr->c.n<=1000->first<stop->stop<=600->c.W (vc ls stop first) pr post->(∀t ol H' r pr',Fr c.S Y H'->Y ol=Zi->aH CA CR M H' c pr'->H' t=Zh (.tup [.int (r.1:Nat),.ref ol])->H' ol=Zh (.lst<|nL r.2)->post r pr'->L (.ref t) H')->lG CA CR R Y L M
theorem qy{stop f:Nat}(fal:Bool):∀(m j:Nat),f<j->j<=stop->(pQ stop fal m j).Al λr=>f<r.1/\r.1<=stop
 |0,j,h1,h2=>#[h1,h2]
 |m+1,j,h1,h2=>by
  rw[pQ];by_cases z:j<stop
  .rw [Z9 z];refine CL λb=>?_;split
   .exact qy fal m (j+1) ∅ ∅
   .exact #[h1,h2]
  .rw [Z8 z];exact#[h1,h2]
theorem qq{stop f:Nat}(h:f<stop):(sy stop f).Al λr=>f<r.1/\r.1<=stop:=by
 unfold sy;by_cases z:f+1<stop
 .rw [Z9 z];refine CL λb=>?_;exact qy _ stop (f+2) ∅<|∅
 .rw [Z8 z];exact#[Ba _,∅]
theorem tT(a b:Nat)(f:Bool):Pw.cZ a b f=cZ a b f:=rfl
theorem Jb{M:α->Prop}(P:α->Prop){G:Prop}(h:(∀x,P x->M x)->G)(t:∀x,P x->M x):G:=h t
noncomputable abbrev fJ(ak sd tk pc:OS):List<|Pj×V:=[("places",.ref pc),("taken",.ref tk),("sides",.ref sd),("asker",.ref ak)]
noncomputable def pk{α:Type}(b:Bool)(x y:α):List α:=if b then[x,y] else[y,x]
noncomputable def sv(b:Bool):Int:=if b then 0 else 1
theorem AJ{x:V}:mE (pk b x y) (sv b)=Zh x:=by cases b<;>exact dE (by decide) rfl
theorem uE{x y:α}:pk (!b) y x=pk b x y:=by cases b<;>rfl
theorem E4{x y:α}:(pk b x y).length=2:=by cases b<;>rfl
theorem E2{x:V}:(pk b x y).set (sv b).toNat z=pk b z y:=by cases b<;>rfl
structure JS(CJ:OS)(H:Hp)(b:Bool)(jn ak sd ma ta tk pc:OS)(ms ts:List Nat)(i j:Nat)(dn:List Nat):Prop where
 hj:bD H jn CJ<|fJ ak sd tk pc
 Wu:H sd=Zh (.tup<|pk b (.ref ma)<|.ref ta)
 WO:H ma=Zh (.lst<|nL ms)
 XD:H ta=Zh (.lst<|nL ts)
 UZ:H tk=Zh (.lst<|pk b (.int i)<|.int j)
 WG:H pc=Zh (.lst<|nL dn)
 ne:tk≠pc/\ma≠tk/\ma≠pc/\ta≠tk/\ta≠pc
section
variable {ms:List Nat}
theorem JS.swap(h:JS CJ H b jn ak sd ma ta tk pc ms ts i j dn):JS CJ H (!b) jn ak sd ta ma tk pc ts ms j i dn:=
 #[h.hj,by rw[uE];exact h.Wu,h.XD,h.WO,by rw[uE];exact h.UZ,h.WG,h.ne.1,h.ne.2.2.2.1,h.ne.2.2.2.2,h.ne.2.1,h.ne.2.2.1]
theorem JS.keep{J:Nat}{dn':List Nat}(h:JS CJ H b jn ak sd ma ta tk pc ms ts i j dn)(e:Fr [tk,pc] H H')(h1:H' tk=Zh (.lst<|pk b (.int p)<|.int J))(h2:H' pc=Zh (.lst<|nL dn')):JS CJ H' b jn ak sd ma ta tk pc ms ts p J dn':=by
 have n2:∀{x:OS},x≠tk->x≠pc->x∉[tk,pc]:=λa b z=>(bY.mp z).elim a λz=>b<|cI.mp z;have hj:jn∉[tk,pc]:=n2 (Pe<|h.hj.ne h.UZ λ_ _ _ z=>by cases z) (Pe<|h.hj.ne h.WG λ_ _ _ z=>by cases z);have U:sd∉[tk,pc]:=n2 (λz=>by have:=h.Wu;rw[z,h.UZ] at this;cases this) (λz=>by have:=h.Wu;rw[z,h.WG] at this;cases this);exact#[xc e hj h.hj,e _ _ U h.Wu,e _ _ (n2 h.ne.2.1 h.ne.2.2.1) h.WO,e _ _ (n2 h.ne.2.2.2.1 h.ne.2.2.2.2) h.XD,h1,h2,h.ne]
theorem JS.fr{S:List OS}(h:JS CJ H b jn ak sd ma ta tk pc ms ts i j dn)(e:Fr S H H')(n:jn∉S/\sd∉S/\ma∉S/\ta∉S/\tk∉S/\pc∉S):JS CJ H' b jn ak sd ma ta tk pc ms ts i j dn:=
 #[xc e n.1 h.hj,e _ _ n.2.1 h.Wu,e _ _ n.2.2.1 h.WO,e _ _ n.2.2.2.1 h.XD,e _ _ n.2.2.2.2.1 h.UZ,e _ _ n.2.2.2.2.2 h.WG,h.ne]
theorem JS.mono(h:JS CJ H b jn ak sd ma ta tk pc ms ts i j dn)(e:aC H H'):JS CJ H' b jn ak sd ma ta tk pc ms ts i j dn:=
 h.fr (S:=[]) e.fr #[dU,dU,dU,dU,dU,dU]
end
inductive lE(CJ:OS):List V->Hp->VK->XK->Prop
 |mk (x dx ak al ar:OS) (ls rs:List Nat):R=[.ref x,.ref ak,.ref al,.ref ar]->Y x=Zh (.ins CJ dx [])->Y al=Zh (.lst<|nL ls)->Y ar=Zh (.lst<|nL rs)->(∀sd la ra tk pc H',(∀b o,b≠x->Y b=Zh o->H' b=Zh o)->Y sd=Zi->Y la=Zi->Y ra=Zi->Y tk=Zi->Y pc=Zi->JS CJ H' Zj x ak sd la ra tk pc ls rs 0 0 []->L .Uy H')->lE CJ R Y L M
inductive eG(CJ:OS):List V->Hp->VK->XK->Prop
 |mk (b:Bool) (jn ak sd ma ta tk pc:OS) (ms ts:List Nat) (i j:Nat) (dn:List Nat):R=[.ref jn,.int<|sv b]->JS CJ Y b jn ak sd ma ta tk pc ms ts i j dn->L (.bl<|decide<|i<ms.length) Y->eG CJ R Y L M
inductive iR(CJ:OS):List V->Hp->VK->XK->Prop
 |mk (b:Bool) (jn ak sd ma ta tk pc:OS) (ms ts:List Nat) (i j:Nat) (dn:List Nat) (x:Nat):R=[.ref jn,.int<|sv b]->JS CJ Y b jn ak sd ma ta tk pc ms ts i j dn->ms[i]?=Zh x->L (.int x) Y->iR CJ R Y L M
inductive eE(CJ:OS):List V->Hp->VK->XK->Prop
 |mk (b:Bool) (jn ak sd ma ta tk pc:OS) (ms ts:List Nat) (i j:Nat) (dn:List Nat) (m:Nat):R=[.ref jn,.int<|sv b,.int m]->JS CJ Y b jn ak sd ma ta tk pc ms ts i j dn->i+m<=ms.length->dn.length+ms.length<=1000->(∀H',Fr [tk,pc] Y H'->JS CJ H' b jn ak sd ma ta tk pc ms ts (i+m) j (dn++(ms.drop i).take m)->L .Uy H')->eE CJ R Y L M
inductive eN(CJ:OS):List V->Hp->VK->XK->Prop
 |mk (b:Bool) (jn ak sd ma ta tk pc:OS) (ms ts:List Nat) (i j:Nat) (dn:List Nat):R=[.ref jn,.int<|sv b]->JS CJ Y b jn ak sd ma ta tk pc ms ts i j dn->i<=ms.length->dn.length+ms.length<=1000->(∀H',Fr [tk,pc] Y H'->JS CJ H' b jn ak sd ma ta tk pc ms ts ms.length j (dn++ms.drop i)->L .Uy H')->eN CJ R Y L M
theorem zA{S z:List OS}(h:Fr S H H')(k:∀b∈S,b∈z):Fr z H H':=λb o n J=>h b o (λm=>n<|k b m) J
theorem FH(h:Fr [a,lg,tl] H H'):Fr [a,lg,tl,tk,pc] H H':=zA h λb J=>by
 rcases bY.mp J with z|z
 .rw [z];exact aZ
 rcases bY.mp z with z|z
 .rw [z];exact bF _ aZ
 .rw [cI.mp z];exact bF _<|bF _ aZ
theorem wK(h:Fr [tk,pc] H H'):Fr [a,lg,tl,tk,pc] H H':=zA h λb z=>bF _<|bF _<|bF _ z
structure NX(c:Ad)(jn sd ma ta tk pc:OS):Prop where
 n1:jn∉c.A/\sd∉c.A/\ma∉c.A/\ta∉c.A/\tk∉c.A/\pc∉c.A
theorem NX.swap(h:NX c jn sd ma ta tk pc):NX c jn sd ta ma tk pc:=#[#[h.n1.1,h.n1.2.1,h.n1.2.2.2.1,h.n1.2.2.1,h.n1.2.2.2.2]]
theorem JS.Xn{ms:List Nat}(h:JS CJ H b jn ak sd ma ta tk pc ms ts i j dn)(nx:NX c jn sd ma ta tk pc)(f:Fr c.S H H'):JS CJ H' b jn ak sd ma ta tk pc ms ts i j dn:=
 h.fr f #[Ad.SA nx.n1.1,Ad.SA nx.n1.2.1,Ad.SA nx.n1.2.2.1,Ad.SA nx.n1.2.2.2.1,Ad.SA nx.n1.2.2.2.2.1,Ad.SA nx.n1.2.2.2.2.2]
theorem aH.VR{CR:aF}{ms:List Nat}(s:aH CA CR E H c pr)(h:JS CJ H b jn ak sd ma ta tk pc ms ts i j dn)(nx:NX c jn sd ma ta tk pc)(f:Fr [tk,pc] H H'):aH CA CR E H' c pr:=
 s.apart f (λx hx=>by
  rcases bY.mp hx with z|z
  .rw [z];exact .inl #[_,h.UZ]
  .rw [cI.mp z];exact .inl #[_,h.WG]) λx hx=>by
  rcases bY.mp hx with z|z
  .rw [z];exact nx.n1.2.2.2.2.1
  .rw [cI.mp z];exact nx.n1.2.2.2.2.2
theorem Gp{os:List Nat}(h:os[i]?=Zh x):os.drop i=x::os.drop (i+1):=by
 obtain⟨h1,h2⟩:=jS.mp h;rw[Ay h1,h2]
theorem Lx{os:List Nat}(h:os[i]?=Zh x):(os.drop i).take 1=[x]:=by
 rw[Gp h];rfl
theorem Cw{x y:Option V}{o1:Int}{c:Prop}[Decidable c](h:∀o:Int,(c/\o=o1)∨(¬ c/\o=N)->P D [x,y,Zh<|.int o] H):if c then P D [x,y,Zh<|.int o1] H else P D [x,y,Zh<|.int N] H:=by
 split
 .rename_i h1;exact h o1<|.inl #[h1,rfl]
 .rename_i h1;exact h N<|.inr #[h1,rfl]
theorem HN(P:Prop){M G:Prop}(h:(P->M)->G)(t:P->M):G:=h t
inductive pD(CA:OS)(CR:aF)(CJ:OS):List V->Hp->VK->XK->Prop
 |mk {R Y L M} (c:Ad) (pr:List A3) (jn sd la ra tk pc:OS) (ls rs dn:List Nat) (i j x y:Nat) (k:Bool->Pg (List Nat)) (post:List Nat->List A3->Prop):R=[.ref jn]->aH CA CR M Y c pr->JS CJ Y Zj jn c.a sd la ra tk pc ls rs i j dn->NX c jn sd la ra tk pc->ls[i]?=Zh x->rs[j]?=Zh y->c.n<=1000->dn.length+ls.length<=1000->dn.length+rs.length<=1000->c.W (U4 x y k) pr post->(∀b H' pr',Fr [c.a,c.lg,c.tl,tk,pc] Y H'->aH CA CR M H' c pr'->JS CJ H' Zj jn c.a sd la ra tk pc ls rs (if b then i+1 else i) (if b then j else j+1) (dn++[if b then x else y])->c.W (k b) pr' post->L (.int<|sv b) H')->pD CA CR CJ R Y L M
inductive gK(CA:OS)(CR:aF)(CJ:OS):List V->Hp->VK->XK->Prop
 |mk {R Y L M} (c:Ad) (pr:List A3) (jn sd ma ta tk pc:OS) (b:Bool) (ms ts dn:List Nat) (i j y:Nat) (post:Nat->List A3->Prop):R=[.ref jn,.int<|sv b]->aH CA CR M Y c pr->JS CJ Y b jn c.a sd ma ta tk pc ms ts i j dn->NX c jn sd ma ta tk pc->ts[j]?=Zh y->i<=ms.length->c.n<=1000->dn.length+ms.length+ts.length<=1000->c.W (GW (ms.drop i) y) pr post->(∀k H' pr',Fr [c.a,c.lg,c.tl,tk,pc] Y H'->aH CA CR M H' c pr'->i+k<=ms.length->JS CJ H' b jn c.a sd ma ta tk pc ms ts (i+k) (if i+k<ms.length then j+1 else j) (dn++(ms.drop i).take k++if i+k<ms.length then[y] else[])->post k pr'->L .Uy H')->gK CA CR CJ R Y L M
inductive cV(CA:OS)(CR:aF):List V->Hp->VK->XK->Prop
 |mk {R Y L M} (c:Ad) (pr:List A3) (al ar:OS) (ls rs:List Nat) (post:List Nat->List A3->Prop):R=[.ref c.a,.ref al,.ref ar]->aH CA CR M Y c pr->Y al=Zh (.lst<|nL ls)->Y ar=Zh (.lst<|nL rs)->c.n<=1000->ls.length+rs.length<=500->c.W (G8 ls rs) pr post->(∀l H' ps pr',Fr c.S Y H'->Y l=Zi->H' l=Zh (.lst<|nL ps)->aH CA CR M H' c pr'->post ps pr'->L (.ref l) H')->cV CA CR R Y L M
theorem EI{a:Bool}(h:sv a=sv b):a=b:=by revert h;cases a<;>cases b<;>intro h<;>first|rfl|cases h
theorem y8{n w:Nat}{s:Bool}{ls rs:List Nat}{post:List Nat->List A3->Prop}(h:¬ (i<ls.length/\j<rs.length))(hi:i<=ls.length)(J:j<=rs.length)(hw:c.W (vy n s w (ls.drop i) (rs.drop j) dn) pr post):post (dn++ls.drop i++rs.drop j) pr:=by
 by_cases z:i<ls.length
 .have e:rs.drop j=[]:=QD ∅;rw[e] at hw⊢;cases n with
  |zero=>exact hw
  |succ n=>
   cases e2:ls.drop i with
   |nil=>rw[e2] at hw;exact hw
   |cons x l=>rw[e2] at hw;exact hw
 .have e:ls.drop i=[]:=QD ∅;rw[e] at hw⊢;cases n with
  |zero=>exact hw
  |succ n=>exact hw
noncomputable abbrev AD(a:OS)(ls s e r:Int)(fs od gr:OS):List<|Pj×V:=[("grades",.ref gr),("orders",.ref od),("firsts",.ref fs),("reached",.int r),("end",.int e),("start",.int s),("least",.int ls),("asker",.ref a)]
theorem rB{ls s e r r':Int}:∀f,(aL "reached" (.int r')<|AD a ls s e r tk lg gr).lookup f=(AD a ls s e r' tk lg gr).lookup f:=λf=>by
 rw[mH];by_cases h:f=("reached":Pj)
 .subst h;rw[Z9 rfl];exact(show Qp _ (AD a ls s e r' tk lg gr)=Zh (.int r') by walk_at "l").symm
 .simp only[lkc,h,if_false]
noncomputable def bB:List (Nat×List Nat)->Nat->Nat
 |[],r=>r
 |p::_,_=>p.1
theorem xy{l:List α}(h:2<=l.length):∃A x y,l=A++[x,y]:=by
 refine#[l.take<|l.length-2,l[l.length-2],l[l.length-1],?_];have z:l.drop (l.length-2)=[l[l.length-2],l[l.length-1]]:=by
  rw[Ay<|∅,show l.length-2+1=l.length-1 by lia,Ay<|∅,show l.length-1+1=l.length by lia,List.drop_length]
 rw[<- z,qf]
def bG(H:Hp):List OS->List (Nat×List Nat)->Prop
 |[],[]=>True
 |b::bs,p::ps=>H b=Zh (.lst<|nL p.2)/\bG H bs ps
 |_,_=>False
theorem bG.len{H:Hp}:∀{oa:List OS} {ps:List<|Nat×List Nat},bG H oa ps->oa.length=ps.length
 |[],[],_=>rfl
 |b::bs,p::ps,h=>by rw[cF,cF,bG.len h.2]
 |[],p::ps,h=>h.elim
 |b::bs,[],h=>h.elim
theorem bG.keep{H H':Hp}:∀{oa:List OS} {ps:List<|Nat×List Nat},bG H oa ps->(∀b∈oa,∀o,H b=Zh o->H' b=Zh o)->bG H' oa ps
 |[],[],_,_=>trivial
 |b::bs,p::ps,h,e=>#[e b aZ _ h.1,bG.keep h.2 λc hc=>e c<|bF _ hc]
 |[],p::ps,h,_=>h.elim
 |b::bs,[],h,_=>h.elim
theorem bG.split{H:Hp}:∀{P:List<|Nat×List Nat} {oa:List OS} {Q:List<|Nat×List Nat},bG H oa (P++Q)->∃A B,oa=A++B/\A.length=P.length/\bG H A P/\bG H B Q
 |[],oa,Q,h=>#[[],oa,rfl,rfl,trivial,h]
 |p::P,[],Q,h=>h.elim
 |p::P,b::bs,Q,h=>by
  obtain⟨A,B,z,e2,e3,e4⟩:=bG.split (P:=P) h.2;exact#[b::A,B,by rw[z];rfl,by rw[cF,cF,e2],#[h.1,e3],e4]
theorem bG.app{H:Hp}:∀{P:List<|Nat×List Nat} {A B:List OS} {Q:List<|Nat×List Nat},bG H A P->bG H B Q->bG H (A++B) (P++Q)
 |[],[],B,Q,_,h=>h
 |p::P,[],B,Q,h,_=>h.elim
 |[],b::bs,B,Q,h,_=>h.elim
 |p::P,b::bs,B,Q,h,h'=>#[h.1,bG.app h.2 h']
theorem bG.get{H:Hp}:∀{ps:List<|Nat×List Nat} {oa:List OS} {i:Nat} {b:OS},bG H oa ps->oa[i]?=Zh b->∃p,ps[i]?=Zh p/\H b=Zh (.lst<|nL p.2)
 |[],[],i,b,_,e=>by simp at e
 |p::P,[],i,b,h,_=>h.elim
 |[],c::bs,i,b,h,_=>h.elim
 |p::P,c::bs,0,b,h,e=>by cases e;exact#[p,rfl,h.1]
 |p::P,c::bs,i+1,b,h,e=>by
  obtain⟨z,a1,a2⟩:=bG.get (ps:=P) (oa:=bs) (i:=i) h.2 (by simpa using e);exact#[z,by simpa using a1,a2]
theorem bG.two{A B:List<|Nat×List Nat}{U p2:Nat×List Nat}(h:bG H oa<|A++U::p2::B):∃J z O OB,oa=J++z::O::OB/\J.length=A.length/\bG H J A/\H z=Zh (.lst<|nL U.2)/\H O=Zh (.lst<|nL p2.2)/\bG H OB B:=by
 obtain⟨J,R,Z,e2,e3,e4⟩:=h.split
 match R,e4 with
 |z::O::OB,e4=>exact#[J,z,O,OB,Z,e2,e3,e4.1,e4.2.1,e4.2.2]
 |[z],e4=>exact e4.2.elim
 |[],e4=>exact e4.elim
theorem rM{b:OS}(h:oa[m]?=Zh b):mE (oa.map V.ref) (m:Int)=Zh (.ref b):=dE ∅<|by rw[Int.toNat_natCast,eJ,h];rfl
theorem JC(X:List α)(x:α)(Y:List α):(X++x::Y)[X.length]?=Zh x:=by rw[kE<|aN _,kP];rfl
theorem IA(X:List α)(x y:α)(Y:List α):(X++x::y::Y)[X.length+1]?=Zh y:=by rw[kE<|∅,GA];rfl
theorem Bm(X:List α)(x y:α)(Y:List α):(X++x::Y).set X.length y=X++y::Y:=by rw[List.set_append_right _ _<|aN _,kP];rfl
theorem ve(X:List α)(x y:α)(Y:List α):(X++x::y::Y).eraseIdx (X.length+1)=X++x::Y:=by rw[List.eraseIdx_append_of_length_le<|∅,GA];rfl
theorem FV{l:List V}{x:V}:mE (l++[x,y]) (-2)=Zh x:=by
 unfold mE za;rw[aQ,show([x,y]:List V).length=2 from rfl,Z8<|by decide,Z9<|∅,show((-2:Int)+((l.length+2:Nat):Int)).toNat=l.length by lia];exact JC l x [y]
theorem Ac{l:List V}:mE (l++[y]) (-1)=Zh y:=by
 unfold mE za;rw[aQ,show([y]:List V).length=1 from rfl,Z8<|by decide,Z9<|∅,show((-1:Int)+((l.length+1:Nat):Int)).toNat=l.length by lia];exact JC l y []
structure aV(CP:OS)(H:Hp)(x a fs od gr:OS)(ls s e r:Nat)(oa:List OS)(ps:List<|Nat×List Nat)(gs:List Nat):Prop where
 hp:bD H x CP<|AD a ls s e r fs od gr
 V7:H fs=Zh (.lst<|nL<|ps.map PU)
 V6:H od=Zh (.lst<|oa.map V.ref)
 WQ:H gr=Zh (.lst<|nL gs)
 WA:bG H oa ps
 ne:fs≠od/\fs≠gr/\od≠gr
 nb:∀b∈oa,b∉[fs,od,gr]
section
variable {x fs od:OS}{s:Nat}{ps:List (Nat×List Nat)}
theorem aV.fr{S:List OS}(h:aV CP H x a fs od gr ls s e r oa ps gs)(f:Fr S H H')(n:x∉S/\fs∉S/\od∉S/\gr∉S)(n2:∀b∈oa,b∉S):aV CP H' x a fs od gr ls s e r oa ps gs:=
 #[xc f n.1 h.hp,f _ _ n.2.1 h.V7,f _ _ n.2.2.1 h.V6,f _ _ n.2.2.2 h.WQ,h.WA.keep λb z o=>f b o<|n2 b z,h.ne,h.nb]
theorem aV.mono(h:aV CP H x a fs od gr ls s e r oa ps gs)(f:aC H H'):aV CP H' x a fs od gr ls s e r oa ps gs:=h.fr (S:=[]) f.fr #[dU,dU,dU,dU] λ_ _=>dU
theorem aV.VT(h:aV CP H x a fs od gr ls s e r oa ps gs):∀c∈[fs,od,gr],∃l,H c=Zh (.lst l):=λc hc=>by
 rcases bY.mp hc with z|z
 .rw [z];exact#[_,h.V7]
 rcases bY.mp z with z|z
 .rw [z];exact#[_,h.V6]
 .rw [cI.mp z];exact#[_,h.WQ]
theorem aV.xl(h:aV CP H x a fs od gr ls s e r oa ps gs):x∉[fs,od,gr]:=λz=>by
 obtain⟨l,hl⟩:=h.VT x z;exact h.hp.ne hl (λ_ _ _ z=>by cases z) rfl
end
inductive eO(CA CP:OS):List V->Hp->VK->XK->Prop
 |mk (x dx a:OS) (ls s e:Nat) (pz:V):R=[.ref x,.ref a,.int ls,pz]->Y x=Zh (.ins CP dx [])->((∃pt,pz=.ref pt/\Y pt=Zh (.tup [.int s,.int e]))∨(pz=.Uy/\s=0/\a≠x/\∃rl ru m n tl xs,bD Y a CA (fA rl ru m n tl)/\Y rl=Zh (.lst xs)/\xs.length=e))->(∀fs od gr H',(∀b o,b≠x->Y b=Zh o->H' b=Zh o)->Y fs=Zi->Y od=Zi->Y gr=Zi->aV CP H' x a fs od gr ls s e s [] [] []->L .Uy H')->eO CA CP R Y L M
inductive eQ(CP:OS):List V->Hp->VK->XK->Prop
 |mk (x a fs od gr:OS) (ls s e r:Nat) (oa:List OS) (A:List<|Nat×List Nat) (p:Nat×List Nat) (B:List<|Nat×List Nat) (gs:List Nat):R=[.ref x,.int (A.length:Nat)]->aV CP Y x a fs od gr ls s e r oa (A++p::B) gs->L (.int (bB B r:Nat)) Y->eQ CP R Y L M
inductive ue(CP:OS):List V->Hp->VK->XK->Prop
 |mk (x a fs od gr:OS) (ls s e r:Nat) (oa:List OS) (ps:List<|Nat×List Nat) (gs:List Nat):R=[.ref x]->aV CP Y x a fs od gr ls s e r oa ps gs->L (.bl<|mW gs) Y->ue CP R Y L M
inductive lC(CP:OS):List V->Hp->VK->XK->Prop
 |mk (x a fs od gr:OS) (ls s e r:Nat) (oa:List OS) (A:List<|Nat×List Nat) (p:Nat×List Nat) (gs:List Nat) (m b:Nat):R=[.ref x,.int m,.int b]->aV CP Y x a fs od gr ls s e r oa (A++[p]) gs->s<=p.1->p.1<m->m<b->b<=e->e<=500->(∀g:Nat,Gr.IsG ((e:Int)-s) (((p.1:Int)-s)+((m:Int)-s)) (((m:Int)-s)+((b:Int)-s)) g->g<=240->L (.int g) Y)->lC CP R Y L M
inductive lB(CP:OS):List V->Hp->VK->XK->Prop
 |mk (x a fs od gr:OS) (ls s e r:Nat) (oa:List OS) (ps:List<|Nat×List Nat) (gs:List Nat):R=[.ref x]->aV CP Y x a fs od gr ls s e r oa ps gs->(flt ps).length<=500->r<=e->e<=500->(∀l H',aC Y H'->Y l=Zi->H' l=Zh (.lst<|nL<|flt ps++Pz r (e-r))->L (.ref l) H')->lB CP R Y L M
theorem va(A B:List<|Nat×List Nat):flt (A++B)=flt A++flt B:=by unfold flt;rw[cU,tJ]
theorem Cu(h:gs.length<=1):mW gs=Zk:=by
 cases hd:mW gs with
 |false=>rfl
 |true=>have:=Lh hd;lia
noncomputable def grd(n a b c:Nat):Nat:=open Classical in if h:∃g,Gr.IsG (n:Int) ((a:Int)+b) ((b:Int)+c) g then h.choose else 0
theorem FC{n a b c g:Nat}{x y:Int}(h:Gr.IsG N x y g)(z:N=n)(e2:x=(a:Int)+b)(e3:y=(b:Int)+c):grd n a b c=g:=by
 subst z e2 e3;unfold grd;have hx:∃g,Gr.IsG (n:Int) ((a:Int)+b) ((b:Int)+c) g:=#[g,h]
 rw[dif_pos hx];exact hx.choose_spec.uniq h
theorem Gq:∀(m:Nat) (s:Bool) (w:Nat) (l r acc:List Nat),(vy m s w l r acc).Al λos=>os.length=acc.length+l.length+r.length
 |0,s,w,l,r,acc=>by
  show(acc++l++r).length=_;rw[aQ,aQ]
 |m+1,s,w,[],r,acc=>by
  show(acc++[]++r).length=_;rw[aQ,aQ]
 |m+1,s,w,x::l,[],acc=>by
  show(acc++x::l++[]).length=_;rw[aQ,aQ]
 |m+1,s,w,x::l,y::r,acc=>by
  rw[vy];refine CL λb=>?_;have tk:∀(L:List Nat) k,k<=L.length->(L.take k).length=k/\(L.drop k).length=L.length-k:=λL k h=>#[by rw[iF];lia,gP]
  by_cases h4:(if b=s then w+1 else 1)=4
  .rw [Z9 h4];cases b
   .rw [Z8<|by decide];refine Pg.Al.bind<|(Lk r x).imp λk z=>?_;have:=tk r k z;split
    .exact (Gq m _ _ _ _ _).imp λos h=>by simp at h⊢;lia
    .exact (Gq m _ _ _ _ _).imp λos h=>by simp at h⊢;lia
   .rw [Z9 rfl];refine Pg.Al.bind<|(Lk l y).imp λk z=>?_;have:=tk l k z;split
    .exact (Gq m _ _ _ _ _).imp λos h=>by simp at h⊢;lia
    .exact (Gq m _ _ _ _ _).imp λos h=>by simp at h⊢;lia
  .rw [Z8 h4];split
   .exact (Gq m _ _ _ _ _).imp λos h=>by simp at h⊢;lia
   .exact (Gq m _ _ _ _ _).imp λos h=>by simp at h⊢;lia
theorem rb(l r:List Nat):(G8 l r).Al λos=>os.length=l.length+r.length:=(Gq _ _ _ _ _ _).imp λos h=>by rw[h];simp
theorem qE:∀(m pl:Nat) (os:List Nat),(iY vB m pl os).Al λz=>z.length=os.length+m
 |0,pl,os=>rfl
 |m+1,pl,os=>Pg.Al.bind ((JT os pl).imp λr _=>(qE m (pl+1) _).imp λz h=>by
  have:=(bS (os:=os) (r:=r) (x:=pl)).length_eq;rw[aQ,fM] at this;lia)
theorem wN(h:r<e):(vc ls e r).Al λf=>0<f.2.length/\r+f.2.length<=e:=
 Pg.Al.bind<|(qq h).imp λg J=>Pg.Al.bind ((qE _ _ _).imp λos z=>by
  have:=nG r g.1 g.2;rw[tT] at z;show 0<os.length/\r+os.length<=e;lia)
structure PW(s e:Nat)(t:PS):Prop where
 cl:Cl s t.ps t.r
 re:t.r<=e
 gl:t.gs.length=t.ps.length-1
structure AV(c:Ad)(x fs od gr:OS)(oa:List OS):Prop where
 n1:x∉c.A/\fs∉c.A/\od∉c.A/\gr∉c.A
 n2:∀b∈oa,b∉c.A
theorem AV.l3{x:OS}(h:AV c x f a gr oa):∀b∈[f,a,gr],b∉c.A:=λb J=>by
 rcases bY.mp J with z|z
 .rw [z];exact h.n1.2.1
 rcases bY.mp z with z|z
 .rw [z];exact h.n1.2.2.1
 .rw [cI.mp z];exact h.n1.2.2.2
theorem aV.Xn{x:OS}{s:Nat}{ps:List<|Nat×List Nat}(h:aV CP H x a tk lg gr ls s e r oa ps gs)(z:AV c x tk lg gr oa)(f:Fr c.S H H'):aV CP H' x a tk lg gr ls s e r oa ps gs:=
 h.fr f #[Ad.SA z.n1.1,Ad.SA z.n1.2.1,Ad.SA z.n1.2.2.1,Ad.SA z.n1.2.2.2] λb J=>Ad.SA<|z.n2 b J
theorem aH.three{CR:aF}{x:OS}{s:Nat}{ps:List<|Nat×List Nat}(st:aH CA CR E H c pr)(h:aV CP H x a tk lg gr ls s e r oa ps gs)(J:AV c x tk lg gr oa)(f:Fr [tk,lg,gr] H H'):aH CA CR E H' c pr:=st.apart f (λb z=>.inl<|h.VT b z) J.l3
def LeftW(CA:OS)(CR:aF)(E:XK)(CP:OS)(H:Hp)(c:Ad)(x fs od gr:OS)(ls s e:Nat)(oa oa':List OS)(t:PS)(pr:List A3)(H':Hp):Prop:=
 Fr [x,fs,od,gr,c.a,c.lg,c.tl] H H'/\(∀b∈oa',b∈oa∨H b=Zi)/\aV CP H' x c.a fs od gr ls s e t.r oa' t.ps t.gs/\AV c x fs od gr oa'/\aH CA CR E H' c pr/\PW s e t
inductive eP(CA:OS)(CR:aF)(CP:OS):List V->Hp->VK->XK->Prop
 |mk {R Y L M} (c:Ad) (pr:List A3) (x fs od gr:OS) (ls s e i r:Nat) (oa:List OS) (ps:List<|Nat×List Nat) (gs:List Nat) (post:Option PS->List A3->Prop):R=[.ref x,.int (i:Nat)]->aH CA CR M Y c pr->aV CP Y x c.a fs od gr ls s e r oa ps gs->AV c x fs od gr oa->PW s e ⟨r,ps,gs⟩->i+2<=ps.length->e<=500->c.n<=1000->c.W (GR i ⟨r,ps,gs⟩) pr post->(∀t H' t' oa' pr',LeftW CA CR M CP Y c x fs od gr ls s e oa oa' t' pr' H'->t'.r=r->t'.ps.length+1=ps.length->post (Zh t') pr'->L (.ref t) H')->eP CA CR CP R Y L M
inductive pH(CA:OS)(CR:aF)(CP:OS):List V->Hp->VK->XK->Prop
 |mk {R Y L M} (c:Ad) (pr:List A3) (x fs od gr:OS) (ls s e r:Nat) (oa:List OS) (ps:List<|Nat×List Nat) (gs:List Nat) (post:Option PS->List A3->Prop):R=[.ref x]->aH CA CR M Y c pr->aV CP Y x c.a fs od gr ls s e r oa ps gs->AV c x fs od gr oa->PW s e ⟨r,ps,gs⟩->r<e->e<=500->c.n<=1000->c.W (B3 grd ls s e ⟨r,ps,gs⟩) pr post->(∀t H' t' oa' pr',LeftW CA CR M CP Y c x fs od gr ls s e oa oa' t' pr' H'->r<t'.r->t'.ps.length=ps.length+1->post (Zh t') pr'->L (.ref t) H')->pH CA CR CP R Y L M
inductive lA(CA:OS)(CR:aF)(CP:OS):List V->Hp->VK->XK->Prop
 |mk {R Y L M} (c:Ad) (pr:List A3) (x fs od gr:OS) (ls s e r:Nat) (oa:List OS) (ps:List<|Nat×List Nat) (gs:List Nat) (post:Option PS->List A3->Prop):R=[.ref x]->aH CA CR M Y c pr->aV CP Y x c.a fs od gr ls s e r oa ps gs->AV c x fs od gr oa->PW s e ⟨r,ps,gs⟩->e<=500->c.n<=1000->c.W (Ii grd ls s e ⟨r,ps,gs⟩) pr post->(post Zi pr->L .Uy Y)->(∀t H' t' oa' pr',LeftW CA CR M CP Y c x fs od gr ls s e oa oa' t' pr' H'->2*(e-t'.r)+t'.ps.length<2*(e-r)+ps.length->post (Zh t') pr'->L (.ref t) H')->lA CA CR CP R Y L M
inductive cX(CA:OS)(CR:aF):List V->Hp->VK->XK->Prop
 |mk {R Y L M} (c:Ad) (pr:List A3) (ls s e:Nat) (pt:V) (post:List Nat->List A3->Prop):R=[.ref c.a,.int ls,pt]->aH CA CR M Y c pr->((∃b,pt=.ref b/\Y b=Zh (.tup [.int s,.int e]))∨(pt=.Uy/\s=0/\e=c.n))->s<=e->e<=500->c.n<=1000->c.W (Cz grd ls s e) pr post->(∀l H' os pr',Fr c.S Y H'->Y l=Zi->H' l=Zh (.lst<|nL os)->aH CA CR M H' c pr'->os.length=e-s->post os pr'->L (.ref l) H')->cX CA CR R Y L M
noncomputable abbrev fP(ak pl tk ml wd:OS):List<|Pj×V:=[("went_on",.ref wd),("meetings",.ref ml),("taken",.ref tk),("pieces",.ref pl),("asker",.ref ak)]
theorem Kt{os:List Nat}{o:Nat}(h:os[m]?=Zh o):mE (nL os) (m:Int)=Zh (.int o):=dE ∅<|by rw[Int.toNat_natCast,eJ,h];rfl
noncomputable abbrev kQ(p q:Nat):List Key:=[Sum.inl (p:Int),Sum.inl (q:Int)]
theorem Fs{q':Nat}(h:kQ p q=kQ i q'):p=i/\q=q':=by
 injection h with h1 h2
 injection h2 with h2 _
 injection h1 with h1
 injection h2 with h2
 lia
noncomputable abbrev eY(bb:Bool)(CA:OS)(CR:aF)(E:XK)(H:Hp)(c:Ad)(pr:List A3):Prop:=aH CA CR E H c<|flp bb pr
noncomputable def rv(bb:Bool)(xs:List Nat):List Nat:=cond bb xs.reverse xs
theorem EO(bb:Bool)(xs:List Nat):(rv bb xs).length=xs.length:=by cases bb;rfl;exact GG
def AW(H:Hp)(u:V):Po.Fr->Prop
 |none=>u=.Uy
 |some x=>∃t,u=.ref t/\H t=Zh (.tup [.int (x.1:Int),.int (x.2:Int)])
theorem AW.keep(h:AW H u v)(e:∀t x,H t=Zh (.tup x)->H' t=Zh (.tup x)):AW H' u v:=by
 cases v with
 |none=>exact h
 |some x=>obtain⟨t,a,b⟩:=h;exact#[t,a,e _ _ b]
noncomputable def front(xs:List Nat)(t i:Nat):Po.Fr:=(xs[t]?).map λx=>(x,i)
structure PB(bb:Bool)(CP:OS)(H:Hp)(p ak pl tk ml wd:OS)(pls:List OS)(pcs:List<|List Nat):Prop where
 hp:bD H p CP<|fP ak pl tk ml wd
 VV:H pl=Zh (.lst<|pls.map V.ref)
 len:pls.length=pcs.length
 pc:∀(i:Nat) l xs,pls[i]?=Zh l->pcs[i]?=Zh xs->H l=Zh (.lst<|nL<|rv bb xs)
theorem PB.at{p:OS}(h:PB bb CP H p ak pl tk ml wd pls pcs){xs:List Nat}(e:pcs[i]?=Zh xs):∃l,pls[i]?=Zh l/\H l=Zh (.lst<|nL<|rv bb xs):=by
 have hi:=(jS.mp e).1;have z:i<pls.length:=by rw[h.len];exact hi
 have J:pls[i]?=Zh pls[i]:=bV z;exact#[_,J,h.pc i _ xs J e]
theorem PB.fr{S:List OS}{p:OS}(h:PB bb CP H p ak pl tk ml wd pls pcs)(e:Fr S H H')(n1:p∉S)(n2:pl∉S)(z:∀l∈pls,l∉S):PB bb CP H' p ak pl tk ml wd pls pcs:=
 #[xc e n1 h.hp,e _ _ n2 h.VV,h.len,λi l xs a b=>e _ _ (z l<|jD a)<|h.pc i l xs a b]
theorem PB.mono{p:OS}(h:PB bb CP H p ak pl tk ml wd pls pcs)(e:aC H H'):PB bb CP H' p ak pl tk ml wd pls pcs:=
 h.fr (S:=[]) e.fr dU dU λ_ _=>dU
structure dI(H:Hp)(vs:List V)(ms:List Po.Mt):Prop where
 len:vs.length=ms.length
 get:∀(i:Nat) m,ms[i]?=Zh m->∃t,vs[i]?=Zh (V.ref t)/\H t=Zh (.tup [.int (m.1:Int),.int (m.2.1:Int),.int (m.2.2:Int)])
theorem dI.keep{ms:List Po.Mt}(h:dI H vs ms)(e:∀t x,H t=Zh (.tup x)->H' t=Zh (.tup x)):dI H' vs ms:=#[h.len,λi m hm=>let ⟨t,a,b⟩:=h.get i m hm;#[t,a,e _ _ b]]
theorem dI.app{us:List V}{ms ns:List Po.Mt}(h:dI H vs ms)(g:dI H us ns):dI H (vs++us)<|ms++ns:=by
 refine#[by rw[aQ,aQ,h.len,g.len],λj m z=>?_];by_cases hl:j<ms.length
 .rw [mB hl] at z;rw[mB<|by rw[h.len];exact hl];exact h.get j m z
 .rw [kE<|∅] at z;rw[kE<|by rw[h.len];lia,h.len];exact g.get _ m z
theorem dI.one{m:Po.Mt}{t:OS}(J:H t=Zh (.tup [.int (m.1:Int),.int (m.2.1:Int),.int (m.2.2:Int)])):dI H [.ref t] [m]:=#[rfl,λj a z=>by
 cases j with
 |zero=>cases z;exact#[t,rfl,J]
 |succ j=>simp at z]
theorem dI.nil:dI H [] []:=#[rfl,λj a z=>by simp at z]
inductive bW(n:Nat):List V->Hp->VK->XK->Prop
 |mk (f b:Nat):R=[.int f,.int b]->f<=b->b<=600->0<n->b-f<=2^(n-1)->(∀l H' ws,aC Y H'->Y l=Zi->H' l=Zh (.lst ws)->dI H' ws (Po.mts f b)->L (.ref l) H')->bW n R Y L M
theorem mI(h:bW 0 vs H Q E):False:=by
 obtain⟨_,_,_,_,_,h0,_⟩:=h;lia
inductive cJ(bb:Bool)(CP:OS):List V->Hp->VK->XK->Prop
 |mk (p ak pl tk ml wd:OS) (pls:List OS) (pcs:List<|List Nat) (i t:Nat) (xs:List Nat):R=[.ref p,.int i,.int t]->PB bb CP Y p ak pl tk ml wd pls pcs->pcs[i]?=Zh xs->(∀u H',aC Y H'->AW H' u (front xs t i)->L u H')->cJ bb CP R Y L M
structure DT(H:Hp)(d:OS)(w:Po.W)(B:Nat)(kvs:List<|List Key×V):Prop where
 hd:H d=Zh (.dT kvs)
 sm:Kp kvs
 len:kvs.length<=B
 val:∀a c v,w a c=Zh v->∃u,dG kvs (kQ a c)=Zh u/\AW H u v
theorem DT.fr{S:List OS}(h:DT H d w B kvs)(e:Fr S H H')(n:d∉S)(t:∀t x,H t=Zh (.tup x)->t∉S):DT H' d w B kvs:=
 #[e _ _ n h.hd,h.sm,h.len,λa c v z=>let ⟨u,x,y⟩:=h.val a c v z;#[u,x,y.keep λb o q=>e _ _ (t _ _ q) q]]
theorem DT.mono(h:DT H d w B kvs)(e:aC H H'):DT H' d w B kvs:=h.fr (S:=[]) e.fr dU λ_ _ _=>dU
theorem yV{k:List Key}{v:V}{J:List Key×V}(h:J∈putK kvs k v):J.1=k∨∃z∈kvs,z.1=J.1:=by
 unfold putK at h;split at h
 .obtain ⟨z,h1,h2⟩:=qg.mp h;split at h2
  .rename_i e;rw[<- h2];exact .inl e
  .rw [<- h2];exact .inr #[z,h1,rfl]
 .rcases gZ.mp h with h|h
  .exact .inr #[J,h,rfl]
  .rw [cI.mp h];exact .inl rfl
theorem yX{k:List Key}{v:V}(h:dG kvs k=Zh u):(putK kvs k v).length=kvs.length:=by
 unfold putK;rw[Z9<|by rw[IF,h];rfl,aM]
theorem DT.put(h:DT H d w B kvs){a c:Nat}(ha:a<205)(hc:c<=500)(hu:AW H u v)(hk:k=1∨(w a c).isSome=Zj):DT (upd H d<|.dT<|putK kvs (kQ a c) u) d (Po.put w a c v) (B+k)<|putK kvs (kQ a c) u:=by
 have e:∀t x,H t=Zh (.tup x)->upd H d (.dT<|putK kvs (kQ a c) u) t=Zh (.tup x):=λt x Z=>by rw[aO λz=>by rw[z,h.hd] at Z;cases Z];exact Z
 refine#[aU,λkv aa=>?_,?_,λa' c' v' J=>?_]
 .rcases yV aa with z|⟨ac,h1,h2⟩
  .exact #[a,c,z,ha,hc]
  .rw [<- h2];exact h.sm ac h1
 .have:=h.len;rcases hk with rfl|z
  .exact dJ (Mr _ _ _) ∅
  .obtain ⟨v0,U⟩:=Option.isSome_iff_exists.mp z;obtain⟨u0,O,_⟩:=h.val a c v0 U;rw[yX O];lia
 .unfold Po.put at J;rw[xu];by_cases z:a'=a/\c'=c
  .rw [Z9 z] at J;rw[Z9<|by rw[z.1,z.2]];cases J;exact#[u,rfl,hu.keep e]
  .rw [Z8 z] at J;rw[Z8 λy=>z<|Fs y];obtain⟨u',x,y⟩:=h.val a' c' v' J;exact#[u',x,y.keep e]
theorem tp{os:List α}{x:α}(h:os[i]?=Zh x):os.drop i=x::os.drop (i+1):=by
 obtain⟨h1,h2⟩:=jS.mp h;rw[Ay h1,h2]
inductive nK(bb:Bool)(CP:OS):List V->Hp->VK->XK->Prop
 |mk (p ak pl tk ml wd:OS) (pls:List OS) (pcs:List<|List Nat) (w:Po.W) (B:Nat) (kvs:List<|List Key×V) (top:Po.Fr):R=[.ref p]->PB bb CP Y p ak pl tk ml wd pls pcs->DT Y wd w B kvs->(w 0 pcs.length=Zh top∨B=0/\top=Zi)->(∀u H',aC Y H'->AW H' u top->L u H')->nK bb CP R Y L M
inductive gM(bb:Bool)(CP:OS):List V->Hp->VK->XK->Prop
 |mk (p ak pl tk ml wd:OS) (pls:List OS) (pcs:List<|List Nat) (w:Po.W) (B:Nat) (kvs:List<|List Key×V) (top:Po.Fr):R=[.ref p]->PB bb CP Y p ak pl tk ml wd pls pcs->DT Y wd w B kvs->(w 0 pcs.length=Zh top∨B=0/\top=Zi)->(∀H',aC Y H'->L (match top with|none=>V.Uy|some x=>.int (x.1:Int)) H')->gM bb CP R Y L M
inductive pG(bb:Bool)(CP:OS):List V->Hp->VK->XK->Prop
 |mk (p ak pl tk ml wd:OS) (pls:List OS) (pcs:List<|List Nat) (ts:List Nat):R=[.ref p]->PB bb CP Y p ak pl tk ml wd pls pcs->Y tk=Zh (.lst<|nL ts)->pcs.length<=500->ts.length<=500->(∀xs∈pcs,xs.length<=500)->(∀t∈ts,t<=500)->(∀H',aC Y H'->L (.int<|((pcs.map PV).sum:Nat)-(ts.sum:Nat)) H')->pG bb CP R Y L M
theorem sum_nat(l:List Nat):(l.map λ(n:Nat)=>(n:Int)).sum=((l.sum:Nat):Int):=by
 induction l with
 |nil=>rfl
 |cons a r ih=>rw[iK,List.sum_cons,List.sum_cons,ih];lia
theorem zB{t:Nat}{zs:List Nat}(h:pcs[i]?=Zh zs)(z:ts[i]?=Zh t):mS pcs ts i=front zs t i:=by
 unfold mS front;rw[fC,fC,h,z];rfl
structure cS(bb:Bool)(CP:OS)(H:Hp)(p ak pl tk ml wd:OS)(pls:List OS)(pcs:List<|List Nat)(ts:List Nat)(w:Po.W)(kvs:List<|List Key×V):Prop where
 pb:PB bb CP H p ak pl tk ml wd pls pcs
 UZ:H tk=Zh (.lst<|nL ts)
 XE:∃mvs,H ml=Zh (.lst mvs)/\dI H mvs (Po.mts 0 pcs.length)
 Wt:DT H wd w (2*pcs.length-1) kvs
 Wd:ts.length=pcs.length
 ne:tk≠pl/\tk≠ml/\∀l∈pls,l≠tk
theorem cS.fr{S:List OS}{p:OS}(h:cS bb CP H p ak pl tk ml wd pls pcs ts w kvs)(e:Fr S H H')(U:∀b∈S,∃l,H b=Zh (.lst l))(n:pl∉S/\tk∉S/\ml∉S/\∀l∈pls,l∉S):cS bb CP H' p ak pl tk ml wd pls pcs ts w kvs:=by
 have J:∀b o,H b=Zh o->(∀l,o≠.lst l)->b∉S:=λb o O z m=>by
  obtain⟨l,hl⟩:=U b m;rw[hl] at O;exact z _ (OX O).symm
 obtain⟨dx,fs,Z,_⟩:=h.pb.hp.ex;obtain⟨mvs,h1,h2⟩:=h.XE;exact#[h.pb.fr e (J _ _ Z λ_ z=>by cases z) n.1 n.2.2.2,e _ _ n.2.1 h.UZ,#[mvs,e _ _ n.2.2.1 h1,h2.keep λt z y=>e _ _ (J _ _ y λ_ z=>by cases z) y],h.Wt.fr e (J _ _ h.Wt.hd λ_ z=>by cases z) (λt z y=>J _ _ y λ_ z=>by cases z),h.Wd,h.ne]
theorem cS.mono{p:OS}(h:cS bb CP H p ak pl tk ml wd pls pcs ts w kvs)(e:aC H H'):cS bb CP H' p ak pl tk ml wd pls pcs ts w kvs:=
 h.fr (S:=[]) e.fr (λb z=>by cases z) #[dU,dU,dU,λ_ _=>dU]
structure Dw(n:Nat)(ms:List Po.Mt)(w:Po.W):Prop where
 pr:∀m∈ms,(w m.1 m.2.2).isSome=Zj
 ix:∀a c x,w a c=Zh (Zh x)->x.2<n
theorem yU{P:Po.Fr->Prop}:∀{u v:Po.Fr},P u->P v->(BY u v).Al P
 |none,_,_,h=>h
 |some _,Zi,h,_=>h
 |some x,Zh y,h,g=>by
  show(U4 x.1 y.1 λb=>.ret<|if b then Zh x else Zh y).Al P;exact CL λb=>(by cases b<;>first|exact h|exact g)
theorem ID{a c a' c':Nat}(h:(w a' c').isSome=Zj):(Po.put w a c v a' c').isSome=Zj:=by
 unfold Po.put;split
 .rfl
 .exact h
theorem yC{n:Nat}{a c:Nat}(h:∀a c x,w a c=Zh (Zh x)->x.2<n)(z:∀x,v=Zh x->x.2<n):∀a' c' x,Po.put w a c v a' c'=Zh (Zh x)->x.2<n:=λa' c' x e=>by
 unfold Po.put at e;split at e
 .exact z x (OX e)
 .exact h _ _ x e
theorem LU{n:Nat}:∀(ms:List Po.Mt) (w:Po.W),(∀a c x,w a c=Zh (Zh x)->x.2<n)->(jY ms w).Al λo=>∀w',o=Zh w'->(∀a c,(w a c).isSome=Zj->(w' a c).isSome=Zj)/\Dw n ms w'
 |[],w,h=>λw' e=>by cases e;exact#[λ_ _ z=>z,#[λm hm=>(by cases hm),h]]
 |m::ms,w,h=>by
  rw[jY];cases e1:w m.1 m.2.1 with
  |none=>exact λw' e=>by cases e
  |some u=>
   cases e2:w m.2.1 m.2.2 with
   |none=>exact λw' e=>by cases e
   |some v=>
    refine Pg.Al.bind<|(yU (P:=λx=>∀y,x=Zh y->y.2<n) (λy z=>h _ _ y<|by rw[e1,z]) λy z=>h _ _ y<|by rw[e2,z]).imp λx hx=>(LU ms _<|yC h hx).imp λo g w' e=>?_;obtain⟨g1,J⟩:=g w' e;refine#[λa c z=>g1 a c<|ID z,⟨λO hm=>?_,J.ix⟩];rcases bY.mp hm with z|z
    .rw [z];exact g1 _ _<|by rw[Io];rfl
    .exact J.pr O z
structure PX(c:Ad)(p pl tk ml:OS)(pls:List OS):Prop where
 p:p∉c.A
 pl:pl∉c.A
 tk:tk∉c.A
 ml:ml∉c.A
 ls:∀l∈pls,l∉c.A
inductive cW(CA:OS)(CR:aF)(bb:Bool)(CP:OS):List V->Hp->VK->XK->Prop
 |mk {R Y L M} (c:Ad) (pr:List A3) (p pl tk ml wd:OS) (x y:Nat) (k:Bool->Pg Po.Fr) (post:Po.Fr->List A3->Prop):R=[.ref p,.int x,.int y]->eY bb CA CR M Y c pr->bD Y p CP (fP c.a pl tk ml wd)->c.n<=1000->c.WB bb (U4 x y k) pr post->(∀b H' pr',Fr c.S Y H'->eY bb CA CR M H' c pr'->c.WB bb (k b) pr' post->L (.bl b) H')->cW CA CR bb CP R Y L M
inductive lI(CA:OS)(CR:aF)(bb:Bool)(CP:OS):List V->Hp->VK->XK->Prop
 |mk {R Y L M} (c:Ad) (pr:List A3) (p pl tk ml wd:OS) (u1 u2:V) (one other:Po.Fr) (post:Po.Fr->List A3->Prop):R=[.ref p,u1,u2]->eY bb CA CR M Y c pr->bD Y p CP (fP c.a pl tk ml wd)->AW Y u1 one->AW Y u2 other->c.n<=1000->c.WB bb (BY one other) pr post->(∀u H' x pr',Fr c.S Y H'->eY bb CA CR M H' c pr'->AW H' u x->post x pr'->L u H')->lI CA CR bb CP R Y L M
inductive gL(CA:OS)(CR:aF)(bb:Bool)(CP:OS):List V->Hp->VK->XK->Prop
 |mk {R Y L M} (c:Ad) (pr:List A3) (p pl tk ml wd mt wo:OS) (mvs:List V) (ms:List Po.Mt) (w:Po.W) (B k:Nat) (kvs:List<|List Key×V) (post:Option Po.W->List A3->Prop):R=[.ref p,.ref mt,.ref wo]->eY bb CA CR M Y c pr->bD Y p CP (fP c.a pl tk ml wd)->p∉c.S->mt∉c.S->Y mt=Zh (.lst mvs)->dI Y mvs ms->ms.length<=400->(∀m∈ms,m.1<205/\m.2.2<=500)->DT Y wo w B kvs->B<=500->(k=1∨k=0/\∀m∈ms,(w m.1 m.2.2).isSome=Zj)->c.n<=1000->c.WB bb (jY ms w) pr post->(∀pr',¬ post Zi pr')->(∀d H' w' kvs' pr',Fr c.S Y H'->Y d=Zi->DT H' d w' (B+k*ms.length) kvs'->eY bb CA CR M H' c pr'->post (Zh w') pr'->L (.ref d) H')->gL CA CR bb CP R Y L M
inductive bP(CA:OS)(CR:aF)(bb:Bool)(CP:OS):List V->Hp->VK->XK->Prop
 |mk {R Y L M} (c:Ad) (pr:List A3) (x dx hl:OS) (hls:List OS) (pcs:List<|List Nat) (post:Option Po.W->List A3->Prop):R=[.ref x,.ref c.a,.ref hl]->Y x=Zh (.ins CP dx [])->eY bb CA CR M Y c pr->Y hl=Zh (.lst<|hls.map V.ref)->hls.length=pcs.length->(∀(i:Nat) l ys,hls[i]?=Zh l->pcs[i]?=Zh ys->Y l=Zh (.lst<|nL<|rv bb ys))->pcs.length<=200->x∉c.A->c.n<=1000->c.WB bb (jY (Po.mts 0 pcs.length)<|wB pcs pcs.length) pr post->(∀pr',¬ post Zi pr')->(∀pl tk ml wd pls w H' kvs pr',(∀b o,b≠x->b∉c.S->Y b=Zh o->H' b=Zh o)->cS bb CP H' x c.a pl tk ml wd pls pcs (Pp pcs.length 0) w kvs->Dw pcs.length (Po.mts 0 pcs.length) w->(∀j,j<pcs.length->(w j<|j+1).isSome=Zj)->(Y pl=Zi/\Y tk=Zi/\Y ml=Zi/\Y wd=Zi/\∀l∈pls,Y l=Zi)->eY bb CA CR M H' c pr'->post (Zh w) pr'->L .Uy H')->bP CA CR bb CP R Y L M
theorem Fj(pcs:List<|List Nat)(k:Nat)(z:k<=pcs.length):∀a c x,wB pcs k a c=Zh (Zh x)->x.2<pcs.length:=λa c x e=>by
 unfold wB at e;split at e
 .have:=(Ed<|OX e).1;lia
 .cases e
theorem BZ(pcs:List<|List Nat)(i:Nat):Po.put (wB pcs i) i (i+1) (mS pcs (Pp pcs.length 0) i)=wB pcs (i+1):=by
 funext a c;unfold Po.put wB;by_cases h1:a=i/\c=i+1
 .rw [Z9 h1,Z9 #[∅,∅],h1.1]
 .rw [Z8 h1];by_cases h2:c=a+1/\a<i
  .rw [Z9 h2,Z9 #[h2.1,∅]]
  .rw [Z8 h2,Z8<|∅]
inductive eK(CA:OS)(CR:aF)(bb:Bool)(CP:OS):List V->Hp->VK->XK->Prop
 |mk {R Y L M} (c:Ad) (pr:List A3) (p pl tk ml wd:OS) (pls:List OS) (pcs:List<|List Nat) (ts:List Nat) (w:Po.W) (kvs:List<|List Key×V):R=[.ref p]->eY bb CA CR M Y c pr->cS bb CP Y p c.a pl tk ml wd pls pcs ts w kvs->PX c p pl tk ml pls->Dw pcs.length (Po.mts 0 pcs.length) w->(∀j,j<pcs.length->(w j<|j+1).isSome=Zj)->pcs.length<=200->c.n<=1000->(((pcs.length=0∨w 0 pcs.length=Zh Zi)/\∀H',aC Y H'->L .Uy H')∨∃(x i:Nat) (post:Option Po.W->List A3->Prop),0<pcs.length/\w 0 pcs.length=Zh (Zh (x,i))/\c.WB bb (jY ((Po.mts 0 pcs.length).filter<|rT i)<|Po.put w i (i+1)<|mS pcs (qm ts i) i) pr post/\(∀pr',¬ post Zi pr')/\∀wd' w' H' kvs' pr',Fr [p,tk,c.a,c.lg,c.tl] Y H'->cS bb CP H' p c.a pl tk ml wd' pls pcs (qm ts i) w' kvs'->Dw pcs.length (Po.mts 0 pcs.length) w'->(∀j,j<pcs.length->(w' j<|j+1).isSome=Zj)->eY bb CA CR M H' c pr'->post (Zh w') pr'->L (.int x) H')->eK CA CR bb CP R Y L M
structure PL(H:Hp)(hls:List OS)(pcs:List<|List Nat):Prop where
 len:hls.length=pcs.length
 at':∀(i:Nat) l ys,hls[i]?=Zh l->pcs[i]?=Zh ys->H l=Zh (.lst<|nL ys)
theorem PL.nil:PL H [] []:=#[rfl,λi l ys h=>by simp at h]
theorem PL.sl(h:PL H hls pcs)(i d:Nat):PL H ((hls.drop i).take d)<|(pcs.drop i).take d:=by
 refine#[by rw[iF,iF,gP,gP,h.len],λj l ys h1 h2=>?_];have z:j<d:=by have:=(jS.mp h1).1;rw[iF] at this;lia
 rw[GK z,AY] at h1 h2;exact h.at' _ l ys h1 h2
theorem PL.Xc{S:List OS}(h:PL H hls pcs)(e:Fr S H H')(n:∀b∈hls,b∉S):PL H' hls pcs:=#[h.len,λi b ys h1 h2=>e _ _ (n b<|jD h1)<|h.at' i b ys h1 h2]
theorem PL.mono(h:PL H hls pcs)(e:aC H H'):PL H' hls pcs:=h.Xc (S:=[]) e.fr λ_ _=>dU
theorem PL.ex(h:PL H hls pcs){b:OS}(O:b∈hls):∃z,H b=Zh (.lst z):=by
 obtain⟨j,J,e⟩:=List.getElem_of_mem O;exact#[_,h.at' j b _ (by rw[bV J,e])<|bV<|show j<pcs.length by rw[<- h.len];exact J]
theorem PL.snoc{l:OS}{os:List Nat}(h:PL H hls pcs)(hl:H l=Zh (.lst<|nL os)):PL H (hls++[l])<|pcs++[os]:=by
 refine#[by rw[aQ,aQ,h.len];rfl,λj b ys h1 h2=>?_];by_cases z:j<hls.length
 .rw [mB z] at h1;rw[mB<|by rw[<- h.len];exact z] at h2;exact h.at' j b ys h1 h2
 .rw [kE<|∅] at h1;rw[kE<|by rw[<- h.len];lia,<- h.len] at h2;cases hk:j-hls.length with
  |zero=>rw[hk] at h1 h2;cases h1;cases h2;exact hl
  |succ m=>rw[hk] at h1;simp at h1
theorem um{n d:Nat}(hd:0<d):(Pn ((0:Nat):Int) (n:Int) (d:Int)).toNat=cO n d:=by
 rw[MI<|∅];unfold cO;by_cases h:n=0
 .subst h;rw[Z8<|∅,Nat.div_eq_of_lt<|∅];rfl
 .rw [Z9<|∅];have e:(n:Int)-((0:Nat):Int)-1=((n-1:Nat):Int):=∅
  have e2:(((n-1:Nat):Int)/(d:Int))=(((n-1)/d:Nat):Int):=by rw[Int.natCast_ediv]
  rw[e,e2];rw[show n+d-1=(n-1)+d by lia,Nat.add_div_right _ hd];generalize (n-1)/d=t;lia
theorem Kw{d n:Nat}(hd:0<d):cO n d<=n:=by
 unfold cO;by_cases h:n=0
 .subst h;rw[Nat.div_eq_of_lt<|∅];exact aN _
 .refine Nat.le_of_lt_succ ((Nat.div_lt_iff_lt_mul hd).mpr ?_);have:(n+1)*d=n*d+d:=C7 ..;have:n<=n*d:=Nat.le_mul_of_pos_right _ hd;show n+d-1<(n+1)*d;lia
theorem zS{d:Nat}:dR xs (Zh (i:Int)) (Zh<|(i:Int)+d)=(xs.drop i).take d:=by
 unfold dR;rw[show((i:Int)+d)=((i+d:Nat):Int) by lia,HT.sIx_nat,HT.sIx_nat];by_cases h:i<=xs.length
 .rw [vQ h];by_cases h2:i+d<=xs.length
  .rw [vQ h2,GA]
  .rw [Rp<|∅,tM (by rw[gP];exact aN _),tM<|by rw[gP];lia]
 .rw [Rp<|∅,Rp<|∅,Rc<|aN _,Rc<|∅];simp
noncomputable def tot(pcs:List<|List Nat):Nat:=(pcs.map PV).sum
theorem LB(a b:List<|List Nat):tot (a++b)=tot a+tot b:=by unfold tot;rw[cU,List.sum_append]
theorem EB(l:List<|List Nat)(d:Nat):tot (l.take d)+tot (l.drop d)=tot l:=by rw[<- LB,qf]
theorem tV{p:List Nat}:∀{l:List<|List Nat},p∈l->p.length<=tot l
 |q::l,h=>by
  show p.length<=q.length+tot l;rcases bY.mp h with z|z
  .rw [z];lia
  .have:=tV z;lia
theorem Ks{α:Type}{P:α->Prop}(h:∀a,P a):∀{x:Pg α},x.Al P
 |.ret a=>h a
 |.ask _ _ k=>λb=>Ks h
theorem nU{pcs:List<|List Nat}:∀(k:Nat) (ts:List Nat) (w:Po.W) (acc:List Nat),(oU pcs k ts w acc).Al λo=>∀os,o=Zh os->os.length=acc.length+k
 |0,ts,w,acc=>λos e=>by cases e;rfl
 |k+1,ts,w,acc=>by
  rw[oU];split
  .refine Pg.Al.bind (Ks λo=>?_);cases o with
   |none=>exact λos e=>by cases e
   |some w'=>
    refine(nU k _ w' _).imp λo h os e=>?_;rw[h os e,aQ,fM];lia
  .exact λos e=>by cases e
theorem qK(pcs:List<|List Nat):(D9 pcs).Al λo=>∀os,o=Zh os->os.length=tot pcs:=by
 refine Pg.Al.bind<|Ks λo=>?_;cases o with
 |none=>exact λos e=>by cases e
 |some w=>exact(nU _ _ w []).imp λo h os e=>by rw[h os e,r6,rZ];rfl
inductive eF(CA:OS)(CR:aF):List V->Hp->VK->XK->Prop
 |mk {R Y L M} (c:Ad) (pr:List A3) (hl:OS) (hls:List OS) (pcs:List<|List Nat) (post:Option (List Nat)->List A3->Prop):R=[.ref c.a,.ref hl]->aH CA CR M Y c pr->Y hl=Zh (.lst<|hls.map V.ref)->PL Y hls pcs->pcs.length<=200->tot pcs<=500->c.n<=1000->c.W (D9 pcs) pr post->(∀pr',¬ post Zi pr')->(∀l H' os pr',Fr c.S Y H'->Y l=Zi->H' l=Zh (.lst<|nL os)->aH CA CR M H' c pr'->os.length=tot pcs->post (Zh os) pr'->L (.ref l) H')->eF CA CR R Y L M
inductive dN(CA:OS)(CR:aF):List V->Hp->VK->XK->Prop
 |mk {R Y L M} (c:Ad) (pr:List A3) (hl:OS) (hls:List OS) (pcs:List<|List Nat) (d:Nat) (post:Option (List<|List Nat)->List A3->Prop):R=[.ref c.a,.ref hl,.int (d:Int)]->aH CA CR M Y c pr->Y hl=Zh (.lst<|hls.map V.ref)->PL Y hls pcs->hl∉c.A->(∀l∈hls,l∉c.A)->pcs.length<=200->tot pcs<=500->0<d->d<=1000->c.n<=1000->c.W (sH d (cO pcs.length d) pcs []) pr post->(∀pr',¬ post Zi pr')->(∀l H' ls out pr',Fr c.S Y H'->Y l=Zi->H' l=Zh (.lst<|ls.map V.ref)->PL H' ls out->(∀b∈ls,Y b=Zi)->aH CA CR M H' c pr'->out.length=cO pcs.length d->tot out=tot pcs->post (Zh out) pr'->L (.ref l) H')->dN CA CR R Y L M
inductive cM(CA:OS)(CR:aF):List V->Hp->VK->XK->Prop
 |mk {R Y L M} (c:Ad) (pr:List A3) (hl:OS) (hls:List OS) (pcs:List<|List Nat) (d:Nat) (post:Option (List Nat×List Nat)->List A3->Prop):R=[.ref c.a,.ref hl,.int (d:Int)]->aH CA CR M Y c pr->Y hl=Zh (.lst<|hls.map V.ref)->PL Y hls pcs->pcs.length<=200->tot pcs<=500->2<=d->d<=1000->c.n<=1000->c.W (vF d pcs.length pcs []) pr post->(∀pr',¬ post Zi pr')->(∀t l nm H' r pr',Fr c.S Y H'->Y t=Zi->Y l=Zi->Y nm=Zi->H' t=Zh (.tup [.ref l,.ref nm])->H' l=Zh (.lst<|nL r.1)->H' nm=Zh (.lst<|nL r.2)->aH CA CR M H' c pr'->r.1.length=tot pcs->post (Zh r) pr'->L (.ref t) H')->cM CA CR R Y L M
theorem FA{n d:Nat}(hd:0<d)(h:k<cO n d):k*d<n:=by
 unfold cO at h;have:=(Nat.le_div_iff_mul_le hd).mp (show k+1<=(n+d-1)/d from h);rw[C7] at this;lia
inductive dO(CA:OS)(CR:aF):List V->Hp->VK->XK->Prop
 |mk {R Y L M} (c:Ad) (pr:List A3) (wd d ls:Nat) (post:Option (List Nat)->List A3->Prop):R=[.ref c.a,.int (wd:Nat),.int (d:Nat),.int (ls:Nat)]->aH CA CR M Y c pr->0<wd->wd<=1000->2<=d->d<=1000->c.n<=200->c.W (Ji grd ls wd d c.n) pr post->(∀pr',¬ post Zi pr')->(∀l H' os pr',Fr c.S Y H'->Y l=Zi->H' l=Zh (.lst<|nL os)->aH CA CR M H' c pr'->post (Zh os) pr'->L (.ref l) H')->dO CA CR R Y L M
inductive pF(CA:OS)(CR:aF):List V->Hp->VK->XK->Prop
 |mk {R Y L M} (c:Ad) (pr:List A3) (os:List Nat) (pl:Nat) (ol:OS) (post:Nat->List A3->Prop):R=[.ref c.a,.ref ol,.int pl]->aH CA CR M Y c pr->Y ol=Zh (.lst<|nL os)->ol∉c.S->c.n<=1000->c.W (DZ os pl) pr post->(∀r H' pr',Fr c.S Y H'->aH CA CR M H' c pr'->post r pr'->L (.int (r:Nat)) H')->pF CA CR R Y L M
inductive iB(sp:List Nat->Nat->Pg Nat)(CA:OS)(CR:aF):List V->Hp->VK->XK->Prop
 |mk {R Y L M} (c:Ad) (pr:List A3) (post:List Nat->List A3->Prop):R=[.ref c.a]->aH CA CR M Y c pr->c.n<=200->c.W (iY sp c.n 0 []) pr post->(∀ol H' os pr',Fr c.S Y H'->Y ol=Zi->H' ol=Zh (.lst<|nL os)->aH CA CR M H' c pr'->post os pr'->L (.ref ol) H')->iB sp CA CR R Y L M
theorem tO{os:List Nat}{pl:Nat}:∀s,s<=os.length->(vS os pl s).Al λr=>r<=os.length
 |0,h=>cQ _
 |s+1,h=>CL λb=>by
  cases b
  .exact tO s ∅
  .exact h
theorem xt(os:List Nat)(pl:Nat):(DZ os pl).Al λr=>r<=os.length:=tO _<|aN _
theorem Cy(h:k<=xs.length):dR xs (Zh (k:Int)) Zi=xs.drop k:=by
 unfold dR;rw[HT.sIx_nat,vQ h];show(xs.drop k).take (xs.length-k)=xs.drop k;exact tM<|by rw[gP];exact aN _
theorem uN(l:List Nat)(k:Nat):(nL l).drop k=nL (l.drop k):=by unfold nL;rw[Er]
theorem K0{ms:List Int}(z:ms.Perm<|l.map λ(n:Nat)=>(n:Int))(J:ms.Pairwise (·<=·))(hd:l.Nodup):∃so:List Nat,ms=so.map (λ(n:Nat)=>(n:Int))/\so.Perm l/\so.Pairwise (·<·):=by
 obtain⟨so,h1,h2⟩:=qQ _ z;subst h2;refine#[so,rfl,h1,?_];have O:=h1.nodup_iff.mpr hd;have h3:=GB.mp J;exact(h3.and O).imp fun {a b} h=>by have:=h.1;have:=h.2;lia
inductive iO(CA:OS)(CR:aF):List V->Hp->VK->XK->Prop
 |mk {R Y L M} (c:Ad) (pr:List A3) (post:List Nat ⊕ Nat×List Nat->List A3->Prop):R=[.ref c.a,.int c.n]->aH CA CR M Y c pr->c.n<=63->c.W (lM c.n c.n 0 []) pr post->(∀ol H' os pr',Fr c.S Y H'->Y ol=Zi->H' ol=Zh (.lst<|nL os)->aH CA CR M H' c pr'->post (.inl os) pr'->L (.ref ol) H')->iO CA CR R Y L M
inductive pI(CA:OS)(CR:aF):List V->Hp->VK->XK->Prop
 |mk {R Y L M} (c:Ad) (pr:List A3) (al ar:OS) (ls rs:List Nat) (m:Nat) (post:Nat->List A3->Prop):R=[.ref c.a,.ref al,.ref ar,.int m]->aH CA CR M Y c pr->Y al=Zh (.lst<|nL ls)->Y ar=Zh (.lst<|nL rs)->al∉c.S->ar∉c.S->c.n<=1000->m<=ls.length+rs.length->c.W (vo ls rs m) pr post->(∀r H' pr',Fr c.S Y H'->aH CA CR M H' c pr'->post r pr'->L (.int (r:Nat)) H')->pI CA CR R Y L M
theorem iH(l:List Nat):(nL l).length=l.length:=aM ..
theorem Ai(a b:List Nat):nL (a++b)=nL a++nL b:=by unfold nL;rw[cU]
theorem Lg(hi:i<=l.length)(z:j<=l.length):dR (nL l) (Zh (i:Int)) (Zh (j:Int))=nL (jK l i j):=by
 unfold dR;rw[HT.sIx_nat,HT.sIx_nat,iH,vQ z,vQ hi];unfold nL jK;rw[Es,Er]
theorem II{n:Nat}{f:Nat->Nat}(h:i<n):((OW n).map f)[i]?=Zh (f i):=by rw[eJ,Ep h];rfl
theorem KQ{l r:List Nat}{m:Nat}:∀(f lo hi:Nat),lo<=hi->(mX l r m f lo hi).Al λc=>lo<=c/\c<=hi
 |0,lo,hi,h=>#[aN _,h]
 |f+1,lo,hi,h=>by
  rw[mX];by_cases z:lo<hi
  .rw [Z9 z];refine CL λb=>?_;cases b
   .exact (KQ f lo ((lo+hi)/2)<|∅).imp λc h=>#[h.1,by have:=h.2;lia]
   .exact (KQ f ((lo+hi)/2+1) hi<|∅).imp λc h=>#[by have:=h.1;lia,h.2]
  .rw [Z8 z];exact#[aN _,h]
theorem zT{r:List Nat}(h:m<=l.length+r.length):(vo l r m).Al λc=>c<=l.length/\c<=m/\m<=c+r.length:=
 (KQ _ _ _<|∅).imp λc h=>by have:=h.1;have:=h.2;lia
inductive iS(CA:OS)(CR:aF):List V->Hp->VK->XK->Prop
 |mk {R Y L M} (c:Ad) (pr:List A3) (al ar:OS) (ls rs:List Nat) (P:Nat) (post:List (List Nat)->List A3->Prop):R=[.ref c.a,.ref al,.ref ar,.int P]->aH CA CR M Y c pr->Y al=Zh (.lst<|nL ls)->Y ar=Zh (.lst<|nL rs)->al∉c.A->ar∉c.A->c.n<=200->ls.length+rs.length<=200->0<P->P<=40->c.W (CD ls rs P) pr post->(∀l hls H' out pr',Fr c.S Y H'->Y l=Zi->H' l=Zh (.lst<|hls.map V.ref)->PL H' hls out->(∀b∈hls,Y b=Zi)->aH CA CR M H' c pr'->post out pr'->L (.ref l) H')->iS CA CR R Y L M
theorem Ie(σ:α->St)(X:α->Hp)(p:α->Prop){G:Prop}(h:(∀x,p x->P D (σ x) (X x))->G)(t:∀x,p x->P D (σ x) (X x)):G:=h t
structure C0(CA:OS)(CR:aF)(E:XK)(CP:OS)(bb:Bool)(H X:Hp)(c:Ad)(kk:Nat)(post:Option (List Nat×Nat)->List A3->Prop)(po pl tk ml wd:OS)(pls:List OS)(acc:List Nat)(kvs:List<|List Key×V)(ts:List Nat)(w:Po.W)(pr:List A3):Prop where
 st:eY bb CA CR E X c pr
 wp:c.WB bb (mJ (sg c.n) (kk-acc.length) ts w acc) pr post
 pa:cS bb CP X po c.a pl tk ml wd pls (sg c.n) ts w kvs
 dw:Dw (sg c.n).length (Po.mts 0 (sg c.n).length) w
 lv:∀j,j<(sg c.n).length->(w j<|j+1).isSome=Zj
 px:PX c po pl tk ml pls
 fr:Fr [po,tk,c.a,c.lg,c.tl] H X
 new:H po=Zi/\H tk=Zi
section
variable {CR:aF}{Y:Hp}{kk:Nat}{post:Option (List Nat×Nat)->List A3->Prop}{po:OS}{acc:List Nat}
theorem C0.mono(h:C0 CA CR E CP bb H X c kk post po pl tk ml wd pls acc kvs ts w pr)(e:aC X Y):C0 CA CR E CP bb H Y c kk post po pl tk ml wd pls acc kvs ts w pr:=
 #[h.st.mono e,h.wp,h.pa.mono e,h.dw,h.lv,h.px,h.fr.trans e.fr,h.new]
theorem C0.VO(h:C0 CA CR E CP bb H X c kk post po pl tk ml wd pls acc kvs ts w pr):Fr c.S H X:=λb o n J=>h.fr b o (λz=>by
 rcases bY.mp z with z|z
 .rw [z,h.new.1] at J;cases J
 rcases bY.mp z with z|z
 .rw [z,h.new.2] at J;cases J
 .exact n z) J
theorem C0.free(h:C0 CA CR E CP bb H X c kk post po pl tk ml wd pls acc kvs ts w pr){b:OS}(z:X b=Zi):H b=Zi:=h.st.free h.VO z
end
inductive gI(CA:OS)(CR:aF):List V->Hp->VK->XK->Prop
 |mk {R Y L M} (c:Ad) (pr:List A3) (m:Nat) (bb:Bool) (post:Option (List Nat×Nat)->List A3->Prop):R=[.ref c.a,.int (m:Int)]->bb=decide (c.n-1-m<m)->eY bb CA CR M Y c pr->m<c.n->c.n<=63->c.WB bb (Eb (sg c.n)<|min m<|c.n-1-m) pr post->(∀o pr',post o pr'->∃a x rest,o=Zh (a,x)/\(a++x::rest).Perm (OW c.n))->(∀(t l1 l2:OS) (x:Nat) (a A B:List Nat) (H':Hp) (pr':List A3),Fr c.S Y H'->Y t=Zi->Y l1=Zi->Y l2=Zi->H' t=Zh (.tup [.ref l1,.int (x:Int),.ref l2])->H' l1=Zh (.lst<|nL A)->H' l2=Zh (.lst<|nL B)->A.Pairwise (·<·)->B.Pairwise (·<·)->eY bb CA CR M H' c pr'->post (Zh (a,x)) pr'->(∀rest,(a++x::rest).Perm (OW c.n)->A.Perm (cond bb rest a)/\B.Perm (cond bb a rest))->L (.ref t) H')->gI CA CR R Y L M
theorem B1{acc rest T:List Nat}{n:Nat}(U:(acc++x::rest).Perm<|OW n)(O:T.Perm acc):((OW n).filter λy=>decide (y≠x)&&!decide (y∈T)).Perm rest:=by
 refine(U.symm.filter _).trans ?_;have nd:=U.nodup_iff.mpr Ax;obtain⟨n1,n2,Z⟩:=C6.mp nd;rw[C8,List.filter_eq_nil_iff.mpr (λy J=>by simp[O.mem_iff,J]),List.nil_append,QB (by simp),List.filter_eq_self.mpr λy J=>?_];have h1:y≠x:=λe=>(Ex.mp n2).1 (by rw[<- e];exact J);have h2:y∉T:=λz=>Z y (O.mem_iff.mp z) y (bF _ J) rfl;simp[h1,h2]
def Iu(H:Hp)(ks:List Int)(xs:List V):Prop:=xs.length=ks.length/\∀(i:Nat) k,ks[i]?=Zh k->∃r,xs[i]?=Zh (V.ref r)/\H r=Zh (.tup [.int k,.int i])
inductive ud:List V->Hp->VK->XK->Prop
 |mk (a:OS) (kd:Int) (zs:List Int):R=[.ref a,.int kd]->Y a=Zh (.lst<|zs.map V.int)->zs.length<=60->(∀l H' ks xs,aC Y H'->Y l=Zi->H' l=Zh (.lst xs)->ks.length=zs.length->Iu H' ks xs->L (.ref l) H')->ud R Y L M
theorem vn{n:Nat}(h:n<=xs.length):dR xs Zi (Zh (n:Int))=xs.take n:=by
 unfold dR;rw[HT.sIx_none,HT.sIx_nat,vQ h,Nat.sub_zero];rfl
theorem LJ{n:Nat}(h:n<=xs.length):dR xs (Zh (n:Int)) Zi=xs.drop n:=by
 unfold dR;rw[HT.sIx_none,HT.sIx_nat,vQ h];exact tM<|by rw[gP];exact aN _
structure Du(ks:List Int)(due:List Nat):Prop where
 pm:due.Perm<|OW ks.length
 pw:due.Pairwise<|jA (kat ks) Zk
theorem zO{K:W.Frag}{H:Hp}:∀zs:List oZ,(∀z∈zs,cH K H z.1 [.int z.2.1,.int z.2.2])->bU K H ((zs.map (·.2)).map λp=>PyData.tuple [TF p.1,TF p.2]) (zs.map λz=>V.ref z.1)
 |[],_=>.nil
 |z::r,h=>.cons (zN (h z aZ)<|.cons (Jk _)<|.cons (Jk _) .nil)<|zO r λy J=>h y<|bF _ J
noncomputable def adr(xs:List V)(i:Nat):OS:=match xs[i]? with
 |some (.ref r)=>r
 |_=>0
noncomputable def xi(ks:List Int)(xs:List V):List oZ:=(OW ks.length).map λi=>(adr xs i,kat ks i,(i:Int))
section
theorem KG(h:Iu H ks xs)(hi:i<ks.length):xs[i]?=Zh (.ref<|adr xs i)/\H (adr xs i)=Zh (.tup [.int<|kat ks i,.int (i:Int)]):=by
 obtain⟨r,a1,a2⟩:=h.2 i _<|bV hi;have e:adr xs i=r:=by unfold adr;rw[a1]
 have k:kat ks i=ks[i]:=by unfold kat;rw[bV hi];rfl
 rw[e,k];exact#[a1,a2]
theorem EZ(h:Iu H ks xs):xs=(xi ks xs).map λz=>V.ref z.1:=by
 refine RU λi=>?_;unfold xi;rw[En,eJ];by_cases hi:i<ks.length
 .rw [Ep hi,(KG h hi).1];rfl
 .rw [r9<|by rw[h.1];lia,r9<|by rw[fW];lia];rfl
theorem JI{z:oZ}(J:z∈xi ks xs):∃i,i<ks.length/\z=(adr xs i,kat ks i,(i:Int)):=by
 obtain⟨i,h1,h2⟩:=qg.mp J;exact#[i,qb.mp h1,h2.symm]
theorem JH:(xi ks xs).length=ks.length:=by unfold xi;rw[aM,fW]
noncomputable def pV(ms:List oZ):List Nat:=ms.map λz=>z.2.2.toNat
theorem FN{ms:List oZ}(J:ms.Perm<|xi ks xs)(hs:ms.Pairwise λx y=>¬ jF y.2 x.2):Du ks<|pV ms:=by
 have U:(pV ms).Perm<|OW ks.length:=by
  have e:((xi ks xs).map λz=>z.2.2.toNat)=OW ks.length:=by
   unfold xi;rw[En];exact(SK λi _=>rfl).trans<|List.map_id _
  rw[<- e];exact J.map _
 refine#[U,?_];have Z:=U.nodup_iff.mpr Ax;unfold pV at Z⊢;have O:=GB.mp Z;rw[GB];refine(hs.and O).imp_of_mem fun {x y} hx hy h=>?_;obtain⟨i,hi,rfl⟩:=JI<|J.mem_iff.mp hx;obtain⟨j,hj,rfl⟩:=JI<|J.mem_iff.mp hy;have h1:=h.1;have h2:i≠j:=h.2;unfold jF at h1;show lxf (kat ks) i j;unfold lxf;dsimp only at h1;lia
noncomputable def sG(ks:List Int):List A3:=(OW ks.length).flatMap λp=>(OW p).map λq=>(p,q,oS (kat ks) Zk 0 p q)
theorem qI{e:A3}:e∈sG ks↔e.2.1<e.1/\e.1<ks.length/\e.2.2=oS (kat ks) Zk 0 e.1 e.2.1:=by
 unfold sG;rw[List.mem_flatMap];constructor
 .rintro ⟨p,z,h⟩;obtain⟨q,J,rfl⟩:=qg.mp h;exact#[qb.mp J,qb.mp z,rfl]
 .rintro ⟨h1,h2,h3⟩;obtain⟨p,q,b⟩:=e;dsimp only at h1 h2 h3;subst h3;exact#[p,qb.mpr h2,qg.mpr #[q,qb.mpr h1,rfl]]
theorem qJ(h:ks.length<=63):(sG ks).length<=4000:=by
 have:∀l:List Nat,(∀p∈l,p<=63)->(l.flatMap λp=>(OW p).map λq=>((p,q,oS (kat ks) Zk 0 p q):A3)).length<=63*l.length:=λl=>by
  induction l with
  |nil=>intro _;exact aN _
  |cons p l ih=>
   intro hl;rw[List.flatMap_cons,aQ,aM,fW,cF,RK];have:=ih λx hx=>hl x<|bF _ hx;have:=hl p aZ;lia
 have:=this (OW ks.length) λp z=>by have:=qb.mp z;lia
 rw[fW] at this;unfold sG;lia
theorem BE(h:ks.length<=63):Tu ks.length (oS (kat ks) Zk)<|sG ks:=#[dJ (qJ h)<|by decide,λe z=>qI.mp z]
theorem BF{y:Nat}(hx:x<ks.length)(J:y<ks.length)(h:jA (kat ks) Zk x y):Td (sG ks) x y:=by
 have h:lxf (kat ks) x y:=h;unfold lxf at h;have ne:x≠y:=λe=>by subst e;lia
 refine#[oS (kat ks) Zk 0 (max x y)<|min x y,qI.mpr #[show min x y<max x y by lia,show max x y<ks.length by lia,rfl],?_];by_cases z:y<x
 .rw [Z9 z,show max x y=x by lia,show min x y=y by lia];exact decide_eq_true<|∅
 .rw [Z8 z,show max x y=y by lia,show min x y=x by lia];show(!decide (kat ks y<kat ks x))=Zj;rw[decide_eq_false<|∅];rfl
end
noncomputable def BH(n:Nat):List A3:=(OW n).flatMap λp=>(OW p).flatMap λq=>[(p,q,Zj),(p,q,Zk)]
theorem BG{n y:Nat}(hx:x<n)(J:y<n)(ne:x≠y):Td (BH n) x y:=by
 refine#[decide<|y<x,List.mem_flatMap.mpr #[max x y,qb.mpr<|∅,List.mem_flatMap.mpr #[min x y,qb.mpr<|∅,?_]],?_]
 .by_cases z:y<x
  .rw [decide_eq_true z];exact aZ
  .rw [decide_eq_false z];exact bF _ aZ
 .by_cases z:y<x
  .rw [Z9 z,decide_eq_true z]
  .rw [Z8 z,decide_eq_false z];rfl
theorem LK{α z:Type}{f:α->List z}{m:Nat}:∀l:List α,(∀a∈l,(f a).length<=m)->(l.flatMap f).length<=m*l.length
 |[],_=>aN _
 |a::l,h=>by
  rw[List.flatMap_cons,aQ,cF,RK];have:=LK l λx hx=>h x<|bF _ hx;have:=h a aZ;lia
theorem yG{n:Nat}(h:n<=30):(BH n).length<=4000:=by
 have:=LK (f:=λp=>(OW p).flatMap λq=>[((p,q,Zj):A3),(p,q,Zk)]) (m:=60) (OW n) λp z=>by
  have h1:=qb.mp z;have:=LK (f:=λq=>[((p,q,Zj):A3),(p,q,Zk)]) (m:=2) (OW p) λq _=>aN _;rw[fW] at this;lia
 rw[fW] at this;unfold BH;lia
noncomputable def vA(ks bs:List Int):List A3:=if bs=[] then sG ks else BH ks.length
theorem LX{bs:List Int}(h:ks.length<=30):(vA ks bs).length<=4000:=by
 unfold vA;split
 .exact qJ ∅
 .exact yG h
theorem yF{bs:List Int}(d:Du ks od):od.Pairwise<|Td<|vA ks bs:=by
 have lt:∀x∈od,x<ks.length:=λx hx=>qb.mp<|d.pm.mem_iff.mp hx;have O:od.Nodup:=d.pm.nodup_iff.mpr Ax;unfold vA;split
 .exact d.pw.imp_of_mem fun {a b} ha J z=>BF (lt a ha) (lt b J) z
 .exact O.imp_of_mem fun {a b} ha J z=>BG (lt a ha) (lt b J) z
noncomputable def Ag(e:A3):RR:=.tuple [.int e.1,.int e.2.1,.bool e.2.2]
theorem Kr:∀ts:List A3,Qn (ts.map Ag)=Zj
 |[]=>rfl
 |t::r=>by
  rw[iK];show(S8 (Ag t)&&Qn (r.map Ag))=Zj;rw[Kr r];rfl
theorem Af:∀ts:List A3,Qo (ts.map Ag)<=1
 |[]=>cQ _
 |t::r=>by
  rw[iK];show max (SD<|Ag t) (Qo<|r.map Ag)<=1;have:=Af r;have:SD (Ag t)=1:=rfl;lia
theorem vx(ts:List A3):(PyData.list<|ts.map Ag).depth<=64:=by
 show Qo _+1<=64;have:=Af ts;lia
theorem cE.dp{K:W.Frag}{H:Hp}:∀{pr:List A3} {ts:List V},cE H pr ts->bU K H (pr.map Ag) ts
 |[],ts,h=>by
  have:ts=[]:=Az.mp h.len;subst this;exact .nil
 |c::r,[],h=>by have:=h.len;cases this
 |(p,q,b)::r,v::ts,h=>by
  obtain⟨t,a,Z⟩:=h.get 0 p q b rfl;have J:v=.ref t:=OX a;subst J;refine .cons (zN (cH.of Z)<|.cons (Jk _)<|.cons (Jk _)<|.cons (HW _) .nil)<|cE.dp #[Rr h.len,λj U q' b' O=>?_];obtain⟨t',a',z⟩:=h.get (j+1) U q' b' O;exact#[t',a',z]
theorem cE.take{ts:List V}(h:cE H pr ts)(n:Nat):cE H (pr.take n)<|ts.take n:=by
 refine#[by rw[iF,iF,h.len],λj p q b J=>?_];by_cases z:j<n
 .rw [GK z] at J;obtain⟨t,a1,a2⟩:=h.get j p q b J;exact#[t,by rw[GK z];exact a1,a2]
 .rw [r9<|by rw[iF];lia] at J;cases J
theorem cE.drop{ts:List V}(h:cE H pr ts)(n:Nat):cE H (pr.drop n)<|ts.drop n:=by
 refine#[by rw[gP,gP,h.len],λj p q b z=>?_];rw[AY] at z;obtain⟨t,a1,a2⟩:=h.get _ p q b z;exact#[t,by rw[AY];exact a1,a2]
def Kq(S:List OS)(H H':Hp):Prop:=∀b o,b∉S->(∀t,o≠.tbl t)->H b=Zh o->H' b=Zh o
section
variable {S:List OS}{H H1 H2:Hp}
theorem Kq.trans(a:Kq S H H1)(b:Kq S H1 H2):Kq S H H2:=λc o n m h=>b c o n m<|a c o n m h
theorem aC.kq(s:aC H H1):Kq S H H1:=λb o _ _ h=>s b o h
theorem Fr.kq(s:Fr S H H1):Kq S H H1:=λb o n _ h=>s b o n h
theorem Kq.lst(k:Kq S H H1){b:OS}{xs:List V}(n:b∉S)(h:H b=Zh (.lst xs)):H1 b=Zh (.lst xs):=k _ _ n (λ_ z=>by cases z) h
theorem Kq.tup(k:Kq S H H1){b:OS}{xs:List V}(n:b∉S)(h:H b=Zh (.tup xs)):H1 b=Zh (.tup xs):=k _ _ n (λ_ z=>by cases z) h
end
noncomputable abbrev kM(H:Hp)(Pt:OS):Prop:=kD H Pt (Ga fV) "_law_teller.<locals>._law_tells"
noncomputable abbrev Ad.at(c:Ad)(lim:Option Nat)(exc:List A3->Prop)(H0:Hp):Ad:={ c with lim:=lim,exc:=exc,H0:=H0 }
theorem bH.to{CR:aF}{lim:Option Nat}{exc:List A3->Prop}(h:bH CA CR H c pr)(k:Kq [c.a] H H')(ha:bD H' c.a CA<|fA c.rl c.ru (B0 lim) ((pr.length-c.pre.length:Nat):Int) c.tl):bH CA CR H' (c.at lim exc H') pr:=by
 have Z:∀{b:OS} {o:HO},H b=Zh o->(∀C d f,o≠.ins C d f)->b∉[c.a]:=λJ n z=>h.ha.ne J n<|cI.mp z;have kt:∀b x,H b=Zh (.tup x)->H' b=Zh (.tup x):=λb x J=>k.tup (Z J λ_ _ _ z=>by cases z) J;have O:∀{b:OS} {x:List V},H b=Zh (.lst x)->H' b=Zh (.lst x):=λJ=>k.lst (Z J λ_ _ _ z=>by cases z) J;obtain⟨us,qr,h5,h6,h7⟩:=h.UX;obtain⟨aa,qr',ad,U,ac⟩:=h.UQ;have hr:∀(i:Nat) k,c.ks[i]?=Zh k->∃r,c.xs[i]?=Zh (V.ref r)/\H' r=Zh (.tup [.int k,.int i]):=λi k hk=>by
  obtain⟨r,a1,a2⟩:=h.row i k hk;exact#[r,a1,kt _ _ a2]
 have WN:bD H' c.ru CR.c<|fR c.g:=by
  obtain⟨dx,fs,h1,h2,h3⟩:=h.WN.ex;exact#[dx,fs,k _ _ (λz=>h.ne.2.2.1<|cI.mp z) (λ_ z=>by cases z) h1,h2,h3]
 exact#[ha,O h.VZ,WN,h.W9.mono λb o J=>k _ _ (Z J λ_ _ _ z=>by cases z) (λ_ z=>by cases z) J,O h.Wv,h.Xq,h.len,hr,#[aa,qr',ad,O U,ac.keep kt],#[us,qr,h5,O h6,h7.keep kt],h.ne,.refl]
theorem KJ{CR:aF}(J:kM H Pt)(st:bH CA CR H c pr)(fr:Fr c.S H H'):kM H' Pt:=by
 have fz:F8 H H':=λb o h=>fr _ _ (st.tupS h (λ_ z=>by cases z) λ_ _ _ z=>by cases z) h;obtain⟨t,O⟩:∃t,H Pt=Zh (.tbl t):=by
  rcases J with h|⟨c',h,_⟩
  .exact #[_,h]
  .exact #[_,h]
 exact J.mono ((fr _ _ (st.tupS O (λ_ z=>by cases z) λ_ _ _ z=>by cases z) O).trans O.symm) fz
theorem Gw(z:kM H Pt)(s:aC H H'):kM H' Pt:=by
 obtain⟨t,J⟩:∃t,H Pt=Zh (.tbl t):=by
  rcases z with h|⟨c',h,_⟩
  .exact #[_,h]
  .exact #[_,h]
 exact z.mono ((s _ _ J).trans J.symm) s.fz
theorem Lw(z:kM H Pt):∃t,H Pt=Zh (.tbl t):=by
 rcases z with h|⟨c',h,_⟩
 .exact #[_,h]
 .exact #[_,h]
theorem GX{b:OS}(n1:b≠a)(n2:b≠lg)(J:b≠tl):b∉[a,lg,tl]:=λz=>by
 rcases bY.mp z with z|z
 .exact n1 z
 rcases bY.mp z with z|z
 .exact n2 z
 .exact J (cI.mp z)
theorem yP{CR:aF}{pre:List A3}{exc:List A3->Prop}{H5:Hp}{bs:List Int}{dr O:OS}{lim:Option Nat}
  (md:p8 H4 H5 Pt (Ga fV) g "_law_tells" "_law_teller.<locals>._law_tells" (oW fV) (kn fV) (aR fV) ["_law_bits","_law_log"] [.ref bl,.ref lg])
  (ap:H5 ru=Zi) (b2:H5 dr=Zi) (ay:dr≠ru) (k7:∀b o,b≠ru->upd (upd H5 dr<|.own ru) ru (.ins CR.c dr []) b=Zh o->H7 b=Zh o) (ir:bD H7 ru CR.c<|fR g)
  (aa:H7 ak=Zi) (b0:H7 O=Zi) (au:O≠ak) (k9:∀b o,b≠ak->upd (upd H7 O<|.own ak) ak (.ins CA O []) b=Zh o->HA b=Zh o)
  (aq:upd (upd H7 O<|.own ak) ak (.ins CA O []) rl=Zi) (ah:upd (upd H7 O<|.own ak) ak (.ins CA O []) tl=Zi) (av:rl≠tl) (ia:bD HA ak CA<|fA rl ru (B0 lim) 0 tl) (ax:HA rl=Zh (.lst xs)) (UX:HA tl=Zh (.lst []))
  (UQ:H4 lg=Zh (.lst [])) (ai:H4 bl=Zh (.lst<|bs.map V.int)) (aw:bl≠lg) (b1:bs.length<=1000) (len:xs.length=ks.length) (az:∀(i:Nat) k,ks[i]?=Zh k->∃r,xs[i]?=Zh (V.ref r)/\H4 r=Zh (.tup [.int k,.int i])) (ad:∃t,H4 Pt=Zh (.tbl t)):
  bH CA CR HA #[ks,bs,xs,ak,rl,ru,tl,g,lg,bl,pre,lim,exc,HA] pre/\Kq [] H4 HA/\kM HA Pt/\H4 ak=Zi/\H4 tl=Zi:=by
 have ao:upd H5 dr (.own ru) ru=Zi:=by rw[aO<|Pe ay];exact ap
 have s6:aC H5<|upd (upd H5 dr<|.own ru) ru<|.ins CR.c dr []:=(bO b2 _).trans<|bO ao _;have U:aC H5 H7:=λb o h=>k7 b o (bE h ap)<|s6 _ _ h;have am:upd H7 O (.own ak) ak=Zi:=by rw[aO<|Pe au];exact aa
 have s8:aC H7<|upd (upd H7 O<|.own ak) ak<|.ins CA O []:=(bO b0 _).trans<|bO am _;have ae:aC H7 HA:=λb o h=>k9 b o (bE h aa)<|s8 _ _ h;obtain⟨t0,ad⟩:=ad;have kA:Kq [] H4 HA:=λb o _ n h=>ae _ _<|U _ _<|md.same b o (λz=>by rw[z,ad] at h;exact n _ (OX h).symm) h;have aj:Kq [] H4 H7:=λb o _ n h=>U _ _<|md.same b o (λz=>by rw[z,ad] at h;exact n _ (OX h).symm) h;have J:∃t,H5 Pt=Zh (.tbl t):=by
  rcases md.tab with h|⟨c',h,_⟩
  .exact #[_,h]
  .exact #[_,h]
 obtain⟨t5,J⟩:=J;have ac:∀b,H7 b=Zi->H4 b=Zi:=λb h=>by
  cases e:H4 b with
  |none=>rfl
  |some o=>
   by_cases z:b=Pt
   .rw [z,U _ _ J] at h;cases h
   .rw [U _ _<|md.same b o z e] at h;cases h
 have as:upd (upd H7 O<|.own ak) ak (.ins CA O []) ak=Zh (.ins CA O []):=aU;obtain⟨b4,b3,er,_,_⟩:=ir.ex;have Z:ru≠ak:=bE er aa;have af:=aj.lst dU UQ;have ag:=aj.lst dU ai;have n7:∀b,upd (upd H7 O<|.own ak) ak (.ins CA O []) b=Zi->H7 b=Zi:=λb h=>s8.free h;refine#[?_,kA,?_,ac _ aa,ac _<|n7 _ ah]
 .exact #[by rw[kP];exact ia,ax,xc (S:=[ak]) (λb o n h=>k9 b o (λz=>n<|by rw[z];exact aZ)<|s8 _ _ h) (λz=>Z<|cI.mp z) ir,md.W9.mono λb o h=>ae _ _<|U _ _ h,kA.lst dU ai,b1,len,λi k hk=>by obtain⟨r,a1,a2⟩:=az i k hk;exact#[r,a1,kA.tup dU a2],#[[],[],(iG _).symm,kA.lst dU UQ,rfl,λj p q b h=>by simp at h],#[[],[],(iG _).symm,UX,rfl,λj p q b h=>by simp at h],#[bE (s8 _ _ af) ah,GX (Pe<|bE as aq) (Pe<|bE (s8 _ _ af) aq) av,Z,GX (bE ag aa) aw<|bE (s8 _ _ ag) ah],.refl]
 .exact md.tab.mono ((ae _ _<|U _ _ J).trans J.symm) λb o h=>ae _ _<|U _ _ h
theorem DF{CR:OS}{O da:OS}
  (md:p8 H4 H Pt (Ga fV) g "_law_tells" "_law_teller.<locals>._law_tells" (oW fV) (kn fV) (aR fV) ["_law_bits","_law_log"] [.ref bl,.ref lg])
  (ad:H ru=Zi) (aj:H O=Zi) (ag:O≠ru) (k7:∀b o,b≠ru->upd (upd H O<|.own ru) ru (.ins CR O []) b=Zh o->H7 b=Zh o)
  (ai:H7 ak=Zi) (ae:H7 da=Zi) (af:da≠ak) (U:∃t,H4 Pt=Zh (.tbl t)) (Z:H4 f=Zh (.lst xs)):upd (upd H7 da<|.own ak) ak (.ins CA da []) f=Zh (.lst xs):=by
 have aa:upd H O (.own ru) ru=Zi:=by rw[aO<|Pe ag];exact ad
 have s6:aC H<|upd (upd H O<|.own ru) ru<|.ins CR O []:=(bO aj _).trans<|bO aa _;have ah:aC H H7:=λb o h=>k7 b o (bE h ad)<|s6 _ _ h;have ac:upd H7 da (.own ak) ak=Zi:=by rw[aO<|Pe af];exact ai
 have s8:aC H7<|upd (upd H7 da<|.own ak) ak<|.ins CA da []:=(bO ae _).trans<|bO ac _;obtain⟨t0,U⟩:=U;exact s8 _ _<|ah _ _<|md.same _ _ (λz=>by rw[z,U] at Z;cases Z) Z
inductive gN:List V->Hp->VK->XK->Prop
 |mk (m:Nat) (deal:Int) (ol:OS) (od:List Nat):R=[.int m,.int deal,.ref ol]->Y ol=Zh (.lst<|nL od)->0<m->m<=5->od.length<=30->(∀l hls H',aC Y H'->Y l=Zi->(∀b∈hls,Y b=Zi)->H' l=Zh (.lst<|hls.map V.ref)->PL H' hls (fT m deal od)->L (.ref l) H')->gN R Y L M
inductive lH:List V->Hp->VK->XK->Prop
 |mk (wy:Nat) (cl:Int) (ol:OS) (od:List Nat) (n:Nat):R=[.int wy,.int cl,.ref ol]->Y ol=Zh (.lst<|nL od)->od.Perm (OW n)->n<=30->(wy≠0->0<n)->(∀l H',aC Y H'->(l=ol∨Y l=Zi)->H' l=Zh (.lst<|nL<|mV n wy cl od)->L (.ref l) H')->lH R Y L M
theorem G4{n:Nat}{so r:List Nat}(h:(l++r).Perm<|OW n)(p:so.Perm l)(s:so.Pairwise (·<·)):so=pC n l:=
 RL (le:=λa b=>a<b) (λa b _ _ h1 h2=>∅) s (List.Pairwise.filter _ List.pairwise_lt_range)<|p.trans (JU h).symm
theorem BV(l:List Nat)(k:Nat):(nL l).take k=nL (l.take k):=by unfold nL;rw[Es]
inductive iN:List V->Hp->VK->XK->Prop
 |mk (l dl bl:OS) (os due:List Nat) (bs:List Int):R=[.ref l,.ref dl,.ref bl]->Y l=Zh (.lst<|nL os)->Y dl=Zh (.lst<|nL due)->Y bl=Zh (.lst<|bs.map V.int)->os.length=due.length->due.length<=30->(bs=[]->os=due)->(bs≠[]->os.Perm (OW due.length))->(∀H',aC Y H'->L (.bl Zj) H')->iN R Y L M
theorem EJ{ms:List Int}{n:Nat}(h:ms.Perm<|(OW n).map λ(x:Nat)=>(x:Int))(s:ms.Pairwise (·<=·)):ms=(OW n).map λ(x:Nat)=>(x:Int):=
 RL (le:=λa b=>a<=b) (λa b _ _ h1 h2=>Int.le_antisymm h1 h2) s (GB.mpr<|List.pairwise_lt_range.imp λh=>∅) h
inductive kW(CA:OS)(CR:aF):List V->Hp->VK->XK->Prop
 |mk {R Y L M} (c:Ad) (pr:List A3) (wy:Nat) (cl:Int) (ol:OS) (od:List Nat) (post:Option (List Nat)->List A3->Prop):R=[.ref c.a,.int wy,.int cl,.ref ol]->aH CA CR M Y c pr->Y ol=Zh (.lst<|nL od)->ol∉c.S->od.Perm (OW c.n)->c.n<=30->wy<10->(wy≠0->0<c.n)->c.W (dY grd c.n wy cl od) pr post->(∀pr',¬ post Zi pr')->(∀os pr',post (Zh os) pr'->os.length<=500)->(∀l H' os pr',Fr c.S Y H'->Y l=Zi->H' l=Zh (.lst<|nL os)->aH CA CR M H' c pr'->post (Zh os) pr'->L (.ref l) H')->kW CA CR R Y L M
inductive gJ(CA:OS)(CR:aF):List V->Hp->VK->XK->Prop
 |mk {R Y L M} (c:Ad) (pr:List A3) (wy:Nat) (cl:Int) (ol:OS) (od:List Nat) (post:Option (List Nat)->List A3->Prop):R=[.ref c.a,.int wy,.int cl,.ref ol]->aH CA CR M Y c pr->Y ol=Zh (.lst<|nL od)->ol∉c.S->od.Perm (OW c.n)->c.n<=30->(wy=4∨wy=5∨wy=6∨wy=8)->c.W (dY grd c.n wy cl od) pr post->(∀pr',¬ post Zi pr')->(∀os pr',post (Zh os) pr'->os.length<=500)->(∀l H' os pr',Fr c.S Y H'->Y l=Zi->H' l=Zh (.lst<|nL os)->aH CA CR M H' c pr'->post (Zh os) pr'->L (.ref l) H')->gJ CA CR R Y L M
theorem PL.two{deal:Int}(h:PL H hls<|fT 2 deal od):∃a b,hls=[a,b]/\H a=Zh (.lst<|nL<|(fT 2 deal od).getD 0 [])/\H b=Zh (.lst<|nL<|(fT 2 deal od).getD 1 []):=by
 have hl:hls.length=2:=by rw[h.len,vE]
 have e:=I0 (deal:=deal) (l:=od)
 match hls,hl with
 |[a,b],_=>
  exact#[a,b,rfl,h.at' 0 a _ rfl<|by rw[e];rfl,h.at' 1 b _ rfl<|by rw[e];rfl]
theorem KU(o:List<|List Nat)(k:Nat):(o.take k).flatten++(o.drop k).flatten=o.flatten:=by rw[<- tJ,qf]
theorem tN{c:Ad}{α:Type}{P:α->List A3->Prop}:∀{x:Pg α} {pr:List A3},c.W (Cm x) pr P->c.WB Zj x (flp Zj pr) λa pr'=>P a (flp Zj pr')
 |.ret a,pr,h=>by
  show P a (flp Zj<|flp Zj pr);rw[Ir];exact h
 |.ask p q k,pr,h=>by
  obtain⟨h1,h2,h3,O⟩:=h;refine#[h1,h2,by rw[IG];exact h3,?_];rw[IG];refine O.imp (λz=>?_) λz=>#[z.1,?_]
  .obtain ⟨m,J,e2,e3⟩:=z;exact#[m,J,e2,by show c.exc (flp Zj<|flp Zj pr);rw[Ir];exact e3]
  .have:=tN z.2;rw[vb] at this;exact this
theorem Ez{P:α->List A3->Prop}{x:Pg α}(h:c.W (Xo bb x) pr P):c.WB bb x (flp bb pr) λa pr'=>P a (flp bb pr'):=by
 cases bb
 .exact h
 .exact tN h
theorem Dl{α:Type}{n:Nat}{P:α->List A3->Prop}:∀{x:Pg α} {pr:List A3},Wa n x pr P->x.Al λa=>∃pr',P a pr'
 |.ret a,pr,h=>#[pr,h]
 |.ask p q k,pr,h=>λb=>Dl<|h.2.2.2 b
theorem wa{n:Nat}(hn:n<=30)(hm:m<n):(Eb (sg n)<|min m<|n-1-m).Al λo=>∃a x rest,o=Zh (a,x)/\(a++x::rest).Perm (OW n):=by
 have h:=lJ (k:=min m<|n-1-m) (r:=n-1-min m (n-1-m)) (P:=λo pr'=>∃os,o=Zh os/\os.Perm (OW n)/\Nt pr' os) (λpr z=>by obtain⟨_,z,_⟩:=z;cases z) (by rw[K9];lia) ((J0 (D:=200) (n:=n) (pr:=[]) (by rw[CQ];lia) (Dz n _)<|by rw[Gi,fW];show 0+200*(n+1)<=_;lia).imp λo pr' h=>by
  obtain⟨os,e,h1,h2,_⟩:=h;rw[Gi] at h1;exact#[os,e,h1,h2])
 refine(Dl h).imp λo z=>?_;obtain⟨pr',g⟩:=z;obtain⟨a,x,rest,_,e,_,p,_⟩:=g.os (An:=λ_ _ _=>Zj) (λ_ _ _=>rfl) False PD;exact#[a,x,rest,e,p]
inductive gG(CA:OS)(CR:aF):List V->Hp->VK->XK->Prop
 |mk (c:Ad) (pr:List A3) (wy:Nat) (cl:Int) (ol:OS) (od:List Nat) (post:Option (List Nat)->List A3->Prop):R=[.ref c.a,.int wy,.int cl,.ref ol]->bH CA CR Y c pr->Y ol=Zh (.lst<|nL od)->ol∉c.S->od.Perm (OW c.n)->c.n<=30->wy<10->(wy≠0->0<c.n)->c.W (dY grd c.n wy cl od) pr post->(∀pr',¬ post Zi pr')->(∀os pr',post (Zh os) pr'->os.length<=500)->c.H0=Y->(∀t v u H' pr',Fr c.S Y H'->bH CA CR H' c pr'->Y t=Zi->H' t=Zh (.tup [v,u])->((∃l os,v=.ref l/\u=.Uy/\Y l=Zi/\H' l=Zh (.lst<|nL os)/\post (Zh os) pr')∨(v=.Uy/\u=.int ((pr'.length-c.pre.length:Nat):Int)/\c.exc pr'))->L (.ref t) H')->gG CA CR R Y L M
inductive iQ(CA:OS)(CR:aF)(Pt:OS):List V->Hp->VK->XK->Prop
 |mk (c:Ad) (qr:List A3) (rwA:OS) (cell:Int):R=[.ref c.a,.ref c.lg,.ref rwA,.ref c.bl,.int cell]->bH CA CR Y c (c.pre++qr)->c.lim=Zh qr.length->Y rwA=Zh (.lst c.xs)->rwA∉c.S->c.n<=30->c.pre=vA c.ks c.bs->qr.length<=400000->kM Y Pt->(∀H' qr' exc,bH CA CR H' (c.at (Zh qr'.length) exc H') (c.pre++qr')->qr'.length<=qr.length+170000->Kq c.S Y H'->kM H' Pt->L (.bl Zj) H')->iQ CA CR Pt R Y L M
structure MY(ks bs:List Int)(od:List Nat)(wy:Nat)(cl:Int)(os:List Nat)(L:List A3):Prop where
 len:L.length<=81001
 key:bs=[]->os=mV ks.length wy cl od
 pm:bs≠[]->os.Perm (OW ks.length)
 ln:os.length=ks.length
 wx:∀(c:Ad) (pr:List A3),c.ks=ks->c.bs=bs->vA ks bs<+:pr->pr.length<=700000->(∀m,c.top=Zh m->pr.length<=m)->(∀m,c.top=Zh m->m<(pr++L).length->c.exc ((pr++L).take m))->c.W (dY grd c.n wy cl od) pr λo pr'=>o=Zh os/\pr'=pr++L/\∀m,c.top=Zh m->pr'.length<=m
theorem uc{n:Nat}{r:List Nat}(h:(l++r).Perm<|OW n):(pC n l).length=l.length:=(JU h).length_eq
theorem rD{n:Nat}(z:od.Perm<|OW n)(h0:wy≠0->0<n):(mV n wy cl od).length=n:=by
 have hl:od.length=n:=by rw[z.length_eq,fW]
 unfold mV;split
 .have J:=Pq cl (show(n:Int)≠0 by have:=h0 ∅;lia);have O:=Px cl (show(0:Int)<n by have:=h0 ∅;lia);rw[aQ,cF,uc (r:=od.drop (cl%n).toNat) (by rw[qf];exact z),uc (r:=od.take<|(cl%n).toNat+1) (List.perm_append_comm.trans<|by rw[qf];exact z),iF,gP];lia
 .exact hl
theorem wp_run{α:Type}{n:Nat}{An:Nat->Nat->Nat->Bool}{P:α->List A3->Prop}:∀{x:Pg α} {pr:List A3},Wp n An x pr P->P (x.run An pr.length).1 (pr++(x.run An pr.length).2)
 |.ret a,pr,h=>by rw[Pg.run,iG];exact h
 |.ask p q k,pr,h=>by
  have:=wp_run h.2.2.2;rw[aQ,fM,fL] at this;rw[Pg.run];exact this
theorem Kq.opened(k:Kq [] H HA)(f:Fr [a,lg,tl] HA X)(h1:H a=Zi)(h2:H lg=Zi)(h3:H tl=Zi):Kq [] H X:=λb o _ n h=>f b o (GX (bE h h1) (bE h h2)<|bE h h3)<|k b o dU n h
theorem Kq.up{S:List OS}(k:Kq [] H H'):Kq S H H':=λb o _ n h=>k b o dU n h
theorem HF{bs:List Int}(d:Du ks od)(hn:ks.length<=30)(hw:wy<10)(h0:wy≠0->0<ks.length)(h8:bs≠[]->wy<8):∃os L,MY ks bs od wy cl os L:=by
 obtain⟨An,J⟩:∃An:Nat->Nat->Nat->Bool,An=λ_ p q=>xj (kat ks p) (kat ks q) bs p q:=#[_,rfl]
 obtain⟨r1,r2,r3⟩:=Be (G:=grd) (An:=An) (λk k' p q=>by rw[J]) (cl:=cl) hw hn h0 d.pm (yF (bs:=bs) d)<|LX hn;have ro:∃os,((dY grd ks.length wy cl od).run An 0).1=Zh os:=by obtain⟨os,e,_⟩:=r2;exact#[os,e]
 obtain⟨os,eo⟩:=ro;have O:bs=[]->os=mV ks.length wy cl od:=λU=>by
  have eA:An=oS (kat ks) Zk:=by rw[J,U];rfl
  have tu:Tu ks.length (oS (kat ks) Zk)<|vA ks bs++((dY grd ks.length wy cl od).run An 0).2:=by
   have t0:Tu ks.length (oS (kat ks) Zk)<|vA ks bs:=by unfold vA;rw[Z9 U];exact BE<|∅
   have:=(wp_run<|Wa.tu (An:=oS (kat ks) Zk) (λ_ _ _=>rfl) (r3 _ (fK _) (by have:=LX (bs:=bs) hn;lia)) t0).2;rw[IE (λ_ _ _ _=>rfl) _ (vA ks bs).length 0,<- eA] at this;rw[<- eA];exact this
  have:=xr ∅ d.pm d.pw tu r2;rw[eo] at this;exact OX this
 have Z:bs≠[]->os.Perm (OW ks.length):=λU=>by
  obtain⟨aa,e,p⟩:=Bf r2 (by have:=h8 U;lia);rw[eo] at e;cases e;exact p
 refine#[os,((dY grd ks.length wy cl od).run An 0).2,r1,O,Z,?_,λc pr ek eb f hl h1 h2=>?_]
 .by_cases U:bs=[]
  .rw [O U];exact rD d.pm h0
  .rw [(Z U).length_eq,fW]
 .have eA:c.an=An:=by rw[J,<- ek,<- eb];rfl
  have en:c.n=ks.length:=by rw[<- ek]
  have hs:∀k,(dY grd ks.length wy cl od).run c.an k=(dY grd ks.length wy cl od).run An 0:=λk=>by rw[eA];exact IE (λk k' p q=>by rw[J]) _ _ _
  show Wx c.n c.an c.top c.exc (dY grd c.n wy cl od) pr _;rw[en];refine(Wa.wx (lim:=c.top) (exc:=c.exc) c.an (r3 pr f hl) h1<|by rw[hs];exact h2).imp λo pr' z=>?_;obtain⟨_,z1,z2,z3⟩:=z;rw[hs] at z1 z2;exact#[z1.trans eo,z2,z3]
structure rR(X:Hp)(c:Ad)(rwA ol dl fg:OS)(od due:List Nat)(L:List A3):Prop where
 hR:X rwA=Zh (.lst c.xs)
 hO:X ol=Zh (.lst<|nL od)
 hD:X dl=Zh (.lst<|nL due)
 hL:∃ws,X fg=Zh (.lst ws)/\cE X L ws
 no:rwA∉c.S/\ol∉c.S/\dl∉c.S/\fg∉c.S
theorem rR.kq{due:List Nat}{L:List A3}(h:rR X c rwA ol dl fg od due L)(k:Kq c.S X X')(t:∀b x,X b=Zh (.tup x)->b∉c.S):rR X' c rwA ol dl fg od due L where
 hR:=k.lst h.no.1 h.hR
 hO:=k.lst h.no.2.1 h.hO
 hD:=k.lst h.no.2.2.1 h.hD
 hL:=by
  obtain⟨ws,a1,a2⟩:=h.hL;exact#[ws,k.lst h.no.2.2.2 a1,a2.keep λb x z=>k.tup (t b x z) z]
 no:=h.no
theorem rR.mono{due:List Nat}{L:List A3}(h:rR X c rwA ol dl fg od due L)(k:aC X X'):rR X' c rwA ol dl fg od due L where
 hR:=k _ _ h.hR
 hO:=k _ _ h.hO
 hD:=k _ _ h.hD
 hL:=by
  obtain⟨ws,a1,a2⟩:=h.hL;exact#[ws,k _ _ a1,a2.keep λb x z=>k _ _ z]
 no:=h.no
theorem bH.Wy{CR:aF}(h:bH CA CR H c pr)(b:OS)(x:List V)(z:H b=Zh (.tup x)):b∉c.S:=h.tupS z (λ_ z=>by cases z) λ_ _ _ z=>by cases z
theorem Kq.ins{S:List OS}{H H':Hp}{a C:OS}{fl:List<|Pj×V}(k:Kq S H H')(n:a∉S)(h:bD H a C fl):bD H' a C fl:=by
 obtain⟨dx,fs,h1,h2,h3⟩:=h.ex;exact#[dx,fs,k _ _ n (λ_ z=>by cases z) h1,h2,h3]
theorem bH.log{CR:aF}{qr:List A3}(h:bH CA CR H c<|c.pre++qr):∃ws,H c.lg=Zh (.lst ws)/\cE H qr ws:=by
 obtain⟨ws,qr',e,h1,h2⟩:=h.UQ;rw[<- List.append_cancel_left e] at h2;exact#[ws,h1,h2]
theorem Jp(k:∀b,b≠a->H' b=H b):Kq [a] H H':=λb o n _ h=>by rw[k b λz=>n<|by rw[z];exact aZ];exact h
theorem tW(J:kM H Pt)(ha:bD H a C fl)(k:∀b,b≠a->H' b=H b):kM H' Pt:=by
 obtain⟨t,O⟩:=Lw J;exact J.mono (k Pt<|ha.ne O λ_ _ _ z=>by cases z) λb o h=>by rw[k b<|ha.ne h λ_ _ _ z=>by cases z];exact h
theorem Kq.wide{S J:List OS}(k:Kq S H H')(h:∀b∈S,b∈J):Kq J H H':=λb o n m z=>k b o (λy=>n<|h b y) m z
theorem HY(ns:List Int):∃zs:List Int,dR (ns.map V.int) (Zh 5) (Zh 35)=zs.map V.int/\zs.length<=30:=#[_,wU _ _ _,by
 rw[iF,gP,show(Zh (5:Int))=Zh ((5:Nat):Int) from rfl,show(Zh (35:Int))=Zh ((35:Nat):Int) from rfl,HT.sIx_nat,HT.sIx_nat];lia]
theorem Kq.seq(k:Kq [] H H')(h:aB K H a xs):aB K H' a xs:=by
 rcases h with (h|⟨o,h⟩)|h
 .exact .inl (.inl<|k.lst dU h)
 .exact .inl (.inr #[o,k _ _ dU (λ_ z=>by cases z) h])
 .exact .inr h
theorem Kq.Wz(k:Kq [] H HA)(f:Kq [a,lg,tl] HA X)(h1:H a=Zi)(h2:H lg=Zi)(h3:H tl=Zi):Kq [] H X:=λb o _ n h=>f b o (GX (bE h h1) (bE h h2)<|bE h h3) n<|k b o dU n h
def dvP(A O L u q:Lean.Term)(s:String):Lean.Term:=let tk:=fun(w:String)=>(if w=="_" then u else if w=="?" then q else if w=="A" then A else if w=="O" then O else if w=="L" then L else if w.toNat?.isSome then #[Lean.Syntax.mkNumLit w] else if w.startsWith "'" then #[Lean.Syntax.mkStrLit (w.toList.drop 1|>String.ofList)] else ⟨Lean.mkIdent w.toName⟩:Lean.Term);let st:=fun(k:List (Array Lean.Term))(w:String)=>match w,k with|"(",k=>(List.toArray [])::k|"[",k=>(List.toArray [])::k|")",a::b::r=>b.push #[Lean.Syntax.mkApp a[0]! (a.extract 1 a.size)]::r|"]",a::b::r=>b.push (a.foldr (fun x y=>#[Lean.Syntax.mkApp (Lean.mkIdent ``List.cons) (List.toArray [x,y])]) #[Lean.mkIdent ``List.nil])::r|"",k=>k|w,a::r=>a.push (tk w)::r|_,k=>k;((((((s.replace "(" " ( ").replace ")" " ) ").replace "[" " [ ").replace "]" " ] ").splitOn.foldl st [(List.toArray [])]).headD (List.toArray []))[0]!
abbrev dvT:=Lean.TSyntax `tactic
def dvF(l:List dvT):Lean.MacroM dvT:=do let z<-`(tactic|fail);l.foldrM (fun a b=>`(tactic|first|$a:tactic|$b:tactic)) z
def dvM(P:String->Lean.Term)(x:String):Lean.MacroM dvT:=match x.splitOn "|" with|[c,t]=>if c=="" then `(tactic|with_reducible refine' $(P t)) else if c=="!" then `(tactic|refine' $(P t)) else `(tactic|((with_reducible refine (?_:$(P c)));refine' $(P t)))|_=>`(tactic|fail)
def dvG(P:String->Lean.Term)(g:String):Lean.MacroM dvT:=match g.splitOn ";" with|h::r=>(do let t<-dvF (<-r.mapM<|dvM P);`(tactic|((with_reducible refine (?_:$(P h)));$t:tactic)))|_=>`(tactic|fail)
local macro_rules|`(tactic|walk_at "d")=>do let A<-`(by assumption);let O<-`(by first|exact Or.inl rfl|exact Or.inr rfl);let L<-`(fun _ _=>rfl);let u<-`(_);let q<-`(?_);let P:=dvP A O L u q;let G<-("(PE _ _ _);|DG;|bJ;|AI;(PE _(PySem.Expr.Name _ _)_)|(pv 0);(PE _(PySem.Expr.Name _ _)_)|(pv 1);(PE _(PySem.Expr.Name _ _)_)|(pv 2);(PE _(PySem.Expr.Name _ _)_)|(pv 3);(PE _(PySem.Expr.Name _ _)_)|(pv 4);(PE _(PySem.Expr.Name _ _)_)|(pv 5);(PE _(PySem.Expr.Name _ _)_)|(pv 6);(PE _(PySem.Expr.Name _ _)_)|(pv 7);(PE _(PySem.Expr.Name _ _)_)|(pv 8);(PE _(PySem.Expr.Name _ _)_)|(pv 9);(PE _(PySem.Expr.Name _ _)_)|(pv 10);(PE _(PySem.Expr.Name _ _)_)|(pv 11);(PE _(PySem.Expr.Name _ _)_)|(pv 12);(PE _(PySem.Expr.Name _ _)_)|(Ak rfl(Bt.U5 A));(PE _(PySem.Expr.Name _ _)_)|(Ak rfl(Bt.U7 A));(PE _(PySem.Expr.Attribute _ _ _)_)|(kL ? rfl);(PE _(PySem.Expr.Compare _[PySem.CmpOp.Eq]_ _)_)|(AM CH ? ?(dF _));(PE _(PySem.Expr.Compare _[PySem.CmpOp.Gt]_ _)_)|(AM F4 ? ?(dF _));(PE _(PySem.Expr.Compare _[PySem.CmpOp.Lt]_ _)_)|(AM CI ? ?(dF _));|(bI jO ? ?);|(bI CT ? ?);|(bI Gh ? ?);|(bI Iy ? ?);|(bI qd ? ?);|(Ha JL ? ? ?);(PE _(PySem.Expr.Subscript _ _ _)_)|(dW bQ ? ? L);|(Fe ? ?);|(xo ? ? ?);|(xa ?);|(E6 ?);|(qe ?);|(HK EA ?);(PE _(PySem.Expr.Call(PySem.Expr.Name 'len _)_ _ _)_)|(gE oY rfl(Bt.UD A)PF ?);(PE _(PySem.Expr.Call(PySem.Expr.Name 'sorted _)_ _ _)_)|(gE jX rfl(Bt.U3 A)QK ?);(PE _(PySem.Expr.Call(PySem.Expr.Name 'list _)_ _ _)_)|(vH L8 rfl(Bt.UT A)P4 ?);(PE _(PySem.Expr.Call(PySem.Expr.Attribute _ 'append _)_ _ _)_)|(rV Pk P9 P8 Gs ? ?);(PE _(PySem.Expr.Call(PySem.Expr.Attribute _ 'extend _)_ _ _)_)|(rV Pk PySem.F.slot_list_extend PySem.F.type_list_extend wA ? ?);(PE _(PySem.Expr.Call(PySem.Expr.Name _ _)_ _ _)_)|(iE A(aY.mn A)rfl eX ?);(PE _(PySem.Expr.Call(PySem.Expr.Name _ _)_ _ _)_)|(GZ A(aY.mn A)rfl eX ?);(PE _(PySem.Expr.Call(PySem.Expr.Attribute _ _ _)[]_ _)_)|(pX A(aY.mn A)eX ?);(PE _(PySem.Expr.Call(PySem.Expr.Attribute _ _ _)_ _ _)_)|(hX A(aY.mn A)eX ? ?)#(PA _ _ _);|AH;(PA _[_]_)|(bC ?);(PA _[_ _]_)|(cG ? ?);(PA _[_ _ _]_)|(jE ? ? ?);!|(Aj ? ?)#(kN _ _ _);|CV;|(bA ?);|(aG ? ?)#(L2.PS _ _ _);|(gO ? ? ?);|(cL ?);(L2.PS _(PySem.Stmt.Expr _ _)_)|(mF ?);(L2.PS _(PySem.Stmt.Assign[(PySem.Expr.Name _ _)]_ _)_)|(AO 1 A rfl O ?);(L2.PS _(PySem.Stmt.Assign[(PySem.Expr.Name _ _)]_ _)_)|(AO 2 A rfl O ?);(L2.PS _(PySem.Stmt.Assign[(PySem.Expr.Name _ _)]_ _)_)|(AO 3 A rfl O ?);(L2.PS _(PySem.Stmt.Assign[(PySem.Expr.Name _ _)]_ _)_)|(AO 4 A rfl O ?);(L2.PS _(PySem.Stmt.Assign[(PySem.Expr.Name _ _)]_ _)_)|(AO 5 A rfl O ?);(L2.PS _(PySem.Stmt.Assign[(PySem.Expr.Name _ _)]_ _)_)|(AO 6 A rfl O ?);(L2.PS _(PySem.Stmt.Assign[(PySem.Expr.Name _ _)]_ _)_)|(AO 7 A rfl O ?);(L2.PS _(PySem.Stmt.Assign[(PySem.Expr.Name _ _)]_ _)_)|(AO 8 A rfl O ?);(L2.PS _(PySem.Stmt.Assign[(PySem.Expr.Name _ _)]_ _)_)|(AO 11 A rfl O ?);(L2.PS _(PySem.Stmt.Assign[(PySem.Expr.Name _ _)]_ _)_)|(AO 12 A rfl O ?);(L2.PS _(PySem.Stmt.Assign[(PySem.Expr.Attribute _ _ _)]_ _)_)|(CM ? ? rfl);(L2.PS _(PySem.Stmt.For _ _ _ _ _)_)|(D5 Ud rfl ? ? ?);(L2.PS _(PySem.Stmt.AugAssign(PySem.Expr.Name _ _)_ _ _)_)|(BD 6 A rfl O ? Jn);(L2.PS _(PySem.Stmt.AugAssign(PySem.Expr.Attribute _ _ _)_ _ _)_)|(nQ ? ? zf);(L2.PS _(PySem.Stmt.Assign _ _ _)_)|(Il ? ?)#(PT _ _ _);(PT _(PySem.Expr.Compare _[PySem.CmpOp.Eq]_ _)_)|(fF CH ? ?(dF _));(PT _(PySem.Expr.Compare _[PySem.CmpOp.GtE]_ _)_)|(fF DI ? ?(dF _));(PT _(PySem.Expr.Compare _[PySem.CmpOp.Gt]_ _)_)|(fF F4 ? ?(dF _));(PT _(PySem.Expr.Compare _[PySem.CmpOp.Is]_ _)_)|(fF Gg ? ?(dF _));(PT _(PySem.Expr.Compare _[PySem.CmpOp.Lt]_ _)_)|(fF CI ? ?(dF _));(PT _(PySem.Expr.Compare _[PySem.CmpOp.NotEq]_ _)_)|(fF DH ? ?(dF _));(PT _(PySem.Expr.Compare _[PySem.CmpOp.IsNot]_ _)_)|(fF uK ? ?(dF _));|(Jw ?);|(PW.pt(CN ? ?));|(PW.pt(DX ? ?));!|(vD ?)#(L2.PW _ _ _);|(CN ? ?);|(Ea ?);|(DX ? ?);|(Jy ?)#(PG _ _ _);(PG _(PySem.Expr.Name _ _)_)|(Hb 2 A rfl O);(PG _(PySem.Expr.Name _ _)_)|(Hb 4 A rfl O);(PG _(PySem.Expr.Name _ _)_)|(Hb 5 A rfl O);(PG _(PySem.Expr.Name _ _)_)|(Hb 6 A rfl O);(PG _(PySem.Expr.Name _ _)_)|(Hb 9 A rfl O);(PG _(PySem.Expr.Name _ _)_)|(Hb 10 A rfl O);(PG _(PySem.Expr.Subscript _ _ _)_)|(KC ? ? Lu);(PG _(PySem.Expr.Tuple[_ _]_ _)_)|(uF 2 ?);(PG _(PySem.Expr.Tuple[_ _ _]_ _)_)|(uF 3 ?)#(Ej _ _ _);|K1;(Ej _(List.cons _ _)_)|(Hc ? ?)#(PI _ _ _ _);(PI _ _(PySem.Expr.Call(PySem.Expr.Name 'range _)[_]_ _)_)|(Am rfl(Bt.UC A)?);!|(CU ?)#(PO _ _ _);|(AN ?);|uD".splitOn "#").mapM (dvG P);let t<-dvF G;`(tactic|repeat' $t:tactic)
section
variable {P:Pl}{w:PN}{mg:Pj->Option OR}{base:PJ}{Cb Ce Cf Cg Cd Cc Ch Cj Ci Ca:OS}{cc_teller Pt_teller:OS}{Ck:OS}
theorem OK(F:aS K "_law_teller" "_law_teller" Gv f fd)(z:fd.code=.ref cc_teller)(C:Qy base cc_teller Pt_teller)(B:D0 mg base):aI P w K mg base aP 1 f fd ["_law_log","_law_bits"]<|Iq Pt_teller (Ga fV) "_law_tells" "_law_teller.<locals>._law_tells" (oW fV) (kn fV) (aR fV) ["_law_bits","_law_log"] [1,0] 2:=
 vX F V3 z C B rfl (λ_ _=>rfl) rfl rfl (λ_ _=>rfl) rfl (by decide) (by decide) (by decide+kernel) (by decide+kernel) (by decide+kernel) (Fy rfl) rfl
variable (T:Bt K mg Cb Ce Cf Cg Cd Cc Ch Cj Ci Ca)
include T
theorem iC:pe P w K mg base 1<|mG:=by
 refine FQ (k:=0) (iname:="_law_tells") (iq:="_law_teller.<locals>._law_tells") (ip:=oW fV) (ib:=kn fV) (isc:=aR fV) eV (λf vs H Q h=>?_) (λf vs H Q h=>?_) (λcl aj pm ao c' us hl=>match us,hl with|[_,_],_=>rfl) λg cs cl cd A outer s H vs Q hr C h=>?_
 .obtain ⟨g,x,y,lg,bl,k,k2,i,j,bs,ws,rfl,rfl,O,ae,af,hx,hy,hi,hj,UQ,W5,q⟩:=h;exact#[_,_,rfl,O]
 .obtain ⟨g,x,y,lg,bl,k,k2,i,j,bs,ws,rfl,rfl,O,ae,af,hx,hy,hi,hj,UQ,W5,q⟩:=h;rfl
 obtain⟨g,x,y,lg,bl,k,k2,i,j,bs,ws,eg,rfl,O,ae,af,hx,hy,hi,hj,UQ,W5,q⟩:=h;cases eg;obtain⟨am,C2⟩:=O;obtain rfl:=C.XC C2;refine#[_,(aG (bK (i:=2) eV.nd rfl (by (first | exact Or.inl rfl | exact Or.inr rfl))<|AM CI (dW bQ (pv 0) bJ λ_ _=>rfl) (dW bQ (pv 1) bJ λ_ _=>rfl)<|dF _)<|aG (gO (fF (Jv hr.units) (pv 4) (xa AH)<|dF _)  (aG (bK (i:=3) eV.nd rfl (by (first | exact Or.inl rfl | exact Or.inr rfl))<|bI jO (bI Iy bJ<|dW bQ (pv 0) bJ λ_ _=>rfl)<|dW bQ (pv 1) bJ λ_ _=>rfl)<|bA<|bK (i:=2) eV.nd rfl (by (first | exact Or.inl rfl | exact Or.inr rfl))<|AM CH (bI Fh (bI Ff (dW bQ (pv 4) (bI Gh (pv 3)<|gE oY rfl T.UD PF<|bC<|pv 4) λ_ _=>rfl)<|bI Gh (bI CT (pv 3)<|gE oY rfl T.UD PF<|bC<|pv 4) bJ) bJ) bJ<|dF _) CV)<|aG (mF<|rV Pk P9 P8 Gs (pv 5)<|bC<|qe<|jE (dW bQ (pv 0) bJ λ_ _=>rfl) (dW bQ (pv 1) bJ λ_ _=>rfl)<|pv 2)<|bA<|cL<|pv 2),?_];walk_at "r";have cells:=C.cells;have aa:hid cl H x=Zh (.tup [.int k,.int i]):=Ee cells hx (by intro ob z;cases z);have ac:hid cl H y=Zh (.tup [.int k2,.int j]):=Ee cells hy (by intro ob z;cases z);have J:hid cl H lg=Zh (.lst ws):=Ee cells UQ (by intro ob z;cases z);have U:hid cl H bl=Zh (.lst<|bs.map V.int):=Ee cells ae (by intro ob z;cases z);refine iI (cH.of aa) (dE (by decide) rfl)<|iI (cH.of ac) (dE (by decide) rfl) ?_;walk_at "r";refine#[cQ _,λe0 ah=>?_];obtain⟨H0,e1,s1,h1⟩:=aJ ah<|.lst [];rw[e1];clear e1;refine yT Enc.int.list (by decide) (a:=bs) (b:=[]) (AK<|aB.of<|s1 _ _ U) (AK (xs:=[])<|aB.of h1)<|jZ ?_;by_cases hb:bs=[]
 .rw [Z8<|by rw[hb];simp];rw[show decide (k<k2)=xj k k2 bs i j by unfold xj;rw[Z9 hb]];refine#[.inl #[rfl,_,aB.of<|s1 _ _ J],iI (cH.of<|s1 _ _ aa) (dE (by decide) rfl)<|iI (cH.of<|s1 _ _ ac) (dE (by decide) rfl) #[cP<|by decide,λt Z=>?_]];have ad:t≠lg:=λz=>by rw[z,s1 _ _ J] at Z;cases Z
  refine#[lg,ws,_,rfl,rfl,bO Z _ _ _<|s1 _ _ J,La<|∅,λhn=>?_];have nt:=hn.ne (b:=t) (by rw[aO ad,aU]);have nl:=hn.ne (b:=lg) aU;rw[JN nl,JN nt];exact q _ t (oR s1)<|by rw[xn nt];exact Z
 .rw [Z9<|by simpa using hb];have ai:0<bs.length:=List.length_pos_iff.mpr hb;refine iI (cH.of<|s1 _ _ aa) (dE (by decide) rfl) #[.inl #[∅,∅],iI (cH.of<|s1 _ _ ac) (dE (by decide) rfl) ?_];walk_at "r";refine#[bl,_,rfl,.inl<|aB.of<|s1 _ _ U,?_];rw[aM];have m0:=Pq (31*(i:Int)+j) (show(bs.length:Int)≠0 by lia);have m1:=Px (31*(i:Int)+j) (show(0:Int)<bs.length by lia);have ag:((31*(i:Int)+j)%(bs.length:Int)).toNat<bs.length:=∅
  refine#[∅,dQ (aB.of<|s1 _ _ U) (dE (v:=.int bs[((31*(i:Int)+j)%(bs.length:Int)).toNat]) ∅<|by rw[eJ,bV ag];rfl) ?_];refine#[bl,_,rfl,.inl<|aB.of<|s1 _ _ U,?_];rw[aM];refine#[#[∅,∅],by decide,Pq _<|by decide,?_];walk_at "r";rw[show decide (Uw (bs[((31*(i:Int)+j)%(bs.length:Int)).toNat]/2^((31*(i:Int)+j)/(bs.length:Int)%61).toNat) 1=1)=xj k k2 bs i j by
   unfold xj;rw[Z8 hb,fC,bV ag];rfl]
  refine#[.inl #[rfl,_,aB.of<|s1 _ _ J],iI (cH.of<|s1 _ _ aa) (dE (by decide) rfl)<|iI (cH.of<|s1 _ _ ac) (dE (by decide) rfl) #[cP<|by decide,λt Z=>?_]];have ad:t≠lg:=λz=>by rw[z,s1 _ _ J] at Z;cases Z
  refine#[lg,ws,_,rfl,rfl,bO Z _ _ _<|s1 _ _ J,La<|∅,λhn=>?_];have nt:=hn.ne (b:=t) (by rw[aO ad,aU]);have nl:=hn.ne (b:=lg) aU;rw[JN nl,JN nt];exact q _ t (oR s1)<|by rw[xn nt];exact Z
theorem NQ(F:aS K "__init__" "Spent.__init__" Mh f fd)
 :aI P w K mg base aP 1 f fd ["self","asked"]<|dM Ca:=by
 refine F.ok mL nofun λO A outer s H vs Q E U h=>?_
 obtain⟨e,n,rfl,z,hn,q⟩:=h;refine#[_,(aG (mF<|BN T.VF T.VJ rfl<|cG (pv 0)<|E8 KA<|pv 1)<|bA<|BA (pv 0) (pv 1) rfl),?_];walk_at "r";exact#[hn,λy=>#[e,_,Zi,_,rfl,z,T.Wb,e,_,Zi,rfl,z,T.VI,T.N1,.inl #[rfl,λd hd J=>q d hd J]]]
theorem Oa(F:dS K "__init__" "Asker.__init__" Mb f fd dv)
 :aI P w K mg base aP 1 f fd ["self","row","rule","most"]<|bX Cb:=by
 refine F.ok mP nofun λaa A outer s H vs Q E hr h=>?_
 refine' #[_,(aG ?_ ?_),?_];walk_at "d";obtain⟨x,dx,r,ru,m,xs,rfl,hx,O,q⟩:=h;walk_at "r";refine#[r,xs,rfl,.inl<|aB.of O,λrl J=>?_];have z:x≠rl:=bE hx J;obtain⟨H1,e1,s1,h1⟩:=aJ J<|.lst xs;rw[e1];clear e1;refine cR (s1 _ _ hx) T.Db T.Nq (by decide) λH2 x2 k2=>?_;walk_at "r";refine cR x2 T.Db T.Nx Ig λH3 x3 k3=>?_;walk_at "r";refine cR x3 T.Db T.Nf G0 λH4 x4 k4=>?_;walk_at "r";refine cR x4 T.Db T.Nn G1 λH5 x5 k5=>?_;walk_at "r";refine#[cP<|by decide,λtl UX=>?_];obtain⟨H6,e6,Z,h6⟩:=aJ UX<|.lst [];rw[e6];clear e6;have U:x≠tl:=bE x5 UX;refine cR (Z _ _ x5) T.Db T.Ny Jd λH7 x7 k7=>?_;have up:∀b o,b≠x->H b=Zh o->H5 b=Zh o:=λb o n e=>by rw[k5 b n,k4 b n,k3 b n,k2 b n];exact s1 b o e
 have h5:H5 rl=Zh (.lst xs):=by rw[k5 rl<|Pe z,k4 rl<|Pe z,k3 rl<|Pe z,k2 rl<|Pe z];exact h1
 refine q rl tl H7 (λb o n e=>by rw[k7 b n];exact Z _ _<|up b o n e) J ?_ (bE h5 UX) ((bD.of x7<|dJ yD<|by decide).congr zG) (by rw[k7 rl<|Pe z];exact Z _ _ h5) (by rw[k7 tl<|Pe U];exact h6);cases e:H tl with
 |none=>rfl
 |some o=>rw[up tl o (Pe U) e] at UX;cases UX
theorem O8(F:aS K "many" "Asker.many" Mc f fd)
 :aI P w K mg base aP 1 f fd ["self"]<|dB Cb:=by
 refine F.ok mO nofun λJ A outer s H vs Q E O h=>?_
 refine' #[_,(bA ?_),?_];walk_at "d";obtain⟨a,rl,ru,tl,m,n,xs,rfl,ha,z,q⟩:=h;walk_at "r";refine ha.get T.Db T.Nq (by walk_at "l") #[rl,xs,rfl,.inl<|aB.of z,q]
theorem OG(F:aS K "widen" "Asker.widen" MK f fd)
 :aI P w K mg base aP 1 f fd ["self","more"]<|kU Cb:=by
 refine F.ok lL nofun λJ A outer s H vs Q E O h=>?_
 refine' #[_,(bA ?_),?_];walk_at "d";obtain⟨a,rl,ru,tl,m,n,i,rfl,ha,hm,q⟩:=h;walk_at "r";refine ha.get T.Db T.Nf (by walk_at "l") ?_;rcases hm with rfl|⟨k,rfl⟩
 .rw [Z8<|by simp];exact q H (λ_ _=>rfl) ha
 .rw [Z9<|by simp];refine B7 ha (j:=i) T.Db T.Nf (by walk_at "l") (λQ h=>by walk_at "r";exact h) λH2 z k2=>?_;walk_at "r";exact q H2 k2<|z.congr Cp
theorem ON(F:aS K "__init__" "AskedRule.__init__" MF f fd)
 :aI P w K mg base aP 1 f fd ["self","teller"]<|dA Cc:=by
 refine F.ok iW nofun λz A outer s H vs Q E O h=>?_
 refine' #[_,(bA ?_),?_];walk_at "d";obtain⟨x,dx,g,rfl,hx,q⟩:=h;walk_at "r";refine cR hx T.Df T.N0 (by decide) λH2 J k2=>?_;exact q H2 (λb o n e=>by rw[k2 b n];exact e)<|(bD.of J<|dJ Ig<|by decide).congr λf=>by simp only[mH,lkc]
theorem NV(F:aS K "before" "AskedRule.before" MP f fd)
  (iC:pe P w K mg base 1<|mG)
 :aI P w K mg base aP 2 f fd ["self","x","y"]<|gA Cc mG:=by
 refine F.ok cT nofun λU A outer s H vs Q E Z h=>?_
 have aa:=cT.nd;refine' #[_,(aG ?_<|bA<|cL<|yN (iC.at Z.mn) ?_ ?_),?_];walk_at "d";obtain⟨ru,g,x,y,rfl,z,⟨o,O,J⟩,q⟩:=h;walk_at "r";refine z.get T.Df T.N0 (by walk_at "l") #[#[g,o,rfl,O,J],?_];exact q
theorem OF(F:aS K "ahead" "Asker.ahead" MJ f fd)
  (J:Mt P w K mg base aP Cc "before" 2 ["self","x","y"]<|gA Cc mG)
  (O:MU P w K mg base aP "Spent" Ca 1 ["self","asked"]<|dM Ca)
 :aI P w K mg base (aK P w) 3 f fd ["self","p","q"]<|bL Cb Cc Ca mG:=by
 refine F.UY cB nofun λaw A outer s H vs Q E hr h=>?_
 refine' bM 4 (aG (PS.UA<|nQ (pv 0) bJ zf)<|aG (PS.UA<|mF<|rV Pk P9 P8 Gs (kL (pv 0) rfl)<|bC<|qe<|jE (pv 3) (pv 4)<|pv 5)<|bA<|PS.UA<|cL<|xo (fF CH (pv 1) (pv 3)<|dF _) (pv 5)<|yK<|pv 5) λ_ dZ _=>bM 1 (aG (PS.UA<|bK (i:=3) cB.nd rfl (by (first | exact Or.inl rfl | exact Or.inr rfl))<|gE (Ly rfl) rfl T.Wn RT<|cG (pv 1)<|pv 2)<|aG (PS.UA<|bK (i:=4) cB.nd rfl (by (first | exact Or.inl rfl | exact Or.inr rfl))<|gE (Hf rfl) rfl T.VE Qm<|cG (pv 1)<|pv 2)<|aG (PS.UA<|bK (i:=5) cB.nd rfl (by (first | exact Or.inl rfl | exact Or.inr rfl))<|hX J hr.mn eX (kL (pv 0) rfl)<|cG (dW bQ (kL (pv 0) rfl) (pv 3) λ_ _=>rfl)<|dW bQ (kL (pv 0) rfl) (pv 4) λ_ _=>rfl) dZ) λ_ dZ _=>#[_,(aG (gO ?_ (bA<|wj O hr.mn rfl eX ?_) ?_) dZ),?_]
 walk_at "d";obtain⟨a,rl,ru,tl,m,n,p,q,rfl,ha,hn,hc⟩:=h;walk_at "r";rcases hc with ⟨k,rfl,hk,hE⟩|⟨hm,hc⟩
 .refine ha.get T.Db T.Nf (by walk_at "l") ?_;rw[Z9<|by simp];refine ha.get T.Db T.Nn (by walk_at "l")<|ha.get T.Db T.Nf (by walk_at "l")<|CO<|jZ ?_;rw[Z9<|by simpa using hk];refine ha.get T.Db T.Nn (by walk_at "l") #[by decide,λe he=>#[e,n,rfl,aU,hn,λd hd ae=>#[rfl,Zh d,aU,?_]]];have aj:H d=Zi:=by rw[aO ae] at hd;exact hd
  refine hE d _ (λb o hb=>?_) aj ?_
  .rw [CW<|bE hb he,aO<|bE hb he,aO<|bE hb aj,aO<|bE hb he];exact hb
  .rw [CW ae,aO ae,aU]
 apply HQ
 .intro aa;refine ha.get T.Db T.Nf (by walk_at "l") ?_;rcases hm with hm|⟨k,hm,hk⟩
  .rw [Z8<|by rw[hm];simp];exact aa
  .subst hm;rw[Z9<|by simp];refine ha.get T.Db T.Nn (by walk_at "l")<|ha.get T.Db T.Nf (by walk_at "l")<|CO<|jZ ?_;rw[Z8<|by simp;lia];exact aa
 obtain⟨xs,ts,x,y,ag,av,as,aq,hx,hy,hb⟩:=hc;obtain⟨au,g,x',y',e,ah,ho,ap⟩:=hb;cases e;refine bN ?_;walk_at "r";refine#[p,q,rfl,p,q,rfl,ha.get T.Db T.Nx (by walk_at "l")<|ah.Ux (by walk_at "l") ?_];rw[DL,GY];refine ha.get T.Db T.Nq (by walk_at "l")<|dQ (aB.of ag) (dE ∅ hx) ?_;refine ha.get T.Db T.Nq (by walk_at "l")<|dQ (aB.of ag) (dE ∅ hy) ?_;refine#[ru,g,x,y,rfl,ah,ho,Bw (λv H1 h=>?_) ap];obtain⟨b,rfl,af,ac,Xj,hq⟩:=h;have ai:tl≠a:=af.ne ac λ_ _ _ z=>by cases z
 refine bN ?_;walk_at "r";refine af.aug T.Db T.Nn (by walk_at "l") λH2 ao k2=>?_;have Z:=ao.congr zH;have U:H2 tl=Zh (.lst ts):=by rw[k2 tl ai];exact ac
 walk_at "r";refine Z.get T.Db T.Ny (by walk_at "l") ?_;walk_at "r";refine#[.inl #[rfl,_,aB.of U],cP<|by decide,λt ht=>?_];have am:t≠tl:=λz=>by rw[z,U] at ht;cases ht
 have ad:t≠a:=Z.neN ht;refine#[tl,ts,_,rfl,rfl,bO ht _ _ _ U,La<|∅,?_];have fin:=hq t (upd (upd H2 t<|.tup [.int<|max p q,.int<|min p q,.bl b]) tl<|.lst<|ts++[.ref t]) (by rw[<- k2 t ad];exact ht) (Z.keep<|by rw[aO<|Pe ai,aO<|Pe ad]) aU (by rw[aO am,aU]) (λc h1 h2 h3=>by rw[aO h2,aO h3,k2 c h1]);by_cases UI:q<p
 .rw [Z9 UI] at fin;show(if _ then _ else _);rw[Z9<|∅];exact fin
 .rw [Z8 UI] at fin;show(if _ then _ else _);rw[Z8<|∅];exact fin
theorem OC(F:dS K "stretch_from" "stretch_from" MA f fd dv)
  (z:Mt P w K mg base (aK P w) Cb "ahead" 3 ["self","p","q"]<|bL Cb Cc Ca mG)
  (J:Mt P w K mg base aP Cb "many" 1 ["self"]<|dB Cb)
 :aI P w K mg base (aK P w) 4 f fd ["asker","first","end"]<|pE Cb<|aF.mk Cc Ca:=by
 refine F.UY Vg nofun λaa A outer s H vs Q E Z h=>?_
 refine' bM 1 (aG (PS.UA<|bK (i:=4) Vg.nd rfl (by (first | exact Or.inl rfl | exact Or.inr rfl))<|bI jO (pv 1) bJ)<|aG (PS.UA<|gO (fF DI (pv 4) (pv 3)<|dF _) (bA<|cL<|qe<|cG (pv 4) DG) CV)<|aG (bK (i:=5) Vg.nd rfl (by (first | exact Or.inl rfl | exact Or.inr rfl))<|hX z Z.mn jG ?_ ?_)<|aG (PS.UA<|Im (i:=4) Vg.nd rfl (by (first | exact Or.inl rfl | exact Or.inr rfl)) bJ Jn)<|aG (PS.VC<|AR (tG #[rfl,rfl]) (PW.pt<|CN (fF CI (pv 4) (pv 3)<|dF _)<|Ea<|fF CH (hX z Z.mn rO (pv 0)<|cG (pv 4)<|bI qd (pv 4) bJ) (pv 5)<|dF _)<|bA<|Im (i:=4) Vg.nd rfl (by (first | exact Or.inl rfl | exact Or.inr rfl)) bJ Jn)<|bA<|PS.UA<|cL<|qe<|cG (pv 4)<|pv 5) λ_ dZ _=>#[_,(aG (PS.UA<|bK (i:=3) Vg.nd rfl (by (first | exact Or.inl rfl | exact Or.inr rfl))<|xo (fF Gg (pv 2) AI<|dF _) (pX J Z.mn eX<|pv 0)<|pv 2) dZ),?_]
 walk_at "d";obtain⟨c,pr,first,stop,post,rfl,st,hk,w,q⟩:=h;walk_at "r";rw[Z8<|by simp];walk_at "r";refine bN ?_;walk_at "r";unfold sy at w;by_cases h1:first+1<stop
 .rw [Z9 h1] at w;rw[Z8<|∅];refine st.ha.Ux (by walk_at "l") ?_;rw[show((first:Int)+1)=((first+1:Nat):Int) by lia];refine st.ahead hk w λb H1 pr1 f1 s1 w1=>?_;refine AU (λm σ H'=>L2.X4 λ(k n:Nat) (v2:Option V) (pr':List A3)=>m=stop-k/\σ=[Zh<|.ref c.a,Zh<|.int first,v2,Zh<|.int (stop:Nat),Zh<|.int k,Zh<|.bl b]/\first+1<k/\stop<=k+n/\Fr c.S H H'/\aH Cb (aF.mk Cc Ca) E H' c pr'/\c.W (pQ stop b n k) pr' post) ⟨_,first+2,_,_,_,rfl,rfl,∅,∅,f1,s1,w1⟩ ?_;rintro m σ H' ⟨k,n,v2,pr',rfl,rfl,ac,hn,fr,s,w⟩;walk_at "r";by_cases XJ:k<stop
  .rw [Z9<|∅];obtain⟨n,rfl⟩:∃n',n=n'+1:=#[n-1,∅]
   rw[pQ,Z9 XJ] at w;refine s.ha.Ux (by walk_at "l") ?_;rw[show((k:Int)-1)=((k-1:Nat):Int) by lia];refine s.ahead hk w λd H2 pr2 f2 s2 U=>?_;walk_at "r";by_cases hd:d=b
   .rw [Z9 hd];rw[Z9 hd] at U;refine AS ?_;walk_at "r";exact#[stop-(k+1),∅,k+1,n,_,_,rfl,by rw[show((k:Int)+1)=((k+1:Nat):Int) by lia],∅,∅,fr.trans f2,s2,U]
   .rw [Z8 hd];rw[Z8 hd] at U;exact#[cP<|by decide,λt O=>q t _ (k,b) _ (fr.trans<|f2.trans (bO O _).fr) (s2.mono<|bO O _) aU U]
  .rw [Z8<|∅];walk_at "r";refine#[cP<|by decide,λt O=>q t _ (k,b) _ (fr.trans (bO O _).fr) (s.mono<|bO O _) aU ?_];cases n with
   |zero=>exact w
   |succ n=>rw[pQ,Z8 XJ] at w;exact w
 .rw [Z8 h1] at w;rw[Z9<|∅];exact#[cP<|by decide,λt O=>q t _ (first+1,Zk) _ (bO O _).fr (st.mono<|bO O _) aU w]
theorem O3(F:aS K "in_turn" "in_turn" LG f fd)
 :aI P w K mg base aP 1 f fd ["first","beyond","falling"]<|iP:=by
 refine F.ok Vy nofun λJ A outer s H vs Q E Z h=>?_
 refine' #[_,(aG (bK (i:=3) Vy.nd rfl (by (first | exact Or.inl rfl | exact Or.inr rfl))<|vH (Mn rfl) rfl T.UT P4<|bC<|vH oK rfl T.UC RG ?_)<|aG (gO ?_ (bA<|mF<|Fd Pk PySem.F.slot_list_reverse PySem.F.type_list_reverse sO ?_) ?_) ?_),?_];walk_at "d";obtain⟨first,j,f,rfl,O,U,q⟩:=h;walk_at "r";refine#[first,j,rfl,λp z=>#[p,first,j,rfl,aU,∅,λl hl=>?_]];have S:aC H<|upd (upd H p<|.rng first j) l<|.lst<|(xm (first:Int) (j:Int)).map V.int:=((aC.refl H).new z).new hl;have hn:H l=Zi:=((aC.refl H).new z).free hl;rw[LC] at S⊢;cases f with
 |true=>
  rw[Z9 rfl];refine#[.inl #[rfl,_,aB.of aU],l,_,rfl,rfl,aU,?_];rw[tQ];refine q l _ (((aC.refl H).new z).new hl) hn ?_;rw[aU];unfold cZ nL;rw[Z9 rfl,List.map_reverse]
 |false=>
  rw[Z8<|by decide];refine q l _ S hn ?_;rw[aU];rfl
theorem O9(F:aS K "spot_of" "spot_of" LH f fd)
  (J:Mt P w K mg base (aK P w) Cb "ahead" 3 ["self","p","q"]<|bL Cb Cc Ca mG)
 :aI P w K mg base (aK P w) 4 f fd ["asker","order","place"]<|gH Cb<|aF.mk Cc Ca:=by
 refine F.UY Vf nofun λad A outer s H vs Q E hr h=>?_
 obtain⟨c,pr,os,pl,ol,post,rfl,st,O,U,hk,w,q⟩:=h;refine#[_,(aG (PS.UA<|bK (i:=3) Vf.nd rfl (by (first | exact Or.inl rfl | exact Or.inr rfl)) bJ)<|aG (PS.UA<|bK (i:=4) Vf.nd rfl (by (first | exact Or.inl rfl | exact Or.inr rfl))<|gE oY rfl T.UD PF<|bC<|pv 1)<|aG (PS.VC<|AR (tG #[rfl,rfl]) (fF CI (pv 3) (pv 4)<|dF _)<|aG (bK (i:=5) Vf.nd rfl (by (first | exact Or.inl rfl | exact Or.inr rfl))<|bI CT (bI jO (pv 3)<|pv 4) bJ)<|bA<|gO (vD<|hX J hr.mn rO (pv 0)<|cG (dW bQ (pv 1) (pv 5) λ_ _=>rfl)<|pv 2) (bA<|bK (i:=3) Vf.nd rfl (by (first | exact Or.inl rfl | exact Or.inr rfl))<|bI jO (pv 5) bJ)<|bA<|bK (i:=4) Vf.nd rfl (by (first | exact Or.inl rfl | exact Or.inr rfl))<|pv 5)<|bA<|PS.UA<|cL<|pv 3),?_];walk_at "r";refine#[ol,_,rfl,.inl<|aB.of O,?_];rw[aM];refine AU (λm σ H'=>L2.X5 λ(z high n:Nat) (v5:Option V) (pr':List A3)=>m=high-z/\σ=[Zh<|.ref c.a,Zh<|.ref ol,Zh<|.int pl,Zh<|.int z,Zh<|.int high,v5]/\high<=os.length/\high-z<=n/\Fr c.S H H'/\aH Cb (aF.mk Cc Ca) E H' c pr'/\c.W (AB os pl n z high) pr' post) ⟨_,0,os.length,os.length,_,pr,rfl,rfl,aN _,aN _,.refl,st,w⟩ ?_;rintro m σ H' ⟨z,high,n,v5,pr',rfl,rfl,ae,hn,fr,s,w⟩;walk_at "r";by_cases UI:z<high
 .rw [Z9<|∅];refine AS ?_;walk_at "r";obtain⟨n,rfl⟩:∃n',n=n'+1:=#[n-1,∅]
  rw[AB,Z9 UI] at w;have ac:z<=(z+high)/2:=∅
  have Z:(z+high)/2<high:=∅
  have aa:((z:Int)+high)/2=((z+high)/2:Nat):=∅
  refine#[#[by decide,by decide],?_];rw[aa];generalize (z+high)/2=mi at w ac Z;have ho:=(oX (os:=os) (i:=mi)<|∅).1;generalize os.getD mi 0=o at ho w;refine s.ha.Ux (by walk_at "l") ?_;refine dQ (aB.of<|fr _ _ U O) (rW ho) ?_;refine s.ahead hk w λb H2 pr2 f2 s2 w2=>?_;refine jZ ?_;cases b
  .rw [Z8<|by decide];exact#[mi-z,∅,z,mi,n,_,pr2,rfl,rfl,∅,∅,fr.trans f2,s2,w2]
  .rw [Z9 rfl];exact#[high-(mi+1),∅,mi+1,high,n,_,pr2,rfl,rfl,∅,∅,fr.trans f2,s2,w2]
 .rw [Z8<|∅];walk_at "r";refine q z H' pr' fr s ?_;cases n with
  |zero=>exact w
  |succ n=>rw[AB,Z8 UI] at w;exact w
theorem NT(F:dS K "filled" "filled" Lq f fd dv)
  (z:Fn P w K mg base (aK P w) "stretch_from" 4 ["asker","first","end"]<|pE Cb<|aF.mk Cc Ca)
  (Z:Fn P w K mg base aP "in_turn" 1 ["first","beyond","falling"]<|iP)
  (U:Fn P w K mg base (aK P w) "spot_of" 4 ["asker","order","place"]<|gH Cb<|aF.mk Cc Ca)
  (J:Mt P w K mg base aP Cb "many" 1 ["self"]<|dB Cb)
 :aI P w K mg base (aK P w) 5 f fd ["asker","first","least","end"]<|lG Cb<|aF.mk Cc Ca:=by
 refine F.UY Vd nofun λaw A outer s H vs Q E hr h=>?_
 refine' bM 4 (aG (PS.VC<|D5 (tG #[rfl,rfl]) rfl (wm rfl T.UC<|cG (pv 6)<|gE (Hf rfl) rfl T.VE Qm<|cG (bI jO (pv 1)<|pv 2)<|pv 4) (kB (i:=8) Vd.nd rfl<|by (first | exact Or.inl rfl | exact Or.inr rfl))<|bA<|mF<|rV Pk QR QQ JV (pv 7)<|cG (iE U hr.mn rfl rO<|jE (pv 0) (pv 7)<|pv 8)<|pv 8)<|bA<|PS.UA<|cL<|qe<|cG (pv 6)<|pv 7) λ_ dZ _=>bM 1 (aG (bK (i:=5) Vd.nd rfl (by (first | exact Or.inl rfl | exact Or.inr rfl))<|iE z hr.mn rfl jG ?_)<|aG (PS.UA<|bK (i:=6) Vd.nd rfl (by (first | exact Or.inl rfl | exact Or.inr rfl))<|dW bQ (pv 5) bJ λ_ _=>rfl)<|aG (PS.UA<|bK (i:=7) Vd.nd rfl (by (first | exact Or.inl rfl | exact Or.inr rfl))<|iE Z hr.mn rfl eX<|jE (pv 1) (pv 6)<|dW bQ (pv 5) bJ λ_ _=>rfl) dZ) λ_ dZ _=>#[_,(aG (PS.UA<|bK (i:=4) Vd.nd rfl (by (first | exact Or.inl rfl | exact Or.inr rfl))<|xo (fF Gg (pv 3) AI<|dF _) (pX J hr.mn eX<|pv 0)<|pv 3) dZ),?_]
 walk_at "d";obtain⟨c,pr,first,ls,stop,post,rfl,st,hk,hf,hs,w,q⟩:=h;walk_at "r";rw[Z8<|by simp];walk_at "r";refine bN ?_;walk_at "r";refine#[c,pr,first,stop,_,rfl,st,hk,(w.bind).UU<|qq hf,λt H1 r pr1 ah ae ht hw=>?_];obtain⟨⟨am,aj⟩,w1⟩:=hw;obtain⟨j,f⟩:=r;dsimp only at am aj ht w1;refine iI (cH.of ht) (dE (by decide) rfl) ?_;refine iI (cH.of ht) (dE (by decide) rfl) #[first,j,f,rfl,∅,∅,λol H2 s2 ac au=>?_];have as:=ae.mono s2;have af:=ae.off ac;have ai:H ol=Zi:=ae.free ah ac;rw[tT] at w1;refine bN ?_;walk_at "r";refine#[_,_,rfl,?_];rw[GY,show min ((first:Int)+ls) stop=(min (first+ls) stop:Nat) by lia];have ax:=nG first j f
 refine zD ∅<|Gk (λi σ H'=>L2.X4 λ(v3 v8:Option V) (os:List Nat) (pr':List A3)=>σ=[Zh<|.ref c.a,Zh<|.int first,Zh<|.int ls,v3,Zh<|.int stop,Zh<|.ref t,Zh<|.int j,Zh<|.ref ol,v8]/\H' ol=Zh (.lst<|nL os)/\os.length=j+i-first/\Fr c.S H H'/\aH Cb (aF.mk Cc Ca) E H' c pr'/\c.W (iY vB (min (first+ls) stop-j-i) (j+i) os) pr' λaq pr2=>post (j,aq) pr2) #[_,_,_,_,rfl,au,∅,ah.trans s2.fr,as,w1.bind] ?_ ?_
 .rintro i σ H' hi ⟨v3,v8,os,pr',rfl,O,ho,fr,ad,w'⟩;walk_at "r";have av:j+i<min (first+ls) stop:=∅
  rw[show min (first+ls) stop-j-i=(min (first+ls) stop-j-(i+1))+1 by lia,iY] at w';rw[show((j:Int)+i)=((j+i:Nat):Int) by lia];refine#[.inl #[rfl,_,aB.of O],c,pr',os,j+i,ol,_,rfl,ad,O,Ad.SA af,hk,(w'.bind).UU<|JT os<|j+i,λr H3 pr3 VO ao hp=>?_];obtain⟨ap,w3⟩:=hp;have aa:=VO _ _ (Ad.SA af) O;refine#[ol,_,_,_,rfl,rfl,aa,vI<|by rw[aM];lia,∅,?_];rw[JE ap];refine#[_,_,gT os r<|j+i,pr3,rfl,aU,?_,λb o n h=>?_,ao.upd aa af,w3]
  .have:=bS (os:=os) (r:=r) (x:=j+i) |>.length_eq
   rw[this,aQ,fM];lia
  .rw [aO<|bE h ai];exact VO _ _ n<|fr _ _ n h
 rintro σ H' ⟨v3,v8,os,pr',rfl,O,ho,fr,ad,w'⟩;walk_at "r";rw[show min (first+ls) stop-j-((min (first+ls) stop:Nat)-(j:Int)).toNat=0 by lia] at w';refine#[cP<|by decide,λt2 ag=>?_];exact q t2 ol _ (j,os) pr' (fr.trans (bO ag _).fr) ai (ad.mono<|bO ag _) aU (bO ag _ _ _ O) w'
theorem Ou(F:aS K "leap" "leap" K7 f fd)
  (z:Mt P w K mg base (aK P w) Cb "ahead" 3 ["self","p","q"]<|bL Cb Cc Ca mG)
 :aI P w K mg base (aK P w) 4 f fd ["asker","order","first","place"]<|lD Cb<|aF.mk Cc Ca:=by
 refine F.UY Va nofun λah A outer s H vs Q E hr h=>?_
 obtain⟨c,pr,ol,os,f,pl,post,rfl,st,Z,U,ag,hk,w,q⟩:=h;refine bM 5 (aG (PS.VC<|AR (tG #[rfl,rfl]) (fF F4 (bI qd (pv 5)<|pv 4) bJ<|dF _)<|aG (bK (i:=7) Va.nd rfl (by (first | exact Or.inl rfl | exact Or.inr rfl))<|bI CT (bI jO (pv 4)<|pv 5) bJ)<|bA<|gO (vD<|hX z hr.mn rO (pv 0)<|cG (dW bQ (pv 1) (pv 7) λ_ _=>rfl)<|pv 3) (bA<|bK (i:=4) Va.nd rfl (by (first | exact Or.inl rfl | exact Or.inr rfl))<|pv 7)<|bA<|bK (i:=5) Va.nd rfl (by (first | exact Or.inl rfl | exact Or.inr rfl))<|pv 7)<|bA<|PS.UA<|cL<|bI qd (pv 5)<|pv 2) λ_ dZ _=>#[_,(aG (PS.UA<|bK (i:=4) Va.nd rfl (by (first | exact Or.inl rfl | exact Or.inr rfl))<|bI qd (pv 2) bJ)<|aG (PS.UA<|bK (i:=5) Va.nd rfl (by (first | exact Or.inl rfl | exact Or.inr rfl))<|pv 2)<|aG (PS.UA<|bK (i:=6) Va.nd rfl (by (first | exact Or.inl rfl | exact Or.inr rfl)) bJ)<|aG (PS.VC<|AR (tG ⟨rfl,rfl⟩) (PW.pt<|CN (fF CI (pv 5) (gE oY rfl T.UD PF<|bC<|pv 1)<|dF _)<|Ea<|vD<|hX z hr.mn rO (pv 0)<|cG (dW bQ (pv 1) (pv 5) λ_ _=>rfl)<|pv 3)<|aG (bK (i:=4) Va.nd rfl (by (first | exact Or.inl rfl | exact Or.inr rfl))<|pv 5)<|aG (Im (i:=5) Va.nd rfl (by (first | exact Or.inl rfl | exact Or.inr rfl)) (pv 6) Jn)<|bA<|bK (i:=6) Va.nd rfl (by (first | exact Or.inl rfl | exact Or.inr rfl))<|bI Iy (pv 6) bJ)<|aG (PS.UA<|bK (i:=5) Va.nd rfl (by (first | exact Or.inl rfl | exact Or.inr rfl))<|gE (Hf rfl) rfl T.VE Qm<|cG (pv 5)<|gE oY rfl T.UD PF<|bC<|pv 1) dZ),?_]
 walk_at "r";have hd:(os.drop f).length=os.length-f:=gP ..;apply HP λ(lo hi:Nat) (_:Int) (H':Hp)=>L2.X2 λ(n:Nat) (pr':List A3)=>hi-lo<=n/\hi<=(os.drop f).length/\Fr c.S H H'/\aH Cb (aF.mk Cc Ca) E H' c pr'/\c.W (iD (os.drop f) pl n lo hi) pr' post
 .intro O;refine AU (λm σ H'=>L2.X4 λ(lo hi n:Nat) (pr':List A3)=>m=os.length+1-hi/\σ=[Zh<|.ref c.a,Zh<|.ref ol,Zh<|.int f,Zh<|.int pl,Zh<|.int<|(f:Int)+lo-1,Zh<|.int<|(f:Int)+hi,Zh<|.int<|(hi:Int)+1,Zi]/\lo<=hi/\(os.drop f).length<=n+hi/\Fr c.S H H'/\aH Cb (aF.mk Cc Ca) E H' c pr'/\c.W (pT (os.drop f) pl n lo hi) pr' λr pr2=>c.W (iD (os.drop f) pl (os.drop f).length r.1<|min r.2 (os.drop f).length) pr2 post) ⟨_,0,0,_,pr,rfl,by rw[Int.natCast_zero,Int.add_zero,QF],aN _,Et _ _,.refl,st,w.bind⟩ ?_;rintro m σ H' ⟨lo,hi,n,pr',rfl,rfl,ai,hn,fr,s,w⟩;walk_at "r";have J:=fr _ _ U Z;refine#[ol,_,rfl,.inl<|aB.of J,?_];rw[aM];by_cases hf:hi<(os.drop f).length
  .rw [Z9<|∅];have ho:=rk hf;obtain⟨n,rfl⟩:∃n',n=n'+1:=#[n-1,∅]
   rw[pT,Z9 hf] at w;generalize (os.drop f).getD hi 0=o at ho w;refine s.ha.Ux (by walk_at "l") ?_;refine dQ (aB.of J) (by rw[show(f:Int)+hi=((f+hi:Nat):Int) by lia];exact rW ho) ?_;refine s.ahead hk w λb H2 pr2 f2 s2 w2=>?_;refine jZ ?_;cases b
   .rw [Z8<|by decide];refine#[ol,_,rfl,.inl<|aB.of<|f2 _ _ U J,_,_,rfl,?_];rw[aM,GY,show min ((f:Int)+hi) os.length=(f:Int)+(hi:Nat) by lia];have w3:c.W (iD (os.drop f) pl (os.drop f).length lo<|min hi (os.drop f).length) pr2 post:=w2;rw[vQ<|∅] at w3;generalize (hi:Int)+1=wd;exact O lo hi wd H2 #[_,pr2,∅,∅,fr.trans f2,s2,w3]
   .rw [Z9 rfl];refine AS ?_;walk_at "r";refine#[.inr #[by decide,by decide],os.length+1-(2*hi+1),∅,hi+1,2*hi+1,n,pr2,rfl,?_,∅,∅,fr.trans f2,s2,w2];rw[show(f:Int)+((hi+1:Nat):Int)-1=f+hi by lia,show(f:Int)+((2*hi+1:Nat):Int)=f+hi+(hi+1) by lia,show((2*hi+1:Nat):Int)+1=((hi:Int)+1)*2 by lia]
  .rw [Z8<|∅];refine#[ol,_,rfl,.inl<|aB.of J,_,_,rfl,?_];have w3:c.W (iD (os.drop f) pl (os.drop f).length lo<|min hi (os.drop f).length) pr' post:=by
    cases n with
    |zero=>exact w
    |succ n=>rw[pT,Z8 hf] at w;exact w
   rw[Rp<|∅] at w3;rw[aM,GY,show min ((f:Int)+hi) os.length=(f:Int)+((os.drop f).length:Nat) by lia];generalize (hi:Int)+1=wd;have e5:c.W (iD (os.drop f) pl (os.drop f).length lo (os.drop f).length) pr' post/\(os.drop f).length<=(os.drop f).length:=#[w3,aN _]
   generalize XX:(os.drop f).length=h2 at e5⊢;rw[XX] at hd;exact O lo h2 wd H' #[h2,pr',∅,∅,fr,s,e5.1]
 rintro lo hi wd H1 ⟨n,pr1,hn,aa,ac,ad,w1⟩;refine bN ?_;walk_at "r";refine AU (λm σ H'=>L2.X5 λ(lo hi n:Nat) (v7:Option V) (pr':List A3)=>m=hi-lo/\σ=[Zh<|.ref c.a,Zh<|.ref ol,Zh<|.int f,Zh<|.int pl,Zh<|.int<|(f:Int)+lo-1,Zh<|.int<|(f:Int)+hi,Zh<|.int wd,v7]/\hi-lo<=n/\hi<=(os.drop f).length/\Fr c.S H H'/\aH Cb (aF.mk Cc Ca) E H' c pr'/\c.W (iD (os.drop f) pl n lo hi) pr' post) ⟨_,lo,hi,n,_,pr1,rfl,rfl,hn,aa,ac,ad,w1⟩ ?_;clear hn aa ac ad w1;rintro m σ H' ⟨lo,hi,n,v7,pr',rfl,rfl,hn,aa,fr,s,w⟩;walk_at "r";by_cases UI:lo<hi
 .rw [Z9<|∅];refine AS ?_;walk_at "r";refine#[#[by decide,by decide],?_];obtain⟨n,rfl⟩:∃n',n=n'+1:=#[n-1,∅]
  rw[iD,Z9 UI] at w;have af:lo<=(lo+hi-1)/2:=∅
  have ae:(lo+hi-1)/2<hi:=∅
  rw[show((f:Int)+lo-1+(f+hi))/2=((f+(lo+hi-1)/2:Nat):Int) by lia];generalize (lo+hi-1)/2=mi at w af ae;have ho:=rk (os:=os) (f:=f) (i:=mi) ∅;generalize (os.drop f).getD mi 0=o at ho w;have J:=fr _ _ U Z;refine s.ha.Ux (by walk_at "l") ?_;refine dQ (aB.of J) (rW ho) ?_;refine s.ahead hk w λb H2 pr2 f2 s2 w2=>?_;refine jZ ?_;cases b
  .rw [Z8<|by decide];exact#[mi-lo,∅,lo,mi,n,_,pr2,rfl,by rw[show((f+mi:Nat):Int)=(f:Int)+mi by lia],∅,∅,fr.trans f2,s2,w2]
  .rw [Z9 rfl];exact#[hi-(mi+1),∅,mi+1,hi,n,_,pr2,rfl,by rw[show(f:Int)+((mi+1:Nat):Int)-1=((f+mi:Nat):Int) by lia],∅,∅,fr.trans f2,s2,w2]
 .rw [Z8<|∅];walk_at "r";have w4:post hi pr':=by
   cases n with
   |zero=>exact w
   |succ n=>rw[iD,Z8 UI] at w;exact w
  rw[show(f:Int)+hi-f=((hi:Nat):Int) by lia];exact q hi H' pr' fr s w4
theorem Ot(F:aS K "__init__" "Join.__init__" Ms f fd)
 :aI P w K mg base aP 1 f fd ["self","asker","left","right"]<|lE Ce:=by
 refine F.ok pP nofun λav A outer s H vs Q E hr h=>?_
 refine' #[_,(aG ?_ ?_),?_];walk_at "d";obtain⟨x,dx,ak,al,ar,ls,rs,rfl,hx,ae,U,q⟩:=h;walk_at "r";have ao:al≠x:=λz=>by rw[z,hx] at ae;cases ae
 have aj:ar≠x:=λz=>by rw[z,hx] at U;cases U
 refine cR hx T.De T.Nv (by decide) λH2 x2 k2=>?_;walk_at "r";refine#[al,_,rfl,.inl (aB.of<|by rw[k2 al ao];exact ae),λla ad=>?_];obtain⟨H3,e3,s3,h3⟩:=aJ ad<|.lst<|nL ls;rw[e3];clear e3;refine#[ar,_,rfl,.inl (aB.of<|s3 _ _<|by rw[k2 ar aj];exact U),λra aa=>?_];obtain⟨H4,e4,s4,h4⟩:=aJ aa<|.lst<|nL rs;rw[e4];clear e4;refine#[cP<|by decide,λsd ac=>?_];obtain⟨H5,e5,s5,h5⟩:=aJ ac<|.tup [.ref la,.ref ra];rw[e5];clear e5;have x5:=s5 _ _<|s4 _ _<|s3 _ _ x2;refine cR x5 T.De T.Nl Ig λH6 x6 k6=>?_;walk_at "r";refine#[cP<|by decide,λtk UZ=>?_];obtain⟨H7,e7,s7,h7⟩:=aJ UZ<|.lst [.int 0,.int 0];rw[e7];clear e7;have x7:=s7 _ _ x6;refine cR x7 T.De T.Ni G0 λH8 x8 k8=>?_;walk_at "r";refine#[cP<|by decide,λpc J=>?_];obtain⟨H9,e9,s9,h9⟩:=aJ J<|.lst [];rw[e9];clear e9;have x9:=s9 _ _ x8;refine cR x9 T.De T.Nu G1 λHA xA kA=>?_;have Z:la≠x:=Pe<|bE x2 ad;have af:ra≠x:=Pe<|bE (s3 _ _ x2) aa;have ah:sd≠x:=Pe<|bE (s4 _ _<|s3 _ _ x2) ac;have ag:tk≠x:=Pe<|bE x6 UZ;have ai:pc≠x:=Pe<|bE x8 J;have O:∀b o,b≠x->H5 b=Zh o->HA b=Zh o:=λb o n e=>by
  rw[kA b n];refine s9 _ _ ?_;rw[k8 b n];refine s7 _ _ ?_;rw[k6 b n];exact e
 have up:∀b o,b≠x->H b=Zh o->H5 b=Zh o:=λb o n e=>s5 _ _ (s4 _ _<|s3 _ _<|by rw[k2 b n];exact e);have au:=O la _ Z<|s5 _ _<|s4 _ _ h3;have ap:=O ra _ af<|s5 _ _ h4;have am:=O sd _ ah h5;have g8:H8 tk=Zh (.lst [.int 0,.int 0]):=by rw[k8 tk ag];exact h7
 have aq:HA tk=Zh (.lst [.int 0,.int 0]):=by rw[kA tk ag];exact s9 _ _ g8
 have as:HA pc=Zh (.lst []):=by rw[kA pc ai];exact h9
 have f6:∀b,b≠x->H6 b=Zi->H b=Zi:=λb n e=>by
  cases eb:H b with
  |none=>rfl
  |some o=>have:=up b o n eb;rw[k6 b n,this] at e;cases e
 have f8:∀b,b≠x->H8 b=Zi->H b=Zi:=λb n e=>f6 b n (s7.free<|by rw[<- k8 b n];exact e);have l5:H6 la=Zh (.lst<|nL ls):=by rw[k6 la Z];exact s5 _ _<|s4 _ _ h3
 have r5:H6 ra=Zh (.lst<|nL rs):=by rw[k6 ra af];exact s5 _ _ h4
 have l8:H8 la=Zh (.lst<|nL ls):=by rw[k8 la Z];exact s7 _ _ l5
 have r8:H8 ra=Zh (.lst<|nL rs):=by rw[k8 ra af];exact s7 _ _ r5
 refine q sd la ra tk pc HA (λb o n e=>O b o n<|up b o n e) ?_ ?_ ?_ (f6 tk ag UZ) (f8 pc ai J) ⟨(bD.of xA<|dJ Jd<|by decide).congr λf=>by simp only[mH,lkc],am,au,ap,aq,as,bE g8 J,bE l5 UZ,bE l8 J,bE r5 UZ,bE r8 J⟩
 .cases eb:H sd with
  |none=>rfl
  |some o=>have:=s4 _ _ (s3 _ _<|by rw[k2 sd ah];exact eb);rw[this] at ac;cases ac
 .cases eb:H la with
  |none=>rfl
  |some o=>rw[k2 la Z,eb] at ad;cases ad
 .cases eb:H ra with
  |none=>rfl
  |some o=>have:=s3 ra o (by rw[k2 ra af];exact eb);rw[this] at aa;cases aa
theorem Oj(F:aS K "has_more" "Join.has_more" MB f fd)
 :aI P w K mg base aP 1 f fd ["self","side"]<|eG Ce:=by
 refine F.ok jL nofun λz A outer s H vs Q E J h=>?_
 refine' #[_,(bA ?_),?_];walk_at "d";obtain⟨b,jn,ak,sd,ma,ta,tk,pc,ms,ts,i,j,dn,rfl,js,q⟩:=h;walk_at "r";refine js.hj.get T.De T.Ni (by walk_at "l")<|dQ (aB.of js.UZ) AJ ?_;refine js.hj.get T.De T.Nl (by walk_at "l")<|iI (cH.of js.Wu) AJ #[ma,_,rfl,.inl<|aB.of js.WO,?_];rw[aM];refine CO ?_;have e:decide ((i:Int)<ms.length)=decide (i<ms.length):=by rw[decide_eq_decide];lia
 rw[<- e] at q;exact q
theorem O1(F:aS K "front" "Join.front" Md f fd)
 :aI P w K mg base aP 1 f fd ["self","side"]<|iR Ce:=by
 refine F.ok mM nofun λz A outer s H vs Q E J h=>?_
 refine' #[_,(bA ?_),?_];walk_at "d";obtain⟨b,jn,ak,sd,ma,ta,tk,pc,ms,ts,i,j,dn,x,rfl,js,hx,q⟩:=h;walk_at "r";refine js.hj.get T.De T.Nl (by walk_at "l")<|iI (cH.of js.Wu) AJ ?_;refine js.hj.get T.De T.Ni (by walk_at "l")<|dQ (aB.of js.UZ) AJ ?_;exact dQ (aB.of js.WO) (rW hx) q
theorem NZ(F:aS K "take_on" "Join.take_on" Mx f fd)
 :aI P w K mg base aP 1 f fd ["self","side","more"]<|eE Ce:=by
 refine F.ok fD nofun λaa A outer s H vs Q E hr h=>?_
 have ac:=fD.nd;refine' #[_,(aG ?_ ?_),?_];walk_at "d";obtain⟨b,jn,ak,sd,ma,ta,tk,pc,ms,ts,i,j,dn,m,rfl,js,hm,hl,q⟩:=h;walk_at "r";refine js.hj.get T.De T.Ni (by walk_at "l")<|dQ (aB.of js.UZ) AJ ?_;walk_at "r";refine js.hj.get T.De T.Nu (by walk_at "l") ?_;walk_at "r";refine#[.inl #[rfl,_,aB.of js.WG],?_];refine js.hj.get T.De T.Nl (by walk_at "l")<|iI (cH.of js.Wu) AJ ?_;walk_at "r";refine xb (aB.of js.WO) λc hc=>?_;have Z:dR (nL ms) (Zh (i:Int)) (Zh<|(i:Int)+m)=nL ((ms.drop i).take m):=by
  unfold dR;rw[show(i:Int)+m=((i+m:Nat):Int) by lia,HT.sIx_nat,HT.sIx_nat,aM,vQ (show i<=ms.length by lia),vQ (show i+m<=ms.length by lia),GA];unfold nL;rw[<- Er,<- Es]
 rw[Z];obtain⟨H1,U,s1,h1⟩:=aJ hc<|.lst<|nL<|(ms.drop i).take m;rw[U];clear U;have J:=js.mono s1;refine#[pc,c,_,_,rfl,rfl,J.WG,h1,cP<|by rw[aM,aM,iF,gP];lia,?_];have O:tk≠pc:=js.ne.1;have z:JS Ce (upd H1 pc<|.lst<|nL dn++nL ((ms.drop i).take m)) b jn ak sd ma ta tk pc ms ts i j<|dn++(ms.drop i).take m:=J.keep (Fr.upd<|bF _ aZ) (by rw[aO O];exact J.UZ) (by rw[aU];unfold nL;rw[cU]);have f1:Fr [tk,pc] H<|upd H1 pc<|.lst<|nL dn++nL ((ms.drop i).take m):=s1.fr.trans<|Fr.upd<|bF _ aZ;generalize upd H1 pc (.lst<|nL dn++nL ((ms.drop i).take m))=H2 at z f1⊢;refine z.hj.get T.De T.Ni (by walk_at "l") ?_;walk_at "r";refine#[tk,_,_,_,rfl,rfl,z.UZ,Kz (by cases b<;>decide) (by rw[E4];cases b<;>decide),?_];rw[E2,show(i:Int)+m=((i+m:Nat):Int) by lia];refine q _ (f1.trans<|Fr.upd aZ)<|z.keep (Fr.upd aZ) aU<|by rw[aO<|Pe O];exact z.WG
theorem NL(F:aS K "take_rest" "Join.take_rest" MG f fd)
  (z:Mt P w K mg base aP Ce "take_on" 1 ["self","side","more"]<|eE Ce)
 :aI P w K mg base aP 2 f fd ["self","side"]<|eN Ce:=by
 refine F.ok iV nofun λO A outer s H vs Q E Z h=>?_
 refine' #[_,(bA ?_),?_];walk_at "d";obtain⟨b,jn,ak,sd,ma,ta,tk,pc,ms,ts,i,j,dn,rfl,js,hi,hl,q⟩:=h;walk_at "r";refine js.hj.Ux (by walk_at "l") ?_;refine js.hj.get T.De T.Nl (by walk_at "l")<|iI (cH.of js.Wu) AJ #[ma,_,rfl,.inl<|aB.of js.WO,?_];refine js.hj.get T.De T.Ni (by walk_at "l")<|dQ (aB.of js.UZ) AJ ?_;walk_at "r";rw[aM,show(ms.length:Int)-i=((ms.length-i:Nat):Int) by lia];refine#[b,jn,ak,sd,ma,ta,tk,pc,ms,ts,i,j,dn,ms.length-i,rfl,js,∅,hl,λH' U J=>?_];rw[show i+(ms.length-i)=ms.length by lia,tM<|by rw[gP];exact aN _] at J;exact q H' U J
theorem On(F:aS K "win" "Join.win" LN f fd)
  (z:Mt P w K mg base aP Ce "take_on" 1 ["self","side","more"]<|eE Ce)
  (J:Mt P w K mg base (aK P w) Cb "ahead" 3 ["self","p","q"]<|bL Cb Cc Ca mG)
  (Z:Mt P w K mg base aP Ce "front" 1 ["self","side"]<|iR Ce)
 :aI P w K mg base (aK P w) 4 f fd ["self"]<|pD Cb (aF.mk Cc Ca) Ce:=by
 refine F.UY jU nofun λad A outer s H vs Q E hr h=>?_
 refine' #[_,(aG (bK (i:=1) jU.nd rfl (by (first | exact Or.inl rfl | exact Or.inr rfl))<|xo (vD<|hX J hr.mn jG ?_ ?_) ?_ ?_)<|aG (PS.UA<|mF<|hX z hr.mn eX (pv 0)<|cG (pv 1) bJ)<|bA<|PS.UA<|cL<|pv 1),?_];walk_at "d";obtain⟨c,pr,jn,sd,la,ra,tk,pc,ls,rs,dn,i,j,x,y,k,post,rfl,st,js,nx,hx,hy,hk,ac,aa,w,q⟩:=h;walk_at "r";refine js.hj.get T.De T.Nv (by walk_at "l")<|st.ha.Ux (by walk_at "l") ?_;refine js.hj.Ux (by walk_at "l") #[Zj,jn,c.a,sd,la,ra,tk,pc,ls,rs,i,j,dn,x,rfl,js,hx,?_];refine js.hj.Ux (by walk_at "l") #[Zk,jn,c.a,sd,ra,la,tk,pc,rs,ls,j,i,dn,y,rfl,js.swap,hy,?_];refine st.ahead hk w λb H2 pr2 f2 s2 w2=>?_;have O:=js.Xn nx f2;have hi:=(jS.mp hx).1;have hj:=(jS.mp hy).1;refine jZ ?_;cases b
 .rw [Z8<|by decide];walk_at "r";refine O.hj.Ux (by walk_at "l") #[Zk,jn,c.a,sd,ra,la,tk,pc,rs,ls,j,i,dn,1,rfl,O.swap,∅,∅,λH3 f3 U=>?_];rw[Lx hy] at U;exact q Zk H3 pr2 ((FH f2).trans<|wK f3) (s2.VR O nx f3) U.swap w2
 .rw [Z9 rfl];walk_at "r";refine O.hj.Ux (by walk_at "l") #[Zj,jn,c.a,sd,la,ra,tk,pc,ls,rs,i,j,dn,1,rfl,O,∅,∅,λH3 f3 U=>?_];rw[Lx hx] at U;exact q Zj H3 pr2 ((FH f2).trans<|wK f3) (s2.VR O nx f3) U w2
theorem OD(F:aS K "leap_on" "Join.leap_on" Mw f fd)
  (Z:Fn P w K mg base (aK P w) "leap" 4 ["asker","order","first","place"]<|lD Cb<|aF.mk Cc Ca)
  (z:Mt P w K mg base aP Ce "take_on" 1 ["self","side","more"]<|eE Ce)
  (J:Mt P w K mg base aP Ce "has_more" 1 ["self","side"]<|eG Ce)
  (U:Mt P w K mg base aP Ce "front" 1 ["self","side"]<|iR Ce)
 :aI P w K mg base (aK P w) 5 f fd ["self","side"]<|gK Cb (aF.mk Cc Ca) Ce:=by
 refine F.UY fE nofun λag A outer s H vs Q E hr h=>?_
 refine' bM 1 (aG (mF<|hX z hr.mn eX ?_<|cG ?_<|iE Z hr.mn rfl jG ?_)<|bA<|PS.UA<|gO (vD<|hX J hr.mn eX (pv 0)<|bC<|pv 1) (bA<|mF<|hX z hr.mn eX (pv 0)<|cG (pv 2) bJ) CV) λ_ dZ _=>#[_,(aG (PS.UA<|bK (i:=2) fE.nd rfl (by (first | exact Or.inl rfl | exact Or.inr rfl))<|xo (fF CH (pv 1) (Ak rfl T.U5)<|dF _) (Ak rfl T.U7)<|Ak rfl T.U5) dZ),?_]
 walk_at "d";obtain⟨c,pr,jn,sd,ma,ta,tk,pc,b,ms,ts,dn,i,j,y,post,rfl,st,js,nx,hy,hi,hk,hd,w,q⟩:=h;walk_at "r";have hj:=(jS.mp hy).1;refine Cw λo ho=>?_;obtain rfl:o=sv (!b):=by
  rcases ho with ⟨h,e⟩|⟨h,e⟩
  .revert h;cases b<;>intro h
   .cases h
   .exact e
  .revert h;cases b<;>intro h
   .exact e
   .exact absurd rfl h
 refine bN ?_;walk_at "r";refine js.hj.Ux (by walk_at "l") ?_;refine js.hj.get T.De T.Nv (by walk_at "l") ?_;refine js.hj.get T.De T.Nl (by walk_at "l")<|iI (cH.of js.Wu) AJ ?_;refine js.hj.get T.De T.Ni (by walk_at "l")<|dQ (aB.of js.UZ) AJ ?_;refine js.hj.Ux (by walk_at "l") #[!b,jn,c.a,sd,ta,ma,tk,pc,ts,ms,j,i,dn,y,rfl,js.swap,hy,?_];refine#[c,pr,ma,ms,i,y,_,rfl,st,js.WO,Ad.SA nx.n1.2.2.1,hi,hk,w.UU<|Lk _ _,λk H2 pr2 f2 s2 hw=>?_];obtain⟨af,hp⟩:=hw;rw[gP] at af;have ac:=js.Xn nx f2;refine#[b,jn,c.a,sd,ma,ta,tk,pc,ms,ts,i,j,dn,k,rfl,ac,∅,∅,λH3 f3 O=>?_];have s3:=s2.VR ac nx f3;have ad:=(FH f2 (tk:=tk) (pc:=pc)).trans<|wK f3;refine O.hj.Ux (by walk_at "l") #[b,jn,c.a,sd,ma,ta,tk,pc,ms,ts,i+k,j,_,rfl,O,?_];refine jZ ?_;by_cases hz:i+k<ms.length
 .rw [decide_eq_true hz,Z9 rfl];walk_at "r";refine O.hj.Ux (by walk_at "l") #[!b,jn,c.a,sd,ta,ma,tk,pc,ts,ms,j,i+k,_,1,rfl,O.swap,∅,by rw[aQ,iF,gP];lia,λH4 f4 ae=>?_];have aa:=ae.swap;rw[Bool.not_not,Lx hy] at aa;refine q k H4 pr2 (ad.trans<|wK f4) (s3.VR O nx f4) ∅ ?_ hp;rw[Z9 hz,Z9 hz];exact aa
 .rw [decide_eq_false hz,Z8<|by decide];refine q k H3 pr2 ad s3 ∅ ?_ hp;rw[Z8 hz,Z8 hz,iG];exact O
theorem O7(F:aS K "joined" "joined" Lr f fd)
  (J:Mt P w K mg base aP Ce "take_rest" 2 ["self","side"]<|eN Ce)
  (O:Mt P w K mg base aP Ce "has_more" 1 ["self","side"]<|eG Ce)
  (ad:Mt P w K mg base (aK P w) Ce "win" 4 ["self"]<|pD Cb (aF.mk Cc Ca) Ce)
  (U:Mt P w K mg base (aK P w) Ce "leap_on" 5 ["self","side"]<|gK Cb (aF.mk Cc Ca) Ce)
  (ai:Kl P w K mg base aP "Join" Ce 1 ["self","asker","left","right"]<|lE Ce)
 :aI P w K mg base (aK P w) 6 f fd ["asker","left","right"]<|cV Cb<|aF.mk Cc Ca:=by
 refine F.UY Vb nofun λb7 A outer s H vs Q E hr h=>?_
 obtain⟨c,pr,al,ar,ls,rs,post,rfl,st,aw,au,hk,b0,w,q⟩:=h;refine#[_,(aG (PS.UA<|bK (i:=3) Vb.nd rfl (by (first | exact Or.inl rfl | exact Or.inr rfl))<|GZ ai hr.mn rfl eX<|jE (pv 0) (pv 1)<|pv 2)<|aG (PS.UA<|bK (i:=4) Vb.nd rfl (by (first | exact Or.inl rfl | exact Or.inr rfl)) bJ)<|aG (PS.UA<|bK (i:=5) Vb.nd rfl (by (first | exact Or.inl rfl | exact Or.inr rfl))<|Ak rfl T.U5)<|aG (PS.VC<|AR (tG #[rfl,rfl]) (PW.pt<|CN (vD<|hX O hr.mn eX (pv 3)<|bC<|Ak rfl T.U5)<|Ea<|vD<|hX O hr.mn eX (pv 3)<|bC<|Ak rfl T.U7)<|aG (bK (i:=6) Vb.nd rfl (by (first | exact Or.inl rfl | exact Or.inr rfl))<|pX ad hr.mn rO<|pv 3)<|aG (bK (i:=4) Vb.nd rfl (by (first | exact Or.inl rfl | exact Or.inr rfl))<|xo (fF CH (pv 6) (pv 5)<|dF _) (bI jO (pv 4) bJ) bJ)<|aG (bK (i:=5) Vb.nd rfl (by (first | exact Or.inl rfl | exact Or.inr rfl))<|pv 6)<|bA<|gO (fF CH (pv 4) (Ak rfl T.VB)<|dF _) (aG (mF<|hX U hr.mn rO (pv 3)<|bC<|pv 6)<|bA<|bK (i:=4) Vb.nd rfl (by (first | exact Or.inl rfl | exact Or.inr rfl)) bJ) CV)<|aG (PS.UA<|mF<|hX J hr.mn eX (pv 3)<|bC<|Ak rfl T.U5)<|aG (PS.UA<|mF<|hX J hr.mn eX (pv 3)<|bC<|Ak rfl T.U7)<|bA<|PS.UA<|cL<|vH L8 rfl T.UT P4<|bC<|kL (pv 3) rfl),?_];walk_at "r";intro jn dj aj b2 b5;have ao:upd H dj (.own jn) jn=Zi:=by rw[aO<|Pe b5];exact aj
 have s1:aC H<|upd (upd H dj<|.own jn) jn<|.ins Ce dj []:=(bO b2 _).trans<|bO ao _;refine#[jn,dj,c.a,al,ar,ls,rs,rfl,aU,s1 _ _ aw,s1 _ _ au,λsd la ra tk pc H2 k2 b1 b4 b6 aq ay js=>#[rfl,?_]];have u2:aC H H2:=λb o h=>k2 b o (bE h aj)<|s1 _ _ h;have b3:=st.mono u2;have fH:∀{b:OS},upd (upd H dj<|.own jn) jn (.ins Ce dj []) b=Zi->H b=Zi:=λh=>s1.free h;have nx:NX c jn sd la ra tk pc:=#[#[st.off aj,st.off<|fH b1,st.off<|fH b4,st.off<|fH b6,st.off<|fH aq,st.off<|fH ay]]
 have ax:∀{H':Hp},Fr [c.a,c.lg,c.tl,tk,pc] H2 H'->Fr c.S H H':=λf b o n h=>f b o (λz=>by
  rcases bY.mp z with z|z
  .exact n (by rw[z];exact aZ)
  rcases bY.mp z with z|z
  .exact n (by rw[z];exact bF _ aZ)
  rcases bY.mp z with z|z
  .exact n (by rw[z];exact bF _<|bF _ aZ)
  rcases bY.mp z with z|z
  .exact bE h (fH aq) z
  .exact bE h (fH ay) (cI.mp z))<|u2 _ _ h
 refine AU (λm σ H'=>L2.X8 λ(i j w n:Nat) (s:Bool) (v6:Option V) (dn:List Nat) (pr':List A3)=>m=(ls.length-i)+(rs.length-j)/\σ=[Zh<|.ref c.a,Zh<|.ref al,Zh<|.ref ar,Zh<|.ref jn,Zh<|.int w,Zh<|.int<|sv s,v6]/\i<=ls.length/\j<=rs.length/\dn.length=i+j/\(ls.length-i)+(rs.length-j)<=n/\Fr [c.a,c.lg,c.tl,tk,pc] H2 H'/\aH Cb (aF.mk Cc Ca) E H' c pr'/\JS Ce H' Zj jn c.a sd la ra tk pc ls rs i j dn/\c.W (vy n s w (ls.drop i) (rs.drop j) dn) pr' post) ⟨_,0,0,0,_,Zj,_,[],pr,rfl,rfl,cQ _,cQ _,rfl,aN _,.refl,b3,js,w⟩ ?_;rintro m σ H' ⟨i,j,w,n,s,v6,dn,pr',rfl,rfl,hi,hj,b8,hn,fr,s',ac,hw⟩;walk_at "r";apply HN<|¬ (i<ls.length/\j<rs.length)
 .intro ag;refine ac.hj.Ux (by walk_at "l") #[Zj,jn,c.a,sd,la,ra,tk,pc,ls,rs,i,j,dn,rfl,ac,?_];refine jZ ?_;by_cases Xw:i<ls.length
  .rw [decide_eq_true Xw,Z9 rfl];refine ac.hj.Ux (by walk_at "l") #[Zk,jn,c.a,sd,ra,la,tk,pc,rs,ls,j,i,dn,rfl,ac.swap,?_];refine jZ ?_;by_cases Xv:j<rs.length
   .rw [decide_eq_true Xv,Z9 rfl];refine AS ?_;walk_at "r";have hx:=bV Xw;have hy:=bV Xv;generalize ls[i]=x at hx;generalize rs[j]=y at hy;obtain⟨n,rfl⟩:∃n',n=n'+1:=#[n-1,∅]
    rw[Gp hx,Gp hy,vy] at hw;refine ac.hj.Ux (by walk_at "l") #[c,pr',jn,sd,la,ra,tk,pc,ls,rs,dn,i,j,x,y,_,post,rfl,s',ac,nx,hx,hy,hk,∅,∅,hw,λb H3 pr3 f3 s3 aa w3=>?_];walk_at "r";apply Jb λ(k:Int)=>k=((if b=s then w+1 else 1:Nat):Int)
    .intro ae;by_cases hs:sv b=sv s
     .rw [Z9 hs];obtain⟨k,av⟩:∃k:Int,k=w+1:=#[_,rfl]
      rw[<- av];refine ae k ?_;rw[av,Z9<|EI hs];rfl
     .rw [Z8 hs];refine ae 1 ?_;rw[Z8 λz=>hs<|by rw[z]];rfl
    rintro k rfl
    skip
    generalize (if b=s then w+1 else 1:Nat)=w' at w3;have ah:(dn++[if b then x else y]).length=dn.length+1:=by rw[aQ];rfl
    by_cases h4:w'=4
    .rw [Z9<|∅];rw[Z9 h4] at w3;cases b
     .rw [Z8<|by decide] at w3;refine aa.hj.Ux (by walk_at "l") #[c,pr3,jn,sd,ra,la,tk,pc,Zk,rs,ls,_,j+1,i,x,_,rfl,s3,aa.swap,nx.swap,hx,∅,hk,by rw[ah];lia,w3.bind,λk H4 af f4 s4 az Z w4=>?_];have el:(rs.drop<|j+1).length=rs.length-(j+1):=gP ..;have ed:rs.drop (j+1+k)=(rs.drop<|j+1).drop k:=by rw[Sz]
      by_cases hz:j+1+k<rs.length
      .rw [Z9 hz,Z9 hz] at Z;rw[Z9<|∅] at w4;exact#[(ls.length-(i+1))+(rs.length-(j+1+k)),∅,i+1,j+1+k,0,n,Zk,_,_,af,rfl,rfl,∅,∅,by simp;lia,∅,(fr.trans f3).trans f4,s4,Z.swap,by rw[ed];simpa using w4]
      .rw [Z8 hz,Z8 hz,iG] at Z;rw[Z8<|∅] at w4;exact#[(ls.length-i)+(rs.length-(j+1+k)),∅,i,j+1+k,0,n,Zk,_,_,af,rfl,rfl,∅,∅,by simp;lia,∅,(fr.trans f3).trans f4,s4,Z.swap,by rw[ed,Gp hx];simpa using w4]
     .rw [Z9 rfl] at w3;refine aa.hj.Ux (by walk_at "l") #[c,pr3,jn,sd,la,ra,tk,pc,Zj,ls,rs,_,i+1,j,y,_,rfl,s3,aa,nx,hy,∅,hk,by rw[ah];lia,w3.bind,λk H4 af f4 s4 az Z w4=>?_];have el:(ls.drop<|i+1).length=ls.length-(i+1):=gP ..;have ed:ls.drop (i+1+k)=(ls.drop<|i+1).drop k:=by rw[Sz]
      by_cases hz:i+1+k<ls.length
      .rw [Z9 hz,Z9 hz] at Z;rw[Z9<|∅] at w4;exact#[(ls.length-(i+1+k))+(rs.length-(j+1)),∅,i+1+k,j+1,0,n,Zj,_,_,af,rfl,rfl,∅,∅,by simp;lia,∅,(fr.trans f3).trans f4,s4,Z,by rw[ed];simpa using w4]
      .rw [Z8 hz,Z8 hz,iG] at Z;rw[Z8<|∅] at w4;exact#[(ls.length-(i+1+k))+(rs.length-j),∅,i+1+k,j,0,n,Zj,_,_,af,rfl,rfl,∅,∅,by simp;lia,∅,(fr.trans f3).trans f4,s4,Z,by rw[ed,Gp hy];simpa using w4]
    .rw [Z8<|∅];rw[Z8 h4] at w3;cases b
     .rw [Z8<|by decide] at w3;exact#[(ls.length-i)+(rs.length-(j+1)),∅,i,j+1,w',n,Zk,_,_,pr3,rfl,rfl,∅,∅,by rw[ah];lia,∅,fr.trans f3,s3,aa,by rw[Gp hx];exact w3]
     .rw [Z9 rfl] at w3;exact#[(ls.length-(i+1))+(rs.length-j),∅,i+1,j,w',n,Zj,_,_,pr3,rfl,rfl,∅,∅,by rw[ah];lia,∅,fr.trans f3,s3,aa,by rw[Gp hy];exact w3]
   .rw [decide_eq_false Xv,Z8<|by decide];exact ag λz=>Xv z.2
  .rw [decide_eq_false Xw,Z8<|by decide];exact ag λz=>Xw z.1
 intro ap;have am:post (dn++ls.drop i++rs.drop j) pr':=y8 ap hi hj hw;refine ac.hj.Ux (by walk_at "l") #[Zj,jn,c.a,sd,la,ra,tk,pc,ls,rs,i,j,dn,rfl,ac,hi,∅,λH3 f3 aa=>?_];have s3:=s'.VR ac nx f3;refine aa.hj.Ux (by walk_at "l") #[Zk,jn,c.a,sd,ra,la,tk,pc,rs,ls,j,ls.length,_,rfl,aa.swap,hj,by rw[aQ,gP];lia,λH4 f4 Z=>?_];have s4:=s3.VR aa nx f4;refine Z.hj.get T.De T.Nu (by walk_at "l") #[pc,_,rfl,.inl<|aB.of Z.WG,λl hl=>?_];have as:Fr [c.a,c.lg,c.tl,tk,pc] H2 H4:=(fr.trans<|wK f3).trans<|wK f4;exact q l _ _ pr' ((ax as).trans (bO hl _).fr) (s4.free (ax as) hl) aU (s4.mono<|bO hl _) am
theorem NU(F:aS K "grade" "grade" Lz f fd)
 :aI P w K mg base aP 1 f fd ["many","first","middle","beyond"]<|lF:=by
 refine F.ok Vu nofun λaa A outer s H vs Q E hr h=>?_
 have ac:=Vu.nd;refine' #[_,(aG ?_<|aG ?_<|aG ?_<|aG (AR Ud (fF CH (bI qU ?_ ?_) (bI qU ?_ ?_)<|dF _) ?_) ?_),?_];walk_at "d";obtain⟨m,a,b,c,rfl,h1,hm,ha,Z,O,z,q⟩:=h;walk_at "r";refine#[.inl #[by decide,by decide],.inl #[by decide,by decide],?_];refine AU (λn σ H'=>∃p:Nat,n=240-p/\H'=H/\σ=[Zh<|.int m,Zh<|.int a,Zh<|.int b,Zh<|.int c,Zh<|.int<|(a+b)*2^p,Zh<|.int<|(b+c)*2^p,Zh<|.int p]/\1<=p/\p<=240/\∀r,1<=r->r<p->Gr.qt m (a+b) r=Gr.qt m (b+c) r) ⟨_,1,rfl,rfl,?_,aN _,by decide,λr h1 h2=>∅⟩ ?_
 .rw [Int.pow_one,Int.mul_comm<|a+b,Int.mul_comm<|b+c];rfl
 rintro n σ H' ⟨p,rfl,rfl,rfl,J,U,hq⟩;walk_at "r";refine#[.inl #[by decide,by decide],#[∅,∅],.inl #[by decide,by decide],#[∅,∅],?_];split
 .rename_i he;have ad:p<240:=by
   rcases Nat.lt_or_ge p 240 with l|l
   .exact l
   .exact absurd he (Gr.qt_ne ∅ ∅<|E1 hm l)
  refine AS ?_;walk_at "r";refine#[.inl #[by decide,by decide],.inl #[by decide,by decide],?_];walk_at "r";refine#[_,?_,p+1,rfl,?_,∅,∅,λr h1 h2=>?_]
  .lia
  .rw [dbl,dbl];rfl
  .rcases Nat.lt_or_ge r p with l|l
   .exact hq r h1 l
   .obtain rfl:r=p:=∅
    exact he
 .rename_i he;exact q p #[J,hq,he] U
theorem Ow(F:dS K "__init__" "Pile.__init__" Mu f fd dv)
  (Z:Mt P w K mg base aP Cb "many" 1 ["self"]<|dB Cb)
 :aI P w K mg base aP 2 f fd ["self","asker","least","part"]<|eO Cb Cd:=by
 refine F.ok pO nofun λaw A outer s H vs Q E hr h=>?_
 refine' bM 4 (aG ?_ ?_) λ_ dZ _=>bM 3 (aG ?_ dZ) λ_ dZ _=>#[_,(aG ?_<|aG ?_<|aG ?_ dZ),?_]
 walk_at "d";obtain⟨x,dx,a,ls,s,e,pz,rfl,hx,ad,q⟩:=h;walk_at "r";refine cR hx T.Da T.Nw (by decide) λH2 x2 k2=>?_;walk_at "r";refine cR x2 T.Da T.Nz Ig λH3 x3 k3=>?_;walk_at "r";have u3:∀b o,b≠x->H b=Zh o->H3 b=Zh o:=λb o n h=>by rw[k3 b n,k2 b n];exact h
 apply Jb λH4:Hp=>H4 x=Zh (.ins Cd dx<|aL "start" (.int s)<|aL "least" (.int ls)<|aL "asker" (.ref a) [])/\∀b,b≠x->H4 b=H3 b
 .intro J;rcases ad with ⟨pt,hz,O⟩|⟨hz,aq,as,rl,ru,m,n,tl,us,ha,ac,ap⟩
  .rw [Z8<|by rw[hz];simp];have af:∀{Q':VK},Q' (.int s) H3->qD K pz (.int 0) H3 Q':=λh=>by rw[hz];exact iI (cH.of<|u3 _ _ (λz=>by rw[z,hx] at O;cases O) O) (dE (by decide) rfl) h
   exact af<|cR x3 T.Da T.Ng G0 λH4 x4 k4=>J H4 #[x4,k4]
  .rw [Z9 hz];exact cR x3 T.Da T.Ng G0 λH4 x4 k4=>J H4 #[by rw[aq];exact x4,k4]
 rintro H4 ⟨x4,k4⟩;refine bN ?_;walk_at "r";have u4:∀b o,b≠x->H b=Zh o->H4 b=Zh o:=λb o n h=>by rw[k4 b n];exact u3 b o n h
 apply Jb λH5:Hp=>H5 x=Zh (.ins Cd dx<|aL "end" (.int e)<|aL "start" (.int s)<|aL "least" (.int ls)<|aL "asker" (.ref a) [])/\∀b,b≠x->H5 b=H4 b
 .intro J;rcases ad with ⟨pt,hz,O⟩|⟨hz,aq,as,rl,ru,m,n,tl,us,ha,ac,ap⟩
  .rw [Z8<|by rw[hz];simp];have af:∀{Q':VK},Q' (.int e) H4->qD K pz (.int 1) H4 Q':=λh=>by rw[hz];exact iI (cH.of<|u4 _ _ (λz=>by rw[z,hx] at O;cases O) O) (dE (by decide) rfl) h
   exact af<|cR x4 T.Da T.Nj G1 λH5 x5 k5=>J H5 #[x5,k5]
  .rw [Z9 hz];have av:rl≠x:=λz=>by rw[z,hx] at ac;cases ac
   have am:bD H4 a Cb<|fA rl ru m n tl:=let ⟨d1,f1,e1,e2,e3⟩:=ha.ex;#[d1,f1,u4 _ _ as e1,e2,e3]
   refine am.Ux (by walk_at "l") #[a,rl,ru,tl,m,n,us,rfl,am,u4 _ _ av ac,?_];rw[ap];exact cR x4 T.Da T.Nj G1 λH5 x5 k5=>J H5 #[x5,k5]
 clear ad;rintro H5 ⟨x5,k5⟩;have u5:∀b o,b≠x->H b=Zh o->H5 b=Zh o:=λb o n h=>by rw[k5 b n];exact u4 b o n h
 clear u3 u4 k2 k3 k4 k5 x2 x3 x4;refine bN ?_;walk_at "r";refine uY x5 T.Da T.Ng (by simp only[mH,lkc];walk_at "l") ?_;refine cR x5 T.Da T.Nk Jd λH6 x6 k6=>?_;walk_at "r";refine#[cQ _,λfs ag=>?_];obtain⟨H7,e7,s7,h7⟩:=aJ ag<|.lst [];rw[e7];clear e7;refine cR (s7 _ _ x6) T.Da T.Nc yD λH8 x8 k8=>?_;walk_at "r";refine#[cQ _,λod ae=>?_];obtain⟨H9,e9,s9,h9⟩:=aJ ae<|.lst [];rw[e9];clear e9;refine cR (s9 _ _ x8) T.Da T.Na HJ λHA xA kA=>?_;walk_at "r";refine#[cQ _,λgr U=>?_];obtain⟨HB,eB,sB,hB⟩:=aJ U<|.lst [];rw[eB];clear eB;refine cR (sB _ _ xA) T.Da T.No HI λHC xC kC=>?_;have aa:fs≠x:=Pe<|bE x6 ag;have ah:od≠x:=Pe<|bE x8 ae;have ao:gr≠x:=Pe<|bE xA U;have h8:H8 fs=Zh (.lst []):=by rw[k8 fs aa];exact h7
 have aj:HA fs=Zh (.lst []):=by rw[kA fs aa];exact s9 _ _ h8
 have ai:HA od=Zh (.lst []):=by rw[kA od ah];exact h9
 have f6:∀b,b≠x->H6 b=Zi->H b=Zi:=λb n e=>by
  cases eb:H b with
  |none=>rfl
  |some o=>have:=u5 b o n eb;rw[k6 b n,this] at e;cases e
 have f8:∀b,b≠x->H8 b=Zi->H b=Zi:=λb n e=>f6 b n (s7.free<|by rw[<- k8 b n];exact e);have au:∀b,b≠x->HA b=Zi->H b=Zi:=λb n e=>f8 b n (s9.free<|by rw[<- kA b n];exact e);refine q fs od gr HC (λb o n h=>?_) (f6 fs aa ag) (f8 od ah ae) (au gr ao U) #[(bD.of xC<|dJ HH<|by decide).congr λf=>by simp only[mH,lkc],by rw[kC fs aa];exact sB _ _ aj,by rw[kC od ah];exact sB _ _ ai,by rw[kC gr ao];exact hB,trivial,#[bE h8 ae,bE aj U,bE ai U],λb hb=>by cases hb];rw[kC b n];refine sB _ _ ?_;rw[kA b n];refine s9 _ _ ?_;rw[k8 b n];refine s7 _ _ ?_;rw[k6 b n];exact u5 b o n h
theorem NO(F:aS K "beyond_of" "Pile.beyond_of" MH f fd)
 :aI P w K mg base aP 1 f fd ["self","number"]<|eQ Cd:=by
 refine F.ok iU nofun λJ A outer s H vs Q E O h=>?_
 refine' #[_,(bA ?_),?_];walk_at "d";obtain⟨x,a,fs,od,gr,ls,s,e,r,oa,A,p,B,gs,rfl,z,q⟩:=h;walk_at "r";refine z.hp.get T.Da T.Nc (by walk_at "l") #[fs,_,rfl,.inl<|aB.of z.V7,?_];rw[aM,aM,aQ,cF];cases B with
 |nil=>
  rw[Z8<|by rw[r6];lia];exact z.hp.get T.Da T.Nk (by walk_at "l") q
 |cons p2 B=>
  rw[Z9<|by rw[cF];lia];refine z.hp.get T.Da T.Nc (by walk_at "l") ?_;rw[show(A.length:Int)+1=((A.length+1:Nat):Int) by lia];exact dQ (aB.of z.V7) (rW<|by rw[eJ,IA];rfl) q
theorem OO(F:aS K "is_due_beneath" "Pile.is_due_beneath" MO f fd)
 :aI P w K mg base aP 1 f fd ["self"]<|ue Cd:=by
 refine F.ok eS nofun λU A outer s H vs Q E Z h=>?_
 refine' #[_,(bA ?_),?_];walk_at "d";obtain⟨x,a,fs,od,gr,ls,s,e,r,oa,ps,gs,rfl,J,q⟩:=h;walk_at "r";refine J.hp.get T.Da T.No (by walk_at "l") #[gr,_,rfl,.inl<|aB.of J.WQ,?_];rw[aM];by_cases h2:2<=gs.length
 .rw [Z9<|∅];obtain⟨G,g1,z,rfl⟩:=xy h2;have O:=J.WQ;rw[show nL (G++[g1,z])=nL G++[.int (g1:Nat),.int (z:Nat)] by unfold nL;rw[cU];rfl] at O;refine J.hp.get T.Da T.No (by walk_at "l")<|dQ (aB.of O) FV ?_;refine J.hp.get T.Da T.No (by walk_at "l") ?_;rw[show nL G++[V.int (g1:Nat),V.int (z:Nat)]=(nL G++[.int (g1:Nat)])++[.int (z:Nat)] by rw[fL];rfl] at O;refine dQ (aB.of O) Ac<|CO ?_;rw[zL] at q;have e:decide ((z:Int)<g1)=decide (z<g1):=by rw[decide_eq_decide];lia
  rw[<- e] at q;exact q
 .rw [Z8<|∅];rw[Cu<|∅] at q;exact q
theorem NM(F:aS K "grade_on_top" "Pile.grade_on_top" MN f fd)
  (J:Fn P w K mg base aP "grade" 1 ["many","first","middle","beyond"]<|lF)
 :aI P w K mg base aP 2 f fd ["self","middle","beyond"]<|lC Cd:=by
 refine F.ok gB nofun λU A outer s H vs Q E hr h=>?_
 refine' #[_,(bA ?_),?_];walk_at "d";obtain⟨x,a,fs,od,gr,ls,s,e,r,oa,A,p,gs,m,b,rfl,z,h1,h2,h3,Z,h5,q⟩:=h;walk_at "r";have O:=z.V7;rw[cU,show nL (A.map PU++[p].map PU)=nL (A.map PU)++[.int (p.1:Nat)] by unfold nL;rw[cU];rfl] at O;refine z.hp.get T.Da T.Nj (by walk_at "l")<|z.hp.get T.Da T.Ng (by walk_at "l")<|CO ?_;refine z.hp.get T.Da T.Nc (by walk_at "l")<|dQ (aB.of O) Ac<|z.hp.get T.Da T.Ng (by walk_at "l")<|CO ?_;refine z.hp.get T.Da T.Ng (by walk_at "l")<|CO<|z.hp.get T.Da T.Ng (by walk_at "l")<|CO ?_;exact#[_,_,_,_,rfl,∅,∅,∅,∅,∅,∅,q]
theorem Op(F:aS K "join_two" "Pile.join_two" MC f fd)
  (ac:Fn P w K mg base (aK P w) "joined" 6 ["asker","left","right"]<|cV Cb<|aF.mk Cc Ca)
  (J:Mt P w K mg base aP Cd "beyond_of" 1 ["self","number"]<|eQ Cd)
 :aI P w K mg base (aK P w) 7 f fd ["self","lower"]<|eP Cb (aF.mk Cc Ca) Cd:=by
 refine F.UY cK nofun λbj A outer s H vs Q E hr h=>?_
 refine' bM 2 (aG (PS.UA<|Il (pv 2)<|KC (kL (pv 0) rfl) (pv 1) Lu)<|aG (PS.UA<|mF<|rV Pk R8 R7 Lm (kL (pv 0) rfl)<|bC<|bI jO (pv 1) bJ)<|aG (PS.UA<|mF<|rV Pk R8 R7 Lm (kL (pv 0) rfl)<|bC<|bI jO (pv 1) bJ)<|aG (PS.UA<|mF<|rV Pk R8 R7 Lm (kL (pv 0) rfl)<|bC<|pv 1)<|bA<|PS.UA<|cL<|pv 3) λ_ dZ _=>bM 1 (aG (PS.UA<|bK (i:=3) cK.nd rfl (by (first | exact Or.inl rfl | exact Or.inr rfl))<|qe<|Aj KA<|jE (dW bQ (kL (pv 0) rfl) (pv 1) λ_ _=>rfl) (dW bQ (kL (pv 0) rfl) (bI jO (pv 1) bJ) λ_ _=>rfl)<|hX J hr.mn eX (pv 0)<|bC<|bI jO (pv 1) bJ) dZ) λ_ dZ _=>#[_,(aG (bK (i:=2) cK.nd rfl (by (first | exact Or.inl rfl | exact Or.inr rfl))<|iE ac hr.mn rfl jG ?_) dZ),?_]
 walk_at "d";obtain⟨c,pr,x,fs,od,gr,ls,s,e,i,r,oa,ps,gs,post,rfl,st,Z,px,pw,hi,he,hk,w,q⟩:=h;walk_at "r";obtain⟨A,p1,p2,B,rfl,rfl,e3,e4⟩:=rE hi;obtain⟨U,o1⟩:=p1;obtain⟨v2,o2⟩:=p2;unfold GR at w;dsimp only at w;rw[e3,e4] at w;dsimp only at w;obtain⟨O,b1,b2,OB,rfl,aa,b4,bc,b7,b8⟩:=Z.WA.two;obtain⟨mm,c1,c2,c3,c4,c5,c6⟩:=Cl.app.mp pw.cl;dsimp only at c2 c3 c4 c5 c6;have l1:=c1.le.1;have l6:=c6.le.1;have av:=pw.re;have ad:=pw.gl;dsimp only at l6 av ad;rw[aQ,cF,cF] at ad;replace ad:A.length<gs.length:=∅
 have bn:(O.map V.ref).length<=500:=by rw[aM,aa];lia
 have m1:b1∈O++b1::b2::OB:=fN _ aZ;have m2:b2∈O++b1::b2::OB:=fN _<|bF _ aZ;refine Z.hp.get T.Da T.Nw (by walk_at "l")<|Z.hp.get T.Da T.Na (by walk_at "l")<|dQ (aB.of Z.V6) (rM (b:=b1) (by rw[<- aa];exact JC ..)) ?_;refine Z.hp.get T.Da T.Na (by walk_at "l") ?_;rw[show(A.length:Int)+1=((A.length+1:Nat):Int) by lia];refine dQ (aB.of Z.V6) (rM (b:=b2) (by rw[<- aa];exact IA ..)) ?_;refine#[c,pr,b1,b2,o1,o2,_,rfl,st,bc,b7,hk,∅,(w.bind).UU<|rb o1 o2,λl H1 o pr1 af ae b9 b5 hp=>?_];obtain⟨bi,hp⟩:=hp;have bC:=Z.Xn px af;refine bN ?_;walk_at "r";refine bC.hp.get T.Da T.Nc (by walk_at "l")<|dQ (aB.of bC.V7) (rW (o:=U)<|by rw[eJ,JC];rfl) ?_;refine bC.hp.get T.Da T.Nc (by walk_at "l") ?_;rw[show(A.length:Int)+1=((A.length+1:Nat):Int) by lia];refine dQ (aB.of bC.V7) (rW (o:=v2)<|by rw[eJ,IA];rfl) ?_;refine bC.hp.Ux (by walk_at "l") #[x,c.a,fs,od,gr,ls,s,e,r,_,A++[(U,o1)],(v2,o2),B,gs,by rw[aQ];rfl,by rw[fL];exact bC,?_];refine#[cP<|by decide,λt ht=>?_];obtain⟨H2,e2,s2,h2⟩:=aJ ht<|.tup [.str "join",.int (U:Nat),.int (v2:Nat),.int (bB B r:Nat)];rw[e2];clear e2;have cG:=bC.mono s2;have ba:=b5.mono s2;refine bN ?_;walk_at "r";have ag:=cG.xl;have bf:x≠fs:=λz=>ag (by rw[z];exact aZ);have aw:x≠od:=λz=>ag (by rw[z];exact bF _ aZ);have bh:x≠gr:=λz=>ag (by rw[z];exact bF _<|bF _ aZ);obtain⟨ap,am,ai⟩:=Z.ne;refine cG.hp.get T.Da T.Na (by walk_at "l") #[od,_,_,_,rfl,rfl,cG.V6,Kz ∅<|by rw[aM,aQ,cF];lia,?_];rw[Int.toNat_natCast,cU,iK,iK,show A.length=(O.map V.ref).length by rw[aM,aa],Bm];have bd:bD (upd H2 od<|.lst<|O.map V.ref++.ref l::.ref b2::OB.map V.ref) x Cd<|AD c.a ls s e r fs od gr:=cG.hp.keep<|aO aw;refine bd.get T.Da T.Na (by walk_at "l") ?_;walk_at "r";refine#[.inl #[rfl,_,aB.of aU],od,_,_,(O.map V.ref).length+1,_,rfl,rfl,aU,∅,∅,?_,IA ..,?_]
 .rw [show((O.map V.ref).length:Int)+1=(((O.map V.ref).length+1:Nat):Int) by lia];exact Q4 ∅<|by rw[aQ,cF,cF];lia
 rw[ve,tQ];have ao:bD (upd H2 od<|.lst<|O.map V.ref++.ref l::OB.map V.ref) x Cd<|AD c.a ls s e r fs od gr:=cG.hp.keep<|aO aw;have b0:upd H2 od (.lst<|O.map V.ref++.ref l::OB.map V.ref) fs=Zh (.lst<|nL (A.map PU)++.int (U:Nat)::.int (v2:Nat)::nL (B.map PU)):=by
  rw[aO ap,cG.V7,cU];unfold nL;rw[cU];rfl
 have la:(nL<|A.map PU).length=(O.map V.ref).length:=by rw[aM,aM,aM,aa]
 refine ao.get T.Da T.Nc (by walk_at "l") ?_;walk_at "r";refine#[.inl #[rfl,_,aB.of b0],fs,_,_,(nL<|A.map PU).length+1,_,rfl,rfl,b0,∅,∅,?_,IA ..,?_]
 .rw [<- la,show((nL<|A.map PU).length:Int)+1=(((nL<|A.map PU).length+1:Nat):Int) by lia];exact Q4 ∅<|by rw[aQ,cF,cF];lia
 rw[ve];have aq:bD (upd (upd H2 od<|.lst<|O.map V.ref++.ref l::OB.map V.ref) fs<|.lst<|nL (A.map PU)++.int (U:Nat)::nL (B.map PU)) x Cd<|AD c.a ls s e r fs od gr:=ao.keep<|aO bf;have as:upd (upd H2 od<|.lst<|O.map V.ref++.ref l::OB.map V.ref) fs (.lst<|nL (A.map PU)++.int (U:Nat)::nL (B.map PU)) gr=Zh (.lst<|nL gs):=by rw[aO<|Pe am,aO<|Pe ai];exact cG.WQ
 refine aq.get T.Da T.No (by walk_at "l") ?_;walk_at "r";refine#[.inl #[rfl,_,aB.of as],gr,_,_,A.length,.int (gs[A.length]:Nat),rfl,rfl,as,∅,∅,?_,by rw[eJ,bV ad];rfl,?_]
 .rw [show(O.map V.ref).length=A.length by rw[aM,aa]];exact Q4 ∅<|by rw[aM];lia
 rw[FK];have F3:Fr [fs,od,gr] H2<|upd (upd (upd H2 od<|.lst<|O.map V.ref++.ref l::OB.map V.ref) fs<|.lst<|nL (A.map PU)++.int (U:Nat)::nL (B.map PU)) gr<|.lst<|nL<|gs.eraseIdx A.length:=((Fr.upd<|bF _ aZ).trans<|Fr.upd aZ).trans<|Fr.upd<|bF _<|bF _ aZ;have az:bD (upd (upd (upd H2 od<|.lst<|O.map V.ref++.ref l::OB.map V.ref) fs<|.lst<|nL (A.map PU)++.int (U:Nat)::nL (B.map PU)) gr<|.lst<|nL<|gs.eraseIdx A.length) x Cd<|AD c.a ls s e r fs od gr:=aq.keep<|aO bh;have ax:(upd (upd (upd H2 od<|.lst<|O.map V.ref++.ref l::OB.map V.ref) fs<|.lst<|nL (A.map PU)++.int (U:Nat)::nL (B.map PU)) gr<|.lst<|nL<|gs.eraseIdx A.length) fs=Zh (.lst<|nL (A.map PU)++.int (U:Nat)::nL (B.map PU)):=by rw[aO am,aU]
 have ay:(upd (upd (upd H2 od<|.lst<|O.map V.ref++.ref l::OB.map V.ref) fs<|.lst<|nL (A.map PU)++.int (U:Nat)::nL (B.map PU)) gr<|.lst<|nL<|gs.eraseIdx A.length) od=Zh (.lst<|O.map V.ref++.ref l::OB.map V.ref):=by rw[aO ai,aO<|Pe ap,aU]
 have au:(upd (upd (upd H2 od<|.lst<|O.map V.ref++.ref l::OB.map V.ref) fs<|.lst<|nL (A.map PU)++.int (U:Nat)::nL (B.map PU)) gr<|.lst<|nL<|gs.eraseIdx A.length) gr=Zh (.lst<|nL<|gs.eraseIdx A.length):=aU;generalize (upd (upd (upd H2 od<|.lst<|O.map V.ref++.ref l::OB.map V.ref) fs<|.lst<|nL (A.map PU)++.int (U:Nat)::nL (B.map PU)) gr<|.lst<|nL<|gs.eraseIdx A.length)=H3 at F3 az ax ay au⊢;have aj:l∉[fs,od,gr]:=λz=>by obtain⟨y,hy⟩:=Z.VT l z;rw[hy] at ae;cases ae
 have bo:t∉[fs,od,gr]:=λz=>by obtain⟨y,hy⟩:=bC.VT t z;rw[hy] at ht;cases ht
 have ah:∀b∈O++l::OB,b∉[fs,od,gr]/\b∉c.A/\(b∈O++b1::b2::OB∨H b=Zi):=λb hb=>by
  rcases gZ.mp hb with z|z
  .have m:=mC (b1::b2::OB) z;exact#[Z.nb b m,px.n2 b m,.inl m]
  rcases bY.mp z with z|z
  .rw [z];exact#[aj,st.off ae,.inr ae]
  .have m:b∈O++b1::b2::OB:=fN _<|bF _<|bF _ z;exact#[Z.nb b m,px.n2 b m,.inl m]
 have kp:∀b∈O++b1::b2::OB,∀o,H b=Zh o->H3 b=Zh o:=λb hb o h=>F3 _ _ (Z.nb b hb)<|s2 _ _<|af _ _ (Ad.SA<|px.n2 b hb) h;have b3:H3 fs=Zh (.lst<|nL<|(A++(U,o)::B).map PU):=by rw[ax,cU];unfold nL;rw[cU];rfl
 have bg:H3 od=Zh (.lst<|(O++l::OB).map V.ref):=by rw[ay,cU];rfl
 have b6:bG H3 (O++l::OB)<|A++(U,o)::B:=(b4.keep λb hb=>kp b<|mC _ hb).app ⟨F3 _ _ aj<|s2 _ _ b9,b8.keep λb hb=>kp b<|fN _<|bF _<|bF _ hb⟩;have be:PW s e #[r,A++(U,o)::B,gs.eraseIdx A.length]:=by
  refine#[Cl.app.mpr #[mm,c1,c2,by dsimp only;lia,?_],av,?_]<;>dsimp only
  .rw [bi,<- Nat.add_assoc];exact c6
  .have:=pw.gl;dsimp only at this;rw[List.length_eraseIdx,Z9 ad,this];simp
 refine q t H3 #[r,A++(U,o)::B,gs.eraseIdx A.length] (O++l::OB) pr1 #[λb o n h=>?_,λb hb=>(ah b hb).2.2,#[az,b3,bg,au,b6,Z.ne,λb hb=>(ah b hb).1],#[px.n1,λb hb=>(ah b hb).2.1],ba.three cG px F3,be] rfl (by simp;lia) hp;refine F3 _ _ (λz=>n<|bF _ ?_)<|s2 _ _<|af _ _ (λz=>n<|bF _<|bF _<|bF _<|bF _ z) h;exact mC [c.a,c.lg,c.tl] z
theorem Ov(F:aS K "lay" "Pile.lay" LO f fd)
  (ad:Fn P w K mg base (aK P w) "filled" 5 ["asker","first","least","end"]<|lG Cb<|aF.mk Cc Ca)
  (J:Mt P w K mg base aP Cd "grade_on_top" 2 ["self","middle","beyond"]<|lC Cd)
 :aI P w K mg base (aK P w) 6 f fd ["self"]<|pH Cb (aF.mk Cc Ca) Cd:=by
 refine F.UY dP nofun λbx A outer s H vs Q E hr h=>?_
 refine' bM 4 (aG (PS.UA<|mF<|rV Pk P9 P8 Gs (kL (pv 0) rfl)<|bC<|pv 1)<|aG (PS.UA<|mF<|rV Pk P9 P8 Gs (kL (pv 0) rfl)<|bC<|dW bQ (pv 2) bJ λ_ _=>rfl)<|aG (PS.UA<|CM (pv 0) (pv 3) rfl)<|bA<|PS.UA<|cL<|qe<|Aj KA<|jE (pv 1) (dW bQ (pv 2) bJ λ_ _=>rfl)<|pv 3) λ_ dZ _=>bM 3 (aG (PS.UA<|gO (yE<|kL (pv 0) rfl) (bA<|mF<|rV Pk P9 P8 Gs (kL (pv 0) rfl)<|bC<|hX J hr.mn eX (pv 0)<|cG (pv 1)<|pv 3) CV) dZ) λ_ dZ _=>bM 2 (aG (PS.UA<|bK (i:=3) dP.nd rfl (by (first | exact Or.inl rfl | exact Or.inr rfl))<|bI jO (pv 1)<|gE oY rfl T.UD PF<|bC<|dW bQ (pv 2) bJ λ_ _=>rfl) dZ) λ_ dZ _=>#[_,(aG (PS.UA<|bK (i:=1) dP.nd rfl (by (first | exact Or.inl rfl | exact Or.inr rfl))<|kL (pv 0) rfl)<|aG (bK (i:=2) dP.nd rfl (by (first | exact Or.inl rfl | exact Or.inr rfl))<|iE ad hr.mn rfl jG ?_) dZ),?_]
 walk_at "d";obtain⟨c,pr,x,fs,od,gr,ls,s,e,r,oa,ps,gs,post,rfl,st,pa,px,pw,ao,he,hk,w,q⟩:=h;walk_at "r";have bg:=pw.re;have ae:=pw.gl;have b7:=pw.cl.le.1;dsimp only at bg ae b7;unfold B3 at w;refine pa.hp.get T.Da T.Nk (by walk_at "l")<|pa.hp.get T.Da T.Nw (by walk_at "l")<|pa.hp.get T.Da T.Nz (by walk_at "l")<|pa.hp.get T.Da T.Nj (by walk_at "l") ?_;refine#[c,pr,r,ls,e,_,rfl,st,hk,ao,∅,(w.bind).UU<|wN ao,λt ol H1 fj pr1 au ac bd ht as hp=>?_];obtain⟨⟨b0,bo⟩,hp⟩:=hp;obtain⟨j,os⟩:=fj;dsimp only at b0 bo ht as hp;have bC:=pa.Xn px au;obtain⟨v3,b8⟩:∃v3,v3=r+os.length:=#[_,rfl]
 rw[<- b8] at hp;refine bN ?_;walk_at "r";refine iI (cH.of ht) (dE (by decide) rfl) #[ol,_,rfl,.inl<|aB.of as,?_];rw[aM];walk_at "r";rw[show(r:Int)+(os.length:Int)=(v3:Nat) by lia];refine bN ?_;walk_at "r";have aq:t∉[fs,od,gr]:=λz=>by obtain⟨y,hy⟩:=bC.VT t z;rw[hy] at ht;cases ht
 have af:ol∉[fs,od,gr]:=λz=>by obtain⟨y,hy⟩:=pa.VT ol z;rw[hy] at ac;cases ac
 apply Jb λX:Hp=>aV Cd X x c.a fs od gr ls s e r oa ps (if ps.isEmpty then gs else gs++[grd (e-s) (xD ps-s) (r-s)<|v3-s])/\Fr [fs,od,gr] H1 X
 .intro ai;refine bC.hp.get T.Da T.Nc (by walk_at "l") #[fs,_,rfl,aB.of bC.V7,?_];by_cases U:ps≠[]
  .obtain ⟨A,p,rfl⟩:∃A p,ps=A++[p]:=#[ps.dropLast,ps.getLast U,(List.dropLast_concat_getLast _).symm]
   rw[Z9<|by simp];obtain⟨m,c1,c2,c3,c5⟩:=Cl.app.mp pw.cl;have c5:m+p.2.length=r:=c5;have bw:=c1.le.1;rw[aQ,fM] at ae b7;refine bC.hp.get T.Da T.No (by walk_at "l") ?_;walk_at "r";refine#[.inl #[rfl,_,aB.of bC.WQ],bC.hp.Ux (by walk_at "l") #[x,c.a,fs,od,gr,ls,s,e,r,oa,A,p,gs,r,v3,rfl,bC,∅,∅,∅,∅,∅,λgg bi bv=>?_]];refine#[gr,_,_,rfl,rfl,bC.WQ,vI<|by rw[aM];lia,?_];have F:Fr [fs,od,gr] H1<|upd H1 gr<|.lst<|nL gs++[.int (gg:Nat)]:=Fr.upd<|bF _<|bF _ aZ;have P:aV Cd (upd H1 gr<|.lst<|nL gs++[.int (gg:Nat)]) x c.a fs od gr ls s e r oa (A++[p])<|gs++[gg]:=#[xc F bC.xl bC.hp,by rw[aO bC.ne.2.1];exact bC.V7,by rw[aO bC.ne.2.2];exact bC.V6,by rw[aU];unfold nL;rw[cU];rfl,bC.WA.keep λb hb o h=>F _ _ (bC.nb b hb) h,bC.ne,bC.nb]
   generalize upd H1 gr (.lst<|nL gs++[.int (gg:Nat)])=X at F P⊢;refine ai X #[?_,F];rw[Z8 (by simp),show xD (A++[p])=p.1 by unfold xD;simp,FC (a:=p.1-s) (b:=r-s) (c:=v3-s) (n:=e-s) bi ∅ ∅<|∅];exact P
  .have U:ps=[]:=QL U;rw[Z8<|by rw[U];simp];refine ai H1 #[?_,.refl];rw[U] at bC⊢;exact bC
 rintro X ⟨O,FX⟩;obtain⟨ah,av⟩:∃ah,ah=(if ps.isEmpty then gs else gs++[grd (e-s) (xD ps-s) (r-s)<|v3-s]):=#[_,rfl]
 rw[<- av] at O hp;have ay:=FX _ _ aq ht;have b1:=FX _ _ af as;have bu:=O.WA.len;have am:=O.xl;have bq:x≠fs:=λz=>am (by rw[z];exact aZ);have bh:x≠od:=λz=>am (by rw[z];exact bF _ aZ);have bz:x≠gr:=λz=>am (by rw[z];exact bF _<|bF _ aZ);obtain⟨az,bc,ba⟩:=O.ne;refine bN ?_;walk_at "r";refine O.hp.get T.Da T.Nc (by walk_at "l") ?_;walk_at "r";refine#[.inl #[rfl,_,aB.of O.V7],fs,_,_,rfl,rfl,O.V7,vI<|by rw[aM,aM];lia,?_];obtain⟨us,b4⟩:∃us,nL (ps.map PU)++[.int (r:Nat)]=us:=#[_,rfl]
 rw[b4];have b2:bD (upd X fs<|.lst us) x Cd<|AD c.a ls s e r fs od gr:=O.hp.keep<|aO bq;have aj:upd X fs (.lst us) od=Zh (.lst<|oa.map V.ref):=by rw[aO<|Pe az];exact O.V6
 refine b2.get T.Da T.Na (by walk_at "l") ?_;walk_at "r";refine#[.inl #[rfl,_,aB.of aj],iI (cH.of<|by rw[aO λz=>aq<|by rw[z];exact aZ];exact ay) (dE (by decide) rfl) #[od,_,_,rfl,rfl,aj,vI<|by rw[aM];lia,?_]];have F2:Fr [fs,od,gr] X<|upd (upd X fs<|.lst us) od<|.lst<|oa.map V.ref++[.ref ol]:=(Fr.upd aZ).trans<|Fr.upd<|bF _ aZ;have ag:bD (upd (upd X fs<|.lst us) od<|.lst<|oa.map V.ref++[.ref ol]) x Cd<|AD c.a ls s e r fs od gr:=b2.keep<|aO bh;have b9:(upd (upd X fs<|.lst us) od<|.lst<|oa.map V.ref++[.ref ol]) fs=Zh (.lst us):=by rw[aO az,aU]
 have ax:(upd (upd X fs<|.lst us) od<|.lst<|oa.map V.ref++[.ref ol]) od=Zh (.lst<|oa.map V.ref++[.ref ol]):=aU;have aw:(upd (upd X fs<|.lst us) od<|.lst<|oa.map V.ref++[.ref ol]) gr=Zh (.lst<|nL ah):=by rw[aO<|Pe ba,aO<|Pe bc];exact O.WQ
 generalize (upd (upd X fs<|.lst us) od<|.lst<|oa.map V.ref++[.ref ol])=Y at F2 ag b9 ax aw⊢;refine ag.set T.Da T.Nk (λZ be kZ=>?_) #[_,by walk_at "l"];have aa:∀{b:OS} {us:List V},Y b=Zh (.lst us)->Z b=Zh (.lst us):=fun {b us} h=>by rw[kZ b<|ag.ne h λ_ _ _ z=>by cases z];exact h
 have b6:=F2 _ _ aq ay;have bt:Z t=Zh (.tup [.int (j:Nat),.ref ol]):=by rw[kZ t<|ag.ne b6 λ_ _ _ z=>by cases z];exact b6
 walk_at "r";refine iI (cH.of bt) (dE (by decide) rfl) #[cP<|by decide,λt2 bj=>?_];obtain⟨W,eW,sW,hW⟩:=aJ bj<|.tup [.str "lay",.int (r:Nat),.int (j:Nat),.int (v3:Nat)];rw[eW];clear eW;have FY:Fr [fs,od,gr] H1 Y:=FX.trans F2;have ap:∀b∈oa++[ol],b∉[fs,od,gr]/\b∉c.A/\(b∈oa∨H b=Zi):=λb hb=>by
  rcases gZ.mp hb with z|z
  .exact #[pa.nb b z,px.n2 b z,.inl z]
  .rw [cI.mp z];exact#[af,st.off ac,.inr ac]
 have b5:bG W (oa++[ol])<|ps++[(r,os)]:=by
  refine bG.app ?_ #[sW _ _<|aa<|F2 _ _ af b1,trivial];refine O.WA.keep λb hb o h=>sW _ _ ?_;obtain⟨i,hi⟩:=Sy hb;obtain⟨p',_,b3⟩:=O.WA.get hi;have e1:o=.lst (nL p'.2):=OX<|h.symm.trans b3;rw[e1];exact aa<|F2 _ _ (O.nb b hb) b3
 obtain⟨dx,fl,br,_,_⟩:=ag.ex;have bn:=bd.three bC px FY;have bf:aH Cb (aF.mk Cc Ca) E Z c pr1:=bn.apart (S:=[x]) (λb o n h=>by rw[kZ b λz=>n<|by rw[z];exact aZ];exact h) (λb hb=>by rw[cI.mp hb];exact .inr<|.inl #[_,_,_,br]) λb hb=>by rw[cI.mp hb];exact px.n1.1
 have bp:PW s e #[v3,ps++[(r,os)],ah]:=by
  refine#[Cl.app.mpr #[r,pw.cl,rfl,b0,b8.symm],by dsimp only;lia,?_];dsimp only;rw[aQ,fM,av];cases U:ps with
  |nil=>rw[U] at ae;simpa using ae
  |cons p ps'=>rw[U] at ae;simp at ae⊢;lia
 refine q t2 W #[v3,ps++[(r,os)],ah] (oa++[ol]) pr1 #[λb o n h=>?_,λb hb=>(ap b hb).2.2,#[?_,?_,?_,?_,b5,O.ne,λb hb=>(ap b hb).1],#[px.n1,λb hb=>(ap b hb).2.1],bf.mono sW,bp] (by dsimp only;lia) (by simp) hp
 .refine sW _ _ ?_;rw[kZ b λz=>n<|by rw[z];exact aZ];refine FY _ _ (λz=>n<|bF _<|mC [c.a,c.lg,c.tl] z)<|au _ _ (λz=>n<|bF _<|bF _<|bF _<|bF _ z) h
 .exact (be.congr rB).mono sW
 .refine sW _ _ (aa ?_);rw[b9,<- b4,cU];unfold nL;rw[cU];rfl
 .refine sW _ _ (aa ?_);rw[ax,cU];rfl
 .exact sW _ _ (aa aw)
theorem Oz(F:aS K "step" "Pile.step" Mv f fd)
  (J:Mt P w K mg base aP Cd "is_due_beneath" 1 ["self"]<|ue Cd)
  (z:Mt P w K mg base (aK P w) Cd "join_two" 7 ["self","lower"]<|eP Cb (aF.mk Cc Ca) Cd)
  (U:Mt P w K mg base (aK P w) Cd "lay" 6 ["self"]<|pH Cb (aF.mk Cc Ca) Cd)
 :aI P w K mg base (aK P w) 8 f fd ["self"]<|lA Cb (aF.mk Cc Ca) Cd:=by
 refine F.UY pN nofun λae A outer s H vs Q E hr h=>?_
 refine' #[_,(aG (gO ?_ (bA<|cL<|hX z hr.mn jG ?_ ?_) ?_)<|aG (gO ?_ (bA<|cL<|pX U hr.mn jG ?_) ?_)<|aG (gO ?_ (bA<|cL<|hX z hr.mn jG ?_ ?_) ?_)<|bA<|PS.UA<|cL AI),?_];walk_at "d";obtain⟨c,pr,x,fs,od,gr,ls,s,e,r,oa,ps,gs,post,rfl,st,O,px,Z,he,hk,w,q0,q⟩:=h;walk_at "r";have af:=O.WA.len;have ac:=Z.gl;have aa:=Z.cl.le.1;have ad:=Z.re;dsimp only at ac aa ad;unfold Ii at w;dsimp only at w;refine O.hp.Ux (by walk_at "l") #[x,c.a,fs,od,gr,ls,s,e,r,oa,ps,gs,rfl,O,jZ ?_];cases hd:mW gs with
 |true=>
  rw[Z9 rfl];rw[Z9 hd] at w;have h2:=Lh hd;refine O.hp.Ux (by walk_at "l")<|O.hp.get T.Da T.Na (by walk_at "l") #[od,_,rfl,.inl<|aB.of O.V6,?_];refine#[c,pr,x,fs,od,gr,ls,s,e,ps.length-3,r,oa,ps,gs,post,?_,st,O,px,Z,∅,he,hk,w,λt H' t' oa' pr' lf e1 e2 hp=>?_]
  .rw [aM];congr 3;lia
  .exact q t H' t' oa' pr' lf ∅ hp
 |false=>
  rw[Z8<|by decide];rw[Z8<|by rw[hd];decide] at w;refine O.hp.get T.Da T.Nk (by walk_at "l")<|O.hp.get T.Da T.Nj (by walk_at "l")<|CO<|jZ ?_;by_cases UI:r<e
  .rw [Z9<|decide_eq_true<|∅];rw[Z9 UI] at w;refine O.hp.Ux (by walk_at "l") #[c,pr,x,fs,od,gr,ls,s,e,r,oa,ps,gs,post,rfl,st,O,px,Z,UI,he,hk,w,λt H' t' oa' pr' lf e1 e2 hp=>?_];have:=lf.2.2.2.2.2.re;exact q t H' t' oa' pr' lf ∅ hp
  .rw [Z8<|by simp;lia];rw[Z8 UI] at w;refine O.hp.get T.Da T.Na (by walk_at "l") #[od,_,rfl,.inl<|aB.of O.V6,?_];rw[aM];by_cases h2:1<ps.length
   .rw [Z9<|∅];rw[Z9 h2] at w;refine O.hp.Ux (by walk_at "l")<|O.hp.get T.Da T.Na (by walk_at "l") #[od,_,rfl,.inl<|aB.of O.V6,?_];refine#[c,pr,x,fs,od,gr,ls,s,e,ps.length-2,r,oa,ps,gs,post,?_,st,O,px,Z,∅,he,hk,w,λt H' t' oa' pr' lf e1 e2 hp=>?_]
    .rw [aM];congr 3;lia
    .exact q t H' t' oa' pr' lf ∅ hp
   .rw [Z8<|∅];rw[Z8 h2] at w;exact q0 w
theorem OE(F:aS K "paper" "Pile.paper" Mf f fd)
 :aI P w K mg base aP 1 f fd ["self"]<|lB Cd:=by
 refine F.ok hJ nofun λah A outer s H vs Q E hr h=>?_
 have ai:=hJ.nd;refine' #[_,(aG ?_<|aG ?_<|bA<|cL<|bI AG ?_<|vH (Mn rfl) rfl T.UT P4<|bC<|vH oK rfl T.UC RG ?_),?_];walk_at "d";obtain⟨x,a,fs,od,gr,ls,s,e,r,oa,ps,gs,rfl,J,aa,af,he,q⟩:=h;walk_at "r";refine#[cQ _,λp hp=>?_];obtain⟨H1,e1,s1,h1⟩:=aJ hp<|.lst [];rw[e1];clear e1;have bC:=J.mono s1;have ad:=J.WA.len;refine bC.hp.get T.Da T.Na (by walk_at "l") ?_;refine KW (aB.of bC.V6) (λi σ X=>∃v2,σ=[Zh<|.ref x,Zh<|.ref p,v2]/\aC H X/\X p=Zh (.lst<|nL<|flt<|ps.take i)) ⟨_,rfl,s1,h1⟩ (λi σ X _ zz=>by obtain⟨_,_,z,_⟩:=zz;exact aB.of<|z _ _ J.V6) ?_ ?_
 .rintro i y σ X O ⟨v2,rfl,z,Z⟩;obtain⟨b,hb,rfl⟩:∃b,oa[i]?=Zh b/\y=.ref b:=by
   rw[eJ] at O;cases hz:oa[i]? with
   |none=>rw[hz] at O;cases O
   |some b=>rw[hz] at O;exact#[b,rfl,(OX O).symm]
  obtain⟨p1,g1,g2⟩:=J.WA.get hb;have e1:flt (ps.take<|i+1)=flt (ps.take i)++p1.2:=by
   rw[Rb,g1,va];congr 1;unfold flt;simp
  have ag:(flt<|ps.take i).length+p1.2.length<=500:=by
   have e2:flt ps=flt (ps.take<|i+1)++flt (ps.drop<|i+1):=by rw[<- va,qf]
   rw[e2,e1,aQ,aQ] at aa;lia
  walk_at "r";refine#[.inl #[rfl,_,aB.of Z],p,b,_,_,rfl,rfl,Z,z _ _ g2,cP<|by rw[aM,aM];lia,?_];refine#[_,rfl,z.upd hp,?_];rw[aU,e1];unfold nL;rw[cU]
 rintro σ X ⟨v2,rfl,z,Z⟩;rw[aM,ad,R4] at Z;walk_at "r";have U:=J.mono z;refine U.hp.get T.Da T.Nk (by walk_at "l")<|U.hp.get T.Da T.Nj (by walk_at "l") #[_,_,rfl,λp2 ac=>?_];obtain⟨H3,e3,s3,h3⟩:=aJ ac<|.rng r e;rw[e3];clear e3;refine#[p2,r,e,rfl,h3,∅,λl2 ae=>?_];rw[LC];obtain⟨H4,e4,s4,h4⟩:=aJ ae<|.lst<|nL<|Pz r<|e-r;rw[e4];clear e4;refine#[p,l2,_,_,rfl,rfl,s4 _ _<|s3 _ _ Z,h4,cP<|by rw[aM,aM,C9];lia,λl hl=>?_];refine q l _ (z.trans<|s3.trans<|s4.new hl) ((z.trans<|s3.trans s4).free hl) ?_;rw[aU];unfold nL;rw[cU]
theorem Og(F:dS K "by_pile" "by_pile" LD f fd dv)
  (J:Mt P w K mg base aP Cd "paper" 1 ["self"]<|lB Cd)
  (O:Mt P w K mg base (aK P w) Cd "step" 8 ["self"]<|lA Cb (aF.mk Cc Ca) Cd)
  (aa:Kl P w K mg base aP "Pile" Cd 2 ["self","asker","least","part"]<|eO Cb Cd)
 :aI P w K mg base (aK P w) 9 f fd ["asker","least","part"]<|cX Cb<|aF.mk Cc Ca:=by
 refine F.UY Vt nofun λax A outer s H vs Q E hr h=>?_
 obtain⟨c,pr,ls,s,e,pt,post,rfl,st,ac,ai,he,hk,w,q⟩:=h;refine#[_,(aG (PS.UA<|bK (i:=3) Vt.nd rfl (by (first | exact Or.inl rfl | exact Or.inr rfl))<|GZ aa hr.mn rfl eX<|jE (pv 0) (pv 1)<|pv 2)<|aG (PS.VC<|AR (tG #[rfl,rfl]) (fF uK (pX O hr.mn rO<|pv 3) AI<|dF _)<|bA<|BC)<|bA<|PS.UA<|cL<|pX J hr.mn eX<|pv 3),?_];walk_at "r";intro x dx hx aq am;have aw:upd H dx (.own x) x=Zi:=by rw[aO<|Pe am];exact hx
 have U:aC H<|upd (upd H dx<|.own x) x<|.ins Cd dx []:=(bO aq _).trans<|bO aw _;have hB:(upd (upd H dx<|.own x) x<|.ins Cd dx []) x=Zh (.ins Cd dx []):=aU;generalize upd (upd H dx<|.own x) x (.ins Cd dx [])=HB at U hB⊢;have as:(∃b,pt=.ref b/\HB b=Zh (.tup [.int s,.int e]))∨(pt=.Uy/\s=0/\c.a≠x/\∃rl ru m n tl xs,bD HB c.a Cb (fA rl ru m n tl)/\HB rl=Zh (.lst xs)/\xs.length=e):=by
  rcases ac with ⟨b,h1,h2⟩|⟨h1,h2,h3⟩
  .exact .inl #[b,h1,U _ _ h2]
  .exact .inr #[h1,h2,Pe<|st.ha.neN hx,c.rl,c.ru,_,_,c.tl,c.xs,(st.mono U).ha,U _ _ st.VZ,by rw[st.len,h3]]
 clear ac;refine#[x,dx,c.a,ls,s,e,pt,rfl,hB,as,λfs od gr HC kC ag aj af ap=>#[rfl,?_]];have kA:aC H HC:=λb o h=>kC b o (bE h hx)<|U _ _ h;have px:AV c x fs od gr []:=#[#[st.off hx,st.off<|U.free ag,st.off<|U.free aj,st.off<|U.free af],λb hb=>by cases hb]
 walk_at "r";refine AU (λn σ X=>L2.X4 λ(t:PS) (m:Nat) (oa:List OS) (pr':List A3)=>n=2*(e-t.r)+t.ps.length/\σ=[Zh<|.ref c.a,Zh<|.int ls,Zh pt,Zh<|.ref x]/\2*(e-t.r)+t.ps.length<m/\PW s e t/\aV Cd X x c.a fs od gr ls s e t.r oa t.ps t.gs/\AV c x fs od gr oa/\aH Cb (aF.mk Cc Ca) E X c pr'/\c.W (Jc grd ls s e m t) pr' post/\Fr [x,fs,od,gr,c.a,c.lg,c.tl] HC X) ⟨_,⟨s,[],[]⟩,_,[],pr,rfl,rfl,by simp,⟨rfl,ai,rfl⟩,ap,px,st.mono kA,w,.refl⟩ ?_;rintro n σ X ⟨t,m,oa,pr',rfl,rfl,hm,pw,pa,ao,ad,wX,fX⟩;obtain⟨m,rfl⟩:∃m',m=m'+1:=#[m-1,∅]
 obtain⟨r,ps,gs⟩:=t;dsimp only at hm pa;have ae:=pw.cl.le;have ah:=pw.re;dsimp only at ae ah;have fin:∀{Z:Hp},aC X Z->Fr c.S H Z:=fun {Z} sZ b o n h=>sZ _ _<|fX _ _ (λz=>by
  rcases bY.mp z with z|z
  .exact bE h hx z
  rcases bY.mp z with z|z
  .exact bE h (U.free ag) z
  rcases bY.mp z with z|z
  .exact bE h (U.free aj) z
  rcases bY.mp z with z|z
  .exact bE h (U.free af) z
  .exact n z)<|kA _ _ h
 walk_at "r";refine pa.hp.Ux (by walk_at "l") #[c,pr',x,fs,od,gr,ls,s,e,r,oa,ps,gs,_,rfl,ad,pa,ao,pw,he,hk,wX.bind,λhp=>?_,λt2 Y t' oa' pr2 lf au hp=>?_]
 .refine pa.hp.Ux (by walk_at "l") #[x,c.a,fs,od,gr,ls,s,e,r,oa,ps,gs,rfl,pa,by rw[ae.2];lia,ah,he,λl Z sZ av hl=>?_];exact q l Z _ pr' (fin sZ) (ad.free (fin<|.refl _) av) hl (ad.mono sZ) (by rw[aQ,ae.2,C9];lia) hp
 .refine AS ?_;walk_at "r";obtain⟨f1,f2,f4,f5,f6,f7⟩:=lf;exact#[_,au,t',m,oa',pr2,rfl,∅,f7,f4,f5,f6,hp,fX.trans f1]
theorem NP{n:Nat}(F:aS K "meetings_of" "meetings_of" ML f fd)
  (J:Fn P w K mg base aP "meetings_of" n ["first","beyond"]<|bW n)
 :aI P w K mg base aP (n+1) f fd ["first","beyond"]<|bW<|n+1:=by
 refine F.ok Vz nofun λav A outer s H vs Q E hr h=>?_
 have aw:=Vz.nd;refine' #[_,(aG ?_<|aG ?_<|bA<|cL<|bI AG (bI AG (iE J (hr.mono<|aN _) rfl eX ?_)<|iE J (hr.mono<|aN _) rfl eX ?_) ?_),?_];walk_at "d";obtain⟨f,b,rfl,aj,ai,aq,U,q⟩:=h;walk_at "r";by_cases UI:(b:Int)-f<2
 .rw [Z9 UI];refine#[cQ _,λl hl=>q l _ [] (bO hl _) hl aU ?_];rw[Po.cC<|∅];exact dI.nil
 rw[Z8 UI];refine#[#[by decide,by decide],?_];have hm:=Po.cD (f:=f) (b:=b) ∅;have em:(f:Int)+((b:Int)-f+1)/2=((Po.mid f b:Nat):Int):=by unfold Po.mid;lia
 rw[em];have am:2^(n+1-1)=2^n:=by rw[Ta]
 rw[am] at U;obtain⟨k,rfl⟩:∃k,n=k+1:=#[n-1,by
  cases n with
  |zero=>rw[Nat.pow_zero] at U;lia
  |succ n=>rfl]
 rw[Nat.pow_succ] at U;refine#[f,Po.mid f b,rfl,∅,∅,∅,by rw[Ta];unfold Po.mid at*;lia,λl1 H1 aa s1 as ap af=>?_];refine#[Po.mid f b,b,rfl,∅,∅,∅,by rw[Ta];unfold Po.mid at*;lia,λl2 H2 Z s2 au ao ae=>?_];have ac:=af.len;have ad:=ae.len;rw[Po.eU] at ac ad;refine#[l1,l2,aa,Z,rfl,rfl,s2 _ _ ap,ao,cP<|∅,λl3 ag=>?_];obtain⟨H3,e3,s3,h3⟩:=aJ ag<|.lst<|aa++Z;rw[e3];clear e3;refine#[cP<|by decide,λt ht=>?_];obtain⟨H4,e4,s4,h4⟩:=aJ ht<|.tup [.int (f:Int),.int ((Po.mid f b:Nat):Int),.int (b:Int)];rw[e4];clear e4;refine#[cP<|by decide,λl4 ah=>?_];obtain⟨H5,e5,s5,h5⟩:=aJ ah<|.lst [.ref t];rw[e5];clear e5;refine#[l3,l4,_,_,rfl,rfl,s5 _ _<|s4 _ _ h3,h5,cP<|by rw[aQ,fM];lia,λl6 O=>?_];have S5:=s1.trans<|s2.trans<|s3.trans<|s4.trans s5;refine q l6 _ _ (S5.trans<|bO O _) (S5.free O) aU ?_;rw[Po.bT<|∅];have up:∀t x,H5 t=Zh (.tup x)->upd H5 l6 (.lst<|aa++Z++[.ref t]) t=Zh (.tup x):=λt x h=>bO O _ _ _ h;exact((af.keep λ_ _ z=>bO O _ _ _<|s5 _ _<|s4 _ _<|s3 _ _<|s2 _ _ z).app<|ae.keep λ_ _ z=>bO O _ _ _<|s5 _ _<|s4 _ _<|s3 _ _ z).app<|dI.one<|bO O _ _ _<|s5 _ _ h4
theorem O4(F:aS K "front_of" "Pour.front_of" MD f fd)
 :aI P w K mg base aP 1 f fd ["self","piece","taken"]<|cJ Zk Cf:=by
 refine F.ok eI nofun λU A outer s H vs Q E hr h=>?_
 have aa:=eI.nd;refine' #[_,(aG ?_ ?_),?_];walk_at "d";obtain⟨p,ak,pl,tk,ml,wd,pls,pcs,i,t,xs,rfl,z,hx,q⟩:=h;walk_at "r";obtain⟨l,el,hl⟩:=z.at hx;have hl:H l=Zh (.lst<|nL xs):=hl;refine z.hp.get T.Dg T.N6 (by walk_at "l")<|dQ (aB.of z.VV) (dE (v:=.ref l) ∅<|by rw[Int.toNat_natCast,eJ,el];rfl) ?_;walk_at "r";refine#[l,_,rfl,.inl<|aB.of hl,?_];rw[aM];by_cases UI:(t:Int)<xs.length
 .rw [Z9 UI];have Z:t<xs.length:=∅
  have O:xs[t]?=Zh xs[t]:=bV Z;refine dQ (aB.of hl) (Kt O) #[cP<|by decide,λr J=>q _ _ (bO J _) ?_];unfold front;rw[O];exact#[r,rfl,aU]
 .rw [Z8 UI];refine q _ _ (.refl _) ?_;unfold front;rw[r9<|∅];rfl
theorem OM(F:aS K "front_of" "LastPour.front_of" MS f fd)
 :aI P w K mg base aP 1 f fd ["self","piece","taken"]<|cJ Zj Cg:=by
 refine F.ok cN nofun λU A outer s H vs Q E hr h=>?_
 have aa:=cN.nd;refine' #[_,(aG ?_ ?_),?_];walk_at "d";obtain⟨p,ak,pl,tk,ml,wd,pls,pcs,i,t,xs,rfl,z,hx,q⟩:=h;walk_at "r";obtain⟨l,el,hl⟩:=z.at hx;have hl:H l=Zh (.lst<|nL xs.reverse):=hl;refine z.hp.get T.Dh T.N3 (by walk_at "l")<|dQ (aB.of z.VV) (dE (v:=.ref l) ∅<|by rw[Int.toNat_natCast,eJ,el];rfl) ?_;walk_at "r";refine#[l,_,rfl,.inl<|aB.of hl,?_];rw[aM,GG];by_cases UI:(t:Int)<xs.length
 .rw [Z9 UI];have Z:t<xs.length:=∅
  have O:xs[t]?=Zh xs[t]:=bV Z;have e2:xs.reverse[xs.length-1-t]?=Zh xs[t]:=by
   rw[List.getElem?_reverse<|∅,show xs.length-1-(xs.length-1-t)=t by lia];exact O
  refine#[l,_,rfl,.inl<|aB.of hl,?_];rw[aM,GG,show(xs.length:Int)-1-t=((xs.length-1-t:Nat):Int) by lia];refine dQ (aB.of hl) (Kt e2) #[cP<|by decide,λr J=>q _ _ (bO J _) ?_];unfold front;rw[O];exact#[r,rfl,aU]
 .rw [Z8 UI];refine q _ _ (.refl _) ?_;unfold front;rw[r9<|∅];rfl
theorem OA(F:aS K "goes_on" "Pour.goes_on" My f fd)
  (z:Mt P w K mg base (aK P w) Cb "ahead" 3 ["self","p","q"]<|bL Cb Cc Ca mG)
 :aI P w K mg base (aK P w) 4 f fd ["self","p","q"]<|cW Cb (aF.mk Cc Ca) Zk Cf:=by
 refine F.UY kG nofun λU A outer s H vs Q E Z h=>?_
 refine' #[_,(bA<|cL<|hX z Z.mn jG ?_ ?_),?_];walk_at "d";obtain⟨c,pr,p,pl,tk,ml,wd,x,y,k,post,rfl,st,J,O,w,q⟩:=h;walk_at "r";exact J.get T.Dg T.N4 (by walk_at "l")<|st.ha.Ux (by walk_at "l")<|aH.ahead st O w q
theorem Ox(F:aS K "goes_on" "LastPour.goes_on" MQ f fd)
  (J:Mt P w K mg base (aK P w) Cb "ahead" 3 ["self","p","q"]<|bL Cb Cc Ca mG)
 :aI P w K mg base (aK P w) 4 f fd ["self","p","q"]<|cW Cb (aF.mk Cc Ca) Zj Cg:=by
 refine F.UY gS nofun λaa A outer s H vs Q E hr h=>?_
 refine' #[_,(bA<|cL<|yK<|hX J hr.mn jG ?_ ?_),?_];walk_at "d";obtain⟨c,pr,p,pl,tk,ml,wd,x,y,k,post,rfl,st,O,Z,w,q⟩:=h;walk_at "r";refine O.get T.Dh T.N5 (by walk_at "l")<|st.ha.Ux (by walk_at "l") ?_;obtain⟨h1,h2,h3,w⟩:=w;have U:(flp Zj pr).length=pr.length:=aM ..;refine aH.Wq st h1 h2 (by rw[U];exact h3) Z ?_;rw[U];refine w.imp id λw=>#[w.1,λH2 f2 s2=>jZ ?_]
 replace w:=w.2;have e:c.XG Zj pr.length (max x y) (min x y)=!c.an 0 (max x y) (min x y):=rfl;rw[e] at w;generalize c.an 0 (max x y) (min x y)=b at w s2⊢;have z:=q _ H2 (pr++[(max x y,min x y,!b)]) f2 (by
  have:flp Zj (pr++[(max x y,min x y,!b)])=flp Zj pr++[(max x y,min x y,b)]:=by
   show List.map _ _=_;rw[cU];cases b<;>rfl
  show aH _ _ _ _ _ (flp Zj _);rw[this];exact s2) w
 by_cases UI:y<x
 .rw [Z9 UI] at z⊢;exact z
 .rw [Z8 UI] at z⊢;exact z
theorem Oh(F:aS K "met" "Pour.met" LP f fd)(TX:C5 K Ck)
  (J:Mt P w K mg base (aK P w) Ck "goes_on" 4 ["self","p","q"]<|cW Cb (aF.mk Cc Ca) bb Ck)
 :aI P w K mg base (aK P w) 5 f fd ["self","one","other"]<|lI Cb (aF.mk Cc Ca) bb Ck:=by
 refine F.UY qw nofun λaa A outer s H vs Q E hr h=>?_
 refine' #[_,(aG (PS.UA<|gO (PW.pt<|DX (fF Gg (pv 1) AI<|dF _)<|Jy<|fF Gg (pv 2) AI<|dF _) (bA<|cL<|xo (fF Gg (pv 1) AI<|dF _) (pv 2)<|pv 1) CV)<|bA<|cL<|xo (vD<|hX J hr.mn jG ?_ ?_) ?_ ?_),?_];walk_at "d";obtain⟨c,pr,p,pl,tk,ml,wd,u1,u2,one,other,post,rfl,st,hp,h1,h2,hk,w,q⟩:=h;walk_at "r";have nn:∀t,V.ref t≠V.Uy:=λ_ z=>by cases z
 cases one with
 |none=>
  cases(show u1=V.Uy from h1);rw[Z9 rfl,Z9 rfl];exact q u2 H other pr .refl st h2 w
 |some x=>
  obtain⟨t1,rfl,O⟩:=h1;rw[Z8<|nn _];cases other with
  |none=>
   cases(show u2=V.Uy from h2);rw[Z9 rfl,Z8<|nn _];exact q _ H (Zh x) pr .refl st #[t1,rfl,O] w
  |some y=>
   obtain⟨t2,rfl,U⟩:=h2;rw[Z8<|nn _];refine hp.Ux (by walk_at "l")<|iI (cH.of O) (dE (by decide) rfl)<|iI (cH.of U) (dE (by decide) rfl) ?_;have w:c.WB bb (U4 x.1 y.1 λb=>.ret<|if b then Zh x else Zh y) pr post:=w;refine#[c,pr,p,pl,tk,ml,wd,x.1,y.1,_,post,rfl,st,hp,hk,w,λb H2 pr2 Z s2 w2=>jZ ?_];cases b
   .rw [Z8<|by decide];exact q _ H2 (Zh y) pr2 Z s2 #[t2,rfl,st.tup Z U] w2
   .rw [Z9 rfl];exact q _ H2 (Zh x) pr2 Z s2 #[t1,rfl,st.tup Z O] w2
theorem Ob(F:aS K "held" "Pour.held" LZ f fd)(TX:C5 K Ck)
  (O:Mt P w K mg base (aK P w) Ck "met" 5 ["self","one","other"]<|lI Cb (aF.mk Cc Ca) bb Ck)
 :aI P w K mg base (aK P w) 6 f fd ["self","meetings","went_on"]<|gL Cb (aF.mk Cc Ca) bb Ck:=by
 refine F.UY cA nofun λbi A outer s H vs Q E hr h=>?_
 obtain⟨c,pr,p,pl,tk,ml,wd,mt,wo,mvs,ms,w0,B,k,kvs,post,rfl,st,hp,np,aq,ah,hM,be,ai,dt,hB,af,hk,w,ag,q⟩:=h;refine#[_,(aG (PS.UA<|bK (i:=3) cA.nd rfl (by (first | exact Or.inl rfl | exact Or.inr rfl))<|vH (lW) rfl T.Wo PyProof.Rows.boot_dict<|bC<|pv 2)<|aG (PS.VC<|D5 (tG #[rfl,rfl]) rfl (CU<|pv 1) (KD (n:=3) rfl<|Hc (kB (i:=4) cA.nd rfl<|by (first | exact Or.inl rfl | exact Or.inr rfl))<|Hc (kB (i:=5) cA.nd rfl<|by (first | exact Or.inl rfl | exact Or.inr rfl))<|Hc (kB (i:=6) cA.nd rfl<|by (first | exact Or.inl rfl | exact Or.inr rfl)) K1)<|bA<|K2 (GU hr) (pv 3) (qe<|cG (pv 4)<|pv 6) (hX O hr.mn rO (pv 0)<|cG (uH (GU hr) (pv 3) (qe<|cG (pv 4)<|pv 5) λ_ _=>rfl)<|uH (GU hr) (pv 3) (qe<|cG (pv 5)<|pv 6) λ_ _=>rfl) rfl)<|bA<|PS.UA<|cL<|pv 3),?_];walk_at "r";refine#[wo,kvs,rfl,dt.hd,dt.sm,λd hd=>?_];obtain⟨H1,e1,s1,h1⟩:=aJ hd<|.dT kvs;rw[e1];clear e1;have b6:DT H1 d w0 B kvs:=#[h1,dt.sm,dt.len,(dt.mono s1).val]
 have ao:=st.off hd;refine KW (aB.of<|s1 _ _ ah) (λi σ X=>L2.X6 λv4 v5 v6 wi kvi pr'=>σ=[Zh<|.ref p,Zh<|.ref mt,Zh<|.ref wo,Zh<|.ref d,v4,v5,v6]/\DT X d wi (B+k*i) kvi/\(k=1∨k=0/\∀m∈ms,(wi m.1 m.2.2).isSome=Zj)/\eY bb Cb (aF.mk Cc Ca) E X c pr'/\Fr c.S H X/\c.WB bb (jY (ms.drop i) wi) pr' post) ⟨_,_,_,w0,kvs,pr,rfl,by rw[Tj];exact b6,af,st.mono s1,s1.fr,w⟩ (λi σ X _ zz=>by obtain⟨_,_,_,_,_,_,_,_,_,_,f,_⟩:=zz;exact aB.of<|f _ _ aq ah) ?_ ?_
 .rintro i x σ X hx ⟨v4,v5,v6,wi,kvi,pr',rfl,U,ad,ae,fi,J⟩;have hi:=(jS.mp hx).1;rw[hM.len] at hi;obtain⟨m,hm⟩:∃m,ms[i]?=Zh m:=#[_,bV hi]
  obtain⟨t,av,b9⟩:=hM.get i m hm;rw[hx] at av;cases av;refine G6 (cH.of<|st.tup fi b9) rfl ?_;walk_at "r";rw[tp hm,jY] at J;have aw:=xc fi np hp;cases e1:wi m.1 m.2.1 with
  |none=>rw[e1] at J;exact absurd J<|ag _
  |some x=>
  cases e2:wi m.2.1 m.2.2 with
  |none=>rw[e1,e2] at J;exact absurd J<|ag _
  |some y=>
   rw[e1,e2] at J;dsimp only at J;obtain⟨u1,b4,b1⟩:=U.val _ _ _ e1;obtain⟨u2,bg,az⟩:=U.val _ _ _ e2;refine aw.Ux (by walk_at "l") #[cP<|by decide,λk1 b7=>?_];obtain⟨X1,au,ap,b5⟩:=aJ b7<|.tup [.int (m.1:Int),.int (m.2.1:Int)];rw[au];clear au;refine#[d,u1,rfl,by have:=lY.t (k:=kQ m.1 m.2.1) (ap _ _ U.hd) b5;rw[b4] at this;exact this,cP<|by decide,λk2 ax=>?_];obtain⟨X2,aj,bf,b0⟩:=aJ ax<|.tup [.int (m.2.1:Int),.int (m.2.2:Int)];rw[aj];clear aj;have S2:=ap.trans bf;refine#[d,u2,rfl,by have:=lY.t (k:=kQ m.2.1 m.2.2) (S2 _ _ U.hd) b0;rw[bg] at this;exact this,?_];have ac:=ae.mono S2;refine#[c,pr',p,pl,tk,ml,wd,u1,u2,x,y,_,rfl,ac,aw.mono S2,b1.keep λ_ _ z=>S2 _ _ z,az.keep λ_ _ z=>S2 _ _ z,hk,J.bind,λu Y v pr2 fY bc ay b3=>#[cP<|by decide,λk3 b2=>?_]];obtain⟨Y2,as,aa,b8⟩:=aJ b2<|.tup [.int (m.1:Int),.int (m.2.2:Int)];rw[as];clear as;have Z:DT Y2 d wi (B+k*i) kvi:=((U.mono S2).fr fY (Ad.SA ao) λt z h=>ac.tupS h (λ_ z=>by cases z) λ_ _ _ z=>by cases z).mono aa;have bh:k*i<=400:=by
    rcases af with rfl|⟨rfl,_⟩
    .lia
    .lia
   refine#[d,_,rfl,tI.t (k:=kQ m.1 m.2.2) Z.hd b8<|vI (by have:=Z.len;lia),?_];have am:=ai m<|jD hm;have bd:k=1∨(wi m.1 m.2.2).isSome=Zj:=by
    rcases ad with z|⟨_,z⟩
    .exact .inl z
    .exact .inr (z m<|jD hm)
   refine#[_,_,_,Po.put wi m.1 m.2.2 v,putK kvi (kQ m.1 m.2.2) u,pr2,rfl,?_,ad.imp id λz=>#[z.1,λm' ba=>ID<|z.2 m' ba],?_,?_,b3]
   .rw [RK,<- Nat.add_assoc];exact Z.put am.1 am.2 (ay.keep λ_ _ z=>aa _ _ z) bd
   .exact (bc.mono aa).apart (S:=[d]) zy (λb hb=>by rw[cI.mp hb];exact .inr<|.inr<|.inl #[_,Z.hd]) λb hb=>by rw[cI.mp hb];exact ao
   .intro b o n hb;rw[aO<|bE hb hd];exact aa _ _<|fY _ _ n<|S2 _ _<|fi _ _ n hb
 rintro σ X ⟨v4,v5,v6,wi,kvi,pr',rfl,U,ad,ae,fi,J⟩;rw[hM.len] at U J;rw[QD<|aN _] at J;walk_at "r";exact q d X wi kvi pr' fi hd U ae J
theorem Od(F:aS K "top" "Pour.top" LQ f fd)(Z:C5 K Ck)
 :aI P w K mg base aP 1 f fd ["self"]<|nK bb Ck:=by
 refine F.ok qv nofun λaa A outer s H vs Q E hr h=>?_
 refine' #[_,(bA<|cL<|rV PySem.F.plainAttrs_dict R9 PySem.F.type_dict_get (BW<|GU hr) ?_ ?_),?_];walk_at "d";obtain⟨p,ak,pl,tk,ml,wd,pls,pcs,w0,B,kvs,top,rfl,O,U,J,q⟩:=h;walk_at "r";refine O.hp.get Z.Dc Z.Nh (by walk_at "l") ?_;walk_at "r";refine#[.inr<|.inr<|.inl #[rfl,.inr #[_,U.hd]],?_];refine O.hp.get Z.Dc Z.Nm (by walk_at "l") ?_;walk_at "r";refine#[pl,_,rfl,.inl<|aB.of O.VV,cP<|by decide,λt ht=>?_];rw[aM,O.len];obtain⟨H1,e1,s1,h1⟩:=aJ ht<|.tup [.int ((0:Nat):Int),.int (pcs.length:Int)];rw[show((0:Nat):Int)=0 from rfl] at e1;rw[e1];clear e1;refine#[wd,_,_,rfl,rfl,lY.t (k:=kQ 0 pcs.length) (s1 _ _ U.hd) h1,?_];rcases J with hv|⟨rfl,rfl⟩
 .obtain ⟨u,hu,fv⟩:=U.val _ _ _ hv;rw[hu];exact q u H1 s1<|fv.keep λ_ _ z=>s1 _ _ z
 .have:kvs=[]:=Az.mp (by have:=U.len;lia);rw[this];exact q _ H1 s1 rfl
theorem Oe(F:aS K "first" "Pour.first" Mg f fd)(TX:C5 K Ck)
  (J:Mt P w K mg base aP Ck "top" 1 ["self"]<|nK bb Ck)
 :aI P w K mg base aP 2 f fd ["self"]<|gM bb Ck:=by
 refine F.ok hG nofun λaa A outer s H vs Q E hr h=>?_
 have ac:=hG.nd;refine' #[_,(aG ?_ ?_),?_];walk_at "d";obtain⟨p,ak,pl,tk,ml,wd,pls,pcs,w0,B,kvs,top,rfl,U,dt,O,q⟩:=h;walk_at "r";refine U.hp.Ux (by walk_at "l") #[p,ak,pl,tk,ml,wd,pls,pcs,w0,B,kvs,top,rfl,U,dt,O,λu H1 s1 Z=>?_];walk_at "r";cases top with
 |none=>
  cases(show u=V.Uy from Z);rw[Z9 rfl];exact q H1 s1
 |some x=>
  obtain⟨t,rfl,ht⟩:=Z;rw[Z8 λz=>by cases z];exact iI (cH.of ht) (dE (by decide) rfl)<|q H1 s1
theorem Oq(F:aS K "left" "Pour.left" L1 f fd)(Z:C5 K Ck)
 :aI P w K mg base aP 1 f fd ["self"]<|pG bb Ck:=by
 refine F.ok pM nofun λac A outer s H vs Q E hr h=>?_
 refine' #[_,(bA<|cL<|bI qd (gE (rK rfl) rfl T.WS PyProof.Rows.boot_sum<|bC<|Ln (js:=[]) (N:=[]) rfl ?_ λ_ _ _ _=>(gE (mY K) rfl T.UD PF<|bC<|pv 0))<|gE (rK rfl) rfl T.WS PyProof.Rows.boot_sum ?_),?_];walk_at "d";obtain⟨p,ak,pl,tk,ml,wd,pls,pcs,ts,rfl,z,UZ,VV,UX,J,O,q⟩:=h;walk_at "r";refine z.hp.get Z.Dc Z.Nm (by walk_at "l") ?_;walk_at "r";refine Ec (aB.of z.VV) (by rw[aM,z.len];lia) (λi ys σ H'=>∃v,σ=[v]/\H'=H/\ys=((pcs.take i).map λxs=>((xs.length:Nat):Int)).map V.int) #[_,rfl,rfl,rfl] (λi ys σ H' _ zz=>by obtain⟨_,_,e,e2⟩:=zz;exact#[by rw[e];exact aB.of z.VV,by rw[e2,aM,aM,iF];lia]) ?_ ?_
 .rintro i ys x σ H' hi hx ⟨v,rfl,rfl,rfl⟩;rw[aM,z.len] at hi;obtain⟨xs,U⟩:∃xs,pcs[i]?=Zh xs:=#[_,bV hi]
  obtain⟨l,el,hl⟩:=z.at U;rw[eJ,el] at hx;cases hx;walk_at "r";refine#[l,_,rfl,.inl<|aB.of hl,?_];refine fG.of (by rw[aM,z.len];exact hi) #[_,rfl,rfl,?_];rw[Rb,U,cU,cU];show _=_++[V.int ((xs.length:Nat):Int)];rw[aM,EO]
 rintro ys σ H' ⟨v,rfl,rfl,rfl⟩ sl aa;rw[aM,z.len,tM<|aN _];obtain⟨H1,e1,s1,h1⟩:=aJ aa<|.lst<|(pcs.map λxs=>((xs.length:Nat):Int)).map V.int;rw[e1];clear e1;refine#[sl,_,rfl,aB.of h1,#[by rw[aM];lia,λx hx=>by
  obtain⟨xs,h2,rfl⟩:=qg.mp hx;have:=J xs h2;lia],?_]
 refine(z.mono s1).hp.get Z.Dc Z.Np (by walk_at "l") ?_;have e2:nL ts=(ts.map λ(n:Nat)=>(n:Int)).map V.int:=by unfold nL;rw[En];rfl
 refine#[tk,_,rfl,aB.of (by rw[<- e2];exact s1 _ _ UZ),#[by rw[aM];lia,λx hx=>by
  obtain⟨t,h2,rfl⟩:=qg.mp hx;have:=O t h2;lia],?_]
 rw[sum_nat,show(pcs.map λxs=>((xs.length:Nat):Int))=(pcs.map PV).map λ(n:Nat)=>(n:Int) by rw[En];rfl,sum_nat];exact q H1 s1
theorem Oc(F:aS K "__init__" "Pour.__init__" L0 f fd)(U:C5 K Ck)
  (Z:Fn P w K mg base aP "meetings_of" 9 ["first","beyond"]<|bW 9)
  (ag:Mt P w K mg base (aK P w) Ck "held" 6 ["self","meetings","went_on"]<|gL Cb (aF.mk Cc Ca) bb Ck)
  (O:Mt P w K mg base aP Ck "front_of" 1 ["self","piece","taken"]<|cJ bb Ck)
 :aI P w K mg base (aK P w) 10 f fd ["self","asker","pieces"]<|bP Cb (aF.mk Cc Ca) bb Ck:=by
 refine F.UY iT nofun λdy A outer s H vs Q E hr h=>?_
 refine' bM 6 (bA<|CM ?_ (hX ag hr.mn jG ?_ ?_) rfl) λ_ dZ _=>bM 4 (aG (PS.UA<|CM (pv 0) yM rfl)<|aG (PS.UA<|D5 Ud rfl (Am rfl T.UC<|bC<|gE oY rfl T.UD PF<|bC<|kL (pv 0) rfl) (kB (i:=3) iT.nd rfl<|by (first | exact Or.inl rfl | exact Or.inr rfl))<|bA<|K2 (GU hr) (kL (pv 0) rfl) (qe<|cG (pv 3)<|bI jO (pv 3) bJ) (hX O hr.mn eX (pv 0)<|cG (pv 3) bJ) rfl) dZ) λ_ dZ _=>bM 3 (aG (PS.UA<|CM (pv 0) (iE Z hr.mn rfl eX<|cG bJ<|gE oY rfl T.UD PF<|bC<|kL (pv 0) rfl) rfl) dZ) λ_ dZ _=>bM 2 (aG (PS.UA<|CM (pv 0) (JG rfl (k:=1) (js:=[]) (N':=["piece"]) (by rfl) (CU<|kL (pv 0) rfl) (λ_ _ _ _=>kB (i:=0) (show(["piece"]:List Pj).Nodup by decide+kernel) rfl<|by (first | exact Or.inl rfl | exact Or.inr rfl)) (λ_ _ _ _=>vG) λ_ _ _ _=>bJ) rfl) dZ) λ_ dZ _=>#[_,(aG (PS.UA<|CM (pv 0) (pv 1) rfl)<|aG (PS.UA<|CM (pv 0) (JG rfl (k:=1) (js:=[]) (N':=["piece"]) (by rfl) (CU<|pv 2) (λ_ _ _ _=>kB (i:=0) (show(["piece"]:List Pj).Nodup by decide+kernel) rfl<|by (first | exact Or.inl rfl | exact Or.inr rfl)) (λ_ _ _ _=>vG) λ_ _ _ _=>(vH (hV K) rfl T.UT P4<|bC<|pv 0)) rfl) dZ),?_]
 walk_at "d";obtain⟨c,pr,x,dx,hl,hls,pcs,post,rfl,hx,st,b1,b6,bn,hn,nx,hk,w,cz,q⟩:=h;walk_at "r";have cp:hl≠x:=λz=>by rw[z,hx] at b1;cases b1
 refine cR hx U.Dc U.N2 (by decide) λH2 x2 k2=>?_;walk_at "r";have ay:∀b o,b≠x->H b=Zh o->H2 b=Zh o:=λb o n e=>by rw[k2 b n];exact e
 have ci:∀(i:Nat) l ys,hls[i]?=Zh l->pcs[i]?=Zh ys->H2 l=Zh (.lst<|nL<|rv bb ys):=λi l ys h1 h2=>by
  have h:=bn i l ys h1 h2;exact ay _ _ (λz=>by rw[z,hx] at h;cases h) h
 refine Ec (aB.of<|ay _ _ cp b1) (by rw[aM];lia) (λi ys σ H'=>L2.X2 λv ns=>σ=[v]/\aC H2 H'/\ys=ns.map V.ref/\ns.length=i/\(∀(j:Nat) l zs,ns[j]?=Zh l->pcs[j]?=Zh zs->H' l=Zh (.lst<|nL<|rv bb zs))/\∀l∈ns,H2 l=Zi) ⟨_,[],rfl,.refl _,rfl,rfl,λj l zs h=>by simp at h,λl h=>by cases h⟩ (λi ys σ H' _ zz=>by obtain⟨_,ns,_,e,e2,e3,_⟩:=zz;exact#[aB.of<|e _ _<|ay _ _ cp b1,by rw[e2,aM];lia]) ?_ ?_
 .rintro i ys u σ H' hi hu ⟨v,ns,rfl,sA,rfl,d6,db,dh⟩;rw[aM] at hi;have dt:i<pcs.length:=∅
  obtain⟨zs,ba⟩:∃zs,pcs[i]?=Zh zs:=#[_,bV dt]
  rw[eJ,bV hi] at hu;cases hu;have de:=sA _ _<|ci i _ zs (bV hi) ba;walk_at "r";refine#[_,_,rfl,.inl<|aB.of de,λl' c4=>?_];refine fG.of (by rw[aM];exact hi) #[_,ns++[l'],rfl,sA.new c4,by rw[cU];rfl,by rw[aQ,d6];rfl,λj l d8 h1 h2=>?_,λl h=>?_]
  .by_cases z:j<ns.length
   .rw [mB z] at h1;exact bO c4 _ _ _<|db j l d8 h1 h2
   .rw [kE<|∅] at h1;cases hk:j-ns.length with
    |zero=>
     rw[hk] at h1;cases h1;rw[show j=i by lia,ba] at h2;cases h2;exact aU
    |succ m=>rw[hk] at h1;simp at h1
  .rcases gZ.mp h with h|h
   .exact dh l h
   .rw [cI.mp h];exact sA.free c4
 rintro ys σ H3 ⟨v,pls,rfl,s3,rfl,be,bj,b8⟩ pl bf;rw[aM] at be;obtain⟨H4,e4,s4,h4⟩:=aJ bf<|.lst<|pls.map V.ref;rw[e4];clear e4;have x4:=s4 _ _<|s3 _ _ x2;have ai:pl≠x:=Pe<|bE (s3 _ _ x2) bf;refine cR x4 U.Dc U.Nm Ig λH5 x5 k5=>?_;walk_at "r";have bg:∀b o,b≠x->H4 b=Zh o->H5 b=Zh o:=λb o n e=>by rw[k5 b n];exact e
 have aa:=bg _ _ ai h4;have af:∀l∈pls,l≠x:=λl h z=>by have:=b8 l h;rw[z,x2] at this;cases this
 have ap:∀(j:Nat) l zs,pls[j]?=Zh l->pcs[j]?=Zh zs->H5 l=Zh (.lst<|nL<|rv bb zs):=λj l zs h1 h2=>bg _ _ (af l<|jD h1)<|s4 _ _<|bj j l zs h1 h2;refine bN ?_;walk_at "r";have i5:bD H5 x Ck [("pieces",.ref pl),("asker",.ref c.a)]:=(bD.of x5<|dJ G0<|by decide).congr λf=>by simp only[mH,lkc]
 refine i5.get U.Dc U.Nm (by walk_at "l") ?_;refine Ec (aB.of aa) (by rw[aM];lia) (λi ys σ H'=>∃v,σ=[v]/\aC H5 H'/\ys=nL (Pp i 0)) #[_,rfl,.refl _,rfl] (λi ys σ H' _ zz=>by obtain⟨_,_,e,e2⟩:=zz;exact#[aB.of<|e _ _ aa,by rw[e2,aM,vR];exact aN _]) ?_ ?_
 .rintro i ys u σ H' hi hu ⟨v,rfl,sA,rfl⟩;walk_at "r";refine fG.of hi #[_,rfl,sA,?_];unfold nL;rw[List.replicate_succ',cU];rfl
 rintro ys σ H6 ⟨v,rfl,s6,rfl⟩ tk aw;rw[aM,be,b6];obtain⟨H7,e7,s7,h7⟩:=aJ aw<|.lst<|nL<|Pp pcs.length 0;rw[e7];clear e7;have x7:=s7 _ _<|s6 _ _ x5;have ao:tk≠x:=Pe<|bE (s6 _ _ x5) aw;refine cR x7 U.Dc U.Np G0 λH8 x8 k8=>?_;walk_at "r";have b0:∀b o,b≠x->H5 b=Zh o->H8 b=Zh o:=λb o n e=>by rw[k8 b n];exact s7 _ _<|s6 _ _ e
 have au:H8 tk=Zh (.lst<|nL<|Pp pcs.length 0):=by rw[k8 tk ao];exact h7
 refine bN ?_;walk_at "r";have i8:bD H8 x Ck [("taken",.ref tk),("pieces",.ref pl),("asker",.ref c.a)]:=(bD.of x8<|dJ G1<|by decide).congr λf=>by simp only[mH,lkc]
 refine i8.get U.Dc U.Nm (by walk_at "l") #[pl,_,rfl,.inl<|aB.of<|b0 _ _ ai aa,?_];rw[aM,be,b6];refine#[0,pcs.length,rfl,cQ _,∅,by decide,dJ (by lia:pcs.length-0<=256)<|by decide,λml H9 mvs s9 b7 bo d4=>?_];have x9:=s9 _ _ x8;have b5:ml≠x:=Pe<|bE x8 b7;refine cR x9 U.Dc U.Nr G1 λb4 c3 bc=>?_;walk_at "r";have ac:∀b o,b≠x->H8 b=Zh o->b4 b=Zh o:=λb o n e=>by rw[bc b n];exact s9 _ _ e
 refine bN ?_;walk_at "r";intro wd ax;obtain⟨H11,cy,bt,cj⟩:=aJ ax<|.dT [];rw[cy];clear cy;have ct:=bt _ _ c3;have av:wd≠x:=Pe<|bE c3 ax;refine cR ct U.Dc U.Nh Jd λae di c5=>?_;walk_at "r";have ah:∀b o,b≠x->b4 b=Zh o->ae b=Zh o:=λb o n e=>by rw[c5 b n];exact bt _ _ e
 have c6:bD ae x Ck<|fP c.a pl tk ml wd:=(bD.of di<|dJ yD<|by decide).congr λf=>by simp only[mH,lkc]
 have as:b4 ml=Zh (.lst mvs):=by rw[bc ml b5];exact bo
 have c8:dI ae mvs<|Po.mts 0 pcs.length:=d4.keep λt z h=>by
  have n:t≠x:=λe=>by rw[e,x9] at h;cases h
  exact ah _ _ n<|by rw[bc t n];exact h
 have up:∀b o,b≠x->H5 b=Zh o->ae b=Zh o:=λb o n e=>ah _ _ n<|ac _ _ n<|b0 _ _ n e;have c9:∀b o,b≠x->H b=Zh o->ae b=Zh o:=λb o n e=>up _ _ n<|bg _ _ n<|s4 _ _<|s3 _ _<|ay _ _ n e;have J:PB bb Ck ae x c.a pl tk ml wd pls pcs:=#[c6,up _ _ ai aa,∅,λi l ys h1 h2=>up _ _ (af l<|jD h1)<|ap i l ys h1 h2]
 have co:eY bb Cb (aF.mk Cc Ca) E ae c pr:=st.apart (S:=[x]) (λb o n h=>c9 b o (λz=>n<|by rw[z];exact aZ) h) (λb hb=>by rw[cI.mp hb];exact .inr<|.inl #[_,_,_,hx]) λb hb=>by rw[cI.mp hb];exact nx
 have fx:∀b,H2 b=Zi->H b=Zi:=λb h=>by
  cases e:H b with
  |none=>rfl
  |some o=>
   have n:b≠x:=λz=>by rw[z,x2] at h;cases h
   rw[ay b o n e] at h;cases h
 have f5:∀b,b≠x->H5 b=Zi->H b=Zi:=λb n h=>fx b (s3.free<|s4.free<|by rw[<- k5 b n];exact h);have f8:∀b,b≠x->H8 b=Zi->H b=Zi:=λb n h=>f5 b n (s6.free<|s7.free<|by rw[<- k8 b n];exact h);have cu:∀b,b≠x->b4 b=Zi->H b=Zi:=λb n h=>f8 b n (s9.free<|by rw[<- bc b n];exact h);have cw:=fx pl<|s3.free bf;have cq:=f5 tk ao<|s6.free aw;have cr:=f8 ml b5 b7;have d2:=cu wd av ax;have bp:∀l∈pls,H l=Zi:=λl h=>fx l<|b8 l h;have n5:∀b o,H5 b=Zh o->b≠tk:=λb o h=>bE (s6 _ _ h) aw;have n8:∀b o,H8 b=Zh o->b≠ml:=λb o h=>bE h b7;have bd:∀b o,b4 b=Zh o->b≠wd:=λb o h=>bE h ax;have aq:ae wd=Zh (.dT []):=by rw[c5 wd av];exact cj
 have bw:=ah _ _ ao<|ac _ _ ao au;have br:=ah _ _ b5 as;have ch:pl≠wd:=bd _ _<|ac _ _ ai<|b0 _ _ ai aa;have dc:tk≠wd:=bd _ _<|ac _ _ ao au;have d7:ml≠wd:=bd _ _ as;have b3:∀l∈pls,l≠wd/\l≠tk:=λl h=>by
  obtain⟨j,hj,e⟩:=List.getElem_of_mem h;have e1:pls[j]?=Zh l:=by rw[bV hj,e]
  have h5:=ap j l _ e1 (bV<|show j<pcs.length by lia);exact#[bd _ _<|ac _ _ (af l h)<|b0 _ _ (af l h) h5,n5 _ _ h5]
 have bu:tk≠pl:=Pe<|n5 _ _ aa;have ca:tk≠ml:=n8 tk _ au;clear k2 k5 k8 bc c5 x2 x4 x5 x7 x8 x9 c3 ct i5 i8 ay bg b0 ac ah s3 s4 s6 s7 s9 bt d4 h4 h7 cj aa ap au bo as bj b8 fx f5 f8 cu n5 n8 bd ci up;refine c6.get U.Dc U.Nm (by walk_at "l") #[pl,_,rfl,.inl<|aB.of J.VV,?_];rw[aM,J.len];refine G9 ∅<|Gk (λi σ X=>L2.X2 λv3 kvs=>σ=[Zh<|.ref x,Zh<|.ref c.a,Zh<|.ref hl,v3]/\DT X wd (wB pcs i) i kvs/\∀b o,b≠wd->ae b=Zh o->X b=Zh o) ⟨_,[],rfl,⟨aq,(λkv h=>by cases h),aN _,(λa c v h=>by unfold wB at h;rw[Z8<|∅] at h;cases h)⟩,λb o _ h=>h⟩ ?_ ?_
 .rintro i σ X hi ⟨v3,kvs,rfl,dm,kX⟩;have cf:i<pcs.length:=∅
  obtain⟨zs,ba⟩:∃zs,pcs[i]?=Zh zs:=#[_,bV cf]
  have b2:PB bb Ck X x c.a pl tk ml wd pls pcs:=#[xc (S:=[wd]) (λb o n h=>kX b o (λz=>n<|by rw[z];exact aZ) h) (λz=>av (cI.mp z).symm) J.hp,kX _ _ ch J.VV,J.len,λj l ys h1 h2=>kX _ _ (b3 l<|jD h1).1<|J.pc j l ys h1 h2]
  walk_at "r";rw[QF];refine b2.hp.Ux (by walk_at "l") #[x,c.a,pl,tk,ml,wd,pls,pcs,i,0,zs,rfl,b2,ba,λu X2 cb fv=>?_];refine(b2.mono cb).hp.get U.Dc U.Nh (by walk_at "l") ?_;walk_at "r";refine#[cP<|by decide,λk1 df=>?_];obtain⟨X3,e3,bz,dq⟩:=aJ df<|.tup [.int (i:Int),.int ((i+1:Nat):Int)];rw[show(i:Int)+1=((i+1:Nat):Int) by lia,e3];clear e3;have bx:=(dm.mono cb).mono bz;refine#[wd,_,rfl,tI.t (k:=kQ i<|i+1) bx.hd dq<|vI (by have:=bx.len;lia),?_];have ef:front zs 0 i=mS pcs (Pp pcs.length 0) i:=(zB ba<|by rw[List.getElem?_replicate,Z9 cf]).symm;have d3:=bx.put (a:=i) (c:=i+1) (k:=1) ∅ ∅ (fv.keep λ_ _ z=>bz _ _ z)<|.inl rfl;rw[ef,BZ] at d3;exact#[_,_,rfl,d3,λb o n h=>by rw[aO n];exact bz _ _<|cb _ _<|kX b o n h]
 rintro σ X ⟨v3,kvs,rfl,bv,kX⟩;rw[Int.toNat_natCast] at bv;walk_at "r";refine bN ?_;walk_at "r";have iX:bD X x Ck<|fP c.a pl tk ml wd:=xc (S:=[wd]) (λb o n h=>kX b o (λz=>n<|by rw[z];exact aZ) h) (λz=>av (cI.mp z).symm) c6;have d9:=st.off d2;have cm:eY bb Cb (aF.mk Cc Ca) E X c pr:=co.apart (S:=[wd]) (λb o n h=>kX b o (λz=>n<|by rw[z];exact aZ) h) (λb hb=>by rw[cI.mp hb];exact .inr<|.inr<|.inl #[_,aq]) λb hb=>by rw[cI.mp hb];exact d9
 have bi:=kX _ _ d7 br;have bq:dI X mvs<|Po.mts 0 pcs.length:=c8.keep λt z h=>kX _ _ (λe=>by rw[e,aq] at h;cases h) h;refine iX.Ux (by walk_at "l")<|iX.get U.Dc U.Nr (by walk_at "l")<|iX.get U.Dc U.Nh (by walk_at "l") ?_;have sM:=Ad.SA<|st.off cr;refine#[c,pr,x,pl,tk,ml,wd,ml,wd,mvs,Po.mts 0 pcs.length,wB pcs pcs.length,pcs.length,1,kvs,_,rfl,cm,iX,Ad.SA nx,sM,bi,bq,by rw[Po.eU];lia,λm hm=>?_,bv,∅,.inl rfl,hk,w.UU<|LU _ _<|Fj pcs pcs.length<|aN _,λpr' z=>cz pr' z.2,λd d0 w1 kvs' pr2 az ad am cg dg=>?_]
 .have:=Po.iZ (a:=m.1) (m:=m.2.1) (c:=m.2.2) _ _ hm;lia
 obtain⟨c0,c7⟩:=dg;obtain⟨ce,c0⟩:=c0 w1 rfl;have ck:=xc az (Ad.SA nx) iX;refine ck.set U.Dc U.Nh (λaj dj da=>?_) #[_,by walk_at "l"];have cn:d≠x:=λz=>by
  obtain⟨_,_,e1,_⟩:=iX.ex;rw[z,e1] at ad;cases ad
 have bh:∀b o,b≠x->d0 b=Zh o->aj b=Zh o:=λb o n h=>by rw[da b n];exact h
 have b2:PB bb Ck X x c.a pl tk ml wd pls pcs:=#[iX,kX _ _ ch J.VV,J.len,λj l ys h1 h2=>kX _ _ (b3 l<|jD h1).1<|J.pc j l ys h1 h2]
 have b9:=b2.fr az (Ad.SA nx) (Ad.SA<|st.off cw) λl h=>Ad.SA<|st.off<|bp l h;obtain⟨du,dw,d5,_⟩:=ck.ex;have tX:∀b o,d0 b=Zh o->(∀C d f,o≠.ins C d f)->aj b=Zh o:=λb o h n=>bh b o (λz=>by
  rw[z,d5] at h;exact n _ _ _ (OX h).symm) h
 have dr:bD aj x Ck<|fP c.a pl tk ml d:=dj.congr λf=>by
  simp only[mH,lkc];by_cases z:f=Ro "went_on"
  .rw [Z9 z,Z9 z]
  .rw [Z8 z,Z8 z,Z8 z]
 have dk:pcs.length+1*(Po.mts 0 pcs.length).length=2*pcs.length-1:=by rw[Po.eU];lia
 rw[dk] at am;have cx:DT aj d w1 (2*pcs.length-1) kvs':=#[bh d _ cn am.hd,am.sm,am.len,λa c v h=>let ⟨u,h1,h2⟩:=am.val a c v h;#[u,h1,h2.keep λt z y=>tX _ _ y λ_ _ _ z=>by cases z]]
 have cv:PB bb Ck aj x c.a pl tk ml d pls pcs:=#[dr,tX _ _ b9.VV (λ_ _ _ z=>by cases z),b9.len,λj l ys h1 h2=>tX _ _ (b9.pc j l ys h1 h2) λ_ _ _ z=>by cases z]
 have cc:dI aj mvs<|Po.mts 0 pcs.length:=(bq.keep λt z h=>cm.tup az h).keep λt z h=>tX _ _ h (λ_ _ _ z=>by cases z);have d1:eY bb Cb (aF.mk Cc Ca) E aj c pr2:=cg.apart (S:=[x]) (λb o n h=>bh b o (λz=>n<|by rw[z];exact aZ) h) (λb hb=>by rw[cI.mp hb];exact .inr<|.inl #[_,_,_,d5]) λb hb=>by rw[cI.mp hb];exact nx
 have gd:H d=Zi:=by
  cases e:H d with
  |none=>rfl
  |some o=>
   have h1:=c9 d o cn e;by_cases z:d=wd
   .rw [z,bv.hd] at ad;cases ad
   .rw [kX d o z h1] at ad;cases ad
 refine q pl tk ml d pls w1 aj kvs' pr2 (λb o n1 n2 h=>?_) #[cv,tX _ _ (az _ _ (Ad.SA<|st.off cq)<|kX _ _ dc bw) (λ_ _ _ z=>by cases z),#[mvs,tX _ _ (az _ _ sM bi) (λ_ _ _ z=>by cases z),cc],cx,by rw[vR],#[bu,ca,λl h=>(b3 l h).2]] c0 (λj hj=>ce _ _<|by unfold wB;rw[Z9 #[rfl,hj]];rfl) #[cw,cq,cr,gd,bp] d1 c7;have n3:b≠wd:=λz=>by rw[z,d2] at h;cases h
 exact bh b o n1<|az _ _ n2<|kX b o n3<|c9 b o n1 h
theorem Of(F:aS K "take" "Pour.take" L4 f fd)(TX:C5 K Ck)
  (aa:Mt P w K mg base aP Ck "top" 1 ["self"]<|nK bb Ck)
  (J:Mt P w K mg base aP Ck "front_of" 1 ["self","piece","taken"]<|cJ bb Ck)
  (U:Mt P w K mg base (aK P w) Ck "held" 6 ["self","meetings","went_on"]<|gL Cb (aF.mk Cc Ca) bb Ck)
 :aI P w K mg base (aK P w) 7 f fd ["self"]<|eK Cb (aF.mk Cc Ca) bb Ck:=by
 refine F.UY bR nofun λcg A outer s H vs Q E hr h=>?_
 refine' bM 8 (aG (PS.UA<|Il (pv 3)<|KC (kL (pv 0) rfl) (pv 2) Lu)<|bA<|PS.UA<|cL<|dW bQ (pv 1) bJ λ_ _=>rfl) λ_ dZ _=>bM 7 (aG (CM ?_ (hX U hr.mn jG ?_ ?_) rfl) dZ) λ_ dZ _=>bM 6 (aG (PS.UA<|K2 (GU hr) (pv 5) (qe<|cG (pv 2)<|bI jO (pv 2) bJ) (hX J hr.mn eX (pv 0)<|cG (pv 2)<|pv 3) rfl) dZ) λ_ dZ _=>bM 5 (aG (PS.UA<|bK (i:=5) bR.nd rfl (by (first | exact Or.inl rfl | exact Or.inr rfl))<|vH (lW) rfl T.Wo PyProof.Rows.boot_dict<|bC<|kL (pv 0) rfl) dZ) λ_ dZ _=>bM 4 (aG (PS.UA<|He (i:=4) bR.nd rfl (Or.inl rfl) rfl (k:=1) (js:=[2]) (N':=["meeting","piece"]) (by rfl) (CU<|kL (pv 0) rfl) (λ_ _ _ _=>kB (i:=0) (show(["meeting","piece"]:List Pj).Nodup by decide+kernel) rfl<|by (first | exact Or.inl rfl | exact Or.inr rfl)) (λ_ _ _ _=>(qN<|PW.pt<|CN (fF HM (dW (D1 K) (pv 0) bJ λ_ _=>rfl) (pv 1)<|dF _)<|Ea<|fF CI (pv 1) (dW (D1 K) (pv 0) bJ λ_ _=>rfl)<|dF _)) λ_ _ _ _=>(pv 0)) dZ) λ_ dZ _=>bM 2 (aG (PS.UA<|bK (i:=2) bR.nd rfl (by (first | exact Or.inl rfl | exact Or.inr rfl))<|dW bQ (pv 1) bJ λ_ _=>rfl)<|aG (PS.UA<|bK (i:=3) bR.nd rfl (by (first | exact Or.inl rfl | exact Or.inr rfl))<|bI jO (dW bQ (kL (pv 0) rfl) (pv 2) λ_ _=>rfl) bJ) dZ) λ_ dZ _=>#[_,(aG (PS.UA<|bK (i:=1) bR.nd rfl (by (first | exact Or.inl rfl | exact Or.inr rfl))<|pX aa hr.mn eX<|pv 0)<|aG (PS.UA<|gO (fF Gg (pv 1) AI<|dF _) (bA<|cL AI) CV) dZ),?_]
 walk_at "d";obtain⟨c,pr,p,pl,tk,ml,wd,pls,pcs,ts,w0,kvs,rfl,st,Z,px,dw,av,hn,hk,ap⟩:=h;walk_at "r";have b0:w0 0 pcs.length=Zh (if 0<pcs.length then((w0 0 pcs.length).getD Zi) else Zi)∨2*pcs.length-1=0/\(if 0<pcs.length then((w0 0 pcs.length).getD Zi) else Zi)=Zi:=by
  by_cases hz:0<pcs.length
  .rw [Z9 hz];left;have:(w0 0 pcs.length).isSome=Zj:=by
    by_cases z:pcs.length-0<2
    .have:=av 0 hz;rw[show 0+1=pcs.length by lia] at this;exact this
    .exact dw.pr (0,Po.mid 0 pcs.length,pcs.length) (by rw[Po.bT z];exact fN _ aZ)
   obtain⟨v,hv⟩:=Option.isSome_iff_exists.mp this;rw[hv];rfl
  .rw [Z8 hz];exact .inr #[∅,rfl]
 refine Z.pb.hp.Ux (by walk_at "l") #[p,c.a,pl,tk,ml,wd,pls,pcs,w0,_,kvs,_,rfl,Z.pb,Z.Wt,b0,λu H1 s1 fv=>?_];walk_at "r";rcases ap with ⟨b2,q1⟩|⟨x,i,post,hz,bi,w,c9,q2⟩
 .have e0:(if 0<pcs.length then((w0 0 pcs.length).getD Zi) else Zi:Po.Fr)=Zi:=by
   rcases b2 with z|z
   .rw [Z8<|∅]
   .rw [z];split<;>rfl
  rw[e0] at fv;cases(show u=V.Uy from fv);rw[Z9 rfl];exact q1 H1 s1
 rw[Z9 hz,bi] at fv;obtain⟨t0,rfl,as⟩:=fv;dsimp only at as;rw[Z8 λz=>by cases z];have ai:i<pcs.length:=dw.ix _ _ _ bi;obtain⟨zs,be⟩:∃zs,pcs[i]?=Zh zs:=#[_,bV ai]
 obtain⟨t,ht⟩:∃t,ts[i]?=Zh t:=#[_,bV<|show i<ts.length by rw[Z.Wd];exact ai]
 have aj:qm ts i=ts.set i (t+1):=by
  unfold qm;rw[fC,ht];rfl
 rw[aj] at w q2;have cb:=st.mono s1;have bC:=Z.mono s1;clear b0;refine bN ?_;walk_at "r";refine iI (cH.of as) (dE (by decide) rfl) ?_;walk_at "r";refine bC.pb.hp.get TX.Dc TX.Np (by walk_at "l")<|dQ (aB.of bC.UZ) (Kt ht) ?_;walk_at "r";rw[show(t:Int)+1=((t+1:Nat):Int) by lia];refine bN ?_;walk_at "r";obtain⟨mvs,az,ah⟩:=bC.XE;refine bC.pb.hp.get TX.Dc TX.Nr (by walk_at "l") ?_;have bn:=ah.len;rw[Po.eU] at bn;refine Ec (aB.of az) ∅ (λk ys σ H'=>∃v,σ=[v,Zh<|.int (i:Int)]/\aC H1 H'/\dI H' ys (((Po.mts 0 pcs.length).take k).filter<|rT i)) ⟨_,rfl,.refl _,dI.nil⟩ (λk ys σ H' _ zz=>by obtain⟨_,_,e,hM⟩:=zz;exact#[aB.of<|e _ _ az,by rw[hM.len];exact dJ (Sq _ _)<|by rw[iF];lia]) ?_ ?_
 .rintro k ys u σ H' hk hu ⟨v,rfl,sA,hM⟩;obtain⟨m,hm⟩:∃m,(Po.mts 0 pcs.length)[k]?=Zh m:=#[_,bV<|by rw[Po.eU];lia]
  obtain⟨tm,bp,c7⟩:=ah.get k m hm;rw[hu] at bp;cases bp;have b3:=sA _ _ c7;have aj:(Po.mts 0 pcs.length).take (k+1)=(Po.mts 0 pcs.length).take k++[m]:=by rw[Rb,hm];rfl
  walk_at "r";refine iI (cH.of b3) (dE (by decide) rfl) ?_;walk_at "r";by_cases h1:(m.1:Int)<=i
  .rw [Z9 h1];refine iI (cH.of b3) (dE (by decide) rfl) ?_;walk_at "r";by_cases h2:(i:Int)<m.2.2
   .rw [Z9 h2];refine fG.of hk #[_,rfl,sA,?_];rw[aj,C8,Q6<|by unfold rT;rw[decide_eq_true<|∅,decide_eq_true<|∅];rfl];exact hM.app<|dI.one b3
   .rw [Z8 h2];refine fG.of hk #[_,rfl,sA,?_];rw[aj,C8,QB<|by unfold rT;rw[decide_eq_false (show ¬ i<m.2.2 by lia),T4];decide,List.filter_nil,iG];exact hM
  .rw [Z8 h1];refine fG.of hk #[_,rfl,sA,?_];rw[aj,C8,QB<|by unfold rT;rw[decide_eq_false (show ¬ m.1<=i by lia),Bool.false_and];decide,List.filter_nil,iG];exact hM
 rintro ys σ H2 ⟨v,rfl,s2,b7⟩ wy ay;rw[ah.len,tM<|aN _] at b7;obtain⟨H3,e3,s3,h3⟩:=aJ ay<|.lst ys;rw[e3];clear e3;have S3:=s1.trans<|s2.trans s3;have jE:=Z.mono S3;refine bN ?_;walk_at "r";refine jE.pb.hp.get TX.Dc TX.Nh (by walk_at "l") #[wd,kvs,rfl,jE.Wt.hd,jE.Wt.sm,λd2 bq=>?_];obtain⟨H4,e4,s4,h4⟩:=aJ bq<|.dT kvs;rw[e4];clear e4;have S4:=S3.trans s4;have ao:=Z.mono S4;have br:DT H4 d2 w0 (2*pcs.length-1) kvs:=#[h4,ao.Wt.sm,ao.Wt.len,ao.Wt.val]
 refine bN ?_;walk_at "r";refine ao.pb.hp.Ux (by walk_at "l") #[p,c.a,pl,tk,ml,wd,pls,pcs,i,t+1,zs,rfl,ao.pb,be,λu H5 s5 fv=>?_];walk_at "r";rw[show(i:Int)+1=((i+1:Nat):Int) by lia];refine#[cP<|by decide,λk1 bf=>?_];obtain⟨H6,e6,s6,h6⟩:=aJ bf<|.tup [.int (i:Int),.int ((i+1:Nat):Int)];rw[e6];clear e6;have ac:=(br.mono s5).mono s6;have hB:2*pcs.length-1<=400:=∅
 refine#[d2,_,rfl,tI.t (k:=kQ i<|i+1) ac.hd h6<|vI (by have:=ac.len;lia),?_];have aq:=ac.put (a:=i) (c:=i+1) (k:=0) ∅ ∅ (fv.keep λ_ _ z=>s6 _ _ z)<|.inr<|av i ai;rw[Sn] at aq;have S6:=S4.trans<|s5.trans s6;have bj:H d2=Zi:=S3.free bq;have k7:∀b o,b≠d2->H6 b=Zh o->upd H6 d2 (.dT<|putK kvs (kQ i<|i+1) u) b=Zh o:=λb o n h=>by rw[aO n];exact h
 have S7:aC H<|upd H6 d2<|.dT<|putK kvs (kQ i<|i+1) u:=λb o h=>k7 b o (bE h bj)<|S6 _ _ h;have af:=(s4.trans<|s5.trans s6) _ _ h3;have aw:=k7 wy _ (λz=>by rw[z,ac.hd] at af;cases af) af;have bh:=b7.keep λb z h=>by
  have ae:=(s3.trans<|s4.trans<|s5.trans s6) _ _ h;exact k7 b _ (λz=>by rw[z,ac.hd] at ae;cases ae) ae
 have bx:front zs (t+1) i=mS pcs (ts.set i<|t+1) i:=(zB be<|by rw[List.getElem?_set,Z9 rfl,Z9<|by rw[Z.Wd];exact ai]).symm;rw[bx] at aq;have bo:∀b z,H1 b=Zh (.tup z)->upd H6 d2 (.dT<|putK kvs (kQ i<|i+1) u) b=Zh (.tup z):=λb z h=>by
  have ae:=(s2.trans<|s3.trans<|s4.trans<|s5.trans s6) _ _ h;exact k7 b _ (λz=>by rw[z,ac.hd] at ae;cases ae) ae
 generalize upd H6 d2 (.dT<|putK kvs (kQ i<|i+1) u)=H7 at aq S7 aw bh bo⊢;generalize putK kvs (kQ i<|i+1) u=kv7 at aq;have bu:∀b z,H1 b=Zh (.tup z)->H7 b=Zh (.tup z):=λb z h=>bo b z h;have bc:=st.mono S7;have O:=Z.mono S7;have cc:=as;have bz:H wy=Zi:=(s1.trans s2).free ay;clear k7 ac br s6 S6 af h6 bf;refine bN ?_;walk_at "r";have bv:∀a' c' x,Po.put w0 i (i+1) (mS pcs (ts.set i<|t+1) i) a' c'=Zh (Zh x)->x.2<pcs.length:=yC dw.ix λx hx=>by rw[(Ed hx).1];exact ai
 refine O.pb.hp.Ux (by walk_at "l") #[c,pr,p,pl,tk,ml,wd,wy,d2,ys,_,_,2*pcs.length-1,0,kv7,_,rfl,bc,O.pb.hp,Ad.SA px.p,Ad.SA<|st.off bz,aw,bh,dJ (Sq _ _)<|by rw[Po.eU];lia,λm hm=>?_,aq,∅,.inr #[rfl,λm hm=>ID<|dw.pr m (Ey.mp hm).1],hk,w.UU<|LU _ _ bv,λpr' z=>c9 pr' z.2,λd8 H8 w1 kv8 pr2 f8 au am bw c5=>?_]
 .have:=Po.iZ (a:=m.1) (m:=m.2.1) (c:=m.2.2) _ _ (Ey.mp hm).1;lia
 obtain⟨c3,b1⟩:=c5;obtain⟨ax,b8⟩:=c3 w1 rfl;have c0:Dw pcs.length (Po.mts 0 pcs.length) w1:=#[λm hm=>ax _ _<|ID<|dw.pr m hm,b8.ix]
 have c6:∀j,j<pcs.length->(w1 j<|j+1).isSome=Zj:=λj hj=>ax _ _<|ID<|av j hj;have i8:=xc f8 (Ad.SA px.p) O.pb.hp;refine i8.set TX.Dc TX.Nh (λH9 i9 k9=>?_) #[_,by walk_at "l"];have b4:bD H9 p Ck<|fP c.a pl tk ml d8:=i9.congr λf=>by
  simp only[mH,lkc];by_cases z:f=Ro "went_on"
  .rw [Z9 z,Z9 z]
  .rw [Z8 z,Z8 z,Z8 z]
 obtain⟨ch,ce,e8,_⟩:=i8.ex;have e9:∀b o,b≠p->H8 b=Zh o->H9 b=Zh o:=λb o n h=>by rw[k9 b n];exact h
 have tX:∀b o,H8 b=Zh o->(∀C d f,o≠.ins C d f)->H9 b=Zh o:=λb o h n=>e9 b o (λz=>by rw[z,e8] at h;exact n _ _ _ (OX h).symm) h;have ag:=tX _ _ (f8 _ _ (Ad.SA px.tk) O.UZ) (λ_ _ _ z=>by cases z);have c8:eY bb Cb (aF.mk Cc Ca) E H9 c pr2:=bw.apart (S:=[p]) (λb o n h=>e9 b o (λz=>n<|by rw[z];exact aZ) h) (λb hb=>by rw[cI.mp hb];exact .inr<|.inl #[_,_,_,e8]) λb hb=>by rw[cI.mp hb];exact px.p
 have cf:d8≠p:=λz=>by
  obtain⟨_,_,e1,_⟩:=O.pb.hp.ex;rw[z,e1] at au;cases au
 have ba:d8≠tk:=λz=>by rw[z,O.UZ] at au;cases au
 refine bN ?_;walk_at "r";refine b4.get TX.Dc TX.Np (by walk_at "l") ?_;refine#[tk,_,_,_,rfl,rfl,ag,Kz ∅<|by rw[aM,Z.Wd];lia,?_];rw[Int.toNat_natCast];have ad:∀b o,b≠tk->H9 b=Zh o->upd H9 tk (.lst<|(nL ts).set i<|.int ((t+1:Nat):Int)) b=Zh o:=λb o n h=>by rw[aO n];exact h
 have b6:upd H9 tk (.lst<|(nL ts).set i<|.int ((t+1:Nat):Int)) tk=Zh (.lst<|nL<|ts.set i<|t+1):=by
  rw[aU];unfold nL;rw[List.map_set]
 generalize upd H9 tk (.lst<|(nL ts).set i<|.int ((t+1:Nat):Int))=H10 at ad b6⊢;have c4:p≠tk:=λz=>by
  obtain⟨_,_,e1,_⟩:=b4.ex;rw[z,ag] at e1;cases e1
 have up:∀b o,b∉c.S->b≠tk->H7 b=Zh o->(∀C d f,o≠.ins C d f)->H10 b=Zh o:=λb o n1 n2 h n3=>ad b o n2<|tX _ _ (f8 _ _ n1 h) n3;have tS:∀b z,H7 b=Zh (.tup z)->H10 b=Zh (.tup z):=λb z h=>up b _ (bc.tupS h (λ_ z=>by cases z) λ_ _ _ z=>by cases z) (λy=>by rw[y,O.UZ] at h;cases h) h (λ_ _ _ z=>by cases z);have ca:=tS _ _<|bu t0 _ as;obtain⟨bt,b9,bd⟩:=O.XE;rw[Di,Sn] at am;have b5:cS bb Ck H10 p c.a pl tk ml d8 pls pcs (ts.set i<|t+1) w1 kv8:=#[#[xc (S:=[tk]) (λb o n h=>ad b o (λz=>n<|by rw[z];exact aZ) h) (λz=>c4<|cI.mp z) b4,up _ _ (Ad.SA px.pl) (Pe Z.ne.1) O.pb.VV (λ_ _ _ z=>by cases z),Z.pb.len,λj l ys h1 h2=>up _ _ (Ad.SA<|px.ls l<|jD h1) (Z.ne.2.2 l<|jD h1) (O.pb.pc j l ys h1 h2) λ_ _ _ z=>by cases z],b6,#[bt,up _ _ (Ad.SA px.ml) (Pe Z.ne.2.1) b9 (λ_ _ _ z=>by cases z),bd.keep tS],#[ad _ _ ba (tX _ _ am.hd λ_ _ _ z=>by cases z),am.sm,am.len,λb c v h=>let ⟨u,h1,h2⟩:=am.val b c v h;#[u,h1,h2.keep λt z y=>ad _ _ (λe=>by rw[e,f8 _ _ (Ad.SA px.tk) O.UZ] at y;cases y)<|tX _ _ y λ_ _ _ z=>by cases z]],by rw[GJ];exact Z.Wd,Z.ne]
 have bg:eY bb Cb (aF.mk Cc Ca) E H10 c pr2:=c8.apart (S:=[tk]) (λb o n h=>ad b o (λz=>n<|by rw[z];exact aZ) h) (λb hb=>by rw[cI.mp hb];exact .inl #[_,ag]) λb hb=>by rw[cI.mp hb];exact px.tk
 walk_at "r";refine iI (cH.of ca) (dE (by decide) rfl) ?_;refine q2 d8 w1 H10 kv8 pr2 (λb o n h=>?_) b5 c0 c6 bg b1;have m:∀c',c'∈[p,tk,c.a,c.lg,c.tl]->b≠c':=λc' hc z=>n (by rw[z];exact hc);exact ad b o (m tk<|by simp)<|e9 b o (m p<|by simp)<|f8 b o (λz=>n<|bF _<|bF _ z)<|S7 _ _ h
theorem NN(F:aS K "poured" "poured" Ls f fd)
  (J:Mt P w K mg base (aK P w) Cf "take" 7 ["self"]<|eK Cb (aF.mk Cc Ca) Zk Cf)
  (O:Mt P w K mg base aP Cf "left" 1 ["self"]<|pG Zk Cf)
  (ac:Kl P w K mg base (aK P w) "Pour" Cf 10 ["self","asker","pieces"]<|bP Cb (aF.mk Cc Ca) Zk Cf)
 :aI P w K mg base (aK P w) 12 f fd ["asker","pieces"]<|eF Cb<|aF.mk Cc Ca:=by
 refine F.UY V0 nofun λbg A outer s H vs Q E hr h=>?_
 refine' #[_,(aG (bK (i:=2) V0.nd rfl (by (first | exact Or.inl rfl | exact Or.inr rfl))<|GZ ac hr.mn rfl jG ?_)<|bA<|PS.VC<|cL<|IC (E:=E) #[rfl,rfl] (λ_ _ z=>z.UB) rfl (k:=1) (js:=[2]) (N':=["turn","pour"]) (by rfl) (Am rfl T.UC<|bC<|pX O hr.mn eX<|pv 2) (λ_ _ _ _=>kB (i:=0) (show(["turn","pour"]:List Pj).Nodup by decide+kernel) rfl<|by (first | exact Or.inl rfl | exact Or.inr rfl)) (λ_ _ _ _=>vG) λ_ _ _ _ _ hp=>(pX J hr.mn hp<|pv 1)),?_];walk_at "d";obtain⟨c,pr,hl,hls,pcs,post,rfl,st,aq,hP,hn,ht,hk,w,ag,q⟩:=h;walk_at "r";intro po dp ae ba b2;have au:upd H dp (.own po) po=Zi:=by rw[aO<|Pe b2];exact ae
 have Z:aC H<|upd (upd H dp<|.own po) po<|.ins Cf dp []:=(bO ba _).trans<|bO au _;have as:(upd (upd H dp<|.own po) po<|.ins Cf dp []) po=Zh (.ins Cf dp []):=aU;generalize upd (upd H dp<|.own po) po (.ins Cf dp [])=H16 at Z as⊢;have aw:=st.off ae;replace w:=w.UU<|qK pcs;replace ag:∀pr',¬ ((∀os,(Zi:Option<|List Nat)=Zh os->os.length=tot pcs)/\post Zi pr'):=λpr' z=>ag pr' z.2;generalize Xk:(λo pr'=>(∀os,o=Zh os->os.length=tot pcs)/\post o pr')=post2 at w;have aa:∀pr',¬ post2 Zi pr':=λpr' z=>by rw[<- Xk] at z;exact ag pr' z
 unfold D9 at w;refine#[c,pr,po,dp,hl,hls,pcs,_,rfl,as,st.mono Z,Z _ _ aq,hP.len,λj l zs h1 h2=>Z _ _<|hP.at' j l zs h1 h2,hn,aw,hk,w.bind,λpr' z=>aa pr' z,λpl tk ml wd pls w1 H17 kvs pr1 b4 pa dw bc U ap af=>#[rfl,?_]];have fr:∀b,H16 b=Zi->H b=Zi:=λb h=>Z.free h;have px:PX c po pl tk ml pls:=#[aw,st.off<|fr _ U.1,st.off<|fr _ U.2.1,st.off<|fr _ U.2.2.1,λl h=>st.off<|fr _<|U.2.2.2.2 l h]
 have b7:=fr _ U.2.1;have b5:Fr c.S H H17:=λb o n h=>b4 b o (bE h ae) n<|Z _ _ h;have hsz:∀ys∈pcs,ys.length<=500:=λys hy=>dJ (tV hy) ht;walk_at "r";have tz:∀t∈Pp pcs.length 0,t<=500:=λt h=>by rw[(List.mem_replicate.mp h).2];decide
 refine pa.pb.hp.Ux (by walk_at "l") #[po,c.a,pl,tk,ml,wd,pls,pcs,_,rfl,pa.pb,pa.UZ,∅,by rw[vR];lia,hsz,tz,λbf ao=>?_];rw[show(Pp pcs.length 0).sum=0 by simp,Int.natCast_zero,Int.sub_zero];have af:c.W (oU pcs (pcs.map PV).sum (Pp pcs.length 0) w1 []) pr1 post2:=af;have b6:(pcs.map PV).sum<=500:=ht;obtain⟨m,hm⟩:∃m,(pcs.map PV).sum=m:=#[_,rfl]
 rw[hm] at af b6⊢;refine Ef ∅ (λk ys σ X=>L2.X7 λv wd w kvs ts acc pr'=>σ=[v,Zh<|.ref po]/\ys=nL acc/\acc.length=k/\k<=m/\aH Cb (aF.mk Cc Ca) E X c pr'/\cS Zk Cf X po c.a pl tk ml wd pls pcs ts w kvs/\Dw pcs.length (Po.mts 0 pcs.length) w/\(∀j,j<pcs.length->(w j<|j+1).isSome=Zj)/\Fr [po,tk,c.a,c.lg,c.tl] H17 X/\c.W (oU pcs (m-k) ts w acc) pr' post2) ⟨_,wd,w1,kvs,_,[],pr1,rfl,rfl,rfl,cQ _,ap.mono ao,pa.mono ao,dw,bc,ao.fr,af⟩ (λk ys σ X zz=>by obtain⟨_,_,_,_,_,_,_,_,e,e2,_⟩:=zz;rw[e,aM,e2];exact aN _) ?_ ?_
 .rintro k ys σ X be ⟨v,az,w2,ai,ts,acc,pr2,rfl,rfl,ay,b9,ad,aj,av,ah,fX,wX⟩;have bh:k<m:=∅
  have hz:0<pcs.length:=by
   cases pcs with
   |nil=>simp at hm;lia
   |cons p ps=>simp
  rw[show m-k=(m-(k+1))+1 by lia,oU] at wX;walk_at "r";split at wX
  .rename_i cc hcc;obtain⟨x,i⟩:=cc;dsimp only at wX;refine aj.pb.hp.Ux (by walk_at "l") #[c,pr2,po,pl,tk,ml,az,pls,pcs,ts,w2,ai,rfl,ad,aj,px,av,ah,hn,hk,.inr #[x,i,_,hz,hcc,wX.bind,λpr' z=>aa pr' z,λwd' w' Y b1 pr3 fY b0 b3 ax b8 bd=>?_]];refine fG.of ∅ #[_,wd',w',b1,_,acc++[x],pr3,rfl,?_,by rw[aQ,ay];rfl,∅,b8,b0,b3,ax,fX.trans fY,bd];unfold nL;rw[cU];rfl
  .exact absurd wX (aa _)
 rintro ys σ X ⟨v,az,w2,ai,ts,acc,pr2,rfl,rfl,ay,b9,ad,aj,av,ah,fX,wX⟩ l am;rw[Int.toNat_natCast,kP] at wX;have fH:Fr c.S H X:=λb o n h=>by
  refine fX b o (λz=>?_)<|b5 b o n h;rcases bY.mp z with z|z
  .exact bE h ae z
  rcases bY.mp z with z|z
  .exact bE h b7 z
  .exact n z
 have wX:post2 (Zh acc) pr2:=wX;rw[<- Xk] at wX;exact q l _ acc pr2 (fH.trans (bO am _).fr) (ad.free fH am) aU (ad.mono<|bO am _) (wX.1 acc rfl) wX.2
theorem O6(F:aS K "one_round" "one_round" L7 f fd)
  (O:Fn P w K mg base (aK P w) "poured" 12 ["asker","pieces"]<|eF Cb<|aF.mk Cc Ca)
 :aI P w K mg base (aK P w) 13 f fd ["asker","pieces","mouths"]<|dN Cb<|aF.mk Cc Ca:=by
 refine F.UY V2 nofun λay A outer s H vs Q E hr h=>?_
 obtain⟨c,pr,hl,hls,pcs,d,post,rfl,st,ae,hP,ai,ad,hn,ht,hd,au,hk,w,am,q⟩:=h;refine#[_,(bA<|PS.VC<|cL<|IC (E:=E) #[rfl,rfl] (λ_ _ z=>z.UB) rfl (k:=1) (js:=[0,1,2]) (N':=["first","asker","pieces","mouths"]) (by rfl) (nV rfl T.UC<|jE bJ (gE oY rfl T.UD PF<|bC<|pv 1)<|pv 2) (λ_ _ _ _=>kB (i:=0) (show(["first","asker","pieces","mouths"]:List Pj).Nodup by decide+kernel) rfl<|by (first | exact Or.inl rfl | exact Or.inr rfl)) (λ_ _ _ _=>vG) λ_ _ _ _ _ hp=>(iE O hr.mn rfl hp<|cG (pv 1)<|Ha (Lv K) (pv 2) (AN<|pv 0)<|AN<|bI jO (pv 0)<|pv 3)),?_];walk_at "r";refine#[hl,_,rfl,.inl<|aB.of ae,?_];rw[aM,hP.len];refine oJ (i:=((0:Nat):Int)) ∅ (um hd) (cP (by have:=Kw (n:=pcs.length) hd;lia)) (λk ys σ X=>L2.X4 λv ls out pr'=>σ=[v,Zh<|.ref c.a,Zh<|.ref hl,Zh<|.int (d:Int)]/\ys=ls.map V.ref/\ls.length=k/\PL X ls out/\tot out+tot (pcs.drop<|k*d)=tot pcs/\aH Cb (aF.mk Cc Ca) E X c pr'/\Fr c.S H X/\(∀l∈ls,H l=Zi)/\c.W (sH d (cO pcs.length d-k) (pcs.drop<|k*d) out) pr' post) ⟨_,[],[],pr,rfl,rfl,rfl,.nil,by rw[Di];show 0+tot pcs=tot pcs;lia,st,.refl,(λl h=>by cases h),by rw[Di];exact w⟩ (λk ys σ X zz=>by obtain⟨_,ls,_,_,_,e,e2,_⟩:=zz;rw[e,aM,e2];exact aN _) ?_ ?_
 .rintro k ys σ X ao ⟨v,ls,out,pr1,rfl,rfl,af,aa,ag,U,fX,J,wX⟩;walk_at "r";have e0:((0:Nat):Int)+(k:Int)*(d:Int)=((k*d:Nat):Int):=by rw[Int.natCast_mul];lia
  rw[e0];refine xb (aB.of<|fX _ _ (Ad.SA ai) ae) λs1 aq=>?_;rw[zS,<- Er,<- Es];obtain⟨X1,e1,Z,h1⟩:=aJ aq<|.lst<|((hls.drop<|k*d).take d).map V.ref;rw[e1];clear e1;have ap:PL X1 ((hls.drop<|k*d).take d)<|(pcs.drop<|k*d).take d:=((hP.Xc fX λb hb=>Ad.SA<|ad b hb).sl (k*d) d).mono Z;have aw:=EB (pcs.drop<|k*d) d;rw[Sz] at aw;rw[show cO pcs.length d-k=(cO pcs.length d-(k+1))+1 by lia,sH,Sz] at wX;walk_at "r";refine#[c,pr1,s1,_,_,_,rfl,U.mono Z,h1,ap,by rw[iF,gP];lia,∅,hk,wX.bind,λpr' z=>am pr' z,λl Y os pr2 fY ac as av az ax=>?_];have aj:X l=Zi:=Z.free ac;have ah:H l=Zi:=U.free fX aj;refine fG.of ao #[_,ls++[l],out++[os],pr2,rfl,by rw[cU];rfl,by rw[aQ,af];rfl,?_,?_,av,fX.trans<|Z.fr.trans fY,λl' h=>?_,?_]
  .exact ((aa.mono Z).Xc fY λb hb=>Ad.SA<|st.off<|J b hb).snoc as
  .rw [LB,C7,show tot [os]=os.length by unfold tot;simp];lia
  .rcases gZ.mp h with h|h
   .exact J l' h
   .rw [cI.mp h];exact ah
  .rw [C7];exact ax
 rintro ys σ X ⟨v,ls,out,pr1,rfl,rfl,af,aa,ag,U,fX,J,wX⟩ l ac;have sN:=bO ac<|.lst<|ls.map V.ref;rw[kP] at wX;have e0:pcs.drop (cO pcs.length d*d)=[]:=QD<|Kv hd;rw[e0] at ag;have:tot ([]:List<|List Nat)=0:=rfl;exact q l _ ls out pr1 (fX.trans sN.fr) (U.free fX ac) aU (aa.mono sN) J (U.mono sN) (by rw[<- aa.len,af]) ∅ wX
theorem OH(F:dS K "in_rounds" "in_rounds" L6 f fd dv)
  (U:Fn P w K mg base (aK P w) "one_round" 13 ["asker","pieces","mouths"]<|dN Cb<|aF.mk Cc Ca)
 :aI P w K mg base (aK P w) 14 f fd ["asker","pieces","mouths"]<|cM Cb<|aF.mk Cc Ca:=by
 refine F.UY Vl nofun λc3 A outer s H vs Q E hr h=>?_
 obtain⟨c,pr,hl,hls,pcs,d,post,rfl,st,av,hP,hn,ht,bg,bc,hk,w,bf,q⟩:=h;refine bM 3 (bA<|PS.UA<|cL<|qe<|cG (xo (yE<|pv 3) (dW bQ (pv 3) bJ λ_ _=>rfl)<|xa AH)<|pv 4) λ_ dZ _=>bM 2 (aG (PS.VC<|AR (tG ⟨rfl,rfl⟩) (fF F4 (gE oY rfl T.UD PF<|bC<|pv 3) bJ<|dF _)<|aG (bK (i:=3) Vl.nd rfl (by (first | exact Or.inl rfl | exact Or.inr rfl))<|iE U hr.mn rfl rO<|jE (pv 0) (pv 3)<|pv 2)<|bA<|mF<|rV Pk P9 P8 Gs (pv 4)<|bC<|gE oY rfl T.UD PF<|bC<|pv 3) dZ) λ_ dZ _=>bM 1 (aG (PS.UA<|bK (i:=4) Vl.nd rfl (by (first | exact Or.inl rfl | exact Or.inr rfl))<|xa AH) dZ) λ_ dZ _=>#[_,(aG (PS.UA<|He (i:=3) Vl.nd rfl (Or.inl rfl) rfl (k:=1) (js:=[]) (N':=["piece"]) (by rfl) (CU<|pv 1) (λ_ _ _ _=>kB (i:=0) (show(["piece"]:List Pj).Nodup by decide+kernel) rfl<|by (first | exact Or.inl rfl | exact Or.inr rfl)) (λ_ _ _ _=>vG) λ_ _ _ _=>(vH (hV K) rfl T.UT P4<|bC<|pv 0)) dZ),?_]
 walk_at "r";have c0:=hP.len;refine Ec (aB.of av) (by rw[aM];lia) (λi ys σ H'=>L2.X2 λv ns=>σ=[v]/\aC H H'/\ys=ns.map V.ref/\ns.length=i/\(∀(j:Nat) l zs,ns[j]?=Zh l->pcs[j]?=Zh zs->H' l=Zh (.lst<|nL zs))/\∀l∈ns,H l=Zi/\∃z,H' l=Zh (.lst z)) ⟨_,[],rfl,.refl _,rfl,rfl,λj l zs h=>by simp at h,λl h=>by cases h⟩ (λi ys σ H' _ zz=>by obtain⟨_,ns,_,e,e2,e3,_⟩:=zz;exact#[aB.of<|e _ _ av,by rw[e2,aM];lia]) ?_ ?_
 .rintro i ys u σ H' hi hu ⟨v,ns,rfl,sA,rfl,ao,ag,bw⟩;rw[aM] at hi;have bz:i<pcs.length:=∅
  obtain⟨zs,ba⟩:∃zs,pcs[i]?=Zh zs:=#[_,bV bz]
  rw[eJ,bV hi] at hu;cases hu;have bu:=sA _ _<|hP.at' i _ zs (bV hi) ba;walk_at "r";refine#[_,_,rfl,.inl<|aB.of bu,λl' as=>?_];refine fG.of (by rw[aM];exact hi) #[_,ns++[l'],rfl,sA.new as,by rw[cU];rfl,by rw[aQ,ao];rfl,λj l bj h1 h2=>?_,λl h=>?_]
  .by_cases z:j<ns.length
   .rw [mB z] at h1;exact bO as _ _ _<|ag j l bj h1 h2
   .rw [kE<|∅] at h1;cases hk:j-ns.length with
    |zero=>
     rw[hk] at h1;cases h1;rw[show j=i by lia,ba] at h2;cases h2;exact aU
    |succ m=>rw[hk] at h1;simp at h1
  .rcases gZ.mp h with h|h
   .obtain ⟨a1,z,a2⟩:=bw l h;exact#[a1,z,bO as _ _ _ a2]
   .rw [cI.mp h];exact#[sA.free as,_,aU]
 rintro ys σ c9 ⟨v,ag,rfl,b8,rfl,ao,b5,b3⟩ bn hd0;rw[aM] at ao;obtain⟨br,bi,b2,b6⟩:=aJ hd0<|.lst<|ag.map V.ref;rw[bi];clear bi;have bd:=b8.trans b2;have af:PL br ag pcs:=#[∅,λj l zs h1 h2=>b2 _ _<|b5 j l zs h1 h2]
 refine bN ?_;walk_at "r";refine#[cQ _,λnm ac=>?_];obtain⟨c5,be,az,bo⟩:=aJ ac<|.lst [];rw[be];clear be;have bh:=bd.trans az;refine bN ?_;walk_at "r";refine AU (λm σ X=>L2.X6 λcm ls O J f pr'=>m=O.length/\σ=[Zh<|.ref c.a,Zh<|.ref hl,Zh<|.int (d:Int),Zh<|.ref cm,Zh<|.ref nm]/\aH Cb (aF.mk Cc Ca) E X c pr'/\X cm=Zh (.lst<|ls.map V.ref)/\PL X ls O/\X nm=Zh (.lst<|nL J)/\H cm=Zi/\(∀b∈ls,H b=Zi/\b≠nm)/\cm≠nm/\J.length+O.length<=200/\O.length<=f+1/\tot O=tot pcs/\Fr c.S H X/\c.W (vF d f O J) pr' post) ⟨_,bn,ag,pcs,[],_,pr,rfl,rfl,st.mono bh,az _ _ b6,af.mono az,bo,b8.free hd0,λb hb=>⟨(b3 b hb).1,λz=>by obtain⟨y,hy⟩:=af.ex hb;rw[z,ac] at hy;cases hy⟩,bE b6 ac,by simp;lia,kR _,rfl,bh.fr,w⟩ ?_;rintro m σ X ⟨cm,ls,O,J,f,pr1,rfl,rfl,aa,aq,ae,au,bt,b9,c6,ao,c4,ah,fX,wX⟩;have ai:H nm=Zi:=bd.free ac;walk_at "r";refine#[cm,_,rfl,.inl<|aB.of aq,?_];rw[aM,ae.len];by_cases UI:(O.length:Int)>1
 .rw [Z9 UI];refine AS ?_;walk_at "r";obtain⟨f,rfl⟩:∃k,f=k+1:=#[f-1,∅]
  rw[vF,Z9<|∅] at wX;have c7:=zq (l:=O.length) bg ∅;refine#[c,pr1,cm,ls,O,d,_,rfl,aa,aq,ae,st.off bt,λl hl=>st.off (b9 l hl).1,∅,∅,∅,bc,hk,wX.bind,λpr' z=>bf pr' z,λl Y bq out pr2 fY ay b7 b4 aj bv ca c8 bx=>?_];have am:=fY _ _ (Ad.SA<|st.off ai) au;walk_at "r";refine#[.inl #[rfl,_,aB.of am],l,_,rfl,.inl<|aB.of b7,nm,_,_,rfl,rfl,am,vI<|by rw[aM];lia,?_];rw[aM,b4.len];have fZ:Fr [nm] Y<|upd Y nm<|.lst<|nL J++[.int ((out.length:Nat):Int)]:=Fr.upd aZ;have hZ:upd Y nm (.lst<|nL J++[.int ((out.length:Nat):Int)]) nm=Zh (.lst<|nL<|J++[out.length]):=by
   rw[aU];unfold nL;rw[cU];rfl
  generalize upd Y nm (.lst<|nL J++[.int ((out.length:Nat):Int)])=Z at fZ hZ⊢;have ap:∀b,X b=Zi->b≠nm:=λb h=>Pe<|bE au h;have ax:∀b,b≠nm->b∉[nm]:=λb n z=>n<|cI.mp z;refine#[out.length,∅,l,bq,out,J++[out.length],f,pr2,rfl,rfl,?_,fZ _ _ (ax _<|ap l ay) b7,b4.Xc fZ λb hb=>ax _<|ap b<|aj b hb,hZ,aa.free fX ay,λb hb=>#[aa.free fX<|aj b hb,ap b<|aj b hb],ap l ay,by rw[aQ,fM];lia,∅,∅,λb o n hb=>fZ _ _ (ax _<|bE hb ai)<|fY _ _ n<|fX b o n hb,bx];exact bv.apart fZ (λb hb=>by rw[cI.mp hb];exact .inl #[_,am]) λb hb=>by rw[cI.mp hb];exact st.off ai
 .rw [Z8 UI];have h1:O.length<=1:=∅
  have wE:post (Zh (O.headD [],J)) pr1:=by
   cases f with
   |zero=>exact wX
   |succ f=>rw[vF,Z8<|∅] at wX;exact wX
  refine bN ?_;walk_at "r";refine#[cm,_,rfl,aB.of aq,?_];cases ls with
  |nil=>
   have b1:O=[]:=Az.mp (by have:=ae.len;rw[<- this];rfl);rw[Z8<|by simp];refine#[cQ _,λe0 b0=>#[cP<|by decide,λtt ad=>?_]];have s0:=bO b0<|.lst [];have S:=s0.trans<|bO ad<|.tup [.ref e0,.ref nm];refine q tt e0 nm _ _ pr1 (fX.trans S.fr) (aa.free fX<|s0.free ad) (aa.free fX b0) ai aU ?_ (S _ _ au) (aa.mono S) ?_ wE
   .rw [b1];exact bO ad _ _ _ aU
   .rw [b1] at ah⊢;exact ah
  |cons b r=>
   obtain⟨ys,aw⟩:∃ys,O=[ys]:=by
    have bp:=ae.len;cases O with
    |nil=>simp at bp
    |cons y t=>
     cases t with
     |nil=>exact#[y,rfl]
     |cons z t=>simp at h1
   rw[Z9<|by simp];refine dQ (aB.of aq) (dE (v:=.ref b) (by decide) rfl) #[cP<|by decide,λtt ad=>?_];have S:=bO ad<|.tup [.ref b,.ref nm];have hb:=ae.at' 0 b ys rfl (by rw[aw];rfl);refine q tt b nm _ _ pr1 (fX.trans S.fr) (aa.free fX ad) (b9 b aZ).1 ai aU ?_ (S _ _ au) (aa.mono S) ?_ wE
   .rw [aw];exact S _ _ hb
   .rw [aw] at ah⊢;unfold tot at ah⊢;simpa using ah
theorem Os(F:dS K "by_pieces" "by_pieces" L5 f fd dv)
  (aa:Fn P w K mg base (aK P w) "by_pile" 9 ["asker","least","part"]<|cX Cb<|aF.mk Cc Ca)
  (Z:Fn P w K mg base (aK P w) "in_rounds" 14 ["asker","pieces","mouths"]<|cM Cb<|aF.mk Cc Ca)
  (J:Mt P w K mg base aP Cb "many" 1 ["self"]<|dB Cb)
 :aI P w K mg base (aK P w) 15 f fd ["asker","wide","mouths","least"]<|dO Cb<|aF.mk Cc Ca:=by
 refine F.UY Vp nofun λb6 A outer s H vs Q E hr h=>?_
 refine' bM 2 (bA<|cL<|dW bQ (iE Z hr.mn rfl jG ?_) ?_ λ_ _=>rfl) λ_ dZ _=>bM 1 (aG (PS.VC<|qG (E:=E) ⟨rfl,rfl⟩ (λ_ _ z=>z.UB) (i:=5) Vp.nd rfl (Or.inl rfl) rfl (k:=1) (js:=[0,3,1,4]) (N':=["first","asker","least","wide","many"]) (by rfl) (nV rfl T.UC<|jE bJ (pv 4)<|pv 1) (λ_ _ _ _=>kB (i:=0) (show(["first","asker","least","wide","many"]:List Pj).Nodup by decide+kernel) rfl<|by (first | exact Or.inl rfl | exact Or.inr rfl)) (λ_ _ _ _=>vG) λ_ _ _ _ _ hp=>(iE aa hr.mn rfl hp<|jE (pv 1) (pv 2)<|qe<|cG (pv 0)<|gE (Hf rfl) rfl T.VE Qm<|cG (bI jO (pv 0)<|pv 3)<|pv 4)) dZ) λ_ dZ _=>#[_,(aG (PS.UA<|bK (i:=4) Vp.nd rfl (by (first | exact Or.inl rfl | exact Or.inr rfl))<|pX J hr.mn eX<|pv 0) dZ),?_]
 walk_at "d";obtain⟨c,pr,wd,d,ls,post,rfl,st,ad,au,aw,ap,hn,w,av,q⟩:=h;walk_at "r";refine st.ha.Ux (by walk_at "l") #[c.a,c.rl,c.ru,c.tl,_,_,c.xs,rfl,st.ha,st.VZ,?_];rw[st.len];walk_at "r";refine bN ?_;walk_at "r";have b4:c.ks.length<=200:=hn;unfold Ji at w;have w:=w.bind;unfold Ae at w;refine oJ (i:=((0:Nat):Int)) ∅ (um (n:=c.n) ad) (cP (by have:=Kw (n:=c.n) ad;lia)) (λk ys σ X=>L2.X4 λv O out pr'=>σ=[v,Zh<|.ref c.a,Zh<|.int (ls:Nat),Zh<|.int (wd:Nat),Zh<|.int (c.n:Nat)]/\ys=O.map V.ref/\O.length=k/\PL X O out/\tot out=min (k*wd) c.n/\aH Cb (aF.mk Cc Ca) E X c pr'/\Fr c.S H X/\(∀l∈O,H l=Zi)/\c.W (yO grd ls wd c.n (cO c.n wd-k) (k*wd) out) pr' λpcs pr'=>c.W ((vF d pcs.length pcs []).bind λo=>match o with
  |none=>.ret Zi
  |some r=>.ret<|some r.1) pr' post) ⟨_,[],[],pr,rfl,rfl,rfl,.nil,by rw[Di,Nat.zero_min];rfl,st,.refl,(λl h=>by cases h),by rw[Di];exact w⟩ (λk ys σ X zz=>by obtain⟨_,ls,_,_,_,e,e2,_⟩:=zz;rw[e,aM,e2];exact aN _) ?_ ?_
 .rintro k ys σ X aj ⟨v,O,out,pr1,rfl,rfl,ao,af,am,ac,fX,ae,wX⟩;walk_at "r";have b1:=FA ad aj;have e0:((0:Nat):Int)+(k:Int)*(wd:Int)=((k*wd:Nat):Int):=by rw[Int.natCast_mul];lia
  rw[e0];generalize XI:k*wd=s at wX b1 am;refine#[_,_,rfl,?_];rw[GY,show min ((s:Int)+wd) (c.n:Nat)=((min (s+wd) c.n:Nat):Int) by lia];refine#[cP<|by decide,λpt az=>?_];obtain⟨X1,e1,U,h1⟩:=aJ az<|.tup [.int (s:Int),.int ((min (s+wd) c.n:Nat):Int)];rw[e1];clear e1;rw[show cO c.n wd-k=(cO c.n wd-(k+1))+1 by lia,yO] at wX;refine#[c,pr1,ls,s,min (s+wd) c.n,.ref pt,_,rfl,ac.mono U,.inl #[pt,rfl,h1],∅,∅,∅,wX.bind,λl Y os pr2 fY ag ay ah b8 ai=>?_];have aq:X l=Zi:=U.free ag;refine fG.of aj #[_,O++[l],out++[os],pr2,rfl,by rw[cU];rfl,by rw[aQ,ao];rfl,((af.mono U).Xc fY λb hb=>Ad.SA<|st.off<|ae b hb).snoc ay,?_,ah,fX.trans<|U.fr.trans fY,λl' h=>?_,?_]
  .rw [LB,C7,XI,show tot [os]=os.length by unfold tot;simp];lia
  .rcases gZ.mp h with h|h
   .exact ae l' h
   .rw [cI.mp h];exact ac.free fX aq
  .rw [C7,XI];exact ai
 rintro ys σ X ⟨v,O,out,pr1,rfl,rfl,ao,af,am,ac,fX,ae,wX⟩ pl as;rw[kP] at wX;have wX:c.W ((vF d out.length out []).bind _) pr1 post:=wX;obtain⟨X1,e1,U,h1⟩:=aJ as<|.lst<|O.map V.ref;rw[e1];clear e1;have b7:=Kw (n:=c.n) ad;have b9:=af.len;refine bN ?_;walk_at "r";refine#[c,pr1,pl,O,out,d,_,rfl,ac.mono U,h1,af.mono U,∅,∅,aw,ap,∅,wX.bind,λpr' z=>av pr' z,λt l nm Y r pr2 fY b5 ag b2 b0 ax b3 ah VZ ai=>?_];refine iI (cH.of b0) (dE (by decide) rfl) ?_;exact q l Y r.1 pr2 (fX.trans<|U.fr.trans fY) (ac.free fX<|U.free ag) ax ah ai
theorem Oy(F:aS K "spot_from_behind" "spot_from_behind" MR f fd)
  (z:Mt P w K mg base (aK P w) Cb "ahead" 3 ["self","p","q"]<|bL Cb Cc Ca mG)
 :aI P w K mg base (aK P w) 4 f fd ["asker","order","place"]<|pF Cb<|aF.mk Cc Ca:=by
 refine F.UY Vr nofun λaa A outer s H vs Q E hr h=>?_
 obtain⟨c,pr,os,pl,ol,post,rfl,st,O,U,hk,w,q⟩:=h;refine#[_,(aG (PS.UA<|bK (i:=3) Vr.nd rfl (by (first | exact Or.inl rfl | exact Or.inr rfl))<|gE oY rfl T.UD PF<|bC<|pv 1)<|aG (PS.VC<|AR (tG #[rfl,rfl]) (PW.pt<|CN (fF F4 (pv 3) bJ<|dF _)<|Ea<|Jw<|vD<|hX z hr.mn rO (pv 0)<|cG (dW bQ (pv 1) (bI qd (pv 3) bJ) λ_ _=>rfl)<|pv 2)<|bA<|Im (i:=3) Vr.nd rfl (by (first | exact Or.inl rfl | exact Or.inr rfl)) bJ Fw)<|bA<|PS.UA<|cL<|pv 3),?_];walk_at "r";refine#[ol,_,rfl,.inl<|aB.of O,?_];rw[aM];refine AU (λm σ H'=>L2.X2 λ(s:Nat) (pr':List A3)=>m=s/\σ=[Zh<|.ref c.a,Zh<|.ref ol,Zh<|.int pl,Zh<|.int s]/\s<=os.length/\Fr c.S H H'/\aH Cb (aF.mk Cc Ca) E H' c pr'/\c.W (vS os pl s) pr' post) ⟨_,os.length,pr,rfl,rfl,aN _,.refl,st,w⟩ ?_;rintro m σ H' ⟨s,pr',rfl,rfl,hs,fr,J,w'⟩;walk_at "r";cases m with
 |zero=>
  rw[Z8<|∅];walk_at "r";exact q 0 H' pr' fr J w'
 |succ s=>
  rw[Z9<|∅];have ho:=(oX (os:=os) (i:=s)<|∅).1;rw[vS] at w';generalize os.getD s 0=o at ho w';refine J.ha.Ux (by walk_at "l") ?_;rw[show((s+1:Nat):Int)-1=(s:Int) by lia];refine dQ (aB.of<|fr _ _ U O) (rW ho) ?_;refine J.ahead hk w' λb H2 pr2 Z s2 w2=>?_;refine jZ ?_;cases b
  .rw [Z9<|by decide];refine AS ?_;walk_at "r";exact#[s,Ba _,s,pr2,rfl,by rw[show((s+1:Nat):Int)-1=(s:Int) by lia],∅,fr.trans Z,s2,w2]
  .rw [Z8<|by decide];walk_at "r";exact q (s+1) H2 pr2 (fr.trans Z) s2 w2
theorem Oo(F:aS K "by_putting" "by_putting" Mi f fd)
  (O:Fn P w K mg base (aK P w) "spot_of" 4 ["asker","order","place"]<|gH Cb<|aF.mk Cc Ca)
  (z:Mt P w K mg base aP Cb "many" 1 ["self"]<|dB Cb)
 :aI P w K mg base (aK P w) 5 f fd ["asker"]<|iB vB Cb<|aF.mk Cc Ca:=by
 refine F.UY Vq nofun λah A outer s H vs Q E hr h=>?_
 obtain⟨c,pr,post,rfl,st,hk,w,q⟩:=h;refine#[_,(aG (PS.UA<|bK (i:=1) Vq.nd rfl (by (first | exact Or.inl rfl | exact Or.inr rfl))<|xa AH)<|aG (PS.VC<|D5 (tG #[rfl,rfl]) rfl (Am rfl T.UC<|bC<|pX z hr.mn eX<|pv 0) (kB (i:=2) Vq.nd rfl<|by (first | exact Or.inl rfl | exact Or.inr rfl))<|bA<|mF<|rV Pk QR QQ JV (pv 1)<|cG (iE O hr.mn rfl rO<|jE (pv 0) (pv 1)<|pv 2)<|pv 2)<|bA<|PS.UA<|cL<|pv 1),?_];walk_at "r";refine#[cQ _,λol U=>?_];obtain⟨H2,e2,s2,ag⟩:=aJ U<|.lst<|nL [];rw[show(HO.lst ([]:List V))=.lst (nL []) from rfl,e2];clear e2;have Z:=st.mono s2;have ad:=st.off U;refine Z.ha.Ux (by walk_at "l") #[c.a,c.rl,c.ru,c.tl,_,_,c.xs,rfl,Z.ha,Z.VZ,?_];rw[Z.len];have aj:c.ks.length<=200:=hk;refine G9 ∅<|Gk (λi σ H'=>L2.X3 λ(v2:Option V) (os:List Nat) (pr':List A3)=>σ=[Zh<|.ref c.a,Zh<|.ref ol,v2]/\H' ol=Zh (.lst<|nL os)/\os.length=i/\Fr c.S H H'/\aH Cb (aF.mk Cc Ca) E H' c pr'/\c.W (iY vB (c.n-i) i os) pr' post) ⟨_,[],pr,rfl,ag,rfl,s2.fr,Z,w⟩ ?_ ?_
 .rintro i σ H' hi ⟨v2,os,pr',rfl,J,ho,fr,ac,w'⟩;walk_at "r";rw[QF];have ai:i<c.n:=by show i<c.ks.length;lia
  rw[show c.n-i=(c.n-(i+1))+1 by lia,iY] at w';refine#[.inl #[rfl,_,aB.of J],c,pr',os,i,ol,_,rfl,ac,J,Ad.SA ad,∅,(w'.bind).UU<|JT os i,λr H3 pr3 VO ae hp=>?_];obtain⟨af,w3⟩:=hp;have aa:=VO _ _ (Ad.SA ad) J;refine#[ol,_,_,_,rfl,rfl,aa,vI<|by rw[aM];lia,∅,?_];rw[JE af];refine#[_,gT os r i,pr3,rfl,aU,?_,λb o n h=>?_,ae.upd aa ad,w3]
  .have:=bS (os:=os) (r:=r) (x:=i) |>.length_eq
   rw[this,aQ,fM];lia
  .rw [aO<|bE h U];exact VO _ _ n<|fr _ _ n h
 rintro σ H' ⟨v2,os,pr',rfl,J,ho,fr,ac,w'⟩;walk_at "r";rw[Int.toNat_natCast,kP] at w';exact q ol H' os pr' fr U J ac w'
theorem OJ(F:aS K "by_walking" "by_walking" Mj f fd)
  (z:Fn P w K mg base (aK P w) "spot_from_behind" 4 ["asker","order","place"]<|pF Cb<|aF.mk Cc Ca)
  (J:Mt P w K mg base aP Cb "many" 1 ["self"]<|dB Cb)
 :aI P w K mg base (aK P w) 5 f fd ["asker"]<|iB DZ Cb<|aF.mk Cc Ca:=by
 refine F.UY Vo nofun λah A outer s H vs Q E hr h=>?_
 obtain⟨c,pr,post,rfl,st,hk,w,q⟩:=h;refine#[_,(aG (PS.UA<|bK (i:=1) Vo.nd rfl (by (first | exact Or.inl rfl | exact Or.inr rfl))<|xa AH)<|aG (PS.VC<|D5 (tG #[rfl,rfl]) rfl (Am rfl T.UC<|bC<|pX J hr.mn eX<|pv 0) (kB (i:=2) Vo.nd rfl<|by (first | exact Or.inl rfl | exact Or.inr rfl))<|bA<|mF<|rV Pk QR QQ JV (pv 1)<|cG (iE z hr.mn rfl rO<|jE (pv 0) (pv 1)<|pv 2)<|pv 2)<|bA<|PS.UA<|cL<|pv 1),?_];walk_at "r";refine#[cQ _,λol U=>?_];obtain⟨H2,e2,s2,ag⟩:=aJ U<|.lst<|nL [];rw[show(HO.lst ([]:List V))=.lst (nL []) from rfl,e2];clear e2;have Z:=st.mono s2;have ad:=st.off U;refine Z.ha.Ux (by walk_at "l") #[c.a,c.rl,c.ru,c.tl,_,_,c.xs,rfl,Z.ha,Z.VZ,?_];rw[Z.len];have aj:c.ks.length<=200:=hk;refine G9 ∅<|Gk (λi σ H'=>L2.X3 λ(v2:Option V) (os:List Nat) (pr':List A3)=>σ=[Zh<|.ref c.a,Zh<|.ref ol,v2]/\H' ol=Zh (.lst<|nL os)/\os.length=i/\Fr c.S H H'/\aH Cb (aF.mk Cc Ca) E H' c pr'/\c.W (iY DZ (c.n-i) i os) pr' post) ⟨_,[],pr,rfl,ag,rfl,s2.fr,Z,w⟩ ?_ ?_
 .rintro i σ H' hi ⟨v2,os,pr',rfl,O,ho,fr,ac,w'⟩;walk_at "r";rw[QF];have ai:i<c.n:=by show i<c.ks.length;lia
  rw[show c.n-i=(c.n-(i+1))+1 by lia,iY] at w';refine#[.inl #[rfl,_,aB.of O],c,pr',os,i,ol,_,rfl,ac,O,Ad.SA ad,∅,(w'.bind).UU<|xt os i,λr H3 pr3 VO ae hp=>?_];obtain⟨af,w3⟩:=hp;have aa:=VO _ _ (Ad.SA ad) O;refine#[ol,_,_,_,rfl,rfl,aa,vI<|by rw[aM];lia,∅,?_];rw[JE af];refine#[_,gT os r i,pr3,rfl,aU,?_,λb o n h=>?_,ae.upd aa ad,w3]
  .have:=bS (os:=os) (r:=r) (x:=i) |>.length_eq
   rw[this,aQ,fM];lia
  .rw [aO<|bE h U];exact VO _ _ n<|fr _ _ n h
 rintro σ H' ⟨v2,os,pr',rfl,O,ho,fr,ac,w'⟩;walk_at "r";rw[Int.toNat_natCast,kP] at w';exact q ol H' os pr' fr U O ac w'
theorem Ol(F:aS K "by_reach" "by_reach" LS f fd)
  (O:Fn P w K mg base (aK P w) "spot_of" 4 ["asker","order","place"]<|gH Cb<|aF.mk Cc Ca)
  (J:Mt P w K mg base aP Cb "many" 1 ["self"]<|dB Cb)
  (z:Mt P w K mg base (aK P w) Cb "ahead" 3 ["self","p","q"]<|bL Cb Cc Ca mG)
 :aI P w K mg base (aK P w) 5 f fd ["asker","reach"]<|iO Cb<|aF.mk Cc Ca:=by
 refine F.UY Vn nofun λap A outer s H vs Q E hr h=>?_
 obtain⟨c,pr,post,rfl,st,hk,w,q⟩:=h;refine#[_,(aG (PS.UA<|bK (i:=2) Vn.nd rfl (by (first | exact Or.inl rfl | exact Or.inr rfl))<|xa AH)<|aG (PS.VC<|D5 (tG #[rfl,rfl]) rfl (Am rfl T.UC<|bC<|pX J hr.mn eX<|pv 0) (kB (i:=3) Vn.nd rfl<|by (first | exact Or.inl rfl | exact Or.inr rfl))<|aG (bK (i:=4) Vn.nd rfl (by (first | exact Or.inl rfl | exact Or.inr rfl))<|gE (Ly rfl) rfl T.Wn RT<|cG bJ<|bI qd (gE oY rfl T.UD PF<|bC<|pv 2)<|pv 1)<|aG (gO (PW.pt<|CN (fF F4 (pv 4) bJ<|dF _)<|Ea<|Jw<|vD<|hX z hr.mn rO (pv 0)<|cG (dW bQ (pv 2) (bI qd (pv 4) bJ) λ_ _=>rfl)<|pv 3) (bA<|qH) CV)<|bA<|mF<|rV Pk QR QQ JV (pv 2)<|cG (bI jO (pv 4)<|iE O hr.mn rfl rO<|jE (pv 0) (Ha JL (pv 2) (AN<|pv 4) uD)<|pv 3)<|pv 3)<|bA<|PS.UA<|cL<|pv 2),?_];walk_at "r";refine#[cQ _,λol U=>?_];obtain⟨H2,e2,s2,ao⟩:=aJ U<|.lst<|nL [];rw[show(HO.lst ([]:List V))=.lst (nL []) from rfl,e2];clear e2;have ac:=st.mono s2;have af:=st.off U;refine ac.ha.Ux (by walk_at "l") #[c.a,c.rl,c.ru,c.tl,_,_,c.xs,rfl,ac.ha,ac.VZ,?_];rw[ac.len];have as:c.ks.length<=63:=hk;refine G9 ∅<|Gk (λi σ H'=>L2.X4 λ(v3 v4:Option V) (os:List Nat) (pr':List A3)=>σ=[Zh<|.ref c.a,Zh<|.int c.n,Zh<|.ref ol,v3,v4]/\H' ol=Zh (.lst<|nL os)/\os.length=i/\Fr c.S H H'/\aH Cb (aF.mk Cc Ca) E H' c pr'/\c.W (lM c.n (c.n-i) i os) pr' post) ⟨_,_,[],pr,rfl,ao,rfl,s2.fr,ac,w⟩ ?_ ?_
 .rintro i σ H' hi ⟨v3,v4,os,pr1,rfl,Z,ag,fr,ae,w'⟩;have aq:i<c.n:=by show i<c.ks.length;lia
  rw[show c.n-i=(c.n-(i+1))+1 by lia,lM] at w';rw[QF];walk_at "r";refine#[ol,_,rfl,.inl<|aB.of Z,?_];walk_at "r";rw[aM];refine#[_,_,rfl,?_];rw[show(if ((os.length:Int)-(c.n:Int))>0 then((os.length:Int)-(c.n:Int)) else 0)=((os.length-c.n:Nat):Int) by split<;>lia];replace w':=w'.bind;rw[Z8<|∅];rw[Z8<|∅] at w';have f1:Fr c.S H' H':=.refl;have s1:=ae;have w2:=w';have aa:=f1 _ _ (Ad.SA af) Z;refine#[.inl #[rfl,_,aB.of aa],xb (aB.of aa) λsl ai=>?_];rw[Cy<|by rw[aM];lia,uN];obtain⟨H3,e3,s3,ah⟩:=aJ ai<|.lst<|nL<|os.drop<|os.length-c.n;rw[e3];clear e3;refine#[c,pr1,os.drop<|os.length-c.n,i,sl,_,rfl,s1.mono s3,ah,Ad.SA<|s1.off ai,∅,(w2.bind).UU<|JT _ _,λr H4 pr3 aj VQ hp=>?_];obtain⟨am,w3⟩:=hp;rw[gP] at am;have ad:=aj _ _ (Ad.SA af)<|s3 _ _ aa;walk_at "r";rw[show((os.length-c.n:Nat):Int)+(r:Int)=((os.length-c.n+r:Nat):Int) by lia];refine#[ol,_,_,_,rfl,rfl,ad,vI<|by rw[aM];lia,∅,?_];rw[JE<|∅];refine#[_,_,gT os (os.length-c.n+r) i,pr3,rfl,aU,?_,λb o n h=>?_,VQ.upd ad af,w3]
  .have:=bS (os:=os) (r:=os.length-c.n+r) (x:=i) |>.length_eq
   rw[this,aQ,fM];lia
  .rw [aO<|bE h U];exact aj _ _ n<|s3 _ _<|f1 _ _ n<|fr _ _ n h
 rintro σ H' ⟨v3,v4,os,pr1,rfl,Z,ag,fr,ae,w'⟩;walk_at "r";rw[Int.toNat_natCast,kP] at w';exact q ol H' os pr1 fr U Z ae w'
theorem OL(F:aS K "cut_of_two" "cut_of_two" Ml f fd)
  (J:Mt P w K mg base (aK P w) Cb "ahead" 3 ["self","p","q"]<|bL Cb Cc Ca mG)
 :aI P w K mg base (aK P w) 4 f fd ["asker","left","right","many"]<|pI Cb<|aF.mk Cc Ca:=by
 refine F.UY Ve nofun λaf A outer s H vs Q E hr h=>?_
 obtain⟨c,pr,al,ar,ls,rs,m,post,rfl,st,U,O,ac,aa,hk,hm,w,q⟩:=h;refine#[_,(aG (PS.UA<|bK (i:=4) Ve.nd rfl (by (first | exact Or.inl rfl | exact Or.inr rfl))<|gE (Ly rfl) rfl T.Wn RT<|cG bJ<|bI qd (pv 3)<|gE oY rfl T.UD PF<|bC<|pv 2)<|aG (PS.UA<|bK (i:=5) Ve.nd rfl (by (first | exact Or.inl rfl | exact Or.inr rfl))<|gE (Hf rfl) rfl T.VE Qm<|cG (pv 3)<|gE oY rfl T.UD PF<|bC<|pv 1)<|aG (PS.VC<|AR (tG #[rfl,rfl]) (fF CI (pv 4) (pv 5)<|dF _)<|aG (bK (i:=6) Ve.nd rfl (by (first | exact Or.inl rfl | exact Or.inr rfl))<|bI CT (bI jO (pv 4)<|pv 5) bJ)<|bA<|gO (vD<|hX J hr.mn rO (pv 0)<|cG (dW bQ (pv 1) (pv 6) λ_ _=>rfl)<|dW bQ (pv 2) (bI qd (bI qd (pv 3)<|pv 6) bJ) λ_ _=>rfl) (bA<|bK (i:=4) Ve.nd rfl (by (first | exact Or.inl rfl | exact Or.inr rfl))<|bI jO (pv 6) bJ)<|bA<|bK (i:=5) Ve.nd rfl (by (first | exact Or.inl rfl | exact Or.inr rfl))<|pv 6)<|bA<|PS.UA<|cL<|pv 4),?_];walk_at "r";refine#[ar,_,rfl,.inl<|aB.of O,_,_,rfl,al,_,rfl,.inl<|aB.of U,_,_,rfl,?_];rw[aM,aM,GY,show min (m:Int) ls.length=((min m ls.length:Nat):Int) by lia,DL,show max (0:Int) ((m:Int)-rs.length)=((m-rs.length:Nat):Int) by lia];refine AU (λd σ H'=>L2.X5 λ(z high f:Nat) (v6:Option V) (pr':List A3)=>d=high-z/\σ=[Zh<|.ref c.a,Zh<|.ref al,Zh<|.ref ar,Zh<|.int m,Zh<|.int z,Zh<|.int high,v6]/\m-rs.length<=z/\high<=ls.length/\high<=m/\high-z<=f/\Fr c.S H H'/\aH Cb (aF.mk Cc Ca) E H' c pr'/\c.W (mX ls rs m f z high) pr' post) ⟨_,m-rs.length,min m ls.length,ls.length,_,pr,rfl,rfl,aN _,∅,∅,∅,.refl,st,w⟩ ?_;rintro d σ H' ⟨z,high,f,v6,pr',rfl,rfl,h1,h2,h3,hf,fr,s,w⟩;walk_at "r";by_cases UI:z<high
 .rw [Z9<|∅];refine AS ?_;walk_at "r";obtain⟨f,rfl⟩:∃f',f=f'+1:=#[f-1,∅]
  rw[mX,Z9 UI] at w;have ae:z<=(z+high)/2:=∅
  have ad:(z+high)/2<high:=∅
  refine#[#[by decide,by decide],?_];rw[show((z:Int)+high)/2=((z+high)/2:Nat) by lia];generalize (z+high)/2=mi at w ae ad;have ho:=(oX (os:=ls) (i:=mi)<|∅).1;have Z:=(oX (os:=rs) (i:=m-mi-1)<|∅).1;generalize ls.getD mi 0=o at ho w;generalize rs.getD (m-mi-1) 0=o2 at Z w;refine s.ha.Ux (by walk_at "l") ?_;refine dQ (aB.of<|fr _ _ ac U) (rW ho) ?_;rw[show(m:Int)-(mi:Nat)-1=((m-mi-1:Nat):Int) by lia];refine dQ (aB.of<|fr _ _ aa O) (rW Z) ?_;refine s.ahead hk w λb H2 pr2 f2 s2 w2=>?_;refine jZ ?_;cases b
  .rw [Z8<|by decide];exact#[mi-z,∅,z,mi,f,_,pr2,rfl,rfl,∅,∅,∅,∅,fr.trans f2,s2,w2]
  .rw [Z9 rfl];exact#[high-(mi+1),∅,mi+1,high,f,_,pr2,rfl,rfl,∅,∅,∅,∅,fr.trans f2,s2,w2]
 .rw [Z8<|∅];walk_at "r";refine q z H' pr' fr s ?_;cases f with
  |zero=>exact w
  |succ f=>rw[mX,Z8 UI] at w;exact w
theorem Oi(F:aS K "joined_apart" "joined_apart" Mz f fd)
  (Z:Fn P w K mg base (aK P w) "joined" 6 ["asker","left","right"]<|cV Cb<|aF.mk Cc Ca)
  (J:Fn P w K mg base (aK P w) "cut_of_two" 4 ["asker","left","right","many"]<|pI Cb<|aF.mk Cc Ca)
 :aI P w K mg base (aK P w) 7 f fd ["asker","left","right","parts"]<|iS Cb<|aF.mk Cc Ca:=by
 refine F.UY Vi nofun λcm A outer s H vs Q E hr h=>?_
 obtain⟨c,pr,al,ar,ls,rs,P,post,rfl,st,ad,am,U,aa,hk,cb,b2,ca,w,q⟩:=h;refine bM 4 (bA<|PS.VC<|cL<|IC (E:=E) #[rfl,rfl] (λ_ _ z=>z.UB) rfl (k:=1) (js:=[0,1,6,2,7]) (N':=["part","asker","left","cuts","right","others"]) (by rfl) (Am rfl T.UC<|bC<|pv 3) (λ_ _ _ _=>kB (i:=0) (show(["part","asker","left","cuts","right","others"]:List Pj).Nodup by decide+kernel) rfl<|by (first | exact Or.inl rfl | exact Or.inr rfl)) (λ_ _ _ _=>vG) λ_ _ _ _ _ hp=>(iE Z hr.mn rfl hp<|jE (pv 1) (Ha (Lv K) (pv 2) (AN<|dW (D1 K) (pv 3) (pv 0) λ_ _=>rfl)<|AN<|dW (D1 K) (pv 3) (bI jO (pv 0) bJ) λ_ _=>rfl)<|Ha (Lv K) (pv 4) (AN<|dW (D1 K) (pv 5) (pv 0) λ_ _=>rfl)<|AN<|dW (D1 K) (pv 5) (bI jO (pv 0) bJ) λ_ _=>rfl)) λ_ dZ _=>bM 3 (aG (PS.UA<|bK (i:=7) Vi.nd rfl (by (first | exact Or.inl rfl | exact Or.inr rfl))<|JG rfl (k:=2) (js:=[]) (N':=["end","cut"]) (by rfl) (E5 rfl T.Xr<|cG (pv 5)<|pv 6) (λ_ _ _ _=>BK (n:=2) K rfl<|Hc (kB (i:=0) (show(["end","cut"]:List Pj).Nodup by decide+kernel) rfl<|by (first | exact Or.inl rfl | exact Or.inr rfl))<|Hc (kB (i:=1) (show(["end","cut"]:List Pj).Nodup by decide+kernel) rfl<|by (first | exact Or.inl rfl | exact Or.inr rfl)) K1) (λ_ _ _ _=>vG) λ_ _ _ _=>(bI qd (pv 0)<|pv 1)) dZ) λ_ dZ _=>bM 2 (aG (PS.VC<|bK (i:=6) Vi.nd rfl (by (first | exact Or.inl rfl | exact Or.inr rfl))<|bI AG (bI AG (xa<|bC bJ)<|IC (E:=E) ⟨rfl,rfl⟩ (λ_ _ z=>z.UB) rfl (k:=1) (js:=[0,1,2]) (N':=["end","asker","left","right"]) (by rfl) (CU<|Ha JL (pv 5) (AN bJ)<|AN<|pv 3) (λ_ _ _ _=>kB (i:=0) (show(["end","asker","left","right"]:List Pj).Nodup by decide+kernel) rfl<|by (first | exact Or.inl rfl | exact Or.inr rfl)) (λ_ _ _ _=>vG) λ_ _ _ _ _ hp=>(iE J hr.mn rfl hp<|Aj (pv 1)<|jE (pv 2) (pv 3)<|pv 0))<|xa<|bC<|gE oY rfl T.UD PF<|bC<|pv 1) dZ) λ_ dZ _=>bM 1 (aG (PS.UA<|He (i:=5) Vi.nd rfl (Or.inl rfl) rfl (k:=1) (js:=[4,3]) (N':=["part","both","parts"]) (by rfl) (Am rfl T.UC<|bC<|bI jO (pv 3) bJ) (λ_ _ _ _=>kB (i:=0) (show(["part","both","parts"]:List Pj).Nodup by decide+kernel) rfl<|by (first | exact Or.inl rfl | exact Or.inr rfl)) (λ_ _ _ _=>vG) λ_ _ _ _=>(bI CT (bI Iy (pv 1)<|pv 0)<|pv 2)) dZ) λ_ dZ _=>#[_,(aG (PS.UA<|bK (i:=4) Vi.nd rfl (by (first | exact Or.inl rfl | exact Or.inr rfl))<|bI jO (gE oY rfl T.UD PF<|bC<|pv 1)<|gE oY rfl T.UD PF<|bC<|pv 2) dZ),?_]
 walk_at "r";refine#[al,_,rfl,.inl<|aB.of ad,ar,_,rfl,.inl<|aB.of am,?_];rw[iH,iH];refine bN ?_;walk_at "r";refine Ef ∅ (λi ys σ X=>∃v,σ=[v,Zh<|.int<|(ls.length:Int)+(rs.length:Int),Zh<|.int (P:Int)]/\aC H X/\ys=nL ((OW i).map<|aT ls rs P)) ⟨_,rfl,.refl _,rfl⟩ (λi ys σ X zz=>by obtain⟨_,_,_,e⟩:=zz;rw[e,iH,aM,fW];exact aN _) ?_ ?_
 .rintro i ys σ X hi ⟨v,rfl,sX,rfl⟩;walk_at "r";rw[QF];refine#[.inl #[∅,∅],#[∅,∅],?_];refine fG.of hi #[_,rfl,sX,?_];rw[Rw,cU,Ai];show _++[V.int<|((ls.length:Int)+(rs.length:Int))*(i:Int)/(P:Int)]=_++[V.int ((aT ls rs P i:Nat):Int)];unfold aT;rw[Int.natCast_ediv,Int.natCast_mul,Int.natCast_add]
 rintro ys σ H1 ⟨v,rfl,s1,rfl⟩ el aq;rw[show((P:Int)+1).toNat=P+1 by lia];obtain⟨H2,g2,s2,b8⟩:=aJ aq<|.lst<|nL<|(OW<|P+1).map<|aT ls rs P;rw[g2];clear g2;have S2:=s1.trans s2;have ce:=st.mono S2;refine bN ?_;walk_at "r";refine#[by decide,λz0 be=>?_];obtain⟨H3,g3,s3,hz⟩:=aJ be<|.lst<|nL [0];rw[show upd H2 z0 (HO.lst [V.int 0])=H3 from g3];clear g3;refine xb (aB.of<|s3 _ _ b8) λsl az=>?_;rw[show dR (nL<|(OW<|P+1).map<|aT ls rs P) (Zh 1) (Zh (P:Int))=nL (jK ((OW<|P+1).map<|aT ls rs P) 1 P) from Lg (i:=1) (by rw[aM,fW];lia)<|by rw[aM,fW];lia];have cf:jK ((OW<|P+1).map<|aT ls rs P) 1 P=(OW<|P-1).map λt=>aT ls rs P (t+1):=by
  refine RU λk=>?_;unfold jK;by_cases hk:k<P-1
  .rw [GK hk,AY,II<|∅,II hk,Nat.add_comm]
  .rw [r9<|by rw[iF];lia,r9<|by rw[aM,fW];lia]
 rw[cf];obtain⟨H4,g4,s4,ah⟩:=aJ az<|.lst<|nL<|(OW<|P-1).map λt=>aT ls rs P<|t+1;rw[g4];clear g4;have S4:=S2.trans<|s3.trans s4;have VQ:=st.mono S4;have c9:=Ad.SA<|(st.mono<|S2.trans s3).off az;have bc:c.n<=1000:=∅
 unfold CD at w;replace w:=w.bind;refine Ec (aB.of ah) (by rw[iH,aM,fW];lia) (λi ys σ X=>L2.X3 λv acc pr'=>σ=[v,Zh<|.ref c.a,Zh<|.ref al,Zh<|.ref ar]/\Fr c.S H4 X/\aH Cb (aF.mk Cc Ca) E X c pr'/\ys=nL acc/\acc.length=i/\(∀j x,acc[j]?=Zh x->x<=ls.length/\x<=aT ls rs P (j+1)/\aT ls rs P (j+1)<=x+rs.length)/\c.W (Ib ls rs P (P-1-i) (i+1) acc) pr' λc' pr'=>c.W (sF ls rs (0::(c'++[ls.length])) (lN ls rs (0::(c'++[ls.length])) P) P 0 []) pr' post) #[_,[],pr,rfl,.refl,VQ,rfl,rfl,λj x e=>by simp at e,w] (λi ys σ X _ zz=>by obtain⟨_,acc,_,_,e,_,e2,e3,_⟩:=zz;exact#[aB.of<|e _ _ c9 ah,by rw[e2,iH,e3];exact aN _]) ?_ ?_
 .rintro i ys x σ X hi hx ⟨v,acc,pr1,rfl,fX,sX,rfl,ae,O,wX⟩;rw[iH,aM,fW] at hi;obtain rfl:x=.int ((aT ls rs P (i+1):Nat):Int):=by
   unfold nL at hx;rw[eJ,II hi] at hx;exact(OX hx).symm
  have he:=vf (l:=ls) (r:=rs) (show i+1<=P by lia) b2;rw[show P-1-i=(P-1-(i+1))+1 by lia,Ib] at wX;walk_at "r";refine#[c,pr1,al,ar,ls,rs,aT ls rs P<|i+1,_,rfl,sX,fX _ _ (Ad.SA U)<|S4 _ _ ad,fX _ _ (Ad.SA aa)<|S4 _ _ am,Ad.SA U,Ad.SA aa,bc,he,(wX.bind).UU<|zT he,λr Y pr2 fY sY hp=>?_];obtain⟨hr,wY⟩:=hp;refine fG.of (by rw[iH,aM,fW];exact hi) #[_,acc++[r],pr2,rfl,fX.trans fY,sY,by rw[Ai];rfl,by rw[aQ,ae];rfl,λj x e=>?_,wY];by_cases z:j<acc.length
  .rw [mB z] at e;exact O j x e
  .rw [kE<|∅] at e;cases y:j-acc.length with
   |zero=>
    rw[y] at e;cases e;rw[show j=i by lia];exact hr
   |succ y'=>rw[y] at e;simp at e
 rintro ys σ H5 ⟨v,acc,bo,rfl,f5,ch,rfl,ae,O,w5⟩ c1 bn;rw[iH,aM,fW] at ae w5;rw[kP] at w5;have w5:c.W (sF ls rs (0::(acc++[ls.length])) (lN ls rs (0::(acc++[ls.length])) P) P 0 []) bo post:=w5;obtain⟨H6,g6,s6,bt⟩:=aJ bn<|.lst<|nL acc;rw[g6];clear g6;have c8:=Ad.SA<|ce.off be;refine#[z0,c1,_,_,rfl,rfl,s6 _ _<|f5 _ _ c8<|s4 _ _ hz,bt,by rw[iH,iH,QG];show 1+_<=_;lia,λc2 bf=>?_];obtain⟨H7,g7,s7,bq⟩:=aJ bf<|.lst<|nL [0]++nL acc;rw[g7];clear g7;have F7:Fr c.S H H7:=(S4.fr.trans f5).trans (s6.trans s7).fr;have bj:=ch.mono<|s6.trans s7;refine#[al,_,rfl,.inl<|aB.of<|F7 _ _ (Ad.SA U) ad,by decide,λe1 bg=>?_];rw[iH];obtain⟨H8,g8,s8,bu⟩:=aJ bg<|.lst<|nL [ls.length];rw[show upd H7 e1 (HO.lst [V.int (ls.length:Int)])=H8 from g8];clear g8;refine#[c2,e1,_,_,rfl,rfl,s8 _ _ bq,bu,by rw[aQ,iH,iH,iH,QG];show 1+_+1<=_;lia,λcu ax=>?_];obtain⟨cs,ag⟩:∃cs,cs=0::(acc++[ls.length]):=#[_,rfl]
 have bw:(nL [0]++nL acc)++nL [ls.length]=nL cs:=by rw[<- Ai,<- Ai,ag];rfl
 have aw:cs.length=P+1:=by rw[ag,cF,aQ,fM];lia
 rw[<- ag] at w5;rw[bw];clear bw;have aj:∀j,j<=P->cs.getD j 0<=ls.length/\cs.getD j 0<=aT ls rs P j/\aT ls rs P j<=cs.getD j 0+rs.length:=λj hj=>by
  rw[ag];by_cases z:j=0
  .subst z;have e0:aT ls rs P 0=0:=by unfold aT;rw[Tj,Nat.zero_div]
   rw[e0];exact#[cQ _,aN _,cQ _]
  .obtain ⟨i,rfl⟩:∃i,j=i+1:=#[j-1,∅]
   rw[fC,List.getElem?_cons_succ];by_cases y:i<acc.length
   .rw [mB y,bV y];exact O i _<|bV y
   .have ei:i+1=P:=∅
    rw[kE<|∅,show i-acc.length=0 by lia,ei,show aT ls rs P P=ls.length+rs.length by unfold aT;exact S9 _ b2];exact#[aN _,Et _ _,aN _]
 clear ag O;obtain⟨H9,g9,s9,b9⟩:=aJ ax<|.lst<|nL cs;rw[g9];clear g9;have ci:=Ad.SA<|(st.mono s1).off aq;have cc:=Ad.SA<|(bj.mono s8).off ax;have F9:Fr c.S H H9:=F7.trans (s8.trans s9).fr;have bx:=bj.mono<|s8.trans s9;have au:H9 el=Zh (.lst<|nL<|(OW<|P+1).map<|aT ls rs P):=s9 _ _<|s8 _ _<|s7 _ _<|s6 _ _<|f5 _ _ ci<|s4 _ _<|s3 _ _ b8;have b3:∀f:Nat->Nat,(nL<|(OW<|P+1).map f).length=P+1:=λf=>by rw[iH,aM,fW]
 clear bq bu bt hz ah b8;refine bN ?_;walk_at "r";refine zY (aB.of au) (aB.of b9) (by rw[b3];lia) (λi ys σ X=>L2.X2 λv w=>σ=[v,w]/\aC H9 X/\ys=nL ((OW i).map λt=>aT ls rs P t-cs.getD t 0)) #[_,_,rfl,.refl _,rfl] (λi ys σ X _ zz=>by obtain⟨_,_,_,e,e2⟩:=zz;exact#[aB.of<|e _ _ au,aB.of<|e _ _ b9,by rw[e2,iH,aM,fW];exact aN _]) ?_ ?_
 .rintro i ys x y σ X p hi hx hy ⟨v,w,rfl,sX,rfl⟩ hp;have bd:i<P+1:=by rw[b3,iH,aw] at hi;lia
  obtain rfl:x=.int ((aT ls rs P i:Nat):Int):=by
   unfold nL at hx;rw[eJ,II bd] at hx;exact(OX hx).symm
  obtain rfl:y=.int ((cs.getD i 0:Nat):Int):=by
   unfold nL at hy;rw[eJ,(oX (os:=cs) (i:=i)<|∅).1] at hy;exact(OX hy).symm
  refine G6 (cH.of aU) rfl ?_;walk_at "r";have A:=aj i ∅;refine fG.of hi #[_,_,rfl,sX.new hp,?_];rw[Rw,cU,Ai];show _++[V.int<|((aT ls rs P i:Nat):Int)-((cs.getD i 0:Nat):Int)]=_++[V.int ((aT ls rs P i-cs.getD i 0:Nat):Int)];rw[show(((aT ls rs P i:Nat):Int)-((cs.getD i 0:Nat):Int))=((aT ls rs P i-cs.getD i 0:Nat):Int) by lia]
 rintro ys σ c7 ⟨v,w,rfl,s10,rfl⟩ ot as;rw[b3,iH,aw,Nat.min_self];obtain⟨H11,bz,c6,bp⟩:=aJ as<|.lst<|nL<|lN ls rs cs P;rw[show upd c7 ot (HO.lst<|nL<|(OW<|P+1).map λt=>aT ls rs P t-cs.getD t 0)=H11 from bz];clear bz;have b7:∀j,j<=P->(lN ls rs cs P).getD j 0<=rs.length:=λj hj=>by
  have:=aj j hj;unfold lN;rw[fC,II<|∅];show aT ls rs P j-cs.getD j 0<=rs.length;lia
 have ck:(lN ls rs cs P).length=P+1:=by unfold lN;rw[aM,fW]
 generalize lN ls rs cs P=ot' at bp b7 ck w5;have b5:=s10.trans c6;have ai:Fr c.S H H11:=F9.trans b5.fr;have af:=bx.mono b5;have bi:=Ad.SA<|(bx.mono s10).off as;have b0:=b5 _ _ b9;have b1:=ai _ _ (Ad.SA U) ad;have b6:=ai _ _ (Ad.SA aa) am;refine bN ?_;walk_at "r";refine Ef ∅ (λi ys σ X=>L2.X4 λv fs out pr'=>σ=[v,Zh<|.ref c.a,Zh<|.ref al,Zh<|.ref cu,Zh<|.ref ar,Zh<|.ref ot]/\Fr c.S H11 X/\aH Cb (aF.mk Cc Ca) E X c pr'/\ys=fs.map V.ref/\fs.length=i/\PL X fs out/\(∀f∈fs,H11 f=Zi)/\c.W (sF ls rs cs ot' (P-i) i out) pr' post) ⟨_,[],[],bo,rfl,.refl,af,rfl,rfl,.nil,λf h=>(by cases h),w5⟩ (λi ys σ X zz=>by obtain⟨_,fs,_,_,_,_,_,e,e2,_⟩:=zz;rw[e,aM];lia) ?_ ?_
 .rintro i ys σ X hi ⟨v,fs,out,pr1,rfl,fX,ac,rfl,c3,b4,ap,wX⟩;have bd:i<P:=∅
  walk_at "r";rw[QF,show(i:Int)+1=((i+1:Nat):Int) by lia];have ay:=fX _ _ cc b0;have av:=fX _ _ bi bp;have A:=aj i ∅;have A':=aj (i+1) ∅;have B:=b7 i ∅;have B':=b7 (i+1) ∅;rw[show P-i=(P-(i+1))+1 by lia,sF] at wX;refine dQ (aB.of ay) (rW (oX (os:=cs) (i:=i)<|∅).1)<|Jt ?_;refine dQ (aB.of ay) (rW (oX (os:=cs) (i:=i+1)<|∅).1)<|Jt ?_;refine xb (aB.of<|fX _ _ (Ad.SA U) b1) λl1 ba=>?_;rw[Lg A.1 A'.1];have z1:=JK (l:=ls) (a:=cs.getD i 0) (b:=cs.getD (i+1) 0);have z2:=JK (l:=rs) (a:=ot'.getD i 0) (b:=ot'.getD (i+1) 0);generalize jK ls (cs.getD i 0) (cs.getD (i+1) 0)=A1 at wX z1⊢;obtain⟨X1,k1,t1,bh⟩:=aJ ba<|.lst<|nL A1;rw[k1];clear k1;refine dQ (aB.of<|t1 _ _ av) (rW (oX (os:=ot') (i:=i)<|∅).1)<|Jt ?_;refine dQ (aB.of<|t1 _ _ av) (rW (oX (os:=ot') (i:=i+1)<|∅).1)<|Jt ?_;refine xb (aB.of<|t1 _ _<|fX _ _ (Ad.SA aa) b6) λl2 br=>?_;rw[Lg B B'];generalize jK rs (ot'.getD i 0) (ot'.getD (i+1) 0)=A2 at wX z2⊢;obtain⟨X2,k2,t2,bv⟩:=aJ br<|.lst<|nL A2;rw[k2];clear k2;have T2:=t1.trans t2;refine#[c,pr1,l1,l2,A1,A2,_,rfl,ac.mono T2,t2 _ _ bh,bv,bc,∅,wX.bind,λl Y os pr2 fY ao c4 cg cj=>?_];have c0:Fr c.S X Y:=T2.fr.trans fY;have c5:X l=Zi:=T2.free ao;refine fG.of hi #[_,fs++[l],out++[os],pr2,rfl,fX.trans c0,cg,by rw[cU];rfl,by rw[aQ,c3];rfl,(b4.Xc c0 λb hb=>Ad.SA<|af.off<|ap b hb).snoc c4,λf hf=>?_,cj];rcases gZ.mp hf with h|h
  .exact ap f h
  .rw [cI.mp h];exact ac.free fX c5
 rintro ys σ X ⟨v,fs,out,pr1,rfl,fX,ac,rfl,c3,b4,ap,wX⟩ l ao;rw[Int.toNat_natCast,kP] at wX;have FX:Fr c.S H X:=ai.trans fX;have sN:=bO ao<|.lst<|fs.map V.ref;exact q l fs _ out pr1 (FX.trans sN.fr) (ac.free FX ao) aU (b4.mono sN) (λf hf=>af.free ai<|ap f hf) (ac.mono sN) wX
theorem NR(F:aS K "so_manieth" "so_manieth" Mm f fd)
  (ah:Mt P w K mg base aP Cb "many" 1 ["self"]<|dB Cb)
  (af:Mt P w K mg base aP Cf "first" 2 ["self"]<|gM Zk Cf)
  (O:Mt P w K mg base aP Cg "first" 2 ["self"]<|gM Zj Cg)
  (ai:Mt P w K mg base (aK P w) Cf "take" 7 ["self"]<|eK Cb (aF.mk Cc Ca) Zk Cf)
  (U:Mt P w K mg base (aK P w) Cg "take" 7 ["self"]<|eK Cb (aF.mk Cc Ca) Zj Cg)
  (aq:Kl P w K mg base (aK P w) "LastPour" Cg 10 ["self","asker","pieces"]<|bP Cb (aF.mk Cc Ca) Zj Cg)
  (be:Kl P w K mg base (aK P w) "Pour" Cf 10 ["self","asker","pieces"]<|bP Cb (aF.mk Cc Ca) Zk Cf)
 :aI P w K mg base (aK P w) 12 f fd ["asker","many"]<|gI Cb<|aF.mk Cc Ca:=by
 refine F.UY Vc nofun λcp A outer s H vs Q E hr h=>?_
 refine' bM 8 (bA<|PS.UA<|cL<|xo (vD<|pv 4) (qe<|jE (pv 8) (pv 7)<|pv 6)<|qe<|jE (pv 6) (pv 7)<|pv 8) λ_ dZ _=>bM 7 (aG (PS.UA<|He (i:=8) Vc.nd rfl (Or.inl rfl) rfl (k:=1) (js:=[7,6]) (N':=["other","place","taken"]) (by rfl) (Am rfl T.UC<|bC<|pv 2) (λ_ _ _ _=>kB (i:=0) (show(["other","place","taken"]:List Pj).Nodup by decide+kernel) rfl<|by (first | exact Or.inl rfl | exact Or.inr rfl)) (λ_ _ _ _=>(qN<|PW.pt<|CN (fF DH (pv 0) (pv 1)<|dF _)<|Ea<|fF (mQ K) (pv 0) (pv 2) rfl)) λ_ _ _ _=>(pv 0)) dZ) λ_ dZ _=>bM 6 (aG (PS.UA<|bK (i:=7) Vc.nd rfl (by (first | exact Or.inl rfl | exact Or.inr rfl))<|nW (pX af hr.mn eX<|pv 5)<|pX O hr.mn eX<|pv 5) dZ) λ_ dZ _=>bM 5 (aG (PS.VC<|bK (i:=6) Vc.nd rfl (by (first | exact Or.inl rfl | exact Or.inr rfl))<|gE jX rfl T.U3 QK<|bC<|IC (E:=E) ⟨rfl,rfl⟩ (λ_ _ z=>z.UB) rfl (k:=1) (js:=[5]) (N':=["turn","pour"]) (by rfl) (Am rfl T.UC<|bC<|gE (Hf rfl) rfl T.VE Qm<|cG (pv 1)<|bI qd (bI qd (pv 2) bJ)<|pv 1) (λ_ _ _ _=>kB (i:=0) (show(["turn","pour"]:List Pj).Nodup by decide+kernel) rfl<|by (first | exact Or.inl rfl | exact Or.inr rfl)) (λ_ _ _ _=>vG) λ_ _ _ _ _ hp=>(nW (pX ai hr.mn hp<|pv 1)<|pX U hr.mn hp<|pv 1)) dZ) λ_ dZ _=>bM 4 (aG (bK (i:=5) Vc.nd rfl (by (first | exact Or.inl rfl | exact Or.inr rfl))<|xo ?_ (GZ aq hr.mn rfl jG ?_)<|GZ be hr.mn rfl jG ?_) dZ) λ_ dZ _=>bM 2 (aG (PS.UA<|He (i:=3) Vc.nd rfl (Or.inl rfl) rfl (k:=1) (js:=[]) (N':=["place"]) (by rfl) (Am rfl T.UC<|bC<|pv 2) (λ_ _ _ _=>kB (i:=0) (show(["place"]:List Pj).Nodup by decide+kernel) rfl<|by (first | exact Or.inl rfl | exact Or.inr rfl)) (λ_ _ _ _=>vG) λ_ _ _ _=>(xa<|bC<|pv 0))<|aG (PS.UA<|bK (i:=4) Vc.nd rfl (by (first | exact Or.inl rfl | exact Or.inr rfl))<|AM F4 (pv 1) (bI qd (bI qd (pv 2) bJ)<|pv 1)<|dF _) dZ) λ_ dZ _=>#[_,(aG (PS.UA<|bK (i:=2) Vc.nd rfl (by (first | exact Or.inl rfl | exact Or.inr rfl))<|pX ah hr.mn eX<|pv 0)<|aG (gO ?_ (bA qH) ?_) dZ),?_]
 walk_at "d";obtain⟨c,pr,m,bb,post,rfl,b0,st,hm,hk,w,ao,q⟩:=h;walk_at "r";refine st.ha.Ux (by walk_at "l") #[c.a,c.rl,c.ru,c.tl,_,_,c.xs,rfl,st.ha,st.VZ,?_];walk_at "r";rw[st.len];have cn:c.ks.length<=63:=hk;have cq:m<c.ks.length:=hm;rw[Z8<|∅];rw[Z8<|∅];refine bN ?_;walk_at "r";refine Ef ∅ (λi ys σ X=>L2.X2 λv ls=>σ=[v]/\aC H X/\ys=ls.map V.ref/\ls.length=i/\(∀(j:Nat) l,ls[j]?=Zh l->X l=Zh (.lst<|nL [j]))) ⟨_,[],rfl,.refl _,rfl,rfl,λj l h=>by simp at h⟩ (λi ys σ X zz=>by obtain⟨_,ls,_,_,e,e2,_⟩:=zz;rw[e,aM,e2];exact aN _) ?_ ?_
 .rintro i ys σ X hi ⟨v,ls,rfl,sX,rfl,c6,hls⟩;walk_at "r";rw[QF];refine#[cP<|by decide,λl hl=>?_];refine fG.of hi #[_,ls++[l],rfl,sX.new hl,by rw[cU];rfl,by rw[aQ,c6];rfl,λj l' h=>?_];by_cases z:j<ls.length
  .rw [mB z] at h;exact bO hl _ _ _<|hls j l' h
  .have h1:=(jS.mp h).1;rw[aQ,fM] at h1;have:j=i:=∅
   subst this;rw[kE<|∅,c6,kP] at h;cases h;exact aU
 rintro ys σ X ⟨v,ls,rfl,sX,rfl,ax,au⟩ sl ca;rw[Int.toNat_natCast] at ax;obtain⟨ag,cg,bd,br⟩:=aJ ca<|.lst<|ls.map V.ref;rw[cg];clear cg;have aj:=sX.trans bd;walk_at "r";refine bN ?_;walk_at "r";apply Ie (α:=OS×Hp) (λx=>[Zh<|.ref c.a,Zh<|.int (m:Int),Zh<|.int (c.ks.length:Int),Zh<|.ref sl,Zh<|.bl<|decide<|(c.ks.length:Int)-1-m<m,Zh<|.ref x.1,Zi,Zi,Zi]) (λx=>x.2) λx=>L2.X9 λpl tk ml wd pls kvs ts w pr=>C0 Cb (aF.mk Cc Ca) E (cond bb Cg Cf) bb H x.2 c (min m<|c.n-1-m) post x.1 pl tk ml wd pls [] kvs ts w pr
 .intro ae;by_cases Xl:(c.ks.length:Int)-1-m<m
  .rw [Z9 Xl];obtain rfl:bb=Zj:=b0.trans (decide_eq_true<|by show c.ks.length-1-m<m;lia);intro po dp av bz bq;have b3:upd ag dp (.own po) po=Zi:=by rw[aO<|Pe bq];exact av
   have aa:aC ag<|upd (upd ag dp<|.own po) po<|.ins Cg dp []:=(bO bz _).trans<|bO b3 _;have b2:(upd (upd ag dp<|.own po) po<|.ins Cg dp []) po=Zh (.ins Cg dp []):=aU;generalize upd (upd ag dp<|.own po) po (.ins Cg dp [])=H16 at aa b2⊢;have as:=st.mono aj;have b7:=as.off av;have W:=w;unfold Eb at W;refine#[c,pr,po,dp,sl,ls,sg c.n,_,rfl,b2,as.mono aa,aa _ _ br,by rw[ax,CQ],λj l zs h1 h2=>?_,by rw[CQ];lia,b7,∅,W.bind,λpr' z=>(by obtain⟨_,_,_,z,_⟩:=ao _ _ z;cases z),λpl tk ml wd pls w1 H17 kvs pr1 bw pa dw c0 J b1 aw=>#[rfl,?_]]
   .obtain ⟨rfl,_⟩:=yl h2;exact aa _ _<|bd _ _<|au j l h1
   have ac:∀b,H16 b=Zi->H b=Zi:=λb h=>aj.free<|aa.free h;have aw:c.WB Zj (mJ (sg c.n) (min m<|c.n-1-m) (Pp (sg c.n).length 0) w1 []) pr1 post:=aw;refine ae (po,H17) #[pl,tk,ml,wd,pls,kvs,_,w1,pr1,#[b1,aw,pa,dw,c0,#[b7,st.off<|ac _ J.1,st.off<|ac _ J.2.1,st.off<|ac _ J.2.2.1,λl h=>st.off<|ac _<|J.2.2.2.2 l h],λb o m h=>?_,aj.free av,ac _ J.2.1]];exact bw b o (λz=>m<|by rw[z];exact aZ) (λz=>m<|bF _<|bF _ z)<|aa _ _<|aj _ _ h
  .rw [Z8 Xl];obtain rfl:bb=Zk:=b0.trans (decide_eq_false<|by show ¬ c.ks.length-1-m<m;lia);intro po dp av bz bq;have b3:upd ag dp (.own po) po=Zi:=by rw[aO<|Pe bq];exact av
   have aa:aC ag<|upd (upd ag dp<|.own po) po<|.ins Cf dp []:=(bO bz _).trans<|bO b3 _;have b2:(upd (upd ag dp<|.own po) po<|.ins Cf dp []) po=Zh (.ins Cf dp []):=aU;generalize upd (upd ag dp<|.own po) po (.ins Cf dp [])=H16 at aa b2⊢;have as:=st.mono aj;have b7:=as.off av;have W:=w;unfold Eb at W;refine#[c,pr,po,dp,sl,ls,sg c.n,_,rfl,b2,as.mono aa,aa _ _ br,by rw[ax,CQ],λj l zs h1 h2=>?_,by rw[CQ];lia,b7,∅,W.bind,λpr' z=>(by obtain⟨_,_,_,z,_⟩:=ao _ _ z;cases z),λpl tk ml wd pls w1 H17 kvs pr1 bw pa dw c0 J b1 aw=>#[rfl,?_]]
   .obtain ⟨rfl,_⟩:=yl h2;exact aa _ _<|bd _ _<|au j l h1
   have ac:∀b,H16 b=Zi->H b=Zi:=λb h=>aj.free<|aa.free h;have aw:c.WB Zk (mJ (sg c.n) (min m<|c.n-1-m) (Pp (sg c.n).length 0) w1 []) pr1 post:=aw;refine ae (po,H17) #[pl,tk,ml,wd,pls,kvs,_,w1,pr1,#[b1,aw,pa,dw,c0,#[b7,st.off<|ac _ J.1,st.off<|ac _ J.2.1,st.off<|ac _ J.2.2.1,λl h=>st.off<|ac _<|J.2.2.2.2 l h],λb o m h=>?_,aj.free av,ac _ J.2.1]];exact bw b o (λz=>m<|by rw[z];exact aZ) (λz=>m<|bF _<|bF _ z)<|aa _ _<|aj _ _ h
 rintro⟨po,H17⟩ ⟨pl,tk,ml,wd,pls,kvs,ts,w1,pr1,W0⟩;dsimp only at W0;obtain⟨k,ek⟩:∃k,min m (c.n-1-m)=k:=#[_,rfl]
 rw[ek] at W0;have ek:min m (c.ks.length-1-m)=k:=ek;clear sX au br aj ca bd ax;have hz:0<(sg c.n).length:=by rw[CQ];lia
 have bc:(sg c.n).length<=200:=by rw[CQ];lia
 have bf:∀pr',¬ post Zi pr':=λpr' z=>by obtain⟨_,_,_,z,_⟩:=ao _ _ z;cases z
 clear w st;refine bN ?_;walk_at "r";refine#[_,_,rfl,?_];rw[show(if (c.ks.length:Int)-1-m<m then(c.ks.length:Int)-1-m else(m:Int))=(k:Int) by rw[<- ek];split<;>lia];refine Ef ∅ (λi ys σ X=>L2.X7 λv wd kvs ts w pr acc=>σ=[v,Zh<|.ref po]/\ys=nL acc/\acc.length=i/\i<=k/\C0 Cb (aF.mk Cc Ca) E (cond bb Cg Cf) bb H X c k post po pl tk ml wd pls acc kvs ts w pr) ⟨_,wd,kvs,ts,w1,pr1,[],rfl,rfl,rfl,cQ _,W0⟩ (λi ys σ X zz=>by obtain⟨_,_,_,_,_,_,_,_,e,e2,_⟩:=zz;rw[e,aM,e2];exact aN _) ?_ ?_
 .rintro i ys σ X hi ⟨v,ba,am,ts,w2,pr2,acc,rfl,rfl,ap,cf,W⟩;have co:i<k:=∅
  have wX:=W.wp;rw[ap,show k-i=(k-(i+1))+1 by lia,mJ] at wX;walk_at "r";split at wX
  .rename_i cc hcc;obtain⟨x,j⟩:=cc;dsimp only at wX;cases bb
   .refine .inl (W.pa.pb.hp.Ux (by walk_at "l") #[c,pr2,po,pl,tk,ml,ba,pls,sg c.n,ts,w2,am,rfl,W.st,W.pa,W.px,W.dw,W.lv,bc,∅,.inr #[x,j,_,hz,hcc,wX.bind,λpr' z=>bf pr' z,λwd' w' Y bo pr3 fY bi bu b8 bx c3=>?_]]);refine fG.of ∅ #[_,wd',bo,_,w',pr3,acc++[x],rfl,?_,by rw[aQ,ap];rfl,∅,#[bx,?_,bi,bu,b8,W.px,W.fr.trans fY,W.new]]
    .unfold nL;rw[cU];rfl
    .rw [aQ,ap];exact c3
   .refine .inr (W.pa.pb.hp.Ux (by walk_at "l") #[c,pr2,po,pl,tk,ml,ba,pls,sg c.n,ts,w2,am,rfl,W.st,W.pa,W.px,W.dw,W.lv,bc,∅,.inr #[x,j,_,hz,hcc,wX.bind,λpr' z=>bf pr' z,λwd' w' Y bo pr3 fY bi bu b8 bx c3=>?_]]);refine fG.of ∅ #[_,wd',bo,_,w',pr3,acc++[x],rfl,?_,by rw[aQ,ap];rfl,∅,#[bx,?_,bi,bu,b8,W.px,W.fr.trans fY,W.new]]
    .unfold nL;rw[cU];rfl
    .rw [aQ,ap];exact c3
  .exact absurd wX (bf _)
 rintro ys σ X ⟨v,ba,am,ts,w2,pr2,acc,rfl,rfl,ap,cf,W⟩ l ci;rw[Int.toNat_natCast] at cf ap;obtain⟨X1,e1,cb,c9⟩:=aJ ci<|.lst<|nL acc;rw[e1];clear e1;have cr:k<c.ks.length:=∅
 have wX:=W.wp;rw[ap,kP,mJ] at wX;obtain⟨⟨x,j⟩,ay⟩:∃x,w2 0 (sg c.n).length=Zh (Zh x):=by
  have wX:=wX;split at wX
  .rename_i cc hcc;exact#[cc,hcc]
  .exact absurd wX (bf _)
 rw[ay] at wX;have wX:post (Zh (acc,x)) pr2:=wX;obtain⟨cm,x',rest,e,c4⟩:=ao _ _ wX;cases e;have ch:acc.Nodup:=by
  exact(C6.mp<|c4.nodup_iff.mpr Ax).1
 refine#[l,acc.map λ(n:Nat)=>(n:Int),rfl,aB.of (by rw[c9,D8]),by rw[aM];lia,λaz ms bg b4 b9=>?_];obtain⟨T2,rfl,bp,c8⟩:=K0 b4 b9 ch;rw[<- D8];obtain⟨X2,e2,ck,c7⟩:=aJ bg<|.lst<|nL T2;rw[e2];clear e2;have W2:=(W.mono cb).mono ck;have b5:H az=Zi:=W.free<|cb.free bg;refine bN ?_;walk_at "r";apply Ie (α:=Hp) (λ_=>[Zh<|.ref c.a,Zh<|.int (m:Int),Zh<|.int (c.ks.length:Int),Zh<|.ref sl,Zh<|.bl<|decide<|(c.ks.length:Int)-1-m<m,Zh<|.ref po,Zh<|.ref az,Zh<|.int (x:Int),Zi]) (λY=>Y) λY=>aC X2 Y
 .intro ae;cases bb
  .exact .inl (W2.pa.pb.hp.Ux (by walk_at "l") #[po,c.a,pl,tk,ml,ba,pls,sg c.n,w2,_,am,Zh (x,j),rfl,W2.pa.pb,W2.pa.Wt,.inl ay,λY sY=>ae Y sY])
  .exact .inr (W2.pa.pb.hp.Ux (by walk_at "l") #[po,c.a,pl,tk,ml,ba,pls,sg c.n,w2,_,am,Zh (x,j),rfl,W2.pa.pb,W2.pa.Wt,.inl ay,λY sY=>ae Y sY])
 intro Y sY;have WY:=W2.mono sY;have ce:=sY _ _ c7;clear b4 b9 ay W W2 c9 c7;refine bN ?_;walk_at "r";refine Ef ∅ (λi ys σ Y'=>∃v,σ=[v,Zh<|.int (x:Int),Zh<|.ref az]/\Y'=Y/\ys=nL ((OW i).filter λy=>decide (y≠x)&&!decide (y∈T2))) #[_,rfl,rfl,rfl] (λi ys σ Y' zz=>by obtain⟨_,_,_,e⟩:=zz;rw[e,aM];exact dJ (Sq _ _)<|by rw[fW];exact aN _) ?_ ?_
 .rintro i ys σ Y' hi ⟨v,rfl,rfl,rfl⟩;walk_at "r";rw[show(0+(i:Int))=(i:Int) by lia];have bj:∀f:Nat->Bool,(OW<|i+1).filter f=(OW i).filter f++if f i=Zj then[i] else[]:=λf=>by
   rw[Rw,C8];by_cases z:f i=Zj
   .rw [Z9 z,Q6 z];rfl
   .rw [Z8 z,QB z];rfl
  by_cases e:i=x
  .rw [Z8<|∅];refine fG.of hi #[_,rfl,rfl,?_];rw[bj,Z8 (by simp[e]),iG]
  .rw [Z9<|∅];refine#[az,nL T2,rfl,.inl<|aB.of ce,rfl,wM T2,?_];rw[Z9 rfl,show HU (.int (i:Int)) (nL T2)=decide (i∈T2) from zg i T2];refine jZ ?_;by_cases e2:i∈T2
   .rw [Z8<|by simp[e2]];refine fG.of hi #[_,rfl,rfl,?_];rw[bj,Z8 (by simp[e2]),iG]
   .rw [Z9<|by simp[e2]];refine fG.of hi #[_,rfl,rfl,?_];rw[bj,Z9<|by simp[e,e2]];unfold nL;rw[cU];rfl
 rintro ys σ Y' ⟨v,rfl,rfl,rfl⟩ bv bh;rw[Int.toNat_natCast];obtain⟨Z,e2,sZ,hZ⟩:=aJ bh<|.lst<|nL<|(OW c.ks.length).filter λy=>decide (y≠x)&&!decide (y∈T2);rw[e2];clear e2;have WZ:=WY.mono sZ;have c5:=sZ _ _ ce;have b6:H bv=Zi:=WY.free bh;have bn:∀rest,(acc++x::rest).Perm (OW c.n)->((OW c.ks.length).filter λy=>decide (y≠x)&&!decide (y∈T2)).Perm rest:=λrest cj=>B1 (T:=T2) cj bp;have bt:((OW c.ks.length).filter λy=>decide (y≠x)&&!decide (y∈T2)).Pairwise (·<·):=List.Pairwise.filter _ List.pairwise_lt_range;generalize (OW c.ks.length).filter (λy=>decide (y≠x)&&!decide (y∈T2))=R at hZ bn bt⊢;refine bN ?_;walk_at "r";by_cases Xl:(c.ks.length:Int)-1-m<m
 .rw [Z9 Xl];obtain rfl:bb=Zj:=b0.trans (decide_eq_true<|by show c.ks.length-1-m<m;lia);refine#[cP<|by decide,λtt ad=>?_];exact q tt bv az x acc R T2 _ pr2 (WZ.VO.trans (bO ad _).fr) (WZ.free ad) b6 b5 aU (bO ad _ _ _ hZ) (bO ad _ _ _ c5) bt c8 (WZ.st.mono<|bO ad _) wX λr hr=>#[bn r hr,bp]
 .rw [Z8 Xl];obtain rfl:bb=Zk:=b0.trans (decide_eq_false<|by show ¬ c.ks.length-1-m<m;lia);refine#[cP<|by decide,λtt ad=>?_];exact q tt az bv x acc T2 R _ pr2 (WZ.VO.trans (bO ad _).fr) (WZ.free ad) b5 b6 aU (bO ad _ _ _ c5) (bO ad _ _ _ hZ) c8 bt (WZ.st.mono<|bO ad _) wX λr hr=>#[bp,bn r hr]
theorem O2(F:aS K "_law_cell_at" "_law_cell_at" LF f fd)
 :aI P w K mg base aP 1 f fd ["_law_script","_law_k"]<|pJ K:=by
 refine F.ok V5 nofun λO A outer s H vs Q E U h=>?_
 refine' #[_,(aG ?_ ?_),?_];walk_at "d";obtain⟨a,ns,k,rfl,J,h0,q⟩:=h;walk_at "r";refine#[a,_,rfl,.inl J,?_];walk_at "r";rw[aM];unfold cellOf at q;split
 .rename_i hk;rw[Z9 hk] at q;have z:k.toNat<ns.length:=∅
  refine dQ J (rN h0<|bV z) ?_;rw[bV z] at q;exact q
 .rename_i hk;rw[Z8 hk] at q;exact q
theorem NY(F:aS K "_law_row" "_law_row" s_row f fd)
 :aI P w K mg base aP 1 f fd ["_law_numbers","_law_kind"]<|ud:=by
 refine F.ok Vh nofun λam A outer s H vs Q E hr h=>?_
 have ap:=Vh.nd;refine' bM 4 (bA<|cL<|Ln (js:=[3]) (N:=["_law_keys"]) rfl ?_ λ_ _ _ _=>(qe<|cG (dW (D1 K) (pv 1) (pv 0) λ_ _=>rfl)<|pv 0)) λ_ dZ _=>bM 3 (aG (gO ?_ (bA<|bK (i:=3) Vh.nd rfl (by (first | exact Or.inl rfl | exact Or.inr rfl))<|yJ ?_ ?_ rfl T.U3) ?_) dZ) λ_ dZ _=>bM 2 (aG ?_ dZ) λ_ dZ _=>bM 1 (aG (bK (i:=3) Vh.nd rfl (by (first | exact Or.inl rfl | exact Or.inr rfl))<|Ln (js:=[2]) (N:=["_law_base"]) rfl ?_ λ_ _ _ _=>(bI qd (bI Gh (pv 0)<|pv 1)<|bI CT (pv 1) bJ)) dZ) λ_ dZ _=>#[_,(aG (bK (i:=2) Vh.nd rfl (by (first | exact Or.inl rfl | exact Or.inr rfl))<|dW bQ (xa<|Aj ?_<|jE ?_ ?_<|bI Fg ?_ ?_) ?_ λ_ _=>rfl) dZ),?_]
 walk_at "d";obtain⟨a,kd,zs,rfl,ha,hz,q⟩:=h;walk_at "r";refine#[#[by decide,by decide,by decide],cP<|by decide,λp hp=>#[by decide,?_]];obtain⟨b,ai,hb⟩:∃b:Int,0<b/\mE [V.int 2,V.int 7,V.int 300,V.int<|10^Int.toNat 60] (kd%4)=Zh (V.int b):=by
  have m0:kd%4=0∨kd%4=1∨kd%4=2∨kd%4=3:=∅
  rcases m0 with e|e|e|e<;>rw[e]
  .exact #[2,by decide,dE (by decide) rfl]
  .exact #[7,by decide,dE (by decide) rfl]
  .exact #[300,by decide,dE (by decide) rfl]
  .exact #[10^Int.toNat 60,by decide,dE (by decide) rfl]
 refine dQ (aB.of aU) hb ?_;obtain⟨H1,e1,s1,_⟩:=aJ hp<|.lst [.int 2,.int 7,.int 300,.int<|10^Int.toNat 60];rw[e1];clear e1;refine bN ?_;walk_at "r";refine Ec (aB.of<|s1 _ _ ha) (by rw[aM];lia) (λi ys σ H'=>∃v,σ=[v,Zh<|.int b]/\H'=H1/\∃cs:List Int,ys=cs.map V.int/\cs.length=i) ⟨_,rfl,rfl,[],rfl,rfl⟩ (λi ys σ H' _ zz=>by obtain⟨_,_,e,cs,e2,e3⟩:=zz;exact#[by rw[e];exact aB.of<|s1 _ _ ha,by rw[e2,aM];lia]) ?_ ?_
 .rintro i ys x σ H' hi hx ⟨v,rfl,rfl,cs,rfl,U⟩;obtain⟨n,aj,rfl⟩:=zw hx;walk_at "r";refine#[ai,#[by decide,by decide],?_];exact fG.of hi #[_,rfl,rfl,cs++[_],by rw[cU];rfl,by rw[aQ,U];rfl]
 rintro ys σ H2 ⟨v,rfl,rfl,cs,rfl,U⟩ k1 ae;rw[aM] at U;obtain⟨H3,e3,s3,h3⟩:=aJ ae<|.lst<|cs.map V.int;rw[e3];clear e3;have S3:aC H H3:=s1.trans s3;refine bN ?_;walk_at "r";refine#[#[by decide,by decide],by decide,?_];apply DJ λ(Z:OS) (H4:Hp)=>aC H H4/\H Z=Zi/\∃ks:List Int,H4 Z=Zh (.lst<|ks.map V.int)/\ks.length=zs.length
 .intro J;by_cases h1:kd/4%4=1
  .rw [Z9 h1];refine#[k1,cs,rfl,aB.of h3,∅,λl ms hl O _=>?_];exact J l _ #[S3.new hl,S3.free hl,ms,aU,by rw[O.length_eq,U]]
  .rw [Z8 h1];exact J k1 H3 #[S3,s1.free ae,cs,h3,U]
 rintro Z H4 ⟨S4,ah,ks,h4,ac⟩;clear U S3 h3 s3 ae;refine bN ?_;walk_at "r";refine#[#[by decide,by decide],by decide,?_];apply DJ λ(Z:OS) (H4:Hp)=>aC H H4/\H Z=Zi/\∃ks:List Int,H4 Z=Zh (.lst<|ks.map V.int)/\ks.length=zs.length
 .intro J;by_cases h1:kd/4%4=2
  .rw [Z9 h1];refine#[Z,ks,rfl,aB.of h4,∅,λl ms hl O _=>?_];exact J l _ #[S4.new hl,S4.free hl,ms,aU,by rw[O.length_eq,ac]]
  .rw [Z8 h1];exact J Z H4 #[S4,ah,ks,h4,ac]
 rintro Z H4 ⟨S4,ah,ks,h4,ac⟩;refine bN ?_;walk_at "r";refine#[Z,_,rfl,.inl<|aB.of h4,?_];rw[aM];refine Ef ∅ (λi ys σ H'=>∃v,σ=[v,Zh<|.ref Z]/\aC H4 H'/\ys.length=i/\∀(j:Nat) k,j<i->ks[j]?=Zh k->∃r,ys[j]?=Zh (V.ref r)/\H' r=Zh (.tup [.int k,.int j])) ⟨_,rfl,.refl _,rfl,λ_ _ h=>∅⟩ (λi ys σ H' zz=>by obtain⟨_,_,_,l,_⟩:=zz;exact Sm l) ?_ ?_
 .rintro i ys σ H' hi ⟨v,rfl,s5,hl,ad⟩;have ag:i<ks.length:=∅
  walk_at "r";rw[show(0+(i:Int))=i by lia];refine dQ (aB.of<|s5 _ _ h4) (rN (v:=ks[i]) ∅<|by rw[Int.toNat_natCast];exact bV ag) #[cP<|by decide,λt ht=>?_];refine fG.of hi #[_,rfl,s5.new ht,by rw[aQ,hl];rfl,λj k' hj af=>?_];by_cases z:j<i
  .obtain ⟨r,a1,a2⟩:=ad j k' z af;exact#[r,by rw[mB<|∅];exact a1,bO ht _ _ _ a2]
  .have:j=i:=∅
   subst this;rw[bV ag] at af;cases af;exact#[t,by rw[<- hl,kE<|aN _,kP];rfl,aU]
 rintro xs σ H5 ⟨v,rfl,s5,ao,ad⟩ xl aa;refine q xl _ ks xs (S4.trans<|s5.new aa) (S4.free<|s5.free aa) aU ac #[∅,λi k hk=>?_];have hi:=(jS.mp hk).1;obtain⟨r,a1,a2⟩:=ad i k ∅ hk;exact#[r,a1,bO aa _ _ _ a2]
theorem NS(F:aS K "_law_dealt" "_law_dealt" K5 f fd)
 :aI P w K mg base aP 1 f fd ["_law_many","_law_deal","_law_order"]<|gN:=by
 refine F.ok Vs nofun λay A outer s H vs Q E hr h=>?_
 have az:=Vs.nd;refine' bM 2 (aG ?_ ?_) λ_ dZ _=>bM 1 (aG ?_ dZ) λ_ dZ _=>#[_,(aG (jV (i:=3) Vs.nd rfl (Or.inl rfl) (js:=[]) (N:=[]) rfl ?_ λ_ _ _ _=>(xa AH)) dZ),?_]
 walk_at "d";obtain⟨m,deal,ol,od,rfl,ac,ah,as,av,q⟩:=h;walk_at "r";refine Ef ∅ (λi ys σ X=>L2.X2 λv ls=>σ=[v]/\aC H X/\ys=ls.map V.ref/\ls.length=i/\ls.Nodup/\(∀b∈ls,H b=Zi)/\∀b∈ls,X b=Zh (.lst<|nL [])) ⟨_,[],rfl,.refl _,rfl,rfl,.nil,(λb J=>by cases J),λb J=>by cases J⟩ (λi ys σ X zz=>by obtain⟨_,ls,_,_,e,e2,_⟩:=zz;rw[e,aM,e2];exact aN _) ?_ ?_
 .rintro i ys σ X hi ⟨v,ls,rfl,sX,rfl,O,ad,aa,hls⟩;walk_at "r";refine#[cQ _,λl hl=>?_];refine fG.of hi #[_,ls++[l],rfl,sX.new hl,by rw[cU];rfl,by rw[aQ,O];rfl,?_,λb J=>?_,λb J=>?_]
  .refine C6.mpr #[ad,List.Pairwise.cons (λ_ h=>by cases h) .nil,λa ha b J=>?_];rw[cI.mp J];exact bE (hls a ha) hl
  .rcases gZ.mp J with h|h
   .exact aa b h
   .rw [cI.mp h];exact sX.free hl
  .rcases gZ.mp J with h|h
   .exact bO hl _ _ _ (hls b h)
   .rw [cI.mp h];exact aU
 rintro ys σ X ⟨v,hls,rfl,sX,rfl,O,ad,aa,U⟩ l hl;rw[Int.toNat_natCast] at O;obtain⟨H1,e1,s1,h1⟩:=aJ hl<|.lst<|hls.map V.ref;rw[e1];clear e1;have S1:=sX.trans s1;have au:H l=Zi:=sX.free hl;have ao:∀b∈hls,b≠l:=λb J=>bE (U b J) hl;have aj:∀b∈hls,H1 b=Zh (.lst<|nL []):=λb J=>s1 _ _<|U b J;clear U sX s1 hl;refine bN ?_;walk_at "r";walk_at "r";refine#[#[by decide,by decide],?_];refine bN ?_;walk_at "r";refine#[ol,_,rfl,.inl<|aB.of<|S1 _ _ ac,?_];rw[aM];refine G9 ∅<|Gk (λi σ X=>L2.X2 λ(v5 v6:Option V)=>σ=[Zh<|.int m,Zh<|.int deal,Zh<|.ref ol,Zh<|.ref l,Zh<|.int<|DS m deal i,v5,v6]/\(∀b o,b∉hls->H1 b=Zh o->X b=Zh o)/\PL X hls (dlt m deal od i)) ⟨_,_,rfl,λb o _ h=>h,by rw[O];exact(vE _).symm,λi b ys e1 e2=>?_⟩ ?_ ?_
 .rw [dlt] at e2;rw[(List.mem_replicate.mp<|jD e2).2];exact aj b<|jD e1
 .rintro i σ X hi ⟨v5,v6,rfl,kX,pl⟩;walk_at "r";rw[QF];have hj:=xE (deal:=deal) (k:=i) ah;have ap:toS m deal i<hls.length:=∅
  obtain⟨b,J⟩:∃b,hls[toS m deal i]?=Zh b:=#[_,bV ap]
  have ag:=bV (l:=dlt m deal od i) (show toS m deal i<(dlt m deal od i).length by rw[vE];exact hj);have ae:=pl.at' _ _ _ J ag;have am:(dlt m deal od i)[toS m deal i]'(by rw[vE];exact hj)=(dlt m deal od i).getD (toS m deal i) []:=by rw[fC,ag];rfl
  rw[am] at ae;have aq:=kX l _ (λz=>ao l z rfl) h1;have ai:=kX ol _ (λz=>by rw[aa ol z] at ac;cases ac)<|S1 _ _ ac;have af:i<od.length:=∅
  have ax:(dlt m deal od i).getD (toS m deal i) []∈dlt m deal od i:=by rw[<- am];exact R5 _
  have aw:=(JB i ∅ _ ax).length_le;rw[iF] at aw;have fin:∀T D:Int,DR m deal i=D->toS m deal i=(T%m).toNat->0<(m:Int)/\qD K (.ref l) (.int<|T%m) X λx Y=>Hh K "list" x Y/\qD K (.ref ol) (.int (i:Int)) Y λy Z=>pR x [y] Z λ_ Z=>IZ D m/\L2.X2 λ(v5 v6:Option V)=>[Zh<|V.int m,Zh<|.int deal,Zh<|.ref ol,Zh<|.ref l,Zh<|.int<|D/m,Zh<|.int (i:Int),Zh<|.int T]=[Zh<|V.int m,Zh<|.int deal,Zh<|.ref ol,Zh<|.ref l,Zh<|.int<|DS m deal<|i+1,v5,v6]/\(∀b o,b∉hls->H1 b=Zh o->Z b=Zh o)/\PL Z hls (dlt m deal od<|i+1):=λT D eD eT=>by
   refine#[∅,?_];have t0:=Pq T (show(m:Int)≠0 by lia);refine dQ (aB.of aq) (dE (v:=.ref b) t0<|by rw[<- eT,eJ,J];rfl) #[show Hh K "list" (.ref b) X from .inl #[rfl,_,aB.of ae],dQ (aB.of ai) (rW<|bV af) ?_];refine#[b,_,_,rfl,rfl,ae,vI<|by rw[aM];lia,#[∅,∅],_,_,by rw[<- eD];rfl,λb' o n h=>?_,by rw[vE,O],λk' l' ys e1 e2=>?_]
   .rw [aO λz=>n<|by rw[z];exact jD J];exact kX b' o n h
   .rw [dlt] at e2;by_cases z:k'=toS m deal i
    .subst z;rw[J] at e1;cases e1;rw[GO<|by rw[vE];exact hj] at e2;cases e2;rw[aU];unfold nL;rw[cU,fC (l:=od),bV af];rfl
    .rw [GN<|Pe z] at e2;rw[aO λy=>z<|(List.getElem?_inj (jS.mp e1).1 ad).mp<|by rw[e1,y,J]];exact pl.at' _ _ _ e1 e2
  refine#[#[by decide,by decide],by decide,.inl #[∅,∅],#[by decide,by decide],?_];by_cases hd:DS m deal i<1
  .rw [Z9 hd];refine#[by decide,.inl #[by decide,by decide],.inr #[by decide,by decide],by decide,by decide,?_];have eD:DR m deal i=(m:Int)+(deal%65521+97*(i:Int))*48271%65519:=by unfold DR;rw[Z9 hd]
   by_cases hp:deal%2=1
   .rw [Z9 hp];exact fin _ _ eD<|by unfold toS;rw[Z9 hp,eD]
   .rw [Z8 hp];exact fin _ _ eD<|by unfold toS;rw[Z8 hp]
  .rw [Z8 hd];refine#[by decide,?_];have eD:DR m deal i=DS m deal i:=by unfold DR;rw[Z8 hd]
   by_cases hp:deal%2=1
   .rw [Z9 hp];exact fin _ _ eD<|by unfold toS;rw[Z9 hp,eD]
   .rw [Z8 hp];exact fin _ _ eD<|by unfold toS;rw[Z8 hp]
 rintro σ X ⟨v5,v6,rfl,kX,pl⟩;walk_at "r";rw[Int.toNat_natCast] at pl;refine q l hls X (λb o h=>kX b o (λz=>by rw[aa b z] at h;cases h)<|S1 _ _ h) au aa (kX l _ (λz=>ao l z rfl) h1) pl
theorem OI(F:aS K "_law_due" "_law_due" ym f fd)
 :aI P w K mg base aP 1 f fd ["_law_way","_law_cell","_law_order"]<|lH:=by
 refine F.ok Vv nofun λaq A outer s H vs Q E hr h=>?_
 have as:=Vv.nd;refine' #[_,(aG ?_<|aG ?_<|bA<|cL<|bI AG (bI AG ?_ ?_) ?_),?_];walk_at "d";obtain⟨wy,cl,ol,od,n,rfl,z,J,hn,h0,q⟩:=h;walk_at "r";have U:od.length=n:=by rw[J.length_eq,fW]
 by_cases h7:wy=7
 .rw [Z8<|∅];have au:0<n:=h0 ∅;refine#[ol,_,rfl,.inl<|aB.of z,?_];rw[aM,U];have m0:=Pq cl (show(n:Int)≠0 by lia);have m1:=Px cl (show(0:Int)<n by lia);unfold mV at q;rw[Z9 h7] at q;obtain⟨m,em⟩:∃m:Nat,cl%(n:Int)=m:=#[(cl%(n:Int)).toNat,∅]
  rw[em] at m0 m1 q⊢;rw[Int.toNat_natCast] at q;have O:od.Nodup:=J.nodup_iff.mpr Ax;have ht:(od.take m++od.drop m).Perm<|OW n:=by rw[qf];exact J
  have hd:(od.drop (m+1)++od.take (m+1)).Perm<|OW n:=List.perm_append_comm.trans (by rw[qf];exact J);refine#[∅,xb (aB.of z) λs1 ad=>?_];rw[vn<|by rw[aM];lia,BV];obtain⟨H1,e1,k1,h1⟩:=aJ ad<|.lst<|nL<|od.take m;rw[e1];clear e1;refine#[s1,(od.take m).map λ(y:Nat)=>(y:Int),rfl,aB.of (by rw[<- D8];exact h1),by rw[aM,iF];lia,λl1 ms aj hp hs=>?_];obtain⟨so,rfl,p1,p2⟩:=K0 hp hs<|O.sublist<|Ew _ _;rw[<- D8];obtain⟨H2,e2,k2,h2⟩:=aJ aj<|.lst<|nL so;rw[e2];clear e2;have aa:m<od.length:=∅
  refine dQ (aB.of<|k2 _ _<|k1 _ _ z) (rW<|bV aa) #[cP<|by decide,λp af=>?_];obtain⟨H3,e3,k3,h3⟩:=aJ af<|.lst<|nL [od[m]];rw[show upd H2 p (HO.lst [V.int (od[m]:Nat)])=H3 from e3];clear e3;have ls:=p1.length_eq;rw[iF] at ls;refine#[l1,p,_,_,rfl,rfl,k3 _ _ h2,h3,cP<|by rw[iH,iH,fM];lia,λc1 am=>?_];rw[<- Ai];obtain⟨H4,e4,k4,h4⟩:=aJ am<|.lst<|nL<|so++[od[m]];rw[e4];clear e4;have S4:=k1.trans<|k2.trans<|k3.trans k4;refine xb (aB.of<|S4 _ _ z) λs2 ao=>?_;rw[show(m:Int)+1=((m+1:Nat):Int) by lia,LJ<|by rw[aM];lia,uN];obtain⟨H5,e5,k5,h5⟩:=aJ ao<|.lst<|nL<|od.drop<|m+1;rw[e5];clear e5;refine#[s2,(od.drop<|m+1).map λ(y:Nat)=>(y:Int),rfl,aB.of (by rw[<- D8];exact h5),by rw[aM,gP];lia,λl2 ap ah ai ae=>?_];obtain⟨ag,rfl,p3,p4⟩:=K0 ai ae<|O.sublist<|Tg _ _;rw[<- D8];obtain⟨H6,e6,k6,h6⟩:=aJ ah<|.lst<|nL ag;rw[e6];clear e6;have ac:=p3.length_eq;rw[gP] at ac;refine#[c1,l2,_,_,rfl,rfl,k6 _ _<|k5 _ _ h4,h6,cP<|by rw[iH,iH,aQ,fM];lia,λc2 Z=>?_];refine q c2 _ (S4.trans<|k5.trans<|k6.trans<|bO Z _) (.inr<|S4.free<|k5.free<|k6.free Z) ?_;rw[aU,<- Ai,G4 ht p1 p2,G4 hd p3 p4,fC,bV aa,fL];rfl
 .rw [Z9<|∅];have:=q ol H (.refl _)<|.inl rfl;unfold mV at this;rw[Z8 h7] at this;exact this z
theorem NK(F:aS K "_law_told" "_law_told" K8 f fd)
 :aI P w K mg base aP 1 f fd ["_law_found","_law_due_here","_law_bits"]<|iN:=by
 refine F.ok V4 nofun λav A outer s H vs Q E hr h=>?_
 refine' #[_,(aG (gO (PW.pt<|DX (Jw<|vD<|gE rL rfl T.VH PyProof.Rows.boot_isinstance<|cG ?_<|Fc rfl T.UT P4) ?_) ?_ ?_)<|aG (gO (fF (Ju hr.units) ?_ ?_<|dF _) (bA<|cL<|AM (Ju hr.units) ?_ ?_<|dF _) ?_)<|bA<|cL<|AM (Ju hr.units) ?_ (vH (Mn rfl) rfl T.UT P4<|bC<|vH wZ rfl T.UC RG ?_)<|dF _),?_];walk_at "d";obtain⟨l,dl,bl,os,due,bs,rfl,hl,ac,ag,ae,ap,hk,hb,q⟩:=h;walk_at "r";refine zc hl ?_;rw[Z8<|by decide];refine#[l,_,rfl,.inl<|aB.of hl,dl,_,rfl,.inl<|aB.of ac,?_];rw[aM,aM,ae,Z8 λz=>z rfl];refine#[cQ _,λe0 aj=>?_];obtain⟨Z,eZ,sZ,hZ⟩:=aJ aj<|.lst [];rw[eZ];clear eZ;refine Jl Enc.int.list (by decide) (a:=bs) (b:=[]) (AK<|aB.of<|sZ _ _ ag) (AK (xs:=[])<|aB.of hZ)<|jZ ?_;have U:=sZ _ _ hl;have aa:=sZ _ _ ac;rw[D8] at U aa;by_cases V8:bs=[]
 .rw [Z9<|by rw[V8];simp];refine Jl Enc.int.list (by decide) (AK<|aB.of U) (AK<|aB.of aa) ?_;rw[hk V8,decide_eq_true rfl];exact q _ sZ
 .rw [Z8<|by simpa using V8];refine#[l,_,rfl,aB.of U,by rw[aM];lia,λsl ms aq J O=>?_];have eM:=EJ (J.trans<|(hb V8).map _) O;subst eM;obtain⟨Z1,e1,ah,ao⟩:=aJ aq<|.lst<|((OW due.length).map λ(x:Nat)=>(x:Int)).map V.int;rw[e1];clear e1;refine#[dl,_,rfl,.inl<|aB.of<|ah _ _ aa,_,rfl,λrg as=>?_];rw[aM,aM];obtain⟨Z2,e2,ad,au⟩:=aJ as<|.rng 0 (due.length:Int);rw[e2];clear e2;refine#[rg,0,(due.length:Int),rfl,au,∅,λr2 am=>?_];obtain⟨Z3,e3,ai,af⟩:=aJ am<|.lst<|(xm 0 (due.length:Int)).map V.int;rw[e3];clear e3;have eR:(xm 0 (due.length:Int)).map V.int=nL (OW due.length):=by
   have:=LC (lo:=0) (hi:=due.length);rw[Nat.sub_zero,<- List.range_eq_range'] at this;exact this
  rw[eR,D8] at af;refine Jl Enc.int.list (by decide) (AK<|aB.of<|(ad.trans ai) _ _ ao) (AK<|aB.of af) ?_;rw[decide_eq_true rfl];exact q _<|sZ.trans<|ah.trans<|ad.trans ai
theorem O0(F:aS K "_law_by_lists" "_law_by_lists" LR f fd)
  (ae:Fn P w K mg base aP "_law_dealt" 1 ["_law_many","_law_deal","_law_order"]<|gN)
  (J:Fn P w K mg base (aK P w) "joined_apart" 7 ["asker","left","right","parts"]<|iS Cb<|aF.mk Cc Ca)
  (aa:Fn P w K mg base (aK P w) "poured" 12 ["asker","pieces"]<|eF Cb<|aF.mk Cc Ca)
  (ac:Fn P w K mg base (aK P w) "joined" 6 ["asker","left","right"]<|cV Cb<|aF.mk Cc Ca)
  (O:Fn P w K mg base (aK P w) "in_rounds" 14 ["asker","pieces","mouths"]<|cM Cb<|aF.mk Cc Ca)
 :aI P w K mg base (aK P w) 15 f fd ["_law_asker","_law_way","_law_cell","_law_order"]<|gJ Cb<|aF.mk Cc Ca:=by
 refine F.UY Vk nofun λbd A outer s H vs Q E hr h=>?_
 refine' bM 5 (aG (PS.VC<|D5 (tG #[rfl,rfl]) rfl (CU<|iE J hr.mn rfl rO<|Aj (pv 0)<|jE (dW bQ (pv 4) bJ λ_ _=>rfl) (dW bQ (pv 4) bJ λ_ _=>rfl)<|bI jO bJ<|bI Gh (bI CT (pv 2) bJ) bJ) (kB (i:=6) Vk.nd rfl<|by (first | exact Or.inl rfl | exact Or.inr rfl))<|bA<|bK (i:=5) Vk.nd rfl (by (first | exact Or.inl rfl | exact Or.inr rfl))<|bI AG (pv 5)<|pv 6)<|bA<|PS.UA<|cL<|pv 5) λ_ dZ _=>bM 4 (aG (PS.UA<|bK (i:=5) Vk.nd rfl (by (first | exact Or.inl rfl | exact Or.inr rfl))<|xa AH) dZ) λ_ dZ _=>bM 3 (aG (gO ?_ (bA<|cL<|iE ac hr.mn rfl jG ?_) ?_) dZ) λ_ dZ _=>bM 2 (aG (gO ?_ (bA<|cL<|dW bQ (iE O hr.mn rfl jG ?_) ?_ λ_ _=>rfl) ?_) dZ) λ_ dZ _=>bM 1 (aG (gO ?_ (bA<|cL<|iE aa hr.mn rfl jG ?_) ?_) dZ) λ_ dZ _=>#[_,(aG (PS.UA<|bK (i:=4) Vk.nd rfl (by (first | exact Or.inl rfl | exact Or.inr rfl))<|iE ae hr.mn rfl eX<|jE (bI jO bJ<|bI Iy (bI Gh (pv 2) bJ)<|vH oM rfl T.WT PyProof.Rows.boot_int<|bC<|AM CI (pv 1) bJ<|dF _) (bI CT (pv 2) bJ)<|pv 3) dZ),?_]
 walk_at "d";obtain⟨c,pr,wy,cl,ol,od,post,rfl,st,b1,b4,b0,hn,hw,w,ao,ai,q⟩:=h;walk_at "r";have ay:od.length=c.n:=by rw[b0.length_eq,fW]
 have d4:=Pq cl (show(4:Int)≠0 by decide);have d5:=Px cl (show(0:Int)<4 by decide);obtain⟨mN,Z⟩:∃mN:Nat,mN=if wy<6 then(2+cl%4).toNat else 2:=#[_,rfl]
 have b2:2+cl%4*(if decide ((wy:Int)<6)=Zj then 1 else 0)=(mN:Int):=by
  rw[Z];by_cases z:wy<6
  .rw [Z9<|decide_eq_true<|∅,Z9 z];lia
  .rw [Z8<|by simp;lia,Z8 z];lia
 have b6:2<=mN/\mN<=5:=by rw[Z];split<;>lia
 walk_at "r";refine#[by decide,.inr #[_,rfl,.inl #[∅,∅],#[by decide,by decide],?_]];rw[b2];refine#[mN,cl/60,ol,od,rfl,b1,∅,b6.2,∅,λl hls H1 s1 hl aj h1 pl=>?_];have ad:=st.mono s1;have ah:tot (fT mN (cl/60) od)=c.n:=by unfold tot;rw[<- RD,(D2<|∅).length_eq,ay]
 have b7:(fT mN (cl/60) od).length=mN:=vE _;clear b2;unfold dY at w;rw[Z8<|∅,Z8<|∅,Z8<|∅,Z8<|∅,Z8<|∅,Z8<|∅] at w;refine bN ?_;walk_at "r";by_cases h4:wy=4
 .rw [Z9<|∅];rw[Z9 h4] at w;rw[Z9<|∅] at Z;rw[<- Z] at w;exact#[c,pr,l,hls,_,post,rfl,ad,h1,pl,∅,∅,∅,w,ao,λl2 H2 os pr2 f2 U h2 s2 _ hp=>q l2 H2 os pr2 (s1.fr.trans f2) (s1.free U) h2 s2 hp]
 rw[Z8<|∅];rw[Z8 h4] at w;refine bN ?_;walk_at "r";by_cases h5:wy=5
 .rw [Z9<|∅];rw[Z9 h5] at w;rw[Z9<|∅] at Z;rw[<- Z,show vF (2+cl/4%3).toNat mN (fT mN (cl/60) od) []=vF (2+cl/4%3).toNat (fT mN (cl/60) od).length (fT mN (cl/60) od) [] by rw[b7]] at w;refine#[#[by decide,by decide],by decide,?_];have m3:=Pq (cl/4) (show(3:Int)≠0 by decide);have bc:=Px (cl/4) (show(0:Int)<3 by decide);obtain⟨d,hd⟩:∃d:Nat,2+cl/4%3=(d:Int):=#[(2+cl/4%3).toNat,∅]
  rw[hd] at w⊢;rw[Int.toNat_natCast] at w;refine#[c,pr,l,hls,_,d,_,rfl,ad,h1,pl,∅,∅,∅,∅,∅,w.bind,λpr' z=>ao pr' z,λt l2 nm H2 r pr2 f2 ht U bf h2 h3 h4 s2 _ hp=>?_];exact iI (cH.of h2) (dE (by decide) rfl)<|q l2 H2 r.1 pr2 (s1.fr.trans f2) (s1.free U) h3 s2 hp
 rw[Z8<|∅];rw[Z8 h5] at w;rw[Z8<|∅] at Z;subst Z;obtain⟨a,b,rfl,ha,hb⟩:=pl.two;have na:=st.off<|aj a aZ;have nb:=st.off<|aj b<|bF _ aZ;have ag:((fT 2 (cl/60) od).getD 0 []).length+((fT 2 (cl/60) od).getD 1 []).length=c.n:=by
  have e:=I0 (deal:=cl/60) (l:=od);rw[e] at ah;simpa[tot] using ah
 generalize (fT 2 (cl/60) od).getD 0 []=A at w ha ag;generalize (fT 2 (cl/60) od).getD 1 []=B at w hb ag;refine bN ?_;walk_at "r";by_cases h6:wy=6
 .rw [Z9<|∅];rw[Z9 h6] at w;refine dQ (aB.of h1) (dE (v:=.ref a) (by decide) rfl)<|dQ (aB.of h1) (dE (v:=.ref b) (by decide) rfl) ?_;exact#[c,pr,a,b,A,B,_,rfl,ad,ha,hb,∅,∅,w.bind,λl2 H2 os pr2 f2 U h2 s2 hp=>q l2 H2 os pr2 (s1.fr.trans f2) (s1.free U) h2 s2 hp]
 rw[Z8<|∅];rw[Z8 h6] at w;refine bN ?_;walk_at "r";refine#[cQ _,λpp ap=>?_];obtain⟨H5,e5,s5,b3⟩:=aJ ap<|.lst<|nL [];rw[show upd H1 pp (HO.lst [])=H5 from e5];clear e5;refine bN ?_;walk_at "r";refine dQ (aB.of<|s5 _ _ h1) (dE (v:=.ref a) (by decide) rfl)<|dQ (aB.of<|s5 _ _ h1) (dE (v:=.ref b) (by decide) rfl) #[#[by decide,by decide],by decide,?_];have m5:=Pq (cl/4) (show(5:Int)≠0 by decide);have b9:=Px (cl/4) (show(0:Int)<5 by decide);obtain⟨P5,hP⟩:∃P5:Nat,1+cl/4%5=(P5:Int):=#[(1+cl/4%5).toNat,∅]
 rw[hP] at w⊢;rw[Int.toNat_natCast] at w;have b5:=ad.off ap;refine#[c,pr,a,b,A,B,P5,_,rfl,ad.mono s5,s5 _ _ ha,s5 _ _ hb,na,nb,∅,∅,∅,∅,w.bind,λlo ba H6 out pr3 f6 be av am b8 aq hp=>?_];have F6:Fr c.S H H6:=s1.fr.trans<|s5.fr.trans f6;have hp:post (Zh out.flatten) pr3:=hp;have bg:=ai _ _ hp;refine KW (aB.of av) (λi σ X=>L2.X2 λ(v6:Option V) (pq:OS)=>σ=[Zh<|.ref c.a,Zh<|.int wy,Zh<|.int cl,Zh<|.ref ol,Zh<|.ref l,Zh<|.ref pq,v6]/\aC H6 X/\X pq=Zh (.lst<|nL (out.take i).flatten)/\H pq=Zi) ⟨_,pp,rfl,.refl _,f6 _ _ (Ad.SA b5) b3,s1.free ap⟩ (λi σ X _ zz=>by obtain⟨_,_,_,e,_⟩:=zz;exact aB.of<|e _ _ av) ?_ ?_
 .rintro i x σ X hx ⟨v8,pq,rfl,sX,af,ax⟩;rw[eJ] at hx;obtain⟨b',au,rfl⟩:=Bc.mp hx;have hi:=(jS.mp au).1;rw[am.len] at hi;have as:=bV hi;have az:=sX _ _<|am.at' i b' _ au as;have ht:out.take (i+1)=out.take i++[out[i]]:=by rw[Sx,as];rfl
  have U:=congrArg PV<|KU out<|i+1;rw[ht,aQ,tJ,aQ,show[out[i]].flatten=out[i] by simp] at U;generalize out[i]=ys at az ht U;walk_at "r";refine#[pq,b',_,_,rfl,rfl,af,az,cP<|by rw[iH,iH];lia,λp2 aw=>?_];exact#[_,p2,rfl,sX.new aw,by rw[aU,ht,tJ,show[ys].flatten=ys by simp,Ai],aq.free F6<|sX.free aw]
 rintro σ X ⟨v8,pq,rfl,sX,af,ax⟩;rw[aM,am.len,tM<|aN _] at af;walk_at "r";exact q pq X _ pr3 (F6.trans sX.fr) ax af (aq.mono sX) hp
theorem NJ(F:aS K "_law_by_way" "_law_by_way" Lp f fd)
  (ad:Fn P w K mg base (aK P w) "_law_by_lists" 15 ["_law_asker","_law_way","_law_cell","_law_order"]<|gJ Cb<|aF.mk Cc Ca)
  (U:Fn P w K mg base (aK P w) "by_putting" 5 ["asker"]<|iB vB Cb<|aF.mk Cc Ca)
  (O:Fn P w K mg base (aK P w) "by_walking" 5 ["asker"]<|iB DZ Cb<|aF.mk Cc Ca)
  (aa:M3 P w K mg base (aK P w) "by_pile" 9 ["asker","least","part"] (cX Cb<|aF.mk Cc Ca) [.Uy])
  (Z:Fn P w K mg base (aK P w) "by_pieces" 15 ["asker","wide","mouths","least"]<|dO Cb<|aF.mk Cc Ca)
  (ac:Fn P w K mg base (aK P w) "by_reach" 5 ["asker","reach"]<|iO Cb<|aF.mk Cc Ca)
  (J:Fn P w K mg base (aK P w) "so_manieth" 12 ["asker","many"]<|gI Cb<|aF.mk Cc Ca)
 :aI P w K mg base (aK P w) 16 f fd ["_law_asker","_law_way","_law_cell","_law_order"]<|kW Cb<|aF.mk Cc Ca:=by
 refine F.UY Vx nofun λb1 A outer s H vs Q E hr h=>?_
 have b2:=Vx.nd;refine' bM 5 (aG (gO ?_ (aG (Il (iE J hr.mn rfl jG ?_) ?_)<|bA<|cL<|bI AG (bI AG ?_ ?_) ?_) ?_)<|bA<|cL<|iE ad hr.mn rfl jG ?_) λ_ dZ _=>bM 4 (aG (gO ?_ (bA<|cL<|iE ac hr.mn rfl jG ?_) ?_) dZ) λ_ dZ _=>bM 3 (aG (gO ?_ (bA<|cL<|iE Z hr.mn rfl jG ?_) ?_) dZ) λ_ dZ _=>bM 2 (aG (gO ?_ (bA<|cL<|Fb aa hr.mn rfl jG ?_) ?_) dZ) λ_ dZ _=>bM 1 (aG (gO ?_ (bA<|cL<|iE O hr.mn rfl jG ?_) ?_) dZ) λ_ dZ _=>#[_,(aG (gO ?_ (bA<|cL<|iE U hr.mn rfl jG ?_) ?_) dZ),?_]
 walk_at "d";obtain⟨c,pr,wy,cl,ol,od,post,rfl,st,af,ap,ah,hn,hw,h0,w,ai,ae,q⟩:=h;walk_at "r";have ag:od.length=c.n:=by rw[ah.length_eq,fW]
 have e1:dY grd c.n wy cl od=dY grd c.n wy cl od:=rfl;have w0:=w;unfold dY at w;by_cases XT:wy=0
 .rw [Z9<|∅];rw[Z9 XT] at w;exact#[c,pr,_,rfl,st,∅,w.bind,λl H' os pr' fr hl h1 s hp=>q l H' os pr' fr hl h1 s hp]
 rw[Z8<|∅];rw[Z8 XT] at w;refine bN ?_;walk_at "r";by_cases XS:wy=1
 .rw [Z9<|∅];rw[Z9 XS] at w;exact#[c,pr,_,rfl,st,∅,w.bind,λl H' os pr' fr hl h1 s hp=>q l H' os pr' fr hl h1 s hp]
 rw[Z8<|∅];rw[Z8 XS] at w;refine bN ?_;walk_at "r";have m9:=Pq cl (show(9:Int)≠0 by decide);have ax:=Px cl (show(0:Int)<9 by decide);obtain⟨a1,aj⟩:∃a1:Nat,1+cl%9=(a1:Int):=#[(1+cl%9).toNat,∅]
 by_cases XR:wy=2
 .rw [Z9<|∅];rw[Z9 XR] at w;refine#[by decide,?_];rw[aj] at w⊢;rw[Int.toNat_natCast] at w;exact#[c,pr,a1,0,c.n,.Uy,_,rfl,st,.inr #[rfl,rfl,rfl],cQ _,∅,∅,w.bind,λl H' os pr' fr hl h1 s _ hp=>q l H' os pr' fr hl h1 s hp]
 rw[Z8<|∅];rw[Z8 XR] at w;refine bN ?_;walk_at "r";by_cases XQ:wy=3
 .rw [Z9<|∅];rw[Z9 XQ] at w;refine#[by decide,#[by decide,by decide],by decide,#[by decide,by decide],by decide,?_];have m3:=Pq (cl/9) (show(3:Int)≠0 by decide);have ay:=Px (cl/9) (show(0:Int)<3 by decide);have m4:=Pq (cl/27) (show(4:Int)≠0 by decide);obtain⟨d,hd⟩:∃d:Nat,2+cl/9%3=(d:Int):=#[(2+cl/9%3).toNat,∅]
  obtain⟨ls,hls⟩:∃ls:Nat,1+cl/27%4=(ls:Int):=#[(1+cl/27%4).toNat,∅]
  rw[aj,hd,hls] at w⊢;rw[Int.toNat_natCast,Int.toNat_natCast,Int.toNat_natCast] at w;exact#[c,pr,a1,d,ls,_,rfl,st,∅,∅,∅,∅,∅,w,ai,λl H' os pr' fr hl h1 s hp=>q l H' os pr' fr hl h1 s hp]
 rw[Z8<|∅];rw[Z8 XQ] at w;refine bN ?_;walk_at "r";by_cases XO:wy=9
 .rw [Z9<|∅];rw[Z9 XO] at w;refine#[ol,_,rfl,.inl<|aB.of af,?_];rw[aM,ag];exact#[c,pr,_,rfl,st,∅,w.bind,λl H' os pr' fr hl h1 s hp=>q l H' os pr' fr hl h1 s hp]
 rw[Z8<|∅];rw[Z8 XO] at w;refine bN ?_;walk_at "r";by_cases XY:wy=7
 .rw [Z9<|∅];rw[Z9 XY] at w;have b3:0<c.n:=h0 ∅;refine#[ol,_,rfl,.inl<|aB.of af,?_];rw[aM,ag];have m0:=Pq cl (show(c.n:Int)≠0 by lia);have m1:=Px cl (show(0:Int)<c.n by lia);obtain⟨m,em⟩:∃m:Nat,cl%(c.n:Int)=m:=#[(cl%(c.n:Int)).toNat,∅]
  rw[em] at m0 m1 w⊢;rw[Int.toNat_natCast] at w;obtain⟨bb,ao⟩:∃bb,bb=decide (c.n-1-m<m):=#[_,rfl]
  rw[<- ao] at w;have hm:m<c.n:=∅
  refine#[∅,c,flp bb pr,m,bb,_,rfl,ao,by show aH _ _ _ _ _ (flp bb<|flp bb pr);rw[Ir];exact st,hm,∅,(Ez w.bind).UU<|wa hn hm,λo pr' z=>z.1,λt l1 l2 x a A B H' pr' fr ht b0 az h1 h2 h3 sA sB s hp aw=>?_];obtain⟨⟨a',x',rest,e,pm⟩,hp⟩:=hp;cases e;have hp:post (Zh<|yt c.n bb (a,x))<|flp bb pr':=hp;obtain⟨pA,pB⟩:=aw rest pm;have as:(rest++x::a).Perm<|OW c.n:=by
   refine Tb ?_ pm;refine Gu λy=>?_;rw[ph,ph,r0,r0];lia
  have eL:A++[x]++B=yt c.n bb (a,x):=by
   rw[fL];cases bb
   .show A++x::B=pC c.n a++x::yp c.n x a;rw[Jz pm,G4 pm pA sA,G4 as pB sB]
   .show A++x::B=yp c.n x a++x::pC c.n a;rw[Jz pm,G4 as pA sA,G4 pm pB sB]
  have ae:A.length+1+B.length=c.n:=by
   have:=congrArg PV eL;rw[(nN pm).length_eq,fW,aQ,aQ,fM] at this;exact this
  rw[<- eL] at hp;refine G6 (cH.of h1) rfl ?_;walk_at "r";refine#[cP (show(1:Nat)<=1000 by decide),λp au=>?_];obtain⟨Y1,e1,k1,y1⟩:=aJ au<|.lst<|nL [x];rw[show upd H' p (HO.lst [V.int (x:Nat)])=Y1 from e1];clear e1;refine#[l1,p,_,_,rfl,rfl,k1 _ _ h2,y1,cP<|by rw[iH,iH,fM];lia,λc1 av=>?_];rw[<- Ai];obtain⟨Y2,e2,k2,y2⟩:=aJ av<|.lst<|nL<|A++[x];rw[e2];clear e2;refine#[c1,l2,_,_,rfl,rfl,y2,k2 _ _<|k1 _ _ h3,cP<|by rw[iH,iH,aQ,fM];lia,λc2 aq=>?_];rw[<- Ai];have S:=k1.trans<|k2.trans<|bO aq<|.lst<|nL<|A++[x]++B;have am:aH _ _ _ _ _ _:=s;exact q c2 _ (A++[x]++B) (flp bb pr') (fr.trans S.fr) (am.free fr<|k1.free<|k2.free aq) aU (am.mono S) hp
 rw[Z8<|∅];exact#[c,pr,wy,cl,ol,od,post,rfl,st,af,ap,ah,hn,∅,w0,ai,ae,q]
theorem NW(F:aS K "_law_tried" "_law_tried" LA f fd)
  (z:Fn P w K mg base (aK P w) "_law_by_way" 16 ["_law_asker","_law_way","_law_cell","_law_order"]<|kW Cb<|aF.mk Cc Ca)
 :aI P w K mg base aP 17 f fd ["_law_asker","_law_way","_law_cell","_law_order"]<|gG Cb<|aF.mk Cc Ca:=by
 refine F.ok Vj nofun λah A outer s H vs Q E hr h=>?_
 have aj:=Vj.nd;refine' #[_,(aG ?_<|aG ?_<|aG (BB (i:=6) #[rfl,rfl] rfl rfl T.WD Vj.nd rfl (by first|exact .inl rfl|exact .inr rfl) (.inl rfl) (λpn xe E hp=>(bA<|bK (i:=4) Vj.nd rfl (by (first | exact Or.inl rfl | exact Or.inr rfl))<|E9 z hr.mn rfl hp<|Aj (pv 0)<|jE (pv 1) (pv 2)<|pv 3)) λe o=>(bA<|bK (i:=5) Vj.nd rfl (by (first | exact Or.inl rfl | exact Or.inr rfl))<|wq K aZ (pv 6) rfl)) ?_),?_];walk_at "d";obtain⟨c,pr,wy,cl,ol,od,post,rfl,st,ad,ae,U,hn,hw,h0,w,aa,J,Z,q⟩:=h;walk_at "r";walk_at "r";refine#[c,pr,wy,cl,ol,od,post,rfl,#[st,λd H' pr' s hd h1 hx=>#[T.U8,λea o ai ac ag af=>?_]],ad,ae,U,hn,hw,h0,w,aa,J,λl H' os pr' fr hl h1 s hp=>#[cP<|by decide,λt O=>?_]]
 .walk_at "r";refine#[Ca,d,_,_,#[ac,ag,af],h1,T.Wc,T.VI.hd,T.N1,by walk_at "l",cP<|by decide,λt O=>?_];have fr:Fr c.S H H':=by rw[<- Z];exact s.base
  exact q t _ _ _ pr' (fr.trans (bO O _).fr) (s.mono<|bO O _) (s.free fr O) aU<|.inr #[rfl,rfl,hx]
 .exact q t _ _ _ pr' (fr.trans (bO O _).fr) (s.1.mono<|bO O _) (s.free fr O) aU (.inl #[l,os,rfl,rfl,hl,bO O _ _ _ h1,hp])
theorem Om(F:aS K "_law_held" "_law_held" K6 f fd)
  (dh:Fn P w K mg base aP "_law_due" 1 ["_law_way","_law_cell","_law_order"]<|lH)
  (au:Fn P w K mg base aP "_law_tried" 17 ["_law_asker","_law_way","_law_cell","_law_order"]<|gG Cb<|aF.mk Cc Ca)
  (de:Fn P w K mg base aP "_law_told" 1 ["_law_found","_law_due_here","_law_bits"]<|iN)
  (cj:Fn P w K mg base aP "_law_teller" 1 ["_law_log","_law_bits"]<|Iq Pt_teller (Ga fV) "_law_tells" "_law_teller.<locals>._law_tells" (oW fV) (kn fV) (aR fV) ["_law_bits","_law_log"] [1,0] 2)
  (b1:Mt P w K mg base aP Cb "widen" 1 ["self","more"]<|kU Cb)
  (ag:M1 P w K mg base aP "Asker" Cb 1 ["self","row","rule","most"] (bX Cb) [.Uy])
  (b3:Kl P w K mg base aP "AskedRule" Cc 1 ["self","teller"]<|dA Cc)
 :aI P w K mg base aP 18 f fd ["_law_asker","_law_log","_law_row_here","_law_bits","_law_cell"]<|iQ Cb (aF.mk Cc Ca) Pt_teller:=by
 refine F.ok Vm nofun λdt A outer s H vs Q E hr h=>?_
 have e9:=Vm.nd;refine' bM 13 (bA ?_) λ_ J _=>bM 12 (aG (gO (PW.pt<|DX ?_<|DX ?_<|Jy<|fF (Jv hr.units) ?_ ?_<|dF _) ?_ ?_) J) λ_ J _=>bM 11 (aG (gO ?_ (aG (gO (PW.pt<|DX ?_<|DX ?_<|Jy<|fF (Jv hr.units) ?_ ?_<|dF _) ?_ ?_) ?_) ?_) J) λ_ J _=>bM 10 (aG ?_ J) λ_ J _=>bM 9 (aG ?_ J) λ_ J _=>bM 8 (aG ?_ J) λ_ J _=>bM 7 (aG ?_ J) λ_ J _=>bM 6 (aG ?_ J) λ_ J _=>bM 5 (aG (Il (iE au hr.mn rfl eX<|Aj (E7 ag hr.mn rfl eX ?_) ?_) ?_) J) λ_ J _=>bM 4 (aG ?_ J) λ_ J _=>bM 3 (aG ?_ J) λ_ J _=>bM 2 (aG (gO (fF (Ju hr.units) ?_ ?_<|dF _) ?_ ?_) J) λ_ J _=>bM 1 (aG (bK (i:=6) Vm.nd rfl (by (first | exact Or.inl rfl | exact Or.inr rfl))<|bI Gh ?_<|dW bQ ?_ (vH oM rfl T.WT PyProof.Rows.boot_int<|bC<|AM (Jv hr.units) ?_ ?_<|dF _) λ_ _=>rfl) J) λ_ J _=>#[_,(aG (jV (i:=5) Vm.nd rfl (Or.inl rfl) (js:=[]) (N:=[]) rfl (CU<|gE pW rfl T.U3 QK ?_) λ_ _ _ _=>(dW (D1 K) (pv 0) bJ λ_ _=>rfl)) J),?_]
 walk_at "d";obtain⟨c,qr,rwA,cell,rfl,st,bd,bu,c4,hn,ac,dg,d3,q⟩:=h;walk_at "r";have b7:Iu H c.ks c.xs:=#[st.len,st.row]
 have cm:c.ks.length<=30:=hn;walk_at "r";have ay:∀{X:Hp},aC H X->aB K X rwA ((xi c.ks c.xs).map λz=>V.ref z.1)/\∀z∈xi c.ks c.xs,cH K X z.1 [.int z.2.1,.int z.2.2]:=fun {X} s=>#[by rw[<- EZ b7];exact aB.of<|s _ _ bu,λz hz=>by
  obtain⟨i,hi,rfl⟩:=JI hz;exact cH.of<|s _ _ (KG b7 hi).2]
 refine#[rwA,xi c.ks c.xs,rfl,(ay<|.refl _).1,(ay<|.refl _).2,by rw[JH];lia,λl ms hl hp hs=>?_];have du:=FN hp hs;obtain⟨H2,e2,s2,h2⟩:=aJ hl<|.lst<|ms.map λz=>V.ref z.1;rw[e2];clear e2;have dm:ms.length=c.ks.length:=by rw[hp.length_eq,JH]
 have tk:∀i,pV (ms.take<|i+1)=pV (ms.take i)++((ms[i]?).toList.map λz=>z.2.2.toNat):=λi=>by
  unfold pV;rw[Sx,cU]
 refine Ec (aB.of h2) (by rw[aM];lia) (λi ys σ X=>∃v,σ=[v]/\X=H2/\ys=nL (pV<|ms.take i)) ⟨_,rfl,rfl,rfl⟩ (λi ys σ X _ zz=>by obtain⟨_,_,e,e3⟩:=zz;exact#[by rw[e];exact aB.of h2,by rw[e3,iH];unfold pV;rw[aM,iF];lia]) ?_ ?_
 .rintro i ys x σ X hi hx ⟨v,rfl,rfl,rfl⟩;rw[eJ] at hx;obtain⟨z,hz,rfl⟩:=Bc.mp hx;obtain⟨k,hk,rfl⟩:=JI<|hp.mem_iff.mp<|jD hz;walk_at "r";refine iI (cH.of<|s2 _ _ (KG b7 hk).2) (dE (by decide) rfl) ?_;refine fG.of hi #[_,rfl,rfl,?_];rw[tk,hz,Ai];rfl
 rintro ys σ X ⟨v,rfl,rfl,rfl⟩ ol b0;rw[aM,tM<|aN _];generalize pV ms=od at du;obtain⟨H3,e3,s3,h3⟩:=aJ b0<|.lst<|nL od;rw[e3];clear e3;have S3:aC H H3:=s2.trans s3;have bo:H ol=Zi:=s2.free b0;clear s2 s3 h2 b0 hp hs dm tk hl;refine bN ?_;walk_at "r";refine#[by decide,λp1 ba=>?_];obtain⟨H4,e4,s4,h4⟩:=aJ ba<|.lst [.int 10,.int 8];rw[e4];clear e4;refine#[cQ _,λp2 cu=>?_];obtain⟨H5,e5,s5,h5⟩:=aJ cu<|.lst [];rw[e5];clear e5;have S5:=S3.trans<|s4.trans s5;refine yT Enc.int.list (by decide) (a:=c.bs) (b:=[]) (AK<|aB.of<|S5 _ _ st.Wv) (AK (xs:=[])<|aB.of h5) ?_;refine .inr #[_,rfl,?_];obtain⟨md,cr,cp⟩:∃md:Nat,(md=10/\c.bs=[]∨md=8/\c.bs≠[])/\mE [V.int 10,V.int 8] (if (!decide (c.bs=[]))=Zj then 1 else 0)=Zh (.int (md:Nat)):=by
  by_cases hb:c.bs=[]
  .exact #[10,.inl #[rfl,hb],by rw[Z8<|by simp[hb]];exact dE (by decide) rfl]
  .exact #[8,.inr #[rfl,hb],by rw[Z9<|by simp[hb]];exact dE (by decide) rfl]
 refine dQ (aB.of<|s5 _ _ h4) cp #[∅,?_];have w0:=Pq cell (show(md:Int)≠0 by lia);have w1:=Px cell (show(0:Int)<md by lia);obtain⟨wy0,av⟩:∃wy0:Nat,cell%(md:Int)=wy0:=#[(cell%(md:Int)).toNat,∅]
 rw[av] at w0 w1;dsimp only;rw[av];have ct:=s4.trans s5;clear cp h4 h5 s4 s5 ba cu av S5;refine bN ?_;walk_at "r";refine#[cQ _,λp3 cz=>?_];obtain⟨H6,e6,s6,h6⟩:=aJ cz<|.lst [];rw[e6];clear e6;have S6:=ct.trans s6;refine Jl (Enc.list<|Enc.two Enc.int Enc.int) (by decide) (a:=(xi c.ks c.xs).map (·.2)) (b:=[]) (Gb (ay<|S3.trans S6).1<|zO _ (ay<|S3.trans S6).2) (Gb (aB.of h6) .nil)<|jZ ?_;have d7:c.bs≠[]->wy0<8:=λz=>by
  rcases cr with y|y
  .exact absurd y.2 z
  .lia
 have bq:wy0<10:=∅
 clear cr w0 w1;apply Ie (α:=Nat×Hp) (λx=>[Zh<|.ref c.a,Zh<|.ref c.lg,Zh<|.ref rwA,Zh<|.ref c.bl,Zh<|.int cell,Zh<|.ref ol,Zh<|.int (x.1:Nat),Zi,Zi,Zi,Zi,Zi,Zi]) (λx=>x.2) λx=>aC H3 x.2/\x.1<10/\(x.1≠0->0<c.n)/\(c.bs≠[]->x.1<8)
 .intro O;by_cases he:0<c.ks.length
  .rw [Z8 (by
    intro z;have z:=of_decide_eq_true z;have:=congrArg PV z;rw[aM,JH,r6] at this;lia)]
   exact O (wy0,H6) #[S6,bq,λ_=>he,d7]
  .rw [Z9<|decide_eq_true<|Az.mp<|by rw[aM,JH];lia];exact O (0,H6) #[S6,(by show(0:Nat)<10;decide),λz=>absurd rfl z,λ_=>(by show(0:Nat)<8;decide)]
 rintro⟨wy,X⟩ ⟨SX,hw,h0,h8⟩;dsimp only at SX hw h0 h8⊢;clear S6 ct s6 h6 cz d7 bq;refine bN ?_;walk_at "r";have S:=S3.trans SX;have c6:=st.mono S;have bi:=S _ _ bu;have az:=SX _ _ h3;have c3:=st.off bo;have br:=Gw d3 S;obtain⟨os,L,rn⟩:=HF (bs:=c.bs) (cl:=cell/10) du cm hw h0 h8;refine#[#[by decide,by decide],wy,cell/10,ol,od,c.n,rfl,az,du.pm,hn,h0,λdl X7 s7 bn cb=>?_];have db:dl∉c.S:=by
  rcases bn with z|z
  .rw [z];exact Ad.SA c3
  .exact Ad.SA (c6.off z)
 have af:=rD (cl:=cell/10) du.pm h0;obtain⟨due,as⟩:∃due,due=mV c.ks.length wy (cell/10) od:=#[_,rfl]
 rw[<- as] at cb af;clear bn;refine bN ?_;walk_at "r";have e0:c.pre.length<=4000:=by rw[ac];exact LX cm
 refine#[cQ _,λfg am=>?_];obtain⟨H8,e8,s8,cq⟩:=aJ am<|.lst [];rw[e8];clear e8;have Z:=c6.mono s7;have d8:fg∉c.S:=Ad.SA<|Z.off am;have ad:=Z.mono s8;have ai:=Gw (Gw br s7) s8;have ck:c.bl≠fg:=bE Z.Wv am;have aw:=s7 _ _ bi;have ah:=s7 _ _ az;have aj:=s8 _ _ ah;have bj:ol∉c.S:=Ad.SA c3;have S7:aC H X7:=S.trans s7;clear c6 br bi az s7 S b7 ay h3 S3 SX c3 bo;refine bN ?_;walk_at "r";refine#[rfl,ai,λg1 G5 md=>?_];intro b9 di c9 ci c7;refine#[b9,di,g1,rfl,aU,λG7 k7 ir=>#[rfl,?_]];intro ak1 df c0 cc bv;refine#[ak1,df,rwA,b9,.Uy,c.xs,rfl,aU,DF md c9 ci c7 k7 c0 cc bv (Lw ai)<|s8 _ _ aw,λcn tl1 HA k9 d6 d0 cy ia d1 UX=>#[rfl,?_]];obtain⟨bz,kA,bf,ch,ca⟩:=yP (CR:=aF.mk Cc Ca) (pre:=c.pre) (exc:=λ_=>False) (lim:=Zi) md c9 ci c7 k7 ir c0 cc bv k9 d6 d0 cy ia d1 UX cq ad.Wv ck ad.Xq ad.len ad.row<|Lw ai;clear md c9 ci c7 k7 ir c0 cc bv k9 d6 d0 cy ia d1 UX;walk_at "r";refine#[#[by decide,by decide],#[c.ks,c.bs,c.xs,ak1,cn,b9,tl1,g1,fg,c.bl,c.pre,Zi,λ_=>False,HA],c.pre,wy,cell/10,ol,od,_,rfl,bz,kA.lst dU aj,GX (bE aj ch) (bE ah am)<|bE aj ca,du.pm,hn,hw,h0,rn.wx ⟨c.ks,c.bs,c.xs,ak1,cn,b9,tl1,g1,fg,c.bl,c.pre,Zi,λ_=>False,HA⟩ c.pre rfl rfl (by rw[ac];exact fK _) ∅ (λm z=>by cases z) (λm z=>by cases z),(λpr' z=>by cases z.1),(λax pr' z=>by rw[OX z.1,rn.ln];lia),rfl,λt v u X1 pr1 bx bt b6 ht U=>?_];rcases U with ⟨l1,ax,rfl,rfl,_,cv,z1,rfl,_⟩|⟨_,_,z⟩
 rotate_left
 .exact z.elim
 cases z1;have U1:=KJ bf bz bx;have kX:Kq [] X7 X1:=((aC.kq s8).trans kA).opened bx (s8.free ch) am<|s8.free ca;have hd:rR X1 c rwA ol dl fg od due L:=#[kX.lst dU aw,kX.lst dU ah,kX.lst dU cb,bH.log bt,c4,bj,db,d8]
 clear bz kA bf bx s8 am cq ad ai ck aj aw ah cb ch ca bt b6 c4 bj db d8;refine G6 (cH.of ht) rfl ?_;walk_at "r";clear ht;refine bN ?_;walk_at "r";have bc:c.bs=[]->os=due:=λz=>(rn.key z).trans as.symm;have be:c.bs≠[]->os.Perm (OW due.length):=λz=>by rw[af];exact rn.pm z
 have b2:os.length=due.length:=rn.ln.trans af.symm;have bg:due.length<=30:=∅
 have e7:=rn.len;clear as;rw[Z8 λz=>z trivial];refine#[l1,dl,c.bl,os,due,c.bs,rfl,cv,hd.hD,kX.lst dU Z.Wv,b2,bg,bc,be,λX2 s2=>jZ ?_];rw[Z8<|by decide];replace kX:Kq [] X7 X2:=kX.trans<|aC.kq s2;replace hd:=hd.mono s2;replace U1:=Gw U1 s2;clear s2 cv;refine bN ?_;walk_at "r";obtain⟨ws,UQ,td⟩:=Z.log;refine#[c.lg,ws,rfl,.inl<|aB.of<|kX.lst dU UQ,?_];rw[td.len];clear UQ td ws;refine bN ?_;walk_at "r";obtain⟨ws,aa,td⟩:=hd.hL;refine#[#[by decide,by decide],fg,ws,rfl,.inl<|aB.of aa,?_];rw[td.len];clear aa td ws;refine#[∅,?_];obtain⟨gv,d2,dq⟩:∃gv:Nat,cell/7%((L.length:Int)+1)=(gv:Int)/\gv<=L.length:=by
  have q1:=Pq (cell/7) (show((L.length:Int)+1)≠0 by lia);have q2:=Px (cell/7) (show(0:Int)<(L.length:Int)+1 by lia);exact#[(cell/7%((L.length:Int)+1)).toNat,∅,∅]
 rw[d2];clear d2;refine bN ?_;walk_at "r";have aq:=kX.ins dU Z.ha;rw[bd] at aq;refine aq.Ux (by walk_at "l") #[c.a,c.rl,c.ru,c.tl,_,_,_,rfl,aq,.inr #[_,rfl],λX3 k3 d4=>?_];have b5:bH Cb (aF.mk Cc Ca) X3 (c.at (Zh<|qr.length+gv) (λpr'=>pr'=c.pre++(qr++L.take gv)/\gv<L.length) X3)<|c.pre++qr:=Z.to (kX.up.trans<|Jp k3) (by
  show bD X3 c.a Cb (fA c.rl c.ru (.int ((qr.length+gv:Nat):Int)) _ c.tl);rw[Int.natCast_add];exact d4)
 have cf:Kq c.S X2 X3:=(Jp k3).wide λb z=>by rw[cI.mp z];exact aZ
 have cw:bH Cb (aF.mk Cc Ca) X2 (c.at (Zh qr.length) (λ_=>False) X2)<|c.pre++qr:=Z.to kX.up aq;replace hd:=hd.kq cf cw.Wy;replace U1:=tW U1 aq k3;have kH:Kq c.S H X3:=(aC.kq S7).trans<|kX.up.trans cf;clear cf k3 d4 aq cw kX Z S7;refine bN ?_;walk_at "r";refine#[#[by decide,by decide],c.at (Zh<|qr.length+gv) (λpr'=>pr'=c.pre++(qr++L.take gv)/\gv<L.length) X3,c.pre++qr,wy,cell/10,ol,od,_,rfl,b5,hd.hO,hd.no.2.1,du.pm,hn,hw,h0,rn.wx (c.at (Zh<|qr.length+gv) (λpr'=>pr'=c.pre++(qr++L.take gv)/\gv<L.length) X3) (c.pre++qr) rfl rfl (by rw[ac];exact Q2 _ _) (by rw[aQ];lia) (λm e=>by
  have e':qr.length+gv+c.pre.length=m:=OX e;rw[aQ];lia) λm e hm=>?_,(λpr' z=>by cases z.1),(λax pr' z=>by rw[OX z.1,rn.ln];lia),rfl,λt v u X4 dk b8 VQ b6 ht U=>?_]
 .have e':qr.length+gv+c.pre.length=m:=OX e;have e1:m=(c.pre++qr).length+gv:=by rw[aQ];lia
  subst e1;rw[List.take_length_add_append,fL];refine#[rfl,?_];rw[aQ (bs:=L)] at hm;lia
 replace U1:=KJ U1 b5 b8;replace hd:=hd.kq (X':=X4) (Fr.kq b8) b5.Wy;replace kH:Kq c.S H X4:=kH.trans<|Fr.kq b8;clear b5 b8 b6;refine G6 (cH.of ht) rfl ?_;walk_at "r";clear ht;refine bN ?_;walk_at "r";obtain⟨ws,aa,td⟩:=hd.hL;refine#[fg,ws,rfl,.inl<|aB.of aa,?_];rw[td.len];apply Ie (α:=OS×List A3×Hp) (λx=>[Zh<|.ref c.a,Zh<|.ref c.lg,Zh<|.ref rwA,Zh<|.ref c.bl,Zh<|.int cell,Zh<|.ref ol,Zh<|.int (wy:Nat),Zh<|.ref dl,Zh<|.ref fg,Zh<|.ref x.1,Zh .Uy,Zh<|.int (x.2.1.length:Nat),Zh<|.int (gv:Nat)]) (λx=>x.2.2) λx=>x.2.2 x.1=Zh (.lst<|nL os)/\bH Cb (aF.mk Cc Ca) x.2.2 (c.at (Zh (x.2.1++L).length) (λ_=>False) x.2.2) (c.pre++(x.2.1++L))/\x.2.1.length<=qr.length+81001/\rR x.2.2 c rwA ol dl fg od due L/\Kq c.S H x.2.2/\kM x.2.2 Pt_teller
 .intro O;rcases U with ⟨l2,ax,rfl,rfl,_,ap,z1,rfl,zm⟩|⟨rfl,rfl,e4,dz⟩
  .cases z1;have dy:L.length<=gv:=by
    have:=zm (qr.length+gv+c.pre.length) rfl;rw[aQ,aQ] at this;lia
   rw[Z8<|∅];have eg:gv=L.length:=∅
   subst eg;refine O (l2,qr,X4) #[ap,?_,by show qr.length<=_;lia,hd,kH,U1];show bH _ _ _ (c.at (Zh (qr++L).length) _ _) (c.pre++(qr++L));rw[aQ,<- fL];exact VQ.to (aC.kq<|.refl _) VQ.ha
  .rw [Z9<|∅];subst e4;have el:(c.pre++(qr++L.take gv)).length-c.pre.length=qr.length+gv:=by
    rw[aQ,aQ,iF];lia
   rw[el,Z8 λz=>z rfl,K4,Int.natCast_add,decide_eq_true rfl];refine jZ ?_;rw[Z8<|by decide];obtain⟨wl,UQ,tl⟩:=bH.log VQ;have cx:qr.length<=wl.length:=by rw[tl.len,aQ];lia
   refine xb (aB.of UQ) λs1 co=>?_;rw[LJ cx];obtain⟨X5,e5,k5,h5⟩:=aJ co<|.lst<|wl.drop qr.length;rw[e5];clear e5;refine xb (aB.of<|k5 _ _ aa) λs2 d9=>?_;rw[vn<|by rw[td.len];lia];obtain⟨X6,e6,k6,h6⟩:=aJ d9<|.lst<|ws.take gv;rw[e6];clear e6;have ae:=k5.trans k6;have c5:=(tl.keep (H':=X6) λ_ _ z=>ae _ _ z).drop qr.length;rw[List.drop_left] at c5;have dc:=(td.keep (H':=X6) λ_ _ z=>ae _ _ z).take gv;refine qX (d:=.list<|(L.take gv).map Ag) (Gb (aB.of<|k6 _ _ h5) c5.dp) (Gb (aB.of h6) dc.dp) (Kr _) (vx _)<|jZ ?_;rw[Z8<|by decide];replace VQ:=VQ.mono ae;replace hd:=hd.mono ae;replace U1:=Gw U1 ae;replace kH:Kq c.S H X6:=kH.trans<|aC.kq ae;have bh:=ae _ _ aa;clear aa c5 dc h6 h5 k6 k5 co d9 UQ tl cx;have b4:=VQ.ha;refine b4.Ux (by walk_at "l") #[fg,ws,rfl,.inl<|aB.of bh,?_];rw[td.len];clear bh td ae;refine#[c.a,c.rl,c.ru,c.tl,_,_,_,rfl,b4,.inr #[_,rfl],λX7 k7 da=>#[#[by decide,by decide],?_]];have ce:bH Cb (aF.mk Cc Ca) X7 (c.at (Zh<|qr.length+gv+L.length) (λ_=>False) X7)<|c.pre++(qr++L.take gv):=VQ.to (Jp k7) (by
    show bD X7 c.a Cb (fA c.rl c.ru (.int ((qr.length+gv+L.length:Nat):Int)) _ c.tl);rw[Int.natCast_add];exact da)
   have cg:Kq c.S X6 X7:=(Jp k7).wide λb z=>by rw[cI.mp z];exact aZ
   replace hd:=hd.kq cg VQ.Wy;replace U1:=tW U1 b4 k7;replace kH:Kq c.S H X7:=kH.trans cg;clear cg k7 da b4 VQ;have dr:(c.pre++(qr++L.take gv)).length=c.pre.length+(qr.length+gv):=by
    rw[aQ,aQ,iF];lia
   refine#[c.at (Zh<|qr.length+gv+L.length) (λ_=>False) X7,c.pre++(qr++L.take gv),wy,cell/10,ol,od,_,rfl,ce,hd.hO,hd.no.2.1,du.pm,hn,hw,h0,rn.wx (c.at (Zh<|qr.length+gv+L.length) (λ_=>False) X7) (c.pre++(qr++L.take gv)) rfl rfl (by rw[ac];exact Q2 _ _) ∅ (λm e=>by
    have e':qr.length+gv+L.length+c.pre.length=m:=OX e;lia) (λm e hm=>by
    have e':qr.length+gv+L.length+c.pre.length=m:=OX e;rw[aQ (bs:=L)] at hm;lia),(λpr' z=>by cases z.1),(λax pr' z=>by rw[OX z.1,rn.ln];lia),rfl,λt v u X8 dw c8 ad b6 ht U=>?_]
   rcases U with ⟨l2,ax,rfl,rfl,_,ap,z1,rfl,zm⟩|⟨_,_,z⟩
   rotate_left
   .exact z.elim
   cases z1;replace U1:=KJ U1 ce c8;replace hd:=hd.kq (X':=X8) (Fr.kq c8) ce.Wy;replace kH:Kq c.S H X8:=kH.trans<|Fr.kq c8;refine G6 (cH.of ht) rfl ?_;have bw:(qr++L.take gv).length=qr.length+gv:=by rw[aQ,iF];lia
   have:=O (l2,qr++L.take gv,X8) #[ap,by
    show bH _ _ _ (c.at (Zh (qr++L.take gv++L).length) _ _) (c.pre++(qr++L.take gv++L));rw[aQ,bw,<- fL];exact ad.to (aC.kq<|.refl _) ad.ha,by show(qr++L.take gv).length<=_;rw[bw];lia,hd,kH,U1]
   dsimp only at this;rw[bw,Int.natCast_add] at this;walk_at "r";exact this
 rintro⟨l2,ao,X⟩ ⟨ap,Wg,dj,hd,kH,VS⟩;dsimp only at ap Wg dj hd kH VS⊢;clear U VQ dk;refine bN ?_;walk_at "r";refine#[l2,dl,c.bl,os,due,c.bs,rfl,ap,hd.hD,Wg.Wv,b2,bg,bc,be,λY1 s1=>jZ ?_];rw[Z8<|by decide];replace Wg:=Wg.mono s1;replace hd:=hd.mono s1;replace VS:=Gw VS s1;replace kH:Kq c.S H Y1:=kH.trans<|aC.kq s1;obtain⟨wl,UQ,tl⟩:=bH.log Wg;obtain⟨ws,aa,td⟩:=hd.hL;refine xb (aB.of UQ) λp1 ba=>?_;rw[LJ<|by rw[tl.len,aQ];lia];obtain⟨Y2,e2,k2,h2⟩:=aJ ba<|.lst<|wl.drop ao.length;rw[e2];clear e2;have d5:=(tl.keep (H':=Y2) λ_ _ z=>k2 _ _ z).drop ao.length;rw[List.drop_left] at d5;refine qX (d:=.list<|L.map Ag) (Gb (aB.of h2) d5.dp) (Gb (aB.of<|k2 _ _ aa) (td.keep (H':=Y2) λ_ _ z=>k2 _ _ z).dp) (Kr _) (vx _)<|jZ ?_;rw[Z8<|by decide];replace Wg:=Wg.mono k2;replace VS:=Gw VS k2;replace kH:Kq c.S H Y2:=kH.trans<|aC.kq k2;have bp:=k2 _ _ UQ;refine bN ?_;walk_at "r";have el:(c.pre++(ao++L)).length-c.pre.length=(ao++L).length:=by rw[aQ];lia
 refine Wg.ha.get T.Db T.Nn (by walk_at "l") #[c.lg,wl,rfl,.inl<|aB.of bp,?_];rw[tl.len,el,JJ,decide_eq_true rfl];refine jZ ?_;rw[Z9 rfl];refine Wg.ha.get T.Db T.Nf (by walk_at "l") #[c.lg,wl,rfl,.inl<|aB.of bp,?_];rw[tl.len];show EW (.int ((ao++L).length:Nat)) _ _ _;rw[JJ,decide_eq_true rfl];exact q Y2 (ao++L) (λ_=>False) (Wg.to (aC.kq<|.refl _) Wg.ha) (by rw[aQ];lia) kH VS
theorem O5(F:aS K "law" "law" CK f fd)
  (bp:Fn P w K mg base aP "_law_row" 1 ["_law_numbers","_law_kind"]<|ud)
  (aq:Fn P w K mg base aP "_law_cell_at" 1 ["_law_script","_law_k"]<|pJ K)
  (av:Fn P w K mg base aP "_law_teller" 1 ["_law_log","_law_bits"]<|Iq Pt_teller (Ga fV) "_law_tells" "_law_teller.<locals>._law_tells" (oW fV) (kn fV) (aR fV) ["_law_bits","_law_log"] [1,0] 2)
  (bi:Fn P w K mg base aP "_law_held" 18 ["_law_asker","_law_log","_law_row_here","_law_bits","_law_cell"]<|iQ Cb (aF.mk Cc Ca) Pt_teller)
  (b1:Kl P w K mg base aP "Asker" Cb 1 ["self","row","rule","most"]<|bX Cb)
  (ac:Kl P w K mg base aP "AskedRule" Cc 1 ["self","teller"]<|dA Cc)
 :aI P w K mg base aP 19 f fd ["_law_script"]<|Lb K [(cc_teller,Pt_teller)]:=by
 refine F.ok V1 (by intro _ _ _ _ h;obtain ⟨_,_,e,_⟩:=h;subst e;rfl) λbz A outer s H vs Q E hr h=>?_
 have c3:=V1.nd;refine' bM 6 (bA ?_) λ_ O _=>bM 5 (aG ?_ O) λ_ O _=>bM 4 (aG ?_ O) λ_ O _=>bM 3 (aG ?_ O) λ_ O _=>bM 2 (aG ?_ O) λ_ O _=>bM 1 (aG ?_ O) λ_ O _=>#[_,(aG ?_ O),?_]
 walk_at "d";obtain⟨a,ns,rfl,hS,bq,hT,q⟩:=h;walk_at "r";have br:H Pt_teller=Zh (.tbl (List.toArray [])):=hT _ aZ;refine xb hS λs1 b2=>?_;obtain⟨zs,ez,hz⟩:=HY ns;rw[ez];obtain⟨H1,e1,k1,h1⟩:=aJ b2<|.lst<|zs.map V.int;rw[e1];clear e1;refine#[a,ns,0,rfl,k1.seq hS,by decide,s1,_,zs,rfl,h1,∅,λrwA H2 ks xs k2 b4 ax bo aj=>?_];refine bN ?_;walk_at "r";refine#[cQ _,λb0 be=>?_];obtain⟨H3,e3,k3,h3⟩:=aJ be<|.lst [];rw[e3];clear e3;have S3:=k1.trans<|k2.trans k3;refine bN ?_;walk_at "r";refine#[a,ns,1,rfl,S3.seq hS,by decide,?_];have ay:=k3 _ _ ax;have ae:Iu H3 ks xs:=#[aj.1,λi k hk=>by
  obtain⟨r,a1,a2⟩:=aj.2 i k hk;exact#[r,a1,k3 _ _ a2]]
 apply Ie (α:=OS×Hp) (λx=>[Zh<|.ref a,Zh<|.ref rwA,Zh<|.ref x.1,Zi,Zi,Zi]) (λx=>x.2) λx=>aC H3 x.2/\∃bs:List Int,x.2 x.1=Zh (.lst<|bs.map V.int)/\bs.length<=30
 .intro aa;walk_at "r";refine#[by decide,?_];by_cases hc:cellOf ns 1%2=1
  .rw [Z9 hc];refine xb (S3.seq hS) λs2 bv=>?_;rw[ez];exact aa (s2,_) #[bO bv _,zs,aU,hz]
  .rw [Z8 hc];exact aa (b0,H3) #[.refl _,[],h3,cQ _]
 rintro⟨bl,X⟩ ⟨sX,bs,ah,c0⟩;dsimp only at sX ah⊢;replace bo:ks.length<=30:=∅
 clear ez hz h1 b2 k1 k2 b4 ax aj be k3 h3;have SX:=S3.trans sX;have J:=sX _ _ ay;have bg:∀(i:Nat) k,ks[i]?=Zh k->∃r,xs[i]?=Zh (V.ref r)/\X r=Zh (.tup [.int k,.int i]):=λi k hk=>by
  obtain⟨r,a1,a2⟩:=ae.2 i k hk;exact#[r,a1,sX _ _ a2]
 have U:=SX _ _ br;have bt:=SX.seq hS;refine bN ?_;walk_at "r";refine#[cQ _,λlg UQ=>?_];obtain⟨H6,e6,s6,h6⟩:=aJ UQ<|.lst [];rw[e6];clear e6;have az:bl≠lg:=bE ah UQ;have af:∀(i:Nat) k,ks[i]?=Zh k->∃r,xs[i]?=Zh (V.ref r)/\H6 r=Zh (.tup [.int k,.int i]):=λi k hk=>by
  obtain⟨r,a1,a2⟩:=bg i k hk;exact#[r,a1,s6 _ _ a2]
 refine bN ?_;walk_at "r";refine#[rfl,.inl<|s6 _ _ U,λg1 G5 md=>?_];intro ao bu ap au am;refine#[ao,bu,g1,rfl,aU,λG7 k7 ir=>#[rfl,?_]];intro ak1 bj ai as ag;refine#[ak1,bj,rwA,ao,.int 0,xs,rfl,aU,DF md ap au am k7 ai as ag #[_,s6 _ _ U]<|s6 _ _ J,λbn tl1 HA k9 bd b8 b6 ia b9 UX=>#[rfl,?_]];obtain⟨ad,kA,b3,bh,ba⟩:=yP (CR:=aF.mk Cc Ca) (pre:=vA ks bs) (exc:=λ_=>False) (lim:=Zh 0) md ap au am k7 ir ai as ag k9 bd b8 b6 ia b9 UX h6 (s6 _ _ ah) az ∅ ae.1 af #[_,s6 _ _ U];clear md ap au am k7 ir ai as ag k9 bd b8 b6 ia b9 UX af;have kX:Kq [] X HA:=(aC.kq s6).trans kA;have bf:X ak1=Zi:=s6.free bh;have b7:X tl1=Zi:=s6.free ba;clear kA bh ba s6 h6 az;refine bN ?_;walk_at "r";obtain⟨c,hc⟩:∃c:Ad,c=⟨ks,bs,xs,ak1,bn,ao,tl1,g1,lg,bl,vA ks bs,Zh 0,λ_=>False,HA⟩:=#[_,rfl]
 rw[<- hc] at ad;have e1:c.a=ak1:=by rw[hc]
 have e2:c.lg=lg:=by rw[hc]
 have e3:c.tl=tl1:=by rw[hc]
 have e4:c.bl=bl:=by rw[hc]
 have e5:c.xs=xs:=by rw[hc]
 have e6:c.pre=vA c.ks c.bs:=by rw[hc]
 have e7:c.ks=ks:=by rw[hc]
 have e8:vA ks bs=c.pre++[]:=by rw[hc,iG]
 have e9:c.lim=Zh 0:=by rw[hc]
 clear hc;rw[e8] at ad;subst e1 e2 e3 e4 e5;refine G9 (by decide)<|Gk (λi σ Y=>L2.X2 λ(v5:Option V) (qr:List A3)=>σ=[Zh<|.ref a,Zh<|.ref rwA,Zh<|.ref c.bl,Zh<|.ref c.lg,Zh<|.ref c.a,v5]/\bH Cb (aF.mk Cc Ca) Y (c.at (Zh qr.length) (λ_=>False) Y) (c.pre++qr)/\qr.length<=170000*i/\Kq c.S HA Y/\kM Y Pt_teller) #[_,[],rfl,ad.to (aC.kq<|.refl _) (by
  have z:=ad.ha;rw[e9] at z;exact z),cQ _,aC.kq<|.refl _,b3] ?_ ?_
 .rintro i σ Y hi ⟨v5,qr,rfl,sY,hq,kY,b5⟩;have hi:i<3:=hi;have aw:Kq [] X Y:=kX.Wz kY bf UQ b7;walk_at "r";refine#[a,ns,_,rfl,aw.seq bt,∅,?_];refine#[c.at (Zh qr.length) (λ_=>False) Y,qr,rwA,_,rfl,sY,rfl,aw.lst dU J,GX (bE J bf) (bE J UQ)<|bE J b7,by show c.ks.length<=30;rw[e7];lia,e6,∅,b5,λZ qr' bw sZ bx kZ bc=>jZ ?_];rw[Z8<|by decide];exact#[_,qr',rfl,sZ.to (aC.kq<|.refl _) sZ.ha,∅,kY.trans kZ,bc]
 rintro σ Y ⟨v5,qr,rfl,_⟩;dsimp only;refine bN ?_;walk_at "r";exact q Y
end
local macro_rules | `(nofun)=>`(by first|(intro _ _ _ _ h;cases h;subst_vars;rfl)|(intro _ _ _ _ _ _ us hl;first|(obtain ⟨_,e⟩:=se hl;subst e;rfl)|(obtain ⟨_,_,e⟩:=mD hl;subst e;rfl)|(obtain ⟨_,_,_,e⟩:=jJ hl;subst e;rfl)|(obtain ⟨_,_,_,_,e⟩:=vU hl;subst e;rfl)|(obtain ⟨_,_,_,_,_,e⟩:=NG hl;subst e;rfl)))
abbrev Zg(K:W.Frag)(C:OS)(x:Pj):Prop:=W.findIn K (.ref C) x=Zh Zi
abbrev Za(K:W.Frag)(x:Pj)(s:PM)(f:OS)(d:Qg):Prop:=jC K x f<|aS K x x s f d
abbrev Zb(K:W.Frag)(C:OS)(x q:Pj)(s:PM)(f:OS)(d:Qg):Prop:=gY K C x f<|aS K x q s f d
section
variable {P:Pl}{w:PN}{K:W.Frag}{mg:Pj->Option OR}{base h:PJ}{CX:pf}{k:Nat}{f C:OS}{fd:Qg}{ps:List Pj}{sp:Sp}{x qual:Pj}{st:PM}
theorem Zc(X:K.In h)(G:h.Ns Ph mg)(g:Za K x st f fd)(o:aI P w K mg base CX k f fd ps sp)(hh:∀(kV J O:OR) (an:Option OS) (z ct:OR) (us:List OR),us.length=ps.length->Us (W.fnOf x x (oW st) (kn st) (aR st) .none kV J O an z ct) #[us,[]]=pure (ps.zip us)):Fn P w K mg base CX x k ps sp:=#[f,fd,o,g.F.binds hh,g.k,OY X G g.a]
theorem Zd(c:gF K C)(g:Zb K C x qual st f fd)(o:aI P w K mg base CX k f fd ps sp)(hh:∀(kV J O:OR) (an:Option OS) (z ct:OR) (us:List OR),us.length=ps.length->Us (W.fnOf x qual (oW st) (kn st) (aR st) .none kV J O an z ct) #[us,[]]=pure (ps.zip us)):Mt P w K mg base CX C x k ps sp:=#[c,f,fd,o,g.F.binds hh,g.a,g.i,g.k]
end
theorem all_mk{l:PySem.W.OpenLaw}{w:PN}{h:PJ}{mg:Pj->Option OR}{fa Tm co ck c9 ce TW dt b5 cy bp aw ep bj Tk b0 bi bz b7 c8 ay b9 b6 b8 Tl af ah Ty dq as Z ae b2 eo di d1 TD ap aj Ch Cj Ci Ca az bo gf fm ht k7 hp j5 g2 c3 hs dm e5 du ai cr cz eu cx bn cw fx lh iy ld kf er hr it ju jd jm e3 e0:OS}{bq cq bd bg ag nk lr f7:Tok}(X:K.In h)(G:h.Ns Ph mg)(p7:mg "law"=Zh (.ref fa))
  {g6 fh fb f9 hd dh fv ea d2 hu e9 dc em i7 h7 i6 g7 gt h3 h6 br c0 hh d8 b3 bu dy ia gy g3 d6 bv g4 ed jb j9 jf ln jj kz ja ev jt h9 ho gx c4 gd g0 ig g9 eb ft j7 om ky n4 m5 hx jq ku lm:Qg} {mx jy:Option OS} {nv:Array<|Option OR} {n7 jz k6 ka il ke:OR}
  {m1:OR} {md:Option OS} {kg:Array OR} {m3:Array<|Option OR}
  {n1 n6:Option OS} {mr:Array<|Option OR} {nx o4 nb o5 mj:OR}
  (jh:W.nsIn K Ph "Asker"=Zh (Zh<|.ref Tm))
  (ff:gF K Tm)
  (jx:Qs K Tm=Zj)
  (k8:W.keepIn K (.ref Tm)=Zj)
  (je:Zg K Tm "row")
  (ix:Zg K Tm "rule")
  (iv:Zg K Tm "most")
  (ij:Zg K Tm "asked")
  (iz:Zg K Tm "told")
  (rc:gY K Tm "__init__" co<|dS K "__init__" "Asker.__init__" Mb co g6 [.none])
  (wr:Zb K Tm "many" "Asker.many" Mc ck fh)
  (GE:Zb K Tm "widen" "Asker.widen" MK c9 fb)
  (wT:Zb K Tm "ahead" "Asker.ahead" MJ ce f9)
  (m8:W.nsIn K Ph "Join"=Zh (Zh<|.ref TW))
  (bc:gF K TW)
  (og:Qs K TW=Zj)
  (o7:W.keepIn K (.ref TW)=Zj)
  (io:Zg K TW "asker")
  (i8:Zg K TW "sides")
  (hz:Zg K TW "taken")
  (gm:Zg K TW "places")
  (Sc:Zb K TW "__init__" "Join.__init__" Ms dt hd)
  (GM:Zb K TW "has_more" "Join.has_more" MB b5 dh)
  (Ev:Zb K TW "front" "Join.front" Md cy fv)
  (AC:Zb K TW "take_on" "Join.take_on" Mx bp ea)
  (zn:Zb K TW "take_rest" "Join.take_rest" MG aw d2)
  (wf:Zb K TW "win" "Join.win" LN ep hu)
  (FB:Zb K TW "leap_on" "Join.leap_on" Mw bj e9)
  (lq:W.nsIn K Ph "Pour"=Zh (Zh<|.ref Tk))
  (ad:gF K Tk)
  (ng:Qs K Tk=Zj)
  (o0:W.keepIn K (.ref Tk)=Zj)
  (dk:Zg K Tk "asker")
  (d0:Zg K Tk "pieces")
  (de:Zg K Tk "taken")
  (bf:Zg K Tk "meetings")
  (bx:Zg K Tk "went_on")
  (xL:Zb K Tk "front_of" "Pour.front_of" MD b0 dc)
  (wP:Zb K Tk "goes_on" "Pour.goes_on" My bi em)
  (sw:Zb K Tk "met" "Pour.met" LP bz i7)
  (ss:Zb K Tk "held" "Pour.held" LZ b7 h7)
  (py:Zb K Tk "top" "Pour.top" LQ c8 i6)
  (t3:Zb K Tk "first" "Pour.first" Mg ay g7)
  (Fk:Zb K Tk "left" "Pour.left" L1 b9 gt)
  (u8:Zb K Tk "__init__" "Pour.__init__" L0 b6 h3)
  (sK:Zb K Tk "take" "Pour.take" L4 b8 h6)
  (lx:W.nsIn K Ph "LastPour"=Zh (Zh<|.ref Tl))
  (am:gF K Tl)
  (nj:Qs K Tl=Zj)
  (o8:W.keepIn K (.ref Tl)=Zj)
  (db:Zg K Tl "asker")
  (ct:Zg K Tl "pieces")
  (d9:Zg K Tl "taken")
  (be:Zg K Tl "meetings")
  (c6:Zg K Tl "went_on")
  (wv:Zb K Tl "front_of" "LastPour.front_of" MS af br)
  (Gc:Zb K Tl "goes_on" "LastPour.goes_on" MQ ah c0)
  (f4:W.findIn K (.ref Tl) "met"=Zh (Zh<|.ref bz))
  (eg:W.findIn K (.ref Tl) "held"=Zh (Zh<|.ref b7))
  (f3:W.findIn K (.ref Tl) "top"=Zh (Zh<|.ref c8))
  (dg:W.findIn K (.ref Tl) "first"=Zh (Zh<|.ref ay))
  (kj:W.findIn K (.ref Tl) "left"=Zh (Zh<|.ref b9))
  (ec:W.findIn K (.ref Tl) "__init__"=Zh (Zh<|.ref b6))
  (en:W.findIn K (.ref Tl) "take"=Zh (Zh<|.ref b8))
  (m0:W.nsIn K Ph "Pile"=Zh (Zh<|.ref Ty))
  (ax:gF K Ty)
  (nw:Qs K Ty=Zj)
  (mh:W.keepIn K (.ref Ty)=Zj)
  (hv:Zg K Ty "asker")
  (ic:Zg K Ty "least")
  (ik:Zg K Ty "start")
  (jr:Zg K Ty "end")
  (g8:Zg K Ty "reached")
  (gv:Zg K Ty "firsts")
  (gj:Zg K Ty "orders")
  (gn:Zg K Ty "grades")
  (ul:gY K Ty "__init__" dq<|dS K "__init__" "Pile.__init__" Mu dq hh [.int 1 bq,.none])
  (ww:Zb K Ty "beyond_of" "Pile.beyond_of" MH as d8)
  (xz:Zb K Ty "is_due_beneath" "Pile.is_due_beneath" MO Z b3)
  (FS:Zb K Ty "grade_on_top" "Pile.grade_on_top" MN ae bu)
  (At:Zb K Ty "join_two" "Pile.join_two" MC b2 dy)
  (FM:Zb K Ty "lay" "Pile.lay" LO eo ia)
  (Do:Zb K Ty "step" "Pile.step" Mv di gy)
  (Go:Zb K Ty "paper" "Pile.paper" Mf d1 g3)
  (lv:W.nsIn K Ph "AskedRule"=Zh (Zh<|.ref TD))
  (jv:gF K TD)
  (oc:Qs K TD=Zj)
  (nz:W.keepIn K (.ref TD)=Zj)
  (hg:Zg K TD "teller")
  (Re:Zb K TD "__init__" "AskedRule.__init__" MF ap d6)
  (EQ:Zb K TD "before" "AskedRule.before" MP aj bv)
  (ir:W.nsIn K Ph "HallError"=Zh (Zh<|.ref Ch))
  (jo:W.nsIn K Ph "NoPlace"=Zh (Zh<|.ref Cj))
  (l6:W.nsIn K Ph "TooFar"=Zh (Zh<|.ref Ci))
  (j3:W.nsIn K Ph "Spent"=Zh (Zh<|.ref Ca))
  (SZ:Zb K Ca "__init__" "Spent.__init__" Mh az g4)
  (ki:W.findIn K (.ref Ca) "__getattribute__"=Zh (Zh<|.builtin "BaseException.__getattribute__"))
  (kw:Zg K Ca "__getattr__")
  (ko:W.findIn K (.ref Ca) "__class__"=Zh (Zh<|.builtin "object.__class__"))
  (l9:RM K (.builtin "object.__class__") "__get__"=Zh (Zh<|.builtin "getset_descriptor.__get__"))
  (kv:Th K (.builtin "object.__class__")=Zh Zj)
  (kx:RQ K Ca (.type "object")=Zh Zj)
  (l4:RQ K Ca (.type "BaseException")=Zh Zj)
  (lc:PZ K Ca=Zj)
  (kh:KS K Ca=Zj)
  (l5:W.findIn K (.ref Ca) "__setattr__"=Zh (Zh<|.builtin "object.__setattr__"))
  (hq:D3 K Ca az AE "ValueError.__new__"=Zj)
  (km:W.keepIn K (.ref Ca)=Zj)
  (fe:PySem.W.exmOne K (.ref Ca) (.ref Ca)=Zh Zj)
  (gi:Zg K Ca "asked")
  (fu:RM K (.ref Ch) "__getattribute__"=Zh (Zh<|.builtin "type.__getattribute__"))
  (fj:PySem.W.readsIn K Ch (.type "type")=Zj)
  (gh:PySem.W.findCls K (.ref Ch) (.type "type") "__init__"=Zh (.val<|.builtin "ValueError.__init__"))
  (wS:jC K "stretch_from" bo<|dS K "stretch_from" "stretch_from" MA bo ed [.none])
  (IR:Za K "in_turn" LG gf jb)
  (SC:Za K "spot_of" LH fm j9)
  (AT:jC K "filled" ht<|dS K "filled" "filled" Lq ht jf [.none])
  (IO:Za K "leap" K7 k7 ln)
  (dL:Za K "joined" Lr hp jj)
  (ST:Za K "grade" Lz j5 kz)
  (pi:jC K "by_pile" g2<|dS K "by_pile" "by_pile" LD g2 ja [.int 1 cq,.none])
  (P3:Za K "meetings_of" ML c3 ev)
  (M2:Za K "poured" Ls hs jt)
  (IN:Za K "one_round" L7 dm h9)
  (wn:jC K "in_rounds" e5<|dS K "in_rounds" "in_rounds" L6 e5 ho [.int 2 bd])
  (ut:jC K "by_pieces" du<|dS K "by_pieces" "by_pieces" L5 du gx [.int 2 bg,.int 1 ag])
  (Pv:Za K "spot_from_behind" MR ai c4)
  (GT:Za K "by_putting" Mi cr gd)
  (Ix:Za K "by_walking" Mj cz g0)
  (Id:Za K "by_reach" LS eu ig)
  (SL:Za K "cut_of_two" Ml cx g9)
  (KM:Za K "joined_apart" Mz bn eb)
  (KB:Za K "so_manieth" Mm cw ft)
  (Rs:Za K "_law_cell_at" LF fx j7)
  (KF:Za K "_law_row" s_row lh om)
  (NE:Za K "_law_dealt" K5 iy ky)
  (SB:Za K "_law_due" ym ld n4)
  (LE:Za K "_law_told" K8 kf m5)
  (Pi:Za K "_law_by_lists" LR er hx)
  (KK:Za K "_law_by_way" Lp hr jq)
  (PP:Za K "_law_tried" LA it ku)
  (Ps:Za K "_law_held" K6 ju lm)
  (ot:W.nsIn K Ph "law"=Zh (Zh<|.ref jd))
  (oy:K.lookup jd=Zh #[n7,mx,.func<|W.fnOf "law" "law" (oW CK) (kn CK) (aR CK) .none jz k6 ka jy il ke,nv])
  (op:W.codeIn K il "law"=Zj)
  (p4:W.keepIn K (.ref jd)=Zj)
  (lw:W.nsIn K Ph "_law_teller"=Zh (Zh<|.ref jm))
  (ly:K.lookup jm=Zh #[nx,n1,.func<|W.fnOf "_law_teller" "_law_teller" (oW Gv) (kn Gv) (aR Gv) .none o4 nb o5 n6 (.ref e3) mj,mr])
  (p3:W.codeIn K (.ref e3) "_law_teller"=Zj)
  (nq:K.lookup e3=Zh #[m1,md,.fields kg,m3])
  (mo:kg[11]?=Zh (.ref e0))
  (lf:W.keepIn K (.ref jm)=Zj)
  (nn:W.nsIn K Ph "LEFT"=Zh (Zh<|.int 0 nk))
  (me:W.nsIn K Ph "RIGHT"=Zh (Zh<|.int 1 lr))
  (f6:W.nsIn K Ph "WINS_TO_LEAP"=Zh (Zh<|.int 4 f7))
  (oq:W.nsIn K Ph "len"=Zh Zi)
  (lj:W.nsIn K Ph "range"=Zh Zi)
  (mv:W.nsIn K Ph "list"=Zh Zi)
  (gk:W.nsIn K Ph "isinstance"=Zh Zi)
  (ov:W.nsIn K Ph "int"=Zh Zi)
  (p0:W.nsIn K Ph "max"=Zh Zi)
  (p1:W.nsIn K Ph "min"=Zh Zi)
  (oz:W.nsIn K Ph "sum"=Zh Zi)
  (kl:W.nsIn K Ph "sorted"=Zh Zi)
  (ox:W.nsIn K Ph "zip"=Zh Zi)
  (ni:W.nsIn K Ph "dict"=Zh Zi)
  (hj:W.nsIn K Ph "ValueError"=Zh Zi)
  (gq:P6 K (.type "int") (.type "bool")=Zh Zk)
  (gb:P6 K (.type "list") (.type "bool")=Zh Zk)
  (e8:P6 K (.ref Ca) (.ref Ca)=Zh Zj)
  (nt:Sj K=Zj):
  ∃(tabs:List<|OS×OS) (fd:Qg),Sj K=Zj/\(∀t∈tabs,∃y∈(["_law_teller"]:List Pj),Sv K y=Zh t)/\(∀(s:OU) (v:OR),BindsTo s fd #[[v],[]] [("_law_script",v)])/\∀base:PJ,K.In base->base.Ns Ph mg->(∀t∈tabs,Qy base t.1 t.2)->D0 mg base->aI l.prog w K mg base aP 19 fa fd ["_law_script"] (Lb K tabs):=by
 have e:=p7.symm.trans<|OY X G ot;cases e;
 have ey:=rc.F.binds (ps:=["self","row","rule","most"]) (ds:=[]) (by exact λ_ _ _ _ _ _ _ us hl=>by obtain⟨_,_,_,_,e⟩:=vU (rP (n:=4) hl rfl);subst e;exact#[_,rfl,rfl]);have f8:=rc.F.binds (ps:=["self","row","rule","most"]) (ds:=[.none]) (by exact λ_ _ _ _ _ _ _ us hl=>by obtain⟨_,_,_,e⟩:=jJ (rP (n:=3) hl rfl);subst e;exact#[_,rfl,rfl]);
 have ao:C5 K Tk:=#[ad,dk,d0,de,bf,bx]
 have U:C5 K Tl:=#[am,db,ct,d9,be,c6]
 have g5:=ul.F.binds (ps:=["self","asker","least","part"]) (ds:=[]) (by exact λ_ _ _ _ _ _ _ us hl=>by obtain⟨_,_,_,_,e⟩:=vU (rP (n:=4) hl rfl);subst e;exact#[_,rfl,rfl]);have m6:=ul.F.binds (ps:=["self","asker","least","part"]) (ds:=[.none]) (by exact λ_ _ _ _ _ _ _ us hl=>by obtain⟨_,_,_,e⟩:=jJ (rP (n:=3) hl rfl);subst e;exact#[_,rfl,rfl]);have li:=ul.F.binds (ps:=["self","asker","least","part"]) (ds:=[.int 1 bq,.none]) (by exact λ_ _ _ _ _ _ _ us hl=>by obtain⟨_,_,e⟩:=mD (rP (n:=2) hl rfl);subst e;exact#[_,rfl,rfl]);
 have dj:=wS.F.binds (ps:=["asker","first","end"]) (ds:=[]) (by exact λ_ _ _ _ _ _ _ us hl=>by obtain⟨_,_,_,e⟩:=jJ (rP (n:=3) hl rfl);subst e;exact#[_,rfl,rfl]);have k4:=wS.F.binds (ps:=["asker","first","end"]) (ds:=[.none]) (by exact λ_ _ _ _ _ _ _ us hl=>by obtain⟨_,_,e⟩:=mD (rP (n:=2) hl rfl);subst e;exact#[_,rfl,rfl]);have iw:=AT.F.binds (ps:=["asker","first","least","end"]) (ds:=[]) (by exact λ_ _ _ _ _ _ _ us hl=>by obtain⟨_,_,_,_,e⟩:=vU (rP (n:=4) hl rfl);subst e;exact#[_,rfl,rfl]);have oo:=AT.F.binds (ps:=["asker","first","least","end"]) (ds:=[.none]) (by exact λ_ _ _ _ _ _ _ us hl=>by obtain⟨_,_,_,e⟩:=jJ (rP (n:=3) hl rfl);subst e;exact#[_,rfl,rfl]);have ie:=pi.F.binds (ps:=["asker","least","part"]) (ds:=[]) (by exact λ_ _ _ _ _ _ _ us hl=>by obtain⟨_,_,_,e⟩:=jJ (rP (n:=3) hl rfl);subst e;exact#[_,rfl,rfl]);have ih:=pi.F.binds (ps:=["asker","least","part"]) (ds:=[.none]) (by exact λ_ _ _ _ _ _ _ us hl=>by obtain⟨_,_,e⟩:=mD (rP (n:=2) hl rfl);subst e;exact#[_,rfl,rfl]);have my:=pi.F.binds (ps:=["asker","least","part"]) (ds:=[.int 1 cq,.none]) (by exact λ_ _ _ _ _ _ _ us hl=>by obtain⟨_,e⟩:=se (rP (n:=1) hl rfl);subst e;exact#[_,rfl,rfl]);have ge:=wn.F.binds (ps:=["asker","pieces","mouths"]) (ds:=[]) (by exact λ_ _ _ _ _ _ _ us hl=>by obtain⟨_,_,_,e⟩:=jJ (rP (n:=3) hl rfl);subst e;exact#[_,rfl,rfl]);have m7:=wn.F.binds (ps:=["asker","pieces","mouths"]) (ds:=[.int 2 bd]) (by exact λ_ _ _ _ _ _ _ us hl=>by obtain⟨_,_,e⟩:=mD (rP (n:=2) hl rfl);subst e;exact#[_,rfl,rfl]);have fi:=ut.F.binds (ps:=["asker","wide","mouths","least"]) (ds:=[]) (by exact λ_ _ _ _ _ _ _ us hl=>by obtain⟨_,_,_,_,e⟩:=vU (rP (n:=4) hl rfl);subst e;exact#[_,rfl,rfl]);have lu:=ut.F.binds (ps:=["asker","wide","mouths","least"]) (ds:=[.int 1 ag]) (by exact λ_ _ _ _ _ _ _ us hl=>by obtain⟨_,_,_,e⟩:=jJ (rP (n:=3) hl rfl);subst e;exact#[_,rfl,rfl]);have m9:=ut.F.binds (ps:=["asker","wide","mouths","least"]) (ds:=[.int 2 bg,.int 1 ag]) (by exact λ_ _ _ _ _ _ _ us hl=>by obtain⟨_,_,e⟩:=mD (rP (n:=2) hl rfl);subst e;exact#[_,rfl,rfl]);have m2:=J9 (st:=CK) oy op p4;have p6:=m2.binds (ps:=["_law_script"]) nofun;have lz:=J9 (st:=Gv) ly p3 lf;have ow:=lz.binds (ps:=["_law_log","_law_bits"]) nofun;have T:Bt K mg Tm TW Tk Tl Ty TD Ch Cj Ci Ca:=#[PY X G oq,PY X G lj,PY X G mv,PY X G gk,PY X G ov,PY X G p0,PY X G p1,PY X G oz,PY X G kl,PY X G ox,PY X G ni,PY X G hj,#[_,OY X G nn],#[_,OY X G me],#[_,OY X G f6],OY X G jh,ff,je,ix,iv,ij,iz,OY X G m8,bc,io,i8,hz,gm,OY X G lq,ad,dk,d0,de,bf,bx,OY X G lx,am,db,ct,d9,be,c6,OY X G m0,ax,hv,ic,ik,jr,g8,gv,gj,gn,OY X G lv,jv,hg,OY X G ir,OY X G jo,OY X G l6,OY X G j3,#[ki,kw,ko,l9,kv,kx,l4],#[lc,kh,l5],#[_,hq],fe,gi,#[fu,fj,gh],gq,gb,e8]
 refine#[[(e3,e0)],W.fnOf "law" "law" (oW CK) (kn CK) (aR CK) .none jz k6 ka jy il ke,nt,List.forall_mem_cons.mpr #[#["_law_teller",by simp,xH lw ly rfl nq mo],λ_ h=>nomatch h],λs v=>.of_eq rfl,λbase _ _ hC hB=>?_];have Ze:=@Zc l.prog w K mg base h;have Zf:=@Zd l.prog w K mg base;have o9:=Ze X G KF (NY T KF.F) nofun
 have j0:=Ze X G Rs (O2 T Rs.F) nofun
 have k9:Fn l.prog w K mg base _ _ _ _ _:=#[_,_,OK lz rfl (hC (e3,e0)<|by simp) hB,ow,lf,OY X G lw]
 have ob:=Ze X G SB (OI T SB.F) nofun
 have l7:=Ze X G NE (NS T NE.F) nofun
 have ac:=Zf bc AC (NZ T AC.F) nofun
 have d7:=Zf bc zn (NL T zn.F ac) nofun
 have aq:=Zf bc GM (Oj T GM.F) nofun
 have im:pe l.prog w K mg base 1<|mG:=iC T;have bw:=Zf jv EQ (NV T EQ.F im) nofun
 have jg:MU l.prog w K mg base aP "Spent" Ca 1 ["self","asked"]<|dM Ca:=#[OY X G j3,_,_,NQ T SZ.F,SZ.F.binds nofun,hq,SZ.i,km]
 have J:=Zf ff wT (OF T wT.F bw jg) nofun
 have cg:=Zf bc Ev (O1 T Ev.F) nofun
 have i9:=Zf bc wf (On T wf.F ac J cg) nofun
 have mc:=Ze X G IO (Ou T IO.F J) nofun
 have ee:=Zf bc FB (OD T FB.F mc ac aq cg) nofun
 have nr:Kl l.prog w K mg base _ _ _ _ _ _:=#[OY X G m8,_,_,Ot T Sc.F,Sc.F.binds nofun,og,Sc.a,Sc.i,o7]
 have d3:=Ze X G dL (O7 T dL.F d7 aq i9 ee nr) nofun
 have fq:=Ze X G SL (OL T SL.F J) nofun
 have el:=Ze X G KM (Oi T KM.F d3 fq) nofun
 have e1:Mt l.prog w K mg base aP Tk "top" 1 ["self"]<|nK Zk Tk:=Zf ad py (Od T py.F ao) nofun
 have au:Mt l.prog w K mg base aP Tk "front_of" 1 ["self","piece","taken"]<|cJ Zk Tk:=Zf ad xL (O4 T xL.F) nofun
 have eh:Mt l.prog w K mg base (aK l.prog w) Tk "goes_on" 4 ["self","p","q"]<|cW Tm (aF.mk TD Ca) Zk Tk:=Zf ad wP (OA T wP.F J) nofun
 have hy:Mt l.prog w K mg base (aK l.prog w) Tk "met" 5 ["self","one","other"]<|lI Tm (aF.mk TD Ca) Zk Tk:=Zf ad sw (Oh T sw.F ao eh) nofun
 have cp:Mt l.prog w K mg base (aK l.prog w) Tk "held" 6 ["self","meetings","went_on"]<|gL Tm (aF.mk TD Ca) Zk Tk:=Zf ad ss (Ob T ss.F ao hy) nofun
 have cm:Mt l.prog w K mg base (aK l.prog w) Tk "take" 7 ["self"]<|eK Tm (aF.mk TD Ca) Zk Tk:=Zf ad sK (Of T sK.F ao e1 au cp) nofun
 have h5:Mt l.prog w K mg base aP Tk "left" 1 ["self"]<|pG Zk Tk:=Zf ad Fk (Oq T Fk.F ao) nofun
 have bh:Fn l.prog w K mg base aP "meetings_of" 9 ["first","beyond"]<|bW 9:=yu (sp:=bW) (λ_ _ _ _ z=>mI z) (P3.F.binds nofun) P3.k (OY X G P3.a) (λn h=>NP T P3.F h) 9;have kc:Kl l.prog w K mg base (aK l.prog w) "Pour" Tk 10 ["self","asker","pieces"]<|bP Tm (aF.mk TD Ca) Zk Tk:=#[OY X G lq,_,_,Oc T u8.F ao bh cp au,u8.F.binds nofun,ng,u8.a,u8.i,o0]
 have ga:=Ze X G M2 (NN T M2.F cm h5 kc) nofun
 have hf:=Ze X G IN (O6 T IN.F ga) nofun
 have cn:Fn l.prog w K mg base _ _ _ _ _:=#[_,_,OH T wn.F hf,ge,wn.k,OY X G wn.a]
 have ii:=Ze X G Pi (O0 T Pi.F l7 el ga d3 cn) nofun
 have c5:=Ze X G SC (O9 T SC.F J) nofun
 have O:=Zf ff wr (O8 T wr.F) nofun
 have gc:=Ze X G GT (Oo T GT.F c5 O) nofun
 have ca:=Ze X G Pv (Oy T Pv.F J) nofun
 have fk:=Ze X G Ix (OJ T Ix.F ca O) nofun
 have cb:=Zf ax Go (OE T Go.F) nofun
 have b4:=Zf ax xz (OO T xz.F) nofun
 have d5:=Zf ax ww (NO T ww.F) nofun
 have dw:=Zf ax At (Op T At.F d3 d5) nofun
 have e7:Fn l.prog w K mg base _ _ _ _ _:=#[_,_,OC T wS.F J O,dj,wS.k,OY X G wS.a]
 have iu:=Ze X G IR (O3 T IR.F) nofun
 have ji:Fn l.prog w K mg base _ _ _ _ _:=#[_,_,NT T AT.F e7 iu c5 O,iw,AT.k,OY X G AT.a]
 have l0:=Ze X G ST (NU T ST.F) nofun
 have bt:=Zf ax FS (NM T FS.F l0) nofun
 have i0:=Zf ax FM (Ov T FM.F ji bt) nofun
 have cu:=Zf ax Do (Oz T Do.F b4 dw i0) nofun
 have kb:Kl l.prog w K mg base _ _ _ _ _ _:=#[OY X G m0,_,_,Ow T ul.F O,g5,nw,ul.a,ul.i,mh]
 have h4:M3 l.prog w K mg base (aK l.prog w) "by_pile" 9 ["asker","least","part"] (cX Tm<|aF.mk TD Ca) [.Uy]:=#[_,_,_,Og T pi.F cb cu kb,ih,(.cons rfl .nil),pi.k,OY X G pi.a]
 have j1:Fn l.prog w K mg base _ _ _ _ _:=#[_,_,Og T pi.F cb cu kb,ie,pi.k,OY X G pi.a]
 have gl:Fn l.prog w K mg base _ _ _ _ _:=#[_,_,Os T ut.F j1 cn O,fi,ut.k,OY X G ut.a]
 have i1:=Ze X G Id (Ol T Id.F c5 O J) nofun
 have g1:Mt l.prog w K mg base aP Tk "first" 2 ["self"]<|gM Zk Tk:=Zf ad t3 (Oe T t3.F ao e1) nofun
 have b1:Mt l.prog w K mg base aP Tl "top" 1 ["self"]<|nK Zj Tl:=#[am,_,_,Od T py.F U,py.F.binds nofun,f3,py.i,py.k]
 have d4:Mt l.prog w K mg base aP Tl "first" 2 ["self"]<|gM Zj Tl:=#[am,_,_,Oe T t3.F U b1,t3.F.binds nofun,dg,t3.i,t3.k]
 have aa:Mt l.prog w K mg base aP Tl "front_of" 1 ["self","piece","taken"]<|cJ Zj Tl:=Zf am wv (OM T wv.F) nofun
 have cf:Mt l.prog w K mg base (aK l.prog w) Tl "goes_on" 4 ["self","p","q"]<|cW Tm (aF.mk TD Ca) Zj Tl:=Zf am Gc (Ox T Gc.F J) nofun
 have ej:Mt l.prog w K mg base (aK l.prog w) Tl "met" 5 ["self","one","other"]<|lI Tm (aF.mk TD Ca) Zj Tl:=#[am,_,_,Oh T sw.F U cf,sw.F.binds nofun,f4,sw.i,sw.k]
 have av:Mt l.prog w K mg base (aK l.prog w) Tl "held" 6 ["self","meetings","went_on"]<|gL Tm (aF.mk TD Ca) Zj Tl:=#[am,_,_,Ob T ss.F U ej,ss.F.binds nofun,eg,ss.i,ss.k]
 have df:Mt l.prog w K mg base (aK l.prog w) Tl "take" 7 ["self"]<|eK Tm (aF.mk TD Ca) Zj Tl:=#[am,_,_,Of T sK.F U b1 aa av,sK.F.binds nofun,en,sK.i,sK.k]
 have ny:Kl l.prog w K mg base (aK l.prog w) "LastPour" Tl 10 ["self","asker","pieces"]<|bP Tm (aF.mk TD Ca) Zj Tl:=#[OY X G lx,_,_,Oc T u8.F U bh av aa,u8.F.binds nofun,nj,ec,u8.i,o8]
 have fw:=Ze X G KB (NR T KB.F O g1 d4 cm df ny kc) nofun
 have jl:=Ze X G KK (NJ T KK.F ii gc fk h4 gl i1 fw) nofun
 have lb:=Ze X G PP (NW T PP.F jl) nofun
 have mb:=Ze X G LE (NK T LE.F) nofun
 have ew:=Zf ff GE (OG T GE.F) nofun
 have kr:M1 l.prog w K mg base aP "Asker" Tm 1 ["self","row","rule","most"] (bX Tm) [.Uy]:=#[OY X G jh,_,_,_,Oa T rc.F,f8,(.cons rfl .nil),jx,rc.a,rc.i,k8]
 have jw:Kl l.prog w K mg base _ _ _ _ _ _:=#[OY X G lv,_,_,ON T Re.F,Re.F.binds nofun,oc,Re.a,Re.i,nz]
 have m4:=Ze X G Ps (Om T Ps.F ob lb mb k9 ew kr jw) nofun
 have nd:Kl l.prog w K mg base _ _ _ _ _ _:=#[OY X G jh,_,_,Oa T rc.F,ey,jx,rc.a,rc.i,k8]
 exact O5 T m2 o9 j0 k9 m4 nd jw
end Law
open PySem PySem.W PyProof.Rows L2
set_option maxRecDepth 100000 in
set_option maxHeartbeats 0 in
theorem PySem.Challenge.cw_sorthall_k93_whole_stopped_and_given_mor_holds : PySem.Challenge.rw_sorthall_k93_whole_stopped_and_given_mor.Holds := by
 refine L2.hd0 ?_
 k_fill
 refine L2.vT (l:=PySem.Challenge.rw_sorthall_k93_whole_stopped_and_given_mor) (k:=19) (x:="_law_script") (names:=["_law_teller"]) rfl rfl #[rfl,by decide,by decide,rfl] (λw h Y=>PySem.W.km_in_of Y) (List.forall_mem_cons.mpr #[#[_,rfl],λ_ h=>nomatch h]) ?F
 case F=>
  intro w mg fa h KX G hmg;apply Law.all_mk KX G hmg
  (all_goals try first|k_is|kit_is|(refine' ⟨?_,?_,?_,?_⟩;all_goals first|k_is|kit_is|rfl|kernel_rfl)|(show W.findIn _ _ _=_;k_is)|(refine' #[?qa,?qi,?qF,?qk];(case qa=>k_is);(case qi=>k_is);(case qF=>(refine' ND ?_ ?_ ?_ ?_;all_goals try k_is));(case qk=>k_is))|(refine' ⟨?qa,?qi,?qF,?qk⟩;(case qa=>k_is);(case qi=>k_is);(case qF=>(refine' J9 ?_ ?_ ?_;all_goals try k_is));(case qk=>k_is))|(refine' ⟨?qa,?qF,?qk⟩;(case qa=>k_is);(case qF=>(refine' ND ?_ ?_ ?_ ?_;all_goals try k_is));(case qk=>k_is))|(refine' ⟨?qa,?qF,?qk⟩;(case qa=>k_is);(case qF=>(refine' J9 ?_ ?_ ?_;all_goals try k_is));(case qk=>k_is))|kts_exm|rfl|kernel_rfl)
