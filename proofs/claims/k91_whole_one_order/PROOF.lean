import PyProof.Rows.All
import Wide.All
import OpenK.AllK
import Wide.FinOn
import Lean
import PyProof.EqAt
import PyProof.EqKinds
import PyProof.TupleCall
import PyProof.Rows.TupIter
import PyProof.Seq
import KE.KRevIter
import PyProof.CollectIter
import PyProof.SumWalkG
import KE.KDictOf
import PyProof.IsiH_list
import PyProof.RaisesAny
import PyProof.P3In
import KE.KSortTup
import PyProof.Rows.FStrParts
import PySem.Challenge.RW_sorthall_k91_whole_one_order
set_option genSizeOf false
set_option compiler.extract_closed false
set_option maxHeartbeats 4000000
set_option Elab.async false
set_option linter.all false
set_option maxRecDepth 100000
open List renaming length_map→aJ,mem_cons_self→aU,length_append→aW,mem_cons_of_mem→bA,mem_cons→bC,mem_singleton→bD,getElem?_eq_getElem→bL,length_cons→bS,map_append→bX,getElem?_map→dF,length_drop→dW,length_range→eU,prefix_refl→fG,mem_append→gN,mem_append_right→gM,getElem?_eq_some_iff→gX,append_nil→gW,length_take→gV,size_toArray→iB,getD_eq_getElem?_getD→iA,length_singleton→iC,map_cons→jC,mem_of_getElem?→jB,append_assoc→jM,getElem?_append_right→kF,mem_append_left→kW,not_mem_nil→kU,take_of_length_le→oR,getElem?_append_left→oQ,getElem?_eq_none→oP,mem_range→pS,length_nil→tD,mem_map→vn,length_range'→vm,flatten_append→vk,mem_range'_1→wL,getElem?_range→xh,take_append_drop→xg,drop_eq_getElem_cons→zL,length_set→Ae,length_eq_zero_iff→Ac,count_append→Ab,filter_append→Aa,length_replicate→BY,lookup_cons→BX,map_take→BV,map_drop→BU,pairwise_cons→BR,nil_append→BQ,mem_filter→Dt,any_cons→Ds,length_reverse→Dr,take_succ→Dm,cons_append→Dl,map_map→Dk,nodup_range→Dj,getElem?_drop→Di,count_cons→C9,count_nil→C8,range_succ→C7,mem_filterMap→Fj,take_sublist→Fi,all_cons→Fh,reverse_cons→Fg,forIn_nil→Ff,find?_cons→Fe,pairwise_iff_getElem→Fd,pairwise_map→Fc,filter_cons_of_neg→Fb,ext_getElem?→E9,mem_of_mem_drop→E8,length_flatten→E7
open Nat renaming le_refl→aK,zero_le→cE,le_trans→cX,ne_of_lt→fK,sub_self→jT,le_succ→lT,lt_of_lt_of_le→mR,min_eq_left→rM,zero_add→tq,lt_irrefl→vo,lt_succ_self→xi,le_of_lt→B0,ne_of_gt→BZ,zero_mul→BS,succ_mul→BP,le_add_right→Dn,min_eq_right→E6,add_sub_cancel_left→E5
open Bool renaming false_ne_true→kG,and_eq_true→rN,false_eq_true→BW
open Option renaming map_eq_some_iff→zM,map_some→Dq
open Array renaming length_toList→Af
open PySem renaming wpAny_bind→OJ,Value→OK,Addr→OL,Heap.get?_push_of_some→OM,Shared→ON,wpAny_pure→OO,Heap.lt_size→OQ,wpAny→OR,starEach→OU,model→OV,Heap.get?_push_size→OW,mainGlobals→OX,Program→OZ,Str→Pa,Around→Pb,Builtin.Range.rangeSize→Pd,Heap→Ph,wpAny_mono→Pj,World→Pp,Heap.SameBut→Pq,tupleKind→Pr,wpAny_holding→Pt,Stmt→Pu,Heap.get?_update_self→Px,PassesOwn.never→PJ,Builtin.SmallTypes.nextOf→PK,Expr→PM,mem_of_lookup→PN,compareOp→PR,Heap.get?_update_other→PV,wpAny_field→P0,PyData.canLayAll0→P1,backTo→P5,PyData.eqvAll→P6,PyData.depthAll→P7,wpAny_setField_rec→P9,wpAny_Call_Name_kw→Qa,entryOfKey→Qb,Obj→Qc,cellsFrom→Qd,FuncData→Qf,wpAny_nextOf_list_item→Qi,Builtin.SmallTypes.ownedTupleIsFree→Qm,assignEach→Qn,Heap.size_push→Qo,sizeLine_eq→Qr,Obj.mapFields→Qu,wpAny_seqItems→Qx,wpAny_isInstance→Qy,Str.ofString→QB,Obj.mapSeq→QC,wpAny_passesOwn→QE,IsPair→QF,foldedSetIterable→QG,sysModules→QK,wpAny_call_entry→QL,treeTable→QM,codeAny_mono→QN,OsState→QO,Builtin→QP,Scope→QQ,Builtin.Tuple.tupleHashOf→QR,Heap.get?_update_ne→QT,NameKind→QU,letOwnedTupleGo→QV,codeAny→QW,wpAny_call→Q1,tupleKind_room_in1→Q2,wpAny_callSpecial?_slot→Q4,keywordEach→Q5,Builtin.Dict.updateFrom→Q6,wpAny_truthy_bool→Q9,wpAny_newObj_type→Ra,wpAny_loadPart_at→Rb,bootBuiltins→Rc,wpAny_nextOf_list_end→Rh,getMethod→Rj,wpAny_standAt→Rm,wpAny_attempt→Rn,attributeBase→Ro,Shared.TypeIs→Rp,sliceBounds→Ru,intItems→Rv,codeAny_call_builtin→Rw,cLine→Rx,boot_len→Ry,Heap.ExtBut→RB,wpAny_execs_nil→RF,swapsWith→RM,Str.empty→RN,Env→RQ,rawInt→RS,binaryOp→RT,Obj.data_mapFields→RV,wpAny_pyIter_list→RZ,wpAny_dictEntries→R0,standAt→R1,Heap.SameBut.refl→R3,wpAny_onRaise→R4,behindInMarks→R5,PyData→R8,Paired.length→R9,Builtin.List.listTooLong→Sg,noteFrame→Sj,backToKw→Sk,GenState→Sn,Pos→Sq,wpAny_typeOf→Su,wpAny_rule→Sv,typeLookup→Sw,pyNext→Sx,PyData.int→Sz,PyData.eqv→SD,wpAny_specialOf→SE,pushCells_keeps→SF,importedModules→SH,F.slot_zip_next→SM,wpAny_updateSeq_pair→SS,wpAny_throw→SU,wpAny_newTuple→SV,unbindBehindTheSuite→SW,excClassObj→SX,callWith→SY,PyData.canLay0→S0,Heap.get?_none_of_le→Tc,Builtin.SmallTypes.ownedTupleHandOut→Tp,Builtin.Range.small→Tq,Model→Tt,wpAny_load→Tx,call_meets→Tz,Sem→TF,valueAt→TJ,callerA→TK,ZipApart→TL,PyData.depth→TM,Operator→TN,ExcBaseFacts→TR,BindsTo→TU,Around.under→TV,plainObj_wpAny_Assign_Attribute→TY,wpAny_lookBehind→T3,wpAny_eqBool_int→T4,pastItsLine_dict→T5,wpAny_of_eq→T7,wpAny_letGo→T8,intItems_at→T9,IsRangeIter→Ua,Builtin.BaseException.bexcPut→Ub,wpAny_loadPart'→Uc,codeAny_builtin→Ud,Builtin.Dict.entriesForEmpty→Ue,notedBy→Ug,getItem→Uh,wpAny_setField→Ui,wpAny_newFunctionEnv_cells→Uj,wpAny_loadPart→Uk,setField→Ul,recursionLimit→Um,isSubtype_stop→Uq,isInstance→Ur,bindL→Us,bindC→Ut,atKey→Uu,Calls.Name_function_global→Uv
open PySem.W renaming mg_of→OP,mg_none_of→Pk,hasDictIn→Py,kitOne→PU,kia_one→PY,plainGet→P2,plainOver→P8,callWith_K→Qe,makesIn→Qj,instObj→Qk,hideAll→Ql,boot_heap→Qz,methodCall_KW→QX,specialIn→RC,mroIn→RG,cellsFrom_some→RU,lookIn→R6,hideAll_none→R7,plainGet_of→Sl,hideAll_get→Sm,of_hideAll→Sy,methodObj→SN,isFn→SO,topFrom→Te,takesIn→Tg,takerIn→Th,OpenLaw→Ti,InstAt→TB,kas_sort→Uo
open Option.some renaming inj→OS
open List renaming range→OT,range'→Pe,replicate→Pf,length→Pz,lookup→Qq,filter_cons_of_pos→Qs,drop_of_length_le→Qv,drop_eq_nil_of_le→Qw,concat_eq_append→QA,map_congr_left→QJ,getElem?_set_self→QZ,length_filter_le→Q7,eq_nil_or_concat→Q8,range_eq_range'→Rf,getElem?_set_ne→Rg,range'_append→RE,take_add_one→RK,reverse_perm→RL,getElem?_take_of_lt→RP,getElem_mem→RW,of_mem_zip→Se,getElem?_toArray→Si,mem_of_mem_take→Sr,drop_drop→Ss,filterMap_cons→SK,getElem_idxOf→SR,drop_sublist→Tf,take_length→Tv,take_append_of_le_length→TC
open Ne renaming symm→OY
open False renaming elim→Pl
open Int renaming emod_nonneg→Pn,emod_lt_of_pos→PD,zero_add→QI,toNat_of_nonneg→Rt,fdiv_eq_ediv_of_nonneg→T6
open Prod renaming fst→PF
open PyProof.Rows renaming boot_list→PH,callWith_type1→PZ,boot_sorted→Qg,AllBare→QH,boot_isinstance→QY,IntsAre→Q0,envOfC→Rk,boot_range→Rr,boot_dict→RD,boot_min→RH,boot_max→RI,boot_all→RJ,seqObj→RR,callWith_builtin1→So,joinParts_cons→Up
open PySem.F renaming plainAttrs_list→P4,excBase_ValueError→Rl,slot_dict_get→RX
open PySem.StrLaws renaming seqIndex_nonneg→Qp
open Classical renaming byContradiction→QD
open Nat renaming lt_of_le_of_lt→QS,le_of_eq→Rz,lt_succ_of_lt→RO,mod_lt→Sa,add_zero→Sb,mul_div_cancel→S9,eq_zero_or_pos→Ta,add_sub_cancel→Tb,sub_zero→Tj,mul_zero→Tn,mul_succ→To,one_mul→TH,div_add_mod→TQ
open Array renaming getElem?_setIfInBounds_ne→Q3,getElem?_eq_none→RY,forIn_toList→SQ,eq_empty_of_size_eq_zero→Ts
open Bool renaming eq_iff_iff→Ri,decide_and→Sh,false_and→TZ,and_false→T1
open List.Perm renaming eq_of_pairwise→RA
open Nat.succ renaming inj→SI
theorem Z9{c:Prop}{h:Decidable c}(y:c){α:Sort _}{t e:α}:ite c t e=t:=if_pos y
theorem Z8{c:Prop}{h:Decidable c}(y:¬c){α:Sort _}{t e:α}:ite c t e=e:=if_neg y
namespace L2
open PySem PySem.W
variable {g0:Bool}{α:Type}{N:Nat}{p:OZ}{loose:List Pa}
theorem vT{q:OZ}{Xt:ON->Bool}{Yf:ON->α}{Ya:Pp->α}
  (z:∀w:Pp,(fencedOpening QM p w N).map (λs=>(s.heap,s.gens,s.drawn,s.toks))=some (Qz w.params,Array.mk [],boot_drawn,boot_toks))
  (h:∀(w:Pp) (os:QO),(Te QM p w N ⟨Qz w.params,Array.mk [],boot_drawn,boot_toks,os⟩).map (λs=>(openSeen q loose (SH p.main.body) Xt g0 s,Yf s))=some (openGood q loose,Ya w)):LeftO p q loose Xt Yf Ya N g0:=λw=>by
 obtain⟨⟨hh,gs,d,k,os⟩,e,J⟩:=zM.mp<|z w;obtain⟨rfl,rfl,rfl,rfl⟩:hh=Qz w.params/\gs=Array.mk []/\d=boot_drawn/\k=boot_toks:=by simpa using J
 unfold openEnds;rw[e];exact h w os
theorem yG{q:OZ}{Xt:ON->Bool}{Yf:ON->α}{Ya:Pp->α}
  (z:∀w:Pp,(fencedOpening QM p w N).map (λs=>(s.heap,s.gens,s.drawn,s.toks))=some (Qz w.params,Array.mk [],boot_drawn,boot_toks))
  (h1:∀(w:Pp) (os:QO),(Te QM p w N ⟨Qz w.params,Array.mk [],boot_drawn,boot_toks,os⟩).map (λs=>openSeen q loose (SH p.main.body) Xt g0 s)=some (openGood q loose))
  (h2:∀(w:Pp) (os:QO),(Te QM p w N ⟨Qz w.params,Array.mk [],boot_drawn,boot_toks,os⟩).map (λs=>Yf s)=some (Ya w)):LeftO p q loose Xt Yf Ya N g0:=
 vT z λw os=>by
  have a:=h1 w os;have b:=h2 w os;generalize Te QM p w N ⟨Qz w.params,Array.mk [],boot_drawn,boot_toks,os⟩=r at a b;cases r with
  |none=>cases a
  |some s=>exact congrArg some<|Prod.ext (OS a)<|OS b
noncomputable def DN(w:Pp)(os:QO):ON:=⟨Qz w.params,Array.mk [],boot_drawn,boot_toks,os⟩
noncomputable def GG:List Qc->Nat->BT->BT
 |[],_,t=>t
 |o::r,n,t=>GG r (n+1)<|t.ins n o
noncomputable def MR(w:Pp)(os:QO):SharedT:=⟨GG (Qz w.params).objs.toList 0 .nil,(Qz w.params).objs.size,(Qz w.params).life,Array.mk [],boot_drawn,boot_toks,os⟩
noncomputable def kI(p:OZ)(w:Pp)(n₀:Nat)(ann:Option OK):Nat->SharedT->Thread->Option SharedT
 |0,_,_=>none
 |n+1,s,t=>match through t with
  |true=>some s
  |false=>match PySem.W.Fast.tw6613529449190102663 n₀ ann t with
   |false=>none
   |true=>match PySem.W.Fast.tw10156331382660048174 (PySem.W.Fast.tw11892475500146522536 PySem.W.Fast.tw14364793385576792824) p w s t with
    |some (s',t')=>kI p w n₀ ann n s' t'
    |none=>none
theorem iE{p:OZ}{w:Pp}{z:Nat}{J:Option OK}:∀{n:Nat} {s s':SharedT} {t:Thread},kI p w z J n s t=some s'->topRun QM p w z J n s.abs t=some s'.abs
 |0,_,_,_,h=>by cases h
 |n+1,s,s',t,h=>by
  unfold kI at h;rw[<- PySem.W.Fast.te6613529449190102663,<- PySem.W.Fast.te10156331382660048174,<- PySem.W.Fast.te11892475500146522536,<- PySem.W.Fast.te14364793385576792824] at h;unfold topRun;cases he:through t with
  |true=>rw[he] at h;cases h;rfl
  |false=>
   rw[he] at h;cases hk:stepOk z J t with
   |false=>rw[hk] at h;cases h
   |true=>
    rw[hk] at h;cases hs:stepT (denote QM) p w s t with
    |none=>rw[hs] at h;cases h
    |some r=>obtain⟨s₂,O⟩:=r;rw[hs] at h;rw[stepT_spec hs];exact iE h
set_option maxHeartbeats 0 in
theorem As:∀(w:Pp) (os:QO),(MR w os).abs=DN w os:=by
 intro w os
 kernel_rfl
set_option maxHeartbeats 0 in
theorem DM:∀(w:Pp) (os:QO),((DN w os).heap.isNs OX&&(DN w os).gens.size==0)=true:=by
 intro w os
 kernel_rfl
noncomputable def xq(p:OZ)(s₀ s₁:ON):Bool:=staticsOk (SH p.main.body) s₀.heap s₁.heap&&namesBound p s₁.heap&&gensDone s₁&&laidKept s₀.heap s₁.heap
theorem pT{F:ON->α}{G:α}(w:Pp)(os:QO)
  (h:(kI p w (DN w os).heap.objs.size ((DN w os).heap.nsMap OX "__annotations__") N (MR w os)<|topStub p).map (λs=>(xq p (DN w os) s.abs,F s.abs))=some (true,G)):(Te QM p w N ⟨Qz w.params,Array.mk [],boot_drawn,boot_toks,os⟩).map F=some G:=by
 obtain⟨s',z,e2⟩:=zM.mp h;have r:=iE z;rw[As] at r;obtain⟨e3,e4⟩:=Prod.mk.inj e2;show(Te QM p w N<|DN w os).map F=some G;unfold Te;rw[DM w os];dsimp only;rw[r,Option.bind_some];unfold xq at e3;rw[e3];exact congrArg some e4
noncomputable def vw(p:OZ)(ix:List Nat):OZ:={ p with main:={ p.main with body:=ix.filterMap λi=>p.main.body[i]? } }
noncomputable def Vw:OZ:=vw PySem.Challenge.pw_sorthall_k91_whole_one_order [0,2,3,4,5,6,8,9,10,11,13,15,17,19,20,21,22,23,25,26,28,29,30,31,32,33,34,37,39,40,41,42,45,47,50,52,56,57,59,60,61,62,63,64,65,66,67,68,69]
set_option maxHeartbeats 0 in
theorem Gj:∀(w:Pp) (os:QO),(Te QM PySem.Challenge.pw_sorthall_k91_whole_one_order w 10190 ⟨Qz w.params,Array.mk [],boot_drawn,boot_toks,os⟩).map (λs=>openSeen L2.Vw (["stretch_from","filled","by_pile","in_rounds","by_pieces"]:List Pa) (SH PySem.Challenge.pw_sorthall_k91_whole_one_order.main.body) (λs=>xlAt L2.Vw [] s&&recOk (RowW.records<|OpenRow.toRowW<|OpenLaw.row PySem.Challenge.rw_sorthall_k91_whole_one_order) s) true s)=some (openGood L2.Vw (["stretch_from","filled","by_pile","in_rounds","by_pieces"]:List Pa)):=by
 intro w os;refine pT w os ?_;rw[PySem.W.Fast.te4187177175401517315]
 kernel_rfl
local macro_rules | `(tactic| o_law)=>`(tactic| refine holds_law (by decide +kernel) fun said=>?_)
set_option hygiene false in
local macro_rules | `(tactic| o_head $H)=>`(tactic| (refine holds_open (q:=L2.Vw) (loose:=(["stretch_from","filled","by_pile","in_rounds","by_pieces"]:List Pa)) (Xt:=fun s=>xlAt L2.Vw [] s && recOk (RowW.records _) s) (XP:=XL L2.Vw []) (Yf:=Hook.obs $H) (Ya:=Hook.val $H) (YP:=Hook.says $H) (N:=10190) ?hl (Hook.of $H) (Hook.keeps $H) (fun s e=>xl_of s (Bool.and_eq_true_iff.mp e).1) XL.keeps (by rfl) (by rfl) (by rfl) (fun s e=>recFacts_of (Bool.and_eq_true_iff.mp e).2) (by rfl) (by first | assumption | decide +kernel) (by decide +kernel) ⟨rfl,rfl,rfl,rfl,rfl,by decide +kernel⟩ ?hw ?hc;(case hl=>(refine L2.yG (PySem.W.boot_open (by rfl) (by decide) (fun s=>rfl)) (fun w os=>?h1) (fun w os=>?h2);(case h1=>exact L2.Gj w os);(case h2=>(refine L2.pT w os ?_;kernel_rfl))))))
set_option maxHeartbeats 0 in
open_top W8 for PySem.Challenge.rw_sorthall_k91_whole_one_order
end L2
namespace PySem
open PyProof PyProof.Rows
open Sem (wp)
variable {it:OL}{i:Nat}
def Qt(A:Pb)(h:Ph):Prop:=∀v,A.handled=some v->∃a o vs,v=.ref a/\h.get? a=some o/\o.data=.fields vs/\vs[2]?=some .none
section
variable {prog:OZ}{w:Pp}{A:Pb}{E:OK->ON->Prop}{s:ON}
theorem mG:entryFor table "proto.unchain"=some QP.«proto.unchain»:=entryFor_of_fast<|by kernel_rfl
theorem Qt.ext{h h':Ph}{o:Qc}{vs:Array OK}(q:Qt A h)(J:h.get? it=some o)(U:o.data=.fields vs)(O:vs.size<=2)(k:RB it h h'):Qt A h':=λv e=>by
 obtain⟨a,u,us,h1,h2,h3,z⟩:=q v e;refine⟨a,u,us,h1,k a u (λx=>?_) h2,h3,z⟩;subst x;rw[J] at h2;cases h2;rw[U] at h3;cases h3;rw[RY O] at z;cases z
theorem Gh{α:Type}{Q:α->ON->Prop}(q:Qt A s.heap)(O:∀x h',(∃o,h'.get? x=some o/\o.cls=.type "StopIteration")->(∀b o,s.heap.get? b=some o->h'.get? b=some o)->E (.ref x) { s with heap:=h' }):
  OR (OV prog w) A (newExc (.type "StopIteration") []>>=λe=>(raiseNew e:TF α)) Q E s:=by
 have mk:OR (OV prog w) A (newExc (.type "StopIteration") []) (λv z=>∃x o vs h',v=.ref x/\z={ s with heap:=h' }/\(∀b u,s.heap.get? b=some u->b≠x/\h'.get? b=some u)/\h'.get? x=some o/\o.cls=.type "StopIteration"/\o.data=.fields vs/\2<vs.size) E s:=by
  unfold newExc newTuple;refine OJ (Ra ?_<|by size_fits);refine OJ (m:=firstArgMember _ _)<|T7 (a:=Value.none) (by rfl) ?_;refine Ra ⟨_,_,_,_,rfl,rfl,λb u h=>⟨λz=>?_,OM _<|OM _ h⟩,OW _ rfl,rfl,rfl,by simp;lia⟩ (by size_fits);have:=OQ h;simp[z,Heap.push] at this;lia
 refine OJ<|Pj mk (λv z m=>?_) λ_ _ x=>x;obtain⟨x,o,vs,h',rfl,rfl,k,J,hc,U,h2⟩:=m;unfold raiseNew;refine OJ<|wpAny_handled ?_;cases e:A.handled with
 |none=>exact OJ<|OO<|SU<|O x h' ⟨o,J,hc⟩ λb u h=>(k b u h).2
 |some v=>
  obtain⟨a,u,us,rfl,h3,Z,h5⟩:=q v e;obtain⟨n,h6⟩:=k a u h3;have hn:(Value.ref a !=Value.ref x)=true:=bne_iff_ne.mpr λz=>n (by injection z);dsimp only;rw[Z9 hn];refine OJ<|Pt<|wpAny_runValue<|Ud mG<|OJ<|P0 h6 Z h5<|OJ<|OO<|OO ?_;refine OJ ?_;unfold updateField;refine OJ<|Tx J ?_;rw[U];dsimp only;rw[Z9 h2];refine wpAny_update J<|SU<|O x _ ⟨_,Px _ J<|Obj.isFreed_of_fields<|RV U _,(Obj.cls_mapFields ..).trans hc⟩ λb u h=>?_;exact(PV _ _<|OY (k b u h).1).trans (k b u h).2
theorem tY{b:QP}(Z:b=QP.«list_iterator.__next__»∨b=QP.«tuple_iterator.__next__»){q:OL}{o u:Qc}{n:Nat}{xs:Array OK}{Q:Fin->ON->Prop}(hq:Qt A s.heap)(z:s.heap.get? it=some o)(J:o.data=.fields #[.ref q,.int i 0])(hu:s.heap.get? q=some u)(hv:u.data=.seq xs n)(hx:xs[i]?=none)
  (U:∀x h',(∃o,h'.get? x=some o/\o.cls=.type "StopIteration")->RB it s.heap h'->E (.ref x) { s with heap:=h' }):OR (OV prog w) A (b ⟨[.ref it],[]⟩) Q E s:=by
 have O:RB it s.heap<|s.heap.update it<|Qu (·.setIfInBounds 0 .none):=(Heap.SameBut.update ..).extBut;rcases Z with rfl|rfl<;>
 .refine OJ (m:=field (.ref it) 0) (P0 z J rfl ?_);refine OJ (m:=field (.ref it) 1)<|P0 z J rfl ?_;refine OJ (m:=seqItems?<|.ref q)<|Qx hu hv ?_;simp only[Int.toNat_natCast,hx];refine OJ<|Sv<|OJ<|Ui z J (by simp) ?_;exact Gh (hq.ext z J (by simp) O) λx h' c k=>U x h' c λb o n e=>k b o<|O b o n e
theorem vS{l:OL}{items}{Q:Option OK->ON->Prop}(hh:Qt A s.heap)(z:s.heap.IsListIter it l i)(hl:s.heap.IsList l items)(hx:items[i]?=none)(J:∀h',RB it s.heap h'->Q none { s with heap:=h' }):OR (OV prog w) A (Sx<|.ref it) Q E s:=by
 obtain⟨o,O,_,U⟩:=id z;obtain⟨u,hu,_,n,Z⟩:=hl;exact OJ<|Rn<|Q4 (name:=QB "__next__") z.typeIs slot_listiter_next<|QL slot_listiter_next z.typeIs entry_listiter_next (tY (.inl rfl) hh O U hu Z hx λx h' c k=>OJ<|Qy (T:="StopIteration") (b:=true) c Uq<|OO<|J h' k)<|args_listiter_next _
theorem rQ{t:OL}{items}{Q:Option OK->ON->Prop}(hh:Qt A s.heap)(z:IsTupIter s.heap it t i)(O:IsTup s.heap t items)(hx:items[i]?=none)(J:∀h',RB it s.heap h'->Q none { s with heap:=h' }):OR (OV prog w) A (Sx<|.ref it) Q E s:=by
 obtain⟨o,U,_,Z⟩:=id z;obtain⟨u,hu,_,n,hv⟩:=O;exact OJ<|Rn<|Q4 (name:=QB "__next__") z.typeIs slot_tupleiter_next<|QL slot_tupleiter_next z.typeIs entry_tupleiter_next (tY (.inr rfl) hh U Z hu hv hx λx h' c k=>OJ<|Qy (T:="StopIteration") (b:=true) c Uq<|OO<|J h' k)<|args_tupleiter_next _
theorem mL{env:RQ}{z:List PM}{x1}{pos:Sq}{t:OL}{items:Array OK}{Q:Unit->ON->Prop}(hh:Qt A s.heap)(O:IsTup s.heap t items)(hn:(Qn z env).length=items.size)(J:(Qn z env).findIdx? (·.1)=none)
  (h:∀h',RB s.heap.objs.size s.heap h'->OR (OV prog w) A (assignInOrder ((Qn z env).map (·.2)) items.toList) Q E { s with heap:=h' }):OR (OV prog w) A (assign (.Tuple z x1 pos) env<|.ref t) Q E s:=by
 have tl:t≠s.heap.objs.size:=fK<|OQ O.choose_spec.1;rw[assign_Tuple];refine OJ<|Rm ?_;unfold unpack;rw[hn,J];refine OJ<|Pt<|OJ<|OJ<|SE O.typeIs slot_tuple_iter.lookup<|OO ?_;refine OJ<|Pt<|iter_tuple O<|OJ<|Pt<|draw_tuple tl items.size 0 _ _ ⟨_,OW _ rfl,rfl,rfl⟩ (O.push _) (by lia) λh1 i1 s1=>?_;have al:(items.toList.drop 0).take items.size=items.toList:=oR (by simp);rw[al,Z8<|by simp];have k1:RB s.heap.objs.size s.heap h1:=λb o n e=>s1.extBut b o n<|OM _ e;have q1:Qt A h1:=Qt.ext (h:=s.heap.push _) (λv e=>by
  obtain⟨a,o,vs,Z,z2,U⟩:=hh v e;exact⟨a,o,vs,Z,OM _ z2,U⟩) (OW _ rfl) rfl (by simp) s1.extBut
 refine OJ<|Pt<|rQ q1 i1 (O.extBut k1 tl) (by simp) λh2 k2=>?_;exact OO<|h h2 λb o n e=>k2 b o n<|k1 b o n e
end
end PySem
namespace L2
open PySem PySem.Spec PyProof.Rows
variable {c e tg:PM}{C a b dx it:OL}{pos pos':Sq}{op:CmpOp}{E Q:OK->ON->Prop}{qual x:Pa}{N ps:List Pa}{i k t':Nat}{ch fp:List OL}{w:Pp}{body:List Pu}{K:W.Frag}{scope:QQ}{outer:List RQ}{lo:Int}{u:OK}{s:ON}{base:Ph}{P:OZ}{pins:List (OL×Qc)}{pl:TF Bool}{us:List OK}
inductive X2{A0 A1:Type}(p:A0->A1->Prop):Prop|mk (a:A0) (b:A1):p a b->X2 p
inductive X3{A0 A1 A2:Type}(p:A0->A1->A2->Prop):Prop|mk (a:A0) (b:A1) (c:A2):p a b c->X3 p
inductive X4{A0 A1 A2 A3:Type}(p:A0->A1->A2->A3->Prop):Prop|mk (a:A0) (b:A1) (c:A2) (d:A3):p a b c d->X4 p
inductive X5{A0 A1 A2 A3 A4:Type}(p:A0->A1->A2->A3->A4->Prop):Prop|mk (a:A0) (b:A1) (c:A2) (d:A3) (e:A4):p a b c d e->X5 p
inductive X6{A0 A1 A2 A3 A4 A5:Type}(p:A0->A1->A2->A3->A4->A5->Prop):Prop|mk (a:A0) (b:A1) (c:A2) (d:A3) (e:A4) (f:A5):p a b c d e f->X6 p
inductive X7{A0 A1 A2 A3 A4 A5 A6:Type}(p:A0->A1->A2->A3->A4->A5->A6->Prop):Prop|mk (a:A0) (b:A1) (c:A2) (d:A3) (e:A4) (f:A5) (g:A6):p a b c d e f g->X7 p
inductive X8{A0 A1 A2 A3 A4 A5 A6 A7:Type}(p:A0->A1->A2->A3->A4->A5->A6->A7->Prop):Prop|mk (a:A0) (b:A1) (c:A2) (d:A3) (e:A4) (f:A5) (g:A6) (h:A7):p a b c d e f g h->X8 p
inductive X9{A0 A1 A2 A3 A4 A5 A6 A7 A8:Type}(p:A0->A1->A2->A3->A4->A5->A6->A7->A8->Prop):Prop|mk (a:A0) (b:A1) (c:A2) (d:A3) (e:A4) (f:A5) (g:A6) (h:A7) (i:A8):p a b c d e f g h i->X9 p
inductive MW{A0 A1 A2 A3 A4 A5 A6 A7 A8 A9 A10:Type}(p:A0->A1->A2->A3->A4->A5->A6->A7->A8->A9->A10->Prop):Prop|mk (a:A0) (b:A1) (c:A2) (d:A3) (e:A4) (f:A5) (g:A6) (h:A7) (i:A8) (j:A9) (k:A10):p a b c d e f g h i j k->MW p
inductive MV{A0 A1 A2 A3 A4 A5 A6 A7 A8 A9 A10 A11 A12 A13 A14 A15 A16:Type}(p:A0->A1->A2->A3->A4->A5->A6->A7->A8->A9->A10->A11->A12->A13->A14->A15->A16->Prop):Prop|mk (a0:A0) (a1:A1) (a2:A2) (a3:A3) (a4:A4) (a5:A5) (a6:A6) (a7:A7) (a8:A8) (a9:A9) (a10:A10) (a11:A11) (a12:A12) (a13:A13) (a14:A14) (a15:A15) (a16:A16):p a0 a1 a2 a3 a4 a5 a6 a7 a8 a9 a10 a11 a12 a13 a14 a15 a16->MV p
noncomputable abbrev Key:=Sum Int Pa
noncomputable def Fu:Key->OK->Bool
 |.inl k,v=>Value.isInt k v
 |.inr x,v=>Value.isStrOf x v
noncomputable def Jl(w:Pp):Key->Int
 |.inl k=>hashInt k
 |.inr x=>hashStr w x
theorem BG:∀{k:Key} {v:OK},Fu k v=true->(∃i t,k=Sum.inl i/\v=Value.int i t)∨(∃x t,k=Sum.inr x/\v=Value.str x t)
 |.inl i,v,h=>by
  obtain⟨t,e⟩:=Value.isInt_shape (k:=i) (v:=v) h;exact .inl ⟨i,t,rfl,e⟩
 |.inr x,v,h=>by
  obtain⟨t,e⟩:=Value.isStrOf_shape (x:=x) (v:=v) h;exact .inr ⟨x,t,rfl,e⟩
theorem vV(i:Int)(t:Tok):Fu (.inl i) (.int i t)=true:=by simp[Fu,Value.isInt]
theorem vU(x:Pa)(t:Tok):Fu (.inr x) (.str x t)=true:=by simp[Fu,Value.isStrOf]
theorem Eh(a b:Int):decide ((Sum.inl a:Key)=Sum.inl b)=(a==b):=by
 by_cases e:a=b
 .subst e;simp
 .have h:¬ (Sum.inl a:Key)=Sum.inl b:=λq=>e<|Sum.inl.inj q;rw[decide_eq_false h];exact(beq_eq_false_iff_ne.mpr e).symm
theorem Ee(a b:Pa):decide ((Sum.inr a:Key)=Sum.inr b)=decide (a=b):=by
 by_cases e:a=b
 .subst e;simp
 .have h:¬ (Sum.inr a:Key)=Sum.inr b:=λq=>e<|Sum.inr.inj q;rw[decide_eq_false h,decide_eq_false e]
theorem Eg(a:Int)(b:Pa):decide ((Sum.inl a:Key)=Sum.inr b)=false:=decide_eq_false λq=>nomatch q
theorem Ef(a:Pa)(b:Int):decide ((Sum.inr a:Key)=Sum.inl b)=false:=decide_eq_false λq=>nomatch q
noncomputable def dU(prog:OZ)(w:Pp):PySem.KeyKind prog w Key where
 is:=Fu
 hash:=Jl w
 inj:=λv a b ha hb=>by
  rcases BG ha with ⟨i,t,rfl,rfl⟩|⟨x,t,rfl,rfl⟩
  .rcases BG hb with ⟨j,u,rfl,e⟩|⟨y,u,rfl,e⟩
   .injection e with e1 _;rw[e1]
   .exact nomatch e
  .rcases BG hb with ⟨j,u,rfl,e⟩|⟨y,u,rfl,e⟩
   .exact nomatch e
   .injection e with e1 _;rw[e1]
 byValue:=λk v h=>by
  rcases BG h with ⟨i,t,rfl,rfl⟩|⟨x,t,rfl,rfl⟩<;>rfl
 pyHash:=λhv h=>by
  rcases BG hv with ⟨i,t,rfl,rfl⟩|⟨x,t,rfl,rfl⟩
  .exact wpAny_pyHash_int h
  .exact wpAny_pyHash_str h
 eqBool:=λhu hv h=>by
  rcases BG hu with ⟨i,t,rfl,rfl⟩|⟨x,t,rfl,rfl⟩
  .rcases BG hv with ⟨j,u,rfl,rfl⟩|⟨y,u,rfl,rfl⟩
   .rw [Eh] at h;exact T4 h
   .rw [Eg] at h;exact SeqAt.EqAt.int_str i t y u _ _ _ _ h
  .rcases BG hv with ⟨j,u,rfl,rfl⟩|⟨y,u,rfl,rfl⟩
   .rw [Ef] at h;exact SeqAt.EqAt.str_int x t j u _ _ _ _ h
   .rw [Ee] at h;exact wpAny_eqBool_str h
 «strs»:=λk x t v h=>by
  rcases BG h with ⟨i,u,rfl,e⟩|⟨y,u,rfl,e⟩
  .exact nomatch e
  .injection e with e1 _
   subst e1;cases v<;>rfl
theorem qM(prog:OZ)(w:Pp)(i:Int)(t:Tok):(dU prog w).is (.inl i) (.int i t)=true:=vV i t
theorem qL(prog:OZ)(w:Pp)(x:Pa)(t:Tok):(dU prog w).is (.inr x) (.str x t)=true:=vU x t
inductive V where
 |Ux|bl (b:Bool)|int (i:Int)|str (x:Pa)|byt (b:Array UInt8)|flt (b:UInt64)|ref (a:OL)|ty (n:String)
 deriving DecidableEq
variable {v y:V}{vs:List V}
def RelV:V->OK->Prop
 |.Ux,u=>u=Value.none
 |.bl b,u=>u=Value.bool b
 |.int i,u=>∃t,u=Value.int i t
 |.str x,u=>∃t,u=Value.str x t
 |.byt b,u=>∃t,u=Value.bytes b t
 |.flt b,u=>∃t,u=Value.float b t
 |.ref a,u=>u=Value.ref a
 |.ty n,u=>u=Value.type n
noncomputable abbrev Vals:List V->List OK->Prop:=Paired RelV
theorem Vals.length{xs:List V}(r:Vals xs us):xs.length=us.length:=R9 r
theorem Vals.get:∀{xs:List V} {us:List OK} {i:Nat} {x:V},Vals xs us->xs[i]?=some x->∃u,us[i]?=some u/\RelV x u
 |_,_,_,_,.nil,e=>by simp at e
 |_,_,0,_,.cons r _,e=>by simp at e;subst e;exact⟨_,rfl,r⟩
 |_,_,i+1,x,.cons _ t,e=>by
  obtain⟨u,h1,h2⟩:=Vals.get (i:=i) (x:=x) t (by simpa using e);exact⟨u,by simpa using h1,h2⟩
theorem Vals.set{x:V}{u:OK}(r:RelV x u):∀{xs:List V} {us:List OK} (i:Nat),Vals xs us->Vals (xs.set i x) (us.set i u)
 |_,_,_,.nil=>.nil
 |_,_,0,.cons _ t=>.cons r t
 |_,_,i+1,.cons q t=>.cons q<|Vals.set r i t
theorem Vals.append:∀{xs ys:List V} {us ws:List OK},Vals xs us->Vals ys ws->Vals (xs++ys) (us++ws)
 |_,_,_,_,.nil,s=>s
 |_,_,_,_,.cons r t,s=>.cons r<|Vals.append t s
theorem Vals.take:∀{xs:List V} {us:List OK} (n:Nat),Vals xs us->Vals (xs.take n) (us.take n)
 |_,_,0,_=>.nil
 |_,_,_+1,.nil=>.nil
 |_,_,n+1,.cons r t=>.cons r<|Vals.take n t
theorem Vals.drop:∀{xs:List V} {us:List OK} (n:Nat),Vals xs us->Vals (xs.drop n) (us.drop n)
 |_,_,0,r=>r
 |_,_,_+1,.nil=>.nil
 |_,_,n+1,.cons _ t=>Vals.drop n t
def dG:Option V->Option OK->Prop
 |some v,some u=>RelV v u
 |none,none=>True
 |_,_=>False
def KV{κ:Type}:List (κ×V)->List (κ×OK)->Prop:=Paired λ(p:κ×V) (q:κ×OK)=>p.1=q.1/\RelV p.2 q.2
noncomputable def kV:Key->V
 |.inl i=>.int i
 |.inr x=>.str x
inductive HO where
 |lst (xs:List V)
 |tup (xs:List V)
 |dK (kvs:List<|Key×V)|dT (kvs:List<|List Key×V)
 |set (S:Int->Bool) (n:Nat)
 |ins (C dx:OL) (fs:List<|Pa×V)
 |own (x:OL)
 |xd (fs:List<|Pa×V)
 |met (f x:OL)
 |rng (lo hi:Int)
 |frz (o:Qc) (u:HO)
 |tbl (ps:Array OK)
 |ext (φ:Ph->Prop)
variable {o:HO}
noncomputable abbrev Hp:=OL->Option HO
variable {H:Hp}
noncomputable def upd(H:Hp)(a:OL)(o:HO):Hp:=λb=>if b=a then some o else H b
theorem aP:upd H a o a=some o:=by unfold upd;rw[Z9 rfl]
theorem aO(h:b≠a):upd H a o b=H b:=by unfold upd;rw[Z8 h]
theorem IH{u:HO}:upd (upd H a o) a u=upd H a u:=by
 funext b;unfold upd;split<;>rfl
theorem GH{u:HO}(h:H a=some o)(h':H b=some u)(d:o≠u):a≠b:=by
 intro e;subst e;rw[h] at h';exact d<|OS h'
theorem aX(h:H a=some o)(h':H b=none):a≠b:=by
 intro e;subst e;rw[h] at h';cases h'
section
variable (P:OZ)(w:Pp)
def aS(H:Hp)(h:Ph)(a:OL):HO->Prop
 |.lst xs=>xs.length<=sizeLine/\∃(its:List OK) (n:Nat),Vals xs its/\h.get? a=some { cls:=.type "list",data:=.seq its.toArray n }
 |.tup xs=>xs.length<=sizeLine/\∃its:List OK,Vals xs its/\IsTup h a its.toArray
 |.dK kvs=>kvs.length<=sizeLine/\(a==QK)=false/\∃vs,KV kvs vs/\h.DictOf (dU P w) a vs
 |.dT kvs=>kvs.length<=sizeLine/\(a==QK)=false/\∃xs:List<|List Key×OL×OK,
   Paired (λ(p:List Key×V) (q:List Key×OL×OK)=>p.1=q.1/\H q.2.1=some (.tup<|p.1.map kV)/\RelV p.2 q.2.2) kvs xs/\
   ∃o es ep,h.get? a=some o/\o.ExactDict/\o.data=.dict es ep/\es.toList=xs.map (Qb<|Pr<|dU P w)/\(xs.map (·.1)).Nodup
 |.set S n=>h.SetOf (intKind P w) a S n
 |.ins C dx fs=>H dx=some (.own a)/\fs.length<=1000/\dx≠a/\h.get? a=some (Qk C dx)/\
   ∃mA,h.Ns1 dx mA/\(∀f,dG (fs.lookup f)<|mA f)/\PySem.Within mA (fs.map (·.1))
 |.own _=>∃o,h.get? a=some o
 |.xd fs=>∃mA,h.Ns1 a mA/\∀f,dG (fs.lookup f)<|mA f
 |.rng lo hi=>L2.X3 λt u v=>h.get? a=some { cls:=.type "range",data:=.fields #[.int lo t,.int hi u,.int 1 v] }
 |.frz o u=>h.get? a=some o/\aS H h a u
 |.tbl ps=>h.get? a=some { cls:=.none,data:=.fields ps }
 |.met f x=>h.get? a=some (SN (.ref f)<|.ref x)
 |.ext φ=>φ h/\(∃o,h.get? a=some o)/\∀h1 h2:Ph,φ h1->(∀o,h1.get? a=some o->h2.get? a=some o)->φ h2
def dJ(H:Hp)(h:Ph):Prop:=∀a o,H a=some o->aS P w H h a o
end
section
variable {H':Hp}{h h':Ph}
theorem aS.lt(x:aS P w H h a o):a<h.objs.size:=by
 cases o with
 |lst xs=>obtain⟨_,_,_,_,e⟩:=x;exact OQ e
 |tup xs=>obtain⟨_,_,_,p⟩:=x;exact p.lt
 |dK kvs=>obtain⟨_,_,_,_,o,_,_,e,_⟩:=x;exact OQ e
 |dT kvs=>obtain⟨_,_,_,_,o,_,_,e,_⟩:=x;exact OQ e
 |set S n=>obtain⟨o,_,_,_,e,_⟩:=x;exact OQ e
 |ins C dx fs=>obtain⟨_,_,_,e,_⟩:=x;exact OQ e
 |own y=>obtain⟨_,e⟩:=x;exact OQ e
 |xd fs=>obtain⟨_,⟨_,_,_,e,_⟩,_⟩:=x;exact OQ e
 |rng lo hi=>obtain⟨_,_,_,e⟩:=x;exact OQ e
 |frz ob u=>obtain⟨e,_⟩:=x;exact OQ e
 |tbl ps=>exact OQ (show h.get? a=some _ from x)
 |met f y=>exact OQ (show h.get? a=some _ from x)
 |ext φ=>obtain⟨_,⟨_,e⟩,_⟩:=x;exact OQ e
theorem Paired.WO{α z:Type}{F G:α->z->Prop}:∀{l₁:List α} {l₂:List z},Paired F l₁ l₂->(∀a b,F a b->G a b)->Paired G l₁ l₂
 |_,_,.nil,_=>.nil
 |_,_,.cons r t,f=>.cons (f _ _ r)<|Paired.WO t f
theorem aS.U1(x:aS P w H h a o)(k:∀b u,(b=a∨H b=some (.own a))->h.get? b=some u->h'.get? b=some u)
  (O:∀b,H b=some (.own a)->H' b=some (.own a)) (J:∀b xs,H b=some (.tup xs)->H' b=some (.tup xs)):aS P w H' h' a o:=by
 induction o with
 |lst xs=>obtain⟨z,its,n,r,e⟩:=x;exact⟨z,its,n,r,k _ _ (.inl rfl) e⟩
 |tup xs=>obtain⟨z,its,r,ob,e,c⟩:=x;exact⟨z,its,r,ob,k _ _ (.inl rfl) e,c⟩
 |dK kvs=>obtain⟨z,y,vs,r,ob,es,ep,e,c⟩:=x;exact⟨z,y,vs,r,ob,es,ep,k _ _ (.inl rfl) e,c⟩
 |dT kvs=>
  obtain⟨z,y,xs,r,ob,es,ep,e,c⟩:=x;exact⟨z,y,xs,Paired.WO r λp q z=>⟨z.1,J _ _ z.2.1,z.2.2⟩,ob,es,ep,k _ _ (.inl rfl) e,c⟩
 |set S n=>obtain⟨ob,es,ep,t,e,c⟩:=x;exact⟨ob,es,ep,t,k _ _ (.inl rfl) e,c⟩
 |ins C dx fs=>
  obtain⟨d,z,ne,e,mA,⟨od,es,ep,e2,c⟩,r⟩:=x;exact⟨O _ d,z,ne,k _ _ (.inl rfl) e,mA,⟨od,es,ep,k _ _ (.inr d) e2,c⟩,r⟩
 |own y=>obtain⟨ob,e⟩:=x;exact⟨ob,k _ _ (.inl rfl) e⟩
 |xd fs=>obtain⟨mA,⟨od,es,ep,e,c⟩,r⟩:=x;exact⟨mA,⟨od,es,ep,k _ _ (.inl rfl) e,c⟩,r⟩
 |rng lo hi=>obtain⟨t,u,v,e⟩:=x;exact⟨t,u,v,k _ _ (.inl rfl) e⟩
 |frz ob u ih=>obtain⟨e,q⟩:=x;exact⟨k _ _ (.inl rfl) e,ih q⟩
 |tbl ps=>
  have e:h.get? a=some { cls:=.none,data:=.fields ps }:=x;show h'.get? a=some { cls:=.none,data:=.fields ps };exact k a _ (.inl rfl) e
 |met f y=>
  have e:h.get? a=some (SN (.ref f)<|.ref y):=x;show h'.get? a=some (SN (.ref f)<|.ref y);exact k a _ (.inl rfl) e
 |ext φ=>obtain⟨p,⟨o,e⟩,st⟩:=x;exact⟨st _ _ p λo q=>k _ _ (.inl rfl) q,⟨o,k _ _ (.inl rfl) e⟩,st⟩
theorem dJ.lt(x:dJ P w H h)(e:H a=some o):a<h.objs.size:=(x a o e).lt
theorem dJ.fresh(x:dJ P w H h)(e:h.objs.size<=a):H a=none:=by
 cases q:H a with
 |none=>rfl
 |some u=>exact absurd (mR (x.lt q) e)<|vo _
theorem dJ.kept(x:dJ P w H h)(k:∀b u,h.get? b=some u->h'.get? b=some u):dJ P w H h':=λa o e=>
 (x a o e).U1 (λb u _ q=>k b u q) (λ_ q=>q) λ_ _ q=>q
theorem dJ.laid(x:dJ P w H h)(k:∀b u,h.get? b=some u->h'.get? b=some u)(z:h.objs.size<=a)(new:aS P w (upd H a o) h' a o):dJ P w (upd H a o) h':=λb u e=>by
 have hn:=x.fresh z;by_cases hb:b=a
 .subst hb;rw[aP] at e;cases e;exact new
 .rw [aO hb] at e;exact(x b u e).U1 (λc v _ q=>k c v q) (λc q=>by rw[aO<|aX q hn];exact q) λc xs q=>by rw[aO<|aX q hn];exact q
end
def Rd(H:Hp)(a:OL)(u:HO):Prop:=H a=some u∨∃o,H a=some (.frz o u)
theorem Rd.ok{h:Ph}{u:HO}(r:Rd H a u)(x:dJ P w H h):aS P w H h a u:=by
 rcases r with r|⟨o,r⟩
 .exact x a u r
 .obtain ⟨_,q⟩:=x a _ r;exact q
def Hx:Option HO->Prop
 |some (.lst _)=>True
 |some (.dK _)=>True
 |some (.dT _)=>True
 |some (.set _ _)=>True
 |some (.ins _ _ _)=>True
 |some (.ext _)=>True
 |_=>False
section
variable {h h':Ph}{x e:OL}{o':HO}
theorem dJ.write(ok:dJ P w H h)(U:Hx<|H x)(he:e=x∨H e=some (.own x))(k:∀b u,b≠e->h.get? b=some u->h'.get? b=some u)(Z:∃u,h'.get? e=some u)
  (new:aS P w (upd H x o') h' x o'):dJ P w (upd H x o') h':=λb u q=>by
 have J:∀c y,H c=some (.own y)->c≠x:=λc y r z=>by subst z;rw[r] at U;exact U
 have O:∀c xs,H c=some (.tup xs)->c≠x:=λc xs r z=>by subst z;rw[r] at U;exact U
 by_cases hb:b=x
 .subst hb;rw[aP] at q;cases q;exact new
 .rw [aO hb] at q;by_cases WV:b=e
  .have q':H b=some (.own x):=by
    rcases he with z|z
    .exact absurd (WV.trans z) hb
    .rw [WV];exact z
   rw[q] at q';cases q';obtain⟨v,hv⟩:=Z;exact⟨v,by rw[WV];exact hv⟩
  .refine (ok b u q).U1 (λc v hc r=>k c v ?_ r) (λc r=>by rw[aO<|J c b r];exact r) λc xs r=>by rw[aO<|O c xs r];exact r
   rcases hc with rfl|hc
   .exact WV
   .rintro rfl;rcases he with z|z
    .exact J c b hc z
    .rw [hc] at z;cases z;exact hb rfl
end
structure Un(fs ex:List OL)(H H':Hp)(h h':Ph):Prop where
 keep:∀b o,h.get? b=some o->H b=none->b∉fs->b∉ex->h'.get? b=some o
 slot:∀b o,h.get? b=some o->H b=none->b∈fs->b∉ex->∃sl,h'.get? b=some { o with slots:=sl }
 free:∀b o,h.get? b=some o->H b=none->b∉ex->H' b=none
 there:∀b o,h.get? b=some o->b∉ex->∃o',h'.get? b=some o'
 UM:∀b xs,H b=some (.tup xs)->H' b=some (.tup xs)
 UI:∀b o u,H b=some (.frz o u)->H' b=some (.frz o u)
 UN:∀b ps,H b=some (.tbl ps)->∃more,H' b=some (.tbl<|ps++more)
section
variable {fs fs' ex ex':List OL}{H1 H2:Hp}{h h1 h2 h':Ph}{x e:OL}
theorem Un.any(u:Un fs ex H H1 h h1){ob:Qc}(q:h.get? b=some ob)(n:H b=none)(hx:b∉ex):∃sl,h1.get? b=some { ob with slots:=sl }:=by
 by_cases hb:b∈fs
 .exact u.slot b ob q n hb hx
 .exact ⟨ob.slots,u.keep b ob q n hb hx⟩
theorem Un.trans(a:Un fs ex H H1 h h1)(b:Un fs ex H1 H2 h1 h2):Un fs ex H H2 h h2 where
 keep:=λc ob q n hc hx=>b.keep c ob (a.keep c ob q n hc hx) (a.free c ob q n hx) hc hx
 slot:=λc ob q n hc hx=>by
  obtain⟨sl,z⟩:=a.slot c ob q n hc hx;obtain⟨J,e2⟩:=b.slot c _ z (a.free c ob q n hx) hc hx;exact⟨J,e2⟩
 free:=λc ob q n hx=>by
  obtain⟨o',z⟩:=a.there c ob q hx;exact b.free c o' z (a.free c ob q n hx) hx
 there:=λc ob q hx=>by
  obtain⟨o',z⟩:=a.there c ob q hx;exact b.there c o' z hx
 UM:=λc xs q=>b.UM c xs<|a.UM c xs q
 UI:=λc ob xs q=>b.UI c ob xs<|a.UI c ob xs q
 UN:=λc ps q=>by
  obtain⟨U,z⟩:=a.UN c ps q;obtain⟨O,e2⟩:=b.UN c _ z;exact⟨U++O,by rw[e2,Array.append_assoc]⟩
theorem Un.kept(k:∀b u,h.get? b=some u->h'.get? b=some u):Un fs ex H H h h':=
 ⟨λb ob q _ _ _=>k b ob q,λb ob q _ _ _=>⟨ob.slots,k b ob q⟩,λ_ _ _ n _=>n,λb ob q _=>⟨ob,k b ob q⟩,λ_ _ q=>q,λ_ _ _ q=>q,λ_ ps q=>⟨#[],by rw[q];simp⟩⟩
theorem Un.refl:Un fs ex H H h h:=Un.kept λ_ _ q=>q
theorem Un.laid(k:∀b u,h.get? b=some u->h'.get? b=some u)(z:h.objs.size<=a)(hn:H a=none):Un fs ex H (upd H a o) h h' where
 keep:=λb u q _ _ _=>k b u q
 slot:=λb u q _ _ _=>⟨u.slots,k b u q⟩
 free:=λb u q n _=>by rw[aO<|fK<|mR (OQ q) z];exact n
 there:=λb u q _=>⟨u,k b u q⟩
 UM:=λb xs q=>by rw[aO<|aX q hn];exact q
 UI:=λb u xs q=>by rw[aO<|aX q hn];exact q
 UN:=λb ps q=>⟨#[],by rw[aO<|aX q hn,q];simp⟩
theorem Un.write(J:Hx<|H x)(Z:e=x∨H e=some (.own x))(k:∀b u,b≠e->h.get? b=some u->h'.get? b=some u)(O:∃u,h'.get? e=some u):Un fs ex H (upd H x o) h h':=by
 have hx:∀b,H b=none->b≠x:=λb n z=>by subst z;rw[n] at J;exact J
 have U:∀b,H b=none->b≠e:=λb n z=>by
  subst z;rcases Z with r|r
  .exact hx b n r
  .rw [n] at r;cases r
 have hm:∀b u,H b=some u->¬ Hx (some u)->b≠x:=λb u q nm z=>by subst z;rw[q] at J;exact nm J
 refine⟨λb u q n _ _=>k b u (U b n) q,λb u q n _ _=>⟨u.slots,k b u (U b n) q⟩,λb u q n _=>by rw[aO<|hx b n];exact n,λb u q _=>?_,
  λb xs q=>by rw[aO<|hm b _ q λz=>z];exact q,λb u xs q=>by rw[aO<|hm b _ q λz=>z];exact q,λb ps q=>⟨#[],by rw[aO<|hm b _ q λz=>z,q];simp⟩⟩
 by_cases WV:b=e
 .subst WV;exact O
 .exact ⟨u,k b u WV q⟩
end
noncomputable def trk(h:Ph)(H:Hp):List OL:=(OT h.objs.size).filter λa=>(H a).isSome
noncomputable def pK(h:Ph)(H:Hp):Ph:=Ql h<|trk h H
theorem vY(h:Ph)(H:Hp):(pK h H).objs.size=h.objs.size:=PySem.W.hideAll_size _ _
theorem yS{h:Ph}{o:Qc}(e:h.get? b=some o)(n:H b=none):(pK h H).get? b=some o:=
 Sm _ e λhm=>by
  have q:(H b).isSome=true:=(Dt.mp hm).2;rw[n] at q;simp at q
theorem AX{h:Ph}{o:Qc}(e:(pK h H).get? b=some o):h.get? b=some o/\H b=none:=by
 have J:h.get? b=some o:=Sy (trk h H) e;refine⟨J,?_⟩;cases q:H b with
 |none=>rfl
 |some x=>
  have hm:b∈trk h H:=Dt.mpr ⟨pS.mpr<|OQ J,by simp[q]⟩;have z:(pK h H).get? b=none:=R7 (trk h H) hm;rw[z] at e;cases e
structure Mod(K:W.Frag)(mg:Pa->Option OK)(base:Ph):Prop where
 Wo:K.In base
 glob:base.Ns OX mg
 blt:∃mb,base.Ns builtinsNs mb/\∀x:Pa,x≠"__name__"->mb x=Rc x
 nolimit:base.NoLimit
structure Cx where
 prog:OZ
 w:Pp
 K:W.Frag
 mg:Pa->Option OK
 base:Ph
 A:Pb
 N:List Pa
 s₀:ON
 H₀:Hp
 env:RQ
 outer:List RQ
 stack:List RQ
 ex:List OL
 fn:Pa->Bool
 calm:Bool
 pn:List<|OL×Qc
 xe:OK->ON->Prop
variable {X:Cx}
noncomputable def frs(l:List RQ):List OL:=l.filterMap (·.frame)
noncomputable abbrev Cx.fs(X:Cx):List OL:=frs X.outer
def Hs(sc:QQ)(x:Pa):Prop:=sc.names.lookup x=some .local∨sc.names.lookup x=some .cell∨sc.names.lookup x=some .free
def Loc(sc:QQ)(x:Pa):Prop:=sc.names.lookup x=some .local∨sc.names.lookup x=some .cell
def Look(env:RQ)(h:Ph)(m:Pa->Option OK)(x:Pa)(u:OK):Prop:=
 (env.kindOf x=some .local/\m x=some u)∨((env.kindOf x=some .cell∨env.kindOf x=some .free)/\∃c,env.cells.lookup x=some c/\h.IsCell c (some u))
structure Cx.Ok(X:Cx):Prop where
 mod:Mod X.K X.mg X.base
 kind:X.env.scope.kind=.function
 glob:X.env.globals=OX
 blt:X.env.builtins=builtinsNs
 above:X.s₀.heap.objs.size<=X.env.locals
 inj:∀x y c,X.env.cells.lookup x=some c->X.env.cells.lookup y=some c->x=y
 has:∀x,(X.env.kindOf x=some .cell∨X.env.kindOf x=some .free)->∃c,X.env.cells.lookup x=some c
 Ww:∀x c,X.fn x=true->X.env.cells.lookup x=some c->X.s₀.heap.objs.size<=c
 hd:X.calm=true->X.A.handled=none
 qt:∀v,X.A.handled=some v->∃a o vs,v=.ref a/\(a,o)∈X.pn/\o.data=.fields vs/\vs[2]?=some .none
 frames:X.A.frames=some X.stack
 WK:X.stack=X.outer∨(X.stack=X.env::X.outer/\X.env.frame=some X.env.locals)
 Xa:∀b∈X.ex,b≠X.env.locals/\∀x c,X.env.cells.lookup x=some c->c≠b
 bs:∀b o,X.base.get? b=some o->X.s₀.heap.get? b=some o/\X.H₀ b=none
 VU:X.base.objs.size<=X.s₀.heap.objs.size
 VE:∀b o,X.base.get? b=some o->b∉X.ex
 VM:∀b∈X.ex,b∉X.fs
 US:X.s₀.heap.FunFrames X.base X.outer
 Wg:∀b∈X.fs,X.H₀ b=none
structure Inv(X:Cx)(pins:List<|OL×Qc)(σ:List<|Option V)(H:Hp)(s:ON):Prop where
 ok:X.Ok
 os:s.os=X.s₀.os
 bare:QH s.gens
 base:Un X.fs X.ex X.H₀ H X.s₀.heap s.heap
 loc:∃m,s.heap.Ns X.env.locals m/\∀(i:Nat) (x:Pa) (v:V),X.N[i]?=some x->σ[i]?=some (some v)->Hs X.env.scope x->∃u,RelV v u/\Look X.env s.heap m x u
 cell:∀x c,X.env.cells.lookup x=some c->∃v,s.heap.IsCell c v
 free:H X.env.locals=none
 Uz:∀x c,X.env.cells.lookup x=some c->H c=none
 pin:∀p∈X.pn++pins,s.heap.get? p.1=some p.2/\H p.1=none/\p.1≠X.env.locals/\p.1∉X.fs/\∀v,p.2.data≠.cell v
 Uy:dJ X.prog X.w H s.heap
 len:σ.length=X.N.length
section
variable {σ:List (Option V)}{H':Hp}{h':Ph}
theorem Cx.Ok.Xr(ok:X.Ok){o:Qc}(e:X.base.get? b=some o):b∉X.fs:=λz=>by
 have:=(ok.US.mem z).1;rw[e] at this;cases this
theorem Inv.bs(I:Inv X pins σ H s):∀b o,X.base.get? b=some o->s.heap.get? b=some o/\H b=none:=λb o e=>
 ⟨I.base.keep b o (I.ok.bs b o e).1 (I.ok.bs b o e).2 (I.ok.Xr e)<|I.ok.VE b o e,I.base.free b o (I.ok.bs b o e).1 (I.ok.bs b o e).2<|I.ok.VE b o e⟩
theorem Inv.bk(I:Inv X pins σ H s):∀b o,X.base.get? b=some o->s.heap.get? b=some o:=λb o e=>(I.bs b o e).1
theorem Inv.mod(I:Inv X pins σ H s):Mod X.K X.mg X.base:=I.ok.mod
theorem Inv.UB(I:Inv X pins σ H s):X.K.In s.heap:=I.ok.mod.Wo.keeps I.bk
theorem Inv.lt(I:Inv X pins σ H s):X.env.locals<s.heap.objs.size:=let ⟨_,hn,_⟩:=I.loc;hn.lt
theorem Inv.sz(I:Inv X pins σ H s):X.s₀.heap.objs.size<=s.heap.objs.size:=cX I.ok.above<|B0 I.lt
theorem Inv.WM(I:Inv X pins σ H s)(h:s.heap.objs.size<=a):a∉X.fs:=λz=>by
 obtain⟨_,o,J,_⟩:=I.ok.US.mem z;exact absurd (mR (OQ J)<|cX I.sz h)<|vo _
theorem Inv.Wt(I:Inv X pins σ H s):∀x c,X.env.cells.lookup x=some c->c≠X.env.locals:=λx c e z=>by
 obtain⟨v,o,Z,U⟩:=I.cell x c e;obtain⟨m,⟨o',es,ep,J,O,_⟩,_⟩:=I.loc;rw[z,J] at Z;cases Z;rw[O] at U;cases U
theorem Inv.US(I:Inv X pins σ H s):s.heap.FunFrames X.base X.outer:=by
 have all:∀(l:List RQ),(∀b∈frs l,b∈X.fs)->X.s₀.heap.FunFrames X.base l->s.heap.FunFrames X.base l:=by
  intro l;induction l with
  |nil=>intro _ _;trivial
  |cons env r ih=>
   intro Z hl;obtain⟨hk,⟨L,o,O,hn,ho,hd⟩,hr⟩:=hl;have J:L∈X.fs:=Z L (by unfold frs;rw[SK,O];exact aU);obtain⟨sl,e⟩:=I.base.slot L o ho (I.ok.Wg L J) J λz=>I.ok.VM L z J;exact⟨hk,⟨L,_,O,hn,e,hd⟩,ih (λb U=>Z b<|by unfold frs;rw[SK,O];exact bA _ U) hr⟩
 exact all X.outer (λ_ U=>U) I.ok.US
theorem Inv.stack(I:Inv X pins σ H s):s.heap.FunFrames X.base X.stack:=by
 rcases I.ok.WK with e|⟨e,z⟩
 .rw [e];exact I.US
 .rw [e];obtain⟨m,hn,_⟩:=I.loc;refine .cons (by rw[I.ok.kind];decide) z hn ?_ I.US;exact Tc<|cX I.ok.VU I.ok.above
theorem Inv.UO(I:Inv X pins σ H s):∀b∈frs X.stack,b∈X.env.locals::X.fs:=λb z=>by
 rcases I.ok.WK with e|⟨e,J⟩
 .rw [e] at z;exact bA _ z
 .rw [e] at z;unfold frs at z;rw[SK,J] at z;exact z
theorem Inv.VB(I:Inv X pins σ H s):∀b∈frs X.stack,H b=none:=λb J=>by
 rcases bC.mp (I.UO b J) with e|J
 .rw [e];exact I.free
 .obtain ⟨_,o,O,_⟩:=I.ok.US.mem J;exact I.base.free b o O (I.ok.Wg b J) λz=>I.ok.VM b z J
theorem Inv.step{g':Array Sn}{d':Drawn}(I:Inv X pins σ H s)
  (U:∀b∈ch,(b∈X.ex∨X.s₀.heap.objs.size<=b)/\b≠X.env.locals/\(∀x c,X.env.cells.lookup x=some c->c≠b)/\∀p∈X.pn++pins,p.1≠b)
  (keep:∀b o,b≠X.env.locals->b∉X.fs->b∉ch->s.heap.get? b=some o->H b=none->h'.get? b=some o)
  (slot:∀b o,b≠X.env.locals->b∈X.fs->b∉ch->s.heap.get? b=some o->H b=none->∃sl,h'.get? b=some { o with slots:=sl }) (free:∀b o,b∉ch->s.heap.get? b=some o->H b=none->H' b=none)
  (there:∀b o,b∉ch->s.heap.get? b=some o->∃o',h'.get? b=some o')
  (UM:∀b xs,H b=some (.tup xs)->H' b=some (.tup xs)) (UI:∀b o u,H b=some (.frz o u)->H' b=some (.frz o u)) (UN:∀b ps,H b=some (.tbl ps)->∃ad,H' b=some (.tbl<|ps++ad))
  (ns:∀m,s.heap.Ns X.env.locals m->h'.Ns X.env.locals m) (ae:dJ X.prog X.w H' h') (hg:QH g'):
  Inv X pins σ H' { s with heap:=h',gens:=g',drawn:=d',toks:=t' }:=by
 have ac:∀b o,X.s₀.heap.get? b=some o->b≠X.env.locals:=λb o e=>fK<|mR (OQ e) I.ok.above;have aa:∀b o,X.s₀.heap.get? b=some o->b∉X.ex->b∉ch:=λb o e hx hb=>by
  rcases(U b hb).1 with z|z
  .exact hx z
  .exact absurd (mR (OQ e) z) (vo _)
 have O:∀x c,X.env.cells.lookup x=some c->∀v,s.heap.IsCell c v->h'.IsCell c v:=λx c e v zz=>by
  obtain⟨o,ho,hd⟩:=zz;have J:c∉ch:=λz=>(U c z).2.2.1 x c e rfl;by_cases hc:c∈X.fs
  .obtain ⟨sl,q⟩:=slot c o (I.Wt x c e) hc J ho<|I.Uz x c e;exact⟨_,q,hd⟩
  .exact ⟨o,keep c o (I.Wt x c e) hc J ho<|I.Uz x c e,hd⟩
 refine⟨I.ok,I.os,hg,⟨λb o e n hb hx=>?_,λb o e n hb hx=>?_,λb o e n hx=>?_,λb o e hx=>?_,λb xs e=>UM b xs<|I.base.UM b xs e,λb o xs e=>UI b o xs<|I.base.UI b o xs e,λb ps e=>?_⟩,?_,λx c e=>?_,?_,λx c e=>?_,λp hp=>?_,ae,I.len⟩
 .exact keep b o (ac b o e) hb (aa b o e hx) (I.base.keep b o e n hb hx) (I.base.free b o e n hx)
 .obtain ⟨sl,Z⟩:=I.base.slot b o e n hb hx;obtain⟨af,e2⟩:=slot b _ (ac b o e) hb (aa b o e hx) Z<|I.base.free b o e n hx;exact⟨af,e2⟩
 .obtain ⟨o',Z⟩:=I.base.there b o e hx;exact free b o' (aa b o e hx) Z<|I.base.free b o e n hx
 .obtain ⟨o',Z⟩:=I.base.there b o e hx;exact there b o' (aa b o e hx) Z
 .obtain ⟨m1,Z⟩:=I.base.UN b ps e;obtain⟨m2,e2⟩:=UN b _ Z;exact⟨m1++m2,by rw[e2,Array.append_assoc]⟩
 .obtain ⟨m,hn,hl⟩:=I.loc;refine⟨m,ns m hn,λi x v Z e2 e3=>?_⟩;obtain⟨u,r,l⟩:=hl i x v Z e2 e3;refine⟨u,r,?_⟩;rcases l with l|⟨k,c,e,z⟩
  .exact .inl l
  .exact .inr ⟨k,c,e,O x c e _ z⟩
 .obtain ⟨v,z⟩:=I.cell x c e;exact⟨v,O x c e v z⟩
 .obtain ⟨m,⟨o,_,_,ho,_⟩,_⟩:=I.loc;exact free _ o (λz=>(U _ z).2.1 rfl) ho I.free
 .obtain ⟨v,o,ho,hd⟩:=I.cell x c e;exact free c o (λz=>(U c z).2.2.1 x c e rfl) ho<|I.Uz x c e
 .obtain ⟨e,n,ne,nf,d⟩:=I.pin p hp;have J:p.1∉ch:=λz=>(U p.1 z).2.2.2 p hp rfl;exact⟨keep p.1 p.2 ne nf J e n,free p.1 p.2 J e n,ne,nf,d⟩
theorem Inv.un(I:Inv X pins σ H s)(u:Un X.fs [] H H' s.heap h')(Z:dJ X.prog X.w H' h'):Inv X pins σ H' { s with heap:=h',toks:=t' }:=by
 obtain⟨m,⟨o,es,ep,ho,r⟩,_⟩:=id I.loc;obtain⟨sl,hL⟩:=u.any ho I.free (by simp);exact I.step (g':=s.gens) (d':=s.drawn) (ch:=[]) (λ_ z=>nomatch z) (λb o _ U _ e n=>u.keep b o e n U<|by simp) (λb o _ U _ e n=>u.slot b o e n U<|by simp) (λb o _ e n=>u.free b o e n<|by simp) (λb o _ e=>u.there b o e<|by simp) u.UM u.UI u.UN (λm' hm=>by
  obtain⟨o',O,aa,J,r'⟩:=hm;rw[ho] at J;cases J;exact⟨_,O,aa,hL,r'⟩) Z I.bare
theorem Inv.call{g':Array Sn}{d':Drawn}(I:Inv X pins σ H s)(u:Un (frs X.stack) ch H H' s.heap h')(aa:dJ X.prog X.w H' h')(hg:QH g')
  (O:∀b∈ch,(b∈X.ex∨X.s₀.heap.objs.size<=b)/\b≠X.env.locals/\(∀x c,X.env.cells.lookup x=some c->c≠b)/\∀p∈X.pn++pins,p.1≠b):
  Inv X pins σ H' { s with heap:=h',gens:=g',drawn:=d',toks:=t' }:=by
 obtain⟨m,⟨o,es,ep,ho,r⟩,_⟩:=id I.loc;obtain⟨sl,U⟩:=u.any ho I.free λz=>(O _ z).2.1 rfl;exact I.step (ch:=ch) O (λb o U hb hc e n=>u.keep b o e n (λz=>(bC.mp<|I.UO b z).elim U hb) hc) (λb o _ _ hc e n=>u.any e n hc) (λb o hc e n=>u.free b o e n hc) (λb o hc e=>u.there b o e hc) u.UM u.UI u.UN (λm' hm=>by
  obtain⟨o',Z,ac,J,r'⟩:=hm;rw[ho] at J;cases J;exact⟨_,Z,ac,U,r'⟩) aa hg
theorem Inv.turned(I:Inv X pins σ H s)(k:∀b o,b≠it->s.heap.get? b=some o->h'.get? b=some o)(hn:H it=none)(O:it≠X.env.locals)
  (h1:it∈X.ex∨X.s₀.heap.objs.size<=it) (h2:∀x c,X.env.cells.lookup x=some c->c≠it) (h3:∀p∈X.pn++pins,p.1≠it):Inv X pins σ H { s with heap:=h',toks:=t' }:=by
 have J:∀b u,H b=some u->b≠it:=λb u e z=>by rw[z,hn] at e;cases e
 refine I.step (g':=s.gens) (d':=s.drawn) (ch:=[it]) (λb Z=>?_) (λb o _ _ hc e _=>k b o (λz=>hc<|by simp[z]) e) (λb o _ _ hc e _=>⟨o.slots,k b o (λz=>hc<|by simp[z]) e⟩) (λ_ _ _ _ n=>n)
  (λb o hc e=>⟨o,k b o (λz=>hc<|by simp[z]) e⟩) (λ_ _ e=>e) (λ_ _ _ e=>e) (λb ps e=>⟨#[],by rw[e];simp⟩) (λm hm=>?_) (λb u e=>?_) I.bare
 .have e:b=it:=by simpa using Z
  subst e;exact⟨h1,O,h2,h3⟩
 .obtain ⟨o,es,ep,U,r⟩:=hm;exact⟨o,es,ep,k _ o (OY O) U,r⟩
 .refine (I.Uy b u e).U1 (λc v hc q=>k c v ?_ q) (λ_ q=>q) λ_ _ q=>q;rcases hc with z|z
  .rw [z];exact J b u e
  .exact J c _ z
theorem Inv.tok(I:Inv X pins σ H s)(t:Nat):Inv X pins σ H { s with toks:=t }:=I.un (h':=s.heap) (t':=t) Un.refl I.Uy
theorem Inv.kept(I:Inv X pins σ H s)(k:∀b u,s.heap.get? b=some u->h'.get? b=some u):Inv X pins σ H { s with heap:=h',toks:=t' }:=I.un (Un.kept k)<|I.Uy.kept k
theorem Inv.laid(I:Inv X pins σ H s)(k:∀b u,s.heap.get? b=some u->h'.get? b=some u)(z:s.heap.objs.size<=a)(new:aS X.prog X.w (upd H a o) h' a o):
  Inv X pins σ (upd H a o) { s with heap:=h',toks:=t' }:=I.un (Un.laid k z<|I.Uy.fresh z)<|I.Uy.laid k z new
theorem Inv.write{x e:OL}(I:Inv X pins σ H s)(O:Hx<|H x)(J:e=x∨H e=some (.own x))(k:∀b u,b≠e->s.heap.get? b=some u->h'.get? b=some u)(z:∃u,h'.get? e=some u)
  (new:aS X.prog X.w (upd H x o) h' x o):Inv X pins σ (upd H x o) { s with heap:=h',toks:=t' }:=I.un (Un.write O J k z)<|I.Uy.write O J k z new
theorem Inv.UU{pins':List<|OL×Qc}(I:Inv X pins σ H s)(h:∀p∈pins',s.heap.get? p.1=some p.2/\H p.1=none/\p.1≠X.env.locals/\p.1∉X.fs/\∀v,p.2.data≠.cell v):Inv X pins' σ H s:=
 ⟨I.ok,I.os,I.bare,I.base,I.loc,I.cell,I.free,I.Uz,λp J=>(gN.mp J).elim (λz=>I.pin p<|kW _ z)<|h p,I.Uy,I.len⟩
theorem IK(z:N.Nodup){j:Nat}(a:N[i]?=some x)(b:N[j]?=some x):i=j:=by
 obtain⟨h1,J⟩:=gX.mp a;obtain⟨h2,e2⟩:=gX.mp b;exact(List.getElem_inj z).mp<|J.trans e2.symm
theorem mW{M:Tt}{A:Pb}{Q:Unit->ON->Prop}(I:Inv X pins σ H s)(hN:X.N.Nodup)(hi:X.N[i]?=some x)(hx:Loc X.env.scope x)(r:RelV v u)
  (h:∀s',Inv X pins (σ.set i<|some v) H s'->(∃a,Pq a s.heap s'.heap/\(a=X.env.locals∨X.env.cells.lookup x=some a))->Q () s') (hf:X.fn x=true∨X.env.scope.names.lookup x=some .local:=by first|exact .inl rfl|exact .inr rfl|assumption):OR M A (storeName X.env x u) Q E s:=by
 obtain⟨m,hn,hl⟩:=id I.loc;have ad:(X.env.scope.kind==.class||(X.env.scope.kind==.module&&X.env.locals !=X.env.globals))=false:=by rw[I.ok.kind];rfl
 have aa:i<σ.length:=by rw[I.len];exact(gX.mp hi).1
 have Wt:=I.Wt;have O:∀{a:OL} {h':Ph},(∃o,s.heap.get? a=some o/\H a=none)->Pq a s.heap h'->dJ X.prog X.w H h':=fun {a h'} ha J b ob e=>by
  obtain⟨_,_,Z⟩:=ha;refine(I.Uy b ob e).U1 (λc w' hc q=>(J.2 c ?_).trans q) (λ_ q=>q) λ_ _ q=>q;rintro rfl;rcases hc with rfl|hc
  .rw [Z] at e;cases e
  .rw [Z] at hc;cases hc
 rcases hx with hk|hk
 .refine wpAny_storeName_local hk hn (λh' ai J=>?_) ad;obtain⟨oL,_,_,ah,_⟩:=id hn;refine h _ ⟨I.ok,I.os,I.bare,⟨λb o e n hb hx=>?_,λb o e n hb hx=>?_,I.base.free,λb o e hx=>?_,I.base.UM,I.base.UI,I.base.UN⟩,⟨_,ai,λj y v' U e2 e3=>?_⟩,λy c e=>?_,I.free,I.Uz,λp hp=>?_,O ⟨oL,ah,I.free⟩ J,by simpa using I.len⟩ ⟨_,J,.inl rfl⟩
  .exact (J.2 b<|fK<|mR (OQ e) I.ok.above).trans (I.base.keep b o e n hb hx)
  .obtain ⟨sl,U⟩:=I.base.slot b o e n hb hx;exact⟨sl,(J.2 b<|fK<|mR (OQ e) I.ok.above).trans U⟩
  .obtain ⟨o',U⟩:=I.base.there b o e hx;exact⟨o',(J.2 b<|fK<|mR (OQ e) I.ok.above).trans U⟩
  .by_cases hj:j=i
   .subst hj;rw[hi] at U;cases U;rw[QZ aa] at e2;cases e2;exact⟨u,r,.inl ⟨hk,by simp⟩⟩
   .rw [Rg<|OY hj] at e2;obtain⟨u',r',q⟩:=hl j y v' U e2 e3;refine⟨u',r',?_⟩;rcases q with ⟨k,e⟩|⟨k,c,e,z⟩
    .refine .inl ⟨k,?_⟩;have:y≠x:=λe=>hj<|IK hN U<|e▸hi;simp[this,e]
    .exact .inr ⟨k,c,e,z.sameBut J<|Wt y c e⟩
  .obtain ⟨w',z⟩:=I.cell y c e;exact⟨w',z.sameBut J<|Wt y c e⟩
  .obtain ⟨e,n,ne,nf,d⟩:=I.pin p hp;exact⟨(J.2 p.1 ne).trans e,n,ne,nf,d⟩
 .have ac:X.fn x=true:=by
   rcases hf with z|z
   .exact z
   .rw [z] at hk;cases hk
  obtain⟨c,hc⟩:=I.ok.has x<|.inl hk;obtain⟨w',z⟩:=I.cell x c hc;refine wpAny_storeName_cell I.ok.kind hk hc z λh' ae J=>?_;obtain⟨oc,ag,af⟩:=id z;refine h { s with heap:=h' } ⟨I.ok,I.os,I.bare,⟨λb o e n hb hx=>?_,λb o e n hb hx=>?_,I.base.free,λb o e hx=>?_,I.base.UM,I.base.UI,I.base.UN⟩,⟨m,hn.sameBut J<|OY<|Wt x c hc,λj y v' U e2 e3=>?_⟩,λy c' e=>?_,I.free,I.Uz,λp hp=>?_,O ⟨oc,ag,I.Uz x c hc⟩ J,by simpa using I.len⟩ ⟨c,J,.inr hc⟩
  .exact (J.2 b<|fK<|mR (OQ e)<|I.ok.Ww x c ac hc).trans (I.base.keep b o e n hb hx)
  .obtain ⟨sl,U⟩:=I.base.slot b o e n hb hx;exact⟨sl,(J.2 b<|fK<|mR (OQ e)<|I.ok.Ww x c ac hc).trans U⟩
  .obtain ⟨o',U⟩:=I.base.there b o e hx;exact⟨o',(J.2 b<|fK<|mR (OQ e)<|I.ok.Ww x c ac hc).trans U⟩
  .by_cases hj:j=i
   .subst hj;rw[hi] at U;cases U;rw[QZ aa] at e2;cases e2;exact⟨u,r,.inr ⟨.inl hk,c,hc,ae⟩⟩
   .rw [Rg<|OY hj] at e2;obtain⟨u',r',q⟩:=hl j y v' U e2 e3;refine⟨u',r',?_⟩;rcases q with q|⟨k,c',e,z'⟩
    .exact .inl q
    .refine .inr ⟨k,c',e,z'.sameBut J ?_⟩;rintro rfl;exact hj<|IK hN U<|I.ok.inj _ _ _ e hc▸hi
  .by_cases hcc:c'=c
   .subst hcc;exact⟨_,ae⟩
   .obtain ⟨w2,z2⟩:=I.cell y c' e;exact⟨w2,z2.sameBut J hcc⟩
  .obtain ⟨e,n,ne,nf,d⟩:=I.pin p hp;refine⟨(J.2 p.1 ?_).trans e,n,ne,nf,d⟩;intro q;rw[q,ag] at e;have q':oc=p.2:=OS e;exact d w'<|by rw[<- q'];exact af
theorem IP{M:Tt}{A:Pb}{Q:Unit->ON->Prop}(I:Inv X pins σ H s)(z:X.N.Nodup)(hi:X.N[i]?=some x)(hx:Loc X.env.scope x)(r:RelV v u)
  (h:∀s',Inv X pins (σ.set i<|some v) H s'->Q () s') (O:X.fn x=true∨X.env.scope.names.lookup x=some .local:=by first|exact .inl rfl|exact .inr rfl|assumption):OR M A (storeName X.env x u) Q E s:=
 mW I z hi hx r (λs' J _=>h s' J) O
theorem Inv.U8{s':ON}(I:Inv X pins σ H s)(U:s'.os=s.os)(u:Un (frs X.stack) ch H H' s.heap s'.heap)(z:dJ X.prog X.w H' s'.heap)(O:QH s'.gens)
  (J:∀b∈ch,(b∈X.ex∨X.s₀.heap.objs.size<=b)/\b≠X.env.locals/\(∀x c,X.env.cells.lookup x=some c->c≠b)/\∀p∈X.pn++pins,p.1≠b):Inv X pins σ H' s':=by
 obtain⟨h',g',d',t',o'⟩:=s';have e:o'=s.os:=U;subst e;exact I.call (g':=g') (t':=t') (d':=d') u z O J
end
noncomputable abbrev XK:=OK->Option OL->Hp->Prop
noncomputable abbrev St:=List<|Option V
variable {σ:St}
noncomputable abbrev VK:=V->Hp->Prop
noncomputable abbrev TE:=St->Hp->VK->Prop
variable {te:TE}
noncomputable abbrev TT:=St->Hp->(Bool->Hp->Prop)->Prop
variable {tc:TT}
noncomputable abbrev TA:=St->Hp->(List V->Hp->Prop)->Prop
variable {ta:TA}
structure Ends where
 nx:St->Hp->Prop
 rt:VK
 bk:St->Hp->Prop:=λ_ _=>False
 ct:St->Hp->Prop:=λ_ _=>False
noncomputable abbrev TS:=Ends->St->Hp->Prop
variable {tb:TS}
def EP(X:Cx)(pins:List<|OL×Qc)(σ:St)(Q:VK)(u:OK)(s':ON):Prop:=L2.X2 λv H'=>Inv X pins σ H' s'/\RelV v u/\Q v H'
def TP(X:Cx)(pins:List<|OL×Qc)(σ:St)(Q:Bool->Hp->Prop)(b:Bool)(s':ON):Prop:=∃H',Inv X pins σ H' s'/\Q b H'
def AP(X:Cx)(pins:List<|OL×Qc)(σ:St)(Q:List V->Hp->Prop)(us:List OK)(s':ON):Prop:=L2.X2 λvs H'=>Inv X pins σ H' s'/\Vals vs us/\Q vs H'
def SP(X:Cx)(pins:List<|OL×Qc)(D:Ends)(f:Flow)(s':ON):Prop:=
 match f with
 |.next=>L2.X2 λσ' H'=>Inv X pins σ' H' s'/\D.nx σ' H'
 |.brk=>L2.X2 λσ' H'=>Inv X pins σ' H' s'/\D.bk σ' H'
 |.cont=>L2.X2 λσ' H'=>Inv X pins σ' H' s'/\D.ct σ' H'
 |.ret u=>L2.X3 λv σ' H'=>Inv X pins σ' H' s'/\RelV v u/\D.rt v H'
def PE(X:Cx)(e:PM)(t:TE):Prop:=
 ∀(pins:List<|OL×Qc) (s:ON) (σ:St) (H:Hp) (Q:VK),Inv X pins σ H s->t σ H Q->OR (OV X.prog X.w) X.A (eval e X.env) (EP X pins σ Q) X.xe s
def PT(X:Cx)(e:PM)(t:TT):Prop:=
 ∀(pins:List<|OL×Qc) (s:ON) (σ:St) (H:Hp) (Q:Bool->Hp->Prop),Inv X pins σ H s->t σ H Q->OR (OV X.prog X.w) X.A (isTrue e X.env<|eval e X.env) (TP X pins σ Q) X.xe s
def PW(X:Cx)(e:PM)(t:TT):Prop:=
 ∀(whole:TF OK) (pins:List<|OL×Qc) (s:ON) (σ:St) (H:Hp) (Q:Bool->Hp->Prop),Inv X pins σ H s->t σ H Q->OR (OV X.prog X.w) X.A (isTrue e X.env whole) (TP X pins σ Q) X.xe s
theorem PW.pt{t:TT}(h:PW X e t):PT X e t:=h _
def PA(X:Cx)(es:List PM)(t:TA):Prop:=
 ∀(pos:Sq) (pins:List<|OL×Qc) (s:ON) (σ:St) (H:Hp) (Q:List V->Hp->Prop),Inv X pins σ H s->t σ H Q->OR (OV X.prog X.w) X.A (spliced<|P5 pos<|OU es X.env) (AP X pins σ Q) X.xe s
def PS(X:Cx)(st:Pu)(t:TS):Prop:=
 ∀(pins:List<|OL×Qc) (s:ON) (σ:St) (H:Hp) (D:Ends),Inv X pins σ H s->t D σ H->OR (OV X.prog X.w) X.A (exec st X.env) (SP X pins D) X.xe s
def mP(X:Cx)(st:List Pu)(t:TS):Prop:=
 ∀(pins:List<|OL×Qc) (s:ON) (σ:St) (H:Hp) (D:Ends),Inv X pins σ H s->t D σ H->OR (OV X.prog X.w) X.A (execs st X.env) (SP X pins D) X.xe s
theorem thn{α:Type}{t:TF α}{Q Q':α->ON->Prop}{M:Tt}{A:Pb}(h:OR M A t Q E s)(z:∀a s,Q a s->Q' a s):OR M A t Q' E s:=Pj h z λ_ _ x=>x
section
def HP(P:V->Prop):St->Nat->Prop
 |a::_,0=>match a with
  |some v=>P v
  |none=>False
 |_::σ,i+1=>HP P σ i
 |[],_=>False
theorem zA{P:V->Prop}:∀{σ:St} {i:Nat},HP P σ i->∃v,σ[i]?=some (some v)/\P v:=by
 intro σ;induction σ with
 |nil=>intro i h;cases i<;>exact h.elim
 |cons a σ ih=>
  intro i h;cases i with
  |zero=>
   cases a with
   |none=>exact h.elim
   |some v=>exact⟨v,rfl,h⟩
  |succ i=>exact ih h
def vN(x:V)(P:Int->Prop):Prop:=match x with
 |.int i=>P i
 |_=>False
theorem Il{x:V}{P:Int->Prop}(h:vN x P):∃i,x=.int i/\P i:=by
 cases x<;>first|exact⟨_,rfl,h⟩|exact h.elim
theorem yx{x:V}{P:Int->Int->Prop}(h:vN x λi=>vN y λj=>P i j):∃i j,x=.int i/\y=.int j/\P i j:=by
 obtain⟨i,e,h⟩:=Il h;obtain⟨j,z,h⟩:=Il h;exact⟨i,j,e,z,h⟩
def AW(x:V)(P:Bool->Prop):Prop:=match x with
 |.bl i=>P i
 |_=>False
theorem Ik{x:V}{P:Bool->Prop}(h:AW x P):∃i,x=.bl i/\P i:=by
 cases x<;>first|exact⟨_,rfl,h⟩|exact h.elim
def jV(i:Nat):TE:=λσ H Q=>HP (λv=>Q v H) σ i
def tC(v:V):TE:=λ_ H Q=>Q v H
theorem D0(Z:X.N[i]?=some x)(hv:Hs X.env.scope x)(O:(x==("__debug__":Pa))=false:=by decide)(U:(x==("__classdict__":Pa))=false:=by decide):PE X (.Name x pos)<|jV i:=by
 intro pins s σ H Q I h;obtain⟨v,e,h⟩:=zA h;obtain⟨m,hn,hl⟩:=I.loc;obtain⟨u,r,l⟩:=hl i x v Z e hv;have fin:EP X pins σ Q u s:=⟨v,H,I,r,h⟩
 rcases l with ⟨J,hm⟩|⟨J,c,hc,z⟩
 .exact wpAny_Name (wpAny_loadName_local I.ok.kind J hn hm fin) O
 .rcases J with J|J
  .exact wpAny_Name (wpAny_loadName_cell I.ok.kind J hc z fin) O
  .exact wpAny_Name (wpAny_loadName_free I.ok.kind J hc z fin U) O
theorem rK{i j pos}:PE X (.Constant (.int i) j pos)<|tC<|.int i:=λ_ _ _ H _ I h=>wpAny_Constant_int ⟨.int i,H,I.tok _,⟨_,rfl⟩,h⟩
theorem JC{b j pos}:PE X (.Constant (.bool b) j pos)<|tC<|.bl b:=λ_ _ _ H _ I h=>Constant_bool ⟨.bl b,H,I,rfl,h⟩
theorem D1{j pos}:PE X (.Constant .none j pos)<|tC .Ux:=λ_ _ _ H _ I h=>Constant_none ⟨.Ux,H,I,rfl,h⟩
theorem JX{x j pos}:PE X (.Constant (.str x) j pos)<|tC<|.str x:=λ_ _ _ H _ I h=>Calls.Constant_str ⟨.str x,H,I.tok _,⟨_,rfl⟩,h⟩
def Gl(X:Cx)(x:Pa):Prop:=X.env.kindOf x=some .globalImplicit
theorem BE(I:Inv X pins σ H s)(J:Gl X x)(hm:X.mg x=some u)(h:Q u s)
  (z:(x==("__debug__":Pa))=false:=by decide):OR (OV X.prog X.w) X.A (eval (.Name x pos) X.env) Q E s:=
 Uv I.ok.kind J (Calls.loadGlobal_global (by rw[I.ok.glob];exact I.mod.glob.keeps I.bk) hm h) z
theorem CO(I:Inv X pins σ H s)(O:Gl X x)(hm:X.mg x=none)(J:Rc x=some u)(h:Q u s)
  (hn:x≠"__name__":=by decide) (z:(x==("__debug__":Pa))=false:=by decide):OR (OV X.prog X.w) X.A (eval (.Name x pos) X.env) Q E s:=by
 obtain⟨U,h1,h2⟩:=I.mod.blt;exact Uv I.ok.kind O (Calls.loadGlobal_builtin (by rw[I.ok.glob];exact I.mod.glob.keeps I.bk) hm (by rw[I.ok.blt];exact h1.keeps I.bk) ((h2 x hn).trans J) h) z
theorem AM(J:Gl X x)(hm:X.mg x=some u)(r:RelV v u)(z:(x==("__debug__":Pa))=false:=by decide):PE X (.Name x pos)<|tC v:=
 λ_ _ _ H _ I h=>BE I J hm ⟨v,H,I,r,h⟩ z
theorem AQ(O:Gl X x)(hm:X.mg x=none)(z:Rc x=some u)(r:RelV v u)(hn:x≠"__name__":=by decide)(J:(x==("__debug__":Pa))=false:=by decide):PE X (.Name x pos)<|tC v:=
 λ_ _ _ H _ I h=>CO I O hm z ⟨v,H,I,r,h⟩ hn J
variable {a b:PM}{ta tb:TE}
def PC(X:Cx)(op:CmpOp)(a b:PM)(t:TE):Prop:=
 ∀(pins:List<|OL×Qc) (s:ON) (σ:St) (H:Hp) (Q:VK),Inv X pins σ H s->t σ H Q->
  OR (OV X.prog X.w) X.A (eval a X.env) (λv s₁=>OR (OV X.prog X.w) X.A (eval b X.env) (λu s₂=>OR (OV X.prog X.w) X.A (PR op v u) (EP X pins σ Q) X.xe s₂) X.xe s₁) X.xe s
def tB(t:TE):TT:=λσ H Q=>t σ H λx H1=>AW x λc=>Q c H1
theorem D5{t:TE}(h:PC X op a b t)(h1:R5 op b=false:=by first|exact nobehind _ (by decide) (by decide)|rfl):PE X (.Compare a [op] [b] pos) t:=λpins s σ H Q I hw=>wpAny_Compare1 (h pins s σ H Q I hw) h1
theorem IC{t:TE}(h:PE X e t)(U:∀z,isTrue e X.env z=(do let v <- z;R1 e.pos;holding [v] (truthy v)):=by intro _;rfl):PT X e<|tB t:=by
 intro pins s σ H Q I hw;refine isTrue_plain (thn (h pins s σ H _ I hw) λv s1 O=>?_)<|U _;obtain⟨x,H1,J,r1,Z⟩:=O;obtain⟨d,rfl,q⟩:=Ik Z;cases r1;exact Q9 ⟨H1,J,q⟩
variable {tA tB':TT}{rest:List PM}
def Gg(t u:TT):TT:=λσ H Q=>t σ H λc H1=>if c=true then u σ H1 Q else Q false H1
def MM(t u:TT):TT:=λσ H Q=>t σ H λc H1=>if c=true then Q true H1 else u σ H1 Q
def F1(t:TT):TT:=λσ H Q=>t σ H λc H1=>Q (!c) H1
theorem EW(ha:PT X a tA):PW X (.BoolOp .And [a] pos) tA:=by
 intro z pins s σ H Q I h;refine isTrue_and<|thn (ha pins s σ H Q I h) λc s1 e=>?_;cases c with
 |true=>exact isTrue_and_nil e
 |false=>exact e
theorem J0(ha:PT X a tA):PW X (.BoolOp .Or [a] pos) tA:=by
 intro z pins s σ H Q I h;refine isTrue_or<|thn (ha pins s σ H Q I h) λc s1 e=>?_;cases c with
 |false=>exact isTrue_or_nil e
 |true=>exact e
theorem CW(ha:PT X a tA)(O:PW X (.BoolOp .And (b::rest) pos) tB'):PW X (.BoolOp .And (a::b::rest) pos)<|Gg tA tB':=by
 intro Z pins s σ H Q I h;refine isTrue_and<|thn (ha pins s σ H _ I h) λc s1 U=>?_;obtain⟨H1,z,J⟩:=U;cases c with
 |true=>exact O Z pins s1 σ H1 Q z J
 |false=>exact⟨H1,z,J⟩
theorem Ia(ha:PT X a tA)(O:PW X (.BoolOp .Or (b::rest) pos) tB'):PW X (.BoolOp .Or (a::b::rest) pos)<|MM tA tB':=by
 intro Z pins s σ H Q I h;refine isTrue_or<|thn (ha pins s σ H _ I h) λc s1 U=>?_;obtain⟨H1,z,J⟩:=U;cases c with
 |true=>exact⟨H1,z,J⟩
 |false=>exact O Z pins s1 σ H1 Q z J
theorem IB(ha:PT X a tA):PT X (.UnaryOp .Not a pos)<|F1 tA:=by
 intro pins s σ H Q I h;exact isTrue_not<|ha pins s σ H (λc H1=>Q (!c) H1) I h
def B8(ta tb:TE):TE:=λσ H Q=>ta σ H λx H1=>AW x λc=>if c=true then tb σ H1 Q else Q (.bl false) H1
def Jj(ta tb:TE):TE:=λσ H Q=>ta σ H λx H1=>AW x λc=>if c=true then Q (.bl true) H1 else tb σ H1 Q
def B5(ta:TE):TE:=λσ H Q=>ta σ H λx H1=>AW x λc=>Q (.bl<|!c) H1
theorem Iz{op}{t:TE}(h:PE X a t):PE X (.BoolOp op [a] pos) t:=λpins s σ H Q I hw=>BoolOp_one<|h pins s σ H Q I hw
theorem G4(ha:PE X a ta)(U:PE X (.BoolOp .And (b::rest) pos) tb):PE X (.BoolOp .And (a::b::rest) pos)<|B8 ta tb:=by
 intro pins s σ H Q I h;refine BoolOp_and<|thn (ha pins s σ H _ I h) λv s1 O=>?_;obtain⟨x,H1,J,Z,z⟩:=O;obtain⟨c,rfl,z⟩:=Ik z;cases Z;refine Q9 ?_;cases c with
 |true=>exact U pins s1 σ H1 Q J z
 |false=>exact⟨.bl false,H1,J,rfl,z⟩
theorem yp(ha:PE X a ta):PE X (.UnaryOp .Not a pos)<|B5 ta:=by
 intro pins s σ H Q I h;refine UnaryOp_<|thn (ha pins s σ H _ I h) λv s1 U=>?_;obtain⟨x,H1,J,O,z⟩:=U;obtain⟨c,rfl,z⟩:=Ik z;cases O;exact not_of<|Q9 ⟨.bl<|!c,H1,J,rfl,z⟩
def MN(t:TT)(ta tb:TE):TE:=λσ H Q=>t σ H λc H1=>if c=true then ta σ H1 Q else tb σ H1 Q
theorem qC(hc:PT X c tA)(ha:PE X a ta)(O:PE X b tb):PE X (.IfExp c a b pos)<|MN tA ta tb:=by
 intro pins s σ H Q I h;refine wpAny_IfExp<|thn (hc pins s σ H _ I h) λd s1 U=>?_;obtain⟨H1,z,J⟩:=U;cases d with
 |true=>exact ha pins s1 σ H1 Q z J
 |false=>exact O pins s1 σ H1 Q z J
end
def aB(K:W.Frag)(H:Hp)(a:OL)(xs:List V):Prop:=
 Rd H a (.lst xs)∨
  ∃(o:Qc) (its:Array OK) (n:Nat),K.lookup a=some o/\o.cls=.type "list"/\o.dict=none/\o.data=.seq its n/\its.size<=sizeLine/\Vals xs its.toList
def bG(K:W.Frag)(H:Hp)(a:OL)(xs:List V):Prop:=
 Rd H a (.tup xs)∨
  ∃(o:Qc) (its:Array OK) (n:Nat),K.lookup a=some o/\o.cls=.type "tuple"/\o.data=.seq its n/\its.size<=sizeLine/\Vals xs its.toList
noncomputable def Jr:OK->Option V
 |.none=>some .Ux
 |.bool b=>some<|.bl b
 |.int i _=>some<|.int i
 |.str x _=>some<|.str x
 |.bytes b _=>some<|.byt b
 |.float b _=>some<|.flt b
 |.ref a=>some<|.ref a
 |.type n=>some<|.ty n
 |_=>none
theorem RelV.abs{x:V}(r:RelV x u):Jr u=some x:=by
 cases x with
 |Ux=>cases r;rfl
 |bl _=>cases r;rfl
 |int _=>obtain⟨t,rfl⟩:=r;rfl
 |str _=>obtain⟨t,rfl⟩:=r;rfl
 |byt _=>obtain⟨t,rfl⟩:=r;rfl
 |flt _=>obtain⟨t,rfl⟩:=r;rfl
 |ref _=>cases r;rfl
 |ty _=>cases r;rfl
theorem RelV.inj{x:V}(r:RelV x u)(q:RelV y u):x=y:=OS<|r.abs.symm.trans q.abs
theorem Vals.inj:∀{xs ys:List V} {us:List OK},Vals xs us->Vals ys us->xs=ys
 |_,_,_,.nil,.nil=>rfl
 |_,_,_,.cons r t,.cons r' t'=>by rw[r.inj r',Vals.inj t t']
section
variable {xs ys:List V}
theorem aB.of(h:H a=some (.lst xs)):aB K H a xs:=.inl<|.inl h
theorem bG.of(h:H a=some (.tup xs)):bG K H a xs:=.inl<|.inl h
theorem Inv.list(I:Inv X pins σ H s)(h:aB X.K H a xs):∃its:List OK,Vals xs its/\PlainL s.heap a its.toArray/\xs.length<=sizeLine:=by
 rcases h with h|⟨o,its,n,O,hc,J,U,Z,r⟩
 .obtain ⟨z,its,n,r,e⟩:=h.ok I.Uy;exact⟨its,r,⟨_,n,e,rfl,rfl,rfl⟩,z⟩
 .refine ⟨its.toList,r,⟨o,n,I.UB a o O,hc,J,by simpa using U⟩,?_⟩;have e:=r.length;simp only[Af] at e;lia
theorem Inv.tuple(I:Inv X pins σ H s)(h:bG X.K H a xs):∃its:List OK,Vals xs its/\IsTup s.heap a its.toArray/\xs.length<=sizeLine:=by
 rcases h with h|⟨o,its,n,J,hc,O,U,r⟩
 .obtain ⟨z,its,r,p⟩:=h.ok I.Uy;exact⟨its,r,p,z⟩
 .refine ⟨its.toList,r,⟨o,I.UB a o J,hc,n,by simpa using O⟩,?_⟩;have e:=r.length;simp only[Af] at e;lia
theorem Inv.UW(I:Inv X pins σ H s)(h:aB X.K H a xs)(h':aB X.K H a ys):xs=ys:=by
 obtain⟨its,r,⟨o,n,e,_,_,d⟩,_⟩:=I.list h;obtain⟨its',r',⟨o',J,z,_,_,d'⟩,_⟩:=I.list h';rw[e] at z;cases z;rw[d] at d';injection d' with d1 _
 have:its=its':=by simpa using congrArg Array.toList d1
 subst this;exact r.inj r'
end
noncomputable abbrev Cx.UL(X:Cx)(E:OK->ON->Prop):Cx:={ X with xe:=E }
noncomputable abbrev Cx.Wn(X:Cx):Cx:=X.UL λ_ _=>False
theorem Cx.Ok.UL(ok:X.Ok)(E:OK->ON->Prop):(X.UL E).Ok:=
 ⟨ok.mod,ok.kind,ok.glob,ok.blt,ok.above,ok.inj,ok.has,ok.Ww,ok.hd,ok.qt,ok.frames,ok.WK,ok.Xa,ok.bs,ok.VU,ok.VE,ok.VM,ok.US,ok.Wg⟩
theorem Cx.Ok.UD(ok:(X.UL E).Ok):X.Ok:=
 ⟨ok.mod,ok.kind,ok.glob,ok.blt,ok.above,ok.inj,ok.has,ok.Ww,ok.hd,ok.qt,ok.frames,ok.WK,ok.Xa,ok.bs,ok.VU,ok.VE,ok.VM,ok.US,ok.Wg⟩
section
theorem Inv.UL(I:Inv X pins σ H s)(E:OK->ON->Prop):Inv (X.UL E) pins σ H s:=⟨I.ok.UL E,I.os,I.bare,I.base,I.loc,I.cell,I.free,I.Uz,I.pin,I.Uy,I.len⟩
theorem Inv.UD(I:Inv (X.UL E) pins σ H s):Inv X pins σ H s:=⟨I.ok.UD,I.os,I.bare,I.base,I.loc,I.cell,I.free,I.Uz,I.pin,I.Uy,I.len⟩
theorem SP.UD{D:Ends}{f:Flow}{s':ON}(h:SP (X.UL E) pins D f s'):SP X pins D f s':=by
 cases f with
 |next=>obtain⟨z,H',I,q⟩:=h;exact⟨z,H',I.UD,q⟩
 |brk=>obtain⟨z,H',I,q⟩:=h;exact⟨z,H',I.UD,q⟩
 |cont=>obtain⟨z,H',I,q⟩:=h;exact⟨z,H',I.UD,q⟩
 |ret u=>obtain⟨v,z,H',I,r,q⟩:=h;exact⟨v,z,H',I.UD,r,q⟩
theorem mP.Wn{st:List Pu}{t:TS}(h:mP X.Wn st t):mP X st t:=λpins s σ H D I hw=>
 Pj (h pins s σ H D (I.UL _) hw) (λ_ _ q=>q.UD) λ_ _ z=>Pl z
end
section
variable {st:Pu}{rest:List Pu}{t u:TS}
def JG:TS:=λD σ H=>D.nx σ H
def FQ(t u:TS):TS:=λD σ H=>t { D with nx:=u D } σ H
theorem Kw:mP X [] JG:=λ_ _ σ H _ I h=>RF ⟨σ,H,I,h⟩
theorem aM(h1:PS X st t)(h2:mP X rest u):mP X (st::rest)<|FQ t u:=by
 intro pins s σ H D I h;refine wpAny_execs_cons<|thn (h1 pins s σ H { D with nx:=u D } I h) λf s1 q=>?_;cases f with
 |next=>
  obtain⟨z,H',J,q⟩:=q;exact h2 pins s1 z H' D J q
 |ret v=>exact q
 |brk=>exact q
 |cont=>exact q
theorem cD(h1:PS X st t):mP X [st] t:=by
 intro pins s σ H D I h;refine wpAny_execs_cons<|thn (h1 pins s σ H D I h) λf s1 q=>?_;cases f with
 |next=>exact RF q
 |ret v=>exact q
 |brk=>exact q
 |cont=>exact q
def xS:TS:=λD σ H=>D.bk σ H
theorem AF:PS X (.Pass pos) JG:=λ_ _ σ H _ I h=>wpAny_Pass ⟨σ,H,I,h⟩
theorem Inv.quiet(I:Inv X pins σ H s):interactive X.env=false:=by simp[interactive,I.ok.kind]
def B6(te:TE):TS:=λD σ H=>te σ H λ_ H1=>D.nx σ H1
theorem Hd(z:PE X e te)(U:RM e none pos.line X.env=pure false:=by rfl):PS X (.Expr e pos)<|B6 te:=by
 intro pins s σ H D I h;refine wpAny_Expr_any (thn (z pins s σ H _ I h) λv s1 Z=>?_) I.quiet U;obtain⟨x,H1,J,r1,O⟩:=Z;exact⟨σ,H1,J,O⟩
def FU(te:TE):TS:=λD σ H=>te σ H D.rt
theorem jJ(z:PE X e te):PS X (.Return (some e) pos)<|FU te:=by
 intro pins s σ H D I h;refine wpAny_Return_some<|thn (z pins s σ H _ I h) λv s1 Z=>?_;obtain⟨x,H1,J,O,U⟩:=Z;exact⟨x,σ,H1,J,O,U⟩
def FT:TS:=λD _ H=>D.rt .Ux H
def F8(c:TT)(t u:TS):TS:=λD σ H=>c σ H λb H1=>if b=true then t D σ H1 else u D σ H1
theorem oM{a b:List Pu}(hc:PT X c tc)(ha:mP X a t)(U:mP X b u):PS X (.If c a b pos)<|F8 tc t u:=by
 intro pins s σ H D I h;refine wpAny_If<|thn (hc pins s σ H _ I h) λd s1 O=>?_;obtain⟨H1,z,J⟩:=O;cases d with
 |true=>exact ha pins s1 σ H1 D z J
 |false=>exact U pins s1 σ H1 D z J
def xM:TS:=λ_ _ _=>False
theorem Li:PS X st xM:=λ_ _ _ _ _ _ h=>h.elim
end
noncomputable abbrev TG:=V->St->Hp->(St->Hp->Prop)->Prop
variable {g:TG}
noncomputable abbrev zH:=List V->St->Hp->(St->Hp->Prop)->Prop
def PG(X:Cx)(target:PM)(t:TG):Prop:=
 ∀(pins:List<|OL×Qc) (s:ON) (σ:St) (H:Hp) (v:V) (u:OK) (Q:St->Hp->Prop),Inv X pins σ H s->RelV v u->t v σ H Q->
  OR (OV X.prog X.w) X.A (assign target X.env u) (λ_ s'=>L2.X2 λσ' H'=>Inv X pins σ' H' s'/\Q σ' H') X.xe s
def C5(X:Cx)(ts:List PM)(t:zH):Prop:=
 ∀(pins:List<|OL×Qc) (s:ON) (σ:St) (H:Hp) (vs:List V) (us:List OK) (Q:St->Hp->Prop),Inv X pins σ H s->Vals vs us->t vs σ H Q->
  OR (OV X.prog X.w) X.A (assignInOrder ((Qn ts X.env).map (·.2)) us) (λ_ s'=>L2.X2 λσ' H'=>Inv X pins σ' H' s'/\Q σ' H') X.xe s
noncomputable abbrev E2:=V->V->V->Hp->(Hp->Prop)->Prop
def Hv(X:Cx)(t:E2):Prop:=
 ∀(pins:List<|OL×Qc) (s:ON) (σ:St) (H:Hp) (o i v:V) (ov iv u:OK) (Q:Hp->Prop),Inv X pins σ H s->RelV o ov->RelV i iv->RelV v u->t o i v H Q->
  OR (OV X.prog X.w) X.A (setItem ov iv u) (λ_ s'=>∃H',Inv X pins σ H' s'/\Q H') X.xe s
noncomputable abbrev Ht:=V->V->Hp->VK->Prop
def Jf(X:Cx)(op:TN)(t:Ht):Prop:=
 ∀(pins:List<|OL×Qc) (s:ON) (σ:St) (H:Hp) (x y:V) (v u:OK) (Q:VK),Inv X pins σ H s->RelV x v->RelV y u->t x y H Q->
  OR (OV X.prog X.w) X.A (inplaceOp op v u) (EP X pins σ Q) X.xe s
section
def wO(i:Nat):TG:=λv σ H Q=>Q (σ.set i<|some v) H
theorem rA(z:X.N.Nodup)(hi:X.N[i]?=some x)(hx:Loc X.env.scope x)(O:X.fn x=true∨X.env.scope.names.lookup x=some .local:=by first|exact .inl rfl|exact .inr rfl|assumption):PG X (.Name x pos)<|wO i:=by
 intro pins s σ H v u Q I r h;exact wpAny_assign_Name<|IP I z hi hx r (λs' J=>⟨_,H,J,h⟩) O
def Eu:zH:=λvs σ H Q=>vs=[]/\Q σ H
def Ju(t:TG)(u:zH):zH:=λvs σ H Q=>L2.X2 λv r=>vs=v::r/\t v σ H λσ' H'=>u r σ' H' Q
theorem Hb:C5 X [] Eu:=by
 intro pins s σ H vs us Q I r h;obtain⟨e,h⟩:=h;subst e;cases r;exact assignInOrder_nil ⟨σ,H,I,h⟩
theorem w6{es:List PM}{t:TG}{u:zH}(h1:PG X e t)(h2:C5 X es u)
  (U:(Qn (e::es) X.env).map (·.2)=assign e X.env::(Qn es X.env).map (·.2):=by rfl):C5 X (e::es)<|Ju t u:=by
 intro pins s σ H vs us Q I r h;obtain⟨v,vr,Z,h⟩:=h;subst Z;cases r with
 |cons r rr=>
  rw[U];refine assignInOrder_cons<|thn (h1 pins s σ H _ _ _ I r h) λ_ s1 O=>?_;obtain⟨z,H1,J,q1⟩:=O;exact h2 pins s1 z H1 _ _ Q J rr q1
theorem Inv.WA(I:Inv X pins σ H s):Qt X.A s.heap:=λv e=>by
 obtain⟨a,o,vs,h1,h2,h3,z⟩:=I.ok.qt v e;exact⟨a,o,vs,h1,(I.pin (a,o)<|kW _ h2).1,h3,z⟩
def Bk(K:W.Frag)(n:Nat)(t:zH):TG:=λv σ H Q=>L2.X2 λa xs=>v=.ref a/\bG K H a xs/\xs.length=n/\t xs σ H Q
theorem JY{es:List PM}{t:zH}{n:Nat}(hc:X.calm=X.calm)(h:C5 X es t)
  (hn:(Qn es X.env).length=n:=by rfl) (z:(Qn es X.env).findIdx? (·.1)=none:=by rfl):PG X (.Tuple es k pos)<|Bk X.K n t:=by
 intro pins s σ H v u Q I r hw;obtain⟨a,xs,U,Z,hl,hw⟩:=hw;subst U;cases r;obtain⟨its,rv,O,hz⟩:=I.tuple Z;refine mL I.WA O (by simp[hn,<- hl,rv.length]) z λh' hx=>?_;have J:Inv X pins σ H { s with heap:=h' }:=I.kept (t':=s.toks) λb o e=>hx b o (fK<|OQ e) e;exact h pins _ σ H xs _ Q J (by simpa using rv) hw
def GK(to ti:TE)(t:E2):TG:=λv σ H Q=>to σ H λo H1=>ti σ H1 λi H2=>t o i v H2 λH3=>Q σ H3
theorem DZ{o i:PM}{to ti:TE}{t:E2}(ho:PE X o to)(hi:PE X i ti)(hs:Hv X t)
  (ha:∀v,assign (.Subscript o i pos) X.env v=(do
   let z <- holding [v] (eval o X.env)
   let O <- holding [v,z] (eval i X.env)
   R1 pos
   holding [v,z,O] (setItem z O v)
   release [v,z,O] []):=by intro _;rfl):PG X (.Subscript o i pos)<|GK to ti t:=by
 intro pins s σ H v u Q I r h;rw[ha];refine OJ<|Pt<|thn (ho pins s σ H _ I h) λz s1 J=>?_;obtain⟨x,H1,I1,r1,q1⟩:=J;refine OJ<|Pt<|thn (hi pins s1 σ H1 _ I1 q1) λO s2 J=>?_;obtain⟨y,H2,U,Z,q2⟩:=J;refine OJ<|Rm<|OJ<|Pt<|thn (hs pins s2 σ H2 x y v z O u _ U r1 Z r q2) λ_ s3 J=>?_;obtain⟨H3,I3,q3⟩:=J;exact wpAny_release ⟨σ,H3,I3,q3⟩
def vC(te:TE)(g:TG):TS:=λD σ H=>te σ H λx H1=>g x σ H1 D.nx
theorem DU(U:PE X e te)(hg:PG X tg g)(O:swapsWithSole [tg] e pos.line X.env=pure false:=by rfl)(hw:swappedStores [tg] e X.env=pure none:=by rfl)
  (h1:(Qn [tg] X.env).map (·.2)=[assign tg X.env]:=by rfl):PS X (.Assign [tg] e pos)<|vC te g:=by
 intro pins s σ H D I h;refine wpAny_Assign_stores (thn (U pins s σ H _ I h) λv s1 J=>?_) O hw;obtain⟨x,H1,z,r1,Z⟩:=J;rw[h1];exact thn (hg pins s1 σ H1 x v _ z r1 Z) λ_ s2 q=>q
theorem mM(hN:X.N.Nodup)(hi:X.N[i]?=some x)(hx:Loc X.env.scope x)(he:PE X e te)(Z:RM e (some<|.Name x pos') pos.line X.env=pure false:=by rfl)(U:X.fn x=true∨X.env.scope.names.lookup x=some .local:=by first|exact .inl rfl|exact .inr rfl|assumption):
  PS X (.Assign [.Name x pos'] e pos)<|vC te<|wO i:=by
 intro pins s σ H D I h;refine wpAny_Assign_Name (thn (he pins s σ H _ I h) λv s1 O=>?_) Z;obtain⟨y,H1,J,r1,q1⟩:=O;exact IP J hN hi hx r1 (λs2 z=>⟨_,H1,z,q1⟩) U
def FV(i j:Nat)(ta:TA):TS:=λD σ H=>ta σ H λvs H1=>L2.X2 λv w=>vs=[v,w]/\D.nx ((σ.set i<|some v).set j<|some w) H1
def DG(i:Nat)(te:TE)(ti:Ht):TS:=λD σ H=>HP (λx=>te σ H λy H1=>ti x y H1 λz H2=>D.nx (σ.set i<|some z) H2) σ i
theorem yl{op:TN}{ti:Ht}(hN:X.N.Nodup)(hi:X.N[i]?=some x)(hx:Loc X.env.scope x)(he:PE X e te)(ho:Jf X op ti)(hf:X.fn x=true∨X.env.scope.names.lookup x=some .local:=by first|exact .inl rfl|exact .inr rfl|assumption):
  PS X (.AugAssign (.Name x pos') op e pos)<|DG i te ti:=by
 intro pins s σ H D I h;obtain⟨v,e1,h⟩:=zA h;obtain⟨m,hn,hl⟩:=I.loc;have aa:Hs X.env.scope x:=by rcases hx with k|k;exact .inl k;exact .inr<|.inl k
 obtain⟨u,r,l⟩:=hl i x v hi e1 aa;refine wpAny_AugAssign_Name ?_;have go:OR (OV X.prog X.w) X.A (eval e X.env) (λw s₂=>OR (OV X.prog X.w) X.A (inplaceOp op u w) (λr U=>OR (OV X.prog X.w) X.A (storeName X.env x r) (λ_=>SP X pins D .next) X.xe U) X.xe s₂) X.xe s:=by
  refine thn (he pins s σ H _ I h) λw s1 Z=>?_;obtain⟨y,H1,I1,r1,q1⟩:=Z;refine thn (ho pins s1 σ H1 v y u w _ I1 r r1 q1) λz s2 Z=>?_;obtain⟨zv,H2,I2,r2,q2⟩:=Z;exact IP I2 hN hi hx r2 (λs3 I3=>⟨_,H2,I3,q2⟩) hf
 rcases l with ⟨J,hm⟩|⟨J,c,hc,O⟩
 .exact wpAny_loadName_local I.ok.kind J hn hm go
 .rcases J with J|J
  .exact wpAny_loadName_cell I.ok.kind J hc O go
  .rcases hx with k|k
   .have:X.env.scope.names.lookup x=some .free:=J;rw[k] at this;cases this
   .have:X.env.scope.names.lookup x=some .free:=J;rw[k] at this;cases this
def Jm(f:Int->Int->Int):Ht:=λx y H Q=>vN x λi=>vN y λj=>Q (.int<|f i j) H
theorem JO:Jf X .Add<|Jm λi j=>i+j:=by
 intro pins s σ H x y v u Q I O z h;obtain⟨i,j,J,e2,q⟩:=yx h;subst J;subst e2;obtain⟨t,rfl⟩:=O;obtain⟨t',rfl⟩:=z;exact iadd_int ⟨.int _,H,I.tok _,⟨_,rfl⟩,q⟩
theorem Em:Jf X .Sub<|Jm λi j=>i-j:=by
 intro pins s σ H x y v u Q I O z h;obtain⟨i,j,J,e2,q⟩:=yx h;subst J;subst e2;obtain⟨t,rfl⟩:=O;obtain⟨t',rfl⟩:=z;exact isub_int ⟨.int _,H,I.tok _,⟨_,rfl⟩,q⟩
end
section
def xx(c:TT)(tb:TS):TS:=λD σ H=>∃W:Nat->St->Hp->Prop,(∃m,W m σ H)/\∀m σ H,W m σ H->
 c σ H λb H1=>if b=true then ∃N:St->Hp->Prop,(∀σ' H',N σ' H'->∃m',m'<m/\W m' σ' H')/\tb { D with nx:=N,ct:=N,bk:=D.nx } σ H1 else D.nx σ H1
theorem Hj(hp:PassesOwn (OV X.prog X.w) X.A X.env X.xe)(hc:PT X c tc)(hb:mP X body tb):PS X (.While c body [] pos)<|xx tc tb:=by
 intro pins s σ H D I h;obtain⟨W,⟨m0,w0⟩,turn⟩:=h;refine wpAny_While<|codeAny_whileLoop (λn s'=>L2.X2 λO H'=>Inv X pins O H' s'/\W n O H') ?_ m0 ⟨σ,H,I,w0⟩;rintro n s1 ⟨J,H1,I1,w1⟩;refine QE hp<|thn (hc pins s1 J H1 _ I1<|turn n J H1 w1) λb s2 zz=>?_;obtain⟨H2,I2,Z⟩:=zz;cases b with
 |true=>
  obtain⟨N,hN,Z⟩:=Z;rw[Z9 rfl];refine QE hp<|thn (hb pins s2 J H2 _ I2 Z) λf s3 U=>?_;cases f with
  |next=>
   obtain⟨z,H3,I3,n3⟩:=U;obtain⟨m',hm,w3⟩:=hN z H3 n3;exact⟨m',hm,z,H3,I3,w3⟩
  |cont=>
   obtain⟨z,H3,I3,n3⟩:=U;obtain⟨m',hm,w3⟩:=hN z H3 n3;exact⟨m',hm,z,H3,I3,w3⟩
  |brk=>exact U
  |ret v=>exact U
 |false=>
  rw[Z8 kG];exact RF ⟨J,H2,I2,Z⟩
end
structure It where
 go:Nat->Hp->Prop
 VI:Nat->Hp->V->Hp->Prop
 stop:Nat->Hp->Prop
def mQ(X:Cx)(pins:List<|OL×Qc)(H:Hp)(b:OL):Prop:=
 H b=none/\b≠X.env.locals/\b∉X.fs/\(b∈X.ex∨X.s₀.heap.objs.size<=b)/\(∀x c,X.env.cells.lookup x=some c->c≠b)/\∀p∈X.pn++pins,p.1≠b
theorem Inv.Wh{H':Hp}(I:Inv X pins σ H s)(J:s.heap.objs.size<=b)(hn:H' b=none):mQ X pins H' b:=by
 refine⟨hn,BZ<|mR I.lt J,I.WM J,.inr<|cX I.sz J,λx c e z=>?_,λp O z=>?_⟩
 .obtain ⟨v,q⟩:=I.cell x c e;exact absurd (mR q.lt<|by rw[z];exact J)<|vo _
 .exact absurd (mR (OQ (I.pin p O).1)<|by rw[z];exact J) (vo _)
structure rE(cm:Bool)(P:OZ)(w:Pp)(K:W.Frag)(tg:PM)(J:It)(fp:List OL)(it:OL)(tn:Nat->Ph->Prop):Prop where
 mem:it∈fp
 obj:∀i h,tn i h->∀b∈fp,∃o,h.get? b=some o/\∀v,o.data≠.cell v
 keep:∀i h h',tn i h->(∀b∈fp,∀o,h.get? b=some o->h'.get? b=some o)->tn i h'
 item:∀(X:Cx),X.prog=P->X.w=w->X.K=K->X.calm=cm->∀(i:Nat) (pins:List<|OL×Qc) (s:ON) (σ:St) (H:Hp) (E:OK->ON->Prop),Inv X pins σ H s->(∀b∈fp,mQ X pins H b)->tn i s.heap->J.go i H->
  OR (OV P w) X.A (Sx<|.ref it) (λr s1=>∃u,r=some u/\ OR (OV P w) X.A (QV tg (.ref it) u) (λ_ s2=>L2.X2 λx H'=>Inv X pins σ H' s2/\RelV x u/\J.VI i H x H'/\tn (i+1) s2.heap/\∀b∈fp,H' b=none) E s1) E s
 done:∀(X:Cx),X.prog=P->X.w=w->X.K=K->X.calm=cm->∀(i:Nat) (pins:List<|OL×Qc) (s:ON) (σ:St) (H:Hp) (E:OK->ON->Prop),Inv X pins σ H s->(∀b∈fp,mQ X pins H b)->tn i s.heap->J.stop i H->
  OR (OV P w) X.A (Sx<|.ref it) (λr s1=>r=none/\Inv X pins σ H s1) E s
 self:∀(A:Pb) (i:Nat) (s:ON) (Q:OK->ON->Prop) (E:OK->ON->Prop),tn i s.heap->Q (.ref it) s->OR (OV P w) A (pyIter<|.ref it) Q E s
noncomputable abbrev Turn:=rE true
theorem rE.at{J:It}{tn:Nat->Ph->Prop}(T:Turn P w K tg J fp it tn){b:Bool}(h:b=true):rE b P w K tg J fp it tn:=by
 subst h;exact T
noncomputable abbrev TI:=St->Hp->(It->Hp->Prop)->Prop
def ME(X:Cx)(pins:List<|OL×Qc)(σ:St)(tg:PM)(R:It->Hp->Prop)(itv:OK)(s2:ON):Prop:=
 ∃(it:OL) (fp:List OL) (tn:Nat->Ph->Prop) (J:It) (H':Hp),itv=.ref it/\Inv X pins σ H' s2/\rE X.calm X.prog X.w X.K tg J fp it tn/\tn 0 s2.heap/\(∀b∈fp,mQ X pins H' b)/\R J H'
def PI(X:Cx)(tg iter:PM)(wi:TI):Prop:=
 ∀(pins:List<|OL×Qc) (s:ON) (σ:St) (H:Hp) (R:It->Hp->Prop),Inv X pins σ H s->wi σ H R->
  OR (OV X.prog X.w) X.A (eval iter X.env) (λv s1=>OR (OV X.prog X.w) X.A (pyIter v) (ME X pins σ tg R) X.xe s1) X.xe s
theorem Jv{M:Tt}{A:Pb}{o:Qc}{n:String}{vs:Array OK}{Q:Unit->ON->Prop}(O:s.heap.get? it=some o)(hc:o.cls=.type n)(J:o.data=.fields vs)
  (hn:["enumerate","zip","dict_itemiterator","dict_reverseitemiterator","odict_iterator","itertools.zip_longest","itertools.pairwise"].contains n=false) (z:Q () s):OR M A (QV tg (.ref it) u) Q E s:=by
 unfold QV;cases tg<;>first
  |exact OO z
  |(cases u<;>first
    |exact OO z
    |(refine OJ (Tx O ?_);rw[hc,J];show OR M A (if (["enumerate","zip","dict_itemiterator","dict_reverseitemiterator","odict_iterator","itertools.zip_longest","itertools.pairwise"].contains n&&vs[0]?==some (RS _))=true then _ else _) Q E s;rw[Z8<|by intro h;rw[hn,TZ] at h;cases h];exact OO z))
noncomputable def vf(K:W.Frag)(a:OL):It:=
 ⟨λi H=>L2.X2 λxs x=>aB K H a xs/\xs[i]?=some x,λi H x H'=>H'=H/\∀xs,aB K H a xs->xs[i]?=some x,λi H=>∃xs,aB K H a xs/\xs.length<=i⟩
noncomputable def rL(lo:Int)(n:Nat):It:=⟨λi _=>i<n,λi H x H'=>H'=H/\x=.int (lo+i),λi _=>n<=i⟩
theorem vt{cm:Bool}(a it:OL):rE cm P w K tg (vf K a) [it] it (λi h=>h.IsListIter it a i) where
 mem:=by simp
 obj:=λi h st b J=>by
  have e:b=it:=by simpa using J
  subst e;obtain⟨o,e,c,d⟩:=st;exact⟨o,e,λv z=>by rw[d] at z;cases z⟩
 keep:=λi h h' st k=>st.at λo e=>k it (by simp) o e
 item:=by
  intro X hP hw hK hc i pins s σ H E I U st hg;subst hP hw hK;obtain⟨xs,x,Z,hx⟩:=hg;obtain⟨its,rv,p,hz⟩:=I.list Z;obtain⟨u,hu,ru⟩:=rv.get hx;obtain⟨f0,f1,f2,f3,f4,f5⟩:=U it (by simp);refine wpAny_pyNext_list_item st p.isList (x:=u) (by simpa using hu) λh' O sb=>?_;have I1:Inv X pins σ H { s with heap:=h' }:=I.turned (t':=s.toks) (λb o J e=>(sb.2 b J).trans e) f0 f1 f3 f4 f5;obtain⟨o,e,c,d⟩:=id O;exact⟨u,rfl,Jv (s:={ s with heap:=h' }) e c d (by decide) ⟨x,H,I1,ru,⟨rfl,λys hy=>by rw[I.UW hy Z];exact hx⟩,O,λb J=>(U b J).1⟩⟩
 done:=by
  intro X hP hw hK hc i pins s σ H E I U st hg;subst hP hw hK;obtain⟨xs,Z,hx⟩:=hg;obtain⟨its,rv,p,hz⟩:=I.list Z;obtain⟨f0,f1,f2,f3,f4,f5⟩:=U it (by simp);have hl:=rv.length;exact vS I.WA st p.isList (by simp;lia) λh' eb=>⟨rfl,I.turned (t':=s.toks) (λb o J e=>eb b o J e) f0 f1 f3 f4 f5⟩
 self:=λ_ _ _ _ _ st h=>wpAny_pyIter_listiter st h
theorem rO(it:OL)(lo:Int)(n:Nat):Turn P w K tg (rL lo n) [it] it (λi h=>Ua h it (lo+(i:Nat)*1) ((n:Int)-(i:Nat)) 1) where
 mem:=by simp
 obj:=λi h st b J=>by
  have e:b=it:=by simpa using J
  subst e;exact⟨_,st,λv z=>by
   have z':Data.fields _=Data.cell v:=z;cases z'⟩
 keep:=λi h h' st k=>k it (by simp) _ st
 item:=by
  intro X Z hw hK hc i pins s σ H E I U st hg;subst Z hw hK;obtain⟨f0,f1,f2,f3,f4,f5⟩:=U it (by simp);have W:=Walks.range (prog:=X.prog) (w:=X.w) (I.ok.hd hc) it lo 1 n;refine W.item i s _ _ hg st λv h' tk hv O kk=>?_;obtain⟨t,rfl⟩:=hv;have I1:Inv X pins σ H { s with heap:=h',toks:=tk }:=I.turned (λb o J e=>kk b o (by simpa using J) e) f0 f1 f3 f4 f5;refine⟨_,rfl,Jv (s:={ s with heap:=h',toks:=tk }) (n:="range_iterator") O rfl rfl (by decide) ⟨.int<|lo+i,H,I1,⟨t,?_⟩,⟨rfl,rfl⟩,O,λb J=>(U b J).1⟩⟩;rw[Int.mul_one]
 done:=by
  intro X Z hw hK hc i pins s σ H E I U st hg;subst Z hw hK;obtain⟨f0,f1,f2,f3,f4,f5⟩:=U it (by simp);exact wpAny_pyNext_range_end (I.ok.hd hc) st (by have:n<=i:=hg;lia) λh' eb=>⟨rfl,I.turned (t':=s.toks) (λb o J e=>eb b o J e) f0 f1 f3 f4 f5⟩
 self:=λ_ _ _ _ _ st h=>wpAny_pyIter_rangeiter st h
section
def HV(K:W.Frag)(tl:TE):TI:=λσ H R=>tl σ H λx H1=>∃a,x=.ref a/\(∃xs,aB K H1 a xs)/\R (vf K a) H1
theorem Hc{l:PM}{tl:TE}(hl:PE X l tl):PI X tg l<|HV X.K tl:=by
 intro pins s σ H R I h;refine thn (hl pins s σ H _ I h) λv s1 J=>?_;obtain⟨x,H1,z,Z,U⟩:=J;obtain⟨a,e,⟨xs,hq⟩,q⟩:=U;subst e;cases Z;obtain⟨its,rv,p,hz⟩:=z.list hq;refine RZ p.isList ?_;refine⟨s1.heap.objs.size,[s1.heap.objs.size],_,_,H1,rfl,z.kept (t':=s1.toks) λb o e=>OM _ e,vt a _,⟨_,OW _ rfl,rfl,rfl⟩,λb O=>?_,q⟩;have e:b=s1.heap.objs.size:=by simpa using O
 subst e;exact z.Wh (aK _)<|z.Uy.fresh<|aK _
theorem qm(hc:X.calm=true){R:It->Hp->Prop}{hi:Int}{t u v:Tok}{tk:Nat}(I:Inv X pins σ H s)(h1:-(2^62)<=lo)(h2:lo<2^62)(h3:-(2^62)<=hi)(J:hi<2^62)
  (q:R (rL lo (hi-lo).toNat) H):OR (OV X.prog X.w) X.A (pyIter<|.ref s.heap.objs.size) (ME X pins σ tg R) E { s with heap:=s.heap.push { cls:=.type "range",data:=.fields #[.int lo t,.int hi u,.int 1 v] },toks:=tk }:=by
 refine wpAny_pyIter_range (IsRange.new ..) (small_one h1 h2 h3 J) ?_;have z:Inv X pins σ H { s with heap:=s.heap.push { cls:=.type "range",data:=.fields #[.int lo t,.int hi u,.int 1 v] },toks:=tk }:=I.kept λb o e=>OM _ e;refine⟨(s.heap.push { cls:=.type "range",data:=.fields #[.int lo t,.int hi u,.int 1 v] }).objs.size,[(s.heap.push { cls:=.type "range",data:=.fields #[.int lo t,.int hi u,.int 1 v] }).objs.size],_,_,H,rfl,z.kept (t':=tk) λb o e=>OM _ e,(rO _ lo (hi-lo).toNat).at hc,?_,λb U=>?_,q⟩
 .have O:lo+((0:Nat):Int)*1=lo:=by simp
  have e2:(((hi-lo).toNat:Nat):Int)-((0:Nat):Int)=Pd lo hi 1:=by rw[rangeSize_one];split<;>lia
  show Ua _ _ (lo+((0:Nat):Int)*1) ((((hi-lo).toNat:Nat):Int)-((0:Nat):Int)) 1;rw[O,e2];exact OW _ rfl
 .have e:b=(s.heap.push { cls:=.type "range",data:=.fields #[.int lo t,.int hi u,.int 1 v] }).objs.size:=by simpa using U
  subst e;exact z.Wh (aK _)<|z.Uy.fresh<|aK _
def Jx(ta:TA):TI:=λσ H R=>ta σ H λvs H1=>∃j:Int,vs=[.int j]/\-(2^62)<=j/\j<2^62/\R (rL 0 j.toNat) H1
def Jy(ta:TA):TI:=λσ H R=>ta σ H λvs H1=>L2.X2 λi j:Int=>vs=[.int i,.int j]/\(-(2^62)<=i/\i<2^62/\-(2^62)<=j/\j<2^62)/\R (rL i (j-i).toNat) H1
theorem nH{a:PM}{p:Sq}(hg:Gl X "range")(hm:X.mg "range"=none)(ha:PA X [a] ta)(Z:OU [a] X.env=[(false,eval a X.env)]:=by rfl)(hc:X.calm=true:=by rfl):PI X tg (.Call (.Name "range" p) [a] [] pos)<|Jx ta:=by
 intro pins s σ H R I h;refine Call_<|CO I hg hm boot_range<|PZ (thn (ha pos pins s σ H _ I h) λus s1 O=>?_) Z rfl;obtain⟨vs,H1,J,r1,z⟩:=O;obtain⟨j,e,z,U,q⟩:=z;subst e;cases r1 with
 |cons r rr=>
  cases rr;obtain⟨t,rfl⟩:=r;exact call_range_1<|qm hc J (by lia) (by lia) z U<|by simpa using q
theorem vL{a b:PM}{p:Sq}(hg:Gl X "range")(hm:X.mg "range"=none)(ha:PA X [a,b] ta)(hs:OU [a,b] X.env=[(false,eval a X.env),(false,eval b X.env)]:=by rfl)(z:OU [b] X.env=[(false,eval b X.env)]:=by rfl)(hc:X.calm=true:=by rfl):
  PI X tg (.Call (.Name "range" p) [a,b] [] pos)<|Jy ta:=by
 intro pins s σ H R I h;refine Call_ (CO I hg hm boot_range<|PZ (thn (ha pos pins s σ H _ I h) λus s1 Z=>?_) (by rw[hs,z])<|by rw[z];rfl);obtain⟨vs,H1,O,r1,J⟩:=Z;obtain⟨i,j,e,⟨J,q2,U,q4⟩,q⟩:=J;subst e;cases r1 with
 |cons r rr=>
  cases rr with
  |cons r' rr=>
   cases rr;obtain⟨t,rfl⟩:=r;obtain⟨t',rfl⟩:=r';exact call_range_2<|qm hc O J q2 U q4 q
def vz(wi:TI)(g:TG)(tb:TS):TS:=λD σ H=>wi σ H λJ H1=>∃W:Nat->Nat->St->Hp->Prop,(∃m,W 0 m σ H1)/\∀i m σ H,W i m σ H->
 (J.stop i H/\D.nx σ H)∨(J.go i H/\∃N:St->Hp->Prop,(∀σ' H',N σ' H'->∃m',m'<m/\W (i+1) m' σ' H')/\∀x H',J.VI i H x H'->g x σ H' λσ2 H2=>tb { D with nx:=N,ct:=N,bk:=D.nx } σ2 H2)
noncomputable def G6(fp:List OL)(h:Ph):List<|OL×Qc:=fp.filterMap λb=>(h.get? b).map λo=>(b,o)
theorem IY{h:Ph}{o:Qc}(z:b∈fp)(e:h.get? b=some o):(b,o)∈G6 fp h:=Fj.mpr ⟨b,z,by rw[e];rfl⟩
theorem vO{h:Ph}{p:OL×Qc}(J:p∈G6 fp h):p.1∈fp/\h.get? p.1=some p.2:=by
 obtain⟨b,z,e⟩:=Fj.mp J;cases q:h.get? b with
 |none=>rw[q] at e;cases e
 |some o=>
  rw[q] at e;have O:(b,o)=p:=OS e;subst O;exact⟨z,q⟩
theorem Inv.pinned(I:Inv X pins σ H s)(Z:∀b∈fp,mQ X pins H b)(ho:∀b∈fp,∃o,s.heap.get? b=some o/\∀v,o.data≠.cell v):Inv X (pins++G6 fp s.heap) σ H s:=
 I.UU λp hp=>(gN.mp hp).elim (λz=>I.pin p<|gM _ z) λz=>by
  obtain⟨O,e⟩:=vO z;obtain⟨f0,f1,U,_⟩:=Z p.1 O;obtain⟨o,J,d⟩:=ho p.1 O;rw[e] at J;cases J;exact⟨e,f0,f1,U,d⟩
theorem Inv.UG{pl:List<|OL×Qc}(I:Inv X (pins++pl) σ H s):Inv X pins σ H s:=I.UU λp z=>I.pin p<|gM _<|kW _ z
theorem zU{iter:PM}{wi:TI}(hp:PassesOwn (OV X.prog X.w) X.A X.env X.xe)(hc:X.calm=X.calm)(hi:PI X tg iter wi)(hg:PG X tg g)(U:mP X body tb)
  (hs:∀x,QG iter X.env x=pure x:=by intro _;rfl):PS X (.For tg iter body [] pos)<|vz wi g tb:=by
 intro pins s σ H D I h;refine wpAny_For (thn (hi pins s σ H _ I h) λv s1 h1=>thn h1 λaj s2 h2=>?_) hs;obtain⟨it,fp,tn,J,H2,e,I2,T,ai,f2,W,⟨m0,w0⟩,turn⟩:=h2;subst e;have ac:∀{H':Hp},(∀b∈fp,H' b=none)->∀b∈fp,mQ X pins H' b:=λhn b U=>⟨hn b U,(f2 b U).2⟩
 refine codeAny_forLoop_any (λn s'=>L2.X3 λi O H'=>Inv X pins O H' s'/\tn i s'.heap/\(∀b∈fp,H' b=none)/\W i n O H') ?_ m0 ⟨0,σ,H2,I2,ai,λb U=>(f2 b U).1,w0⟩;rintro n s3 ⟨i,Z,H3,I3,ae,VL,w3⟩;rcases turn i n Z H3 w3 with ⟨stop,qn⟩|⟨go,N,hN,step⟩
 .refine QE hp (thn (T.done X rfl rfl rfl hc i pins s3 Z H3 X.xe I3 (ac VL) ae stop) λr s4 zz=>?_);obtain⟨hr,I4⟩:=zz;subst hr;exact RF ⟨Z,H3,I4,qn⟩
 .refine QE hp (thn (T.item X rfl rfl rfl hc i pins s3 Z H3 X.xe I3 (ac VL) ae go) λr s4 zz=>?_);obtain⟨u,hr,h4⟩:=zz;subst hr;refine QE hp<|thn h4 λ_ s5 zz=>?_;obtain⟨x,H5,I5,r5,y5,ad,ag⟩:=zz;have af:=I5.pinned (ac ag)<|T.obj _ _ ad;refine QE hp<|thn (hg _ s5 Z H5 x u _ af r5<|step x H5 y5) λ_ s6 zz=>?_;obtain⟨ah,H6,I6,q6⟩:=zz;refine QE hp<|thn (U _ s6 ah H6 _ I6 q6) λf s7 q7=>?_;have aa:∀{z:St} {H7:Hp},Inv X (pins++G6 fp s5.heap) z H7 s7->N z H7->∃m,m<n/\L2.X3 λi O H'=>Inv X pins O H' s7/\tn i s7.heap/\(∀b∈fp,H' b=none)/\W i m O H':=fun {z H7} I7 n7=>by
   obtain⟨m',hm,w7⟩:=hN z H7 n7;refine⟨m',hm,i+1,z,H7,I7.UG,T.keep _ _ _ ad λb U o e=>(I7.pin (b,o)<|gM _<|gM _<|IY U e).1,λb U=>?_,w7⟩;obtain⟨o,e,d⟩:=T.obj _ _ ad b U;exact(I7.pin (b,o)<|gM _<|gM _<|IY U e).2.1
  cases f with
  |next=>obtain⟨z,H7,I7,n7⟩:=q7;exact aa I7 n7
  |cont=>obtain⟨z,H7,I7,n7⟩:=q7;exact aa I7 n7
  |brk=>obtain⟨z,H7,I7,q7⟩:=q7;exact⟨z,H7,I7.UG,q7⟩
  |ret v=>obtain⟨x7,z,H7,I7,r7,q7⟩:=q7;exact⟨x7,z,H7,I7.UG,r7,q7⟩
end
theorem y0{xs:List V}{D:Ends}(z:Nat->St->Hp->Prop)(h0:z 0 σ H)(hl:∀i σ H,i<=xs.length->z i σ H->aB K H a xs)
  (Z:∀i x σ H,xs[i]?=some x->z i σ H->g x σ H λO H2=>tb { D with nx:=z<|i+1,ct:=z<|i+1,bk:=D.nx } O H2) (hd:∀σ H,z xs.length σ H->D.nx σ H):
  ∃W:Nat->Nat->St->Hp->Prop,(∃m,W 0 m σ H)/\∀i m σ H,W i m σ H->
   ((vf K a).stop i H/\D.nx σ H)∨((vf K a).go i H/\∃N:St->Hp->Prop,(∀J H',N J H'->∃U,U<m/\W (i+1) U J H')/\∀x H',(vf K a).VI i H x H'->g x σ H' λO H2=>tb { D with nx:=N,ct:=N,bk:=D.nx } O H2):=by
 refine⟨λi m σ H=>m=xs.length-i/\i<=xs.length/\z i σ H,⟨xs.length,by simp,cE _,h0⟩,?_⟩;rintro i m σ H ⟨rfl,hi,p⟩;have q:=hl i σ H hi p;by_cases UA:i<xs.length
 .refine .inr ⟨⟨xs,xs[i],q,by simp[UA]⟩,z<|i+1,λJ H' p'=>⟨xs.length-(i+1),by lia,rfl,UA,p'⟩,λx H' y=>?_⟩;obtain⟨e,y⟩:=y;subst e;exact Z i x σ _ (y xs q) p
 .have e:i=xs.length:=by lia
  subst e;exact .inl ⟨⟨xs,q,aK _⟩,hd σ H p⟩
theorem v9{n:Nat}{D:Ends}(O:Nat->St->Hp->Prop)(h0:O 0 σ H)
  (Z:∀i σ H,i<n->O i σ H->g (.int<|lo+i) σ H λJ H2=>tb { D with nx:=O<|i+1,ct:=O<|i+1,bk:=D.nx } J H2) (hd:∀σ H,O n σ H->D.nx σ H):
  ∃W:Nat->Nat->St->Hp->Prop,(∃m,W 0 m σ H)/\∀i m σ H,W i m σ H->
   ((rL lo n).stop i H/\D.nx σ H)∨((rL lo n).go i H/\∃N:St->Hp->Prop,(∀z H',N z H'->∃U,U<m/\W (i+1) U z H')/\∀x H',(rL lo n).VI i H x H'->g x σ H' λJ H2=>tb { D with nx:=N,ct:=N,bk:=D.nx } J H2):=by
 refine⟨λi m σ H=>m=n-i/\i<=n/\O i σ H,⟨n,by simp,cE _,h0⟩,?_⟩;rintro i m σ H ⟨rfl,hi,p⟩;by_cases UA:i<n
 .refine .inr ⟨UA,O<|i+1,λz H' p'=>⟨n-(i+1),by lia,rfl,UA,p'⟩,λx H' y=>?_⟩;obtain⟨e,y⟩:=y;subst e y;exact Z i σ _ UA p
 .have e:i=n:=by lia
  subst e;exact .inl ⟨aK _,hd σ H p⟩
noncomputable abbrev R2:=V->V->Hp->VK->Prop
variable {r:R2}
def iW(X:Cx)(f:OK->OK->TF OK)(r:R2):Prop:=
 ∀(pins:List<|OL×Qc) (s:ON) (σ:St) (H:Hp) (x y:V) (v u:OK) (Q:VK),Inv X pins σ H s->RelV x v->RelV y u->r x y H Q->
  OR (OV X.prog X.w) X.A (f v u) (EP X pins σ Q) X.xe s
def MC(X:Cx)(f:OK->TF OK)(r:V->Hp->VK->Prop):Prop:=
 ∀(pins:List<|OL×Qc) (s:ON) (σ:St) (H:Hp) (x:V) (v:OK) (Q:VK),Inv X pins σ H s->RelV x v->r x H Q->
  OR (OV X.prog X.w) X.A (f v) (EP X pins σ Q) X.xe s
def jS(X:Cx)(f:OK)(r:List V->Hp->VK->Prop):Prop:=
 ∀(pins:List<|OL×Qc) (s:ON) (σ:St) (H:Hp) (xs:List V) (us:List OK) (Q:VK),Inv X pins σ H s->Vals xs us->r xs H Q->
  OR (OV X.prog X.w) X.A (call f us) (EP X pins σ Q) X.xe s
def FW(r:R2)(ta tb:TE):TE:=λσ H Q=>ta σ H λx H1=>tb σ H1 λy H2=>r x y H2 Q
def MK(r:V->Hp->VK->Prop)(ta:TE):TE:=λσ H Q=>ta σ H λx H1=>r x H1 Q
def rI(C:Int->Int->Prop)(g:Int->Int->V):R2:=λx y H Q=>vN x λi=>vN y λj=>C i j/\Q (g i j) H
def zN(g:Int->Int->V):R2:=λx y H Q=>vN x λi=>vN y λj=>Q (g i j) H
def rU(g:Int->V):V->Hp->VK->Prop:=λx H Q=>vN x λi=>Q (g i) H
section
variable {a b:PM}{ta tb tc:TE}
theorem EG(ha:PE X a ta)(hb:PE X b tb){R:V->V->Hp->Prop}(I:Inv X pins σ H s)
  (h:ta σ H λx H1=>tb σ H1 λy H2=>R x y H2) {f:OK->OK->TF OK}
  (Z:∀v u s2 x y H2,Inv X pins σ H2 s2->RelV x v->RelV y u->R x y H2->OR (OV X.prog X.w) X.A (f v u) Q X.xe s2):
  OR (OV X.prog X.w) X.A (eval a X.env) (λv s₁=>OR (OV X.prog X.w) X.A (eval b X.env) (λu s₂=>OR (OV X.prog X.w) X.A (f v u) Q X.xe s₂) X.xe s₁) X.xe s:=by
 refine thn (ha pins s σ H _ I h) λv s1 z=>?_;obtain⟨x,H1,U,r1,q1⟩:=z;refine thn (hb pins s1 σ H1 _ U q1) λu s2 z=>?_;obtain⟨y,H2,J,O,q2⟩:=z;exact Z v u s2 x y H2 J r1 O q2
theorem eY{op:TN}(O:iW X (RT op) r)(ha:PE X a ta)(U:PE X b tb):PE X (.BinOp a op b pos)<|FW r ta tb:=by
 intro pins s σ H Q I h;exact wpAny_BinOp<|EG ha U I h λv u s2 x y H2 z Z J q=>O pins s2 σ H2 x y v u Q z Z J q
theorem Gw{op:UnaryOp}{r:V->Hp->VK->Prop}(O:MC X (unaryOp op) r)(ha:PE X a ta):PE X (.UnaryOp op a pos)<|MK r ta:=by
 intro pins s σ H Q I h;refine UnaryOp_<|thn (ha pins s σ H _ I h) λv s1 J=>?_;obtain⟨x,H1,z,Z,U⟩:=J;exact O pins s1 σ H1 x v Q z Z U
theorem GB{f:OK->OK->TF OK}{C:Int->Int->Prop}{g:Int->Int->Int}
  (z:∀(i j:Int) (t u:Tok) (s:ON) (Q:OK->ON->Prop) (E:OK->ON->Prop),C i j->Q (.int (g i j) s.toks) { s with toks:=s.toks+1 }->OR (OV X.prog X.w) X.A (f (.int i t)<|.int j u) Q E s):
  iW X f<|rI C λi j=>.int<|g i j:=by
 intro pins s σ H x y v u Q I O J h;obtain⟨i,j,rfl,rfl,hc,q⟩:=yx h;obtain⟨t,rfl⟩:=O;obtain⟨t',rfl⟩:=J;exact z i j t t' s _ _ hc ⟨.int<|g i j,H,I.tok _,⟨_,rfl⟩,q⟩
theorem GA{f:OK->OK->TF OK}{g:Int->Int->Int}
  (z:∀(i j:Int) (t u:Tok) (s:ON) (Q:OK->ON->Prop) (E:OK->ON->Prop),Q (.int (g i j) s.toks) { s with toks:=s.toks+1 }->OR (OV X.prog X.w) X.A (f (.int i t)<|.int j u) Q E s):
  iW X f<|zN λi j=>.int<|g i j:=by
 intro pins s σ H x y v u Q I O J h;obtain⟨i,j,rfl,rfl,q⟩:=yx h;obtain⟨t,rfl⟩:=O;obtain⟨t',rfl⟩:=J;exact z i j t t' s _ _ ⟨.int<|g i j,H,I.tok _,⟨_,rfl⟩,q⟩
theorem AV{f:OK->OK->TF OK}{g:Int->Int->Bool}
  (z:∀(i j:Int) (t u:Tok) (s:ON) (Q:OK->ON->Prop) (E:OK->ON->Prop),Q (.bool<|g i j) s->OR (OV X.prog X.w) X.A (f (.int i t)<|.int j u) Q E s):
  iW X f<|zN λi j=>.bl<|g i j:=by
 intro pins s σ H x y v u Q I O J h;obtain⟨i,j,rfl,rfl,q⟩:=yx h;obtain⟨t,rfl⟩:=O;obtain⟨t',rfl⟩:=J;exact z i j t t' s _ _ ⟨.bl<|g i j,H,I,rfl,q⟩
def MJ(i j:Int):Prop:=0<j/\j<1073741824
def MI(i j:Int):Prop:=0<=j/\j<=1000000/\i.natAbs<2^64
def E4(i j:Int):Prop:=(-(2^64)<i/\i<2^64)∨(-(2^64)<j/\j<2^64)
theorem E4.ok{i j:Int}(h:E4 i j):IntMulOk i j:=by
 rcases h with ⟨h1,h2⟩|⟨h1,h2⟩
 .exact .of_left (intBits_le_64 h1 h2)
 .exact .of_right (intBits_le_64 h1 h2)
theorem CU:iW X (RT .Add)<|zN λi j=>.int<|i+j:=GA λ_ _ _ _ _ _ _ q=>add_int q
theorem FF:iW X (RT .Sub)<|zN λi j=>.int<|i-j:=GA λ_ _ _ _ _ _ _ q=>sub_int q
theorem JQ:iW X (RT .Mult)<|rI E4 λi j=>.int<|i*j:=GB λ_ _ _ _ _ _ _ hc q=>mul_int q hc.ok
theorem uz:iW X (RT .FloorDiv)<|rI MJ λi j=>.int<|i/j:=GB λi j _ _ _ _ _ hc q=>by
 have h1:(0:Int)<j:=hc.1;have h2:j<1073741824:=hc.2;exact floordiv_int (by lia) (by rw[T6 i<|by lia];exact q)<|.inl<|PyProof.noPylong_small<|by lia
theorem G2:iW X (RT .Mod)<|rI (λ_ j=>0<j) λi j=>.int<|i%j:=GB λi j _ _ _ _ _ hc q=>by
 have h1:(0:Int)<j:=hc;exact mod_int' (by lia)<|by rw[Int.fmod_eq_emod_of_nonneg i<|by lia];exact q
theorem D8:iW X (RT .Pow)<|rI MI λi j=>.int<|i^j.toNat:=GB λ_ _ _ _ _ _ _ hc q=>pow_int_small hc.1 hc.2.1 hc.2.2 q
theorem MY{f:OK->TF OK}{g:Int->Int}
  (z:∀(i:Int) (t:Tok) (s:ON) (Q:OK->ON->Prop) (E:OK->ON->Prop),Q (.int (g i) s.toks) { s with toks:=s.toks+1 }->OR (OV X.prog X.w) X.A (f<|.int i t) Q E s):
  MC X f<|rU λi=>.int<|g i:=by
 intro pins s σ H x v Q I J h;obtain⟨i,rfl,q⟩:=Il h;obtain⟨t,rfl⟩:=J;exact z i t s _ _ ⟨.int<|g i,H,I.tok _,⟨_,rfl⟩,q⟩
theorem Dv:MC X (unaryOp .USub)<|rU λi=>.int<|-i:=MY λ_ _ _ _ _ q=>neg_int q
end
noncomputable def scal:V->V->Bool
 |.Ux,.Ux=>true|.Ux,.int _=>true|.int _,.Ux=>true|.Ux,.bl _=>true|.bl _,.Ux=>true|.Ux,.str _=>true|.str _,.Ux=>true
 |.int _,.int _=>true|.bl _,.bl _=>true|.str _,.str _=>true|.byt _,.byt _=>true
 |.int _,.str _=>true|.str _,.int _=>true|.bl _,.str _=>true|.str _,.bl _=>true
 |_,_=>false
def Fp:R2:=λx y H Q=>match x,y with
 |.int i,.int j=>Q (.bl<|decide<|i=j) H
 |.bl i,.bl j=>Q (.bl<|decide<|i=j) H
 |.str i,.str j=>Q (.bl<|decide<|i=j) H
 |x,y=>scal x y=true/\Q (.bl<|decide<|x=y) H
theorem AB{x:V}{Q:VK}(h:Fp x y H Q):scal x y=true/\Q (.bl<|decide<|x=y) H:=by
 cases x<;>cases y<;>first|exact h|exact⟨rfl,by simpa[Fp] using h⟩
def Fm:R2:=λx y H Q=>match x,y with
 |.int i,.int j=>Q (.bl<|!decide (i=j)) H
 |.bl i,.bl j=>Q (.bl<|!decide (i=j)) H
 |.str i,.str j=>Q (.bl<|!decide (i=j)) H
 |x,y=>scal x y=true/\Q (.bl<|!decide (x=y)) H
theorem Az{x:V}{Q:VK}(h:Fm x y H Q):scal x y=true/\Q (.bl<|!decide (x=y)) H:=by
 cases x<;>cases y<;>first|exact h|exact⟨rfl,by simpa[Fm] using h⟩
theorem uW{i j:Int}:decide (V.int i=V.int j)=(i==j):=by
 rw[Ri];simp
theorem zm{i j:Bool}:decide (V.bl i=V.bl j)=(i==j):=by
 rw[Ri];simp
theorem uV{i j:Pa}:decide (V.str i=V.str j)=(i==j):=by
 rw[Ri];simp
theorem uX{i j:Array UInt8}:decide (V.byt i=V.byt j)=(i.toList==j.toList):=by
 rw[Ri];cases i;cases j;simp
section
variable {a b:PM}{ta tb tc:TE}
theorem gS{Q:VK}{k z:Bool}(I:Inv X pins σ H s)(q:Q (.bl k) H)(e:k=z):EP X pins σ Q (.bool z) s:=by
 subst e;exact⟨.bl k,H,I,rfl,q⟩
theorem EK:iW X (PR .Eq) Fp:=by
 intro pins s σ H x y v u Q I O z h;obtain⟨J,q⟩:=AB h;cases x with
 |Ux=>
  cases O;cases y with
  |Ux=>cases z;exact PySem.EqNone.eq_none_none<|gS I q<|by simp
  |bl j=>cases z;exact PySem.EqNone.eq_none_bool<|gS I q<|by simp
  |int j=>obtain⟨t',rfl⟩:=z;exact PySem.EqNone.eq_none_int<|gS I q<|by simp
  |str j=>obtain⟨t',rfl⟩:=z;exact PySem.EqNone.eq_none_str<|gS I q<|by simp
  |_=>exact absurd (show false=true from J) kG
 |bl i=>
  cases O;cases y with
  |Ux=>cases z;exact PySem.EqNone.eq_bool_none<|gS I q<|by simp
  |bl j=>cases z;exact eq_bool<|gS I q zm
  |str j=>obtain⟨t',rfl⟩:=z;exact PySem.EqMixed.eq_bool_str<|gS I q<|by simp
  |_=>exact absurd (show false=true from J) kG
 |int i=>
  obtain⟨t,rfl⟩:=O;cases y with
  |Ux=>cases z;exact PySem.EqNone.eq_int_none<|gS I q<|by simp
  |int j=>obtain⟨t',rfl⟩:=z;exact eq_int<|gS I q uW
  |str j=>obtain⟨t',rfl⟩:=z;exact PySem.EqMixed.eq_int_str<|gS I q<|by simp
  |_=>exact absurd (show false=true from J) kG
 |str i=>
  obtain⟨t,rfl⟩:=O;cases y with
  |Ux=>cases z;exact PySem.EqNone.eq_str_none<|gS I q<|by simp
  |bl j=>cases z;exact PySem.EqMixed.eq_str_bool<|gS I q<|by simp
  |int j=>obtain⟨t',rfl⟩:=z;exact PySem.EqMixed.eq_str_int<|gS I q<|by simp
  |str j=>obtain⟨t',rfl⟩:=z;exact eq_str<|gS I q uV
  |_=>exact absurd (show false=true from J) kG
 |byt i=>
  obtain⟨t,rfl⟩:=O;cases y with
  |byt j=>obtain⟨t',rfl⟩:=z;exact PySem.W.eq_bytes<|gS I q uX
  |_=>exact absurd (show false=true from J) kG
 |_=>cases y<;>exact absurd (show false=true from J) kG
theorem JB:iW X (PR .NotEq) Fm:=by
 intro pins s σ H x y v u Q I O z h;obtain⟨J,q⟩:=Az h;cases x with
 |Ux=>
  cases O;cases y with
  |Ux=>cases z;exact PySem.EqNone.ne_none_none<|gS I q<|by simp
  |bl j=>cases z;exact PySem.EqNone.ne_none_bool<|gS I q<|by simp
  |int j=>obtain⟨t',rfl⟩:=z;exact PySem.EqNone.ne_none_int<|gS I q<|by simp
  |str j=>obtain⟨t',rfl⟩:=z;exact PySem.EqNone.ne_none_str<|gS I q<|by simp
  |_=>exact absurd (show false=true from J) kG
 |bl i=>
  cases O;cases y with
  |Ux=>cases z;exact PySem.EqNone.ne_bool_none<|gS I q<|by simp
  |bl j=>cases z;exact ne_bool<|gS I q<|congrArg not zm
  |str j=>obtain⟨t',rfl⟩:=z;exact PySem.EqMixed.ne_bool_str<|gS I q<|by simp
  |_=>exact absurd (show false=true from J) kG
 |int i=>
  obtain⟨t,rfl⟩:=O;cases y with
  |Ux=>cases z;exact PySem.EqNone.ne_int_none<|gS I q<|by simp
  |int j=>obtain⟨t',rfl⟩:=z;exact ne_int<|gS I q<|congrArg not uW
  |str j=>obtain⟨t',rfl⟩:=z;exact PySem.EqMixed.ne_int_str<|gS I q<|by simp
  |_=>exact absurd (show false=true from J) kG
 |str i=>
  obtain⟨t,rfl⟩:=O;cases y with
  |Ux=>cases z;exact PySem.EqNone.ne_str_none<|gS I q<|by simp
  |bl j=>cases z;exact PySem.EqMixed.ne_str_bool<|gS I q<|by simp
  |int j=>obtain⟨t',rfl⟩:=z;exact PySem.EqMixed.ne_str_int<|gS I q<|by simp
  |str j=>obtain⟨t',rfl⟩:=z;exact ne_str<|gS I q<|congrArg not uV
  |_=>exact absurd (show false=true from J) kG
 |byt i=>
  obtain⟨t,rfl⟩:=O;cases y with
  |byt j=>obtain⟨t',rfl⟩:=z;exact PySem.W.ne_bytes<|gS I q<|congrArg not uX
  |_=>exact absurd (show false=true from J) kG
 |_=>cases y<;>exact absurd (show false=true from J) kG
theorem Fy:iW X (PR .Lt)<|zN λi j=>.bl<|decide<|i<j:=AV λ_ _ _ _ _ _ _ q=>lt_int q
theorem JA:iW X (PR .LtE)<|zN λi j=>.bl<|decide<|i<=j:=AV λ_ _ _ _ _ _ _ q=>le_int q
theorem Jz:iW X (PR .Gt)<|zN λi j=>.bl<|decide<|j<i:=AV λ_ _ _ _ _ _ _ q=>gt_int q
theorem Gz:iW X (PR .GtE)<|zN λi j=>.bl<|decide<|j<=i:=AV λ_ _ _ _ _ _ _ q=>ge_int q
theorem Ea:iW X (PR .Is) λx y H Q=>y=.Ux/\Q (.bl<|decide<|x=.Ux) H:=by
 intro pins s σ H x y v u Q I z J h;obtain⟨rfl,q⟩:=h;cases J;refine is_none_gen<|gS I q ?_;cases x<;>first
  |(cases z;rfl)
  |(obtain⟨t,rfl⟩:=z;rfl)
theorem AR:iW X (PR .IsNot) λx y H Q=>y=.Ux/\Q (.bl<|!decide (x=.Ux)) H:=by
 intro pins s σ H x y v u Q I z J h;obtain⟨rfl,q⟩:=h;cases J;refine isnot_none_gen<|gS I q ?_;cases x<;>first
  |(cases z;rfl)
  |(obtain⟨t,rfl⟩:=z;rfl)
theorem gL(b:PM)(h:op≠.In:=by decide)(h2:op≠.NotIn:=by decide):R5 op b=false:=by
 have z:(op==CmpOp.In)=false:=by cases op<;>first|rfl|exact absurd rfl h
 have e2:(op==CmpOp.NotIn)=false:=by cases op<;>first|rfl|exact absurd rfl h2
 cases b<;>simp[R5,z,e2]
theorem xc(O:iW X (PR op) r)(ha:PE X a ta)(U:PE X b tb)(hm:R5 op b=false):PE X (.Compare a [op] [b] pos)<|FW r ta tb:=by
 intro pins s σ H Q I h;exact wpAny_Compare1 (EG ha U I h λv u s2 x y H2 z Z J q=>O pins s2 σ H2 x y v u Q z Z J q) hm
def B3(t:TE):TT:=λσ H Q=>t σ H λx H'=>AW x λk=>Q k H'
theorem lR(ho:iW X (PR op) r)(ha:PE X a ta)(hb:PE X b tb)(hm:R5 op b=false):PT X (.Compare a [op] [b] pos)<|B3<|FW r ta tb:=by
 intro pins s σ H Q I h;refine wpAny_isTrue_Compare1 (thn (ha pins s σ H _ I h) λv s1 J=>?_) hm;obtain⟨x,H1,Z,r1,q1⟩:=J;refine thn (hb pins s1 σ H1 _ Z q1) λu s2 J=>?_;obtain⟨y,H2,O,U,q2⟩:=J;refine thn (ho pins s2 σ H2 x y v u _ O r1 U q2) λc s3 J=>?_;obtain⟨z,H3,I3,r3,qz⟩:=J;obtain⟨k,e,q3⟩:=Ik qz;subst e;cases r3;exact Q9 ⟨H3,I3,q3⟩
def DE(r r':R2)(ta tb tc:TE):TE:=λσ H Q=>ta σ H λx H1=>tb σ H1 λy H2=>r x y H2 λz H3=>AW z λk=>
 (if k=true then tc σ H3 λw' H4=>r' y w' H4 Q else Q (.bl false) H3)
theorem Ij:(sizeLine:Nat)<2^63:=by rw[Qr];decide
theorem sU{x:V}(r:Vals [x] us):∃u,us=[u]/\RelV x u:=by
 cases r with
 |cons r1 r2=>cases r2;exact⟨_,rfl,r1⟩
theorem CM{x:V}(r:Vals [x,y] us):∃u w',us=[u,w']/\RelV x u/\RelV y w':=by
 cases r with
 |cons r1 r2=>
  cases r2 with
  |cons r3 r4=>cases r4;exact⟨_,_,rfl,r1,r3⟩
theorem oE(hc:X.calm=true):jS X (.builtin "max") λxs H Q=>L2.X2 λi j=>xs=[.int i,.int j]/\Q (.int<|if j>i then j else i) H:=by
 intro pins s σ H xs us Q I r h;obtain⟨i,j,rfl,q⟩:=h;obtain⟨u,w',rfl,⟨t,rfl⟩,⟨t',rfl⟩⟩:=CM r;refine max_two_ints (I.ok.hd hc) λh' tk k=>⟨_,H,I.kept k,?_,q⟩
 by_cases hj:j>i
 .rw [Z9 hj,Z9 hj];exact⟨_,rfl⟩
 .rw [Z8 hj,Z8 hj];exact⟨_,rfl⟩
theorem oB(hc:X.calm=true):jS X (.builtin "min") λxs H Q=>L2.X2 λi j=>xs=[.int i,.int j]/\Q (.int<|if j<i then j else i) H:=by
 intro pins s σ H xs us Q I r h;obtain⟨i,j,rfl,q⟩:=h;obtain⟨u,w',rfl,⟨t,rfl⟩,⟨t',rfl⟩⟩:=CM r;refine min_two_ints (I.ok.hd hc) λh' tk k=>⟨_,H,I.kept k,?_,q⟩
 by_cases hj:j<i
 .rw [Z9 hj,Z9 hj];exact⟨_,rfl⟩
 .rw [Z8 hj,Z8 hj];exact⟨_,rfl⟩
end
structure tj(h:Ph)(x dx C:OL)(mA:Pa->Option OK):Prop where
 obj:h.get? x=some (Qk C dx)
 ns:h.Ns1 dx mA
 ne:dx≠x
theorem K5{h:Ph}{mA:Pa->Option OK}(n:h.Ns1 dx mA):∃od,h.get? dx=some od/\∀name,R6 name od=some (mA name):=by
 obtain⟨o,es,ep,U,Z,O,_,hm⟩:=n;refine⟨o,U,λname=>?_⟩;have e:=hm name;unfold nsFind findBy at e;rw[<- Array.find?_toList] at e;unfold R6;rw[Z];dsimp only;split
 .rename_i y q;rw[q] at e;exact congrArg some e
 .rename_i q;rw[q] at e;have a:es.toList.any (·.refKey)=false:=by
   rw[List.any_eq_false];intro y hy;obtain⟨z,t,J⟩:=O y<|Array.mem_toList_iff.mp hy;simp[DictEntry.refKey,J]
  have a':¬ es.toList.any (·.refKey)=true:=by rw[a];exact kG
  rw[Z8 a'];exact congrArg some e
theorem tj.look{h:Ph}{x:OL}{mA:Pa->Option OK}(I:tj h x dx C mA):∃od,TB h x (Qk C dx) C (some od)/\∀name,R6 name od=some (mA name):=
 let ⟨od,ho,hl⟩:=K5 I.ns
 ⟨od,⟨I.obj,rfl,rfl,ho⟩,hl⟩
section
variable {prog:OZ}{A:Pb}{x f:OL}{mA:Pa->Option OK}{name:Pa}{v:OK}
theorem get_map{z:Bool}(X:K.In s.heap)(I:tj s.heap x dx C mA)(Z:P2 K C name=true)(hh:Py K C=true)
  (ha:W.findIn K (.ref C) name=some none) (U:mA name=some v) (O:PySem.W.handedIn v=true) (h:Q v { s with toks:=s.toks+1 }):
  OR (OV prog w) A (getAttr (.ref x) name z) Q E s:=by
 obtain⟨od,J,hl⟩:=I.look;exact PySem.W.get_value X J (Sl Z).1 (PySem.W.findObj_own hh ha rfl<|by rw[hl,U]) O h
theorem yW{Q:OK×List OK->ON->Prop}(X:K.In s.heap)(I:tj s.heap x dx C mA)(z:P2 K C name=true)
  (Z:W.findIn K (.ref C) name=some (some<|.ref f)) (U:SO K (.ref f)=true) (O:mA name=none) (h:Q (.ref f,[.ref x]) s):
  OR (OV prog w) A (Rj (.ref x) name pl) Q E s:=by
 obtain⟨od,J,hl⟩:=I.look;exact PySem.W.method_fn X J (Sl z).1 (Sl z).2 Z (beq_iff_eq.mp U) (by show(R6 name od).map (·.isSome)=some false;rw[hl,O];rfl) h
theorem Aq{ns:List Pa}{Q:Unit->ON->Prop}(X:K.In s.heap)(I:tj s.heap x dx C mA)
  (hs:W.findIn K (.ref C) "__setattr__"=some (some<|.builtin "object.__setattr__")) (hp:P8 K C=true) (ht:Th K C name=some none) (hh:Py K C=true)
  (hw:PySem.Within mA ns) (hsz:ns.length<=sizeLine)
  (h:∀h',tj h' x dx C (λy=>if y=name then some v else mA y)->Pq dx s.heap h'->Q () { s with heap:=h',toks:=s.toks+2 }):
  OR (OV prog w) A (setAttr (.ref x) name v) Q E s:=by
 obtain⟨od,J,hl⟩:=I.look;refine PySem.W.set_plain X J hs<|PySem.W.osa_open (s:={ s with toks:=s.toks+1 }) (r:=none) X J hp ht λb=>?_;obtain⟨cd,hc,ac⟩:=PySem.W.any_some hh;have hx:s.heap.get? x=some ⟨.ref C,some dx,.plain,#[]⟩:=I.obj;refine OJ<|OO<|OJ<|OJ<|Uk hx<|OJ<|PySem.W.Looks.here (s:={ s with toks:=s.toks+1 }) (PySem.W.looks_clsIn X hc) ?_;rw[ac];refine OO (a:=some dx)<|OJ<|OO<|OJ ?_;refine wpAny_nsSet1 (s:={ s with toks:=s.toks+1 }) I.ns λh' O z=>?_;obtain⟨oD,ad,ae,aa,Z,U⟩:=O.count<|PySem.Within.cons name v hw;refine OJ<|T3 aa (by rw[Z];exact T5<|cX U<|by rw[bS];lia) ?_;exact OO<|h _ ⟨(z.2 _<|OY I.ne).trans I.obj,O,I.ne⟩ z
theorem yE{R:Result->ON->Prop}{vs:List OK}{z:List<|Pa×OK}(X:K.In s.heap)(hm:Qj K C=true)
  (hi:W.findIn K (.ref C) "__init__"=some (some<|.ref f)) (J:PySem.W.typeIn K (.ref f)=some (.type "function"))
  (h:QW (OV prog w) (A.under<|.builtin "type.__call__" ⟨.ref C::vs,z⟩) (.call (.ref f) ⟨.ref (s.heap.objs.size+1)::vs,z⟩) (PySem.W.InitBack (s.heap.objs.size+1) R) { s with heap:=(s.heap.push PySem.W.emptyDict).push<|Qk C s.heap.objs.size }):
  QW (OV prog w) A (.call (.ref C) ⟨vs,z⟩) R s:=by
 obtain⟨hh,g,d,t,os⟩:=s;exact PySem.W.make_core (PySem.W.makes_of X hm) (PySem.W.looks_findIn X hi) (λself=>PySem.W.bind_fn X self J) (.inl rfl) h
end
noncomputable def aL(f:Pa)(v:V):List (Pa×V)->List (Pa×V)
 |[]=>[(f,v)]
 |(g,x)::r=>if g=f then(g,v)::r else(g,x)::aL f v r
theorem pO(f g:Pa)(v:V):∀fs:List<|Pa×V,(aL f v fs).lookup g=if g=f then some v else fs.lookup g
 |[]=>by
  show Qq g [(f,v)]=_;by_cases h:g=f
  .have z:(g==f)=true:=beq_iff_eq.mpr h;simp only[Qq,z,Z9 h]
  .have z:(g==f)=false:=beq_eq_false_iff_ne.mpr h;simp only[Qq,z,Z8 h]
 |(k,x)::r=>by
  have J:=pO f g v r;rw[show aL f v ((k,x)::r)=(if k=f then(k,v)::r else(k,x)::aL f v r) from rfl];by_cases hk:k=f
  .rw [Z9 hk];by_cases h:g=k
   .have z:(g==k)=true:=beq_iff_eq.mpr h;simp only[Qq,z,Z9<|h.trans hk]
   .have z:(g==k)=false:=beq_eq_false_iff_ne.mpr h;simp only[Qq,z,Z8 λe:g=f=>h<|e.trans hk.symm]
  .rw [Z8 hk];by_cases h:g=k
   .have z:(g==k)=true:=beq_iff_eq.mpr h;simp only[Qq,z,Z8 λe:g=f=>hk<|h.symm.trans e]
   .have z:(g==k)=false:=beq_eq_false_iff_ne.mpr h;simp only[Qq,z];exact J
theorem K4(f:Pa)(v:V):∀fs:List<|Pa×V,f∈(aL f v fs).map (·.1)/\∀g,g∈fs.map (·.1)->g∈(aL f v fs).map (·.1)
 |[]=>⟨by simp[aL],λg h=>by simp at h⟩
 |(k,x)::r=>by
  obtain⟨z,i2⟩:=K4 f v r;rw[show aL f v ((k,x)::r)=(if k=f then(k,v)::r else(k,x)::aL f v r) from rfl];by_cases hk:k=f
  .rw [Z9 hk];subst hk;exact⟨by simp,λg h=>by simpa using h⟩
  .rw [Z8 hk];refine⟨?_,λg h=>?_⟩
   .rw [jC];exact bA _ z
   .rw [jC] at h⊢;rcases bC.mp h with e|e
    .exact bC.mpr (.inl e)
    .exact bA _ (i2 g e)
theorem Lw(f:Pa)(v:V):∀fs:List<|Pa×V,(aL f v fs).length<=fs.length+1
 |[]=>by simp[aL]
 |(k,x)::r=>by
  have z:=Lw f v r;rw[show aL f v ((k,x)::r)=(if k=f then(k,v)::r else(k,x)::aL f v r) from rfl];by_cases hk:k=f
  .rw [Z9 hk,bS,bS];lia
  .rw [Z8 hk,bS,bS];lia
theorem dG.some_of{o:Option OK}(r:dG (some v) o):∃u,o=some u/\RelV v u:=by
 cases o with
 |none=>exact(show False from r).elim
 |some u=>exact⟨u,rfl,r⟩
theorem dG.none_of{o:Option OK}(r:dG none o):o=none:=by
 cases o with
 |none=>rfl
 |some u=>exact(show False from r).elim
theorem nU(r:RelV v u):PySem.W.handedIn u=true:=by
 cases v with
 |Ux=>cases(show u=Value.none from r);rfl
 |bl b=>cases(show u=Value.bool b from r);rfl
 |int i=>obtain⟨t,e⟩:=(show ∃t,u=Value.int i t from r);cases e;rfl
 |str x=>obtain⟨t,e⟩:=(show ∃t,u=Value.str x t from r);cases e;rfl
 |byt b=>obtain⟨t,e⟩:=(show ∃t,u=Value.bytes b t from r);cases e;rfl
 |flt b=>obtain⟨t,e⟩:=(show ∃t,u=Value.float b t from r);cases e;rfl
 |ref a=>cases(show u=Value.ref a from r);rfl
 |ty n=>cases(show u=Value.type n from r);rfl
section
variable {H':Hp}{h h':Ph}{fs fs':List (Pa×V)}
theorem Iw(J:dJ P w H h)(e:H a=some (.ins C dx fs)):∃mA,tj h a dx C mA/\(∀f,dG (fs.lookup f)<|mA f)/\PySem.Within mA (fs.map (·.1))/\fs.length<=1000/\H dx=some (.own a):=by
 obtain⟨d,z,ne,ob,mA,n,r,q⟩:=(show aS P w H h a (.ins C dx fs) from J a _ e)
 exact⟨mA,⟨ob,n,ne⟩,r,q,z,d⟩
end
structure fW(K:W.Frag)(C:OL):Prop where
 pg:P2 K C RN=true
 hd:Py K C=true
 po:P8 K C=true
 sa:W.findIn K (.ref C) "__setattr__"=some (some<|.builtin "object.__setattr__")
theorem fW.get(c:fW K C)(f:Pa):P2 K C f=true:=c.pg
def aF(K:W.Frag)(C:OL)(f:Pa):Prop:=W.findIn K (.ref C) f=some none
theorem aF.Wc{f:Pa}(n:aF K C f):Th K C f=some none:=by
 unfold Th;rw[show W.findIn K (.ref C) f=some none from n];rfl
structure Meth(K:W.Frag)(C:OL)(m:Pa)(f:OL):Prop where
 at_:W.findIn K (.ref C) m=some (some<|.ref f)
 fn:SO K (.ref f)=true
 kp:W.keepIn K (.ref f)=true
section
variable {fs:List (Pa×V)}{f:Pa}{A:Pb}
theorem lK{b:Bool}(I:Inv X pins σ H s)(e:H a=some (.ins C dx fs))(c:fW X.K C)(n:aF X.K C f)(l:fs.lookup f=some v)
  (h:∀u s',Inv X pins σ H s'->RelV v u->Q u s'):OR (OV X.prog X.w) A (getAttr (.ref a) f b) Q E s:=by
 obtain⟨mA,O,r,_,_,_⟩:=Iw I.Uy e;obtain⟨u,z,ru⟩:=dG.some_of (v:=v) (o:=mA f) (by rw[<- l];exact r f);exact get_map I.UB O (c.get f) c.hd n z (nU ru)<|h u _ (I.tok _) ru
theorem LL{m:Pa}{g:OL}{Q:OK×List OK->ON->Prop}(I:Inv X pins σ H s)(e:H a=some (.ins C dx fs))(c:fW X.K C)(k:Meth X.K C m g)(l:fs.lookup m=none)
  (h:Q (.ref g,[.ref a]) s):OR (OV X.prog X.w) A (Rj (.ref a) m pl) Q E s:=by
 obtain⟨mA,O,r,_,_,_⟩:=Iw I.Uy e;have hn:mA m=none:=dG.none_of (by rw[<- l];exact r m);exact yW I.UB O (c.get m) k.at_ k.fn hn h
theorem lC{Q:Unit->ON->Prop}(I:Inv X pins σ H s)(e:H a=some (.ins C dx fs))(c:fW X.K C)(n:aF X.K C f)(hl:fs.length<1000)(Z:RelV y u)
  (h:∀s',Inv X pins σ (upd H a<|.ins C dx<|aL f y fs) s'->Q () s'):OR (OV X.prog X.w) A (setAttr (.ref a) f u) Q E s:=by
 obtain⟨mA,O,r,wi,_,U⟩:=Iw I.Uy e;have hz:(fs.map (·.1)).length<=sizeLine:=by rw[aJ,Qr];lia
 refine Aq I.UB O c.sa c.po n.Wc c.hd wi hz λh' J sb=>h _ ?_;have hd:∃o,h'.get? dx=some o:=let ⟨o,_,_,e',_⟩:=J.ns;⟨o,e'⟩
 refine I.write (x:=a) (e:=dx) (by rw[e];exact True.intro) (.inr U) (λb q hb z=>(sb.2 b hb).trans z) hd ?_;refine⟨by rw[aO O.ne];exact U,?_,O.ne,J.obj,_,J.ns,λg=>?_,λg hg=>?_⟩
 .have:=Lw f y fs;lia
 .show dG ((aL f y fs).lookup g) (if g=f then some u else mA g);rw[pO];by_cases q:g=f
  .rw [Z9 q,Z9 q];exact Z
  .rw [Z8 q,Z8 q];exact r g
 .by_cases q:g=f
  .rw [q];exact(K4 f y fs).1
  .refine (K4 f y fs).2 g (wi g λz=>hg ?_);show(if g=f then some u else mA g)=none;rw[Z8 q];exact z
theorem Inv.made(I:Inv X pins σ H s):Inv X pins σ (upd (upd H s.heap.objs.size<|.own<|s.heap.objs.size+1) (s.heap.objs.size+1)<|.ins C s.heap.objs.size [])
  { s with heap:=(s.heap.push PySem.W.emptyDict).push<|Qk C s.heap.objs.size }:=by
 have z:(s.heap.push PySem.W.emptyDict).get? s.heap.objs.size=some PySem.W.emptyDict:=OW s.heap rfl;have e2:((s.heap.push PySem.W.emptyDict).push<|Qk C s.heap.objs.size).get? (s.heap.objs.size+1)=some (Qk C s.heap.objs.size):=by
  have:=OW (s.heap.push PySem.W.emptyDict) (o:=Qk C s.heap.objs.size) rfl
  rwa [Qo] at this
 have e3:(s.heap.push PySem.W.emptyDict).Ns s.heap.objs.size λ_=>none:=⟨PySem.W.emptyDict,#[],_,z,rfl,(λe J=>absurd J<|by simp),λ_=>rfl⟩
 have U:=I.laid (a:=s.heap.objs.size) (o:=.own<|s.heap.objs.size+1) (h':=s.heap.push PySem.W.emptyDict) (t':=s.toks) (λb u q=>OM _ q) (aK _) ⟨_,z⟩;refine U.laid (a:=s.heap.objs.size+1) (o:=.ins C s.heap.objs.size []) (t':=s.toks) (λb u q=>OM _ q) (Rz<|Qo _ _) ?_;have ne:s.heap.objs.size≠s.heap.objs.size+1:=fK<|xi _;refine⟨by rw[aO ne,aP],cE _,ne,e2,λ_=>none,(Heap.Ns1.of_empty e3).at λo q=>OM _ q,λ_=>True.intro,λy O=>absurd rfl O⟩
theorem uZ{prog:OZ}{env:RQ}{f:Pa}(z:Ro e f env (eval e env)=eval e env)
  (h:OR (OV prog w) A (eval e env) (λo s₁=>OR (OV prog w) A (getAttr o f true) Q E s₁) E s):OR (OV prog w) A (eval (.Attribute e f pos) env) Q E s:=
 Attribute_any_ h<|by rw[arm_eval_Attribute,z]
end
def Ga(K:W.Frag)(ta:TE)(f:Pa):TE:=λσ H Q=>ta σ H λx H1=>L2.X5 λa C dx fs v=>x=.ref a/\H1 a=some (.ins C dx fs)/\fW K C/\aF K C f/\fs.lookup f=some v/\Q v H1
def Gk(K:W.Frag)(ta tv:TE)(f:Pa):TS:=λD σ H=>tv σ H λy H1=>ta σ H1 λx H2=>L2.X4 λa C dx fs=>x=.ref a/\H2 a=some (.ins C dx fs)/\fW K C/\aF K C f/\fs.length<1000/\
 D.nx σ (upd H2 a<|.ins C dx<|aL f y fs)
def Hz(X:Cx)(op:TN)(rd:V->V->Hp->VK->Prop):Prop:=
 ∀(pins:List<|OL×Qc) (s:ON) (σ:St) (H:Hp) (x y:V) (u v:OK) (Q:VK),Inv X pins σ H s->RelV x u->RelV y v->rd x y H Q->OR (OV X.prog X.w) X.A (inplaceOp op u v) (EP X pins σ Q) X.xe s
def tT(K:W.Frag)(ta tv:TE)(rd:V->V->Hp->VK->Prop)(f:Pa):TS:=λD σ H=>ta σ H λx H1=>L2.X5 λa C dx fs v=>x=.ref a/\H1 a=some (.ins C dx fs)/\fW K C/\aF K C f/\fs.lookup f=some v/\
 tv σ H1 λy H2=>rd v y H2 λz H3=>L2.X2 λdx' fs'=>H3 a=some (.ins C dx' fs')/\fs'.length<1000/\D.nx σ (upd H3 a<|.ins C dx'<|aL f z fs')
section
variable {o value:PM}{f:Pa}{tpos:Sq}{ta tv:TE}
theorem JU(U:PE X e ta)(Z:Ro e f X.env (eval e X.env)=eval e X.env):PE X (.Attribute e f pos)<|Ga X.K ta f:=by
 intro pins s σ H Q I h;refine uZ Z<|thn (U pins s σ H _ I h) λu s1 O=>?_;obtain⟨x,H1,J,rx,a,C,dx,fs,v,ex,ea,c,n,l,q⟩:=O;subst ex;obtain rfl:u=Value.ref a:=rx;exact lK J ea c n l λu' s2 z ru=>⟨v,H1,z,ru,q⟩
theorem IA(ha:PE X o ta)(hv:PE X value tv)(hs:RM value (some<|.Attribute o f pos') pos.line X.env=pure false):PS X (.Assign [.Attribute o f pos'] value pos)<|Gk X.K ta tv f:=by
 intro pins s σ H D I h;refine TY (thn (hv pins s σ H _ I h) λu s1 z=>?_) hs;obtain⟨y,H1,O,U,q⟩:=z;refine thn (ha pins s1 σ H1 _ O q) λZ s2 z=>?_;obtain⟨x,H2,J,rx,a,C,dx,fs,ex,ea,c,n,l,q2⟩:=z;subst ex;obtain rfl:Z=Value.ref a:=rx;exact lC J ea c n l U λs3 I3=>⟨σ,_,I3,q2⟩
theorem vI{op:TN}{rd:V->V->Hp->VK->Prop}(ha:PE X o ta)(hv:PE X value tv)(U:Hz X op rd):PS X (.AugAssign (.Attribute o f tpos) op value pos)<|tT X.K ta tv rd f:=by
 intro pins s σ H D I h;refine wpAny_AugAssign_AttributeAny<|thn (ha pins s σ H _ I h) λov s1 J=>?_;obtain⟨x,H1,I1,rx,a,C,dx,fs,v,ex,ea,c,n,l,q⟩:=J;subst ex;obtain rfl:ov=Value.ref a:=rx;refine lK I1 ea c n l λu s2 I2 ru=>thn (hv pins s2 σ H1 _ I2 q) λw3 s3 J=>?_;obtain⟨y,H2,I3,ry,q3⟩:=J;refine thn (U pins s3 σ H2 v y u w3 _ I3 ru ry q3) λw4 s4 J=>?_;obtain⟨z,H3,I4,Z,aa,fs',O,l',q4⟩:=J;exact lC I4 O c n l' Z λs5 I5=>⟨σ,_,I5,q4⟩
def Gq:V->V->Hp->VK->Prop:=λx y H Q=>L2.X2 λi j=>x=.int i/\y=.int j/\Q (.int<|i+j) H
theorem En:Hz X .Add Gq:=by
 rintro pins s σ H x y u v Q I z J ⟨i,j,rfl,rfl,q⟩;obtain⟨t,rfl⟩:=(show ∃t,u=Value.int i t from z)
 obtain⟨t',rfl⟩:=(show ∃t',v=Value.int j t' from J)
 exact PyProof.Rows.iadd_int ⟨.int<|i+j,H,I.tok _,⟨_,rfl⟩,q⟩
end
section
variable {A:Pb}{c:OK}{b:Bool}
inductive eZ(K:W.Frag)(H:Hp):V->OK->Prop where
 |Ux:eZ K H .Ux<|.type "NoneType"
 |bl (x:Bool):eZ K H (.bl x)<|.type "bool"
 |int (i:Int):eZ K H (.int i)<|.type "int"
 |str (x:Pa):eZ K H (.str x)<|.type "str"
 |flt (x:UInt64):eZ K H (.flt x)<|.type "float"
 |lst {a:OL} {xs:List V} (e:H a=some (.lst xs)):eZ K H (.ref a)<|.type "list"
 |frz {a:OL} {o:Qc} {xs:List V} (e:H a=some (.frz o<|.lst xs)):eZ K H (.ref a)<|.type "list"
 |tup {a:OL} {xs:List V} (e:H a=some (.tup xs)):eZ K H (.ref a)<|.type "tuple"
 |dK {a:OL} {kvs:List<|Key×V} (e:H a=some (.dK kvs)):eZ K H (.ref a)<|.type "dict"
 |dT {a:OL} {kvs:List<|List Key×V} (e:H a=some (.dT kvs)):eZ K H (.ref a)<|.type "dict"
 |ins {a C dx:OL} {fs:List<|Pa×V} (e:H a=some (.ins C dx fs)) (cl:fW K C) (ha:W.findIn K (.ref C) "__class__"=some (some<|.builtin "object.__class__"))
   (hn:RC K (.builtin "object.__class__") "__get__"=some (some<|.builtin "getset_descriptor.__get__")) (UT:Tg K (.builtin "object.__class__")=some true)
   (hm:RG K C (.type "object")=some true):eZ K H (.ref a)<|.ref C
theorem vW{x:V}{t:OK}(I:Inv X pins σ H s)(U:RelV x u)(ty:eZ X.K H x t)(e:PU X.K t c=some b)(h:∀tk,Q (.bool b) { s with toks:=tk }):
  OR (OV X.prog X.w) A (call (.builtin "isinstance") [u,c]) Q E s:=by
 cases ty with
 |Ux=>cases(show u=Value.none from U);exact PY PySem.W.kitx_none I.UB True.intro e (λz=>nomatch z) h
 |bl y=>cases(show u=Value.bool y from U);exact PY PySem.W.kitx_bool I.UB True.intro e (λz=>nomatch z) h
 |int i=>obtain⟨t,q⟩:=(show ∃t,u=Value.int i t from U);cases q;exact PY PySem.W.kitx_int I.UB True.intro e (λz=>nomatch z) h
 |str y=>obtain⟨t,q⟩:=(show ∃t,u=Value.str y t from U);cases q;exact PY PySem.W.kitx_str I.UB True.intro e (λz=>nomatch z) h
 |flt y=>obtain⟨t,q⟩:=(show ∃t,u=Value.float y t from U);cases q;exact PY PySem.W.kitx_float I.UB True.intro e (λz=>nomatch z) h
 |@lst a xs ea=>
  cases(show u=Value.ref a from U);obtain⟨_,_,n,_,h1⟩:=(show aS X.prog X.w H s.heap a (.lst xs) from I.Uy a _ ea)
  exact PY PySem.W.kitx_list I.UB ⟨_,h1,rfl⟩ e (λz=>nomatch z) h
 |@frz a ob xs ea=>
  cases(show u=Value.ref a from U);obtain⟨_,_,_,n,_,h1⟩:=(show aS X.prog X.w H s.heap a (.frz ob<|.lst xs) from I.Uy a _ ea)
  exact PY PySem.W.kitx_list I.UB ⟨_,h1,rfl⟩ e (λz=>nomatch z) h
 |@tup a xs ea=>
  cases(show u=Value.ref a from U);obtain⟨_,_,_,p⟩:=(show aS X.prog X.w H s.heap a (.tup xs) from I.Uy a _ ea)
  obtain⟨o,h1,h2,_⟩:=p;exact PY PySem.W.kitx_tuple I.UB ⟨o,h1,h2⟩ e (λz=>nomatch z) h
 |@dK a kvs ea=>
  cases(show u=Value.ref a from U);obtain⟨_,_,vs,_,p⟩:=(show aS X.prog X.w H s.heap a (.dK kvs) from I.Uy a _ ea)
  obtain⟨o,es,ep,h1,h2,_⟩:=p;exact PY PySem.W.kitx_dict I.UB ⟨o,h1,h2.1⟩ e (λz=>nomatch z) h
 |@dT a kvs ea=>
  cases(show u=Value.ref a from U);obtain⟨_,_,xs,_,o,es,ep,h1,h2,_⟩:=(show aS X.prog X.w H s.heap a (.dT kvs) from I.Uy a _ ea)
  exact PY PySem.W.kitx_dict I.UB ⟨o,h1,h2.1⟩ e (λz=>nomatch z) h
 |@ins a C dx fs ea cl ha hn UT hm=>
  cases(show u=Value.ref a from U);obtain⟨mA,O,_⟩:=Iw I.Uy ea;obtain⟨od,J,_⟩:=O.look;exact PY (PySem.W.kitx_own (cl.get _) cl.hd ha hn UT hm) I.UB J e (λz=>nomatch z) h
end
structure aT(k:Nat)(A:Pb):Prop where
 hd:A.handled=none
 dp:A.depth+3*k+5<Um
 un:A.units+16*k+200<Rx
 gd:A.guards=some []
theorem aT.mono{j:Nat}{A:Pb}(r:aT k A)(h:j<=k):aT j A:=⟨r.hd,by have:=r.dp;lia,by have:=r.un;lia,r.gd⟩
theorem aT.deeper{A:Pb}(r:aT (k+1) A)(env:RQ):aT k<|A.deeper env:=
 ⟨r.hd,by have:=r.dp;show A.depth+1+3*k+5<_;lia,by have:=r.un;show A.units+3+16*k+200<_;lia,r.gd⟩
theorem sq{A:Pb}{z:List<|Pa×OK}:(A.under<|.builtin "type.__call__" ⟨.ref C::us,z⟩).depth=A.depth+1:=by
 first|rfl|simp[TV,Code.weight,Code.isCreation,Code.isGuard,Code.isCaller,Code.frames,Code.isFrame,guardIds]
theorem sk{A:Pb}{z:List<|Pa×OK}:(A.under<|.builtin "type.__call__" ⟨.ref C::us,z⟩).units=A.units+1:=by
 first|rfl|simp[TV,Code.cUnits,Code.frames,Code.isFrame]
theorem aT.make{A:Pb}(r:aT (k+1) A)(C:OL)(us:List OK)(z:List<|Pa×OK):aT k<|A.under<|.builtin "type.__call__" ⟨.ref C::us,z⟩:=
 ⟨r.hd,by have:=r.dp;rw[sq];lia,by have:=r.un;rw[sk];lia,by have:=r.gd;first|exact this|simp[TV,Code.guards,Code.isGuard,guardIds,this]⟩
theorem aT.depth{A:Pb}(r:aT k A):A.depth<Um:=by have:=r.dp;lia
theorem aT.units{A:Pb}(r:aT k A):A.units+64<Rx:=by have:=r.un;lia
theorem aT.WJ{A:Pb}(r:aT k A):A.units<Rx:=by have:=r.un;lia
def fL:TA:=λ_ H Q=>Q [] H
def lQ(ta:TE)(tr:TA):TA:=λσ H Q=>ta σ H λx H1=>tr σ H1 λxs H2=>Q (x::xs) H2
section
variable {es:List PM}{t:TA}
theorem Iy:PA X [] fL:=λ_ _ _ _ H Q I h=>Calls.spliced_nil ⟨[],H,I,.nil,h⟩
theorem FI(ha:PE X e te)(hr:PA X es t)(hs:OU (e::es) X.env=(false,eval e X.env)::OU es X.env:=by rfl):PA X (e::es)<|lQ te t:=by
 intro pos pins s σ H Q I h;rw[hs];show OR _ _ (spliced<|(false,eval e X.env)::P5 pos (OU es X.env)) _ _ s;refine Calls.spliced_cons<|thn (ha pins s σ H _ I h) λu s1 z=>?_;obtain⟨x,H1,U,r1,q1⟩:=z;refine thn (hr pos pins s1 σ H1 _ U q1) λus s2 z=>?_;obtain⟨xs,H2,J,O,Z⟩:=z;exact⟨x::xs,H2,J,.cons r1 O,Z⟩
def FP(t:TA):TE:=λσ H Q=>t σ H λxs H1=>xs.length<=sizeLine/\∀p,H1 p=none->Q (.ref p) (upd H1 p<|.tup xs)
def F5(t:TA):TE:=λσ H Q=>t σ H λxs H1=>xs.length<=sizeLine/\∀p,H1 p=none->Q (.ref p) (upd H1 p<|.lst xs)
theorem ES{x1}(h:PA X es t):PE X (.Tuple es x1 pos)<|FP t:=by
 intro pins s σ H Q I U;refine wpAny_Tuple_spliced<|thn (h pos pins s σ H _ I U) λus s1 ⟨xs,H1,J,r,z,q⟩=>⟨by rw[<- r.length];exact z,?_⟩;have O:H1 s1.heap.objs.size=none:=J.Uy.fresh<|aK _;refine⟨.ref s1.heap.objs.size,upd H1 s1.heap.objs.size<|.tup xs,J.laid (t':=s1.toks) (λb u e=>OM _ e) (aK _) ?_,rfl,q _ O⟩;exact⟨z,us,r,⟨_,OW _ rfl,rfl,_,rfl⟩⟩
theorem G5(h:PA X es t):PE X (.List es pos)<|F5 t:=by
 intro pins s σ H Q I U;refine wpAny_List_spliced<|thn (h pos pins s σ H _ I U) λus s1 ⟨xs,H1,J,r,z,q⟩=>⟨by rw[<- r.length];exact z,?_⟩;have O:H1 s1.heap.objs.size=none:=J.Uy.fresh<|aK _;refine⟨.ref s1.heap.objs.size,upd H1 s1.heap.objs.size<|.lst xs,J.laid (t':=s1.toks) (λb u e=>OM _ e) (aK _) ?_,rfl,q _ O⟩;exact⟨z,us,0,r,OW _ rfl⟩
end
noncomputable abbrev Sp:=List V->Hp->VK->XK->Prop
noncomputable abbrev oO:=List RQ->Hp->ON->XK->OK->ON->Prop
variable {CX:oO}
structure pP(P:OZ)(w:Pp)(K:W.Frag)(mg:Pa->Option OK)(base:Ph)(A:Pb)(outer:List RQ)(s:ON)(H:Hp):Prop where
 frames:A.frames=some outer
 mod:Mod K mg base
 bs:∀b o,base.get? b=some o->s.heap.get? b=some o/\H b=none
 VU:base.objs.size<=s.heap.objs.size
 US:s.heap.FunFrames base outer
 Wg:∀b∈frs outer,H b=none
 Uy:dJ P w H s.heap
 bare:QH s.gens
def CE(outer:List RQ)(P:OZ)(w:Pp)(H:Hp)(s:ON)(Q:VK)(u:OK)(s':ON):Prop:=
 ∃v H',s'.os=s.os/\QH s'.gens/\Un (frs outer) [] H H' s.heap s'.heap/\dJ P w H' s'.heap/\RelV v u/\Q v H'
def CR(CX:oO)(outer:List RQ)(P:OZ)(w:Pp)(H:Hp)(s:ON)(Q:VK)(E:XK)(r:Result)(s':ON):Prop:=
 match r with
 |.ok (.ret u)=>CE outer P w H s Q u s'
 |.ok _=>False
 |.error e=>CX outer H s E e s'
structure aH(P:OZ)(w:Pp)(K:W.Frag)(mg:Pa->Option OK)(base:Ph)(CX:oO)(k:Nat)(f:OL)(fd:Qf)(ps:List Pa)(sp:Sp):Prop where
 len:∀vs H Q E,sp vs H Q E->vs.length=ps.length
 run:∀(A:Pb) (outer:List RQ) (s:ON) (H:Hp) (args:Args) (us:List OK) (vs:List V) (Q:VK) (E:XK),aT k A->pP P w K mg base A outer s H->TU s fd args (ps.zip us)->Vals vs us->sp vs H Q E->
  QW (OV P w) A (.call (.ref f) args) (CR CX outer P w H s Q E) s
theorem pP.make{mg:Pa->Option OK}{A:Pb}(e:pP P w K mg base A outer s H)(C:OL)(us:List OK)(z:List<|Pa×OK):
  pP P w K mg base (A.under<|.builtin "type.__call__" ⟨.ref C::us,z⟩) outer s H:=⟨by first|exact e.frames|(simpa[TV,Code.envs,Code.isFrame,pushEnvs] using e.frames),e.mod,e.bs,e.VU,e.US,e.Wg,e.Uy,e.bare⟩
section
variable {s':ON}
theorem Inv.VT(I:Inv X pins σ H s):pP X.prog X.w X.K X.mg X.base X.A X.stack s H:=
 ⟨I.ok.frames,I.ok.mod,I.bs,cX I.ok.VU I.sz,I.stack,I.VB,I.Uy,I.bare⟩
theorem Inv.after{Q:VK}(I:Inv X pins σ H s)(h:CE X.stack X.prog X.w H s Q u s'):EP X pins σ Q u s':=by
 obtain⟨v,H',os,J,un,U,r,q⟩:=h;obtain⟨hh,g,d,t,O⟩:=s';obtain rfl:O=s.os:=os;exact⟨v,H',I.call (h':=hh) (g':=g) (d':=d) (t':=t) (ch:=[]) un U J (λb z=>absurd z<|by simp),r,q⟩
end
def GW(sp:Sp)(dvs:List V)(E:XK)(t:TA):TE:=λσ H Q=>t σ H λvs H1=>sp (vs++dvs) H1 Q E
def FD(C:OL)(m:Pa)(sp:Sp)(dvs:List V)(E:XK)(ta:TE)(t:TA):TE:=λσ H Q=>ta σ H λx H1=>L2.X3 λa dx fs=>x=.ref a/\H1 a=some (.ins C dx fs)/\fs.lookup m=none/\
 t σ H1 λvs H2=>sp (x::(vs++dvs)) H2 Q E
def Ip(C:OL)(sp:Sp)(dvs:List V)(E:XK)(t:TA):TE:=λσ H Q=>t σ H λvs H1=>∀x dx,H1 x=none->H1 dx=none->dx≠x->
 sp (.ref x::(vs++dvs)) (upd (upd H1 dx<|.own x) x<|.ins C dx []) (λv H2=>v=.Ux/\Q (.ref x) H2) E
def Binds(K:W.Frag)(fd:Qf)(ps:List Pa)(ds:List OK):Prop:=
 ∀(s:ON) (us:List OK),K.In s.heap->(us++ds).length=ps.length->TU s fd ⟨us,[]⟩ (ps.zip<|us++ds)
theorem Binds.all{fd:Qf}(h:∀us:List OK,us.length=ps.length->bindArgs fd ⟨us,[]⟩=pure (ps.zip us)):Binds K fd ps []:=λs us _ hl=>by
 rw[gW] at hl⊢;exact .of_eq<|h us hl
def rG(CX:oO)(X:Cx)(E:XK):Prop:=∀(pins:List<|OL×Qc) (σ:St) (H:Hp) (s:ON) (e:OK) (s':ON),Inv X pins σ H s->CX X.stack H s E e s'->X.xe e s'
section
variable {f:OL}{fd:Qf}{sp:Sp}{dvs:List V}{ds:List OK}{E:XK}{m:Pa}{p apos:Sq}{o:PM}{es:List PM}{ta:TE}{t:TA}
theorem ID{Q:VK}(F:aH X.prog X.w X.K X.mg X.base CX k f fd ps sp)(Z:aT k X.A)(O:Binds X.K fd ps ds)(U:Vals dvs ds)(hx:rG CX X E)
  (I:Inv X pins σ H s) (r:Vals vs us) (h:sp (vs++dvs) H Q E):OR (OV X.prog X.w) X.A (call (.ref f) us) (EP X pins σ Q) X.xe s:=by
 have J:Vals (vs++dvs)<|us++ds:=r.append U;have hl:(us++ds).length=ps.length:=by rw[<- J.length];exact F.len _ _ _ _ h
 refine Q1<|QN (F.run X.A X.stack s H ⟨us,[]⟩ (us++ds) (vs++dvs) Q E Z I.VT (O s us I.UB hl) J h) λr s' z=>?_;cases r with
 |error e=>exact hx pins σ H s e s' I z
 |ok fl=>
  cases fl with
  |ret u=>exact I.after z
  |next=>exact Pl z
  |brk=>exact Pl z
  |cont=>exact Pl z
theorem uw(F:aH X.prog X.w X.K X.mg X.base CX k f fd ps sp)(hr:aT k X.A)(hg:Gl X x)(hm:X.mg x=some (.ref f))(U:W.keepIn X.K (.ref f)=true)(hb:Binds X.K fd ps ds)(hd:Vals dvs ds)(hx:rG CX X E)
  (ha:PA X (e::es) t) (J:(x==("__debug__":Pa))=false:=by decide) (he:OU (e::es) X.env=(false,eval e X.env)::OU es X.env:=by rfl) (z:(P5 pos<|OU es X.env).any (·.1)=false:=by rfl):
  PE X (.Call (.Name x p) (e::es) [] pos)<|GW sp dvs E t:=by
 intro pins s σ H Q I h;refine Qa<|BE I hg hm ?_ J;refine Qe (h₀:=X.base) I.ok.mod.Wo U (thn (ha pos pins s σ H _ I h) λus s1 Z=>?_) he z;obtain⟨vs,H1,O,r,q⟩:=Z;refine⟨O.UB,?_⟩;exact ID F hr hb hd hx O r q
theorem AL(he:PE X o ta)(c:fW X.K C)(hm:Meth X.K C m f)(F:aH X.prog X.w X.K X.mg X.base CX k f fd ps sp)(hr:aT k X.A)(hb:Binds X.K fd ps ds)(hd:Vals dvs ds)(hx:rG CX X E)(ha:PA X (e::es) t)
  (O:OU (e::es) X.env=(false,eval e X.env)::OU es X.env:=by rfl) (z:(P5 pos<|OU es X.env).any (·.1)=false:=by rfl)
  (ht:eval (.Call (.Attribute o m apos) (e::es) [] pos) X.env=(do
   let ov <- eval o X.env
   R1 apos.atName
   let (f,first) <- holding [ov] (Rj ov m pl)
   SY pos f first (P5 pos<|OU (e::es) X.env) (Sk pos<|Q5 [] X.env)):=by rfl):
  PE X (.Call (.Attribute o m apos) (e::es) [] pos)<|FD C m sp dvs E ta t:=by
 intro pins s σ H Q I h;refine QX (pl:=pl) (thn (he pins s σ H _ I h) λu s1 J=>?_) ht;obtain⟨x,H1,Z,rx,a,dx,fs,ex,ea,l,q⟩:=J;subst ex;obtain rfl:u=Value.ref a:=rx;refine LL Z ea c hm l ?_;refine Qe (first:=[.ref a]) (h₀:=X.base) I.ok.mod.Wo hm.kp (thn (ha pos pins s1 σ H1 _ Z q) λus s2 J=>?_) O z;obtain⟨vs,H2,U,r,q2⟩:=J;refine⟨U.UB,?_⟩;exact ID (us:=.ref a::us) (vs:=.ref a::vs) F hr hb hd hx U (.cons rfl r) q2
theorem yq(U:PE X o ta)(c:fW X.K C)(hm:Meth X.K C m f)(F:aH X.prog X.w X.K X.mg X.base CX k f fd ps sp)(hr:aT k X.A)(Z:Binds X.K fd ps ds)(hd:Vals dvs ds)(hx:rG CX X E)
  (O:eval (.Call (.Attribute o m apos) [] [] pos) X.env=(do
   let ov <- eval o X.env
   R1 apos.atName
   let (f,first) <- holding [ov] (Rj ov m pl)
   SY pos f first (P5 pos<|OU [] X.env) (Sk pos<|Q5 [] X.env)):=by rfl):
  PE X (.Call (.Attribute o m apos) [] [] pos)<|FD C m sp dvs E ta fL:=by
 intro pins s σ H Q I h;refine QX (pl:=pl) (thn (U pins s σ H _ I h) λu s1 J=>?_) O;obtain⟨x,H1,z,rx,a,dx,fs,ex,ea,l,q⟩:=J;subst ex;obtain rfl:u=Value.ref a:=rx;refine LL z ea c hm l ?_;exact PySem.W.callWith_K0 (first:=[.ref a]) z.UB hm.kp<|ID (us:=[.ref a]) (vs:=[.ref a]) F hr Z hd hx z (.cons rfl .nil) q
structure Mk(K:W.Frag)(C f:OL):Prop where
 makes:Qj K C=true
 init:W.findIn K (.ref C) "__init__"=some (some<|.ref f)
 fn:SO K (.ref f)=true
 kp:W.keepIn K (.ref C)=true
theorem xZ{Q:VK}(M:Mk X.K C f)(F:aH X.prog X.w X.K X.mg X.base CX k f fd ps sp)(hr:aT (k+1) X.A)(hb:Binds X.K fd ps ds)(hd:Vals dvs ds)
  (hx:rG CX X E) (I:Inv X pins σ H s) (r:Vals vs us)
  (h:∀x dx,H x=none->H dx=none->dx≠x->sp (.ref x::(vs++dvs)) (upd (upd H dx<|.own x) x<|.ins C dx []) (λv H2=>v=.Ux/\Q (.ref x) H2) E):
  OR (OV X.prog X.w) X.A (call (.ref C) us) (EP X pins σ Q) X.xe s:=by
 have U:=h (s.heap.objs.size+1) s.heap.objs.size (I.Uy.fresh<|lT _) (I.Uy.fresh<|aK _)<|fK<|xi _;have J:=Inv.made (C:=C) I;have O:Vals (V.ref (s.heap.objs.size+1)::(vs++dvs))<|Value.ref (s.heap.objs.size+1)::(us++ds):=.cons rfl<|r.append hd;have hl:(Value.ref (s.heap.objs.size+1)::us++ds).length=ps.length:=by
  have e:=O.length;rw[F.len _ _ _ _ U] at e;exact e.symm
 refine Q1<|yE (f:=f) I.UB M.makes M.init (beq_iff_eq.mp M.fn)<|QN (F.run _ X.stack _ _ ⟨Value.ref (s.heap.objs.size+1)::us,[]⟩ (Value.ref (s.heap.objs.size+1)::(us++ds)) _ _ E (hr.make C us []) (J.VT.make C us []) (hb _ (Value.ref (s.heap.objs.size+1)::us) J.UB hl) O U) λr s' z=>?_
 cases r with
 |error e=>exact hx pins σ _ _ e s' J z
 |ok fl=>
  cases fl with
  |ret u=>
   obtain⟨v,H',I3,rv,ev,Z⟩:=J.after z;subst ev;exact⟨rv,⟨V.ref<|s.heap.objs.size+1,H',I3,rfl,Z⟩⟩
  |next=>exact Pl z
  |brk=>exact Pl z
  |cont=>exact Pl z
theorem uu(M:Mk X.K C f)(F:aH X.prog X.w X.K X.mg X.base CX k f fd ps sp)(hr:aT (k+1) X.A)(hg:Gl X x)(hm:X.mg x=some (.ref C))(hb:Binds X.K fd ps ds)(hd:Vals dvs ds)(hx:rG CX X E)
  (ha:PA X (e::es) t) (J:(x==("__debug__":Pa))=false:=by decide) (Z:OU (e::es) X.env=(false,eval e X.env)::OU es X.env:=by rfl) (z:(P5 pos<|OU es X.env).any (·.1)=false:=by rfl):
  PE X (.Call (.Name x p) (e::es) [] pos)<|Ip C sp dvs E t:=by
 intro pins s σ H Q I h;refine Qa<|BE I hg hm ?_ J;refine Qe (h₀:=X.base) I.ok.mod.Wo M.kp (thn (ha pos pins s σ H _ I h) λus s1 U=>?_) Z z;obtain⟨vs,H1,O,r,q⟩:=U;refine⟨O.UB,?_⟩;exact xZ M F hr hb hd hx O r q
end
structure aA(N P:List Pa)(sc:QQ):Prop where
 kind:sc.kind=.function
 co:sc.isCoroutine=false
 gen:sc.isGenerator=false
 nd:N.Nodup
 pre:N.take P.length=P
 par:∀x∈P,sc.names.lookup x=some .local∨sc.names.lookup x=some .cell
 WN:∀y∈sc.names,y.2≠.free
theorem oF{z:Pa->Option QU}{x:Pa}:∀{binds:List<|Pa×OK} {m:Pa->Option OK},(∀v,(x,v)∉binds)->Us z binds m x=m x
 |[],_,_=>rfl
 |(n,v)::r,m,h=>by
  unfold Us;rw[oF λw hw=>h w<|bA _ hw];split
  .have:x≠n:=by rintro rfl;exact h v aU
   simp[this]
  .rfl
theorem oH{z:Pa->Option QU}{x:Pa}:∀{binds:List<|Pa×OK} {m:Pa->Option OK},(∀v,(x,v)∉binds)->Ut z binds m x=m x
 |[],_,_=>rfl
 |(n,v)::r,m,h=>by
  unfold Ut;rw[oH λw hw=>h w<|bA _ hw];split
  .rfl
  .have:x≠n:=by rintro rfl;exact h v aU
   simp[this]
theorem oG{z:Pa->Option QU}{x:Pa}{v:OK}:∀{P:List Pa} {vs:List OK} {i:Nat} {m:Pa->Option OK},P.Nodup->P[i]?=some x->vs[i]?=some v->z x=some .local->
  Us z (P.zip vs) m x=some v
 |[],_,_,_,_,h,_,_=>by simp at h
 |_::_,[],_,_,_,_,h,_=>by simp at h
 |p::P,w::vs,0,m,nd,h1,h2,hk=>by
  simp at h1 h2;subst h1;subst h2;show Us z ((p,w)::P.zip vs) m p=_;unfold Us;rw[oF λv J=>(List.nodup_cons.mp nd).1 (Se J).1,Z9 hk];simp
 |p::P,w::vs,i+1,m,nd,h1,h2,hk=>by
  show Us z ((p,w)::P.zip vs) m x=_;unfold Us;exact oG (i:=i) (List.nodup_cons.mp nd).2 (by simpa using h1) (by simpa using h2) hk
theorem oJ{z:Pa->Option QU}{x:Pa}{v:OK}:∀{P:List Pa} {vs:List OK} {i:Nat} {m:Pa->Option OK},P.Nodup->P[i]?=some x->vs[i]?=some v->z x≠some .local->
  Ut z (P.zip vs) m x=some v
 |[],_,_,_,_,h,_,_=>by simp at h
 |_::_,[],_,_,_,_,h,_=>by simp at h
 |p::P,w::vs,0,m,nd,h1,h2,hk=>by
  simp at h1 h2;subst h1;subst h2;show Ut z ((p,w)::P.zip vs) m p=_;unfold Ut;rw[oH λv J=>(List.nodup_cons.mp nd).1 (Se J).1,Z8 hk];simp
 |p::P,w::vs,i+1,m,nd,h1,h2,hk=>by
  show Ut z ((p,w)::P.zip vs) m x=_;unfold Ut;exact oJ (i:=i) (List.nodup_cons.mp nd).2 (by simpa using h1) (by simpa using h2) hk
noncomputable def start(N:List Pa)(vs:List V):St:=vs.map some++Pf (N.length-vs.length) none
noncomputable def bR(CX:oO)(P:OZ)(w:Pp)(K:W.Frag)(mg:Pa->Option OK)(base:Ph)(N:List Pa)(qual:Pa)(scope:QQ)(f:OL)(cd:OK)(A:Pb)(outer:List RQ)(s:ON)(H:Hp)(E:XK):Cx where
 prog:=P
 w:=w
 K:=K
 mg:=mg
 base:=base
 A:=A.deeper<|Rk qual scope s.heap.objs.size f cd
 N:=N
 s₀:=s
 H₀:=H
 env:=Rk qual scope s.heap.objs.size f cd
 outer:=outer
 stack:=Rk qual scope s.heap.objs.size f cd::outer
 ex:=[]
 calm:=true
 fn:=λ_=>true
 pn:=[]
 xe:=λe s'=>OR (OV P w) (A.deeper<|Rk qual scope s.heap.objs.size f cd) (leaving (Rk qual scope s.heap.objs.size f cd) e) (λ_ s''=>CX outer H s E e s'') (λe' s''=>CX outer H s E e' s'') s'
theorem KJ{sc:QQ}{n:Nat}(h:sc.names.lookup x=some .cell):∃c,(Qd n sc.names []).lookup x=some c:=by
 have q:=RU sc.names n []<|.inl h;exact Option.isSome_iff_exists.mp q
theorem nQ{mg:Pa->Option OK}{f:OL}{cd:OK}{A:Pb}{s1:ON}{E:XK}
  (S:aA N ps scope) (hd:A.handled=none) (J:pP P w K mg base A outer s H) (hl:vs.length=ps.length) (r:Vals vs us)
  (x:InCallC s s.heap.objs.size (Us (Rk qual scope s.heap.objs.size f cd).kindOf (ps.zip us) λ_=>none) (Qd (s.heap.objs.size+1) scope.names []) (Ut (Rk qual scope s.heap.objs.size f cd).kindOf (ps.zip us) λ_=>none) s1):
  Inv (bR CX P w K mg base N qual scope f cd A outer s H E) [] (start N vs) H s1:=by
 have ac:ps.length<=N.length:=by have:=congrArg Pz S.pre;rw[gV] at this;lia
 obtain⟨h1,tk,rfl,hk⟩:=x.done;have U:∀b:OL,b∉(bR CX P w K mg base N qual scope f cd A outer s H E).ex:=λb z=>absurd (show b∈([]:List OL) from z) (by simp);refine⟨⟨J.mod,S.kind,rfl,rfl,aK _,λy z c h1 h2=>?_,λy O=>?_,λy c _ h=>?_,λ_=>hd,λv e=>(by have e2:A.handled=some v:=e;rw[hd] at e2;cases e2),Around.frames_deeper J.frames,.inr ⟨rfl,rfl⟩,λb z=>absurd z<|U b,J.bs,J.VU,λb _ _=>U b,λb z=>absurd z<|U b,J.US,J.Wg⟩,rfl,J.bare,Un.kept hk,⟨_,x.toInCall.ns,λi y v h1 h2 h3=>?_⟩,λy c h=>⟨_,x.cell y c h⟩,J.Uy.fresh<|aK _,λy c h=>?_,λp Z=>absurd (show p∈([]:List<|OL×Qc) from Z) (by simp),J.Uy.kept hk,?_⟩
 .exact name_of_addr x.apart (PN h1) (PN h2)
 .have O:scope.names.lookup y=some .cell∨scope.names.lookup y=some .free:=O;rcases O with O|O
  .exact KJ O
  .exact absurd rfl (S.WN _<|PN O)
 .exact B0 (x.above y c<|PN h)
 .have hi:i<vs.length:=by
   unfold start at h2;by_cases hi:i<vs.length
   .exact hi
   .rw [kF<|by simpa using hi] at h2;rw[List.getElem?_replicate] at h2;split at h2<;>cases h2
  have ha:vs[i]?=some v:=by
   unfold start at h2;rw[oQ (by simpa using hi),dF] at h2;cases e:vs[i]? with
   |none=>rw[e] at h2;cases h2
   |some a=>rw[e] at h2;cases h2;rfl
  obtain⟨u,hu,rv⟩:=r.get ha;have Z:ps[i]?=some y:=by
   rw[<- S.pre,RP<|by lia];exact h1
  have aa:ps.Nodup:=by rw[<- S.pre];exact S.nd.sublist<|Fi _ _
  refine⟨u,rv,?_⟩;rcases S.par y (jB Z) with k|k
  .exact .inl ⟨k,oG aa Z hu k⟩
  .obtain ⟨c,e⟩:=KJ (n:=s.heap.objs.size+1) k;refine .inr ⟨.inl k,c,e,?_⟩;have q:=x.cell y c e;rw[oJ aa Z hu<|by show scope.names.lookup y≠_;rw[k];decide] at q;exact q
 .exact J.Uy.fresh (B0<|x.above y c<|PN h)
 .unfold start;show _=N.length;rw[aW,aJ,BY];lia
theorem Jt{mg:Pa->Option OK}{f:OL}{name:Pa}{O:Arguments}{dV kV ac pm z ct oc:OK}{an od:Option OL}
  {ae:Array<|Option OK} {sp:Sp} (lk:K.lookup f=some ⟨oc,od,.func<|W.fnOf name qual O body scope dV kV ac pm an z ct,ae⟩) (ag:W.codeIn K z qual=true) (S:aA N ps scope)
  (len:∀vs H Q E,sp vs H Q E->vs.length=ps.length)
  (Z:∀(A:Pb) (outer:List RQ) (s:ON) (H:Hp) (vs:List V) (Q:VK) (E:XK),aT k (A.deeper<|Rk qual scope s.heap.objs.size f z)->sp vs H Q E-> ∃t,mP (bR CX P w K mg base N qual scope f z A outer s H E) body t/\t { nx:=λ_ H'=>Q .Ux H',rt:=Q } (start N vs) H):
  aH P w K mg base CX (k+1) f (W.fnOf name qual O body scope dV kV ac pm an z ct) ps sp:=by
 refine⟨len,λA outer s H args us vs Q E hr e0 hb r ad=>?_⟩;have hl:=len _ _ _ _ ad;have KX:K.In s.heap:=e0.mod.Wo.keeps λb o e=>(e0.bs b o e).1;have af:s.heap.NoLimit:=e0.mod.nolimit.keeps λb o e=>(e0.bs b o e).1;have aa:∀y∈ps.zip us,scope.names.lookup y.1=some .local∨(scope.names.lookup y.1=some .cell/\((Qd (s.heap.objs.size+1) scope.names []).lookup y.1).isSome=true):=λ⟨n,v⟩ hy=>by
  rcases S.par n (Se hy).1 with q|q
  .exact .inl q
  .exact .inr ⟨q,RU _ _ _<|.inl q⟩
 refine codeAny_call_function hr.depth (KX _ _ lk) rfl S.co S.gen rfl (PySem.W.codeRec_of KX ag)<|hb _ _ _ _ ?_;refine Uj S.kind aa λenv he s1 x=>?_;subst he;refine⟨af.keeps x.toInCall.keep,codeAny_func ?_⟩;obtain⟨t,ht,hq⟩:=Z A outer s H vs Q E (hr.deeper _) ad;have I:Inv (bR CX P w K mg base N qual scope f z A outer s H E) [] (start N vs) H s1:=nQ S hr.hd e0 hl r x;refine Pj (ht [] s1 (start N vs) H _ I hq) (λfl s' hs=>?_) λe s' hs=>hs;have fin:∀{U:St} {H':Hp} {v:V} {u:OK},Inv (bR CX P w K mg base N qual scope f z A outer s H E) [] U H' s'->RelV v u->Q v H'->CE outer P w H s Q u s':=
  fun {U H' v u} J rv q=>⟨v,H',J.os,J.bare,J.base,J.Uy,rv,q⟩
 cases fl with
 |ret u=>
  obtain⟨v,U,H',J,rv,q⟩:=hs;exact fin J rv q
 |next=>
  obtain⟨U,H',J,q⟩:=hs;exact fin (v:=V.Ux) (u:=Value.none) J rfl q
 |brk=>
  obtain⟨_,_,_,q⟩:=hs;exact Pl q
 |cont=>
  obtain⟨_,_,_,q⟩:=hs;exact Pl q
section
variable {p:Sq}{es:List PM}{t:TA}{id T:String}{r:List V->Hp->VK->Prop}
def Ge(r:List V->Hp->VK->Prop)(t:TA):TE:=λσ H Q=>t σ H λvs H1=>r vs H1 Q
theorem kD(hc:jS X (.builtin id) r)(hg:Gl X x)(hm:X.mg x=none)(hv:Rc x=some (.builtin id))(ha:PA X (e::es) t)(hn:x≠"__name__":=by decide)(J:(x==("__debug__":Pa))=false:=by decide)
  (Z:OU (e::es) X.env=(false,eval e X.env)::OU es X.env:=by rfl) (z:(P5 pos<|OU es X.env).any (·.1)=false:=by rfl):PE X (.Call (.Name x p) (e::es) [] pos)<|Ge r t:=by
 intro pins s σ H Q I h;refine Qa<|CO I hg hm hv ?_ hn J;refine So (thn (ha pos pins s σ H _ I h) λus s1 U=>?_) Z z;obtain⟨vs,H1,O,r1,q1⟩:=U;exact hc pins s1 σ H1 vs us Q O r1 q1
theorem vc(hc:jS X (.type T) r)(hg:Gl X x)(hm:X.mg x=none)(hv:Rc x=some (.type T))(ha:PA X (e::es) t)(hn:x≠"__name__":=by decide)(J:(x==("__debug__":Pa))=false:=by decide)
  (Z:OU (e::es) X.env=(false,eval e X.env)::OU es X.env:=by rfl) (z:(P5 pos<|OU es X.env).any (·.1)=false:=by rfl):PE X (.Call (.Name x p) (e::es) [] pos)<|Ge r t:=by
 intro pins s σ H Q I h;refine Qa<|CO I hg hm hv ?_ hn J;refine PZ (thn (ha pos pins s σ H _ I h) λus s1 U=>?_) Z z;obtain⟨vs,H1,O,r1,q1⟩:=U;exact hc pins s1 σ H1 vs us Q O r1 q1
end
end L2
namespace HT
open PySem PyProof.Rows
noncomputable def lexLt:List Int->List Int->Bool
 |[],[]=>false
 |[],_::_=>true
 |_::_,[]=>false
 |x::xs,y::ys=>if x=y then lexLt xs ys else decide (x<y)
theorem lexLt_cons(x y:Int)(xs ys:List Int):lexLt (x::xs) (y::ys)=if x=y then lexLt xs ys else decide (x<y):=rfl
theorem mF:lexLt [] []=false:=rfl
theorem lH(y:Int)(ys:List Int):lexLt [] (y::ys)=true:=rfl
theorem lI(x:Int)(xs:List Int):lexLt (x::xs) []=false:=rfl
theorem zh(A:Pb)(s:ON)(a:Int)(t:Tok)(c:Int)(u:Tok):∃e,SeqAt.EqAt A s (.int a t) (.int c u) e/\(e=true↔a=c):=
 ⟨(a==c),SeqAt.EqAt.int_int a t c u,by simp⟩
theorem yd(A:Pb)(s:ON)(a:Int)(t:Tok)(c:Int)(u:Tok)(prog:OZ)(w:Pp)(E:OK->ON->Prop)(Q:OK->ON->Prop)(h:Q (.bool<|decide<|a<c) s):
  OR (OV prog w) A (richCompare .Lt (.int a t)<|.int c u) Q E s:=
 (PyProof.Rows.lt_int h:OR (OV prog w) A (PR .Lt (.int a t)<|.int c u) Q E s)
section
open PySem.SeqAt
open PySem.AutoSeq1 (wpAny_loadPart')
open PySem.MeetsSeq PySem.MeetsSeq2 PySem.MeetsSeq3
theorem lV(l b:OL)(items z:Array OK)(n n2:Nat)(dd af:Option OL)(sl ag:Array<|Option OK)(ns ms:List Int)(hi:Q0 items.toList ns)(hj:Q0 z.toList ms):
  Meets (QP.«tuple.__lt__» ⟨[.ref l,.ref b],[]⟩)
   λ_ R s=>s.heap.get? l=some { cls:=.type "tuple",dict:=dd,data:=.seq items n,slots:=sl }/\s.heap.get? b=some { cls:=.type "tuple",dict:=af,data:=.seq z n2,slots:=ag }/\ R (.ok<|.ret<|.bool<|lexLt ns ms) s:=
 .of_wp λprog w A R s h=>by
  obtain⟨hp,g,d,tk,os⟩:=s;obtain⟨hl,hb,h⟩:=h;have f2:=AutoSeq1.sub_tuple_tuple;have z1:items.size=ns.length:=by rw[<- hi.length];simp
  have z2:z.size=ms.length:=by rw[<- hj.length];simp
  wp_walk using Uc hl,Uc hb,wpAny_forIn_list _ (λrest b s'=>b.1=none/\s'=⟨hp,g,d,tk,os⟩/\∃(vs ws:List OK) (U O:List Int),rest=vs.zip ws/\ Q0 vs U/\Q0 ws O/\U.length+z.size=O.length+items.size/\R (.ok<|.ret<|.bool<|lexLt U O) ⟨hp,g,d,tk,os⟩) _
  case turn=>
   rintro⟨y,x⟩ rest b s' ⟨ad,rfl,vs,ws,U,O,hz,ac,Z,J,hR⟩;cases ac with
   |nil=>rw[List.zip_nil_left] at hz;cases hz
   |cons a t hvi'=>
    cases Z with
    |nil=>rw[List.zip_nil_right] at hz;cases hz
    |cons c u hwi'=>
     rw[List.zip_cons_cons] at hz;injection hz with hyx hrest
     injection hyx with hy hx
     subst hy hx;rw[lexLt_cons] at hR;simp only[bS] at J;obtain⟨e,he,aa⟩:=zh A.in1 ⟨hp,g,d,tk,os⟩ a t c u;refine OJ<|he prog w _ _ ?_;cases e with
     |true=>
      rw[Z9<|aa.mp rfl] at hR
      wp_walk
      exact⟨rfl,rfl,_,_,_,_,hrest,hvi',hwi',by lia,hR⟩
     |false=>
      rw[Z8 λq=>absurd (aa.mpr q) kG] at hR;have ae:=yd A.in1 ⟨hp,g,d,tk,os⟩ a t c u prog w
      wp_walk using ae
      exact⟨_,rfl,by simpa using hR⟩
  case fin=>
   rintro⟨b1,b2⟩ s' ⟨ad,rfl,vs,ws,U,O,hz,ac,Z,J,hR⟩;simp only at ad;subst ad;have hv:lexLt U O=decide (items.size<z.size):=by
    cases ac with
    |nil=>
     cases Z with
     |nil=>
      simp only[tD] at J;rw[mF];exact(decide_eq_false<|by lia).symm
     |cons c u hw=>
      simp only[tD,bS] at J;rw[lH];exact(decide_eq_true<|by lia).symm
    |cons a t hv=>
     cases Z with
     |nil=>
      simp only[tD,bS] at J;rw[lI];exact(decide_eq_false<|by lia).symm
     |cons c u hw=>
      rw[List.zip_cons_cons] at hz;cases hz
   rw[hv] at hR
   wp_walk
   exact⟨_,rfl,by simpa[Builtin.Tuple.tupleCompareSizes] using hR⟩
  case h=>
   exact⟨rfl,rfl,items.toList,z.toList,ns,ms,rfl,hi,hj,by lia,h⟩
end
section
variable {prog:OZ}{w:Pp}{A:Pb}{E:OK->ON->Prop}{s:ON}
theorem lt_tupInts{l b:OL}{items z:Array OK}{ns ms:List Int}{Q:OK->ON->Prop}(hl:IsTup s.heap l items)(hb:IsTup s.heap b z)(hi:Q0 items.toList ns)(hj:Q0 z.toList ms)
  (hu:A.units<Rx) (h:Q (.bool<|lexLt ns ms) s):OR (OV prog w) A (PR .Lt (.ref l)<|.ref b) Q E s:=by
 obtain⟨⟨cls,dd,data,sl⟩,ho,hc,n,hd⟩:=id hl;obtain⟨⟨ad,Z,aa,ac⟩,U,J,n2,O⟩:=id hb;simp only at hc hd J O;subst hc hd J O;exact richCompare_meets_room (op:=.Lt) ⟨_,ho,rfl⟩ ⟨_,U,rfl⟩ PySem.F.slot_tuple_lt PySem.F.entry_tuple_lt (PySem.F.args_tuple_lt_2 _ _) (lV l b items z n n2 dd Z sl ac ns ms hi hj)
  ⟨ho,U,show Value.bool (lexLt ns ms)≠Value.notImplemented/\Q (.bool<|lexLt ns ms) s from⟨(λx=>nomatch x),h⟩⟩ hu
noncomputable def sIx(n d:Nat):Option Int->Nat
 |none=>d
 |some v=>if v<0 then(v+(n:Int)).toNat else min v.toNat n
theorem sIx_none(n d:Nat):sIx n d none=d:=rfl
theorem sIx_nat(n d k:Nat):sIx n d (some (k:Int))=min k n:=by
 show(if (k:Int)<0 then((k:Int)+(n:Int)).toNat else min (k:Int).toNat n)=min k n;rw[Z8<|by lia,Int.toNat_natCast]
end
end HT
namespace L2
open PySem PySem.Spec PyProof.Rows
variable {x y:V}{σ:St}{H:Hp}{s:ON}{t':Nat}{its us:List OK}{r:R2}
noncomputable abbrev TO:=St->Hp->(Option Int->Hp->Prop)->Prop
def PO(X:Cx)(e:Option PM)(t:TO):Prop:=
 ∀(pins:List<|OL×Qc) (s:ON) (σ:St) (H:Hp) (Q:Option Int->Hp->Prop),Inv X pins σ H s->t σ H Q->
  OR (OV X.prog X.w) X.A (evalPart e X.env) (λu s'=>L2.X2 λo H'=>Inv X pins σ H' s'/\IsPart u o/\Q o H') X.xe s
def tJ:TO:=λ_ H Q=>Q none H
def B4(t:TE):TO:=λσ H Q=>t σ H λx H1=>vN x λi=>Q (some i) H1
theorem Hm{ns:List Int}:∀{us:List OK},Vals (ns.map V.int) us->Q0 us ns:=by
 induction ns with
 |nil=>intro us r;rw[List.map_nil] at r;cases r;exact .nil
 |cons n ns ih=>
  intro us r;rw[jC] at r;cases r with
  |cons r1 r2=>
   obtain⟨t,e⟩:=r1;subst e;exact .cons n t<|ih r2
section
variable {X:Cx}{e:PM}{te:TE}{lo hi:Option PM}{tl th:TO}{pos p2:Sq}
theorem Kt:PO X none tJ:=by
 intro pins s σ H Q I h;rw[evalPart_none];exact OO ⟨none,H,I,.none,h⟩
theorem BF(h:PE X e te):PO X (some e)<|B4 te:=by
 intro pins s σ H Q I hw;rw[evalPart_some];refine thn (h pins s σ H _ I hw) λu s1 J=>?_;obtain⟨x,H1,z,U,O⟩:=J;obtain⟨i,rfl,q⟩:=Il O;obtain⟨t,rfl⟩:=U;exact⟨some i,H1,z,.int i t,q⟩
def MD(X:Cx)(r:V->Option Int->Option Int->Hp->VK->Prop):Prop:=
 ∀(pins:List<|OL×Qc) (s:ON) (σ:St) (H:Hp) (x:V) (v vl vu:OK) (lo hi:Option Int) (sl:OL) (Q:VK),Inv X pins σ H s->RelV x v->s.heap.IsSliceOf sl vl vu .none->IsPart vl lo->IsPart vu hi->r x lo hi H Q->
  ∃T id,Sw (.type T) "__getitem__"=pure (some<|.builtin id)/\s.TypeIs v T/\OR (OV X.prog X.w) X.A (Uh v<|.ref sl) (EP X pins σ Q) X.xe s
def ML(r:V->Option Int->Option Int->Hp->VK->Prop)(te:TE)(tl th:TO):TE:=λσ H Q=>te σ H λx H1=>tl σ H1 λl H2=>th σ H2 λu H3=>r x l u H3 Q
theorem FH{r:V->Option Int->Option Int->Hp->VK->Prop}(hr:MD X r)(he:PE X e te)(hl:PO X lo tl)(hu:PO X hi th):PE X (.Subscript e (.Slice lo hi none p2) pos)<|ML r te tl th:=by
 intro pins s σ H Q I h;refine Subscript_<|thn (he pins s σ H _ I h) λv s1 J=>?_;obtain⟨x,H1,I1,r1,q1⟩:=J;refine wpAny_Slice<|thn (hl pins s1 σ H1 _ I1 q1) λO s2 J=>?_;obtain⟨l,H2,Z,pl,q2⟩:=J;refine thn (hu pins s2 σ H2 _ Z q2) λU z J=>?_;obtain⟨u,H3,I3,pu,q3⟩:=J;rw[evalPart_none];refine OO ?_;have I4:Inv X pins σ H3 { z with heap:=z.heap.push { cls:=.type "slice",data:=.fields #[O,U,.none] } }:=I3.kept (t':=z.toks) λb ob q=>OM _ q;obtain⟨T,id,hT,ht,hg⟩:=hr pins { z with heap:=z.heap.push { cls:=.type "slice",data:=.fields #[O,U,.none] } } σ H3 x v O U l u z.heap.objs.size Q I4 r1 (Heap.IsSliceOf.new ..) pl pu q3;show OR (OV X.prog X.w) X.A (subscriptTail e (.Slice lo hi none p2) v<|.ref z.heap.objs.size) (EP X pins σ Q) X.xe { z with heap:=z.heap.push { cls:=.type "slice",data:=.fields #[O,U,.none] } };exact tail_any (ops:=[.ref z.heap.objs.size,v]) ht hT hg<|by with_unfolding_all rfl
noncomputable def dS(xs:List V)(lo hi:Option Int):List V:=(xs.drop<|HT.sIx xs.length 0 lo).take<|HT.sIx xs.length xs.length hi-HT.sIx xs.length 0 lo
theorem rm(xs:List V)(lo hi:Option Int):(dS xs lo hi).length<=xs.length:=by
 unfold dS;rw[gV,dW];lia
def Gm(K:W.Frag):R2:=λx y H Q=>L2.X4 λa b ns ms=>x=.ref a/\y=.ref b/\bG K H a (ns.map V.int)/\bG K H b (ms.map V.int)/\Q (.bl<|HT.lexLt ns ms) H
theorem D9(hu:X.A.units<Rx):iW X (PR .Lt)<|Gm X.K:=by
 intro pins s σ H x y v u Q I rx O h;obtain⟨a,b,ns,ms,rfl,rfl,ha,Z,q⟩:=h;cases rx;cases O;obtain⟨its,r1,U,_⟩:=I.tuple ha;obtain⟨z,J,p2,_⟩:=I.tuple Z;have i1:Q0 its.toArray.toList ns:=Hm r1;have i2:Q0 z.toArray.toList ms:=Hm J;exact HT.lt_tupInts U p2 i1 i2 hu ⟨.bl<|HT.lexLt ns ms,H,I,rfl,q⟩
end
noncomputable def yL(n:Nat)(i:Int):Option Nat:=if 0<=i then(if i<n then some i.toNat else none) else if -(n:Int)<=i then some (i+n).toNat else none
noncomputable def lP{α:Type}(xs:List α)(i:Int):Option α:=(yL xs.length i).bind λj=>xs[j]?
theorem uH{n:Nat}{i:Int}{j:Nat}(h:yL n i=some j):seqIndex? i n=some j/\j<n/\-(n:Int)<=i/\i<n:=by
 unfold yL at h;by_cases h0:0<=i
 .rw [Z9 h0] at h;by_cases h1:i<n
  .rw [Z9 h1] at h;have e:i.toNat=j:=OS h;exact⟨by rw[seqIndex_of h0 h1,e],by lia,by lia,h1⟩
  .rw [Z8 h1] at h;cases h
 .rw [Z8 h0] at h;by_cases h1:-(n:Int)<=i
  .rw [Z9 h1] at h;have e:(i+n).toNat=j:=OS h;exact⟨by rw[seqIndex_neg (by lia) h1,e],by lia,h1,by lia⟩
  .rw [Z8 h1] at h;cases h
theorem u6{α:Type}{xs:List α}{i:Int}{v:α}(h:lP xs i=some v):∃j,seqIndex? i xs.length=some j/\xs[j]?=some v/\j<xs.length/\-(xs.length:Int)<=i/\i<xs.length:=by
 unfold lP at h;cases e:yL xs.length i with
 |none=>rw[e] at h;cases h
 |some j=>
  rw[e] at h;obtain⟨h1,h2,h3,z⟩:=uH e;exact⟨j,h1,h,h2,h3,z⟩
theorem Bv{α:Type}{xs:List α}{j:Nat}{v:α}(h:xs[j]?=some v):lP xs (j:Int)=some v:=by
 have z:j<xs.length:=(gX.mp h).1;have e:yL xs.length (j:Int)=some j:=by
  unfold yL;rw[Z9<|by lia,Z9<|by lia];simp
 unfold lP;rw[e];exact h
def BJ(b:PM):Prop:=∀o i,subscripted b false o i=operate [o,i] (Uh o i)
def BL(X:Cx)(r:R2):Prop:=
 ∀(value slice:PM) (pins:List<|OL×Qc) (s:ON) (σ:St) (H:Hp) (x y:V) (v u:OK) (Q:VK),Inv X pins σ H s->RelV x v->RelV y u->r x y H Q->
  subscripted slice false v u=operate [v,u] (Uh v u)->OR (OV X.prog X.w) X.A (subscriptTail value slice v u) (EP X pins σ Q) X.xe s
def MF(X:Cx)(id:String)(r:V->List V->Hp->VK->Prop):Prop:=
 ∀(pins:List<|OL×Qc) (s:ON) (σ:St) (H:Hp) (x:V) (xs:List V) (v:OK) (us:List OK) (Q:VK),Inv X pins σ H s->RelV x v->Vals xs us->r x xs H Q->
  OR (OV X.prog X.w) X.A (call (.builtin id)<|v::us) (EP X pins σ Q) X.xe s
section
variable {X:Cx}{a b:PM}{ta tb:TE}{pos:Sq}
theorem BL.or{r':R2}(h:BL X r)(h':BL X r'):BL X λx y H Q=>r x y H Q∨r' x y H Q:=by
 intro value z pins s σ H x y v u Q I U J q O;rcases q with q|q
 .exact h value z pins s σ H x y v u Q I U J q O
 .exact h' value z pins s σ H x y v u Q I U J q O
theorem pN(hr:BL X r)(ha:PE X a ta)(U:PE X b tb)(O:BJ b):PE X (.Subscript a b pos)<|FW r ta tb:=by
 intro pins s σ H Q I h;exact Subscript_<|EG ha U I h λv u s2 x y H2 z Z J q=>hr a b pins s2 σ H2 x y v u Q z Z J q<|O _ _
def DR(K:W.Frag):R2:=λx y H Q=>L2.X4 λp xs i v=>x=.ref p/\y=.int i/\aB K H p xs/\lP xs i=some v/\Q v H
def DQ(K:W.Frag):R2:=λx y H Q=>L2.X4 λp xs i v=>x=.ref p/\y=.int i/\bG K H p xs/\lP xs i=some v/\Q v H
theorem Bh:BL X<|DR X.K:=by
 intro value J pins s σ H x y v u Q I rx ry h hs;obtain⟨p,xs,i,z,rfl,rfl,hq,he,q⟩:=h;cases rx;obtain⟨t,rfl⟩:=ry;obtain⟨its,r,pl,hz⟩:=I.list hq;obtain⟨j,h1,h2,h3,h4,h5⟩:=u6 he;obtain⟨w,Z,O⟩:=r.get h2;have hl:=r.length;have hn:=Ij;have fin:EP X pins σ Q w s:=⟨z,H,I,O,q⟩
 by_cases h0:0<=i
 .have U:i.toNat=j:=by
   rw[seqIndex_of h0 h5] at h1;exact OS h1
  exact item_listR pl.isList h0 (by lia) (by rw[U];simpa using Z) fin hs
 .have U:(i+(its.toArray.size:Int)).toNat=j:=by
   rw[seqIndex_neg (by lia) h4] at h1;rw[iB,<- hl];exact OS h1
  exact subscriptTail_builtinR (x:=w) pl.isList.typeIs slot_list_getitem.lookup
   (wpAny_getItem_list_neg (Q:=λr s'=>r=w/\EP X pins σ Q r s') pl.isList (by lia) (by rw[iB]<;>lia) (by lia) (by rw[U];simpa using Z) ⟨rfl,fin⟩) hs
theorem Ej:BL X<|DQ X.K:=by
 intro value J pins s σ H x y v u Q I rx U h hs;obtain⟨p,xs,i,z,rfl,rfl,hq,he,q⟩:=h;cases rx;obtain⟨t,rfl⟩:=U;obtain⟨its,r,pl,hz⟩:=I.tuple hq;obtain⟨j,h1,h2,h3,h4,h5⟩:=u6 he;obtain⟨w,Z,O⟩:=r.get h2;have hl:=r.length;have hn:=Ij;have fin:EP X pins σ Q w s:=⟨z,H,I,O,q⟩
 exact subscriptTail_builtinR (x:=w) pl.typeIs slot_tuple_getitem.lookup
  (getItem_tuple (j:=j) (Q:=λr s'=>r=w/\EP X pins σ Q r s') pl (by lia) (by lia) (by rw[iB,<- hl];exact h1) (by simpa using Z) ⟨rfl,fin⟩) hs
theorem sj(its:List OK)(n j:Nat)(u:OK):QC (·.setIfInBounds j u) { cls:=.type "list",data:=.seq its.toArray n }={ cls:=.type "list",data:=.seq (its.set j u).toArray n }:=by
 simp[QC]
theorem Inv.lst{pins:List<|OL×Qc}{σ:St}{H:Hp}{s:ON}{p:OL}{xs:List V}(I:Inv X pins σ H s)(h:H p=some (.lst xs)):
  ∃(its:List OK) (n:Nat),Vals xs its/\s.heap.get? p=some { cls:=.type "list",data:=.seq its.toArray n }/\xs.length<=sizeLine:=by
 obtain⟨z,its,n,r,e⟩:=I.Uy p _ h;exact⟨its,n,r,e,z⟩
theorem Inv.WR{pins:List<|OL×Qc}{p:OL}{xs ys:List V}{its':List OK}{n z:Nat}{f:Qc->Qc}(I:Inv X pins σ H s)(h:H p=some (.lst xs))
  (O:s.heap.get? p=some { cls:=.type "list",data:=.seq its.toArray n }) (J:f { cls:=.type "list",data:=.seq its.toArray n }={ cls:=.type "list",data:=.seq its'.toArray z }) (r:Vals ys its') (Z:ys.length<=sizeLine) (t:Nat):
  Inv X pins σ (upd H p<|.lst ys) { s with heap:=s.heap.update p f,toks:=t }:=by
 have e:(s.heap.update p f).get? p=some { cls:=.type "list",data:=.seq its'.toArray z }:=by
  rw[Px f O (by rw[J]<;>rfl),J]
 refine I.write (x:=p) (e:=p) (by rw[h];trivial) (.inl rfl) (λb u U q=>(PV _ _<|OY U).trans q) ⟨_,e⟩ ?_;exact⟨Z,its',z,r,e⟩
inductive Cq:V->V->V->Hp->(Hp->Prop)->Prop
 |mk {o_ i_ v_ L Y} (p xs k j:_):o_=.ref p->i_=.int k->L p=some (.lst xs)->yL xs.length k=some j->Y (upd L p<|.lst<|xs.set j v_)->Cq o_ i_ v_ L Y
theorem set_list:Hv X Cq:=by
 intro pins s σ H o i v ov iv u Q I ro ri rv h;obtain⟨p,xs,k,j,rfl,rfl,U,hj,q⟩:=h;cases ro;obtain⟨t,rfl⟩:=ri;obtain⟨its,n,r,J,hz⟩:=I.lst U;obtain⟨h1,h2,h3,O⟩:=uH hj;have hl:=r.length;have hn:=Ij;have Z:Inv X pins σ (upd H p<|.lst<|xs.set j v) { s with heap:=s.heap.update p<|QC (·.setIfInBounds j u) }:=
  I.WR U J (sj its n j u) (r.set rv j) (by rw[Ae];exact hz) s.toks
 by_cases h0:0<=k
 .have z:k.toNat=j:=by
   rw[seqIndex_of h0 O] at h1;exact OS h1
  exact PySem.W.ki_setAt J h0 (by lia) (by rw[iB,<- hl];exact O)<|by rw[z];exact⟨_,Z,q⟩
 .have z:(k+(its.toArray.size:Int)).toNat=j:=by
   rw[seqIndex_neg (by lia) h3] at h1;rw[iB,<- hl];exact OS h1
  exact PySem.W.ki_setBack J (by lia) (by rw[iB,<- hl];exact h3) (by lia)<|by rw[z];exact⟨_,Z,q⟩
theorem pj(lo hi:Option Int)(n:Nat):(Ru lo hi none n).1=((HT.sIx n 0 lo:Nat):Int)/\(Ru lo hi none n).2.1=((HT.sIx n n hi:Nat):Int)/\(Ru lo hi none n).2.2=1:=by
 refine⟨?_,?_,rfl⟩
 .cases lo with
  |none=>simp[Ru,HT.sIx]
  |some i=>
   simp only[Ru,HT.sIx,Option.getD_none,show(1:Int)>0 by decide,if_true];by_cases h:i<0
   .simp only[h,if_true]<;>lia
   .simp only[h,if_false]<;>lia
 .cases hi with
  |none=>simp[Ru,HT.sIx]
  |some i=>
   simp only[Ru,HT.sIx,Option.getD_none,show(1:Int)>0 by decide,if_true];by_cases h:i<0
   .simp only[h,if_true]<;>lia
   .simp only[h,if_false]<;>lia
theorem lX(its:List OK)(lo hi:Option Int):slicePick its.toArray lo hi none=((its.drop<|HT.sIx its.length 0 lo).take<|HT.sIx its.length its.length hi-HT.sIx its.length 0 lo).toArray:=by
 obtain⟨h1,h2,h3⟩:=pj lo hi its.toArray.size;unfold slicePick;rw[h1,h2,h3];simp only[sliceRange_one,pick_run,iB]<;>rfl
def DP(K:W.Frag):V->Option Int->Option Int->Hp->VK->Prop:=λx lo hi H Q=>L2.X2 λa xs=>x=.ref a/\aB K H a xs/\∀p,H p=none->Q (.ref p) (upd H p<|.lst<|dS xs lo hi)
theorem IG:MD X<|DP X.K:=by
 intro pins s σ H x v vl vu lo hi sl Q I rx U pl O h;obtain⟨a,xs,rfl,hx,q⟩:=h;cases rx;obtain⟨its,r,J,Z⟩:=I.list hx;have z:=r.length;refine⟨"list",_,slot_list_getitem.lookup,J.isList.typeIs,?_⟩;refine wpAny_getItem_list_slice J.isList U pl O .none (by simp) ?_ (by rw[iB]<;>lia);rw[lX,<- z];refine⟨.ref s.heap.objs.size,_,I.laid (t':=s.toks) (o:=.lst<|dS xs lo hi) (λb ob q=>OM _ q) (aK _) ?_,rfl,q _<|I.Uy.fresh<|aK _⟩;exact⟨cX (rm xs lo hi) Z,_,0,(r.drop<|HT.sIx xs.length 0 lo).take<|HT.sIx xs.length xs.length hi-HT.sIx xs.length 0 lo,OW _ rfl⟩
noncomputable def Bz:V->Bool
 |.Ux=>true
 |.bl _=>true
 |.int _=>true
 |.str _=>true
 |_=>false
noncomputable def zf:V->V->Bool
 |.Ux,.Ux=>true
 |.bl a,.bl b=>a==b
 |.bl a,.int b=>(if a then 1 else 0)==b
 |.int a,.bl b=>a==(if b then 1 else 0)
 |.int a,.int b=>a==b
 |.str a,.str b=>a==b
 |_,_=>false
theorem EB{A:Pb}{u v:OK}(O:RelV y u)(z:RelV x v)(U:Bz y=true)(J:Bz x=true):SeqAt.EqAt A s u v<|zf y x:=by
 cases y with
 |Ux=>
  cases O;cases x with
  |Ux=>cases z;exact SeqAt.EqAt.same _
  |bl b=>cases z;exact SeqAt.EqAt.none_bool b
  |int b=>obtain⟨t,rfl⟩:=z;exact SeqAt.EqAt.none_int b t
  |str b=>obtain⟨t,rfl⟩:=z;exact SeqAt.EqAt.none_str b t
  |_=>exact absurd (show false=true from J) kG
 |bl a=>
  cases O;cases x with
  |Ux=>cases z;exact SeqAt.EqAt.bool_none a
  |bl b=>cases z;exact SeqAt.EqAt.bool_bool a b
  |int b=>obtain⟨t,rfl⟩:=z;exact SeqAt.EqAt.bool_int a b t
  |str b=>obtain⟨t,rfl⟩:=z;exact SeqAt.EqAt.bool_str a b t
  |_=>exact absurd (show false=true from J) kG
 |int a=>
  obtain⟨t',rfl⟩:=O;cases x with
  |Ux=>cases z;exact SeqAt.EqAt.int_none a t'
  |bl b=>cases z;exact SeqAt.EqAt.int_bool a t' b
  |int b=>obtain⟨t,rfl⟩:=z;exact SeqAt.EqAt.int_int a t' b t
  |str b=>obtain⟨t,rfl⟩:=z;exact SeqAt.EqAt.int_str a t' b t
  |_=>exact absurd (show false=true from J) kG
 |str a=>
  obtain⟨t',rfl⟩:=O;cases x with
  |Ux=>cases z;exact SeqAt.EqAt.str_none a t'
  |bl b=>cases z;exact SeqAt.EqAt.str_bool a t' b
  |int b=>obtain⟨t,rfl⟩:=z;exact SeqAt.EqAt.str_int a t' b t
  |str b=>obtain⟨t,rfl⟩:=z;exact SeqAt.EqAt.str_str a t' b t
  |_=>exact absurd (show false=true from J) kG
 |_=>exact absurd (show false=true from U) kG
noncomputable def Bq(x:V)(u:OK):Bool:=match u with
 |.none=>zf .Ux x
 |.bool b=>zf (.bl b) x
 |.int i _=>zf (.int i) x
 |.str z _=>zf (.str z) x
 |_=>false
theorem zg{u:OK}(r:RelV y u)(f:Bz y=true):Bq x u=zf y x:=by
 cases y with
 |Ux=>cases r;rfl
 |bl b=>cases r;rfl
 |int i=>obtain⟨t,rfl⟩:=r;rfl
 |str z=>obtain⟨t,rfl⟩:=r;rfl
 |_=>exact absurd (show false=true from f) kG
theorem KS{x:V}:∀{xs:List V} {us:List OK},Vals xs us->xs.all Bz=true->us.any (Bq x)=xs.any λy=>zf y x
 |_,_,.nil,_=>rfl
 |y::xs,u::us,.cons r t,f=>by
  rw[Fh,rN] at f;rw[Ds,Ds,zg r f.1,KS t f.2]
theorem Lg{A:Pb}{s:ON}{x:V}{v:OK}(O:RelV x v)(J:Bz x=true):∀{xs:List V} {us:List OK},Vals xs us->xs.all Bz=true->∀u∈us,SeqAt.EqAt A s u v (Bq x u)
 |_,_,.nil,_=>λu z=>by cases z
 |y::xs,u::us,.cons r t,f=>λU z=>by
  rw[Fh,rN] at f;rcases bC.mp z with rfl|z
  .rw [zg r f.1];exact EB r O f.1 J
  .exact Lg O J t f.2 U z
noncomputable def GI(x:V)(xs:List V):Bool:=xs.any λy=>zf y x
def MS(K:W.Frag)(neg:Bool):R2:=λx y H Q=>L2.X2 λp xs=>y=.ref p/\(aB K H p xs∨bG K H p xs)/\Bz x=true/\xs.all Bz=true/\Q (.bl<|if neg then !GI x xs else GI x xs) H
theorem pH:iW X (PR .NotIn)<|MS X.K true:=by
 intro pins s σ H x y v u Q I O U h;obtain⟨p,xs,rfl,z,J,fs,q⟩:=h;cases U;rcases z with z|z
 .obtain ⟨its,r,pl,Z⟩:=I.list z;refine SeqAt.notIn_listAt (Bq x) pl.isList (λw hw=>Lg O J r fs w<|by simpa using hw) ⟨.bl _,H,I,rfl,?_⟩;rw[show its.toArray.any (Bq x)=its.any (Bq x) by simp,KS r fs];exact q
 .obtain ⟨its,r,pl,Z⟩:=I.tuple z;refine SeqAt.notIn_tupleAt (Bq x) pl (λw hw=>Lg O J r fs w<|by simpa using hw) ⟨.bl _,H,I,rfl,?_⟩;rw[show its.toArray.any (Bq x)=its.any (Bq x) by simp,KS r fs];exact q
theorem Jc:jS X (.builtin "len") λxs H Q=>L2.X2 λp ys=>xs=[.ref p]/\(aB X.K H p ys∨bG X.K H p ys)/\Q (.int ys.length) H:=by
 intro pins s σ H xs us Q I r h;obtain⟨p,ys,rfl,J,q⟩:=h;obtain⟨u,rfl,U⟩:=sU r;cases U;have hn:=Ij;rcases J with J|J
 .obtain ⟨its,r',pl,O⟩:=I.list J;have z:=r'.length;exact Calls.call_len_list pl.isList (by simp only[iB]<;>lia) ⟨.int ys.length,H,I.tok _,⟨s.toks+1,by rw[iB,z]⟩,q⟩
 .obtain ⟨its,r',pl,O⟩:=I.tuple J;have z:=r'.length;exact len_tuple pl (by simp only[iB]<;>lia) ⟨.int ys.length,H,I.tok _,⟨s.toks+1,by rw[iB,z]⟩,q⟩
theorem Jd:jS X (.type "list") λxs H Q=>L2.X2 λp ys=>xs=[.ref p]/\(aB X.K H p ys∨bG X.K H p ys)/\∀l,H l=none->Q (.ref l) (upd H l<|.lst ys):=by
 intro pins s σ H xs us Q I r h;obtain⟨p,ys,rfl,U,q⟩:=h;obtain⟨u,rfl,rx⟩:=sU r;cases rx;have fin:∀(its:List OK),Vals ys its->ys.length<=sizeLine->∀(h':Ph) (c':Nat),(∀b o',s.heap.get? b=some o'->h'.get? b=some o')->
   h'.get? s.heap.objs.size=some { cls:=.type "list",dict:=none,data:=.seq its.toArray c',slots:=#[] }->EP X pins σ Q (.ref s.heap.objs.size) { s with heap:=h' }:=λits r' O h' c' z e=>
  ⟨.ref s.heap.objs.size,_,I.laid (t':=s.toks) z (aK _) (show aS X.prog X.w _ h' _ (.lst ys) from⟨O,its,c',r',e⟩),rfl,q _<|I.Uy.fresh<|aK _⟩
 rcases U with U|U
 .obtain ⟨its,r',pl,O⟩:=I.list U;have J:=r'.length;obtain⟨o,Z,hc,n,hd⟩:=pl.isList;exact call_list_seq p (.inl rfl) Z hc hd (λh' c' z e=>fin its r' O h' c' z e)<|by simp only[iB]<;>lia
 .obtain ⟨its,r',pl,O⟩:=I.tuple U;have J:=r'.length;obtain⟨o,Z,hc,n,hd⟩:=pl;exact call_list_seq p (.inr rfl) Z hc hd (λh' c' z e=>fin its r' O h' c' z e)<|by simp only[iB]<;>lia
def Ji(K:W.Frag)(T:String)(x:V)(H:Hp):Prop:=match x with
 |.str _=>T="str"
 |.int _=>T="int"
 |.ref p=>(T="list"/\∃xs,aB K H p xs)∨(T="tuple"/\∃o,K.lookup p=some o/\o.cls=.type "tuple"/\o.dict=none)∨
   (T="dict"/\((∃kvs,H p=some (.dK kvs))∨∃kvs,H p=some (.dT kvs)))∨(T="set"/\∃S n,H p=some (.set S n))
 |_=>False
theorem xo{pins:List<|OL×Qc}{T:String}{v:OK}(I:Inv X pins σ H s)(r:RelV x v)(ty:Ji X.K T x H):
  s.TypeIs v T/\∀a,v=.ref a->∃ob,s.heap.get? a=some ob/\ob.dict=none:=by
 cases x with
 |str z=>
  obtain⟨t,rfl⟩:=r;cases(show T="str" from ty);exact⟨typeIs_str s z t,λ_ e=>nomatch e⟩
 |int i=>
  obtain⟨t,rfl⟩:=r;cases(show T="int" from ty);exact⟨typeIs_int s i t,λ_ e=>nomatch e⟩
 |ref p=>
  cases r;rcases ty with ⟨rfl,xs,U⟩|⟨rfl,o,J,hc,O⟩|⟨rfl,J⟩|⟨rfl,S,n,J⟩
  .obtain ⟨its,_,pl,_⟩:=I.list U;refine⟨pl.isList.typeIs,λa e=>?_⟩;cases e;obtain⟨o,n,e,c,O,_⟩:=pl;exact⟨o,e,O⟩
  .refine ⟨⟨o,I.UB p o J,hc⟩,λa e=>?_⟩;cases e;exact⟨o,I.UB _ o J,O⟩
  .have z:∃o,s.heap.get? p=some o/\o.ExactDict:=by
    rcases J with ⟨kvs,J⟩|⟨kvs,J⟩
    .obtain ⟨_,_,_,_,o,_,_,e,ex,_⟩:=I.Uy p _ J;exact⟨o,e,ex⟩
    .obtain ⟨_,_,_,_,o,_,_,e,ex,_⟩:=I.Uy p _ J;exact⟨o,e,ex⟩
   obtain⟨o,e,ex⟩:=z;refine⟨⟨o,e,ex.1⟩,λa e2=>?_⟩;cases e2;exact⟨o,e,ex.2.1⟩
  .obtain ⟨o,_,_,_,e,ex,_⟩:=I.Uy p _ J;refine⟨⟨o,e,ex.1⟩,λa e2=>?_⟩;cases e2;exact⟨o,e,ex.2.1⟩
 |_=>exact Pl ty
def Gf(K:W.Frag)(T:String)(r:V->List V->Hp->VK->Prop)(to:TE):TE:=λσ H Q=>to σ H λx H1=>Ji K T x H1/\r x [] H1 Q
def MO(K:W.Frag)(T:String)(r:V->List V->Hp->VK->Prop)(to:TE)(t:TA):TE:=λσ H Q=>to σ H λx H1=>Ji K T x H1/\t σ H1 λxs H2=>r x xs H2 Q
variable {o e:PM}{es:List PM}{to:TE}{t:TA}{name:Pa}{apos cpos:Sq}{T id:String}{r:V->List V->Hp->VK->Prop}
theorem yv(pa:PlainAttrs T)(slot:Slot T name id)(O:typeOf (.builtin id)=pure (.type "method_descriptor"))(hm:MF X id r)(ho:PE X o to)
  (z:Ro o name X.env (eval o X.env)=eval o X.env:=by rfl) (J:(apos.endLine==cpos.line)=true:=by rfl):PE X (.Call (.Attribute o name apos) [] [] cpos)<|Gf X.K T r to:=by
 intro pins s σ H Q I h;refine wpAny_Call_method0_late z J<|thn (ho pins s σ H _ I h) λv s1 zz=>?_;obtain⟨x,H1,U,Z,ty,q1⟩:=zz;obtain⟨h1,h2⟩:=xo U Z ty;exact⟨T,id,pa,slot,O,h1,h2,Calls.callWith_builtin rfl<|PySem.evalArgs_none<|hm pins s1 σ H1 x [] v [] Q U Z .nil q1⟩
theorem Fz(pa:PlainAttrs T)(slot:Slot T name id)(aa:typeOf (.builtin id)=pure (.type "method_descriptor"))(hm:MF X id r)(ho:PE X o to)(ha:PA X (e::es) t)
  (J:Ro o name X.env (eval o X.env)=eval o X.env:=by rfl)
  (U:((P5 cpos<|OU (e::es) X.env).all (λx=>!x.1)&&(Sk cpos<|Q5 [] X.env).all (λx=>x.1.isSome) &&decide ((e::es).length+([]:List Keyword).length+(if ([]:List Keyword).isEmpty then 0 else 1)<30))=true:=by rfl)
  (O:(apos.endLine==cpos.line)=true:=by rfl) (hs:OU (e::es) X.env=(false,eval e X.env)::OU es X.env:=by rfl) (z:(P5 cpos<|OU es X.env).any (·.1)=false:=by rfl):
  PE X (.Call (.Attribute o name apos) (e::es) [] cpos)<|MO X.K T r to t:=by
 intro pins s σ H Q I h;refine wpAny_Call_method_late J U O rfl<|thn (ho pins s σ H _ I h) λv s1 Z=>?_;obtain⟨x,H1,I1,r1,ty,q1⟩:=Z;obtain⟨h1,h2⟩:=xo I1 r1 ty;refine⟨T,id,pa,slot,aa,h1,h2,?_⟩;have hA:=ha cpos pins s1 σ H1 _ I1 q1;rw[hs] at hA⊢;refine Calls.callWith_builtin (by show(false||(P5 cpos<|OU es X.env).any (·.1))=false;rw[z]<;>rfl)<|Calls.evalArgs_plain ?_;refine thn hA λus s2 Z=>?_;obtain⟨vs,H2,I2,r2,q2⟩:=Z;exact hm pins s2 σ H2 x vs v us Q I2 r1 r2 q2
end
def Hy(X:Cx)(id:String)(r:V->List V->Hp->VK->Prop):Prop:=
 ∀(pins:List<|OL×Qc) (s:ON) (σ:St) (H:Hp) (x:V) (xs:List V) (v:OK) (us:List OK) (Q:VK),Inv X pins σ H s->RelV x v->Vals xs us->r x xs H Q->
  OR (OV X.prog X.w) X.A (call (.builtin id)<|v::us) (EP X pins σ Q) X.xe s
theorem Vals.one(r:Vals [x] us):∃u,us=[u]/\RelV x u:=sU r
theorem Vals.two(r:Vals [x,y] us):∃u v,us=[u,v]/\RelV x u/\RelV y v:=CM r
theorem Vals.zero:∀{us:List OK},Vals [] us->us=[]
 |_,.nil=>rfl
theorem Vals.eraseIdx:∀{xs:List V} {us:List OK} (i:Nat),Vals xs us->Vals (xs.eraseIdx i) (us.eraseIdx i)
 |_,_,_,.nil=>.nil
 |_,_,0,.cons _ t=>t
 |_,_,i+1,.cons r t=>.cons r<|Vals.eraseIdx i t
theorem Vals.reverse{xs:List V}(h:Vals xs us):Vals xs.reverse us.reverse:=by
 induction h with
 |nil=>exact .nil
 |cons r t ih=>rw[Fg,Fg];exact Vals.append ih<|.cons r .nil
theorem nO{α:Type}:∀(l:List α) (i:Nat),(l.eraseIdx i).length<=l.length
 |[],_=>aK _
 |_::_,0=>lT _
 |_::r,i+1=>Nat.succ_le_succ<|nO r i
section
variable {X:Cx}{pins:List (OL×Qc)}{l b:OL}{xs ys zs:List V}
theorem Inv.We{its':List OK}{n:Nat}{f:Array OK->Array OK}(I:Inv X pins σ H s)(U:H l=some (.lst xs))
  (e:s.heap.get? l=some { cls:=.type "list",data:=.seq its.toArray n }) (Z:f its.toArray=its'.toArray) (z:Vals ys its') (O:ys.length<=sizeLine):
  Inv X pins σ (upd H l<|.lst ys) { s with heap:=s.heap.update l<|QC f,toks:=t' }:=by
 have q:=PySem.IsL.update e f;rw[Z] at q;refine I.write (x:=l) (e:=l) (by rw[U];exact trivial) (.inl rfl) (λb' u J hu=>(PV s.heap (QC f)<|OY J).trans hu) ⟨_,q⟩ ?_;exact⟨O,its',_,z,q⟩
theorem Inv.Xw(I:Inv X pins σ H s)(z:Vals ys its)(J:ys.length<=sizeLine):
  Inv X pins σ (upd H s.heap.objs.size<|.lst ys) { s with heap:=s.heap.push { cls:=.type "list",data:=.seq its.toArray },toks:=t' }:=
 I.laid (λ_ _ q=>OM _ q) (aK _) ⟨J,its,0,z,OW _ rfl⟩
theorem Inv.fresh(I:Inv X pins σ H s):H s.heap.objs.size=none:=I.Uy.fresh<|aK _
theorem Inv.VC(I:Inv X pins σ H s)(J:H l=some (.lst xs)):xs.length<=sizeLine/\∃(its:List OK) (n:Nat),Vals xs its/\xs.length=its.length/\s.heap.get? l=some { cls:=.type "list",data:=.seq its.toArray n }:=by
 obtain⟨z,its,n,r,e⟩:=I.Uy l _ J;exact⟨z,its,n,r,r.length,e⟩
theorem yA{n:Nat}(h:n<=sizeLine):Sg n=false:=by
 unfold Sg;exact decide_eq_false<|by lia
end
section
variable {X:Cx}
inductive uh:V->List V->Hp->VK->Prop
 |mk (l xs y:_):x_=.ref l->M=[y]->L l=some (.lst xs)->xs.length<sizeLine->Y .Ux (upd L l<|.lst<|xs++[y])->uh x_ M L Y
theorem vR:Hy X "list.append" uh:=by
 intro pins s σ H x vs v us Q I O rv h;obtain⟨l,xs,y,rfl,rfl,J,U,q⟩:=h;cases O;obtain⟨u,rfl,ru⟩:=rv.one;obtain⟨z,its,n,r,hl,e⟩:=I.VC J;refine Tz F.slot_list_append ⟨_,e,rfl⟩ F.entry_list_append (F.args_list_append_2 _ _) (PySem.list_append l its.toArray n u<|by rw[iB];lia) ⟨e,?_⟩;refine⟨.Ux,_,I.We (its':=its++[u]) J e (by simp) (r.append<|.cons ru .nil) ?_,rfl,q⟩;rw[aW,iC];lia
inductive ue:V->List V->Hp->VK->Prop
 |mk (l b xs zs:_):x_=.ref l->M=[.ref b]->L l=some (.lst xs)->L b=some (.lst zs)->xs.length+zs.length<=sizeLine->Y .Ux (upd L l<|.lst<|xs++zs)->ue x_ M L Y
theorem vQ:Hy X "list.extend" ue:=by
 intro pins s σ H x vs v us Q I rx rv h;obtain⟨l,b,xs,zs,rfl,rfl,U,hB,hz,q⟩:=h;cases rx;obtain⟨u,rfl,ru⟩:=rv.one;cases ru;obtain⟨z,its,n,r,hl,e⟩:=I.VC U;obtain⟨z2,J,n2,Z,aa,e2⟩:=I.VC hB;have hsz:its.toArray.size+J.toArray.size<=sizeLine:=by rw[iB,iB];lia
 have O:¬ (!its.toArray.isEmpty&&Sg (its.toArray.size+J.toArray.size))=true:=by
  rw[yA hsz,T1];exact kG
 refine Tz F.slot_list_extend ⟨_,e,rfl⟩ F.entry_list_extend (F.args_list_extend_2 _ _)
  (AutoSeq1.list_extend_list_list_0 l its.toArray n b J.toArray n2 O (by rw[iB];lia)<|by lia) ⟨e,e2,?_⟩
 refine⟨.Ux,_,I.We (its':=its++J) U e (by simp) (r.append Z) ?_,rfl,q⟩;rw[aW];lia
inductive yf:V->List V->Hp->VK->Prop
 |mk (l xs i k y:_):x_=.ref l->M=[.int i]->L l=some (.lst xs)->-(2^63)<=i->i<2^63->seqIndex? i xs.length=some k->xs[k]?=some y->Y y (upd L l<|.lst<|xs.eraseIdx k)->yf x_ M L Y
theorem yB:Hy X "list.pop" yf:=by
 intro pins s σ H x vs v us Q I rx rv h;obtain⟨l,xs,i,k,y,rfl,rfl,O,h1,h2,U,Z,q⟩:=h;cases rx;obtain⟨u,rfl,ru⟩:=rv.one;obtain⟨t,rfl⟩:=ru;obtain⟨z,its,n,r,hl,e⟩:=I.VC O;obtain⟨w,hw,J⟩:=r.get Z;refine Tz F.slot_list_pop ⟨_,e,rfl⟩ F.entry_list_pop (F.args_list_pop_2 _ _)
  (MeetsSeq.list_pop_at l its.toArray n i t k w (fitsIndex_both h1 h2) (by rw[iB,<- hl];exact U) (by rw[<- Array.getElem?_toList];exact hw)<|by rw[iB];lia) ⟨e,?_⟩
 refine⟨y,_,I.We (its':=its.eraseIdx k) O e ?_ (r.eraseIdx k) ?_,J,q⟩
 .show its.toArray.eraseIdxIfInBounds k=(its.eraseIdx k).toArray;rw[List.eraseIdxIfInBounds_toArray]
 .have:=nO xs k;lia
inductive qo:V->List V->Hp->VK->Prop
 |mk (l xs:_):x_=.ref l->M=[]->L l=some (.lst xs)->Y .Ux (upd L l<|.lst xs.reverse)->qo x_ M L Y
theorem lG:Hy X "list.reverse" qo:=by
 intro pins s σ H x vs v us Q I U rv h;obtain⟨l,xs,rfl,rfl,O,q⟩:=h;cases U;have J:=rv.zero;subst J;obtain⟨z,its,n,r,hl,e⟩:=I.VC O;refine Tz F.slot_list_reverse ⟨_,e,rfl⟩ F.entry_list_reverse (F.args_list_reverse_1 _) (AutoSeq1.list_reverse_list_0 l its.toArray n<|by rw[iB];lia) ⟨e,?_⟩;refine⟨.Ux,_,I.We (its':=its.reverse) O e (by simp) r.reverse ?_,rfl,q⟩;rw[Dr];lia
inductive Gn:V->V->Hp->VK->Prop
 |mk (l b xs zs:_):x_=.ref l->y_=.ref b->L l=some (.lst xs)->L b=some (.lst zs)->xs.length+zs.length<=sizeLine->(∀p,L p=none->Y (.ref p) (upd L p<|.lst<|xs++zs))->Gn x_ y_ L Y
theorem CV:iW X (RT .Add) Gn:=by
 intro pins s σ H x y v u Q I rx U h;obtain⟨l,b,xs,zs,rfl,rfl,Z,hB,hz,q⟩:=h;cases rx;cases U;obtain⟨z,its,n,r,hl,e⟩:=I.VC Z;obtain⟨z2,J,n2,O,aa,e2⟩:=I.VC hB;refine PySem.P.add_list e e2 ?_ (by rw[iB,iB];lia);have ea:its.toArray++J.toArray=(its++J).toArray:=by simp
 rw[ea];exact⟨.ref _,_,I.Xw (t':=s.toks) (r.append O)<|by rw[aW];lia,rfl,q _ I.fresh⟩
end
end L2
namespace Att
open PySem PySem.W PySem.Calls PyProof.Rows
theorem jZ{P:Params}{h:Ph}:∀(ns:List Int) (vs:List OK),WellAll P h vs (ns.map WData.int)->Q0 vs ns:=by
 intro ns;induction ns with
 |nil=>
  intro vs w;rw[List.map_nil] at w;cases w;exact .nil
 |cons n ns ih=>
  intro vs w;rw[jC] at w;cases w with
  |cons a b=>
   cases a;exact .cons _ _<|ih _ b
theorem vD{l:OpenLaw}{n:Nat}(hn:l.most=some n){P:Params}{h:Ph}{args:List WData}{J:List OK}
  (z:l.row.toRowW.claim.pre args=true) (aa:WellAll P h J args):
  ∃a vs ns,J=[Value.ref a]/\args=[WData.list<|ns.map WData.int]/\h.get? a=some { cls:=.type "list",data:=.seq vs.toArray }/\Q0 vs ns/\ns.length<=n:=by
 have ac:WShape.hasAll [] args [.list .int]=true:=(pre_splitW z).1;have hc:l.pre.holds [] { args:=args }=true:=(pre_splitW z).2;obtain⟨d,r,rfl,h1,h2⟩:=hasAllW_cons ac;obtain rfl:=hasAllW_nil h2;obtain⟨xs,rfl,h3⟩:=hasW_list h1;obtain⟨ns,rfl⟩:=items_int h3;have O:ns.length<=n:=by
  unfold OpenLaw.pre at hc;have U:(WTm.not<|.lt (.lit<|.int (n:Int))<|.len<|.arg 0).holds [] { args:=[.list<|ns.map .int] }=true:=by
   have U:=(holds_andW hc).1;rw[hn] at U;exact U
  have Z:=condW_of U<|w_not<|w_lt w_lit<|w_len_list<|w_arg rfl;rw[aJ] at Z;refine Nat.le_of_not_lt λq=>?_;have q':(n:Int)<((ns.length:Nat):Int):=by lia
  first
   |(rw[decide_eq_true q'] at Z;exact absurd Z<|by decide)
   |(simp at Z;lia)
 cases aa with
 |cons w1 w2=>
  cases w2;cases w1 with
  |list ho hall=>exact⟨_,_,ns,rfl,rfl,ho,jZ ns _ hall,O⟩
theorem vK(l:OpenLaw)(args:List WData):l.row.toRowW.claim.post args (.bool true) args=true:=
 postW_of (r:=l.row.toRowW) (X:=(true==true))
  (show WShape.has [] (.bool true) .bool=true by first|rfl|decide|simp[WShape.has,WShape.arms,WShape.armsAll])
  (show(WTm.eq .res<|.lit<|.bool true).value [] { args:=args,res:=some<|.bool true,after:=args }=some (.bool<|true==true) from w_eq_bool (w_res rfl) w_lit) rfl
theorem attach_call{l:OpenLaw}{n:Nat}{q:OZ}{loose:List Pa}{XP:(Pa->Option OK)->Ph->Prop}{YP:Pp->Ph->Prop}{d:DefRec}
  (hn:l.most=some n) (ae:d.params.defaults=[])
  (call:∀(w:Pp) (s₀ s₁:ON) (mg mb:Pa->Option OK) (U:OL) (o:Qc) (pm cd z:OK) (a:OL) (vs:List OK) (ns:List Int),Ground q loose [] XP w s₀ mg mb s₁.heap->YP w s₁.heap-> s₁.heap.get? U=some o->o.data=.func (docDef d.name d.params d.body d.scope pm cd z)->s₁.heap.CodeRec cd d.name->mg d.name=some (.ref U)-> s₁.heap.get? a=some { cls:=.type "list",data:=.seq vs.toArray }->Q0 vs ns->ns.length<=n->s₁.gens=#[]-> QW (OV l.prog w) TK (.call (.ref U) ⟨[.ref a],[]⟩) (λr s'=>r=.ok (.ret<|.bool true)/\OldK s₁.heap s'.heap/\s'.os=s₁.os/\QH s'.gens) s₁):
  WalkO q loose XP YP l.row.toRowW d [] λf vs=>PySem.call f vs:=by
 intro w s₀ s₁ mg mb G Y U o pm cd z dV kV ho hd af hD ac hg args ah as aa ag aj ad ai;obtain rfl:dV=.none:=Dflts.none hD ae;obtain rfl:kV=.none:=Dflts.noKw hD;obtain⟨a,vs,ns,rfl,rfl,O,J,Z⟩:=vD hn aa ad;refine enter_call<|QN (call w s₀ s₁ mg mb U o pm cd z a vs ns G Y ho (fd_plain hd) af ac O J Z hg) λr s' hq=>?_;obtain⟨rfl,h2,h3,h4⟩:=hq;exact⟨.inl ⟨.bool true,.bool true,[],rfl,λ_=>rfl,.bool true,vK l _,λ_=>⟨List.Pairwise.nil,λ_ hm=>(nomatch hm)⟩⟩,h2,h3,h4⟩
end Att
namespace L2
open PySem PySem.Spec PyProof.Rows
variable {pos tpos:Sq}{C a b dx f p:OL}{dv:List OK}{U f0 f1 f2 f3 f5 f6 qual x:Pa}{ta te tl tv:TE}{N ps:List Pa}{J O Z v v0 v1 v5 y z:V}{fd:Qf}{js:List Nat}{w:Pp}{K:W.Frag}{ti:Ht}{σ σ0:St}{g:TG}{sp:Sp}{scope:QQ}{env:RQ}{Q:VK}{tb:TS}{X:Cx}{outer:List RQ}{hi i j lo:Int}{H H' H1:Hp}{o:HO}{xs:List V}{s:ON}{fl:List (Pa×V)}{cd:OK}{k:Nat}{base:Ph}{P:OZ}{tt:TT}{CX:oO}
theorem Lf:∀{vs:List OK} {ns:List Int},Q0 vs ns->Vals (ns.map V.int) vs
 |_,_,.nil=>.nil
 |_,_,.cons n t h=>.cons ⟨t,rfl⟩<|Lf h
def E3(H:Hp):Prop:=∀b,H b=none∨∃o xs,H b=some (.frz o<|.lst xs)
theorem yH{mg mb:Pa->Option OK}{fa:OL}{s₁:ON}{vs:List OK}{ns:List Int}
  (KX:K.In s₁.heap) (ac:s₁.heap.Ns OX mg) (O:s₁.heap.Ns builtinsNs mb) (aj:∀x:Pa,x≠"__name__"->mb x=Rc x) (ad:s₁.heap.NoLimit) (hg:s₁.gens=#[])
  (ha:s₁.heap.get? a=some { cls:=.type "list",data:=.seq vs.toArray }) (hi:Q0 vs ns) (hl:ns.length<=sizeLine) (hr:aT k TK)
  (F:∀base:Ph,K.In base->base.Ns OX mg->aH P w K mg base CX k fa fd [x] sp) (aa:∀(s:ON) (u:OK),TU s fd ⟨[u],[]⟩ [(x,u)])
  (ap:∀H:Hp,E3 H->aB K H a (ns.map V.int)->sp [.ref a] H (λv _=>v=.bl true) λ_ _ _=>False)
  (am:∀H e s',CX [] H s₁ (λ_ _ _=>False) e s'->False):
  QW (OV P w) TK (.call (.ref fa) ⟨[.ref a],[]⟩) (λr s'=>r=.ok (.ret<|.bool true)/\OldK s₁.heap s'.heap/\s'.os=s₁.os/\QH s'.gens) s₁:=by
 have rv:=Lf hi;have ae:=hi.length;have Z:∀H:Hp,E3 H->aB K H a (ns.map V.int)->dJ P w H s₁.heap->(∀b,H b≠none->b=a)->(H a≠none->K.lookup a=none)->
   QW (OV P w) TK (.call (.ref fa) ⟨[.ref a],[]⟩) (λr s'=>r=.ok (.ret<|.bool true)/\OldK s₁.heap s'.heap/\s'.os=s₁.os/\QH s'.gens) s₁:=by
  intro H hO hS ah hA hK;have J:∀{b:OL} {o:Qc},s₁.heap.get? b=some o->H b=none->(pK s₁.heap H).get? b=some o:=λe n=>yS e n;have ao:∀{b:OL} {o:Qc} {es:Array DictEntry} {ep:Nat},s₁.heap.get? b=some o->o.data=.dict es ep->H b=none:=fun {b o es ep} e d=>by
   cases q:H b with
   |none=>rfl
   |some u=>
    have e':b=a:=hA b (by rw[q];simp);subst e';rw[ha] at e;cases e;have d':Data.seq vs.toArray _=Data.dict es ep:=d;cases d'
  have U:∀{b:OL} {m:Pa->Option OK},s₁.heap.Ns b m->(pK s₁.heap H).Ns b m:=fun {b m} ⟨o,es,ep,e,d,r⟩=>⟨o,es,ep,J e<|ao e d,d,r⟩
  have ag:K.In<|pK s₁.heap H:=λb o e=>J (KX b o e) (by
   cases q:H b with
   |none=>rfl
   |some u=>
    have e':b=a:=hA b (by rw[q];simp);subst e';rw[hK<|by rw[q];simp] at e;cases e)
  have hM:Mod K mg<|pK s₁.heap H:=⟨ag,U ac,⟨mb,U O,aj⟩,let ⟨mc,h1,h2⟩:=ad;⟨mc,U h1,h2⟩⟩
  have e0:pP P w K mg (pK s₁.heap H) TK [] s₁ H:=⟨rfl,hM,λb o e=>AX e,Rz<|vY _ _,trivial,λb O=>absurd (show b∈([]:List OL) from O) (by simp),ah,.of_eq hg⟩
  refine QN ((F _ ag<|U ac).run TK [] s₁ H ⟨[.ref a],[]⟩ [.ref a] [.ref a] _ _ hr e0 (aa s₁<|.ref a) (.cons rfl .nil)<|ap H hO hS) λr s' h=>?_;cases r with
  |error e=>exact(am H e s' h).elim
  |ok fl=>
   cases fl with
   |next=>exact Pl h
   |brk=>exact Pl h
   |cont=>exact Pl h
   |ret u=>
    obtain⟨v,H',os,af,un,ai,r',q⟩:=h;have q':v=.bl true:=q;subst q';obtain rfl:u=Value.bool true:=r';refine⟨rfl,OldK.of_keep λb o e=>?_,os,af⟩;cases q:H b with
    |none=>exact un.keep b o e q (by intro z;exact absurd (show b∈([]:List OL) from z)<|by simp)<|by simp
    |some u=>
     rcases hO b with z|⟨ob,xs,z⟩
     .rw [q] at z;cases z
     .have z2:=un.UI b ob _ z;obtain⟨e1,_⟩:=ah b _ z;obtain⟨e2,_⟩:=ai b _ z2;rw[e] at e1;cases e1;exact e2
 cases hk:K.lookup a with
 |some o=>
  have e:=KX a o hk;rw[ha] at e;cases e;refine Z (λ_=>none) (λ_=>.inl rfl) (.inr ⟨_,vs.toArray,_,hk,rfl,rfl,rfl,by rw[iB,ae];exact hl,by simpa using rv⟩) (λb u z=>by have z':(none:Option HO)=some u:=z;cases z') (λb z=>absurd rfl z) λz=>absurd rfl z
 |none=>
  refine Z (λb=>if b=a then some (.frz { cls:=.type "list",data:=.seq vs.toArray } (.lst<|ns.map V.int)) else none) (λb=>?_) (.inl<|.inr ⟨{ cls:=.type "list",data:=.seq vs.toArray },Z9 rfl⟩) (λb u z=>?_) (λb z=>?_) λ_=>hk
  .by_cases O:b=a
   .exact .inr ⟨_,_,Z9 O⟩
   .exact .inl (Z8 O)
  .by_cases O:b=a
   .have z':=(Z9 O).symm.trans z;cases z';subst O;exact⟨ha,by rw[aJ];exact hl,vs,_,rv,ha⟩
   .have z':=(Z8 O).symm.trans z;cases z'
  .by_cases O:b=a
   .exact O
   .exact absurd (Z8 O) z
theorem Ag{l:Ti}{n:Nat}{q:OZ}{loose:List Pa}{XP:(Pa->Option OK)->Ph->Prop}{YP:Pp->Ph->Prop}{d:DefRec}{K:Params->W.Frag}{CX:Pp->oO}{sp:Pp->Sp}
  (hn:l.most=some n) (ad:n<=sizeLine) (ac:d.params.defaults=[]) (hr:aT k TK)
  (hY:∀(w:Pp) (h:Ph),YP w h->(K w.params).In h)
  (F:∀(w:Pp) (mg:Pa->Option OK) (U:OL) (h:Ph),(K w.params).In h->h.Ns OX mg->mg d.name=some (.ref U)-> ∃fd:Qf,(∀(s:ON) (u:OK),TU s fd ⟨[u],[]⟩ [(x,u)])/\ ∀base:Ph,(K w.params).In base->base.Ns OX mg->aH l.prog w (K w.params) mg base (CX w) k U fd [x] (sp w))
  (ae:∀(w:Pp) (H:Hp) (a:OL) (ns:List Int),ns.length<=n->E3 H->aB (K w.params) H a (ns.map V.int)->sp w [.ref a] H (λv _=>v=.bl true) λ_ _ _=>False)
  (aa:∀(w:Pp) (H:Hp) (s:ON) (e:OK) (s':ON),CX w [] H s (λ_ _ _=>False) e s'->False):
  PySem.W.WalkO q loose XP YP l.row.toRowW d [] λf vs=>PySem.call f vs:=by
 refine Att.attach_call hn ac λw s₀ s₁ mg mb U o pm cd af a vs ns G Y ho hd ag Z O J z hg=>?_;have KX:=hY w _ Y;obtain⟨fd,hb,hF⟩:=F w mg U _ KX G.T.g Z;exact yH KX G.T.g G.T.b G.T.builtins G.T.nolimit hg O J (cX z ad) hr hF hb (λH hO hS=>ae w H a ns z hO hS) λH e s'=>aa w H s₁ e s'
noncomputable def gT(s:Pu)(j:Nat):Pu:=match s with
 |.ClassDef _ _ _ body _ _ _ _ _ _ _=>body.getD j<|.Pass ⟨0,0,0,0⟩
 |_=>.Pass ⟨0,0,0,0⟩
noncomputable def zV(s:Pu):Arguments:=match s with
 |.FunctionDef _ a _ _ _ _ _ _ _ _=>a
 |_=>{ posonlyargs:=[],args:=[],vararg:=none,kwonlyargs:=[],kw_defaults:=[],kwarg:=none,defaults:=[] }
noncomputable def vb(s:Pu):List Pu:=match s with
 |.FunctionDef _ _ b _ _ _ _ _ _ _=>b
 |_=>[]
noncomputable def aV(s:Pu):QQ:=match s with
 |.FunctionDef _ _ _ _ _ _ sc _ _ _=>sc
 |_=>{ kind:=.function,names:=[],isGenerator:=false,isCoroutine:=false }
noncomputable abbrev aC:oO:=λ_ _ _ _ _ _=>False
noncomputable abbrev E0:XK:=λ_ _ _=>False
theorem gK:rG aC X E0:=λ_ _ _ _ _ _ _ h=>h.elim
structure aN(K:W.Frag)(x qual:Pa)(st:Pu)(f:OL)(fd:Qf):Prop where
 ex:∃(oc:OK) (od:Option OL) (kV doc pm:OK) (an:Option OL) (cdv ct:OK) (osl:Array<|Option OK),
  fd=W.fnOf x qual (zV st) (vb st) (aV st) .none kV doc pm an cdv ct/\K.lookup f=some ⟨oc,od,.func fd,osl⟩/\W.codeIn K cdv qual=true
 kp:W.keepIn K (.ref f)=true
section
variable {mg:Pa->Option OK}
theorem aN.ok{st:Pu}(F:aN K x qual st f fd)(S:aA N ps<|aV st)(len:∀vs H Q E,sp vs H Q E->vs.length=ps.length)
  (J:∀(z:OK) (A:Pb) (outer:List RQ) (s:ON) (H:Hp) (vs:List V) (Q:VK) (E:XK),aT k (A.deeper<|Rk qual (aV st) s.heap.objs.size f z)->sp vs H Q E-> ∃t,mP (bR aC P w K mg base N qual (aV st) f z A outer s H E).Wn (vb st) t/\t { nx:=λ_ H'=>Q .Ux H',rt:=Q } (start N vs) H):aH P w K mg base aC (k+1) f fd ps sp:=by
 obtain⟨oc,od,kV,Z,pm,an,z,ct,aa,rfl,lk,O⟩:=F.ex;refine Jt lk O S len λA outer s H vs Q E hr U=>?_;obtain⟨t,h,q⟩:=J z A outer s H vs Q E hr U;exact⟨t,h.Wn,q⟩
theorem aN.binds{st:Pu}(F:aN K x qual st f fd)
  (h:∀(kV z O:OK) (an:Option OL) (J ct:OK) (us:List OK),us.length=ps.length->bindArgs (W.fnOf x qual (zV st) (vb st) (aV st) .none kV z O an J ct) ⟨us,[]⟩=pure (ps.zip us)):Binds K fd ps []:=by
 obtain⟨oc,od,kV,z,O,an,J,ct,U,rfl,lk,Z⟩:=F.ex;exact .all<|h kV z O an J ct
theorem Mx{st:Pu}{Z:OK}{od an:Option OL}{O:Array<|Option OK}{J U z ct:OK}(l:K.lookup f=some ⟨Z,od,.func<|W.fnOf x qual (zV st) (vb st) (aV st) .none cd J U an z ct,O⟩)
  (c:W.codeIn K z qual=true) (k:W.keepIn K (.ref f)=true):aN K x qual st f<|W.fnOf x qual (zV st) (vb st) (aV st) .none cd J U an z ct:=⟨⟨Z,od,cd,J,U,an,z,ct,O,rfl,l,c⟩,k⟩
end
theorem EJ{A:Pb}(z:aT k A):A.units+1<Rx:=QS (Nat.add_le_add_left (by decide:1<=64) _) z.units
theorem rB{n:Nat}(h:n<=1000):n<sizeLine:=QS h<|by decide
section
theorem pv(i:Nat)(J:X.N[i]?=some x:=by rfl)(O:Hs X.env.scope x:=by first|exact Or.inl rfl|exact Or.inr (Or.inl rfl)|exact Or.inr<|Or.inr rfl)(U:(x==("__debug__":Pa))=false:=by decide)
  (z:(x==("__classdict__":Pa))=false:=by decide):PE X (.Name x pos)<|jV i:=D0 J O U z
end
def aD(H H':Hp):Prop:=∀b o,H b=some o->H' b=some o
theorem aD.refl(H:Hp):aD H H:=λ_ _ h=>h
theorem aD.trans{H2:Hp}(a:aD H H1)(b:aD H1 H2):aD H H2:=λc o h=>b c o<|a c o h
theorem aD.free(e:aD H H'){l:OL}(h:H' l=Option.none):H l=Option.none:=by
 cases q:H l with
 |none=>rfl
 |some o=>
  rw[e l o q] at h;cases h
theorem aD.seq(e:aD H H')(h:aB K H a xs):aB K H' a xs:=by
 rcases h with (h|⟨o,h⟩)|h
 .exact .inl (.inl<|e _ _ h)
 .exact .inl (.inr ⟨o,e _ _ h⟩)
 .exact .inr h
theorem natlt(h:a<b):@LT.lt Nat _ a b:=h
theorem wR{n:Nat}(h:a<n)(k:n<=b):a≠b:=fK<|mR h k
theorem FN:∀(names:List<|Pa×QU) (n:Nat) (acc:List<|Pa×OL),Qd n names acc=Qd n names []++acc
 |[]=>λ_ _=>rfl
 |(x,k)::r=>λn acc=>by
  unfold Qd;split
  .rw [FN r (n+1)<|(x,n)::acc,FN r (n+1) [(x,n)],jM];rfl
  .exact FN r n acc
theorem LX:∀(names:List<|Pa×QU) (n:Nat) (acc:List<|Pa×OL) (y:Pa) (c:OL),(y,c)∈Qd n names acc->(y,c)∈acc∨((y,NameKind.cell)∈names/\n<=c)
 |[]=>λ_ _ _ _ h=>.inl h
 |(x,k)::r=>λn acc y c h=>by
  unfold Qd at h;split at h
  .rename_i hk;have z:k=.cell:=by simpa using hk
   rcases LX r (n+1) _ y c h with h|⟨h,l⟩
   .rcases bC.mp h with e|h
    .cases e;subst z;exact .inr ⟨aU,aK _⟩
    .exact .inl h
   .exact .inr ⟨bA _ h,Nat.le_of_succ_le l⟩
  .rcases LX r n _ y c h with h|⟨h,l⟩
   .exact .inl h
   .exact .inr ⟨bA _ h,l⟩
noncomputable def pR(cells:List<|Pa×OL):List (Pa×QU)->List (Pa×OL)->List (Pa×OL)
 |[],acc=>acc
 |(x,k)::r,acc=>if k==.free then pR cells r ((x,(cells.lookup x).getD 0)::acc) else pR cells r acc
theorem Mi{cells:List<|Pa×OL}:∀(names:List<|Pa×QU) (acc:List<|Pa×OL) (y:Pa) (c:OL),(y,c)∈pR cells names acc->(y,c)∈acc∨((y,NameKind.free)∈names/\c=(cells.lookup y).getD 0)
 |[]=>λ_ _ _ h=>.inl h
 |(x,k)::r=>λacc y c h=>by
  unfold pR at h;split at h
  .rename_i hk;have z:k=.free:=by simpa using hk
   rcases Mi r _ y c h with h|⟨h,l⟩
   .rcases bC.mp h with e|h
    .cases e;subst z;exact .inr ⟨aU,rfl⟩
    .exact .inl h
   .exact .inr ⟨bA _ h,l⟩
  .rcases Mi r _ y c h with h|⟨h,l⟩
   .exact .inl h
   .exact .inr ⟨bA _ h,l⟩
theorem LJ{cells:List<|Pa×OL}:∀(names:List<|Pa×QU) (acc:List<|Pa×OL) (p:Pa×OL),p∈acc->p∈pR cells names acc
 |[]=>λ_ _ h=>h
 |(x,k)::r=>λacc p h=>by
  unfold pR;split
  .exact LJ r _ p (bA _ h)
  .exact LJ r _ p h
theorem LK{cells:List<|Pa×OL}:∀(names:List<|Pa×QU) (acc:List<|Pa×OL) (y:Pa),(y,NameKind.free)∈names->(y,(cells.lookup y).getD 0)∈pR cells names acc
 |[]=>λ_ _ h=>nomatch h
 |(x,k)::r=>λacc y h=>by
  unfold pR;rcases bC.mp h with e|h
  .cases e;rw[Z9<|by rfl];exact LJ r _ _ aU
  .split
   .exact LK r _ y h
   .exact LK r _ y h
theorem LZ{α:Type}:∀{l:List<|Pa×α} {y:Pa} {c:α},(y,c)∈l->∃c',l.lookup y=some c'
 |(k,v)::r,y,c,h=>by
  rw[BX];cases hb:y==k with
  |true=>exact⟨v,rfl⟩
  |false=>
   rcases bC.mp h with e|h
   .cases e;rw[beq_self_eq_true] at hb;cases hb
   .exact LZ h
theorem LY{env:RQ}(f:Pa×QU->List (Pa×OL)->TF (ForInStep<|List<|Pa×OL))
  (J:∀name kind cs,f (name,kind) cs=if kind==.free then(do let a <- cellOf env name;pure (.yield<|(name,a)::cs)) else pure (.yield cs)):
  ∀(names:List<|Pa×QU) (acc:List<|Pa×OL),(∀x,(x,NameKind.free)∈names->∃c,env.cells.lookup x=some c)->forIn names acc f=(pure (pR env.cells names acc):TF<|List<|Pa×OL)
 |[],acc,_=>by rw[Ff];rfl
 |(x,k)::r,acc,h=>by
  have O:∀x,(x,NameKind.free)∈r->∃c,env.cells.lookup x=some c:=λy U=>h y<|bA _ U;rw[List.forIn_cons,J];unfold pR;split
  .rename_i hk;have z:k=.free:=by simpa using hk
   subst z;obtain⟨c,hc⟩:=h x aU;have e:cellOf env x=(pure c:TF OL):=by unfold cellOf;rw[hc]
   rw[e,hc];exact LY f J r ((x,c)::acc) O
  .exact LY f J r acc O
theorem mK(h:∀x,(x,NameKind.free)∈scope.names->∃c,env.cells.lookup x=some c):closureFor scope env=pure (pR env.cells scope.names []):=by
 simp only[closureFor];rw[LY _ (λname kind cs=>by cases hk:kind==NameKind.free<;>simp[hk]) scope.names [] h];rfl
section
variable {M:Tt}{A:Pb}{E:OK->ON->Prop}
theorem qK{globals:OL}{cl:List<|Pa×OL}{Q:RQ->ON->Prop}
  (z:Q { scope:=scope,locals:=s.heap.objs.size,globals:=globals,cells:=Qd (s.heap.objs.size+1) scope.names cl,qual:=qual,func:=none,code:=env.code,frame:=env.frame,builtins:=env.builtins } { s with heap:=pushCells (s.heap.push { cls:=.type "dict",data:=.dict #[] }) scope.names }):
  OR M A (newFunctionEnv scope globals cl [] qual none .none<|some env) Q E s:=by
 simp only[newFunctionEnv,Option.isSome_some,if_true];refine OJ<|wpAny_alloc ?_;refine OJ<|wpAny_layCells _ (λname kind cells=>by cases hkc:kind==NameKind.cell<;>simp[hkc]) _ _ _ _ ?_;rw[show({ s with heap:=s.heap.push { cls:=.type "dict",data:=.dict #[] } }:ON).heap.objs.size=s.heap.objs.size+1 from Qo ..];rw[Ff];exact OJ<|OO<|OO z
end
theorem fQ(x:Pa):(relabel scope env).names.lookup x=(scope.names.lookup x).map λk=>if (k==.free&&env.scope.kind==.function&&env.kindOf x==some .cell)=true then NameKind.cell else k:=by
 unfold relabel;dsimp only;generalize scope.names=names;induction names with
 |nil=>rfl
 |cons p r ih=>
  obtain⟨n,k⟩:=p;rw[jC,BX (as:=r)];cases hx:x==n with
  |true=>
   have e:x=n:=beq_iff_eq.mp hx;subst e;by_cases hc:(k==NameKind.free&&env.scope.kind==.function&&env.kindOf x==some .cell)=true
   .simp only[hc,if_true,BX,hx,Dq]
   .simp only[hc,BW,if_false,BX,hx,Dq]
  |false=>
   by_cases hc:(k==NameKind.free&&env.scope.kind==.function&&env.kindOf n==some .cell)=true
   .simp only[hc,if_true,BX,hx];exact ih
   .simp only[hc,BW,if_false,BX,hx];exact ih
noncomputable def CZ(N:List Pa)(osc:QQ)(k:Nat)(js:List Nat)(N':List Pa)(sc:QQ):Bool:=
 decide (sc.kind=.function)&&decide (N'.length=k+js.length)&&decide N'.Nodup&&
 sc.names.all (λp=>decide (sc.names.lookup p.1=some p.2)&&(decide (p.2≠.free)||decide (osc.names.lookup p.1=some .cell)||decide (osc.names.lookup p.1=some .free)))&&
 (OT js.length).all (λi=>decide (js[i]?.bind (λj=>N[j]?)=N'[k+i]?)&&decide ((N'[k+i]?).bind (λy=>sc.names.lookup y)=some .free))
structure zK(N:List Pa)(osc:QQ)(k:Nat)(js:List Nat)(N':List Pa)(sc:QQ):Prop where
 kind:sc.kind=.function
 len:N'.length=k+js.length
 nd:N'.Nodup
 look:∀p∈sc.names,sc.names.lookup p.1=some p.2
 fr:∀y,(y,NameKind.free)∈sc.names->osc.names.lookup y=some .cell∨osc.names.lookup y=some .free
 js:∀i j,js[i]?=some j->∃y,N'[k+i]?=some y/\N[j]?=some y/\sc.names.lookup y=some .free
theorem CL{J:QQ}{N':List Pa}{sc:QQ}(h:CZ N J k js N' sc=true):zK N J k js N' sc:=by
 unfold CZ at h;simp only[rN,decide_eq_true_eq,List.all_eq_true,Bool.or_eq_true,pS] at h;obtain⟨⟨⟨⟨h1,h2⟩,h3⟩,O⟩,Z⟩:=h;refine⟨h1,h2,h3,λp hp=>(O p hp).1,λy hy=>?_,λi j U=>?_⟩
 .rcases (O _ hy).2 with (z|z)|z
  .exact absurd rfl z
  .exact .inl z
  .exact .inr z
 .have hi:i<js.length:=(gX.mp U).1;obtain⟨a,b⟩:=Z i hi;rw[U] at a;cases e:N'[k+i]? with
  |none=>rw[e] at b;cases b
  |some y=>
   rw[e] at a b;exact⟨y,rfl,a,b⟩
noncomputable def Iq(scope:QQ)(cl:List<|Pa×OL)(C:OL)(env:RQ):RQ:=
 { scope:=relabel scope env,locals:=C,globals:=env.globals,cells:=Qd (C+1) scope.names cl,qual:=env.qual,func:=none,code:=env.code,frame:=env.frame,builtins:=env.builtins }
noncomputable def rJ(X:Cx)(N':List Pa)(scope:QQ)(C:OL)(fp:List OL)(s2:ON)(H2:Hp):Cx where
 prog:=X.prog
 w:=X.w
 K:=X.K
 mg:=X.mg
 base:=X.base
 A:=X.A
 N:=N'
 s₀:=s2
 H₀:=H2
 env:=Iq scope (pR X.env.cells scope.names []) C X.env
 outer:=X.stack
 stack:=X.stack
 ex:=fp
 fn:=λx=>decide<|scope.names.lookup x=some .cell
 calm:=X.calm
 pn:=X.pn
 xe:=λ_ _=>False
noncomputable def up(k:Nat)(js:List Nat)(σ:St):St:=Pf k none++js.map λj=>(σ[j]?).getD none
section
variable {pins:List (OL×Qc)}{s2:ON}{N':List Pa}{fp:List OL}
theorem zu(hc:zK X.N X.env.scope k js N' scope)(I:Inv X pins σ H s2)(ad:∀b∈fp,mQ X pins H b)(ai:∀b∈fp,b<s2.heap.objs.size){h3:Ph}(hz:h3.objs.size=s2.heap.objs.size+1)(am:∀b o,s2.heap.get? b=some o->h3.get? b=some o):
  Inv (rJ X N' scope (s2.heap.objs.size+1) fp s2 H) [] (up k js σ) H { s2 with heap:=pushCells (h3.push { cls:=.type "dict",data:=.dict #[] }) scope.names }:=by
 have U:∀y,(y,NameKind.free)∈scope.names->∃c,X.env.cells.lookup y=some c:=λy hy=>I.ok.has y<|hc.fr y hy;have ae:=cellsFrom_ok scope.names (h3.push { cls:=.type "dict",data:=.dict #[] }) (s2.heap.objs.size+2) [] ⟨λ_ _ hm=>(nomatch hm),List.Pairwise.nil⟩ (by rw[Qo,hz];exact aK _);rw[Qo,hz] at ae;have O:∀y c,(Iq scope (pR X.env.cells scope.names []) (s2.heap.objs.size+1) X.env).cells.lookup y=some c->
   ((y,c)∈Qd (s2.heap.objs.size+2) scope.names []/\(y,NameKind.cell)∈scope.names/\s2.heap.objs.size+2<=c)∨((y,NameKind.free)∈scope.names/\X.env.cells.lookup y=some c):=λy c e=>by
  have m:=PN e;change (y,c)∈Qd (s2.heap.objs.size+1+1) scope.names _ at m;rw[FN] at m;rcases gN.mp m with m|m
  .rcases LX _ _ _ _ _ m with z|⟨z,l⟩
   .cases z
   .exact .inl ⟨m,z,l⟩
  .rcases Mi _ _ _ _ m with z|⟨z,l⟩
   .cases z
   .obtain ⟨c',e'⟩:=U y z;rw[e'] at l;exact .inr ⟨z,by rw[e'];exact congrArg some l.symm⟩
 have ah:∀y c,X.env.cells.lookup y=some c->c<s2.heap.objs.size:=λy c e=>by
  obtain⟨v,q⟩:=I.cell y c e;exact q.lt
 have Z:∀y,(y,NameKind.free)∈scope.names->∀c,X.env.cells.lookup y=some c->(Iq scope (pR X.env.cells scope.names []) (s2.heap.objs.size+1) X.env).cells.lookup y=some c:=λy hy c e=>by
  have m:(y,c)∈Qd (s2.heap.objs.size+1+1) scope.names (pR X.env.cells scope.names []):=by
   rw[FN];have q:=LK (cells:=X.env.cells) scope.names [] y hy;rw[e] at q;exact gM _ q
  obtain⟨c',q⟩:=LZ m;rcases O y c' q with ⟨_,z,_⟩|⟨_,z⟩
  .have z1:=hc.look _ z;have z2:=hc.look _ hy;rw[z1] at z2;cases z2
  .rw [e] at z;cases z;exact q
 have J:∀b o,s2.heap.get? b=some o->(pushCells (h3.push { cls:=.type "dict",data:=.dict #[] }) scope.names).get? b=some o:=λb o e=>SF _ _ b o<|OM _<|am b o e;refine⟨⟨I.ok.mod,hc.kind,I.ok.glob,I.ok.blt,lT _,λy z c h1 h2=>?_,λy hy=>?_,λy c h1 h2=>?_,I.ok.hd,I.ok.qt,I.ok.frames,.inl rfl,λb hb=>⟨?_,λy c e=>?_⟩,I.bs,cX I.ok.VU I.sz,λb o e hb=>?_,λb hb hs=>?_,I.stack,I.VB⟩,rfl,I.bare,Un.kept J,⟨λ_=>none,?_,λi y v e1 e2 e3=>?_⟩,λy c e=>?_,I.Uy.fresh<|lT _,λy c e=>?_,λp hp=>?_,I.Uy.kept J,?_⟩
 .
  rcases O y c h1 with ⟨a,_,l⟩|⟨_,a⟩<;>rcases O z c h2 with ⟨b,_,l'⟩|⟨_,b⟩
  .exact name_of_addr ae.apart a b
  .have:=natlt<|ah z c b;lia
  .have:=natlt<|ah y c a;lia
  .exact I.ok.inj y z c a b
 .
  have aa:(relabel scope X.env).names.lookup y=some .cell∨(relabel scope X.env).names.lookup y=some .free:=hy;rw[fQ] at aa;have q:scope.names.lookup y=some .cell∨scope.names.lookup y=some .free:=by
   cases e:scope.names.lookup y with
   |none=>rw[e] at aa;rcases aa with z|z<;>cases z
   |some kk=>
    rw[e] at aa;cases kk<;>first|exact .inl rfl|exact .inr rfl|(rcases aa with z|z<;>simp at z)
  rcases q with q|q
  .obtain ⟨c,e⟩:=KJ (n:=s2.heap.objs.size+1+1) q;have m:(y,c)∈Qd (s2.heap.objs.size+1+1) scope.names (pR X.env.cells scope.names []):=by
    rw[FN];exact kW _<|PN e
   exact LZ m
  .have m:=PN q;obtain⟨c,e⟩:=U y m;exact⟨c,Z y m c e⟩
 .
  have aj:scope.names.lookup y=some .cell:=of_decide_eq_true h1;rcases O y c h2 with ⟨_,_,l⟩|⟨z,_⟩
  .show s2.heap.objs.size<=c;lia
  .have:=hc.look _ z;rw[aj] at this;cases this
 .
  exact wR (ai b hb)<|lT _
 .rcases O y c e with ⟨_,_,l⟩|⟨_,z⟩
  .exact (wR (ai b hb)<|cX (Dn _ 2) l).symm
  .exact (ad b hb).2.2.2.2.1 y c z
 .
  rcases(ad b hb).2.2.2.1 with z|z
  .exact I.ok.VE b o e z
  .exact absurd (mR (OQ e)<|cX I.ok.VU z) (vo _)
 .
  rcases bC.mp (I.UO b hs) with z|z
  .exact (ad b hb).2.1 z
  .exact (ad b hb).2.2.1 z
 .
  have q:=(Heap.Ns.new h3<|.type "dict").keeps<|SF scope.names _;rw[hz] at q;exact q
 .
  unfold up at e2;have ag:k<=i:=by
   by_cases hi:i<k
   .rw [oQ (by simpa using hi),List.getElem?_replicate] at e2;rw[Z9 hi] at e2;cases e2
   .lia
  rw[kF (by simpa using ag),BY,dF] at e2;cases ej:js[i-k]? with
  |none=>rw[ej] at e2;cases e2
  |some j=>
   rw[ej] at e2;have ac:(σ[j]?).getD none=some v:=OS e2;have e4:σ[j]?=some (some v):=by
    cases q:σ[j]? with
    |none=>rw[q] at ac;cases ac
    |some z=>rw[q] at ac;exact congrArg some ac
   obtain⟨y',n1,n2,n3⟩:=hc.js _ _ ej;rw[Nat.add_sub_cancel' ag] at n1;have n0:N'[i]?=some y:=e1;rw[n1] at n0;cases n0;have hm:=PN n3;have af:Hs X.env.scope y:=.inr<|hc.fr y hm;obtain⟨m,hn,hl⟩:=I.loc;obtain⟨u,r,l⟩:=hl j y v n2 e4 af;refine⟨u,r,?_⟩;rcases l with ⟨kk,_⟩|⟨kk,c,ec,ic⟩
   .have ao:X.env.scope.names.lookup y=some .local:=kk;rcases hc.fr y hm with z|z<;>(rw[ao] at z;cases z)
   .refine .inr ⟨?_,c,Z y hm c ec,ic.keeps J⟩;show(relabel scope X.env).names.lookup y=some .cell∨(relabel scope X.env).names.lookup y=some .free;rw[fQ,n3];simp only[Dq];split
    .exact .inl rfl
    .exact .inr rfl
 .
  rcases O y c e with ⟨a,_,_⟩|⟨_,a⟩
  .exact ⟨none,(ae.empty y c a).1⟩
  .obtain ⟨v,q⟩:=I.cell y c a;exact⟨v,q.keeps J⟩
 .rcases O y c e with ⟨_,_,l⟩|⟨_,a⟩
  .exact I.Uy.fresh (by lia)
  .exact I.Uz y c a
 .
  have q:=I.pin p<|kW _<|(gN.mp hp).elim id λz=>nomatch z;exact⟨J _ _ q.1,q.2.1,wR (OQ q.1)<|lT _,λz=>(bC.mp<|I.UO _ z).elim q.2.2.1 q.2.2.2.1,q.2.2.2.2⟩
 .unfold up;show _=N'.length;rw[aW,BY,aJ,hc.len]
theorem zw{ad:St}{s':ON}{D:OL}{its:List OK}{n:Nat}{ys:List V}(I:Inv X pins σ H s2)(ae:∀b∈fp,mQ X pins H b)(hC:s2.heap.objs.size<=C)(hD:s2.heap.objs.size<=D)(ag:D≠C)
  (Z:Inv (rJ X N' scope C fp s2 H) [(D,{ cls:=.type "list",data:=.seq its.toArray n })] ad H' s') (hv:Vals ys its) (hz:ys.length<=sizeLine):
  H' D=none/\∀h',Pq C s'.heap h'->Inv X pins σ (upd H' D<|.lst ys) { s' with heap:=h' }:=by
 obtain⟨eD,nD,_,_,_⟩:=Z.pin (D,{ cls:=.type "list",data:=.seq its.toArray n })<|gM _ aU;dsimp only at eD nD;have nC:H' C=none:=Z.free;refine⟨nD,λh' hs=>?_⟩;have U:∀b o,s2.heap.get? b=some o->b≠C:=λb o e=>wR (OQ e) hC;have af:∀b o,s2.heap.get? b=some o->b≠D:=λb o e=>wR (OQ e) hD;have tr:∀b u,H' b=some u->b≠D:=λb u e z=>by rw[z,nD] at e;cases e
 have aa:∀b u,H' b=some u->b≠C:=λb u e z=>by rw[z,nC] at e;cases e
 have B:=Z.base;refine I.U8 (s':={ s' with heap:=h' }) (ch:=fp) Z.os ⟨λb o e nn J hx=>?_,λb o e nn J hx=>?_,λb o e nn hx=>?_,λb o e hx=>?_,λb xs e=>?_,λb o u e=>?_,λb ps e=>?_⟩ (λb u e=>?_) Z.bare λb J=>?_
 .exact (hs.2 b<|U b o e).trans (B.keep b o e nn J hx)
 .obtain ⟨sl,q⟩:=B.slot b o e nn J hx;exact⟨sl,(hs.2 b<|U b o e).trans q⟩
 .rw [aO<|af b o e];exact B.free b o e nn hx
 .obtain ⟨o',q⟩:=B.there b o e hx;exact⟨o',(hs.2 b<|U b o e).trans q⟩
 .have q:=B.UM b xs e;rw[aO<|tr b _ q];exact q
 .have q:=B.UI b o u e;rw[aO<|tr b _ q];exact q
 .obtain ⟨ac,q⟩:=B.UN b ps e;exact⟨ac,by rw[aO<|tr b _ q];exact q⟩
 .by_cases J:b=D
  .subst J;rw[aP] at e;cases e;exact⟨hz,its,n,hv,(hs.2 b ag).trans eD⟩
  .rw [aO J] at e;refine(Z.Uy b u e).U1 (λc v O q=>(hs.2 c ?_).trans q) (λc q=>by rw[aO<|tr c _ q];exact q) λc xs q=>by rw[aO<|tr c _ q];exact q
   rcases O with rfl|O
   .exact aa c _ e
   .exact aa c _ O
 .obtain ⟨_,f1,_,f3,f4,f5⟩:=ae b J;exact⟨f3,f1,f4,f5⟩
end
section
variable {prog:OZ}{A:Pb}{R:Result->ON->Prop}
theorem fT{elt z iter:PM}{ifs:List PM}{it acc:OK}(I:Nat->ON->Prop)
  (turn:∀n s,I n s->OR (OV prog w) A (Sx it) (λr s₁=>match r with
   |none=>R (.ok .next) s₁
   |some v=>OR (OV prog w) A (QV z it v) (λ_ O=>OR (OV prog w) A (assign z env v) (λ_ s₂=>OR (OV prog w) A (forIn ifs true λc r=>if r=true then do let ok <- isTrue c env (eval c env);pure (ForInStep.yield ok) else pure (ForInStep.yield r)) (λok J=>if ok=true then OR (OV prog w) A (eval elt env) (λx U=>OR (OV prog w) A (call (.builtin "list.append") [acc,x]) (λ_ aa=>∃m,m<n/\I m aa) (Ug (OV prog w) A env λe s'=>R (.error e) s') U) (Ug (OV prog w) A env λe s'=>R (.error e) s') J else ∃m,m<n/\I m J) (Ug (OV prog w) A env λe s'=>R (.error e) s') s₂) (Ug (OV prog w) A env λe s'=>R (.error e) s') O) (Ug (OV prog w) A env λe s'=>R (.error e) s') s₁) (Ug (OV prog w) A env λe s'=>R (.error e) s') s)
  (n:Nat) (h:I n s):
  QW (OV prog w) A (.compLoop (.ListComp elt [⟨z,iter,ifs,0⟩] scope pos) 0 it acc env) R s:=by
 refine codeAny_loop rfl I (λn s hI=>?_) n h;show OR _ A ((compTurn (.ListComp elt [⟨z,iter,ifs,0⟩] scope pos) 0 it acc env).onRaise (λx=>do Sj x env;theTreesLotGoes x)) _ _ s;refine wpAny_noted ?_;rw[compTurn_list];refine OJ<|Rm<|OJ<|Pj (turn n s hI) (λr s₁ Z=>?_) λ_ _ h'=>h';cases r with
 |none=>exact OO Z
 |some v=>
  refine OJ<|Pj Z (λ_ O ad=>?_) λ_ _ h'=>h';refine OJ<|Pj ad (λ_ s₂ af=>OJ<|Pj af (λok J ac=>?_) λ_ _ h'=>h') λ_ _ h'=>h';cases ok with
  |false=>exact OO ⟨rfl,ac⟩
  |true=>exact OJ<|OJ<|Pj ac (λx U ae=>OJ<|Pj ae (λ_ aa ag=>OO<|OO ⟨rfl,ag⟩) λ_ _ h'=>h') λ_ _ h'=>h'
end
def zI(X:Cx)(ifs:List PM)(t:TT):Prop:=
 ∀(pins:List<|OL×Qc) (s:ON) (σ:St) (H:Hp) (Q:Bool->Hp->Prop),Inv X pins σ H s->t σ H Q->
  OR (OV X.prog X.w) X.A (forIn ifs true λc r=>if r=true then do let ok <- isTrue c X.env (eval c X.env);pure (ForInStep.yield ok) else pure (ForInStep.yield r)) (TP X pins σ Q) X.xe s
def xv:TT:=λ_ H Q=>Q true H
theorem Hi:zI X [] xv:=λ_ _ _ H _ I h=>wpAny_tests_nil ⟨H,I,h⟩
theorem Lh{c:PM}{t:TT}(hc:PT X c t):zI X [c] t:=λpins s σ H Q I h=>wpAny_tests_one<|hc pins s σ H Q I h
def zC(k:Nat)(js:List Nat)(wi:TI)(g:TG)(tt:TT)(te:TE):TE:=λσ H Q=>wi σ H λJ H1=>∃W:Nat->Nat->List V->St->Hp->Prop,(∃m,W 0 m [] (up k js σ) H1)/\∀i m ys σ H,W i m ys σ H->
 (J.stop i H/\ys.length<=sizeLine/\∀p,H p=none->Q (.ref p) (upd H p<|.lst ys))∨
 (J.go i H/\ys.length<sizeLine/\∀x H',J.VI i H x H'->g x σ H' λσ2 H2=>tt σ2 H2 λb H3=>if b=true then te σ2 H3 λy H4=>∃m',m'<m/\W (i+1) m' (ys++[y]) σ2 H4 else ∃m',m'<m/\W (i+1) m' ys σ2 H3)
section
variable {N':List Pa}{tg iter elt:PM}{ifs:List PM}{wi:TI}
theorem nX{use:Option<|OK->TF Unit}{Q':OK->ON->Prop}(bj:X.calm=X.calm)(hc:zK X.N X.env.scope k js N' scope)(hi:PI X tg iter wi)
  (hg:∀C fp s2 H2,PG (rJ X N' scope C fp s2 H2) tg g) (ht:∀C fp s2 H2,zI (rJ X N' scope C fp s2 H2) ifs tt) (he:∀C fp s2 H2,PE (rJ X N' scope C fp s2 H2) elt te)
  {pins:List<|OL×Qc} (I:Inv X pins σ H s) (h:zC k js wi g tt te σ H Q)
  (fin:∀(C D:OL) (s':ON) (m:Pa->Option OK) (H':Hp) (ys:List V),s'.heap.Ns C m->C≠X.env.locals->C∉X.fs->D≠C->H' C=none->X.s₀.heap.objs.size<=C->(∀x c,X.env.cells.lookup x=some c->c≠C)->(∀p∈X.pn++pins,p.1≠C)->(∀h',Pq C s'.heap h'->Inv X pins σ (upd H' D<|.lst ys) { s' with heap:=h' })->Q (.ref D) (upd H' D<|.lst ys)-> compPost (OV X.prog X.w) X.A X.xe use Q' (.ref D) C (.ok .next) s')
  (hs:∀x,QG iter X.env x=pure x) (p':Sq):
  OR (OV X.prog X.w) X.A (comprehension (.ListComp elt [⟨tg,iter,ifs,0⟩] scope pos) scope X.env p' (newList []) false (eval iter X.env) use) Q' X.xe s:=by
 have aq:closureFor scope X.env=pure (pR X.env.cells scope.names []):=mK λy hy=>I.ok.has y<|hc.fr y hy;refine wpAny_comprehension_free (g:=⟨tg,iter,ifs,0⟩) (gs:=[]) rfl hs aq hc.kind (λx hx hl=>by rw[hc.look x hx,hl]) ?_;refine thn (hi pins s σ H _ I h) λv s1 h1=>thn h1 λbt s2 h2=>?_;obtain⟨it,fp,tn,J,H2,e,I2,T,as,f2,W,⟨m0,w0⟩,turn⟩:=h2;subst e;have av:∀b∈fp,b<s2.heap.objs.size:=λb Z=>by
  obtain⟨o,e,_⟩:=T.obj _ _ as b Z;exact OQ e
 refine Ra<|qK ?_;have b7:(s2.heap.push { cls:=.type "list",dict:=none,data:=.seq ([]:List OK).toArray }).objs.size=s2.heap.objs.size+1:=Qo ..;have I3:=zu (h3:=s2.heap.push { cls:=.type "list",dict:=none,data:=.seq ([]:List OK).toArray }) hc I2 f2 av b7 λb o e=>OM _ e;dsimp only;rw[b7];generalize XJ:({ s2 with heap:=pushCells ((s2.heap.push { cls:=.type "list",dict:=none,data:=.seq ([]:List OK).toArray }).push { cls:=.type "dict",data:=.dict #[] }) scope.names }:ON)=s4 at I3⊢;have ac:∀b o,s2.heap.get? b=some o->s4.heap.get? b=some o:=λb o e=>by
  rw[<- XJ];exact SF _ _ b o<|OM _<|OM _ e
 have aw:s4.heap.get? s2.heap.objs.size=some { cls:=.type "list",data:=.seq ([]:List OK).toArray 0 }:=by
  rw[<- XJ];exact SF _ _ _ _<|OM _<|OW _ rfl
 generalize VJ:rJ X N' scope (s2.heap.objs.size+1) fp s2 H2=X' at I3;have ae:X'.env.locals=s2.heap.objs.size+1:=by rw[<- VJ];rfl
 have ah:X'.fs=frs X.stack:=by rw[<- VJ];rfl
 have au:∀a,s2.heap.objs.size<=a->a∉frs X.stack:=λa ha Z=>by
  rcases bC.mp (I2.UO a Z) with z|z
  .exact absurd z.symm (wR I2.lt ha)
  .exact I2.WM ha z
 have ao:∀x c,X'.env.cells.lookup x=some c->c≠s2.heap.objs.size:=λx c e z=>by
  obtain⟨v,o,ho,hd⟩:=I3.cell x c e;rw[z,aw] at ho;cases ho;cases hd
 have ai:∀{O:St} {H':Hp} {s':ON} {its:List OK} {n:Nat},Inv X' [] O H' s'->s'.heap.get? s2.heap.objs.size=some { cls:=.type "list",data:=.seq its.toArray n }->H' s2.heap.objs.size=none->
   Inv X' [(s2.heap.objs.size,{ cls:=.type "list",data:=.seq its.toArray n })] O H' s':=fun {O H' s' its n} J e nn=>J.UU λp hp=>by
  have e':p=(s2.heap.objs.size,{ cls:=.type "list",data:=.seq its.toArray n }):=by simpa using hp
  subst e';refine⟨e,nn,?_,?_,λv z=>nomatch z⟩
  .rw [ae];exact fK<|xi _
  .rw [ah];exact au _<|aK _
 have I4:=ai I3 aw<|I2.Uy.fresh<|aK _;have ad:∀{H':Hp} {o:Qc},(∀b∈fp,H' b=none)->∀b∈fp,mQ X' [(s2.heap.objs.size,o)] H' b:=fun {H' o} hn b Z=>by
  have b8:=av b Z;refine⟨hn b Z,?_,?_,.inl (by rw[<- VJ];exact Z),λx c e z=>?_,λp hp z=>?_⟩
  .rw [ae];exact wR b8<|lT _
  .rw [ah];intro z;rcases bC.mp (I2.UO b z) with q|q
   .exact (f2 b Z).2.1 q
   .exact (f2 b Z).2.2.1 q
  .have q:=I3.ok.Xa b (by rw[<- VJ];exact Z);exact q.2 x c e z
  .rcases gN.mp hp with hp|hp
   .exact (f2 b Z).2.2.2.2.2 p (kW _<|by rw[<- VJ] at hp;exact hp) z
   have e':p=(s2.heap.objs.size,o):=by simpa using hp
   subst e';exact absurd b8<|by rw[<- z];exact vo _
 have b3:∀{O:St} {H':Hp} {s':ON} {its:List OK} {n:Nat} {ys:List V},Inv X' [(s2.heap.objs.size,{ cls:=.type "list",data:=.seq its.toArray n })] O H' s'->Vals ys its->ys.length<=sizeLine->(∀p,H' p=none->Q (.ref p) (upd H' p<|.lst ys))->
   compPost (OV X.prog X.w) X.A X.xe use Q' (.ref s2.heap.objs.size) (s2.heap.objs.size+1) (.ok .next) s':=fun {O H' s' its n ys} J hv hz hq=>by
  obtain⟨m,hn,_⟩:=id J.loc;rw[ae] at hn;have nC:H' (s2.heap.objs.size+1)=none:=by rw[<- ae];exact J.free
  have J':Inv (rJ X N' scope (s2.heap.objs.size+1) fp s2 H2) [(s2.heap.objs.size,{ cls:=.type "list",data:=.seq its.toArray n })] O H' s':=by rw[VJ];exact J
  obtain⟨nD,E⟩:=zw I2 f2 (lT _) (aK _) (fK<|xi _) J' hv hz;refine fin _ _ s' m H' ys hn ?_ (I2.WM<|lT _) (fK<|xi _) nC (cX I2.sz<|lT _) (λx c e z=>?_) (λp hp z=>?_) E<|hq _ nD
  .exact (wR I2.lt<|lT _).symm
  .obtain ⟨v,q⟩:=I2.cell x c e;exact absurd z<|wR q.lt<|lT _
  .exact absurd z (wR (OQ (I2.pin p hp).1)<|lT _)
 have U:X'.prog=X.prog:=by rw[<- VJ];rfl
 have hw:X'.w=X.w:=by rw[<- VJ];rfl
 have hK:X'.K=X.K:=by rw[<- VJ];rfl
 have aa:X'.calm=X.calm:=by rw[<- VJ];rfl
 have hA:X'.A=X.A:=by rw[<- VJ];rfl
 have b2:Iq scope (pR X.env.cells scope.names []) (s2.heap.objs.size+1) X.env=X'.env:=by rw[<- VJ];rfl
 have ax:=hg (s2.heap.objs.size+1) fp s2 H2;have ay:=ht (s2.heap.objs.size+1) fp s2 H2;have b4:=he (s2.heap.objs.size+1) fp s2 H2;rw[VJ] at ax ay b4;have am:∀e s',X'.xe e s'->False:=λe s' z=>by rw[<- VJ] at z;exact z
 have be:∀p∈X'.pn,p.1≠s2.heap.objs.size:=λp hp=>wR (OQ (I2.pin p<|kW _<|by rw[<- VJ] at hp;exact hp).1)<|aK _;have bo:X'.s₀.heap.objs.size=s2.heap.objs.size:=by rw[<- VJ];rfl
 have aj:QW (OV X.prog X.w) X.A (.compLoop (.ListComp elt [⟨tg,iter,ifs,0⟩] scope pos) 0 (.ref it) (.ref s2.heap.objs.size) X'.env) (compPost (OV X.prog X.w) X.A X.xe use Q' (.ref s2.heap.objs.size)<|s2.heap.objs.size+1) s4:=by
  refine fT (λn s'=>L2.X6 λi O H' its nn ys=>Inv X' [(s2.heap.objs.size,{ cls:=.type "list",data:=.seq its.toArray nn })] O H' s'/\tn i s'.heap/\(∀b∈fp,H' b=none)/\Vals ys its/\W i n ys O H') ?_ m0
   ⟨0,_,H2,[],0,[],I4,T.keep _ _ _ as λb _ o e=>ac b o e,λb Z=>(f2 b Z).1,.nil,w0⟩
  rintro n s5 ⟨i,ag,H5,its,nn,ys,I5,b9,b0,hv,w5⟩;rcases turn i n ys ag H5 w5 with ⟨stop,hz,hq⟩|⟨go,hz,step⟩
  .have d:=T.done X' U hw hK aa i _ s5 ag H5 (λ_ _=>False) I5 (ad b0) b9 stop;rw[hA] at d;refine Pj d (λr s6 zz=>?_) λ_ _ z=>z.elim;obtain⟨hr,I6⟩:=zz;subst hr;exact b3 I6 hv hz hq
  .have d:=T.item X' U hw hK aa i _ s5 ag H5 (λ_ _=>False) I5 (ad b0) b9 go;rw[hA] at d;refine Pj d (λr s6 zz=>?_) λ_ _ z=>z.elim;obtain⟨u,hr,h6⟩:=zz;subst hr;refine Pj h6 (λ_ s7 zz=>?_) λ_ _ z=>z.elim;obtain⟨x,H7,I7,r7,y7,ap,bi⟩:=zz;have br:=I7.pinned (ad bi)<|T.obj _ _ ap;have a1:=ax _ s7 ag H7 x u _ br r7<|step x H7 y7;rw[U,hw,hA] at a1;refine Pj a1 (λ_ s8 zz=>?_) λ_ _ z=>(am _ _ z).elim;obtain⟨af,H8,I8,q8⟩:=zz;have a2:=ay _ s8 af H8 _ I8 q8;rw[U,hw,hA] at a2;refine Pj a2 (λok s9 zz=>?_) λ_ _ z=>(am _ _ z).elim;obtain⟨H9,I9,q9⟩:=zz;have back:∀{O:St} {H':Hp} {s':ON},Inv X' ([(s2.heap.objs.size,({ cls:=.type "list",data:=.seq its.toArray nn }:Qc))]++G6 fp s7.heap) O H' s'->tn (i+1) s'.heap/\(∀b∈fp,H' b=none):=fun {O H' s'} J=>by
    refine⟨T.keep _ _ _ ap λb Z o e=>(J.pin (b,o)<|gM _<|gM _<|IY Z e).1,λb Z=>?_⟩;obtain⟨o,e,d⟩:=T.obj _ _ ap b Z;exact(J.pin (b,o)<|gM _<|gM _<|IY Z e).2.1
   cases ok with
   |false=>
    rw[Z8 kG] at q9⊢;obtain⟨m',hm,w9⟩:=q9;obtain⟨t9,f9⟩:=back I9;exact⟨m',hm,i+1,af,H9,its,nn,ys,I9.UG,t9,f9,hv,w9⟩
   |true=>
    rw[Z9 rfl] at q9⊢;have a3:=b4 _ s9 af H9 _ I9 q9;rw[U,hw,hA] at a3;refine Pj a3 (λuy s10 zz=>?_) λ_ _ z=>(am _ _ z).elim;obtain⟨y,b6,ba,bn,m',hm,bp⟩:=zz;obtain⟨bd,bf⟩:=back ba;have b5:=ba.UG;obtain⟨eD,nD,_,_,_⟩:=b5.pin (s2.heap.objs.size,{ cls:=.type "list",data:=.seq its.toArray nn })<|gM _ aU;dsimp only at eD nD;have hsz:its.length<sizeLine:=by rw[<- hv.length];exact hz
    refine wpAny_list_append_plain ⟨nn,eD⟩ (λh' bc az=>?_) (by rw[iB];lia);obtain⟨n',e'⟩:=bc;have bq:h'.get? s2.heap.objs.size=some { cls:=.type "list",data:=.seq (its++[uy]).toArray n' }:=by rw[e'];simp
    have bh:Inv X' [] af b6 s10:=b5.UU λp hp=>absurd hp (by simp);have bg:=bh.turned (h':=h') (t':=s10.toks) (it:=s2.heap.objs.size) (λb o Z e=>(az.2 b Z).trans e) nD (by rw[ae];exact fK<|xi _) (.inr<|by rw[bo];exact aK _) ao λp hp=>(gN.mp hp).elim (be p) λz=>nomatch z;refine⟨m',hm,i+1,af,b6,its++[uy],n',ys++[y],ai bg bq nD,T.keep _ _ _ bd λb Z o e=>?_,bf,hv.append<|.cons bn .nil,bp⟩;exact(az.2 b<|wR (av b Z)<|aK _).trans e
 have b1:QW (OV X.prog X.w) X.A (.compStart (.ListComp elt [⟨tg,iter,ifs,0⟩] scope pos) 0 (.ref it) (.ref s2.heap.objs.size) X'.env) (compPost (OV X.prog X.w) X.A X.xe use Q' (.ref s2.heap.objs.size)<|s2.heap.objs.size+1) s4:=
  codeAny_compStart_list aj<|T.self X.A 0 s4 _ _ (T.keep _ _ _ as λb _ o e=>ac b o e) aj
 rw[<- b2] at b1;exact b1
theorem IS(z:X.calm=X.calm)(hc:CZ X.N X.env.scope k js N' scope=true)(hi:PI X tg iter wi)
  (hg:∀C fp s2 H2,PG (rJ X N' scope C fp s2 H2) tg g) (O:∀C fp s2 H2,zI (rJ X N' scope C fp s2 H2) ifs tt) (Z:∀C fp s2 H2,PE (rJ X N' scope C fp s2 H2) elt te)
  (U:∀x,QG iter X.env x=pure x:=by intro _;rfl):PE X (.ListComp elt [⟨tg,iter,ifs,0⟩] scope pos)<|zC k js wi g tt te:=by
 intro pins s σ H Q I h;rw[eval_ListComp];refine nX (use:=none) z (CL hc) hi hg O Z I h (λC D s' m H' ys hn _ _ _ _ _ _ _ E q=>?_) U _;exact⟨m,hn,λh' J=>⟨.ref D,_,E h' J,rfl,q⟩⟩
theorem Ja{i:Nat}{px U:Sq}(hN:X.N.Nodup)(aa:X.N[i]?=some x)(hx:Loc X.env.scope x)(Z:X.calm=X.calm)(hc:CZ X.N X.env.scope k js N' scope=true)(hi:PI X tg iter wi)
  (hg:∀C fp s2 H2,PG (rJ X N' scope C fp s2 H2) tg g) (ht:∀C fp s2 H2,zI (rJ X N' scope C fp s2 H2) ifs tt) (he:∀C fp s2 H2,PE (rJ X N' scope C fp s2 H2) elt te)
  (hs:∀x,QG iter X.env x=pure x:=by intro _;rfl) (ac:RM (.ListComp elt [⟨tg,iter,ifs,0⟩] scope pos) (some<|.Name x px) U.line X.env=pure true:=by rfl)
  (hf:X.fn x=true∨X.env.scope.names.lookup x=some .local:=by first|exact .inl rfl|exact .inr rfl|assumption):
  PS X (.Assign [.Name x px] (.ListComp elt [⟨tg,iter,ifs,0⟩] scope pos) U)<|vC (zC k js wi g tt te)<|wO i:=by
 intro pins s σ H D I h;rw[exec_Assign_Name_used _ _ _ _ ac];refine OJ<|Rm<|OJ ?_;show OR _ X.A (do let _ <- comprehension (.ListComp elt [⟨tg,iter,ifs,0⟩] scope pos) scope X.env _ (newList []) false (eval iter X.env) (some<|assign (.Name x px) X.env)) _ _ s;refine OJ<|Pj (nX (use:=some<|assign (.Name x px) X.env) (Q':=λ_ s'=>SP X pins D .next s') Z (CL hc) hi hg ht he I h (λC Dd s' m H' ys hn c1 c2 c3 c4 c5 c6 c7 E q=>?_) hs _) (λ_ s' hq=>OO<|OO hq) λ_ _ e=>e;have J:=E s'.heap (.refl ..);obtain⟨oC,es,ep,eC,dC,rC⟩:=id hn;have J':Inv X (pins++[(C,oC)]) σ (upd H' Dd<|.lst ys) s':=J.UU λp hp=>by
  rcases gN.mp hp with z|z
  .exact J.pin p (gM _ z)
  .have e':p=(C,oC):=by simpa using z
   subst e';refine⟨eC,?_,c1,c2,λv z=>?_⟩
   .show upd H' Dd _ C=none;rw[aO<|OY c3];exact c4
   .have z':oC.data=.cell v:=z;rw[dC] at z';cases z'
 show OR _ X.A (assign (.Name x px) X.env<|.ref Dd) _ _ _;refine wpAny_assign_Name<|IP (Q:=λ_ O=>∃m,O.heap.Ns C m/\∀h',Pq C O.heap h'->SP X pins D .next { O with heap:=h' }) J' hN aa hx (v:=.ref Dd) (u:=.ref Dd) rfl (λO K'=>?_) hf;obtain⟨e2,n2,_,_,_⟩:=K'.pin (C,oC)<|gM _<|gM _ aU;dsimp only at e2 n2;refine⟨m,⟨oC,es,ep,e2,dC,rC⟩,λh' ad=>⟨_,_,K'.UG.turned (it:=C) (t':=O.toks) (λb o hb e=>(ad.2 b hb).trans e) n2 c1 (.inr c5) c6 c7,q⟩⟩
end
mutual
def Dp(K:W.Frag)(H:Hp):R8->V->Prop
 |.none,v=>v=.Ux
 |.bool b,v=>v=.bl b
 |.int i,v=>v=.int i
 |.str x,v=>v=.str x
 |.list ds,v=>∃a xs,v=.ref a/\aB K H a xs/\bW K H ds xs
 |.tuple ds,v=>∃a xs,v=.ref a/\bG K H a xs/\bW K H ds xs
 |.dict _,_=>False
def bW(K:W.Frag)(H:Hp):List R8->List V->Prop
 |[],vs=>vs=[]
 |d::ds,vs=>∃v r,vs=v::r/\Dp K H d v/\bW K H ds r
end
theorem bW.nil:bW K H [] []:=by unfold bW;rfl
theorem bW.cons{K:W.Frag}{H:Hp}{d:R8}{ds:List R8}{v:V}{vs:List V}(a:Dp K H d v)(t:bW K H ds vs):bW K H (d::ds)<|v::vs:=by unfold bW;exact⟨v,vs,rfl,a,t⟩
theorem bW.ints{K:W.Frag}{H:Hp}:∀(ns:List Int),bW K H (ns.map Sz) (ns.map V.int)
 |[]=>.nil
 |n::r=>.cons (by unfold Dp;rfl)<|bW.ints r
theorem Ie(i:Int):Dp K H (.int i)<|.int i:=by unfold Dp;rfl
theorem Kf{ds:List R8}(h:aB K H a xs)(t:bW K H ds xs):Dp K H (.list ds)<|.ref a:=by unfold Dp;exact⟨a,xs,rfl,h,t⟩
theorem Kg{ds:List R8}(h:bG K H a xs)(t:bW K H ds xs):Dp K H (.tuple ds)<|.ref a:=by unfold Dp;exact⟨a,xs,rfl,h,t⟩
section
variable {pins:List (OL×Qc)}
mutual
theorem Inv.reads(I:Inv X pins σ H s):∀{d:R8} {v:V} {u:OK},Dp X.K H d v->RelV v u->∃as,Reads s.heap u d as
 |.none,_,_,h,r=>by unfold Dp at h;subst h;cases(show _=Value.none from r);exact⟨_,.none⟩
 |.bool b,_,_,h,r=>by unfold Dp at h;subst h;cases(show _=Value.bool b from r);exact⟨_,.bool b⟩
 |.int i,_,_,h,r=>by unfold Dp at h;subst h;obtain⟨t,q⟩:=(show ∃t,_=Value.int i t from r);subst q;exact⟨_,.int i t⟩
 |.str x,_,_,h,r=>by unfold Dp at h;subst h;obtain⟨t,q⟩:=(show ∃t,_=Value.str x t from r);subst q;exact⟨_,.str x t⟩
 |.list ds,_,_,h,r=>by
  unfold Dp at h;obtain⟨a,xs,q,J,t⟩:=h;subst q;cases(show _=Value.ref a from r);obtain⟨its,rv,pl,_⟩:=I.list J;obtain⟨as,ra⟩:=Inv.readsAll I t rv;obtain⟨o,n,z,e2,_,e3⟩:=pl;exact⟨_,.list z e2 e3<|by simpa using ra⟩
 |.tuple ds,_,_,h,r=>by
  unfold Dp at h;obtain⟨a,xs,q,J,t⟩:=h;subst q;cases(show _=Value.ref a from r);obtain⟨its,rv,pl,_⟩:=I.tuple J;obtain⟨as,ra⟩:=Inv.readsAll I t rv;obtain⟨o,z,e2,n,e3⟩:=pl;exact⟨_,.tuple z e2 e3<|by simpa using ra⟩
 |.dict _,_,_,h,_=>by unfold Dp at h;exact h.elim
theorem Inv.readsAll(I:Inv X pins σ H s):∀{ds:List R8} {vs:List V} {us:List OK},bW X.K H ds vs->Vals vs us->∃as,ReadsAll s.heap us ds as
 |[],_,_,h,r=>by unfold bW at h;subst h;cases r;exact⟨_,.nil⟩
 |_::_,_,_,h,r=>by
  unfold bW at h;obtain⟨v,q,e,a,t⟩:=h;subst e;cases r with
  |cons r1 r2=>
   obtain⟨as,h1⟩:=Inv.reads I a r1;obtain⟨bs,h2⟩:=Inv.readsAll I t r2;exact⟨_,.cons h1 h2⟩
end
inductive AD(K:W.Frag):V->V->Hp->VK->Prop
 |mk {x_ y_ L Y} (d e:_):Dp K L d x_->Dp K L e y_->d.canLay0=true->e.canLay0=true->d.depth<=64->Y (.bl<|SD d e) L->AD K x_ y_ L Y
inductive AA(K:W.Frag):V->V->Hp->VK->Prop
 |mk {x_ y_ L Y} (d e:_):Dp K L d x_->Dp K L e y_->d.canLay0=true->e.canLay0=true->d.depth<=64->Y (.bl<|!PyData.eqv d e) L->AA K x_ y_ L Y
theorem Io(Z:X.A.units+64<Rx):iW X (PR .Eq)<|AD X.K:=by
 intro pins s σ H x y v u Q I O z h;obtain⟨d,e,h1,h2,c1,c2,U,q⟩:=h;obtain⟨as,ra⟩:=I.reads h1 O;obtain⟨bs,J⟩:=I.reads h2 z;exact SeqAt.compareEq_reads ra J c1 c2 (by lia) ⟨.bl _,H,I,rfl,q⟩
theorem JR(Z:X.A.units+64<Rx):iW X (PR .NotEq)<|AA X.K:=by
 intro pins s σ H x y v u Q I O z h;obtain⟨d,e,h1,h2,c1,c2,U,q⟩:=h;obtain⟨as,ra⟩:=I.reads h1 O;obtain⟨bs,J⟩:=I.reads h2 z;exact SeqAt.compareNe_reads ra J c1 c2 (by lia) ⟨.bl _,H,I,rfl,q⟩
end
section
theorem Kr{y:Int}(J:Gl X x)(h:∃t,X.mg x=some (.int y t))(z:(x==("__debug__":Pa))=false:=by decide):PE X (.Name x pos)<|tC<|.int y:=by
 obtain⟨t,e⟩:=h;exact AM J e ⟨t,rfl⟩ z
theorem JT{n:String}(O:Gl X x)(hm:X.mg x=none)(z:Rc x=some (.type n))(hn:x≠"__name__":=by decide)(J:(x==("__debug__":Pa))=false:=by decide):PE X (.Name x pos)<|tC<|.ty n:=AQ O hm z rfl hn J
end
structure Fn(P:OZ)(w:Pp)(K:W.Frag)(mg:Pa->Option OK)(base:Ph)(CX:oO)(x:Pa)(k:Nat)(ps:List Pa)(sp:Sp):Prop where
 ex:∃f fd,aH P w K mg base CX k f fd ps sp/\Binds K fd ps []/\W.keepIn K (.ref f)=true/\mg x=some (.ref f)
structure Mt(P:OZ)(w:Pp)(K:W.Frag)(mg:Pa->Option OK)(base:Ph)(CX:oO)(C:OL)(m:Pa)(k:Nat)(ps:List Pa)(sp:Sp):Prop where
 cl:fW K C
 ex:∃f fd,aH P w K mg base CX k f fd ps sp/\Binds K fd ps []/\Meth K C m f
structure Kl(P:OZ)(w:Pp)(K:W.Frag)(mg:Pa->Option OK)(base:Ph)(CX:oO)(x:Pa)(C:OL)(k:Nat)(ps:List Pa)(sp:Sp):Prop where
 Xd:mg x=some (.ref C)
 ex:∃f fd,aH P w K mg base CX k f fd ps sp/\Binds K fd ps []/\Mk K C f
section
variable {E:XK}{m:Pa}{p apos:Sq}{e o:PM}{es:List PM}{t:TA}
theorem wG(F:Fn X.prog X.w X.K X.mg X.base CX x k ps sp)(U:aT k X.A)(Z:Gl X x)(hx:rG CX X E)(ha:PA X (e::es) t)(z:(x==("__debug__":Pa))=false:=by decide)(O:OU (e::es) X.env=(false,eval e X.env)::OU es X.env:=by rfl)(J:(P5 pos<|OU es X.env).any (·.1)=false:=by rfl):
  PE X (.Call (.Name x p) (e::es) [] pos)<|GW sp [] E t:=by
 obtain⟨f,fd,h1,h2,h3,h4⟩:=F.ex;exact uw h1 U Z h4 h3 h2 .nil hx ha z O J
theorem JD{pl:TF Bool}(F:Mt X.prog X.w X.K X.mg X.base CX C m k ps sp)(U:aT k X.A)(hx:rG CX X E)(O:PE X o ta)(ha:PA X (e::es) t)
  (z:OU (e::es) X.env=(false,eval e X.env)::OU es X.env:=by rfl) (J:(P5 pos<|OU es X.env).any (·.1)=false:=by rfl)
  (Z:eval (.Call (.Attribute o m apos) (e::es) [] pos) X.env=(do
   let ov <- eval o X.env
   R1 apos.atName
   let (f,first) <- holding [ov] (Rj ov m pl)
   SY pos f first (P5 pos<|OU (e::es) X.env) (Sk pos<|Q5 [] X.env)):=by rfl):
  PE X (.Call (.Attribute o m apos) (e::es) [] pos)<|FD C m sp [] E ta t:=by
 obtain⟨f,fd,h1,h2,h3⟩:=F.ex;exact AL O F.cl h3 h1 U h2 .nil hx ha z J Z
theorem ER{pl:TF Bool}(F:Mt X.prog X.w X.K X.mg X.base CX C m k ps sp)(J:aT k X.A)(hx:rG CX X E)(z:PE X o ta)
  (O:eval (.Call (.Attribute o m apos) [] [] pos) X.env=(do
   let ov <- eval o X.env
   R1 apos.atName
   let (f,first) <- holding [ov] (Rj ov m pl)
   SY pos f first (P5 pos<|OU [] X.env) (Sk pos<|Q5 [] X.env)):=by rfl):
  PE X (.Call (.Attribute o m apos) [] [] pos)<|FD C m sp [] E ta fL:=by
 obtain⟨f,fd,h1,h2,h3⟩:=F.ex;exact yq z F.cl h3 h1 J h2 .nil hx O
theorem HX(F:Kl X.prog X.w X.K X.mg X.base CX x C k ps sp)(U:aT (k+1) X.A)(Z:Gl X x)(hx:rG CX X E)(ha:PA X (e::es) t)(z:(x==("__debug__":Pa))=false:=by decide)(O:OU (e::es) X.env=(false,eval e X.env)::OU es X.env:=by rfl)(J:(P5 pos<|OU es X.env).any (·.1)=false:=by rfl):
  PE X (.Call (.Name x p) (e::es) [] pos)<|Ip C sp [] E t:=by
 obtain⟨f,fd,h1,h2,h3⟩:=F.ex;exact uu h3 h1 U Z F.Xd h2 .nil hx ha z O J
end
noncomputable def Ft:V->Bool
 |.ty _=>true
 |.ref _=>true
 |_=>false
noncomputable def cval:V->OK
 |.ty n=>.type n
 |.ref a=>.ref a
 |_=>.none
section
theorem Lu:jS X (.builtin "isinstance") λxs H Q=>L2.X4 λx c ty b=>xs=[x,c]/\Ft c=true/\eZ X.K H x ty/\PU X.K ty (cval c)=some b/\Q (.bl b) H:=by
 intro pins s σ H xs us Q I r h;obtain⟨x,c,ty,b,rfl,hc,z,e,q⟩:=h;obtain⟨u,w',rfl,O,J⟩:=CM r;have e2:w'=cval c:=by
  cases c<;>first|(cases hc;done)|exact J
 subst e2;exact vW I O z e λtk=>⟨.bl b,H,I.tok tk,rfl,q⟩
end
theorem xJ:jV 0 (some v::σ) H Q=Q v H:=rfl
theorem ud{g:Int->Int->V}:zN g (.int i) (.int j) H Q=Q (g i j) H:=rfl
theorem yh{C:Int->Int->Prop}{g:Int->Int->V}:rI C g (.int i) (.int j) H Q=(C i j/\Q (g i j) H):=rfl
theorem ye{g:Int->V}:rU g (.int i) H Q=Q (g i) H:=rfl
theorem ug:Fp (.int i) (.int j) H Q=Q (.bl<|decide<|i=j) H:=rfl
theorem t8:Fm (.int i) (.int j) H Q=Q (.bl<|!decide (i=j)) H:=rfl
theorem yi{i j:Bool}:Fp (.bl i) (.bl j) H Q=Q (.bl<|decide<|i=j) H:=rfl
theorem yg{i j:Bool}:Fm (.bl i) (.bl j) H Q=Q (.bl<|!decide (i=j)) H:=rfl
theorem uf{i j:Pa}:Fp (.str i) (.str j) H Q=Q (.bl<|decide<|i=j) H:=rfl
theorem t7{i j:Pa}:Fm (.str i) (.str j) H Q=Q (.bl<|!decide (i=j)) H:=rfl
theorem yy{c:Bool}{Q:Bool->Prop}:AW (.bl c) Q=Q c:=rfl
theorem uD{c:Int}{Q:Int->Prop}:vN (.int c) Q=Q c:=rfl
theorem CG{c:Bool}{Q:Bool->Prop}:(∃k,V.bl c=V.bl k/\Q k)=Q c:=by
 apply propext;simp
theorem zd{c:Int}{Q:Int->Prop}:(∃k,V.int c=V.int k/\Q k)=Q c:=by
 apply propext;simp
theorem cL{n:Nat}(h:n<=1000):n<=sizeLine:=B0<|rB h
theorem bE(h:H p=none)(o:HO):aD H<|upd H p o:=λb u q=>by rw[aO<|aX q h];exact q
def Et(K:W.Frag)(f:Pa)(x:V)(H:Hp)(Q:VK):Prop:=L2.X5 λa C dx fs v=>x=.ref a/\H a=some (.ins C dx fs)/\fW K C/\aF K C f/\fs.lookup f=some v/\Q v H
theorem Ah{f:Pa}:Ga K ta f σ H Q=ta σ H (λx H1=>Et K f x H1 Q):=rfl
theorem uO{f:Pa}(h:H a=some (.ins C dx fl))(cl:fW K C)(n:aF K C f)(l:fl.lookup f=some v)(q:Q v H):Et K f (.ref a) H Q:=⟨a,C,dx,fl,v,rfl,h,cl,n,l,q⟩
def Ar(K:W.Frag)(f:Pa)(x y:V)(H:Hp)(Q:Hp->Prop):Prop:=L2.X4 λa C dx fs=>x=.ref a/\H a=some (.ins C dx fs)/\fW K C/\aF K C f/\fs.length<1000/\Q (upd H a<|.ins C dx<|aL f y fs)
theorem Au{f:Pa}{D:Ends}:Gk K ta tv f D σ H=tv σ H (λy H1=>ta σ H1 λx H2=>Ar K f x y H2<|D.nx σ):=rfl
theorem tQ{f:Pa}{Q:Hp->Prop}(h:H a=some (.ins C dx fl))(cl:fW K C)(n:aF K C f)(l:fl.length<1000)(q:Q<|upd H a<|.ins C dx<|aL f y fl):Ar K f (.ref a) y H Q:=⟨a,C,dx,fl,rfl,h,cl,n,l,q⟩
theorem El(h:aB K H p xs)(e:lP xs i=some v)(q:Q v H):DR K (.ref p) (.int i) H Q:=⟨p,xs,i,v,rfl,rfl,h,e,q⟩
theorem Ek(h:bG K H p xs)(e:lP xs i=some v)(q:Q v H):DQ K (.ref p) (.int i) H Q:=⟨p,xs,i,v,rfl,rfl,h,e,q⟩
def vG(K:W.Frag):R2:=λx y H Q=>DR K x y H Q∨DQ K x y H Q
theorem qR:BL X<|vG X.K:=Bh.or Ej
theorem wQ(K:W.Frag)(h:X.K=K:=by rfl):BL X<|vG K:=h▸qR
theorem dE(h:aB K H p xs)(e:lP xs i=some v)(q:Q v H):vG K (.ref p) (.int i) H Q:=.inl<|El h e q
theorem ib(h:bG K H p xs)(e:lP xs i=some v)(q:Q v H):vG K (.ref p) (.int i) H Q:=.inr<|Ek h e q
theorem cO{α:Type}{xs:List α}{v:α}(h0:0<=i)(h:xs[i.toNat]?=some v):lP xs i=some v:=by
 have q:=Bv h
 rwa [Rt h0] at q
theorem rz{xs:List Int}{v:Int}(h0:0<=i)(h:xs[i.toNat]?=some v):lP (xs.map V.int) i=some (.int v):=cO h0<|by rw[dF,h];rfl
def dH(P:Nat->List V->St->Hp->Prop)(n i:Nat)(ys:List V)(σ:St)(H:Hp):Prop:=∃m',m'<n-i/\m'=n-(i+1)/\i+1<=n/\P (i+1) ys σ H
theorem dH.of{P:Nat->List V->St->Hp->Prop}{n i:Nat}{ys:List V}(h:i<n)(p:P (i+1) ys σ H):dH P n i ys σ H:=⟨n-(i+1),by lia,rfl,h,p⟩
theorem nW(P:Nat->List V->St->Hp->Prop)(h0:P 0 [] σ0 H)(hl:∀i ys σ H,i<=xs.length->P i ys σ H->aB K H a xs/\ys.length<=i)(hz:xs.length<=sizeLine)
  (O:∀i ys x σ H,i<xs.length->xs[i]?=some x->P i ys σ H->g x σ H λz H2=>tt z H2 λb H3=>if b=true then te z H3 λy H4=>dH P xs.length i (ys++[y]) z H4 else dH P xs.length i ys z H3)
  (U:∀ys σ H,P xs.length ys σ H->∀p,H p=none->Q (.ref p) (upd H p<|.lst ys)):
  ∃W:Nat->Nat->List V->St->Hp->Prop,(∃m,W 0 m [] σ0 H)/\∀i m ys σ H,W i m ys σ H->
   ((vf K a).stop i H/\ys.length<=sizeLine/\∀p,H p=none->Q (.ref p) (upd H p<|.lst ys))∨
   ((vf K a).go i H/\ys.length<sizeLine/\∀x H',(vf K a).VI i H x H'->g x σ H' λz H2=>tt z H2 λb H3=>if b=true then te z H3 λy H4=>∃J,J<m/\W (i+1) J (ys++[y]) z H4 else ∃J,J<m/\W (i+1) J ys z H3):=by
 refine⟨λi m ys σ H=>m=xs.length-i/\i<=xs.length/\P i ys σ H,⟨xs.length,by simp,cE _,h0⟩,?_⟩;rintro i m ys σ H ⟨rfl,hi,p⟩;obtain⟨q,Z⟩:=hl i ys σ H hi p;by_cases UA:i<xs.length
 .refine .inr ⟨⟨xs,xs[i],q,by simp[UA]⟩,by lia,λx H' y=>?_⟩;obtain⟨e,y⟩:=y;subst e;exact O i ys x σ _ UA (y xs q) p
 .have e:i=xs.length:=by lia
  subst e;exact .inl ⟨⟨xs,q,aK _⟩,by lia,U ys σ H p⟩
theorem sE{n:Nat}(P:Nat->List V->St->Hp->Prop)(h0:P 0 [] σ0 H)(hl:∀i ys σ H,P i ys σ H->ys.length<=i)(hz:n<=sizeLine)
  (O:∀i ys σ H,i<n->P i ys σ H->g (.int<|lo+i) σ H λz H2=>tt z H2 λb H3=>if b=true then te z H3 λy H4=>dH P n i (ys++[y]) z H4 else dH P n i ys z H3)
  (U:∀ys σ H,P n ys σ H->∀p,H p=none->Q (.ref p) (upd H p<|.lst ys)):
  ∃W:Nat->Nat->List V->St->Hp->Prop,(∃m,W 0 m [] σ0 H)/\∀i m ys σ H,W i m ys σ H->
   ((rL lo n).stop i H/\ys.length<=sizeLine/\∀p,H p=none->Q (.ref p) (upd H p<|.lst ys))∨
   ((rL lo n).go i H/\ys.length<sizeLine/\∀x H',(rL lo n).VI i H x H'->g x σ H' λz H2=>tt z H2 λb H3=>if b=true then te z H3 λy H4=>∃J,J<m/\W (i+1) J (ys++[y]) z H4 else ∃J,J<m/\W (i+1) J ys z H3):=by
 refine⟨λi m ys σ H=>m=n-i/\i<=n/\P i ys σ H,⟨n,by simp,cE _,h0⟩,?_⟩;rintro i m ys σ H ⟨rfl,hi,p⟩;have Z:=hl i ys σ H p;by_cases UA:i<n
 .refine .inr ⟨UA,by lia,λx H' y=>?_⟩;obtain⟨e,y⟩:=y;subst e y;exact O i ys σ _ UA p
 .have e:i=n:=by lia
  subst e;exact .inl ⟨aK _,by lia,U ys σ H p⟩
theorem aD.upd{H H':Hp}{p:OL}{o:HO}(e:aD H H')(h:H p=none):aD H<|upd H' p o:=λb u q=>by rw[aO<|aX q h];exact e b u q
theorem aD.new{H H':Hp}{p:OL}{o:HO}(e:aD H H')(h:H' p=none):aD H<|L2.upd H' p o:=e.upd<|e.free h
theorem qP{t:OK}(h:(t==t)=true):PU K t t=some true:=by unfold PU;rw[Z9 h]
theorem IT(ns:List Int)(lo hi:Option Int):dS (ns.map V.int) lo hi=(((ns.drop<|HT.sIx ns.length 0 lo).take<|HT.sIx ns.length ns.length hi-HT.sIx ns.length 0 lo).map V.int):=by
 unfold dS;rw[aJ,BV,BU]
theorem yX{ns:List Int}{i:Nat}{x:V}(h:(ns.map V.int)[i]?=some x):∃n,ns[i]?=some n/\x=.int n:=by
 rw[dF] at h;cases e:ns[i]? with
 |none=>rw[e] at h;cases h
 |some n=>rw[e] at h;exact⟨n,rfl,(OS h).symm⟩
theorem Ii{n:Nat}(h0:0<=i)(h:i<n):yL n i=some i.toNat:=by unfold yL;rw[Z9 h0,Z9 h]
theorem va{lo hi:Option Int}(h:aB K H a xs)(q:∀p,H p=none->Q (.ref p) (upd H p<|.lst<|dS xs lo hi)):DP K (.ref a) lo hi H Q:=⟨a,xs,rfl,h,q⟩
def forL(K:W.Frag)(g:TG)(tb:TS)(D:Ends)(σ:St)(x:V)(H1:Hp):Prop:=∃a,x=.ref a/\(∃xs,aB K H1 a xs)/\∃W:Nat->Nat->St->Hp->Prop,(∃m,W 0 m σ H1)/\∀i m σ H,W i m σ H->
 ((vf K a).stop i H/\D.nx σ H)∨((vf K a).go i H/\∃N:St->Hp->Prop,(∀σ' H',N σ' H'->∃m',m'<m/\W (i+1) m' σ' H')/\∀x H',(vf K a).VI i H x H'->g x σ H' λσ2 H2=>tb { D with nx:=N,ct:=N,bk:=D.nx } σ2 H2)
theorem xP{D:Ends}:vz (HV K tl) g tb D σ H=tl σ H (λx H1=>forL K g tb D σ x H1):=rfl
theorem ET{D:Ends}(h:aB K H a xs)(z:Nat->St->Hp->Prop)(h0:z 0 σ H)(hl:∀i σ H,i<=xs.length->z i σ H->aB K H a xs)
  (U:∀i x σ H,xs[i]?=some x->z i σ H->g x σ H λJ H2=>tb { D with nx:=z<|i+1,ct:=z<|i+1,bk:=D.nx } J H2) (O:∀σ H,z xs.length σ H->D.nx σ H):forL K g tb D σ (.ref a) H:=
 ⟨a,rfl,⟨xs,h⟩,y0 z h0 hl U O⟩
def forR(lo:Int)(g:TG)(tb:TS)(D:Ends)(σ:St)(n:Nat)(H1:Hp):Prop:=∃W:Nat->Nat->St->Hp->Prop,(∃m,W 0 m σ H1)/\∀i m σ H,W i m σ H->
 ((rL lo n).stop i H/\D.nx σ H)∨((rL lo n).go i H/\∃N:St->Hp->Prop,(∀σ' H',N σ' H'->∃m',m'<m/\W (i+1) m' σ' H')/\∀x H',(rL lo n).VI i H x H'->g x σ H' λσ2 H2=>tb { D with nx:=N,ct:=N,bk:=D.nx } σ2 H2)
def CF(g:TG)(tb:TS)(D:Ends)(σ:St)(x:V)(H1:Hp):Prop:=∃j:Int,[x]=[.int j]/\-(2^62)<=j/\j<2^62/\forR 0 g tb D σ j.toNat H1
def CD(g:TG)(tb:TS)(D:Ends)(σ:St)(x y:V)(H1:Hp):Prop:=L2.X2 λi j:Int=>[x,y]=[.int i,.int j]/\(-(2^62)<=i/\i<2^62/\-(2^62)<=j/\j<2^62)/\forR i g tb D σ (j-i).toNat H1
theorem vy{t:TE}{D:Ends}:vz (Jx<|lQ t fL) g tb D σ H=t σ H (λx H1=>CF g tb D σ x H1):=rfl
theorem vx{t u:TE}{D:Ends}:vz (Jy<|lQ t<|lQ u fL) g tb D σ H=t σ H (λx H1=>u σ H1 λy H2=>CD g tb D σ x y H2):=rfl
theorem FG{n:Nat}{D:Ends}(z:Nat->St->Hp->Prop)(h0:z 0 σ H)
  (U:∀i σ H,i<n->z i σ H->g (.int<|lo+i) σ H λJ H2=>tb { D with nx:=z<|i+1,ct:=z<|i+1,bk:=D.nx } J H2) (O:∀σ H,z n σ H->D.nx σ H):forR lo g tb D σ n H:=v9 z h0 U O
theorem Hf{D:Ends}(h:-1000<=j/\j<=1000)(q:forR 0 g tb D σ j.toNat H):CF g tb D σ (.int j) H:=⟨j,rfl,by lia,by lia,q⟩
theorem y8{D:Ends}(h:-1000<=i/\i<=1000/\-1000<=j/\j<=1000)(q:forR i g tb D σ (j-i).toNat H):CD g tb D σ (.int i) (.int j) H:=⟨i,j,rfl,by lia,q⟩
def HQ(K:W.Frag)(g:TG)(tt:TT)(te:TE)(σ0:St)(Q:VK)(x:V)(H1:Hp):Prop:=∃a,x=.ref a/\(∃xs,aB K H1 a xs)/\∃W:Nat->Nat->List V->St->Hp->Prop,(∃m,W 0 m [] σ0 H1)/\∀i m ys σ H,W i m ys σ H->
 ((vf K a).stop i H/\ys.length<=sizeLine/\∀p,H p=none->Q (.ref p) (upd H p<|.lst ys))∨
 ((vf K a).go i H/\ys.length<sizeLine/\∀x H',(vf K a).VI i H x H'->g x σ H' λσ2 H2=>tt σ2 H2 λb H3=>if b=true then te σ2 H3 λy H4=>∃m',m'<m/\W (i+1) m' (ys++[y]) σ2 H4 else ∃m',m'<m/\W (i+1) m' ys σ2 H3)
theorem vA:zC k js (HV K tl) g tt te σ H Q=tl σ H (λx H1=>HQ K g tt te (up k js σ) Q x H1):=rfl
theorem zY(h:aB K H a xs)(U:xs.length<=1000)(P:Nat->List V->St->Hp->Prop)(h0:P 0 [] σ0 H)(hl:∀i ys σ H,i<=xs.length->P i ys σ H->aB K H a xs/\ys.length<=i)
  (J:∀i ys x σ H,i<xs.length->xs[i]?=some x->P i ys σ H->g x σ H λz H2=>tt z H2 λb H3=>if b=true then te z H3 λy H4=>dH P xs.length i (ys++[y]) z H4 else dH P xs.length i ys z H3)
  (O:∀ys σ H,P xs.length ys σ H->∀p,H p=none->Q (.ref p) (upd H p<|.lst ys)):HQ K g tt te σ0 Q (.ref a) H:=⟨a,rfl,⟨xs,h⟩,nW P h0 hl (cL U) J O⟩
def CK(lo:Int)(g:TG)(tt:TT)(te:TE)(σ0:St)(Q:VK)(n:Nat)(H1:Hp):Prop:=∃W:Nat->Nat->List V->St->Hp->Prop,(∃m,W 0 m [] σ0 H1)/\∀i m ys σ H,W i m ys σ H->
 ((rL lo n).stop i H/\ys.length<=sizeLine/\∀p,H p=none->Q (.ref p) (upd H p<|.lst ys))∨
 ((rL lo n).go i H/\ys.length<sizeLine/\∀x H',(rL lo n).VI i H x H'->g x σ H' λσ2 H2=>tt σ2 H2 λb H3=>if b=true then te σ2 H3 λy H4=>∃m',m'<m/\W (i+1) m' (ys++[y]) σ2 H4 else ∃m',m'<m/\W (i+1) m' ys σ2 H3)
def zy(g:TG)(tt:TT)(te:TE)(σ0:St)(Q:VK)(x:V)(H1:Hp):Prop:=∃j:Int,[x]=[.int j]/\-(2^62)<=j/\j<2^62/\CK 0 g tt te σ0 Q j.toNat H1
theorem rW{t:TE}:zC k js (Jx<|lQ t fL) g tt te σ H Q=t σ H (λx H1=>zy g tt te (up k js σ) Q x H1):=rfl
theorem C3(h:-1000<=j/\j<=1000)(P:Nat->List V->St->Hp->Prop)(h0:P 0 [] σ0 H)(hl:∀i ys σ H,P i ys σ H->ys.length<=i)
  (J:∀i ys σ H,i<j.toNat->P i ys σ H->g (.int<|0+i) σ H λz H2=>tt z H2 λb H3=>if b=true then te z H3 λy H4=>dH P j.toNat i (ys++[y]) z H4 else dH P j.toNat i ys z H3)
  (O:∀ys σ H,P j.toNat ys σ H->∀p,H p=none->Q (.ref p) (upd H p<|.lst ys)):zy g tt te σ0 Q (.int j) H:=⟨j,rfl,by lia,by lia,sE P h0 hl (cL<|by lia) J O⟩
def HM(i j:Int):Prop:=0<j/\j<2^250
section
theorem IL:iW X (RT .FloorDiv)<|rI HM λi j=>.int<|i/j:=GB λi j _ _ _ _ _ hc q=>by
 have h1:(0:Int)<j:=hc.1;have h2:j<2^250:=hc.2;have h3:j.natAbs<2^250:=by
  have e:(j.natAbs:Int)=j:=Int.natAbs_of_nonneg (by lia);have e2:((2^250:Nat):Int)=2^250:=by rfl
  lia
 have z:j.natAbs.log2<250:=(Nat.log2_lt<|by lia).mpr h3;exact floordiv_int (by lia) (by rw[T6 i<|by lia];exact q)<|.inl<|PyProof.noPylong_of_log2<|by lia
end
theorem qX{t:TG}{u:zH}{r:List V}{Q:St->Hp->Prop}:Ju t u (v::r) σ H Q=t v σ H (λz H'=>u r z H' Q):=by
 apply propext;unfold Ju;constructor
 .rintro ⟨J,r',e,q⟩;cases e;exact q
 .exact λq=>⟨v,r,rfl,q⟩
theorem uQ{Q:St->Hp->Prop}:Eu [] σ H Q=Q σ H:=by
 apply propext;unfold Eu;simp
theorem EU{n:Nat}{t:zH}{Q:St->Hp->Prop}(h:bG K H a xs)(l:xs.length=n)(q:t xs σ H Q):Bk K n t (.ref a) σ H Q:=⟨a,xs,rfl,h,l,q⟩
section
variable {tg l e o:PM}{es:List PM}{to:TE}{t:TA}{apos cpos:Sq}{f:Pa}
theorem K1(K:W.Frag)(h:X.K=K:=by rfl):MD X<|DP K:=h▸IG
theorem yn(K:W.Frag)(hl:PE X l tl)(h:X.K=K:=by rfl):PI X tg l<|HV K tl:=h▸Hc hl
theorem hV(K:W.Frag)(h:X.K=K:=by rfl):jS X (.builtin "len") λxs H Q=>L2.X2 λp ys=>xs=[.ref p]/\(aB K H p ys∨bG K H p ys)/\Q (.int ys.length) H:=h▸Jc
theorem hU(K:W.Frag)(h:X.K=K:=by rfl):jS X (.type "list") λxs H Q=>L2.X2 λp ys=>xs=[.ref p]/\(aB K H p ys∨bG K H p ys)/\∀l,H l=none->Q (.ref l) (upd H l<|.lst ys):=h▸Jd
theorem Ks(K:W.Frag){z:zH}{n:Nat}(hc:X.calm=X.calm)(O:C5 X es z)
  (hn:(Qn es X.env).length=n:=by rfl) (J:(Qn es X.env).findIdx? (·.1)=none:=by rfl) (h:X.K=K:=by rfl):PG X (.Tuple es k pos)<|Bk K n z:=h▸JY hc O hn J
end
open PySem PySem.Spec PySem.W PySem.Calls PyProof.Rows
section
variable {p:Sq}{iter elt:PM}{wi:TI}
theorem qA{z:QQ}{O:List Pa}(hc:CZ O z 1 js (x::N) scope=true)(J:(relabel scope X.env).names.lookup x=some .local)(C:OL)(fp:List OL)(s:ON)(H:Hp):PG (rJ X (x::N) scope C fp s H) (.Name x p)<|wO 0:=by
 refine rA ?_ rfl (.inl J)<|.inr J;unfold CZ at hc;simp only[rN,decide_eq_true_eq] at hc;exact hc.1.1.2
theorem wZ(hc:CZ X.N X.env.scope 1 js (x::N) scope=true)(hi:PI X (.Name x p) iter wi)(z:∀C fp s2 H2,PE (rJ X (x::N) scope C fp s2 H2) elt te)
  (hl:(relabel scope X.env).names.lookup x=some .local:=by rfl) (J:∀x,QG iter X.env x=pure x:=by intro _;rfl):PE X (.ListComp elt [⟨.Name x p,iter,[],0⟩] scope pos)<|zC 1 js wi (wO 0) xv te:=
 IS rfl hc hi (qA hc hl) (λ_ _ _ _=>Hi) z J
theorem FL{i:Nat}{y:Pa}{U z:Sq}(hN:X.N.Nodup)(J:X.N[i]?=some y)(hx:Loc X.env.scope y)(hc:CZ X.N X.env.scope 1 js (x::N) scope=true)(hi:PI X (.Name x p) iter wi)
  (he:∀C fp s2 H2,PE (rJ X (x::N) scope C fp s2 H2) elt te) (hl:(relabel scope X.env).names.lookup x=some .local:=by rfl)
  (hs:∀x,QG iter X.env x=pure x:=by intro _;rfl) (O:RM (.ListComp elt [⟨.Name x p,iter,[],0⟩] scope pos) (some<|.Name y U) z.line X.env=pure true:=by rfl)
  (Z:X.fn y=true∨X.env.scope.names.lookup y=some .local:=by first|exact .inl rfl|exact .inr rfl|assumption):
  PS X (.Assign [.Name y U] (.ListComp elt [⟨.Name x p,iter,[],0⟩] scope pos) z)<|vC (zC 1 js wi (wO 0) xv te)<|wO i:=
 Ja hN J hx rfl hc hi (qA hc hl) (λ_ _ _ _=>Hi) he hs O Z
end
open PySem PySem.Spec PySem.W PySem.Calls PyProof.Rows
section
variable {e:PM}{q:Sq}
theorem EV(i:Nat)(J:X.N.Nodup)(hi:X.N[i]?=some x)(hx:Loc X.env.scope x)(z:PE X e te)(O:RM e (some<|.Name x q) pos.line X.env=pure false:=by rfl)(U:X.fn x=true∨X.env.scope.names.lookup x=some .local:=by first|exact .inl rfl|exact .inr rfl|assumption):PS X (.Assign [.Name x q] e pos)<|vC te<|wO i:=mM J hi hx z O U
theorem EY(i:Nat)(z:X.N.Nodup)(hi:X.N[i]?=some x)(hx:Loc X.env.scope x)(J:X.fn x=true∨X.env.scope.names.lookup x=some .local:=by first|exact .inl rfl|exact .inr rfl|assumption):PG X (.Name x pos)<|wO i:=rA z hi hx J
theorem Ku(i:Nat){op:TN}(J:X.N.Nodup)(hi:X.N[i]?=some x)(hx:Loc X.env.scope x)(z:PE X e te)(O:Jf X op ti)(U:X.fn x=true∨X.env.scope.names.lookup x=some .local:=by first|exact .inl rfl|exact .inr rfl|assumption):PS X (.AugAssign (.Name x q) op e pos)<|DG i te ti:=yl J hi hx z O U
theorem ur(n:Nat){es:List PM}{t:zH}(h:C5 X es t)(hn:(Qn es X.env).length=n:=by rfl)(z:(Qn es X.env).findIdx? (·.1)=none:=by rfl):PG X (.Tuple es k pos)<|Bk X.K n t:=JY rfl h hn z
end
open PySem
def DD(mg:Pa->Option OK)(x:Pa):TE:=λ_ H Q=>∀f,mg x=some (.ref f)->Q (.ref f) H
def J8(mg:Pa->Option OK)(y:Pa)(sp:Sp)(E:XK)(ta:TE)(t:TA):TE:=λσ H Q=>ta σ H λv H1=>(∃f,v=.ref f/\mg y=some (.ref f))/\t σ H1 λvs H2=>sp vs H2 Q E
section
variable {E:XK}{y:Pa}{p:Sq}{e:PM}{es:List PM}{t:TA}
theorem JV(F:Fn X.prog X.w X.K X.mg X.base CX x k ps sp)(J:Gl X x)(z:(x==("__debug__":Pa))=false:=by decide):PE X (.Name x p)<|DD X.mg x:=by
 obtain⟨f,fd,_,_,_,hm⟩:=F.ex;intro pins s σ H Q I h;exact BE I J hm ⟨.ref f,H,I,rfl,h f hm⟩ z
theorem yu(F:Fn X.prog X.w X.K X.mg X.base CX y k ps sp)(hr:aT k X.A)(J:rG CX X E)(hx:PE X (.Name x p) ta)(ha:PA X (e::es) t)
  (he:OU (e::es) X.env=(false,eval e X.env)::OU es X.env:=by rfl) (O:(P5 pos<|OU es X.env).any (·.1)=false:=by rfl):PE X (.Call (.Name x p) (e::es) [] pos)<|J8 X.mg y sp E ta t:=by
 obtain⟨f,fd,h1,h2,hk,hm⟩:=F.ex;intro pins s σ H Q I h;refine Qa<|thn (hx pins s σ H _ I h) λv s1 U=>?_;obtain⟨fv,H1,I1,rf,⟨f',eg,z⟩,q⟩:=U;rw[hm] at z;cases z;subst eg;cases rf;refine Qe (h₀:=X.base) I.ok.mod.Wo hk (thn (ha pos pins s1 σ H1 _ I1 q) λus s2 U=>?_) he O;obtain⟨vs,H2,Z,r,q2⟩:=U;refine⟨Z.UB,?_⟩;exact ID (dvs:=[]) (ds:=[]) h1 hr h2 .nil J Z r<|by rw[gW];exact q2
end
section
variable {X:Cx}
theorem Aj{i:Nat}{D:Ends}:DG i te ti D σ H=jV i σ H (λx J=>te σ J λy H1=>ti x y H1 λz H2=>D.nx (σ.set i<|some z) H2):=rfl
theorem uI{f:Int->Int->Int}:Jm f (.int i) (.int j) H Q=Q (.int<|f i j) H:=rfl
theorem Jq{mg:Pa->Option OK}{A:Pb}{E:XK}:(bR CX P w K mg base N qual scope f cd A outer s H E).K=K:=rfl
def B1(W:Nat->St->Hp->Prop)(m:Nat)(tb:TS)(D:Ends)(σ:St)(H1:Hp):Prop:=∃N:St->Hp->Prop,(∀σ' H',N σ' H'->∃m',m'<m/\W m' σ' H')/\tb { D with nx:=N,ct:=N,bk:=D.nx } σ H1
theorem w8{W:Nat->St->Hp->Prop}{m:Nat}{D:Ends}(h:tb { D with nx:=λz H'=>∃J,J<m/\W J z H',ct:=λz H'=>∃J,J<m/\W J z H',bk:=D.nx } σ H1):B1 W m tb D σ H1:=⟨_,λ_ _ q=>q,h⟩
theorem xa{c:TT}{D:Ends}(W:Nat->St->Hp->Prop)(h0:∃m,W m σ H)(z:∀m σ H,W m σ H->c σ H λb H1=>if b=true then B1 W m tb D σ H1 else D.nx σ H1):xx c tb D σ H:=⟨W,h0,z⟩
noncomputable def pJ(xs:List V)(i:Int)(y:V):List V:=let k:=if i<0 then(i+(xs.length:Int)).toNat else min i.toNat xs.length;xs.take k++y::xs.drop k
inductive uc:V->List V->Hp->VK->Prop
 |mk (l xs i y:_):x_=.ref l->M=[.int i,y]->L l=some (.lst xs)->xs.length<sizeLine->(-(2^62)<=i/\i<2^62)->Y .Ux (upd L l<|.lst<|pJ xs i y)->uc x_ M L Y
theorem Bi(its:List OK)(k:Nat)(u:OK)(z:k<=its.length):(its.toArray.extract 0 k).push u++its.toArray.extract k=(its.take k++u::its.drop k).toArray:=by
 apply Array.ext';simp;exact oR<|by rw[dW];exact aK _
theorem qU(xs:List V)(i:Int)(y:V):(pJ xs i y).length=xs.length+1:=by
 unfold pJ;dsimp only;rw[aW,bS,gV,dW];lia
theorem Vals.ins{xs:List V}{us:List OK}{y:V}{u:OK}(r:Vals xs us)(q:RelV y u)(k:Nat):Vals (xs.take k++y::xs.drop k)<|us.take k++u::us.drop k:=(r.take k).append<|.cons q<|r.drop k
theorem nN:Hy X "list.insert" uc:=by
 intro pins s σ H x vs v us Q I rx rv h;obtain⟨l,xs,i,y,rfl,rfl,U,hz,hi,q⟩:=h;cases rx;obtain⟨u,u2,rfl,ru,O⟩:=rv.two;obtain⟨t,rfl⟩:=ru;obtain⟨z,its,n,r,hl,e⟩:=I.VC U;have J:¬(!Builtin.List.listFitsIndex i)=true:=by
  unfold Builtin.List.listFitsIndex;have:(decide (-(2^63:Int)<=i)&&decide (i<2^63))=true:=by
   rw[rN];exact⟨decide_eq_true<|by lia,decide_eq_true<|by lia⟩
  simpa using this
 refine Tz F.slot_list_insert ⟨_,e,rfl⟩ F.entry_list_insert (F.args_list_insert_3 _ _ _) (PySem.AutoListH.list_insert_list_int_val_1 l its.toArray n i t u2 J<|by rw[iB];lia) ⟨e,?_⟩;have Z:(if i<0 then(i+(its.length:Int)).toNat else min i.toNat its.length)<=its.length:=by split<;>lia
 refine⟨.Ux,_,I.We (its':=its.take (if i<0 then(i+(its.length:Int)).toNat else min i.toNat its.length)++u2::its.drop (if i<0 then(i+(its.length:Int)).toNat else min i.toNat its.length)) U e ?_ (ys:=pJ xs i y) ?_ ?_,rfl,q⟩
 .show (its.toArray.extract 0 _).push u2++its.toArray.extract _=_;rw[iB];exact Bi its _ u2 Z
 .unfold pJ;rw[hl];exact r.ins O _
 .rw [qU];lia
end
structure eQ(K:W.Frag)(x qual:Pa)(st:Pu)(f:OL)(fd:Qf)(dv:List OK):Prop where
 ex:∃(oc:OK) (od:Option OL) (T:OL) (kV doc pm:OK) (an:Option OL) (cdv ct:OK) (osl:Array<|Option OK),
  fd=W.fnOf x qual (zV st) (vb st) (aV st) (.ref T) kV doc pm an cdv ct/\K.lookup f=some ⟨oc,od,.func fd,osl⟩/\W.codeIn K cdv qual=true/\∃o n,K.lookup T=some o/\o.data=.seq dv.toArray n
 kp:W.keepIn K (.ref f)=true
section
variable {mg:Pa->Option OK}
theorem eQ.ok{st:Pu}(F:eQ K x qual st f fd dv)(S:aA N ps<|aV st)(len:∀vs H Q E,sp vs H Q E->vs.length=ps.length)
  (J:∀(z:OK) (A:Pb) (outer:List RQ) (s:ON) (H:Hp) (vs:List V) (Q:VK) (E:XK),aT k (A.deeper<|Rk qual (aV st) s.heap.objs.size f z)->sp vs H Q E-> ∃t,mP (bR aC P w K mg base N qual (aV st) f z A outer s H E).Wn (vb st) t/\t { nx:=λ_ H'=>Q .Ux H',rt:=Q } (start N vs) H):aH P w K mg base aC (k+1) f fd ps sp:=by
 obtain⟨oc,od,T,kV,Z,pm,an,z,ct,aa,rfl,lk,O,_⟩:=F.ex;refine Jt lk O S len λA outer s H vs Q E hr U=>?_;obtain⟨t,h,q⟩:=J z A outer s H vs Q E hr U;exact⟨t,h.Wn,q⟩
theorem eQ.binds{st:Pu}{ds:List OK}(F:eQ K x qual st f fd dv)
  (h:∀(T:OL) (kV z O:OK) (an:Option OL) (J ct:OK) (us:List OK),(us++ds).length=ps.length->∃k,bindArgs (W.fnOf x qual (zV st) (vb st) (aV st) (.ref T) kV z O an J ct) ⟨us,[]⟩=seqItems? (.ref T)>>=k/\k (some dv.toArray)=pure (ps.zip<|us++ds)):Binds K fd ps ds:=by
 obtain⟨oc,od,T,kV,z,O,an,J,ct,Z,rfl,lk,aa,o,n,U,ho⟩:=F.ex;intro s us KX hl;obtain⟨k,h1,h2⟩:=h T kV z O an J ct us hl;exact PySem.W.binds_K KX rfl U ho h1 h2
theorem MT{st:Pu}{T:OL}{oc:OK}{od an:Option OL}{O:Array<|Option OK}{J U z ct:OK}{Z:OK}{aa:Option OL}{nT:Nat}{ac:Array<|Option OK}(l:K.lookup f=some ⟨oc,od,.func<|W.fnOf x qual (zV st) (vb st) (aV st) (.ref T) cd J U an z ct,O⟩)
  (c:W.codeIn K z qual=true) (k:W.keepIn K (.ref f)=true) (t:K.lookup T=some ⟨Z,aa,.seq dv.toArray nT,ac⟩):eQ K x qual st f (W.fnOf x qual (zV st) (vb st) (aV st) (.ref T) cd J U an z ct) dv:=⟨⟨oc,od,T,cd,J,U,an,z,ct,O,rfl,l,c,_,nT,t,rfl⟩,k⟩
end
structure HH(P:OZ)(w:Pp)(K:W.Frag)(mg:Pa->Option OK)(base:Ph)(CX:oO)(x:Pa)(k:Nat)(ps:List Pa)(sp:Sp)(dvs:List V):Prop where
 ex:∃f fd ds,aH P w K mg base CX k f fd ps sp/\Binds K fd ps ds/\Vals dvs ds/\W.keepIn K (.ref f)=true/\mg x=some (.ref f)
structure Jg(P:OZ)(w:Pp)(K:W.Frag)(mg:Pa->Option OK)(base:Ph)(CX:oO)(x:Pa)(C:OL)(k:Nat)(ps:List Pa)(sp:Sp)(dvs:List V):Prop where
 Xd:mg x=some (.ref C)
 ex:∃f fd ds,aH P w K mg base CX k f fd ps sp/\Binds K fd ps ds/\Vals dvs ds/\Mk K C f
section
variable {dvs:List V}{E:XK}{m:Pa}{p apos:Sq}{e o:PM}{es:List PM}{t:TA}
theorem yr(F:HH X.prog X.w X.K X.mg X.base CX x k ps sp dvs)(U:aT k X.A)(hg:Gl X x)(hx:rG CX X E)(ha:PA X (e::es) t)(z:(x==("__debug__":Pa))=false:=by decide)(O:OU (e::es) X.env=(false,eval e X.env)::OU es X.env:=by rfl)(J:(P5 pos<|OU es X.env).any (·.1)=false:=by rfl):
  PE X (.Call (.Name x p) (e::es) [] pos)<|GW sp dvs E t:=by
 obtain⟨f,fd,ds,h1,h2,Z,h3,h4⟩:=F.ex;exact uw h1 U hg h4 h3 h2 Z hx ha z O J
theorem JW(F:Jg X.prog X.w X.K X.mg X.base CX x C k ps sp dvs)(U:aT (k+1) X.A)(hg:Gl X x)(hx:rG CX X E)(ha:PA X (e::es) t)(z:(x==("__debug__":Pa))=false:=by decide)(O:OU (e::es) X.env=(false,eval e X.env)::OU es X.env:=by rfl)(J:(P5 pos<|OU es X.env).any (·.1)=false:=by rfl):
  PE X (.Call (.Name x p) (e::es) [] pos)<|Ip C sp dvs E t:=by
 obtain⟨f,fd,ds,h1,h2,Z,h3⟩:=F.ex;exact uu h3 h1 U hg F.Xd h2 Z hx ha z O J
end
open PySem
noncomputable def Ew(d:V)(vs zs:List V):List V:=match vs,zs with
 |[a,b],[c]=>[a,b,d,c]
 |_,_=>[]
def xO(C:OL)(sp:Sp)(d:V)(E:XK)(t tk:TA):TE:=λσ H Q=>t σ H λvs H1=>tk σ H1 λzs H2=>∀x dx,H2 x=none->H2 dx=none->dx≠x->
 sp (Ew d (.ref x::vs) zs) (upd (upd H2 dx<|.own x) x<|.ins C dx []) (λv H3=>v=.Ux/\Q (.ref x) H3) E
structure Enc{α:Type}[DecidableEq α](e:α->R8)(n:Nat):Prop where
 eq:∀a b,SD (e a) (e b)=decide (a=b)
 lay:∀a,(e a).canLay0=true
 dep:∀a,(e a).depth<=n
theorem Enc.int:Enc Sz 0:=⟨λa b=>by unfold SD;rw[Ri];simp,λa=>by unfold S0;rfl,λa=>by unfold TM;exact aK _⟩
section
variable {α β γ:Type}[DecidableEq α][DecidableEq β][DecidableEq γ]{e:α->R8}{f:β->R8}{g:γ->R8}{n m:Nat}
theorem Enc.all(h:Enc e n):∀xs ys:List α,P6 (xs.map e) (ys.map e)=decide (xs=ys)
 |[],[]=>by simp[P6]
 |x::xs,[]=>by simp[P6]
 |[],y::ys=>by simp[P6]
 |x::xs,y::ys=>by
  rw[jC,jC];unfold P6;rw[h.eq,h.all xs ys,<- Sh];exact decide_eq_decide.mpr<|by rw[List.cons.injEq]
theorem Enc.Wf(h:Enc e n):∀xs:List α,P1 (xs.map e)=true
 |[]=>by simp[P1]
 |x::xs=>by rw[jC];unfold P1;rw[h.lay,h.Wf xs];rfl
theorem Enc.Wi(h:Enc e n):∀xs:List α,P7 (xs.map e)<=n
 |[]=>by simp[P7]
 |x::xs=>by
  rw[jC];unfold P7;have a:=h.dep x;have b:=h.Wi xs;lia
theorem Enc.list(h:Enc e n):Enc (λxs:List α=>PyData.list<|xs.map e)<|n+1:=
 ⟨λa b=>by unfold SD;exact h.all a b,λa=>by unfold S0;exact h.Wf a,λa=>by unfold TM;have:=h.Wi a;lia⟩
theorem Enc.two(h:Enc e n)(h2:Enc f m):Enc (λp:α×β=>PyData.tuple [e p.1,f p.2]) (max n m+1) where
 eq:=λa b=>by
  unfold SD P6 P6 P6;rw[h.eq,h2.eq,Bool.and_true,<- Sh];exact decide_eq_decide.mpr<|by rw[Prod.ext_iff]
 lay:=λa=>by unfold S0 P1 P1 P1;rw[h.lay,h2.lay];rfl
 dep:=λa=>by
  unfold TM P7 P7 P7;have:=h.dep a.1;have:=h2.dep a.2;lia
theorem Enc.three(h:Enc e n)(h2:Enc f m)(h3:Enc g k):Enc (λp:α×β×γ=>PyData.tuple [e p.1,f p.2.1,g p.2.2]) (max n (max m k)+1) where
 eq:=λa b=>by
  unfold SD P6 P6 P6 P6;rw[h.eq,h2.eq,h3.eq,Bool.and_true,<- Sh,<- Sh];exact decide_eq_decide.mpr<|by rw[Prod.ext_iff,Prod.ext_iff]
 lay:=λa=>by unfold S0 P1 P1 P1 P1;rw[h.lay,h2.lay,h3.lay];rfl
 dep:=λa=>by
  unfold TM P7 P7 P7 P7;have:=h.dep a.1;have:=h2.dep a.2.1;have:=h3.dep a.2.2;lia
theorem Ig{x:V}{a b:α}(h:Enc e n)(hn:n<=64)(dx:Dp K H (e a) x)(z:Dp K H (e b) y)(q:Q (.bl<|decide<|a=b) H):AD K x y H Q:=
 ⟨_,_,dx,z,h.lay a,h.lay b,cX (h.dep a) hn,by rw[h.eq];exact q⟩
theorem JP{x:V}{a b:α}(h:Enc e n)(hn:n<=64)(dx:Dp K H (e a) x)(z:Dp K H (e b) y)(q:Q (.bl<|!decide (a=b)) H):AA K x y H Q:=
 ⟨_,_,dx,z,h.lay a,h.lay b,cX (h.dep a) hn,by rw[h.eq];exact q⟩
end
theorem zD{xs:List Int}(h:aB K H a<|xs.map V.int):Dp K H (.list<|xs.map Sz)<|.ref a:=Kf h<|bW.ints xs
section
variable {R:Bool->Prop}
theorem Ko{x c:V}{ty:OK}{b:Bool}(hc:Ft c=true)(t:eZ K H x ty)(k:PU K ty (cval c)=some b)(q:R b):L2.X4 λz c' ty b=>[x,c]=[z,c']/\Ft c'=true/\eZ K H z ty/\PU K ty (cval c')=some b/\R b:=⟨x,c,ty,b,rfl,hc,t,k,q⟩
theorem yN(q:R true):L2.X4 λz c' ty b=>[V.int i,V.ty "int"]=[z,c']/\Ft c'=true/\eZ K H z ty/\PU K ty (cval c')=some b/\R b:=Ko rfl (.int i) (qP rfl) q
theorem qS(k:PU K (.type "int") (.type "bool")=some false)(q:R false):L2.X4 λz c' ty b=>[V.int i,V.ty "bool"]=[z,c']/\Ft c'=true/\eZ K H z ty/\PU K ty (cval c')=some b/\R b:=Ko rfl (.int i) k q
theorem yM(h:H a=some (.lst xs))(q:R true):L2.X4 λz c' ty b=>[V.ref a,V.ty "list"]=[z,c']/\Ft c'=true/\eZ K H z ty/\PU K ty (cval c')=some b/\R b:=Ko rfl (.lst h) (qP rfl) q
end
section
theorem all_range{bs:List Bool}:(OT bs.length).all (λi=>bs.getD i true)=bs.all id:=by
 induction bs with
 |nil=>rfl
 |cons b r ih=>
  rw[bS,List.range_succ_eq_map,Fh,List.all_map,Fh];show(b&&(OT r.length).all λi=>r.getD i true)=_;rw[ih];rfl
theorem KI(hc:X.calm=true):jS X (.builtin "all") λxs H Q=>L2.X2 λ(p:OL) (bs:List Bool)=>xs=[.ref p]/\aB X.K H p (bs.map V.bl)/\Q (.bl<|bs.all id) H:=by
 intro pins s σ H xs us Q I r h;obtain⟨p,bs,rfl,hq,q⟩:=h;obtain⟨u,rfl,rx⟩:=sU r;cases rx;obtain⟨its,r',pl,hz⟩:=I.list hq;have J:=r'.length;rw[aJ] at J;have hh:X.A.handled=none:=I.ok.hd hc;have hl:=pl.isList;have Z:p<s.heap.objs.size:=by obtain⟨_,e,_⟩:=hl;exact OQ e
 refine call_all_walk<|RZ hl ⟨s.heap.objs.size,_,_,_,_,_,λi=>bs.getD i true,rfl,Walks.list (A:=X.A.in1) hh s.heap.objs.size p (fK Z) its.toArray,⟨⟨_,OW _ rfl,rfl,rfl⟩,hl.push _⟩,?_,λh' tk hk=>?_⟩
 .intro i v s' Q' E' hP hQ;have O:its[i]?=some v:=by simpa using hP
  have hi:i<its.length:=(gX.mp O).1;obtain⟨b,hb⟩:∃b,bs[i]?=some b:=⟨_,bL<|by lia⟩
  obtain⟨u,hu,ru⟩:=r'.get (i:=i) (x:=.bl b) (by rw[dF,hb];rfl);rw[O] at hu;cases hu;cases ru;have U:Q' b s':=by
   have e:bs.getD i true=b:=by rw[iA,hb];rfl
   rw[<- e];exact hQ
  exact Q9 U
 .refine ⟨.bl<|bs.all id,H,I.kept (t':=tk) λb o e=>hk b o ?_<|OM _ e,?_,q⟩
  .intro z;have:b=s.heap.objs.size:=by simpa using z
   exact absurd (OQ e)<|by rw[this];exact vo _
  .have:its.toArray.size=bs.length:=by simp[J]
   rw[this,all_range];rfl
theorem K7(ns:List Int):∀n,n<=ns.length->preSum (λi=>ns.getD i 0) n=(ns.take n).sum
 |0,_=>by simp[preSum]
 |n+1,h=>by
  show preSum (λi=>ns.getD i 0) n+ns.getD n 0=_;rw[K7 ns n<|by lia,Dm];rw[iA,bL (show n<ns.length by lia),List.sum_append];simp
def Hu(ns:List Int):Prop:=ns.length<=1000/\∀x∈ns,-1000000000<=x/\x<=1000000000
theorem sum_bound:∀(ns:List Int),(∀x∈ns,-1000000000<=x/\x<=1000000000)->-(ns.length*1000000000:Int)<=ns.sum/\ns.sum<=ns.length*1000000000
 |[],_=>by simp
 |x::r,h=>by
  have a:=h x aU;have b:=sum_bound r λy z=>h y<|bA _ z;rw[List.sum_cons,bS];lia
theorem rp(hc:X.calm=true):jS X (.builtin "sum") λxs H Q=>L2.X2 λ(p:OL) (ns:List Int)=>xs=[.ref p]/\aB X.K H p (ns.map V.int)/\Hu ns/\Q (.int ns.sum) H:=by
 intro pins s σ H xs us Q I r h;obtain⟨p,ns,rfl,hq,hs,q⟩:=h;obtain⟨u,rfl,rx⟩:=sU r;cases rx;obtain⟨its,r',pl,hz⟩:=I.list hq;have J:=r'.length;rw[aJ] at J;have hh:X.A.handled=none:=I.ok.hd hc;have hl:=pl.isList;have Z:p<s.heap.objs.size:=by obtain⟨_,e,_⟩:=hl;exact OQ e
 refine call_sum_walk<|RZ hl ⟨s.heap.objs.size,_,_,_,_,_,λi=>ns.getD i 0,rfl,Walks.list (A:=X.A.in1) hh s.heap.objs.size p (fK Z) its.toArray,⟨⟨_,OW _ rfl,rfl,rfl⟩,hl.push _⟩,λb hb=>?_,λi v hP=>?_,λj hj=>?_,λh' tk t' hk=>?_⟩
 .have ac:b=s.heap.objs.size∨b=p:=by simpa using hb
  show b<(s.heap.push _).objs.size;rw[Qo];rcases ac with rfl|rfl
  .exact xi _
  .exact RO Z
 .have U:its[i]?=some v:=by simpa using hP
  have hi:i<its.length:=(gX.mp U).1;obtain⟨b,hb⟩:∃b,ns[i]?=some b:=⟨_,bL<|by lia⟩
  obtain⟨u,hu,ru⟩:=r'.get (i:=i) (x:=.int b) (by rw[dF,hb];rfl);rw[U] at hu;cases hu;obtain⟨t,rfl⟩:=ru;refine⟨t,?_⟩;show _=Value.int (ns.getD i 0) t;rw[iA,hb];rfl
 .have O:j<ns.length:=by simp at hj;lia
  have aa:ns.getD j 0∈ns:=by
   rw[iA,bL O];exact RW O
  have b1:=hs.2 _ aa;have b2:=sum_bound (ns.take<|j+1) λy hy=>hs.2 y<|Sr hy;have b3:(ns.take<|j+1).length<=1000:=by rw[gV];have:=hs.1;lia
  rw[K7 ns (j+1) O];show(-(2^63)<=ns.getD j 0/\ns.getD j 0<2^63)/\(-(2^63)<=(ns.take<|j+1).sum/\(ns.take<|j+1).sum<2^63);refine⟨⟨by lia,by lia⟩,?_⟩;lia
 .refine ⟨.int ns.sum,H,I.kept (t':=tk) λb o e=>hk b o ?_<|OM _ e,⟨t',?_⟩,q⟩
  .intro z;have:b=s.heap.objs.size:=by simpa using z
   exact absurd (OQ e)<|by rw[this];exact vo _
  .have:its.toArray.size=ns.length:=by simp[J]
   rw[this,K7 ns ns.length<|aK _,Tv]
theorem yb{h:Ph}{t u v:Tok}(e:h.get? a=some { cls:=.type "range",data:=.fields #[.int lo t,.int hi u,.int 1 v] }):aS P w H h a<|.rng lo hi:=⟨t,u,v,e⟩
theorem wu:jS X (.type "range") λxs H Q=>∃n:Int,xs=[.int n]/\∀p,H p=none->Q (.ref p) (upd H p<|.rng 0 n):=by
 intro pins s σ H xs us Q I r h;obtain⟨n,rfl,q⟩:=h;obtain⟨u,rfl,z⟩:=sU r;obtain⟨t,rfl⟩:=z;exact call_range_1 ⟨.ref s.heap.objs.size,_,I.laid (λb o e=>OM _ e) (aK _)<|yb<|OW _ rfl,rfl,q _<|I.Uy.fresh<|aK _⟩
theorem oA:jS X (.type "range") λxs H Q=>L2.X2 λm n:Int=>xs=[.int m,.int n]/\∀p,H p=none->Q (.ref p) (upd H p<|.rng m n):=by
 intro pins s σ H xs us Q I r h;obtain⟨m,n,rfl,q⟩:=h;obtain⟨u,w',rfl,J,z⟩:=CM r;obtain⟨t,rfl⟩:=J;obtain⟨t',rfl⟩:=z;exact call_range_2 ⟨.ref s.heap.objs.size,_,I.laid (λb o e=>OM _ e) (aK _)<|yb<|OW _ rfl,rfl,q _<|I.Uy.fresh<|aK _⟩
noncomputable def wU(lo hi:Int):List Int:=(OT (hi-lo).toNat).map λi:Nat=>lo+(i:Int)
theorem Mj(lo hi:Int):(wU lo hi).length=(hi-lo).toNat:=by unfold wU;rw[aJ,eU]
theorem mZ{i:Nat}(h:i<(hi-lo).toNat):(wU lo hi)[i]?=some (lo+i):=by unfold wU;rw[dF,xh h];rfl
theorem LW(hc:X.calm=true):jS X (.type "list") λxs H Q=>L2.X3 λ(p:OL) (lo hi:Int)=>xs=[.ref p]/\H p=some (.rng lo hi)/\(-1000<=lo/\lo<=1000/\-1000<=hi/\hi<=1000)/\∀l,H l=none->Q (.ref l) (upd H l<|.lst<|(wU lo hi).map V.int):=by
 intro pins s σ H xs us Q I r h;obtain⟨p,lo,hi,rfl,hp,hb,q⟩:=h;obtain⟨u,rfl,rx⟩:=sU r;cases rx;obtain⟨t,u,v,e⟩:=I.Uy p _ hp;have hh:X.A.handled=none:=I.ok.hd hc;refine call_list_range (n:=(hi-lo).toNat) hh e (small_one (by lia) (by lia) (by lia)<|by lia) (by rw[rangeSize_one];split<;>lia) (by lia) λh' tk J c' Z hS O=>?_;have hz:(wU lo hi).length<=1000*2:=by rw[Mj];lia
 refine⟨.ref s.heap.objs.size,_,I.laid (t':=tk) Z (aK _) (o:=.lst<|(wU lo hi).map V.int) ⟨?_,J.toList,c',?_,by simpa using hS⟩,rfl,q _<|I.Uy.fresh<|aK _⟩
 .rw [aJ];exact cX hz<|by decide
 .have hsz:J.size=(hi-lo).toNat:=O.1;have U:∀(vs:List OK) (k:Nat) (zs:List Int),vs.length=zs.length->(∀(j:Nat) v z,vs[j]?=some v->zs[j]?=some z->∃t,v=Value.int z t)->Vals (zs.map V.int) vs:=by
   intro vs;induction vs with
   |nil=>intro k zs h1 _;cases zs with
    |nil=>exact .nil
    |cons _ _=>cases h1
   |cons v r ih=>intro k zs h1 h2;cases zs with
    |nil=>cases h1
    |cons z zr=>exact .cons (h2 0 v z rfl rfl)<|ih 0 zr (by simpa using h1) λj v' z' a b=>h2 (j+1) v' z' (by simpa using a)<|by simpa using b
  refine U J.toList 0 (wU lo hi) (by rw[Mj,Af,hsz]) λj v z a b=>?_;have a':J[j]?=some v:=by simpa using a
  obtain⟨t,rfl⟩:=O.2 j v a';have hj:j<(hi-lo).toNat:=by have:=(Array.getElem?_eq_some_iff.mp a').1;lia
  rw[mZ hj] at b;cases b;exact⟨t,by rw[Int.mul_one]⟩
theorem Lv:jS X (.builtin "sorted") λxs H Q=>L2.X2 λ(p:OL) (ns:List Int)=>xs=[.ref p]/\aB X.K H p (ns.map V.int)/\ns.length<64/\∀(l:OL) (ms:List Int),H l=none->ms.Perm ns->ms.Pairwise (·<=·)->Q (.ref l) (upd H l<|.lst<|ms.map V.int):=by
 intro pins s σ H xs us Q I r h;obtain⟨p,ns,rfl,Z,hn,q⟩:=h;obtain⟨u,rfl,rx⟩:=sU r;cases rx;obtain⟨its,r',pl,hz⟩:=I.list Z;have J:=r'.length;rw[aJ] at J;refine sorted_ints pl.isList (Hm r') (by lia) λout z a1 a2 a3=>?_;obtain⟨e,U⟩:=sortedAll_at s.heap its out;have O:z.length=ns.length:=a2.length_eq;refine⟨.ref<|s.heap.objs.size+1,_,I.laid (t':=s.toks) (λb o e=>sortedAll_old e) (lT _) (o:=.lst<|z.map V.int) ⟨?_,out.toList,e,Lf a1,by simpa using U⟩,rfl,q _ z (I.Uy.fresh<|lT _) a2 a3⟩;rw[aJ];exact cX (show z.length<=1000 by lia)<|by decide
end
theorem aD.get(s:aD H H')(h:H b=some o):H' b=some o:=s b o h
theorem aI(h:H p=none)(o:HO):∃H',upd H p o=H'/\aD H H'/\H' p=some o:=⟨_,rfl,bE h o,aP⟩
section
variable {rest:St}
theorem wq(h:aB K H a xs)(hz:xs.length<=1000)(e0:σ0=none::rest)(R:V->V->Hp->Prop)(mono:∀x y H1 H2,aD H1 H2->R x y H1->R x y H2)
  (hs:∀(i:Nat) x H',xs[i]?=some x->aD H H'->∀Q':VK,(∀y H4,aD H' H4->R x y H4->Q' y H4)->te (some x::rest) H' Q')
  (hd:∀ys H' p,ys.length=xs.length->(∀(j:Nat) x y,xs[j]?=some x->ys[j]?=some y->R x y H')->aD H H'->H' p=none->Q (.ref p) (upd H' p<|.lst ys)):HQ K (wO 0) xv te σ0 Q (.ref a) H:=by
 subst e0;refine zY h hz (λi ys σ H'=>∃v,σ=v::rest/\aD H H'/\ys.length=i/\∀(j:Nat) x y,xs[j]?=some x->ys[j]?=some y->R x y H') ⟨_,rfl,.refl _,rfl,λj x y _ q=>by cases q⟩ ?_ ?_ ?_
 .rintro i ys σ H' _ ⟨v,rfl,e,hl,_⟩;exact⟨e.seq h,Rz hl⟩
 .rintro i ys x σ H' hi hx ⟨v,rfl,e,hl,U⟩;show te (some x::rest) H' _;refine hs i x H' hx e _ λy H4 Z q2=>?_;refine dH.of hi ⟨_,rfl,e.trans Z,by rw[aW,hl];rfl,λj x' y' O J=>?_⟩;by_cases hj:j<ys.length
  .rw [oQ hj] at J;exact mono _ _ _ _ Z<|U j x' y' O J
  .rw [kF<|by lia] at J;have:j-ys.length=0:=by
    rcases Ta (j-ys.length) with z|z
    .exact z
    .rw [oP<|show[y].length<=j-ys.length from z] at J;cases J
   rw[this] at J;cases J;rw[show j=i by lia,hx] at O;cases O;exact q2
 .rintro ys σ H' ⟨v,rfl,e,hl,U⟩ p hp;exact hd ys H' p hl U e hp
end
section
variable {pins:List (OL×Qc)}
theorem Inv.Wz(I:Inv X pins σ H s){ch:List OL}{h':Ph}{t':Nat}(O:∀b∈ch,mQ X pins H b)(k:∀b ob,b∉ch->s.heap.get? b=some ob->h'.get? b=some ob)
  (U:s.heap.objs.size<=p) (new:aS X.prog X.w (upd H p o) h' p o):Inv X pins σ (upd H p o) { s with heap:=h',toks:=t' }:=by
 have hn:H p=none:=I.Uy.fresh U;have Z:∀b u,H b=some u->b∉ch:=λb u e z=>by rw[(O b z).1] at e;cases e
 refine I.call (g':=s.gens) (t':=t') (d':=s.drawn) (ch:=ch) ⟨λb ob e n _ hx=>k b ob hx e,λb ob e n _ hx=>⟨ob.slots,k b ob hx e⟩,λb ob e n _=>?_,λb ob e hx=>⟨ob,k b ob hx e⟩,λb xs e=>?_,λb ob u e=>?_,λb qs e=>⟨#[],?_⟩⟩ (λb u e=>?_) I.bare λb J=>?_
 .rw [aO<|fK<|mR (OQ e) U];exact n
 .rw [aO<|aX e hn];exact e
 .rw [aO<|aX e hn];exact e
 .rw [aO<|aX e hn,e];simp
 .by_cases J:b=p
  .subst J;rw[aP] at e;cases e;exact new
  .rw [aO J] at e;refine(I.Uy b u e).U1 (λc v hc q=>k c v ?_ q) (λc q=>by rw[aO<|aX q hn];exact q) λc xs q=>by rw[aO<|aX q hn];exact q
   rcases hc with z|z
   .rw [z];exact Z b u e
   .exact Z c _ z
 .obtain ⟨a1,a2,a3,a4,a5,a6⟩:=O b J;exact⟨a4,a2,a5,a6⟩
end
noncomputable def BN(K:W.Frag)(a:OL):It:=
 ⟨λi H=>L2.X2 λxs x=>aB K H a xs/\xs[i]?=some x,λi H v H'=>L2.X2 λp x=>H p=none/\(∀xs,aB K H a xs->xs[i]?=some x)/\H'=upd H p (.tup [.int i,x])/\v=.ref p,λi H=>∃xs,aB K H a xs/\xs.length<=i⟩
theorem vv{ai:List PM}{x1}(a e it:OL)(af:e≠it):Turn P w K (.Tuple ai x1 tpos) (BN K a) [e,it] e (λi h=>(∃J,IsEnum h e it ((i:Nat):Int) J)/\h.IsListIter it a i) where
 mem:=by simp
 obj:=λi h st b Z=>by
  obtain⟨⟨J,U⟩,o,e2,c,d⟩:=st;have ac:b=e∨b=it:=by simpa using Z
  rcases ac with rfl|rfl
  .exact ⟨_,U,λv z=>by cases z⟩
  .exact ⟨o,e2,λv z=>by rw[d] at z;cases z⟩
 keep:=λi h h' st k=>⟨let ⟨J,U⟩:=st.1;⟨J,k e (by simp) _ U⟩,st.2.at λo q=>k it (by simp) o q⟩
 item:=by
  intro X hP hw hK hc i pins s σ H E I hf st hg;subst hP hw hK;obtain⟨xs,x,hq,hx⟩:=hg;obtain⟨its,rv,p,hz⟩:=I.list hq;obtain⟨u,hu,ru⟩:=rv.get hx;obtain⟨⟨J,U⟩,aa⟩:=st;refine wpAny_pyNext_enum_item U aa p.isList (x:=u) (by simpa using hu) af λh1 aj ae aq aw ap=>⟨_,rfl,?_⟩
  refine wpAny_letOwnedTupleGo_enum aj λh2 au O=>?_;replace O:Pq e h1 h2:=O;have ad:e<s.heap.objs.size:=OQ U;have ao:h2.get? s.heap.objs.size=some { cls:=.type "tuple",data:=.seq #[.int i s.toks,u] }:=(O.2 _<|BZ ad).trans aq;have ah:H s.heap.objs.size=none:=I.Uy.fresh<|aK _;refine⟨.ref s.heap.objs.size,upd H s.heap.objs.size<|.tup [.int i,x],I.Wz (ch:=[e,it]) (t':=s.toks+1) hf (λb ob Z q=>?_) (aK _) ?_,rfl,⟨_,x,ah,λys hy=>by rw[I.UW hy hq];exact hx,rfl,rfl⟩,⟨⟨u,?_⟩,?_⟩,λb Z=>?_⟩
  .have ag:b≠e:=λz=>Z (by simp[z]);have as:b≠it:=λz=>Z (by simp[z]);exact(O.2 b ag).trans<|ap b ob ag as q
  .exact ⟨cL (show 2<=1000 by decide),[.int i s.toks,u],.cons ⟨_,rfl⟩<|.cons ru .nil,_,ao,rfl,0,rfl⟩
  .have:((i+1:Nat):Int)=(i:Int)+1:=by push_cast;rfl
   rw[this];exact au
  .exact ae.at λo q=>(O.2 it<|OY af).trans q
  .have hn:=(hf b Z).1;have ac:b=e∨b=it:=by simpa using Z
   obtain⟨oi,am,_⟩:=aa;have av:b<s.heap.objs.size:=by
    rcases ac with rfl|rfl
    .exact ad
    .exact OQ am
   rw[aO<|fK av];exact hn
 done:=by
  intro X hP hw hK hc i pins s σ H E I hf st hg;subst hP hw hK;obtain⟨xs,hq,hx⟩:=hg;obtain⟨its,rv,p,hz⟩:=I.list hq;obtain⟨⟨J,U⟩,aa⟩:=st;obtain⟨f0,f1,f2,f3,f4,f5⟩:=hf it (by simp);have hl:=rv.length;exact wpAny_pyNext_enum_end (I.ok.hd hc) U aa p.isList (by rw[Si];exact oP<|by lia) λh' eb=>⟨rfl,I.turned (t':=s.toks) (λb o Z e=>eb b o Z e) f0 f1 f3 f4 f5⟩
 self:=λ_ _ _ _ _ st h=>let ⟨_,U⟩:=st.1;wpAny_pyIter_enum U h
section
def Jw(K:W.Frag)(ta:TA):TI:=λσ H R=>ta σ H λvs H1=>∃a,vs=[.ref a]/\(∃xs,aB K H1 a xs)/\R (BN K a) H1
theorem AJ{J:List PM}{x1}{l:PM}{ta:TA}{p:Sq}(hg:Gl X "enumerate")(hm:X.mg "enumerate"=none)(ha:PA X [l] ta)(hs:OU [l] X.env=[(false,eval l X.env)]:=by rfl)(hc:X.calm=true:=by rfl):
  PI X (.Tuple J x1 tpos) (.Call (.Name "enumerate" p) [l] [] pos)<|Jw X.K ta:=by
 intro pins s σ H R I h;refine Call_<|CO I hg hm boot_enumerate<|PZ (thn (ha pos pins s σ H _ I h) λus s1 zz=>?_) hs rfl;obtain⟨vs,H1,O,r1,q1⟩:=zz;obtain⟨a,e,⟨xs,hq⟩,q⟩:=q1;subst e;obtain⟨u,rfl,ru⟩:=sU r1;cases ru;obtain⟨its,rv,pl,hz⟩:=O.list hq;refine call_enumerate_list pl.isList λh' he U hsz hk=>wpAny_pyIter_enum he ?_;have I2:Inv X pins σ H1 { s1 with heap:=h' }:=O.kept (t':=s1.toks) hk;refine⟨s1.heap.objs.size+1,[s1.heap.objs.size+1,s1.heap.objs.size],_,BN X.K a,H1,rfl,I2,(vv a _ _<|Nat.succ_ne_self _).at hc,⟨⟨_,he⟩,U⟩,λb hb=>?_,q⟩;have Z:b=s1.heap.objs.size+1∨b=s1.heap.objs.size:=by simpa using hb
 have z:s1.heap.objs.size<=b:=by
  rcases Z with rfl|rfl
  .exact lT _
  .exact aK _
 exact O.Wh z<|O.Uy.fresh z
end
section
variable {D:Ends}
def GL(K:W.Frag)(g:TG)(tb:TS)(D:Ends)(σ:St)(x:V)(H1:Hp):Prop:=∃a,[x]=[.ref a]/\(∃xs,aB K H1 a xs)/\∃W:Nat->Nat->St->Hp->Prop,(∃m,W 0 m σ H1)/\∀i m σ H,W i m σ H->
 ((BN K a).stop i H/\D.nx σ H)∨((BN K a).go i H/\∃N:St->Hp->Prop,(∀σ' H',N σ' H'->∃m',m'<m/\W (i+1) m' σ' H')/\∀x H',(BN K a).VI i H x H'->g x σ H' λσ2 H2=>tb { D with nx:=N,ct:=N,bk:=D.nx } σ2 H2)
theorem xQ{t:TE}:vz (Jw K<|lQ t fL) g tb D σ H=t σ H (λx H1=>GL K g tb D σ x H1):=rfl
theorem Bl(h:aB K H a xs)(z:Nat->St->Hp->Prop)(h0:z 0 σ H)(hl:∀i σ H,i<=xs.length->z i σ H->aB K H a xs)
  (U:∀(i:Nat) x σ H p,xs[i]?=some x->z i σ H->H p=none->g (.ref p) σ (upd H p<|.tup [.int i,x]) λJ H2=>tb { D with nx:=z<|i+1,ct:=z<|i+1,bk:=D.nx } J H2) (Z:∀σ H,z xs.length σ H->D.nx σ H):GL K g tb D σ (.ref a) H:=by
 refine⟨a,rfl,⟨xs,h⟩,λi m σ H=>m=xs.length-i/\i<=xs.length/\z i σ H,⟨xs.length,by simp,cE _,h0⟩,?_⟩;rintro i m σ H ⟨rfl,hi,p⟩;have q:=hl i σ H hi p;by_cases UA:i<xs.length
 .refine .inr ⟨⟨xs,xs[i],q,by simp[UA]⟩,z<|i+1,λO H' p'=>⟨xs.length-(i+1),by lia,rfl,UA,p'⟩,λx H' y=>?_⟩;obtain⟨pp,x',hn,y,rfl,rfl⟩:=y;exact U i x' σ _ pp (y xs q) p hn
 .have e:i=xs.length:=by lia
  subst e;exact .inl ⟨⟨xs,q,aK _⟩,Z σ H p⟩
def GQ(K:W.Frag)(g:TG)(tt:TT)(te:TE)(σ0:St)(Q:VK)(x:V)(H1:Hp):Prop:=∃a,[x]=[.ref a]/\(∃xs,aB K H1 a xs)/\∃W:Nat->Nat->List V->St->Hp->Prop,(∃m,W 0 m [] σ0 H1)/\∀i m ys σ H,W i m ys σ H->
 ((BN K a).stop i H/\ys.length<=sizeLine/\∀p,H p=none->Q (.ref p) (upd H p<|.lst ys))∨
 ((BN K a).go i H/\ys.length<sizeLine/\∀x H',(BN K a).VI i H x H'->g x σ H' λσ2 H2=>tt σ2 H2 λb H3=>if b=true then te σ2 H3 λy H4=>∃m',m'<m/\W (i+1) m' (ys++[y]) σ2 H4 else ∃m',m'<m/\W (i+1) m' ys σ2 H3)
theorem vB{t:TE}:zC k js (Jw K<|lQ t fL) g tt te σ H Q=t σ H (λx H1=>GQ K g tt te (up k js σ) Q x H1):=rfl
end
noncomputable abbrev FZ(o:Qc):HO:=.frz o<|.ext λ_=>True
open Classical in
noncomputable def hid(cl:List<|Pa×OL)(H:Hp):Hp:=λb=>if ∃x,cl.lookup x=some b then none else H b
open Classical in
noncomputable def back(cl:List<|Pa×OL)(H H1:Hp):Hp:=λb=>if ∃x,cl.lookup x=some b then H b else H1 b
noncomputable def DI(N:List Pa)(vs cs:List V):St:=vs.map some++(Pf (N.length-vs.length-cs.length) none++cs.map some)
noncomputable def GO(P:OZ)(w:Pp)(K:W.Frag)(mg:Pa->Option OK)(base:Ph)(N:List Pa)(qual:Pa)(scope:QQ)(f:OL)(cd:OK)(cl:List<|Pa×OL)(A:Pb)(outer:List RQ)(s:ON)(H:Hp):Cx where
 prog:=P
 w:=w
 K:=K
 mg:=mg
 base:=base
 A:=A.deeper<|PySem.W.envX qual scope s.heap.objs.size f cd cl
 N:=N
 s₀:=s
 H₀:=H
 env:=PySem.W.envX qual scope s.heap.objs.size f cd cl
 outer:=outer
 stack:=PySem.W.envX qual scope s.heap.objs.size f cd cl::outer
 ex:=[]
 calm:=true
 fn:=λ_=>false
 pn:=[]
 xe:=λ_ _=>False
def DF(r:V->List V->Hp->VK->Prop)(ta:TE)(t:TA):TE:=λσ H Q=>ta σ H λf H1=>(∃g o,f=.ref g/\H1 g=some (FZ o)/\∃fd,o.data=.func fd)/\t σ H1 λvs H2=>r f vs H2 Q
theorem Bs{mg:Pa->Option OK}{cl:List<|Pa×OL}{A:Pb}:(GO P w K mg base N qual scope f cd cl A outer s H).K=K:=rfl
theorem lkc{k:Pa}{r:List<|Pa×V}:Qq k ((x,v)::r)=if k=x then some v else Qq k r:=by
 rw[BX];by_cases h:k=x
 .subst h;simp
 .have:(k==x)=false:=by simpa using h
  rw[this,Z8 h]
theorem L8{f:Pa}{v u:V}:∀{fs:List<|Pa×V},fs.lookup f=some u->(aL f v fs).length=fs.length
 |[],h=>by cases h
 |(g,w)::r,h=>by
  unfold aL;by_cases e:g=f
  .rw [Z9 e];rfl
  .rw [Z8 e,bS,bS];rw[lkc,Z8 λz=>e z.symm] at h;rw[L8 h]
structure aZ(H:Hp)(a C:OL)(fl:List<|Pa×V):Prop where
 ex:∃dx fs,H a=some (.ins C dx fs)/\fs.length<=50/\∀f,fs.lookup f=fl.lookup f
theorem aZ.of(h:H a=some (.ins C dx fl))(hl:fl.length<=50):aZ H a C fl:=⟨dx,fl,h,hl,λ_=>rfl⟩
theorem aZ.congr{fl':List<|Pa×V}(h:aZ H a C fl)(e:∀f,fl.lookup f=fl'.lookup f):aZ H a C fl':=let ⟨dx,fs,h1,h2,h3⟩:=h.ex;⟨dx,fs,h1,h2,λf=>(h3 f).trans<|e f⟩
theorem aZ.mono(h:aZ H a C fl)(s:aD H H'):aZ H' a C fl:=let ⟨dx,fs,h1,h2,h3⟩:=h.ex;⟨dx,fs,s _ _ h1,h2,h3⟩
theorem aZ.keep(h:aZ H a C fl)(s:H' a=H a):aZ H' a C fl:=let ⟨dx,fs,h1,h2,h3⟩:=h.ex;⟨dx,fs,s.trans h1,h2,h3⟩
theorem aZ.ne(h:aZ H a C fl)(J:H b=some o)(n:∀C dx fs,o≠.ins C dx fs):b≠a:=λz=>by
 obtain⟨dx,fs,h1,_⟩:=h.ex;rw[z,h1] at J;exact n _ _ _ (OS J).symm
theorem aZ.neN(h:aZ H a C fl)(J:H b=none):b≠a:=λz=>by
 obtain⟨dx,fs,h1,_⟩:=h.ex;rw[z,h1] at J;cases J
section
variable {f:Pa}
theorem aZ.get(h:aZ H a C fl)(cl:fW K C)(n:aF K C f)(l:fl.lookup f=some v)(q:Q v H):Et K f (.ref a) H Q:=by
 obtain⟨dx,fs,h1,h2,h3⟩:=h.ex;exact uO h1 cl n ((h3 f).trans l) q
theorem aZ.set{Q:Hp->Prop}(h:aZ H a C fl)(cl:fW K C)(n:aF K C f)(q:∀H',aZ H' a C (aL f v fl)->(∀b,b≠a->H' b=H b)->Q H')(hl:∃u,fl.lookup f=some u):Ar K f (.ref a) v H Q:=by
 obtain⟨dx,fs,h1,h2,h3⟩:=h.ex;obtain⟨u,J⟩:=hl;refine tQ h1 cl n (by lia)<|q _ ⟨dx,_,aP,?_,λg=>?_⟩ λb z=>aO z
 .rw [L8<|(h3 f).trans J];exact h2
 .rw [pO,pO,h3]
theorem aZ.Uw{m:Pa}{R:Prop}(h:aZ H a C fl)(l:fl.lookup m=none)(q:R):L2.X3 λb dx fs=>V.ref a=.ref b/\H b=some (.ins C dx fs)/\fs.lookup m=none/\R:=by
 obtain⟨dx,fs,h1,h2,h3⟩:=h.ex;exact⟨a,dx,fs,rfl,h1,(h3 m).trans l,q⟩
end
def GR(K:W.Frag)(tv:TE)(rd:V->V->Hp->VK->Prop)(f:Pa)(D:Ends)(σ:St)(x:V)(H1:Hp):Prop:=L2.X5 λa C dx fs v=>x=.ref a/\H1 a=some (.ins C dx fs)/\fW K C/\aF K C f/\fs.lookup f=some v/\
 tv σ H1 λy H2=>rd v y H2 λz H3=>L2.X2 λdx' fs'=>H3 a=some (.ins C dx' fs')/\fs'.length<1000/\D.nx σ (upd H3 a<|.ins C dx'<|aL f z fs')
theorem rZ{rd:V->V->Hp->VK->Prop}{f:Pa}{D:Ends}:tT K ta tv rd f D σ H=ta σ H (λx H1=>GR K tv rd f D σ x H1):=rfl
theorem aZ.aug{f:Pa}{D:Ends}(h:aZ H a C fl)(cl:fW K C)(n:aF K C f)(l:fl.lookup f=some (.int i))
  (q:∀H',aZ H' a C (aL f (.int<|i+j) fl)->(∀b,b≠a->H' b=H b)->D.nx σ H'):GR K (tC<|.int j) Gq f D σ (.ref a) H:=by
 obtain⟨dx,fs,h1,h2,h3⟩:=h.ex;refine⟨a,C,dx,fs,_,rfl,h1,cl,n,(h3 f).trans l,i,j,rfl,rfl,dx,fs,h1,by lia,q _ ⟨dx,_,aP,?_,λg=>?_⟩ λb z=>aO z⟩
 .rw [L8<|(h3 f).trans l];exact h2
 .rw [pO,pO,h3]
theorem cM{f:Pa}{Q:Hp->Prop}(h:H a=some (.ins C dx fl))(cl:fW K C)(n:aF K C f)(hl:fl.length<=20)(q:∀H',H' a=some (.ins C dx<|aL f v fl)->(∀b,b≠a->H' b=H b)->Q H'):Ar K f (.ref a) v H Q:=
 tQ h cl n (by lia)<|q _ aP λb z=>aO z
theorem fD{f:Pa}{n:Nat}(h:fl.length<=n):(aL f v fl).length<=n+1:=cX (Lw f v fl)<|Nat.succ_le_succ h
theorem GU:(aL f0 v0 []).length<=20:=cX (fD<|aK 0)<|by decide
theorem FA:(aL f1 z<|aL f0 v0 []).length<=20:=cX (fD<|fD<|aK 0)<|by decide
theorem FC:(aL x z<|aL f1 J<|aL f0 v0 []).length<=20:=cX (fD<|fD<|fD<|aK 0)<|by decide
theorem HZ:(aL x J<|aL U z<|aL f1 O<|aL f0 v0 []).length<=20:=cX (fD<|fD<|fD<|fD<|aK 0)<|by decide
theorem JE:(aL U J<|aL f3 O<|aL f2 z<|aL f1 Z<|aL f0 v0 []).length<=20:=cX (fD<|fD<|fD<|fD<|fD<|aK 0)<|by decide
theorem Gv:(aL f5 v5<|aL U J<|aL f3 O<|aL f2 z<|aL f1 Z<|aL f0 v0 []).length<=20:=cX (fD<|fD<|fD<|fD<|fD<|fD<|aK 0)<|by decide
theorem Gu:(aL f6 v<|aL f5 v5<|aL x J<|aL f3 O<|aL f2 z<|aL f1 v1<|aL f0 v0 []).length<=20:=cX (fD<|fD<|fD<|fD<|fD<|fD<|fD<|aK 0)<|by decide
theorem Gs{f4:Pa}{v7:V}:(aL x v7<|aL f6 Z<|aL f5 v5<|aL f4 J<|aL f3 v<|aL f2 z<|aL f1 v1<|aL f0 v0 []).length<=20:=cX (fD<|fD<|fD<|fD<|fD<|fD<|fD<|fD<|aK 0)<|by decide
theorem Cy(p q:Int):(if q>p then q else p)=max p q:=by split<;>lia
theorem Fw(p q:Int):(if q<p then q else p)=min p q:=by split<;>lia
theorem rD{us ds:List OK}{n:Nat}(h:(us++ds).length=ps.length)(e:n+ds.length=ps.length):us.length=n:=by
 rw[aW] at h;lia
def Fr(S:List OL)(H H':Hp):Prop:=∀b o,b∉S->H b=some o->H' b=some o
theorem Fr.refl{S:List OL}:Fr S H H:=λ_ _ _ h=>h
theorem Fr.trans{S:List OL}{H'':Hp}(e:Fr S H H')(f:Fr S H' H''):Fr S H H'':=λb o n h=>f b o n<|e b o n h
theorem aD.fr{S:List OL}(e:aD H H'):Fr S H H':=λb o _ h=>e b o h
theorem Fr.upd{S:List OL}{H:Hp}{l:OL}{o:HO}(h:l∈S):Fr S H<|upd H l o:=λb o' n e=>by
 have z:b≠l:=λz=>n (by rw[z];exact h);rw[aO z];exact e
end L2
namespace L2
open PySem PySem.Spec PyProof.Rows
variable {y:V}{w:Pp}{a b:OL}{H H':Hp}{o:Option V}{σ:St}{P:OZ}{X:Cx}{u:OK}{h':Ph}{kvs:List (List Key×V)}
def FR(K:W.Frag)(t:TA):TE:=λσ H Q=>t σ H λvs H1=>L2.X2 λ(l:OL) (ys:List V)=>vs=[.ref l]/\aB K H1 l ys/\∀r,H1 r=none->Q (.ref r) (upd H1 r<|.lst ys.reverse)
def EE(g:TG)(tt:TT)(te:TE)(σ0:St)(Q:VK)(x y:V)(H1:Hp):Prop:=L2.X2 λi j:Int=>[x,y]=[.int i,.int j]/\(-(2^62)<=i/\i<2^62/\-(2^62)<=j/\j<2^62)/\CK i g tt te σ0 Q (j-i).toNat H1
theorem rV{k:Nat}{js:List Nat}{t u:TE}{g:TG}{tt:TT}{te:TE}{Q:VK}:zC k js (Jy<|lQ t<|lQ u fL) g tt te σ H Q=t σ H (λx H1=>u σ H1 λy H2=>EE g tt te (up k js σ) Q x y H2):=rfl
noncomputable def BM(K:W.Frag)(a b:OL):It:=
 ⟨λi H=>L2.X4 λxs x ys y=>aB K H a xs/\xs[i]?=some x/\aB K H b ys/\ys[i]?=some y,λi H v H'=>L2.X3 λp x y=>H p=none/\(∀xs,aB K H a xs->xs[i]?=some x)/\(∀ys,aB K H b ys->ys[i]?=some y)/\H'=upd H p (.tup [x,y])/\v=.ref p,λi H=>L2.X2 λxs ys=>aB K H a xs/\aB K H b ys/\(xs.length<=i∨ys.length<=i)⟩
section
def yR(K:W.Frag)(ta:TA):TI:=λσ H R=>ta σ H λvs H1=>L2.X2 λa b=>vs=[.ref a,.ref b]/\(∃xs,aB K H1 a xs)/\(∃xs,aB K H1 b xs)/\R (BM K a b) H1
theorem Jh{a b:Nat}(h:a≠b):(a:OL)≠b:=h
end
section
variable {K:W.Frag}{xs ys:List V}{g:TG}{tb:TS}{D:Ends}
def Jn(K:W.Frag)(g:TG)(tb:TS)(D:Ends)(σ:St)(x y:V)(H1:Hp):Prop:=L2.X2 λa b=>[x,y]=[.ref a,.ref b]/\(∃xs,aB K H1 a xs)/\(∃xs,aB K H1 b xs)/\∃W:Nat->Nat->St->Hp->Prop,(∃m,W 0 m σ H1)/\∀i m σ H,W i m σ H->
 ((BM K a b).stop i H/\D.nx σ H)∨((BM K a b).go i H/\∃N:St->Hp->Prop,(∀σ' H',N σ' H'->∃m',m'<m/\W (i+1) m' σ' H')/\∀x H',(BM K a b).VI i H x H'->g x σ H' λσ2 H2=>tb { D with nx:=N,ct:=N,bk:=D.nx } σ2 H2)
theorem pY{t u:TE}:vz (yR K<|lQ t<|lQ u fL) g tb D σ H=t σ H (λx H1=>u σ H1 λy H2=>Jn K g tb D σ x y H2):=rfl
end
section
variable {κ:Type}[DecidableEq κ]
noncomputable def cH(kvs:List<|κ×V)(k:κ):Option V:=(kvs.find? λkv=>decide<|kv.1=k).map (·.2)
noncomputable def putK(kvs:List<|κ×V)(k:κ)(v:V):List<|κ×V:=
 if (kvs.any λkv=>decide<|kv.1=k)=true then kvs.map (λkv=>if kv.1=k then(kv.1,v) else kv) else kvs++[(k,v)]
theorem xm{k:κ}:cH ([]:List<|κ×V) k=none:=rfl
theorem zG{p:κ×V}{r:List<|κ×V}{k:κ}(e:p.1=k):cH (p::r) k=some p.2:=by simp[cH,Fe,e]
theorem zF{p:κ×V}{r:List<|κ×V}{k:κ}(e:¬ p.1=k):cH (p::r) k=cH r k:=by simp[cH,Fe,e]
theorem Hl(k:κ):∀kvs:List<|κ×V,(kvs.any λz=>decide<|z.1=k)=(cH kvs k).isSome
 |[]=>rfl
 |p::r=>by
  rw[Ds];by_cases e:p.1=k
  .simp only[zG e,decide_eq_true e,Bool.true_or,Option.isSome_some]
  .rw [zF e,decide_eq_false e,Bool.false_or];exact Hl k r
theorem pV(k j:κ)(y:V):∀kvs:List<|κ×V,cH (kvs.map λJ=>if J.1=k then(J.1,y) else J) j=(cH kvs j).map λx=>if j=k then y else x
 |[]=>rfl
 |p::r=>by
  have O:=pV k j y r;rw[jC];by_cases h:p.1=k
  .rw [Z9 h];by_cases e:p.1=j
   .rw [zG (p:=(p.1,y)) e,zG e,Dq,Z9<|e.symm.trans h]
   .rw [zF (p:=(p.1,y)) e,zF e,O]
  .rw [Z8 h];by_cases e:p.1=j
   .rw [zG (p:=p) e,zG e,Dq,Z8 λz=>h<|e.trans z]
   .rw [zF (p:=p) e,zF e,O]
theorem mT(k j:κ)(y:V):∀kvs:List<|κ×V,cH kvs k=none->cH (kvs++[(k,y)]) j=if j=k then some y else cH kvs j
 |[],_=>by
  by_cases e:k=j
  .rw [Z9 e.symm];exact zG (p:=(k,y)) e
  .rw [Z8 λz=>e z.symm];exact zF (p:=(k,y)) e
 |p::r,hn=>by
  rw[Dl];have J:¬ p.1=k:=λz=>by rw[zG z] at hn;cases hn
  rw[zF J] at hn;have O:=mT k j y r hn;by_cases e:p.1=j
  .rw [zG e,zG e,Z8 λz=>J<|e.trans z]
  .rw [zF e,zF e,O]
theorem pU(kvs:List<|κ×V)(k j:κ)(y:V):cH (putK kvs k y) j=if j=k then some y else cH kvs j:=by
 unfold putK;by_cases a:(kvs.any λz=>decide<|z.1=k)=true
 .rw [Z9 a,pV];rw[Hl] at a;by_cases e:j=k
  .obtain ⟨x,hx⟩:=Option.isSome_iff_exists.mp a;rw[Z9 e,e,hx,Dq,Z9 rfl]
  .rw [Z8 e];cases cH kvs j with
   |none=>rfl
   |some x=>rw[Dq,Z8 e]
 .rw [Z8 a];refine mT k j y kvs ?_;rw[Hl] at a;cases q:cH kvs k with
  |none=>rfl
  |some x=>rw[q] at a;exact(a rfl).elim
theorem Hn(kvs:List<|κ×V)(k:κ)(v:V):(putK kvs k v).length<=kvs.length+1:=by
 unfold putK;split
 .rw [aJ];lia
 .rw [aW,bS,tD];lia
theorem dG.UZ{u:Option OK}(r:dG o u):o.isSome=u.isSome:=by
 cases o with
 |none=>cases u with
  |none=>rfl
  |some _=>exact(show False from r).elim
 |some _=>cases u with
  |none=>exact(show False from r).elim
  |some _=>rfl
theorem dG.getD{u:Option OK}{d:V}{d':OK}(r:dG o u)(rd:RelV d d'):RelV (o.getD d)<|u.getD d':=by
 cases o with
 |none=>cases u with
  |none=>exact rd
  |some _=>exact(show False from r).elim
 |some _=>cases u with
  |none=>exact(show False from r).elim
  |some _=>exact r
theorem KV.val{kvs:List<|κ×V}{vs:List<|κ×OK}(r:KV kvs vs)(k:κ):dG (cH kvs k)<|TJ vs k:=by
 unfold KV at r;induction r with
 |nil=>exact True.intro
 |@cons p q ps qs h t ih=>
  obtain⟨h1,h2⟩:=h;by_cases e:p.1=k
  .have J:q.1=k:=h1.symm.trans e;have b:TJ (q::qs) k=some q.2:=by simp[TJ,Fe,J]
   rw[zG e,b];exact h2
  .have J:¬ q.1=k:=λz=>e<|h1.trans z;have b:TJ (q::qs) k=TJ qs k:=by simp[TJ,Fe,J]
   rw[zF e,b];exact ih
theorem KV.any{kvs:List<|κ×V}{vs:List<|κ×OK}(r:KV kvs vs)(k:κ):(kvs.any λz=>decide<|z.1=k)=vs.any λz=>decide (z.1=k):=by
 unfold KV at r;induction r with
 |nil=>rfl
 |cons h t ih=>rw[Ds,Ds,ih,h.1]
theorem KV.WL{kvs:List<|κ×V}{vs:List<|κ×OK}(r:KV kvs vs)(k:κ)(O:RelV y u):
  KV (kvs.map λJ=>if J.1=k then(J.1,y) else J)<|vs.map λJ=>if J.1=k then(J.1,u) else J:=by
 unfold KV at r⊢;induction r with
 |nil=>exact .nil
 |@cons p q ps qs h t ih=>
  rw[jC,jC];refine .cons ?_ ih;obtain⟨h1,h2⟩:=h;by_cases e:p.1=k
  .rw [Z9 e,Z9<|h1.symm.trans e];exact⟨h1,O⟩
  .rw [Z8 e,Z8 λz=>e<|h1.trans z];exact⟨h1,h2⟩
theorem KV.put{kvs:List<|κ×V}{vs:List<|κ×OK}(r:KV kvs vs)(k:κ)(z:RelV y u):KV (putK kvs k y)<|stored vs k u:=by
 unfold putK stored;rw[r.any k];by_cases e:(vs.any λJ=>decide<|J.1=k)=true
 .rw [Z9 e,Z9 e];exact r.WL k z
 .rw [Z8 e,Z8 e];exact Paired.snoc r ⟨rfl,z⟩
theorem KV.length{kvs:List<|κ×V}{vs:List<|κ×OK}(r:KV kvs vs):kvs.length=vs.length:=R9 r
end
theorem GS{k:Key}(r:RelV (kV k) u):(dU P w).is k u=true:=by
 cases k with
 |inl i=>obtain⟨t,e⟩:=(show ∃t,u=Value.int i t from r);subst e;exact qM P w i t
 |inr x=>obtain⟨t,e⟩:=(show ∃t,u=Value.str x t from r);subst e;exact qL P w x t
theorem nP{P:OZ}{w:Pp}:∀{ks:List Key} {us:List OK},Vals (ks.map kV) us->ItemsAre (dU P w) ks us
 |[],_,r=>by rw[List.map_nil] at r;cases r;exact .nil
 |k::ks,_,r=>by
  rw[jC] at r;cases r with
  |cons h t=>exact .cons (GS h)<|nP t
noncomputable abbrev KT(H:Hp):List (List Key×V)->List (List Key×OL×OK)->Prop:=Paired λp q=>p.1=q.1/\H q.2.1=some (.tup<|p.1.map kV)/\RelV p.2 q.2.2
theorem KT.val{xs:List<|List Key×OL×OK}(r:KT H kvs xs)(k:List Key):dG (cH kvs k)<|(Uu xs k).map (·.2):=by
 induction r with
 |nil=>exact True.intro
 |@cons p q ps qs h t ih=>
  obtain⟨h1,_,h2⟩:=h;by_cases e:p.1=k
  .have J:q.1=k:=h1.symm.trans e;have b:Uu (q::qs) k=some q.2:=by simp[Uu,Fe,J]
   rw[zG e,b];exact h2
  .have J:¬ q.1=k:=λz=>e<|h1.trans z;have b:Uu (q::qs) k=Uu qs k:=by simp[Uu,Fe,J]
   rw[zF e,b];exact ih
theorem KT.WL{xs:List<|List Key×OL×OK}(r:KT H kvs xs)(k:List Key)(O:RelV y u):
  KT H (kvs.map λJ=>if J.1=k then(J.1,y) else J)<|xs.map<|putAt k u:=by
 induction r with
 |nil=>exact .nil
 |@cons p q ps qs h t ih=>
  rw[jC,jC];refine .cons ?_ ih;obtain⟨h1,h2,h3⟩:=h;unfold putAt;by_cases e:p.1=k
  .rw [Z9 e,Z9<|h1.symm.trans e];exact⟨h1,h2,O⟩
  .rw [Z8 e,Z8 λz=>e<|h1.trans z];exact⟨h1,h2,h3⟩
theorem KT.put{xs:List<|List Key×OL×OK}(r:KT H kvs xs)(k:List Key)(J:H b=some (.tup<|k.map kV))(z:RelV y u):
  KT H (putK kvs k y)<|storedH xs k b u:=by
 have e:(kvs.any λO=>decide<|O.1=k)=(Uu xs k).isSome:=by
  rw[Hl,(r.val k).UZ,Option.isSome_map]
 unfold putK storedH;rw[e];by_cases q:(Uu xs k).isSome=true
 .rw [Z9 q,Z9 q];exact r.WL k z
 .rw [Z8 q,Z8 q];exact Paired.snoc r ⟨rfl,J,z⟩
theorem KT.keeps{xs:List<|List Key×OL×OK}(r:KT H kvs xs)(J:∀b ys,H b=some (.tup ys)->H' b=some (.tup ys)):KT H' kvs xs:=
 Paired.WO r λ_ _ z=>⟨z.1,J _ _ z.2.1,z.2.2⟩
section
variable {h:Ph}
theorem Cp{u:HO}(ok:dJ P w H h)(e:Rd H a u):aS P w H h a u:=e.ok ok
theorem GX{kvs:List<|Key×V}(ok:dJ P w H h)(e:Rd H a<|.dK kvs):kvs.length<=sizeLine/\(a==QK)=false/\∃vs,KV kvs vs/\h.DictOf (dU P w) a vs:=
 show aS P w H h a (.dK kvs) from Cp ok e
theorem GN{kvs:List<|Key×V}(ok:dJ P w H h)(e:H a=some (.dK kvs)):kvs.length<=sizeLine/\(a==QK)=false/\∃vs,KV kvs vs/\h.DictOf (dU P w) a vs:=GX ok<|.inl e
theorem EO{ks:List Key}(ok:dJ P w H h)(e:H a=some (.tup<|ks.map kV)):(Pr<|dU P w).is h ks a:=by
 obtain⟨_,its,r,o,h1,h2,n,h3⟩:=(show aS P w H h a (.tup<|ks.map kV) from ok a _ e)
 exact⟨o,its.toArray,n,h1,h2,h3,by simpa using nP r⟩
theorem GY(ok:dJ P w H h)(e:Rd H a<|.dT kvs):kvs.length<=sizeLine/\(a==QK)=false/\
  ∃xs,KT H kvs xs/\h.DictOfH (Pr<|dU P w) a xs:=by
 obtain⟨z,y,xs,r,o,es,ep,h1,h2,h3,J,O⟩:=(show aS P w H h a (.dT kvs) from Cp ok e)
 refine⟨z,y,xs,r,o,es,ep,h1,h2,h3,J,λx hx=>?_,O⟩;have all:∀{l:List<|List Key×V} {m:List<|List Key×OL×OK},KT H l m->∀x∈m,(Pr<|dU P w).is h x.1 x.2.1:=by
  intro l m q;induction q with
  |nil=>intro x hx;exact nomatch hx
  |@cons p q ps qs hq t ih=>
   intro x hx;rcases bC.mp hx with e|hx
   .subst e;exact EO ok<|by rw[<- hq.1];exact hq.2.1
   .exact ih x hx
 exact all r x hx
theorem CH(ok:dJ P w H h)(e:H a=some (.dT kvs)):kvs.length<=sizeLine/\(a==QK)=false/\
  ∃xs,KT H kvs xs/\h.DictOfH (Pr<|dU P w) a xs:=GY ok<|.inl e
end
def jL(H:Hp)(a:OL)(y:V)(r:Option V):Prop:=
 (∃kvs k,Rd H a (.dK kvs)/\y=kV k/\r=cH kvs k)∨∃kvs k b,Rd H a (.dT kvs)/\y=.ref b/\H b=some (.tup<|k.map kV)/\r=cH kvs k
def tp(H:Hp)(a:OL)(y v:V)(H':Hp):Prop:=
 (∃kvs k,H a=some (.dK kvs)/\y=kV k/\kvs.length<sizeLine/\H'=upd H a (.dK<|putK kvs k v))∨
 ∃kvs k b,H a=some (.dT kvs)/\y=.ref b/\H b=some (.tup<|k.map kV)/\kvs.length<sizeLine/\H'=upd H a (.dT<|putK kvs k v)
theorem jL.t{k:List Key}(e:H a=some (.dT kvs))(z:H b=some (.tup<|k.map kV)):jL H a (.ref b)<|cH kvs k:=.inr ⟨kvs,k,b,.inl e,rfl,z,rfl⟩
theorem tp.t{k:List Key}{v:V}(e:H a=some (.dT kvs))(z:H b=some (.tup<|k.map kV))(hl:kvs.length<sizeLine):
  tp H a (.ref b) v<|upd H a<|.dT<|putK kvs k v:=.inr ⟨kvs,k,b,e,rfl,z,hl,rfl⟩
section
variable {pins:List (OL×Qc)}{s:ON}{v:V}{r:OK}{A:Pb}{E:OK->ON->Prop}
theorem Inv.big(I:Inv X pins σ H s):QK<s.heap.objs.size:=by
 have h:OX<s.heap.objs.size:=(I.mod.glob.keeps I.bk).lt;exact Nat.lt_trans (by decide) h
theorem wh{Q:OK->ON->Prop}(hu:A.units+1<Rx)(I:Inv X pins σ H s)(g:jL H a y<|some v)(ry:RelV y u)(h:∀w' s',Inv X pins σ H s'->RelV v w'->Q w' s'):
  OR (OV X.prog X.w) A (Uh (.ref a) u) Q E s:=by
 rcases g with ⟨kvs,k,e,U,l⟩|⟨kvs,k,b,e,U,eb,l⟩
 .subst U;obtain⟨z,hd,vs,J,dd⟩:=GX I.Uy e;obtain⟨w',hw,O⟩:=dG.some_of (v:=v) (o:=TJ vs k) (by rw[l];exact J.val k);exact wpAny_getItem_of (GS ry) dd.mapOf hw<|h w' _ (I.tok _) O
 .subst U;cases(show u=Value.ref b from ry);obtain⟨z,hd,xs,J,dd⟩:=GY I.Uy e;obtain⟨w',hw,O⟩:=dG.some_of (v:=v) (o:=(Uu xs k).map (·.2)) (by rw[l];exact J.val k);obtain⟨p,hp,Z⟩:=zM.mp hw;refine wpAny_getItem_heap (Q2 hu) (EO I.Uy eb) dd hp ?_;rw[Z];exact h w' _ (I.tok _) O
theorem Jp{Q:OK->ON->Prop}(hu:A.units+1<Rx)(I:Inv X pins σ H s)(g:jL H a y o)(Z:RelV y u)(h:∀s',Inv X pins σ H s'->Q (.bool o.isSome) s'):
  OR (OV X.prog X.w) A (PR .In u<|.ref a) Q E s:=by
 rcases g with ⟨kvs,k,e,O,l⟩|⟨kvs,k,b,e,O,eb,l⟩
 .subst O;obtain⟨z,U,vs,J,dd⟩:=GX I.Uy e;refine wpAny_in_of (GS Z) U dd.mapOf ?_;rw[<- (J.val k).UZ,<- l];exact h _<|I.tok _
 .subst O;cases(show u=Value.ref b from Z);obtain⟨z,U,xs,J,dd⟩:=GY I.Uy e;refine wpAny_in_heap (Q2 hu) (EO I.Uy eb) U dd ?_;have q:=(J.val k).UZ;rw[Option.isSome_map] at q;rw[<- q,<- l];exact h _<|I.tok _
theorem uY{t':Nat}{ob:HO}(I:Inv X pins σ H s)(U:Hx<|H a)(Z:Pq a s.heap h')(J:∃q,h'.get? a=some q)(new:aS X.prog X.w (upd H a ob) h' a ob):
  Inv X pins σ (upd H a ob) { s with heap:=h',toks:=t' }:=
 I.write (x:=a) (e:=a) U (.inl rfl) (λb q O z=>(Z.2 b O).trans z) J new
theorem ED{kvs:List<|Key×V}{vs:List<|Key×OK}(z:kvs.length<=sizeLine)(O:(a==QK)=false)(J:KV kvs vs)(dd:h'.DictOf (dU P w) a vs):
  aS P w H' h' a<|.dK kvs:=⟨z,O,vs,J,dd⟩
theorem wg{Q:Unit->ON->Prop}(hu:A.units+1<Rx)(I:Inv X pins σ H s)(g:tp H a y v H')(ry:RelV y u)(rv:RelV v r)(h:∀s',Inv X pins σ H' s'->Q () s'):
  OR (OV X.prog X.w) A (setItem (.ref a) u r) Q E s:=by
 rcases g with ⟨kvs,k,e,Z,l,eH⟩|⟨kvs,k,b,e,Z,eb,l,eH⟩
 .subst Z eH;obtain⟨z,hd,vs,J,dd⟩:=GN I.Uy e;have hz:vs.length<=sizeLine:=by rw[<- J.length];exact z
  have hl:(putK kvs k v).length<=sizeLine:=by have:=Hn kvs k v;lia
  refine wpAny_setItem_pairs (hsz:=hz) (GS ry) dd λh' O hs=>h _ ?_;have he:∃q,h'.get? a=some q:=let ⟨q,_,_,U,_⟩:=O;⟨q,U⟩
  exact uY I (by rw[e];exact True.intro) hs he<|ED hl hd (J.put k rv) O
 .subst Z eH;cases(show u=Value.ref b from ry);obtain⟨z,hd,xs,J,dd⟩:=CH I.Uy e;have hz:xs.length<=sizeLine:=by rw[<- R9 J];exact z
  have hl:(putK kvs k v).length<=sizeLine:=by have:=Hn kvs k v;lia
  refine wpAny_setItem_heap (hsz:=hz) (Q2 hu) (EO I.Uy eb) dd λh' O hs=>h _ ?_;obtain⟨q,es,ep,U,h2,h3,h4,_,h5⟩:=O;refine uY I (by rw[e];exact True.intro) hs ⟨q,U⟩ ⟨hl,hd,_,(J.put k eb rv).keeps λc ys ec=>?_,q,es,ep,U,h2,h3,h4,h5⟩;rw[aO<|GH ec e λz=>nomatch z];exact ec
end
def Hw(i:PM):Prop:=∀ov iv,subscripted i false ov iv=operate [ov,iv] (Uh ov iv)
theorem Ak{prog:OZ}{A:Pb}{E:OK->ON->Prop}{s:ON}{env:RQ}{value z:PM}{pos:Sq}{T id:String}{Q:OK->ON->Prop}
  (hl:Sw (.type T) "__getitem__"=pure (some<|.builtin id)) (hs:Hw z)
  (h:OR (OV prog w) A (eval value env) (λo s₁=>OR (OV prog w) A (eval z env) (λi s₂=>s₂.TypeIs o T/\OR (OV prog w) A (Uh o i) Q E s₂) E s₁) E s):
  OR (OV prog w) A (eval (.Subscript value z pos) env) Q E s:=by
 refine Subscript_<|Pj h (λo s₁ U=>Pj U (λi s₂ J=>?_) λ_ _ x=>x) λ_ _ x=>x;obtain⟨hT,J⟩:=J;unfold subscriptTail;refine OJ ?_;rw[getitemInPython_of_ne hT.not_modules];refine OJ<|SE hT hl ?_;have fin:OR (OV prog w) A (subscripted z false o i) (λr O=>OR (OV prog w) A (letTemporaryGo value o r>>=λ_=>pure r) Q E O) E s₂:=by
  rw[hs o i];exact wpAny_operating<|Pj J (λr O Z=>OJ<|wpAny_letTemporaryGo<|OO Z) λ_ _ x=>x
 first
  |exact OO<|OJ fin
  |exact OJ<|OO<|OJ fin
  |exact OJ fin
theorem rh{pins:List<|OL×Qc}{s:ON}(I:Inv X pins σ H s)(g:jL H a y o):s.TypeIs (.ref a) "dict":=by
 rcases g with ⟨kvs,k,e,_,_⟩|⟨kvs,k,b,e,_,_,_⟩
 .obtain ⟨_,_,vs,_,dd⟩:=GX I.Uy e;exact dd.typeIs
 .obtain ⟨_,_,xs,_,dd⟩:=GY I.Uy e;exact dd.typeIs
def B7(td ty:TE):TE:=λσ H Q=>td σ H λx H1=>ty σ H1 λy H2=>L2.X2 λa v=>x=.ref a/\jL H2 a y (some v)/\Q v H2
def Gb(ty td:TE):TE:=λσ H Q=>ty σ H λy H1=>td σ H1 λx H2=>L2.X2 λa o=>x=.ref a/\jL H2 a y o/\Q (.bl o.isSome) H2
def Ai(ty td:TE):TE:=λσ H Q=>ty σ H λy H1=>td σ H1 λx H2=>L2.X2 λa o=>x=.ref a/\jL H2 a y o/\Q (.bl<|!o.isSome) H2
def Co(td ty tv:TE):TS:=λD σ H=>tv σ H λv H1=>td σ H1 λx H2=>ty σ H2 λy H3=>L2.X2 λa H4=>x=.ref a/\tp H3 a y v H4/\D.nx σ H4
section
variable {o i e value:PM}{pos pos' tpos:Sq}{td ty tv:TE}
theorem uv(hu:X.A.units+1<Rx)(ho:PE X o td)(hi:PE X i ty)(hs:Hw i):PE X (.Subscript o i pos)<|B7 td ty:=by
 intro pins s σ H Q I h;refine Ak PySem.F.slot_dict_getitem.lookup hs<|thn (ho pins s σ H _ I h) λu s1 z=>?_;obtain⟨x,H1,U,rx,q1⟩:=z;refine thn (hi pins s1 σ H1 _ U q1) λiv s2 z=>?_;obtain⟨y,H2,O,Z,a,v,ex,g,q2⟩:=z;subst ex;obtain rfl:u=Value.ref a:=rx;exact⟨rh O g,wh hu O g Z λw' s3 I3 J=>⟨v,H2,I3,J,q2⟩⟩
theorem D6(hu:X.A.units+1<Rx)(hi:PE X i ty)(ho:PE X o td):PC X .In i o<|Gb ty td:=by
 intro pins s σ H Q I h;refine thn (hi pins s σ H _ I h) λiv s1 z=>?_;obtain⟨y,H1,O,U,q1⟩:=z;refine thn (ho pins s1 σ H1 _ O q1) λu s2 z=>?_;obtain⟨x,H2,J,rx,a,Z,ex,g,q2⟩:=z;subst ex;obtain rfl:u=Value.ref a:=rx;exact Jp hu J g U λs3 I3=>⟨.bl Z.isSome,H2,I3,rfl,q2⟩
theorem Kv(hu:X.A.units+1<Rx)(ho:PE X o td)(hi:PE X i ty)(hv:PE X value tv)(hs:RM value (some<|.Subscript o i pos') pos.line X.env=pure false):
  PS X (.Assign [.Subscript o i pos'] value pos)<|Co td ty tv:=by
 intro pins s σ H D I h;refine wpAny_Assign_Subscript (thn (hv pins s σ H _ I h) λr s1 z=>?_) hs;obtain⟨v,H1,O,rv,q1⟩:=z;refine thn (ho pins s1 σ H1 _ O q1) λu s2 z=>?_;obtain⟨x,H2,J,rx,q2⟩:=z;refine thn (hi pins s2 σ H2 _ J q2) λiv s3 z=>?_;obtain⟨y,H3,I3,Z,a,H4,ex,g,U⟩:=z;subst ex;obtain rfl:u=Value.ref a:=rx;exact wg hu I3 g Z rv λs4 I4=>⟨σ,H4,I4,U⟩
end
theorem zj(h:Ph)(z:QK<h.objs.size):aS P w H (h.push { cls:=.type "dict",data:=.dict #[] }) h.objs.size<|.dT []:=
 ⟨cE _,beq_eq_false_iff_ne.mpr<|OY<|fK z,[],.nil,_,#[],0,OW _ rfl,⟨rfl,rfl,rfl⟩,rfl,rfl,List.nodup_nil⟩
def xR:TE:=λ_ H Q=>∀p,H p=none->Q (.ref p) (upd H p<|.dT [])
section
variable {pos:Sq}
theorem yt:PE X (.Dict [] [] pos) xR:=λpins s σ H Q I h=>
 wpAny_Dict_empty ⟨.ref s.heap.objs.size,_,I.laid (a:=s.heap.objs.size) (o:=.dT []) (t':=s.toks) (λ_ _ q=>OM _ q) (aK _)<|zj s.heap I.big,rfl,h _<|I.Uy.fresh<|aK _⟩
end
inductive Cr:V->List V->Hp->VK->Prop
 |mk (a y o:_):x_=.ref a->M=[y]->jL L a y o->Y (o.getD .Ux) L->Cr x_ M L Y
theorem AZ(hu:X.A.units+1<Rx):MF X "dict.get" Cr:=by
 intro pins s σ H x vs v us Q I rx rv h;obtain⟨a,y,o,rfl,rfl,g,q⟩:=h;cases rx;obtain⟨u,rfl,Z⟩:=rv.one;rcases g with ⟨kvs,k,e,O,l⟩|⟨kvs,k,b,e,O,eb,l⟩
 .subst O;obtain⟨z,U,vs,J,dd⟩:=GX I.Uy e;refine call_meetsIn RX dd.typeIs PySem.F.entry_dict_get (PySem.F.args_dict_get_2 _ _) (meets_dict_get (dU X.prog X.w) a (GS Z) U) ⟨_,dd.mapOf,?_⟩;subst l;exact⟨_,H,I.tok _,(J.val k).getD (d:=.Ux) (d':=.none) rfl,q⟩
 .subst O;cases(show u=Value.ref b from Z);obtain⟨z,U,xs,J,dd⟩:=GY I.Uy e;refine call_meetsIn RX dd.typeIs PySem.F.entry_dict_get (PySem.F.args_dict_get_2 _ _) (meetsH_dict_get (Pr<|dU X.prog X.w) a b U) ⟨Q2 hu,k,xs,EO I.Uy eb,dd,?_⟩;subst l;exact⟨_,H,I.tok _,(J.val k).getD (d:=.Ux) (d':=.none) rfl,q⟩
theorem wA:jS X (.builtin "abs") λxs H Q=>∃i,xs=[.int i]/\Q (.int<|if i<0 then -i else i) H:=by
 intro pins s σ H xs us Q I r h;obtain⟨i,rfl,q⟩:=h;obtain⟨u,rfl,⟨t,rfl⟩⟩:=sU r;exact PyProof.Rows.call_abs_int λu tk=>⟨.int (if i<0 then -i else i),H,I.tok _,⟨_,rfl⟩,q⟩
end L2
namespace PySem
open Sem (wp)
variable {tk:Tok}
namespace F
theorem lk_list_keys:Sw (.type "list") "keys"=pure none:=by rw[typeLookup_type,builtinLookup_eq_fast];kernel_rfl
theorem lk_list_getattr:Sw (.type "list") "__getattr__"=pure none:=by rw[typeLookup_type,builtinLookup_eq_fast];kernel_rfl
theorem sub_ae:isSubtype (.type "AttributeError") (.type "AttributeError")=pure true:=by rw[isSubtype_type];kernel_rfl
end F
section
variable {α:Type}{prog:OZ}{w:Pp}{A:Pb}{E:OK->ON->Prop}{s:ON}
def BK(h h':Ph)(e:OL):Prop:=(∀b u,h.get? b=some u->h'.get? b=some u)/\∃ob,h'.get? e=some ob/\ob.cls=.type "AttributeError"
theorem yz{h:Ph}{g:Array Sn}{d:Drawn}{t:Nat}{os:QO}{e:OL}{v nm O:OK}{Q:Unit->ON->Prop}(z:h.get? e=some { cls:=.type "AttributeError",data:=.fields #[O,.none,.none,.none,.bool false,.none,unsetMember,unsetMember] })
  (U:Q () ⟨h.update e<|Qu λvs=>vs.extract 0 6++#[nm,v],g,d,t,os⟩):OR (OV prog w) A (noteAttr (.ref e) v nm) Q E ⟨h,g,d,t,os⟩:=by
 have f1:=F.sub_ae;have J:(⟨h,g,d,t,os⟩:ON).TypeIs (.ref e) "AttributeError":=⟨_,z,rfl⟩
 unfold noteAttr lacksNameAndObj;refine OJ<|OJ<|Qy (b:=true) J f1 ?_;refine OJ<|Tx z ?_;refine T7 (a:=true) (by kernel_rfl) ?_;rw[Z9 rfl];refine OJ<|Sv ?_;refine OJ<|Su J ?_;show OR _ _ (layMembers e 6 #[nm,v]) _ _ _;unfold layMembers;refine OJ<|Tx z ?_;show OR _ _ (update e<|Qu λvs=>vs.extract 0 6++#[nm,v]) _ _ _;exact wpAny_update z U
theorem mC{v:OK}{x z:Pa}{h:Ph}{g:Array Sn}{d:Drawn}{t:Nat}{os:QO}{Q:α->ON->Prop}(hh:A.handled=none)(hm:z.length<=sizeLine)
  (hq:∀h' t' e,BK h h' e->E (.ref e) ⟨h',g,d,t',os⟩):OR (OV prog w) A (raiseAttrError v x z:TF α) Q E ⟨h,g,d,t,os⟩:=by
 unfold raiseAttrError;refine OJ<|wpAny_mkStr (OJ ?_) hm;unfold newExc newTuple;refine OJ<|Ra ?_;refine OJ (m:=firstArgMember _ _)<|T7 (a:=Value.none) (by kernel_rfl) ?_;refine Ra ?_;have Z:∀b u,h.get? b=some u->(h.push { cls:=.type "tuple",data:=.seq [Value.str z t].toArray }).get? b=some u:=λb u e=>OM _ e;show OR (OV prog w) A (do noteAttr (.ref (h.push { cls:=.type "tuple",data:=.seq [Value.str z t].toArray }).objs.size) v (<- mkText x);raiseNew (.ref (h.push { cls:=.type "tuple",data:=.seq [Value.str z t].toArray }).objs.size)) Q E ⟨(h.push { cls:=.type "tuple",data:=.seq [Value.str z t].toArray }).push { cls:=.type "AttributeError",data:=.fields #[.ref h.objs.size,.none,.none,.none,.bool false,.none,unsetMember,unsetMember] },g,d,t+1,os⟩;generalize (h.push { cls:=.type "tuple",data:=.seq [Value.str z t].toArray })=h1 at Z⊢;have J:∀b u,h.get? b=some u->(h1.push { cls:=.type "AttributeError",data:=.fields #[.ref h.objs.size,.none,.none,.none,.bool false,.none,unsetMember,unsetMember] }).get? b=some u:=λb u e=>OM _<|Z b u e;have O:∀b u,h.get? b=some u->b≠h1.objs.size:=λb u e=>fK<|OQ<|Z b u e;have U:(h1.push { cls:=.type "AttributeError",data:=.fields #[.ref h.objs.size,.none,.none,.none,.bool false,.none,unsetMember,unsetMember] }).get? h1.objs.size=some { cls:=.type "AttributeError",data:=.fields #[.ref h.objs.size,.none,.none,.none,.bool false,.none,unsetMember,unsetMember] }:=OW _ rfl;generalize h1.push { cls:=.type "AttributeError",data:=.fields #[.ref h.objs.size,.none,.none,.none,.bool false,.none,unsetMember,unsetMember] }=h2 at J U⊢;generalize h1.objs.size=ea at O U⊢;refine OJ<|wpAny_mkText ?_;refine OJ<|yz U ?_;unfold raiseNew;refine OJ<|wpAny_handled ?_;rw[hh]
 first
  |refine SU ?_
  |refine OJ<|OO<|SU ?_
 exact hq _ _ _ ⟨λb u e=>(PV _ _<|OY<|O b u e).trans<|J b u e,_,Px _ U rfl,rfl⟩
end
section
variable {prog:OZ}{w:Pp}{A:Pb}{E:OK->ON->Prop}{h:Ph}{g:Array Sn}{d:Drawn}{t:Nat}{os:QO}{a:OL}{its:Array OK}{n:Nat}
theorem pI{Q:Fin->ON->Prop}(hh:A.handled=none)(hx:h.get? a=some { cls:=.type "list",data:=.seq its n })
  (z:∀h' t' e,BK h h' e->E (.ref e) ⟨h',g,d,t',os⟩):
  OR (OV prog w) A (QP.«object.__getattribute__» ⟨[.ref a,.str "keys" tk],[]⟩) Q E ⟨h,g,d,t,os⟩:=by
 have J:(⟨h,g,d,t,os⟩:ON).TypeIs (.ref a) "list":=⟨_,hx,rfl⟩
 have O:=F.lk_list_keys
 repeat (any_goals (first|assumption|wp_step))
 exact mC hh (by decide+kernel) z
theorem qI{R:Result->ON->Prop}(hh:A.handled=none)(hx:h.get? a=some { cls:=.type "list",data:=.seq its n })
  (z:∀h' t' e,BK h h' e->R (.error<|.ref e) ⟨h',g,d,t',os⟩):
  QW (OV prog w) A (.call (.builtin "list.__getattribute__") ⟨[.ref a,.str "keys" tk],[]⟩) R ⟨h,g,d,t,os⟩:=
 Rw F.slot_list_getattribute.plain F.entry_list_ga<|F.slot_list_getattribute.check _ _ _ _ _ _ _ _ (show(⟨h,g,d,t,os⟩:ON).TypeIs (.ref a) "list" from⟨_,hx,rfl⟩) (F.args_list_getattribute_2 _ _)<|pI hh hx z
theorem vP{Q:OK->ON->Prop}(hh:A.handled=none)(hx:h.get? a=some { cls:=.type "list",data:=.seq its n })
  (J:∀h' t' e,BK h h' e->E (.ref e) ⟨h',g,d,t',os⟩):OR (OV prog w) A (getAttrBy (.ref a) (.str "keys" tk) false) Q E ⟨h,g,d,t,os⟩:=by
 have Z:(⟨h,g,d,t,os⟩:ON).TypeIs (.ref a) "list":=⟨_,hx,rfl⟩
 have f2:=F.slot_list_getattribute.lookup;have f3:=F.slot_list_getattribute.bind<|.ref a;have U:=F.lk_list_getattr;have O:=F.sub_ae
 repeat (any_goals (first|assumption|wp_step))
 refine qI hh hx λh' t' e hn=>?_;obtain⟨k,ob,z,hc⟩:=id hn;show OR _ _ (getattributeRaised (Value.ref a) (Value.str (QB "keys") tk) (Value.type "list") (.ref e) none false false) _ _ _;unfold getattributeRaised;refine OJ<|Qy (b:=true) (show(⟨h',g,d,t',os⟩:ON).TypeIs (.ref e) "AttributeError" from⟨_,z,hc⟩) O ?_;rw[Z9 rfl];refine OJ (m:=hookBehind _ _)<|T7 (a:=none) U ?_;show OR _ _ (attributeErrorLeaves _ _ _ false false) _ _ _;unfold attributeErrorLeaves;dsimp only;rw[Z9<|by decide];exact OJ<|SU<|J _ _ _ hn
theorem qJ{Q:Option OK->ON->Prop}(hh:A.handled=none)(hx:h.get? a=some { cls:=.type "list",data:=.seq its n })
  (J:∀h' t',(∀b u,h.get? b=some u->h'.get? b=some u)->Q none ⟨h',g,d,t',os⟩):OR (OV prog w) A (getAttr? (.ref a) "keys") Q E ⟨h,g,d,t,os⟩:=by
 have O:=F.sub_ae;unfold getAttr? getAttrBy?;refine OJ<|wpAny_mkText ?_;refine OJ<|Rn ?_;refine vP hh hx λh' t' e hn=>?_;obtain⟨k,ob,z,hc⟩:=id hn;show OR _ _ (do if <- Ur (.ref e) (.type "AttributeError") then pure none else throw (.ref e)) _ _ _;refine OJ<|Qy (b:=true) (show(⟨h',g,d,t',os⟩:ON).TypeIs (.ref e) "AttributeError" from⟨_,z,hc⟩) O ?_;rw[Z9 rfl];exact OO<|J _ _ k
end
end PySem
namespace PySem
namespace F
theorem entry_upd_loop:entryFor table "dict.update.loop"=some QP.«dict.update.loop»:=entryFor_of_tree<|by kernel_rfl
theorem plain_upd_loop:plainId "dict.update.loop"=true:=by decide+kernel
end F
end PySem
namespace L2
open PySem PySem.Spec PyProof.Rows
theorem KQ{P:OZ}{w:Pp}{h h':Ph}{ks:List Key}{a:OL}(m:∀b o,h.get? b=some o->h'.get? b=some o)(k:(Pr<|dU P w).is h ks a):(Pr<|dU P w).is h' ks a:=by
 obtain⟨o,its,n,h1,r⟩:=k;exact⟨o,its,n,m _ _ h1,r⟩
theorem KT.is{P:OZ}{w:Pp}{H:Hp}{h:Ph}(ok:dJ P w H h):∀{l:List<|List Key×V} {m:List<|List Key×OL×OK},KT H l m->∀x∈m,(Pr<|dU P w).is h x.1 x.2.1:=by
 intro l m q;induction q with
 |nil=>intro x hx;exact nomatch hx
 |@cons p q ps qs hq t ih=>
  intro x hx;rcases bC.mp hx with e|hx
  .subst e;exact EO ok<|by rw[<- hq.1];exact hq.2.1
  .exact ih x hx
noncomputable abbrev PQ:=OL×OL×List Key×V
noncomputable def wV(m:List<|List Key×V)(ps:List PQ):List<|List Key×V:=ps.foldl (λm q=>putK m q.2.2.1 q.2.2.2) m
theorem lE:∀(ps:List PQ) (m:List<|List Key×V),(wV m ps).length<=m.length+ps.length
 |[],m=>aK _
 |q::r,m=>by
  have:=lE r<|putK m q.2.2.1 q.2.2.2;have h2:=Hn m q.2.2.1 q.2.2.2;show(wV (putK m q.2.2.1 q.2.2.2) r).length<=_;rw[bS];lia
section
variable {X:Cx}{pins:List (OL×Qc)}{σ:St}{H:Hp}{s1:ON}{A:Pb}
def Lp(X:Cx)(H:Hp)(s1 s:ON)(d:OL)(kvs:List<|List Key×V):Prop:=
 (∀b o,s1.heap.get? b=some o->s.heap.get? b=some o)/\s={ s1 with heap:=s.heap,toks:=s.toks }/\∃xs,KT H kvs xs/\s.heap.DictOfH (Pr<|dU X.prog X.w) d xs
theorem we{R:Result->ON->Prop}(I1:Inv X pins σ H s1)(hh:A.handled=none)(hu:A.units+1<Rx){I l d:OL}{its:List OK}{ps:List PQ}(ae:Vals (ps.map λq=>V.ref q.1) its)
  (hp:∀q∈ps,H q.1=some (.tup [.ref q.2.1,q.2.2.2])/\H q.2.1=some (.tup<|q.2.2.1.map kV)) (hz:ps.length<=sizeLine) (ah:l≠I) (Z:d≠I) (ai:l≠d) (nI:s1.heap.get? I=none) (nd:s1.heap.get? d=none):
  ∀(k i:Nat) (s:ON) (kvs:List<|List Key×V),ps.length-i=k->i<=ps.length->kvs.length<=i->(s.heap.IsListIter I l i/\s.heap.IsList l its.toArray)->Lp X H s1 s d kvs->
  (∀s',Lp X H s1 s' d (wV kvs<|ps.drop i)->R (.ok<|.ret .none) s')->
  QW (OV X.prog X.w) A (.builtin "dict.update.loop" ⟨[.ref d,.ref I,RS i,.none],[]⟩) R s:=by
 have W:=Walks.list (prog:=X.prog) (w:=X.w) (A:=A.in1) hh I l ah its.toArray;have hn:its.toArray.size=ps.length:=by rw[iB,<- ae.length,aJ]
 rw[hn] at W;have mv:∀{s:ON} {h':Ph} {tk:Nat} {kvs:List<|List Key×V},Lp X H s1 s d kvs->(∀b o,b∉[I]->s.heap.get? b=some o->h'.get? b=some o)->Lp X H s1 { s with heap:=h',toks:=tk } d kvs:=by
  rintro s h' tk kvs ⟨p,e,xs,kt,o,es,ep,h1,h2,h3,h4,h5,h6⟩ m;have p':∀b o,s1.heap.get? b=some o->h'.get? b=some o:=λb o J=>m b o (λz=>by rw[bD.mp z,nI] at J;cases J)<|p b o J;exact⟨p',by rw[e],xs,kt,o,es,ep,m d o (λz=>Z<|bD.mp z) h1,h2,h3,h4,λx hx=>KQ p'<|KT.is I1.Uy kt x hx,h6⟩
 intro k;induction k with
 |zero=>
  intro i s kvs hk hi am O hL hR;have ao:i=ps.length:=by lia
  subst ao;refine Ud F.entry_upd_loop ?_;rw[Around.under_plainId F.plain_upd_loop _];show OR _ A.in1 (Sx (.ref I)>>=_) _ _ s;refine OJ<|W.done s _ _ O λh' tk m=>?_;show OR _ A.in1 (Builtin.Dict.addKeywords d []>>=λ_=>ret .none) _ _ _;refine OJ<|OO<|OO ?_;refine hR _ ?_;rw[Qv<|aK _];exact mv hL m
 |succ k ih=>
  intro i s kvs hk hi am O hL hR;have U:i<ps.length:=by lia
  refine Ud F.entry_upd_loop ?_;rw[Around.under_plainId F.plain_upd_loop _];show OR _ A.in1 (Sx (.ref I)>>=_) _ _ s;refine OJ<|W.item i s _ _ U O λv h' tk hP ad m=>?_;have af:=mv (tk:=tk) hL m;obtain⟨q,hq⟩:∃q,ps[i]?=some q:=⟨_,bL U⟩
  obtain⟨u,aj,ru⟩:=ae.get (show(ps.map λq=>V.ref q.1)[i]?=some (V.ref q.1) by rw[dF,hq];rfl);have hv:v=u:=by
   rw[<- Array.getElem?_toList] at hP;rw[aj] at hP;exact(OS hP).symm
  subst hv;cases(show v=Value.ref q.1 from ru);obtain⟨ht,aa⟩:=hp q<|jB hq;obtain⟨pz,pe,xs,kt,aq⟩:=af;obtain⟨_,ac,r2,o2,g1,g2,n2,g3⟩:=(show aS X.prog X.w H s1.heap q.1 (.tup [.ref q.2.1,q.2.2.2]) from I1.Uy q.1 _ ht)
  obtain⟨u1,u2,rfl,rb,rv⟩:∃u1 u2,ac=[u1,u2]/\RelV (.ref q.2.1) u1/\RelV q.2.2.2 u2:=by
   cases r2 with
   |cons p q=>
    cases q with
    |cons p' q'=>
     cases q';exact⟨_,_,rfl,p,p'⟩
  cases(show u1=Value.ref q.2.1 from rb);dsimp only;refine OJ<|Pt<|OJ<|wpAny_tryCatch ?_;unfold Builtin.Dict.pairItems;refine OJ<|Su (show Rp _ _ "tuple" from⟨o2,pz _ _ g1,g2⟩) ?_;rw[Z9<|by decide];refine OJ<|Qx (pz _ _ g1) g3<|OO ?_;show OR _ A.in1 (holding [.ref q.2.1,u2]<|dictSet d (.ref q.2.1) u2) _ _ _;have as:xs.length=kvs.length:=(R9 kt).symm;refine Pt (wpAny_dictSet_heap (knd:=Pr<|dU X.prog X.w) (Q2 hu) (KQ pz<|EO I1.Uy aa) aq (λh2 ap sb=>?_)<|by lia);refine OO ⟨plainId_quiet F.plain_upd_loop _,?_⟩;have nb:∀{b:OL} {o:Qc},s1.heap.get? b=some o->b≠d:=λJ z=>by rw[z,nd] at J;cases J
  refine ih (i+1) _ (putK kvs q.2.2.1 q.2.2.2) (by lia) U (cX (Hn _ _ _)<|by lia) (W.frame (i+1) h' h2 ad λb J o e=>?_) ⟨λb o J=>(sb.2 b<|nb J).trans<|pz b o J,by rw[hL.2.1],storedH xs q.2.2.1 q.2.1 u2,kt.put _ aa rv,ap⟩ λs' ag=>hR s' ?_
  .refine (sb.2 b λz=>?_).trans e;rcases bC.mp J with y|y
   .exact Z (z.symm.trans y)
   .exact ai ((bD.mp y).symm.trans z)
  .have e:ps.drop i=q::ps.drop (i+1):=by
    obtain⟨h1,h2⟩:=gX.mp hq;rw[zL h1,h2]
   rw[e];exact ag
theorem sQ(hc:X.calm=true)(hu:X.A.units+64<Rx):jS X (.type "dict") λxs H Q=>L2.X2 λ(p:OL) (ps:List PQ)=>xs=[.ref p]/\H p=some (.lst<|ps.map λq=>V.ref q.1)/\(∀q∈ps,H q.1=some (.tup [.ref q.2.1,q.2.2.2])/\H q.2.1=some (.tup<|q.2.2.1.map kV))/\ ∀d,H d=none->Q (.ref d) (upd H d<|.dT<|wV [] ps):=by
 intro pins s σ H xs us Q I r h;obtain⟨p,ps,rfl,ae,ag,q⟩:=h;obtain⟨u,rfl,rx⟩:=sU r;cases rx;obtain⟨z,its,n,r',hl,e⟩:=I.VC ae;rw[aJ] at z;have hh:X.A.handled=none:=I.ok.hd hc;refine callType_codes (Q₁:=λobj s₁=>obj=.ref s.heap.objs.size/\s₁={ s with heap:=s.heap.push { cls:=.type "dict",data:=.dict #[] } }) F.kt_called_dict (F.kt_typeCall_dict_1 _) F.entry_dict_init (kt_code_dict_new _ ⟨rfl,rfl⟩) ?_;rintro obj s₁ ⟨rfl,rfl⟩;have ac:(s.heap.push { cls:=.type "dict",data:=.dict #[] }).get? s.heap.objs.size=some { cls:=.type "dict",data:=.dict #[] }:=OW _ rfl;have J:∀b o,s.heap.get? b=some o->(s.heap.push { cls:=.type "dict",data:=.dict #[] }).get? b=some o:=λb o U=>OM _ U;have hT:Rp { s with heap:=s.heap.push { cls:=.type "dict",data:=.dict #[] } } (.ref s.heap.objs.size) "dict":=⟨_,ac,rfl⟩
 refine⟨hT,F.args_dict_init_2 _ _,?_⟩;unfold QP.«dict.__init__»;refine OJ ?_;unfold Builtin.Dict.selfAndRest;refine OJ<|wpAny_notOrdered_dict hT ?_;show OR _ _ (pure (s.heap.objs.size,[Value.ref p])) _ _ _;refine OO ?_;show OR _ _ (Q6 "dict.__init__" s.heap.objs.size (.ref p) [] .none) _ _ _;unfold Q6;refine OJ<|Su (show Rp _ (.ref p) "list" from⟨_,J _ _ e,rfl⟩) ?_;rw[Z9<|by decide];refine OJ<|qJ hh (J _ _ e) λh' t' k=>?_;rw[Z9<|by rfl];refine OJ<|Sv ?_;refine OJ<|RZ (s:=⟨h',s.gens,s.drawn,t',s.os⟩) (items:=its.toArray) ⟨_,k _ _<|J _ _ e,rfl,n,rfl⟩ ?_;have aa:=k _ _ ac;have ad:∀b o,s.heap.get? b=some o->b≠s.heap.objs.size:=λb o U=>fK<|OQ U;have O:∀b o,h'.get? b=some o->b≠h'.objs.size:=λb o U=>fK<|OQ U;have nn:∀{b:OL},(∀o,s.heap.get? b=some o->False)->s.heap.get? b=none:=fun {b} g=>by
  cases eb:s.heap.get? b with
  |none=>rfl
  |some o=>exact(g o eb).elim
 refine OO ⟨plainId_quiet F.plain_upd_loop _,we (A:=X.A.in1) I hh (by show X.A.units+1+1<Rx;lia) (l:=p) r' ag z (O _ _<|k _ _<|J _ _ e) (O _ _ aa) (ad _ _ e) (nn λo ho=>O _ _ (k _ _<|J _ _ ho) rfl) (nn λo ho=>ad _ _ ho rfl) ps.length 0 _ [] rfl (cE _) (aK _) ⟨⟨_,OW _ rfl,rfl,rfl⟩,⟨_,OM _<|k _ _<|J _ _ e,rfl,n,rfl⟩⟩ ⟨λb o U=>OM _<|k _ _<|J _ _ U,rfl,[],.nil,_,#[],0,OM _ aa,⟨rfl,rfl,rfl⟩,rfl,rfl,⟨(λx hx=>absurd hx kU),List.nodup_nil⟩⟩ λs' af=>⟨rfl,?_⟩⟩;obtain⟨pz,pe,xs,kt,o,es,ep,h1,h2,h3,h4,_,h6⟩:=af;have Z:(wV [] ps).length<=sizeLine:=cX (lE ps []) (by simpa using z);rw[pe];refine⟨.ref s.heap.objs.size,_,I.laid (h':=s'.heap) (t':=s'.toks) (o:=.dT<|wV [] ps) pz (aK _) ⟨Z,?_,xs,kt.keeps λc ys ec=>?_,o,es,ep,h1,h2,h3,h4,h6⟩,rfl,q _<|I.Uy.fresh<|aK _⟩
 .have:=I.big;exact beq_eq_false_iff_ne.mpr<|BZ this
 .rw [aO<|aX ec<|I.Uy.fresh<|aK _];exact ec
end
end L2
namespace PySem
variable {xs ys:Array OK}{c0 c1:OK}{k:Nat}{i2 l1 l2:OL}
noncomputable abbrev oN(hp:Ph)(zo ti to:OL)(f0 f1:OK):Prop:=
 hp.get? zo=some { cls:=.type "zip",dict:=none,data:=.fields #[f0,f1,.bool false,.ref ti,.ref to],slots:=#[] }
def F0(f:OK):Prop:=f=.none∨∃a t,f=.int a t
section
variable {prog:OZ}{w:Pp}{A:Pb}{E:OK->ON->Prop}{s:ON}{zo ti to:OL}{f0 f1:OK}
theorem wD{a:OL}{Q:Option Qc->ON->Prop}(q:Q (s.heap.get? a) s):OR (OV prog w) A (loadIfAlive a) Q E s:=λΓ p z=>by
 unfold loadIfAlive;rw[Sem.wp_loadIfAlive];exact OO (M:=OV prog w) (A:=A) (E:=E) q Γ p z
theorem zfree{Q:Bool->ON->Prop}(J:oN s.heap zo ti to f0 f1)(Z:F0 f0)(h1:Q true s)(h2:∀z g1,oN z zo ti to f0 g1->Pq zo s.heap z->Q false { s with heap:=z }):
  OR (OV prog w) A (Qm<|.ref zo) Q E s:=by
 unfold Qm;refine OJ<|P0 J rfl (x:=f0) rfl ?_;rcases Z with rfl|⟨a,t,rfl⟩
 .exact OO h1
 .dsimp only;refine OJ<|wD ?_;by_cases ha:(s.heap.get? a.toNat).isNone=true
  .rw [Z9 ha];exact OO h1
  .rw [Z8 ha];refine OJ<|P0 J rfl (x:=f1) rfl ?_;by_cases hb:(f1 !=Value.bool true)=true
   .rw [Z9 hb];exact OJ<|P9 J (by simp) λz U O=>OO<|h2 z _ U O
   .rw [Z8 hb];exact OO<|h2 s.heap f1 J<|R3 _ _
theorem vj{O:OL}{x y:OK}{Q:OK->ON->Prop}(D:TL zo ti to O i2 l1 l2)
  (qz:oN s.heap zo ti to f0 f1) (hf:F0 f0) (qT:QF s.heap ti (.ref O)<|.ref i2) (qO:QF s.heap to c0 c1)
  (h1:s.heap.IsListIter O l1 k) (h2:s.heap.IsListIter i2 l2 k) (ac:s.heap.IsList l1 xs) (aa:s.heap.IsList l2 ys) (hx:xs[k]?=some x) (hy:ys[k]?=some y)
  (q:∀(hp:Ph) (p:OL) (g0 g1 d0 d1:OK),oN hp zo ti to g0 g1->F0 g0->QF hp to d0 d1->hp.IsListIter O l1 (k+1)->hp.IsListIter i2 l2 (k+1)->QF hp p x y->p=s.heap.objs.size->(∀c o,c≠zo->c≠to->c≠O->c≠i2->s.heap.get? c=some o->hp.get? c=some o)->Q (.ref p) { s with heap:=hp }):
  OR (OV prog w) A (QP.«zip.__next__» ⟨[.ref zo],[]⟩) (λfin s'=>∃v,fin=.done (.ret v)/\Q v s') E s:=by
 show OR _ _ (field (.ref zo) 2>>=_) _ _ _;refine OJ<|P0 qz rfl (x:=.bool false) rfl ?_;show OR _ _ (field (.ref zo) 3>>=_) _ _ _;refine OJ<|P0 qz rfl (x:=.ref ti) rfl ?_;refine OJ<|Qx qT rfl ?_;show OR _ _ (Qm (.ref zo)>>=_) _ _ _;refine OJ<|zfree qz hf ?_ ?_
 .simp only[if_true];refine OJ<|Sv<|OJ<|P0 qz rfl (x:=.ref to) rfl<|OJ<|P9 qz (by simp) λe1 z1 Z=>?_;replace z1:oN e1 zo ti to .ellipsis f1:=z1;simp only[List.zipIdx_cons,List.zipIdx_nil,List.forIn_cons,Ff];refine OJ<|OJ<|OJ<|R4 ?_;show OR _ _ (PK (.ref O)>>=λv=>pure<|some v) _ _ _;refine OJ<|Qi (h1.extBut Z.extBut D.i1z) (ac.extBut Z.extBut D.l1z) hx λe2 t2 z=>OO ?_;have o2:QF e2 to c0 c1:=z.extBut _ _ D.TOi1<|Z.extBut _ _ D.TOz qO;refine OJ<|Qx o2 rfl<|OJ<|SS o2 λe3 o3 U=>OJ<|T8<|OO ?_;replace o3:QF e3 to x c1:=o3;refine OJ<|OJ<|R4 ?_;show OR _ _ (PK (.ref i2)>>=λv=>pure<|some v) _ _ _;refine OJ<|Qi (((h2.extBut Z.extBut D.i2z).extBut z.extBut D.i12.symm).extBut U.extBut D.TOi2.symm) (((aa.extBut Z.extBut D.l2z).extBut z.extBut D.l2i1).extBut U.extBut D.l2TO) hy λe4 t4 J=>OO ?_;have o4:QF e4 to x c1:=J.extBut _ _ D.TOi2 o3;refine OJ<|Qx o4 rfl<|OJ<|SS o4 λe5 o5 b5=>OJ<|T8<|OO<|OO ?_;replace o5:QF e5 to x y:=o5;refine OJ<|Qx o5 rfl<|OJ<|SV ?_;replace z:Pq O e1 e2:=z;replace U:Pq to e2 e3:=U;replace J:Pq i2 e3 e4:=J;replace b5:Pq to e4 e5:=b5;have sz:e5.objs.size=s.heap.objs.size:=by rw[b5.1,J.1,U.1,z.1,Z.1]
  have z5:oN e5 zo ti to .ellipsis f1:=b5.extBut _ _ D.TOz.symm<|J.extBut _ _ D.i2z.symm<|U.extBut _ _ D.TOz.symm<|z.extBut _ _ D.i1z.symm z1;have k5:∀c o,c≠zo->c≠to->c≠O->c≠i2->s.heap.get? c=some o->e5.get? c=some o:=λc o n1 n2 n3 n4 e=>b5.extBut _ _ n2<|J.extBut _ _ n4<|U.extBut _ _ n2<|z.extBut _ _ n3<|Z.extBut _ _ n1 e;have t5:e5.IsListIter O l1<|k+1:=((t2.extBut U.extBut D.TOi1.symm).extBut J.extBut D.i12).extBut b5.extBut D.TOi1.symm;have u5:e5.IsListIter i2 l2<|k+1:=t4.extBut b5.extBut D.TOi2.symm;have lz:zo<e5.objs.size:=OQ z5;show OR _ _ (Tp (.ref zo) (.ref e5.objs.size)>>=_) _ _ _;refine OJ ?_;unfold Tp;have z6:oN (e5.push { cls:=.type "tuple",data:=.seq #[x,y] }) zo ti to .ellipsis f1:=OM _ z5;refine OJ<|P9 z6 (by simp) λe7 z7 b7=>P9 z7 (by simp) λe8 z8 b8=>OO ⟨_,rfl,?_⟩;replace z8:oN e8 zo ti to (RS e5.objs.size)<|.bool false:=z8;replace b7:Pq zo (e5.push { cls:=.type "tuple",data:=.seq #[x,y] }) e7:=b7;replace b8:Pq zo e7 e8:=b8;have up:∀c o,c≠zo->e5.get? c=some o->e8.get? c=some o:=λc o n e=>b8.extBut _ _ n<|b7.extBut _ _ n<|OM _ e;exact q e8 e5.objs.size _ _ x y z8 (.inr ⟨_,_,rfl⟩) (up _ _ D.TOz o5) (t5.at λo e=>up _ o D.i1z e) (u5.at λo e=>up _ o D.i2z e) (b8.extBut _ _ (BZ lz)<|b7.extBut _ _ (BZ lz)<|OW _ rfl) sz λc o n1 n2 n3 n4 e=>up c o n1<|k5 c o n1 n2 n3 n4 e
 .intro hp g1 ad sb;simp only[BW,if_false];simp only[<- SQ,List.forIn_cons,Ff];refine OJ<|OJ<|OJ<|Pt ?_;show OR _ _ (PK (.ref O)>>=λv=>pure<|some v) _ _ _;refine OJ<|Qi (h1.extBut sb.extBut D.i1z) (ac.extBut sb.extBut D.l1z) hx λe2 t2 z=>OO<|OO ?_;replace z:Pq O hp e2:=z;refine OJ<|OJ<|Pt ?_;show OR _ _ (PK (.ref i2)>>=λv=>pure<|some v) _ _ _;refine OJ<|Qi ((h2.extBut sb.extBut D.i2z).extBut z.extBut D.i12.symm) ((aa.extBut sb.extBut D.l2z).extBut z.extBut D.l2i1) hy λe4 t4 J=>OO<|OO<|OO ?_;replace J:Pq i2 e2 e4:=J;show OR _ _ (newTuple [x,y]>>=λr=>ret r) _ _ { s with heap:=e4 };refine OJ<|SV<|OO ⟨_,rfl,?_⟩;have pu:∀c o,e4.get? c=some o->(e4.push { cls:=.type "tuple",data:=.seq #[x,y] }).get? c=some o:=λc o e=>OM _ e;have z4:oN e4 zo ti to f0 g1:=J.extBut _ _ D.i2z.symm<|z.extBut _ _ D.i1z.symm ad;have o4:QF e4 to c0 c1:=J.extBut _ _ D.TOi2<|z.extBut _ _ D.TOi1<|sb.extBut _ _ D.TOz qO;have sz:e4.objs.size=s.heap.objs.size:=by rw[J.1,z.1,sb.1]
  exact q (e4.push { cls:=.type "tuple",data:=.seq #[x,y] }) e4.objs.size f0 g1 c0 c1 (pu _ _ z4) hf (pu _ _ o4) ((t2.extBut J.extBut D.i12).at λo e=>pu _ o e) (t4.at λo e=>pu _ o e) (OW _ rfl) sz λc o n1 n2 n3 n4 e=>pu _ _<|J.extBut _ _ n4<|z.extBut _ _ n3<|sb.extBut _ _ n1 e
theorem xf{i1:OL}{Q:Fin->ON->Prop}(hh:A.handled=none)(D:TL zo ti to i1 i2 l1 l2)
  (qz:oN s.heap zo ti to f0 f1) (hf:F0 f0) (qT:QF s.heap ti (.ref i1)<|.ref i2) (qO:QF s.heap to c0 c1)
  (h1:s.heap.IsListIter i1 l1 k) (h2:s.heap.IsListIter i2 l2 k) (U:s.heap.IsList l1 xs) (ac:s.heap.IsList l2 ys) (he:xs[k]?=none∨ys[k]?=none)
  (q:∀(hp:Ph) (e:OL),(∀c o,c≠zo->c≠to->c≠i1->c≠i2->s.heap.get? c=some o->hp.get? c=some o)->(∃o,hp.get? e=some o/\o.cls=.type "StopIteration")->E (.ref e) { s with heap:=hp }):
  OR (OV prog w) A (QP.«zip.__next__» ⟨[.ref zo],[]⟩) Q E s:=by
 show OR _ _ (field (.ref zo) 2>>=_) _ _ _;refine OJ<|P0 qz rfl (x:=.bool false) rfl ?_;show OR _ _ (field (.ref zo) 3>>=_) _ _ _;refine OJ<|P0 qz rfl (x:=.ref ti) rfl ?_;refine OJ<|Qx qT rfl ?_;show OR _ _ (Qm (.ref zo)>>=_) _ _ _;refine OJ<|zfree qz hf ?_ ?_
 .simp only[if_true];refine OJ<|Sv<|OJ<|P0 qz rfl (x:=.ref to) rfl<|OJ<|P9 qz (by simp) λe1 z1 O=>?_;replace z1:oN e1 zo ti to .ellipsis f1:=z1;simp only[List.zipIdx_cons,List.zipIdx_nil,List.forIn_cons,Ff];refine OJ<|OJ<|OJ<|R4 ?_;show OR _ _ (PK (.ref i1)>>=λv=>pure<|some v) _ _ _;cases hx:xs[k]? with
  |none=>
   refine OJ<|Rh hh (h1.extBut O.extBut D.i1z) (U.extBut O.extBut D.l1z) hx λe2 e J ⟨oe,ho,hc⟩=>?_;have z2:oN e2 zo ti to .ellipsis f1:=J _ _ D.i1z.symm z1;have ne:e≠zo:=λz=>by subst z;rw[z2] at ho;cases ho;simp at hc
   exact P9 z2 (by simp) λe3 _ b3=>q e3 e (λc o n1 _ n3 _ x=>b3.extBut _ _ n1<|J _ _ n3<|O.extBut _ _ n1 x) ⟨oe,b3.extBut _ _ ne ho,hc⟩
  |some x=>
   have hy:ys[k]?=none:=he.resolve_left (by rw[hx];simp);refine OJ<|Qi (h1.extBut O.extBut D.i1z) (U.extBut O.extBut D.l1z) hx λe2 t2 J=>OO ?_;have o2:QF e2 to c0 c1:=J.extBut _ _ D.TOi1<|O.extBut _ _ D.TOz qO;refine OJ<|Qx o2 rfl<|OJ<|SS o2 λe3 o3 b3=>OJ<|T8<|OO ?_;refine OJ<|OJ<|R4 ?_;show OR _ _ (PK (.ref i2)>>=λv=>pure<|some v) _ _ _;refine OJ<|Rh hh (((h2.extBut O.extBut D.i2z).extBut J.extBut D.i12.symm).extBut b3.extBut D.TOi2.symm) (((ac.extBut O.extBut D.l2z).extBut J.extBut D.l2i1).extBut b3.extBut D.l2TO) hy λe4 e b4 ⟨oe,ho,hc⟩=>?_;have z4:oN e4 zo ti to .ellipsis f1:=b4 _ _ D.i2z.symm<|b3.extBut _ _ D.TOz.symm<|J.extBut _ _ D.i1z.symm z1;have ne:e≠zo:=λz=>by subst z;rw[z4] at ho;cases ho;simp at hc
   exact P9 z4 (by simp) λe5 _ b5=>q e5 e (λc o n1 n2 n3 n4 x=>b5.extBut _ _ n1<|b4 _ _ n4<|b3.extBut _ _ n2<|J.extBut _ _ n3<|O.extBut _ _ n1 x) ⟨oe,b5.extBut _ _ ne ho,hc⟩
 .intro hp g1 ad Z;simp only[BW,if_false];simp only[<- SQ,List.forIn_cons,Ff];refine OJ<|OJ<|OJ<|Pt ?_;show OR _ _ (PK (.ref i1)>>=λv=>pure<|some v) _ _ _;cases hx:xs[k]? with
  |none=>
   exact OJ<|Rh hh (h1.extBut Z.extBut D.i1z) (U.extBut Z.extBut D.l1z) hx λe2 e J aa=>q e2 e (λc o n1 _ n3 _ x=>J _ _ n3<|Z.extBut _ _ n1 x) aa
  |some x=>
   have hy:ys[k]?=none:=he.resolve_left (by rw[hx];simp);refine OJ<|Qi (h1.extBut Z.extBut D.i1z) (U.extBut Z.extBut D.l1z) hx λe2 t2 J=>OO<|OO ?_;replace J:Pq i1 hp e2:=J;refine OJ<|OJ<|Pt ?_;show OR _ _ (PK (.ref i2)>>=λv=>pure<|some v) _ _ _;exact OJ<|Rh hh ((h2.extBut Z.extBut D.i2z).extBut J.extBut D.i12.symm) ((ac.extBut Z.extBut D.l2z).extBut J.extBut D.l2i1) hy λe4 e b4 aa=>q e4 e (λc o n1 _ n3 n4 x=>b4 _ _ n4<|J.extBut _ _ n3<|Z.extBut _ _ n1 x) aa
theorem vh{z:OL}{x y:OK}{Q:Option OK->ON->Prop}(D:TL zo ti to z i2 l1 l2)
  (qz:oN s.heap zo ti to f0 f1) (hf:F0 f0) (qT:QF s.heap ti (.ref z)<|.ref i2) (qO:QF s.heap to c0 c1)
  (h1:s.heap.IsListIter z l1 k) (h2:s.heap.IsListIter i2 l2 k) (U:s.heap.IsList l1 xs) (O:s.heap.IsList l2 ys) (hx:xs[k]?=some x) (hy:ys[k]?=some y)
  (q:∀(hp:Ph) (p:OL) (g0 g1 J Z:OK),oN hp zo ti to g0 g1->F0 g0->QF hp to J Z->hp.IsListIter z l1 (k+1)->hp.IsListIter i2 l2 (k+1)->QF hp p x y->p=s.heap.objs.size->(∀c o,c≠zo->c≠to->c≠z->c≠i2->s.heap.get? c=some o->hp.get? c=some o)->Q (some<|.ref p) { s with heap:=hp }):
  OR (OV prog w) A (Sx<|.ref zo) Q E s:=by
 have tz:s.TypeIs (.ref zo) "zip":=⟨_,qz,rfl⟩
 unfold Sx;exact OJ<|Rn<|Q4 (name:=QB "__next__") tz SM<|QL SM tz F.entry_zip_next (vj D qz hf qT qO h1 h2 U O hx hy λhp p g0 g1 J Z a1 a2 a3 a4 a5 a6 a7 a8=>OO<|q hp p g0 g1 J Z a1 a2 a3 a4 a5 a6 a7 a8)<|F.args_zip_next_1 _
theorem vg{z:OL}{Q:Option OK->ON->Prop}(hh:A.handled=none)(D:TL zo ti to z i2 l1 l2)
  (Z:oN s.heap zo ti to f0 f1) (hf:F0 f0) (qT:QF s.heap ti (.ref z)<|.ref i2) (qO:QF s.heap to c0 c1)
  (h1:s.heap.IsListIter z l1 k) (h2:s.heap.IsListIter i2 l2 k) (U:s.heap.IsList l1 xs) (O:s.heap.IsList l2 ys) (he:xs[k]?=none∨ys[k]?=none)
  (q:∀J:Ph,(∀c o,c≠zo->c≠to->c≠z->c≠i2->s.heap.get? c=some o->J.get? c=some o)->Q none { s with heap:=J }):OR (OV prog w) A (Sx<|.ref zo) Q E s:=by
 have tz:s.TypeIs (.ref zo) "zip":=⟨_,Z,rfl⟩
 unfold Sx;refine OJ<|Rn<|Q4 (name:=QB "__next__") tz SM<|QL SM tz F.entry_zip_next (xf hh D Z hf qT qO h1 h2 U O he λJ e hk ⟨o,ho,hc⟩=>?_)<|F.args_zip_next_1 _;exact OJ<|Qy (T:="StopIteration") (b:=true) ⟨o,ho,hc⟩ Uq<|OO<|q _ hk
theorem vi{Q:OK->ON->Prop}(J:oN s.heap zo ti to f0 f1)(h:Q (.ref zo) s):OR (OV prog w) A (pyIter<|.ref zo) Q E s:=by
 have z:s.TypeIs (.ref zo) "zip":=⟨_,J,rfl⟩
 refine wpAny_pyIter_slot z F.slot_zip_iter<|QL F.slot_zip_iter z F.entry_zip_iter ?_<|F.args_zip_iter_1 _;show OR _ _ (ret<|.ref zo) _ _ s;exact OO ⟨_,rfl,"zip",_,z,F.slot_zip_next.lookup,h⟩
end
end PySem
namespace L2
open PySem PySem.Spec PyProof.Rows
variable {l m tg:PM}{p pos tpos:Sq}{a b d:Int}{Q:VK}{te u:TE}{σ:St}{g:TG}{H:Hp}{tt:TT}{ta:TA}
def Ib(tg:PM):Prop:=∀{prog:OZ} {w:Pp} {A:Pb} {E:OK->ON->Prop} {s:ON} {z TI TO T:OL} {f0 f1:OK} {Q:Unit->ON->Prop},oN s.heap z TI TO f0 f1->F0 f0->(∀hp g0,oN hp z TI TO g0 f1->F0 g0->Pq z s.heap hp->Q () { s with heap:=hp })->OR (OV prog w) A (QV tg (.ref z)<|.ref T) Q E s
theorem Bj{x:Pa}:Ib<|.Name x p:=λz J q=>OO<|q _ _ z J<|R3 _ _
theorem Es{es:List PM}{x1}:Ib<|.Tuple es x1 p:=fun {prog w A E s z TI TO T f0 f1 Q} J O q=>by
 unfold QV;refine OJ<|Tx J ?_;dsimp only;split
 .refine OJ (Sv ?_);show OR _ _ (Ul (.ref z) 0 .none) Q E s;exact P9 J (by simp) λU z2 Z=>q U .none z2 (.inl rfl) Z
 .exact OO (q _ _ J O<|R3 _ _)
theorem vq{P:OZ}{w:Pp}{K:W.Frag}(go:Ib tg)(a b z TI TO Z i2:OL)(D:TL z TI TO Z i2 a b):Turn P w K tg (BM K a b) [z,TI,TO,Z,i2] z (λi h=>(∃f0 f1,oN h z TI TO f0 f1/\F0 f0)/\QF h TI (.ref Z) (.ref i2)/\(∃u v,QF h TO u v)/\h.IsListIter Z a i/\h.IsListIter i2 b i) where
 mem:=by simp
 obj:=λi h st c hc=>by
  obtain⟨⟨f0,f1,U,_⟩,J,⟨u,v,O⟩,⟨o1,e1,c1,d1⟩,⟨o2,e2,c2,d2⟩⟩:=st;have ac:c=z∨c=TI∨c=TO∨c=Z∨c=i2:=by simpa using hc
  rcases ac with rfl|rfl|rfl|rfl|rfl
  .exact ⟨_,U,λv z=>by cases z⟩
  .exact ⟨_,J,λv z=>by cases z⟩
  .exact ⟨_,O,λv z=>by cases z⟩
  .exact ⟨o1,e1,λv z=>by rw[d1] at z;cases z⟩
  .exact ⟨o2,e2,λv z=>by rw[d2] at z;cases z⟩
 keep:=λi h h' st k=>by
  obtain⟨⟨f0,f1,U,hf⟩,J,⟨u,v,O⟩,h1,h2⟩:=st;exact⟨⟨f0,f1,k z (by simp) _ U,hf⟩,k TI (by simp) _ J,⟨u,v,k TO (by simp) _ O⟩,h1.at λo q=>k Z (by simp) o q,h2.at λo q=>k i2 (by simp) o q⟩
 item:=by
  intro X hP hw hK hc i pins s σ H E I hf st hg;subst hP hw hK;obtain⟨xs,x,ys,y,hq,hx,aa,hy⟩:=hg;obtain⟨its,rv,p,ah⟩:=I.list hq;obtain⟨u,hu,ru⟩:=rv.get hx;obtain⟨its',ad,p',af⟩:=I.list aa;obtain⟨u',am,ao⟩:=ad.get hy;obtain⟨⟨f0,f1,U,hF⟩,J,⟨ua,ub,O⟩,h1,h2⟩:=st;refine vh D U hF J O h1 h2 p.isList p'.isList (x:=u) (y:=u') (by simpa using hu) (by simpa using am) λhp pa g0 g1 d0 d1 a1 a2 a3 a4 a5 a6 a7 hk=>⟨_,rfl,?_⟩
  subst a7;refine go a1 a2 λai g2 z1 z2 sb=>?_;have ae:z<s.heap.objs.size:=OQ U;have up:∀c o,c≠z->hp.get? c=some o->ai.get? c=some o:=λc o n q=>(sb.2 c n).trans q;have ag:H s.heap.objs.size=none:=I.Uy.fresh<|aK _;refine⟨.ref s.heap.objs.size,upd H s.heap.objs.size<|.tup [x,y],I.Wz (ch:=[z,TI,TO,Z,i2]) (t':=s.toks) hf (λc ob hc q=>?_) (aK _) ?_,rfl,⟨_,x,y,ag,λzs U=>by rw[I.UW U hq];exact hx,λzs U=>by rw[I.UW U aa];exact hy,rfl,rfl⟩,⟨⟨g2,g1,z1,z2⟩,up _ _ D.TIz<|hk _ _ D.TIz D.TITO D.TIi1 D.TIi2 J,⟨_,_,up _ _ D.TOz a3⟩,a4.at λo q=>up _ _ D.i1z q,a5.at λo q=>up _ _ D.i2z q⟩,λc hc=>?_⟩
  .exact up _ _ (λe=>hc<|by simp[e]) (hk c ob (λe=>hc<|by simp[e]) (λe=>hc<|by simp[e]) (λe=>hc<|by simp[e]) (λe=>hc<|by simp[e]) q)
  .exact ⟨cL (show 2<=1000 by decide),[u,u'],.cons ru<|.cons ao .nil,_,up _ _ (BZ ae) a6,rfl,0,rfl⟩
  .have hn:=(hf c hc).1;have ac:c=z∨c=TI∨c=TO∨c=Z∨c=i2:=by simpa using hc
   obtain⟨o1,g1,_⟩:=h1;obtain⟨o2,g2,_⟩:=h2;have aj:c<s.heap.objs.size:=by
    rcases ac with rfl|rfl|rfl|rfl|rfl
    .exact ae
    .exact OQ J
    .exact OQ O
    .exact OQ g1
    .exact OQ g2
   rw[aO<|fK aj];exact hn
 done:=by
  intro X hP hw hK hc i pins s σ H E I hf st hg;subst hP hw hK;obtain⟨xs,ys,hq,aa,hx⟩:=hg;obtain⟨its,rv,p,ah⟩:=I.list hq;obtain⟨its',ad,p',af⟩:=I.list aa;obtain⟨⟨f0,f1,U,hF⟩,J,⟨ua,ub,O⟩,h1,h2⟩:=st;have hl:=rv.length;have ap:=ad.length;refine vg (I.ok.hd hc) D U hF J O h1 h2 p.isList p'.isList (hx.imp (λz=>by rw[Si];exact oP<|by lia) λz=>by rw[Si];exact oP<|by lia) λh' eb=>⟨rfl,?_⟩
  have tr:∀c u,H c=some u->c∉[z,TI,TO,Z,i2]:=λc u e q=>by rw[(hf c q).1] at e;cases e
  have k:∀c ob,c∉[z,TI,TO,Z,i2]->s.heap.get? c=some ob->h'.get? c=some ob:=λc ob n q=>eb c ob (λe=>n<|by simp[e]) (λe=>n<|by simp[e]) (λe=>n<|by simp[e]) (λe=>n<|by simp[e]) q;refine I.call (g':=s.gens) (t':=s.toks) (d':=s.drawn) (ch:=[z,TI,TO,Z,i2]) ⟨λb ob e n _ hx=>k b ob hx e,λb ob e n _ hx=>⟨ob.slots,k b ob hx e⟩,λb ob e n _=>n,λb ob e hx=>⟨ob,k b ob hx e⟩,λb xs e=>e,λb ob u e=>e,λb qs e=>⟨#[],by rw[e];simp⟩⟩ (λb u e=>?_) I.bare λb hb=>?_
  .refine (I.Uy b u e).U1 (λc v hc q=>k c v ?_ q) (λc q=>q) λc xs q=>q;rcases hc with z|z
   .rw [z];exact tr b u e
   .exact tr c _ z
  .obtain ⟨a1,a2,a3,a4,a5,a6⟩:=hf b hb;exact⟨a4,a2,a5,a6⟩
 self:=λ_ _ _ _ _ st h=>by obtain⟨⟨_,_,U,_⟩,_⟩:=st;exact vi U h
section
variable {X:Cx}
theorem uq(go:Ib tg)(hg:Gl X "zip")(hm:X.mg "zip"=none)(ha:PA X [l,m] ta)
  (he:OU [l,m] X.env=(false,eval l X.env)::OU [m] X.env:=by rfl) (aa:(P5 pos<|OU [m] X.env).any (·.1)=false:=by rfl) (hc:X.calm=true:=by rfl):
  PI X tg (.Call (.Name "zip" p) [l,m] [] pos)<|yR X.K ta:=by
 intro pins s σ H R I h;refine Call_<|CO I hg hm PyProof.Rows.boot_zip<|PZ (thn (ha pos pins s σ H _ I h) λus s1 zz=>?_) he aa;obtain⟨vs,H1,z,r1,q1⟩:=zz;obtain⟨a,b,e,⟨xs,hq⟩,⟨ys,ac⟩,q⟩:=q1;subst e;obtain⟨u,u',rfl,ru,ad⟩:=CM r1;cases ru;cases ad;obtain⟨its,rv,pl,hz⟩:=z.list hq;obtain⟨its',af,O,ag⟩:=z.list ac;have Z:a<s1.heap.objs.size:=by obtain⟨o,ho,_⟩:=pl.isList;exact OQ ho
 have U:b<s1.heap.objs.size:=by obtain⟨o,ho,_⟩:=O.isList;exact OQ ho
 have D:TL (s1.heap.objs.size+4) (s1.heap.objs.size+2) (s1.heap.objs.size+3) s1.heap.objs.size (s1.heap.objs.size+1) a b:=by
  generalize s1.heap.objs.size=n at Z U⊢;have h1:LT.lt (α:=Nat) a n:=Z;have h2:LT.lt (α:=Nat) b n:=U;constructor<;>(refine Jh ?_;lia)
 refine call_zip_2 pl.isList O.isList λh' z1 z2 z3 z4 z5 z6 hk=>wpAny_pyIter_zip z1 ?_;have I2:Inv X pins σ H1 { s1 with heap:=h' }:=z.kept (t':=s1.toks) hk;refine⟨s1.heap.objs.size+4,_,_,BM X.K a b,H1,rfl,I2,(vq go a b _ _ _ _ _ D).at hc,⟨⟨_,_,z1,.inl rfl⟩,z2,⟨_,_,z3⟩,z4,z5⟩,λc hc=>?_,q⟩;have ae:c=s1.heap.objs.size+4∨c=s1.heap.objs.size+2∨c=s1.heap.objs.size+3∨c=s1.heap.objs.size∨c=s1.heap.objs.size+1:=by simpa using hc
 have J:s1.heap.objs.size<=c:=by
  rcases ae with rfl|rfl|rfl|rfl|rfl
  .exact Dn _ _
  .exact Dn _ _
  .exact Dn _ _
  .exact aK _
  .exact Dn _ _
 exact z.Wh J<|z.Uy.fresh J
theorem AI{x:Pa}(O:Gl X "zip")(hm:X.mg "zip"=none)(ha:PA X [l,m] ta)
  (J:OU [l,m] X.env=(false,eval l X.env)::OU [m] X.env:=by rfl) (z:(P5 pos<|OU [m] X.env).any (·.1)=false:=by rfl) (hc:X.calm=true:=by rfl):
  PI X (.Name x tpos) (.Call (.Name "zip" p) [l,m] [] pos)<|yR X.K ta:=uq Bj O hm ha J z hc
theorem DY{z:List PM}{x1}(U:Gl X "zip")(hm:X.mg "zip"=none)(ha:PA X [l,m] ta)
  (O:OU [l,m] X.env=(false,eval l X.env)::OU [m] X.env:=by rfl) (J:(P5 pos<|OU [m] X.env).any (·.1)=false:=by rfl) (hc:X.calm=true:=by rfl):
  PI X (.Tuple z x1 tpos) (.Call (.Name "zip" p) [l,m] [] pos)<|yR X.K ta:=uq Es U hm ha O J hc
theorem wz(hc:X.calm=true):jS X (.builtin "max") λxs H Q=>L2.X2 λ(p:OL) (ns:List Int)=>xs=[.ref p]/\bG X.K H p (ns.map V.int)/\ns≠[]/\∀M,M∈ns->(∀a∈ns,a<=M)->Q (.int M) H:=by
 intro pins s σ H xs us Q I r h;obtain⟨p,ns,rfl,hq,O,q⟩:=h;obtain⟨u,rfl,rx⟩:=sU r;cases rx;obtain⟨its,rv,pl,hz⟩:=I.tuple hq;have hi:=Hm rv;obtain⟨xs,e⟩:=hi.allInts.items;have J:ns=xs.toList.map (·.1):=by rw[<- hi.numsOf,<- nums_intItems,<- e]
 obtain⟨o,ho,U,n,hd⟩:=pl;rw[e] at hd;have hl:s.heap.IsTuple p<|Rv xs:=⟨o,ho,U,n,hd⟩
 have Z:p<s.heap.objs.size:=OQ ho;have aa:0<xs.size:=by
  rcases Ta xs.size with z|z
  .rw [J,Ts z] at O;exact absurd rfl O
  .exact z
 refine call_max_walk<|wpAny_pyIter_tuple hl ?_;refine⟨_,[_,p],[_],_,_,_,_,rfl,Walks.tuple (A:=X.A.in1) (I.ok.hd hc) _ p (fK Z)<|Rv xs,⟨⟨_,OW _ rfl,rfl,rfl⟩,⟨o,OM _ ho,U,n,hd⟩⟩,λc hc=>?_,by simpa[Rv] using aa,CmpOf.ints_gt (numAt xs) λ_ _=>T9,λv h' tk hP hk=>?_⟩
 .show c<(s.heap.push _).objs.size;rw[Qo];rcases bC.mp hc with rfl|hc
  .exact xi _
  .rw [bD.mp hc];exact RO Z
 .have k:∀c o,s.heap.get? c=some o->h'.get? c=some o:=λc o e=>by
   refine hk c o (λhm=>?_)<|OM _ e;exact absurd (OQ e)<|by rw[bD.mp hm];exact vo _
  have ac:(Rv xs)[argBest (λi j=>decide<|numAt xs i>numAt xs j)<|xs.size-1]?=some v:=by simpa[Rv] using hP
  obtain⟨t,rfl⟩:=T9 ac;obtain⟨g1,g2⟩:=argBest_gt (numAt xs)<|xs.size-1;refine⟨.int _,H,I.kept k,⟨_,rfl⟩,q _ ?_ λa ha=>?_⟩
  .rw [J,numAt_eq];exact PySem.getD_mem<|by rw[aJ,Af];lia
  .rw [J] at ha;obtain⟨j,hj,rfl⟩:=mem_getD ha;rw[aJ,Af] at hj;rw[<- numAt_eq];exact g2 j<|by lia
theorem wx(hc:X.calm=true):jS X (.builtin "min") λxs H Q=>L2.X2 λ(p:OL) (ns:List Int)=>xs=[.ref p]/\bG X.K H p (ns.map V.int)/\ns≠[]/\∀M,M∈ns->(∀a∈ns,M<=a)->Q (.int M) H:=by
 intro pins s σ H xs us Q I r h;obtain⟨p,ns,rfl,hq,O,q⟩:=h;obtain⟨u,rfl,rx⟩:=sU r;cases rx;obtain⟨its,rv,pl,hz⟩:=I.tuple hq;have hi:=Hm rv;obtain⟨xs,e⟩:=hi.allInts.items;have J:ns=xs.toList.map (·.1):=by rw[<- hi.numsOf,<- nums_intItems,<- e]
 obtain⟨o,ho,U,n,hd⟩:=pl;rw[e] at hd;have hl:s.heap.IsTuple p<|Rv xs:=⟨o,ho,U,n,hd⟩
 have Z:p<s.heap.objs.size:=OQ ho;have aa:0<xs.size:=by
  rcases Ta xs.size with z|z
  .rw [J,Ts z] at O;exact absurd rfl O
  .exact z
 refine call_min_walk<|wpAny_pyIter_tuple hl ?_;refine⟨_,[_,p],[_],_,_,_,_,rfl,Walks.tuple (A:=X.A.in1) (I.ok.hd hc) _ p (fK Z)<|Rv xs,⟨⟨_,OW _ rfl,rfl,rfl⟩,⟨o,OM _ ho,U,n,hd⟩⟩,λc hc=>?_,by simpa[Rv] using aa,CmpOf.ints_lt (numAt xs) λ_ _=>T9,λv h' tk hP hk=>?_⟩
 .show c<(s.heap.push _).objs.size;rw[Qo];rcases bC.mp hc with rfl|hc
  .exact xi _
  .rw [bD.mp hc];exact RO Z
 .have k:∀c o,s.heap.get? c=some o->h'.get? c=some o:=λc o e=>by
   refine hk c o (λhm=>?_)<|OM _ e;exact absurd (OQ e)<|by rw[bD.mp hm];exact vo _
  have ac:(Rv xs)[argBest (λi j=>decide<|numAt xs i<numAt xs j)<|xs.size-1]?=some v:=by simpa[Rv] using hP
  obtain⟨t,rfl⟩:=T9 ac;obtain⟨g1,g2⟩:=argBest_lt (numAt xs)<|xs.size-1;refine⟨.int _,H,I.kept k,⟨_,rfl⟩,q _ ?_ λa ha=>?_⟩
  .rw [J,numAt_eq];exact PySem.getD_mem<|by rw[aJ,Af];lia
  .rw [J] at ha;obtain⟨j,hj,rfl⟩:=mem_getD ha;rw[aJ,Af] at hj;rw[<- numAt_eq];exact g2 j<|by lia
theorem sP(K:W.Frag)(hc:X.calm=true)(h:X.K=K:=by rfl):jS X (.builtin "max") λxs H Q=>L2.X2 λ(p:OL) (ns:List Int)=>xs=[.ref p]/\bG K H p (ns.map V.int)/\ns≠[]/\∀M,M∈ns->(∀a∈ns,a<=M)->Q (.int M) H:=h▸wz hc
theorem sO(K:W.Frag)(hc:X.calm=true)(h:X.K=K:=by rfl):jS X (.builtin "min") λxs H Q=>L2.X2 λ(p:OL) (ns:List Int)=>xs=[.ref p]/\bG K H p (ns.map V.int)/\ns≠[]/\∀M,M∈ns->(∀a∈ns,M<=a)->Q (.int M) H:=h▸wx hc
end
section
variable {K:W.Frag}{a b:OL}{xs ys:List V}{σ0:St}
def CI(K:W.Frag)(g:TG)(tt:TT)(te:TE)(σ0:St)(Q:VK)(x y:V)(H1:Hp):Prop:=L2.X2 λa b=>[x,y]=[.ref a,.ref b]/\(∃xs,aB K H1 a xs)/\(∃xs,aB K H1 b xs)/\∃W:Nat->Nat->List V->St->Hp->Prop,(∃m,W 0 m [] σ0 H1)/\∀i m zs σ H,W i m zs σ H->
 ((BM K a b).stop i H/\zs.length<=sizeLine/\∀p,H p=none->Q (.ref p) (upd H p<|.lst zs))∨
 ((BM K a b).go i H/\zs.length<sizeLine/\∀x H',(BM K a b).VI i H x H'->g x σ H' λσ2 H2=>tt σ2 H2 λb H3=>if b=true then te σ2 H3 λy H4=>∃m',m'<m/\W (i+1) m' (zs++[y]) σ2 H4 else ∃m',m'<m/\W (i+1) m' zs σ2 H3)
theorem mV{k:Nat}{js:List Nat}{t:TE}:zC k js (yR K<|lQ t<|lQ u fL) g tt te σ H Q=t σ H (λx H1=>u σ H1 λy H2=>CI K g tt te (up k js σ) Q x y H2):=rfl
theorem rn(h:aB K H a xs)(h':aB K H b ys)(hz:xs.length<=1000)(P:Nat->List V->St->Hp->Prop)(h0:P 0 [] σ0 H)(hl:∀i zs σ H,i<=min xs.length ys.length->P i zs σ H->aB K H a xs/\aB K H b ys/\zs.length<=i)
  (U:∀(i:Nat) zs x y σ H p,i<min xs.length ys.length->xs[i]?=some x->ys[i]?=some y->P i zs σ H->H p=none->g (.ref p) σ (upd H p<|.tup [x,y]) λz H2=>tt z H2 λb H3=>if b=true then te z H3 λy H4=>dH P (min xs.length ys.length) i (zs++[y]) z H4 else dH P (min xs.length ys.length) i zs z H3)
  (Z:∀zs σ H,P (min xs.length ys.length) zs σ H->∀p,H p=none->Q (.ref p) (upd H p<|.lst zs)):CI K g tt te σ0 Q (.ref a) (.ref b) H:=by
 have aa:=cL hz;refine⟨a,b,rfl,⟨xs,h⟩,⟨ys,h'⟩,λi m zs σ H=>m=min xs.length ys.length-i/\i<=min xs.length ys.length/\P i zs σ H,⟨min xs.length ys.length,by simp,cE _,h0⟩,?_⟩;rintro i m zs σ H ⟨rfl,hi,p⟩;obtain⟨q,q',ly⟩:=hl i zs σ H hi p;by_cases UA:i<min xs.length ys.length
 .refine .inr ⟨⟨xs,xs[i],ys,ys[i],q,bL<|by lia,q',bL<|by lia⟩,by lia,λx H' y=>?_⟩;obtain⟨pp,x',J,hn,O,y2,rfl,rfl⟩:=y;exact U i zs x' J σ _ pp UA (O xs q) (y2 ys q') p hn
 .have e:i=min xs.length ys.length:=by lia
  subst e;exact .inl ⟨⟨xs,ys,q,q',by lia⟩,by lia,Z zs σ H p⟩
end
section
variable {X:Cx}
theorem mD(K:W.Frag)(h:X.K=K:=by rfl):iW X (PR .NotIn)<|MS K true:=h▸pH
end
theorem wa(A:List Nat):((A.map λ(n:Nat)=>V.int (n:Int)).all Bz)=true:=by
 induction A with
 |nil=>rfl
 |cons a r ih=>rw[jC,Fh,ih];rfl
theorem yQ(x:Nat)(A:List Nat):GI (.int (x:Int)) (A.map λ(n:Nat)=>V.int (n:Int))=decide (x∈A):=by
 induction A with
 |nil=>rfl
 |cons a r ih=>
  unfold GI at*;rw[jC,Ds,ih];by_cases e:x=a
  .subst e;simp[zf]
  .have h:zf (.int (a:Int)) (.int (x:Int))=false:=by
    unfold zf;simp;lia
   rw[h,Bool.false_or];by_cases m:x∈r
   .rw [decide_eq_true m,decide_eq_true<|bA _ m]
   .rw [decide_eq_false m,decide_eq_false λz=>(bC.mp z).elim e m]
noncomputable def wI(lo d:Int)(n:Nat):It:=⟨λi _=>i<n,λi H x H'=>H'=H/\x=.int (lo+i*d),λi _=>n<=i⟩
theorem pW{P:OZ}{w:Pp}{K:W.Frag}(it:OL)(lo d:Int)(n:Nat):Turn P w K tg (wI lo d n) [it] it (λi h=>Ua h it (lo+(i:Nat)*d) ((n:Int)-(i:Nat)) d) where
 mem:=by simp
 obj:=λi h st b J=>by
  have e:b=it:=by simpa using J
  subst e;exact⟨_,st,λv z=>by
   have z':Data.fields _=Data.cell v:=z;cases z'⟩
 keep:=λi h h' st k=>k it (by simp) _ st
 item:=by
  intro X Z hw hK hc i pins s σ H E I U st hg;subst Z hw hK;obtain⟨f0,f1,f2,f3,f4,f5⟩:=U it (by simp);have W:=Walks.range (prog:=X.prog) (w:=X.w) (I.ok.hd hc) it lo d n;refine W.item i s _ _ hg st λv h' tk hv O kk=>?_;obtain⟨t,rfl⟩:=hv;have I1:Inv X pins σ H { s with heap:=h',toks:=tk }:=I.turned (λb o J e=>kk b o (by simpa using J) e) f0 f1 f3 f4 f5;exact⟨_,rfl,Jv (s:={ s with heap:=h',toks:=tk }) (n:="range_iterator") O rfl rfl (by decide) ⟨.int<|lo+i*d,H,I1,⟨t,rfl⟩,⟨rfl,rfl⟩,O,λb J=>(U b J).1⟩⟩
 done:=by
  intro X Z hw hK hc i pins s σ H E I U st hg;subst Z hw hK;obtain⟨f0,f1,f2,f3,f4,f5⟩:=U it (by simp);exact wpAny_pyNext_range_end (I.ok.hd hc) st (by have:n<=i:=hg;lia) λh' eb=>⟨rfl,I.turned (t':=s.toks) (λb o J e=>eb b o J e) f0 f1 f3 f4 f5⟩
 self:=λ_ _ _ _ _ st h=>wpAny_pyIter_rangeiter st h
theorem L0(z:0<d):Pd a b d=if a<b then(b-a-1)/d+1 else 0:=by
 unfold Pd;rw[Z9 z]
theorem jI(z:0<d):0<=Pd a b d:=by
 rw[L0 z];split
 .have:0<=(b-a-1)/d:=Int.ediv_nonneg (by lia) (by lia);lia
 .lia
theorem DJ(h1:0<=a)(h2:a<=1000)(h3:0<=b)(U:b<=1000)(J:0<d)(O:d<=1000):Tq a b d=true:=by
 unfold Tq;rw[L0 J];simp only[Builtin.Range.rangeFitsLong,rN,Bool.or_eq_true,decide_eq_true_eq,beq_iff_eq];have Z:(b-a-1)/d<=1000:=by
  by_cases z:0<=b-a-1
  .exact Int.le_trans (Int.ediv_le_self _ z) (by lia)
  .have:(b-a-1)/d<=0:=by
    have:=Int.ediv_neg_of_neg_of_pos (show b-a-1<0 by lia) J;lia
   lia
 have e2:-1001<=(b-a-1)/d:=Int.le_ediv_of_mul_le J (by lia);have e3:a<b->0<=(b-a-1)/d:=λh=>Int.ediv_nonneg (by lia) (by lia);split
 .rename_i h;have:=e3 h;refine⟨by lia,.inr ?_⟩;rw[rN,decide_eq_true_iff,decide_eq_true_iff];lia
 .exact ⟨by lia,.inl rfl⟩
section
variable {X:Cx}
theorem vF(hc:X.calm=true){pins:List<|OL×Qc}{s:ON}{R:It->Hp->Prop}{E:OK->ON->Prop}{lo hi:Int}{t u v:Tok}{tk:Nat}(I:Inv X pins σ H s)(U:0<d)(J:Tq lo hi d=true)
  (q:R (wI lo d (Pd lo hi d).toNat) H):OR (OV X.prog X.w) X.A (pyIter<|.ref s.heap.objs.size) (ME X pins σ tg R) E { s with heap:=s.heap.push { cls:=.type "range",data:=.fields #[.int lo t,.int hi u,.int d v] },toks:=tk }:=by
 refine wpAny_pyIter_range (IsRange.new ..) J ?_;have z:Inv X pins σ H { s with heap:=s.heap.push { cls:=.type "range",data:=.fields #[.int lo t,.int hi u,.int d v] },toks:=tk }:=I.kept λb o e=>OM _ e;refine⟨(s.heap.push { cls:=.type "range",data:=.fields #[.int lo t,.int hi u,.int d v] }).objs.size,[(s.heap.push { cls:=.type "range",data:=.fields #[.int lo t,.int hi u,.int d v] }).objs.size],_,_,H,rfl,z.kept (t':=tk) λb o e=>OM _ e,(pW _ lo d (Pd lo hi d).toNat).at hc,?_,λb Z=>?_,q⟩
 .have O:lo+((0:Nat):Int)*d=lo:=by simp
  have e2:(((Pd lo hi d).toNat:Nat):Int)-((0:Nat):Int)=Pd lo hi d:=by have:=jI (a:=lo) (b:=hi) U;lia
  show Ua _ _ (lo+((0:Nat):Int)*d) ((((Pd lo hi d).toNat:Nat):Int)-((0:Nat):Int)) d;rw[O,e2];exact OW _ rfl
 .have e:b=(s.heap.push { cls:=.type "range",data:=.fields #[.int lo t,.int hi u,.int d v] }).objs.size:=by simpa using Z
  subst e;exact z.Wh (aK _)<|z.Uy.fresh<|aK _
def CB(ta:TA):TI:=λσ H R=>ta σ H λvs H1=>L2.X3 λi j d:Int=>vs=[.int i,.int j,.int d]/\(0<=i/\i<=1000/\0<=j/\j<=1000/\0<d/\d<=1000)/\R (wI i d (Pd i j d).toNat) H1
theorem nG{a b c:PM}(hg:Gl X "range")(hm:X.mg "range"=none)(ha:PA X [a,b,c] ta)(hs:OU [a,b,c] X.env=(false,eval a X.env)::OU [b,c] X.env:=by rfl)(J:(P5 pos<|OU [b,c] X.env).any (·.1)=false:=by rfl)(hc:X.calm=true:=by rfl):
  PI X tg (.Call (.Name "range" p) [a,b,c] [] pos)<|CB ta:=by
 intro pins s σ H R I h;refine Call_<|CO I hg hm boot_range<|PZ (thn (ha pos pins s σ H _ I h) λus s1 zz=>?_) hs J;obtain⟨vs,H1,U,r1,z⟩:=zz;obtain⟨i,j,d,e,⟨z,q2,Z,q4,O,q6⟩,q⟩:=z;subst e;cases r1 with
 |cons r rr=>
  cases rr with
  |cons r' rr=>
   cases rr with
   |cons r'' rr=>
    cases rr;obtain⟨t,rfl⟩:=r;obtain⟨t',rfl⟩:=r';obtain⟨aa,rfl⟩:=r'';exact call_range_3 (by lia) (vF hc U O (DJ z q2 Z q4 O q6) q)<|.inl<|PyProof.noPylong_small<|by lia
end
def zx(g:TG)(tt:TT)(te:TE)(σ0:St)(Q:VK)(x y z:V)(H1:Hp):Prop:=L2.X3 λi j d:Int=>[x,y,z]=[.int i,.int j,.int d]/\(0<=i/\i<=1000/\0<=j/\j<=1000/\0<d/\d<=1000)/\
 ∃W:Nat->Nat->List V->St->Hp->Prop,(∃m,W 0 m [] σ0 H1)/\∀k m ys σ H,W k m ys σ H->
   ((wI i d (Pd i j d).toNat).stop k H/\ys.length<=sizeLine/\∀p,H p=none->Q (.ref p) (upd H p<|.lst ys))∨
   ((wI i d (Pd i j d).toNat).go k H/\ys.length<sizeLine/\∀x H',(wI i d (Pd i j d).toNat).VI k H x H'->g x σ H' λσ2 H2=>tt σ2 H2 λb H3=>if b=true then te σ2 H3 λy H4=>∃m',m'<m/\W (k+1) m' (ys++[y]) σ2 H4 else ∃m',m'<m/\W (k+1) m' ys σ2 H3)
theorem rT{k:Nat}{js:List Nat}{t v:TE}:zC k js (CB<|lQ t<|lQ u<|lQ v fL) g tt te σ H Q=t σ H (λx H1=>u σ H1 λy H2=>v σ H2 λz H3=>zx g tt te (up k js σ) Q x y z H3):=rfl
theorem nY{i j:Int}{n:Nat}{σ0:St}(h:0<=i/\i<=1000/\0<=j/\j<=1000/\0<d/\d<=1000)(hn:(Pd i j d).toNat=n)(Z:n<=sizeLine)(P:Nat->List V->St->Hp->Prop)(h0:P 0 [] σ0 H)(hl:∀i ys σ H,P i ys σ H->ys.length<=i)
  (J:∀k ys σ H,k<n->P k ys σ H->g (.int<|i+k*d) σ H λz H2=>tt z H2 λb H3=>if b=true then te z H3 λy H4=>dH P n k (ys++[y]) z H4 else dH P n k ys z H3)
  (O:∀ys σ H,P n ys σ H->∀p,H p=none->Q (.ref p) (upd H p<|.lst ys)):zx g tt te σ0 Q (.int i) (.int j) (.int d) H:=by
 refine⟨i,j,d,rfl,h,?_⟩;rw[hn];refine⟨λk m ys σ H=>m=n-k/\k<=n/\P k ys σ H,⟨n,by simp,cE _,h0⟩,?_⟩;rintro k m ys σ H ⟨rfl,hi,p⟩;have U:=hl k ys σ H p;by_cases UA:k<n
 .refine .inr ⟨UA,by lia,λx H' y=>?_⟩;obtain⟨rfl,rfl⟩:=y;exact J k ys σ _ UA p
 .have e:k=n:=by lia
  subst e;exact .inl ⟨aK _,by lia,O ys σ H p⟩
def MP(K:W.Frag)(t:TE):TT:=λσ H Q=>t σ H λx H1=>L2.X2 λa xs=>x=.ref a/\aB K H1 a xs/\Q (!xs.isEmpty) H1
section
variable {X:Cx}
theorem yk{e:PM}{t:TE}(h:PE X e t)(U:∀z,isTrue e X.env z=(do let v <- z;R1 e.pos;holding [v] (truthy v)):=by intro _;rfl):PT X e<|MP X.K t:=by
 intro pins s σ H Q I hw;refine isTrue_plain (thn (h pins s σ H _ I hw) λv s1 O=>?_)<|U _;obtain⟨x,H1,J,r1,Z⟩:=O;obtain⟨a,xs,rfl,hq,q⟩:=Z;cases r1;obtain⟨its,rv,p,hz⟩:=J.list hq;have hl:=rv.length;refine wpAny_truthy_list p.isList ?_ ?_
 .rw [iB,<- hl];exact Int.lt_of_le_of_lt (Int.ofNat_le.mpr hz)<|by decide
 .refine ⟨H1,J.kept (t':=s1.toks+1+1) λb o e=>e,?_⟩;have:(!(its.toArray).isEmpty)=!xs.isEmpty:=by
   cases xs<;>cases its<;>first|rfl|cases hl
  rw[this];exact q
end
end L2
namespace L2S
open PySem PySem.W PyProof.Rows
variable {p:Array Nat}{vs:List OK}
noncomputable def pick{α:Type}(ans:Nat->Nat->Bool):KasT α->α
 |.ret a=>a
 |.ask i j k=>pick ans<|k<|ans i j
def aZ(n:Nat){α:Type}(P:α->Prop):KasT α->Prop
 |.ret a=>P a
 |.ask i j k=>i<n/\j<n/\∀b,aZ n P<|k b
theorem aZ.bind{n:Nat}{α z:Type}{P:α->Prop}{R:z->Prop}{f:α->KasT z}:∀{t:KasT α},aZ n P t->(∀a,P a->aZ n R (f a))->aZ n R (t.bind f)
 |.ret a,h,hf=>hf a h
 |.ask i j k,h,hf=>⟨h.1,h.2.1,λb=>aZ.bind (t:=k b) (h.2.2 b) hf⟩
theorem aZ.wp{n:Nat}{α:Type}{P:α->Prop}{z:Nat->Nat->(Bool->ON->Prop)->ON->Prop}{ans:Nat->Nat->Bool}{s:ON}{Q:α->ON->Prop}(hc:∀i j C,i<n->j<n->C (ans i j) s->z i j C s):∀{t:KasT α},aZ n P t->(P (pick ans t)->Q (pick ans t) s)->t.kasWp z Q s
 |.ret a,h,q=>q h
 |.ask i j k,h,q=>hc i j _ h.1 h.2.1<|aZ.wp hc (t:=k<|ans i j) (h.2.2 _) q
theorem aZ.ite{n:Nat}{α:Type}{P:α->Prop}{c:Prop}[Decidable c]{x y:KasT α}(hx:aZ n P x)(z:aZ n P y):aZ n P<|if c then x else y:=by split<;>assumption
section
variable {n:Nat}
noncomputable abbrev Pm(n:Nat)(p:Array Nat):Prop:=p.Perm (OT n).toArray
theorem Pm.lt(h:Pm n p)(h0:0<n)(i:Nat):p.getD i 0<n:=by
 rw[Array.getD_eq_getD_getElem?];by_cases hi:i<p.size
 .rw [getElem?_pos p i hi];have:=(Array.perm_iff_toList_perm.mp h).mem_iff.mp<|Array.mem_toList_iff.mpr<|Array.getElem_mem hi;exact pS.mp this
 .rw [RY<|Nat.le_of_not_lt hi];exact h0
theorem Pm.rev(h:Pm n p)(i j:Nat):Pm n<|kas_rev p i j:=(mirror_perm _ _ _ _).trans h
variable (h0:0<n)
include h0
theorem JM{p:Array Nat}(h:Pm n p):∀f m,aZ n (λ_=>True) (kas_asc p f m)
 |0,_=>trivial
 |f+1,m=>⟨h.lt h0 _,h.lt h0 _,λb=>.ite trivial<|JM h f _⟩
theorem Iu:∀f p m q,Pm n p->aZ n (λr=>Pm n r.1) (kas_desc f p m q)
 |0,_,_,_,h=>h
 |f+1,p,m,q,h=>⟨h.lt h0 _,h.lt h0 _,λb=>.ite (.ite (Iu f _ _ _<|h.rev _ _)<|Iu f _ _ _ h) ⟨h.lt h0 _,h.lt h0 _,λb=>.ite h<|Iu f _ _ _ h⟩⟩
theorem uJ(h:Pm n p)(m r:Nat):aZ n (λx=>Pm n x.2)<|kas_tail3 m r p:=(JM h0 (h.rev _ _) _ _).bind λ_ _=>h.rev _ _
theorem uL(h:Pm n p)(m r:Nat):aZ n (λx=>Pm n x.2)<|kas_descPart m r p:=(Iu h0 _ _ _ _ h).bind λ_ k=>.ite (uJ h0 (k.rev _ _) _ _)<|uJ h0 k _ _
theorem yO(h:Pm n p)(r:Nat):aZ n (λx=>Pm n x.2)<|kas_count r p:=
 (JM h0 h _ _).bind λ_ _=>.ite h<|.ite ⟨h.lt h0 _,h.lt h0 _,λ_=>.ite h<|uL h0 (h.rev _ _) _ _⟩<|uL h0 h _ _
theorem KP{p:Array Nat}(h:Pm n p)(k:Nat):∀f l r,aZ n (λ_=>True) (kas_place p k f l r)
 |0,_,_=>trivial
 |f+1,l,r=>.ite trivial ⟨h.lt h0 _,h.lt h0 _,λ_=>.ite (KP h k f _ _)<|KP h k f _ _⟩
theorem yP:∀f p k,Pm n p->aZ n (Pm n) (kas_bin f p k)
 |0,_,_,h=>h
 |f+1,p,k,h=>(KP h0 h k _ _ _).bind λ_ _=>yP f _ _<|(bubble_perm _ _ _).trans h
theorem uK:aZ n (Pm n)<|Uo n:=(yO h0 (Array.Perm.refl _) n).bind λ_ h=>.ite (yP h0 _ _ _ h) h
end
theorem AY{α:Type}{M:Tt}{A:Pb}{t:TF α}{P:α->Prop}{s:ON}(c:Code)(p:Sq)(O:(Ctx.of c []).In A)(h1:OR M A t (λr _=>P r) (λ_ _=>False) s)(h2:OR M A t (λr _=>¬ P r) (λ_ _=>False) s):False:=by
 classical
 have k:∀(S:α->Prop) (b:Bool),(∀r,S r->decide (P r)=b)->OR M A t (λr _=>S r) (λ_ _=>False) s->∃s',Reach M [] s (t>>=λr=>pure<|.done<|.ret<|.bool<|decide<|P r) c p [] s' (.ret<|.ok<|.ret<|.bool b):=λS b J h=>by
  have w:OR M A (t>>=λr=>pure<|PySem.Fin.done<|.ret<|.bool<|decide<|P r) (λx _=>x=.done (.ret<|.bool b)) (λ_ _=>False) s:=OJ<|Pj h (λr _ z=>OO<|by rw[J r z]) λ_ _ z=>z;obtain⟨r,s',z,rfl⟩:=(wp_iff_reach (base:=[]) (c:=c) _ (λr _=>r=.ok (.ret<|.bool b)) p s).mp<|Sem.wp_mono M _ _ (λ_ _ _ e=>by cases e;rfl) (λ_ _ _ e=>e.elim) p s<|w _ p O;exact⟨s',z⟩
 obtain⟨_,a⟩:=k P true (λ_ h=>decide_eq_true h) h1;obtain⟨_,b⟩:=k (λr=>¬ P r) false (λ_ h=>decide_eq_false h) h2;cases(a.det b).2
theorem sorts{n:Nat}(prog:OZ)(w:Pp)(s:ON)(f:Nat->Int)(h2:2<=n)(aa:n<64):(pick (λi j=>decide<|f i<f j)<|Uo n).toList.Pairwise λi j=>f i<=f j:=by
 have hl:((OT n).map λi=>Value.int (f i) 0).length=n:=by rw[aJ,eU]
 have hz:(pairsOf<|(OT n).map λi=>Value.int (f i) 0).size=n:=(pairsOf_size _).trans hl;have J:∀i,i<n->((OT n).map λi=>Value.int (f i) 0).getD i Value.none=.int (f i) 0:=λi hi=>by
  rw[iA,dF,xh hi];rfl
 refine QD λno=>?_
 let c:Code:=.builtin "" ⟨[],[]⟩
 let A:Pb:={ depth:=0+c.weight,units:=(Ctx.of c []).units }
 refine AY (M:=OV prog w) (A:=A) (s:=s) (t:=sortRuns'.run<|SortSt.mk' oneType' (pairsOf<|(OT n).map λi=>Value.int (f i) 0) #[] 7 none) (P:=λr=>SortedTo (arrOf r.2) n) c default
  ⟨rfl,aK _,λ_ h=>(by cases h),λ_ h=>(by cases h),aK _⟩ ?_ ?_
 .refine Pj (wpS_sortRuns (a₀:=pairsOf<|(OT n).map λi=>Value.int (f i) 0) (Q:=λ_ st=>SortedTo (arrOf st) n) ?_ ⟨Array.Perm.refl _,rfl,rfl,rfl⟩ (by lia) (by lia) λO _ _ h=>by rw[hz] at h;exact h) (λ_ _ h=>h.2) λ_ _ e=>e;intro p hp;rw[pairsOf_toList] at hp;obtain⟨i,_,e⟩:=vn.mp (mem_zip_self hp).2;exact⟨_,_,e.symm⟩
 .refine kat_run (ks:=(OT n).map λi=>Value.int (f i) 0) (vs:=(OT n).map λi=>Value.int (f i) 0) (κ:=oneType') (Q:=λst _=>¬ SortedTo (arrOf st) n) (G:=λp _=>Pm n p/\p=pick (λi j=>decide<|f i<f j) (Uo n)) rfl (by lia) (by lia) (λp O s' _ e _ g so=>no ?_) ?_
  .rw [<- g.2,Fd];intro i j hi U Z;have hs:p.size=n:=by rw[g.1.size_eq];simp
   have at':∀k (hk:k<p.toList.length),PyProof.Rows.K (arrOf O) k=f p.toList[k]:=λk hk=>by
    have h1:k<p.size:=hk;have h3:=g.1.lt (by lia) k;have h4:p.getD k 0=p[k]:=by simp[Array.getD,h1]
    unfold PyProof.Rows.K;rw[e,Array.getElem?_map,getElem?_pos p k h1];show numOf (kas_item (pairsOf<|(OT n).map λi=>Value.int (f i) 0) p[k]).1=f p[k];rw[kas_item_eq,J _<|by rw[<- h4];exact h3];rfl
   have:=so i j (B0 Z) (by rw[<- hs];exact U);rw[at' i hi,at' j U] at this;exact this
  .rw [hl];refine(uK<|by lia).wp (ans:=λi j=>decide<|f i<f j) (λi j C hi U q=>?_) λz=>⟨z,rfl⟩
   unfold kas_ask;rw[J i hi,J j U];exact kat_lt_int q
noncomputable abbrev zW(h:Ph)(a:OL)(vs:List OK):Ph:=((h.update a<|QC λ_=>#[]).push<|RR "tuple" vs.toArray 0).push<|RR "list" #[] 0
section
variable {prog:OZ}{w:Pp}{A:Pb}{E:OK->ON->Prop}{s:ON}
theorem Ba{h:Ph}{a b:OL}{o:Qc}(z:b≠a)(e:h.get? b=some o):(zW h a vs).get? b=some o:=by
 refine OM _<|OM _ ?_;exact(PV _ _<|OY z).trans e
theorem xV{a:OL}{n:Nat}{κ:SortKind}{f:Nat->Int}{P:PySem.Fin->ON->Prop}(ho:s.heap.get? a=some (RR "list" vs.toArray n))(hz:vs.length<64)
  (O:2<=vs.length->∀Q':SortKind->ON->Prop,Q' κ { s with heap:=zW s.heap a vs }->OR (OV prog w) A (keyKind' vs.toArray) Q' E { s with heap:=zW s.heap a vs })
  (Z:2<=vs.length->∀i j C,i<vs.length->j<vs.length->C (decide<|f i<f j) { s with heap:=zW s.heap a vs }->kas_ask prog w A κ vs i j C { s with heap:=zW s.heap a vs })
  (h:∀p:List Nat,p.Perm (OT vs.length)->p.Pairwise (λi j=>f i<=f j)->P (.done<|.ret .none) { s with heap:=sortedHeap s.heap a vs (p.map λi=>vs.getD i Value.none).toArray }):OR (OV prog w) A (QP.«list.sort» ⟨[.ref a],[]⟩) P E s:=by
 rw[list_sort_plain];have ha:a<s.heap.objs.size:=OQ ho;refine OJ<|listItems_at ho rfl ?_;refine OJ<|listUpdate_at ho rfl ?_;obtain⟨e1,U⟩:∃e1,(s.heap.update a<|QC λ_=>#[]).get? a=some (RR "list" #[] e1):=⟨_,get?_update_seq ho λ_=>#[]⟩
 refine OJ<|seqEpoch_at U rfl ?_;refine OJ<|SV<|OJ<|wpAny_newList<|Pt ?_;have J:(zW s.heap a vs).get? a=some (RR "list" #[] e1):=OM _<|OM _ U;show OR (OV prog w) A _ P E { s with heap:=zW s.heap a vs };dsimp only;have hsz:vs.toArray.size=vs.length:=iB ..;have hl:vs.length<=sizeLine:=cX (B0 hz) (by decide);rw[hsz];by_cases h2:vs.length<2
 .rw [Z9 h2,Z9 h2];refine OJ<|OO ?_;rw[StateT.run_pure];refine OJ<|OO ?_;dsimp only;refine OJ<|seqEpoch_at J rfl ?_;refine OJ<|listUpdate_at J rfl ?_ (hsz2:=by rw[Array.size_map];show(pairsOf vs).size<=_;rw[pairsOf_size];lia);rw[Z8<|by simp];have o:=h (OT vs.length) (.refl _) (by
   rw[Fd];intro i j _ hj _;rw[eU] at hj;lia)
  have e:(vs.toArray.zip vs.toArray).map (·.2)=((OT vs.length).map λi=>vs.getD i Value.none).toArray:=kat_snds (st:=SortSt.mk' κ (vs.toArray.zip vs.toArray) #[] 7 none) (ks:=vs) (p:=(OT vs.length).toArray) rfl (by
   have:=kas_range<|vs.toArray.zip vs.toArray;rw[show(vs.toArray.zip vs.toArray).size=vs.length by simp] at this;exact this.symm)
  rw[<- e] at o;exact OO o
 .rw [Z8 h2,Z8 h2];refine OJ<|O (by lia) _ ?_;refine OJ<|Pj (kat_run (ks:=vs) (κ:=κ) (Q:=λst s'=>s'={ s with heap:=zW s.heap a vs }/\∃p:Array Nat,Pm vs.length p/\p=pick (λi j=>decide<|f i<f j) (Uo vs.length)/\arrOf st=p.map (kas_item<|vs.toArray.zip vs.toArray)/\failedOf st=none) (G:=λp s'=>s'={ s with heap:=zW s.heap a vs }/\Pm vs.length p/\p=pick (λi j=>decide<|f i<f j) (Uo vs.length)) rfl (by lia) hz (λp ac s' _ e g z=>⟨z.1,p,z.2.1,z.2.2,e,g⟩)<|(uK<|by lia).wp (Z<|by lia) λz=>⟨rfl,z,rfl⟩) ?_ λ_ _ e=>e;rintro⟨⟨⟩,ac⟩ s' ⟨rfl,p,hp,ep,aa,hf⟩;dsimp only;refine OJ<|seqEpoch_at J rfl ?_;have hs:(arrOf ac).size=vs.length:=by rw[aa,Array.size_map,hp.size_eq];simp
  refine OJ<|listUpdate_at J rfl ?_ (hsz2:=by rw[Array.size_map];lia);rw[hf,Z8<|by simp];have o:=h p.toList (Array.perm_iff_toList_perm.mp hp) (by rw[ep];exact sorts prog w s f (by lia) hz);rw[<- kat_snds rfl aa] at o;exact OO o
theorem rY{l:OL}{κ:SortKind}{f:Nat->Int}{Q:OK->ON->Prop}(hl:s.heap.IsList l vs.toArray)(hz:vs.length<64)
  (z:∀h':Ph,(∀b o,s.heap.get? b=some o->h'.get? b=some o)->2<=vs.length->∀(U:Pb) (E':OK->ON->Prop) (Q':SortKind->ON->Prop),Q' κ { s with heap:=h' }->OR (OV prog w) U (keyKind' vs.toArray) Q' E' { s with heap:=h' })
  (J:∀h':Ph,(∀b o,s.heap.get? b=some o->h'.get? b=some o)->2<=vs.length->∀U i j C,i<vs.length->j<vs.length->C (decide<|f i<f j) { s with heap:=h' }->kas_ask prog w U κ vs i j C { s with heap:=h' })
  (h:∀p:List Nat,p.Perm (OT vs.length)->p.Pairwise (λi j=>f i<=f j)->Q (.ref<|s.heap.objs.size+1) { s with heap:=sortedAll s.heap vs (p.map λi=>vs.getD i Value.none).toArray }):OR (OV prog w) A (call (.builtin "sorted") [.ref l]) Q E s:=by
 refine Calls.call_function_entry kind_sorted plain_sorted entry_sorted (args_sorted1 _) ?_;unfold QP.«sorted»;refine OJ (m:=checkCount "sorted" 1 1 _)<|OO ?_;refine OJ (collect_list hl ?_<|cX (B0 hz)<|by decide);refine OJ<|wpAny_newList ?_;have Z:((s.heap.push<|RR "list" #[] 0).update s.heap.objs.size<|QC (·++vs.toArray)).objs.size=s.heap.objs.size+1:=(Heap.size_update ..).trans (size_push' ..);have g1:(((s.heap.push<|RR "list" #[] 0).update s.heap.objs.size<|QC (·++vs.toArray)).push<|RR "list" vs.toArray 0).get? (s.heap.objs.size+1)=some (RR "list" vs.toArray 0):=by
  rw[<- Z];exact OW _ rfl
 have O:∀b o,s.heap.get? b=some o->(zW (((s.heap.push<|RR "list" #[] 0).update s.heap.objs.size<|QC (·++vs.toArray)).push<|RR "list" vs.toArray 0) (s.heap.objs.size+1) vs).get? b=some o:=λb o e=>by
  have lt:=OQ e;refine Ba (fK<|RO lt)<|OM _ ?_;exact(PV _ _<|BZ lt).trans<|OM _ e
 show OR _ _ _ _ _ { s with heap:=((s.heap.push<|RR "list" #[] 0).update s.heap.objs.size<|QC (·++vs.toArray)).push<|RR "list" vs.toArray 0 };rw[Z];exact OJ<|Pt<|QL slot_list_sort ⟨_,g1,rfl⟩ entry_list_sort (xV g1 hz (λh2 Q' q=>z _ O h2 _ _ Q' q) (λh2=>J _ O h2 _) λp a1 a2=>⟨_,rfl,OO ⟨_,rfl,h p a1 a2⟩⟩)<|args_list_sort _
end
end L2S
namespace L2
open PySem PySem.Spec PyProof.Rows L2S
def iZ(x y:Int×Int):Prop:=x.1<y.1∨(x.1=y.1/\x.2<y.2)
noncomputable instance (x y:Int×Int):Decidable<|iZ x y:=by unfold iZ;exact inferInstance
noncomputable abbrev mO:=OL×Int×Int
noncomputable def EL(zs:List mO)(v:Int×Int):Nat:=zs.countP λz=>decide<|iZ z.2 v
theorem t6{zs:List mO}{x:mO}{v:Int×Int}(hx:x∈zs):EL zs x.2<EL zs v↔iZ x.2 v:=by
 have mono:∀(l:List mO) (a b:Int×Int),(∀z:Int×Int,iZ z a->iZ z b)->l.countP (λz=>decide<|iZ z.2 a)<=l.countP (λz=>decide<|iZ z.2 b):=λl a b h=>
  List.countP_mono_left λz _ e=>decide_eq_true<|h _<|of_decide_eq_true e
 constructor
 .intro h;by_cases e:iZ x.2 v
  .exact e
  .have:=mono zs v x.2 λz J=>by unfold iZ at*;lia
   unfold EL at h;lia
 .intro h;obtain⟨s,t,rfl⟩:=List.append_of_mem hx;unfold EL;rw[List.countP_append,List.countP_append,List.countP_cons,List.countP_cons];have m:∀z:Int×Int,iZ z x.2->iZ z v:=λz J=>by unfold iZ at*;lia
  have h1:=mono s x.2 v m;have h2:=mono t x.2 v m;have h3:decide (iZ x.2 x.2)=false:=decide_eq_false (by unfold iZ;lia);rw[h3,decide_eq_true h];simp only[BW,if_false,if_true];lia
section
variable {prog:OZ}{w:Pp}{A:Pb}{E:OK->ON->Prop}{s:ON}
def jK(h:Ph)(z:mO):Prop:=L2.X4 λo t u n=>h.get? z.1=some o/\o.cls=.type "tuple"/\o.data=.seq #[.int z.2.1 t,.int z.2.2 u] n
theorem jK.keep{h h':Ph}{z:mO}(p:jK h z)(k:∀b o,h.get? b=some o->h'.get? b=some o):jK h' z:=let ⟨o,t,u,n,a,b,c⟩:=p;⟨o,t,u,n,k _ _ a,b,c⟩
theorem yI{a b a' b':Int}{t u t' J:Tok}{Q:Bool->ON->Prop}(h:Q (decide<|iZ (a,b) (a',b')) s):PySem.W.KatLex prog w A true false Q [(.int a t,.int a' t'),(.int b u,.int b' J)] 0 s:=by
 refine PySem.W.kat_cons<|T4 ?_;by_cases e:a=a'
 .rw [show(a==a')=true by simpa using e];refine PySem.W.kat_yes<|PySem.W.kat_cons<|T4 ?_;by_cases e2:b=b'
  .rw [show(b==b')=true by simpa using e2];refine PySem.W.kat_yes<|PySem.W.kat_nil ?_;rw[decide_eq_false<|by unfold iZ;dsimp only;lia] at h;exact h
  .rw [show(b==b')=false by simpa using e2];refine PySem.W.kat_no<|PySem.W.kat_one _ _<|lt_int ?_;have e3:decide (iZ (a,b) (a',b'))=decide (b<b'):=by
    by_cases z:b<b'
    .rw [decide_eq_true z];exact decide_eq_true<|by unfold iZ;dsimp only;lia
    .rw [decide_eq_false z];exact decide_eq_false<|by unfold iZ;dsimp only;lia
   rw[e3] at h;exact h
 .rw [show(a==a')=false by simpa using e];refine PySem.W.kat_no ?_;have e3:decide (iZ (a,b) (a',b'))=decide (a<a'):=by
   by_cases z:a<a'
   .rw [decide_eq_true z];exact decide_eq_true<|by unfold iZ;dsimp only;lia
   .rw [decide_eq_false z];exact decide_eq_false<|by unfold iZ;dsimp only;lia
  rw[e3] at h;exact oneLt_int h
theorem tH{h:Ph}:∀{zs:List mO},(∀z∈zs,jK h z)->∃fs,PySem.W.KatTups h (zs.map λz=>Value.ref z.1) fs/\fs.length=zs.length/\∀v∈fs,∃n t,v=Value.int n t
 |[],_=>⟨[],trivial,rfl,λv h=>by cases h⟩
 |z::r,hp=>by
  obtain⟨fs,f1,U,Z⟩:=tH (zs:=r) λy O=>hp y<|bA _ O;obtain⟨o,t,u,n,a1,a2,a3⟩:=hp z aU;refine⟨.int z.2.1 t::fs,PySem.W.KatTups.cons a1 a2 a3 rfl f1,by rw[bS,bS,U],λv J=>?_⟩;rcases bC.mp J with e|e
  .exact ⟨_,_,e⟩
  .exact Z v e
theorem qB{α J:Type}(g:α->J):∀{l:List J} {zs:List α},l.Perm (zs.map g)->∃ms:List α,ms.Perm zs/\l=ms.map g
 |[],zs,h=>by
  have:zs=[]:=by
   have:=h.length_eq;rw[tD,aJ] at this;exact Ac.mp this.symm
  subst this;exact⟨[],.nil,rfl⟩
 |x::r,zs,h=>by
  obtain⟨z,U,e⟩:=vn.mp<|h.mem_iff.mp aU;obtain⟨a,b,rfl⟩:=List.append_of_mem U;have h2:(x::r).Perm<|x::(a++b).map g:=by
   refine h.trans ?_;rw[bX,jC,e,bX];exact List.perm_middle
  obtain⟨ms,Z,O⟩:=qB g<|List.Perm.cons_inv h2;exact⟨z::ms,(Z.cons z).trans List.perm_middle.symm,by rw[O,jC,e]⟩
theorem ph{l:OL}{zs:List mO}{Q:OK->ON->Prop}(hl:s.heap.IsList l (zs.map λz=>Value.ref z.1).toArray)(hp:∀z∈zs,jK s.heap z)(hz:zs.length<64)
  (h:∀(ms:List mO),ms.Perm zs->ms.Pairwise (λx y=>¬ iZ y.2 x.2)->Q (.ref<|s.heap.objs.size+1) { s with heap:=sortedAll s.heap (zs.map λz=>Value.ref z.1) (ms.map λz=>Value.ref z.1).toArray }):OR (OV prog w) A (call (.builtin "sorted") [.ref l]) Q E s:=by
 have O:(zs.map λz=>Value.ref z.1).length=zs.length:=aJ ..;have J:∀i,i<zs.length->(zs.map λz=>Value.ref z.1).getD i Value.none=.ref (zs.getD i (0,0,0)).1/\zs.getD i (0,0,0)∈zs:=λi hi=>by
  rw[iA,iA,dF,bL hi];exact⟨rfl,RW hi⟩
 refine rY (κ:=tuples' true) (f:=λi=>(EL zs (zs.getD i (0,0,0)).2:Int)) hl (by rw[O];exact hz) (λh' k h2 A' E' Q' q=>?_) (λh' k h2 A' i j C hi Z q=>?_) λp U p2=>?_
 .obtain ⟨fs,f1,f2,f3⟩:=tH (h:=h') λz hz=>(hp z hz).keep k;rw[O] at h2;refine PySem.W.kat_kind (T:=.type "int") f1 (by lia) (λv hv=>?_) rfl q;obtain⟨n,t,rfl⟩:=f3 v hv;exact .now
 .rw [O] at hi Z;obtain⟨e1,m1⟩:=J i hi;obtain⟨e2,m2⟩:=J j Z;unfold PySem.W.kas_ask;rw[e1,e2];obtain⟨o,t,u,n,a1,a2,a3⟩:=(hp _ m1).keep k;obtain⟨o',t',u',n',b1,b2,b3⟩:=(hp _ m2).keep k;refine PySem.W.kat_lt a1 a3 b1 b3<|yI ?_;rw[show decide (iZ ((zs.getD i (0,0,0)).2.1,(zs.getD i (0,0,0)).2.2) ((zs.getD j (0,0,0)).2.1,(zs.getD j (0,0,0)).2.2))=decide ((EL zs (zs.getD i (0,0,0)).2:Int)<(EL zs (zs.getD j (0,0,0)).2:Int)) from decide_eq_decide.mpr<|(t6 m1).symm.trans Int.ofNat_lt.symm];exact q
 .rw [O] at U;have pm:(p.map λi=>zs.getD i (0,0,0)).Perm zs:=by
   have:=U.map λi=>zs.getD i ((0,0,0):mO);rw[show(OT zs.length).map (λi=>zs.getD i ((0,0,0):mO))=zs from List.ext_getElem (by simp) λi h1 h2=>by simp[h2]] at this;exact this
  have e:(p.map λi=>(zs.map λz=>Value.ref z.1).getD i Value.none)=((p.map λi=>zs.getD i (0,0,0)).map λz=>Value.ref z.1):=by
   rw[Dk];exact QJ λi hi=>(J i<|pS.mp<|U.mem_iff.mp hi).1
  rw[e];refine h _ pm<|Fc.mpr<|p2.imp_of_mem fun {i j} hi Z ac aa=>?_;have:=(t6 (J j<|pS.mp<|U.mem_iff.mp Z).2).mpr aa;lia
end
theorem mS:∀{zs:List mO} {its:List OK},Vals (zs.map λz=>V.ref z.1) its->its=zs.map λz=>Value.ref z.1
 |[],_,.nil=>rfl
 |z::r,_,.cons a b=>by
  have e:=mS b;cases a;rw[e];rfl
theorem nA:∀ms:List mO,Vals (ms.map λz=>V.ref z.1) (ms.map λz=>Value.ref z.1)
 |[]=>.nil
 |_::r=>.cons rfl<|nA r
section
variable {X:Cx}
theorem iU:jS X (.builtin "sorted") λxs H Q=>L2.X2 λ(p:OL) (zs:List mO)=>xs=[.ref p]/\aB X.K H p (zs.map λz=>V.ref z.1)/\(∀z∈zs,bG X.K H z.1 [.int z.2.1,.int z.2.2])/\zs.length<64/\∀(l:OL) (ms:List mO),H l=none->ms.Perm zs->ms.Pairwise (λx y=>¬ iZ y.2 x.2)->Q (.ref l) (upd H l<|.lst<|ms.map λz=>V.ref z.1):=by
 intro pins s σ H xs us Q I r h;obtain⟨p,zs,rfl,hq,hz,hn,q⟩:=h;obtain⟨u,rfl,rx⟩:=sU r;cases rx;obtain⟨its,r',pl,aa⟩:=I.list hq;obtain rfl:=mS r';have J:∀z∈zs,jK s.heap z:=λz O=>by
  obtain⟨it,rt,pt,_⟩:=I.tuple<|hz z O;obtain⟨a,b,rfl,⟨t,rfl⟩,⟨t',rfl⟩⟩:=CM rt;obtain⟨o,ho,hc,n,hd⟩:=pt;exact⟨o,t,t',n,ho,hc,hd⟩
 refine ph pl.isList J hn λms U m2=>?_;obtain⟨e,he⟩:=sortedAll_at s.heap (zs.map λz=>Value.ref z.1) (ms.map λz=>Value.ref z.1).toArray;have Z:ms.length=zs.length:=U.length_eq;refine⟨.ref<|s.heap.objs.size+1,_,I.laid (t':=s.toks) (λb o e=>sortedAll_old e) (lT _) (o:=.lst<|ms.map λz=>V.ref z.1) ⟨?_,(ms.map λz=>Value.ref z.1),e,nA ms,he⟩,rfl,q _ ms (I.Uy.fresh<|lT _) U m2⟩;rw[aJ];exact cL<|by lia
end
theorem AS(K:W.Frag){X:Cx}(z:X.A.units<Rx)(h:X.K=K:=by rfl):iW X (PR .Lt)<|Gm K:=h▸D9 z
end L2
namespace Po
variable {a a' b b' x y:Nat}
noncomputable def st(acc h:Nat):Nat:=(((acc+h*14029467366897019727)%2^64*2^31%2^64+(acc+h*14029467366897019727)%2^64/2^33)*11400714785074694791)%2^64
noncomputable def G(a:Nat):Nat:=st 2870177450012600261 a*839798700976720815%2^64
theorem J3(x:Nat):x*2^31%2^64=x%2^33*2^31:=by
 rw[show(2:Nat)^64=2^33*2^31 by decide,Nat.mul_mod_mul_right]
theorem ya(hx:x<2^64):x*2^31%2^64+x/2^33<2^64:=by rw[J3];omega
theorem Aw(hx:x<2^64)(J:y<2^64)(h:x*2^31%2^64+x/2^33=y*2^31%2^64+y/2^33):x=y:=by
 rw[J3,J3] at h;have a1:=TQ x<|2^33;have a2:=TQ y<|2^33;have O:x/2^33<2^31:=by omega
 have z:y/2^33<2^31:=by omega
 generalize x/2^33=q at*;generalize y/2^33=q' at*;generalize x%2^33=r at*;generalize y%2^33=r' at*;omega
theorem back{p i:Nat}(h:p*i%2^64=1)(hx:x<2^64):x*p%2^64*i%2^64=x:=by
 rw[Nat.mod_mul_mod,Nat.mul_assoc,Nat.mul_mod,h,Nat.mul_one,Nat.mod_mod,Nat.mod_eq_of_lt hx]
theorem xU(h:st a b=st a' b'):(a+b*14029467366897019727)%2^64=(a'+b'*14029467366897019727)%2^64:=by
 unfold st at h;have l1:(a+b*14029467366897019727)%2^64<2^64:=Sa _ (by decide);have l2:(a'+b'*14029467366897019727)%2^64<2^64:=Sa _ (by decide);generalize (a+b*14029467366897019727)%2^64=x at*;generalize (a'+b'*14029467366897019727)%2^64=y at*;have hi:11400714785074694791*614540362697595703%2^64=1:=by decide
 have e:=congrArg (λz=>z*614540362697595703%2^64) h;rw[back hi<|ya l1,back hi<|ya l2] at e;exact Aw l1 l2 e
theorem Dz(h:(st 2870177450012600261 a+b*14029467366897019727)%2^64=x%2^64):(G a+b)%2^64=x*839798700976720815%2^64:=by
 have e:=congrArg (λz=>z*839798700976720815%2^64) h;rw[Nat.mod_mul_mod,Nat.mod_mul_mod,Nat.add_mul,Nat.mul_assoc,Nat.add_mod,Nat.mul_mod b,show 14029467366897019727*839798700976720815%2^64=1 by decide,Nat.mul_one,Nat.mod_mod] at e;unfold G;rw[<- e,Nat.add_mod,Nat.mod_mod]
noncomputable def W9(x y:Nat):Bool:=decide (1000<(x+2^64-y)%2^64)&&decide ((x+2^64-y)%2^64<2^64-1000)
noncomputable def G1:List Nat->Bool
 |[]=>true
 |x::r=>r.all (W9 x)&&G1 r
theorem IX:∀{l:List Nat} {i j x y:Nat},G1 l=true->i<j->l[i]?=some x->l[j]?=some y->W9 x y=true
 |x::r,0,j+1,a,b,h,hij,h1,h2=>by
  unfold G1 at h;rw[rN,List.all_eq_true] at h;cases h1;exact h.1 b<|jB<|by simpa using h2
 |x::r,i+1,j+1,a,b,h,hij,h1,h2=>by
  unfold G1 at h;rw[rN] at h;exact IX (i:=i) (j:=j) h.2 (by omega) (by simpa using h1)<|by simpa using h2
 |[],i,j,a,b,h,hij,h1,h2=>by simp at h1
theorem Ey:G1 ((OT 205).map G++[9148689060682678900*839798700976720815%2^64])=true:=by decide+kernel
theorem zJ(h:a<205):((OT 205).map G++[9148689060682678900*839798700976720815%2^64])[a]?=some (G a):=by
 rw[oQ (by rw[aJ,eU];exact h),dF,xh h];rfl
theorem JI(h:W9 x y=true)(hx:x<2^64)(O:y<2^64)(J:b<=500)(z:b'<=500):(x+b)%2^64≠(y+b')%2^64:=by
 unfold W9 at h;rw[rN,decide_eq_true_iff,decide_eq_true_iff] at h;omega
theorem wJ(a:Nat):G a<2^64:=Sa _<|by decide
noncomputable def th(a b:Nat):Nat:=st (st 2870177450012600261 a) b
theorem xu(a b:Nat):th a b<2^64:=Sa _<|by decide
theorem DB(ha:a<205)(J:a'<205)(Z:b<=500)(O:b'<=500)(h:th a b=th a' b'):a=a'/\b=b':=by
 unfold th at h;have e:=xU (a:=st 2870177450012600261 a) (b:=b) (a':=st 2870177450012600261 a') (b':=b') h;have U:=Dz (a:=a) (b:=b) (x:=st 2870177450012600261 a'+b'*14029467366897019727) e;have e2:=Dz (a:=a') (b:=b') (x:=st 2870177450012600261 a'+b'*14029467366897019727)<|Eq.refl _;rw[<- e2] at U;clear e2 e h;rcases Nat.lt_trichotomy a a' with z|z|z
 .exact absurd U (JI (IX Ey z (zJ ha)<|zJ J) (wJ _) (wJ _) Z O)
 .subst z;have:=wJ a;generalize G a=g at*;exact⟨rfl,by omega⟩
 .exact absurd U.symm (JI (IX Ey z (zJ J)<|zJ ha) (wJ _) (wJ _) O Z)
theorem xt(ha:a<205)(z:b<=500):th a b≠15576566623696079691:=by
 intro h;have e:st (st 2870177450012600261 a) b=st 9148689060682678900 0:=by
  rw[show st 9148689060682678900 0=15576566623696079691 by decide+kernel];exact h
 have J:=Dz (a:=a) (b:=b) (x:=9148689060682678900) (by
  have:=xU (a:=st 2870177450012600261 a) (b:=b) (a':=9148689060682678900) (b':=0) e;rw[BS,Sb] at this;exact this)
 have f:=IX (i:=a) (j:=205) Ey ha (zJ ha) (y:=9148689060682678900*839798700976720815%2^64) (by
  rw[kF (by rw[aJ,eU];exact aK _),aJ,eU,jT,List.getElem?_cons_zero])
 have:=JI f (wJ _) (Sa _<|by decide) z (b':=0) (by decide);rw[Sb,Nat.mod_mod] at this;exact this J
noncomputable def fin(acc:Nat):Int:=if (acc+2870177450013471924)%2^64=2^64-1 then 1546275796 else if (acc+2870177450013471924)%2^64<2^63 then(((acc+2870177450013471924)%2^64:Nat):Int) else(((acc+2870177450013471924)%2^64:Nat):Int)-2^64
theorem sx(hx:x<2^64)(nx:x≠15576566623696079691):fin x=(((x+2870177450013471924)%2^64:Nat):Int)/\(x+2870177450013471924)%2^64<2^63∨fin x=(((x+2870177450013471924)%2^64:Nat):Int)-2^64/\¬ (x+2870177450013471924)%2^64<2^63/\(x+2870177450013471924)%2^64≠2^64-1:=by
 have h1:¬ (x+2870177450013471924)%2^64=2^64-1:=by omega
 unfold fin;rw[Z8 h1];by_cases h2:(x+2870177450013471924)%2^64<2^63
 .rw [Z9 h2];exact .inl ⟨rfl,h2⟩
 .rw [Z8 h2];exact .inr ⟨rfl,h2,h1⟩
theorem Bm(hx:x<2^64)(J:y<2^64)(nx:x≠15576566623696079691)(O:y≠15576566623696079691)(h:fin x=fin y):x=y:=by
 rcases sx hx nx with ⟨z,l1⟩|⟨z,l1,_⟩<;>rcases sx J O with ⟨e2,l2⟩|⟨e2,l2,_⟩<;>rw[z,e2] at h<;>omega
end Po
namespace L2
open PySem PySem.Spec PyProof.Rows
theorem lJ(n:Nat)(hn:n<=500):hashInt (n:Int)=n:=by
 have e:rawHash (n:Int)=n:=by
  unfold rawHash;dsimp only;rw[Int.natAbs_natCast,Z8 (show ¬ (n:Int)<0 by lia),show(n:Int)%((2^61-1:Nat):Int)=n by lia,Z8 (λz=>by have:=eq_of_beq z;lia)]
 unfold hashInt;rw[e,Z8 (λz=>by have:=eq_of_beq z;lia)]
noncomputable def stI(acc:Nat)(h:Int):Nat:=Po.st acc (h%((2^64:Nat):Int)).toNat
theorem fold_eq(z:List Int):QR z=(if (z.foldl stI 2870177450012600261+(z.length^^^(2870177450012600261^^^3527539)))%2^64==2^64-1 then 1546275796 else if (z.foldl stI 2870177450012600261+(z.length^^^(2870177450012600261^^^3527539)))%2^64<2^63 then(((z.foldl stI 2870177450012600261+(z.length^^^(2870177450012600261^^^3527539)))%2^64:Nat):Int) else(((z.foldl stI 2870177450012600261+(z.length^^^(2870177450012600261^^^3527539)))%2^64:Nat):Int)-((2^64:Nat):Int)):=by
 unfold QR;rfl
theorem Gy{a b:Nat}(ha:a<205)(Z:b<=500):QR [(a:Int),(b:Int)]=Po.fin (Po.th a b):=by
 have ea:((a:Int)%((2^64:Nat):Int)).toNat=a:=by lia
 have O:((b:Int)%((2^64:Nat):Int)).toNat=b:=by lia
 have J:([(a:Int),(b:Int)].length^^^(2870177450012600261^^^3527539))=2870177450013471924:=by
  show(2^^^(2870177450012600261^^^3527539):Nat)=_;decide+kernel
 have U:[(a:Int),(b:Int)].foldl stI 2870177450012600261=Po.th a b:=by
  rw[List.foldl_cons,List.foldl_cons,List.foldl_nil];unfold stI Po.th;rw[ea,O]
 rw[fold_eq,J,U];unfold Po.fin;by_cases h:(Po.th a b+2870177450013471924)%2^64=2^64-1
 .rw [Z9 h,Z9<|beq_iff_eq.mpr h]
 .rw [Z8 h,Z8 λz=>h<|beq_iff_eq.mp z];rfl
theorem nS(P:OZ)(w:Pp){a b:Nat}(ha:a<205)(J:b<=500):(Pr<|dU P w).hash [.inl (a:Int),.inl (b:Int)]=Po.fin (Po.th a b):=by
 show reduceHash (QR [hashInt (a:Int),hashInt (b:Int)])=_;rw[lJ a<|by lia,lJ b J];have e:=Gy ha J;rw[e];unfold reduceHash;have:=Po.sx (Po.xu a b)<|Po.xt ha J;have h1:-(2^63:Int)<=Po.fin (Po.th a b)/\Po.fin (Po.th a b)<2^63/\Po.fin (Po.th a b)≠-1:=by lia
 rw[Z9 (by rw[rN,decide_eq_true_iff,decide_eq_true_iff];exact⟨h1.1,h1.2.1⟩),Z8 λz=>h1.2.2<|eq_of_beq z]
def Ka(kvs:List<|List Key×V):Prop:=∀kv∈kvs,∃a b:Nat,kv.1=[.inl (a:Int),.inl (b:Int)]/\a<205/\b<=500
section
variable {X:Cx}{pins:List (OL×Qc)}{σ:St}{H:Hp}{A:Pb}{E:OK->ON->Prop}{s:ON}
theorem su{P:OZ}{w:Pp}:∀{kvs:List<|List Key×V} {xs:List<|List Key×OL×OK},Ka kvs->KT H kvs xs->(xs.map (·.1)).Nodup->xs.Pairwise (λx y=>(Qb (Pr<|dU P w) x).hash≠(Qb (Pr<|dU P w) y).hash):=by
 intro kvs xs hk kt nd;have z:∀x∈xs,∃a b:Nat,x.1=[.inl (a:Int),.inl (b:Int)]/\a<205/\b<=500:=by
  intro x hx;obtain⟨y,Z,e⟩:∃y∈kvs,y.1=x.1:=by
   clear nd hk;induction kt with
   |nil=>cases hx
   |@cons p q ps qs hq t ih=>
    rcases bC.mp hx with e|hx
    .subst e;exact⟨p,aU,hq.1⟩
    .obtain ⟨y,h1,h2⟩:=ih hx;exact⟨y,bA _ h1,h2⟩
  obtain⟨a,b,h1,h2,h3⟩:=hk y Z;exact⟨a,b,by rw[<- e,h1],h2,h3⟩
 rw[List.Nodup,Fc] at nd;refine nd.imp_of_mem fun {x y} hx Z ne e=>?_;obtain⟨a,b,e1,h1,h2⟩:=z x hx;obtain⟨a',b',U,J,O⟩:=z y Z;have e:(Pr<|dU P w).hash x.1=(Pr<|dU P w).hash y.1:=e;rw[e1,U,nS P w h1 h2,nS P w J O] at e;have:=Po.DB h1 J h2 O<|Po.Bm (Po.xu _ _) (Po.xu _ _) (Po.xt h1 h2) (Po.xt J O) e;exact ne<|by rw[e1,U,this.1,this.2]
theorem qG{α:Type}(f:α->Int)(x:α):∀{l:List α},l.Pairwise (λa b=>f a≠f b)->(l.filter λy=>f y==f x).length<=1
 |[],_=>cE _
 |a::r,h=>by
  obtain⟨h1,h2⟩:=BR.mp h;by_cases e:f a=f x
  .rw [Qs<|by simpa using e];have:r.filter (λy=>f y==f x)=[]:=List.filter_eq_nil_iff.mpr λb J z=>h1 b J (by rw[e];exact(by simpa using z:f b=f x).symm);rw[this];exact aK _
  .rw [Fb<|by simpa using e];exact qG f x h2
theorem mH{id:String}{d:OL}{o:Qc}{es ep}{kvs:List<|List Key×V}{xs:List<|List Key×OL×OK}{Q:Array DictEntry->ON->Prop}(ho:s.heap.get? d=some o)(hd:o.data=.dict es ep)
  (Z:es.toList=xs.map (Qb<|Pr<|dU X.prog X.w)) (hk:∀x∈xs,(Pr<|dU X.prog X.w).is s.heap x.1 x.2.1) (hp:xs.Pairwise λx y=>(Qb (Pr<|dU X.prog X.w) x).hash≠(Qb (Pr<|dU X.prog X.w) y).hash) (h:Q es s):
  OR (OV X.prog X.w) A (Ue id d) Q E s:=by
 unfold Ue;refine OJ<|R0 ho hd ?_;refine OJ ?_;rw[<- SQ];refine wpAny_forIn_list _ (λrest _ s'=>s'=s/\∀e∈rest,e∈es.toList) _ ?_ ?_ _ _ ⟨rfl,λe z=>z⟩
 .rintro e rest b s' ⟨U,J⟩;rw[U];have hm:=J e aU;rw[Z] at hm;obtain⟨x,hx,rfl⟩:=vn.mp hm;have hT:Rp s (.ref x.2.1) "tuple":=IsTupleKey.typeIs<|hk x hx;have hsz:¬ (es.filter λO=>O.hash==(Qb (Pr<|dU X.prog X.w) x).hash).size>1:=by
   have e1:(es.filter λO=>O.hash==(Qb (Pr<|dU X.prog X.w) x).hash).size=(es.toList.filter λO=>O.hash==(Qb (Pr<|dU X.prog X.w) x).hash).length:=by
    rw[<- Array.toList_filter,Af]
   rw[e1,Z];have:=qG (λy=>(Qb (Pr<|dU X.prog X.w) y).hash) x hp;rw[List.filter_map,aJ];have this:(xs.filter λy=>(Qb (Pr<|dU X.prog X.w) y).hash==(Qb (Pr<|dU X.prog X.w) x).hash).length<=1:=this;exact Nat.not_lt.mpr this
  show OR _ _ (Builtin.Dict.quietEq (.ref x.2.1)>>=_) _ _ _;refine OJ ?_;unfold Builtin.Dict.quietEq;refine OJ<|SE hT F.slot_tuple_eq.lookup<|OO ?_;rw[Z9<|by decide,Z8 hsz];exact OO ⟨rfl,λe z=>J e<|bA _ z⟩
 .rintro b s' ⟨rfl,_⟩;exact OO h
theorem si{nm:String}{d o:OL}{kvs:List<|List Key×V}{xs:List<|List Key×OL×OK}{Q:Unit->ON->Prop}(ag:d≠o)(af:(o==QK)=false)(hd:s.heap.get? d=some { cls:=.type "dict",data:=.dict #[] })
  (ho:s.heap.DictOfH (Pr<|dU X.prog X.w) o xs) (hp:xs.Pairwise λx y=>(Qb (Pr<|dU X.prog X.w) x).hash≠(Qb (Pr<|dU X.prog X.w) y).hash) (hsz:xs.length<=sizeLine)
  (hQ:∀h',Pq d s.heap h'->(∃od es ep,h'.get? d=some od/\od.ExactDict/\od.data=.dict es ep/\es.toList=xs.map (Qb<|Pr<|dU X.prog X.w))->Q () { s with heap:=h' }):
  OR (OV X.prog X.w) A (Builtin.Dict.mergeDict nm d o) Q E s:=by
 obtain⟨oo,z,aj,aa,ah,J,O,ae,ai⟩:=id ho;unfold Builtin.Dict.mergeDict;rw[Z8<|by simpa using ag];unfold Builtin.Dict.showsAll;rw[Z8<|by rw[af];exact kG];refine OJ<|OO ?_;refine OJ<|R0 aa J ?_;have Z:({ cls:=.type "dict",data:=.dict #[] }:Qc).data=.dict #[] 0:=rfl;dsimp only;cases xs with
 |nil=>
  have h0:z=#[]:=by
   have:z.toList=[]:=O;exact Array.toList_eq_nil_iff.mp this
  subst h0;rw[Z8<|by rw[show(#[]:Array DictEntry).all (λe=>(keyPart e.key).isSome)=true by simp];simp];refine OJ<|wpAny_dictEpoch aa J ?_;refine OJ<|R0 aa J ?_;refine OJ ?_;rw[Std.Legacy.Range.forIn_eq_forIn_range'];refine OO<|OO<|hQ s.heap (R3 _ _) ⟨_,_,_,hd,⟨rfl,rfl,rfl⟩,Z,rfl⟩
 |cons x r=>
  have ad:(z.all λe=>(keyPart e.key).isSome)=false:=by
   rw[<- Array.all_toList,O];rfl
  rw[Z9<|by rw[ad,T1];rfl];refine OJ<|R0 hd Z ?_;rw[Z9<|by rfl];refine OJ<|mH (kvs:=kvs) aa J O ae hp ?_;have U:z.size=(x::r).length:=by rw[<- Af,O,aJ]
  have ac:z.isEmpty=false:=by
   cases e0:z.isEmpty with
   |false=>rfl
   |true=>rw[Array.isEmpty_iff.mp e0] at U;cases U
  rw[Z9<|by rw[ac];rfl];refine OJ<|wpAny_updateDictKeysTo hd Z (OO<|hQ _ (Heap.SameBut.update ..) ⟨_,z,0+1,Px _ hd<|Obj.isFreed_of_dict<|Obj.data_mapDictKeys Z _,(show Obj.ExactDict _ from⟨rfl,rfl,rfl⟩).mapDictKeys _,Obj.data_mapDictKeys Z _,O⟩)<|by lia
theorem lO:jS X (.type "dict") λxs H Q=>L2.X2 λ(p:OL) (kvs:List<|List Key×V)=>xs=[.ref p]/\H p=some (.dT kvs)/\Ka kvs/\∀d,H d=none->Q (.ref d) (upd H d<|.dT kvs):=by
 intro pins s σ H xs us Q I r h;obtain⟨p,kvs,rfl,af,ad,q⟩:=h;obtain⟨u,rfl,rx⟩:=sU r;cases rx;obtain⟨z,ag,xs,kt,dd⟩:=CH I.Uy af;have aw:xs.length=kvs.length:=(R9 kt).symm;have U:(xs.map (·.1)).Nodup:=let ⟨_,_,_,_,_,_,_,_,hn⟩:=dd;hn;have ac:=su (P:=X.prog) (w:=X.w) ad kt U;refine callType_codes (Q₁:=λobj s₁=>obj=.ref s.heap.objs.size/\s₁={ s with heap:=s.heap.push { cls:=.type "dict",data:=.dict #[] } }) F.kt_called_dict (F.kt_typeCall_dict_1 _) F.entry_dict_init (kt_code_dict_new _ ⟨rfl,rfl⟩) ?_;rintro obj s₁ ⟨rfl,rfl⟩;have aa:(s.heap.push { cls:=.type "dict",data:=.dict #[] }).get? s.heap.objs.size=some { cls:=.type "dict",data:=.dict #[] }:=OW _ rfl;have J:∀b o,s.heap.get? b=some o->(s.heap.push { cls:=.type "dict",data:=.dict #[] }).get? b=some o:=λb o hb=>OM _ hb;have hT:Rp { s with heap:=s.heap.push { cls:=.type "dict",data:=.dict #[] } } (.ref s.heap.objs.size) "dict":=⟨_,aa,rfl⟩
 have Z:(s.heap.push { cls:=.type "dict",data:=.dict #[] }).DictOfH (Pr<|dU X.prog X.w) p xs:=by
  obtain⟨o,es,ep,a1,a2,a3,a4,a5,a6⟩:=dd;exact⟨o,es,ep,J _ _ a1,a2,a3,a4,λx hx=>KQ J<|a5 x hx,a6⟩
 obtain⟨oo,as,av,am,ae,ao,ap,aq,au⟩:=id Z;have O:Rp { s with heap:=s.heap.push { cls:=.type "dict",data:=.dict #[] } } (.ref p) "dict":=⟨oo,am,ae.1⟩
 have aj:s.heap.objs.size≠p:=by
  obtain⟨_,_,_,hg,_⟩:=dd;exact λe=>absurd (OQ hg)<|by rw[e];exact vo _
 refine⟨hT,F.args_dict_init_2 _ _,?_⟩;unfold QP.«dict.__init__»;refine OJ ?_;unfold Builtin.Dict.selfAndRest;refine OJ<|wpAny_notOrdered_dict hT ?_;show OR _ _ (pure (s.heap.objs.size,[Value.ref p])) _ _ _;refine OO ?_;show OR _ _ (Q6 "dict.__init__" s.heap.objs.size (.ref p) [] .none) _ _ _;unfold Q6;refine OJ<|Su O ?_;rw[Z8<|by decide];refine OJ ?_;unfold Builtin.Dict.merge;refine OJ ?_;unfold Builtin.Dict.readDirectly;refine OJ<|Qy O isSubtype_dict_dict ?_;simp only[Bool.not_true,BW,if_false];refine OJ<|SE O F.slot_dict_iter.lookup<|OO ?_;simp only[beq_self_eq_true,if_true];refine OJ<|OO ?_;refine si (kvs:=kvs) aj ag aa Z ac (by lia) λh' ah ai=>?_;show OR _ _ (Builtin.Dict.addKeywords s.heap.objs.size []>>=_) _ _ _;refine OJ<|OO<|OO ⟨rfl,?_⟩;obtain⟨od,es,ep,g1,g2,g3,g4⟩:=ai;refine⟨.ref s.heap.objs.size,_,I.laid (h':=h') (t':=s.toks) (o:=.dT kvs) (λb o hb=>(ah.2 b<|fK<|OQ hb).trans<|J _ _ hb) (aK _) ⟨z,?_,xs,kt.keeps λc ys ec=>?_,od,es,ep,g1,g2,g3,g4,U⟩,rfl,q _<|I.Uy.fresh<|aK _⟩
 .have:=I.big;exact beq_eq_false_iff_ne.mpr<|BZ this
 .rw [aO<|aX ec<|I.Uy.fresh<|aK _];exact ec
end
theorem yc{P:OZ}{w:Pp}{K:W.Frag}{mg:Pa->Option OK}{base:Ph}{x:Pa}{f:OL}{fd:Qf}{ps:List Pa}{sp:Nat->Sp}(h0:∀vs H Q E,sp 0 vs H Q E->False)(J:Binds K fd ps [])(z:W.keepIn K (.ref f)=true)(hm:mg x=some (.ref f))
  (step:∀n,Fn P w K mg base aC x n ps (sp n)->aH P w K mg base aC (n+1) f fd ps (sp<|n+1)):∀n,Fn P w K mg base aC x n ps<|sp n
 |0=>⟨f,fd,⟨λvs H Q E h=>(h0 vs H Q E h).elim,λA outer s H args us vs Q E _ _ _ _ h=>(h0 vs H Q E h).elim⟩,J,z,hm⟩
 |n+1=>⟨f,fd,step n<|yc h0 J z hm step n,J,z,hm⟩
end L2
namespace PySem
open Sem (wp)
variable {h':Ph}
structure wH(o o':Qc):Prop where
 fr:o'.isFreed=o.isFreed
 di:o'.dict=o.dict
 th:∀vs,o.data=.fields vs->∃us,o'.data=.fields us/\us[2]?=vs[2]?
theorem wH.refl(o:Qc):wH o o:=⟨rfl,rfl,λvs h=>⟨vs,h,rfl⟩⟩
theorem wH.trans{a b c:Qc}(x:wH a b)(y:wH b c):wH a c:=⟨y.fr.trans x.fr,y.di.trans x.di,λvs h=>by
 obtain⟨us,h1,h2⟩:=x.th vs h;obtain⟨ws,h3,z⟩:=y.th us h1;exact⟨ws,h3,z.trans h2⟩⟩
theorem wH.set{i:Nat}(hi:i≠2)(v:OK)(o:Qc):wH o<|o.mapFields (·.setIfInBounds i v):=by
 unfold Qu;split
 .exact ⟨rfl,rfl,λvs h=>by cases h;exact⟨_,rfl,Q3 hi⟩⟩
 .exact .refl _
def ve(h h':Ph):Prop:=∀b o,h.get? b=some o->∃u,h'.get? b=some u/\wH o u
theorem ve.trans{h k:Ph}(x:ve h h')(y:ve h' k):ve h k:=λb o e=>by
 obtain⟨u,O,J⟩:=x b o e;obtain⟨w,e2,z⟩:=y b u O;exact⟨w,e2,J.trans z⟩
theorem ve.upd(h:Ph)(a:OL){f:Qc->Qc}(z:∀o,wH o<|f o):ve h<|h.update a f:=λb o e=>by
 by_cases q:a=b
 .subst q;exact⟨_,Px f e<|(z o).fr.trans (Heap.get?_some_iff.mp e).2,z o⟩
 .exact ⟨o,(PV h f q).trans e,.refl o⟩
inductive Tame{α:Type}:TF α->Prop
 |pure (a):Tame<|.pure a
 |no (w):Tame<|.unsupported w
 |load {a p k}:(∀o,Tame<|k o)->Tame (.load a p k)
 |upd {a p f k}:(∀o,wH o<|f o)->Tame (k ())->Tame (.update a p f k)
 |new {o k}:(∀a,Tame<|k a)->Tame (.alloc o k)
 |stack {k}:(∀l,Tame<|k l)->Tame (.stack k)
section
variable {α β:Type}{M:Tt}{Γ:Ctx}{A:Pb}{E:OK->ON->Prop}{s:ON}
theorem Tame.wp{t:TF α}(T:Tame t){Q:α->Sq->ON->Prop}{E:OK->Sq->ON->Prop}{p:Sq}:∀{s:ON},wp M Γ t Q E p s->wp M Γ t (λa p z=>Q a p z/\ve s.heap z.heap) E p s:=by
 have go:∀{t:TF α} {s s1:ON},ve s.heap s1.heap->(∀{s:ON},Sem.wp M Γ t Q E p s->Sem.wp M Γ t (λa p z=>Q a p z/\ve s.heap z.heap) E p s)->Sem.wp M Γ t Q E p s1->Sem.wp M Γ t (λa p z=>Q a p z/\ve s.heap z.heap) E p s1:=
  λk J h=>Sem.wp_mono M Γ _ (λ_ _ _ z=>⟨z.1,k.trans z.2⟩) (λ_ _ _ z=>z) _ _<|J h
 induction T with
 |pure=>exact λh=>⟨h,λb o e=>⟨o,e,.refl o⟩⟩
 |no=>exact id
 |load _ J=>exact λ⟨o,e,h⟩=>⟨o,e,J o h⟩
 |upd f _ J=>exact λ⟨e,h⟩=>⟨e,go (ve.upd _ _ f) J h⟩
 |@new o k _ J=>exact fun {s} h=>go (t:=k s.heap.objs.size) (s1:={ s with heap:=s.heap.push o }) (λb u e=>⟨u,OM _ e,.refl u⟩) (J _) h
 |stack _ J=>exact λh=>J _ h
theorem Tame.any{t:TF α}(T:Tame t){Q:α->ON->Prop}(h:OR M A t Q E s):OR M A t (λa z=>Q a z/\ve s.heap z.heap) E s:=λΓ p J=>T.wp<|h Γ p J
theorem Tame.bind{m:TF α}{f:α->TF β}(x:Tame m)(y:∀a,Tame<|f a):Tame<|m>>=f:=by
 show Tame (m.bind f);induction x with
 |pure a=>exact y a
 |no w=>exact .no w
 |load _ ih=>exact .load ih
 |upd h _ ih=>exact .upd h ih
 |new _ ih=>exact .new ih
 |stack _ ih=>exact .stack ih
theorem Tame.ite{c:Prop}[Decidable c]{x y:TF α}(hx:Tame x)(z:Tame y):Tame<|if c then x else y:=by split<;>assumption
theorem Jb(v:OK)(i:Nat):Tame<|field v i:=by
 refine .bind (m:=fieldsOf v) ?_ λa=>?_
 .unfold fieldsOf;split
  .refine .bind (.load λo=>.pure o) λo=>?_;split
   .exact .pure _
   .exact .no _
  .exact .no _
 .split
  .exact .pure _
  .exact .no _
theorem L7{i:Nat}(hi:i≠2)(v x:OK):Tame<|Ul v i x:=by
 unfold Ul;split
 .unfold updateField;refine .bind (.load λo=>.pure o) λo=>?_;split
  .exact .ite (.upd (wH.set hi x)<|.pure _) (.no _)
  .exact .no _
 .exact .no _
theorem rS(l:List RQ):Tame<|readyFrames l:=by
 induction l with
 |nil=>exact .pure _
 |cons env r ih=>
  unfold readyFrames;split
  next f hf=>
   refine .bind (.load λo=>.pure o) λo=>.ite (.pure _)<|.bind ?_ λb=>.bind ?_ λc=>.bind (.upd (λo=>⟨by cases o with|mk a b d c=>cases d<;>rfl,rfl,λvs h=>⟨vs,h,rfl⟩⟩)<|.pure _) λ_=>ih
   .unfold behindIsImport;exact .ite (.pure _)<|.ite (.pure _)<|.bind (Jb _ _) λ_=>.pure _
   .unfold keptBack;split
    .exact .ite (.pure _) (.bind (.bind (.stack λl=>.pure l) λ_=>.pure _) λ_=>.pure _)
    .exact .pure _
  .exact .no _
theorem Le(e:OK)(env:RQ):Tame<|Sj e env:=by
 unfold Sj;split
 next f hf=>
  have rest:∀z b,Tame (do Ul e 1 (<- EntryCells.newEntry z (<- frameOf env) .none (RS f) .none (<- entryPlaceOf f b))):=λz b=>by
   refine .bind ?_ λa=>.bind ?_ λpl=>.bind ?_ λn=>L7 (by decide) _ _
   .unfold frameOf;refine .bind (.bind (.stack λl=>.pure l) λ_=>.pure _) λl=>.bind ?_ λo=>?_
    .unfold frameObject;split
     .exact .pure _
     .exact .bind (rS _) λ_=>.pure _
    .split
     .exact .pure _
     .exact .no _
   .unfold entryPlaceOf;refine .bind (.stack λl=>.pure l) λl=>?_;split<;>exact .pure _
   .unfold EntryCells.newEntry newFields newObj;exact .ite (.bind (.no _) λ_=>.bind (.new λa=>.pure a) λa=>.pure _)<|.bind (.new λa=>.pure a) λa=>.pure _
  refine .bind (Jb _ _) λz=>.ite (.bind (Jb _ _) λy=>.ite (.pure _)<|.bind (L7 (by decide) _ _) λ_=>rest _ _)<|rest _ _
 .exact .no _
theorem jO(e:OK)(o:Option OL):Tame<|setFlight e o:=.bind (Jb _ _) λ_=>.ite (L7 (by decide) _ _)<|.pure _
theorem iF(env:RQ)(e:OK):Tame<|leaving env e:=.bind (Le _ _) λ_=>jO _ _
def Heap.Dx(h:Ph)(e:OL)(d:Option OL):Prop:=L2.X2 λo vs=>h.get? e=some o/\o.data=.fields vs/\o.dict=d/\vs[2]?=some .none
theorem Heap.Dx.kept{h:Ph}{e:OL}{d:Option OL}(x:h.Dx e d)(k:ve h h'):h'.Dx e d:=by
 obtain⟨o,vs,h1,h2,h3,O⟩:=x;obtain⟨u,z,q⟩:=k e o h1;obtain⟨us,J,U⟩:=q.th vs h2;exact⟨u,us,z,J,q.di.trans h3,U.trans O⟩
def Heap.UH(h base:Ph)(e:OL)(cls:OK)(a:OK×Option OL)(fl:OK):Prop:=h.TracedAtW base e cls a.1 fl/\h.Dx e a.2
def Heap.VV(base:Ph)(l:List RQ)(e:OL)(cls:OK)(a:OK×Option OL)(fl:OK)(h:Ph):Prop:=base.StaysIn h/\base.get? e=none/\h.FunFrames base l/\h.UH base e cls a fl
noncomputable abbrev Heap.UC(base:Ph)(l:List RQ)(e:OL)(cls:OK)(a:OK×Option OL)(h:Ph):Prop:=Heap.VV base l e cls a .none h
noncomputable abbrev Heap.WI(base:Ph)(l:List RQ)(e:OL)(cls:OK)(a:OK×Option OL)(L:OL)(h:Ph):Prop:=Heap.VV base l e cls a (RS L) h
theorem Heap.VV.Wb{base h:Ph}{l:List RQ}{e:OL}{cls fl:OK}{a:OK×Option OL}(x:Heap.VV base l e cls a fl h):∃ob,h.get? e=some ob/\ob.cls=cls/\ob.dict=a.2/\∃vs,ob.data=.fields vs/\vs[2]?=some .none:=by
 obtain⟨_,_,_,⟨J,vs,_,_,_,z,hc,_⟩,o,us,h1,h2,h3,O⟩:=x;rw[z] at h1;cases h1;exact⟨J,z,hc.1,h3,us,h2,O⟩
variable {base:Ph}{env:RQ}{l outer:List RQ}{L e:OL}{cls:OK}{a:OK×Option OL}{Q:Unit->ON->Prop}
theorem Tame.go{t:TF Unit}(T:Tame t){P:Ph->Prop}(w:OR M A t (λ_ z=>∃h',z={ s with heap:=h' }/\P h') E s)(J:∀h',P h'->ve s.heap h'->Q () { s with heap:=h' }):OR M A t Q E s:=
 Pj (T.any w) (λ_ _ z=>by
  obtain⟨⟨h',rfl,p⟩,k⟩:=z;exact J h' p k) λ_ _ z=>z
theorem jD(z:A.frames=some (env::outer))(hf:env.frame=some L)(x:Heap.UC base (env::outer) e cls a s.heap)(O:∀h',Heap.UC base outer e cls a h'->s.heap.UpToSlots h'->Q () { s with heap:=h' }):OR M A (leaving env<|.ref e) Q E s:=by
 obtain⟨f1,f2,f3,f4,d⟩:=x;refine(iF _ _).go (P:=λh'=>Heap.FlyingW base outer e cls a.1 h'/\s.heap.UpToSlots h') (wpAny_leaves_onW z hf ⟨f1,f2,f3,f4⟩ λh' y u=>⟨h',rfl,y,u⟩) λh' ⟨⟨U,y2,Z,J⟩,u⟩ k=>O h' ⟨U,y2,Z,J,d.kept k⟩ u
theorem eR(z:A.frames=some (env::outer))(hf:env.frame=some L)(x:Heap.UC base (env::outer) e cls a s.heap)(O:∀h',Heap.WI base (env::outer) e cls a L h'->s.heap.UpToSlots h'->Q () { s with heap:=h' }):OR M A (Sj (.ref e) env) Q E s:=by
 obtain⟨f1,f2,f3,f4,d⟩:=x;refine(Le _ _).go (P:=λh'=>Heap.HeldW base (env::outer) e cls a.1 L h'/\s.heap.UpToSlots h') (wpAny_looks_onW z hf ⟨f1,f2,f3,f4⟩ λh' y u=>⟨h',rfl,y,u⟩) λh' ⟨⟨U,y2,Z,J⟩,u⟩ k=>O h' ⟨U,y2,Z,J,d.kept k⟩ u
theorem bY(z:env.frame=some L)(x:s.heap.UH base e cls a<|RS L)(h:Q () s):OR M A (Sj (.ref e) env) Q E s:=wpAny_noteFrame_againW z x.1 h
theorem Hr{fl:OK}(o:Option OL)(x:Heap.VV base l e cls a fl s.heap)(hQ:∀h',Heap.VV base l e cls a (o.elim .none λf=>RS f) h'->s.heap.UpToSlots h'->Q () { s with heap:=h' }):OR M A (setFlight (.ref e) o) Q E s:=by
 obtain⟨f1,f2,f3,⟨oe,vs,T,oT,ts,he,hc,hd,h1,O,U,hT,J,h3⟩,d⟩:=x;refine(jO _ _).go (P:=λh'=>h'=s.heap.update T (Qu (·.setIfInBounds 3 (o.elim .none λf=>RS f)))) ?_ λh' z k=>?_
 .refine OJ (P0 he hd h1 ?_);show OR M A (Ul (.ref T) 3 _) _ E s;exact Ui hT J (Array.getElem?_eq_some_iff.mp h3).1 ⟨_,rfl,rfl⟩
 .subst z;have Z:∀b u,s.heap.get? b=some u->b≠T->(s.heap.update T<|Qu (·.setIfInBounds 3 (o.elim .none λf=>RS f))).get? b=some u:=λb u h n=>(PV _ _<|OY n).trans h;have nt:∀b u,s.heap.get? b=some u->(∀vs,u.data≠.fields vs)->b≠T:=λb u h n z=>by
   subst z;rw[hT] at h;cases h;exact n ts J
  exact hQ _ ⟨λb u h=>Z b u (f1 b u h) (λz=>by subst z;rw[O] at h;cases h),f2,f3.of_keeps λb u h n=>⟨u,Z b u h<|nt b u h n,rfl⟩,⟨oe,vs,T,_,_,Z e oe he<|OY U,hc,hd,h1,O,U,Px _ hT<|Obj.isFreed_of_fields<|RV J _,RV J _,by
    have:=(Array.getElem?_eq_some_iff.mp h3).1;simp[this]⟩,d.kept k⟩ λb u h n=>⟨u.slots,Z b u h<|nt b u h n⟩
theorem iD{J:Qc}{vs:Array OK}(O:A.frames=some (env::outer))(hl:s.heap.FunFrames base<|env::outer)(hf:env.frame=some L)(Z:s.heap.get? e=some J)(U:base.StaysIn s.heap)(z:base.get? e=none)(hd:J.data=.fields vs)(h1:vs[1]?=some .none)
  (h0:vs[0]?=some a.1/\J.dict=a.2/\vs[2]?=some .none):
  ((∀h',Heap.UC base (env::outer) e J.cls a h'->s.heap.UpToSlots h'->Q () { s with heap:=h' })->OR M A (leaving env<|.ref e) Q E s)/\
  ((∀h',Heap.WI base (env::outer) e J.cls a L h'->s.heap.UpToSlots h'->Q () { s with heap:=h' })->OR M A (Sj (.ref e) env) Q E s):=by
 have d:s.heap.Dx e a.2:=⟨J,vs,Z,hd,h0.2⟩
 refine⟨λhQ=>?_,λhQ=>?_⟩
 .exact (iF _ _).go (P:=λh'=>Heap.LeftW base (env::outer) e J.cls a.1 s.heap h') (wpAny_leaving_firstW O hl hf Z U z hd h1 h0.1 λh' y=>⟨h',rfl,y⟩) λh' ⟨y1,y2,y3,y4⟩ k=>hQ h' ⟨y1,z,y2,y3,d.kept k⟩ y4
 .refine (Le _ _).go (P:=λh'=>Heap.NotedW base (env::outer) e J.cls a.1 (RS L) s.heap h') ?_ λh' ⟨y1,y2,y3,y4⟩ k=>hQ h' ⟨y1,z,y2,y3,d.kept k⟩ y4;unfold Sj;rw[hf];exact OJ<|P0 Z hd h1<|wpAny_entryW O hl hf Z U z hd (Array.getElem?_eq_some_iff.mp h1).1 h0.1 λh' y=>⟨h',rfl,y⟩
end
end PySem
namespace L2
open PySem PySem.Spec PyProof.Rows
variable {X:Cx}{σ:St}{cls:OK}{H H1:Hp}{pins:List (OL×Qc)}{h':Ph}{ea:OL}
theorem aS.ex{P:OZ}{w:Pp}{h:Ph}{a:OL}{o:HO}(x:aS P w H h a o):∃ob,h.get? a=some ob:=by
 cases o with
 |lst xs=>obtain⟨_,_,_,_,e⟩:=x;exact⟨_,e⟩
 |tup xs=>obtain⟨_,_,_,ob,e,_⟩:=x;exact⟨_,e⟩
 |dK kvs=>obtain⟨_,_,_,_,ob,es,ep,e,_⟩:=x;exact⟨_,e⟩
 |dT kvs=>obtain⟨_,_,_,_,ob,es,ep,e,_⟩:=x;exact⟨_,e⟩
 |set S n=>obtain⟨ob,es,ep,t,e,_⟩:=x;exact⟨_,e⟩
 |ins C dx fs=>obtain⟨_,_,_,e,_⟩:=x;exact⟨_,e⟩
 |own y=>obtain⟨_,e⟩:=x;exact⟨_,e⟩
 |xd fs=>obtain⟨_,⟨_,_,_,e,_⟩,_⟩:=x;exact⟨_,e⟩
 |rng lo hi=>obtain⟨_,_,_,e⟩:=x;exact⟨_,e⟩
 |frz ob u=>obtain⟨e,_⟩:=x;exact⟨_,e⟩
 |tbl ps=>exact⟨_,(show h.get? a=some _ from x)⟩
 |met f y=>exact⟨_,(show h.get? a=some _ from x)⟩
 |ext φ=>obtain⟨_,⟨_,e⟩,_⟩:=x;exact⟨_,e⟩
def OI(l:List RQ)(H:Hp)(h0:Ph)(e:OL)(cls:OK)(dd:Option OL)(h:Ph):Prop:=
 ∃B a0,Heap.UC B l e cls (a0,dd) h/\H e=none/\h0.get? e=none/\∀b o,h.get? b=some o->b∉frs l->(H b≠none∨∃o0,h0.get? b=some o0)->B.get? b=some o
noncomputable def jA(P:OZ)(w:Pp):oO:=λouter H s E e s'=>
 ∃ea cls dd H',e=.ref ea/\s'.os=s.os/\QH s'.gens/\Un (frs outer) [] H H' s.heap s'.heap/\dJ P w H' s'.heap/\OI outer H' s.heap ea cls dd s'.heap/\E cls dd H'
section
variable {P:OZ}{w:Pp}{l:List RQ}{H':Hp}{h h1 h2 B base:Ph}
theorem Un.WW(u:Un (frs l) [] H H' h h1)(hB:∀b o,h1.get? b=some o->b∉frs l->(H' b≠none∨∃o0,h.get? b=some o0)->B.get? b=some o)(st:B.StaysIn h2)(up:h1.UpToSlots h2)(hf:h1.FunFrames base l):Un (frs l) [] H H' h h2 where
 keep b o e n hb hx:=st b o<|hB b o (u.keep b o e n hb hx) hb<|.inr ⟨o,e⟩
 slot b o e n hb hx:=by
  obtain⟨sl,z⟩:=u.slot b o e n hb hx;obtain⟨_,o',J,U⟩:=hf.mem hb;rw[z] at J;cases J;obtain⟨Z,e2⟩:=up b _ z U;exact⟨Z,e2⟩
 free:=u.free
 there b o e hx:=by
  obtain⟨o',z⟩:=u.there b o e hx;by_cases hb:b∈frs l
  .obtain ⟨_,o2,O,U⟩:=hf.mem hb;rw[z] at O;cases O;obtain⟨sl,e2⟩:=up b _ z U;exact⟨_,e2⟩
  .exact ⟨o',st b o'<|hB b o' z hb<|.inr ⟨o,e⟩⟩
 UM:=u.UM
 UI:=u.UI
 UN:=u.UN
theorem dJ.WW(x:dJ P w H' h1)(J:∀b o,h1.get? b=some o->b∉frs l->(H' b≠none∨∃O,h.get? b=some O)->B.get? b=some o)(st:B.StaysIn h2)(hn:∀b∈frs l,H' b=none):dJ P w H' h2:=λa o e=>by
 have k:∀b o,H' b=some o->b∉frs l:=λb o z m=>by rw[hn b m] at z;cases z
 refine(x a o e).U1 (λb v hc q=>?_) (λ_ q=>q) λ_ _ q=>q;rcases hc with z|z
 .exact st b v (J b v q (by rw[z];exact k _ _ e)<|.inl<|by rw[z,e];exact λy=>nomatch y)
 .exact st b v (J b v q (k _ _ z)<|.inl<|by rw[z];exact λy=>nomatch y)
theorem Inv.U4{s:ON}(I:Inv X pins σ H s)(u:Un (frs X.stack) [] H H' s.heap h1):∀b∈frs X.stack,H' b=none:=λb z=>by
 obtain⟨_,o,J,_⟩:=I.stack.mem z;exact u.free b o J (I.VB b z) kU
end
section
variable {P:OZ}{w:Pp}{K:W.Frag}{mg:Pa->Option OK}{base:Ph}{N:List Pa}{qual:Pa}{scope:QQ}{f:OL}{cd:OK}{A:Pb}{outer:List RQ}{s:ON}{E:XK}
theorem Ke{H':Hp}{s1 s2:ON}{hm B B':Ph}{a0:OK}{dd:Option OL}(I:Inv (bR (jA P w) P w K mg base N qual scope f cd A outer s H E) pins σ H1 s1)
  (un:Un (frs (bR (jA P w) P w K mg base N qual scope f cd A outer s H E).stack) [] H1 H' s1.heap hm) (aa:dJ P w H' hm)
  (hB:∀b o,hm.get? b=some o->b∉frs (bR (jA P w) P w K mg base N qual scope f cd A outer s H E).stack->(H' b≠none∨∃U,s1.heap.get? b=some U)->B.get? b=some o)
  (ff:hm.FunFrames B' (bR (jA P w) P w K mg base N qual scope f cd A outer s H E).stack) (up:hm.UpToSlots h') (fl:Heap.UC B outer ea cls (a0,dd) h') (Z:H' ea=none) (ae:s1.heap.get? ea=none) (os:s2.os=s1.os) (J:QH s2.gens) (hE:E cls dd H'):
  jA P w outer H s E (.ref ea) { s2 with heap:=h' }:=by
 have fr:=I.U4 un;have af:=un.WW hB fl.1 up ff;have O:=aa.WW hB fl.1 fr;have I2:=I.U8 (s':={ s2 with heap:=h' }) os af O J λb z=>nomatch z;have ad:∀b o,s.heap.get? b=some o->∃o1,s1.heap.get? b=some o1:=λb o q=>I.base.there b o q λz=>nomatch z;refine⟨ea,cls,dd,H',rfl,I2.os,J,I2.base,O,⟨B,a0,fl,Z,?_,λb o ho hb ac=>?_⟩,hE⟩
 .cases q:s.heap.get? ea with
  |none=>rfl
  |some o=>
   obtain⟨o1,h1⟩:=ad ea o q;rw[ae] at h1;cases h1
 .have ag:b∉frs (bR (jA P w) P w K mg base N qual scope f cd A outer s H E).stack:=λm=>by
   rcases bC.mp (I2.UO b m) with z|z
   .rcases ac with y|⟨U,y⟩
    .exact y (by rw[z];exact I2.free)
    .exact absurd (mR (OQ y) I.ok.above) (by rw[z];exact vo _)
   .exact hb z
  have:∃o1,hm.get? b=some o1/\(H' b≠none∨∃U,s1.heap.get? b=some U):=by
   rcases ac with y|⟨U,y⟩
   .obtain ⟨u,hu⟩:=Option.ne_none_iff_exists'.mp y;obtain⟨o1,z⟩:=(aa b u hu).ex;exact⟨o1,z,.inl y⟩
   .obtain ⟨o1,h1⟩:=ad b U y;obtain⟨o2,h2⟩:=un.there b o1 h1 λz=>nomatch z;exact⟨o2,h2,.inr ⟨o1,h1⟩⟩
  obtain⟨o1,q1,q2⟩:=this;have q3:=hB b o1 q1 ag q2;have q4:=fl.1 b o1 q3;rw[ho] at q4;cases q4;exact q3
theorem Ax{H2:Hp}{s1 s2:ON}{oe:Qc}{vs:Array OK}{a0:OK}{dd:Option OL}(I:Inv (bR (jA P w) P w K mg base N qual scope f cd A outer s H E) pins σ H1 s1)
  (un:Un (frs (bR (jA P w) P w K mg base N qual scope f cd A outer s H E).stack) [] H1 H2 s1.heap s2.heap) (Z:dJ P w H2 s2.heap) (os:s2.os=s1.os) (O:QH s2.gens) (U:s1.heap.get? ea=none) (J:H2 ea=none)
  (he:s2.heap.get? ea=some oe) (hc:oe.cls=cls) (hd:oe.dict=dd) (hv:oe.data=.fields vs) (h1:vs[1]?=some .none) (h0:vs[0]?=some a0) (h2:vs[2]?=some .none) (hE:E cls dd H2):
  (bR (jA P w) P w K mg base N qual scope f cd A outer s H E).xe (.ref ea) s2:=by
 have I2:=I.U8 (s':=s2) os un Z O λb z=>nomatch z;have aa:∀env∈(bR (jA P w) P w K mg base N qual scope f cd A outer s H E).stack,∀b,env.frame=some b->b∈ea::frs (bR (jA P w) P w K mg base N qual scope f cd A outer s H E).stack:=λenv he b hb=>bA _<|Fj.mpr ⟨env,he,hb⟩;subst hc;have eh:∀b∈ea::frs (bR (jA P w) P w K mg base N qual scope f cd A outer s H E).stack,(Ql s2.heap<|ea::frs (bR (jA P w) P w K mg base N qual scope f cd A outer s H E).stack).get? b=none:=λb hb=>by
  exact R7 _ hb
 refine(iD (a:=(a0,dd)) (base:=Ql s2.heap<|ea::frs (bR (jA P w) P w K mg base N qual scope f cd A outer s H E).stack) I.ok.frames (PySem.W.funFrames_hide I2.stack aa) rfl he (λb o q=>Sy _ q) (eh ea aU) hv h1 ⟨h0,hd,h2⟩).1 λh' hL k4=>?_;obtain⟨k1,k5,⟨_,_,k2⟩,k3⟩:=hL;refine Ke (s2:=s2) (B:=Ql s2.heap<|ea::frs (bR (jA P w) P w K mg base N qual scope f cd A outer s H E).stack) I un Z (λb o q nb ac=>Sm _ q λz=>?_) I2.stack k4 ⟨k1,k5,k2,k3⟩ J U os O hE;rcases bC.mp z with z|z
 .subst z;rcases ac with y|⟨o0,y⟩
  .exact y J
  .rw [U] at y;cases y
 .exact nb z
end
open PySem PySem.Spec PySem.W PySem.Calls PyProof.Rows Builtin.Getset_descriptor Builtin.ObjectAttr
structure wK(K:W.Frag)(C:OL):Prop where
 ga:W.findIn K (.ref C) "__getattribute__"=some (some<|.builtin "BaseException.__getattribute__")
 gt:W.findIn K (.ref C) "__getattr__"=some none
 ca:W.findIn K (.ref C) "__class__"=some (some<|.builtin "object.__class__")
 sg:RC K (.builtin "object.__class__") "__get__"=some (some<|.builtin "getset_descriptor.__get__")
 tk:Tg K (.builtin "object.__class__")=some true
 mo:RG K C (.type "object")=some true
 mb:RG K C (.type "BaseException")=some true
section
variable {prog:OZ}{w:Pp}{A:Pb}{E:OK->ON->Prop}{K:W.Frag}{a C:OL}{o:Qc}{h:Ph}{g:Array Sn}{d:Drawn}{t:Nat}{os:QO}
theorem Ez{M:Tt}(hx:h.get? a=some o)(hc:o.cls=.ref C):Looks M h (typeOf<|.ref a)<|.ref C:=hc▸(Looks.ld hx).andThen .now
theorem pM{M:Tt}{z:OK}{Q:Unit->ON->Prop}(X:K.In h)(F:wK K C)(hx:h.get? a=some o)(hc:o.cls=.ref C)(J:Q () ⟨h,g,d,t,os⟩):
  OR M A (checkBuiltinCall "BaseException.__getattribute__" ⟨[.ref a,z],[]⟩) Q E ⟨h,g,d,t,os⟩:=by
 have U:=Ez (M:=M) hx hc;have O:=looks_mroIn (M:=M) X F.mb;have k1:builtinKind "BaseException.__getattribute__"=some .slot:=by decide+kernel
 have k2:splitId "BaseException.__getattribute__"=some ("BaseException","__getattribute__"):=by decide+kernel
 have k3:=PySem.F.args_bexc_ga (.ref a) z;simp only[checkBuiltinCall,k1,k2];refine OJ ?_;unfold Ur
 repeat lk
 exact J
end
noncomputable def Jo(a:OL)(cls:OK)(dd:Option OL):HO:=.ext λh=>∃o,h.get? a=some o/\o.cls=cls/\o.dict=dd/\∃vs,o.data=.fields vs
open PySem PySem.Spec PySem.W PySem.Calls PyProof.Rows
section
theorem AU:iW X (PR .Is) λx y H Q=>L2.X2 λb c=>x=.bl b/\y=.bl c/\Q (.bl<|b==c) H:=by
 intro pins s σ H x y v u Q I z J h;obtain⟨b,c,rfl,rfl,q⟩:=h;cases z;cases J;exact is_bool<|gS I q rfl
end
abbrev zR:List OK:=[.type "ValueError",.type "Exception",.type "BaseException",.type "object"]
def xK(E:XK)(C:OL):TS:=λ_ _ H=>E (.ref C) none H
section
variable {P:OZ}{w:Pp}{K:W.Frag}{mg:Pa->Option OK}{base:Ph}{N:List Pa}{qual:Pa}{scope:QQ}{f:OL}{cd:OK}{A:Pb}{outer:List RQ}{s:ON}{E:XK}
theorem aN.XO{x:Pa}{st:Pu}{fd:Qf}{ps:List Pa}{k:Nat}{sp:Sp}(F:aN K x qual st f fd)(S:aA N ps<|aV st)(len:∀vs H Q E,sp vs H Q E->vs.length=ps.length)
  (J:∀(z:OK) (A:Pb) (outer:List RQ) (s:ON) (H:Hp) (vs:List V) (Q:VK) (E:XK),aT k (A.deeper<|Rk qual (aV st) s.heap.objs.size f z)->sp vs H Q E-> ∃t,mP (bR (jA P w) P w K mg base N qual (aV st) f z A outer s H E) (vb st) t/\t { nx:=λ_ H'=>Q .Ux H',rt:=Q } (start N vs) H):aH P w K mg base (jA P w) (k+1) f fd ps sp:=by
 obtain⟨oc,od,kV,Z,pm,an,z,ct,aa,rfl,lk,O⟩:=F.ex;exact Jt lk O S len λA outer s H vs Q E hr U=>J z A outer s H vs Q E hr U
end
theorem PS.Wn{st:Pu}{t:TS}(h:PS X.Wn st t):PS X st t:=λpins s σ H D I hw=>
 Pj (h pins s σ H D (I.UL _) hw) (λ_ _ q=>q.UD) λ_ _ z=>Pl z
def vd(CX:oO)(X:Cx)(E:St->XK):Prop:=∀(pins:List<|OL×Qc) (σ:St) (H:Hp) (s:ON) (e:OK) (s':ON),Inv X pins σ H s->CX X.stack H s (E σ) e s'->X.xe e s'
def J9(sp:Sp)(dvs:List V)(E:St->XK)(t:TA):TE:=λσ H Q=>t σ H λvs H1=>sp (vs++dvs) H1 Q<|E σ
section
variable {CX:oO}{k:Nat}{f:OL}{fd:Qf}{ps:List Pa}{sp:Sp}{dvs:List V}{ds:List OK}{E:St->XK}{x:Pa}{p pos:Sq}{e:PM}{es:List PM}{t:TA}
theorem Av{s:ON}{Q:VK}{E:XK}{us:List OK}{vs:List V}(F:aH X.prog X.w X.K X.mg X.base CX k f fd ps sp)(Z:aT k X.A)(O:Binds X.K fd ps ds)(U:Vals dvs ds)(hx:∀e s',CX X.stack H s E e s'->X.xe e s')
  (I:Inv X pins σ H s) (r:Vals vs us) (h:sp (vs++dvs) H Q E):OR (OV X.prog X.w) X.A (call (.ref f) us) (EP X pins σ Q) X.xe s:=by
 have J:Vals (vs++dvs)<|us++ds:=r.append U;have hl:(us++ds).length=ps.length:=by rw[<- J.length];exact F.len _ _ _ _ h
 refine Q1<|QN (F.run X.A X.stack s H ⟨us,[]⟩ (us++ds) (vs++dvs) Q E Z I.VT (O s us I.UB hl) J h) λr s' z=>?_;cases r with
 |error e=>exact hx e s' z
 |ok fl=>
  cases fl with
  |ret u=>exact I.after z
  |next=>exact Pl z
  |brk=>exact Pl z
  |cont=>exact Pl z
theorem D3(F:Fn X.prog X.w X.K X.mg X.base CX x k ps sp)(hr:aT k X.A)(hg:Gl X x)(hx:vd CX X E)
  (ha:PA X (e::es) t) (U:(x==("__debug__":Pa))=false:=by decide) (he:OU (e::es) X.env=(false,eval e X.env)::OU es X.env:=by rfl) (O:(P5 pos<|OU es X.env).any (·.1)=false:=by rfl):
  PE X (.Call (.Name x p) (e::es) [] pos)<|J9 sp [] E t:=by
 obtain⟨f,fd,h1,h2,h3,h4⟩:=F.ex;intro pins s σ H Q I h;refine Qa<|BE I hg h4 ?_ U;refine Qe (h₀:=X.base) I.ok.mod.Wo h3 (thn (ha pos pins s σ H _ I h) λus s1 Z=>?_) he O;obtain⟨vs,H1,J,r,q⟩:=Z;refine⟨J.UB,?_⟩;exact Av h1 hr h2 .nil (λe s' z=>hx pins σ H1 s1 e s' J z) J r q
end
noncomputable abbrev Cx.tries(X:Cx)(pn:List<|OL×Qc)(xe:OK->ON->Prop):Cx:={ X with pn:=pn,xe:=xe }
noncomputable abbrev Cx.U3(X:Cx)(e:OL)(o:Qc):Cx:={ X with A:=X.A.mark<|some<|.ref e,calm:=false,pn:=(e,o)::X.pn,xe:=λ_ _=>False }
section
variable {pins':List (OL×Qc)}{s:ON}{xe:OK->ON->Prop}{e:OL}
theorem Inv.Xb(I:Inv X pins σ H s):Inv (X.tries (X.pn++pins) xe) [] σ H s:=
 ⟨⟨I.ok.mod,I.ok.kind,I.ok.glob,I.ok.blt,I.ok.above,I.ok.inj,I.ok.has,I.ok.Ww,I.ok.hd,(λv z=>by
  obtain⟨a,o,vs,h1,h2,h3⟩:=I.ok.qt v z;exact⟨a,o,vs,h1,kW _ h2,h3⟩),I.ok.frames,I.ok.WK,I.ok.Xa,I.ok.bs,I.ok.VU,I.ok.VE,I.ok.VM,I.ok.US,I.ok.Wg⟩,I.os,I.bare,I.base,I.loc,I.cell,I.free,I.Uz,λp J=>I.pin p (by simpa using J),I.Uy,I.len⟩
theorem Inv.U5(I:Inv (X.tries (X.pn++pins) xe) pins' σ H s)(ok:X.Ok):Inv X pins σ H s:=
 ⟨ok,I.os,I.bare,I.base,I.loc,I.cell,I.free,I.Uz,λp z=>I.pin p<|kW _ z,I.Uy,I.len⟩
theorem Inv.XA{o:Qc}(I:Inv X pins σ H s)(e:OL)(h1:s.heap.get? e=some o)(h2:H e=none)(h3:e≠X.env.locals)(U:e∉X.fs)(J:∃vs,o.data=.fields vs/\vs[2]?=some .none):Inv (X.U3 e o) pins σ H s:=
 ⟨⟨I.ok.mod,I.ok.kind,I.ok.glob,I.ok.blt,I.ok.above,I.ok.inj,I.ok.has,I.ok.Ww,(λz=>nomatch z),(λv z=>by
  obtain⟨vs,k1,k2⟩:=J;cases(show some (Value.ref e)=some v from z);exact⟨e,o,vs,rfl,aU,k1,k2⟩),I.ok.frames,I.ok.WK,I.ok.Xa,I.ok.bs,I.ok.VU,I.ok.VE,I.ok.VM,I.ok.US,I.ok.Wg⟩,I.os,I.bare,I.base,I.loc,I.cell,I.free,I.Uz,(λp O=>by
  rcases bC.mp (show p∈(e,o)::(X.pn++pins) from O) with z|z
  .subst z;obtain⟨vs,k1,_⟩:=J;exact⟨h1,h2,h3,U,λv y=>by rw[k1] at y;cases y⟩
  .exact I.pin p z),I.Uy,I.len⟩
theorem Inv.Xl{o:Qc}(I:Inv (X.U3 e o) pins σ H s)(ok:X.Ok):Inv X pins σ H s:=⟨ok,I.os,I.bare,I.base,I.loc,I.cell,I.free,I.Uz,λp z=>I.pin p<|bA _ z,I.Uy,I.len⟩
theorem SP.U5{D:Ends}{f:Flow}(h:SP (X.tries (X.pn++pins) xe) pins' D f s)(ok:X.Ok):SP X pins D f s:=by
 cases f with
 |next=>obtain⟨z,H',I,q⟩:=h;exact⟨z,H',I.U5 ok,q⟩
 |brk=>obtain⟨z,H',I,q⟩:=h;exact⟨z,H',I.U5 ok,q⟩
 |cont=>obtain⟨z,H',I,q⟩:=h;exact⟨z,H',I.U5 ok,q⟩
 |ret u=>obtain⟨v,z,H',I,r,q⟩:=h;exact⟨v,z,H',I.U5 ok,r,q⟩
theorem Inv.gone{i t':Nat}{x:Pa}{m:Pa->Option OK}{v:Option OK}(I:Inv X pins σ H s)(hN:X.N.Nodup)(hi:X.N[i]?=some x)(hn:s.heap.Ns X.env.locals m)(ah:h'.Ns X.env.locals λy=>if y=x then v else m y)(J:Pq X.env.locals s.heap h'):
  Inv X pins (σ.set i none) H { s with heap:=h',toks:=t' }:=by
 obtain⟨m0,ad,hl⟩:=I.loc;obtain⟨oL,_,_,am,_⟩:=id hn;have hm:m0=m:=by
  obtain⟨o1,aj,ai,ac,af,_,ag⟩:=ad;obtain⟨o2,ap,ao,aa,Z,_,ae⟩:=hn;rw[ac] at aa;cases aa;rw[af] at Z;cases Z;funext y;rw[<- ag y,<- ae y]
 subst hm;have nL:∀b ob,X.s₀.heap.get? b=some ob->b≠X.env.locals:=λb ob q=>fK<|mR (OQ q) I.ok.above;refine⟨I.ok,I.os,I.bare,⟨λb o q n hb hx=>(J.2 b<|nL b o q).trans<|I.base.keep b o q n hb hx,λb o q n hb hx=>?_,I.base.free,λb o q hx=>?_,I.base.UM,I.base.UI,I.base.UN⟩,⟨_,ah,λj y v' U O q3=>?_⟩,λy c q=>?_,I.free,I.Uz,λp hp=>?_,λb u q=>?_,by simpa using I.len⟩
 .obtain ⟨sl,U⟩:=I.base.slot b o q n hb hx;exact⟨sl,(J.2 b<|nL b o q).trans U⟩
 .obtain ⟨o',U⟩:=I.base.there b o q hx;exact⟨o',(J.2 b<|nL b o q).trans U⟩
 .by_cases hj:j=i
  .subst hj;by_cases hlen:j<σ.length
   .rw [QZ hlen] at O;cases O
   .rw [oP<|by rw[Ae];lia] at O;cases O
  .rw [Rg<|OY hj] at O;obtain⟨u',r',q⟩:=hl j y v' U O q3;refine⟨u',r',?_⟩;rcases q with ⟨k,q⟩|⟨k,c,q,z⟩
   .have:y≠x:=λz=>hj<|IK hN U<|z▸hi;exact .inl ⟨k,by simp[this,q]⟩
   .exact .inr ⟨k,c,q,z.sameBut J<|I.Wt y c q⟩
 .obtain ⟨w',z⟩:=I.cell y c q;exact⟨w',z.sameBut J<|I.Wt y c q⟩
 .obtain ⟨q,n,ne,nf,d⟩:=I.pin p hp;exact⟨(J.2 p.1 ne).trans q,n,ne,nf,d⟩
 .refine (I.Uy b u q).U1 (λc w' hc z=>(J.2 c ?_).trans z) (λ_ z=>z) λ_ _ z=>z;rintro rfl;rcases hc with y|y
  .rw [<- y,I.free] at q;cases q
  .rw [I.free] at y;cases y
end
end L2
namespace PySem
section
variable {M:Tt}{A:Pb}{E:OK->ON->Prop}{s:ON}
theorem mE{env:RQ}{n:Pa}{pos:Sq}{c:OL}{v0:Option OK}{Q:Unit->ON->Prop}(hk:env.scope.kind=.function)(hl:env.kindOf n=some .cell)(hc:env.cells.lookup n=some c)(hv:s.heap.IsCell c v0)
  (h:∀h',h'.IsCell c none->Pq c s.heap h'->Q () { s with heap:=h' }):OR M A (do bindName env n .none;SW env n pos) Q E s:=by
 refine OJ<|wpAny_bindName<|wpAny_storeName_cell hk hl hc hv λaa z J=>?_;unfold SW;refine R4 ?_;unfold unbindName;refine OJ<|wpAny_point<|OJ ?_;unfold deleteName;simp only[hl];refine OJ<|wpAny_cellOf hc<|OJ<|wpAny_cellGet z ?_;rw[Z9<|show(some Value.none).isSome=true from rfl];exact wpAny_cellSet z λZ O U=>wpAny_point<|h Z O<|J.trans U
end
end PySem
namespace L2
open PySem PySem.Spec PySem.W PySem.Calls PyProof.Rows
variable {ta tb:TE}{pos:Sq}{a0 a1 a2 a3 a4 a5:Option V}{f name x:Pa}{i j k:Nat}{e:PM}{w:Pp}{σ:St}{l:List OK}{cls:OK}{v y:V}{Q:VK}{X:Cx}{H:Hp}{s s':ON}{a fI:OL}{P:OZ}{o:Qc}{pins:List (OL×Qc)}{h2:Ph}{dd:Option OL}{pl:TF Bool}
section
theorem Inv.Xh{t':Nat}{c:OL}{h':Ph}(I:Inv X pins σ H s)(hN:X.N.Nodup)(hi:X.N[i]?=some x)(hc:X.env.cells.lookup x=some c)(aa:X.fn x=true)(J:Pq c s.heap h')(ae:h'.IsCell c none):
  Inv X pins (σ.set i none) H { s with heap:=h',toks:=t' }:=by
 obtain⟨m,hn,hl⟩:=id I.loc;obtain⟨w',z⟩:=I.cell x c hc;obtain⟨oc,ad,Z⟩:=id z;have O:∀b o,X.s₀.heap.get? b=some o->b≠c:=λb o e=>fK<|mR (OQ e)<|I.ok.Ww x c aa hc;refine⟨I.ok,I.os,I.bare,⟨λb o e n hb hx=>(J.2 b<|O b o e).trans<|I.base.keep b o e n hb hx,λb o e n hb hx=>?_,I.base.free,λb o e hx=>?_,I.base.UM,I.base.UI,I.base.UN⟩,⟨m,hn.sameBut J<|OY<|I.Wt x c hc,λj y v' U e2 e3=>?_⟩,λy c' e=>?_,I.free,I.Uz,λp hp=>?_,λb ob e=>?_,by simpa using I.len⟩
 .obtain ⟨sl,U⟩:=I.base.slot b o e n hb hx;exact⟨sl,(J.2 b<|O b o e).trans U⟩
 .obtain ⟨o',U⟩:=I.base.there b o e hx;exact⟨o',(J.2 b<|O b o e).trans U⟩
 .by_cases hj:j=i
  .subst hj;by_cases hlen:j<σ.length
   .rw [QZ hlen] at e2;cases e2
   .rw [oP<|by rw[Ae];lia] at e2;cases e2
  .rw [Rg<|OY hj] at e2;obtain⟨u',r',q⟩:=hl j y v' U e2 e3;refine⟨u',r',?_⟩;rcases q with q|⟨k,c',e,z'⟩
   .exact .inl q
   .refine .inr ⟨k,c',e,z'.sameBut J ?_⟩;rintro rfl;exact hj<|IK hN U<|I.ok.inj _ _ _ e hc▸hi
 .by_cases hcc:c'=c
  .subst hcc;exact⟨_,ae⟩
  .obtain ⟨w2,z2⟩:=I.cell y c' e;exact⟨w2,z2.sameBut J hcc⟩
 .obtain ⟨e,n,ne,nf,d⟩:=I.pin p hp;refine⟨(J.2 p.1 ?_).trans e,n,ne,nf,d⟩;intro q;rw[q,ad] at e;have q':oc=p.2:=OS e;exact d w'<|by rw[<- q'];exact Z
 .refine (I.Uy b ob e).U1 (λc2 w2 ac q=>(J.2 c2 ?_).trans q) (λ_ q=>q) λ_ _ q=>q;rintro rfl;rcases ac with y|y
  .rw [<- y,I.Uz x _ hc] at e;cases e
  .rw [I.Uz x _ hc] at y;cases y
theorem IU{M:Tt}{A:Pb}{E:OK->ON->Prop}{n:Pa}{Q:Unit->ON->Prop}(I:Inv X pins σ H s)(hN:X.N.Nodup)(hi:X.N[i]?=some n)(hl:Loc X.env.scope n)(hf:X.fn n=true∨X.env.scope.names.lookup n=some .local)
  (h:∀s',Inv X pins (σ.set i none) H s'->Q () s'):OR M A (do bindName X.env n .none;SW X.env n pos) Q E s:=by
 by_cases WS:X.env.scope.names.lookup n=some .local
 .obtain ⟨m,hn,_⟩:=id I.loc;exact wpAny_nameGoes_keeps WS hn (by rw[I.ok.kind];rfl) λh9 v U z=>h _<|I.gone hN hi hn U z
 .have Z:=hl.resolve_left WS;have O:=hf.resolve_right WS;obtain⟨c,hc⟩:=I.ok.has n<|.inl Z;obtain⟨v,hv⟩:=I.cell n c hc;exact mE I.ok.kind Z hc hv λh9 J z=>h _<|I.Xh (t':=s.toks) hN hi hc O z J
end
noncomputable def HL(K:W.Frag)(HC:OL)(i:Nat)(ts:OL->Qc->TS)(D:Ends):St->XK:=λσ cls dd H'=>exmOne K cls (.ref HC)=some true/\∀ea o,H' ea=none->o.cls=cls->o.dict=dd->(∃vs,o.data=.fields vs)->
 ts ea o { nx:=λσ' H''=>D.nx (σ'.set i none) H'',rt:=D.rt,bk:=λσ' H''=>D.bk (σ'.set i none) H'',ct:=λσ' H''=>D.ct (σ'.set i none) H'' } (σ.set i<|some<|.ref ea) H'
def DC(K:W.Frag)(HC:OL)(i:Nat)(tb:(St->XK)->TS)(ts:OL->Qc->TS):TS:=λD σ H=>tb (HL K HC i ts D) D σ H
theorem AE{body aa:List Pu}{ad:Pu}{n:Pa}{HC:OL}{np aq:Sq}{tb:(St->XK)->TS}{ts:OL->Qc->TS}(aj:X.stack=X.env::X.outer/\X.env.frame=some X.env.locals)(b5:X.ex=[])(hg:Gl X x)(hm:X.mg x=some (.ref HC))
  (hN:X.N.Nodup) (hi:X.N[i]?=some n) (hl:Loc X.env.scope n) (hf:X.fn n=true∨X.env.scope.names.lookup n=some .local)
  (hb:∀(pn:List<|OL×Qc) (xe:OK->ON->Prop) (E:St->XK),vd (jA X.prog X.w) (X.tries pn xe) E->mP (X.tries pn xe) body (tb E)) (hs:∀e o,mP (X.U3 e o) (ad::aa)<|ts e o) (b1:(x==("__debug__":Pa))=false:=by decide):
  PS X (.Try body [.ExceptHandler (some<|.Name x np) (some n) (ad::aa) aq] [] [] pos)<|DC X.K HC i tb ts:=by
 intro pins s σ H D I hw;refine wpAny_Try_except ?_;refine Pj (hb (X.pn++pins) _ (HL X.K HC i ts D) ?_ [] s σ H D I.Xb hw) (λf s1 q=>?_) λe s1 q=>q
 .intro pins' av H1 s1 e s2 I1 hc;obtain⟨ea,cls,dd,H',rfl,os,aw,un,b2,⟨B,a0,fl,ac,Z,hB⟩,b3,hE⟩:=hc;have J:Inv X pins av H1 s1:=I1.U5 I.ok;obtain⟨e1,e2⟩:=aj;have un:Un (frs X.stack) [] H1 H' s1.heap s2.heap:=un;have fr:=J.U4 un;have af:X.A.frames=some (X.env::X.outer):=by rw[<- e1];exact J.ok.frames
  have fl:Heap.UC B (X.env::X.outer) ea cls (a0,dd) s2.heap:=by rw[<- e1];exact fl
  have ff:s2.heap.FunFrames B X.stack:=by rw[e1];exact fl.2.2.1
  have nx:∀h5,Heap.UC B (X.env::X.outer) ea cls (a0,dd) h5->s2.heap.UpToSlots h5->Inv X pins av H' { s2 with heap:=h5 }:=λh5 f5 u5=>J.U8 os (un.WW hB f5.1 u5 ff) (b2.WW hB f5.1 fr) aw λb z=>nomatch z;refine eR af e2 fl λh3 au ap=>?_;refine Hr none au λh4 ag ai=>?_;have I4:=nx h4 ag<|ap.trans ai;obtain⟨ob,ah,az,_,b4⟩:=ag.Wb;have nL:ea≠X.env.locals:=λz=>by
   obtain⟨m,⟨o,_,_,ho,_⟩,_⟩:=J.loc;rw[<- z,Z] at ho;cases ho
  have nF:ea∉X.fs:=λz=>by
   obtain⟨en,m1,m2⟩:=Fj.mp z;obtain⟨_,o,ho,_⟩:=J.stack.mem<|Fj.mpr ⟨en,by rw[e1];exact bA _ m1,m2⟩;rw[Z] at ho;cases ho
  refine wpAny_handleBy_cons (codeAny_handlers_test ?_) (by intro q;cases q);refine BE (X:=X.U3 ea ob) (I4.XA ea ah ac nL nF b4) hg hm ?_ b1;refine(exm_one I4.UB (az▸(Looks.ld ah).andThen .now) b3).here ?_;refine codeAny_handlers_suite_as ?_;refine Hr none ag λh6 as ay=>?_;have I6:=nx h6 as<|(ap.trans ai).trans ay;obtain⟨ob6,ax,ao,U⟩:=as.Wb;refine mW I6 hN hi hl (show RelV (.ref ea) (.ref ea) from rfl) (λs7 I7 b0=>?_) hf;have nC:∀x c,X.env.cells.lookup x=some c->c≠ea:=λx c q z=>by
   obtain⟨v,o,ho,_⟩:=J.cell x c q;rw[z,Z] at ho;cases ho
  have am:s7.heap.get? ea=some ob6:=by
   obtain⟨a,sb,z⟩:=b0;refine(sb.2 ea ?_).trans ax;rcases z with z|z
   .rw [z];exact nL
   .exact OY (nC _ _ z)
  have I8:=I7.XA ea am ac nL nF U.2;refine Pj (hs ea ob6 pins s7 _ _ _ I8<|hE ea ob6 ac ao U.1<|U.2.imp λ_ z=>z.1) (λf s8 q8=>?_) λ_ _ z=>z.elim;cases f with
  |next=>
   obtain⟨ae,H'',O,q⟩:=q8;have O:=O.Xl J.ok;exact IU O hN hi hl hf λ_ J=>⟨_,_,J,q⟩
  |brk=>
   obtain⟨ae,H'',O,q⟩:=q8;have O:=O.Xl J.ok;exact IU O hN hi hl hf λ_ J=>⟨_,_,J,q⟩
  |cont=>
   obtain⟨ae,H'',O,q⟩:=q8;have O:=O.Xl J.ok;exact IU O hN hi hl hf λ_ J=>⟨_,_,J,q⟩
  |ret u=>
   obtain⟨v',ae,H'',O,r,q⟩:=q8;have O:=O.Xl J.ok;exact IU O hN hi hl hf λ_ J=>⟨_,_,_,J,r,q⟩
 .have q':SP X pins D f s1:=q.U5 I.ok;cases f with
  |next=>exact RF q'
  |brk=>exact q'
  |cont=>exact q'
  |ret u=>exact q'
open PySem PySem.Spec PySem.W PySem.Calls PyProof.Rows Builtin.Getset_descriptor Builtin.ObjectAttr
section
variable {prog:OZ}{A:Pb}{E:OK->ON->Prop}{K:W.Frag}{C:OL}{h:Ph}{g:Array Sn}{d:Drawn}{t:Nat}{os:QO}
theorem wc{v:OK}{od:Option Qc}{z:Bool}{Q:OK->ON->Prop}(X:K.In h)(F:wK K C)(I:TB h a o C od)(hf:findObj K C od name=some (.value v))(U:handedIn v=true)(hq:Q v ⟨h,g,d,t+1,os⟩):
  OR (OV prog w) A (getAttr (.ref a) name z) Q E ⟨h,g,d,t,os⟩:=by
 have O:=I.type (M:=OV prog w);have Z:=looks_findIn (M:=OV prog w) X F.ga;have y2:=looks_findIn (M:=OV prog w) X F.gt;have y3:=looks_find (M:=OV prog w) X I hf;have bd:=PySem.F.attr_ValueError.ga.bind<|.ref a;have J:(z&&onTheHeap (Value.builtin "BaseException.__getattribute__"))=false:=by cases z<;>rfl
 simp only[getAttr,getAttrBy];refine OJ<|wpAny_mkText<|Pt<|OJ<|O.at<|OJ<|Z.at ?_;show OR _ _ (getAttrByItsOwn _ _ _ _ _ _) _ _ _;unfold getAttrByItsOwn;refine OJ ?_;show OR _ _ (Sw (.ref C) "__getattr__") _ _ _;refine y2.at<|OJ<|Rn<|Pt ?_;unfold callGetattribute;rw[J];show OR _ _ (boundAndCalled _ _ _) _ _ _;unfold boundAndCalled;rw[bd];refine OJ<|OO<|Q1<|Rw PySem.F.attr_ValueError.ga.plain PySem.F.entry_bexc_ga<|pM X F I.at_ I.cls ?_;unfold QP.«object.__getattribute__»;refine OJ<|OO<|OJ<|OO<|OJ<|O.at<|OJ<|y3.at ?_;refine OO ?_;show OR _ _ (handedOut v) _ _ _;rw[handedOut_of U];exact OO hq
end
open PySem PySem.Spec PySem.W PySem.Calls PyProof.Rows
section
variable {prog:OZ}{A:Pb}{E:OK->ON->Prop}{h:Ph}{g:Array Sn}{d:Drawn}{t:Nat}{os:QO}
variable {nm q:Pa}{C N:OL}{bs bm bmB:List OK}{hdct:Bool}{sn:List Pa}{sub:List OK}{ab:Bool}{col:Option Bool}{k0 k1 k2 k3 k5:Option OK}{B Bn newId nid initId inN:String}{bmN:List OK}
theorem jU(Fn:TR Bn newId inN bmN)(aa:bmB.contains (.type Bn)=true)(F:TR B nid initId bmB)(T:OwnTail h bmB bm){mN:Pa->Option OK}{rest:List OK}{oI:Qc}{Q:Fin->ON->Prop}
  (hC:h.get? C=some (SX nm q C N bs bm hdct sn sub ab col dd k0 k1 k2 k3 k5 newId)) (hn:h.Ns N mN) (hi:mN "__init__"=some (.ref fI)) (ae:h.get? fI=some oI) (ad:oI.cls=.type "function")
  (hq:∀h' e,Heap.MadeExcOf h h' e (.ref C) rest->e=h.objs.size+1->OR (OV prog w) A (call (.ref fI)<|.ref e::rest) (λr s'=>r=.none/\Q (.done<|.ret<|.ref e) s') E ⟨h',g,d,t,os⟩) (hrest:rest.length<=sizeLine:=by size_fits):
  OR (OV prog w) A (QP.«type.__call__» ⟨.ref C::rest,[]⟩) Q E ⟨h,g,d,t,os⟩:=by
 repeat (first|with_reducible refine Rb hC ?_|with_reducible refine wpAny_madeBy_exc hC ?_|wp_step)
 refine codeAny_call_builtin_code (Code.quiet_builtin _ Fn.quiet)<|wpAny_check_new_subU Fn aa T hC ?_;refine codeAny_exc_new_subU Fn aa F T hC ?_ hrest;show OR _ _ _ _ _ _;have Z:∀b o,h.get? b=some o->((h.push { cls:=.type "tuple",data:=.seq rest.toArray }).push { cls:=.ref C,data:=.fields #[.ref h.objs.size,.none,.none,.none,.bool false,.none] }).get? b=some o:=λb o e=>OM _<|OM _ e;have z:=Z _ _ hC;have J:=Z _ _ ae;have U:=hn.keeps Z;have O:((h.push { cls:=.type "tuple",data:=.seq rest.toArray }).push { cls:=.ref C,data:=.fields #[.ref h.objs.size,.none,.none,.none,.bool false,.none] }).get? (h.objs.size+1)=some
   { cls:=.ref C,data:=.fields #[.ref h.objs.size,.none,.none,.none,.bool false,.none] }:=by heap_get
 have af:(Value.ref C::bm).contains (.ref C)=true:=by simp
 have ac:=T.keeps Z;unfold Ur
 repeat (first|with_reducible refine Rb O ?_|(with_reducible refine wpAny_isSubtype_exc z ?_;rw[af])|wp_step)
 show OR _ _ (Sw (.ref C) _) _ _ _;refine wpAny_typeLookup_tail z U ac F.mroIs F.init.lookup ?_;rw[hi];refine Pt<|OJ ?_;unfold bindSpecial;refine OJ<|Su (T:="function") ⟨_,J,ad⟩ ?_;rw[Z9<|by decide];refine OO<|OJ<|Pj (hq _ (h.objs.size+1) ⟨Z,Tc<|lT _,h.objs.size,O,Tc<|aK _,?_⟩ rfl) (λr s' hr=>?_) λ_ _ x=>x
 .exact OM _ (Heap.get?_push_at rfl rfl)
 .obtain ⟨rfl,hQ⟩:=hr
  wp_walk
  exact hQ
theorem lN(Fn:TR Bn newId inN bmN)(J:bmB.contains (.type Bn)=true)(F:TR B nid initId bmB)(T:OwnTail h bmB bm){mN:Pa->Option OK}{rest:List OK}{Z:Qc}{Q:OK->ON->Prop}
  (z:h.get? C=some (SX nm q C N bs bm hdct sn sub ab col dd k0 k1 k2 k3 k5 newId)) (hn:h.Ns N mN) (hi:mN "__init__"=some (.ref fI)) (U:h.get? fI=some Z) (O:Z.cls=.type "function")
  (hq:∀h' e,Heap.MadeExcOf h h' e (.ref C) rest->e=h.objs.size+1->OR (OV prog w) (A.under<|.builtin "type.__call__" ⟨.ref C::rest,[]⟩) (call (.ref fI)<|.ref e::rest) (λr s'=>r=.none/\Q (.ref e) s') E ⟨h',g,d,t,os⟩) (hrest:rest.length<=sizeLine:=by size_fits):
  OR (OV prog w) A (call (.ref C) rest) Q E ⟨h,g,d,t,os⟩:=by
 have f1:=tc_lookup;have f2:=tc_bind<|.ref C;have hT:(⟨h,g,d,t,os⟩:ON).TypeIs (.ref C) "type":=⟨_,z,rfl⟩
 refine Q1<|codeAny_of_tree ?_;show OR _ _ (callAny (.ref C) _) _ _ _
 repeat (any_goals (first|assumption|with_reducible refine Rb z ?_|wp_step))
 refine⟨rfl,?_⟩;refine codeAny_call_builtin_at (Code.quiet_builtin _<|by decide+kernel) entry_typeCall<|wpAny_check_type_call_sub z<|jU (hrest:=hrest) Fn J F T z hn hi U O λh' e hm he=>?_;exact hq h' e hm he
end
section
variable {M:Tt}{A:Pb}{E:OK->ON->Prop}{env:RQ}
variable {nm q:Pa}{C N:OL}{bs bm:List OK}{hdct:Bool}{sn:List Pa}{sub:List OK}{ab:Bool}{col:Option Bool}{k0 k1 k2 k3 k5:Option OK}{newId:String}
theorem jX{x:TF OK}{Q:Flow->ON->Prop}(z:bm.contains (.type "BaseException")=true)(hh:A.handled=none)
  (h:OR M A x (λv s₁=>L2.X3 λe J vs=>v=.ref e/\s₁.heap.get? C=some (SX nm q C N bs bm hdct sn sub ab col dd k0 k1 k2 k3 k5 newId)/\ s₁.heap.get? e=some J/\J.cls=.ref C/\J.data=.fields vs/\vs[1]?=some .none/\E (.ref e) s₁) E s):
  OR M A (raiseStmt env (some x) none) Q E s:=by
 have U:(Value.ref C::bm).contains (.type "BaseException")=true:=by rw[List.contains_cons,z,Bool.or_true]
 unfold raiseStmt;refine OJ<|Pj h (λv s₁ O=>?_) λ_ _ x=>x;obtain⟨e,J,vs,rfl,hC,he,hc,Z,h1,hE⟩:=O;obtain⟨oc,od,ac,aa⟩:=J;dsimp only at hc Z;subst hc Z;obtain⟨hp,g,d,tk,os⟩:=s₁
 repeat (first|with_reducible refine Rb he ?_|with_reducible refine Rb hC ?_|(with_reducible refine wpAny_isSubtype_exc hC ?_;rw[U])|wp_step)
 rw[h1];exact OO<|by rw[Z8<|by decide];exact OO<|wpAny_raiseNew_none hh hE
end
noncomputable def CN(K:W.Frag)(C fI:OL)(bmB:List OK)(newId:String):Bool:=match K.lookup C with
 |none=>false
 |some o=>match o.data with
  |.cls cd=>o.cls==.type "type"&&cd.mro.head?==some (.ref C)&&o.slots.size==6&&o.slots[4]?==some (some<|.builtin newId)&&!cd.hasDel&&tailIn K bmB cd.mro.tail&&nsOkIn K cd.ns&&nsIn K cd.ns "__init__"==some (some<|.ref fI)
  |_=>false
theorem sh{K:W.Frag}{h:Ph}{N:OL}{mg:Pa->Option OK}{n:Pa}{v:OK}(X:K.In h)(G:h.Ns N mg)(e:W.nsIn K N n=some (some v)):mg n=some v:=by
 obtain⟨o,es,ep,z,J,_,O⟩:=G;unfold nsIn at e;split at e
 .rename_i hl;rw[X _ _ hl] at z;cases z;cases J;split at e
  .rename_i y he;rw[<- O];unfold nsFind findBy;rw[<- Array.find?_toList,he];exact(OS e)
  .split at e<;>cases e
 .cases e
theorem DK{α:Type}{l:List α}{x:α}(h:l.length=6)(e:l[4]?=some x):∃k0 k1 k2 k3 k5,l=[k0,k1,k2,k3,x,k5]:=by
 rcases l with _|⟨k0,_|⟨k1,_|⟨k2,_|⟨k3,_|⟨z,_|⟨k5,_|⟨J,l⟩⟩⟩⟩⟩⟩⟩
 case cons.cons.cons.cons.cons.cons.nil=>cases e;exact⟨_,_,_,_,_,rfl⟩
 all_goals simp at h
theorem KO{K:W.Frag}{h:Ph}{C:OL}{bmB:List OK}{newId:String}(X:K.In h)(q:CN K C fI bmB newId=true):L2.MV λbm N nm J bs hdct sn sub ab col dd k0 k1 k2 k3 k5 mN=>
  h.get? C=some (SX nm J C N bs bm hdct sn sub ab col dd k0 k1 k2 k3 k5 newId)/\h.Ns N mN/\mN "__init__"=some (.ref fI)/\OwnTail h bmB bm/\K.lookup C=some (SX nm J C N bs bm hdct sn sub ab col dd k0 k1 k2 k3 k5 newId):=by
 unfold CN at q;cases ho:K.lookup C with
 |none=>rw[ho] at q;cases q
 |some o=>
  rw[ho] at q;obtain⟨oc,dd,dt,⟨sl⟩⟩:=o;cases dt with
  |cls cd=>
   simp only[rN,beq_iff_eq,Bool.not_eq_true'] at q;obtain⟨⟨⟨⟨⟨⟨⟨U,O⟩,y2⟩,y7⟩,y3⟩,y4⟩,Z⟩,y6⟩:=q;obtain⟨nm,bs,z,ns,J,hd,sn,sub,ab,col,aa⟩:=cd;dsimp only at U O y3 y4 Z y6;subst U y3;obtain⟨bm,rfl⟩:∃bm,z=.ref C::bm:=by
    cases z with
    |nil=>cases O
    |cons m bm=>cases O;exact⟨bm,rfl⟩
   obtain⟨k0,k1,k2,k3,k5,rfl⟩:∃k0 k1 k2 k3 k5,sl=[k0,k1,k2,k3,some<|.builtin newId,k5]:=DK (by simpa using y2) (by simpa using y7);have G:h.Ns ns<|h.nsMap ns:=.of_isNs<|isNs_of_in X Z;exact⟨bm,ns,nm,J,bs,hd,sn,sub,ab,col,dd,k0,k1,k2,k3,k5,_,X _ _ ho,G,sh X G y6,tail_of_in X y4,rfl⟩
  |_=>cases q
open PySem PySem.Spec PySem.W PySem.Calls PyProof.Rows Builtin.Getset_descriptor Builtin.ObjectAttr
noncomputable def dD(a:OL)(cls:OK)(dd:Option OL):HO:=.ext λh=>∃o,h.get? a=some o/\o.cls=cls/\o.dict=dd/\∃vs,o.data=.fields vs/\(vs[1]?=some .none/\vs[2]?=some .none)/\∃a0,vs[0]?=some a0
theorem Kk{h:Ph}{vs:Array OK}{a0:OK}(e:h.get? a=some o)(J:o.cls=cls)(e2:o.dict=dd)(e3:o.data=.fields vs)(e4:vs[1]?=some .none/\vs[2]?=some .none)(e5:vs[0]?=some a0):aS P w H h a<|dD a cls dd:=
 ⟨⟨o,e,J,e2,vs,e3,e4,a0,e5⟩,⟨o,e⟩,λh1 h2 ⟨o,z,O⟩ k=>⟨o,k o z,O⟩⟩
theorem II{h:Ph}(x:dJ P w H h)(e:H a=some (dD a cls dd)):L2.X3 λo vs a0=>h.get? a=some o/\o.cls=cls/\o.dict=dd/\o.data=.fields vs/\(vs[1]?=some .none/\vs[2]?=some .none)/\vs[0]?=some a0:=
 let ⟨⟨o,e1,e2,e3,vs,e4,e5,a0,e6⟩,_⟩:=x a _ e;⟨o,vs,a0,e1,e2,e3,e4,e5,e6⟩
theorem xn{o:HO}(h:H a=some o):upd H a o=H:=funext λb=>by
 by_cases z:b=a
 .rw [z,aP,h]
 .rw [aO z]
section
theorem wt(fI:OL):jS X (.builtin "ValueError.__init__") λxs H Q=>L2.X4 λe C dd v=>xs=[.ref e,v]/\H e=some (dD e (.ref C) dd)/\CN X.K C fI zR "ValueError.__new__"=true/\Q .Ux H:=by
 intro pins s σ H xs us Q I r h;obtain⟨e,C,dd,v,rfl,Z,hm,q⟩:=h;obtain⟨u,w',rfl,r1,r2⟩:=CM r;cases(show u=Value.ref e from r1);obtain⟨o,vs,a0,z1,z2,z3,O,z5,U⟩:=II I.Uy Z;have F:=Rl;obtain⟨bm,N',nm,qn,bs,hdct,sn,sub,ab,col,d0,k0,k1,k2,k3,k5,mN,hC,hN,ad,T,ae⟩:=KO I.UB hm;obtain⟨h0,g,d,t,os⟩:=s;refine Q1<|Rw F.init.plain F.initEntry<|wpAny_check_init_subU F T hC z1 z2 ?_;show OR _ _ (do Ub (.ref e) 0 (<- newTuple [w']);ret .none) _ _ _;refine OJ (SV ?_<|by rw[Qr];simp);have z:(h0.push { cls:=.type "tuple",data:=.seq [w'].toArray }).get? e=some o:=OM _ z1;have hsz:0<vs.size:=by
  cases hv:vs.size with
  |zero=>rw[RY<|by lia] at U;cases U
  |succ n=>lia
 unfold Ub;refine OJ<|OJ<|P0 z O U<|OJ<|Ui z O hsz ?_;have h2:((h0.push { cls:=.type "tuple",data:=.seq [w'].toArray }).update e<|Qu (·.setIfInBounds 0 (.ref h0.objs.size))).get? e=some (o.mapFields (·.setIfInBounds 0 (.ref h0.objs.size))):=
  Px _ z (by obtain⟨oc,od,ac,aa⟩:=o;cases O;rfl)
 have fin:∀tk,EP X pins σ Q .none ⟨(h0.push { cls:=.type "tuple",data:=.seq [w'].toArray }).update e<|Qu (·.setIfInBounds 0 (.ref h0.objs.size)),g,d,tk,os⟩:=λtk=>by
  refine⟨.Ux,H,?_,rfl,q⟩;have J:=I.write (x:=e) (e:=e) (o:=dD e (.ref C) dd) (t':=tk) (h':=(h0.push { cls:=.type "tuple",data:=.seq [w'].toArray }).update e<|Qu (·.setIfInBounds 0 (.ref h0.objs.size))) (by rw[Z];exact True.intro) (.inl rfl)
   (λb u hb q=>(QT _ _ _ _ hb).trans<|OM _ q) ⟨_,h2⟩<|Kk (vs:=vs.setIfInBounds 0<|.ref h0.objs.size) (a0:=.ref h0.objs.size) h2 (by rw[Obj.cls_mapFields];exact z2) ((wH.set (by decide) _ _).di.trans z3) (RV O _) ⟨by rw[Q3<|by decide];exact z5.1,by rw[Q3<|by decide];exact z5.2⟩<|by rw[Array.getElem?_setIfInBounds_self_of_lt hsz]
  rw[xn Z] at J;exact J
 cases a0 with
 |ref b=>exact T8<|OO<|fin t
 |_=>exact OO<|OO<|fin t
end
section
variable {C:OL}{np apos:Sq}{es:List PM}{t:TA}{r:List V->Hp->VK->Prop}{id:String}
theorem AO(hc:jS X (.builtin id) r)(hg:Gl X x)(hm:X.mg x=some (.ref C))(z:specialIn X.K (.ref C) "__getattribute__"=some (some<|.builtin "type.__getattribute__"))(hr:readsIn X.K C (.type "type")=true)
  (hf:findCls X.K (.ref C) (.type "type") name=some (.val<|.builtin id)) (hid:handedIn (.builtin id)=true) (ha:PA X (e::es) t) (O:(x==("__debug__":Pa))=false:=by decide)
  (he:OU (e::es) X.env=(false,eval e X.env)::OU es X.env:=by rfl) (J:(P5 pos<|OU es X.env).any (·.1)=false:=by rfl)
  (ht:eval (.Call (.Attribute (.Name x np) name apos) (e::es) [] pos) X.env=(do
   let ov <- eval (.Name x np) X.env
   R1 apos.atName
   let (f,first) <- holding [ov] (Rj ov name pl)
   SY pos f first (P5 pos<|OU (e::es) X.env) (Sk pos<|Q5 [] X.env)):=by rfl):PE X (.Call (.Attribute (.Name x np) name apos) (e::es) [] pos)<|Ge r t:=by
 intro pins s σ H Q I h;refine QX (pl:=pl) (BE I hg hm ?_ O) ht;refine method_cls I.UB z<|cls_value I.UB hr hf hid ?_;refine So (thn (ha pos pins _ σ H _ (I.tok _) h) λus s1 Z=>?_) he J;obtain⟨vs,H1,U,r1,q1⟩:=Z;exact hc pins s1 σ H1 vs us Q U r1 q1
end
def Jk(te:TE):TE:=λσ H Q=>te σ H λx H1=>∃i:Int,x=.int i/\i.natAbs.log2<1920/\∀y,Q (.str y) H1
section
variable {v c1 c2:PM}{s1 s2:Pa}{te:TE}{p:Sq}
theorem D2(h1:PE X c1<|tC<|.str s1)(hv:PE X v te)(h2:PE X c2<|tC<|.str s2)(hl:s1.length<=1000:=by decide)(ad:s2.length<=1000:=by decide):PE X (.JoinedStr [c1,.FormattedValue v (-1) none p,c2] pos)<|Jk te:=by
 intro pins s σ H Q I h;refine JoinedStr_many<|Up<|thn (h1 pins s σ H (λx H1=>x=.str s1/\H1=H) I ⟨rfl,rfl⟩) λu Z z=>?_;obtain⟨y,H1,I1,J,O,e2⟩:=z;subst O e2;obtain⟨tk,rfl⟩:=(show ∃t,u=Value.str s1 t from J)
 refine⟨by rw[strLen_append,Qr];show 0+s1.length<=_;lia,Up<|FormattedValue_plain<|thn (hv pins Z σ H1 _ I1 h) λu2 ac z=>?_⟩;obtain⟨y,H2,I2,J,i,O,hi,q⟩:=z;subst O;obtain⟨af,rfl⟩:=(show ∃t,u2=Value.int i t from J)
 refine formatField_int_small hi ?_;have hz:=int_text_length_le (k:=1920) (by decide) hi;refine⟨by rw[strLen_append,strLen_append,PySem.ofString_length,Qr];show 0+s1.length+_<=_;lia,?_⟩;refine Up<|thn (h2 pins _ σ H2 (λx H1=>x=.str s2/\H1=H2) (I2.tok _) ⟨rfl,rfl⟩) λu ae z=>?_;obtain⟨y,H3,I3,J,O,e2⟩:=z;subst O e2;obtain⟨aa,rfl⟩:=(show ∃t,u=Value.str s2 t from J)
 have U:(RN++s1++QB (toString i)++s2).length<=sizeLine:=by rw[strLen_append,strLen_append,strLen_append,PySem.ofString_length,Qr];show 0+s1.length+_+_<=_;lia
 exact⟨U,joinParts_nil ⟨.str _,_,I3.tok _,⟨_,rfl⟩,q _⟩ U⟩
end
noncomputable def Hh:List OK->Bool
 |.ref c::r=>Hh r
 |l=>l==zR
theorem qD{P:List OK->Prop}(h0:P zR)(h1:∀c r,P r->P (.ref c::r)):∀{l:List OK},Hh l=true->P l:=by
 intro l;induction l with
 |nil=>intro e;cases(beq_iff_eq.mp<|show([]==zR)=true from e)
 |cons v r ih=>
  intro e;cases v with
  |ref c=>exact h1 c r<|ih e
  |_=>
   have e:=beq_iff_eq.mp (show(_::r==zR)=true from e);rw[e];exact h0
theorem vM(self:OK)(e:Hh l=true):refuseLoop self "__setattr__" l=pure ():=
 qD (P:=λl=>refuseLoop self "__setattr__" l=pure ()) (PySem.F.store_ValueError.passes self) (λc r h=>by rw[refuseLoop_ref];exact h) e
theorem qE(e:Hh l=true):l.contains (.type "object")=true/\l.isEmpty=false:=
 qD (P:=λl=>l.contains (.type "object")=true/\l.isEmpty=false) ⟨by decide,rfl⟩ (λc r h=>⟨by rw[List.contains_cons,h.1,Bool.or_true],rfl⟩) e
noncomputable def Km(K:Frag)(C:OL):Bool:=(clsIn K C).any λcd=>Hh cd.mro
section
variable {prog:OZ}{A:Pb}{R:Result->ON->Prop}{K:Frag}{x C:OL}
theorem nM{ox:Qc}{od:Option Qc}{tk:Tok}{v:OK}{r:Option OK}(X:K.In s.heap)(I:InstAt s.heap x ox C od)(hp:Km K C=true)(Z:takerIn K C name=some r)
  (h:∀b,OR (OV prog w) A.in1 (match r with|some a=>setByDescriptor a (.ref x) v|none=>storeInOwnDict (.ref x) (.ref C) (.str name tk) name v b) (λfin s'=>match fin with|Fin.done f=>R (.ok f) s'|Fin.again c'=>c'.quiet=true/\QW (OV prog w) A c' R s') (λe s'=>R (.error e) s') s):
  QW (OV prog w) A (.call (.builtin "object.__setattr__") ⟨[.ref x,.str name tk,v],[]⟩) R s:=by
 have J:=PySem.F.store_object;obtain⟨cd,hc,O⟩:=any_some hp;have ne:cd.mro.isEmpty=false:=(qE O).2;have sub:Looks (OV prog w) s.heap (Ur (.ref x)<|.type "object") true:=I.type.andThen (looks_mroIn X<|by unfold mroIn;rw[hc,Option.bind_some,Z8<|by rw[ne];decide,(qE O).1]);refine Rw J.slot.plain J.entry<|@check_slot (OV prog w) _ _ s "object.__setattr__" "object" "__setattr__" (.ref x) [.str name tk,v] [] _ J.kind J.split sub (J.args (.ref x) (.str name tk) v) ?_;obtain⟨z,ha,U⟩:=Option.bind_eq_some_iff.mp Z;have hm:Looks (OV prog w) s.heap (mroOf<|.ref C) cd.mro:=(looks_clsIn X hc).andThen .now;have L3:Looks (OV prog w) s.heap (storeTaker? z) r:=by
  cases z with
  |none=>cases U;exact .now
  |some a=>
   obtain⟨b,hb,rfl⟩:=zM.mp U;refine(looks_takesIn X hb).andThen ?_;cases b<;>exact .now
 rw[osa_eq,refuse_eq];refine OJ<|OJ<|I.type.here<|OJ<|hm.here ?_;rw[vM _ O];refine OO<|OJ<|I.type.here<|OJ<|(looks_findIn X ha).here<|OJ<|L3.here ?_;exact h _
end
noncomputable def pQ(d:OL)(fs:List<|Pa×V):HO:=.ext λh=>∃mA,h.Ns1 d mA/\∀f,dG (fs.lookup f)<|mA f
theorem xj{h:Ph}{d:OL}{fs:List<|Pa×V}{mA:Pa->Option OK}(n:h.Ns1 d mA)(r:∀f,dG (fs.lookup f)<|mA f):aS P w H h d<|pQ d fs:=
 ⟨⟨mA,n,r⟩,let ⟨o,_,_,e,_⟩:=n;⟨o,e⟩,λh1 h2 ⟨mA,⟨o,es,ep,e,c⟩,r⟩ k=>⟨mA,⟨o,es,ep,k _ e,c⟩,r⟩⟩
structure BH(K:Frag)(C:OL):Prop where
 hd:hasDictIn K C=true
 ov:Km K C=true
 sa:findIn K (.ref C) "__setattr__"=some (some<|.builtin "object.__setattr__")
section
variable {A:Pb}{E:OK->ON->Prop}{C:OL}
theorem Bp{u:OK}{Q:Unit->ON->Prop}(I:Inv X pins σ H s)(e:H a=some (dD a (.ref C) none))(c:BH X.K C)(n:aF X.K C f)(ry:RelV y u)
  (h:∀d s',H d=none->d≠a->Inv X pins σ (upd (upd H d<|pQ d [(f,y)]) a<|dD a (.ref C)<|some d) s'->Q () s'):OR (OV X.prog X.w) A (setAttr (.ref a) f u) Q E s:=by
 obtain⟨o,vs,a0,Z,z2,z3,z4,z5,z6⟩:=II I.Uy e;have J:InstAt s.heap a o C none:=⟨Z,z2,by unfold notCls;rw[z4],by rw[z3];trivial⟩
 refine set_plain I.UB J c.sa<|nM (s:={ s with toks:=s.toks+1 }) (r:=none) I.UB J c.ov n.Wc λb=>?_;obtain⟨cd,hc,ai⟩:=any_some c.hd;obtain⟨oc,od,aq,U⟩:=o;dsimp only at z2 z3 z4;subst z2 z3 z4;refine OJ<|OO<|OJ<|OJ<|Uk (s:={ s with toks:=s.toks+1 }) Z<|OJ<|Looks.here (s:={ s with toks:=s.toks+1 }) (looks_clsIn I.UB hc) ?_;rw[ai];have z:a≠s.heap.objs.size:=fK<|OQ Z;have aa:(s.heap.push { cls:=.type "dict",data:=.dict #[] }).get? a=some ⟨.ref C,none,.fields vs,U⟩:=OM _ Z;rw[Z8<|by decide];show OR _ _ (do
  let d <- alloc { cls:=Value.type "dict",data:=Data.dict #[] }
  update a λo=>{ cls:=o.cls,dict:=some d,data:=o.data,slots:=o.slots }
  dictMade (.ref C) a d) _ _ _
 refine OJ<|wpAny_alloc' ?_;refine OJ<|wpAny_update' aa ?_;refine OO ?_;have ao:((s.heap.push { cls:=.type "dict",data:=.dict #[] }).update a λo=>{ cls:=o.cls,dict:=some s.heap.objs.size,data:=o.data,slots:=o.slots }).get? s.heap.objs.size=some { cls:=.type "dict",data:=.dict #[] }:=
  (QT _ _ _ _<|OY z).trans<|Heap.get?_push_at rfl rfl
 have ae:((s.heap.push { cls:=.type "dict",data:=.dict #[] }).update a λo=>{ cls:=o.cls,dict:=some s.heap.objs.size,data:=o.data,slots:=o.slots }).Ns s.heap.objs.size λ_=>none:=
  ⟨_,#[],_,ao,rfl,λe he=>absurd he (by simp),λ_=>rfl⟩
 have ad:((s.heap.push { cls:=.type "dict",data:=.dict #[] }).update a λo=>{ cls:=o.cls,dict:=some s.heap.objs.size,data:=o.data,slots:=o.slots }).get? a=some ⟨.ref C,some s.heap.objs.size,.fields vs,U⟩:=Px _ aa rfl;show OR _ _ (storeInDict s.heap.objs.size (.str f s.toks) f u) _ _ _;unfold storeInDict newKeyGuard;refine OJ<|OO<|OJ<|wpAny_nsSet1 (Heap.Ns1.of_empty ae) λh' ac hs=>?_;obtain⟨oD,as,au,ah,ag,af⟩:=ac.count<|Within.cons f u Within.nil;refine OJ<|T3 ah (by rw[ag];exact T5<|cX af<|by rw[bS,tD,Qr];lia) ?_;refine OO ?_;have aj:H s.heap.objs.size=none:=I.Uy.fresh<|aK _;have O:∀b ob,b≠a->s.heap.get? b=some ob->h'.get? b=some ob:=λb ob hb q=>(hs.2 b<|fK<|OQ q).trans<|(QT _ _ _ _ hb).trans<|OM _ q;have ap:h'.get? a=some ⟨.ref C,some s.heap.objs.size,.fields vs,U⟩:=(hs.2 a z).trans ad;have am:∀g,dG ([(f,y)].lookup g) (if g=f then some u else none):=λg=>by
  by_cases q:g=f
  .rw [Z9 q,q,List.lookup_cons_self];exact ry
  .rw [Z8 q,BX,show(g==f)=false from by simpa using q];trivial
 have J1:=I.write (x:=a) (e:=a) (o:=dD a (.ref C)<|some s.heap.objs.size) (t':=s.toks+1+1) (h':=(s.heap.update a λo=>{ cls:=o.cls,dict:=some s.heap.objs.size,data:=o.data,slots:=o.slots })) (by rw[e];exact True.intro) (.inl rfl)
  (λb ob hb q=>(QT _ _ _ _ hb).trans q) ⟨_,Px _ Z rfl⟩<|Kk (Px _ Z rfl) rfl rfl rfl z5 z6
 have hsz:(s.heap.update a λo=>{ cls:=o.cls,dict:=some s.heap.objs.size,data:=o.data,slots:=o.slots }).objs.size=s.heap.objs.size:=Heap.size_update ..;have J2:=J1.laid (a:=s.heap.objs.size) (o:=pQ s.heap.objs.size [(f,y)]) (t':=s.toks+1+1) (h':=h') (λb ob q=>?_) (by rw[show({ s with heap:=(s.heap.update a λo=>{ cls:=o.cls,dict:=some s.heap.objs.size,data:=o.data,slots:=o.slots }),toks:=s.toks+1+1 }:ON).heap.objs.size=_ from hsz];exact aK _)<|xj ac am
 .have:=h s.heap.objs.size _ aj (OY z) (by
   have e2:upd (upd H s.heap.objs.size<|pQ s.heap.objs.size [(f,y)]) a (dD a (.ref C)<|some s.heap.objs.size)=upd (upd H a<|dD a (.ref C)<|some s.heap.objs.size) s.heap.objs.size (pQ s.heap.objs.size [(f,y)]):=funext λb=>by
    by_cases q1:b=a
    .rw [q1,aP,aO z,aP]
    .rw [aO q1];by_cases q2:b=s.heap.objs.size
     .rw [q2,aP,aP]
     .rw [aO q2,aO q2,aO q1]
   rw[e2];exact J2)
  exact this
 .by_cases hb:b=a
  .rw [hb] at q⊢;rw[Px _ Z rfl] at q;rw[ap,<- q]
  .exact O b ob hb ((QT _ _ _ _ hb).symm.trans q)
theorem Bo{u:OK}{Q:Unit->ON->Prop}{d:OL}{fs:List<|Pa×V}(I:Inv X pins σ H s)(e:H a=some (dD a (.ref C)<|some d))(ai:d≠a)(ed:H d=some (pQ d fs))(hl:fs.length<1000)(c:BH X.K C)(n:aF X.K C f)(ry:RelV y u)
  (h:∀s',Inv X pins σ (upd H d<|pQ d<|aL f y fs) s'->Q () s'):OR (OV X.prog X.w) A (setAttr (.ref a) f u) Q E s:=by
 obtain⟨o,vs,a0,z1,z2,Z,z4,z5,z6⟩:=II I.Uy e;obtain⟨⟨mA,z,r⟩,_,_⟩:=(show aS X.prog X.w H s.heap d (pQ d fs) from I.Uy d _ ed)
 obtain⟨od,ae,am⟩:=K5 z;have J:InstAt s.heap a o C<|some od:=⟨z1,z2,by unfold notCls;rw[z4],by rw[Z];exact ae⟩
 refine set_plain I.UB J c.sa<|nM (s:={ s with toks:=s.toks+1 }) (r:=none) I.UB J c.ov n.Wc λb=>?_;obtain⟨cd,hc,ad⟩:=any_some c.hd;obtain⟨oc,ao,ah,ag⟩:=o;dsimp only at z2 Z z4;subst z2 Z z4;refine OJ<|OO<|OJ<|OJ<|Uk (s:={ s with toks:=s.toks+1 }) z1<|OJ<|Looks.here (s:={ s with toks:=s.toks+1 }) (looks_clsIn I.UB hc) ?_;rw[ad,Z8<|by decide];refine OO (a:=some d)<|OJ<|OO<|OJ ?_;refine wpAny_nsSet1 (s:={ s with toks:=s.toks+1 }) z λh' U af=>?_;have hw:Within mA<|fs.map (·.1):=λg hg=>by
  have:=r g;cases XI:fs.lookup g with
  |none=>rw[XI] at this;cases hm:mA g with
   |none=>exact absurd hm hg
   |some u=>rw[hm] at this;exact this.elim
  |some v=>exact vn.mpr ⟨(g,v),PN XI,rfl⟩
 obtain⟨oD,aj,ap,O,ac,aa⟩:=U.count<|PySem.Within.cons f u hw;refine OJ<|T3 O (by rw[ac];exact T5<|cX aa<|by rw[bS,aJ,Qr];lia) ?_;refine OO<|h _ ?_;exact I.write (s:=s) (x:=d) (e:=d) (o:=pQ d<|aL f y fs) (t':=s.toks+1+1) (h':=h') (by rw[ed];exact True.intro) (.inl rfl) (λb ob hb q=>(af.2 b hb).trans q) ⟨oD,O⟩ (xj U λg=>by
  rw[pO];by_cases q:g=f
  .rw [Z9 q,Z9 q];exact ry
  .rw [Z8 q,Z8 q];exact r g)
end
def JF(K:Frag)(ta tv:TE)(f:Pa):TS:=λD σ H=>tv σ H λy H1=>ta σ H1 λx H2=>L2.X3 λa C dd=>x=.ref a/\H2 a=some (dD a (.ref C) dd)/\BH K C/\aF K C f/\
 ((dd=none/\∀d,H2 d=none->d≠a->D.nx σ (upd (upd H2 d<|pQ d [(f,y)]) a<|dD a (.ref C)<|some d))∨∃d fs,dd=some d/\d≠a/\H2 d=some (pQ d fs)/\fs.length<1000/\D.nx σ (upd H2 d<|pQ d<|aL f y fs))
theorem uj{o value:PM}{pos':Sq}{tv:TE}(ha:PE X o ta)(hv:PE X value tv)(hs:RM value (some<|.Attribute o f pos') pos.line X.env=pure false):PS X (.Assign [.Attribute o f pos'] value pos)<|JF X.K ta tv f:=by
 intro pins s σ H D I h;refine TY (thn (hv pins s σ H _ I h) λu s1 O=>?_) hs;obtain⟨y,H1,I1,ry,q⟩:=O;refine thn (ha pins s1 σ H1 _ I1 q) λov s2 O=>?_;obtain⟨x,H2,Z,rx,a,C,dd,ex,ea,c,n,J⟩:=O;subst ex;obtain rfl:ov=Value.ref a:=rx;rcases J with ⟨rfl,J⟩|⟨d,fs,rfl,z,ed,hl,J⟩
 .exact Bp Z ea c n ry λd s3 hd z U=>⟨σ,_,U,J d hd z⟩
 .exact Bo Z ea z ed hl c n ry λs3 U=>⟨σ,_,U,J⟩
structure MU(K:Frag)(C f:OL):Prop where
 ii:CN K C f zR "ValueError.__new__"=true
 fn:isFn K (.ref f)=true
 kp:keepIn K (.ref C)=true
section
variable {CX:oO}{f C:OL}{fd:Qf}{ps:List Pa}{sp:Sp}{p:Sq}{es:List PM}{t:TA}{E:XK}
theorem vE{R:OK->ON->Prop}{us:List OK}{vs:List V}(M:MU X.K C f)(F:aH X.prog X.w X.K X.mg X.base CX k f fd ps sp)(hr:aT (k+1) X.A)(hb:Binds X.K fd ps [])
  (hx:rG CX X E) (I:Inv X pins σ H s) (r:Vals vs us) (hz:us.length<=sizeLine)
  (h:∀x,H x=none->sp (.ref x::vs) (upd H x<|dD x (.ref C) none) (λv H2=>v=.Ux/\Q (.ref x) H2) E)
  (fin:∀a H2 s2,s.heap.get? a=none->H a=none->Un (frs X.stack) [] H H2 s.heap s2.heap->dJ X.prog X.w H2 s2.heap->s2.os=s.os->QH s2.gens->Q (.ref a) H2->R (.ref a) s2):
  OR (OV X.prog X.w) X.A (call (.ref C) us) R X.xe s:=by
 obtain⟨bm,N',nm,qn,bs,hdct,sn,sub,ab,col,d0,k0,k1,k2,k3,k5,mN,hC,hN,af,T,ag⟩:=KO I.UB M.ii;obtain⟨oI,ad,aa⟩:∃oI,s.heap.get? f=some oI/\oI.cls=.type "function":=by
  have ht:=beq_iff_eq.mp M.fn;unfold typeIn at ht;obtain⟨o,h1,h2⟩:=zM.mp ht;exact⟨o,I.UB _ _ h1,h2⟩
 obtain⟨h0,g,d,tk,os⟩:=s;refine lN (hrest:=hz) Rl PySem.F.excBase_ValueError.hasB Rl T hC hN af ad aa λh' a hm ha=>?_;obtain⟨t0,ac,_⟩:=hm.there;have O:h0.objs.size<=a:=by rw[ha];exact lT _
 have J:H a=none:=I.Uy.fresh O;have Z:=I.laid (a:=a) (o:=dD a (.ref C) none) (h':=h') (t':=tk) hm.keeps O<|Kk ac rfl rfl rfl ⟨rfl,rfl⟩ rfl;have hq:=h a J;have r2:Vals (V.ref a::vs)<|Value.ref a::us:=.cons rfl r;have hl:(Value.ref a::us).length=ps.length:=by rw[<- r2.length];exact F.len _ _ _ _ hq
 have U:=hb ⟨h',g,d,tk,os⟩ (Value.ref a::us) Z.UB (by rw[gW];exact hl);rw[gW] at U;refine Q1<|QN (F.run _ X.stack ⟨h',g,d,tk,os⟩ _ ⟨Value.ref a::us,[]⟩ (Value.ref a::us) _ _ E (hr.make C us []) (Z.VT.make C us []) U r2 hq) λr s' z=>?_;cases r with
 |error e=>exact hx pins σ _ _ e s' Z z
 |ok fl=>
  cases fl with
  |ret u=>
   obtain⟨v,H2,ho,ae,un,Uy,rv,ev,q3⟩:=z;subst ev;exact⟨rv,fin a H2 s' hm.new J (Un.trans (Un.laid hm.keeps O J) un) Uy ho ae q3⟩
  |next=>exact Pl z
  |brk=>exact Pl z
  |cont=>exact Pl z
def FO(C:OL)(sp:Sp)(E:XK)(t:TA):TE:=λσ H Q=>t σ H λvs H1=>vs.length<=1000/\∀x,H1 x=none->sp (.ref x::vs) (upd H1 x<|dD x (.ref C) none) (λv H2=>v=.Ux/\Q (.ref x) H2) E
end
noncomputable def forget(H:Hp)(a:OL):Hp:=λb=>if b=a then none else H b
theorem zX{b:OL}(h:b≠a):forget H a b=H b:=Z8 h
theorem jR:forget H a a=none:=Z9 rfl
theorem Un.forget{fs:List OL}{H2:Hp}{h:Ph}(u:Un fs [] H H2 h h2)(hn:h.get? a=none)(J:H a=none):Un fs [] H (L2.forget H2 a) h h2 where
 keep:=u.keep
 slot:=u.slot
 free:=λb o q n hx=>by
  rw[zX λz=>by rw[z,hn] at q;cases q];exact u.free b o q n hx
 there:=u.there
 UM:=λb xs q=>by rw[zX<|aX q J];exact u.UM b xs q
 UI:=λb o xs q=>by rw[zX<|aX q J];exact u.UI b o xs q
 UN:=λb ps q=>by
  obtain⟨m,hm⟩:=u.UN b ps q;exact⟨m,by rw[zX<|aX q J];exact hm⟩
theorem dJ.forget{h:Ph}{φ:Ph->Prop}(x:dJ P w H h)(ha:H a=some (.ext φ)):dJ P w (L2.forget H a) h:=λb o q=>by
 by_cases z:b=a
 .rw [z,jR] at q;cases q
 .rw [zX z] at q;refine(x b o q).U1 (λ_ _ _ y=>y) (λc y=>?_) λc xs y=>?_
  .rw [zX λz=>by rw[z,ha] at y;cases y];exact y
  .rw [zX λz=>by rw[z,ha] at y;cases y];exact y
def KD(E:XK)(C:OL)(sp:Sp)(t:TA):TS:=λ_ σ H=>t σ H λvs H1=>vs.length<=1000/\∀x,H1 x=none->sp (.ref x::vs) (upd H1 x<|dD x (.ref C) none) (λv H2=>v=.Ux/\∃dd,H2 x=some (dD x (.ref C) dd)/\E (.ref C) dd (forget H2 x)) E0
open PySem PySem.Spec PySem.W PySem.Calls PyProof.Rows Builtin.Getset_descriptor Builtin.ObjectAttr
structure MB(P:OZ)(w:Pp)(K:W.Frag)(mg:Pa->Option OK)(base:Ph)(CX:oO)(x:Pa)(C:OL)(k:Nat)(ps:List Pa)(sp:Sp):Prop where
 Xd:mg x=some (.ref C)
 ex:∃f fd,aH P w K mg base CX k f fd ps sp/\Binds K fd ps []/\MU K C f
structure C4(K:W.Frag)(C:OL):Prop where
 gs:specialIn K (.ref C) "__getattribute__"=some (some<|.builtin "type.__getattribute__")
 rd:readsIn K C (.type "type")=true
 fc:findCls K (.ref C) (.type "type") "__init__"=some (.val<|.builtin "ValueError.__init__")
section
variable {CX:oO}{ps:List Pa}{sp:Sp}{E:XK}{m:Pa}{C:OL}{p np apos:Sq}{o:PM}{es:List PM}{t:TA}
theorem sH:jS X (.builtin "ValueError.__init__") λxs H Q=>L2.X4 λe C dd v=>xs=[.ref e,v]/\H e=some (dD e (.ref C) dd)/\(∃fI,CN X.K C fI zR "ValueError.__new__"=true)/\Q .Ux H:=by
 intro pins s σ H xs us Q I r h;obtain⟨e,C,dd,v,h1,h2,⟨fI,h3⟩,q⟩:=h;exact wt fI pins s σ H xs us Q I r ⟨e,C,dd,v,h1,h2,h3,q⟩
theorem AN(B:C4 X.K C)(hm:X.mg x=some (.ref C))(U:Gl X x)(ha:PA X (e::es) t)(z:(x==("__debug__":Pa))=false:=by decide)
  (O:OU (e::es) X.env=(false,eval e X.env)::OU es X.env:=by rfl) (J:(P5 pos<|OU es X.env).any (·.1)=false:=by rfl)
  (Z:eval (.Call (.Attribute (.Name x np) "__init__" apos) (e::es) [] pos) X.env=(do
   let ov <- eval (.Name x np) X.env
   R1 apos.atName
   let (f,first) <- holding [ov] (Rj ov "__init__" pl)
   SY pos f first (P5 pos<|OU (e::es) X.env) (Sk pos<|Q5 [] X.env)):=by rfl):
  PE X (.Call (.Attribute (.Name x np) "__init__" apos) (e::es) [] pos)<|Ge (λxs H Q=>L2.X4 λe C dd v=>xs=[.ref e,v]/\H e=some (dD e (.ref C) dd)/\(∃fI,CN X.K C fI zR "ValueError.__new__"=true)/\Q .Ux H) t:=
 AO (pl:=pl) sH U hm B.gs B.rd B.fc (by decide+kernel) ha z O J Z
end
def xN(C:OL)(m:Pa)(sp:Sp)(E:St->XK)(ta:TE)(t:TA):TE:=λσ H Q=>ta σ H λx H1=>L2.X3 λa dx fs=>x=.ref a/\H1 a=some (.ins C dx fs)/\fs.lookup m=none/\t σ H1 λvs H2=>sp (x::vs) H2 Q<|E σ
structure fV(k:Nat)(A:Pb):Prop where
 dp:A.depth+3*k+5<Um
theorem aT.h{k:Nat}{A:Pb}{h:Option OK}(r:aT k A):fV k<|A.mark h:=⟨r.dp⟩
def Qh(A:Pb)(outer:List RQ)(H:Hp)(h:Ph):Prop:=∀v,A.handled=some v->∃a o vs,v=.ref a/\h.get? a=some o/\H a=none/\a∉frs outer/\o.data=.fields vs/\vs[2]?=some .none
theorem Inv.qh(I:Inv X pins σ H s):Qh X.A X.stack H s.heap:=λv e=>by
 obtain⟨a,o,vs,h1,h2,h3,O⟩:=I.ok.qt v e;obtain⟨Z,U,J,q4,_⟩:=I.pin (a,o)<|kW _ h2;exact⟨a,o,vs,h1,Z,U,λz=>(bC.mp<|I.UO a z).elim J q4,h3,O⟩
noncomputable def r9(A:Pb)(h:Ph):List<|OL×Qc:=match A.handled with
 |some (.ref a)=>match h.get? a with
  |some o=>[(a,o)]
  |none=>[]
 |_=>[]
structure rF(P:OZ)(w:Pp)(K:W.Frag)(mg:Pa->Option OK)(base:Ph)(k:Nat)(f:OL)(fd:Qf)(ps:List Pa)(sp:Sp):Prop where
 len:∀vs H Q E,sp vs H Q E->vs.length=ps.length
 run:∀(A:Pb) (outer:List RQ) (s:ON) (H:Hp) (args:Args) (us:List OK) (vs:List V) (Q:VK) (E:XK),fV k A->Qh A outer H s.heap->pP P w K mg base A outer s H->TU s fd args (ps.zip us)->Vals vs us->sp vs H Q E->
  QW (OV P w) A (.call (.ref f) args) (CR aC outer P w H s Q E) s
structure MH(P:OZ)(w:Pp)(K:W.Frag)(mg:Pa->Option OK)(base:Ph)(x:Pa)(k:Nat)(ps:List Pa)(sp:Sp):Prop where
 ex:∃f fd,rF P w K mg base k f fd ps sp/\Binds K fd ps []/\W.keepIn K (.ref f)=true/\mg x=some (.ref f)
noncomputable def HS(P:OZ)(w:Pp)(K:W.Frag)(mg:Pa->Option OK)(base:Ph)(N:List Pa)(qual:Pa)(scope:QQ)(f:OL)(cd:OK)(A:Pb)(outer:List RQ)(s:ON)(H:Hp)(E:XK):Cx:=
 { bR aC P w K mg base N qual scope f cd { A with handled:=none } outer s H E with A:=A.deeper<|Rk qual scope s.heap.objs.size f cd,calm:=false,pn:=r9 A s.heap,xe:=λ_ _=>False }
section
variable {K:W.Frag}{mg:Pa->Option OK}{base:Ph}{N ps:List Pa}{qual:Pa}{scope:QQ}{f:OL}{cd:OK}{A:Pb}{outer:List RQ}{s1:ON}{E:XK}{us:List OK}{vs:List V}
theorem sr(S:aA N ps scope)(hq:Qh A outer H s.heap)(O:pP P w K mg base A outer s H)(hl:vs.length=ps.length)(r:Vals vs us)
  (x:InCallC s s.heap.objs.size (Us (Rk qual scope s.heap.objs.size f cd).kindOf (ps.zip us) λ_=>none) (Qd (s.heap.objs.size+1) scope.names []) (Ut (Rk qual scope s.heap.objs.size f cd).kindOf (ps.zip us) λ_=>none) s1):
  Inv (HS P w K mg base N qual scope f cd A outer s H E) [] (start N vs) H s1:=by
 have I:=nQ (CX:=aC) (A:={ A with handled:=none }) (E:=E) S rfl ⟨O.frames,O.mod,O.bs,O.VU,O.US,O.Wg,O.Uy,O.bare⟩ hl r x;exact⟨⟨I.ok.mod,I.ok.kind,I.ok.glob,I.ok.blt,I.ok.above,I.ok.inj,I.ok.has,I.ok.Ww,(λz=>nomatch z),(λv e=>by
  have e:A.handled=some v:=e;obtain⟨a,o,vs,h1,h2,h3,Z,U,h6⟩:=hq v e;subst h1;refine⟨a,o,vs,rfl,?_,U,h6⟩;show(a,o)∈r9 A s.heap;unfold r9;rw[e];dsimp only;rw[h2];exact aU),Around.frames_deeper O.frames,I.ok.WK,I.ok.Xa,I.ok.bs,I.ok.VU,I.ok.VE,I.ok.VM,I.ok.US,I.ok.Wg⟩,I.os,I.bare,I.base,I.loc,I.cell,I.free,I.Uz,(λp J=>by
  have J:p∈r9 A s.heap:=by simpa using (show p∈r9 A s.heap++[] from J)
  cases e:A.handled with
  |none=>unfold r9 at J;rw[e] at J;cases J
  |some v=>
   obtain⟨a,o,vs,h1,h2,h3,Z,U,h6⟩:=hq v e;subst h1;unfold r9 at J;rw[e] at J;dsimp only at J;rw[h2] at J;cases bD.mp J;exact⟨x.toInCall.keep _ _ h2,h3,fK<|OQ h2,Z,λv y=>by rw[U] at y;cases y⟩),I.Uy,I.len⟩
end
section
variable {ps:List Pa}{sp:Sp}{p:Sq}{es:List PM}{t:TA}
theorem D4(F:MH X.prog X.w X.K X.mg X.base x k ps sp)(hr:fV k X.A)(hg:Gl X x)(ha:PA X (e::es) t)(U:(x==("__debug__":Pa))=false:=by decide)(he:OU (e::es) X.env=(false,eval e X.env)::OU es X.env:=by rfl)(O:(P5 pos<|OU es X.env).any (·.1)=false:=by rfl):
  PE X (.Call (.Name x p) (e::es) [] pos)<|GW sp [] E0 t:=by
 obtain⟨f,fd,h1,h2,h3,h4⟩:=F.ex;intro pins s σ H Q I h;refine Qa<|BE I hg h4 ?_ U;refine Qe (h₀:=X.base) I.ok.mod.Wo h3 (thn (ha pos pins s σ H _ I h) λus s1 zz=>?_) he O;obtain⟨vs,H1,z,r,q⟩:=zz;refine⟨z.UB,?_⟩;have q':sp vs H1 Q E0:=by rw[<- gW vs];exact q
 have hl:us.length=ps.length:=by rw[<- r.length];exact h1.len _ _ _ _ q'
 have Z:=h2 s1 us z.UB (by rw[gW];exact hl);rw[gW] at Z;refine Q1<|QN (h1.run X.A X.stack s1 H1 ⟨us,[]⟩ us vs Q E0 hr z.qh z.VT Z r q') λr s' J=>?_;cases r with
 |error e=>exact Pl J
 |ok fl=>
  cases fl with
  |ret u=>exact z.after J
  |next=>exact Pl J
  |brk=>exact Pl J
  |cont=>exact Pl J
end
def IE(K:W.Frag)(a:OL)(o:Qc)(ta:TE)(f:Pa):TE:=λσ H Q=>ta σ H λx H1=>L2.X4 λC d fs v=>x=.ref a/\(o.cls=.ref C/\o.dict=some d/\∃vs,o.data=.fields vs)/\H1 d=some (pQ d fs)/\wK K C/\Py K C=true/\W.findIn K (.ref C) f=some none/\fs.lookup f=some v/\Q v H1
theorem yo(hp:(a,o)∈X.pn)(he:PE X e ta)(hb:Ro e f X.env (eval e X.env)=eval e X.env):PE X (.Attribute e f pos)<|IE X.K a o ta f:=by
 intro pins s σ H Q I h;refine uZ hb<|thn (he pins s σ H _ I h) λu s1 zz=>?_;obtain⟨x,H1,z,rx,C,d,fs,v,ex,⟨z2,Z,vs,z4⟩,ed,F,hd,hn,l,q⟩:=zz;subst ex;obtain rfl:u=Value.ref a:=rx;have z1:=(z.pin (a,o)<|kW _ hp).1;obtain⟨⟨mA,O,r⟩,_,_⟩:=(show aS X.prog X.w H1 s1.heap d (pQ d fs) from z.Uy d _ ed)
 obtain⟨od,U,hl⟩:=K5 O;obtain⟨u',hu,ru⟩:=dG.some_of (v:=v) (o:=mA f) (by rw[<- l];exact r f);have J:TB s1.heap a o C<|some od:=⟨z1,z2,by unfold notCls;rw[z4],by rw[Z];exact U⟩
 obtain⟨hh,g,dd,t,os⟩:=s1;exact wc z.UB F J (PySem.W.findObj_own hd hn rfl<|by rw[hl,hu]) (nU ru) ⟨v,H1,z.tok _,ru,q⟩
theorem K6(K:W.Frag)(O:(a,o)∈X.pn)(z:PE X e ta)(J:Ro e f X.env (eval e X.env)=eval e X.env)(h:X.K=K:=by rfl):PE X (.Attribute e f pos)<|IE K a o ta f:=h▸yo O z J
def xw(K:W.Frag)(ta:TE)(f:Pa):TE:=λσ H Q=>ta σ H λx H1=>L2.X5 λa C d fs v=>x=.ref a/\(H1 a=some (Jo a (.ref C)<|some d)∨H1 a=some (dD a (.ref C)<|some d))/\H1 d=some (pQ d fs)/\wK K C/\Py K C=true/\W.findIn K (.ref C) f=some none/\fs.lookup f=some v/\Q v H1
open PySem PySem.Spec PySem.W PySem.Calls PyProof.Rows
def XF(X:Cx)(E:XK):OK->ON->Prop:=λe s'=>L2.MW λ(pins:List<|OL×Qc) (σ:St) (H1:Hp) (s1:ON) (ea:OL) (cls:OK) (dd:Option OL) (H':Hp) (B:Ph) (a0:OK) (fl:OK)=>
 e=.ref ea/\Inv X pins σ H1 s1/\s'.os=s1.os/\QH s'.gens/\Un (frs X.stack) [] H1 H' s1.heap s'.heap/\dJ X.prog X.w H' s'.heap/\H' ea=none/\s1.heap.get? ea=none/\
 (fl=.none∨fl=RS X.env.locals)/\B.StaysIn s'.heap/\B.get? ea=none/\s'.heap.FunFrames B X.stack/\s'.heap.UH B ea cls (a0,dd) fl/\
 (∀b o,s'.heap.get? b=some o->b∉frs X.stack->(H' b≠none∨∃o0,s1.heap.get? b=some o0)->B.get? b=some o)/\E cls dd H'
section
variable {E:XK}
theorem XF.next{H1 H':Hp}{s1:ON}{ea:OL}{B:Ph}{a0 fl:OK}(I:Inv X pins σ H1 s1)(os:s'.os=s1.os)(O:QH s'.gens)(un:Un (frs X.stack) [] H1 H' s1.heap s'.heap)(U:dJ X.prog X.w H' s'.heap)(J:H' ea=none)(aa:s1.heap.get? ea=none)
  (ff:s'.heap.FunFrames B X.stack) (hB:∀b o,s'.heap.get? b=some o->b∉frs X.stack->(H' b≠none∨∃o0,s1.heap.get? b=some o0)->B.get? b=some o) (hE:E cls dd H') (ac:fl=.none∨fl=RS X.env.locals)
  (up:s'.heap.UpToSlots h2) (k1:B.StaysIn h2) (k2:B.get? ea=none) (k3:h2.FunFrames B X.stack) (k4:h2.UH B ea cls (a0,dd) fl):XF X E (.ref ea) { s' with heap:=h2 }:=by
 refine⟨pins,σ,H1,s1,ea,cls,dd,H',B,a0,fl,rfl,I,os,O,un.WW hB k1 up ff,U.WW hB k1<|I.U4 un,J,aa,ac,k1,k2,k3,k4,λb o ho nb Z=>?_,hE⟩;have:∃o1,s'.heap.get? b=some o1:=by
  rcases Z with y|⟨o0,y⟩
  .obtain ⟨u,hu⟩:=Option.ne_none_iff_exists'.mp y;exact(U b u hu).ex
  .exact un.there b o0 y (λz=>nomatch z)
 obtain⟨o1,h1⟩:=this;have h3:=hB b o1 h1 nb Z;have h4:=k1 b o1 h3;rw[ho] at h4;cases h4;exact h3
theorem Gx(z:X.stack=X.env::X.outer/\X.env.frame=some X.env.locals):PassesOwn (OV X.prog X.w) X.A X.env<|XF X E:=by
 intro e s' hx;obtain⟨pins,σ,H1,s1,ea,cls,dd,H',B,a0,fl,rfl,I,os,O,un,ac,J,U,ad,f1,f2,f3,f4,hB,hE⟩:=hx;have af:X.A.frames=some (X.env::X.outer):=by rw[<- z.1];exact I.ok.frames
 have back:∀h2,s'.heap.UpToSlots h2->B.StaysIn h2->h2.FunFrames B X.stack->h2.UH B ea cls (a0,dd) (RS X.env.locals)->cameBackBy (OV X.prog X.w) X.A X.env (XF X E) (.ref ea) { s' with heap:=h2 }:=λh2 up k1 k3 Z=>by
  obtain⟨⟨oe,vs,T,oT,ts,he,ae,hd,h1,_⟩,_⟩:=id Z;show OR _ _ (do
   if (<- field (.ref ea) 1)==.none then unsupported "frame.own-activation:exception-without-traceback"
   setFlight (.ref ea) X.env.frame) _ _ _
  refine OJ<|P0 he hd h1 ?_;rw[Z8 (show ¬ ((Value.ref T==Value.none)=true) from by simp),z.2];refine Hr (some X.env.locals) ⟨k1,f2,k3,Z⟩ λhh ⟨m1,_,m2,m3⟩ m4=>?_;have aa:s'.heap.UpToSlots hh:=up.trans m4;have:=XF.next (s':=s') (h2:=hh) I os O un ac J U f3 hB hE (.inr rfl) aa m1 f2 m2 m3;exact this
 rcases ad with rfl|rfl
 .have ff:Heap.UC B (X.env::X.outer) ea cls (a0,dd) s'.heap:=⟨f1,f2,by rw[<- z.1];exact f3,f4⟩
  refine eR af z.2 ff λh2 hH up=>?_;obtain⟨k1,_,k3,Z⟩:=hH;exact back h2 up k1 (by rw[z.1];exact k3) Z
 .refine bY z.2 f4 ?_;exact back s'.heap (λb o hb hn=>⟨o.slots,hb⟩) f1 f3 f4
end
section
variable {K:W.Frag}{mg:Pa->Option OK}{base:Ph}{N:List Pa}{qual:Pa}{scope:QQ}{f:OL}{cd:OK}{A:Pb}{outer:List RQ}{E:XK}
theorem XF.xe{e:OK}(hx:XF (bR (jA P w) P w K mg base N qual scope f cd A outer s H E) E e s'):(bR (jA P w) P w K mg base N qual scope f cd A outer s H E).xe e s':=by
 obtain⟨pins,σ,H1,s1,ea,cls,dd,H',B,a0,fl,rfl,I,os,J,un,Z,z,O,U,f1,f2,f3,f4,hB,hE⟩:=hx;rcases U with rfl|rfl
 .exact jD (base:=B) I.ok.frames rfl ⟨f1,f2,f3,f4⟩ λh' fl' up=>Ke I un Z hB f3 up fl' z O os J hE
 .show OR _ _ (leaving _ _) _ _ _;unfold leaving;refine OJ<|bY rfl f4 ?_;refine Hr none ⟨f1,f2,f3,f4⟩ λh' U up=>?_;obtain⟨k1,k2,⟨_,_,k3⟩,k4⟩:=U;exact Ke I un Z hB f3 up ⟨k1,k2,k3,k4⟩ z O os J hE
end
noncomputable def HK(K:W.Frag)(HC:OL)(ts:TS)(D:Ends):St->XK:=λσ cls dd H'=>exmOne K cls (.ref HC)=some true/\ts D σ H'
def B2(K:W.Frag)(HC:OL)(tb:(St->XK)->TS)(ts:TS):TS:=λD σ H=>tb (HK K HC ts D) D σ H
open PySem PySem.Spec PySem.W PySem.Calls PyProof.Rows
def XN(X:Cx)(E:XK):OK->ON->Prop:=λe s'=>L2.X9 λ(pins:List<|OL×Qc) (σ:St) (H1:Hp) (s1:ON) (ea:OL) (oe:Qc) (vs:Array OK) (a0:OK) (H':Hp)=>
 e=.ref ea/\Inv X pins σ H1 s1/\s'.os=s1.os/\QH s'.gens/\Un (frs X.stack) [] H1 H' s1.heap s'.heap/\dJ X.prog X.w H' s'.heap/\H' ea=none/\s1.heap.get? ea=none/\
 s'.heap.get? ea=some oe/\oe.data=.fields vs/\(vs[1]?=some .none/\vs[2]?=some .none)/\vs[0]?=some a0/\E oe.cls oe.dict H'
def XG(X:Cx)(E:XK):OK->ON->Prop:=λe s'=>XF X E e s'∨XN X E e s'
section
variable {E:XK}
theorem D7(J:X.stack=X.env::X.outer/\X.env.frame=some X.env.locals):PassesOwn (OV X.prog X.w) X.A X.env<|XG X E:=by
 intro e s' hx;have wk:∀e s',cameBackBy (OV X.prog X.w) X.A X.env (XF X E) e s'->cameBackBy (OV X.prog X.w) X.A X.env (XG X E) e s':=λe s' h=>
  Pj h (λ_ _ z=>.inl z) λ_ _ z=>.inl z
 rcases hx with hx|hx
 .exact Pj (Gx J e s' hx) (λ_ s2 z=>wk _ _ z) λ_ _ z=>wk _ _ z
 obtain⟨pins,σ,H1,s1,ea,oe,vs,a0,H',rfl,I,os,U,un,aa,O,Z,he,hv,h1,h0,hE⟩:=hx;have af:X.A.frames=some (X.env::X.outer):=by rw[<- J.1];exact I.ok.frames
 have I2:=I.U8 (s':=s') os un aa U λb z=>nomatch z;have ae:∀env∈X.stack,∀b,env.frame=some b->b∈ea::frs X.stack:=λenv he b hb=>bA _<|Fj.mpr ⟨env,he,hb⟩;have eh:∀b∈ea::frs X.stack,(Ql s'.heap<|ea::frs X.stack).get? b=none:=λb hb=>R7 _ hb;have ff:=PySem.W.funFrames_hide I2.stack ae;have hB:∀b o,s'.heap.get? b=some o->b∉frs X.stack->(H' b≠none∨∃o0,s1.heap.get? b=some o0)->(Ql s'.heap<|ea::frs X.stack).get? b=some o:=λb o q nb aj=>Sm _ q λz=>by
  rcases bC.mp z with z|z
  .subst z;rcases aj with y|⟨o0,y⟩
   .exact y O
   .rw [Z] at y;cases y
  .exact nb z
 refine(iD (a:=(a0,oe.dict)) (base:=Ql s'.heap<|ea::frs X.stack) af (by rw[<- J.1];exact ff) J.2 he (λb o q=>Sy _ q) (eh ea aU) hv h1.1 ⟨h0,rfl,h1.2⟩).2 λh2 hH up=>?_;obtain⟨k1,k2,k3,k4⟩:=hH;refine wk _ _ ?_;obtain⟨⟨ao,ap,T,oT,ts,ah,ac,ai,ad,_⟩,_⟩:=id k4;show OR _ _ (do
  if (<- field (.ref ea) 1)==.none then unsupported "frame.own-activation:exception-without-traceback"
  setFlight (.ref ea) X.env.frame) _ _ _
 refine OJ<|P0 ah ai ad ?_;rw[Z8 (show ¬ ((Value.ref T==Value.none)=true) from by simp),J.2];have am:h2.FunFrames (Ql s'.heap<|ea::frs X.stack) X.stack:=by
  have z:=k3;rw[<- J.1] at z;exact z
 refine Hr (some X.env.locals) ⟨k1,k2,am,k4⟩ λhh ⟨m1,_,m2,m3⟩ m4=>?_;have ag:s'.heap.UpToSlots hh:=up.trans m4;exact XF.next (s':=s') (h2:=hh) I os U un aa O Z ff hB hE (.inr rfl) ag m1 k2 m2 m3
end
section
variable {K:W.Frag}{mg:Pa->Option OK}{base:Ph}{N:List Pa}{qual:Pa}{scope:QQ}{f:OL}{cd:OK}{A:Pb}{outer:List RQ}{E:XK}
theorem XG.xe{e:OK}(hx:XG (bR (jA P w) P w K mg base N qual scope f cd A outer s H E) E e s'):(bR (jA P w) P w K mg base N qual scope f cd A outer s H E).xe e s':=by
 rcases hx with hx|hx
 .exact hx.xe
 obtain⟨pins,σ,H1,s1,ea,oe,vs,a0,H',rfl,I,os,J,un,U,z,O,he,hv,h1,h0,Z⟩:=hx;exact Ax I un U os J O z he rfl rfl hv h1.1 h0 h1.2 Z
theorem PS.XQ{st:Pu}{t:TS}(h:PS ((bR (jA P w) P w K mg base N qual scope f cd A outer s H E).UL<|XG (bR (jA P w) P w K mg base N qual scope f cd A outer s H E) E) st t):PS (bR (jA P w) P w K mg base N qual scope f cd A outer s H E) st t:=λpins s1 σ H1 D I hw=>
 Pj (h pins s1 σ H1 D (I.UL _) hw) (λ_ _ q=>q.UD) λ_ _ z=>z.xe
end
section
variable {E:XK}{CX:oO}{C:OL}{ps:List Pa}{sp:Sp}{np cpos:Sq}{es:List PM}{t:TA}
theorem vH(F:MB X.prog X.w X.K X.mg X.base CX x C k ps sp)(hr:aT (k+1) X.A)(hc:X.calm=true)(hg:Gl X x)(hx:rG CX (X.UL<|XG X E) E0)
  (ha:PA (X.UL<|XG X E) (e::es) t) (ac:(x==("__debug__":Pa))=false:=by decide) (he:OU (e::es) X.env=(false,eval e X.env)::OU es X.env:=by rfl) (aa:(P5 cpos<|OU es X.env).any (·.1)=false:=by rfl):
  PS (X.UL<|XG X E) (.Raise (some<|.Call (.Name x np) (e::es) [] cpos) none pos)<|KD E C sp t:=by
 obtain⟨fI,fd,F,hb,M⟩:=F.ex;rename_i F0;intro pins s1 σ H1 D I h;obtain⟨bm,N',nm,qn,bs,hdct,sn,sub,ab,col,d0,k0,k1,k2,k3,k5,mN,hC,hN,ae,T,ad⟩:=KO I.UB M.ii;rw[arm_exec_Raise];simp only[evalOpt,Option.map];refine OJ<|Rm<|jX (C:=C) (nm:=nm) (q:=qn) (N:=N') (bs:=bs) (bm:=bm) (hdct:=hdct) (sn:=sn) (sub:=sub) (ab:=ab) (col:=col) (dd:=d0) (k0:=k0) (k1:=k1) (k2:=k2) (k3:=k3) (k5:=k5) (newId:="ValueError.__new__") (T.hasType PySem.F.excBase_ValueError.hasBase) (I.ok.hd hc) ?_;refine OJ<|Qa<|BE (X:=X.UL<|XG X E) I hg F0.Xd ?_ ac;refine Qe (h₀:=X.base) I.ok.mod.Wo M.kp (thn (ha cpos pins s1 σ H1 _ I h) λus s2 zz=>?_) he aa;obtain⟨vs,H2,I2,r,hl,q⟩:=zz;refine⟨I2.UB,?_⟩;refine vE (X:=X.UL<|XG X E) (us:=us) (Q:=λv H3=>match v with|.ref x=>∃dd,H3 x=some (dD x (.ref C) dd)/\E (.ref C) dd (forget H3 x)|_=>False) M F hr hb hx I2 r (by rw[<- r.length,Qr];lia) q λa H3 s3 hn hH un J ho O q2=>?_;obtain⟨dd,U,hE⟩:=q2;obtain⟨o,Z,a0,z1,z2,z3,z4,z5,z6⟩:=II J U;have I3:=I2.U8 (s':=s3) ho un J O λb z=>nomatch z;refine OJ<|Rm<|OO ?_;refine⟨a,o,Z,rfl,I3.UB _ _ ad,z1,z2,z4,z5.1,?_⟩;exact .inr ⟨pins,σ,H2,s2,a,o,Z,a0,_,rfl,I2.UD,ho,O,un.forget hn hH,J.forget U,jR,hn,z1,z4,z5,z6,by rw[z2,z3];exact hE⟩
end
open PySem PySem.Spec PySem.W PySem.Calls PyProof.Rows Builtin.Getset_descriptor Builtin.ObjectAttr
theorem fV.mono{A:Pb}(r:fV k A)(h:j<=k):fV j A:=⟨by have:=r.dp;lia⟩
theorem fV.mn{A:Pb}(r:fV k A)(h:j<=k:=by decide):fV j A:=r.mono h
structure MG(P:OZ)(w:Pp)(K:W.Frag)(mg:Pa->Option OK)(base:Ph)(C:OL)(m:Pa)(k:Nat)(ps:List Pa)(sp:Sp):Prop where
 cl:fW K C
 ex:∃f fd,rF P w K mg base k f fd ps sp/\Binds K fd ps []/\Meth K C m f
section
variable {K:W.Frag}{mg:Pa->Option OK}{base:Ph}{N ps:List Pa}{qual:Pa}{f:OL}
theorem aN.Xc{st:Pu}{fd:Qf}{sp:Sp}(F:aN K x qual st f fd)(S:aA N ps<|aV st)(len:∀vs H Q E,sp vs H Q E->vs.length=ps.length)
  (U:∀(z:OK) (A:Pb) (outer:List RQ) (s:ON) (H:Hp) (vs:List V) (Q:VK) (E:XK),fV k (A.deeper<|Rk qual (aV st) s.heap.objs.size f z)->sp vs H Q E-> ∃t,mP (HS P w K mg base N qual (aV st) f z A outer s H E) (vb st) t/\t { nx:=λ_ H'=>Q .Ux H',rt:=Q } (start N vs) H):rF P w K mg base (k+1) f fd ps sp:=by
 obtain⟨oc,od,kV,af,pm,an,z,ct,ag,rfl,lk,ae⟩:=F.ex;refine⟨len,λA outer s H args us vs Q E hr ac e0 hb r aa=>?_⟩;have hl:=len _ _ _ _ aa;have KX:K.In s.heap:=e0.mod.Wo.keeps λb o e=>(e0.bs b o e).1;have ad:s.heap.NoLimit:=e0.mod.nolimit.keeps λb o e=>(e0.bs b o e).1;have Z:∀y∈ps.zip us,(aV st).names.lookup y.1=some .local∨((aV st).names.lookup y.1=some .cell/\((Qd (s.heap.objs.size+1) (aV st).names []).lookup y.1).isSome=true):=λ⟨n,v⟩ hy=>by
  rcases S.par n (Se hy).1 with q|q
  .exact .inl q
  .exact .inr ⟨q,RU _ _ _<|.inl q⟩
 refine codeAny_call_function (by have:=hr.dp;lia) (KX _ _ lk) rfl S.co S.gen rfl (PySem.W.codeRec_of KX ae)<|hb _ _ _ _ ?_;refine Uj S.kind Z λenv he s1 x=>?_;subst he;refine⟨ad.keeps x.toInCall.keep,codeAny_func ?_⟩;obtain⟨t,ht,hq⟩:=U z A outer s H vs Q E ⟨by have:=hr.dp;show A.depth+1+3*k+5<_;lia⟩ aa;have I:Inv (HS P w K mg base N qual (aV st) f z A outer s H E) [] (start N vs) H s1:=sr S ac e0 hl r x;refine Pj (ht [] s1 (start N vs) H _ I hq) (λfl s' hs=>?_) λe s' hs=>Pl hs;have fin:∀{O:St} {H':Hp} {v:V} {u:OK},Inv (HS P w K mg base N qual (aV st) f z A outer s H E) [] O H' s'->RelV v u->Q v H'->CE outer P w H s Q u s':=
  fun {O H' v u} J rv q=>⟨v,H',J.os,J.bare,J.base,J.Uy,rv,q⟩
 cases fl with
 |ret u=>
  obtain⟨v,O,H',J,rv,q⟩:=hs;exact fin J rv q
 |next=>
  obtain⟨O,H',J,q⟩:=hs;exact fin (v:=V.Ux) (u:=Value.none) J rfl q
 |brk=>
  obtain⟨_,_,_,q⟩:=hs;exact Pl q
 |cont=>
  obtain⟨_,_,_,q⟩:=hs;exact Pl q
end
section
variable {ps:List Pa}{sp:Sp}{m:Pa}{C:OL}{apos:Sq}{o:PM}
theorem AK(F:MG X.prog X.w X.K X.mg X.base C m k ps sp)(hr:fV k X.A)(he:PE X o ta)
  (ht:eval (.Call (.Attribute o m apos) [] [] pos) X.env=(do
   let ov <- eval o X.env
   R1 apos.atName
   let (f,first) <- holding [ov] (Rj ov m pl)
   SY pos f first (P5 pos<|OU [] X.env) (Sk pos<|Q5 [] X.env)):=by rfl):
  PE X (.Call (.Attribute o m apos) [] [] pos)<|FD C m sp [] E0 ta fL:=by
 obtain⟨f,fd,h1,h2,h3⟩:=F.ex;intro pins s σ H Q I h;refine QX (pl:=pl) (thn (he pins s σ H _ I h) λu s1 U=>?_) ht;obtain⟨x,H1,z,Z,a,dx,fs,ex,ea,l,q⟩:=U;subst ex;obtain rfl:u=Value.ref a:=Z;refine LL z ea F.cl h3 l ?_;refine PySem.W.callWith_K0 (first:=[.ref a]) z.UB h3.kp ?_;have q':sp [.ref a] H1 Q E0:=q;have hl:[Value.ref a].length=ps.length:=by
  have:=h1.len _ _ _ _ q';exact this
 have O:=h2 s1 [.ref a] z.UB (by rw[gW];exact hl);rw[gW] at O;refine Q1<|QN (h1.run X.A X.stack s1 H1 ⟨[.ref a],[]⟩ [.ref a] [.ref a] Q E0 hr z.qh z.VT O (.cons rfl .nil) q') λr s' J=>?_;cases r with
 |error e=>exact Pl J
 |ok fl=>
  cases fl with
  |ret u=>exact z.after J
  |next=>exact Pl J
  |brk=>exact Pl J
  |cont=>exact Pl J
end
open PySem
structure gU(K:W.Frag)(C:OL)(x:Pa)(f:OL)(F:Prop):Prop where
 a:W.findIn K (.ref C) x=some (some<|.ref f)
 i:SO K (.ref f)=true
 F:F
 k:W.keepIn K (.ref f)=true
structure fC(K:W.Frag)(x:Pa)(f:OL)(F:Prop):Prop where
 a:W.nsIn K OX x=some (some<|.ref f)
 F:F
 k:W.keepIn K (.ref f)=true
theorem bO{a:PM}(ha:PE X a ta)(h:OU [a] X.env=(false,eval a X.env)::OU [] X.env:=by rfl):PA X [a]<|lQ ta fL:=FI ha Iy h
theorem fS{a b:PM}(ha:PE X a ta)(z:PE X b tb)(h:OU [a,b] X.env=(false,eval a X.env)::OU [b] X.env:=by rfl)(h2:OU [b] X.env=(false,eval b X.env)::OU [] X.env:=by rfl):PA X [a,b]<|lQ ta<|lQ tb fL:=FI ha (bO z h2) h
theorem zO{a b c:PM}{tc:TE}(ha:PE X a ta)(z:PE X b tb)(hc:PE X c tc)(h:OU [a,b,c] X.env=(false,eval a X.env)::OU [b,c] X.env:=by rfl)(h2:OU [b,c] X.env=(false,eval b X.env)::OU [c] X.env:=by rfl)(h3:OU [c] X.env=(false,eval c X.env)::OU [] X.env:=by rfl):PA X [a,b,c]<|lQ ta<|lQ tb<|lQ tc fL:=FI ha (fS z hc h2 h3) h
theorem aT.mn{A:Pb}(r:aT k A)(h:j<=k:=by decide):aT j A:=r.mono h
theorem Im{c:Int}{Q:Int->Prop}(h:Q c):vN (.int c) Q:=h
theorem kn{c:Bool}{Q:Bool->Prop}(h:Q c):AW (.bl c) Q:=h
theorem wW{g:Int->Int->V}{i j:Int}(h:Q (g i j) H):zN g (.int i) (.int j) H Q:=h
theorem xI:jV 1 (a0::some v::σ) H Q=Q v H:=rfl
theorem xH:jV 2 (a0::a1::some v::σ) H Q=Q v H:=rfl
theorem xG:jV 3 (a0::a1::a2::some v::σ) H Q=Q v H:=rfl
theorem xF:jV 4 (a0::a1::a2::a3::some v::σ) H Q=Q v H:=rfl
theorem xE:jV 5 (a0::a1::a2::a3::a4::some v::σ) H Q=Q v H:=rfl
theorem xD:jV 6 (a0::a1::a2::a3::a4::a5::some v::σ) H Q=Q v H:=rfl
theorem xB{a6:Option V}:jV 7 (a0::a1::a2::a3::a4::a5::a6::some v::σ) H Q=Q v H:=rfl
theorem xy{a6 a7:Option V}:jV 8 (a0::a1::a2::a3::a4::a5::a6::a7::some v::σ) H Q=Q v H:=rfl
open PySem
def Cut(t:TS):TS:=t
theorem bN{rest:List Pu}{u:TS}(h:mP X rest u):mP X rest<|Cut u:=h
theorem bM{u:TS}{D:Ends}(h:u D σ H):Cut u D σ H:=h
theorem MX(h:l.length=0):l=[]:=Ac.mp h
theorem lU(h:l.length=1):∃a0,l=[a0]:=by
 cases l with
 |nil=>cases h
 |cons a l=>
  obtain rfl:=MX (l:=l)<|SI h;exact⟨a,rfl⟩
theorem kY(h:l.length=2):∃a0 a1,l=[a0,a1]:=by
 cases l with
 |nil=>cases h
 |cons a l=>
  obtain⟨z,rfl⟩:=lU (l:=l)<|SI h;exact⟨a,z,rfl⟩
theorem iY(h:l.length=3):L2.X3 λa0 a1 a2=>l=[a0,a1,a2]:=by
 cases l with
 |nil=>cases h
 |cons a l=>
  obtain⟨z,J,rfl⟩:=kY (l:=l)<|SI h;exact⟨a,z,J,rfl⟩
theorem wM(h:l.length=4):L2.X4 λa0 a1 a2 a3=>l=[a0,a1,a2,a3]:=by
 cases l with
 |nil=>cases h
 |cons a l=>
  obtain⟨J,O,z,rfl⟩:=iY (l:=l)<|SI h;exact⟨a,J,O,z,rfl⟩
open PySem PySem.Spec PyProof.Rows
def tK(t u:TE):TE:=λσ H Q=>t σ H Q∨u σ H Q
theorem nJ{t u:TE}(h:PE X e t)(k:PE X e u):PE X e<|tK t u:=λpins s σ H Q I z=>z.elim (h pins s σ H Q I)<|k pins s σ H Q I
end L2
namespace Gr
noncomputable def qt(m a:Int)(p:Nat):Int:=a*2^p/(2*m)
structure IsG(m a b:Int)(g:Nat):Prop where
 pos:1<=g
 eq:∀q,1<=q->q<g->qt m a q=qt m b q
 ne:qt m a g≠qt m b g
theorem p2pos(p:Nat):(0:Int)<2^p:=Int.pow_pos<|by decide
theorem IsG.uniq{m a b:Int}{g h:Nat}(x:IsG m a b g)(y:IsG m a b h):g=h:=by
 rcases Nat.lt_trichotomy g h with l|l|l
 .exact absurd (y.eq g x.pos l) x.ne
 .exact l
 .exact absurd (x.eq h y.pos l) y.ne
theorem qt_ne{m a b:Int}{p:Nat}(hm:0<m)(z:a+2<=b)(J:m<=2^p):qt m a p≠qt m b p:=by
 unfold qt;have h1:a*2^p+2*m<=b*2^p:=by
  have:(a+2)*2^p<=b*2^p:=Int.mul_le_mul_of_nonneg_right z<|Int.le_of_lt<|p2pos p;rw[Int.add_mul] at this;lia
 have h2:(a*2^p+2*m)/(2*m)<=b*2^p/(2*m):=Int.ediv_le_ediv (by lia) h1;rw[Int.add_ediv_of_dvd_right<|Int.dvd_refl _,Int.ediv_self<|by lia] at h2;lia
end Gr
namespace Pap
variable {p:List Nat}{i v:Nat}
def IsP(p:List Nat):Prop:=p.Perm<|OT p.length
noncomputable def at'(p:List Nat)(i:Nat):Nat:=p.getD i 0
noncomputable def bk(p:List Nat):List Nat:=(OT p.length).map λv=>p.idxOf v
theorem U9(h:i<p.length):p[i]?=some (at' p i):=by
 unfold at';rw[iA,bL h];rfl
theorem EN(h:i<p.length):at' p i=p[i]:=by
 unfold at';rw[iA,bL h];rfl
theorem IsP.lt(h:IsP p){x:Nat}(hx:x∈p):x<p.length:=pS.mp<|h.mem_iff.mp hx
theorem IsP.mem(h:IsP p){x:Nat}(hx:x<p.length):x∈p:=h.mem_iff.mpr<|pS.mpr hx
theorem IsP.nd(h:IsP p):p.Nodup:=h.nodup_iff.mpr Dj
theorem IsP.W4(h:i<p.length):at' p i∈p:=by rw[EN h];exact RW h
theorem IsP.U9(z:IsP p)(h:i<p.length):at' p i<p.length:=z.lt<|IsP.W4 h
theorem idx_lt(h:IsP p)(z:v<p.length):p.idxOf v<p.length:=List.idxOf_lt_length_iff.mpr<|h.mem z
theorem at_idx(h:IsP p)(z:v<p.length):at' p (p.idxOf v)=v:=by rw[EN<|idx_lt h z];exact SR _
theorem Eo(h:IsP p)(hi:i<p.length):p.idxOf (at' p i)=i:=by rw[EN hi];exact h.nd.idxOf_getElem i hi
theorem bk_len(p:List Nat):(bk p).length=p.length:=by unfold bk;rw[aJ,eU]
theorem bk_at(z:v<p.length):at' (bk p) v=p.idxOf v:=by
 unfold bk;rw[EN (by rw[aJ,eU];exact z),List.getElem_map,List.getElem_range]
theorem ext{q:List Nat}(hl:p.length=q.length)(h:∀i,i<p.length->at' p i=at' q i):p=q:=by
 refine E9 λi=>?_;by_cases hi:i<p.length
 .rw [Pap.U9 hi,Pap.U9<|hl▸hi,h i hi]
 .rw [oP<|by lia,oP<|by lia]
theorem IsP.sorted(z:IsP p){ms:List Int}(h:ms.Perm (p.map λx:Nat=>(x:Int)))(J:ms.Pairwise (·<=·)):ms=(OT p.length).map λx:Nat=>(x:Int):=by
 refine RA (le:=(·<=·)) (λa b _ _ h1 h2=>Int.le_antisymm h1 h2) J ?_<|h.trans<|z.map _;rw[Fc];exact List.Pairwise.imp (λh=>by lia) List.pairwise_le_range
noncomputable def spots(p:List Nat)(i:Nat):List Nat:=(OT p.length).map λv=>if v∈p.take i then p.idxOf v else v
theorem spots_len(p:List Nat)(i:Nat):(spots p i).length=p.length:=by unfold spots;rw[aJ,eU]
theorem spots_zero(p:List Nat):spots p 0=OT p.length:=by
 unfold spots;rw[List.take_zero];refine(QJ (g:=id) λx _=>?_).trans<|List.map_id _;rw[Z8<|by simp];rfl
theorem spots_end(z:IsP p):spots p p.length=bk p:=by
 unfold spots bk;refine QJ λx hx=>?_;rw[Tv,Z9<|z.mem<|pS.mp hx]
theorem spots_step(O:IsP p)(hi:i<p.length):(spots p i).set (at' p i) i=spots p (i+1):=by
 refine ext (by rw[Ae,spots_len,spots_len]) λv J=>?_;rw[Ae,spots_len] at J;have get:∀j,at' (spots p j) v=if v∈p.take j then p.idxOf v else v:=λj=>by
  rw[EN<|by rw[spots_len];exact J];unfold spots;rw[List.getElem_map,List.getElem_range]
 rw[get,EN (by rw[Ae,spots_len];exact J),List.getElem_set];have tk:p.take (i+1)=p.take i++[at' p i]:=by rw[Dm,Pap.U9 hi];rfl
 split
 .rename_i e;rw[tk,Z9 (by rw[<- e];simp),<- e,Eo O hi]
 .rename_i e;have h1:=get i;rw[EN<|by rw[spots_len];exact J] at h1;rw[h1,tk];by_cases q:v∈p.take i
  .rw [Z9 q,Z9<|kW _ q]
  .rw [Z8 q,Z8];intro z;rcases gN.mp z with z|z
   .exact q z
   .exact e (bD.mp z).symm
end Pap
namespace Pw
variable {f k pl stop x y z:Nat}{B l os r:List Nat}{R:Nat->Nat->Prop}{fal:Bool}
noncomputable abbrev A3:=Nat×Nat×Bool
variable {pr':List A3}
inductive Pg(α:Type) where
 |ret (a:α):Pg α
 |ask (p q:Nat) (k:Bool->Pg α):Pg α
noncomputable def Pg.bind{α β:Type}(f:α->Pg β):Pg α->Pg β
 |.ret a=>f a
 |.ask p q k=>.ask p q λb=>(k b).bind f
noncomputable def UX{α:Type}(p q:Nat)(k:Bool->Pg α):Pg α:=.ask (max p q) (min p q) λb=>k (if q<p then b else !b)
section
variable {α β:Type}{n:Nat}{An:Nat->Nat->Nat->Bool}
def Wp(n:Nat)(An:Nat->Nat->Nat->Bool):Pg α->List A3->(α->List A3->Prop)->Prop
 |.ret a,pr,post=>post a pr
 |.ask p q k,pr,post=>q<p/\p<n/\pr.length<=800000/\Wp n An (k<|An pr.length p q) (pr++[(p,q,An pr.length p q)]) post
theorem Wp.imp{P Q:α->List A3->Prop}:∀{x:Pg α} {pr:List A3},Wp n An x pr P->(∀a pr',P a pr'->Q a pr')->Wp n An x pr Q
 |.ret a,pr,h,f=>f a pr h
 |.ask p q k,pr,h,f=>⟨h.1,h.2.1,h.2.2.1,h.2.2.2.imp f⟩
theorem Wp.bind{f:α->Pg β}{P:β->List A3->Prop}:∀{x:Pg α} {pr:List A3},Wp n An (x.bind f) pr P->Wp n An x pr λa pr'=>Wp n An (f a) pr' P
 |.ret a,pr,h=>h
 |.ask p q k,pr,h=>⟨h.1,h.2.1,h.2.2.1,Wp.bind h.2.2.2⟩
def Pg.Al:Pg α->(α->Prop)->Prop
 |.ret a,P=>P a
 |.ask _ _ k,P=>∀b,(k b).Al P
theorem Pg.Al.imp{P Q:α->Prop}:∀{x:Pg α},x.Al P->(∀a,P a->Q a)->x.Al Q
 |.ret a,h,f=>f a h
 |.ask _ _ k,h,f=>λb=>(h b).imp f
theorem Pg.Al.bind{f:α->Pg β}{P:β->Prop}:∀{x:Pg α},(x.Al λa=>(f a).Al P)->(x.bind f).Al P
 |.ret a,h=>h
 |.ask _ _ k,h=>λb=>Pg.Al.bind<|h b
theorem Wp.U0{P:α->List A3->Prop}{Q:α->Prop}:∀{x:Pg α} {pr:List A3},Wp n An x pr P->x.Al Q->Wp n An x pr λa pr'=>Q a/\P a pr'
 |.ret a,pr,h,g=>⟨g,h⟩
 |.ask p q k,pr,h,g=>⟨h.1,h.2.1,h.2.2.1,h.2.2.2.U0<|g _⟩
def Wa(n:Nat):Pg α->List A3->(α->List A3->Prop)->Prop
 |.ret a,pr,post=>post a pr
 |.ask p q k,pr,post=>q<p/\p<n/\pr.length<=800000/\∀b,Wa n (k b) (pr++[(p,q,b)]) post
theorem Wa.imp{P Q:α->List A3->Prop}:∀{x:Pg α} {pr:List A3},Wa n x pr P->(∀a pr',P a pr'->Q a pr')->Wa n x pr Q
 |.ret a,pr,h,f=>f a pr h
 |.ask p q k,pr,h,f=>⟨h.1,h.2.1,h.2.2.1,λb=>(h.2.2.2 b).imp f⟩
theorem Wa.bind{f:α->Pg β}{P:β->List A3->Prop}:∀{x:Pg α} {pr:List A3},(Wa n x pr λa pr'=>Wa n (f a) pr' P)->Wa n (x.bind f) pr P
 |.ret a,pr,h=>h
 |.ask p q k,pr,h=>⟨h.1,h.2.1,h.2.2.1,λb=>Wa.bind<|h.2.2.2 b⟩
end
def Td(pr:List A3)(p q:Nat):Prop:=∃b,(max p q,min p q,b)∈pr/\(if q<p then b else !b)=true
theorem Td.mono{pr:List A3}{p q:Nat}(h:Td pr p q)(f:pr<+:pr'):Td pr' p q:=let ⟨b,h1,h2⟩:=h;⟨b,f.subset h1,h2⟩
theorem Wa.UX{α:Type}{n p q:Nat}{pr:List A3}{k:Bool->Pg α}{P:α->List A3->Prop}(J:p≠q)(U:p<n)(O:q<n)(hl:pr.length<=800000)
  (h:∀b pr',pr<+:pr'->pr'.length=pr.length+1->(b=true->Td pr' p q)->(b=false->Td pr' q p)->Wa n (k b) pr' P):Wa n (UX p q k) pr P:=by
 refine⟨by lia,by lia,hl,λb=>h _ _ (List.prefix_append _ _) (by rw[aW];rfl) (λz=>⟨b,gM _ aU,z⟩) λz=>⟨b,gM _ (by rw[show max q p=max p q by lia,show min q p=min p q by lia];exact aU),?_⟩⟩;by_cases c:q<p
 .rw [Z9 c] at z;rw[Z8<|by lia,z];rfl
 .rw [Z8 c] at z;rw[Z9<|by lia];cases b
  .cases z
  .rfl
def Nb(R:Nat->Nat->Prop):List Nat->Prop
 |[]=>True
 |[_]=>True
 |a::b::l=>R a b/\Nb R (b::l)
theorem Nb.mono{R S:Nat->Nat->Prop}(f:∀a b,R a b->S a b):∀{l:List Nat},Nb R l->Nb S l
 |[],_=>trivial
 |[_],_=>trivial
 |_::_::_,h=>⟨f _ _ h.1,Nb.mono f h.2⟩
theorem Nb.split{R:Nat->Nat->Prop}{x:Nat}{r:List Nat}:∀{l:List Nat},Nb R (l++x::r)↔Nb R (l++[x])/\Nb R (x::r)
 |[]=>⟨λh=>⟨trivial,h⟩,λh=>h.2⟩
 |[a]=>⟨λh=>⟨⟨h.1,trivial⟩,h.2⟩,λh=>⟨h.1.1,h.2⟩⟩
 |a::b::l=>⟨λh=>⟨⟨h.1,(Nb.split (l:=b::l).mp h.2).1⟩,(Nb.split (l:=b::l).mp h.2).2⟩,λh=>⟨h.1.1,(Nb.split (l:=b::l)).mpr ⟨h.1.2,h.2⟩⟩⟩
theorem Nb.left(h:Nb R<|l++r):Nb R l:=by
 induction l with
 |nil=>exact trivial
 |cons a l ih=>
  cases l with
  |nil=>exact trivial
  |cons b l=>exact⟨h.1,ih h.2⟩
theorem Nb.right{R:Nat->Nat->Prop}{r:List Nat}:∀{l:List Nat},Nb R (l++r)->Nb R r
 |[],h=>h
 |[a],h=>by
  cases r with
  |nil=>exact trivial
  |cons b r=>exact h.2
 |a::b::l,h=>Nb.right (l:=b::l) h.2
theorem Nb.two:Nb R (l++x::y::r)↔Nb R (l++[x])/\R x y/\Nb R (y::r):=Nb.split
theorem Nb.rev{R:Nat->Nat->Prop}:∀{l:List Nat},Nb (λa b=>R b a) l->Nb R l.reverse
 |[],_=>trivial
 |[_],_=>trivial
 |a::b::l,h=>by
  have:=Nb.rev h.2;rw[Fg] at this;rw[Fg,Fg,jM];exact Nb.two.mpr ⟨this,h.1,trivial⟩
noncomputable abbrev Nt(pr:List A3):List Nat->Prop:=Nb<|Td pr
theorem Nt.mono{pr:List A3}(h:Nt pr l)(f:pr<+:pr'):Nt pr' l:=Nb.mono (λ_ _ z=>z.mono f) h
noncomputable def pL(os:List Nat)(pl:Nat):Nat->Nat->Nat->Pg (Nat×Nat)
 |0,lo,hi=>.ret (lo,hi)
 |n+1,lo,hi=>if hi<os.length then UX (os.getD hi 0) pl λb=>if b then pL os pl n (hi+1) (2*hi+1) else .ret (lo,hi) else .ret (lo,hi)
noncomputable def iq(os:List Nat)(pl:Nat):Nat->Nat->Nat->Pg Nat
 |0,_,hi=>.ret hi
 |n+1,lo,hi=>if lo<hi then UX (os.getD ((lo+hi-1)/2) 0) pl λb=>if b then iq os pl n ((lo+hi-1)/2+1) hi else iq os pl n lo ((lo+hi-1)/2) else .ret hi
noncomputable def Fv(os:List Nat)(pl:Nat):Pg Nat:=(pL os pl os.length 0 0).bind λr=>iq os pl os.length r.1<|min r.2 os.length
noncomputable def u9:Nat->Bool->Nat->List Nat->List Nat->List Nat->Pg (List Nat)
 |n+1,s,w,x::l,y::r,acc=>UX x y λb=>
  if (if b=s then w+1 else 1)=4 then
   if b then(Fv l y).bind λk=>if k<l.length then u9 n b 0 (l.drop k) r (acc++x::l.take k++[y]) else u9 n b 0 (l.drop k) (y::r) (acc++x::l.take k)
   else(Fv r x).bind λk=>if k<r.length then u9 n b 0 l (r.drop k) (acc++y::r.take k++[x]) else u9 n b 0 (x::l) (r.drop k) (acc++y::r.take k)
  else if b then u9 n b (if b=s then w+1 else 1) l (y::r) (acc++[x]) else u9 n b (if b=s then w+1 else 1) (x::l) r (acc++[y])
 |_,_,_,l,r,acc=>.ret<|acc++l++r
noncomputable def Ha(l r:List Nat):Pg<|List Nat:=u9 (l.length+r.length) true 0 l r []
noncomputable def zP(os:List Nat)(pl:Nat):Nat->Nat->Nat->Pg Nat
 |0,lo,_=>.ret lo
 |n+1,lo,hi=>if lo<hi then UX (os.getD ((lo+hi)/2) 0) pl λb=>if b then zP os pl n ((lo+hi)/2+1) hi else zP os pl n lo ((lo+hi)/2) else .ret lo
noncomputable def wF(os:List Nat)(pl:Nat):Pg Nat:=zP os pl os.length 0 os.length
noncomputable def gR(os:List Nat)(r x:Nat):List Nat:=os.take r++x::os.drop r
noncomputable def jY(sp:List Nat->Nat->Pg Nat):Nat->Nat->List Nat->Pg (List Nat)
 |0,_,os=>.ret os
 |n+1,pl,os=>(sp os pl).bind λr=>jY sp n (pl+1)<|gR os r pl
noncomputable def pG(stop:Nat)(fal:Bool):Nat->Nat->Pg (Nat×Bool)
 |0,by'=>.ret (by',fal)
 |n+1,by'=>if by'<stop then UX by' (by'-1) λb=>if b=fal then pG stop fal n (by'+1) else .ret (by',fal) else .ret (by',fal)
noncomputable def rX(stop first:Nat):Pg<|Nat×Bool:=if first+1<stop then UX (first+1) first λb=>pG stop b stop (first+2) else .ret (first+1,false)
noncomputable def cY(a b:Nat)(f:Bool):List Nat:=if f then(Pe a<|b-a).reverse else Pe a (b-a)
noncomputable def HU(ls stop first:Nat):Pg<|Nat×List Nat:=(rX stop first).bind λr=>(jY wF (min (first+ls) stop-r.1) r.1<|cY first r.1 r.2).bind λos=>.ret (r.1,os)
section
variable {n:Nat}{pr:List A3}
def In(n:Nat)(os:List Nat)(pl:Nat):Prop:=∀x∈os,x<n/\x≠pl
theorem getD_mem{i:Nat}(h:i<os.length):os[i]?=some (os.getD i 0)/\os.getD i 0∈os:=by
 rw[iA,bL h];exact⟨rfl,RW h⟩
structure Bd(pr:List A3)(os:List Nat)(pl lo hi:Nat):Prop where
 lo:lo=0∨Td pr (os.getD (lo-1) 0) pl
 hi:os.length<=hi∨Td pr pl (os.getD hi 0)
theorem uP{os:List Nat}{pl:Nat}(J:In n os pl)(O:pl<n):∀(m lo hi:Nat) (pr:List A3),os.length<=m+hi->lo<=hi->hi<=2*lo->lo<=os.length->Bd pr os pl lo os.length->pr.length+2*os.length<=800000+lo->Wa n (pL os pl m lo hi) pr λr pr'=>pr<+:pr'/\r.1<=r.2/\r.2<=2*r.1/\r.1<=os.length/\Bd pr' os pl r.1 r.2/\pr'.length+lo<=pr.length+r.1+1
 |0,lo,hi,pr,hm,h1,h2,h3,b,c=>⟨fG _,h1,h2,h3,⟨b.lo,.inl<|by lia⟩,by lia⟩
 |m+1,lo,hi,pr,hm,h1,h2,h3,b,c=>by
  rw[pL.eq_2];by_cases z:hi<os.length
  .rw [Z9 z];obtain⟨g1,U⟩:=getD_mem z;refine Wa.UX (J _ U).2 (J _ U).1 O (by lia) λb' pr' f1 l1 Z t2=>?_;cases b'
   .exact ⟨f1,h1,h2,h3,⟨b.lo.imp id λz=>z.mono f1,.inr<|t2 rfl⟩,by lia⟩
   .refine (uP J O m (hi+1) (2*hi+1) pr' (by lia) (by lia) (by lia) (by lia) ⟨.inr<|Z rfl,.inl<|aK _⟩<|by lia).imp λr pr2 h=>⟨f1.trans h.1,h.2.1,h.2.2.1,h.2.2.2.1,h.2.2.2.2.1,?_⟩
    have:=h.2.2.2.2.2;lia
  .rw [Z8 z];exact⟨fG _,h1,h2,h3,⟨b.lo,.inl<|by lia⟩,by lia⟩
theorem KU{os:List Nat}{pl:Nat}(J:In n os pl)(O:pl<n):∀(m lo hi:Nat) (pr:List A3),hi-lo<=m->lo<=hi->hi<=os.length->Bd pr os pl lo hi->pr.length+(hi-lo)<=800000->Wa n (iq os pl m lo hi) pr λr pr'=>pr<+:pr'/\lo<=r/\r<=hi/\Bd pr' os pl r r/\pr'.length<=pr.length+(hi-lo)
 |0,lo,hi,pr,hm,h1,h2,b,c=>by
  have:lo=hi:=by lia
  subst this;exact⟨fG _,h1,h1,b,by lia⟩
 |m+1,lo,hi,pr,hm,h1,h2,b,c=>by
  rw[iq.eq_2];by_cases z:lo<hi
  .rw [Z9 z];have Z:lo<=(lo+hi-1)/2:=by lia
   have U:(lo+hi-1)/2<hi:=by lia
   generalize (lo+hi-1)/2=mi at Z U;obtain⟨g1,g2⟩:=getD_mem (os:=os) (i:=mi) (by lia);refine Wa.UX (J _ g2).2 (J _ g2).1 O (by lia) λb' pr' f1 l1 t1 t2=>?_;cases b'
   .refine (KU J O m lo mi pr' (by lia) (by lia) (by lia) ⟨b.lo.imp id λz=>z.mono f1,.inr<|t2 rfl⟩<|by lia).imp λr pr2 h=>⟨f1.trans h.1,h.2.1,?_,h.2.2.2.1,?_⟩
    .have:=h.2.2.1;lia
    .have:=h.2.2.2.2;lia
   .refine (KU J O m (mi+1) hi pr' (by lia) (by lia) (by lia) ⟨.inr<|t1 rfl,b.hi.imp id λz=>z.mono f1⟩<|by lia).imp λr pr2 h=>⟨f1.trans h.1,?_,h.2.2.1,h.2.2.2.1,?_⟩
    .have:=h.2.1;lia
    .have:=h.2.2.2.2;lia
  .rw [Z8 z];have:lo=hi:=by lia
   subst this;exact⟨fG _,h1,h1,b,by lia⟩
theorem qN(O:In n os pl)(J:pl<n)(c:pr.length+3*os.length+2<=800000):Wa n (Fv os pl) pr λk pr'=>pr<+:pr'/\k<=os.length/\Bd pr' os pl k k/\pr'.length<=pr.length+2*k+1:=by
 refine Wa.bind<|(uP O J os.length 0 0 pr (by lia) (aK _) (aK _) (cE _) ⟨.inl rfl,.inl<|aK _⟩<|by lia).imp λr pr' h=>?_;obtain⟨f1,h1,h2,h3,b,Z⟩:=h;have U:Bd pr' os pl r.1<|min r.2 os.length:=⟨b.lo,by
  by_cases z:r.2<os.length
  .rw [rM<|by lia];exact b.hi
  .exact .inl (by lia)⟩
 refine(KU O J os.length r.1 (min r.2 os.length) pr' (by lia) (by lia) (by lia) U<|by lia).imp λk pr2 h=>⟨f1.trans h.1,?_,h.2.2.2.1,?_⟩
 .have:=h.2.2.1;lia
 .have g1:=h.2.2.2.2;have g2:=h.2.1;lia
theorem Nb.app{A:List Nat}(h1:Nb R A)(h2:Nb R B)(h:∀J z u O,A=J++[z]->B=u::O->R z u):Nb R<|A++B:=by
 cases B with
 |nil=>rw[gW];exact h1
 |cons u B=>
  rcases Q8 A with rfl|⟨J,z,rfl⟩
  .exact h2
  .rw [QA,jM];rw[QA] at h1 h;exact Nb.two.mpr ⟨h1,h J z u B rfl rfl,h2⟩
theorem IW{A:List Nat}(J:k<=os.length)(h:os.take k=A++[z]):0<k/\z=os.getD (k-1) 0:=by
 have e:=congrArg Pz h;rw[gV,aW,iC] at e;refine⟨by lia,?_⟩;have e2:(os.take k)[k-1]?=some z:=by rw[h,kF<|by lia,show k-1-A.length=0 by lia];rfl
 rw[List.getElem?_take,Z9<|by lia] at e2;rw[iA,e2];rfl
theorem Ho(h:os.drop k=z::B):k<os.length/\z=os.getD k 0:=by
 have e:=congrArg Pz h;rw[dW,bS] at e;refine⟨by lia,?_⟩;have e2:(os.drop k)[0]?=some z:=by rw[h];rfl
 rw[Di,Sb] at e2;rw[iA,e2];rfl
theorem Nb.take(h:Nb R os)(k:Nat):Nb R<|os.take k:=Nb.left (r:=os.drop k)<|by rw[xg];exact h
theorem Nb.drop(h:Nb R os)(k:Nat):Nb R<|os.drop k:=Nb.right (l:=os.take k)<|by rw[xg];exact h
theorem IJ{A:List Nat}(h:A++[y]=B++[z]):y=z:=by
 have:=congrArg List.getLast? h;rw[List.getLast?_append,List.getLast?_append] at this;exact OS this
theorem uE{acc m t:List Nat}(h1:Nt pr<|acc++x::m)(h2:Nt pr<|acc++y::t)(O:Td pr x y)(U:k<=m.length)(b:Bd pr m y k k):Nt pr (acc++x::m.take k++y::t)/\(k<m.length->Nt pr (acc++x::m.take k++[y]++m.drop k)):=by
 have e:acc++x::m=(acc++x::m.take k)++m.drop k:=by rw[jM,Dl,xg]
 rw[e] at h1;have hl:∀t',Nt pr (y::t')->Nt pr (acc++x::m.take k++y::t'):=λt' ht=>Nb.app h1.left ht λA z u B J e2=>by
  cases e2;rcases Q8 (m.take k) with e3|⟨M,z',e3⟩
  .rw [e3] at J;rw[<- IJ J];exact O
  .rw [QA] at e3;obtain⟨k0,e4⟩:=IW U e3;rw[e3,<- Dl,<- jM] at J;rw[<- IJ J,e4];rcases b.lo with z|z
   .lia
   .exact z
 refine⟨hl t h2.right,λZ=>Nb.app (hl [] trivial) h1.right λA z u B J e2=>?_⟩;rw[<- IJ J,(Ho e2).2];rcases b.hi with z|z
 .lia
 .exact z
theorem IZ{A:List Nat}(h:∀c,A.count c=B.count c):A.Perm B:=List.perm_iff_count.mpr h
theorem G0(l:List Nat)(k c:Nat):(l.take k).count c+(l.drop k).count c=l.count c:=by rw[<- Ab,xg]
structure Tw(n:Nat)(A B:List Nat):Prop where
 l:∀x∈A,x<n
 r:∀x∈B,x<n
 d:∀x∈A,∀y∈B,x≠y
theorem Tw.sub{J r':List Nat}(h:Tw n l r)(h1:∀x∈J,x∈l)(h2:∀x∈r',x∈r):Tw n J r':=⟨λx z=>h.l x<|h1 x z,λx z=>h.r x<|h2 x z,λx z y w=>h.d x (h1 x z) y<|h2 y w⟩
theorem EX:∀(m:Nat) (s:Bool) (w:Nat) (l r acc:List Nat) (pr:List A3),l.length+r.length<=m->w<=3->Tw n l r->Nt pr (acc++l)->Nt pr (acc++r)->pr.length+5*(l.length+r.length)+w<=800000->
  Wa n (u9 m s w l r acc) pr λos pr'=>os.Perm (acc++l++r)/\Nt pr' os/\pr<+:pr'/\pr'.length<=pr.length+2*(l.length+r.length)+w
 |0,s,w,l,r,acc,pr,hm,hw,t,n1,n2,c=>by
  have e1:l=[]:=Ac.mp (by lia);subst e1;refine⟨.refl _,?_,fG _,by lia⟩;rw[gW];exact n2
 |m+1,s,w,[],r,acc,pr,hm,hw,t,n1,n2,c=>by
  refine⟨.refl _,?_,fG _,by lia⟩;rw[gW];exact n2
 |m+1,s,w,x::l,[],acc,pr,hm,hw,t,n1,n2,c=>by
  refine⟨.refl _,?_,fG _,by lia⟩;rw[gW];exact n1
 |m+1,s,w,x::l,y::r,acc,pr,hm,hw,t,n1,n2,c=>by
  rw[u9];simp only[bS] at hm c;have ac:=t.d x aU y aU;refine Wa.UX ac (t.l x aU) (t.r y aU) (by lia) λb pr1 f1 l1 t1 t2=>?_;replace n1:=n1.mono f1;replace n2:=n2.mono f1;have O:∀(os A L R:List Nat) (pr2:List A3) (k:Nat),os.Perm (A++L++R)->(∀c,(A++L++R).count c=(acc++x::l++y::r).count c)->os.Perm (acc++x::l++y::r):=λos A L R _ _ h1 h2=>h1.trans<|IZ h2;have aa:(if b=s then w+1 else 1)<=w+1:=by split<;>lia
  by_cases h4:(if b=s then w+1 else 1)=4
  .rw [Z9 h4];rw[h4] at aa;cases b
   .rw [Z8<|by decide];refine Wa.bind<|(qN (os:=r) (pl:=x) (pr:=pr1) (λu z=>⟨t.r u<|bA _ z,OY<|t.d x aU u<|bA _ z⟩) (t.l x aU)<|by lia).imp λk pr2 h=>?_;obtain⟨U,hk,bd,hc⟩:=h;obtain⟨g1,g2⟩:=uE (n2.mono U) (n1.mono U) ((t2 rfl).mono U) hk bd;have hd:(r.drop k).length=r.length-k:=dW ..;have Z:=f1.trans U;have sub:∀u∈r.drop k,u∈y::r:=λu z=>bA _<|E8 z;have e2:acc++y::r.take k++r.drop k=acc++y::r:=by rw[jM,Dl,xg]
    by_cases WU:k<r.length
    .rw [Z9 WU];refine(EX m false 0 l (r.drop k) _ pr2 (by lia) (by decide) (t.sub (λu z=>bA _ z) sub) (by rw[jM];exact g1) (g2 WU)<|by lia).imp λos J h=>⟨O os _ _ _ J 0 h.1 λc=>?_,h.2.1,Z.trans h.2.2.1,?_⟩
     .have:=G0 r k c;simp only[Ab,C9,C8];lia
     .have:=h.2.2.2;simp only[bS];lia
    .rw [Z8 WU];refine(EX m false 0 (x::l) (r.drop k) _ pr2 (by rw[bS];lia) (by decide) (t.sub (λu z=>z) sub) g1 (by rw[e2];exact n2.mono U)<|by rw[bS];lia).imp λos J h=>⟨O os _ _ _ J 0 h.1 λc=>?_,h.2.1,Z.trans h.2.2.1,?_⟩
     .have:=G0 r k c;simp only[Ab,C9,C8];lia
     .have:=h.2.2.2;simp only[bS] at*;lia
   .rw [Z9 rfl];refine Wa.bind<|(qN (os:=l) (pl:=y) (pr:=pr1) (λu z=>⟨t.l u<|bA _ z,t.d u (bA _ z) y aU⟩) (t.r y aU)<|by lia).imp λk pr2 h=>?_;obtain⟨U,hk,bd,hc⟩:=h;obtain⟨g1,g2⟩:=uE (n1.mono U) (n2.mono U) ((t1 rfl).mono U) hk bd;have hd:(l.drop k).length=l.length-k:=dW ..;have Z:=f1.trans U;have sub:∀u∈l.drop k,u∈x::l:=λu z=>bA _<|E8 z;have e2:acc++x::l.take k++l.drop k=acc++x::l:=by rw[jM,Dl,xg]
    by_cases WU:k<l.length
    .rw [Z9 WU];refine(EX m true 0 (l.drop k) r _ pr2 (by lia) (by decide) (t.sub sub λu z=>bA _ z) (g2 WU) (by rw[jM];exact g1)<|by lia).imp λos J h=>⟨O os _ _ _ J 0 h.1 λc=>?_,h.2.1,Z.trans h.2.2.1,?_⟩
     .have:=G0 l k c;simp only[Ab,C9,C8];lia
     .have:=h.2.2.2;simp only[bS];lia
    .rw [Z8 WU];refine(EX m true 0 (l.drop k) (y::r) _ pr2 (by rw[bS];lia) (by decide) (t.sub sub λu z=>z) (by rw[e2];exact n1.mono U) g1<|by rw[bS];lia).imp λos J h=>⟨O os _ _ _ J 0 h.1 λc=>?_,h.2.1,Z.trans h.2.2.1,?_⟩
     .have:=G0 l k c;simp only[Ab,C9,C8];lia
     .have:=h.2.2.2;simp only[bS] at*;lia
  .rw [Z8 h4];generalize (if b=s then w+1 else 1)=w' at h4 aa⊢;cases b
   .rw [Z8<|by decide];refine(EX m false w' (x::l) r (acc++[y]) pr1 (by rw[bS];lia) (by lia) (t.sub (λu z=>z) λu z=>bA _ z) ?_ (by rw[jM];exact n2)<|by rw[bS];lia).imp λos J h=>⟨O os _ _ _ J 0 h.1 λc=>?_,h.2.1,f1.trans h.2.2.1,?_⟩
    .rw [jM];exact Nb.two.mpr ⟨(Nb.split.mp n2).1,t2 rfl,(Nb.split.mp n1).2⟩
    .simp only[Ab,C9,C8];lia
    .have:=h.2.2.2;simp only[bS] at*;lia
   .rw [Z9 rfl];refine(EX m true w' l (y::r) (acc++[x]) pr1 (by rw[bS];lia) (by lia) (t.sub (λu z=>bA _ z) λu z=>z) (by rw[jM];exact n1) ?_<|by rw[bS];lia).imp λos J h=>⟨O os _ _ _ J 0 h.1 λc=>?_,h.2.1,f1.trans h.2.2.1,?_⟩
    .rw [jM];exact Nb.two.mpr ⟨(Nb.split.mp n1).1,t1 rfl,(Nb.split.mp n2).2⟩
    .simp only[Ab,C9,C8];lia
    .have:=h.2.2.2;simp only[bS] at*;lia
theorem LM(t:Tw n l r)(n1:Nt pr l)(n2:Nt pr r)(c:pr.length+5*(l.length+r.length)<=800000):Wa n (Ha l r) pr λos pr'=>os.Perm (l++r)/\Nt pr' os/\pr<+:pr'/\pr'.length<=pr.length+2*(l.length+r.length):=
 (EX _ true 0 l r [] pr (aK _) (by decide) t n1 n2 c).imp λ_ _ h=>h
theorem Ih{os:List Nat}{pl:Nat}(J:In n os pl)(O:pl<n):∀(m lo hi:Nat) (pr:List A3),hi-lo<=m->lo<=hi->hi<=os.length->Bd pr os pl lo hi->pr.length+(hi-lo)<=800000->Wa n (zP os pl m lo hi) pr λr pr'=>pr<+:pr'/\r<=hi/\Bd pr' os pl r r/\pr'.length<=pr.length+(hi-lo)
 |0,lo,hi,pr,hm,h1,h2,b,c=>by
  have:lo=hi:=by lia
  subst this;exact⟨fG _,h1,b,by lia⟩
 |m+1,lo,hi,pr,hm,h1,h2,b,c=>by
  rw[zP.eq_2];by_cases z:lo<hi
  .rw [Z9 z];have Z:lo<=(lo+hi)/2:=by lia
   have U:(lo+hi)/2<hi:=by lia
   generalize (lo+hi)/2=mi at Z U;obtain⟨g1,g2⟩:=getD_mem (os:=os) (i:=mi) (by lia);refine Wa.UX (J _ g2).2 (J _ g2).1 O (by lia) λb' pr' f1 l1 t1 t2=>?_;cases b'
   .refine (Ih J O m lo mi pr' (by lia) (by lia) (by lia) ⟨b.lo.imp id λz=>z.mono f1,.inr<|t2 rfl⟩<|by lia).imp λr pr2 h=>⟨f1.trans h.1,?_,h.2.2.1,?_⟩
    .have:=h.2.1;lia
    .have:=h.2.2.2;lia
   .refine (Ih J O m (mi+1) hi pr' (by lia) (by lia) (by lia) ⟨.inr<|t1 rfl,b.hi.imp id λz=>z.mono f1⟩<|by lia).imp λr pr2 h=>⟨f1.trans h.1,h.2.1,h.2.2.1,?_⟩
    have:=h.2.2.2;lia
  .rw [Z8 z];have:lo=hi:=by lia
   subst this;exact⟨fG _,h1,b,by lia⟩
theorem JN{r:Nat}(h:Nt pr os)(O:r<=os.length)(b:Bd pr os pl r r):Nt pr<|gR os r pl:=by
 refine Nb.app (h.take r) (B:=[pl]++os.drop r) (Nb.app trivial (h.drop r) λA z u B J e2=>?_) λA z u B J e2=>?_
 .cases A with
  |nil=>
   cases J;rw[(Ho e2).2];have:=(Ho e2).1;rcases b.hi with z|z
   .lia
   .exact z
  |cons a A=>simp at J
 .cases e2;obtain⟨k0,e4⟩:=IW O J;rw[e4];rcases b.lo with z|z
  .lia
  .exact z
theorem bV{r:Nat}:(gR os r x).Perm<|os++[x]:=IZ λc=>by
 unfold gR;have:=G0 os r c;simp only[Ab,C9,C8];lia
theorem C2(f k:Nat):Pe f (k+1)=Pe f k++[f+k]:=by rw[List.range'_concat];simp
theorem Kx{f:Nat}:∀(m pl:Nat) (os:List Nat) (pr:List A3),os.Perm (Pe f<|pl-f)->f<=pl->pl+m<=n->n-f<=120->Nt pr os->pr.length+120*m<=800000->Wa n (jY wF m pl os) pr λos' pr'=>os'.Perm (Pe f<|pl+m-f)/\Nt pr' os'/\pr<+:pr'/\pr'.length<=pr.length+120*m
 |0,pl,os,pr,hp,hf,hn,hk,h,c=>⟨hp,h,fG _,by lia⟩
 |m+1,pl,os,pr,hp,hf,hn,hk,h,c=>by
  have hl:=hp.length_eq;rw[vm] at hl;have J:In n os pl:=λx hx=>by
   have:=wL.mp<|hp.mem_iff.mp hx;lia
  refine Wa.bind<|(Ih J (by lia) os.length 0 os.length pr (by lia) (cE _) (aK _) ⟨.inl rfl,.inl<|aK _⟩<|by lia).imp λr pr' g=>?_;obtain⟨f1,g1,O,U⟩:=g;refine(Kx m (pl+1) (gR os r pl) pr' ?_ (by lia) (by lia) hk (JN (h.mono f1) g1 O)<|by lia).imp λos' pr2 z=>⟨?_,z.2.1,f1.trans z.2.2.1,?_⟩
  .refine bV.trans ?_;rw[show pl+1-f=pl-f+1 by lia,C2,show f+(pl-f)=pl by lia];exact hp.append_right _
  .rw [show pl+(m+1)-f=pl+1+m-f by lia];exact z.1
  .have:=z.2.2.2;lia
def Sf(pr:List A3)(f j:Nat)(fal:Bool):Prop:=Nb (λa b=>if fal then Td pr b a else Td pr a b)<|Pe f<|j-f
theorem Sf.turn{j:Nat}(h:Sf pr f j fal):Nt pr<|cY f j fal:=by
 unfold cY;cases fal
 .exact h
 .exact Nb.rev h
theorem Sf.snoc{j:Nat}(h:Sf pr f j fal)(g:pr<+:pr')(J:f<j)(t:if fal then Td pr' j (j-1) else Td pr' (j-1) j):Sf pr' f (j+1) fal:=by
 unfold Sf;rw[show j+1-f=(j-f-1)+1+1 by lia,C2,C2,jM];have e:Pe f (j-f)=Pe f (j-f-1)++[f+(j-f-1)]:=by rw[<- C2,show j-f-1+1=j-f by lia]
 refine Nb.two.mpr ⟨?_,?_,trivial⟩
 .rw [<- e];refine Nb.mono (λa b z=>?_) h;cases fal
  .exact Td.mono z g
  .exact Td.mono z g
 .rw [show f+(j-f-1)=j-1 by lia,show f+(j-f-1+1)=j by lia];exact t
theorem tU{stop f:Nat}(J:stop<=n)(fal:Bool):∀(m j:Nat) (pr:List A3),stop<=m+j->f<j->j<=stop->Sf pr f j fal->pr.length+(stop-j)<=800000->Wa n (pG stop fal m j) pr λr pr'=>pr<+:pr'/\j<=r.1/\r.1<=stop/\Sf pr' f r.1 r.2/\pr'.length<=pr.length+(r.1-j)+1
 |0,j,pr,hm,h1,h2,h3,c=>⟨fG _,aK _,h2,h3,by lia⟩
 |m+1,j,pr,hm,h1,h2,h3,c=>by
  rw[pG.eq_2];by_cases z:j<stop
  .rw [Z9 z];refine Wa.UX (by lia) (by lia) (by lia) (by lia) λb pr' f1 l1 O U=>?_;by_cases zb:b=fal
   .rw [Z9 zb];subst zb;refine(tU J b m (j+1) pr' (by lia) (by lia) (by lia) (h3.snoc f1 h1 ?_)<|by lia).imp λr pr2 h=>⟨f1.trans h.1,Nat.le_of_succ_le h.2.1,h.2.2.1,h.2.2.2.1,?_⟩
    .cases b
     .exact U rfl
     .exact O rfl
    .have:=h.2.2.2.2;have:=h.2.1;lia
   .rw [Z8 zb];refine⟨f1,aK _,h2,?_,by lia⟩;refine Nb.mono (λa b' z=>?_) h3;cases fal
    .exact Td.mono z f1
    .exact Td.mono z f1
  .rw [Z8 z];exact⟨fG _,aK _,h2,h3,by lia⟩
theorem Am(U:stop<=n)(Z:f<stop)(c:pr.length+(stop-f)<=800000):Wa n (rX stop f) pr λr pr'=>pr<+:pr'/\f<r.1/\r.1<=stop/\Nt pr' (cY f r.1 r.2)/\pr'.length<=pr.length+(r.1-f):=by
 unfold rX;by_cases z:f+1<stop
 .rw [Z9 z];refine Wa.UX (by lia) (by lia) (by lia) (by lia) λb pr1 f1 l1 J O=>?_;refine(tU (f:=f) U b stop (f+2) pr1 (by lia) (by lia) (by lia) (Sf.snoc (pr:=pr1) (j:=f+1) ?_ (fG _) (by lia) ?_)<|by lia).imp λr pr2 h=>⟨f1.trans h.1,?_,h.2.2.1,h.2.2.2.1.turn,?_⟩
  .unfold Sf;rw[show f+1-f=0+1 by lia,C2];exact trivial
  .cases b
   .exact O rfl
   .exact J rfl
  .have:=h.2.1;lia
  .have:=h.2.2.2.2;have:=h.2.1;lia
 .rw [Z8 z];refine⟨fG _,by lia,by lia,?_,by lia⟩;show Nt pr (cY f (f+1) false);unfold cY;rw[show f+1-f=0+1 by lia,C2];exact trivial
theorem rP(a b:Nat)(f:Bool):(cY a b f).Perm<|Pe a<|b-a:=by
 unfold cY;cases f
 .exact .refl _
 .exact RL _
theorem y9{ls:Nat}(O:stop<=n)(J:f<stop)(hn:n-f<=120)(c:pr.length+122*(stop-f)<=800000):Wa n (HU ls stop f) pr λr pr'=>pr<+:pr'/\r.2.Perm (Pe f r.2.length)/\0<r.2.length/\f+r.2.length<=stop/\Nt pr' r.2/\pr'.length<=pr.length+122*r.2.length:=by
 refine Wa.bind<|(Am O J<|by lia).imp λr pr1 h=>?_;obtain⟨f1,h1,h2,h3,Z⟩:=h;refine Wa.bind<|(Kx (f:=f) (min (f+ls) stop-r.1) r.1 _ pr1 (rP ..) (by lia) (by lia) hn h3<|by lia).imp λos pr2 g=>?_;obtain⟨g1,U,z,g4⟩:=g;have hl:=g1.length_eq;rw[vm] at hl;refine⟨f1.trans z,?_,?_,?_,U,?_⟩<;>dsimp only
 .rw [hl];exact g1
 .lia
 .lia
 .lia
end
end Pw
namespace Po
variable {b f:Nat}
noncomputable abbrev Fr:=Option<|Nat×Nat
noncomputable abbrev W:=Nat->Nat->Option Fr
noncomputable abbrev Mt:=Nat×Nat×Nat
noncomputable def mid(f b:Nat):Nat:=f+(b-f+1)/2
theorem cC(h:¬ b-f<2):f<mid f b/\mid f b<b:=by unfold mid;lia
noncomputable def mts(f b:Nat):List Mt:=if h:b-f<2 then[] else mts f (mid f b)++mts (mid f b) b++[(f,mid f b,b)]
termination_by b-f
decreasing_by
 .have:=cC h;lia
 .have:=cC h;lia
theorem bZ(h:b-f<2):mts f b=[]:=by rw[mts,dif_pos h]
theorem bP(h:¬ b-f<2):mts f b=mts f (mid f b)++mts (mid f b) b++[(f,mid f b,b)]:=by rw[mts,dif_neg h]
theorem tree{P:Nat->Nat->Prop}(h1:∀f b,b-f<2->P f b)(h2:∀f b,¬ b-f<2->P f (mid f b)->P (mid f b) b->P f b)(f b:Nat):P f b:=by
 suffices ∀n f b,b-f<=n->P f b from this _ f b<|aK _
 intro n;induction n with
 |zero=>intro f b h;exact h1 f b<|by lia
 |succ n ih=>
  intro f b h;by_cases z:b-f<2
  .exact h1 f b z
  .have:=cC z;exact h2 f b z (ih _ _<|by lia)<|ih _ _<|by lia
theorem eP(f b:Nat):(mts f b).length=b-f-1:=by
 refine tree (P:=λf b=>(mts f b).length=b-f-1) (λf b h=>?_) (λf b h h1 h2=>?_) f b
 .rw [bZ h];simp;lia
 .have:=cC h;rw[bP h,aW,aW,h1,h2,iC];lia
theorem iT{a m c:Nat}(f b:Nat):(a,m,c)∈mts f b->m=mid a c/\f<=a/\c<=b/\¬ c-a<2:=by
 refine tree (P:=λf b=>(a,m,c)∈mts f b->m=mid a c/\f<=a/\c<=b/\¬ c-a<2) (λf b h=>?_) (λf b h h1 h2=>?_) f b
 .rw [bZ h];intro z;cases z
 .have:=cC h;rw[bP h];intro z;rcases gN.mp z with z|z
  .rcases gN.mp z with z|z
   .have:=h1 z;lia
   .have:=h2 z;lia
  .cases bD.mp z;exact⟨rfl,aK _,aK _,h⟩
noncomputable def put(w:W)(a c:Nat)(v:Fr):W:=λa' c'=>if a'=a/\c'=c then some v else w a' c'
end Po
namespace Pw
variable {u v:Fr}{b d f i ls wd:Nat}{w w':W}{pr pr':List A3}{pcs:List (List Nat)}
structure PS where
 r:Nat
 ps:List<|Nat×List Nat
 gs:List Nat
noncomputable def flt(ps:List<|Nat×List Nat):List Nat:=(ps.map Prod.snd).flatten
noncomputable def mI(gs:List Nat):Bool:=match gs.reverse with
 |a::b::_=>decide<|a<b
 |_=>false
theorem zi(G:List Nat)(g1 z:Nat):mI (G++[g1,z])=decide (z<g1):=by unfold mI;rw[List.reverse_append];rfl
theorem KN{gs:List Nat}(h:mI gs=true):2<=gs.length:=by
 unfold mI at h;rw[<- Dr];revert h;generalize gs.reverse=l;intro h
 match l,h with
 |a::b::l,_=>simp
noncomputable def xr(ps:List<|Nat×List Nat):Nat:=(ps.getLastD (0,[])).1
noncomputable def Fq(i:Nat)(t:PS):Pg<|Option PS:=match t.ps.drop i with
 |p1::p2::B=>(Ha p1.2 p2.2).bind λo=>.ret<|some ⟨t.r,t.ps.take i++(p1.1,o)::B,t.gs.eraseIdx i⟩
 |_=>.ret none
noncomputable def Bg(G:Nat->Nat->Nat->Nat->Nat)(ls s e:Nat)(t:PS):Pg<|Option PS:=(HU ls e t.r).bind λf=>.ret<|some ⟨t.r+f.2.length,t.ps++[(t.r,f.2)],if t.ps.isEmpty then t.gs else t.gs++[G (e-s) (xr t.ps-s) (t.r-s)<|t.r+f.2.length-s]⟩
noncomputable def GV(G:Nat->Nat->Nat->Nat->Nat)(ls s e:Nat)(t:PS):Pg<|Option PS:=
 if mI t.gs then Fq (t.ps.length-3) t else if t.r<e then Bg G ls s e t else if 1<t.ps.length then Fq (t.ps.length-2) t else .ret none
noncomputable def G3(e:Nat)(t:PS):List Nat:=flt t.ps++Pe t.r (e-t.r)
noncomputable def HY(G:Nat->Nat->Nat->Nat->Nat)(ls s e:Nat):Nat->PS->Pg (List Nat)
 |0,t=>.ret<|G3 e t
 |m+1,t=>(GV G ls s e t).bind λo=>match o with
  |none=>.ret<|G3 e t
  |some t'=>HY G ls s e m t'
noncomputable def EF(G:Nat->Nat->Nat->Nat->Nat)(ls s e:Nat):Pg<|List Nat:=HY G ls s e (2*(e-s)+1) ⟨s,[],[]⟩
def Cn(pr:List A3):Nat->List (Nat×List Nat)->Nat->Prop
 |x,[],y=>x=y
 |x,p::ps,y=>p.1=x/\0<p.2.length/\p.2.Perm (Pe x p.2.length)/\Nt pr p.2/\Cn pr (x+p.2.length) ps y
theorem Cn.mono(f:pr<+:pr'):∀{x y:Nat} {ps:List<|Nat×List Nat},Cn pr x ps y->Cn pr' x ps y
 |_,_,[],h=>h
 |_,_,_::_,h=>⟨h.1,h.2.1,h.2.2.1,h.2.2.2.1.mono f,h.2.2.2.2.mono f⟩
theorem Cn.app{pr:List A3}:∀{x y:Nat} {A B:List<|Nat×List Nat},Cn pr x (A++B) y↔∃m,Cn pr x A m/\Cn pr m B y
 |x,y,[],B=>⟨λh=>⟨x,rfl,h⟩,λ⟨m,h1,h2⟩=>by cases h1;exact h2⟩
 |x,y,p::A,B=>⟨λh=>let ⟨m,a,b⟩:=Cn.app.mp h.2.2.2.2;⟨m,⟨h.1,h.2.1,h.2.2.1,h.2.2.2.1,a⟩,b⟩,λ⟨m,a,b⟩=>⟨a.1,a.2.1,a.2.2.1,a.2.2.2.1,Cn.app.mpr ⟨m,a.2.2.2.2,b⟩⟩⟩
theorem Cn.le:∀{x y:Nat} {ps:List<|Nat×List Nat},Cn pr x ps y->x+ps.length<=y
 |_,_,[],h=>Rz h
 |x,y,p::ps,h=>by
  have:=h.2.2.2.2.le;have:=h.2.1;rw[bS];lia
def Cl:Nat->List (Nat×List Nat)->Nat->Prop
 |x,[],y=>x=y
 |x,p::ps,y=>p.1=x/\0<p.2.length/\Cl (x+p.2.length) ps y
theorem Cl.app:∀{x y:Nat} {A B:List<|Nat×List Nat},Cl x (A++B) y↔∃m,Cl x A m/\Cl m B y
 |x,y,[],B=>⟨λh=>⟨x,rfl,h⟩,λ⟨m,h1,h2⟩=>by cases h1;exact h2⟩
 |x,y,p::A,B=>⟨λh=>let ⟨m,a,b⟩:=Cl.app.mp h.2.2;⟨m,⟨h.1,h.2.1,a⟩,b⟩,λ⟨m,a,b⟩=>⟨a.1,a.2.1,Cl.app.mpr ⟨m,a.2.2,b⟩⟩⟩
theorem Cl.le:∀{x y:Nat} {ps:List<|Nat×List Nat},Cl x ps y->x+ps.length<=y/\(flt ps).length=y-x
 |_,_,[],h=>⟨Rz h,by cases h;rw[jT];rfl⟩
 |x,y,p::ps,h=>by
  have h1:=h.2.2.le;have h2:=h.2.1;refine⟨by rw[bS];lia,?_⟩;show(p.2++flt ps).length=_;rw[aW,h1.2];lia
structure PI(n s e:Nat)(pr:List A3)(t:PS):Prop where
 cn:Cn pr s t.ps t.r
 re:t.r<=e
 gl:t.gs.length=t.ps.length-1
theorem q5{α:Type}{l:List α}(h:i+2<=l.length):∃A x y B,l=A++x::y::B/\A.length=i/\l.drop i=x::y::B/\l.take i=A:=by
 have h1:i<l.length:=by lia
 have h2:i+1<l.length:=by lia
 refine⟨l.take i,l[i],l[i+1],l.drop<|i+2,?_,by rw[gV];lia,?_,rfl⟩
 .rw [<- zL h2,<- zL h1,xg]
 .rw [<- zL h2,<- zL h1]
section
variable {n s e:Nat}{G:Nat->Nat->Nat->Nat->Nat}
def Sd(n s e:Nat)(pr:List A3)(t:PS)(o:Option PS)(pr':List A3):Prop:=pr<+:pr'/\match o with
 |none=>t.r=e/\t.ps.length<=1/\pr'=pr
 |some t'=>PI n s e pr' t'/\2*(e-t'.r)+t'.ps.length<2*(e-t.r)+t.ps.length/\pr'.length+400*(e-t'.r)+250*t'.ps.length<=pr.length+400*(e-t.r)+250*t.ps.length
theorem yK{t:PS}(h:PI n s e pr t)(hi:i+2<=t.ps.length)(he:e<=n)(hn:n<=120)(c:pr.length<=790000):Wa n (Fq i t) pr<|Sd n s e pr t:=by
 obtain⟨A,J,p2,B,e1,e2,e3,e4⟩:=q5 hi;have O:=h.cn;rw[e1] at O;obtain⟨m,c1,c2⟩:=Cn.app.mp O;obtain⟨h1,h2,h3,h4,g1,g2,g3,g4,g5⟩:=c2;have l1:=c1.le;have l2:=g5.le;have Z:=h.re;have m1:∀x∈J.2,m<=x/\x<m+J.2.length:=λx hx=>wL.mp<|h3.mem_iff.mp hx;have m2:∀x∈p2.2,m+J.2.length<=x/\x<m+J.2.length+p2.2.length:=λx hx=>wL.mp<|g3.mem_iff.mp hx;unfold Fq;rw[e3];dsimp only;refine Wa.bind<|(LM (n:=n) (pr:=pr) (l:=J.2) (r:=p2.2) ⟨λx hx=>by have:=m1 x hx;lia,λx hx=>by have:=m2 x hx;lia,λx hx y hy=>by have:=m1 x hx;have:=m2 y hy;lia⟩ h4 g4<|by lia).imp λo pr' z=>?_;obtain⟨z1,z2,U,z4⟩:=z;have hl:=z1.length_eq;rw[aW] at hl;rw[e4];have e6:(A++(J.1,o)::B).length+1=t.ps.length:=by rw[e1];simp;lia
 refine⟨U,⟨Cn.app.mpr ⟨m,c1.mono U,h1,by dsimp only;lia,?_,z2,?_⟩,Z,?_⟩,?_,?_⟩<;>dsimp only
 .rw [hl];refine z1.trans<|(h3.append g3).trans ?_;have:=RE (s:=m) (m:=J.2.length) (n:=p2.2.length) (step:=1);rw[TH] at this;rw[this]
 .rw [hl,<- Nat.add_assoc];exact g5.mono U
 .rw [List.length_eraseIdx];have:=h.gl;split<;>lia
 .lia
 .lia
theorem Bf{t:PS}(h:PI n s e pr t)(hr:t.r<e)(O:e<=n)(hn:n<=120)(c:pr.length<=780000):Wa n (Bg G ls s e t) pr<|Sd n s e pr t:=by
 refine Wa.bind<|(y9 (n:=n) (pr:=pr) (ls:=ls) O hr (by lia)<|by lia).imp λf pr' z=>?_;obtain⟨J,z2,U,z4,Z,z6⟩:=z;refine⟨J,⟨Cn.app.mpr ⟨t.r,h.cn.mono J,rfl,U,z2,Z,rfl⟩,by dsimp only;lia,?_⟩,?_,?_⟩<;>dsimp only
 .have:=h.gl;rw[aW,iC];cases hp:t.ps with
  |nil=>rw[hp] at this;simpa using this
  |cons p q=>
   rw[hp] at this;rw[Z8 (by simp),aW,iC,this,bS];lia
 .rw [aW,iC];lia
 .rw [aW,iC];lia
theorem xT{t:PS}(h:PI n s e pr t)(z:e<=n)(hn:n<=120)(c:pr.length<=780000):Wa n (GV G ls s e t) pr<|Sd n s e pr t:=by
 unfold GV;by_cases h1:mI t.gs=true
 .rw [Z9 h1];have:=KN h1;have:=h.gl;exact yK h (by lia) z hn<|by lia
 rw[Z8 h1];by_cases h2:t.r<e
 .rw [Z9 h2];exact Bf h h2 z hn c
 rw[Z8 h2];by_cases h3:1<t.ps.length
 .rw [Z9 h3];exact yK h (by lia) z hn<|by lia
 rw[Z8 h3];have:=h.re;exact⟨fG _,by lia,by lia,rfl⟩
theorem nK{t:PS}(h:PI n s e pr t)(h1:t.r=e)(h2:t.ps.length<=1):(G3 e t).Perm (Pe s<|e-s)/\Nt pr (G3 e t):=by
 have hc:=h.cn;unfold G3;rw[h1,jT,List.range'_zero,gW]
 match hp:t.ps,h2 with
 |[],_=>
  rw[hp] at hc;have:s=e:=by rw[<- h1];exact hc
  rw[this,jT];exact⟨.refl _,trivial⟩
 |[p],_=>
  rw[hp] at hc;have z:s+p.2.length=t.r:=hc.2.2.2.2;have e2:flt [p]=p.2:=by unfold flt;simp
  rw[e2,show e-s=p.2.length by lia];exact⟨hc.2.2.1,hc.2.2.2.1⟩
theorem qy(J:e<=n)(hn:n<=120):∀(m:Nat) (t:PS) (pr:List A3),PI n s e pr t->2*(e-t.r)+t.ps.length<=m->pr.length+400*(e-t.r)+250*t.ps.length<=780000->
  Wa n (HY G ls s e m t) pr λos pr'=>os.Perm (Pe s<|e-s)/\Nt pr' os/\pr<+:pr'/\pr'.length<=pr.length+400*(e-t.r)+250*t.ps.length
 |0=>λt pr h hm c=>by
  have:=h.re;have z:=nK h (by lia) (by lia);exact⟨z.1,z.2,fG _,by lia⟩
 |m+1=>λt pr h hm c=>by
  refine Wa.bind<|(xT h J hn<|by lia).imp λo pr1 z=>?_;cases o with
  |none=>
   obtain⟨f,a,b,rfl⟩:=z;have z:=nK h a b;exact⟨z.1,z.2,f,by lia⟩
  |some t'=>
   obtain⟨f,a,b,c'⟩:=z;refine(qy J hn m t' pr1 a (by lia)<|by lia).imp λos pr2 y=>⟨y.1,y.2.1,f.trans y.2.2.1,?_⟩
   have:=y.2.2.2;lia
theorem G9(J:s<=e)(z:e<=n)(hn:n<=120)(c:pr.length+400*(e-s)<=780000):Wa n (EF G ls s e) pr λos pr'=>os.Perm (Pe s<|e-s)/\Nt pr' os/\pr<+:pr'/\pr'.length<=pr.length+400*(e-s):=
 qy z hn _ ⟨s,[],[]⟩ pr ⟨rfl,J,rfl⟩ (by dsimp only[Pz];lia)<|by dsimp only[Pz];lia
end
open Po (Fr W Mt mts mid put bZ bP cC eP iT)
noncomputable def Bb:Fr->Fr->Pg Fr
 |none,o=>.ret o
 |some x,none=>.ret<|some x
 |some x,some y=>UX x.1 y.1 λb=>.ret (if b then some x else some y)
noncomputable def kT:List Mt->W->Pg (Option W)
 |[],w=>.ret<|some w
 |m::ms,w=>match w m.1 m.2.1,w m.2.1 m.2.2 with
  |some u,some v=>(Bb u v).bind λx=>kT ms<|put w m.1 m.2.2 x
  |_,_=>.ret none
noncomputable def nV(pcs:List<|List Nat)(ts:List Nat)(i:Nat):Fr:=((pcs.getD i [])[ts.getD i 0]?).map λx=>(x,i)
noncomputable def sf(i:Nat)(m:Mt):Bool:=decide (m.1<=i)&&decide (i<m.2.2)
noncomputable def rR(ts:List Nat)(i:Nat):List Nat:=ts.set i<|ts.getD i 0+1
noncomputable def oK(pcs:List<|List Nat):Nat->List Nat->W->List Nat->Pg (Option<|List Nat)
 |0,_,_,acc=>.ret<|some acc
 |k+1,ts,w,acc=>match w 0 pcs.length with
  |some (some c)=>(kT ((mts 0 pcs.length).filter<|sf c.2)<|put w c.2 (c.2+1)<|nV pcs (rR ts c.2) c.2).bind λo=>match o with
   |none=>.ret none
   |some w'=>oK pcs k (rR ts c.2) w'<|acc++[c.1]
  |_=>.ret none
noncomputable def wN(pcs:List<|List Nat)(k:Nat):W:=λa c=>if c=a+1/\a<k then some (nV pcs (Pf pcs.length 0) a) else none
noncomputable def C1(pcs:List<|List Nat):Pg<|Option<|List Nat:=(kT (mts 0 pcs.length)<|wN pcs pcs.length).bind λo=>match o with
 |none=>.ret none
 |some w=>oK pcs (pcs.map Pz).sum (Pf pcs.length 0) w []
def Me(pr:List A3):Fr->Fr->Fr->Prop
 |none,v,x=>x=v
 |some u,none,x=>x=some u
 |some u,some v,x=>(x=some u/\Td pr u.1 v.1)∨(x=some v/\Td pr v.1 u.1)
theorem Me.mono(f:pr<+:pr'):∀{u v x:Fr},Me pr u v x->Me pr' u v x
 |none,_,_,h=>h
 |some _,none,_,h=>h
 |some _,some _,_,h=>h.imp (λz=>⟨z.1,z.2.mono f⟩) λz=>⟨z.1,z.2.mono f⟩
theorem Me.or:∀{u v x:Fr},Me pr u v x->x=u∨x=v
 |none,_,_,h=>.inr h
 |some _,none,_,h=>.inl h
 |some _,some _,_,h=>h.imp (λz=>z.1) λz=>z.1
def Nd(pr:List A3)(w:W)(m:Mt):Prop:=∃u v x,w m.1 m.2.1=some u/\w m.2.1 m.2.2=some v/\w m.1 m.2.2=some x/\Me pr u v x
theorem Nd.congr{m:Mt}(h:Nd pr w m)(f:pr<+:pr')(z:w' m.1 m.2.1=w m.1 m.2.1)(e2:w' m.2.1 m.2.2=w m.2.1 m.2.2)(e3:w' m.1 m.2.2=w m.1 m.2.2):Nd pr' w' m:=
 let ⟨u,v,x,h1,h2,h3,h4⟩:=h;⟨u,v,x,by rw[z,h1],by rw[e2,h2],by rw[e3,h3],h4.mono f⟩
structure Tr(pr:List A3)(fr:Nat->Fr)(w:W)(f b:Nat):Prop where
 lf:∀i,f<=i->i<b->w i (i+1)=some (fr i)
 nd:∀m∈mts f b,Nd pr w m
section
variable {n:Nat}{fr:Nat->Fr}
theorem Tr.congr(h:Tr pr fr w f b)(g:pr<+:pr')(e:∀a c,f<=a->c<=b->a<c->w' a c=w a c):Tr pr' fr w' f b:=
 ⟨λi h1 h2=>by rw[e i (i+1) h1 (by lia)<|by lia];exact h.lf i h1 h2,λm hm=>by
  obtain⟨U,O,J,z⟩:=iT (a:=m.1) (m:=m.2.1) (c:=m.2.2) _ _ hm;have:=cC z;exact(h.nd m hm).congr g (e _ _ (by lia) (by lia)<|by lia) (e _ _ (by lia) (by lia)<|by lia)<|e _ _ (by lia) (by lia)<|by lia⟩
theorem Tr.top(h:Tr pr fr w f b)(J:f<b):∃x,w f b=some x:=by
 by_cases z:b-f<2
 .rw [show b=f+1 by lia];exact⟨_,h.lf f (aK _) J⟩
 .obtain ⟨u,v,x,_,_,e,_⟩:=h.nd (f,mid f b,b) (by rw[bP z];exact gM _ aU);exact⟨x,e⟩
theorem Tr.down(z:¬ b-f<2)(h:Tr pr fr w f b):Tr pr fr w f (mid f b)/\Tr pr fr w (mid f b) b/\Nd pr w (f,mid f b,b):=by
 have:=cC z;refine⟨⟨λi h1 h2=>h.lf i h1<|by lia,λm hm=>h.nd m ?_⟩,⟨λi h1 h2=>h.lf i (by lia) h2,λm hm=>h.nd m ?_⟩,h.nd _ ?_⟩<;>rw[bP z]
 .exact kW _ (kW _ hm)
 .exact kW _ (gM _ hm)
 .exact gM _ aU
theorem Tr.mem(f b:Nat):Tr pr fr w f b->f<b->∀x,w f b=some (some x)->(∀i y,fr i=some y->y.2=i)->f<=x.2/\x.2<b/\fr x.2=some x:=by
 refine Po.tree (P:=λf b=>Tr pr fr w f b->f<b->∀x,w f b=some (some x)->(∀i y,fr i=some y->y.2=i)->f<=x.2/\x.2<b/\fr x.2=some x) (λf b z h J x hx hi=>?_) (λf b z U i2 h J x hx hi=>?_) f b
 .have e:=h.lf f (aK _) J;rw[show f+1=b by lia,hx] at e;have e2:=OS e;rw[hi f x e2.symm];exact⟨aK _,J,e2.symm⟩
 .have:=cC z;obtain⟨O,Z,u,v,x',a1,a2,a3,a4⟩:=h.down z;dsimp only at a1 a2 a3;rw[hx] at a3;cases a3;rcases a4.or with e|e
  .have:=U O (by lia) x (by rw[a1,e]) hi;exact⟨this.1,by lia,this.2.2⟩
  .have:=i2 Z (by lia) x (by rw[a2,e]) hi;exact⟨by lia,this.2.1,this.2.2⟩
theorem Tr.Ux(f b:Nat):Tr pr fr w f b->f<b->w f b=some none->∀i,f<=i->i<b->fr i=none:=by
 refine Po.tree (P:=λf b=>Tr pr fr w f b->f<b->w f b=some none->∀i,f<=i->i<b->fr i=none) (λf b z h J hx i h1 h2=>?_) (λf b z U i2 h J hx i h1 h2=>?_) f b
 .have e:=h.lf f (aK _) J;rw[show f+1=b by lia,hx] at e;rw[show i=f by lia];exact(OS e).symm
 .have:=cC z;obtain⟨O,Z,u,v,x',a1,a2,a3,a4⟩:=h.down z;dsimp only at a1 a2 a3;rw[hx] at a3;cases a3;have e:u=none/\v=none:=by
   cases u with
   |none=>exact⟨rfl,Eq.symm a4⟩
   |some u=>
    cases v with
    |none=>cases a4
    |some v=>rcases a4 with ⟨z,_⟩|⟨z,_⟩<;>cases z
  rw[e.1] at a1;rw[e.2] at a2;by_cases hi:i<mid f b
  .exact U O (by lia) a1 i h1 hi
  .exact i2 Z (by lia) a2 i (by lia) h2
structure Fo(n:Nat)(fr:Nat->Fr):Prop where
 ix:∀i y,fr i=some y->y.2=i
 lt:∀i y,fr i=some y->y.1<n
 ne:∀i j x y,i≠j->fr i=some x->fr j=some y->x.1≠y.1
theorem Kp{P:Fr->List A3->Prop}(Z:∀x,u=some x->x.1<n)(J:∀x,v=some x->x.1<n)(z:∀x y,u=some x->v=some y->x.1≠y.1)(c:pr.length<=800000)(h:∀x pr',pr<+:pr'->pr'.length<=pr.length+1->Me pr' u v x->P x pr'):Wa n (Bb u v) pr P:=by
 cases u with
 |none=>exact h v pr (fG _) (by lia) rfl
 |some x=>
  cases v with
  |none=>exact h (some x) pr (fG _) (by lia) rfl
  |some y=>
   show Wa n (UX x.1 y.1 λb=>.ret<|if b then some x else some y) pr P;refine Wa.UX (z x y rfl rfl) (Z x rfl) (J y rfl) c λb pr' f l O U=>?_;cases b
   .exact h _ _ f (by lia) (.inr ⟨rfl,U rfl⟩)
   .exact h _ _ f (by lia) (.inl ⟨rfl,O rfl⟩)
theorem G7{a c:Nat}:put w a c v a c=some v:=by unfold Po.put;rw[Z9 ⟨rfl,rfl⟩]
theorem G8{a c a' c':Nat}(h:¬ (a'=a/\c'=c)):put w a c v a' c'=w a' c':=by unfold Po.put;rw[Z8 h]
theorem Tr.up{x:Fr}(z:¬ b-f<2)(O:Tr pr fr w f<|mid f b)(U:Tr pr fr w (mid f b) b)(h1:w f (mid f b)=some u)(h2:w (mid f b) b=some v)(Z:Me pr u v x):Tr pr fr (put w f b x) f b:=by
 have hm:=cC z;have g:∀a c,¬ (a=f/\c=b)->put w f b x a c=w a c:=λa c h=>G8 h;refine⟨λi h1 h2=>?_,λm J=>?_⟩
 .rw [g _ _<|by lia];by_cases hi:i<mid f b
  .exact O.lf i h1 hi
  .exact U.lf i (by lia) h2
 .rw [bP z] at J;rcases gN.mp J with J|J
  .rcases gN.mp J with J|J
   .exact (O.congr (fG _) λa c _ _ _=>g _ _<|by lia).nd m J
   .exact (U.congr (fG _) λa c _ _ _=>g _ _<|by lia).nd m J
  .cases bD.mp J;exact⟨u,v,x,by rw[g _ _<|by dsimp only;lia];exact h1,by rw[g _ _<|by dsimp only;lia];exact h2,G7,Z⟩
theorem yU(O:Fo n fr)(f b:Nat):f<b->∀(w:W) (pr:List A3) (ms:List Mt) (P:Option W->List A3->Prop),(∀i,f<=i->i<b->w i (i+1)=some (fr i))->pr.length+(b-f)<=800000->
  (∀w' pr',pr<+:pr'->(∀a c,¬ (f<=a/\c<=b/\a+2<=c)->w' a c=w a c)->Tr pr' fr w' f b->pr'.length+1<=pr.length+(b-f)->Wa n (kT ms w') pr' P)->Wa n (kT (mts f b++ms) w) pr P:=by
 refine Po.tree (P:=λf b=>f<b->∀(w:W) (pr:List A3) (ms:List Mt) (P:Option W->List A3->Prop),(∀i,f<=i->i<b->w i (i+1)=some (fr i))->pr.length+(b-f)<=800000-> (∀w' pr',pr<+:pr'->(∀a c,¬ (f<=a/\c<=b/\a+2<=c)->w' a c=w a c)->Tr pr' fr w' f b->pr'.length+1<=pr.length+(b-f)->Wa n (kT ms w') pr' P)->Wa n (kT (mts f b++ms) w) pr P) (λf b z hb w pr ms P hl c k=>?_) (λf b z i1 i2 hb w pr ms P hl c k=>?_) f b
 .rw [bZ z];exact k w pr (fG _) (λ_ _ _=>rfl) ⟨hl,λm hm=>by rw[bZ z] at hm;cases hm⟩<|by lia
 .have hm:=cC z;rw[bP z,jM,jM];refine i1 (by lia) w pr _ P (λi h1 h2=>hl i h1<|by lia) (by lia) λw1 pr1 f1 e1 t1 l1=>?_;refine i2 (by lia) w1 pr1 _ P (λi h1 h2=>by rw[e1 _ _<|by lia];exact hl i (by lia) h2) (by lia) λw2 pr2 f2 e2 t2 l2=>?_;have J:Tr pr2 fr w2 f<|mid f b:=t1.congr f2 λa c h1 h2 h3=>e2 a c (by lia);obtain⟨u,hu⟩:=J.top (by lia);obtain⟨v,hv⟩:=t2.top (by lia);have mu:∀x,u=some x->f<=x.2/\x.2<mid f b/\fr x.2=some x:=λx e=>Tr.mem _ _ J (by lia) x (by rw[hu,e]) O.ix;have U:∀x,v=some x->mid f b<=x.2/\x.2<b/\fr x.2=some x:=λx e=>Tr.mem _ _ t2 (by lia) x (by rw[hv,e]) O.ix;show Wa n (kT ((f,mid f b,b)::ms) w2) pr2 P;rw[kT];dsimp only;rw[hu,hv];refine Wa.bind<|Kp (λx e=>O.lt _ _ (mu x e).2.2) (λx e=>O.lt _ _ (U x e).2.2) (λx y ex ey=>O.ne x.2 y.2 x y (by have:=mu x ex;have:=U y ey;lia) (mu x ex).2.2 (U y ey).2.2) (by lia) λx Z f3 l3 me=>?_;refine k _ Z (f1.trans<|f2.trans f3) (λa c h=>?_) (Tr.up z (J.congr f3 λ_ _ _ _ _=>rfl) (t2.congr f3 λ_ _ _ _ _=>rfl) hu hv me) (by lia);rw[G8<|by lia,e2 _ _<|by lia,e1 _ _<|by lia]
def Gd(pr:List A3)(x:Nat)(o:Option Fr):Prop:=∀c,o=some (some c)->Td pr x c.1
theorem lL(h:¬ (f<=i/\i<b)):(mts f b).filter (sf i)=[]:=by
 rw[List.filter_eq_nil_iff];intro m hm;obtain⟨_,O,J,_⟩:=iT (a:=m.1) (m:=m.2.1) (c:=m.2.2) _ _ hm;unfold sf;intro z;rw[rN,decide_eq_true_eq,decide_eq_true_eq] at z;lia
theorem qY(z:¬ b-f<2)(h:f<=i/\i<b):(mts f b).filter (sf i)=(mts f<|mid f b).filter (sf i)++((mts (mid f b) b).filter (sf i)++[(f,mid f b,b)]):=by
 rw[bP z,Aa,Aa,jM,Qs<|by unfold sf;rw[rN,decide_eq_true_eq,decide_eq_true_eq];exact h];rfl
theorem yT{fr':Nat->Fr}{w0:W}{x0:Nat}(ho:Fo n fr)(J:Fo n fr')(hf:∀j,j≠i->fr' j=fr j)(f b:Nat):f<=i->i<b->∀(w:W) (pr:List A3) (ms:List Mt) (P:Option W->List A3->Prop),Tr pr fr w0 f b->(∀a c,f<=a->c<=b->a<c->¬ (a=i/\c=i+1)->w a c=w0 a c)->w i (i+1)=some (fr' i)->(∀y,fr' i=some y->Td pr x0 y.1)->pr.length+(b-f)<=800000->
  (∀w' pr',pr<+:pr'->(∀a c,¬ (f<=a/\c<=b/\a+2<=c)->w' a c=w a c)->Tr pr' fr' w' f b->(w0 f b=some (some (x0,i))->Gd pr' x0 (w' f b))->pr'.length+1<=pr.length+(b-f)->Wa n (kT ms w') pr' P)->Wa n (kT ((mts f b).filter (sf i)++ms) w) pr P:=by
 refine Po.tree (P:=λf b=>f<=i->i<b->∀(w:W) (pr:List A3) (ms:List Mt) (P:Option W->List A3->Prop),Tr pr fr w0 f b->(∀a c,f<=a->c<=b->a<c->¬ (a=i/\c=i+1)->w a c=w0 a c)->w i (i+1)=some (fr' i)->(∀y,fr' i=some y->Td pr x0 y.1)->pr.length+(b-f)<=800000-> (∀w' pr',pr<+:pr'->(∀a c,¬ (f<=a/\c<=b/\a+2<=c)->w' a c=w a c)->Tr pr' fr' w' f b->(w0 f b=some (some (x0,i))->Gd pr' x0 (w' f b))->pr'.length+1<=pr.length+(b-f)->Wa n (kT ms w') pr' P)->Wa n (kT ((mts f b).filter (sf i)++ms) w) pr P) (λf b z h1 h2 w pr ms P t e hw hx c k=>?_) (λf b z i1 i2 h1 h2 w pr ms P t e hw hx c k=>?_) f b
 .rw [bZ z];have Z:f=i:=by lia
  have e2:b=i+1:=by lia
  subst Z;subst e2;exact k w pr (fG _) (λ_ _ _=>rfl) ⟨λj g1 U=>by rw[show j=f by lia];exact hw,λm hm=>by rw[bZ z] at hm;cases hm⟩ (λ_ c hc=>hx c<|by rw[hw] at hc;exact OS hc)<|by lia
 .have hm:=cC z;rw[qY z ⟨h1,h2⟩,jM,jM];obtain⟨t1,t2,u0,v0,z0,a1,a2,a3,a4⟩:=t.down z;dsimp only at a1 a2 a3;by_cases hi:i<mid f b
  .rw [lL (f:=mid f b) (b:=b)<|by lia,BQ];refine i1 h1 hi w pr _ P t1 (λa c g1 U=>e a c g1<|by lia) hw hx (by lia) λw1 pr1 f1 Z s1 gd l1=>?_;have s2:Tr pr1 fr' w1 (mid f b) b:=by
    have s:=t2.congr f1 (w':=w1) λa c g1 U g3=>by rw[Z a c<|by lia,e a c (by lia) U g3<|by lia]
    exact⟨λj g1 U=>by rw[hf j<|by lia];exact s.lf j g1 U,s.nd⟩
   obtain⟨u,hu⟩:=s1.top (by lia);have hv:w1 (mid f b) b=some v0:=by rw[Z _ _<|by lia,e _ _ (by lia) (aK _) (by lia)<|by lia];exact a2
   have mu:∀x,u=some x->f<=x.2/\x.2<mid f b/\fr' x.2=some x:=λx q=>Tr.mem _ _ s1 (by lia) x (by rw[hu,q]) J.ix;have mv:∀x,v0=some x->mid f b<=x.2/\x.2<b/\fr' x.2=some x:=λx q=>Tr.mem _ _ s2 (by lia) x (by rw[hv,q]) J.ix;show Wa n (kT ((f,mid f b,b)::ms) w1) pr1 P;rw[kT];dsimp only;rw[hu,hv];refine Wa.bind<|Kp (λx q=>J.lt _ _ (mu x q).2.2) (λx q=>J.lt _ _ (mv x q).2.2) (λx y ex ey=>J.ne x.2 y.2 x y (by have:=mu x ex;have:=mv y ey;lia) (mu x ex).2.2 (mv y ey).2.2) (by lia) λx aa O l3 me=>?_;refine k _ aa (f1.trans O) (λa c h=>?_) (Tr.up z (s1.congr O λ_ _ _ _ _=>rfl) (s2.congr O λ_ _ _ _ _=>rfl) hu hv me) (λh0 c hc=>?_)<|by lia
   .rw [G8<|by lia,Z _ _<|by lia]
   .rw [G7] at hc;have hc:=OS hc;rw[a3] at h0;have h0:=OS h0;subst h0;have ev:v0≠some (x0,i):=λq=>by have:=mv _ q;dsimp only at this;lia
    have eu:u0=some (x0,i):=by
     rcases a4.or with q|q
     .exact q.symm
     .exact absurd q.symm ev
    rcases me.or with q|q
    .rw [q] at hc;exact(gd (by rw[a1,eu]) c<|by rw[hu,hc]).mono O
    .rw [q] at hc;rw[eu,hc] at a4;rcases a4 with ⟨_,y⟩|⟨y,_⟩
     .exact y.mono (f1.trans O)
     .rw [hc] at ev;exact absurd y.symm ev
  .rw [lL (f:=f) (b:=mid f b)<|by lia,BQ];refine i2 (by lia) h2 w pr _ P t2 (λa c g1 U=>e a c (by lia) U) hw hx (by lia) λw1 pr1 f1 Z s2 gd l1=>?_;have s1:Tr pr1 fr' w1 f<|mid f b:=by
    have s:=t1.congr f1 (w':=w1) λa c g1 U g3=>by rw[Z a c<|by lia,e a c g1 (by lia) g3<|by lia]
    exact⟨λj g1 U=>by rw[hf j<|by lia];exact s.lf j g1 U,s.nd⟩
   obtain⟨v,hv⟩:=s2.top (by lia);have hu:w1 f (mid f b)=some u0:=by rw[Z _ _<|by lia,e _ _ (aK _) (by lia) (by lia)<|by lia];exact a1
   have mu:∀x,u0=some x->f<=x.2/\x.2<mid f b/\fr' x.2=some x:=λx q=>Tr.mem _ _ s1 (by lia) x (by rw[hu,q]) J.ix;have mv:∀x,v=some x->mid f b<=x.2/\x.2<b/\fr' x.2=some x:=λx q=>Tr.mem _ _ s2 (by lia) x (by rw[hv,q]) J.ix;show Wa n (kT ((f,mid f b,b)::ms) w1) pr1 P;rw[kT];dsimp only;rw[hu,hv];refine Wa.bind<|Kp (λx q=>J.lt _ _ (mu x q).2.2) (λx q=>J.lt _ _ (mv x q).2.2) (λx y ex ey=>J.ne x.2 y.2 x y (by have:=mu x ex;have:=mv y ey;lia) (mu x ex).2.2 (mv y ey).2.2) (by lia) λx aa O l3 me=>?_;refine k _ aa (f1.trans O) (λa c h=>?_) (Tr.up z (s1.congr O λ_ _ _ _ _=>rfl) (s2.congr O λ_ _ _ _ _=>rfl) hu hv me) (λh0 c hc=>?_)<|by lia
   .rw [G8<|by lia,Z _ _<|by lia]
   .rw [G7] at hc;have hc:=OS hc;rw[a3] at h0;have h0:=OS h0;subst h0;have eu:u0≠some (x0,i):=λq=>by have:=mu _ q;dsimp only at this;lia
    have ev:v0=some (x0,i):=by
     rcases a4.or with q|q
     .exact absurd q.symm eu
     .exact q.symm
    rcases me.or with q|q
    .rw [q] at hc;rw[ev,hc] at a4;rcases a4 with ⟨y,_⟩|⟨_,y⟩
     .rw [hc] at eu;exact absurd y.symm eu
     .exact y.mono (f1.trans O)
    .rw [q] at hc;exact(gd (by rw[a2,ev]) c<|by rw[hv,hc]).mono O
end
theorem Nb.at{R:Nat->Nat->Prop}:∀{l:List Nat} {i a b:Nat},Nb R l->l[i]?=some a->l[i+1]?=some b->R a b
 |[],i,a,b,_,h,_=>by simp at h
 |[x],i,a,b,_,_,h=>by simp at h
 |x::y::l,0,a,b,h,h1,h2=>by cases h1;cases h2;exact h.1
 |x::y::l,i+1,a,b,h,h1,h2=>Nb.at (l:=y::l) h.2 (by simpa using h1)<|by simpa using h2
noncomputable def jH:List (List Nat)->List Nat->List Nat
 |p::ps,t::ts=>p.drop t++jH ps ts
 |_,_=>[]
theorem qg:∀{pcs:List<|List Nat} {ts:List Nat} {i t x:Nat} {p:List Nat},pcs[i]?=some p->ts[i]?=some t->p[t]?=some x->(jH pcs ts).Perm (x::jH pcs (ts.set i<|t+1))
 |[],_,_,_,_,_,h,_,_=>by simp at h
 |_::_,[],_,_,_,_,_,h,_=>by simp at h
 |q::ps,u::ts,0,t,x,p,h1,h2,h3=>by
  cases h1;cases h2;obtain⟨hl,e⟩:=gX.mp h3;show(q.drop u++jH ps ts).Perm (x::(q.drop (u+1)++jH ps ts));rw[zL hl,e];exact .refl _
 |q::ps,u::ts,i+1,t,x,p,h1,h2,h3=>by
  have:=qg (pcs:=ps) (ts:=ts) (i:=i) (by simpa using h1) (by simpa using h2) h3;show(q.drop u++jH ps ts).Perm (x::(q.drop u++jH ps (ts.set i<|t+1)));exact(this.append_left _).trans List.perm_middle
theorem tV:∀{pcs:List<|List Nat} {ts:List Nat},(∀i,i<pcs.length->(pcs.getD i [])[ts.getD i 0]?=none)->jH pcs ts=[]
 |[],_,_=>rfl
 |_::_,[],_=>rfl
 |p::ps,t::ts,h=>by
  have h0:=h 0 (by simp);have h1:=tV (pcs:=ps) (ts:=ts) λi hi=>by
   have:=h (i+1) (by simpa using hi);simpa using this
  show p.drop t++jH ps ts=[];have z:p[t]?=none:=by simpa using h0
  rw[h1,gW,Qw<|List.getElem?_eq_none_iff.mp z]
theorem Lj:∀pcs:List<|List Nat,jH pcs (Pf pcs.length 0)=pcs.flatten
 |[]=>rfl
 |p::ps=>by
  rw[bS,List.replicate_succ];show p.drop 0++jH ps (Pf ps.length 0)=_;rw[Lj ps];rfl
structure Pc(n:Nat)(pr:List A3)(pcs:List<|List Nat):Prop where
 nt:∀p∈pcs,Nt pr p
 nd:pcs.flatten.Nodup
 lt:∀x∈pcs.flatten,x<n
theorem Pc.mono{n:Nat}(h:Pc n pr pcs)(f:pr<+:pr'):Pc n pr' pcs:=⟨λp z=>(h.nt p z).mono f,h.nd,h.lt⟩
theorem C0{ts:List Nat}{y:Nat×Nat}(h:nV pcs ts i=some y):y.2=i/\∃p,pcs[i]?=some p/\p[ts.getD i 0]?=some y.1:=by
 unfold nV at h;obtain⟨x,h1,h2⟩:=zM.mp h;rw[<- h2];refine⟨rfl,?_⟩;rw[iA] at h1;cases e:pcs[i]? with
 |none=>rw[e] at h1;simp at h1
 |some p=>rw[e] at h1;exact⟨p,rfl,h1⟩
theorem Pc.fo{n:Nat}(h:Pc n pr pcs)(ts:List Nat):Fo n<|nV pcs ts:=by
 refine⟨λi y J=>(C0 J).1,λi y J=>?_,λi j x y O hx J=>?_⟩
 .obtain ⟨_,p,h1,h2⟩:=C0 J;exact h.lt _<|List.mem_flatten.mpr ⟨p,jB h1,jB h2⟩
 .obtain ⟨_,p,h1,h2⟩:=C0 hx;obtain⟨_,q,g1,g2⟩:=C0 J;have Z:=(List.pairwise_flatten.mp h.nd).2;have hx:=jB h2;have J:=jB g2;obtain⟨a1,a2⟩:=gX.mp h1;obtain⟨U,b2⟩:=gX.mp g1;rcases Nat.lt_or_gt_of_ne O with z|z
  .exact Fd.mp Z i j a1 U z x.1 (by rw[a2];exact hx) y.1 (by rw[b2];exact J)
  .exact OY (Fd.mp Z j i U a1 z y.1 (by rw[b2];exact J) x.1<|by rw[a2];exact hx)
theorem DA{ts:List Nat}{j:Nat}(h:j≠i):nV pcs (rR ts i) j=nV pcs ts j:=by
 unfold nV rR;rw[iA (l:=ts.set i _),List.getElem?_set,Z8<|OY h,<- iA]
section
variable {n:Nat}
theorem qx{pcs:List<|List Nat}{D:Nat}(hD:pcs.length<=D)(hp:0<pcs.length):∀(k:Nat) (ts:List Nat) (w:W) (acc:List Nat) (pr:List A3),Pc n pr pcs->ts.length=pcs.length->Tr pr (nV pcs ts) w 0 pcs.length->(jH pcs ts).length=k->Nt pr acc->(∀A z,acc=A++[z]->Gd pr z (w 0 pcs.length))->pr.length+D*k<=800000->
  Wa n (oK pcs k ts w acc) pr λo pr'=>∃os,o=some os/\os.Perm (acc++jH pcs ts)/\Nt pr' os/\pr<+:pr'/\pr'.length<=pr.length+D*k
 |0=>λts w acc pr pc tl Z hk na ga c=>by
  refine⟨acc,rfl,?_,na,fG _,by lia⟩;rw[Ac.mp hk,gW]
 |k+1=>λts w acc pr pc tl Z hk na ga c=>by
  have fo:=pc.fo ts;obtain⟨o,O⟩:=Z.top hp;cases o with
  |none=>
   exfalso;have:=Tr.Ux _ _ Z hp O;rw[tV (λi hi=>by
    have:=this i (cE _) hi;unfold nV at this;exact Option.map_eq_none_iff.mp this)] at hk
   cases hk
  |some c'=>
   obtain⟨_,hc,ac⟩:=Tr.mem _ _ Z hp c' O fo.ix;obtain⟨_,p,J,U⟩:=C0 ac;have ae:D*(k+1)=D*k+D:=To ..;have ad:ts[c'.2]?=some (ts.getD c'.2 0):=(getD_mem<|by lia).1;rw[oK,O];dsimp only;refine Wa.bind ?_;rw[<- gW ((mts 0 pcs.length).filter<|sf c'.2)];refine yT (fr:=nV pcs ts) (fr':=nV pcs<|rR ts c'.2) (w0:=w) (i:=c'.2) (x0:=c'.1) fo (pc.fo _) (λj hj=>DA hj) 0 pcs.length (cE _) hc _ pr [] _ Z (λa c _ _ _ h=>G8 h) G7 (λy hy=>?_) (by lia) λw' pr1 f1 _ aa gd l1=>?_
   .obtain ⟨_,q,q1,q2⟩:=C0 hy;rw[J] at q1;cases q1;have e:(rR ts c'.2).getD c'.2 0=ts.getD c'.2 0+1:=by
     unfold rR;rw[iA,List.getElem?_set,Z9 rfl,Z9<|by lia];rfl
    rw[e] at q2;exact(pc.nt p<|jB J).at U q2
   .show Wa n (oK pcs k (rR ts c'.2) w'<|acc++[c'.1]) pr1 _;have pm:=qg J ad U;have hl:=pm.length_eq;rw[bS] at hl;refine(qx hD hp k (rR ts c'.2) w' (acc++[c'.1]) pr1 (pc.mono f1) (by unfold rR;rw[Ae];exact tl) aa (by unfold rR;lia) ?_ (λA z e=>?_)<|by lia).imp λo pr2 h=>?_
    .refine Nb.app (na.mono f1) trivial λA z u B e1 e2=>?_;cases e2;exact(ga A z e1 c' O).mono f1
    .rw [<- IJ e];exact gd O
    .obtain ⟨os,e,h1,h2,h3,h4⟩:=h;refine⟨os,e,?_,h2,f1.trans h3,by lia⟩;rw[jM] at h1;exact h1.trans<|(List.Perm.symm pm).append_left acc
theorem I0{D:Nat}(U:pcs.length<=D)(pc:Pc n pr pcs)(c:pr.length+D*(pcs.flatten.length+1)<=800000):Wa n (C1 pcs) pr λo pr'=>∃os,o=some os/\os.Perm pcs.flatten/\Nt pr' os/\pr<+:pr'/\pr'.length<=pr.length+D*(pcs.flatten.length+1):=by
 have J:D*(pcs.flatten.length+1)=D*pcs.flatten.length+D:=To ..;refine Wa.bind ?_;by_cases hp:0<pcs.length
 .rw [<- gW (mts 0 pcs.length)];refine yU (fr:=nV pcs<|Pf pcs.length 0) (pc.fo _) 0 pcs.length hp _ pr [] _ (λi _ hi=>by unfold wN;rw[Z9 ⟨rfl,hi⟩]) (by lia) λw' pr1 f1 _ Z l1=>?_;show Wa n (oK pcs (pcs.map Pz).sum (Pf pcs.length 0) w' []) pr1 _;refine(qx U hp _ _ w' [] pr1 (pc.mono f1) (BY ..) Z (by rw[Lj,E7]) trivial (λA z e=>by simp at e)<|by rw[<- E7];lia).imp λo pr2 h=>?_;obtain⟨os,e,h1,h2,h3,O⟩:=h;rw[<- E7] at O;refine⟨os,e,by rw[Lj] at h1;exact h1,h2,f1.trans h3,by lia⟩
 .have e:pcs=[]:=Ac.mp (by lia);subst e;rw[bZ<|by decide];exact⟨[],rfl,.refl _,trivial,fG _,by lia⟩
noncomputable def se(d:Nat):Nat->List (List Nat)->List (List Nat)->Pg (Option<|List<|List Nat)
 |0,_,acc=>.ret<|some acc
 |k+1,pcs,acc=>(C1<|pcs.take d).bind λo=>match o with
  |none=>.ret none
  |some os=>se d k (pcs.drop d)<|acc++[os]
theorem uS(l:List<|List Nat)(d:Nat):(l.take d).flatten++(l.drop d).flatten=l.flatten:=by rw[<- vk,xg]
theorem uC{d:Nat}(hd:d<=9):∀(k:Nat) (pcs acc:List<|List Nat) (pr:List A3),Pc n pr (acc++pcs)->pcs.length<=k*d->pr.length+9*(pcs.flatten.length+k)<=800000->
  Wa n (se d k pcs acc) pr λo pr'=>∃out,o=some out/\out.flatten.Perm (acc++pcs).flatten/\(∀p∈out,Nt pr' p)/\out.length=acc.length+k/\pr<+:pr'/\pr'.length<=pr.length+9*(pcs.flatten.length+k)
 |0=>λpcs acc pr pc hl c=>by
  rw[BS] at hl;have e:pcs=[]:=Ac.mp (by lia);subst e;rw[gW] at*;exact⟨acc,rfl,.refl _,pc.nt,rfl,fG _,by lia⟩
 |k+1=>λpcs acc pr pc hl c=>by
  have O:=uS pcs d;have fl:=congrArg Pz O;rw[aW] at fl;rw[BP] at hl;have J:∀x∈(pcs.take d).flatten,x∈(acc++pcs).flatten:=λx hx=>by
   rw[vk,<- O];exact gM _<|kW _ hx
  have pt:Pc n pr<|pcs.take d:=by
   refine⟨λp z=>pc.nt p<|gM _<|Sr z,?_,λx hx=>pc.lt x<|J x hx⟩;have:=pc.nd;rw[vk,<- O] at this;exact(List.nodup_append.mp (List.nodup_append.mp this).2.1).1
  refine Wa.bind<|(I0 (D:=9) (by rw[gV];lia) pt<|by lia).imp λo pr1 h=>?_;obtain⟨os,rfl,h1,h2,h3,h4⟩:=h;show Wa n (se d k (pcs.drop d)<|acc++[os]) pr1 _;have U:(acc++[os]++pcs.drop d).flatten.Perm (acc++pcs).flatten:=by
   rw[vk,vk,vk,<- O,jM];refine List.Perm.append_left _ ?_;rw[show[os].flatten=os by simp];exact h1.append_right _
  refine(uC hd k (pcs.drop d) (acc++[os]) pr1 ⟨λp z=>?_,U.nodup_iff.mpr pc.nd,λx hx=>pc.lt x<|U.mem_iff.mp hx⟩ (by rw[dW];lia)<|by lia).imp λo pr2 g=>?_
  .rcases gN.mp z with z|z
   .rcases gN.mp z with z|z
    .exact (pc.nt p<|kW _ z).mono h3
    .rw [bD.mp z];exact h2
   .exact (pc.nt p<|gM _<|E8 z).mono h3
  .obtain ⟨out,e,g1,g2,Z,g4,g5⟩:=g;refine⟨out,e,g1.trans U,g2,?_,h3.trans g4,by lia⟩;rw[Z,aW,iC];lia
noncomputable def cN(l d:Nat):Nat:=(l+d-1)/d
theorem JK{l:Nat}(z:0<d):l<=cN l d*d:=by
 unfold cN;have h1:=TQ (l+d-1) d;have h2:=Sa (l+d-1) z;rw[Nat.mul_comm] at h1;lia
theorem yV{l:Nat}(z:2<=d)(hl:2<=l):cN l d<l:=by
 unfold cN;refine Nat.div_lt_of_lt_mul ?_;obtain⟨a,rfl⟩:∃a,d=a+2:=⟨d-2,by lia⟩
 obtain⟨b,rfl⟩:∃b,l=b+2:=⟨l-2,by lia⟩
 have:(a+2)*(b+2)=a*b+2*a+2*b+4:=by rw[Nat.add_mul,Nat.mul_add,Nat.mul_add];lia
 lia
noncomputable def zE(d:Nat):Nat->List (List Nat)->List Nat->Pg (Option<|List Nat×List Nat)
 |0,pcs,ns=>.ret<|some (pcs.headD [],ns)
 |m+1,pcs,ns=>if 1<pcs.length then(se d (cN pcs.length d) pcs []).bind λo=>match o with
   |none=>.ret none
   |some out=>zE d m out<|ns++[out.length]
  else .ret (some (pcs.headD [],ns))
theorem nR(h:pcs.length<=1):pcs.headD []=pcs.flatten:=by
 match pcs,h with
 |[],_=>rfl
 |[p],_=>simp
theorem uN(pc:Pc n pr pcs)(h:pcs.length<=1):Nt pr pcs.flatten:=by
 match pcs,h with
 |[],_=>exact trivial
 |[p],_=>have:=pc.nt p aU;simpa using this
theorem LN{d:Nat}(O:2<=d)(J:d<=9):∀(m:Nat) (pcs:List<|List Nat) (ns:List Nat) (pr:List A3),Pc n pr pcs->pcs.length<=m+1->pcs.flatten.length<=120->pcs.length<=120->pr.length+2200*pcs.length<=800000->
  Wa n (zE d m pcs ns) pr λo pr'=>∃r,o=some r/\r.1.Perm pcs.flatten/\Nt pr' r.1/\pr<+:pr'/\pr'.length<=pr.length+2200*pcs.length
 |0=>λpcs ns pr pc hm Z hl c=>by
  refine⟨_,rfl,?_,?_,fG _,by lia⟩<;>dsimp only<;>rw[nR<|by lia];exact uN pc<|by lia
 |m+1=>λpcs ns pr pc hm Z hl c=>by
  rw[zE];by_cases z:1<pcs.length
  .rw [Z9 z];have h1:=JK (l:=pcs.length) (d:=d) (by lia);have h2:=yV (l:=pcs.length) O (by lia);refine Wa.bind<|(uC J _ pcs [] pr pc h1<|by lia).imp λo pr1 h=>?_;obtain⟨out,rfl,g1,g2,U,g4,g5⟩:=h;have g1:out.flatten.Perm pcs.flatten:=g1;show Wa n (zE d m out<|ns++[out.length]) pr1 _;rw[tD,tq] at U;have gl:=g1.length_eq;refine(LN O J m out _ pr1 ⟨g2,g1.nodup_iff.mpr pc.nd,λx hx=>pc.lt x<|g1.mem_iff.mp hx⟩ (by lia) (by lia) (by lia)<|by lia).imp λo pr2 h=>?_;obtain⟨r,e,a1,a2,a3,a4⟩:=h;exact⟨r,e,a1.trans g1,a2,g4.trans a3,by lia⟩
  .rw [Z8 z];refine⟨_,rfl,?_,?_,fG _,by lia⟩<;>dsimp only<;>rw[nR<|by lia];exact uN pc<|by lia
noncomputable def yw(G:Nat->Nat->Nat->Nat->Nat)(ls wd N:Nat):Nat->Nat->List (List Nat)->Pg (List<|List Nat)
 |0,_,acc=>.ret acc
 |k+1,f,acc=>(EF G ls f<|min (f+wd) N).bind λos=>yw G ls wd N k (f+wd)<|acc++[os]
theorem ux{G:Nat->Nat->Nat->Nat->Nat}{ls wd:Nat}(hw:0<wd)(hn:n<=120):∀(k f:Nat) (acc:List<|List Nat) (pr:List A3),n<=f+k*wd->k*wd<n-f+wd->acc.flatten.Perm (Pe 0<|min f n)->(∀p∈acc,Nt pr p)->pr.length+400*(n-f)<=780000->
  Wa n (yw G ls wd n k f acc) pr λout pr'=>out.flatten.Perm (Pe 0 n)/\(∀p∈out,Nt pr' p)/\out.length=acc.length+k/\pr<+:pr'/\pr'.length<=pr.length+400*(n-f)
 |0=>λf acc pr h1 h2 h3 J c=>by
  rw[BS] at h1;rw[E6<|by lia] at h3;exact⟨h3,J,rfl,fG _,by lia⟩
 |k+1=>λf acc pr h1 h2 h3 J c=>by
  rw[BP] at h1 h2;have Z:f<n:=by lia
  refine Wa.bind<|(G9 (n:=n) (pr:=pr) (s:=f) (e:=min (f+wd) n) (by lia) (by lia) hn<|by lia).imp λos pr1 h=>?_;obtain⟨g1,U,O,g4⟩:=h;refine(ux hw hn k (f+wd) (acc++[os]) pr1 (by lia) (by lia) ?_ (λp z=>?_)<|by lia).imp λout pr2 h=>?_
  .rw [vk,show[os].flatten=os by simp];rw[rM<|by lia] at h3;refine(h3.append g1).trans ?_;have:=RE (s:=0) (m:=f) (n:=min (f+wd) n-f) (step:=1);rw[TH,tq] at this;rw[this,show f+(min (f+wd) n-f)=min (f+wd) n by lia]
  .rcases gN.mp z with z|z
   .exact (J p z).mono O
   .rw [bD.mp z];exact U
  .obtain ⟨a1,a2,a3,a4,a5⟩:=h;refine⟨a1,a2,?_,O.trans a4,by lia⟩;rw[a3,aW,iC];lia
noncomputable def Kb(G:Nat->Nat->Nat->Nat->Nat)(ls wd N:Nat):Pg<|List<|List Nat:=yw G ls wd N (cN N wd) 0 []
theorem wC{G:Nat->Nat->Nat->Nat->Nat}(hw:0<wd)(hn:n<=120)(c:pr.length+400*n<=780000):Wa n (Kb G ls wd n) pr λout pr'=>Pc n pr' out/\out.flatten.Perm (Pe 0 n)/\out.length<=120/\pr<+:pr'/\pr'.length<=pr.length+400*n:=by
 have h1:=JK (l:=n) (d:=wd) hw;have h2:cN n wd*wd<n-0+wd:=by
  unfold cN;have:=Nat.div_mul_le_self (n+wd-1) wd;lia
 refine(ux hw hn (cN n wd) 0 [] pr (by lia) h2 (by rw[Nat.zero_min];exact .refl _) (λp J=>by cases J) c).imp λout pr' h=>?_;obtain⟨a1,a2,a3,a4,a5⟩:=h;refine⟨⟨a2,a1.nodup_iff.mpr List.nodup_range',λx hx=>?_⟩,a1,?_,a4,a5⟩
 .have:=wL.mp<|a1.mem_iff.mp hx;lia
 .rw [a3,tD,tq];unfold cN at*;by_cases z:wd<=n
  .have:(n+wd-1)/wd<=n:=by
    refine Nat.div_le_of_le_mul ?_;obtain⟨a,rfl⟩:∃a,wd=a+1:=⟨wd-1,by lia⟩
    cases n with
    |zero=>lia
    |succ m=>
     have:(a+1)*(m+1)=a*m+a+m+1:=by rw[Nat.add_mul,Nat.mul_add];lia
     lia
   lia
  .have:(n+wd-1)/wd<2:=Nat.div_lt_of_lt_mul (by lia);lia
noncomputable def Kd(G:Nat->Nat->Nat->Nat->Nat)(ls wd d N:Nat):Pg<|Option<|List Nat:=(Kb G ls wd N).bind λpcs=>(zE d pcs.length pcs []).bind λo=>match o with
 |none=>.ret none
 |some r=>.ret<|some r.1
theorem wB{G:Nat->Nat->Nat->Nat->Nat}(hw:0<wd)(U:2<=d)(z:d<=9)(hn:n<=120)(c:pr.length<=400000):Wa n (Kd G ls wd d n) pr λo pr'=>∃os,o=some os/\os.Perm (Pe 0 n)/\Nt pr' os/\pr<+:pr'/\pr'.length<=pr.length+320000:=by
 refine Wa.bind<|(wC hw hn<|by lia).imp λpcs pr1 h=>?_;obtain⟨a1,a2,a3,a4,a5⟩:=h;have hl:=a2.length_eq;rw[vm] at hl;refine Wa.bind<|(LN U z pcs.length pcs [] pr1 a1 (by lia) (by lia) a3<|by lia).imp λo pr2 h=>?_;obtain⟨r,rfl,J,Z,O,b4⟩:=h;exact⟨r.1,rfl,J.trans a2,Z,a4.trans O,by lia⟩
end
end Pw
namespace Pw
variable {a b m ps x y z:Nat}{l r:List Nat}
section
variable {α:Type}{n:Nat}{An:Nat->Nat->Nat->Bool}
def Tu(n:Nat)(An:Nat->Nat->Nat->Bool)(pr:List A3):Prop:=pr.length<=800001/\∀e∈pr,e.2.1<e.1/\e.1<n/\e.2.2=An 0 e.1 e.2.1
theorem Wa.tu(J:∀k p q,An k p q=An 0 p q){P:α->List A3->Prop}:∀{x:Pg α} {pr:List A3},Wa n x pr P->Tu n An pr->Wp n An x pr λa pr'=>P a pr'/\Tu n An pr'
 |.ret a,pr,h,t=>⟨h,t⟩
 |.ask p q k,pr,h,t=>⟨h.1,h.2.1,h.2.2.1,Wa.tu J (h.2.2.2 _) ⟨by rw[aW,iC];have:=h.2.2.1;lia,λe O=>by
  rcases gN.mp O with z|z
  .exact t.2 e z
  .rw [bD.mp z];exact⟨h.1,h.2.1,J _ _ _⟩⟩⟩
theorem Wp.ex{P:α->List A3->Prop}{Q:α->Prop}:∀{x:Pg α} {pr:List A3},Wp n An x pr P->x.Al Q->∃a pr',Q a/\P a pr'
 |.ret a,pr,h,g=>⟨a,pr,g,h⟩
 |.ask p q k,pr,h,g=>Wp.ex h.2.2.2<|g _
end
noncomputable def vp(os:List Nat)(pl:Nat):Nat->Pg Nat
 |0=>.ret 0
 |s+1=>UX (os.getD s 0) pl λb=>if b then .ret (s+1) else vp os pl s
noncomputable def EM(os:List Nat)(pl:Nat):Pg Nat:=vp os pl os.length
noncomputable def ql(R:Nat):Nat->Nat->List Nat->Pg (List Nat ⊕ Nat×List Nat)
 |0,_,os=>.ret<|.inl os
 |m+1,pl,os=>(if 0<os.length-R then UX (os.getD (os.length-R-1) 0) pl λb=>.ret b else .ret true).bind λb=>if b then(wF (os.drop<|os.length-R) pl).bind λr=>ql R m (pl+1) (gR os (os.length-R+r) pl) else .ret (.inr (pl,os.drop<|os.length-R-1))
noncomputable def mJ(l r:List Nat)(m:Nat):Nat->Nat->Nat->Pg Nat
 |0,lo,_=>.ret lo
 |f+1,lo,hi=>if lo<hi then UX (l.getD ((lo+hi)/2) 0) (r.getD (m-(lo+hi)/2-1) 0) λb=>if b then mJ l r m f ((lo+hi)/2+1) hi else mJ l r m f lo ((lo+hi)/2) else .ret lo
noncomputable def HR(l r:List Nat)(m:Nat):Pg Nat:=mJ l r m l.length (m-r.length)<|min m l.length
noncomputable def aQ(l r:List Nat)(ps j:Nat):Nat:=(l.length+r.length)*j/ps
noncomputable def rk(l r:List Nat)(ps:Nat):Nat->Nat->List Nat->Pg (List Nat)
 |0,_,acc=>.ret acc
 |k+1,j,acc=>(HR l r<|aQ l r ps j).bind λc=>rk l r ps k (j+1)<|acc++[c]
noncomputable def jF(l:List Nat)(a b:Nat):List Nat:=(l.drop a).take<|b-a
noncomputable def r6(l r cs os:List Nat):Nat->Nat->List (List Nat)->Pg (List<|List Nat)
 |0,_,acc=>.ret acc
 |k+1,i,acc=>(Ha (jF l (cs.getD i 0)<|cs.getD (i+1) 0)<|jF r (os.getD i 0)<|os.getD (i+1) 0).bind λo=>r6 l r cs os k (i+1)<|acc++[o]
noncomputable def lF(l r cs:List Nat)(ps:Nat):List Nat:=(OT<|ps+1).map λj=>aQ l r ps j-cs.getD j 0
noncomputable def EI(l r:List Nat)(ps:Nat):Pg<|List<|List Nat:=(rk l r ps (ps-1) 1 []).bind λc=>r6 l r (0::(c++[l.length])) (lF l r (0::(c++[l.length])) ps) ps 0 []
section
variable {n:Nat}{pr:List A3}
theorem tF{os:List Nat}{pl:Nat}(J:In n os pl)(O:pl<n):∀(s:Nat) (pr:List A3),s<=os.length->(os.length<=s∨Td pr pl (os.getD s 0))->pr.length+s<=800000->Wa n (vp os pl s) pr λr pr'=>pr<+:pr'/\r<=os.length/\Bd pr' os pl r r/\pr'.length<=pr.length+s
 |0,pr,h,b,c=>⟨fG _,h,⟨.inl rfl,b⟩,by lia⟩
 |s+1,pr,h,b,c=>by
  obtain⟨g1,U⟩:=getD_mem (os:=os) (i:=s) (by lia);refine Wa.UX (J _ U).2 (J _ U).1 O (by lia) λb' pr' f1 l1 Z t2=>?_;cases b'
  .refine (tF J O s pr' (by lia) (.inr<|t2 rfl)<|by lia).imp λr pr2 h=>⟨f1.trans h.1,h.2.1,h.2.2.1,?_⟩
   have:=h.2.2.2;lia
  .exact ⟨f1,h,⟨.inr<|Z rfl,b.imp id λz=>z.mono f1⟩,by lia⟩
theorem ui:∀(m pl:Nat) (os:List Nat) (pr:List A3),os.Perm (Pe 0 pl)->pl+m<=n->n<=120->Nt pr os->pr.length+120*m<=800000->Wa n (jY EM m pl os) pr λos' pr'=>os'.Perm (Pe 0<|pl+m)/\Nt pr' os'
 |0,pl,os,pr,hp,hn,hk,h,c=>⟨hp,h⟩
 |m+1,pl,os,pr,hp,hn,hk,h,c=>by
  have hl:=hp.length_eq;rw[vm] at hl;have J:In n os pl:=λx hx=>by
   have:=wL.mp<|hp.mem_iff.mp hx;lia
  refine Wa.bind<|(tF J (by lia) os.length pr (aK _) (.inl<|aK _)<|by lia).imp λr pr' g=>?_;obtain⟨f1,g1,O,U⟩:=g;refine(ui m (pl+1) (gR os r pl) pr' ?_ (by lia) hk (JN (h.mono f1) g1 O)<|by lia).imp λos' pr2 z=>⟨?_,z.2⟩
  .refine bV.trans ?_;rw[C2,tq];exact hp.append_right _
  .rw [show pl+(m+1)=pl+1+m by lia];exact z.1
structure Fa(n:Nat)(pr:List A3)(R pl:Nat)(l:List Nat):Prop where
 hp:pl<n
 len:l.length=R+1
 lt:∀x∈l,x<pl
 nt:Nt pr l
 hd:∀x l',l=x::l'->Td pr pl x
def Rq(n:Nat)(R:Nat)(o:List Nat ⊕ Nat×List Nat)(pr:List A3):Prop:=match o with
 |.inl os=>os.Perm (Pe 0 n)/\Nt pr os
 |.inr x=>Fa n pr R x.1 x.2
theorem tZ{R:Nat}:∀(m pl:Nat) (os:List Nat) (pr:List A3),os.Perm (Pe 0 pl)->pl+m=n->n<=120->Nt pr os->pr.length+121*m<=800000->Wa n (ql R m pl os) pr (Rq n R)
 |0,pl,os,pr,hp,hn,hk,h,c=>⟨by rw[<- hn];exact hp,h⟩
 |m+1,pl,os,pr,hp,hn,hk,h,c=>by
  have hl:=hp.length_eq;rw[vm] at hl;have J:In n os pl:=λx hx=>by
   have:=wL.mp<|hp.mem_iff.mp hx;lia
  have go:∀pr1,pr<+:pr1->pr1.length<=pr.length+1->(0<os.length-R->Td pr1 (os.getD (os.length-R-1) 0) pl)->Wa n ((wF (os.drop<|os.length-R) pl).bind λr=>ql R m (pl+1)<|gR os (os.length-R+r) pl) pr1 (Rq n R):=λpr1 f0 l0 U=>by
   have hd:(os.drop<|os.length-R).length=os.length-(os.length-R):=dW ..;refine Wa.bind<|(Ih (os:=os.drop<|os.length-R) (λx hx=>J x<|E8 hx) (by lia) (os.drop<|os.length-R).length 0 (os.drop<|os.length-R).length pr1 (by lia) (cE _) (aK _) ⟨.inl rfl,.inl<|aK _⟩<|by lia).imp λr pr' g=>?_;obtain⟨f1,g1,O,g3⟩:=g;have hb:Bd pr' os pl (os.length-R+r)<|os.length-R+r:=by
    refine⟨?_,?_⟩
    .rcases O.lo with z|z
     .subst z;by_cases y:0<os.length-R
      .exact .inr ((U y).mono f1)
      .exact .inl (by lia)
     .by_cases y:r=0
      .subst y;by_cases y:0<os.length-R
       .exact .inr ((U y).mono f1)
       .exact .inl (by lia)
      .rw [iA,Di,<- iA,show os.length-R+(r-1)=os.length-R+r-1 by lia] at z;exact .inr z
    .rcases O.hi with z|z
     .exact .inl (by lia)
     .rw [iA,Di,<- iA] at z;exact .inr z
   refine(tZ m (pl+1) (gR os (os.length-R+r) pl) pr' ?_ (by lia) hk (JN (h.mono<|f0.trans f1) (by lia) hb)<|by lia);refine bV.trans ?_;rw[C2,tq];exact hp.append_right _
  rw[ql.eq_2];refine Wa.bind ?_;by_cases z:0<os.length-R
  .rw [Z9 z];obtain⟨g1,O⟩:=getD_mem (os:=os) (i:=os.length-R-1) (by lia);refine Wa.UX (J _ O).2 (J _ O).1 (by lia) (by lia) λb' pr' f1 l1 Z t2=>?_;cases b'
   .refine (show Fa n pr' R pl _ from⟨by lia,by rw[dW];lia,λx hx=>?_,Nb.drop (h.mono f1) _,λx l' e=>?_⟩)
    .have:=wL.mp<|hp.mem_iff.mp<|E8 hx;lia
    .rw [(Ho e).2];exact t2 rfl
   .exact go pr' f1 (by lia) λ_=>Z rfl
  .rw [Z8 z];exact go pr (fG _) (by lia) λy=>absurd y z
structure Ct(pr:List A3)(l r:List Nat)(m c:Nat):Prop where
 cl:c<=l.length
 cm:c<=m
 cr:m<=c+r.length
 lo:0<c->m-c<r.length->Td pr (l.getD (c-1) 0) (r.getD (m-c) 0)
 hi:c<m->c<l.length->Td pr (r.getD (m-c-1) 0) (l.getD c 0)
theorem Ct.mono{pr':List A3}{c:Nat}(h:Ct pr l r m c)(f:pr<+:pr'):Ct pr' l r m c:=⟨h.cl,h.cm,h.cr,λa b=>(h.lo a b).mono f,λa b=>(h.hi a b).mono f⟩
theorem Kh{l r:List Nat}{m:Nat}(t:Tw n l r)(hm:m<=l.length+r.length):∀(f lo hi:Nat) (pr:List A3),hi-lo<=f->lo<=hi->m-r.length<=lo->hi<=m->hi<=l.length->(m-r.length<lo->Td pr (l.getD (lo-1) 0) (r.getD (m-lo) 0))->(hi<m->hi<l.length->Td pr (r.getD (m-hi-1) 0) (l.getD hi 0))->pr.length+(hi-lo)<=800000->
  Wa n (mJ l r m f lo hi) pr λc pr'=>Ct pr' l r m c/\pr<+:pr'/\pr'.length<=pr.length+(hi-lo)
 |0,lo,hi,pr,h0,h1,h2,h3,h4,b1,b2,c=>by
  have:lo=hi:=by lia
  subst this;exact⟨⟨h4,h3,by lia,λa b=>b1<|by lia,b2⟩,fG _,by lia⟩
 |f+1,lo,hi,pr,h0,h1,h2,h3,h4,b1,b2,c=>by
  rw[mJ.eq_2];by_cases z:lo<hi
  .rw [Z9 z];have O:lo<=(lo+hi)/2:=by lia
   have J:(lo+hi)/2<hi:=by lia
   generalize (lo+hi)/2=mi at O J;obtain⟨g1,U⟩:=getD_mem (os:=l) (i:=mi) (by lia);obtain⟨g3,Z⟩:=getD_mem (os:=r) (i:=m-mi-1) (by lia);refine Wa.UX (t.d _ U _ Z) (t.l _ U) (t.r _ Z) (by lia) λb' pr' f1 l1 t1 t2=>?_;cases b'
   .refine (Kh t hm f lo mi pr' (by lia) (by lia) h2 (by lia) (by lia) (λa=>(b1 a).mono f1) (λ_ _=>t2 rfl)<|by lia).imp λr pr2 h=>⟨h.1,f1.trans h.2.1,?_⟩
    have:=h.2.2;lia
   .refine (Kh t hm f (mi+1) hi pr' (by lia) (by lia) (by lia) h3 h4 (λ_=>by rw[show m-(mi+1)=m-mi-1 by lia];exact t1 rfl) (λa b=>(b2 a b).mono f1)<|by lia).imp λr pr2 h=>⟨h.1,f1.trans h.2.1,?_⟩
    have:=h.2.2;lia
  .rw [Z8 z];have:lo=hi:=by lia
   subst this;exact⟨⟨h4,h3,by lia,λa b=>b1<|by lia,b2⟩,fG _,by lia⟩
theorem zt(t:Tw n l r)(hm:m<=l.length+r.length)(c:pr.length+l.length<=800000):Wa n (HR l r m) pr λc pr'=>Ct pr' l r m c/\pr<+:pr'/\pr'.length<=pr.length+l.length:=by
 refine(Kh t hm l.length (m-r.length) (min m l.length) pr (by lia) (by lia) (aK _) (by lia) (by lia) (λa=>by lia) (λa b=>by lia)<|by lia).imp λc pr' h=>⟨h.1,h.2.1,?_⟩
 have:=h.2.2;lia
theorem uU{j:Nat}(h:j<=ps)(z:0<ps):aQ l r ps j<=l.length+r.length:=by
 unfold aQ;refine Nat.div_le_of_le_mul ?_;rw[Nat.mul_comm];exact Nat.mul_le_mul_right _ h
theorem rj{l r:List Nat}{ps:Nat}(t:Tw n l r)(hl:l.length<=120):∀(k j:Nat) (acc:List Nat) (pr:List A3),j+k=ps->0<j->acc.length+1=j->(∀i c,acc[i]?=some c->Ct pr l r (aQ l r ps<|i+1) c)->pr.length+120*k<=800000->
  Wa n (rk l r ps k j acc) pr λcs pr'=>cs.length=acc.length+k/\(∀i c,cs[i]?=some c->Ct pr' l r (aQ l r ps<|i+1) c)/\pr<+:pr'/\pr'.length<=pr.length+120*k
 |0,j,acc,pr,h1,h2,h3,h4,c=>⟨rfl,h4,fG _,by lia⟩
 |k+1,j,acc,pr,h1,h2,h3,h4,c=>by
  refine Wa.bind<|(zt t (uU (by lia)<|by lia)<|by lia).imp λc pr1 h=>?_;obtain⟨a1,a2,a3⟩:=h;refine(rj t hl k (j+1) (acc++[c]) pr1 (by lia) (by lia) (by rw[aW,iC];lia) (λi c' e=>?_)<|by lia).imp λcs pr2 g=>?_
  .by_cases z:i<acc.length
   .rw [oQ z] at e;exact(h4 i c' e).mono a2
   .rw [kF<|by lia] at e;cases y:i-acc.length with
    |zero=>
     rw[y] at e;cases e;rw[show i+1=j by lia];exact a1
    |succ y'=>rw[y] at e;simp at e
  .obtain ⟨J,U,O,Z⟩:=g;rw[aW,iC] at J;exact⟨by lia,U,a2.trans O,by lia⟩
theorem xX(h:Nt pr l):Nt pr<|jF l a b:=Nb.take (Nb.drop h a) _
theorem tP(h:x∈jF l a b):x∈l:=E8<|Sr h
theorem IF:(jF l a b).length<=l.length:=by unfold jF;rw[gV,dW];lia
theorem uk{l r cs os:List Nat}(t:Tw n l r)(hl:l.length+r.length<=200):∀(k i:Nat) (acc:List<|List Nat) (pr:List A3),acc.length=i->Nt pr l->Nt pr r->(∀j p,acc[j]?=some p->p.Perm (jF l (cs.getD j 0) (cs.getD (j+1) 0)++jF r (os.getD j 0) (os.getD (j+1) 0))/\Nt pr p)->pr.length+1000*k<=800000->
  Wa n (r6 l r cs os k i acc) pr λps pr'=>ps.length=acc.length+k/\(∀j p,ps[j]?=some p->p.Perm (jF l (cs.getD j 0) (cs.getD (j+1) 0)++jF r (os.getD j 0) (os.getD (j+1) 0))/\Nt pr' p)/\pr<+:pr'
 |0,i,acc,pr,h1,n1,n2,h4,c=>⟨rfl,h4,fG _⟩
 |k+1,i,acc,pr,h1,n1,n2,h4,c=>by
  have z1:=IF (l:=l) (a:=cs.getD i 0) (b:=cs.getD (i+1) 0);have z2:=IF (l:=r) (a:=os.getD i 0) (b:=os.getD (i+1) 0);refine Wa.bind<|(LM (t.sub (λx=>tP) λx=>tP) (xX n1) (xX n2)<|by lia).imp λo pr1 h=>?_;obtain⟨a1,a2,a3,a4⟩:=h;refine(uk t hl k (i+1) (acc++[o]) pr1 (by rw[aW,h1];rfl) (n1.mono a3) (n2.mono a3) (λj p e=>?_)<|by lia).imp λps pr2 g=>?_
  .by_cases z:j<acc.length
   .rw [oQ z] at e;obtain⟨U,y2⟩:=h4 j p e;exact⟨U,y2.mono a3⟩
   .rw [kF<|by lia] at e;cases y:j-acc.length with
    |zero=>
     rw[y] at e;cases e;rw[show j=i by lia];exact⟨a1,a2⟩
    |succ y'=>rw[y] at e;simp at e
  .obtain ⟨J,Z,O⟩:=g;rw[aW,iC] at J;exact⟨by lia,Z,a3.trans O⟩
def Ap(pr:List A3)(l r:List Nat)(ps:Nat)(out:List<|List Nat):Prop:=∃cs:List Nat,cs.length=ps+1/\cs.getD 0 0=0/\cs.getD ps 0=l.length/\(∀j,j<=ps->Ct pr l r (aQ l r ps j) (cs.getD j 0))/\out.length=ps/\∀j p,out[j]?=some p->p.Perm (jF l (cs.getD j 0) (cs.getD (j+1) 0)++jF r (aQ l r ps j-cs.getD j 0) (aQ l r ps (j+1)-cs.getD (j+1) 0))/\Nt pr p
theorem Bx(t:Tw n l r)(hl:l.length+r.length<=120)(hp:0<ps)(aa:ps<=100)(n1:Nt pr l)(n2:Nt pr r)(c:pr.length+1120*ps<=800000):Wa n (EI l r ps) pr λout pr'=>pr<+:pr'/\Ap pr' l r ps out:=by
 refine Wa.bind<|(rj t (by lia) (ps-1) 1 [] pr (by lia) (by decide) rfl (λi c e=>by simp at e)<|by lia).imp λc pr1 h=>?_;obtain⟨a1,a2,a3,a4⟩:=h;rw[tD,tq] at a1;have O:(0::(c++[l.length])).length=ps+1:=by rw[bS,aW,iC];lia
 have e1:(0::(c++[l.length])).getD 0 0=0:=rfl;have e2:(0::(c++[l.length])).getD ps 0=l.length:=by
  rw[iA,show ps=(ps-1)+1 by lia,List.getElem?_cons_succ,kF<|by lia,show ps-1-c.length=0 by lia];rfl
 have e3:∀j,j<=ps->Ct pr1 l r (aQ l r ps j) ((0::(c++[l.length])).getD j 0):=λj J=>by
  by_cases z:j=0
  .subst z;rw[e1,show aQ l r ps 0=0 by unfold aQ;rw[Tn,Nat.zero_div]];exact⟨cE _,aK _,cE _,λa=>by lia,λa=>by lia⟩
  .by_cases y:j=ps
   .subst y;rw[e2,show aQ l r j j=l.length+r.length by unfold aQ;exact S9 _ hp];exact⟨aK _,by lia,aK _,λa b=>by lia,λa b=>by lia⟩
   .obtain ⟨i,rfl⟩:∃i,j=i+1:=⟨j-1,by lia⟩
    have hi:i<c.length:=by lia
    rw[iA,List.getElem?_cons_succ,oQ hi,bL hi];exact a2 i _<|bL hi
 have e4:∀j,j<=ps->(lF l r (0::(c++[l.length])) ps).getD j 0=aQ l r ps j-(0::(c++[l.length])).getD j 0:=λj J=>by
  unfold lF;rw[iA,dF,xh<|by lia];rfl
 refine(uk t (by lia) ps 0 [] pr1 rfl (n1.mono a3) (n2.mono a3) (λj p e=>by simp at e)<|by lia).imp λout pr2 g=>?_;obtain⟨U,b2,Z⟩:=g;rw[tD,tq] at U;refine⟨a3.trans Z,_,O,e1,e2,λj J=>(e3 j J).mono Z,U,λj p e=>?_⟩;have J:=(gX.mp e).1;have:=b2 j p e;rw[e4 j<|by lia,e4 (j+1)<|by lia] at this;exact this
end
def lxf(κ:Nat->Int)(x y:Nat):Prop:=κ x<κ y∨(κ x=κ y/\x<y)
noncomputable def sS(κ:Nat->Int)(bb:Bool)(_ p q:Nat):Bool:=cond bb (!decide (κ p<κ q))<|decide<|κ p<κ q
def gQ(κ:Nat->Int)(bb:Bool)(x y:Nat):Prop:=cond bb (lxf κ y x)<|lxf κ x y
section
variable {κ:Nat->Int}{n:Nat}{pr:List A3}{bb:Bool}
theorem CS(a:gQ κ bb x y)(b:gQ κ bb y z):gQ κ bb x z:=by
 cases bb<;>(simp only[gQ,cond,lxf] at*;lia)
theorem CQ(a:gQ κ bb x y)(b:gQ κ bb y x):False:=by
 cases bb<;>(simp only[gQ,cond,lxf] at*;lia)
theorem FE(t:Tu n (sS κ bb) pr){p q:Nat}(h:Td pr p q):gQ κ bb p q:=by
 obtain⟨b,h1,h2⟩:=h;obtain⟨a1,_,a3⟩:=t.2 _ h1;dsimp only at a1 a3;subst a3;by_cases z:q<p
 .rw [Z9 z,show max p q=p by lia,show min p q=q by lia] at h2;cases bb
  .have:=of_decide_eq_true (show decide (κ p<κ q)=true from h2);exact .inl this
  .have:¬ κ p<κ q:=of_decide_eq_false (by simpa[sS] using h2);show lxf κ q p;unfold lxf;lia
 .rw [Z8 z,show max p q=q by lia,show min p q=p by lia] at h2;cases bb
  .have:¬ κ q<κ p:=of_decide_eq_false (by simpa[sS] using h2);show lxf κ p q;unfold lxf;lia
  .have:κ q<κ p:=of_decide_eq_true (by simpa[sS] using h2);exact .inl this
theorem Cv{R:Nat->Nat->Prop}(J:∀x y z,R x y->R y z->R x z):∀{l:List Nat},Nb R l->l.Pairwise R
 |[],_=>.nil
 |[_],_=>List.pairwise_singleton _ _
 |a::b::l,h=>by
  have O:=Cv J h.2;refine BR.mpr ⟨λx hx=>?_,O⟩;rcases bC.mp hx with z|z
  .rw [z];exact h.1
  .exact J _ _ _ h.1 ((BR.mp O).1 x z)
theorem BB(t:Tu n (sS κ bb) pr)(h:Nt pr l):l.Pairwise<|gQ κ bb:=Cv (R:=gQ κ bb) (λ_ _ _ a b=>CS a b)<|Nb.mono (λ_ _ z=>FE t z) h
theorem JZ{A B:List Nat}(h:A.Perm B)(h1:A.Pairwise<|gQ κ bb)(h2:B.Pairwise<|gQ κ bb):A=B:=RA (λa b _ _ h1 h2=>(CQ h1 h2).elim) h1 h2 h
theorem H0(h:l.Pairwise<|gQ κ bb){i j:Nat}(O:i<=j)(J:j<l.length):i=j∨gQ κ bb (l.getD i 0) (l.getD j 0):=by
 by_cases z:i=j
 .exact .inl z
 .have:=Fd.mp h i j (by lia) J (by lia);rw[iA,iA,bL<|by lia,bL J];exact .inr this
theorem uF{A L:List Nat}{J:List Nat}(Z:(A++[z]).Pairwise<|gQ κ bb)(U:L.Pairwise<|gQ κ bb)(sub:∀x∈L,x∈A++[z])(O:z∈L)(e:L=J++[y]):z=y:=by
 subst e;rcases gN.mp O with h|h
 .rcases gN.mp (sub y<|gM _ aU) with g|g
  .exact (CQ ((List.pairwise_append.mp U).2.2 z h y aU)<|(List.pairwise_append.mp Z).2.2 y g z aU).elim
  .exact (bD.mp g).symm
 .exact bD.mp h
theorem uM{A L:List Nat}{J:List Nat}(Z:(z::A).Pairwise<|gQ κ bb)(U:L.Pairwise<|gQ κ bb)(sub:∀x∈L,x∈z::A)(O:z∈L)(e:L=y::J):z=y:=by
 subst e;rcases bC.mp O with h|h
 .exact h
 .rcases bC.mp (sub y aU) with g|g
  .exact g.symm
  .exact (CQ ((BR.mp U).1 z h)<|(BR.mp Z).1 y g).elim
theorem GP(t:Tu n (sS κ bb) pr){U c c':Nat}(hl:l.Pairwise<|gQ κ bb)(hr:r.Pairwise<|gQ κ bb)(hm:m<=U)(h:Ct pr l r m c)(h':Ct pr l r U c'):c<=c'/\m-c<=U-c':=by
 have a1:=h.cl;have a2:=h.cm;have a3:=h.cr;have b1:=h'.cl;have b2:=h'.cm;have b3:=h'.cr;constructor
 .apply QD;intro z;have g1:=FE t (h.lo (by lia)<|by lia);have O:=FE t (h'.hi (by lia)<|by lia);have Z:=H0 hr (i:=m-c) (j:=U-c'-1) (by lia) (by lia);have g4:=H0 hl (i:=c') (j:=c-1) (by lia) (by lia);have J:gQ κ bb (l.getD (c-1) 0)<|l.getD c' 0:=by
   rcases Z with e|e
   .rw [<- e] at O;exact CS g1 O
   .exact CS g1 (CS e O)
  rcases g4 with e|e
  .rw [<- e] at J;exact CQ J J
  .exact CQ J e
 .apply QD;intro z;have g1:=FE t (h.hi (by lia)<|by lia);have O:=FE t (h'.lo (by lia)<|by lia);have Z:=H0 hl (i:=c) (j:=c'-1) (by lia) (by lia);have g4:=H0 hr (i:=U-c') (j:=m-c-1) (by lia) (by lia);have J:gQ κ bb (r.getD (m-c-1) 0)<|r.getD (U-c') 0:=by
   rcases Z with e|e
   .rw [<- e] at O;exact CS g1 O
   .exact CS g1 (CS e O)
  rcases g4 with e|e
  .rw [<- e] at J;exact CQ J J
  .exact CQ J e
theorem pX(h:a<=b):l.take b=l.take a++jF l a b:=by
 unfold jF;rw[<- List.take_add,show a+(b-a)=b by lia]
theorem qc{B:List Nat}(h:jF l a b=z::B):a<l.length/\z=l.getD a 0:=by
 unfold jF at h;cases e:l.drop a with
 |nil=>rw[e] at h;simp at h
 |cons y D=>
  rw[e] at h;cases k:b-a with
  |zero=>rw[k] at h;simp at h
  |succ k'=>
   rw[k,List.take_succ_cons] at h;injection h with h1 _
   rw[<- h1];exact Ho e
theorem By(t:Tu n (sS κ bb) pr){out:List<|List Nat}(hp:0<ps)(h:Ap pr l r ps out)(nl:Nt pr l)(nr:Nt pr r):out.flatten.Perm (l++r)/\Nt pr out.flatten:=by
 obtain⟨cs,h1,h2,h3,h4,h5,h6⟩:=h;have hl:=BB t nl;have hr:=BB t nr;have hm:∀j,aQ l r ps j<=aQ l r ps (j+1):=λj=>by
  unfold aQ;exact Nat.div_le_div_right<|Nat.mul_le_mul_left _<|lT _
 have go:∀k,k<=ps->(out.take k).flatten.Perm (l.take (cs.getD k 0)++r.take (aQ l r ps k-cs.getD k 0))/\Nt pr (out.take k).flatten:=λk=>by
  induction k with
  |zero=>
   intro _;rw[h2,show aQ l r ps 0=0 by unfold aQ;rw[Tn,Nat.zero_div]];exact⟨.refl _,trivial⟩
  |succ k ih=>
   intro hk;obtain⟨Z,p2⟩:=ih (by lia);have aa:k<out.length:=by lia
   obtain⟨O,q2⟩:=h6 k _<|bL aa;have J:=h4 k (by lia);obtain⟨w1,w2⟩:=GP t hl hr (hm k) J<|h4 (k+1) hk;rw[Dm,bL aa,Option.toList_some,vk,show[out[k]].flatten=out[k] by simp];generalize out[k]=p at O q2;rw[pX w1,pX w2];generalize cs.getD (k+1) 0=c' at*;generalize aQ l r ps (k+1)=m' at*;generalize cs.getD k 0=c at*;generalize aQ l r ps k=m at*;have z1:=J.cl;have z2:=J.cm;have z3:=J.cr;refine⟨?_,Nb.app p2 q2 λA z u B eA eB=>?_⟩
   .refine (Z.append O).trans (IZ λx=>?_);simp only[Ab];lia
   .have pA:=BB t p2;have pB:=BB t q2;rw[eA] at pA Z;rw[eB] at pB O;have sL:(l.take c).Pairwise<|gQ κ bb:=hl.sublist<|Fi _ _;have sR:(r.take<|m-c).Pairwise<|gQ κ bb:=hr.sublist<|Fi _ _;have tL:(jF l c c').Pairwise<|gQ κ bb:=hl.sublist<|(Fi _ _).trans<|Tf _ _;have tR:(jF r (m-c)<|m'-c').Pairwise<|gQ κ bb:=hr.sublist<|(Fi _ _).trans<|Tf _ _;have hz:(0<c/\z=l.getD (c-1) 0)∨(0<m-c/\z=r.getD (m-c-1) 0):=by
     rcases gN.mp (Z.mem_iff.mp<|gM _ aU) with g|g
     .rcases Q8 (l.take c) with e|⟨L',y,e⟩
      .rw [e] at g;cases g
      .rw [QA] at e;have ey:=uF pA sL (λx hx=>Z.mem_iff.mpr<|kW _ hx) g e;obtain⟨k1,k2⟩:=IW z1 e;exact .inl ⟨k1,by rw[ey];exact k2⟩
     .rcases Q8 (r.take<|m-c) with e|⟨L',y,e⟩
      .rw [e] at g;cases g
      .rw [QA] at e;have ey:=uF pA sR (λx hx=>Z.mem_iff.mpr<|gM _ hx) g e;obtain⟨k1,k2⟩:=IW (show m-c<=r.length by lia) e;exact .inr ⟨k1,by rw[ey];exact k2⟩
    have hu:(c<l.length/\u=l.getD c 0)∨(m-c<r.length/\u=r.getD (m-c) 0):=by
     rcases gN.mp (O.mem_iff.mp aU) with g|g
     .cases e:jF l c c' with
      |nil=>rw[e] at g;cases g
      |cons y L'=>
       obtain⟨k1,k2⟩:=qc e;exact .inl ⟨k1,by rw[uM pB tL (λx hx=>O.mem_iff.mpr<|kW _ hx) g e];exact k2⟩
     .cases e:jF r (m-c) (m'-c') with
      |nil=>rw[e] at g;cases g
      |cons y L'=>
       obtain⟨k1,k2⟩:=qc e;exact .inr ⟨k1,by rw[uM pB tR (λx hx=>O.mem_iff.mpr<|gM _ hx) g e];exact k2⟩
    have nx:∀(L:List Nat) (i:Nat),Nt pr L->0<i->i<L.length->Td pr (L.getD (i-1) 0) (L.getD i 0):=λL i hL h0 hi=>hL.at (i:=i-1) (getD_mem<|by lia).1 (by rw[show i-1+1=i by lia];exact(getD_mem hi).1);rcases hz with ⟨a1,rfl⟩|⟨a1,rfl⟩<;>rcases hu with ⟨U,rfl⟩|⟨U,rfl⟩
    .exact nx l c nl a1 U
    .exact J.lo a1 U
    .exact J.hi (by lia) U
    .exact nx r _ nr a1 U
 have:=go ps<|aK _;rw[h3,oR<|by lia,show aQ l r ps ps-l.length=r.length by unfold aQ;rw[S9 _ hp];lia,oR<|aK _,oR<|aK _] at this;exact this
end
end Pw
namespace Law
open PySem L2 Pw
variable {B e i j k ls m p q r x:Nat}{z α:Type}{dv:List OK}{hls oa pls:List OL}{dn gs l os ts:List Nat}{CA CJ CP a ak d f gr jn lg ma ml od pc pl rl ru sd ta tk tl wd:OL}{fd:Qf}{pcs:List (List Nat)}{b bb:Bool}{K:W.Frag}{v:Po.Fr}{P:TS}{Q:VK}{vs xs:List V}{H H':Hp}{o:HO}{u y:V}{w:Po.W}{pr:List A3}{kvs:List (List Key×V)}
local macro_rules|`(tactic|walk_at "r")=>do let f:=fun(s:String)=>((s.splitOn).map fun x=>Lean.mkIdent x.toName).toArray;let b:=f "pY uI qX uQ xJ DC J9 xK xN KD FO Jk JF xw IE B2 mV xS FV xO Ew DD J8 xI xH xG xF xE xD xB xy ud yh ye ug t8 yi yg uf t7 CG zd yy uD wO List.set_cons_zero List.set_cons_succ Dl BQ gW true_and decide_eq_true_eq Bool.not_eq_true' decide_eq_false_iff_not jC List.map_nil bS tD Nat.reduceAdd Nat.reduceSub tq jT List.replicate_zero List.replicate_succ if_true if_false BW Bool.true_eq_false Bool.not_true Bool.not_false";let a:=b++f "Jq xR Ai Gb B7 Co DE FR rV rZ Bs DF DI xQ vB Aj GK FQ F8 B3 tB MM Gg F1 FW MK tC tK rT MP vC FU FT B6 JG xM B8 Jj B5 MN GW FD lQ fL Ge Ah Au xP vy vx vA rW xv MO Gf F5 FP Ip ML B4 tJ L2.start";`(tactic|((try dsimp only[$[$a:ident],*]);(try simp only[$[$b:ident],*])))
local macro_rules | `(tactic| walk_at "l")=>`(tactic| ((repeat (first | rw[lkc,Z9 rfl] | rw[lkc,Z8 (by decide +kernel)]));first | done | rfl))
noncomputable def top(i:Nat):Pu:=PySem.Challenge.pw_sorthall_k91_whole_one_order.main.body.getD i<|.Pass ⟨0,0,0,0⟩
noncomputable abbrev L4:Pu:=gT (top 5) 0
noncomputable abbrev L6:Pu:=top 8
noncomputable abbrev LB:Pu:=gT (top 9) 0
noncomputable abbrev Mh:Pu:=gT (top 9) 1
noncomputable abbrev Mb:Pu:=gT (top 9) 2
noncomputable abbrev LQ:Pu:=gT (top 9) 3
noncomputable abbrev LA:Pu:=gT (top 9) 4
noncomputable abbrev Ln:Pu:=gT (top 9) 5
noncomputable abbrev Mp:Pu:=gT (top 9) 6
noncomputable abbrev LD:Pu:=gT (top 9) 7
noncomputable abbrev LC:Pu:=gT (top 9) 8
noncomputable abbrev Mu:Pu:=gT (top 10) 0
noncomputable abbrev Mr:Pu:=gT (top 10) 1
noncomputable abbrev KZ:Pu:=top 11
noncomputable abbrev LV:Pu:=top 13
noncomputable abbrev Ml:Pu:=gT (top 15) 0
noncomputable abbrev Mm:Pu:=gT (top 15) 1
noncomputable abbrev L1:Pu:=gT (top 15) 2
noncomputable abbrev Je:Pu:=gT (top 15) 3
noncomputable abbrev J6:Pu:=top 17
noncomputable abbrev Lx:Pu:=gT (top 22) 0
noncomputable abbrev Mf:Pu:=gT (top 22) 1
noncomputable abbrev Mn:Pu:=gT (top 22) 2
noncomputable abbrev Ma:Pu:=gT (top 22) 3
noncomputable abbrev Mz:Pu:=gT (top 22) 4
noncomputable abbrev LO:Pu:=gT (top 22) 5
noncomputable abbrev L9:Pu:=gT (top 22) 6
noncomputable abbrev KY:Pu:=top 23
noncomputable abbrev LU:Pu:=top 25
noncomputable abbrev Mc:Pu:=top 26
noncomputable abbrev Ls:Pu:=top 28
noncomputable abbrev LH:Pu:=top 29
noncomputable abbrev Lr:Pu:=top 30
noncomputable abbrev L5:Pu:=top 31
noncomputable abbrev J4:Pu:=top 32
noncomputable abbrev Lk:Pu:=top 33
noncomputable abbrev KC:Pu:=top 34
noncomputable abbrev Md:Pu:=top 36
noncomputable abbrev Lb:Pu:=top 37
noncomputable abbrev Ld:Pu:=top 39
noncomputable abbrev Ms:Pu:=top 40
noncomputable abbrev LR:Pu:=top 41
noncomputable abbrev LS:Pu:=top 42
noncomputable abbrev KW:Pu:=top 43
noncomputable abbrev Kz:Pu:=top 45
noncomputable abbrev Ly:Pu:=gT (top 47) 0
noncomputable abbrev MA:Pu:=gT (top 47) 1
noncomputable abbrev Mw:Pu:=gT (top 47) 2
noncomputable abbrev Mg:Pu:=gT (top 47) 3
noncomputable abbrev Mv:Pu:=gT (top 47) 4
noncomputable abbrev LP:Pu:=gT (top 47) 5
noncomputable abbrev Lz:Pu:=gT (top 47) 6
noncomputable abbrev Mo:Pu:=gT (top 47) 8
noncomputable abbrev K8:Pu:=top 48
noncomputable abbrev Lq:Pu:=top 50
noncomputable abbrev LI:Pu:=top 52
noncomputable abbrev LG:Pu:=top 53
noncomputable abbrev LF:Pu:=top 54
noncomputable abbrev My:Pu:=gT (top 57) 0
noncomputable abbrev Mq:Pu:=gT (top 57) 1
noncomputable abbrev La:Pu:=top 59
noncomputable abbrev Ll:Pu:=top 60
noncomputable abbrev Lc:Pu:=top 61
noncomputable abbrev K0:Pu:=top 62
noncomputable abbrev Ky:Pu:=top 63
noncomputable abbrev KA:Pu:=top 64
noncomputable abbrev Lo:Pu:=top 65
noncomputable abbrev Lm:Pu:=top 66
noncomputable abbrev IV:Pu:=top 67
noncomputable abbrev J5:Pu:=top 68
noncomputable abbrev BA:Pu:=top 69
theorem lD:aA ["self","place","others"] ["self","place","others"]<|aV L4:=by exact⟨rfl,rfl,rfl,by decide +kernel,rfl,by decide +kernel,by decide +kernel⟩
theorem Vs:aA ["first","beyond","middle"] ["first","beyond"]<|aV L6:=by exact⟨rfl,rfl,rfl,by decide +kernel,rfl,by decide +kernel,by decide +kernel⟩
theorem iO:aA ["self","asker","pieces","piece"] ["self","asker","pieces"]<|aV LB:=by exact⟨rfl,rfl,rfl,by decide +kernel,rfl,by decide +kernel,by decide +kernel⟩
theorem dP:aA ["self","piece","taken","places"] ["self","piece","taken"]<|aV Mh:=by exact⟨rfl,rfl,rfl,by decide +kernel,rfl,by decide +kernel,by decide +kernel⟩
theorem jW:aA ["self","p","q"] ["self","p","q"]<|aV Mb:=by exact⟨rfl,rfl,rfl,by decide +kernel,rfl,by decide +kernel,by decide +kernel⟩
theorem qe:aA ["self","one","other"] ["self","one","other"]<|aV LQ:=by exact⟨rfl,rfl,rfl,by decide +kernel,rfl,by decide +kernel,by decide +kernel⟩
theorem eN:aA ["self","meetings","went_on","told","first","middle","beyond"] ["self","meetings","went_on"]<|aV LA:=by exact⟨rfl,rfl,rfl,by decide +kernel,rfl,by decide +kernel,by decide +kernel⟩
theorem qd:aA ["self"] ["self"]<|aV Ln:=by exact⟨rfl,rfl,rfl,by decide +kernel,rfl,by decide +kernel,by decide +kernel⟩
theorem gY:aA ["self","top"] ["self"]<|aV Mp:=by exact⟨rfl,rfl,rfl,by decide +kernel,rfl,by decide +kernel,by decide +kernel⟩
theorem cT:aA ["self","top","piece","taken","way","went_on"] ["self"]<|aV LD:=by exact⟨rfl,rfl,rfl,by decide +kernel,rfl,by decide +kernel,by decide +kernel⟩
theorem pC:aA ["self"] ["self"]<|aV LC:=by exact⟨rfl,rfl,rfl,by decide +kernel,rfl,by decide +kernel,by decide +kernel⟩
theorem cK:aA ["self","piece","taken","places"] ["self","piece","taken"]<|aV Mu:=by exact⟨rfl,rfl,rfl,by decide +kernel,rfl,by decide +kernel,by decide +kernel⟩
theorem gO:aA ["self","p","q"] ["self","p","q"]<|aV Mr:=by exact⟨rfl,rfl,rfl,by decide +kernel,rfl,by decide +kernel,by decide +kernel⟩
theorem Vn:aA ["asker","pieces","pour"] ["asker","pieces"]<|aV KZ:=by exact⟨rfl,rfl,rfl,by decide +kernel,rfl,by decide +kernel,by decide +kernel⟩
theorem Vb:aA ["asker","many","things","singly","from_behind","pour","taken","place","rest"] ["asker","many"]<|aV LV:=by exact⟨rfl,rfl,rfl,by decide +kernel,rfl,by decide +kernel,by decide +kernel⟩
theorem mB:aA ["self","row","rule","most"] ["self","row","rule","most"]<|aV Ml:=by exact⟨rfl,rfl,rfl,by decide +kernel,rfl,by decide +kernel,by decide +kernel⟩
theorem lZ:aA ["self"] ["self"]<|aV Mm:=by exact⟨rfl,rfl,rfl,by decide +kernel,rfl,by decide +kernel,by decide +kernel⟩
theorem fO:aA ["self","p","q","later","earlier","said"] ["self","p","q"]<|aV L1:=by exact⟨rfl,rfl,rfl,by decide +kernel,rfl,by decide +kernel,by decide +kernel⟩
theorem dR:aA ["self"] ["self"]<|aV Je:=by exact⟨rfl,rfl,rfl,by decide +kernel,rfl,by decide +kernel,by decide +kernel⟩
theorem V0:aA ["asker","order","first","place","low","high","wide","middle"] ["asker","order","first","place"]<|aV J6:=by exact⟨rfl,rfl,rfl,by decide +kernel,rfl,by decide +kernel,by decide +kernel⟩
theorem pF:aA ["self","asker","left","right"] ["self","asker","left","right"]<|aV Lx:=by exact⟨rfl,rfl,rfl,by decide +kernel,rfl,by decide +kernel,by decide +kernel⟩
theorem jG:aA ["self","side"] ["self","side"]<|aV Mf:=by exact⟨rfl,rfl,rfl,by decide +kernel,rfl,by decide +kernel,by decide +kernel⟩
theorem lY:aA ["self","side"] ["self","side"]<|aV Mn:=by exact⟨rfl,rfl,rfl,by decide +kernel,rfl,by decide +kernel,by decide +kernel⟩
theorem eS:aA ["self","side","more","start"] ["self","side","more"]<|aV Ma:=by exact⟨rfl,rfl,rfl,by decide +kernel,rfl,by decide +kernel,by decide +kernel⟩
theorem iQ:aA ["self","side"] ["self","side"]<|aV Mz:=by exact⟨rfl,rfl,rfl,by decide +kernel,rfl,by decide +kernel,by decide +kernel⟩
theorem jQ:aA ["self","side"] ["self"]<|aV LO:=by exact⟨rfl,rfl,rfl,by decide +kernel,rfl,by decide +kernel,by decide +kernel⟩
theorem eT:aA ["self","side","other"] ["self","side"]<|aV L9:=by exact⟨rfl,rfl,rfl,by decide +kernel,rfl,by decide +kernel,by decide +kernel⟩
theorem Vu:aA ["asker","left","right","join","wins","winner","side"] ["asker","left","right"]<|aV KY:=by exact⟨rfl,rfl,rfl,by decide +kernel,rfl,by decide +kernel,by decide +kernel⟩
theorem V3:aA ["asker","left","right","many","low","high","middle"] ["asker","left","right","many"]<|aV LU:=by exact⟨rfl,rfl,rfl,by decide +kernel,rfl,by decide +kernel,by decide +kernel⟩
theorem Ve:aA ["asker","left","right","parts","both","ends","cuts","others"] ["asker","left","right","parts"]<|aV Mc:=by exact⟨rfl,rfl,rfl,by decide +kernel,rfl,by decide +kernel,by decide +kernel⟩
theorem V8:aA ["many"] ["many"]<|aV Ls:=by exact⟨rfl,rfl,rfl,by decide +kernel,rfl,by decide +kernel,by decide +kernel⟩
theorem V9:aA ["some"] ["some"]<|aV LH:=by exact⟨rfl,rfl,rfl,by decide +kernel,rfl,by decide +kernel,by decide +kernel⟩
theorem V5:aA ["some"] ["some"]<|aV Lr:=by exact⟨rfl,rfl,rfl,by decide +kernel,rfl,by decide +kernel,by decide +kernel⟩
theorem M1:aA ["some","many"] ["some","many"]<|aV L5:=by exact⟨rfl,rfl,rfl,by decide +kernel,rfl,by decide +kernel,by decide +kernel⟩
theorem V4:aA ["paper","spots","spot","place"] ["paper"]<|aV J4:=by exact⟨rfl,rfl,rfl,by decide +kernel,rfl,by decide +kernel,by decide +kernel⟩
theorem Vx:aA ["paper","answers","spots"] ["paper","answers"]<|aV Lk:=by exact⟨rfl,rfl,rfl,by decide +kernel,rfl,by decide +kernel,by decide +kernel⟩
theorem Vy:aA ["paper","answers","asked"] ["paper","answers"]<|aV KC:=by exact⟨rfl,rfl,rfl,by decide +kernel,rfl,by decide +kernel,by decide +kernel⟩
theorem Vo:aA ["asker","first","end","stop","beyond","falling"] ["asker","first","end"]<|aV Md:=by exact⟨rfl,rfl,rfl,by decide +kernel,rfl,by decide +kernel,by decide +kernel⟩
theorem Vv:aA ["first","beyond","falling","places"] ["first","beyond","falling"]<|aV Lb:=by exact⟨rfl,rfl,rfl,by decide +kernel,rfl,by decide +kernel,by decide +kernel⟩
theorem Vq:aA ["asker","order","place","low","high","middle"] ["asker","order","place"]<|aV Ld:=by exact⟨rfl,rfl,rfl,by decide +kernel,rfl,by decide +kernel,by decide +kernel⟩
theorem Vi:aA ["asker","order","place","spot"] ["asker","order","place"]<|aV Ms:=by exact⟨rfl,rfl,rfl,by decide +kernel,rfl,by decide +kernel,by decide +kernel⟩
theorem Vp:aA ["asker","order","place"] ["asker"]<|aV LR:=by exact⟨rfl,rfl,rfl,by decide +kernel,rfl,by decide +kernel,by decide +kernel⟩
theorem Vt:aA ["asker","order","place"] ["asker"]<|aV LS:=by exact⟨rfl,rfl,rfl,by decide +kernel,rfl,by decide +kernel,by decide +kernel⟩
theorem Vr:aA ["asker","first","least","end","stop","part","found","order","place"] ["asker","first","least","end"]<|aV KW:=by exact⟨rfl,rfl,rfl,by decide +kernel,rfl,by decide +kernel,by decide +kernel⟩
theorem Vz:aA ["many","first","middle","beyond","lower","upper","found"] ["many","first","middle","beyond"]<|aV Kz:=by exact⟨rfl,rfl,rfl,by decide +kernel,rfl,by decide +kernel,by decide +kernel⟩
theorem pE:aA ["self","asker","least","part"] ["self","asker","least","part"]<|aV Ly:=by exact⟨rfl,rfl,rfl,by decide +kernel,rfl,by decide +kernel,by decide +kernel⟩
theorem iP:aA ["self","number"] ["self","number"]<|aV MA:=by exact⟨rfl,rfl,rfl,by decide +kernel,rfl,by decide +kernel,by decide +kernel⟩
theorem eO:aA ["self"] ["self"]<|aV Mw:=by exact⟨rfl,rfl,rfl,by decide +kernel,rfl,by decide +kernel,by decide +kernel⟩
theorem dQ:aA ["self","lower","order","deed"] ["self","lower"]<|aV Mg:=by exact⟨rfl,rfl,rfl,by decide +kernel,rfl,by decide +kernel,by decide +kernel⟩
theorem fN:aA ["self","middle","beyond"] ["self","middle","beyond"]<|aV Mv:=by exact⟨rfl,rfl,rfl,by decide +kernel,rfl,by decide +kernel,by decide +kernel⟩
theorem jP:aA ["self","first","found","beyond"] ["self"]<|aV LP:=by exact⟨rfl,rfl,rfl,by decide +kernel,rfl,by decide +kernel,by decide +kernel⟩
theorem pD:aA ["self"] ["self"]<|aV Lz:=by exact⟨rfl,rfl,rfl,by decide +kernel,rfl,by decide +kernel,by decide +kernel⟩
theorem gZ:aA ["self","told","order"] ["self"]<|aV Mo:=by exact⟨rfl,rfl,rfl,by decide +kernel,rfl,by decide +kernel,by decide +kernel⟩
theorem V2:aA ["asker","least","part","pile"] ["asker","least","part"]<|aV K8:=by exact⟨rfl,rfl,rfl,by decide +kernel,rfl,by decide +kernel,by decide +kernel⟩
theorem Vg:aA ["asker","reach","order","place","start"] ["asker","reach"]<|aV Lq:=by exact⟨rfl,rfl,rfl,by decide +kernel,rfl,by decide +kernel,by decide +kernel⟩
theorem MZ:aA ["asker","pieces","mouths"] ["asker","pieces","mouths"]<|aV LI:=by exact⟨rfl,rfl,rfl,by decide +kernel,rfl,by decide +kernel,by decide +kernel⟩
theorem Vl:aA ["asker","pieces","mouths","coming","numbers"] ["asker","pieces","mouths"]<|aV LG:=by exact⟨rfl,rfl,rfl,by decide +kernel,rfl,by decide +kernel,by decide +kernel⟩
theorem Vm:aA ["asker","wide","mouths","least","many","pieces"] ["asker","wide","mouths","least"]<|aV LF:=by exact⟨rfl,rfl,rfl,by decide +kernel,rfl,by decide +kernel,by decide +kernel⟩
theorem iR:aA ["self","teller"] ["self","teller"]<|aV My:=by exact⟨rfl,rfl,rfl,by decide +kernel,rfl,by decide +kernel,by decide +kernel⟩
theorem cR:aA ["self","x","y","teller"] ["self","x","y"]<|aV Mq:=by exact⟨rfl,rfl,rfl,by decide +kernel,rfl,by decide +kernel,by decide +kernel⟩
theorem V7:aA ["_law_script","_law_k"] ["_law_script","_law_k"]<|aV La:=by exact⟨rfl,rfl,rfl,by decide +kernel,rfl,by decide +kernel,by decide +kernel⟩
theorem Vk:aA ["_law_keys","_law_one","_law_two","_law_row","_law_k","_law_block"] ["_law_keys","_law_one","_law_two"]<|aV Ll:=by exact⟨rfl,rfl,rfl,by decide +kernel,rfl,by decide +kernel,by decide +kernel⟩
theorem Vh:aA ["_law_script","_law_many","_law_most","_law_number","_law_keys","_law_k"] ["_law_script","_law_many","_law_most"]<|aV Lc:=by exact⟨rfl,rfl,rfl,by decide +kernel,rfl,by decide +kernel,by decide +kernel⟩
theorem Vf:aA ["_law_script","_law_many","_law_keys","_law_way","_law_one","_law_two"] ["_law_script"]<|aV K0:=by exact⟨rfl,rfl,rfl,by decide +kernel,rfl,by decide +kernel,by decide +kernel⟩
theorem M0:aA ["_law_one","_law_other"] ["_law_one","_law_other"]<|aV Ky:=by exact⟨rfl,rfl,rfl,by decide +kernel,rfl,by decide +kernel,by decide +kernel⟩
theorem V1:aA ["_law_asker","_law_cell","_law_many","_law_found","_law_at","_law_end"] ["_law_asker","_law_cell","_law_many"]<|aV KA:=by exact⟨rfl,rfl,rfl,by decide +kernel,rfl,by decide +kernel,by decide +kernel⟩
theorem Vj:aA ["_law_asker","_law_way","_law_cell","_law_many","_law_half","_law_left","_law_right","_law_paper","_law_part"] ["_law_asker","_law_way","_law_cell","_law_many"]<|aV Lo:=by exact⟨rfl,rfl,rfl,by decide +kernel,rfl,by decide +kernel,by decide +kernel⟩
theorem V6:aA ["_law_asker","_law_way","_law_cell","_law_many"] ["_law_asker","_law_way","_law_cell","_law_many"]<|aV Lm:=by exact⟨rfl,rfl,rfl,by decide +kernel,rfl,by decide +kernel,by decide +kernel⟩
theorem Va:aA ["_law_asker","_law_row","_law_answers_here","_law_later","_law_earlier","_law_said"] ["_law_asker","_law_row"]<|aV IV:=by exact⟨rfl,rfl,rfl,by decide +kernel,rfl,by decide +kernel,by decide +kernel⟩
theorem Vc:aA ["_law_row","_law_way","_law_cell","_law_due","_law_asker","_law_paper","e","_law_far"] ["_law_row","_law_way","_law_cell","_law_due"]<|aV J5:=by exact⟨rfl,rfl,rfl,by decide +kernel,rfl,by decide +kernel,by decide +kernel⟩
theorem Vd:aA ["_law_script","_law_row","_law_due","_law_cell","_law_way","_law_many","_law_pieces","_law_pair","_law_found"] ["_law_script"]<|aV BA:=by exact⟨rfl,rfl,rfl,by decide +kernel,rfl,by decide +kernel,by decide +kernel⟩
structure Bt(K:W.Frag)(mg:Pa->Option OK)(Cf Cg Ca Cd Cc Cb Ch Cj Ci Ce Ck:OL):Prop where
 VG:mg "len"=none
 UE:mg "range"=none
 UJ:mg "list"=none
 UK:mg "isinstance"=none
 W3:mg "bool"=none
 Xj:mg "int"=none
 Wk:mg "max"=none
 Wj:mg "min"=none
 Xk:mg "abs"=none
 WH:mg "sum"=none
 Wl:mg "all"=none
 UP:mg "sorted"=none
 VH:mg "enumerate"=none
 WG:mg "zip"=none
 VN:mg "dict"=none
 Wy:mg "ValueError"=none
 WX:∃t,mg "LEFT"=some (.int 0 t)
 Wx:∃t,mg "RIGHT"=some (.int 1 t)
 U6:∃t,mg "WINS_TO_LEAP"=some (.int 4 t)
 Xs:mg "Pour"=some (.ref Cf)
 Dg:fW K Cf
 N4:aF K Cf "asker"
 N7:aF K Cf "pieces"
 XU:aF K Cf "taken"
 XY:aF K Cf "meetings"
 XX:aF K Cf "went_on"
 WQ:mg "LastPour"=some (.ref Cg)
 Df:fW K Cg
 N5:aF K Cg "asker"
 N6:aF K Cg "pieces"
 N8:aF K Cg "taken"
 N9:aF K Cg "meetings"
 XW:aF K Cg "went_on"
 Xn:mg "Asker"=some (.ref Ca)
 De:fW K Ca
 Np:aF K Ca "row"
 Ny:aF K Ca "rule"
 Nz:aF K Ca "most"
 Nn:aF K Ca "asked"
 Nq:aF K Ca "told"
 Xv:mg "Join"=some (.ref Cd)
 Dc:fW K Cd
 Nv:aF K Cd "asker"
 Nj:aF K Cd "sides"
 Nh:aF K Cd "taken"
 Nu:aF K Cd "places"
 Xu:mg "Pile"=some (.ref Cc)
 Da:fW K Cc
 Nr:aF K Cc "asker"
 N1:aF K Cc "least"
 Nf:aF K Cc "start"
 Nk:aF K Cc "end"
 Nl:aF K Cc "reached"
 Nc:aF K Cc "firsts"
 Na:aF K Cc "orders"
 Nm:aF K Cc "grades"
 WB:mg "AskedRule"=some (.ref Cb)
 Dh:fW K Cb
 N2:aF K Cb "teller"
 VF:mg "HallError"=some (.ref Ch)
 W6:mg "NoPaper"=some (.ref Cj)
 W5:mg "NoPlace"=some (.ref Ci)
 Wd:mg "TooFar"=some (.ref Ce)
 Xm:mg "Spent"=some (.ref Ck)
 U7:wK K Ce
 UQ:BH K Ce
 VP:∃fI,CN K Ce fI zR "ValueError.__new__"=true
 UY:PySem.W.exmOne K (.ref Ce) (.ref Ce)=some true
 N0:aF K Ce "place"
 Nx:aF K Ce "others"
 VA:C4 K Ch
 VD:PU K (.type "int") (.type "bool")=some false
structure BO(K:W.Frag)(Cm:OL):Prop where
 Db:fW K Cm
 N3:aF K Cm "asker"
 Ni:aF K Cm "pieces"
 No:aF K Cm "taken"
 Nw:aF K Cm "meetings"
 Ng:aF K Cm "went_on"
inductive qb(K:W.Frag):List V->Hp->VK->XK->Prop
 |mk (a:OL) (ns:List Int):M=[.ref a]->aB K L a (ns.map V.int)->ns.length<=63->(∀H',Y (.bl true) H')->qb K M L Y D
noncomputable def cellOf(ns:List Int)(k:Int):Int:=if k<(ns.length:Int) then(ns[k.toNat]?).getD 0 else 0
inductive jE(K:W.Frag):List V->Hp->VK->XK->Prop
 |mk (a:OL) (ns:List Int) (k:Int):M=[.ref a,.int k]->aB K L a (ns.map V.int)->0<=k->Y (.int<|cellOf ns k) L->jE K M L Y D
inductive kR:List V->Hp->VK->XK->Prop
 |mk {M L Y D} (m a b c:Int):M=[.int m,.int a,.int b,.int c]->1<m->m<2^240->0<=a->a<b->b<c->c<=m->(∀g:Nat,Gr.IsG m (a+b) (b+c) g->g<=240->Y (.int g) L)->kR M L Y D
theorem DV{m:Int}(hm:m<2^240)(z:240<=p):m<=2^p:=by
 obtain⟨d,rfl⟩:∃d,p=240+d:=⟨p-240,by lia⟩
 have h1:(1:Int)<=2^d:=Gr.p2pos d;rw[Int.pow_add];have h2:(2:Int)^240*1<=2^240*2^d:=Int.mul_le_mul_of_nonneg_left h1 (by decide);lia
theorem dbl(x:Int)(p:Nat):2*(x*2^p)=x*2^(p+1):=by rw[Int.pow_succ,Int.mul_comm 2,Int.mul_assoc]
theorem xW{n:Nat}(h:n<=900000):n<sizeLine:=QS h<|by decide
noncomputable abbrev fA(rl ru:OL)(m:V)(n:Int)(tl:OL):List<|Pa×V:=[("told",.ref tl),("asked",.int n),("most",m),("rule",.ref ru),("row",.ref rl)]
noncomputable abbrev fR(g:OL):List<|Pa×V:=[("teller",.ref g)]
inductive cJ(CA:OL):List V->Hp->VK->XK->Prop
 |mk (x dx r:OL) (ru:OL) (m:V) (xs:List V):M=[.ref x,.ref r,.ref ru,m]->L x=some (.ins CA dx [])->L r=some (.lst xs)->(∀rl tl H',(∀b o,b≠x->L b=some o->H' b=some o)->L rl=none->L tl=none->rl≠tl->aZ H' x CA (fA rl ru m 0 tl)->H' rl=some (.lst xs)->H' tl=some (.lst [])->Y .Ux H')->cJ CA M L Y D
inductive dB(CA:OL):List V->Hp->VK->XK->Prop
 |mk (a rl ru tl:OL) (m:V) (n:Int) (xs:List V):M=[.ref a]->aZ L a CA (fA rl ru m n tl)->L rl=some (.lst xs)->Y (.int xs.length) L->dB CA M L Y D
inductive bU(CA:OL):List V->Hp->VK->XK->Prop
 |mk (a rl ru tl:OL) (m:V) (n:Int) (ts:List V):M=[.ref a]->aZ L a CA (fA rl ru m n tl)->L tl=some (.lst ts)->(∀l H',aD L H'->L l=none->H' l=some (.lst ts)->Y (.ref l) H')->bU CA M L Y D
inductive dA(CR:OL):List V->Hp->VK->XK->Prop
 |mk (x dx g:OL):M=[.ref x,.ref g]->L x=some (.ins CR dx [])->(∀H',(∀b o,b≠x->L b=some o->H' b=some o)->aZ H' x CR (fR g)->Y .Ux H')->dA CR M L Y D
inductive fM(CR:OL)(r:V->List V->Hp->VK->Prop):List V->Hp->VK->XK->Prop
 |mk (ru g:OL) (x y:V):M=[.ref ru,x,y]->aZ L ru CR (fR g)->r (.ref g) [x,y] L Y->fM CR r M L Y D
inductive bF(CA CR:OL)(r:V->List V->Hp->VK->Prop):List V->Hp->VK->XK->Prop
 |mk (a rl ru tl:OL) (n p q:Int) (xs ts:List V) (x y:V):M=[.ref a,.int p,.int q]->aZ L a CA (fA rl ru .Ux n tl)->L rl=some (.lst xs)->p≠q->0<=p->0<=q->xs[(max p q).toNat]?=some x->xs[(min p q).toNat]?=some y->fM CR r [.ref ru,x,y] L (λv H1=>∃b,v=.bl b/\aZ H1 a CA (fA rl ru .Ux n tl)/\H1 tl=some (.lst ts)/\ts.length<=900000/\∀t H2,H1 t=none->aZ H2 a CA (fA rl ru .Ux (n+1) tl)->H2 tl=some (.lst<|ts++[.ref t])->H2 t=some (.tup [.int<|max p q,.int<|min p q,.bl b])->(∀c,c≠a->c≠tl->c≠t->H2 c=H1 c)->Y (.bl<|if q<p then b else !b) H2) E0->bF CA CR r M L Y D
theorem za{m:V}{n:Int}:∀f,(aL "told" (.ref tl)<|aL "asked" (.int n)<|aL "most" m<|aL "rule" (.ref ru)<|aL "row" (.ref rl) []).lookup f=(fA rl ru m n tl).lookup f:=λf=>by
 simp only[pO,lkc]
theorem zc{m:V}{n k:Int}:∀f,(aL "asked" (.int k)<|fA rl ru m n tl).lookup f=(fA rl ru m k tl).lookup f:=λf=>by
 rw[pO];by_cases h:f=("asked":Pa)
 .subst h;rw[Z9 rfl];exact(show Qq _ (fA rl ru m k tl)=some (.int k) by walk_at "l").symm
 .simp only[lkc,h,if_false]
noncomputable def kat(ks:List Int)(p:Nat):Int:=(ks[p]?).getD 0
theorem tf{S:List OL}{C:OL}{fl:List<|Pa×V}(e:Fr S H H')(n:a∉S)(h:aZ H a C fl):aZ H' a C fl:=let ⟨dx,fs,h1,h2,h3⟩:=h.ex;⟨dx,fs,e _ _ n h1,h2,h3⟩
theorem HW{M:α->z->Prop}(P:α->z->Prop){G:Prop}(h:(∀x y,P x y->M x y)->G)(t:∀x y,P x y->M x y):G:=h t
theorem GF{α β γ δ:Type}{M:α->β->γ->δ->Prop}(P:α->β->γ->δ->Prop){G:Prop}(h:(∀x y z u,P x y z u->M x y z u)->G)(t:∀x y z u,P x y z u->M x y z u):G:=h t
theorem ze(f:α->z)(l:List α)(k:Nat):(l.map f).eraseIdx k=(l.eraseIdx k).map f:=by
 rw[List.eraseIdx_eq_take_drop_succ,List.eraseIdx_eq_take_drop_succ,bX,BV,BU]
noncomputable def cY(first j:Nat)(f:Bool):List Nat:=if f=true then(Pe first (j-first)).reverse else Pe first (j-first)
theorem mU(first j:Nat)(f:Bool):(cY first j f).length=j-first:=by unfold cY;split<;>simp
noncomputable abbrev nL(l:List Nat):List V:=l.map λ(x:Nat)=>V.int (x:Int)
theorem xb(l:List Nat):nL l=(l.map λ(x:Nat)=>(x:Int)).map V.int:=by rw[Dk];rfl
theorem mY{lo hi:Nat}:(wU (lo:Int) (hi:Int)).map V.int=nL (Pe lo<|hi-lo):=by
 refine E9 λi=>?_;unfold nL;rw[dF,dF];by_cases h:i<hi-lo
 .rw [List.getElem?_range' h,mZ<|by lia];show some (V.int<|(lo:Int)+i)=some (V.int ((lo+1*i:Nat):Int));congr 2;lia
 .rw [oP<|by rw[Mj];lia,oP<|by rw[vm];lia];rfl
inductive iJ:List V->Hp->VK->XK->Prop
 |mk (first j:Nat) (f:Bool):M=[.int first,.int j,.bl f]->first<=1000->j<=1000->(∀l H',aD L H'->L l=none->H' l=some (.lst<|nL<|cY first j f)->Y (.ref l) H')->iJ M L Y D
structure aG where
 c:OL
 m:Pa->Option OK
inductive lB:List V->Hp->VK->XK->Prop
 |mk (x y:OL) (k k2 i j:Int):M=[.ref x,.ref y]->L x=some (.tup [.int k,.int i])->L y=some (.tup [.int k2,.int j])->Y (.bl<|decide<|k<k2) L->lB M L Y D
def eV(mg:Pa->Option OK):V->List V->Hp->VK->Prop:=λf vs H Q=>(∃g,f=.ref g/\mg "_law_first"=some (.ref g))/\lB vs H Q E0
theorem Ay{mg:Pa->Option OK}{f:V}{Q':VK}(m:∀v H,Q v H->Q' v H)(h:eV mg f vs H Q):eV mg f vs H Q':=by
 obtain⟨g,x,y,k,k2,i,j,z,h1,h2,q⟩:=h;exact⟨g,x,y,k,k2,i,j,z,h1,h2,m _ _ q⟩
structure lS(H:Hp)(pr:List<|Nat×Nat×Bool)(ts:List V):Prop where
 len:ts.length=pr.length
 get:∀(j p q:Nat) (b:Bool),pr[j]?=some (p,q,b)->∃t,ts[j]?=some (V.ref t)/\H t=some (.tup [.int p,.int q,.bl b])
theorem lS.keep{pr:List<|Nat×Nat×Bool}{ts:List V}(e:∀t x,H t=some (.tup x)->H' t=some (.tup x))(h:lS H pr ts):lS H' pr ts:=
 ⟨h.len,λj p q b z=>by
  obtain⟨t,a,b⟩:=h.get j p q b z;exact⟨t,a,e _ _ b⟩⟩
theorem lS.snoc{pr:List<|Nat×Nat×Bool}{ts:List V}{t:OL}(h:lS H pr ts)(O:H t=some (.tup [.int p,.int q,.bl b])):lS H (pr++[(p,q,b)])<|ts++[.ref t]:=by
 refine⟨by rw[aW,aW,h.len];rfl,λj U q' b' z=>?_⟩;by_cases hl:j<pr.length
 .rw [oQ hl] at z;obtain⟨t',a,b⟩:=h.get j U q' b' z;exact⟨t',by rw[oQ<|by rw[h.len];exact hl];exact a,b⟩
 .have e:=(gX.mp z).1;rw[aW] at e;have J:j=pr.length:=by have:([(p,q,b)]:List<|Nat×Nat×Bool).length=1:=rfl;lia
  subst J;rw[kF<|aK _,jT] at z;cases z;exact⟨t,by rw[<- h.len,kF<|aK _,jT];rfl,O⟩
structure Ad where
 ks:List Int
 xs:List V
 a:OL
 rl:OL
 ru:OL
 tl:OL
 g:OL
 lg:OL
 pre:List A3
variable {c:Ad}
noncomputable abbrev Ad.S(c:Ad):List OL:=[c.a,c.lg,c.tl]
noncomputable abbrev Ad.A(c:Ad):List OL:=[c.a,c.lg,c.tl,c.rl,c.ru]
noncomputable abbrev Ad.n(c:Ad):Nat:=c.ks.length
noncomputable abbrev Ad.VO(c:Ad)(bb:Bool):Nat->Nat->Nat->Bool:=sS (kat c.ks) bb
noncomputable abbrev Ad.an(c:Ad):Nat->Nat->Nat->Bool:=sS (kat c.ks) false
theorem Ad.SA{b:OL}(h:b∉c.A):b∉c.S:=λz=>by
 rcases bC.mp z with z|z
 .exact h (by rw[z];exact aU)
 rcases bC.mp z with z|z
 .exact h (by rw[z];exact bA _ aU)
 .exact h (by rw[bD.mp z];exact bA _<|bA _ aU)
structure aE(CA:OL)(CR:aG)(H:Hp)(c:Ad)(pr:List A3):Prop where
 ha:aZ H c.a CA<|fA c.rl c.ru .Ux ((pr.length-c.pre.length:Nat):Int) c.tl
 VW:H c.rl=some (.lst c.xs)
 W7:aZ H c.ru CR.c<|fR c.g
 Xz:CR.m "_law_first"=some (.ref c.g)
 len:c.xs.length=c.ks.length
 row:∀(i:Nat) k,c.ks[i]?=some k->∃r,c.xs[i]?=some (V.ref r)/\H r=some (.tup [.int k,.int i])
 Xe:c.lg=c.tl
 U2:∃ts qr,pr=c.pre++qr/\H c.tl=some (.lst ts)/\lS H qr ts
 ne:c.rl∉c.S/\c.ru≠c.a
section
variable {CA:OL}{CR:aG}{H H':Hp}{c:Ad}{pr:List A3}
theorem aE.tupS(h:aE CA CR H c pr){b:OL}(J:H b=some o)(n1:∀x,o≠.lst x)(n2:∀C d f,o≠.ins C d f):b∉c.A:=by
 obtain⟨ts,Z,U,U2,_⟩:=h.U2;have O:H c.lg=some (.lst ts):=by rw[h.Xe];exact U2
 intro z;rcases bC.mp z with z|z
 .exact h.ha.ne J n2 z
 rcases bC.mp z with z|z
 .rw [z,O] at J;exact n1 _ (OS J).symm
 rcases bC.mp z with z|z
 .rw [z,U2] at J;exact n1 _ (OS J).symm
 rcases bC.mp z with z|z
 .rw [z,h.VW] at J;exact n1 _ (OS J).symm
 .exact h.W7.ne J n2 (bD.mp z)
theorem aE.tup(h:aE CA CR H c pr)(f:Fr c.S H H'){b:OL}{x:List V}(J:H b=some (.tup x)):H' b=some (.tup x):=f _ _ (Ad.SA<|h.tupS J (λ_ z=>by cases z) λ_ _ _ z=>by cases z) J
theorem aE.XM(h:aE CA CR H c pr):c.ru∉c.S:=by
 obtain⟨ts,Z,U,U2,_⟩:=h.U2;have O:H c.lg=some (.lst ts):=by rw[h.Xe];exact U2
 obtain⟨d1,f1,J,_⟩:=h.W7.ex;intro z;rcases bC.mp z with z|z
 .exact h.ne.2 z
 rcases bC.mp z with z|z
 .rw [z,O] at J;cases J
 .rw [bD.mp z,U2] at J;cases J
theorem aE.off(h:aE CA CR H c pr){l:OL}(hl:H l=none):l∉c.A:=λz=>by
 obtain⟨ts,U,O,U2,_⟩:=h.U2;have J:H c.lg=some (.lst ts):=by rw[h.Xe];exact U2
 rcases bC.mp z with z|z
 .exact h.ha.neN hl z
 rcases bC.mp z with z|z
 .rw [z,J] at hl;cases hl
 rcases bC.mp z with z|z
 .rw [z,U2] at hl;cases hl
 rcases bC.mp z with z|z
 .rw [z,h.VW] at hl;cases hl
 .exact h.W7.neN hl (bD.mp z)
theorem aE.free{J:Hp}(h:aE CA CR H' c pr)(f:Fr c.S J H')(z:H' d=none):J d=none:=by
 cases e:J d with
 |none=>rfl
 |some o=>rw[f _ _ (Ad.SA<|h.off z) e] at z;cases z
theorem aE.but(h:aE CA CR H c pr)(e:∀b o,b∈c.A->H b=some o->H' b=some o)(t:∀b o,H b=some o->(∀x,o≠.lst x)->(∀C d f,o≠.ins C d f)->(∀k,o≠.dT k)->(∀t,o≠.tbl t)->H' b=some o):aE CA CR H' c pr:=by
 have J:∀{b C:OL} {fl:List<|Pa×V},b∈c.A->aZ H b C fl->aZ H' b C fl:=λm hi=>let ⟨dx,fs,h1,h2,h3⟩:=hi.ex;⟨dx,fs,e _ _ m h1,h2,h3⟩
 have O:∀b x,H b=some (.tup x)->H' b=some (.tup x):=λb x hb=>t _ _ hb (λ_ z=>by cases z) (λ_ _ _ z=>by cases z) (λ_ z=>by cases z) (λ_ z=>by cases z);obtain⟨us,qr,Z,h6,h7⟩:=h.U2;exact⟨J (by simp) h.ha,e _ _ (by simp) h.VW,J (by simp) h.W7,h.Xz,h.len,λi k U=>let ⟨r,a1,a2⟩:=h.row i k U;⟨r,a1,O _ _ a2⟩,h.Xe,⟨us,qr,Z,e _ _ (by simp) h6,h7.keep O⟩,h.ne⟩
theorem aE.mono(h:aE CA CR H c pr)(e:aD H H'):aE CA CR H' c pr:=h.but (λb o _ z=>e _ _ z) λb o z _ _ _ _=>e _ _ z
def Wr(H:Hp)(b:OL):Prop:=(∃l,H b=some (.lst l))∨(∃C d f,H b=some (.ins C d f))∨(∃k,H b=some (.dT k))∨H b=none
theorem aE.apart(h:aE CA CR H c pr){S:List OL}(e:Fr S H H')(J:∀b∈S,Wr H b)(n:∀b∈S,b∉c.A):aE CA CR H' c pr:=
 h.but (λb o m z=>e _ _ (λy=>n b y m) z) λb o z n1 n2 O _=>e _ _ (λy=>by
  rcases J b y with ⟨l,x⟩|⟨C,d,f,x⟩|⟨k,x⟩|x
  .rw [x] at z;exact n1 _ (OS z).symm
  .rw [x] at z;exact n2 _ _ _ (OS z).symm
  .rw [x] at z;exact O _ (OS z).symm
  .rw [x] at z;cases z) z
theorem JJ{l:OL}:Fr [l] H<|upd H l o:=λb o' n h=>by rw[aO λz=>n<|by rw[z];exact aU];exact h
theorem aE.upd(h:aE CA CR H c pr){l:OL}{us:List V}{o:HO}(hl:H l=some (.lst us))(n:l∉c.A):aE CA CR (upd H l o) c pr:=
 h.apart (S:=[l]) JJ (λb z=>by rw[bD.mp z];exact .inl ⟨_,hl⟩) λb z=>by rw[bD.mp z];exact n
theorem aE.Wm(h:aE CA CR H c pr)(ap:min p q<max p q)(J:max p q<c.n)(ao:pr.length<=800000)
  (fin:∀H',Fr c.S H H'->aE CA CR H' c (pr++[(max p q,min p q,c.an 0 (max p q)<|min p q)])->Q (.bl<|if q<p then c.an 0 (max p q) (min p q) else !c.an 0 (max p q) (min p q)) H'):bF CA CR.c (eV CR.m) [.ref c.a,.int p,.int q] H Q E0:=by
 have Z:min p q<c.ks.length:=by show min p q<c.n;lia
 have J:max p q<c.ks.length:=J;obtain⟨ts,qr,O,U2,aa⟩:=h.U2;have ai:=congrArg Pz O;rw[aW] at ai;obtain⟨x,hx,tx⟩:=h.row (max p q) _<|bL J;obtain⟨y,hy,ty⟩:=h.row (min p q) _<|bL Z;have am:(max (p:Int) q).toNat=max p q:=by lia
 have ah:(min (p:Int) q).toNat=min p q:=by lia
 have kx:c.ks[max p q]=kat c.ks (max p q):=by unfold kat;rw[bL J];rfl
 have ae:c.ks[min p q]=kat c.ks (min p q):=by unfold kat;rw[bL Z];rfl
 refine⟨c.a,c.rl,c.ru,c.tl,_,p,q,c.xs,ts,.ref x,.ref y,rfl,h.ha,h.VW,by lia,by lia,by lia,by rw[am];exact hx,by rw[ah];exact hy,?_⟩;rw[kx] at tx;rw[ae] at ty;refine⟨c.ru,c.g,.ref x,.ref y,rfl,h.W7,⟨c.g,rfl,h.Xz⟩,x,y,_,_,_,_,rfl,tx,ty,?_⟩;have eb:decide (kat c.ks (max p q)<kat c.ks (min p q))=c.an 0 (max p q) (min p q):=rfl;rw[eb];clear eb;generalize c.an 0 (max p q) (min p q)=b at fin⊢;refine⟨_,rfl,h.ha,U2,by rw[aa.len];lia,λt2 H2 aj ag ac af k2=>?_⟩;have fr:Fr c.S H H2:=λd o n hb=>by
  have m1:d≠c.a:=λz=>n (by rw[z];exact aU);have m3:d≠c.tl:=λz=>n (by rw[z];exact bA _<|bA _ aU);rw[k2 d m1 m3<|aX hb aj];exact hb
 have tk:∀b x,H b=some (.tup x)->H2 b=some (.tup x):=λb x hb=>h.tup fr hb;have U:H2 t2=some (.tup [.int ((max p q:Nat):Int),.int ((min p q:Nat):Int),.bl b]):=by
  rw[show(((max p q:Nat):Int))=max (p:Int) q by lia,show(((min p q:Nat):Int))=min (p:Int) q by lia];exact af
 have ad:∀(i:Nat) k,c.ks[i]?=some k->∃r,c.xs[i]?=some (V.ref r)/\H2 r=some (.tup [.int k,.int i]):=λi k hk=>let ⟨r,a1,a2⟩:=h.row i k hk;⟨r,a1,tk _ _ a2⟩
 have st:aE CA CR H2 c<|pr++[(max p q,min p q,b)]:=⟨by rw[aW,iC,show((pr.length+1-c.pre.length:Nat):Int)=((pr.length-c.pre.length:Nat):Int)+1 by lia];exact ag,fr _ _ h.ne.1 h.VW,tf fr h.XM h.W7,h.Xz,h.len,ad,h.Xe,⟨_,qr++[(max p q,min p q,b)],by rw[O,jM],ac,(aa.keep tk).snoc U⟩,h.ne⟩
 have g':=fin H2 fr st;by_cases UA:q<p
 .rw [Z9 UA] at g';rw[Z9<|by lia];exact g'
 .rw [Z8 UA] at g';rw[Z8<|by lia];exact g'
theorem aE.ahead(h:aE CA CR H c pr)(z:c.n<=1000){k:Bool->Pg α}{post:α->List A3->Prop}(w:Wp c.n c.an (UX p q k) pr post)
  (fin:∀b H' pr',Fr c.S H H'->aE CA CR H' c pr'->Wp c.n c.an (k b) pr' post->Q (.bl b) H'):bF CA CR.c (eV CR.m) [.ref c.a,.int p,.int q] H Q E0:=by
 obtain⟨h1,h2,h3,w⟩:=w;exact h.Wm h1 h2 h3 λH' f s=>fin _ H' _ f s w
end
theorem BC{k:Bool->Pg α}{P:α->Prop}(h:∀b,(k b).Al P):(UX p q k).Al P:=λb=>h _
theorem rB{n:Nat}(h:n<=1000):n<sizeLine:=QS h<|by decide
theorem Iv{pl:Nat}(h:r<=os.length):pJ (nL os) (r:Int) (.int pl)=nL (gR os r pl):=by
 unfold pJ gR nL;dsimp only;rw[Z8<|by lia,Int.toNat_natCast,aJ,rM h,bX,jC,BV,BU]
theorem rH{o:Nat}(h:os[m]?=some o):lP (nL os) (m:Int)=some (.int o):=cO (by lia)<|by rw[Int.toNat_natCast,dF,h];rfl
theorem qW{os:List Nat}{pl:Nat}:∀(m lo hi:Nat),lo<=os.length->(pL os pl m lo hi).Al λr=>r.1<=os.length
 |0,lo,hi,h=>h
 |m+1,lo,hi,h=>by
  rw[pL.eq_2];by_cases z:hi<os.length
  .rw [Z9 z];refine BC λb=>?_;split
   .exact qW m (hi+1) (2*hi+1) (by lia)
   .exact h
  .rw [Z8 z];exact h
theorem KH{os:List Nat}{pl:Nat}:∀(m lo hi:Nat),(iq os pl m lo hi).Al λr=>r<=hi
 |0,lo,hi=>aK _
 |m+1,lo,hi=>by
  rw[iq.eq_2];by_cases z:lo<hi
  .rw [Z9 z];refine BC λb=>?_;split
   .exact KH m _ hi
   .exact (KH m lo _).imp λa h=>by lia
  .rw [Z8 z];exact aK _
theorem KR(os:List Nat)(pl:Nat):(Fv os pl).Al λr=>r<=os.length:=
 Pg.Al.bind<|(qW os.length 0 0<|cE _).imp λr _=>(KH os.length r.1<|min r.2 os.length).imp λa h=>by lia
theorem Kn{os:List Nat}{pl:Nat}:∀(m lo hi:Nat),lo<=hi->(zP os pl m lo hi).Al λr=>r<=hi
 |0,lo,hi,h=>h
 |m+1,lo,hi,h=>by
  rw[zP.eq_2];by_cases z:lo<hi
  .rw [Z9 z];refine BC λb=>?_;split
   .exact Kn m _ hi (by lia)
   .exact (Kn m lo _<|by lia).imp λa h=>by lia
  .rw [Z8 z];exact h
theorem IM(os:List Nat)(pl:Nat):(wF os pl).Al λr=>r<=os.length:=Kn _ _ _<|cE _
inductive kO(CA:OL)(CR:aG):List V->Hp->VK->XK->Prop
 |mk (c:Ad) (pr:List A3) (ol:OL) (os:List Nat) (f pl:Nat) (post:Nat->List A3->Prop):M=[.ref c.a,.ref ol,.int f,.int pl]->aE CA CR L c pr->L ol=some (.lst<|nL os)->ol∉c.S->f<=os.length->c.n<=1000->Wp c.n c.an (Fv (os.drop f) pl) pr post->(∀r H' pr',Fr c.S L H'->aE CA CR H' c pr'->post r pr'->Y (.int (r:Nat)) H')->kO CA CR M L Y D
theorem qV{f:Nat}(h:i<(os.drop f).length):os[f+i]?=some ((os.drop f).getD i 0):=by
 have:=(getD_mem h).1;rw[Di] at this;exact this
inductive gC(CA:OL)(CR:aG):List V->Hp->VK->XK->Prop
 |mk (c:Ad) (pr:List A3) (os:List Nat) (pl:Nat) (ol:OL) (post:Nat->List A3->Prop):M=[.ref c.a,.ref ol,.int pl]->aE CA CR L c pr->L ol=some (.lst<|nL os)->ol∉c.S->c.n<=1000->Wp c.n c.an (wF os pl) pr post->(∀r H' pr',Fr c.S L H'->aE CA CR H' c pr'->post r pr'->Y (.int (r:Nat)) H')->gC CA CR M L Y D
inductive oU(CA:OL)(CR:aG):List V->Hp->VK->XK->Prop
 |mk (c:Ad) (pr:List A3) (first stop:Nat) (post:Nat×Bool->List A3->Prop):M=[.ref c.a,.int first,.int stop]->aE CA CR L c pr->c.n<=1000->Wp c.n c.an (rX stop first) pr post->(∀t H' r pr',Fr c.S L H'->aE CA CR H' c pr'->H' t=some (.tup [.int (r.1:Nat),.bl r.2])->post r pr'->Y (.ref t) H')->oU CA CR M L Y D
inductive kS(CA:OL)(CR:aG):List V->Hp->VK->XK->Prop
 |mk (c:Ad) (pr:List A3) (first ls stop:Nat) (post:Nat×List Nat->List A3->Prop):M=[.ref c.a,.int first,.int ls,.int stop]->aE CA CR L c pr->c.n<=1000->first<stop->stop<=600->Wp c.n c.an (HU ls stop first) pr post->(∀t ol H' r pr',Fr c.S L H'->L ol=none->aE CA CR H' c pr'->H' t=some (.tup [.int (r.1:Nat),.ref ol])->H' ol=some (.lst<|nL r.2)->post r pr'->Y (.ref t) H')->kS CA CR M L Y D
theorem qf{stop f:Nat}(fal:Bool):∀(m j:Nat),f<j->j<=stop->(pG stop fal m j).Al λr=>f<r.1/\r.1<=stop
 |0,j,h1,h2=>⟨h1,h2⟩
 |m+1,j,h1,h2=>by
  rw[pG.eq_2];by_cases z:j<stop
  .rw [Z9 z];refine BC λb=>?_;split
   .exact qf fal m (j+1) (by lia) (by lia)
   .exact ⟨h1,h2⟩
  .rw [Z8 z];exact⟨h1,h2⟩
theorem pZ{stop f:Nat}(h:f<stop):(rX stop f).Al λr=>f<r.1/\r.1<=stop:=by
 unfold rX;by_cases z:f+1<stop
 .rw [Z9 z];refine BC λb=>?_;exact qf _ stop (f+2) (by lia)<|by lia
 .rw [Z8 z];exact⟨xi _,by lia⟩
theorem tG(a b:Nat)(f:Bool):Pw.cY a b f=cY a b f:=rfl
theorem Fx{M:α->Prop}(P:α->Prop){G:Prop}(h:(∀x,P x->M x)->G)(t:∀x,P x->M x):G:=h t
noncomputable abbrev fJ(ak sd tk pc:OL):List<|Pa×V:=[("places",.ref pc),("taken",.ref tk),("sides",.ref sd),("asker",.ref ak)]
noncomputable def pk{α:Type}(b:Bool)(x y:α):List α:=if b then[x,y] else[y,x]
noncomputable def sv(b:Bool):Int:=if b then 0 else 1
theorem zS{x:V}:lP (pk b x y) (sv b)=some x:=by cases b<;>exact cO (by decide) rfl
theorem uo{x y:α}:pk (!b) y x=pk b x y:=by cases b<;>rfl
theorem DX{x y:α}:(pk b x y).length=2:=by cases b<;>rfl
theorem DW{x:V}:(pk b x y).set (sv b).toNat u=pk b u y:=by cases b<;>rfl
structure JS(CJ:OL)(H:Hp)(b:Bool)(jn ak sd ma ta tk pc:OL)(ms ts:List Nat)(i j:Nat)(dn:List Nat):Prop where
 hj:aZ H jn CJ<|fJ ak sd tk pc
 Ws:H sd=some (.tup<|pk b (.ref ma)<|.ref ta)
 WC:H ma=some (.lst<|nL ms)
 Xx:H ta=some (.lst<|nL ts)
 UT:H tk=some (.lst<|pk b (.int i)<|.int j)
 Wv:H pc=some (.lst<|nL dn)
 ne:tk≠pc/\ma≠tk/\ma≠pc/\ta≠tk/\ta≠pc
section
variable {ms:List Nat}
theorem JS.swap(h:JS CJ H b jn ak sd ma ta tk pc ms ts i j dn):JS CJ H (!b) jn ak sd ta ma tk pc ts ms j i dn:=
 ⟨h.hj,by rw[uo];exact h.Ws,h.Xx,h.WC,by rw[uo];exact h.UT,h.Wv,h.ne.1,h.ne.2.2.2.1,h.ne.2.2.2.2,h.ne.2.1,h.ne.2.2.1⟩
theorem JS.keep{O:Nat}{dn':List Nat}(h:JS CJ H b jn ak sd ma ta tk pc ms ts i j dn)(e:Fr [tk,pc] H H')(h1:H' tk=some (.lst<|pk b (.int m)<|.int O))(h2:H' pc=some (.lst<|nL dn')):JS CJ H' b jn ak sd ma ta tk pc ms ts m O dn':=by
 have n2:∀{x:OL},x≠tk->x≠pc->x∉[tk,pc]:=λa b z=>(bC.mp z).elim a λz=>b<|bD.mp z;have hj:jn∉[tk,pc]:=n2 (OY<|h.hj.ne h.UT λ_ _ _ z=>by cases z) (OY<|h.hj.ne h.Wv λ_ _ _ z=>by cases z);have U:sd∉[tk,pc]:=n2 (λz=>by have:=h.Ws;rw[z,h.UT] at this;cases this) (λz=>by have:=h.Ws;rw[z,h.Wv] at this;cases this);exact⟨tf e hj h.hj,e _ _ U h.Ws,e _ _ (n2 h.ne.2.1 h.ne.2.2.1) h.WC,e _ _ (n2 h.ne.2.2.2.1 h.ne.2.2.2.2) h.Xx,h1,h2,h.ne⟩
theorem JS.fr{S:List OL}(h:JS CJ H b jn ak sd ma ta tk pc ms ts i j dn)(e:Fr S H H')(n:jn∉S/\sd∉S/\ma∉S/\ta∉S/\tk∉S/\pc∉S):JS CJ H' b jn ak sd ma ta tk pc ms ts i j dn:=
 ⟨tf e n.1 h.hj,e _ _ n.2.1 h.Ws,e _ _ n.2.2.1 h.WC,e _ _ n.2.2.2.1 h.Xx,e _ _ n.2.2.2.2.1 h.UT,e _ _ n.2.2.2.2.2 h.Wv,h.ne⟩
theorem JS.mono(h:JS CJ H b jn ak sd ma ta tk pc ms ts i j dn)(e:aD H H'):JS CJ H' b jn ak sd ma ta tk pc ms ts i j dn:=
 h.fr (S:=[]) e.fr ⟨kU,kU,kU,kU,kU,kU⟩
end
inductive kP(CJ:OL):List V->Hp->VK->XK->Prop
 |mk (x dx ak al ar:OL) (ls rs:List Nat):M=[.ref x,.ref ak,.ref al,.ref ar]->L x=some (.ins CJ dx [])->L al=some (.lst<|nL ls)->L ar=some (.lst<|nL rs)->(∀sd la ra tk pc H',(∀b o,b≠x->L b=some o->H' b=some o)->L sd=none->L la=none->L ra=none->L tk=none->L pc=none->JS CJ H' true x ak sd la ra tk pc ls rs 0 0 []->Y .Ux H')->kP CJ M L Y D
inductive dO(CJ:OL):List V->Hp->VK->XK->Prop
 |mk (b:Bool) (jn ak sd ma ta tk pc:OL) (ms ts:List Nat) (i j:Nat) (dn:List Nat):M=[.ref jn,.int<|sv b]->JS CJ L b jn ak sd ma ta tk pc ms ts i j dn->Y (.bl<|decide<|i<ms.length) L->dO CJ M L Y D
inductive iL(CJ:OL):List V->Hp->VK->XK->Prop
 |mk (b:Bool) (jn ak sd ma ta tk pc:OL) (ms ts:List Nat) (i j:Nat) (dn:List Nat) (x:Nat):M=[.ref jn,.int<|sv b]->JS CJ L b jn ak sd ma ta tk pc ms ts i j dn->ms[i]?=some x->Y (.int x) L->iL CJ M L Y D
inductive dN(CJ:OL):List V->Hp->VK->XK->Prop
 |mk (b:Bool) (jn ak sd ma ta tk pc:OL) (ms ts:List Nat) (i j:Nat) (dn:List Nat) (m:Nat):M=[.ref jn,.int<|sv b,.int m]->JS CJ L b jn ak sd ma ta tk pc ms ts i j dn->i+m<=ms.length->dn.length+ms.length<=1000->(∀H',Fr [tk,pc] L H'->JS CJ H' b jn ak sd ma ta tk pc ms ts (i+m) j (dn++(ms.drop i).take m)->Y .Ux H')->dN CJ M L Y D
inductive dY(CJ:OL):List V->Hp->VK->XK->Prop
 |mk (b:Bool) (jn ak sd ma ta tk pc:OL) (ms ts:List Nat) (i j:Nat) (dn:List Nat):M=[.ref jn,.int<|sv b]->JS CJ L b jn ak sd ma ta tk pc ms ts i j dn->i<=ms.length->dn.length+ms.length<=1000->(∀H',Fr [tk,pc] L H'->JS CJ H' b jn ak sd ma ta tk pc ms ts ms.length j (dn++ms.drop i)->Y .Ux H')->dY CJ M L Y D
theorem yY{S z:List OL}(h:Fr S H H')(k:∀b∈S,b∈z):Fr z H H':=λb o n J=>h b o (λm=>n<|k b m) J
theorem Ex(h:Fr [a,lg,tl] H H'):Fr [a,lg,tl,tk,pc] H H':=yY h λb J=>by
 rcases bC.mp J with z|z
 .rw [z];exact aU
 rcases bC.mp z with z|z
 .rw [z];exact bA _ aU
 .rw [bD.mp z];exact bA _<|bA _ aU
theorem vZ(h:Fr [tk,pc] H H'):Fr [a,lg,tl,tk,pc] H H':=yY h λb z=>bA _<|bA _<|bA _ z
structure NX(c:Ad)(jn sd ma ta tk pc:OL):Prop where
 n1:jn∉c.A/\sd∉c.A/\ma∉c.A/\ta∉c.A/\tk∉c.A/\pc∉c.A
theorem NX.swap(h:NX c jn sd ma ta tk pc):NX c jn sd ta ma tk pc:=⟨⟨h.n1.1,h.n1.2.1,h.n1.2.2.2.1,h.n1.2.2.1,h.n1.2.2.2.2⟩⟩
theorem JS.Xi{ms:List Nat}(h:JS CJ H b jn ak sd ma ta tk pc ms ts i j dn)(nx:NX c jn sd ma ta tk pc)(f:Fr c.S H H'):JS CJ H' b jn ak sd ma ta tk pc ms ts i j dn:=
 h.fr f ⟨Ad.SA nx.n1.1,Ad.SA nx.n1.2.1,Ad.SA nx.n1.2.2.1,Ad.SA nx.n1.2.2.2.1,Ad.SA nx.n1.2.2.2.2.1,Ad.SA nx.n1.2.2.2.2.2⟩
theorem aE.VQ{CR:aG}{ms:List Nat}(s:aE CA CR H c pr)(h:JS CJ H b jn ak sd ma ta tk pc ms ts i j dn)(nx:NX c jn sd ma ta tk pc)(f:Fr [tk,pc] H H'):aE CA CR H' c pr:=
 s.apart f (λx hx=>by
  rcases bC.mp hx with z|z
  .rw [z];exact .inl ⟨_,h.UT⟩
  .rw [bD.mp z];exact .inl ⟨_,h.Wv⟩) λx hx=>by
  rcases bC.mp hx with z|z
  .rw [z];exact nx.n1.2.2.2.2.1
  .rw [bD.mp z];exact nx.n1.2.2.2.2.2
theorem EZ(h:os[i]?=some x):os.drop i=x::os.drop (i+1):=by
 obtain⟨h1,h2⟩:=gX.mp h;rw[zL h1,h2]
theorem K2(h:os[i]?=some x):(os.drop i).take 1=[x]:=by
 rw[EZ h];rfl
theorem Bu{D:Ends}{x y:Option V}{o1 z:Int}{c:Prop}[Decidable c](h:∀o:Int,(c/\o=o1)∨(¬ c/\o=z)->Cut P D [x,y,some<|.int o] H):if c then Cut P D [x,y,some<|.int o1] H else Cut P D [x,y,some<|.int z] H:=by
 split
 .rename_i h1;exact h o1<|.inl ⟨h1,rfl⟩
 .rename_i h1;exact h z<|.inr ⟨h1,rfl⟩
theorem GD(P:Prop){M G:Prop}(h:(P->M)->G)(t:P->M):G:=h t
inductive oS(CA:OL)(CR:aG)(CJ:OL):List V->Hp->VK->XK->Prop
 |mk (c:Ad) (pr:List A3) (jn sd la ra tk pc:OL) (ls rs dn:List Nat) (i j x y:Nat) (k:Bool->Pg (List Nat)) (post:List Nat->List A3->Prop):M=[.ref jn]->aE CA CR L c pr->JS CJ L true jn c.a sd la ra tk pc ls rs i j dn->NX c jn sd la ra tk pc->ls[i]?=some x->rs[j]?=some y->c.n<=1000->dn.length+ls.length<=1000->dn.length+rs.length<=1000->Wp c.n c.an (UX x y k) pr post->(∀b H' pr',Fr [c.a,c.lg,c.tl,tk,pc] L H'->aE CA CR H' c pr'->JS CJ H' true jn c.a sd la ra tk pc ls rs (if b then i+1 else i) (if b then j else j+1) (dn++[if b then x else y])->Wp c.n c.an (k b) pr' post->Y (.int<|sv b) H')->oS CA CR CJ M L Y D
inductive gF(CA:OL)(CR:aG)(CJ:OL):List V->Hp->VK->XK->Prop
 |mk (c:Ad) (pr:List A3) (jn sd ma ta tk pc:OL) (b:Bool) (ms ts dn:List Nat) (i j y:Nat) (post:Nat->List A3->Prop):M=[.ref jn,.int<|sv b]->aE CA CR L c pr->JS CJ L b jn c.a sd ma ta tk pc ms ts i j dn->NX c jn sd ma ta tk pc->ts[j]?=some y->i<=ms.length->c.n<=1000->dn.length+ms.length+ts.length<=1000->Wp c.n c.an (Fv (ms.drop i) y) pr post->(∀k H' pr',Fr [c.a,c.lg,c.tl,tk,pc] L H'->aE CA CR H' c pr'->i+k<=ms.length->JS CJ H' b jn c.a sd ma ta tk pc ms ts (i+k) (if i+k<ms.length then j+1 else j) (dn++(ms.drop i).take k++if i+k<ms.length then[y] else[])->post k pr'->Y .Ux H')->gF CA CR CJ M L Y D
inductive cV(CA:OL)(CR:aG):List V->Hp->VK->XK->Prop
 |mk (c:Ad) (pr:List A3) (al ar:OL) (ls rs:List Nat) (post:List Nat->List A3->Prop):M=[.ref c.a,.ref al,.ref ar]->aE CA CR L c pr->L al=some (.lst<|nL ls)->L ar=some (.lst<|nL rs)->c.n<=1000->ls.length+rs.length<=500->Wp c.n c.an (Ha ls rs) pr post->(∀l H' ps pr',Fr c.S L H'->L l=none->H' l=some (.lst<|nL ps)->aE CA CR H' c pr'->post ps pr'->Y (.ref l) H')->cV CA CR M L Y D
theorem DH{a:Bool}(h:sv a=sv b):a=b:=by revert h;cases a<;>cases b<;>intro h<;>first|rfl|cases h
theorem yJ{N:Nat}{An:Nat->Nat->Nat->Bool}{n w:Nat}{s:Bool}{ls rs:List Nat}{post:List Nat->List A3->Prop}(h:¬ (i<ls.length/\j<rs.length))(hi:i<=ls.length)(J:j<=rs.length)(hw:Wp N An (u9 n s w (ls.drop i) (rs.drop j) dn) pr post):post (dn++ls.drop i++rs.drop j) pr:=by
 by_cases z:i<ls.length
 .have e:rs.drop j=[]:=Qw (by lia);rw[e] at hw⊢;cases n with
  |zero=>exact hw
  |succ n=>
   cases e2:ls.drop i with
   |nil=>rw[e2] at hw;exact hw
   |cons x l=>rw[e2] at hw;exact hw
 .have e:ls.drop i=[]:=Qw (by lia);rw[e] at hw⊢;cases n with
  |zero=>exact hw
  |succ n=>exact hw
noncomputable abbrev zQ(a:OL)(ls s e r:Int)(fs od gr:OL):List<|Pa×V:=[("grades",.ref gr),("orders",.ref od),("firsts",.ref fs),("reached",.int r),("end",.int e),("start",.int s),("least",.int ls),("asker",.ref a)]
theorem qZ{ls s e r r':Int}:∀f,(aL "reached" (.int r')<|zQ a ls s e r tk od gr).lookup f=(zQ a ls s e r' tk od gr).lookup f:=λf=>by
 rw[pO];by_cases h:f=("reached":Pa)
 .subst h;rw[Z9 rfl];exact(show Qq _ (zQ a ls s e r' tk od gr)=some (.int r') by walk_at "l").symm
 .simp only[lkc,h,if_false]
noncomputable def bB:List (Nat×List Nat)->Nat->Nat
 |[],r=>r
 |p::_,_=>p.1
theorem xp{l:List α}(h:2<=l.length):∃A x y,l=A++[x,y]:=by
 refine⟨l.take<|l.length-2,l[l.length-2],l[l.length-1],?_⟩;have z:l.drop (l.length-2)=[l[l.length-2],l[l.length-1]]:=by
  rw[zL<|by lia,show l.length-2+1=l.length-1 by lia,zL<|by lia,show l.length-1+1=l.length by lia,List.drop_length]
 rw[<- z,xg]
def aY(H:Hp):List OL->List (Nat×List Nat)->Prop
 |[],[]=>True
 |b::bs,p::ps=>H b=some (.lst<|nL p.2)/\aY H bs ps
 |_,_=>False
theorem aY.len{H:Hp}:∀{oa:List OL} {ps:List<|Nat×List Nat},aY H oa ps->oa.length=ps.length
 |[],[],_=>rfl
 |b::bs,p::ps,h=>by rw[bS,bS,aY.len h.2]
 |[],p::ps,h=>h.elim
 |b::bs,[],h=>h.elim
theorem aY.keep{H H':Hp}:∀{oa:List OL} {ps:List<|Nat×List Nat},aY H oa ps->(∀b∈oa,∀o,H b=some o->H' b=some o)->aY H' oa ps
 |[],[],_,_=>trivial
 |b::bs,p::ps,h,e=>⟨e b aU _ h.1,aY.keep h.2 λc hc=>e c<|bA _ hc⟩
 |[],p::ps,h,_=>h.elim
 |b::bs,[],h,_=>h.elim
theorem aY.split{H:Hp}:∀{P:List<|Nat×List Nat} {oa:List OL} {Q:List<|Nat×List Nat},aY H oa (P++Q)->∃A B,oa=A++B/\A.length=P.length/\aY H A P/\aY H B Q
 |[],oa,Q,h=>⟨[],oa,rfl,rfl,trivial,h⟩
 |p::P,[],Q,h=>h.elim
 |p::P,b::bs,Q,h=>by
  obtain⟨A,B,z,e2,e3,e4⟩:=aY.split (P:=P) h.2;exact⟨b::A,B,by rw[z];rfl,by rw[bS,bS,e2],⟨h.1,e3⟩,e4⟩
theorem aY.app{H:Hp}:∀{P:List<|Nat×List Nat} {A B:List OL} {Q:List<|Nat×List Nat},aY H A P->aY H B Q->aY H (A++B) (P++Q)
 |[],[],B,Q,_,h=>h
 |p::P,[],B,Q,h,_=>h.elim
 |[],b::bs,B,Q,h,_=>h.elim
 |p::P,b::bs,B,Q,h,h'=>⟨h.1,aY.app h.2 h'⟩
theorem aY.get{H:Hp}:∀{ps:List<|Nat×List Nat} {oa:List OL} {i:Nat} {b:OL},aY H oa ps->oa[i]?=some b->∃p,ps[i]?=some p/\H b=some (.lst<|nL p.2)
 |[],[],i,b,_,e=>by simp at e
 |p::P,[],i,b,h,_=>h.elim
 |[],c::bs,i,b,h,_=>h.elim
 |p::P,c::bs,0,b,h,e=>by cases e;exact⟨p,rfl,h.1⟩
 |p::P,c::bs,i+1,b,h,e=>by
  obtain⟨z,a1,a2⟩:=aY.get (ps:=P) (oa:=bs) (i:=i) h.2 (by simpa using e);exact⟨z,by simpa using a1,a2⟩
theorem aY.two{A B:List<|Nat×List Nat}{U p2:Nat×List Nat}(h:aY H oa<|A++U::p2::B):∃z J O OB,oa=z++J::O::OB/\z.length=A.length/\aY H z A/\H J=some (.lst<|nL U.2)/\H O=some (.lst<|nL p2.2)/\aY H OB B:=by
 obtain⟨z,R,Z,e2,e3,e4⟩:=h.split
 match R,e4 with
 |J::O::OB,e4=>exact⟨z,J,O,OB,Z,e2,e3,e4.1,e4.2.1,e4.2.2⟩
 |[J],e4=>exact e4.2.elim
 |[],e4=>exact e4.elim
theorem rq{b:OL}(h:oa[m]?=some b):lP (oa.map V.ref) (m:Int)=some (.ref b):=cO (by lia)<|by rw[Int.toNat_natCast,dF,h];rfl
theorem Ir(X:List α)(x:α)(Y:List α):(X++x::Y)[X.length]?=some x:=by rw[kF<|aK _,jT];rfl
theorem Hg(X:List α)(x y:α)(Y:List α):(X++x::y::Y)[X.length+1]?=some y:=by rw[kF<|by lia,E5];rfl
theorem Ao(X:List α)(x y:α)(Y:List α):(X++x::Y).set X.length y=X++y::Y:=by rw[List.set_append_right _ _<|aK _,jT];rfl
theorem uT(X:List α)(x y:α)(Y:List α):(X++x::y::Y).eraseIdx (X.length+1)=X++x::Y:=by rw[List.eraseIdx_append_of_length_le<|by lia,E5];rfl
theorem EH{l:List V}{x:V}:lP (l++[x,y]) (-2)=some x:=by
 unfold lP yL;rw[aW,show([x,y]:List V).length=2 from rfl,Z8<|by decide,Z9<|by lia,show((-2:Int)+((l.length+2:Nat):Int)).toNat=l.length by lia];exact Ir l x [y]
theorem zB{l:List V}:lP (l++[y]) (-1)=some y:=by
 unfold lP yL;rw[aW,show([y]:List V).length=1 from rfl,Z8<|by decide,Z9<|by lia,show((-1:Int)+((l.length+1:Nat):Int)).toNat=l.length by lia];exact Ir l y []
structure aR(CP:OL)(H:Hp)(x a fs od gr:OL)(ls s e r:Nat)(oa:List OL)(ps:List<|Nat×List Nat)(gs:List Nat):Prop where
 hp:aZ H x CP<|zQ a ls s e r fs od gr
 VY:H fs=some (.lst<|nL<|ps.map PF)
 VX:H od=some (.lst<|oa.map V.ref)
 WD:H gr=some (.lst<|nL gs)
 Wu:aY H oa ps
 ne:fs≠od/\fs≠gr/\od≠gr
 nb:∀b∈oa,b∉[fs,od,gr]
section
variable {x fs:OL}{s:Nat}{ps:List (Nat×List Nat)}
theorem aR.fr{S:List OL}(h:aR CP H x a fs od gr ls s e r oa ps gs)(f:Fr S H H')(n:x∉S/\fs∉S/\od∉S/\gr∉S)(n2:∀b∈oa,b∉S):aR CP H' x a fs od gr ls s e r oa ps gs:=
 ⟨tf f n.1 h.hp,f _ _ n.2.1 h.VY,f _ _ n.2.2.1 h.VX,f _ _ n.2.2.2 h.WD,h.Wu.keep λb z o=>f b o<|n2 b z,h.ne,h.nb⟩
theorem aR.mono(h:aR CP H x a fs od gr ls s e r oa ps gs)(f:aD H H'):aR CP H' x a fs od gr ls s e r oa ps gs:=h.fr (S:=[]) f.fr ⟨kU,kU,kU,kU⟩ λ_ _=>kU
theorem aR.VR(h:aR CP H x a fs od gr ls s e r oa ps gs):∀c∈[fs,od,gr],∃l,H c=some (.lst l):=λc hc=>by
 rcases bC.mp hc with z|z
 .rw [z];exact⟨_,h.VY⟩
 rcases bC.mp z with z|z
 .rw [z];exact⟨_,h.VX⟩
 .rw [bD.mp z];exact⟨_,h.WD⟩
theorem aR.xl(h:aR CP H x a fs od gr ls s e r oa ps gs):x∉[fs,od,gr]:=λz=>by
 obtain⟨l,hl⟩:=h.VR x z;exact h.hp.ne hl (λ_ _ _ z=>by cases z) rfl
end
inductive dZ(CA CP:OL):List V->Hp->VK->XK->Prop
 |mk (x dx a:OL) (ls s e:Nat) (pz:V):M=[.ref x,.ref a,.int ls,pz]->L x=some (.ins CP dx [])->((∃pt,pz=.ref pt/\L pt=some (.tup [.int s,.int e]))∨(pz=.Ux/\s=0/\a≠x/\∃rl ru m n tl xs,aZ L a CA (fA rl ru m n tl)/\L rl=some (.lst xs)/\xs.length=e))->(∀fs od gr H',(∀b o,b≠x->L b=some o->H' b=some o)->L fs=none->L od=none->L gr=none->aR CP H' x a fs od gr ls s e s [] [] []->Y .Ux H')->dZ CA CP M L Y D
inductive eL(CP:OL):List V->Hp->VK->XK->Prop
 |mk (x a fs od gr:OL) (ls s e r:Nat) (oa:List OL) (A:List<|Nat×List Nat) (p:Nat×List Nat) (B:List<|Nat×List Nat) (gs:List Nat):M=[.ref x,.int (A.length:Nat)]->aR CP L x a fs od gr ls s e r oa (A++p::B) gs->Y (.int (bB B r:Nat)) L->eL CP M L Y D
inductive tN(CP:OL):List V->Hp->VK->XK->Prop
 |mk (x a fs od gr:OL) (ls s e r:Nat) (oa:List OL) (ps:List<|Nat×List Nat) (gs:List Nat):M=[.ref x]->aR CP L x a fs od gr ls s e r oa ps gs->Y (.bl<|mI gs) L->tN CP M L Y D
inductive kN(CP:OL):List V->Hp->VK->XK->Prop
 |mk (x a fs od gr:OL) (ls s e r:Nat) (oa:List OL) (A:List<|Nat×List Nat) (p:Nat×List Nat) (gs:List Nat) (m b:Nat):M=[.ref x,.int m,.int b]->aR CP L x a fs od gr ls s e r oa (A++[p]) gs->s<=p.1->p.1<m->m<b->b<=e->e<=500->(∀g:Nat,Gr.IsG ((e:Int)-s) (((p.1:Int)-s)+((m:Int)-s)) (((m:Int)-s)+((b:Int)-s)) g->g<=240->Y (.int g) L)->kN CP M L Y D
inductive kM(CP:OL):List V->Hp->VK->XK->Prop
 |mk (x a fs od gr:OL) (ls s e r:Nat) (oa:List OL) (ps:List<|Nat×List Nat) (gs:List Nat):M=[.ref x]->aR CP L x a fs od gr ls s e r oa ps gs->(flt ps).length<=500->r<=e->e<=500->(∀l H',aD L H'->L l=none->H' l=some (.lst<|nL<|flt ps++Pe r (e-r))->Y (.ref l) H')->kM CP M L Y D
theorem uR(A B:List<|Nat×List Nat):flt (A++B)=flt A++flt B:=by unfold flt;rw[bX,vk]
theorem Br(h:gs.length<=1):mI gs=false:=by
 cases hd:mI gs with
 |false=>rfl
 |true=>have:=KN hd;lia
noncomputable def grd(n a b c:Nat):Nat:=open Classical in if h:∃g,Gr.IsG (n:Int) ((a:Int)+b) ((b:Int)+c) g then h.choose else 0
theorem Er{n a b c g:Nat}{N x y:Int}(h:Gr.IsG N x y g)(z:N=n)(e2:x=(a:Int)+b)(e3:y=(b:Int)+c):grd n a b c=g:=by
 subst z e2 e3;unfold grd;have hx:∃g,Gr.IsG (n:Int) ((a:Int)+b) ((b:Int)+c) g:=⟨g,h⟩
 rw[dif_pos hx];exact hx.choose_spec.uniq h
theorem E1:∀(m:Nat) (s:Bool) (w:Nat) (l r acc:List Nat),(u9 m s w l r acc).Al λos=>os.length=acc.length+l.length+r.length
 |0,s,w,l,r,acc=>by
  show(acc++l++r).length=_;rw[aW,aW]
 |m+1,s,w,[],r,acc=>by
  show(acc++[]++r).length=_;rw[aW,aW]
 |m+1,s,w,x::l,[],acc=>by
  show(acc++x::l++[]).length=_;rw[aW,aW]
 |m+1,s,w,x::l,y::r,acc=>by
  rw[u9];refine BC λb=>?_;have tk:∀(L:List Nat) k,k<=L.length->(L.take k).length=k/\(L.drop k).length=L.length-k:=λL k h=>⟨by rw[gV];lia,dW⟩
  by_cases h4:(if b=s then w+1 else 1)=4
  .rw [Z9 h4];cases b
   .rw [Z8<|by decide];refine Pg.Al.bind<|(KR r x).imp λk z=>?_;have:=tk r k z;split
    .exact (E1 m _ _ _ _ _).imp λos h=>by simp at h⊢;lia
    .exact (E1 m _ _ _ _ _).imp λos h=>by simp at h⊢;lia
   .rw [Z9 rfl];refine Pg.Al.bind<|(KR l y).imp λk z=>?_;have:=tk l k z;split
    .exact (E1 m _ _ _ _ _).imp λos h=>by simp at h⊢;lia
    .exact (E1 m _ _ _ _ _).imp λos h=>by simp at h⊢;lia
  .rw [Z8 h4];split
   .exact (E1 m _ _ _ _ _).imp λos h=>by simp at h⊢;lia
   .exact (E1 m _ _ _ _ _).imp λos h=>by simp at h⊢;lia
theorem qQ(l r:List Nat):(Ha l r).Al λos=>os.length=l.length+r.length:=(E1 _ _ _ _ _ _).imp λos h=>by rw[h];simp
theorem qp:∀(m pl:Nat) (os:List Nat),(jY wF m pl os).Al λz=>z.length=os.length+m
 |0,pl,os=>rfl
 |m+1,pl,os=>Pg.Al.bind ((IM os pl).imp λr _=>(qp m (pl+1) _).imp λz h=>by
  have:=(bV (os:=os) (r:=r) (x:=pl)).length_eq;rw[aW,iC] at this;lia)
theorem wb(h:r<e):(HU ls e r).Al λf=>0<f.2.length/\r+f.2.length<=e:=
 Pg.Al.bind<|(pZ h).imp λg J=>Pg.Al.bind ((qp _ _ _).imp λos z=>by
  have:=mU r g.1 g.2;rw[tG] at z;show 0<os.length/\r+os.length<=e;lia)
structure PW(s e:Nat)(t:PS):Prop where
 cl:Cl s t.ps t.r
 re:t.r<=e
 gl:t.gs.length=t.ps.length-1
structure zZ(c:Ad)(x fs od gr:OL)(oa:List OL):Prop where
 n1:x∉c.A/\fs∉c.A/\od∉c.A/\gr∉c.A
 n2:∀b∈oa,b∉c.A
theorem zZ.l3{x:OL}(h:zZ c x f od gr oa):∀b∈[f,od,gr],b∉c.A:=λb J=>by
 rcases bC.mp J with z|z
 .rw [z];exact h.n1.2.1
 rcases bC.mp z with z|z
 .rw [z];exact h.n1.2.2.1
 .rw [bD.mp z];exact h.n1.2.2.2
theorem aR.Xi{x:OL}{s:Nat}{ps:List<|Nat×List Nat}(h:aR CP H x a tk od gr ls s e r oa ps gs)(z:zZ c x tk od gr oa)(f:Fr c.S H H'):aR CP H' x a tk od gr ls s e r oa ps gs:=
 h.fr f ⟨Ad.SA z.n1.1,Ad.SA z.n1.2.1,Ad.SA z.n1.2.2.1,Ad.SA z.n1.2.2.2⟩ λb J=>Ad.SA<|z.n2 b J
theorem aE.three{CR:aG}{x:OL}{s:Nat}{ps:List<|Nat×List Nat}(st:aE CA CR H c pr)(h:aR CP H x a tk od gr ls s e r oa ps gs)(J:zZ c x tk od gr oa)(f:Fr [tk,od,gr] H H'):aE CA CR H' c pr:=st.apart f (λb z=>.inl<|h.VR b z) J.l3
def LeftW(CA:OL)(CR:aG)(CP:OL)(H:Hp)(c:Ad)(x fs od gr:OL)(ls s e:Nat)(oa oa':List OL)(t:PS)(pr:List A3)(H':Hp):Prop:=
 Fr [x,fs,od,gr,c.a,c.lg,c.tl] H H'/\(∀b∈oa',b∈oa∨H b=none)/\aR CP H' x c.a fs od gr ls s e t.r oa' t.ps t.gs/\zZ c x fs od gr oa'/\aE CA CR H' c pr/\PW s e t
inductive eE(CA:OL)(CR:aG)(CP:OL):List V->Hp->VK->XK->Prop
 |mk (c:Ad) (pr:List A3) (x fs od gr:OL) (ls s e i r:Nat) (oa:List OL) (ps:List<|Nat×List Nat) (gs:List Nat) (post:Option PS->List A3->Prop):M=[.ref x,.int (i:Nat)]->aE CA CR L c pr->aR CP L x c.a fs od gr ls s e r oa ps gs->zZ c x fs od gr oa->PW s e ⟨r,ps,gs⟩->i+2<=ps.length->e<=500->c.n<=1000->Wp c.n c.an (Fq i ⟨r,ps,gs⟩) pr post->(∀t H' t' oa' pr',LeftW CA CR CP L c x fs od gr ls s e oa oa' t' pr' H'->t'.r=r->t'.ps.length+1=ps.length->post (some t') pr'->Y (.ref t) H')->eE CA CR CP M L Y D
inductive oX(CA:OL)(CR:aG)(CP:OL):List V->Hp->VK->XK->Prop
 |mk (c:Ad) (pr:List A3) (x fs od gr:OL) (ls s e r:Nat) (oa:List OL) (ps:List<|Nat×List Nat) (gs:List Nat) (post:Option PS->List A3->Prop):M=[.ref x]->aE CA CR L c pr->aR CP L x c.a fs od gr ls s e r oa ps gs->zZ c x fs od gr oa->PW s e ⟨r,ps,gs⟩->r<e->e<=500->c.n<=1000->Wp c.n c.an (Bg grd ls s e ⟨r,ps,gs⟩) pr post->(∀t H' t' oa' pr',LeftW CA CR CP L c x fs od gr ls s e oa oa' t' pr' H'->r<t'.r->t'.ps.length=ps.length+1->post (some t') pr'->Y (.ref t) H')->oX CA CR CP M L Y D
inductive kJ(CA:OL)(CR:aG)(CP:OL):List V->Hp->VK->XK->Prop
 |mk (c:Ad) (pr:List A3) (x fs od gr:OL) (ls s e r:Nat) (oa:List OL) (ps:List<|Nat×List Nat) (gs:List Nat) (post:Option PS->List A3->Prop):M=[.ref x]->aE CA CR L c pr->aR CP L x c.a fs od gr ls s e r oa ps gs->zZ c x fs od gr oa->PW s e ⟨r,ps,gs⟩->e<=500->c.n<=1000->Wp c.n c.an (GV grd ls s e ⟨r,ps,gs⟩) pr post->(post none pr->Y .Ux L)->(∀t H' t' oa' pr',LeftW CA CR CP L c x fs od gr ls s e oa oa' t' pr' H'->2*(e-t'.r)+t'.ps.length<2*(e-r)+ps.length->post (some t') pr'->Y (.ref t) H')->kJ CA CR CP M L Y D
inductive bT(CA:OL)(CR:aG):List V->Hp->VK->XK->Prop
 |mk (c:Ad) (pr:List A3) (ls s e:Nat) (pt:V) (post:List Nat->List A3->Prop):M=[.ref c.a,.int ls,pt]->aE CA CR L c pr->((∃b,pt=.ref b/\L b=some (.tup [.int s,.int e]))∨(pt=.Ux/\s=0/\e=c.n))->s<=e->e<=500->c.n<=1000->Wp c.n c.an (EF grd ls s e) pr post->(∀l H' os pr',Fr c.S L H'->L l=none->H' l=some (.lst<|nL os)->aE CA CR H' c pr'->os.length=e-s->post os pr'->Y (.ref l) H')->bT CA CR M L Y D
noncomputable abbrev fP(ak pl tk ml wd:OL):List<|Pa×V:=[("went_on",.ref wd),("meetings",.ref ml),("taken",.ref tk),("pieces",.ref pl),("asker",.ref ak)]
theorem Kc{o:Nat}(h:os[m]?=some o):lP (nL os) (m:Int)=some (.int o):=cO (by lia)<|by rw[Int.toNat_natCast,dF,h];rfl
noncomputable abbrev kQ(p q:Nat):List Key:=[Sum.inl (p:Int),Sum.inl (q:Int)]
theorem Ei{q':Nat}(h:kQ p q=kQ i q'):p=i/\q=q':=by
 injection h with h1 h2
 injection h2 with h2 _
 injection h1 with h1
 injection h2 with h2
 lia
noncomputable def flp(bb:Bool)(pr:List A3):List A3:=cond bb (pr.map λe=>(e.1,e.2.1,!e.2.2)) pr
noncomputable abbrev fU(bb:Bool)(CA:OL)(CR:aG)(H:Hp)(c:Ad)(pr:List A3):Prop:=aE CA CR H c<|flp bb pr
noncomputable def rv(bb:Bool)(xs:List Nat):List Nat:=cond bb xs.reverse xs
theorem DO(bb:Bool)(xs:List Nat):(rv bb xs).length=xs.length:=by cases bb;rfl;exact Dr
def z9(H:Hp)(u:V):Po.Fr->Prop
 |none=>u=.Ux
 |some x=>∃t,u=.ref t/\H t=some (.tup [.int (x.1:Int),.int (x.2:Int)])
theorem z9.keep(h:z9 H u v)(e:∀t x,H t=some (.tup x)->H' t=some (.tup x)):z9 H' u v:=by
 cases v with
 |none=>exact h
 |some x=>obtain⟨t,a,b⟩:=h;exact⟨t,a,e _ _ b⟩
noncomputable def front(xs:List Nat)(t i:Nat):Po.Fr:=(xs[t]?).map λx=>(x,i)
structure PB(bb:Bool)(CP:OL)(H:Hp)(p ak pl tk ml wd:OL)(pls:List OL)(pcs:List<|List Nat):Prop where
 hp:aZ H p CP<|fP ak pl tk ml wd
 VS:H pl=some (.lst<|pls.map V.ref)
 len:pls.length=pcs.length
 pc:∀(i:Nat) l xs,pls[i]?=some l->pcs[i]?=some xs->H l=some (.lst<|nL<|rv bb xs)
theorem PB.at{p:OL}(h:PB bb CP H p ak pl tk ml wd pls pcs){xs:List Nat}(e:pcs[i]?=some xs):∃l,pls[i]?=some l/\H l=some (.lst<|nL<|rv bb xs):=by
 have hi:=(gX.mp e).1;have z:i<pls.length:=by rw[h.len];exact hi
 have J:pls[i]?=some pls[i]:=bL z;exact⟨_,J,h.pc i _ xs J e⟩
theorem PB.fr{S:List OL}{p:OL}(h:PB bb CP H p ak pl tk ml wd pls pcs)(e:Fr S H H')(n1:p∉S)(n2:pl∉S)(z:∀l∈pls,l∉S):PB bb CP H' p ak pl tk ml wd pls pcs:=
 ⟨tf e n1 h.hp,e _ _ n2 h.VS,h.len,λi l xs a b=>e _ _ (z l<|jB a)<|h.pc i l xs a b⟩
theorem PB.mono{p:OL}(h:PB bb CP H p ak pl tk ml wd pls pcs)(e:aD H H'):PB bb CP H' p ak pl tk ml wd pls pcs:=
 h.fr (S:=[]) e.fr kU kU λ_ _=>kU
structure dI(H:Hp)(vs:List V)(ms:List Po.Mt):Prop where
 len:vs.length=ms.length
 get:∀(i:Nat) m,ms[i]?=some m->∃t,vs[i]?=some (V.ref t)/\H t=some (.tup [.int (m.1:Int),.int (m.2.1:Int),.int (m.2.2:Int)])
theorem dI.keep{ms:List Po.Mt}(h:dI H vs ms)(e:∀t x,H t=some (.tup x)->H' t=some (.tup x)):dI H' vs ms:=⟨h.len,λi m hm=>let ⟨t,a,b⟩:=h.get i m hm;⟨t,a,e _ _ b⟩⟩
theorem dI.app{us:List V}{ms ns:List Po.Mt}(h:dI H vs ms)(g:dI H us ns):dI H (vs++us)<|ms++ns:=by
 refine⟨by rw[aW,aW,h.len,g.len],λj m z=>?_⟩;by_cases hl:j<ms.length
 .rw [oQ hl] at z;rw[oQ<|by rw[h.len];exact hl];exact h.get j m z
 .rw [kF<|by lia] at z;rw[kF<|by rw[h.len];lia,h.len];exact g.get _ m z
theorem dI.one{m:Po.Mt}{t:OL}(J:H t=some (.tup [.int (m.1:Int),.int (m.2.1:Int),.int (m.2.2:Int)])):dI H [.ref t] [m]:=⟨rfl,λj a z=>by
 cases j with
 |zero=>cases z;exact⟨t,rfl,J⟩
 |succ j=>simp at z⟩
theorem dI.nil:dI H [] []:=⟨rfl,λj a z=>by simp at z⟩
inductive bQ(n:Nat):List V->Hp->VK->XK->Prop
 |mk (f b:Nat):M=[.int f,.int b]->f<=b->b<=600->0<n->b-f<=2^(n-1)->(∀l H' ws,aD L H'->L l=none->H' l=some (.lst ws)->dI H' ws (Po.mts f b)->Y (.ref l) H')->bQ n M L Y D
theorem lW{E:XK}(h:bQ 0 vs H Q E):False:=by
 obtain⟨_,_,_,_,_,h0,_⟩:=h;lia
inductive cF(bb:Bool)(CP:OL):List V->Hp->VK->XK->Prop
 |mk (p ak pl tk ml wd:OL) (pls:List OL) (pcs:List<|List Nat) (i t:Nat) (xs:List Nat):M=[.ref p,.int i,.int t]->PB bb CP L p ak pl tk ml wd pls pcs->pcs[i]?=some xs->(∀u H',aD L H'->z9 H' u (front xs t i)->Y u H')->cF bb CP M L Y D
structure DT(H:Hp)(d:OL)(w:Po.W)(B:Nat)(kvs:List<|List Key×V):Prop where
 hd:H d=some (.dT kvs)
 sm:Ka kvs
 len:kvs.length<=B
 val:∀a c v,w a c=some v->∃u,cH kvs (kQ a c)=some u/\z9 H u v
theorem DT.fr{S:List OL}(h:DT H d w B kvs)(e:Fr S H H')(n:d∉S)(t:∀t x,H t=some (.tup x)->t∉S):DT H' d w B kvs:=
 ⟨e _ _ n h.hd,h.sm,h.len,λa c v z=>let ⟨u,x,y⟩:=h.val a c v z;⟨u,x,y.keep λb o q=>e _ _ (t _ _ q) q⟩⟩
theorem DT.mono(h:DT H d w B kvs)(e:aD H H'):DT H' d w B kvs:=h.fr (S:=[]) e.fr kU λ_ _ _=>kU
theorem yD{k:List Key}{v:V}{J:List Key×V}(h:J∈putK kvs k v):J.1=k∨∃z∈kvs,z.1=J.1:=by
 unfold putK at h;split at h
 .obtain ⟨z,h1,h2⟩:=vn.mp h;split at h2
  .rename_i e;rw[<- h2];exact .inl e
  .rw [<- h2];exact .inr ⟨z,h1,rfl⟩
 .rcases gN.mp h with h|h
  .exact .inr ⟨J,h,rfl⟩
  .rw [bD.mp h];exact .inl rfl
theorem yF{k:List Key}{v:V}(h:cH kvs k=some u):(putK kvs k v).length=kvs.length:=by
 unfold putK;rw[Z9<|by rw[Hl,h];rfl,aJ]
theorem DT.put(h:DT H d w B kvs){a c:Nat}(ha:a<205)(hc:c<=500)(hu:z9 H u v)(hk:k=1∨(w a c).isSome=true):DT (upd H d<|.dT<|putK kvs (kQ a c) u) d (Po.put w a c v) (B+k)<|putK kvs (kQ a c) u:=by
 have e:∀t x,H t=some (.tup x)->upd H d (.dT<|putK kvs (kQ a c) u) t=some (.tup x):=λt x U=>by rw[aO λz=>by rw[z,h.hd] at U;cases U];exact U
 refine⟨aP,λkv aa=>?_,?_,λa' c' v' J=>?_⟩
 .rcases yD aa with z|⟨O,h1,h2⟩
  .exact ⟨a,c,z,ha,hc⟩
  .rw [<- h2];exact h.sm O h1
 .have:=h.len;rcases hk with rfl|z
  .exact cX (Hn _ _ _) (by lia)
  .obtain ⟨v0,Z⟩:=Option.isSome_iff_exists.mp z;obtain⟨u0,ac,_⟩:=h.val a c v0 Z;rw[yF ac];lia
 .unfold Po.put at J;rw[pU];by_cases z:a'=a/\c'=c
  .rw [Z9 z] at J;rw[Z9<|by rw[z.1,z.2]];cases J;exact⟨u,rfl,hu.keep e⟩
  .rw [Z8 z] at J;rw[Z8 λy=>z<|Ei y];obtain⟨u',x,y⟩:=h.val a' c' v' J;exact⟨u',x,y.keep e⟩
theorem sy{os:List α}{x:α}(h:os[i]?=some x):os.drop i=x::os.drop (i+1):=by
 obtain⟨h1,h2⟩:=gX.mp h;rw[zL h1,h2]
inductive mX(bb:Bool)(CP:OL):List V->Hp->VK->XK->Prop
 |mk (p ak pl tk ml wd:OL) (pls:List OL) (pcs:List<|List Nat) (w:Po.W) (B:Nat) (kvs:List<|List Key×V) (top:Po.Fr):M=[.ref p]->PB bb CP L p ak pl tk ml wd pls pcs->DT L wd w B kvs->(w 0 pcs.length=some top∨B=0/\top=none)->(∀u H',aD L H'->z9 H' u top->Y u H')->mX bb CP M L Y D
inductive gJ(bb:Bool)(CP:OL):List V->Hp->VK->XK->Prop
 |mk (p ak pl tk ml wd:OL) (pls:List OL) (pcs:List<|List Nat) (w:Po.W) (B:Nat) (kvs:List<|List Key×V) (top:Po.Fr):M=[.ref p]->PB bb CP L p ak pl tk ml wd pls pcs->DT L wd w B kvs->(w 0 pcs.length=some top∨B=0/\top=none)->(∀H',aD L H'->Y (match top with|none=>V.Ux|some x=>.int (x.1:Int)) H')->gJ bb CP M L Y D
inductive oW(bb:Bool)(CP:OL):List V->Hp->VK->XK->Prop
 |mk (p ak pl tk ml wd:OL) (pls:List OL) (pcs:List<|List Nat) (ts:List Nat):M=[.ref p]->PB bb CP L p ak pl tk ml wd pls pcs->L tk=some (.lst<|nL ts)->pcs.length<=500->ts.length<=500->(∀xs∈pcs,xs.length<=500)->(∀t∈ts,t<=500)->(∀H',aD L H'->Y (.int<|((pcs.map Pz).sum:Nat)-(ts.sum:Nat)) H')->oW bb CP M L Y D
theorem sum_nat(l:List Nat):(l.map λ(n:Nat)=>(n:Int)).sum=((l.sum:Nat):Int):=by
 induction l with
 |nil=>rfl
 |cons a r ih=>rw[jC,List.sum_cons,List.sum_cons,ih];lia
theorem yZ{t:Nat}{zs:List Nat}(h:pcs[i]?=some zs)(z:ts[i]?=some t):nV pcs ts i=front zs t i:=by
 unfold nV front;rw[iA,iA,h,z];rfl
structure cQ(bb:Bool)(CP:OL)(H:Hp)(p ak pl tk ml wd:OL)(pls:List OL)(pcs:List<|List Nat)(ts:List Nat)(w:Po.W)(kvs:List<|List Key×V):Prop where
 pb:PB bb CP H p ak pl tk ml wd pls pcs
 UT:H tk=some (.lst<|nL ts)
 Xy:∃mvs,H ml=some (.lst mvs)/\dI H mvs (Po.mts 0 pcs.length)
 Wq:DT H wd w (2*pcs.length-1) kvs
 VZ:ts.length=pcs.length
 ne:tk≠pl/\tk≠ml/\∀l∈pls,l≠tk
theorem cQ.fr{S:List OL}{p:OL}(h:cQ bb CP H p ak pl tk ml wd pls pcs ts w kvs)(e:Fr S H H')(Z:∀b∈S,∃l,H b=some (.lst l))(n:pl∉S/\tk∉S/\ml∉S/\∀l∈pls,l∉S):cQ bb CP H' p ak pl tk ml wd pls pcs ts w kvs:=by
 have J:∀b o,H b=some o->(∀l,o≠.lst l)->b∉S:=λb o O z m=>by
  obtain⟨l,hl⟩:=Z b m;rw[hl] at O;exact z _ (OS O).symm
 obtain⟨dx,fs,U,_⟩:=h.pb.hp.ex;obtain⟨mvs,h1,h2⟩:=h.Xy;exact⟨h.pb.fr e (J _ _ U λ_ z=>by cases z) n.1 n.2.2.2,e _ _ n.2.1 h.UT,⟨mvs,e _ _ n.2.2.1 h1,h2.keep λt z y=>e _ _ (J _ _ y λ_ z=>by cases z) y⟩,h.Wq.fr e (J _ _ h.Wq.hd λ_ z=>by cases z) (λt z y=>J _ _ y λ_ z=>by cases z),h.VZ,h.ne⟩
theorem cQ.mono{p:OL}(h:cQ bb CP H p ak pl tk ml wd pls pcs ts w kvs)(e:aD H H'):cQ bb CP H' p ak pl tk ml wd pls pcs ts w kvs:=
 h.fr (S:=[]) e.fr (λb z=>by cases z) ⟨kU,kU,kU,λ_ _=>kU⟩
structure Dw(n:Nat)(ms:List Po.Mt)(w:Po.W):Prop where
 pr:∀m∈ms,(w m.1 m.2.2).isSome=true
 ix:∀a c x,w a c=some (some x)->x.2<n
theorem yC{P:Po.Fr->Prop}:∀{u v:Po.Fr},P u->P v->(Bb u v).Al P
 |none,_,_,h=>h
 |some _,none,h,_=>h
 |some x,some y,h,g=>by
  show(UX x.1 y.1 λb=>.ret<|if b then some x else some y).Al P;exact BC λb=>(by cases b<;>first|exact h|exact g)
theorem Hk{a c a' c':Nat}(h:(w a' c').isSome=true):(Po.put w a c v a' c').isSome=true:=by
 unfold Po.put;split
 .rfl
 .exact h
theorem yj{n:Nat}{a c:Nat}(h:∀a c x,w a c=some (some x)->x.2<n)(z:∀x,v=some x->x.2<n):∀a' c' x,Po.put w a c v a' c'=some (some x)->x.2<n:=λa' c' x e=>by
 unfold Po.put at e;split at e
 .exact z x (OS e)
 .exact h _ _ x e
theorem K3{n:Nat}:∀(ms:List Po.Mt) (w:Po.W),(∀a c x,w a c=some (some x)->x.2<n)->(kT ms w).Al λo=>∀w',o=some w'->(∀a c,(w a c).isSome=true->(w' a c).isSome=true)/\Dw n ms w'
 |[],w,h=>λw' e=>by cases e;exact⟨λ_ _ z=>z,⟨λm hm=>(by cases hm),h⟩⟩
 |m::ms,w,h=>by
  rw[kT];cases e1:w m.1 m.2.1 with
  |none=>exact λw' e=>by cases e
  |some u=>
   cases e2:w m.2.1 m.2.2 with
   |none=>exact λw' e=>by cases e
   |some v=>
    refine Pg.Al.bind<|(yC (P:=λx=>∀y,x=some y->y.2<n) (λy z=>h _ _ y<|by rw[e1,z]) λy z=>h _ _ y<|by rw[e2,z]).imp λx hx=>(K3 ms _<|yj h hx).imp λo g w' e=>?_;obtain⟨g1,J⟩:=g w' e;refine⟨λa c z=>g1 a c<|Hk z,⟨λO hm=>?_,J.ix⟩⟩;rcases bC.mp hm with z|z
    .rw [z];exact g1 _ _<|by rw[G7];rfl
    .exact J.pr O z
structure PX(c:Ad)(p pl tk ml:OL)(pls:List OL):Prop where
 p:p∉c.A
 pl:pl∉c.A
 tk:tk∉c.A
 ml:ml∉c.A
 ls:∀l∈pls,l∉c.A
inductive cW(CA:OL)(CR:aG)(bb:Bool)(CP:OL):List V->Hp->VK->XK->Prop
 |mk (c:Ad) (pr:List A3) (p pl tk ml wd:OL) (x y:Nat) (k:Bool->Pg Po.Fr) (post:Po.Fr->List A3->Prop):M=[.ref p,.int x,.int y]->fU bb CA CR L c pr->aZ L p CP (fP c.a pl tk ml wd)->c.n<=1000->Wp c.n (c.VO bb) (UX x y k) pr post->(∀b H' pr',Fr c.S L H'->fU bb CA CR H' c pr'->Wp c.n (c.VO bb) (k b) pr' post->Y (.bl b) H')->cW CA CR bb CP M L Y D
inductive lA(CA:OL)(CR:aG)(bb:Bool)(CP:OL):List V->Hp->VK->XK->Prop
 |mk (c:Ad) (pr:List A3) (p pl tk ml wd:OL) (u1 u2:V) (one other:Po.Fr) (post:Po.Fr->List A3->Prop):M=[.ref p,u1,u2]->fU bb CA CR L c pr->aZ L p CP (fP c.a pl tk ml wd)->z9 L u1 one->z9 L u2 other->c.n<=1000->Wp c.n (c.VO bb) (Bb one other) pr post->(∀u H' x pr',Fr c.S L H'->fU bb CA CR H' c pr'->z9 H' u x->post x pr'->Y u H')->lA CA CR bb CP M L Y D
inductive gI(CA:OL)(CR:aG)(bb:Bool)(CP:OL):List V->Hp->VK->XK->Prop
 |mk (c:Ad) (pr:List A3) (p pl tk ml wd mt wo:OL) (mvs:List V) (ms:List Po.Mt) (w:Po.W) (B k:Nat) (kvs:List<|List Key×V) (post:Option Po.W->List A3->Prop):M=[.ref p,.ref mt,.ref wo]->fU bb CA CR L c pr->aZ L p CP (fP c.a pl tk ml wd)->p∉c.S->mt∉c.S->L mt=some (.lst mvs)->dI L mvs ms->ms.length<=400->(∀m∈ms,m.1<205/\m.2.2<=500)->DT L wo w B kvs->B<=500->(k=1∨k=0/\∀m∈ms,(w m.1 m.2.2).isSome=true)->c.n<=1000->Wp c.n (c.VO bb) (kT ms w) pr post->(∀pr',¬ post none pr')->(∀d H' w' kvs' pr',Fr c.S L H'->L d=none->DT H' d w' (B+k*ms.length) kvs'->fU bb CA CR H' c pr'->post (some w') pr'->Y (.ref d) H')->gI CA CR bb CP M L Y D
inductive bH(CA:OL)(CR:aG)(bb:Bool)(CP:OL):List V->Hp->VK->XK->Prop
 |mk (c:Ad) (pr:List A3) (x dx hl:OL) (hls:List OL) (pcs:List<|List Nat) (post:Option Po.W->List A3->Prop):M=[.ref x,.ref c.a,.ref hl]->L x=some (.ins CP dx [])->fU bb CA CR L c pr->L hl=some (.lst<|hls.map V.ref)->hls.length=pcs.length->(∀(i:Nat) l ys,hls[i]?=some l->pcs[i]?=some ys->L l=some (.lst<|nL<|rv bb ys))->pcs.length<=200->x∉c.A->c.n<=1000->Wp c.n (c.VO bb) (kT (Po.mts 0 pcs.length)<|wN pcs pcs.length) pr post->(∀pr',¬ post none pr')->(∀pl tk ml wd pls w H' kvs pr',(∀b o,b≠x->b∉c.S->L b=some o->H' b=some o)->cQ bb CP H' x c.a pl tk ml wd pls pcs (Pf pcs.length 0) w kvs->Dw pcs.length (Po.mts 0 pcs.length) w->(∀j,j<pcs.length->(w j<|j+1).isSome=true)->(L pl=none/\L tk=none/\L ml=none/\L wd=none/\∀l∈pls,L l=none)->fU bb CA CR H' c pr'->post (some w) pr'->Y .Ux H')->bH CA CR bb CP M L Y D
theorem Ed(pcs:List<|List Nat)(k:Nat)(z:k<=pcs.length):∀a c x,wN pcs k a c=some (some x)->x.2<pcs.length:=λa c x e=>by
 unfold wN at e;split at e
 .have:=(C0<|OS e).1;lia
 .cases e
theorem Bc(pcs:List<|List Nat)(i:Nat):Po.put (wN pcs i) i (i+1) (nV pcs (Pf pcs.length 0) i)=wN pcs (i+1):=by
 funext a c;unfold Po.put wN;by_cases h1:a=i/\c=i+1
 .rw [Z9 h1,Z9 ⟨by lia,by lia⟩,h1.1]
 .rw [Z8 h1];by_cases h2:c=a+1/\a<i
  .rw [Z9 h2,Z9 ⟨h2.1,by lia⟩]
  .rw [Z8 h2,Z8<|by lia]
inductive dX(CA:OL)(CR:aG)(bb:Bool)(CP:OL):List V->Hp->VK->XK->Prop
 |mk (c:Ad) (pr:List A3) (p pl tk ml wd:OL) (pls:List OL) (pcs:List<|List Nat) (ts:List Nat) (w:Po.W) (kvs:List<|List Key×V):M=[.ref p]->fU bb CA CR L c pr->cQ bb CP L p c.a pl tk ml wd pls pcs ts w kvs->PX c p pl tk ml pls->Dw pcs.length (Po.mts 0 pcs.length) w->(∀j,j<pcs.length->(w j<|j+1).isSome=true)->pcs.length<=200->c.n<=1000->(((pcs.length=0∨w 0 pcs.length=some none)/\∀H',aD L H'->Y .Ux H')∨∃(x i:Nat) (post:Option Po.W->List A3->Prop),0<pcs.length/\w 0 pcs.length=some (some (x,i))/\Wp c.n (c.VO bb) (kT ((Po.mts 0 pcs.length).filter<|sf i)<|Po.put w i (i+1)<|nV pcs (rR ts i) i) pr post/\(∀pr',¬ post none pr')/\∀wd' w' H' kvs' pr',Fr [p,tk,c.a,c.lg,c.tl] L H'->cQ bb CP H' p c.a pl tk ml wd' pls pcs (rR ts i) w' kvs'->Dw pcs.length (Po.mts 0 pcs.length) w'->(∀j,j<pcs.length->(w' j<|j+1).isSome=true)->fU bb CA CR H' c pr'->post (some w') pr'->Y (.int x) H')->dX CA CR bb CP M L Y D
structure PL(H:Hp)(hls:List OL)(pcs:List<|List Nat):Prop where
 len:hls.length=pcs.length
 at':∀(i:Nat) l ys,hls[i]?=some l->pcs[i]?=some ys->H l=some (.lst<|nL ys)
theorem PL.nil:PL H [] []:=⟨rfl,λi l ys h=>by simp at h⟩
theorem PL.sl(h:PL H hls pcs)(i d:Nat):PL H ((hls.drop i).take d)<|(pcs.drop i).take d:=by
 refine⟨by rw[gV,gV,dW,dW,h.len],λj l ys h1 h2=>?_⟩;have z:j<d:=by have:=(gX.mp h1).1;rw[gV] at this;lia
 rw[RP z,Di] at h1 h2;exact h.at' _ l ys h1 h2
theorem PL.WE{S:List OL}(h:PL H hls pcs)(e:Fr S H H')(n:∀b∈hls,b∉S):PL H' hls pcs:=⟨h.len,λi b ys h1 h2=>e _ _ (n b<|jB h1)<|h.at' i b ys h1 h2⟩
theorem PL.mono(h:PL H hls pcs)(e:aD H H'):PL H' hls pcs:=h.WE (S:=[]) e.fr λ_ _=>kU
theorem PL.ex(h:PL H hls pcs){b:OL}(O:b∈hls):∃z,H b=some (.lst z):=by
 obtain⟨j,J,e⟩:=List.getElem_of_mem O;exact⟨_,h.at' j b _ (by rw[bL J,e])<|bL<|show j<pcs.length by rw[<- h.len];exact J⟩
theorem PL.snoc{l:OL}(h:PL H hls pcs)(hl:H l=some (.lst<|nL os)):PL H (hls++[l])<|pcs++[os]:=by
 refine⟨by rw[aW,aW,h.len];rfl,λj b ys h1 h2=>?_⟩;by_cases z:j<hls.length
 .rw [oQ z] at h1;rw[oQ<|by rw[<- h.len];exact z] at h2;exact h.at' j b ys h1 h2
 .rw [kF<|by lia] at h1;rw[kF<|by rw[<- h.len];lia,<- h.len] at h2;cases hk:j-hls.length with
  |zero=>rw[hk] at h1 h2;cases h1;cases h2;exact hl
  |succ m=>rw[hk] at h1;simp at h1
theorem tW{n d:Nat}(z:0<d):(Pd ((0:Nat):Int) (n:Int) (d:Int)).toNat=cN n d:=by
 rw[L0<|by lia];unfold cN;by_cases h:n=0
 .subst h;rw[Z8<|by lia,Nat.div_eq_of_lt<|by lia];rfl
 .rw [Z9<|by lia];have e:(n:Int)-((0:Nat):Int)-1=((n-1:Nat):Int):=by lia
  have e2:(((n-1:Nat):Int)/(d:Int))=(((n-1)/d:Nat):Int):=by rw[Int.natCast_ediv]
  rw[e,e2];rw[show n+d-1=(n-1)+d by lia,Nat.add_div_right _ z];generalize (n-1)/d=t;lia
theorem JL{d n:Nat}(z:0<d):cN n d<=n:=by
 unfold cN;by_cases h:n=0
 .subst h;rw[Nat.div_eq_of_lt<|by lia];exact aK _
 .refine Nat.le_of_lt_succ ((Nat.div_lt_iff_lt_mul z).mpr ?_);have:(n+1)*d=n*d+d:=BP ..;have:n<=n*d:=Nat.le_mul_of_pos_right _ z;show n+d-1<(n+1)*d;lia
theorem zp{d:Nat}:dS xs (some (i:Int)) (some<|(i:Int)+d)=(xs.drop i).take d:=by
 unfold dS;rw[show((i:Int)+d)=((i+d:Nat):Int) by lia,HT.sIx_nat,HT.sIx_nat];by_cases h:i<=xs.length
 .rw [rM h];by_cases h2:i+d<=xs.length
  .rw [rM h2,E5]
  .rw [E6<|by lia,oR (by rw[dW];exact aK _),oR<|by rw[dW];lia]
 .rw [E6<|by lia,E6<|by lia,Qv<|aK _,Qv<|by lia];simp
noncomputable def tot(pcs:List<|List Nat):Nat:=(pcs.map Pz).sum
theorem KG(a b:List<|List Nat):tot (a++b)=tot a+tot b:=by unfold tot;rw[bX,List.sum_append]
theorem Dy(l:List<|List Nat)(d:Nat):tot (l.take d)+tot (l.drop d)=tot l:=by rw[<- KG,xg]
theorem tI{p:List Nat}:∀{l:List<|List Nat},p∈l->p.length<=tot l
 |q::l,h=>by
  show p.length<=q.length+tot l;rcases bC.mp h with z|z
  .rw [z];lia
  .have:=tI z;lia
theorem GZ{α:Type}{P:α->Prop}(h:∀a,P a):∀{x:Pg α},x.Al P
 |.ret a=>h a
 |.ask _ _ k=>λb=>GZ h
theorem nE{pcs:List<|List Nat}:∀(k:Nat) (ts:List Nat) (w:Po.W) (acc:List Nat),(oK pcs k ts w acc).Al λo=>∀os,o=some os->os.length=acc.length+k
 |0,ts,w,acc=>λos e=>by cases e;rfl
 |k+1,ts,w,acc=>by
  rw[oK];split
  .refine Pg.Al.bind (GZ λo=>?_);cases o with
   |none=>exact λos e=>by cases e
   |some w'=>
    refine(nE k _ w' _).imp λo h os e=>?_;rw[h os e,aW,iC];lia
  .exact λos e=>by cases e
theorem qw(pcs:List<|List Nat):(C1 pcs).Al λo=>∀os,o=some os->os.length=tot pcs:=by
 refine Pg.Al.bind<|GZ λo=>?_;cases o with
 |none=>exact λos e=>by cases e
 |some w=>exact(nE _ _ w []).imp λo h os e=>by rw[h os e,tD,tq];rfl
inductive cU(CA:OL)(CR:aG):List V->Hp->VK->XK->Prop
 |mk (c:Ad) (pr:List A3) (hl:OL) (hls:List OL) (pcs:List<|List Nat) (post:Option (List Nat)->List A3->Prop):M=[.ref c.a,.ref hl]->aE CA CR L c pr->L hl=some (.lst<|hls.map V.ref)->PL L hls pcs->pcs.length<=200->tot pcs<=500->c.n<=1000->Wp c.n c.an (C1 pcs) pr post->(∀pr',¬ post none pr')->(∀l H' os pr',Fr c.S L H'->L l=none->H' l=some (.lst<|nL os)->aE CA CR H' c pr'->os.length=tot pcs->post (some os) pr'->Y (.ref l) H')->cU CA CR M L Y D
inductive dM(CA:OL)(CR:aG):List V->Hp->VK->XK->Prop
 |mk (c:Ad) (pr:List A3) (hl:OL) (hls:List OL) (pcs:List<|List Nat) (d:Nat) (post:Option (List<|List Nat)->List A3->Prop):M=[.ref c.a,.ref hl,.int (d:Int)]->aE CA CR L c pr->L hl=some (.lst<|hls.map V.ref)->PL L hls pcs->hl∉c.A->(∀l∈hls,l∉c.A)->pcs.length<=200->tot pcs<=500->0<d->d<=1000->c.n<=1000->Wp c.n c.an (se d (cN pcs.length d) pcs []) pr post->(∀pr',¬ post none pr')->(∀l H' ls out pr',Fr c.S L H'->L l=none->H' l=some (.lst<|ls.map V.ref)->PL H' ls out->(∀b∈ls,L b=none)->aE CA CR H' c pr'->out.length=cN pcs.length d->tot out=tot pcs->post (some out) pr'->Y (.ref l) H')->dM CA CR M L Y D
inductive cI(CA:OL)(CR:aG):List V->Hp->VK->XK->Prop
 |mk (c:Ad) (pr:List A3) (hl:OL) (hls:List OL) (pcs:List<|List Nat) (d:Nat) (post:Option (List Nat×List Nat)->List A3->Prop):M=[.ref c.a,.ref hl,.int (d:Int)]->aE CA CR L c pr->L hl=some (.lst<|hls.map V.ref)->PL L hls pcs->pcs.length<=200->tot pcs<=500->2<=d->d<=1000->c.n<=1000->Wp c.n c.an (zE d pcs.length pcs []) pr post->(∀pr',¬ post none pr')->(∀t l nm H' r pr',Fr c.S L H'->L t=none->L l=none->L nm=none->H' t=some (.tup [.ref l,.ref nm])->H' l=some (.lst<|nL r.1)->H' nm=some (.lst<|nL r.2)->aE CA CR H' c pr'->r.1.length=tot pcs->post (some r) pr'->Y (.ref t) H')->cI CA CR M L Y D
theorem Ep{n d:Nat}(z:0<d)(h:k<cN n d):k*d<n:=by
 unfold cN at h;have:=(Nat.le_div_iff_mul_le z).mp (show k+1<=(n+d-1)/d from h);rw[BP] at this;lia
inductive bI(CA:OL)(CR:aG):List V->Hp->VK->XK->Prop
 |mk (c:Ad) (pr:List A3) (wd d ls:Nat) (post:Option (List Nat)->List A3->Prop):M=[.ref c.a,.int (wd:Nat),.int (d:Nat),.int (ls:Nat)]->aE CA CR L c pr->0<wd->wd<=1000->2<=d->d<=1000->c.n<=200->Wp c.n c.an (Kd grd ls wd d c.n) pr post->(∀pr',¬ post none pr')->(∀l H' os pr',Fr c.S L H'->L l=none->H' l=some (.lst<|nL os)->aE CA CR H' c pr'->post (some os) pr'->Y (.ref l) H')->bI CA CR M L Y D
theorem wm(xs:List V):dS xs (some 1) none=xs.drop 1:=by
 unfold dS;rw[HT.sIx_none,show(some (1:Int))=some ((1:Nat):Int) from rfl,HT.sIx_nat];cases xs with
 |nil=>rfl
 |cons x r=>
  rw[show min 1 (x::r).length=1 by rw[bS];lia];exact oR<|by rw[dW];exact aK _
inductive oV(CA:OL)(CR:aG):List V->Hp->VK->XK->Prop
 |mk (c:Ad) (pr:List A3) (os:List Nat) (pl:Nat) (ol:OL) (post:Nat->List A3->Prop):M=[.ref c.a,.ref ol,.int pl]->aE CA CR L c pr->L ol=some (.lst<|nL os)->ol∉c.S->c.n<=1000->Wp c.n c.an (EM os pl) pr post->(∀r H' pr',Fr c.S L H'->aE CA CR H' c pr'->post r pr'->Y (.int (r:Nat)) H')->oV CA CR M L Y D
inductive ip(sp:List Nat->Nat->Pg Nat)(CA:OL)(CR:aG):List V->Hp->VK->XK->Prop
 |mk (c:Ad) (pr:List A3) (post:List Nat->List A3->Prop):M=[.ref c.a]->aE CA CR L c pr->c.n<=200->Wp c.n c.an (jY sp c.n 0 []) pr post->(∀ol H' os pr',Fr c.S L H'->L ol=none->H' ol=some (.lst<|nL os)->aE CA CR H' c pr'->post os pr'->Y (.ref ol) H')->ip sp CA CR M L Y D
theorem tE{os:List Nat}{pl:Nat}:∀s,s<=os.length->(vp os pl s).Al λr=>r<=os.length
 |0,h=>cE _
 |s+1,h=>BC λb=>by
  cases b
  .exact tE s (by lia)
  .exact h
theorem xk(os:List Nat)(pl:Nat):(EM os pl).Al λr=>r<=os.length:=tE _<|aK _
noncomputable abbrev fF(p:Int)(l:OL):List<|Pa×V:=aL "others" (.ref l) [("place",.int p)]
inductive iG(C:OL):List V->Hp->VK->XK->Prop
 |mk (e l:OL) (p:Int) (xs:List V):M=[.ref e,.int p,.ref l]->L e=some (dD e (.ref C) none)->p.natAbs.log2<1920->L l=some (.lst xs)->(∀d l2 H',(∀b o,b≠e->L b=some o->H' b=some o)->H' e=some (dD e (.ref C)<|some d)->d≠e->l2≠e->L d=none->L l2=none->H' d=some (pQ d<|fF p l2)->H' l2=some (.lst xs)->Y .Ux H')->iG C M L Y D
theorem GC{M:α->z->Prop}(P:α->z->Prop){G:Prop}(h:(∀x y,P x y->M x y)->G)(t:∀x y,P x y->M x y):G:=h t
theorem Kj(h:k<=xs.length):dS xs (some (k:Int)) none=xs.drop k:=by
 unfold dS;rw[HT.sIx_nat,rM h];show(xs.drop k).take (xs.length-k)=xs.drop k;exact oR<|by rw[dW];exact aK _
theorem Kq(l:List Nat)(k:Nat):(nL l).drop k=nL (l.drop k):=by unfold nL;rw[BU]
theorem IQ{ms:List Int}(J:ms.Perm<|l.map λ(n:Nat)=>(n:Int))(O:ms.Pairwise (·<=·))(z:l.Nodup):∃so:List Nat,ms=so.map (λ(n:Nat)=>(n:Int))/\so.Perm l/\so.Pairwise (·<·):=by
 obtain⟨so,h1,h2⟩:=qB _ J;subst h2;refine⟨so,rfl,h1,?_⟩;have nd:=h1.nodup_iff.mpr z;have h3:=Fc.mp O;exact(h3.and nd).imp fun {a b} h=>by have:=h.1;have:=h.2;lia
inductive iH(CA:OL)(CR:aG)(CT:OL):List V->Hp->VK->XK->Prop
 |mk (c:Ad) (pr:List A3) (R:Nat) (post:List Nat ⊕ Nat×List Nat->List A3->Prop):M=[.ref c.a,.int R]->aE CA CR L c pr->c.n<=63->R<=200->Wp c.n c.an (ql R c.n 0 []) pr post->(∀x pr',post (.inr x) pr'->x.2.Nodup)->(∀ol H' os pr',Fr c.S L H'->L ol=none->H' ol=some (.lst<|nL os)->aE CA CR H' c pr'->post (.inl os) pr'->Y (.ref ol) H')->(∀d l2 H' pl os so pr',Fr c.S L H'->aE CA CR H' c pr'->post (.inr (pl,os)) pr'->H' d=some (pQ d<|fF pl l2)->H' l2=some (.lst<|nL so)->so.Perm os->D (.ref CT) (some d) H')->iH CA CR CT M L Y D
inductive oY(CA:OL)(CR:aG):List V->Hp->VK->XK->Prop
 |mk (c:Ad) (pr:List A3) (al ar:OL) (ls rs:List Nat) (m:Nat) (post:Nat->List A3->Prop):M=[.ref c.a,.ref al,.ref ar,.int m]->aE CA CR L c pr->L al=some (.lst<|nL ls)->L ar=some (.lst<|nL rs)->al∉c.S->ar∉c.S->c.n<=1000->m<=ls.length+rs.length->Wp c.n c.an (HR ls rs m) pr post->(∀r H' pr',Fr c.S L H'->aE CA CR H' c pr'->post r pr'->Y (.int (r:Nat)) H')->oY CA CR M L Y D
theorem iV(l:List Nat):(nL l).length=l.length:=aJ ..
theorem BD(a b:List Nat):nL (a++b)=nL a++nL b:=by unfold nL;rw[bX]
theorem KL(hi:i<=l.length)(z:j<=l.length):dS (nL l) (some (i:Int)) (some (j:Int))=nL (jF l i j):=by
 unfold dS;rw[HT.sIx_nat,HT.sIx_nat,iV,rM z,rM hi];unfold nL jF;rw[BV,BU]
theorem Hq{n:Nat}{f:Nat->Nat}(h:i<n):((OT n).map f)[i]?=some (f i):=by rw[dF,xh h];rfl
theorem Ki{l r:List Nat}{m:Nat}:∀(f lo hi:Nat),lo<=hi->(mJ l r m f lo hi).Al λc=>lo<=c/\c<=hi
 |0,lo,hi,h=>⟨aK _,h⟩
 |f+1,lo,hi,h=>by
  rw[mJ.eq_2];by_cases z:lo<hi
  .rw [Z9 z];refine BC λb=>?_;cases b
   .exact (Ki f lo ((lo+hi)/2)<|by lia).imp λc h=>⟨h.1,by have:=h.2;lia⟩
   .exact (Ki f ((lo+hi)/2+1) hi<|by lia).imp λc h=>⟨by have:=h.1;lia,h.2⟩
  .rw [Z8 z];exact⟨aK _,h⟩
theorem zq{r:List Nat}(h:m<=l.length+r.length):(HR l r m).Al λc=>c<=l.length/\c<=m/\m<=c+r.length:=
 (Ki _ _ _<|by lia).imp λc h=>by have:=h.1;have:=h.2;lia
inductive iM(CA:OL)(CR:aG):List V->Hp->VK->XK->Prop
 |mk (c:Ad) (pr:List A3) (al ar:OL) (ls rs:List Nat) (P:Nat) (post:List (List Nat)->List A3->Prop):M=[.ref c.a,.ref al,.ref ar,.int P]->aE CA CR L c pr->L al=some (.lst<|nL ls)->L ar=some (.lst<|nL rs)->al∉c.A->ar∉c.A->c.n<=200->ls.length+rs.length<=200->0<P->P<=40->Wp c.n c.an (EI ls rs P) pr post->(∀l hls H' out pr',Fr c.S L H'->L l=none->H' l=some (.lst<|hls.map V.ref)->PL H' hls out->(∀b∈hls,L b=none)->aE CA CR H' c pr'->post out pr'->Y (.ref l) H')->iM CA CR M L Y D
noncomputable def sg(n:Nat):List<|List Nat:=(OT n).map λx=>[x]
theorem CY(n:Nat):(sg n).length=n:=by unfold sg;rw[aJ,eU]
theorem xY{n:Nat}{ys:List Nat}(h:(sg n)[i]?=some ys):ys=[i]/\i<n:=by
 have hi:=(gX.mp h).1;rw[CY] at hi;unfold sg at h;rw[dF,xh hi] at h;cases h;exact⟨rfl,hi⟩
theorem J7:∀n,((sg n).map Pz).sum=n
 |0=>rfl
 |n+1=>by
  have:=J7 n;unfold sg at this⊢;rw[C7,bX,bX,List.sum_append,this];rfl
theorem He:∀n,(sg n).flatten=OT n
 |0=>rfl
 |n+1=>by
  have:=He n;unfold sg at this⊢;rw[C7,bX,vk,this];rfl
theorem Gi(n:Nat):Pc n []<|sg n:=⟨λp h=>by
 unfold sg at h;obtain⟨x,_,rfl⟩:=vn.mp h;exact trivial,by rw[He];exact Dj,λx hx=>by rw[He] at hx;exact pS.mp hx⟩
def Al(ks:List Int)(bb:Bool)(o:Option<|List Nat)(_:List A3):Prop:=∃os,o=some os/\os.Perm (OT ks.length)/\os.Pairwise (gQ (kat ks) bb)
theorem B9(c:Ad)(J:c.n<=200)(bb:Bool):Wp c.n (c.VO bb) (C1<|sg c.n) []<|Al c.ks bb:=by
 refine(Wa.tu (An:=c.VO bb) (λ_ _ _=>rfl) (I0 (D:=200) (n:=c.n) (pr:=[]) (by rw[CY];lia) (Gi c.n)<|by rw[He,eU];show 0+200*(c.n+1)<=_;lia) ⟨by decide,λe z=>by cases z⟩).imp λo pr' h=>?_;obtain⟨⟨os,e,h1,h2,_⟩,t⟩:=h;rw[He] at h1;exact⟨os,e,h1,BB t h2⟩
theorem nB{pcs:List<|List Nat}:∀(k:Nat) (ts:List Nat) (w:Po.W) (acc:List Nat),(oK pcs k ts w acc).Al λo=>∀os,o=some os->acc<+:os
 |0,ts,w,acc=>λos e=>by cases e;exact fG _
 |k+1,ts,w,acc=>by
  rw[oK];split
  .refine Pg.Al.bind (GZ λo=>?_);cases o with
   |none=>exact λos e=>by cases e
   |some w'=>exact(nB k _ w' _).imp λo h os e=>(List.prefix_append _ _).trans<|h os e
  .exact λos e=>by cases e
theorem vJ{acc:List Nat}{x:Nat×Nat}(h:w 0 pcs.length=some (some x)):(oK pcs (k+1) ts w acc).Al λo=>∀os,o=some os->acc++[x.1]<+:os:=by
 rw[oK,h];refine Pg.Al.bind<|GZ λo=>?_;cases o with
 |none=>exact λos e=>by cases e
 |some w'=>exact nB k _ w' _
theorem Cu{D:Ends}(σ:α->St)(X:α->Hp)(p:α->Prop){G:Prop}(h:(∀x,p x->Cut P D (σ x) (X x))->G)(t:∀x,p x->Cut P D (σ x) (X x)):G:=h t
structure BI(CA:OL)(CR:aG)(CP:OL)(bb:Bool)(H X:Hp)(c:Ad)(po pl tk ml wd:OL)(pls:List OL)(acc:List Nat)(kvs:List<|List Key×V)(ts:List Nat)(w:Po.W)(pr:List A3):Prop where
 st:fU bb CA CR X c pr
 wp:Wp c.n (c.VO bb) (oK (sg c.n) (c.n-acc.length) ts w acc) pr<|Al c.ks bb
 pa:cQ bb CP X po c.a pl tk ml wd pls (sg c.n) ts w kvs
 dw:Dw (sg c.n).length (Po.mts 0 (sg c.n).length) w
 lv:∀j,j<(sg c.n).length->(w j<|j+1).isSome=true
 px:PX c po pl tk ml pls
 fr:Fr [po,tk,c.a,c.lg,c.tl] H X
 new:H po=none/\H tk=none
section
variable {CR:aG}{X Y:Hp}{po:OL}{acc:List Nat}
theorem BI.mono(h:BI CA CR CP bb H X c po pl tk ml wd pls acc kvs ts w pr)(e:aD X Y):BI CA CR CP bb H Y c po pl tk ml wd pls acc kvs ts w pr:=
 ⟨h.st.mono e,h.wp,h.pa.mono e,h.dw,h.lv,h.px,h.fr.trans e.fr,h.new⟩
theorem BI.VL(h:BI CA CR CP bb H X c po pl tk ml wd pls acc kvs ts w pr):Fr c.S H X:=λb o n J=>h.fr b o (λz=>by
 rcases bC.mp z with z|z
 .rw [z,h.new.1] at J;cases J
 rcases bC.mp z with z|z
 .rw [z,h.new.2] at J;cases J
 .exact n z) J
theorem BI.free(h:BI CA CR CP bb H X c po pl tk ml wd pls acc kvs ts w pr){b:OL}(z:X b=none):H b=none:=h.st.free h.VL z
end
inductive gD(CA:OL)(CR:aG):List V->Hp->VK->XK->Prop
 |mk (c:Ad) (m:Nat):M=[.ref c.a,.int (m:Int)]->aE CA CR L c []->m<c.n->c.n<=63->(∀(t l1 l2:OL) (p:Nat) (A B os:List Nat) (H':Hp),Fr c.S L H'->L t=none->L l1=none->L l2=none->H' t=some (.tup [.ref l1,.int (p:Int),.ref l2])->H' l1=some (.lst<|nL A)->H' l2=some (.lst<|nL B)->A.Pairwise (·<·)->B.Pairwise (·<·)->os.Perm (OT c.n)->os.Pairwise (gQ (kat c.ks) false)->A.Perm (os.take m)->os[m]?=some p->B.Perm (os.drop<|m+1)->Y (.ref t) H')->gD CA CR M L Y D
theorem Be{acc rest T:List Nat}{n:Nat}(U:(acc++x::rest).Perm<|OT n)(O:T.Perm acc):((OT n).filter λy=>decide (y≠x)&&!decide (y∈T)).Perm rest:=by
 refine(U.symm.filter _).trans ?_;have nd:=U.nodup_iff.mpr Dj;obtain⟨n1,n2,Z⟩:=List.nodup_append.mp nd;rw[Aa,List.filter_eq_nil_iff.mpr (λy J=>by simp[O.mem_iff,J]),BQ,Fb (by simp),List.filter_eq_self.mpr λy J=>?_];have h1:y≠x:=λe=>(List.nodup_cons.mp n2).1 (by rw[<- e];exact J);have h2:y∉T:=λz=>Z y (O.mem_iff.mp z) y (bA _ J) rfl;simp[h1,h2]
theorem DS{κ:Nat->Int}(h:l.Pairwise<|gQ κ true):l.reverse.Pairwise<|gQ κ false:=List.pairwise_reverse.mpr h
noncomputable abbrev NL(gs:List Nat):List V:=(gs.map λg:Nat=>(g:Int)).map V.int
theorem sV(gs:List Nat):(NL gs).length=gs.length:=by simp
theorem Js{p:List Nat}(h:i<p.length):(NL p)[i]?=some (.int<|Pap.at' p i):=by
 rw[dF,dF,Pap.U9 h];rfl
theorem Ic{p:List Nat}{v:V}(h:(NL p)[i]?=some v):i<p.length/\v=.int (Pap.at' p i):=by
 have hi:i<p.length:=by have:=(gX.mp h).1;rwa [sV] at this
 rw[Js hi] at h;exact⟨hi,(OS h).symm⟩
theorem C6{p:List Nat}{k:Int}(h:i<p.length)(e:k=i):lP (NL p) k=some (.int<|Pap.at' p i):=by
 subst e;exact cO (by lia)<|by rw[Int.toNat_natCast];exact Js h
theorem qj(n:Nat):(wU 0 n).map V.int=NL (OT n):=by
 unfold wU;simp
inductive cZ:List V->Hp->VK->XK->Prop
 |mk (n:Nat):M=[.int n]->n<=1000->(∀l H',aD L H'->L l=none->H' l=some (.lst<|NL<|OT n)->Y (.ref l) H')->cZ M L Y D
inductive eK:List V->Hp->VK->XK->Prop
 |mk {M L Y D} (i:Int):M=[.int i]->Y (.bl true) L->eK M L Y D
inductive gH:List V->Hp->VK->XK->Prop
 |mk (a:OL) (p:List Nat):M=[.ref a]->L a=some (.lst<|NL p)->Pap.IsP p->p.length<=63->(∀H',aD L H'->Y (.bl true) H')->gH M L Y D
inductive cS:List V->Hp->VK->XK->Prop
 |mk (a:OL) (p:List Nat):M=[.ref a,.int p.length]->L a=some (.lst<|NL p)->Pap.IsP p->p.length<=63->(∀H',aD L H'->Y .Ux H')->cS M L Y D
inductive oZ:List V->Hp->VK->XK->Prop
 |mk (a:OL) (p:List Nat):M=[.ref a]->L a=some (.lst<|NL p)->Pap.IsP p->p.length<=63->(∀l H',aD L H'->L l=none->H' l=some (.lst<|NL<|Pap.bk p)->Y (.ref l) H')->oZ M L Y D
theorem all_true(n:Nat):(Pf n true).all id=true:=by
 induction n with
 |zero=>rfl
 |succ n ih=>rw[List.replicate_succ,Fh,ih];rfl
theorem EA{ys:List V}{n:Nat}{v:V}(hl:ys.length=n)(h:∀(j:Nat) y,ys[j]?=some y->y=v):ys=Pf n v:=by
 subst hl;refine E9 λj=>?_;by_cases hj:j<ys.length
 .rw [bL hj,List.getElem?_replicate,Z9 hj,h j _<|bL hj]
 .rw [oP<|by lia,oP<|by rw[BY];lia]
structure HN(H:Hp)(cs:List<|Nat×Nat×Bool)(ws:List V):Prop where
 len:ws.length=cs.length
 get:∀(j p q:Nat) (b:Bool),cs[j]?=some (p,q,b)->∃t,ws[j]?=some (V.ref t)/\H t=some (.tup [.int p,.int q,.bl b])
theorem HN.keep{cs:List<|Nat×Nat×Bool}{ws:List V}(h:HN H cs ws)(e:aD H H'):HN H' cs ws:=
 ⟨h.len,λj p q b z=>let ⟨t,a,c⟩:=h.get j p q b z;⟨t,a,e _ _ c⟩⟩
theorem nZ{g:TG}{tt:TT}{te:TE}{σ0:St}(h:aB K H a xs)(U:xs.length<=900000)(P:Nat->List V->St->Hp->Prop)(h0:P 0 [] σ0 H)(hl:∀i ys σ H,i<=xs.length->P i ys σ H->aB K H a xs/\ys.length<=i)
  (J:∀i ys x σ H,i<xs.length->xs[i]?=some x->P i ys σ H->g x σ H λz H2=>tt z H2 λb H3=>if b=true then te z H3 λy H4=>dH P xs.length i (ys++[y]) z H4 else dH P xs.length i ys z H3)
  (O:∀ys σ H,P xs.length ys σ H->∀p,H p=none->Q (.ref p) (upd H p<|.lst ys)):HQ K g tt te σ0 Q (.ref a) H:=⟨a,rfl,⟨xs,h⟩,nW P h0 hl (B0<|xW U) J O⟩
noncomputable def Fs(p:List Nat)(cs:List<|Nat×Nat×Bool):Bool:=cs.all λc=>decide (Pap.at' (Pap.bk p) c.1<Pap.at' (Pap.bk p) c.2.1)==c.2.2
noncomputable abbrev Cz(p q:Nat):List Key:=[Sum.inl (p:Int),Sum.inl (q:Int)]
noncomputable def Bw(cs:List<|Nat×Nat×Bool)(p q:Nat):Bool:=cs.any λc=>decide<|Cz c.1 c.2.1=Cz (max p q) (min p q)
noncomputable def MQ(p:List Nat)(cs:List<|Nat×Nat×Bool):Bool:=((OT<|p.length-1).map λi=>Bw cs (Pap.at' p i)<|Pap.at' p<|i+1).all id
theorem jN(k:List Key):∀(ps:List PQ) (m:List<|List Key×V),(cH (wV m ps) k).isSome=((cH m k).isSome||ps.any λq=>decide<|q.2.2.1=k)
 |[],m=>by rw[show wV m []=m from rfl];simp
 |q::r,m=>by
  rw[show wV m (q::r)=wV (putK m q.2.2.1 q.2.2.2) r from rfl,jN k r,pU,Ds];by_cases e:q.2.2.1=k
  .rw [Z9 e.symm,decide_eq_true e];simp
  .rw [Z8 λz=>e z.symm,decide_eq_false e];simp
theorem DL(a b:Nat)(c:Bool):decide (decide ((a:Int)<b)=c)=(decide (a<b)==c):=by
 have e:decide ((a:Int)<b)=decide (a<b):=by rw[decide_eq_decide];lia
 rw[e];cases decide (a<b)<;>cases c<;>rfl
inductive iN:List V->Hp->VK->XK->Prop
 |mk (a w:OL) (p:List Nat) (cs:List<|Nat×Nat×Bool) (ws:List V):M=[.ref a,.ref w]->L a=some (.lst<|NL p)->Pap.IsP p->p.length<=63->L w=some (.lst ws)->HN L cs ws->(∀c∈cs,c.1<p.length/\c.2.1<p.length)->cs.length<=800001->(∀H',aD L H'->Y (.bl<|Fs p cs) H')->iN M L Y D
inductive kK:List V->Hp->VK->XK->Prop
 |mk (a w:OL) (p:List Nat) (cs:List<|Nat×Nat×Bool) (ws:List V):M=[.ref a,.ref w]->L a=some (.lst<|NL p)->Pap.IsP p->p.length<=63->L w=some (.lst ws)->HN L cs ws->(∀c∈cs,c.1<p.length/\c.2.1<p.length)->cs.length<=800001->(∀H',aD L H'->Y (.bl<|Fs p cs&&MQ p cs) H')->kK M L Y D
theorem take_snoc{l:List α}{x:α}(h:l[i]?=some x):l.take (i+1)=l.take i++[x]:=by
 rw[RK,h];rfl
def cP(H:Hp)(ks:List Int)(xs:List V):Prop:=xs.length=ks.length/\∀(i:Nat) k,ks[i]?=some k->∃r,xs[i]?=some (V.ref r)/\H r=some (.tup [.int k,.int i])
theorem cP.mono{ks:List Int}(h:cP H ks xs)(e:∀b o,H b=some o->(∀t,o≠.tbl t)->(∀l,o≠.lst l)->H' b=some o):cP H' ks xs:=⟨h.1,λi k J=>let ⟨r,a1,a2⟩:=h.2 i k J;⟨r,a1,e _ _ a2 (λ_ z=>by cases z) λ_ z=>by cases z⟩⟩
theorem vX(rs:List Int)(i y:Int):∃us:List Int,pJ (rs.map V.int) i (.int y)=us.map V.int/\us.length=rs.length+1:=by
 unfold pJ;dsimp only;generalize (if i<0 then(i+((rs.map V.int).length:Int)).toNat else min i.toNat (rs.map V.int).length)=k;refine⟨rs.take k++y::rs.drop k,by rw[bX,jC,BV,BU],?_⟩;rw[aW,bS,gV,dW];lia
inductive tO:List V->Hp->VK->XK->Prop
 |mk (a:OL) (c1 c2:Int) (ks:List Int):M=[.ref a,.int c1,.int c2]->L a=some (.lst<|ks.map V.int)->ks.length<=63->(∀l H' (rs:List Int),aD L H'->L l=none->H' l=some (.lst<|rs.map V.int)->rs.length<=63->Y (.ref l) H')->tO M L Y D
inductive iI(K:W.Frag):List V->Hp->VK->XK->Prop
 |mk (a:OL) (ns:List Int) (m:Int):M=[.ref a,.int m,.int 63]->aB K L a (ns.map V.int)->ns.length<=63->0<m->m<=10^60->(∀l H' (rs:List Int),aD L H'->L l=none->H' l=some (.lst<|rs.map V.int)->rs.length<=63->Y (.ref l) H')->iI K M L Y D
inductive kL(K:W.Frag):List V->Hp->VK->XK->Prop
 |mk (a:OL) (ns:List Int):M=[.ref a]->aB K L a (ns.map V.int)->ns.length<=63->(∀l H' ks xs,aD L H'->L l=none->H' l=some (.lst xs)->ks.length<=63->cP H' ks xs->Y (.ref l) H')->kL K M L Y D
structure Du(ks:List Int)(due:List Nat):Prop where
 pm:due.Perm<|OT ks.length
 pw:due.Pairwise<|gQ (kat ks) false
structure Gp(c:Ad)(os:List Nat)(pr:List A3):Prop where
 pm:os.Perm<|Pe 0 c.n
 nt:Nt pr os
 tu:Tu c.n c.an pr
theorem Gp.eq{due:List Nat}(h:Gp c os pr)(d:Du c.ks due):os=due:=
 JZ (h.pm.trans<|by rw[<- Rf];exact d.pm.symm) (BB h.tu h.nt) d.pw
theorem tun(c:Ad){x:Pg α}{P:α->List A3->Prop}(t:Tu c.n c.an pr)(h:Wa c.n x pr P):Wp c.n c.an x pr λa pr'=>P a pr'/\Tu c.n c.an pr':=Wa.tu (λ_ _ _=>rfl) h t
inductive bK(CA:OL)(CR:aG):List V->Hp->VK->XK->Prop
 |mk (c:Ad) (pr:List A3) (rwA:OL):M=[.ref c.a,.ref rwA]->aE CA CR L c pr->c.pre=[]->L rwA=some (.lst c.xs)->Tu c.n c.an pr->(∀H',aD L H'->Y (.bl true) H')->bK CA CR M L Y D
inductive gE(CA:OL)(CR:aG):List V->Hp->VK->XK->Prop
 |mk (c:Ad) (cl:Int):M=[.ref c.a,.int cl,.int (c.n:Nat)]->aE CA CR L c []->c.n<=63->(∀l hls H' pcs pr',Fr c.S L H'->L l=none->H' l=some (.lst<|hls.map V.ref)->PL H' hls pcs->aE CA CR H' c pr'->Tu c.n c.an pr'->Pc c.n pr' pcs->pcs.flatten.Perm (Pe 0 c.n)->pcs.length<=63->pr'.length<=30000->Y (.ref l) H')->gE CA CR M L Y D
inductive bJ(CA:OL)(CR:aG):List V->Hp->VK->XK->Prop
 |mk (c:Ad) (wy cl:Int):M=[.ref c.a,.int wy,.int cl,.int (c.n:Nat)]->aE CA CR L c []->c.n<=63->(∀l H' os pr',Fr c.S L H'->L l=none->H' l=some (.lst<|nL os)->aE CA CR H' c pr'->Gp c os pr'->Y (.ref l) H')->bJ CA CR M L Y D
theorem Fl{n:Nat}{An:Nat->Nat->Nat->Bool}:Tu n An []:=⟨by decide,λe z=>by cases z⟩
inductive iK:List V->Hp->VK->XK->Prop
 |mk (rwA dl:OL) (ks:List Int) (xs:List V) (due:List Nat) (wy cl:Int):M=[.ref rwA,.int wy,.int cl,.ref dl]->L rwA=some (.lst xs)->cP L ks xs->ks.length<=63->L dl=some (.lst<|nL due)->Du ks due->(∀H',aD L H'->Y (.bl true) H')->iK M L Y D
theorem Cw{R:Nat->Nat->Prop}:∀{l:List Nat} {i:Nat},Nb R l->i+1<l.length->R (Pap.at' l i) (Pap.at' l<|i+1)
 |_::_::_,0,h,_=>h.1
 |a::b::l,i+1,h,hi=>Cw (l:=b::l) (i:=i) h.2<|by simp only[bS] at hi⊢;lia
theorem GJ(g:Gp c os pr):(Fs os pr&&MQ os pr)=true:=by
 have hl:os.length=c.n:=by rw[g.pm.length_eq,vm]
 have J:Pap.IsP os:=by unfold Pap.IsP;rw[hl,Rf];exact g.pm
 have O:∀x y,x<c.n->y<c.n->os.idxOf x<os.idxOf y->lxf (kat c.ks) x y:=λx y hx hy h=>by
  have:=Fd.mp (BB g.tu g.nt) _ _ (Pap.idx_lt J<|by lia) (Pap.idx_lt J<|by lia) h;rw[SR,SR] at this;exact this
 rw[rN];refine⟨List.all_eq_true.mpr λe U=>?_,List.all_eq_true.mpr λz Z=>?_⟩
 .obtain ⟨a1,a2,a3⟩:=g.tu.2 e U;rw[beq_iff_eq,a3,Pap.bk_at<|by lia,Pap.bk_at<|by lia];show _=decide (kat c.ks e.1<kat c.ks e.2.1);rw[decide_eq_decide];constructor
  .intro h;have:=O _ _ a2 (by lia) h;unfold lxf at this;lia
  .intro h;by_cases z:os.idxOf e.1<os.idxOf e.2.1
   .exact z
   .rcases Nat.lt_or_eq_of_le (Nat.not_lt.mp z) with y|y
    .have:=O _ _ (by lia) a2 y;unfold lxf at this;lia
    .have:e.2.1=e.1:=by rw[<- Pap.at_idx J (show e.2.1<os.length by lia),y,Pap.at_idx J<|by lia]
     lia
 .obtain ⟨i,hi,rfl⟩:=vn.mp Z;have hi:=pS.mp hi;obtain⟨b,h1,_⟩:=Cw g.nt (i:=i) (by lia);exact List.any_eq_true.mpr ⟨_,h1,decide_eq_true rfl⟩
theorem Ec{x y:OL}{ps:List Nat}(hx:H x=some (.lst<|nL ps))(z:H y=some (.lst<|nL ps))(q:Q (.bl true) H):AD K (.ref x) (.ref y) H Q:=by
 rw[xb] at hx z;exact Ig Enc.int.list (by decide) (zD<|aB.of hx) (zD<|aB.of z)<|by rw[decide_eq_true rfl];exact q
theorem Eb{x y:OL}{ps:List Nat}(hx:H x=some (.lst<|nL ps))(z:H y=some (.lst<|nL ps))(q:Q (.bl false) H):AA K (.ref x) (.ref y) H Q:=by
 rw[xb] at hx z;exact JP Enc.int.list (by decide) (zD<|aB.of hx) (zD<|aB.of z)<|by rw[decide_eq_true rfl];exact q
theorem zk{K:W.Frag}{H:Hp}:∀zs:List mO,(∀z∈zs,bG K H z.1 [.int z.2.1,.int z.2.2])->bW K H ((zs.map (·.2)).map λp=>PyData.tuple [Sz p.1,Sz p.2]) (zs.map λz=>V.ref z.1)
 |[],_=>.nil
 |z::r,h=>.cons (Kg (h z aU)<|.cons (Ie _)<|.cons (Ie _) .nil)<|zk r λy J=>h y<|bA _ J
theorem u7{A B:List Nat}(h:A.Perm B)(h1:A.Pairwise (·<·))(h2:B.Pairwise (·<·)):A=B:=RA (λa b _ _ h1 h2=>by lia) h1 h2 h
theorem wj(h:k<=l.length):dS (nL l) none (some (k:Int))=nL (l.take k):=by
 unfold dS;rw[HT.sIx_nat,iV,rM h];show List.take k (List.drop 0<|nL l)=_;rw[List.drop_zero];unfold nL;rw[BV]
noncomputable def adr(xs:List V)(i:Nat):OL:=match xs[i]? with
 |some (.ref r)=>r
 |_=>0
noncomputable def um(ks:List Int)(xs:List V):List mO:=(OT ks.length).map λi=>(adr xs i,kat ks i,(i:Int))
section
variable {ks:List Int}
theorem zT(h:cP H ks xs)(hi:i<ks.length):xs[i]?=some (.ref<|adr xs i)/\H (adr xs i)=some (.tup [.int<|kat ks i,.int (i:Int)]):=by
 obtain⟨r,a1,a2⟩:=h.2 i _<|bL hi;have e:adr xs i=r:=by unfold adr;rw[a1]
 have k:kat ks i=ks[i]:=by unfold kat;rw[bL hi];rfl
 rw[e,k];exact⟨a1,a2⟩
theorem ym(h:cP H ks xs):xs=(um ks xs).map λz=>V.ref z.1:=by
 refine E9 λi=>?_;unfold um;rw[Dk,dF];by_cases hi:i<ks.length
 .rw [xh hi,(zT h hi).1];rfl
 .rw [oP<|by rw[h.1];lia,oP<|by rw[eU];lia];rfl
theorem FK{z:mO}(J:z∈um ks xs):∃i,i<ks.length/\z=(adr xs i,kat ks i,(i:Int)):=by
 obtain⟨i,h1,h2⟩:=vn.mp J;exact⟨i,pS.mp h1,h2.symm⟩
theorem FJ:(um ks xs).length=ks.length:=by unfold um;rw[aJ,eU]
noncomputable def lM(ms:List mO):List Nat:=ms.map λz=>z.2.2.toNat
theorem JH{ms:List mO}(J:ms.Perm<|um ks xs)(Z:ms.Pairwise λx y=>¬ iZ y.2 x.2):Du ks<|lM ms:=by
 have U:(lM ms).Perm<|OT ks.length:=by
  have e:((um ks xs).map λz=>z.2.2.toNat)=OT ks.length:=by
   unfold um;rw[Dk];exact(QJ λi _=>rfl).trans<|List.map_id _
  rw[<- e];exact J.map _
 refine⟨U,?_⟩;have nd:=U.nodup_iff.mpr Dj;unfold lM at nd⊢;have O:=Fc.mp nd;rw[Fc];refine(Z.and O).imp_of_mem fun {x y} hx hy h=>?_;obtain⟨i,hi,rfl⟩:=FK<|J.mem_iff.mp hx;obtain⟨j,hj,rfl⟩:=FK<|J.mem_iff.mp hy;have h1:=h.1;have h2:i≠j:=h.2;unfold iZ at h1;show lxf (kat ks) i j;unfold lxf;dsimp only at h1;lia
noncomputable def gP(ks:List Int)(m x:Nat):Nat:=((kat ks x+(x:Int)*(x:Int))%(m:Int)).toNat
noncomputable def sD(ks:List Int)(m:Nat)(l:List Nat):List<|List Nat:=(OT m).map λj=>l.filter λx=>decide<|gP ks m x=j
theorem CC(h:0<m):gP ks m x<m:=by
 have h1:=Pn (kat ks x+(x:Int)*(x:Int)) (show(m:Int)≠0 by lia);have h2:=PD (kat ks x+(x:Int)*(x:Int)) (show(0:Int)<m by lia);unfold gP;lia
theorem tM(k c:Nat):∀m,((OT m).map λj=>if k=j then c else 0).sum=if k<m then c else 0
 |0=>rfl
 |m+1=>by
  rw[C7,bX,List.sum_append,tM k c m];simp only[jC,List.map_nil,List.sum_cons,List.sum_nil];by_cases h:k=m
  .rw [Z9 h,Z8<|by lia,Z9<|by lia];lia
  .rw [Z8 h];by_cases h2:k<m
   .rw [Z9 h2,Z9<|by lia];lia
   .rw [Z8 h2,Z8<|by lia];rfl
theorem rg(h:0<m)(l:List Nat):(sD ks m l).flatten.Perm l:=by
 refine IZ λa=>?_;unfold sD;rw[List.count_flatten,Dk];have e:((OT m).map<|List.count a∘λj=>l.filter λx=>decide<|gP ks m x=j)=(OT m).map λj=>if gP ks m a=j then l.count a else 0:=by
  refine QJ λj _=>?_;show List.count a (l.filter _)=_;by_cases z:gP ks m a=j
  .rw [Z9 z,List.count_filter<|by simpa using z]
  .rw [Z8 z,List.count_eq_zero];intro y;exact z<|by simpa using (Dt.mp y).2
 rw[e,tM,Z9<|CC h]
noncomputable def qv(ks:List Int):List A3:=(OT ks.length).flatMap λp=>(OT p).map λq=>(p,q,sS (kat ks) false 0 p q)
theorem qq{e:A3}:e∈qv ks↔e.2.1<e.1/\e.1<ks.length/\e.2.2=sS (kat ks) false 0 e.1 e.2.1:=by
 unfold qv;rw[List.mem_flatMap];constructor
 .rintro ⟨p,J,h⟩;obtain⟨q,z,rfl⟩:=vn.mp h;exact⟨pS.mp z,pS.mp J,rfl⟩
 .rintro ⟨h1,h2,h3⟩;obtain⟨p,q,b⟩:=e;dsimp only at h1 h2 h3;subst h3;exact⟨p,pS.mpr h2,vn.mpr ⟨q,pS.mpr h1,rfl⟩⟩
theorem qu(h:ks.length<=63):(qv ks).length<=4000:=by
 have:∀l:List Nat,(∀p∈l,p<=63)->(l.flatMap λp=>(OT p).map λq=>((p,q,sS (kat ks) false 0 p q):A3)).length<=63*l.length:=λl=>by
  induction l with
  |nil=>intro _;exact aK _
  |cons p l ih=>
   intro hl;rw[List.flatMap_cons,aW,aJ,eU,bS,To];have:=ih λx hx=>hl x<|bA _ hx;have:=hl p aU;lia
 have:=this (OT ks.length) λp z=>by have:=pS.mp z;lia
 rw[eU] at this;unfold qv;lia
theorem AG(h:ks.length<=63):Tu ks.length (sS (kat ks) false)<|qv ks:=⟨cX (qu h)<|by decide,λe z=>qq.mp z⟩
theorem AH{y:Nat}(hx:x<ks.length)(J:y<ks.length)(h:gQ (kat ks) false x y):Td (qv ks) x y:=by
 have h:lxf (kat ks) x y:=h;unfold lxf at h;have ne:x≠y:=λe=>by subst e;lia
 refine⟨sS (kat ks) false 0 (max x y)<|min x y,qq.mpr ⟨show min x y<max x y by lia,show max x y<ks.length by lia,rfl⟩,?_⟩;by_cases z:y<x
 .rw [Z9 z,show max x y=x by lia,show min x y=y by lia];exact decide_eq_true<|by lia
 .rw [Z8 z,show max x y=y by lia,show min x y=x by lia];show(!decide (kat ks y<kat ks x))=true;rw[decide_eq_false<|by lia];rfl
theorem Cs{R:Nat->Nat->Prop}:∀{l:List Nat},l.Pairwise R->Nb R l
 |[],_=>trivial
 |[_],_=>trivial
 |a::b::l,h=>⟨(BR.mp h).1 b aU,Cs (BR.mp h).2⟩
theorem EC{due:List Nat}(d:Du ks due)(h:0<m):Pc ks.length (qv ks)<|sD ks m due:=by
 have pm:=rg (ks:=ks) h due;have lt:∀x∈due,x<ks.length:=λx hx=>pS.mp<|d.pm.mem_iff.mp hx;refine⟨λp O=>?_,pm.nodup_iff.mpr<|d.pm.nodup_iff.mpr Dj,λx hx=>lt x<|pm.mem_iff.mp hx⟩;obtain⟨j,_,rfl⟩:=vn.mp O;refine Cs ?_;have:=d.pw.sublist<|List.filter_sublist (p:=λx=>decide<|gP ks m x=j);exact this.imp_of_mem fun {a b} ha J z=>AH (lt a (Dt.mp ha).1) (lt b (Dt.mp J).1) z
theorem zl(h:gP ks m x<m):sD ks m (l++[x])=(sD ks m l).set (gP ks m x) (l.filter (λy=>decide<|gP ks m y=gP ks m x)++[x]):=by
 refine E9 λj=>?_;unfold sD;rw[List.getElem?_set,dF,dF,aJ,eU];by_cases z:gP ks m x=j
 .rw [Z9 z,Z9 h,xh<|by lia];show some (List.filter _ _)=some _;rw[Aa,<- z,Qs<|by simp];rfl
 .rw [Z8 z];by_cases y:j<m
  .rw [xh y];show some (List.filter _ _)=some (List.filter _ _);rw[Aa,Fb (by simpa using z),List.filter_nil,gW]
  .rw [oP<|by rw[eU];lia];rfl
end
def dvP(A O L u q:Lean.Term)(s:String):Lean.Term:=let tk:=fun(w:String)=>(if w=="_" then u else if w=="?" then q else if w=="A" then A else if w=="O" then O else if w=="L" then L else if w.toNat?.isSome then ⟨Lean.Syntax.mkNumLit w⟩ else if w.startsWith "'" then ⟨Lean.Syntax.mkStrLit (w.toList.drop 1|>String.ofList)⟩ else ⟨Lean.mkIdent w.toName⟩:Lean.Term);let st:=fun(k:List (Array Lean.Term))(w:String)=>match w,k with|"(",k=>#[]::k|"[",k=>#[]::k|")",a::b::r=>b.push ⟨Lean.Syntax.mkApp a[0]! (a.extract 1 a.size)⟩::r|"]",a::b::r=>b.push (a.foldr (fun x y=>⟨Lean.Syntax.mkApp (Lean.mkIdent ``List.cons) #[x,y]⟩) ⟨Lean.mkIdent ``List.nil⟩)::r|"",k=>k|w,a::r=>a.push (tk w)::r|_,k=>k;((((((s.replace "(" " ( ").replace ")" " ) ").replace "[" " [ ").replace "]" " ] ").splitOn.foldl st [#[]]).headD #[])[0]!
abbrev dvT:=Lean.TSyntax `tactic
def dvF(l:List dvT):Lean.MacroM dvT:=do let z<-`(tactic|fail);l.foldrM (fun a b=>`(tactic|first|$a:tactic|$b:tactic)) z
def dvM(P:String->Lean.Term)(x:String):Lean.MacroM dvT:=match x.splitOn "|" with|[c,t]=>if c=="" then `(tactic|with_reducible refine' $(P t)) else if c=="!" then `(tactic|refine' $(P t)) else `(tactic|((with_reducible refine (?_:$(P c)));refine' $(P t)))|_=>`(tactic|fail)
def dvG(P:String->Lean.Term)(g:String):Lean.MacroM dvT:=match g.splitOn ";" with|h::r=>(do let t<-dvF (<-r.mapM<|dvM P);`(tactic|((with_reducible refine (?_:$(P h)));$t:tactic)))|_=>`(tactic|fail)
local macro_rules|`(tactic|walk_at "d")=>do let A<-`(by assumption);let O<-`(by first|exact Or.inl rfl|exact Or.inr rfl);let L<-`(fun _ _=>rfl);let u<-`(_);let q<-`(?_);let P:=dvP A O L u q;let G<-("(PE _ _ _);|JC;|rK;|D1;|JX;(PE _(PySem.Expr.Name _ _)_)|(pv 0);(PE _(PySem.Expr.Name _ _)_)|(pv 1);(PE _(PySem.Expr.Name _ _)_)|(pv 2);(PE _(PySem.Expr.Name _ _)_)|(pv 3);(PE _(PySem.Expr.Name _ _)_)|(pv 4);(PE _(PySem.Expr.Name _ _)_)|(pv 5);(PE _(PySem.Expr.Name _ _)_)|(pv 6);(PE _(PySem.Expr.Name _ _)_)|(pv 7);(PE _(PySem.Expr.Name _ _)_)|(pv 8);(PE _(PySem.Expr.Name _ _)_)|(Kr rfl(Bt.WX A));(PE _(PySem.Expr.Name _ _)_)|(Kr rfl(Bt.Wx A));(PE _(PySem.Expr.Name _ _)_)|(Kr rfl(Bt.U6 A));(PE _(PySem.Expr.Attribute _ _ _)_)|(JU ? rfl);(PE _(PySem.Expr.Compare _[PySem.CmpOp.Eq]_ _)_)|(xc EK ? ?(gL _));(PE _(PySem.Expr.Compare _[PySem.CmpOp.Gt]_ _)_)|(xc Jz ? ?(gL _));(PE _(PySem.Expr.Compare _[PySem.CmpOp.Lt]_ _)_)|(xc Fy ? ?(gL _));|(eY CU ? ?);|(eY uz ? ?);|(eY G2 ? ?);|(eY JQ ? ?);|(eY FF ? ?);|(FH IG ? ? ?);(PE _(PySem.Expr.Subscript _ _ _)_)|(pN qR ? ? L);|(G4 ? ?);|(qC ? ? ?);|(G5 ?);|(yp ?);|(Iz ?);|(ES ?);|(Gw Dv ?);(PE _(PySem.Expr.Call(PySem.Expr.Name 'len _)_ _ _)_)|(kD Jc rfl(Bt.VG A)Ry ?);(PE _(PySem.Expr.Call(PySem.Expr.Name 'max _)_ _ _)_)|(kD(oE rfl)rfl(Bt.Wk A)RI ?);(PE _(PySem.Expr.Call(PySem.Expr.Name 'min _)_ _ _)_)|(kD(oB rfl)rfl(Bt.Wj A)RH ?);(PE _(PySem.Expr.Call(PySem.Expr.Name 'sorted _)_ _ _)_)|(kD Lv rfl(Bt.UP A)Qg ?);(PE _(PySem.Expr.Call(PySem.Expr.Name 'list _)_ _ _)_)|(vc Jd rfl(Bt.UJ A)PH ?);(PE _(PySem.Expr.Call(PySem.Expr.Attribute _ 'append _)_ _ _)_)|(Fz P4 PySem.F.slot_list_append PySem.F.type_list_append vR ? ?);(PE _(PySem.Expr.Call(PySem.Expr.Attribute _ 'extend _)_ _ _)_)|(Fz P4 PySem.F.slot_list_extend PySem.F.type_list_extend vQ ? ?);(PE _(PySem.Expr.Call(PySem.Expr.Attribute _ 'insert _)_ _ _)_)|(Fz P4 PySem.F.slot_list_insert PySem.F.type_list_insert nN ? ?);(PE _(PySem.Expr.Call(PySem.Expr.Attribute _ 'pop _)_ _ _)_)|(Fz P4 PySem.F.slot_list_pop PySem.F.type_list_pop yB ? ?);(PE _(PySem.Expr.Call(PySem.Expr.Name _ _)_ _ _)_)|(wG A(aT.mn A)rfl gK ?);(PE _(PySem.Expr.Call(PySem.Expr.Name _ _)_ _ _)_)|(HX A(aT.mn A)rfl gK ?);(PE _(PySem.Expr.Call(PySem.Expr.Attribute _ _ _)[]_ _)_)|(ER A(aT.mn A)gK ?);(PE _(PySem.Expr.Call(PySem.Expr.Attribute _ _ _)_ _ _)_)|(JD A(aT.mn A)gK ? ?)#(PA _ _ _);|Iy;(PA _[_]_)|(bO ?);(PA _[_ _]_)|(fS ? ?);(PA _[_ _ _]_)|(zO ? ? ?);!|(FI ? ?)#(mP _ _ _);|Kw;|(cD ?);|(aM ? ?)#(L2.PS _ _ _);|(oM ? ? ?);|(jJ ?);(L2.PS _(PySem.Stmt.Expr _ _)_)|(Hd ?);|(Hj PJ ? ?);(L2.PS _(PySem.Stmt.Assign[(PySem.Expr.Name _ _)]_ _)_)|(EV 1 A rfl O ?);(L2.PS _(PySem.Stmt.Assign[(PySem.Expr.Name _ _)]_ _)_)|(EV 2 A rfl O ?);(L2.PS _(PySem.Stmt.Assign[(PySem.Expr.Name _ _)]_ _)_)|(EV 3 A rfl O ?);(L2.PS _(PySem.Stmt.Assign[(PySem.Expr.Name _ _)]_ _)_)|(EV 4 A rfl O ?);(L2.PS _(PySem.Stmt.Assign[(PySem.Expr.Name _ _)]_ _)_)|(EV 5 A rfl O ?);(L2.PS _(PySem.Stmt.Assign[(PySem.Expr.Name _ _)]_ _)_)|(EV 6 A rfl O ?);(L2.PS _(PySem.Stmt.Assign[(PySem.Expr.Name _ _)]_ _)_)|(EV 7 A rfl O ?);(L2.PS _(PySem.Stmt.Assign[(PySem.Expr.Attribute _ _ _)]_ _)_)|(IA ? ? rfl);(L2.PS _(PySem.Stmt.For _ _ _ _ _)_)|(zU PJ rfl ? ? ?);(L2.PS _(PySem.Stmt.AugAssign(PySem.Expr.Name _ _)_ _ _)_)|(Ku 4 A rfl O ? JO);(L2.PS _(PySem.Stmt.AugAssign(PySem.Expr.Name _ _)_ _ _)_)|(Ku 5 A rfl O ? JO);(L2.PS _(PySem.Stmt.AugAssign(PySem.Expr.Name _ _)_ _ _)_)|(Ku 6 A rfl O ? JO);(L2.PS _(PySem.Stmt.AugAssign(PySem.Expr.Attribute _ _ _)_ _ _)_)|(vI ? ? En);(L2.PS _(PySem.Stmt.Assign _ _ _)_)|(DU ? ?)#(PT _ _ _);(PT _(PySem.Expr.Compare _[PySem.CmpOp.Eq]_ _)_)|(lR EK ? ?(gL _));(PT _(PySem.Expr.Compare _[PySem.CmpOp.GtE]_ _)_)|(lR Gz ? ?(gL _));(PT _(PySem.Expr.Compare _[PySem.CmpOp.Gt]_ _)_)|(lR Jz ? ?(gL _));(PT _(PySem.Expr.Compare _[PySem.CmpOp.Is]_ _)_)|(lR Ea ? ?(gL _));(PT _(PySem.Expr.Compare _[PySem.CmpOp.LtE]_ _)_)|(lR JA ? ?(gL _));(PT _(PySem.Expr.Compare _[PySem.CmpOp.Lt]_ _)_)|(lR Fy ? ?(gL _));(PT _(PySem.Expr.Compare _[PySem.CmpOp.NotEq]_ _)_)|(lR JB ? ?(gL _));(PT _(PySem.Expr.Compare _[PySem.CmpOp.IsNot]_ _)_)|(lR AR ? ?(gL _));|(IB ?);|(PW.pt(CW ? ?));|(PW.pt(Ia ? ?));!|(IC ?)#(L2.PW _ _ _);|(CW ? ?);|(EW ?);|(Ia ? ?);|(J0 ?)#(PG _ _ _);(PG _(PySem.Expr.Name _ _)_)|(EY 2 A rfl O);(PG _(PySem.Expr.Name _ _)_)|(EY 3 A rfl O);(PG _(PySem.Expr.Name _ _)_)|(EY 4 A rfl O);(PG _(PySem.Expr.Name _ _)_)|(EY 5 A rfl O);(PG _(PySem.Expr.Name _ _)_)|(EY 6 A rfl O);(PG _(PySem.Expr.Name _ _)_)|(EY 7 A rfl O);(PG _(PySem.Expr.Name _ _)_)|(EY 8 A rfl O);(PG _(PySem.Expr.Subscript _ _ _)_)|(DZ ? ? set_list);(PG _(PySem.Expr.Tuple[_ _]_ _)_)|(ur 2 ?);(PG _(PySem.Expr.Tuple[_ _ _]_ _)_)|(ur 3 ?)#(C5 _ _ _);|Hb;(C5 _(List.cons _ _)_)|(w6 ? ?)#(PI _ _ _ _);(PI _ _(PySem.Expr.Call(PySem.Expr.Name 'range _)[_]_ _)_)|(nH rfl(Bt.UE A)?);!|(Hc ?)#(PO _ _ _);|(BF ?);|Kt".splitOn "#").mapM (dvG P);let t<-dvF G;`(tactic|repeat' $t:tactic)
section
variable {P:OZ}{w:Pp}{mg:Pa->Option OK}{base:Ph}{Cf Cg Ca Cd Cc Cb Ch Cj Ci Ce Ck:OL}{Cm:OL}
theorem NN(F:aN K "_law_first" "_law_first" Ky f fd)(T:Bt K mg Cf Cg Ca Cd Cc Cb Ch Cj Ci Ce Ck)
 :aH P w K mg base aC 1 f fd ["_law_one","_law_other"]<|lB:=by
 refine F.ok M0 (by (intro _ _ _ _ h;cases h;subst_vars;rfl)) λJ A outer s H vs Q E O h=>?_
 refine' ⟨_,(cD ?_),?_⟩;walk_at "d";obtain⟨x,y,k,k2,i,j,rfl,hx,z,q⟩:=h;walk_at "r";exact ib (bG.of hx) (cO (by decide) rfl)<|ib (bG.of z) (cO (by decide) rfl)<|wW q
theorem OC(F:eQ K "__init__" "Asker.__init__" Ml f fd dv)(T:Bt K mg Cf Cg Ca Cd Cc Cb Ch Cj Ci Ce Ck)
 :aH P w K mg base aC 1 f fd ["self","row","rule","most"]<|cJ Ca:=by
 refine F.ok mB (by (intro _ _ _ _ h;cases h;subst_vars;rfl)) λaa A outer s H vs Q E hr h=>?_
 refine' ⟨_,(aM ?_ ?_),?_⟩;walk_at "d";obtain⟨x,dx,r,ru,m,xs,rfl,hx,Z,q⟩:=h;walk_at "r";refine⟨r,xs,rfl,.inl<|aB.of Z,λrl O=>?_⟩;have J:x≠rl:=aX hx O;obtain⟨H1,e1,s1,h1⟩:=aI O<|.lst xs;rw[e1];clear e1;refine cM (s1 _ _ hx) T.De T.Np (by decide) λH2 x2 k2=>?_;walk_at "r";refine cM x2 T.De T.Ny GU λH3 x3 k3=>?_;walk_at "r";refine cM x3 T.De T.Nz FA λH4 x4 k4=>?_;walk_at "r";refine cM x4 T.De T.Nn FC λH5 x5 k5=>?_;walk_at "r";refine⟨cL<|by decide,λtl z=>?_⟩;obtain⟨H6,e6,s6,h6⟩:=aI z<|.lst [];rw[e6];clear e6;have U:x≠tl:=aX x5 z;refine cM (s6 _ _ x5) T.De T.Nq HZ λH7 x7 k7=>?_;have up:∀b o,b≠x->H b=some o->H5 b=some o:=λb o n e=>by rw[k5 b n,k4 b n,k3 b n,k2 b n];exact s1 b o e
 have h5:H5 rl=some (.lst xs):=by rw[k5 rl<|OY J,k4 rl<|OY J,k3 rl<|OY J,k2 rl<|OY J];exact h1
 refine q rl tl H7 (λb o n e=>by rw[k7 b n];exact s6 _ _<|up b o n e) O ?_ (aX h5 z) ((aZ.of x7<|cX JE<|by decide).congr za) (by rw[k7 rl<|OY J];exact s6 _ _ h5) (by rw[k7 tl<|OY U];exact h6);cases e:H tl with
 |none=>rfl
 |some o=>rw[up tl o (OY U) e] at z;cases z
theorem NR(F:aN K "many" "Asker.many" Mm f fd)(T:Bt K mg Cf Cg Ca Cd Cc Cb Ch Cj Ci Ce Ck)
 :aH P w K mg base aC 1 f fd ["self"]<|dB Ca:=by
 refine F.ok lZ (by (intro _ _ _ _ h;cases h;subst_vars;rfl)) λJ A outer s H vs Q E O h=>?_
 refine' ⟨_,(cD ?_),?_⟩;walk_at "d";obtain⟨a,rl,ru,tl,m,n,xs,rfl,ha,z,q⟩:=h;walk_at "r";refine ha.get T.De T.Np (by walk_at "l") ⟨rl,xs,rfl,.inl<|aB.of z,q⟩
theorem NG(F:aN K "answers" "Asker.answers" Je f fd)(T:Bt K mg Cf Cg Ca Cd Cc Cb Ch Cj Ci Ce Ck)
 :aH P w K mg base aC 1 f fd ["self"]<|bU Ca:=by
 refine F.ok dR (by (intro _ _ _ _ h;cases h;subst_vars;rfl)) λJ A outer s H vs Q E O h=>?_
 refine' ⟨_,(cD ?_),?_⟩;walk_at "d";obtain⟨a,rl,ru,tl,m,n,ts,rfl,ha,z,q⟩:=h;walk_at "r";refine ha.get T.De T.Nq (by walk_at "l") ⟨tl,ts,rfl,.inl<|aB.of z,λl hl=>?_⟩;exact q l _ (bE hl _) hl aP
theorem ND(F:aN K "__init__" "AskedRule.__init__" My f fd)(T:Bt K mg Cf Cg Ca Cd Cc Cb Ch Cj Ci Ce Ck)
 :aH P w K mg base aC 1 f fd ["self","teller"]<|dA Cb:=by
 refine F.ok iR (by (intro _ _ _ _ h;cases h;subst_vars;rfl)) λJ A outer s H vs Q E O h=>?_
 refine' ⟨_,(cD ?_),?_⟩;walk_at "d";obtain⟨x,dx,g,rfl,hx,q⟩:=h;walk_at "r";refine cM hx T.Dh T.N2 (by decide) λH2 z k2=>?_;exact q H2 (λb o n e=>by rw[k2 b n];exact e)<|(aZ.of z<|cX GU<|by decide).congr λf=>by simp only[pO,lkc]
theorem NJ(F:aN K "before" "AskedRule.before" Mq f fd)(T:Bt K mg Cf Cg Ca Cd Cc Cb Ch Cj Ci Ce Ck)
  (z:Fn P w K mg base aC "_law_first" 1 ["_law_one","_law_other"]<|lB)
 :aH P w K mg base aC 2 f fd ["self","x","y"]<|fM Cb<|eV mg:=by
 refine F.ok cR (by (intro _ _ _ _ h;cases h;subst_vars;rfl)) λO A outer s H vs Q E Z h=>?_
 have U:=cR.nd;refine' ⟨_,(aM ?_<|cD<|jJ<|yu z Z.mn gK ?_ ?_),?_⟩;walk_at "d";obtain⟨ru,g,x,y,rfl,J,q⟩:=h;walk_at "r";refine J.get T.Dh T.N2 (by walk_at "l") ?_;exact q
theorem NU(F:aN K "ahead" "Asker.ahead" L1 f fd)(T:Bt K mg Cf Cg Ca Cd Cc Cb Ch Cj Ci Ce Ck)
  (J:Mt P w K mg base aC Cb "before" 2 ["self","x","y"]<|fM Cb<|eV mg)
 :aH P w K mg base aC 3 f fd ["self","p","q"]<|bF Ca Cb<|eV mg:=by
 refine F.ok fO (by (intro _ _ _ _ h;cases h;subst_vars;rfl)) λas A outer s H vs Q E hr h=>?_
 have au:=fO.nd;refine' ⟨_,(aM (oM ?_ (cD Li) ?_)<|bN<|aM ?_<|aM ?_<|aM ?_<|bN ?_),?_⟩;walk_at "d";obtain⟨a,rl,ru,tl,n,p,q,xs,ts,x,y,rfl,ha,ac,ai,aj,ag,hx,hy,hb⟩:=h;walk_at "r";obtain⟨ap,g,x',y',e,af,ao⟩:=hb;cases e;refine ha.get T.De T.Nz (by walk_at "l") ?_;rw[Z8<|by simp];refine bM ?_;walk_at "r";refine⟨p,q,rfl,p,q,rfl,ha.get T.De T.Ny (by walk_at "l")<|af.Uw (by walk_at "l") ?_⟩;rw[Cy,Fw];refine ha.get T.De T.Np (by walk_at "l")<|dE (aB.of ac) (cO (by lia) hx) ?_;refine ha.get T.De T.Np (by walk_at "l")<|dE (aB.of ac) (cO (by lia) hy) ?_;refine⟨ru,g,x,y,rfl,af,Ay (λv H1 h=>?_) ao⟩;obtain⟨b,rfl,ae,Z,aq,hq⟩:=h;have ad:tl≠a:=ae.ne Z λ_ _ _ z=>by cases z
 refine bM ?_;walk_at "r";refine ae.aug T.De T.Nn (by walk_at "l") λH2 am k2=>?_;have U:=am.congr zc;have O:H2 tl=some (.lst ts):=by rw[k2 tl ad];exact Z
 walk_at "r";refine U.get T.De T.Nq (by walk_at "l") ?_;walk_at "r";refine⟨.inl ⟨rfl,_,aB.of O⟩,cL<|by decide,λt ht=>?_⟩;have ah:t≠tl:=λz=>by rw[z,O] at ht;cases ht
 have aa:t≠a:=U.neN ht;refine⟨tl,ts,_,rfl,rfl,bE ht _ _ _ O,xW<|by lia,?_⟩;have fin:=hq t (upd (upd H2 t<|.tup [.int<|max p q,.int<|min p q,.bl b]) tl<|.lst<|ts++[.ref t]) (by rw[<- k2 t aa];exact ht) (U.keep<|by rw[aO<|OY ad,aO<|OY aa]) aP (by rw[aO ah,aP]) (λc h1 h2 h3=>by rw[aO h2,aO h3,k2 c h1]);by_cases UA:q<p
 .rw [Z9 UA] at fin;show(if _ then _ else _);rw[Z9<|by lia];exact fin
 .rw [Z8 UA] at fin;show(if _ then _ else _);rw[Z8<|by lia];exact fin
theorem NS(F:eQ K "stretch_from" "stretch_from" Md f fd dv)(T:Bt K mg Cf Cg Ca Cd Cc Cb Ch Cj Ci Ce Ck)
  (z:Mt P w K mg base aC Ca "ahead" 3 ["self","p","q"]<|bF Ca Cb<|eV mg)
  (J:Mt P w K mg base aC Ca "many" 1 ["self"]<|dB Ca)
 :aH P w K mg base aC 4 f fd ["asker","first","end"]<|oU Ca<|aG.mk Cb mg:=by
 refine F.ok Vo (by (intro _ _ _ _ h;cases h;subst_vars;rfl)) λac A outer s H vs Q E hr h=>?_
 have ad:=Vo.nd;refine' ⟨_,(aM ?_<|bN ?_),?_⟩;walk_at "d";obtain⟨c,pr,first,stop,post,rfl,st,Z,w,q⟩:=h;walk_at "r";rw[Z8<|by simp];walk_at "r";refine bM ?_;walk_at "r";unfold rX at w;by_cases h1:first+1<stop
 .rw [Z9 h1] at w;rw[Z8<|by lia];refine st.ha.Uw (by walk_at "l") ?_;rw[show((first:Int)+1)=((first+1:Nat):Int) by lia];refine st.ahead Z w λb H1 pr1 f1 s1 w1=>?_;refine xa (λm σ H'=>L2.X4 λ(k n:Nat) (v2:Option V) (pr':List A3)=>m=stop-k/\σ=[some<|.ref c.a,some<|.int first,v2,some<|.int (stop:Nat),some<|.int k,some<|.bl b]/\first+1<k/\stop<=k+n/\Fr c.S H H'/\aE Ca (aG.mk Cb mg) H' c pr'/\Wp c.n c.an (pG stop b n k) pr' post) ⟨_,first+2,_,_,_,rfl,rfl,by lia,by lia,f1,s1,w1⟩ ?_;rintro m σ H' ⟨k,n,v2,pr',rfl,rfl,aa,hn,fr,s,w⟩;walk_at "r";by_cases XE:k<stop
  .rw [Z9<|by lia];obtain⟨n,rfl⟩:∃n',n=n'+1:=⟨n-1,by lia⟩
   rw[pG.eq_2,Z9 XE] at w;refine s.ha.Uw (by walk_at "l") ?_;rw[show((k:Int)-1)=((k-1:Nat):Int) by lia];refine s.ahead Z w λd H2 pr2 f2 s2 U=>?_;walk_at "r";by_cases hd:d=b
   .rw [Z9 hd];rw[Z9 hd] at U;refine w8 ?_;walk_at "r";exact⟨stop-(k+1),by lia,k+1,n,_,_,rfl,by rw[show((k:Int)+1)=((k+1:Nat):Int) by lia],by lia,by lia,fr.trans f2,s2,U⟩
   .rw [Z8 hd];rw[Z8 hd] at U;exact⟨cL<|by decide,λt O=>q t _ (k,b) _ (fr.trans<|f2.trans (bE O _).fr) (s2.mono<|bE O _) aP U⟩
  .rw [Z8<|by lia];walk_at "r";refine⟨cL<|by decide,λt O=>q t _ (k,b) _ (fr.trans (bE O _).fr) (s.mono<|bE O _) aP ?_⟩;cases n with
   |zero=>exact w
   |succ n=>rw[pG.eq_2,Z8 XE] at w;exact w
 .rw [Z8 h1] at w;rw[Z9<|by lia];exact⟨cL<|by decide,λt O=>q t _ (first+1,false) _ (bE O _).fr (st.mono<|bE O _) aP w⟩
theorem NQ(F:aN K "in_turn" "in_turn" Lb f fd)(T:Bt K mg Cf Cg Ca Cd Cc Cb Ch Cj Ci Ce Ck)
 :aH P w K mg base aC 1 f fd ["first","beyond","falling"]<|iJ:=by
 refine F.ok Vv (by (intro _ _ _ _ h;cases h;subst_vars;rfl)) λO A outer s H vs Q E Z h=>?_
 refine' ⟨_,(aM (mM (i:=3) Vv.nd rfl (by (first | exact Or.inl rfl | exact Or.inr rfl))<|vc (LW rfl) rfl T.UJ PH<|bO<|vc oA rfl T.UE Rr ?_)<|aM (oM ?_ (cD<|Hd<|yv P4 PySem.F.slot_list_reverse PySem.F.type_list_reverse lG ?_) ?_) ?_),?_⟩;walk_at "d";obtain⟨first,j,f,rfl,J,U,q⟩:=h;walk_at "r";refine⟨first,j,rfl,λp z=>⟨p,first,j,rfl,aP,by lia,λl hl=>?_⟩⟩;have S:aD H<|upd (upd H p<|.rng first j) l<|.lst<|(wU (first:Int) (j:Int)).map V.int:=((aD.refl H).new z).new hl;have hn:H l=none:=((aD.refl H).new z).free hl;rw[mY] at S⊢;cases f with
 |true=>
  rw[Z9 rfl];refine⟨.inl ⟨rfl,_,aB.of aP⟩,l,_,rfl,rfl,aP,?_⟩;rw[IH];refine q l _ (((aD.refl H).new z).new hl) hn ?_;rw[aP];unfold cY nL;rw[Z9 rfl,List.map_reverse]
 |false=>
  rw[Z8<|by decide];refine q l _ S hn ?_;rw[aP];rfl
theorem NF(F:aN K "spot_of" "spot_of" Ld f fd)(T:Bt K mg Cf Cg Ca Cd Cc Cb Ch Cj Ci Ce Ck)
  (J:Mt P w K mg base aC Ca "ahead" 3 ["self","p","q"]<|bF Ca Cb<|eV mg)
 :aH P w K mg base aC 4 f fd ["asker","order","place"]<|gC Ca<|aG.mk Cb mg:=by
 refine F.ok Vq (by (intro _ _ _ _ h;cases h;subst_vars;rfl)) λae A outer s H vs Q E hr h=>?_
 have af:=Vq.nd;refine' ⟨_,(aM ?_ ?_),?_⟩;walk_at "d";obtain⟨c,pr,os,pl,ol,post,rfl,st,O,U,hk,w,q⟩:=h;walk_at "r";refine⟨ol,_,rfl,.inl<|aB.of O,?_⟩;rw[aJ];refine xa (λm σ H'=>L2.X5 λ(z high n:Nat) (v5:Option V) (pr':List A3)=>m=high-z/\σ=[some<|.ref c.a,some<|.ref ol,some<|.int pl,some<|.int z,some<|.int high,v5]/\high<=os.length/\high-z<=n/\Fr c.S H H'/\aE Ca (aG.mk Cb mg) H' c pr'/\Wp c.n c.an (zP os pl n z high) pr' post) ⟨_,0,os.length,os.length,_,pr,rfl,rfl,aK _,aK _,.refl,st,w⟩ ?_;rintro m σ H' ⟨z,high,n,v5,pr',rfl,rfl,ad,hn,fr,s,w⟩;walk_at "r";by_cases UA:z<high
 .rw [Z9<|by lia];refine w8 ?_;walk_at "r";obtain⟨n,rfl⟩:∃n',n=n'+1:=⟨n-1,by lia⟩
  rw[zP.eq_2,Z9 UA] at w;have aa:z<=(z+high)/2:=by lia
  have Z:(z+high)/2<high:=by lia
  have ac:((z:Int)+high)/2=((z+high)/2:Nat):=by lia
  refine⟨⟨by decide,by decide⟩,?_⟩;rw[ac];generalize (z+high)/2=mi at w aa Z;have ho:=(getD_mem (os:=os) (i:=mi)<|by lia).1;generalize os.getD mi 0=o at ho w;refine s.ha.Uw (by walk_at "l") ?_;refine dE (aB.of<|fr _ _ U O) (rH ho) ?_;refine s.ahead hk w λb H2 pr2 f2 s2 w2=>?_;refine kn ?_;cases b
  .rw [Z8<|by decide];exact⟨mi-z,by lia,z,mi,n,_,pr2,rfl,rfl,by lia,by lia,fr.trans f2,s2,w2⟩
  .rw [Z9 rfl];exact⟨high-(mi+1),by lia,mi+1,high,n,_,pr2,rfl,rfl,by lia,by lia,fr.trans f2,s2,w2⟩
 .rw [Z8<|by lia];walk_at "r";refine q z H' pr' fr s ?_;cases n with
  |zero=>exact w
  |succ n=>rw[zP.eq_2,Z8 UA] at w;exact w
theorem O9(F:eQ K "filled" "filled" KW f fd dv)(T:Bt K mg Cf Cg Ca Cd Cc Cb Ch Cj Ci Ce Ck)
  (J:Fn P w K mg base aC "stretch_from" 4 ["asker","first","end"]<|oU Ca<|aG.mk Cb mg)
  (ac:Fn P w K mg base aC "in_turn" 1 ["first","beyond","falling"]<|iJ)
  (af:Fn P w K mg base aC "spot_of" 4 ["asker","order","place"]<|gC Ca<|aG.mk Cb mg)
  (O:Mt P w K mg base aC Ca "many" 1 ["self"]<|dB Ca)
 :aH P w K mg base aC 5 f fd ["asker","first","least","end"]<|kS Ca<|aG.mk Cb mg:=by
 refine F.ok Vr (by (intro _ _ _ _ h;cases h;subst_vars;rfl)) λay A outer s H vs Q E hr h=>?_
 have aw:=Vr.nd;refine' ⟨_,(aM ?_<|bN<|aM ?_<|aM ?_<|aM ?_<|bN<|aM (zU PJ rfl (vL rfl T.UE ?_) ?_ ?_) ?_),?_⟩;walk_at "d";obtain⟨c,pr,first,ls,stop,post,rfl,st,hk,hf,hs,w,q⟩:=h;walk_at "r";rw[Z8<|by simp];walk_at "r";refine bM ?_;walk_at "r";refine⟨c,pr,first,stop,_,rfl,st,hk,(w.bind).U0<|pZ hf,λt H1 r pr1 ah aa ht hw=>?_⟩;obtain⟨⟨am,ap⟩,w1⟩:=hw;obtain⟨j,f⟩:=r;dsimp only at am ap ht w1;refine ib (bG.of ht) (cO (by decide) rfl) ?_;refine ib (bG.of ht) (cO (by decide) rfl) ⟨first,j,f,rfl,by lia,by lia,λol H2 s2 U aj=>?_⟩;have aq:=aa.mono s2;have ad:=aa.off U;have ai:H ol=none:=aa.free ah U;rw[tG] at w1;refine bM ?_;walk_at "r";refine⟨_,_,rfl,?_⟩;rw[Fw,show min ((first:Int)+ls) stop=(min (first+ls) stop:Nat) by lia];have ax:=mU first j f
 refine y8 (by lia)<|FG (λi σ H'=>L2.X4 λ(v3 v8:Option V) (os:List Nat) (pr':List A3)=>σ=[some<|.ref c.a,some<|.int first,some<|.int ls,v3,some<|.int stop,some<|.ref t,some<|.int j,some<|.ref ol,v8]/\H' ol=some (.lst<|nL os)/\os.length=j+i-first/\Fr c.S H H'/\aE Ca (aG.mk Cb mg) H' c pr'/\Wp c.n c.an (jY wF (min (first+ls) stop-j-i) (j+i) os) pr' λao pr2=>post (j,ao) pr2) ⟨_,_,_,_,rfl,aj,by lia,ah.trans s2.fr,aq,w1.bind⟩ ?_ ?_
 .rintro i σ H' hi ⟨v3,v8,os,pr',rfl,z,ho,fr,ag,w'⟩;walk_at "r";have az:j+i<min (first+ls) stop:=by lia
  rw[show min (first+ls) stop-j-i=(min (first+ls) stop-j-(i+1))+1 by lia,jY.eq_2] at w';rw[show((j:Int)+i)=((j+i:Nat):Int) by lia];refine⟨.inl ⟨rfl,_,aB.of z⟩,c,pr',os,j+i,ol,_,rfl,ag,z,Ad.SA ad,hk,(w'.bind).U0<|IM os<|j+i,λr H3 as VL av hp=>?_⟩;obtain⟨au,w3⟩:=hp;have Z:=VL _ _ (Ad.SA ad) z;refine⟨ol,_,_,_,rfl,rfl,Z,rB<|by rw[aJ];lia,by lia,?_⟩;rw[Iv au];refine⟨_,_,gR os r<|j+i,as,rfl,aP,?_,λb o n h=>?_,av.upd Z ad,w3⟩
  .have:=bV (os:=os) (r:=r) (x:=j+i) |>.length_eq
   rw[this,aW,iC];lia
  .rw [aO<|aX h ai];exact VL _ _ n<|fr _ _ n h
 rintro σ H' ⟨v3,v8,os,pr',rfl,z,ho,fr,ag,w'⟩;walk_at "r";rw[show min (first+ls) stop-j-((min (first+ls) stop:Nat)-(j:Int)).toNat=0 by lia] at w';refine⟨cL<|by decide,λt2 ae=>?_⟩;exact q t2 ol _ (j,os) pr' (fr.trans (bE ae _).fr) ai (ag.mono<|bE ae _) aP (bE ae _ _ _ z) w'
theorem On(F:aN K "leap" "leap" J6 f fd)(T:Bt K mg Cf Cg Ca Cd Cc Cb Ch Cj Ci Ce Ck)
  (O:Mt P w K mg base aC Ca "ahead" 3 ["self","p","q"]<|bF Ca Cb<|eV mg)
 :aH P w K mg base aC 4 f fd ["asker","order","first","place"]<|kO Ca<|aG.mk Cb mg:=by
 refine F.ok V0 (by (intro _ _ _ _ h;cases h;subst_vars;rfl)) λai A outer s H vs Q E hr h=>?_
 have aj:=V0.nd;refine' ⟨_,(aM ?_<|aM ?_<|aM ?_<|aM ?_<|aM ?_<|bN ?_),?_⟩;walk_at "d";obtain⟨c,pr,ol,os,f,pl,post,rfl,st,aa,U,ag,hk,w,q⟩:=h;walk_at "r";have hd:(os.drop f).length=os.length-f:=dW ..;apply GF λ(lo hi:Nat) (_:Int) (H':Hp)=>L2.X2 λ(n:Nat) (pr':List A3)=>hi-lo<=n/\hi<=(os.drop f).length/\Fr c.S H H'/\aE Ca (aG.mk Cb mg) H' c pr'/\Wp c.n c.an (iq (os.drop f) pl n lo hi) pr' post
 .intro J;refine xa (λm σ H'=>L2.X4 λ(lo hi n:Nat) (pr':List A3)=>m=os.length+1-hi/\σ=[some<|.ref c.a,some<|.ref ol,some<|.int f,some<|.int pl,some<|.int<|(f:Int)+lo-1,some<|.int<|(f:Int)+hi,some<|.int<|(hi:Int)+1,none]/\lo<=hi/\(os.drop f).length<=n+hi/\Fr c.S H H'/\aE Ca (aG.mk Cb mg) H' c pr'/\Wp c.n c.an (pL (os.drop f) pl n lo hi) pr' λr pr2=>Wp c.n c.an (iq (os.drop f) pl (os.drop f).length r.1<|min r.2 (os.drop f).length) pr2 post) ⟨_,0,0,_,pr,rfl,by rw[Int.natCast_zero,Int.add_zero,QI],aK _,Dn _ _,.refl,st,w.bind⟩ ?_;rintro m σ H' ⟨lo,hi,n,pr',rfl,rfl,ah,hn,fr,s,w⟩;walk_at "r";have z:=fr _ _ U aa;refine⟨ol,_,rfl,.inl<|aB.of z,?_⟩;rw[aJ];by_cases hf:hi<(os.drop f).length
  .rw [Z9<|by lia];have ho:=qV hf;obtain⟨n,rfl⟩:∃n',n=n'+1:=⟨n-1,by lia⟩
   rw[pL.eq_2,Z9 hf] at w;generalize (os.drop f).getD hi 0=o at ho w;refine s.ha.Uw (by walk_at "l") ?_;refine dE (aB.of z) (by rw[show(f:Int)+hi=((f+hi:Nat):Int) by lia];exact rH ho) ?_;refine s.ahead hk w λb H2 pr2 f2 s2 w2=>?_;refine kn ?_;cases b
   .rw [Z8<|by decide];refine⟨ol,_,rfl,.inl<|aB.of<|f2 _ _ U z,_,_,rfl,?_⟩;rw[aJ,Fw,show min ((f:Int)+hi) os.length=(f:Int)+(hi:Nat) by lia];have w3:Wp c.n c.an (iq (os.drop f) pl (os.drop f).length lo<|min hi (os.drop f).length) pr2 post:=w2;rw[rM<|by lia] at w3;generalize (hi:Int)+1=wd;exact J lo hi wd H2 ⟨_,pr2,by lia,by lia,fr.trans f2,s2,w3⟩
   .rw [Z9 rfl];refine w8 ?_;walk_at "r";refine⟨.inr ⟨by decide,by decide⟩,os.length+1-(2*hi+1),by lia,hi+1,2*hi+1,n,pr2,rfl,?_,by lia,by lia,fr.trans f2,s2,w2⟩;rw[show(f:Int)+((hi+1:Nat):Int)-1=f+hi by lia,show(f:Int)+((2*hi+1:Nat):Int)=f+hi+(hi+1) by lia,show((2*hi+1:Nat):Int)+1=((hi:Int)+1)*2 by lia]
  .rw [Z8<|by lia];refine⟨ol,_,rfl,.inl<|aB.of z,_,_,rfl,?_⟩;have w3:Wp c.n c.an (iq (os.drop f) pl (os.drop f).length lo<|min hi (os.drop f).length) pr' post:=by
    cases n with
    |zero=>exact w
    |succ n=>rw[pL.eq_2,Z8 hf] at w;exact w
   rw[E6<|by lia] at w3;rw[aJ,Fw,show min ((f:Int)+hi) os.length=(f:Int)+((os.drop f).length:Nat) by lia];generalize (hi:Int)+1=wd;have e5:Wp c.n c.an (iq (os.drop f) pl (os.drop f).length lo (os.drop f).length) pr' post/\(os.drop f).length<=(os.drop f).length:=⟨w3,aK _⟩
   generalize XT:(os.drop f).length=h2 at e5⊢;rw[XT] at hd;exact J lo h2 wd H' ⟨h2,pr',by lia,by lia,fr,s,e5.1⟩
 rintro lo hi wd H1 ⟨n,pr1,hn,Z,ad,ac,w1⟩;refine bM ?_;walk_at "r";refine xa (λm σ H'=>L2.X5 λ(lo hi n:Nat) (v7:Option V) (pr':List A3)=>m=hi-lo/\σ=[some<|.ref c.a,some<|.ref ol,some<|.int f,some<|.int pl,some<|.int<|(f:Int)+lo-1,some<|.int<|(f:Int)+hi,some<|.int wd,v7]/\hi-lo<=n/\hi<=(os.drop f).length/\Fr c.S H H'/\aE Ca (aG.mk Cb mg) H' c pr'/\Wp c.n c.an (iq (os.drop f) pl n lo hi) pr' post) ⟨_,lo,hi,n,_,pr1,rfl,rfl,hn,Z,ad,ac,w1⟩ ?_;clear hn Z ad ac w1;rintro m σ H' ⟨lo,hi,n,v7,pr',rfl,rfl,hn,Z,fr,s,w⟩;walk_at "r";by_cases UA:lo<hi
 .rw [Z9<|by lia];refine w8 ?_;walk_at "r";refine⟨⟨by decide,by decide⟩,?_⟩;obtain⟨n,rfl⟩:∃n',n=n'+1:=⟨n-1,by lia⟩
  rw[iq.eq_2,Z9 UA] at w;have af:lo<=(lo+hi-1)/2:=by lia
  have ae:(lo+hi-1)/2<hi:=by lia
  rw[show((f:Int)+lo-1+(f+hi))/2=((f+(lo+hi-1)/2:Nat):Int) by lia];generalize (lo+hi-1)/2=mi at w af ae;have ho:=qV (os:=os) (f:=f) (i:=mi) (by lia);generalize (os.drop f).getD mi 0=o at ho w;have z:=fr _ _ U aa;refine s.ha.Uw (by walk_at "l") ?_;refine dE (aB.of z) (rH ho) ?_;refine s.ahead hk w λb H2 pr2 f2 s2 w2=>?_;refine kn ?_;cases b
  .rw [Z8<|by decide];exact⟨mi-lo,by lia,lo,mi,n,_,pr2,rfl,by rw[show((f+mi:Nat):Int)=(f:Int)+mi by lia],by lia,by lia,fr.trans f2,s2,w2⟩
  .rw [Z9 rfl];exact⟨hi-(mi+1),by lia,mi+1,hi,n,_,pr2,rfl,by rw[show(f:Int)+((mi+1:Nat):Int)-1=((f+mi:Nat):Int) by lia],by lia,by lia,fr.trans f2,s2,w2⟩
 .rw [Z8<|by lia];walk_at "r";have w4:post hi pr':=by
   cases n with
   |zero=>exact w
   |succ n=>rw[iq.eq_2,Z8 UA] at w;exact w
  rw[show(f:Int)+hi-f=((hi:Nat):Int) by lia];exact q hi H' pr' fr s w4
theorem M9(F:aN K "__init__" "Join.__init__" Lx f fd)(T:Bt K mg Cf Cg Ca Cd Cc Cb Ch Cj Ci Ce Ck)
 :aH P w K mg base aC 1 f fd ["self","asker","left","right"]<|kP Cd:=by
 refine F.ok pF (by (intro _ _ _ _ h;cases h;subst_vars;rfl)) λav A outer s H vs Q E hr h=>?_
 refine' ⟨_,(aM ?_ ?_),?_⟩;walk_at "d";obtain⟨x,dx,ak,al,ar,ls,rs,rfl,hx,ae,Z,q⟩:=h;walk_at "r";have as:al≠x:=λz=>by rw[z,hx] at ae;cases ae
 have ap:ar≠x:=λz=>by rw[z,hx] at Z;cases Z
 refine cM hx T.Dc T.Nv (by decide) λH2 x2 k2=>?_;walk_at "r";refine⟨al,_,rfl,.inl (aB.of<|by rw[k2 al as];exact ae),λla ac=>?_⟩;obtain⟨H3,e3,s3,h3⟩:=aI ac<|.lst<|nL ls;rw[e3];clear e3;refine⟨ar,_,rfl,.inl (aB.of<|s3 _ _<|by rw[k2 ar ap];exact Z),λra af=>?_⟩;obtain⟨H4,e4,s4,h4⟩:=aI af<|.lst<|nL rs;rw[e4];clear e4;refine⟨cL<|by decide,λsd U=>?_⟩;obtain⟨H5,e5,s5,h5⟩:=aI U<|.tup [.ref la,.ref ra];rw[e5];clear e5;have x5:=s5 _ _<|s4 _ _<|s3 _ _ x2;refine cM x5 T.Dc T.Nj GU λH6 x6 k6=>?_;walk_at "r";refine⟨cL<|by decide,λtk UT=>?_⟩;obtain⟨H7,e7,s7,h7⟩:=aI UT<|.lst [.int 0,.int 0];rw[e7];clear e7;have x7:=s7 _ _ x6;refine cM x7 T.Dc T.Nh FA λH8 x8 k8=>?_;walk_at "r";refine⟨cL<|by decide,λpc J=>?_⟩;obtain⟨H9,e9,s9,h9⟩:=aI J<|.lst [];rw[e9];clear e9;have x9:=s9 _ _ x8;refine cM x9 T.Dc T.Nu FC λHA xA kA=>?_;have O:la≠x:=OY<|aX x2 ac;have aa:ra≠x:=OY<|aX (s3 _ _ x2) af;have ai:sd≠x:=OY<|aX (s4 _ _<|s3 _ _ x2) U;have ag:tk≠x:=OY<|aX x6 UT;have ah:pc≠x:=OY<|aX x8 J;have ad:∀b o,b≠x->H5 b=some o->HA b=some o:=λb o n e=>by
  rw[kA b n];refine s9 _ _ ?_;rw[k8 b n];refine s7 _ _ ?_;rw[k6 b n];exact e
 have up:∀b o,b≠x->H b=some o->H5 b=some o:=λb o n e=>s5 _ _ (s4 _ _<|s3 _ _<|by rw[k2 b n];exact e);have ao:=ad la _ O<|s5 _ _<|s4 _ _ h3;have au:=ad ra _ aa<|s5 _ _ h4;have am:=ad sd _ ai h5;have g8:H8 tk=some (.lst [.int 0,.int 0]):=by rw[k8 tk ag];exact h7
 have aj:HA tk=some (.lst [.int 0,.int 0]):=by rw[kA tk ag];exact s9 _ _ g8
 have aq:HA pc=some (.lst []):=by rw[kA pc ah];exact h9
 have f6:∀b,b≠x->H6 b=none->H b=none:=λb n e=>by
  cases eb:H b with
  |none=>rfl
  |some o=>have:=up b o n eb;rw[k6 b n,this] at e;cases e
 have f8:∀b,b≠x->H8 b=none->H b=none:=λb n e=>f6 b n (s7.free<|by rw[<- k8 b n];exact e);have l5:H6 la=some (.lst<|nL ls):=by rw[k6 la O];exact s5 _ _<|s4 _ _ h3
 have r5:H6 ra=some (.lst<|nL rs):=by rw[k6 ra aa];exact s5 _ _ h4
 have l8:H8 la=some (.lst<|nL ls):=by rw[k8 la O];exact s7 _ _ l5
 have r8:H8 ra=some (.lst<|nL rs):=by rw[k8 ra aa];exact s7 _ _ r5
 refine q sd la ra tk pc HA (λb o n e=>ad b o n<|up b o n e) ?_ ?_ ?_ (f6 tk ag UT) (f8 pc ah J) ⟨(aZ.of xA<|cX HZ<|by decide).congr λf=>by simp only[pO,lkc],am,ao,au,aj,aq,aX g8 J,aX l5 UT,aX l8 J,aX r5 UT,aX r8 J⟩
 .cases eb:H sd with
  |none=>rfl
  |some o=>have:=s4 _ _ (s3 _ _<|by rw[k2 sd ai];exact eb);rw[this] at U;cases U
 .cases eb:H la with
  |none=>rfl
  |some o=>rw[k2 la O,eb] at ac;cases ac
 .cases eb:H ra with
  |none=>rfl
  |some o=>have:=s3 ra o (by rw[k2 ra aa];exact eb);rw[this] at af;cases af
theorem O3(F:aN K "has_more" "Join.has_more" Mf f fd)(T:Bt K mg Cf Cg Ca Cd Cc Cb Ch Cj Ci Ce Ck)
 :aH P w K mg base aC 1 f fd ["self","side"]<|dO Cd:=by
 refine F.ok jG (by (intro _ _ _ _ h;cases h;subst_vars;rfl)) λz A outer s H vs Q E J h=>?_
 refine' ⟨_,(cD ?_),?_⟩;walk_at "d";obtain⟨b,jn,ak,sd,ma,ta,tk,pc,ms,ts,i,j,dn,rfl,js,q⟩:=h;walk_at "r";refine js.hj.get T.Dc T.Nh (by walk_at "l")<|dE (aB.of js.UT) zS ?_;refine js.hj.get T.Dc T.Nj (by walk_at "l")<|ib (bG.of js.Ws) zS ⟨ma,_,rfl,.inl<|aB.of js.WC,?_⟩;rw[aJ];refine wW ?_;have e:decide ((i:Int)<ms.length)=decide (i<ms.length):=by rw[decide_eq_decide];lia
 rw[<- e] at q;exact q
theorem NI(F:aN K "front" "Join.front" Mn f fd)(T:Bt K mg Cf Cg Ca Cd Cc Cb Ch Cj Ci Ce Ck)
 :aH P w K mg base aC 1 f fd ["self","side"]<|iL Cd:=by
 refine F.ok lY (by (intro _ _ _ _ h;cases h;subst_vars;rfl)) λz A outer s H vs Q E J h=>?_
 refine' ⟨_,(cD ?_),?_⟩;walk_at "d";obtain⟨b,jn,ak,sd,ma,ta,tk,pc,ms,ts,i,j,dn,x,rfl,js,hx,q⟩:=h;walk_at "r";refine js.hj.get T.Dc T.Nj (by walk_at "l")<|ib (bG.of js.Ws) zS ?_;refine js.hj.get T.Dc T.Nh (by walk_at "l")<|dE (aB.of js.UT) zS ?_;exact dE (aB.of js.WC) (rH hx) q
theorem M6(F:aN K "take_on" "Join.take_on" Ma f fd)(T:Bt K mg Cf Cg Ca Cd Cc Cb Ch Cj Ci Ce Ck)
 :aH P w K mg base aC 1 f fd ["self","side","more"]<|dN Cd:=by
 refine F.ok eS (by (intro _ _ _ _ h;cases h;subst_vars;rfl)) λac A outer s H vs Q E hr h=>?_
 have aa:=eS.nd;refine' ⟨_,(aM ?_ ?_),?_⟩;walk_at "d";obtain⟨b,jn,ak,sd,ma,ta,tk,pc,ms,ts,i,j,dn,m,rfl,js,hm,hl,q⟩:=h;walk_at "r";refine js.hj.get T.Dc T.Nh (by walk_at "l")<|dE (aB.of js.UT) zS ?_;walk_at "r";refine js.hj.get T.Dc T.Nu (by walk_at "l") ?_;walk_at "r";refine⟨.inl ⟨rfl,_,aB.of js.Wv⟩,?_⟩;refine js.hj.get T.Dc T.Nj (by walk_at "l")<|ib (bG.of js.Ws) zS ?_;walk_at "r";refine va (aB.of js.WC) λc hc=>?_;have Z:dS (nL ms) (some (i:Int)) (some<|(i:Int)+m)=nL ((ms.drop i).take m):=by
  unfold dS;rw[show(i:Int)+m=((i+m:Nat):Int) by lia,HT.sIx_nat,HT.sIx_nat,aJ,rM (show i<=ms.length by lia),rM (show i+m<=ms.length by lia),E5];unfold nL;rw[<- BU,<- BV]
 rw[Z];obtain⟨H1,U,s1,h1⟩:=aI hc<|.lst<|nL<|(ms.drop i).take m;rw[U];clear U;have J:=js.mono s1;refine⟨pc,c,_,_,rfl,rfl,J.Wv,h1,cL<|by rw[aJ,aJ,gV,dW];lia,?_⟩;have O:tk≠pc:=js.ne.1;have z:JS Cd (upd H1 pc<|.lst<|nL dn++nL ((ms.drop i).take m)) b jn ak sd ma ta tk pc ms ts i j<|dn++(ms.drop i).take m:=J.keep (Fr.upd<|bA _ aU) (by rw[aO O];exact J.UT) (by rw[aP];unfold nL;rw[bX]);have f1:Fr [tk,pc] H<|upd H1 pc<|.lst<|nL dn++nL ((ms.drop i).take m):=s1.fr.trans<|Fr.upd<|bA _ aU;generalize upd H1 pc (.lst<|nL dn++nL ((ms.drop i).take m))=H2 at z f1⊢;refine z.hj.get T.Dc T.Nh (by walk_at "l") ?_;walk_at "r";refine⟨tk,_,_,_,rfl,rfl,z.UT,Ii (by cases b<;>decide) (by rw[DX];cases b<;>decide),?_⟩;rw[DW,show(i:Int)+m=((i+m:Nat):Int) by lia];refine q _ (f1.trans<|Fr.upd aU)<|z.keep (Fr.upd aU) aP<|by rw[aO<|OY O];exact z.Wv
theorem Oj(F:aN K "take_rest" "Join.take_rest" Mz f fd)(T:Bt K mg Cf Cg Ca Cd Cc Cb Ch Cj Ci Ce Ck)
  (z:Mt P w K mg base aC Cd "take_on" 1 ["self","side","more"]<|dN Cd)
 :aH P w K mg base aC 2 f fd ["self","side"]<|dY Cd:=by
 refine F.ok iQ (by (intro _ _ _ _ h;cases h;subst_vars;rfl)) λU A outer s H vs Q E Z h=>?_
 refine' ⟨_,(cD ?_),?_⟩;walk_at "d";obtain⟨b,jn,ak,sd,ma,ta,tk,pc,ms,ts,i,j,dn,rfl,js,hi,hl,q⟩:=h;walk_at "r";refine js.hj.Uw (by walk_at "l") ?_;refine js.hj.get T.Dc T.Nj (by walk_at "l")<|ib (bG.of js.Ws) zS ⟨ma,_,rfl,.inl<|aB.of js.WC,?_⟩;refine js.hj.get T.Dc T.Nh (by walk_at "l")<|dE (aB.of js.UT) zS ?_;walk_at "r";rw[aJ,show(ms.length:Int)-i=((ms.length-i:Nat):Int) by lia];refine⟨b,jn,ak,sd,ma,ta,tk,pc,ms,ts,i,j,dn,ms.length-i,rfl,js,by lia,hl,λH' O J=>?_⟩;rw[show i+(ms.length-i)=ms.length by lia,oR<|by rw[dW];exact aK _] at J;exact q H' O J
theorem Ov(F:aN K "win" "Join.win" LO f fd)(T:Bt K mg Cf Cg Ca Cd Cc Cb Ch Cj Ci Ce Ck)
  (J:Mt P w K mg base aC Cd "take_on" 1 ["self","side","more"]<|dN Cd)
  (O:Mt P w K mg base aC Ca "ahead" 3 ["self","p","q"]<|bF Ca Cb<|eV mg)
  (Z:Mt P w K mg base aC Cd "front" 1 ["self","side"]<|iL Cd)
 :aH P w K mg base aC 4 f fd ["self"]<|oS Ca (aG.mk Cb mg) Cd:=by
 refine F.ok jQ (by (intro _ _ _ _ h;cases h;subst_vars;rfl)) λad A outer s H vs Q E hr h=>?_
 have ae:=jQ.nd;refine' ⟨_,(aM ?_ ?_),?_⟩;walk_at "d";obtain⟨c,pr,jn,sd,la,ra,tk,pc,ls,rs,dn,i,j,x,y,k,post,rfl,st,js,nx,hx,hy,hk,ac,aa,w,q⟩:=h;walk_at "r";refine js.hj.get T.Dc T.Nv (by walk_at "l")<|st.ha.Uw (by walk_at "l") ?_;refine js.hj.Uw (by walk_at "l") ⟨true,jn,c.a,sd,la,ra,tk,pc,ls,rs,i,j,dn,x,rfl,js,hx,?_⟩;refine js.hj.Uw (by walk_at "l") ⟨false,jn,c.a,sd,ra,la,tk,pc,rs,ls,j,i,dn,y,rfl,js.swap,hy,?_⟩;refine st.ahead hk w λb H2 pr2 f2 s2 w2=>?_;have z:=js.Xi nx f2;have hi:=(gX.mp hx).1;have hj:=(gX.mp hy).1;refine kn ?_;cases b
 .rw [Z8<|by decide];walk_at "r";refine z.hj.Uw (by walk_at "l") ⟨false,jn,c.a,sd,ra,la,tk,pc,rs,ls,j,i,dn,1,rfl,z.swap,by lia,by lia,λH3 f3 U=>?_⟩;rw[K2 hy] at U;exact q false H3 pr2 ((Ex f2).trans<|vZ f3) (s2.VQ z nx f3) U.swap w2
 .rw [Z9 rfl];walk_at "r";refine z.hj.Uw (by walk_at "l") ⟨true,jn,c.a,sd,la,ra,tk,pc,ls,rs,i,j,dn,1,rfl,z,by lia,by lia,λH3 f3 U=>?_⟩;rw[K2 hx] at U;exact q true H3 pr2 ((Ex f2).trans<|vZ f3) (s2.VQ z nx f3) U w2
theorem NK(F:aN K "leap_on" "Join.leap_on" L9 f fd)(T:Bt K mg Cf Cg Ca Cd Cc Cb Ch Cj Ci Ce Ck)
  (ad:Fn P w K mg base aC "leap" 4 ["asker","order","first","place"]<|kO Ca<|aG.mk Cb mg)
  (O:Mt P w K mg base aC Cd "take_on" 1 ["self","side","more"]<|dN Cd)
  (J:Mt P w K mg base aC Cd "has_more" 1 ["self","side"]<|dO Cd)
  (U:Mt P w K mg base aC Cd "front" 1 ["self","side"]<|iL Cd)
 :aH P w K mg base aC 5 f fd ["self","side"]<|gF Ca (aG.mk Cb mg) Cd:=by
 refine F.ok eT (by (intro _ _ _ _ h;cases h;subst_vars;rfl)) λag A outer s H vs Q E hr h=>?_
 have ah:=eT.nd;refine' ⟨_,(aM ?_<|bN ?_),?_⟩;walk_at "d";obtain⟨c,pr,jn,sd,ma,ta,tk,pc,b,ms,ts,dn,i,j,y,post,rfl,st,js,nx,hy,hi,hk,hd,w,q⟩:=h;walk_at "r";have hj:=(gX.mp hy).1;refine Bu λo ho=>?_;obtain rfl:o=sv (!b):=by
  rcases ho with ⟨h,e⟩|⟨h,e⟩
  .revert h;cases b<;>intro h
   .cases h
   .exact e
  .revert h;cases b<;>intro h
   .exact e
   .exact absurd rfl h
 refine bM ?_;walk_at "r";refine js.hj.Uw (by walk_at "l") ?_;refine js.hj.get T.Dc T.Nv (by walk_at "l") ?_;refine js.hj.get T.Dc T.Nj (by walk_at "l")<|ib (bG.of js.Ws) zS ?_;refine js.hj.get T.Dc T.Nh (by walk_at "l")<|dE (aB.of js.UT) zS ?_;refine js.hj.Uw (by walk_at "l") ⟨!b,jn,c.a,sd,ta,ma,tk,pc,ts,ms,j,i,dn,y,rfl,js.swap,hy,?_⟩;refine⟨c,pr,ma,ms,i,y,_,rfl,st,js.WC,Ad.SA nx.n1.2.2.1,hi,hk,w.U0<|KR _ _,λk H2 pr2 f2 s2 hw=>?_⟩;obtain⟨af,hp⟩:=hw;rw[dW] at af;have ac:=js.Xi nx f2;refine⟨b,jn,c.a,sd,ma,ta,tk,pc,ms,ts,i,j,dn,k,rfl,ac,by lia,by lia,λH3 f3 z=>?_⟩;have s3:=s2.VQ ac nx f3;have Z:=(Ex f2 (tk:=tk) (pc:=pc)).trans<|vZ f3;refine z.hj.Uw (by walk_at "l") ⟨b,jn,c.a,sd,ma,ta,tk,pc,ms,ts,i+k,j,_,rfl,z,?_⟩;refine kn ?_;by_cases hz:i+k<ms.length
 .rw [decide_eq_true hz,Z9 rfl];walk_at "r";refine z.hj.Uw (by walk_at "l") ⟨!b,jn,c.a,sd,ta,ma,tk,pc,ts,ms,j,i+k,_,1,rfl,z.swap,by lia,by rw[aW,gV,dW];lia,λH4 f4 ae=>?_⟩;have aa:=ae.swap;rw[Bool.not_not,K2 hy] at aa;refine q k H4 pr2 (Z.trans<|vZ f4) (s3.VQ z nx f4) (by lia) ?_ hp;rw[Z9 hz,Z9 hz];exact aa
 .rw [decide_eq_false hz,Z8<|by decide];refine q k H3 pr2 Z s3 (by lia) ?_ hp;rw[Z8 hz,Z8 hz,gW];exact z
theorem M7(F:aN K "joined" "joined" KY f fd)(T:Bt K mg Cf Cg Ca Cd Cc Cb Ch Cj Ci Ce Ck)
  (aa:Mt P w K mg base aC Cd "take_rest" 2 ["self","side"]<|dY Cd)
  (ac:Mt P w K mg base aC Cd "has_more" 1 ["self","side"]<|dO Cd)
  (ai:Mt P w K mg base aC Cd "win" 4 ["self"]<|oS Ca (aG.mk Cb mg) Cd)
  (ad:Mt P w K mg base aC Cd "leap_on" 5 ["self","side"]<|gF Ca (aG.mk Cb mg) Cd)
  (az:Kl P w K mg base aC "Join" Cd 1 ["self","asker","left","right"]<|kP Cd)
 :aH P w K mg base aC 6 f fd ["asker","left","right"]<|cV Ca<|aG.mk Cb mg:=by
 refine F.ok Vu (by (intro _ _ _ _ h;cases h;subst_vars;rfl)) λba A outer s H vs Q E hr h=>?_
 have b8:=Vu.nd;refine' ⟨_,(aM ?_ ?_),?_⟩;walk_at "d";obtain⟨c,pr,al,ar,ls,rs,post,rfl,st,ax,aq,hk,b7,w,q⟩:=h;walk_at "r";intro jn dj aj b5 b4;have au:upd H dj (.own jn) jn=none:=by rw[aO<|OY b4];exact aj
 have s1:aD H<|upd (upd H dj<|.own jn) jn<|.ins Cd dj []:=(bE b5 _).trans<|bE au _;refine⟨jn,dj,c.a,al,ar,ls,rs,rfl,aP,s1 _ _ ax,s1 _ _ aq,λsd la ra tk pc H2 k2 b6 b0 b2 aw av js=>⟨rfl,?_⟩⟩;have u2:aD H H2:=λb o h=>k2 b o (aX h aj)<|s1 _ _ h;have b3:=st.mono u2;have fH:∀{b:OL},upd (upd H dj<|.own jn) jn (.ins Cd dj []) b=none->H b=none:=λh=>s1.free h;have nx:NX c jn sd la ra tk pc:=⟨⟨st.off aj,st.off<|fH b6,st.off<|fH b0,st.off<|fH b2,st.off<|fH aw,st.off<|fH av⟩⟩
 have ay:∀{H':Hp},Fr [c.a,c.lg,c.tl,tk,pc] H2 H'->Fr c.S H H':=λf b o n h=>f b o (λz=>by
  rcases bC.mp z with z|z
  .exact n (by rw[z];exact aU)
  rcases bC.mp z with z|z
  .exact n (by rw[z];exact bA _ aU)
  rcases bC.mp z with z|z
  .exact n (by rw[z];exact bA _<|bA _ aU)
  rcases bC.mp z with z|z
  .exact aX h (fH aw) z
  .exact aX h (fH av) (bD.mp z))<|u2 _ _ h
 refine xa (λm σ H'=>L2.X8 λ(i j w n:Nat) (s:Bool) (v6:Option V) (dn:List Nat) (pr':List A3)=>m=(ls.length-i)+(rs.length-j)/\σ=[some<|.ref c.a,some<|.ref al,some<|.ref ar,some<|.ref jn,some<|.int w,some<|.int<|sv s,v6]/\i<=ls.length/\j<=rs.length/\dn.length=i+j/\(ls.length-i)+(rs.length-j)<=n/\Fr [c.a,c.lg,c.tl,tk,pc] H2 H'/\aE Ca (aG.mk Cb mg) H' c pr'/\JS Cd H' true jn c.a sd la ra tk pc ls rs i j dn/\Wp c.n c.an (u9 n s w (ls.drop i) (rs.drop j) dn) pr' post) ⟨_,0,0,0,_,true,_,[],pr,rfl,rfl,cE _,cE _,rfl,aK _,.refl,b3,js,w⟩ ?_;rintro m σ H' ⟨i,j,w,n,s,v6,dn,pr',rfl,rfl,hi,hj,b9,hn,fr,s',U,hw⟩;walk_at "r";apply GD<|¬ (i<ls.length/\j<rs.length)
 .intro ae;refine U.hj.Uw (by walk_at "l") ⟨true,jn,c.a,sd,la,ra,tk,pc,ls,rs,i,j,dn,rfl,U,?_⟩;refine kn ?_;by_cases Xp:i<ls.length
  .rw [decide_eq_true Xp,Z9 rfl];refine U.hj.Uw (by walk_at "l") ⟨false,jn,c.a,sd,ra,la,tk,pc,rs,ls,j,i,dn,rfl,U.swap,?_⟩;refine kn ?_;by_cases Xo:j<rs.length
   .rw [decide_eq_true Xo,Z9 rfl];refine w8 ?_;walk_at "r";have hx:=bL Xp;have hy:=bL Xo;generalize ls[i]=x at hx;generalize rs[j]=y at hy;obtain⟨n,rfl⟩:∃n',n=n'+1:=⟨n-1,by lia⟩
    rw[EZ hx,EZ hy,u9] at hw;refine U.hj.Uw (by walk_at "l") ⟨c,pr',jn,sd,la,ra,tk,pc,ls,rs,dn,i,j,x,y,_,post,rfl,s',U,nx,hx,hy,hk,by lia,by lia,hw,λb H3 ah f3 s3 O w3=>?_⟩;walk_at "r";apply Fx λ(k:Int)=>k=((if b=s then w+1 else 1:Nat):Int)
    .intro Z;by_cases hs:sv b=sv s
     .rw [Z9 hs];obtain⟨k,ao⟩:∃k:Int,k=w+1:=⟨_,rfl⟩
      rw[<- ao];refine Z k ?_;rw[ao,Z9<|DH hs];rfl
     .rw [Z8 hs];refine Z 1 ?_;rw[Z8 λz=>hs<|by rw[z]];rfl
    rintro k rfl
    skip
    generalize (if b=s then w+1 else 1:Nat)=w' at w3;have ag:(dn++[if b then x else y]).length=dn.length+1:=by rw[aW];rfl
    by_cases h4:w'=4
    .rw [Z9<|by lia];rw[Z9 h4] at w3;cases b
     .rw [Z8<|by decide] at w3;refine O.hj.Uw (by walk_at "l") ⟨c,ah,jn,sd,ra,la,tk,pc,false,rs,ls,_,j+1,i,x,_,rfl,s3,O.swap,nx.swap,hx,by lia,hk,by rw[ag];lia,w3.bind,λk H4 af f4 s4 b1 J w4=>?_⟩;have el:(rs.drop<|j+1).length=rs.length-(j+1):=dW ..;have ed:rs.drop (j+1+k)=(rs.drop<|j+1).drop k:=by rw[Ss]
      by_cases hz:j+1+k<rs.length
      .rw [Z9 hz,Z9 hz] at J;rw[Z9<|by lia] at w4;exact⟨(ls.length-(i+1))+(rs.length-(j+1+k)),by lia,i+1,j+1+k,0,n,false,_,_,af,rfl,rfl,by lia,by lia,by simp;lia,by lia,(fr.trans f3).trans f4,s4,J.swap,by rw[ed];simpa using w4⟩
      .rw [Z8 hz,Z8 hz,gW] at J;rw[Z8<|by lia] at w4;exact⟨(ls.length-i)+(rs.length-(j+1+k)),by lia,i,j+1+k,0,n,false,_,_,af,rfl,rfl,by lia,by lia,by simp;lia,by lia,(fr.trans f3).trans f4,s4,J.swap,by rw[ed,EZ hx];simpa using w4⟩
     .rw [Z9 rfl] at w3;refine O.hj.Uw (by walk_at "l") ⟨c,ah,jn,sd,la,ra,tk,pc,true,ls,rs,_,i+1,j,y,_,rfl,s3,O,nx,hy,by lia,hk,by rw[ag];lia,w3.bind,λk H4 af f4 s4 b1 J w4=>?_⟩;have el:(ls.drop<|i+1).length=ls.length-(i+1):=dW ..;have ed:ls.drop (i+1+k)=(ls.drop<|i+1).drop k:=by rw[Ss]
      by_cases hz:i+1+k<ls.length
      .rw [Z9 hz,Z9 hz] at J;rw[Z9<|by lia] at w4;exact⟨(ls.length-(i+1+k))+(rs.length-(j+1)),by lia,i+1+k,j+1,0,n,true,_,_,af,rfl,rfl,by lia,by lia,by simp;lia,by lia,(fr.trans f3).trans f4,s4,J,by rw[ed];simpa using w4⟩
      .rw [Z8 hz,Z8 hz,gW] at J;rw[Z8<|by lia] at w4;exact⟨(ls.length-(i+1+k))+(rs.length-j),by lia,i+1+k,j,0,n,true,_,_,af,rfl,rfl,by lia,by lia,by simp;lia,by lia,(fr.trans f3).trans f4,s4,J,by rw[ed,EZ hy];simpa using w4⟩
    .rw [Z8<|by lia];rw[Z8 h4] at w3;cases b
     .rw [Z8<|by decide] at w3;exact⟨(ls.length-i)+(rs.length-(j+1)),by lia,i,j+1,w',n,false,_,_,ah,rfl,rfl,by lia,by lia,by rw[ag];lia,by lia,fr.trans f3,s3,O,by rw[EZ hx];exact w3⟩
     .rw [Z9 rfl] at w3;exact⟨(ls.length-(i+1))+(rs.length-j),by lia,i+1,j,w',n,true,_,_,ah,rfl,rfl,by lia,by lia,by rw[ag];lia,by lia,fr.trans f3,s3,O,by rw[EZ hy];exact w3⟩
   .rw [decide_eq_false Xo,Z8<|by decide];exact ae λz=>Xo z.2
  .rw [decide_eq_false Xp,Z8<|by decide];exact ae λz=>Xp z.1
 intro ap;have am:post (dn++ls.drop i++rs.drop j) pr':=yJ ap hi hj hw;refine U.hj.Uw (by walk_at "l") ⟨true,jn,c.a,sd,la,ra,tk,pc,ls,rs,i,j,dn,rfl,U,hi,by lia,λH3 f3 O=>?_⟩;have s3:=s'.VQ U nx f3;refine O.hj.Uw (by walk_at "l") ⟨false,jn,c.a,sd,ra,la,tk,pc,rs,ls,j,ls.length,_,rfl,O.swap,hj,by rw[aW,dW];lia,λH4 f4 J=>?_⟩;have s4:=s3.VQ O nx f4;refine J.hj.get T.Dc T.Nu (by walk_at "l") ⟨pc,_,rfl,.inl<|aB.of J.Wv,λl hl=>?_⟩;have as:Fr [c.a,c.lg,c.tl,tk,pc] H2 H4:=(fr.trans<|vZ f3).trans<|vZ f4;exact q l _ _ pr' ((ay as).trans (bE hl _).fr) (s4.free (ay as) hl) aP (s4.mono<|bE hl _) am
theorem O6(F:aN K "grade" "grade" Kz f fd)(T:Bt K mg Cf Cg Ca Cd Cc Cb Ch Cj Ci Ce Ck)
 :aH P w K mg base aC 1 f fd ["many","first","middle","beyond"]<|kR:=by
 refine F.ok Vz (by (intro _ _ _ _ h;cases h;subst_vars;rfl)) λac A outer s H vs Q E hr h=>?_
 have ad:=Vz.nd;refine' ⟨_,(aM ?_<|aM ?_<|aM ?_<|aM (Hj PJ (lR EK (eY IL ?_ ?_) (eY IL ?_ ?_)<|gL _) ?_) ?_),?_⟩;walk_at "d";obtain⟨m,a,b,c,rfl,h1,hm,ha,Z,J,z,q⟩:=h;walk_at "r";refine⟨.inl ⟨by decide,by decide⟩,.inl ⟨by decide,by decide⟩,?_⟩;refine xa (λn σ H'=>∃p:Nat,n=240-p/\H'=H/\σ=[some<|.int m,some<|.int a,some<|.int b,some<|.int c,some<|.int<|(a+b)*2^p,some<|.int<|(b+c)*2^p,some<|.int p]/\1<=p/\p<=240/\∀r,1<=r->r<p->Gr.qt m (a+b) r=Gr.qt m (b+c) r) ⟨_,1,rfl,rfl,?_,aK _,by decide,λr h1 h2=>by lia⟩ ?_
 .rw [Int.pow_one,Int.mul_comm<|a+b,Int.mul_comm<|b+c];rfl
 rintro n σ H' ⟨p,rfl,rfl,rfl,U,O,hq⟩;walk_at "r";refine⟨.inl ⟨by decide,by decide⟩,⟨by lia,by lia⟩,.inl ⟨by decide,by decide⟩,⟨by lia,by lia⟩,?_⟩;split
 .rename_i he;have aa:p<240:=by
   rcases Nat.lt_or_ge p 240 with l|l
   .exact l
   .exact absurd he (Gr.qt_ne (by lia) (by lia)<|DV hm l)
  refine w8 ?_;walk_at "r";refine⟨.inl ⟨by decide,by decide⟩,.inl ⟨by decide,by decide⟩,?_⟩;walk_at "r";refine⟨_,?_,p+1,rfl,?_,by lia,by lia,λr h1 h2=>?_⟩
  .lia
  .rw [dbl,dbl];rfl
  .rcases Nat.lt_or_ge r p with l|l
   .exact hq r h1 l
   .obtain rfl:r=p:=by lia
    exact he
 .rename_i he;exact q p ⟨U,hq,he⟩ O
theorem NA(F:eQ K "__init__" "Pile.__init__" Ly f fd dv)(T:Bt K mg Cf Cg Ca Cd Cc Cb Ch Cj Ci Ce Ck)
  (Z:Mt P w K mg base aC Ca "many" 1 ["self"]<|dB Ca)
 :aH P w K mg base aC 2 f fd ["self","asker","least","part"]<|dZ Ca Cc:=by
 refine F.ok pE (by (intro _ _ _ _ h;cases h;subst_vars;rfl)) λaw A outer s H vs Q E hr h=>?_
 refine' ⟨_,(aM ?_<|aM ?_<|aM ?_<|bN<|aM ?_<|bN ?_),?_⟩;walk_at "d";obtain⟨x,dx,a,ls,s,e,pz,rfl,hx,aa,q⟩:=h;walk_at "r";refine cM hx T.Da T.Nr (by decide) λH2 x2 k2=>?_;walk_at "r";refine cM x2 T.Da T.N1 GU λH3 x3 k3=>?_;walk_at "r";have u3:∀b o,b≠x->H b=some o->H3 b=some o:=λb o n h=>by rw[k3 b n,k2 b n];exact h
 apply Fx λH4:Hp=>H4 x=some (.ins Cc dx<|aL "start" (.int s)<|aL "least" (.int ls)<|aL "asker" (.ref a) [])/\∀b,b≠x->H4 b=H3 b
 .intro J;rcases aa with ⟨pt,hz,O⟩|⟨hz,aj,aq,rl,ru,m,n,tl,us,ha,ae,ao⟩
  .rw [Z8<|by rw[hz];simp];have ah:∀{Q':VK},Q' (.int s) H3->vG K pz (.int 0) H3 Q':=λh=>by rw[hz];exact ib (bG.of<|u3 _ _ (λz=>by rw[z,hx] at O;cases O) O) (cO (by decide) rfl) h
   exact ah<|cM x3 T.Da T.Nf FA λH4 x4 k4=>J H4 ⟨x4,k4⟩
  .rw [Z9 hz];exact cM x3 T.Da T.Nf FA λH4 x4 k4=>J H4 ⟨by rw[aj];exact x4,k4⟩
 rintro H4 ⟨x4,k4⟩;refine bM ?_;walk_at "r";have u4:∀b o,b≠x->H b=some o->H4 b=some o:=λb o n h=>by rw[k4 b n];exact u3 b o n h
 apply Fx λH5:Hp=>H5 x=some (.ins Cc dx<|aL "end" (.int e)<|aL "start" (.int s)<|aL "least" (.int ls)<|aL "asker" (.ref a) [])/\∀b,b≠x->H5 b=H4 b
 .intro J;rcases aa with ⟨pt,hz,O⟩|⟨hz,aj,aq,rl,ru,m,n,tl,us,ha,ae,ao⟩
  .rw [Z8<|by rw[hz];simp];have ah:∀{Q':VK},Q' (.int e) H4->vG K pz (.int 1) H4 Q':=λh=>by rw[hz];exact ib (bG.of<|u4 _ _ (λz=>by rw[z,hx] at O;cases O) O) (cO (by decide) rfl) h
   exact ah<|cM x4 T.Da T.Nk FC λH5 x5 k5=>J H5 ⟨x5,k5⟩
  .rw [Z9 hz];have au:rl≠x:=λz=>by rw[z,hx] at ae;cases ae
   have am:aZ H4 a Ca<|fA rl ru m n tl:=let ⟨d1,f1,e1,e2,e3⟩:=ha.ex;⟨d1,f1,u4 _ _ aq e1,e2,e3⟩
   refine am.Uw (by walk_at "l") ⟨a,rl,ru,tl,m,n,us,rfl,am,u4 _ _ au ae,?_⟩;rw[ao];exact cM x4 T.Da T.Nk FC λH5 x5 k5=>J H5 ⟨x5,k5⟩
 clear aa;rintro H5 ⟨x5,k5⟩;have u5:∀b o,b≠x->H b=some o->H5 b=some o:=λb o n h=>by rw[k5 b n];exact u4 b o n h
 clear u3 u4 k2 k3 k4 k5 x2 x3 x4;refine bM ?_;walk_at "r";refine uO x5 T.Da T.Nf (by simp only[pO,lkc];walk_at "l") ?_;refine cM x5 T.Da T.Nl HZ λH6 x6 k6=>?_;walk_at "r";refine⟨cE _,λfs ag=>?_⟩;obtain⟨H7,e7,s7,h7⟩:=aI ag<|.lst [];rw[e7];clear e7;refine cM (s7 _ _ x6) T.Da T.Nc JE λH8 x8 k8=>?_;walk_at "r";refine⟨cE _,λod ad=>?_⟩;obtain⟨H9,e9,s9,h9⟩:=aI ad<|.lst [];rw[e9];clear e9;refine cM (s9 _ _ x8) T.Da T.Na Gv λHA xA kA=>?_;walk_at "r";refine⟨cE _,λgr U=>?_⟩;obtain⟨HB,eB,sB,hB⟩:=aI U<|.lst [];rw[eB];clear eB;refine cM (sB _ _ xA) T.Da T.Nm Gu λHC xC kC=>?_;have ac:fs≠x:=OY<|aX x6 ag;have af:od≠x:=OY<|aX x8 ad;have ap:gr≠x:=OY<|aX xA U;have h8:H8 fs=some (.lst []):=by rw[k8 fs ac];exact h7
 have as:HA fs=some (.lst []):=by rw[kA fs ac];exact s9 _ _ h8
 have ai:HA od=some (.lst []):=by rw[kA od af];exact h9
 have f6:∀b,b≠x->H6 b=none->H b=none:=λb n e=>by
  cases eb:H b with
  |none=>rfl
  |some o=>have:=u5 b o n eb;rw[k6 b n,this] at e;cases e
 have f8:∀b,b≠x->H8 b=none->H b=none:=λb n e=>f6 b n (s7.free<|by rw[<- k8 b n];exact e);have av:∀b,b≠x->HA b=none->H b=none:=λb n e=>f8 b n (s9.free<|by rw[<- kA b n];exact e);refine q fs od gr HC (λb o n h=>?_) (f6 fs ac ag) (f8 od af ad) (av gr ap U) ⟨(aZ.of xC<|cX Gs<|by decide).congr λf=>by simp only[pO,lkc],by rw[kC fs ac];exact sB _ _ as,by rw[kC od af];exact sB _ _ ai,by rw[kC gr ap];exact hB,trivial,⟨aX h8 ad,aX as U,aX ai U⟩,λb hb=>by cases hb⟩;rw[kC b n];refine sB _ _ ?_;rw[kA b n];refine s9 _ _ ?_;rw[k8 b n];refine s7 _ _ ?_;rw[k6 b n];exact u5 b o n h
theorem Om(F:aN K "beyond_of" "Pile.beyond_of" MA f fd)(T:Bt K mg Cf Cg Ca Cd Cc Cb Ch Cj Ci Ce Ck)
 :aH P w K mg base aC 1 f fd ["self","number"]<|eL Cc:=by
 refine F.ok iP (by (intro _ _ _ _ h;cases h;subst_vars;rfl)) λJ A outer s H vs Q E O h=>?_
 refine' ⟨_,(cD ?_),?_⟩;walk_at "d";obtain⟨x,a,fs,od,gr,ls,s,e,r,oa,A,p,B,gs,rfl,z,q⟩:=h;walk_at "r";refine z.hp.get T.Da T.Nc (by walk_at "l") ⟨fs,_,rfl,.inl<|aB.of z.VY,?_⟩;rw[aJ,aJ,aW,bS];cases B with
 |nil=>
  rw[Z8<|by rw[tD];lia];exact z.hp.get T.Da T.Nl (by walk_at "l") q
 |cons p2 B=>
  rw[Z9<|by rw[bS];lia];refine z.hp.get T.Da T.Nc (by walk_at "l") ?_;rw[show(A.length:Int)+1=((A.length+1:Nat):Int) by lia];exact dE (aB.of z.VY) (rH<|by rw[dF,Hg];rfl) q
theorem Oy(F:aN K "is_due_beneath" "Pile.is_due_beneath" Mw f fd)(T:Bt K mg Cf Cg Ca Cd Cc Cb Ch Cj Ci Ce Ck)
 :aH P w K mg base aC 1 f fd ["self"]<|tN Cc:=by
 refine F.ok eO (by (intro _ _ _ _ h;cases h;subst_vars;rfl)) λU A outer s H vs Q E Z h=>?_
 refine' ⟨_,(cD ?_),?_⟩;walk_at "d";obtain⟨x,a,fs,od,gr,ls,s,e,r,oa,ps,gs,rfl,z,q⟩:=h;walk_at "r";refine z.hp.get T.Da T.Nm (by walk_at "l") ⟨gr,_,rfl,.inl<|aB.of z.WD,?_⟩;rw[aJ];by_cases h2:2<=gs.length
 .rw [Z9<|by lia];obtain⟨G,g1,J,rfl⟩:=xp h2;have O:=z.WD;rw[show nL (G++[g1,J])=nL G++[.int (g1:Nat),.int (J:Nat)] by unfold nL;rw[bX];rfl] at O;refine z.hp.get T.Da T.Nm (by walk_at "l")<|dE (aB.of O) EH ?_;refine z.hp.get T.Da T.Nm (by walk_at "l") ?_;rw[show nL G++[V.int (g1:Nat),V.int (J:Nat)]=(nL G++[.int (g1:Nat)])++[.int (J:Nat)] by rw[jM];rfl] at O;refine dE (aB.of O) zB<|wW ?_;rw[zi] at q;have e:decide ((J:Int)<g1)=decide (J<g1):=by rw[decide_eq_decide];lia
  rw[<- e] at q;exact q
 .rw [Z8<|by lia];rw[Br<|by lia] at q;exact q
theorem Oq(F:aN K "grade_on_top" "Pile.grade_on_top" Mv f fd)(T:Bt K mg Cf Cg Ca Cd Cc Cb Ch Cj Ci Ce Ck)
  (J:Fn P w K mg base aC "grade" 1 ["many","first","middle","beyond"]<|kR)
 :aH P w K mg base aC 2 f fd ["self","middle","beyond"]<|kN Cc:=by
 refine F.ok fN (by (intro _ _ _ _ h;cases h;subst_vars;rfl)) λaa A outer s H vs Q E hr h=>?_
 refine' ⟨_,(cD ?_),?_⟩;walk_at "d";obtain⟨x,a,fs,od,gr,ls,s,e,r,oa,A,p,gs,m,b,rfl,z,h1,h2,h3,U,Z,q⟩:=h;walk_at "r";have O:=z.VY;rw[bX,show nL (A.map PF++[p].map PF)=nL (A.map PF)++[.int (p.1:Nat)] by unfold nL;rw[bX];rfl] at O;refine z.hp.get T.Da T.Nk (by walk_at "l")<|z.hp.get T.Da T.Nf (by walk_at "l")<|wW ?_;refine z.hp.get T.Da T.Nc (by walk_at "l")<|dE (aB.of O) zB<|z.hp.get T.Da T.Nf (by walk_at "l")<|wW ?_;refine z.hp.get T.Da T.Nf (by walk_at "l")<|wW<|z.hp.get T.Da T.Nf (by walk_at "l")<|wW ?_;exact⟨_,_,_,_,rfl,by lia,by lia,by lia,by lia,by lia,by lia,q⟩
theorem O4(F:aN K "join_two" "Pile.join_two" Mg f fd)(T:Bt K mg Cf Cg Ca Cd Cc Cb Ch Cj Ci Ce Ck)
  (ah:Fn P w K mg base aC "joined" 6 ["asker","left","right"]<|cV Ca<|aG.mk Cb mg)
  (Z:Mt P w K mg base aC Cc "beyond_of" 1 ["self","number"]<|eL Cc)
 :aH P w K mg base aC 7 f fd ["self","lower"]<|eE Ca (aG.mk Cb mg) Cc:=by
 refine F.ok dQ (by (intro _ _ _ _ h;cases h;subst_vars;rfl)) λbo A outer s H vs Q E hr h=>?_
 have bn:=dQ.nd;refine' ⟨_,(aM ?_<|bN<|aM ?_<|bN ?_),?_⟩;walk_at "d";obtain⟨c,pr,x,fs,od,gr,ls,s,e,i,r,oa,ps,gs,post,rfl,st,pa,px,pw,hi,he,hk,w,q⟩:=h;walk_at "r";obtain⟨A,p1,p2,B,rfl,rfl,e3,e4⟩:=q5 hi;obtain⟨O,o1⟩:=p1;obtain⟨v2,o2⟩:=p2;unfold Fq at w;dsimp only at w;rw[e3,e4] at w;dsimp only at w;obtain⟨J,b1,b2,OB,rfl,aa,b5,b6,be,bi⟩:=pa.Wu.two;obtain⟨mm,c1,c2,c3,c4,c5,c6⟩:=Cl.app.mp pw.cl;dsimp only at c2 c3 c4 c5 c6;have l1:=c1.le.1;have l6:=c6.le.1;have ao:=pw.re;have ac:=pw.gl;dsimp only at l6 ao ac;rw[aW,bS,bS] at ac;replace ac:A.length<gs.length:=by lia
 have bp:(J.map V.ref).length<=500:=by rw[aJ,aa];lia
 have m1:b1∈J++b1::b2::OB:=gM _ aU;have m2:b2∈J++b1::b2::OB:=gM _<|bA _ aU;refine pa.hp.get T.Da T.Nr (by walk_at "l")<|pa.hp.get T.Da T.Na (by walk_at "l")<|dE (aB.of pa.VX) (rq (b:=b1) (by rw[<- aa];exact Ir ..)) ?_;refine pa.hp.get T.Da T.Na (by walk_at "l") ?_;rw[show(A.length:Int)+1=((A.length+1:Nat):Int) by lia];refine dE (aB.of pa.VX) (rq (b:=b2) (by rw[<- aa];exact Hg ..)) ?_;refine⟨c,pr,b1,b2,o1,o2,_,rfl,st,b6,be,hk,by lia,(w.bind).U0<|qQ o1 o2,λl H1 o pr1 af ad b8 b3 hp=>?_⟩;obtain⟨b4,hp⟩:=hp;have bO:=pa.Xi px af;refine bM ?_;walk_at "r";refine bO.hp.get T.Da T.Nc (by walk_at "l")<|dE (aB.of bO.VY) (rH (o:=O)<|by rw[dF,Ir];rfl) ?_;refine bO.hp.get T.Da T.Nc (by walk_at "l") ?_;rw[show(A.length:Int)+1=((A.length+1:Nat):Int) by lia];refine dE (aB.of bO.VY) (rH (o:=v2)<|by rw[dF,Hg];rfl) ?_;refine bO.hp.Uw (by walk_at "l") ⟨x,c.a,fs,od,gr,ls,s,e,r,_,A++[(O,o1)],(v2,o2),B,gs,by rw[aW];rfl,by rw[jM];exact bO,?_⟩;refine⟨cL<|by decide,λt ht=>?_⟩;obtain⟨H2,e2,s2,h2⟩:=aI ht<|.tup [.str "join",.int (O:Nat),.int (v2:Nat),.int (bB B r:Nat)];rw[e2];clear e2;have fS:=bO.mono s2;have ba:=b3.mono s2;refine bM ?_;walk_at "r";have ae:=fS.xl;have bg:x≠fs:=λz=>ae (by rw[z];exact aU);have b0:x≠od:=λz=>ae (by rw[z];exact bA _ aU);have bc:x≠gr:=λz=>ae (by rw[z];exact bA _<|bA _ aU);obtain⟨ay,ai,aw⟩:=pa.ne;refine fS.hp.get T.Da T.Na (by walk_at "l") ⟨od,_,_,_,rfl,rfl,fS.VX,Ii (by lia)<|by rw[aJ,aW,bS];lia,?_⟩;rw[Int.toNat_natCast,bX,jC,jC,show A.length=(J.map V.ref).length by rw[aJ,aa],Ao];have bh:aZ (upd H2 od<|.lst<|J.map V.ref++.ref l::.ref b2::OB.map V.ref) x Cc<|zQ c.a ls s e r fs od gr:=fS.hp.keep<|aO b0;refine bh.get T.Da T.Na (by walk_at "l") ?_;walk_at "r";refine⟨.inl ⟨rfl,_,aB.of aP⟩,od,_,_,(J.map V.ref).length+1,_,rfl,rfl,aP,by lia,by lia,?_,Hg ..,?_⟩
 .rw [show((J.map V.ref).length:Int)+1=(((J.map V.ref).length+1:Nat):Int) by lia];exact Qp (by lia)<|by rw[aW,bS,bS];lia
 rw[uT,IH];have av:aZ (upd H2 od<|.lst<|J.map V.ref++.ref l::OB.map V.ref) x Cc<|zQ c.a ls s e r fs od gr:=fS.hp.keep<|aO b0;have ax:upd H2 od (.lst<|J.map V.ref++.ref l::OB.map V.ref) fs=some (.lst<|nL (A.map PF)++.int (O:Nat)::.int (v2:Nat)::nL (B.map PF)):=by
  rw[aO ay,fS.VY,bX];unfold nL;rw[bX];rfl
 have la:(nL<|A.map PF).length=(J.map V.ref).length:=by rw[aJ,aJ,aJ,aa]
 refine av.get T.Da T.Nc (by walk_at "l") ?_;walk_at "r";refine⟨.inl ⟨rfl,_,aB.of ax⟩,fs,_,_,(nL<|A.map PF).length+1,_,rfl,rfl,ax,by lia,by lia,?_,Hg ..,?_⟩
 .rw [<- la,show((nL<|A.map PF).length:Int)+1=(((nL<|A.map PF).length+1:Nat):Int) by lia];exact Qp (by lia)<|by rw[aW,bS,bS];lia
 rw[uT];have am:aZ (upd (upd H2 od<|.lst<|J.map V.ref++.ref l::OB.map V.ref) fs<|.lst<|nL (A.map PF)++.int (O:Nat)::nL (B.map PF)) x Cc<|zQ c.a ls s e r fs od gr:=av.keep<|aO bg;have as:upd (upd H2 od<|.lst<|J.map V.ref++.ref l::OB.map V.ref) fs (.lst<|nL (A.map PF)++.int (O:Nat)::nL (B.map PF)) gr=some (.lst<|nL gs):=by rw[aO<|OY ai,aO<|OY aw];exact fS.WD
 refine am.get T.Da T.Nm (by walk_at "l") ?_;walk_at "r";refine⟨.inl ⟨rfl,_,aB.of as⟩,gr,_,_,A.length,.int (gs[A.length]:Nat),rfl,rfl,as,by lia,by lia,?_,by rw[dF,bL ac];rfl,?_⟩
 .rw [show(J.map V.ref).length=A.length by rw[aJ,aa]];exact Qp (by lia)<|by rw[aJ];lia
 rw[ze];have F3:Fr [fs,od,gr] H2<|upd (upd (upd H2 od<|.lst<|J.map V.ref++.ref l::OB.map V.ref) fs<|.lst<|nL (A.map PF)++.int (O:Nat)::nL (B.map PF)) gr<|.lst<|nL<|gs.eraseIdx A.length:=((Fr.upd<|bA _ aU).trans<|Fr.upd aU).trans<|Fr.upd<|bA _<|bA _ aU;have au:aZ (upd (upd (upd H2 od<|.lst<|J.map V.ref++.ref l::OB.map V.ref) fs<|.lst<|nL (A.map PF)++.int (O:Nat)::nL (B.map PF)) gr<|.lst<|nL<|gs.eraseIdx A.length) x Cc<|zQ c.a ls s e r fs od gr:=am.keep<|aO bc;have aq:(upd (upd (upd H2 od<|.lst<|J.map V.ref++.ref l::OB.map V.ref) fs<|.lst<|nL (A.map PF)++.int (O:Nat)::nL (B.map PF)) gr<|.lst<|nL<|gs.eraseIdx A.length) fs=some (.lst<|nL (A.map PF)++.int (O:Nat)::nL (B.map PF)):=by rw[aO ai,aP]
 have az:(upd (upd (upd H2 od<|.lst<|J.map V.ref++.ref l::OB.map V.ref) fs<|.lst<|nL (A.map PF)++.int (O:Nat)::nL (B.map PF)) gr<|.lst<|nL<|gs.eraseIdx A.length) od=some (.lst<|J.map V.ref++.ref l::OB.map V.ref):=by rw[aO aw,aO<|OY ay,aP]
 have ap:(upd (upd (upd H2 od<|.lst<|J.map V.ref++.ref l::OB.map V.ref) fs<|.lst<|nL (A.map PF)++.int (O:Nat)::nL (B.map PF)) gr<|.lst<|nL<|gs.eraseIdx A.length) gr=some (.lst<|nL<|gs.eraseIdx A.length):=aP;generalize (upd (upd (upd H2 od<|.lst<|J.map V.ref++.ref l::OB.map V.ref) fs<|.lst<|nL (A.map PF)++.int (O:Nat)::nL (B.map PF)) gr<|.lst<|nL<|gs.eraseIdx A.length)=H3 at F3 au aq az ap⊢;have aj:l∉[fs,od,gr]:=λz=>by obtain⟨y,hy⟩:=pa.VR l z;rw[hy] at ad;cases ad
 have bj:t∉[fs,od,gr]:=λz=>by obtain⟨y,hy⟩:=bO.VR t z;rw[hy] at ht;cases ht
 have ag:∀b∈J++l::OB,b∉[fs,od,gr]/\b∉c.A/\(b∈J++b1::b2::OB∨H b=none):=λb U=>by
  rcases gN.mp U with z|z
  .have m:=kW (b1::b2::OB) z;exact⟨pa.nb b m,px.n2 b m,.inl m⟩
  rcases bC.mp z with z|z
  .rw [z];exact⟨aj,st.off ad,.inr ad⟩
  .have m:b∈J++b1::b2::OB:=gM _<|bA _<|bA _ z;exact⟨pa.nb b m,px.n2 b m,.inl m⟩
 have kp:∀b∈J++b1::b2::OB,∀o,H b=some o->H3 b=some o:=λb U o h=>F3 _ _ (pa.nb b U)<|s2 _ _<|af _ _ (Ad.SA<|px.n2 b U) h;have b9:H3 fs=some (.lst<|nL<|(A++(O,o)::B).map PF):=by rw[aq,bX];unfold nL;rw[bX];rfl
 have b7:H3 od=some (.lst<|(J++l::OB).map V.ref):=by rw[az,bX];rfl
 have bf:aY H3 (J++l::OB)<|A++(O,o)::B:=(b5.keep λb U=>kp b<|kW _ U).app ⟨F3 _ _ aj<|s2 _ _ b8,bi.keep λb U=>kp b<|gM _<|bA _<|bA _ U⟩;have bd:PW s e ⟨r,A++(O,o)::B,gs.eraseIdx A.length⟩:=by
  refine⟨Cl.app.mpr ⟨mm,c1,c2,by dsimp only;lia,?_⟩,ao,?_⟩<;>dsimp only
  .rw [b4,<- Nat.add_assoc];exact c6
  .have:=pw.gl;dsimp only at this;rw[List.length_eraseIdx,Z9 ac,this];simp
 refine q t H3 ⟨r,A++(O,o)::B,gs.eraseIdx A.length⟩ (J++l::OB) pr1 ⟨λb o n h=>?_,λb U=>(ag b U).2.2,⟨au,b9,b7,ap,bf,pa.ne,λb U=>(ag b U).1⟩,⟨px.n1,λb U=>(ag b U).2.1⟩,ba.three fS px F3,bd⟩ rfl (by simp;lia) hp;refine F3 _ _ (λz=>n<|bA _ ?_)<|s2 _ _<|af _ _ (λz=>n<|bA _<|bA _<|bA _<|bA _ z) h;exact kW [c.a,c.lg,c.tl] z
theorem Oo(F:aN K "lay" "Pile.lay" LP f fd)(T:Bt K mg Cf Cg Ca Cd Cc Cb Ch Cj Ci Ce Ck)
  (as:Fn P w K mg base aC "filled" 5 ["asker","first","least","end"]<|kS Ca<|aG.mk Cb mg)
  (O:Mt P w K mg base aC Cc "grade_on_top" 2 ["self","middle","beyond"]<|kN Cc)
 :aH P w K mg base aC 6 f fd ["self"]<|oX Ca (aG.mk Cb mg) Cc:=by
 refine F.ok jP (by (intro _ _ _ _ h;cases h;subst_vars;rfl)) λc0 A outer s H vs Q E hr h=>?_
 have bw:=jP.nd;refine' ⟨_,(aM ?_<|aM ?_<|bN<|aM ?_<|bN<|aM (oM (yk ?_) ?_ ?_)<|bN ?_),?_⟩;walk_at "d";obtain⟨c,pr,x,fs,od,gr,ls,s,e,r,oa,ps,gs,post,rfl,st,pa,px,pw,aq,he,hk,w,q⟩:=h;walk_at "r";have bg:=pw.re;have ad:=pw.gl;have au:=pw.cl.le.1;dsimp only at bg ad au;unfold Bg at w;refine pa.hp.get T.Da T.Nl (by walk_at "l")<|pa.hp.get T.Da T.Nr (by walk_at "l")<|pa.hp.get T.Da T.N1 (by walk_at "l")<|pa.hp.get T.Da T.Nk (by walk_at "l") ?_;refine⟨c,pr,r,ls,e,_,rfl,st,hk,aq,by lia,(w.bind).U0<|wb aq,λt ol H1 fj pr1 b1 ac ba ht am hp=>?_⟩;obtain⟨⟨b7,bo⟩,hp⟩:=hp;obtain⟨j,os⟩:=fj;dsimp only at b7 bo ht am hp;have bO:=pa.Xi px b1;obtain⟨v3,b2⟩:∃v3,v3=r+os.length:=⟨_,rfl⟩
 rw[<- b2] at hp;refine bM ?_;walk_at "r";refine ib (bG.of ht) (cO (by decide) rfl) ⟨ol,_,rfl,.inl<|aB.of am,?_⟩;rw[aJ];walk_at "r";rw[show(r:Int)+(os.length:Int)=(v3:Nat) by lia];refine bM ?_;walk_at "r";have aj:t∉[fs,od,gr]:=λz=>by obtain⟨y,hy⟩:=bO.VR t z;rw[hy] at ht;cases ht
 have ah:ol∉[fs,od,gr]:=λz=>by obtain⟨y,hy⟩:=pa.VR ol z;rw[hy] at ac;cases ac
 apply Fx λX:Hp=>aR Cc X x c.a fs od gr ls s e r oa ps (if ps.isEmpty then gs else gs++[grd (e-s) (xr ps-s) (r-s)<|v3-s])/\Fr [fs,od,gr] H1 X
 .intro ae;refine bO.hp.get T.Da T.Nc (by walk_at "l") ⟨fs,_,rfl,aB.of bO.VY,?_⟩;by_cases U:ps≠[]
  .obtain ⟨A,p,rfl⟩:∃A p,ps=A++[p]:=⟨ps.dropLast,ps.getLast U,(List.dropLast_concat_getLast _).symm⟩
   rw[Z9<|by simp];obtain⟨m,c1,c2,c3,c5⟩:=Cl.app.mp pw.cl;have c5:m+p.2.length=r:=c5;have bv:=c1.le.1;rw[aW,iC] at ad au;refine bO.hp.get T.Da T.Nm (by walk_at "l") ?_;walk_at "r";refine⟨.inl ⟨rfl,_,aB.of bO.WD⟩,bO.hp.Uw (by walk_at "l") ⟨x,c.a,fs,od,gr,ls,s,e,r,oa,A,p,gs,r,v3,rfl,bO,by lia,by lia,by lia,by lia,by lia,λgg bj bx=>?_⟩⟩;refine⟨gr,_,_,rfl,rfl,bO.WD,rB<|by rw[aJ];lia,?_⟩;have F:Fr [fs,od,gr] H1<|upd H1 gr<|.lst<|nL gs++[.int (gg:Nat)]:=Fr.upd<|bA _<|bA _ aU;have P:aR Cc (upd H1 gr<|.lst<|nL gs++[.int (gg:Nat)]) x c.a fs od gr ls s e r oa (A++[p])<|gs++[gg]:=⟨tf F bO.xl bO.hp,by rw[aO bO.ne.2.1];exact bO.VY,by rw[aO bO.ne.2.2];exact bO.VX,by rw[aP];unfold nL;rw[bX];rfl,bO.Wu.keep λb hb o h=>F _ _ (bO.nb b hb) h,bO.ne,bO.nb⟩
   generalize upd H1 gr (.lst<|nL gs++[.int (gg:Nat)])=X at F P⊢;refine ae X ⟨?_,F⟩;rw[Z8 (by simp),show xr (A++[p])=p.1 by unfold xr;simp,Er (a:=p.1-s) (b:=r-s) (c:=v3-s) (n:=e-s) bj (by lia) (by lia)<|by lia];exact P
  .have U:ps=[]:=QD U;rw[Z8<|by rw[U];simp];refine ae H1 ⟨?_,.refl⟩;rw[U] at bO⊢;exact bO
 rintro X ⟨J,FX⟩;obtain⟨ag,ax⟩:∃ag,ag=(if ps.isEmpty then gs else gs++[grd (e-s) (xr ps-s) (r-s)<|v3-s]):=⟨_,rfl⟩
 rw[<- ax] at J hp;have av:=FX _ _ aj ht;have b0:=FX _ _ ah am;have bu:=J.Wu.len;have ao:=J.xl;have bn:x≠fs:=λz=>ao (by rw[z];exact aU);have bt:x≠od:=λz=>ao (by rw[z];exact bA _ aU);have bz:x≠gr:=λz=>ao (by rw[z];exact bA _<|bA _ aU);obtain⟨b9,bc,bp⟩:=J.ne;refine bM ?_;walk_at "r";refine J.hp.get T.Da T.Nc (by walk_at "l") ?_;walk_at "r";refine⟨.inl ⟨rfl,_,aB.of J.VY⟩,fs,_,_,rfl,rfl,J.VY,rB<|by rw[aJ,aJ];lia,?_⟩;obtain⟨us,aw⟩:∃us,nL (ps.map PF)++[.int (r:Nat)]=us:=⟨_,rfl⟩
 rw[aw];have b5:aZ (upd X fs<|.lst us) x Cc<|zQ c.a ls s e r fs od gr:=J.hp.keep<|aO bn;have ai:upd X fs (.lst us) od=some (.lst<|oa.map V.ref):=by rw[aO<|OY b9];exact J.VX
 refine b5.get T.Da T.Na (by walk_at "l") ?_;walk_at "r";refine⟨.inl ⟨rfl,_,aB.of ai⟩,ib (bG.of<|by rw[aO λz=>aj<|by rw[z];exact aU];exact av) (cO (by decide) rfl) ⟨od,_,_,rfl,rfl,ai,rB<|by rw[aJ];lia,?_⟩⟩;have F2:Fr [fs,od,gr] X<|upd (upd X fs<|.lst us) od<|.lst<|oa.map V.ref++[.ref ol]:=(Fr.upd aU).trans<|Fr.upd<|bA _ aU;have af:aZ (upd (upd X fs<|.lst us) od<|.lst<|oa.map V.ref++[.ref ol]) x Cc<|zQ c.a ls s e r fs od gr:=b5.keep<|aO bt;have b6:(upd (upd X fs<|.lst us) od<|.lst<|oa.map V.ref++[.ref ol]) fs=some (.lst us):=by rw[aO b9,aP]
 have b8:(upd (upd X fs<|.lst us) od<|.lst<|oa.map V.ref++[.ref ol]) od=some (.lst<|oa.map V.ref++[.ref ol]):=aP;have az:(upd (upd X fs<|.lst us) od<|.lst<|oa.map V.ref++[.ref ol]) gr=some (.lst<|nL ag):=by rw[aO<|OY bp,aO<|OY bc];exact J.WD
 generalize (upd (upd X fs<|.lst us) od<|.lst<|oa.map V.ref++[.ref ol])=Y at F2 af b6 b8 az⊢;refine af.set T.Da T.Nl (λZ br kZ=>?_) ⟨_,by walk_at "l"⟩;have aa:∀{b:OL} {us:List V},Y b=some (.lst us)->Z b=some (.lst us):=fun {b us} h=>by rw[kZ b<|af.ne h λ_ _ _ z=>by cases z];exact h
 have ay:=F2 _ _ aj av;have be:Z t=some (.tup [.int (j:Nat),.ref ol]):=by rw[kZ t<|af.ne ay λ_ _ _ z=>by cases z];exact ay
 walk_at "r";refine ib (bG.of be) (cO (by decide) rfl) ⟨cL<|by decide,λt2 bf=>?_⟩;obtain⟨W,eW,sW,hW⟩:=aI bf<|.tup [.str "lay",.int (r:Nat),.int (j:Nat),.int (v3:Nat)];rw[eW];clear eW;have FY:Fr [fs,od,gr] H1 Y:=FX.trans F2;have ap:∀b∈oa++[ol],b∉[fs,od,gr]/\b∉c.A/\(b∈oa∨H b=none):=λb hb=>by
  rcases gN.mp hb with z|z
  .exact ⟨pa.nb b z,px.n2 b z,.inl z⟩
  .rw [bD.mp z];exact⟨ah,st.off ac,.inr ac⟩
 have b4:aY W (oa++[ol])<|ps++[(r,os)]:=by
  refine aY.app ?_ ⟨sW _ _<|aa<|F2 _ _ ah b0,trivial⟩;refine J.Wu.keep λb hb o h=>sW _ _ ?_;obtain⟨i,hi⟩:=List.getElem?_of_mem hb;obtain⟨p',_,b3⟩:=J.Wu.get hi;have e1:o=.lst (nL p'.2):=OS<|h.symm.trans b3;rw[e1];exact aa<|F2 _ _ (J.nb b hb) b3
 obtain⟨dx,fl,bd,_,_⟩:=af.ex;have bh:=ba.three bO px FY;have bq:aE Ca (aG.mk Cb mg) Z c pr1:=bh.apart (S:=[x]) (λb o n h=>by rw[kZ b λz=>n<|by rw[z];exact aU];exact h) (λb hb=>by rw[bD.mp hb];exact .inr<|.inl ⟨_,_,_,bd⟩) λb hb=>by rw[bD.mp hb];exact px.n1.1
 have bi:PW s e ⟨v3,ps++[(r,os)],ag⟩:=by
  refine⟨Cl.app.mpr ⟨r,pw.cl,rfl,b7,b2.symm⟩,by dsimp only;lia,?_⟩;dsimp only;rw[aW,iC,ax];cases U:ps with
  |nil=>rw[U] at ad;simpa using ad
  |cons p ps'=>rw[U] at ad;simp at ad⊢;lia
 refine q t2 W ⟨v3,ps++[(r,os)],ag⟩ (oa++[ol]) pr1 ⟨λb o n h=>?_,λb hb=>(ap b hb).2.2,⟨?_,?_,?_,?_,b4,J.ne,λb hb=>(ap b hb).1⟩,⟨px.n1,λb hb=>(ap b hb).2.1⟩,bq.mono sW,bi⟩ (by dsimp only;lia) (by simp) hp
 .refine sW _ _ ?_;rw[kZ b λz=>n<|by rw[z];exact aU];refine FY _ _ (λz=>n<|bA _<|kW [c.a,c.lg,c.tl] z)<|b1 _ _ (λz=>n<|bA _<|bA _<|bA _<|bA _ z) h
 .exact (br.congr qZ).mono sW
 .refine sW _ _ (aa ?_);rw[b6,<- aw,bX];unfold nL;rw[bX];rfl
 .refine sW _ _ (aa ?_);rw[b8,bX];rfl
 .exact sW _ _ (aa az)
theorem OF(F:aN K "step" "Pile.step" Lz f fd)(T:Bt K mg Cf Cg Ca Cd Cc Cb Ch Cj Ci Ce Ck)
  (z:Mt P w K mg base aC Cc "is_due_beneath" 1 ["self"]<|tN Cc)
  (O:Mt P w K mg base aC Cc "join_two" 7 ["self","lower"]<|eE Ca (aG.mk Cb mg) Cc)
  (U:Mt P w K mg base aC Cc "lay" 6 ["self"]<|oX Ca (aG.mk Cb mg) Cc)
 :aH P w K mg base aC 8 f fd ["self"]<|kJ Ca (aG.mk Cb mg) Cc:=by
 refine F.ok pD (by (intro _ _ _ _ h;cases h;subst_vars;rfl)) λaf A outer s H vs Q E hr h=>?_
 refine' ⟨_,(aM ?_ ?_),?_⟩;walk_at "d";obtain⟨c,pr,x,fs,od,gr,ls,s,e,r,oa,ps,gs,post,rfl,st,J,px,Z,he,hk,w,q0,q⟩:=h;walk_at "r";have ae:=J.Wu.len;have ad:=Z.gl;have aa:=Z.cl.le.1;have ac:=Z.re;dsimp only at ad aa ac;unfold GV at w;dsimp only at w;refine J.hp.Uw (by walk_at "l") ⟨x,c.a,fs,od,gr,ls,s,e,r,oa,ps,gs,rfl,J,kn ?_⟩;cases hd:mI gs with
 |true=>
  rw[Z9 rfl];rw[Z9 hd] at w;have h2:=KN hd;refine J.hp.Uw (by walk_at "l")<|J.hp.get T.Da T.Na (by walk_at "l") ⟨od,_,rfl,.inl<|aB.of J.VX,?_⟩;refine⟨c,pr,x,fs,od,gr,ls,s,e,ps.length-3,r,oa,ps,gs,post,?_,st,J,px,Z,by lia,he,hk,w,λt H' t' oa' pr' lf e1 e2 hp=>?_⟩
  .rw [aJ];congr 3;lia
  .exact q t H' t' oa' pr' lf (by lia) hp
 |false=>
  rw[Z8<|by decide];rw[Z8<|by rw[hd];decide] at w;refine J.hp.get T.Da T.Nl (by walk_at "l")<|J.hp.get T.Da T.Nk (by walk_at "l")<|wW<|kn ?_;by_cases UA:r<e
  .rw [Z9<|decide_eq_true<|by lia];rw[Z9 UA] at w;refine J.hp.Uw (by walk_at "l") ⟨c,pr,x,fs,od,gr,ls,s,e,r,oa,ps,gs,post,rfl,st,J,px,Z,UA,he,hk,w,λt H' t' oa' pr' lf e1 e2 hp=>?_⟩;have:=lf.2.2.2.2.2.re;exact q t H' t' oa' pr' lf (by lia) hp
  .rw [Z8<|by simp;lia];rw[Z8 UA] at w;refine J.hp.get T.Da T.Na (by walk_at "l") ⟨od,_,rfl,.inl<|aB.of J.VX,?_⟩;rw[aJ];by_cases h2:1<ps.length
   .rw [Z9<|by lia];rw[Z9 h2] at w;refine J.hp.Uw (by walk_at "l")<|J.hp.get T.Da T.Na (by walk_at "l") ⟨od,_,rfl,.inl<|aB.of J.VX,?_⟩;refine⟨c,pr,x,fs,od,gr,ls,s,e,ps.length-2,r,oa,ps,gs,post,?_,st,J,px,Z,by lia,he,hk,w,λt H' t' oa' pr' lf e1 e2 hp=>?_⟩
    .rw [aJ];congr 3;lia
    .exact q t H' t' oa' pr' lf (by lia) hp
   .rw [Z8<|by lia];rw[Z8 h2] at w;exact q0 w
theorem Op(F:aN K "paper" "Pile.paper" Mo f fd)(T:Bt K mg Cf Cg Ca Cd Cc Cb Ch Cj Ci Ce Ck)
 :aH P w K mg base aC 1 f fd ["self"]<|kM Cc:=by
 refine F.ok gZ (by (intro _ _ _ _ h;cases h;subst_vars;rfl)) λah A outer s H vs Q E hr h=>?_
 have ai:=gZ.nd;refine' ⟨_,(aM ?_<|aM ?_<|cD<|jJ<|eY CV ?_<|vc (LW rfl) rfl T.UJ PH<|bO<|vc oA rfl T.UE Rr ?_),?_⟩;walk_at "d";obtain⟨x,a,fs,od,gr,ls,s,e,r,oa,ps,gs,rfl,J,Z,ad,he,q⟩:=h;walk_at "r";refine⟨cE _,λp hp=>?_⟩;obtain⟨H1,U,s1,h1⟩:=aI hp<|.lst [];rw[U];clear U;have bO:=J.mono s1;have af:=J.Wu.len;refine bO.hp.get T.Da T.Na (by walk_at "l") ?_;refine ET (aB.of bO.VX) (λi σ X=>∃v2,σ=[some<|.ref x,some<|.ref p,v2]/\aD H X/\X p=some (.lst<|nL<|flt<|ps.take i)) ⟨_,rfl,s1,h1⟩ (λi σ X _ zz=>by obtain⟨_,_,z,_⟩:=zz;exact aB.of<|z _ _ J.VX) ?_ ?_
 .rintro i y σ X hy ⟨v2,rfl,z,O⟩;obtain⟨b,hb,rfl⟩:∃b,oa[i]?=some b/\y=.ref b:=by
   rw[dF] at hy;cases hz:oa[i]? with
   |none=>rw[hz] at hy;cases hy
   |some b=>rw[hz] at hy;exact⟨b,rfl,(OS hy).symm⟩
  obtain⟨p1,g1,g2⟩:=J.Wu.get hb;have U:flt (ps.take<|i+1)=flt (ps.take i)++p1.2:=by
   rw[RK,g1,uR];congr 1;unfold flt;simp
  have ag:(flt<|ps.take i).length+p1.2.length<=500:=by
   have e2:flt ps=flt (ps.take<|i+1)++flt (ps.drop<|i+1):=by rw[<- uR,xg]
   rw[e2,U,aW,aW] at Z;lia
  walk_at "r";refine⟨.inl ⟨rfl,_,aB.of O⟩,p,b,_,_,rfl,rfl,O,z _ _ g2,cL<|by rw[aJ,aJ];lia,?_⟩;refine⟨_,rfl,z.upd hp,?_⟩;rw[aP,U];unfold nL;rw[bX]
 rintro σ X ⟨v2,rfl,z,O⟩;rw[aJ,af,Tv] at O;walk_at "r";have aa:=J.mono z;refine aa.hp.get T.Da T.Nl (by walk_at "l")<|aa.hp.get T.Da T.Nk (by walk_at "l") ⟨_,_,rfl,λp2 ae=>?_⟩;obtain⟨H3,e3,s3,h3⟩:=aI ae<|.rng r e;rw[e3];clear e3;refine⟨p2,r,e,rfl,h3,by lia,λl2 ac=>?_⟩;rw[mY];obtain⟨H4,e4,s4,h4⟩:=aI ac<|.lst<|nL<|Pe r<|e-r;rw[e4];clear e4;refine⟨p,l2,_,_,rfl,rfl,s4 _ _<|s3 _ _ O,h4,cL<|by rw[aJ,aJ,vm];lia,λl hl=>?_⟩;refine q l _ (z.trans<|s3.trans<|s4.new hl) ((z.trans<|s3.trans s4).free hl) ?_;rw[aP];unfold nL;rw[bX]
theorem Oc(F:eQ K "by_pile" "by_pile" K8 f fd dv)(T:Bt K mg Cf Cg Ca Cd Cc Cb Ch Cj Ci Ce Ck)
  (O:Mt P w K mg base aC Cc "paper" 1 ["self"]<|kM Cc)
  (U:Mt P w K mg base aC Cc "step" 8 ["self"]<|kJ Ca (aG.mk Cb mg) Cc)
  (aj:Kl P w K mg base aC "Pile" Cc 2 ["self","asker","least","part"]<|dZ Ca Cc)
 :aH P w K mg base aC 9 f fd ["asker","least","part"]<|bT Ca<|aG.mk Cb mg:=by
 refine F.ok V2 (by (intro _ _ _ _ h;cases h;subst_vars;rfl)) λay A outer s H vs Q E hr h=>?_
 have ax:=V2.nd;refine' ⟨_,(aM ?_<|aM (Hj PJ ?_<|cD AF) ?_),?_⟩;walk_at "d";obtain⟨c,pr,ls,s,e,pt,post,rfl,st,ac,ah,he,hk,w,q⟩:=h;walk_at "r";intro x dx hx aw as;have aq:upd H dx (.own x) x=none:=by rw[aO<|OY as];exact hx
 have J:aD H<|upd (upd H dx<|.own x) x<|.ins Cc dx []:=(bE aw _).trans<|bE aq _;have hB:(upd (upd H dx<|.own x) x<|.ins Cc dx []) x=some (.ins Cc dx []):=aP;generalize upd (upd H dx<|.own x) x (.ins Cc dx [])=HB at J hB⊢;have am:(∃b,pt=.ref b/\HB b=some (.tup [.int s,.int e]))∨(pt=.Ux/\s=0/\c.a≠x/\∃rl ru m n tl xs,aZ HB c.a Ca (fA rl ru m n tl)/\HB rl=some (.lst xs)/\xs.length=e):=by
  rcases ac with ⟨b,h1,h2⟩|⟨h1,h2,h3⟩
  .exact .inl ⟨b,h1,J _ _ h2⟩
  .exact .inr ⟨h1,h2,OY<|st.ha.neN hx,c.rl,c.ru,_,_,c.tl,c.xs,(st.mono J).ha,J _ _ st.VW,by rw[st.len,h3]⟩
 clear ac;refine⟨x,dx,c.a,ls,s,e,pt,rfl,hB,am,λfs od gr HC kC ae ag ai au=>⟨rfl,?_⟩⟩;have kA:aD H HC:=λb o h=>kC b o (aX h hx)<|J _ _ h;have px:zZ c x fs od gr []:=⟨⟨st.off hx,st.off<|J.free ae,st.off<|J.free ag,st.off<|J.free ai⟩,λb hb=>by cases hb⟩
 walk_at "r";refine xa (λn σ X=>L2.X4 λ(t:PS) (m:Nat) (oa:List OL) (pr':List A3)=>n=2*(e-t.r)+t.ps.length/\σ=[some<|.ref c.a,some<|.int ls,some pt,some<|.ref x]/\2*(e-t.r)+t.ps.length<m/\PW s e t/\aR Cc X x c.a fs od gr ls s e t.r oa t.ps t.gs/\zZ c x fs od gr oa/\aE Ca (aG.mk Cb mg) X c pr'/\Wp c.n c.an (HY grd ls s e m t) pr' post/\Fr [x,fs,od,gr,c.a,c.lg,c.tl] HC X) ⟨_,⟨s,[],[]⟩,_,[],pr,rfl,rfl,by simp,⟨rfl,ah,rfl⟩,au,px,st.mono kA,w,.refl⟩ ?_;rintro n σ X ⟨t,m,oa,pr',rfl,rfl,hm,pw,pa,ap,ad,wX,fX⟩;obtain⟨m,rfl⟩:∃m',m=m'+1:=⟨m-1,by lia⟩
 obtain⟨r,ps,gs⟩:=t;dsimp only at hm pa;have aa:=pw.cl.le;have af:=pw.re;dsimp only at aa af;have fin:∀{Z:Hp},aD X Z->Fr c.S H Z:=fun {Z} sZ b o n h=>sZ _ _<|fX _ _ (λz=>by
  rcases bC.mp z with z|z
  .exact aX h hx z
  rcases bC.mp z with z|z
  .exact aX h (J.free ae) z
  rcases bC.mp z with z|z
  .exact aX h (J.free ag) z
  rcases bC.mp z with z|z
  .exact aX h (J.free ai) z
  .exact n z)<|kA _ _ h
 walk_at "r";refine pa.hp.Uw (by walk_at "l") ⟨c,pr',x,fs,od,gr,ls,s,e,r,oa,ps,gs,_,rfl,ad,pa,ap,pw,he,hk,wX.bind,λhp=>?_,λt2 Y t' oa' pr2 lf av hp=>?_⟩
 .refine pa.hp.Uw (by walk_at "l") ⟨x,c.a,fs,od,gr,ls,s,e,r,oa,ps,gs,rfl,pa,by rw[aa.2];lia,af,he,λl Z sZ ao hl=>?_⟩;exact q l Z _ pr' (fin sZ) (ad.free (fin<|.refl _) ao) hl (ad.mono sZ) (by rw[aW,aa.2,vm];lia) hp
 .refine w8 ?_;walk_at "r";obtain⟨f1,f2,f4,f5,f6,f7⟩:=lf;exact⟨_,av,t',m,oa',pr2,rfl,by lia,f7,f4,f5,f6,hp,fX.trans f1⟩
theorem M3{n:Nat}(F:aN K "meetings_of" "meetings_of" L6 f fd)(T:Bt K mg Cf Cg Ca Cd Cc Cb Ch Cj Ci Ce Ck)
  (J:Fn P w K mg base aC "meetings_of" n ["first","beyond"]<|bQ n)
 :aH P w K mg base aC (n+1) f fd ["first","beyond"]<|bQ<|n+1:=by
 refine F.ok Vs (by (intro _ _ _ _ h;cases h;subst_vars;rfl)) λav A outer s H vs Q E hr h=>?_
 have aw:=Vs.nd;refine' ⟨_,(aM ?_<|aM ?_<|cD<|jJ<|eY CV (eY CV (wG J (hr.mono<|aK _) rfl gK ?_)<|wG J (hr.mono<|aK _) rfl gK ?_) ?_),?_⟩;walk_at "d";obtain⟨f,b,rfl,ao,ai,ah,U,q⟩:=h;walk_at "r";by_cases UA:(b:Int)-f<2
 .rw [Z9 UA];refine⟨cE _,λl hl=>q l _ [] (bE hl _) hl aP ?_⟩;rw[Po.bZ<|by lia];exact dI.nil
 rw[Z8 UA];refine⟨⟨by decide,by decide⟩,?_⟩;have hm:=Po.cC (f:=f) (b:=b) (by lia);have em:(f:Int)+((b:Int)-f+1)/2=((Po.mid f b:Nat):Int):=by unfold Po.mid;lia
 rw[em];have ap:2^(n+1-1)=2^n:=by rw[Tb]
 rw[ap] at U;obtain⟨k,rfl⟩:∃k,n=k+1:=⟨n-1,by
  cases n with
  |zero=>rw[Nat.pow_zero] at U;lia
  |succ n=>rfl⟩
 rw[Nat.pow_succ] at U;refine⟨f,Po.mid f b,rfl,by lia,by lia,by lia,by rw[Tb];unfold Po.mid at*;lia,λl1 H1 Z s1 as aq ad=>?_⟩;refine⟨Po.mid f b,b,rfl,by lia,by lia,by lia,by rw[Tb];unfold Po.mid at*;lia,λl2 H2 aa s2 au aj af=>?_⟩;have ae:=ad.len;have ac:=af.len;rw[Po.eP] at ae ac;refine⟨l1,l2,Z,aa,rfl,rfl,s2 _ _ aq,aj,cL<|by lia,λl3 am=>?_⟩;obtain⟨H3,e3,s3,h3⟩:=aI am<|.lst<|Z++aa;rw[e3];clear e3;refine⟨cL<|by decide,λt ht=>?_⟩;obtain⟨H4,e4,s4,h4⟩:=aI ht<|.tup [.int (f:Int),.int ((Po.mid f b:Nat):Int),.int (b:Int)];rw[e4];clear e4;refine⟨cL<|by decide,λl4 ag=>?_⟩;obtain⟨H5,e5,s5,h5⟩:=aI ag<|.lst [.ref t];rw[e5];clear e5;refine⟨l3,l4,_,_,rfl,rfl,s5 _ _<|s4 _ _ h3,h5,cL<|by rw[aW,iC];lia,λl6 O=>?_⟩;have S5:=s1.trans<|s2.trans<|s3.trans<|s4.trans s5;refine q l6 _ _ (S5.trans<|bE O _) (S5.free O) aP ?_;rw[Po.bP<|by lia];have up:∀t x,H5 t=some (.tup x)->upd H5 l6 (.lst<|Z++aa++[.ref t]) t=some (.tup x):=λt x h=>bE O _ _ _ h;exact((ad.keep λ_ _ z=>bE O _ _ _<|s5 _ _<|s4 _ _<|s3 _ _<|s2 _ _ z).app<|af.keep λ_ _ z=>bE O _ _ _<|s5 _ _<|s4 _ _<|s3 _ _ z).app<|dI.one<|bE O _ _ _<|s5 _ _ h4
theorem OA(F:aN K "front_of" "Pour.front_of" Mh f fd)(T:Bt K mg Cf Cg Ca Cd Cc Cb Ch Cj Ci Ce Ck)
 :aH P w K mg base aC 1 f fd ["self","piece","taken"]<|cF false Cf:=by
 refine F.ok dP (by (intro _ _ _ _ h;cases h;subst_vars;rfl)) λaa A outer s H vs Q E hr h=>?_
 have ac:=dP.nd;refine' ⟨_,(aM ?_ ?_),?_⟩;walk_at "d";obtain⟨p,ak,pl,tk,ml,wd,pls,pcs,i,t,xs,rfl,z,hx,q⟩:=h;walk_at "r";obtain⟨l,Z,hl⟩:=z.at hx;have hl:H l=some (.lst<|nL xs):=hl;refine z.hp.get T.Dg T.N7 (by walk_at "l")<|dE (aB.of z.VS) (cO (v:=.ref l) (by lia)<|by rw[Int.toNat_natCast,dF,Z];rfl) ?_;walk_at "r";refine⟨l,_,rfl,.inl<|aB.of hl,?_⟩;rw[aJ];by_cases UA:(t:Int)<xs.length
 .rw [Z9 UA];have U:t<xs.length:=by lia
  have O:xs[t]?=some xs[t]:=bL U;refine dE (aB.of hl) (Kc O) ⟨cL<|by decide,λr J=>q _ _ (bE J _) ?_⟩;unfold front;rw[O];exact⟨r,rfl,aP⟩
 .rw [Z8 UA];refine q _ _ (.refl _) ?_;unfold front;rw[oP<|by lia];rfl
theorem OH(F:aN K "front_of" "LastPour.front_of" Mu f fd)(T:Bt K mg Cf Cg Ca Cd Cc Cb Ch Cj Ci Ce Ck)
 :aH P w K mg base aC 1 f fd ["self","piece","taken"]<|cF true Cg:=by
 refine F.ok cK (by (intro _ _ _ _ h;cases h;subst_vars;rfl)) λaa A outer s H vs Q E hr h=>?_
 have ac:=cK.nd;refine' ⟨_,(aM ?_ ?_),?_⟩;walk_at "d";obtain⟨p,ak,pl,tk,ml,wd,pls,pcs,i,t,xs,rfl,z,hx,q⟩:=h;walk_at "r";obtain⟨l,Z,hl⟩:=z.at hx;have hl:H l=some (.lst<|nL xs.reverse):=hl;refine z.hp.get T.Df T.N6 (by walk_at "l")<|dE (aB.of z.VS) (cO (v:=.ref l) (by lia)<|by rw[Int.toNat_natCast,dF,Z];rfl) ?_;walk_at "r";refine⟨l,_,rfl,.inl<|aB.of hl,?_⟩;rw[aJ,Dr];by_cases UA:(t:Int)<xs.length
 .rw [Z9 UA];have U:t<xs.length:=by lia
  have O:xs[t]?=some xs[t]:=bL U;have e2:xs.reverse[xs.length-1-t]?=some xs[t]:=by
   rw[List.getElem?_reverse<|by lia,show xs.length-1-(xs.length-1-t)=t by lia];exact O
  refine⟨l,_,rfl,.inl<|aB.of hl,?_⟩;rw[aJ,Dr,show(xs.length:Int)-1-t=((xs.length-1-t:Nat):Int) by lia];refine dE (aB.of hl) (Kc e2) ⟨cL<|by decide,λr J=>q _ _ (bE J _) ?_⟩;unfold front;rw[O];exact⟨r,rfl,aP⟩
 .rw [Z8 UA];refine q _ _ (.refl _) ?_;unfold front;rw[oP<|by lia];rfl
theorem Ol(F:aN K "goes_on" "Pour.goes_on" Mb f fd)(T:Bt K mg Cf Cg Ca Cd Cc Cb Ch Cj Ci Ce Ck)
  (z:Mt P w K mg base aC Ca "ahead" 3 ["self","p","q"]<|bF Ca Cb<|eV mg)
 :aH P w K mg base aC 4 f fd ["self","p","q"]<|cW Ca (aG.mk Cb mg) false Cf:=by
 refine F.ok jW (by (intro _ _ _ _ h;cases h;subst_vars;rfl)) λU A outer s H vs Q E Z h=>?_
 refine' ⟨_,(cD ?_),?_⟩;walk_at "d";obtain⟨c,pr,p,pl,tk,ml,wd,x,y,k,post,rfl,st,O,J,w,q⟩:=h;walk_at "r";exact O.get T.Dg T.N4 (by walk_at "l")<|st.ha.Uw (by walk_at "l")<|aE.ahead st J w q
theorem O0(F:aN K "goes_on" "LastPour.goes_on" Mr f fd)(T:Bt K mg Cf Cg Ca Cd Cc Cb Ch Cj Ci Ce Ck)
  (J:Mt P w K mg base aC Ca "ahead" 3 ["self","p","q"]<|bF Ca Cb<|eV mg)
 :aH P w K mg base aC 4 f fd ["self","p","q"]<|cW Ca (aG.mk Cb mg) true Cg:=by
 refine F.ok gO (by (intro _ _ _ _ h;cases h;subst_vars;rfl)) λaa A outer s H vs Q E hr h=>?_
 refine' ⟨_,(cD ?_),?_⟩;walk_at "d";obtain⟨c,pr,p,pl,tk,ml,wd,x,y,k,post,rfl,st,O,U,w,q⟩:=h;walk_at "r";refine O.get T.Df T.N5 (by walk_at "l")<|st.ha.Uw (by walk_at "l") ?_;obtain⟨h1,h2,h3,w⟩:=w;have hf:(flp true pr).length=pr.length:=aJ ..;refine aE.Wm st h1 h2 (by rw[hf];exact h3) λH2 Z s2=>kn ?_;have e:c.VO true pr.length (max x y) (min x y)=!c.an 0 (max x y) (min x y):=rfl;rw[e] at w;generalize c.an 0 (max x y) (min x y)=b at w s2⊢;have z:=q _ H2 (pr++[(max x y,min x y,!b)]) Z (by
  have:flp true (pr++[(max x y,min x y,!b)])=flp true pr++[(max x y,min x y,b)]:=by
   show List.map _ _=_;rw[bX];cases b<;>rfl
  show aE _ _ _ _ (flp true _);rw[this];exact s2) w
 by_cases UA:y<x
 .rw [Z9 UA] at z⊢;exact z
 .rw [Z8 UA] at z⊢;exact z
theorem Od(F:aN K "met" "Pour.met" LQ f fd)(T:Bt K mg Cf Cg Ca Cd Cc Cb Ch Cj Ci Ce Ck)(TX:BO K Cm)
  (J:Mt P w K mg base aC Cm "goes_on" 4 ["self","p","q"]<|cW Ca (aG.mk Cb mg) bb Cm)
 :aH P w K mg base aC 5 f fd ["self","one","other"]<|lA Ca (aG.mk Cb mg) bb Cm:=by
 refine F.ok qe (by (intro _ _ _ _ h;cases h;subst_vars;rfl)) λaa A outer s H vs Q E hr h=>?_
 refine' ⟨_,(aM ?_ ?_),?_⟩;walk_at "d";obtain⟨c,pr,p,pl,tk,ml,wd,u1,u2,one,other,post,rfl,st,hp,h1,h2,hk,w,q⟩:=h;walk_at "r";have nn:∀t,V.ref t≠V.Ux:=λ_ z=>by cases z
 cases one with
 |none=>
  cases(show u1=V.Ux from h1);rw[Z9 rfl,Z9 rfl];exact q u2 H other pr .refl st h2 w
 |some x=>
  obtain⟨t1,rfl,O⟩:=h1;rw[Z8<|nn _];cases other with
  |none=>
   cases(show u2=V.Ux from h2);rw[Z9 rfl,Z8<|nn _];exact q _ H (some x) pr .refl st ⟨t1,rfl,O⟩ w
  |some y=>
   obtain⟨t2,rfl,U⟩:=h2;rw[Z8<|nn _];refine hp.Uw (by walk_at "l")<|ib (bG.of O) (cO (by decide) rfl)<|ib (bG.of U) (cO (by decide) rfl) ?_;have w:Wp c.n (c.VO bb) (UX x.1 y.1 λb=>.ret<|if b then some x else some y) pr post:=w;refine⟨c,pr,p,pl,tk,ml,wd,x.1,y.1,_,post,rfl,st,hp,hk,w,λb H2 pr2 Z s2 w2=>kn ?_⟩;cases b
   .rw [Z8<|by decide];exact q _ H2 (some y) pr2 Z s2 ⟨t2,rfl,st.tup Z U⟩ w2
   .rw [Z9 rfl];exact q _ H2 (some x) pr2 Z s2 ⟨t1,rfl,st.tup Z O⟩ w2
theorem Ob(F:aN K "held" "Pour.held" LA f fd)(T:Bt K mg Cf Cg Ca Cd Cc Cb Ch Cj Ci Ce Ck)(TX:BO K Cm)
  (O:Mt P w K mg base aC Cm "met" 5 ["self","one","other"]<|lA Ca (aG.mk Cb mg) bb Cm)
 :aH P w K mg base aC 6 f fd ["self","meetings","went_on"]<|gI Ca (aG.mk Cb mg) bb Cm:=by
 refine F.ok eN (by (intro _ _ _ _ h;cases h;subst_vars;rfl)) λbj A outer s H vs Q E hr h=>?_
 have bi:=eN.nd;refine' ⟨_,(aM (mM (i:=3) eN.nd rfl (by (first | exact Or.inl rfl | exact Or.inr rfl))<|vc (lO) rfl T.VN RD ?_)<|aM (zU PJ rfl ?_ ?_<|cD<|Kv (EJ hr) ?_ ?_ (JD O hr.mn gK ?_<|fS (uv (EJ hr) ?_ ?_ λ_ _=>rfl)<|uv (EJ hr) ?_ ?_ λ_ _=>rfl) rfl) ?_),?_⟩;walk_at "d";obtain⟨c,pr,p,pl,tk,ml,wd,mt,wo,mvs,ms,w0,B,k,kvs,post,rfl,st,hp,np,av,ah,hM,b7,ao,dt,hB,ad,hk,w,ag,q⟩:=h;walk_at "r";refine⟨wo,kvs,rfl,dt.hd,dt.sm,λd hd=>?_⟩;obtain⟨H1,e1,s1,h1⟩:=aI hd<|.dT kvs;rw[e1];clear e1;have az:DT H1 d w0 B kvs:=⟨h1,dt.sm,dt.len,(dt.mono s1).val⟩
 have ai:=st.off hd;refine ET (aB.of<|s1 _ _ ah) (λi σ X=>L2.X6 λv4 v5 v6 wi kvi pr'=>σ=[some<|.ref p,some<|.ref mt,some<|.ref wo,some<|.ref d,v4,v5,v6]/\DT X d wi (B+k*i) kvi/\(k=1∨k=0/\∀m∈ms,(wi m.1 m.2.2).isSome=true)/\fU bb Ca (aG.mk Cb mg) X c pr'/\Fr c.S H X/\Wp c.n (c.VO bb) (kT (ms.drop i) wi) pr' post) ⟨_,_,_,w0,kvs,pr,rfl,by rw[Tn];exact az,ad,st.mono s1,s1.fr,w⟩ (λi σ X _ zz=>by obtain⟨_,_,_,_,_,_,_,_,_,_,f,_⟩:=zz;exact aB.of<|f _ _ av ah) ?_ ?_
 .rintro i x σ X hx ⟨v4,v5,v6,wi,kvi,pr',rfl,U,af,ae,fi,J⟩;have hi:=(gX.mp hx).1;rw[hM.len] at hi;obtain⟨m,hm⟩:∃m,ms[i]?=some m:=⟨_,bL hi⟩
  obtain⟨t,aq,b3⟩:=hM.get i m hm;rw[hx] at aq;cases aq;refine EU (bG.of<|st.tup fi b3) rfl ?_;walk_at "r";rw[sy hm,kT] at J;have as:=tf fi np hp;cases e1:wi m.1 m.2.1 with
  |none=>rw[e1] at J;exact absurd J<|ag _
  |some x=>
  cases e2:wi m.2.1 m.2.2 with
  |none=>rw[e1,e2] at J;exact absurd J<|ag _
  |some y=>
   rw[e1,e2] at J;dsimp only at J;obtain⟨u1,b5,ay⟩:=U.val _ _ _ e1;obtain⟨u2,b0,bc⟩:=U.val _ _ _ e2;refine as.Uw (by walk_at "l") ⟨cL<|by decide,λk1 b4=>?_⟩;obtain⟨X1,aj,aw,ba⟩:=aI b4<|.tup [.int (m.1:Int),.int (m.2.1:Int)];rw[aj];clear aj;refine⟨d,u1,rfl,by have:=jL.t (k:=kQ m.1 m.2.1) (aw _ _ U.hd) ba;rw[b5] at this;exact this,cL<|by decide,λk2 b8=>?_⟩;obtain⟨X2,ap,ax,bd⟩:=aI b8<|.tup [.int (m.2.1:Int),.int (m.2.2:Int)];rw[ap];clear ap;have S2:=aw.trans ax;refine⟨d,u2,rfl,by have:=jL.t (k:=kQ m.2.1 m.2.2) (S2 _ _ U.hd) bd;rw[b0] at this;exact this,?_⟩;have ac:=ae.mono S2;refine⟨c,pr',p,pl,tk,ml,wd,u1,u2,x,y,_,rfl,ac,as.mono S2,ay.keep λ_ _ z=>S2 _ _ z,bc.keep λ_ _ z=>S2 _ _ z,hk,J.bind,λu Y v pr2 fY b9 bf bg=>⟨cL<|by decide,λk3 b6=>?_⟩⟩;obtain⟨Y2,am,Z,be⟩:=aI b6<|.tup [.int (m.1:Int),.int (m.2.2:Int)];rw[am];clear am;have aa:DT Y2 d wi (B+k*i) kvi:=((U.mono S2).fr fY (Ad.SA ai) λt z h=>Ad.SA<|ac.tupS h (λ_ z=>by cases z) λ_ _ _ z=>by cases z).mono Z;have bh:k*i<=400:=by
    rcases ad with rfl|⟨rfl,_⟩
    .lia
    .lia
   refine⟨d,_,rfl,tp.t (k:=kQ m.1 m.2.2) aa.hd be<|rB (by have:=aa.len;lia),?_⟩;have au:=ao m<|jB hm;have b1:k=1∨(wi m.1 m.2.2).isSome=true:=by
    rcases af with z|⟨_,z⟩
    .exact .inl z
    .exact .inr (z m<|jB hm)
   refine⟨_,_,_,Po.put wi m.1 m.2.2 v,putK kvi (kQ m.1 m.2.2) u,pr2,rfl,?_,af.imp id λz=>⟨z.1,λm' b2=>Hk<|z.2 m' b2⟩,?_,?_,bg⟩
   .rw [To,<- Nat.add_assoc];exact aa.put au.1 au.2 (bf.keep λ_ _ z=>Z _ _ z) b1
   .exact (b9.mono Z).apart (S:=[d]) JJ (λb hb=>by rw[bD.mp hb];exact .inr<|.inr<|.inl ⟨_,aa.hd⟩) λb hb=>by rw[bD.mp hb];exact ai
   .intro b o n hb;rw[aO<|aX hb hd];exact Z _ _<|fY _ _ n<|S2 _ _<|fi _ _ n hb
 rintro σ X ⟨v4,v5,v6,wi,kvi,pr',rfl,U,af,ae,fi,J⟩;rw[hM.len] at U J;rw[Qw<|aK _] at J;walk_at "r";exact q d X wi kvi pr' fi hd U ae J
theorem Oa(F:aN K "top" "Pour.top" Ln f fd)(T:Bt K mg Cf Cg Ca Cd Cc Cb Ch Cj Ci Ce Ck)(Z:BO K Cm)
 :aH P w K mg base aC 1 f fd ["self"]<|mX bb Cm:=by
 refine F.ok qd (by (intro _ _ _ _ h;cases h;subst_vars;rfl)) λaa A outer s H vs Q E hr h=>?_
 refine' ⟨_,(cD<|jJ<|Fz PySem.F.plainAttrs_dict RX PySem.F.type_dict_get (AZ<|EJ hr) ?_ ?_),?_⟩;walk_at "d";obtain⟨p,ak,pl,tk,ml,wd,pls,pcs,w0,B,kvs,top,rfl,O,U,J,q⟩:=h;walk_at "r";refine O.hp.get Z.Db Z.Ng (by walk_at "l") ?_;walk_at "r";refine⟨.inr<|.inr<|.inl ⟨rfl,.inr ⟨_,U.hd⟩⟩,?_⟩;refine O.hp.get Z.Db Z.Ni (by walk_at "l") ?_;walk_at "r";refine⟨pl,_,rfl,.inl<|aB.of O.VS,cL<|by decide,λt ht=>?_⟩;rw[aJ,O.len];obtain⟨H1,e1,s1,h1⟩:=aI ht<|.tup [.int ((0:Nat):Int),.int (pcs.length:Int)];rw[show((0:Nat):Int)=0 from rfl] at e1;rw[e1];clear e1;refine⟨wd,_,_,rfl,rfl,jL.t (k:=kQ 0 pcs.length) (s1 _ _ U.hd) h1,?_⟩;rcases J with hv|⟨rfl,rfl⟩
 .obtain ⟨u,hu,fv⟩:=U.val _ _ _ hv;rw[hu];exact q u H1 s1<|fv.keep λ_ _ z=>s1 _ _ z
 .have:kvs=[]:=Ac.mp (by have:=U.len;lia);rw[this];exact q _ H1 s1 rfl
theorem Of(F:aN K "first" "Pour.first" Mp f fd)(T:Bt K mg Cf Cg Ca Cd Cc Cb Ch Cj Ci Ce Ck)(TX:BO K Cm)
  (J:Mt P w K mg base aC Cm "top" 1 ["self"]<|mX bb Cm)
 :aH P w K mg base aC 2 f fd ["self"]<|gJ bb Cm:=by
 refine F.ok gY (by (intro _ _ _ _ h;cases h;subst_vars;rfl)) λac A outer s H vs Q E hr h=>?_
 have aa:=gY.nd;refine' ⟨_,(aM ?_ ?_),?_⟩;walk_at "d";obtain⟨p,ak,pl,tk,ml,wd,pls,pcs,w0,B,kvs,top,rfl,U,Z,O,q⟩:=h;walk_at "r";refine U.hp.Uw (by walk_at "l") ⟨p,ak,pl,tk,ml,wd,pls,pcs,w0,B,kvs,top,rfl,U,Z,O,λu H1 s1 fv=>?_⟩;walk_at "r";cases top with
 |none=>
  cases(show u=V.Ux from fv);rw[Z9 rfl];exact q H1 s1
 |some x=>
  obtain⟨t,rfl,ht⟩:=fv;rw[Z8 λz=>by cases z];exact ib (bG.of ht) (cO (by decide) rfl)<|q H1 s1
theorem O2(F:aN K "left" "Pour.left" LC f fd)(T:Bt K mg Cf Cg Ca Cd Cc Cb Ch Cj Ci Ce Ck)(Z:BO K Cm)
 :aH P w K mg base aC 1 f fd ["self"]<|oW bb Cm:=by
 refine F.ok pC (by (intro _ _ _ _ h;cases h;subst_vars;rfl)) λad A outer s H vs Q E hr h=>?_
 refine' ⟨_,(cD<|jJ<|eY FF (kD (rp rfl) rfl T.WH PyProof.Rows.boot_sum<|bO<|wZ (js:=[]) (N:=[]) rfl ?_ λ_ _ _ _=>(kD (hV K) rfl T.VG Ry<|bO<|pv 0))<|kD (rp rfl) rfl T.WH PyProof.Rows.boot_sum ?_),?_⟩;walk_at "d";obtain⟨p,ak,pl,tk,ml,wd,pls,pcs,ts,rfl,z,UT,VS,aa,O,U,q⟩:=h;walk_at "r";refine z.hp.get Z.Db Z.Ni (by walk_at "l") ?_;walk_at "r";refine zY (aB.of z.VS) (by rw[aJ,z.len];lia) (λi ys σ H'=>∃v,σ=[v]/\H'=H/\ys=((pcs.take i).map λxs=>((xs.length:Nat):Int)).map V.int) ⟨_,rfl,rfl,rfl⟩ (λi ys σ H' _ zz=>by obtain⟨_,_,e,e2⟩:=zz;exact⟨by rw[e];exact aB.of z.VS,by rw[e2,aJ,aJ,gV];lia⟩) ?_ ?_
 .rintro i ys x σ H' hi hx ⟨v,rfl,rfl,rfl⟩;rw[aJ,z.len] at hi;obtain⟨xs,J⟩:∃xs,pcs[i]?=some xs:=⟨_,bL hi⟩
  obtain⟨l,el,hl⟩:=z.at J;rw[dF,el] at hx;cases hx;walk_at "r";refine⟨l,_,rfl,.inl<|aB.of hl,?_⟩;refine dH.of (by rw[aJ,z.len];exact hi) ⟨_,rfl,rfl,?_⟩;rw[RK,J,bX,bX];show _=_++[V.int ((xs.length:Nat):Int)];rw[aJ,DO]
 rintro ys σ H' ⟨v,rfl,rfl,rfl⟩ sl ac;rw[aJ,z.len,oR<|aK _];obtain⟨H1,e1,s1,h1⟩:=aI ac<|.lst<|(pcs.map λxs=>((xs.length:Nat):Int)).map V.int;rw[e1];clear e1;refine⟨sl,_,rfl,aB.of h1,⟨by rw[aJ];lia,λx hx=>by
  obtain⟨xs,h2,rfl⟩:=vn.mp hx;have:=O xs h2;lia⟩,?_⟩
 refine(z.mono s1).hp.get Z.Db Z.No (by walk_at "l") ?_;have e2:nL ts=(ts.map λ(n:Nat)=>(n:Int)).map V.int:=by unfold nL;rw[Dk];rfl
 refine⟨tk,_,rfl,aB.of (by rw[<- e2];exact s1 _ _ UT),⟨by rw[aJ];lia,λx hx=>by
  obtain⟨t,h2,rfl⟩:=vn.mp hx;have:=U t h2;lia⟩,?_⟩
 rw[sum_nat,show(pcs.map λxs=>((xs.length:Nat):Int))=(pcs.map Pz).map λ(n:Nat)=>(n:Int) by rw[Dk];rfl,sum_nat];exact q H1 s1
theorem Og(F:aN K "__init__" "Pour.__init__" LB f fd)(T:Bt K mg Cf Cg Ca Cd Cc Cb Ch Cj Ci Ce Ck)(O:BO K Cm)
  (az:Fn P w K mg base aC "meetings_of" 9 ["first","beyond"]<|bQ 9)
  (bf:Mt P w K mg base aC Cm "held" 6 ["self","meetings","went_on"]<|gI Ca (aG.mk Cb mg) bb Cm)
  (ax:Mt P w K mg base aC Cm "front_of" 1 ["self","piece","taken"]<|cF bb Cm)
 :aH P w K mg base aC 10 f fd ["self","asker","pieces"]<|bH Ca (aG.mk Cb mg) bb Cm:=by
 refine F.ok iO (by (intro _ _ _ _ h;cases h;subst_vars;rfl)) λdy A outer s H vs Q E hr h=>?_
 have dw:=iO.nd;refine' ⟨_,(aM ?_<|aM (IA ?_ (wZ (js:=[]) (N:=[]) rfl ?_ λ_ _ _ _=>(vc (hU K) rfl T.UJ PH<|bO<|pv 0)) rfl)<|bN<|aM (IA ?_ (wZ (js:=[]) (N:=[]) rfl ?_ λ_ _ _ _=>rK) rfl)<|bN<|aM ?_<|bN<|aM (IA ?_ yt rfl)<|aM (zU PJ rfl ?_ ?_<|cD<|Kv (EJ hr) ?_ ?_ ?_ rfl)<|bN ?_),?_⟩;walk_at "d";obtain⟨c,pr,x,dx,hl,hls,pcs,post,rfl,hx,st,bd,b3,bn,hn,nx,hk,w,d4,q⟩:=h;walk_at "r";have cy:hl≠x:=λz=>by rw[z,hx] at bd;cases bd
 refine cM hx O.Db O.N3 (by decide) λH2 x2 k2=>?_;walk_at "r";have av:∀b o,b≠x->H b=some o->H2 b=some o:=λb o n e=>by rw[k2 b n];exact e
 have cx:∀(i:Nat) l ys,hls[i]?=some l->pcs[i]?=some ys->H2 l=some (.lst<|nL<|rv bb ys):=λi l ys h1 h2=>by
  have h:=bn i l ys h1 h2;exact av _ _ (λz=>by rw[z,hx] at h;cases h) h
 refine zY (aB.of<|av _ _ cy bd) (by rw[aJ];lia) (λi ys σ H'=>L2.X2 λv ns=>σ=[v]/\aD H2 H'/\ys=ns.map V.ref/\ns.length=i/\(∀(j:Nat) l zs,ns[j]?=some l->pcs[j]?=some zs->H' l=some (.lst<|nL<|rv bb zs))/\∀l∈ns,H2 l=none) ⟨_,[],rfl,.refl _,rfl,rfl,λj l zs h=>by simp at h,λl h=>by cases h⟩ (λi ys σ H' _ zz=>by obtain⟨_,ns,_,e,e2,e3,_⟩:=zz;exact⟨aB.of<|e _ _<|av _ _ cy bd,by rw[e2,aJ];lia⟩) ?_ ?_
 .rintro i ys u σ H' hi hu ⟨v,ns,rfl,sA,rfl,dr,d7,d8⟩;rw[aJ] at hi;have dc:i<pcs.length:=by lia
  obtain⟨zs,b4⟩:∃zs,pcs[i]?=some zs:=⟨_,bL dc⟩
  rw[dF,bL hi] at hu;cases hu;have da:=sA _ _<|cx i _ zs (bL hi) b4;walk_at "r";refine⟨_,_,rfl,.inl<|aB.of da,λl' c9=>?_⟩;refine dH.of (by rw[aJ];exact hi) ⟨_,ns++[l'],rfl,sA.new c9,by rw[bX];rfl,by rw[aW,dr];rfl,λj l dk h1 h2=>?_,λl h=>?_⟩
  .by_cases z:j<ns.length
   .rw [oQ z] at h1;exact bE c9 _ _ _<|d7 j l dk h1 h2
   .rw [kF<|by lia] at h1;cases hk:j-ns.length with
    |zero=>
     rw[hk] at h1;cases h1;rw[show j=i by lia,b4] at h2;cases h2;exact aP
    |succ m=>rw[hk] at h1;simp at h1
  .rcases gN.mp h with h|h
   .exact d8 l h
   .rw [bD.mp h];exact sA.free c9
 rintro ys σ H3 ⟨v,pls,rfl,s3,rfl,b0,bo,b8⟩ pl b7;rw[aJ] at b0;obtain⟨H4,e4,s4,h4⟩:=aI b7<|.lst<|pls.map V.ref;rw[e4];clear e4;have x4:=s4 _ _<|s3 _ _ x2;have ah:pl≠x:=OY<|aX (s3 _ _ x2) b7;refine cM x4 O.Db O.Ni GU λH5 x5 k5=>?_;walk_at "r";have bg:∀b o,b≠x->H4 b=some o->H5 b=some o:=λb o n e=>by rw[k5 b n];exact e
 have U:=bg _ _ ah h4;have ac:∀l∈pls,l≠x:=λl h z=>by have:=b8 l h;rw[z,x2] at this;cases this
 have am:∀(j:Nat) l zs,pls[j]?=some l->pcs[j]?=some zs->H5 l=some (.lst<|nL<|rv bb zs):=λj l zs h1 h2=>bg _ _ (ac l<|jB h1)<|s4 _ _<|bo j l zs h1 h2;refine bM ?_;walk_at "r";have i5:aZ H5 x Cm [("pieces",.ref pl),("asker",.ref c.a)]:=(aZ.of x5<|cX FA<|by decide).congr λf=>by simp only[pO,lkc]
 refine i5.get O.Db O.Ni (by walk_at "l") ?_;refine zY (aB.of U) (by rw[aJ];lia) (λi ys σ H'=>∃v,σ=[v]/\aD H5 H'/\ys=nL (Pf i 0)) ⟨_,rfl,.refl _,rfl⟩ (λi ys σ H' _ zz=>by obtain⟨_,_,e,e2⟩:=zz;exact⟨aB.of<|e _ _ U,by rw[e2,aJ,BY];exact aK _⟩) ?_ ?_
 .rintro i ys u σ H' hi hu ⟨v,rfl,sA,rfl⟩;walk_at "r";refine dH.of hi ⟨_,rfl,sA,?_⟩;unfold nL;rw[List.replicate_succ',bX];rfl
 rintro ys σ H6 ⟨v,rfl,s6,rfl⟩ tk aq;rw[aJ,b0,b3];obtain⟨H7,e7,s7,h7⟩:=aI aq<|.lst<|nL<|Pf pcs.length 0;rw[e7];clear e7;have x7:=s7 _ _<|s6 _ _ x5;have ai:tk≠x:=OY<|aX (s6 _ _ x5) aq;refine cM x7 O.Db O.No FA λH8 x8 k8=>?_;walk_at "r";have b1:∀b o,b≠x->H5 b=some o->H8 b=some o:=λb o n e=>by rw[k8 b n];exact s7 _ _<|s6 _ _ e
 have au:H8 tk=some (.lst<|nL<|Pf pcs.length 0):=by rw[k8 tk ai];exact h7
 refine bM ?_;walk_at "r";have i8:aZ H8 x Cm [("taken",.ref tk),("pieces",.ref pl),("asker",.ref c.a)]:=(aZ.of x8<|cX FC<|by decide).congr λf=>by simp only[pO,lkc]
 refine i8.get O.Db O.Ni (by walk_at "l") ⟨pl,_,rfl,.inl<|aB.of<|b1 _ _ ah U,?_⟩;rw[aJ,b0,b3];refine⟨0,pcs.length,rfl,cE _,by lia,by decide,cX (by lia:pcs.length-0<=256)<|by decide,λml H9 mvs s9 b9 bj cc=>?_⟩;have x9:=s9 _ _ x8;have b6:ml≠x:=OY<|aX x8 b9;refine cM x9 O.Db O.Nw FC λbc bw b2=>?_;walk_at "r";have aa:∀b o,b≠x->H8 b=some o->bc b=some o:=λb o n e=>by rw[b2 b n];exact s9 _ _ e
 refine bM ?_;walk_at "r";intro wd as;obtain⟨H11,cw,c0,cn⟩:=aI as<|.dT [];rw[cw];clear cw;have cp:=c0 _ _ bw;have ap:wd≠x:=OY<|aX bw as;refine cM cp O.Db O.Ng HZ λad dh c5=>?_;walk_at "r";have af:∀b o,b≠x->bc b=some o->ad b=some o:=λb o n e=>by rw[c5 b n];exact c0 _ _ e
 have bx:aZ ad x Cm<|fP c.a pl tk ml wd:=(aZ.of dh<|cX JE<|by decide).congr λf=>by simp only[pO,lkc]
 have aj:bc ml=some (.lst mvs):=by rw[b2 ml b6];exact bj
 have bv:dI ad mvs<|Po.mts 0 pcs.length:=cc.keep λt z h=>by
  have n:t≠x:=λe=>by rw[e,x9] at h;cases h
  exact af _ _ n<|by rw[b2 t n];exact h
 have up:∀b o,b≠x->H5 b=some o->ad b=some o:=λb o n e=>af _ _ n<|aa _ _ n<|b1 _ _ n e;have c4:∀b o,b≠x->H b=some o->ad b=some o:=λb o n e=>up _ _ n<|bg _ _ n<|s4 _ _<|s3 _ _<|av _ _ n e;have J:PB bb Cm ad x c.a pl tk ml wd pls pcs:=⟨bx,up _ _ ah U,by lia,λi l ys h1 h2=>up _ _ (ac l<|jB h1)<|am i l ys h1 h2⟩
 have d3:fU bb Ca (aG.mk Cb mg) ad c pr:=st.apart (S:=[x]) (λb o n h=>c4 b o (λz=>n<|by rw[z];exact aU) h) (λb hb=>by rw[bD.mp hb];exact .inr<|.inl ⟨_,_,_,hx⟩) λb hb=>by rw[bD.mp hb];exact nx
 have fx:∀b,H2 b=none->H b=none:=λb h=>by
  cases e:H b with
  |none=>rfl
  |some o=>
   have n:b≠x:=λz=>by rw[z,x2] at h;cases h
   rw[av b o n e] at h;cases h
 have f5:∀b,b≠x->H5 b=none->H b=none:=λb n h=>fx b (s3.free<|s4.free<|by rw[<- k5 b n];exact h);have f8:∀b,b≠x->H8 b=none->H b=none:=λb n h=>f5 b n (s6.free<|s7.free<|by rw[<- k8 b n];exact h);have cj:∀b,b≠x->bc b=none->H b=none:=λb n h=>f8 b n (s9.free<|by rw[<- b2 b n];exact h);have ci:=fx pl<|s3.free b7;have cf:=f5 tk ai<|s6.free aq;have cu:=f8 ml b6 b9;have co:=cj wd ap as;have bq:∀l∈pls,H l=none:=λl h=>fx l<|b8 l h;have n5:∀b o,H5 b=some o->b≠tk:=λb o h=>aX (s6 _ _ h) aq;have n8:∀b o,H8 b=some o->b≠ml:=λb o h=>aX h b9;have b5:∀b o,bc b=some o->b≠wd:=λb o h=>aX h as;have ao:ad wd=some (.dT []):=by rw[c5 wd ap];exact cn
 have c6:=af _ _ ai<|aa _ _ ai au;have cb:=af _ _ b6 aj;have ce:pl≠wd:=b5 _ _<|aa _ _ ah<|b1 _ _ ah U;have dg:tk≠wd:=b5 _ _<|aa _ _ ai au;have dm:ml≠wd:=b5 _ _ aj;have be:∀l∈pls,l≠wd/\l≠tk:=λl h=>by
  obtain⟨j,hj,e⟩:=List.getElem_of_mem h;have e1:pls[j]?=some l:=by rw[bL hj,e]
  have h5:=am j l _ e1 (bL<|show j<pcs.length by lia);exact⟨b5 _ _<|aa _ _ (ac l h)<|b1 _ _ (ac l h) h5,n5 _ _ h5⟩
 have c3:tk≠pl:=OY<|n5 _ _ U;have ca:tk≠ml:=n8 tk _ au;clear k2 k5 k8 b2 c5 x2 x4 x5 x7 x8 x9 bw cp i5 i8 av bg b1 aa af s3 s4 s6 s7 s9 c0 cc h4 h7 cn U am au bj aj bo b8 fx f5 f8 cj n5 n8 b5 cx up;refine bx.get O.Db O.Ni (by walk_at "l") ⟨pl,_,rfl,.inl<|aB.of J.VS,?_⟩;rw[aJ,J.len];refine Hf (by lia)<|FG (λi σ X=>L2.X2 λv3 kvs=>σ=[some<|.ref x,some<|.ref c.a,some<|.ref hl,v3]/\DT X wd (wN pcs i) i kvs/\∀b o,b≠wd->ad b=some o->X b=some o) ⟨_,[],rfl,⟨ao,(λkv h=>by cases h),aK _,(λa c v h=>by unfold wN at h;rw[Z8<|by lia] at h;cases h)⟩,λb o _ h=>h⟩ ?_ ?_
 .rintro i σ X hi ⟨v3,kvs,rfl,df,kX⟩;have d2:i<pcs.length:=by lia
  obtain⟨zs,b4⟩:∃zs,pcs[i]?=some zs:=⟨_,bL d2⟩
  have ay:PB bb Cm X x c.a pl tk ml wd pls pcs:=⟨tf (S:=[wd]) (λb o n h=>kX b o (λz=>n<|by rw[z];exact aU) h) (λz=>ap (bD.mp z).symm) J.hp,kX _ _ ce J.VS,J.len,λj l ys h1 h2=>kX _ _ (be l<|jB h1).1<|J.pc j l ys h1 h2⟩
  walk_at "r";rw[QI];refine ay.hp.Uw (by walk_at "l") ⟨x,c.a,pl,tk,ml,wd,pls,pcs,i,0,zs,rfl,ay,b4,λu X2 br fv=>?_⟩;refine(ay.mono br).hp.get O.Db O.Ng (by walk_at "l") ?_;walk_at "r";refine⟨cL<|by decide,λk1 db=>?_⟩;obtain⟨X3,e3,bz,di⟩:=aI db<|.tup [.int (i:Int),.int ((i+1:Nat):Int)];rw[show(i:Int)+1=((i+1:Nat):Int) by lia,e3];clear e3;have bu:=(df.mono br).mono bz;refine⟨wd,_,rfl,tp.t (k:=kQ i<|i+1) bu.hd di<|rB (by have:=bu.len;lia),?_⟩;have ef:front zs 0 i=nV pcs (Pf pcs.length 0) i:=(yZ b4<|by rw[List.getElem?_replicate,Z9 d2]).symm;have ck:=bu.put (a:=i) (c:=i+1) (k:=1) (by lia) (by lia) (fv.keep λ_ _ z=>bz _ _ z)<|.inl rfl;rw[ef,Bc] at ck;exact⟨_,_,rfl,ck,λb o n h=>by rw[aO n];exact bz _ _<|br _ _<|kX b o n h⟩
 rintro σ X ⟨v3,kvs,rfl,c7,kX⟩;rw[Int.toNat_natCast] at c7;walk_at "r";refine bM ?_;walk_at "r";have iX:aZ X x Cm<|fP c.a pl tk ml wd:=tf (S:=[wd]) (λb o n h=>kX b o (λz=>n<|by rw[z];exact aU) h) (λz=>ap (bD.mp z).symm) bx;have de:=st.off co;have cv:fU bb Ca (aG.mk Cb mg) X c pr:=d3.apart (S:=[wd]) (λb o n h=>kX b o (λz=>n<|by rw[z];exact aU) h) (λb hb=>by rw[bD.mp hb];exact .inr<|.inr<|.inl ⟨_,ao⟩) λb hb=>by rw[bD.mp hb];exact de
 have bi:=kX _ _ dm cb;have bp:dI X mvs<|Po.mts 0 pcs.length:=bv.keep λt z h=>kX _ _ (λe=>by rw[e,ao] at h;cases h) h;refine iX.Uw (by walk_at "l")<|iX.get O.Db O.Nw (by walk_at "l")<|iX.get O.Db O.Ng (by walk_at "l") ?_;have sM:=Ad.SA<|st.off cu;refine⟨c,pr,x,pl,tk,ml,wd,ml,wd,mvs,Po.mts 0 pcs.length,wN pcs pcs.length,pcs.length,1,kvs,_,rfl,cv,iX,Ad.SA nx,sM,bi,bp,by rw[Po.eP];lia,λm hm=>?_,c7,by lia,.inl rfl,hk,w.U0<|K3 _ _<|Ed pcs pcs.length<|aK _,λpr' z=>d4 pr' z.2,λd cg w1 kvs' pr2 aw Z ag d1 d9=>?_⟩
 .have:=Po.iT (a:=m.1) (m:=m.2.1) (c:=m.2.2) _ _ hm;lia
 obtain⟨bt,c8⟩:=d9;obtain⟨cr,bt⟩:=bt w1 rfl;have ch:=tf aw (Ad.SA nx) iX;refine ch.set O.Db O.Ng (λae dq dp=>?_) ⟨_,by walk_at "l"⟩;have cz:d≠x:=λz=>by
  obtain⟨_,_,e1,_⟩:=iX.ex;rw[z,e1] at Z;cases Z
 have bh:∀b o,b≠x->cg b=some o->ae b=some o:=λb o n h=>by rw[dp b n];exact h
 have ay:PB bb Cm X x c.a pl tk ml wd pls pcs:=⟨iX,kX _ _ ce J.VS,J.len,λj l ys h1 h2=>kX _ _ (be l<|jB h1).1<|J.pc j l ys h1 h2⟩
 have ba:=ay.fr aw (Ad.SA nx) (Ad.SA<|st.off ci) λl h=>Ad.SA<|st.off<|bq l h;obtain⟨du,dt,d0,_⟩:=ch.ex;have tX:∀b o,cg b=some o->(∀C d f,o≠.ins C d f)->ae b=some o:=λb o h n=>bh b o (λz=>by
  rw[z,d0] at h;exact n _ _ _ (OS h).symm) h
 have d6:aZ ae x Cm<|fP c.a pl tk ml d:=dq.congr λf=>by
  simp only[pO,lkc];by_cases z:f=QB "went_on"
  .rw [Z9 z,Z9 z]
  .rw [Z8 z,Z8 z,Z8 z]
 have dj:pcs.length+1*(Po.mts 0 pcs.length).length=2*pcs.length-1:=by rw[Po.eP];lia
 rw[dj] at ag;have cm:DT ae d w1 (2*pcs.length-1) kvs':=⟨bh d _ cz ag.hd,ag.sm,ag.len,λa c v h=>let ⟨u,h1,h2⟩:=ag.val a c v h;⟨u,h1,h2.keep λt z y=>tX _ _ y λ_ _ _ z=>by cases z⟩⟩
 have cq:PB bb Cm ae x c.a pl tk ml d pls pcs:=⟨d6,tX _ _ ba.VS (λ_ _ _ z=>by cases z),ba.len,λj l ys h1 h2=>tX _ _ (ba.pc j l ys h1 h2) λ_ _ _ z=>by cases z⟩
 have ct:dI ae mvs<|Po.mts 0 pcs.length:=(bp.keep λt z h=>cv.tup aw h).keep λt z h=>tX _ _ h (λ_ _ _ z=>by cases z);have d5:fU bb Ca (aG.mk Cb mg) ae c pr2:=d1.apart (S:=[x]) (λb o n h=>bh b o (λz=>n<|by rw[z];exact aU) h) (λb hb=>by rw[bD.mp hb];exact .inr<|.inl ⟨_,_,_,d0⟩) λb hb=>by rw[bD.mp hb];exact nx
 have gd:H d=none:=by
  cases e:H d with
  |none=>rfl
  |some o=>
   have h1:=c4 d o cz e;by_cases z:d=wd
   .rw [z,c7.hd] at Z;cases Z
   .rw [kX d o z h1] at Z;cases Z
 refine q pl tk ml d pls w1 ae kvs' pr2 (λb o n1 n2 h=>?_) ⟨cq,tX _ _ (aw _ _ (Ad.SA<|st.off cf)<|kX _ _ dg c6) (λ_ _ _ z=>by cases z),⟨mvs,tX _ _ (aw _ _ sM bi) (λ_ _ _ z=>by cases z),ct⟩,cm,by rw[BY],⟨c3,ca,λl h=>(be l h).2⟩⟩ bt (λj hj=>cr _ _<|by unfold wN;rw[Z9 ⟨rfl,hj⟩];rfl) ⟨ci,cf,cu,gd,bq⟩ d5 c8;have n3:b≠wd:=λz=>by rw[z,co] at h;cases h
 exact bh b o n1<|aw _ _ n2<|kX b o n3<|c4 b o n1 h
theorem Oh(F:aN K "take" "Pour.take" LD f fd)(T:Bt K mg Cf Cg Ca Cd Cc Cb Ch Cj Ci Ce Ck)(TX:BO K Cm)
  (aw:Mt P w K mg base aC Cm "top" 1 ["self"]<|mX bb Cm)
  (ad:Mt P w K mg base aC Cm "front_of" 1 ["self","piece","taken"]<|cF bb Cm)
  (ap:Mt P w K mg base aC Cm "held" 6 ["self","meetings","went_on"]<|gI Ca (aG.mk Cb mg) bb Cm)
 :aH P w K mg base aC 7 f fd ["self"]<|dX Ca (aG.mk Cb mg) bb Cm:=by
 refine F.ok cT (by (intro _ _ _ _ h;cases h;subst_vars;rfl)) λch A outer s H vs Q E hr h=>?_
 have ce:=cT.nd;refine' ⟨_,(aM ?_<|aM ?_<|bN<|aM ?_<|aM ?_<|bN<|aM (Ja (i:=4) cT.nd rfl (Or.inl rfl) rfl (k:=1) (js:=[2]) (N':=["meeting","piece"]) (by rfl) ?_ (λ_ _ _ _=>rA (i:=0) (show(["meeting","piece"]:List Pa).Nodup by decide+kernel) rfl<|by (first | exact Or.inl rfl | exact Or.inr rfl)) (λ_ _ _ _=>(Lh<|PW.pt<|CW (lR JA (pN (wQ K) (pv 0) rK λ_ _=>rfl) (pv 1)<|gL _)<|EW<|lR Fy (pv 1) (pN (wQ K) (pv 0) rK λ_ _=>rfl)<|gL _)) λ_ _ _ _=>(pv 0))<|bN<|aM (mM (i:=5) cT.nd rfl (by (first | exact Or.inl rfl | exact Or.inr rfl))<|vc (lO) rfl T.VN RD ?_)<|bN<|aM (Kv (EJ hr) ?_ ?_ ?_ rfl)<|bN<|aM ?_<|bN ?_),?_⟩;walk_at "d";obtain⟨c,pr,p,pl,tk,ml,wd,pls,pcs,ts,w0,kvs,rfl,st,O,px,dw,au,hn,hk,ao⟩:=h;walk_at "r";have az:w0 0 pcs.length=some (if 0<pcs.length then((w0 0 pcs.length).getD none) else none)∨2*pcs.length-1=0/\(if 0<pcs.length then((w0 0 pcs.length).getD none) else none)=none:=by
  by_cases hz:0<pcs.length
  .rw [Z9 hz];left;have:(w0 0 pcs.length).isSome=true:=by
    by_cases z:pcs.length-0<2
    .have:=au 0 hz;rw[show 0+1=pcs.length by lia] at this;exact this
    .exact dw.pr (0,Po.mid 0 pcs.length,pcs.length) (by rw[Po.bP z];exact gM _ aU)
   obtain⟨v,hv⟩:=Option.isSome_iff_exists.mp this;rw[hv];rfl
  .rw [Z8 hz];exact .inr ⟨by lia,rfl⟩
 refine O.pb.hp.Uw (by walk_at "l") ⟨p,c.a,pl,tk,ml,wd,pls,pcs,w0,_,kvs,_,rfl,O.pb,O.Wq,az,λu H1 s1 fv=>?_⟩;walk_at "r";rcases ao with ⟨b3,q1⟩|⟨x,i,post,hz,br,w,ca,q2⟩
 .have e0:(if 0<pcs.length then((w0 0 pcs.length).getD none) else none:Po.Fr)=none:=by
   rcases b3 with z|z
   .rw [Z8<|by lia]
   .rw [z];split<;>rfl
  rw[e0] at fv;cases(show u=V.Ux from fv);rw[Z9 rfl];exact q1 H1 s1
 rw[Z9 hz,br] at fv;obtain⟨t0,rfl,as⟩:=fv;dsimp only at as;rw[Z8 λz=>by cases z];have ae:i<pcs.length:=dw.ix _ _ _ br;obtain⟨zs,bc⟩:∃zs,pcs[i]?=some zs:=⟨_,bL ae⟩
 obtain⟨t,ht⟩:∃t,ts[i]?=some t:=⟨_,bL<|show i<ts.length by rw[O.VZ];exact ae⟩
 have ai:rR ts i=ts.set i (t+1):=by
  unfold rR;rw[iA,ht];rfl
 rw[ai] at w q2;have cb:=st.mono s1;have bO:=O.mono s1;clear az;refine bM ?_;walk_at "r";refine ib (bG.of as) (cO (by decide) rfl) ?_;walk_at "r";refine bO.pb.hp.get TX.Db TX.No (by walk_at "l")<|dE (aB.of bO.UT) (Kc ht) ?_;walk_at "r";rw[show(t:Int)+1=((t+1:Nat):Int) by lia];refine bM ?_;walk_at "r";obtain⟨mvs,ay,am⟩:=bO.Xy;refine bO.pb.hp.get TX.Db TX.Nw (by walk_at "l") ?_;have bo:=am.len;rw[Po.eP] at bo;refine zY (aB.of ay) (by lia) (λk ys σ H'=>∃v,σ=[v,some<|.int (i:Int)]/\aD H1 H'/\dI H' ys (((Po.mts 0 pcs.length).take k).filter<|sf i)) ⟨_,rfl,.refl _,dI.nil⟩ (λk ys σ H' _ zz=>by obtain⟨_,_,e,hM⟩:=zz;exact⟨aB.of<|e _ _ ay,by rw[hM.len];exact cX (Q7 _ _)<|by rw[gV];lia⟩) ?_ ?_
 .rintro k ys u σ H' hk hu ⟨v,rfl,sA,hM⟩;obtain⟨m,hm⟩:∃m,(Po.mts 0 pcs.length)[k]?=some m:=⟨_,bL<|by rw[Po.eP];lia⟩
  obtain⟨tm,b8,c3⟩:=am.get k m hm;rw[hu] at b8;cases b8;have b1:=sA _ _ c3;have ai:(Po.mts 0 pcs.length).take (k+1)=(Po.mts 0 pcs.length).take k++[m]:=by rw[RK,hm];rfl
  walk_at "r";refine ib (bG.of b1) (cO (by decide) rfl) ?_;walk_at "r";by_cases h1:(m.1:Int)<=i
  .rw [Z9 h1];refine ib (bG.of b1) (cO (by decide) rfl) ?_;walk_at "r";by_cases h2:(i:Int)<m.2.2
   .rw [Z9 h2];refine dH.of hk ⟨_,rfl,sA,?_⟩;rw[ai,Aa,Qs<|by unfold sf;rw[decide_eq_true<|by lia,decide_eq_true<|by lia];rfl];exact hM.app<|dI.one b1
   .rw [Z8 h2];refine dH.of hk ⟨_,rfl,sA,?_⟩;rw[ai,Aa,Fb<|by unfold sf;rw[decide_eq_false (show ¬ i<m.2.2 by lia),T1];decide,List.filter_nil,gW];exact hM
  .rw [Z8 h1];refine dH.of hk ⟨_,rfl,sA,?_⟩;rw[ai,Aa,Fb<|by unfold sf;rw[decide_eq_false (show ¬ m.1<=i by lia),TZ];decide,List.filter_nil,gW];exact hM
 rintro ys σ H2 ⟨v,rfl,s2,bn⟩ wy b0;rw[am.len,oR<|aK _] at bn;obtain⟨H3,e3,s3,h3⟩:=aI b0<|.lst ys;rw[e3];clear e3;have S3:=s1.trans<|s2.trans s3;have zO:=O.mono S3;refine bM ?_;walk_at "r";refine zO.pb.hp.get TX.Db TX.Ng (by walk_at "l") ⟨wd,kvs,rfl,zO.Wq.hd,zO.Wq.sm,λd2 bj=>?_⟩;obtain⟨H4,e4,s4,h4⟩:=aI bj<|.dT kvs;rw[e4];clear e4;have S4:=S3.trans s4;have ag:=O.mono S4;have b9:DT H4 d2 w0 (2*pcs.length-1) kvs:=⟨h4,ag.Wq.sm,ag.Wq.len,ag.Wq.val⟩
 refine bM ?_;walk_at "r";refine ag.pb.hp.Uw (by walk_at "l") ⟨p,c.a,pl,tk,ml,wd,pls,pcs,i,t+1,zs,rfl,ag.pb,bc,λu H5 s5 fv=>?_⟩;walk_at "r";rw[show(i:Int)+1=((i+1:Nat):Int) by lia];refine⟨cL<|by decide,λk1 bd=>?_⟩;obtain⟨H6,e6,s6,h6⟩:=aI bd<|.tup [.int (i:Int),.int ((i+1:Nat):Int)];rw[e6];clear e6;have Z:=(b9.mono s5).mono s6;have hB:2*pcs.length-1<=400:=by lia
 refine⟨d2,_,rfl,tp.t (k:=kQ i<|i+1) Z.hd h6<|rB (by have:=Z.len;lia),?_⟩;have ah:=Z.put (a:=i) (c:=i+1) (k:=0) (by lia) (by lia) (fv.keep λ_ _ z=>s6 _ _ z)<|.inr<|au i ae;rw[Sb] at ah;have S6:=S4.trans<|s5.trans s6;have bq:H d2=none:=S3.free bj;have k7:∀b o,b≠d2->H6 b=some o->upd H6 d2 (.dT<|putK kvs (kQ i<|i+1) u) b=some o:=λb o n h=>by rw[aO n];exact h
 have S7:aD H<|upd H6 d2<|.dT<|putK kvs (kQ i<|i+1) u:=λb o h=>k7 b o (aX h bq)<|S6 _ _ h;have ac:=(s4.trans<|s5.trans s6) _ _ h3;have ax:=k7 wy _ (λz=>by rw[z,Z.hd] at ac;cases ac) ac;have b6:=bn.keep λb z h=>by
  have U:=(s3.trans<|s4.trans<|s5.trans s6) _ _ h;exact k7 b _ (λz=>by rw[z,Z.hd] at U;cases U) U
 have bv:front zs (t+1) i=nV pcs (ts.set i<|t+1) i:=(yZ bc<|by rw[List.getElem?_set,Z9 rfl,Z9<|by rw[O.VZ];exact ae]).symm;rw[bv] at ah;have bh:∀b z,H1 b=some (.tup z)->upd H6 d2 (.dT<|putK kvs (kQ i<|i+1) u) b=some (.tup z):=λb z h=>by
  have U:=(s2.trans<|s3.trans<|s4.trans<|s5.trans s6) _ _ h;exact k7 b _ (λz=>by rw[z,Z.hd] at U;cases U) U
 generalize upd H6 d2 (.dT<|putK kvs (kQ i<|i+1) u)=H7 at ah S7 ax b6 bh⊢;generalize putK kvs (kQ i<|i+1) u=kv7 at ah;have bw:∀b z,H1 b=some (.tup z)->H7 b=some (.tup z):=λb z h=>bh b z h;have be:=st.mono S7;have J:=O.mono S7;have cg:=as;have bz:H wy=none:=(s1.trans s2).free b0;clear k7 Z b9 s6 S6 ac h6 bd;refine bM ?_;walk_at "r";have c5:∀a' c' x,Po.put w0 i (i+1) (nV pcs (ts.set i<|t+1) i) a' c'=some (some x)->x.2<pcs.length:=yj dw.ix λx hx=>by rw[(C0 hx).1];exact ae
 refine J.pb.hp.Uw (by walk_at "l") ⟨c,pr,p,pl,tk,ml,wd,wy,d2,ys,_,_,2*pcs.length-1,0,kv7,_,rfl,be,J.pb.hp,Ad.SA px.p,Ad.SA<|st.off bz,ax,b6,cX (Q7 _ _)<|by rw[Po.eP];lia,λm hm=>?_,ah,by lia,.inr ⟨rfl,λm hm=>Hk<|dw.pr m (Dt.mp hm).1⟩,hk,w.U0<|K3 _ _ c5,λpr' z=>ca pr' z.2,λd8 H8 w1 kv8 pr2 f8 aq af c9 bx=>?_⟩
 .have:=Po.iT (a:=m.1) (m:=m.2.1) (c:=m.2.2) _ _ (Dt.mp hm).1;lia
 obtain⟨bu,b4⟩:=bx;obtain⟨av,ba⟩:=bu w1 rfl;have c4:Dw pcs.length (Po.mts 0 pcs.length) w1:=⟨λm hm=>av _ _<|Hk<|dw.pr m hm,ba.ix⟩
 have c8:∀j,j<pcs.length->(w1 j<|j+1).isSome=true:=λj hj=>av _ _<|Hk<|au j hj;have i8:=tf f8 (Ad.SA px.p) J.pb.hp;refine i8.set TX.Db TX.Ng (λH9 i9 k9=>?_) ⟨_,by walk_at "l"⟩;have b2:aZ H9 p Cm<|fP c.a pl tk ml d8:=i9.congr λf=>by
  simp only[pO,lkc];by_cases z:f=QB "went_on"
  .rw [Z9 z,Z9 z]
  .rw [Z8 z,Z8 z,Z8 z]
 obtain⟨ci,cc,e8,_⟩:=i8.ex;have e9:∀b o,b≠p->H8 b=some o->H9 b=some o:=λb o n h=>by rw[k9 b n];exact h
 have tX:∀b o,H8 b=some o->(∀C d f,o≠.ins C d f)->H9 b=some o:=λb o h n=>e9 b o (λz=>by rw[z,e8] at h;exact n _ _ _ (OS h).symm) h;have aj:=tX _ _ (f8 _ _ (Ad.SA px.tk) J.UT) (λ_ _ _ z=>by cases z);have c7:fU bb Ca (aG.mk Cb mg) H9 c pr2:=c9.apart (S:=[p]) (λb o n h=>e9 b o (λz=>n<|by rw[z];exact aU) h) (λb hb=>by rw[bD.mp hb];exact .inr<|.inl ⟨_,_,_,e8⟩) λb hb=>by rw[bD.mp hb];exact px.p
 have cf:d8≠p:=λz=>by
  obtain⟨_,_,e1,_⟩:=J.pb.hp.ex;rw[z,e1] at aq;cases aq
 have bp:d8≠tk:=λz=>by rw[z,J.UT] at aq;cases aq
 refine bM ?_;walk_at "r";refine b2.get TX.Db TX.No (by walk_at "l") ?_;refine⟨tk,_,_,_,rfl,rfl,aj,Ii (by lia)<|by rw[aJ,O.VZ];lia,?_⟩;rw[Int.toNat_natCast];have aa:∀b o,b≠tk->H9 b=some o->upd H9 tk (.lst<|(nL ts).set i<|.int ((t+1:Nat):Int)) b=some o:=λb o n h=>by rw[aO n];exact h
 have bg:upd H9 tk (.lst<|(nL ts).set i<|.int ((t+1:Nat):Int)) tk=some (.lst<|nL<|ts.set i<|t+1):=by
  rw[aP];unfold nL;rw[List.map_set]
 generalize upd H9 tk (.lst<|(nL ts).set i<|.int ((t+1:Nat):Int))=H10 at aa bg⊢;have c0:p≠tk:=λz=>by
  obtain⟨_,_,e1,_⟩:=b2.ex;rw[z,aj] at e1;cases e1
 have up:∀b o,b∉c.S->b≠tk->H7 b=some o->(∀C d f,o≠.ins C d f)->H10 b=some o:=λb o n1 n2 h n3=>aa b o n2<|tX _ _ (f8 _ _ n1 h) n3;have tS:∀b z,H7 b=some (.tup z)->H10 b=some (.tup z):=λb z h=>up b _ (Ad.SA<|be.tupS h (λ_ z=>by cases z) λ_ _ _ z=>by cases z) (λy=>by rw[y,J.UT] at h;cases h) h (λ_ _ _ z=>by cases z);have bt:=tS _ _<|bw t0 _ as;obtain⟨c6,b5,b7⟩:=J.Xy;rw[BS,Sb] at af;have bf:cQ bb Cm H10 p c.a pl tk ml d8 pls pcs (ts.set i<|t+1) w1 kv8:=⟨⟨tf (S:=[tk]) (λb o n h=>aa b o (λz=>n<|by rw[z];exact aU) h) (λz=>c0<|bD.mp z) b2,up _ _ (Ad.SA px.pl) (OY O.ne.1) J.pb.VS (λ_ _ _ z=>by cases z),O.pb.len,λj l ys h1 h2=>up _ _ (Ad.SA<|px.ls l<|jB h1) (O.ne.2.2 l<|jB h1) (J.pb.pc j l ys h1 h2) λ_ _ _ z=>by cases z⟩,bg,⟨c6,up _ _ (Ad.SA px.ml) (OY O.ne.2.1) b5 (λ_ _ _ z=>by cases z),b7.keep tS⟩,⟨aa _ _ bp (tX _ _ af.hd λ_ _ _ z=>by cases z),af.sm,af.len,λb c v h=>let ⟨u,h1,h2⟩:=af.val b c v h;⟨u,h1,h2.keep λt z y=>aa _ _ (λe=>by rw[e,f8 _ _ (Ad.SA px.tk) J.UT] at y;cases y)<|tX _ _ y λ_ _ _ z=>by cases z⟩⟩,by rw[Ae];exact O.VZ,O.ne⟩
 have bi:fU bb Ca (aG.mk Cb mg) H10 c pr2:=c7.apart (S:=[tk]) (λb o n h=>aa b o (λz=>n<|by rw[z];exact aU) h) (λb hb=>by rw[bD.mp hb];exact .inl ⟨_,aj⟩) λb hb=>by rw[bD.mp hb];exact px.tk
 walk_at "r";refine ib (bG.of bt) (cO (by decide) rfl) ?_;refine q2 d8 w1 H10 kv8 pr2 (λb o n h=>?_) bf c4 c8 bi b4;have m:∀c',c'∈[p,tk,c.a,c.lg,c.tl]->b≠c':=λc' hc z=>n (by rw[z];exact hc);exact aa b o (m tk<|by simp)<|e9 b o (m p<|by simp)<|f8 b o (λz=>n<|bA _<|bA _ z)<|S7 _ _ h
theorem M4(F:aN K "poured" "poured" KZ f fd)(T:Bt K mg Cf Cg Ca Cd Cc Cb Ch Cj Ci Ce Ck)
  (J:Mt P w K mg base aC Cf "take" 7 ["self"]<|dX Ca (aG.mk Cb mg) false Cf)
  (af:Mt P w K mg base aC Cf "left" 1 ["self"]<|oW false Cf)
  (b0:Kl P w K mg base aC "Pour" Cf 10 ["self","asker","pieces"]<|bH Ca (aG.mk Cb mg) false Cf)
 :aH P w K mg base aC 12 f fd ["asker","pieces"]<|cU Ca<|aG.mk Cb mg:=by
 refine F.ok Vn (by (intro _ _ _ _ h;cases h;subst_vars;rfl)) λbn A outer s H vs Q E hr h=>?_
 have bh:=Vn.nd;refine' ⟨_,(aM ?_<|cD<|jJ<|wZ (js:=[2]) (N:=["pour"]) rfl ?_ λ_ _ _ _=>(ER J hr.mn gK<|pv 1)),?_⟩;walk_at "d";obtain⟨c,pr,hl,hls,pcs,post,rfl,st,az,hP,hn,ht,hk,w,ag,q⟩:=h;walk_at "r";intro po dp ac bd b7;have av:upd H dp (.own po) po=none:=by rw[aO<|OY b7];exact ac
 have U:aD H<|upd (upd H dp<|.own po) po<|.ins Cf dp []:=(bE bd _).trans<|bE av _;have as:(upd (upd H dp<|.own po) po<|.ins Cf dp []) po=some (.ins Cf dp []):=aP;generalize upd (upd H dp<|.own po) po (.ins Cf dp [])=H16 at U as⊢;have ay:=st.off ac;replace w:=w.U0<|qw pcs;replace ag:∀pr',¬ ((∀os,(none:Option<|List Nat)=some os->os.length=tot pcs)/\post none pr'):=λpr' z=>ag pr' z.2;generalize Xf:(λo pr'=>(∀os,o=some os->os.length=tot pcs)/\post o pr')=post2 at w;have aa:∀pr',¬ post2 none pr':=λpr' z=>by rw[<- Xf] at z;exact ag pr' z
 unfold C1 at w;refine⟨c,pr,po,dp,hl,hls,pcs,_,rfl,as,st.mono U,U _ _ az,hP.len,λj l zs h1 h2=>U _ _<|hP.at' j l zs h1 h2,hn,ay,hk,w.bind,λpr' z=>aa pr' z,λpl tk ml wd pls w1 H17 kvs pr1 bf pa dw b8 O ap ae=>⟨rfl,?_⟩⟩;have fr:∀b,H16 b=none->H b=none:=λb h=>U.free h;have px:PX c po pl tk ml pls:=⟨ay,st.off<|fr _ O.1,st.off<|fr _ O.2.1,st.off<|fr _ O.2.2.1,λl h=>st.off<|fr _<|O.2.2.2.2 l h⟩
 have b1:=fr _ O.2.1;have bc:Fr c.S H H17:=λb o n h=>bf b o (aX h ac) n<|U _ _ h;have hsz:∀ys∈pcs,ys.length<=500:=λys hy=>cX (tI hy) ht;walk_at "r";have tz:∀t∈Pf pcs.length 0,t<=500:=λt h=>by rw[(List.mem_replicate.mp h).2];decide
 refine pa.pb.hp.Uw (by walk_at "l") ⟨po,c.a,pl,tk,ml,wd,pls,pcs,_,rfl,pa.pb,pa.UT,by lia,by rw[BY];lia,hsz,tz,λbj am=>?_⟩;rw[show(Pf pcs.length 0).sum=0 by simp,Int.natCast_zero,Int.sub_zero];have ae:Wp c.n c.an (oK pcs (pcs.map Pz).sum (Pf pcs.length 0) w1 []) pr1 post2:=ae;have b3:(pcs.map Pz).sum<=500:=ht;obtain⟨m,hm⟩:∃m,(pcs.map Pz).sum=m:=⟨_,rfl⟩
 rw[hm] at ae b3⊢;refine C3 (by lia) (λk ys σ X=>L2.X7 λv wd w kvs ts acc pr'=>σ=[v,some<|.ref po]/\ys=nL acc/\acc.length=k/\k<=m/\aE Ca (aG.mk Cb mg) X c pr'/\cQ false Cf X po c.a pl tk ml wd pls pcs ts w kvs/\Dw pcs.length (Po.mts 0 pcs.length) w/\(∀j,j<pcs.length->(w j<|j+1).isSome=true)/\Fr [po,tk,c.a,c.lg,c.tl] H17 X/\Wp c.n c.an (oK pcs (m-k) ts w acc) pr' post2) ⟨_,wd,w1,kvs,_,[],pr1,rfl,rfl,rfl,cE _,ap.mono am,pa.mono am,dw,b8,am.fr,ae⟩ (λk ys σ X zz=>by obtain⟨_,_,_,_,_,_,_,_,e,e2,_⟩:=zz;rw[e,aJ,e2];exact aK _) ?_ ?_
 .rintro k ys σ X bi ⟨v,aq,w2,ai,ts,acc,pr2,rfl,rfl,aw,b6,ad,ao,ax,ah,fX,Z⟩;have bg:k<m:=by lia
  have hz:0<pcs.length:=by
   cases pcs with
   |nil=>simp at hm;lia
   |cons p ps=>simp
  rw[show m-k=(m-(k+1))+1 by lia,oK] at Z;walk_at "r";split at Z
  .rename_i cc hcc;obtain⟨x,i⟩:=cc;dsimp only at Z;refine ao.pb.hp.Uw (by walk_at "l") ⟨c,pr2,po,pl,tk,ml,aq,pls,pcs,ts,w2,ai,rfl,ad,ao,px,ax,ah,hn,hk,.inr ⟨x,i,_,hz,hcc,Z.bind,λpr' z=>aa pr' z,λwd' w' Y b5 ba fY b4 be au b9 b2=>?_⟩⟩;refine dH.of (by lia) ⟨_,wd',w',b5,_,acc++[x],ba,rfl,?_,by rw[aW,aw];rfl,by lia,b9,b4,be,au,fX.trans fY,b2⟩;unfold nL;rw[bX];rfl
  .exact absurd Z (aa _)
 rintro ys σ X ⟨v,aq,w2,ai,ts,acc,pr2,rfl,rfl,aw,b6,ad,ao,ax,ah,fX,Z⟩ l aj;rw[Int.toNat_natCast,jT] at Z;have fH:Fr c.S H X:=λb o n h=>by
  refine fX b o (λz=>?_)<|bc b o n h;rcases bC.mp z with z|z
  .exact aX h ac z
  rcases bC.mp z with z|z
  .exact aX h b1 z
  .exact n z
 have Z:post2 (some acc) pr2:=Z;rw[<- Xf] at Z;exact q l _ acc pr2 (fH.trans (bE aj _).fr) (ad.free fH aj) aP (ad.mono<|bE aj _) (Z.1 acc rfl) Z.2
theorem NT(F:aN K "one_round" "one_round" LI f fd)(T:Bt K mg Cf Cg Ca Cd Cc Cb Ch Cj Ci Ce Ck)
  (O:Fn P w K mg base aC "poured" 12 ["asker","pieces"]<|cU Ca<|aG.mk Cb mg)
 :aH P w K mg base aC 13 f fd ["asker","pieces","mouths"]<|dM Ca<|aG.mk Cb mg:=by
 refine F.ok MZ (by (intro _ _ _ _ h;cases h;subst_vars;rfl)) λay A outer s H vs Q E hr h=>?_
 refine' ⟨_,(cD<|jJ<|wZ (js:=[0,1,2]) (N:=["asker","pieces","mouths"]) rfl (nG rfl T.UE ?_) λ_ _ _ _=>(wG O hr.mn rfl gK<|fS (pv 1)<|FH (K1 K) (pv 2) (BF<|pv 0)<|BF<|eY CU (pv 0)<|pv 3)),?_⟩;walk_at "d";obtain⟨c,pr,hl,hls,pcs,d,post,rfl,st,af,hP,aj,ad,hn,ht,hd,ap,hk,w,am,q⟩:=h;walk_at "r";refine⟨hl,_,rfl,.inl<|aB.of af,?_⟩;rw[aJ,hP.len];refine nY (i:=((0:Nat):Int)) (by lia) (tW hd) (cL (by have:=JL (n:=pcs.length) hd;lia)) (λk ys σ X=>L2.X4 λv ls out pr'=>σ=[v,some<|.ref c.a,some<|.ref hl,some<|.int (d:Int)]/\ys=ls.map V.ref/\ls.length=k/\PL X ls out/\tot out+tot (pcs.drop<|k*d)=tot pcs/\aE Ca (aG.mk Cb mg) X c pr'/\Fr c.S H X/\(∀l∈ls,H l=none)/\Wp c.n c.an (se d (cN pcs.length d-k) (pcs.drop<|k*d) out) pr' post) ⟨_,[],[],pr,rfl,rfl,rfl,.nil,by rw[BS];show 0+tot pcs=tot pcs;lia,st,.refl,(λl h=>by cases h),by rw[BS];exact w⟩ (λk ys σ X zz=>by obtain⟨_,ls,_,_,_,e,e2,_⟩:=zz;rw[e,aJ,e2];exact aK _) ?_ ?_
 .rintro k ys σ X au ⟨v,ls,out,pr1,rfl,rfl,ae,ac,ai,U,fX,J,wX⟩;walk_at "r";have e0:((0:Nat):Int)+(k:Int)*(d:Int)=((k*d:Nat):Int):=by rw[Int.natCast_mul];lia
  rw[e0];refine va (aB.of<|fX _ _ (Ad.SA aj) af) λs1 ax=>?_;rw[zp,<- BU,<- BV];obtain⟨X1,e1,Z,h1⟩:=aI ax<|.lst<|((hls.drop<|k*d).take d).map V.ref;rw[e1];clear e1;have aw:PL X1 ((hls.drop<|k*d).take d)<|(pcs.drop<|k*d).take d:=((hP.WE fX λb hb=>Ad.SA<|ad b hb).sl (k*d) d).mono Z;have as:=Dy (pcs.drop<|k*d) d;rw[Ss] at as;rw[show cN pcs.length d-k=(cN pcs.length d-(k+1))+1 by lia,se,Ss] at wX;walk_at "r";refine⟨c,pr1,s1,_,_,_,rfl,U.mono Z,h1,aw,by rw[gV,dW];lia,by lia,hk,wX.bind,λpr' z=>am pr' z,λl Y os pr2 fY aa aq av az ao=>?_⟩;have ag:X l=none:=Z.free aa;have ah:H l=none:=U.free fX ag;refine dH.of au ⟨_,ls++[l],out++[os],pr2,rfl,by rw[bX];rfl,by rw[aW,ae];rfl,?_,?_,av,fX.trans<|Z.fr.trans fY,λl' h=>?_,?_⟩
  .exact ((ac.mono Z).WE fY λb hb=>Ad.SA<|st.off<|J b hb).snoc aq
  .rw [KG,BP,show tot [os]=os.length by unfold tot;simp];lia
  .rcases gN.mp h with h|h
   .exact J l' h
   .rw [bD.mp h];exact ah
  .rw [BP];exact ao
 rintro ys σ X ⟨v,ls,out,pr1,rfl,rfl,ae,ac,ai,U,fX,J,wX⟩ l aa;have sN:=bE aa<|.lst<|ls.map V.ref;rw[jT] at wX;have e0:pcs.drop (cN pcs.length d*d)=[]:=Qw<|JK hd;rw[e0] at ai;have:tot ([]:List<|List Nat)=0:=rfl;exact q l _ ls out pr1 (fX.trans sN.fr) (U.free fX aa) aP (ac.mono sN) J (U.mono sN) (by rw[<- ac.len,ae]) (by lia) wX
theorem NC(F:eQ K "in_rounds" "in_rounds" LG f fd dv)(T:Bt K mg Cf Cg Ca Cd Cc Cb Ch Cj Ci Ce Ck)
  (am:Fn P w K mg base aC "one_round" 13 ["asker","pieces","mouths"]<|dM Ca<|aG.mk Cb mg)
 :aH P w K mg base aC 14 f fd ["asker","pieces","mouths"]<|cI Ca<|aG.mk Cb mg:=by
 refine F.ok Vl (by (intro _ _ _ _ h;cases h;subst_vars;rfl)) λca A outer s H vs Q E hr h=>?_
 have c7:=Vl.nd;refine' ⟨_,(aM (FL (i:=3) Vl.nd rfl (Or.inl rfl) (js:=[]) (N:=[]) rfl ?_ λ_ _ _ _=>(vc (hU K) rfl T.UJ PH<|bO<|pv 0))<|bN<|aM ?_<|bN<|aM ?_<|bN<|cD<|jJ<|ES<|fS (qC (yk ?_) ?_ ?_) ?_),?_⟩;walk_at "d";obtain⟨c,pr,hl,hls,pcs,d,post,rfl,st,az,hP,hn,ht,b7,b2,hk,w,bh,q⟩:=h;walk_at "r";have c8:=hP.len;refine zY (aB.of az) (by rw[aJ];lia) (λi ys σ H'=>L2.X2 λv ns=>σ=[v]/\aD H H'/\ys=ns.map V.ref/\ns.length=i/\(∀(j:Nat) l zs,ns[j]?=some l->pcs[j]?=some zs->H' l=some (.lst<|nL zs))/\∀l∈ns,H l=none/\∃z,H' l=some (.lst z)) ⟨_,[],rfl,.refl _,rfl,rfl,λj l zs h=>by simp at h,λl h=>by cases h⟩ (λi ys σ H' _ zz=>by obtain⟨_,ns,_,e,e2,e3,_⟩:=zz;exact⟨aB.of<|e _ _ az,by rw[e2,aJ];lia⟩) ?_ ?_
 .rintro i ys u σ H' hi hu ⟨v,ns,rfl,sA,rfl,au,ad,bj⟩;rw[aJ] at hi;have bq:i<pcs.length:=by lia
  obtain⟨zs,b3⟩:∃zs,pcs[i]?=some zs:=⟨_,bL bq⟩
  rw[dF,bL hi] at hu;cases hu;have bp:=sA _ _<|hP.at' i _ zs (bL hi) b3;walk_at "r";refine⟨_,_,rfl,.inl<|aB.of bp,λl' as=>?_⟩;refine dH.of (by rw[aJ];exact hi) ⟨_,ns++[l'],rfl,sA.new as,by rw[bX];rfl,by rw[aW,au];rfl,λj l bw h1 h2=>?_,λl h=>?_⟩
  .by_cases z:j<ns.length
   .rw [oQ z] at h1;exact bE as _ _ _<|ad j l bw h1 h2
   .rw [kF<|by lia] at h1;cases hk:j-ns.length with
    |zero=>
     rw[hk] at h1;cases h1;rw[show j=i by lia,b3] at h2;cases h2;exact aP
    |succ m=>rw[hk] at h1;simp at h1
  .rcases gN.mp h with h|h
   .obtain ⟨a1,z,a2⟩:=bj l h;exact⟨a1,z,bE as _ _ _ a2⟩
   .rw [bD.mp h];exact⟨sA.free as,_,aP⟩
 rintro ys σ c3 ⟨v,ad,rfl,ba,rfl,au,bd,b1⟩ bx W8;rw[aJ] at au;obtain⟨bo,bf,b0,be⟩:=aI W8<|.lst<|ad.map V.ref;rw[bf];clear bf;have b8:=ba.trans b0;have ag:PL bo ad pcs:=⟨by lia,λj l zs h1 h2=>b0 _ _<|bd j l zs h1 h2⟩
 refine bM ?_;walk_at "r";refine⟨cE _,λnm aa=>?_⟩;obtain⟨c9,b9,aw,bt⟩:=aI aa<|.lst [];rw[b9];clear b9;have bc:=b8.trans aw;refine bM ?_;walk_at "r";refine xa (λm σ X=>L2.X6 λcm ls O J f pr'=>m=O.length/\σ=[some<|.ref c.a,some<|.ref hl,some<|.int (d:Int),some<|.ref cm,some<|.ref nm]/\aE Ca (aG.mk Cb mg) X c pr'/\X cm=some (.lst<|ls.map V.ref)/\PL X ls O/\X nm=some (.lst<|nL J)/\H cm=none/\(∀b∈ls,H b=none/\b≠nm)/\cm≠nm/\J.length+O.length<=200/\O.length<=f+1/\tot O=tot pcs/\Fr c.S H X/\Wp c.n c.an (zE d f O J) pr' post) ⟨_,bx,ad,pcs,[],_,pr,rfl,rfl,st.mono bc,aw _ _ be,ag.mono aw,bt,ba.free W8,λb hb=>⟨(b1 b hb).1,λz=>by obtain⟨y,hy⟩:=ag.ex hb;rw[z,aa] at hy;cases hy⟩,aX be aa,by simp;lia,lT _,rfl,bc.fr,w⟩ ?_;rintro m σ X ⟨cm,ls,O,J,f,pr1,rfl,rfl,U,ao,ah,aq,bu,bi,c4,au,c0,ae,fX,wX⟩;have af:H nm=none:=b8.free aa;walk_at "r";refine⟨cm,_,rfl,.inl<|aB.of ao,?_⟩;rw[aJ,ah.len];by_cases UA:(O.length:Int)>1
 .rw [Z9 UA];refine w8 ?_;walk_at "r";obtain⟨f,rfl⟩:∃k,f=k+1:=⟨f-1,by lia⟩
  rw[zE,Z9<|by lia] at wX;have cb:=yV (l:=O.length) b7 (by lia);refine⟨c,pr1,cm,ls,O,d,_,rfl,U,ao,ah,st.off bu,λl hl=>st.off (bi l hl).1,by lia,by lia,by lia,b2,hk,wX.bind,λpr' z=>bh pr' z,λl Y br out pr2 fY av b4 b6 ai bv c6 c5 bn=>?_⟩;have aj:=fY _ _ (Ad.SA<|st.off af) aq;walk_at "r";refine⟨.inl ⟨rfl,_,aB.of aj⟩,l,_,rfl,.inl<|aB.of b4,nm,_,_,rfl,rfl,aj,rB<|by rw[aJ];lia,?_⟩;rw[aJ,b6.len];have fZ:Fr [nm] Y<|upd Y nm<|.lst<|nL J++[.int ((out.length:Nat):Int)]:=Fr.upd aU;have hZ:upd Y nm (.lst<|nL J++[.int ((out.length:Nat):Int)]) nm=some (.lst<|nL<|J++[out.length]):=by
   rw[aP];unfold nL;rw[bX];rfl
  generalize upd Y nm (.lst<|nL J++[.int ((out.length:Nat):Int)])=Z at fZ hZ⊢;have ap:∀b,X b=none->b≠nm:=λb h=>OY<|aX aq h;have ax:∀b,b≠nm->b∉[nm]:=λb n z=>n<|bD.mp z;refine⟨out.length,by lia,l,br,out,J++[out.length],f,pr2,rfl,rfl,?_,fZ _ _ (ax _<|ap l av) b4,b6.WE fZ λb hb=>ax _<|ap b<|ai b hb,hZ,U.free fX av,λb hb=>⟨U.free fX<|ai b hb,ap b<|ai b hb⟩,ap l av,by rw[aW,iC];lia,by lia,by lia,λb o n hb=>fZ _ _ (ax _<|aX hb af)<|fY _ _ n<|fX b o n hb,bn⟩;exact bv.apart fZ (λb hb=>by rw[bD.mp hb];exact .inl ⟨_,aj⟩) λb hb=>by rw[bD.mp hb];exact st.off af
 .rw [Z8 UA];have h1:O.length<=1:=by lia
  have wE:post (some (O.headD [],J)) pr1:=by
   cases f with
   |zero=>exact wX
   |succ f=>rw[zE,Z8<|by lia] at wX;exact wX
  refine bM ?_;walk_at "r";refine⟨cm,_,rfl,aB.of ao,?_⟩;cases ls with
  |nil=>
   have b5:O=[]:=Ac.mp (by have:=ah.len;rw[<- this];rfl);rw[Z8<|by simp];refine⟨cE _,λe0 bg=>⟨cL<|by decide,λtt ac=>?_⟩⟩;have s0:=bE bg<|.lst [];have S:=s0.trans<|bE ac<|.tup [.ref e0,.ref nm];refine q tt e0 nm _ _ pr1 (fX.trans S.fr) (U.free fX<|s0.free ac) (U.free fX bg) af aP ?_ (S _ _ aq) (U.mono S) ?_ wE
   .rw [b5];exact bE ac _ _ _ aP
   .rw [b5] at ae⊢;exact ae
  |cons b r=>
   obtain⟨ys,ay⟩:∃ys,O=[ys]:=by
    have bz:=ah.len;cases O with
    |nil=>simp at bz
    |cons y t=>
     cases t with
     |nil=>exact⟨y,rfl⟩
     |cons z t=>simp at h1
   rw[Z9<|by simp];refine dE (aB.of ao) (cO (v:=.ref b) (by decide) rfl) ⟨cL<|by decide,λtt ac=>?_⟩;have S:=bE ac<|.tup [.ref b,.ref nm];have hb:=ah.at' 0 b ys rfl (by rw[ay];rfl);refine q tt b nm _ _ pr1 (fX.trans S.fr) (U.free fX ac) (bi b aU).1 af aP ?_ (S _ _ aq) (U.mono S) ?_ wE
   .rw [ay];exact S _ _ hb
   .rw [ay] at ae⊢;unfold tot at ae⊢;simpa using ae
theorem Oe(F:eQ K "by_pieces" "by_pieces" LF f fd dv)(T:Bt K mg Cf Cg Ca Cd Cc Cb Ch Cj Ci Ce Ck)
  (U:Fn P w K mg base aC "by_pile" 9 ["asker","least","part"]<|bT Ca<|aG.mk Cb mg)
  (af:Fn P w K mg base aC "in_rounds" 14 ["asker","pieces","mouths"]<|cI Ca<|aG.mk Cb mg)
  (ad:Mt P w K mg base aC Ca "many" 1 ["self"]<|dB Ca)
 :aH P w K mg base aC 15 f fd ["asker","wide","mouths","least"]<|bI Ca<|aG.mk Cb mg:=by
 refine F.ok Vm (by (intro _ _ _ _ h;cases h;subst_vars;rfl)) λb8 A outer s H vs Q E hr h=>?_
 have b6:=Vm.nd;refine' ⟨_,(aM ?_<|bN<|aM (FL (i:=5) Vm.nd rfl (Or.inl rfl) (js:=[0,3,1,4]) (N:=["asker","least","wide","many"]) rfl (nG rfl T.UE ?_) λ_ _ _ _=>(wG U hr.mn rfl gK<|zO (pv 1) (pv 2)<|ES<|fS (pv 0)<|kD (oB rfl) rfl T.Wj RH<|fS (eY CU (pv 0)<|pv 3)<|pv 4))<|bN ?_),?_⟩;walk_at "d";obtain⟨c,pr,wd,d,ls,post,rfl,st,Z,au,as,aj,hn,w,aw,q⟩:=h;walk_at "r";refine st.ha.Uw (by walk_at "l") ⟨c.a,c.rl,c.ru,c.tl,.Ux,_,c.xs,rfl,st.ha,st.VW,?_⟩;rw[st.len];walk_at "r";refine bM ?_;walk_at "r";have b5:c.ks.length<=200:=hn;unfold Kd at w;have w:=w.bind;unfold Kb at w;refine nY (i:=((0:Nat):Int)) (by lia) (tW (n:=c.n) Z) (cL (by have:=JL (n:=c.n) Z;lia)) (λk ys σ X=>L2.X4 λv J out pr'=>σ=[v,some<|.ref c.a,some<|.int (ls:Nat),some<|.int (wd:Nat),some<|.int (c.n:Nat)]/\ys=J.map V.ref/\J.length=k/\PL X J out/\tot out=min (k*wd) c.n/\aE Ca (aG.mk Cb mg) X c pr'/\Fr c.S H X/\(∀l∈J,H l=none)/\Wp c.n c.an (yw grd ls wd c.n (cN c.n wd-k) (k*wd) out) pr' λpcs pr'=>Wp c.n c.an ((zE d pcs.length pcs []).bind λo=>match o with
  |none=>.ret none
  |some r=>.ret<|some r.1) pr' post) ⟨_,[],[],pr,rfl,rfl,rfl,.nil,by rw[BS,Nat.zero_min];rfl,st,.refl,(λl h=>by cases h),by rw[BS];exact w⟩ (λk ys σ X zz=>by obtain⟨_,ls,_,_,_,e,e2,_⟩:=zz;rw[e,aJ,e2];exact aK _) ?_ ?_
 .rintro k ys σ X aq ⟨v,J,out,pr1,rfl,rfl,av,ae,ap,aa,fX,ac,wX⟩;walk_at "r";have az:=Ep Z aq;have e0:((0:Nat):Int)+(k:Int)*(wd:Int)=((k*wd:Nat):Int):=by rw[Int.natCast_mul];lia
  rw[e0];generalize XD:k*wd=s at wX az ap;refine⟨_,_,rfl,?_⟩;rw[Fw,show min ((s:Int)+wd) (c.n:Nat)=((min (s+wd) c.n:Nat):Int) by lia];refine⟨cL<|by decide,λpt b0=>?_⟩;obtain⟨X1,e1,O,h1⟩:=aI b0<|.tup [.int (s:Int),.int ((min (s+wd) c.n:Nat):Int)];rw[e1];clear e1;rw[show cN c.n wd-k=(cN c.n wd-(k+1))+1 by lia,yw] at wX;refine⟨c,pr1,ls,s,min (s+wd) c.n,.ref pt,_,rfl,aa.mono O,.inl ⟨pt,rfl,h1⟩,by lia,by lia,by lia,wX.bind,λl Y os pr2 fY ag ay ai b9 ah=>?_⟩;have am:X l=none:=O.free ag;refine dH.of aq ⟨_,J++[l],out++[os],pr2,rfl,by rw[bX];rfl,by rw[aW,av];rfl,((ae.mono O).WE fY λb hb=>Ad.SA<|st.off<|ac b hb).snoc ay,?_,ai,fX.trans<|O.fr.trans fY,λl' h=>?_,?_⟩
  .rw [KG,BP,XD,show tot [os]=os.length by unfold tot;simp];lia
  .rcases gN.mp h with h|h
   .exact ac l' h
   .rw [bD.mp h];exact aa.free fX am
  .rw [BP,XD];exact ah
 rintro ys σ X ⟨v,J,out,pr1,rfl,rfl,av,ae,ap,aa,fX,ac,wX⟩ pl ao;rw[jT] at wX;have wX:Wp c.n c.an ((zE d out.length out []).bind _) pr1 post:=wX;obtain⟨X1,e1,O,h1⟩:=aI ao<|.lst<|J.map V.ref;rw[e1];clear e1;have ba:=JL (n:=c.n) Z;have b4:=ae.len;refine bM ?_;walk_at "r";refine⟨c,pr1,pl,J,out,d,_,rfl,aa.mono O,h1,ae.mono O,by lia,by lia,as,aj,by lia,wX.bind,λpr' z=>aw pr' z,λt l nm Y r pr2 fY b7 ag b2 ax b1 b3 ai VW ah=>?_⟩;refine ib (bG.of ax) (cO (by decide) rfl) ?_;exact q l Y r.1 pr2 (fX.trans<|O.fr.trans fY) (aa.free fX<|O.free ag) b1 ai ah
theorem OE(F:aN K "spot_from_behind" "spot_from_behind" Ms f fd)(T:Bt K mg Cf Cg Ca Cd Cc Cb Ch Cj Ci Ce Ck)
  (z:Mt P w K mg base aC Ca "ahead" 3 ["self","p","q"]<|bF Ca Cb<|eV mg)
 :aH P w K mg base aC 4 f fd ["asker","order","place"]<|oV Ca<|aG.mk Cb mg:=by
 refine F.ok Vi (by (intro _ _ _ _ h;cases h;subst_vars;rfl)) λaa A outer s H vs Q E hr h=>?_
 have ac:=Vi.nd;refine' ⟨_,(aM ?_<|aM (Hj PJ ?_<|cD<|yl (i:=3) Vi.nd rfl (by (first | exact Or.inl rfl | exact Or.inr rfl)) ?_ Em) ?_),?_⟩;walk_at "d";obtain⟨c,pr,os,pl,ol,post,rfl,st,O,U,Z,w,q⟩:=h;walk_at "r";refine⟨ol,_,rfl,.inl<|aB.of O,?_⟩;rw[aJ];refine xa (λm σ H'=>L2.X2 λ(s:Nat) (pr':List A3)=>m=s/\σ=[some<|.ref c.a,some<|.ref ol,some<|.int pl,some<|.int s]/\s<=os.length/\Fr c.S H H'/\aE Ca (aG.mk Cb mg) H' c pr'/\Wp c.n c.an (vp os pl s) pr' post) ⟨_,os.length,pr,rfl,rfl,aK _,.refl,st,w⟩ ?_;rintro m σ H' ⟨s,pr',rfl,rfl,hs,fr,J,w'⟩;walk_at "r";cases m with
 |zero=>
  rw[Z8<|by lia];walk_at "r";exact q 0 H' pr' fr J w'
 |succ s=>
  rw[Z9<|by lia];have ho:=(getD_mem (os:=os) (i:=s)<|by lia).1;rw[vp.eq_2] at w';generalize os.getD s 0=o at ho w';refine J.ha.Uw (by walk_at "l") ?_;rw[show((s+1:Nat):Int)-1=(s:Int) by lia];refine dE (aB.of<|fr _ _ U O) (rH ho) ?_;refine J.ahead Z w' λb H2 pr2 f2 s2 w2=>?_;refine kn ?_;cases b
  .rw [Z9<|by decide];refine w8 ?_;walk_at "r";exact⟨s,xi _,s,pr2,rfl,by rw[show((s+1:Nat):Int)-1=(s:Int) by lia],by lia,fr.trans f2,s2,w2⟩
  .rw [Z8<|by decide];walk_at "r";exact q (s+1) H2 pr2 (fr.trans f2) s2 w2
theorem Oz(F:aN K "by_putting" "by_putting" LR f fd)(T:Bt K mg Cf Cg Ca Cd Cc Cb Ch Cj Ci Ce Ck)
  (aa:Fn P w K mg base aC "spot_of" 4 ["asker","order","place"]<|gC Ca<|aG.mk Cb mg)
  (U:Mt P w K mg base aC Ca "many" 1 ["self"]<|dB Ca)
 :aH P w K mg base aC 5 f fd ["asker"]<|ip wF Ca<|aG.mk Cb mg:=by
 refine F.ok Vp (by (intro _ _ _ _ h;cases h;subst_vars;rfl)) λam A outer s H vs Q E hr h=>?_
 have ao:=Vp.nd;refine' ⟨_,(aM ?_ ?_),?_⟩;walk_at "d";obtain⟨c,pr,post,rfl,st,hk,w,q⟩:=h;walk_at "r";refine⟨cE _,λol J=>?_⟩;obtain⟨H2,e2,s2,ah⟩:=aI J<|.lst<|nL [];rw[show(HO.lst ([]:List V))=.lst (nL []) from rfl,e2];clear e2;have O:=st.mono s2;have ad:=st.off J;refine O.ha.Uw (by walk_at "l") ⟨c.a,c.rl,c.ru,c.tl,.Ux,_,c.xs,rfl,O.ha,O.VW,?_⟩;rw[O.len];have aj:c.ks.length<=200:=hk;refine Hf (by lia)<|FG (λi σ H'=>L2.X3 λ(v2:Option V) (os:List Nat) (pr':List A3)=>σ=[some<|.ref c.a,some<|.ref ol,v2]/\H' ol=some (.lst<|nL os)/\os.length=i/\Fr c.S H H'/\aE Ca (aG.mk Cb mg) H' c pr'/\Wp c.n c.an (jY wF (c.n-i) i os) pr' post) ⟨_,[],pr,rfl,ah,rfl,s2.fr,O,w⟩ ?_ ?_
 .rintro i σ H' hi ⟨v2,os,pr',rfl,z,ho,fr,ac,w'⟩;walk_at "r";rw[QI];have ai:i<c.n:=by show i<c.ks.length;lia
  rw[show c.n-i=(c.n-(i+1))+1 by lia,jY.eq_2] at w';refine⟨.inl ⟨rfl,_,aB.of z⟩,c,pr',os,i,ol,_,rfl,ac,z,Ad.SA ad,by lia,(w'.bind).U0<|IM os i,λr H3 ag VL af hp=>?_⟩;obtain⟨ae,w3⟩:=hp;have Z:=VL _ _ (Ad.SA ad) z;refine⟨ol,_,_,_,rfl,rfl,Z,rB<|by rw[aJ];lia,by lia,?_⟩;rw[Iv ae];refine⟨_,gR os r i,ag,rfl,aP,?_,λb o n h=>?_,af.upd Z ad,w3⟩
  .have:=bV (os:=os) (r:=r) (x:=i) |>.length_eq
   rw[this,aW,iC];lia
  .rw [aO<|aX h J];exact VL _ _ n<|fr _ _ n h
 rintro σ H' ⟨v2,os,pr',rfl,z,ho,fr,ac,w'⟩;walk_at "r";rw[Int.toNat_natCast,jT] at w';exact q ol H' os pr' fr J z ac w'
theorem NV(F:aN K "by_walking" "by_walking" LS f fd)(T:Bt K mg Cf Cg Ca Cd Cc Cb Ch Cj Ci Ce Ck)
  (J:Fn P w K mg base aC "spot_from_behind" 4 ["asker","order","place"]<|oV Ca<|aG.mk Cb mg)
  (Z:Mt P w K mg base aC Ca "many" 1 ["self"]<|dB Ca)
 :aH P w K mg base aC 5 f fd ["asker"]<|ip EM Ca<|aG.mk Cb mg:=by
 refine F.ok Vt (by (intro _ _ _ _ h;cases h;subst_vars;rfl)) λam A outer s H vs Q E hr h=>?_
 have ao:=Vt.nd;refine' ⟨_,(aM ?_ ?_),?_⟩;walk_at "d";obtain⟨c,pr,post,rfl,st,hk,w,q⟩:=h;walk_at "r";refine⟨cE _,λol O=>?_⟩;obtain⟨H2,e2,s2,ah⟩:=aI O<|.lst<|nL [];rw[show(HO.lst ([]:List V))=.lst (nL []) from rfl,e2];clear e2;have U:=st.mono s2;have ad:=st.off O;refine U.ha.Uw (by walk_at "l") ⟨c.a,c.rl,c.ru,c.tl,.Ux,_,c.xs,rfl,U.ha,U.VW,?_⟩;rw[U.len];have aj:c.ks.length<=200:=hk;refine Hf (by lia)<|FG (λi σ H'=>L2.X3 λ(v2:Option V) (os:List Nat) (pr':List A3)=>σ=[some<|.ref c.a,some<|.ref ol,v2]/\H' ol=some (.lst<|nL os)/\os.length=i/\Fr c.S H H'/\aE Ca (aG.mk Cb mg) H' c pr'/\Wp c.n c.an (jY EM (c.n-i) i os) pr' post) ⟨_,[],pr,rfl,ah,rfl,s2.fr,U,w⟩ ?_ ?_
 .rintro i σ H' hi ⟨v2,os,pr',rfl,z,ho,fr,ac,w'⟩;walk_at "r";rw[QI];have ai:i<c.n:=by show i<c.ks.length;lia
  rw[show c.n-i=(c.n-(i+1))+1 by lia,jY.eq_2] at w';refine⟨.inl ⟨rfl,_,aB.of z⟩,c,pr',os,i,ol,_,rfl,ac,z,Ad.SA ad,by lia,(w'.bind).U0<|xk os i,λr H3 ag VL af hp=>?_⟩;obtain⟨ae,w3⟩:=hp;have aa:=VL _ _ (Ad.SA ad) z;refine⟨ol,_,_,_,rfl,rfl,aa,rB<|by rw[aJ];lia,by lia,?_⟩;rw[Iv ae];refine⟨_,gR os r i,ag,rfl,aP,?_,λb o n h=>?_,af.upd aa ad,w3⟩
  .have:=bV (os:=os) (r:=r) (x:=i) |>.length_eq
   rw[this,aW,iC];lia
  .rw [aO<|aX h O];exact VL _ _ n<|fr _ _ n h
 rintro σ H' ⟨v2,os,pr',rfl,z,ho,fr,ac,w'⟩;walk_at "r";rw[Int.toNat_natCast,jT] at w';exact q ol H' os pr' fr O z ac w'
theorem OG(F:aN K "__init__" "TooFar.__init__" L4 f fd)(T:Bt K mg Cf Cg Ca Cd Cc Cb Ch Cj Ci Ce Ck)
 :aH P w K mg base aC 1 f fd ["self","place","others"]<|iG Ce:=by
 refine F.ok lD (by (intro _ _ _ _ h;cases h;subst_vars;rfl)) λaf A outer s H vs Q E hr h=>?_
 obtain⟨e,l,p,xs,rfl,he,hp,hl,q⟩:=h;refine⟨_,(aM (Hd<|AN T.VA T.VF rfl<|fS (pv 0)<|D2 JX (pv 1) JX)<|aM (uj (pv 0) (pv 1) rfl)<|cD<|uj (pv 0) (vc Jd rfl T.UJ PH<|bO<|pv 2) rfl),?_⟩;walk_at "r";refine⟨hp,λy=>⟨e,_,none,_,rfl,he,T.VP,e,_,none,rfl,he,T.UQ,T.N0,.inl ⟨rfl,λd hd O=>?_⟩⟩⟩;have ae:l≠e:=λz=>by rw[z,he] at hl;cases hl
 have ad:l≠d:=aX hl hd;refine⟨l,xs,rfl,.inl (aB.of<|by rw[aO ae,aO ad];exact hl),λl2 J=>?_⟩;have U:l2≠e:=λz=>by rw[z,aP] at J;cases J
 have aa:l2≠d:=λz=>by rw[z,aO O,aP] at J;cases J
 refine⟨e,_,_,rfl,by rw[aO<|OY U,aP],T.UQ,T.Nx,.inr ⟨d,_,rfl,O,by rw[aO<|OY aa,aO O,aP],by rw[iC];decide,?_⟩⟩;refine q d l2 _ (λb o n h=>?_) (by rw[aO<|OY O,aO<|OY U,aP]) O U hd (by rw[aO U,aO aa] at J;exact J) aP (by rw[aO aa,aP]);have Z:b≠d:=aX h hd;have ac:b≠l2:=λz=>by rw[<- z,aO n,aO Z,h] at J;cases J
 rw[aO Z,aO ac,aO n,aO Z];exact h
theorem Ow(F:aN K "by_reach" "by_reach" Lq f fd)(T:Bt K mg Cf Cg Ca Cd Cc Cb Ch Cj Ci Ce Ck)
  (Z:Fn P w K mg base aC "spot_of" 4 ["asker","order","place"]<|gC Ca<|aG.mk Cb mg)
  (J:Mt P w K mg base aC Ca "many" 1 ["self"]<|dB Ca)
  (z:Mt P w K mg base aC Ca "ahead" 3 ["self","p","q"]<|bF Ca Cb<|eV mg)
  (aa:MB P w K mg base aC "TooFar" Ce 1 ["self","place","others"]<|iG Ce)
 :aH P w K mg base (jA P w) 5 f fd ["asker","reach"]<|iH Ca (aG.mk Cb mg) Ce:=by
 refine F.XO Vg (by (intro _ _ _ _ h;cases h;subst_vars;rfl)) λb7 A outer s H vs Q E hr h=>?_
 obtain⟨c,pr,R,post,rfl,st,hk,hR,w,aw,q1,q2⟩:=h;refine⟨_,(aM (PS.Wn<|mM (i:=2) Vg.nd rfl (by (first | exact Or.inl rfl | exact Or.inr rfl))<|G5 Iy)<|aM (PS.XQ<|zU (D7 ⟨rfl,rfl⟩) rfl (nH rfl T.UE<|bO<|ER J hr.mn gK<|pv 0) (rA (i:=3) Vg.nd rfl<|by (first | exact Or.inl rfl | exact Or.inr rfl))<|aM (mM (i:=4) Vg.nd rfl (by (first | exact Or.inl rfl | exact Or.inr rfl))<|kD (oE rfl) rfl T.Wk RI<|fS rK<|eY FF (kD Jc rfl T.VG Ry<|bO<|pv 2)<|pv 1)<|aM (oM (PW.pt<|CW (lR Jz (pv 4) rK<|gL _)<|EW<|IB<|IC<|JD z hr.mn gK (pv 0)<|fS (pN qR (pv 2) (eY FF (pv 4) rK) λ_ _=>rfl)<|pv 3) (cD<|vH aa hr.mn rfl rfl gK<|fS (pv 3)<|kD Lv rfl T.UP Qg<|bO<|FH IG (pv 2) (BF<|eY FF (pv 4) rK) Kt) Kw)<|cD<|Hd<|Fz P4 PySem.F.slot_list_insert PySem.F.type_list_insert nN (pv 2)<|fS (eY CU (pv 4)<|wG Z hr.mn rfl gK<|zO (pv 0) (FH IG (pv 2) (BF<|pv 4) Kt)<|pv 3)<|pv 3)<|cD<|PS.Wn<|jJ<|pv 2),?_⟩;walk_at "r";refine⟨cE _,λol ac=>?_⟩;obtain⟨H2,e2,s2,ay⟩:=aI ac<|.lst<|nL [];rw[show(HO.lst ([]:List V))=.lst (nL []) from rfl,e2];clear e2;have af:=st.mono s2;have ai:=st.off ac;refine af.ha.Uw (by walk_at "l") ⟨c.a,c.rl,c.ru,c.tl,.Ux,_,c.xs,rfl,af.ha,af.VW,?_⟩;rw[af.len];have b6:c.ks.length<=63:=hk;refine Hf (by lia)<|FG (λi σ H'=>L2.X4 λ(v3 v4:Option V) (os:List Nat) (pr':List A3)=>σ=[some<|.ref c.a,some<|.int R,some<|.ref ol,v3,v4]/\H' ol=some (.lst<|nL os)/\os.length=i/\Fr c.S H H'/\aE Ca (aG.mk Cb mg) H' c pr'/\Wp c.n c.an (ql R (c.n-i) i os) pr' post) ⟨_,_,[],pr,rfl,ay,rfl,s2.fr,af,w⟩ ?_ ?_
 .rintro i σ H' hi ⟨v3,v4,os,pr1,rfl,O,ap,fr,ae,w'⟩;have b8:i<c.n:=by show i<c.ks.length;lia
  rw[show c.n-i=(c.n-(i+1))+1 by lia,ql.eq_2] at w';rw[QI];walk_at "r";refine⟨ol,_,rfl,.inl<|aB.of O,?_⟩;walk_at "r";rw[aJ];refine⟨_,_,rfl,?_⟩;rw[show(if ((os.length:Int)-(R:Int))>0 then((os.length:Int)-(R:Int)) else 0)=((os.length-R:Nat):Int) by split<;>lia];replace w':=w'.bind;apply GC λH1 pr2=>Fr c.S H' H1/\aE Ca (aG.mk Cb mg) H1 c pr2/\Wp c.n c.an ((wF (os.drop<|os.length-R) i).bind λr=>ql R (c.n-(i+1)) (i+1)<|gR os (os.length-R+r) i) pr2 post
  .intro ad;by_cases XC:0<os.length-R
   .rw [Z9<|by lia];rw[Z9 XC] at w';have hx:=(getD_mem (os:=os) (i:=os.length-R-1)<|by lia).1;generalize os.getD (os.length-R-1) 0=x at hx w';refine ae.ha.Uw (by walk_at "l") ?_;rw[show((os.length-R:Nat):Int)-1=((os.length-R-1:Nat):Int) by lia];refine dE (aB.of O) (rH hx) ?_;refine ae.ahead (by lia) w' λb H1 pr2 f1 s1 w2=>?_;refine kn ?_;cases b
    .rw [Z9<|by decide];have w2:post (.inr (i,os.drop<|os.length-R-1)) pr2:=w2;have U:=f1 _ _ (Ad.SA ai) O;refine va (aB.of U) λsl ah=>?_;rw[Kj<|by rw[aJ];lia,Kq];obtain⟨H3,e3,s3,ag⟩:=aI ah<|.lst<|nL<|os.drop<|os.length-R-1;rw[e3];clear e3;refine⟨sl,(os.drop<|os.length-R-1).map λ(y:Nat)=>(y:Int),rfl,aB.of (by rw[<- xb];exact ag),by rw[aJ,dW];lia,λl ms hl am au=>?_⟩;obtain⟨so,rfl,hp,hs⟩:=IQ am au<|aw _ _ w2;rw[<- xb];obtain⟨H4,e4,s4,as⟩:=aI hl<|.lst<|nL so;rw[e4];clear e4;refine⟨by decide,λea ao=>?_⟩;have b0:l≠ea:=aX as ao;refine⟨ea,l,i,nL so,rfl,aP,?_,by rw[aO b0];exact as,λd l2 H6 k6 he b3 b1 b9 b5 az aq=>⟨rfl,some d,he,?_⟩⟩
     .rw [Int.natAbs_natCast];exact QS (Nat.log2_le_self i)<|by lia
     have S1:aD H1<|forget H6 ea:=λb o e=>by
      have e4:=s4 _ _<|s3 _ _ e;have nb:b≠ea:=aX e4 ao;rw[zX nb];exact k6 b o nb<|by rw[aO nb];exact e4
     exact q2 d l2 _ i _ so _ (fr.trans<|f1.trans S1.fr) (s1.mono S1) w2 (by rw[zX b3];exact az) (by rw[zX b1];exact aq) hp
    .rw [Z8<|by decide];exact ad H1 pr2 ⟨f1,s1,w2⟩
   .rw [Z8<|by lia];rw[Z8 XC] at w';exact ad H' pr1 ⟨.refl,ae,w'⟩
  rintro H1 pr2 ⟨f1,s1,w2⟩;have U:=f1 _ _ (Ad.SA ai) O;refine⟨.inl ⟨rfl,_,aB.of U⟩,va (aB.of U) λsl ah=>?_⟩;rw[Kj<|by rw[aJ];lia,Kq];obtain⟨H3,e3,s3,ag⟩:=aI ah<|.lst<|nL<|os.drop<|os.length-R;rw[e3];clear e3;refine⟨c,pr2,os.drop<|os.length-R,i,sl,_,rfl,s1.mono s3,ag,Ad.SA<|s1.off ah,by lia,(w2.bind).U0<|IM _ _,λr H4 b2 av ax hp=>?_⟩;obtain⟨b4,w3⟩:=hp;rw[dW] at b4;have aj:=av _ _ (Ad.SA ai)<|s3 _ _ U;walk_at "r";rw[show((os.length-R:Nat):Int)+(r:Int)=((os.length-R+r:Nat):Int) by lia];refine⟨ol,_,_,_,rfl,rfl,aj,rB<|by rw[aJ];lia,by lia,?_⟩;rw[Iv<|by lia];refine⟨_,_,gR os (os.length-R+r) i,b2,rfl,aP,?_,λb o n h=>?_,ax.upd aj ai,w3⟩
  .have:=bV (os:=os) (r:=os.length-R+r) (x:=i) |>.length_eq
   rw[this,aW,iC];lia
  .rw [aO<|aX h ac];exact av _ _ n<|s3 _ _<|f1 _ _ n<|fr _ _ n h
 rintro σ H' ⟨v3,v4,os,pr1,rfl,O,ap,fr,ae,w'⟩;walk_at "r";rw[Int.toNat_natCast,jT] at w';exact q1 ol H' os pr1 fr ac O ae w'
theorem Os(F:aN K "cut_of_two" "cut_of_two" LU f fd)(T:Bt K mg Cf Cg Ca Cd Cc Cb Ch Cj Ci Ce Ck)
  (J:Mt P w K mg base aC Ca "ahead" 3 ["self","p","q"]<|bF Ca Cb<|eV mg)
 :aH P w K mg base aC 4 f fd ["asker","left","right","many"]<|oY Ca<|aG.mk Cb mg:=by
 refine F.ok V3 (by (intro _ _ _ _ h;cases h;subst_vars;rfl)) λaf A outer s H vs Q E hr h=>?_
 have ag:=V3.nd;refine' ⟨_,(aM ?_ ?_),?_⟩;walk_at "d";obtain⟨c,pr,al,ar,ls,rs,m,post,rfl,st,O,U,Z,aa,hk,hm,w,q⟩:=h;walk_at "r";refine⟨ar,_,rfl,.inl<|aB.of U,_,_,rfl,al,_,rfl,.inl<|aB.of O,_,_,rfl,?_⟩;rw[aJ,aJ,Fw,show min (m:Int) ls.length=((min m ls.length:Nat):Int) by lia,Cy,show max (0:Int) ((m:Int)-rs.length)=((m-rs.length:Nat):Int) by lia];refine xa (λd σ H'=>L2.X5 λ(z high f:Nat) (v6:Option V) (pr':List A3)=>d=high-z/\σ=[some<|.ref c.a,some<|.ref al,some<|.ref ar,some<|.int m,some<|.int z,some<|.int high,v6]/\m-rs.length<=z/\high<=ls.length/\high<=m/\high-z<=f/\Fr c.S H H'/\aE Ca (aG.mk Cb mg) H' c pr'/\Wp c.n c.an (mJ ls rs m f z high) pr' post) ⟨_,m-rs.length,min m ls.length,ls.length,_,pr,rfl,rfl,aK _,by lia,by lia,by lia,.refl,st,w⟩ ?_;rintro d σ H' ⟨z,high,f,v6,pr',rfl,rfl,h1,h2,h3,hf,fr,s,w⟩;walk_at "r";by_cases UA:z<high
 .rw [Z9<|by lia];refine w8 ?_;walk_at "r";obtain⟨f,rfl⟩:∃f',f=f'+1:=⟨f-1,by lia⟩
  rw[mJ.eq_2,Z9 UA] at w;have ae:z<=(z+high)/2:=by lia
  have ad:(z+high)/2<high:=by lia
  refine⟨⟨by decide,by decide⟩,?_⟩;rw[show((z:Int)+high)/2=((z+high)/2:Nat) by lia];generalize (z+high)/2=mi at w ae ad;have ho:=(getD_mem (os:=ls) (i:=mi)<|by lia).1;have ac:=(getD_mem (os:=rs) (i:=m-mi-1)<|by lia).1;generalize ls.getD mi 0=o at ho w;generalize rs.getD (m-mi-1) 0=o2 at ac w;refine s.ha.Uw (by walk_at "l") ?_;refine dE (aB.of<|fr _ _ Z O) (rH ho) ?_;rw[show(m:Int)-(mi:Nat)-1=((m-mi-1:Nat):Int) by lia];refine dE (aB.of<|fr _ _ aa U) (rH ac) ?_;refine s.ahead hk w λb H2 pr2 f2 s2 w2=>?_;refine kn ?_;cases b
  .rw [Z8<|by decide];exact⟨mi-z,by lia,z,mi,f,_,pr2,rfl,rfl,by lia,by lia,by lia,by lia,fr.trans f2,s2,w2⟩
  .rw [Z9 rfl];exact⟨high-(mi+1),by lia,mi+1,high,f,_,pr2,rfl,rfl,by lia,by lia,by lia,by lia,fr.trans f2,s2,w2⟩
 .rw [Z8<|by lia];walk_at "r";refine q z H' pr' fr s ?_;cases f with
  |zero=>exact w
  |succ f=>rw[mJ.eq_2,Z8 UA] at w;exact w
theorem O1(F:aN K "joined_apart" "joined_apart" Mc f fd)(T:Bt K mg Cf Cg Ca Cd Cc Cb Ch Cj Ci Ce Ck)
  (U:Fn P w K mg base aC "joined" 6 ["asker","left","right"]<|cV Ca<|aG.mk Cb mg)
  (J:Fn P w K mg base aC "cut_of_two" 4 ["asker","left","right","many"]<|oY Ca<|aG.mk Cb mg)
 :aH P w K mg base aC 7 f fd ["asker","left","right","parts"]<|iM Ca<|aG.mk Cb mg:=by
 refine F.ok Ve (by (intro _ _ _ _ h;cases h;subst_vars;rfl)) λco A outer s H vs Q E hr h=>?_
 have cn:=Ve.nd;refine' ⟨_,(aM ?_<|bN<|aM (FL (i:=5) Ve.nd rfl (Or.inl rfl) (js:=[4,3]) (N:=["both","parts"]) rfl ?_ λ_ _ _ _=>(eY uz (eY JQ (pv 1)<|pv 0)<|pv 2))<|bN<|aM (mM (i:=6) Ve.nd rfl (by (first | exact Or.inl rfl | exact Or.inr rfl))<|eY CV (eY CV ?_<|wZ (js:=[0,1,2]) (N:=["asker","left","right"]) rfl ?_ λ_ _ _ _=>(wG J hr.mn rfl gK<|FI (pv 1)<|zO (pv 2) (pv 3)<|pv 0)) ?_)<|bN<|aM (mM (i:=7) Ve.nd rfl (by (first | exact Or.inl rfl | exact Or.inr rfl))<|IS rfl (k:=2) (js:=[]) (N':=["end","cut"]) (by rfl) (DY rfl T.WG ?_) (λ_ _ _ _=>Ks (n:=2) K rfl<|w6 (rA (i:=0) (show(["end","cut"]:List Pa).Nodup by decide+kernel) rfl<|by (first | exact Or.inl rfl | exact Or.inr rfl))<|w6 (rA (i:=1) (show(["end","cut"]:List Pa).Nodup by decide+kernel) rfl<|by (first | exact Or.inl rfl | exact Or.inr rfl)) Hb) (λ_ _ _ _=>Hi) λ_ _ _ _=>(eY FF (pv 0)<|pv 1))<|bN<|cD<|jJ<|wZ (js:=[0,1,6,2,7]) (N:=["asker","left","cuts","right","others"]) rfl ?_ λ_ _ _ _=>(wG U hr.mn rfl gK<|zO (pv 1) (FH (K1 K) (pv 2) (BF<|pN (wQ K) (pv 3) (pv 0) λ_ _=>rfl)<|BF<|pN (wQ K) (pv 3) (eY CU (pv 0) rK) λ_ _=>rfl)<|FH (K1 K) (pv 4) (BF<|pN (wQ K) (pv 5) (pv 0) λ_ _=>rfl)<|BF<|pN (wQ K) (pv 5) (eY CU (pv 0) rK) λ_ _=>rfl)),?_⟩;walk_at "d";obtain⟨c,pr,al,ar,ls,rs,P,post,rfl,st,ag,ao,Z,aa,hk,ch,b9,cf,w,q⟩:=h;walk_at "r";refine⟨al,_,rfl,.inl<|aB.of ag,ar,_,rfl,.inl<|aB.of ao,?_⟩;rw[iV,iV];refine bM ?_;walk_at "r";refine C3 (by lia) (λi ys σ X=>∃v,σ=[v,some<|.int<|(ls.length:Int)+(rs.length:Int),some<|.int (P:Int)]/\aD H X/\ys=nL ((OT i).map<|aQ ls rs P)) ⟨_,rfl,.refl _,rfl⟩ (λi ys σ X zz=>by obtain⟨_,_,_,e⟩:=zz;rw[e,iV,aJ,eU];exact aK _) ?_ ?_
 .rintro i ys σ X hi ⟨v,rfl,sX,rfl⟩;walk_at "r";rw[QI];refine⟨.inl ⟨by lia,by lia⟩,⟨by lia,by lia⟩,?_⟩;refine dH.of hi ⟨_,rfl,sX,?_⟩;rw[C7,bX,BD];show _++[V.int<|((ls.length:Int)+(rs.length:Int))*(i:Int)/(P:Int)]=_++[V.int ((aQ ls rs P i:Nat):Int)];unfold aQ;rw[Int.natCast_ediv,Int.natCast_mul,Int.natCast_add]
 rintro ys σ H1 ⟨v,rfl,s1,rfl⟩ el au;rw[show((P:Int)+1).toNat=P+1 by lia];obtain⟨H2,g2,s2,b0⟩:=aI au<|.lst<|nL<|(OT<|P+1).map<|aQ ls rs P;rw[g2];clear g2;have S2:=s1.trans s2;have c9:=st.mono S2;refine bM ?_;walk_at "r";refine⟨by decide,λz0 bj=>?_⟩;obtain⟨H3,g3,s3,hz⟩:=aI bj<|.lst<|nL [0];rw[show upd H2 z0 (HO.lst [V.int 0])=H3 from g3];clear g3;refine va (aB.of<|s3 _ _ b0) λsl aq=>?_;rw[show dS (nL<|(OT<|P+1).map<|aQ ls rs P) (some 1) (some (P:Int))=nL (jF ((OT<|P+1).map<|aQ ls rs P) 1 P) from KL (i:=1) (by rw[aJ,eU];lia)<|by rw[aJ,eU];lia];have cg:jF ((OT<|P+1).map<|aQ ls rs P) 1 P=(OT<|P-1).map λt=>aQ ls rs P (t+1):=by
  refine E9 λk=>?_;unfold jF;by_cases hk:k<P-1
  .rw [RP hk,Di,Hq<|by lia,Hq hk,Nat.add_comm]
  .rw [oP<|by rw[gV];lia,oP<|by rw[aJ,eU];lia]
 rw[cg];obtain⟨H4,g4,s4,ad⟩:=aI aq<|.lst<|nL<|(OT<|P-1).map λt=>aQ ls rs P<|t+1;rw[g4];clear g4;have S4:=S2.trans<|s3.trans s4;have c4:=st.mono S4;have ci:=Ad.SA<|(st.mono<|S2.trans s3).off aq;have bt:c.n<=1000:=by lia
 unfold EI at w;replace w:=w.bind;refine zY (aB.of ad) (by rw[iV,aJ,eU];lia) (λi ys σ X=>L2.X3 λv acc pr'=>σ=[v,some<|.ref c.a,some<|.ref al,some<|.ref ar]/\Fr c.S H4 X/\aE Ca (aG.mk Cb mg) X c pr'/\ys=nL acc/\acc.length=i/\(∀j x,acc[j]?=some x->x<=ls.length/\x<=aQ ls rs P (j+1)/\aQ ls rs P (j+1)<=x+rs.length)/\Wp c.n c.an (rk ls rs P (P-1-i) (i+1) acc) pr' λc' pr'=>Wp c.n c.an (r6 ls rs (0::(c'++[ls.length])) (lF ls rs (0::(c'++[ls.length])) P) P 0 []) pr' post) ⟨_,[],pr,rfl,.refl,c4,rfl,rfl,λj x e=>by simp at e,w⟩ (λi ys σ X _ zz=>by obtain⟨_,acc,_,_,e,_,e2,e3,_⟩:=zz;exact⟨aB.of<|e _ _ ci ad,by rw[e2,iV,e3];exact aK _⟩) ?_ ?_
 .rintro i ys x σ X hi hx ⟨v,acc,pr1,rfl,fX,sX,rfl,ah,O,wX⟩;rw[iV,aJ,eU] at hi;obtain rfl:x=.int ((aQ ls rs P (i+1):Nat):Int):=by
   unfold nL at hx;rw[dF,Hq hi] at hx;exact(OS hx).symm
  have he:=uU (l:=ls) (r:=rs) (show i+1<=P by lia) b9;rw[show P-1-i=(P-1-(i+1))+1 by lia,rk.eq_2] at wX;walk_at "r";refine⟨c,pr1,al,ar,ls,rs,aQ ls rs P<|i+1,_,rfl,sX,fX _ _ (Ad.SA Z)<|S4 _ _ ag,fX _ _ (Ad.SA aa)<|S4 _ _ ao,Ad.SA Z,Ad.SA aa,bt,he,(wX.bind).U0<|zq he,λr Y pr2 fY sY hp=>?_⟩;obtain⟨hr,wY⟩:=hp;refine dH.of (by rw[iV,aJ,eU];exact hi) ⟨_,acc++[r],pr2,rfl,fX.trans fY,sY,by rw[BD];rfl,by rw[aW,ah];rfl,λj x e=>?_,wY⟩;by_cases z:j<acc.length
  .rw [oQ z] at e;exact O j x e
  .rw [kF<|by lia] at e;cases y:j-acc.length with
   |zero=>
    rw[y] at e;cases e;rw[show j=i by lia];exact hr
   |succ y'=>rw[y] at e;simp at e
 rintro ys σ H5 ⟨v,acc,br,rfl,f5,cj,rfl,ah,O,w5⟩ c1 bp;rw[iV,aJ,eU] at ah w5;rw[jT] at w5;have w5:Wp c.n c.an (r6 ls rs (0::(acc++[ls.length])) (lF ls rs (0::(acc++[ls.length])) P) P 0 []) br post:=w5;obtain⟨H6,g6,s6,bz⟩:=aI bp<|.lst<|nL acc;rw[g6];clear g6;have c6:=Ad.SA<|c9.off bj;refine⟨z0,c1,_,_,rfl,rfl,s6 _ _<|f5 _ _ c6<|s4 _ _ hz,bz,by rw[iV,iV,Qr];show 1+_<=_;lia,λc2 bg=>?_⟩;obtain⟨H7,g7,s7,be⟩:=aI bg<|.lst<|nL [0]++nL acc;rw[g7];clear g7;have F7:Fr c.S H H7:=(S4.fr.trans f5).trans (s6.trans s7).fr;have bn:=cj.mono<|s6.trans s7;refine⟨al,_,rfl,.inl<|aB.of<|F7 _ _ (Ad.SA Z) ag,by decide,λe1 bw=>?_⟩;rw[iV];obtain⟨H8,g8,s8,ba⟩:=aI bw<|.lst<|nL [ls.length];rw[show upd H7 e1 (HO.lst [V.int (ls.length:Int)])=H8 from g8];clear g8;refine⟨c2,e1,_,_,rfl,rfl,s8 _ _ be,ba,by rw[aW,iV,iV,iV,Qr];show 1+_+1<=_;lia,λcu av=>?_⟩;obtain⟨cs,af⟩:∃cs,cs=0::(acc++[ls.length]):=⟨_,rfl⟩
 have bc:(nL [0]++nL acc)++nL [ls.length]=nL cs:=by rw[<- BD,<- BD,af];rfl
 have as:cs.length=P+1:=by rw[af,bS,aW,iC];lia
 rw[<- af] at w5;rw[bc];clear bc;have am:∀j,j<=P->cs.getD j 0<=ls.length/\cs.getD j 0<=aQ ls rs P j/\aQ ls rs P j<=cs.getD j 0+rs.length:=λj hj=>by
  rw[af];by_cases z:j=0
  .subst z;have e0:aQ ls rs P 0=0:=by unfold aQ;rw[Tn,Nat.zero_div]
   rw[e0];exact⟨cE _,aK _,cE _⟩
  .obtain ⟨i,rfl⟩:∃i,j=i+1:=⟨j-1,by lia⟩
   rw[iA,List.getElem?_cons_succ];by_cases y:i<acc.length
   .rw [oQ y,bL y];exact O i _<|bL y
   .have ei:i+1=P:=by lia
    rw[kF<|by lia,show i-acc.length=0 by lia,ei,show aQ ls rs P P=ls.length+rs.length by unfold aQ;exact S9 _ b9];exact⟨aK _,Dn _ _,aK _⟩
 clear af O;obtain⟨H9,g9,s9,b5⟩:=aI av<|.lst<|nL cs;rw[g9];clear g9;have cm:=Ad.SA<|(st.mono s1).off au;have ce:=Ad.SA<|(bn.mono s8).off av;have F9:Fr c.S H H9:=F7.trans (s8.trans s9).fr;have bv:=bn.mono<|s8.trans s9;have ay:H9 el=some (.lst<|nL<|(OT<|P+1).map<|aQ ls rs P):=s9 _ _<|s8 _ _<|s7 _ _<|s6 _ _<|f5 _ _ cm<|s4 _ _<|s3 _ _ b0;have b4:∀f:Nat->Nat,(nL<|(OT<|P+1).map f).length=P+1:=λf=>by rw[iV,aJ,eU]
 clear be ba bz hz ad b0;refine bM ?_;walk_at "r";refine rn (aB.of ay) (aB.of b5) (by rw[b4];lia) (λi ys σ X=>L2.X2 λv w=>σ=[v,w]/\aD H9 X/\ys=nL ((OT i).map λt=>aQ ls rs P t-cs.getD t 0)) ⟨_,_,rfl,.refl _,rfl⟩ (λi ys σ X _ zz=>by obtain⟨_,_,_,e,e2⟩:=zz;exact⟨aB.of<|e _ _ ay,aB.of<|e _ _ b5,by rw[e2,iV,aJ,eU];exact aK _⟩) ?_ ?_
 .rintro i ys x y σ X p hi hx hy ⟨v,w,rfl,sX,rfl⟩ hp;have bx:i<P+1:=by rw[b4,iV,as] at hi;lia
  obtain rfl:x=.int ((aQ ls rs P i:Nat):Int):=by
   unfold nL at hx;rw[dF,Hq bx] at hx;exact(OS hx).symm
  obtain rfl:y=.int ((cs.getD i 0:Nat):Int):=by
   unfold nL at hy;rw[dF,(getD_mem (os:=cs) (i:=i)<|by lia).1] at hy;exact(OS hy).symm
  refine EU (bG.of aP) rfl ?_;walk_at "r";have A:=am i (by lia);refine dH.of hi ⟨_,_,rfl,sX.new hp,?_⟩;rw[C7,bX,BD];show _++[V.int<|((aQ ls rs P i:Nat):Int)-((cs.getD i 0:Nat):Int)]=_++[V.int ((aQ ls rs P i-cs.getD i 0:Nat):Int)];rw[show(((aQ ls rs P i:Nat):Int)-((cs.getD i 0:Nat):Int))=((aQ ls rs P i-cs.getD i 0:Nat):Int) by lia]
 rintro ys σ cc ⟨v,w,rfl,s10,rfl⟩ ot aw;rw[b4,iV,as,Nat.min_self];obtain⟨H11,bu,cb,bd⟩:=aI aw<|.lst<|nL<|lF ls rs cs P;rw[show upd cc ot (HO.lst<|nL<|(OT<|P+1).map λt=>aQ ls rs P t-cs.getD t 0)=H11 from bu];clear bu;have b1:∀j,j<=P->(lF ls rs cs P).getD j 0<=rs.length:=λj hj=>by
  have:=am j hj;unfold lF;rw[iA,Hq<|by lia];show aQ ls rs P j-cs.getD j 0<=rs.length;lia
 have c7:(lF ls rs cs P).length=P+1:=by unfold lF;rw[aJ,eU]
 generalize lF ls rs cs P=ot' at bd b1 c7 w5;have b7:=s10.trans cb;have ap:Fr c.S H H11:=F9.trans b7.fr;have ac:=bv.mono b7;have bf:=Ad.SA<|(bv.mono s10).off aw;have b2:=b7 _ _ b5;have b3:=ap _ _ (Ad.SA Z) ag;have b6:=ap _ _ (Ad.SA aa) ao;refine bM ?_;walk_at "r";refine C3 (by lia) (λi ys σ X=>L2.X4 λv fs out pr'=>σ=[v,some<|.ref c.a,some<|.ref al,some<|.ref cu,some<|.ref ar,some<|.ref ot]/\Fr c.S H11 X/\aE Ca (aG.mk Cb mg) X c pr'/\ys=fs.map V.ref/\fs.length=i/\PL X fs out/\(∀f∈fs,H11 f=none)/\Wp c.n c.an (r6 ls rs cs ot' (P-i) i out) pr' post) ⟨_,[],[],br,rfl,.refl,ac,rfl,rfl,.nil,λf h=>(by cases h),w5⟩ (λi ys σ X zz=>by obtain⟨_,fs,_,_,_,_,_,e,e2,_⟩:=zz;rw[e,aJ];lia) ?_ ?_
 .rintro i ys σ X hi ⟨v,fs,out,pr1,rfl,fX,ae,rfl,c0,b8,aj,wX⟩;have bx:i<P:=by lia
  walk_at "r";rw[QI,show(i:Int)+1=((i+1:Nat):Int) by lia];have ax:=fX _ _ ce b2;have az:=fX _ _ bf bd;have A:=am i (by lia);have A':=am (i+1) (by lia);have B:=b1 i (by lia);have B':=b1 (i+1) (by lia);rw[show P-i=(P-(i+1))+1 by lia,r6.eq_2] at wX;refine dE (aB.of ax) (rH (getD_mem (os:=cs) (i:=i)<|by lia).1)<|Im ?_;refine dE (aB.of ax) (rH (getD_mem (os:=cs) (i:=i+1)<|by lia).1)<|Im ?_;refine va (aB.of<|fX _ _ (Ad.SA Z) b3) λl1 bi=>?_;rw[KL A.1 A'.1];have z1:=IF (l:=ls) (a:=cs.getD i 0) (b:=cs.getD (i+1) 0);have z2:=IF (l:=rs) (a:=ot'.getD i 0) (b:=ot'.getD (i+1) 0);generalize jF ls (cs.getD i 0) (cs.getD (i+1) 0)=A1 at wX z1⊢;obtain⟨X1,k1,t1,bh⟩:=aI bi<|.lst<|nL A1;rw[k1];clear k1;refine dE (aB.of<|t1 _ _ az) (rH (getD_mem (os:=ot') (i:=i)<|by lia).1)<|Im ?_;refine dE (aB.of<|t1 _ _ az) (rH (getD_mem (os:=ot') (i:=i+1)<|by lia).1)<|Im ?_;refine va (aB.of<|t1 _ _<|fX _ _ (Ad.SA aa) b6) λl2 c3=>?_;rw[KL B B'];generalize jF rs (ot'.getD i 0) (ot'.getD (i+1) 0)=A2 at wX z2⊢;obtain⟨X2,k2,t2,bq⟩:=aI c3<|.lst<|nL A2;rw[k2];clear k2;have T2:=t1.trans t2;refine⟨c,pr1,l1,l2,A1,A2,_,rfl,ae.mono T2,t2 _ _ bh,bq,bt,by lia,wX.bind,λl Y os pr2 fY ai ck ca c5=>?_⟩;have bo:Fr c.S X Y:=T2.fr.trans fY;have c8:X l=none:=T2.free ai;refine dH.of hi ⟨_,fs++[l],out++[os],pr2,rfl,fX.trans bo,ca,by rw[bX];rfl,by rw[aW,c0];rfl,(b8.WE bo λb hb=>Ad.SA<|ac.off<|aj b hb).snoc ck,λf hf=>?_,c5⟩;rcases gN.mp hf with h|h
  .exact aj f h
  .rw [bD.mp h];exact ae.free fX c8
 rintro ys σ X ⟨v,fs,out,pr1,rfl,fX,ae,rfl,c0,b8,aj,wX⟩ l ai;rw[Int.toNat_natCast,jT] at wX;have FX:Fr c.S H X:=ap.trans fX;have sN:=bE ai<|.lst<|fs.map V.ref;exact q l fs _ out pr1 (FX.trans sN.fr) (ae.free FX ai) aP (b8.mono sN) (λf hf=>ac.free ap<|aj f hf) (ae.mono sN) wX
theorem NO(F:aN K "so_manieth" "so_manieth" LV f fd)(T:Bt K mg Cf Cg Ca Cd Cc Cb Ch Cj Ci Ce Ck)
  (bc:Mt P w K mg base aC Ca "many" 1 ["self"]<|dB Ca)
  (af:Mt P w K mg base aC Cf "first" 2 ["self"]<|gJ false Cf)
  (O:Mt P w K mg base aC Cg "first" 2 ["self"]<|gJ true Cg)
  (aj:Mt P w K mg base aC Cf "take" 7 ["self"]<|dX Ca (aG.mk Cb mg) false Cf)
  (aa:Mt P w K mg base aC Cg "take" 7 ["self"]<|dX Ca (aG.mk Cb mg) true Cg)
  (bh:Kl P w K mg base aC "LastPour" Cg 10 ["self","asker","pieces"]<|bH Ca (aG.mk Cb mg) true Cg)
  (cm:Kl P w K mg base aC "Pour" Cf 10 ["self","asker","pieces"]<|bH Ca (aG.mk Cb mg) false Cf)
 :aH P w K mg base aC 12 f fd ["asker","many"]<|gD Ca<|aG.mk Cb mg:=by
 refine F.ok Vb (by (intro _ _ _ _ h;cases h;subst_vars;rfl)) λcw A outer s H vs Q E hr h=>?_
 have ct:=Vb.nd;refine' ⟨_,(aM ?_<|aM (oM ?_ (cD Li) ?_)<|bN<|aM (FL (i:=3) Vb.nd rfl (Or.inl rfl) (js:=[]) (N:=[]) rfl ?_ λ_ _ _ _=>(G5<|bO<|pv 0))<|aM ?_<|bN<|aM ?_<|bN<|aM (mM (i:=6) Vb.nd rfl (by (first | exact Or.inl rfl | exact Or.inr rfl))<|kD Lv rfl T.UP Qg<|bO<|wZ (js:=[5]) (N:=["pour"]) rfl ?_ λ_ _ _ _=>(nJ (ER aj hr.mn gK<|pv 1)<|ER aa hr.mn gK<|pv 1))<|bN<|aM (mM (i:=7) Vb.nd rfl (by (first | exact Or.inl rfl | exact Or.inr rfl))<|nJ (ER af hr.mn gK ?_)<|ER O hr.mn gK ?_)<|bN<|aM (Ja (i:=8) Vb.nd rfl (Or.inl rfl) rfl (k:=1) (js:=[7,6]) (N':=["other","place","taken"]) (by rfl) ?_ (λ_ _ _ _=>rA (i:=0) (show(["other","place","taken"]:List Pa).Nodup by decide+kernel) rfl<|by (first | exact Or.inl rfl | exact Or.inr rfl)) (λ_ _ _ _=>(Lh<|PW.pt<|CW (lR JB (pv 0) (pv 1)<|gL _)<|EW<|lR (mD K) (pv 0) (pv 2) rfl)) λ_ _ _ _=>(pv 0))<|bN ?_),?_⟩;walk_at "d";obtain⟨c,m,rfl,st,hm,hk,q⟩:=h;walk_at "r";refine st.ha.Uw (by walk_at "l") ⟨c.a,c.rl,c.ru,c.tl,_,_,c.xs,rfl,st.ha,st.VW,?_⟩;walk_at "r";rw[st.len];have cu:c.ks.length<=63:=hk;have cv:m<c.ks.length:=hm;rw[Z8<|by lia];rw[Z8<|by lia];refine bM ?_;walk_at "r";refine C3 (by lia) (λi ys σ X=>L2.X2 λv ls=>σ=[v]/\aD H X/\ys=ls.map V.ref/\ls.length=i/\(∀(j:Nat) l,ls[j]?=some l->X l=some (.lst<|nL [j]))) ⟨_,[],rfl,.refl _,rfl,rfl,λj l h=>by simp at h⟩ (λi ys σ X zz=>by obtain⟨_,ls,_,_,e,e2,_⟩:=zz;rw[e,aJ,e2];exact aK _) ?_ ?_
 .rintro i ys σ X hi ⟨v,ls,rfl,sX,rfl,cj,hls⟩;walk_at "r";rw[QI];refine⟨cL<|by decide,λl hl=>?_⟩;refine dH.of hi ⟨_,ls++[l],rfl,sX.new hl,by rw[bX];rfl,by rw[aW,cj];rfl,λj l' h=>?_⟩;by_cases z:j<ls.length
  .rw [oQ z] at h;exact bE hl _ _ _<|hls j l' h
  .have h1:=(gX.mp h).1;rw[aW,iC] at h1;have:j=i:=by lia
   subst this;rw[kF<|by lia,cj,jT] at h;cases h;exact aP
 rintro ys σ X ⟨v,ls,rfl,sX,rfl,ax,aw⟩ sl ca;rw[Int.toNat_natCast] at ax;obtain⟨ae,ci,bd,c3⟩:=aI ca<|.lst<|ls.map V.ref;rw[ci];clear ci;have ah:=sX.trans bd;walk_at "r";refine bM ?_;walk_at "r";apply Cu (α:=Bool×OL×Hp) (λx=>[some<|.ref c.a,some<|.int (m:Int),some<|.int (c.ks.length:Int),some<|.ref sl,some<|.bl<|decide<|(c.ks.length:Int)-1-m<m,some<|.ref x.2.1,none,none,none]) (λx=>x.2.2) λx=>x.1=decide (c.ks.length-1-m<m)/\∃pl tk ml wd pls kvs ts w pr,BI Ca (aG.mk Cb mg) (cond x.1 Cg Cf) x.1 H x.2.2 c x.2.1 pl tk ml wd pls [] kvs ts w pr
 .intro ac;by_cases Xg:(c.ks.length:Int)-1-m<m
  .rw [Z9 Xg];have av:true=decide (c.ks.length-1-m<m):=(decide_eq_true<|by lia).symm;intro po dp au c0 bu;have b6:upd ae dp (.own po) po=none:=by rw[aO<|OY bu];exact au
   have U:aD ae<|upd (upd ae dp<|.own po) po<|.ins Cg dp []:=(bE c0 _).trans<|bE b6 _;have b4:(upd (upd ae dp<|.own po) po<|.ins Cg dp []) po=some (.ins Cg dp []):=aP;generalize upd (upd ae dp<|.own po) po (.ins Cg dp [])=H16 at U b4⊢;have as:=st.mono ah;have b9:=as.off au;have W:=B9 c (by lia) true;unfold C1 at W;refine⟨c,[],po,dp,sl,ls,sg c.n,_,rfl,b4,as.mono U,U _ _ c3,by rw[ax,CY],λj l zs h1 h2=>?_,by rw[CY];lia,b9,by lia,W.bind,λpr' z=>(by obtain⟨_,z,_⟩:=z;cases z),λpl tk ml wd pls w1 H17 kvs pr1 c7 pa dw bw J b2 ai=>⟨rfl,?_⟩⟩
   .obtain ⟨rfl,_⟩:=xY h2;exact U _ _<|bd _ _<|aw j l h1
   have ad:∀b,H16 b=none->H b=none:=λb h=>ah.free<|U.free h;have ai:Wp c.n (c.VO true) (oK (sg c.n) ((sg c.n).map Pz).sum (Pf (sg c.n).length 0) w1 []) pr1<|Al c.ks true:=ai;rw[J7] at ai;refine ac (true,po,H17) ⟨av,pl,tk,ml,wd,pls,kvs,_,w1,pr1,⟨b2,ai,pa,dw,bw,⟨b9,st.off<|ad _ J.1,st.off<|ad _ J.2.1,st.off<|ad _ J.2.2.1,λl h=>st.off<|ad _<|J.2.2.2.2 l h⟩,λb o m h=>?_,ah.free au,ad _ J.2.1⟩⟩;exact c7 b o (λz=>m<|by rw[z];exact aU) (λz=>m<|bA _<|bA _ z)<|U _ _<|ah _ _ h
  .rw [Z8 Xg];have av:false=decide (c.ks.length-1-m<m):=(decide_eq_false<|by lia).symm;intro po dp au c0 bu;have b6:upd ae dp (.own po) po=none:=by rw[aO<|OY bu];exact au
   have U:aD ae<|upd (upd ae dp<|.own po) po<|.ins Cf dp []:=(bE c0 _).trans<|bE b6 _;have b4:(upd (upd ae dp<|.own po) po<|.ins Cf dp []) po=some (.ins Cf dp []):=aP;generalize upd (upd ae dp<|.own po) po (.ins Cf dp [])=H16 at U b4⊢;have as:=st.mono ah;have b9:=as.off au;have W:=B9 c (by lia) false;unfold C1 at W;refine⟨c,[],po,dp,sl,ls,sg c.n,_,rfl,b4,as.mono U,U _ _ c3,by rw[ax,CY],λj l zs h1 h2=>?_,by rw[CY];lia,b9,by lia,W.bind,λpr' z=>(by obtain⟨_,z,_⟩:=z;cases z),λpl tk ml wd pls w1 H17 kvs pr1 c7 pa dw bw J b2 ai=>⟨rfl,?_⟩⟩
   .obtain ⟨rfl,_⟩:=xY h2;exact U _ _<|bd _ _<|aw j l h1
   have ad:∀b,H16 b=none->H b=none:=λb h=>ah.free<|U.free h;have ai:Wp c.n (c.VO false) (oK (sg c.n) ((sg c.n).map Pz).sum (Pf (sg c.n).length 0) w1 []) pr1<|Al c.ks false:=ai;rw[J7] at ai;refine ac (false,po,H17) ⟨av,pl,tk,ml,wd,pls,kvs,_,w1,pr1,⟨b2,ai,pa,dw,bw,⟨b9,st.off<|ad _ J.1,st.off<|ad _ J.2.1,st.off<|ad _ J.2.2.1,λl h=>st.off<|ad _<|J.2.2.2.2 l h⟩,λb o m h=>?_,ah.free au,ad _ J.2.1⟩⟩;exact c7 b o (λz=>m<|by rw[z];exact aU) (λz=>m<|bA _<|bA _ z)<|U _ _<|ah _ _ h
 rintro⟨bb,po,H17⟩ ⟨av,pl,tk,ml,wd,pls,kvs,ts,w1,pr1,W0⟩;dsimp only at av W0;obtain⟨k,ek⟩:∃k,min m (c.ks.length-1-m)=k:=⟨_,rfl⟩
 clear sX aw c3 ah ca bd ax;have hz:0<(sg c.n).length:=by rw[CY];lia
 have b8:(sg c.n).length<=200:=by rw[CY];lia
 have be:∀pr',¬ Al c.ks bb none pr':=λpr' z=>by obtain⟨_,z,_⟩:=z;cases z
 refine bM ?_;walk_at "r";refine⟨_,_,rfl,?_⟩;rw[show(if (c.ks.length:Int)-1-m<m then(c.ks.length:Int)-1-m else(m:Int))=(k:Int) by rw[<- ek];split<;>lia];refine C3 (by lia) (λi ys σ X=>L2.X7 λv wd kvs ts w pr acc=>σ=[v,some<|.ref po]/\ys=nL acc/\acc.length=i/\i<=k/\BI Ca (aG.mk Cb mg) (cond bb Cg Cf) bb H X c po pl tk ml wd pls acc kvs ts w pr) ⟨_,wd,kvs,ts,w1,pr1,[],rfl,rfl,rfl,cE _,W0⟩ (λi ys σ X zz=>by obtain⟨_,_,_,_,_,_,_,_,e,e2,_⟩:=zz;rw[e,aJ,e2];exact aK _) ?_ ?_
 .rintro i ys σ X hi ⟨v,b3,ao,ts,w2,pr2,acc,rfl,rfl,am,cb,W⟩;have cx:i<k:=by lia
  have wX:=W.wp;rw[am,show c.n-i=(c.n-(i+1))+1 by show c.ks.length-i=(c.ks.length-(i+1))+1;lia,oK] at wX;walk_at "r";split at wX
  .rename_i cc hcc;obtain⟨x,j⟩:=cc;dsimp only at wX;cases bb
   .refine .inl (W.pa.pb.hp.Uw (by walk_at "l") ⟨c,pr2,po,pl,tk,ml,b3,pls,sg c.n,ts,w2,ao,rfl,W.st,W.pa,W.px,W.dw,W.lv,b8,by lia,.inr ⟨x,j,_,hz,hcc,wX.bind,λpr' z=>be pr' z,λwd' w' Y bt bz fY bq c4 b5 bx bo=>?_⟩⟩);refine dH.of (by lia) ⟨_,wd',bt,_,w',bz,acc++[x],rfl,?_,by rw[aW,am];rfl,by lia,⟨bx,?_,bq,c4,b5,W.px,W.fr.trans fY,W.new⟩⟩
    .unfold nL;rw[bX];rfl
    .rw [aW,am];exact bo
   .refine .inr (W.pa.pb.hp.Uw (by walk_at "l") ⟨c,pr2,po,pl,tk,ml,b3,pls,sg c.n,ts,w2,ao,rfl,W.st,W.pa,W.px,W.dw,W.lv,b8,by lia,.inr ⟨x,j,_,hz,hcc,wX.bind,λpr' z=>be pr' z,λwd' w' Y bt bz fY bq c4 b5 bx bo=>?_⟩⟩);refine dH.of (by lia) ⟨_,wd',bt,_,w',bz,acc++[x],rfl,?_,by rw[aW,am];rfl,by lia,⟨bx,?_,bq,c4,b5,W.px,W.fr.trans fY,W.new⟩⟩
    .unfold nL;rw[bX];rfl
    .rw [aW,am];exact bo
  .exact absurd wX (be _)
 rintro ys σ X ⟨v,b3,ao,ts,w2,pr2,acc,rfl,rfl,am,cb,W⟩ l co;rw[Int.toNat_natCast] at cb am;obtain⟨X1,e1,ck,cg⟩:=aI co<|.lst<|nL acc;rw[e1];clear e1;have cr:k<c.ks.length:=by lia
 have wX:=W.wp;rw[am,show c.n-k=(c.n-(k+1))+1 by show c.ks.length-k=(c.ks.length-(k+1))+1;lia] at wX;obtain⟨⟨x,j⟩,ay⟩:∃x,w2 0 (sg c.n).length=some (some x):=by
  have wX:=wX;rw[oK] at wX;split at wX
  .rename_i cc hcc;exact⟨cc,hcc⟩
  .exact absurd wX (be _)
 obtain⟨o,_,bf,os,rfl,ap,bj⟩:=wX.ex<|vJ ay;obtain⟨rest,aq⟩:=bf os rfl;clear bf wX;dsimp only at aq;rw[jM] at aq;have aq:acc++x::rest=os:=aq;have cq:acc.Nodup:=by
  have:=ap.nodup_iff.mpr Dj;rw[<- aq] at this;exact(List.nodup_append.mp this).1
 refine⟨l,acc.map λ(n:Nat)=>(n:Int),rfl,aB.of (by rw[cg,xb]),by rw[aJ];lia,λaz ms bg b1 b7=>?_⟩;obtain⟨T2,rfl,bp,cf⟩:=IQ b1 b7 cq;rw[<- xb];obtain⟨X2,e2,cn,ch⟩:=aI bg<|.lst<|nL T2;rw[e2];clear e2;have W2:=(W.mono ck).mono cn;have b0:H az=none:=W.free<|ck.free bg;refine bM ?_;walk_at "r";apply Cu (α:=Hp) (λ_=>[some<|.ref c.a,some<|.int (m:Int),some<|.int (c.ks.length:Int),some<|.ref sl,some<|.bl<|decide<|(c.ks.length:Int)-1-m<m,some<|.ref po,some<|.ref az,some<|.int (x:Int),none]) (λY=>Y) λY=>aD X2 Y
 .intro ac;cases bb
  .exact .inl (W2.pa.pb.hp.Uw (by walk_at "l") ⟨po,c.a,pl,tk,ml,b3,pls,sg c.n,w2,_,ao,some (x,j),rfl,W2.pa.pb,W2.pa.Wq,.inl ay,λY sY=>ac Y sY⟩)
  .exact .inr (W2.pa.pb.hp.Uw (by walk_at "l") ⟨po,c.a,pl,tk,ml,b3,pls,sg c.n,w2,_,ao,some (x,j),rfl,W2.pa.pb,W2.pa.Wq,.inl ay,λY sY=>ac Y sY⟩)
 intro Y sY;have WY:=W2.mono sY;have c9:=sY _ _ ch;clear b1 b7 ay W W2 cg ch;refine bM ?_;walk_at "r";refine C3 (by lia) (λi ys σ Y'=>∃v,σ=[v,some<|.int (x:Int),some<|.ref az]/\Y'=Y/\ys=nL ((OT i).filter λy=>decide (y≠x)&&!decide (y∈T2))) ⟨_,rfl,rfl,rfl⟩ (λi ys σ Y' zz=>by obtain⟨_,_,_,e⟩:=zz;rw[e,aJ];exact cX (Q7 _ _)<|by rw[eU];exact aK _) ?_ ?_
 .rintro i ys σ Y' hi ⟨v,rfl,rfl,rfl⟩;walk_at "r";rw[show(0+(i:Int))=(i:Int) by lia];have bv:∀f:Nat->Bool,(OT<|i+1).filter f=(OT i).filter f++if f i=true then[i] else[]:=λf=>by
   rw[C7,Aa];by_cases z:f i=true
   .rw [Z9 z,Qs z];rfl
   .rw [Z8 z,Fb z];rfl
  by_cases e:i=x
  .rw [Z8<|by lia];refine dH.of hi ⟨_,rfl,rfl,?_⟩;rw[bv,Z8 (by simp[e]),gW]
  .rw [Z9<|by lia];refine⟨az,nL T2,rfl,.inl<|aB.of c9,rfl,wa T2,?_⟩;rw[Z9 rfl,show GI (.int (i:Int)) (nL T2)=decide (i∈T2) from yQ i T2];refine kn ?_;by_cases e2:i∈T2
   .rw [Z8<|by simp[e2]];refine dH.of hi ⟨_,rfl,rfl,?_⟩;rw[bv,Z8 (by simp[e2]),gW]
   .rw [Z9<|by simp[e2]];refine dH.of hi ⟨_,rfl,rfl,?_⟩;rw[bv,Z9<|by simp[e,e2]];unfold nL;rw[bX];rfl
 rintro ys σ Y' ⟨v,rfl,rfl,rfl⟩ c5 bi;rw[Int.toNat_natCast];obtain⟨Z,e2,sZ,hZ⟩:=aI bi<|.lst<|nL<|(OT c.ks.length).filter λy=>decide (y≠x)&&!decide (y∈T2);rw[e2];clear e2;have WZ:=WY.mono sZ;have c8:=sZ _ _ c9;have ba:H c5=none:=WY.free bi;have c6:=Be (T:=T2) (by rw[aq];exact ap) bp;have bn:((OT c.ks.length).filter λy=>decide (y≠x)&&!decide (y∈T2)).Pairwise (·<·):=List.Pairwise.filter _ List.pairwise_lt_range;generalize (OT c.ks.length).filter (λy=>decide (y≠x)&&!decide (y∈T2))=R at hZ c6 bn⊢;have ce:=ap.length_eq;rw[<- aq,aW,bS,eU,am] at ce;subst aq;refine bM ?_;walk_at "r";by_cases Xg:(c.ks.length:Int)-1-m<m
 .rw [Z9 Xg];have eb:bb=true:=by rw[av];exact decide_eq_true (by lia)
  subst eb;refine⟨cL<|by decide,λtt ag=>?_⟩;have cp:(acc++x::rest).reverse=rest.reverse++x::acc.reverse:=by rw[List.reverse_append,Fg,jM];rfl
  have br:rest.reverse.length=m:=by rw[Dr];lia
  refine q tt c5 az x R T2 (acc++x::rest).reverse _ (WZ.VL.trans (bE ag _).fr) (WZ.free ag) ba b0 aP (bE ag _ _ _ hZ) (bE ag _ _ _ c8) bn cf ((RL _).trans ap) (DS bj) ?_ ?_ ?_<;>rw[cp]
  .rw [TC<|by lia,oR<|by lia];exact c6.trans (RL _).symm
  .rw [kF<|by lia,br,jT];rfl
  .rw [show m+1=rest.reverse.length+1 by lia,List.drop_append,Qv<|by lia,E5];exact bp.trans (RL _).symm
 .rw [Z8 Xg];have eb:bb=false:=by rw[av];exact decide_eq_false (by lia)
  subst eb;refine⟨cL<|by decide,λtt ag=>?_⟩;have br:acc.length=m:=by lia
  refine q tt az c5 x T2 R (acc++x::rest) _ (WZ.VL.trans (bE ag _).fr) (WZ.free ag) b0 ba aP (bE ag _ _ _ c8) (bE ag _ _ _ hZ) cf bn ap bj ?_ ?_ ?_
  .rw [TC<|by lia,oR<|by lia];exact bp
  .rw [kF<|by lia,br,jT];rfl
  .rw [show m+1=acc.length+1 by lia,List.drop_append,Qv<|by lia,E5];exact c6
theorem OD(F:aN K "straight" "straight" Ls f fd)(T:Bt K mg Cf Cg Ca Cd Cc Cb Ch Cj Ci Ce Ck)
 :aH P w K mg base aC 1 f fd ["many"]<|cZ:=by
 refine F.ok V8 (by (intro _ _ _ _ h;cases h;subst_vars;rfl)) λJ A outer s H vs Q E O h=>?_
 refine' ⟨_,(cD<|jJ<|vc (LW rfl) rfl T.UJ PH<|bO<|vc wu rfl T.UE Rr ?_),?_⟩;walk_at "d";obtain⟨n,rfl,hn,q⟩:=h;walk_at "r";refine⟨n,rfl,λp z=>⟨p,0,n,rfl,aP,by lia,λl hl=>?_⟩⟩;exact q l _ ((bE z _).new hl) ((bE z _).free hl)<|by rw[aP,qj]
theorem NW(F:aN K "is_number" "is_number" LH f fd)(T:Bt K mg Cf Cg Ca Cd Cc Cb Ch Cj Ci Ce Ck)
 :aH P w K mg base aC 1 f fd ["some"]<|eK:=by
 refine F.ok V9 (by (intro _ _ _ _ h;cases h;subst_vars;rfl)) λz A outer s H vs Q E J h=>?_
 refine' ⟨_,(cD<|jJ<|G4 (kD Lu rfl T.UK QY<|fS ?_<|JT rfl T.Xj PyProof.Rows.boot_int)<|Iz<|yp<|kD Lu rfl T.UK QY<|fS ?_<|JT rfl T.W3 PyProof.Rows.boot_bool),?_⟩;walk_at "d";obtain⟨i,rfl,q⟩:=h;walk_at "r";refine yN ?_;walk_at "r";refine qS T.VD ?_;walk_at "r";exact q
theorem O8(F:aN K "is_paper" "is_paper" Lr f fd)(T:Bt K mg Cf Cg Ca Cd Cc Cb Ch Cj Ci Ce Ck)
  (J:Fn P w K mg base aC "straight" 1 ["many"]<|cZ)
  (z:Fn P w K mg base aC "is_number" 1 ["some"]<|eK)
 :aH P w K mg base aC 2 f fd ["some"]<|gH:=by
 refine F.ok V5 (by (intro _ _ _ _ h;cases h;subst_vars;rfl)) λad A outer s H vs Q E hr h=>?_
 refine' ⟨_,(aM (oM (PW.pt<|Ia (IB<|IC<|kD Lu rfl T.UK QY<|fS ?_<|JT rfl T.UJ PH)<|J0<|IB<|IC<|kD (KI rfl) rfl T.Wl RJ<|bO<|wZ (js:=[]) (N:=[]) rfl ?_ λ_ _ _ _=>(wG z hr.mn rfl gK<|bO<|pv 0)) ?_ ?_)<|cD<|jJ<|xc (Io hr.units) ?_ ?_<|gL _),?_⟩;walk_at "d";obtain⟨a,p,rfl,ha,hp,hl,q⟩:=h;walk_at "r";refine yM ha ?_;walk_at "r";refine wq (aB.of ha) (by rw[sV];lia) rfl (λ_ y _=>y=.bl true) (λ_ _ _ _ _ q=>q) (λi x H' hx e Q' k=>?_) λys H' l Z hR e hn=>?_
 .obtain ⟨_,rfl⟩:=Ic hx;walk_at "r";exact⟨_,rfl,k _ _ (.refl _) rfl⟩
 have ac:ys=(Pf p.length true).map V.bl:=by
  rw[List.map_replicate];refine EA (by rw[Z,sV]) λj y hy=>?_;have hj:j<ys.length:=(gX.mp hy).1;exact hR j _ y (Js<|by rw[Z,sV] at hj;exact hj) hy
 refine⟨l,Pf p.length true,rfl,aB.of (by rw[aP,ac]),?_⟩;rw[Z8<|by rw[all_true];simp];have s1:=e.new (o:=.lst ys) hn;refine⟨a,p.map λx:Nat=>(x:Int),rfl,aB.of<|s1 _ _ ha,by rw[aJ];lia,λl2 ms aa O U=>?_⟩;obtain rfl:=hp.sorted O U;have s2:=s1.new (o:=.lst<|NL<|OT p.length) aa;refine⟨a,NL p,rfl,.inl<|aB.of<|s2 _ _ ha,?_⟩;rw[sV];refine⟨p.length,rfl,by lia,λl3 H3 s3 ae h3=>?_⟩;refine Ig Enc.int.list (by decide) (zD<|aB.of<|s3 _ _ aP) (zD<|aB.of h3) ?_;rw[decide_eq_true rfl];exact q _<|s2.trans s3
theorem M8(F:aN K "check_paper" "check_paper" L5 f fd)(T:Bt K mg Cf Cg Ca Cd Cc Cb Ch Cj Ci Ce Ck)
  (z:Fn P w K mg base aC "is_paper" 2 ["some"]<|gH)
 :aH P w K mg base aC 3 f fd ["some","many"]<|cS:=by
 refine F.ok M1 (by (intro _ _ _ _ h;cases h;subst_vars;rfl)) λO A outer s H vs Q E U h=>?_
 refine' ⟨_,(cD<|oM ?_ (cD Li) ?_),?_⟩;walk_at "d";obtain⟨a,p,rfl,ha,J,hl,q⟩:=h;walk_at "r";refine⟨a,p,rfl,ha,J,hl,λH' s'=>kn ?_⟩;walk_at "r";refine⟨a,NL p,rfl,.inl<|aB.of<|s' _ _ ha,?_⟩;rw[sV,Z8<|by simp];exact q _ s'
theorem NM(F:aN K "back" "back" J4 f fd)(T:Bt K mg Cf Cg Ca Cd Cc Cb Ch Cj Ci Ce Ck)
  (z:Fn P w K mg base aC "check_paper" 3 ["some","many"]<|cS)
  (J:Fn P w K mg base aC "straight" 1 ["many"]<|cZ)
 :aH P w K mg base aC 4 f fd ["paper"]<|oZ:=by
 refine F.ok V4 (by (intro _ _ _ _ h;cases h;subst_vars;rfl)) λaf A outer s H vs Q E hr h=>?_
 have ag:=V4.nd;refine' ⟨_,(aM ?_<|aM ?_<|aM (zU PJ rfl (AJ rfl T.VH ?_) ?_ ?_) ?_),?_⟩;walk_at "d";obtain⟨a,p,rfl,ha,U,hl,q⟩:=h;walk_at "r";refine⟨a,NL p,rfl,.inl<|aB.of ha,?_⟩;rw[sV];refine⟨a,p,rfl,ha,U,hl,λH1 s1=>⟨a,NL p,rfl,.inl<|aB.of<|s1 _ _ ha,?_⟩⟩;rw[sV];refine⟨p.length,rfl,by lia,λl H2 s2 Z h2=>?_⟩;have ac:a≠l:=aX (s1 _ _ ha) Z;have O:H l=none:=s1.free Z;refine Bl (aB.of<|s2 _ _<|s1 _ _ ha) (λi σ H'=>L2.X2 λv2 v3=>σ=[some<|.ref a,some<|.ref l,v2,v3]/\H' a=some (.lst<|NL p)/\H' l=some (.lst<|NL<|Pap.spots p i)/\aD H H') ⟨_,_,rfl,s2 _ _<|s1 _ _ ha,by rw[Pap.spots_zero];exact h2,s1.trans s2⟩ (λi σ H' _ zz=>by obtain⟨_,_,_,h,_⟩:=zz;exact aB.of h) ?_ ?_
 .rintro i x σ H' t hx ⟨v2,v3,rfl,h3,h4,h5⟩ ht;obtain⟨hi,rfl⟩:=Ic hx;refine EU (bG.of aP) rfl ?_;walk_at "r";have ad:=(bE ht<|.tup [.int i,.int<|Pap.at' p i]) _ _ h3;have aa:=(bE ht<|.tup [.int i,.int<|Pap.at' p i]) _ _ h4;have ae:=U.U9 hi;refine⟨l,_,_,_,rfl,rfl,aa,Ii (by lia)<|by rw[sV,Pap.spots_len];lia,?_⟩;refine⟨_,_,rfl,by rw[aO ac];exact ad,?_,(h5.new ht).upd O⟩;rw[aP,Int.toNat_natCast,<- Pap.spots_step U hi,NL,NL,List.map_set,List.map_set]
 .rintro σ H' ⟨v2,v3,rfl,h3,h4,h5⟩;rw[sV,Pap.spots_end U] at h4;walk_at "r";exact q l _ h5 O h4
theorem NZ(F:aN K "agrees" "agrees" Lk f fd)(T:Bt K mg Cf Cg Ca Cd Cc Cb Ch Cj Ci Ce Ck)
  (Z:Fn P w K mg base aC "back" 4 ["paper"]<|oZ)
 :aH P w K mg base aC 5 f fd ["paper","answers"]<|iN:=by
 refine F.ok Vx (by (intro _ _ _ _ h;cases h;subst_vars;rfl)) λah A outer s H vs Q E hr h=>?_
 have ai:=Vx.nd;refine' ⟨_,(aM ?_<|cD<|jJ<|kD (KI rfl) rfl T.Wl RJ<|bO<|IS rfl (k:=3) (js:=[2]) (N':=["later","earlier","said","spots"]) (by rfl) ?_ (λ_ _ _ _=>Ks (n:=3) K rfl<|w6 (rA (i:=0) (show(["later","earlier","said","spots"]:List Pa).Nodup by decide+kernel) rfl<|by (first | exact Or.inl rfl | exact Or.inr rfl))<|w6 (rA (i:=1) (show(["later","earlier","said","spots"]:List Pa).Nodup by decide+kernel) rfl<|by (first | exact Or.inl rfl | exact Or.inr rfl))<|w6 (rA (i:=2) (show(["later","earlier","said","spots"]:List Pa).Nodup by decide+kernel) rfl<|by (first | exact Or.inl rfl | exact Or.inr rfl)) Hb) (λ_ _ _ _=>Hi) λ_ _ _ _=>(xc EK (xc Fy (pN (wQ K) (pv 3) (pv 0) λ_ _=>rfl) (pN (wQ K) (pv 3) (pv 1) λ_ _=>rfl)<|gL _) (pv 2)<|gL _)),?_⟩;walk_at "d";obtain⟨a,w,p,cs,ws,rfl,ha,hp,hl,hw,J,U,ac,q⟩:=h;walk_at "r";refine⟨a,p,rfl,ha,hp,hl,λsp H1 s1 ag ae=>?_⟩;have af:=J.keep s1;refine nZ (aB.of<|s1 _ _ hw) (by rw[J.len];lia) (λi ys σ H'=>L2.X3 λv1 v2 v3=>σ=[v1,v2,v3,some<|.ref sp]/\aD H1 H'/\ys=((cs.take i).map λc=>decide (Pap.at' (Pap.bk p) c.1<Pap.at' (Pap.bk p) c.2.1)==c.2.2).map V.bl) ⟨_,_,_,rfl,.refl _,rfl⟩ (λi ys σ H' hi zz=>by obtain⟨_,_,_,_,e,e2⟩:=zz;exact⟨aB.of<|e _ _<|s1 _ _ hw,by rw[e2,aJ,aJ,gV];lia⟩) ?_ ?_
 .rintro i ys x σ H' hi hx ⟨v1,v2,v3,rfl,s2,rfl⟩;rw[J.len] at hi;obtain⟨⟨p1,q1,b1⟩,hc⟩:∃c,cs[i]?=some c:=⟨_,bL hi⟩
  obtain⟨t,O,aa⟩:=af.get i p1 q1 b1 hc;rw[hx] at O;cases O;obtain⟨b2,b3⟩:=U _<|jB hc;refine EU (bG.of<|s2 _ _ aa) rfl ?_;walk_at "r";have z:=s2 _ _ ae;refine dE (aB.of z) (C6 (by rw[Pap.bk_len];exact b2) rfl)<|dE (aB.of z) (C6 (by rw[Pap.bk_len];exact b3) rfl) ?_;walk_at "r";refine dH.of (by rw[J.len];exact hi) ⟨_,_,_,rfl,s2,?_⟩;rw[take_snoc hc,bX,bX,DL (Pap.at' (Pap.bk p) p1) (Pap.at' (Pap.bk p) q1) b1];rfl
 rintro ys σ H2 ⟨v1,v2,v3,rfl,s2,rfl⟩ l ad;refine⟨l,_,rfl,aB.of aP,?_⟩;have e:((cs.take ws.length).map λc=>decide (Pap.at' (Pap.bk p) c.1<Pap.at' (Pap.bk p) c.2.1)==c.2.2).all id=Fs p cs:=by
  rw[J.len,oR<|aK _,List.all_map];rfl
 rw[e];exact q _<|s1.trans<|s2.new ad
theorem Ot(F:aN K "shows" "shows" KC f fd)(T:Bt K mg Cf Cg Ca Cd Cc Cb Ch Cj Ci Ce Ck)
  (aa:Fn P w K mg base aC "agrees" 5 ["paper","answers"]<|iN)
 :aH P w K mg base aC 6 f fd ["paper","answers"]<|kK:=by
 refine F.ok Vy (by (intro _ _ _ _ h;cases h;subst_vars;rfl)) λb2 A outer s H vs Q E hr h=>?_
 refine' ⟨_,(aM ?_<|aM (mM (i:=2) Vy.nd rfl (by (first | exact Or.inl rfl | exact Or.inr rfl))<|vc (sQ rfl hr.units) rfl T.VN RD<|bO<|IS rfl (k:=3) (js:=[]) (N':=["later","earlier","said"]) (by rfl) ?_ (λ_ _ _ _=>Ks (n:=3) K rfl<|w6 (rA (i:=0) (show(["later","earlier","said"]:List Pa).Nodup by decide+kernel) rfl<|by (first | exact Or.inl rfl | exact Or.inr rfl))<|w6 (rA (i:=1) (show(["later","earlier","said"]:List Pa).Nodup by decide+kernel) rfl<|by (first | exact Or.inl rfl | exact Or.inr rfl))<|w6 (rA (i:=2) (show(["later","earlier","said"]:List Pa).Nodup by decide+kernel) rfl<|by (first | exact Or.inl rfl | exact Or.inr rfl)) Hb) (λ_ _ _ _=>Hi) λ_ _ _ _=>(ES<|fS (ES<|fS (pv 0)<|pv 1) JC))<|cD<|jJ<|kD (KI rfl) rfl T.Wl RJ<|bO<|wZ (js:=[2]) (N:=["asked"]) rfl (AI rfl T.WG ?_) λ_ _ _ _=>(D5<|D6 (EJ hr) (ES<|fS (kD (sP K rfl) rfl T.Wk RI<|bO<|pv 0)<|kD (sO K rfl) rfl T.Wj RH<|bO<|pv 0)<|pv 1)),?_⟩;walk_at "d";obtain⟨a,w,p,cs,ws,rfl,ha,hp,hl,hw,O,ah,ac,q⟩:=h;walk_at "r";refine⟨a,w,p,cs,ws,rfl,ha,hp,hl,hw,O,ah,ac,λH1 s1=>kn ?_⟩;by_cases Xq:Fs p cs=true
 .rw [Z8<|by rw[Xq];simp];rw[Xq,Bool.true_and] at q;walk_at "r";have aw:=O.keep s1;have ai:=s1 _ _ hw;have ay:=s1 _ _ ha;refine nZ (aB.of ai) (by rw[O.len];lia) (λi ys σ H'=>L2.X4 λU v2 v3 ps=>σ=[U,v2,v3]/\aD H1 H'/\ys=ps.map (λq:PQ=>V.ref q.1)/\ps.map (λq:PQ=>q.2.2)=(cs.take i).map (λc=>(Cz c.1 c.2.1,V.bl true))/\∀q∈ps,H' q.1=some (.tup [.ref q.2.1,q.2.2.2])/\H' q.2.1=some (.tup<|q.2.2.1.map kV)) ⟨_,_,_,[],rfl,.refl _,rfl,rfl,λq hq=>(by cases hq)⟩ (λi ys σ H' hi ⟨_,_,_,ps,_,e,e2,e3,_⟩=>⟨aB.of<|e _ _ ai,by
   rw[e2,aJ];have:=congrArg Pz e3;rw[aJ,aJ,gV] at this;lia⟩) ?_ ?_
  .rintro i ys x σ H' hi hx ⟨U,v2,v3,ps,rfl,s2,rfl,e3,J⟩;rw[O.len] at hi;obtain⟨⟨p1,q1,b1⟩,hc⟩:∃c,cs[i]?=some c:=⟨_,bL hi⟩
   obtain⟨t,ad,ap⟩:=aw.get i p1 q1 b1 hc;rw[hx] at ad;cases ad;refine EU (bG.of<|s2 _ _ ap) rfl ?_;walk_at "r";refine⟨cL<|by decide,λk1 aq=>?_⟩;obtain⟨HA,eA,sA,as⟩:=aI aq<|.tup [.int p1,.int q1];rw[eA];clear eA;refine⟨cL<|by decide,λk2 au=>?_⟩;obtain⟨HB,eB,sB,ax⟩:=aI au<|.tup [.ref k1,.bl true];rw[eB];clear eB;refine dH.of (by rw[O.len];exact hi) ⟨_,_,_,ps++[(k2,k1,Cz p1 q1,.bl true)],rfl,s2.trans<|sA.trans sB,by rw[bX];rfl,by rw[bX,e3,take_snoc hc,bX];rfl,λq hq=>?_⟩;rcases gN.mp hq with z|z
   .exact ⟨sB _ _<|sA _ _ (J q z).1,sB _ _<|sA _ _ (J q z).2⟩
   .rw [bD.mp z];exact⟨ax,sB _ _ as⟩
  rintro ys σ H2 ⟨U,v2,v3,ps,rfl,s2,rfl,e3,J⟩ l aj;obtain⟨H3,e4,s3,h3⟩:=aI aj<|.lst (ps.map λq:PQ=>V.ref q.1);rw[e4];clear e4;rw[O.len,oR<|aK _] at e3;refine⟨l,ps,rfl,h3,λq hq=>⟨s3 _ _ (J q hq).1,s3 _ _ (J q hq).2⟩,λd hd=>?_⟩;obtain⟨H4,e4,s4,h4⟩:=aI hd<|.dT<|wV [] ps;rw[e4];clear e4;have S4:aD H H4:=s1.trans<|s2.trans<|s3.trans s4;have Z:=S4 _ _ ha;have ag:∀x y:Nat,(cH (wV [] ps)<|Cz (max x y)<|min x y).isSome=Bw cs x y:=λx y=>by
   rw[jN,xm,Option.isSome_none,Bool.false_or];have e5:ps.any (λq=>decide<|q.2.2.1=Cz (max x y) (min x y))=(ps.map λq:PQ=>q.2.2).any (λc=>decide<|c.1=Cz (max x y) (min x y)):=by rw[List.any_map];rfl
   rw[e5,e3,List.any_map];rfl
  walk_at "r";refine va (aB.of Z) λsl am=>?_;rw[wm];obtain⟨H5,e5,s5,h5⟩:=aI am<|.lst<|(NL p).drop 1;rw[e5];clear e5;refine rn (aB.of<|s5 _ _ Z) (aB.of h5) (by rw[sV];lia) (λi ys σ H'=>∃U,σ=[U,some<|.ref d]/\aD H5 H'/\ys=((OT i).map λj=>Bw cs (Pap.at' p j)<|Pap.at' p<|j+1).map V.bl) ⟨_,rfl,.refl _,rfl⟩ (λi ys σ H' hi zz=>by obtain⟨_,_,e,e2⟩:=zz;exact⟨aB.of<|e _ _<|s5 _ _ Z,aB.of<|e _ _ h5,by rw[e2,aJ,aJ,eU];exact aK _⟩) ?_ ?_
  .rintro i ys x y σ H' pp hi hx hy ⟨U,rfl,s6,rfl⟩ ao;rw[dW,sV] at hi;obtain⟨b0,rfl⟩:=Ic hx;rw[Di,Nat.add_comm] at hy;obtain⟨az,rfl⟩:=Ic hy;obtain⟨H7,e7,s7,h7⟩:=aI ao<|.tup [.int<|Pap.at' p i,.int<|Pap.at' p<|i+1];rw[e7];clear e7;walk_at "r";generalize XS:Pap.at' p i=x at h7⊢;generalize XR:Pap.at' p (i+1)=y at h7⊢;refine⟨pp,[(x:Int),(y:Int)],rfl,bG.of h7,by simp,λM hM af=>⟨pp,[(x:Int),(y:Int)],rfl,bG.of h7,by simp,λm hm ae=>⟨cL<|by decide,λt ht=>?_⟩⟩⟩;have a1:=af x aU;have a2:=af y<|bA _ aU;have a3:=ae x aU;have a4:=ae y<|bA _ aU;have eM:M=((max x y:Nat):Int):=by
    rcases bC.mp hM with z|z
    .lia
    .have:=bD.mp z;lia
   have em:m=((min x y:Nat):Int):=by
    rcases bC.mp hm with z|z
    .lia
    .have:=bD.mp z;lia
   subst eM em;refine⟨d,_,rfl,jL.t (k:=Cz (max x y)<|min x y) (bE ht _ _ _<|s7 _ _<|s6 _ _<|s5 _ _ h4) aP,?_⟩;rw[ag];refine dH.of (by rw[sV,dW,sV];exact hi) ⟨_,rfl,(s6.trans s7).new ht,?_⟩;rw[C7,bX,bX];show _=_++[V.bl<|Bw cs (Pap.at' p i)<|Pap.at' p<|i+1];rw[XS,XR]
  rintro ys σ H6 ⟨U,rfl,s6,rfl⟩ r av;refine⟨r,_,rfl,aB.of aP,?_⟩;rw[dW,sV,E6<|by lia];exact q _<|S4.trans<|s5.trans<|s6.new av
 .rw [Z9<|by simpa using Xq];rw[show Fs p cs=false by simpa using Xq,TZ] at q;exact q _ s1
theorem NB(F:aN K "_law_cell_at" "_law_cell_at" La f fd)(T:Bt K mg Cf Cg Ca Cd Cc Cb Ch Cj Ci Ce Ck)
 :aH P w K mg base aC 1 f fd ["_law_script","_law_k"]<|jE K:=by
 refine F.ok V7 (by (intro _ _ _ _ h;cases h;subst_vars;rfl)) λO A outer s H vs Q E U h=>?_
 refine' ⟨_,(aM ?_ ?_),?_⟩;walk_at "d";obtain⟨a,ns,k,rfl,J,h0,q⟩:=h;walk_at "r";refine⟨a,_,rfl,.inl J,?_⟩;walk_at "r";rw[aJ];unfold cellOf at q;split
 .rename_i hk;rw[Z9 hk] at q;have z:k.toNat<ns.length:=by lia
  refine dE J (rz h0<|bL z) ?_;rw[bL z] at q;exact q
 .rename_i hk;rw[Z8 hk] at q;exact q
theorem M5(F:aN K "_law_blocks" "_law_blocks" Ll f fd)(T:Bt K mg Cf Cg Ca Cd Cc Cb Ch Cj Ci Ce Ck)
 :aH P w K mg base aC 1 f fd ["_law_keys","_law_one","_law_two"]<|tO:=by
 refine F.ok Vk (by (intro _ _ _ _ h;cases h;subst_vars;rfl)) λaq A outer s H vs Q E hr h=>?_
 have ao:=Vk.nd;refine' ⟨_,(aM ?_<|aM ?_<|aM (Hj PJ ?_<|aM ?_<|aM (oM (lR EK (eY G2 (eY IL ?_ ?_) ?_) ?_<|gL _) (cD<|Hd<|yv P4 PySem.F.slot_list_reverse PySem.F.type_list_reverse lG ?_) ?_)<|aM (mM (i:=3) Vk.nd rfl (by (first | exact Or.inl rfl | exact Or.inr rfl))<|eY CV ?_ ?_) ?_) ?_),?_⟩;walk_at "d";obtain⟨a,c1,c2,ks,rfl,ha,hk,q⟩:=h;walk_at "r";refine⟨cE _,λr0 ad=>?_⟩;obtain⟨H1,e1,s1,h1⟩:=aI ad<|.lst [];rw[e1];clear e1;refine xa (λm σ H'=>L2.X4 λ(rwA:OL) (k:Nat) (v5:Option V) (rs:List Int)=>m=ks.length-rs.length/\σ=[some<|.ref a,some<|.int c1,some<|.int c2,some<|.ref rwA,some<|.int k,v5]/\k<=rs.length/\rs.length<=ks.length/\aD H H'/\H rwA=none/\H' rwA=some (.lst<|rs.map V.int)) ⟨_,r0,0,_,[],rfl,rfl,cE _,cE _,s1,ad,h1⟩ ?_;rintro m σ H' ⟨rwA,k,v5,rs,rfl,rfl,am,ai,s2,af,J⟩;walk_at "r";refine⟨rwA,_,rfl,.inl<|aB.of J,a,_,rfl,.inl<|aB.of<|s2 _ _ ha,?_⟩;rw[aJ,aJ];walk_at "r";by_cases UA:rs.length<ks.length
 .rw [Z9<|by lia];refine w8 ?_;walk_at "r";refine⟨rwA,_,rfl,.inl<|aB.of J,rwA,_,rfl,.inl<|aB.of J,by decide,by decide,cL<|by decide,λp hp=>⟨by decide,?_⟩⟩;rw[aJ];obtain⟨H3,e3,s3,h3⟩:=aI hp<|.lst [.int<|c1%17,.int<|c2%40];rw[e3];clear e3;obtain⟨b,au,hb⟩:∃b:Nat,0<=b/\lP [V.int<|c1%17,V.int<|c2%40] ((k:Int)%2)=some (V.int (b:Int)):=by
   have m0:(k:Int)%2=0∨(k:Int)%2=1:=by lia
   have g1:=Pn c1 (show(17:Int)≠0 by decide);have g2:=Pn c2 (show(40:Int)≠0 by decide);rcases m0 with e|e<;>rw[e]
   .exact ⟨(c1%17).toNat,cE _,by rw[Rt g1];exact cO (by decide) rfl⟩
   .exact ⟨(c2%40).toNat,cE _,by rw[Rt g2];exact cO (by decide) rfl⟩
  refine dE (aB.of h3) hb ?_;walk_at "r";refine va (aB.of<|s3 _ _<|s2 _ _ ha) λsl ah=>?_;rw[IT,show(rs.length:Int)+1+(b:Int)=((rs.length+1+b:Nat):Int) by lia,HT.sIx_nat,HT.sIx_nat,rM ai];obtain⟨bl,aa⟩:∃bl,(ks.drop rs.length).take (min (rs.length+1+b) ks.length-rs.length)=bl:=⟨_,rfl⟩
  have aj:1<=bl.length/\rs.length+bl.length<=ks.length:=by rw[<- aa,gV,dW];lia
  rw[aa];clear aa;obtain⟨H4,e4,s4,h4⟩:=aI ah<|.lst<|bl.map V.int;rw[e4];clear e4;refine⟨sl,bl,rfl,aB.of h4,by lia,λl ms hl Z _=>⟨⟨by decide,by decide⟩,⟨by lia,by lia⟩,by decide,?_⟩⟩;have ac:=Z.length_eq;have S4:aD H H4:=s2.trans<|s3.trans s4;have O:=s4 _ _<|s3 _ _ J;have ap:rwA≠l:=aX O hl;apply Fx λX:Hp=>aD H X/\X rwA=some (.lst<|rs.map V.int)/\∃us:List Int,us.length=bl.length/\X l=some (.lst<|us.map V.int)
  .intro z;by_cases hc:c1/17/((k:Int)+1)%2=1
   .rw [Z9 hc];refine⟨.inl ⟨rfl,_,aB.of aP⟩,l,_,rfl,rfl,aP,?_⟩;rw[IH,<- List.map_reverse];obtain⟨X,eX,U,hX⟩:=aI hl<|.lst<|ms.reverse.map V.int;rw[eX];clear eX;exact z X ⟨S4.trans U,U _ _ O,ms.reverse,by rw[Dr,ac],hX⟩
   .rw [Z8 hc];obtain⟨X,eX,U,hX⟩:=aI hl<|.lst<|ms.map V.int;rw[eX];clear eX;exact z X ⟨S4.trans U,U _ _ O,ms,ac,hX⟩
  rintro X ⟨U,ag,us,as,hX⟩;refine⟨rwA,l,_,_,rfl,rfl,ag,hX,cL<|by rw[aJ,aJ];lia,λp2 ae=>?_⟩;refine⟨_,?_,p2,k+1,_,rs++us,rfl,by rw[show(k:Int)+1=((k+1:Nat):Int) by lia],?_,?_,U.new ae,U.free ae,by rw[aP,bX]⟩<;>rw[aW]<;>lia
 .rw [Z8<|by lia];walk_at "r";exact q rwA H' rs s2 af J<|by lia
theorem NH(F:aN K "_law_keys_by" "_law_keys_by" Lc f fd)(T:Bt K mg Cf Cg Ca Cd Cc Cb Ch Cj Ci Ce Ck)
  (U:Fn P w K mg base aC "_law_cell_at" 1 ["_law_script","_law_k"]<|jE K)
 :aH P w K mg base aC 2 f fd ["_law_script","_law_many","_law_most"]<|iI K:=by
 refine F.ok Vh (by (intro _ _ _ _ h;cases h;subst_vars;rfl)) λai A outer s H vs Q E hr h=>?_
 have aj:=Vh.nd;refine' ⟨_,(aM (oM ?_ (cD<|jJ<|wZ (js:=[1]) (N:=["_law_many"]) rfl ?_ λ_ _ _ _=>(eY G2 (pv 0)<|pv 1)) ?_)<|bN<|aM ?_<|aM ?_<|aM (zU PJ rfl ?_ ?_<|aM (oM ?_ (cD<|mM (i:=3) Vh.nd rfl (by (first | exact Or.inl rfl | exact Or.inr rfl))<|eY CU (eY JQ (kD wA rfl T.Xk PyProof.Rows.boot_abs ?_) ?_) ?_) ?_)<|aM ?_<|cD<|mM (i:=3) Vh.nd rfl (by (first | exact Or.inl rfl | exact Or.inr rfl))<|eY IL ?_ ?_) ?_),?_⟩;walk_at "d";obtain⟨a,ns,m,rfl,hS,af,O,ac,q⟩:=h;walk_at "r";refine⟨a,ns,1,rfl,hS,by decide,?_⟩;generalize cellOf ns 1=c1;walk_at "r";refine⟨⟨by decide,by decide⟩,by decide,?_⟩;by_cases hc:c1/4%2=0
 .rw [Z9 hc];refine va hS λsl ae=>?_;rw[IT];obtain⟨bl,aa⟩:∃bl,(ns.drop<|HT.sIx ns.length 0<|some 5).take (HT.sIx ns.length ns.length (some<|5+63)-HT.sIx ns.length 0 (some 5))=bl:=⟨_,rfl⟩
  have ag:bl.length<=63:=by rw[<- aa,gV,dW];lia
  rw[aa];clear aa;obtain⟨H4,e4,s4,h4⟩:=aI ae<|.lst<|bl.map V.int;rw[e4];clear e4;refine zY (aB.of h4) (by rw[aJ];lia) (λi ys σ H'=>∃v,σ=[v,some<|.int m]/\H'=H4/\∃cs:List Int,ys=cs.map V.int/\cs.length=i) ⟨_,rfl,rfl,[],rfl,rfl⟩ (λi ys σ H' _ zz=>by obtain⟨_,_,e,cs,e2,e3⟩:=zz;exact⟨by rw[e];exact aB.of h4,by rw[e2,aJ];lia⟩) ?_ ?_
  .rintro i ys x σ H' hi hx ⟨v,rfl,rfl,cs,rfl,Z⟩;obtain⟨n,ah,rfl⟩:=yX hx;walk_at "r";refine⟨O,?_⟩;exact dH.of hi ⟨_,rfl,rfl,cs++[_],by rw[bX];rfl,by rw[aW,Z];rfl⟩
  rintro ys σ H2 ⟨v,rfl,rfl,cs,rfl,Z⟩ k1 ad;rw[aJ] at Z;exact q k1 _ cs (s4.trans<|bE ad _) (s4.free ad) aP<|by lia
 rw[Z8 hc];refine bM ?_;walk_at "r";refine⟨a,ns,5,rfl,hS,by decide,_,_,rfl,?_⟩;generalize cellOf ns 5=c5;walk_at "r";rw[show((if (60:Int)<63 then(60:Int) else 63)+1)=61 from rfl];refine⟨⟨by decide,by decide⟩,cE _,λp hp=>?_⟩;obtain⟨H1,e1,s1,h1⟩:=aI hp<|.lst [];rw[e1];clear e1;refine⟨a,ns,5,rfl,s1.seq hS,by decide,_,_,rfl,?_⟩;generalize cellOf ns 5=c6;walk_at "r";rw[show((if (60:Int)<63 then(60:Int) else 63)+1)=61 from rfl];refine⟨by decide,?_⟩;have r0:=Pn c6 (show(61:Int)≠0 by decide);have r1:=PD c6 (show(0:Int)<61 by decide);obtain⟨z0,ez⟩:∃z0,c5/61=z0:=⟨_,rfl⟩
 rw[ez];refine Hf (by lia)<|FG (λi σ H'=>L2.X3 λ(z:Int) (rs:List Int) (v5:Option V)=>σ=[some<|.ref a,some<|.int m,some<|.int 63,some<|.int z,some<|.ref p,v5]/\aD H H'/\H' p=some (.lst<|rs.map V.int)/\rs.length=i) ⟨z0,[],_,rfl,s1,h1,rfl⟩ ?_ ?_
 .rintro i σ H' hi ⟨z,rs,v5,rfl,s2,h2,hz⟩;walk_at "r";apply Fx (λy:Int=>True)
  .intro J;by_cases XB:z<1
   .rw [Z9 XB];refine⟨a,ns,6+(0+(i:Int)),rfl,s2.seq hS,by lia,_,rfl,?_⟩;walk_at "r";refine⟨.inr ⟨by decide,by decide⟩,.inr ⟨by lia,by lia⟩,.inr ⟨by lia,by lia⟩,?_⟩;obtain⟨y,ey⟩:∃y,(if cellOf ns (6+(0+(i:Int)))<0 then -cellOf ns (6+(0+(i:Int))) else cellOf ns (6+(0+(i:Int))))*48271+16807*(0+(i:Int))*(0+(i:Int))=y:=⟨_,rfl⟩
    rw[ey];exact J y trivial
   .rw [Z8 XB];exact J z trivial
  intro y _;refine⟨.inl ⟨rfl,_,aB.of h2⟩,O,p,_,_,rfl,rfl,h2,rB<|by rw[aJ];lia,⟨O,Int.lt_of_le_of_lt ac<|by decide⟩,?_⟩;exact⟨_,rs++[_],_,rfl,s2.upd hp,by rw[aP,bX];rfl,by rw[aW,hz];rfl⟩
 .rintro σ H' ⟨z,rs,v5,rfl,s2,h2,hz⟩;walk_at "r";exact q p H' rs s2 hp h2<|by lia
theorem Oi(F:aN K "_law_row_by" "_law_row_by" K0 f fd)(T:Bt K mg Cf Cg Ca Cd Cc Cb Ch Cj Ci Ce Ck)
  (ad:Fn P w K mg base aC "_law_keys_by" 2 ["_law_script","_law_many","_law_most"]<|iI K)
  (ai:Fn P w K mg base aC "_law_cell_at" 1 ["_law_script","_law_k"]<|jE K)
  (ao:Fn P w K mg base aC "_law_blocks" 1 ["_law_keys","_law_one","_law_two"]<|tO)
 :aH P w K mg base aC 3 f fd ["_law_script"]<|kL K:=by
 refine F.ok Vf (by (intro _ _ _ _ h;cases h;subst_vars;rfl)) λb6 A outer s H vs Q E hr h=>?_
 have b4:=Vf.nd;refine' ⟨_,(aM (mM (i:=1) Vf.nd rfl (by (first | exact Or.inl rfl | exact Or.inr rfl))<|pN qR (G5<|FI ?_<|zO ?_ ?_<|eY D8 ?_ ?_) ?_ λ_ _=>rfl)<|bN<|aM ?_<|bN<|aM ?_<|aM ?_<|aM ?_<|bN<|aM ?_<|bN<|aM (oM (PW.pt<|CW ?_<|EW<|lR (JR hr.units) ?_ ?_<|gL _) ?_ ?_)<|bN<|aM (oM (PW.pt<|CW ?_<|EW<|lR (JR hr.units) ?_ ?_<|gL _) (cD<|mM (i:=2) Vf.nd rfl (by (first | exact Or.inl rfl | exact Or.inr rfl))<|eY CV ?_ ?_) ?_)<|bN<|cD<|jJ<|wZ (js:=[2]) (N:=["_law_keys"]) rfl ?_ λ_ _ _ _=>(ES<|fS (pN (wQ K) (pv 1) (pv 0) λ_ _=>rfl)<|pv 0)),?_⟩;walk_at "d";obtain⟨a,ns,rfl,hS,ax,q⟩:=h;walk_at "r";refine⟨⟨by decide,by decide,by decide⟩,cL<|by decide,λp hp=>?_⟩;obtain⟨H1,e1,s1,h1⟩:=aI hp<|.lst [.int 2,.int 5,.int 100,.int<|10^Int.toNat 60];rw[e1];clear e1;refine⟨a,ns,0,rfl,s1.seq hS,by decide,?_⟩;generalize cellOf ns 0=c0;walk_at "r";refine⟨by decide,?_⟩;obtain⟨b,b3,ay,hb⟩:∃b:Int,0<b/\b<=10^60/\lP [V.int 2,V.int 5,V.int 100,V.int<|10^Int.toNat 60] (c0%4)=some (V.int b):=by
  have m0:c0%4=0∨c0%4=1∨c0%4=2∨c0%4=3:=by lia
  rcases m0 with e|e|e|e<;>rw[e]
  .exact ⟨2,by decide,by decide,cO (by decide) rfl⟩
  .exact ⟨5,by decide,by decide,cO (by decide) rfl⟩
  .exact ⟨100,by decide,by decide,cO (by decide) rfl⟩
  .exact ⟨10^Int.toNat 60,by decide,by decide,cO (by decide) rfl⟩
 refine dE (aB.of h1) hb ?_;refine bM ?_;walk_at "r";refine⟨a,ns,b,rfl,s1.seq hS,ax,b3,ay,λk1 H2 r1 s2 az h2 aj=>?_⟩;have S2:aD H H2:=s1.trans s2;refine bM ?_;walk_at "r";refine⟨a,ns,1,rfl,S2.seq hS,by decide,?_⟩;generalize cellOf ns 1=c1;walk_at "r";refine⟨by decide,a,ns,2,rfl,S2.seq hS,by decide,a,ns,3,rfl,S2.seq hS,by decide,?_⟩;generalize c1%4=cw;generalize cellOf ns 2=c2;generalize cellOf ns 3=c3;refine bM ?_;walk_at "r";apply HW λ(O:OL) (H4:Hp)=>aD H H4/\H O=none/\∃ks:List Int,H4 O=some (.lst<|ks.map V.int)/\ks.length<=63
 .intro J;by_cases h1:cw=1
  .rw [Z9 h1];refine⟨k1,c2,c3,r1,rfl,h2,aj,λl H' rs s' hl h' hr=>?_⟩;exact J l H' ⟨S2.trans s',S2.free hl,rs,h',hr⟩
  .rw [Z8 h1];exact J k1 H2 ⟨S2,s1.free az,r1,h2,aj⟩
 rintro O H4 ⟨S4,Z,ks,h4,U⟩;clear h2 aj s2;refine bM ?_;walk_at "r";apply HW λ(O:OL) (H4:Hp)=>aD H H4/\H O=none/\∃ks:List Int,H4 O=some (.lst<|ks.map V.int)/\ks.length<=63
 .intro J;by_cases h1:cw=2
  .rw [Z9 h1];refine⟨cE _,λp2 ah=>?_⟩;obtain⟨H5,e5,s5,h5⟩:=aI ah<|.lst [];rw[e5];clear e5;have S5:=S4.trans s5;refine JP Enc.int.list (by decide) (a:=ks) (b:=[]) (zD<|aB.of<|s5 _ _ h4) (zD (xs:=[])<|aB.of h5)<|kn ?_;by_cases WT:ks≠[]
   .rw [Z9<|by simp[WT]];refine⟨O,ks,rfl,aB.of<|s5 _ _ h4,by lia,λl ms hl aa _=>?_⟩;obtain⟨H6,e6,s6,h6⟩:=aI hl<|.lst<|ms.map V.int;rw[e6];clear e6;have af:=aa.length_eq;have as:0<ms.length:=by rw[af];exact List.length_pos_iff.mpr WT
    refine⟨.inl ⟨rfl,_,aB.of h6⟩,l,_,rfl,.inl<|aB.of h6,?_⟩;rw[aJ];refine⟨by lia,.inl ⟨rfl,_,aB.of h6⟩,l,_,rfl,.inl<|aB.of h6,?_⟩;rw[aJ];have g0:=Pn c2 (show(ms.length:Int)≠0 by lia);have g1:=PD c2 (show(0:Int)<ms.length by lia);have g2:=Pn c3 (show(ms.length:Int)≠0 by lia);have g3:=PD c3 (show(0:Int)<ms.length by lia);have hi:(c2%(ms.length:Int)).toNat<ms.length:=by lia
    refine⟨by lia,l,_,_,(c2%(ms.length:Int)).toNat,V.int ms[(c2%(ms.length:Int)).toNat],rfl,rfl,h6,by lia,by lia,Qp g0<|by rw[aJ];lia,by rw[dF,bL hi];rfl,?_⟩;rw[ze];obtain⟨us,eu,ul⟩:=vX (ms.eraseIdx (c2%(ms.length:Int)).toNat) (c3%(ms.length:Int)) ms[(c2%(ms.length:Int)).toNat];have el:=List.length_eraseIdx_of_lt hi;refine⟨l,_,_,_,rfl,rfl,aP,rB<|by rw[aJ];lia,by lia,?_⟩;rw[IH,eu];have aw:aD H<|upd H6 l<|.lst<|us.map V.int:=(S5.trans s6).upd<|S5.free hl;have aq:upd H6 l (.lst<|us.map V.int) l=some (.lst<|us.map V.int):=aP;generalize upd H6 l (.lst<|us.map V.int)=H7 at aw aq⊢;exact J l H7 ⟨aw,S5.free hl,us,aq,by lia⟩
   .rw [Z8<|by simpa using WT];exact J O H5 ⟨S5,Z,ks,s5 _ _ h4,U⟩
  .rw [Z8 h1];exact J O H4 ⟨S4,Z,ks,h4,U⟩
 clear h4 U Z S4;clear ks H4 O;rintro O H4 ⟨S4,Z,ks,h4,U⟩;refine bM ?_;walk_at "r";apply HW λ(O:OL) (H4:Hp)=>aD H H4/\H O=none/\∃ks:List Int,H4 O=some (.lst<|ks.map V.int)/\ks.length<=63
 .intro J;by_cases h1:cw=3
  .rw [Z9 h1];refine⟨cE _,λp2 ah=>?_⟩;obtain⟨H5,e5,s5,h5⟩:=aI ah<|.lst [];rw[e5];clear e5;have S5:=S4.trans s5;refine JP Enc.int.list (by decide) (a:=ks) (b:=[]) (zD<|aB.of<|s5 _ _ h4) (zD (xs:=[])<|aB.of h5)<|kn ?_;by_cases WT:ks≠[]
   .rw [Z9<|by simp[WT]];have as:0<ks.length:=List.length_pos_iff.mpr WT;have am:=s5 _ _ h4;refine⟨O,_,rfl,.inl<|aB.of am,?_⟩;rw[aJ];have g0:=Pn c2 (show(ks.length:Int)≠0 by lia);have g1:=PD c2 (show(0:Int)<ks.length by lia);obtain⟨d,ed⟩:∃d:Nat,c2%(ks.length:Int)=d:=⟨(c2%(ks.length:Int)).toNat,by lia⟩
    rw[ed] at g0 g1⊢;walk_at "r";refine⟨by lia,va (aB.of am) λl1 b2=>?_⟩;rw[IT,HT.sIx_none,HT.sIx_nat,rM (show d<=ks.length by lia),Tj];obtain⟨H6,e6,s6,h6⟩:=aI b2<|.lst<|((ks.drop 0).take d).map V.int;rw[e6];clear e6;have ap:=s6 _ _ am;refine⟨O,_,rfl,.inl<|aB.of ap,?_⟩;rw[aJ,ed];walk_at "r";refine⟨by lia,va (aB.of ap) λl2 b0=>?_⟩;rw[IT,HT.sIx_none,HT.sIx_nat,rM<|show d<=ks.length by lia];obtain⟨H7,e7,s7,h7⟩:=aI b0<|.lst<|((ks.drop d).take<|ks.length-d).map V.int;rw[e7];clear e7;refine⟨l2,_,rfl,aB.of h7,by rw[gV,dW];lia,λl3 ms b1 aa _=>?_⟩;have af:=aa.length_eq;rw[gV,dW] at af;obtain⟨H8,e8,s8,h8⟩:=aI b1<|.lst<|ms.map V.int;rw[e8];clear e8;refine⟨l1,l3,_,_,rfl,rfl,s8 _ _<|s7 _ _ h6,h8,cL<|by rw[aJ,aJ,gV,dW];lia,λp3 au=>?_⟩;rw[<- bX];obtain⟨H9,e9,s9,h9⟩:=aI au<|.lst<|((ks.drop 0).take d++ms).map V.int;rw[e9];clear e9;have S8:aD H H8:=S5.trans<|s6.trans<|s7.trans s8;exact J p3 H9 ⟨S8.trans s9,S8.free au,_,h9,by rw[aW,gV,dW];lia⟩
   .rw [Z8<|by simpa using WT];exact J O H5 ⟨S5,Z,ks,s5 _ _ h4,U⟩
  .rw [Z8 h1];exact J O H4 ⟨S4,Z,ks,h4,U⟩
 clear h4 U Z S4;clear ks H4 O;rintro O H4 ⟨S4,Z,ks,h4,U⟩;refine bM ?_;walk_at "r";refine⟨O,_,rfl,.inl<|aB.of h4,?_⟩;rw[aJ];refine C3 (by lia) (λi ys σ H'=>∃v,σ=[v,some<|.ref O]/\aD H4 H'/\ys.length=i/\∀(j:Nat) k,j<i->ks[j]?=some k->∃r,ys[j]?=some (V.ref r)/\H' r=some (.tup [.int k,.int j])) ⟨_,rfl,.refl _,rfl,λ_ _ h=>by lia⟩ (λi ys σ H' zz=>by obtain⟨_,_,_,l,_⟩:=zz;exact Rz l) ?_ ?_
 .rintro i ys σ H' hi ⟨v,rfl,s5,hl,ag⟩;have av:i<ks.length:=by lia
  walk_at "r";rw[show(0+(i:Int))=i by lia];refine dE (aB.of<|s5 _ _ h4) (rz (v:=ks[i]) (by lia)<|by rw[Int.toNat_natCast];exact bL av) ⟨cL<|by decide,λt ht=>?_⟩;refine dH.of hi ⟨_,rfl,s5.new ht,by rw[aW,hl];rfl,λj k' hj ae=>?_⟩;by_cases z:j<i
  .obtain ⟨r,a1,a2⟩:=ag j k' z ae;exact⟨r,by rw[oQ<|by lia];exact a1,bE ht _ _ _ a2⟩
  .have:j=i:=by lia
   subst this;rw[bL av] at ae;cases ae;exact⟨t,by rw[<- hl,kF<|aK _,jT];rfl,aP⟩
 rintro xs σ H5 ⟨v,rfl,s5,b5,ag⟩ xl ac;refine q xl _ ks xs (S4.trans<|s5.new ac) (S4.free<|s5.free ac) aP U ⟨by lia,λi k hk=>?_⟩;have hi:=(gX.mp hk).1;obtain⟨r,a1,a2⟩:=ag i k (by lia) hk;exact⟨r,a1,bE ac _ _ _ a2⟩
theorem O7(F:aN K "_law_parts" "_law_parts" KA f fd)(T:Bt K mg Cf Cg Ca Cd Cc Cb Ch Cj Ci Ce Ck)
  (ae:Fn P w K mg base aC "by_pile" 9 ["asker","least","part"]<|bT Ca<|aG.mk Cb mg)
 :aH P w K mg base aC 10 f fd ["_law_asker","_law_cell","_law_many"]<|gE Ca<|aG.mk Cb mg:=by
 refine F.ok V1 (by (intro _ _ _ _ h;cases h;subst_vars;rfl)) λb3 A outer s H vs Q E hr h=>?_
 have b1:=V1.nd;refine' ⟨_,(aM ?_ ?_),?_⟩;walk_at "d";obtain⟨c,cl,rfl,st,hk,q⟩:=h;walk_at "r";refine⟨cE _,λfl J=>?_⟩;obtain⟨H1,e1,s1,h1⟩:=aI J<|.lst<|([]:List OL).map V.ref;rw[show(HO.lst ([]:List V))=.lst (([]:List OL).map V.ref) from rfl,e1];clear e1;have ao:=st.off J;refine xa (λm σ X=>L2.X5 λ(k:Nat) (v5:Option V) (hls:List OL) (pcs:List<|List Nat) (pr':List A3)=>m=c.n-k/\σ=[some<|.ref c.a,some<|.int cl,some<|.int (c.n:Nat),some<|.ref fl,some<|.int (k:Nat),v5]/\k<=c.n/\X fl=some (.lst<|hls.map V.ref)/\PL X hls pcs/\(∀b∈hls,H b=none/\b≠fl)/\aE Ca (aG.mk Cb mg) X c pr'/\Tu c.n c.an pr'/\(∀p∈pcs,Nt pr' p)/\pcs.flatten.Perm (Pe 0 k)/\pcs.length<=k/\pr'.length<=400*k/\Fr c.S H X) ⟨_,0,_,[],[],[],rfl,rfl,cE _,h1,.nil,(λb hb=>by cases hb),st.mono s1,⟨by decide,λe he=>by cases he⟩,(λp hp=>by cases hp),.refl _,cE _,cE _,s1.fr⟩ ?_;rintro m σ X ⟨k,v5,hls,pcs,pr',rfl,rfl,b0,aa,ag,U,af,tu,aq,ac,az,b2,fX⟩;walk_at "r";by_cases UA:k<c.n
 .rw [Z9<|by lia];refine w8 ?_;walk_at "r";refine⟨.inl ⟨by lia,by lia⟩,by decide,_,_,rfl,.inl ⟨rfl,_,aB.of aa⟩,by decide,cL<|by decide,λpt ay=>?_⟩;have b4:0<=(cl+5*(k:Int))%19:=Pn _ (by decide);have m3:0<=cl%3:=Pn _ (by decide);obtain⟨e,ah⟩:∃e:Nat,(if (k:Int)+1+(cl+5*(k:Int))%19<(c.n:Nat) then(k:Int)+1+(cl+5*(k:Int))%19 else((c.n:Nat):Int))=(e:Int):=⟨(min ((k:Int)+1+(cl+5*(k:Int))%19) (c.n:Nat)).toNat,by split<;>lia⟩
  have ap:k<e/\e<=c.n:=by split at ah<;>lia
  rw[ah];obtain⟨ls,ai⟩:∃ls:Nat,1+cl%3=(ls:Int):=⟨(1+cl%3).toNat,by lia⟩
  rw[ai];obtain⟨X1,e1,Z,au⟩:=aI ay<|.tup [.int (k:Int),.int (e:Int)];rw[e1];clear e1;have W:=tun c tu (G9 (G:=grd) (ls:=ls) (s:=k) (e:=e) (pr:=pr') (by lia) ap.2 (by lia)<|by lia);refine⟨c,pr',ls,k,e,.ref pt,_,rfl,af.mono Z,.inl ⟨pt,rfl,au⟩,by lia,by lia,by lia,W,λl Y os pr2 fY as aw ax b5 hp=>?_⟩;obtain⟨⟨g1,g2,g3,g4⟩,av⟩:=hp;have ad:=fY _ _ (Ad.SA ao)<|Z _ _ aa;have O:X l=none:=Z.free as;have am:=af.free fX O;have aj:l≠fl:=λz=>by rw[z,aa] at O;cases O
  refine⟨fl,_,_,rfl,rfl,ad,rB<|by rw[aJ,ag.len];lia,?_⟩;refine⟨c.n-e,by lia,e,_,hls++[l],pcs++[os],pr2,rfl,rfl,ap.2,by rw[aP,bX];rfl,?_,λb hb=>?_,ax.upd ad ao,av,λp hp=>?_,?_,by rw[aW,iC];lia,by lia,λb o n h=>by rw[aO<|aX h J];exact fY _ _ n<|Z _ _<|fX _ _ n h⟩
  .refine (((ag.mono Z).WE fY λb hb=>Ad.SA<|st.off (U b hb).1).snoc aw).WE (S:=[fl]) JJ λb hb z=>?_;rcases gN.mp hb with h|h
   .exact (U b h).2 (bD.mp z)
   .exact aj (by rw[<- bD.mp h];exact bD.mp z)
  .rcases gN.mp hb with h|h
   .exact U b h
   .rw [bD.mp h];exact⟨am,aj⟩
  .rcases gN.mp hp with h|h
   .exact (aq p h).mono g3
   .rw [bD.mp h];exact g2
  .rw [vk,show[os].flatten=os by simp];refine(ac.append g1).trans ?_;have:=RE (s:=0) (m:=k) (n:=e-k) (step:=1);rw[TH,tq] at this;rw[this,show k+(e-k)=e by lia]
 .rw [Z8<|by lia];walk_at "r";have ek:k=c.n:=by lia
  subst ek;exact q fl hls X pcs pr' fX J aa ag af tu ⟨aq,ac.nodup_iff.mpr List.nodup_range',λx hx=>by have:=wL.mp<|ac.mem_iff.mp hx;lia⟩ ac (by lia)<|by lia
theorem NP(F:aN K "_law_by_parts" "_law_by_parts" Lo f fd)(T:Bt K mg Cf Cg Ca Cd Cc Cb Ch Cj Ci Ce Ck)
  (au:Fn P w K mg base aC "by_pile" 9 ["asker","least","part"]<|bT Ca<|aG.mk Cb mg)
  (ad:Fn P w K mg base aC "joined_apart" 7 ["asker","left","right","parts"]<|iM Ca<|aG.mk Cb mg)
  (b0:Fn P w K mg base aC "poured" 12 ["asker","pieces"]<|cU Ca<|aG.mk Cb mg)
  (az:Fn P w K mg base aC "joined" 6 ["asker","left","right"]<|cV Ca<|aG.mk Cb mg)
  (b9:Fn P w K mg base aC "_law_parts" 10 ["_law_asker","_law_cell","_law_many"]<|gE Ca<|aG.mk Cb mg)
  (aq:Fn P w K mg base aC "in_rounds" 14 ["asker","pieces","mouths"]<|cI Ca<|aG.mk Cb mg)
 :aH P w K mg base aC 15 f fd ["_law_asker","_law_way","_law_cell","_law_many"]<|bJ Ca<|aG.mk Cb mg:=by
 refine F.ok Vj (by (intro _ _ _ _ h;cases h;subst_vars;rfl)) λbu A outer s H vs Q E hr h=>?_
 have bp:=Vj.nd;refine' ⟨_,(aM ?_<|bN<|aM ?_<|bN<|aM ?_<|bN<|aM ?_<|bN<|aM ?_<|bN<|aM ?_<|bN<|aM ?_<|bN<|aM (zU PJ rfl ?_ ?_<|cD<|mM (i:=7) Vj.nd rfl (by (first | exact Or.inl rfl | exact Or.inr rfl))<|eY CV ?_ ?_) ?_),?_⟩;walk_at "d";obtain⟨c,wy,cl,rfl,st,hk,q⟩:=h;walk_at "r";by_cases h5:wy=5
 .rw [Z9 h5];refine⟨c,cl,rfl,st,hk,λl hls H1 pcs pr1 f1 am ah Z ae ag aw O b1 bf=>?_⟩;have aa:=O.length_eq;rw[vm] at aa;have b7:tot pcs=c.n:=by unfold tot;rw[<- E7];exact aa
  refine⟨c,pr1,l,hls,pcs,_,rfl,ae,ah,Z,by lia,by lia,by lia,tun c ag<|I0 (D:=63) b1 aw<|by lia,λpr' z=>(by obtain⟨⟨_,z,_⟩,_⟩:=z;cases z),λl2 H2 os pr2 f2 U J ac _ hp=>?_⟩;obtain⟨⟨bq,e,g1,g2,_⟩,g3⟩:=hp;cases e;exact q l2 H2 os pr2 (f1.trans f2) (ae.free f1 U) J ac ⟨g1.trans O,g2,g3⟩
 rw[Z8 h5];refine bM ?_;walk_at "r";by_cases h6:wy=6
 .rw [Z9 h6];refine⟨c,cl,rfl,st,hk,λl hls H1 pcs pr1 f1 am ah Z ae ag aw O b1 bf=>⟨⟨by decide,by decide⟩,by decide,?_⟩⟩;have aa:=O.length_eq;rw[vm] at aa;have b7:tot pcs=c.n:=by unfold tot;rw[<- E7];exact aa
  have m4:0<=cl/19%4/\cl/19%4<4:=⟨Pn _<|by decide,PD _<|by decide⟩
  obtain⟨d,hd⟩:∃d:Nat,2+cl/19%4=(d:Int):=⟨(2+cl/19%4).toNat,by lia⟩
  rw[hd];refine⟨c,pr1,l,hls,pcs,d,_,rfl,ae,ah,Z,by lia,by lia,by lia,by lia,by lia,tun c ag<|LN (d:=d) (by lia) (by lia) pcs.length pcs [] pr1 aw (by lia) (by lia) (by lia)<|by lia,λpr' z=>(by obtain⟨⟨_,z,_⟩,_⟩:=z;cases z),λt l2 nm H2 r pr2 f2 br U _ ht J _ ac _ hp=>?_⟩;obtain⟨⟨r',e,g1,g2,_⟩,g3⟩:=hp;cases e;refine ib (bG.of ht) (cO (by decide) rfl) ?_;exact q l2 H2 r.1 pr2 (f1.trans f2) (ae.free f1 U) J ac ⟨g1.trans O,g2,g3⟩
 rw[Z8 h6];refine bM ?_;walk_at "r";refine⟨⟨by decide,by decide⟩,by lia,?_⟩;have mh:0<=cl/8%(((c.n:Nat):Int)+1)/\cl/8%(((c.n:Nat):Int)+1)<((c.n:Nat):Int)+1:=⟨Pn _<|by lia,PD _<|by lia⟩
 obtain⟨h,hh⟩:∃h:Nat,cl/8%(((c.n:Nat):Int)+1)=(h:Int):=⟨(cl/8%(((c.n:Nat):Int)+1)).toNat,by lia⟩
 rw[hh] at mh⊢;refine bM ?_;walk_at "r";refine⟨cL<|by decide,λp1 bg=>?_⟩;obtain⟨H1,e1,s1,h1⟩:=aI bg<|.tup [.int ((0:Nat):Int),.int (h:Int)];rw[show upd H p1 (HO.tup [V.int 0,V.int (h:Int)])=H1 from e1];clear e1;refine⟨c,[],1,0,h,.ref p1,_,rfl,st.mono s1,.inl ⟨p1,rfl,h1⟩,cE _,by lia,by lia,tun c Fl<|G9 (G:=grd) (ls:=1) (s:=0) (e:=h) (cE _) (by lia) (by lia)<|by show 0+400*(h-0)<=_;lia,λl1 H2 ao pr1 f2 b5 ah ac bj hp=>?_⟩;obtain⟨⟨g1,g2,g3,g4⟩,ag⟩:=hp;have bc:Fr c.S H H2:=s1.fr.trans f2;have n1:=(st.mono s1).off b5;refine bM ?_;walk_at "r";refine⟨cL<|by decide,λp2 ap=>?_⟩;obtain⟨H3,e3,s3,h3⟩:=aI ap<|.tup [.int (h:Int),.int ((c.n:Nat):Int)];rw[e3];clear e3;have bt:pr1.length<=400*h:=by rw[Tj] at g4;exact cX g4<|by show 0+400*h<=_;lia
 refine⟨c,pr1,1,h,c.n,.ref p2,_,rfl,ac.mono s3,.inl ⟨p2,rfl,h3⟩,by lia,by lia,by lia,tun c ag<|G9 (G:=grd) (ls:=1) (s:=h) (e:=c.n) (by lia) (aK _) (by lia)<|by lia,λl2 H4 os2 pr2 f4 U J af bo hp=>?_⟩;obtain⟨⟨k1,k2,k3,k4⟩,b4⟩:=hp;have as:=f4 _ _ (Ad.SA n1)<|s3 _ _ ah;have F4:Fr c.S H H4:=bc.trans<|s3.fr.trans f4;have n2:=(ac.mono s3).off U;have O:(ao++os2).Perm<|Pe 0 c.n:=by
  rw[Tj] at g1;refine(g1.append k1).trans ?_;have:=RE (s:=0) (m:=h) (n:=c.n-h) (step:=1);rw[TH,tq] at this;rw[this,show h+(c.n-h)=c.n by lia]
 have tw:Tw c.n ao os2:=⟨λx hx=>by have:=wL.mp<|g1.mem_iff.mp hx;lia,λx hx=>by have:=wL.mp<|k1.mem_iff.mp hx;lia,λx hx y hy=>by have:=wL.mp<|g1.mem_iff.mp hx;have:=wL.mp<|k1.mem_iff.mp hy;lia⟩
 refine bM ?_;walk_at "r";by_cases h7:wy=7
 .rw [Z9 h7];refine⟨c,pr2,l1,l2,ao,os2,_,rfl,af,as,J,by lia,by lia,tun c b4<|LM tw (g2.mono k3) k2<|by lia,λl H5 ps ax f5 am hl bi hp=>?_⟩;obtain⟨⟨m1,m2,_⟩,ai⟩:=hp;exact q l H5 ps ax (F4.trans f5) (af.free F4 am) hl bi ⟨m1.trans O,m2,ai⟩
 rw[Z8 h7];refine bM ?_;walk_at "r";refine⟨cE _,λpp av=>?_⟩;obtain⟨H5,e5,s5,bd⟩:=aI av<|.lst<|nL [];rw[show upd H4 pp (HO.lst [])=H5 from e5];clear e5;refine bM ?_;walk_at "r";have m9:0<=cl%9/\cl%9<9:=⟨Pn _<|by decide,PD _<|by decide⟩
 obtain⟨P,hP⟩:∃P:Nat,1+cl%9=(P:Int):=⟨(1+cl%9).toNat,by lia⟩
 rw[hP];have ay:0<P:=by lia
 refine⟨by decide,c,pr2,l1,l2,ao,os2,P,_,rfl,af.mono s5,s5 _ _ as,s5 _ _ J,n1,n2,by lia,by lia,ay,by lia,tun c b4<|Bx tw (by lia) ay (by lia) (g2.mono k3) k2<|by lia,λl hls H6 out ax f6 am hl Z bn ba hp=>?_⟩;obtain⟨⟨b6,be⟩,ai⟩:=hp;obtain⟨q1,q2⟩:=By ai ay be (g2.mono<|k3.trans b6)<|k2.mono b6;have aa:=(q1.trans O).length_eq;rw[vm] at aa;have bh:=af.off av;have F6:Fr c.S H H6:=F4.trans<|s5.fr.trans f6;refine ET (aB.of hl) (λi σ X=>L2.X2 λ(v8:Option V) (pq:OL)=>σ=[some<|.ref c.a,some<|.int wy,some<|.int cl,some<|.int (c.n:Nat),some<|.int (h:Int),some<|.ref l1,some<|.ref l2,some<|.ref pq,v8]/\aD H6 X/\X pq=some (.lst<|nL (out.take i).flatten)/\H pq=none) ⟨_,pp,rfl,.refl _,f6 _ _ (Ad.SA bh) bd,af.free F4 av⟩ (λi σ X _ zz=>by obtain⟨_,_,_,e,_⟩:=zz;exact aB.of<|e _ _ hl) ?_ ?_
 .rintro i x σ X hx ⟨v8,pq,rfl,sX,aj,b2⟩;rw[dF] at hx;obtain⟨b,hb,rfl⟩:=zM.mp hx;have hi:=(gX.mp hb).1;rw[Z.len] at hi;have b3:=bL hi;have b8:=sX _ _<|Z.at' i b _ hb b3;have ht:out.take (i+1)=out.take i++[out[i]]:=by rw[Dm,b3];rfl
  have J:=congrArg Pz<|uS out<|i+1;rw[ht,aW,vk,aW,show[out[i]].flatten=out[i] by simp] at J;generalize out[i]=ys at b8 ht J;walk_at "r";refine⟨pq,b,_,_,rfl,rfl,aj,b8,cL<|by rw[iV,iV];lia,λp2 ap=>?_⟩;exact⟨_,p2,rfl,sX.new ap,by rw[aP,ht,vk,show[ys].flatten=ys by simp,BD],ba.free F6<|sX.free ap⟩
 rintro σ X ⟨v8,pq,rfl,sX,aj,b2⟩;rw[aJ,Z.len,oR<|aK _] at aj;walk_at "r";exact q pq X _ ax (F6.trans sX.fr) b2 aj (ba.mono sX) ⟨q1.trans O,q2,ai⟩
theorem Ou(F:aN K "_law_by_way" "_law_by_way" Lm f fd)(T:Bt K mg Cf Cg Ca Cd Cc Cb Ch Cj Ci Ce Ck)
  (ad:Fn P w K mg base aC "_law_by_parts" 15 ["_law_asker","_law_way","_law_cell","_law_many"]<|bJ Ca<|aG.mk Cb mg)
  (aa:Fn P w K mg base aC "by_putting" 5 ["asker"]<|ip wF Ca<|aG.mk Cb mg)
  (ac:Fn P w K mg base aC "by_walking" 5 ["asker"]<|ip EM Ca<|aG.mk Cb mg)
  (U:HH P w K mg base aC "by_pile" 9 ["asker","least","part"] (bT Ca<|aG.mk Cb mg) [.Ux])
  (O:Fn P w K mg base aC "by_pieces" 15 ["asker","wide","mouths","least"]<|bI Ca<|aG.mk Cb mg)
  (J:HH P w K mg base aC "by_pieces" 15 ["asker","wide","mouths","least"] (bI Ca<|aG.mk Cb mg) [.int 2,.int 1])
 :aH P w K mg base aC 16 f fd ["_law_asker","_law_way","_law_cell","_law_many"]<|bJ Ca<|aG.mk Cb mg:=by
 refine F.ok V6 (by (intro _ _ _ _ h;cases h;subst_vars;rfl)) λam A outer s H vs Q E hr h=>?_
 refine' ⟨_,(aM ?_<|bN<|aM ?_<|bN<|aM (oM ?_ (cD<|jJ<|yr U hr.mn rfl gK ?_) ?_)<|bN<|aM (oM ?_ (cD<|jJ<|wG O hr.mn rfl gK ?_) ?_)<|bN<|aM (oM ?_ (cD<|jJ<|yr J hr.mn rfl gK ?_) ?_)<|bN ?_),?_⟩;walk_at "d";obtain⟨c,wy,cl,rfl,st,hk,q⟩:=h;walk_at "r";by_cases h0:wy=0
 .rw [Z9 h0];refine⟨c,[],_,rfl,st,by lia,tun c Fl<|Kx (f:=0) c.n 0 [] [] (.refl _) (aK _) (by lia) (by lia) trivial<|by show 0+120*c.n<=_;lia,λol H1 os pr1 f1 ae h1 Z hp=>?_⟩;obtain⟨⟨g1,g2,_⟩,g3⟩:=hp;exact q ol H1 os pr1 f1 ae h1 Z ⟨by rw[tq,Tj] at g1;exact g1,g2,g3⟩
 rw[Z8 h0];refine bM ?_;walk_at "r";by_cases h1:wy=1
 .rw [Z9 h1];refine⟨c,[],_,rfl,st,by lia,tun c Fl<|ui c.n 0 [] [] (.refl _) (by lia) (by lia) trivial<|by show 0+120*c.n<=_;lia,λol H1 os pr1 f1 ae h1 Z hp=>?_⟩;obtain⟨⟨g1,g2⟩,g3⟩:=hp;exact q ol H1 os pr1 f1 ae h1 Z ⟨by rw[tq] at g1;exact g1,g2,g3⟩
 rw[Z8 h1];refine bM ?_;walk_at "r";by_cases h2:wy=2
 .rw [Z9 h2];refine⟨by decide,?_⟩;have ah:0<=cl%12:=Pn _ (by decide);obtain⟨ls,hls⟩:∃ls:Nat,1+cl%12=(ls:Int):=⟨(1+cl%12).toNat,by lia⟩
  rw[hls];refine⟨c,[],ls,0,c.n,.Ux,_,rfl,st,.inr ⟨rfl,rfl,rfl⟩,cE _,by lia,by lia,tun c Fl<|G9 (G:=grd) (ls:=ls) (s:=0) (e:=c.n) (cE _) (aK _) (by lia)<|by show 0+400*(c.n-0)<=_;lia,λl H1 os pr1 f1 af hl Z _ hp=>?_⟩;obtain⟨⟨g1,g2,_⟩,g3⟩:=hp;exact q l H1 os pr1 f1 af hl Z ⟨g1,g2,g3⟩
 rw[Z8 h2];refine bM ?_;walk_at "r";have aj:0<=cl%20/\cl%20<20:=⟨Pn _<|by decide,PD _<|by decide⟩
 obtain⟨wd,ag⟩:∃wd:Nat,1+cl%20=(wd:Int):=⟨(1+cl%20).toNat,by lia⟩
 have pcs:∀(d ls:Nat),2<=d->d<=9->bI Ca (aG.mk Cb mg) [.ref c.a,.int (wd:Nat),.int (d:Nat),.int (ls:Nat)] H Q E0:=λd ls h2 h9=>by
  refine⟨c,[],wd,d,ls,_,rfl,st,by lia,by lia,h2,by lia,by lia,tun c Fl<|wB (G:=grd) (ls:=ls) (wd:=wd) (d:=d) (by lia) h2 h9 (by lia)<|by decide,λpr' z=>(by obtain⟨⟨_,z,_⟩,_⟩:=z;cases z),λl H1 os pr1 f1 af hl Z hp=>?_⟩;obtain⟨⟨ai,e,g1,g2,_⟩,g3⟩:=hp;cases e;exact q l H1 os pr1 f1 af hl Z ⟨g1,g2,g3⟩
 by_cases h3:wy=3
 .rw [Z9 h3];refine⟨by decide,⟨by decide,by decide⟩,by decide,⟨by decide,by decide⟩,by decide,?_⟩;have m5:0<=cl/20%5/\cl/20%5<5:=⟨Pn _<|by decide,PD _<|by decide⟩
  have m6:0<=cl/100%6:=Pn _ (by decide);obtain⟨d,hd⟩:∃d:Nat,2+cl/20%5=(d:Int):=⟨(2+cl/20%5).toNat,by lia⟩
  obtain⟨ls,hls⟩:∃ls:Nat,1+cl/100%6=(ls:Int):=⟨(1+cl/100%6).toNat,by lia⟩
  rw[ag,hd,hls];exact pcs d ls (by lia)<|by lia
 rw[Z8 h3];refine bM ?_;walk_at "r";by_cases h4:wy=4
 .rw [Z9 h4];refine⟨by decide,?_⟩;rw[ag];exact pcs 2 1 (by decide)<|by decide
 rw[Z8 h4];refine bM ?_;walk_at "r";exact⟨c,wy,cl,rfl,st,hk,q⟩
theorem Ox(F:aN K "_law_answers" "_law_answers" IV f fd)(T:Bt K mg Cf Cg Ca Cd Cc Cb Ch Cj Ci Ce Ck)
  (J:Mt P w K mg base aC Ca "answers" 1 ["self"]<|bU Ca)
 :aH P w K mg base aC 2 f fd ["_law_asker","_law_row"]<|bK Ca<|aG.mk Cb mg:=by
 refine F.ok Va (by (intro _ _ _ _ h;cases h;subst_vars;rfl)) λao A outer s H vs Q E hr h=>?_
 have ap:=Va.nd;refine' ⟨_,(aM ?_ ?_),?_⟩;walk_at "d";obtain⟨c,pr,rwA,rfl,st,O,U,tu,q⟩:=h;walk_at "r";refine st.ha.Uw (by walk_at "l") ?_;obtain⟨ts,qr,ac,U2,Z⟩:=st.U2;rw[O,BQ] at ac;subst ac;refine⟨c.a,c.rl,c.ru,c.tl,.Ux,_,ts,rfl,st.ha,U2,λl H1 s1 am aa=>?_⟩;refine ET (aB.of aa) (λi σ X=>L2.X3 λv4 v5 v6=>σ=[some<|.ref c.a,some<|.ref rwA,some<|.ref l,v4,v5,v6]/\X=H1) ⟨_,_,_,rfl,rfl⟩ (λi σ X _ zz=>by obtain⟨_,_,_,_,e⟩:=zz;rw[e];exact aB.of aa) ?_ ?_
 .rintro i x σ X hx ⟨v4,v5,v6,rfl,rfl⟩;have hi:=(gX.mp hx).1;rw[Z.len] at hi;obtain⟨⟨p,q',b⟩,he⟩:∃e,pr[i]?=some e:=⟨_,bL hi⟩
  obtain⟨t,ad,ah⟩:=Z.get i p q' b he;rw[hx] at ad;cases ad;obtain⟨z1,z2,z3⟩:=tu.2 _<|jB he;dsimp only at z1 z2 z3;refine EU (bG.of<|s1 _ _ ah) rfl ?_;walk_at "r";rw[Z8<|by lia];obtain⟨r1,ai,aj⟩:=st.row p _<|bL z2;have ae:q'<c.ks.length:=Nat.lt_trans z1 z2;obtain⟨r3,af,ag⟩:=st.row q' _<|bL ae;refine dE (aB.of<|s1 _ _ U) (cO (by lia)<|by rw[Int.toNat_natCast];exact ai)<|ib (bG.of<|s1 _ _ aj) (cO (by decide) rfl) ?_;refine dE (aB.of<|s1 _ _ U) (cO (by lia)<|by rw[Int.toNat_natCast];exact af)<|ib (bG.of<|s1 _ _ ag) (cO (by decide) rfl) ?_;have eb:b=decide (c.ks[p]<c.ks[q']):=by
   rw[z3];show decide (kat c.ks p<kat c.ks q')=_;unfold kat;rw[bL z2,bL ae];rfl
  subst eb;refine wW ?_;walk_at "r";rw[Z8 λz=>z trivial];exact⟨_,_,_,rfl,trivial⟩
 rintro σ X ⟨v4,v5,v6,rfl,rfl⟩;walk_at "r";refine(st.mono s1).ha.get T.De T.Nn (by walk_at "l") ⟨l,_,rfl,.inl<|aB.of aa,?_⟩;walk_at "r";rw[decide_eq_true<|by rw[Z.len,O];rfl];exact q _ s1
theorem iS(F:aN K "answers" "Asker.answers" Je f fd)(T:Bt K mg Cf Cg Ca Cd Cc Cb Ch Cj Ci Ce Ck)
 :rF P w K mg base 1 f fd ["self"]<|bU Ca:=by
 refine F.Xc dR (by (intro _ _ _ _ h;cases h;subst_vars;rfl)) λJ A outer s H vs Q E O h=>?_
 obtain⟨a,rl,ru,tl,m,n,ts,rfl,ha,z,q⟩:=h;refine⟨_,(cD<|jJ<|vc Jd rfl T.UJ PH<|bO<|JU (pv 0) rfl),?_⟩;walk_at "r";refine ha.get T.De T.Nq (by walk_at "l") ⟨tl,ts,rfl,.inl<|aB.of z,λl hl=>?_⟩;exact q l _ (bE hl _) hl aP
theorem qH(F:aN K "_law_answers" "_law_answers" IV f fd)(T:Bt K mg Cf Cg Ca Cd Cc Cb Ch Cj Ci Ce Ck)(J:MG P w K mg base Ca "answers" 1 ["self"]<|bU Ca)
 :rF P w K mg base 2 f fd ["_law_asker","_law_row"]<|bK Ca<|aG.mk Cb mg:=by
 refine F.Xc Va (by (intro _ _ _ _ h;cases h;subst_vars;rfl)) λao A outer s H vs Q E hr h=>?_
 obtain⟨c,pr,rwA,rfl,st,O,U,tu,q⟩:=h;refine⟨_,(aM (mM (i:=2) Va.nd rfl (by (first | exact Or.inl rfl | exact Or.inr rfl))<|AK J hr.mn<|pv 0)<|aM (zU PJ rfl (Hc<|pv 2) (JY (n:=3) rfl<|w6 (rA (i:=3) Va.nd rfl<|by (first | exact Or.inl rfl | exact Or.inr rfl))<|w6 (rA (i:=4) Va.nd rfl<|by (first | exact Or.inl rfl | exact Or.inr rfl))<|w6 (rA (i:=5) Va.nd rfl<|by (first | exact Or.inl rfl | exact Or.inr rfl)) Hb)<|cD<|oM (PW.pt<|Ia (lR JA (pv 3) (pv 4)<|gL _)<|J0<|lR JB (pv 5) (xc Fy (pN qR (pN qR (pv 1) (pv 3) λ_ _=>rfl) rK λ_ _=>rfl) (pN qR (pN qR (pv 1) (pv 4) λ_ _=>rfl) rK λ_ _=>rfl)<|gL _)<|gL _) (cD<|jJ JC) Kw)<|cD<|jJ<|xc EK (JU (pv 0) rfl) (kD Jc rfl T.VG Ry<|bO<|pv 2)<|gL _),?_⟩;walk_at "r";refine st.ha.Uw (by walk_at "l") ?_;obtain⟨ts,qr,ac,U2,Z⟩:=st.U2;rw[O,BQ] at ac;subst ac;refine⟨c.a,c.rl,c.ru,c.tl,.Ux,_,ts,rfl,st.ha,U2,λl H1 s1 am aa=>?_⟩;refine ET (aB.of aa) (λi σ X=>L2.X3 λv4 v5 v6=>σ=[some<|.ref c.a,some<|.ref rwA,some<|.ref l,v4,v5,v6]/\X=H1) ⟨_,_,_,rfl,rfl⟩ (λi σ X _ zz=>by obtain⟨_,_,_,_,e⟩:=zz;rw[e];exact aB.of aa) ?_ ?_
 .rintro i x σ X hx ⟨v4,v5,v6,rfl,rfl⟩;have hi:=(gX.mp hx).1;rw[Z.len] at hi;obtain⟨⟨p,q',b⟩,he⟩:∃e,pr[i]?=some e:=⟨_,bL hi⟩
  obtain⟨t,ad,ah⟩:=Z.get i p q' b he;rw[hx] at ad;cases ad;obtain⟨z1,z2,z3⟩:=tu.2 _<|jB he;dsimp only at z1 z2 z3;refine EU (bG.of<|s1 _ _ ah) rfl ?_;walk_at "r";rw[Z8<|by lia];obtain⟨r1,ai,aj⟩:=st.row p _<|bL z2;have ae:q'<c.ks.length:=Nat.lt_trans z1 z2;obtain⟨r3,af,ag⟩:=st.row q' _<|bL ae;refine dE (aB.of<|s1 _ _ U) (cO (by lia)<|by rw[Int.toNat_natCast];exact ai)<|ib (bG.of<|s1 _ _ aj) (cO (by decide) rfl) ?_;refine dE (aB.of<|s1 _ _ U) (cO (by lia)<|by rw[Int.toNat_natCast];exact af)<|ib (bG.of<|s1 _ _ ag) (cO (by decide) rfl) ?_;have eb:b=decide (c.ks[p]<c.ks[q']):=by
   rw[z3];show decide (kat c.ks p<kat c.ks q')=_;unfold kat;rw[bL z2,bL ae];rfl
  subst eb;refine wW ?_;walk_at "r";rw[Z8 λz=>z trivial];exact⟨_,_,_,rfl,trivial⟩
 rintro σ X ⟨v4,v5,v6,rfl,rfl⟩;walk_at "r";refine(st.mono s1).ha.get T.De T.Nn (by walk_at "l") ⟨l,_,rfl,.inl<|aB.of aa,?_⟩;walk_at "r";rw[decide_eq_true<|by rw[Z.len,O];rfl];exact q _ s1
theorem O5(F:aN K "_law_good" "_law_good" J5 f fd)(T:Bt K mg Cf Cg Ca Cd Cc Cb Ch Cj Ci Ce Ck)
  (bi:Fn P w K mg base aC "_law_by_way" 16 ["_law_asker","_law_way","_law_cell","_law_many"]<|bJ Ca<|aG.mk Cb mg)
  (ac:Fn P w K mg base aC "_law_answers" 2 ["_law_asker","_law_row"]<|bK Ca<|aG.mk Cb mg)
  (as:Fn P w K mg base aC "_law_first" 1 ["_law_one","_law_other"]<|lB)
  (Z:Fn P w K mg base (jA P w) "by_reach" 5 ["asker","reach"]<|iH Ca (aG.mk Cb mg) Ce)
  (c9:Fn P w K mg base aC "shows" 6 ["paper","answers"]<|kK)
  (ao:Mt P w K mg base aC Ca "answers" 1 ["self"]<|bU Ca)
  (ah:Jg P w K mg base aC "Asker" Ca 1 ["self","row","rule","most"] (cJ Ca) [.Ux])
  (O:Kl P w K mg base aC "AskedRule" Cb 1 ["self","teller"]<|dA Cb)
  (af:MH P w K mg base "_law_answers" 2 ["_law_asker","_law_row"]<|bK Ca<|aG.mk Cb mg)
 :aH P w K mg base aC 17 f fd ["_law_row","_law_way","_law_cell","_law_due"]<|iK:=by
 refine F.ok Vc (by (intro _ _ _ _ h;cases h;subst_vars;rfl)) λcv A outer s H vs Q E hr h=>?_
 have cu:=Vc.nd;refine' ⟨_,(aM (mM (i:=4) Vc.nd rfl (by (first | exact Or.inl rfl | exact Or.inr rfl))<|JW ah hr.mn rfl gK<|fS ?_<|HX O hr.mn rfl gK<|bO<|JV as rfl)<|aM ?_<|aM (oM ?_ (cD<|AE (i:=6) ⟨rfl,rfl⟩ rfl rfl T.Wd Vc.nd rfl (by first|exact .inl rfl|exact .inr rfl) (.inl rfl) (λpn xe E hp=>(cD<|mM (i:=5) Vc.nd rfl (by (first | exact Or.inl rfl | exact Or.inr rfl))<|D3 Z hr.mn rfl hp<|fS (pv 4)<|eY G2 (pv 2) rK)) λe o=>(aM (Ja (i:=7) Vc.nd rfl (Or.inl rfl) rfl (k:=1) (js:=[0,6]) (N':=["_law_place","_law_row","e"]) (by rfl) (yn K<|K6 K aU (pv 6) rfl) (λ_ _ _ _=>rA (i:=0) (show(["_law_place","_law_row","e"]:List Pa).Nodup by decide+kernel) rfl<|by (first | exact Or.inl rfl | exact Or.inr rfl)) (λ_ _ _ _=>(Lh<|PW.pt<|CW (lR (AS K hr.WJ) (pN (wQ K) (pv 1) (K6 K aU (pv 2) rfl) λ_ _=>rfl) (pN (wQ K) (pv 1) (pv 0) λ_ _=>rfl)<|gL _)<|EW<|lR Fy (pv 0) (K6 K aU (pv 2) rfl)<|gL _)) λ_ _ _ _=>(pv 0))<|cD<|jJ<|G4 (xc EK (kD (hV K) rfl T.VG Ry<|bO<|pv 7) (eY CU (eY G2 (pv 2) rK) rK)<|gL _)<|Iz<|D4 af (hr.mn.h) rfl<|fS (pv 4)<|pv 0)) ?_)<|cD<|jJ<|G4 (xc (Io hr.units) ?_ ?_<|gL _)<|G4 (xc AU ?_ ?_<|gL _)<|Iz<|wG ac hr.mn rfl gK ?_),?_⟩;walk_at "d";obtain⟨rwA,dl,ks,xs,due,wy,cl,rfl,ad,ay,ci,bz,du,q⟩:=h;walk_at "r";obtain⟨prG,bw⟩:∃l:List A3,l=[]:=⟨_,rfl⟩
 intro gG av;have av:mg "_law_first"=some (.ref gG):=av;intro aa b3 ax b6 bt;have aw:upd H b3 (.own aa) aa=none:=by rw[aO<|OY bt];exact ax
 have br:aD H<|upd (upd H b3<|.own aa) aa<|.ins Cb b3 []:=(bE b6 _).trans<|bE aw _;refine⟨aa,b3,gG,rfl,aP,λH7Q bo c8=>⟨rfl,?_⟩⟩;have J:aD H H7Q:=λb o h=>bo b o (aX h ax)<|br _ _ h;intro akG ae aj b9 bp;have az:upd H7Q ae (.own akG) akG=none:=by rw[aO<|OY bp];exact aj
 have am:aD H7Q<|upd (upd H7Q ae<|.own akG) akG<|.ins Ca ae []:=(bE b9 _).trans<|bE az _;refine⟨akG,ae,rwA,aa,.Ux,xs,rfl,aP,am _ _<|J _ _ ad,λco ce HG bg c7 b8 bd c5 bc b5=>⟨rfl,?_⟩⟩;have c3:aD H7Q HG:=λb o h=>bg b o (aX h aj)<|am _ _ h;have uG:aD H HG:=J.trans c3;have b0:upd (upd H7Q ae<|.own akG) akG (.ins Ca ae []) akG=some (.ins Ca ae []):=aP;obtain⟨cp,cn,c4,_,_⟩:=c8.ex;have U:aa≠akG:=aX c4 aj;obtain⟨cG,b1⟩:∃c:Ad,c=⟨ks,xs,akG,co,aa,ce,gG,ce,prG⟩:=⟨_,rfl⟩
 have ch:aE Ca (aG.mk Cb mg) HG cG prG:=by
  subst b1;refine⟨?_,bc,tf (S:=[akG]) (λb o n h=>bg b o (λz=>n<|by rw[z];exact aU)<|am _ _ h) (λz=>U<|bD.mp z) c8,av,ay.1,λi k hk=>?_,rfl,⟨[],[],(gW _).symm,b5,rfl,λj p q b h=>by simp at h⟩,λz=>?_,U⟩
  .rw [jT];exact c5
  .obtain ⟨r,a1,a2⟩:=ay.2 i k hk;exact⟨r,a1,uG _ _ a2⟩
  .rcases bC.mp z with z|z
   .exact aX b0 c7 z.symm
   rcases bC.mp z with z|z
   .exact bd z
   .exact bd (bD.mp z)
 have ai:∀b o,H b=some o->b∉cG.S:=λb o h=>by
  subst b1;intro z;rcases bC.mp z with z|z
  .exact aX (J _ _ h) aj z
  rcases bC.mp z with z|z
  .exact aX (am _ _<|J _ _ h) b8 z
  .exact aX (am _ _<|J _ _ h) b8 (bD.mp z)
 have cf:akG=cG.a/\cG.ks=ks/\cG.pre=prG/\cG.xs=xs:=by subst b1;exact⟨rfl,rfl,rfl,rfl⟩
 obtain⟨bv,aq,ag,b7⟩:=cf;clear b1 c3 bg bo J am br c4 b0 U c5 bc b5 ax aw az b6 b9;subst bv;subst bw;have bq:cG.n=ks.length:=by show cG.ks.length=_;rw[aq]
 have ca:Du cG.ks due:=by rw[aq];exact du
 apply HW λ(l:OL) (X:Hp)=>L2.X2 λos pr'=>Fr cG.S HG X/\X l=some (.lst<|nL os)/\aE Ca (aG.mk Cb mg) X cG pr'/\Gp cG os pr'
 .intro ap;by_cases h9:wy=9
  .rw [Z9 h9];obtain⟨R,hR⟩:∃R:Nat,cl%20=(R:Int):=⟨(cl%20).toNat,by lia⟩
   rw[hR];refine⟨by decide,cG,[],R,_,rfl,ch,by lia,by lia,tun cG Fl<|tZ cG.n 0 [] [] (by simp) (by lia) (by lia) trivial<|by simp;lia,λx pr' z=>?_,λol H' os pr' fr cw bf au hp=>ap ol H' ⟨os,pr',fr,bf,au,hp.1.1,hp.1.2,hp.2⟩,λd l2 H' pl os so pr' fr au hp hd c0 be=>⟨T.UY,λea o cq ba cg c6=>?_⟩⟩
   .exact (BB z.2 z.1.nt).imp fun {a b} h (e:a=b)=>by subst e;exact CQ h h
   walk_at "r";have kH:∀b o,H b=some o->H' b=some o:=λb o h=>fr _ _ (ai b o h)<|uG _ _ h;have b2:cP H' ks xs:=ay.mono λb o h _ _=>kH _ _ h;obtain⟨fa,tu⟩:=hp;have fa:Fa cG.n pr' R pl os:=fa;have cj:cG.ks=ks:=aq;have W9:∀y∈so,y<pl/\kat ks pl<kat ks y:=λy hy=>by
    have hy:=be.mem_iff.mp hy;have cm:=fa.lt y hy;refine⟨cm,?_⟩;have pw:=BB tu fa.nt;have W8:=fa.hd;have:lxf (kat cG.ks) pl y:=by
     cases os with
     |nil=>cases hy
     |cons z zs=>
      have t:=FE tu<|W8 z zs rfl;rcases bC.mp hy with e|e
      .rw [e];exact t
      .exact CS (bb:=false) t ((BR.mp pw).1 y e)
    rw[cj] at this;unfold lxf at this;lia
   have cr:so.length=R+1:=by rw[be.length_eq];exact fa.len
   have bn:pl<ks.length:=by rw[<- bq];exact fa.hp
   clear be ca;refine⟨Ce,d,_,_,⟨ba,cg,c6⟩,hd,T.U7,T.UQ.hd,T.Nx,by walk_at "l",?_⟩;refine zY (aB.of c0) (by rw[iV];lia) (λi ys σ X=>∃v,σ=[v,some<|.ref rwA,some<|.ref ea]/\X=H'/\ys=nL (so.take i)) ⟨_,rfl,rfl,rfl⟩ (λi ys σ X _ zz=>by obtain⟨_,_,e,e2⟩:=zz;rw[e,e2];exact⟨aB.of c0,by rw[iV,gV];lia⟩) ?_ ?_
   .rintro i ys x σ X hi hx ⟨v,rfl,rfl,rfl⟩;unfold nL at hx;rw[dF] at hx;obtain⟨y,hy,rfl⟩:=zM.mp hx;obtain⟨f1,f2⟩:=W9 y<|jB hy;have cc:y<ks.length:=by lia
    have cb:∀{R:V->Prop},R (.int pl)->L2.X4 λC d' fs v=>(o.cls=.ref C/\o.dict=some d'/\∃vs,o.data=.fields vs)/\X d'=some (pQ d' fs)/\wK K C/\Py K C=true/\W.findIn K (.ref C) "place"=some none/\fs.lookup (QB "place")=some v/\R v:=fun {R} h=>⟨Ce,d,_,_,⟨ba,cg,c6⟩,hd,T.U7,T.UQ.hd,T.N0,by walk_at "l",h⟩
    walk_at "r";refine cb ?_;refine dE (aB.of<|kH _ _ ad) (cO (by lia)<|by rw[Int.toNat_natCast];exact(zT b2 bn).1)<|dE (aB.of<|kH _ _ ad) (cO (by lia)<|by rw[Int.toNat_natCast];exact(zT b2 cc).1) ?_;refine⟨adr xs pl,adr xs y,[kat ks pl,(pl:Int)],[kat ks y,(y:Int)],rfl,rfl,bG.of (zT b2 bn).2,bG.of (zT b2 cc).2,?_⟩;rw[show HT.lexLt [kat ks pl,(pl:Int)] [kat ks y,(y:Int)]=true by rw[HT.lexLt_cons,Z8<|by lia];exact decide_eq_true f2];refine kn ?_;rw[Z9 rfl];refine cb<|wW<|kn ?_;rw[Z9<|decide_eq_true<|by lia];refine dH.of hi ⟨_,rfl,rfl,?_⟩;rw[Dm,hy,BD];rfl
   rintro ys σ X ⟨v,rfl,rfl,rfl⟩ p bh;walk_at "r";refine⟨p,_,rfl,.inl<|aB.of aP,by decide,?_⟩;rw[Z9<|by rw[iV,iV,gV];lia];exact⟨cG,pr',rwA,rfl,au.mono<|bE bh _,ag,bE bh _ _ _ (by rw[b7];exact kH _ _ ad),tu,λX3 s3=>q _ λb o h=>s3 _ _<|bE bh _ _ _<|kH b o h⟩
  .rw [Z8 h9];exact⟨rwA,xs,rfl,.inl<|aB.of<|uG _ _ ad,cG,wy,cl,by rw[bq,<- ay.1],ch,by lia,λl X os pr' fr _ hl au gp=>ap l X ⟨os,pr',fr,hl,au,gp⟩⟩
 rintro l X ⟨os,pr',fX,bx,b4,gp⟩;have kX:∀b o,H b=some o->X b=some o:=λb o h=>fX _ _ (ai b o h)<|uG _ _ h;have ck:=gp.eq ca;subst ck;refine Ec bx (kX _ _ bz)<|kn ?_;rw[Z9 rfl];refine b4.ha.Uw (by walk_at "l") ?_;obtain⟨ts,qr,bj,U2,bu⟩:=b4.U2;rw[ag,BQ] at bj;subst bj;refine⟨cG.a,cG.rl,cG.ru,cG.tl,.Ux,_,ts,rfl,b4.ha,U2,λw X1 s1 ct hw=>?_⟩;have bf:os.length=cG.n:=by rw[gp.pm.length_eq,vm]
 refine⟨l,w,os,pr',ts,rfl,?_,?_,by lia,hw,⟨bu.len,λj p q b h=>?_⟩,λc hc=>?_,gp.tu.1,λX2 s2=>⟨_,_,rfl,rfl,?_⟩⟩
 .rw [s1 _ _ bx,xb]
 .unfold Pap.IsP;rw[bf,Rf];exact gp.pm
 .obtain ⟨t,h1,h2⟩:=bu.get j p q b h;exact⟨t,h1,s1 _ _ h2⟩
 .have:=gp.tu.2 c hc;lia
 rw[GJ gp,Z9<|show(true==true)=true from rfl];exact⟨cG,pr',rwA,rfl,b4.mono<|s1.trans s2,ag,(s1.trans s2) _ _ (by rw[b7];exact kX _ _ ad),gp.tu,λX3 s3=>q _ λb o h=>s3 _ _<|(s1.trans s2) _ _<|kX b o h⟩
theorem NY(F:aN K "law" "law" BA f fd)(T:Bt K mg Cf Cg Ca Cd Cc Cb Ch Cj Ci Ce Ck)
  (d6:Fn P w K mg base aC "_law_row_by" 3 ["_law_script"]<|kL K)
  (d2:Fn P w K mg base aC "_law_cell_at" 1 ["_law_script","_law_k"]<|jE K)
  (ad:Fn P w K mg base aC "so_manieth" 12 ["asker","many"]<|gD Ca<|aG.mk Cb mg)
  (b6:Fn P w K mg base aC "poured" 12 ["asker","pieces"]<|cU Ca<|aG.mk Cb mg)
  (ee:Fn P w K mg base aC "_law_good" 17 ["_law_row","_law_way","_law_cell","_law_due"]<|iK)
  (am:Fn P w K mg base aC "_law_first" 1 ["_law_one","_law_other"]<|lB)
  (aa:Jg P w K mg base aC "Asker" Ca 1 ["self","row","rule","most"] (cJ Ca) [.Ux])
  (U:Kl P w K mg base aC "AskedRule" Cb 1 ["self","teller"]<|dA Cb)
 :aH P w K mg base aC 18 f fd ["_law_script"]<|qb K:=by
 refine F.ok Vd (by (intro _ _ _ _ h;cases h;subst_vars;rfl)) λfj A outer s H vs Q E hr h=>?_
 have fe:=Vd.nd;refine' ⟨_,(aM ?_<|bN<|aM (FL (i:=2) Vd.nd rfl (Or.inl rfl) (js:=[]) (N:=[]) rfl (Hc<|kD iU rfl T.UP Qg ?_) λ_ _ _ _=>(pN (wQ K) (pv 0) rK λ_ _=>rfl))<|bN<|aM ?_<|bN<|aM ?_<|bN<|aM ?_<|bN<|aM (FL (i:=6) Vd.nd rfl (Or.inl rfl) (js:=[]) (N:=[]) rfl ?_ λ_ _ _ _=>(G5 Iy))<|bN<|aM (zU PJ rfl (Hc<|kD iU rfl T.UP Qg ?_) ?_ ?_)<|bN<|aM (oM (lR (JR hr.units) (wG b6 hr.mn rfl gK<|fS (JW aa hr.mn rfl gK<|fS ?_<|HX U hr.mn rfl gK<|bO<|JV am rfl) ?_) ?_<|gL _) ?_ ?_)<|bN<|aM (oM (lR (Io hr.units) ?_ ?_<|gL _) ?_ ?_)<|bN<|aM ?_<|bN<|aM (mM (i:=8) Vd.nd rfl (by (first | exact Or.inl rfl | exact Or.inr rfl))<|wG ad hr.mn rfl gK<|fS (JW aa hr.mn rfl gK<|fS ?_<|HX U hr.mn rfl gK<|bO<|JV am rfl) ?_)<|cD<|jJ<|xc (Io hr.units) ?_ ?_<|gL _),?_⟩;walk_at "d";obtain⟨a,ns,rfl,hS,de,q⟩:=h;walk_at "r";refine⟨a,ns,rfl,hS,de,λrwA H1 ks xs S1 fg be d4 ac=>?_⟩;refine bM ?_;walk_at "r";have bv:∀{X:Hp},aD H1 X->aB K X rwA ((um ks xs).map λz=>V.ref z.1)/\∀z∈um ks xs,bG K X z.1 [.int z.2.1,.int z.2.2]:=fun {X} s=>⟨by rw[<- ym ac];exact aB.of<|s _ _ be,λz hz=>by
  obtain⟨i,hi,rfl⟩:=FK hz;exact bG.of<|s _ _ (zT ac hi).2⟩
 refine⟨rwA,um ks xs,rfl,(bv<|.refl _).1,(bv<|.refl _).2,by rw[FJ];lia,λl ms hl hp hs=>?_⟩;have du:=JH hp hs;obtain⟨H2,e2,s2,h2⟩:=aI hl<|.lst<|ms.map λz=>V.ref z.1;rw[e2];clear e2;have fq:ms.length=ks.length:=by rw[hp.length_eq,FJ]
 have tk:∀i,lM (ms.take<|i+1)=lM (ms.take i)++((ms[i]?).toList.map λz=>z.2.2.toNat):=λi=>by
  unfold lM;rw[Dm,bX]
 refine zY (aB.of h2) (by rw[aJ];lia) (λi ys σ X=>∃v,σ=[v]/\X=H2/\ys=nL (lM<|ms.take i)) ⟨_,rfl,rfl,rfl⟩ (λi ys σ X _ zz=>by obtain⟨_,_,e,e3⟩:=zz;exact⟨by rw[e];exact aB.of h2,by rw[e3,iV];unfold lM;rw[aJ,gV];lia⟩) ?_ ?_
 .rintro i ys x σ X hi hx ⟨v,rfl,rfl,rfl⟩;rw[dF] at hx;obtain⟨z,hz,rfl⟩:=zM.mp hx;obtain⟨k,hk,rfl⟩:=FK<|hp.mem_iff.mp<|jB hz;walk_at "r";refine ib (bG.of<|s2 _ _ (zT ac hk).2) (cO (by decide) rfl) ?_;refine dH.of hi ⟨_,rfl,rfl,?_⟩;rw[tk,hz,BD];rfl
 rintro ys σ X ⟨v,rfl,rfl,rfl⟩ dl cq;rw[aJ,oR<|aK _];generalize lM ms=due at du;obtain⟨H3,e3,s3,h3⟩:=aI cq<|.lst<|nL due;rw[e3];clear e3;have S3:aD H1 H3:=s2.trans s3;refine bM ?_;walk_at "r";refine⟨a,ns,4,rfl,(S1.trans S3).seq hS,by decide,?_⟩;generalize cellOf ns 4=cl;refine bM ?_;walk_at "r";have ev:∀{X:Hp},aD H1 X->cP X ks xs:=fun {X} s=>ac.mono λb o h _ _=>s _ _ h;refine⟨by decide,⟨by decide,by decide⟩,by decide,by decide,λwl cp=>?_⟩;obtain⟨H4,e4,s4,h4⟩:=aI cp<|.lst [.int<|cl%10,.int<|cl/10%10];rw[e4];clear e4;have S4:=S3.trans s4;refine ET (aB.of h4) (λi σ X=>∃v4:Option V,σ=[some<|.ref a,some<|.ref rwA,some<|.ref dl,some<|.int cl,v4,none,none,none,none]/\aD H4 X) ⟨_,rfl,.refl _⟩ (λi σ X _ zz=>by obtain⟨_,_,e⟩:=zz;exact aB.of<|e _ _ h4) ?_ ?_
 .rintro i x σ X hx ⟨v4,rfl,sX⟩;obtain⟨wy,rfl⟩:∃wy:Int,x=.int wy:=by
   rcases bC.mp (jB hx) with e|e
   .exact ⟨_,e⟩
   .exact ⟨_,bD.mp e⟩
  walk_at "r";refine⟨⟨by decide,by decide⟩,rwA,dl,ks,xs,due,wy,cl/100,rfl,sX _ _<|S4 _ _ be,ev<|S4.trans sX,d4,sX _ _<|s4 _ _ h3,du,λX' ef=>kn ?_⟩;rw[Z8<|by decide];exact⟨_,rfl,sX.trans ef⟩
 rintro σ H5 ⟨v4,rfl,s5⟩;have S5:=S4.trans s5;walk_at "r";refine bM ?_;walk_at "r";refine⟨⟨by decide,by decide⟩,by decide,?_⟩;have m7:0<=cl/100%7/\cl/100%7<7:=⟨Pn _<|by decide,PD _<|by decide⟩
 obtain⟨m,hm⟩:∃m:Nat,1+cl/100%7=(m:Int):=⟨(1+cl/100%7).toNat,by lia⟩
 rw[hm];refine bM ?_;walk_at "r";refine C3 (by lia) (λi ys σ X=>L2.X2 λv ls=>σ=[v]/\aD H5 X/\ys=ls.map V.ref/\ls.length=i/\ls.Nodup/\∀b∈ls,H5 b=none/\X b=some (.lst<|nL [])) ⟨_,[],rfl,.refl _,rfl,rfl,.nil,λb h=>by cases h⟩ (λi ys σ X zz=>by obtain⟨_,ls,_,_,e,e2,_⟩:=zz;rw[e,aJ,e2];exact aK _) ?_ ?_
 .rintro i ys σ X hi ⟨v,ls,rfl,sX,rfl,ca,d3,hls⟩;walk_at "r";refine⟨cE _,λp hp=>?_⟩;refine dH.of hi ⟨_,ls++[p],rfl,sX.new hp,by rw[bX];rfl,by rw[aW,ca];rfl,?_,λb hb=>?_⟩
  .refine List.nodup_append.mpr ⟨d3,List.pairwise_singleton _ _,λx hx y hy=>?_⟩;rw[bD.mp hy];exact aX (hls x hx).2 hp
  .rcases gN.mp hb with h|h
   .exact ⟨(hls b h).1,bE hp _ _ _ (hls b h).2⟩
   .rw [bD.mp h];exact⟨sX.free hp,aP⟩
 rintro ys σ H6 ⟨v,hls,rfl,s6,rfl,ca,d3,as⟩ pl af;rw[Int.toNat_natCast] at ca;obtain⟨H7,e7,s7,h7⟩:=aI af<|.lst<|hls.map V.ref;rw[e7];clear e7;have S7:=S5.trans<|s6.trans s7;have cu:PL H7 hls<|sD ks m []:=⟨by unfold sD;rw[aJ,eU];exact ca,λj b ys h1 h2=>by
  have hj:=(gX.mp h1).1;unfold sD at h2;rw[dF,xh<|by lia] at h2;cases h2;exact s7 _ _ (as b<|jB h1).2⟩
 refine bM ?_;walk_at "r";refine⟨rwA,um ks xs,rfl,(bv S7).1,(bv S7).2,by rw[FJ];lia,λl2 db c6 aw dk=>?_⟩;have ed:lM db=due:=JZ ((JH aw dk).pm.trans du.pm.symm) (JH aw dk).pw du.pw;obtain⟨H8,e8,s8,h8⟩:=aI c6<|.lst<|db.map λz=>V.ref z.1;rw[e8];clear e8;have S8:=S7.trans s8;have off:∀b o,H5 b=some o->b∉hls:=λb o h z=>by rw[(as b z).1] at h;cases h
 have e5:pl∉hls:=λz=>by rw[(as pl z).2] at af;cases af
 have et:l2∉hls:=λz=>by rw[s7 _ _ (as l2 z).2] at c6;cases c6
 refine ET (aB.of h8) (λi σ X=>∃v7:Option V,σ=[some<|.ref a,some<|.ref rwA,some<|.ref dl,some<|.int cl,v4,some<|.int (m:Int),some<|.ref pl,v7,none]/\Fr hls H8 X/\PL X hls (sD ks m<|due.take i)) ⟨_,rfl,.refl,by rw[List.take_zero];exact cu.mono s8⟩ (λi σ X _ zz=>by obtain⟨_,_,e,_⟩:=zz;exact aB.of<|e _ _ et h8) ?_ ?_
 .rintro i x σ X hx ⟨v7,rfl,fX,bz⟩;rw[dF] at hx;obtain⟨z,hz,rfl⟩:=zM.mp hx;obtain⟨k,hk,rfl⟩:=FK<|aw.mem_iff.mp<|jB hz;have en:due[i]?=some k:=by rw[<- ed];unfold lM;rw[dF,hz];rfl
  have ht:due.take (i+1)=due.take i++[k]:=by rw[Dm,en];rfl
  have tz:=fX _ _ (off _ _<|S5 _ _ (zT ac hk).2)<|(s6.trans<|s7.trans s8) _ _<|S5 _ _ (zT ac hk).2;have hg:=CC (ks:=ks) (x:=k) (show 0<m by lia);have eg:(kat ks k+(k:Int)*(k:Int))%(m:Int)=((gP ks m k:Nat):Int):=by
   unfold gP;rw[Rt<|Pn _<|by lia]
  obtain⟨b,hb⟩:∃b,hls[gP ks m k]?=some b:=⟨_,bL<|by lia⟩
  have df:=bz.at' (gP ks m k) b ((due.take i).filter λy=>decide<|gP ks m y=gP ks m k) hb (by unfold sD;rw[dF,xh hg];rfl);walk_at "r";refine ib (bG.of tz) (cO (by decide) rfl)<|ib (bG.of tz) (cO (by decide) rfl)<|ib (bG.of tz) (cO (by decide) rfl) ?_;refine⟨.inl ⟨by lia,by lia⟩,wW ⟨by lia,?_⟩⟩;dsimp only;rw[eg];refine dE (aB.of<|fX _ _ e5<|s8 _ _ h7) (cO (v:=.ref b) (by lia)<|by rw[Int.toNat_natCast,dF,hb];rfl) ?_;refine⟨.inl ⟨rfl,_,aB.of df⟩,ib (bG.of tz) (cO (by decide) rfl) ?_⟩;have d5:((due.take i).filter λy=>decide<|gP ks m y=gP ks m k).length<=63:=cX (Q7 _ _) (by rw[gV,du.pm.length_eq,eU];lia);refine⟨b,_,_,rfl,rfl,df,rB<|by rw[iV];lia,_,rfl,λc o n h=>?_,?_⟩
  .rw [aO λz=>n<|by rw[z];exact jB hb];exact fX _ _ n h
  .rw [ht,zl hg];refine⟨by rw[Ae];exact bz.len,λt c ys h1 h2=>?_⟩;rw[List.getElem?_set] at h2;by_cases e:gP ks m k=t
   .subst e;rw[hb] at h1;cases h1;rw[Z9 rfl,Z9<|by rw[<- bz.len];lia] at h2;cases h2;rw[aP,BD];rfl
   .rw [Z8 e] at h2;have nb:c≠b:=λz=>by
     subst z;have g1:=(gX.mp h1)
     have g2:=(gX.mp hb)
     obtain⟨x1,y1⟩:=g1;obtain⟨x2,y2⟩:=g2;exact e<|(List.getElem_inj d3).mp<|y2.trans y1.symm
    rw[aO nb];exact bz.at' t c ys h1 h2
 rintro σ H9 ⟨v7,rfl,f9,d1⟩;rw[aJ,aw.length_eq,FJ,oR<|by rw[du.pm.length_eq,eU];exact aK _] at d1;walk_at "r";have k9:∀b o,H5 b=some o->H9 b=some o:=λb o h=>f9 _ _ (off _ _ h)<|(s6.trans<|s7.trans s8) _ _ h;have K9:∀b o,H1 b=some o->H9 b=some o:=λb o h=>k9 b o<|S5 _ _ h;have cr:=f9 _ _ e5<|s8 _ _ h7;have cj:=k9 _ _<|s5 _ _<|s4 _ _ h3;have bt:=K9 _ _ be;have b4:cP H9 ks xs:=ac.mono λb o h _ _=>K9 _ _ h;clear cu h8 h7 h4 h2 as hl c6 cp cq af;refine bM ?_;walk_at "r";obtain⟨prA0,ag⟩:∃l,l=qv ks:=⟨_,rfl⟩
 intro gA az;have az:mg "_law_first"=some (.ref gA):=az;intro av aj bg au bn;have bj:upd H9 aj (.own av) av=none:=by rw[aO<|OY bn];exact bg
 have bi:aD H9<|upd (upd H9 aj<|.own av) av<|.ins Cb aj []:=(bE au _).trans<|bE bj _;refine⟨av,aj,gA,rfl,aP,λH7Q bf bp=>⟨rfl,?_⟩⟩;have J:aD H9 H7Q:=λb o h=>bf b o (aX h bg)<|bi _ _ h;intro ak O c9 ap bh;have cc:upd H7Q O (.own ak) ak=none:=by rw[aO<|OY bh];exact c9
 have Z:aD H7Q<|upd (upd H7Q O<|.own ak) ak<|.ins Ca O []:=(bE ap _).trans<|bE cc _;refine⟨ak,O,rwA,av,.Ux,xs,rfl,aP,Z _ _<|J _ _ bt,λf2 e9 HA ax dt cm aq bc ci cg=>⟨rfl,?_⟩⟩;have b7:aD H7Q HA:=λb o h=>ax b o (aX h c9)<|Z _ _ h;have uA:aD H9 HA:=J.trans b7;have ce:upd (upd H7Q O<|.own ak) ak (.ins Ca O []) ak=some (.ins Ca O []):=aP;obtain⟨dm,cy,bo,_,_⟩:=bp.ex;have ah:av≠ak:=aX bo c9;obtain⟨cA,cb⟩:∃c:Ad,c=⟨ks,xs,ak,f2,av,e9,gA,e9,prA0⟩:=⟨_,rfl⟩
 have dp:aE Ca (aG.mk Cb mg) HA cA prA0:=by
  subst cb;refine⟨?_,ci,tf (S:=[ak]) (λb o n h=>ax b o (λz=>n<|by rw[z];exact aU)<|Z _ _ h) (λz=>ah<|bD.mp z) bp,az,b4.1,λi k hk=>?_,rfl,⟨[],[],(gW _).symm,cg,rfl,λj p q b h=>by simp at h⟩,λz=>?_,ah⟩
  .rw [jT];exact bc
  .obtain ⟨r,a1,a2⟩:=b4.2 i k hk;exact⟨r,a1,uA _ _ a2⟩
  .rcases bC.mp z with z|z
   .exact aX ce dt z.symm
   rcases bC.mp z with z|z
   .exact aq z
   .exact aq (bD.mp z)
 have ay:∀b o,H9 b=some o->b∉cA.S:=λb o h=>by
  subst cb;intro z;rcases bC.mp z with z|z
  .exact aX (J _ _ h) c9 z
  rcases bC.mp z with z|z
  .exact aX (Z _ _<|J _ _ h) cm z
  .exact aX (Z _ _<|J _ _ h) cm (bD.mp z)
 have bd:ak=cA.a/\cA.ks=ks/\cA.pre=prA0/\cA.xs=xs:=by subst cb;exact⟨rfl,rfl,rfl,rfl⟩
 obtain⟨dz,b3,cx,di⟩:=bd;clear cb b7 ax bf J Z bi bo ce ah bc ci cg bg bj cc au ap;subst dz;have dc:=rg (ks:=ks) (show 0<m by lia) due;have d5:=dc.length_eq;rw[du.pm.length_eq,eU] at d5;have f8:tot (sD ks m due)=ks.length:=by unfold tot;rw[<- E7];exact d5
 have fn:(sD ks m due).length=m:=by unfold sD;rw[aJ,eU]
 have b5:cA.n=ks.length:=by show cA.ks.length=_;rw[b3]
 have af:=qu d4;have dy:Tu cA.n cA.an prA0:=by
  rw[ag];show Tu cA.ks.length (sS (kat cA.ks) false) _;rw[b3];exact AG d4
 have ec:Du cA.ks due:=by rw[b3];exact du
 refine⟨cA,prA0,pl,hls,sD ks m due,_,rfl,dp,uA _ _ cr,d1.mono uA,by lia,by lia,by lia,tun cA dy<|I0 (D:=63) (by lia) (by rw[b5,ag];exact EC du<|by lia)<|by rw[ag];lia,λpr' z=>(by obtain⟨⟨_,z,_⟩,_⟩:=z;cases z),λlo HB os fi fB dr d0 ei _ hp=>?_⟩;obtain⟨⟨fk,e,g1,g2,_⟩,g3⟩:=hp;cases e;have br:os=due:=Gp.eq ⟨g1.trans (dc.trans<|by rw[b5,<- Rf];exact du.pm),g2,g3⟩ ec;rw[br] at d0;clear br;have kB:∀b o,H9 b=some o->HB b=some o:=λb o h=>fB _ _ (ay b o h)<|uA _ _ h;have cn:=kB _ _ cj;have e6:=kB _ _ bt;have ea:cP HB ks xs:=b4.mono λb o h _ _=>kB _ _ h;refine Eb d0 cn<|kn ?_;rw[Z8<|by decide];clear ei d0 dr dp dy ec ay uA b5 af b3 cx di ag az d1 cr f9 k9 K9 b4 bt cj;refine bM ?_;walk_at "r";refine⟨cE _,λel eo=>?_⟩;obtain⟨HC,eC,sC,hC⟩:=aI eo<|.lst<|([]:List mO).map λz=>V.ref z.1;rw[show upd HB el (HO.lst [])=HC from eC];clear eC;have b2:=sC _ _ e6;have cv:=sC _ _ cn;have ae:cP HC ks xs:=ea.mono λb o h _ _=>sC _ _ h;have cw:∀z∈um ks xs,bG K HC z.1 [.int z.2.1,.int z.2.2]:=λz hz=>by
  obtain⟨i,hi,rfl⟩:=FK hz;exact bG.of (zT ae hi).2
 refine Ig (Enc.list<|Enc.two Enc.int Enc.int) (by decide) (a:=(um ks xs).map (·.2)) (b:=[]) (Kf (aB.of<|by rw[<- ym ae];exact b2)<|zk _ cw) (Kf (aB.of hC) .nil)<|kn ?_;by_cases XH:ks.length=0
 .rw [decide_eq_true (Ac.mp<|by rw[aJ,FJ];exact XH),Z9 rfl];exact q HC
 rw[decide_eq_false λz=>XH (by have:=congrArg Pz z;rw[aJ,FJ] at this;exact this),Z8<|by decide];refine bM ?_;walk_at "r";refine⟨⟨by decide,by decide⟩,rwA,_,rfl,.inl<|aB.of b2,?_⟩;rw[ae.1];walk_at "r";have mm:0<=cl/700%(ks.length:Int)/\cl/700%(ks.length:Int)<(ks.length:Int):=⟨Pn _<|by lia,PD _<|by lia⟩
 obtain⟨m2,f5⟩:∃m2:Nat,cl/700%(ks.length:Int)=(m2:Int):=⟨(cl/700%(ks.length:Int)).toNat,by lia⟩
 rw[f5] at mm⊢;refine⟨by lia,?_⟩;have f7:due.length=ks.length:=by rw[du.pm.length_eq,eU]
 have ff:m2<due.length:=by lia
 clear cw hC;refine bM ?_;walk_at "r";obtain⟨prB0,ag⟩:∃l:List A3,l=[]:=⟨_,rfl⟩
 intro gB b1;have b1:mg "_law_first"=some (.ref gB):=b1;intro ao aj b9 au bn;have bq:upd HC aj (.own ao) ao=none:=by rw[aO<|OY bn];exact b9
 have bi:aD HC<|upd (upd HC aj<|.own ao) ao<|.ins Cb aj []:=(bE au _).trans<|bE bq _;refine⟨ao,aj,gB,rfl,aP,λH7Q bf bp=>⟨rfl,?_⟩⟩;have J:aD HC H7Q:=λb o h=>bf b o (aX h b9)<|bi _ _ h;intro bk O c5 ap bh;have ct:upd H7Q O (.own bk) bk=none:=by rw[aO<|OY bh];exact c5
 have Z:aD H7Q<|upd (upd H7Q O<|.own bk) bk<|.ins Ca O []:=(bE ap _).trans<|bE ct _;refine⟨bk,O,rwA,ao,.Ux,xs,rfl,aP,Z _ _<|J _ _ b2,λeh dg HD ax dj ck aq bc co cf=>⟨rfl,?_⟩⟩;have b7:aD H7Q HD:=λb o h=>ax b o (aX h c5)<|Z _ _ h;have uB:aD HC HD:=J.trans b7;have ch:upd (upd H7Q O<|.own bk) bk (.ins Ca O []) bk=some (.ins Ca O []):=aP;obtain⟨dm,cy,bo,_,_⟩:=bp.ex;have ai:ao≠bk:=aX bo c5;obtain⟨cB,c3⟩:∃c:Ad,c=⟨ks,xs,bk,eh,ao,dg,gB,dg,prB0⟩:=⟨_,rfl⟩
 have eb:aE Ca (aG.mk Cb mg) HD cB prB0:=by
  subst c3;refine⟨?_,co,tf (S:=[bk]) (λb o n h=>ax b o (λz=>n<|by rw[z];exact aU)<|Z _ _ h) (λz=>ai<|bD.mp z) bp,b1,ae.1,λi k hk=>?_,rfl,⟨[],[],(gW _).symm,cf,rfl,λj p q b h=>by simp at h⟩,λz=>?_,ai⟩
  .rw [jT];exact bc
  .obtain ⟨r,a1,a2⟩:=ae.2 i k hk;exact⟨r,a1,uB _ _ a2⟩
  .rcases bC.mp z with z|z
   .exact aX ch dj z.symm
   rcases bC.mp z with z|z
   .exact aq z
   .exact aq (bD.mp z)
 have b0:∀b o,HC b=some o->b∉cB.S:=λb o h=>by
  subst c3;intro z;rcases bC.mp z with z|z
  .exact aX (J _ _ h) c5 z
  rcases bC.mp z with z|z
  .exact aX (Z _ _<|J _ _ h) ck z
  .exact aX (Z _ _<|J _ _ h) ck (bD.mp z)
 have bd:bk=cB.a/\cB.ks=ks/\cB.pre=prB0/\cB.xs=xs:=by subst c3;exact⟨rfl,rfl,rfl,rfl⟩
 obtain⟨d9,ba,cz,dw⟩:=bd;clear c3 b7 ax bf J Z bi bo ch ai bc co cf b9 bq ct au ap;subst d9;subst ag;have b5:cB.n=ks.length:=by show cB.ks.length=_;rw[ba]
 refine⟨cB,m2,rfl,eb,by lia,by lia,λt la lb p A B os HE fE fm fb fc ht ew f3 hA hB da e0 dh aw d8=>?_⟩;have dq:os.Pairwise<|gQ (kat ks) false:=by rw[<- ba];exact e0
 have br:os=due:=JZ (da.trans<|by rw[b5];exact du.pm.symm) dq du.pw;rw[br] at dh aw d8;clear br;have kE:∀b o,HC b=some o->HE b=some o:=λb o h=>fE _ _ (b0 b o h)<|uB _ _ h;have b8:=kE _ _ cv;have nd:due.Nodup:=du.pm.nodup_iff.mpr Dj;clear kE fE eb b0 uB b5 ba cz dw b1 ae b2 cv;refine va (aB.of b8) λs1 em=>?_;rw[wj<|by lia];obtain⟨HF,eF,sF,hF⟩:=aI em<|.lst<|nL<|due.take m2;rw[eF];clear eF;refine⟨s1,(due.take m2).map λ(y:Nat)=>(y:Int),rfl,aB.of (by rw[hF,xb]),by rw[aJ,gV];lia,λl1 fh f4 c4 bx=>?_⟩;obtain⟨bu,rfl,er,ez⟩:=IQ c4 bx<|nd.sublist<|Fi _ _;rw[<- xb];obtain⟨HG,eG,sG,hG⟩:=aI f4<|.lst<|nL bu;rw[eG];clear eG;have SG:=sF.trans sG;refine dE (aB.of<|SG _ _ b8) (rH aw) ?_;rw[show(m2:Int)+1=((m2+1:Nat):Int) by lia];refine va (aB.of<|SG _ _ b8) λep eu=>?_;rw[Kj<|by rw[iV];lia,Kq];obtain⟨HI,eI,sI,hI⟩:=aI eu<|.lst<|nL<|due.drop<|m2+1;rw[eI];clear eI;refine⟨ep,(due.drop<|m2+1).map λ(y:Nat)=>(y:Int),rfl,aB.of (by rw[hI,xb]),by rw[aJ,dW];lia,λey fa d7 c7 c8=>?_⟩;obtain⟨bw,rfl,ek,f6⟩:=IQ c7 c8<|nd.sublist<|Tf _ _;rw[<- xb];obtain⟨HJ,eJ,sJ,hJ⟩:=aI d7<|.lst<|nL bw;rw[eJ];clear eJ;have e1:bu=A:=u7 (er.trans dh.symm) ez hA;have e2:bw=B:=u7 (ek.trans d8.symm) f6 hB;subst e1;subst e2;refine⟨cL<|by decide,λt2 ej=>?_⟩;have sT:=bE ej<|.tup [V.ref l1,.int (p:Int),V.ref ey];have SJ:=SG.trans<|sI.trans<|sJ.trans sT;have c0:∀{x:OL} {os:List Nat} {X:Hp},X x=some (.lst<|nL os)->Dp K X (.list<|(os.map λ(y:Nat)=>(y:Int)).map Sz) (.ref x):=fun {x os X} h=>zD (aB.of<|by rw[h,xb]);refine Ig (Enc.three (Enc.list Enc.int) Enc.int<|Enc.list Enc.int) (by decide) (a:=(bu.map λ(y:Nat)=>(y:Int),(p:Int),bw.map λ(y:Nat)=>(y:Int))) (b:=(bu.map λ(y:Nat)=>(y:Int),(p:Int),bw.map λ(y:Nat)=>(y:Int))) (Kg (bG.of<|SJ _ _ ht)<|.cons (c0<|SJ _ _ ew)<|.cons (Ie _)<|.cons (c0<|SJ _ _ f3) .nil) (Kg (bG.of aP)<|.cons (c0<|sT _ _<|(sI.trans sJ) _ _ hG)<|.cons (Ie _)<|.cons (c0<|sT _ _ hJ) .nil) ?_;rw[decide_eq_true rfl];exact q _
end
theorem all_mk{l:Ti}{w:Pp}{h:Ph}{mg:Pa->Option OK}{fa UV b9 bv cn bc cb b2 be bd bh WF af ah WP cw cz ba c5 XZ ea b6 cr bt aw f9 bp XV e2 az Z ae b7 fb e4 cv W1 au aj Ch Cj Ci Ce Ck ap jt bu gv g0 i7 li i5 k9 gk ce i6 e3 dz e0 ai cx d5 f7 d0 bw cy f3 dy f5 cj lr i8 jh gi ic gc ia jl f8 i4 fy lh kb:OL}{bj d3 bq bi ag ox n5 fw:Tok}(X:K.In h)(G:h.Ns OX mg)(pg:mg "law"=some (.ref fa))
  {e5 eu ja hy j2 g5 hf h7 hk c0 ca gl gq du fm hg ef gy ep dc j1 eg h8 da b8 bz dm je h3 gh d9 ch fq m2 ek jy jr kr mw lb m8 ju fx km hv hx h9 c3 gt g9 it g3 em g1 j5 he iv fk mm kp lw jg l7 jo kq m5 ir kz jx n8:Qf} {o7 lf:Option OL} {nf:Array<|Option OK} {ob ld lj ln jd lq:OK}
  (mz:W.nsIn K OX "Pour"=some (some<|.ref UV))
  (oh:P2 K UV RN=true)
  (nr:Py K UV=true)
  (o0:P8 K UV=true)
  (nc:W.findIn K (.ref UV) "__setattr__"=some (some<|.builtin "object.__setattr__"))
  (nv:Qj K UV=true)
  (o5:W.keepIn K (.ref UV)=true)
  (dq:W.findIn K (.ref UV) "asker"=some none)
  (d4:W.findIn K (.ref UV) "pieces"=some none)
  (di:W.findIn K (.ref UV) "taken"=some none)
  (bo:W.findIn K (.ref UV) "meetings"=some none)
  (cf:W.findIn K (.ref UV) "went_on"=some none)
  (FM:gU K UV "front_of" b9<|aN K "front_of" "Pour.front_of" Mh b9 e5)
  (ww:gU K UV "goes_on" bv<|aN K "goes_on" "Pour.goes_on" Mb bv eu)
  (ss:gU K UV "met" cn<|aN K "met" "Pour.met" LQ cn ja)
  (sw:gU K UV "held" bc<|aN K "held" "Pour.held" LA bc hy)
  (t3:gU K UV "top" cb<|aN K "top" "Pour.top" Ln cb j2)
  (sK:gU K UV "first" b2<|aN K "first" "Pour.first" Mp b2 g5)
  (At:gU K UV "left" be<|aN K "left" "Pour.left" LC be hf)
  (wf:gU K UV "__init__" bd<|aN K "__init__" "Pour.__init__" LB bd h7)
  (ut:gU K UV "take" bh<|aN K "take" "Pour.take" LD bh hk)
  (mh:W.nsIn K OX "LastPour"=some (some<|.ref WF))
  (oo:P2 K WF RN=true)
  (ov:Py K WF=true)
  (o1:P8 K WF=true)
  (o6:W.findIn K (.ref WF) "__setattr__"=some (some<|.builtin "object.__setattr__"))
  (oz:Qj K WF=true)
  (ni:W.keepIn K (.ref WF)=true)
  (dh:W.findIn K (.ref WF) "asker"=some none)
  (d2:W.findIn K (.ref WF) "pieces"=some none)
  (dt:W.findIn K (.ref WF) "taken"=some none)
  (br:W.findIn K (.ref WF) "meetings"=some none)
  (ck:W.findIn K (.ref WF) "went_on"=some none)
  (EQ:gU K WF "front_of" af<|aN K "front_of" "LastPour.front_of" Mu af c0)
  (xL:gU K WF "goes_on" ah<|aN K "goes_on" "LastPour.goes_on" Mr ah ca)
  (ft:W.findIn K (.ref WF) "met"=some (some<|.ref cn))
  (et:W.findIn K (.ref WF) "held"=some (some<|.ref bc))
  (fg:W.findIn K (.ref WF) "top"=some (some<|.ref cb))
  (ee:W.findIn K (.ref WF) "first"=some (some<|.ref b2))
  (lx:W.findIn K (.ref WF) "left"=some (some<|.ref be))
  (ei:W.findIn K (.ref WF) "__init__"=some (some<|.ref bd))
  (eh:W.findIn K (.ref WF) "take"=some (some<|.ref bh))
  (mv:W.nsIn K OX "Asker"=some (some<|.ref WP))
  (op:P2 K WP RN=true)
  (nb:Py K WP=true)
  (ot:P8 K WP=true)
  (nj:W.findIn K (.ref WP) "__setattr__"=some (some<|.builtin "object.__setattr__"))
  (n9:Qj K WP=true)
  (o8:W.keepIn K (.ref WP)=true)
  (lc:W.findIn K (.ref WP) "row"=some none)
  (ka:W.findIn K (.ref WP) "rule"=some none)
  (jf:W.findIn K (.ref WP) "most"=some none)
  (ik:W.findIn K (.ref WP) "asked"=some none)
  (k6:W.findIn K (.ref WP) "told"=some none)
  (GE:gU K WP "__init__" cw<|eQ K "__init__" "Asker.__init__" Ml cw gl [.none])
  (Id:gU K WP "many" cz<|aN K "many" "Asker.many" Mm cz gq)
  (pi:gU K WP "answers" ba<|aN K "answers" "Asker.answers" Je ba du)
  (AT:gU K WP "ahead" c5<|aN K "ahead" "Asker.ahead" L1 c5 fm)
  (mf:W.nsIn K OX "Join"=some (some<|.ref XZ))
  (o2:P2 K XZ RN=true)
  (nu:Py K XZ=true)
  (nq:P8 K XZ=true)
  (oc:W.findIn K (.ref XZ) "__setattr__"=some (some<|.builtin "object.__setattr__"))
  (on:Qj K XZ=true)
  (oe:W.keepIn K (.ref XZ)=true)
  (il:W.findIn K (.ref XZ) "asker"=some none)
  (jc:W.findIn K (.ref XZ) "sides"=some none)
  (io:W.findIn K (.ref XZ) "taken"=some none)
  (hu:W.findIn K (.ref XZ) "places"=some none)
  (Ps:gU K XZ "__init__" ea<|aN K "__init__" "Join.__init__" Lx ea hg)
  (Go:gU K XZ "has_more" b6<|aN K "has_more" "Join.has_more" Mf b6 ef)
  (wv:gU K XZ "front" cr<|aN K "front" "Join.front" Mn cr gy)
  (wP:gU K XZ "take_on" bt<|aN K "take_on" "Join.take_on" Ma bt ep)
  (Do:gU K XZ "take_rest" aw<|aN K "take_rest" "Join.take_rest" Mz aw dc)
  (Ev:gU K XZ "win" f9<|aN K "win" "Join.win" LO f9 j1)
  (FB:gU K XZ "leap_on" bp<|aN K "leap_on" "Join.leap_on" L9 bp eg)
  (n4:W.nsIn K OX "Pile"=some (some<|.ref XV))
  (nw:P2 K XV RN=true)
  (o3:Py K XV=true)
  (oj:P8 K XV=true)
  (ny:W.findIn K (.ref XV) "__setattr__"=some (some<|.builtin "object.__setattr__"))
  (nl:Qj K XV=true)
  (o4:W.keepIn K (.ref XV)=true)
  (ig:W.findIn K (.ref XV) "asker"=some none)
  (j0:W.findIn K (.ref XV) "least"=some none)
  (j4:W.findIn K (.ref XV) "start"=some none)
  (l4:W.findIn K (.ref XV) "end"=some none)
  (fz:W.findIn K (.ref XV) "reached"=some none)
  (hd:W.findIn K (.ref XV) "firsts"=some none)
  (i3:W.findIn K (.ref XV) "orders"=some none)
  (hs:W.findIn K (.ref XV) "grades"=some none)
  (wn:gU K XV "__init__" e2<|eQ K "__init__" "Pile.__init__" Ly e2 h8 [.int 1 bj,.none])
  (zn:gU K XV "beyond_of" az<|aN K "beyond_of" "Pile.beyond_of" MA az da)
  (xz:gU K XV "is_due_beneath" Z<|aN K "is_due_beneath" "Pile.is_due_beneath" Mw Z b8)
  (GT:gU K XV "grade_on_top" ae<|aN K "grade_on_top" "Pile.grade_on_top" Mv ae bz)
  (wS:gU K XV "join_two" b7<|aN K "join_two" "Pile.join_two" Mg b7 dm)
  (wr:gU K XV "lay" fb<|aN K "lay" "Pile.lay" LP fb je)
  (Gc:gU K XV "step" e4<|aN K "step" "Pile.step" Lz e4 h3)
  (AC:gU K XV "paper" cv<|aN K "paper" "Pile.paper" Mo cv gh)
  (n0:W.nsIn K OX "AskedRule"=some (some<|.ref W1))
  (nk:P2 K W1 RN=true)
  (ow:Py K W1=true)
  (nx:P8 K W1=true)
  (om:W.findIn K (.ref W1) "__setattr__"=some (some<|.builtin "object.__setattr__"))
  (og:Qj K W1=true)
  (nt:W.keepIn K (.ref W1)=true)
  (hz:W.findIn K (.ref W1) "teller"=some none)
  (TW:gU K W1 "__init__" au<|aN K "__init__" "AskedRule.__init__" My au d9)
  (GM:gU K W1 "before" aj<|aN K "before" "AskedRule.before" Mq aj ch)
  (jb:W.nsIn K OX "HallError"=some (some<|.ref Ch))
  (l0:W.nsIn K OX "NoPaper"=some (some<|.ref Cj))
  (kc:W.nsIn K OX "NoPlace"=some (some<|.ref Ci))
  (i9:W.nsIn K OX "TooFar"=some (some<|.ref Ce))
  (n6:W.nsIn K OX "Spent"=some (some<|.ref Ck))
  (UF:gU K Ce "__init__" ap<|aN K "__init__" "TooFar.__init__" L4 ap fq)
  (kv:W.findIn K (.ref Ce) "__getattribute__"=some (some<|.builtin "BaseException.__getattribute__"))
  (ky:W.findIn K (.ref Ce) "__getattr__"=some none)
  (ko:W.findIn K (.ref Ce) "__class__"=some (some<|.builtin "object.__class__"))
  (kl:RC K (.builtin "object.__class__") "__get__"=some (some<|.builtin "getset_descriptor.__get__"))
  (l9:Tg K (.builtin "object.__class__")=some true)
  (kf:RG K Ce (.type "object")=some true)
  (kw:RG K Ce (.type "BaseException")=some true)
  (kt:Py K Ce=true)
  (kj:Km K Ce=true)
  (ku:W.findIn K (.ref Ce) "__setattr__"=some (some<|.builtin "object.__setattr__"))
  (gn:CN K Ce ap zR "ValueError.__new__"=true)
  (l6:W.keepIn K (.ref Ce)=true)
  (ed:PySem.W.exmOne K (.ref Ce) (.ref Ce)=some true)
  (fv:W.findIn K (.ref Ce) "place"=some none)
  (er:W.findIn K (.ref Ce) "others"=some none)
  (gg:RC K (.ref Ch) "__getattribute__"=some (some<|.builtin "type.__getattribute__"))
  (g8:PySem.W.readsIn K Ch (.type "type")=true)
  (gd:PySem.W.findCls K (.ref Ch) (.type "type") "__init__"=some (.val<|.builtin "ValueError.__init__"))
  (KK:fC K "_law_first" jt<|aN K "_law_first" "_law_first" Ky jt m2)
  (wT:fC K "stretch_from" bu<|eQ K "stretch_from" "stretch_from" Md bu ek [.none])
  (KB:fC K "in_turn" gv<|aN K "in_turn" "in_turn" Lb gv jy)
  (Re:fC K "spot_of" g0<|aN K "spot_of" "spot_of" Ld g0 jr)
  (Fk:fC K "filled" i7<|eQ K "filled" "filled" KW i7 kr [.none])
  (Ty:fC K "leap" li<|aN K "leap" "leap" J6 li mw)
  (dL:fC K "joined" i5<|aN K "joined" "joined" KY i5 lb)
  (Pi:fC K "grade" k9<|aN K "grade" "grade" Kz k9 m8)
  (rc:fC K "by_pile" gk<|eQ K "by_pile" "by_pile" K8 gk ju [.int 1 d3,.none])
  (Ix:fC K "meetings_of" ce<|aN K "meetings_of" "meetings_of" L6 ce fx)
  (Sc:fC K "poured" i6<|aN K "poured" "poured" KZ i6 km)
  (TD:fC K "one_round" e3<|aN K "one_round" "one_round" LI e3 hv)
  (FS:fC K "in_rounds" dz<|eQ K "in_rounds" "in_rounds" LG dz hx [.int 2 bq])
  (py:fC K "by_pieces" e0<|eQ K "by_pieces" "by_pieces" LF e0 h9 [.int 2 bi,.int 1 ag])
  (Tm:fC K "spot_from_behind" ai<|aN K "spot_from_behind" "spot_from_behind" Ms ai c3)
  (Uf:fC K "by_putting" cx<|aN K "by_putting" "by_putting" LR cx gt)
  (PP:fC K "by_walking" d5<|aN K "by_walking" "by_walking" LS d5 g9)
  (P3:fC K "by_reach" f7<|aN K "by_reach" "by_reach" Lq f7 it)
  (NE:fC K "cut_of_two" d0<|aN K "cut_of_two" "cut_of_two" LU d0 g3)
  (M2:fC K "joined_apart" bw<|aN K "joined_apart" "joined_apart" Mc bw em)
  (IN:fC K "so_manieth" cy<|aN K "so_manieth" "so_manieth" LV cy g1)
  (T0:fC K "straight" f3<|aN K "straight" "straight" Ls f3 j5)
  (KM:fC K "is_number" dy<|aN K "is_number" "is_number" LH dy he)
  (SL:fC K "is_paper" f5<|aN K "is_paper" "is_paper" Lr f5 iv)
  (ST:fC K "check_paper" cj<|aN K "check_paper" "check_paper" L5 cj fk)
  (IO:fC K "back" lr<|aN K "back" "back" J4 lr mm)
  (Pv:fC K "agrees" i8<|aN K "agrees" "agrees" Lk i8 kp)
  (SC:fC K "shows" jh<|aN K "shows" "shows" KC jh lw)
  (IR:fC K "_law_cell_at" gi<|aN K "_law_cell_at" "_law_cell_at" La gi jg)
  (Tk:fC K "_law_blocks" ic<|aN K "_law_blocks" "_law_blocks" Ll ic l7)
  (Rs:fC K "_law_keys_by" gc<|aN K "_law_keys_by" "_law_keys_by" Lc gc jo)
  (LE:fC K "_law_row_by" ia<|aN K "_law_row_by" "_law_row_by" K0 ia kq)
  (SB:fC K "_law_parts" jl<|aN K "_law_parts" "_law_parts" KA jl m5)
  (SZ:fC K "_law_by_parts" f8<|aN K "_law_by_parts" "_law_by_parts" Lo f8 ir)
  (Tl:fC K "_law_by_way" i4<|aN K "_law_by_way" "_law_by_way" Lm i4 kz)
  (u8:fC K "_law_answers" fy<|aN K "_law_answers" "_law_answers" IV fy jx)
  (KF:fC K "_law_good" lh<|aN K "_law_good" "_law_good" J5 lh n8)
  (p1:W.nsIn K OX "law"=some (some<|.ref kb))
  (pd:K.lookup kb=some ⟨ob,o7,.func<|W.fnOf "law" "law" (zV BA) (vb BA) (aV BA) .none ld lj ln lf jd lq,nf⟩)
  (pe:W.codeIn K jd "law"=true)
  (p5:W.keepIn K (.ref kb)=true)
  (ng:W.nsIn K OX "LEFT"=some (some<|.int 0 ox))
  (n3:W.nsIn K OX "RIGHT"=some (some<|.int 1 n5))
  (fc:W.nsIn K OX "WINS_TO_LEAP"=some (some<|.int 4 fw))
  (pb:W.nsIn K OX "len"=some none)
  (mu:W.nsIn K OX "range"=some none)
  (nn:W.nsIn K OX "list"=some none)
  (gz:W.nsIn K OX "isinstance"=some none)
  (nh:W.nsIn K OX "bool"=some none)
  (p8:W.nsIn K OX "int"=some none)
  (p6:W.nsIn K OX "max"=some none)
  (p3:W.nsIn K OX "min"=some none)
  (p9:W.nsIn K OX "abs"=some none)
  (pa:W.nsIn K OX "sum"=some none)
  (p7:W.nsIn K OX "all"=some none)
  (m1:W.nsIn K OX "sorted"=some none)
  (iy:W.nsIn K OX "enumerate"=some none)
  (p4:W.nsIn K OX "zip"=some none)
  (ou:W.nsIn K OX "dict"=some none)
  (h4:W.nsIn K OX "ValueError"=some none)
  (ht:PU K (.type "int") (.type "bool")=some false):
  ∃fd:Qf,(∀(s:ON) (v:OK),TU s fd ⟨[v],[]⟩ [("_law_script",v)])/\∀base:Ph,K.In base->base.Ns OX mg->aH l.prog w K mg base aC 18 fa fd ["_law_script"] (qb K):=by
 have e:=pg.symm.trans<|OP X G p1;cases e;have ad:fW K UV:=⟨oh,nr,o0,nc⟩
 have ev:=FM.F.binds (ps:=["self","piece","taken"]) (by exact λ_ _ _ _ _ _ us hl=>by obtain⟨_,_,_,e⟩:=iY hl;subst e;rfl);have fh:=ww.F.binds (ps:=["self","p","q"]) (by exact λ_ _ _ _ _ _ us hl=>by obtain⟨_,_,_,e⟩:=iY hl;subst e;rfl);have f4:=ss.F.binds (ps:=["self","one","other"]) (by exact λ_ _ _ _ _ _ us hl=>by obtain⟨_,_,_,e⟩:=iY hl;subst e;rfl);have dj:=sw.F.binds (ps:=["self","meetings","went_on"]) (by exact λ_ _ _ _ _ _ us hl=>by obtain⟨_,_,_,e⟩:=iY hl;subst e;rfl);have f6:=t3.F.binds (ps:=["self"]) (by exact λ_ _ _ _ _ _ us hl=>by obtain⟨_,e⟩:=lU hl;subst e;rfl);have ct:=sK.F.binds (ps:=["self"]) (by exact λ_ _ _ _ _ _ us hl=>by obtain⟨_,e⟩:=lU hl;subst e;rfl);have j6:=At.F.binds (ps:=["self"]) (by exact λ_ _ _ _ _ _ us hl=>by obtain⟨_,e⟩:=lU hl;subst e;rfl);have dp:=wf.F.binds (ps:=["self","asker","pieces"]) (by exact λ_ _ _ _ _ _ us hl=>by obtain⟨_,_,_,e⟩:=iY hl;subst e;rfl);have e8:=ut.F.binds (ps:=["self"]) (by exact λ_ _ _ _ _ _ us hl=>by obtain⟨_,e⟩:=lU hl;subst e;rfl);have ao:BO K UV:=⟨ad,dq,d4,di,bo,cf⟩
 have am:fW K WF:=⟨oo,ov,o1,o6⟩
 have c4:=EQ.F.binds (ps:=["self","piece","taken"]) (by exact λ_ _ _ _ _ _ us hl=>by obtain⟨_,_,_,e⟩:=iY hl;subst e;rfl);have cp:=xL.F.binds (ps:=["self","p","q"]) (by exact λ_ _ _ _ _ _ us hl=>by obtain⟨_,_,_,e⟩:=iY hl;subst e;rfl);have U:BO K WF:=⟨am,dh,d2,dt,br,ck⟩
 have eb:fW K WP:=⟨op,nb,ot,nj⟩
 have mc:=GE.F.binds (ps:=["self","row","rule","most"]) (ds:=[]) (by exact λ_ _ _ _ _ _ _ us hl=>by obtain⟨_,_,_,_,e⟩:=wM (rD (n:=4) hl rfl);subst e;exact⟨_,rfl,rfl⟩);have fu:=GE.F.binds (ps:=["self","row","rule","most"]) (ds:=[.none]) (by exact λ_ _ _ _ _ _ _ us hl=>by obtain⟨_,_,_,e⟩:=iY (rD (n:=3) hl rfl);subst e;exact⟨_,rfl,rfl⟩);have h5:=Id.F.binds (ps:=["self"]) (by exact λ_ _ _ _ _ _ us hl=>by obtain⟨_,e⟩:=lU hl;subst e;rfl);have b3:=pi.F.binds (ps:=["self"]) (by exact λ_ _ _ _ _ _ us hl=>by obtain⟨_,e⟩:=lU hl;subst e;rfl);have gj:=AT.F.binds (ps:=["self","p","q"]) (by exact λ_ _ _ _ _ _ us hl=>by obtain⟨_,_,_,e⟩:=iY hl;subst e;rfl);have bg:fW K XZ:=⟨o2,nu,nq,oc⟩
 have j9:=Ps.F.binds (ps:=["self","asker","left","right"]) (by exact λ_ _ _ _ _ _ us hl=>by obtain⟨_,_,_,_,e⟩:=wM hl;subst e;rfl);have ew:=Go.F.binds (ps:=["self","side"]) (by exact λ_ _ _ _ _ _ us hl=>by obtain⟨_,_,e⟩:=kY hl;subst e;rfl);have i0:=wv.F.binds (ps:=["self","side"]) (by exact λ_ _ _ _ _ _ us hl=>by obtain⟨_,_,e⟩:=kY hl;subst e;rfl);have ff:=wP.F.binds (ps:=["self","side","more"]) (by exact λ_ _ _ _ _ _ us hl=>by obtain⟨_,_,_,e⟩:=iY hl;subst e;rfl);have e6:=Do.F.binds (ps:=["self","side"]) (by exact λ_ _ _ _ _ _ us hl=>by obtain⟨_,_,e⟩:=kY hl;subst e;rfl);have jz:=Ev.F.binds (ps:=["self"]) (by exact λ_ _ _ _ _ _ us hl=>by obtain⟨_,e⟩:=lU hl;subst e;rfl);have fe:=FB.F.binds (ps:=["self","side"]) (by exact λ_ _ _ _ _ _ us hl=>by obtain⟨_,_,e⟩:=kY hl;subst e;rfl);have av:fW K XV:=⟨nw,o3,oj,ny⟩
 have gp:=wn.F.binds (ps:=["self","asker","least","part"]) (ds:=[]) (by exact λ_ _ _ _ _ _ _ us hl=>by obtain⟨_,_,_,_,e⟩:=wM (rD (n:=4) hl rfl);subst e;exact⟨_,rfl,rfl⟩);have me:=wn.F.binds (ps:=["self","asker","least","part"]) (ds:=[.none]) (by exact λ_ _ _ _ _ _ _ us hl=>by obtain⟨_,_,_,e⟩:=iY (rD (n:=3) hl rfl);subst e;exact⟨_,rfl,rfl⟩);have mr:=wn.F.binds (ps:=["self","asker","least","part"]) (ds:=[.int 1 bj,.none]) (by exact λ_ _ _ _ _ _ _ us hl=>by obtain⟨_,_,e⟩:=kY (rD (n:=2) hl rfl);subst e;exact⟨_,rfl,rfl⟩);have dw:=zn.F.binds (ps:=["self","number"]) (by exact λ_ _ _ _ _ _ us hl=>by obtain⟨_,_,e⟩:=kY hl;subst e;rfl);have bf:=xz.F.binds (ps:=["self"]) (by exact λ_ _ _ _ _ _ us hl=>by obtain⟨_,e⟩:=lU hl;subst e;rfl);have c7:=GT.F.binds (ps:=["self","middle","beyond"]) (by exact λ_ _ _ _ _ _ us hl=>by obtain⟨_,_,_,e⟩:=iY hl;subst e;rfl);have f2:=wS.F.binds (ps:=["self","lower"]) (by exact λ_ _ _ _ _ _ us hl=>by obtain⟨_,_,e⟩:=kY hl;subst e;rfl);have jk:=wr.F.binds (ps:=["self"]) (by exact λ_ _ _ _ _ _ us hl=>by obtain⟨_,e⟩:=lU hl;subst e;rfl);have j7:=Gc.F.binds (ps:=["self"]) (by exact λ_ _ _ _ _ _ us hl=>by obtain⟨_,e⟩:=lU hl;subst e;rfl);have hh:=AC.F.binds (ps:=["self"]) (by exact λ_ _ _ _ _ _ us hl=>by obtain⟨_,e⟩:=lU hl;subst e;rfl);have lv:fW K W1:=⟨nk,ow,nx,om⟩
 have e1:=TW.F.binds (ps:=["self","teller"]) (by exact λ_ _ _ _ _ _ us hl=>by obtain⟨_,_,e⟩:=kY hl;subst e;rfl);have co:=GM.F.binds (ps:=["self","x","y"]) (by exact λ_ _ _ _ _ _ us hl=>by obtain⟨_,_,_,e⟩:=iY hl;subst e;rfl);have gw:=UF.F.binds (ps:=["self","place","others"]) (by exact λ_ _ _ _ _ _ us hl=>by obtain⟨_,_,_,e⟩:=iY hl;subst e;rfl);have md:=KK.F.binds (ps:=["_law_one","_law_other"]) (by exact λ_ _ _ _ _ _ us hl=>by obtain⟨_,_,e⟩:=kY hl;subst e;rfl);have dk:=wT.F.binds (ps:=["asker","first","end"]) (ds:=[]) (by exact λ_ _ _ _ _ _ _ us hl=>by obtain⟨_,_,_,e⟩:=iY (rD (n:=3) hl rfl);subst e;exact⟨_,rfl,rfl⟩);have lm:=wT.F.binds (ps:=["asker","first","end"]) (ds:=[.none]) (by exact λ_ _ _ _ _ _ _ us hl=>by obtain⟨_,_,e⟩:=kY (rD (n:=2) hl rfl);subst e;exact⟨_,rfl,rfl⟩);have kk:=KB.F.binds (ps:=["first","beyond","falling"]) (by exact λ_ _ _ _ _ _ us hl=>by obtain⟨_,_,_,e⟩:=iY hl;subst e;rfl);have kg:=Re.F.binds (ps:=["asker","order","place"]) (by exact λ_ _ _ _ _ _ us hl=>by obtain⟨_,_,_,e⟩:=iY hl;subst e;rfl);have jj:=Fk.F.binds (ps:=["asker","first","least","end"]) (ds:=[]) (by exact λ_ _ _ _ _ _ _ us hl=>by obtain⟨_,_,_,_,e⟩:=wM (rD (n:=4) hl rfl);subst e;exact⟨_,rfl,rfl⟩);have p0:=Fk.F.binds (ps:=["asker","first","least","end"]) (ds:=[.none]) (by exact λ_ _ _ _ _ _ _ us hl=>by obtain⟨_,_,_,e⟩:=iY (rD (n:=3) hl rfl);subst e;exact⟨_,rfl,rfl⟩);have nz:=Ty.F.binds (ps:=["asker","order","first","place"]) (by exact λ_ _ _ _ _ _ us hl=>by obtain⟨_,_,_,_,e⟩:=wM hl;subst e;rfl);have mb:=dL.F.binds (ps:=["asker","left","right"]) (by exact λ_ _ _ _ _ _ us hl=>by obtain⟨_,_,_,e⟩:=iY hl;subst e;rfl);have mi:=Pi.F.binds (ps:=["many","first","middle","beyond"]) (by exact λ_ _ _ _ _ _ us hl=>by obtain⟨_,_,_,_,e⟩:=wM hl;subst e;rfl);have j8:=rc.F.binds (ps:=["asker","least","part"]) (ds:=[]) (by exact λ_ _ _ _ _ _ _ us hl=>by obtain⟨_,_,_,e⟩:=iY (rD (n:=3) hl rfl);subst e;exact⟨_,rfl,rfl⟩);have ix:=rc.F.binds (ps:=["asker","least","part"]) (ds:=[.none]) (by exact λ_ _ _ _ _ _ _ us hl=>by obtain⟨_,_,e⟩:=kY (rD (n:=2) hl rfl);subst e;exact⟨_,rfl,rfl⟩);have oi:=rc.F.binds (ps:=["asker","least","part"]) (ds:=[.int 1 d3,.none]) (by exact λ_ _ _ _ _ _ _ us hl=>by obtain⟨_,e⟩:=lU (rD (n:=1) hl rfl);subst e;exact⟨_,rfl,rfl⟩);have g6:=Ix.F.binds (ps:=["first","beyond"]) (by exact λ_ _ _ _ _ _ us hl=>by obtain⟨_,_,e⟩:=kY hl;subst e;rfl);have ly:=Sc.F.binds (ps:=["asker","pieces"]) (by exact λ_ _ _ _ _ _ us hl=>by obtain⟨_,_,e⟩:=kY hl;subst e;rfl);have ih:=TD.F.binds (ps:=["asker","pieces","mouths"]) (by exact λ_ _ _ _ _ _ us hl=>by obtain⟨_,_,_,e⟩:=iY hl;subst e;rfl);have gb:=FS.F.binds (ps:=["asker","pieces","mouths"]) (ds:=[]) (by exact λ_ _ _ _ _ _ _ us hl=>by obtain⟨_,_,_,e⟩:=iY (rD (n:=3) hl rfl);subst e;exact⟨_,rfl,rfl⟩);have mq:=FS.F.binds (ps:=["asker","pieces","mouths"]) (ds:=[.int 2 bq]) (by exact λ_ _ _ _ _ _ _ us hl=>by obtain⟨_,_,e⟩:=kY (rD (n:=2) hl rfl);subst e;exact⟨_,rfl,rfl⟩);have g2:=py.F.binds (ps:=["asker","wide","mouths","least"]) (ds:=[]) (by exact λ_ _ _ _ _ _ _ us hl=>by obtain⟨_,_,_,_,e⟩:=wM (rD (n:=4) hl rfl);subst e;exact⟨_,rfl,rfl⟩);have mx:=py.F.binds (ps:=["asker","wide","mouths","least"]) (ds:=[.int 1 ag]) (by exact λ_ _ _ _ _ _ _ us hl=>by obtain⟨_,_,_,e⟩:=iY (rD (n:=3) hl rfl);subst e;exact⟨_,rfl,rfl⟩);have g7:=py.F.binds (ps:=["asker","wide","mouths","least"]) (ds:=[.int 2 bi,.int 1 ag]) (by exact λ_ _ _ _ _ _ _ us hl=>by obtain⟨_,_,e⟩:=kY (rD (n:=2) hl rfl);subst e;exact⟨_,rfl,rfl⟩);have cq:=Tm.F.binds (ps:=["asker","order","place"]) (by exact λ_ _ _ _ _ _ us hl=>by obtain⟨_,_,_,e⟩:=iY hl;subst e;rfl);have hr:=Uf.F.binds (ps:=["asker"]) (by exact λ_ _ _ _ _ _ us hl=>by obtain⟨_,e⟩:=lU hl;subst e;rfl);have i1:=PP.F.binds (ps:=["asker"]) (by exact λ_ _ _ _ _ _ us hl=>by obtain⟨_,e⟩:=lU hl;subst e;rfl);have ji:=P3.F.binds (ps:=["asker","reach"]) (by exact λ_ _ _ _ _ _ us hl=>by obtain⟨_,_,e⟩:=kY hl;subst e;rfl);have hb:=NE.F.binds (ps:=["asker","left","right","many"]) (by exact λ_ _ _ _ _ _ us hl=>by obtain⟨_,_,_,_,e⟩:=wM hl;subst e;rfl);have fn:=M2.F.binds (ps:=["asker","left","right","parts"]) (by exact λ_ _ _ _ _ _ us hl=>by obtain⟨_,_,_,_,e⟩:=wM hl;subst e;rfl);have ho:=IN.F.binds (ps:=["asker","many"]) (by exact λ_ _ _ _ _ _ us hl=>by obtain⟨_,_,e⟩:=kY hl;subst e;rfl);have k8:=T0.F.binds (ps:=["many"]) (by exact λ_ _ _ _ _ _ us hl=>by obtain⟨_,e⟩:=lU hl;subst e;rfl);have iz:=KM.F.binds (ps:=["some"]) (by exact λ_ _ _ _ _ _ us hl=>by obtain⟨_,e⟩:=lU hl;subst e;rfl);have jp:=SL.F.binds (ps:=["some"]) (by exact λ_ _ _ _ _ _ us hl=>by obtain⟨_,e⟩:=lU hl;subst e;rfl);have ge:=ST.F.binds (ps:=["some","many"]) (by exact λ_ _ _ _ _ _ us hl=>by obtain⟨_,_,e⟩:=kY hl;subst e;rfl);have na:=IO.F.binds (ps:=["paper"]) (by exact λ_ _ _ _ _ _ us hl=>by obtain⟨_,e⟩:=lU hl;subst e;rfl);have m9:=Pv.F.binds (ps:=["paper","answers"]) (by exact λ_ _ _ _ _ _ us hl=>by obtain⟨_,_,e⟩:=kY hl;subst e;rfl);have mj:=SC.F.binds (ps:=["paper","answers"]) (by exact λ_ _ _ _ _ _ us hl=>by obtain⟨_,_,e⟩:=kY hl;subst e;rfl);have kh:=IR.F.binds (ps:=["_law_script","_law_k"]) (by exact λ_ _ _ _ _ _ us hl=>by obtain⟨_,_,e⟩:=kY hl;subst e;rfl);have m4:=Tk.F.binds (ps:=["_law_keys","_law_one","_law_two"]) (by exact λ_ _ _ _ _ _ us hl=>by obtain⟨_,_,_,e⟩:=iY hl;subst e;rfl);have kd:=Rs.F.binds (ps:=["_law_script","_law_many","_law_most"]) (by exact λ_ _ _ _ _ _ us hl=>by obtain⟨_,_,_,e⟩:=iY hl;subst e;rfl);have m0:=LE.F.binds (ps:=["_law_script"]) (by exact λ_ _ _ _ _ _ us hl=>by obtain⟨_,e⟩:=lU hl;subst e;rfl);have my:=SB.F.binds (ps:=["_law_asker","_law_cell","_law_many"]) (by exact λ_ _ _ _ _ _ us hl=>by obtain⟨_,_,_,e⟩:=iY hl;subst e;rfl);have jq:=SZ.F.binds (ps:=["_law_asker","_law_way","_law_cell","_law_many"]) (by exact λ_ _ _ _ _ _ us hl=>by obtain⟨_,_,_,_,e⟩:=wM hl;subst e;rfl);have m6:=Tl.F.binds (ps:=["_law_asker","_law_way","_law_cell","_law_many"]) (by exact λ_ _ _ _ _ _ us hl=>by obtain⟨_,_,_,_,e⟩:=wM hl;subst e;rfl);have gm:=u8.F.binds (ps:=["_law_asker","_law_row"]) (by exact λ_ _ _ _ _ _ us hl=>by obtain⟨_,_,e⟩:=kY hl;subst e;rfl);have o9:=KF.F.binds (ps:=["_law_row","_law_way","_law_cell","_law_due"]) (by exact λ_ _ _ _ _ _ us hl=>by obtain⟨_,_,_,_,e⟩:=wM hl;subst e;rfl);have n7:=Mx (st:=BA) pd pe p5;have pf:=n7.binds (ps:=["_law_script"]) (by exact λ_ _ _ _ _ _ us hl=>by obtain⟨_,e⟩:=lU hl;subst e;rfl);have T:Bt K mg UV WF WP XZ XV W1 Ch Cj Ci Ce Ck:=⟨Pk X G pb,Pk X G mu,Pk X G nn,Pk X G gz,Pk X G nh,Pk X G p8,Pk X G p6,Pk X G p3,Pk X G p9,Pk X G pa,Pk X G p7,Pk X G m1,Pk X G iy,Pk X G p4,Pk X G ou,Pk X G h4,⟨_,OP X G ng⟩,⟨_,OP X G n3⟩,⟨_,OP X G fc⟩,OP X G mz,ad,dq,d4,di,bo,cf,OP X G mh,am,dh,d2,dt,br,ck,OP X G mv,eb,lc,ka,jf,ik,k6,OP X G mf,bg,il,jc,io,hu,OP X G n4,av,ig,j0,j4,l4,fz,hd,i3,hs,OP X G n0,lv,hz,OP X G jb,OP X G l0,OP X G kc,OP X G i9,OP X G n6,⟨kv,ky,ko,kl,l9,kf,kw⟩,⟨kt,kj,ku⟩,⟨_,gn⟩,ed,fv,er,⟨gg,g8,gd⟩,ht⟩
 refine⟨W.fnOf "law" "law" (zV BA) (vb BA) (aV BA) .none ld lj ln lf jd lq,λs v=>.of_eq rfl,λbase _ _=>?_⟩;have c6:Fn l.prog w K mg base _ _ _ _ _:=⟨_,_,NB IR.F T,kh,IR.k,OP X G IR.a⟩
 have jm:Fn l.prog w K mg base _ _ _ _ _:=⟨_,_,NH Rs.F T c6,kd,Rs.k,OP X G Rs.a⟩
 have ki:Fn l.prog w K mg base _ _ _ _ _:=⟨_,_,M5 Tk.F T,m4,Tk.k,OP X G Tk.a⟩
 have l8:Fn l.prog w K mg base _ _ _ _ _:=⟨_,_,Oi LE.F T jm c6 ki,m0,LE.k,OP X G LE.a⟩
 have O:Mt l.prog w K mg base _ _ _ _ _ _:=⟨eb,_,_,NR Id.F T,h5,Id.a,Id.i,Id.k⟩
 have e7:Mt l.prog w K mg base aC UV "top" 1 ["self"]<|mX false UV:=⟨ad,_,_,Oa t3.F T ao,f6,t3.a,t3.i,t3.k⟩
 have gf:Mt l.prog w K mg base aC UV "first" 2 ["self"]<|gJ false UV:=⟨ad,_,_,Of sK.F T ao e7,ct,sK.a,sK.i,sK.k⟩
 have b5:Mt l.prog w K mg base aC WF "top" 1 ["self"]<|mX true WF:=⟨am,_,_,Oa t3.F T U,f6,fg,t3.i,t3.k⟩
 have df:Mt l.prog w K mg base aC WF "first" 2 ["self"]<|gJ true WF:=⟨am,_,_,Of sK.F T U b5,ct,ee,sK.i,sK.k⟩
 have ay:Mt l.prog w K mg base aC UV "front_of" 1 ["self","piece","taken"]<|cF false UV:=⟨ad,_,_,OA FM.F T,ev,FM.a,FM.i,FM.k⟩
 have ej:Fn l.prog w K mg base _ _ _ _ _:=⟨_,_,NN KK.F T,md,KK.k,OP X G KK.a⟩
 have c8:Mt l.prog w K mg base _ _ _ _ _ _:=⟨lv,_,_,NJ GM.F T ej,co,GM.a,GM.i,GM.k⟩
 have J:Mt l.prog w K mg base _ _ _ _ _ _:=⟨eb,_,_,NU AT.F T c8,gj,AT.a,AT.i,AT.k⟩
 have en:Mt l.prog w K mg base aC UV "goes_on" 4 ["self","p","q"]<|cW WP (aG.mk W1 mg) false UV:=⟨ad,_,_,Ol ww.F T J,fh,ww.a,ww.i,ww.k⟩
 have iu:Mt l.prog w K mg base aC UV "met" 5 ["self","one","other"]<|lA WP (aG.mk W1 mg) false UV:=⟨ad,_,_,Od ss.F T ao en,f4,ss.a,ss.i,ss.k⟩
 have cu:Mt l.prog w K mg base aC UV "held" 6 ["self","meetings","went_on"]<|gI WP (aG.mk W1 mg) false UV:=⟨ad,_,_,Ob sw.F T ao iu,dj,sw.a,sw.i,sw.k⟩
 have d6:Mt l.prog w K mg base aC UV "take" 7 ["self"]<|dX WP (aG.mk W1 mg) false UV:=⟨ad,_,_,Oh ut.F T ao e7 ay cu,e8,ut.a,ut.i,ut.k⟩
 have aa:Mt l.prog w K mg base aC WF "front_of" 1 ["self","piece","taken"]<|cF true WF:=⟨am,_,_,OH EQ.F T,c4,EQ.a,EQ.i,EQ.k⟩
 have cm:Mt l.prog w K mg base aC WF "goes_on" 4 ["self","p","q"]<|cW WP (aG.mk W1 mg) true WF:=⟨am,_,_,O0 xL.F T J,cp,xL.a,xL.i,xL.k⟩
 have el:Mt l.prog w K mg base aC WF "met" 5 ["self","one","other"]<|lA WP (aG.mk W1 mg) true WF:=⟨am,_,_,Od ss.F T U cm,f4,ft,ss.i,ss.k⟩
 have aq:Mt l.prog w K mg base aC WF "held" 6 ["self","meetings","went_on"]<|gI WP (aG.mk W1 mg) true WF:=⟨am,_,_,Ob sw.F T U el,dj,et,sw.i,sw.k⟩
 have ec:Mt l.prog w K mg base aC WF "take" 7 ["self"]<|dX WP (aG.mk W1 mg) true WF:=⟨am,_,_,Oh ut.F T U b5 aa aq,e8,eh,ut.i,ut.k⟩
 have bn:Fn l.prog w K mg base aC "meetings_of" 9 ["first","beyond"]<|bQ 9:=yc (sp:=bQ) (λ_ _ _ _ z=>lW z) g6 Ix.k (OP X G Ix.a) (λn h=>M3 Ix.F T h) 9;have oq:Kl l.prog w K mg base aC "LastPour" WF 10 ["self","asker","pieces"]<|bH WP (aG.mk W1 mg) true WF:=⟨OP X G mh,_,_,Og wf.F T U bn aq aa,dp,oz,ei,wf.i,ni⟩
 have lp:Kl l.prog w K mg base aC "Pour" UV 10 ["self","asker","pieces"]<|bH WP (aG.mk W1 mg) false UV:=⟨OP X G mz,_,_,Og wf.F T ao bn cu ay,dp,nv,wf.a,wf.i,o5⟩
 have gx:Fn l.prog w K mg base _ _ _ _ _:=⟨_,_,NO IN.F T O gf df d6 ec oq lp,ho,IN.k,OP X G IN.a⟩
 have hj:Mt l.prog w K mg base aC UV "left" 1 ["self"]<|oW false UV:=⟨ad,_,_,O2 At.F T ao,j6,At.a,At.i,At.k⟩
 have d8:Fn l.prog w K mg base _ _ _ _ _:=⟨_,_,M4 Sc.F T d6 hj lp,ly,Sc.k,OP X G Sc.a⟩
 have ci:Mt l.prog w K mg base _ _ _ _ _ _:=⟨av,_,_,Op AC.F T,hh,AC.a,AC.i,AC.k⟩
 have b4:Mt l.prog w K mg base _ _ _ _ _ _:=⟨av,_,_,Oy xz.F T,bf,xz.a,xz.i,xz.k⟩
 have ac:Mt l.prog w K mg base _ _ _ _ _ _:=⟨bg,_,_,M6 wP.F T,ff,wP.a,wP.i,wP.k⟩
 have d7:Mt l.prog w K mg base _ _ _ _ _ _:=⟨bg,_,_,Oj Do.F T ac,e6,Do.a,Do.i,Do.k⟩
 have ax:Mt l.prog w K mg base _ _ _ _ _ _:=⟨bg,_,_,O3 Go.F T,ew,Go.a,Go.i,Go.k⟩
 have cg:Mt l.prog w K mg base _ _ _ _ _ _:=⟨bg,_,_,NI wv.F T,i0,wv.a,wv.i,wv.k⟩
 have j3:Mt l.prog w K mg base _ _ _ _ _ _:=⟨bg,_,_,Ov Ev.F T ac J cg,jz,Ev.a,Ev.i,Ev.k⟩
 have n2:Fn l.prog w K mg base _ _ _ _ _:=⟨_,_,On Ty.F T J,nz,Ty.k,OP X G Ty.a⟩
 have ez:Mt l.prog w K mg base _ _ _ _ _ _:=⟨bg,_,_,NK FB.F T n2 ac ax cg,fe,FB.a,FB.i,FB.k⟩
 have oy:Kl l.prog w K mg base _ _ _ _ _ _:=⟨OP X G mf,_,_,M9 Ps.F T,j9,on,Ps.a,Ps.i,oe⟩
 have dg:Fn l.prog w K mg base _ _ _ _ _:=⟨_,_,M7 dL.F T d7 ax j3 ez oy,mb,dL.k,OP X G dL.a⟩
 have db:Mt l.prog w K mg base _ _ _ _ _ _:=⟨av,_,_,Om zn.F T,dw,zn.a,zn.i,zn.k⟩
 have e9:Mt l.prog w K mg base _ _ _ _ _ _:=⟨av,_,_,O4 wS.F T dg db,f2,wS.a,wS.i,wS.k⟩
 have ey:Fn l.prog w K mg base _ _ _ _ _:=⟨_,_,NS wT.F T J O,dk,wT.k,OP X G wT.a⟩
 have k4:Fn l.prog w K mg base _ _ _ _ _:=⟨_,_,NQ KB.F T,kk,KB.k,OP X G KB.a⟩
 have cc:Fn l.prog w K mg base _ _ _ _ _:=⟨_,_,NF Re.F T J,kg,Re.k,OP X G Re.a⟩
 have kx:Fn l.prog w K mg base _ _ _ _ _:=⟨_,_,O9 Fk.F T ey k4 cc O,jj,Fk.k,OP X G Fk.a⟩
 have lz:Fn l.prog w K mg base _ _ _ _ _:=⟨_,_,O6 Pi.F T,mi,Pi.k,OP X G Pi.a⟩
 have bx:Mt l.prog w K mg base _ _ _ _ _ _:=⟨av,_,_,Oq GT.F T lz,c7,GT.a,GT.i,GT.k⟩
 have ij:Mt l.prog w K mg base _ _ _ _ _ _:=⟨av,_,_,Oo wr.F T kx bx,jk,wr.a,wr.i,wr.k⟩
 have d1:Mt l.prog w K mg base _ _ _ _ _ _:=⟨av,_,_,OF Gc.F T b4 e9 ij,j7,Gc.a,Gc.i,Gc.k⟩
 have lu:Kl l.prog w K mg base _ _ _ _ _ _:=⟨OP X G n4,_,_,NA wn.F T O,gp,nl,wn.a,wn.i,o4⟩
 have b0:Fn l.prog w K mg base _ _ _ _ _:=⟨_,_,Oc rc.F T ci d1 lu,j8,rc.k,OP X G rc.a⟩
 have gu:Fn l.prog w K mg base _ _ _ _ _:=⟨_,_,Os NE.F T J,hb,NE.k,OP X G NE.a⟩
 have eo:Fn l.prog w K mg base _ _ _ _ _:=⟨_,_,O1 M2.F T dg gu,fn,M2.k,OP X G M2.a⟩
 have m3:Fn l.prog w K mg base _ _ _ _ _:=⟨_,_,O7 SB.F T b0,my,SB.k,OP X G SB.a⟩
 have i2:Fn l.prog w K mg base _ _ _ _ _:=⟨_,_,NT TD.F T d8,ih,TD.k,OP X G TD.a⟩
 have b1:Fn l.prog w K mg base _ _ _ _ _:=⟨_,_,NC FS.F T i2,gb,FS.k,OP X G FS.a⟩
 have im:Fn l.prog w K mg base _ _ _ _ _:=⟨_,_,NP SZ.F T b0 eo d8 dg m3 b1,jq,SZ.k,OP X G SZ.a⟩
 have ga:Fn l.prog w K mg base _ _ _ _ _:=⟨_,_,Oz Uf.F T cc O,hr,Uf.k,OP X G Uf.a⟩
 have c9:Fn l.prog w K mg base _ _ _ _ _:=⟨_,_,OE Tm.F T J,cq,Tm.k,OP X G Tm.a⟩
 have g4:Fn l.prog w K mg base _ _ _ _ _:=⟨_,_,NV PP.F T c9 O,i1,PP.k,OP X G PP.a⟩
 have hp:HH l.prog w K mg base aC "by_pile" 9 ["asker","least","part"] (bT WP<|aG.mk W1 mg) [.Ux]:=⟨_,_,_,Oc rc.F T ci d1 lu,ix,(.cons rfl .nil),rc.k,OP X G rc.a⟩
 have hq:Fn l.prog w K mg base _ _ _ _ _:=⟨_,_,Oe py.F T b0 b1 O,g2,py.k,OP X G py.a⟩
 have fi:HH l.prog w K mg base aC "by_pieces" 15 ["asker","wide","mouths","least"] (bI WP<|aG.mk W1 mg) [.int 2,.int 1]:=⟨_,_,_,Oe py.F T b0 b1 O,g7,(.cons ⟨_,rfl⟩<|.cons ⟨_,rfl⟩ .nil),py.k,OP X G py.a⟩
 have ke:Fn l.prog w K mg base _ _ _ _ _:=⟨_,_,Ou Tl.F T im ga g4 hp hq fi,m6,Tl.k,OP X G Tl.a⟩
 have as:Mt l.prog w K mg base _ _ _ _ _ _:=⟨eb,_,_,NG pi.F T,b3,pi.a,pi.i,pi.k⟩
 have jv:Fn l.prog w K mg base _ _ _ _ _:=⟨_,_,Ox u8.F T as,gm,u8.k,OP X G u8.a⟩
 have jw:MB l.prog w K mg base aC "TooFar" Ce 1 ["self","place","others"]<|iG Ce:=⟨OP X G i9,_,_,OG UF.F T,gw,gn,UF.i,l6⟩
 have ii:Fn l.prog w K mg base _ _ _ _ _:=⟨_,_,Ow P3.F T cc O J jw,ji,P3.k,OP X G P3.a⟩
 have dr:Fn l.prog w K mg base _ _ _ _ _:=⟨_,_,OD T0.F T,k8,T0.k,OP X G T0.a⟩
 have h6:Fn l.prog w K mg base _ _ _ _ _:=⟨_,_,NW KM.F T,iz,KM.k,OP X G KM.a⟩
 have iw:Fn l.prog w K mg base _ _ _ _ _:=⟨_,_,O8 SL.F T dr h6,jp,SL.k,OP X G SL.a⟩
 have fj:Fn l.prog w K mg base _ _ _ _ _:=⟨_,_,M8 ST.F T iw,ge,ST.k,OP X G ST.a⟩
 have n1:Fn l.prog w K mg base _ _ _ _ _:=⟨_,_,NM IO.F T fj dr,na,IO.k,OP X G IO.a⟩
 have l5:Fn l.prog w K mg base _ _ _ _ _:=⟨_,_,NZ Pv.F T n1,m9,Pv.k,OP X G Pv.a⟩
 have m7:Fn l.prog w K mg base _ _ _ _ _:=⟨_,_,Ot SC.F T l5,mj,SC.k,OP X G SC.a⟩
 have ie:Jg l.prog w K mg base aC "Asker" WP 1 ["self","row","rule","most"] (cJ WP) [.Ux]:=⟨OP X G mv,_,_,_,OC GE.F T,fu,(.cons rfl .nil),n9,GE.a,GE.i,o8⟩
 have ll:Kl l.prog w K mg base _ _ _ _ _ _:=⟨OP X G n0,_,_,ND TW.F T,e1,og,TW.a,TW.i,nt⟩
 have de:MG l.prog w K mg base WP "answers" 1 ["self"]<|bU WP:=⟨eb,_,_,iS pi.F T,b3,pi.a,pi.i,pi.k⟩
 have k7:MH l.prog w K mg base "_law_answers" 2 ["_law_asker","_law_row"]<|bK WP<|aG.mk W1 mg:=⟨_,_,qH u8.F T de,gm,u8.k,OP X G u8.a⟩
 have mo:Fn l.prog w K mg base _ _ _ _ _:=⟨_,_,O5 KF.F T ke jv ej ii m7 as ie ll k7,o9,KF.k,OP X G KF.a⟩
 exact NY n7 T l8 c6 gx d8 mo ej ie ll
theorem walk{l:Ti}{q:OZ}{loose:List Pa}{XP:(Pa->Option OK)->Ph->Prop}{YP:Pp->Ph->Prop}{d:DefRec}{K:Params->W.Frag}(hn:l.most=some 63)(J:d.params.defaults=[])
  (U:∀(w:Pp) (h:Ph),YP w h->(K w.params).In h)
  (F:∀(w:Pp) (mg:Pa->Option OK) (O:OL) (h:Ph),(K w.params).In h->h.Ns OX mg->mg d.name=some (.ref O)-> ∃fd:Qf,(∀(s:ON) (u:OK),TU s fd ⟨[u],[]⟩ [("_law_script",u)])/\∀base:Ph,(K w.params).In base->base.Ns OX mg->aH l.prog w (K w.params) mg base aC 18 O fd ["_law_script"] (qb<|K w.params)):
  PySem.W.WalkO q loose XP YP l.row.toRowW d [] λf vs=>PySem.call f vs:=
 L2.Ag (n:=63) (k:=18) (x:="_law_script") (CX:=λ_=>aC) (sp:=λw=>qb<|K w.params) hn (by decide) J ⟨rfl,by decide,by decide,rfl⟩ U F (λ_ _ a ns hl _ Z=>⟨a,ns,rfl,Z,hl,λ_=>rfl⟩) λ_ _ _ _ _ z=>z
end Law
open PySem PySem.W PyProof.Rows L2
set_option maxRecDepth 100000 in
set_option maxHeartbeats 0 in
theorem PySem.Challenge.cw_sorthall_k91_whole_one_order_holds : PySem.Challenge.rw_sorthall_k91_whole_one_order.Holds := by
 refine L2.W8 ?_
 k_fill
 refine Law.walk (l:=PySem.Challenge.rw_sorthall_k91_whole_one_order) rfl rfl (λw h Y=>PySem.W.kIn_of Y) ?F
 case F=>
  intro w mg fa h KX G hmg;apply Law.all_mk KX G hmg
  (all_goals try first|k_is|kit_is|(refine' ⟨?qa,?qi,?qF,?qk⟩;(case qa=>k_is);(case qi=>k_is);(case qF=>(refine' Mx ?_ ?_ ?_;all_goals try k_is));(case qk=>k_is))|(refine' ⟨?qa,?qi,?qF,?qk⟩;(case qa=>k_is);(case qi=>k_is);(case qF=>(refine' MT ?_ ?_ ?_ ?_;all_goals try k_is));(case qk=>k_is))|(refine' ⟨?qa,?qF,?qk⟩;(case qa=>k_is);(case qF=>(refine' Mx ?_ ?_ ?_;all_goals try k_is));(case qk=>k_is))|(refine' ⟨?qa,?qF,?qk⟩;(case qa=>k_is);(case qF=>(refine' MT ?_ ?_ ?_ ?_;all_goals try k_is));(case qk=>k_is))|kts_exm|kernel_rfl)
