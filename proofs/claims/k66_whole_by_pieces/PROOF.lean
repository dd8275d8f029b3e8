import PyProof.Rows.All
import Wide.All
import OpenK.AllK
import Wide.FinOn
import Lean
import PyProof.EqAt
import PyProof.EqKinds
import PyProof.TupleCall
import KE.KRevIter
import PyProof.CollectIter
import PyProof.SumWalkG
import KE.KDictOf
import PyProof.IsiH_list
import PyProof.RaisesAny
import PyProof.P3In
import PySem.Challenge.RW_sorthall_k66_whole_by_pieces
local macro_rules | `(tactic| omega)=>`(tactic| first | with_reducible assumption | lia | omega (splitDisjunctions:=true))
set_option Elab.async false
set_option linter.all false
set_option maxRecDepth 100000
open List renaming length_map→yAA,mem_cons_self→yAC,mem_cons_of_mem→yAD,length_append→yAE,mem_cons→yAF,length_cons→yAG,mem_singleton→yAH,getElem?_eq_getElem→yAI,map_append→yAL,getElem?_map→yAM,mem_of_getElem?→yAO,size_toArray→yAP,mem_append_right→yAQ,getElem?_eq_some_iff→yAR,map_cons→yAS,prefix_refl→yAT,length_drop→yAU,append_assoc→yAV,mem_append→yAX,append_nil→yAY,not_mem_nil→yAZ,length_take→yBA,getElem?_append_right→yBC,getElem?_append_left→yBD,length_singleton→yBE,getD_eq_getElem?_getD→yBH,mem_append_left→yBJ,getElem?_eq_none→yBL,length_nil→yBM,mem_map→yBN,take_append_drop→yBO,length_replicate→yBR,drop_eq_getElem_cons→yBU,lookup_cons→yBV,count_append→yBY,length_eq_zero_iff→yBZ,length_range'→yCA,flatten_append→yCB,length_reverse→yCE,map_take→yCF,map_drop→yCG,take_of_length_le→yCH,cons_append→yCI,count_cons→yCJ,count_nil→yCK,getElem?_of_mem→yCN,getElem?_drop→yCO,find?_cons→yCP
open Nat renaming le_refl→yAB,zero_le→yAJ,le_trans→yAK,ne_of_lt→yAN,lt_of_lt_of_le→yAW,le_succ→yBF,sub_self→yBG,lt_irrefl→yBI,lt_succ_self→yBQ,zero_mul→yBS,succ_mul→yBT,min_eq_left→yBX,le_of_lt→yCC,le_of_eq→yCD,le_add_right→yCM
open Bool renaming false_ne_true→yBB,and_eq_true→yBK
open Option renaming map_eq_some_iff→yBP,map_some→yBW
open Array renaming length_toList→yCL
namespace L2
open PySem PySem.W
theorem left_boot {p q:Program} {loose:List Str} {Xt:Shared->Bool} {α:Type} {Yf:Shared->α} {Ya:World->α} {N:Nat} {g0:Bool}
  (z:∀ w:World,(fencedOpening treeTable p w N).map (fun s=>(s.heap,s.gens,s.drawn,s.toks))=some (boot_heap w.params,Array.mk [],boot_drawn,boot_toks))
  (h:∀ (w:World) (os:OsState),(topFrom treeTable p w N ⟨boot_heap w.params,Array.mk [],boot_drawn,boot_toks,os⟩).map (fun s=>(openSeen q loose (importedModules p.main.body) Xt g0 s,Yf s))=some (openGood q loose,Ya w)):LeftO p q loose Xt Yf Ya N g0:=fun w=>by
 obtain ⟨⟨B,gs,d,k,os⟩,e,J⟩:=yBP.mp (z w)
 obtain ⟨rfl,rfl,rfl,rfl⟩:B=boot_heap w.params /\ gs=Array.mk [] /\ d=boot_drawn /\ k=boot_toks:=by simpa using J
 unfold openEnds
 rw [e]
 exact h w os
theorem left_two {p q:Program} {loose:List Str} {Xt:Shared->Bool} {α:Type} {Yf:Shared->α} {Ya:World->α} {N:Nat} {g0:Bool}
  (z:∀ w:World,(fencedOpening treeTable p w N).map (fun s=>(s.heap,s.gens,s.drawn,s.toks))=some (boot_heap w.params,Array.mk [],boot_drawn,boot_toks))
  (h1:∀ (w:World) (os:OsState),(topFrom treeTable p w N ⟨boot_heap w.params,Array.mk [],boot_drawn,boot_toks,os⟩).map (fun s=>openSeen q loose (importedModules p.main.body) Xt g0 s)=some (openGood q loose))
  (h2:∀ (w:World) (os:OsState),(topFrom treeTable p w N ⟨boot_heap w.params,Array.mk [],boot_drawn,boot_toks,os⟩).map (fun s=>Yf s)=some (Ya w)):LeftO p q loose Xt Yf Ya N g0 :=
 left_boot z fun w os=>by
  have a:=h1 w os
  have b:=h2 w os
  generalize topFrom treeTable p w N ⟨boot_heap w.params,Array.mk [],boot_drawn,boot_toks,os⟩=r at a b
  cases r with
  | none=>cases a
  | some s=>exact congrArg some (Prod.ext (Option.some.inj a) (Option.some.inj b))
noncomputable def s0B (w:World) (os:OsState):Shared:=⟨boot_heap w.params,Array.mk [],boot_drawn,boot_toks,os⟩
noncomputable def ofLB:List Obj->Nat->BT->BT
 | [],_,t=>t
 | o::r,n,t=>ofLB r (n+1) (t.ins n o)
noncomputable def sTB (w:World) (os:OsState):SharedT:=⟨ofLB (boot_heap w.params).objs.toList 0 .nil,(boot_heap w.params).objs.size,(boot_heap w.params).life,Array.mk [],boot_drawn,boot_toks,os⟩
noncomputable def topRunQ (p:Program) (w:World) (n₀:Nat) (ann:Option Value):Nat->SharedT->Thread->Option SharedT
 | 0,_,_=>none
 | n+1,s,t=>match through t with
  | true=>some s
  | false=>match PySem.W.Fast.tw6613529449190102663 n₀ ann t with
   | false=>none
   | true=>match PySem.W.Fast.tw10156331382660048174 (PySem.W.Fast.tw11892475500146522536 PySem.W.Fast.tw14364793385576792824) p w s t with
    | some (s',t')=>topRunQ p w n₀ ann n s' t'
    | none=>none
theorem topRunQ_spec {p:Program} {w:World} {z:Nat} {B:Option Value}:∀ {n:Nat} {s s':SharedT} {t:Thread},topRunQ p w z B n s t=some s'->topRun treeTable p w z B n s.abs t=some s'.abs
 | 0,_,_,_,h=>by cases h
 | n+1,s,s',t,h=>by
  unfold topRunQ at h
  rw [<- PySem.W.Fast.te6613529449190102663,<- PySem.W.Fast.te10156331382660048174,<- PySem.W.Fast.te11892475500146522536,<- PySem.W.Fast.te14364793385576792824] at h
  unfold topRun
  cases he:through t with
  | true=>rw [he] at h;cases h;rfl
  | false=>
   rw [he] at h
   cases hk:stepOk z B t with
   | false=>rw [hk] at h;cases h
   | true=>
    rw [hk] at h
    cases hs:stepT (denote treeTable) p w s t with
    | none=>rw [hs] at h;cases h
    | some r=>obtain ⟨s₂,J⟩:=r;rw [hs] at h;rw [stepT_spec hs];exact topRunQ_spec h
set_option maxHeartbeats 0 in
theorem sTB_abs:∀ (w:World) (os:OsState),(sTB w os).abs=s0B w os:=by
 intro w os
 kernel_rfl
set_option maxHeartbeats 0 in
theorem s0B_ns:∀ (w:World) (os:OsState),((s0B w os).heap.isNs mainGlobals && (s0B w os).gens.size == 0)=true:=by
 intro w os
 kernel_rfl
noncomputable def topOkB (p:Program) (s₀ s₁:Shared):Bool:=staticsOk (importedModules p.main.body) s₀.heap s₁.heap && namesBound p s₁.heap && gensDone s₁ && laidKept s₀.heap s₁.heap
theorem via_tree {α:Type} {p:Program} {N:Nat} {F:Shared->α} {G:α} (w:World) (os:OsState)
  (h:(topRunQ p w (s0B w os).heap.objs.size ((s0B w os).heap.nsMap mainGlobals "__annotations__") N (sTB w os) (topStub p)).map (fun s=>(topOkB p (s0B w os) s.abs,F s.abs))=some (true,G)):(topFrom treeTable p w N ⟨boot_heap w.params,Array.mk [],boot_drawn,boot_toks,os⟩).map F=some G:=by
 obtain ⟨s',L,B⟩:=yBP.mp h
 have r:=topRunQ_spec L
 rw [sTB_abs] at r
 obtain ⟨z,J⟩:=Prod.mk.inj B
 show (topFrom treeTable p w N (s0B w os)).map F=some G
 unfold topFrom
 rw [s0B_ns w os]
 dsimp only
 rw [r,Option.bind_some]
 unfold topOkB at z
 rw [z]
 exact congrArg some J
noncomputable def vw (p:Program) (ix:List Nat):Program:={ p with main:={ p.main with body:=ix.filterMap fun i=>p.main.body[i]? } }
noncomputable def Vw:Program:=vw PySem.Challenge.pw_sorthall_k66_whole_by_pieces [0,2,4,5,6,7,8,11,13,16,18,21,22,23,25,29,30,32,34,35,37,38,39,40,41,42,43,44,45,46,47,48,49]
set_option maxHeartbeats 0 in
theorem seen1:∀ (w:World) (os:OsState),(topFrom treeTable PySem.Challenge.pw_sorthall_k66_whole_by_pieces w 7532 ⟨boot_heap w.params,Array.mk [],boot_drawn,boot_toks,os⟩).map (fun s=>openSeen L2.Vw (["stretch_from","filled","by_pile","in_rounds","by_pieces"]:List Str) (importedModules PySem.Challenge.pw_sorthall_k66_whole_by_pieces.main.body) (fun s=>xlAt L2.Vw [] s && recOk (RowW.records (OpenRow.toRowW (OpenLaw.row PySem.Challenge.rw_sorthall_k66_whole_by_pieces))) s) true s)=some (openGood L2.Vw (["stretch_from","filled","by_pile","in_rounds","by_pieces"]:List Str)):=by
 intro w os
 refine via_tree w os ?_
 rw [PySem.W.Fast.te4187177175401517315]
 kernel_rfl
local macro_rules | `(tactic| o_law)=>`(tactic| refine holds_law (by decide +kernel) fun said=>?_)
set_option hygiene false in
local macro_rules | `(tactic| o_head $H)=>`(tactic| (refine holds_open (q:=L2.Vw) (loose:=(["stretch_from","filled","by_pile","in_rounds","by_pieces"]:List Str)) (Xt:=fun s=>xlAt L2.Vw [] s && recOk (RowW.records _) s) (XP:=XL L2.Vw []) (Yf:=Hook.obs $H) (Ya:=Hook.val $H) (YP:=Hook.says $H) (N:=7532) ?hl (Hook.of $H) (Hook.keeps $H) (fun s e=>xl_of s (Bool.and_eq_true_iff.mp e).1) XL.keeps (by rfl) (by rfl) (by rfl) (fun s e=>recFacts_of (Bool.and_eq_true_iff.mp e).2) (by rfl) (by first | assumption | decide +kernel) (by decide +kernel) ⟨rfl,rfl,rfl,rfl,rfl,by decide +kernel⟩ ?hw ?hc;(case hl=>(refine L2.left_two (PySem.W.boot_open (by rfl) (by decide) (fun s=>rfl)) (fun w os=>?h1) (fun w os=>?h2);(case h1=>exact L2.seen1 w os);(case h2=>(refine L2.via_tree w os ?_;kernel_rfl))))))
set_option maxHeartbeats 0 in
open_top hd0 for PySem.Challenge.rw_sorthall_k66_whole_by_pieces
end L2
namespace L2
open PySem PySem.Spec PyProof.Rows
noncomputable abbrev Key:=Sum Int Str
noncomputable def ZFH:Key->Value->Bool
 | .inl k,v=>Value.isInt k v
 | .inr x,v=>Value.isStrOf x v
noncomputable def keyH (w:World):Key->Int
 | .inl k=>hashInt k
 | .inr x=>hashStr w x
theorem ZA2:∀ {k:Key} {v:Value},ZFH k v=true->(∃ i t,k=Sum.inl i /\ v=Value.int i t)∨(∃ x t,k=Sum.inr x /\ v=Value.str x t)
 | .inl i,v,h=>by
  obtain ⟨t,e⟩:=Value.isInt_shape (k:=i) (v:=v) h
  exact .inl ⟨i,t,rfl,e⟩
 | .inr x,v,h=>by
  obtain ⟨t,e⟩:=Value.isStrOf_shape (x:=x) (v:=v) h
  exact .inr ⟨x,t,rfl,e⟩
theorem keyIs_int (i:Int) (t:Tok):ZFH (.inl i) (.int i t)=true:=by simp [ZFH,Value.isInt]
theorem keyIs_str (x:Str) (t:Tok):ZFH (.inr x) (.str x t)=true:=by simp [ZFH,Value.isStrOf]
theorem key_ll (a b:Int):decide ((Sum.inl a:Key)=Sum.inl b)=(a == b):=by
 by_cases e:a=b
 .subst e;simp
 .have h:¬ (Sum.inl a:Key)=Sum.inl b:=fun q=>e (Sum.inl.inj q)
  rw [decide_eq_false h]
  exact (beq_eq_false_iff_ne.mpr e).symm
theorem key_rr (a b:Str):decide ((Sum.inr a:Key)=Sum.inr b)=decide (a=b):=by
 by_cases e:a=b
 .subst e;simp
 .have h:¬ (Sum.inr a:Key)=Sum.inr b:=fun q=>e (Sum.inr.inj q)
  rw [decide_eq_false h,decide_eq_false e]
theorem key_lr (a:Int) (b:Str):decide ((Sum.inl a:Key)=Sum.inr b)=false:=decide_eq_false (fun q=>nomatch q)
theorem key_rl (a:Str) (b:Int):decide ((Sum.inr a:Key)=Sum.inl b)=false:=decide_eq_false (fun q=>nomatch q)
noncomputable def ZAZ (prog:Program) (w:World):PySem.KeyKind prog w Key where
 is:=ZFH
 hash:=keyH w
 inj:=fun v a b ha hb=>by
  rcases ZA2 ha with ⟨i,t,rfl,rfl⟩ | ⟨x,t,rfl,rfl⟩
  .rcases ZA2 hb with ⟨j,u,rfl,e⟩ | ⟨y,u,rfl,e⟩
   .injection e with e1 _;rw [e1]
   .exact nomatch e
  .rcases ZA2 hb with ⟨j,u,rfl,e⟩ | ⟨y,u,rfl,e⟩
   .exact nomatch e
   .injection e with e1 _;rw [e1]
 byValue:=fun k v h=>by
  rcases ZA2 h with ⟨i,t,rfl,rfl⟩ | ⟨x,t,rfl,rfl⟩ <;> rfl
 pyHash:=fun hv h=>by
  rcases ZA2 hv with ⟨i,t,rfl,rfl⟩ | ⟨x,t,rfl,rfl⟩
  .exact wpAny_pyHash_int h
  .exact wpAny_pyHash_str h
 eqBool:=fun hu hv h=>by
  rcases ZA2 hu with ⟨i,t,rfl,rfl⟩ | ⟨x,t,rfl,rfl⟩
  .rcases ZA2 hv with ⟨j,u,rfl,rfl⟩ | ⟨y,u,rfl,rfl⟩
   .rw [key_ll] at h;exact wpAny_eqBool_int h
   .rw [key_lr] at h;exact SeqAt.EqAt.int_str i t y u _ _ _ _ h
  .rcases ZA2 hv with ⟨j,u,rfl,rfl⟩ | ⟨y,u,rfl,rfl⟩
   .rw [key_rl] at h;exact SeqAt.EqAt.str_int x t j u _ _ _ _ h
   .rw [key_rr] at h;exact wpAny_eqBool_str h
 «strs»:=fun k x t v h=>by
  rcases ZA2 h with ⟨i,u,rfl,e⟩ | ⟨y,u,rfl,e⟩
  .exact nomatch e
  .injection e with e1 _
   subst e1
   cases v <;> rfl
theorem mixKind_int (prog:Program) (w:World) (i:Int) (t:Tok):(ZAZ prog w).is (.inl i) (.int i t)=true:=keyIs_int i t
theorem mixKind_str (prog:Program) (w:World) (x:Str) (t:Tok):(ZAZ prog w).is (.inr x) (.str x t)=true:=keyIs_str x t
inductive V where
 | non | bl (b:Bool) | int (i:Int) | str (x:Str) | byt (b:Array UInt8) | flt (b:UInt64) | ref (a:Addr) | ty (n:String)
 deriving DecidableEq
noncomputable def RelV:V->Value->Prop
 | .non,u=>u=Value.none
 | .bl b,u=>u=Value.bool b
 | .int i,u=>∃ t,u=Value.int i t
 | .str x,u=>∃ t,u=Value.str x t
 | .byt b,u=>∃ t,u=Value.bytes b t
 | .flt b,u=>∃ t,u=Value.float b t
 | .ref a,u=>u=Value.ref a
 | .ty n,u=>u=Value.type n
noncomputable abbrev Vals:List V->List Value->Prop:=Paired RelV
theorem Vals.length {xs:List V} {us:List Value} (r:Vals xs us):xs.length=us.length:=Paired.length r
theorem Vals.get:∀ {xs:List V} {us:List Value} {i:Nat} {x:V},Vals xs us->xs[i]?=some x->∃ u,us[i]?=some u /\ RelV x u
 | _,_,_,_,.nil,e=>by simp at e
 | _,_,0,_,.cons r _,e=>by simp at e;subst e;exact ⟨_,rfl,r⟩
 | _,_,i+1,x,.cons _ t,e=>by
  obtain ⟨u,h1,h2⟩:=Vals.get (i:=i) (x:=x) t (by simpa using e)
  exact ⟨u,by simpa using h1,h2⟩
theorem Vals.set {x:V} {u:Value} (r:RelV x u):∀ {xs:List V} {us:List Value} (i:Nat),Vals xs us->Vals (xs.set i x) (us.set i u)
 | _,_,_,.nil=>.nil
 | _,_,0,.cons _ t=>.cons r t
 | _,_,i+1,.cons q t=>.cons q (Vals.set r i t)
theorem Vals.append:∀ {xs ys:List V} {us ws:List Value},Vals xs us->Vals ys ws->Vals (xs++ys) (us++ws)
 | _,_,_,_,.nil,s=>s
 | _,_,_,_,.cons r t,s=>.cons r (Vals.append t s)
theorem Vals.take:∀ {xs:List V} {us:List Value} (n:Nat),Vals xs us->Vals (xs.take n) (us.take n)
 | _,_,0,_=>.nil
 | _,_,_+1,.nil=>.nil
 | _,_,n+1,.cons r t=>.cons r (Vals.take n t)
theorem Vals.drop:∀ {xs:List V} {us:List Value} (n:Nat),Vals xs us->Vals (xs.drop n) (us.drop n)
 | _,_,0,r=>r
 | _,_,_+1,.nil=>.nil
 | _,_,n+1,.cons _ t=>Vals.drop n t
noncomputable def RelO:Option V->Option Value->Prop
 | some v,some u=>RelV v u
 | none,none=>True
 | _,_=>False
noncomputable def KV {κ:Type}:List (κ×V)->List (κ×Value)->Prop:=Paired fun (p:κ×V) (q:κ×Value)=>p.1=q.1 /\ RelV p.2 q.2
noncomputable def kV:Key->V
 | .inl i=>.int i
 | .inr x=>.str x
inductive HO where
 | lst (xs:List V)
 | tup (xs:List V)
 | dK (kvs:List (Key×V)) | dT (kvs:List (List Key×V))
 | set (S:Int->Bool) (n:Nat)
 | ins (C dx:Addr) (fs:List (Str×V))
 | own (x:Addr)
 | xd (fs:List (Str×V))
 | met (f x:Addr)
 | rng (lo hi:Int)
 | frz (o:Obj) (u:HO)
 | tbl (ps:Array Value)
 | ext (φ:Heap->Prop)
noncomputable abbrev Hp:=Addr->Option HO
noncomputable def upd (H:Hp) (a:Addr) (o:HO):Hp:=fun b=>if b=a then some o else H b
theorem ZAF {H:Hp} {a:Addr} {o:HO}:upd H a o a=some o:=by unfold upd;rw [if_pos rfl]
theorem ZAI {H:Hp} {a b:Addr} {o:HO} (h:b≠a):upd H a o b=H b:=by unfold upd;rw [if_neg h]
theorem ZDa {H:Hp} {a:Addr} {o u:HO}:upd (upd H a o) a u=upd H a u:=by
 funext b;unfold upd;split <;> rfl
theorem ne_of {H:Hp} {a b:Addr} {o u:HO} (h:H a=some o) (h':H b=some u) (d:o≠u):a≠b:=by
 intro e;subst e;rw [h] at h';exact d (Option.some.inj h')
theorem ZAE {H:Hp} {a b:Addr} {o:HO} (h:H a=some o) (h':H b=none):a≠b:=by
 intro e;subst e;rw [h] at h';cases h'
section
variable (P:Program) (w:World)
noncomputable def ObjOk (H:Hp) (h:Heap) (a:Addr):HO->Prop
 | .lst xs=>xs.length <= sizeLine /\ ∃ (its:List Value) (n:Nat),Vals xs its /\ h.get? a=some { cls:=.type "list",data:=.seq its.toArray n }
 | .tup xs=>xs.length <= sizeLine /\ ∃ its:List Value,Vals xs its /\ IsTup h a its.toArray
 | .dK kvs=>kvs.length <= sizeLine /\ (a == sysModules)=false /\ ∃ vs,KV kvs vs /\ h.DictOf (ZAZ P w) a vs
 | .dT kvs=>kvs.length <= sizeLine /\ (a == sysModules)=false /\ ∃ xs:List (List Key×Addr×Value),
   Paired (fun (p:List Key×V) (q:List Key×Addr×Value)=>p.1=q.1 /\ H q.2.1=some (.tup (p.1.map kV)) /\ RelV p.2 q.2.2) kvs xs /\
   ∃ o es ep,h.get? a=some o /\ o.ExactDict /\ o.data=.dict es ep /\ es.toList=xs.map (entryOfKey (tupleKind (ZAZ P w))) /\ (xs.map (·.1)).Nodup
 | .set S n=>h.SetOf (intKind P w) a S n
 | .ins C dx fs=>H dx=some (.own a) /\ fs.length <= 1000 /\ dx≠a /\ h.get? a=some (PySem.W.instObj C dx) /\
   ∃ mA,h.Ns1 dx mA /\ (∀ f,RelO (fs.lookup f) (mA f)) /\ PySem.Within mA (fs.map (·.1))
 | .own _=>∃ o,h.get? a=some o
 | .xd fs=>∃ mA,h.Ns1 a mA /\ ∀ f,RelO (fs.lookup f) (mA f)
 | .rng lo hi=>∃ t u v,h.get? a=some { cls:=.type "range",data:=.fields #[.int lo t,.int hi u,.int 1 v] }
 | .frz o u=>h.get? a=some o /\ ObjOk H h a u
 | .tbl ps=>h.get? a=some { cls:=.none,data:=.fields ps }
 | .met f x=>h.get? a=some (PySem.W.methodObj (.ref f) (.ref x))
 | .ext φ=>φ h /\ (∃ o,h.get? a=some o) /\ ∀ h1 h2:Heap,φ h1->(∀ o,h1.get? a=some o->h2.get? a=some o)->φ h2
noncomputable def HOk (H:Hp) (h:Heap):Prop:=∀ a o,H a=some o->ObjOk P w H h a o
end
section
variable {P:Program} {w:World} {H H':Hp} {h h':Heap} {a:Addr} {o:HO}
theorem ObjOk.lt (x:ObjOk P w H h a o):a < h.objs.size:=by
 cases o with
 | lst xs=>obtain ⟨_,_,_,_,e⟩:=x;exact Heap.lt_size e
 | tup xs=>obtain ⟨_,_,_,p⟩:=x;exact p.lt
 | dK kvs=>obtain ⟨_,_,_,_,o,_,_,e,_⟩:=x;exact Heap.lt_size e
 | dT kvs=>obtain ⟨_,_,_,_,o,_,_,e,_⟩:=x;exact Heap.lt_size e
 | set S n=>obtain ⟨o,_,_,_,e,_⟩:=x;exact Heap.lt_size e
 | ins C dx fs=>obtain ⟨_,_,_,e,_⟩:=x;exact Heap.lt_size e
 | own y=>obtain ⟨_,e⟩:=x;exact Heap.lt_size e
 | xd fs=>obtain ⟨_,⟨_,_,_,e,_⟩,_⟩:=x;exact Heap.lt_size e
 | rng lo hi=>obtain ⟨_,_,_,e⟩:=x;exact Heap.lt_size e
 | frz ob u=>obtain ⟨e,_⟩:=x;exact Heap.lt_size e
 | tbl ps=>exact Heap.lt_size (show h.get? a=some _ from x)
 | met f y=>exact Heap.lt_size (show h.get? a=some _ from x)
 | ext φ=>obtain ⟨_,⟨_,e⟩,_⟩:=x;exact Heap.lt_size e
theorem Paired.mapP {α z:Type} {F G:α->z->Prop}:∀ {l₁:List α} {l₂:List z},Paired F l₁ l₂->(∀ a b,F a b->G a b)->Paired G l₁ l₂
 | _,_,.nil,_=>.nil
 | _,_,.cons r t,f=>.cons (f _ _ r) (Paired.mapP t f)
theorem ObjOk.stay (x:ObjOk P w H h a o) (k:∀ b u,(b=a∨H b=some (.own a))->h.get? b=some u->h'.get? b=some u)
  (J:∀ b,H b=some (.own a)->H' b=some (.own a)) (O:∀ b xs,H b=some (.tup xs)->H' b=some (.tup xs)):ObjOk P w H' h' a o:=by
 induction o with
 | lst xs=>obtain ⟨z,its,n,r,e⟩:=x;exact ⟨z,its,n,r,k _ _ (.inl rfl) e⟩
 | tup xs=>obtain ⟨z,its,r,ob,e,c⟩:=x;exact ⟨z,its,r,ob,k _ _ (.inl rfl) e,c⟩
 | dK kvs=>obtain ⟨z,y,vs,r,ob,es,B,e,c⟩:=x;exact ⟨z,y,vs,r,ob,es,B,k _ _ (.inl rfl) e,c⟩
 | dT kvs=>
  obtain ⟨z,y,xs,r,ob,es,B,e,c⟩:=x
  exact ⟨z,y,xs,Paired.mapP r fun p q z=>⟨z.1,O _ _ z.2.1,z.2.2⟩,ob,es,B,k _ _ (.inl rfl) e,c⟩
 | set S n=>obtain ⟨ob,es,B,t,e,c⟩:=x;exact ⟨ob,es,B,t,k _ _ (.inl rfl) e,c⟩
 | ins C dx fs=>
  obtain ⟨d,z,ne,e,mA,⟨od,es,B,L,c⟩,r⟩:=x
  exact ⟨J _ d,z,ne,k _ _ (.inl rfl) e,mA,⟨od,es,B,k _ _ (.inr d) L,c⟩,r⟩
 | own y=>obtain ⟨ob,e⟩:=x;exact ⟨ob,k _ _ (.inl rfl) e⟩
 | xd fs=>obtain ⟨mA,⟨od,es,B,e,c⟩,r⟩:=x;exact ⟨mA,⟨od,es,B,k _ _ (.inl rfl) e,c⟩,r⟩
 | rng lo hi=>obtain ⟨t,u,v,e⟩:=x;exact ⟨t,u,v,k _ _ (.inl rfl) e⟩
 | frz ob u ih=>obtain ⟨e,q⟩:=x;exact ⟨k _ _ (.inl rfl) e,ih q⟩
 | tbl ps=>
  have e:h.get? a=some { cls:=.none,data:=.fields ps }:=x
  show h'.get? a=some { cls:=.none,data:=.fields ps }
  exact k a _ (.inl rfl) e
 | met f y=>
  have e:h.get? a=some (PySem.W.methodObj (.ref f) (.ref y)):=x
  show h'.get? a=some (PySem.W.methodObj (.ref f) (.ref y))
  exact k a _ (.inl rfl) e
 | ext φ=>obtain ⟨p,⟨o,e⟩,st⟩:=x;exact ⟨st _ _ p fun o q=>k _ _ (.inl rfl) q,⟨o,k _ _ (.inl rfl) e⟩,st⟩
theorem HOk.lt (x:HOk P w H h) (e:H a=some o):a < h.objs.size:=(x a o e).lt
theorem HOk.fresh (x:HOk P w H h) (e:h.objs.size <= a):H a=none:=by
 cases q:H a with
 | none=>rfl
 | some u=>exact absurd (yAW (x.lt q) e) (yBI _)
theorem HOk.kept (x:HOk P w H h) (k:∀ b u,h.get? b=some u->h'.get? b=some u):HOk P w H h':=fun a o e=>
 (x a o e).stay (fun b u _ q=>k b u q) (fun _ q=>q) fun _ _ q=>q
theorem HOk.laid (x:HOk P w H h) (k:∀ b u,h.get? b=some u->h'.get? b=some u) (z:h.objs.size <= a) (new:ObjOk P w (upd H a o) h' a o):HOk P w (upd H a o) h':=fun b u e=>by
 have hn:=x.fresh z
 by_cases hb:b=a
 .subst hb;rw [ZAF] at e;cases e;exact new
 .rw [ZAI hb] at e
  exact (x b u e).stay (fun c v _ q=>k c v q) (fun c q=>by rw [ZAI (ZAE q hn)];exact q) fun c xs q=>by rw [ZAI (ZAE q hn)];exact q
end
noncomputable def Rd (H:Hp) (a:Addr) (u:HO):Prop:=H a=some u∨∃ o,H a=some (.frz o u)
theorem Rd.ok {P:Program} {w:World} {H:Hp} {h:Heap} {a:Addr} {u:HO} (r:Rd H a u) (x:HOk P w H h):ObjOk P w H h a u:=by
 rcases r with r | ⟨o,r⟩
 .exact x a u r
 .obtain ⟨_,q⟩:=x a _ r
  exact q
noncomputable def Mut:Option HO->Prop
 | some (.lst _)=>True
 | some (.dK _)=>True
 | some (.dT _)=>True
 | some (.set _ _)=>True
 | some (.ins _ _ _)=>True
 | some (.ext _)=>True
 | _=>False
section
variable {P:Program} {w:World} {H:Hp} {h h':Heap} {x e:Addr} {o':HO}
theorem HOk.write (ok:HOk P w H h) (L:Mut (H x)) (U:e=x∨H e=some (.own x)) (k:∀ b u,b≠e->h.get? b=some u->h'.get? b=some u) (O:∃ u,h'.get? e=some u)
  (new:ObjOk P w (upd H x o') h' x o'):HOk P w (upd H x o') h':=fun b u q=>by
 have B:∀ c y,H c=some (.own y)->c≠x:=fun c y r z=>by subst z;rw [r] at L;exact L
 have J:∀ c xs,H c=some (.tup xs)->c≠x:=fun c xs r z=>by subst z;rw [r] at L;exact L
 by_cases hb:b=x
 .subst hb;rw [ZAF] at q;cases q;exact new
 .rw [ZAI hb] at q
  by_cases hbe:b=e
  .have q':H b=some (.own x):=by
    rcases U with z | z
    .exact absurd (hbe.trans z) hb
    .rw [hbe];exact z
   rw [q] at q';cases q'
   obtain ⟨v,Y⟩:=O
   exact ⟨v,by rw [hbe];exact Y⟩
  .refine (ok b u q).stay (fun c v hc r=>k c v ?_ r) (fun c r=>by rw [ZAI (B c b r)];exact r) fun c xs r=>by rw [ZAI (J c xs r)];exact r
   rcases hc with rfl | hc
   .exact hbe
   .rintro rfl
    rcases U with z | z
    .exact B c b hc z
    .rw [hc] at z;cases z;exact hb rfl
end
structure Un (fs ex:List Addr) (H H':Hp) (h h':Heap):Prop where
 keep:∀ b o,h.get? b=some o->H b=none->b∉fs->b∉ex->h'.get? b=some o
 slot:∀ b o,h.get? b=some o->H b=none->b∈fs->b∉ex->∃ sl,h'.get? b=some { o with slots:=sl }
 free:∀ b o,h.get? b=some o->H b=none->b∉ex->H' b=none
 there:∀ b o,h.get? b=some o->b∉ex->∃ o',h'.get? b=some o'
 tups:∀ b xs,H b=some (.tup xs)->H' b=some (.tup xs)
 frzs:∀ b o u,H b=some (.frz o u)->H' b=some (.frz o u)
 tbls:∀ b ps,H b=some (.tbl ps)->∃ more,H' b=some (.tbl (ps++more))
section
variable {fs fs' ex ex':List Addr} {H H1 H2:Hp} {h h1 h2 h':Heap} {a x e:Addr} {o:HO}
theorem Un.any (u:Un fs ex H H1 h h1) {b:Addr} {ob:Obj} (q:h.get? b=some ob) (n:H b=none) (z:b∉ex):∃ sl,h1.get? b=some { ob with slots:=sl }:=by
 by_cases hb:b∈fs
 .exact u.slot b ob q n hb z
 .exact ⟨ob.slots,u.keep b ob q n hb z⟩
theorem Un.kept (k:∀ b u,h.get? b=some u->h'.get? b=some u):Un fs ex H H h h' :=
 ⟨fun b ob q _ _ _=>k b ob q,fun b ob q _ _ _=>⟨ob.slots,k b ob q⟩,fun _ _ _ n _=>n,fun b ob q _=>⟨ob,k b ob q⟩,fun _ _ q=>q,fun _ _ _ q=>q,fun _ ps q=>⟨#[],by rw [q];simp⟩⟩
theorem Un.refl:Un fs ex H H h h:=Un.kept fun _ _ q=>q
theorem Un.laid (k:∀ b u,h.get? b=some u->h'.get? b=some u) (z:h.objs.size <= a) (hn:H a=none):Un fs ex H (upd H a o) h h' where
 keep:=fun b u q _ _ _=>k b u q
 slot:=fun b u q _ _ _=>⟨u.slots,k b u q⟩
 free:=fun b u q n _=>by rw [ZAI (yAN (yAW (Heap.lt_size q) z))];exact n
 there:=fun b u q _=>⟨u,k b u q⟩
 tups:=fun b xs q=>by rw [ZAI (ZAE q hn)];exact q
 frzs:=fun b u xs q=>by rw [ZAI (ZAE q hn)];exact q
 tbls:=fun b ps q=>⟨#[],by rw [ZAI (ZAE q hn),q];simp⟩
theorem Un.write (B:Mut (H x)) (U:e=x∨H e=some (.own x)) (k:∀ b u,b≠e->h.get? b=some u->h'.get? b=some u) (J:∃ u,h'.get? e=some u):Un fs ex H (upd H x o) h h':=by
 have O:∀ b,H b=none->b≠x:=fun b n z=>by subst z;rw [n] at B;exact B
 have L:∀ b,H b=none->b≠e:=fun b n z=>by
  subst z
  rcases U with r | r
  .exact O b n r
  .rw [n] at r;cases r
 have hm:∀ b u,H b=some u->¬ Mut (some u)->b≠x:=fun b u q nm z=>by subst z;rw [q] at B;exact nm B
 refine ⟨fun b u q n _ _=>k b u (L b n) q,fun b u q n _ _=>⟨u.slots,k b u (L b n) q⟩,fun b u q n _=>by rw [ZAI (O b n)];exact n,fun b u q _=>?_,
  fun b xs q=>by rw [ZAI (hm b _ q fun z=>z)];exact q,fun b u xs q=>by rw [ZAI (hm b _ q fun z=>z)];exact q,fun b ps q=>⟨#[],by rw [ZAI (hm b _ q fun z=>z),q];simp⟩⟩
 by_cases hbe:b=e
 .subst hbe;exact J
 .exact ⟨u,k b u hbe q⟩
end
noncomputable def trk (h:Heap) (H:Hp):List Addr:=(List.range h.objs.size).filter fun a=>(H a).isSome
noncomputable def hidT (h:Heap) (H:Hp):Heap:=PySem.W.hideAll h (trk h H)
theorem hidT_size (h:Heap) (H:Hp):(hidT h H).objs.size=h.objs.size:=PySem.W.hideAll_size _ _
theorem hidT_get {h:Heap} {H:Hp} {b:Addr} {o:Obj} (e:h.get? b=some o) (n:H b=none):(hidT h H).get? b=some o :=
 PySem.W.hideAll_get _ e fun hm=>by
  have q:(H b).isSome=true:=(List.mem_filter.mp hm).2
  rw [n] at q;simp at q
theorem of_hidT {h:Heap} {H:Hp} {b:Addr} {o:Obj} (e:(hidT h H).get? b=some o):h.get? b=some o /\ H b=none:=by
 have B:h.get? b=some o:=PySem.W.of_hideAll (trk h H) e
 refine ⟨B,?_⟩
 cases q:H b with
 | none=>rfl
 | some x=>
  have hm:b∈trk h H:=List.mem_filter.mpr ⟨List.mem_range.mpr (Heap.lt_size B),by simp [q]⟩
  have z:(hidT h H).get? b=none:=PySem.W.hideAll_none (trk h H) hm
  rw [z] at e;cases e
structure Mod (K:W.Frag) (mg:Str->Option Value) (base:Heap):Prop where
 kin:K.In base
 glob:base.Ns mainGlobals mg
 blt:∃ mb,base.Ns builtinsNs mb /\ ∀ x:Str,x≠"__name__"->mb x=bootBuiltins x
 nolimit:base.NoLimit
structure Cx where
 prog:Program
 w:World
 K:W.Frag
 mg:Str->Option Value
 base:Heap
 A:Around
 N:List Str
 s₀:Shared
 H₀:Hp
 env:Env
 outer:List Env
 stack:List Env
 ex:List Addr
 fn:Str->Bool
 calm:Bool
 pn:List (Addr×Obj)
 xe:Value->Shared->Prop
noncomputable def frs (l:List Env):List Addr:=l.filterMap (·.frame)
noncomputable abbrev Cx.fs (X:Cx):List Addr:=frs X.outer
noncomputable def Vis (sc:Scope) (x:Str):Prop:=sc.names.lookup x=some .local∨sc.names.lookup x=some .cell∨sc.names.lookup x=some .free
noncomputable def Loc (sc:Scope) (x:Str):Prop:=sc.names.lookup x=some .local∨sc.names.lookup x=some .cell
noncomputable def Look (env:Env) (h:Heap) (m:Str->Option Value) (x:Str) (u:Value):Prop :=
 (env.kindOf x=some .local /\ m x=some u)∨((env.kindOf x=some .cell∨env.kindOf x=some .free) /\ ∃ c,env.cells.lookup x=some c /\ h.IsCell c (some u))
structure Cx.Ok (X:Cx):Prop where
 mod:Mod X.K X.mg X.base
 kind:X.env.scope.kind=.function
 glob:X.env.globals=mainGlobals
 blt:X.env.builtins=builtinsNs
 above:X.s₀.heap.objs.size <= X.env.locals
 inj:∀ x y c,X.env.cells.lookup x=some c->X.env.cells.lookup y=some c->x=y
 has:∀ x,(X.env.kindOf x=some .cell∨X.env.kindOf x=some .free)->∃ c,X.env.cells.lookup x=some c
 cab:∀ x c,X.fn x=true->X.env.cells.lookup x=some c->X.s₀.heap.objs.size <= c
 hd:X.calm=true->X.A.handled=none
 frames:X.A.frames=some X.stack
 stk:X.stack=X.outer∨(X.stack=X.env::X.outer /\ X.env.frame=some X.env.locals)
 exf:∀ b∈X.ex,b≠X.env.locals /\ ∀ x c,X.env.cells.lookup x=some c->c≠b
 bs:∀ b o,X.base.get? b=some o->X.s₀.heap.get? b=some o /\ X.H₀ b=none
 bsz:X.base.objs.size <= X.s₀.heap.objs.size
 noex:∀ b o,X.base.get? b=some o->b∉X.ex
 exfs:∀ b∈X.ex,b∉X.fs
 funs:X.s₀.heap.FunFrames X.base X.outer
 frf:∀ b∈X.fs,X.H₀ b=none
structure Inv (X:Cx) (pins:List (Addr×Obj)) (σ:List (Option V)) (H:Hp) (s:Shared):Prop where
 ok:X.Ok
 os:s.os=X.s₀.os
 bare:AllBare s.gens
 base:Un X.fs X.ex X.H₀ H X.s₀.heap s.heap
 loc:∃ m,s.heap.Ns X.env.locals m /\ ∀ (i:Nat) (x:Str) (v:V),X.N[i]?=some x->σ[i]?=some (some v)->Vis X.env.scope x->∃ u,RelV v u /\ Look X.env s.heap m x u
 cell:∀ x c,X.env.cells.lookup x=some c->∃ v,s.heap.IsCell c v
 free:H X.env.locals=none
 freeC:∀ x c,X.env.cells.lookup x=some c->H c=none
 pin:∀ p∈X.pn++pins,s.heap.get? p.1=some p.2 /\ H p.1=none /\ p.1≠X.env.locals /\ p.1∉X.fs /\ ∀ v,p.2.data≠.cell v
 hok:HOk X.prog X.w H s.heap
 len:σ.length=X.N.length
section
variable {X:Cx} {pins:List (Addr×Obj)} {σ:List (Option V)} {H H':Hp} {s:Shared} {h':Heap}
theorem Cx.Ok.nofr (ok:X.Ok) {b:Addr} {o:Obj} (e:X.base.get? b=some o):b∉X.fs:=fun z=>by
 have:=(ok.funs.mem z).1
 rw [e] at this;cases this
theorem Inv.bs (I:Inv X pins σ H s):∀ b o,X.base.get? b=some o->s.heap.get? b=some o /\ H b=none:=fun b o e=>
 ⟨I.base.keep b o (I.ok.bs b o e).1 (I.ok.bs b o e).2 (I.ok.nofr e) (I.ok.noex b o e),I.base.free b o (I.ok.bs b o e).1 (I.ok.bs b o e).2 (I.ok.noex b o e)⟩
theorem Inv.bk (I:Inv X pins σ H s):∀ b o,X.base.get? b=some o->s.heap.get? b=some o:=fun b o e=>(I.bs b o e).1
theorem Inv.mod (I:Inv X pins σ H s):Mod X.K X.mg X.base:=I.ok.mod
theorem Inv.kIn (I:Inv X pins σ H s):X.K.In s.heap:=I.ok.mod.kin.keeps I.bk
theorem Inv.lt (I:Inv X pins σ H s):X.env.locals < s.heap.objs.size:=let ⟨_,hn,_⟩:=I.loc;hn.lt
theorem Inv.sz (I:Inv X pins σ H s):X.s₀.heap.objs.size <= s.heap.objs.size:=yAK I.ok.above (yCC I.lt)
theorem Inv.nofs (I:Inv X pins σ H s) {a:Addr} (h:s.heap.objs.size <= a):a∉X.fs:=fun z=>by
 obtain ⟨_,o,B,_⟩:=I.ok.funs.mem z
 exact absurd (yAW (Heap.lt_size B) (yAK I.sz h)) (yBI _)
theorem Inv.cne (I:Inv X pins σ H s):∀ x c,X.env.cells.lookup x=some c->c≠X.env.locals:=fun x c e z=>by
 obtain ⟨v,o,O,L⟩:=I.cell x c e
 obtain ⟨m,⟨o',es,U,B,J,_⟩,_⟩:=I.loc
 rw [z,B] at O;cases O;rw [J] at L;cases L
theorem Inv.funs (I:Inv X pins σ H s):s.heap.FunFrames X.base X.outer:=by
 have all:∀ (l:List Env),(∀ b∈frs l,b∈X.fs)->X.s₀.heap.FunFrames X.base l->s.heap.FunFrames X.base l:=by
  intro l
  induction l with
  | nil=>intro _ _;trivial
  | cons env r ih=>
   intro U hl
   obtain ⟨hk,⟨L,o,O,hn,Z,hd⟩,Y⟩:=hl
   have J:L∈X.fs:=U L (by unfold frs;rw [List.filterMap_cons,O];exact yAC)
   obtain ⟨sl,e⟩:=I.base.slot L o Z (I.ok.frf L J) J fun z=>I.ok.exfs L z J
   exact ⟨hk,⟨L,_,O,hn,e,hd⟩,ih (fun b B=>U b (by unfold frs;rw [List.filterMap_cons,O];exact yAD _ B)) Y⟩
 exact all X.outer (fun _ B=>B) I.ok.funs
theorem Inv.stack (I:Inv X pins σ H s):s.heap.FunFrames X.base X.stack:=by
 rcases I.ok.stk with e | ⟨e,z⟩
 .rw [e];exact I.funs
 .rw [e]
  obtain ⟨m,hn,_⟩:=I.loc
  refine .cons (by rw [I.ok.kind];decide) z hn ?_ I.funs
  exact Heap.get?_none_of_le (yAK I.ok.bsz I.ok.above)
theorem Inv.stkSub (I:Inv X pins σ H s):∀ b∈frs X.stack,b∈X.env.locals::X.fs:=fun b z=>by
 rcases I.ok.stk with e | ⟨e,B⟩
 .rw [e] at z;exact yAD _ z
 .rw [e] at z
  unfold frs at z
  rw [List.filterMap_cons,B] at z
  exact z
theorem Inv.stkFree (I:Inv X pins σ H s):∀ b∈frs X.stack,H b=none:=fun b B=>by
 rcases yAF.mp (I.stkSub b B) with e | B
 .rw [e];exact I.free
 .obtain ⟨_,o,J,_⟩:=I.ok.funs.mem B
  exact I.base.free b o J (I.ok.frf b B) fun z=>I.ok.exfs b z B
theorem Inv.step {g':Array GenState} {t':Nat} {d':Drawn} {ch:List Addr} (I:Inv X pins σ H s)
  (L:∀ b∈ch,(b∈X.ex∨X.s₀.heap.objs.size <= b) /\ b≠X.env.locals /\ (∀ x c,X.env.cells.lookup x=some c->c≠b) /\ ∀ p∈X.pn++pins,p.1≠b)
  (keep:∀ b o,b≠X.env.locals->b∉X.fs->b∉ch->s.heap.get? b=some o->H b=none->h'.get? b=some o)
  (slot:∀ b o,b≠X.env.locals->b∈X.fs->b∉ch->s.heap.get? b=some o->H b=none->∃ sl,h'.get? b=some { o with slots:=sl }) (free:∀ b o,b∉ch->s.heap.get? b=some o->H b=none->H' b=none)
  (there:∀ b o,b∉ch->s.heap.get? b=some o->∃ o',h'.get? b=some o')
  (tups:∀ b xs,H b=some (.tup xs)->H' b=some (.tup xs)) (frzs:∀ b o u,H b=some (.frz o u)->H' b=some (.frz o u)) (tbls:∀ b ps,H b=some (.tbl ps)->∃ a1,H' b=some (.tbl (ps++a1)))
  (ns:∀ m,s.heap.Ns X.env.locals m->h'.Ns X.env.locals m) (a2:HOk X.prog X.w H' h') (hg:AllBare g') :
  Inv X pins σ H' { s with heap:=h',gens:=g',drawn:=d',toks:=t' }:=by
 have a0:∀ b o,X.s₀.heap.get? b=some o->b≠X.env.locals:=fun b o e=>yAN (yAW (Heap.lt_size e) I.ok.above)
 have U:∀ b o,X.s₀.heap.get? b=some o->b∉X.ex->b∉ch:=fun b o e B Z=>by
  rcases (L b Z).1 with z | z
  .exact B z
  .exact absurd (yAW (Heap.lt_size e) z) (yBI _)
 have J:∀ x c,X.env.cells.lookup x=some c->∀ v,s.heap.IsCell c v->h'.IsCell c v:=fun x c e v ⟨o,ho,hd⟩=>by
  have O:c∉ch:=fun z=>(L c z).2.2.1 x c e rfl
  by_cases hc:c∈X.fs
  .obtain ⟨sl,q⟩:=slot c o (I.cne x c e) hc O ho (I.freeC x c e)
   exact ⟨_,q,hd⟩
  .exact ⟨o,keep c o (I.cne x c e) hc O ho (I.freeC x c e),hd⟩
 refine ⟨I.ok,I.os,hg,⟨fun b o e n Z B=>?_,fun b o e n Z B=>?_,fun b o e n B=>?_,fun b o e B=>?_,fun b xs e=>tups b xs (I.base.tups b xs e),fun b o xs e=>frzs b o xs (I.base.frzs b o xs e),fun b ps e=>?_⟩,?_,fun x c e=>?_,?_,fun x c e=>?_,fun p hp=>?_,a2,I.len⟩
 .exact keep b o (a0 b o e) Z (U b o e B) (I.base.keep b o e n Z B) (I.base.free b o e n B)
 .obtain ⟨sl,Y⟩:=I.base.slot b o e n Z B
  obtain ⟨a3,e2⟩:=slot b _ (a0 b o e) Z (U b o e B) Y (I.base.free b o e n B)
  exact ⟨a3,e2⟩
 .obtain ⟨o',Y⟩:=I.base.there b o e B
  exact free b o' (U b o e B) Y (I.base.free b o e n B)
 .obtain ⟨o',Y⟩:=I.base.there b o e B
  exact there b o' (U b o e B) Y
 .obtain ⟨m1,Y⟩:=I.base.tbls b ps e
  obtain ⟨m2,e2⟩:=tbls b _ Y
  exact ⟨m1++m2,by rw [e2,Array.append_assoc]⟩
 .obtain ⟨m,hn,hl⟩:=I.loc
  refine ⟨m,ns m hn,fun i x v Y e2 e3=>?_⟩
  obtain ⟨u,r,l⟩:=hl i x v Y e2 e3
  refine ⟨u,r,?_⟩
  rcases l with l | ⟨k,c,e,z⟩
  .exact .inl l
  .exact .inr ⟨k,c,e,J x c e _ z⟩
 .obtain ⟨v,z⟩:=I.cell x c e
  exact ⟨v,J x c e v z⟩
 .obtain ⟨m,⟨o,_,_,ho,_⟩,_⟩:=I.loc
  exact free _ o (fun z=>(L _ z).2.1 rfl) ho I.free
 .obtain ⟨v,o,ho,hd⟩:=I.cell x c e
  exact free c o (fun z=>(L c z).2.2.1 x c e rfl) ho (I.freeC x c e)
 .obtain ⟨e,n,ne,nf,d⟩:=I.pin p hp
  have O:p.1∉ch:=fun z=>(L p.1 z).2.2.2 p hp rfl
  exact ⟨keep p.1 p.2 ne nf O e n,free p.1 p.2 O e n,ne,nf,d⟩
theorem Inv.un {t':Nat} (I:Inv X pins σ H s) (u:Un X.fs [] H H' s.heap h') (L:HOk X.prog X.w H' h'):Inv X pins σ H' { s with heap:=h',toks:=t' }:=by
 obtain ⟨m,⟨o,es,ep,Y,r⟩,_⟩:=id I.loc
 obtain ⟨sl,Z⟩:=u.any Y I.free (by simp)
 exact I.step (g':=s.gens) (d':=s.drawn) (ch:=[]) (fun _ z=>nomatch z) (fun b o _ J _ e n=>u.keep b o e n J (by simp)) (fun b o _ J _ e n=>u.slot b o e n J (by simp)) (fun b o _ e n=>u.free b o e n (by simp)) (fun b o _ e=>u.there b o e (by simp)) u.tups u.frzs u.tbls (fun m' hm=>by
  obtain ⟨o',O,U,B,r'⟩:=hm
  rw [Y] at B;cases B
  exact ⟨_,O,U,Z,r'⟩) L I.bare
theorem Inv.call {g':Array GenState} {t':Nat} {d':Drawn} {ch:List Addr} (I:Inv X pins σ H s) (u:Un (frs X.stack) ch H H' s.heap h') (O:HOk X.prog X.w H' h') (hg:AllBare g')
  (B:∀ b∈ch,(b∈X.ex∨X.s₀.heap.objs.size <= b) /\ b≠X.env.locals /\ (∀ x c,X.env.cells.lookup x=some c->c≠b) /\ ∀ p∈X.pn++pins,p.1≠b) :
  Inv X pins σ H' { s with heap:=h',gens:=g',drawn:=d',toks:=t' }:=by
 obtain ⟨m,⟨o,es,ep,Z,r⟩,_⟩:=id I.loc
 obtain ⟨sl,L⟩:=u.any Z I.free fun z=>(B _ z).2.1 rfl
 exact I.step (ch:=ch) B (fun b o L hb hc e n=>u.keep b o e n (fun z=>(yAF.mp (I.stkSub b z)).elim L hb) hc) (fun b o _ _ hc e n=>u.any e n hc) (fun b o hc e n=>u.free b o e n hc) (fun b o hc e=>u.there b o e hc) u.tups u.frzs u.tbls (fun m' hm=>by
  obtain ⟨o',U,Y,J,r'⟩:=hm
  rw [Z] at J;cases J
  exact ⟨_,U,Y,L,r'⟩) O hg
theorem Inv.turned {t':Nat} {it:Addr} (I:Inv X pins σ H s) (k:∀ b o,b≠it->s.heap.get? b=some o->h'.get? b=some o) (hn:H it=none) (J:it≠X.env.locals)
  (h1:it∈X.ex∨X.s₀.heap.objs.size <= it) (h2:∀ x c,X.env.cells.lookup x=some c->c≠it) (h3:∀ p∈X.pn++pins,p.1≠it):Inv X pins σ H { s with heap:=h',toks:=t' }:=by
 have B:∀ b u,H b=some u->b≠it:=fun b u e z=>by rw [z,hn] at e;cases e
 refine I.step (g':=s.gens) (d':=s.drawn) (ch:=[it]) (fun b L=>?_) (fun b o _ _ hc e _=>k b o (fun z=>hc (by simp [z])) e) (fun b o _ _ hc e _=>⟨o.slots,k b o (fun z=>hc (by simp [z])) e⟩) (fun _ _ _ _ n=>n)
  (fun b o hc e=>⟨o,k b o (fun z=>hc (by simp [z])) e⟩) (fun _ _ e=>e) (fun _ _ _ e=>e) (fun b ps e=>⟨#[],by rw [e];simp⟩) (fun m hm=>?_) (fun b u e=>?_) I.bare
 .have e:b=it:=by simpa using L
  subst e
  exact ⟨h1,J,h2,h3⟩
 .obtain ⟨o,es,O,U,r⟩:=hm
  exact ⟨o,es,O,k _ o (Ne.symm J) U,r⟩
 .refine (I.hok b u e).stay (fun c v hc q=>k c v ?_ q) (fun _ q=>q) fun _ _ q=>q
  rcases hc with z | z
  .rw [z];exact B b u e
  .exact B c _ z
theorem Inv.tok (I:Inv X pins σ H s) (t:Nat):Inv X pins σ H { s with toks:=t }:=I.un (h':=s.heap) (t':=t) Un.refl I.hok
theorem Inv.kept {t':Nat} (I:Inv X pins σ H s) (k:∀ b u,s.heap.get? b=some u->h'.get? b=some u):Inv X pins σ H { s with heap:=h',toks:=t' }:=I.un (Un.kept k) (I.hok.kept k)
theorem Inv.laid {a:Addr} {o:HO} {t':Nat} (I:Inv X pins σ H s) (k:∀ b u,s.heap.get? b=some u->h'.get? b=some u) (z:s.heap.objs.size <= a) (new:ObjOk X.prog X.w (upd H a o) h' a o) :
  Inv X pins σ (upd H a o) { s with heap:=h',toks:=t' }:=I.un (Un.laid k z (I.hok.fresh z)) (I.hok.laid k z new)
theorem Inv.write {x e:Addr} {o:HO} {t':Nat} (I:Inv X pins σ H s) (J:Mut (H x)) (B:e=x∨H e=some (.own x)) (k:∀ b u,b≠e->s.heap.get? b=some u->h'.get? b=some u) (z:∃ u,h'.get? e=some u)
  (new:ObjOk X.prog X.w (upd H x o) h' x o):Inv X pins σ (upd H x o) { s with heap:=h',toks:=t' }:=I.un (Un.write J B k z) (I.hok.write J B k z new)
theorem Inv.pins_of {B:List (Addr×Obj)} (I:Inv X pins σ H s) (h:∀ p∈B,s.heap.get? p.1=some p.2 /\ H p.1=none /\ p.1≠X.env.locals /\ p.1∉X.fs /\ ∀ v,p.2.data≠.cell v):Inv X B σ H s :=
 ⟨I.ok,I.os,I.bare,I.base,I.loc,I.cell,I.free,I.freeC,fun p J=>(yAX.mp J).elim (fun z=>I.pin p (yBJ _ z)) (h p),I.hok,I.len⟩
theorem nodup_ix {N:List Str} (z:N.Nodup) {i j:Nat} {x:Str} (a:N[i]?=some x) (b:N[j]?=some x):i=j:=by
 obtain ⟨h1,B⟩:=yAR.mp a
 obtain ⟨h2,J⟩:=yAR.mp b
 exact (List.getElem_inj z).mp (B.trans J.symm)
theorem store_ok2 {M:Model} {A:Around} {E:Value->Shared->Prop} {i:Nat} {x:Str} {v:V} {u:Value} {Q:Unit->Shared->Prop} (I:Inv X pins σ H s) (hN:X.N.Nodup) (hi:X.N[i]?=some x) (O:Loc X.env.scope x) (r:RelV v u)
  (h:∀ s',Inv X pins (σ.set i (some v)) H s'->(∃ a,Heap.SameBut a s.heap s'.heap /\ (a=X.env.locals∨X.env.cells.lookup x=some a))->Q () s') (hf:X.fn x=true∨X.env.scope.names.lookup x=some .local:=by first | exact .inl rfl | exact .inr rfl | assumption):wpAny M A (storeName X.env x u) Q E s:=by
 obtain ⟨m,hn,hl⟩:=id I.loc
 have a2:(X.env.scope.kind == .class || (X.env.scope.kind == .module && X.env.locals != X.env.globals))=false:=by rw [I.ok.kind];rfl
 have Z:i < σ.length:=by rw [I.len];exact (yAR.mp hi).1
 have cne:=I.cne
 have J:∀ {a:Addr} {h':Heap},(∃ o,s.heap.get? a=some o /\ H a=none)->Heap.SameBut a s.heap h'->HOk X.prog X.w H h':=fun {a h'} ha B b ob e=>by
  obtain ⟨_,_,U⟩:=ha
  refine (I.hok b ob e).stay (fun c w' hc q=>(B.2 c ?_).trans q) (fun _ q=>q) fun _ _ q=>q
  rintro rfl
  rcases hc with rfl | hc
  .rw [U] at e;cases e
  .rw [U] at hc;cases hc
 rcases O with hk | hk
 .refine wpAny_storeName_local hk hn (fun h' a6 B=>?_) a2
  obtain ⟨oL,_,_,a5,_⟩:=id hn
  refine h _ ⟨I.ok,I.os,I.bare,⟨fun b o e n hb O=>?_,fun b o e n hb O=>?_,I.base.free,fun b o e O=>?_,I.base.tups,I.base.frzs,I.base.tbls⟩,⟨_,a6,fun j y v' L Y e3=>?_⟩,fun y c e=>?_,I.free,I.freeC,fun p hp=>?_,J ⟨oL,a5,I.free⟩ B,by simpa using I.len⟩ ⟨_,B,.inl rfl⟩
  .exact (B.2 b (yAN (yAW (Heap.lt_size e) I.ok.above))).trans (I.base.keep b o e n hb O)
  .obtain ⟨sl,L⟩:=I.base.slot b o e n hb O
   exact ⟨sl,(B.2 b (yAN (yAW (Heap.lt_size e) I.ok.above))).trans L⟩
  .obtain ⟨o',L⟩:=I.base.there b o e O
   exact ⟨o',(B.2 b (yAN (yAW (Heap.lt_size e) I.ok.above))).trans L⟩
  .by_cases hj:j=i
   .subst hj
    rw [hi] at L;cases L
    rw [List.getElem?_set_self Z] at Y
    cases Y
    exact ⟨u,r,.inl ⟨hk,by simp⟩⟩
   .rw [List.getElem?_set_ne (Ne.symm hj)] at Y
    obtain ⟨u',r',q⟩:=hl j y v' L Y e3
    refine ⟨u',r',?_⟩
    rcases q with ⟨k,e⟩ | ⟨k,c,e,z⟩
    .refine .inl ⟨k,?_⟩
     have:y≠x:=fun e=>hj (nodup_ix hN L (e ▸ hi))
     simp [this,e]
    .exact .inr ⟨k,c,e,z.sameBut B (cne y c e)⟩
  .obtain ⟨w',z⟩:=I.cell y c e
   exact ⟨w',z.sameBut B (cne y c e)⟩
  .obtain ⟨e,n,ne,nf,d⟩:=I.pin p hp
   exact ⟨(B.2 p.1 ne).trans e,n,ne,nf,d⟩
 .have a0:X.fn x=true:=by
   rcases hf with z | z
   .exact z
   .rw [z] at hk;cases hk
  obtain ⟨c,hc⟩:=I.ok.has x (.inl hk)
  obtain ⟨w',z⟩:=I.cell x c hc
  refine wpAny_storeName_cell I.ok.kind hk hc z (fun h' a1 B=>?_)
  obtain ⟨oc,a4,a3⟩:=id z
  refine h { s with heap:=h' } ⟨I.ok,I.os,I.bare,⟨fun b o e n hb O=>?_,fun b o e n hb O=>?_,I.base.free,fun b o e O=>?_,I.base.tups,I.base.frzs,I.base.tbls⟩,⟨m,hn.sameBut B (Ne.symm (cne x c hc)),fun j y v' L Y e3=>?_⟩,fun y c' e=>?_,I.free,I.freeC,fun p hp=>?_,J ⟨oc,a4,I.freeC x c hc⟩ B,by simpa using I.len⟩ ⟨c,B,.inr hc⟩
  .exact (B.2 b (yAN (yAW (Heap.lt_size e) (I.ok.cab x c a0 hc)))).trans (I.base.keep b o e n hb O)
  .obtain ⟨sl,L⟩:=I.base.slot b o e n hb O
   exact ⟨sl,(B.2 b (yAN (yAW (Heap.lt_size e) (I.ok.cab x c a0 hc)))).trans L⟩
  .obtain ⟨o',L⟩:=I.base.there b o e O
   exact ⟨o',(B.2 b (yAN (yAW (Heap.lt_size e) (I.ok.cab x c a0 hc)))).trans L⟩
  .by_cases hj:j=i
   .subst hj
    rw [hi] at L;cases L
    rw [List.getElem?_set_self Z] at Y
    cases Y
    exact ⟨u,r,.inr ⟨.inl hk,c,hc,a1⟩⟩
   .rw [List.getElem?_set_ne (Ne.symm hj)] at Y
    obtain ⟨u',r',q⟩:=hl j y v' L Y e3
    refine ⟨u',r',?_⟩
    rcases q with q | ⟨k,c',e,z'⟩
    .exact .inl q
    .refine .inr ⟨k,c',e,z'.sameBut B ?_⟩
     rintro rfl
     exact hj (nodup_ix hN L (I.ok.inj _ _ _ e hc ▸ hi))
  .by_cases hcc:c'=c
   .subst hcc;exact ⟨_,a1⟩
   .obtain ⟨w2,z2⟩:=I.cell y c' e
    exact ⟨w2,z2.sameBut B hcc⟩
  .obtain ⟨e,n,ne,nf,d⟩:=I.pin p hp
   refine ⟨(B.2 p.1 ?_).trans e,n,ne,nf,d⟩
   intro q
   rw [q,a4] at e
   have q':oc=p.2:=Option.some.inj e
   exact d w' (by rw [<- q'];exact a3)
theorem ZC3 {M:Model} {A:Around} {E:Value->Shared->Prop} {i:Nat} {x:Str} {v:V} {u:Value} {Q:Unit->Shared->Prop} (I:Inv X pins σ H s) (z:X.N.Nodup) (hi:X.N[i]?=some x) (L:Loc X.env.scope x) (r:RelV v u)
  (h:∀ s',Inv X pins (σ.set i (some v)) H s'->Q () s') (J:X.fn x=true∨X.env.scope.names.lookup x=some .local:=by first | exact .inl rfl | exact .inr rfl | assumption):wpAny M A (storeName X.env x u) Q E s :=
 store_ok2 I z hi L r (fun s' B _=>h s' B) J
theorem Inv.call' {s':Shared} {ch:List Addr} (I:Inv X pins σ H s) (L:s'.os=s.os) (u:Un (frs X.stack) ch H H' s.heap s'.heap) (B:HOk X.prog X.w H' s'.heap) (J:AllBare s'.gens)
  (z:∀ b∈ch,(b∈X.ex∨X.s₀.heap.objs.size <= b) /\ b≠X.env.locals /\ (∀ x c,X.env.cells.lookup x=some c->c≠b) /\ ∀ p∈X.pn++pins,p.1≠b):Inv X pins σ H' s':=by
 obtain ⟨h',g',d',t',o'⟩:=s'
 have e:o'=s.os:=L
 subst e
 exact I.call (g':=g') (t':=t') (d':=d') u B J z
end
noncomputable abbrev XK:=Value->Option Addr->Hp->Prop
noncomputable abbrev St:=List (Option V)
noncomputable abbrev VK:=V->Hp->Prop
noncomputable abbrev TE:=St->Hp->VK->Prop
noncomputable abbrev TT:=St->Hp->(Bool->Hp->Prop)->Prop
noncomputable abbrev TA:=St->Hp->(List V->Hp->Prop)->Prop
structure Ends where
 nx:St->Hp->Prop
 rt:VK
 bk:St->Hp->Prop:=fun _ _=>False
 ct:St->Hp->Prop:=fun _ _=>False
noncomputable abbrev TS:=Ends->St->Hp->Prop
noncomputable def EP (X:Cx) (pins:List (Addr×Obj)) (σ:St) (Q:VK) (u:Value) (s':Shared):Prop:=∃ v H',Inv X pins σ H' s' /\ RelV v u /\ Q v H'
noncomputable def TP (X:Cx) (pins:List (Addr×Obj)) (σ:St) (Q:Bool->Hp->Prop) (b:Bool) (s':Shared):Prop:=∃ H',Inv X pins σ H' s' /\ Q b H'
noncomputable def AP (X:Cx) (pins:List (Addr×Obj)) (σ:St) (Q:List V->Hp->Prop) (us:List Value) (s':Shared):Prop:=∃ vs H',Inv X pins σ H' s' /\ Vals vs us /\ Q vs H'
noncomputable def SP (X:Cx) (pins:List (Addr×Obj)) (D:Ends) (f:Flow) (s':Shared):Prop :=
 match f with
 | .next=>∃ σ' H',Inv X pins σ' H' s' /\ D.nx σ' H'
 | .brk=>∃ σ' H',Inv X pins σ' H' s' /\ D.bk σ' H'
 | .cont=>∃ σ' H',Inv X pins σ' H' s' /\ D.ct σ' H'
 | .ret u=>∃ v σ' H',Inv X pins σ' H' s' /\ RelV v u /\ D.rt v H'
noncomputable def PE (X:Cx) (e:Expr) (t:TE):Prop :=
 ∀ (pins:List (Addr×Obj)) (s:Shared) (σ:St) (H:Hp) (Q:VK),Inv X pins σ H s->t σ H Q->wpAny (model X.prog X.w) X.A (eval e X.env) (EP X pins σ Q) X.xe s
noncomputable def PT (X:Cx) (e:Expr) (t:TT):Prop :=
 ∀ (pins:List (Addr×Obj)) (s:Shared) (σ:St) (H:Hp) (Q:Bool->Hp->Prop),Inv X pins σ H s->t σ H Q->wpAny (model X.prog X.w) X.A (isTrue e X.env (eval e X.env)) (TP X pins σ Q) X.xe s
noncomputable def PW (X:Cx) (e:Expr) (t:TT):Prop :=
 ∀ (whole:Sem Value) (pins:List (Addr×Obj)) (s:Shared) (σ:St) (H:Hp) (Q:Bool->Hp->Prop),Inv X pins σ H s->t σ H Q->wpAny (model X.prog X.w) X.A (isTrue e X.env whole) (TP X pins σ Q) X.xe s
theorem PW.pt {X:Cx} {e:Expr} {t:TT} (h:PW X e t):PT X e t:=h _
noncomputable def PA (X:Cx) (es:List Expr) (t:TA):Prop :=
 ∀ (pos:Pos) (pins:List (Addr×Obj)) (s:Shared) (σ:St) (H:Hp) (Q:List V->Hp->Prop),Inv X pins σ H s->t σ H Q->wpAny (model X.prog X.w) X.A (spliced (backTo pos (starEach es X.env))) (AP X pins σ Q) X.xe s
noncomputable def PS (X:Cx) (st:Stmt) (t:TS):Prop :=
 ∀ (pins:List (Addr×Obj)) (s:Shared) (σ:St) (H:Hp) (D:Ends),Inv X pins σ H s->t D σ H->wpAny (model X.prog X.w) X.A (exec st X.env) (SP X pins D) X.xe s
noncomputable def PSs (X:Cx) (st:List Stmt) (t:TS):Prop :=
 ∀ (pins:List (Addr×Obj)) (s:Shared) (σ:St) (H:Hp) (D:Ends),Inv X pins σ H s->t D σ H->wpAny (model X.prog X.w) X.A (execs st X.env) (SP X pins D) X.xe s
theorem thn {α:Type} {t:Sem α} {Q Q':α->Shared->Prop} {M:Model} {A:Around} {E:Value->Shared->Prop} {s:Shared} (h:wpAny M A t Q E s) (z:∀ a s,Q a s->Q' a s):wpAny M A t Q' E s:=wpAny_mono h z fun _ _ x=>x
section
variable {X:Cx}
noncomputable def tVar (i:Nat):TE:=fun σ H Q=>∃ v,σ[i]?=some (some v) /\ Q v H
noncomputable def tC (v:V):TE:=fun _ H Q=>Q v H
theorem pe_var {i:Nat} {x:Str} {pos:Pos} (U:X.N[i]?=some x) (O:Vis X.env.scope x) (L:(x == ("__debug__":Str))=false:=by decide) (J:(x == ("__classdict__":Str))=false:=by decide):PE X (.Name x pos) (tVar i):=by
 intro pins s σ H Q I h
 obtain ⟨v,e,h⟩:=h
 obtain ⟨m,hn,hl⟩:=I.loc
 obtain ⟨u,r,l⟩:=hl i x v U e O
 have fin:EP X pins σ Q u s:=⟨v,H,I,r,h⟩
 rcases l with ⟨B,hm⟩ | ⟨B,c,hc,z⟩
 .exact wpAny_Name (wpAny_loadName_local I.ok.kind B hn hm fin) L
 .rcases B with B | B
  .exact wpAny_Name (wpAny_loadName_cell I.ok.kind B hc z fin) L
  .exact wpAny_Name (wpAny_loadName_free I.ok.kind B hc z fin J) L
theorem ZAG {i j pos}:PE X (.Constant (.int i) j pos) (tC (.int i)):=fun _ _ _ H _ I h=>wpAny_Constant_int ⟨.int i,H,I.tok _,⟨_,rfl⟩,h⟩
theorem ZDl {b j pos}:PE X (.Constant (.bool b) j pos) (tC (.bl b)):=fun _ _ _ H _ I h=>Constant_bool ⟨.bl b,H,I,rfl,h⟩
theorem ZCD {j pos}:PE X (.Constant .none j pos) (tC .non):=fun _ _ _ H _ I h=>Constant_none ⟨.non,H,I,rfl,h⟩
theorem pe_str {x j pos}:PE X (.Constant (.str x) j pos) (tC (.str x)):=fun _ _ _ H _ I h=>Calls.Constant_str ⟨.str x,H,I.tok _,⟨_,rfl⟩,h⟩
noncomputable def Gl (X:Cx) (x:Str):Prop:=X.env.kindOf x=some .globalImplicit
theorem ZEz {E:Value->Shared->Prop} {pins:List (Addr×Obj)} {s:Shared} {σ:St} {H:Hp} {x:Str} {u:Value} {pos:Pos} {Q:Value->Shared->Prop} (I:Inv X pins σ H s) (z:Gl X x) (hm:X.mg x=some u) (h:Q u s)
  (B:(x == ("__debug__":Str))=false:=by decide):wpAny (model X.prog X.w) X.A (eval (.Name x pos) X.env) Q E s :=
 Calls.Name_function_global I.ok.kind z (Calls.loadGlobal_global (by rw [I.ok.glob];exact I.mod.glob.keeps I.bk) hm h) B
theorem ZCZ {E:Value->Shared->Prop} {pins:List (Addr×Obj)} {s:Shared} {σ:St} {H:Hp} {x:Str} {u:Value} {pos:Pos} {Q:Value->Shared->Prop} (I:Inv X pins σ H s) (B:Gl X x) (hm:X.mg x=none) (z:bootBuiltins x=some u) (h:Q u s)
  (hn:x≠"__name__":=by decide) (J:(x == ("__debug__":Str))=false:=by decide):wpAny (model X.prog X.w) X.A (eval (.Name x pos) X.env) Q E s:=by
 obtain ⟨L,h1,h2⟩:=I.mod.blt
 exact Calls.Name_function_global I.ok.kind B (Calls.loadGlobal_builtin (by rw [I.ok.glob];exact I.mod.glob.keeps I.bk) hm (by rw [I.ok.blt];exact h1.keeps I.bk) ((h2 x hn).trans z) h) J
theorem pe_glob {x:Str} {v:V} {u:Value} {pos:Pos} (z:Gl X x) (hm:X.mg x=some u) (r:RelV v u) (B:(x == ("__debug__":Str))=false:=by decide):PE X (.Name x pos) (tC v) :=
 fun _ _ _ H _ I h=>ZEz I z hm ⟨v,H,I,r,h⟩ B
theorem pe_bltn {x:Str} {v:V} {u:Value} {pos:Pos} (B:Gl X x) (hm:X.mg x=none) (z:bootBuiltins x=some u) (r:RelV v u) (hn:x≠"__name__":=by decide) (J:(x == ("__debug__":Str))=false:=by decide):PE X (.Name x pos) (tC v) :=
 fun _ _ _ H _ I h=>ZCZ I B hm z ⟨v,H,I,r,h⟩ hn J
variable {a b:Expr} {ta tb:TE} {pos:Pos}
noncomputable def PC (X:Cx) (op:CmpOp) (a b:Expr) (t:TE):Prop :=
 ∀ (pins:List (Addr×Obj)) (s:Shared) (σ:St) (H:Hp) (Q:VK),Inv X pins σ H s->t σ H Q ->
  wpAny (model X.prog X.w) X.A (eval a X.env) (fun v s₁=>wpAny (model X.prog X.w) X.A (eval b X.env) (fun u s₂=>wpAny (model X.prog X.w) X.A (compareOp op v u) (EP X pins σ Q) X.xe s₂) X.xe s₁) X.xe s
noncomputable def tB (t:TE):TT:=fun σ H Q=>t σ H fun x H1=>∃ c,x=.bl c /\ Q c H1
theorem pt_cmp {op:CmpOp} {t:TE} (h:PC X op a b t) (h1:behindInMarks op b=false:=by first | exact nobehind _ (by decide) (by decide) | rfl):PT X (.Compare a [op] [b] pos) (tB t):=by
 intro pins s σ H Q I hw
 refine wpAny_isTrue_Compare1 (thn (h pins s σ H _ I hw) fun v s1 h1=>thn h1 fun u s2 h2=>thn h2 fun c O z=>?_) h1
 obtain ⟨x,H1,J,B,L⟩:=z
 obtain ⟨d,rfl,q⟩:=L
 cases B
 exact wpAny_truthy_bool ⟨H1,J,q⟩
theorem ZB0 {e:Expr} {t:TE} (h:PE X e t) (B:∀ z,isTrue e X.env z=(do let v <- z;standAt e.pos;holding [v] (truthy v)):=by intro _;rfl):PT X e (tB t):=by
 intro pins s σ H Q I hw
 refine isTrue_plain (thn (h pins s σ H _ I hw) fun v s1 J=>?_) (B _)
 obtain ⟨x,H1,O,L,U⟩:=J
 obtain ⟨d,rfl,q⟩:=U
 cases L
 exact wpAny_truthy_bool ⟨H1,O,q⟩
variable {tA tB':TT} {rest:List Expr}
noncomputable def tAnd (t u:TT):TT:=fun σ H Q=>t σ H fun c H1=>if c=true then u σ H1 Q else Q false H1
noncomputable def tOr (t u:TT):TT:=fun σ H Q=>t σ H fun c H1=>if c=true then Q true H1 else u σ H1 Q
noncomputable def tNot (t:TT):TT:=fun σ H Q=>t σ H fun c H1=>Q (!c) H1
theorem ZDh (ha:PT X a tA):PW X (.BoolOp .And [a] pos) tA:=by
 intro z pins s σ H Q I h
 refine isTrue_and (thn (ha pins s σ H Q I h) fun c s1 e=>?_)
 cases c with
 | true=>exact isTrue_and_nil e
 | false=>exact e
theorem ZD1 (ha:PT X a tA):PW X (.BoolOp .Or [a] pos) tA:=by
 intro z pins s σ H Q I h
 refine isTrue_or (thn (ha pins s σ H Q I h) fun c s1 e=>?_)
 cases c with
 | false=>exact isTrue_or_nil e
 | true=>exact e
theorem ZER (ha:PT X a tA) (J:PW X (.BoolOp .And (b::rest) pos) tB'):PW X (.BoolOp .And (a::b::rest) pos) (tAnd tA tB'):=by
 intro L pins s σ H Q I h
 refine isTrue_and (thn (ha pins s σ H _ I h) fun c s1 ⟨H1,z,B⟩=>?_)
 cases c with
 | true=>exact J L pins s1 σ H1 Q z B
 | false=>exact ⟨H1,z,B⟩
theorem ZEw (ha:PT X a tA) (J:PW X (.BoolOp .Or (b::rest) pos) tB'):PW X (.BoolOp .Or (a::b::rest) pos) (tOr tA tB'):=by
 intro L pins s σ H Q I h
 refine isTrue_or (thn (ha pins s σ H _ I h) fun c s1 ⟨H1,z,B⟩=>?_)
 cases c with
 | true=>exact ⟨H1,z,B⟩
 | false=>exact J L pins s1 σ H1 Q z B
theorem ZE5 (ha:PT X a tA):PT X (.UnaryOp .Not a pos) (tNot tA):=by
 intro pins s σ H Q I h
 exact isTrue_not (ha pins s σ H (fun c H1=>Q (!c) H1) I h)
noncomputable def ZF8 (ta tb:TE):TE:=fun σ H Q=>ta σ H fun x H1=>∃ c,x=.bl c /\ if c=true then tb σ H1 Q else Q (.bl false) H1
noncomputable def tOrV (ta tb:TE):TE:=fun σ H Q=>ta σ H fun x H1=>∃ c,x=.bl c /\ if c=true then Q (.bl true) H1 else tb σ H1 Q
noncomputable def ZF5 (ta:TE):TE:=fun σ H Q=>ta σ H fun x H1=>∃ c,x=.bl c /\ Q (.bl (!c)) H1
theorem ZFe {op} {t:TE} (h:PE X a t):PE X (.BoolOp op [a] pos) t:=fun pins s σ H Q I hw=>BoolOp_one (h pins s σ H Q I hw)
theorem ZFi (ha:PE X a ta) (J:PE X (.BoolOp .And (b::rest) pos) tb):PE X (.BoolOp .And (a::b::rest) pos) (ZF8 ta tb):=by
 intro pins s σ H Q I h
 refine BoolOp_and (thn (ha pins s σ H _ I h) fun v s1 L=>?_)
 obtain ⟨x,H1,B,O,z⟩:=L
 obtain ⟨c,rfl,z⟩:=z
 cases O
 refine wpAny_truthy_bool ?_
 cases c with
 | true=>exact J pins s1 σ H1 Q B z
 | false=>exact ⟨.bl false,H1,B,rfl,z⟩
theorem pe_not (ha:PE X a ta):PE X (.UnaryOp .Not a pos) (ZF5 ta):=by
 intro pins s σ H Q I h
 refine UnaryOp_ (thn (ha pins s σ H _ I h) fun v s1 J=>?_)
 obtain ⟨x,H1,B,L,z⟩:=J
 obtain ⟨c,rfl,z⟩:=z
 cases L
 exact not_of (wpAny_truthy_bool ⟨.bl (!c),H1,B,rfl,z⟩)
noncomputable def tIf (t:TT) (ta tb:TE):TE:=fun σ H Q=>t σ H fun c H1=>if c=true then ta σ H1 Q else tb σ H1 Q
theorem ZBD {c:Expr} (hc:PT X c tA) (ha:PE X a ta) (J:PE X b tb):PE X (.IfExp c a b pos) (tIf tA ta tb):=by
 intro pins s σ H Q I h
 refine wpAny_IfExp (thn (hc pins s σ H _ I h) fun d s1 ⟨H1,z,B⟩=>?_)
 cases d with
 | true=>exact ha pins s1 σ H1 Q z B
 | false=>exact J pins s1 σ H1 Q z B
end
noncomputable def SqL (K:W.Frag) (H:Hp) (a:Addr) (xs:List V):Prop :=
 Rd H a (.lst xs) ∨
  ∃ (o:Obj) (its:Array Value) (n:Nat),K.lookup a=some o /\ o.cls=.type "list" /\ o.dict=none /\ o.data=.seq its n /\ its.size <= sizeLine /\ Vals xs its.toList
noncomputable def SqT (K:W.Frag) (H:Hp) (a:Addr) (xs:List V):Prop :=
 Rd H a (.tup xs) ∨
  ∃ (o:Obj) (its:Array Value) (n:Nat),K.lookup a=some o /\ o.cls=.type "tuple" /\ o.data=.seq its n /\ its.size <= sizeLine /\ Vals xs its.toList
noncomputable def absV:Value->Option V
 | .none=>some .non
 | .bool b=>some (.bl b)
 | .int i _=>some (.int i)
 | .str x _=>some (.str x)
 | .bytes b _=>some (.byt b)
 | .float b _=>some (.flt b)
 | .ref a=>some (.ref a)
 | .type n=>some (.ty n)
 | _=>none
theorem RelV.abs {x:V} {u:Value} (r:RelV x u):absV u=some x:=by
 cases x with
 | non=>cases r;rfl
 | bl _=>cases r;rfl
 | int _=>obtain ⟨t,rfl⟩:=r;rfl
 | str _=>obtain ⟨t,rfl⟩:=r;rfl
 | byt _=>obtain ⟨t,rfl⟩:=r;rfl
 | flt _=>obtain ⟨t,rfl⟩:=r;rfl
 | ref _=>cases r;rfl
 | ty _=>cases r;rfl
theorem RelV.inj {x y:V} {u:Value} (r:RelV x u) (q:RelV y u):x=y:=Option.some.inj (r.abs.symm.trans q.abs)
theorem Vals.inj:∀ {xs ys:List V} {us:List Value},Vals xs us->Vals ys us->xs=ys
 | _,_,_,.nil,.nil=>rfl
 | _,_,_,.cons r t,.cons r' t'=>by rw [r.inj r',Vals.inj t t']
section
variable {X:Cx} {pins:List (Addr×Obj)} {σ:St} {H:Hp} {s:Shared} {a:Addr} {xs ys:List V}
theorem SqL.of {K:W.Frag} (h:H a=some (.lst xs)):SqL K H a xs:=.inl (.inl h)
theorem SqT.of {K:W.Frag} (h:H a=some (.tup xs)):SqT K H a xs:=.inl (.inl h)
theorem Inv.list (I:Inv X pins σ H s) (h:SqL X.K H a xs):∃ its:List Value,Vals xs its /\ PlainL s.heap a its.toArray /\ xs.length <= sizeLine:=by
 rcases h with h | ⟨o,its,n,J,hc,L,B,O,r⟩
 .obtain ⟨z,its,n,r,e⟩:=h.ok I.hok
  exact ⟨its,r,⟨_,n,e,rfl,rfl,rfl⟩,z⟩
 .refine ⟨its.toList,r,⟨o,n,I.kIn a o J,hc,L,by simpa using B⟩,?_⟩
  have e:=r.length
  simp only [yCL] at e
  omega
theorem Inv.tuple (I:Inv X pins σ H s) (h:SqT X.K H a xs):∃ its:List Value,Vals xs its /\ IsTup s.heap a its.toArray /\ xs.length <= sizeLine:=by
 rcases h with h | ⟨o,its,n,J,hc,B,L,r⟩
 .obtain ⟨z,its,r,p⟩:=h.ok I.hok
  exact ⟨its,r,p,z⟩
 .refine ⟨its.toList,r,⟨o,I.kIn a o J,hc,n,by simpa using B⟩,?_⟩
  have e:=r.length
  simp only [yCL] at e
  omega
theorem Inv.list_inj (I:Inv X pins σ H s) (h:SqL X.K H a xs) (h':SqL X.K H a ys):xs=ys:=by
 obtain ⟨its,r,⟨o,n,e,_,_,d⟩,_⟩:=I.list h
 obtain ⟨its',r',⟨o',B,z,_,_,d'⟩,_⟩:=I.list h'
 rw [e] at z;cases z
 rw [d] at d'
 injection d' with d1 _
 have:its=its':=by simpa using congrArg Array.toList d1
 subst this
 exact r.inj r'
end
noncomputable abbrev Cx.wish (X:Cx) (E:Value->Shared->Prop):Cx:={ X with xe:=E }
noncomputable abbrev Cx.nox (X:Cx):Cx:=X.wish fun _ _=>False
theorem Cx.Ok.wish {X:Cx} (ok:X.Ok) (E:Value->Shared->Prop):(X.wish E).Ok :=
 ⟨ok.mod,ok.kind,ok.glob,ok.blt,ok.above,ok.inj,ok.has,ok.cab,ok.hd,ok.frames,ok.stk,ok.exf,ok.bs,ok.bsz,ok.noex,ok.exfs,ok.funs,ok.frf⟩
theorem Cx.Ok.unwish {X:Cx} {E:Value->Shared->Prop} (ok:(X.wish E).Ok):X.Ok :=
 ⟨ok.mod,ok.kind,ok.glob,ok.blt,ok.above,ok.inj,ok.has,ok.cab,ok.hd,ok.frames,ok.stk,ok.exf,ok.bs,ok.bsz,ok.noex,ok.exfs,ok.funs,ok.frf⟩
section
variable {X:Cx} {pins:List (Addr×Obj)} {σ:St} {H:Hp} {s:Shared} {E:Value->Shared->Prop}
theorem Inv.wish (I:Inv X pins σ H s) (E:Value->Shared->Prop):Inv (X.wish E) pins σ H s:=⟨I.ok.wish E,I.os,I.bare,I.base,I.loc,I.cell,I.free,I.freeC,I.pin,I.hok,I.len⟩
theorem Inv.unwish (I:Inv (X.wish E) pins σ H s):Inv X pins σ H s:=⟨I.ok.unwish,I.os,I.bare,I.base,I.loc,I.cell,I.free,I.freeC,I.pin,I.hok,I.len⟩
theorem SP.unwish {D:Ends} {f:Flow} {s':Shared} (h:SP (X.wish E) pins D f s'):SP X pins D f s':=by
 cases f with
 | next=>obtain ⟨z,H',I,q⟩:=h;exact ⟨z,H',I.unwish,q⟩
 | brk=>obtain ⟨z,H',I,q⟩:=h;exact ⟨z,H',I.unwish,q⟩
 | cont=>obtain ⟨z,H',I,q⟩:=h;exact ⟨z,H',I.unwish,q⟩
 | ret u=>obtain ⟨v,z,H',I,r,q⟩:=h;exact ⟨v,z,H',I.unwish,r,q⟩
theorem PSs.nox {st:List Stmt} {t:TS} (h:PSs X.nox st t):PSs X st t:=fun pins s σ H D I hw=>
 wpAny_mono (h pins s σ H D (I.wish _) hw) (fun _ _ q=>q.unwish) fun _ _ z=>False.elim z
end
section
variable {X:Cx} {st:Stmt} {rest:List Stmt} {t u:TS} {e:Expr} {te:TE} {pos:Pos}
noncomputable def ZFx:TS:=fun D σ H=>D.nx σ H
noncomputable def tSeq (t u:TS):TS:=fun D σ H=>t { D with nx:=u D } σ H
theorem ZAe:PSs X [] ZFx:=fun _ _ σ H _ I h=>wpAny_execs_nil ⟨σ,H,I,h⟩
theorem ZAB (h1:PS X st t) (h2:PSs X rest u):PSs X (st::rest) (tSeq t u):=by
 intro pins s σ H D I h
 refine wpAny_execs_cons (thn (h1 pins s σ H { D with nx:=u D } I h) fun f s1 q=>?_)
 cases f with
 | next=>
  obtain ⟨z,H',B,q⟩:=q
  exact h2 pins s1 z H' D B q
 | ret v=>exact q
 | brk=>exact q
 | cont=>exact q
theorem ZAH (h1:PS X st t):PSs X [st] t:=by
 intro pins s σ H D I h
 refine wpAny_execs_cons (thn (h1 pins s σ H D I h) fun f s1 q=>?_)
 cases f with
 | next=>exact wpAny_execs_nil q
 | ret v=>exact q
 | brk=>exact q
 | cont=>exact q
theorem ps_pass:PS X (.Pass pos) ZFx:=fun _ _ σ H _ I h=>wpAny_Pass ⟨σ,H,I,h⟩
theorem Inv.quiet {pins:List (Addr×Obj)} {σ:St} {H:Hp} {s:Shared} (I:Inv X pins σ H s):interactive X.env=false:=by simp [interactive,I.ok.kind]
noncomputable def ZF6 (te:TE):TS:=fun D σ H=>te σ H fun _ H1=>D.nx σ H1
theorem ZAk (z:PE X e te) (B:swapsWith e none pos.line X.env=pure false:=by rfl):PS X (.Expr e pos) (ZF6 te):=by
 intro pins s σ H D I h
 exact wpAny_Expr_any (thn (z pins s σ H _ I h) fun v s1 ⟨x,H1,J,O,L⟩=>⟨σ,H1,J,L⟩) I.quiet B
noncomputable def tRet (te:TE):TS:=fun D σ H=>te σ H D.rt
theorem ZAS (z:PE X e te):PS X (.Return (some e) pos) (tRet te):=by
 intro pins s σ H D I h
 exact wpAny_Return_some (thn (z pins s σ H _ I h) fun v s1 ⟨x,H1,B,L,J⟩=>⟨x,σ,H1,B,L,J⟩)
noncomputable def tRetN:TS:=fun D _ H=>D.rt .non H
noncomputable def tIfS (c:TT) (t u:TS):TS:=fun D σ H=>c σ H fun b H1=>if b=true then t D σ H1 else u D σ H1
theorem ZBC {c:Expr} {a b:List Stmt} {tc:TT} (hc:PT X c tc) (ha:PSs X a t) (J:PSs X b u):PS X (.If c a b pos) (tIfS tc t u):=by
 intro pins s σ H D I h
 refine wpAny_If (thn (hc pins s σ H _ I h) fun d s1 ⟨H1,z,B⟩=>?_)
 cases d with
 | true=>exact ha pins s1 σ H1 D z B
 | false=>exact J pins s1 σ H1 D z B
noncomputable def ZFL:TS:=fun _ _ _=>False
theorem ps_never:PS X st ZFL:=fun _ _ _ _ _ _ h=>h.elim
end
noncomputable abbrev TG:=V->St->Hp->(St->Hp->Prop)->Prop
noncomputable abbrev TGs:=List V->St->Hp->(St->Hp->Prop)->Prop
noncomputable def PG (X:Cx) (target:Expr) (t:TG):Prop :=
 ∀ (pins:List (Addr×Obj)) (s:Shared) (σ:St) (H:Hp) (v:V) (u:Value) (Q:St->Hp->Prop),Inv X pins σ H s->RelV v u->t v σ H Q ->
  wpAny (model X.prog X.w) X.A (assign target X.env u) (fun _ s'=>∃ σ' H',Inv X pins σ' H' s' /\ Q σ' H') X.xe s
noncomputable def PGs (X:Cx) (ts:List Expr) (t:TGs):Prop :=
 ∀ (pins:List (Addr×Obj)) (s:Shared) (σ:St) (H:Hp) (vs:List V) (us:List Value) (Q:St->Hp->Prop),Inv X pins σ H s->Vals vs us->t vs σ H Q ->
  wpAny (model X.prog X.w) X.A (assignInOrder ((assignEach ts X.env).map (·.2)) us) (fun _ s'=>∃ σ' H',Inv X pins σ' H' s' /\ Q σ' H') X.xe s
noncomputable abbrev TSet:=V->V->V->Hp->(Hp->Prop)->Prop
noncomputable def PSet (X:Cx) (t:TSet):Prop :=
 ∀ (pins:List (Addr×Obj)) (s:Shared) (σ:St) (H:Hp) (o i v:V) (ov iv u:Value) (Q:Hp->Prop),Inv X pins σ H s->RelV o ov->RelV i iv->RelV v u->t o i v H Q ->
  wpAny (model X.prog X.w) X.A (setItem ov iv u) (fun _ s'=>∃ H',Inv X pins σ H' s' /\ Q H') X.xe s
noncomputable abbrev TIp:=V->V->Hp->VK->Prop
noncomputable def PIp (X:Cx) (op:Operator) (t:TIp):Prop :=
 ∀ (pins:List (Addr×Obj)) (s:Shared) (σ:St) (H:Hp) (x y:V) (v u:Value) (Q:VK),Inv X pins σ H s->RelV x v->RelV y u->t x y H Q ->
  wpAny (model X.prog X.w) X.A (inplaceOp op v u) (EP X pins σ Q) X.xe s
section
variable {X:Cx} {pos:Pos}
noncomputable def ZE3 (i:Nat):TG:=fun v σ H Q=>Q (σ.set i (some v)) H
theorem ZAd {i:Nat} {x:Str} (z:X.N.Nodup) (hi:X.N[i]?=some x) (L:Loc X.env.scope x) (J:X.fn x=true∨X.env.scope.names.lookup x=some .local:=by first | exact .inl rfl | exact .inr rfl | assumption):PG X (.Name x pos) (ZE3 i):=by
 intro pins s σ H v u Q I r h
 exact wpAny_assign_Name (ZC3 I z hi L r (fun s' B=>⟨_,H,B,h⟩) J)
noncomputable def gNil:TGs:=fun vs σ H Q=>vs=[] /\ Q σ H
noncomputable def ZGM (t:TG) (u:TGs):TGs:=fun vs σ H Q=>∃ v r,vs=v::r /\ t v σ H fun σ' H'=>u r σ' H' Q
theorem ZDO:PGs X [] gNil:=by
 intro pins s σ H vs us Q I r h
 obtain ⟨e,h⟩:=h
 subst e
 cases r
 exact assignInOrder_nil ⟨σ,H,I,h⟩
theorem ZA8 {e:Expr} {es:List Expr} {t:TG} {u:TGs} (h1:PG X e t) (h2:PGs X es u)
  (B:(assignEach (e::es) X.env).map (·.2)=assign e X.env::(assignEach es X.env).map (·.2):=by rfl):PGs X (e::es) (ZGM t u):=by
 intro pins s σ H vs us Q I r h
 obtain ⟨v,Y,O,h⟩:=h
 subst O
 cases r with
 | cons r rr=>
  rw [B]
  refine assignInOrder_cons (thn (h1 pins s σ H _ _ _ I r h) fun _ s1 J=>?_)
  obtain ⟨z,H1,L,U⟩:=J
  exact h2 pins s1 z H1 _ _ Q L rr U
noncomputable def gTup (K:W.Frag) (n:Nat) (t:TGs):TG:=fun v σ H Q=>∃ a xs,v=.ref a /\ SqT K H a xs /\ xs.length=n /\ t xs σ H Q
theorem ZEV {es:List Expr} {k:Nat} {t:TGs} {n:Nat} (hc:X.calm=true) (h:PGs X es t)
  (hn:(assignEach es X.env).length=n:=by rfl) (z:(assignEach es X.env).findIdx? (·.1)=none:=by rfl):PG X (.Tuple es k pos) (gTup X.K n t):=by
 intro pins s σ H v u Q I r hw
 obtain ⟨a,xs,L,U,hl,hw⟩:=hw
 subst L
 cases r
 obtain ⟨its,B,Y,Z⟩:=I.tuple U
 refine assign_Tuple_tuple (I.ok.hd hc) Y (by simp [hn,<- hl,B.length]) z fun h' O=>?_
 have J:Inv X pins σ H { s with heap:=h' }:=I.kept (t':=s.toks) fun b o e=>O b o (yAN (Heap.lt_size e)) e
 exact h pins _ σ H xs _ Q J (by simpa using B) hw
noncomputable def gSub (to ti:TE) (t:TSet):TG:=fun v σ H Q=>to σ H fun o H1=>ti σ H1 fun i H2=>t o i v H2 fun H3=>Q σ H3
theorem ZFd {o i:Expr} {to ti:TE} {t:TSet} (Y:PE X o to) (hi:PE X i ti) (L:PSet X t)
  (ha:∀ v,assign (.Subscript o i pos) X.env v=(do
   let z <- holding [v] (eval o X.env)
   let B <- holding [v,z] (eval i X.env)
   standAt pos
   holding [v,z,B] (setItem z B v)
   release [v,z,B] []):=by intro _;rfl):PG X (.Subscript o i pos) (gSub to ti t):=by
 intro pins s σ H v u Q I r h
 rw [ha]
 refine wpAny_bind (wpAny_holding (thn (Y pins s σ H _ I h) fun z s1 J=>?_))
 obtain ⟨x,H1,I1,U,q1⟩:=J
 refine wpAny_bind (wpAny_holding (thn (hi pins s1 σ H1 _ I1 q1) fun B s2 J=>?_))
 obtain ⟨y,H2,I2,Z,q2⟩:=J
 refine wpAny_bind (wpAny_standAt (wpAny_bind (wpAny_holding (thn (L pins s2 σ H2 x y v z B u _ I2 U Z r q2) fun _ s3 ⟨H3,I3,O⟩=>?_))))
 exact wpAny_release ⟨σ,H3,I3,O⟩
noncomputable def tAsg (te:TE) (g:TG):TS:=fun D σ H=>te σ H fun x H1=>g x σ H1 D.nx
theorem ZFc {tg e:Expr} {te:TE} {g:TG} (z:PE X e te) (U:PG X tg g) (B:swapsWithSole [tg] e pos.line X.env=pure false:=by rfl) (hw:swappedStores [tg] e X.env=pure none:=by rfl)
  (h1:(assignEach [tg] X.env).map (·.2)=[assign tg X.env]:=by rfl):PS X (.Assign [tg] e pos) (tAsg te g):=by
 intro pins s σ H D I h
 refine wpAny_Assign_stores (thn (z pins s σ H _ I h) fun v s1 J=>?_) B hw
 obtain ⟨x,H1,O,L,Y⟩:=J
 rw [h1]
 exact thn (U pins s1 σ H1 x v _ O L Y) fun _ s2 q=>q
theorem ZAO {i:Nat} {x:Str} {e:Expr} {te:TE} {pos':Pos} (L:X.N.Nodup) (hi:X.N[i]?=some x) (Z:Loc X.env.scope x) (z:PE X e te) (B:swapsWith e (some (.Name x pos')) pos.line X.env=pure false:=by rfl) (hf:X.fn x=true∨X.env.scope.names.lookup x=some .local:=by first | exact .inl rfl | exact .inr rfl | assumption) :
  PS X (.Assign [.Name x pos'] e pos) (tAsg te (ZE3 i)):=by
 intro pins s σ H D I h
 refine wpAny_Assign_Name (thn (z pins s σ H _ I h) fun v s1 J=>?_) B
 obtain ⟨y,H1,U,O,q1⟩:=J
 exact ZC3 U L hi Z O (fun s2 Y=>⟨_,H1,Y,q1⟩) hf
noncomputable def tAug (i:Nat) (te:TE) (ti:TIp):TS:=fun D σ H=>∃ x,σ[i]?=some (some x) /\ te σ H fun y H1=>ti x y H1 fun z H2=>D.nx (σ.set i (some z)) H2
theorem ZE6 {i:Nat} {x:Str} {e:Expr} {te:TE} {op:Operator} {ti:TIp} {pos':Pos} (hN:X.N.Nodup) (hi:X.N[i]?=some x) (U:Loc X.env.scope x) (he:PE X e te) (ho:PIp X op ti) (hf:X.fn x=true∨X.env.scope.names.lookup x=some .local:=by first | exact .inl rfl | exact .inr rfl | assumption) :
  PS X (.AugAssign (.Name x pos') op e pos) (tAug i te ti):=by
 intro pins s σ H D I h
 obtain ⟨v,e1,h⟩:=h
 obtain ⟨m,hn,hl⟩:=I.loc
 have Y:Vis X.env.scope x:=by rcases U with k | k;exact .inl k;exact .inr (.inl k)
 obtain ⟨u,r,l⟩:=hl i x v hi e1 Y
 refine wpAny_AugAssign_Name ?_
 have Z:wpAny (model X.prog X.w) X.A (eval e X.env) (fun w s₂=>wpAny (model X.prog X.w) X.A (inplaceOp op u w) (fun r L=>wpAny (model X.prog X.w) X.A (storeName X.env x r) (fun _=>SP X pins D .next) X.xe L) X.xe s₂) X.xe s:=by
  refine thn (he pins s σ H _ I h) fun w s1 O=>?_
  obtain ⟨y,H1,I1,r1,q1⟩:=O
  refine thn (ho pins s1 σ H1 v y u w _ I1 r r1 q1) fun z s2 O=>?_
  obtain ⟨zv,H2,I2,r2,q2⟩:=O
  exact ZC3 I2 hN hi U r2 (fun s3 I3=>⟨_,H2,I3,q2⟩) hf
 rcases l with ⟨B,hm⟩ | ⟨B,c,hc,J⟩
 .exact wpAny_loadName_local I.ok.kind B hn hm Z
 .rcases B with B | B
  .exact wpAny_loadName_cell I.ok.kind B hc J Z
  .rcases U with k | k
   .have:X.env.scope.names.lookup x=some .free:=B
    rw [k] at this;cases this
   .have:X.env.scope.names.lookup x=some .free:=B
    rw [k] at this;cases this
noncomputable def ipI (f:Int->Int->Int):TIp:=fun x y H Q=>∃ i j,x=.int i /\ y=.int j /\ Q (.int (f i j)) H
theorem ZE9:PIp X .Add (ipI fun i j=>i+j):=by
 intro pins s σ H x y v u Q I z J h
 obtain ⟨i,j,L,B,q⟩:=h
 subst L;subst B
 obtain ⟨t,rfl⟩:=z
 obtain ⟨t',rfl⟩:=J
 exact iadd_int ⟨.int _,H,I.tok _,⟨_,rfl⟩,q⟩
end
section
variable {X:Cx} {pos:Pos}
noncomputable def tWhile (c:TT) (tb:TS):TS:=fun D σ H=>∃ W:Nat->St->Hp->Prop,(∃ m,W m σ H) /\ ∀ m σ H,W m σ H ->
 c σ H fun b H1=>if b=true then ∃ N:St->Hp->Prop,(∀ σ' H',N σ' H'->∃ m',m' < m /\ W m' σ' H') /\ tb { D with nx:=N,ct:=N,bk:=D.nx } σ H1 else D.nx σ H1
theorem ZB1 {c:Expr} {body:List Stmt} {tc:TT} {tb:TS} (hp:PassesOwn (model X.prog X.w) X.A X.env X.xe) (hc:PT X c tc) (hb:PSs X body tb):PS X (.While c body [] pos) (tWhile tc tb):=by
 intro pins s σ H D I h
 obtain ⟨W,⟨m0,w0⟩,turn⟩:=h
 refine wpAny_While (codeAny_whileLoop (fun n s'=>∃ J H',Inv X pins J H' s' /\ W n J H') ?_ m0 ⟨σ,H,I,w0⟩)
 rintro n s1 ⟨B,H1,I1,w1⟩
 refine wpAny_passesOwn hp (thn (hc pins s1 B H1 _ I1 (turn n B H1 w1)) fun b s2 ⟨H2,I2,O⟩=>?_)
 cases b with
 | true=>
  obtain ⟨N,hN,O⟩:=O
  rw [if_pos rfl]
  refine wpAny_passesOwn hp (thn (hb pins s2 B H2 _ I2 O) fun f s3 L=>?_)
  cases f with
  | next=>
   obtain ⟨z,H3,Y,U⟩:=L
   obtain ⟨Z,hm,w3⟩:=hN z H3 U
   exact ⟨Z,hm,z,H3,Y,w3⟩
  | cont=>
   obtain ⟨z,H3,Y,U⟩:=L
   obtain ⟨Z,hm,w3⟩:=hN z H3 U
   exact ⟨Z,hm,z,H3,Y,w3⟩
  | brk=>exact L
  | ret v=>exact L
 | false=>
  rw [if_neg yBB]
  exact wpAny_execs_nil ⟨B,H2,I2,O⟩
end
structure It where
 go:Nat->Hp->Prop
 yld:Nat->Hp->V->Hp->Prop
 stop:Nat->Hp->Prop
noncomputable def FpOk (X:Cx) (pins:List (Addr×Obj)) (H:Hp) (b:Addr):Prop :=
 H b=none /\ b≠X.env.locals /\ b∉X.fs /\ (b∈X.ex∨X.s₀.heap.objs.size <= b) /\ (∀ x c,X.env.cells.lookup x=some c->c≠b) /\ ∀ p∈X.pn++pins,p.1≠b
theorem Inv.fpOk {X:Cx} {pins:List (Addr×Obj)} {σ:St} {H H':Hp} {s:Shared} {b:Addr} (I:Inv X pins σ H s) (B:s.heap.objs.size <= b) (hn:H' b=none):FpOk X pins H' b:=by
 refine ⟨hn,Nat.ne_of_gt (yAW I.lt B),I.nofs B,.inr (yAK I.sz B),fun x c e z=>?_,fun p J z=>?_⟩
 .obtain ⟨v,q⟩:=I.cell x c e
  exact absurd (yAW q.lt (by rw [z];exact B)) (yBI _)
 .exact absurd (yAW (Heap.lt_size (I.pin p J).1) (by rw [z];exact B)) (yBI _)
structure Turn (P:Program) (w:World) (K:W.Frag) (tg:Expr) (J:It) (fp:List Addr) (it:Addr) (tn:Nat->Heap->Prop):Prop where
 mem:it∈fp
 obj:∀ i h,tn i h->∀ b∈fp,∃ o,h.get? b=some o /\ ∀ v,o.data≠.cell v
 keep:∀ i h h',tn i h->(∀ b∈fp,∀ o,h.get? b=some o->h'.get? b=some o)->tn i h'
 item:∀ (X:Cx),X.prog=P->X.w=w->X.K=K->X.calm=true->∀ (i:Nat) (pins:List (Addr×Obj)) (s:Shared) (σ:St) (H:Hp) (E:Value->Shared->Prop),Inv X pins σ H s->(∀ b∈fp,FpOk X pins H b)->tn i s.heap->J.go i H ->
  wpAny (model P w) X.A (pyNext (.ref it)) (fun r s1=>∃ u,r=some u /\
   wpAny (model P w) X.A (letOwnedTupleGo tg (.ref it) u) (fun _ s2=>∃ x H',Inv X pins σ H' s2 /\ RelV x u /\ J.yld i H x H' /\ tn (i+1) s2.heap /\ ∀ b∈fp,H' b=none) E s1) E s
 done:∀ (X:Cx),X.prog=P->X.w=w->X.K=K->X.calm=true->∀ (i:Nat) (pins:List (Addr×Obj)) (s:Shared) (σ:St) (H:Hp) (E:Value->Shared->Prop),Inv X pins σ H s->(∀ b∈fp,FpOk X pins H b)->tn i s.heap->J.stop i H ->
  wpAny (model P w) X.A (pyNext (.ref it)) (fun r s1=>r=none /\ Inv X pins σ H s1) E s
 self:∀ (A:Around) (i:Nat) (s:Shared) (Q:Value->Shared->Prop) (E:Value->Shared->Prop),tn i s.heap->Q (.ref it) s->wpAny (model P w) A (pyIter (.ref it)) Q E s
noncomputable abbrev TI:=St->Hp->(It->Hp->Prop)->Prop
noncomputable def PIE (X:Cx) (pins:List (Addr×Obj)) (σ:St) (tg:Expr) (R:It->Hp->Prop) (itv:Value) (s2:Shared):Prop :=
 ∃ (it:Addr) (fp:List Addr) (tn:Nat->Heap->Prop) (J:It) (H':Hp),itv=.ref it /\ Inv X pins σ H' s2 /\ Turn X.prog X.w X.K tg J fp it tn /\ tn 0 s2.heap /\ (∀ b∈fp,FpOk X pins H' b) /\ R J H'
noncomputable def PI (X:Cx) (tg iter:Expr) (wi:TI):Prop :=
 ∀ (pins:List (Addr×Obj)) (s:Shared) (σ:St) (H:Hp) (R:It->Hp->Prop),Inv X pins σ H s->wi σ H R ->
  wpAny (model X.prog X.w) X.A (eval iter X.env) (fun v s1=>wpAny (model X.prog X.w) X.A (pyIter v) (PIE X pins σ tg R) X.xe s1) X.xe s
theorem ZGL {M:Model} {A:Around} {E:Value->Shared->Prop} {s:Shared} {tg:Expr} {it:Addr} {u:Value} {o:Obj} {n:String} {vs:Array Value} {Q:Unit->Shared->Prop} (J:s.heap.get? it=some o) (hc:o.cls=.type n) (B:o.data=.fields vs)
  (hn:["enumerate","zip","dict_itemiterator","dict_reverseitemiterator","odict_iterator","itertools.zip_longest","itertools.pairwise"].contains n=false) (z:Q () s):wpAny M A (letOwnedTupleGo tg (.ref it) u) Q E s:=by
 unfold letOwnedTupleGo
 cases tg <;> first
  | exact wpAny_pure z
  | (cases u <;> first
    | exact wpAny_pure z
    | (refine wpAny_bind (wpAny_load J ?_)
       rw [hc,B]
       show wpAny M A (if (["enumerate","zip","dict_itemiterator","dict_reverseitemiterator","odict_iterator","itertools.zip_longest","itertools.pairwise"].contains n && vs[0]? == some (rawInt _))=true then _ else _) Q E s
       rw [if_neg (by intro h;rw [hn,Bool.false_and] at h;cases h)]
       exact wpAny_pure z))
noncomputable def Itl (K:W.Frag) (a:Addr):It :=
 ⟨fun i H=>∃ xs x,SqL K H a xs /\ xs[i]?=some x,fun i H x H'=>H'=H /\ ∀ xs,SqL K H a xs->xs[i]?=some x,fun i H=>∃ xs,SqL K H a xs /\ xs.length <= i⟩
noncomputable def Itr (lo:Int) (n:Nat):It:=⟨fun i _=>i < n,fun i H x H'=>H'=H /\ x=.int (lo+i),fun i _=>n <= i⟩
theorem turn_list {P:Program} {w:World} {K:W.Frag} {tg:Expr} (a it:Addr):Turn P w K tg (Itl K a) [it] it (fun i h=>h.IsListIter it a i) where
 mem:=by simp
 obj:=fun i h st b B=>by
  have e:b=it:=by simpa using B
  subst e
  obtain ⟨o,e,c,d⟩:=st
  exact ⟨o,e,fun v z=>by rw [d] at z;cases z⟩
 keep:=fun i h h' st k=>st.at fun o e=>k it (by simp) o e
 item:=by
  intro X Y hw U hc i pins s σ H E I L st Z
  subst Y hw U
  obtain ⟨xs,x,O,hx⟩:=Z
  obtain ⟨its,rv,p,hz⟩:=I.list O
  obtain ⟨u,hu,ru⟩:=rv.get hx
  obtain ⟨f0,f1,f2,f3,f4,f5⟩:=L it (by simp)
  refine wpAny_pyNext_list_item st p.isList (x:=u) (by simpa using hu) fun h' J sb=>?_
  have I1:Inv X pins σ H { s with heap:=h' }:=I.turned (t':=s.toks) (fun b o B e=>(sb.2 b B).trans e) f0 f1 f3 f4 f5
  obtain ⟨o,e,c,d⟩:=id J
  exact ⟨u,rfl,ZGL (s:={ s with heap:=h' }) e c d (by decide) ⟨x,H,I1,ru,⟨rfl,fun ys hy=>by rw [I.list_inj hy O];exact hx⟩,J,fun b B=>(L b B).1⟩⟩
 done:=by
  intro X Y hw U hc i pins s σ H E I L st Z
  subst Y hw U
  obtain ⟨xs,O,hx⟩:=Z
  obtain ⟨its,rv,p,hz⟩:=I.list O
  obtain ⟨f0,f1,f2,f3,f4,f5⟩:=L it (by simp)
  have hl:=rv.length
  exact wpAny_pyNext_list_end (I.ok.hd hc) st p.isList (by simp;omega) fun h' eb=>⟨rfl,I.turned (t':=s.toks) (fun b o B e=>eb b o B e) f0 f1 f3 f4 f5⟩
 self:=fun _ _ _ _ _ st h=>wpAny_pyIter_listiter st h
theorem turn_range {P:Program} {w:World} {K:W.Frag} {tg:Expr} (it:Addr) (lo:Int) (n:Nat):Turn P w K tg (Itr lo n) [it] it (fun i h=>IsRangeIter h it (lo+(i:Nat) * 1) ((n:Int)-(i:Nat)) 1) where
 mem:=by simp
 obj:=fun i h st b B=>by
  have e:b=it:=by simpa using B
  subst e
  exact ⟨_,st,fun v z=>by
   have z':Data.fields _=Data.cell v:=z
   cases z'⟩
 keep:=fun i h h' st k=>k it (by simp) _ st
 item:=by
  intro X U hw O hc i pins s σ H E I L st Y
  subst U hw O
  obtain ⟨f0,f1,f2,f3,Z,f5⟩:=L it (by simp)
  have W:=Walks.range (prog:=X.prog) (w:=X.w) (I.ok.hd hc) it lo 1 n
  refine W.item i s _ _ Y st fun v h' tk hv J kk=>?_
  obtain ⟨t,rfl⟩:=hv
  have I1:Inv X pins σ H { s with heap:=h',toks:=tk }:=I.turned (fun b o B e=>kk b o (by simpa using B) e) f0 f1 f3 Z f5
  refine ⟨_,rfl,ZGL (s:={ s with heap:=h',toks:=tk }) (n:="range_iterator") J rfl rfl (by decide) ⟨.int (lo+i),H,I1,⟨t,?_⟩,⟨rfl,rfl⟩,J,fun b B=>(L b B).1⟩⟩
  rw [Int.mul_one]
 done:=by
  intro X U hw O hc i pins s σ H E I L st Y
  subst U hw O
  obtain ⟨f0,f1,f2,f3,Z,f5⟩:=L it (by simp)
  exact wpAny_pyNext_range_end (I.ok.hd hc) st (by have:n <= i:=Y;omega) fun h' eb=>⟨rfl,I.turned (t':=s.toks) (fun b o B e=>eb b o B e) f0 f1 f3 Z f5⟩
 self:=fun _ _ _ _ _ st h=>wpAny_pyIter_rangeiter st h
section
variable {X:Cx} {tg:Expr}
noncomputable def ZGJ (K:W.Frag) (tl:TE):TI:=fun σ H R=>tl σ H fun x H1=>∃ a,x=.ref a /\ (∃ xs,SqL K H1 a xs) /\ R (Itl K a) H1
theorem ZBU {l:Expr} {tl:TE} (hl:PE X l tl):PI X tg l (ZGJ X.K tl):=by
 intro pins s σ H R I h
 refine thn (hl pins s σ H _ I h) fun v s1 J=>?_
 obtain ⟨x,H1,z,L,U⟩:=J
 obtain ⟨a,e,⟨xs,O⟩,q⟩:=U
 subst e
 cases L
 obtain ⟨its,Y,p,Z⟩:=z.list O
 refine wpAny_pyIter_list p.isList ?_
 refine ⟨s1.heap.objs.size,[s1.heap.objs.size],_,_,H1,rfl,z.kept (t':=s1.toks) fun b o e=>Heap.get?_push_of_some _ e,turn_list a _,⟨_,Heap.get?_push_size _ rfl,rfl,rfl⟩,fun b B=>?_,q⟩
 have e:b=s1.heap.objs.size:=by simpa using B
 subst e
 exact z.fpOk (yAB _) (z.hok.fresh (yAB _))
theorem range_it {pins:List (Addr×Obj)} {σ:St} {H:Hp} {s:Shared} {R:It->Hp->Prop} {E:Value->Shared->Prop} {lo hi:Int} {t u v:Tok} {tk:Nat} (I:Inv X pins σ H s) (h1:-(2 ^ 62) <= lo) (h2:lo < 2 ^ 62) (h3:-(2 ^ 62) <= hi) (B:hi < 2 ^ 62)
  (q:R (Itr lo (hi-lo).toNat) H):wpAny (model X.prog X.w) X.A (pyIter (.ref s.heap.objs.size)) (PIE X pins σ tg R) E { s with heap:=s.heap.push { cls:=.type "range",data:=.fields #[.int lo t,.int hi u,.int 1 v] },toks:=tk }:=by
 refine wpAny_pyIter_range (IsRange.new ..) (small_one h1 h2 h3 B) ?_
 have z:Inv X pins σ H { s with heap:=s.heap.push { cls:=.type "range",data:=.fields #[.int lo t,.int hi u,.int 1 v] },toks:=tk }:=I.kept fun b o e=>Heap.get?_push_of_some _ e
 refine ⟨(s.heap.push { cls:=.type "range",data:=.fields #[.int lo t,.int hi u,.int 1 v] }).objs.size,[(s.heap.push { cls:=.type "range",data:=.fields #[.int lo t,.int hi u,.int 1 v] }).objs.size],_,_,H,rfl,
  z.kept (t':=tk) fun b o e=>Heap.get?_push_of_some _ e,turn_range _ lo (hi-lo).toNat,?_,fun b J=>?_,q⟩
 .have O:lo+((0:Nat):Int) * 1=lo:=by simp
  have L:(((hi-lo).toNat:Nat):Int)-((0:Nat):Int)=Builtin.Range.rangeSize lo hi 1:=by rw [rangeSize_one];split <;> omega
  show IsRangeIter _ _ (lo+((0:Nat):Int) * 1) ((((hi-lo).toNat:Nat):Int)-((0:Nat):Int)) 1
  rw [O,L]
  exact Heap.get?_push_size _ rfl
 .have e:b=(s.heap.push { cls:=.type "range",data:=.fields #[.int lo t,.int hi u,.int 1 v] }).objs.size:=by simpa using J
  subst e
  exact z.fpOk (yAB _) (z.hok.fresh (yAB _))
noncomputable def ZGI (ta:TA):TI:=fun σ H R=>ta σ H fun vs H1=>∃ j:Int,vs=[.int j] /\ -(2 ^ 62) <= j /\ j < 2 ^ 62 /\ R (Itr 0 j.toNat) H1
noncomputable def ZGH (ta:TA):TI:=fun σ H R=>ta σ H fun vs H1=>∃ i j:Int,vs=[.int i,.int j] /\ (-(2 ^ 62) <= i /\ i < 2 ^ 62 /\ -(2 ^ 62) <= j /\ j < 2 ^ 62) /\ R (Itr i (j-i).toNat) H1
theorem ZDB {a:Expr} {ta:TA} {p pos:Pos} (Y:Gl X "range") (hm:X.mg "range"=none) (ha:PA X [a] ta) (B:starEach [a] X.env=[(false,eval a X.env)]:=by rfl):PI X tg (.Call (.Name "range" p) [a] [] pos) (ZGI ta):=by
 intro pins s σ H R I h
 refine Call_ (ZCZ I Y hm boot_range (PyProof.Rows.callWith_type1 (thn (ha pos pins s σ H _ I h) fun us s1 J=>?_) B rfl))
 obtain ⟨vs,H1,U,L,z⟩:=J
 obtain ⟨j,e,z,O,q⟩:=z
 subst e
 cases L with
 | cons r rr=>
  cases rr
  obtain ⟨t,rfl⟩:=r
  exact call_range_1 (range_it U (by omega) (by omega) z O (by simpa using q))
theorem pi_range2 {a b:Expr} {ta:TA} {p pos:Pos} (hg:Gl X "range") (hm:X.mg "range"=none) (ha:PA X [a,b] ta) (J:starEach [a,b] X.env=[(false,eval a X.env),(false,eval b X.env)]:=by rfl) (z:starEach [b] X.env=[(false,eval b X.env)]:=by rfl) :
  PI X tg (.Call (.Name "range" p) [a,b] [] pos) (ZGH ta):=by
 intro pins s σ H R I h
 refine Call_ (ZCZ I hg hm boot_range (PyProof.Rows.callWith_type1 (thn (ha pos pins s σ H _ I h) fun us s1 L=>?_) (by rw [J,z]) (by rw [z];rfl)))
 obtain ⟨vs,H1,Z,U,B⟩:=L
 obtain ⟨i,j,e,⟨B,Y,O,q4⟩,q⟩:=B
 subst e
 cases U with
 | cons r rr=>
  cases rr with
  | cons r' rr=>
   cases rr
   obtain ⟨t,rfl⟩:=r
   obtain ⟨t',rfl⟩:=r'
   exact call_range_2 (range_it Z B Y O q4 q)
noncomputable def tFor (wi:TI) (g:TG) (tb:TS):TS:=fun D σ H=>wi σ H fun J H1=>∃ W:Nat->Nat->St->Hp->Prop,(∃ m,W 0 m σ H1) /\ ∀ i m σ H,W i m σ H ->
 (J.stop i H /\ D.nx σ H)∨(J.go i H /\ ∃ N:St->Hp->Prop,(∀ σ' H',N σ' H'->∃ m',m' < m /\ W (i+1) m' σ' H') /\ ∀ x H',J.yld i H x H'->g x σ H' fun σ2 H2=>tb { D with nx:=N,ct:=N,bk:=D.nx } σ2 H2)
noncomputable def ZEU (fp:List Addr) (h:Heap):List (Addr×Obj):=fp.filterMap fun b=>(h.get? b).map fun o=>(b,o)
theorem ZCn {fp:List Addr} {h:Heap} {b:Addr} {o:Obj} (z:b∈fp) (e:h.get? b=some o):(b,o)∈ZEU fp h:=List.mem_filterMap.mpr ⟨b,z,by rw [e];rfl⟩
theorem of_pinsAt {fp:List Addr} {h:Heap} {p:Addr×Obj} (z:p∈ZEU fp h):p.1∈fp /\ h.get? p.1=some p.2:=by
 obtain ⟨b,B,e⟩:=List.mem_filterMap.mp z
 cases q:h.get? b with
 | none=>rw [q] at e;cases e
 | some o=>
  rw [q] at e
  have J:(b,o)=p:=Option.some.inj e
  subst J
  exact ⟨B,q⟩
theorem Inv.pinned {pins:List (Addr×Obj)} {σ:St} {H:Hp} {s:Shared} {fp:List Addr} (I:Inv X pins σ H s) (O:∀ b∈fp,FpOk X pins H b) (L:∀ b∈fp,∃ o,s.heap.get? b=some o /\ ∀ v,o.data≠.cell v):Inv X (pins++ZEU fp s.heap) σ H s :=
 I.pins_of fun p U=>(yAX.mp U).elim (fun z=>I.pin p (yAQ _ z)) fun z=>by
  obtain ⟨B,e⟩:=of_pinsAt z
  obtain ⟨f0,f1,Y,_⟩:=O p.1 B
  obtain ⟨o,J,d⟩:=L p.1 B
  rw [e] at J;cases J
  exact ⟨e,f0,f1,Y,d⟩
theorem Inv.unpinned {pins pl:List (Addr×Obj)} {σ:St} {H:Hp} {s:Shared} (I:Inv X (pins++pl) σ H s):Inv X pins σ H s:=I.pins_of fun p z=>I.pin p (yAQ _ (yBJ _ z))
theorem ZB2 {iter:Expr} {body:List Stmt} {wi:TI} {g:TG} {tb:TS} {pos:Pos} (hp:PassesOwn (model X.prog X.w) X.A X.env X.xe) (hc:X.calm=true) (hi:PI X tg iter wi) (hg:PG X tg g) (B:PSs X body tb)
  (hs:∀ x,foldedSetIterable iter X.env x=pure x:=by intro _;rfl):PS X (.For tg iter body [] pos) (tFor wi g tb):=by
 intro pins s σ H D I h
 refine wpAny_For (thn (hi pins s σ H _ I h) fun v s1 h1=>thn h1 fun a8 s2 h2=>?_) hs
 obtain ⟨it,fp,tn,J,H2,e,I2,T,a5,f2,W,⟨m0,w0⟩,turn⟩:=h2
 subst e
 have U:∀ {H':Hp},(∀ b∈fp,H' b=none)->∀ b∈fp,FpOk X pins H' b:=fun hn b B=>⟨hn b B,(f2 b B).2⟩
 refine codeAny_forLoop_any (fun n s'=>∃ i Y H',Inv X pins Y H' s' /\ tn i s'.heap /\ (∀ b∈fp,H' b=none) /\ W i n Y H') ?_ m0 ⟨0,σ,H2,I2,a5,fun b B=>(f2 b B).1,w0⟩
 rintro n s3 ⟨i,O,H3,I3,a3,a2,w3⟩
 rcases turn i n O H3 w3 with ⟨stop,qn⟩ | ⟨go,N,hN,step⟩
 .refine wpAny_passesOwn hp (thn (T.done X rfl rfl rfl hc i pins s3 O H3 X.xe I3 (U a2) a3 stop) fun r s4 ⟨hr,I4⟩=>?_)
  subst hr
  exact wpAny_execs_nil ⟨O,H3,I4,qn⟩
 .refine wpAny_passesOwn hp (thn (T.item X rfl rfl rfl hc i pins s3 O H3 X.xe I3 (U a2) a3 go) fun r s4 ⟨u,hr,h4⟩=>?_)
  subst hr
  refine wpAny_passesOwn hp (thn h4 fun _ s5 zz=>?_)
  obtain ⟨x,H5,I5,r5,y5,a1,a4⟩:=zz
  have a7:=I5.pinned (U a4) (T.obj _ _ a1)
  refine wpAny_passesOwn hp (thn (hg _ s5 O H5 x u _ a7 r5 (step x H5 y5)) fun _ s6 zz=>?_)
  obtain ⟨a6,H6,I6,q6⟩:=zz
  refine wpAny_passesOwn hp (thn (B _ s6 a6 H6 _ I6 q6) fun f s7 q7=>?_)
  have a0:∀ {z:St} {L:Hp},Inv X (pins++ZEU fp s5.heap) z L s7->N z L->∃ m,m < n /\ ∃ i Y H',Inv X pins Y H' s7 /\ tn i s7.heap /\ (∀ b∈fp,H' b=none) /\ W i m Y H':=fun {z L} Z n7=>by
   obtain ⟨m',hm,w7⟩:=hN z L n7
   refine ⟨m',hm,i+1,z,L,Z.unpinned,T.keep _ _ _ a1 fun b B o e=>(Z.pin (b,o) (yAQ _ (yAQ _ (ZCn B e)))).1,fun b B=>?_,w7⟩
   obtain ⟨o,e,d⟩:=T.obj _ _ a1 b B
   exact (Z.pin (b,o) (yAQ _ (yAQ _ (ZCn B e)))).2.1
  cases f with
  | next=>obtain ⟨z,L,Z,n7⟩:=q7;exact a0 Z n7
  | cont=>obtain ⟨z,L,Z,n7⟩:=q7;exact a0 Z n7
  | brk=>obtain ⟨z,L,Z,q7⟩:=q7;exact ⟨z,L,Z.unpinned,q7⟩
  | ret v=>obtain ⟨x7,z,L,Z,r7,q7⟩:=q7;exact ⟨x7,z,L,Z.unpinned,r7,q7⟩
end
theorem for_list {K:W.Frag} {a:Addr} {xs:List V} {g:TG} {tb:TS} {D:Ends} {σ:St} {H:Hp} (z:Nat->St->Hp->Prop) (Y:z 0 σ H) (hl:∀ i σ H,i <= xs.length->z i σ H->SqL K H a xs)
  (O:∀ i x σ H,xs[i]?=some x->z i σ H->g x σ H fun J H2=>tb { D with nx:=z (i+1),ct:=z (i+1),bk:=D.nx } J H2) (Z:∀ σ H,z xs.length σ H->D.nx σ H) :
  ∃ W:Nat->Nat->St->Hp->Prop,(∃ m,W 0 m σ H) /\ ∀ i m σ H,W i m σ H ->
   ((Itl K a).stop i H /\ D.nx σ H)∨((Itl K a).go i H /\ ∃ N:St->Hp->Prop,(∀ B H',N B H'->∃ L,L < m /\ W (i+1) L B H') /\ ∀ x H',(Itl K a).yld i H x H'->g x σ H' fun J H2=>tb { D with nx:=N,ct:=N,bk:=D.nx } J H2):=by
 refine ⟨fun i m σ H=>m=xs.length-i /\ i <= xs.length /\ z i σ H,⟨xs.length,by simp,yAJ _,Y⟩,?_⟩
 rintro i m σ H ⟨rfl,hi,p⟩
 have q:=hl i σ H hi p
 by_cases hlt:i < xs.length
 .refine .inr ⟨⟨xs,xs[i],q,by simp [hlt]⟩,z (i+1),fun B H' U=>⟨xs.length-(i+1),by omega,rfl,hlt,U⟩,fun x H' y=>?_⟩
  obtain ⟨e,y⟩:=y
  subst e
  exact O i x σ _ (y xs q) p
 .have e:i=xs.length:=by omega
  subst e
  exact .inl ⟨⟨xs,q,yAB _⟩,Z σ H p⟩
theorem for_range {lo:Int} {n:Nat} {g:TG} {tb:TS} {D:Ends} {σ:St} {H:Hp} (z:Nat->St->Hp->Prop) (Y:z 0 σ H)
  (O:∀ i σ H,i < n->z i σ H->g (.int (lo+i)) σ H fun J H2=>tb { D with nx:=z (i+1),ct:=z (i+1),bk:=D.nx } J H2) (Z:∀ σ H,z n σ H->D.nx σ H) :
  ∃ W:Nat->Nat->St->Hp->Prop,(∃ m,W 0 m σ H) /\ ∀ i m σ H,W i m σ H ->
   ((Itr lo n).stop i H /\ D.nx σ H)∨((Itr lo n).go i H /\ ∃ N:St->Hp->Prop,(∀ B H',N B H'->∃ L,L < m /\ W (i+1) L B H') /\ ∀ x H',(Itr lo n).yld i H x H'->g x σ H' fun J H2=>tb { D with nx:=N,ct:=N,bk:=D.nx } J H2):=by
 refine ⟨fun i m σ H=>m=n-i /\ i <= n /\ z i σ H,⟨n,by simp,yAJ _,Y⟩,?_⟩
 rintro i m σ H ⟨rfl,hi,p⟩
 by_cases hlt:i < n
 .refine .inr ⟨hlt,z (i+1),fun B H' U=>⟨n-(i+1),by omega,rfl,hlt,U⟩,fun x H' y=>?_⟩
  obtain ⟨e,y⟩:=y
  subst e y
  exact O i σ _ hlt p
 .have e:i=n:=by omega
  subst e
  exact .inl ⟨yAB _,Z σ H p⟩
noncomputable abbrev R2:=V->V->Hp->VK->Prop
noncomputable def OpR (X:Cx) (f:Value->Value->Sem Value) (r:R2):Prop :=
 ∀ (pins:List (Addr×Obj)) (s:Shared) (σ:St) (H:Hp) (x y:V) (v u:Value) (Q:VK),Inv X pins σ H s->RelV x v->RelV y u->r x y H Q ->
  wpAny (model X.prog X.w) X.A (f v u) (EP X pins σ Q) X.xe s
noncomputable def UnR (X:Cx) (f:Value->Sem Value) (r:V->Hp->VK->Prop):Prop :=
 ∀ (pins:List (Addr×Obj)) (s:Shared) (σ:St) (H:Hp) (x:V) (v:Value) (Q:VK),Inv X pins σ H s->RelV x v->r x H Q ->
  wpAny (model X.prog X.w) X.A (f v) (EP X pins σ Q) X.xe s
noncomputable def ZC1 (X:Cx) (f:Value) (r:List V->Hp->VK->Prop):Prop :=
 ∀ (pins:List (Addr×Obj)) (s:Shared) (σ:St) (H:Hp) (xs:List V) (us:List Value) (Q:VK),Inv X pins σ H s->Vals xs us->r xs H Q ->
  wpAny (model X.prog X.w) X.A (call f us) (EP X pins σ Q) X.xe s
noncomputable def tOp (r:R2) (ta tb:TE):TE:=fun σ H Q=>ta σ H fun x H1=>tb σ H1 fun y H2=>r x y H2 Q
noncomputable def tUn (r:V->Hp->VK->Prop) (ta:TE):TE:=fun σ H Q=>ta σ H fun x H1=>r x H1 Q
noncomputable def rI (C:Int->Int->Prop) (g:Int->Int->V):R2:=fun x y H Q=>∃ i j,x=.int i /\ y=.int j /\ C i j /\ Q (g i j) H
noncomputable def rI0 (g:Int->Int->V):R2:=fun x y H Q=>∃ i j,x=.int i /\ y=.int j /\ Q (g i j) H
noncomputable def rU (g:Int->V):V->Hp->VK->Prop:=fun x H Q=>∃ i,x=.int i /\ Q (g i) H
section
variable {X:Cx} {a b c:Expr} {ta tb tc:TE} {pos:Pos}
theorem binT (ha:PE X a ta) (B:PE X b tb) {pins:List (Addr×Obj)} {s:Shared} {σ:St} {H:Hp} {R:V->V->Hp->Prop} (I:Inv X pins σ H s)
  (h:ta σ H fun x H1=>tb σ H1 fun y H2=>R x y H2) {Q:Value->Shared->Prop} {f:Value->Value->Sem Value}
  (Z:∀ v u s2 x y H2,Inv X pins σ H2 s2->RelV x v->RelV y u->R x y H2->wpAny (model X.prog X.w) X.A (f v u) Q X.xe s2) :
  wpAny (model X.prog X.w) X.A (eval a X.env) (fun v s₁=>wpAny (model X.prog X.w) X.A (eval b X.env) (fun u s₂=>wpAny (model X.prog X.w) X.A (f v u) Q X.xe s₂) X.xe s₁) X.xe s:=by
 refine thn (ha pins s σ H _ I h) fun v s1 z=>?_
 obtain ⟨x,H1,U,J,q1⟩:=z
 refine thn (B pins s1 σ H1 _ U q1) fun u s2 z=>?_
 obtain ⟨y,H2,Y,L,O⟩:=z
 exact Z v u s2 x y H2 Y J L O
theorem ZAR {op:Operator} {r:R2} (B:OpR X (binaryOp op) r) (ha:PE X a ta) (z:PE X b tb):PE X (.BinOp a op b pos) (tOp r ta tb):=by
 intro pins s σ H Q I h
 exact wpAny_BinOp (binT ha z I h fun v u s2 x y H2 L J O q=>B pins s2 σ H2 x y v u Q L J O q)
theorem ZGD {op:UnaryOp} {r:V->Hp->VK->Prop} (L:UnR X (unaryOp op) r) (ha:PE X a ta):PE X (.UnaryOp op a pos) (tUn r ta):=by
 intro pins s σ H Q I h
 exact UnaryOp_ (thn (ha pins s σ H _ I h) fun v s1 ⟨x,H1,z,J,B⟩=>L pins s1 σ H1 x v Q z J B)
theorem opI {f:Value->Value->Sem Value} {C:Int->Int->Prop} {g:Int->Int->Int}
  (z:∀ (i j:Int) (t u:Tok) (s:Shared) (Q:Value->Shared->Prop) (E:Value->Shared->Prop),C i j->Q (.int (g i j) s.toks) { s with toks:=s.toks+1 }->wpAny (model X.prog X.w) X.A (f (.int i t) (.int j u)) Q E s) :
  OpR X f (rI C fun i j=>.int (g i j)):=by
 intro pins s σ H x y v u Q I B J h
 obtain ⟨i,j,rfl,rfl,hc,q⟩:=h
 obtain ⟨t,rfl⟩:=B
 obtain ⟨t',rfl⟩:=J
 exact z i j t t' s _ _ hc ⟨.int (g i j),H,I.tok _,⟨_,rfl⟩,q⟩
theorem opI0 {f:Value->Value->Sem Value} {g:Int->Int->Int}
  (z:∀ (i j:Int) (t u:Tok) (s:Shared) (Q:Value->Shared->Prop) (E:Value->Shared->Prop),Q (.int (g i j) s.toks) { s with toks:=s.toks+1 }->wpAny (model X.prog X.w) X.A (f (.int i t) (.int j u)) Q E s) :
  OpR X f (rI0 fun i j=>.int (g i j)):=by
 intro pins s σ H x y v u Q I B J h
 obtain ⟨i,j,rfl,rfl,q⟩:=h
 obtain ⟨t,rfl⟩:=B
 obtain ⟨t',rfl⟩:=J
 exact z i j t t' s _ _ ⟨.int (g i j),H,I.tok _,⟨_,rfl⟩,q⟩
theorem opB0 {f:Value->Value->Sem Value} {g:Int->Int->Bool}
  (z:∀ (i j:Int) (t u:Tok) (s:Shared) (Q:Value->Shared->Prop) (E:Value->Shared->Prop),Q (.bool (g i j)) s->wpAny (model X.prog X.w) X.A (f (.int i t) (.int j u)) Q E s) :
  OpR X f (rI0 fun i j=>.bl (g i j)):=by
 intro pins s σ H x y v u Q I B J h
 obtain ⟨i,j,rfl,rfl,q⟩:=h
 obtain ⟨t,rfl⟩:=B
 obtain ⟨t',rfl⟩:=J
 exact z i j t t' s _ _ ⟨.bl (g i j),H,I,rfl,q⟩
noncomputable def CDiv (i j:Int):Prop:=0 < j /\ j < 1073741824
noncomputable def CPow (i j:Int):Prop:=0 <= j /\ j <= 1000000 /\ i.natAbs < 2 ^ 64
noncomputable def CMul (i j:Int):Prop:=(-(2 ^ 64) < i /\ i < 2 ^ 64)∨(-(2 ^ 64) < j /\ j < 2 ^ 64)
theorem CMul.ok {i j:Int} (h:CMul i j):IntMulOk i j:=by
 rcases h with ⟨h1,h2⟩ | ⟨h1,h2⟩
 .exact .of_left (intBits_le_64 h1 h2)
 .exact .of_right (intBits_le_64 h1 h2)
theorem ZAh:OpR X (binaryOp .Add) (rI0 fun i j=>.int (i+j)):=opI0 fun _ _ _ _ _ _ _ q=>add_int q
theorem ZBW:OpR X (binaryOp .Sub) (rI0 fun i j=>.int (i-j)):=opI0 fun _ _ _ _ _ _ _ q=>sub_int q
theorem ZCT:OpR X (binaryOp .Mult) (rI CMul fun i j=>.int (i * j)):=opI fun _ _ _ _ _ _ _ hc q=>mul_int q hc.ok
theorem ZBK:OpR X (binaryOp .FloorDiv) (rI CDiv fun i j=>.int (i / j)):=opI fun i j _ _ _ _ _ hc q=>by
 have h1:(0:Int) < j:=hc.1
 have h2:j < 1073741824:=hc.2
 exact floordiv_int (by omega) (by rw [Int.fdiv_eq_ediv_of_nonneg i (by omega)];exact q) (.inl (PyProof.noPylong_small (by omega)))
theorem ZBH:OpR X (binaryOp .Mod) (rI (fun _ j=>0 < j) fun i j=>.int (i % j)):=opI fun i j _ _ _ _ _ hc q=>by
 have h1:(0:Int) < j:=hc
 exact mod_int' (by omega) (by rw [Int.fmod_eq_emod_of_nonneg i (by omega)];exact q)
theorem op_pow:OpR X (binaryOp .Pow) (rI CPow fun i j=>.int (i ^ j.toNat)):=opI fun _ _ _ _ _ _ _ hc q=>pow_int_small hc.1 hc.2.1 hc.2.2 q
theorem unI {f:Value->Sem Value} {g:Int->Int}
  (z:∀ (i:Int) (t:Tok) (s:Shared) (Q:Value->Shared->Prop) (E:Value->Shared->Prop),Q (.int (g i) s.toks) { s with toks:=s.toks+1 }->wpAny (model X.prog X.w) X.A (f (.int i t)) Q E s) :
  UnR X f (rU fun i=>.int (g i)):=by
 intro pins s σ H x v Q I B h
 obtain ⟨i,rfl,q⟩:=h
 obtain ⟨t,rfl⟩:=B
 exact z i t s _ _ ⟨.int (g i),H,I.tok _,⟨_,rfl⟩,q⟩
theorem ZFK:UnR X (unaryOp .USub) (rU fun i=>.int (-i)):=unI fun _ _ _ _ _ q=>neg_int q
end
noncomputable def scal:V->V->Bool
 | .non,.non=>true | .non,.int _=>true | .int _,.non=>true | .non,.bl _=>true | .bl _,.non=>true | .non,.str _=>true | .str _,.non=>true
 | .int _,.int _=>true | .bl _,.bl _=>true | .str _,.str _=>true | .byt _,.byt _=>true
 | .int _,.str _=>true | .str _,.int _=>true | .bl _,.str _=>true | .str _,.bl _=>true
 | _,_=>false
noncomputable def rEq:R2:=fun x y H Q=>scal x y=true /\ Q (.bl (decide (x=y))) H
noncomputable def rNe:R2:=fun x y H Q=>scal x y=true /\ Q (.bl (!decide (x=y))) H
theorem dec_int {i j:Int}:decide (V.int i=V.int j)=(i == j):=by
 rw [Bool.eq_iff_iff]
 simp
theorem dec_bl {i j:Bool}:decide (V.bl i=V.bl j)=(i == j):=by
 rw [Bool.eq_iff_iff]
 simp
theorem dec_str {i j:Str}:decide (V.str i=V.str j)=(i == j):=by
 rw [Bool.eq_iff_iff]
 simp
theorem dec_byt {i j:Array UInt8}:decide (V.byt i=V.byt j)=(i.toList == j.toList):=by
 rw [Bool.eq_iff_iff]
 cases i
 cases j
 simp
section
variable {X:Cx} {a b c:Expr} {ta tb tc:TE} {pos:Pos}
theorem ZAp {pins:List (Addr×Obj)} {σ:St} {H:Hp} {s:Shared} {Q:VK} {k z:Bool} (I:Inv X pins σ H s) (q:Q (.bl k) H) (e:k=z):EP X pins σ Q (.bool z) s:=by
 subst e
 exact ⟨.bl k,H,I,rfl,q⟩
theorem ZCX:OpR X (compareOp .Eq) rEq:=by
 intro pins s σ H x y v u Q I J z h
 obtain ⟨B,q⟩:=h
 cases x with
 | non=>
  cases J
  cases y with
  | non=>cases z;exact PySem.EqNone.eq_none_none (ZAp I q (by simp))
  | bl j=>cases z;exact PySem.EqNone.eq_none_bool (ZAp I q (by simp))
  | int j=>obtain ⟨t',rfl⟩:=z;exact PySem.EqNone.eq_none_int (ZAp I q (by simp))
  | str j=>obtain ⟨t',rfl⟩:=z;exact PySem.EqNone.eq_none_str (ZAp I q (by simp))
  | _=>exact absurd (show false=true from B) yBB
 | bl i=>
  cases J
  cases y with
  | non=>cases z;exact PySem.EqNone.eq_bool_none (ZAp I q (by simp))
  | bl j=>cases z;exact eq_bool (ZAp I q dec_bl)
  | str j=>obtain ⟨t',rfl⟩:=z;exact PySem.EqMixed.eq_bool_str (ZAp I q (by simp))
  | _=>exact absurd (show false=true from B) yBB
 | int i=>
  obtain ⟨t,rfl⟩:=J
  cases y with
  | non=>cases z;exact PySem.EqNone.eq_int_none (ZAp I q (by simp))
  | int j=>obtain ⟨t',rfl⟩:=z;exact eq_int (ZAp I q dec_int)
  | str j=>obtain ⟨t',rfl⟩:=z;exact PySem.EqMixed.eq_int_str (ZAp I q (by simp))
  | _=>exact absurd (show false=true from B) yBB
 | str i=>
  obtain ⟨t,rfl⟩:=J
  cases y with
  | non=>cases z;exact PySem.EqNone.eq_str_none (ZAp I q (by simp))
  | bl j=>cases z;exact PySem.EqMixed.eq_str_bool (ZAp I q (by simp))
  | int j=>obtain ⟨t',rfl⟩:=z;exact PySem.EqMixed.eq_str_int (ZAp I q (by simp))
  | str j=>obtain ⟨t',rfl⟩:=z;exact eq_str (ZAp I q dec_str)
  | _=>exact absurd (show false=true from B) yBB
 | byt i=>
  obtain ⟨t,rfl⟩:=J
  cases y with
  | byt j=>obtain ⟨t',rfl⟩:=z;exact PySem.W.eq_bytes (ZAp I q dec_byt)
  | _=>exact absurd (show false=true from B) yBB
 | _=>cases y <;> exact absurd (show false=true from B) yBB
theorem op_ne:OpR X (compareOp .NotEq) rNe:=by
 intro pins s σ H x y v u Q I J z h
 obtain ⟨B,q⟩:=h
 cases x with
 | non=>
  cases J
  cases y with
  | non=>cases z;exact PySem.EqNone.ne_none_none (ZAp I q (by simp))
  | bl j=>cases z;exact PySem.EqNone.ne_none_bool (ZAp I q (by simp))
  | int j=>obtain ⟨t',rfl⟩:=z;exact PySem.EqNone.ne_none_int (ZAp I q (by simp))
  | str j=>obtain ⟨t',rfl⟩:=z;exact PySem.EqNone.ne_none_str (ZAp I q (by simp))
  | _=>exact absurd (show false=true from B) yBB
 | bl i=>
  cases J
  cases y with
  | non=>cases z;exact PySem.EqNone.ne_bool_none (ZAp I q (by simp))
  | bl j=>cases z;exact ne_bool (ZAp I q (congrArg not dec_bl))
  | str j=>obtain ⟨t',rfl⟩:=z;exact PySem.EqMixed.ne_bool_str (ZAp I q (by simp))
  | _=>exact absurd (show false=true from B) yBB
 | int i=>
  obtain ⟨t,rfl⟩:=J
  cases y with
  | non=>cases z;exact PySem.EqNone.ne_int_none (ZAp I q (by simp))
  | int j=>obtain ⟨t',rfl⟩:=z;exact ne_int (ZAp I q (congrArg not dec_int))
  | str j=>obtain ⟨t',rfl⟩:=z;exact PySem.EqMixed.ne_int_str (ZAp I q (by simp))
  | _=>exact absurd (show false=true from B) yBB
 | str i=>
  obtain ⟨t,rfl⟩:=J
  cases y with
  | non=>cases z;exact PySem.EqNone.ne_str_none (ZAp I q (by simp))
  | bl j=>cases z;exact PySem.EqMixed.ne_str_bool (ZAp I q (by simp))
  | int j=>obtain ⟨t',rfl⟩:=z;exact PySem.EqMixed.ne_str_int (ZAp I q (by simp))
  | str j=>obtain ⟨t',rfl⟩:=z;exact ne_str (ZAp I q (congrArg not dec_str))
  | _=>exact absurd (show false=true from B) yBB
 | byt i=>
  obtain ⟨t,rfl⟩:=J
  cases y with
  | byt j=>obtain ⟨t',rfl⟩:=z;exact PySem.W.ne_bytes (ZAp I q (congrArg not dec_byt))
  | _=>exact absurd (show false=true from B) yBB
 | _=>cases y <;> exact absurd (show false=true from B) yBB
theorem ZDP:OpR X (compareOp .Lt) (rI0 fun i j=>.bl (decide (i < j))):=opB0 fun _ _ _ _ _ _ _ q=>lt_int q
theorem op_le:OpR X (compareOp .LtE) (rI0 fun i j=>.bl (decide (i <= j))):=opB0 fun _ _ _ _ _ _ _ q=>le_int q
theorem ZFj:OpR X (compareOp .Gt) (rI0 fun i j=>.bl (decide (j < i))):=opB0 fun _ _ _ _ _ _ _ q=>gt_int q
theorem ZGE:OpR X (compareOp .GtE) (rI0 fun i j=>.bl (decide (j <= i))):=opB0 fun _ _ _ _ _ _ _ q=>ge_int q
theorem ZDS:OpR X (compareOp .Is) (fun x y H Q=>y=.non /\ Q (.bl (decide (x=.non))) H):=by
 intro pins s σ H x y v u Q I z B h
 obtain ⟨rfl,q⟩:=h
 cases B
 refine is_none_gen (ZAp I q ?_)
 cases x <;> first
  | (cases z;rfl)
  | (obtain ⟨t,rfl⟩:=z;rfl)
theorem op_notN:OpR X (compareOp .IsNot) (fun x y H Q=>y=.non /\ Q (.bl (!decide (x=.non))) H):=by
 intro pins s σ H x y v u Q I z B h
 obtain ⟨rfl,q⟩:=h
 cases B
 refine isnot_none_gen (ZAp I q ?_)
 cases x <;> first
  | (cases z;rfl)
  | (obtain ⟨t,rfl⟩:=z;rfl)
theorem ZAY (b:Expr) {op:CmpOp} (h:op≠.In:=by decide) (h2:op≠.NotIn:=by decide):behindInMarks op b=false:=by
 have B:(op == CmpOp.In)=false:=by cases op <;> first | rfl | exact absurd rfl h
 have z:(op == CmpOp.NotIn)=false:=by cases op <;> first | rfl | exact absurd rfl h2
 cases b <;> simp [behindInMarks,B,z]
theorem ZDk {op:CmpOp} {r:R2} (B:OpR X (compareOp op) r) (ha:PE X a ta) (z:PE X b tb) (hm:behindInMarks op b=false):PE X (.Compare a [op] [b] pos) (tOp r ta tb):=by
 intro pins s σ H Q I h
 exact wpAny_Compare1 (binT ha z I h fun v u s2 x y H2 L J O q=>B pins s2 σ H2 x y v u Q L J O q) hm
noncomputable def ZF2 (t:TE):TT:=fun σ H Q=>t σ H fun x H'=>∃ k,x=.bl k /\ Q k H'
theorem ZAT {op:CmpOp} {r:R2} (O:OpR X (compareOp op) r) (ha:PE X a ta) (B:PE X b tb) (hm:behindInMarks op b=false):PT X (.Compare a [op] [b] pos) (ZF2 (tOp r ta tb)):=by
 intro pins s σ H Q I h
 refine wpAny_isTrue_Compare1 (thn (ha pins s σ H _ I h) fun v s1 ⟨x,H1,Z,L,q1⟩=>thn (B pins s1 σ H1 _ Z q1) fun u s2 ⟨y,H2,I2,U,Y⟩=>
  thn (O pins s2 σ H2 x y v u _ I2 L U Y) fun c s3 ⟨z,H3,I3,r3,k,e,J⟩=>?_) hm
 subst e
 cases r3
 exact wpAny_truthy_bool ⟨H3,I3,J⟩
noncomputable def tChain (r r':R2) (ta tb tc:TE):TE:=fun σ H Q=>ta σ H fun x H1=>tb σ H1 fun y H2=>r x y H2 fun z H3=>∃ k,z=.bl k /\
 (if k=true then tc σ H3 fun w' H4=>r' y w' H4 Q else Q (.bl false) H3)
theorem ZE8:(sizeLine:Nat) < 2 ^ 63:=by rw [sizeLine_eq];decide
theorem ZDu {x:V} {us:List Value} (r:Vals [x] us):∃ u,us=[u] /\ RelV x u:=by
 cases r with
 | cons r1 r2=>cases r2;exact ⟨_,rfl,r1⟩
theorem ZFA {x y:V} {us:List Value} (r:Vals [x,y] us):∃ u w',us=[u,w'] /\ RelV x u /\ RelV y w':=by
 cases r with
 | cons r1 r2=>
  cases r2 with
  | cons r3 r4=>cases r4;exact ⟨_,_,rfl,r1,r3⟩
theorem ZDr (hc:X.calm=true):ZC1 X (.builtin "max") (fun xs H Q=>∃ i j,xs=[.int i,.int j] /\ Q (.int (if j > i then j else i)) H):=by
 intro pins s σ H xs us Q I r h
 obtain ⟨i,j,rfl,q⟩:=h
 obtain ⟨u,w',rfl,⟨t,rfl⟩,⟨t',rfl⟩⟩:=ZFA r
 refine max_two_ints (I.ok.hd hc) fun h' tk k=>⟨_,H,I.kept k,?_,q⟩
 by_cases hj:j > i
 .rw [if_pos hj,if_pos hj];exact ⟨_,rfl⟩
 .rw [if_neg hj,if_neg hj];exact ⟨_,rfl⟩
theorem ZBx (hc:X.calm=true):ZC1 X (.builtin "min") (fun xs H Q=>∃ i j,xs=[.int i,.int j] /\ Q (.int (if j < i then j else i)) H):=by
 intro pins s σ H xs us Q I r h
 obtain ⟨i,j,rfl,q⟩:=h
 obtain ⟨u,w',rfl,⟨t,rfl⟩,⟨t',rfl⟩⟩:=ZFA r
 refine min_two_ints (I.ok.hd hc) fun h' tk k=>⟨_,H,I.kept k,?_,q⟩
 by_cases hj:j < i
 .rw [if_pos hj,if_pos hj];exact ⟨_,rfl⟩
 .rw [if_neg hj,if_neg hj];exact ⟨_,rfl⟩
end
structure ObjM (h:Heap) (x dx C:Addr) (mA:Str->Option Value):Prop where
 obj:h.get? x=some (PySem.W.instObj C dx)
 ns:h.Ns1 dx mA
 ne:dx≠x
theorem lookIn_ns {h:Heap} {dx:Addr} {mA:Str->Option Value} (n:h.Ns1 dx mA):∃ od,h.get? dx=some od /\ ∀ name,PySem.W.lookIn name od=some (mA name):=by
 obtain ⟨o,es,Y,J,U,L,_,hm⟩:=n
 refine ⟨o,J,fun name=>?_⟩
 have e:=hm name
 unfold nsFind findBy at e
 rw [<- Array.find?_toList] at e
 unfold PySem.W.lookIn
 rw [U]
 dsimp only
 split
 .rename_i y q
  rw [q] at e
  exact congrArg some e
 .rename_i q
  rw [q] at e
  have a:es.toList.any (·.refKey)=false:=by
   rw [List.any_eq_false]
   intro y O
   obtain ⟨z,t,B⟩:=L y (Array.mem_toList_iff.mp O)
   simp [DictEntry.refKey,B]
  have a':¬ es.toList.any (·.refKey)=true:=by rw [a];exact yBB
  rw [if_neg a']
  exact congrArg some e
theorem ObjM.look {h:Heap} {x dx C:Addr} {mA:Str->Option Value} (I:ObjM h x dx C mA):∃ od,PySem.W.InstAt h x (PySem.W.instObj C dx) C (some od) /\ ∀ name,PySem.W.lookIn name od=some (mA name) :=
 let ⟨od,ho,hl⟩:=lookIn_ns I.ns
 ⟨od,⟨I.obj,rfl,rfl,ho⟩,hl⟩
section
variable {prog:Program} {w:World} {A:Around} {E:Value->Shared->Prop} {s:Shared} {K:W.Frag} {x dx C f:Addr} {mA:Str->Option Value} {name:Str} {v:Value}
theorem get_map {z:Bool} {Q:Value->Shared->Prop} (X:K.In s.heap) (I:ObjM s.heap x dx C mA) (O:PySem.W.plainGet K C name=true) (U:PySem.W.hasDictIn K C=true)
  (ha:W.findIn K (.ref C) name=some none) (L:mA name=some v) (B:PySem.W.handedIn v=true) (h:Q v { s with toks:=s.toks+1 }) :
  wpAny (model prog w) A (getAttr (.ref x) name z) Q E s:=by
 obtain ⟨od,J,hl⟩:=I.look
 exact PySem.W.get_value X J (PySem.W.plainGet_of O).1 (PySem.W.findObj_own U ha rfl (by rw [hl,L])) B h
theorem get_meth {pl:Sem Bool} {Q:Value×List Value->Shared->Prop} (X:K.In s.heap) (I:ObjM s.heap x dx C mA) (z:PySem.W.plainGet K C name=true)
  (L:W.findIn K (.ref C) name=some (some (.ref f))) (O:PySem.W.isFn K (.ref f)=true) (B:mA name=none) (h:Q (.ref f,[.ref x]) s) :
  wpAny (model prog w) A (getMethod (.ref x) name pl) Q E s:=by
 obtain ⟨od,J,hl⟩:=I.look
 exact PySem.W.method_fn X J (PySem.W.plainGet_of z).1 (PySem.W.plainGet_of z).2 L (beq_iff_eq.mp O) (by show (PySem.W.lookIn name od).map (·.isSome)=some false;rw [hl,B];rfl) h
theorem set_map {ns:List Str} {Q:Unit->Shared->Prop} (X:K.In s.heap) (I:ObjM s.heap x dx C mA)
  (Z:W.findIn K (.ref C) "__setattr__"=some (some (.builtin "object.__setattr__"))) (hp:PySem.W.plainOver K C=true) (ht:PySem.W.takerIn K C name=some none) (hh:PySem.W.hasDictIn K C=true)
  (hw:PySem.Within mA ns) (hsz:ns.length <= sizeLine)
  (h:∀ h',ObjM h' x dx C (fun y=>if y=name then some v else mA y)->Heap.SameBut dx s.heap h'->Q () { s with heap:=h',toks:=s.toks+2 }) :
  wpAny (model prog w) A (setAttr (.ref x) name v) Q E s:=by
 obtain ⟨od,J,hl⟩:=I.look
 refine PySem.W.set_plain X J Z (PySem.W.osa_open (s:={ s with toks:=s.toks+1 }) (r:=none) X J hp ht fun b=>?_)
 obtain ⟨cd,hc,U⟩:=PySem.W.any_some hh
 have hx:s.heap.get? x=some ⟨.ref C,some dx,.plain,#[]⟩:=I.obj
 refine wpAny_bind (wpAny_pure (wpAny_bind (wpAny_bind (wpAny_loadPart hx (wpAny_bind (PySem.W.Looks.here (s:={ s with toks:=s.toks+1 }) (PySem.W.looks_clsIn X hc) ?_))))))
 rw [U]
 refine wpAny_pure (a:=some dx) (wpAny_bind (wpAny_pure (wpAny_bind ?_)))
 refine wpAny_nsSet1 (s:={ s with toks:=s.toks+1 }) I.ns fun h' z B=>?_
 obtain ⟨oD,a0,a1,Y,L,O⟩:=z.count (PySem.Within.cons name v hw)
 refine wpAny_bind (wpAny_lookBehind Y (by rw [L];exact pastItsLine_dict (yAK O (by rw [yAG];omega))) ?_)
 exact wpAny_pure (h _ ⟨(B.2 _ (Ne.symm I.ne)).trans I.obj,z,I.ne⟩ B)
theorem make_map {R:Result->Shared->Prop} {vs:List Value} {z:List (Str×Value)} (X:K.In s.heap) (hm:PySem.W.makesIn K C=true)
  (hi:W.findIn K (.ref C) "__init__"=some (some (.ref f))) (B:PySem.W.typeIn K (.ref f)=some (.type "function"))
  (h:codeAny (model prog w) (A.under (.builtin "type.__call__" ⟨.ref C::vs,z⟩)) (.call (.ref f) ⟨.ref (s.heap.objs.size+1)::vs,z⟩) (PySem.W.InitBack (s.heap.objs.size+1) R)
   { s with heap:=(s.heap.push PySem.W.emptyDict).push (PySem.W.instObj C s.heap.objs.size) }) :
  codeAny (model prog w) A (.call (.ref C) ⟨vs,z⟩) R s:=by
 obtain ⟨J,g,d,t,os⟩:=s
 exact PySem.W.make_core (PySem.W.makes_of X hm) (PySem.W.looks_findIn X hi) (fun self=>PySem.W.bind_fn X self B) (.inl rfl) h
end
noncomputable def putF (f:Str) (v:V):List (Str×V)->List (Str×V)
 | []=>[(f,v)]
 | (g,x)::r=>if g=f then (g,v)::r else (g,x)::putF f v r
theorem ZAa (f g:Str) (v:V):∀ fs:List (Str×V),(putF f v fs).lookup g=if g=f then some v else fs.lookup g
 | []=>by
  show List.lookup g [(f,v)]=_
  by_cases h:g=f
  .have z:(g == f)=true:=beq_iff_eq.mpr h
   simp only [List.lookup,z,if_pos h]
  .have z:(g == f)=false:=beq_eq_false_iff_ne.mpr h
   simp only [List.lookup,z,if_neg h]
 | (k,x)::r=>by
  have B:=ZAa f g v r
  rw [show putF f v ((k,x)::r)=(if k=f then (k,v)::r else (k,x)::putF f v r) from rfl]
  by_cases hk:k=f
  .rw [if_pos hk]
   by_cases h:g=k
   .have z:(g == k)=true:=beq_iff_eq.mpr h
    simp only [List.lookup,z,if_pos (h.trans hk)]
   .have z:(g == k)=false:=beq_eq_false_iff_ne.mpr h
    simp only [List.lookup,z,if_neg (fun e:g=f=>h (e.trans hk.symm))]
  .rw [if_neg hk]
   by_cases h:g=k
   .have z:(g == k)=true:=beq_iff_eq.mpr h
    simp only [List.lookup,z,if_neg (fun e:g=f=>hk (h.symm.trans e))]
   .have z:(g == k)=false:=beq_eq_false_iff_ne.mpr h
    simp only [List.lookup,z]
    exact B
theorem ZDm (f:Str) (v:V):∀ fs:List (Str×V),f∈(putF f v fs).map (·.1) /\ ∀ g,g∈fs.map (·.1)->g∈(putF f v fs).map (·.1)
 | []=>⟨by simp [putF],fun g h=>by simp at h⟩
 | (k,x)::r=>by
  obtain ⟨i1,i2⟩:=ZDm f v r
  rw [show putF f v ((k,x)::r)=(if k=f then (k,v)::r else (k,x)::putF f v r) from rfl]
  by_cases hk:k=f
  .rw [if_pos hk]
   subst hk
   exact ⟨by simp,fun g h=>by simpa using h⟩
  .rw [if_neg hk]
   refine ⟨?_,fun g h=>?_⟩
   .rw [yAS]
    exact yAD _ i1
   .rw [yAS] at h ⊢
    rcases yAF.mp h with e | e
    .exact yAF.mpr (.inl e)
    .exact yAD _ (i2 g e)
theorem ZCx (f:Str) (v:V):∀ fs:List (Str×V),(putF f v fs).length <= fs.length+1
 | []=>by simp [putF]
 | (k,x)::r=>by
  have z:=ZCx f v r
  rw [show putF f v ((k,x)::r)=(if k=f then (k,v)::r else (k,x)::putF f v r) from rfl]
  by_cases hk:k=f
  .rw [if_pos hk,yAG,yAG];omega
  .rw [if_neg hk,yAG,yAG];omega
theorem RelO.some_of {v:V} {o:Option Value} (r:RelO (some v) o):∃ u,o=some u /\ RelV v u:=by
 cases o with
 | none=>exact (show False from r).elim
 | some u=>exact ⟨u,rfl,r⟩
theorem RelO.none_of {o:Option Value} (r:RelO none o):o=none:=by
 cases o with
 | none=>rfl
 | some u=>exact (show False from r).elim
theorem handed_of {v:V} {u:Value} (r:RelV v u):PySem.W.handedIn u=true:=by
 cases v with
 | non=>cases (show u=Value.none from r);rfl
 | bl b=>cases (show u=Value.bool b from r);rfl
 | int i=>obtain ⟨t,e⟩:=(show ∃ t,u=Value.int i t from r);cases e;rfl
 | str x=>obtain ⟨t,e⟩:=(show ∃ t,u=Value.str x t from r);cases e;rfl
 | byt b=>obtain ⟨t,e⟩:=(show ∃ t,u=Value.bytes b t from r);cases e;rfl
 | flt b=>obtain ⟨t,e⟩:=(show ∃ t,u=Value.float b t from r);cases e;rfl
 | ref a=>cases (show u=Value.ref a from r);rfl
 | ty n=>cases (show u=Value.type n from r);rfl
section
variable {P:Program} {w:World} {H H':Hp} {h h':Heap} {a C dx:Addr} {fs fs':List (Str×V)}
theorem ZEG (B:HOk P w H h) (e:H a=some (.ins C dx fs)):∃ mA,ObjM h a dx C mA /\ (∀ f,RelO (fs.lookup f) (mA f)) /\ PySem.Within mA (fs.map (·.1)) /\ fs.length <= 1000 /\ H dx=some (.own a):=by
 obtain ⟨d,z,ne,ob,mA,n,r,q⟩:=(show ObjOk P w H h a (.ins C dx fs) from B a _ e)
 exact ⟨mA,⟨ob,n,ne⟩,r,q,z,d⟩
end
structure Cls (K:W.Frag) (C:Addr):Prop where
 pg:PySem.W.plainGet K C Str.empty=true
 hd:PySem.W.hasDictIn K C=true
 po:PySem.W.plainOver K C=true
 sa:W.findIn K (.ref C) "__setattr__"=some (some (.builtin "object.__setattr__"))
theorem Cls.get {K:W.Frag} {C:Addr} (c:Cls K C) (f:Str):PySem.W.plainGet K C f=true:=c.pg
noncomputable def NoAttr (K:W.Frag) (C:Addr) (f:Str):Prop:=W.findIn K (.ref C) f=some none
theorem NoAttr.taker {K:W.Frag} {C:Addr} {f:Str} (n:NoAttr K C f):PySem.W.takerIn K C f=some none:=by
 unfold PySem.W.takerIn
 rw [show W.findIn K (.ref C) f=some none from n]
 rfl
structure Meth (K:W.Frag) (C:Addr) (m:Str) (f:Addr):Prop where
 at_:W.findIn K (.ref C) m=some (some (.ref f))
 fn:PySem.W.isFn K (.ref f)=true
 kp:W.keepIn K (.ref f)=true
section
variable {X:Cx} {pins:List (Addr×Obj)} {σ:St} {H:Hp} {s:Shared} {a C dx:Addr} {fs:List (Str×V)} {f:Str} {v:V} {A:Around} {E:Value->Shared->Prop}
theorem getattr_ok {b:Bool} {Q:Value->Shared->Prop} (I:Inv X pins σ H s) (e:H a=some (.ins C dx fs)) (c:Cls X.K C) (n:NoAttr X.K C f) (l:fs.lookup f=some v)
  (h:∀ u s',Inv X pins σ H s'->RelV v u->Q u s'):wpAny (model X.prog X.w) A (getAttr (.ref a) f b) Q E s:=by
 obtain ⟨mA,O,r,_,_,_⟩:=ZEG I.hok e
 obtain ⟨u,B,z⟩:=RelO.some_of (v:=v) (o:=mA f) (by rw [<- l];exact r f)
 exact get_map I.kIn O (c.get f) c.hd n B (handed_of z) (h u _ (I.tok _) z)
theorem getmeth_ok {m:Str} {g:Addr} {pl:Sem Bool} {Q:Value×List Value->Shared->Prop} (I:Inv X pins σ H s) (e:H a=some (.ins C dx fs)) (c:Cls X.K C) (k:Meth X.K C m g) (l:fs.lookup m=none)
  (h:Q (.ref g,[.ref a]) s):wpAny (model X.prog X.w) A (getMethod (.ref a) m pl) Q E s:=by
 obtain ⟨mA,O,r,_,_,_⟩:=ZEG I.hok e
 have hn:mA m=none:=RelO.none_of (by rw [<- l];exact r m)
 exact get_meth I.kIn O (c.get m) k.at_ k.fn hn h
theorem setattr_ok {y:V} {u:Value} {Q:Unit->Shared->Prop} (I:Inv X pins σ H s) (e:H a=some (.ins C dx fs)) (c:Cls X.K C) (n:NoAttr X.K C f) (hl:fs.length < 1000) (Y:RelV y u)
  (h:∀ s',Inv X pins σ (upd H a (.ins C dx (putF f y fs))) s'->Q () s'):wpAny (model X.prog X.w) A (setAttr (.ref a) f u) Q E s:=by
 obtain ⟨mA,O,r,wi,_,J⟩:=ZEG I.hok e
 have Z:(fs.map (·.1)).length <= sizeLine:=by rw [yAA,sizeLine_eq];omega
 refine set_map I.kIn O c.sa c.po n.taker c.hd wi Z fun h' B sb=>h _ ?_
 have hd:∃ o,h'.get? dx=some o:=let ⟨o,_,_,e',_⟩:=B.ns;⟨o,e'⟩
 refine I.write (x:=a) (e:=dx) (by rw [e];exact True.intro) (.inr J) (fun b q L z=>(sb.2 b L).trans z) hd ?_
 refine ⟨by rw [ZAI O.ne];exact J,?_,O.ne,B.obj,_,B.ns,fun g=>?_,fun g U=>?_⟩
 .have:=ZCx f y fs;omega
 .show RelO ((putF f y fs).lookup g) (if g=f then some u else mA g)
  rw [ZAa]
  by_cases q:g=f
  .rw [if_pos q,if_pos q];exact Y
  .rw [if_neg q,if_neg q];exact r g
 .by_cases q:g=f
  .rw [q];exact (ZDm f y fs).1
  .refine (ZDm f y fs).2 g (wi g fun z=>U ?_)
   show (if g=f then some u else mA g)=none
   rw [if_neg q];exact z
theorem Inv.made (I:Inv X pins σ H s):Inv X pins σ (upd (upd H s.heap.objs.size (.own (s.heap.objs.size+1))) (s.heap.objs.size+1) (.ins C s.heap.objs.size []))
  { s with heap:=(s.heap.push PySem.W.emptyDict).push (PySem.W.instObj C s.heap.objs.size) }:=by
 have z:(s.heap.push PySem.W.emptyDict).get? s.heap.objs.size=some PySem.W.emptyDict:=Heap.get?_push_size s.heap rfl
 have U:((s.heap.push PySem.W.emptyDict).push (PySem.W.instObj C s.heap.objs.size)).get? (s.heap.objs.size+1)=some (PySem.W.instObj C s.heap.objs.size):=by
  have:=Heap.get?_push_size (s.heap.push PySem.W.emptyDict) (o:=PySem.W.instObj C s.heap.objs.size) rfl
  rwa [Heap.size_push] at this
 have L:(s.heap.push PySem.W.emptyDict).Ns s.heap.objs.size (fun _=>none):=⟨PySem.W.emptyDict,#[],_,z,rfl,(fun e B=>absurd B (by simp)),fun _=>rfl⟩
 have J:=I.laid (a:=s.heap.objs.size) (o:=.own (s.heap.objs.size+1)) (h':=s.heap.push PySem.W.emptyDict) (t':=s.toks) (fun b u q=>Heap.get?_push_of_some _ q) (yAB _) ⟨_,z⟩
 refine J.laid (a:=s.heap.objs.size+1) (o:=.ins C s.heap.objs.size []) (t':=s.toks) (fun b u q=>Heap.get?_push_of_some _ q) (yCD (Heap.size_push _ _)) ?_
 have ne:s.heap.objs.size≠s.heap.objs.size+1:=yAN (yBQ _)
 refine ⟨by rw [ZAI ne,ZAF],yAJ _,ne,U,fun _=>none,(Heap.Ns1.of_empty L).at fun o q=>Heap.get?_push_of_some _ q,fun _=>True.intro,fun y O=>absurd rfl O⟩
theorem attr_of {prog:Program} {w:World} {env:Env} {e:Expr} {f:Str} {pos:Pos} {s:Shared} {Q:Value->Shared->Prop} (z:attributeBase e f env (eval e env)=eval e env)
  (h:wpAny (model prog w) A (eval e env) (fun o s₁=>wpAny (model prog w) A (getAttr o f true) Q E s₁) E s):wpAny (model prog w) A (eval (.Attribute e f pos) env) Q E s :=
 Attribute_any_ h (by rw [arm_eval_Attribute,z])
end
noncomputable def tFld (K:W.Frag) (ta:TE) (f:Str):TE:=fun σ H Q=>ta σ H fun x H1=>∃ a C dx fs v,x=.ref a /\ H1 a=some (.ins C dx fs) /\ Cls K C /\ NoAttr K C f /\ fs.lookup f=some v /\ Q v H1
noncomputable def sFld (K:W.Frag) (ta tv:TE) (f:Str):TS:=fun D σ H=>tv σ H fun y H1=>ta σ H1 fun x H2=>∃ a C dx fs,x=.ref a /\ H2 a=some (.ins C dx fs) /\ Cls K C /\ NoAttr K C f /\ fs.length < 1000 /\
 D.nx σ (upd H2 a (.ins C dx (putF f y fs)))
noncomputable def InOp (X:Cx) (op:Operator) (rd:V->V->Hp->VK->Prop):Prop :=
 ∀ (pins:List (Addr×Obj)) (s:Shared) (σ:St) (H:Hp) (x y:V) (u v:Value) (Q:VK),Inv X pins σ H s->RelV x u->RelV y v->rd x y H Q->wpAny (model X.prog X.w) X.A (inplaceOp op u v) (EP X pins σ Q) X.xe s
noncomputable def sFldAug (K:W.Frag) (ta tv:TE) (rd:V->V->Hp->VK->Prop) (f:Str):TS:=fun D σ H=>ta σ H fun x H1=>∃ a C dx fs v,x=.ref a /\ H1 a=some (.ins C dx fs) /\ Cls K C /\ NoAttr K C f /\ fs.lookup f=some v /\
 tv σ H1 fun y H2=>rd v y H2 fun z H3=>∃ dx' fs',H3 a=some (.ins C dx' fs') /\ fs'.length < 1000 /\ D.nx σ (upd H3 a (.ins C dx' (putF f z fs')))
section
variable {X:Cx} {o e value:Expr} {f:Str} {pos pos' tpos:Pos} {ta tv:TE}
theorem ZAQ (z:PE X e ta) (B:attributeBase e f X.env (eval e X.env)=eval e X.env):PE X (.Attribute e f pos) (tFld X.K ta f):=by
 intro pins s σ H Q I h
 refine attr_of B (thn (z pins s σ H _ I h) fun u s1 J=>?_)
 obtain ⟨x,H1,L,O,a,C,dx,fs,v,ex,Z,c,n,l,q⟩:=J
 subst ex
 obtain rfl:u=Value.ref a:=O
 exact getattr_ok L Z c n l fun u' s2 U Y=>⟨v,H1,U,Y,q⟩
theorem ZA1 (ha:PE X o ta) (B:PE X value tv) (z:swapsWith value (some (.Attribute o f pos')) pos.line X.env=pure false):PS X (.Assign [.Attribute o f pos'] value pos) (sFld X.K ta tv f):=by
 intro pins s σ H D I h
 refine plainObj_wpAny_Assign_Attribute (thn (B pins s σ H _ I h) fun u s1 ⟨y,H1,O,ry,q⟩=>thn (ha pins s1 σ H1 _ O q) fun U s2 J=>?_) z
 obtain ⟨x,H2,Z,Y,a,C,dx,fs,ex,ea,c,n,l,L⟩:=J
 subst ex
 obtain rfl:U=Value.ref a:=Y
 exact setattr_ok Z ea c n l ry fun s3 I3=>⟨σ,_,I3,L⟩
theorem ps_fldaug {op:Operator} {rd:V->V->Hp->VK->Prop} (ha:PE X o ta) (U:PE X value tv) (J:InOp X op rd):PS X (.AugAssign (.Attribute o f tpos) op value pos) (sFldAug X.K ta tv rd f):=by
 intro pins s σ H D I h
 refine wpAny_AugAssign_AttributeAny (thn (ha pins s σ H _ I h) fun ov s1 B=>?_)
 obtain ⟨x,H1,I1,rx,a,C,dx,fs,v,ex,ea,c,n,l,q⟩:=B
 subst ex
 obtain rfl:ov=Value.ref a:=rx
 refine getattr_ok I1 ea c n l fun u s2 I2 ru=>thn (U pins s2 σ H1 _ I2 q) fun w3 s3 ⟨y,H2,I3,ry,Y⟩=>thn (J pins s3 σ H2 v y u w3 _ I3 ru ry Y) fun w4 s4 B=>?_
 obtain ⟨z,H3,I4,rz,O,fs',L,Z,q4⟩:=B
 exact setattr_ok I4 L c n Z rz fun s5 I5=>⟨σ,_,I5,q4⟩
noncomputable def rAdd:V->V->Hp->VK->Prop:=fun x y H Q=>∃ i j,x=.int i /\ y=.int j /\ Q (.int (i+j)) H
theorem in_add:InOp X .Add rAdd:=by
 rintro pins s σ H x y u v Q I z B ⟨i,j,rfl,rfl,q⟩
 obtain ⟨t,rfl⟩:=(show ∃ t,u=Value.int i t from z)
 obtain ⟨t',rfl⟩:=(show ∃ t',v=Value.int j t' from B)
 exact PyProof.Rows.iadd_int ⟨.int (i+j),H,I.tok _,⟨_,rfl⟩,q⟩
end
section
variable {X:Cx} {pins:List (Addr×Obj)} {σ:St} {H:Hp} {s:Shared} {A:Around} {E:Value->Shared->Prop} {Q:Value->Shared->Prop} {c:Value} {b:Bool}
inductive TyOf (K:W.Frag) (H:Hp):V->Value->Prop where
 | non:TyOf K H .non (.type "NoneType")
 | bl (x:Bool):TyOf K H (.bl x) (.type "bool")
 | int (i:Int):TyOf K H (.int i) (.type "int")
 | str (x:Str):TyOf K H (.str x) (.type "str")
 | flt (x:UInt64):TyOf K H (.flt x) (.type "float")
 | lst {a:Addr} {xs:List V} (e:H a=some (.lst xs)):TyOf K H (.ref a) (.type "list")
 | frz {a:Addr} {o:Obj} {xs:List V} (e:H a=some (.frz o (.lst xs))):TyOf K H (.ref a) (.type "list")
 | tup {a:Addr} {xs:List V} (e:H a=some (.tup xs)):TyOf K H (.ref a) (.type "tuple")
 | dK {a:Addr} {kvs:List (Key×V)} (e:H a=some (.dK kvs)):TyOf K H (.ref a) (.type "dict")
 | dT {a:Addr} {kvs:List (List Key×V)} (e:H a=some (.dT kvs)):TyOf K H (.ref a) (.type "dict")
 | ins {a C dx:Addr} {fs:List (Str×V)} (e:H a=some (.ins C dx fs)) (cl:Cls K C) (ha:W.findIn K (.ref C) "__class__"=some (some (.builtin "object.__class__")))
   (hn:PySem.W.specialIn K (.builtin "object.__class__") "__get__"=some (some (.builtin "getset_descriptor.__get__"))) (htk:PySem.W.takesIn K (.builtin "object.__class__")=some true)
   (hm:PySem.W.mroIn K C (.type "object")=some true):TyOf K H (.ref a) (.ref C)
theorem isinst_ok {x:V} {u t:Value} (I:Inv X pins σ H s) (B:RelV x u) (ty:TyOf X.K H x t) (e:PySem.W.kitOne X.K t c=some b) (h:∀ tk,Q (.bool b) { s with toks:=tk }) :
  wpAny (model X.prog X.w) A (call (.builtin "isinstance") [u,c]) Q E s:=by
 cases ty with
 | non=>cases (show u=Value.none from B);exact PySem.W.kia_one PySem.W.kitx_none I.kIn True.intro e (fun z=>nomatch z) h
 | bl y=>cases (show u=Value.bool y from B);exact PySem.W.kia_one PySem.W.kitx_bool I.kIn True.intro e (fun z=>nomatch z) h
 | int i=>obtain ⟨t,q⟩:=(show ∃ t,u=Value.int i t from B);cases q;exact PySem.W.kia_one PySem.W.kitx_int I.kIn True.intro e (fun z=>nomatch z) h
 | str y=>obtain ⟨t,q⟩:=(show ∃ t,u=Value.str y t from B);cases q;exact PySem.W.kia_one PySem.W.kitx_str I.kIn True.intro e (fun z=>nomatch z) h
 | flt y=>obtain ⟨t,q⟩:=(show ∃ t,u=Value.float y t from B);cases q;exact PySem.W.kia_one PySem.W.kitx_float I.kIn True.intro e (fun z=>nomatch z) h
 | @lst a xs ea=>
  cases (show u=Value.ref a from B)
  obtain ⟨_,_,n,_,h1⟩:=(show ObjOk X.prog X.w H s.heap a (.lst xs) from I.hok a _ ea)
  exact PySem.W.kia_one PySem.W.kitx_list I.kIn ⟨_,h1,rfl⟩ e (fun z=>nomatch z) h
 | @frz a ob xs ea=>
  cases (show u=Value.ref a from B)
  obtain ⟨_,_,_,n,_,h1⟩:=(show ObjOk X.prog X.w H s.heap a (.frz ob (.lst xs)) from I.hok a _ ea)
  exact PySem.W.kia_one PySem.W.kitx_list I.kIn ⟨_,h1,rfl⟩ e (fun z=>nomatch z) h
 | @tup a xs ea=>
  cases (show u=Value.ref a from B)
  obtain ⟨_,_,_,p⟩:=(show ObjOk X.prog X.w H s.heap a (.tup xs) from I.hok a _ ea)
  obtain ⟨o,h1,h2,_⟩:=p
  exact PySem.W.kia_one PySem.W.kitx_tuple I.kIn ⟨o,h1,h2⟩ e (fun z=>nomatch z) h
 | @dK a kvs ea=>
  cases (show u=Value.ref a from B)
  obtain ⟨_,_,vs,_,p⟩:=(show ObjOk X.prog X.w H s.heap a (.dK kvs) from I.hok a _ ea)
  obtain ⟨o,es,L,h1,h2,_⟩:=p
  exact PySem.W.kia_one PySem.W.kitx_dict I.kIn ⟨o,h1,h2.1⟩ e (fun z=>nomatch z) h
 | @dT a kvs ea=>
  cases (show u=Value.ref a from B)
  obtain ⟨_,_,xs,_,o,es,L,h1,h2,_⟩:=(show ObjOk X.prog X.w H s.heap a (.dT kvs) from I.hok a _ ea)
  exact PySem.W.kia_one PySem.W.kitx_dict I.kIn ⟨o,h1,h2.1⟩ e (fun z=>nomatch z) h
 | @ins a C dx fs ea cl ha hn htk hm=>
  cases (show u=Value.ref a from B)
  obtain ⟨mA,O,_⟩:=ZEG I.hok ea
  obtain ⟨od,J,_⟩:=O.look
  exact PySem.W.kia_one (PySem.W.kitx_own (cl.get _) cl.hd ha hn htk hm) I.kIn J e (fun z=>nomatch z) h
end
structure Room (k:Nat) (A:Around):Prop where
 hd:A.handled=none
 dp:A.depth+3 * k+5 < recursionLimit
 un:A.units+16 * k+200 < cLine
 gd:A.guards=some []
theorem Room.mono {j k:Nat} {A:Around} (r:Room k A) (h:j <= k):Room j A:=⟨r.hd,by have:=r.dp;omega,by have:=r.un;omega,r.gd⟩
theorem Room.deeper {k:Nat} {A:Around} (r:Room (k+1) A) (env:Env):Room k (A.deeper env) :=
 ⟨r.hd,by have:=r.dp;show A.depth+1+3 * k+5 < _;omega,by have:=r.un;show A.units+3+16 * k+200 < _;omega,r.gd⟩
theorem make_depth {A:Around} {C:Addr} {us:List Value} {z:List (Str×Value)}:(A.under (.builtin "type.__call__" ⟨.ref C::us,z⟩)).depth=A.depth+1:=by
 first | rfl | simp [Around.under,Code.weight,Code.isCreation,Code.isGuard,Code.isCaller,Code.frames,Code.isFrame,guardIds]
theorem make_units {A:Around} {C:Addr} {us:List Value} {z:List (Str×Value)}:(A.under (.builtin "type.__call__" ⟨.ref C::us,z⟩)).units=A.units+1:=by
 first | rfl | simp [Around.under,Code.cUnits,Code.frames,Code.isFrame]
theorem Room.make {k:Nat} {A:Around} (r:Room (k+1) A) (C:Addr) (us:List Value) (z:List (Str×Value)):Room k (A.under (.builtin "type.__call__" ⟨.ref C::us,z⟩)) :=
 ⟨r.hd,by have:=r.dp;rw [make_depth];omega,by have:=r.un;rw [make_units];omega,by have:=r.gd;first | exact this | simp [Around.under,Code.guards,Code.isGuard,guardIds,this]⟩
theorem Room.depth {k:Nat} {A:Around} (r:Room k A):A.depth < recursionLimit:=by have:=r.dp;omega
theorem Room.units {k:Nat} {A:Around} (r:Room k A):A.units+64 < cLine:=by have:=r.un;omega
noncomputable def tNil:TA:=fun _ H Q=>Q [] H
noncomputable def ZCG (ta:TE) (tr:TA):TA:=fun σ H Q=>ta σ H fun x H1=>tr σ H1 fun xs H2=>Q (x::xs) H2
section
variable {X:Cx} {e:Expr} {es:List Expr} {te:TE} {t:TA} {pos:Pos}
theorem ZAD:PA X [] tNil:=fun _ _ _ _ H Q I h=>Calls.spliced_nil ⟨[],H,I,.nil,h⟩
theorem ZAA (ha:PE X e te) (L:PA X es t) (z:starEach (e::es) X.env=(false,eval e X.env)::starEach es X.env:=by rfl):PA X (e::es) (ZCG te t):=by
 intro pos pins s σ H Q I h
 rw [z]
 show wpAny _ _ (spliced ((false,eval e X.env)::backTo pos (starEach es X.env))) _ _ s
 refine Calls.spliced_cons (thn (ha pins s σ H _ I h) fun u s1 B=>?_)
 obtain ⟨x,H1,Y,J,q1⟩:=B
 exact thn (L pos pins s1 σ H1 _ Y q1) fun us s2 ⟨xs,H2,Z,O,U⟩=>⟨x::xs,H2,Z,.cons J O,U⟩
noncomputable def tTup (t:TA):TE:=fun σ H Q=>t σ H fun xs H1=>xs.length <= sizeLine /\ ∀ p,H1 p=none->Q (.ref p) (upd H1 p (.tup xs))
noncomputable def tLst (t:TA):TE:=fun σ H Q=>t σ H fun xs H1=>xs.length <= sizeLine /\ ∀ p,H1 p=none->Q (.ref p) (upd H1 p (.lst xs))
theorem ZA3 {x1} (h:PA X es t):PE X (.Tuple es x1 pos) (tTup t):=by
 intro pins s σ H Q I L
 refine wpAny_Tuple_spliced (thn (h pos pins s σ H _ I L) fun us s1 ⟨xs,H1,B,r,z,q⟩=>⟨by rw [<- r.length];exact z,?_⟩)
 have J:H1 s1.heap.objs.size=none:=B.hok.fresh (yAB _)
 refine ⟨.ref s1.heap.objs.size,upd H1 s1.heap.objs.size (.tup xs),B.laid (t':=s1.toks) (fun b u e=>Heap.get?_push_of_some _ e) (yAB _) ?_,rfl,q _ J⟩
 exact ⟨z,us,r,⟨_,Heap.get?_push_size _ rfl,rfl,_,rfl⟩⟩
theorem ZBF (h:PA X es t):PE X (.List es pos) (tLst t):=by
 intro pins s σ H Q I L
 refine wpAny_List_spliced (thn (h pos pins s σ H _ I L) fun us s1 ⟨xs,H1,B,r,z,q⟩=>⟨by rw [<- r.length];exact z,?_⟩)
 have J:H1 s1.heap.objs.size=none:=B.hok.fresh (yAB _)
 refine ⟨.ref s1.heap.objs.size,upd H1 s1.heap.objs.size (.lst xs),B.laid (t':=s1.toks) (fun b u e=>Heap.get?_push_of_some _ e) (yAB _) ?_,rfl,q _ J⟩
 exact ⟨z,us,0,r,Heap.get?_push_size _ rfl⟩
end
noncomputable abbrev Sp:=List V->Hp->VK->XK->Prop
noncomputable abbrev CXT:=List Env->Hp->Shared->XK->Value->Shared->Prop
structure Env0 (P:Program) (w:World) (K:W.Frag) (mg:Str->Option Value) (base:Heap) (A:Around) (outer:List Env) (s:Shared) (H:Hp):Prop where
 frames:A.frames=some outer
 mod:Mod K mg base
 bs:∀ b o,base.get? b=some o->s.heap.get? b=some o /\ H b=none
 bsz:base.objs.size <= s.heap.objs.size
 funs:s.heap.FunFrames base outer
 frf:∀ b∈frs outer,H b=none
 hok:HOk P w H s.heap
 bare:AllBare s.gens
noncomputable def CE (outer:List Env) (P:Program) (w:World) (H:Hp) (s:Shared) (Q:VK) (u:Value) (s':Shared):Prop :=
 ∃ v H',s'.os=s.os /\ AllBare s'.gens /\ Un (frs outer) [] H H' s.heap s'.heap /\ HOk P w H' s'.heap /\ RelV v u /\ Q v H'
noncomputable def CR (CX:CXT) (outer:List Env) (P:Program) (w:World) (H:Hp) (s:Shared) (Q:VK) (E:XK) (r:Result) (s':Shared):Prop :=
 match r with
 | .ok (.ret u)=>CE outer P w H s Q u s'
 | .ok _=>False
 | .error e=>CX outer H s E e s'
structure FnOk (P:Program) (w:World) (K:W.Frag) (mg:Str->Option Value) (base:Heap) (CX:CXT) (k:Nat) (f:Addr) (fd:FuncData) (ps:List Str) (sp:Sp):Prop where
 len:∀ vs H Q E,sp vs H Q E->vs.length=ps.length
 run:∀ (A:Around) (outer:List Env) (s:Shared) (H:Hp) (args:Args) (us:List Value) (vs:List V) (Q:VK) (E:XK),Room k A->Env0 P w K mg base A outer s H->BindsTo s fd args (ps.zip us)->Vals vs us->sp vs H Q E ->
  codeAny (model P w) A (.call (.ref f) args) (CR CX outer P w H s Q E) s
theorem Env0.make {P:Program} {w:World} {K:W.Frag} {mg:Str->Option Value} {base:Heap} {A:Around} {outer:List Env} {s:Shared} {H:Hp} (e:Env0 P w K mg base A outer s H) (C:Addr) (us:List Value) (z:List (Str×Value)) :
  Env0 P w K mg base (A.under (.builtin "type.__call__" ⟨.ref C::us,z⟩)) outer s H:=⟨by first | exact e.frames | (simpa [Around.under,Code.envs,Code.isFrame,pushEnvs] using e.frames),e.mod,e.bs,e.bsz,e.funs,e.frf,e.hok,e.bare⟩
section
variable {X:Cx} {pins:List (Addr×Obj)} {σ:St} {H:Hp} {s s':Shared}
theorem Inv.env0 (I:Inv X pins σ H s):Env0 X.prog X.w X.K X.mg X.base X.A X.stack s H :=
 ⟨I.ok.frames,I.ok.mod,I.bs,yAK I.ok.bsz I.sz,I.stack,I.stkFree,I.hok,I.bare⟩
theorem Inv.after {Q:VK} {u:Value} (I:Inv X pins σ H s) (h:CE X.stack X.prog X.w H s Q u s'):EP X pins σ Q u s':=by
 obtain ⟨v,H',os,B,un,L,r,q⟩:=h
 obtain ⟨O,g,d,t,J⟩:=s'
 obtain rfl:J=s.os:=os
 exact ⟨v,H',I.call (h':=O) (g':=g) (d':=d) (t':=t) (ch:=[]) un L B (fun b z=>absurd z (by simp)),r,q⟩
end
noncomputable def ZFP (sp:Sp) (dvs:List V) (E:XK) (t:TA):TE:=fun σ H Q=>t σ H fun vs H1=>sp (vs++dvs) H1 Q E
noncomputable def ZFB (C:Addr) (m:Str) (sp:Sp) (dvs:List V) (E:XK) (ta:TE) (t:TA):TE:=fun σ H Q=>ta σ H fun x H1=>∃ a dx fs,x=.ref a /\ H1 a=some (.ins C dx fs) /\ fs.lookup m=none /\
 t σ H1 fun vs H2=>sp (x::(vs++dvs)) H2 Q E
noncomputable def ZFM (C:Addr) (sp:Sp) (dvs:List V) (E:XK) (t:TA):TE:=fun σ H Q=>t σ H fun vs H1=>∀ x dx,H1 x=none->H1 dx=none->dx≠x ->
 sp (.ref x::(vs++dvs)) (upd (upd H1 dx (.own x)) x (.ins C dx [])) (fun v H2=>v=.non /\ Q (.ref x) H2) E
noncomputable def Binds (K:W.Frag) (fd:FuncData) (ps:List Str) (ds:List Value):Prop :=
 ∀ (s:Shared) (us:List Value),K.In s.heap->(us++ds).length=ps.length->BindsTo s fd ⟨us,[]⟩ (ps.zip (us++ds))
theorem Binds.all {K:W.Frag} {fd:FuncData} {ps:List Str} (h:∀ us:List Value,us.length=ps.length->bindArgs fd ⟨us,[]⟩=pure (ps.zip us)):Binds K fd ps []:=fun s us _ hl=>by
 rw [yAY] at hl ⊢
 exact .of_eq (h us hl)
noncomputable def ZCF (CX:CXT) (X:Cx) (E:XK):Prop:=∀ (pins:List (Addr×Obj)) (σ:St) (H:Hp) (s:Shared) (e:Value) (s':Shared),Inv X pins σ H s->CX X.stack H s E e s'->X.xe e s'
section
variable {X:Cx} {CX:CXT} {k:Nat} {f C:Addr} {fd:FuncData} {ps:List Str} {sp:Sp} {dvs:List V} {ds:List Value} {E:XK} {x m:Str} {p pos apos:Pos} {e o:Expr} {es:List Expr} {ta:TE} {t:TA}
theorem ZFZ {pins:List (Addr×Obj)} {σ:St} {H:Hp} {s:Shared} {Q:VK} {us:List Value} {vs:List V} (F:FnOk X.prog X.w X.K X.mg X.base CX k f fd ps sp) (L:Room k X.A) (J:Binds X.K fd ps ds) (U:Vals dvs ds) (O:ZCF CX X E)
  (I:Inv X pins σ H s) (r:Vals vs us) (h:sp (vs++dvs) H Q E):wpAny (model X.prog X.w) X.A (call (.ref f) us) (EP X pins σ Q) X.xe s:=by
 have B:Vals (vs++dvs) (us++ds):=r.append U
 have hl:(us++ds).length=ps.length:=by rw [<- B.length];exact F.len _ _ _ _ h
 refine wpAny_call (codeAny_mono (F.run X.A X.stack s H ⟨us,[]⟩ (us++ds) (vs++dvs) Q E L I.env0 (J s us I.kIn hl) B h) fun r s' z=>?_)
 cases r with
 | error e=>exact O pins σ H s e s' I z
 | ok fl=>
  cases fl with
  | ret u=>exact I.after z
  | next=>exact False.elim z
  | brk=>exact False.elim z
  | cont=>exact False.elim z
theorem pe_call (F:FnOk X.prog X.w X.K X.mg X.base CX k f fd ps sp) (U:Room k X.A) (Z:Gl X x) (hm:X.mg x=some (.ref f)) (Y:W.keepIn X.K (.ref f)=true) (O:Binds X.K fd ps ds) (hd:Vals dvs ds) (hx:ZCF CX X E)
  (ha:PA X (e::es) t) (z:(x == ("__debug__":Str))=false:=by decide) (L:starEach (e::es) X.env=(false,eval e X.env)::starEach es X.env:=by rfl) (B:(backTo pos (starEach es X.env)).any (·.1)=false:=by rfl) :
  PE X (.Call (.Name x p) (e::es) [] pos) (ZFP sp dvs E t):=by
 intro pins s σ H Q I h
 refine wpAny_Call_Name_kw (ZEz I Z hm ?_ z)
 refine PySem.W.callWith_K (h₀:=X.base) I.ok.mod.kin Y (thn (ha pos pins s σ H _ I h) fun us s1 ⟨vs,H1,J,r,q⟩=>⟨J.kIn,?_⟩) L B
 exact ZFZ F U O hd hx J r q
theorem pe_meth {pl:Sem Bool} (O:PE X o ta) (c:Cls X.K C) (hm:Meth X.K C m f) (F:FnOk X.prog X.w X.K X.mg X.base CX k f fd ps sp) (Z:Room k X.A) (U:Binds X.K fd ps ds) (hd:Vals dvs ds) (hx:ZCF CX X E) (ha:PA X (e::es) t)
  (z:starEach (e::es) X.env=(false,eval e X.env)::starEach es X.env:=by rfl) (B:(backTo pos (starEach es X.env)).any (·.1)=false:=by rfl)
  (ht:eval (.Call (.Attribute o m apos) (e::es) [] pos) X.env=(do
   let ov <- eval o X.env
   standAt apos.atName
   let (f,first) <- holding [ov] (getMethod ov m pl)
   callWith pos f first (backTo pos (starEach (e::es) X.env)) (backToKw pos (keywordEach [] X.env))):=by rfl) :
  PE X (.Call (.Attribute o m apos) (e::es) [] pos) (ZFB C m sp dvs E ta t):=by
 intro pins s σ H Q I h
 refine PySem.W.methodCall_KW (pl:=pl) (thn (O pins s σ H _ I h) fun u s1 Y=>?_) ht
 obtain ⟨x,H1,J,rx,a,dx,fs,ex,ea,l,q⟩:=Y
 subst ex
 obtain rfl:u=Value.ref a:=rx
 refine getmeth_ok J ea c hm l ?_
 refine PySem.W.callWith_K (first:=[.ref a]) (h₀:=X.base) I.ok.mod.kin hm.kp (thn (ha pos pins s1 σ H1 _ J q) fun us s2 ⟨vs,H2,L,r,q2⟩=>⟨L.kIn,?_⟩) z B
 exact ZFZ (us:=.ref a::us) (vs:=.ref a::vs) F Z U hd hx L (.cons rfl r) q2
theorem pe_meth0 {pl:Sem Bool} (B:PE X o ta) (c:Cls X.K C) (hm:Meth X.K C m f) (F:FnOk X.prog X.w X.K X.mg X.base CX k f fd ps sp) (O:Room k X.A) (J:Binds X.K fd ps ds) (Z:Vals dvs ds) (Y:ZCF CX X E)
  (ht:eval (.Call (.Attribute o m apos) [] [] pos) X.env=(do
   let ov <- eval o X.env
   standAt apos.atName
   let (f,first) <- holding [ov] (getMethod ov m pl)
   callWith pos f first (backTo pos (starEach [] X.env)) (backToKw pos (keywordEach [] X.env))):=by rfl) :
  PE X (.Call (.Attribute o m apos) [] [] pos) (ZFB C m sp dvs E ta tNil):=by
 intro pins s σ H Q I h
 refine PySem.W.methodCall_KW (pl:=pl) (thn (B pins s σ H _ I h) fun u s1 L=>?_) ht
 obtain ⟨x,H1,z,U,a,dx,fs,ex,ea,l,q⟩:=L
 subst ex
 obtain rfl:u=Value.ref a:=U
 refine getmeth_ok z ea c hm l ?_
 exact PySem.W.callWith_K0 (first:=[.ref a]) z.kIn hm.kp (ZFZ (us:=[.ref a]) (vs:=[.ref a]) F O J Z Y z (.cons rfl .nil) q)
structure Mk (K:W.Frag) (C f:Addr):Prop where
 makes:PySem.W.makesIn K C=true
 init:W.findIn K (.ref C) "__init__"=some (some (.ref f))
 fn:PySem.W.isFn K (.ref f)=true
 kp:W.keepIn K (.ref C)=true
theorem run_make {pins:List (Addr×Obj)} {σ:St} {H:Hp} {s:Shared} {Q:VK} {us:List Value} {vs:List V} (M:Mk X.K C f) (F:FnOk X.prog X.w X.K X.mg X.base CX k f fd ps sp) (Z:Room (k+1) X.A) (O:Binds X.K fd ps ds) (hd:Vals dvs ds)
  (hx:ZCF CX X E) (I:Inv X pins σ H s) (r:Vals vs us)
  (h:∀ x dx,H x=none->H dx=none->dx≠x->sp (.ref x::(vs++dvs)) (upd (upd H dx (.own x)) x (.ins C dx [])) (fun v H2=>v=.non /\ Q (.ref x) H2) E) :
  wpAny (model X.prog X.w) X.A (call (.ref C) us) (EP X pins σ Q) X.xe s:=by
 have L:=h (s.heap.objs.size+1) s.heap.objs.size (I.hok.fresh (yBF _)) (I.hok.fresh (yAB _)) (yAN (yBQ _))
 have B:=Inv.made (C:=C) I
 have J:Vals (V.ref (s.heap.objs.size+1)::(vs++dvs)) (Value.ref (s.heap.objs.size+1)::(us++ds)):=.cons rfl (r.append hd)
 have hl:(Value.ref (s.heap.objs.size+1)::us++ds).length=ps.length:=by
  have e:=J.length
  rw [F.len _ _ _ _ L] at e
  exact e.symm
 refine wpAny_call (make_map (f:=f) I.kIn M.makes M.init (beq_iff_eq.mp M.fn) (codeAny_mono (F.run _ X.stack _ _ ⟨Value.ref (s.heap.objs.size+1)::us,[]⟩ (Value.ref (s.heap.objs.size+1)::(us++ds)) _ _ E (Z.make C us [])
  (B.env0.make C us []) (O _ (Value.ref (s.heap.objs.size+1)::us) B.kIn hl) J L) fun r s' z=>?_))
 cases r with
 | error e=>exact hx pins σ _ _ e s' B z
 | ok fl=>
  cases fl with
  | ret u=>
   obtain ⟨v,H',I3,rv,U,Y⟩:=B.after z
   subst U
   exact ⟨rv,⟨V.ref (s.heap.objs.size+1),H',I3,rfl,Y⟩⟩
  | next=>exact False.elim z
  | brk=>exact False.elim z
  | cont=>exact False.elim z
theorem pe_make (M:Mk X.K C f) (F:FnOk X.prog X.w X.K X.mg X.base CX k f fd ps sp) (U:Room (k+1) X.A) (Y:Gl X x) (hm:X.mg x=some (.ref C)) (O:Binds X.K fd ps ds) (hd:Vals dvs ds) (Z:ZCF CX X E)
  (ha:PA X (e::es) t) (z:(x == ("__debug__":Str))=false:=by decide) (L:starEach (e::es) X.env=(false,eval e X.env)::starEach es X.env:=by rfl) (B:(backTo pos (starEach es X.env)).any (·.1)=false:=by rfl) :
  PE X (.Call (.Name x p) (e::es) [] pos) (ZFM C sp dvs E t):=by
 intro pins s σ H Q I h
 refine wpAny_Call_Name_kw (ZEz I Y hm ?_ z)
 refine PySem.W.callWith_K (h₀:=X.base) I.ok.mod.kin M.kp (thn (ha pos pins s σ H _ I h) fun us s1 ⟨vs,H1,J,r,q⟩=>⟨J.kIn,?_⟩) L B
 exact run_make M F U O hd Z J r q
end
section
variable {X:Cx} {CX:CXT} {k:Nat} {f C:Addr} {fd:FuncData} {ps ks:List Str} {sp:Sp} {E:XK} {x m:Str} {p pos apos kpos:Pos} {e o:Expr} {es:List Expr} {kws:List Keyword} {te ta:TE} {t tk:TA} {nm:Option Str}
variable {g:List Value->List Value->List Value} {gV:List V->List V->List V}
end
structure FnScope (N P:List Str) (sc:Scope):Prop where
 kind:sc.kind=.function
 co:sc.isCoroutine=false
 gen:sc.isGenerator=false
 nd:N.Nodup
 pre:N.take P.length=P
 par:∀ x∈P,sc.names.lookup x=some .local∨sc.names.lookup x=some .cell
 nofree:∀ y∈sc.names,y.2≠.free
theorem bindL_out {z:Str->Option NameKind} {x:Str}:∀ {binds:List (Str×Value)} {m:Str->Option Value},(∀ v,(x,v)∉binds)->bindL z binds m x=m x
 | [],_,_=>rfl
 | (n,v)::r,m,h=>by
  unfold bindL
  rw [bindL_out fun w hw=>h w (yAD _ hw)]
  split
  .have:x≠n:=by rintro rfl;exact h v yAC
   simp [this]
  .rfl
theorem bindC_out {z:Str->Option NameKind} {x:Str}:∀ {binds:List (Str×Value)} {m:Str->Option Value},(∀ v,(x,v)∉binds)->bindC z binds m x=m x
 | [],_,_=>rfl
 | (n,v)::r,m,h=>by
  unfold bindC
  rw [bindC_out fun w hw=>h w (yAD _ hw)]
  split
  .rfl
  .have:x≠n:=by rintro rfl;exact h v yAC
   simp [this]
theorem bindL_get {z:Str->Option NameKind} {x:Str} {v:Value}:∀ {P:List Str} {vs:List Value} {i:Nat} {m:Str->Option Value},P.Nodup->P[i]?=some x->vs[i]?=some v->z x=some .local ->
  bindL z (P.zip vs) m x=some v
 | [],_,_,_,_,h,_,_=>by simp at h
 | _::_,[],_,_,_,_,h,_=>by simp at h
 | p::P,w::vs,0,m,nd,h1,h2,hk=>by
  simp at h1 h2;subst h1;subst h2
  show bindL z ((p,w)::P.zip vs) m p=_
  unfold bindL
  rw [bindL_out fun v B=>(List.nodup_cons.mp nd).1 (List.of_mem_zip B).1,if_pos hk]
  simp
 | p::P,w::vs,i+1,m,nd,h1,h2,hk=>by
  show bindL z ((p,w)::P.zip vs) m x=_
  unfold bindL
  exact bindL_get (i:=i) (List.nodup_cons.mp nd).2 (by simpa using h1) (by simpa using h2) hk
theorem bindC_get {z:Str->Option NameKind} {x:Str} {v:Value}:∀ {P:List Str} {vs:List Value} {i:Nat} {m:Str->Option Value},P.Nodup->P[i]?=some x->vs[i]?=some v->z x≠some .local ->
  bindC z (P.zip vs) m x=some v
 | [],_,_,_,_,h,_,_=>by simp at h
 | _::_,[],_,_,_,_,h,_=>by simp at h
 | p::P,w::vs,0,m,nd,h1,h2,hk=>by
  simp at h1 h2;subst h1;subst h2
  show bindC z ((p,w)::P.zip vs) m p=_
  unfold bindC
  rw [bindC_out fun v B=>(List.nodup_cons.mp nd).1 (List.of_mem_zip B).1,if_neg hk]
  simp
 | p::P,w::vs,i+1,m,nd,h1,h2,hk=>by
  show bindC z ((p,w)::P.zip vs) m x=_
  unfold bindC
  exact bindC_get (i:=i) (List.nodup_cons.mp nd).2 (by simpa using h1) (by simpa using h2) hk
noncomputable def start (N:List Str) (vs:List V):St:=vs.map some++List.replicate (N.length-vs.length) none
noncomputable def cxOf (CX:CXT) (P:Program) (w:World) (K:W.Frag) (mg:Str->Option Value) (base:Heap) (N:List Str) (qual:Str) (scope:Scope) (f:Addr) (cd:Value) (A:Around) (outer:List Env) (s:Shared) (H:Hp) (E:XK):Cx where
 prog:=P
 w:=w
 K:=K
 mg:=mg
 base:=base
 A:=A.deeper (envOfC qual scope s.heap.objs.size f cd)
 N:=N
 s₀:=s
 H₀:=H
 env:=envOfC qual scope s.heap.objs.size f cd
 outer:=outer
 stack:=envOfC qual scope s.heap.objs.size f cd::outer
 ex:=[]
 calm:=true
 fn:=fun _=>true
 pn:=[]
 xe:=fun e s'=>wpAny (model P w) (A.deeper (envOfC qual scope s.heap.objs.size f cd)) (leaving (envOfC qual scope s.heap.objs.size f cd) e) (fun _ s''=>CX outer H s E e s'') (fun e' s''=>CX outer H s E e' s'') s'
theorem ZDY {sc:Scope} {n:Nat} {x:Str} (h:sc.names.lookup x=some .cell):∃ c,(cellsFrom n sc.names []).lookup x=some c:=by
 have q:=PySem.W.cellsFrom_some sc.names n [] (.inl h)
 exact Option.isSome_iff_exists.mp q
theorem inv_start {CX:CXT} {P:Program} {w:World} {K:W.Frag} {mg:Str->Option Value} {base:Heap} {N ps:List Str} {qual:Str} {scope:Scope} {f:Addr} {Y:Value} {A:Around} {outer:List Env} {s s1:Shared} {H:Hp} {E:XK} {us:List Value} {vs:List V}
  (S:FnScope N ps scope) (hd:A.handled=none) (B:Env0 P w K mg base A outer s H) (hl:vs.length=ps.length) (r:Vals vs us)
  (x:InCallC s s.heap.objs.size (bindL (envOfC qual scope s.heap.objs.size f Y).kindOf (ps.zip us) fun _=>none) (cellsFrom (s.heap.objs.size+1) scope.names []) (bindC (envOfC qual scope s.heap.objs.size f Y).kindOf (ps.zip us) fun _=>none) s1) :
  Inv (cxOf CX P w K mg base N qual scope f Y A outer s H E) [] (start N vs) H s1:=by
 have a0:ps.length <= N.length:=by have:=congrArg List.length S.pre;rw [yBA] at this;omega
 obtain ⟨h1,tk,rfl,Z⟩:=x.done
 have J:∀ b:Addr,b∉(cxOf CX P w K mg base N qual scope f Y A outer s H E).ex:=fun b z=>absurd (show b∈([]:List Addr) from z) (by simp)
 refine ⟨⟨B.mod,S.kind,rfl,rfl,yAB _,fun y z c h1 h2=>?_,fun y L=>?_,fun y c _ h=>?_,fun _=>hd,Around.frames_deeper B.frames,.inr ⟨rfl,rfl⟩,fun b z=>absurd z (J b),B.bs,B.bsz,fun b _ _=>J b,fun b z=>absurd z (J b),B.funs,B.frf⟩,
  rfl,B.bare,Un.kept Z,⟨_,x.toInCall.ns,fun i y v h1 h2 h3=>?_⟩,fun y c h=>⟨_,x.cell y c h⟩,B.hok.fresh (yAB _),fun y c h=>?_,fun p U=>absurd (show p∈([]:List (Addr×Obj)) from U) (by simp),B.hok.kept Z,?_⟩
 .exact name_of_addr x.apart (PySem.mem_of_lookup h1) (PySem.mem_of_lookup h2)
 .have L:scope.names.lookup y=some .cell∨scope.names.lookup y=some .free:=L
  rcases L with L | L
  .exact ZDY L
  .exact absurd rfl (S.nofree _ (PySem.mem_of_lookup L))
 .exact yCC (x.above y c (PySem.mem_of_lookup h))
 .have hi:i < vs.length:=by
   unfold start at h2
   by_cases hi:i < vs.length
   .exact hi
   .rw [yBC (by simpa using hi)] at h2
    rw [List.getElem?_replicate] at h2
    split at h2 <;> cases h2
  have ha:vs[i]?=some v:=by
   unfold start at h2
   rw [yBD (by simpa using hi),yAM] at h2
   cases e:vs[i]? with
   | none=>rw [e] at h2;cases h2
   | some a=>rw [e] at h2;cases h2;rfl
  obtain ⟨u,hu,rv⟩:=r.get ha
  have U:ps[i]?=some y:=by
   rw [<- S.pre,List.getElem?_take_of_lt (by omega)];exact h1
  have O:ps.Nodup:=by rw [<- S.pre];exact S.nd.sublist (List.take_sublist _ _)
  refine ⟨u,rv,?_⟩
  rcases S.par y (yAO U) with k | k
  .exact .inl ⟨k,bindL_get O U hu k⟩
  .obtain ⟨c,e⟩:=ZDY (n:=s.heap.objs.size+1) k
   refine .inr ⟨.inl k,c,e,?_⟩
   have q:=x.cell y c e
   rw [bindC_get O U hu (by show scope.names.lookup y≠_;rw [k];decide)] at q
   exact q
 .exact B.hok.fresh (yCC (x.above y c (PySem.mem_of_lookup h)))
 .unfold start
  show _=N.length
  rw [yAE,yAA,yBR]
  omega
theorem fn_of {CX:CXT} {P:Program} {w:World} {K:W.Frag} {mg:Str->Option Value} {base:Heap} {k:Nat} {f:Addr} {name qual:Str} {B:Arguments} {body:List Stmt} {scope:Scope} {dV kV Z pm z ct oc:Value} {an od:Option Addr}
  {a3:Array (Option Value)} {N ps:List Str} {sp:Sp} (lk:K.lookup f=some ⟨oc,od,.func (W.fnOf name qual B body scope dV kV Z pm an z ct),a3⟩) (a2:W.codeIn K z qual=true) (S:FnScope N ps scope)
  (len:∀ vs H Q E,sp vs H Q E->vs.length=ps.length)
  (O:∀ (A:Around) (outer:List Env) (s:Shared) (H:Hp) (vs:List V) (Q:VK) (E:XK),Room k (A.deeper (envOfC qual scope s.heap.objs.size f z))->sp vs H Q E ->
   ∃ t,PSs (cxOf CX P w K mg base N qual scope f z A outer s H E) body t /\ t { nx:=fun _ H'=>Q .non H',rt:=Q } (start N vs) H) :
  FnOk P w K mg base CX (k+1) f (W.fnOf name qual B body scope dV kV Z pm an z ct) ps sp:=by
 refine ⟨len,fun A outer s H args us vs Q E hr e0 hb r a0=>?_⟩
 have hl:=len _ _ _ _ a0
 have KX:K.In s.heap:=e0.mod.kin.keeps fun b o e=>(e0.bs b o e).1
 have a1:s.heap.NoLimit:=e0.mod.nolimit.keeps fun b o e=>(e0.bs b o e).1
 have U:∀ y∈ps.zip us,scope.names.lookup y.1=some .local∨(scope.names.lookup y.1=some .cell /\ ((cellsFrom (s.heap.objs.size+1) scope.names []).lookup y.1).isSome=true):=fun ⟨n,v⟩ hy=>by
  rcases S.par n (List.of_mem_zip hy).1 with q | q
  .exact .inl q
  .exact .inr ⟨q,PySem.W.cellsFrom_some _ _ _ (.inl q)⟩
 refine codeAny_call_function hr.depth (KX _ _ lk) rfl S.co S.gen rfl (PySem.W.codeRec_of KX a2) (hb _ _ _ _ ?_)
 refine wpAny_newFunctionEnv_cells S.kind U fun env he s1 x=>?_
 subst he
 refine ⟨a1.keeps x.toInCall.keep,codeAny_func ?_⟩
 obtain ⟨t,ht,hq⟩:=O A outer s H vs Q E (hr.deeper _) a0
 have I:Inv (cxOf CX P w K mg base N qual scope f z A outer s H E) [] (start N vs) H s1:=inv_start S hr.hd e0 hl r x
 refine wpAny_mono (ht [] s1 (start N vs) H _ I hq) (fun fl s' Y=>?_) fun e s' Y=>Y
 have fin:∀ {L:St} {H':Hp} {v:V} {u:Value},Inv (cxOf CX P w K mg base N qual scope f z A outer s H E) [] L H' s'->RelV v u->Q v H'->CE outer P w H s Q u s' :=
  fun {L H' v u} J rv q=>⟨v,H',J.os,J.bare,J.base,J.hok,rv,q⟩
 cases fl with
 | ret u=>
  obtain ⟨v,L,H',J,rv,q⟩:=Y
  exact fin J rv q
 | next=>
  obtain ⟨L,H',J,q⟩:=Y
  exact fin (v:=V.non) (u:=Value.none) J rfl q
 | brk=>
  obtain ⟨_,_,_,q⟩:=Y
  exact False.elim q
 | cont=>
  obtain ⟨_,_,_,q⟩:=Y
  exact False.elim q
section
variable {X:Cx} {x:Str} {p pos:Pos} {e:Expr} {es:List Expr} {t:TA} {id T:String} {r:List V->Hp->VK->Prop}
noncomputable def tCB (r:List V->Hp->VK->Prop) (t:TA):TE:=fun σ H Q=>t σ H fun vs H1=>r vs H1 Q
theorem ZAP (hc:ZC1 X (.builtin id) r) (Y:Gl X x) (hm:X.mg x=none) (L:bootBuiltins x=some (.builtin id)) (ha:PA X (e::es) t) (hn:x≠"__name__":=by decide) (z:(x == ("__debug__":Str))=false:=by decide)
  (J:starEach (e::es) X.env=(false,eval e X.env)::starEach es X.env:=by rfl) (B:(backTo pos (starEach es X.env)).any (·.1)=false:=by rfl):PE X (.Call (.Name x p) (e::es) [] pos) (tCB r t):=by
 intro pins s σ H Q I h
 refine wpAny_Call_Name_kw (ZCZ I Y hm L ?_ hn z)
 exact PyProof.Rows.callWith_builtin1 (thn (ha pos pins s σ H _ I h) fun us s1 ⟨vs,H1,U,O,Z⟩=>hc pins s1 σ H1 vs us Q U O Z) J B
theorem ZA0 (hc:ZC1 X (.type T) r) (Y:Gl X x) (hm:X.mg x=none) (L:bootBuiltins x=some (.type T)) (ha:PA X (e::es) t) (hn:x≠"__name__":=by decide) (z:(x == ("__debug__":Str))=false:=by decide)
  (J:starEach (e::es) X.env=(false,eval e X.env)::starEach es X.env:=by rfl) (B:(backTo pos (starEach es X.env)).any (·.1)=false:=by rfl):PE X (.Call (.Name x p) (e::es) [] pos) (tCB r t):=by
 intro pins s σ H Q I h
 refine wpAny_Call_Name_kw (ZCZ I Y hm L ?_ hn z)
 exact PyProof.Rows.callWith_type1 (thn (ha pos pins s σ H _ I h) fun us s1 ⟨vs,H1,U,O,Z⟩=>hc pins s1 σ H1 vs us Q U O Z) J B
end
end L2
namespace HT
open PySem PyProof.Rows
noncomputable def lexLt:List Int->List Int->Bool
 | [],[]=>false
 | [],_::_=>true
 | _::_,[]=>false
 | x::xs,y::ys=>if x=y then lexLt xs ys else decide (x < y)
theorem lexLt_cons (x y:Int) (xs ys:List Int):lexLt (x::xs) (y::ys)=if x=y then lexLt xs ys else decide (x < y):=rfl
theorem lexLt_nil_nil:lexLt [] []=false:=rfl
theorem lexLt_nil_cons (y:Int) (ys:List Int):lexLt [] (y::ys)=true:=rfl
theorem lexLt_cons_nil (x:Int) (xs:List Int):lexLt (x::xs) []=false:=rfl
theorem eqAt_int (A:Around) (s:Shared) (a:Int) (t:Tok) (c:Int) (u:Tok):∃ e,SeqAt.EqAt A s (.int a t) (.int c u) e /\ (e=true↔a=c) :=
 ⟨(a == c),SeqAt.EqAt.int_int a t c u,by simp⟩
section
open PySem.SeqAt
open PySem.AutoSeq1 (wpAny_loadPart')
open PySem.MeetsSeq PySem.MeetsSeq2 PySem.MeetsSeq3
end
section
variable {prog:Program} {w:World} {A:Around} {E:Value->Shared->Prop} {s:Shared}
noncomputable def sIx (n d:Nat):Option Int->Nat
 | none=>d
 | some v=>if v < 0 then (v+(n:Int)).toNat else min v.toNat n
theorem sIx_none (n d:Nat):sIx n d none=d:=rfl
theorem sIx_nat (n d k:Nat):sIx n d (some (k:Int))=min k n:=by
 show (if (k:Int) < 0 then ((k:Int)+(n:Int)).toNat else min (k:Int).toNat n)=min k n
 rw [if_neg (by omega),Int.toNat_natCast]
end
end HT
namespace L2
open PySem PySem.Spec PyProof.Rows
noncomputable abbrev TO:=St->Hp->(Option Int->Hp->Prop)->Prop
noncomputable def PO (X:Cx) (e:Option Expr) (t:TO):Prop :=
 ∀ (pins:List (Addr×Obj)) (s:Shared) (σ:St) (H:Hp) (Q:Option Int->Hp->Prop),Inv X pins σ H s->t σ H Q ->
  wpAny (model X.prog X.w) X.A (evalPart e X.env) (fun u s'=>∃ o H',Inv X pins σ H' s' /\ IsPart u o /\ Q o H') X.xe s
noncomputable def ZEh:TO:=fun _ H Q=>Q none H
noncomputable def ZF4 (t:TE):TO:=fun σ H Q=>t σ H fun x H1=>∃ i,x=.int i /\ Q (some i) H1
theorem ZDQ {ns:List Int}:∀ {us:List Value},Vals (ns.map V.int) us->IntsAre us ns:=by
 induction ns with
 | nil=>intro us r;rw [List.map_nil] at r;cases r;exact .nil
 | cons n ns ih=>
  intro us r
  rw [yAS] at r
  cases r with
  | cons r1 r2=>
   obtain ⟨t,e⟩:=r1
   subst e
   exact .cons n t (ih r2)
section
variable {X:Cx} {e:Expr} {te:TE} {lo hi:Option Expr} {tl th:TO} {pos p2:Pos}
theorem ZEx:PO X none ZEh:=by
 intro pins s σ H Q I h
 rw [evalPart_none]
 exact wpAny_pure ⟨none,H,I,.none,h⟩
theorem ZBu (h:PE X e te):PO X (some e) (ZF4 te):=by
 intro pins s σ H Q I hw
 rw [evalPart_some]
 refine thn (h pins s σ H _ I hw) fun u s1 z=>?_
 obtain ⟨x,H1,J,B,L⟩:=z
 obtain ⟨i,rfl,q⟩:=L
 obtain ⟨t,rfl⟩:=B
 exact ⟨some i,H1,J,.int i t,q⟩
noncomputable def SlR (X:Cx) (r:V->Option Int->Option Int->Hp->VK->Prop):Prop :=
 ∀ (pins:List (Addr×Obj)) (s:Shared) (σ:St) (H:Hp) (x:V) (v vl vu:Value) (lo hi:Option Int) (sl:Addr) (Q:VK),Inv X pins σ H s->RelV x v->s.heap.IsSliceOf sl vl vu .none->IsPart vl lo->IsPart vu hi->r x lo hi H Q ->
  ∃ T id,typeLookup (.type T) "__getitem__"=pure (some (.builtin id)) /\ s.TypeIs v T /\ wpAny (model X.prog X.w) X.A (getItem v (.ref sl)) (EP X pins σ Q) X.xe s
noncomputable def tSl (r:V->Option Int->Option Int->Hp->VK->Prop) (te:TE) (tl th:TO):TE:=fun σ H Q=>te σ H fun x H1=>tl σ H1 fun l H2=>th σ H2 fun u H3=>r x l u H3 Q
theorem ZCL {r:V->Option Int->Option Int->Hp->VK->Prop} (Z:SlR X r) (O:PE X e te) (hl:PO X lo tl) (hu:PO X hi th):PE X (.Subscript e (.Slice lo hi none p2) pos) (tSl r te tl th):=by
 intro pins s σ H Q I h
 refine Subscript_ (thn (O pins s σ H _ I h) fun v s1 L=>?_)
 obtain ⟨x,H1,I1,Y,q1⟩:=L
 refine wpAny_Slice (thn (hl pins s1 σ H1 _ I1 q1) fun J s2 ⟨l,H2,I2,pl,q2⟩=>thn (hu pins s2 σ H2 _ I2 q2) fun B z L=>?_)
 obtain ⟨u,H3,I3,pu,U⟩:=L
 rw [evalPart_none]
 refine wpAny_pure ?_
 have I4:Inv X pins σ H3 { z with heap:=z.heap.push { cls:=.type "slice",data:=.fields #[J,B,.none] } }:=I3.kept (t':=z.toks) fun b ob q=>Heap.get?_push_of_some _ q
 obtain ⟨T,id,hT,ht,hg⟩:=Z pins { z with heap:=z.heap.push { cls:=.type "slice",data:=.fields #[J,B,.none] } } σ H3 x v J B l u z.heap.objs.size Q I4 Y (Heap.IsSliceOf.new ..) pl pu U
 show wpAny (model X.prog X.w) X.A (subscriptTail e (.Slice lo hi none p2) v (.ref z.heap.objs.size)) (EP X pins σ Q) X.xe { z with heap:=z.heap.push { cls:=.type "slice",data:=.fields #[J,B,.none] } }
 exact tail_any (ops:=[.ref z.heap.objs.size,v]) ht hT hg (by with_unfolding_all rfl)
noncomputable def cutV (xs:List V) (lo hi:Option Int):List V:=(xs.drop (HT.sIx xs.length 0 lo)).take (HT.sIx xs.length xs.length hi-HT.sIx xs.length 0 lo)
theorem cutV_length (xs:List V) (lo hi:Option Int):(cutV xs lo hi).length <= xs.length:=by
 unfold cutV
 rw [yBA,yAU]
 omega
end
noncomputable def ixN (n:Nat) (i:Int):Option Nat:=if 0 <= i then (if i < n then some i.toNat else none) else if -(n:Int) <= i then some (i+n).toNat else none
noncomputable def atI {α:Type} (xs:List α) (i:Int):Option α:=(ixN xs.length i).bind fun j=>xs[j]?
theorem ixN_seq {n:Nat} {i:Int} {j:Nat} (h:ixN n i=some j):seqIndex? i n=some j /\ j < n /\ -(n:Int) <= i /\ i < n:=by
 unfold ixN at h
 by_cases h0:0 <= i
 .rw [if_pos h0] at h
  by_cases h1:i < n
  .rw [if_pos h1] at h
   have e:i.toNat=j:=Option.some.inj h
   exact ⟨by rw [seqIndex_of h0 h1,e],by omega,by omega,h1⟩
  .rw [if_neg h1] at h;cases h
 .rw [if_neg h0] at h
  by_cases h1:-(n:Int) <= i
  .rw [if_pos h1] at h
   have e:(i+n).toNat=j:=Option.some.inj h
   exact ⟨by rw [seqIndex_neg (by omega) h1,e],by omega,h1,by omega⟩
  .rw [if_neg h1] at h;cases h
theorem atI_get {α:Type} {xs:List α} {i:Int} {v:α} (h:atI xs i=some v):∃ j,seqIndex? i xs.length=some j /\ xs[j]?=some v /\ j < xs.length /\ -(xs.length:Int) <= i /\ i < xs.length:=by
 unfold atI at h
 cases e:ixN xs.length i with
 | none=>rw [e] at h;cases h
 | some j=>
  rw [e] at h
  obtain ⟨h1,h2,h3,z⟩:=ixN_seq e
  exact ⟨j,h1,h,h2,h3,z⟩
theorem atI_nat {α:Type} {xs:List α} {j:Nat} {v:α} (h:xs[j]?=some v):atI xs (j:Int)=some v:=by
 have z:j < xs.length:=(yAR.mp h).1
 have e:ixN xs.length (j:Int)=some j:=by
  unfold ixN
  rw [if_pos (by omega),if_pos (by omega)];simp
 unfold atI;rw [e];exact h
noncomputable def PlainIx (b:Expr):Prop:=∀ o i,subscripted b false o i=operate [o,i] (getItem o i)
noncomputable def IxR (X:Cx) (r:R2):Prop :=
 ∀ (value slice:Expr) (pins:List (Addr×Obj)) (s:Shared) (σ:St) (H:Hp) (x y:V) (v u:Value) (Q:VK),Inv X pins σ H s->RelV x v->RelV y u->r x y H Q ->
  subscripted slice false v u=operate [v,u] (getItem v u)->wpAny (model X.prog X.w) X.A (subscriptTail value slice v u) (EP X pins σ Q) X.xe s
noncomputable def MtR (X:Cx) (id:String) (r:V->List V->Hp->VK->Prop):Prop :=
 ∀ (pins:List (Addr×Obj)) (s:Shared) (σ:St) (H:Hp) (x:V) (xs:List V) (v:Value) (us:List Value) (Q:VK),Inv X pins σ H s->RelV x v->Vals xs us->r x xs H Q ->
  wpAny (model X.prog X.w) X.A (call (.builtin id) (v::us)) (EP X pins σ Q) X.xe s
section
variable {X:Cx} {a b:Expr} {ta tb:TE} {pos:Pos}
theorem ZAm {r:R2} (J:IxR X r) (ha:PE X a ta) (B:PE X b tb) (z:PlainIx b):PE X (.Subscript a b pos) (tOp r ta tb):=by
 intro pins s σ H Q I h
 exact Subscript_ (binT ha B I h fun v u s2 x y H2 O L U q=>J a b pins s2 σ H2 x y v u Q O L U q (z _ _))
noncomputable def rIxL (K:W.Frag):R2:=fun x y H Q=>∃ p xs i v,x=.ref p /\ y=.int i /\ SqL K H p xs /\ atI xs i=some v /\ Q v H
noncomputable def rIxT (K:W.Frag):R2:=fun x y H Q=>∃ p xs i v,x=.ref p /\ y=.int i /\ SqT K H p xs /\ atI xs i=some v /\ Q v H
theorem ZAg:IxR X (rIxL X.K):=by
 intro value B pins s σ H x y v u Q I rx ry h O
 obtain ⟨p,xs,i,z,rfl,rfl,hq,Y,q⟩:=h
 cases rx
 obtain ⟨t,rfl⟩:=ry
 obtain ⟨its,r,pl,hz⟩:=I.list hq
 obtain ⟨j,h1,h2,h3,Z,h5⟩:=atI_get Y
 obtain ⟨w,U,J⟩:=r.get h2
 have hl:=r.length
 have hn:=ZE8
 have fin:EP X pins σ Q w s:=⟨z,H,I,J,q⟩
 by_cases h0:0 <= i
 .have L:i.toNat=j:=by
   rw [seqIndex_of h0 h5] at h1
   exact Option.some.inj h1
  exact item_listR pl.isList h0 (by omega) (by rw [L];simpa using U) fin O
 .have L:(i+(its.toArray.size:Int)).toNat=j:=by
   rw [seqIndex_neg (by omega) Z] at h1
   rw [yAP,<- hl]
   exact Option.some.inj h1
  exact subscriptTail_builtinR (x:=w) pl.isList.typeIs slot_list_getitem.lookup
   (wpAny_getItem_list_neg (Q:=fun r s'=>r=w /\ EP X pins σ Q r s') pl.isList (by omega) (by rw [yAP] <;> omega) (by omega) (by rw [L];simpa using U) ⟨rfl,fin⟩) O
theorem ZBG:IxR X (rIxT X.K):=by
 intro value B pins s σ H x y v u Q I Y ry h O
 obtain ⟨p,xs,i,z,rfl,rfl,Z,L,q⟩:=h
 cases Y
 obtain ⟨t,rfl⟩:=ry
 obtain ⟨its,r,pl,hz⟩:=I.tuple Z
 obtain ⟨j,h1,h2,h3,h4,h5⟩:=atI_get L
 obtain ⟨w,U,J⟩:=r.get h2
 have hl:=r.length
 have hn:=ZE8
 have fin:EP X pins σ Q w s:=⟨z,H,I,J,q⟩
 exact subscriptTail_builtinR (x:=w) pl.typeIs slot_tuple_getitem.lookup
  (getItem_tuple (j:=j) (Q:=fun r s'=>r=w /\ EP X pins σ Q r s') pl (by omega) (by omega) (by rw [yAP,<- hl];exact h1) (by simpa using U) ⟨rfl,fin⟩) O
theorem mapSeq_set (its:List Value) (n j:Nat) (u:Value):Obj.mapSeq (·.setIfInBounds j u) { cls:=.type "list",data:=.seq its.toArray n }={ cls:=.type "list",data:=.seq (its.set j u).toArray n }:=by
 simp [Obj.mapSeq]
theorem Inv.lst {pins:List (Addr×Obj)} {σ:St} {H:Hp} {s:Shared} {p:Addr} {xs:List V} (I:Inv X pins σ H s) (h:H p=some (.lst xs)) :
  ∃ (its:List Value) (n:Nat),Vals xs its /\ s.heap.get? p=some { cls:=.type "list",data:=.seq its.toArray n } /\ xs.length <= sizeLine:=by
 obtain ⟨z,its,n,r,e⟩:=I.hok p _ h
 exact ⟨its,n,r,e,z⟩
theorem Inv.lstUpd {pins:List (Addr×Obj)} {σ:St} {H:Hp} {s:Shared} {p:Addr} {xs ys:List V} {its its':List Value} {n z:Nat} {f:Obj->Obj} (I:Inv X pins σ H s) (h:H p=some (.lst xs))
  (L:s.heap.get? p=some { cls:=.type "list",data:=.seq its.toArray n }) (B:f { cls:=.type "list",data:=.seq its.toArray n }={ cls:=.type "list",data:=.seq its'.toArray z }) (r:Vals ys its') (O:ys.length <= sizeLine) (t:Nat) :
  Inv X pins σ (upd H p (.lst ys)) { s with heap:=s.heap.update p f,toks:=t }:=by
 have e:(s.heap.update p f).get? p=some { cls:=.type "list",data:=.seq its'.toArray z }:=by
  rw [Heap.get?_update_self f L (by rw [B] <;> rfl),B]
 refine I.write (x:=p) (e:=p) (by rw [h];trivial) (.inl rfl) (fun b u J q=>(Heap.get?_update_other _ _ (Ne.symm J)).trans q) ⟨_,e⟩ ?_
 exact ⟨O,its',z,r,e⟩
noncomputable def rSetL:V->V->V->Hp->(Hp->Prop)->Prop:=fun o i v H Q=>∃ p xs k j,o=.ref p /\ i=.int k /\ H p=some (.lst xs) /\ ixN xs.length k=some j /\ Q (upd H p (.lst (xs.set j v)))
theorem ZEA:PSet X rSetL:=by
 intro pins s σ H o i v ov iv u Q I U Y rv h
 obtain ⟨p,xs,k,j,rfl,rfl,O,Z,q⟩:=h
 cases U
 obtain ⟨t,rfl⟩:=Y
 obtain ⟨its,n,r,z,hz⟩:=I.lst O
 obtain ⟨h1,h2,h3,J⟩:=ixN_seq Z
 have hl:=r.length
 have hn:=ZE8
 have L:Inv X pins σ (upd H p (.lst (xs.set j v))) { s with heap:=s.heap.update p (Obj.mapSeq (·.setIfInBounds j u)) } :=
  I.lstUpd O z (mapSeq_set its n j u) (r.set rv j) (by rw [List.length_set];exact hz) s.toks
 by_cases h0:0 <= k
 .have B:k.toNat=j:=by
   rw [seqIndex_of h0 J] at h1
   exact Option.some.inj h1
  exact PySem.W.ki_setAt z h0 (by omega) (by rw [yAP,<- hl];exact J) (by rw [B];exact ⟨_,L,q⟩)
 .have B:(k+(its.toArray.size:Int)).toNat=j:=by
   rw [seqIndex_neg (by omega) h3] at h1
   rw [yAP,<- hl]
   exact Option.some.inj h1
  exact PySem.W.ki_setBack z (by omega) (by rw [yAP,<- hl];exact h3) (by omega) (by rw [B];exact ⟨_,L,q⟩)
theorem slice_bounds (lo hi:Option Int) (n:Nat):(sliceBounds lo hi none n).1=((HT.sIx n 0 lo:Nat):Int) /\ (sliceBounds lo hi none n).2.1=((HT.sIx n n hi:Nat):Int) /\ (sliceBounds lo hi none n).2.2=1:=by
 refine ⟨?_,?_,rfl⟩
 .cases lo with
  | none=>simp [sliceBounds,HT.sIx]
  | some i=>
   simp only [sliceBounds,HT.sIx,Option.getD_none,show (1:Int) > 0 by decide,if_true]
   by_cases h:i < 0
   .simp only [h,if_true] <;> omega
   .simp only [h,if_false] <;> omega
 .cases hi with
  | none=>simp [sliceBounds,HT.sIx]
  | some i=>
   simp only [sliceBounds,HT.sIx,Option.getD_none,show (1:Int) > 0 by decide,if_true]
   by_cases h:i < 0
   .simp only [h,if_true] <;> omega
   .simp only [h,if_false] <;> omega
theorem slicePick_cut (its:List Value) (lo hi:Option Int):slicePick its.toArray lo hi none=((its.drop (HT.sIx its.length 0 lo)).take (HT.sIx its.length its.length hi-HT.sIx its.length 0 lo)).toArray:=by
 obtain ⟨h1,h2,h3⟩:=slice_bounds lo hi its.toArray.size
 unfold slicePick
 rw [h1,h2,h3]
 simp only [sliceRange_one,pick_run,yAP] <;> rfl
noncomputable def rSlL (K:W.Frag):V->Option Int->Option Int->Hp->VK->Prop:=fun x lo hi H Q=>∃ a xs,x=.ref a /\ SqL K H a xs /\ ∀ p,H p=none->Q (.ref p) (upd H p (.lst (cutV xs lo hi)))
theorem ZCv:SlR X (rSlL X.K):=by
 intro pins s σ H x v vl Z lo hi sl Q I L J pl O h
 obtain ⟨a,xs,rfl,U,q⟩:=h
 cases L
 obtain ⟨its,r,B,Y⟩:=I.list U
 have z:=r.length
 refine ⟨"list",_,slot_list_getitem.lookup,B.isList.typeIs,?_⟩
 refine wpAny_getItem_list_slice B.isList J pl O .none (by simp) ?_ (by rw [yAP] <;> omega)
 rw [slicePick_cut,<- z]
 refine ⟨.ref s.heap.objs.size,_,I.laid (t':=s.toks) (o:=.lst (cutV xs lo hi)) (fun b ob q=>Heap.get?_push_of_some _ q) (yAB _) ?_,rfl,q _ (I.hok.fresh (yAB _))⟩
 exact ⟨yAK (cutV_length xs lo hi) Y,_,0,(r.drop (HT.sIx xs.length 0 lo)).take (HT.sIx xs.length xs.length hi-HT.sIx xs.length 0 lo),Heap.get?_push_size _ rfl⟩
theorem ZAJ:ZC1 X (.builtin "len") (fun xs H Q=>∃ p ys,xs=[.ref p] /\ (SqL X.K H p ys∨SqT X.K H p ys) /\ Q (.int ys.length) H):=by
 intro pins s σ H xs us Q I r h
 obtain ⟨p,ys,rfl,B,q⟩:=h
 obtain ⟨u,rfl,J⟩:=ZDu r
 cases J
 have hn:=ZE8
 rcases B with B | B
 .obtain ⟨its,r',pl,L⟩:=I.list B
  have z:=r'.length
  exact Calls.call_len_list pl.isList (by simp only [yAP] <;> omega) ⟨.int ys.length,H,I.tok _,⟨s.toks+1,by rw [yAP,z]⟩,q⟩
 .obtain ⟨its,r',pl,L⟩:=I.tuple B
  have z:=r'.length
  exact len_tuple pl (by simp only [yAP] <;> omega) ⟨.int ys.length,H,I.tok _,⟨s.toks+1,by rw [yAP,z]⟩,q⟩
theorem ZBP:ZC1 X (.type "list") (fun xs H Q=>∃ p ys,xs=[.ref p] /\ (SqL X.K H p ys∨SqT X.K H p ys) /\ ∀ l,H l=none->Q (.ref l) (upd H l (.lst ys))):=by
 intro pins s σ H xs us Q I r h
 obtain ⟨p,ys,rfl,B,q⟩:=h
 obtain ⟨u,rfl,U⟩:=ZDu r
 cases U
 have fin:∀ (its:List Value),Vals ys its->ys.length <= sizeLine->∀ (h':Heap) (c':Nat),(∀ b o',s.heap.get? b=some o'->h'.get? b=some o') ->
   h'.get? s.heap.objs.size=some { cls:=.type "list",dict:=none,data:=.seq its.toArray c',slots:=#[] }->EP X pins σ Q (.ref s.heap.objs.size) { s with heap:=h' }:=fun its r' J h' c' kp e=>
  ⟨.ref s.heap.objs.size,_,I.laid (t':=s.toks) kp (yAB _) (show ObjOk X.prog X.w _ h' _ (.lst ys) from ⟨J,its,c',r',e⟩),rfl,q _ (I.hok.fresh (yAB _))⟩
 rcases B with B | B
 .obtain ⟨its,r',pl,J⟩:=I.list B
  have z:=r'.length
  obtain ⟨o,L,hc,n,O⟩:=pl.isList
  exact call_list_seq p (.inl rfl) L hc O (fun h' c' kp e=>fin its r' J h' c' kp e) (by simp only [yAP] <;> omega)
 .obtain ⟨its,r',pl,J⟩:=I.tuple B
  have z:=r'.length
  obtain ⟨o,L,hc,n,O⟩:=pl
  exact call_list_seq p (.inr rfl) L hc O (fun h' c' kp e=>fin its r' J h' c' kp e) (by simp only [yAP] <;> omega)
noncomputable def tyV (K:W.Frag) (T:String) (x:V) (H:Hp):Prop:=match x with
 | .str _=>T="str"
 | .int _=>T="int"
 | .ref p=>(T="list" /\ ∃ xs,SqL K H p xs)∨(T="tuple" /\ ∃ o,K.lookup p=some o /\ o.cls=.type "tuple" /\ o.dict=none) ∨
   (T="dict" /\ ((∃ kvs,H p=some (.dK kvs))∨∃ kvs,H p=some (.dT kvs)))∨(T="set" /\ ∃ S n,H p=some (.set S n))
 | _=>False
theorem tyV_is {pins:List (Addr×Obj)} {σ:St} {H:Hp} {s:Shared} {T:String} {x:V} {v:Value} (I:Inv X pins σ H s) (r:RelV x v) (ty:tyV X.K T x H) :
  s.TypeIs v T /\ ∀ a,v=.ref a->∃ ob,s.heap.get? a=some ob /\ ob.dict=none:=by
 cases x with
 | str z=>
  obtain ⟨t,rfl⟩:=r
  cases (show T="str" from ty)
  exact ⟨typeIs_str s z t,fun _ e=>nomatch e⟩
 | int i=>
  obtain ⟨t,rfl⟩:=r
  cases (show T="int" from ty)
  exact ⟨typeIs_int s i t,fun _ e=>nomatch e⟩
 | ref p=>
  cases r
  rcases ty with ⟨rfl,xs,O⟩ | ⟨rfl,o,B,hc,L⟩ | ⟨rfl,B⟩ | ⟨rfl,S,n,B⟩
  .obtain ⟨its,_,pl,_⟩:=I.list O
   refine ⟨pl.isList.typeIs,fun a e=>?_⟩
   cases e
   obtain ⟨o,n,e,c,L,_⟩:=pl
   exact ⟨o,e,L⟩
  .refine ⟨⟨o,I.kIn p o B,hc⟩,fun a e=>?_⟩
   cases e
   exact ⟨o,I.kIn _ o B,L⟩
  .have z:∃ o,s.heap.get? p=some o /\ o.ExactDict:=by
    rcases B with ⟨kvs,B⟩ | ⟨kvs,B⟩
    .obtain ⟨_,_,_,_,o,_,_,e,ex,_⟩:=I.hok p _ B
     exact ⟨o,e,ex⟩
    .obtain ⟨_,_,_,_,o,_,_,e,ex,_⟩:=I.hok p _ B
     exact ⟨o,e,ex⟩
   obtain ⟨o,e,ex⟩:=z
   refine ⟨⟨o,e,ex.1⟩,fun a J=>?_⟩
   cases J
   exact ⟨o,e,ex.2.1⟩
  .obtain ⟨o,_,_,_,e,ex,_⟩:=I.hok p _ B
   refine ⟨⟨o,e,ex.1⟩,fun a J=>?_⟩
   cases J
   exact ⟨o,e,ex.2.1⟩
 | _=>exact False.elim ty
noncomputable def tBM0 (K:W.Frag) (T:String) (r:V->List V->Hp->VK->Prop) (to:TE):TE:=fun σ H Q=>to σ H fun x H1=>tyV K T x H1 /\ r x [] H1 Q
noncomputable def tBM (K:W.Frag) (T:String) (r:V->List V->Hp->VK->Prop) (to:TE) (t:TA):TE:=fun σ H Q=>to σ H fun x H1=>tyV K T x H1 /\ t σ H1 fun xs H2=>r x xs H2 Q
variable {o e:Expr} {es:List Expr} {to:TE} {t:TA} {name:Str} {apos cpos:Pos} {T id:String} {r:V->List V->Hp->VK->Prop}
theorem ZFh (Z:PlainAttrs T) (slot:Slot T name id) (J:typeOf (.builtin id)=pure (.type "method_descriptor")) (hm:MtR X id r) (Y:PE X o to)
  (z:attributeBase o name X.env (eval o X.env)=eval o X.env:=by rfl) (B:(apos.endLine == cpos.line)=true:=by rfl):PE X (.Call (.Attribute o name apos) [] [] cpos) (tBM0 X.K T r to):=by
 intro pins s σ H Q I h
 refine wpAny_Call_method0_late z B (thn (Y pins s σ H _ I h) fun v s1 U=>?_)
 obtain ⟨x,H1,O,L,ty,q1⟩:=U
 obtain ⟨h1,h2⟩:=tyV_is O L ty
 exact ⟨T,id,Z,slot,J,h1,h2,Calls.callWith_builtin rfl (PySem.evalArgs_none (hm pins s1 σ H1 x [] v [] Q O L .nil q1))⟩
theorem ZCU (pa:PlainAttrs T) (slot:Slot T name id) (O:typeOf (.builtin id)=pure (.type "method_descriptor")) (hm:MtR X id r) (ho:PE X o to) (ha:PA X (e::es) t)
  (B:attributeBase o name X.env (eval o X.env)=eval o X.env:=by rfl)
  (L:((backTo cpos (starEach (e::es) X.env)).all (fun x=>!x.1) && (backToKw cpos (keywordEach [] X.env)).all (fun x=>x.1.isSome)
   && decide ((e::es).length+([]:List Keyword).length+(if ([]:List Keyword).isEmpty then 0 else 1) < 30))=true:=by rfl)
  (J:(apos.endLine == cpos.line)=true:=by rfl) (hs:starEach (e::es) X.env=(false,eval e X.env)::starEach es X.env:=by rfl) (z:(backTo cpos (starEach es X.env)).any (·.1)=false:=by rfl) :
  PE X (.Call (.Attribute o name apos) (e::es) [] cpos) (tBM X.K T r to t):=by
 intro pins s σ H Q I h
 refine wpAny_Call_method_late B L J rfl (thn (ho pins s σ H _ I h) fun v s1 zz=>?_)
 obtain ⟨x,H1,Y,U,ty,q1⟩:=zz
 obtain ⟨h1,h2⟩:=tyV_is Y U ty
 refine ⟨T,id,pa,slot,O,h1,h2,?_⟩
 have Z:=ha cpos pins s1 σ H1 _ Y q1
 rw [hs] at Z ⊢
 refine Calls.callWith_builtin (by show (false || (backTo cpos (starEach es X.env)).any (·.1))=false;rw [z] <;> rfl) (Calls.evalArgs_plain ?_)
 exact thn Z fun us s2 ⟨vs,H2,I2,r2,q2⟩=>hm pins s2 σ H2 x vs v us Q I2 U r2 q2
end
noncomputable def MtM (X:Cx) (id:String) (r:V->List V->Hp->VK->Prop):Prop :=
 ∀ (pins:List (Addr×Obj)) (s:Shared) (σ:St) (H:Hp) (x:V) (xs:List V) (v:Value) (us:List Value) (Q:VK),Inv X pins σ H s->RelV x v->Vals xs us->r x xs H Q ->
  wpAny (model X.prog X.w) X.A (call (.builtin id) (v::us)) (EP X pins σ Q) X.xe s
theorem Vals.one {x:V} {us:List Value} (r:Vals [x] us):∃ u,us=[u] /\ RelV x u:=ZDu r
theorem Vals.two {x y:V} {us:List Value} (r:Vals [x,y] us):∃ u v,us=[u,v] /\ RelV x u /\ RelV y v:=ZFA r
theorem Vals.zero:∀ {us:List Value},Vals [] us->us=[]
 | _,.nil=>rfl
theorem Vals.eraseIdx:∀ {xs:List V} {us:List Value} (i:Nat),Vals xs us->Vals (xs.eraseIdx i) (us.eraseIdx i)
 | _,_,_,.nil=>.nil
 | _,_,0,.cons _ t=>t
 | _,_,i+1,.cons r t=>.cons r (Vals.eraseIdx i t)
theorem Vals.reverse {xs:List V} {us:List Value} (h:Vals xs us):Vals xs.reverse us.reverse:=by
 induction h with
 | nil=>exact .nil
 | cons r t ih=>rw [List.reverse_cons,List.reverse_cons];exact Vals.append ih (.cons r .nil)
theorem len_erase {α:Type}:∀ (l:List α) (i:Nat),(l.eraseIdx i).length <= l.length
 | [],_=>yAB _
 | _::_,0=>yBF _
 | _::r,i+1=>Nat.succ_le_succ (len_erase r i)
section
variable {X:Cx} {pins:List (Addr×Obj)} {σ:St} {H:Hp} {s:Shared} {l b:Addr} {xs ys zs:List V}
theorem Inv.lset {its its':List Value} {n:Nat} {f:Array Value->Array Value} {t':Nat} (I:Inv X pins σ H s) (L:H l=some (.lst xs))
  (e:s.heap.get? l=some { cls:=.type "list",data:=.seq its.toArray n }) (U:f its.toArray=its'.toArray) (B:Vals ys its') (J:ys.length <= sizeLine) :
  Inv X pins σ (upd H l (.lst ys)) { s with heap:=s.heap.update l (Obj.mapSeq f),toks:=t' }:=by
 have q:=PySem.IsL.update e f
 rw [U] at q
 refine I.write (x:=l) (e:=l) (by rw [L];exact trivial) (.inl rfl) (fun b' u z O=>(Heap.get?_update_other s.heap (Obj.mapSeq f) (Ne.symm z)).trans O) ⟨_,q⟩ ?_
 exact ⟨J,its',_,B,q⟩
theorem Inv.lnew {its:List Value} {t':Nat} (I:Inv X pins σ H s) (z:Vals ys its) (B:ys.length <= sizeLine) :
  Inv X pins σ (upd H s.heap.objs.size (.lst ys)) { s with heap:=s.heap.push { cls:=.type "list",data:=.seq its.toArray },toks:=t' } :=
 I.laid (fun _ _ q=>Heap.get?_push_of_some _ q) (yAB _) ⟨B,its,0,z,Heap.get?_push_size _ rfl⟩
theorem Inv.fresh (I:Inv X pins σ H s):H s.heap.objs.size=none:=I.hok.fresh (yAB _)
theorem Inv.lstM (I:Inv X pins σ H s) (B:H l=some (.lst xs)):xs.length <= sizeLine /\ ∃ (its:List Value) (n:Nat),Vals xs its /\ xs.length=its.length /\ s.heap.get? l=some { cls:=.type "list",data:=.seq its.toArray n }:=by
 obtain ⟨z,its,n,r,e⟩:=I.hok l _ B
 exact ⟨z,its,n,r,r.length,e⟩
theorem notLongL {n:Nat} (h:n <= sizeLine):Builtin.List.listTooLong n=false:=by
 unfold Builtin.List.listTooLong
 exact decide_eq_false (by omega)
end
section
variable {X:Cx}
noncomputable def rAppend:V->List V->Hp->VK->Prop:=fun x vs H Q=>∃ l xs y,x=.ref l /\ vs=[y] /\ H l=some (.lst xs) /\ xs.length < sizeLine /\ Q .non (upd H l (.lst (xs++[y])))
theorem ZBV:MtM X "list.append" rAppend:=by
 intro pins s σ H x vs v us Q I J O h
 obtain ⟨l,xs,y,rfl,rfl,B,U,q⟩:=h
 cases J
 obtain ⟨u,rfl,L⟩:=O.one
 obtain ⟨z,its,n,r,hl,e⟩:=I.lstM B
 refine call_meets F.slot_list_append ⟨_,e,rfl⟩ F.entry_list_append (F.args_list_append_2 _ _) (PySem.list_append l its.toArray n u (by rw [yAP];omega)) ⟨e,?_⟩
 refine ⟨.non,_,I.lset (its':=its++[u]) B e (by simp) (r.append (.cons L .nil)) ?_,rfl,q⟩
 rw [yAE,yBE]
 omega
noncomputable def rExtend:V->List V->Hp->VK->Prop:=fun x vs H Q=>∃ l b xs zs,x=.ref l /\ vs=[.ref b] /\ H l=some (.lst xs) /\ H b=some (.lst zs) /\ xs.length+zs.length <= sizeLine /\ Q .non (upd H l (.lst (xs++zs)))
theorem mt_extend:MtM X "list.extend" rExtend:=by
 intro pins s σ H x vs v us Q I Y rv h
 obtain ⟨l,b,xs,zs,rfl,rfl,L,hB,hz,q⟩:=h
 cases Y
 obtain ⟨u,rfl,ru⟩:=rv.one
 cases ru
 obtain ⟨z,its,n,r,hl,e⟩:=I.lstM L
 obtain ⟨z2,B,n2,O,Z,U⟩:=I.lstM hB
 have hsz:its.toArray.size+B.toArray.size <= sizeLine:=by rw [yAP,yAP];omega
 have J:¬ (!its.toArray.isEmpty && Builtin.List.listTooLong (its.toArray.size+B.toArray.size))=true:=by
  rw [notLongL hsz,Bool.and_false]
  exact yBB
 refine call_meets F.slot_list_extend ⟨_,e,rfl⟩ F.entry_list_extend (F.args_list_extend_2 _ _)
  (AutoSeq1.list_extend_list_list_0 l its.toArray n b B.toArray n2 J (by rw [yAP];omega) (by omega)) ⟨e,U,?_⟩
 refine ⟨.non,_,I.lset (its':=its++B) L e (by simp) (r.append O) ?_,rfl,q⟩
 rw [yAE]
 omega
noncomputable def rPopAt:V->List V->Hp->VK->Prop:=fun x vs H Q=>∃ l xs i k y,x=.ref l /\ vs=[.int i] /\ H l=some (.lst xs) /\ -(2 ^ 63) <= i /\ i < 2 ^ 63 /\ seqIndex? i xs.length=some k /\ xs[k]?=some y /\ Q y (upd H l (.lst (xs.eraseIdx k)))
theorem ZDV:MtM X "list.pop" rPopAt:=by
 intro pins s σ H x vs v us Q I O Z h
 obtain ⟨l,xs,i,k,y,rfl,rfl,J,h1,h2,L,U,q⟩:=h
 cases O
 obtain ⟨u,rfl,Y⟩:=Z.one
 obtain ⟨t,rfl⟩:=Y
 obtain ⟨z,its,n,r,hl,e⟩:=I.lstM J
 obtain ⟨w,hw,B⟩:=r.get U
 refine call_meets F.slot_list_pop ⟨_,e,rfl⟩ F.entry_list_pop (F.args_list_pop_2 _ _)
  (MeetsSeq.list_pop_at l its.toArray n i t k w (fitsIndex_both h1 h2) (by rw [yAP,<- hl];exact L) (by rw [<- Array.getElem?_toList];exact hw) (by rw [yAP];omega)) ⟨e,?_⟩
 refine ⟨y,_,I.lset (its':=its.eraseIdx k) J e ?_ (r.eraseIdx k) ?_,B,q⟩
 .show its.toArray.eraseIdxIfInBounds k=(its.eraseIdx k).toArray
  rw [List.eraseIdxIfInBounds_toArray]
 .have:=len_erase xs k
  omega
noncomputable def rReverse:V->List V->Hp->VK->Prop:=fun x vs H Q=>∃ l xs,x=.ref l /\ vs=[] /\ H l=some (.lst xs) /\ Q .non (upd H l (.lst xs.reverse))
theorem mt_reverse:MtM X "list.reverse" rReverse:=by
 intro pins s σ H x vs v us Q I L O h
 obtain ⟨l,xs,rfl,rfl,J,q⟩:=h
 cases L
 have B:=O.zero
 subst B
 obtain ⟨z,its,n,r,hl,e⟩:=I.lstM J
 refine call_meets F.slot_list_reverse ⟨_,e,rfl⟩ F.entry_list_reverse (F.args_list_reverse_1 _) (AutoSeq1.list_reverse_list_0 l its.toArray n (by rw [yAP];omega)) ⟨e,?_⟩
 refine ⟨.non,_,I.lset (its':=its.reverse) J e (by simp) r.reverse ?_,rfl,q⟩
 rw [yCE]
 omega
noncomputable def rClear:V->List V->Hp->VK->Prop:=fun x vs H Q=>∃ l xs,x=.ref l /\ vs=[] /\ H l=some (.lst xs) /\ Q .non (upd H l (.lst []))
theorem mt_clear:MtM X "list.clear" rClear:=by
 intro pins s σ H x vs v us Q I L O h
 obtain ⟨l,xs,rfl,rfl,J,q⟩:=h
 cases L
 have B:=O.zero
 subst B
 obtain ⟨z,its,n,r,hl,e⟩:=I.lstM J
 refine call_meets F.slot_list_clear ⟨_,e,rfl⟩ F.entry_list_clear (F.args_list_clear_1 _) (AutoSeq1.list_clear_list_0 l its.toArray n (by rw [yAP];omega)) ⟨e,?_⟩
 exact ⟨.non,_,I.lset (its':=[]) (ys:=[]) J e rfl .nil (yAJ _),rfl,q⟩
noncomputable def rCat:R2:=fun x y H Q=>∃ l b xs zs,x=.ref l /\ y=.ref b /\ H l=some (.lst xs) /\ H b=some (.lst zs) /\ xs.length+zs.length <= sizeLine /\ ∀ p,H p=none->Q (.ref p) (upd H p (.lst (xs++zs)))
theorem ZE7:OpR X (binaryOp .Add) rCat:=by
 intro pins s σ H x y v u Q I O ry h
 obtain ⟨l,b,xs,zs,rfl,rfl,U,Z,hz,q⟩:=h
 cases O
 cases ry
 obtain ⟨z,its,n,r,hl,e⟩:=I.lstM U
 obtain ⟨z2,B,n2,J,Y,L⟩:=I.lstM Z
 refine PySem.P.add_list e L ?_ (by rw [yAP,yAP];omega)
 have ea:its.toArray++B.toArray=(its++B).toArray:=by simp
 rw [ea]
 exact ⟨.ref _,_,I.lnew (t':=s.toks) (r.append J) (by rw [yAE];omega),rfl,q _ I.fresh⟩
end
section
variable {prog:Program} {w:World} {A:Around} {E:Value->Shared->Prop} {s:Shared}
set_option maxRecDepth 100000 in
end
section
variable {X:Cx}
end
end L2
namespace Att
open PySem PySem.W PySem.Calls PyProof.Rows
theorem ints_of_wellAll {P:Params} {h:Heap}:∀ (ns:List Int) (vs:List Value),WellAll P h vs (ns.map WData.int)->IntsAre vs ns:=by
 intro ns
 induction ns with
 | nil=>
  intro vs w
  rw [List.map_nil] at w
  cases w
  exact .nil
 | cons n ns ih=>
  intro vs w
  rw [yAS] at w
  cases w with
  | cons a b=>
   cases a
   exact .cons _ _ (ih _ b)
theorem script_of {l:OpenLaw} {n:Nat} (hn:l.most=some n) {P:Params} {h:Heap} {args:List WData} {B:List Value}
  (z:l.row.toRowW.claim.pre args=true) (U:WellAll P h B args) :
  ∃ a vs ns,B=[Value.ref a] /\ args=[WData.list (ns.map WData.int)] /\ h.get? a=some { cls:=.type "list",data:=.seq vs.toArray } /\ IntsAre vs ns /\ ns.length <= n:=by
 have Y:WShape.hasAll [] args [.list .int]=true:=(pre_splitW z).1
 have hc:l.pre.holds [] { args:=args }=true:=(pre_splitW z).2
 obtain ⟨d,r,rfl,h1,h2⟩:=hasAllW_cons Y
 obtain rfl:=hasAllW_nil h2
 obtain ⟨xs,rfl,h3⟩:=hasW_list h1
 obtain ⟨ns,rfl⟩:=items_int h3
 have J:ns.length <= n:=by
  unfold OpenLaw.pre at hc
  have L:(WTm.not (.lt (.lit (.int (n:Int))) (.len (.arg 0)))).holds [] { args:=[.list (ns.map .int)] }=true:=by
   have L:=(holds_andW hc).1
   rw [hn] at L
   exact L
  have O:=condW_of L (w_not (w_lt w_lit (w_len_list (w_arg rfl))))
  rw [yAA] at O
  refine Nat.le_of_not_lt fun q=>?_
  have q':(n:Int) < ((ns.length:Nat):Int):=by omega
  first
   | (rw [decide_eq_true q'] at O;exact absurd O (by decide))
   | (simp at O;omega)
 cases U with
 | cons w1 w2=>
  cases w2
  cases w1 with
  | list ho hall=>exact ⟨_,_,ns,rfl,rfl,ho,ints_of_wellAll ns _ hall,J⟩
theorem post_true (l:OpenLaw) (args:List WData):l.row.toRowW.claim.post args (.bool true) args=true :=
 postW_of (r:=l.row.toRowW) (X:=(true == true))
  (show WShape.has [] (.bool true) .bool=true by first | rfl | decide | simp [WShape.has,WShape.arms,WShape.armsAll])
  (show (WTm.eq .res (.lit (.bool true))).value [] { args:=args,res:=some (.bool true),after:=args }=some (.bool (true == true)) from w_eq_bool (w_res rfl) w_lit) rfl
theorem attach_call {l:OpenLaw} {n:Nat} {q:Program} {loose:List Str} {XP:(Str->Option Value)->Heap->Prop} {YP:World->Heap->Prop} {d:DefRec}
  (hn:l.most=some n) (a2:d.params.defaults=[])
  (call:∀ (w:World) (s₀ s₁:Shared) (mg mb:Str->Option Value) (O:Addr) (o:Obj) (pm Z z:Value) (a:Addr) (vs:List Value) (ns:List Int),
   Ground q loose [] XP w s₀ mg mb s₁.heap->YP w s₁.heap ->
   s₁.heap.get? O=some o->o.data=.func (docDef d.name d.params d.body d.scope pm Z z)->s₁.heap.CodeRec Z d.name->mg d.name=some (.ref O) ->
   s₁.heap.get? a=some { cls:=.type "list",data:=.seq vs.toArray }->IntsAre vs ns->ns.length <= n->s₁.gens=#[] ->
   codeAny (model l.prog w) callerA (.call (.ref O) ⟨[.ref a],[]⟩) (fun r s'=>r=.ok (.ret (.bool true)) /\ OldK s₁.heap s'.heap /\ s'.os=s₁.os /\ AllBare s'.gens) s₁) :
  WalkO q loose XP YP l.row.toRowW d [] (fun f vs=>PySem.call f vs):=by
 intro w s₀ s₁ mg mb G Y O o pm Z z dV kV ho hd a1 hD a0 hg args a5 as J a4 a6 a3 a7
 obtain rfl:dV=.none:=Dflts.none hD a2
 obtain rfl:kV=.none:=Dflts.noKw hD
 obtain ⟨a,vs,ns,rfl,rfl,U,B,L⟩:=script_of hn J a3
 refine enter_call (codeAny_mono (call w s₀ s₁ mg mb O o pm Z z a vs ns G Y ho (fd_plain hd) a1 a0 U B L hg) fun r s' hq=>?_)
 obtain ⟨rfl,h2,h3,h4⟩:=hq
 exact ⟨.inl ⟨.bool true,.bool true,[],rfl,fun _=>rfl,.bool true,post_true l _,fun _=>⟨List.Pairwise.nil,fun _ hm=>(nomatch hm)⟩⟩,h2,h3,h4⟩
section
variable {prog:Program} {w:World} {A:Around} {E:Value->Shared->Prop} {s:Shared} {K:Frag}
end
end Att
namespace L2
open PySem PySem.Spec PyProof.Rows
theorem ZDZ:∀ {vs:List Value} {ns:List Int},IntsAre vs ns->Vals (ns.map V.int) vs
 | _,_,.nil=>.nil
 | _,_,.cons n t h=>.cons ⟨t,rfl⟩ (ZDZ h)
end L2
namespace L2
open PySem PySem.Spec PyProof.Rows
noncomputable def ZAi (s:Stmt) (j:Nat):Stmt:=match s with
 | .ClassDef _ _ _ body _ _ _ _ _ _ _=>body.getD j (.Pass ⟨0,0,0,0⟩)
 | _=>.Pass ⟨0,0,0,0⟩
noncomputable def ZAM (s:Stmt):Arguments:=match s with
 | .FunctionDef _ a _ _ _ _ _ _ _ _=>a
 | _=>{ posonlyargs:=[],args:=[],vararg:=none,kwonlyargs:=[],kw_defaults:=[],kwarg:=none,defaults:=[] }
noncomputable def ZAL (s:Stmt):List Stmt:=match s with
 | .FunctionDef _ _ b _ _ _ _ _ _ _=>b
 | _=>[]
noncomputable def ZAC (s:Stmt):Scope:=match s with
 | .FunctionDef _ _ _ _ _ _ sc _ _ _=>sc
 | _=>{ kind:=.function,names:=[],isGenerator:=false,isCoroutine:=false }
noncomputable abbrev CX0:CXT:=fun _ _ _ _ _ _=>False
noncomputable abbrev E0:XK:=fun _ _ _=>False
theorem ZAV {X:Cx}:ZCF CX0 X E0:=fun _ _ _ _ _ _ _ h=>h.elim
structure Fun (K:W.Frag) (x qual:Str) (st:Stmt) (f:Addr) (fd:FuncData):Prop where
 ex:∃ (oc:Value) (od:Option Addr) (kV doc pm:Value) (an:Option Addr) (cdv ct:Value) (osl:Array (Option Value)),
  fd=W.fnOf x qual (ZAM st) (ZAL st) (ZAC st) .none kV doc pm an cdv ct /\ K.lookup f=some ⟨oc,od,.func fd,osl⟩ /\ W.codeIn K cdv qual=true
 kp:W.keepIn K (.ref f)=true
section
variable {P:Program} {w:World} {K:W.Frag} {mg:Str->Option Value} {base:Heap}
theorem Fun.ok {x qual:Str} {st:Stmt} {f:Addr} {fd:FuncData} {N ps:List Str} {k:Nat} {sp:Sp} (F:Fun K x qual st f fd) (S:FnScope N ps (ZAC st)) (len:∀ vs H Q E,sp vs H Q E->vs.length=ps.length)
  (B:∀ (z:Value) (A:Around) (outer:List Env) (s:Shared) (H:Hp) (vs:List V) (Q:VK) (E:XK),Room k (A.deeper (envOfC qual (ZAC st) s.heap.objs.size f z))->sp vs H Q E ->
   ∃ t,PSs (cxOf CX0 P w K mg base N qual (ZAC st) f z A outer s H E).nox (ZAL st) t /\ t { nx:=fun _ H'=>Q .non H',rt:=Q } (start N vs) H):FnOk P w K mg base CX0 (k+1) f fd ps sp:=by
 obtain ⟨oc,od,kV,Y,Z,an,z,ct,U,rfl,lk,J⟩:=F.ex
 refine fn_of lk J S len fun A outer s H vs Q E O L=>?_
 obtain ⟨t,h,q⟩:=B z A outer s H vs Q E O L
 exact ⟨t,h.nox,q⟩
theorem Fun.binds {x qual:Str} {st:Stmt} {f:Addr} {fd:FuncData} {ps:List Str} (F:Fun K x qual st f fd)
  (h:∀ (kV B J:Value) (an:Option Addr) (z ct:Value) (us:List Value),us.length=ps.length->bindArgs (W.fnOf x qual (ZAM st) (ZAL st) (ZAC st) .none kV B J an z ct) ⟨us,[]⟩=pure (ps.zip us)):Binds K fd ps []:=by
 obtain ⟨oc,od,kV,B,J,an,z,ct,O,rfl,lk,L⟩:=F.ex
 exact .all (h kV B J an z ct)
theorem ZAb {x qual:Str} {st:Stmt} {f:Addr} {oc:Value} {od an:Option Addr} {J:Array (Option Value)} {kV B L z ct:Value} (l:K.lookup f=some ⟨oc,od,.func (W.fnOf x qual (ZAM st) (ZAL st) (ZAC st) .none kV B L an z ct),J⟩)
  (c:W.codeIn K z qual=true) (k:W.keepIn K (.ref f)=true):Fun K x qual st f (W.fnOf x qual (ZAM st) (ZAL st) (ZAC st) .none kV B L an z ct):=⟨⟨oc,od,kV,B,L,an,z,ct,J,rfl,l,c⟩,k⟩
end
theorem ZEZ {A:Around} {k:Nat} (z:Room k A):A.units+1 < cLine:=Nat.lt_of_le_of_lt (Nat.add_le_add_left (by decide:1 <= 64) _) z.units
theorem ZAq {n:Nat} (h:n <= 1000):n < sizeLine:=Nat.lt_of_le_of_lt h (by decide)
section
variable {X:Cx}
theorem pv (i:Nat) {x:Str} {pos:Pos} (J:X.N[i]?=some x:=by rfl) (B:Vis X.env.scope x:=by first | exact Or.inl rfl | exact Or.inr (Or.inl rfl) | exact Or.inr (Or.inr rfl)) (L:(x == ("__debug__":Str))=false:=by decide)
  (z:(x == ("__classdict__":Str))=false:=by decide):PE X (.Name x pos) (tVar i):=pe_var J B L z
end
noncomputable def Same (H H':Hp):Prop:=∀ b o,H b=some o->H' b=some o
theorem Same.refl (H:Hp):Same H H:=fun _ _ h=>h
theorem Same.trans {H H1 H2:Hp} (a:Same H H1) (b:Same H1 H2):Same H H2:=fun c o h=>b c o (a c o h)
theorem Same.free {H H':Hp} (e:Same H H') {l:Addr} (h:H' l=Option.none):H l=Option.none:=by
 cases q:H l with
 | none=>rfl
 | some o=>
  rw [e l o q] at h
  cases h
theorem Same.seq {K:W.Frag} {H H':Hp} {a:Addr} {xs:List V} (e:Same H H') (h:SqL K H a xs):SqL K H' a xs:=by
 rcases h with (h | ⟨o,h⟩) | h
 .exact .inl (.inl (e _ _ h))
 .exact .inl (.inr ⟨o,e _ _ h⟩)
 .exact .inr h
end L2
set_option maxHeartbeats 4000000
namespace L2
open PySem PySem.Spec PyProof.Rows
theorem natlt {a b:Addr} (h:a < b):@LT.lt Nat _ a b:=h
theorem ZDw {a b:Addr} {n:Nat} (h:a < n) (k:n <= b):a≠b:=yAN (yAW h k)
theorem ZBE:∀ (names:List (Str×NameKind)) (n:Nat) (acc:List (Str×Addr)),cellsFrom n names acc=cellsFrom n names []++acc
 | [],_,_=>rfl
 | (x,k)::r,n,acc=>by
  unfold cellsFrom
  split
  .rw [ZBE r (n+1) ((x,n)::acc),ZBE r (n+1) [(x,n)],yAV];rfl
  .exact ZBE r n acc
theorem ZCQ:∀ (names:List (Str×NameKind)) (n:Nat) (acc:List (Str×Addr)) (y:Str) (c:Addr),(y,c)∈cellsFrom n names acc->(y,c)∈acc∨((y,NameKind.cell)∈names /\ n <= c)
 | [],_,_,_,_,h=>.inl h
 | (x,k)::r,n,acc,y,c,h=>by
  unfold cellsFrom at h
  split at h
  .rename_i hk
   have z:k=.cell:=by simpa using hk
   rcases ZCQ r (n+1) _ y c h with h | ⟨h,l⟩
   .rcases yAF.mp h with e | h
    .cases e;subst z;exact .inr ⟨yAC,yAB _⟩
    .exact .inl h
   .exact .inr ⟨yAD _ h,Nat.le_of_succ_le l⟩
  .rcases ZCQ r n _ y c h with h | ⟨h,l⟩
   .exact .inl h
   .exact .inr ⟨yAD _ h,l⟩
noncomputable def closFrom (cells:List (Str×Addr)):List (Str×NameKind)->List (Str×Addr)->List (Str×Addr)
 | [],acc=>acc
 | (x,k)::r,acc=>if k == .free then closFrom cells r ((x,(cells.lookup x).getD 0)::acc) else closFrom cells r acc
theorem ZB5 {cells:List (Str×Addr)}:∀ (names:List (Str×NameKind)) (acc:List (Str×Addr)) (y:Str) (c:Addr),(y,c)∈closFrom cells names acc->(y,c)∈acc∨((y,NameKind.free)∈names /\ c=(cells.lookup y).getD 0)
 | [],_,_,_,h=>.inl h
 | (x,k)::r,acc,y,c,h=>by
  unfold closFrom at h
  split at h
  .rename_i hk
   have z:k=.free:=by simpa using hk
   rcases ZB5 r _ y c h with h | ⟨h,l⟩
   .rcases yAF.mp h with e | h
    .cases e;subst z;exact .inr ⟨yAC,rfl⟩
    .exact .inl h
   .exact .inr ⟨yAD _ h,l⟩
  .rcases ZB5 r _ y c h with h | ⟨h,l⟩
   .exact .inl h
   .exact .inr ⟨yAD _ h,l⟩
theorem ZCb {cells:List (Str×Addr)}:∀ (names:List (Str×NameKind)) (acc:List (Str×Addr)) (p:Str×Addr),p∈acc->p∈closFrom cells names acc
 | [],_,_,h=>h
 | (x,k)::r,acc,p,h=>by
  unfold closFrom
  split
  .exact ZCb r _ p (yAD _ h)
  .exact ZCb r _ p h
theorem ZB6 {cells:List (Str×Addr)}:∀ (names:List (Str×NameKind)) (acc:List (Str×Addr)) (y:Str),(y,NameKind.free)∈names->(y,(cells.lookup y).getD 0)∈closFrom cells names acc
 | [],_,_,h=>nomatch h
 | (x,k)::r,acc,y,h=>by
  unfold closFrom
  rcases yAF.mp h with e | h
  .cases e
   rw [if_pos (by rfl)]
   exact ZCb r _ _ yAC
  .split
   .exact ZB6 r _ y h
   .exact ZB6 r _ y h
theorem ZBl {α:Type}:∀ {l:List (Str×α)} {y:Str} {c:α},(y,c)∈l->∃ c',l.lookup y=some c'
 | (k,v)::r,y,c,h=>by
  rw [yBV]
  cases hb:y == k with
  | true=>exact ⟨v,rfl⟩
  | false=>
   rcases yAF.mp h with e | h
   .cases e;rw [beq_self_eq_true] at hb;cases hb
   .exact ZBl h
theorem ZCP {env:Env} (f:Str×NameKind->List (Str×Addr)->Sem (ForInStep (List (Str×Addr))))
  (B:∀ name kind cs,f (name,kind) cs=if kind == .free then (do let a <- cellOf env name;pure (.yield ((name,a)::cs))) else pure (.yield cs)) :
  ∀ (names:List (Str×NameKind)) (acc:List (Str×Addr)),(∀ x,(x,NameKind.free)∈names->∃ c,env.cells.lookup x=some c)->forIn names acc f=(pure (closFrom env.cells names acc):Sem (List (Str×Addr)))
 | [],acc,_=>by rw [List.forIn_nil];rfl
 | (x,k)::r,acc,h=>by
  have J:∀ x,(x,NameKind.free)∈r->∃ c,env.cells.lookup x=some c:=fun y L=>h y (yAD _ L)
  rw [List.forIn_cons,B]
  unfold closFrom
  split
  .rename_i hk
   have z:k=.free:=by simpa using hk
   subst z
   obtain ⟨c,hc⟩:=h x yAC
   have e:cellOf env x=(pure c:Sem Addr):=by unfold cellOf;rw [hc]
   rw [e,hc]
   exact ZCP f B r ((x,c)::acc) J
  .exact ZCP f B r acc J
theorem closureFor_eq {scope:Scope} {env:Env} (h:∀ x,(x,NameKind.free)∈scope.names->∃ c,env.cells.lookup x=some c):closureFor scope env=pure (closFrom env.cells scope.names []):=by
 simp only [closureFor]
 rw [ZCP _ (fun name kind cs=>by cases hk:kind == NameKind.free <;> simp [hk]) scope.names [] h]
 rfl
section
variable {M:Model} {A:Around} {E:Value->Shared->Prop} {s:Shared}
theorem newEnv_comp {scope:Scope} {globals:Addr} {cl:List (Str×Addr)} {qual:Str} {env:Env} {Q:Env->Shared->Prop}
  (z:Q { scope:=scope,locals:=s.heap.objs.size,globals:=globals,cells:=cellsFrom (s.heap.objs.size+1) scope.names cl,qual:=qual,func:=none,code:=env.code,frame:=env.frame,builtins:=env.builtins }
   { s with heap:=pushCells (s.heap.push { cls:=.type "dict",data:=.dict #[] }) scope.names }) :
  wpAny M A (newFunctionEnv scope globals cl [] qual none .none (some env)) Q E s:=by
 simp only [newFunctionEnv,Option.isSome_some,if_true]
 refine wpAny_bind (wpAny_alloc ?_)
 refine wpAny_bind (wpAny_layCells _ (fun name kind cells=>by cases hkc:kind == NameKind.cell <;> simp [hkc]) _ _ _ _ ?_)
 rw [show ({ s with heap:=s.heap.push { cls:=.type "dict",data:=.dict #[] } }:Shared).heap.objs.size=s.heap.objs.size+1 from Heap.size_push ..]
 rw [List.forIn_nil]
 exact wpAny_bind (wpAny_pure (wpAny_pure z))
end
theorem relabel_lookup {scope:Scope} {env:Env} (x:Str):(relabel scope env).names.lookup x=(scope.names.lookup x).map fun k=>if (k == .free && env.scope.kind == .function && env.kindOf x == some .cell)=true then NameKind.cell else k:=by
 unfold relabel
 dsimp only
 generalize scope.names=names
 induction names with
 | nil=>rfl
 | cons p r ih=>
  obtain ⟨n,k⟩:=p
  rw [yAS,yBV (as:=r)]
  cases hx:x == n with
  | true=>
   have e:x=n:=beq_iff_eq.mp hx
   subst e
   by_cases hc:(k == NameKind.free && env.scope.kind == .function && env.kindOf x == some .cell)=true
   .simp only [hc,if_true,yBV,hx,yBW]
   .simp only [hc,Bool.false_eq_true,if_false,yBV,hx,yBW]
  | false=>
   by_cases hc:(k == NameKind.free && env.scope.kind == .function && env.kindOf n == some .cell)=true
   .simp only [hc,if_true,yBV,hx];exact ih
   .simp only [hc,Bool.false_eq_true,if_false,yBV,hx];exact ih
noncomputable def ZDX (N:List Str) (osc:Scope) (k:Nat) (js:List Nat) (N':List Str) (sc:Scope):Bool :=
 decide (sc.kind=.function) && decide (N'.length=k+js.length) && decide N'.Nodup &&
 sc.names.all (fun p=>decide (sc.names.lookup p.1=some p.2) && (decide (p.2≠.free) || decide (osc.names.lookup p.1=some .cell) || decide (osc.names.lookup p.1=some .free))) &&
 (List.range js.length).all (fun i=>decide (js[i]?.bind (fun j=>N[j]?)=N'[k+i]?) && decide ((N'[k+i]?).bind (fun y=>sc.names.lookup y)=some .free))
structure CmpOk (N:List Str) (osc:Scope) (k:Nat) (js:List Nat) (N':List Str) (sc:Scope):Prop where
 kind:sc.kind=.function
 len:N'.length=k+js.length
 nd:N'.Nodup
 look:∀ p∈sc.names,sc.names.lookup p.1=some p.2
 fr:∀ y,(y,NameKind.free)∈sc.names->osc.names.lookup y=some .cell∨osc.names.lookup y=some .free
 js:∀ i j,js[i]?=some j->∃ y,N'[k+i]?=some y /\ N[j]?=some y /\ sc.names.lookup y=some .free
theorem cmpOk {N:List Str} {B:Scope} {k:Nat} {js:List Nat} {N':List Str} {sc:Scope} (h:ZDX N B k js N' sc=true):CmpOk N B k js N' sc:=by
 unfold ZDX at h
 simp only [yBK,decide_eq_true_eq,List.all_eq_true,Bool.or_eq_true,List.mem_range] at h
 obtain ⟨⟨⟨⟨h1,h2⟩,h3⟩,J⟩,U⟩:=h
 refine ⟨h1,h2,h3,fun p Y=>(J p Y).1,fun y O=>?_,fun i j L=>?_⟩
 .rcases (J _ O).2 with (z | z) | z
  .exact absurd rfl z
  .exact .inl z
  .exact .inr z
 .have hi:i < js.length:=(yAR.mp L).1
  obtain ⟨a,b⟩:=U i hi
  rw [L] at a
  cases e:N'[k+i]? with
  | none=>rw [e] at b;cases b
  | some y=>
   rw [e] at a b
   exact ⟨y,rfl,a,b⟩
noncomputable def ZEL (scope:Scope) (cl:List (Str×Addr)) (C:Addr) (env:Env):Env :=
 { scope:=relabel scope env,locals:=C,globals:=env.globals,cells:=cellsFrom (C+1) scope.names cl,qual:=env.qual,func:=none,code:=env.code,frame:=env.frame,builtins:=env.builtins }
noncomputable def ZCE (X:Cx) (N':List Str) (scope:Scope) (C:Addr) (fp:List Addr) (s2:Shared) (H2:Hp):Cx where
 prog:=X.prog
 w:=X.w
 K:=X.K
 mg:=X.mg
 base:=X.base
 A:=X.A
 N:=N'
 s₀:=s2
 H₀:=H2
 env:=ZEL scope (closFrom X.env.cells scope.names []) C X.env
 outer:=X.stack
 stack:=X.stack
 ex:=fp
 fn:=fun x=>decide (scope.names.lookup x=some .cell)
 calm:=X.calm
 pn:=[]
 xe:=fun _ _=>False
noncomputable def up (k:Nat) (js:List Nat) (σ:St):St:=List.replicate k none++js.map fun j=>(σ[j]?).getD none
section
variable {X:Cx} {pins:List (Addr×Obj)} {σ:St} {H:Hp} {s2:Shared} {k:Nat} {js:List Nat} {N':List Str} {scope:Scope} {fp:List Addr}
theorem comp_inv (hc:CmpOk X.N X.env.scope k js N' scope) (I:Inv X pins σ H s2) (a0:∀ b∈fp,FpOk X pins H b) (a5:∀ b∈fp,b < s2.heap.objs.size) {h3:Heap} (hz:h3.objs.size=s2.heap.objs.size+1) (a8:∀ b o,s2.heap.get? b=some o->h3.get? b=some o) :
  Inv (ZCE X N' scope (s2.heap.objs.size+1) fp s2 H) [] (up k js σ) H { s2 with heap:=pushCells (h3.push { cls:=.type "dict",data:=.dict #[] }) scope.names }:=by
 have L:∀ y,(y,NameKind.free)∈scope.names->∃ c,X.env.cells.lookup y=some c:=fun y hy=>I.ok.has y (hc.fr y hy)
 have a1:=cellsFrom_ok scope.names (h3.push { cls:=.type "dict",data:=.dict #[] }) (s2.heap.objs.size+2) [] ⟨fun _ _ hm=>(nomatch hm),List.Pairwise.nil⟩ (by rw [Heap.size_push,hz];exact yAB _)
 rw [Heap.size_push,hz] at a1
 have B:∀ y c,(ZEL scope (closFrom X.env.cells scope.names []) (s2.heap.objs.size+1) X.env).cells.lookup y=some c ->
   ((y,c)∈cellsFrom (s2.heap.objs.size+2) scope.names [] /\ (y,NameKind.cell)∈scope.names /\ s2.heap.objs.size+2 <= c)∨((y,NameKind.free)∈scope.names /\ X.env.cells.lookup y=some c):=fun y c e=>by
  have m:=PySem.mem_of_lookup e
  change (y,c)∈cellsFrom (s2.heap.objs.size+1+1) scope.names _ at m
  rw [ZBE] at m
  rcases yAX.mp m with m | m
  .rcases ZCQ _ _ _ _ _ m with z | ⟨z,l⟩
   .cases z
   .exact .inl ⟨m,z,l⟩
  .rcases ZB5 _ _ _ _ m with z | ⟨z,l⟩
   .cases z
   .obtain ⟨c',e'⟩:=L y z
    rw [e'] at l
    exact .inr ⟨z,by rw [e'];exact congrArg some l.symm⟩
 have a4:∀ y c,X.env.cells.lookup y=some c->c < s2.heap.objs.size:=fun y c e=>by
  obtain ⟨v,q⟩:=I.cell y c e
  exact q.lt
 have O:∀ y,(y,NameKind.free)∈scope.names->∀ c,X.env.cells.lookup y=some c->(ZEL scope (closFrom X.env.cells scope.names []) (s2.heap.objs.size+1) X.env).cells.lookup y=some c:=fun y hy c e=>by
  have m:(y,c)∈cellsFrom (s2.heap.objs.size+1+1) scope.names (closFrom X.env.cells scope.names []):=by
   rw [ZBE]
   have q:=ZB6 (cells:=X.env.cells) scope.names [] y hy
   rw [e] at q
   exact yAQ _ q
  obtain ⟨c',q⟩:=ZBl m
  rcases B y c' q with ⟨_,z,_⟩ | ⟨_,z⟩
  .have z1:=hc.look _ z
   have z2:=hc.look _ hy
   rw [z1] at z2
   cases z2
  .rw [e] at z
   cases z
   exact q
 have J:∀ b o,s2.heap.get? b=some o->(pushCells (h3.push { cls:=.type "dict",data:=.dict #[] }) scope.names).get? b=some o:=fun b o e=>pushCells_keeps _ _ b o (Heap.get?_push_of_some _ (a8 b o e))
 refine ⟨⟨I.ok.mod,hc.kind,I.ok.glob,I.ok.blt,yBF _,fun y z c h1 h2=>?_,fun y hy=>?_,fun y c h1 h2=>?_,I.ok.hd,I.ok.frames,.inl rfl,fun b hb=>⟨?_,fun y c e=>?_⟩,I.bs,yAK I.ok.bsz I.sz,fun b o e hb=>?_,fun b hb hs=>?_,I.stack,I.stkFree⟩,
  rfl,I.bare,Un.kept J,⟨fun _=>none,?_,fun i y v e1 Y e3=>?_⟩,fun y c e=>?_,I.hok.fresh (yBF _),fun y c e=>?_,fun p hp=>absurd (show p∈([]:List (Addr×Obj)) from hp) (by simp),I.hok.kept J,?_⟩
 .
  rcases B y c h1 with ⟨a,_,l⟩ | ⟨_,a⟩ <;> rcases B z c h2 with ⟨b,_,l'⟩ | ⟨_,b⟩
  .exact name_of_addr a1.apart a b
  .have:=natlt (a4 z c b);omega
  .have:=natlt (a4 y c a);omega
  .exact I.ok.inj y z c a b
 .
  have U:(relabel scope X.env).names.lookup y=some .cell∨(relabel scope X.env).names.lookup y=some .free:=hy
  rw [relabel_lookup] at U
  have q:scope.names.lookup y=some .cell∨scope.names.lookup y=some .free:=by
   cases e:scope.names.lookup y with
   | none=>rw [e] at U;rcases U with z | z <;> cases z
   | some kk=>
    rw [e] at U
    cases kk <;> first | exact .inl rfl | exact .inr rfl | (rcases U with z | z <;> simp at z)
  rcases q with q | q
  .obtain ⟨c,e⟩:=ZDY (n:=s2.heap.objs.size+1+1) q
   have m:(y,c)∈cellsFrom (s2.heap.objs.size+1+1) scope.names (closFrom X.env.cells scope.names []):=by
    rw [ZBE]
    exact yBJ _ (PySem.mem_of_lookup e)
   exact ZBl m
  .have m:=PySem.mem_of_lookup q
   obtain ⟨c,e⟩:=L y m
   exact ⟨c,O y m c e⟩
 .
  have a6:scope.names.lookup y=some .cell:=of_decide_eq_true h1
  rcases B y c h2 with ⟨_,_,l⟩ | ⟨z,_⟩
  .show s2.heap.objs.size <= c
   omega
  .have:=hc.look _ z
   rw [a6] at this
   cases this
 .
  exact ZDw (a5 b hb) (yBF _)
 .rcases B y c e with ⟨_,_,l⟩ | ⟨_,z⟩
  .exact (ZDw (a5 b hb) (yAK (yCM _ 2) l)).symm
  .exact (a0 b hb).2.2.2.2.1 y c z
 .
  rcases (a0 b hb).2.2.2.1 with z | z
  .exact I.ok.noex b o e z
  .exact absurd (yAW (Heap.lt_size e) (yAK I.ok.bsz z)) (yBI _)
 .
  rcases yAF.mp (I.stkSub b hs) with z | z
  .exact (a0 b hb).2.1 z
  .exact (a0 b hb).2.2.1 z
 .
  have q:=(Heap.Ns.new h3 (.type "dict")).keeps (pushCells_keeps scope.names _)
  rw [hz] at q
  exact q
 .
  unfold up at Y
  have a3:k <= i:=by
   by_cases hi:i < k
   .rw [yBD (by simpa using hi),List.getElem?_replicate] at Y
    rw [if_pos hi] at Y
    cases Y
   .omega
  rw [yBC (by simpa using a3),yBR,yAM] at Y
  cases ej:js[i-k]? with
  | none=>rw [ej] at Y;cases Y
  | some j=>
   rw [ej] at Y
   have Z:(σ[j]?).getD none=some v:=Option.some.inj Y
   have e4:σ[j]?=some (some v):=by
    cases q:σ[j]? with
    | none=>rw [q] at Z;cases Z
    | some z=>rw [q] at Z;exact congrArg some Z
   obtain ⟨y',n1,n2,n3⟩:=hc.js _ _ ej
   rw [Nat.add_sub_cancel' a3] at n1
   have n0:N'[i]?=some y:=e1
   rw [n1] at n0
   cases n0
   have hm:=PySem.mem_of_lookup n3
   have a2:Vis X.env.scope y:=.inr (hc.fr y hm)
   obtain ⟨m,hn,hl⟩:=I.loc
   obtain ⟨u,r,l⟩:=hl j y v n2 e4 a2
   refine ⟨u,r,?_⟩
   rcases l with ⟨kk,_⟩ | ⟨kk,c,ec,ic⟩
   .have a7:X.env.scope.names.lookup y=some .local:=kk
    rcases hc.fr y hm with z | z <;> (rw [a7] at z;cases z)
   .refine .inr ⟨?_,c,O y hm c ec,ic.keeps J⟩
    show (relabel scope X.env).names.lookup y=some .cell∨(relabel scope X.env).names.lookup y=some .free
    rw [relabel_lookup,n3]
    simp only [yBW]
    split
    .exact .inl rfl
    .exact .inr rfl
 .
  rcases B y c e with ⟨a,_,_⟩ | ⟨_,a⟩
  .exact ⟨none,(a1.empty y c a).1⟩
  .obtain ⟨v,q⟩:=I.cell y c a
   exact ⟨v,q.keeps J⟩
 .rcases B y c e with ⟨_,_,l⟩ | ⟨_,a⟩
  .exact I.hok.fresh (by omega)
  .exact I.freeC y c a
 .unfold up
  show _=N'.length
  rw [yAE,yBR,yAA,hc.len]
theorem comp_end {a2:St} {H':Hp} {s':Shared} {C D:Addr} {its:List Value} {n:Nat} {ys:List V} (I:Inv X pins σ H s2) (a5:∀ b∈fp,FpOk X pins H b) (hC:s2.heap.objs.size <= C) (hD:s2.heap.objs.size <= D) (a3:D≠C)
  (Y:Inv (ZCE X N' scope C fp s2 H) [(D,{ cls:=.type "list",data:=.seq its.toArray n })] a2 H' s') (hv:Vals ys its) (hz:ys.length <= sizeLine) :
  H' D=none /\ ∀ h',Heap.SameBut C s'.heap h'->Inv X pins σ (upd H' D (.lst ys)) { s' with heap:=h' }:=by
 obtain ⟨eD,nD,_,_,_⟩:=Y.pin (D,{ cls:=.type "list",data:=.seq its.toArray n }) (yAQ _ yAC)
 dsimp only at eD nD
 have nC:H' C=none:=Y.free
 refine ⟨nD,fun h' Z=>?_⟩
 have L:∀ b o,s2.heap.get? b=some o->b≠C:=fun b o e=>ZDw (Heap.lt_size e) hC
 have a4:∀ b o,s2.heap.get? b=some o->b≠D:=fun b o e=>ZDw (Heap.lt_size e) hD
 have tr:∀ b u,H' b=some u->b≠D:=fun b u e z=>by rw [z,nD] at e;cases e
 have a0:∀ b u,H' b=some u->b≠C:=fun b u e z=>by rw [z,nC] at e;cases e
 have B:=Y.base
 refine I.call' (s':={ s' with heap:=h' }) (ch:=fp) Y.os ⟨fun b o e nn J O=>?_,fun b o e nn J O=>?_,fun b o e nn O=>?_,fun b o e O=>?_,fun b xs e=>?_,fun b o u e=>?_,fun b ps e=>?_⟩ (fun b u e=>?_) Y.bare fun b J=>?_
 .exact (Z.2 b (L b o e)).trans (B.keep b o e nn J O)
 .obtain ⟨sl,q⟩:=B.slot b o e nn J O
  exact ⟨sl,(Z.2 b (L b o e)).trans q⟩
 .rw [ZAI (a4 b o e)]
  exact B.free b o e nn O
 .obtain ⟨o',q⟩:=B.there b o e O
  exact ⟨o',(Z.2 b (L b o e)).trans q⟩
 .have q:=B.tups b xs e
  rw [ZAI (tr b _ q)]
  exact q
 .have q:=B.frzs b o u e
  rw [ZAI (tr b _ q)]
  exact q
 .obtain ⟨a1,q⟩:=B.tbls b ps e
  exact ⟨a1,by rw [ZAI (tr b _ q)];exact q⟩
 .by_cases J:b=D
  .subst J
   rw [ZAF] at e
   cases e
   exact ⟨hz,its,n,hv,(Z.2 b a3).trans eD⟩
  .rw [ZAI J] at e
   refine (Y.hok b u e).stay (fun c v U q=>(Z.2 c ?_).trans q) (fun c q=>by rw [ZAI (tr c _ q)];exact q) fun c xs q=>by rw [ZAI (tr c _ q)];exact q
   rcases U with rfl | U
   .exact a0 c _ e
   .exact a0 c _ U
 .obtain ⟨_,f1,_,f3,f4,f5⟩:=a5 b J
  exact ⟨f3,f1,f4,f5⟩
end
section
variable {prog:Program} {w:World} {A:Around} {R:Result->Shared->Prop} {s:Shared}
theorem codeAny_compLoop_any {elt z iter:Expr} {ifs:List Expr} {scope:Scope} {pos:Pos} {it Z:Value} {env:Env} (I:Nat->Shared->Prop)
  (turn:∀ n s,I n s->wpAny (model prog w) A (pyNext it) (fun r s₁=>match r with
   | none=>R (.ok .next) s₁
   | some v=>wpAny (model prog w) A (letOwnedTupleGo z it v) (fun _ J=>wpAny (model prog w) A (assign z env v) (fun _ s₂=>
     wpAny (model prog w) A (forIn ifs true fun c r=>if r=true then do let ok <- isTrue c env (eval c env);pure (ForInStep.yield ok) else pure (ForInStep.yield r)) (fun ok B=>
      if ok=true then wpAny (model prog w) A (eval elt env) (fun x Y=>
       wpAny (model prog w) A (call (.builtin "list.append") [Z,x]) (fun _ O=>∃ m,m < n /\ I m O) (notedBy (model prog w) A env fun e s'=>R (.error e) s') Y) (notedBy (model prog w) A env fun e s'=>R (.error e) s') B
      else ∃ m,m < n /\ I m B) (notedBy (model prog w) A env fun e s'=>R (.error e) s') s₂) (notedBy (model prog w) A env fun e s'=>R (.error e) s') J) (notedBy (model prog w) A env fun e s'=>R (.error e) s') s₁) (notedBy (model prog w) A env fun e s'=>R (.error e) s') s)
  (n:Nat) (h:I n s) :
  codeAny (model prog w) A (.compLoop (.ListComp elt [⟨z,iter,ifs,0⟩] scope pos) 0 it Z env) R s:=by
 refine codeAny_loop rfl I (fun n s hI=>?_) n h
 show wpAny _ A ((compTurn (.ListComp elt [⟨z,iter,ifs,0⟩] scope pos) 0 it Z env).onRaise (fun x=>do noteFrame x env;theTreesLotGoes x)) _ _ s
 refine wpAny_noted ?_
 rw [compTurn_list]
 refine wpAny_bind (wpAny_standAt (wpAny_bind (wpAny_mono (turn n s hI) (fun r s₁ U=>?_) fun _ _ h'=>h')))
 cases r with
 | none=>exact wpAny_pure U
 | some v=>
  refine wpAny_bind (wpAny_mono U (fun _ J a0=>?_) fun _ _ h'=>h')
  refine wpAny_bind (wpAny_mono a0 (fun _ s₂ a1=>wpAny_bind (wpAny_mono a1 (fun ok B L=>?_) fun _ _ h'=>h')) fun _ _ h'=>h')
  cases ok with
  | false=>exact wpAny_pure ⟨rfl,L⟩
  | true=>exact wpAny_bind (wpAny_bind (wpAny_mono L (fun x Y a2=>wpAny_bind (wpAny_mono a2 (fun _ O a3=>wpAny_pure (wpAny_pure ⟨rfl,a3⟩)) fun _ _ h'=>h')) fun _ _ h'=>h'))
end
noncomputable def PIfs (X:Cx) (ifs:List Expr) (t:TT):Prop :=
 ∀ (pins:List (Addr×Obj)) (s:Shared) (σ:St) (H:Hp) (Q:Bool->Hp->Prop),Inv X pins σ H s->t σ H Q ->
  wpAny (model X.prog X.w) X.A (forIn ifs true fun c r=>if r=true then do let ok <- isTrue c X.env (eval c X.env);pure (ForInStep.yield ok) else pure (ForInStep.yield r)) (TP X pins σ Q) X.xe s
noncomputable def tYes:TT:=fun _ H Q=>Q true H
theorem ZBT {X:Cx}:PIfs X [] tYes:=fun _ _ _ H _ I h=>wpAny_tests_nil ⟨H,I,h⟩
theorem pifs_one {X:Cx} {c:Expr} {t:TT} (hc:PT X c t):PIfs X [c] t:=fun pins s σ H Q I h=>wpAny_tests_one (hc pins s σ H Q I h)
noncomputable def ZEO (k:Nat) (js:List Nat) (wi:TI) (g:TG) (tt:TT) (te:TE):TE:=fun σ H Q=>wi σ H fun J H1=>∃ W:Nat->Nat->List V->St->Hp->Prop,(∃ m,W 0 m [] (up k js σ) H1) /\ ∀ i m ys σ H,W i m ys σ H ->
 (J.stop i H /\ ys.length <= sizeLine /\ ∀ p,H p=none->Q (.ref p) (upd H p (.lst ys))) ∨
 (J.go i H /\ ys.length < sizeLine /\ ∀ x H',J.yld i H x H'->g x σ H' fun σ2 H2=>tt σ2 H2 fun b H3=>if b=true then te σ2 H3 fun y H4=>∃ m',m' < m /\ W (i+1) m' (ys++[y]) σ2 H4 else ∃ m',m' < m /\ W (i+1) m' ys σ2 H3)
section
variable {X:Cx} {k:Nat} {js:List Nat} {N':List Str} {scope:Scope} {tg iter elt:Expr} {ifs:List Expr} {wi:TI} {g:TG} {tt:TT} {te:TE} {pos:Pos}
theorem comp_core {use:Option (Value->Sem Unit)} {Q':Value->Shared->Prop} (aa:X.calm=true) (hc:CmpOk X.N X.env.scope k js N' scope) (hi:PI X tg iter wi)
  (hg:∀ C fp s2 H2,PG (ZCE X N' scope C fp s2 H2) tg g) (ht:∀ C fp s2 H2,PIfs (ZCE X N' scope C fp s2 H2) ifs tt) (he:∀ C fp s2 H2,PE (ZCE X N' scope C fp s2 H2) elt te)
  {pins:List (Addr×Obj)} {s:Shared} {σ:St} {H:Hp} {Q:VK} (I:Inv X pins σ H s) (h:ZEO k js wi g tt te σ H Q)
  (fin:∀ (C D:Addr) (s':Shared) (m:Str->Option Value) (H':Hp) (ys:List V),s'.heap.Ns C m->C≠X.env.locals->C∉X.fs->D≠C->H' C=none->X.s₀.heap.objs.size <= C->(∀ x c,X.env.cells.lookup x=some c->c≠C)->(∀ p∈X.pn++pins,p.1≠C)->(∀ h',Heap.SameBut C s'.heap h'->Inv X pins σ (upd H' D (.lst ys)) { s' with heap:=h' })->Q (.ref D) (upd H' D (.lst ys)) ->
   compPost (model X.prog X.w) X.A X.xe use Q' (.ref D) C (.ok .next) s')
  (hs:∀ x,foldedSetIterable iter X.env x=pure x) (p':Pos) :
  wpAny (model X.prog X.w) X.A (comprehension (.ListComp elt [⟨tg,iter,ifs,0⟩] scope pos) scope X.env p' (newList []) false (eval iter X.env) use) Q' X.xe s:=by
 have af:closureFor scope X.env=pure (closFrom X.env.cells scope.names []):=closureFor_eq fun y hy=>I.ok.has y (hc.fr y hy)
 refine wpAny_comprehension_free (g:=⟨tg,iter,ifs,0⟩) (gs:=[]) rfl hs af hc.kind (fun x hx hl=>by rw [hc.look x hx,hl]) ?_
 refine thn (hi pins s σ H _ I h) fun v s1 h1=>thn h1 fun bc s2 h2=>?_
 obtain ⟨it,fp,tn,J,H2,e,Y,T,ad,f2,W,⟨m0,w0⟩,turn⟩:=h2
 subst e
 have ah:∀ b∈fp,b < s2.heap.objs.size:=fun b O=>by
  obtain ⟨o,e,_⟩:=T.obj _ _ ad b O
  exact Heap.lt_size e
 refine wpAny_newObj_type (newEnv_comp ?_)
 have av:(s2.heap.push { cls:=.type "list",dict:=none,data:=.seq ([]:List Value).toArray }).objs.size=s2.heap.objs.size+1:=Heap.size_push ..
 have I3:=comp_inv (h3:=s2.heap.push { cls:=.type "list",dict:=none,data:=.seq ([]:List Value).toArray }) hc Y f2 ah av (fun b o e=>Heap.get?_push_of_some _ e)
 dsimp only
 rw [av]
 generalize hS4:({ s2 with heap:=pushCells ((s2.heap.push { cls:=.type "list",dict:=none,data:=.seq ([]:List Value).toArray }).push { cls:=.type "dict",data:=.dict #[] }) scope.names }:Shared)=s4 at I3 ⊢
 have Z:∀ b o,s2.heap.get? b=some o->s4.heap.get? b=some o:=fun b o e=>by
  rw [<- hS4]
  exact pushCells_keeps _ _ b o (Heap.get?_push_of_some _ (Heap.get?_push_of_some _ e))
 have aw:s4.heap.get? s2.heap.objs.size=some { cls:=.type "list",data:=.seq ([]:List Value).toArray 0 }:=by
  rw [<- hS4]
  exact pushCells_keeps _ _ _ _ (Heap.get?_push_of_some _ (Heap.get?_push_size _ rfl))
 generalize hX':ZCE X N' scope (s2.heap.objs.size+1) fp s2 H2=X' at I3
 have a5:X'.env.locals=s2.heap.objs.size+1:=by rw [<- hX'];rfl
 have a8:X'.fs=frs X.stack:=by rw [<- hX'];rfl
 have ac:∀ a,s2.heap.objs.size <= a->a∉frs X.stack:=fun a ha O=>by
  rcases yAF.mp (Y.stkSub a O) with z | z
  .exact absurd z.symm (ZDw Y.lt ha)
  .exact Y.nofs ha z
 have ag:∀ x c,X'.env.cells.lookup x=some c->c≠s2.heap.objs.size:=fun x c e z=>by
  obtain ⟨v,o,ho,hd⟩:=I3.cell x c e
  rw [z,aw] at ho
  cases ho
  cases hd
 have a9:∀ {B:St} {H':Hp} {s':Shared} {its:List Value} {n:Nat},Inv X' [] B H' s'->s'.heap.get? s2.heap.objs.size=some { cls:=.type "list",data:=.seq its.toArray n }->H' s2.heap.objs.size=none ->
   Inv X' [(s2.heap.objs.size,{ cls:=.type "list",data:=.seq its.toArray n })] B H' s':=fun {B H' s' its n} J e nn=>J.pins_of fun p hp=>by
  have e':p=(s2.heap.objs.size,{ cls:=.type "list",data:=.seq its.toArray n }):=by simpa using hp
  subst e'
  refine ⟨e,nn,?_,?_,fun v z=>nomatch z⟩
  .rw [a5];exact yAN (yBQ _)
  .rw [a8];exact ac _ (yAB _)
 have I4:=a9 I3 aw (Y.hok.fresh (yAB _))
 have a4:∀ {H':Hp} {o:Obj},(∀ b∈fp,H' b=none)->∀ b∈fp,FpOk X' [(s2.heap.objs.size,o)] H' b:=fun {H' o} hn b O=>by
  have al:=ah b O
  refine ⟨hn b O,?_,?_,.inl (by rw [<- hX'];exact O),fun x c e z=>?_,fun p hp z=>?_⟩
  .rw [a5];exact ZDw al (yBF _)
  .rw [a8]
   intro z
   rcases yAF.mp (Y.stkSub b z) with q | q
   .exact (f2 b O).2.1 q
   .exact (f2 b O).2.2.1 q
  .have q:=I3.ok.exf b (by rw [<- hX'];exact O)
   exact q.2 x c e z
  .rw [show X'.pn=[] by rw [<- hX'];rfl] at hp
   have e':p=(s2.heap.objs.size,o):=by simpa using hp
   subst e'
   exact absurd al (by rw [<- z];exact yBI _)
 have au:∀ {B:St} {H':Hp} {s':Shared} {its:List Value} {n:Nat} {ys:List V},Inv X' [(s2.heap.objs.size,{ cls:=.type "list",data:=.seq its.toArray n })] B H' s'->Vals ys its->ys.length <= sizeLine->(∀ p,H' p=none->Q (.ref p) (upd H' p (.lst ys))) ->
   compPost (model X.prog X.w) X.A X.xe use Q' (.ref s2.heap.objs.size) (s2.heap.objs.size+1) (.ok .next) s':=fun {B H' s' its n ys} J hv hz hq=>by
  obtain ⟨m,hn,_⟩:=id J.loc
  rw [a5] at hn
  have nC:H' (s2.heap.objs.size+1)=none:=by rw [<- a5];exact J.free
  have J':Inv (ZCE X N' scope (s2.heap.objs.size+1) fp s2 H2) [(s2.heap.objs.size,{ cls:=.type "list",data:=.seq its.toArray n })] B H' s':=by rw [hX'];exact J
  obtain ⟨nD,E⟩:=comp_end Y f2 (yBF _) (yAB _) (yAN (yBQ _)) J' hv hz
  refine fin _ _ s' m H' ys hn ?_ (Y.nofs (yBF _)) (yAN (yBQ _)) nC (yAK Y.sz (yBF _)) (fun x c e z=>?_) (fun p hp z=>?_) E (hq _ nD)
  .exact (ZDw Y.lt (yBF _)).symm
  .obtain ⟨v,q⟩:=Y.cell x c e
   exact absurd z (ZDw q.lt (yBF _))
  .exact absurd z (ZDw (Heap.lt_size (Y.pin p hp).1) (yBF _))
 have L:X'.prog=X.prog:=by rw [<- hX'];rfl
 have hw:X'.w=X.w:=by rw [<- hX'];rfl
 have hK:X'.K=X.K:=by rw [<- hX'];rfl
 have U:X'.calm=true:=by rw [<- hX'];exact aa
 have hA:X'.A=X.A:=by rw [<- hX'];rfl
 have am:ZEL scope (closFrom X.env.cells scope.names []) (s2.heap.objs.size+1) X.env=X'.env:=by rw [<- hX'];rfl
 have az:=hg (s2.heap.objs.size+1) fp s2 H2
 have ar:=ht (s2.heap.objs.size+1) fp s2 H2
 have ap:=he (s2.heap.objs.size+1) fp s2 H2
 rw [hX'] at az ar ap
 have ab:∀ e s',X'.xe e s'->False:=fun e s' z=>by rw [<- hX'] at z;exact z
 have b0:X'.pn=[]:=by rw [<- hX'];rfl
 have b5:X'.s₀.heap.objs.size=s2.heap.objs.size:=by rw [<- hX'];rfl
 have a7:codeAny (model X.prog X.w) X.A (.compLoop (.ListComp elt [⟨tg,iter,ifs,0⟩] scope pos) 0 (.ref it) (.ref s2.heap.objs.size) X'.env) (compPost (model X.prog X.w) X.A X.xe use Q' (.ref s2.heap.objs.size) (s2.heap.objs.size+1)) s4:=by
  refine codeAny_compLoop_any (fun n s'=>∃ i B H' its nn ys,Inv X' [(s2.heap.objs.size,{ cls:=.type "list",data:=.seq its.toArray nn })] B H' s' /\ tn i s'.heap /\ (∀ b∈fp,H' b=none) /\ Vals ys its /\ W i n ys B H') ?_ m0
   ⟨0,_,H2,[],0,[],I4,T.keep _ _ _ ad (fun b _ o e=>Z b o e),fun b O=>(f2 b O).1,.nil,w0⟩
  rintro n s5 ⟨i,a6,H5,its,nn,ys,I5,as,ai,hv,w5⟩
  rcases turn i n ys a6 H5 w5 with ⟨stop,hz,hq⟩ | ⟨go,hz,step⟩
  .have d:=T.done X' L hw hK U i _ s5 a6 H5 (fun _ _=>False) I5 (a4 ai) as stop
   rw [hA] at d
   refine wpAny_mono d (fun r s6 ⟨hr,I6⟩=>?_) fun _ _ z=>z.elim
   subst hr
   exact au I6 hv hz hq
  .have d:=T.item X' L hw hK U i _ s5 a6 H5 (fun _ _=>False) I5 (a4 ai) as go
   rw [hA] at d
   refine wpAny_mono d (fun r s6 ⟨u,hr,h6⟩=>?_) fun _ _ z=>z.elim
   subst hr
   refine wpAny_mono h6 (fun _ s7 zz=>?_) fun _ _ z=>z.elim
   obtain ⟨x,H7,I7,r7,y7,ae,b9⟩:=zz
   have b7:=I7.pinned (a4 b9) (T.obj _ _ ae)
   have a1:=az _ s7 a6 H7 x u _ b7 r7 (step x H7 y7)
   rw [L,hw,hA] at a1
   refine wpAny_mono a1 (fun _ s8 zz=>?_) fun _ _ z=>(ab _ _ z).elim
   obtain ⟨a0,H8,I8,q8⟩:=zz
   have a2:=ar _ s8 a0 H8 _ I8 q8
   rw [L,hw,hA] at a2
   refine wpAny_mono a2 (fun ok s9 ⟨H9,I9,q9⟩=>?_) fun _ _ z=>(ab _ _ z).elim
   have back:∀ {B:St} {H':Hp} {s':Shared},Inv X' ([(s2.heap.objs.size,({ cls:=.type "list",data:=.seq its.toArray nn }:Obj))]++ZEU fp s7.heap) B H' s'->tn (i+1) s'.heap /\ (∀ b∈fp,H' b=none):=fun {B H' s'} J=>by
    refine ⟨T.keep _ _ _ ae fun b O o e=>(J.pin (b,o) (yAQ _ (yAQ _ (ZCn O e)))).1,fun b O=>?_⟩
    obtain ⟨o,e,d⟩:=T.obj _ _ ae b O
    exact (J.pin (b,o) (yAQ _ (yAQ _ (ZCn O e)))).2.1
   cases ok with
   | false=>
    rw [if_neg yBB] at q9 ⊢
    obtain ⟨m',hm,w9⟩:=q9
    obtain ⟨t9,f9⟩:=back I9
    exact ⟨m',hm,i+1,a0,H9,its,nn,ys,I9.unpinned,t9,f9,hv,w9⟩
   | true=>
    rw [if_pos rfl] at q9 ⊢
    have a3:=ap _ s9 a0 H9 _ I9 q9
    rw [L,hw,hA] at a3
    refine wpAny_mono a3 (fun uy s10 zz=>?_) fun _ _ z=>(ab _ _ z).elim
    obtain ⟨y,ao,aq,b1,m',hm,b2⟩:=zz
    obtain ⟨b8,ba⟩:=back aq
    have ax:=aq.unpinned
    obtain ⟨eD,nD,_,_,_⟩:=ax.pin (s2.heap.objs.size,{ cls:=.type "list",data:=.seq its.toArray nn }) (yAQ _ yAC)
    dsimp only at eD nD
    have hsz:its.length < sizeLine:=by rw [<- hv.length];exact hz
    refine wpAny_list_append_plain ⟨nn,eD⟩ (fun h' b3 ay=>?_) (by rw [yAP];omega)
    obtain ⟨n',e'⟩:=b3
    have bb:h'.get? s2.heap.objs.size=some { cls:=.type "list",data:=.seq (its++[uy]).toArray n' }:=by rw [e'];simp
    have b4:Inv X' [] a0 ao s10:=ax.pins_of fun p hp=>absurd hp (by simp)
    have b6:=b4.turned (h':=h') (t':=s10.toks) (it:=s2.heap.objs.size) (fun b o O e=>(ay.2 b O).trans e) nD (by rw [a5];exact yAN (yBQ _)) (.inr (by rw [b5];exact yAB _)) ag (fun p hp=>absurd hp (by rw [b0];simp))
    refine ⟨m',hm,i+1,a0,ao,its++[uy],n',ys++[y],a9 b6 bb nD,T.keep _ _ _ b8 fun b O o e=>?_,ba,hv.append (.cons b1 .nil),b2⟩
    exact (ay.2 b (ZDw (ah b O) (yAB _))).trans e
 have aj:codeAny (model X.prog X.w) X.A (.compStart (.ListComp elt [⟨tg,iter,ifs,0⟩] scope pos) 0 (.ref it) (.ref s2.heap.objs.size) X'.env) (compPost (model X.prog X.w) X.A X.xe use Q' (.ref s2.heap.objs.size) (s2.heap.objs.size+1)) s4 :=
  codeAny_compStart_list a7 (T.self X.A 0 s4 _ _ (T.keep _ _ _ ad (fun b _ o e=>Z b o e)) a7)
 rw [<- am] at aj
 exact aj
theorem ZCw (z:X.calm=true) (hc:ZDX X.N X.env.scope k js N' scope=true) (hi:PI X tg iter wi)
  (O:∀ C fp s2 H2,PG (ZCE X N' scope C fp s2 H2) tg g) (U:∀ C fp s2 H2,PIfs (ZCE X N' scope C fp s2 H2) ifs tt) (J:∀ C fp s2 H2,PE (ZCE X N' scope C fp s2 H2) elt te)
  (L:∀ x,foldedSetIterable iter X.env x=pure x:=by intro _;rfl):PE X (.ListComp elt [⟨tg,iter,ifs,0⟩] scope pos) (ZEO k js wi g tt te):=by
 intro pins s σ H Q I h
 rw [eval_ListComp]
 refine comp_core (use:=none) z (cmpOk hc) hi O U J I h (fun C D s' m H' ys hn _ _ _ _ _ _ _ E q=>?_) L _
 exact ⟨m,hn,fun h' B=>⟨.ref D,_,E h' B,rfl,q⟩⟩
theorem ZCC {i:Nat} {x:Str} {Z L:Pos} (hN:X.N.Nodup) (a2:X.N[i]?=some x) (hx:Loc X.env.scope x) (O:X.calm=true) (hc:ZDX X.N X.env.scope k js N' scope=true) (hi:PI X tg iter wi)
  (hg:∀ C fp s2 H2,PG (ZCE X N' scope C fp s2 H2) tg g) (ht:∀ C fp s2 H2,PIfs (ZCE X N' scope C fp s2 H2) ifs tt) (he:∀ C fp s2 H2,PE (ZCE X N' scope C fp s2 H2) elt te)
  (hs:∀ x,foldedSetIterable iter X.env x=pure x:=by intro _;rfl) (a1:swapsWith (.ListComp elt [⟨tg,iter,ifs,0⟩] scope pos) (some (.Name x Z)) L.line X.env=pure true:=by rfl)
  (hf:X.fn x=true∨X.env.scope.names.lookup x=some .local:=by first | exact .inl rfl | exact .inr rfl | assumption) :
  PS X (.Assign [.Name x Z] (.ListComp elt [⟨tg,iter,ifs,0⟩] scope pos) L) (tAsg (ZEO k js wi g tt te) (ZE3 i)):=by
 intro pins s σ H D I h
 rw [exec_Assign_Name_used _ _ _ _ a1]
 refine wpAny_bind (wpAny_standAt (wpAny_bind ?_))
 show wpAny _ X.A (do let _ <- comprehension (.ListComp elt [⟨tg,iter,ifs,0⟩] scope pos) scope X.env _ (newList []) false (eval iter X.env) (some (assign (.Name x Z) X.env))) _ _ s
 refine wpAny_bind (wpAny_mono (comp_core (use:=some (assign (.Name x Z) X.env)) (Q':=fun _ s'=>SP X pins D .next s') O (cmpOk hc) hi hg ht he I h (fun C Y s' m H' ys hn c1 c2 c3 c4 c5 c6 c7 E q=>?_) hs _) (fun _ s' hq=>wpAny_pure (wpAny_pure hq)) fun _ _ e=>e)
 have J:=E s'.heap (.refl ..)
 obtain ⟨U,es,ep,eC,dC,rC⟩:=id hn
 have J':Inv X (pins++[(C,U)]) σ (upd H' Y (.lst ys)) s':=J.pins_of fun p hp=>by
  rcases yAX.mp hp with z | z
  .exact J.pin p (yAQ _ z)
  .have e':p=(C,U):=by simpa using z
   subst e'
   refine ⟨eC,?_,c1,c2,fun v z=>?_⟩
   .show upd H' Y _ C=none
    rw [ZAI (Ne.symm c3)]
    exact c4
   .have z':U.data=.cell v:=z
    rw [dC] at z'
    cases z'
 show wpAny _ X.A (assign (.Name x Z) X.env (.ref Y)) _ _ _
 refine wpAny_assign_Name (ZC3 (Q:=fun _ B=>∃ m,B.heap.Ns C m /\ ∀ h',Heap.SameBut C B.heap h'->SP X pins D .next { B with heap:=h' }) J' hN a2 hx (v:=.ref Y) (u:=.ref Y) rfl (fun B K'=>?_) hf)
 obtain ⟨e2,n2,_,_,_⟩:=K'.pin (C,U) (yAQ _ (yAQ _ yAC))
 dsimp only at e2 n2
 refine ⟨m,⟨U,es,ep,e2,dC,rC⟩,fun h' a0=>⟨_,_,K'.unpinned.turned (it:=C) (t':=B.toks) (fun b o hb e=>(a0.2 b hb).trans e) n2 c1 (.inr c5) c6 c7,q⟩⟩
end
mutual
noncomputable def Dp (K:W.Frag) (H:Hp):PyData->V->Prop
 | .none,v=>v=.non
 | .bool b,v=>v=.bl b
 | .int i,v=>v=.int i
 | .str x,v=>v=.str x
 | .list ds,v=>∃ a xs,v=.ref a /\ SqL K H a xs /\ DpAll K H ds xs
 | .tuple ds,v=>∃ a xs,v=.ref a /\ SqT K H a xs /\ DpAll K H ds xs
 | .dict _,_=>False
noncomputable def DpAll (K:W.Frag) (H:Hp):List PyData->List V->Prop
 | [],vs=>vs=[]
 | d::ds,vs=>∃ v r,vs=v::r /\ Dp K H d v /\ DpAll K H ds r
end
theorem DpAll.nil {K:W.Frag} {H:Hp}:DpAll K H [] []:=by unfold DpAll;rfl
theorem DpAll.cons {K:W.Frag} {H:Hp} {d:PyData} {ds:List PyData} {v:V} {vs:List V} (a:Dp K H d v) (t:DpAll K H ds vs):DpAll K H (d::ds) (v::vs):=by unfold DpAll;exact ⟨v,vs,rfl,a,t⟩
theorem DpAll.ints {K:W.Frag} {H:Hp}:∀ (ns:List Int),DpAll K H (ns.map PyData.int) (ns.map V.int)
 | []=>.nil
 | n::r=>.cons (by unfold Dp;rfl) (DpAll.ints r)
theorem ZFt {K:W.Frag} {H:Hp} (i:Int):Dp K H (.int i) (.int i):=by unfold Dp;rfl
theorem dp_bl {K:W.Frag} {H:Hp} (i:Bool):Dp K H (.bool i) (.bl i):=by unfold Dp;rfl
theorem ZEc {K:W.Frag} {H:Hp} {a:Addr} {xs:List V} {ds:List PyData} (h:SqL K H a xs) (t:DpAll K H ds xs):Dp K H (.list ds) (.ref a):=by unfold Dp;exact ⟨a,xs,rfl,h,t⟩
theorem dp_tup {K:W.Frag} {H:Hp} {a:Addr} {xs:List V} {ds:List PyData} (h:SqT K H a xs) (t:DpAll K H ds xs):Dp K H (.tuple ds) (.ref a):=by unfold Dp;exact ⟨a,xs,rfl,h,t⟩
section
variable {X:Cx} {pins:List (Addr×Obj)} {σ:St} {H:Hp} {s:Shared}
mutual
theorem Inv.reads (I:Inv X pins σ H s):∀ {d:PyData} {v:V} {u:Value},Dp X.K H d v->RelV v u->∃ as,Reads s.heap u d as
 | .none,_,_,h,r=>by unfold Dp at h;subst h;cases (show _=Value.none from r);exact ⟨_,.none⟩
 | .bool b,_,_,h,r=>by unfold Dp at h;subst h;cases (show _=Value.bool b from r);exact ⟨_,.bool b⟩
 | .int i,_,_,h,r=>by unfold Dp at h;subst h;obtain ⟨t,q⟩:=(show ∃ t,_=Value.int i t from r);subst q;exact ⟨_,.int i t⟩
 | .str x,_,_,h,r=>by unfold Dp at h;subst h;obtain ⟨t,q⟩:=(show ∃ t,_=Value.str x t from r);subst q;exact ⟨_,.str x t⟩
 | .list ds,_,_,h,r=>by
  unfold Dp at h
  obtain ⟨a,xs,q,O,t⟩:=h
  subst q
  cases (show _=Value.ref a from r)
  obtain ⟨its,z,pl,_⟩:=I.list O
  obtain ⟨as,L⟩:=Inv.readsAll I t z
  obtain ⟨o,n,U,J,_,B⟩:=pl
  exact ⟨_,.list U J B (by simpa using L)⟩
 | .tuple ds,_,_,h,r=>by
  unfold Dp at h
  obtain ⟨a,xs,q,O,t⟩:=h
  subst q
  cases (show _=Value.ref a from r)
  obtain ⟨its,z,pl,_⟩:=I.tuple O
  obtain ⟨as,L⟩:=Inv.readsAll I t z
  obtain ⟨o,U,J,n,B⟩:=pl
  exact ⟨_,.tuple U J B (by simpa using L)⟩
 | .dict _,_,_,h,_=>by unfold Dp at h;exact h.elim
theorem Inv.readsAll (I:Inv X pins σ H s):∀ {ds:List PyData} {vs:List V} {us:List Value},DpAll X.K H ds vs->Vals vs us->∃ as,ReadsAll s.heap us ds as
 | [],_,_,h,r=>by unfold DpAll at h;subst h;cases r;exact ⟨_,.nil⟩
 | _::_,_,_,h,r=>by
  unfold DpAll at h
  obtain ⟨v,q,e,a,t⟩:=h
  subst e
  cases r with
  | cons r1 r2=>
   obtain ⟨as,h1⟩:=Inv.reads I a r1
   obtain ⟨bs,h2⟩:=Inv.readsAll I t r2
   exact ⟨_,.cons h1 h2⟩
end
noncomputable def rEqD (K:W.Frag):R2:=fun x y H Q=>∃ d e,Dp K H d x /\ Dp K H e y /\ d.canLay0=true /\ e.canLay0=true /\ d.depth <= 64 /\ Q (.bl (PyData.eqv d e)) H
noncomputable def rNeD (K:W.Frag):R2:=fun x y H Q=>∃ d e,Dp K H d x /\ Dp K H e y /\ d.canLay0=true /\ e.canLay0=true /\ d.depth <= 64 /\ Q (.bl (!PyData.eqv d e)) H
theorem op_eqD (Y:X.A.units+64 < cLine):OpR X (compareOp .Eq) (rEqD X.K):=by
 intro pins s σ H x y v u Q I J U h
 obtain ⟨d,e,h1,h2,L,B,dp,q⟩:=h
 obtain ⟨as,z⟩:=I.reads h1 J
 obtain ⟨bs,O⟩:=I.reads h2 U
 exact SeqAt.compareEq_reads z O L B (by omega) ⟨.bl _,H,I,rfl,q⟩
theorem op_neD (Y:X.A.units+64 < cLine):OpR X (compareOp .NotEq) (rNeD X.K):=by
 intro pins s σ H x y v u Q I J U h
 obtain ⟨d,e,h1,h2,L,B,dp,q⟩:=h
 obtain ⟨as,z⟩:=I.reads h1 J
 obtain ⟨bs,O⟩:=I.reads h2 U
 exact SeqAt.compareNe_reads z O L B (by omega) ⟨.bl _,H,I,rfl,q⟩
end
section
variable {X:Cx} {x:Str} {pos:Pos}
theorem ZBh {y:Int} (z:Gl X x) (h:∃ t,X.mg x=some (.int y t)) (B:(x == ("__debug__":Str))=false:=by decide):PE X (.Name x pos) (tC (.int y)):=by
 obtain ⟨t,e⟩:=h
 exact pe_glob z e ⟨t,rfl⟩ B
theorem ZFg {n:String} (B:Gl X x) (hm:X.mg x=none) (z:bootBuiltins x=some (.type n)) (hn:x≠"__name__":=by decide) (J:(x == ("__debug__":Str))=false:=by decide):PE X (.Name x pos) (tC (.ty n)):=pe_bltn B hm z rfl hn J
end
structure Fn (P:Program) (w:World) (K:W.Frag) (mg:Str->Option Value) (base:Heap) (CX:CXT) (x:Str) (k:Nat) (ps:List Str) (sp:Sp):Prop where
 ex:∃ f fd,FnOk P w K mg base CX k f fd ps sp /\ Binds K fd ps [] /\ W.keepIn K (.ref f)=true /\ mg x=some (.ref f)
structure Mt (P:Program) (w:World) (K:W.Frag) (mg:Str->Option Value) (base:Heap) (CX:CXT) (C:Addr) (m:Str) (k:Nat) (ps:List Str) (sp:Sp):Prop where
 cl:Cls K C
 ex:∃ f fd,FnOk P w K mg base CX k f fd ps sp /\ Binds K fd ps [] /\ Meth K C m f
structure Kl (P:Program) (w:World) (K:W.Frag) (mg:Str->Option Value) (base:Heap) (CX:CXT) (x:Str) (C:Addr) (k:Nat) (ps:List Str) (sp:Sp):Prop where
 mgC:mg x=some (.ref C)
 ex:∃ f fd,FnOk P w K mg base CX k f fd ps sp /\ Binds K fd ps [] /\ Mk K C f
section
variable {X:Cx} {CX:CXT} {k:Nat} {ps:List Str} {sp:Sp} {E:XK} {x m:Str} {C:Addr} {p pos apos:Pos} {e o:Expr} {es:List Expr} {ta:TE} {t:TA}
theorem ZAw (F:Fn X.prog X.w X.K X.mg X.base CX x k ps sp) (U:Room k X.A) (O:Gl X x) (Y:ZCF CX X E) (ha:PA X (e::es) t) (z:(x == ("__debug__":Str))=false:=by decide) (J:starEach (e::es) X.env=(false,eval e X.env)::starEach es X.env:=by rfl) (B:(backTo pos (starEach es X.env)).any (·.1)=false:=by rfl) :
  PE X (.Call (.Name x p) (e::es) [] pos) (ZFP sp [] E t):=by
 obtain ⟨f,fd,h1,h2,h3,L⟩:=F.ex
 exact pe_call h1 U O L h3 h2 .nil Y ha z J B
theorem ZBJ {pl:Sem Bool} (F:Mt X.prog X.w X.K X.mg X.base CX C m k ps sp) (L:Room k X.A) (O:ZCF CX X E) (J:PE X o ta) (ha:PA X (e::es) t)
  (z:starEach (e::es) X.env=(false,eval e X.env)::starEach es X.env:=by rfl) (B:(backTo pos (starEach es X.env)).any (·.1)=false:=by rfl)
  (U:eval (.Call (.Attribute o m apos) (e::es) [] pos) X.env=(do
   let ov <- eval o X.env
   standAt apos.atName
   let (f,first) <- holding [ov] (getMethod ov m pl)
   callWith pos f first (backTo pos (starEach (e::es) X.env)) (backToKw pos (keywordEach [] X.env))):=by rfl) :
  PE X (.Call (.Attribute o m apos) (e::es) [] pos) (ZFB C m sp [] E ta t):=by
 obtain ⟨f,fd,h1,h2,h3⟩:=F.ex
 exact pe_meth J F.cl h3 h1 L h2 .nil O ha z B U
theorem ZCS {pl:Sem Bool} (F:Mt X.prog X.w X.K X.mg X.base CX C m k ps sp) (B:Room k X.A) (L:ZCF CX X E) (z:PE X o ta)
  (J:eval (.Call (.Attribute o m apos) [] [] pos) X.env=(do
   let ov <- eval o X.env
   standAt apos.atName
   let (f,first) <- holding [ov] (getMethod ov m pl)
   callWith pos f first (backTo pos (starEach [] X.env)) (backToKw pos (keywordEach [] X.env))):=by rfl) :
  PE X (.Call (.Attribute o m apos) [] [] pos) (ZFB C m sp [] E ta tNil):=by
 obtain ⟨f,fd,h1,h2,h3⟩:=F.ex
 exact pe_meth0 z F.cl h3 h1 B h2 .nil L J
theorem ZFf (F:Kl X.prog X.w X.K X.mg X.base CX x C k ps sp) (O:Room (k+1) X.A) (L:Gl X x) (U:ZCF CX X E) (ha:PA X (e::es) t) (z:(x == ("__debug__":Str))=false:=by decide) (J:starEach (e::es) X.env=(false,eval e X.env)::starEach es X.env:=by rfl) (B:(backTo pos (starEach es X.env)).any (·.1)=false:=by rfl) :
  PE X (.Call (.Name x p) (e::es) [] pos) (ZFM C sp [] E t):=by
 obtain ⟨f,fd,h1,h2,h3⟩:=F.ex
 exact pe_make h3 h1 O L F.mgC h2 .nil U ha z J B
end
noncomputable def ZFI:V->Bool
 | .ty _=>true
 | .ref _=>true
 | _=>false
noncomputable def cval:V->Value
 | .ty n=>.type n
 | .ref a=>.ref a
 | _=>.none
section
variable {X:Cx}
theorem ZC0:ZC1 X (.builtin "isinstance") (fun xs H Q=>∃ x c ty b,xs=[x,c] /\ ZFI c=true /\ TyOf X.K H x ty /\ PySem.W.kitOne X.K ty (cval c)=some b /\ Q (.bl b) H):=by
 intro pins s σ H xs us Q I r h
 obtain ⟨x,c,ty,b,rfl,hc,z,e,q⟩:=h
 obtain ⟨u,w',rfl,B,L⟩:=ZFA r
 have J:w'=cval c:=by
  cases c <;> first | (cases hc;done) | exact L
 subst J
 exact isinst_ok I B z e fun tk=>⟨.bl b,H,I.tok tk,rfl,q⟩
end
theorem ZAo {v:V} {σ:St} {H:Hp} {Q:VK}:tVar 0 (some v::σ) H Q=Q v H:=by
 apply propext;unfold tVar;simp
theorem ZAr {i:Nat} {a:Option V} {σ:St} {H:Hp} {Q:VK}:tVar (i+1) (a::σ) H Q=tVar i σ H Q:=by
 apply propext;unfold tVar;simp
theorem rI0_int {g:Int->Int->V} {i j:Int} {H:Hp} {Q:VK}:rI0 g (.int i) (.int j) H Q=Q (g i j) H:=by
 apply propext;unfold rI0;simp
theorem rI_int {C:Int->Int->Prop} {g:Int->Int->V} {i j:Int} {H:Hp} {Q:VK}:rI C g (.int i) (.int j) H Q=(C i j /\ Q (g i j) H):=by
 apply propext;unfold rI;simp
theorem rU_int {g:Int->V} {i:Int} {H:Hp} {Q:VK}:rU g (.int i) H Q=Q (g i) H:=by
 apply propext;unfold rU;simp
theorem rEq_int {i j:Int} {H:Hp} {Q:VK}:rEq (.int i) (.int j) H Q=Q (.bl (decide (i=j))) H:=by
 exact propext ⟨fun h=>by simpa using h.2,fun h=>⟨rfl,by simpa using h⟩⟩
theorem rNe_int {i j:Int} {H:Hp} {Q:VK}:rNe (.int i) (.int j) H Q=Q (.bl (!decide (i=j))) H:=by
 exact propext ⟨fun h=>by simpa using h.2,fun h=>⟨rfl,by simpa using h⟩⟩
theorem rEq_bl {i j:Bool} {H:Hp} {Q:VK}:rEq (.bl i) (.bl j) H Q=Q (.bl (decide (i=j))) H:=by
 exact propext ⟨fun h=>by simpa using h.2,fun h=>⟨rfl,by simpa using h⟩⟩
theorem rNe_bl {i j:Bool} {H:Hp} {Q:VK}:rNe (.bl i) (.bl j) H Q=Q (.bl (!decide (i=j))) H:=by
 exact propext ⟨fun h=>by simpa using h.2,fun h=>⟨rfl,by simpa using h⟩⟩
theorem rEq_str {i j:Str} {H:Hp} {Q:VK}:rEq (.str i) (.str j) H Q=Q (.bl (decide (i=j))) H:=by
 exact propext ⟨fun h=>by simpa using h.2,fun h=>⟨rfl,by simpa using h⟩⟩
theorem rNe_str {i j:Str} {H:Hp} {Q:VK}:rNe (.str i) (.str j) H Q=Q (.bl (!decide (i=j))) H:=by
 exact propext ⟨fun h=>by simpa using h.2,fun h=>⟨rfl,by simpa using h⟩⟩
theorem ex_bl {c:Bool} {Q:Bool->Prop}:(∃ k,V.bl c=V.bl k /\ Q k)=Q c:=by
 apply propext;simp
theorem ex_int {c:Int} {Q:Int->Prop}:(∃ k,V.int c=V.int k /\ Q k)=Q c:=by
 apply propext;simp
theorem ZAU {n:Nat} (h:n <= 1000):n <= sizeLine:=yCC (ZAq h)
theorem ZAK {H:Hp} {p:Addr} (h:H p=none) (o:HO):Same H (upd H p o):=fun b u q=>by rw [ZAI (ZAE q h)];exact q
noncomputable def getF (K:W.Frag) (f:Str) (x:V) (H:Hp) (Q:VK):Prop:=∃ a C dx fs v,x=.ref a /\ H a=some (.ins C dx fs) /\ Cls K C /\ NoAttr K C f /\ fs.lookup f=some v /\ Q v H
theorem tFld_eq {K:W.Frag} {ta:TE} {f:Str} {σ:St} {H:Hp} {Q:VK}:tFld K ta f σ H Q=ta σ H (fun x H1=>getF K f x H1 Q):=rfl
theorem getF_of {K:W.Frag} {f:Str} {a C dx:Addr} {fs:List (Str×V)} {v:V} {H:Hp} {Q:VK} (h:H a=some (.ins C dx fs)) (cl:Cls K C) (n:NoAttr K C f) (l:fs.lookup f=some v) (q:Q v H):getF K f (.ref a) H Q:=⟨a,C,dx,fs,v,rfl,h,cl,n,l,q⟩
noncomputable def setF (K:W.Frag) (f:Str) (x y:V) (H:Hp) (Q:Hp->Prop):Prop:=∃ a C dx fs,x=.ref a /\ H a=some (.ins C dx fs) /\ Cls K C /\ NoAttr K C f /\ fs.length < 1000 /\ Q (upd H a (.ins C dx (putF f y fs)))
theorem sFld_eq {K:W.Frag} {ta tv:TE} {f:Str} {D:Ends} {σ:St} {H:Hp}:sFld K ta tv f D σ H=tv σ H (fun y H1=>ta σ H1 fun x H2=>setF K f x y H2 (D.nx σ)):=rfl
theorem setF_of {K:W.Frag} {f:Str} {a C dx:Addr} {fs:List (Str×V)} {y:V} {H:Hp} {Q:Hp->Prop} (h:H a=some (.ins C dx fs)) (cl:Cls K C) (n:NoAttr K C f) (l:fs.length < 1000) (q:Q (upd H a (.ins C dx (putF f y fs)))):setF K f (.ref a) y H Q:=⟨a,C,dx,fs,rfl,h,cl,n,l,q⟩
theorem ZAs {K:W.Frag} {p:Addr} {xs:List V} {i:Int} {v:V} {H:Hp} {Q:VK} (h:SqL K H p xs) (e:atI xs i=some v) (q:Q v H):rIxL K (.ref p) (.int i) H Q:=⟨p,xs,i,v,rfl,rfl,h,e,q⟩
theorem ZA9 {K:W.Frag} {p:Addr} {xs:List V} {i:Int} {v:V} {H:Hp} {Q:VK} (h:SqT K H p xs) (e:atI xs i=some v) (q:Q v H):rIxT K (.ref p) (.int i) H Q:=⟨p,xs,i,v,rfl,rfl,h,e,q⟩
theorem ZAl {α:Type} {xs:List α} {i:Int} {v:α} (z:0 <= i) (h:xs[i.toNat]?=some v):atI xs i=some v:=by
 have q:=atI_nat h
 rwa [Int.toNat_of_nonneg z] at q
theorem ZEN {xs:List Int} {i:Int} {v:Int} (z:0 <= i) (h:xs[i.toNat]?=some v):atI (xs.map V.int) i=some (.int v):=ZAl z (by rw [yAM,h];rfl)
noncomputable def Nxt (P:Nat->List V->St->Hp->Prop) (n i:Nat) (ys:List V) (σ:St) (H:Hp):Prop:=∃ m',m' < n-i /\ m'=n-(i+1) /\ i+1 <= n /\ P (i+1) ys σ H
theorem Nxt.of {P:Nat->List V->St->Hp->Prop} {n i:Nat} {ys:List V} {σ:St} {H:Hp} (h:i < n) (p:P (i+1) ys σ H):Nxt P n i ys σ H:=⟨n-(i+1),by omega,rfl,h,p⟩
theorem comp_list {K:W.Frag} {a:Addr} {xs:List V} {g:TG} {tt:TT} {te:TE} {Q:VK} {σ0:St} {H:Hp} (P:Nat->List V->St->Hp->Prop) (L:P 0 [] σ0 H) (hl:∀ i ys σ H,i <= xs.length->P i ys σ H->SqL K H a xs /\ ys.length <= i) (Y:xs.length <= sizeLine)
  (J:∀ i ys x σ H,i < xs.length->xs[i]?=some x->P i ys σ H->g x σ H fun z H2=>tt z H2 fun b H3=>if b=true then te z H3 fun y H4=>Nxt P xs.length i (ys++[y]) z H4 else Nxt P xs.length i ys z H3)
  (O:∀ ys σ H,P xs.length ys σ H->∀ p,H p=none->Q (.ref p) (upd H p (.lst ys))) :
  ∃ W:Nat->Nat->List V->St->Hp->Prop,(∃ m,W 0 m [] σ0 H) /\ ∀ i m ys σ H,W i m ys σ H ->
   ((Itl K a).stop i H /\ ys.length <= sizeLine /\ ∀ p,H p=none->Q (.ref p) (upd H p (.lst ys))) ∨
   ((Itl K a).go i H /\ ys.length < sizeLine /\ ∀ x H',(Itl K a).yld i H x H'->g x σ H' fun z H2=>tt z H2 fun b H3=>if b=true then te z H3 fun y H4=>∃ B,B < m /\ W (i+1) B (ys++[y]) z H4 else ∃ B,B < m /\ W (i+1) B ys z H3):=by
 refine ⟨fun i m ys σ H=>m=xs.length-i /\ i <= xs.length /\ P i ys σ H,⟨xs.length,by simp,yAJ _,L⟩,?_⟩
 rintro i m ys σ H ⟨rfl,hi,p⟩
 obtain ⟨q,U⟩:=hl i ys σ H hi p
 by_cases hlt:i < xs.length
 .refine .inr ⟨⟨xs,xs[i],q,by simp [hlt]⟩,by omega,fun x H' y=>?_⟩
  obtain ⟨e,y⟩:=y
  subst e
  exact J i ys x σ _ hlt (y xs q) p
 .have e:i=xs.length:=by omega
  subst e
  exact .inl ⟨⟨xs,q,yAB _⟩,by omega,O ys σ H p⟩
theorem comp_range {lo:Int} {n:Nat} {g:TG} {tt:TT} {te:TE} {Q:VK} {σ0:St} {H:Hp} (P:Nat->List V->St->Hp->Prop) (L:P 0 [] σ0 H) (hl:∀ i ys σ H,P i ys σ H->ys.length <= i) (Y:n <= sizeLine)
  (J:∀ i ys σ H,i < n->P i ys σ H->g (.int (lo+i)) σ H fun z H2=>tt z H2 fun b H3=>if b=true then te z H3 fun y H4=>Nxt P n i (ys++[y]) z H4 else Nxt P n i ys z H3)
  (O:∀ ys σ H,P n ys σ H->∀ p,H p=none->Q (.ref p) (upd H p (.lst ys))) :
  ∃ W:Nat->Nat->List V->St->Hp->Prop,(∃ m,W 0 m [] σ0 H) /\ ∀ i m ys σ H,W i m ys σ H ->
   ((Itr lo n).stop i H /\ ys.length <= sizeLine /\ ∀ p,H p=none->Q (.ref p) (upd H p (.lst ys))) ∨
   ((Itr lo n).go i H /\ ys.length < sizeLine /\ ∀ x H',(Itr lo n).yld i H x H'->g x σ H' fun z H2=>tt z H2 fun b H3=>if b=true then te z H3 fun y H4=>∃ B,B < m /\ W (i+1) B (ys++[y]) z H4 else ∃ B,B < m /\ W (i+1) B ys z H3):=by
 refine ⟨fun i m ys σ H=>m=n-i /\ i <= n /\ P i ys σ H,⟨n,by simp,yAJ _,L⟩,?_⟩
 rintro i m ys σ H ⟨rfl,hi,p⟩
 have U:=hl i ys σ H p
 by_cases hlt:i < n
 .refine .inr ⟨hlt,by omega,fun x H' y=>?_⟩
  obtain ⟨e,y⟩:=y
  subst e y
  exact J i ys σ _ hlt p
 .have e:i=n:=by omega
  subst e
  exact .inl ⟨yAB _,by omega,O ys σ H p⟩
theorem Same.upd {H H':Hp} {p:Addr} {o:HO} (e:Same H H') (h:H p=none):Same H (upd H' p o):=fun b u q=>by rw [ZAI (ZAE q h)];exact e b u q
theorem Same.new {H H':Hp} {p:Addr} {o:HO} (e:Same H H') (h:H' p=none):Same H (L2.upd H' p o):=e.upd (e.free h)
theorem kit_same {K:W.Frag} {t:Value} (h:(t == t)=true):PySem.W.kitOne K t t=some true:=by unfold PySem.W.kitOne;rw [if_pos h]
theorem ZDq (ns:List Int) (lo hi:Option Int):cutV (ns.map V.int) lo hi=(((ns.drop (HT.sIx ns.length 0 lo)).take (HT.sIx ns.length ns.length hi-HT.sIx ns.length 0 lo)).map V.int):=by
 unfold cutV
 rw [yAA,yCF,yCG]
theorem ZDE {ns:List Int} {i:Nat} {x:V} (h:(ns.map V.int)[i]?=some x):∃ n,ns[i]?=some n /\ x=.int n:=by
 rw [yAM] at h
 cases e:ns[i]? with
 | none=>rw [e] at h;cases h
 | some n=>rw [e] at h;exact ⟨n,rfl,(Option.some.inj h).symm⟩
theorem ZFm {n:Nat} {i:Int} (z:0 <= i) (h:i < n):ixN n i=some i.toNat:=by unfold ixN;rw [if_pos z,if_pos h]
theorem ZDg {K:W.Frag} {a:Addr} {xs:List V} {lo hi:Option Int} {H:Hp} {Q:VK} (h:SqL K H a xs) (q:∀ p,H p=none->Q (.ref p) (upd H p (.lst (cutV xs lo hi)))):rSlL K (.ref a) lo hi H Q:=⟨a,xs,rfl,h,q⟩
noncomputable def forL (K:W.Frag) (g:TG) (tb:TS) (D:Ends) (σ:St) (x:V) (H1:Hp):Prop:=∃ a,x=.ref a /\ (∃ xs,SqL K H1 a xs) /\ ∃ W:Nat->Nat->St->Hp->Prop,(∃ m,W 0 m σ H1) /\ ∀ i m σ H,W i m σ H ->
 ((Itl K a).stop i H /\ D.nx σ H)∨((Itl K a).go i H /\ ∃ N:St->Hp->Prop,(∀ σ' H',N σ' H'->∃ m',m' < m /\ W (i+1) m' σ' H') /\ ∀ x H',(Itl K a).yld i H x H'->g x σ H' fun σ2 H2=>tb { D with nx:=N,ct:=N,bk:=D.nx } σ2 H2)
theorem tForL_eq {K:W.Frag} {tl:TE} {g:TG} {tb:TS} {D:Ends} {σ:St} {H:Hp}:tFor (ZGJ K tl) g tb D σ H=tl σ H (fun x H1=>forL K g tb D σ x H1):=rfl
theorem ZCz {K:W.Frag} {g:TG} {tb:TS} {D:Ends} {σ:St} {H:Hp} {a:Addr} {xs:List V} (h:SqL K H a xs) (z:Nat->St->Hp->Prop) (L:z 0 σ H) (hl:∀ i σ H,i <= xs.length->z i σ H->SqL K H a xs)
  (J:∀ i x σ H,xs[i]?=some x->z i σ H->g x σ H fun B H2=>tb { D with nx:=z (i+1),ct:=z (i+1),bk:=D.nx } B H2) (O:∀ σ H,z xs.length σ H->D.nx σ H):forL K g tb D σ (.ref a) H :=
 ⟨a,rfl,⟨xs,h⟩,for_list z L hl J O⟩
noncomputable def forR (lo:Int) (g:TG) (tb:TS) (D:Ends) (σ:St) (n:Nat) (H1:Hp):Prop:=∃ W:Nat->Nat->St->Hp->Prop,(∃ m,W 0 m σ H1) /\ ∀ i m σ H,W i m σ H ->
 ((Itr lo n).stop i H /\ D.nx σ H)∨((Itr lo n).go i H /\ ∃ N:St->Hp->Prop,(∀ σ' H',N σ' H'->∃ m',m' < m /\ W (i+1) m' σ' H') /\ ∀ x H',(Itr lo n).yld i H x H'->g x σ H' fun σ2 H2=>tb { D with nx:=N,ct:=N,bk:=D.nx } σ2 H2)
noncomputable def forR1 (g:TG) (tb:TS) (D:Ends) (σ:St) (x:V) (H1:Hp):Prop:=∃ j:Int,[x]=[.int j] /\ -(2 ^ 62) <= j /\ j < 2 ^ 62 /\ forR 0 g tb D σ j.toNat H1
noncomputable def forR2 (g:TG) (tb:TS) (D:Ends) (σ:St) (x y:V) (H1:Hp):Prop:=∃ i j:Int,[x,y]=[.int i,.int j] /\ (-(2 ^ 62) <= i /\ i < 2 ^ 62 /\ -(2 ^ 62) <= j /\ j < 2 ^ 62) /\ forR i g tb D σ (j-i).toNat H1
theorem tForR1_eq {t:TE} {g:TG} {tb:TS} {D:Ends} {σ:St} {H:Hp}:tFor (ZGI (ZCG t tNil)) g tb D σ H=t σ H (fun x H1=>forR1 g tb D σ x H1):=rfl
theorem tForR2_eq {t u:TE} {g:TG} {tb:TS} {D:Ends} {σ:St} {H:Hp}:tFor (ZGH (ZCG t (ZCG u tNil))) g tb D σ H=t σ H (fun x H1=>u σ H1 fun y H2=>forR2 g tb D σ x y H2):=rfl
theorem ZEI {lo:Int} {n:Nat} {g:TG} {tb:TS} {D:Ends} {σ:St} {H:Hp} (z:Nat->St->Hp->Prop) (L:z 0 σ H)
  (J:∀ i σ H,i < n->z i σ H->g (.int (lo+i)) σ H fun B H2=>tb { D with nx:=z (i+1),ct:=z (i+1),bk:=D.nx } B H2) (O:∀ σ H,z n σ H->D.nx σ H):forR lo g tb D σ n H:=for_range z L J O
theorem ZEJ {j:Int} {g:TG} {tb:TS} {D:Ends} {σ:St} {H:Hp} (h:-1000 <= j /\ j <= 1000) (q:forR 0 g tb D σ j.toNat H):forR1 g tb D σ (.int j) H:=⟨j,rfl,by omega,by omega,q⟩
theorem forR2_of {i j:Int} {g:TG} {tb:TS} {D:Ends} {σ:St} {H:Hp} (h:-1000 <= i /\ i <= 1000 /\ -1000 <= j /\ j <= 1000) (q:forR i g tb D σ (j-i).toNat H):forR2 g tb D σ (.int i) (.int j) H:=⟨i,j,rfl,by omega,q⟩
noncomputable def ZF1 (K:W.Frag) (g:TG) (tt:TT) (te:TE) (σ0:St) (Q:VK) (x:V) (H1:Hp):Prop:=∃ a,x=.ref a /\ (∃ xs,SqL K H1 a xs) /\ ∃ W:Nat->Nat->List V->St->Hp->Prop,(∃ m,W 0 m [] σ0 H1) /\ ∀ i m ys σ H,W i m ys σ H ->
 ((Itl K a).stop i H /\ ys.length <= sizeLine /\ ∀ p,H p=none->Q (.ref p) (upd H p (.lst ys))) ∨
 ((Itl K a).go i H /\ ys.length < sizeLine /\ ∀ x H',(Itl K a).yld i H x H'->g x σ H' fun σ2 H2=>tt σ2 H2 fun b H3=>if b=true then te σ2 H3 fun y H4=>∃ m',m' < m /\ W (i+1) m' (ys++[y]) σ2 H4 else ∃ m',m' < m /\ W (i+1) m' ys σ2 H3)
theorem tCompL_eq {k:Nat} {js:List Nat} {K:W.Frag} {tl:TE} {g:TG} {tt:TT} {te:TE} {σ:St} {H:Hp} {Q:VK}:ZEO k js (ZGJ K tl) g tt te σ H Q=tl σ H (fun x H1=>ZF1 K g tt te (up k js σ) Q x H1):=rfl
theorem ZCq {K:W.Frag} {a:Addr} {xs:List V} {g:TG} {tt:TT} {te:TE} {Q:VK} {σ0:St} {H:Hp} (h:SqL K H a xs) (O:xs.length <= 1000) (P:Nat->List V->St->Hp->Prop) (J:P 0 [] σ0 H) (hl:∀ i ys σ H,i <= xs.length->P i ys σ H->SqL K H a xs /\ ys.length <= i)
  (B:∀ i ys x σ H,i < xs.length->xs[i]?=some x->P i ys σ H->g x σ H fun z H2=>tt z H2 fun b H3=>if b=true then te z H3 fun y H4=>Nxt P xs.length i (ys++[y]) z H4 else Nxt P xs.length i ys z H3)
  (L:∀ ys σ H,P xs.length ys σ H->∀ p,H p=none->Q (.ref p) (upd H p (.lst ys))):ZF1 K g tt te σ0 Q (.ref a) H:=⟨a,rfl,⟨xs,h⟩,comp_list P J hl (ZAU O) B L⟩
noncomputable def compR (lo:Int) (g:TG) (tt:TT) (te:TE) (σ0:St) (Q:VK) (n:Nat) (H1:Hp):Prop:=∃ W:Nat->Nat->List V->St->Hp->Prop,(∃ m,W 0 m [] σ0 H1) /\ ∀ i m ys σ H,W i m ys σ H ->
 ((Itr lo n).stop i H /\ ys.length <= sizeLine /\ ∀ p,H p=none->Q (.ref p) (upd H p (.lst ys))) ∨
 ((Itr lo n).go i H /\ ys.length < sizeLine /\ ∀ x H',(Itr lo n).yld i H x H'->g x σ H' fun σ2 H2=>tt σ2 H2 fun b H3=>if b=true then te σ2 H3 fun y H4=>∃ m',m' < m /\ W (i+1) m' (ys++[y]) σ2 H4 else ∃ m',m' < m /\ W (i+1) m' ys σ2 H3)
noncomputable def compR1 (g:TG) (tt:TT) (te:TE) (σ0:St) (Q:VK) (x:V) (H1:Hp):Prop:=∃ j:Int,[x]=[.int j] /\ -(2 ^ 62) <= j /\ j < 2 ^ 62 /\ compR 0 g tt te σ0 Q j.toNat H1
theorem tCompR1_eq {k:Nat} {js:List Nat} {t:TE} {g:TG} {tt:TT} {te:TE} {σ:St} {H:Hp} {Q:VK}:ZEO k js (ZGI (ZCG t tNil)) g tt te σ H Q=t σ H (fun x H1=>compR1 g tt te (up k js σ) Q x H1):=rfl
theorem compR1_of {j:Int} {g:TG} {tt:TT} {te:TE} {Q:VK} {σ0:St} {H:Hp} (h:-1000 <= j /\ j <= 1000) (P:Nat->List V->St->Hp->Prop) (J:P 0 [] σ0 H) (hl:∀ i ys σ H,P i ys σ H->ys.length <= i)
  (B:∀ i ys σ H,i < j.toNat->P i ys σ H->g (.int (0+i)) σ H fun z H2=>tt z H2 fun b H3=>if b=true then te z H3 fun y H4=>Nxt P j.toNat i (ys++[y]) z H4 else Nxt P j.toNat i ys z H3)
  (L:∀ ys σ H,P j.toNat ys σ H->∀ p,H p=none->Q (.ref p) (upd H p (.lst ys))):compR1 g tt te σ0 Q (.int j) H:=⟨j,rfl,by omega,by omega,comp_range P J hl (ZAU (by omega)) B L⟩
noncomputable def CDivB (i j:Int):Prop:=0 < j /\ j < 2 ^ 250
section
variable {X:Cx}
theorem op_fdivB:OpR X (binaryOp .FloorDiv) (rI CDivB fun i j=>.int (i / j)):=opI fun i j _ _ _ _ _ hc q=>by
 have h1:(0:Int) < j:=hc.1
 have h2:j < 2 ^ 250:=hc.2
 have h3:j.natAbs < 2 ^ 250:=by
  have e:(j.natAbs:Int)=j:=Int.natAbs_of_nonneg (by omega)
  have B:((2 ^ 250:Nat):Int)=2 ^ 250:=by rfl
  omega
 have z:j.natAbs.log2 < 250:=(Nat.log2_lt (by omega)).mpr h3
 exact floordiv_int (by omega) (by rw [Int.fdiv_eq_ediv_of_nonneg i (by omega)];exact q) (.inl (PyProof.noPylong_of_log2 (by omega)))
end
theorem gCons_eq {t:TG} {u:TGs} {v:V} {r:List V} {σ:St} {H:Hp} {Q:St->Hp->Prop}:ZGM t u (v::r) σ H Q=t v σ H (fun z H'=>u r z H' Q):=by
 apply propext;unfold ZGM;constructor
 .rintro ⟨B,r',e,q⟩;cases e;exact q
 .exact fun q=>⟨v,r,rfl,q⟩
theorem gNil_eq {σ:St} {H:Hp} {Q:St->Hp->Prop}:gNil [] σ H Q=Q σ H:=by
 apply propext;unfold gNil;simp
theorem ZDR {K:W.Frag} {n:Nat} {t:TGs} {a:Addr} {xs:List V} {σ:St} {H:Hp} {Q:St->Hp->Prop} (h:SqT K H a xs) (l:xs.length=n) (q:t xs σ H Q):gTup K n t (.ref a) σ H Q:=⟨a,xs,rfl,h,l,q⟩
section
variable {X:Cx} {tg l e o:Expr} {es:List Expr} {tl te to:TE} {t:TA} {pos apos cpos:Pos} {f:Str}
theorem ix_tupK (K:W.Frag) (h:X.K=K:=by rfl):IxR X (rIxT K):=h ▸ ZBG
theorem sl_listK (K:W.Frag) (h:X.K=K:=by rfl):SlR X (rSlL K):=h ▸ ZCv
theorem call_len_seqK (K:W.Frag) (h:X.K=K:=by rfl):ZC1 X (.builtin "len") (fun xs H Q=>∃ p ys,xs=[.ref p] /\ (SqL K H p ys∨SqT K H p ys) /\ Q (.int ys.length) H):=h ▸ ZAJ
theorem call_list_ofK (K:W.Frag) (h:X.K=K:=by rfl):ZC1 X (.type "list") (fun xs H Q=>∃ p ys,xs=[.ref p] /\ (SqL K H p ys∨SqT K H p ys) /\ ∀ l,H l=none->Q (.ref l) (upd H l (.lst ys))):=h ▸ ZBP
theorem pg_tupK (K:W.Frag) {k:Nat} {z:TGs} {n:Nat} (hc:X.calm=true) (J:PGs X es z)
  (hn:(assignEach es X.env).length=n:=by rfl) (B:(assignEach es X.env).findIdx? (·.1)=none:=by rfl) (h:X.K=K:=by rfl):PG X (.Tuple es k pos) (gTup K n z):=h ▸ ZEV hc J hn B
end
section
variable {X:Cx}
theorem tAug_eq {i:Nat} {te:TE} {ti:TIp} {D:Ends} {σ:St} {H:Hp}:tAug i te ti D σ H=tVar i σ H (fun x B=>te σ B fun y H1=>ti x y H1 fun z H2=>D.nx (σ.set i (some z)) H2):=rfl
theorem ipI_int {f:Int->Int->Int} {i j:Int} {H:Hp} {Q:VK}:ipI f (.int i) (.int j) H Q=Q (.int (f i j)) H:=by
 refine propext ⟨?_,fun q=>⟨i,j,rfl,rfl,q⟩⟩
 rintro ⟨a,b,z,B,q⟩
 cases z;cases B;exact q
theorem cx_K {CX:CXT} {P:Program} {w:World} {K:W.Frag} {mg:Str->Option Value} {base:Heap} {N:List Str} {qual:Str} {scope:Scope} {f:Addr} {z:Value} {A:Around} {outer:List Env} {s:Shared} {H:Hp} {E:XK}:(cxOf CX P w K mg base N qual scope f z A outer s H E).K=K:=rfl
noncomputable def wBody (W:Nat->St->Hp->Prop) (m:Nat) (tb:TS) (D:Ends) (σ:St) (H1:Hp):Prop:=∃ N:St->Hp->Prop,(∀ σ' H',N σ' H'->∃ m',m' < m /\ W m' σ' H') /\ tb { D with nx:=N,ct:=N,bk:=D.nx } σ H1
theorem ZBz {W:Nat->St->Hp->Prop} {m:Nat} {tb:TS} {D:Ends} {σ:St} {H1:Hp} (h:tb { D with nx:=fun z H'=>∃ B,B < m /\ W B z H',ct:=fun z H'=>∃ B,B < m /\ W B z H',bk:=D.nx } σ H1):wBody W m tb D σ H1:=⟨_,fun _ _ q=>q,h⟩
theorem ZBy {c:TT} {tb:TS} {D:Ends} {σ:St} {H:Hp} (W:Nat->St->Hp->Prop) (B:∃ m,W m σ H) (z:∀ m σ H,W m σ H->c σ H fun b H1=>if b=true then wBody W m tb D σ H1 else D.nx σ H1):tWhile c tb D σ H:=⟨W,B,z⟩
noncomputable def insV (xs:List V) (i:Int) (y:V):List V:=let k:=if i < 0 then (i+(xs.length:Int)).toNat else min i.toNat xs.length;xs.take k++y::xs.drop k
noncomputable def rInsert:V->List V->Hp->VK->Prop:=fun x vs H Q=>∃ l xs i y,x=.ref l /\ vs=[.int i,y] /\ H l=some (.lst xs) /\ xs.length < sizeLine /\ (-(2 ^ 62) <= i /\ i < 2 ^ 62) /\ Q .non (upd H l (.lst (insV xs i y)))
theorem ins_arr (its:List Value) (k:Nat) (u:Value) (z:k <= its.length):(its.toArray.extract 0 k).push u++its.toArray.extract k=(its.take k++u::its.drop k).toArray:=by
 apply Array.ext'
 simp
 exact yCH (by rw [yAU];exact yAB _)
theorem insV_length (xs:List V) (i:Int) (y:V):(insV xs i y).length=xs.length+1:=by
 unfold insV
 dsimp only
 rw [yAE,yAG,yBA,yAU]
 omega
theorem Vals.ins {xs:List V} {us:List Value} {y:V} {u:Value} (r:Vals xs us) (q:RelV y u) (k:Nat):Vals (xs.take k++y::xs.drop k) (us.take k++u::us.drop k):=(r.take k).append (.cons q (r.drop k))
theorem mt_insert:MtM X "list.insert" rInsert:=by
 intro pins s σ H x vs v us Q I Y rv h
 obtain ⟨l,xs,i,y,rfl,rfl,O,hz,hi,q⟩:=h
 cases Y
 obtain ⟨u,B,rfl,Z,J⟩:=rv.two
 obtain ⟨t,rfl⟩:=Z
 obtain ⟨z,its,n,r,hl,e⟩:=I.lstM O
 have L:¬(!Builtin.List.listFitsIndex i)=true:=by
  unfold Builtin.List.listFitsIndex
  have:(decide (-(2 ^ 63:Int) <= i) && decide (i < 2 ^ 63))=true:=by
   rw [yBK];exact ⟨decide_eq_true (by omega),decide_eq_true (by omega)⟩
  simpa using this
 refine call_meets F.slot_list_insert ⟨_,e,rfl⟩ F.entry_list_insert (F.args_list_insert_3 _ _ _) (PySem.AutoListH.list_insert_list_int_val_1 l its.toArray n i t B L (by rw [yAP];omega)) ⟨e,?_⟩
 have U:(if i < 0 then (i+(its.length:Int)).toNat else min i.toNat its.length) <= its.length:=by split <;> omega
 refine ⟨.non,_,I.lset (its':=its.take (if i < 0 then (i+(its.length:Int)).toNat else min i.toNat its.length)++B::its.drop (if i < 0 then (i+(its.length:Int)).toNat else min i.toNat its.length)) O e ?_ (ys:=insV xs i y) ?_ ?_,rfl,q⟩
 .show (its.toArray.extract 0 _).push B++its.toArray.extract _=_
  rw [yAP]
  exact ins_arr its _ B U
 .unfold insV
  rw [hl]
  exact r.ins J _
 .rw [insV_length];omega
end
structure Enc {α:Type} [DecidableEq α] (e:α->PyData) (n:Nat):Prop where
 eq:∀ a b,PyData.eqv (e a) (e b)=decide (a=b)
 lay:∀ a,(e a).canLay0=true
 dep:∀ a,(e a).depth <= n
theorem Enc.int:Enc PyData.int 0:=⟨fun a b=>by unfold PyData.eqv;rw [Bool.eq_iff_iff];simp,fun a=>by unfold PyData.canLay0;rfl,fun a=>by unfold PyData.depth;exact yAB _⟩
section
variable {α β γ:Type} [DecidableEq α] [DecidableEq β] [DecidableEq γ] {e:α->PyData} {f:β->PyData} {g:γ->PyData} {n m k:Nat}
theorem Enc.all (h:Enc e n):∀ xs ys:List α,PyData.eqvAll (xs.map e) (ys.map e)=decide (xs=ys)
 | [],[]=>by simp [PyData.eqvAll]
 | x::xs,[]=>by simp [PyData.eqvAll]
 | [],y::ys=>by simp [PyData.eqvAll]
 | x::xs,y::ys=>by
  rw [yAS,yAS]
  unfold PyData.eqvAll
  rw [h.eq,h.all xs ys,<- Bool.decide_and]
  exact decide_eq_decide.mpr (by rw [List.cons.injEq])
theorem Enc.layAll (h:Enc e n):∀ xs:List α,PyData.canLayAll0 (xs.map e)=true
 | []=>by simp [PyData.canLayAll0]
 | x::xs=>by rw [yAS];unfold PyData.canLayAll0;rw [h.lay,h.layAll xs];rfl
theorem Enc.depAll (h:Enc e n):∀ xs:List α,PyData.depthAll (xs.map e) <= n
 | []=>by simp [PyData.depthAll]
 | x::xs=>by
  rw [yAS];unfold PyData.depthAll
  have a:=h.dep x
  have b:=h.depAll xs
  omega
theorem Enc.list (h:Enc e n):Enc (fun xs:List α=>PyData.list (xs.map e)) (n+1) :=
 ⟨fun a b=>by unfold PyData.eqv;exact h.all a b,fun a=>by unfold PyData.canLay0;exact h.layAll a,fun a=>by unfold PyData.depth;have:=h.depAll a;omega⟩
theorem neD_of {K:W.Frag} {H:Hp} {x y:V} {a b:α} {Q:VK} (h:Enc e n) (hn:n <= 64) (dx:Dp K H (e a) x) (z:Dp K H (e b) y) (q:Q (.bl (!decide (a=b))) H):rNeD K x y H Q :=
 ⟨_,_,dx,z,h.lay a,h.lay b,yAK (h.dep a) hn,by rw [h.eq];exact q⟩
end
theorem dp_ints {K:W.Frag} {H:Hp} {a:Addr} {xs:List Int} (h:SqL K H a (xs.map V.int)):Dp K H (.list (xs.map PyData.int)) (.ref a):=ZEc h (DpAll.ints xs)
section
variable {K:W.Frag} {H:Hp} {R:Bool->Prop}
theorem ZE0 {x c:V} {ty:Value} {b:Bool} (hc:ZFI c=true) (t:TyOf K H x ty) (k:PySem.W.kitOne K ty (cval c)=some b) (q:R b):∃ z c' ty b,[x,c]=[z,c'] /\ ZFI c'=true /\ TyOf K H z ty /\ PySem.W.kitOne K ty (cval c')=some b /\ R b:=⟨x,c,ty,b,rfl,hc,t,k,q⟩
theorem inst_int {i:Int} (q:R true):∃ z c' ty b,[V.int i,V.ty "int"]=[z,c'] /\ ZFI c'=true /\ TyOf K H z ty /\ PySem.W.kitOne K ty (cval c')=some b /\ R b:=ZE0 rfl (.int i) (kit_same rfl) q
theorem inst_int_bl {i:Int} (k:PySem.W.kitOne K (.type "int") (.type "bool")=some false) (q:R false):∃ z c' ty b,[V.int i,V.ty "bool"]=[z,c'] /\ ZFI c'=true /\ TyOf K H z ty /\ PySem.W.kitOne K ty (cval c')=some b /\ R b:=ZE0 rfl (.int i) k q
theorem inst_lst {a:Addr} {xs:List V} (h:H a=some (.lst xs)) (q:R true):∃ z c' ty b,[V.ref a,V.ty "list"]=[z,c'] /\ ZFI c'=true /\ TyOf K H z ty /\ PySem.W.kitOne K ty (cval c')=some b /\ R b:=ZE0 rfl (.lst h) (kit_same rfl) q
end
structure FunD (K:W.Frag) (x qual:Str) (st:Stmt) (f:Addr) (fd:FuncData) (dv:List Value):Prop where
 ex:∃ (oc:Value) (od:Option Addr) (T:Addr) (kV doc pm:Value) (an:Option Addr) (cdv ct:Value) (osl:Array (Option Value)),
  fd=W.fnOf x qual (ZAM st) (ZAL st) (ZAC st) (.ref T) kV doc pm an cdv ct /\ K.lookup f=some ⟨oc,od,.func fd,osl⟩ /\ W.codeIn K cdv qual=true /\ ∃ o n,K.lookup T=some o /\ o.data=.seq dv.toArray n
 kp:W.keepIn K (.ref f)=true
section
variable {P:Program} {w:World} {K:W.Frag} {mg:Str->Option Value} {base:Heap}
theorem FunD.ok {x qual:Str} {st:Stmt} {f:Addr} {fd:FuncData} {dv:List Value} {N ps:List Str} {k:Nat} {sp:Sp} (F:FunD K x qual st f fd dv) (S:FnScope N ps (ZAC st)) (len:∀ vs H Q E,sp vs H Q E->vs.length=ps.length)
  (B:∀ (z:Value) (A:Around) (outer:List Env) (s:Shared) (H:Hp) (vs:List V) (Q:VK) (E:XK),Room k (A.deeper (envOfC qual (ZAC st) s.heap.objs.size f z))->sp vs H Q E ->
   ∃ t,PSs (cxOf CX0 P w K mg base N qual (ZAC st) f z A outer s H E).nox (ZAL st) t /\ t { nx:=fun _ H'=>Q .non H',rt:=Q } (start N vs) H):FnOk P w K mg base CX0 (k+1) f fd ps sp:=by
 obtain ⟨oc,od,T,kV,Y,Z,an,z,ct,U,rfl,lk,J,_⟩:=F.ex
 refine fn_of lk J S len fun A outer s H vs Q E O L=>?_
 obtain ⟨t,h,q⟩:=B z A outer s H vs Q E O L
 exact ⟨t,h.nox,q⟩
theorem FunD.binds {x qual:Str} {st:Stmt} {f:Addr} {fd:FuncData} {dv ds:List Value} {ps:List Str} (F:FunD K x qual st f fd dv)
  (h:∀ (T:Addr) (kV B J:Value) (an:Option Addr) (z ct:Value) (us:List Value),(us++ds).length=ps.length->∃ k,bindArgs (W.fnOf x qual (ZAM st) (ZAL st) (ZAC st) (.ref T) kV B J an z ct) ⟨us,[]⟩=seqItems? (.ref T) >>= k /\ k (some dv.toArray)=pure (ps.zip (us++ds))):Binds K fd ps ds:=by
 obtain ⟨oc,od,T,kV,B,J,an,z,ct,Y,rfl,lk,U,o,n,Z,O⟩:=F.ex
 intro s us L hl
 obtain ⟨k,h1,h2⟩:=h T kV B J an z ct us hl
 exact PySem.W.binds_K L rfl Z O h1 h2
theorem ZCy {x qual:Str} {st:Stmt} {f T:Addr} {oc:Value} {od an:Option Addr} {J:Array (Option Value)} {kV B U z ct:Value} {dv:List Value} {O:Value} {L:Option Addr} {Z:Nat} {Y:Array (Option Value)} (l:K.lookup f=some ⟨oc,od,.func (W.fnOf x qual (ZAM st) (ZAL st) (ZAC st) (.ref T) kV B U an z ct),J⟩)
  (c:W.codeIn K z qual=true) (k:W.keepIn K (.ref f)=true) (t:K.lookup T=some ⟨O,L,.seq dv.toArray Z,Y⟩):FunD K x qual st f (W.fnOf x qual (ZAM st) (ZAL st) (ZAC st) (.ref T) kV B U an z ct) dv:=⟨⟨oc,od,T,kV,B,U,an,z,ct,J,rfl,l,c,_,Z,t,rfl⟩,k⟩
end
structure FnD (P:Program) (w:World) (K:W.Frag) (mg:Str->Option Value) (base:Heap) (CX:CXT) (x:Str) (k:Nat) (ps:List Str) (sp:Sp) (dvs:List V):Prop where
 ex:∃ f fd ds,FnOk P w K mg base CX k f fd ps sp /\ Binds K fd ps ds /\ Vals dvs ds /\ W.keepIn K (.ref f)=true /\ mg x=some (.ref f)
structure KlD (P:Program) (w:World) (K:W.Frag) (mg:Str->Option Value) (base:Heap) (CX:CXT) (x:Str) (C:Addr) (k:Nat) (ps:List Str) (sp:Sp) (dvs:List V):Prop where
 mgC:mg x=some (.ref C)
 ex:∃ f fd ds,FnOk P w K mg base CX k f fd ps sp /\ Binds K fd ps ds /\ Vals dvs ds /\ Mk K C f
section
variable {X:Cx} {CX:CXT} {k:Nat} {ps:List Str} {sp:Sp} {dvs:List V} {E:XK} {x m:Str} {C:Addr} {p pos apos:Pos} {e o:Expr} {es:List Expr} {ta:TE} {t:TA}
theorem pe_fnD (F:FnD X.prog X.w X.K X.mg X.base CX x k ps sp dvs) (Y:Room k X.A) (U:Gl X x) (Z:ZCF CX X E) (ha:PA X (e::es) t) (z:(x == ("__debug__":Str))=false:=by decide) (J:starEach (e::es) X.env=(false,eval e X.env)::starEach es X.env:=by rfl) (B:(backTo pos (starEach es X.env)).any (·.1)=false:=by rfl) :
  PE X (.Call (.Name x p) (e::es) [] pos) (ZFP sp dvs E t):=by
 obtain ⟨f,fd,ds,h1,h2,O,h3,L⟩:=F.ex
 exact pe_call h1 Y U L h3 h2 O Z ha z J B
theorem pe_mkD (F:KlD X.prog X.w X.K X.mg X.base CX x C k ps sp dvs) (U:Room (k+1) X.A) (O:Gl X x) (Y:ZCF CX X E) (ha:PA X (e::es) t) (z:(x == ("__debug__":Str))=false:=by decide) (J:starEach (e::es) X.env=(false,eval e X.env)::starEach es X.env:=by rfl) (B:(backTo pos (starEach es X.env)).any (·.1)=false:=by rfl) :
  PE X (.Call (.Name x p) (e::es) [] pos) (ZFM C sp dvs E t):=by
 obtain ⟨f,fd,ds,h1,h2,L,h3⟩:=F.ex
 exact pe_make h3 h1 U O F.mgC h2 L Y ha z J B
end
section
variable {X:Cx}
theorem ZDA (ns:List Int):∀ n,n <= ns.length->preSum (fun i=>ns.getD i 0) n=(ns.take n).sum
 | 0,_=>by simp [preSum]
 | n+1,h=>by
  show preSum (fun i=>ns.getD i 0) n+ns.getD n 0=_
  rw [ZDA ns n (by omega),List.take_succ]
  rw [yBH,yAI (show n < ns.length by omega),List.sum_append]
  simp
noncomputable def SumOk (ns:List Int):Prop:=ns.length <= 1000 /\ ∀ x∈ns,-1000000000 <= x /\ x <= 1000000000
theorem sum_bound:∀ (ns:List Int),(∀ x∈ns,-1000000000 <= x /\ x <= 1000000000)->-(ns.length * 1000000000:Int) <= ns.sum /\ ns.sum <= ns.length * 1000000000
 | [],_=>by simp
 | x::r,h=>by
  have a:=h x yAC
  have b:=sum_bound r fun y z=>h y (yAD _ z)
  rw [List.sum_cons,yAG]
  omega
theorem call_sum (hc:X.calm=true):ZC1 X (.builtin "sum") (fun xs H Q=>∃ (p:Addr) (ns:List Int),xs=[.ref p] /\ SqL X.K H p (ns.map V.int) /\ SumOk ns /\ Q (.int ns.sum) H):=by
 intro pins s σ H xs us Q I r h
 obtain ⟨p,ns,rfl,hq,Z,q⟩:=h
 obtain ⟨u,rfl,rx⟩:=ZDu r
 cases rx
 obtain ⟨its,r',pl,hz⟩:=I.list hq
 have B:=r'.length
 rw [yAA] at B
 have hh:X.A.handled=none:=I.ok.hd hc
 have hl:=pl.isList
 have L:p < s.heap.objs.size:=by obtain ⟨_,e,_⟩:=hl;exact Heap.lt_size e
 refine call_sum_walk (wpAny_pyIter_list hl ⟨s.heap.objs.size,_,_,_,_,_,fun i=>ns.getD i 0,rfl,Walks.list (A:=X.A.in1) hh s.heap.objs.size p (yAN L) its.toArray,⟨⟨_,Heap.get?_push_size _ rfl,rfl,rfl⟩,hl.push _⟩,fun b U=>?_,fun i v hP=>?_,fun j hj=>?_,fun h' tk t' hk=>?_⟩)
 .have a0:b=s.heap.objs.size∨b=p:=by simpa using U
  show b < (s.heap.push _).objs.size
  rw [Heap.size_push]
  rcases a0 with rfl | rfl
  .exact yBQ _
  .exact Nat.lt_succ_of_lt L
 .have O:its[i]?=some v:=by simpa using hP
  have hi:i < its.length:=(yAR.mp O).1
  obtain ⟨b,U⟩:∃ b,ns[i]?=some b:=⟨_,yAI (by omega)⟩
  obtain ⟨u,hu,ru⟩:=r'.get (i:=i) (x:=.int b) (by rw [yAM,U];rfl)
  rw [O] at hu
  cases hu
  obtain ⟨t,rfl⟩:=ru
  refine ⟨t,?_⟩
  show _=Value.int (ns.getD i 0) t
  rw [yBH,U]
  rfl
 .have J:j < ns.length:=by simp at hj;omega
  have Y:ns.getD j 0∈ns:=by
   rw [yBH,yAI J]
   exact List.getElem_mem J
  have b1:=Z.2 _ Y
  have b2:=sum_bound (ns.take (j+1)) fun y hy=>Z.2 y (List.mem_of_mem_take hy)
  have b3:(ns.take (j+1)).length <= 1000:=by rw [yBA];have:=Z.1;omega
  rw [ZDA ns (j+1) J]
  show (-(2 ^ 63) <= ns.getD j 0 /\ ns.getD j 0 < 2 ^ 63) /\ (-(2 ^ 63) <= (ns.take (j+1)).sum /\ (ns.take (j+1)).sum < 2 ^ 63)
  refine ⟨⟨by omega,by omega⟩,?_⟩
  omega
 .refine ⟨.int ns.sum,H,I.kept (t':=tk) (fun b o e=>hk b o ?_ (Heap.get?_push_of_some _ e)),⟨t',?_⟩,q⟩
  .intro z
   have:b=s.heap.objs.size:=by simpa using z
   exact absurd (Heap.lt_size e) (by rw [this];exact yBI _)
  .have:its.toArray.size=ns.length:=by simp [B]
   rw [this,ZDA ns ns.length (yAB _),List.take_length]
theorem rng_ok {P:Program} {w:World} {H:Hp} {h:Heap} {a:Addr} {lo hi:Int} {t u v:Tok} (e:h.get? a=some { cls:=.type "range",data:=.fields #[.int lo t,.int hi u,.int 1 v] }):ObjOk P w H h a (.rng lo hi):=⟨t,u,v,e⟩
theorem call_rng2:ZC1 X (.type "range") (fun xs H Q=>∃ m n:Int,xs=[.int m,.int n] /\ ∀ p,H p=none->Q (.ref p) (upd H p (.rng m n))):=by
 intro pins s σ H xs us Q I r h
 obtain ⟨m,n,rfl,q⟩:=h
 obtain ⟨u,w',rfl,z,B⟩:=ZFA r
 obtain ⟨t,rfl⟩:=z
 obtain ⟨t',rfl⟩:=B
 exact call_range_2 ⟨.ref s.heap.objs.size,_,I.laid (fun b o e=>Heap.get?_push_of_some _ e) (yAB _) (rng_ok (Heap.get?_push_size _ rfl)),rfl,q _ (I.hok.fresh (yAB _))⟩
noncomputable def ZDv (lo hi:Int):List Int:=(List.range (hi-lo).toNat).map fun i:Nat=>lo+(i:Int)
theorem ZCW (lo hi:Int):(ZDv lo hi).length=(hi-lo).toNat:=by unfold ZDv;rw [yAA,List.length_range]
theorem rints_get {lo hi:Int} {i:Nat} (h:i < (hi-lo).toNat):(ZDv lo hi)[i]?=some (lo+i):=by unfold ZDv;rw [yAM,List.getElem?_range h];rfl
theorem call_list_rng (hc:X.calm=true):ZC1 X (.type "list") (fun xs H Q=>∃ (p:Addr) (lo hi:Int),xs=[.ref p] /\ H p=some (.rng lo hi) /\ (-1000 <= lo /\ lo <= 1000 /\ -1000 <= hi /\ hi <= 1000) /\ ∀ l,H l=none->Q (.ref l) (upd H l (.lst ((ZDv lo hi).map V.int)))):=by
 intro pins s σ H xs us Q I r h
 obtain ⟨p,lo,hi,rfl,hp,hb,q⟩:=h
 obtain ⟨u,rfl,U⟩:=ZDu r
 cases U
 obtain ⟨t,u,v,e⟩:=I.hok p _ hp
 have Y:X.A.handled=none:=I.ok.hd hc
 refine call_list_range (n:=(hi-lo).toNat) Y e (small_one (by omega) (by omega) (by omega) (by omega)) (by rw [rangeSize_one];split <;> omega) (by omega) fun h' tk B c' O hS J=>?_
 have hz:(ZDv lo hi).length <= 1000 * 2:=by rw [ZCW];omega
 refine ⟨.ref s.heap.objs.size,_,I.laid (t':=tk) O (yAB _) (o:=.lst ((ZDv lo hi).map V.int)) ⟨?_,B.toList,c',?_,by simpa using hS⟩,rfl,q _ (I.hok.fresh (yAB _))⟩
 .rw [yAA]
  exact yAK hz (by decide)
 .have hsz:B.size=(hi-lo).toNat:=J.1
  have L:∀ (vs:List Value) (k:Nat) (zs:List Int),vs.length=zs.length->(∀ (j:Nat) v z,vs[j]?=some v->zs[j]?=some z->∃ t,v=Value.int z t)->Vals (zs.map V.int) vs:=by
   intro vs
   induction vs with
   | nil=>intro k zs h1 _;cases zs with
    | nil=>exact .nil
    | cons _ _=>cases h1
   | cons v r ih=>intro k zs h1 h2;cases zs with
    | nil=>cases h1
    | cons z zr=>exact .cons (h2 0 v z rfl rfl) (ih 0 zr (by simpa using h1) fun j v' Z a b=>h2 (j+1) v' Z (by simpa using a) (by simpa using b))
  refine L B.toList 0 (ZDv lo hi) (by rw [ZCW,yCL,hsz]) fun j v z a b=>?_
  have a':B[j]?=some v:=by simpa using a
  obtain ⟨t,rfl⟩:=J.2 j v a'
  have hj:j < (hi-lo).toNat:=by have:=(Array.getElem?_eq_some_iff.mp a').1;omega
  rw [rints_get hj] at b
  cases b
  exact ⟨t,by rw [Int.mul_one]⟩
theorem ZCR:ZC1 X (.builtin "sorted") (fun xs H Q=>∃ (p:Addr) (ns:List Int),xs=[.ref p] /\ SqL X.K H p (ns.map V.int) /\ ns.length < 64 /\ ∀ (l:Addr) (ms:List Int),H l=none->ms.Perm ns->ms.Pairwise (· <= ·)->Q (.ref l) (upd H l (.lst (ms.map V.int)))):=by
 intro pins s σ H xs us Q I r h
 obtain ⟨p,ns,rfl,hq,hn,q⟩:=h
 obtain ⟨u,rfl,Y⟩:=ZDu r
 cases Y
 obtain ⟨its,r',pl,hz⟩:=I.list hq
 have J:=r'.length
 rw [yAA] at J
 refine sorted_ints pl.isList (ZDQ r') (by omega) fun B z U L a3=>?_
 obtain ⟨e,O⟩:=sortedAll_at s.heap its B
 have Z:z.length=ns.length:=L.length_eq
 refine ⟨.ref (s.heap.objs.size+1),_,I.laid (t':=s.toks) (fun b o e=>sortedAll_old e) (yBF _) (o:=.lst (z.map V.int)) ⟨?_,B.toList,e,ZDZ U,by simpa using O⟩,rfl,q _ z (I.hok.fresh (yBF _)) L a3⟩
 rw [yAA]
 exact yAK (show z.length <= 1000 by omega) (by decide)
end
theorem Same.get {H H':Hp} {b:Addr} {o:HO} (s:Same H H') (h:H b=some o):H' b=some o:=s b o h
theorem newH {H:Hp} {p:Addr} (h:H p=none) (o:HO):∃ H',upd H p o=H' /\ Same H H' /\ H' p=some o:=⟨_,rfl,ZAK h o,ZAF⟩
section
variable {K:W.Frag} {a:Addr} {xs:List V} {te:TE} {Q:VK} {σ0 rest:St} {H:Hp}
theorem compL_gen (h:SqL K H a xs) (hz:xs.length <= 1000) (e0:σ0=none::rest) (R:V->V->Hp->Prop) (mono:∀ x y H1 H2,Same H1 H2->R x y H1->R x y H2)
  (Y:∀ (i:Nat) x H',xs[i]?=some x->Same H H'->∀ Q':VK,(∀ y H4,Same H' H4->R x y H4->Q' y H4)->te (some x::rest) H' Q')
  (hd:∀ ys H' p,ys.length=xs.length->(∀ (j:Nat) x y,xs[j]?=some x->ys[j]?=some y->R x y H')->Same H H'->H' p=none->Q (.ref p) (upd H' p (.lst ys))):ZF1 K (ZE3 0) tYes te σ0 Q (.ref a) H:=by
 subst e0
 refine ZCq h hz (fun i ys σ H'=>∃ v,σ=v::rest /\ Same H H' /\ ys.length=i /\ ∀ (j:Nat) x y,xs[j]?=some x->ys[j]?=some y->R x y H') ⟨_,rfl,.refl _,rfl,fun j x y _ q=>by cases q⟩ ?_ ?_ ?_
 .rintro i ys σ H' _ ⟨v,rfl,e,hl,_⟩
  exact ⟨e.seq h,yCD hl⟩
 .rintro i ys x σ H' hi O ⟨v,rfl,e,hl,L⟩
  show te (some x::rest) H' _
  refine Y i x H' O e _ fun y H4 U Z=>?_
  refine Nxt.of hi ⟨_,rfl,e.trans U,by rw [yAE,hl];rfl,fun j x' y' J B=>?_⟩
  by_cases hj:j < ys.length
  .rw [yBD hj] at B
   exact mono _ _ _ _ U (L j x' y' J B)
  .rw [yBC (by omega)] at B
   have:j-ys.length=0:=by
    rcases Nat.eq_zero_or_pos (j-ys.length) with z | z
    .exact z
    .rw [yBL (show [y].length <= j-ys.length from z)] at B
     cases B
   rw [this] at B
   cases B
   rw [show j=i by omega,O] at J
   cases J
   exact Z
 .rintro ys σ H' ⟨v,rfl,e,hl,L⟩ p hp
  exact hd ys H' p hl L e hp
theorem compI_gen {ms:List Int} (h:SqL K H a (ms.map V.int)) (O:ms.length <= 1000) (e0:σ0=none::rest) (R:Int->Int->Prop)
  (Z:∀ c H',c∈ms->Same H H'->∀ Q':VK,(∀ r H4,Same H' H4->R c r->Q' (.int r) H4)->te (some (.int c)::rest) H' Q')
  (hd:∀ (B:List Int) (H':Hp) (p:Addr),B.length=ms.length->(∀ (j:Nat) c r,ms[j]?=some c->B[j]?=some r->R c r)->Same H H'->H' p=none->Q (.ref p) (upd H' p (.lst (B.map V.int)))):ZF1 K (ZE3 0) tYes te σ0 Q (.ref a) H:=by
 refine compL_gen h (by rw [yAA];exact O) e0 (fun x y _=>∃ c r,x=.int c /\ y=.int r /\ R c r) (fun _ _ _ _ _ q=>q) (fun i x H' hx e Q' k=>?_) fun ys H' p hl L e Y=>?_
 .obtain ⟨c,hc,rfl⟩:=ZDE hx
  exact Z c H' (yAO hc) e Q' fun r H4 q1 q2=>k _ _ q1 ⟨c,r,rfl,rfl,q2⟩
 .have J:∀ y∈ys,∃ r,y=.int r:=fun y J=>by
   obtain ⟨j,U⟩:=yCN J
   have a0:j < ys.length:=(yAR.mp U).1
   obtain ⟨c,r,_,e,_⟩:=L j _ y (yAI (by omega)) U
   exact ⟨r,e⟩
  have:∃ B:List Int,ys=B.map V.int:=by
   clear hl L Y
   induction ys with
   | nil=>exact ⟨[],rfl⟩
   | cons y t ih=>
    obtain ⟨r,rfl⟩:=J y yAC
    obtain ⟨B,rfl⟩:=ih fun z O=>J z (yAD _ O)
    exact ⟨r::B,rfl⟩
  obtain ⟨B,rfl⟩:=this
  rw [yAA,yAA] at hl
  refine hd B H' p hl (fun j c r hc hr=>?_) e Y
  obtain ⟨c',r',e1,e2,q⟩:=L j (.int c) (.int r) (by rw [yAM,hc];rfl) (by rw [yAM,hr];rfl)
  cases e1
  cases e2
  exact q
end
section
variable {X:Cx} {pins:List (Addr×Obj)} {σ:St} {H:Hp} {s:Shared}
theorem Inv.turn2 (I:Inv X pins σ H s) {ch:List Addr} {h':Heap} {p:Addr} {o:HO} {t':Nat} (O:∀ b∈ch,FpOk X pins H b) (k:∀ b ob,b∉ch->s.heap.get? b=some ob->h'.get? b=some ob)
  (U:s.heap.objs.size <= p) (new:ObjOk X.prog X.w (upd H p o) h' p o):Inv X pins σ (upd H p o) { s with heap:=h',toks:=t' }:=by
 have hn:H p=none:=I.hok.fresh U
 have L:∀ b u,H b=some u->b∉ch:=fun b u e z=>by rw [(O b z).1] at e;cases e
 refine I.call (g':=s.gens) (t':=t') (d':=s.drawn) (ch:=ch) ⟨fun b ob e n _ B=>k b ob B e,fun b ob e n _ B=>⟨ob.slots,k b ob B e⟩,fun b ob e n _=>?_,fun b ob e B=>⟨ob,k b ob B e⟩,fun b xs e=>?_,fun b ob u e=>?_,fun b qs e=>⟨#[],?_⟩⟩ (fun b u e=>?_) I.bare fun b J=>?_
 .rw [ZAI (yAN (yAW (Heap.lt_size e) U))];exact n
 .rw [ZAI (ZAE e hn)];exact e
 .rw [ZAI (ZAE e hn)];exact e
 .rw [ZAI (ZAE e hn),e];simp
 .by_cases J:b=p
  .subst J;rw [ZAF] at e;cases e;exact new
  .rw [ZAI J] at e
   refine (I.hok b u e).stay (fun c v hc q=>k c v ?_ q) (fun c q=>by rw [ZAI (ZAE q hn)];exact q) fun c xs q=>by rw [ZAI (ZAE q hn)];exact q
   rcases hc with z | z
   .rw [z];exact L b u e
   .exact L c _ z
 .obtain ⟨a1,a2,a3,Y,Z,a6⟩:=O b J
  exact ⟨Y,a2,Z,a6⟩
end
noncomputable def Ite (K:W.Frag) (a:Addr):It :=
 ⟨fun i H=>∃ xs x,SqL K H a xs /\ xs[i]?=some x,fun i H v H'=>∃ p x,H p=none /\ (∀ xs,SqL K H a xs->xs[i]?=some x) /\ H'=upd H p (.tup [.int i,x]) /\ v=.ref p,fun i H=>∃ xs,SqL K H a xs /\ xs.length <= i⟩
theorem turn_enum {P:Program} {w:World} {K:W.Frag} {Z:List Expr} {x1} {tpos:Pos} (a e it:Addr) (a3:e≠it):Turn P w K (.Tuple Z x1 tpos) (Ite K a) [e,it] e (fun i h=>(∃ B,IsEnum h e it ((i:Nat):Int) B) /\ h.IsListIter it a i) where
 mem:=by simp
 obj:=fun i h st b O=>by
  obtain ⟨⟨B,L⟩,o,e2,c,d⟩:=st
  have Y:b=e∨b=it:=by simpa using O
  rcases Y with rfl | rfl
  .exact ⟨_,L,fun v z=>by cases z⟩
  .exact ⟨o,e2,fun v z=>by rw [d] at z;cases z⟩
 keep:=fun i h h' st k=>⟨let ⟨B,L⟩:=st.1;⟨B,k e (by simp) _ L⟩,st.2.at fun o q=>k it (by simp) o q⟩
 item:=by
  intro X hP hw hK hc i pins s σ H E I hf st hg
  subst hP hw hK
  obtain ⟨xs,x,hq,hx⟩:=hg
  obtain ⟨its,rv,p,hz⟩:=I.list hq
  obtain ⟨u,hu,ru⟩:=rv.get hx
  obtain ⟨⟨B,L⟩,U⟩:=st
  refine wpAny_pyNext_enum_item L U p.isList (x:=u) (by simpa using hu) a3 fun h1 a6 a4 a8 ad a7=>⟨_,rfl,?_⟩
  refine wpAny_letOwnedTupleGo_enum a6 fun h2 a9 J=>?_
  replace J:Heap.SameBut e h1 h2:=J
  have a0:e < s.heap.objs.size:=Heap.lt_size L
  have aa:h2.get? s.heap.objs.size=some { cls:=.type "tuple",data:=.seq #[.int i s.toks,u] }:=(J.2 _ (Nat.ne_of_gt a0)).trans a8
  have a2:H s.heap.objs.size=none:=I.hok.fresh (yAB _)
  refine ⟨.ref s.heap.objs.size,upd H s.heap.objs.size (.tup [.int i,x]),I.turn2 (ch:=[e,it]) (t':=s.toks+1) hf (fun b ob O q=>?_) (yAB _) ?_,rfl,⟨_,x,a2,fun ys hy=>by rw [I.list_inj hy hq];exact hx,rfl,rfl⟩,⟨⟨u,?_⟩,?_⟩,fun b O=>?_⟩
  .have a1:b≠e:=fun z=>O (by simp [z])
   have ac:b≠it:=fun z=>O (by simp [z])
   exact (J.2 b a1).trans (a7 b ob a1 ac q)
  .exact ⟨ZAU (show 2 <= 1000 by decide),[.int i s.toks,u],.cons ⟨_,rfl⟩ (.cons ru .nil),_,aa,rfl,0,rfl⟩
  .have:((i+1:Nat):Int)=(i:Int)+1:=by push_cast;rfl
   rw [this];exact a9
  .exact a4.at fun o q=>(J.2 it (Ne.symm a3)).trans q
  .have hn:=(hf b O).1
   have Y:b=e∨b=it:=by simpa using O
   obtain ⟨oi,a5,_⟩:=U
   have ab:b < s.heap.objs.size:=by
    rcases Y with rfl | rfl
    .exact a0
    .exact Heap.lt_size a5
   rw [ZAI (yAN ab)];exact hn
 done:=by
  intro X hP hw hK hc i pins s σ H E I hf st hg
  subst hP hw hK
  obtain ⟨xs,hq,hx⟩:=hg
  obtain ⟨its,rv,p,hz⟩:=I.list hq
  obtain ⟨⟨B,L⟩,U⟩:=st
  obtain ⟨f0,f1,f2,f3,f4,f5⟩:=hf it (by simp)
  have hl:=rv.length
  exact wpAny_pyNext_enum_end (I.ok.hd hc) L U p.isList (by rw [List.getElem?_toArray];exact yBL (by omega)) fun h' eb=>⟨rfl,I.turned (t':=s.toks) (fun b o O e=>eb b o O e) f0 f1 f3 f4 f5⟩
 self:=fun _ _ _ _ _ st h=>let ⟨_,L⟩:=st.1;wpAny_pyIter_enum L h
section
variable {X:Cx}
noncomputable def ZGK (K:W.Frag) (ta:TA):TI:=fun σ H R=>ta σ H fun vs H1=>∃ a,vs=[.ref a] /\ (∃ xs,SqL K H1 a xs) /\ R (Ite K a) H1
theorem pi_enum {B:List Expr} {x1} {tpos:Pos} {l:Expr} {ta:TA} {p pos:Pos} (hg:Gl X "enumerate") (hm:X.mg "enumerate"=none) (ha:PA X [l] ta) (Y:starEach [l] X.env=[(false,eval l X.env)]:=by rfl) :
  PI X (.Tuple B x1 tpos) (.Call (.Name "enumerate" p) [l] [] pos) (ZGK X.K ta):=by
 intro pins s σ H R I h
 refine Call_ (ZCZ I hg hm boot_enumerate (PyProof.Rows.callWith_type1 (thn (ha pos pins s σ H _ I h) fun us s1 zz=>?_) Y rfl))
 obtain ⟨vs,H1,J,r1,q1⟩:=zz
 obtain ⟨a,e,⟨xs,hq⟩,q⟩:=q1
 subst e
 obtain ⟨u,rfl,ru⟩:=ZDu r1
 cases ru
 obtain ⟨its,rv,pl,hz⟩:=J.list hq
 refine call_enumerate_list pl.isList fun h' U O hsz hk=>wpAny_pyIter_enum U ?_
 have I2:Inv X pins σ H1 { s1 with heap:=h' }:=J.kept (t':=s1.toks) hk
 refine ⟨s1.heap.objs.size+1,[s1.heap.objs.size+1,s1.heap.objs.size],_,Ite X.K a,H1,rfl,I2,turn_enum a _ _ (Nat.succ_ne_self _),⟨⟨_,U⟩,O⟩,fun b Z=>?_,q⟩
 have L:b=s1.heap.objs.size+1∨b=s1.heap.objs.size:=by simpa using Z
 have z:s1.heap.objs.size <= b:=by
  rcases L with rfl | rfl
  .exact yBF _
  .exact yAB _
 exact J.fpOk z (J.hok.fresh z)
end
section
variable {K:W.Frag} {a:Addr} {xs:List V} {g:TG} {tb:TS} {D:Ends} {σ:St} {H:Hp}
noncomputable def forE (K:W.Frag) (g:TG) (tb:TS) (D:Ends) (σ:St) (x:V) (H1:Hp):Prop:=∃ a,[x]=[.ref a] /\ (∃ xs,SqL K H1 a xs) /\ ∃ W:Nat->Nat->St->Hp->Prop,(∃ m,W 0 m σ H1) /\ ∀ i m σ H,W i m σ H ->
 ((Ite K a).stop i H /\ D.nx σ H)∨((Ite K a).go i H /\ ∃ N:St->Hp->Prop,(∀ σ' H',N σ' H'->∃ m',m' < m /\ W (i+1) m' σ' H') /\ ∀ x H',(Ite K a).yld i H x H'->g x σ H' fun σ2 H2=>tb { D with nx:=N,ct:=N,bk:=D.nx } σ2 H2)
theorem tForE_eq {t:TE}:tFor (ZGK K (ZCG t tNil)) g tb D σ H=t σ H (fun x H1=>forE K g tb D σ x H1):=rfl
variable {tt:TT} {te:TE} {Q:VK} {σ0:St}
noncomputable def compE (K:W.Frag) (g:TG) (tt:TT) (te:TE) (σ0:St) (Q:VK) (x:V) (H1:Hp):Prop:=∃ a,[x]=[.ref a] /\ (∃ xs,SqL K H1 a xs) /\ ∃ W:Nat->Nat->List V->St->Hp->Prop,(∃ m,W 0 m [] σ0 H1) /\ ∀ i m ys σ H,W i m ys σ H ->
 ((Ite K a).stop i H /\ ys.length <= sizeLine /\ ∀ p,H p=none->Q (.ref p) (upd H p (.lst ys))) ∨
 ((Ite K a).go i H /\ ys.length < sizeLine /\ ∀ x H',(Ite K a).yld i H x H'->g x σ H' fun σ2 H2=>tt σ2 H2 fun b H3=>if b=true then te σ2 H3 fun y H4=>∃ m',m' < m /\ W (i+1) m' (ys++[y]) σ2 H4 else ∃ m',m' < m /\ W (i+1) m' ys σ2 H3)
theorem tCompE_eq {k:Nat} {js:List Nat} {t:TE}:ZEO k js (ZGK K (ZCG t tNil)) g tt te σ H Q=t σ H (fun x H1=>compE K g tt te (up k js σ) Q x H1):=rfl
theorem compE_of (h:SqL K H a xs) (U:xs.length <= 1000) (P:Nat->List V->St->Hp->Prop) (J:P 0 [] σ0 H) (hl:∀ i ys σ H,i <= xs.length->P i ys σ H->SqL K H a xs /\ ys.length <= i)
  (B:∀ (i:Nat) ys x σ H p,i < xs.length->xs[i]?=some x->P i ys σ H->H p=none->g (.ref p) σ (upd H p (.tup [.int i,x])) fun z H2=>tt z H2 fun b H3=>if b=true then te z H3 fun y H4=>Nxt P xs.length i (ys++[y]) z H4 else Nxt P xs.length i ys z H3)
  (L:∀ ys σ H,P xs.length ys σ H->∀ p,H p=none->Q (.ref p) (upd H p (.lst ys))):compE K g tt te σ0 Q (.ref a) H:=by
 have O:=ZAU U
 refine ⟨a,rfl,⟨xs,h⟩,fun i m ys σ H=>m=xs.length-i /\ i <= xs.length /\ P i ys σ H,⟨xs.length,by simp,yAJ _,J⟩,?_⟩
 rintro i m ys σ H ⟨rfl,hi,p⟩
 obtain ⟨q,ly⟩:=hl i ys σ H hi p
 by_cases hlt:i < xs.length
 .refine .inr ⟨⟨xs,xs[i],q,by simp [hlt]⟩,by omega,fun x H' y=>?_⟩
  obtain ⟨Y,Z,hn,y,rfl,rfl⟩:=y
  exact B i ys Z σ _ Y hlt (y xs q) p hn
 .have e:i=xs.length:=by omega
  subst e
  exact .inl ⟨⟨xs,q,yAB _⟩,by omega,L ys σ H p⟩
end
noncomputable abbrev FZ (o:Obj):HO:=.frz o (.ext fun _=>True)
theorem ZFp {P:Program} {w:World} {H:Hp} {h:Heap} {a:Addr} {o:Obj} (e:h.get? a=some o):ObjOk P w H h a (FZ o):=⟨e,trivial,⟨o,e⟩,fun _ _ _ _=>trivial⟩
theorem ZD2 {P:Program} {w:World} {H:Hp} {h:Heap} {a:Addr} {o:Obj} (x:HOk P w H h) (e:H a=some (FZ o)):h.get? a=some o:=(x a _ e).1
noncomputable def CodeAt (H:Hp) (c:Addr) (qual:Str):Prop:=∃ oc vs t,H c=some (FZ oc) /\ oc.data=.fields vs /\ vs[1]?=some (.str qual t)
theorem CodeAt.rec {P:Program} {w:World} {H:Hp} {h:Heap} {c:Addr} {qual:Str} (x:HOk P w H h) (k:CodeAt H c qual):h.CodeRec (.ref c) qual :=
 let ⟨oc,vs,t,e,d,v⟩:=k;⟨c,oc,vs,t,rfl,ZD2 x e,d,v⟩
structure CloL (H:Hp) (g:Addr) (iname iq:Str) (ip:Arguments) (ib:List Stmt) (isc:Scope) (fr:List Str) (cs:List V) (cl:List (Str×Addr)):Prop where
 obj:∃ (doc pm ctv:Value) (c':Addr),H g=some (FZ (PySem.W.fnMade iname iq ip ib isc cl doc pm c' ctv)) /\ CodeAt H c' iq
 keys:∀ x c,cl.lookup x=some c->x∈fr
 inj:∀ x y c,cl.lookup x=some c->cl.lookup y=some c->x=y
 cell:∀ (i:Nat) (x:Str),fr[i]?=some x->∃ v c u o,cs[i]?=some v /\ cl.lookup x=some c /\ RelV v u /\ H c=some (FZ o) /\ o.data=.cell (some u)
 len:cs.length=fr.length
noncomputable def Clo (H:Hp) (g:Addr) (iname iq:Str) (ip:Arguments) (ib:List Stmt) (isc:Scope) (fr:List Str) (cs:List V):Prop:=∃ cl,CloL H g iname iq ip ib isc fr cs cl
noncomputable def ZEf (H H':Hp):Prop:=∀ b o,H b=some (FZ o)->H' b=some (FZ o)
theorem CodeAt.mono {H H':Hp} {c:Addr} {q:Str} (e:ZEf H H') (k:CodeAt H c q):CodeAt H' c q:=let ⟨oc,vs,t,a,d,v⟩:=k;⟨oc,vs,t,e _ _ a,d,v⟩
theorem CloL.mono {H H':Hp} {g:Addr} {iname iq:Str} {ip:Arguments} {ib:List Stmt} {isc:Scope} {fr:List Str} {cs:List V} {cl:List (Str×Addr)} (e:ZEf H H') (k:CloL H g iname iq ip ib isc fr cs cl):CloL H' g iname iq ip ib isc fr cs cl where
 obj:=let ⟨doc,pm,ctv,c',a,b⟩:=k.obj;⟨doc,pm,ctv,c',e _ _ a,b.mono e⟩
 keys:=k.keys
 inj:=k.inj
 cell:=fun i x h=>let ⟨v,c,u,o,a1,a2,a3,a4,a5⟩:=k.cell i x h;⟨v,c,u,o,a1,a2,a3,e _ _ a4,a5⟩
 len:=k.len
theorem Clo.mono {H H':Hp} {g:Addr} {iname iq:Str} {ip:Arguments} {ib:List Stmt} {isc:Scope} {fr:List Str} {cs:List V} (e:ZEf H H') (k:Clo H g iname iq ip ib isc fr cs):Clo H' g iname iq ip ib isc fr cs:=let ⟨cl,x⟩:=k;⟨cl,x.mono e⟩
theorem Same.fz {H H':Hp} (e:Same H H'):ZEf H H':=fun b o h=>e b _ h
theorem CloL.inj' {H:Hp} {g:Addr} {iname iq:Str} {ip:Arguments} {ib:List Stmt} {isc:Scope} {fr:List Str} {cs cs':List V} {cl cl':List (Str×Addr)} (k:CloL H g iname iq ip ib isc fr cs cl) (B:CloL H g iname iq ip ib isc fr cs' cl'):cs=cs':=by
 obtain ⟨d1,p1,t1,c1,e1,_⟩:=k.obj
 obtain ⟨d2,p2,t2,c2,J,_⟩:=B.obj
 rw [e1] at J
 have z:cl=cl':=by
  have:=Option.some.inj J
  injection this with h1 h2
  injection h1 with h3 h4 h5
  injection h5 with h6
  injection h6
 subst z
 refine List.ext_getElem? fun i=>?_
 by_cases hi:i < fr.length
 .obtain ⟨v,c,u,o,a1,a2,a3,a4,a5⟩:=k.cell i _ (yAI hi)
  obtain ⟨v',c',u',o',b1,L,Z,U,O⟩:=B.cell i _ (yAI hi)
  rw [a2] at L
  cases L
  rw [a4] at U
  have Y:o=o':=by
   have:=Option.some.inj U
   injection this
  subst Y
  rw [a5] at O
  have eu:u=u':=by injection O with h;injection h
  subst eu
  rw [a1,b1,a3.inj Z]
 .rw [yBL (by rw [k.len];omega),yBL (by rw [B.len];omega)]
open Classical in
noncomputable def hid (cl:List (Str×Addr)) (H:Hp):Hp:=fun b=>if ∃ x,cl.lookup x=some b then none else H b
open Classical in
noncomputable def back (cl:List (Str×Addr)) (H H1:Hp):Hp:=fun b=>if ∃ x,cl.lookup x=some b then H b else H1 b
theorem ZE2 {cl:List (Str×Addr)} {H:Hp} {x:Str} {b:Addr} (h:cl.lookup x=some b):hid cl H b=none:=by unfold hid;rw [if_pos ⟨x,h⟩]
theorem ZDn {cl:List (Str×Addr)} {H:Hp} {b:Addr} (h:¬ ∃ x,cl.lookup x=some b):hid cl H b=H b:=by unfold hid;rw [if_neg h]
theorem ZD3 {cl:List (Str×Addr)} {H H1:Hp} {x:Str} {b:Addr} (h:cl.lookup x=some b):back cl H H1 b=H b:=by unfold back;rw [if_pos ⟨x,h⟩]
theorem ZCs {cl:List (Str×Addr)} {H H1:Hp} {b:Addr} (h:¬ ∃ x,cl.lookup x=some b):back cl H H1 b=H1 b:=by unfold back;rw [if_neg h]
theorem hid_le {cl:List (Str×Addr)} {H:Hp} {b:Addr} {o:HO} (h:hid cl H b=some o):H b=some o:=by
 by_cases q:∃ x,cl.lookup x=some b
 .obtain ⟨x,q⟩:=q;rw [ZE2 q] at h;cases h
 .rw [ZDn q] at h;exact h
noncomputable def ZGP (cl:List (Str×Addr)) (H:Hp):Prop:=∀ x c,cl.lookup x=some c->∃ u o,H c=some (FZ o) /\ o.data=.cell u
theorem CloL.cells {H:Hp} {g:Addr} {iname iq:Str} {ip:Arguments} {ib:List Stmt} {isc:Scope} {fr:List Str} {cs:List V} {cl:List (Str×Addr)} (k:CloL H g iname iq ip ib isc fr cs cl):ZGP cl H:=fun x c h=>by
 obtain ⟨i,hi⟩:=yCN (k.keys x c h)
 obtain ⟨v,J,u,o,_,h2,_,z,B⟩:=k.cell i x hi
 rw [h] at h2
 cases h2
 exact ⟨_,o,z,B⟩
theorem ZCO {cl:List (Str×Addr)} {H:Hp} {b:Addr} {o:HO} (C:ZGP cl H) (h:H b=some o) (n:∀ ob,o≠FZ ob):hid cl H b=some o:=by
 rw [ZDn,h]
 rintro ⟨x,q⟩
 obtain ⟨u,ob,e,_⟩:=C x b q
 rw [h] at e
 exact n ob (Option.some.inj e)
theorem hid_none {cl:List (Str×Addr)} {H:Hp} {b:Addr} (C:ZGP cl H) (h:hid cl H b=none) (n:¬ ∃ x,cl.lookup x=some b):H b=none:=by rw [ZDn n] at h;exact h
theorem back_upd {cl:List (Str×Addr)} {H H1:Hp} {l:Addr} {o:HO} (n:¬ ∃ x,cl.lookup x=some l):back cl H (upd H1 l o)=upd (back cl H H1) l o:=by
 funext b
 by_cases q:∃ x,cl.lookup x=some b
 .have:b≠l:=fun e=>n (e ▸ q)
  obtain ⟨x,q⟩:=q
  rw [ZD3 q,ZAI this,ZD3 q]
 .rw [ZCs q]
  by_cases e:b=l
  .subst e;rw [ZAF,ZAF]
  .rw [ZAI e,ZAI e,ZCs q]
theorem back_hid {cl:List (Str×Addr)} {H:Hp}:back cl H (hid cl H)=H:=by
 funext b
 by_cases q:∃ x,cl.lookup x=some b
 .obtain ⟨x,q⟩:=q;rw [ZD3 q]
 .rw [ZCs q,ZDn q]
noncomputable def NoC (cl:List (Str×Addr)) (H:Hp):Prop:=∀ x c,cl.lookup x=some c->H c=none
structure CloScope (N ps fr:List Str) (sc:Scope):Prop where
 kind:sc.kind=.function
 co:sc.isCoroutine=false
 gen:sc.isGenerator=false
 nd:N.Nodup
 pre:N.take ps.length=ps
 suf:N.drop (N.length-fr.length)=fr
 two:ps.length+fr.length <= N.length
 par:∀ x∈ps,sc.names.lookup x=some .local
 nocell:∀ y∈sc.names,y.2≠.cell
 free:∀ x∈fr,sc.names.lookup x=some .free
 only:∀ x,sc.names.lookup x=some .free->x∈fr
noncomputable def ZC4 (N:List Str) (vs cs:List V):St:=vs.map some++(List.replicate (N.length-vs.length-cs.length) none++cs.map some)
noncomputable def ZFJ (P:Program) (w:World) (K:W.Frag) (mg:Str->Option Value) (base:Heap) (N:List Str) (qual:Str) (scope:Scope) (f:Addr) (cd:Value) (cl:List (Str×Addr)) (A:Around) (outer:List Env) (s:Shared) (H:Hp):Cx where
 prog:=P
 w:=w
 K:=K
 mg:=mg
 base:=base
 A:=A.deeper (PySem.W.envX qual scope s.heap.objs.size f cd cl)
 N:=N
 s₀:=s
 H₀:=H
 env:=PySem.W.envX qual scope s.heap.objs.size f cd cl
 outer:=outer
 stack:=PySem.W.envX qual scope s.heap.objs.size f cd cl::outer
 ex:=[]
 calm:=true
 fn:=fun _=>false
 pn:=[]
 xe:=fun _ _=>False
theorem startC_get {N:List Str} {vs cs:List V} {i:Nat} {v:V} (hl:vs.length+cs.length <= N.length) (h:(ZC4 N vs cs)[i]?=some (some v)) :
  vs[i]?=some v∨(N.length-cs.length <= i /\ cs[i-(N.length-cs.length)]?=some v):=by
 unfold ZC4 at h
 by_cases h1:i < vs.length
 .rw [yBD (by simpa using h1),yAM] at h
  cases e:vs[i]? with
  | none=>rw [e] at h;cases h
  | some a=>rw [e] at h;cases h;exact .inl rfl
 .rw [yBC (by simpa using Nat.le_of_not_lt h1),yAA] at h
  by_cases h2:i-vs.length < N.length-vs.length-cs.length
  .rw [yBD (by simpa using h2),List.getElem?_replicate,if_pos h2] at h
   cases h
  .rw [yBC (by simpa using Nat.le_of_not_lt h2),yBR,yAM] at h
   right
   refine ⟨by omega,?_⟩
   rw [show i-(N.length-cs.length)=i-vs.length-(N.length-vs.length-cs.length) by omega]
   cases e:cs[i-vs.length-(N.length-vs.length-cs.length)]? with
   | none=>rw [e] at h;cases h
   | some a=>rw [e] at h;cases h;rfl
theorem zip_fst_sub:∀ (ps:List Str) (us:List Value),((ps.zip us).map (·.1)).Sublist ps
 | [],_=>by simp
 | p::ps,[]=>by simp
 | p::ps,u::us=>by rw [List.zip_cons_cons,yAS];exact (zip_fst_sub ps us).cons₂ p
theorem lookup_nodup {α:Type}:∀ {cs:List (Str×α)} {n:Str} {c:α},(cs.map (·.1)).Nodup->(n,c)∈cs->cs.lookup n=some c
 | (m,d)::r,n,c,hn,h=>by
  rw [yAS] at hn
  have B:=List.nodup_cons.mp hn
  rw [yBV]
  rcases yAF.mp h with e | h
  .cases e;simp
  .have:n≠m:=fun z=>B.1 (z ▸ List.mem_map_of_mem (f:=(·.1)) h)
   have:(n == m)=false:=by simpa using this
   rw [this]
   exact lookup_nodup B.2 h
theorem zip_lookup {ps:List Str} {us:List Value} (B:ps.Nodup) {i:Nat} {x:Str} {u:Value} (h1:ps[i]?=some x) (h2:us[i]?=some u):((ps.zip us).reverse).lookup x=some u:=by
 have hm:(x,u)∈(ps.zip us).reverse:=by
  rw [List.mem_reverse]
  refine yAO (i:=i) ?_
  rw [List.getElem?_zip_eq_some]
  exact ⟨h1,h2⟩
 have z:((ps.zip us).reverse.map (·.1)).Nodup:=by
  rw [List.map_reverse]
  exact List.pairwise_reverse.mpr (List.Pairwise.imp (fun h=>Ne.symm h) (B.sublist (zip_fst_sub ps us)))
 exact lookup_nodup z hm
section
variable {P:Program} {w:World} {K:W.Frag} {mg:Str->Option Value} {base:Heap} {A:Around} {outer:List Env} {s:Shared} {H:Hp} {g:Addr} {iname iq:Str} {ip:Arguments} {ib:List Stmt} {isc:Scope} {N ps fr:List Str} {cs vs:List V} {us:List Value} {cl:List (Str×Addr)} {k:Nat}
theorem clo_call {Q:VK} (C:CloL H g iname iq ip ib isc fr cs cl) (S:CloScope N ps fr isc) (hr:Room (k+1) A) (U:Env0 P w K mg base A outer s H) (hl:vs.length=ps.length) (r:Vals vs us)
  (a8:∀ (a0 pm a6:Value) (c':Addr),bindArgs (PySem.W.fnX iname iq ip ib isc cl .none .none a0 pm none (.ref c') a6) ⟨us,[]⟩=pure (ps.zip us))
  (a9:∀ (cd:Value) (A':Around),Room k A'->∃ t,PSs (ZFJ P w K mg base N iq isc g cd cl A outer s (hid cl H)) ib t /\ t { nx:=fun _ H'=>NoC cl H'->Q .non (back cl H H'),rt:=fun v H'=>NoC cl H'->Q v (back cl H H') } (ZC4 N vs cs) (hid cl H)) :
  codeAny (model P w) A (.call (.ref g) ⟨us,[]⟩) (fun r s'=>match r with | .ok (.ret u)=>CE outer P w H s Q u s' | _=>False) s:=by
 obtain ⟨a0,pm,a6,c',hg,hc⟩:=C.obj
 have af:=ZD2 U.hok hg
 have ai:s.heap.NoLimit:=U.mod.nolimit.keeps fun b o e=>(U.bs b o e).1
 have aj:ps.Nodup:=by rw [<- S.pre];exact S.nd.sublist (List.take_sublist _ _)
 refine codeAny_call_def (o:=PySem.W.fnMade iname iq ip ib isc cl a0 pm c' a6) (fd:=PySem.W.fnX iname iq ip ib isc cl .none .none a0 pm none (.ref c') a6) (body:=ib) (binds:=ps.zip us) hr.depth af rfl ai (hc.rec U.hok) rfl (.of_eq (a8 a0 pm a6 c')) S.nocell (fun y hy=>S.par _ (List.of_mem_zip hy).1) (fun ag al O=>?_) S.co S.gen S.kind
 obtain ⟨t,ht,hq⟩:=a9 (.ref c') _ (hr.deeper (PySem.W.envX iq isc s.heap.objs.size g (.ref c') cl))
 have B:∀ x c,cl.lookup x=some c->∃ o u,H c=some (FZ o) /\ s.heap.get? c=some o /\ o.data=.cell u:=fun x c h=>by
  obtain ⟨u,o,e,d⟩:=C.cells x c h
  exact ⟨o,u,e,ZD2 U.hok e,d⟩
 have ae:∀ x c,cl.lookup x=some c->c∉frs outer:=fun x c h hb=>by
  obtain ⟨o,u,e,_⟩:=B x c h
  rw [U.frf c hb] at e;cases e
 have am:ps.length <= N.length:=by have:=S.two;omega
 have I:Inv (ZFJ P w K mg base N iq isc g (.ref c') cl A outer s (hid cl H)) [] (ZC4 N vs cs) (hid cl H) { s with heap:=ag,toks:=s.toks+(ps.zip us).length }:=by
  refine ⟨⟨U.mod,S.kind,rfl,rfl,yAB _,C.inj,fun x Z=>?_,fun y c h=>absurd h (by simp [ZFJ]),fun _=>hr.hd,Around.frames_deeper U.frames,.inr ⟨rfl,rfl⟩,fun b z=>absurd (show b∈([]:List Addr) from z) (by simp),fun b o e=>?_,U.bsz,fun b _ _ z=>absurd (show b∈([]:List Addr) from z) (by simp),fun b z=>absurd (show b∈([]:List Addr) from z) (by simp),U.funs,fun b hb=>?_⟩,
   rfl,U.bare,Un.kept O,⟨_,al,fun i x v h1 h2 h3=>?_⟩,fun x c h=>?_,?_,fun x c h=>ZE2 h,fun p hp=>absurd (show p∈([]:List (Addr×Obj)) from hp) (by simp),?_,?_⟩
  .have Z:isc.names.lookup x=some .cell∨isc.names.lookup x=some .free:=Z
   rcases Z with Z | Z
   .exact absurd rfl (S.nocell _ (PySem.mem_of_lookup Z))
   .obtain ⟨i,hi⟩:=yCN (S.only x Z)
    obtain ⟨v,c,u,o,_,h2,_⟩:=C.cell i x hi
    exact ⟨c,h2⟩
  .refine ⟨(U.bs b o e).1,?_⟩
   show hid cl H b=none
   by_cases q:∃ x,cl.lookup x=some b
   .obtain ⟨x,q⟩:=q;exact ZE2 q
   .rw [ZDn q];exact (U.bs b o e).2
  .show hid cl H b=none
   rw [ZDn]
   .exact U.frf b hb
   .rintro ⟨x,q⟩;exact ae x b q hb
  .have h1:N[i]?=some x:=h1
   have ab:=C.len
   rcases startC_get (by rw [hl,ab];exact S.two) h2 with h4 | ⟨h4,h5⟩
   .obtain ⟨u,hu,rv⟩:=r.get h4
    have hi:i < vs.length:=(yAR.mp h4).1
    have hp:ps[i]?=some x:=by rw [<- S.pre,List.getElem?_take_of_lt (by omega)];exact h1
    exact ⟨u,rv,.inl ⟨S.par x (yAO hp),zip_lookup aj hp hu⟩⟩
   .have hf:fr[i-(N.length-cs.length)]?=some x:=by
     rw [<- S.suf,yCO,<- ab,show N.length-cs.length+(i-(N.length-cs.length))=i by omega]
     exact h1
    obtain ⟨v',c,u,o,a1,a2,a3,a4,a5⟩:=C.cell _ x hf
    rw [h5] at a1
    cases a1
    refine ⟨u,a3,.inr ⟨.inr (S.free x (yAO hf)),c,a2,o,O _ _ (ZD2 U.hok a4),a5⟩⟩
  .obtain ⟨o,u,e,Y,d⟩:=B x c h
   exact ⟨u,o,O _ _ Y,d⟩
  .show hid cl H s.heap.objs.size=none
   have hn:=U.hok.fresh (yAB _)
   rw [ZDn]
   .exact hn
   .rintro ⟨x,q⟩
    obtain ⟨o,u,e,_⟩:=B x _ q
    rw [hn] at e;cases e
  .intro b o e
   have e':=hid_le e
   refine (U.hok b o e').stay (fun c v _ q=>O c v q) (fun c q=>?_) fun c xs q=>?_
   .exact ZCO C.cells q (fun ob z=>by cases z)
   .exact ZCO C.cells q (fun ob z=>by cases z)
  .unfold ZC4
   show _=N.length
   have:=S.two
   have:=C.len
   simp only [yAE,yAA,yBR]
   omega
 refine wpAny_mono (ht [] _ (ZC4 N vs cs) (hid cl H) _ I hq) (fun fl s' hs=>?_) fun e s' hs=>False.elim hs
 have fin:∀ {a7:St} {H':Hp} {v:V} {u:Value},Inv (ZFJ P w K mg base N iq isc g (.ref c') cl A outer s (hid cl H)) [] a7 H' s'->RelV v u->(NoC cl H'->Q v (back cl H H'))->CE outer P w H s Q u s' :=
  fun {a7 H' v u} J rv q=>by
   have un:Un (frs outer) [] (hid cl H) H' s.heap s'.heap:=J.base
   have ac:∀ b:Addr,b∉([]:List Addr):=fun b=>by simp
   have aa:∀ x c o,cl.lookup x=some c->s.heap.get? c=some o->s'.heap.get? c=some o:=fun x c o h e=>un.keep c o e (ZE2 h) (ae x c h) (ac c)
   have L:∀ x c,cl.lookup x=some c->H' c=none:=fun x c h=>by
    obtain ⟨o,u,e,Y,d⟩:=B x c h
    exact un.free c o Y (ZE2 h) (ac c)
   refine ⟨v,back cl H H',J.os,J.bare,⟨fun b o e n hb Z=>?_,fun b o e n hb Z=>?_,fun b o e n Z=>?_,un.there,fun b xs e=>?_,fun b o u' e=>?_,fun b ah e=>?_⟩,fun b o e=>?_,rv,q L⟩
   .refine un.keep b o e ?_ hb Z
    by_cases q:∃ x,cl.lookup x=some b
    .obtain ⟨x,q⟩:=q;exact ZE2 q
    .rw [ZDn q];exact n
   .refine un.slot b o e ?_ hb Z
    by_cases q:∃ x,cl.lookup x=some b
    .obtain ⟨x,q⟩:=q;exact ZE2 q
    .rw [ZDn q];exact n
   .have nc:¬ ∃ x,cl.lookup x=some b:=by
     rintro ⟨x,q⟩
     obtain ⟨o,u,e,_⟩:=B x b q
     rw [n] at e;cases e
    rw [ZCs nc]
    exact un.free b o e (by rw [ZDn nc];exact n) Z
   .have Y:=un.tups b xs (ZCO C.cells e (fun ob z=>by cases z))
    rw [ZCs]
    .exact Y
    .rintro ⟨x,q⟩;rw [L x b q] at Y;cases Y
   .by_cases q:∃ x,cl.lookup x=some b
    .obtain ⟨x,q⟩:=q;rw [ZD3 q];exact e
    .rw [ZCs q];exact un.frzs b o u' (by rw [ZDn q];exact e)
   .obtain ⟨ad,Y⟩:=un.tbls b ah (ZCO C.cells e (fun ob z=>by cases z))
    refine ⟨ad,?_⟩
    rw [ZCs]
    .exact Y
    .rintro ⟨x,q⟩;rw [L x b q] at Y;cases Y
   .have up:∀ c oc,H' c=some oc->back cl H H' c=some oc:=fun c oc q=>by
     rw [ZCs]
     .exact q
     .rintro ⟨x,z⟩;rw [L x c z] at q;cases q
    by_cases q:∃ x,cl.lookup x=some b
    .obtain ⟨x,q⟩:=q
     rw [ZD3 q] at e
     obtain ⟨o2,u2,Y,e3,d⟩:=B x b q
     rw [e] at Y
     cases Y
     exact ZFp (aa x b _ q e3)
    .rw [ZCs q] at e
     exact (J.hok b o e).stay (fun c v _ q=>q) (fun c q=>up c _ q) fun c xs q=>up c _ q
 cases fl with
 | ret u=>
  obtain ⟨v,a7,H',J,rv,q⟩:=hs
  exact fin J rv q
 | next=>
  obtain ⟨a7,H',J,q⟩:=hs
  exact fin (v:=V.non) (u:=Value.none) J rfl q
 | brk=>
  obtain ⟨_,_,_,q⟩:=hs
  exact False.elim q
 | cont=>
  obtain ⟨_,_,_,q⟩:=hs
  exact False.elim q
end
noncomputable def ZFO (r:V->List V->Hp->VK->Prop) (ta:TE) (t:TA):TE:=fun σ H Q=>ta σ H fun f H1=>(∃ g o,f=.ref g /\ H1 g=some (FZ o) /\ ∃ fd,o.data=.func fd) /\ t σ H1 fun vs H2=>r f vs H2 Q
noncomputable def CloR (X:Cx) (r:V->List V->Hp->VK->Prop):Prop :=
 ∀ (pins:List (Addr×Obj)) (s:Shared) (σ:St) (H:Hp) (f:Addr) (vs:List V) (us:List Value) (Q:VK),Inv X pins σ H s->Vals vs us->r (.ref f) vs H Q ->
  PySem.W.FnAt f s.heap /\ wpAny (model X.prog X.w) X.A (call (.ref f) us) (EP X pins σ Q) X.xe s
theorem fnAt_of {h:Heap} {g:Addr} {o:Obj} {fd:FuncData} (e:h.get? g=some o) (d:o.data=.func fd):PySem.W.FnAt g h:=by
 obtain ⟨oc,od,z,sl⟩:=o
 have d':z=.func fd:=d
 subst d'
 exact ⟨oc,od,fd,sl,e⟩
theorem pe_callV {X:Cx} {x:Str} {p pos:Pos} {e:Expr} {es:List Expr} {ta:TE} {t:TA} {r:V->List V->Hp->VK->Prop} (hc:CloR X r) (hx:PE X (.Name x p) ta) (ha:PA X (e::es) t)
  (L:starEach (e::es) X.env=(false,eval e X.env)::starEach es X.env:=by rfl) (B:(backTo pos (starEach es X.env)).any (·.1)=false:=by rfl):PE X (.Call (.Name x p) (e::es) [] pos) (ZFO r ta t):=by
 intro pins s σ H Q I h
 refine wpAny_Call_Name_kw (thn (hx pins s σ H _ I h) fun v s1 z=>?_)
 obtain ⟨f,H1,J,rf,⟨g,o,eg,Y,fd,hd⟩,q⟩:=z
 subst eg
 cases rf
 refine PySem.W.callWith_F (fnAt_of (ZD2 J.hok Y) hd) (thn (ha pos pins s1 σ H1 _ J q) fun us s2 z=>?_) L B
 obtain ⟨vs,H2,Z,O,U⟩:=z
 exact hc pins s2 σ H2 g vs us Q Z O U
structure CloOk (P:Program) (w:World) (K:W.Frag) (mg:Str->Option Value) (base:Heap) (k:Nat) (r:V->List V->Hp->VK->Prop):Prop where
 run:∀ (A:Around) (outer:List Env) (s:Shared) (H:Hp) (f:Addr) (vs:List V) (us:List Value) (Q:VK),Room k A->Env0 P w K mg base A outer s H->Vals vs us->r (.ref f) vs H Q ->
  PySem.W.FnAt f s.heap /\ codeAny (model P w) A (.call (.ref f) ⟨us,[]⟩) (fun r s'=>match r with | .ok (.ret u)=>CE outer P w H s Q u s' | _=>False) s
theorem CloOk.at {X:Cx} {k:Nat} {r:V->List V->Hp->VK->Prop} (C:CloOk X.prog X.w X.K X.mg X.base k r) (B:Room k X.A):CloR X r:=by
 intro pins s σ H f vs us Q I J h
 obtain ⟨h1,h2⟩:=C.run X.A X.stack s H f vs us Q B I.env0 J h
 refine ⟨h1,wpAny_call (codeAny_mono h2 fun r s' z=>?_)⟩
 cases r with
 | error e=>exact False.elim z
 | ok fl=>
  cases fl with
  | ret u=>exact I.after z
  | next=>exact False.elim z
  | brk=>exact False.elim z
  | cont=>exact False.elim z
theorem Clo.fnAt {P:Program} {w:World} {H:Hp} {h:Heap} {g:Addr} {iname iq:Str} {ip:Arguments} {ib:List Stmt} {isc:Scope} {fr:List Str} {cs:List V} {cl:List (Str×Addr)} (x:HOk P w H h) (C:CloL H g iname iq ip ib isc fr cs cl):PySem.W.FnAt g h:=by
 obtain ⟨z,J,B,c',e,_⟩:=C.obj
 exact fnAt_of (ZD2 x e) rfl
theorem clo_of {P:Program} {w:World} {K:W.Frag} {mg:Str->Option Value} {base:Heap} {iname iq:Str} {ip:Arguments} {ib:List Stmt} {isc:Scope} {N ps fr:List Str} {k:Nat} {r:V->List V->Hp->VK->Prop} (S:CloScope N ps fr isc)
  (U:∀ f vs H Q,r f vs H Q->∃ g cs,f=.ref g /\ Clo H g iname iq ip ib isc fr cs) (len:∀ f vs H Q,r f vs H Q->vs.length=ps.length)
  (z:∀ (cl:List (Str×Addr)) (J Y L:Value) (c':Addr) (us:List Value),us.length=ps.length->bindArgs (PySem.W.fnX iname iq ip ib isc cl .none .none J Y none (.ref c') L) ⟨us,[]⟩=pure (ps.zip us))
  (B:∀ (g:Addr) (cs:List V) (cl:List (Str×Addr)) (O:Value) (A:Around) (outer:List Env) (s:Shared) (H:Hp) (vs:List V) (Q:VK),Room k (A.deeper (PySem.W.envX iq isc s.heap.objs.size g O cl))->CloL H g iname iq ip ib isc fr cs cl->r (.ref g) vs H Q ->
   ∃ t,PSs (ZFJ P w K mg base N iq isc g O cl A outer s (hid cl H)) ib t /\ t { nx:=fun _ H'=>NoC cl H'->Q .non (back cl H H'),rt:=fun v H'=>NoC cl H'->Q v (back cl H H') } (ZC4 N vs cs) (hid cl H)):CloOk P w K mg base (k+1) r:=by
 refine ⟨fun A outer s H f vs us Q Z e0 rv h=>?_⟩
 obtain ⟨g,cs,eg,cl,C⟩:=U _ _ _ _ h
 cases eg
 have hl:=len _ _ _ _ h
 refine ⟨Clo.fnAt e0.hok C,clo_call (k:=k) C S Z e0 hl rv (fun J Y L c'=>z cl J Y L c' us (by rw [<- rv.length];exact hl)) fun O A' a0=>?_⟩
 exact B f cs cl O A outer s H vs Q (Z.deeper _) C h
theorem NoC.ne {cl:List (Str×Addr)} {H:Hp} {b:Addr} {o:HO} (n:NoC cl H) (h:H b=some o):¬ ∃ x,cl.lookup x=some b:=fun ⟨x,e⟩=>by rw [n x b e] at h;cases h
noncomputable def TabSt (H:Hp) (Pt:Addr) (pos:Pos) (iq:Str):Prop:=H Pt=some (.tbl #[])∨∃ c',H Pt=some (.tbl #[rawInt pos.line,rawInt pos.col,.ref c']) /\ CodeAt H c' iq
theorem TabSt.mono {H H':Hp} {Pt:Addr} {pos:Pos} {iq:Str} (e:H' Pt=H Pt) (f:ZEf H H') (k:TabSt H Pt pos iq):TabSt H' Pt pos iq:=by
 rcases k with k | ⟨c',k,q⟩
 .exact .inl (e.trans k)
 .exact .inr ⟨c',e.trans k,q.mono f⟩
noncomputable def ZEg (mg:Str->Option Value) (h:Heap):Prop:=∃ bm ob,mg "__builtins__"=some (.ref bm) /\ bm≠builtinsNs /\ h.get? bm=some ob /\ ob.cls=.type "module" /\ ob.dict=some builtinsNs /\ ob.data=.plain
structure MadeDef (H H':Hp) (Pt:Addr) (pos:Pos) (g:Addr) (iname iq:Str) (ip:Arguments) (ib:List Stmt) (isc:Scope) (fr:List Str) (cs:List V):Prop where
 same:∀ b o,b≠Pt->H b=some o->H' b=some o
 tab:TabSt H' Pt pos iq
 clo:Clo H' g iname iq ip ib isc fr cs
 fresh:H g=none
section
variable {X:Cx} {pins:List (Addr×Obj)} {σ:St} {H:Hp} {s:Shared}
structure MadeMid (H H':Hp) (Pt:Addr) (pos:Pos) (g:Addr) (iname iq:Str) (ip:Arguments) (ib:List Stmt) (isc:Scope) (cl:List (Str×Addr)):Prop where
 same:∀ b o,b≠Pt->H b=some o->H' b=some o
 tab:TabSt H' Pt pos iq
 obj:∃ (doc pm ctv:Value) (c':Addr),H' g=some (FZ (PySem.W.fnMade iname iq ip ib isc cl doc pm c' ctv)) /\ CodeAt H' c' iq
 fresh:H g=none
theorem Inv.made3 (I:Inv X pins σ H s) {Pt c':Addr} {ps B:Array Value} {h':Heap} {oc fo:Obj} {tk:Nat} (O:H Pt=some (.tbl ps)) (hx:Heap.ExtBut Pt s.heap h') (L:s.heap.objs.size <= c') (U:c' < h'.objs.size) (a2:h'.get? c'=some oc)
  (Y:h'.get? Pt=some (PySem.W.tabObj (ps++B))) (a0:fo.isFreed=false):Inv X pins σ (upd (upd (upd H Pt (.tbl (ps++B))) c' (FZ oc)) h'.objs.size (FZ fo)) { s with heap:=h'.push fo,toks:=tk }:=by
 have gn:∀ b o,s.heap.get? b=some o->b≠h'.objs.size /\ b≠c':=fun b o e=>by
  have l:=Heap.lt_size e
  exact ⟨yAN (Nat.lt_trans (yAW l L) U),yAN (yAW l L)⟩
 have Z:∀ b o,H b=some o->b≠h'.objs.size /\ b≠c':=fun b o e=>by
  have l:=I.hok.lt e
  exact ⟨yAN (Nat.lt_trans (yAW l L) U),yAN (yAW l L)⟩
 have np:∀ b,H b=none->b≠Pt:=fun b n z=>by rw [z,O] at n;cases n
 have cg:c'≠h'.objs.size:=yAN U
 have J:∀ b o,b≠Pt->H b=some o->upd (upd (upd H Pt (.tbl (ps++B))) c' (FZ oc)) h'.objs.size (FZ fo) b=some o:=fun b o n e=>by
  rw [ZAI (Z b o e).1,ZAI (Z b o e).2,ZAI n];exact e
 have a1:upd (upd (upd H Pt (.tbl (ps++B))) c' (FZ oc)) h'.objs.size (FZ fo) Pt=some (.tbl (ps++B)):=by
  rw [ZAI (Z Pt _ O).1,ZAI (Z Pt _ O).2,ZAF]
 refine I.un (h':=h'.push fo) (t':=tk) ⟨fun b o e n _ _=>?_,fun b o e n _ _=>?_,fun b o e n _=>?_,fun b o e _=>?_,fun b xs e=>?_,fun b o u e=>?_,fun b qs e=>?_⟩ fun b o e=>?_
 .exact Heap.get?_push_of_some _ (hx b o (np b n) e)
 .exact ⟨o.slots,Heap.get?_push_of_some _ (hx b o (np b n) e)⟩
 .rw [ZAI (gn b o e).1,ZAI (gn b o e).2,ZAI (np b n)];exact n
 .by_cases q:b=Pt
  .subst q;exact ⟨_,Heap.get?_push_of_some _ Y⟩
  .exact ⟨o,Heap.get?_push_of_some _ (hx b o q e)⟩
 .exact J b _ (fun z=>by rw [z,O] at e;cases e) e
 .exact J b _ (fun z=>by rw [z,O] at e;cases e) e
 .by_cases q:b=Pt
  .subst q
   rw [O] at e
   cases e
   exact ⟨B,a1⟩
  .exact ⟨#[],by rw [J b _ q e];simp⟩
 .by_cases q1:b=h'.objs.size
  .subst q1;rw [ZAF] at e;cases e;exact ZFp (Heap.get?_push_size _ a0)
  .rw [ZAI q1] at e
   by_cases q2:b=c'
   .subst q2;rw [ZAF] at e;cases e;exact ZFp (Heap.get?_push_of_some _ a2)
   .rw [ZAI q2] at e
    by_cases q3:b=Pt
    .subst q3;rw [ZAF] at e;cases e;exact Heap.get?_push_of_some _ Y
    .rw [ZAI q3] at e
     refine (I.hok b o e).stay (fun c u hc q=>?_) (fun c q=>?_) fun c xs q=>?_
     .refine Heap.get?_push_of_some _ (hx c u ?_ q)
      rcases hc with z | z
      .rw [z];exact q3
      .intro z2;rw [z2,O] at z;cases z
     .exact J c _ (fun z=>by rw [z,O] at q;cases q) q
     .exact J c _ (fun z=>by rw [z,O] at q;cases q) q
theorem Inv.made1 (I:Inv X pins σ H s) {h':Heap} {fo:Obj} {tk:Nat} (B:∀ b o,s.heap.get? b=some o->h'.get? b=some o) (hsz:s.heap.objs.size <= h'.objs.size) (z:fo.isFreed=false):Inv X pins σ (upd H h'.objs.size (FZ fo)) { s with heap:=h'.push fo,toks:=tk } :=
 I.laid (fun b u q=>Heap.get?_push_of_some _ (B b u q)) hsz (ZFp (Heap.get?_push_size _ z))
noncomputable def tDef (i:Nat) (Pt:Addr) (pos:Pos) (iname iq:Str) (ip:Arguments) (ib:List Stmt) (isc:Scope) (cl:List (Str×Addr)):TS:=fun D σ H=>TabSt H Pt pos iq /\ ∀ g H',MadeMid H H' Pt pos g iname iq ip ib isc cl->D.nx (σ.set i (some (.ref g))) H'
theorem ps_def {i:Nat} {Pt c:Addr} {pos:Pos} {iname iq:Str} {ip:Arguments} {ib:List Stmt} {isc:Scope} (hN:X.N.Nodup) (hi:X.N[i]?=some iname) (hx:Loc X.env.scope iname) (hf:X.fn iname=true∨X.env.scope.names.lookup iname=some .local)
  (O:X.env.code=.ref c) (C:PySem.W.CodeHd X.base c Pt) (B:ZEg X.mg X.base) (hq:qualnameIn X.env iname iname=iq) (hd0:ip.defaults=[]) (a9:ip.kw_defaults=[]) (ha:annTrees ip none X.env=[])
  (ab:∀ x,(x,NameKind.free)∈isc.names->∃ c,X.env.cells.lookup x=some c) :
  PS X (.FunctionDef iname ip ib [] none [] isc none iname pos) (tDef i Pt pos iname iq ip ib isc (closFrom X.env.cells isc.names [])):=by
 intro pins s σ H D I h
 obtain ⟨Z,h⟩:=h
 refine PySem.W.nestDef_K hd0 a9 ha ?_
 rw [hq]
 have a3:=I.ok.mod.glob.keeps I.bk
 have hC:=C.keeps I.bk
 have a5:=closureFor_eq (scope:=isc) (env:=X.env) ab
 obtain ⟨bm,ob,b1,b2,b3,b4,b5,b6⟩:=B
 have a8:bm≠mainGlobals:=fun q=>by
  obtain ⟨o,es,ep,e,hd,_⟩:=I.ok.mod.glob
  rw [q,e] at b3;cases b3;rw [hd] at b6;cases b6
 have apart:∀ {qs:Array Value},s.heap.get? Pt=some (PySem.W.tabObj qs)->mainGlobals≠Pt /\ s.heap.BuiltinsAt X.mg Pt:=fun {qs} hm=>by
  refine ⟨fun q=>?_,bm,ob,b1,b2,a8,fun q=>?_,I.bk _ _ b3,b4,b5,b6⟩
  .obtain ⟨o,es,ep,e,hd,_⟩:=a3
   rw [q,hm] at e;cases e;cases hd
  .have e:=I.bk _ _ b3
   rw [q,hm] at e;cases e;cases b4
 have fin:∀ {g:Addr} {H':Hp} {s':Shared},Inv X pins σ H' s'->MadeMid H H' Pt pos g iname iq ip ib isc (closFrom X.env.cells isc.names []) ->
   wpAny (model X.prog X.w) X.A (storeName X.env iname (.ref g)) (fun _ a6=>SP X pins D .next a6) X.xe s':=fun {g H' s'} J M=>
  ZC3 J hN hi hx (v:=.ref g) rfl (fun a6 J'=>⟨_,H',J',h g H' M⟩) hf
 rcases Z with Z | ⟨c1,Z,ac⟩
 .have hP:s.heap.get? Pt=some (PySem.W.tabObj #[]):=I.hok Pt _ Z
  obtain ⟨a1,a2⟩:=apart hP
  refine PySem.W.makeFunction_K a5 I.ok.glob a3 O hC hP trivial rfl a1 a2 fun c' L z h' tk ad Y a0 a7 ae=>?_
  obtain ⟨c2,oc,vs,t,e2,aa,hd,hv⟩:=a7
  cases e2
  have J:=I.made3 (tk:=tk) (fo:=PySem.W.fnMade iname iq ip ib isc (closFrom X.env.cells isc.names []) z ((X.mg "__name__").getD .none) c' L) Z ad Y a0 aa ae rfl
  have gt:∀ b o,H b=some o->b≠h'.objs.size /\ b≠c':=fun b o e=>by
   have l:=I.hok.lt e
   exact ⟨yAN (Nat.lt_trans (yAW l Y) a0),yAN (yAW l Y)⟩
  have U:CodeAt (upd (upd (upd H Pt (.tbl (#[]++#[rawInt pos.line,rawInt pos.col,.ref c']))) c' (FZ oc)) h'.objs.size (FZ (PySem.W.fnMade iname iq ip ib isc (closFrom X.env.cells isc.names []) z ((X.mg "__name__").getD .none) c' L))) c' iq :=
   ⟨oc,vs,t,by rw [ZAI (yAN a0),ZAF],hd,hv⟩
  refine fin J ⟨fun b o n e=>?_,.inr ⟨c',?_,U⟩,⟨z,_,L,c',ZAF,U⟩,?_⟩
  .rw [ZAI (gt b o e).1,ZAI (gt b o e).2,ZAI n];exact e
  .rw [ZAI (gt Pt _ Z).1,ZAI (gt Pt _ Z).2,ZAF];rfl
  .exact I.hok.fresh (yAK Y (yCC a0))
 .have hP:s.heap.get? Pt=some (PySem.W.tabObj #[rawInt pos.line,rawInt pos.col,.ref c1]):=I.hok Pt _ Z
  obtain ⟨a1,a2⟩:=apart hP
  refine PySem.W.makeFunction_hit (cv:=.ref c1) a5 I.ok.glob a3 O hC hP trivial ?_ a2 fun L z h' tk hk hsz=>?_
  .simp [codeAmong,rawInt]
  have J:=I.made1 (tk:=tk) (fo:=PySem.W.fnMade iname iq ip ib isc (closFrom X.env.cells isc.names []) z ((X.mg "__name__").getD .none) c1 L) hk hsz rfl
  have gt:∀ b o,H b=some o->b≠h'.objs.size:=fun b o e=>yAN (yAW (I.hok.lt e) hsz)
  have a4:∀ b o,H b=some o->upd H h'.objs.size (FZ (PySem.W.fnMade iname iq ip ib isc (closFrom X.env.cells isc.names []) z ((X.mg "__name__").getD .none) c1 L)) b=some o:=fun b o e=>by rw [ZAI (gt b o e)];exact e
  have U:=ac.mono (H':=upd H h'.objs.size (FZ (PySem.W.fnMade iname iq ip ib isc (closFrom X.env.cells isc.names []) z ((X.mg "__name__").getD .none) c1 L))) fun b o e=>a4 b _ e
  exact fin J ⟨fun b o _ e=>a4 b o e,.inr ⟨c1,a4 _ _ Z,U⟩,⟨z,_,L,c1,ZAF,U⟩,I.hok.fresh hsz⟩
end
noncomputable def ZEP (Pt:Addr) (pos:Pos) (iname iq:Str) (ip:Arguments) (ib:List Stmt) (isc:Scope) (fr:List Str) (ix:List Nat) (n:Nat):Sp:=fun vs H Q _=>
 vs.length=n /\ TabSt H Pt pos iq /\ ∀ g H',MadeDef H H' Pt pos g iname iq ip ib isc fr (ix.map fun i=>vs.getD i .non)->Q (.ref g) H'
theorem teller_ok {P:Program} {w:World} {K:W.Frag} {mg:Str->Option Value} {base:Heap} {x qual:Str} {st:Stmt} {f c Pt:Addr} {fd:FuncData} {ps:List Str} {iname iq:Str} {ip:Arguments} {ib:List Stmt} {isc:Scope} {pos rp ab:Pos} {fr:List Str} {ix:List Nat}
  (F:Fun K x qual st f fd) (S:FnScope (ps++[iname]) ps (ZAC st)) (ap:fd.code=.ref c) (C:PySem.W.CodeHd base c Pt) (B:ZEg mg base)
  (hb:ZAL st=[.FunctionDef iname ip ib [] none [] isc none iname pos,.Return (some (.Name iname rp)) ab]) (aw:∀ L cd,qualnameIn (envOfC qual (ZAC st) L f cd) iname iname=iq) (hd0:ip.defaults=[]) (ao:ip.kw_defaults=[]) (ha:∀ L cd,annTrees ip none (envOfC qual (ZAC st) L f cd)=[])
  (a0:(ZAC st).names.lookup iname=some .local) (aq:(iname == ("__debug__":Str))=false) (a9:(iname == ("__classdict__":Str))=false)
  (Z:∀ y∈isc.names,y.2=.free->y.1∈fr) (ah:∀ y∈fr,(y,NameKind.free)∈isc.names) (a7:∀ y∈fr,(ZAC st).names.lookup y=some .cell) (ay:∀ (j:Nat) (y:Str),fr[j]?=some y->∃ i,ix[j]?=some i /\ ps[i]?=some y) (aj:ix.length=fr.length) :
  FnOk P w K mg base CX0 1 f fd ps (ZEP Pt pos iname iq ip ib isc fr ix ps.length):=by
 obtain ⟨oc,od,kV,b1,pm,an,a6,ct,az,rfl,lk,ag⟩:=F.ex
 have ai:a6=.ref c:=ap
 refine ⟨fun vs H Q E h=>h.1,fun A outer s H args us vs Q E hr e0 ax r as=>?_⟩
 obtain ⟨hl,hT,hQ⟩:=as
 have KX:K.In s.heap:=e0.mod.kin.keeps fun b o e=>(e0.bs b o e).1
 have av:s.heap.NoLimit:=e0.mod.nolimit.keeps fun b o e=>(e0.bs b o e).1
 have a8:∀ y∈ps.zip us,(ZAC st).names.lookup y.1=some .local∨((ZAC st).names.lookup y.1=some .cell /\ ((cellsFrom (s.heap.objs.size+1) (ZAC st).names []).lookup y.1).isSome=true):=fun ⟨n,v⟩ hy=>by
  rcases S.par n (List.of_mem_zip hy).1 with q | q
  .exact .inl q
  .exact .inr ⟨q,PySem.W.cellsFrom_some _ _ _ (.inl q)⟩
 refine codeAny_call_function hr.depth (KX _ _ lk) rfl S.co S.gen rfl (PySem.W.codeRec_of KX ag) (ax _ _ _ _ ?_)
 refine wpAny_newFunctionEnv_cells S.kind a8 fun env he s1 xx=>?_
 subst he
 refine ⟨av.keeps xx.toInCall.keep,codeAny_func ?_⟩
 have I:Inv (cxOf CX0 P w K mg base (ps++[iname]) qual (ZAC st) f a6 A outer s H E).nox [] (start (ps++[iname]) vs) H s1:=(inv_start S hr.hd e0 hl r xx).wish _
 have O:∀ y∈fr,∃ cc,(cellsFrom (s.heap.objs.size+1) (ZAC st).names []).lookup y=some cc:=fun y hy=>ZDY (a7 y hy)
 rw [hb]
 have ad:(ps++[iname])[ps.length]?=some iname:=by simp
 have d1:=ps_def (X:=(cxOf CX0 P w K mg base (ps++[iname]) qual (ZAC st) f a6 A outer s H E).nox) (i:=ps.length) (pos:=pos) (Pt:=Pt) (c:=c) (iq:=iq) (ip:=ip) (ib:=ib) (isc:=isc) S.nd ad (.inl a0) (.inr a0) ai C B (aw _ _) hd0 ao (ha _ _) fun y hy=>O y (Z _ hy rfl)
 have aa:(start (ps++[iname]) vs).length=ps.length+1:=by
  unfold start
  simp only [yAE,yAA,yBR,yAG,yBM]
  omega
 have run:=d1 [] s1 (start (ps++[iname]) vs) H { nx:=fun al H'=>∃ g,al=(start (ps++[iname]) vs).set ps.length (some (.ref g)) /\ MadeMid H H' Pt pos g iname iq ip ib isc (closFrom (cellsFrom (s.heap.objs.size+1) (ZAC st).names []) isc.names []),rt:=fun _ _=>False } I ⟨hT,fun g H' M=>⟨g,rfl,M⟩⟩
 refine wpAny_execs_cons (wpAny_mono run (fun fl s2 q=>?_) fun e s' z=>z.elim)
 cases fl with
 | ret v=>obtain ⟨_,_,_,_,_,q⟩:=q;exact q.elim
 | brk=>obtain ⟨_,_,_,q⟩:=q;exact q.elim
 | cont=>obtain ⟨_,_,_,q⟩:=q;exact q.elim
 | next=>
  obtain ⟨al,H',J,g,rfl,M⟩:=q
  have v1:=pe_var (pos:=rp) (X:=(cxOf CX0 P w K mg base (ps++[iname]) qual (ZAC st) f a6 A outer s H E).nox) ad (.inl a0) aq a9 [] s2 _ H' (fun v H2=>v=.ref g /\ H2=H') J ⟨.ref g,by rw [List.getElem?_set_self (by rw [aa];omega)],rfl,rfl⟩
  refine wpAny_execs_cons (wpAny_Return_some (wpAny_mono v1 (fun u s3 q=>?_) fun e s' z=>z.elim))
  obtain ⟨v,H2,J2,rv,rfl,rfl⟩:=q
  cases rv
  have un:Un (frs outer) [] H H2 s.heap s3.heap:=J2.base
  have b0:∀ b:Addr,b∉([]:List Addr):=fun b=>by simp
  have inj:=J2.ok.inj
  have au:∀ (j:Nat) (y:Str),fr[j]?=some y->∃ v cc uu,(ix.map fun i=>vs.getD i .non)[j]?=some v /\ (cellsFrom (s.heap.objs.size+1) (ZAC st).names []).lookup y=some cc /\ RelV v uu /\ s3.heap.IsCell cc (some uu):=fun j y hj=>by
   obtain ⟨i,h1,h2⟩:=ay j y hj
   have hi:i < ps.length:=(yAR.mp h2).1
   obtain ⟨v,hv⟩:∃ v,vs[i]?=some v:=⟨_,yAI (by omega)⟩
   obtain ⟨m,_,hm⟩:=J2.loc
   have hs:((start (ps++[iname]) vs).set ps.length (some (.ref g)))[i]?=some (some v):=by
    rw [List.getElem?_set_ne (by omega)]
    unfold start
    rw [yBD (by rw [yAA];omega),yAM,hv]
    rfl
   have hN:(ps++[iname])[i]?=some y:=by rw [yBD hi];exact h2
   obtain ⟨uu,ru,ar⟩:=hm i y v hN hs (.inr (.inl (a7 y (yAO hj))))
   refine ⟨v,?_⟩
   rcases ar with ⟨k1,_⟩ | ⟨_,cc,e1,e2⟩
   .have k2:(ZAC st).names.lookup y=some .local:=k1
    rw [a7 y (yAO hj)] at k2
    cases k2
   .refine ⟨cc,uu,?_,e1,ru,e2⟩
    rw [yAM,h1]
    show some (vs.getD i .non)=some v
    rw [yBH,hv]
    rfl
  have Y:∀ y cc,(closFrom (cellsFrom (s.heap.objs.size+1) (ZAC st).names []) isc.names []).lookup y=some cc->y∈fr /\ (cellsFrom (s.heap.objs.size+1) (ZAC st).names []).lookup y=some cc:=fun y cc h=>by
   rcases ZB5 _ _ y cc (PySem.mem_of_lookup h) with z | ⟨z1,z2⟩
   .cases z
   .have hy:=Z _ z1 rfl
    obtain ⟨c3,h3⟩:=O y hy
    rw [h3] at z2
    exact ⟨hy,by rw [h3];exact congrArg some z2.symm⟩
  have af:∀ y cc,y∈fr->(cellsFrom (s.heap.objs.size+1) (ZAC st).names []).lookup y=some cc->(closFrom (cellsFrom (s.heap.objs.size+1) (ZAC st).names []) isc.names []).lookup y=some cc:=fun y cc hy h=>by
   obtain ⟨c3,h3⟩:=ZBl (ZB6 (cells:=cellsFrom (s.heap.objs.size+1) (ZAC st).names []) isc.names [] y (ah y hy))
   have:=(Y y c3 h3).2
   rw [h] at this
   rw [h3,Option.some.inj this]
  have U:∀ y cc,(closFrom (cellsFrom (s.heap.objs.size+1) (ZAC st).names []) isc.names []).lookup y=some cc->s.heap.objs.size <= cc /\ H2 cc=none /\ ∃ o u,s3.heap.get? cc=some o /\ o.data=.cell u:=fun y cc h=>by
   obtain ⟨hy,h2⟩:=Y y cc h
   obtain ⟨u,o,e1,e2⟩:=J2.cell y cc h2
   exact ⟨yCC (xx.above y cc (PySem.mem_of_lookup h2)),J2.freeC y cc h2,o,u,e1,e2⟩
  generalize closFrom (cellsFrom (s.heap.objs.size+1) (ZAC st).names []) isc.names []=cl at M Y af U
  have tr:∀ b,¬ (∃ y,cl.lookup y=some b)->back cl (fun b=>(s3.heap.get? b).map FZ) H2 b=H2 b:=fun b n=>ZCs n
  have tc:∀ y b o,cl.lookup y=some b->s3.heap.get? b=some o->back cl (fun b=>(s3.heap.get? b).map FZ) H2 b=some (FZ o):=fun y b o h e=>by rw [ZD3 h,e];rfl
  have ac:∀ b,b < s.heap.objs.size->¬ ∃ y,cl.lookup y=some b:=fun b hb ⟨y,z⟩=>absurd (U y b z).1 (Nat.not_le.mpr hb)
  have up:∀ b o,H2 b=some o->back cl (fun b=>(s3.heap.get? b).map FZ) H2 b=some o:=fun b o e=>by
   rw [tr b fun ⟨y,z⟩=>by rw [(U y b z).2.1] at e;cases e];exact e
  refine ⟨.ref g,back cl (fun b=>(s3.heap.get? b).map FZ) H2,J2.os,J2.bare,⟨un.keep,un.slot,fun b o e n hx=>?_,un.there,fun b xs e=>up _ _ (un.tups b xs e),fun b o u e=>up _ _ (un.frzs b o u e),fun b qs e=>?_⟩,fun b o e=>?_,rfl,hQ g _ ⟨fun b o n e=>up _ _ (M.same b o n e),?_,⟨cl,?_,fun y cc h=>(Y y cc h).1,fun y z cc h1 h2=>inj y z cc (Y y cc h1).2 (Y z cc h2).2,fun j y hj=>?_,?_⟩,M.fresh⟩⟩
  .rw [tr b (ac b (Heap.lt_size e))];exact un.free b o e n hx
  .obtain ⟨ae,e2⟩:=un.tbls b qs e
   exact ⟨ae,up _ _ e2⟩
  .by_cases q:∃ y,cl.lookup y=some b
   .obtain ⟨y,q⟩:=q
    obtain ⟨_,_,o2,u2,e2,_⟩:=U y b q
    rw [tc y b o2 q e2] at e
    cases e
    exact ZFp e2
   .rw [tr b q] at e
    exact (J2.hok b o e).stay (fun c v _ q=>q) (fun c q=>up c _ q) fun c xs q=>up c _ q
  .exact M.tab.mono (by
    rcases M.tab with z | ⟨_,z,_⟩
    .rw [z];exact up _ _ z
    .rw [z];exact up _ _ z) fun b o e=>up b _ e
  .obtain ⟨d1,d2,d3,c3,e1,e2⟩:=M.obj
   exact ⟨d1,d2,d3,c3,up _ _ e1,e2.mono fun b o e=>up b _ e⟩
  .obtain ⟨v,cc,uu,a1,a2,a3,o,a4,a5⟩:=au j y hj
   have am:=af y cc (yAO hj) a2
   exact ⟨v,cc,uu,o,a1,am,a3,tc y cc o am a4,a5⟩
  .rw [yAA];exact aj
noncomputable def ZGN (tabs:List (Addr×Addr)) (H:Hp):Prop:=∀ q∈tabs,H q.2=some (.tbl #[])
theorem law_callT {P:Program} {w:World} {K:W.Frag} {mg mb:Str->Option Value} {CX:CXT} {k:Nat} {fa a:Addr} {fd:FuncData} {x:Str} {sp:Sp} {s₁:Shared} {vs:List Value} {ns:List Int} {tabs:List (Addr×Addr)}
  (KX:K.In s₁.heap) (af:s₁.heap.Ns mainGlobals mg) (O:s₁.heap.Ns builtinsNs mb) (ah:∀ x:Str,x≠"__name__"->mb x=bootBuiltins x) (ab:s₁.heap.NoLimit) (hg:s₁.gens=#[])
  (ha:s₁.heap.get? a=some { cls:=.type "list",data:=.seq vs.toArray }) (hi:IntsAre vs ns) (hl:ns.length <= sizeLine) (hr:Room k callerA)
  (Y:∀ q∈tabs,PySem.W.CodeHd s₁.heap q.1 q.2 /\ s₁.heap.get? q.2=some (PySem.W.tabObj #[])) (nt:PySem.W.noTabs K=true) (al:ZEg mg s₁.heap)
  (F:∀ base:Heap,K.In base->base.Ns mainGlobals mg->(∀ q∈tabs,PySem.W.CodeHd base q.1 q.2)->ZEg mg base->FnOk P w K mg base CX k fa fd [x] sp) (a5:∀ (s:Shared) (u:Value),BindsTo s fd ⟨[u],[]⟩ [(x,u)])
  (aj:∀ H:Hp,ZGN tabs H->SqL K H a (ns.map V.int)->sp [.ref a] H (fun v _=>v=.bl true) fun _ _ _=>False)
  (ag:∀ H e s',CX [] H s₁ (fun _ _ _=>False) e s'->False) :
  codeAny (model P w) callerA (.call (.ref fa) ⟨[.ref a],[]⟩) (fun r s'=>r=.ok (.ret (.bool true)) /\ OldK s₁.heap s'.heap /\ s'.os=s₁.os /\ AllBare s'.gens) s₁:=by
 have rv:=ZDZ hi
 have a7:=hi.length
 have a3:∀ H:Hp,SqL K H a (ns.map V.int)->HOk P w H s₁.heap->(∀ b o,H b=some o->(b=a /\ K.lookup a=none /\ ∃ ob xs,o=.frz ob (.lst xs))∨(o=.tbl #[] /\ ∃ q∈tabs,q.2=b))->ZGN tabs H ->
   codeAny (model P w) callerA (.call (.ref fa) ⟨[.ref a],[]⟩) (fun r s'=>r=.ok (.ret (.bool true)) /\ OldK s₁.heap s'.heap /\ s'.os=s₁.os /\ AllBare s'.gens) s₁:=by
  intro H hS aa hA hO
  have B:∀ {b:Addr} {o:Obj},s₁.heap.get? b=some o->H b=none->(hidT s₁.heap H).get? b=some o:=fun e n=>hidT_get e n
  have U:∀ {b:Addr} {o:Obj},s₁.heap.get? b=some o->(∀ a6 n',o.data≠.seq a6 n')->(o.cls=.none->∀ a6,o.data≠.fields a6)->H b=none:=fun {b o} e d1 d2=>by
   cases q:H b with
   | none=>rfl
   | some u=>
    rcases hA b u q with ⟨e',_⟩ | ⟨_,q',J,e'⟩
    .subst e'
     rw [ha] at e;cases e
     exact absurd rfl (d1 _ _)
    .subst e'
     rw [(Y q' J).2] at e;cases e
     exact absurd rfl (d2 rfl _)
  have a0:∀ {b:Addr} {m:Str->Option Value},s₁.heap.Ns b m->(hidT s₁.heap H).Ns b m:=fun {b m} ⟨o,es,ep,e,d,r⟩=>⟨o,es,ep,B e (U e (by rw [d];intro _ _ z;cases z) (fun _=>by rw [d];intro _ z;cases z)),d,r⟩
  have a8:K.In (hidT s₁.heap H):=fun b o e=>B (KX b o e) (by
   cases q:H b with
   | none=>rfl
   | some u=>
    rcases hA b u q with ⟨e',n,_⟩ | ⟨_,q',J,e'⟩
    .subst e';rw [n] at e;cases e
    .subst e'
     have Z:=KX _ _ e
     rw [(Y q' J).2] at Z
     cases Z
     have h2:=List.all_eq_true.mp nt _ (PySem.W.mem_of_lookupK e)
     exact absurd (show false=true from h2) yBB)
  have hM:Mod K mg (hidT s₁.heap H):=⟨a8,a0 af,⟨mb,a0 O,ah⟩,let ⟨mc,h1,h2⟩:=ab;⟨mc,a0 h1,h2⟩⟩
  have e0:Env0 P w K mg (hidT s₁.heap H) callerA [] s₁ H:=⟨rfl,hM,fun b o e=>of_hidT e,yCD (hidT_size _ _),trivial,fun b O=>absurd (show b∈([]:List Addr) from O) (by simp),aa,.of_eq hg⟩
  have hC:∀ q∈tabs,PySem.W.CodeHd (hidT s₁.heap H) q.1 q.2:=fun q J=>by
   obtain ⟨o,vs,ae,tf,a4,tg,ai,ac,tt,e1,Z,e3,r⟩:=(Y q J).1
   exact ⟨o,vs,ae,tf,a4,tg,ai,ac,tt,B e1 (U e1 (by rw [e3];intro _ _ z;cases z) (fun z=>by rw [Z] at z;cases z)),Z,e3,r⟩
  have hB:ZEg mg (hidT s₁.heap H):=by
   obtain ⟨bm,ob,b1,b2,b3,b4,b5,b6⟩:=al
   exact ⟨bm,ob,b1,b2,B b3 (U b3 (by rw [b6];intro _ _ z;cases z) (fun z=>by rw [b4] at z;cases z)),b4,b5,b6⟩
  refine codeAny_mono ((F _ a8 (a0 af) hC hB).run callerA [] s₁ H ⟨[.ref a],[]⟩ [.ref a] [.ref a] _ _ hr e0 (a5 s₁ (.ref a)) (.cons rfl .nil) (aj H hO hS)) fun r s' h=>?_
  cases r with
  | error e=>exact (ag H e s' h).elim
  | ok fl=>
   cases fl with
   | next=>exact False.elim h
   | brk=>exact False.elim h
   | cont=>exact False.elim h
   | ret u=>
    obtain ⟨v,H',os,a9,un,a1,r',q⟩:=h
    have q':v=.bl true:=q
    subst q'
    obtain rfl:u=Value.bool true:=r'
    have am:∀ b:Addr,b∉frs ([]:List Env):=fun b z=>absurd (show b∈([]:List Addr) from z) (by simp)
    refine ⟨rfl,⟨fun b o e=>?_,fun b o e=>un.there b o e (by simp)⟩,os,a9⟩
    cases q:H b with
    | none=>exact .inl (un.keep b o e q (am b) (by simp))
    | some u=>
     rcases hA b u q with ⟨_,_,ob,xs,z⟩ | ⟨z,q',J,e'⟩
     .subst z
      have z2:=un.frzs b ob _ q
      obtain ⟨e1,_⟩:=aa b _ q
      obtain ⟨Z,_⟩:=a1 b _ z2
      rw [e] at e1;cases e1
      exact .inl Z
     .subst z
      subst e'
      obtain ⟨a2,z2⟩:=un.tbls _ _ q
      have Z:s'.heap.get? q'.2=some (PySem.W.tabObj (#[]++a2)):=a1 _ _ z2
      have e3:=(Y q' J).2
      rw [e] at e3
      have e4:o=PySem.W.tabObj #[]:=Option.some.inj e3
      subst e4
      exact .inr (.inl ⟨((Y q' J).1.tab (Y q' J).2).isCodeTable,rfl,#[],a2,rfl,Z⟩)
 have ad:∀ q∈tabs,q.2≠a:=fun q J z=>by
  have e:=(Y q J).2
  rw [z,ha] at e;cases e
 cases hk:K.lookup a with
 | some o=>
  have e:=KX a o hk
  rw [ha] at e
  cases e
  refine a3 (fun b=>if b∈tabs.map (·.2) then some (.tbl #[]) else none) (.inr ⟨_,vs.toArray,_,hk,rfl,rfl,rfl,by rw [yAP,a7];exact hl,by simpa using rv⟩) (fun b u z=>?_) (fun b u z=>?_) fun q J=>if_pos (List.mem_map_of_mem J)
  .by_cases O:b∈tabs.map (·.2)
   .have L:=(if_pos O).symm.trans z
    cases L
    obtain ⟨q,J,rfl⟩:=yBN.mp O
    exact (Y q J).2
   .have L:=(if_neg O).symm.trans z
    cases L
  .by_cases O:b∈tabs.map (·.2)
   .have L:=(if_pos O).symm.trans z
    cases L
    obtain ⟨q,J,e⟩:=yBN.mp O
    exact .inr ⟨rfl,q,J,e⟩
   .have L:=(if_neg O).symm.trans z
    cases L
 | none=>
  refine a3 (fun b=>if b∈tabs.map (·.2) then some (.tbl #[]) else if b=a then some (.frz { cls:=.type "list",data:=.seq vs.toArray } (.lst (ns.map V.int))) else none) (.inl (.inr ⟨{ cls:=.type "list",data:=.seq vs.toArray },?_⟩)) (fun b u z=>?_) (fun b u z=>?_) fun q J=>if_pos (List.mem_map_of_mem J)
  .dsimp only
   rw [if_neg,if_pos rfl]
   intro z
   obtain ⟨q,J,e⟩:=yBN.mp z
   exact ad q J e
  .by_cases O:b∈tabs.map (·.2)
   .have L:=(if_pos O).symm.trans z
    cases L
    obtain ⟨q,J,rfl⟩:=yBN.mp O
    exact (Y q J).2
   .have L:=(if_neg O).symm.trans z
    by_cases hba:b=a
    .have L:=(if_pos hba).symm.trans L
     cases L
     subst hba
     exact ⟨ha,by rw [yAA];exact hl,vs,_,rv,ha⟩
    .have L:=(if_neg hba).symm.trans L
     cases L
  .by_cases O:b∈tabs.map (·.2)
   .have L:=(if_pos O).symm.trans z
    cases L
    obtain ⟨q,J,e⟩:=yBN.mp O
    exact .inr ⟨rfl,q,J,e⟩
   .have L:=(if_neg O).symm.trans z
    by_cases hba:b=a
    .have L:=(if_pos hba).symm.trans L
     cases L
     exact .inl ⟨hba,hk,_,_,rfl⟩
    .have L:=(if_neg hba).symm.trans L
     cases L
noncomputable def ZFW (K:W.Frag) (tabs:List (Addr×Addr)):Sp:=fun vs H Q _=>∃ (a:Addr) (ns:List Int),vs=[.ref a] /\ SqL K H a (ns.map V.int) /\ ns.length <= 63 /\ ZGN tabs H /\ ∀ H',Q (.bl true) H'
theorem tabIn_of {K:W.Frag} {x:Str} {f c Pt:Addr} {oc J:Value} {od B:Option Addr} {fd:FuncData} {sl z:Array (Option Value)} {vs:Array Value} (a:W.nsIn K mainGlobals x=some (some (.ref f))) (l:K.lookup f=some ⟨oc,od,.func fd,sl⟩) (hc:fd.code=.ref c)
  (L:K.lookup c=some ⟨J,B,.fields vs,z⟩) (O:vs[11]?=some (.ref Pt)):PySem.W.tabIn K x=some (c,Pt):=by
 unfold PySem.W.tabIn
 rw [a]
 dsimp only
 rw [l]
 dsimp only
 rw [hc]
 dsimp only
 rw [L]
 dsimp only
 rw [O]
theorem walk_ofT2 {l:PySem.W.OpenLaw} {k:Nat} {q:Program} {loose:List Str} {XP:(Str->Option Value)->Heap->Prop} {YP:World->Heap->Prop} {d:DefRec} {K:Params->W.Frag} {x:Str} {names:List Str}
  (hn:l.most=some 63) (a1:d.params.defaults=[]) (hr:Room k callerA)
  (hY:∀ (w:World) (h:Heap),YP w h->(K w.params).In h) (L:∀ y∈names,∃ dr,(recsOf q).find? (fun e=>e.name == y)=some dr)
  (F:∀ (w:World) (mg:Str->Option Value) (U:Addr) (h:Heap),(K w.params).In h->h.Ns mainGlobals mg->mg d.name=some (.ref U) ->
   ∃ (tabs:List (Addr×Addr)) (fd:FuncData),PySem.W.noTabs (K w.params)=true /\ (∀ t∈tabs,∃ y∈names,PySem.W.tabIn (K w.params) y=some t) /\ (∀ (s:Shared) (u:Value),BindsTo s fd ⟨[u],[]⟩ [(x,u)]) /\
    ∀ base:Heap,(K w.params).In base->base.Ns mainGlobals mg->(∀ t∈tabs,PySem.W.CodeHd base t.1 t.2)->ZEg mg base->FnOk l.prog w (K w.params) mg base CX0 k U fd [x] (ZFW (K w.params) tabs)) :
  PySem.W.WalkO q loose XP YP l.row.toRowW d [] (fun f vs=>PySem.call f vs):=by
 refine Att.attach_call hn a1 fun w s₀ s₁ mg mb U o pm cd a3 a vs ns G Y ho hd a2 a0 O J B hg=>?_
 have Z:=hY w _ Y
 obtain ⟨tabs,fd,nt,ht,hb,hF⟩:=F w mg U _ Z G.T.g a0
 refine law_callT (tabs:=tabs) Z G.T.g G.T.b G.T.builtins G.T.nolimit hg O J (yAK B (by decide)) hr (fun t h2=>?_) nt G.T.bmain hF hb (fun H hO hS=>⟨a,ns,rfl,hS,B,hO,fun _=>rfl⟩) fun H e s' z=>z
 obtain ⟨y,hy,e2⟩:=ht t h2
 obtain ⟨dr,e1⟩:=L y hy
 exact PySem.W.tab_of G.T Z e1 e2
theorem hix_of {z:List Nat} {ps fr:List Str} (h:z.map (fun i=>ps[i]?)=fr.map some):∀ (j:Nat) (y:Str),fr[j]?=some y->∃ i,z[j]?=some i /\ ps[i]?=some y:=fun j y e=>by
 have:=congrArg (fun l=>l[j]?) h
 simp only [yAM,e,yBW] at this
 cases q:z[j]? with
 | none=>rw [q] at this;cases this
 | some i=>rw [q] at this;exact ⟨i,rfl,by simpa using this⟩
noncomputable def inBody (s:Stmt) (j:Nat):Stmt:=(ZAL s).getD j (.Pass ⟨0,0,0,0⟩)
noncomputable def ZCa (s:Stmt):Pos:=match s with
 | .FunctionDef _ _ _ _ _ _ _ _ _ pos=>pos
 | _=>⟨0,0,0,0⟩
theorem cx_cloK {P:Program} {w:World} {K:W.Frag} {mg:Str->Option Value} {base:Heap} {N:List Str} {qual:Str} {scope:Scope} {f:Addr} {z:Value} {cl:List (Str×Addr)} {A:Around} {outer:List Env} {s:Shared} {H:Hp}:(ZFJ P w K mg base N qual scope f z cl A outer s H).K=K:=rfl
section
variable {prog:Program} {w:World} {A:Around} {R:Result->Shared->Prop} {I:Addr} {fp wr:List Addr} {n:Nat} {P:Nat->Value->Prop} {St:Nat->Heap->Prop}
end
section
variable {prog:Program} {w:World} {A:Around} {E:Value->Shared->Prop} {s:Shared} {l:Addr}
end
noncomputable def maxD (d:Int):List Int->Int
 | []=>d
 | x::r=>r.foldl (fun m y=>if m < y then y else m) x
section
variable {X:Cx} {e d:Expr} {te td:TE} {p pos:Pos} {kpos:Pos}
noncomputable def tMaxD (K:W.Frag) (te td:TE):TE:=fun σ H Q=>te σ H fun x H1=>td σ H1 fun y H2=>∃ a ns dd,x=.ref a /\ y=.int dd /\ SqL K H2 a (ns.map V.int) /\ Q (.int (maxD dd ns)) H2
end
theorem lkc {k z:Str} {v:V} {r:List (Str×V)}:List.lookup k ((z,v)::r)=if k=z then some v else List.lookup k r:=by
 rw [yBV]
 by_cases h:k=z
 .subst h;simp
 .have:(k == z)=false:=by simpa using h
  rw [this,if_neg h]
theorem ZB7 {f:Str} {v u:V}:∀ {fs:List (Str×V)},fs.lookup f=some u->(putF f v fs).length=fs.length
 | [],h=>by cases h
 | (g,w)::r,h=>by
  unfold putF
  by_cases e:g=f
  .rw [if_pos e];rfl
  .rw [if_neg e,yAG,yAG]
   rw [lkc,if_neg (fun z=>e z.symm)] at h
   rw [ZB7 h]
structure Ins (H:Hp) (a C:Addr) (fl:List (Str×V)):Prop where
 ex:∃ dx fs,H a=some (.ins C dx fs) /\ fs.length <= 50 /\ ∀ f,fs.lookup f=fl.lookup f
theorem Ins.of {H:Hp} {a C dx:Addr} {fl:List (Str×V)} (h:H a=some (.ins C dx fl)) (hl:fl.length <= 50):Ins H a C fl:=⟨dx,fl,h,hl,fun _=>rfl⟩
theorem Ins.congr {H:Hp} {a C:Addr} {fl fl':List (Str×V)} (h:Ins H a C fl) (e:∀ f,fl.lookup f=fl'.lookup f):Ins H a C fl':=let ⟨dx,fs,h1,h2,h3⟩:=h.ex;⟨dx,fs,h1,h2,fun f=>(h3 f).trans (e f)⟩
theorem Ins.mono {H H':Hp} {a C:Addr} {fl:List (Str×V)} (h:Ins H a C fl) (s:Same H H'):Ins H' a C fl:=let ⟨dx,fs,h1,h2,h3⟩:=h.ex;⟨dx,fs,s _ _ h1,h2,h3⟩
theorem Ins.keep {H H':Hp} {a C:Addr} {fl:List (Str×V)} (h:Ins H a C fl) (s:H' a=H a):Ins H' a C fl:=let ⟨dx,fs,h1,h2,h3⟩:=h.ex;⟨dx,fs,s.trans h1,h2,h3⟩
theorem Ins.ne {H:Hp} {a b C:Addr} {fl:List (Str×V)} {o:HO} (h:Ins H a C fl) (B:H b=some o) (n:∀ C dx fs,o≠.ins C dx fs):b≠a:=fun z=>by
 obtain ⟨dx,fs,h1,_⟩:=h.ex
 rw [z,h1] at B
 exact n _ _ _ (Option.some.inj B).symm
theorem Ins.neN {H:Hp} {a b C:Addr} {fl:List (Str×V)} (h:Ins H a C fl) (B:H b=none):b≠a:=fun z=>by
 obtain ⟨dx,fs,h1,_⟩:=h.ex
 rw [z,h1] at B;cases B
section
variable {K:W.Frag} {f:Str} {a C:Addr} {fl:List (Str×V)} {v:V} {H:Hp}
theorem Ins.get {Q:VK} (h:Ins H a C fl) (cl:Cls K C) (n:NoAttr K C f) (l:fl.lookup f=some v) (q:Q v H):getF K f (.ref a) H Q:=by
 obtain ⟨dx,fs,h1,h2,h3⟩:=h.ex
 exact getF_of h1 cl n ((h3 f).trans l) q
theorem Ins.set {Q:Hp->Prop} (h:Ins H a C fl) (cl:Cls K C) (n:NoAttr K C f) (q:∀ H',Ins H' a C (putF f v fl)->(∀ b,b≠a->H' b=H b)->Q H') (hl:∃ u,fl.lookup f=some u):setF K f (.ref a) v H Q:=by
 obtain ⟨dx,fs,h1,h2,h3⟩:=h.ex
 obtain ⟨u,B⟩:=hl
 refine setF_of h1 cl n (by omega) (q _ ⟨dx,_,ZAF,?_,fun g=>?_⟩ fun b z=>ZAI z)
 .rw [ZB7 ((h3 f).trans B)];exact h2
 .rw [ZAa,ZAa,h3]
theorem Ins.meth {m:Str} {R:Prop} (h:Ins H a C fl) (l:fl.lookup m=none) (q:R):∃ b dx fs,V.ref a=.ref b /\ H b=some (.ins C dx fs) /\ fs.lookup m=none /\ R:=by
 obtain ⟨dx,fs,h1,h2,h3⟩:=h.ex
 exact ⟨a,dx,fs,rfl,h1,(h3 m).trans l,q⟩
end
noncomputable def augA (K:W.Frag) (tv:TE) (rd:V->V->Hp->VK->Prop) (f:Str) (D:Ends) (σ:St) (x:V) (H1:Hp):Prop:=∃ a C dx fs v,x=.ref a /\ H1 a=some (.ins C dx fs) /\ Cls K C /\ NoAttr K C f /\ fs.lookup f=some v /\
 tv σ H1 fun y H2=>rd v y H2 fun z H3=>∃ dx' fs',H3 a=some (.ins C dx' fs') /\ fs'.length < 1000 /\ D.nx σ (upd H3 a (.ins C dx' (putF f z fs')))
theorem sFldAug_eq {K:W.Frag} {ta tv:TE} {rd:V->V->Hp->VK->Prop} {f:Str} {D:Ends} {σ:St} {H:Hp}:sFldAug K ta tv rd f D σ H=ta σ H (fun x H1=>augA K tv rd f D σ x H1):=rfl
theorem Ins.aug {K:W.Frag} {f:Str} {a C:Addr} {fl:List (Str×V)} {i j:Int} {H:Hp} {D:Ends} {σ:St} (h:Ins H a C fl) (cl:Cls K C) (n:NoAttr K C f) (l:fl.lookup f=some (.int i))
  (q:∀ H',Ins H' a C (putF f (.int (i+j)) fl)->(∀ b,b≠a->H' b=H b)->D.nx σ H'):augA K (tC (.int j)) rAdd f D σ (.ref a) H:=by
 obtain ⟨dx,fs,h1,h2,h3⟩:=h.ex
 refine ⟨a,C,dx,fs,_,rfl,h1,cl,n,(h3 f).trans l,i,j,rfl,rfl,dx,fs,h1,by omega,q _ ⟨dx,_,ZAF,?_,fun g=>?_⟩ fun b z=>ZAI z⟩
 .rw [ZB7 ((h3 f).trans l)];exact h2
 .rw [ZAa,ZAa,h3]
theorem setX {K:W.Frag} {f:Str} {a C dx:Addr} {fs:List (Str×V)} {v:V} {H:Hp} {Q:Hp->Prop} (h:H a=some (.ins C dx fs)) (cl:Cls K C) (n:NoAttr K C f) (hl:fs.length <= 20) (q:∀ H',H' a=some (.ins C dx (putF f v fs))->(∀ b,b≠a->H' b=H b)->Q H'):setF K f (.ref a) v H Q :=
 setF_of h cl n (by omega) (q _ ZAF fun b z=>ZAI z)
theorem ZAX {f:Str} {v:V} {fs:List (Str×V)} {n:Nat} (h:fs.length <= n):(putF f v fs).length <= n+1:=yAK (ZCx f v fs) (Nat.succ_le_succ h)
theorem ZFb {f0:Str} {v0:V}:(putF f0 v0 []).length <= 20:=yAK (ZAX (yAB 0)) (by decide)
theorem ZFE {f0 f1:Str} {v0 z:V}:(putF f1 z (putF f0 v0 [])).length <= 20:=yAK (ZAX (ZAX (yAB 0))) (by decide)
theorem ZFD {f0 f1 B:Str} {v0 J z:V}:(putF B z (putF f1 J (putF f0 v0 []))).length <= 20:=yAK (ZAX (ZAX (ZAX (yAB 0)))) (by decide)
theorem ZFy {f0 f1 B L:Str} {v0 O z J:V}:(putF L J (putF B z (putF f1 O (putF f0 v0 [])))).length <= 20:=yAK (ZAX (ZAX (ZAX (ZAX (yAB 0))))) (by decide)
theorem ZGC {f0 f1 L U J:Str} {v0 Y z O B:V}:(putF J B (putF U O (putF L z (putF f1 Y (putF f0 v0 []))))).length <= 20:=yAK (ZAX (ZAX (ZAX (ZAX (ZAX (yAB 0)))))) (by decide)
theorem putL6 {f0 f1 L Y J O:Str} {v0 v1 z U B Z:V}:(putF O Z (putF J B (putF Y U (putF L z (putF f1 v1 (putF f0 v0 [])))))).length <= 20:=yAK (ZAX (ZAX (ZAX (ZAX (ZAX (ZAX (yAB 0))))))) (by decide)
theorem putL7 {f0 f1 O f3 L U Z:Str} {v0 v1 z Y B v5 J:V}:(putF Z J (putF U v5 (putF L B (putF f3 Y (putF O z (putF f1 v1 (putF f0 v0 []))))))).length <= 20:=yAK (ZAX (ZAX (ZAX (ZAX (ZAX (ZAX (ZAX (yAB 0)))))))) (by decide)
theorem putL8 {f0 f1 O f3 L U f6 Y:Str} {v0 v1 z Z B v5 J v7:V}:(putF Y v7 (putF f6 J (putF U v5 (putF L B (putF f3 Z (putF O z (putF f1 v1 (putF f0 v0 [])))))))).length <= 20:=yAK (ZAX (ZAX (ZAX (ZAX (ZAX (ZAX (ZAX (ZAX (yAB 0))))))))) (by decide)
theorem ZGG (p q:Int):(if q > p then q else p)=max p q:=by split <;> omega
theorem ZEX (p q:Int):(if q < p then q else p)=min p q:=by split <;> omega
section
variable {X:Cx}
end
theorem ZBi {us ds:List Value} {ps:List Str} {n:Nat} (h:(us++ds).length=ps.length) (e:n+ds.length=ps.length):us.length=n:=by
 rw [yAE] at h;omega
noncomputable def Fr (S:List Addr) (H H':Hp):Prop:=∀ b o,b∉S->H b=some o->H' b=some o
theorem Fr.refl {S:List Addr} {H:Hp}:Fr S H H:=fun _ _ _ h=>h
theorem Fr.trans {S:List Addr} {H H' H'':Hp} (e:Fr S H H') (f:Fr S H' H''):Fr S H H'':=fun b o n h=>f b o n (e b o n h)
theorem Same.fr {S:List Addr} {H H':Hp} (e:Same H H'):Fr S H H':=fun b o _ h=>e b o h
theorem Fr.upd {S:List Addr} {H:Hp} {l:Addr} {o:HO} (h:l∈S):Fr S H (upd H l o):=fun b o' n e=>by
 have z:b≠l:=fun z=>n (by rw [z];exact h)
 rw [ZAI z];exact e
end L2
namespace PySem
namespace F
theorem nolen_lri:typeLookup (.type "list_reverseiterator") "__len__"=pure none:=by rw [typeLookup_type,builtinLookup_eq_fast];kernel_rfl
theorem hint_lri:typeLookup (.type "list_reverseiterator") "__length_hint__"=pure (some (.builtin "list_reverseiterator.__length_hint__")):=by rw [typeLookup_type,builtinLookup_eq_fast];kernel_rfl
end F
section
variable {prog:Program} {w:World} {A:Around} {s:Shared} {R:Result->Shared->Prop}
variable {I:Addr} {fp wr:List Addr} {G:Array GenState->Array GenState->Prop} {n:Nat} {P:Nat->Value->Prop} {St:Nat->Shared->Prop}
theorem wpAny_extend_rev (W:WalksS prog w A.in1 I fp wr G n P St) (U:∀ i s,St i s->s.TypeIs (.ref I) "list_reverseiterator") (S:Addr) (res:Value) (O:Nat) (B:St 0 s) (J:S∉fp) (hI:I∈fp)
  (hS:s.heap.get? S=some { cls:=.type "list",data:=.seq #[] O })
  (hR:∀ s' z c',Moved (S::wr) G s s'->s'.heap.get? S=some { cls:=.type "list",dict:=none,data:=.seq z c',slots:=#[] }->ItemsOf P z n->R (.ok (.ret res)) s') (hn:n <= sizeLine) :
  wpAny (model prog w) A.in1 (Builtin.List.listExtendWith (.ref S) (.ref I) res)
   (fun fin s'=>match fin with | .done f=>R (.ok f) s' | .again c'=>c'.quiet=true /\ codeAny (model prog w) A c' R s') (fun e s'=>R (.error e) s') s:=by
 have Y:S≠I:=fun e=>J (e ▸ hI)
 unfold Builtin.List.listExtendWith
 refine wpAny_bind (wpAny_typeOf (U 0 _ B) ?_)
 have h1:Builtin.List.listSameRef (.ref S) (.ref I)=false:=by simp [Builtin.List.listSameRef,Y]
 rw [if_neg (by rw [h1];decide)]
 refine wpAny_bind (W.self 0 _ _ _ B ?_)
 refine wpAny_bind (wpAny_holding ?_)
 unfold Builtin.List.listLengthHint
 refine wpAny_bind (wpAny_specialOf (U 0 _ B) F.nolen_lri ?_)
 show wpAny _ A.in1 (specialOf (Value.ref I) (Str.ofString "__length_hint__") >>= _) _ _ _
 refine wpAny_bind (wpAny_specialOf (U 0 _ B) F.hint_lri ?_)
 (generalize hid:("list_reverseiterator.__length_hint__":String)=id0;(fail_if_success (clear hid id0));wp_delta;rw [show splitId id0=some ("list_reverseiterator","__length_hint__") from by subst hid;decide +kernel];subst hid)
 refine wpAny_bind (wpAny_isInstance (b:=true) (U 0 _ B) (by rw [isSubtype_type];kernel_rfl) ?_)
 refine wpAny_pure ?_
 rw [if_neg (by decide)]
 refine wpAny_pure ⟨plainId_quiet F.plain_extend_loop _,codeAny_extend_loopS W hn _ J _ n 0 _ _ _ rfl (yAJ _) B hS (ItemsOf.nil P) fun s' z c' hm Z L=>?_⟩
 exact hR s' z c' hm Z L
theorem wpAny_list_init_rev (W:WalksS prog w A.in1 I fp wr G n P St) (hT:∀ i s,St i s->s.TypeIs (.ref I) "list_reverseiterator") (S:Addr) (Y:St 0 s) (L:S∉fp) (hI:I∈fp)
  (Z:s.heap.get? S=some { cls:=.type "list",data:=.seq #[] })
  (hR:∀ s' z c',Moved (S::wr) G s s'->s'.heap.get? S=some { cls:=.type "list",dict:=none,data:=.seq z c',slots:=#[] }->ItemsOf P z n->R (.ok (.ret .none)) s') (hn:n <= sizeLine) :
  wpAny (model prog w) A.in1 (Builtin.«list.__init__» ⟨[.ref S,.ref I],[]⟩)
   (fun fin s'=>match fin with | .done f=>R (.ok f) s' | .again c'=>c'.quiet=true /\ codeAny (model prog w) A c' R s') (fun e s'=>R (.error e) s') s:=by
 show wpAny _ A.in1 (do let old <- Builtin.List.listItems (.ref S);Builtin.List.listUpdate (.ref S) (fun _=>#[]);letGo old.toList.reverse;Builtin.List.listExtendWith (.ref S) (.ref I) .none) _ _ s
 refine wpAny_bind ?_
 unfold Builtin.List.listItems
 refine wpAny_bind (wpAny_seqItems Z rfl (wpAny_pure ?_))
 show wpAny _ A.in1 (updateSeq S (fun _=>#[]) >>= fun _=>letGo (#[]:Array Value).toList.reverse >>= fun _=>Builtin.List.listExtendWith (.ref S) (.ref I) .none) _ _ s
 refine wpAny_bind (wpAny_updateSeq Z rfl ?_)
 have B:=Heap.get?_update_self (Obj.mapSeq (fun _=>(#[]:Array Value))) Z rfl
 have U:∀ b o,b≠S->s.heap.get? b=some o->(s.heap.update S (Obj.mapSeq (fun _=>(#[]:Array Value)))).get? b=some o :=
  fun b o J e=>(Heap.get?_update_other _ _ (Ne.symm J)).trans e
 refine wpAny_bind (wpAny_letGo ?_)
 refine wpAny_extend_rev (hn:=hn) W hT S .none _ (W.frame 0 s _ s.toks Y (yAB _) fun b J o e=>U b o (fun h=>L (h ▸ J)) e) L hI B fun s' z c' hm a0 O=>?_
 exact hR s' z c' (Moved.trans W.gtrans ((Moved.refl W.grefl).then_heap (yAB _) fun b o J e=>U b o (fun h=>J (h ▸ yAC)) e) hm) a0 O
end
section
variable {prog:Program} {w:World} {A:Around} {E:Value->Shared->Prop} {s:Shared}
variable {I:Addr} {fp wr:List Addr} {G:Array GenState->Array GenState->Prop} {n:Nat} {P:Nat->Value->Prop} {St:Nat->Shared->Prop}
theorem call_list_revW {Q:Value->Shared->Prop} (W:WalksS prog w A.in1.in1 I fp wr G n P St) (hT:∀ i s,St i s->s.TypeIs (.ref I) "list_reverseiterator") (O:St 0 s) (U:∀ b∈fp,b < s.heap.objs.size) (hI:I∈fp)
  (hQ:∀ s' z c',Moved (s.heap.objs.size::wr) G { s with heap:=s.heap.push { cls:=.type "list",data:=.seq #[] } } s' ->
   s'.heap.get? s.heap.objs.size=some { cls:=.type "list",dict:=none,data:=.seq z c',slots:=#[] }->ItemsOf P z n->Q (.ref s.heap.objs.size) s') (hn:n <= sizeLine) :
  wpAny (model prog w) A (call (.type "list") [.ref I]) Q E s:=by
 have L:s.heap.objs.size∉fp:=fun hm=>yBI _ (U _ hm)
 refine callType_codes (Q₁:=fun obj s₁=>obj=.ref s.heap.objs.size /\ s₁={ s with heap:=s.heap.push { cls:=.type "list",data:=.seq #[] } }) F.called_list (F.typeCall_list_1 _) F.entry_list_init
  (code_list_new _ ⟨rfl,rfl⟩) fun obj s₁ J=>?_
 obtain ⟨rfl,rfl⟩:=J
 have Z:(s.heap.push { cls:=.type "list",data:=.seq #[] }).get? s.heap.objs.size=some { cls:=.type "list",data:=.seq #[] }:=Heap.get?_push_size _ rfl
 refine ⟨⟨_,Z,rfl⟩,F.args_list_init_2 _ _,wpAny_list_init_rev (hn:=hn) W hT _ (W.frame 0 s _ s.toks O (yAB _) fun b _ o e=>Heap.get?_push_of_some _ e) L hI Z fun s' z c' hm Y B=>?_⟩
 exact ⟨rfl,hQ s' z c' hm Y B⟩
end
end PySem
namespace L2
open PySem PySem.Spec PyProof.Rows
noncomputable def ZF3 (K:W.Frag) (t:TA):TE:=fun σ H Q=>t σ H fun vs H1=>∃ (l:Addr) (ys:List V),vs=[.ref l] /\ SqL K H1 l ys /\ ∀ r,H1 r=none->Q (.ref r) (upd H1 r (.lst ys.reverse))
section
variable {X:Cx} {e:Expr} {ta:TA} {p p2 pos pos2:Pos}
theorem pe_list_rev (hc:X.calm=true) (hg:Gl X "list") (hm:X.mg "list"=none) (a3:Gl X "reversed") (a6:X.mg "reversed"=none) (ha:PA X [e] ta)
  (he:starEach [.Call (.Name "reversed" p2) [e] [] pos2] X.env=(false,eval (.Call (.Name "reversed" p2) [e] [] pos2) X.env)::starEach [] X.env:=by rfl) (a1:(backTo pos (starEach [] X.env)).any (·.1)=false:=by rfl)
  (a0:starEach [e] X.env=(false,eval e X.env)::starEach [] X.env:=by rfl) (U:(backTo pos2 (starEach [] X.env)).any (·.1)=false:=by rfl) :
  PE X (.Call (.Name "list" p) [.Call (.Name "reversed" p2) [e] [] pos2] [] pos) (ZF3 X.K ta):=by
 intro pins s σ H Q I h
 refine wpAny_Call_Name_kw (ZCZ I hg hm PyProof.Rows.boot_list ?_ (by decide) (by decide))
 refine PyProof.Rows.callWith_type1 ?_ he a1
 rw [he]
 show wpAny _ _ (spliced ((false,eval (.Call (.Name "reversed" p2) [e] [] pos2) X.env)::backTo pos (starEach [] X.env))) _ _ s
 refine Calls.spliced_cons ?_
 refine wpAny_Call_Name_kw (ZCZ I a3 a6 PyProof.Rows.boot_reversed ?_ (by decide) (by decide))
 refine PyProof.Rows.callWith_type1 (thn (ha pos2 pins s σ H _ I h) fun us s1 zz=>?_) a0 U
 obtain ⟨vs,H1,Z,r1,q1⟩:=zz
 obtain ⟨l,ys,rfl,hl,q⟩:=q1
 obtain ⟨u,rfl,rx⟩:=ZDu r1
 cases rx
 obtain ⟨its,r',pl,hz⟩:=Z.list hl
 have a4:l < s1.heap.objs.size:=by obtain ⟨o,ho,_⟩:=pl.isList;exact Heap.lt_size ho
 refine call_reversed_list pl.isList ?_
 refine Calls.spliced_nil ?_
 have hh:X.A.handled=none:=Z.ok.hd hc
 have a2:l≠s1.heap.objs.size:=yAN a4
 have W:=(Walks.listRev (prog:=X.prog) (w:=X.w) (A:=X.A.in1.in1) hh s1.heap.objs.size l a2 its.toArray).toS
 have hsz:its.toArray.size=its.length:=yAP ..
 have a7:=r'.length
 refine call_list_revW W (fun i s st=>st.2.1.typeIs) ⟨yAJ _,⟨_,Heap.get?_push_size _ rfl,rfl,by simp [revObj]⟩,pl.isList.at fun o e=>Heap.get?_push_of_some _ e⟩ (fun b Y=>?_) yAC (fun s' B c' hm a5 L=>?_) (by rw [hsz];omega)
 .rcases yAF.mp Y with z | z
  .rw [z];exact Heap.lt_size (Heap.get?_push_size _ rfl)
  .rw [yAH.mp z]
   obtain ⟨o,ho,_⟩:=pl.isList
   exact Heap.lt_size (Heap.get?_push_of_some _ ho)
 .rw [Moved.eq_with hm]
  have O:s1.heap.objs.size <= (s1.heap.push (revObj l ((its.toArray.size:Int)-1))).objs.size:=yCC (Heap.lt_size (Heap.get?_push_size _ rfl))
  have e:B.toList=its.reverse:=by
   refine List.ext_getElem? fun j=>?_
   have sz:B.toList.length=its.length:=by rw [yCL,L.1,hsz]
   by_cases hj:j < its.length
   .have h1:B.toList[j]?=some (B.toList[j]'(by omega)):=yAI (by omega)
    have h2:=L.2 j _ (by rw [<- Array.getElem?_toList];exact h1)
    rw [h1,<- h2,List.getElem?_reverse hj,hsz]
    simp
   .rw [yBL (by omega),yBL (by rw [yCE];omega)]
  refine ⟨.ref _,_,Z.laid (h':=s'.heap) (t':=s'.toks) (o:=.lst ys.reverse) (a:=(s1.heap.push (revObj l ((its.toArray.size:Int)-1))).objs.size) (fun b u Y=>hm.heap b u (fun z=>?_) (Heap.get?_push_of_some _ (Heap.get?_push_of_some _ Y))) O ⟨by rw [yCE];exact hz,B.toList,c',by rw [e];exact r'.reverse,by simpa using a5⟩,rfl,q _ (Z.hok.fresh O)⟩
  have J:=Heap.lt_size Y
  rcases yAF.mp z with z | z
  .rw [z] at J;exact absurd J (Nat.not_lt.mpr O)
  .rw [yAH.mp z] at J;exact yBI _ J
end
theorem eqD_refl {K:W.Frag} {H:Hp} {x y:V} {d:PyData} {Q:VK} (J:Dp K H d x) (z:Dp K H d y) (hc:d.canLay0=true) (B:d.depth <= 64) (q:Q (.bl true) H):rEqD K x y H Q :=
 ⟨d,d,J,z,hc,hc,B,by rw [PySem.SeqAt.eqv_refl d hc];exact q⟩
theorem neD_refl {K:W.Frag} {H:Hp} {x y:V} {d:PyData} {Q:VK} (J:Dp K H d x) (z:Dp K H d y) (hc:d.canLay0=true) (B:d.depth <= 64) (q:Q (.bl false) H):rNeD K x y H Q :=
 ⟨d,d,J,z,hc,hc,B,by rw [PySem.SeqAt.eqv_refl d hc];exact q⟩
noncomputable def compR2 (g:TG) (tt:TT) (te:TE) (σ0:St) (Q:VK) (x y:V) (H1:Hp):Prop:=∃ i j:Int,[x,y]=[.int i,.int j] /\ (-(2 ^ 62) <= i /\ i < 2 ^ 62 /\ -(2 ^ 62) <= j /\ j < 2 ^ 62) /\ compR i g tt te σ0 Q (j-i).toNat H1
theorem tCompR2_eq {k:Nat} {js:List Nat} {t u:TE} {g:TG} {tt:TT} {te:TE} {σ:St} {H:Hp} {Q:VK}:ZEO k js (ZGH (ZCG t (ZCG u tNil))) g tt te σ H Q=t σ H (fun x H1=>u σ H1 fun y H2=>compR2 g tt te (up k js σ) Q x y H2):=rfl
section
variable {X:Cx}
theorem call_sumB (hc:X.calm=true):ZC1 X (.builtin "sum") (fun xs H Q=>∃ (p:Addr) (ns:List Int),xs=[.ref p] /\ SqL X.K H p (ns.map V.int) /\ Q (.int ns.sum) H):=by
 intro pins s σ H xs us Q I r h
 obtain ⟨p,ns,rfl,hq,q⟩:=h
 obtain ⟨u,rfl,rx⟩:=ZDu r
 cases rx
 obtain ⟨its,r',pl,hz⟩:=I.list hq
 have B:=r'.length
 rw [yAA] at B
 have hh:X.A.handled=none:=I.ok.hd hc
 have hl:=pl.isList
 have J:p < s.heap.objs.size:=by obtain ⟨_,e,_⟩:=hl;exact Heap.lt_size e
 refine call_sum_walkG (wpAny_pyIter_list hl ⟨s.heap.objs.size,_,_,_,_,_,fun i=>ns.getD i 0,rfl,Walks.list (A:=X.A.in1) hh s.heap.objs.size p (yAN J) its.toArray,⟨⟨_,Heap.get?_push_size _ rfl,rfl,rfl⟩,hl.push _⟩,fun b O=>?_,fun i v Z=>?_,fun h' tk t' hk=>?_⟩)
 .have U:b=s.heap.objs.size∨b=p:=by simpa using O
  show b < (s.heap.push _).objs.size
  rw [Heap.size_push]
  rcases U with rfl | rfl
  .exact yBQ _
  .exact Nat.lt_succ_of_lt J
 .have L:its[i]?=some v:=by simpa using Z
  have hi:i < its.length:=(yAR.mp L).1
  obtain ⟨b,O⟩:∃ b,ns[i]?=some b:=⟨_,yAI (by omega)⟩
  obtain ⟨u,Y,ru⟩:=r'.get (i:=i) (x:=.int b) (by rw [yAM,O];rfl)
  rw [L] at Y
  cases Y
  obtain ⟨t,rfl⟩:=ru
  refine ⟨t,?_⟩
  show _=Value.int (ns.getD i 0) t
  rw [yBH,O]
  rfl
 .refine ⟨.int ns.sum,H,I.kept (t':=tk) (fun b o e=>hk b o ?_ (Heap.get?_push_of_some _ e)),⟨t',?_⟩,q⟩
  .intro z
   have:b=s.heap.objs.size:=by simpa using z
   exact absurd (Heap.lt_size e) (by rw [this];exact yBI _)
  .have:its.toArray.size=ns.length:=by simp [B]
   rw [this,ZDA ns ns.length (yAB _),List.take_length]
end
noncomputable def Itz (K:W.Frag) (a b:Addr):It :=
 ⟨fun i H=>∃ xs x ys y,SqL K H a xs /\ xs[i]?=some x /\ SqL K H b ys /\ ys[i]?=some y,fun i H v H'=>∃ p x y,H p=none /\ (∀ xs,SqL K H a xs->xs[i]?=some x) /\ (∀ ys,SqL K H b ys->ys[i]?=some y) /\ H'=upd H p (.tup [x,y]) /\ v=.ref p,fun i H=>∃ xs ys,SqL K H a xs /\ SqL K H b ys /\ (xs.length <= i∨ys.length <= i)⟩
theorem turn_zip {P:Program} {w:World} {K:W.Frag} {a9:List Expr} {x1} {tpos:Pos} (a b z TI TO i1 i2:Addr) (D:ZipApart z TI TO i1 i2 a b):Turn P w K (.Tuple a9 x1 tpos) (Itz K a b) [z,TI,TO,i1,i2] z (fun i h=>IsZip h z TI TO .none /\ IsPair h TI (.ref i1) (.ref i2) /\ (∃ u v,IsPair h TO u v) /\ h.IsListIter i1 a i /\ h.IsListIter i2 b i) where
 mem:=by simp
 obj:=fun i h st c hc=>by
  obtain ⟨L,B,⟨u,v,J⟩,⟨o1,e1,c1,d1⟩,⟨o2,e2,c2,d2⟩⟩:=st
  have a0:c=z∨c=TI∨c=TO∨c=i1∨c=i2:=by simpa using hc
  rcases a0 with rfl | rfl | rfl | rfl | rfl
  .exact ⟨_,L,fun v z=>by cases z⟩
  .exact ⟨_,B,fun v z=>by cases z⟩
  .exact ⟨_,J,fun v z=>by cases z⟩
  .exact ⟨o1,e1,fun v z=>by rw [d1] at z;cases z⟩
  .exact ⟨o2,e2,fun v z=>by rw [d2] at z;cases z⟩
 keep:=fun i h h' st k=>by
  obtain ⟨L,B,⟨u,v,J⟩,h1,h2⟩:=st
  exact ⟨k z (by simp) _ L,k TI (by simp) _ B,⟨u,v,k TO (by simp) _ J⟩,h1.at fun o q=>k i1 (by simp) o q,h2.at fun o q=>k i2 (by simp) o q⟩
 item:=by
  intro X hP hw hK hc i pins s σ H E I hf st hg
  subst hP hw hK
  obtain ⟨xs,x,ys,y,hq,U,Y,hy⟩:=hg
  obtain ⟨its,rv,p,ac⟩:=I.list hq
  obtain ⟨u,hu,ru⟩:=rv.get U
  obtain ⟨its',a7,p',aa⟩:=I.list Y
  obtain ⟨u',ae,ad⟩:=a7.get hy
  obtain ⟨L,B,⟨ua,ub,J⟩,h1,h2⟩:=st
  refine wpAny_pyNext_zip_item D L B J h1 h2 p.isList p'.isList (x:=u) (y:=u') (by simpa using hu) (by simpa using ae) fun hp a1 a2 a3 a4 a5 a6 hk=>⟨_,rfl,?_⟩
  refine wpAny_letOwnedTupleGo_zip a1 fun hp2 b1 Z=>?_
  replace Z:Heap.SameBut z hp hp2:=Z
  have a8:z < s.heap.objs.size:=Heap.lt_size L
  have af:hp2.get? s.heap.objs.size=some { cls:=.type "tuple",data:=.seq #[u,u'] }:=(Z.2 _ (Nat.ne_of_gt a8)).trans a5
  have ab:H s.heap.objs.size=none:=I.hok.fresh (yAB _)
  have O:∀ c o,c≠z->hp.get? c=some o->hp2.get? c=some o:=fun c o n q=>(Z.2 c n).trans q
  refine ⟨.ref s.heap.objs.size,upd H s.heap.objs.size (.tup [x,y]),I.turn2 (ch:=[z,TI,TO,i1,i2]) (t':=s.toks) hf (fun c ob hc q=>?_) (yAB _) ?_,rfl,⟨_,x,y,ab,fun zs L=>by rw [I.list_inj L hq];exact U,fun zs L=>by rw [I.list_inj L Y];exact hy,rfl,rfl⟩,⟨b1,O _ _ D.TIz (hk _ _ D.TIz D.TITO D.TIi1 D.TIi2 B),⟨_,_,O _ _ D.TOz a2⟩,a3.at fun o q=>O _ _ D.i1z q,a4.at fun o q=>O _ _ D.i2z q⟩,fun c hc=>?_⟩
  .have n1:c≠z:=fun e=>hc (by simp [e])
   have n2:c≠TO:=fun e=>hc (by simp [e])
   have n3:c≠i1:=fun e=>hc (by simp [e])
   have n4:c≠i2:=fun e=>hc (by simp [e])
   exact O _ _ n1 (hk c ob n1 n2 n3 n4 q)
  .exact ⟨ZAU (show 2 <= 1000 by decide),[u,u'],.cons ru (.cons ad .nil),_,af,rfl,0,rfl⟩
  .have hn:=(hf c hc).1
   have a0:c=z∨c=TI∨c=TO∨c=i1∨c=i2:=by simpa using hc
   obtain ⟨o1,g1,_⟩:=h1
   obtain ⟨o2,g2,_⟩:=h2
   have ag:c < s.heap.objs.size:=by
    rcases a0 with rfl | rfl | rfl | rfl | rfl
    .exact a8
    .exact Heap.lt_size B
    .exact Heap.lt_size J
    .exact Heap.lt_size g1
    .exact Heap.lt_size g2
   rw [ZAI (yAN ag)];exact hn
 done:=by
  intro X hP hw hK hc i pins s σ H E I hf st hg
  subst hP hw hK
  obtain ⟨xs,ys,hq,Y,U⟩:=hg
  obtain ⟨its,rv,p,ac⟩:=I.list hq
  obtain ⟨its',a7,p',aa⟩:=I.list Y
  obtain ⟨L,B,⟨ua,ub,J⟩,h1,h2⟩:=st
  have hl:=rv.length
  have ah:=a7.length
  refine wpAny_pyNext_zip_end (I.ok.hd hc) D L B J h1 h2 p.isList p'.isList (U.imp (fun z=>by rw [List.getElem?_toArray];exact yBL (by omega)) (fun z=>by rw [List.getElem?_toArray];exact yBL (by omega))) fun h' eb=>⟨rfl,?_⟩
  have tr:∀ c u,H c=some u->c∉[z,TI,TO,i1,i2]:=fun c u e q=>by rw [(hf c q).1] at e;cases e
  have k:∀ c ob,c∉[z,TI,TO,i1,i2]->s.heap.get? c=some ob->h'.get? c=some ob:=fun c ob n q=>eb c ob (fun e=>n (by simp [e])) (fun e=>n (by simp [e])) (fun e=>n (by simp [e])) (fun e=>n (by simp [e])) q
  refine I.call (g':=s.gens) (t':=s.toks) (d':=s.drawn) (ch:=[z,TI,TO,i1,i2]) ⟨fun b ob e n _ U=>k b ob U e,fun b ob e n _ U=>⟨ob.slots,k b ob U e⟩,fun b ob e n _=>n,fun b ob e U=>⟨ob,k b ob U e⟩,fun b xs e=>e,fun b ob u e=>e,fun b qs e=>⟨#[],by rw [e];simp⟩⟩ (fun b u e=>?_) I.bare fun b hb=>?_
  .refine (I.hok b u e).stay (fun c v hc q=>k c v ?_ q) (fun c q=>q) fun c xs q=>q
   rcases hc with z | z
   .rw [z];exact tr b u e
   .exact tr c _ z
  .obtain ⟨a1,a2,a3,a4,a5,a6⟩:=hf b hb
   exact ⟨a4,a2,a5,a6⟩
 self:=fun _ _ _ _ _ st h=>wpAny_pyIter_zip st.1 h
section
variable {X:Cx}
noncomputable def iZip (K:W.Frag) (ta:TA):TI:=fun σ H R=>ta σ H fun vs H1=>∃ a b,vs=[.ref a,.ref b] /\ (∃ xs,SqL K H1 a xs) /\ (∃ xs,SqL K H1 b xs) /\ R (Itz K a b) H1
theorem zneN {a b:Nat} (h:a≠b):(a:Addr)≠b:=h
theorem pi_zip {U:List Expr} {x1} {tpos:Pos} {l m:Expr} {ta:TA} {p pos:Pos} (hg:Gl X "zip") (hm:X.mg "zip"=none) (ha:PA X [l,m] ta)
  (he:starEach [l,m] X.env=(false,eval l X.env)::starEach [m] X.env:=by rfl) (a1:(backTo pos (starEach [m] X.env)).any (·.1)=false:=by rfl) :
  PI X (.Tuple U x1 tpos) (.Call (.Name "zip" p) [l,m] [] pos) (iZip X.K ta):=by
 intro pins s σ H R I h
 refine Call_ (ZCZ I hg hm PyProof.Rows.boot_zip (PyProof.Rows.callWith_type1 (thn (ha pos pins s σ H _ I h) fun us s1 zz=>?_) he a1))
 obtain ⟨vs,H1,J,r1,q1⟩:=zz
 obtain ⟨a,b,e,⟨xs,hq⟩,⟨ys,a0⟩,q⟩:=q1
 subst e
 obtain ⟨u,u',rfl,ru,a2⟩:=ZFA r1
 cases ru
 cases a2
 obtain ⟨its,rv,pl,hz⟩:=J.list hq
 obtain ⟨its',a3,B,a4⟩:=J.list a0
 have O:a < s1.heap.objs.size:=by obtain ⟨o,Z,_⟩:=pl.isList;exact Heap.lt_size Z
 have L:b < s1.heap.objs.size:=by obtain ⟨o,Z,_⟩:=B.isList;exact Heap.lt_size Z
 have D:ZipApart (s1.heap.objs.size+4) (s1.heap.objs.size+2) (s1.heap.objs.size+3) s1.heap.objs.size (s1.heap.objs.size+1) a b:=by
  generalize s1.heap.objs.size=n at O L ⊢
  have h1:LT.lt (α:=Nat) a n:=O
  have h2:LT.lt (α:=Nat) b n:=L
  constructor <;> (refine zneN ?_;omega)
 refine call_zip_2 pl.isList B.isList fun h' z1 z2 z3 z4 z5 z6 hk=>wpAny_pyIter_zip z1 ?_
 have I2:Inv X pins σ H1 { s1 with heap:=h' }:=J.kept (t':=s1.toks) hk
 refine ⟨s1.heap.objs.size+4,_,_,Itz X.K a b,H1,rfl,I2,turn_zip a b _ _ _ _ _ D,⟨z1,z2,⟨_,_,z3⟩,z4,z5⟩,fun c hc=>?_,q⟩
 have Y:c=s1.heap.objs.size+4∨c=s1.heap.objs.size+2∨c=s1.heap.objs.size+3∨c=s1.heap.objs.size∨c=s1.heap.objs.size+1:=by simpa using hc
 have z:s1.heap.objs.size <= c:=by
  rcases Y with rfl | rfl | rfl | rfl | rfl
  .exact yCM _ _
  .exact yCM _ _
  .exact yCM _ _
  .exact yAB _
  .exact yCM _ _
 exact J.fpOk z (J.hok.fresh z)
end
section
variable {K:W.Frag} {a b:Addr} {xs ys:List V} {g:TG} {tb:TS} {D:Ends} {σ:St} {H:Hp}
noncomputable def forZ (K:W.Frag) (g:TG) (tb:TS) (D:Ends) (σ:St) (x y:V) (H1:Hp):Prop:=∃ a b,[x,y]=[.ref a,.ref b] /\ (∃ xs,SqL K H1 a xs) /\ (∃ xs,SqL K H1 b xs) /\ ∃ W:Nat->Nat->St->Hp->Prop,(∃ m,W 0 m σ H1) /\ ∀ i m σ H,W i m σ H ->
 ((Itz K a b).stop i H /\ D.nx σ H)∨((Itz K a b).go i H /\ ∃ N:St->Hp->Prop,(∀ σ' H',N σ' H'->∃ m',m' < m /\ W (i+1) m' σ' H') /\ ∀ x H',(Itz K a b).yld i H x H'->g x σ H' fun σ2 H2=>tb { D with nx:=N,ct:=N,bk:=D.nx } σ2 H2)
theorem tForZ_eq {t u:TE}:tFor (iZip K (ZCG t (ZCG u tNil))) g tb D σ H=t σ H (fun x H1=>u σ H1 fun y H2=>forZ K g tb D σ x y H2):=rfl
theorem forZ_of (h:SqL K H a xs) (h':SqL K H b ys) (z:Nat->St->Hp->Prop) (h0:z 0 σ H) (hl:∀ i σ H,i <= min xs.length ys.length->z i σ H->SqL K H a xs /\ SqL K H b ys)
  (J:∀ (i:Nat) x y σ H p,xs[i]?=some x->ys[i]?=some y->z i σ H->H p=none->g (.ref p) σ (upd H p (.tup [x,y])) fun B H2=>tb { D with nx:=z (i+1),ct:=z (i+1),bk:=D.nx } B H2) (hd:∀ σ H,z (min xs.length ys.length) σ H->D.nx σ H):forZ K g tb D σ (.ref a) (.ref b) H:=by
 refine ⟨a,b,rfl,⟨xs,h⟩,⟨ys,h'⟩,fun i m σ H=>m=min xs.length ys.length-i /\ i <= min xs.length ys.length /\ z i σ H,⟨min xs.length ys.length,by simp,yAJ _,h0⟩,?_⟩
 rintro i m σ H ⟨rfl,hi,p⟩
 obtain ⟨q,q'⟩:=hl i σ H hi p
 by_cases hlt:i < min xs.length ys.length
 .refine .inr ⟨⟨xs,xs[i],ys,ys[i],q,yAI (by omega),q',yAI (by omega)⟩,z (i+1),fun O H' Z=>⟨min xs.length ys.length-(i+1),by omega,rfl,hlt,Z⟩,fun x H' y=>?_⟩
  obtain ⟨pp,x',U,hn,L,Y,rfl,rfl⟩:=y
  exact J i x' U σ _ pp (L xs q) (Y ys q') p hn
 .have e:i=min xs.length ys.length:=by omega
  subst e
  exact .inl ⟨⟨xs,ys,q,q',by omega⟩,hd σ H p⟩
end
theorem rcGe_int (A:Around) (s:Shared) (a:Int) (t:Tok) (c:Int) (u:Tok) (prog:Program) (w:World) (E:Value->Shared->Prop) (Q:Value->Shared->Prop) (h:Q (.bool (decide (c <= a))) s) :
  wpAny (model prog w) A (richCompare .GtE (.int a t) (.int c u)) Q E s :=
 (PyProof.Rows.ge_int h:wpAny (model prog w) A (compareOp .GtE (.int a t) (.int c u)) Q E s)
section
open PySem.SeqAt
open PySem.AutoSeq1 (wpAny_loadPart')
open PySem.MeetsSeq PySem.MeetsSeq2 PySem.MeetsSeq3 HT
theorem tuple_ge_ints (l b:Addr) (J B:Array Value) (n n2:Nat) (dd a4:Option Addr) (sl a3:Array (Option Value)) (ns ms:List Int) (hi:IntsAre J.toList ns) (hj:IntsAre B.toList ms) :
  Meets (Builtin.«tuple.__ge__» ⟨[.ref l,.ref b],[]⟩)
   (fun _ R s=>s.heap.get? l=some { cls:=.type "tuple",dict:=dd,data:=.seq J n,slots:=sl } /\ s.heap.get? b=some { cls:=.type "tuple",dict:=a4,data:=.seq B n2,slots:=a3 } /\
    R (.ok (.ret (.bool (!lexLt ns ms)))) s) :=
 .of_wp fun prog w A R s h=>by
  obtain ⟨hp,g,d,tk,os⟩:=s;obtain ⟨hl,hb,h⟩:=h
  have f2:=AutoSeq1.sub_tuple_tuple
  have z1:J.size=ns.length:=by rw [<- hi.length];simp
  have z2:B.size=ms.length:=by rw [<- hj.length];simp
  wp_walk using wpAny_loadPart' hl,wpAny_loadPart' hb,wpAny_forIn_list _ (fun rest b s'=>b.1=none /\ s'=⟨hp,g,d,tk,os⟩ /\ ∃ (vs ws:List Value) (U O:List Int),rest=vs.zip ws /\
   IntsAre vs U /\ IntsAre ws O /\ U.length+B.size=O.length+J.size /\ R (.ok (.ret (.bool (!lexLt U O)))) ⟨hp,g,d,tk,os⟩) _
  case turn=>
   rintro ⟨y,x⟩ rest b s' ⟨a2,rfl,vs,ws,U,O,hz,a1,Z,L,Y⟩
   cases a1 with
   | nil=>rw [List.zip_nil_left] at hz;cases hz
   | cons a t hvi'=>
    cases Z with
    | nil=>rw [List.zip_nil_right] at hz;cases hz
    | cons c u hwi'=>
     rw [List.zip_cons_cons] at hz
     injection hz with hyx hrest
     injection hyx with hy hx
     subst hy hx
     rw [lexLt_cons] at Y
     simp only [yAG] at L
     obtain ⟨e,he,a0⟩:=eqAt_int A.in1 ⟨hp,g,d,tk,os⟩ a t c u
     refine wpAny_bind (he prog w _ _ ?_)
     cases e with
     | true=>
      rw [if_pos (a0.mp rfl)] at Y
      wp_walk
      exact ⟨rfl,rfl,_,_,_,_,hrest,hvi',hwi',by omega,Y⟩
     | false=>
      rw [if_neg (fun q=>absurd (a0.mpr q) yBB)] at Y
      rw [show (!decide (a < c))=decide (c <= a) by by_cases z:a < c <;> simp [z] <;> omega] at Y
      have a5:=rcGe_int A.in1 ⟨hp,g,d,tk,os⟩ a t c u prog w
      wp_walk using a5
      exact ⟨_,rfl,by simpa using Y⟩
  case fin=>
   rintro ⟨b1,b2⟩ s' ⟨a2,rfl,vs,ws,U,O,hz,a1,Z,L,Y⟩
   simp only at a2
   subst a2
   have hv:(!lexLt U O)=decide (J.size≥B.size):=by
    cases a1 with
    | nil=>
     cases Z with
     | nil=>
      simp only [yBM] at L
      rw [lexLt_nil_nil]
      exact (decide_eq_true (by omega)).symm
     | cons c u hw=>
      simp only [yBM,yAG] at L
      rw [lexLt_nil_cons]
      exact (decide_eq_false (by omega)).symm
    | cons a t hv=>
     cases Z with
     | nil=>
      simp only [yBM,yAG] at L
      rw [lexLt_cons_nil]
      exact (decide_eq_true (by omega)).symm
     | cons c u hw=>
      rw [List.zip_cons_cons] at hz
      cases hz
   rw [hv] at Y
   wp_walk
   exact ⟨_,rfl,by simpa [Builtin.Tuple.tupleCompareSizes] using Y⟩
  case h=>
   exact ⟨rfl,rfl,J.toList,B.toList,ns,ms,rfl,hi,hj,by omega,h⟩
end
section
variable {prog:Program} {w:World} {A:Around} {E:Value->Shared->Prop} {s:Shared}
theorem ge_tupInts {l b:Addr} {B z:Array Value} {ns ms:List Int} {Q:Value->Shared->Prop} (hl:IsTup s.heap l B) (hb:IsTup s.heap b z) (hi:IntsAre B.toList ns) (hj:IntsAre z.toList ms)
  (hu:A.units < cLine) (h:Q (.bool (!HT.lexLt ns ms)) s):wpAny (model prog w) A (compareOp .GtE (.ref l) (.ref b)) Q E s:=by
 obtain ⟨⟨cls,dd,data,sl⟩,ho,hc,n,hd⟩:=id hl
 obtain ⟨⟨a0,Y,Z,U⟩,L,J,n2,O⟩:=id hb
 simp only at hc hd J O
 subst hc hd J O
 exact richCompare_meets_room (op:=.GtE) ⟨_,ho,rfl⟩ ⟨_,L,rfl⟩ PySem.F.slot_tuple_ge PySem.F.entry_tuple_ge (PySem.F.args_tuple_ge_2 _ _) (tuple_ge_ints l b B z n n2 dd Y sl U ns ms hi hj)
  ⟨ho,L,show Value.bool (!HT.lexLt ns ms)≠Value.notImplemented /\ Q (.bool (!HT.lexLt ns ms)) s from ⟨(fun x=>nomatch x),h⟩⟩ hu
end
section
variable {X:Cx}
noncomputable def rGeT (K:W.Frag):R2:=fun x y H Q=>∃ (a b:Addr) (ns ms:List Int),x=.ref a /\ y=.ref b /\ SqT K H a (ns.map V.int) /\ SqT K H b (ms.map V.int) /\ Q (.bl (!HT.lexLt ns ms)) H
theorem op_geT (Z:X.A.units+64 < cLine):OpR X (compareOp .GtE) (rGeT X.K):=by
 intro pins s σ H x y v u Q I O U h
 obtain ⟨a,b,ns,ms,rfl,rfl,ha,B,q⟩:=h
 cases O
 cases U
 obtain ⟨its,J,Y,_⟩:=I.tuple ha
 obtain ⟨z,L,p2,_⟩:=I.tuple B
 have i1:IntsAre its.toArray.toList ns:=ZDQ J
 have i2:IntsAre z.toArray.toList ms:=ZDQ L
 exact ge_tupInts Y p2 i1 i2 (by omega) ⟨.bl (!HT.lexLt ns ms),H,I,rfl,q⟩
end
section
variable {κ:Type} [DecidableEq κ]
noncomputable def valV (kvs:List (κ×V)) (k:κ):Option V:=(kvs.find? fun kv=>decide (kv.1=k)).map (·.2)
noncomputable def putK (kvs:List (κ×V)) (k:κ) (v:V):List (κ×V) :=
 if (kvs.any fun kv=>decide (kv.1=k))=true then kvs.map (fun kv=>if kv.1=k then (kv.1,v) else kv) else kvs++[(k,v)]
theorem ZBQ {p:κ×V} {r:List (κ×V)} {k:κ} (e:p.1=k):valV (p::r) k=some p.2:=by simp [valV,yCP,e]
theorem ZBR {p:κ×V} {r:List (κ×V)} {k:κ} (e:¬ p.1=k):valV (p::r) k=valV r k:=by simp [valV,yCP,e]
theorem ZC2 (k:κ):∀ kvs:List (κ×V),(kvs.any fun z=>decide (z.1=k))=(valV kvs k).isSome
 | []=>rfl
 | p::r=>by
  rw [List.any_cons]
  by_cases e:p.1=k
  .simp only [ZBQ e,decide_eq_true e,Bool.true_or,Option.isSome_some]
  .rw [ZBR e,decide_eq_false e,Bool.false_or];exact ZC2 k r
theorem valV_map (k j:κ) (y:V):∀ kvs:List (κ×V),valV (kvs.map fun B=>if B.1=k then (B.1,y) else B) j=(valV kvs j).map fun x=>if j=k then y else x
 | []=>rfl
 | p::r=>by
  have J:=valV_map k j y r
  rw [yAS]
  by_cases h:p.1=k
  .rw [if_pos h]
   by_cases e:p.1=j
   .rw [ZBQ (p:=(p.1,y)) e,ZBQ e,yBW,if_pos (e.symm.trans h)]
   .rw [ZBR (p:=(p.1,y)) e,ZBR e,J]
  .rw [if_neg h]
   by_cases e:p.1=j
   .rw [ZBQ (p:=p) e,ZBQ e,yBW,if_neg (fun z=>h (e.trans z))]
   .rw [ZBR (p:=p) e,ZBR e,J]
theorem valV_snoc (k j:κ) (y:V):∀ kvs:List (κ×V),valV kvs k=none->valV (kvs++[(k,y)]) j=if j=k then some y else valV kvs j
 | [],_=>by
  by_cases e:k=j
  .rw [if_pos e.symm];exact ZBQ (p:=(k,y)) e
  .rw [if_neg (fun z=>e z.symm)];exact ZBR (p:=(k,y)) e
 | p::r,hn=>by
  rw [yCI]
  have B:¬ p.1=k:=fun z=>by rw [ZBQ z] at hn;cases hn
  rw [ZBR B] at hn
  have J:=valV_snoc k j y r hn
  by_cases e:p.1=j
  .rw [ZBQ e,ZBQ e,if_neg (fun z=>B (e.trans z))]
  .rw [ZBR e,ZBR e,J]
theorem valV_put (kvs:List (κ×V)) (k j:κ) (y:V):valV (putK kvs k y) j=if j=k then some y else valV kvs j:=by
 unfold putK
 by_cases a:(kvs.any fun z=>decide (z.1=k))=true
 .rw [if_pos a,valV_map]
  rw [ZC2] at a
  by_cases e:j=k
  .obtain ⟨x,B⟩:=Option.isSome_iff_exists.mp a
   rw [if_pos e,e,B,yBW,if_pos rfl]
  .rw [if_neg e]
   cases valV kvs j with
   | none=>rfl
   | some x=>rw [yBW,if_neg e]
 .rw [if_neg a]
  refine valV_snoc k j y kvs ?_
  rw [ZC2] at a
  cases q:valV kvs k with
  | none=>rfl
  | some x=>rw [q] at a;exact (a rfl).elim
theorem ZCM (kvs:List (κ×V)) (k:κ) (v:V):(putK kvs k v).length <= kvs.length+1:=by
 unfold putK
 split
 .rw [yAA];omega
 .rw [yAE,yAG,yBM];omega
theorem RelO.isSome_eq {o:Option V} {u:Option Value} (r:RelO o u):o.isSome=u.isSome:=by
 cases o with
 | none=>cases u with
  | none=>rfl
  | some _=>exact (show False from r).elim
 | some _=>cases u with
  | none=>exact (show False from r).elim
  | some _=>rfl
theorem RelO.getD {o:Option V} {u:Option Value} {d:V} {d':Value} (r:RelO o u) (rd:RelV d d'):RelV (o.getD d) (u.getD d'):=by
 cases o with
 | none=>cases u with
  | none=>exact rd
  | some _=>exact (show False from r).elim
 | some _=>cases u with
  | none=>exact (show False from r).elim
  | some _=>exact r
theorem KV.val {kvs:List (κ×V)} {vs:List (κ×Value)} (r:KV kvs vs) (k:κ):RelO (valV kvs k) (valueAt vs k):=by
 unfold KV at r
 induction r with
 | nil=>exact True.intro
 | @cons p q ps qs h t ih=>
  obtain ⟨h1,h2⟩:=h
  by_cases e:p.1=k
  .have B:q.1=k:=h1.symm.trans e
   have b:valueAt (q::qs) k=some q.2:=by simp [valueAt,yCP,B]
   rw [ZBQ e,b];exact h2
  .have B:¬ q.1=k:=fun z=>e (h1.trans z)
   have b:valueAt (q::qs) k=valueAt qs k:=by simp [valueAt,yCP,B]
   rw [ZBR e,b];exact ih
theorem KV.any {kvs:List (κ×V)} {vs:List (κ×Value)} (r:KV kvs vs) (k:κ):(kvs.any fun z=>decide (z.1=k))=vs.any fun z=>decide (z.1=k):=by
 unfold KV at r
 induction r with
 | nil=>rfl
 | cons h t ih=>rw [List.any_cons,List.any_cons,ih,h.1]
theorem KV.repl {kvs:List (κ×V)} {vs:List (κ×Value)} (r:KV kvs vs) (k:κ) {y:V} {u:Value} (J:RelV y u) :
  KV (kvs.map fun B=>if B.1=k then (B.1,y) else B) (vs.map fun B=>if B.1=k then (B.1,u) else B):=by
 unfold KV at r ⊢
 induction r with
 | nil=>exact .nil
 | @cons p q ps qs h t ih=>
  rw [yAS,yAS]
  refine .cons ?_ ih
  obtain ⟨h1,h2⟩:=h
  by_cases e:p.1=k
  .rw [if_pos e,if_pos (h1.symm.trans e)];exact ⟨h1,J⟩
  .rw [if_neg e,if_neg (fun z=>e (h1.trans z))];exact ⟨h1,h2⟩
theorem KV.put {kvs:List (κ×V)} {vs:List (κ×Value)} (r:KV kvs vs) (k:κ) {y:V} {u:Value} (z:RelV y u):KV (putK kvs k y) (stored vs k u):=by
 unfold putK stored
 rw [r.any k]
 by_cases e:(vs.any fun B=>decide (B.1=k))=true
 .rw [if_pos e,if_pos e];exact r.repl k z
 .rw [if_neg e,if_neg e];exact Paired.snoc r ⟨rfl,z⟩
theorem KV.length {kvs:List (κ×V)} {vs:List (κ×Value)} (r:KV kvs vs):kvs.length=vs.length:=Paired.length r
end
theorem ZFl {P:Program} {w:World} {k:Key} {u:Value} (r:RelV (kV k) u):(ZAZ P w).is k u=true:=by
 cases k with
 | inl i=>obtain ⟨t,e⟩:=(show ∃ t,u=Value.int i t from r);subst e;exact mixKind_int P w i t
 | inr x=>obtain ⟨t,e⟩:=(show ∃ t,u=Value.str x t from r);subst e;exact mixKind_str P w x t
theorem items_are {P:Program} {w:World}:∀ {ks:List Key} {us:List Value},Vals (ks.map kV) us->ItemsAre (ZAZ P w) ks us
 | [],_,r=>by rw [List.map_nil] at r;cases r;exact .nil
 | k::ks,_,r=>by
  rw [yAS] at r
  cases r with
  | cons h t=>exact .cons (ZFl h) (items_are t)
noncomputable abbrev KT (H:Hp):List (List Key×V)->List (List Key×Addr×Value)->Prop:=Paired fun p q=>p.1=q.1 /\ H q.2.1=some (.tup (p.1.map kV)) /\ RelV p.2 q.2.2
theorem KT.val {H:Hp} {kvs:List (List Key×V)} {xs:List (List Key×Addr×Value)} (r:KT H kvs xs) (k:List Key):RelO (valV kvs k) ((atKey xs k).map (·.2)):=by
 induction r with
 | nil=>exact True.intro
 | @cons p q ps qs h t ih=>
  obtain ⟨h1,_,h2⟩:=h
  by_cases e:p.1=k
  .have B:q.1=k:=h1.symm.trans e
   have b:atKey (q::qs) k=some q.2:=by simp [atKey,yCP,B]
   rw [ZBQ e,b];exact h2
  .have B:¬ q.1=k:=fun z=>e (h1.trans z)
   have b:atKey (q::qs) k=atKey qs k:=by simp [atKey,yCP,B]
   rw [ZBR e,b];exact ih
theorem KT.repl {H:Hp} {kvs:List (List Key×V)} {xs:List (List Key×Addr×Value)} (r:KT H kvs xs) (k:List Key) {y:V} {u:Value} (J:RelV y u) :
  KT H (kvs.map fun B=>if B.1=k then (B.1,y) else B) (xs.map (putAt k u)):=by
 induction r with
 | nil=>exact .nil
 | @cons p q ps qs h t ih=>
  rw [yAS,yAS]
  refine .cons ?_ ih
  obtain ⟨h1,h2,h3⟩:=h
  unfold putAt
  by_cases e:p.1=k
  .rw [if_pos e,if_pos (h1.symm.trans e)];exact ⟨h1,h2,J⟩
  .rw [if_neg e,if_neg (fun z=>e (h1.trans z))];exact ⟨h1,h2,h3⟩
theorem KT.put {H:Hp} {kvs:List (List Key×V)} {xs:List (List Key×Addr×Value)} (r:KT H kvs xs) (k:List Key) {b:Addr} {y:V} {u:Value} (J:H b=some (.tup (k.map kV))) (z:RelV y u) :
  KT H (putK kvs k y) (storedH xs k b u):=by
 have e:(kvs.any fun B=>decide (B.1=k))=(atKey xs k).isSome:=by
  rw [ZC2,(r.val k).isSome_eq,Option.isSome_map]
 unfold putK storedH
 rw [e]
 by_cases q:(atKey xs k).isSome=true
 .rw [if_pos q,if_pos q];exact r.repl k z
 .rw [if_neg q,if_neg q];exact Paired.snoc r ⟨rfl,J,z⟩
theorem KT.keeps {H H':Hp} {kvs:List (List Key×V)} {xs:List (List Key×Addr×Value)} (r:KT H kvs xs) (B:∀ b ys,H b=some (.tup ys)->H' b=some (.tup ys)):KT H' kvs xs :=
 Paired.mapP r fun _ _ z=>⟨z.1,B _ _ z.2.1,z.2.2⟩
section
variable {P:Program} {w:World} {H:Hp} {h:Heap} {a:Addr}
theorem rd_of {u:HO} (ok:HOk P w H h) (e:Rd H a u):ObjOk P w H h a u:=e.ok ok
theorem ZFu {kvs:List (Key×V)} (ok:HOk P w H h) (e:Rd H a (.dK kvs)):kvs.length <= sizeLine /\ (a == sysModules)=false /\ ∃ vs,KV kvs vs /\ h.DictOf (ZAZ P w) a vs :=
 show ObjOk P w H h a (.dK kvs) from rd_of ok e
theorem dk_of {kvs:List (Key×V)} (ok:HOk P w H h) (e:H a=some (.dK kvs)):kvs.length <= sizeLine /\ (a == sysModules)=false /\ ∃ vs,KV kvs vs /\ h.DictOf (ZAZ P w) a vs:=ZFu ok (.inl e)
theorem ZEY {ks:List Key} (ok:HOk P w H h) (e:H a=some (.tup (ks.map kV))):(tupleKind (ZAZ P w)).is h ks a:=by
 obtain ⟨_,its,r,o,h1,h2,n,h3⟩:=(show ObjOk P w H h a (.tup (ks.map kV)) from ok a _ e)
 exact ⟨o,its.toArray,n,h1,h2,h3,by simpa using items_are r⟩
theorem ZFs {kvs:List (List Key×V)} (ok:HOk P w H h) (e:Rd H a (.dT kvs)):kvs.length <= sizeLine /\ (a == sysModules)=false /\
  ∃ xs,KT H kvs xs /\ h.DictOfH (tupleKind (ZAZ P w)) a xs:=by
 obtain ⟨z,y,xs,r,o,es,L,h1,h2,h3,J,O⟩:=(show ObjOk P w H h a (.dT kvs) from rd_of ok e)
 refine ⟨z,y,xs,r,o,es,L,h1,h2,h3,J,fun x B=>?_,O⟩
 have all:∀ {l:List (List Key×V)} {m:List (List Key×Addr×Value)},KT H l m->∀ x∈m,(tupleKind (ZAZ P w)).is h x.1 x.2.1:=by
  intro l m q
  induction q with
  | nil=>intro x B;exact nomatch B
  | @cons p q ps qs hq t ih=>
   intro x B
   rcases yAF.mp B with e | B
   .subst e
    exact ZEY ok (by rw [<- hq.1];exact hq.2.1)
   .exact ih x B
 exact all r x B
theorem dt_of {kvs:List (List Key×V)} (ok:HOk P w H h) (e:H a=some (.dT kvs)):kvs.length <= sizeLine /\ (a == sysModules)=false /\
  ∃ xs,KT H kvs xs /\ h.DictOfH (tupleKind (ZAZ P w)) a xs:=ZFs ok (.inl e)
end
noncomputable def DGet (H:Hp) (a:Addr) (y:V) (r:Option V):Prop :=
 (∃ kvs k,Rd H a (.dK kvs) /\ y=kV k /\ r=valV kvs k)∨∃ kvs k b,Rd H a (.dT kvs) /\ y=.ref b /\ H b=some (.tup (k.map kV)) /\ r=valV kvs k
noncomputable def DPut (H:Hp) (a:Addr) (y v:V) (H':Hp):Prop :=
 (∃ kvs k,H a=some (.dK kvs) /\ y=kV k /\ kvs.length < sizeLine /\ H'=upd H a (.dK (putK kvs k v))) ∨
 ∃ kvs k b,H a=some (.dT kvs) /\ y=.ref b /\ H b=some (.tup (k.map kV)) /\ kvs.length < sizeLine /\ H'=upd H a (.dT (putK kvs k v))
theorem DGet.t {H:Hp} {a b:Addr} {kvs:List (List Key×V)} {k:List Key} (e:H a=some (.dT kvs)) (z:H b=some (.tup (k.map kV))):DGet H a (.ref b) (valV kvs k):=.inr ⟨kvs,k,b,.inl e,rfl,z,rfl⟩
theorem DPut.t {H:Hp} {a b:Addr} {kvs:List (List Key×V)} {k:List Key} {v:V} (e:H a=some (.dT kvs)) (z:H b=some (.tup (k.map kV))) (hl:kvs.length < sizeLine) :
  DPut H a (.ref b) v (upd H a (.dT (putK kvs k v))):=.inr ⟨kvs,k,b,e,rfl,z,hl,rfl⟩
section
variable {X:Cx} {pins:List (Addr×Obj)} {σ:St} {H:Hp} {s:Shared} {a:Addr} {y v:V} {u r:Value} {o:Option V} {A:Around} {E:Value->Shared->Prop}
theorem Inv.big (I:Inv X pins σ H s):sysModules < s.heap.objs.size:=by
 have h:mainGlobals < s.heap.objs.size:=(I.mod.glob.keeps I.bk).lt
 exact Nat.lt_trans (by decide) h
theorem d_getItem {Q:Value->Shared->Prop} (hu:A.units+1 < cLine) (I:Inv X pins σ H s) (g:DGet H a y (some v)) (U:RelV y u) (h:∀ w' s',Inv X pins σ H s'->RelV v w'->Q w' s') :
  wpAny (model X.prog X.w) A (getItem (.ref a) u) Q E s:=by
 rcases g with ⟨kvs,k,e,L,l⟩ | ⟨kvs,k,b,e,L,Y,l⟩
 .subst L
  obtain ⟨z,Z,vs,B,O⟩:=ZFu I.hok e
  obtain ⟨w',hw,J⟩:=RelO.some_of (v:=v) (o:=valueAt vs k) (by rw [l];exact B.val k)
  exact wpAny_getItem_of (ZFl U) O.mapOf hw (h w' _ (I.tok _) J)
 .subst L
  cases (show u=Value.ref b from U)
  obtain ⟨z,Z,xs,B,O⟩:=ZFs I.hok e
  obtain ⟨w',hw,J⟩:=RelO.some_of (v:=v) (o:=(atKey xs k).map (·.2)) (by rw [l];exact B.val k)
  obtain ⟨p,hp,hp2⟩:=yBP.mp hw
  refine wpAny_getItem_heap (tupleKind_room_in1 hu) (ZEY I.hok Y) O hp ?_
  rw [hp2]
  exact h w' _ (I.tok _) J
theorem d_notIn {Q:Value->Shared->Prop} (Z:A.units+1 < cLine) (I:Inv X pins σ H s) (g:DGet H a y o) (U:RelV y u) (h:∀ s',Inv X pins σ H s'->Q (.bool (!o.isSome)) s') :
  wpAny (model X.prog X.w) A (compareOp .NotIn u (.ref a)) Q E s:=by
 rcases g with ⟨kvs,k,e,J,l⟩ | ⟨kvs,k,b,e,J,Y,l⟩
 .subst J
  obtain ⟨z,L,vs,B,O⟩:=ZFu I.hok e
  refine wpAny_notIn_of (ZFl U) L O.mapOf ?_
  rw [<- (B.val k).isSome_eq,<- l]
  exact h _ (I.tok _)
 .subst J
  cases (show u=Value.ref b from U)
  obtain ⟨z,L,xs,B,O⟩:=ZFs I.hok e
  refine wpAny_notIn_heap (tupleKind_room_in1 Z) (ZEY I.hok Y) L O ?_
  have q:=(B.val k).isSome_eq
  rw [Option.isSome_map] at q
  rw [<- q,<- l]
  exact h _ (I.tok _)
theorem d_write {h':Heap} {t':Nat} {ob:HO} (I:Inv X pins σ H s) (O:Mut (H a)) (J:Heap.SameBut a s.heap h') (B:∃ q,h'.get? a=some q) (new:ObjOk X.prog X.w (upd H a ob) h' a ob) :
  Inv X pins σ (upd H a ob) { s with heap:=h',toks:=t' } :=
 I.write (x:=a) (e:=a) O (.inl rfl) (fun b q L z=>(J.2 b L).trans z) B new
theorem dk_new {P:Program} {w:World} {H':Hp} {h':Heap} {kvs:List (Key×V)} {vs:List (Key×Value)} (z:kvs.length <= sizeLine) (L:(a == sysModules)=false) (B:KV kvs vs) (J:h'.DictOf (ZAZ P w) a vs) :
  ObjOk P w H' h' a (.dK kvs):=⟨z,L,vs,B,J⟩
theorem d_setItem {H':Hp} {Q:Unit->Shared->Prop} (hu:A.units+1 < cLine) (I:Inv X pins σ H s) (g:DPut H a y v H') (ry:RelV y u) (rv:RelV v r) (h:∀ s',Inv X pins σ H' s'->Q () s') :
  wpAny (model X.prog X.w) A (setItem (.ref a) u r) Q E s:=by
 rcases g with ⟨kvs,k,e,Y,l,U⟩ | ⟨kvs,k,b,e,Y,eb,l,U⟩
 .subst Y U
  obtain ⟨z,Z,vs,B,dd⟩:=dk_of I.hok e
  have hz:vs.length <= sizeLine:=by rw [<- B.length];exact z
  have hl:(putK kvs k v).length <= sizeLine:=by have:=ZCM kvs k v;omega
  refine wpAny_setItem_pairs (hsz:=hz) (ZFl ry) dd fun h' J O=>h _ ?_
  have he:∃ q,h'.get? a=some q:=let ⟨q,_,_,L,_⟩:=J;⟨q,L⟩
  exact d_write I (by rw [e];exact True.intro) O he (dk_new hl Z (B.put k rv) J)
 .subst Y U
  cases (show u=Value.ref b from ry)
  obtain ⟨z,Z,xs,B,dd⟩:=dt_of I.hok e
  have hz:xs.length <= sizeLine:=by rw [<- Paired.length B];exact z
  have hl:(putK kvs k v).length <= sizeLine:=by have:=ZCM kvs k v;omega
  refine wpAny_setItem_heap (hsz:=hz) (tupleKind_room_in1 hu) (ZEY I.hok eb) dd fun h' J O=>h _ ?_
  obtain ⟨q,es,ep,L,h2,h3,h4,_,h5⟩:=J
  refine d_write I (by rw [e];exact True.intro) O ⟨q,L⟩ ⟨hl,Z,_,(B.put k eb rv).keeps fun c ys ec=>?_,q,es,ep,L,h2,h3,h4,h5⟩
  rw [ZAI (ne_of ec e (fun z=>nomatch z))]
  exact ec
end
section
variable {X:Cx} {pins:List (Addr×Obj)} {σ:St} {H:Hp} {s:Shared} {a:Addr} {kvs:List (Key×V)} {k:Key} {u:Value} {A:Around} {E:Value->Shared->Prop}
end
noncomputable def NoSl (i:Expr):Prop:=∀ ov iv,subscripted i false ov iv=operate [ov,iv] (getItem ov iv)
theorem subD_of {prog:Program} {w:World} {A:Around} {E:Value->Shared->Prop} {s:Shared} {env:Env} {value z:Expr} {pos:Pos} {T id:String} {Q:Value->Shared->Prop}
  (hl:typeLookup (.type T) "__getitem__"=pure (some (.builtin id))) (Y:NoSl z)
  (h:wpAny (model prog w) A (eval value env) (fun o s₁=>wpAny (model prog w) A (eval z env) (fun i s₂=>s₂.TypeIs o T /\ wpAny (model prog w) A (getItem o i) Q E s₂) E s₁) E s) :
  wpAny (model prog w) A (eval (.Subscript value z pos) env) Q E s:=by
 refine Subscript_ (wpAny_mono h (fun o s₁ O=>wpAny_mono O (fun i s₂ B=>?_) fun _ _ x=>x) fun _ _ x=>x)
 obtain ⟨U,B⟩:=B
 unfold subscriptTail
 refine wpAny_bind ?_
 rw [getitemInPython_of_ne U.not_modules]
 refine wpAny_bind (wpAny_specialOf U hl ?_)
 have fin:wpAny (model prog w) A (subscripted z false o i) (fun r J=>wpAny (model prog w) A (letTemporaryGo value o r >>= fun _=>pure r) Q E J) E s₂:=by
  rw [Y o i]
  exact wpAny_operating (wpAny_mono B (fun r J L=>wpAny_bind (wpAny_letTemporaryGo (wpAny_pure L))) fun _ _ x=>x)
 first
  | exact wpAny_pure (wpAny_bind fin)
  | exact wpAny_bind (wpAny_pure (wpAny_bind fin))
  | exact wpAny_bind fin
theorem dict_typeIs {X:Cx} {pins:List (Addr×Obj)} {σ:St} {H:Hp} {s:Shared} {a:Addr} {y:V} {o:Option V} (I:Inv X pins σ H s) (g:DGet H a y o):s.TypeIs (.ref a) "dict":=by
 rcases g with ⟨kvs,k,e,_,_⟩ | ⟨kvs,k,b,e,_,_,_⟩
 .obtain ⟨_,_,vs,_,z⟩:=ZFu I.hok e
  exact z.typeIs
 .obtain ⟨_,_,xs,_,z⟩:=ZFs I.hok e
  exact z.typeIs
noncomputable def ZF7 (td ty:TE):TE:=fun σ H Q=>td σ H fun x H1=>ty σ H1 fun y H2=>∃ a v,x=.ref a /\ DGet H2 a y (some v) /\ Q v H2
noncomputable def tDIn (ty td:TE):TE:=fun σ H Q=>ty σ H fun y H1=>td σ H1 fun x H2=>∃ a o,x=.ref a /\ DGet H2 a y o /\ Q (.bl o.isSome) H2
noncomputable def ZEi (ty td:TE):TE:=fun σ H Q=>ty σ H fun y H1=>td σ H1 fun x H2=>∃ a o,x=.ref a /\ DGet H2 a y o /\ Q (.bl (!o.isSome)) H2
noncomputable def ZGB (td ty tv:TE):TS:=fun D σ H=>tv σ H fun v H1=>td σ H1 fun x H2=>ty σ H2 fun y H3=>∃ a H4,x=.ref a /\ DPut H3 a y v H4 /\ D.nx σ H4
section
variable {X:Cx} {o i e value:Expr} {pos pos' tpos:Pos} {td ty tv:TE}
theorem pe_dget (hu:X.A.units+1 < cLine) (L:PE X o td) (hi:PE X i ty) (J:NoSl i):PE X (.Subscript o i pos) (ZF7 td ty):=by
 intro pins s σ H Q I h
 refine subD_of PySem.F.slot_dict_getitem.lookup J (thn (L pins s σ H _ I h) fun u s1 ⟨x,H1,U,Y,q1⟩=>thn (hi pins s1 σ H1 _ U q1) fun iv s2 ⟨y,H2,B,ry,a,v,ex,g,O⟩=>?_)
 subst ex
 obtain rfl:u=Value.ref a:=Y
 exact ⟨dict_typeIs B g,d_getItem hu B g ry fun w' s3 Z z=>⟨v,H2,Z,z,O⟩⟩
theorem pc_dnotin (hu:X.A.units+1 < cLine) (hi:PE X i ty) (z:PE X o td):PC X .NotIn i o (ZEi ty td):=by
 intro pins s σ H Q I h
 refine thn (hi pins s σ H _ I h) fun iv s1 ⟨y,H1,J,Z,Y⟩=>thn (z pins s1 σ H1 _ J Y) fun u s2 ⟨x,H2,O,L,a,ov,ex,g,B⟩=>?_
 subst ex
 obtain rfl:u=Value.ref a:=L
 exact d_notIn hu O g Z fun s3 U=>⟨.bl (!ov.isSome),H2,U,rfl,B⟩
theorem ZED (hu:X.A.units+1 < cLine) (L:PE X o td) (hi:PE X i ty) (B:PE X value tv) (z:swapsWith value (some (.Subscript o i pos')) pos.line X.env=pure false) :
  PS X (.Assign [.Subscript o i pos'] value pos) (ZGB td ty tv):=by
 intro pins s σ H D I h
 refine wpAny_Assign_Subscript (thn (B pins s σ H _ I h) fun r s1 ⟨v,H1,U,rv,q1⟩=>thn (L pins s1 σ H1 _ U q1) fun u s2 ⟨x,H2,I2,Z,O⟩=>thn (hi pins s2 σ H2 _ I2 O) fun iv s3 ⟨y,H3,I3,ry,a,H4,ex,g,J⟩=>?_) z
 subst ex
 obtain rfl:u=Value.ref a:=Z
 exact d_setItem hu I3 g ry rv fun s4 Y=>⟨σ,H4,Y,J⟩
end
theorem dt_empty {P:Program} {w:World} {H:Hp} (h:Heap) (z:sysModules < h.objs.size):ObjOk P w H (h.push { cls:=.type "dict",data:=.dict #[] }) h.objs.size (.dT []) :=
 ⟨yAJ _,beq_eq_false_iff_ne.mpr (Ne.symm (yAN z)),[],.nil,_,#[],0,Heap.get?_push_size _ rfl,⟨rfl,rfl,rfl⟩,rfl,rfl,List.nodup_nil⟩
noncomputable def tDNewK:TE:=fun _ H Q=>∀ p,H p=none->Q (.ref p) (upd H p (.dK []))
noncomputable def ZFN:TE:=fun _ H Q=>∀ p,H p=none->Q (.ref p) (upd H p (.dT []))
section
variable {X:Cx} {pos:Pos}
theorem pe_dnewT:PE X (.Dict [] [] pos) ZFN:=fun pins s σ H Q I h=>
 wpAny_Dict_empty ⟨.ref s.heap.objs.size,_,I.laid (a:=s.heap.objs.size) (o:=.dT []) (t':=s.toks) (fun _ _ q=>Heap.get?_push_of_some _ q) (yAB _) (dt_empty s.heap I.big),rfl,h _ (I.hok.fresh (yAB _))⟩
end
noncomputable def rDGet:V->List V->Hp->VK->Prop:=fun x vs H Q=>∃ a y o,x=.ref a /\ vs=[y] /\ DGet H a y o /\ Q (o.getD .non) H
theorem mt_dget {X:Cx} (hu:X.A.units+1 < cLine):MtR X "dict.get" rDGet:=by
 intro pins s σ H x vs v us Q I Y rv h
 obtain ⟨a,y,o,rfl,rfl,g,q⟩:=h
 cases Y
 obtain ⟨u,rfl,U⟩:=rv.one
 rcases g with ⟨kvs,k,e,L,l⟩ | ⟨kvs,k,b,e,L,Z,l⟩
 .subst L
  obtain ⟨z,O,vs,B,J⟩:=ZFu I.hok e
  refine call_meetsIn PySem.F.slot_dict_get J.typeIs PySem.F.entry_dict_get (PySem.F.args_dict_get_2 _ _) (meets_dict_get (ZAZ X.prog X.w) a (ZFl U) O) ⟨_,J.mapOf,?_⟩
  subst l
  exact ⟨_,H,I.tok _,(B.val k).getD (d:=.non) (d':=.none) rfl,q⟩
 .subst L
  cases (show u=Value.ref b from U)
  obtain ⟨z,O,xs,B,J⟩:=ZFs I.hok e
  refine call_meetsIn PySem.F.slot_dict_get J.typeIs PySem.F.entry_dict_get (PySem.F.args_dict_get_2 _ _) (meetsH_dict_get (tupleKind (ZAZ X.prog X.w)) a b O) ⟨tupleKind_room_in1 hu,k,xs,ZEY I.hok Z,J,?_⟩
  subst l
  exact ⟨_,H,I.tok _,(B.val k).getD (d:=.non) (d':=.none) rfl,q⟩
end L2
namespace PySem
open Sem (wp)
namespace F
end F
section
variable {α:Type} {prog:Program} {w:World} {A:Around} {E:Value->Shared->Prop} {s:Shared}
end
section
variable {prog:Program} {w:World} {A:Around} {E:Value->Shared->Prop} {h:Heap} {g:Array GenState} {d:Drawn} {t:Nat} {os:OsState} {a:Addr} {its:Array Value} {n:Nat}
end
end PySem
namespace PySem
namespace F
end F
end PySem
namespace L2
open PySem PySem.Spec PyProof.Rows
theorem key_mono {P:Program} {w:World} {h h':Heap} {ks:List Key} {a:Addr} (m:∀ b o,h.get? b=some o->h'.get? b=some o) (k:(tupleKind (ZAZ P w)).is h ks a):(tupleKind (ZAZ P w)).is h' ks a:=by
 obtain ⟨o,its,n,h1,r⟩:=k
 exact ⟨o,its,n,m _ _ h1,r⟩
section
variable {X:Cx} {pins:List (Addr×Obj)} {σ:St} {H:Hp} {s1:Shared} {A:Around}
end
end L2
namespace PySem
section
variable {prog:Program} {w:World} {A:Around} {E:Value->Shared->Prop} {s:Shared} {zo ti to:Addr} {f0 f1:Value}
end
end PySem
namespace L2
open PySem PySem.Spec PyProof.Rows
section
variable {X:Cx}
end
section
variable {K:W.Frag} {a b:Addr} {xs ys:List V} {g:TG} {σ:St} {H:Hp} {tt:TT} {te:TE} {Q:VK} {σ0:St}
end
section
variable {X:Cx}
end
section
variable {X:Cx}
end
end L2
namespace Po
noncomputable def st (acc h:Nat):Nat:=(((acc+h * 14029467366897019727) % 2 ^ 64 * 2 ^ 31 % 2 ^ 64+(acc+h * 14029467366897019727) % 2 ^ 64 / 2 ^ 33) * 11400714785074694791) % 2 ^ 64
noncomputable def G (a:Nat):Nat:=st 2870177450012600261 a * 839798700976720815 % 2 ^ 64
theorem ZFa (x:Nat):x * 2 ^ 31 % 2 ^ 64=x % 2 ^ 33 * 2 ^ 31:=by
 rw [show (2:Nat) ^ 64=2 ^ 33 * 2 ^ 31 by decide,Nat.mul_mod_mul_right]
theorem rot_lt {x:Nat} (z:x < 2 ^ 64):x * 2 ^ 31 % 2 ^ 64+x / 2 ^ 33 < 2 ^ 64:=by rw [ZFa];omega
theorem rot_inj {x y:Nat} (U:x < 2 ^ 64) (B:y < 2 ^ 64) (h:x * 2 ^ 31 % 2 ^ 64+x / 2 ^ 33=y * 2 ^ 31 % 2 ^ 64+y / 2 ^ 33):x=y:=by
 rw [ZFa,ZFa] at h
 have z:=Nat.div_add_mod x (2 ^ 33)
 have L:=Nat.div_add_mod y (2 ^ 33)
 have O:x / 2 ^ 33 < 2 ^ 31:=by omega
 have J:y / 2 ^ 33 < 2 ^ 31:=by omega
 generalize x / 2 ^ 33=q at *
 generalize y / 2 ^ 33=q' at *
 generalize x % 2 ^ 33=r at *
 generalize y % 2 ^ 33=r' at *
 omega
theorem back {x p i:Nat} (h:p * i % 2 ^ 64=1) (z:x < 2 ^ 64):x * p % 2 ^ 64 * i % 2 ^ 64=x:=by
 rw [Nat.mod_mul_mod,Nat.mul_assoc,Nat.mul_mod,h,Nat.mul_one,Nat.mod_mod,Nat.mod_eq_of_lt z]
theorem st_inj {a b a' b':Nat} (h:st a b=st a' b'):(a+b * 14029467366897019727) % 2 ^ 64=(a' + b' * 14029467366897019727) % 2 ^ 64:=by
 unfold st at h
 have B:(a+b * 14029467366897019727) % 2 ^ 64 < 2 ^ 64:=Nat.mod_lt _ (by decide)
 have l2:(a' + b' * 14029467366897019727) % 2 ^ 64 < 2 ^ 64:=Nat.mod_lt _ (by decide)
 generalize (a+b * 14029467366897019727) % 2 ^ 64=x at *
 generalize (a' + b' * 14029467366897019727) % 2 ^ 64=y at *
 have hi:11400714785074694791 * 614540362697595703 % 2 ^ 64=1:=by decide
 have e:=congrArg (fun z=>z * 614540362697595703 % 2 ^ 64) h
 rw [back hi (rot_lt B),back hi (rot_lt l2)] at e
 exact rot_inj B l2 e
theorem to_G {a b x:Nat} (h:(st 2870177450012600261 a+b * 14029467366897019727) % 2 ^ 64=x % 2 ^ 64):(G a+b) % 2 ^ 64=x * 839798700976720815 % 2 ^ 64:=by
 have e:=congrArg (fun z=>z * 839798700976720815 % 2 ^ 64) h
 rw [Nat.mod_mul_mod,Nat.mod_mul_mod,Nat.add_mul,Nat.mul_assoc,Nat.add_mod,Nat.mul_mod b,show 14029467366897019727 * 839798700976720815 % 2 ^ 64=1 by decide,Nat.mul_one,Nat.mod_mod] at e
 unfold G
 rw [<- e,Nat.add_mod,Nat.mod_mod]
noncomputable def far (x y:Nat):Bool:=decide (1000 < (x+2 ^ 64-y) % 2 ^ 64) && decide ((x+2 ^ 64-y) % 2 ^ 64 < 2 ^ 64-1000)
noncomputable def ZEb:List Nat->Bool
 | []=>true
 | x::r=>r.all (far x) && ZEb r
theorem ZCp:∀ {l:List Nat} {i j x y:Nat},ZEb l=true->i < j->l[i]?=some x->l[j]?=some y->far x y=true
 | x::r,0,j+1,a,b,h,hij,h1,h2=>by
  unfold ZEb at h
  rw [yBK,List.all_eq_true] at h
  cases h1
  exact h.1 b (yAO (by simpa using h2))
 | x::r,i+1,j+1,a,b,h,hij,h1,h2=>by
  unfold ZEb at h
  rw [yBK] at h
  exact ZCp (i:=i) (j:=j) h.2 (by omega) (by simpa using h1) (by simpa using h2)
 | [],i,j,a,b,h,hij,h1,h2=>by simp at h1
theorem farG:ZEb ((List.range 205).map G++[9148689060682678900 * 839798700976720815 % 2 ^ 64])=true:=by decide +kernel
theorem G_at {a:Nat} (h:a < 205):((List.range 205).map G++[9148689060682678900 * 839798700976720815 % 2 ^ 64])[a]?=some (G a):=by
 rw [yBD (by rw [yAA,List.length_range];exact h),yAM,List.getElem?_range h];rfl
theorem ZFr {x y:Nat} (h:far x y=true) {b b':Nat} (L:x < 2 ^ 64) (J:y < 2 ^ 64) (B:b <= 500) (z:b' <= 500):(x+b) % 2 ^ 64≠(y+b') % 2 ^ 64:=by
 unfold far at h
 rw [yBK,decide_eq_true_iff,decide_eq_true_iff] at h
 omega
theorem G_lt (a:Nat):G a < 2 ^ 64:=Nat.mod_lt _ (by decide)
noncomputable def th (a b:Nat):Nat:=st (st 2870177450012600261 a) b
theorem th_lt (a b:Nat):th a b < 2 ^ 64:=Nat.mod_lt _ (by decide)
theorem th_inj {a a' b b':Nat} (ha:a < 205) (J:a' < 205) (O:b <= 500) (B:b' <= 500) (h:th a b=th a' b'):a=a' /\ b=b':=by
 unfold th at h
 have e:=st_inj (a:=st 2870177450012600261 a) (b:=b) (a':=st 2870177450012600261 a') (b':=b') h
 have L:=to_G (a:=a) (b:=b) (x:=st 2870177450012600261 a' + b' * 14029467366897019727) e
 have U:=to_G (a:=a') (b:=b') (x:=st 2870177450012600261 a' + b' * 14029467366897019727) (Eq.refl _)
 rw [<- U] at L
 clear U e h
 rcases Nat.lt_trichotomy a a' with z | z | z
 .exact absurd L (ZFr (ZCp farG z (G_at ha) (G_at J)) (G_lt _) (G_lt _) O B)
 .subst z
  have:=G_lt a
  generalize G a=g at *
  exact ⟨rfl,by omega⟩
 .exact absurd L.symm (ZFr (ZCp farG z (G_at J) (G_at ha)) (G_lt _) (G_lt _) B O)
theorem th_ne {a b:Nat} (ha:a < 205) (z:b <= 500):th a b≠15576566623696079691:=by
 intro h
 have e:st (st 2870177450012600261 a) b=st 9148689060682678900 0:=by
  rw [show st 9148689060682678900 0=15576566623696079691 by decide +kernel];exact h
 have B:=to_G (a:=a) (b:=b) (x:=9148689060682678900) (by
  have:=st_inj (a:=st 2870177450012600261 a) (b:=b) (a':=9148689060682678900) (b':=0) e
  rw [yBS,Nat.add_zero] at this
  exact this)
 have f:=ZCp (i:=a) (j:=205) farG ha (G_at ha) (y:=9148689060682678900 * 839798700976720815 % 2 ^ 64) (by
  rw [yBC (by rw [yAA,List.length_range];exact yAB _),yAA,List.length_range,yBG,List.getElem?_cons_zero])
 have:=ZFr f (G_lt _) (Nat.mod_lt _ (by decide)) z (b':=0) (by decide)
 rw [Nat.add_zero,Nat.mod_mod] at this
 exact this B
noncomputable def fin (acc:Nat):Int:=if (acc+2870177450013471924) % 2 ^ 64=2 ^ 64-1 then 1546275796 else if (acc+2870177450013471924) % 2 ^ 64 < 2 ^ 63 then (((acc+2870177450013471924) % 2 ^ 64:Nat):Int) else (((acc+2870177450013471924) % 2 ^ 64:Nat):Int)-2 ^ 64
theorem fin_of {x:Nat} (z:x < 2 ^ 64) (nx:x≠15576566623696079691):fin x=(((x+2870177450013471924) % 2 ^ 64:Nat):Int) /\ (x+2870177450013471924) % 2 ^ 64 < 2 ^ 63∨fin x=(((x+2870177450013471924) % 2 ^ 64:Nat):Int)-2 ^ 64 /\ ¬ (x+2870177450013471924) % 2 ^ 64 < 2 ^ 63 /\ (x+2870177450013471924) % 2 ^ 64≠2 ^ 64-1:=by
 have h1:¬ (x+2870177450013471924) % 2 ^ 64=2 ^ 64-1:=by omega
 unfold fin
 rw [if_neg h1]
 by_cases h2:(x+2870177450013471924) % 2 ^ 64 < 2 ^ 63
 .rw [if_pos h2];exact .inl ⟨rfl,h2⟩
 .rw [if_neg h2];exact .inr ⟨rfl,h2,h1⟩
theorem fin_inj {x y:Nat} (U:x < 2 ^ 64) (L:y < 2 ^ 64) (nx:x≠15576566623696079691) (J:y≠15576566623696079691) (h:fin x=fin y):x=y:=by
 rcases fin_of U nx with ⟨B,O⟩ | ⟨B,O,_⟩ <;> rcases fin_of L J with ⟨z,l2⟩ | ⟨z,l2,_⟩ <;> rw [B,z] at h <;> omega
end Po
namespace L2
open PySem PySem.Spec PyProof.Rows
theorem hash_small (n:Nat) (hn:n <= 500):hashInt (n:Int)=n:=by
 have e:rawHash (n:Int)=n:=by
  unfold rawHash
  dsimp only
  rw [Int.natAbs_natCast,if_neg (show ¬ (n:Int) < 0 by omega),show (n:Int) % ((2 ^ 61-1:Nat):Int)=n by omega,if_neg (fun z=>by have:=eq_of_beq z;omega)]
 unfold hashInt
 rw [e,if_neg (fun z=>by have:=eq_of_beq z;omega)]
noncomputable def stI (acc:Nat) (h:Int):Nat:=Po.st acc (h % ((2 ^ 64:Nat):Int)).toNat
theorem fold_eq (z:List Int):Builtin.Tuple.tupleHashOf z=(if (z.foldl stI 2870177450012600261+(z.length ^^^ (2870177450012600261 ^^^ 3527539))) % 2 ^ 64 == 2 ^ 64-1 then 1546275796 else if (z.foldl stI 2870177450012600261+(z.length ^^^ (2870177450012600261 ^^^ 3527539))) % 2 ^ 64 < 2 ^ 63 then (((z.foldl stI 2870177450012600261+(z.length ^^^ (2870177450012600261 ^^^ 3527539))) % 2 ^ 64:Nat):Int) else (((z.foldl stI 2870177450012600261+(z.length ^^^ (2870177450012600261 ^^^ 3527539))) % 2 ^ 64:Nat):Int)-((2 ^ 64:Nat):Int)):=by
 unfold Builtin.Tuple.tupleHashOf
 rfl
theorem pairH {a b:Nat} (ha:a < 205) (U:b <= 500):Builtin.Tuple.tupleHashOf [(a:Int),(b:Int)]=Po.fin (Po.th a b):=by
 have J:((a:Int) % ((2 ^ 64:Nat):Int)).toNat=a:=by omega
 have L:((b:Int) % ((2 ^ 64:Nat):Int)).toNat=b:=by omega
 have B:([(a:Int),(b:Int)].length ^^^ (2870177450012600261 ^^^ 3527539))=2870177450013471924:=by
  show (2 ^^^ (2870177450012600261 ^^^ 3527539):Nat)=_
  decide +kernel
 have O:[(a:Int),(b:Int)].foldl stI 2870177450012600261=Po.th a b:=by
  rw [List.foldl_cons,List.foldl_cons,List.foldl_nil]
  unfold stI Po.th
  rw [J,L]
 rw [fold_eq,B,O]
 unfold Po.fin
 by_cases h:(Po.th a b+2870177450013471924) % 2 ^ 64=2 ^ 64-1
 .rw [if_pos h,if_pos (beq_iff_eq.mpr h)]
 .rw [if_neg h,if_neg (fun z=>h (beq_iff_eq.mp z))]
  rfl
theorem hash_pair (P:Program) (w:World) {a b:Nat} (ha:a < 205) (B:b <= 500):(tupleKind (ZAZ P w)).hash [.inl (a:Int),.inl (b:Int)]=Po.fin (Po.th a b):=by
 show reduceHash (Builtin.Tuple.tupleHashOf [hashInt (a:Int),hashInt (b:Int)])=_
 rw [hash_small a (by omega),hash_small b B]
 have e:=pairH ha B
 rw [e]
 unfold reduceHash
 have:=Po.fin_of (Po.th_lt a b) (Po.th_ne ha B)
 have h1:-(2 ^ 63:Int) <= Po.fin (Po.th a b) /\ Po.fin (Po.th a b) < 2 ^ 63 /\ Po.fin (Po.th a b)≠-1:=by omega
 rw [if_pos (by rw [yBK,decide_eq_true_iff,decide_eq_true_iff];exact ⟨h1.1,h1.2.1⟩),if_neg (fun z=>h1.2.2 (eq_of_beq z))]
noncomputable def ZFw (kvs:List (List Key×V)):Prop:=∀ kv∈kvs,∃ a b:Nat,kv.1=[.inl (a:Int),.inl (b:Int)] /\ a < 205 /\ b <= 500
section
variable {X:Cx} {pins:List (Addr×Obj)} {σ:St} {H:Hp} {A:Around} {E:Value->Shared->Prop} {s:Shared}
theorem hash_nodup {P:Program} {w:World}:∀ {kvs:List (List Key×V)} {xs:List (List Key×Addr×Value)},ZFw kvs->KT H kvs xs->(xs.map (·.1)).Nodup->xs.Pairwise (fun x y=>(entryOfKey (tupleKind (ZAZ P w)) x).hash≠(entryOfKey (tupleKind (ZAZ P w)) y).hash):=by
 intro kvs xs Y kt U
 have keys:∀ x∈xs,∃ a b:Nat,x.1=[.inl (a:Int),.inl (b:Int)] /\ a < 205 /\ b <= 500:=by
  intro x J
  obtain ⟨y,O,e⟩:∃ y∈kvs,y.1=x.1:=by
   clear U Y
   induction kt with
   | nil=>cases J
   | @cons p q ps qs hq t ih=>
    rcases yAF.mp J with e | J
    .subst e;exact ⟨p,yAC,hq.1⟩
    .obtain ⟨y,h1,h2⟩:=ih J;exact ⟨y,yAD _ h1,h2⟩
  obtain ⟨a,b,h1,h2,h3⟩:=Y y O
  exact ⟨a,b,by rw [<- e,h1],h2,h3⟩
 rw [List.Nodup,List.pairwise_map] at U
 refine U.imp_of_mem fun {x y} J O ne e=>?_
 obtain ⟨a,b,Z,h1,h2⟩:=keys x J
 obtain ⟨a',b',L,z,B⟩:=keys y O
 have e:(tupleKind (ZAZ P w)).hash x.1=(tupleKind (ZAZ P w)).hash y.1:=e
 rw [Z,L,hash_pair P w h1 h2,hash_pair P w z B] at e
 have:=Po.th_inj h1 z h2 B (Po.fin_inj (Po.th_lt _ _) (Po.th_lt _ _) (Po.th_ne h1 h2) (Po.th_ne z B) e)
 exact ne (by rw [Z,L,this.1,this.2])
theorem one_hash {α:Type} (f:α->Int) (x:α):∀ {l:List α},l.Pairwise (fun a b=>f a≠f b)->(l.filter (fun y=>f y == f x)).length <= 1
 | [],_=>yAJ _
 | a::r,h=>by
  obtain ⟨h1,h2⟩:=List.pairwise_cons.mp h
  by_cases e:f a=f x
  .rw [List.filter_cons_of_pos (by simpa using e)]
   have:r.filter (fun y=>f y == f x)=[]:=List.filter_eq_nil_iff.mpr fun b B z=>h1 b B (by rw [e];exact (by simpa using z:f b=f x).symm)
   rw [this]
   exact yAB _
  .rw [List.filter_cons_of_neg (by simpa using e)]
   exact one_hash f x h2
theorem entries_empty {id:String} {d:Addr} {o:Obj} {es ep} {kvs:List (List Key×V)} {xs:List (List Key×Addr×Value)} {Q:Array DictEntry->Shared->Prop} (U:s.heap.get? d=some o) (hd:o.data=.dict es ep)
  (O:es.toList=xs.map (entryOfKey (tupleKind (ZAZ X.prog X.w)))) (Y:∀ x∈xs,(tupleKind (ZAZ X.prog X.w)).is s.heap x.1 x.2.1) (hp:xs.Pairwise (fun x y=>(entryOfKey (tupleKind (ZAZ X.prog X.w)) x).hash≠(entryOfKey (tupleKind (ZAZ X.prog X.w)) y).hash)) (h:Q es s) :
  wpAny (model X.prog X.w) A (Builtin.Dict.entriesForEmpty id d) Q E s:=by
 unfold Builtin.Dict.entriesForEmpty
 refine wpAny_bind (wpAny_dictEntries U hd ?_)
 refine wpAny_bind ?_
 rw [<- Array.forIn_toList]
 refine wpAny_forIn_list _ (fun rest _ s'=>s'=s /\ ∀ e∈rest,e∈es.toList) _ ?_ ?_ _ _ ⟨rfl,fun e z=>z⟩
 .rintro e rest b s' ⟨L,B⟩
  rw [L]
  have hm:=B e yAC
  rw [O] at hm
  obtain ⟨x,hx,rfl⟩:=yBN.mp hm
  have hT:Shared.TypeIs s (.ref x.2.1) "tuple":=IsTupleKey.typeIs (Y x hx)
  have hsz:¬ (es.filter (fun J=>J.hash == (entryOfKey (tupleKind (ZAZ X.prog X.w)) x).hash)).size > 1:=by
   have Z:(es.filter (fun J=>J.hash == (entryOfKey (tupleKind (ZAZ X.prog X.w)) x).hash)).size=(es.toList.filter (fun J=>J.hash == (entryOfKey (tupleKind (ZAZ X.prog X.w)) x).hash)).length:=by
    rw [<- Array.toList_filter,yCL]
   rw [Z,O]
   have:=one_hash (fun y=>(entryOfKey (tupleKind (ZAZ X.prog X.w)) y).hash) x hp
   rw [List.filter_map,yAA]
   have this:(xs.filter (fun y=>(entryOfKey (tupleKind (ZAZ X.prog X.w)) y).hash == (entryOfKey (tupleKind (ZAZ X.prog X.w)) x).hash)).length <= 1:=this
   exact Nat.not_lt.mpr this
  show wpAny _ _ (Builtin.Dict.quietEq (.ref x.2.1) >>= _) _ _ _
  refine wpAny_bind ?_
  unfold Builtin.Dict.quietEq
  refine wpAny_bind (wpAny_specialOf hT F.slot_tuple_eq.lookup (wpAny_pure ?_))
  rw [if_pos (by decide),if_neg hsz]
  exact wpAny_pure ⟨rfl,fun e z=>B e (yAD _ z)⟩
 .rintro b s' ⟨rfl,_⟩
  exact wpAny_pure h
theorem merge_copy {nm:String} {d o:Addr} {kvs:List (List Key×V)} {xs:List (List Key×Addr×Value)} {Q:Unit->Shared->Prop} (a3:d≠o) (a1:(o == sysModules)=false) (Y:s.heap.get? d=some { cls:=.type "dict",data:=.dict #[] })
  (ho:s.heap.DictOfH (tupleKind (ZAZ X.prog X.w)) o xs) (hp:xs.Pairwise (fun x y=>(entryOfKey (tupleKind (ZAZ X.prog X.w)) x).hash≠(entryOfKey (tupleKind (ZAZ X.prog X.w)) y).hash)) (hsz:xs.length <= sizeLine)
  (hQ:∀ h',Heap.SameBut d s.heap h'->(∃ od es ep,h'.get? d=some od /\ od.ExactDict /\ od.data=.dict es ep /\ es.toList=xs.map (entryOfKey (tupleKind (ZAZ X.prog X.w))))->Q () { s with heap:=h' }) :
  wpAny (model X.prog X.w) A (Builtin.Dict.mergeDict nm d o) Q E s:=by
 obtain ⟨oo,z,a5,U,a4,B,O,Z,a6⟩:=id ho
 unfold Builtin.Dict.mergeDict
 rw [if_neg (by simpa using a3)]
 unfold Builtin.Dict.showsAll
 rw [if_neg (by rw [a1];exact yBB)]
 refine wpAny_bind (wpAny_pure ?_)
 refine wpAny_bind (wpAny_dictEntries U B ?_)
 have L:({ cls:=.type "dict",data:=.dict #[] }:Obj).data=.dict #[] 0:=rfl
 dsimp only
 cases xs with
 | nil=>
  have h0:z=#[]:=by
   have:z.toList=[]:=O
   exact Array.toList_eq_nil_iff.mp this
  subst h0
  rw [if_neg (by rw [show (#[]:Array DictEntry).all (fun e=>(keyPart e.key).isSome)=true by simp];simp)]
  refine wpAny_bind (wpAny_dictEpoch U B ?_)
  refine wpAny_bind (wpAny_dictEntries U B ?_)
  refine wpAny_bind ?_
  rw [Std.Legacy.Range.forIn_eq_forIn_range']
  refine wpAny_pure (wpAny_pure (hQ s.heap (Heap.SameBut.refl _ _) ⟨_,_,_,Y,⟨rfl,rfl,rfl⟩,L,rfl⟩))
 | cons x r=>
  have a2:(z.all fun e=>(keyPart e.key).isSome)=false:=by
   rw [<- Array.all_toList,O]
   rfl
  rw [if_pos (by rw [a2,Bool.and_false];rfl)]
  refine wpAny_bind (wpAny_dictEntries Y L ?_)
  rw [if_pos (by rfl)]
  refine wpAny_bind (entries_empty (kvs:=kvs) U B O Z hp ?_)
  have J:z.size=(x::r).length:=by rw [<- yCL,O,yAA]
  have a0:z.isEmpty=false:=by
   cases e0:z.isEmpty with
   | false=>rfl
   | true=>rw [Array.isEmpty_iff.mp e0] at J;cases J
  rw [if_pos (by rw [a0];rfl)]
  refine wpAny_bind (wpAny_updateDictKeysTo Y L (wpAny_pure (hQ _ (Heap.SameBut.update ..) ⟨_,z,0+1,Heap.get?_update_self _ Y (Obj.isFreed_of_dict (Obj.data_mapDictKeys L _)),(show Obj.ExactDict _ from ⟨rfl,rfl,rfl⟩).mapDictKeys _,Obj.data_mapDictKeys L _,O⟩)) (by omega))
theorem call_dictC:ZC1 X (.type "dict") (fun xs H Q=>∃ (p:Addr) (kvs:List (List Key×V)),xs=[.ref p] /\ H p=some (.dT kvs) /\ ZFw kvs /\ ∀ d,H d=none->Q (.ref d) (upd H d (.dT kvs))):=by
 intro pins s σ H xs us Q I r h
 obtain ⟨p,kvs,rfl,ad,Z,q⟩:=h
 obtain ⟨u,rfl,rx⟩:=ZDu r
 cases rx
 obtain ⟨z,a7,xs,kt,dd⟩:=dt_of I.hok ad
 have ah:xs.length=kvs.length:=(Paired.length kt).symm
 have U:(xs.map (·.1)).Nodup:=let ⟨_,_,_,_,_,_,_,_,hn⟩:=dd;hn
 have aa:=hash_nodup (P:=X.prog) (w:=X.w) Z kt U
 refine callType_codes (Q₁:=fun obj s₁=>obj=.ref s.heap.objs.size /\ s₁={ s with heap:=s.heap.push { cls:=.type "dict",data:=.dict #[] } }) F.kt_called_dict (F.kt_typeCall_dict_1 _) F.entry_dict_init (kt_code_dict_new _ ⟨rfl,rfl⟩) ?_
 rintro obj s₁ ⟨rfl,rfl⟩
 have O:(s.heap.push { cls:=.type "dict",data:=.dict #[] }).get? s.heap.objs.size=some { cls:=.type "dict",data:=.dict #[] }:=Heap.get?_push_size _ rfl
 have J:∀ b o,s.heap.get? b=some o->(s.heap.push { cls:=.type "dict",data:=.dict #[] }).get? b=some o:=fun b o Y=>Heap.get?_push_of_some _ Y
 have hT:Shared.TypeIs { s with heap:=s.heap.push { cls:=.type "dict",data:=.dict #[] } } (.ref s.heap.objs.size) "dict":=⟨_,O,rfl⟩
 have L:(s.heap.push { cls:=.type "dict",data:=.dict #[] }).DictOfH (tupleKind (ZAZ X.prog X.w)) p xs:=by
  obtain ⟨o,es,ep,a1,a2,a3,a4,a5,a6⟩:=dd
  exact ⟨o,es,ep,J _ _ a1,a2,a3,a4,fun x hx=>key_mono J (a5 x hx),a6⟩
 obtain ⟨oo,ag,al,a0,a8,ae,aj,af,ai⟩:=id L
 have B:Shared.TypeIs { s with heap:=s.heap.push { cls:=.type "dict",data:=.dict #[] } } (.ref p) "dict":=⟨oo,a0,a8.1⟩
 have ac:s.heap.objs.size≠p:=by
  obtain ⟨_,_,_,hg,_⟩:=dd
  exact fun e=>absurd (Heap.lt_size hg) (by rw [e];exact yBI _)
 refine ⟨hT,F.args_dict_init_2 _ _,?_⟩
 unfold Builtin.«dict.__init__»
 refine wpAny_bind ?_
 unfold Builtin.Dict.selfAndRest
 refine wpAny_bind (wpAny_notOrdered_dict hT ?_)
 show wpAny _ _ (pure (s.heap.objs.size,[Value.ref p])) _ _ _
 refine wpAny_pure ?_
 show wpAny _ _ (Builtin.Dict.updateFrom "dict.__init__" s.heap.objs.size (.ref p) [] .none) _ _ _
 unfold Builtin.Dict.updateFrom
 refine wpAny_bind (wpAny_typeOf B ?_)
 rw [if_neg (by decide)]
 refine wpAny_bind ?_
 unfold Builtin.Dict.merge
 refine wpAny_bind ?_
 unfold Builtin.Dict.readDirectly
 refine wpAny_bind (wpAny_isInstance B isSubtype_dict_dict ?_)
 simp only [Bool.not_true,Bool.false_eq_true,if_false]
 refine wpAny_bind (wpAny_specialOf B F.slot_dict_iter.lookup (wpAny_pure ?_))
 simp only [beq_self_eq_true,if_true]
 refine wpAny_bind (wpAny_pure ?_)
 refine merge_copy (kvs:=kvs) ac a7 O L aa (by omega) fun h' a9 ab=>?_
 show wpAny _ _ (Builtin.Dict.addKeywords s.heap.objs.size [] >>= _) _ _ _
 refine wpAny_bind (wpAny_pure (wpAny_pure ⟨rfl,?_⟩))
 obtain ⟨od,es,ep,g1,g2,g3,g4⟩:=ab
 refine ⟨.ref s.heap.objs.size,_,I.laid (h':=h') (t':=s.toks) (o:=.dT kvs) (fun b o Y=>(a9.2 b (yAN (Heap.lt_size Y))).trans (J _ _ Y)) (yAB _) ⟨z,?_,xs,kt.keeps fun c ys ec=>?_,od,es,ep,g1,g2,g3,g4,U⟩,rfl,q _ (I.hok.fresh (yAB _))⟩
 .have:=I.big
  exact beq_eq_false_iff_ne.mpr (Nat.ne_of_gt this)
 .rw [ZAI (ZAE ec (I.hok.fresh (yAB _)))]
  exact ec
end
theorem rec_fn {P:Program} {w:World} {K:W.Frag} {mg:Str->Option Value} {base:Heap} {x:Str} {f:Addr} {fd:FuncData} {ps:List Str} {sp:Nat->Sp} (J:∀ vs H Q E,sp 0 vs H Q E->False) (z:Binds K fd ps []) (B:W.keepIn K (.ref f)=true) (hm:mg x=some (.ref f))
  (step:∀ n,Fn P w K mg base CX0 x n ps (sp n)->FnOk P w K mg base CX0 (n+1) f fd ps (sp (n+1))):∀ n,Fn P w K mg base CX0 x n ps (sp n)
 | 0=>⟨f,fd,⟨fun vs H Q E h=>(J vs H Q E h).elim,fun A outer s H args us vs Q E _ _ _ _ h=>(J vs H Q E h).elim⟩,z,B,hm⟩
 | n+1=>⟨f,fd,step n (rec_fn J z B hm step n),z,B,hm⟩
section
variable {X:Cx}
end
noncomputable def Itr3 (lo d:Int) (n:Nat):It:=⟨fun i _=>i < n,fun i H x H'=>H'=H /\ x=.int (lo+i * d),fun i _=>n <= i⟩
theorem turn_range3 {P:Program} {w:World} {K:W.Frag} {tg:Expr} (it:Addr) (lo d:Int) (n:Nat):Turn P w K tg (Itr3 lo d n) [it] it (fun i h=>IsRangeIter h it (lo+(i:Nat) * d) ((n:Int)-(i:Nat)) d) where
 mem:=by simp
 obj:=fun i h st b B=>by
  have e:b=it:=by simpa using B
  subst e
  exact ⟨_,st,fun v z=>by
   have z':Data.fields _=Data.cell v:=z
   cases z'⟩
 keep:=fun i h h' st k=>k it (by simp) _ st
 item:=by
  intro X U hw O hc i pins s σ H E I L st Y
  subst U hw O
  obtain ⟨f0,f1,f2,f3,Z,f5⟩:=L it (by simp)
  have W:=Walks.range (prog:=X.prog) (w:=X.w) (I.ok.hd hc) it lo d n
  refine W.item i s _ _ Y st fun v h' tk hv J kk=>?_
  obtain ⟨t,rfl⟩:=hv
  have I1:Inv X pins σ H { s with heap:=h',toks:=tk }:=I.turned (fun b o B e=>kk b o (by simpa using B) e) f0 f1 f3 Z f5
  exact ⟨_,rfl,ZGL (s:={ s with heap:=h',toks:=tk }) (n:="range_iterator") J rfl rfl (by decide) ⟨.int (lo+i * d),H,I1,⟨t,rfl⟩,⟨rfl,rfl⟩,J,fun b B=>(L b B).1⟩⟩
 done:=by
  intro X U hw O hc i pins s σ H E I L st Y
  subst U hw O
  obtain ⟨f0,f1,f2,f3,Z,f5⟩:=L it (by simp)
  exact wpAny_pyNext_range_end (I.ok.hd hc) st (by have:n <= i:=Y;omega) fun h' eb=>⟨rfl,I.turned (t':=s.toks) (fun b o B e=>eb b o B e) f0 f1 f3 Z f5⟩
 self:=fun _ _ _ _ _ st h=>wpAny_pyIter_rangeiter st h
theorem ZBk {a b d:Int} (z:0 < d):Builtin.Range.rangeSize a b d=if a < b then (b-a-1) / d+1 else 0:=by
 unfold Builtin.Range.rangeSize
 rw [if_pos z]
theorem rangeSize_nonneg {a b d:Int} (z:0 < d):0 <= Builtin.Range.rangeSize a b d:=by
 rw [ZBk z]
 split
 .have:0 <= (b-a-1) / d:=Int.ediv_nonneg (by omega) (by omega)
  omega
 .omega
theorem small3 {a b d:Int} (h1:0 <= a) (h2:a <= 1000) (h3:0 <= b) (L:b <= 1000) (B:0 < d) (U:d <= 1000):Builtin.Range.small a b d=true:=by
 unfold Builtin.Range.small
 rw [ZBk B]
 simp only [Builtin.Range.rangeFitsLong,yBK,Bool.or_eq_true,decide_eq_true_eq,beq_iff_eq]
 have O:(b-a-1) / d <= 1000:=by
  by_cases z:0 <= b-a-1
  .exact Int.le_trans (Int.ediv_le_self _ z) (by omega)
  .have:(b-a-1) / d <= 0:=by
    have:=Int.ediv_neg_of_neg_of_pos (show b-a-1 < 0 by omega) B
    omega
   omega
 have Y:-1001 <= (b-a-1) / d:=Int.le_ediv_of_mul_le B (by omega)
 have J:a < b->0 <= (b-a-1) / d:=fun h=>Int.ediv_nonneg (by omega) (by omega)
 split
 .rename_i h
  have:=J h
  refine ⟨by omega,.inr ?_⟩
  rw [yBK,decide_eq_true_iff,decide_eq_true_iff]
  omega
 .exact ⟨by omega,.inl rfl⟩
section
variable {X:Cx} {tg:Expr}
theorem range_it3 {pins:List (Addr×Obj)} {σ:St} {H:Hp} {s:Shared} {R:It->Hp->Prop} {E:Value->Shared->Prop} {lo hi d:Int} {t u v:Tok} {tk:Nat} (I:Inv X pins σ H s) (U:0 < d) (B:Builtin.Range.small lo hi d=true)
  (q:R (Itr3 lo d (Builtin.Range.rangeSize lo hi d).toNat) H):wpAny (model X.prog X.w) X.A (pyIter (.ref s.heap.objs.size)) (PIE X pins σ tg R) E { s with heap:=s.heap.push { cls:=.type "range",data:=.fields #[.int lo t,.int hi u,.int d v] },toks:=tk }:=by
 refine wpAny_pyIter_range (IsRange.new ..) B ?_
 have z:Inv X pins σ H { s with heap:=s.heap.push { cls:=.type "range",data:=.fields #[.int lo t,.int hi u,.int d v] },toks:=tk }:=I.kept fun b o e=>Heap.get?_push_of_some _ e
 refine ⟨(s.heap.push { cls:=.type "range",data:=.fields #[.int lo t,.int hi u,.int d v] }).objs.size,[(s.heap.push { cls:=.type "range",data:=.fields #[.int lo t,.int hi u,.int d v] }).objs.size],_,_,H,rfl,
  z.kept (t':=tk) fun b o e=>Heap.get?_push_of_some _ e,turn_range3 _ lo d (Builtin.Range.rangeSize lo hi d).toNat,?_,fun b J=>?_,q⟩
 .have O:lo+((0:Nat):Int) * d=lo:=by simp
  have L:(((Builtin.Range.rangeSize lo hi d).toNat:Nat):Int)-((0:Nat):Int)=Builtin.Range.rangeSize lo hi d:=by have:=rangeSize_nonneg (a:=lo) (b:=hi) U;omega
  show IsRangeIter _ _ (lo+((0:Nat):Int) * d) ((((Builtin.Range.rangeSize lo hi d).toNat:Nat):Int)-((0:Nat):Int)) d
  rw [O,L]
  exact Heap.get?_push_size _ rfl
 .have e:b=(s.heap.push { cls:=.type "range",data:=.fields #[.int lo t,.int hi u,.int d v] }).objs.size:=by simpa using J
  subst e
  exact z.fpOk (yAB _) (z.hok.fresh (yAB _))
noncomputable def iRng3 (ta:TA):TI:=fun σ H R=>ta σ H fun vs H1=>∃ i j d:Int,vs=[.int i,.int j,.int d] /\ (0 <= i /\ i <= 1000 /\ 0 <= j /\ j <= 1000 /\ 0 < d /\ d <= 1000) /\ R (Itr3 i d (Builtin.Range.rangeSize i j d).toNat) H1
theorem pi_range3 {a b c:Expr} {ta:TA} {p pos:Pos} (hg:Gl X "range") (hm:X.mg "range"=none) (ha:PA X [a,b,c] ta) (L:starEach [a,b,c] X.env=(false,eval a X.env)::starEach [b,c] X.env:=by rfl) (z:(backTo pos (starEach [b,c] X.env)).any (·.1)=false:=by rfl) :
  PI X tg (.Call (.Name "range" p) [a,b,c] [] pos) (iRng3 ta):=by
 intro pins s σ H R I h
 refine Call_ (ZCZ I hg hm boot_range (PyProof.Rows.callWith_type1 (thn (ha pos pins s σ H _ I h) fun us s1 O=>?_) L z))
 obtain ⟨vs,H1,I1,Y,B⟩:=O
 obtain ⟨i,j,d,e,⟨B,Z,U,q4,J,q6⟩,q⟩:=B
 subst e
 cases Y with
 | cons r rr=>
  cases rr with
  | cons r' rr=>
   cases rr with
   | cons r'' rr=>
    cases rr
    obtain ⟨t,rfl⟩:=r
    obtain ⟨t',rfl⟩:=r'
    obtain ⟨a0,rfl⟩:=r''
    exact call_range_3 (by omega) (range_it3 I1 J (small3 B Z U q4 J q6) q) (.inl (PyProof.noPylong_small (by omega)))
end
noncomputable def compR3 (g:TG) (tt:TT) (te:TE) (σ0:St) (Q:VK) (x y z:V) (H1:Hp):Prop:=∃ i j d:Int,[x,y,z]=[.int i,.int j,.int d] /\ (0 <= i /\ i <= 1000 /\ 0 <= j /\ j <= 1000 /\ 0 < d /\ d <= 1000) /\
 ∃ W:Nat->Nat->List V->St->Hp->Prop,(∃ m,W 0 m [] σ0 H1) /\ ∀ k m ys σ H,W k m ys σ H ->
   ((Itr3 i d (Builtin.Range.rangeSize i j d).toNat).stop k H /\ ys.length <= sizeLine /\ ∀ p,H p=none->Q (.ref p) (upd H p (.lst ys))) ∨
   ((Itr3 i d (Builtin.Range.rangeSize i j d).toNat).go k H /\ ys.length < sizeLine /\ ∀ x H',(Itr3 i d (Builtin.Range.rangeSize i j d).toNat).yld k H x H'->g x σ H' fun σ2 H2=>tt σ2 H2 fun b H3=>if b=true then te σ2 H3 fun y H4=>∃ m',m' < m /\ W (k+1) m' (ys++[y]) σ2 H4 else ∃ m',m' < m /\ W (k+1) m' ys σ2 H3)
theorem tCompR3_eq {k:Nat} {js:List Nat} {t u v:TE} {g:TG} {tt:TT} {te:TE} {σ:St} {H:Hp} {Q:VK}:ZEO k js (iRng3 (ZCG t (ZCG u (ZCG v tNil)))) g tt te σ H Q=t σ H (fun x H1=>u σ H1 fun y H2=>v σ H2 fun z H3=>compR3 g tt te (up k js σ) Q x y z H3):=rfl
theorem compR3_of {i j d:Int} {n:Nat} {g:TG} {tt:TT} {te:TE} {Q:VK} {σ0:St} {H:Hp} (h:0 <= i /\ i <= 1000 /\ 0 <= j /\ j <= 1000 /\ 0 < d /\ d <= 1000) (hn:(Builtin.Range.rangeSize i j d).toNat=n) (U:n <= sizeLine) (P:Nat->List V->St->Hp->Prop) (J:P 0 [] σ0 H) (hl:∀ i ys σ H,P i ys σ H->ys.length <= i)
  (B:∀ k ys σ H,k < n->P k ys σ H->g (.int (i+k * d)) σ H fun z H2=>tt z H2 fun b H3=>if b=true then te z H3 fun y H4=>Nxt P n k (ys++[y]) z H4 else Nxt P n k ys z H3)
  (L:∀ ys σ H,P n ys σ H->∀ p,H p=none->Q (.ref p) (upd H p (.lst ys))):compR3 g tt te σ0 Q (.int i) (.int j) (.int d) H:=by
 refine ⟨i,j,d,rfl,h,?_⟩
 rw [hn]
 refine ⟨fun k m ys σ H=>m=n-k /\ k <= n /\ P k ys σ H,⟨n,by simp,yAJ _,J⟩,?_⟩
 rintro k m ys σ H ⟨rfl,hi,p⟩
 have O:=hl k ys σ H p
 by_cases hlt:k < n
 .refine .inr ⟨hlt,by omega,fun x H' y=>?_⟩
  obtain ⟨rfl,rfl⟩:=y
  exact B k ys σ _ hlt p
 .have e:k=n:=by omega
  subst e
  exact .inl ⟨yAB _,by omega,L ys σ H p⟩
noncomputable def tBL (K:W.Frag) (t:TE):TT:=fun σ H Q=>t σ H fun x H1=>∃ a xs,x=.ref a /\ SqL K H1 a xs /\ Q (!xs.isEmpty) H1
section
variable {X:Cx}
theorem pt_lst {e:Expr} {t:TE} (h:PE X e t) (J:∀ z,isTrue e X.env z=(do let v <- z;standAt e.pos;holding [v] (truthy v)):=by intro _;rfl):PT X e (tBL X.K t):=by
 intro pins s σ H Q I hw
 refine isTrue_plain (thn (h pins s σ H _ I hw) fun v s1 L=>?_) (J _)
 obtain ⟨x,H1,B,O,Z⟩:=L
 obtain ⟨a,xs,rfl,U,q⟩:=Z
 cases O
 obtain ⟨its,Y,p,hz⟩:=B.list U
 have hl:=Y.length
 refine wpAny_truthy_list p.isList ?_ ?_
 .rw [yAP,<- hl]
  exact Int.lt_of_le_of_lt (Int.ofNat_le.mpr hz) (by decide)
 .refine ⟨H1,B.kept (t':=s1.toks+1+1) (fun b o e=>e),?_⟩
  have:(!(its.toArray).isEmpty)=!xs.isEmpty:=by
   cases xs <;> cases its <;> first | rfl | cases hl
  rw [this];exact q
end
theorem small3N {a b d:Int} (h1:0 <= a) (h2:a <= 1000) (h3:-1000 <= b) (L:b <= 1000) (B:0 < d) (U:d <= 1000):Builtin.Range.small a b d=true:=by
 unfold Builtin.Range.small
 rw [ZBk B]
 simp only [Builtin.Range.rangeFitsLong,yBK,Bool.or_eq_true,decide_eq_true_eq,beq_iff_eq]
 have O:(b-a-1) / d <= 1000:=by
  by_cases z:0 <= b-a-1
  .exact Int.le_trans (Int.ediv_le_self _ z) (by omega)
  .have:(b-a-1) / d <= 0:=by
    have:=Int.ediv_neg_of_neg_of_pos (show b-a-1 < 0 by omega) B
    omega
   omega
 have Y:-2001 <= (b-a-1) / d:=Int.le_ediv_of_mul_le B (by omega)
 have J:a < b->0 <= (b-a-1) / d:=fun h=>Int.ediv_nonneg (by omega) (by omega)
 split
 .rename_i h
  have:=J h
  refine ⟨by omega,.inr ?_⟩
  rw [yBK,decide_eq_true_iff,decide_eq_true_iff]
  omega
 .exact ⟨by omega,.inl rfl⟩
section
variable {X:Cx} {tg:Expr}
noncomputable def iRng3N (ta:TA):TI:=fun σ H R=>ta σ H fun vs H1=>∃ i j d:Int,vs=[.int i,.int j,.int d] /\ (0 <= i /\ i <= 1000 /\ -1000 <= j /\ j <= 1000 /\ 0 < d /\ d <= 1000) /\ R (Itr3 i d (Builtin.Range.rangeSize i j d).toNat) H1
theorem pi_range3N {a b c:Expr} {ta:TA} {p pos:Pos} (hg:Gl X "range") (hm:X.mg "range"=none) (ha:PA X [a,b,c] ta) (L:starEach [a,b,c] X.env=(false,eval a X.env)::starEach [b,c] X.env:=by rfl) (z:(backTo pos (starEach [b,c] X.env)).any (·.1)=false:=by rfl) :
  PI X tg (.Call (.Name "range" p) [a,b,c] [] pos) (iRng3N ta):=by
 intro pins s σ H R I h
 refine Call_ (ZCZ I hg hm boot_range (PyProof.Rows.callWith_type1 (thn (ha pos pins s σ H _ I h) fun us s1 O=>?_) L z))
 obtain ⟨vs,H1,I1,Y,B⟩:=O
 obtain ⟨i,j,d,e,⟨B,Z,U,q4,J,q6⟩,q⟩:=B
 subst e
 cases Y with
 | cons r rr=>
  cases rr with
  | cons r' rr=>
   cases rr with
   | cons r'' rr=>
    cases rr
    obtain ⟨t,rfl⟩:=r
    obtain ⟨t',rfl⟩:=r'
    obtain ⟨a0,rfl⟩:=r''
    exact call_range_3 (by omega) (range_it3 I1 J (small3N B Z U q4 J q6) q) (.inl (PyProof.noPylong_small (by omega)))
end
noncomputable def forR3 (g:TG) (tb:TS) (D:Ends) (σ:St) (x y z:V) (H1:Hp):Prop:=∃ i j d:Int,[x,y,z]=[.int i,.int j,.int d] /\ (0 <= i /\ i <= 1000 /\ -1000 <= j /\ j <= 1000 /\ 0 < d /\ d <= 1000) /\ ∃ W:Nat->Nat->St->Hp->Prop,(∃ m,W 0 m σ H1) /\ ∀ k m σ H,W k m σ H ->
 ((Itr3 i d (Builtin.Range.rangeSize i j d).toNat).stop k H /\ D.nx σ H)∨((Itr3 i d (Builtin.Range.rangeSize i j d).toNat).go k H /\ ∃ N:St->Hp->Prop,(∀ σ' H',N σ' H'->∃ m',m' < m /\ W (k+1) m' σ' H') /\ ∀ x H',(Itr3 i d (Builtin.Range.rangeSize i j d).toNat).yld k H x H'->g x σ H' fun σ2 H2=>tb { D with nx:=N,ct:=N,bk:=D.nx } σ2 H2)
theorem tForR3_eq {t u v:TE} {g:TG} {tb:TS} {D:Ends} {σ:St} {H:Hp}:tFor (iRng3N (ZCG t (ZCG u (ZCG v tNil)))) g tb D σ H=t σ H (fun x H1=>u σ H1 fun y H2=>v σ H2 fun z H3=>forR3 g tb D σ x y z H3):=rfl
theorem forR3_of {i j d:Int} {n:Nat} {g:TG} {tb:TS} {D:Ends} {σ:St} {H:Hp} (h:0 <= i /\ i <= 1000 /\ -1000 <= j /\ j <= 1000 /\ 0 < d /\ d <= 1000) (hn:(Builtin.Range.rangeSize i j d).toNat=n) (z:Nat->St->Hp->Prop) (Y:z 0 σ H)
  (J:∀ (k:Nat) σ H,k < n->z k σ H->g (.int (i+k * d)) σ H fun B H2=>tb { D with nx:=z (k+1),ct:=z (k+1),bk:=D.nx } B H2) (Z:∀ σ H,z n σ H->D.nx σ H):forR3 g tb D σ (.int i) (.int j) (.int d) H:=by
 refine ⟨i,j,d,rfl,h,?_⟩
 rw [hn]
 refine ⟨fun k m σ H=>m=n-k /\ k <= n /\ z k σ H,⟨n,by simp,yAJ _,Y⟩,?_⟩
 rintro k m σ H ⟨rfl,hi,p⟩
 by_cases hlt:k < n
 .refine .inr ⟨hlt,z (k+1),fun O H' U=>⟨n-(k+1),by omega,rfl,hlt,U⟩,fun x H' y=>?_⟩
  obtain ⟨e,L⟩:=y
  subst e
  subst L
  exact J k σ _ hlt p
 .have e:k=n:=by omega
  subst e
  exact .inl ⟨yAB k,Z σ H p⟩
end L2
namespace Gr
noncomputable def qt (m a:Int) (p:Nat):Int:=a * 2 ^ p / (2 * m)
structure IsG (m a b:Int) (g:Nat):Prop where
 pos:1 <= g
 eq:∀ q,1 <= q->q < g->qt m a q=qt m b q
 ne:qt m a g≠qt m b g
theorem p2pos (p:Nat):(0:Int) < 2 ^ p:=Int.pow_pos (by decide)
theorem IsG.uniq {m a b:Int} {g h:Nat} (x:IsG m a b g) (y:IsG m a b h):g=h:=by
 rcases Nat.lt_trichotomy g h with l | l | l
 .exact absurd (y.eq g x.pos l) x.ne
 .exact l
 .exact absurd (x.eq h y.pos l) y.ne
theorem qt_ne {m a b:Int} {p:Nat} (hm:0 < m) (z:a+2 <= b) (B:m <= 2 ^ p):qt m a p≠qt m b p:=by
 unfold qt
 have h1:a * 2 ^ p+2 * m <= b * 2 ^ p:=by
  have:(a+2) * 2 ^ p <= b * 2 ^ p:=Int.mul_le_mul_of_nonneg_right z (Int.le_of_lt (p2pos p))
  rw [Int.add_mul] at this
  omega
 have h2:(a * 2 ^ p+2 * m) / (2 * m) <= b * 2 ^ p / (2 * m):=Int.ediv_le_ediv (by omega) h1
 rw [Int.add_ediv_of_dvd_right (Int.dvd_refl _),Int.ediv_self (by omega)] at h2
 omega
end Gr
namespace Gr
end Gr
namespace Pw
noncomputable abbrev A3:=Nat×Nat×Bool
inductive Pg (α:Type) where
 | ret (a:α):Pg α
 | ask (p q:Nat) (k:Bool->Pg α):Pg α
noncomputable def Pg.bind {α β:Type} (f:α->Pg β):Pg α->Pg β
 | .ret a=>f a
 | .ask p q k=>.ask p q fun b=>(k b).bind f
noncomputable def ahd {α:Type} (p q:Nat) (k:Bool->Pg α):Pg α:=.ask (max p q) (min p q) fun b=>k (if q < p then b else !b)
noncomputable def Pg.run {α:Type} (An:Nat->Nat->Nat->Bool):Nat->Pg α->α×List A3
 | _,.ret a=>(a,[])
 | n,.ask p q k=>(((k (An n p q)).run An (n+1)).1,(p,q,An n p q)::((k (An n p q)).run An (n+1)).2)
section
variable {α β:Type} {n:Nat} {An:Nat->Nat->Nat->Bool}
noncomputable def Wp (n:Nat) (An:Nat->Nat->Nat->Bool):Pg α->List A3->(α->List A3->Prop)->Prop
 | .ret a,pr,post=>post a pr
 | .ask p q k,pr,post=>q < p /\ p < n /\ pr.length <= 800000 /\ Wp n An (k (An pr.length p q)) (pr++[(p,q,An pr.length p q)]) post
theorem Wp.imp {P Q:α->List A3->Prop}:∀ {x:Pg α} {pr:List A3},Wp n An x pr P->(∀ a pr',P a pr'->Q a pr')->Wp n An x pr Q
 | .ret a,pr,h,f=>f a pr h
 | .ask p q k,pr,h,f=>⟨h.1,h.2.1,h.2.2.1,h.2.2.2.imp f⟩
theorem Wp.bind {f:α->Pg β} {P:β->List A3->Prop}:∀ {x:Pg α} {pr:List A3},Wp n An (x.bind f) pr P->Wp n An x pr fun a pr'=>Wp n An (f a) pr' P
 | .ret a,pr,h=>h
 | .ask p q k,pr,h=>⟨h.1,h.2.1,h.2.2.1,Wp.bind h.2.2.2⟩
noncomputable def Pg.Al:Pg α->(α->Prop)->Prop
 | .ret a,P=>P a
 | .ask _ _ k,P=>∀ b,(k b).Al P
theorem Pg.Al.imp {P Q:α->Prop}:∀ {x:Pg α},x.Al P->(∀ a,P a->Q a)->x.Al Q
 | .ret a,h,f=>f a h
 | .ask _ _ k,h,f=>fun b=>(h b).imp f
theorem Pg.Al.bind {f:α->Pg β} {P:β->Prop}:∀ {x:Pg α},(x.Al fun a=>(f a).Al P)->(x.bind f).Al P
 | .ret a,h=>h
 | .ask _ _ k,h=>fun b=>Pg.Al.bind (h b)
theorem Wp.also {P:α->List A3->Prop} {Q:α->Prop}:∀ {x:Pg α} {pr:List A3},Wp n An x pr P->x.Al Q->Wp n An x pr fun a pr'=>Q a /\ P a pr'
 | .ret a,pr,h,g=>⟨g,h⟩
 | .ask p q k,pr,h,g=>⟨h.1,h.2.1,h.2.2.1,h.2.2.2.also (g _)⟩
noncomputable def Wa (n:Nat):Pg α->List A3->(α->List A3->Prop)->Prop
 | .ret a,pr,post=>post a pr
 | .ask p q k,pr,post=>q < p /\ p < n /\ pr.length <= 800000 /\ ∀ b,Wa n (k b) (pr++[(p,q,b)]) post
theorem Wa.imp {P Q:α->List A3->Prop}:∀ {x:Pg α} {pr:List A3},Wa n x pr P->(∀ a pr',P a pr'->Q a pr')->Wa n x pr Q
 | .ret a,pr,h,f=>f a pr h
 | .ask p q k,pr,h,f=>⟨h.1,h.2.1,h.2.2.1,fun b=>(h.2.2.2 b).imp f⟩
theorem Wa.bind {f:α->Pg β} {P:β->List A3->Prop}:∀ {x:Pg α} {pr:List A3},(Wa n x pr fun a pr'=>Wa n (f a) pr' P)->Wa n (x.bind f) pr P
 | .ret a,pr,h=>h
 | .ask p q k,pr,h=>⟨h.1,h.2.1,h.2.2.1,fun b=>Wa.bind (h.2.2.2 b)⟩
theorem Wa.wp (An:Nat->Nat->Nat->Bool) {P:α->List A3->Prop}:∀ {x:Pg α} {pr:List A3},Wa n x pr P->Wp n An x pr fun a pr'=>P a pr' /\ (a,pr')=((x.run An pr.length).1,pr++(x.run An pr.length).2)
 | .ret a,pr,h=>⟨h,by rw [Pg.run,yAY]⟩
 | .ask p q k,pr,h=>by
  refine ⟨h.1,h.2.1,h.2.2.1,(Wa.wp An (h.2.2.2 _)).imp fun a pr' z=>⟨z.1,?_⟩⟩
  have e:(pr++[(p,q,An pr.length p q)]).length=pr.length+1:=by rw [yAE];rfl
  rw [z.2,Pg.run,e,yAV];rfl
theorem run_an:∀ (x:Pg α) (k:Nat) (i:Nat) (e:A3),(x.run An k).2[i]?=some e->e.2.2=An (k+i) e.1 e.2.1
 | .ret a,k,i,e,h=>by rw [Pg.run] at h;simp at h
 | .ask p q f,k,i,e,h=>by
  rw [Pg.run] at h
  cases i with
  | zero=>cases h;rfl
  | succ i=>
   have:=run_an _ (k+1) i e h
   rw [this,show k+1+i=k+(i+1) by omega]
theorem run_post {P:α->List A3->Prop} (An:Nat->Nat->Nat->Bool):∀ {x:Pg α} {pr:List A3},Wa n x pr P->P (x.run An pr.length).1 (pr++(x.run An pr.length).2)
 | .ret a,pr,h=>by rw [Pg.run,yAY];exact h
 | .ask p q k,pr,h=>by
  have:=run_post An (h.2.2.2 (An pr.length p q))
  rw [yAE,yBE,yAV] at this
  rw [Pg.run];exact this
theorem run_same (h:∀ k z p q,An k p q=An z p q):∀ (x:Pg α) (k z:Nat),x.run An k=x.run An z
 | .ret a,k,z=>rfl
 | .ask p q f,k,z=>by rw [Pg.run,Pg.run,h k z p q,run_same h _ (k+1) (z + 1)]
theorem ZDU {f:α->Pg β}:∀ (x:Pg α) (k:Nat),(x.bind f).run An k=(((f (x.run An k).1).run An (k+(x.run An k).2.length)).1,(x.run An k).2++((f (x.run An k).1).run An (k+(x.run An k).2.length)).2)
 | .ret a,k=>by rw [Pg.bind,Pg.run];simp
 | .ask p q g,k=>by
  rw [Pg.bind,Pg.run,Pg.run,ZDU (g (An k p q)) (k+1)]
  simp [Nat.add_assoc,Nat.add_comm 1]
end
noncomputable def Td (pr:List A3) (p q:Nat):Prop:=∃ b,(max p q,min p q,b)∈pr /\ (if q < p then b else !b)=true
theorem Td.mono {pr pr':List A3} {p q:Nat} (h:Td pr p q) (f:pr <+: pr'):Td pr' p q:=let ⟨b,h1,h2⟩:=h;⟨b,f.subset h1,h2⟩
theorem Wa.ahd {α:Type} {n p q:Nat} {pr:List A3} {k:Bool->Pg α} {P:α->List A3->Prop} (B:p≠q) (J:p < n) (L:q < n) (hl:pr.length <= 800000)
  (h:∀ b pr',pr <+: pr'->pr'.length=pr.length+1->(b=true->Td pr' p q)->(b=false->Td pr' q p)->Wa n (k b) pr' P):Wa n (ahd p q k) pr P:=by
 refine ⟨by omega,by omega,hl,fun b=>h _ _ (List.prefix_append _ _) (by rw [yAE];rfl) (fun z=>⟨b,yAQ _ yAC,z⟩) fun z=>⟨b,yAQ _ (by rw [show max q p=max p q by omega,show min q p=min p q by omega];exact yAC),?_⟩⟩
 by_cases c:q < p
 .rw [if_pos c] at z
  rw [if_neg (by omega),z];rfl
 .rw [if_neg c] at z
  rw [if_pos (by omega)]
  cases b
  .cases z
  .rfl
noncomputable def Nb (R:Nat->Nat->Prop):List Nat->Prop
 | []=>True
 | [_]=>True
 | a::b::l=>R a b /\ Nb R (b::l)
theorem Nb.mono {R S:Nat->Nat->Prop} (f:∀ a b,R a b->S a b):∀ {l:List Nat},Nb R l->Nb S l
 | [],_=>trivial
 | [_],_=>trivial
 | _::_::_,h=>⟨f _ _ h.1,Nb.mono f h.2⟩
theorem Nb.split {R:Nat->Nat->Prop} {x:Nat} {r:List Nat}:∀ {l:List Nat},Nb R (l++x::r)↔Nb R (l++[x]) /\ Nb R (x::r)
 | []=>⟨fun h=>⟨trivial,h⟩,fun h=>h.2⟩
 | [a]=>⟨fun h=>⟨⟨h.1,trivial⟩,h.2⟩,fun h=>⟨h.1.1,h.2⟩⟩
 | a::b::l=>⟨fun h=>⟨⟨h.1,(Nb.split (l:=b::l).mp h.2).1⟩,(Nb.split (l:=b::l).mp h.2).2⟩,fun h=>⟨h.1.1,(Nb.split (l:=b::l)).mpr ⟨h.1.2,h.2⟩⟩⟩
theorem Nb.left {R:Nat->Nat->Prop} {l r:List Nat} (h:Nb R (l++r)):Nb R l:=by
 induction l with
 | nil=>exact trivial
 | cons a l ih=>
  cases l with
  | nil=>exact trivial
  | cons b l=>exact ⟨h.1,ih h.2⟩
theorem Nb.right {R:Nat->Nat->Prop} {r:List Nat}:∀ {l:List Nat},Nb R (l++r)->Nb R r
 | [],h=>h
 | [a],h=>by
  cases r with
  | nil=>exact trivial
  | cons b r=>exact h.2
 | a::b::l,h=>Nb.right (l:=b::l) h.2
theorem Nb.two {R:Nat->Nat->Prop} {l r:List Nat} {x y:Nat}:Nb R (l++x::y::r)↔Nb R (l++[x]) /\ R x y /\ Nb R (y::r):=Nb.split
theorem Nb.rev {R:Nat->Nat->Prop}:∀ {l:List Nat},Nb (fun a b=>R b a) l->Nb R l.reverse
 | [],_=>trivial
 | [_],_=>trivial
 | a::b::l,h=>by
  have:=Nb.rev h.2
  rw [List.reverse_cons] at this
  rw [List.reverse_cons,List.reverse_cons,yAV]
  exact Nb.two.mpr ⟨this,h.1,trivial⟩
noncomputable abbrev Nt (pr:List A3):List Nat->Prop:=Nb (Td pr)
theorem Nt.mono {pr pr':List A3} {l:List Nat} (h:Nt pr l) (f:pr <+: pr'):Nt pr' l:=Nb.mono (fun _ _ z=>z.mono f) h
noncomputable def galP (os:List Nat) (pl:Nat):Nat->Nat->Nat->Pg (Nat×Nat)
 | 0,lo,hi=>.ret (lo,hi)
 | n+1,lo,hi=>if hi < os.length then ahd (os.getD hi 0) pl fun b=>if b then galP os pl n (hi+1) (2 * hi+1) else .ret (lo,hi) else .ret (lo,hi)
noncomputable def binP (os:List Nat) (pl:Nat):Nat->Nat->Nat->Pg Nat
 | 0,_,hi=>.ret hi
 | n+1,lo,hi=>if lo < hi then ahd (os.getD ((lo+hi-1) / 2) 0) pl fun b=>if b then binP os pl n ((lo+hi-1) / 2+1) hi else binP os pl n lo ((lo+hi-1) / 2) else .ret hi
noncomputable def ZFG (os:List Nat) (pl:Nat):Pg Nat:=(galP os pl os.length 0 0).bind fun r=>binP os pl os.length r.1 (min r.2 os.length)
noncomputable def ZDC:Nat->Bool->Nat->List Nat->List Nat->List Nat->Pg (List Nat)
 | n+1,s,w,x::l,y::r,acc=>ahd x y fun b=>
  if (if b=s then w+1 else 1)=4 then
   if b then (ZFG l y).bind fun k=>if k < l.length then ZDC n b 0 (l.drop k) r (acc++x::l.take k++[y]) else ZDC n b 0 (l.drop k) (y::r) (acc++x::l.take k)
   else (ZFG r x).bind fun k=>if k < r.length then ZDC n b 0 l (r.drop k) (acc++y::r.take k++[x]) else ZDC n b 0 (x::l) (r.drop k) (acc++y::r.take k)
  else if b then ZDC n b (if b=s then w+1 else 1) l (y::r) (acc++[x]) else ZDC n b (if b=s then w+1 else 1) (x::l) r (acc++[y])
 | _,_,_,l,r,acc=>.ret (acc++l++r)
noncomputable def ZEF (l r:List Nat):Pg (List Nat):=ZDC (l.length+r.length) true 0 l r []
noncomputable def hvP (os:List Nat) (pl:Nat):Nat->Nat->Nat->Pg Nat
 | 0,lo,_=>.ret lo
 | n+1,lo,hi=>if lo < hi then ahd (os.getD ((lo+hi) / 2) 0) pl fun b=>if b then hvP os pl n ((lo+hi) / 2+1) hi else hvP os pl n lo ((lo+hi) / 2) else .ret lo
noncomputable def ZFC (os:List Nat) (pl:Nat):Pg Nat:=hvP os pl os.length 0 os.length
noncomputable def insN (os:List Nat) (r x:Nat):List Nat:=os.take r++x::os.drop r
noncomputable def putP (sp:List Nat->Nat->Pg Nat):Nat->Nat->List Nat->Pg (List Nat)
 | 0,_,os=>.ret os
 | n+1,pl,os=>(sp os pl).bind fun r=>putP sp n (pl+1) (insN os r pl)
noncomputable def runP (stop:Nat) (fal:Bool):Nat->Nat->Pg (Nat×Bool)
 | 0,by'=>.ret (by',fal)
 | n+1,by'=>if by' < stop then ahd by' (by' - 1) fun b=>if b=fal then runP stop fal n (by' + 1) else .ret (by',fal) else .ret (by',fal)
noncomputable def strP (stop first:Nat):Pg (Nat×Bool):=if first+1 < stop then ahd (first+1) first fun b=>runP stop b stop (first+2) else .ret (first+1,false)
noncomputable def turnN (a b:Nat) (f:Bool):List Nat:=if f then (List.range' a (b-a)).reverse else List.range' a (b-a)
noncomputable def ZF0 (ls stop first:Nat):Pg (Nat×List Nat):=(strP stop first).bind fun r=>(putP ZFC (min (first+ls) stop-r.1) r.1 (turnN first r.1 r.2)).bind fun os=>.ret (r.1,os)
section
variable {n:Nat} {pr:List A3}
noncomputable def In (n:Nat) (os:List Nat) (pl:Nat):Prop:=∀ x∈os,x < n /\ x≠pl
theorem ZCo {os:List Nat} {i:Nat} (h:i < os.length):os[i]?=some (os.getD i 0) /\ os.getD i 0∈os:=by
 rw [yBH,yAI h]
 exact ⟨rfl,List.getElem_mem h⟩
structure Bd (pr:List A3) (os:List Nat) (pl lo hi:Nat):Prop where
 lo:lo=0∨Td pr (os.getD (lo-1) 0) pl
 hi:os.length <= hi∨Td pr pl (os.getD hi 0)
theorem galP_al {os:List Nat} {pl:Nat} (B:In n os pl) (J:pl < n):∀ (m lo hi:Nat) (pr:List A3),os.length <= m+hi->lo <= hi->hi <= 2 * lo->lo <= os.length->Bd pr os pl lo os.length->pr.length+2 * os.length <= 800000+lo->Wa n (galP os pl m lo hi) pr fun r pr'=>pr <+: pr' /\ r.1 <= r.2 /\ r.2 <= 2 * r.1 /\ r.1 <= os.length /\ Bd pr' os pl r.1 r.2 /\ pr'.length+lo <= pr.length+r.1+1
 | 0,lo,hi,pr,hm,h1,h2,h3,b,c=>⟨yAT _,h1,h2,h3,⟨b.lo,.inl (by omega)⟩,by omega⟩
 | m+1,lo,hi,pr,hm,h1,h2,h3,b,c=>by
  rw [galP]
  by_cases z:hi < os.length
  .rw [if_pos z]
   obtain ⟨Z,L⟩:=ZCo z
   refine Wa.ahd (B _ L).2 (B _ L).1 J (by omega) fun b' pr' f1 Y O U=>?_
   cases b'
   .exact ⟨f1,h1,h2,h3,⟨b.lo.imp id fun z=>z.mono f1,.inr (U rfl)⟩,by omega⟩
   .refine (galP_al B J m (hi+1) (2 * hi+1) pr' (by omega) (by omega) (by omega) (by omega) ⟨.inr (O rfl),.inl (yAB _)⟩ (by omega)).imp fun r pr2 h=>⟨f1.trans h.1,h.2.1,h.2.2.1,h.2.2.2.1,h.2.2.2.2.1,?_⟩
    have:=h.2.2.2.2.2
    omega
  .rw [if_neg z]
   exact ⟨yAT _,h1,h2,h3,⟨b.lo,.inl (by omega)⟩,by omega⟩
theorem ZE4 {os:List Nat} {pl:Nat} (B:In n os pl) (J:pl < n):∀ (m lo hi:Nat) (pr:List A3),hi-lo <= m->lo <= hi->hi <= os.length->Bd pr os pl lo hi->pr.length+(hi-lo) <= 800000->Wa n (binP os pl m lo hi) pr fun r pr'=>pr <+: pr' /\ lo <= r /\ r <= hi /\ Bd pr' os pl r r /\ pr'.length <= pr.length+(hi-lo)
 | 0,lo,hi,pr,hm,h1,h2,b,c=>by
  have:lo=hi:=by omega
  subst this
  exact ⟨yAT _,h1,h1,b,by omega⟩
 | m+1,lo,hi,pr,hm,h1,h2,b,c=>by
  rw [binP]
  by_cases z:lo < hi
  .rw [if_pos z]
   have L:lo <= (lo+hi-1) / 2:=by omega
   have O:(lo+hi-1) / 2 < hi:=by omega
   generalize (lo+hi-1) / 2=mi at L O
   obtain ⟨g1,U⟩:=ZCo (os:=os) (i:=mi) (by omega)
   refine Wa.ahd (B _ U).2 (B _ U).1 J (by omega) fun b' pr' f1 l1 Y Z=>?_
   cases b'
   .refine (ZE4 B J m lo mi pr' (by omega) (by omega) (by omega) ⟨b.lo.imp id fun z=>z.mono f1,.inr (Z rfl)⟩ (by omega)).imp fun r pr2 h=>⟨f1.trans h.1,h.2.1,?_,h.2.2.2.1,?_⟩
    .have:=h.2.2.1;omega
    .have:=h.2.2.2.2;omega
   .refine (ZE4 B J m (mi+1) hi pr' (by omega) (by omega) (by omega) ⟨.inr (Y rfl),b.hi.imp id fun z=>z.mono f1⟩ (by omega)).imp fun r pr2 h=>⟨f1.trans h.1,?_,h.2.2.1,h.2.2.2.1,?_⟩
    .have:=h.2.1;omega
    .have:=h.2.2.2.2;omega
  .rw [if_neg z]
   have:lo=hi:=by omega
   subst this
   exact ⟨yAT _,h1,h1,b,by omega⟩
theorem leapP_al {os:List Nat} {pl:Nat} (B:In n os pl) (J:pl < n) (c:pr.length+3 * os.length+2 <= 800000):Wa n (ZFG os pl) pr fun k pr'=>pr <+: pr' /\ k <= os.length /\ Bd pr' os pl k k /\ pr'.length <= pr.length+2 * k+1:=by
 refine Wa.bind ((galP_al B J os.length 0 0 pr (by omega) (yAB _) (yAB _) (yAJ _) ⟨.inl rfl,.inl (yAB _)⟩ (by omega)).imp fun r pr' h=>?_)
 obtain ⟨f1,h1,h2,h3,b,O⟩:=h
 have L:Bd pr' os pl r.1 (min r.2 os.length):=⟨b.lo,by
  by_cases z:r.2 < os.length
  .rw [yBX (by omega)];exact b.hi
  .exact .inl (by omega)⟩
 refine (ZE4 B J os.length r.1 (min r.2 os.length) pr' (by omega) (by omega) (by omega) L (by omega)).imp fun k pr2 h=>⟨f1.trans h.1,?_,h.2.2.2.1,?_⟩
 .have:=h.2.2.1;omega
 .have Y:=h.2.2.2.2
  have U:=h.2.1
  omega
theorem Nb.app {R:Nat->Nat->Prop} {A B:List Nat} (h1:Nb R A) (h2:Nb R B) (h:∀ J z u L,A=J++[z]->B=u::L->R z u):Nb R (A++B):=by
 cases B with
 | nil=>rw [yAY];exact h1
 | cons u B=>
  rcases List.eq_nil_or_concat A with rfl | ⟨J,z,rfl⟩
  .exact h2
  .rw [List.concat_eq_append,yAV]
   rw [List.concat_eq_append] at h1 h
   exact Nb.two.mpr ⟨h1,h J z u B rfl rfl,h2⟩
theorem take_last {os A:List Nat} {k z:Nat} (J:k <= os.length) (h:os.take k=A++[z]):0 < k /\ z=os.getD (k-1) 0:=by
 have e:=congrArg List.length h
 rw [yBA,yAE,yBE] at e
 refine ⟨by omega,?_⟩
 have B:(os.take k)[k-1]?=some z:=by rw [h,yBC (by omega),show k-1-A.length=0 by omega];rfl
 rw [List.getElem?_take,if_pos (by omega)] at B
 rw [yBH,B];rfl
theorem ZDp {os B:List Nat} {k z:Nat} (h:os.drop k=z::B):k < os.length /\ z=os.getD k 0:=by
 have e:=congrArg List.length h
 rw [yAU,yAG] at e
 refine ⟨by omega,?_⟩
 have J:(os.drop k)[0]?=some z:=by rw [h];rfl
 rw [yCO,Nat.add_zero] at J
 rw [yBH,J];rfl
theorem Nb.take {R:Nat->Nat->Prop} {os:List Nat} (h:Nb R os) (k:Nat):Nb R (os.take k):=Nb.left (r:=os.drop k) (by rw [yBO];exact h)
theorem Nb.drop {R:Nat->Nat->Prop} {os:List Nat} (h:Nb R os) (k:Nat):Nb R (os.drop k):=Nb.right (l:=os.take k) (by rw [yBO];exact h)
theorem ZDW {A B:List Nat} {y z:Nat} (h:A++[y]=B++[z]):y=z:=by
 have:=congrArg List.getLast? h
 rw [List.getLast?_append,List.getLast?_append] at this
 exact Option.some.inj this
theorem leap_nt {J m t:List Nat} {x y k:Nat} (h1:Nt pr (J++x::m)) (h2:Nt pr (J++y::t)) (Y:Td pr x y) (Z:k <= m.length) (b:Bd pr m y k k):Nt pr (J++x::m.take k++y::t) /\ (k < m.length->Nt pr (J++x::m.take k++[y]++m.drop k)):=by
 have e:J++x::m=(J++x::m.take k)++m.drop k:=by rw [yAV,yCI,yBO]
 rw [e] at h1
 have hl:∀ t',Nt pr (y::t')->Nt pr (J++x::m.take k++y::t'):=fun t' ht=>Nb.app h1.left ht fun A z u B L U=>by
  cases U
  rcases List.eq_nil_or_concat (m.take k) with O | ⟨M,z',O⟩
  .rw [O] at L
   rw [<- ZDW L];exact Y
  .rw [List.concat_eq_append] at O
   obtain ⟨k0,e4⟩:=take_last Z O
   rw [O,<- yCI,<- yAV] at L
   rw [<- ZDW L,e4]
   rcases b.lo with z | z
   .omega
   .exact z
 refine ⟨hl t h2.right,fun a0=>Nb.app (hl [] trivial) h1.right fun A z u B L U=>?_⟩
 rw [<- ZDW L,(ZDp U).2]
 rcases b.hi with z | z
 .omega
 .exact z
theorem perm_count {A B:List Nat} (h:∀ c,A.count c=B.count c):A.Perm B:=List.perm_iff_count.mpr h
theorem ZEd (l:List Nat) (k c:Nat):(l.take k).count c+(l.drop k).count c=l.count c:=by rw [<- yBY,yBO]
structure Tw (n:Nat) (A B:List Nat):Prop where
 l:∀ x∈A,x < n
 r:∀ x∈B,x < n
 d:∀ x∈A,∀ y∈B,x≠y
theorem Tw.sub {l r B r':List Nat} (h:Tw n l r) (h1:∀ x∈B,x∈l) (h2:∀ x∈r',x∈r):Tw n B r':=⟨fun x z=>h.l x (h1 x z),fun x z=>h.r x (h2 x z),fun x z y w=>h.d x (h1 x z) y (h2 y w)⟩
theorem ZCN:∀ (m:Nat) (s:Bool) (w:Nat) (l r z:List Nat) (pr:List A3),l.length+r.length <= m->w <= 3->Tw n l r->Nt pr (z++l)->Nt pr (z++r)->pr.length+5 * (l.length+r.length)+w <= 800000 ->
  Wa n (ZDC m s w l r z) pr fun os pr'=>os.Perm (z++l++r) /\ Nt pr' os /\ pr <+: pr' /\ pr'.length <= pr.length+2 * (l.length+r.length)+w
 | 0,s,w,l,r,z,pr,hm,hw,t,n1,n2,c=>by
  have e1:l=[]:=yBZ.mp (by omega)
  subst e1
  refine ⟨.refl _,?_,yAT _,by omega⟩
  rw [yAY];exact n2
 | m+1,s,w,[],r,z,pr,hm,hw,t,n1,n2,c=>by
  refine ⟨.refl _,?_,yAT _,by omega⟩
  rw [yAY];exact n2
 | m+1,s,w,x::l,[],z,pr,hm,hw,t,n1,n2,c=>by
  refine ⟨.refl _,?_,yAT _,by omega⟩
  rw [yAY];exact n1
 | m+1,s,w,x::l,y::r,z,pr,hm,hw,t,n1,n2,c=>by
  rw [ZDC]
  simp only [yAG] at hm c
  have a0:=t.d x yAC y yAC
  refine Wa.ahd a0 (t.l x yAC) (t.r y yAC) (by omega) fun b pr1 f1 l1 t1 t2=>?_
  replace n1:=n1.mono f1
  replace n2:=n2.mono f1
  have O:∀ (os A L R:List Nat) (pr2:List A3) (k:Nat),os.Perm (A++L++R)->(∀ c,(A++L++R).count c=(z++x::l++y::r).count c)->os.Perm (z++x::l++y::r):=fun os A L R _ _ h1 h2=>h1.trans (perm_count h2)
  have Z:(if b=s then w+1 else 1) <= w+1:=by split <;> omega
  by_cases h4:(if b=s then w+1 else 1)=4
  .rw [if_pos h4]
   rw [h4] at Z
   cases b
   .rw [if_neg (by decide)]
    refine Wa.bind ((leapP_al (os:=r) (pl:=x) (pr:=pr1) (fun u B=>⟨t.r u (yAD _ B),Ne.symm (t.d x yAC u (yAD _ B))⟩) (t.l x yAC) (by omega)).imp fun k pr2 h=>?_)
    obtain ⟨Y,hk,bd,hc⟩:=h
    obtain ⟨g1,g2⟩:=leap_nt (n2.mono Y) (n1.mono Y) ((t2 rfl).mono Y) hk bd
    have hd:(r.drop k).length=r.length-k:=yAU ..
    have U:=f1.trans Y
    have sub:∀ u∈r.drop k,u∈y::r:=fun u B=>yAD _ (List.mem_of_mem_drop B)
    have e2:z++y::r.take k++r.drop k=z++y::r:=by rw [yAV,yCI,yBO]
    by_cases hk2:k < r.length
    .rw [if_pos hk2]
     refine (ZCN m false 0 l (r.drop k) _ pr2 (by omega) (by decide) (t.sub (fun u B=>yAD _ B) sub) (by rw [yAV];exact g1) (g2 hk2) (by omega)).imp fun os J h=>⟨O os _ _ _ J 0 h.1 fun c=>?_,h.2.1,U.trans h.2.2.1,?_⟩
     .have:=ZEd r k c
      simp only [yBY,yCJ,yCK]
      omega
     .have:=h.2.2.2
      simp only [yAG]
      omega
    .rw [if_neg hk2]
     refine (ZCN m false 0 (x::l) (r.drop k) _ pr2 (by rw [yAG];omega) (by decide) (t.sub (fun u B=>B) sub) g1 (by rw [e2];exact n2.mono Y) (by rw [yAG];omega)).imp fun os J h=>⟨O os _ _ _ J 0 h.1 fun c=>?_,h.2.1,U.trans h.2.2.1,?_⟩
     .have:=ZEd r k c
      simp only [yBY,yCJ,yCK]
      omega
     .have:=h.2.2.2
      simp only [yAG] at *
      omega
   .rw [if_pos rfl]
    refine Wa.bind ((leapP_al (os:=l) (pl:=y) (pr:=pr1) (fun u B=>⟨t.l u (yAD _ B),t.d u (yAD _ B) y yAC⟩) (t.r y yAC) (by omega)).imp fun k pr2 h=>?_)
    obtain ⟨Y,hk,bd,hc⟩:=h
    obtain ⟨g1,g2⟩:=leap_nt (n1.mono Y) (n2.mono Y) ((t1 rfl).mono Y) hk bd
    have hd:(l.drop k).length=l.length-k:=yAU ..
    have U:=f1.trans Y
    have sub:∀ u∈l.drop k,u∈x::l:=fun u B=>yAD _ (List.mem_of_mem_drop B)
    have e2:z++x::l.take k++l.drop k=z++x::l:=by rw [yAV,yCI,yBO]
    by_cases hk2:k < l.length
    .rw [if_pos hk2]
     refine (ZCN m true 0 (l.drop k) r _ pr2 (by omega) (by decide) (t.sub sub (fun u B=>yAD _ B)) (g2 hk2) (by rw [yAV];exact g1) (by omega)).imp fun os J h=>⟨O os _ _ _ J 0 h.1 fun c=>?_,h.2.1,U.trans h.2.2.1,?_⟩
     .have:=ZEd l k c
      simp only [yBY,yCJ,yCK]
      omega
     .have:=h.2.2.2
      simp only [yAG]
      omega
    .rw [if_neg hk2]
     refine (ZCN m true 0 (l.drop k) (y::r) _ pr2 (by rw [yAG];omega) (by decide) (t.sub sub (fun u B=>B)) (by rw [e2];exact n1.mono Y) g1 (by rw [yAG];omega)).imp fun os J h=>⟨O os _ _ _ J 0 h.1 fun c=>?_,h.2.1,U.trans h.2.2.1,?_⟩
     .have:=ZEd l k c
      simp only [yBY,yCJ,yCK]
      omega
     .have:=h.2.2.2
      simp only [yAG] at *
      omega
  .rw [if_neg h4]
   generalize (if b=s then w+1 else 1)=w' at h4 Z ⊢
   cases b
   .rw [if_neg (by decide)]
    refine (ZCN m false w' (x::l) r (z++[y]) pr1 (by rw [yAG];omega) (by omega) (t.sub (fun u B=>B) fun u B=>yAD _ B) ?_ (by rw [yAV];exact n2) (by rw [yAG];omega)).imp fun os J h=>⟨O os _ _ _ J 0 h.1 fun c=>?_,h.2.1,f1.trans h.2.2.1,?_⟩
    .rw [yAV]
     exact Nb.two.mpr ⟨(Nb.split.mp n2).1,t2 rfl,(Nb.split.mp n1).2⟩
    .simp only [yBY,yCJ,yCK]
     omega
    .have:=h.2.2.2
     simp only [yAG] at *
     omega
   .rw [if_pos rfl]
    refine (ZCN m true w' l (y::r) (z++[x]) pr1 (by rw [yAG];omega) (by omega) (t.sub (fun u B=>yAD _ B) fun u B=>B) (by rw [yAV];exact n1) ?_ (by rw [yAG];omega)).imp fun os J h=>⟨O os _ _ _ J 0 h.1 fun c=>?_,h.2.1,f1.trans h.2.2.1,?_⟩
    .rw [yAV]
     exact Nb.two.mpr ⟨(Nb.split.mp n1).1,t1 rfl,(Nb.split.mp n2).2⟩
    .simp only [yBY,yCJ,yCK]
     omega
    .have:=h.2.2.2
     simp only [yAG] at *
     omega
theorem joinedP_al {l r:List Nat} (t:Tw n l r) (n1:Nt pr l) (n2:Nt pr r) (c:pr.length+5 * (l.length+r.length) <= 800000):Wa n (ZEF l r) pr fun os pr'=>os.Perm (l++r) /\ Nt pr' os /\ pr <+: pr' /\ pr'.length <= pr.length+2 * (l.length+r.length) :=
 (ZCN _ true 0 l r [] pr (yAB _) (by decide) t n1 n2 c).imp fun _ _ h=>h
theorem ZFn {os:List Nat} {pl:Nat} (B:In n os pl) (J:pl < n):∀ (m lo hi:Nat) (pr:List A3),hi-lo <= m->lo <= hi->hi <= os.length->Bd pr os pl lo hi->pr.length+(hi-lo) <= 800000->Wa n (hvP os pl m lo hi) pr fun r pr'=>pr <+: pr' /\ r <= hi /\ Bd pr' os pl r r /\ pr'.length <= pr.length+(hi-lo)
 | 0,lo,hi,pr,hm,h1,h2,b,c=>by
  have:lo=hi:=by omega
  subst this
  exact ⟨yAT _,h1,b,by omega⟩
 | m+1,lo,hi,pr,hm,h1,h2,b,c=>by
  rw [hvP]
  by_cases z:lo < hi
  .rw [if_pos z]
   have L:lo <= (lo+hi) / 2:=by omega
   have O:(lo+hi) / 2 < hi:=by omega
   generalize (lo+hi) / 2=mi at L O
   obtain ⟨g1,U⟩:=ZCo (os:=os) (i:=mi) (by omega)
   refine Wa.ahd (B _ U).2 (B _ U).1 J (by omega) fun b' pr' f1 l1 Y Z=>?_
   cases b'
   .refine (ZFn B J m lo mi pr' (by omega) (by omega) (by omega) ⟨b.lo.imp id fun z=>z.mono f1,.inr (Z rfl)⟩ (by omega)).imp fun r pr2 h=>⟨f1.trans h.1,?_,h.2.2.1,?_⟩
    .have:=h.2.1;omega
    .have:=h.2.2.2;omega
   .refine (ZFn B J m (mi+1) hi pr' (by omega) (by omega) (by omega) ⟨.inr (Y rfl),b.hi.imp id fun z=>z.mono f1⟩ (by omega)).imp fun r pr2 h=>⟨f1.trans h.1,h.2.1,h.2.2.1,?_⟩
    have:=h.2.2.2;omega
  .rw [if_neg z]
   have:lo=hi:=by omega
   subst this
   exact ⟨yAT _,h1,b,by omega⟩
theorem ins_nt {os:List Nat} {pl r:Nat} (h:Nt pr os) (U:r <= os.length) (b:Bd pr os pl r r):Nt pr (insN os r pl):=by
 refine Nb.app (h.take r) (B:=[pl]++os.drop r) (Nb.app trivial (h.drop r) fun A z u B L J=>?_) fun A z u B L J=>?_
 .cases A with
  | nil=>
   cases L
   rw [(ZDp J).2]
   have:=(ZDp J).1
   rcases b.hi with z | z
   .omega
   .exact z
  | cons a A=>simp at L
 .cases J
  obtain ⟨Y,O⟩:=take_last U L
  rw [O]
  rcases b.lo with z | z
  .omega
  .exact z
theorem insN_perm {os:List Nat} {r x:Nat}:(insN os r x).Perm (os++[x]):=perm_count fun c=>by
 unfold insN
 have:=ZEd os r c
 simp only [yBY,yCJ,yCK]
 omega
theorem ZBt (f k:Nat):List.range' f (k+1)=List.range' f k++[f+k]:=by rw [List.range'_concat];simp
theorem putP_al {f:Nat}:∀ (m pl:Nat) (os:List Nat) (pr:List A3),os.Perm (List.range' f (pl-f))->f <= pl->pl+m <= n->n-f <= 120->Nt pr os->pr.length+120 * m <= 800000->Wa n (putP ZFC m pl os) pr fun os' pr'=>os'.Perm (List.range' f (pl+m-f)) /\ Nt pr' os' /\ pr <+: pr' /\ pr'.length <= pr.length+120 * m
 | 0,pl,os,pr,hp,hf,hn,hk,h,c=>⟨hp,h,yAT _,by omega⟩
 | m+1,pl,os,pr,hp,hf,hn,hk,h,c=>by
  have hl:=hp.length_eq
  rw [yCA] at hl
  have B:In n os pl:=fun x L=>by
   have:=List.mem_range'_1.mp (hp.mem_iff.mp L)
   omega
  refine Wa.bind ((ZFn B (by omega) os.length 0 os.length pr (by omega) (yAJ _) (yAB _) ⟨.inl rfl,.inl (yAB _)⟩ (by omega)).imp fun r pr' g=>?_)
  obtain ⟨f1,O,J,U⟩:=g
  refine (putP_al m (pl+1) (insN os r pl) pr' ?_ (by omega) (by omega) hk (ins_nt (h.mono f1) O J) (by omega)).imp fun os' pr2 z=>⟨?_,z.2.1,f1.trans z.2.2.1,?_⟩
  .refine insN_perm.trans ?_
   rw [show pl+1-f=pl-f+1 by omega,ZBt,show f+(pl-f)=pl by omega]
   exact hp.append_right _
  .rw [show pl+(m+1)-f=pl+1+m-f by omega];exact z.1
  .have:=z.2.2.2;omega
noncomputable def Sf (pr:List A3) (f j:Nat) (fal:Bool):Prop:=Nb (fun a b=>if fal then Td pr b a else Td pr a b) (List.range' f (j-f))
theorem Sf.turn {f j:Nat} {fal:Bool} (h:Sf pr f j fal):Nt pr (turnN f j fal):=by
 unfold turnN
 cases fal
 .exact h
 .exact Nb.rev h
theorem Sf.snoc {pr':List A3} {f j:Nat} {fal:Bool} (h:Sf pr f j fal) (g:pr <+: pr') (B:f < j) (t:if fal then Td pr' j (j-1) else Td pr' (j-1) j):Sf pr' f (j+1) fal:=by
 unfold Sf
 rw [show j+1-f=(j-f-1)+1+1 by omega,ZBt,ZBt,yAV]
 have e:List.range' f (j-f)=List.range' f (j-f-1)++[f+(j-f-1)]:=by rw [<- ZBt,show j-f-1+1=j-f by omega]
 refine Nb.two.mpr ⟨?_,?_,trivial⟩
 .rw [<- e]
  refine Nb.mono (fun a b z=>?_) h
  cases fal
  .exact Td.mono z g
  .exact Td.mono z g
 .rw [show f+(j-f-1)=j-1 by omega,show f+(j-f-1+1)=j by omega]
  exact t
theorem runP_al {stop f:Nat} (B:stop <= n) (fal:Bool):∀ (m j:Nat) (pr:List A3),stop <= m+j->f < j->j <= stop->Sf pr f j fal->pr.length+(stop-j) <= 800000->Wa n (runP stop fal m j) pr fun r pr'=>pr <+: pr' /\ j <= r.1 /\ r.1 <= stop /\ Sf pr' f r.1 r.2 /\ pr'.length <= pr.length+(r.1-j)+1
 | 0,j,pr,hm,h1,h2,h3,c=>⟨yAT _,yAB _,h2,h3,by omega⟩
 | m+1,j,pr,hm,h1,h2,h3,c=>by
  rw [runP]
  by_cases z:j < stop
  .rw [if_pos z]
   refine Wa.ahd (by omega) (by omega) (by omega) (by omega) fun b pr' f1 O J L=>?_
   by_cases zb:b=fal
   .rw [if_pos zb]
    subst zb
    refine (runP_al B b m (j+1) pr' (by omega) (by omega) (by omega) (h3.snoc f1 h1 ?_) (by omega)).imp fun r pr2 h=>⟨f1.trans h.1,Nat.le_of_succ_le h.2.1,h.2.2.1,h.2.2.2.1,?_⟩
    .cases b
     .exact L rfl
     .exact J rfl
    .have:=h.2.2.2.2
     have:=h.2.1
     omega
   .rw [if_neg zb]
    refine ⟨f1,yAB _,h2,?_,by omega⟩
    refine Nb.mono (fun a b' z=>?_) h3
    cases fal
    .exact Td.mono z f1
    .exact Td.mono z f1
  .rw [if_neg z]
   exact ⟨yAT _,yAB _,h2,h3,by omega⟩
theorem strP_al {stop f:Nat} (B:stop <= n) (U:f < stop) (c:pr.length+(stop-f) <= 800000):Wa n (strP stop f) pr fun r pr'=>pr <+: pr' /\ f < r.1 /\ r.1 <= stop /\ Nt pr' (turnN f r.1 r.2) /\ pr'.length <= pr.length+(r.1-f):=by
 unfold strP
 by_cases z:f+1 < stop
 .rw [if_pos z]
  refine Wa.ahd (by omega) (by omega) (by omega) (by omega) fun b pr1 f1 O J L=>?_
  refine (runP_al (f:=f) B b stop (f+2) pr1 (by omega) (by omega) (by omega) (Sf.snoc (pr:=pr1) (j:=f+1) ?_ (yAT _) (by omega) ?_) (by omega)).imp fun r pr2 h=>⟨f1.trans h.1,?_,h.2.2.1,h.2.2.2.1.turn,?_⟩
  .unfold Sf
   rw [show f+1-f=0+1 by omega,ZBt]
   exact trivial
  .cases b
   .exact L rfl
   .exact J rfl
  .have:=h.2.1;omega
  .have:=h.2.2.2.2
   have:=h.2.1
   omega
 .rw [if_neg z]
  refine ⟨yAT _,by omega,by omega,?_,by omega⟩
  show Nt pr (turnN f (f+1) false)
  unfold turnN
  rw [show f+1-f=0+1 by omega,ZBt]
  exact trivial
theorem turnN_perm (a b:Nat) (f:Bool):(turnN a b f).Perm (List.range' a (b-a)):=by
 unfold turnN
 cases f
 .exact .refl _
 .exact List.reverse_perm _
theorem fillP_al {ls stop f:Nat} (B:stop <= n) (O:f < stop) (hn:n-f <= 120) (c:pr.length+122 * (stop-f) <= 800000):Wa n (ZF0 ls stop f) pr fun r pr'=>pr <+: pr' /\ r.2.Perm (List.range' f r.2.length) /\ 0 < r.2.length /\ f+r.2.length <= stop /\ Nt pr' r.2 /\ pr'.length <= pr.length+122 * r.2.length:=by
 refine Wa.bind ((strP_al B O (by omega)).imp fun r pr1 h=>?_)
 obtain ⟨f1,h1,h2,h3,U⟩:=h
 refine Wa.bind ((putP_al (f:=f) (min (f+ls) stop-r.1) r.1 _ pr1 (turnN_perm ..) (by omega) (by omega) hn h3 (by omega)).imp fun os pr2 g=>?_)
 obtain ⟨z,J,L,Y⟩:=g
 have hl:=z.length_eq
 rw [yCA] at hl
 refine ⟨f1.trans L,?_,?_,?_,J,?_⟩ <;> dsimp only
 .rw [hl];exact z
 .omega
 .omega
 .omega
end
end Pw
namespace Po
noncomputable abbrev Fr:=Option (Nat×Nat)
noncomputable abbrev W:=Nat->Nat->Option Fr
noncomputable abbrev Mt:=Nat×Nat×Nat
noncomputable def mid (f b:Nat):Nat:=f+(b-f+1) / 2
theorem mid_lt {f b:Nat} (h:¬ b-f < 2):f < mid f b /\ mid f b < b:=by unfold mid;omega
noncomputable def mts (f b:Nat):List Mt:=if h:b-f < 2 then [] else mts f (mid f b)++mts (mid f b) b++[(f,mid f b,b)]
termination_by b-f
decreasing_by
 .have:=mid_lt h;omega
 .have:=mid_lt h;omega
theorem mts_leaf {f b:Nat} (h:b-f < 2):mts f b=[]:=by rw [mts,dif_pos h]
theorem mts_node {f b:Nat} (h:¬ b-f < 2):mts f b=mts f (mid f b)++mts (mid f b) b++[(f,mid f b,b)]:=by rw [mts,dif_neg h]
theorem tree {P:Nat->Nat->Prop} (h1:∀ f b,b-f < 2->P f b) (h2:∀ f b,¬ b-f < 2->P f (mid f b)->P (mid f b) b->P f b) (f b:Nat):P f b:=by
 suffices ∀ n f b,b-f <= n->P f b from this _ f b (yAB _)
 intro n
 induction n with
 | zero=>intro f b h;exact h1 f b (by omega)
 | succ n ih=>
  intro f b h
  by_cases z:b-f < 2
  .exact h1 f b z
  .have:=mid_lt z
   exact h2 f b z (ih _ _ (by omega)) (ih _ _ (by omega))
theorem mts_len (f b:Nat):(mts f b).length=b-f-1:=by
 refine tree (P:=fun f b=>(mts f b).length=b-f-1) (fun f b h=>?_) (fun f b h h1 h2=>?_) f b
 .rw [mts_leaf h];simp;omega
 .have:=mid_lt h
  rw [mts_node h,yAE,yAE,h1,h2,yBE]
  omega
theorem mts_mem {a m c:Nat} (f b:Nat):(a,m,c)∈mts f b->m=mid a c /\ f <= a /\ c <= b /\ ¬ c-a < 2:=by
 refine tree (P:=fun f b=>(a,m,c)∈mts f b->m=mid a c /\ f <= a /\ c <= b /\ ¬ c-a < 2) (fun f b h=>?_) (fun f b h h1 h2=>?_) f b
 .rw [mts_leaf h];intro z;cases z
 .have:=mid_lt h
  rw [mts_node h]
  intro z
  rcases yAX.mp z with z | z
  .rcases yAX.mp z with z | z
   .have:=h1 z;omega
   .have:=h2 z;omega
  .cases yAH.mp z
   exact ⟨rfl,yAB _,yAB _,h⟩
noncomputable def put (w:W) (a c:Nat) (v:Fr):W:=fun a' c'=>if a'=a /\ c'=c then some v else w a' c'
end Po
namespace Pw
structure PS where
 r:Nat
 ps:List (Nat×List Nat)
 gs:List Nat
noncomputable def flt (ps:List (Nat×List Nat)):List Nat:=(ps.map Prod.snd).flatten
noncomputable def dueB (gs:List Nat):Bool:=match gs.reverse with
 | a::b::_=>decide (a < b)
 | _=>false
theorem dueB_two (G:List Nat) (B z:Nat):dueB (G++[B,z])=decide (z < B):=by unfold dueB;rw [List.reverse_append];rfl
theorem ZEK {gs:List Nat} (h:dueB gs=true):2 <= gs.length:=by
 unfold dueB at h
 rw [<- yCE]
 revert h
 generalize gs.reverse=l
 intro h
 match l,h with
 | a::b::l,_=>simp
noncomputable def topF (ps:List (Nat×List Nat)):Nat:=(ps.getLastD (0,[])).1
noncomputable def jnP (i:Nat) (t:PS):Pg (Option PS):=match t.ps.drop i with
 | p1::p2::B=>(ZEF p1.2 p2.2).bind fun o=>.ret (some ⟨t.r,t.ps.take i++(p1.1,o)::B,t.gs.eraseIdx i⟩)
 | _=>.ret none
noncomputable def layP (G:Nat->Nat->Nat->Nat->Nat) (ls s e:Nat) (t:PS):Pg (Option PS):=(ZF0 ls e t.r).bind fun f=>.ret (some ⟨t.r+f.2.length,t.ps++[(t.r,f.2)],if t.ps.isEmpty then t.gs else t.gs++[G (e-s) (topF t.ps-s) (t.r-s) (t.r+f.2.length-s)]⟩)
noncomputable def ZFQ (G:Nat->Nat->Nat->Nat->Nat) (ls s e:Nat) (t:PS):Pg (Option PS) :=
 if dueB t.gs then jnP (t.ps.length-3) t else if t.r < e then layP G ls s e t else if 1 < t.ps.length then jnP (t.ps.length-2) t else .ret none
noncomputable def ZEW (e:Nat) (t:PS):List Nat:=flt t.ps++List.range' t.r (e-t.r)
noncomputable def ZFz (G:Nat->Nat->Nat->Nat->Nat) (ls s e:Nat):Nat->PS->Pg (List Nat)
 | 0,t=>.ret (ZEW e t)
 | m+1,t=>(ZFQ G ls s e t).bind fun o=>match o with
  | none=>.ret (ZEW e t)
  | some t'=>ZFz G ls s e m t'
noncomputable def bypP (G:Nat->Nat->Nat->Nat->Nat) (ls s e:Nat):Pg (List Nat):=ZFz G ls s e (2 * (e-s)+1) ⟨s,[],[]⟩
noncomputable def Cn (pr:List A3):Nat->List (Nat×List Nat)->Nat->Prop
 | x,[],y=>x=y
 | x,p::ps,y=>p.1=x /\ 0 < p.2.length /\ p.2.Perm (List.range' x p.2.length) /\ Nt pr p.2 /\ Cn pr (x+p.2.length) ps y
theorem Cn.mono {pr pr':List A3} (f:pr <+: pr'):∀ {x y:Nat} {ps:List (Nat×List Nat)},Cn pr x ps y->Cn pr' x ps y
 | _,_,[],h=>h
 | _,_,_::_,h=>⟨h.1,h.2.1,h.2.2.1,h.2.2.2.1.mono f,h.2.2.2.2.mono f⟩
theorem Cn.app {pr:List A3}:∀ {x y:Nat} {A B:List (Nat×List Nat)},Cn pr x (A++B) y↔∃ m,Cn pr x A m /\ Cn pr m B y
 | x,y,[],B=>⟨fun h=>⟨x,rfl,h⟩,fun ⟨m,h1,h2⟩=>by cases h1;exact h2⟩
 | x,y,p::A,B=>⟨fun h=>let ⟨m,a,b⟩:=Cn.app.mp h.2.2.2.2;⟨m,⟨h.1,h.2.1,h.2.2.1,h.2.2.2.1,a⟩,b⟩,fun ⟨m,a,b⟩=>⟨a.1,a.2.1,a.2.2.1,a.2.2.2.1,Cn.app.mpr ⟨m,a.2.2.2.2,b⟩⟩⟩
theorem Cn.le {pr:List A3}:∀ {x y:Nat} {ps:List (Nat×List Nat)},Cn pr x ps y->x+ps.length <= y
 | _,_,[],h=>yCD h
 | x,y,p::ps,h=>by
  have:=h.2.2.2.2.le
  have:=h.2.1
  rw [yAG]
  omega
noncomputable def Cl:Nat->List (Nat×List Nat)->Nat->Prop
 | x,[],y=>x=y
 | x,p::ps,y=>p.1=x /\ 0 < p.2.length /\ Cl (x+p.2.length) ps y
theorem Cl.app:∀ {x y:Nat} {A B:List (Nat×List Nat)},Cl x (A++B) y↔∃ m,Cl x A m /\ Cl m B y
 | x,y,[],B=>⟨fun h=>⟨x,rfl,h⟩,fun ⟨m,h1,h2⟩=>by cases h1;exact h2⟩
 | x,y,p::A,B=>⟨fun h=>let ⟨m,a,b⟩:=Cl.app.mp h.2.2;⟨m,⟨h.1,h.2.1,a⟩,b⟩,fun ⟨m,a,b⟩=>⟨a.1,a.2.1,Cl.app.mpr ⟨m,a.2.2,b⟩⟩⟩
theorem Cl.le:∀ {x y:Nat} {ps:List (Nat×List Nat)},Cl x ps y->x+ps.length <= y /\ (flt ps).length=y-x
 | _,_,[],h=>⟨yCD h,by cases h;rw [yBG];rfl⟩
 | x,y,p::ps,h=>by
  have h1:=h.2.2.le
  have h2:=h.2.1
  refine ⟨by rw [yAG];omega,?_⟩
  show (p.2++flt ps).length=_
  rw [yAE,h1.2]
  omega
structure PI (n s e:Nat) (pr:List A3) (t:PS):Prop where
 cn:Cn pr s t.ps t.r
 re:t.r <= e
 gl:t.gs.length=t.ps.length-1
theorem drop_two {α:Type} {l:List α} {i:Nat} (h:i+2 <= l.length):∃ A x y B,l=A++x::y::B /\ A.length=i /\ l.drop i=x::y::B /\ l.take i=A:=by
 have h1:i < l.length:=by omega
 have h2:i+1 < l.length:=by omega
 refine ⟨l.take i,l[i],l[i+1],l.drop (i+2),?_,by rw [yBA];omega,?_,rfl⟩
 .rw [<- yBU h2,<- yBU h1,yBO]
 .rw [<- yBU h2,<- yBU h1]
section
variable {n s e ls:Nat} {pr:List A3} {G:Nat->Nat->Nat->Nat->Nat}
noncomputable def Sd (n s e:Nat) (pr:List A3) (t:PS) (o:Option PS) (pr':List A3):Prop:=pr <+: pr' /\ match o with
 | none=>t.r=e /\ t.ps.length <= 1 /\ pr'=pr
 | some t'=>PI n s e pr' t' /\ 2 * (e-t'.r)+t'.ps.length < 2 * (e-t.r)+t.ps.length /\ pr'.length+400 * (e-t'.r)+250 * t'.ps.length <= pr.length+400 * (e-t.r)+250 * t.ps.length
theorem jnP_al {t:PS} {i:Nat} (h:PI n s e pr t) (hi:i+2 <= t.ps.length) (he:e <= n) (hn:n <= 120) (c:pr.length <= 790000):Wa n (jnP i t) pr (Sd n s e pr t):=by
 obtain ⟨A,L,p2,B,e1,e2,e3,e4⟩:=drop_two hi
 have O:=h.cn
 rw [e1] at O
 obtain ⟨m,c1,c2⟩:=Cn.app.mp O
 obtain ⟨h1,h2,h3,h4,g1,g2,g3,g4,g5⟩:=c2
 have l1:=c1.le
 have l2:=g5.le
 have U:=h.re
 have m1:∀ x∈L.2,m <= x /\ x < m+L.2.length:=fun x J=>List.mem_range'_1.mp (h3.mem_iff.mp J)
 have Z:∀ x∈p2.2,m+L.2.length <= x /\ x < m+L.2.length+p2.2.length:=fun x J=>List.mem_range'_1.mp (g3.mem_iff.mp J)
 unfold jnP
 rw [e3]
 dsimp only
 refine Wa.bind ((joinedP_al (n:=n) (pr:=pr) (l:=L.2) (r:=p2.2) ⟨fun x J=>by have:=m1 x J;omega,fun x J=>by have:=Z x J;omega,fun x J y hy=>by have:=m1 x J;have:=Z y hy;omega⟩ h4 g4 (by omega)).imp fun o pr' z=>?_)
 obtain ⟨z1,z2,Y,z4⟩:=z
 have hl:=z1.length_eq
 rw [yAE] at hl
 rw [e4]
 have e6:(A++(L.1,o)::B).length+1=t.ps.length:=by rw [e1];simp;omega
 refine ⟨Y,⟨Cn.app.mpr ⟨m,c1.mono Y,h1,by dsimp only;omega,?_,z2,?_⟩,U,?_⟩,?_,?_⟩ <;> dsimp only
 .rw [hl]
  refine z1.trans ((h3.append g3).trans ?_)
  have:=List.range'_append (s:=m) (m:=L.2.length) (n:=p2.2.length) (step:=1)
  rw [Nat.one_mul] at this
  rw [this]
 .rw [hl,<- Nat.add_assoc];exact g5.mono Y
 .rw [List.length_eraseIdx]
  have:=h.gl
  split <;> omega
 .omega
 .omega
theorem layP_al {t:PS} (h:PI n s e pr t) (U:t.r < e) (J:e <= n) (hn:n <= 120) (c:pr.length <= 780000):Wa n (layP G ls s e t) pr (Sd n s e pr t):=by
 refine Wa.bind ((fillP_al (n:=n) (pr:=pr) (ls:=ls) J U (by omega) (by omega)).imp fun f pr' z=>?_)
 obtain ⟨B,Y,L,z4,O,Z⟩:=z
 refine ⟨B,⟨Cn.app.mpr ⟨t.r,h.cn.mono B,rfl,L,Y,O,rfl⟩,by dsimp only;omega,?_⟩,?_,?_⟩ <;> dsimp only
 .have:=h.gl
  rw [yAE,yBE]
  cases hp:t.ps with
  | nil=>rw [hp] at this;simpa using this
  | cons p q=>
   rw [hp] at this
   rw [if_neg (by simp),yAE,yBE,this,yAG]
   omega
 .rw [yAE,yBE];omega
 .rw [yAE,yBE];omega
theorem stepP_al {t:PS} (h:PI n s e pr t) (z:e <= n) (hn:n <= 120) (c:pr.length <= 780000):Wa n (ZFQ G ls s e t) pr (Sd n s e pr t):=by
 unfold ZFQ
 by_cases h1:dueB t.gs=true
 .rw [if_pos h1]
  have:=ZEK h1
  have:=h.gl
  exact jnP_al h (by omega) z hn (by omega)
 rw [if_neg h1]
 by_cases h2:t.r < e
 .rw [if_pos h2]
  exact layP_al h h2 z hn c
 rw [if_neg h2]
 by_cases h3:1 < t.ps.length
 .rw [if_pos h3]
  exact jnP_al h (by omega) z hn (by omega)
 rw [if_neg h3]
 have:=h.re
 exact ⟨yAT _,by omega,by omega,rfl⟩
theorem paper_end {t:PS} (h:PI n s e pr t) (h1:t.r=e) (h2:t.ps.length <= 1):(ZEW e t).Perm (List.range' s (e-s)) /\ Nt pr (ZEW e t):=by
 have hc:=h.cn
 unfold ZEW
 rw [h1,yBG,List.range'_zero,yAY]
 match hp:t.ps,h2 with
 | [],_=>
  rw [hp] at hc
  have:s=e:=by rw [<- h1];exact hc
  rw [this,yBG]
  exact ⟨.refl _,trivial⟩
 | [p],_=>
  rw [hp] at hc
  have B:s+p.2.length=t.r:=hc.2.2.2.2
  have z:flt [p]=p.2:=by unfold flt;simp
  rw [z,show e-s=p.2.length by omega]
  exact ⟨hc.2.2.1,hc.2.2.2.1⟩
theorem pileP_al (B:e <= n) (hn:n <= 120):∀ (m:Nat) (t:PS) (pr:List A3),PI n s e pr t->2 * (e-t.r)+t.ps.length <= m->pr.length+400 * (e-t.r)+250 * t.ps.length <= 780000 ->
  Wa n (ZFz G ls s e m t) pr fun os pr'=>os.Perm (List.range' s (e-s)) /\ Nt pr' os /\ pr <+: pr' /\ pr'.length <= pr.length+400 * (e-t.r)+250 * t.ps.length
 | 0,t,pr,h,hm,c=>by
  have:=h.re
  have z:=paper_end h (by omega) (by omega)
  exact ⟨z.1,z.2,yAT _,by omega⟩
 | m+1,t,pr,h,hm,c=>by
  refine Wa.bind ((stepP_al h B hn (by omega)).imp fun o pr1 z=>?_)
  cases o with
  | none=>
   obtain ⟨f,a,b,rfl⟩:=z
   have z:=paper_end h a b
   exact ⟨z.1,z.2,f,by omega⟩
  | some t'=>
   obtain ⟨f,a,b,c'⟩:=z
   refine (pileP_al B hn m t' pr1 a (by omega) (by omega)).imp fun os pr2 y=>⟨y.1,y.2.1,f.trans y.2.2.1,?_⟩
   have:=y.2.2.2
   omega
theorem bypP_al (B:s <= e) (z:e <= n) (hn:n <= 120) (c:pr.length+400 * (e-s) <= 780000):Wa n (bypP G ls s e) pr fun os pr'=>os.Perm (List.range' s (e-s)) /\ Nt pr' os /\ pr <+: pr' /\ pr'.length <= pr.length+400 * (e-s) :=
 pileP_al z hn _ ⟨s,[],[]⟩ pr ⟨rfl,B,rfl⟩ (by dsimp only [List.length];omega) (by dsimp only [List.length];omega)
end
end Pw
namespace Pw
open Po (Fr W Mt mts mid put mts_leaf mts_node mid_lt mts_len mts_mem)
noncomputable def metP:Fr->Fr->Pg Fr
 | none,o=>.ret o
 | some x,none=>.ret (some x)
 | some x,some y=>ahd x.1 y.1 fun b=>.ret (if b then some x else some y)
noncomputable def ZBm:List Mt->W->Pg (Option W)
 | [],w=>.ret (some w)
 | m::ms,w=>match w m.1 m.2.1,w m.2.1 m.2.2 with
  | some u,some v=>(metP u v).bind fun x=>ZBm ms (put w m.1 m.2.2 x)
  | _,_=>.ret none
noncomputable def frW (pcs:List (List Nat)) (ts:List Nat) (i:Nat):Fr:=((pcs.getD i [])[ts.getD i 0]?).map fun x=>(x,i)
noncomputable def onW (i:Nat) (m:Mt):Bool:=decide (m.1 <= i) && decide (i < m.2.2)
noncomputable def tkN (ts:List Nat) (i:Nat):List Nat:=ts.set i (ts.getD i 0+1)
noncomputable def ZDj (pcs:List (List Nat)):Nat->List Nat->W->List Nat->Pg (Option (List Nat))
 | 0,_,_,acc=>.ret (some acc)
 | k+1,ts,w,acc=>match w 0 pcs.length with
  | some (some c)=>(ZBm ((mts 0 pcs.length).filter (onW c.2)) (put w c.2 (c.2+1) (frW pcs (tkN ts c.2) c.2))).bind fun o=>match o with
   | none=>.ret none
   | some w'=>ZDj pcs k (tkN ts c.2) w' (acc++[c.1])
  | _=>.ret none
noncomputable def lvW (pcs:List (List Nat)) (k:Nat):W:=fun a c=>if c=a+1 /\ a < k then some (frW pcs (List.replicate pcs.length 0) a) else none
noncomputable def ZDi (pcs:List (List Nat)):Pg (Option (List Nat)):=(ZBm (mts 0 pcs.length) (lvW pcs pcs.length)).bind fun o=>match o with
 | none=>.ret none
 | some w=>ZDj pcs (pcs.map List.length).sum (List.replicate pcs.length 0) w []
noncomputable def Me (pr:List A3):Fr->Fr->Fr->Prop
 | none,v,x=>x=v
 | some u,none,x=>x=some u
 | some u,some v,x=>(x=some u /\ Td pr u.1 v.1)∨(x=some v /\ Td pr v.1 u.1)
theorem Me.mono {pr pr':List A3} (f:pr <+: pr'):∀ {u v x:Fr},Me pr u v x->Me pr' u v x
 | none,_,_,h=>h
 | some _,none,_,h=>h
 | some _,some _,_,h=>h.imp (fun z=>⟨z.1,z.2.mono f⟩) fun z=>⟨z.1,z.2.mono f⟩
theorem Me.or {pr:List A3}:∀ {u v x:Fr},Me pr u v x->x=u∨x=v
 | none,_,_,h=>.inr h
 | some _,none,_,h=>.inl h
 | some _,some _,_,h=>h.imp (fun z=>z.1) fun z=>z.1
noncomputable def Nd (pr:List A3) (w:W) (m:Mt):Prop:=∃ u v x,w m.1 m.2.1=some u /\ w m.2.1 m.2.2=some v /\ w m.1 m.2.2=some x /\ Me pr u v x
theorem Nd.congr {pr pr':List A3} {w w':W} {m:Mt} (h:Nd pr w m) (f:pr <+: pr') (J:w' m.1 m.2.1=w m.1 m.2.1) (B:w' m.2.1 m.2.2=w m.2.1 m.2.2) (z:w' m.1 m.2.2=w m.1 m.2.2):Nd pr' w' m :=
 let ⟨u,v,x,h1,h2,h3,h4⟩:=h;⟨u,v,x,by rw [J,h1],by rw [B,h2],by rw [z,h3],h4.mono f⟩
structure Tr (pr:List A3) (fr:Nat->Fr) (w:W) (f b:Nat):Prop where
 lf:∀ i,f <= i->i < b->w i (i+1)=some (fr i)
 nd:∀ m∈mts f b,Nd pr w m
section
variable {n:Nat} {pr:List A3} {fr:Nat->Fr} {w:W}
theorem Tr.congr {pr':List A3} {w':W} {f b:Nat} (h:Tr pr fr w f b) (g:pr <+: pr') (e:∀ a c,f <= a->c <= b->a < c->w' a c=w a c):Tr pr' fr w' f b :=
 ⟨fun i h1 h2=>by rw [e i (i+1) h1 (by omega) (by omega)];exact h.lf i h1 h2,fun m hm=>by
  obtain ⟨J,L,B,z⟩:=mts_mem (a:=m.1) (m:=m.2.1) (c:=m.2.2) _ _ hm
  have:=mid_lt z
  exact (h.nd m hm).congr g (e _ _ (by omega) (by omega) (by omega)) (e _ _ (by omega) (by omega) (by omega)) (e _ _ (by omega) (by omega) (by omega))⟩
theorem Tr.top {f b:Nat} (h:Tr pr fr w f b) (B:f < b):∃ x,w f b=some x:=by
 by_cases z:b-f < 2
 .rw [show b=f+1 by omega];exact ⟨_,h.lf f (yAB _) B⟩
 .obtain ⟨u,v,x,_,_,e,_⟩:=h.nd (f,mid f b,b) (by rw [mts_node z];exact yAQ _ yAC)
  exact ⟨x,e⟩
theorem Tr.down {f b:Nat} (z:¬ b-f < 2) (h:Tr pr fr w f b):Tr pr fr w f (mid f b) /\ Tr pr fr w (mid f b) b /\ Nd pr w (f,mid f b,b):=by
 have:=mid_lt z
 refine ⟨⟨fun i h1 h2=>h.lf i h1 (by omega),fun m hm=>h.nd m ?_⟩,⟨fun i h1 h2=>h.lf i (by omega) h2,fun m hm=>h.nd m ?_⟩,h.nd _ ?_⟩ <;> rw [mts_node z]
 .exact yBJ _ (yBJ _ hm)
 .exact yBJ _ (yAQ _ hm)
 .exact yAQ _ yAC
theorem Tr.mem (f b:Nat):Tr pr fr w f b->f < b->∀ x,w f b=some (some x)->(∀ i y,fr i=some y->y.2=i)->f <= x.2 /\ x.2 < b /\ fr x.2=some x:=by
 refine Po.tree (P:=fun f b=>Tr pr fr w f b->f < b->∀ x,w f b=some (some x)->(∀ i y,fr i=some y->y.2=i)->f <= x.2 /\ x.2 < b /\ fr x.2=some x) (fun f b z h B x J hi=>?_) (fun f b z i1 i2 h B x J hi=>?_) f b
 .have e:=h.lf f (yAB _) B
  rw [show f+1=b by omega,J] at e
  have O:=Option.some.inj e
  rw [hi f x O.symm]
  exact ⟨yAB _,B,O.symm⟩
 .have:=mid_lt z
  obtain ⟨Z,t2,u,v,x',U,Y,L,a4⟩:=h.down z
  dsimp only at U Y L
  rw [J] at L
  cases L
  rcases a4.or with e | e
  .have:=i1 Z (by omega) x (by rw [U,e]) hi
   exact ⟨this.1,by omega,this.2.2⟩
  .have:=i2 t2 (by omega) x (by rw [Y,e]) hi
   exact ⟨by omega,this.2.1,this.2.2⟩
theorem Tr.non (f b:Nat):Tr pr fr w f b->f < b->w f b=some none->∀ i,f <= i->i < b->fr i=none:=by
 refine Po.tree (P:=fun f b=>Tr pr fr w f b->f < b->w f b=some none->∀ i,f <= i->i < b->fr i=none) (fun f b z h Y J i h1 h2=>?_) (fun f b z i1 i2 h Y J i h1 h2=>?_) f b
 .have e:=h.lf f (yAB _) Y
  rw [show f+1=b by omega,J] at e
  rw [show i=f by omega]
  exact (Option.some.inj e).symm
 .have:=mid_lt z
  obtain ⟨Z,t2,u,v,x',B,U,O,L⟩:=h.down z
  dsimp only at B U O
  rw [J] at O
  cases O
  have e:u=none /\ v=none:=by
   cases u with
   | none=>exact ⟨rfl,Eq.symm L⟩
   | some u=>
    cases v with
    | none=>cases L
    | some v=>rcases L with ⟨z,_⟩ | ⟨z,_⟩ <;> cases z
  rw [e.1] at B
  rw [e.2] at U
  by_cases hi:i < mid f b
  .exact i1 Z (by omega) B i h1 hi
  .exact i2 t2 (by omega) U i (by omega) h2
structure Fo (n:Nat) (fr:Nat->Fr):Prop where
 ix:∀ i y,fr i=some y->y.2=i
 lt:∀ i y,fr i=some y->y.1 < n
 ne:∀ i j x y,i≠j->fr i=some x->fr j=some y->x.1≠y.1
theorem ZEy {u v:Fr} {P:Fr->List A3->Prop} (J:∀ x,u=some x->x.1 < n) (B:∀ x,v=some x->x.1 < n) (z:∀ x y,u=some x->v=some y->x.1≠y.1) (c:pr.length <= 800000) (h:∀ x pr',pr <+: pr'->pr'.length <= pr.length+1->Me pr' u v x->P x pr'):Wa n (metP u v) pr P:=by
 cases u with
 | none=>exact h v pr (yAT _) (by omega) rfl
 | some x=>
  cases v with
  | none=>exact h (some x) pr (yAT _) (by omega) rfl
  | some y=>
   show Wa n (ahd x.1 y.1 fun b=>.ret (if b then some x else some y)) pr P
   refine Wa.ahd (z x y rfl rfl) (J x rfl) (B y rfl) c fun b pr' f l L O=>?_
   cases b
   .exact h _ _ f (by omega) (.inr ⟨rfl,O rfl⟩)
   .exact h _ _ f (by omega) (.inl ⟨rfl,L rfl⟩)
theorem ZET {w:W} {a c:Nat} {v:Fr}:put w a c v a c=some v:=by unfold Po.put;rw [if_pos ⟨rfl,rfl⟩]
theorem ZES {w:W} {a c a' c':Nat} {v:Fr} (h:¬ (a'=a /\ c'=c)):put w a c v a' c'=w a' c':=by unfold Po.put;rw [if_neg h]
theorem Tr.up {f b:Nat} {u v x:Fr} (z:¬ b-f < 2) (J:Tr pr fr w f (mid f b)) (L:Tr pr fr w (mid f b) b) (h1:w f (mid f b)=some u) (h2:w (mid f b) b=some v) (O:Me pr u v x):Tr pr fr (put w f b x) f b:=by
 have hm:=mid_lt z
 have g:∀ a c,¬ (a=f /\ c=b)->put w f b x a c=w a c:=fun a c h=>ZES h
 refine ⟨fun i h1 h2=>?_,fun m B=>?_⟩
 .rw [g _ _ (by omega)]
  by_cases hi:i < mid f b
  .exact J.lf i h1 hi
  .exact L.lf i (by omega) h2
 .rw [mts_node z] at B
  rcases yAX.mp B with B | B
  .rcases yAX.mp B with B | B
   .exact (J.congr (yAT _) fun a c _ _ _=>g _ _ (by omega)).nd m B
   .exact (L.congr (yAT _) fun a c _ _ _=>g _ _ (by omega)).nd m B
  .cases yAH.mp B
   exact ⟨u,v,x,by rw [g _ _ (by dsimp only;omega)];exact h1,by rw [g _ _ (by dsimp only;omega)];exact h2,ZET,O⟩
theorem held_all (J:Fo n fr) (f b:Nat):f < b->∀ (w:W) (pr:List A3) (ms:List Mt) (P:Option W->List A3->Prop),(∀ i,f <= i->i < b->w i (i+1)=some (fr i))->pr.length+(b-f) <= 800000 ->
  (∀ w' pr',pr <+: pr'->(∀ a c,¬ (f <= a /\ c <= b /\ a+2 <= c)->w' a c=w a c)->Tr pr' fr w' f b->pr'.length+1 <= pr.length+(b-f)->Wa n (ZBm ms w') pr' P)->Wa n (ZBm (mts f b++ms) w) pr P:=by
 refine Po.tree (P:=fun f b=>f < b->∀ (w:W) (pr:List A3) (ms:List Mt) (P:Option W->List A3->Prop),(∀ i,f <= i->i < b->w i (i+1)=some (fr i))->pr.length+(b-f) <= 800000 ->
  (∀ w' pr',pr <+: pr'->(∀ a c,¬ (f <= a /\ c <= b /\ a+2 <= c)->w' a c=w a c)->Tr pr' fr w' f b->pr'.length+1 <= pr.length+(b-f)->Wa n (ZBm ms w') pr' P)->Wa n (ZBm (mts f b++ms) w) pr P) (fun f b z hb w pr ms P hl c k=>?_) (fun f b z i1 i2 hb w pr ms P hl c k=>?_) f b
 .rw [mts_leaf z]
  exact k w pr (yAT _) (fun _ _ _=>rfl) ⟨hl,fun m hm=>by rw [mts_leaf z] at hm;cases hm⟩ (by omega)
 .have hm:=mid_lt z
  rw [mts_node z,yAV,yAV]
  refine i1 (by omega) w pr _ P (fun i h1 h2=>hl i h1 (by omega)) (by omega) fun w1 pr1 f1 e1 t1 l1=>?_
  refine i2 (by omega) w1 pr1 _ P (fun i h1 h2=>by rw [e1 _ _ (by omega)];exact hl i (by omega) h2) (by omega) fun w2 pr2 f2 e2 t2 l2=>?_
  have B:Tr pr2 fr w2 f (mid f b):=t1.congr f2 fun a c h1 h2 h3=>e2 a c (by omega)
  obtain ⟨u,Z⟩:=B.top (by omega)
  obtain ⟨v,O⟩:=t2.top (by omega)
  have U:∀ x,u=some x->f <= x.2 /\ x.2 < mid f b /\ fr x.2=some x:=fun x e=>Tr.mem _ _ B (by omega) x (by rw [Z,e]) J.ix
  have L:∀ x,v=some x->mid f b <= x.2 /\ x.2 < b /\ fr x.2=some x:=fun x e=>Tr.mem _ _ t2 (by omega) x (by rw [O,e]) J.ix
  show Wa n (ZBm ((f,mid f b,b)::ms) w2) pr2 P
  rw [ZBm]
  dsimp only
  rw [Z,O]
  refine Wa.bind (ZEy (fun x e=>J.lt _ _ (U x e).2.2) (fun x e=>J.lt _ _ (L x e).2.2) (fun x y ex ey=>J.ne x.2 y.2 x y (by have:=U x ex;have:=L y ey;omega) (U x ex).2.2 (L y ey).2.2) (by omega) fun x a0 Y l3 me=>?_)
  refine k _ a0 (f1.trans (f2.trans Y)) (fun a c h=>?_) (Tr.up z (B.congr Y fun _ _ _ _ _=>rfl) (t2.congr Y fun _ _ _ _ _=>rfl) Z O me) (by omega)
  rw [ZES (by omega),e2 _ _ (by omega),e1 _ _ (by omega)]
noncomputable def Gd (pr:List A3) (x:Nat) (o:Option Fr):Prop:=∀ c,o=some (some c)->Td pr x c.1
theorem filter_off {i f b:Nat} (h:¬ (f <= i /\ i < b)):(mts f b).filter (onW i)=[]:=by
 rw [List.filter_eq_nil_iff]
 intro m hm
 obtain ⟨_,J,B,_⟩:=mts_mem (a:=m.1) (m:=m.2.1) (c:=m.2.2) _ _ hm
 unfold onW
 intro z
 rw [yBK,decide_eq_true_eq,decide_eq_true_eq] at z
 omega
theorem filter_node {i f b:Nat} (z:¬ b-f < 2) (h:f <= i /\ i < b):(mts f b).filter (onW i)=(mts f (mid f b)).filter (onW i)++((mts (mid f b) b).filter (onW i)++[(f,mid f b,b)]):=by
 rw [mts_node z,List.filter_append,List.filter_append,yAV,List.filter_cons_of_pos (by unfold onW;rw [yBK,decide_eq_true_eq,decide_eq_true_eq];exact h)]
 rfl
theorem held_way {fr':Nat->Fr} {w0:W} {i x0:Nat} (ho:Fo n fr) (B:Fo n fr') (hf:∀ j,j≠i->fr' j=fr j) (f b:Nat):f <= i->i < b->∀ (w:W) (pr:List A3) (ms:List Mt) (P:Option W->List A3->Prop),Tr pr fr w0 f b->(∀ a c,f <= a->c <= b->a < c->¬ (a=i /\ c=i+1)->w a c=w0 a c)->w i (i+1)=some (fr' i)->(∀ y,fr' i=some y->Td pr x0 y.1)->pr.length+(b-f) <= 800000 ->
  (∀ w' pr',pr <+: pr'->(∀ a c,¬ (f <= a /\ c <= b /\ a+2 <= c)->w' a c=w a c)->Tr pr' fr' w' f b->(w0 f b=some (some (x0,i))->Gd pr' x0 (w' f b))->pr'.length+1 <= pr.length+(b-f)->Wa n (ZBm ms w') pr' P)->Wa n (ZBm ((mts f b).filter (onW i)++ms) w) pr P:=by
 refine Po.tree (P:=fun f b=>f <= i->i < b->∀ (w:W) (pr:List A3) (ms:List Mt) (P:Option W->List A3->Prop),Tr pr fr w0 f b->(∀ a c,f <= a->c <= b->a < c->¬ (a=i /\ c=i+1)->w a c=w0 a c)->w i (i+1)=some (fr' i)->(∀ y,fr' i=some y->Td pr x0 y.1)->pr.length+(b-f) <= 800000 ->
  (∀ w' pr',pr <+: pr'->(∀ a c,¬ (f <= a /\ c <= b /\ a+2 <= c)->w' a c=w a c)->Tr pr' fr' w' f b->(w0 f b=some (some (x0,i))->Gd pr' x0 (w' f b))->pr'.length+1 <= pr.length+(b-f)->Wa n (ZBm ms w') pr' P)->Wa n (ZBm ((mts f b).filter (onW i)++ms) w) pr P) (fun f b z h1 h2 w pr ms P t e hw hx c k=>?_) (fun f b z i1 i2 h1 h2 w pr ms P t e hw hx c k=>?_) f b
 .rw [mts_leaf z]
  have U:f=i:=by omega
  have e2:b=i+1:=by omega
  subst U
  subst e2
  exact k w pr (yAT _) (fun _ _ _=>rfl) ⟨fun j O L=>by rw [show j=f by omega];exact hw,fun m hm=>by rw [mts_leaf z] at hm;cases hm⟩ (fun _ c hc=>hx c (by rw [hw] at hc;exact Option.some.inj hc)) (by omega)
 .have hm:=mid_lt z
  rw [filter_node z ⟨h1,h2⟩,yAV,yAV]
  obtain ⟨t1,t2,u0,v0,z0,a1,a2,a3,a4⟩:=t.down z
  dsimp only at a1 a2 a3
  by_cases hi:i < mid f b
  .rw [filter_off (f:=mid f b) (b:=b) (by omega),List.nil_append]
   refine i1 h1 hi w pr _ P t1 (fun a c O L=>e a c O (by omega)) hw hx (by omega) fun w1 pr1 f1 U s1 gd l1=>?_
   have s2:Tr pr1 fr' w1 (mid f b) b:=by
    have s:=t2.congr f1 (w':=w1) fun a c O L g3=>by rw [U a c (by omega),e a c (by omega) L g3 (by omega)]
    exact ⟨fun j O L=>by rw [hf j (by omega)];exact s.lf j O L,s.nd⟩
   obtain ⟨u,hu⟩:=s1.top (by omega)
   have hv:w1 (mid f b) b=some v0:=by rw [U _ _ (by omega),e _ _ (by omega) (yAB _) (by omega) (by omega)];exact a2
   have mu:∀ x,u=some x->f <= x.2 /\ x.2 < mid f b /\ fr' x.2=some x:=fun x q=>Tr.mem _ _ s1 (by omega) x (by rw [hu,q]) B.ix
   have Z:∀ x,v0=some x->mid f b <= x.2 /\ x.2 < b /\ fr' x.2=some x:=fun x q=>Tr.mem _ _ s2 (by omega) x (by rw [hv,q]) B.ix
   show Wa n (ZBm ((f,mid f b,b)::ms) w1) pr1 P
   rw [ZBm]
   dsimp only
   rw [hu,hv]
   refine Wa.bind (ZEy (fun x q=>B.lt _ _ (mu x q).2.2) (fun x q=>B.lt _ _ (Z x q).2.2) (fun x y ex ey=>B.ne x.2 y.2 x y (by have:=mu x ex;have:=Z y ey;omega) (mu x ex).2.2 (Z y ey).2.2) (by omega) fun x a0 J l3 me=>?_)
   refine k _ a0 (f1.trans J) (fun a c h=>?_) (Tr.up z (s1.congr J fun _ _ _ _ _=>rfl) (s2.congr J fun _ _ _ _ _=>rfl) hu hv me) (fun Y c hc=>?_) (by omega)
   .rw [ZES (by omega),U _ _ (by omega)]
   .rw [ZET] at hc
    have hc:=Option.some.inj hc
    rw [a3] at Y
    have Y:=Option.some.inj Y
    subst Y
    have ev:v0≠some (x0,i):=fun q=>by have:=Z _ q;dsimp only at this;omega
    have eu:u0=some (x0,i):=by
     rcases a4.or with q | q
     .exact q.symm
     .exact absurd q.symm ev
    rcases me.or with q | q
    .rw [q] at hc
     exact (gd (by rw [a1,eu]) c (by rw [hu,hc])).mono J
    .rw [q] at hc
     rw [eu,hc] at a4
     rcases a4 with ⟨_,y⟩ | ⟨y,_⟩
     .exact y.mono (f1.trans J)
     .rw [hc] at ev;exact absurd y.symm ev
  .rw [filter_off (f:=f) (b:=mid f b) (by omega),List.nil_append]
   refine i2 (by omega) h2 w pr _ P t2 (fun a c O L=>e a c (by omega) L) hw hx (by omega) fun w1 pr1 f1 U s2 gd l1=>?_
   have s1:Tr pr1 fr' w1 f (mid f b):=by
    have s:=t1.congr f1 (w':=w1) fun a c O L g3=>by rw [U a c (by omega),e a c O (by omega) g3 (by omega)]
    exact ⟨fun j O L=>by rw [hf j (by omega)];exact s.lf j O L,s.nd⟩
   obtain ⟨v,hv⟩:=s2.top (by omega)
   have hu:w1 f (mid f b)=some u0:=by rw [U _ _ (by omega),e _ _ (yAB _) (by omega) (by omega) (by omega)];exact a1
   have mu:∀ x,u0=some x->f <= x.2 /\ x.2 < mid f b /\ fr' x.2=some x:=fun x q=>Tr.mem _ _ s1 (by omega) x (by rw [hu,q]) B.ix
   have Z:∀ x,v=some x->mid f b <= x.2 /\ x.2 < b /\ fr' x.2=some x:=fun x q=>Tr.mem _ _ s2 (by omega) x (by rw [hv,q]) B.ix
   show Wa n (ZBm ((f,mid f b,b)::ms) w1) pr1 P
   rw [ZBm]
   dsimp only
   rw [hu,hv]
   refine Wa.bind (ZEy (fun x q=>B.lt _ _ (mu x q).2.2) (fun x q=>B.lt _ _ (Z x q).2.2) (fun x y ex ey=>B.ne x.2 y.2 x y (by have:=mu x ex;have:=Z y ey;omega) (mu x ex).2.2 (Z y ey).2.2) (by omega) fun x a0 J l3 me=>?_)
   refine k _ a0 (f1.trans J) (fun a c h=>?_) (Tr.up z (s1.congr J fun _ _ _ _ _=>rfl) (s2.congr J fun _ _ _ _ _=>rfl) hu hv me) (fun Y c hc=>?_) (by omega)
   .rw [ZES (by omega),U _ _ (by omega)]
   .rw [ZET] at hc
    have hc:=Option.some.inj hc
    rw [a3] at Y
    have Y:=Option.some.inj Y
    subst Y
    have eu:u0≠some (x0,i):=fun q=>by have:=mu _ q;dsimp only at this;omega
    have ev:v0=some (x0,i):=by
     rcases a4.or with q | q
     .exact absurd q.symm eu
     .exact q.symm
    rcases me.or with q | q
    .rw [q] at hc
     rw [ev,hc] at a4
     rcases a4 with ⟨y,_⟩ | ⟨_,y⟩
     .rw [hc] at eu;exact absurd y.symm eu
     .exact y.mono (f1.trans J)
    .rw [q] at hc
     exact (gd (by rw [a2,ev]) c (by rw [hv,hc])).mono J
end
end Pw
namespace Pw
open Po (Fr W Mt mts mid put mts_leaf mts_node mid_lt mts_len mts_mem)
theorem Nb.at {R:Nat->Nat->Prop}:∀ {l:List Nat} {i a b:Nat},Nb R l->l[i]?=some a->l[i+1]?=some b->R a b
 | [],i,a,b,_,h,_=>by simp at h
 | [x],i,a,b,_,_,h=>by simp at h
 | x::y::l,0,a,b,h,h1,h2=>by cases h1;cases h2;exact h.1
 | x::y::l,i+1,a,b,h,h1,h2=>Nb.at (l:=y::l) h.2 (by simpa using h1) (by simpa using h2)
noncomputable def rstW:List (List Nat)->List Nat->List Nat
 | p::ps,t::ts=>p.drop t++rstW ps ts
 | _,_=>[]
theorem rst_take:∀ {pcs:List (List Nat)} {ts:List Nat} {i t x:Nat} {p:List Nat},pcs[i]?=some p->ts[i]?=some t->p[t]?=some x->(rstW pcs ts).Perm (x::rstW pcs (ts.set i (t+1)))
 | [],_,_,_,_,_,h,_,_=>by simp at h
 | _::_,[],_,_,_,_,_,h,_=>by simp at h
 | q::ps,u::ts,0,t,x,p,h1,h2,h3=>by
  cases h1
  cases h2
  obtain ⟨hl,e⟩:=yAR.mp h3
  show (q.drop u++rstW ps ts).Perm (x::(q.drop (u+1)++rstW ps ts))
  rw [yBU hl,e]
  exact .refl _
 | q::ps,u::ts,i+1,t,x,p,h1,h2,h3=>by
  have:=rst_take (pcs:=ps) (ts:=ts) (i:=i) (by simpa using h1) (by simpa using h2) h3
  show (q.drop u++rstW ps ts).Perm (x::(q.drop u++rstW ps (ts.set i (t+1))))
  exact (this.append_left _).trans List.perm_middle
theorem rst_nil:∀ {pcs:List (List Nat)} {ts:List Nat},(∀ i,i < pcs.length->(pcs.getD i [])[ts.getD i 0]?=none)->rstW pcs ts=[]
 | [],_,_=>rfl
 | _::_,[],_=>rfl
 | p::ps,t::ts,h=>by
  have B:=h 0 (by simp)
  have h1:=rst_nil (pcs:=ps) (ts:=ts) fun i hi=>by
   have:=h (i+1) (by simpa using hi)
   simpa using this
  show p.drop t++rstW ps ts=[]
  have z:p[t]?=none:=by simpa using B
  rw [h1,yAY,List.drop_eq_nil_of_le (List.getElem?_eq_none_iff.mp z)]
theorem ZEC:∀ pcs:List (List Nat),rstW pcs (List.replicate pcs.length 0)=pcs.flatten
 | []=>rfl
 | p::ps=>by
  rw [yAG,List.replicate_succ]
  show p.drop 0++rstW ps (List.replicate ps.length 0)=_
  rw [ZEC ps];rfl
structure Pc (n:Nat) (pr:List A3) (pcs:List (List Nat)):Prop where
 nt:∀ p∈pcs,Nt pr p
 nd:pcs.flatten.Nodup
 lt:∀ x∈pcs.flatten,x < n
theorem Pc.mono {n:Nat} {pr pr':List A3} {pcs:List (List Nat)} (h:Pc n pr pcs) (f:pr <+: pr'):Pc n pr' pcs:=⟨fun p z=>(h.nt p z).mono f,h.nd,h.lt⟩
theorem ZB4 {pcs:List (List Nat)} {ts:List Nat} {i:Nat} {y:Nat×Nat} (h:frW pcs ts i=some y):y.2=i /\ ∃ p,pcs[i]?=some p /\ p[ts.getD i 0]?=some y.1:=by
 unfold frW at h
 obtain ⟨x,h1,h2⟩:=yBP.mp h
 rw [<- h2]
 refine ⟨rfl,?_⟩
 rw [yBH] at h1
 cases e:pcs[i]? with
 | none=>rw [e] at h1;simp at h1
 | some p=>rw [e] at h1;exact ⟨p,rfl,h1⟩
theorem Pc.fo {n:Nat} {pr:List A3} {pcs:List (List Nat)} (h:Pc n pr pcs) (ts:List Nat):Fo n (frW pcs ts):=by
 refine ⟨fun i y B=>(ZB4 B).1,fun i y B=>?_,fun i j x y L J B=>?_⟩
 .obtain ⟨_,p,h1,h2⟩:=ZB4 B
  exact h.lt _ (List.mem_flatten.mpr ⟨p,yAO h1,yAO h2⟩)
 .obtain ⟨_,p,h1,h2⟩:=ZB4 J
  obtain ⟨_,q,g1,g2⟩:=ZB4 B
  have hd:=(List.pairwise_flatten.mp h.nd).2
  have J:=yAO h2
  have B:=yAO g2
  obtain ⟨O,Y⟩:=yAR.mp h1
  obtain ⟨Z,U⟩:=yAR.mp g1
  rcases Nat.lt_or_gt_of_ne L with z | z
  .exact List.pairwise_iff_getElem.mp hd i j O Z z x.1 (by rw [Y];exact J) y.1 (by rw [U];exact B)
  .exact Ne.symm (List.pairwise_iff_getElem.mp hd j i Z O z y.1 (by rw [U];exact B) x.1 (by rw [Y];exact J))
theorem tkN_ne {pcs:List (List Nat)} {ts:List Nat} {i j:Nat} (h:j≠i):frW pcs (tkN ts i) j=frW pcs ts j:=by
 unfold frW tkN
 rw [yBH (l:=ts.set i _),List.getElem?_set,if_neg (Ne.symm h),<- yBH]
section
variable {n:Nat}
theorem pourP_al {pcs:List (List Nat)} {D:Nat} (hD:pcs.length <= D) (U:0 < pcs.length):∀ (k:Nat) (ts:List Nat) (w:W) (J:List Nat) (pr:List A3),Pc n pr pcs->ts.length=pcs.length->Tr pr (frW pcs ts) w 0 pcs.length->(rstW pcs ts).length=k->Nt pr J->(∀ A z,J=A++[z]->Gd pr z (w 0 pcs.length))->pr.length+D * k <= 800000 ->
  Wa n (ZDj pcs k ts w J) pr fun o pr'=>∃ os,o=some os /\ os.Perm (J++rstW pcs ts) /\ Nt pr' os /\ pr <+: pr' /\ pr'.length <= pr.length+D * k
 | 0,ts,w,J,pr,pc,tl,tr,hk,na,ga,c=>by
  refine ⟨J,rfl,?_,na,yAT _,by omega⟩
  rw [yBZ.mp hk,yAY]
 | k+1,ts,w,J,pr,pc,tl,tr,hk,na,ga,c=>by
  have fo:=pc.fo ts
  obtain ⟨o,O⟩:=tr.top U
  cases o with
  | none=>
   exfalso
   have:=Tr.non _ _ tr U O
   rw [rst_nil (fun i hi=>by
    have:=this i (yAJ _) hi
    unfold frW at this
    exact Option.map_eq_none_iff.mp this)] at hk
   cases hk
  | some c'=>
   obtain ⟨_,hc,a0⟩:=Tr.mem _ _ tr U c' O fo.ix
   obtain ⟨_,p,L,hp2⟩:=ZB4 a0
   have a1:D * (k+1)=D * k+D:=Nat.mul_succ ..
   have Z:ts[c'.2]?=some (ts.getD c'.2 0):=(ZCo (by omega)).1
   rw [ZDj,O]
   dsimp only
   refine Wa.bind ?_
   rw [<- yAY ((mts 0 pcs.length).filter (onW c'.2))]
   refine held_way (fr:=frW pcs ts) (fr':=frW pcs (tkN ts c'.2)) (w0:=w) (i:=c'.2) (x0:=c'.1) fo (pc.fo _) (fun j hj=>tkN_ne hj) 0 pcs.length (yAJ _) hc _ pr [] _ tr (fun a c _ _ _ h=>ZES h) ZET (fun y hy=>?_) (by omega) fun w' pr1 f1 _ Y gd l1=>?_
   .obtain ⟨_,q,q1,q2⟩:=ZB4 hy
    rw [L] at q1
    cases q1
    have e:(tkN ts c'.2).getD c'.2 0=ts.getD c'.2 0+1:=by
     unfold tkN
     rw [yBH,List.getElem?_set,if_pos rfl,if_pos (by omega)];rfl
    rw [e] at q2
    exact (pc.nt p (yAO L)).at hp2 q2
   .show Wa n (ZDj pcs k (tkN ts c'.2) w' (J++[c'.1])) pr1 _
    have pm:=rst_take L Z hp2
    have hl:=pm.length_eq
    rw [yAG] at hl
    refine (pourP_al hD U k (tkN ts c'.2) w' (J++[c'.1]) pr1 (pc.mono f1) (by unfold tkN;rw [List.length_set];exact tl) Y (by unfold tkN;omega) ?_ (fun A z e=>?_) (by omega)).imp fun o pr2 h=>?_
    .refine Nb.app (na.mono f1) trivial fun A z u B e1 e2=>?_
     cases e2
     exact (ga A z e1 c' O).mono f1
    .rw [<- ZDW e]
     exact gd O
    .obtain ⟨os,e,h1,h2,h3,h4⟩:=h
     refine ⟨os,e,?_,h2,f1.trans h3,by omega⟩
     rw [yAV] at h1
     exact h1.trans ((List.Perm.symm pm).append_left J)
theorem pouredP_al {pcs:List (List Nat)} {D:Nat} {pr:List A3} (L:pcs.length <= D) (pc:Pc n pr pcs) (c:pr.length+D * (pcs.flatten.length+1) <= 800000):Wa n (ZDi pcs) pr fun o pr'=>∃ os,o=some os /\ os.Perm pcs.flatten /\ Nt pr' os /\ pr <+: pr' /\ pr'.length <= pr.length+D * (pcs.flatten.length+1):=by
 have B:D * (pcs.flatten.length+1)=D * pcs.flatten.length+D:=Nat.mul_succ ..
 refine Wa.bind ?_
 by_cases hp:0 < pcs.length
 .rw [<- yAY (mts 0 pcs.length)]
  refine held_all (fr:=frW pcs (List.replicate pcs.length 0)) (pc.fo _) 0 pcs.length hp _ pr [] _ (fun i _ hi=>by unfold lvW;rw [if_pos ⟨rfl,hi⟩]) (by omega) fun w' pr1 f1 _ O U=>?_
  show Wa n (ZDj pcs (pcs.map List.length).sum (List.replicate pcs.length 0) w' []) pr1 _
  refine (pourP_al L hp _ _ w' [] pr1 (pc.mono f1) (yBR ..) O (by rw [ZEC,List.length_flatten]) trivial (fun A z e=>by simp at e) (by rw [<- List.length_flatten];omega)).imp fun o pr2 h=>?_
  obtain ⟨os,e,h1,h2,h3,J⟩:=h
  rw [<- List.length_flatten] at J
  refine ⟨os,e,by rw [ZEC] at h1;exact h1,h2,f1.trans h3,by omega⟩
 .have e:pcs=[]:=yBZ.mp (by omega)
  subst e
  rw [mts_leaf (by decide)]
  exact ⟨[],rfl,.refl _,trivial,yAT _,by omega⟩
noncomputable def oneP (d:Nat):Nat->List (List Nat)->List (List Nat)->Pg (Option (List (List Nat)))
 | 0,_,acc=>.ret (some acc)
 | k+1,pcs,acc=>(ZDi (pcs.take d)).bind fun o=>match o with
  | none=>.ret none
  | some os=>oneP d k (pcs.drop d) (acc++[os])
theorem flat_td (l:List (List Nat)) (d:Nat):(l.take d).flatten++(l.drop d).flatten=l.flatten:=by rw [<- yCB,yBO]
theorem oneP_al {d:Nat} (hd:d <= 9):∀ (k:Nat) (pcs acc:List (List Nat)) (pr:List A3),Pc n pr (acc++pcs)->pcs.length <= k * d->pr.length+9 * (pcs.flatten.length+k) <= 800000 ->
  Wa n (oneP d k pcs acc) pr fun o pr'=>∃ z,o=some z /\ z.flatten.Perm (acc++pcs).flatten /\ (∀ p∈z,Nt pr' p) /\ z.length=acc.length+k /\ pr <+: pr' /\ pr'.length <= pr.length+9 * (pcs.flatten.length+k)
 | 0,pcs,acc,pr,pc,hl,c=>by
  rw [yBS] at hl
  have e:pcs=[]:=yBZ.mp (by omega)
  subst e
  rw [yAY] at *
  exact ⟨acc,rfl,.refl _,pc.nt,rfl,yAT _,by omega⟩
 | k+1,pcs,acc,pr,pc,hl,c=>by
  have O:=flat_td pcs d
  have fl:=congrArg List.length O
  rw [yAE] at fl
  rw [yBT] at hl
  have L:∀ x∈(pcs.take d).flatten,x∈(acc++pcs).flatten:=fun x J=>by
   rw [yCB,<- O]
   exact yAQ _ (yBJ _ J)
  have pt:Pc n pr (pcs.take d):=by
   refine ⟨fun p B=>pc.nt p (yAQ _ (List.mem_of_mem_take B)),?_,fun x J=>pc.lt x (L x J)⟩
   have:=pc.nd
   rw [yCB,<- O] at this
   exact (List.nodup_append.mp (List.nodup_append.mp this).2.1).1
  refine Wa.bind ((pouredP_al (D:=9) (by rw [yBA];omega) pt (by omega)).imp fun o pr1 h=>?_)
  obtain ⟨os,rfl,h1,h2,h3,h4⟩:=h
  show Wa n (oneP d k (pcs.drop d) (acc++[os])) pr1 _
  have U:(acc++[os]++pcs.drop d).flatten.Perm (acc++pcs).flatten:=by
   rw [yCB,yCB,yCB,<- O,yAV]
   refine List.Perm.append_left _ ?_
   rw [show [os].flatten=os by simp]
   exact h1.append_right _
  refine (oneP_al hd k (pcs.drop d) (acc++[os]) pr1 ⟨fun p B=>?_,U.nodup_iff.mpr pc.nd,fun x J=>pc.lt x (U.mem_iff.mp J)⟩ (by rw [yAU];omega) (by omega)).imp fun o pr2 g=>?_
  .rcases yAX.mp B with B | B
   .rcases yAX.mp B with B | B
    .exact (pc.nt p (yBJ _ B)).mono h3
    .rw [yAH.mp B];exact h2
   .exact (pc.nt p (yAQ _ (List.mem_of_mem_drop B))).mono h3
  .obtain ⟨z,e,g1,Y,Z,g4,g5⟩:=g
   refine ⟨z,e,g1.trans U,Y,?_,h3.trans g4,by omega⟩
   rw [Z,yAE,yBE];omega
noncomputable def grpN (l d:Nat):Nat:=(l+d-1) / d
theorem ZFo {l d:Nat} (z:0 < d):l <= grpN l d * d:=by
 unfold grpN
 have h1:=Nat.div_add_mod (l+d-1) d
 have h2:=Nat.mod_lt (l+d-1) z
 rw [Nat.mul_comm] at h1
 omega
theorem grp_lt {l d:Nat} (z:2 <= d) (hl:2 <= l):grpN l d < l:=by
 unfold grpN
 refine Nat.div_lt_of_lt_mul ?_
 obtain ⟨a,rfl⟩:∃ a,d=a+2:=⟨d-2,by omega⟩
 obtain ⟨b,rfl⟩:∃ b,l=b+2:=⟨l-2,by omega⟩
 have:(a+2) * (b+2)=a * b+2 * a+2 * b+4:=by rw [Nat.add_mul,Nat.mul_add,Nat.mul_add];omega
 omega
noncomputable def ZBj (d:Nat):Nat->List (List Nat)->List Nat->Pg (Option (List Nat×List Nat))
 | 0,pcs,ns=>.ret (some (pcs.headD [],ns))
 | m+1,pcs,ns=>if 1 < pcs.length then (oneP d (grpN pcs.length d) pcs []).bind fun o=>match o with
   | none=>.ret none
   | some out=>ZBj d m out (ns++[out.length])
  else .ret (some (pcs.headD [],ns))
theorem head_flat {pcs:List (List Nat)} (h:pcs.length <= 1):pcs.headD []=pcs.flatten:=by
 match pcs,h with
 | [],_=>rfl
 | [p],_=>simp
theorem head_nt {pr:List A3} {pcs:List (List Nat)} (pc:Pc n pr pcs) (h:pcs.length <= 1):Nt pr pcs.flatten:=by
 match pcs,h with
 | [],_=>exact trivial
 | [p],_=>have:=pc.nt p yAC;simpa using this
theorem ZDN {d:Nat} (O:2 <= d) (L:d <= 9):∀ (m:Nat) (pcs:List (List Nat)) (ns:List Nat) (pr:List A3),Pc n pr pcs->pcs.length <= m+1->pcs.flatten.length <= 120->pcs.length <= 120->pr.length+2200 * pcs.length <= 800000 ->
  Wa n (ZBj d m pcs ns) pr fun o pr'=>∃ r,o=some r /\ r.1.Perm pcs.flatten /\ Nt pr' r.1 /\ pr <+: pr' /\ pr'.length <= pr.length+2200 * pcs.length
 | 0,pcs,ns,pr,pc,hm,hf,hl,c=>by
  refine ⟨_,rfl,?_,?_,yAT _,by omega⟩ <;> dsimp only <;> rw [head_flat (by omega)]
  exact head_nt pc (by omega)
 | m+1,pcs,ns,pr,pc,hm,hf,hl,c=>by
  rw [ZBj]
  by_cases z:1 < pcs.length
  .rw [if_pos z]
   have h1:=ZFo (l:=pcs.length) (d:=d) (by omega)
   have h2:=grp_lt (l:=pcs.length) O (by omega)
   refine Wa.bind ((oneP_al L _ pcs [] pr pc h1 (by omega)).imp fun o pr1 h=>?_)
   obtain ⟨B,rfl,J,U,Y,Z,g5⟩:=h
   have J:B.flatten.Perm pcs.flatten:=J
   show Wa n (ZBj d m B (ns++[B.length])) pr1 _
   rw [yBM,Nat.zero_add] at Y
   have gl:=J.length_eq
   refine (ZDN O L m B _ pr1 ⟨U,J.nodup_iff.mpr pc.nd,fun x hx=>pc.lt x (J.mem_iff.mp hx)⟩ (by omega) (by omega) (by omega) (by omega)).imp fun o pr2 h=>?_
   obtain ⟨r,e,a1,a2,a3,a4⟩:=h
   exact ⟨r,e,a1.trans J,a2,Z.trans a3,by omega⟩
  .rw [if_neg z]
   refine ⟨_,rfl,?_,?_,yAT _,by omega⟩ <;> dsimp only <;> rw [head_flat (by omega)]
   exact head_nt pc (by omega)
noncomputable def pcsP (G:Nat->Nat->Nat->Nat->Nat) (ls wd N:Nat):Nat->Nat->List (List Nat)->Pg (List (List Nat))
 | 0,_,acc=>.ret acc
 | k+1,f,acc=>(bypP G ls f (min (f+wd) N)).bind fun os=>pcsP G ls wd N k (f+wd) (acc++[os])
theorem pcsP_al {G:Nat->Nat->Nat->Nat->Nat} {ls wd:Nat} (hw:0 < wd) (hn:n <= 120):∀ (k f:Nat) (acc:List (List Nat)) (pr:List A3),n <= f+k * wd->k * wd < n-f+wd->acc.flatten.Perm (List.range' 0 (min f n))->(∀ p∈acc,Nt pr p)->pr.length+400 * (n-f) <= 780000 ->
  Wa n (pcsP G ls wd n k f acc) pr fun z pr'=>z.flatten.Perm (List.range' 0 n) /\ (∀ p∈z,Nt pr' p) /\ z.length=acc.length+k /\ pr <+: pr' /\ pr'.length <= pr.length+400 * (n-f)
 | 0,f,acc,pr,h1,h2,h3,h4,c=>by
  rw [yBS] at h1
  rw [Nat.min_eq_right (by omega)] at h3
  exact ⟨h3,h4,rfl,yAT _,by omega⟩
 | k+1,f,acc,pr,h1,h2,h3,h4,c=>by
  rw [yBT] at h1 h2
  have hf:f < n:=by omega
  refine Wa.bind ((bypP_al (n:=n) (pr:=pr) (s:=f) (e:=min (f+wd) n) (by omega) (by omega) hn (by omega)).imp fun os pr1 h=>?_)
  obtain ⟨g1,L,J,g4⟩:=h
  refine (pcsP_al hw hn k (f+wd) (acc++[os]) pr1 (by omega) (by omega) ?_ (fun p B=>?_) (by omega)).imp fun z pr2 h=>?_
  .rw [yCB,show [os].flatten=os by simp]
   rw [yBX (by omega)] at h3
   refine (h3.append g1).trans ?_
   have:=List.range'_append (s:=0) (m:=f) (n:=min (f+wd) n-f) (step:=1)
   rw [Nat.one_mul,Nat.zero_add] at this
   rw [this,show f+(min (f+wd) n-f)=min (f+wd) n by omega]
  .rcases yAX.mp B with B | B
   .exact (h4 p B).mono J
   .rw [yAH.mp B];exact L
  .obtain ⟨O,Z,Y,U,a5⟩:=h
   refine ⟨O,Z,?_,J.trans U,by omega⟩
   rw [Y,yAE,yBE];omega
noncomputable def ZEe (G:Nat->Nat->Nat->Nat->Nat) (ls wd N:Nat):Pg (List (List Nat)):=pcsP G ls wd N (grpN N wd) 0 []
theorem allPcs_al {G:Nat->Nat->Nat->Nat->Nat} {ls wd:Nat} {pr:List A3} (hw:0 < wd) (hn:n <= 120) (c:pr.length+400 * n <= 780000):Wa n (ZEe G ls wd n) pr fun B pr'=>Pc n pr' B /\ B.flatten.Perm (List.range' 0 n) /\ B.length <= 120 /\ pr <+: pr' /\ pr'.length <= pr.length+400 * n:=by
 have h1:=ZFo (l:=n) (d:=wd) hw
 have h2:grpN n wd * wd < n-0+wd:=by
  unfold grpN
  have:=Nat.div_mul_le_self (n+wd-1) wd
  omega
 refine (pcsP_al hw hn (grpN n wd) 0 [] pr (by omega) h2 (by rw [Nat.zero_min];exact .refl _) (fun p hp=>by cases hp) c).imp fun B pr' h=>?_
 obtain ⟨J,Z,U,O,Y⟩:=h
 refine ⟨⟨Z,J.nodup_iff.mpr List.nodup_range',fun x L=>?_⟩,J,?_,O,Y⟩
 .have:=List.mem_range'_1.mp (J.mem_iff.mp L);omega
 .rw [U,yBM,Nat.zero_add]
  unfold grpN at *
  by_cases z:wd <= n
  .have:(n+wd-1) / wd <= n:=by
    refine Nat.div_le_of_le_mul ?_
    obtain ⟨a,rfl⟩:∃ a,wd=a+1:=⟨wd-1,by omega⟩
    cases n with
    | zero=>omega
    | succ m=>
     have:(a+1) * (m+1)=a * m+a+m+1:=by rw [Nat.add_mul,Nat.mul_add];omega
     omega
   omega
  .have:(n+wd-1) / wd < 2:=Nat.div_lt_of_lt_mul (by omega)
   omega
noncomputable def ZCc (G:Nat->Nat->Nat->Nat->Nat) (ls wd d N:Nat):Pg (Option (List Nat)):=(ZEe G ls wd N).bind fun pcs=>(ZBj d pcs.length pcs []).bind fun o=>match o with
 | none=>.ret none
 | some r=>.ret (some r.1)
theorem byPcsP_al {G:Nat->Nat->Nat->Nat->Nat} {ls wd d:Nat} {pr:List A3} (hw:0 < wd) (hd:2 <= d) (z:d <= 9) (hn:n <= 120) (c:pr.length <= 400000):Wa n (ZCc G ls wd d n) pr fun o pr'=>∃ os,o=some os /\ os.Perm (List.range' 0 n) /\ Nt pr' os /\ pr <+: pr' /\ pr'.length <= pr.length+320000:=by
 refine Wa.bind ((allPcs_al hw hn (by omega)).imp fun pcs pr1 h=>?_)
 obtain ⟨L,B,Y,U,a5⟩:=h
 have hl:=B.length_eq
 rw [yCA] at hl
 refine Wa.bind ((ZDN hd z pcs.length pcs [] pr1 L (by omega) (by omega) Y (by omega)).imp fun o pr2 h=>?_)
 obtain ⟨r,rfl,Z,O,J,b4⟩:=h
 exact ⟨r.1,rfl,Z.trans B,O,U.trans J,by omega⟩
end
end Pw
namespace L2
open PySem
theorem tVar_1 {v:V} {z:Option V} {σ:St} {H:Hp} {Q:VK}:tVar 1 (z::some v::σ) H Q=Q v H:=by
 simp only [ZAr,ZAo]
theorem tVar_2 {v:V} {B z:Option V} {σ:St} {H:Hp} {Q:VK}:tVar 2 (B::z::some v::σ) H Q=Q v H:=by
 simp only [ZAr,ZAo]
theorem tVar_3 {v:V} {J z B:Option V} {σ:St} {H:Hp} {Q:VK}:tVar 3 (J::z::B::some v::σ) H Q=Q v H:=by
 simp only [ZAr,ZAo]
theorem tVar_4 {v:V} {L B J z:Option V} {σ:St} {H:Hp} {Q:VK}:tVar 4 (L::B::J::z::some v::σ) H Q=Q v H:=by
 simp only [ZAr,ZAo]
theorem tVar_5 {v:V} {L B J z O:Option V} {σ:St} {H:Hp} {Q:VK}:tVar 5 (L::B::J::z::O::some v::σ) H Q=Q v H:=by
 simp only [ZAr,ZAo]
theorem tVar_6 {v:V} {O B L z U J:Option V} {σ:St} {H:Hp} {Q:VK}:tVar 6 (O::B::L::z::U::J::some v::σ) H Q=Q v H:=by
 simp only [ZAr,ZAo]
theorem tVar_7 {v:V} {O B L z Y J U:Option V} {σ:St} {H:Hp} {Q:VK}:tVar 7 (O::B::L::z::Y::J::U::some v::σ) H Q=Q v H:=by
 simp only [ZAr,ZAo]
theorem tVar_8 {v:V} {O B L z Z J Y U:Option V} {σ:St} {H:Hp} {Q:VK}:tVar 8 (O::B::L::z::Z::J::Y::U::some v::σ) H Q=Q v H:=by
 simp only [ZAr,ZAo]
theorem tVar_9 {v:V} {U B O z a4 L Z Y J:Option V} {σ:St} {H:Hp} {Q:VK}:tVar 9 (U::B::O::z::a4::L::Z::Y::J::some v::σ) H Q=Q v H:=by
 simp only [ZAr,ZAo]
theorem tVar_10 {v:V} {Y B U z a4 L a6 Z J O:Option V} {σ:St} {H:Hp} {Q:VK}:tVar 10 (Y::B::U::z::a4::L::a6::Z::J::O::some v::σ) H Q=Q v H:=by
 simp only [ZAr,ZAo]
theorem tVar_11 {v:V} {Z J Y B a4 O a6 a7 L U z:Option V} {σ:St} {H:Hp} {Q:VK}:tVar 11 (Z::J::Y::B::a4::O::a6::a7::L::U::z::some v::σ) H Q=Q v H:=by
 simp only [ZAr,ZAo]
theorem tVar_12 {v:V} {a0 L Z J a4 U a6 a7 O Y B z:Option V} {σ:St} {H:Hp} {Q:VK}:tVar 12 (a0::L::Z::J::a4::U::a6::a7::O::Y::B::z::some v::σ) H Q=Q v H:=by
 simp only [ZAr,ZAo]
theorem tVar_13 {v:V} {a0 O a2 L a4 Y a6 a7 U Z J B z:Option V} {σ:St} {H:Hp} {Q:VK}:tVar 13 (a0::O::a2::L::a4::Y::a6::a7::U::Z::J::B::z::some v::σ) H Q=Q v H:=by
 simp only [ZAr,ZAo]
theorem tVar_14 {v:V} {a0 U a2 O a4 Z a6 a7 Y a9 L B z J:Option V} {σ:St} {H:Hp} {Q:VK}:tVar 14 (a0::U::a2::O::a4::Z::a6::a7::Y::a9::L::B::z::J::some v::σ) H Q=Q v H:=by
 simp only [ZAr,ZAo]
theorem tVar_15 {v:V} {a0 U a2 Z Y a5 a6 a7 a8 a9 J L B z O:Option V} {σ:St} {H:Hp} {Q:VK}:tVar 15 (a0::U::a2::Z::Y::a5::a6::a7::a8::a9::J::L::B::z::O::some v::σ) H Q=Q v H:=by
 simp only [ZAr,ZAo]
theorem tVar_16 {v:V} {a0 Y a2 a3 Z a5 a6 a7 a8 a9 L O J B U z:Option V} {σ:St} {H:Hp} {Q:VK}:tVar 16 (a0::Y::a2::a3::Z::a5::a6::a7::a8::a9::L::O::J::B::U::z::some v::σ) H Q=Q v H:=by
 simp only [ZAr,ZAo]
theorem tVar_17 {v:V} {a0 Z a2 a3 a4 a5 a6 a7 a8 a9 O U J B Y z L:Option V} {σ:St} {H:Hp} {Q:VK}:tVar 17 (a0::Z::a2::a3::a4::a5::a6::a7::a8::a9::O::U::J::B::Y::z::L::some v::σ) H Q=Q v H:=by
 simp only [ZAr,ZAo]
theorem tVar_18 {v:V} {a0 a1 a2 a3 a4 a5 a6 a7 a8 a9 U Y L J Z B O z:Option V} {σ:St} {H:Hp} {Q:VK}:tVar 18 (a0::a1::a2::a3::a4::a5::a6::a7::a8::a9::U::Y::L::J::Z::B::O::z::some v::σ) H Q=Q v H:=by
 simp only [ZAr,ZAo]
theorem tVar_19 {v:V} {a0 a1 a2 a3 a4 a5 a6 a7 a8 a9 Y Z O J aa B U z L:Option V} {σ:St} {H:Hp} {Q:VK}:tVar 19 (a0::a1::a2::a3::a4::a5::a6::a7::a8::a9::Y::Z::O::J::aa::B::U::z::L::some v::σ) H Q=Q v H:=by
 simp only [ZAr,ZAo]
theorem tVar_20 {v:V} {a0 a1 a2 a3 a4 a5 a6 a7 a8 a9 Y aa O J ab B U z L Z:Option V} {σ:St} {H:Hp} {Q:VK}:tVar 20 (a0::a1::a2::a3::a4::a5::a6::a7::a8::a9::Y::aa::O::J::ab::B::U::z::L::Z::some v::σ) H Q=Q v H:=by
 simp only [ZAr,ZAo]
theorem tVar_21 {v:V} {a0 a1 a2 a3 a4 a5 a6 a7 a8 a9 Z ab U L ac B Y z O aa J:Option V} {σ:St} {H:Hp} {Q:VK}:tVar 21 (a0::a1::a2::a3::a4::a5::a6::a7::a8::a9::Z::ab::U::L::ac::B::Y::z::O::aa::J::some v::σ) H Q=Q v H:=by
 simp only [ZAr,ZAo]
theorem tVar_22 {v:V} {a0 a1 a2 a3 a4 a5 a6 a7 a8 a9 aa ac U L ad B Z z O ab J Y:Option V} {σ:St} {H:Hp} {Q:VK}:tVar 22 (a0::a1::a2::a3::a4::a5::a6::a7::a8::a9::aa::ac::U::L::ad::B::Z::z::O::ab::J::Y::some v::σ) H Q=Q v H:=by
 simp only [ZAr,ZAo]
theorem tVar_23 {v:V} {a0 a1 a2 a3 a4 a5 a6 a7 a8 a9 ab ad U L ae B aa z O ac J Z Y:Option V} {σ:St} {H:Hp} {Q:VK}:tVar 23 (a0::a1::a2::a3::a4::a5::a6::a7::a8::a9::ab::ad::U::L::ae::B::aa::z::O::ac::J::Z::Y::some v::σ) H Q=Q v H:=by
 simp only [ZAr,ZAo]
theorem tVar_24 {v:V} {a0 a1 a2 a3 a4 a5 a6 a7 a8 a9 ac ae Y O af B ab z U ad J aa Z L:Option V} {σ:St} {H:Hp} {Q:VK}:tVar 24 (a0::a1::a2::a3::a4::a5::a6::a7::a8::a9::ac::ae::Y::O::af::B::ab::z::U::ad::J::aa::Z::L::some v::σ) H Q=Q v H:=by
 simp only [ZAr,ZAo]
theorem tVar_25 {v:V} {a0 a1 a2 a3 a4 a5 a6 a7 a8 a9 ac af Y O ag B ab z U ae J aa Z L ad:Option V} {σ:St} {H:Hp} {Q:VK}:tVar 25 (a0::a1::a2::a3::a4::a5::a6::a7::a8::a9::ac::af::Y::O::ag::B::ab::z::U::ae::J::aa::Z::L::ad::some v::σ) H Q=Q v H:=by
 simp only [ZAr,ZAo]
theorem tVar_26 {v:V} {a0 a1 a2 a3 a4 a5 a6 a7 a8 a9 ad ag Z U ah B ac z Y af J ab aa O ae L:Option V} {σ:St} {H:Hp} {Q:VK}:tVar 26 (a0::a1::a2::a3::a4::a5::a6::a7::a8::a9::ad::ag::Z::U::ah::B::ac::z::Y::af::J::ab::aa::O::ae::L::some v::σ) H Q=Q v H:=by
 simp only [ZAr,ZAo]
theorem tVar_27 {v:V} {a0 a1 a2 a3 a4 a5 a6 a7 a8 a9 ae ah aa U ai B ad z Z ag J ac ab O af L Y:Option V} {σ:St} {H:Hp} {Q:VK}:tVar 27 (a0::a1::a2::a3::a4::a5::a6::a7::a8::a9::ae::ah::aa::U::ai::B::ad::z::Z::ag::J::ac::ab::O::af::L::Y::some v::σ) H Q=Q v H:=by
 simp only [ZAr,ZAo]
theorem tVar_28 {v:V} {a0 a1 a2 a3 a4 a5 a6 a7 a8 a9 af ai aa U aj B ae z Z ah J ac ab O ag L Y ad:Option V} {σ:St} {H:Hp} {Q:VK}:tVar 28 (a0::a1::a2::a3::a4::a5::a6::a7::a8::a9::af::ai::aa::U::aj::B::ae::z::Z::ah::J::ac::ab::O::ag::L::Y::ad::some v::σ) H Q=Q v H:=by
 simp only [ZAr,ZAo]
theorem tVar_29 {v:V} {a0 a1 a2 a3 a4 a5 a6 a7 a8 a9 ag aj ab U al B af z aa ai J ad ac O ah L Z ae Y:Option V} {σ:St} {H:Hp} {Q:VK}:tVar 29 (a0::a1::a2::a3::a4::a5::a6::a7::a8::a9::ag::aj::ab::U::al::B::af::z::aa::ai::J::ad::ac::O::ah::L::Z::ae::Y::some v::σ) H Q=Q v H:=by
 simp only [ZAr,ZAo]
theorem tVar_30 {v:V} {a0 a1 a2 a3 a4 a5 a6 a7 a8 a9 ah al ab U am B ag z aa aj J ad ac O ai L Z ae Y af:Option V} {σ:St} {H:Hp} {Q:VK}:tVar 30 (a0::a1::a2::a3::a4::a5::a6::a7::a8::a9::ah::al::ab::U::am::B::ag::z::aa::aj::J::ad::ac::O::ai::L::Z::ae::Y::af::some v::σ) H Q=Q v H:=by
 simp only [ZAr,ZAo]
open PySem
noncomputable def Cut (t:TS):TS:=t
theorem ZAW {X:Cx} {rest:List Stmt} {u:TS} (h:PSs X rest u):PSs X rest (Cut u):=h
theorem ZAc {u:TS} {D:Ends} {σ:St} {H:Hp} (h:u D σ H):Cut u D σ H:=h
theorem us0 {l:List Value} (h:l.length=0):l=[]:=yBZ.mp h
theorem us1 {l:List Value} (h:l.length=1):∃ z,l=[z]:=by
 cases l with
 | nil=>cases h
 | cons a l=>
  obtain rfl:=us0 (l:=l) (Nat.succ.inj h)
  exact ⟨a,rfl⟩
theorem us2 {l:List Value} (h:l.length=2):∃ J z,l=[J,z]:=by
 cases l with
 | nil=>cases h
 | cons a l=>
  obtain ⟨B,rfl⟩:=us1 (l:=l) (Nat.succ.inj h)
  exact ⟨a,B,rfl⟩
theorem us3 {l:List Value} (h:l.length=3):∃ L z J,l=[L,z,J]:=by
 cases l with
 | nil=>cases h
 | cons a l=>
  obtain ⟨B,O,rfl⟩:=us2 (l:=l) (Nat.succ.inj h)
  exact ⟨a,B,O,rfl⟩
theorem us4 {l:List Value} (h:l.length=4):∃ U B O z,l=[U,B,O,z]:=by
 cases l with
 | nil=>cases h
 | cons a l=>
  obtain ⟨J,Y,L,rfl⟩:=us3 (l:=l) (Nat.succ.inj h)
  exact ⟨a,J,Y,L,rfl⟩
theorem us5 {l:List Value} (h:l.length=5):∃ Z J Y B z,l=[Z,J,Y,B,z]:=by
 cases l with
 | nil=>cases h
 | cons a l=>
  obtain ⟨L,b1,O,U,rfl⟩:=us4 (l:=l) (Nat.succ.inj h)
  exact ⟨a,L,b1,O,U,rfl⟩
end L2
namespace Law
open PySem L2 Pw
local macro_rules | `(tactic| walk_at "o")=>`(tactic| first | exact Or.inl rfl | exact Or.inr rfl)
set_option hygiene false in
local macro_rules | `(tactic| walk_at "rd")=>`(tactic| ((try dsimp only [cx_K,ZFN,tDNewK,ZEi,tDIn,ZF7,ZGB,tChain,tForZ_eq,ZF3,tCompR2_eq,sFldAug_eq,cx_cloK,ZFO,ZC4,tForE_eq,tCompE_eq,tMaxD,tAug_eq,ipI_int,gSub,gCons_eq,gNil_eq,tSeq,tIfS,ZF2,tB,tOr,tAnd,tNot,tOp,tUn,tC,ZAo,tForR3_eq,tCompR3_eq,tBL,tVar_1,tVar_2,tVar_3,tVar_4,tVar_5,tVar_6,tVar_7,tVar_8,tVar_9,tVar_10,tVar_11,tVar_12,tVar_13,tVar_14,tVar_15,tVar_16,tVar_17,tVar_18,tVar_19,tVar_20,tVar_21,tVar_22,tVar_23,tVar_24,tVar_25,tVar_26,tVar_27,tVar_28,tVar_29,tVar_30,rI0_int,rI_int,rU_int,rEq_int,rNe_int,rEq_bl,rNe_bl,rEq_str,rNe_str,ex_bl,ex_int,tAsg,ZE3,tRet,tRetN,ZF6,ZFx,ZFL,ZF8,tOrV,ZF5,tIf,List.set_cons_zero,List.set_cons_succ,ZFP,ZFB,ZCG,tNil,yCI,List.nil_append,yAY,tCB,tFld_eq,sFld_eq,tForL_eq,tForR1_eq,tForR2_eq,tCompL_eq,tCompR1_eq,tYes,tBM,tBM0,tLst,tTup,ZFM,true_and,tSl,ZF4,ZEh,decide_eq_true_eq,Bool.not_eq_true',decide_eq_false_iff_not,L2.start,yAS,List.map_nil,yAG,yBM,Nat.reduceAdd,Nat.reduceSub,Nat.zero_add,yBG,List.replicate_zero,List.replicate_succ,if_true,if_false,Bool.false_eq_true,Bool.true_eq_false,Bool.not_true,Bool.not_false]);(try simp only [cx_K,ZFN,tDNewK,ZEi,tDIn,ZF7,ZGB,tChain,tForZ_eq,ZF3,tCompR2_eq,sFldAug_eq,cx_cloK,ZFO,ZC4,tForE_eq,tCompE_eq,tMaxD,tAug_eq,ipI_int,gSub,gCons_eq,gNil_eq,tSeq,tIfS,ZF2,tB,tOr,tAnd,tNot,tOp,tUn,tC,ZAo,tForR3_eq,tCompR3_eq,tBL,tVar_1,tVar_2,tVar_3,tVar_4,tVar_5,tVar_6,tVar_7,tVar_8,tVar_9,tVar_10,tVar_11,tVar_12,tVar_13,tVar_14,tVar_15,tVar_16,tVar_17,tVar_18,tVar_19,tVar_20,tVar_21,tVar_22,tVar_23,tVar_24,tVar_25,tVar_26,tVar_27,tVar_28,tVar_29,tVar_30,rI0_int,rI_int,rU_int,rEq_int,rNe_int,rEq_bl,rNe_bl,rEq_str,rNe_str,ex_bl,ex_int,tAsg,ZE3,tRet,tRetN,ZF6,ZFx,ZFL,ZF8,tOrV,ZF5,tIf,List.set_cons_zero,List.set_cons_succ,ZFP,ZFB,ZCG,tNil,yCI,List.nil_append,yAY,tCB,tFld_eq,sFld_eq,tForL_eq,tForR1_eq,tForR2_eq,tCompL_eq,tCompR1_eq,tYes,tBM,tBM0,tLst,tTup,ZFM,true_and,tSl,ZF4,ZEh,decide_eq_true_eq,Bool.not_eq_true',decide_eq_false_iff_not,L2.start,yAS,List.map_nil,yAG,yBM,Nat.reduceAdd,Nat.reduceSub,Nat.zero_add,yBG,List.replicate_zero,List.replicate_succ,if_true,if_false,Bool.false_eq_true,Bool.true_eq_false,Bool.not_true,Bool.not_false])))
local macro_rules | `(tactic| walk_at "up")=>`(tactic| first | assumption | (refine Same.get (by assumption) ?_;walk_at "up"))
local macro_rules | `(tactic| walk_at "lk")=>`(tactic| ((repeat (first | rw [lkc,if_pos rfl] | rw [lkc,if_neg (by decide +kernel)]));first | done | rfl))
noncomputable def top (i:Nat):Stmt:=PySem.Challenge.pw_sorthall_k66_whole_by_pieces.main.body.getD i (.Pass ⟨0,0,0,0⟩)
noncomputable abbrev ZDz:Stmt:=top 2
noncomputable abbrev ZBg:Stmt:=ZAi (top 7) 0
noncomputable abbrev ZAz:Stmt:=ZAi (top 7) 1
noncomputable abbrev ZBM:Stmt:=ZAi (top 7) 2
noncomputable abbrev ZA6:Stmt:=ZAi (top 7) 3
noncomputable abbrev ZAu:Stmt:=ZAi (top 7) 4
noncomputable abbrev ZBs:Stmt:=ZAi (top 7) 5
noncomputable abbrev ZA7:Stmt:=ZAi (top 7) 6
noncomputable abbrev ZCi:Stmt:=top 8
noncomputable abbrev ZA4:Stmt:=top 10
noncomputable abbrev ZB9:Stmt:=top 11
noncomputable abbrev ZB8:Stmt:=top 13
noncomputable abbrev ZCj:Stmt:=top 14
noncomputable abbrev ZDM:Stmt:=top 16
noncomputable abbrev ZBf:Stmt:=ZAi (top 18) 0
noncomputable abbrev ZAt:Stmt:=ZAi (top 18) 1
noncomputable abbrev ZAf:Stmt:=ZAi (top 18) 2
noncomputable abbrev ZAy:Stmt:=ZAi (top 18) 3
noncomputable abbrev ZAj:Stmt:=ZAi (top 18) 4
noncomputable abbrev ZBr:Stmt:=ZAi (top 18) 5
noncomputable abbrev ZBe:Stmt:=ZAi (top 18) 6
noncomputable abbrev ZBL:Stmt:=ZAi (top 18) 8
noncomputable abbrev ZCB:Stmt:=top 19
noncomputable abbrev ZBA:Stmt:=top 21
noncomputable abbrev ZBc:Stmt:=ZAi (top 22) 0
noncomputable abbrev ZAx:Stmt:=ZAi (top 22) 1
noncomputable abbrev ZA5:Stmt:=ZAi (top 22) 2
noncomputable abbrev ZBq:Stmt:=ZAi (top 22) 3
noncomputable abbrev ZBd:Stmt:=ZAi (top 22) 4
noncomputable abbrev ZBp:Stmt:=ZAi (top 22) 5
noncomputable abbrev ZBa:Stmt:=ZAi (top 22) 7
noncomputable abbrev ZBb:Stmt:=ZAi (top 22) 8
noncomputable abbrev ZCg:Stmt:=top 23
noncomputable abbrev ZBX:Stmt:=top 25
noncomputable abbrev ZBY:Stmt:=top 26
noncomputable abbrev ZBZ:Stmt:=top 27
noncomputable abbrev ZBO:Stmt:=ZAi (top 32) 0
noncomputable abbrev ZBN:Stmt:=ZAi (top 32) 1
noncomputable abbrev ZBB:Stmt:=ZAi (top 32) 2
noncomputable abbrev ZAv:Stmt:=ZAi (top 35) 0
noncomputable abbrev ZAn:Stmt:=ZAi (top 35) 1
noncomputable abbrev ZCA:Stmt:=top 37
noncomputable abbrev ZCk:Stmt:=top 38
noncomputable abbrev ZCf:Stmt:=top 39
noncomputable abbrev ZCl:Stmt:=top 40
noncomputable abbrev ZCh:Stmt:=top 41
noncomputable abbrev ZD0:Stmt:=top 42
noncomputable abbrev ZDK:Stmt:=top 43
noncomputable abbrev ZCK:Stmt:=top 44
noncomputable abbrev ZBo:Stmt:=top 45
noncomputable abbrev ZDL:Stmt:=top 46
noncomputable abbrev ZCm:Stmt:=top 47
noncomputable abbrev ZDy:Stmt:=top 48
noncomputable abbrev ZEB:Stmt:=top 49
theorem sc_leap:FnScope ["asker","order","first","place","low","high","wide","middle"] ["asker","order","first","place"] (ZAC ZDz):=⟨rfl,rfl,rfl,by decide +kernel,rfl,by decide +kernel,by decide +kernel⟩
theorem sc_Join_init:FnScope ["self","asker","left","right"] ["self","asker","left","right"] (ZAC ZBg):=⟨rfl,rfl,rfl,by decide +kernel,rfl,by decide +kernel,by decide +kernel⟩
theorem sc_Join_has_more:FnScope ["self","side"] ["self","side"] (ZAC ZAz):=⟨rfl,rfl,rfl,by decide +kernel,rfl,by decide +kernel,by decide +kernel⟩
theorem sc_Join_front:FnScope ["self","side"] ["self","side"] (ZAC ZBM):=⟨rfl,rfl,rfl,by decide +kernel,rfl,by decide +kernel,by decide +kernel⟩
theorem sc_Join_take_on:FnScope ["self","side","more","start"] ["self","side","more"] (ZAC ZA6):=⟨rfl,rfl,rfl,by decide +kernel,rfl,by decide +kernel,by decide +kernel⟩
theorem sc_Join_take_rest:FnScope ["self","side"] ["self","side"] (ZAC ZAu):=⟨rfl,rfl,rfl,by decide +kernel,rfl,by decide +kernel,by decide +kernel⟩
theorem sc_Join_win:FnScope ["self","side"] ["self"] (ZAC ZBs):=⟨rfl,rfl,rfl,by decide +kernel,rfl,by decide +kernel,by decide +kernel⟩
theorem sc_Join_leap_on:FnScope ["self","side","other"] ["self","side"] (ZAC ZA7):=⟨rfl,rfl,rfl,by decide +kernel,rfl,by decide +kernel,by decide +kernel⟩
theorem sc_joined:FnScope ["asker","left","right","join","wins","winner","side"] ["asker","left","right"] (ZAC ZCi):=⟨rfl,rfl,rfl,by decide +kernel,rfl,by decide +kernel,by decide +kernel⟩
theorem sc_stretch_from:FnScope ["asker","first","end","stop","beyond","falling"] ["asker","first","end"] (ZAC ZA4):=⟨rfl,rfl,rfl,by decide +kernel,rfl,by decide +kernel,by decide +kernel⟩
theorem sc_in_turn:FnScope ["first","beyond","falling","places"] ["first","beyond","falling"] (ZAC ZB9):=⟨rfl,rfl,rfl,by decide +kernel,rfl,by decide +kernel,by decide +kernel⟩
theorem sc_spot_of:FnScope ["asker","order","place","low","high","middle"] ["asker","order","place"] (ZAC ZB8):=⟨rfl,rfl,rfl,by decide +kernel,rfl,by decide +kernel,by decide +kernel⟩
theorem sc_filled:FnScope ["asker","first","least","end","stop","part","found","order","place"] ["asker","first","least","end"] (ZAC ZCj):=⟨rfl,rfl,rfl,by decide +kernel,rfl,by decide +kernel,by decide +kernel⟩
theorem sc_grade:FnScope ["many","first","middle","beyond","lower","upper","found"] ["many","first","middle","beyond"] (ZAC ZDM):=⟨rfl,rfl,rfl,by decide +kernel,rfl,by decide +kernel,by decide +kernel⟩
theorem sc_Pile_init:FnScope ["self","asker","least","part"] ["self","asker","least","part"] (ZAC ZBf):=⟨rfl,rfl,rfl,by decide +kernel,rfl,by decide +kernel,by decide +kernel⟩
theorem sc_Pile_beyond_of:FnScope ["self","number"] ["self","number"] (ZAC ZAt):=⟨rfl,rfl,rfl,by decide +kernel,rfl,by decide +kernel,by decide +kernel⟩
theorem sc_Pile_is_due_beneath:FnScope ["self"] ["self"] (ZAC ZAf):=⟨rfl,rfl,rfl,by decide +kernel,rfl,by decide +kernel,by decide +kernel⟩
theorem sc_Pile_join_two:FnScope ["self","lower","order","deed"] ["self","lower"] (ZAC ZAy):=⟨rfl,rfl,rfl,by decide +kernel,rfl,by decide +kernel,by decide +kernel⟩
theorem sc_Pile_grade_on_top:FnScope ["self","middle","beyond"] ["self","middle","beyond"] (ZAC ZAj):=⟨rfl,rfl,rfl,by decide +kernel,rfl,by decide +kernel,by decide +kernel⟩
theorem sc_Pile_lay:FnScope ["self","first","found","beyond"] ["self"] (ZAC ZBr):=⟨rfl,rfl,rfl,by decide +kernel,rfl,by decide +kernel,by decide +kernel⟩
theorem sc_Pile_step:FnScope ["self"] ["self"] (ZAC ZBe):=⟨rfl,rfl,rfl,by decide +kernel,rfl,by decide +kernel,by decide +kernel⟩
theorem sc_Pile_paper:FnScope ["self","told","order"] ["self"] (ZAC ZBL):=⟨rfl,rfl,rfl,by decide +kernel,rfl,by decide +kernel,by decide +kernel⟩
theorem sc_by_pile:FnScope ["asker","least","part","pile"] ["asker","least","part"] (ZAC ZCB):=⟨rfl,rfl,rfl,by decide +kernel,rfl,by decide +kernel,by decide +kernel⟩
theorem sc_meetings_of:FnScope ["first","beyond","middle"] ["first","beyond"] (ZAC ZBA):=⟨rfl,rfl,rfl,by decide +kernel,rfl,by decide +kernel,by decide +kernel⟩
theorem sc_Pour_init:FnScope ["self","asker","pieces","piece"] ["self","asker","pieces"] (ZAC ZBc):=⟨rfl,rfl,rfl,by decide +kernel,rfl,by decide +kernel,by decide +kernel⟩
theorem sc_Pour_front_of:FnScope ["self","piece","taken","places"] ["self","piece","taken"] (ZAC ZAx):=⟨rfl,rfl,rfl,by decide +kernel,rfl,by decide +kernel,by decide +kernel⟩
theorem sc_Pour_goes_on:FnScope ["self","p","q"] ["self","p","q"] (ZAC ZA5):=⟨rfl,rfl,rfl,by decide +kernel,rfl,by decide +kernel,by decide +kernel⟩
theorem sc_Pour_met:FnScope ["self","one","other"] ["self","one","other"] (ZAC ZBq):=⟨rfl,rfl,rfl,by decide +kernel,rfl,by decide +kernel,by decide +kernel⟩
theorem sc_Pour_held:FnScope ["self","meetings","went_on","told","first","middle","beyond"] ["self","meetings","went_on"] (ZAC ZBd):=⟨rfl,rfl,rfl,by decide +kernel,rfl,by decide +kernel,by decide +kernel⟩
theorem sc_Pour_top:FnScope ["self"] ["self"] (ZAC ZBp):=⟨rfl,rfl,rfl,by decide +kernel,rfl,by decide +kernel,by decide +kernel⟩
theorem sc_Pour_take:FnScope ["self","top","piece","taken","way","went_on"] ["self"] (ZAC ZBa):=⟨rfl,rfl,rfl,by decide +kernel,rfl,by decide +kernel,by decide +kernel⟩
theorem sc_Pour_left:FnScope ["self"] ["self"] (ZAC ZBb):=⟨rfl,rfl,rfl,by decide +kernel,rfl,by decide +kernel,by decide +kernel⟩
theorem sc_poured:FnScope ["asker","pieces","pour"] ["asker","pieces"] (ZAC ZCg):=⟨rfl,rfl,rfl,by decide +kernel,rfl,by decide +kernel,by decide +kernel⟩
theorem sc_one_round:FnScope ["asker","pieces","mouths"] ["asker","pieces","mouths"] (ZAC ZBX):=⟨rfl,rfl,rfl,by decide +kernel,rfl,by decide +kernel,by decide +kernel⟩
theorem sc_in_rounds:FnScope ["asker","pieces","mouths","coming","numbers"] ["asker","pieces","mouths"] (ZAC ZBY):=⟨rfl,rfl,rfl,by decide +kernel,rfl,by decide +kernel,by decide +kernel⟩
theorem sc_by_pieces:FnScope ["asker","wide","mouths","least","many","pieces"] ["asker","wide","mouths","least"] (ZAC ZBZ):=⟨rfl,rfl,rfl,by decide +kernel,rfl,by decide +kernel,by decide +kernel⟩
theorem sc_Asker_init:FnScope ["self","row","rule","most"] ["self","row","rule","most"] (ZAC ZBO):=⟨rfl,rfl,rfl,by decide +kernel,rfl,by decide +kernel,by decide +kernel⟩
theorem sc_Asker_many:FnScope ["self"] ["self"] (ZAC ZBN):=⟨rfl,rfl,rfl,by decide +kernel,rfl,by decide +kernel,by decide +kernel⟩
theorem sc_Asker_ahead:FnScope ["self","p","q","later","earlier","said"] ["self","p","q"] (ZAC ZBB):=⟨rfl,rfl,rfl,by decide +kernel,rfl,by decide +kernel,by decide +kernel⟩
theorem sc_AskedRule_init:FnScope ["self","teller"] ["self","teller"] (ZAC ZAv):=⟨rfl,rfl,rfl,by decide +kernel,rfl,by decide +kernel,by decide +kernel⟩
theorem sc_AskedRule_before:FnScope ["self","x","y","teller"] ["self","x","y"] (ZAC ZAn):=⟨rfl,rfl,rfl,by decide +kernel,rfl,by decide +kernel,by decide +kernel⟩
theorem sc_cell_at:FnScope ["_law_script","_law_k"] ["_law_script","_law_k"] (ZAC ZCA):=⟨rfl,rfl,rfl,by decide +kernel,rfl,by decide +kernel,by decide +kernel⟩
theorem sc_digits:FnScope ["_law_script","_law_k","_law_base","_law_spare_ones","_law_found","_law_cell","_law_turn"] ["_law_script","_law_k","_law_base"] (ZAC ZCk):=⟨rfl,rfl,rfl,by decide +kernel,rfl,by decide +kernel,by decide +kernel⟩
theorem sc_stream:FnScope ["_law_cell","_law_many","_law_found","_law_number","_law_k"] ["_law_cell","_law_many"] (ZAC ZCf):=⟨rfl,rfl,rfl,by decide +kernel,rfl,by decide +kernel,by decide +kernel⟩
theorem sc_blocks:FnScope ["_law_keys_here","_law_cell","_law_row","_law_number","_law_part"] ["_law_keys_here","_law_cell"] (ZAC ZCl):=⟨rfl,rfl,rfl,by decide +kernel,rfl,by decide +kernel,by decide +kernel⟩
theorem sc_nearly:FnScope ["_law_keys_here","_law_cell","_law_row","_law_number","_law_at","_law_key"] ["_law_keys_here","_law_cell"] (ZAC ZCh):=⟨rfl,rfl,rfl,by decide +kernel,rfl,by decide +kernel,by decide +kernel⟩
theorem sc_keys:FnScope ["_law_script","_law_most","_law_mode","_law_mix","_law_width","_law_keys_here","_law_way"] ["_law_script","_law_most"] (ZAC ZD0):=⟨rfl,rfl,rfl,by decide +kernel,rfl,by decide +kernel,by decide +kernel⟩
theorem sc_whole:FnScope ["_law_found"] ["_law_found"] (ZAC ZDK):=⟨rfl,rfl,rfl,by decide +kernel,rfl,by decide +kernel,by decide +kernel⟩
theorem sc_teller:FnScope ["_law_log","_law_teller_here"] ["_law_log"] (ZAC ZCK):=⟨rfl,rfl,rfl,by decide +kernel,rfl,by decide +kernel,by decide +kernel⟩
theorem sc_in_order:FnScope ["_law_order","_law_keys_here","_law_many","_law_place","_law_p","_law_q"] ["_law_order","_law_keys_here","_law_many"] (ZAC ZBo):=⟨rfl,rfl,rfl,by decide +kernel,rfl,by decide +kernel,by decide +kernel⟩
theorem sc_shown:FnScope ["_law_order","_law_log","_law_met","_law_later","_law_earlier","_law_said","_law_p","_law_q"] ["_law_order","_law_log"] (ZAC ZDL):=⟨rfl,rfl,rfl,by decide +kernel,rfl,by decide +kernel,by decide +kernel⟩
theorem sc_beside:FnScope ["_law_keys_here","_law_wide","_law_mouths","_law_least","_law_row","_law_log","_law_asker","_law_pieces","_law_first"] ["_law_keys_here","_law_wide","_law_mouths","_law_least"] (ZAC ZCm):=⟨rfl,rfl,rfl,by decide +kernel,rfl,by decide +kernel,by decide +kernel⟩
theorem sc_told:FnScope ["_law_asker","_law_wide","_law_mouths","_law_least","_law_way"] ["_law_asker","_law_wide","_law_mouths","_law_least","_law_way"] (ZAC ZDy):=⟨rfl,rfl,rfl,by decide +kernel,rfl,by decide +kernel,by decide +kernel⟩
theorem sc_law:FnScope ["_law_script","_law_keys_here","_law_wide","_law_way","_law_mouths","_law_least","_law_log","_law_asker","_law_paper","_law_kept","_law_again"] ["_law_script"] (ZAC ZEB):=⟨rfl,rfl,rfl,by decide +kernel,rfl,by decide +kernel,by decide +kernel⟩
noncomputable abbrev ZAN:Stmt:=inBody ZCK 0
theorem csc_teller:CloScope ["_law_x","_law_y","_law_said","_law_log"] ["_law_x","_law_y"] ["_law_log"] (ZAC ZAN):=⟨rfl,rfl,rfl,by decide +kernel,rfl,rfl,by decide,by decide +kernel,by decide +kernel,by decide +kernel,fun x h=>(show ∀ y∈(ZAC ZAN).names,y.2=.free->y.1∈(["_law_log"]:List Str) by decide +kernel) _ (PySem.mem_of_lookup h) rfl⟩
structure Bt (K:W.Frag) (mg:Str->Option Value) (C_Join C_Pile C_Pour C_Asker C_AskedRule:Addr):Prop where
 b_len:mg "len"=none
 b_range:mg "range"=none
 b_list:mg "list"=none
 b_isinstance:mg "isinstance"=none
 b_bool:mg "bool"=none
 b_int:mg "int"=none
 b_max:mg "max"=none
 b_min:mg "min"=none
 b_sum:mg "sum"=none
 b_sorted:mg "sorted"=none
 b_reversed:mg "reversed"=none
 b_enumerate:mg "enumerate"=none
 b_zip:mg "zip"=none
 b_dict:mg "dict"=none
 b_ValueError:mg "ValueError"=none
 c_LEFT:∃ t,mg "LEFT"=some (.int 0 t)
 c_RIGHT:∃ t,mg "RIGHT"=some (.int 1 t)
 c_WINS_TO_LEAP:∃ t,mg "WINS_TO_LEAP"=some (.int 4 t)
 m_Join:mg "Join"=some (.ref C_Join)
 cl_Join:Cls K C_Join
 n_Join_asker:NoAttr K C_Join "asker"
 n_Join_sides:NoAttr K C_Join "sides"
 n_Join_taken:NoAttr K C_Join "taken"
 n_Join_places:NoAttr K C_Join "places"
 m_Pile:mg "Pile"=some (.ref C_Pile)
 cl_Pile:Cls K C_Pile
 n_Pile_asker:NoAttr K C_Pile "asker"
 n_Pile_least:NoAttr K C_Pile "least"
 n_Pile_start:NoAttr K C_Pile "start"
 n_Pile_end:NoAttr K C_Pile "end"
 n_Pile_reached:NoAttr K C_Pile "reached"
 n_Pile_firsts:NoAttr K C_Pile "firsts"
 n_Pile_orders:NoAttr K C_Pile "orders"
 n_Pile_grades:NoAttr K C_Pile "grades"
 m_Pour:mg "Pour"=some (.ref C_Pour)
 cl_Pour:Cls K C_Pour
 n_Pour_asker:NoAttr K C_Pour "asker"
 n_Pour_pieces:NoAttr K C_Pour "pieces"
 n_Pour_taken:NoAttr K C_Pour "taken"
 n_Pour_meetings:NoAttr K C_Pour "meetings"
 n_Pour_went_on:NoAttr K C_Pour "went_on"
 m_Asker:mg "Asker"=some (.ref C_Asker)
 cl_Asker:Cls K C_Asker
 n_Asker_row:NoAttr K C_Asker "row"
 n_Asker_rule:NoAttr K C_Asker "rule"
 n_Asker_most:NoAttr K C_Asker "most"
 n_Asker_asked:NoAttr K C_Asker "asked"
 n_Asker_told:NoAttr K C_Asker "told"
 m_AskedRule:mg "AskedRule"=some (.ref C_AskedRule)
 cl_AskedRule:Cls K C_AskedRule
 n_AskedRule_teller:NoAttr K C_AskedRule "teller"
 kit_int_bool:PySem.W.kitOne K (.type "int") (.type "bool")=some false
noncomputable def cellOf (ns:List Int) (k:Int):Int:=if k < (ns.length:Int) then (ns[k.toNat]?).getD 0 else 0
noncomputable def ZEQ (K:W.Frag):Sp:=fun vs H Q _=>∃ (a:Addr) (ns:List Int) (k:Int),vs=[.ref a,.int k] /\ SqL K H a (ns.map V.int) /\ 0 <= k /\ Q (.int (cellOf ns k)) H
noncomputable def ZEt:Sp:=fun vs H Q _=>∃ m a b c:Int,vs=[.int m,.int a,.int b,.int c] /\ 1 < m /\ m < 2 ^ 240 /\ 0 <= a /\ a < b /\ b < c /\ c <= m /\ ∀ g:Nat,Gr.IsG m (a+b) (b+c) g->g <= 240->Q (.int g) H
theorem pow240 {p:Nat} {m:Int} (hm:m < 2 ^ 240) (z:240 <= p):m <= 2 ^ p:=by
 obtain ⟨d,rfl⟩:∃ d,p=240+d:=⟨p-240,by omega⟩
 have h1:(1:Int) <= 2 ^ d:=Gr.p2pos d
 rw [Int.pow_add]
 have h2:(2:Int) ^ 240 * 1 <= 2 ^ 240 * 2 ^ d:=Int.mul_le_mul_of_nonneg_left h1 (by decide)
 omega
theorem dbl (x:Int) (p:Nat):2 * (x * 2 ^ p)=x * 2 ^ (p+1):=by rw [Int.pow_succ,Int.mul_comm 2,Int.mul_assoc]
noncomputable def ZCd:Sp:=fun vs H Q _=>∃ (c m:Int),vs=[.int c,.int m] /\ 0 <= m /\ m <= 900 /\ ∀ l H' (zs:List Int),Same H H'->H l=none->H' l=some (.lst (zs.map V.int))->(zs.length:Int)=m->(∀ z∈zs,0 <= z /\ z < 2 ^ 31)->Q (.ref l) H'
noncomputable def ZCI:Sp:=fun vs H Q _=>∃ (a:Addr) (ks:List Int) (c:Int),vs=[.ref a,.int c] /\ H a=some (.lst (ks.map V.int)) /\ ks.length <= 63 /\ ∀ l H' (zs:List Int),Same H H'->H l=none->H' l=some (.lst (zs.map V.int))->zs.length <= 63->Q (.ref l) H'
noncomputable def ZFX (K:W.Frag):Sp:=fun vs H Q _=>∃ (a:Addr) (ns:List Int),vs=[.ref a,.int 60] /\ SqL K H a (ns.map V.int) /\ ns.length <= 63 /\ ∀ l H' (zs:List Int),Same H H'->H l=none->H' l=some (.lst (zs.map V.int))->zs.length <= 119->Q (.ref l) H'
noncomputable def ZD9 (K:W.Frag):Sp:=fun vs H Q _=>∃ (a:Addr) (ns:List Int) (k b:Int),vs=[.ref a,.int k,.int b] /\ SqL K H a (ns.map V.int) /\ ns.length <= 63 /\ 0 <= k /\ 0 < b /\ b <= 1000 /\ ∀ l H' (zs:List Int),Same H H'->H l=none->H' l=some (.lst (zs.map V.int))->zs.length=120->(∀ z∈zs,0 <= z /\ z < b)->Q (.ref l) H'
theorem ZFY {n:Nat} (h:n <= 900000):n < sizeLine:=Nat.lt_of_le_of_lt h (by decide)
noncomputable abbrev fA (rl ru:Addr) (m:V) (n:Int) (tl:Addr):List (Str×V):=[("told",.ref tl),("asked",.int n),("most",m),("rule",.ref ru),("row",.ref rl)]
noncomputable abbrev fR (g:Addr):List (Str×V):=[("teller",.ref g)]
noncomputable def ZCJ (CA:Addr):Sp:=fun vs H Q _=>∃ (x dx r:Addr) (ru:Addr) (m:V) (xs:List V),vs=[.ref x,.ref r,.ref ru,m] /\ H x=some (.ins CA dx []) /\ H r=some (.lst xs) /\
 ∀ rl tl H',(∀ b o,b≠x->H b=some o->H' b=some o)->H rl=none->H tl=none->rl≠tl->Ins H' x CA (fA rl ru m 0 tl)->H' rl=some (.lst xs)->H' tl=some (.lst [])->Q .non H'
noncomputable def ZDx (CA:Addr):Sp:=fun vs H Q _=>∃ (a rl ru tl:Addr) (m:V) (n:Int) (xs:List V),vs=[.ref a] /\ Ins H a CA (fA rl ru m n tl) /\ H rl=some (.lst xs) /\ Q (.int xs.length) H
noncomputable def ZCe (CR:Addr):Sp:=fun vs H Q _=>∃ (x dx g:Addr),vs=[.ref x,.ref g] /\ H x=some (.ins CR dx []) /\ ∀ H',(∀ b o,b≠x->H b=some o->H' b=some o)->Ins H' x CR (fR g)->Q .non H'
noncomputable def ZDT (CR:Addr) (r:V->List V->Hp->VK->Prop):Sp:=fun vs H Q _=>∃ (ru g:Addr) (x y:V),vs=[.ref ru,x,y] /\ Ins H ru CR (fR g) /\ (∃ o,H g=some (FZ o) /\ ∃ fd,o.data=.func fd) /\ r (.ref g) [x,y] H Q
noncomputable def ZCV (CA CR:Addr) (r:V->List V->Hp->VK->Prop):Sp:=fun vs H Q _=>∃ (a rl ru tl:Addr) (n p q:Int) (xs ts:List V) (x y:V),vs=[.ref a,.int p,.int q] /\ Ins H a CA (fA rl ru .non n tl) /\ H rl=some (.lst xs) /\ p≠q /\ 0 <= p /\ 0 <= q /\
 xs[(max p q).toNat]?=some x /\ xs[(min p q).toNat]?=some y /\ ZDT CR r [.ref ru,x,y] H (fun v H1=>∃ b,v=.bl b /\ Ins H1 a CA (fA rl ru .non n tl) /\ H1 tl=some (.lst ts) /\ ts.length <= 900000 /\
  ∀ t H2,H1 t=none->Ins H2 a CA (fA rl ru .non (n+1) tl)->H2 tl=some (.lst (ts++[.ref t]))->H2 t=some (.tup [.int (max p q),.int (min p q),.bl b])->(∀ c,c≠a->c≠tl->c≠t->H2 c=H1 c)->Q (.bl (if q < p then b else !b)) H2) E0
theorem fA_canon {rl z tl:Addr} {m:V} {n:Int}:∀ f,(putF "told" (.ref tl) (putF "asked" (.int n) (putF "most" m (putF "rule" (.ref z) (putF "row" (.ref rl) []))))).lookup f=(fA rl z m n tl).lookup f:=fun f=>by
 simp only [ZAa,lkc]
theorem fA_asked {rl z tl:Addr} {m:V} {n k:Int}:∀ f,(putF "asked" (.int k) (fA rl z m n tl)).lookup f=(fA rl z m k tl).lookup f:=fun f=>by
 rw [ZAa]
 by_cases h:f=("asked":Str)
 .subst h
  rw [if_pos rfl]
  exact (show List.lookup _ (fA rl z m k tl)=some (.int k) by walk_at "lk").symm
 .simp only [lkc,h,if_false]
noncomputable def kat (ks:List Int) (p:Nat):Int:=(ks[p]?).getD 0
structure Told (H:Hp) (ks:List Int) (pr:List (Nat×Nat)) (ts:List V):Prop where
 len:ts.length=pr.length
 get:∀ (j p q:Nat),pr[j]?=some (p,q)->∃ t,ts[j]?=some (V.ref t) /\ H t=some (.tup [.int p,.int q,.bl (decide (kat ks p < kat ks q))])
theorem ZB3 {H H':Hp} {S:List Addr} {a C:Addr} {fl:List (Str×V)} (e:Fr S H H') (n:a∉S) (h:Ins H a C fl):Ins H' a C fl:=let ⟨dx,fs,h1,h2,h3⟩:=h.ex;⟨dx,fs,e _ _ n h1,h2,h3⟩
noncomputable def rTL (iname iq:Str) (ip:Arguments) (ib:List Stmt) (isc:Scope):V->List V->Hp->VK->Prop:=fun f vs H Q=>∃ (g x y lg:Addr) (k k' i j:Int) (ws:List V),f=.ref g /\ vs=[.ref x,.ref y] /\ Clo H g iname iq ip ib isc ["_law_log"] [.ref lg] /\ H x=some (.tup [.int k,.int i]) /\ H y=some (.tup [.int k',.int j]) /\ H lg=some (.lst ws) /\ ws.length <= 900000 /\
 ∀ t,H t=none->Q (.bl (decide (k < k'))) (upd (upd H t (.tup [.int i,.int j,.bl (decide (k < k'))])) lg (.lst (ws++[.ref t])))
theorem rT_mono {iname iq:Str} {ip:Arguments} {ib:List Stmt} {isc:Scope} {f:V} {vs:List V} {H:Hp} {Q Q':VK} (m:∀ v H,Q v H->Q' v H) (h:rTL iname iq ip ib isc f vs H Q):rTL iname iq ip ib isc f vs H Q' :=
 let ⟨g,x,y,lg,k,k',i,j,ws,e1,e2,h1,h2,h3,h4,h5,q⟩:=h;⟨g,x,y,lg,k,k',i,j,ws,e1,e2,h1,h2,h3,h4,h5,fun t z=>m _ _ (q t z)⟩
noncomputable abbrev ZBS:V->List V->Hp->VK->Prop:=rTL "_law_teller_here" "_law_teller.<locals>._law_teller_here" (ZAM ZAN) (ZAL ZAN) (ZAC ZAN)
theorem once4 {α β γ δ:Type} {M:α->β->γ->δ->Prop} (P:α->β->γ->δ->Prop) {G:Prop} (h:(∀ x y z u,P x y z u->M x y z u)->G) (t:∀ x y z u,P x y z u->M x y z u):G:=h t
theorem er_map {α z:Type} (f:α->z) (l:List α) (k:Nat):(l.map f).eraseIdx k=(l.eraseIdx k).map f:=by
 rw [List.eraseIdx_eq_take_drop_succ,List.eraseIdx_eq_take_drop_succ,yAL,yCF,yCG]
noncomputable def turnN (first j:Nat) (f:Bool):List Nat:=if f=true then (List.range' first (j-first)).reverse else List.range' first (j-first)
theorem turnN_len (first j:Nat) (f:Bool):(turnN first j f).length=j-first:=by unfold turnN;split <;> simp
noncomputable abbrev nL (l:List Nat):List V:=l.map fun (x:Nat)=>V.int (x:Int)
theorem rints_nat {lo hi:Nat}:(ZDv (lo:Int) (hi:Int)).map V.int=nL (List.range' lo (hi-lo)):=by
 refine List.ext_getElem? fun i=>?_
 unfold nL
 rw [yAM,yAM]
 by_cases h:i < hi-lo
 .rw [List.getElem?_range' h,rints_get (by omega)]
  show some (V.int ((lo:Int)+i))=some (V.int ((lo+1 * i:Nat):Int))
  congr 2
  omega
 .rw [yBL (by rw [ZCW];omega),yBL (by rw [yCA];omega)]
  rfl
noncomputable def ZD6:Sp:=fun vs H Q _=>∃ (first j:Nat) (f:Bool),vs=[.int first,.int j,.bl f] /\ first <= 1000 /\ j <= 1000 /\ ∀ l H',Same H H'->H l=none->H' l=some (.lst (nL (turnN first j f)))->Q (.ref l) H'
structure ToldO (H:Hp) (pr:List (Nat×Nat×Bool)) (ts:List V):Prop where
 len:ts.length=pr.length
 get:∀ (j p q:Nat) (b:Bool),pr[j]?=some (p,q,b)->∃ t,ts[j]?=some (V.ref t) /\ H t=some (.tup [.int p,.int q,.bl b])
theorem ToldO.keep {H H':Hp} {pr:List (Nat×Nat×Bool)} {ts:List V} (e:∀ t x,H t=some (.tup x)->H' t=some (.tup x)) (h:ToldO H pr ts):ToldO H' pr ts :=
 ⟨h.len,fun j p q b z=>by
  obtain ⟨t,a,b⟩:=h.get j p q b z
  exact ⟨t,a,e _ _ b⟩⟩
theorem ToldO.snoc {H:Hp} {pr:List (Nat×Nat×Bool)} {ts:List V} {p q:Nat} {b:Bool} {t:Addr} (h:ToldO H pr ts) (J:H t=some (.tup [.int p,.int q,.bl b])):ToldO H (pr++[(p,q,b)]) (ts++[.ref t]):=by
 refine ⟨by rw [yAE,yAE,h.len];rfl,fun j L q' b' z=>?_⟩
 by_cases hl:j < pr.length
 .rw [yBD hl] at z
  obtain ⟨t',a,b⟩:=h.get j L q' b' z
  exact ⟨t',by rw [yBD (by rw [h.len];exact hl)];exact a,b⟩
 .have e:=(yAR.mp z).1
  rw [yAE] at e
  have B:j=pr.length:=by have:([(p,q,b)]:List (Nat×Nat×Bool)).length=1:=rfl;omega
  subst B
  rw [yBC (yAB _),yBG] at z
  cases z
  exact ⟨t,by rw [<- h.len,yBC (yAB _),yBG];rfl,J⟩
structure Ad where
 ks:List Int
 xs:List V
 a:Addr
 rl:Addr
 ru:Addr
 tl:Addr
 g:Addr
 lg:Addr
noncomputable abbrev Ad.S (c:Ad):List Addr:=[c.a,c.lg,c.tl]
noncomputable abbrev Ad.A (c:Ad):List Addr:=[c.a,c.lg,c.tl,c.rl,c.ru]
noncomputable abbrev Ad.n (c:Ad):Nat:=c.ks.length
noncomputable def Ad.an (c:Ad) (_ p q:Nat):Bool:=decide (kat c.ks p < kat c.ks q)
theorem Ad.SA {c:Ad} {b:Addr} (h:b∉c.A):b∉c.S:=fun z=>by
 rcases yAF.mp z with z | z
 .exact h (by rw [z];exact yAC)
 rcases yAF.mp z with z | z
 .exact h (by rw [z];exact yAD _ yAC)
 .exact h (by rw [yAH.mp z];exact yAD _ (yAD _ yAC))
structure SitR (CA CR:Addr) (H:Hp) (c:Ad) (pr:List A3):Prop where
 ha:Ins H c.a CA (fA c.rl c.ru .non pr.length c.tl)
 hrl:H c.rl=some (.lst c.xs)
 hru:Ins H c.ru CR (fR c.g)
 clo:Clo H c.g "_law_teller_here" "_law_teller.<locals>._law_teller_here" (ZAM ZAN) (ZAL ZAN) (ZAC ZAN) ["_law_log"] [.ref c.lg]
 len:c.xs.length=c.ks.length
 row:∀ (i:Nat) k,c.ks[i]?=some k->∃ r,c.xs[i]?=some (V.ref r) /\ H r=some (.tup [.int k,.int i])
 hlg:∃ ws,H c.lg=some (.lst ws) /\ ToldO H pr ws
 htl:∃ ts,H c.tl=some (.lst ts) /\ ToldO H pr ts
 ne:c.lg≠c.tl /\ c.rl∉c.S /\ c.ru≠c.a
section
variable {CA CR:Addr} {H H':Hp} {c:Ad} {pr:List A3}
theorem SitR.tupS (h:SitR CA CR H c pr) {b:Addr} {o:HO} (B:H b=some o) (n1:∀ x,o≠.lst x) (n2:∀ C d f,o≠.ins C d f):b∉c.A:=by
 obtain ⟨ws,hlg,_⟩:=h.hlg
 obtain ⟨ts,htl,_⟩:=h.htl
 intro z
 rcases yAF.mp z with z | z
 .exact h.ha.ne B n2 z
 rcases yAF.mp z with z | z
 .rw [z,hlg] at B;exact n1 _ (Option.some.inj B).symm
 rcases yAF.mp z with z | z
 .rw [z,htl] at B;exact n1 _ (Option.some.inj B).symm
 rcases yAF.mp z with z | z
 .rw [z,h.hrl] at B;exact n1 _ (Option.some.inj B).symm
 .exact h.hru.ne B n2 (yAH.mp z)
theorem SitR.tup (h:SitR CA CR H c pr) (f:Fr c.S H H') {b:Addr} {x:List V} (B:H b=some (.tup x)):H' b=some (.tup x):=f _ _ (Ad.SA (h.tupS B (fun _ z=>by cases z) (fun _ _ _ z=>by cases z))) B
theorem SitR.ruS (h:SitR CA CR H c pr):c.ru∉c.S:=by
 obtain ⟨ws,hlg,_⟩:=h.hlg
 obtain ⟨ts,htl,_⟩:=h.htl
 obtain ⟨J,f1,B,_⟩:=h.hru.ex
 intro z
 rcases yAF.mp z with z | z
 .exact h.ne.2.2 z
 rcases yAF.mp z with z | z
 .rw [z,hlg] at B;cases B
 .rw [yAH.mp z,htl] at B;cases B
theorem SitR.off (h:SitR CA CR H c pr) {l:Addr} (hl:H l=none):l∉c.A:=fun z=>by
 obtain ⟨ws,hlg,_⟩:=h.hlg
 obtain ⟨ts,htl,_⟩:=h.htl
 rcases yAF.mp z with z | z
 .exact h.ha.neN hl z
 rcases yAF.mp z with z | z
 .rw [z,hlg] at hl;cases hl
 rcases yAF.mp z with z | z
 .rw [z,htl] at hl;cases hl
 rcases yAF.mp z with z | z
 .rw [z,h.hrl] at hl;cases hl
 .exact h.hru.neN hl (yAH.mp z)
theorem SitR.free {z:Hp} (h:SitR CA CR H' c pr) (f:Fr c.S z H') {d:Addr} (B:H' d=none):z d=none:=by
 cases e:z d with
 | none=>rfl
 | some o=>rw [f _ _ (Ad.SA (h.off B)) e] at B;cases B
theorem SitR.but (h:SitR CA CR H c pr) (e:∀ b o,b∈c.A->H b=some o->H' b=some o) (t:∀ b o,H b=some o->(∀ x,o≠.lst x)->(∀ C d f,o≠.ins C d f)->(∀ k,o≠.dT k)->(∀ t,o≠.tbl t)->H' b=some o):SitR CA CR H' c pr:=by
 have O:∀ {b C:Addr} {fl:List (Str×V)},b∈c.A->Ins H b C fl->Ins H' b C fl:=fun m hi=>let ⟨dx,fs,h1,h2,h3⟩:=hi.ex;⟨dx,fs,e _ _ m h1,h2,h3⟩
 have L:∀ b x,H b=some (.tup x)->H' b=some (.tup x):=fun b x J=>t _ _ J (fun _ z=>by cases z) (fun _ _ _ z=>by cases z) (fun _ z=>by cases z) (fun _ z=>by cases z)
 obtain ⟨ws,U,h5⟩:=h.hlg
 obtain ⟨us,Y,h7⟩:=h.htl
 have B:=h.clo.mono (H':=H') (fun b o J=>t _ _ J (fun _ z=>by cases z) (fun _ _ _ z=>by cases z) (fun _ z=>by cases z) (fun _ z=>by cases z))
 exact ⟨O (by simp) h.ha,e _ _ (by simp) h.hrl,O (by simp) h.hru,B,h.len,fun i k Z=>let ⟨r,a1,a2⟩:=h.row i k Z;⟨r,a1,L _ _ a2⟩,⟨ws,e _ _ (by simp) U,h5.keep L⟩,⟨us,e _ _ (by simp) Y,h7.keep L⟩,h.ne⟩
theorem SitR.mono (h:SitR CA CR H c pr) (e:Same H H'):SitR CA CR H' c pr:=h.but (fun b o _ z=>e _ _ z) fun b o z _ _ _ _=>e _ _ z
noncomputable def Wr (H:Hp) (b:Addr):Prop:=(∃ l,H b=some (.lst l))∨(∃ C d f,H b=some (.ins C d f))∨(∃ k,H b=some (.dT k))∨H b=none
theorem SitR.apart (h:SitR CA CR H c pr) {S:List Addr} (e:Fr S H H') (J:∀ b∈S,Wr H b) (n:∀ b∈S,b∉c.A):SitR CA CR H' c pr :=
 h.but (fun b o m z=>e _ _ (fun y=>n b y m) z) fun b o z n1 n2 B _=>e _ _ (fun y=>by
  rcases J b y with ⟨l,x⟩ | ⟨C,d,f,x⟩ | ⟨k,x⟩ | x
  .rw [x] at z;exact n1 _ (Option.some.inj z).symm
  .rw [x] at z;exact n2 _ _ _ (Option.some.inj z).symm
  .rw [x] at z;exact B _ (Option.some.inj z).symm
  .rw [x] at z;cases z) z
theorem ZFq {l:Addr} {o:HO}:Fr [l] H (upd H l o):=fun b o' n h=>by rw [ZAI (fun z=>n (by rw [z];exact yAC))];exact h
theorem SitR.upd (h:SitR CA CR H c pr) {l:Addr} {us:List V} {o:HO} (hl:H l=some (.lst us)) (n:l∉c.A):SitR CA CR (upd H l o) c pr :=
 h.apart (S:=[l]) ZFq (fun b z=>by rw [yAH.mp z];exact .inl ⟨_,hl⟩) fun b z=>by rw [yAH.mp z];exact n
theorem SitR.ahead (h:SitR CA CR H c pr) {p q:Nat} (hk:c.n <= 1000) {α:Type} {k:Bool->Pg α} {post:α->List A3->Prop} (w:Wp c.n c.an (ahd p q k) pr post) {Q:VK}
  (fin:∀ b H' pr',Fr c.S H H'->SitR CA CR H' c pr'->Wp c.n c.an (k b) pr' post->Q (.bl b) H'):ZCV CA CR ZBS [.ref c.a,.int p,.int q] H Q E0:=by
 obtain ⟨am,J,al,w⟩:=w
 have a8:min p q < c.ks.length:=by show min p q < c.n;omega
 have J:max p q < c.ks.length:=J
 obtain ⟨ws,hlg,O⟩:=h.hlg
 obtain ⟨ts,htl,a5⟩:=h.htl
 obtain ⟨x,hx,tx⟩:=h.row (max p q) _ (yAI J)
 obtain ⟨y,hy,ty⟩:=h.row (min p q) _ (yAI a8)
 have ai:(max (p:Int) q).toNat=max p q:=by omega
 have ad:(min (p:Int) q).toNat=min p q:=by omega
 have kx:c.ks[max p q]=kat c.ks (max p q):=by unfold kat;rw [yAI J];rfl
 have af:c.ks[min p q]=kat c.ks (min p q):=by unfold kat;rw [yAI a8];rfl
 refine ⟨c.a,c.rl,c.ru,c.tl,pr.length,p,q,c.xs,ts,.ref x,.ref y,rfl,h.ha,h.hrl,by omega,by omega,by omega,by rw [ai];exact hx,by rw [ad];exact hy,?_⟩
 obtain ⟨cl,C⟩:=h.clo
 obtain ⟨d1,d2,d3,d4,ho,_⟩:=C.obj
 refine ⟨c.ru,c.g,.ref x,.ref y,rfl,h.hru,⟨_,ho,_,rfl⟩,?_⟩
 rw [kx] at tx
 rw [af] at ty
 refine ⟨c.g,x,y,c.lg,_,_,_,_,ws,rfl,rfl,h.clo,tx,ty,hlg,by rw [O.len];omega,fun t ht=>?_⟩
 have eb:decide (kat c.ks (max p q) < kat c.ks (min p q))=c.an pr.length (max p q) (min p q):=rfl
 rw [eb];clear eb
 generalize c.an pr.length (max p q) (min p q)=b at w ⊢
 have a9:t≠c.a:=h.ha.neN ht
 have ab:c.lg≠t:=ZAE hlg ht
 have a0:c.tl≠t:=ZAE htl ht
 have aa:c.lg≠c.tl:=h.ne.1
 have U:c.lg≠c.a:=h.ha.ne hlg fun _ _ _ z=>by cases z
 refine ⟨_,rfl,h.ha.keep (by rw [ZAI (Ne.symm U),ZAI (Ne.symm a9)]),by rw [ZAI (Ne.symm aa),ZAI a0];exact htl,by rw [a5.len];omega,fun t2 H2 B ac a3 ah k2=>?_⟩
 have ag:t2≠c.lg:=fun z=>by rw [z,ZAF] at B;cases B
 have ae:t2≠t:=fun z=>by rw [z,ZAI (Ne.symm ab),ZAF] at B;cases B
 have fr:Fr c.S H H2:=fun d o n L=>by
  have m1:d≠c.a:=fun z=>n (by rw [z];exact yAC)
  have m2:d≠c.lg:=fun z=>n (by rw [z];exact yAD _ yAC)
  have m3:d≠c.tl:=fun z=>n (by rw [z];exact yAD _ (yAD _ yAC))
  have e1:(L2.upd (L2.upd H t (.tup [.int ((max p q:Nat):Int),.int ((min p q:Nat):Int),.bl b])) c.lg (.lst (ws++[.ref t]))) d=some o:=by rw [ZAI m2,ZAI (ZAE L ht)];exact L
  rw [k2 d m1 m3 (ZAE e1 B)]
  exact e1
 have tk:∀ b x,H b=some (.tup x)->H2 b=some (.tup x):=fun b x L=>h.tup fr L
 have Y:H2 c.lg=some (.lst (ws++[.ref t])):=by rw [k2 c.lg U aa (Ne.symm ag),ZAF]
 have aj:H2 t=some (.tup [.int ((max p q:Nat):Int),.int ((min p q:Nat):Int),.bl b]):=by rw [k2 t a9 (Ne.symm a0) (Ne.symm ae),ZAI (Ne.symm ab),ZAF]
 have Z:H2 t2=some (.tup [.int ((max p q:Nat):Int),.int ((min p q:Nat):Int),.bl b]):=by
  rw [show (((max p q:Nat):Int))=max (p:Int) q by omega,show (((min p q:Nat):Int))=min (p:Int) q by omega]
  exact ah
 have a4:=ZB3 fr h.ruS h.hru
 have a6:=h.clo.mono (H':=H2) fun b o L=>fr _ _ (Ad.SA (h.tupS L (fun _ z=>by cases z) (fun _ _ _ z=>by cases z))) L
 have a7:∀ (i:Nat) k,c.ks[i]?=some k->∃ r,c.xs[i]?=some (V.ref r) /\ H2 r=some (.tup [.int k,.int i]):=fun i k hk=>let ⟨r,a1,a2⟩:=h.row i k hk;⟨r,a1,tk _ _ a2⟩
 have st:SitR CA CR H2 c (pr++[(max p q,min p q,b)]):=⟨by rw [yAE];exact ac,fr _ _ h.ne.2.1 h.hrl,a4,a6,h.len,a7,⟨_,Y,(O.keep tk).snoc aj⟩,⟨_,a3,(a5.keep tk).snoc Z⟩,h.ne⟩
 have g':=fin _ H2 _ fr st w
 by_cases hlt:q < p
 .rw [if_pos hlt] at g'
  rw [if_pos (by omega)]
  exact g'
 .rw [if_neg hlt] at g'
  rw [if_neg (by omega)]
  exact g'
end
theorem ZDt {α:Type} {p q:Nat} {k:Bool->Pg α} {P:α->Prop} (h:∀ b,(k b).Al P):(ahd p q k).Al P:=fun b=>h _
theorem ZAq {n:Nat} (h:n <= 1000):n < sizeLine:=Nat.lt_of_le_of_lt h (by decide)
theorem insV_nL {os:List Nat} {r pl:Nat} (h:r <= os.length):insV (nL os) (r:Int) (.int pl)=nL (insN os r pl):=by
 unfold insV insN nL
 dsimp only
 rw [if_neg (by omega),Int.toNat_natCast,yAA,yBX h,yAL,yAS,yCF,yCG]
theorem ZDs {os:List Nat} {m o:Nat} (h:os[m]?=some o):atI (nL os) (m:Int)=some (.int o):=ZAl (by omega) (by rw [Int.toNat_natCast,yAM,h];rfl)
theorem galP_al2 {os:List Nat} {pl:Nat}:∀ (m lo hi:Nat),lo <= os.length->(galP os pl m lo hi).Al fun r=>r.1 <= os.length
 | 0,lo,hi,h=>h
 | m+1,lo,hi,h=>by
  rw [galP]
  by_cases z:hi < os.length
  .rw [if_pos z]
   refine ZDt fun b=>?_
   split
   .exact galP_al2 m (hi+1) (2 * hi+1) (by omega)
   .exact h
  .rw [if_neg z];exact h
theorem ZEM {os:List Nat} {pl:Nat}:∀ (m lo hi:Nat),(binP os pl m lo hi).Al fun r=>r <= hi
 | 0,lo,hi=>yAB _
 | m+1,lo,hi=>by
  rw [binP]
  by_cases z:lo < hi
  .rw [if_pos z]
   refine ZDt fun b=>?_
   split
   .exact ZEM m _ hi
   .exact (ZEM m lo _).imp fun a h=>by omega
  .rw [if_neg z];exact yAB _
theorem ZEE (os:List Nat) (pl:Nat):(ZFG os pl).Al fun r=>r <= os.length :=
 Pg.Al.bind ((galP_al2 os.length 0 0 (yAJ _)).imp fun r _=>(ZEM os.length r.1 (min r.2 os.length)).imp fun a h=>by omega)
theorem ZE1 {os:List Nat} {pl:Nat}:∀ (m lo hi:Nat),lo <= hi->(hvP os pl m lo hi).Al fun r=>r <= hi
 | 0,lo,hi,h=>h
 | m+1,lo,hi,h=>by
  rw [hvP]
  by_cases z:lo < hi
  .rw [if_pos z]
   refine ZDt fun b=>?_
   split
   .exact ZE1 m _ hi (by omega)
   .exact (ZE1 m lo _ (by omega)).imp fun a h=>by omega
  .rw [if_neg z];exact h
theorem spotP_le (os:List Nat) (pl:Nat):(ZFC os pl).Al fun r=>r <= os.length:=ZE1 _ _ _ (yAJ _)
noncomputable def ZEr (CA CR:Addr):Sp:=fun vs H Q _=>∃ (c:Ad) (pr:List A3) (ol:Addr) (os:List Nat) (f pl:Nat) (post:Nat->List A3->Prop),vs=[.ref c.a,.ref ol,.int f,.int pl] /\ SitR CA CR H c pr /\ H ol=some (.lst (nL os)) /\ ol∉c.S /\ f <= os.length /\ c.n <= 1000 /\ Wp c.n c.an (ZFG (os.drop f) pl) pr post /\
 ∀ r H' pr',Fr c.S H H'->SitR CA CR H' c pr'->post r pr'->Q (.int (r:Nat)) H'
theorem get_drop {os:List Nat} {f i:Nat} (h:i < (os.drop f).length):os[f+i]?=some ((os.drop f).getD i 0):=by
 have:=(ZCo h).1
 rw [yCO] at this
 exact this
noncomputable def ZEn (CA CR:Addr):Sp:=fun vs H Q _=>∃ (c:Ad) (pr:List A3) (os:List Nat) (pl:Nat) (ol:Addr) (post:Nat->List A3->Prop),vs=[.ref c.a,.ref ol,.int pl] /\ SitR CA CR H c pr /\ H ol=some (.lst (nL os)) /\ ol∉c.S /\ c.n <= 1000 /\ Wp c.n c.an (ZFC os pl) pr post /\
 ∀ r H' pr',Fr c.S H H'->SitR CA CR H' c pr'->post r pr'->Q (.int (r:Nat)) H'
noncomputable def ZFS (CA CR:Addr):Sp:=fun vs H Q _=>∃ (c:Ad) (pr:List A3) (first stop:Nat) (post:Nat×Bool->List A3->Prop),vs=[.ref c.a,.int first,.int stop] /\ SitR CA CR H c pr /\ c.n <= 1000 /\ Wp c.n c.an (strP stop first) pr post /\
 ∀ t H' r pr',Fr c.S H H'->SitR CA CR H' c pr'->H' t=some (.tup [.int (r.1:Nat),.bl r.2])->post r pr'->Q (.ref t) H'
noncomputable def ZEu (CA CR:Addr):Sp:=fun vs H Q _=>∃ (c:Ad) (pr:List A3) (first ls stop:Nat) (post:Nat×List Nat->List A3->Prop),vs=[.ref c.a,.int first,.int ls,.int stop] /\ SitR CA CR H c pr /\ c.n <= 1000 /\ first < stop /\ stop <= 600 /\ Wp c.n c.an (ZF0 ls stop first) pr post /\
 ∀ t ol H' r pr',Fr c.S H H'->H ol=none->SitR CA CR H' c pr'->H' t=some (.tup [.int (r.1:Nat),.ref ol])->H' ol=some (.lst (nL r.2))->post r pr'->Q (.ref t) H'
theorem runP_al2 {stop f:Nat} (fal:Bool):∀ (m j:Nat),f < j->j <= stop->(runP stop fal m j).Al fun r=>f < r.1 /\ r.1 <= stop
 | 0,j,h1,h2=>⟨h1,h2⟩
 | m+1,j,h1,h2=>by
  rw [runP]
  by_cases z:j < stop
  .rw [if_pos z]
   refine ZDt fun b=>?_
   split
   .exact runP_al2 fal m (j+1) (by omega) (by omega)
   .exact ⟨h1,h2⟩
  .rw [if_neg z];exact ⟨h1,h2⟩
theorem strP_al2 {stop f:Nat} (h:f < stop):(strP stop f).Al fun r=>f < r.1 /\ r.1 <= stop:=by
 unfold strP
 by_cases z:f+1 < stop
 .rw [if_pos z]
  refine ZDt fun b=>?_
  exact runP_al2 _ stop (f+2) (by omega) (by omega)
 .rw [if_neg z];exact ⟨yBQ _,by omega⟩
theorem turn_eq (a b:Nat) (f:Bool):Pw.turnN a b f=turnN a b f:=rfl
theorem ZFk {α:Type} {M:α->Prop} (P:α->Prop) {G:Prop} (h:(∀ x,P x->M x)->G) (t:∀ x,P x->M x):G:=h t
noncomputable abbrev fJ (ak sd tk pc:Addr):List (Str×V):=[("places",.ref pc),("taken",.ref tk),("sides",.ref sd),("asker",.ref ak)]
noncomputable def pk {α:Type} (b:Bool) (x y:α):List α:=if b then [x,y] else [y,x]
noncomputable def sv (b:Bool):Int:=if b then 0 else 1
theorem ZCr {b:Bool} {x y:V}:atI (pk b x y) (sv b)=some x:=by cases b <;> exact ZAl (by decide) rfl
theorem pk_swap {α:Type} {b:Bool} {x y:α}:pk (!b) y x=pk b x y:=by cases b <;> rfl
theorem pk_len {α:Type} {b:Bool} {x y:α}:(pk b x y).length=2:=by cases b <;> rfl
theorem pk_set {b:Bool} {x y z:V}:(pk b x y).set (sv b).toNat z=pk b z y:=by cases b <;> rfl
structure JS (CJ:Addr) (H:Hp) (b:Bool) (jn ak sd ma ta tk pc:Addr) (ms ts:List Nat) (i j:Nat) (dn:List Nat):Prop where
 hj:Ins H jn CJ (fJ ak sd tk pc)
 hsd:H sd=some (.tup (pk b (.ref ma) (.ref ta)))
 hma:H ma=some (.lst (nL ms))
 hta:H ta=some (.lst (nL ts))
 htk:H tk=some (.lst (pk b (.int i) (.int j)))
 hpc:H pc=some (.lst (nL dn))
 ne:tk≠pc /\ ma≠tk /\ ma≠pc /\ ta≠tk /\ ta≠pc
section
variable {CJ:Addr} {H H':Hp} {b:Bool} {jn ak sd ma ta tk pc:Addr} {ms ts:List Nat} {i j:Nat} {dn:List Nat}
theorem JS.swap (h:JS CJ H b jn ak sd ma ta tk pc ms ts i j dn):JS CJ H (!b) jn ak sd ta ma tk pc ts ms j i dn :=
 ⟨h.hj,by rw [pk_swap];exact h.hsd,h.hta,h.hma,by rw [pk_swap];exact h.htk,h.hpc,h.ne.1,h.ne.2.2.2.1,h.ne.2.2.2.2,h.ne.2.1,h.ne.2.2.1⟩
theorem JS.keep {J B:Nat} {dn':List Nat} (h:JS CJ H b jn ak sd ma ta tk pc ms ts i j dn) (e:Fr [tk,pc] H H') (h1:H' tk=some (.lst (pk b (.int J) (.int B)))) (h2:H' pc=some (.lst (nL dn'))):JS CJ H' b jn ak sd ma ta tk pc ms ts J B dn':=by
 have n2:∀ {x:Addr},x≠tk->x≠pc->x∉[tk,pc]:=fun a b z=>(yAF.mp z).elim a fun z=>b (yAH.mp z)
 have hj:jn∉[tk,pc]:=n2 (Ne.symm (h.hj.ne h.htk fun _ _ _ z=>by cases z)) (Ne.symm (h.hj.ne h.hpc fun _ _ _ z=>by cases z))
 have L:sd∉[tk,pc]:=n2 (fun z=>by have:=h.hsd;rw [z,h.htk] at this;cases this) (fun z=>by have:=h.hsd;rw [z,h.hpc] at this;cases this)
 exact ⟨ZB3 e hj h.hj,e _ _ L h.hsd,e _ _ (n2 h.ne.2.1 h.ne.2.2.1) h.hma,e _ _ (n2 h.ne.2.2.2.1 h.ne.2.2.2.2) h.hta,h1,h2,h.ne⟩
theorem JS.fr {S:List Addr} (h:JS CJ H b jn ak sd ma ta tk pc ms ts i j dn) (e:Fr S H H') (n:jn∉S /\ sd∉S /\ ma∉S /\ ta∉S /\ tk∉S /\ pc∉S):JS CJ H' b jn ak sd ma ta tk pc ms ts i j dn :=
 ⟨ZB3 e n.1 h.hj,e _ _ n.2.1 h.hsd,e _ _ n.2.2.1 h.hma,e _ _ n.2.2.2.1 h.hta,e _ _ n.2.2.2.2.1 h.htk,e _ _ n.2.2.2.2.2 h.hpc,h.ne⟩
theorem JS.mono (h:JS CJ H b jn ak sd ma ta tk pc ms ts i j dn) (e:Same H H'):JS CJ H' b jn ak sd ma ta tk pc ms ts i j dn :=
 h.fr (S:=[]) e.fr ⟨yAZ,yAZ,yAZ,yAZ,yAZ,yAZ⟩
end
noncomputable def ZEs (CJ:Addr):Sp:=fun vs H Q _=>∃ (x dx ak al ar:Addr) (ls rs:List Nat),vs=[.ref x,.ref ak,.ref al,.ref ar] /\ H x=some (.ins CJ dx []) /\ H al=some (.lst (nL ls)) /\ H ar=some (.lst (nL rs)) /\
 ∀ sd la ra tk pc H',(∀ b o,b≠x->H b=some o->H' b=some o)->H sd=none->H la=none->H ra=none->H tk=none->H pc=none->JS CJ H' true x ak sd la ra tk pc ls rs 0 0 []->Q .non H'
noncomputable def ZC6 (CJ:Addr):Sp:=fun vs H Q _=>∃ (b:Bool) (jn ak sd ma ta tk pc:Addr) (ms ts:List Nat) (i j:Nat) (dn:List Nat),vs=[.ref jn,.int (sv b)] /\ JS CJ H b jn ak sd ma ta tk pc ms ts i j dn /\ Q (.bl (decide (i < ms.length))) H
noncomputable def ZD8 (CJ:Addr):Sp:=fun vs H Q _=>∃ (b:Bool) (jn ak sd ma ta tk pc:Addr) (ms ts:List Nat) (i j:Nat) (dn:List Nat) (x:Nat),vs=[.ref jn,.int (sv b)] /\ JS CJ H b jn ak sd ma ta tk pc ms ts i j dn /\ ms[i]?=some x /\ Q (.int x) H
noncomputable def ZC5 (CJ:Addr):Sp:=fun vs H Q _=>∃ (b:Bool) (jn ak sd ma ta tk pc:Addr) (ms ts:List Nat) (i j:Nat) (dn:List Nat) (m:Nat),vs=[.ref jn,.int (sv b),.int m] /\ JS CJ H b jn ak sd ma ta tk pc ms ts i j dn /\ i+m <= ms.length /\ dn.length+ms.length <= 1000 /\
 ∀ H',Fr [tk,pc] H H'->JS CJ H' b jn ak sd ma ta tk pc ms ts (i+m) j (dn++(ms.drop i).take m)->Q .non H'
noncomputable def ZDF (CJ:Addr):Sp:=fun vs H Q _=>∃ (b:Bool) (jn ak sd ma ta tk pc:Addr) (ms ts:List Nat) (i j:Nat) (dn:List Nat),vs=[.ref jn,.int (sv b)] /\ JS CJ H b jn ak sd ma ta tk pc ms ts i j dn /\ i <= ms.length /\ dn.length+ms.length <= 1000 /\
 ∀ H',Fr [tk,pc] H H'->JS CJ H' b jn ak sd ma ta tk pc ms ts ms.length j (dn++ms.drop i)->Q .non H'
theorem fr_sub {S z:List Addr} {H H':Hp} (h:Fr S H H') (k:∀ b∈S,b∈z):Fr z H H':=fun b o n B=>h b o (fun m=>n (k b m)) B
theorem fr5a {a lg tl tk pc:Addr} {H H':Hp} (h:Fr [a,lg,tl] H H'):Fr [a,lg,tl,tk,pc] H H':=fr_sub h fun b B=>by
 rcases yAF.mp B with z | z
 .rw [z];exact yAC
 rcases yAF.mp z with z | z
 .rw [z];exact yAD _ yAC
 .rw [yAH.mp z];exact yAD _ (yAD _ yAC)
theorem fr5b {a lg tl tk pc:Addr} {H H':Hp} (h:Fr [tk,pc] H H'):Fr [a,lg,tl,tk,pc] H H'  :=fr_sub h fun b z=>yAD _ (yAD _ (yAD _ z))
structure NX (c:Ad) (jn sd ma ta tk pc:Addr):Prop where
 n1:jn∉c.A /\ sd∉c.A /\ ma∉c.A /\ ta∉c.A /\ tk∉c.A /\ pc∉c.A
theorem NX.swap {c:Ad} {jn sd ma ta tk pc:Addr} (h:NX c jn sd ma ta tk pc):NX c jn sd ta ma tk pc:=⟨⟨h.n1.1,h.n1.2.1,h.n1.2.2.2.1,h.n1.2.2.1,h.n1.2.2.2.2⟩⟩
theorem JS.frS {CJ:Addr} {H H':Hp} {b:Bool} {jn ak sd ma ta tk pc:Addr} {ms ts:List Nat} {i j:Nat} {dn:List Nat} {c:Ad} (h:JS CJ H b jn ak sd ma ta tk pc ms ts i j dn) (nx:NX c jn sd ma ta tk pc) (f:Fr c.S H H'):JS CJ H' b jn ak sd ma ta tk pc ms ts i j dn :=
 h.fr f ⟨Ad.SA nx.n1.1,Ad.SA nx.n1.2.1,Ad.SA nx.n1.2.2.1,Ad.SA nx.n1.2.2.2.1,Ad.SA nx.n1.2.2.2.2.1,Ad.SA nx.n1.2.2.2.2.2⟩
theorem SitR.tkpc {CA CR CJ:Addr} {H H':Hp} {b:Bool} {jn ak sd ma ta tk pc:Addr} {ms ts:List Nat} {i j:Nat} {dn:List Nat} {c:Ad} {pr:List A3} (s:SitR CA CR H c pr) (h:JS CJ H b jn ak sd ma ta tk pc ms ts i j dn) (nx:NX c jn sd ma ta tk pc) (f:Fr [tk,pc] H H'):SitR CA CR H' c pr :=
 s.apart f (fun x B=>by
  rcases yAF.mp B with z | z
  .rw [z];exact .inl ⟨_,h.htk⟩
  .rw [yAH.mp z];exact .inl ⟨_,h.hpc⟩) fun x B=>by
  rcases yAF.mp B with z | z
  .rw [z];exact nx.n1.2.2.2.2.1
  .rw [yAH.mp z];exact nx.n1.2.2.2.2.2
theorem ZBw {os:List Nat} {i x:Nat} (h:os[i]?=some x):os.drop i=x::os.drop (i+1):=by
 obtain ⟨h1,h2⟩:=yAR.mp h
 rw [yBU h1,h2]
theorem ZD5 {os:List Nat} {i x:Nat} (h:os[i]?=some x):(os.drop i).take 1=[x]:=by
 rw [ZBw h];rfl
theorem cut_var {P:TS} {D:Ends} {x y:Option V} {H:Hp} {B z:Int} {c:Prop} [Decidable c] (h:∀ o:Int,(c /\ o=B)∨(¬ c /\ o=z)->Cut P D [x,y,some (.int o)] H):if c then Cut P D [x,y,some (.int B)] H else Cut P D [x,y,some (.int z)] H:=by
 split
 .rename_i h1;exact h B (.inl ⟨h1,rfl⟩)
 .rename_i h1;exact h z (.inr ⟨h1,rfl⟩)
theorem onceP (P:Prop) {M G:Prop} (h:(P->M)->G) (t:P->M):G:=h t
noncomputable def ZFR (CA CR CJ:Addr):Sp:=fun vs H Q _=>∃ (c:Ad) (pr:List A3) (jn sd la ra tk pc:Addr) (ls rs dn:List Nat) (i j x y:Nat) (k:Bool->Pg (List Nat)) (post:List Nat->List A3->Prop),vs=[.ref jn] /\ SitR CA CR H c pr /\ JS CJ H true jn c.a sd la ra tk pc ls rs i j dn /\ NX c jn sd la ra tk pc /\ ls[i]?=some x /\ rs[j]?=some y /\ c.n <= 1000 /\ dn.length+ls.length <= 1000 /\ dn.length+rs.length <= 1000 /\ Wp c.n c.an (ahd x y k) pr post /\
 ∀ b H' pr',Fr [c.a,c.lg,c.tl,tk,pc] H H'->SitR CA CR H' c pr'->JS CJ H' true jn c.a sd la ra tk pc ls rs (if b then i+1 else i) (if b then j else j+1) (dn++[if b then x else y])->Wp c.n c.an (k b) pr' post->Q (.int (sv b)) H'
noncomputable def ZDc (CA CR CJ:Addr):Sp:=fun vs H Q _=>∃ (c:Ad) (pr:List A3) (jn sd ma ta tk pc:Addr) (b:Bool) (ms ts dn:List Nat) (i j y:Nat) (post:Nat->List A3->Prop),vs=[.ref jn,.int (sv b)] /\ SitR CA CR H c pr /\ JS CJ H b jn c.a sd ma ta tk pc ms ts i j dn /\ NX c jn sd ma ta tk pc /\ ts[j]?=some y /\ i <= ms.length /\ c.n <= 1000 /\ dn.length+ms.length+ts.length <= 1000 /\ Wp c.n c.an (ZFG (ms.drop i) y) pr post /\
 ∀ k H' pr',Fr [c.a,c.lg,c.tl,tk,pc] H H'->SitR CA CR H' c pr'->i+k <= ms.length->JS CJ H' b jn c.a sd ma ta tk pc ms ts (i+k) (if i+k < ms.length then j+1 else j) (dn++(ms.drop i).take k++if i+k < ms.length then [y] else [])->post k pr'->Q .non H'
noncomputable def ZDd (CA CR:Addr):Sp:=fun vs H Q _=>∃ (c:Ad) (pr:List A3) (al ar:Addr) (ls rs:List Nat) (post:List Nat->List A3->Prop),vs=[.ref c.a,.ref al,.ref ar] /\ SitR CA CR H c pr /\ H al=some (.lst (nL ls)) /\ H ar=some (.lst (nL rs)) /\ c.n <= 1000 /\ ls.length+rs.length <= 500 /\ Wp c.n c.an (ZEF ls rs) pr post /\
 ∀ l H' ps pr',Fr c.S H H'->H l=none->H' l=some (.lst (nL ps))->SitR CA CR H' c pr'->post ps pr'->Q (.ref l) H'
theorem sv_inj {a b:Bool} (h:sv a=sv b):a=b:=by revert h;cases a <;> cases b <;> intro h <;> first | rfl | cases h
theorem join_end {N:Nat} {An:Nat->Nat->Nat->Bool} {n w i j:Nat} {s:Bool} {ls B dn:List Nat} {pr:List A3} {post:List Nat->List A3->Prop} (h:¬ (i < ls.length /\ j < B.length)) (hi:i <= ls.length) (J:j <= B.length) (hw:Wp N An (ZDC n s w (ls.drop i) (B.drop j) dn) pr post):post (dn++ls.drop i++B.drop j) pr:=by
 by_cases z:i < ls.length
 .have e:B.drop j=[]:=List.drop_eq_nil_of_le (by omega)
  rw [e] at hw ⊢
  cases n with
  | zero=>exact hw
  | succ n=>
   cases e2:ls.drop i with
   | nil=>rw [e2] at hw;exact hw
   | cons x l=>rw [e2] at hw;exact hw
 .have e:ls.drop i=[]:=List.drop_eq_nil_of_le (by omega)
  rw [e] at hw ⊢
  cases n with
  | zero=>exact hw
  | succ n=>exact hw
noncomputable abbrev fPl (a:Addr) (ls s e r:Int) (fs od gr:Addr):List (Str×V):=[("grades",.ref gr),("orders",.ref od),("firsts",.ref fs),("reached",.int r),("end",.int e),("start",.int s),("least",.int ls),("asker",.ref a)]
theorem fPl_reached {a fs od gr:Addr} {ls s e r r':Int}:∀ f,(putF "reached" (.int r') (fPl a ls s e r fs od gr)).lookup f=(fPl a ls s e r' fs od gr).lookup f:=fun f=>by
 rw [ZAa]
 by_cases h:f=("reached":Str)
 .subst h
  rw [if_pos rfl]
  exact (show List.lookup _ (fPl a ls s e r' fs od gr)=some (.int r') by walk_at "lk").symm
 .simp only [lkc,h,if_false]
noncomputable def bB:List (Nat×List Nat)->Nat->Nat
 | [],r=>r
 | p::_,_=>p.1
theorem two_last {α:Type} {l:List α} (h:2 <= l.length):∃ A x y,l=A++[x,y]:=by
 refine ⟨l.take (l.length-2),l[l.length-2],l[l.length-1],?_⟩
 have z:l.drop (l.length-2)=[l[l.length-2],l[l.length-1]]:=by
  rw [yBU (by omega),show l.length-2+1=l.length-1 by omega,yBU (by omega),show l.length-1+1=l.length by omega,List.drop_length]
 rw [<- z,yBO]
noncomputable def OrdAt (H:Hp):List Addr->List (Nat×List Nat)->Prop
 | [],[]=>True
 | b::bs,p::ps=>H b=some (.lst (nL p.2)) /\ OrdAt H bs ps
 | _,_=>False
theorem OrdAt.len {H:Hp}:∀ {oa:List Addr} {ps:List (Nat×List Nat)},OrdAt H oa ps->oa.length=ps.length
 | [],[],_=>rfl
 | b::bs,p::ps,h=>by rw [yAG,yAG,OrdAt.len h.2]
 | [],p::ps,h=>h.elim
 | b::bs,[],h=>h.elim
theorem OrdAt.keep {H H':Hp}:∀ {oa:List Addr} {ps:List (Nat×List Nat)},OrdAt H oa ps->(∀ b∈oa,∀ o,H b=some o->H' b=some o)->OrdAt H' oa ps
 | [],[],_,_=>trivial
 | b::bs,p::ps,h,e=>⟨e b yAC _ h.1,OrdAt.keep h.2 fun c hc=>e c (yAD _ hc)⟩
 | [],p::ps,h,_=>h.elim
 | b::bs,[],h,_=>h.elim
theorem OrdAt.split {H:Hp}:∀ {P:List (Nat×List Nat)} {oa:List Addr} {Q:List (Nat×List Nat)},OrdAt H oa (P++Q)->∃ A B,oa=A++B /\ A.length=P.length /\ OrdAt H A P /\ OrdAt H B Q
 | [],oa,Q,h=>⟨[],oa,rfl,rfl,trivial,h⟩
 | p::P,[],Q,h=>h.elim
 | p::P,b::bs,Q,h=>by
  obtain ⟨A,B,L,O,z,J⟩:=OrdAt.split (P:=P) h.2
  exact ⟨b::A,B,by rw [L];rfl,by rw [yAG,yAG,O],⟨h.1,z⟩,J⟩
theorem OrdAt.app {H:Hp}:∀ {P:List (Nat×List Nat)} {A B:List Addr} {Q:List (Nat×List Nat)},OrdAt H A P->OrdAt H B Q->OrdAt H (A++B) (P++Q)
 | [],[],B,Q,_,h=>h
 | p::P,[],B,Q,h,_=>h.elim
 | [],b::bs,B,Q,h,_=>h.elim
 | p::P,b::bs,B,Q,h,h'=>⟨h.1,OrdAt.app h.2 h'⟩
theorem OrdAt.get {H:Hp}:∀ {ps:List (Nat×List Nat)} {oa:List Addr} {i:Nat} {b:Addr},OrdAt H oa ps->oa[i]?=some b->∃ p,ps[i]?=some p /\ H b=some (.lst (nL p.2))
 | [],[],i,b,_,e=>by simp at e
 | p::P,[],i,b,h,_=>h.elim
 | [],c::bs,i,b,h,_=>h.elim
 | p::P,c::bs,0,b,h,e=>by cases e;exact ⟨p,rfl,h.1⟩
 | p::P,c::bs,i+1,b,h,e=>by
  obtain ⟨z,B,J⟩:=OrdAt.get (ps:=P) (oa:=bs) (i:=i) h.2 (by simpa using e)
  exact ⟨z,by simpa using B,J⟩
theorem OrdAt.two {H:Hp} {oa:List Addr} {A B:List (Nat×List Nat)} {U p2:Nat×List Nat} (h:OrdAt H oa (A++U::p2::B)):∃ J L O OB,oa=J++L::O::OB /\ J.length=A.length /\ OrdAt H J A /\ H L=some (.lst (nL U.2)) /\ H O=some (.lst (nL p2.2)) /\ OrdAt H OB B:=by
 obtain ⟨J,R,e1,Z,Y,z⟩:=h.split
 match R,z with
 | L::O::OB,z=>exact ⟨J,L,O,OB,e1,Z,Y,z.1,z.2.1,z.2.2⟩
 | [L],z=>exact z.2.elim
 | [],z=>exact z.elim
theorem atI_refs {oa:List Addr} {m:Nat} {b:Addr} (h:oa[m]?=some b):atI (oa.map V.ref) (m:Int)=some (.ref b):=ZAl (by omega) (by rw [Int.toNat_natCast,yAM,h];rfl)
theorem ZEH {α:Type} (X:List α) (x:α) (Y:List α):(X++x::Y)[X.length]?=some x:=by rw [yBC (yAB _),yBG];rfl
theorem ZDD {α:Type} (X:List α) (x y:α) (Y:List α):(X++x::y::Y)[X.length+1]?=some y:=by rw [yBC (by omega),Nat.add_sub_cancel_left];rfl
theorem set_mid {α:Type} (X:List α) (x y:α) (Y:List α):(X++x::Y).set X.length y=X++y::Y:=by rw [List.set_append_right _ _ (yAB _),yBG];rfl
theorem er_mid2 {α:Type} (X:List α) (x y:α) (Y:List α):(X++x::y::Y).eraseIdx (X.length+1)=X++x::Y:=by rw [List.eraseIdx_append_of_length_le (by omega),Nat.add_sub_cancel_left];rfl
theorem atI_m2 {l:List V} {x y:V}:atI (l++[x,y]) (-2)=some x:=by
 unfold atI ixN
 rw [yAE,show ([x,y]:List V).length=2 from rfl,if_neg (by decide),if_pos (by omega),show ((-2:Int)+((l.length+2:Nat):Int)).toNat=l.length by omega]
 exact ZEH l x [y]
theorem atI_m1 {l:List V} {y:V}:atI (l++[y]) (-1)=some y:=by
 unfold atI ixN
 rw [yAE,show ([y]:List V).length=1 from rfl,if_neg (by decide),if_pos (by omega),show ((-1:Int)+((l.length+1:Nat):Int)).toNat=l.length by omega]
 exact ZEH l y []
structure PileAt (CP:Addr) (H:Hp) (x a fs od gr:Addr) (ls s e r:Nat) (oa:List Addr) (ps:List (Nat×List Nat)) (gs:List Nat):Prop where
 hp:Ins H x CP (fPl a ls s e r fs od gr)
 hfs:H fs=some (.lst (nL (ps.map Prod.fst)))
 hod:H od=some (.lst (oa.map V.ref))
 hgr:H gr=some (.lst (nL gs))
 oat:OrdAt H oa ps
 ne:fs≠od /\ fs≠gr /\ od≠gr
 nb:∀ b∈oa,b∉[fs,od,gr]
section
variable {CP:Addr} {H H':Hp} {x a fs od gr:Addr} {ls s e r:Nat} {oa:List Addr} {ps:List (Nat×List Nat)} {gs:List Nat}
theorem PileAt.fr {S:List Addr} (h:PileAt CP H x a fs od gr ls s e r oa ps gs) (f:Fr S H H') (n:x∉S /\ fs∉S /\ od∉S /\ gr∉S) (n2:∀ b∈oa,b∉S):PileAt CP H' x a fs od gr ls s e r oa ps gs :=
 ⟨ZB3 f n.1 h.hp,f _ _ n.2.1 h.hfs,f _ _ n.2.2.1 h.hod,f _ _ n.2.2.2 h.hgr,h.oat.keep fun b z o=>f b o (n2 b z),h.ne,h.nb⟩
theorem PileAt.mono (h:PileAt CP H x a fs od gr ls s e r oa ps gs) (f:Same H H'):PileAt CP H' x a fs od gr ls s e r oa ps gs:=h.fr (S:=[]) f.fr ⟨yAZ,yAZ,yAZ,yAZ⟩ fun _ _=>yAZ
theorem PileAt.lsts (h:PileAt CP H x a fs od gr ls s e r oa ps gs):∀ c∈[fs,od,gr],∃ l,H c=some (.lst l):=fun c hc=>by
 rcases yAF.mp hc with z | z
 .rw [z];exact ⟨_,h.hfs⟩
 rcases yAF.mp z with z | z
 .rw [z];exact ⟨_,h.hod⟩
 .rw [yAH.mp z];exact ⟨_,h.hgr⟩
theorem PileAt.xl (h:PileAt CP H x a fs od gr ls s e r oa ps gs):x∉[fs,od,gr]:=fun z=>by
 obtain ⟨l,hl⟩:=h.lsts x z
 exact h.hp.ne hl (fun _ _ _ z=>by cases z) rfl
end
noncomputable def ZDG (CA CP:Addr):Sp:=fun vs H Q _=>∃ (x dx a:Addr) (ls s e:Nat) (pz:V),vs=[.ref x,.ref a,.int ls,pz] /\ H x=some (.ins CP dx []) /\ ((∃ pt,pz=.ref pt /\ H pt=some (.tup [.int s,.int e]))∨(pz=.non /\ s=0 /\ a≠x /\ ∃ rl ru m n tl xs,Ins H a CA (fA rl ru m n tl) /\ H rl=some (.lst xs) /\ xs.length=e)) /\
 ∀ fs od gr H',(∀ b o,b≠x->H b=some o->H' b=some o)->H fs=none->H od=none->H gr=none->PileAt CP H' x a fs od gr ls s e s [] [] []->Q .non H'
noncomputable def ZDI (CP:Addr):Sp:=fun vs H Q _=>∃ (x a fs od gr:Addr) (ls s e r:Nat) (oa:List Addr) (A:List (Nat×List Nat)) (p:Nat×List Nat) (B:List (Nat×List Nat)) (gs:List Nat),vs=[.ref x,.int (A.length:Nat)] /\ PileAt CP H x a fs od gr ls s e r oa (A++p::B) gs /\ Q (.int (bB B r:Nat)) H
noncomputable def ZGA (CP:Addr):Sp:=fun vs H Q _=>∃ (x a fs od gr:Addr) (ls s e r:Nat) (oa:List Addr) (ps:List (Nat×List Nat)) (gs:List Nat),vs=[.ref x] /\ PileAt CP H x a fs od gr ls s e r oa ps gs /\ Q (.bl (dueB gs)) H
noncomputable def ZEq (CP:Addr):Sp:=fun vs H Q _=>∃ (x a fs od gr:Addr) (ls s e r:Nat) (oa:List Addr) (A:List (Nat×List Nat)) (p:Nat×List Nat) (gs:List Nat) (m b:Nat),vs=[.ref x,.int m,.int b] /\ PileAt CP H x a fs od gr ls s e r oa (A++[p]) gs /\ s <= p.1 /\ p.1 < m /\ m < b /\ b <= e /\ e <= 500 /\ ∀ g:Nat,Gr.IsG ((e:Int)-s) (((p.1:Int)-s)+((m:Int)-s)) (((m:Int)-s)+((b:Int)-s)) g->g <= 240->Q (.int g) H
noncomputable def ZEp (CP:Addr):Sp:=fun vs H Q _=>∃ (x a fs od gr:Addr) (ls s e r:Nat) (oa:List Addr) (ps:List (Nat×List Nat)) (gs:List Nat),vs=[.ref x] /\ PileAt CP H x a fs od gr ls s e r oa ps gs /\ (flt ps).length <= 500 /\ r <= e /\ e <= 500 /\ ∀ l H',Same H H'->H l=none->H' l=some (.lst (nL (flt ps++List.range' r (e-r))))->Q (.ref l) H'
theorem flt_app (A B:List (Nat×List Nat)):flt (A++B)=flt A++flt B:=by unfold flt;rw [yAL,yCB]
theorem dueB_no {gs:List Nat} (h:gs.length <= 1):dueB gs=false:=by
 cases hd:dueB gs with
 | false=>rfl
 | true=>have:=ZEK hd;omega
noncomputable def grd (n a b c:Nat):Nat:=open Classical in if h:∃ g,Gr.IsG (n:Int) ((a:Int)+b) ((b:Int)+c) g then h.choose else 0
theorem grd_of {n a b c g:Nat} {N x y:Int} (h:Gr.IsG N x y g) (L:N=n) (J:x=(a:Int)+b) (B:y=(b:Int)+c):grd n a b c=g:=by
 subst L J B
 unfold grd
 have z:∃ g,Gr.IsG (n:Int) ((a:Int)+b) ((b:Int)+c) g:=⟨g,h⟩
 rw [dif_pos z]
 exact z.choose_spec.uniq h
theorem ZBv:∀ (m:Nat) (s:Bool) (w:Nat) (l r z:List Nat),(ZDC m s w l r z).Al fun os=>os.length=z.length+l.length+r.length
 | 0,s,w,l,r,z=>by
  show (z++l++r).length=_
  rw [yAE,yAE]
 | m+1,s,w,[],r,z=>by
  show (z++[]++r).length=_
  rw [yAE,yAE]
 | m+1,s,w,x::l,[],z=>by
  show (z++x::l++[]).length=_
  rw [yAE,yAE]
 | m+1,s,w,x::l,y::r,z=>by
  rw [ZDC]
  refine ZDt fun b=>?_
  have tk:∀ (L:List Nat) k,k <= L.length->(L.take k).length=k /\ (L.drop k).length=L.length-k:=fun L k h=>⟨by rw [yBA];omega,yAU⟩
  by_cases h4:(if b=s then w+1 else 1)=4
  .rw [if_pos h4]
   cases b
   .rw [if_neg (by decide)]
    refine Pg.Al.bind ((ZEE r x).imp fun k B=>?_)
    have:=tk r k B
    split
    .exact (ZBv m _ _ _ _ _).imp fun os h=>by simp at h ⊢;omega
    .exact (ZBv m _ _ _ _ _).imp fun os h=>by simp at h ⊢;omega
   .rw [if_pos rfl]
    refine Pg.Al.bind ((ZEE l y).imp fun k B=>?_)
    have:=tk l k B
    split
    .exact (ZBv m _ _ _ _ _).imp fun os h=>by simp at h ⊢;omega
    .exact (ZBv m _ _ _ _ _).imp fun os h=>by simp at h ⊢;omega
  .rw [if_neg h4]
   split
   .exact (ZBv m _ _ _ _ _).imp fun os h=>by simp at h ⊢;omega
   .exact (ZBv m _ _ _ _ _).imp fun os h=>by simp at h ⊢;omega
theorem joinedP_len (l r:List Nat):(ZEF l r).Al fun os=>os.length=l.length+r.length:=(ZBv _ _ _ _ _ _).imp fun os h=>by rw [h];simp
theorem putP_al2:∀ (m pl:Nat) (os:List Nat),(putP ZFC m pl os).Al fun z=>z.length=os.length+m
 | 0,pl,os=>rfl
 | m+1,pl,os=>Pg.Al.bind ((spotP_le os pl).imp fun r _=>(putP_al2 m (pl+1) _).imp fun z h=>by
  have:=(insN_perm (os:=os) (r:=r) (x:=pl)).length_eq
  rw [yAE,yBE] at this
  omega)
theorem fillP_al2 {ls e r:Nat} (h:r < e):(ZF0 ls e r).Al fun f=>0 < f.2.length /\ r+f.2.length <= e :=
 Pg.Al.bind ((strP_al2 h).imp fun g B=>Pg.Al.bind ((putP_al2 _ _ _).imp fun os z=>by
  have:=turnN_len r g.1 g.2
  rw [turn_eq] at z
  show 0 < os.length /\ r+os.length <= e
  omega))
structure PW (s e:Nat) (t:PS):Prop where
 cl:Cl s t.ps t.r
 re:t.r <= e
 gl:t.gs.length=t.ps.length-1
structure PXw (c:Ad) (x fs od gr:Addr) (oa:List Addr):Prop where
 n1:x∉c.A /\ fs∉c.A /\ od∉c.A /\ gr∉c.A
 n2:∀ b∈oa,b∉c.A
theorem PXw.l3 {c:Ad} {x fs od gr:Addr} {oa:List Addr} (h:PXw c x fs od gr oa):∀ b∈[fs,od,gr],b∉c.A:=fun b B=>by
 rcases yAF.mp B with z | z
 .rw [z];exact h.n1.2.1
 rcases yAF.mp z with z | z
 .rw [z];exact h.n1.2.2.1
 .rw [yAH.mp z];exact h.n1.2.2.2
theorem PileAt.frS {CP:Addr} {H H':Hp} {x a fs od gr:Addr} {ls s e r:Nat} {oa:List Addr} {ps:List (Nat×List Nat)} {gs:List Nat} {c:Ad} (h:PileAt CP H x a fs od gr ls s e r oa ps gs) (z:PXw c x fs od gr oa) (f:Fr c.S H H'):PileAt CP H' x a fs od gr ls s e r oa ps gs :=
 h.fr f ⟨Ad.SA z.n1.1,Ad.SA z.n1.2.1,Ad.SA z.n1.2.2.1,Ad.SA z.n1.2.2.2⟩ fun b B=>Ad.SA (z.n2 b B)
theorem SitR.three {CA CR CP:Addr} {H H':Hp} {x a fs od gr:Addr} {ls s e r:Nat} {oa:List Addr} {ps:List (Nat×List Nat)} {gs:List Nat} {c:Ad} {pr:List A3} (st:SitR CA CR H c pr) (h:PileAt CP H x a fs od gr ls s e r oa ps gs) (B:PXw c x fs od gr oa) (f:Fr [fs,od,gr] H H'):SitR CA CR H' c pr:=st.apart f (fun b z=>.inl (h.lsts b z)) B.l3
noncomputable def ZGO (CA CR CP:Addr) (H:Hp) (c:Ad) (x fs od gr:Addr) (ls s e:Nat) (oa oa':List Addr) (t:PS) (pr:List A3) (H':Hp):Prop :=
 Fr [x,fs,od,gr,c.a,c.lg,c.tl] H H' /\ (∀ b∈oa',b∈oa∨H b=none) /\ PileAt CP H' x c.a fs od gr ls s e t.r oa' t.ps t.gs /\ PXw c x fs od gr oa' /\ SitR CA CR H' c pr /\ PW s e t
noncomputable def ZDH (CA CR CP:Addr):Sp:=fun vs H Q _=>∃ (c:Ad) (pr:List A3) (x fs od gr:Addr) (ls s e i r:Nat) (oa:List Addr) (ps:List (Nat×List Nat)) (gs:List Nat) (post:Option PS->List A3->Prop),vs=[.ref x,.int (i:Nat)] /\ SitR CA CR H c pr /\ PileAt CP H x c.a fs od gr ls s e r oa ps gs /\ PXw c x fs od gr oa /\ PW s e ⟨r,ps,gs⟩ /\ i+2 <= ps.length /\ e <= 500 /\ c.n <= 1000 /\ Wp c.n c.an (jnP i ⟨r,ps,gs⟩) pr post /\
 ∀ t H' t' oa' pr',ZGO CA CR CP H c x fs od gr ls s e oa oa' t' pr' H'->t'.r=r->t'.ps.length+1=ps.length->post (some t') pr'->Q (.ref t) H'
noncomputable def ZFV (CA CR CP:Addr):Sp:=fun vs H Q _=>∃ (c:Ad) (pr:List A3) (x fs od gr:Addr) (ls s e r:Nat) (oa:List Addr) (ps:List (Nat×List Nat)) (gs:List Nat) (post:Option PS->List A3->Prop),vs=[.ref x] /\ SitR CA CR H c pr /\ PileAt CP H x c.a fs od gr ls s e r oa ps gs /\ PXw c x fs od gr oa /\ PW s e ⟨r,ps,gs⟩ /\ r < e /\ e <= 500 /\ c.n <= 1000 /\ Wp c.n c.an (layP grd ls s e ⟨r,ps,gs⟩) pr post /\
 ∀ t H' t' oa' pr',ZGO CA CR CP H c x fs od gr ls s e oa oa' t' pr' H'->r < t'.r->t'.ps.length=ps.length+1->post (some t') pr'->Q (.ref t) H'
noncomputable def ZEm (CA CR CP:Addr):Sp:=fun vs H Q _=>∃ (c:Ad) (pr:List A3) (x fs od gr:Addr) (ls s e r:Nat) (oa:List Addr) (ps:List (Nat×List Nat)) (gs:List Nat) (post:Option PS->List A3->Prop),vs=[.ref x] /\ SitR CA CR H c pr /\ PileAt CP H x c.a fs od gr ls s e r oa ps gs /\ PXw c x fs od gr oa /\ PW s e ⟨r,ps,gs⟩ /\ e <= 500 /\ c.n <= 1000 /\ Wp c.n c.an (ZFQ grd ls s e ⟨r,ps,gs⟩) pr post /\
 (post none pr->Q .non H) /\
 ∀ t H' t' oa' pr',ZGO CA CR CP H c x fs od gr ls s e oa oa' t' pr' H'->2 * (e-t'.r)+t'.ps.length < 2 * (e-r)+ps.length->post (some t') pr'->Q (.ref t) H'
noncomputable def ZC8 (CA CR:Addr):Sp:=fun vs H Q _=>∃ (c:Ad) (pr:List A3) (ls s e:Nat) (pt:Addr) (post:List Nat->List A3->Prop),vs=[.ref c.a,.int ls,.ref pt] /\ SitR CA CR H c pr /\ H pt=some (.tup [.int s,.int e]) /\ s <= e /\ e <= 500 /\ c.n <= 1000 /\ Wp c.n c.an (bypP grd ls s e) pr post /\
 ∀ l H' os pr',Fr c.S H H'->H l=none->H' l=some (.lst (nL os))->SitR CA CR H' c pr'->os.length=e-s->post os pr'->Q (.ref l) H'
noncomputable abbrev fP (ak pl tk ml wd:Addr):List (Str×V):=[("went_on",.ref wd),("meetings",.ref ml),("taken",.ref tk),("pieces",.ref pl),("asker",.ref ak)]
theorem atI_nN {os:List Nat} {m o:Nat} (h:os[m]?=some o):atI (nL os) (m:Int)=some (.int o):=ZAl (by omega) (by rw [Int.toNat_natCast,yAM,h];rfl)
noncomputable abbrev kQ (p q:Nat):List Key:=[Sum.inl (p:Int),Sum.inl (q:Int)]
theorem kQ_inj {p q z q':Nat} (h:kQ p q=kQ z q'):p=z /\ q=q':=by
 injection h with h1 h2
 injection h2 with h2 _
 injection h1 with h1
 injection h2 with h2
 omega
noncomputable def FrV (H:Hp) (u:V):Po.Fr->Prop
 | none=>u=.non
 | some x=>∃ t,u=.ref t /\ H t=some (.tup [.int (x.1:Int),.int (x.2:Int)])
theorem FrV.keep {H H':Hp} {u:V} {v:Po.Fr} (h:FrV H u v) (e:∀ t x,H t=some (.tup x)->H' t=some (.tup x)):FrV H' u v:=by
 cases v with
 | none=>exact h
 | some x=>obtain ⟨t,a,b⟩:=h;exact ⟨t,a,e _ _ b⟩
noncomputable def front (xs:List Nat) (t i:Nat):Po.Fr:=(xs[t]?).map fun x=>(x,i)
structure PB (CP:Addr) (H:Hp) (p ak pl tk ml wd:Addr) (pls:List Addr) (pcs:List (List Nat)):Prop where
 hp:Ins H p CP (fP ak pl tk ml wd)
 hpl:H pl=some (.lst (pls.map V.ref))
 len:pls.length=pcs.length
 pc:∀ (i:Nat) l xs,pls[i]?=some l->pcs[i]?=some xs->H l=some (.lst (nL xs))
theorem PB.at {CP:Addr} {H:Hp} {p ak pl tk ml wd:Addr} {pls:List Addr} {pcs:List (List Nat)} (h:PB CP H p ak pl tk ml wd pls pcs) {i:Nat} {xs:List Nat} (e:pcs[i]?=some xs):∃ l,pls[i]?=some l /\ H l=some (.lst (nL xs)):=by
 have hi:=(yAR.mp e).1
 have z:i < pls.length:=by rw [h.len];exact hi
 have B:pls[i]?=some pls[i]:=yAI z
 exact ⟨_,B,h.pc i _ xs B e⟩
theorem PB.fr {CP:Addr} {H H':Hp} {S:List Addr} {p ak pl tk ml wd:Addr} {pls:List Addr} {pcs:List (List Nat)} (h:PB CP H p ak pl tk ml wd pls pcs) (e:Fr S H H') (n1:p∉S) (n2:pl∉S) (z:∀ l∈pls,l∉S):PB CP H' p ak pl tk ml wd pls pcs :=
 ⟨ZB3 e n1 h.hp,e _ _ n2 h.hpl,h.len,fun i l xs a b=>e _ _ (z l (yAO a)) (h.pc i l xs a b)⟩
theorem PB.mono {CP:Addr} {H H':Hp} {p ak pl tk ml wd:Addr} {pls:List Addr} {pcs:List (List Nat)} (h:PB CP H p ak pl tk ml wd pls pcs) (e:Same H H'):PB CP H' p ak pl tk ml wd pls pcs :=
 h.fr (S:=[]) e.fr yAZ yAZ fun _ _=>yAZ
structure MsAt (H:Hp) (vs:List V) (ms:List Po.Mt):Prop where
 len:vs.length=ms.length
 get:∀ (i:Nat) m,ms[i]?=some m->∃ t,vs[i]?=some (V.ref t) /\ H t=some (.tup [.int (m.1:Int),.int (m.2.1:Int),.int (m.2.2:Int)])
theorem MsAt.keep {H H':Hp} {vs:List V} {ms:List Po.Mt} (h:MsAt H vs ms) (e:∀ t x,H t=some (.tup x)->H' t=some (.tup x)):MsAt H' vs ms:=⟨h.len,fun i m hm=>let ⟨t,a,b⟩:=h.get i m hm;⟨t,a,e _ _ b⟩⟩
theorem MsAt.app {H:Hp} {vs us:List V} {ms ns:List Po.Mt} (h:MsAt H vs ms) (g:MsAt H us ns):MsAt H (vs++us) (ms++ns):=by
 refine ⟨by rw [yAE,yAE,h.len,g.len],fun j m z=>?_⟩
 by_cases hl:j < ms.length
 .rw [yBD hl] at z
  rw [yBD (by rw [h.len];exact hl)]
  exact h.get j m z
 .rw [yBC (by omega)] at z
  rw [yBC (by rw [h.len];omega),h.len]
  exact g.get _ m z
theorem MsAt.one {H:Hp} {m:Po.Mt} {t:Addr} (B:H t=some (.tup [.int (m.1:Int),.int (m.2.1:Int),.int (m.2.2:Int)])):MsAt H [.ref t] [m]:=⟨rfl,fun j a z=>by
 cases j with
 | zero=>cases z;exact ⟨t,rfl,B⟩
 | succ j=>simp at z⟩
theorem MsAt.nil {H:Hp}:MsAt H [] []:=⟨rfl,fun j a z=>by simp at z⟩
noncomputable def ZBn (n:Nat):Sp:=fun vs H Q _=>∃ (f b:Nat),vs=[.int f,.int b] /\ f <= b /\ b <= 600 /\ 0 < n /\ b-f <= 2 ^ (n-1) /\ ∀ l H' ws,Same H H'->H l=none->H' l=some (.lst ws)->MsAt H' ws (Po.mts f b)->Q (.ref l) H'
theorem spMeetings_no {vs:List V} {H:Hp} {Q:VK} {E:XK} (h:ZBn 0 vs H Q E):False:=by
 obtain ⟨_,_,_,_,_,z,_⟩:=h
 omega
noncomputable def ZC7 (CP:Addr):Sp:=fun vs H Q _=>∃ (p ak pl tk ml wd:Addr) (pls:List Addr) (pcs:List (List Nat)) (i t:Nat) (xs:List Nat),vs=[.ref p,.int i,.int t] /\ PB CP H p ak pl tk ml wd pls pcs /\ pcs[i]?=some xs /\ ∀ u H',Same H H'->FrV H' u (front xs t i)->Q u H'
structure DT (H:Hp) (d:Addr) (w:Po.W) (B:Nat) (kvs:List (List Key×V)):Prop where
 hd:H d=some (.dT kvs)
 sm:ZFw kvs
 len:kvs.length <= B
 val:∀ a c v,w a c=some v->∃ u,valV kvs (kQ a c)=some u /\ FrV H u v
theorem DT.fr {H H':Hp} {S:List Addr} {d:Addr} {w:Po.W} {B:Nat} {kvs:List (List Key×V)} (h:DT H d w B kvs) (e:Fr S H H') (n:d∉S) (t:∀ t x,H t=some (.tup x)->t∉S):DT H' d w B kvs :=
 ⟨e _ _ n h.hd,h.sm,h.len,fun a c v z=>let ⟨u,x,y⟩:=h.val a c v z;⟨u,x,y.keep fun b o q=>e _ _ (t _ _ q) q⟩⟩
theorem DT.mono {H H':Hp} {d:Addr} {w:Po.W} {B:Nat} {kvs:List (List Key×V)} (h:DT H d w B kvs) (e:Same H H'):DT H' d w B kvs:=h.fr (S:=[]) e.fr yAZ fun _ _ _=>yAZ
theorem mem_putK {kvs:List (List Key×V)} {k:List Key} {v:V} {B:List Key×V} (h:B∈putK kvs k v):B.1=k∨∃ z∈kvs,z.1=B.1:=by
 unfold putK at h
 split at h
 .obtain ⟨z,h1,h2⟩:=yBN.mp h
  split at h2
  .rename_i e;rw [<- h2];exact .inl e
  .rw [<- h2];exact .inr ⟨z,h1,rfl⟩
 .rcases yAX.mp h with h | h
  .exact .inr ⟨B,h,rfl⟩
  .rw [yAH.mp h];exact .inl rfl
theorem len_putK {kvs:List (List Key×V)} {k:List Key} {v u:V} (h:valV kvs k=some u):(putK kvs k v).length=kvs.length:=by
 unfold putK
 rw [if_pos (by rw [ZC2,h];rfl),yAA]
theorem DT.put {H:Hp} {d:Addr} {w:Po.W} {B:Nat} {kvs:List (List Key×V)} (h:DT H d w B kvs) {a c:Nat} {u:V} {v:Po.Fr} (ha:a < 205) (hc:c <= 500) (hu:FrV H u v) {k:Nat} (hk:k=1∨(w a c).isSome=true):DT (upd H d (.dT (putK kvs (kQ a c) u))) d (Po.put w a c v) (B+k) (putK kvs (kQ a c) u):=by
 have e:∀ t x,H t=some (.tup x)->upd H d (.dT (putK kvs (kQ a c) u)) t=some (.tup x):=fun t x Z=>by rw [ZAI (fun z=>by rw [z,h.hd] at Z;cases Z)];exact Z
 refine ⟨ZAF,fun kv O=>?_,?_,fun a' c' v' J=>?_⟩
 .rcases mem_putK O with z | ⟨Y,h1,h2⟩
  .exact ⟨a,c,z,ha,hc⟩
  .rw [<- h2];exact h.sm Y h1
 .have:=h.len
  rcases hk with rfl | z
  .exact yAK (ZCM _ _ _) (by omega)
  .obtain ⟨v0,U⟩:=Option.isSome_iff_exists.mp z
   obtain ⟨u0,L,_⟩:=h.val a c v0 U
   rw [len_putK L];omega
 .unfold Po.put at J
  rw [valV_put]
  by_cases z:a'=a /\ c'=c
  .rw [if_pos z] at J
   rw [if_pos (by rw [z.1,z.2])]
   cases J
   exact ⟨u,rfl,hu.keep e⟩
  .rw [if_neg z] at J
   rw [if_neg (fun y=>z (kQ_inj y))]
   obtain ⟨u',x,y⟩:=h.val a' c' v' J
   exact ⟨u',x,y.keep e⟩
theorem drop_consG {α:Type} {os:List α} {i:Nat} {x:α} (h:os[i]?=some x):os.drop i=x::os.drop (i+1):=by
 obtain ⟨h1,h2⟩:=yAR.mp h
 rw [yBU h1,h2]
noncomputable def ZF9 (CP:Addr):Sp:=fun vs H Q _=>∃ (p ak pl tk ml wd:Addr) (pls:List Addr) (pcs:List (List Nat)) (w:Po.W) (B:Nat) (kvs:List (List Key×V)) (top:Po.Fr),vs=[.ref p] /\ PB CP H p ak pl tk ml wd pls pcs /\ DT H wd w B kvs /\ (w 0 pcs.length=some top∨B=0 /\ top=none) /\ ∀ u H',Same H H'->FrV H' u top->Q u H'
noncomputable def ZFU (CP:Addr):Sp:=fun vs H Q _=>∃ (p ak pl tk ml wd:Addr) (pls:List Addr) (pcs:List (List Nat)) (ts:List Nat),vs=[.ref p] /\ PB CP H p ak pl tk ml wd pls pcs /\ H tk=some (.lst (nL ts)) /\ pcs.length <= 500 /\ ts.length <= 500 /\ (∀ xs∈pcs,xs.length <= 500) /\ (∀ t∈ts,t <= 500) /\ ∀ H',Same H H'->Q (.int (((pcs.map List.length).sum:Nat)-(ts.sum:Nat))) H'
theorem sum_nat (l:List Nat):(l.map fun (n:Nat)=>(n:Int)).sum=((l.sum:Nat):Int):=by
 induction l with
 | nil=>rfl
 | cons a r ih=>rw [yAS,List.sum_cons,List.sum_cons,ih];omega
theorem frW_at {pcs:List (List Nat)} {ts:List Nat} {i t:Nat} {zs:List Nat} (h:pcs[i]?=some zs) (z:ts[i]?=some t):frW pcs ts i=front zs t i:=by
 unfold frW front
 rw [yBH,yBH,h,z];rfl
structure PourAt (CP:Addr) (H:Hp) (p ak pl tk ml wd:Addr) (pls:List Addr) (pcs:List (List Nat)) (ts:List Nat) (w:Po.W) (kvs:List (List Key×V)):Prop where
 pb:PB CP H p ak pl tk ml wd pls pcs
 htk:H tk=some (.lst (nL ts))
 hml:∃ mvs,H ml=some (.lst mvs) /\ MsAt H mvs (Po.mts 0 pcs.length)
 hwd:DT H wd w (2 * pcs.length-1) kvs
 tlen:ts.length=pcs.length
 ne:tk≠pl /\ tk≠ml /\ ∀ l∈pls,l≠tk
theorem PourAt.fr {CP:Addr} {H H':Hp} {S:List Addr} {p ak pl tk ml wd:Addr} {pls:List Addr} {pcs:List (List Nat)} {ts:List Nat} {w:Po.W} {kvs:List (List Key×V)} (h:PourAt CP H p ak pl tk ml wd pls pcs ts w kvs) (e:Fr S H H') (U:∀ b∈S,∃ l,H b=some (.lst l)) (n:pl∉S /\ tk∉S /\ ml∉S /\ ∀ l∈pls,l∉S):PourAt CP H' p ak pl tk ml wd pls pcs ts w kvs:=by
 have B:∀ b o,H b=some o->(∀ l,o≠.lst l)->b∉S:=fun b o L z m=>by
  obtain ⟨l,hl⟩:=U b m
  rw [hl] at L;exact z _ (Option.some.inj L).symm
 obtain ⟨dx,fs,O,_⟩:=h.pb.hp.ex
 obtain ⟨J,h1,h2⟩:=h.hml
 exact ⟨h.pb.fr e (B _ _ O fun _ z=>by cases z) n.1 n.2.2.2,e _ _ n.2.1 h.htk,⟨J,e _ _ n.2.2.1 h1,h2.keep fun t z y=>e _ _ (B _ _ y fun _ z=>by cases z) y⟩,h.hwd.fr e (B _ _ h.hwd.hd fun _ z=>by cases z) (fun t z y=>B _ _ y fun _ z=>by cases z),h.tlen,h.ne⟩
theorem PourAt.mono {CP:Addr} {H H':Hp} {p ak pl tk ml wd:Addr} {pls:List Addr} {pcs:List (List Nat)} {ts:List Nat} {w:Po.W} {kvs:List (List Key×V)} (h:PourAt CP H p ak pl tk ml wd pls pcs ts w kvs) (e:Same H H'):PourAt CP H' p ak pl tk ml wd pls pcs ts w kvs :=
 h.fr (S:=[]) e.fr (fun b z=>by cases z) ⟨yAZ,yAZ,yAZ,fun _ _=>yAZ⟩
structure Dw (n:Nat) (ms:List Po.Mt) (w:Po.W):Prop where
 pr:∀ m∈ms,(w m.1 m.2.2).isSome=true
 ix:∀ a c x,w a c=some (some x)->x.2 < n
theorem metP_al2 {P:Po.Fr->Prop}:∀ {u v:Po.Fr},P u->P v->(metP u v).Al P
 | none,_,_,h=>h
 | some _,none,h,_=>h
 | some x,some y,h,g=>by
  show (ahd x.1 y.1 fun b=>.ret (if b then some x else some y)).Al P
  exact ZDt fun b=>(by cases b <;> first | exact h | exact g)
theorem ZC9 {w:Po.W} {a c a' c':Nat} {v:Po.Fr} (h:(w a' c').isSome=true):(Po.put w a c v a' c').isSome=true:=by
 unfold Po.put
 split
 .rfl
 .exact h
theorem put_ix {n:Nat} {w:Po.W} {a c:Nat} {v:Po.Fr} (h:∀ a c x,w a c=some (some x)->x.2 < n) (z:∀ x,v=some x->x.2 < n):∀ a' c' x,Po.put w a c v a' c'=some (some x)->x.2 < n:=fun a' c' x e=>by
 unfold Po.put at e
 split at e
 .exact z x (Option.some.inj e)
 .exact h _ _ x e
theorem ZDo {n:Nat}:∀ (ms:List Po.Mt) (w:Po.W),(∀ a c x,w a c=some (some x)->x.2 < n)->(ZBm ms w).Al fun o=>∀ w',o=some w'->(∀ a c,(w a c).isSome=true->(w' a c).isSome=true) /\ Dw n ms w'
 | [],w,h=>fun w' e=>by cases e;exact ⟨fun _ _ z=>z,⟨fun m hm=>(by cases hm),h⟩⟩
 | m::ms,w,h=>by
  rw [ZBm]
  cases e1:w m.1 m.2.1 with
  | none=>exact fun w' e=>by cases e
  | some u=>
   cases e2:w m.2.1 m.2.2 with
   | none=>exact fun w' e=>by cases e
   | some v=>
    refine Pg.Al.bind ((metP_al2 (P:=fun x=>∀ y,x=some y->y.2 < n) (fun y z=>h _ _ y (by rw [e1,z])) (fun y z=>h _ _ y (by rw [e2,z]))).imp fun x L=>(ZDo ms _ (put_ix h L)).imp fun o g w' e=>?_)
    obtain ⟨J,B⟩:=g w' e
    refine ⟨fun a c z=>J a c (ZC9 z),⟨fun O hm=>?_,B.ix⟩⟩
    rcases yAF.mp hm with z | z
    .rw [z];exact J _ _ (by rw [ZET];rfl)
    .exact B.pr O z
structure PX (c:Ad) (p pl tk ml:Addr) (pls:List Addr):Prop where
 p:p∉c.A
 pl:pl∉c.A
 tk:tk∉c.A
 ml:ml∉c.A
 ls:∀ l∈pls,l∉c.A
noncomputable def ZDf (CA CR CP:Addr):Sp:=fun vs H Q _=>∃ (c:Ad) (pr:List A3) (p pl tk ml wd:Addr) (x y:Nat) (k:Bool->Pg Po.Fr) (post:Po.Fr->List A3->Prop),vs=[.ref p,.int x,.int y] /\ SitR CA CR H c pr /\ Ins H p CP (fP c.a pl tk ml wd) /\ c.n <= 1000 /\ Wp c.n c.an (ahd x y k) pr post /\
 ∀ b H' pr',Fr c.S H H'->SitR CA CR H' c pr'->Wp c.n c.an (k b) pr' post->Q (.bl b) H'
noncomputable def ZFT (CA CR CP:Addr):Sp:=fun vs H Q _=>∃ (c:Ad) (pr:List A3) (p pl tk ml wd:Addr) (u1 u2:V) (one other:Po.Fr) (post:Po.Fr->List A3->Prop),vs=[.ref p,u1,u2] /\ SitR CA CR H c pr /\ Ins H p CP (fP c.a pl tk ml wd) /\ FrV H u1 one /\ FrV H u2 other /\ c.n <= 1000 /\ Wp c.n c.an (metP one other) pr post /\
 ∀ u H' x pr',Fr c.S H H'->SitR CA CR H' c pr'->FrV H' u x->post x pr'->Q u H'
noncomputable def ZD7 (CA CR CP:Addr):Sp:=fun vs H Q _=>∃ (c:Ad) (pr:List A3) (p pl tk ml wd mt wo:Addr) (mvs:List V) (ms:List Po.Mt) (w:Po.W) (B k:Nat) (kvs:List (List Key×V)) (post:Option Po.W->List A3->Prop),vs=[.ref p,.ref mt,.ref wo] /\ SitR CA CR H c pr /\ Ins H p CP (fP c.a pl tk ml wd) /\ p∉c.S /\ mt∉c.S /\ H mt=some (.lst mvs) /\ MsAt H mvs ms /\ ms.length <= 400 /\ (∀ m∈ms,m.1 < 205 /\ m.2.2 <= 500) /\ DT H wo w B kvs /\ B <= 500 /\ (k=1∨k=0 /\ ∀ m∈ms,(w m.1 m.2.2).isSome=true) /\ c.n <= 1000 /\ Wp c.n c.an (ZBm ms w) pr post /\ (∀ pr',¬ post none pr') /\
 ∀ d H' w' kvs' pr',Fr c.S H H'->H d=none->DT H' d w' (B+k * ms.length) kvs'->SitR CA CR H' c pr'->post (some w') pr'->Q (.ref d) H'
noncomputable def ZCt (CA CR CP:Addr):Sp:=fun vs H Q _=>∃ (c:Ad) (pr:List A3) (x dx hl:Addr) (hls:List Addr) (pcs:List (List Nat)) (post:Option Po.W->List A3->Prop),vs=[.ref x,.ref c.a,.ref hl] /\ H x=some (.ins CP dx []) /\ SitR CA CR H c pr /\ H hl=some (.lst (hls.map V.ref)) /\ hls.length=pcs.length /\ (∀ (i:Nat) l ys,hls[i]?=some l->pcs[i]?=some ys->H l=some (.lst (nL ys))) /\ pcs.length <= 200 /\ x∉c.A /\ c.n <= 1000 /\ Wp c.n c.an (ZBm (Po.mts 0 pcs.length) (lvW pcs pcs.length)) pr post /\ (∀ pr',¬ post none pr') /\
 ∀ pl tk ml wd pls w H' kvs pr',(∀ b o,b≠x->b∉c.S->H b=some o->H' b=some o)->PourAt CP H' x c.a pl tk ml wd pls pcs (List.replicate pcs.length 0) w kvs->Dw pcs.length (Po.mts 0 pcs.length) w->(∀ j,j < pcs.length->(w j (j+1)).isSome=true)->(H pl=none /\ H tk=none /\ H ml=none /\ H wd=none /\ ∀ l∈pls,H l=none)->SitR CA CR H' c pr'->post (some w) pr'->Q .non H'
theorem lvW_ix (pcs:List (List Nat)) (k:Nat) (z:k <= pcs.length):∀ a c x,lvW pcs k a c=some (some x)->x.2 < pcs.length:=fun a c x e=>by
 unfold lvW at e
 split at e
 .have:=(ZB4 (Option.some.inj e)).1
  omega
 .cases e
theorem lvW_put (pcs:List (List Nat)) (i:Nat):Po.put (lvW pcs i) i (i+1) (frW pcs (List.replicate pcs.length 0) i)=lvW pcs (i+1):=by
 funext a c
 unfold Po.put lvW
 by_cases h1:a=i /\ c=i+1
 .rw [if_pos h1,if_pos ⟨by omega,by omega⟩,h1.1]
 .rw [if_neg h1]
  by_cases h2:c=a+1 /\ a < i
  .rw [if_pos h2,if_pos ⟨h2.1,by omega⟩]
  .rw [if_neg h2,if_neg (by omega)]
noncomputable def ZEl (CA CR CP:Addr):Sp:=fun vs H Q _=>∃ (c:Ad) (pr:List A3) (p pl tk ml wd:Addr) (pls:List Addr) (pcs:List (List Nat)) (ts:List Nat) (w:Po.W) (kvs:List (List Key×V)),vs=[.ref p] /\ SitR CA CR H c pr /\ PourAt CP H p c.a pl tk ml wd pls pcs ts w kvs /\ PX c p pl tk ml pls /\ Dw pcs.length (Po.mts 0 pcs.length) w /\ (∀ j,j < pcs.length->(w j (j+1)).isSome=true) /\ pcs.length <= 200 /\ c.n <= 1000 /\
 (((pcs.length=0∨w 0 pcs.length=some none) /\ ∀ H',Same H H'->Q .non H')∨∃ (x i:Nat) (post:Option Po.W->List A3->Prop),0 < pcs.length /\ w 0 pcs.length=some (some (x,i)) /\ Wp c.n c.an (ZBm ((Po.mts 0 pcs.length).filter (onW i)) (Po.put w i (i+1) (frW pcs (tkN ts i) i))) pr post /\ (∀ pr',¬ post none pr') /\
 ∀ wd' w' H' kvs' pr',Fr [p,tk,c.a,c.lg,c.tl] H H'->PourAt CP H' p c.a pl tk ml wd' pls pcs (tkN ts i) w' kvs'->Dw pcs.length (Po.mts 0 pcs.length) w'->(∀ j,j < pcs.length->(w' j (j+1)).isSome=true)->SitR CA CR H' c pr'->post (some w') pr'->Q (.int x) H')
structure PL (H:Hp) (hls:List Addr) (pcs:List (List Nat)):Prop where
 len:hls.length=pcs.length
 at':∀ (i:Nat) l ys,hls[i]?=some l->pcs[i]?=some ys->H l=some (.lst (nL ys))
theorem PL.nil {H:Hp}:PL H [] []:=⟨rfl,fun i l ys h=>by simp at h⟩
theorem PL.sl {H:Hp} {z:List Addr} {pcs:List (List Nat)} (h:PL H z pcs) (i d:Nat):PL H ((z.drop i).take d) ((pcs.drop i).take d):=by
 refine ⟨by rw [yBA,yBA,yAU,yAU,h.len],fun j l ys h1 h2=>?_⟩
 have B:j < d:=by have:=(yAR.mp h1).1;rw [yBA] at this;omega
 rw [List.getElem?_take_of_lt B,yCO] at h1 h2
 exact h.at' _ l ys h1 h2
theorem PL.frk {S:List Addr} {H H':Hp} {z:List Addr} {pcs:List (List Nat)} (h:PL H z pcs) (e:Fr S H H') (n:∀ b∈z,b∉S):PL H' z pcs:=⟨h.len,fun i b ys h1 h2=>e _ _ (n b (yAO h1)) (h.at' i b ys h1 h2)⟩
theorem PL.mono {H H':Hp} {z:List Addr} {pcs:List (List Nat)} (h:PL H z pcs) (e:Same H H'):PL H' z pcs:=h.frk (S:=[]) e.fr fun _ _=>yAZ
theorem PL.ex {H:Hp} {B:List Addr} {pcs:List (List Nat)} (h:PL H B pcs) {b:Addr} (L:b∈B):∃ z,H b=some (.lst z):=by
 obtain ⟨j,J,e⟩:=List.getElem_of_mem L
 exact ⟨_,h.at' j b _ (by rw [yAI J,e]) (yAI (show j < pcs.length by rw [<- h.len];exact J))⟩
theorem PL.snoc {H:Hp} {B:List Addr} {pcs:List (List Nat)} {l:Addr} {os:List Nat} (h:PL H B pcs) (hl:H l=some (.lst (nL os))):PL H (B++[l]) (pcs++[os]):=by
 refine ⟨by rw [yAE,yAE,h.len];rfl,fun j b ys h1 h2=>?_⟩
 by_cases z:j < B.length
 .rw [yBD z] at h1
  rw [yBD (by rw [<- h.len];exact z)] at h2
  exact h.at' j b ys h1 h2
 .rw [yBC (by omega)] at h1
  rw [yBC (by rw [<- h.len];omega),<- h.len] at h2
  cases hk:j-B.length with
  | zero=>rw [hk] at h1 h2;cases h1;cases h2;exact hl
  | succ m=>rw [hk] at h1;simp at h1
theorem ZEv {n d:Nat} (z:0 < d):(Builtin.Range.rangeSize ((0:Nat):Int) (n:Int) (d:Int)).toNat=grpN n d:=by
 rw [ZBk (by omega)]
 unfold grpN
 by_cases h:n=0
 .subst h
  rw [if_neg (by omega),Nat.div_eq_of_lt (by omega)];rfl
 .rw [if_pos (by omega)]
  have e:(n:Int)-((0:Nat):Int)-1=((n-1:Nat):Int):=by omega
  have B:(((n-1:Nat):Int) / (d:Int))=(((n-1) / d:Nat):Int):=by rw [Int.natCast_ediv]
  rw [e,B]
  rw [show n+d-1=(n-1)+d by omega,Nat.add_div_right _ z]
  generalize (n-1) / d=t
  omega
theorem ZEa {d n:Nat} (z:0 < d):grpN n d <= n:=by
 unfold grpN
 by_cases h:n=0
 .subst h;rw [Nat.div_eq_of_lt (by omega)];exact yAB _
 .refine Nat.le_of_lt_succ ((Nat.div_lt_iff_lt_mul z).mpr ?_)
  have:(n+1) * d=n * d+d:=yBT ..
  have:n <= n * d:=Nat.le_mul_of_pos_right _ z
  show n+d-1 < (n+1) * d
  omega
theorem cutV_mid {xs:List V} {i d:Nat}:cutV xs (some (i:Int)) (some ((i:Int)+d))=(xs.drop i).take d:=by
 unfold cutV
 rw [show ((i:Int)+d)=((i+d:Nat):Int) by omega,HT.sIx_nat,HT.sIx_nat]
 by_cases h:i <= xs.length
 .rw [yBX h]
  by_cases h2:i+d <= xs.length
  .rw [yBX h2,Nat.add_sub_cancel_left]
  .rw [Nat.min_eq_right (by omega),yCH (by rw [yAU];exact yAB _),yCH (by rw [yAU];omega)]
 .rw [Nat.min_eq_right (by omega),Nat.min_eq_right (by omega),List.drop_of_length_le (yAB _),List.drop_of_length_le (by omega)]
  simp
noncomputable def tot (pcs:List (List Nat)):Nat:=(pcs.map List.length).sum
theorem ZD4 (a b:List (List Nat)):tot (a++b)=tot a+tot b:=by unfold tot;rw [yAL,List.sum_append]
theorem tot_td (l:List (List Nat)) (d:Nat):tot (l.take d)+tot (l.drop d)=tot l:=by rw [<- ZD4,yBO]
theorem tot_mem {p:List Nat}:∀ {l:List (List Nat)},p∈l->p.length <= tot l
 | q::l,h=>by
  show p.length <= q.length+tot l
  rcases yAF.mp h with z | z
  .rw [z];omega
  .have:=tot_mem z;omega
theorem ZFv {α:Type} {P:α->Prop} (h:∀ a,P a):∀ {x:Pg α},x.Al P
 | .ret a=>h a
 | .ask _ _ k=>fun b=>ZFv h
theorem pourP_al2 {pcs:List (List Nat)}:∀ (k:Nat) (ts:List Nat) (w:Po.W) (z:List Nat),(ZDj pcs k ts w z).Al fun o=>∀ os,o=some os->os.length=z.length+k
 | 0,ts,w,z=>fun os e=>by cases e;rfl
 | k+1,ts,w,z=>by
  rw [ZDj]
  split
  .refine Pg.Al.bind (ZFv fun o=>?_)
   cases o with
   | none=>exact fun os e=>by cases e
   | some w'=>
    refine (pourP_al2 k _ w' _).imp fun o h os e=>?_
    rw [h os e,yAE,yBE];omega
  .exact fun os e=>by cases e
theorem pouredP_len (pcs:List (List Nat)):(ZDi pcs).Al fun o=>∀ os,o=some os->os.length=tot pcs:=by
 refine Pg.Al.bind (ZFv fun o=>?_)
 cases o with
 | none=>exact fun os e=>by cases e
 | some w=>exact (pourP_al2 _ _ w []).imp fun o h os e=>by rw [h os e,yBM,Nat.zero_add];rfl
noncomputable def ZDb (CA CR:Addr):Sp:=fun vs H Q _=>∃ (c:Ad) (pr:List A3) (hl:Addr) (hls:List Addr) (pcs:List (List Nat)) (post:Option (List Nat)->List A3->Prop),vs=[.ref c.a,.ref hl] /\ SitR CA CR H c pr /\ H hl=some (.lst (hls.map V.ref)) /\ PL H hls pcs /\ pcs.length <= 200 /\ tot pcs <= 500 /\ c.n <= 1000 /\ Wp c.n c.an (ZDi pcs) pr post /\ (∀ pr',¬ post none pr') /\
 ∀ l H' os pr',Fr c.S H H'->H l=none->H' l=some (.lst (nL os))->SitR CA CR H' c pr'->os.length=tot pcs->post (some os) pr'->Q (.ref l) H'
noncomputable def ZCu (CA CR:Addr):Sp:=fun vs H Q _=>∃ (c:Ad) (pr:List A3) (hl:Addr) (hls:List Addr) (pcs:List (List Nat)) (d:Nat) (post:Option (List (List Nat))->List A3->Prop),vs=[.ref c.a,.ref hl,.int (d:Int)] /\ SitR CA CR H c pr /\ H hl=some (.lst (hls.map V.ref)) /\ PL H hls pcs /\ hl∉c.A /\ (∀ l∈hls,l∉c.A) /\ pcs.length <= 200 /\ tot pcs <= 500 /\ 0 < d /\ d <= 1000 /\ c.n <= 1000 /\ Wp c.n c.an (oneP d (grpN pcs.length d) pcs []) pr post /\ (∀ pr',¬ post none pr') /\
 ∀ l H' ls out pr',Fr c.S H H'->H l=none->H' l=some (.lst (ls.map V.ref))->PL H' ls out->(∀ b∈ls,H b=none)->SitR CA CR H' c pr'->out.length=grpN pcs.length d->tot out=tot pcs->post (some out) pr'->Q (.ref l) H'
noncomputable def ZCH (CA CR:Addr):Sp:=fun vs H Q _=>∃ (c:Ad) (pr:List A3) (hl:Addr) (hls:List Addr) (pcs:List (List Nat)) (d:Nat) (post:Option (List Nat×List Nat)->List A3->Prop),vs=[.ref c.a,.ref hl,.int (d:Int)] /\ SitR CA CR H c pr /\ H hl=some (.lst (hls.map V.ref)) /\ PL H hls pcs /\ pcs.length <= 200 /\ tot pcs <= 500 /\ 2 <= d /\ d <= 1000 /\ c.n <= 1000 /\ Wp c.n c.an (ZBj d pcs.length pcs []) pr post /\ (∀ pr',¬ post none pr') /\
 ∀ t l nm H' r pr',Fr c.S H H'->H t=none->H l=none->H nm=none->H' t=some (.tup [.ref l,.ref nm])->H' l=some (.lst (nL r.1))->H' nm=some (.lst (nL r.2))->SitR CA CR H' c pr'->r.1.length=tot pcs->post (some r) pr'->Q (.ref t) H'
theorem grp_in {n d k:Nat} (z:0 < d) (h:k < grpN n d):k * d < n:=by
 unfold grpN at h
 have:=(Nat.le_div_iff_mul_le z).mp (show k+1 <= (n+d-1) / d from h)
 rw [yBT] at this
 omega
noncomputable def ZBI (CA CR:Addr):Sp:=fun vs H Q _=>∃ (c:Ad) (pr:List A3) (wd d ls:Nat) (post:Option (List Nat)->List A3->Prop),vs=[.ref c.a,.int (wd:Nat),.int (d:Nat),.int (ls:Nat)] /\ SitR CA CR H c pr /\ 0 < wd /\ wd <= 1000 /\ 2 <= d /\ d <= 1000 /\ c.n <= 200 /\ Wp c.n c.an (ZCc grd ls wd d c.n) pr post /\ (∀ pr',¬ post none pr') /\
 ∀ l H' os pr',Fr c.S H H'->H l=none->H' l=some (.lst (nL os))->SitR CA CR H' c pr'->post (some os) pr'->Q (.ref l) H'
noncomputable def ZEk (CA CR:Addr):Sp:=fun vs H Q _=>∃ (c:Ad) (pr:List A3) (wd d ls wy:Nat) (post:Option (List Nat)->List A3->Prop),vs=[.ref c.a,.int (wd:Nat),.int (d:Nat),.int (ls:Nat),.int (wy:Nat)] /\ ((wy=0 /\ d=2 /\ ls=1)∨(wy=1 /\ ls=1)∨wy=2) /\ SitR CA CR H c pr /\ 0 < wd /\ wd <= 1000 /\ 2 <= d /\ d <= 1000 /\ c.n <= 200 /\ Wp c.n c.an (ZCc grd ls wd d c.n) pr post /\ (∀ pr',¬ post none pr') /\
 ∀ l H' os pr',Fr c.S H H'->H l=none->H' l=some (.lst (nL os))->SitR CA CR H' c pr'->post (some os) pr'->Q (.ref l) H'
theorem ZFF {a lg tl b:Addr} (n1:b≠a) (n2:b≠lg) (B:b≠tl):b∉[a,lg,tl]:=fun z=>by
 rcases yAF.mp z with z | z
 .exact n1 z
 rcases yAF.mp z with z | z
 .exact n2 z
 .exact B (yAH.mp z)
noncomputable def a3D (e:A3):PyData:=.tuple [.int e.1,.int e.2.1,.bool e.2.2]
theorem a3_lay:∀ ts:List A3,PyData.canLayAll0 (ts.map a3D)=true
 | []=>rfl
 | t::r=>by
  rw [yAS]
  show (PyData.canLay0 (a3D t) && PyData.canLayAll0 (r.map a3D))=true
  rw [a3_lay r];rfl
theorem a3_dep:∀ ts:List A3,PyData.depthAll (ts.map a3D) <= 1
 | []=>yAJ _
 | t::r=>by
  rw [yAS]
  show max (PyData.depth (a3D t)) (PyData.depthAll (r.map a3D)) <= 1
  have:=a3_dep r
  have:PyData.depth (a3D t)=1:=rfl
  omega
theorem a3_dep2 (ts:List A3):(PyData.list (ts.map a3D)).depth <= 64:=by
 show PyData.depthAll _+1 <= 64
 have:=a3_dep ts
 omega
theorem no_lay:∀ os:List Nat,PyData.canLayAll0 (os.map fun (x:Nat)=>PyData.int (x:Int))=true
 | []=>rfl
 | t::r=>by
  rw [yAS]
  show (true && PyData.canLayAll0 _)=true
  rw [no_lay r];rfl
theorem no_dep:∀ os:List Nat,PyData.depthAll (os.map fun (x:Nat)=>PyData.int (x:Int))=0
 | []=>rfl
 | t::r=>by
  rw [yAS]
  show max 0 (PyData.depthAll _)=0
  rw [no_dep r];rfl
theorem ToldO.dp {K:W.Frag} {H:Hp}:∀ {pr:List A3} {ts:List V},ToldO H pr ts->DpAll K H (pr.map a3D) ts
 | [],ts,h=>by
  have:ts=[]:=yBZ.mp h.len
  subst this
  exact .nil
 | c::r,[],h=>by have:=h.len;cases this
 | (p,q,b)::r,v::ts,h=>by
  obtain ⟨t,a,O⟩:=h.get 0 p q b rfl
  have L:v=.ref t:=Option.some.inj a
  subst L
  refine .cons (dp_tup (SqT.of O) (.cons (ZFt _) (.cons (ZFt _) (.cons (dp_bl _) .nil)))) (ToldO.dp ⟨Nat.succ.inj h.len,fun j J q' b' B=>?_⟩)
  obtain ⟨t',a',z⟩:=h.get (j+1) J q' b' B
  exact ⟨t',a',z⟩
theorem ZGF {K:W.Frag} {H:Hp}:∀ os:List Nat,DpAll K H (os.map fun (x:Nat)=>PyData.int (x:Int)) (nL os)
 | []=>.nil
 | _::r=>.cons (ZFt _) (ZGF r)
noncomputable def Adj (os:List Nat) (pr:List (Nat×Nat)):Prop:=∀ (i x y:Nat),os[i]?=some x->os[i+1]?=some y->(max x y,min x y)∈pr
noncomputable def Things (H:Hp) (ks:List Int) (xs:List V):Prop:=xs.length=ks.length /\ ∀ (i:Nat) k,ks[i]?=some k->∃ r,xs[i]?=some (V.ref r) /\ H r=some (.tup [.int k,.int i])
noncomputable def ZEj:Sp:=fun vs H Q _=>∃ i:Int,vs=[.int i] /\ Q (.bl true) H
theorem cutV_tail (xs:List V):cutV xs (some 1) none=xs.drop 1:=by
 unfold cutV
 rw [HT.sIx_none,show (some (1:Int))=some ((1:Nat):Int) from rfl,HT.sIx_nat]
 cases xs with
 | nil=>rfl
 | cons x r=>
  rw [show min 1 (x::r).length=1 by rw [yAG];omega]
  exact yCH (by rw [yAU];exact yAB _)
noncomputable def ZDe:Sp:=fun vs H Q _=>∃ (ol ky:Addr) (os:List Nat) (ks:List Int),vs=[.ref ol,.ref ky,.int os.length] /\ H ol=some (.lst (nL os)) /\ H ky=some (.lst (ks.map V.int)) /\ (∀ x∈os,x < ks.length) /\ (∀ (i x y:Nat),os[i]?=some x->os[i+1]?=some y->HT.lexLt [kat ks x,(x:Int)] [kat ks y,(y:Int)]=true) /\ ∀ H',Same H H'->Q (.bl true) H'
noncomputable def ZEo:Sp:=fun vs H Q _=>∃ (ol lg:Addr) (os:List Nat) (ks:List Int) (pr:List (Nat×Nat)) (ws:List V),vs=[.ref ol,.ref lg] /\ H ol=some (.lst (nL os)) /\ H lg=some (.lst ws) /\ Told H ks pr ws /\ (∀ c∈pr,c.2 < c.1) /\ Adj os pr /\ pr.length <= 800000 /\ ∀ H',Same H H'->Q (.bl true) H'
noncomputable abbrev kP (p q:Nat):List Key:=[Sum.inl (p:Int),Sum.inl (q:Int)]
theorem lexLt_two {a b c d:Int}:HT.lexLt [a,b] [c,d]=true↔a < c∨(a=c /\ b < d):=by
 rw [HT.lexLt_cons,HT.lexLt_cons,HT.lexLt_nil_nil]
 by_cases h:a=c
 .rw [if_pos h]
  by_cases h2:b=d
  .rw [if_pos h2];constructor
   .intro z;cases z
   .intro z;omega
  .rw [if_neg h2,decide_eq_true_eq];omega
 .rw [if_neg h,decide_eq_true_eq];omega
noncomputable def anK (ks:List Int) (_ p q:Nat):Bool:=decide (kat ks p < kat ks q)
noncomputable def besP (ls wd d N:Nat):Pg (Option (List Nat×List Nat)):=(ZEe grd ls wd N).bind fun pcs=>ZBj d pcs.length pcs []
theorem besP_al {n ls wd d:Nat} {pr:List A3} (hw:0 < wd) (O:2 <= d) (z:d <= 9) (hn:n <= 120) (c:pr.length <= 400000):Wa n (besP ls wd d n) pr fun o pr'=>∃ r,o=some r:=by
 refine Wa.bind ((allPcs_al hw hn (by omega)).imp fun pcs pr1 h=>?_)
 obtain ⟨B,L,J,U,Y⟩:=h
 have hl:=L.length_eq
 rw [yCA] at hl
 exact (ZDN O z pcs.length pcs [] pr1 B (by omega) (by omega) J (by omega)).imp fun o pr2 h=>⟨_,h.choose_spec.1⟩
noncomputable def runP66 (ks:List Int) (ls wd d:Nat):Option (List Nat)×List A3:=(ZCc grd ls wd d ks.length).run (anK ks) 0
theorem run_fin {α z:Type} {An:Nat->Nat->Nat->Bool} {x:Pg α} {f:α->Pg z} (h:∀ a k,((f a).run An k).2=[]) (k:Nat):((x.bind f).run An k).2=(x.run An k).2:=by
 rw [ZDU]
 dsimp only
 rw [h,yAY]
theorem bes_log (ks:List Int) (ls wd d:Nat):((besP ls wd d ks.length).run (anK ks) 0).2=(runP66 ks ls wd d).2:=by
 unfold runP66 ZCc besP
 rw [ZDU,ZDU]
 dsimp only
 congr 1
 exact (run_fin (fun o k=>by cases o <;> rfl) _).symm
theorem wa_lt {α:Type} {n:Nat} {An:Nat->Nat->Nat->Bool} {P:α->List A3->Prop}:∀ {x:Pg α} {pr:List A3} (k:Nat),Wa n x pr P->∀ e∈(x.run An k).2,e.2.1 < e.1
 | .ret a,pr,k,h,e,he=>by cases he
 | .ask p q f,pr,k,h,e,he=>by
  rw [Pg.run] at he
  rcases yAF.mp he with z | z
  .rw [z];exact h.1
  .exact wa_lt (k+1) (h.2.2.2 _) e z
structure Or66 (ks:List Int) (os:List Nat) (L:List A3):Prop where
 perm:os.Perm (List.range' 0 ks.length)
 nt:Nt L os
 len:L.length <= 320000
 lt:∀ e∈L,e.2.1 < e.1
 an:∀ e∈L,e.2.2=decide (kat ks e.1 < kat ks e.2.1)
theorem or66 {ks:List Int} {ls wd d:Nat} (hw:0 < wd) (L:2 <= d) (J:d <= 9) (hn:ks.length <= 120):∃ os,(runP66 ks ls wd d).1=some os /\ Or66 ks os (runP66 ks ls wd d).2:=by
 have h:=byPcsP_al (G:=grd) (ls:=ls) (n:=ks.length) (pr:=[]) hw L J hn (by simp)
 have O:=run_post (anK ks) h
 obtain ⟨os,e,h1,h2,_,B⟩:=O
 have B:(runP66 ks ls wd d).2.length <= 320000:=by
  show (Pg.run (anK ks) 0 (ZCc grd ls wd d ks.length)).2.length <= 320000
  simpa using B
 refine ⟨os,e,h1,h2,B,fun e z=>wa_lt 0 h e z,fun e z=>?_⟩
 obtain ⟨i,hi⟩:=yCN z
 exact run_an _ 0 i e hi
theorem Or66.adj {ks:List Int} {os:List Nat} {L:List A3} (h:Or66 ks os L):Adj os (L.map fun e=>(e.1,e.2.1)):=fun i x y B z=>by
 obtain ⟨b,h1,_⟩:=h.nt.at B z
 exact yBN.mpr ⟨_,h1,rfl⟩
theorem Or66.in {ks:List Int} {os:List Nat} {L:List A3} (h:Or66 ks os L):∀ x∈os,x < ks.length:=fun x z=>by
 have:=List.mem_range'_1.mp (h.perm.mem_iff.mp z)
 omega
theorem Or66.ord {ks:List Int} {os:List Nat} {L:List A3} (h:Or66 ks os L):∀ (i x y:Nat),os[i]?=some x->os[i+1]?=some y->HT.lexLt [kat ks x,(x:Int)] [kat ks y,(y:Int)]=true:=fun i x y U Y=>by
 obtain ⟨b,h1,h2⟩:=h.nt.at U Y
 have B:=h.an _ h1
 dsimp only at B
 have a0:x≠y:=fun e=>by
  have O:=h.perm.nodup_iff.mpr List.nodup_range'
  obtain ⟨Z,a2⟩:=yAR.mp U
  obtain ⟨b1,b2⟩:=yAR.mp Y
  have:=List.pairwise_iff_getElem.mp O i (i+1) Z b1 (yBQ _)
  rw [a2,b2] at this
  exact this e
 rw [lexLt_two]
 by_cases c:y < x
 .rw [if_pos c] at h2
  rw [h2,show max x y=x by omega,show min x y=y by omega] at B
  exact .inl (of_decide_eq_true B.symm)
 .rw [if_neg c] at h2
  have J:b=false:=by cases b <;> first | rfl | cases h2
  rw [J,show max x y=y by omega,show min x y=x by omega] at B
  have:=of_decide_eq_false B.symm
  rcases Int.lt_or_le (kat ks x) (kat ks y) with z | z
  .exact .inl z
  .exact .inr ⟨by omega,by omega⟩
theorem ToldO.told {H:Hp} {ks:List Int} {L:List A3} {ws:List V} (h:ToldO H L ws) (an:∀ e∈L,e.2.2=decide (kat ks e.1 < kat ks e.2.1)):Told H ks (L.map fun e=>(e.1,e.2.1)) ws:=by
 refine ⟨by rw [h.len,yAA],fun j p q z=>?_⟩
 rw [yAM] at z
 obtain ⟨e,h1,h2⟩:=yBP.mp z
 obtain ⟨U,q',b⟩:=e
 dsimp only at h2
 have O:U=p:=congrArg Prod.fst h2
 have B:q'=q:=congrArg Prod.snd h2
 rw [O,B] at h1
 have:=an _ (yAO h1)
 dsimp only at this
 obtain ⟨t,J,Y⟩:=h.get j p q b h1
 exact ⟨t,J,by rw [<- this];exact Y⟩
noncomputable def ZDJ (Pt:Addr):Sp:=fun vs H Q _=>∃ (ky:Addr) (ks:List Int) (wd d ls:Nat),vs=[.ref ky,.int (wd:Nat),.int (d:Nat),.int (ls:Nat)] /\ TabSt H Pt (ZCa ZAN) "_law_teller.<locals>._law_teller_here" /\ H ky=some (.lst (ks.map V.int)) /\ ks.length <= 119 /\ 0 < wd /\ wd <= 1000 /\ 2 <= d /\ d <= 9 /\
 ∀ l H' ws,(∀ b o,b≠Pt->H b=some o->H' b=some o)->TabSt H' Pt (ZCa ZAN) "_law_teller.<locals>._law_teller_here"->H' l=some (.lst ws)->ToldO H' (runP66 ks ls wd d).2 ws->Q (.ref l) H'
section
variable {P:Program} {w:World} {K:W.Frag} {mg:Str->Option Value} {base:Heap} {C_Join C_Pile C_Pour C_Asker C_AskedRule:Addr} {cc_teller Pt_teller:Addr}
theorem ok_teller {f:Addr} {fd:FuncData} (F:Fun K "_law_teller" "_law_teller" ZCK f fd) (z:fd.code=.ref cc_teller) (C:PySem.W.CodeHd base cc_teller Pt_teller) (B:ZEg mg base):FnOk P w K mg base CX0 1 f fd ["_law_log"] (ZEP Pt_teller (ZCa ZAN) "_law_teller_here" "_law_teller.<locals>._law_teller_here" (ZAM ZAN) (ZAL ZAN) (ZAC ZAN) ["_law_log"] [0] 1) :=
 teller_ok F sc_teller z C B rfl (fun _ _=>rfl) rfl rfl (fun _ _=>rfl) rfl (by decide) (by decide) (by decide +kernel) (by decide +kernel) (by decide +kernel) (hix_of rfl) rfl
theorem clo_teller (T:Bt K mg C_Join C_Pile C_Pour C_Asker C_AskedRule):CloOk P w K mg base 1 (ZBS):=by
 refine clo_of (k:=0) (iname:="_law_teller_here") (iq:="_law_teller.<locals>._law_teller_here") (ip:=ZAM ZAN) (ib:=ZAL ZAN) (isc:=ZAC ZAN) csc_teller (fun f vs H Q h=>?_) (fun f vs H Q h=>?_) (fun cl a2 pm a3 c' us hl=>match us,hl with | [_,_],_=>rfl) (fun g cs cl cd A outer s H vs Q hr C h=>?_)
 .obtain ⟨g,x,y,lg,k,k2,i,j,ws,rfl,rfl,B,hx,hy,L,O,q⟩:=h
  exact ⟨_,_,rfl,B⟩
 .obtain ⟨g,x,y,lg,k,k2,i,j,ws,rfl,rfl,B,hx,hy,L,O,q⟩:=h
  rfl
 obtain ⟨g,x,y,lg,k,k2,i,j,ws,eg,rfl,B,hx,hy,L,O,q⟩:=h
 cases eg
 obtain ⟨a1,C2⟩:=B
 obtain rfl:=C.inj' C2
 refine ⟨_,(ZAB (ZAO (i:=2) csc_teller.nd rfl (by walk_at "o") (ZDk ZDP (ZAm ZBG (pv 0) ZAG (fun _ _=>rfl)) (ZAm ZBG (pv 1) ZAG (fun _ _=>rfl)) (ZAY _)))
  (ZAB (ZAk (ZCU PySem.F.plainAttrs_list PySem.F.slot_list_append PySem.F.type_list_append ZBV (pv 3) (ZAA (ZA3 (ZAA (ZAm ZBG (pv 0) ZAG (fun _ _=>rfl)) (ZAA (ZAm ZBG (pv 1) ZAG (fun _ _=>rfl)) (ZAA (pv 2) ZAD)))) ZAD)))
  (ZAH (ZAS (pv 2))))),?_⟩
 walk_at "rd"
 have cells:=C.cells
 have U:hid cl H x=some (.tup [.int k,.int i]):=ZCO cells hx (by intro ob z;cases z)
 have Y:hid cl H y=some (.tup [.int k2,.int j]):=ZCO cells hy (by intro ob z;cases z)
 have J:hid cl H lg=some (.lst ws):=ZCO cells L (by intro ob z;cases z)
 refine ZA9 (SqT.of U) (ZAl (by decide) rfl) (ZA9 (SqT.of Y) (ZAl (by decide) rfl) ⟨_,_,rfl,rfl,.inl ⟨rfl,_,SqL.of J⟩,ZA9 (SqT.of U) (ZAl (by decide) rfl) (ZA9 (SqT.of Y) (ZAl (by decide) rfl) ⟨ZAU (by decide),fun t Z=>?_⟩)⟩)
 have a0:t≠lg:=fun z=>by rw [z,J] at Z;cases Z
 refine ⟨lg,ws,_,rfl,rfl,ZAK Z _ _ _ J,ZFY (by omega),fun hn=>?_⟩
 have nt:=hn.ne (b:=t) (by rw [ZAI a0,ZAF])
 have nl:=hn.ne (b:=lg) ZAF
 rw [back_upd nl,back_upd nt,back_hid]
 exact q t (hid_none cells Z nt)
theorem ok_Asker_init {f:Addr} {fd:FuncData} {dv:List Value} (F:FunD K "__init__" "Asker.__init__" ZBO f fd dv) (T:Bt K mg C_Join C_Pile C_Pour C_Asker C_AskedRule)
 :FnOk P w K mg base CX0 1 f fd ["self","row","rule","most"] (ZCJ C_Asker):=by
 refine F.ok sc_Asker_init (fun vs H Q E h=>?_) (fun a0 A outer s H vs Q E hr h=>?_)
 .obtain ⟨x,dx,r,ru,m,xs,rfl,U,O,q⟩:=h
  rfl
 obtain ⟨x,dx,r,ru,m,xs,rfl,U,O,q⟩:=h
 refine ⟨_,(ZAB (ZA1 (pv 0) (ZA0 ZBP rfl T.b_list PyProof.Rows.boot_list (ZAA (pv 1) ZAD)) rfl)
  (ZAB (ZA1 (pv 0) (pv 2) rfl)
  (ZAB (ZA1 (pv 0) (pv 3) rfl)
  (ZAB (ZA1 (pv 0) ZAG rfl)
  (ZAH (ZA1 (pv 0) (ZBF ZAD) rfl)))))),?_⟩
 walk_at "rd"
 refine ⟨r,xs,rfl,.inl (SqL.of O),fun rl J=>?_⟩
 have z:x≠rl:=ZAE U J
 obtain ⟨H1,e1,s1,h1⟩:=newH J (.lst xs)
 rw [e1];clear e1
 refine setX (s1 _ _ U) T.cl_Asker T.n_Asker_row (by decide) fun H2 x2 k2=>?_
 walk_at "rd"
 refine setX x2 T.cl_Asker T.n_Asker_rule ZFb fun H3 x3 k3=>?_
 walk_at "rd"
 refine setX x3 T.cl_Asker T.n_Asker_most ZFE fun H4 x4 k4=>?_
 walk_at "rd"
 refine setX x4 T.cl_Asker T.n_Asker_asked ZFD fun H5 x5 k5=>?_
 walk_at "rd"
 refine ⟨ZAU (by decide),fun tl B=>?_⟩
 obtain ⟨H6,e6,Y,h6⟩:=newH B (.lst [])
 rw [e6];clear e6
 have L:x≠tl:=ZAE x5 B
 refine setX (Y _ _ x5) T.cl_Asker T.n_Asker_told ZFy fun H7 x7 Z=>?_
 have up:∀ b o,b≠x->H b=some o->H5 b=some o:=fun b o n e=>by rw [k5 b n,k4 b n,k3 b n,k2 b n];exact s1 b o e
 have h5:H5 rl=some (.lst xs):=by rw [k5 rl (Ne.symm z),k4 rl (Ne.symm z),k3 rl (Ne.symm z),k2 rl (Ne.symm z)];exact h1
 refine q rl tl H7 (fun b o n e=>by rw [Z b n];exact Y _ _ (up b o n e)) J ?_ (ZAE h5 B) ((Ins.of x7 (yAK ZGC (by decide))).congr fA_canon) (by rw [Z rl (Ne.symm z)];exact Y _ _ h5) (by rw [Z tl (Ne.symm L)];exact h6)
 cases e:H tl with
 | none=>rfl
 | some o=>rw [up tl o (Ne.symm L) e] at B;cases B
theorem ok_Asker_many {f:Addr} {fd:FuncData} (F:Fun K "many" "Asker.many" ZBN f fd) (T:Bt K mg C_Join C_Pile C_Pour C_Asker C_AskedRule)
 :FnOk P w K mg base CX0 1 f fd ["self"] (ZDx C_Asker):=by
 refine F.ok sc_Asker_many (fun vs H Q E h=>?_) (fun B A outer s H vs Q E L h=>?_)
 .obtain ⟨a,rl,J,tl,m,n,xs,rfl,ha,z,q⟩:=h
  rfl
 obtain ⟨a,rl,J,tl,m,n,xs,rfl,ha,z,q⟩:=h
 refine ⟨_,(ZAH (ZAS (ZAP ZAJ rfl T.b_len PySem.boot_len (ZAA (ZAQ (pv 0) rfl) ZAD)))),?_⟩
 walk_at "rd"
 refine ha.get T.cl_Asker T.n_Asker_row (by walk_at "lk") ⟨rl,xs,rfl,.inl (SqL.of z),q⟩
theorem ok_AskedRule_init {f:Addr} {fd:FuncData} (F:Fun K "__init__" "AskedRule.__init__" ZAv f fd) (T:Bt K mg C_Join C_Pile C_Pour C_Asker C_AskedRule)
 :FnOk P w K mg base CX0 1 f fd ["self","teller"] (ZCe C_AskedRule):=by
 refine F.ok sc_AskedRule_init (fun vs H Q E h=>?_) (fun J A outer s H vs Q E O h=>?_)
 .obtain ⟨x,dx,g,rfl,z,q⟩:=h
  rfl
 obtain ⟨x,dx,g,rfl,z,q⟩:=h
 refine ⟨_,(ZAH (ZA1 (pv 0) (pv 1) rfl)),?_⟩
 walk_at "rd"
 refine setX z T.cl_AskedRule T.n_AskedRule_teller (by decide) fun H2 B L=>?_
 exact q H2 (fun b o n e=>by rw [L b n];exact e) ((Ins.of B (yAK ZFb (by decide))).congr fun f=>by simp only [ZAa,lkc])
theorem ok_AskedRule_before {f:Addr} {fd:FuncData} (F:Fun K "before" "AskedRule.before" ZAn f fd) (T:Bt K mg C_Join C_Pile C_Pour C_Asker C_AskedRule)
  (clo_teller:CloOk P w K mg base 1 (ZBS))
 :FnOk P w K mg base CX0 2 f fd ["self","x","y"] (ZDT C_AskedRule ZBS):=by
 refine F.ok sc_AskedRule_before (fun vs H Q E h=>?_) (fun O A outer s H vs Q E L h=>?_)
 .obtain ⟨U,g,x,y,rfl,z,⟨o,J,B⟩,q⟩:=h
  rfl
 obtain ⟨U,g,x,y,rfl,z,⟨o,J,B⟩,q⟩:=h
 refine ⟨_,(ZAB (ZAO (i:=3) sc_AskedRule_before.nd rfl (by walk_at "o") (ZAQ (pv 0) rfl))
  (ZAH (ZAS (pe_callV (clo_teller.at (L.mono (by decide))) (pv 3) (ZAA (pv 1) (ZAA (pv 2) ZAD)))))),?_⟩
 walk_at "rd"
 refine z.get T.cl_AskedRule T.n_AskedRule_teller (by walk_at "lk") ⟨⟨g,o,rfl,J,B⟩,?_⟩
 exact q
theorem ok_Asker_ahead {f:Addr} {fd:FuncData} (F:Fun K "ahead" "Asker.ahead" ZBB f fd) (T:Bt K mg C_Join C_Pile C_Pour C_Asker C_AskedRule)
  (B:Mt P w K mg base CX0 C_AskedRule "before" 2 ["self","x","y"] (ZDT C_AskedRule ZBS))
 :FnOk P w K mg base CX0 3 f fd ["self","p","q"] (ZCV C_Asker C_AskedRule ZBS):=by
 refine F.ok sc_Asker_ahead (fun vs H Q E h=>?_) (fun a8 A outer s H vs Q E hr h=>?_)
 .obtain ⟨a,rl,ru,tl,n,p,q,xs,ts,x,y,rfl,ha,Y,a3,a6,a4,hx,hy,hb⟩:=h
  rfl
 obtain ⟨a,rl,ru,tl,n,p,q,xs,ts,x,y,rfl,ha,Y,a3,a6,a4,hx,hy,hb⟩:=h
 refine ⟨_,(ZAB (ZBC (PW.pt (ZER (ZAT op_notN (ZAQ (pv 0) rfl) ZCD (ZAY _)) (ZDh (ZAT ZGE (ZAQ (pv 0) rfl) (ZAQ (pv 0) rfl) (ZAY _)))))
  (ZAH (ps_never)) ZAe)
  (ZAW
  (ZAB (ZAO (i:=3) sc_Asker_ahead.nd rfl (by walk_at "o") (ZAP (ZDr rfl) rfl T.b_max PyProof.Rows.boot_max (ZAA (pv 1) (ZAA (pv 2) ZAD))))
  (ZAB (ZAO (i:=4) sc_Asker_ahead.nd rfl (by walk_at "o") (ZAP (ZBx rfl) rfl T.b_min PyProof.Rows.boot_min (ZAA (pv 1) (ZAA (pv 2) ZAD))))
  (ZAB (ZAO (i:=5) sc_Asker_ahead.nd rfl (by walk_at "o") (ZBJ B (hr.mono (by decide)) ZAV (ZAQ (pv 0) rfl) (ZAA (ZAm ZAg (ZAQ (pv 0) rfl) (pv 3) (fun _ _=>rfl)) (ZAA (ZAm ZAg (ZAQ (pv 0) rfl) (pv 4) (fun _ _=>rfl)) ZAD))))
  (ZAW
  (ZAB (ps_fldaug (pv 0) ZAG in_add)
  (ZAB (ZAk (ZCU PySem.F.plainAttrs_list PySem.F.slot_list_append PySem.F.type_list_append ZBV (ZAQ (pv 0) rfl) (ZAA (ZA3 (ZAA (pv 3) (ZAA (pv 4) (ZAA (pv 5) ZAD)))) ZAD)))
  (ZAH (ZAS (ZBD (ZAT ZCX (pv 1) (pv 3) (ZAY _)) (pv 5) (pe_not (pv 5))))))))))))),?_⟩
 walk_at "rd"
 obtain ⟨aa,g,x',y',e,a0,ho,a5⟩:=hb
 cases e
 refine ha.get T.cl_Asker T.n_Asker_most (by walk_at "lk") ?_
 rw [if_neg (by simp)]
 refine ZAc ?_
 walk_at "rd"
 refine ⟨p,q,rfl,p,q,rfl,ha.get T.cl_Asker T.n_Asker_rule (by walk_at "lk") (a0.meth (by walk_at "lk") ?_)⟩
 rw [ZGG,ZEX]
 refine ha.get T.cl_Asker T.n_Asker_row (by walk_at "lk") (ZAs (SqL.of Y) (ZAl (by omega) hx) ?_)
 refine ha.get T.cl_Asker T.n_Asker_row (by walk_at "lk") (ZAs (SqL.of Y) (ZAl (by omega) hy) ?_)
 refine ⟨ru,g,x,y,rfl,a0,ho,rT_mono (fun v H1 h=>?_) a5⟩
 obtain ⟨b,rfl,a1,O,a9,hq⟩:=h
 have Z:tl≠a:=a1.ne O fun _ _ _ z=>by cases z
 refine ZAc ?_
 walk_at "rd"
 refine a1.aug T.cl_Asker T.n_Asker_asked (by walk_at "lk") fun H2 a2 k2=>?_
 have L:=a2.congr fA_asked
 have J:H2 tl=some (.lst ts):=by rw [k2 tl Z];exact O
 walk_at "rd"
 refine L.get T.cl_Asker T.n_Asker_told (by walk_at "lk") ?_
 walk_at "rd"
 refine ⟨.inl ⟨rfl,_,SqL.of J⟩,ZAU (by decide),fun t ht=>?_⟩
 have a7:t≠tl:=fun z=>by rw [z,J] at ht;cases ht
 have U:t≠a:=L.neN ht
 refine ⟨tl,ts,_,rfl,rfl,ZAK ht _ _ _ J,ZFY (by omega),?_⟩
 have fin:=hq t (upd (upd H2 t (.tup [.int (max p q),.int (min p q),.bl b])) tl (.lst (ts++[.ref t]))) (by rw [<- k2 t U];exact ht) (L.keep (by rw [ZAI (Ne.symm Z),ZAI (Ne.symm U)])) ZAF (by rw [ZAI a7,ZAF]) (fun c h1 h2 h3=>by rw [ZAI h2,ZAI h3,k2 c h1])
 by_cases hlt:q < p
 .rw [if_pos hlt] at fin
  show (if _ then _ else _)
  rw [if_pos (by omega)]
  exact fin
 .rw [if_neg hlt] at fin
  show (if _ then _ else _)
  rw [if_neg (by omega)]
  exact fin
theorem ok_stretch_from {f:Addr} {fd:FuncData} {dv:List Value} (F:FunD K "stretch_from" "stretch_from" ZA4 f fd dv) (T:Bt K mg C_Join C_Pile C_Pour C_Asker C_AskedRule)
  (z:Mt P w K mg base CX0 C_Asker "ahead" 3 ["self","p","q"] (ZCV C_Asker C_AskedRule ZBS))
  (B:Mt P w K mg base CX0 C_Asker "many" 1 ["self"] (ZDx C_Asker))
 :FnOk P w K mg base CX0 4 f fd ["asker","first","end"] (ZFS C_Asker C_AskedRule):=by
 refine F.ok sc_stretch_from (fun vs H Q E h=>?_) (fun a0 A outer s H vs Q E O h=>?_)
 .obtain ⟨c,pr,first,stop,post,rfl,st,U,w,q⟩:=h
  rfl
 obtain ⟨c,pr,first,stop,post,rfl,st,U,w,q⟩:=h
 refine ⟨_,(ZAB (ZAO (i:=3) sc_stretch_from.nd rfl (by walk_at "o") (ZBD (ZAT ZDS (pv 2) ZCD (ZAY _)) (ZCS B (O.mono (by decide)) ZAV (pv 0)) (pv 2)))
  (ZAW
  (ZAB (ZAO (i:=4) sc_stretch_from.nd rfl (by walk_at "o") (ZAR ZAh (pv 1) ZAG))
  (ZAB (ZBC (ZAT ZGE (pv 4) (pv 3) (ZAY _))
  (ZAH (ZAS (ZA3 (ZAA (pv 4) (ZAA ZDl ZAD))))) ZAe)
  (ZAB (ZAO (i:=5) sc_stretch_from.nd rfl (by walk_at "o") (ZBJ z (O.mono (by decide)) ZAV (pv 0) (ZAA (pv 4) (ZAA (pv 1) ZAD))))
  (ZAB (ZE6 (i:=4) sc_stretch_from.nd rfl (by walk_at "o") ZAG ZE9)
  (ZAB (ZB1 PassesOwn.never (PW.pt (ZER (ZAT ZDP (pv 4) (pv 3) (ZAY _)) (ZDh (ZAT ZCX (ZBJ z (O.mono (by decide)) ZAV (pv 0) (ZAA (pv 4) (ZAA (ZAR ZBW (pv 4) ZAG) ZAD))) (pv 5) (ZAY _)))))
  (ZAH (ZE6 (i:=4) sc_stretch_from.nd rfl (by walk_at "o") ZAG ZE9)))
  (ZAH (ZAS (ZA3 (ZAA (pv 4) (ZAA (pv 5) ZAD)))))))))))),?_⟩
 walk_at "rd"
 rw [if_neg (by simp)]
 walk_at "rd"
 refine ZAc ?_
 walk_at "rd"
 unfold strP at w
 by_cases h1:first+1 < stop
 .rw [if_pos h1] at w
  rw [if_neg (by omega)]
  refine st.ha.meth (by walk_at "lk") ?_
  rw [show ((first:Int)+1)=((first+1:Nat):Int) by omega]
  refine st.ahead U w fun b H1 pr1 f1 s1 w1=>?_
  refine ZBy (fun m σ H'=>∃ (k n:Nat) (Y:Option V) (pr':List A3),m=stop-k /\ σ=[some (.ref c.a),some (.int first),Y,some (.int (stop:Nat)),some (.int k),some (.bl b)] /\ first+1 < k /\ stop <= k+n /\ Fr c.S H H' /\ SitR C_Asker C_AskedRule H' c pr' /\ Wp c.n c.an (runP stop b n k) pr' post) ⟨_,first+2,_,_,_,rfl,rfl,by omega,by omega,f1,s1,w1⟩ ?_
  rintro m σ H' ⟨k,n,Y,pr',rfl,rfl,a1,hn,fr,s,w⟩
  walk_at "rd"
  by_cases hks:k < stop
  .rw [if_pos (by omega)]
   obtain ⟨n,rfl⟩:∃ n',n=n' + 1:=⟨n-1,by omega⟩
   rw [runP,if_pos hks] at w
   refine s.ha.meth (by walk_at "lk") ?_
   rw [show ((k:Int)-1)=((k-1:Nat):Int) by omega]
   refine s.ahead U w fun d H2 pr2 Z s2 L=>?_
   walk_at "rd"
   by_cases hd:d=b
   .rw [if_pos hd]
    rw [if_pos hd] at L
    refine ZBz ?_
    walk_at "rd"
    exact ⟨stop-(k+1),by omega,k+1,n,_,_,rfl,by rw [show ((k:Int)+1)=((k+1:Nat):Int) by omega],by omega,by omega,fr.trans Z,s2,L⟩
   .rw [if_neg hd]
    rw [if_neg hd] at L
    exact ⟨ZAU (by decide),fun t J=>q t _ (k,b) _ (fr.trans (Z.trans (ZAK J _).fr)) (s2.mono (ZAK J _)) ZAF L⟩
  .rw [if_neg (by omega)]
   walk_at "rd"
   refine ⟨ZAU (by decide),fun t J=>q t _ (k,b) _ (fr.trans (ZAK J _).fr) (s.mono (ZAK J _)) ZAF ?_⟩
   cases n with
   | zero=>exact w
   | succ n=>rw [runP,if_neg hks] at w;exact w
 .rw [if_neg h1] at w
  rw [if_pos (by omega)]
  exact ⟨ZAU (by decide),fun t J=>q t _ (first+1,false) _ (ZAK J _).fr (st.mono (ZAK J _)) ZAF w⟩
theorem ok_in_turn {f:Addr} {fd:FuncData} (F:Fun K "in_turn" "in_turn" ZB9 f fd) (T:Bt K mg C_Join C_Pile C_Pour C_Asker C_AskedRule)
 :FnOk P w K mg base CX0 1 f fd ["first","beyond","falling"] (ZD6):=by
 refine F.ok sc_in_turn (fun vs H Q E h=>?_) (fun B A outer s H vs Q E O h=>?_)
 .obtain ⟨first,j,f,rfl,J,L,q⟩:=h
  rfl
 obtain ⟨first,j,f,rfl,J,L,q⟩:=h
 refine ⟨_,(ZAB (ZAO (i:=3) sc_in_turn.nd rfl (by walk_at "o") (ZA0 (call_list_rng rfl) rfl T.b_list PyProof.Rows.boot_list (ZAA (ZA0 call_rng2 rfl T.b_range PyProof.Rows.boot_range (ZAA (pv 0) (ZAA (pv 1) ZAD))) ZAD)))
  (ZAB (ZBC (ZB0 (pv 2))
  (ZAH (ZAk (ZFh PySem.F.plainAttrs_list PySem.F.slot_list_reverse PySem.F.type_list_reverse mt_reverse (pv 3)))) ZAe)
  (ZAH (ZAS (pv 3))))),?_⟩
 walk_at "rd"
 refine ⟨first,j,rfl,fun p z=>⟨p,first,j,rfl,ZAF,by omega,fun l hl=>?_⟩⟩
 have S:Same H (upd (upd H p (.rng first j)) l (.lst ((ZDv (first:Int) (j:Int)).map V.int))):=((Same.refl H).new z).new hl
 have hn:H l=none:=((Same.refl H).new z).free hl
 rw [rints_nat] at S ⊢
 cases f with
 | true=>
  rw [if_pos rfl]
  refine ⟨.inl ⟨rfl,_,SqL.of ZAF⟩,l,_,rfl,rfl,ZAF,?_⟩
  rw [ZDa]
  refine q l _ (((Same.refl H).new z).new hl) hn ?_
  rw [ZAF]
  unfold turnN nL
  rw [if_pos rfl,List.map_reverse]
 | false=>
  rw [if_neg (by decide)]
  refine q l _ S hn ?_
  rw [ZAF]
  rfl
theorem ok_spot_of {f:Addr} {fd:FuncData} (F:Fun K "spot_of" "spot_of" ZB8 f fd) (T:Bt K mg C_Join C_Pile C_Pour C_Asker C_AskedRule)
  (B:Mt P w K mg base CX0 C_Asker "ahead" 3 ["self","p","q"] (ZCV C_Asker C_AskedRule ZBS))
 :FnOk P w K mg base CX0 4 f fd ["asker","order","place"] (ZEn C_Asker C_AskedRule):=by
 refine F.ok sc_spot_of (fun vs H Q E h=>?_) (fun a0 A outer s H vs Q E hr h=>?_)
 .obtain ⟨c,pr,os,pl,U,post,rfl,st,J,L,hk,w,q⟩:=h
  rfl
 obtain ⟨c,pr,os,pl,U,post,rfl,st,J,L,hk,w,q⟩:=h
 refine ⟨_,(ZAB (ZAO (i:=3) sc_spot_of.nd rfl (by walk_at "o") ZAG)
  (ZAB (ZAO (i:=4) sc_spot_of.nd rfl (by walk_at "o") (ZAP ZAJ rfl T.b_len PySem.boot_len (ZAA (pv 1) ZAD)))
  (ZAB (ZB1 PassesOwn.never (ZAT ZDP (pv 3) (pv 4) (ZAY _))
  (ZAB (ZAO (i:=5) sc_spot_of.nd rfl (by walk_at "o") (ZAR ZBK (ZAR ZAh (pv 3) (pv 4)) ZAG))
  (ZAH (ZBC (ZB0 (ZBJ B (hr.mono (by decide)) ZAV (pv 0) (ZAA (ZAm ZAg (pv 1) (pv 5) (fun _ _=>rfl)) (ZAA (pv 2) ZAD))))
  (ZAH (ZAO (i:=3) sc_spot_of.nd rfl (by walk_at "o") (ZAR ZAh (pv 5) ZAG)))
  (ZAH (ZAO (i:=4) sc_spot_of.nd rfl (by walk_at "o") (pv 5)))))))
  (ZAH (ZAS (pv 3)))))),?_⟩
 walk_at "rd"
 refine ⟨U,_,rfl,.inl (SqL.of J),?_⟩
 rw [yAA]
 refine ZBy (fun m σ H'=>∃ (z high n:Nat) (v5:Option V) (pr':List A3),m=high-z /\ σ=[some (.ref c.a),some (.ref U),some (.int pl),some (.int z),some (.int high),v5] /\ high <= os.length /\ high-z <= n /\ Fr c.S H H' /\ SitR C_Asker C_AskedRule H' c pr' /\ Wp c.n c.an (hvP os pl n z high) pr' post) ⟨_,0,os.length,os.length,_,pr,rfl,rfl,yAB _,yAB _,.refl,st,w⟩ ?_
 rintro m σ H' ⟨z,high,n,v5,pr',rfl,rfl,a1,hn,fr,s,w⟩
 walk_at "rd"
 by_cases hlt:z < high
 .rw [if_pos (by omega)]
  refine ZBz ?_
  walk_at "rd"
  obtain ⟨n,rfl⟩:∃ n',n=n' + 1:=⟨n-1,by omega⟩
  rw [hvP,if_pos hlt] at w
  have O:z <= (z+high) / 2:=by omega
  have Z:(z+high) / 2 < high:=by omega
  have Y:((z:Int)+high) / 2=((z+high) / 2:Nat):=by omega
  refine ⟨⟨by decide,by decide⟩,?_⟩
  rw [Y]
  generalize (z+high) / 2=mi at w O Z
  have ho:=(ZCo (os:=os) (i:=mi) (by omega)).1
  generalize os.getD mi 0=o at ho w
  refine s.ha.meth (by walk_at "lk") ?_
  refine ZAs (SqL.of (fr _ _ L J)) (ZDs ho) ?_
  refine s.ahead hk w fun b H2 pr2 f2 s2 w2=>?_
  refine ⟨_,rfl,?_⟩
  cases b
  .rw [if_neg (by decide)]
   exact ⟨mi-z,by omega,z,mi,n,_,pr2,rfl,rfl,by omega,by omega,fr.trans f2,s2,w2⟩
  .rw [if_pos rfl]
   exact ⟨high-(mi+1),by omega,mi+1,high,n,_,pr2,rfl,rfl,by omega,by omega,fr.trans f2,s2,w2⟩
 .rw [if_neg (by omega)]
  walk_at "rd"
  refine q z H' pr' fr s ?_
  cases n with
  | zero=>exact w
  | succ n=>rw [hvP,if_neg hlt] at w;exact w
theorem ok_filled {f:Addr} {fd:FuncData} {dv:List Value} (F:FunD K "filled" "filled" ZCj f fd dv) (T:Bt K mg C_Join C_Pile C_Pour C_Asker C_AskedRule)
  (z:Fn P w K mg base CX0 "stretch_from" 4 ["asker","first","end"] (ZFS C_Asker C_AskedRule))
  (L:Fn P w K mg base CX0 "in_turn" 1 ["first","beyond","falling"] (ZD6))
  (O:Fn P w K mg base CX0 "spot_of" 4 ["asker","order","place"] (ZEn C_Asker C_AskedRule))
  (B:Mt P w K mg base CX0 C_Asker "many" 1 ["self"] (ZDx C_Asker))
 :FnOk P w K mg base CX0 5 f fd ["asker","first","least","end"] (ZEu C_Asker C_AskedRule):=by
 refine F.ok sc_filled (fun vs H Q E h=>?_) (fun af A outer s H vs Q E hr h=>?_)
 .obtain ⟨c,pr,first,ls,stop,post,rfl,st,hk,hf,hs,w,q⟩:=h
  rfl
 obtain ⟨c,pr,first,ls,stop,post,rfl,st,hk,hf,hs,w,q⟩:=h
 refine ⟨_,(ZAB (ZAO (i:=4) sc_filled.nd rfl (by walk_at "o") (ZBD (ZAT ZDS (pv 3) ZCD (ZAY _)) (ZCS B (hr.mono (by decide)) ZAV (pv 0)) (pv 3)))
  (ZAW
  (ZAB (ZAO (i:=5) sc_filled.nd rfl (by walk_at "o") (ZAw z (hr.mono (by decide)) rfl ZAV (ZAA (pv 0) (ZAA (pv 1) (ZAA (pv 4) ZAD)))))
  (ZAB (ZAO (i:=6) sc_filled.nd rfl (by walk_at "o") (ZAm ZBG (pv 5) ZAG (fun _ _=>rfl)))
  (ZAB (ZAO (i:=7) sc_filled.nd rfl (by walk_at "o") (ZAw L (hr.mono (by decide)) rfl ZAV (ZAA (pv 1) (ZAA (pv 6) (ZAA (ZAm ZBG (pv 5) ZAG (fun _ _=>rfl)) ZAD)))))
  (ZAW
  (ZAB (ZB2 PassesOwn.never rfl (pi_range2 rfl T.b_range (ZAA (pv 6) (ZAA (ZAP (ZBx rfl) rfl T.b_min PyProof.Rows.boot_min (ZAA (ZAR ZAh (pv 1) (pv 2)) (ZAA (pv 4) ZAD))) ZAD))) (ZAd (i:=8) sc_filled.nd rfl (by walk_at "o"))
  (ZAH (ZAk (ZCU PySem.F.plainAttrs_list PySem.F.slot_list_insert PySem.F.type_list_insert mt_insert (pv 7) (ZAA (ZAw O (hr.mono (by decide)) rfl ZAV (ZAA (pv 0) (ZAA (pv 7) (ZAA (pv 8) ZAD)))) (ZAA (pv 8) ZAD))))))
  (ZAH (ZAS (ZA3 (ZAA (pv 6) (ZAA (pv 7) ZAD)))))))))))),?_⟩
 walk_at "rd"
 rw [if_neg (by simp)]
 walk_at "rd"
 refine ZAc ?_
 walk_at "rd"
 refine ⟨c,pr,first,stop,_,rfl,st,hk,(w.bind).also (strP_al2 hf),fun t H1 r pr1 a5 a0 ht hw=>?_⟩
 obtain ⟨⟨ac,a7⟩,w1⟩:=hw
 obtain ⟨j,f⟩:=r
 dsimp only at ac a7 ht w1
 refine ZA9 (SqT.of ht) (ZAl (by decide) rfl) ?_
 refine ZA9 (SqT.of ht) (ZAl (by decide) rfl) ⟨first,j,f,rfl,by omega,by omega,fun ol H2 s2 U a6=>?_⟩
 have a8:=a0.mono s2
 have a2:=a0.off U
 have a3:H ol=none:=a0.free a5 U
 rw [turn_eq] at w1
 refine ZAc ?_
 walk_at "rd"
 refine ⟨_,_,rfl,?_⟩
 rw [ZEX,show min ((first:Int)+ls) stop=(min (first+ls) stop:Nat) by omega]
 have ag:=turnN_len first j f
 refine forR2_of (by omega) (ZEI (fun i σ H'=>∃ (v3 v8:Option V) (os:List Nat) (pr':List A3),σ=[some (.ref c.a),some (.int first),some (.int ls),v3,some (.int stop),some (.ref t),some (.int j),some (.ref ol),v8] /\ H' ol=some (.lst (nL os)) /\ os.length=j+i-first /\ Fr c.S H H' /\ SitR C_Asker C_AskedRule H' c pr' /\ Wp c.n c.an (putP ZFC (min (first+ls) stop-j-i) (j+i) os) pr' fun ab pr2=>post (j,ab) pr2) ⟨_,_,_,_,rfl,a6,by omega,a5.trans s2.fr,a8,w1.bind⟩ ?_ ?_)
 .rintro i σ H' hi ⟨v3,v8,os,pr',rfl,J,ho,fr,Z,w'⟩
  walk_at "rd"
  have ae:j+i < min (first+ls) stop:=by omega
  rw [show min (first+ls) stop-j-i=(min (first+ls) stop-j-(i+1))+1 by omega,putP] at w'
  rw [show ((j:Int)+i)=((j+i:Nat):Int) by omega]
  refine ⟨.inl ⟨rfl,_,SqL.of J⟩,c,pr',os,j+i,ol,_,rfl,Z,J,Ad.SA a2,hk,(w'.bind).also (spotP_le os (j+i)),fun r H3 aa a4 ad hp=>?_⟩
  obtain ⟨a9,w3⟩:=hp
  have Y:=a4 _ _ (Ad.SA a2) J
  refine ⟨ol,_,_,_,rfl,rfl,Y,ZAq (by rw [yAA];omega),by omega,?_⟩
  rw [insV_nL a9]
  refine ⟨_,_,insN os r (j+i),aa,rfl,ZAF,?_,fun b o n h=>?_,ad.upd Y a2,w3⟩
  .have:=insN_perm (os:=os) (r:=r) (x:=j+i) |>.length_eq
   rw [this,yAE,yBE];omega
  .rw [ZAI (ZAE h a3)]
   exact a4 _ _ n (fr _ _ n h)
 rintro σ H' ⟨v3,v8,os,pr',rfl,J,ho,fr,Z,w'⟩
 walk_at "rd"
 rw [show min (first+ls) stop-j-((min (first+ls) stop:Nat)-(j:Int)).toNat=0 by omega] at w'
 refine ⟨ZAU (by decide),fun t2 a1=>?_⟩
 exact q t2 ol _ (j,os) pr' (fr.trans (ZAK a1 _).fr) a3 (Z.mono (ZAK a1 _)) ZAF (ZAK a1 _ _ _ J) w'
theorem ok_leap {f:Addr} {fd:FuncData} (F:Fun K "leap" "leap" ZDz f fd) (T:Bt K mg C_Join C_Pile C_Pour C_Asker C_AskedRule)
  (z:Mt P w K mg base CX0 C_Asker "ahead" 3 ["self","p","q"] (ZCV C_Asker C_AskedRule ZBS))
 :FnOk P w K mg base CX0 4 f fd ["asker","order","first","place"] (ZEr C_Asker C_AskedRule):=by
 refine F.ok sc_leap (fun vs H Q E h=>?_) (fun a5 A outer s H vs Q E hr h=>?_)
 .obtain ⟨c,pr,Y,os,f,pl,post,rfl,st,O,L,a3,hk,w,q⟩:=h
  rfl
 obtain ⟨c,pr,Y,os,f,pl,post,rfl,st,O,L,a3,hk,w,q⟩:=h
 refine ⟨_,(ZAB (ZAO (i:=4) sc_leap.nd rfl (by walk_at "o") (ZAR ZBW (pv 2) ZAG))
  (ZAB (ZAO (i:=5) sc_leap.nd rfl (by walk_at "o") (pv 2))
  (ZAB (ZAO (i:=6) sc_leap.nd rfl (by walk_at "o") ZAG)
  (ZAB (ZB1 PassesOwn.never (PW.pt (ZER (ZAT ZDP (pv 5) (ZAP ZAJ rfl T.b_len PySem.boot_len (ZAA (pv 1) ZAD)) (ZAY _)) (ZDh (ZB0 (ZBJ z (hr.mono (by decide)) ZAV (pv 0) (ZAA (ZAm ZAg (pv 1) (pv 5) (fun _ _=>rfl)) (ZAA (pv 3) ZAD)))))))
  (ZAB (ZAO (i:=4) sc_leap.nd rfl (by walk_at "o") (pv 5))
  (ZAB (ZE6 (i:=5) sc_leap.nd rfl (by walk_at "o") (pv 6) ZE9)
  (ZAH (ZAO (i:=6) sc_leap.nd rfl (by walk_at "o") (ZAR ZCT (pv 6) ZAG))))))
  (ZAB (ZAO (i:=5) sc_leap.nd rfl (by walk_at "o") (ZAP (ZBx rfl) rfl T.b_min PyProof.Rows.boot_min (ZAA (pv 5) (ZAA (ZAP ZAJ rfl T.b_len PySem.boot_len (ZAA (pv 1) ZAD)) ZAD))))
  (ZAW
  (ZAB (ZB1 PassesOwn.never (ZAT ZFj (ZAR ZBW (pv 5) (pv 4)) ZAG (ZAY _))
  (ZAB (ZAO (i:=7) sc_leap.nd rfl (by walk_at "o") (ZAR ZBK (ZAR ZAh (pv 4) (pv 5)) ZAG))
  (ZAH (ZBC (ZB0 (ZBJ z (hr.mono (by decide)) ZAV (pv 0) (ZAA (ZAm ZAg (pv 1) (pv 7) (fun _ _=>rfl)) (ZAA (pv 3) ZAD))))
  (ZAH (ZAO (i:=4) sc_leap.nd rfl (by walk_at "o") (pv 7)))
  (ZAH (ZAO (i:=5) sc_leap.nd rfl (by walk_at "o") (pv 7)))))))
  (ZAH (ZAS (ZAR ZBW (pv 5) (pv 2))))))))))),?_⟩
 walk_at "rd"
 have hd:(os.drop f).length=os.length-f:=yAU ..
 apply once4 (fun (lo hi:Nat) (_:Int) (H':Hp)=>∃ (n:Nat) (pr':List A3),hi-lo <= n /\ hi <= (os.drop f).length /\ Fr c.S H H' /\ SitR C_Asker C_AskedRule H' c pr' /\ Wp c.n c.an (binP (os.drop f) pl n lo hi) pr' post)
 .intro J
  refine ZBy (fun m σ H'=>∃ (lo hi n:Nat) (pr':List A3),m=os.length+1-hi /\ σ=[some (.ref c.a),some (.ref Y),some (.int f),some (.int pl),some (.int ((f:Int)+lo-1)),some (.int ((f:Int)+hi)),some (.int ((hi:Int)+1)),none] /\ lo <= hi /\ (os.drop f).length <= n+hi /\ Fr c.S H H' /\ SitR C_Asker C_AskedRule H' c pr' /\ Wp c.n c.an (galP (os.drop f) pl n lo hi) pr' fun r pr2=>Wp c.n c.an (binP (os.drop f) pl (os.drop f).length r.1 (min r.2 (os.drop f).length)) pr2 post) ⟨_,0,0,_,pr,rfl,by rw [Int.natCast_zero,Int.add_zero,Int.zero_add],yAB _,yCM _ _,.refl,st,w.bind⟩ ?_
  rintro m σ H' ⟨lo,hi,n,pr',rfl,rfl,a6,hn,fr,s,w⟩
  walk_at "rd"
  have B:=fr _ _ L O
  refine ⟨Y,_,rfl,.inl (SqL.of B),?_⟩
  rw [yAA]
  by_cases hf:hi < (os.drop f).length
  .rw [if_pos (by omega)]
   have ho:=get_drop hf
   obtain ⟨n,rfl⟩:∃ n',n=n' + 1:=⟨n-1,by omega⟩
   rw [galP,if_pos hf] at w
   generalize (os.drop f).getD hi 0=o at ho w
   refine s.ha.meth (by walk_at "lk") ?_
   refine ZAs (SqL.of B) (by rw [show (f:Int)+hi=((f+hi:Nat):Int) by omega];exact ZDs ho) ?_
   refine s.ahead hk w fun b H2 pr2 Z s2 w2=>?_
   refine ⟨_,rfl,?_⟩
   cases b
   .rw [if_neg (by decide)]
    refine ⟨Y,_,rfl,.inl (SqL.of (Z _ _ L B)),_,_,rfl,?_⟩
    rw [yAA,ZEX,show min ((f:Int)+hi) os.length=(f:Int)+(hi:Nat) by omega]
    have w3:Wp c.n c.an (binP (os.drop f) pl (os.drop f).length lo (min hi (os.drop f).length)) pr2 post:=w2
    rw [yBX (by omega)] at w3
    generalize (hi:Int)+1=wd
    exact J lo hi wd H2 ⟨_,pr2,by omega,by omega,fr.trans Z,s2,w3⟩
   .rw [if_pos rfl]
    refine ZBz ?_
    walk_at "rd"
    refine ⟨.inr ⟨by decide,by decide⟩,os.length+1-(2 * hi+1),by omega,hi+1,2 * hi+1,n,pr2,rfl,?_,by omega,by omega,fr.trans Z,s2,w2⟩
    rw [show (f:Int)+((hi+1:Nat):Int)-1=f+hi by omega,show (f:Int)+((2 * hi+1:Nat):Int)=f+hi+(hi+1) by omega,show ((2 * hi+1:Nat):Int)+1=((hi:Int)+1) * 2 by omega]
  .rw [if_neg (by omega)]
   refine ⟨Y,_,rfl,.inl (SqL.of B),_,_,rfl,?_⟩
   have w3:Wp c.n c.an (binP (os.drop f) pl (os.drop f).length lo (min hi (os.drop f).length)) pr' post:=by
    cases n with
    | zero=>exact w
    | succ n=>rw [galP,if_neg hf] at w;exact w
   rw [Nat.min_eq_right (by omega)] at w3
   rw [yAA,ZEX,show min ((f:Int)+hi) os.length=(f:Int)+((os.drop f).length:Nat) by omega]
   generalize (hi:Int)+1=wd
   have e5:Wp c.n c.an (binP (os.drop f) pl (os.drop f).length lo (os.drop f).length) pr' post /\ (os.drop f).length <= (os.drop f).length:=⟨w3,yAB _⟩
   generalize hdl:(os.drop f).length=h2 at e5 ⊢
   rw [hdl] at hd
   exact J lo h2 wd H' ⟨h2,pr',by omega,by omega,fr,s,e5.1⟩
 rintro lo hi wd H1 ⟨n,pr1,hn,U,a1,a0,w1⟩
 refine ZAc ?_
 walk_at "rd"
 refine ZBy (fun m σ H'=>∃ (lo hi n:Nat) (v7:Option V) (pr':List A3),m=hi-lo /\ σ=[some (.ref c.a),some (.ref Y),some (.int f),some (.int pl),some (.int ((f:Int)+lo-1)),some (.int ((f:Int)+hi)),some (.int wd),v7] /\ hi-lo <= n /\ hi <= (os.drop f).length /\ Fr c.S H H' /\ SitR C_Asker C_AskedRule H' c pr' /\ Wp c.n c.an (binP (os.drop f) pl n lo hi) pr' post) ⟨_,lo,hi,n,_,pr1,rfl,rfl,hn,U,a1,a0,w1⟩ ?_
 clear hn U a1 a0 w1
 rintro m σ H' ⟨lo,hi,n,v7,pr',rfl,rfl,hn,U,fr,s,w⟩
 walk_at "rd"
 by_cases hlt:lo < hi
 .rw [if_pos (by omega)]
  refine ZBz ?_
  walk_at "rd"
  refine ⟨⟨by decide,by decide⟩,?_⟩
  obtain ⟨n,rfl⟩:∃ n',n=n' + 1:=⟨n-1,by omega⟩
  rw [binP,if_pos hlt] at w
  have a2:lo <= (lo+hi-1) / 2:=by omega
  have a4:(lo+hi-1) / 2 < hi:=by omega
  rw [show ((f:Int)+lo-1+(f+hi)) / 2=((f+(lo+hi-1) / 2:Nat):Int) by omega]
  generalize (lo+hi-1) / 2=mi at w a2 a4
  have ho:=get_drop (os:=os) (f:=f) (i:=mi) (by omega)
  generalize (os.drop f).getD mi 0=o at ho w
  have B:=fr _ _ L O
  refine s.ha.meth (by walk_at "lk") ?_
  refine ZAs (SqL.of B) (ZDs ho) ?_
  refine s.ahead hk w fun b H2 pr2 Z s2 w2=>?_
  refine ⟨_,rfl,?_⟩
  cases b
  .rw [if_neg (by decide)]
   exact ⟨mi-lo,by omega,lo,mi,n,_,pr2,rfl,by rw [show ((f+mi:Nat):Int)=(f:Int)+mi by omega],by omega,by omega,fr.trans Z,s2,w2⟩
  .rw [if_pos rfl]
   exact ⟨hi-(mi+1),by omega,mi+1,hi,n,_,pr2,rfl,by rw [show (f:Int)+((mi+1:Nat):Int)-1=((f+mi:Nat):Int) by omega],by omega,by omega,fr.trans Z,s2,w2⟩
 .rw [if_neg (by omega)]
  walk_at "rd"
  have w4:post hi pr':=by
   cases n with
   | zero=>exact w
   | succ n=>rw [binP,if_neg hlt] at w;exact w
  rw [show (f:Int)+hi-f=((hi:Nat):Int) by omega]
  exact q hi H' pr' fr s w4
theorem ok_Join_init {f:Addr} {fd:FuncData} (F:Fun K "__init__" "Join.__init__" ZBg f fd) (T:Bt K mg C_Join C_Pile C_Pour C_Asker C_AskedRule)
 :FnOk P w K mg base CX0 1 f fd ["self","asker","left","right"] (ZEs C_Join):=by
 refine F.ok sc_Join_init (fun vs H Q E h=>?_) (fun ae A outer s H vs Q E hr h=>?_)
 .obtain ⟨x,dx,ak,al,ar,ls,rs,rfl,hx,Y,U,q⟩:=h
  rfl
 obtain ⟨x,dx,ak,al,ar,ls,rs,rfl,hx,Y,U,q⟩:=h
 refine ⟨_,(ZAB (ZA1 (pv 0) (pv 1) rfl)
  (ZAB (ZA1 (pv 0) (ZA3 (ZAA (ZA0 ZBP rfl T.b_list PyProof.Rows.boot_list (ZAA (pv 2) ZAD)) (ZAA (ZA0 ZBP rfl T.b_list PyProof.Rows.boot_list (ZAA (pv 3) ZAD)) ZAD))) rfl)
  (ZAB (ZA1 (pv 0) (ZBF (ZAA ZAG (ZAA ZAG ZAD))) rfl)
  (ZAH (ZA1 (pv 0) (ZBF ZAD) rfl))))),?_⟩
 walk_at "rd"
 have ad:al≠x:=fun z=>by rw [z,hx] at Y;cases Y
 have ab:ar≠x:=fun z=>by rw [z,hx] at U;cases U
 refine setX hx T.cl_Join T.n_Join_asker (by decide) fun H2 x2 k2=>?_
 walk_at "rd"
 refine ⟨al,_,rfl,.inl (SqL.of (by rw [k2 al ad];exact Y)),fun L a2=>?_⟩
 obtain ⟨H3,e3,s3,h3⟩:=newH a2 (.lst (nL ls))
 rw [e3];clear e3
 refine ⟨ar,_,rfl,.inl (SqL.of (s3 _ _ (by rw [k2 ar ab];exact U))),fun J a0=>?_⟩
 obtain ⟨H4,e4,s4,h4⟩:=newH a0 (.lst (nL rs))
 rw [e4];clear e4
 refine ⟨ZAU (by decide),fun sd Z=>?_⟩
 obtain ⟨H5,e5,s5,h5⟩:=newH Z (.tup [.ref L,.ref J])
 rw [e5];clear e5
 have x5:=s5 _ _ (s4 _ _ (s3 _ _ x2))
 refine setX x5 T.cl_Join T.n_Join_sides ZFb fun H6 x6 k6=>?_
 walk_at "rd"
 refine ⟨ZAU (by decide),fun tk htk=>?_⟩
 obtain ⟨H7,e7,s7,h7⟩:=newH htk (.lst [.int 0,.int 0])
 rw [e7];clear e7
 have x7:=s7 _ _ x6
 refine setX x7 T.cl_Join T.n_Join_taken ZFE fun H8 x8 k8=>?_
 walk_at "rd"
 refine ⟨ZAU (by decide),fun pc B=>?_⟩
 obtain ⟨H9,e9,s9,h9⟩:=newH B (.lst [])
 rw [e9];clear e9
 have x9:=s9 _ _ x8
 refine setX x9 T.cl_Join T.n_Join_places ZFD fun HA xA kA=>?_
 have a1:L≠x:=Ne.symm (ZAE x2 a2)
 have O:J≠x:=Ne.symm (ZAE (s3 _ _ x2) a0)
 have a5:sd≠x:=Ne.symm (ZAE (s4 _ _ (s3 _ _ x2)) Z)
 have a4:tk≠x:=Ne.symm (ZAE x6 htk)
 have a6:pc≠x:=Ne.symm (ZAE x8 B)
 have a3:∀ b o,b≠x->H5 b=some o->HA b=some o:=fun b o n e=>by
  rw [kA b n]
  refine s9 _ _ ?_
  rw [k8 b n]
  refine s7 _ _ ?_
  rw [k6 b n]
  exact e
 have up:∀ b o,b≠x->H b=some o->H5 b=some o:=fun b o n e=>s5 _ _ (s4 _ _ (s3 _ _ (by rw [k2 b n];exact e)))
 have a9:=a3 L _ a1 (s5 _ _ (s4 _ _ h3))
 have ac:=a3 J _ O (s5 _ _ h4)
 have a8:=a3 sd _ a5 h5
 have g8:H8 tk=some (.lst [.int 0,.int 0]):=by rw [k8 tk a4];exact h7
 have a7:HA tk=some (.lst [.int 0,.int 0]):=by rw [kA tk a4];exact s9 _ _ g8
 have aa:HA pc=some (.lst []):=by rw [kA pc a6];exact h9
 have f6:∀ b,b≠x->H6 b=none->H b=none:=fun b n e=>by
  cases eb:H b with
  | none=>rfl
  | some o=>have:=up b o n eb;rw [k6 b n,this] at e;cases e
 have f8:∀ b,b≠x->H8 b=none->H b=none:=fun b n e=>f6 b n (s7.free (by rw [<- k8 b n];exact e))
 have l5:H6 L=some (.lst (nL ls)):=by rw [k6 L a1];exact s5 _ _ (s4 _ _ h3)
 have r5:H6 J=some (.lst (nL rs)):=by rw [k6 J O];exact s5 _ _ h4
 have l8:H8 L=some (.lst (nL ls)):=by rw [k8 L a1];exact s7 _ _ l5
 have r8:H8 J=some (.lst (nL rs)):=by rw [k8 J O];exact s7 _ _ r5
 refine q sd L J tk pc HA (fun b o n e=>a3 b o n (up b o n e)) ?_ ?_ ?_ (f6 tk a4 htk) (f8 pc a6 B) ⟨(Ins.of xA (yAK ZFy (by decide))).congr fun f=>by simp only [ZAa,lkc],a8,a9,ac,a7,aa,ZAE g8 B,ZAE l5 htk,ZAE l8 B,ZAE r5 htk,ZAE r8 B⟩
 .cases eb:H sd with
  | none=>rfl
  | some o=>have:=s4 _ _ (s3 _ _ (by rw [k2 sd a5];exact eb));rw [this] at Z;cases Z
 .cases eb:H L with
  | none=>rfl
  | some o=>rw [k2 L a1,eb] at a2;cases a2
 .cases eb:H J with
  | none=>rfl
  | some o=>have:=s3 J o (by rw [k2 J O];exact eb);rw [this] at a0;cases a0
theorem ok_Join_has_more {f:Addr} {fd:FuncData} (F:Fun K "has_more" "Join.has_more" ZAz f fd) (T:Bt K mg C_Join C_Pile C_Pour C_Asker C_AskedRule)
 :FnOk P w K mg base CX0 1 f fd ["self","side"] (ZC6 C_Join):=by
 refine F.ok sc_Join_has_more (fun vs H Q E h=>?_) (fun z A outer s H vs Q E B h=>?_)
 .obtain ⟨b,jn,ak,sd,ma,ta,tk,pc,ms,ts,i,j,dn,rfl,js,q⟩:=h
  rfl
 obtain ⟨b,jn,ak,sd,ma,ta,tk,pc,ms,ts,i,j,dn,rfl,js,q⟩:=h
 refine ⟨_,(ZAH (ZAS (ZDk ZDP (ZAm ZAg (ZAQ (pv 0) rfl) (pv 1) (fun _ _=>rfl)) (ZAP ZAJ rfl T.b_len PySem.boot_len (ZAA (ZAm ZBG (ZAQ (pv 0) rfl) (pv 1) (fun _ _=>rfl)) ZAD)) (ZAY _)))),?_⟩
 walk_at "rd"
 refine js.hj.get T.cl_Join T.n_Join_taken (by walk_at "lk") (ZAs (SqL.of js.htk) ZCr ?_)
 refine js.hj.get T.cl_Join T.n_Join_sides (by walk_at "lk") (ZA9 (SqT.of js.hsd) ZCr ⟨ma,_,rfl,.inl (SqL.of js.hma),?_⟩)
 rw [yAA]
 refine ⟨_,_,rfl,rfl,?_⟩
 have e:decide ((i:Int) < ms.length)=decide (i < ms.length):=by rw [decide_eq_decide];omega
 rw [<- e] at q
 exact q
theorem ok_Join_front {f:Addr} {fd:FuncData} (F:Fun K "front" "Join.front" ZBM f fd) (T:Bt K mg C_Join C_Pile C_Pour C_Asker C_AskedRule)
 :FnOk P w K mg base CX0 1 f fd ["self","side"] (ZD8 C_Join):=by
 refine F.ok sc_Join_front (fun vs H Q E h=>?_) (fun B A outer s H vs Q E J h=>?_)
 .obtain ⟨b,jn,ak,sd,ma,ta,tk,pc,ms,ts,i,j,dn,x,rfl,js,z,q⟩:=h
  rfl
 obtain ⟨b,jn,ak,sd,ma,ta,tk,pc,ms,ts,i,j,dn,x,rfl,js,z,q⟩:=h
 refine ⟨_,(ZAH (ZAS (ZAm ZAg (ZAm ZBG (ZAQ (pv 0) rfl) (pv 1) (fun _ _=>rfl)) (ZAm ZAg (ZAQ (pv 0) rfl) (pv 1) (fun _ _=>rfl)) (fun _ _=>rfl)))),?_⟩
 walk_at "rd"
 refine js.hj.get T.cl_Join T.n_Join_sides (by walk_at "lk") (ZA9 (SqT.of js.hsd) ZCr ?_)
 refine js.hj.get T.cl_Join T.n_Join_taken (by walk_at "lk") (ZAs (SqL.of js.htk) ZCr ?_)
 exact ZAs (SqL.of js.hma) (ZDs z) q
theorem ok_Join_take_on {f:Addr} {fd:FuncData} (F:Fun K "take_on" "Join.take_on" ZA6 f fd) (T:Bt K mg C_Join C_Pile C_Pour C_Asker C_AskedRule)
 :FnOk P w K mg base CX0 1 f fd ["self","side","more"] (ZC5 C_Join):=by
 refine F.ok sc_Join_take_on (fun vs H Q E h=>?_) (fun O A outer s H vs Q E Y h=>?_)
 .obtain ⟨b,jn,ak,sd,ma,ta,tk,pc,ms,ts,i,j,dn,m,rfl,js,hm,hl,q⟩:=h
  rfl
 obtain ⟨b,jn,ak,sd,ma,ta,tk,pc,ms,ts,i,j,dn,m,rfl,js,hm,hl,q⟩:=h
 refine ⟨_,(ZAB (ZAO (i:=3) sc_Join_take_on.nd rfl (by walk_at "o") (ZAm ZAg (ZAQ (pv 0) rfl) (pv 1) (fun _ _=>rfl)))
  (ZAB (ZAk (ZCU PySem.F.plainAttrs_list PySem.F.slot_list_extend PySem.F.type_list_extend mt_extend (ZAQ (pv 0) rfl) (ZAA (ZCL ZCv (ZAm ZBG (ZAQ (pv 0) rfl) (pv 1) (fun _ _=>rfl)) (ZBu (pv 3)) (ZBu (ZAR ZAh (pv 3) (pv 2)))) ZAD)))
  (ZAH (ZFc (ZAR ZAh (pv 3) (pv 2)) (ZFd (ZAQ (pv 0) rfl) (pv 1) ZEA))))),?_⟩
 walk_at "rd"
 refine js.hj.get T.cl_Join T.n_Join_taken (by walk_at "lk") (ZAs (SqL.of js.htk) ZCr ?_)
 walk_at "rd"
 refine js.hj.get T.cl_Join T.n_Join_places (by walk_at "lk") ?_
 walk_at "rd"
 refine ⟨.inl ⟨rfl,_,SqL.of js.hpc⟩,?_⟩
 refine js.hj.get T.cl_Join T.n_Join_sides (by walk_at "lk") (ZA9 (SqT.of js.hsd) ZCr ?_)
 walk_at "rd"
 refine ZDg (SqL.of js.hma) fun c hc=>?_
 have U:cutV (nL ms) (some (i:Int)) (some ((i:Int)+m))=nL ((ms.drop i).take m):=by
  unfold cutV
  rw [show (i:Int)+m=((i+m:Nat):Int) by omega,HT.sIx_nat,HT.sIx_nat,yAA,yBX (show i <= ms.length by omega),yBX (show i+m <= ms.length by omega),Nat.add_sub_cancel_left]
  unfold nL
  rw [<- yCG,<- yCF]
 rw [U]
 obtain ⟨H1,L,s1,h1⟩:=newH hc (.lst (nL ((ms.drop i).take m)))
 rw [L];clear L
 have B:=js.mono s1
 refine ⟨pc,c,_,_,rfl,rfl,B.hpc,h1,ZAU (by rw [yAA,yAA,yBA,yAU];omega),?_⟩
 have J:tk≠pc:=js.ne.1
 have z:JS C_Join (upd H1 pc (.lst (nL dn++nL ((ms.drop i).take m)))) b jn ak sd ma ta tk pc ms ts i j (dn++(ms.drop i).take m):=B.keep (Fr.upd (yAD _ yAC)) (by rw [ZAI J];exact B.htk) (by rw [ZAF];unfold nL;rw [yAL])
 have f1:Fr [tk,pc] H (upd H1 pc (.lst (nL dn++nL ((ms.drop i).take m)))):=s1.fr.trans (Fr.upd (yAD _ yAC))
 generalize upd H1 pc (.lst (nL dn++nL ((ms.drop i).take m)))=H2 at z f1 ⊢
 refine z.hj.get T.cl_Join T.n_Join_taken (by walk_at "lk") ?_
 walk_at "rd"
 refine ⟨tk,_,_,_,rfl,rfl,z.htk,ZFm (by cases b <;> decide) (by rw [pk_len];cases b <;> decide),?_⟩
 rw [pk_set,show (i:Int)+m=((i+m:Nat):Int) by omega]
 refine q _ (f1.trans (Fr.upd yAC)) (z.keep (Fr.upd yAC) ZAF (by rw [ZAI (Ne.symm J)];exact z.hpc))
theorem ok_Join_take_rest {f:Addr} {fd:FuncData} (F:Fun K "take_rest" "Join.take_rest" ZAu f fd) (T:Bt K mg C_Join C_Pile C_Pour C_Asker C_AskedRule)
  (z:Mt P w K mg base CX0 C_Join "take_on" 1 ["self","side","more"] (ZC5 C_Join))
 :FnOk P w K mg base CX0 2 f fd ["self","side"] (ZDF C_Join):=by
 refine F.ok sc_Join_take_rest (fun vs H Q E h=>?_) (fun L A outer s H vs Q E J h=>?_)
 .obtain ⟨b,jn,ak,sd,ma,ta,tk,pc,ms,ts,i,j,dn,rfl,js,hi,hl,q⟩:=h
  rfl
 obtain ⟨b,jn,ak,sd,ma,ta,tk,pc,ms,ts,i,j,dn,rfl,js,hi,hl,q⟩:=h
 refine ⟨_,(ZAH (ZAk (ZBJ z (J.mono (by decide)) ZAV (pv 0) (ZAA (pv 1) (ZAA (ZAR ZBW (ZAP ZAJ rfl T.b_len PySem.boot_len (ZAA (ZAm ZBG (ZAQ (pv 0) rfl) (pv 1) (fun _ _=>rfl)) ZAD)) (ZAm ZAg (ZAQ (pv 0) rfl) (pv 1) (fun _ _=>rfl))) ZAD))))),?_⟩
 walk_at "rd"
 refine js.hj.meth (by walk_at "lk") ?_
 refine js.hj.get T.cl_Join T.n_Join_sides (by walk_at "lk") (ZA9 (SqT.of js.hsd) ZCr ⟨ma,_,rfl,.inl (SqL.of js.hma),?_⟩)
 refine js.hj.get T.cl_Join T.n_Join_taken (by walk_at "lk") (ZAs (SqL.of js.htk) ZCr ?_)
 walk_at "rd"
 rw [yAA,show (ms.length:Int)-i=((ms.length-i:Nat):Int) by omega]
 refine ⟨b,jn,ak,sd,ma,ta,tk,pc,ms,ts,i,j,dn,ms.length-i,rfl,js,by omega,hl,fun H' O B=>?_⟩
 rw [show i+(ms.length-i)=ms.length by omega,yCH (by rw [yAU];exact yAB _)] at B
 exact q H' O B
theorem ok_Join_win {f:Addr} {fd:FuncData} (F:Fun K "win" "Join.win" ZBs f fd) (T:Bt K mg C_Join C_Pile C_Pour C_Asker C_AskedRule)
  (B:Mt P w K mg base CX0 C_Join "take_on" 1 ["self","side","more"] (ZC5 C_Join))
  (J:Mt P w K mg base CX0 C_Asker "ahead" 3 ["self","p","q"] (ZCV C_Asker C_AskedRule ZBS))
  (z:Mt P w K mg base CX0 C_Join "front" 1 ["self","side"] (ZD8 C_Join))
 :FnOk P w K mg base CX0 4 f fd ["self"] (ZFR C_Asker C_AskedRule C_Join):=by
 refine F.ok sc_Join_win (fun vs H Q E h=>?_) (fun a2 A outer s H vs Q E hr h=>?_)
 .obtain ⟨c,pr,jn,sd,Z,U,tk,pc,ls,rs,dn,i,j,x,y,k,post,rfl,st,js,nx,hx,hy,hk,a1,a0,w,q⟩:=h
  rfl
 obtain ⟨c,pr,jn,sd,Z,U,tk,pc,ls,rs,dn,i,j,x,y,k,post,rfl,st,js,nx,hx,hy,hk,a1,a0,w,q⟩:=h
 refine ⟨_,(ZAB (ZAO (i:=1) sc_Join_win.nd rfl (by walk_at "o") (ZBD (ZB0 (ZBJ J (hr.mono (by decide)) ZAV (ZAQ (pv 0) rfl) (ZAA (ZBJ z (hr.mono (by decide)) ZAV (pv 0) (ZAA (ZBh rfl T.c_LEFT) ZAD)) (ZAA (ZBJ z (hr.mono (by decide)) ZAV (pv 0) (ZAA (ZBh rfl T.c_RIGHT) ZAD)) ZAD)))) (ZBh rfl T.c_LEFT) (ZBh rfl T.c_RIGHT)))
  (ZAB (ZAk (ZBJ B (hr.mono (by decide)) ZAV (pv 0) (ZAA (pv 1) (ZAA ZAG ZAD))))
  (ZAH (ZAS (pv 1))))),?_⟩
 walk_at "rd"
 refine js.hj.get T.cl_Join T.n_Join_asker (by walk_at "lk") (st.ha.meth (by walk_at "lk") ?_)
 refine js.hj.meth (by walk_at "lk") ⟨true,jn,c.a,sd,Z,U,tk,pc,ls,rs,i,j,dn,x,rfl,js,hx,?_⟩
 refine js.hj.meth (by walk_at "lk") ⟨false,jn,c.a,sd,U,Z,tk,pc,rs,ls,j,i,dn,y,rfl,js.swap,hy,?_⟩
 refine st.ahead hk w fun b H2 pr2 f2 s2 w2=>?_
 have L:=js.frS nx f2
 have hi:=(yAR.mp hx).1
 have hj:=(yAR.mp hy).1
 refine ⟨_,rfl,?_⟩
 cases b
 .rw [if_neg (by decide)]
  walk_at "rd"
  refine L.hj.meth (by walk_at "lk") ⟨false,jn,c.a,sd,U,Z,tk,pc,rs,ls,j,i,dn,1,rfl,L.swap,by omega,by omega,fun H3 Y O=>?_⟩
  rw [ZD5 hy] at O
  exact q false H3 pr2 ((fr5a f2).trans (fr5b Y)) (s2.tkpc L nx Y) O.swap w2
 .rw [if_pos rfl]
  walk_at "rd"
  refine L.hj.meth (by walk_at "lk") ⟨true,jn,c.a,sd,Z,U,tk,pc,ls,rs,i,j,dn,1,rfl,L,by omega,by omega,fun H3 Y O=>?_⟩
  rw [ZD5 hx] at O
  exact q true H3 pr2 ((fr5a f2).trans (fr5b Y)) (s2.tkpc L nx Y) O w2
theorem ok_Join_leap_on {f:Addr} {fd:FuncData} (F:Fun K "leap_on" "Join.leap_on" ZA7 f fd) (T:Bt K mg C_Join C_Pile C_Pour C_Asker C_AskedRule)
  (O:Fn P w K mg base CX0 "leap" 4 ["asker","order","first","place"] (ZEr C_Asker C_AskedRule))
  (z:Mt P w K mg base CX0 C_Join "take_on" 1 ["self","side","more"] (ZC5 C_Join))
  (B:Mt P w K mg base CX0 C_Join "has_more" 1 ["self","side"] (ZC6 C_Join))
  (J:Mt P w K mg base CX0 C_Join "front" 1 ["self","side"] (ZD8 C_Join))
 :FnOk P w K mg base CX0 5 f fd ["self","side"] (ZDc C_Asker C_AskedRule C_Join):=by
 refine F.ok sc_Join_leap_on (fun vs H Q E h=>?_) (fun a3 A outer s H vs Q E Y h=>?_)
 .obtain ⟨c,pr,jn,sd,ma,ta,tk,pc,b,ms,ts,dn,i,j,y,post,rfl,st,js,nx,hy,hi,hk,hd,w,q⟩:=h
  rfl
 obtain ⟨c,pr,jn,sd,ma,ta,tk,pc,b,ms,ts,dn,i,j,y,post,rfl,st,js,nx,hy,hi,hk,hd,w,q⟩:=h
 refine ⟨_,(ZAB (ZAO (i:=2) sc_Join_leap_on.nd rfl (by walk_at "o") (ZBD (ZAT ZCX (pv 1) (ZBh rfl T.c_LEFT) (ZAY _)) (ZBh rfl T.c_RIGHT) (ZBh rfl T.c_LEFT)))
  (ZAW
  (ZAB (ZAk (ZBJ z (Y.mono (by decide)) ZAV (pv 0) (ZAA (pv 1) (ZAA (ZAw O (Y.mono (by decide)) rfl ZAV (ZAA (ZAQ (pv 0) rfl) (ZAA (ZAm ZBG (ZAQ (pv 0) rfl) (pv 1) (fun _ _=>rfl)) (ZAA (ZAm ZAg (ZAQ (pv 0) rfl) (pv 1) (fun _ _=>rfl)) (ZAA (ZBJ J (Y.mono (by decide)) ZAV (pv 0) (ZAA (pv 2) ZAD)) ZAD))))) ZAD))))
  (ZAH (ZBC (ZB0 (ZBJ B (Y.mono (by decide)) ZAV (pv 0) (ZAA (pv 1) ZAD)))
  (ZAH (ZAk (ZBJ z (Y.mono (by decide)) ZAV (pv 0) (ZAA (pv 2) (ZAA ZAG ZAD))))) ZAe))))),?_⟩
 walk_at "rd"
 have hj:=(yAR.mp hy).1
 refine cut_var fun o ho=>?_
 obtain rfl:o=sv (!b):=by
  rcases ho with ⟨h,e⟩ | ⟨h,e⟩
  .revert h;cases b <;> intro h
   .cases h
   .exact e
  .revert h;cases b <;> intro h
   .exact e
   .exact absurd rfl h
 refine ZAc ?_
 walk_at "rd"
 refine js.hj.meth (by walk_at "lk") ?_
 refine js.hj.get T.cl_Join T.n_Join_asker (by walk_at "lk") ?_
 refine js.hj.get T.cl_Join T.n_Join_sides (by walk_at "lk") (ZA9 (SqT.of js.hsd) ZCr ?_)
 refine js.hj.get T.cl_Join T.n_Join_taken (by walk_at "lk") (ZAs (SqL.of js.htk) ZCr ?_)
 refine js.hj.meth (by walk_at "lk") ⟨!b,jn,c.a,sd,ta,ma,tk,pc,ts,ms,j,i,dn,y,rfl,js.swap,hy,?_⟩
 refine ⟨c,pr,ma,ms,i,y,_,rfl,st,js.hma,Ad.SA nx.n1.2.2.1,hi,hk,w.also (ZEE _ _),fun k H2 pr2 f2 s2 hw=>?_⟩
 obtain ⟨a2,hp⟩:=hw
 rw [yAU] at a2
 have a0:=js.frS nx f2
 refine ⟨b,jn,c.a,sd,ma,ta,tk,pc,ms,ts,i,j,dn,k,rfl,a0,by omega,by omega,fun H3 f3 L=>?_⟩
 have s3:=s2.tkpc a0 nx f3
 have Z:=(fr5a f2 (tk:=tk) (pc:=pc)).trans (fr5b f3)
 refine L.hj.meth (by walk_at "lk") ⟨b,jn,c.a,sd,ma,ta,tk,pc,ms,ts,i+k,j,_,rfl,L,?_⟩
 refine ⟨_,rfl,?_⟩
 by_cases hz:i+k < ms.length
 .rw [decide_eq_true hz,if_pos rfl]
  walk_at "rd"
  refine L.hj.meth (by walk_at "lk") ⟨!b,jn,c.a,sd,ta,ma,tk,pc,ts,ms,j,i+k,_,1,rfl,L.swap,by omega,by rw [yAE,yBA,yAU];omega,fun H4 f4 a1=>?_⟩
  have U:=a1.swap
  rw [Bool.not_not,ZD5 hy] at U
  refine q k H4 pr2 (Z.trans (fr5b f4)) (s3.tkpc L nx f4) (by omega) ?_ hp
  rw [if_pos hz,if_pos hz]
  exact U
 .rw [decide_eq_false hz,if_neg (by decide)]
  refine q k H3 pr2 Z s3 (by omega) ?_ hp
  rw [if_neg hz,if_neg hz,yAY]
  exact L
theorem ok_joined {f:Addr} {fd:FuncData} (F:Fun K "joined" "joined" ZCi f fd) (T:Bt K mg C_Join C_Pile C_Pour C_Asker C_AskedRule)
  (B:Mt P w K mg base CX0 C_Join "take_rest" 2 ["self","side"] (ZDF C_Join))
  (J:Mt P w K mg base CX0 C_Join "has_more" 1 ["self","side"] (ZC6 C_Join))
  (a0:Mt P w K mg base CX0 C_Join "win" 4 ["self"] (ZFR C_Asker C_AskedRule C_Join))
  (U:Mt P w K mg base CX0 C_Join "leap_on" 5 ["self","side"] (ZDc C_Asker C_AskedRule C_Join))
  (a4:Kl P w K mg base CX0 "Join" C_Join 1 ["self","asker","left","right"] (ZEs C_Join))
 :FnOk P w K mg base CX0 6 f fd ["asker","left","right"] (ZDd C_Asker C_AskedRule):=by
 refine F.ok sc_joined (fun vs H Q E h=>?_) (fun av A outer s H vs Q E hr h=>?_)
 .obtain ⟨c,pr,al,ar,ls,L,post,rfl,st,af,ad,hk,ap,w,q⟩:=h
  rfl
 obtain ⟨c,pr,al,ar,ls,L,post,rfl,st,af,ad,hk,ap,w,q⟩:=h
 refine ⟨_,(ZAB (ZAO (i:=3) sc_joined.nd rfl (by walk_at "o") (ZFf a4 (hr.mono (by decide)) rfl ZAV (ZAA (pv 0) (ZAA (pv 1) (ZAA (pv 2) ZAD)))))
  (ZAB (ZAO (i:=4) sc_joined.nd rfl (by walk_at "o") ZAG)
  (ZAB (ZAO (i:=5) sc_joined.nd rfl (by walk_at "o") (ZBh rfl T.c_LEFT))
  (ZAB (ZB1 PassesOwn.never (PW.pt (ZER (ZB0 (ZBJ J (hr.mono (by decide)) ZAV (pv 3) (ZAA (ZBh rfl T.c_LEFT) ZAD))) (ZDh (ZB0 (ZBJ J (hr.mono (by decide)) ZAV (pv 3) (ZAA (ZBh rfl T.c_RIGHT) ZAD))))))
  (ZAB (ZAO (i:=6) sc_joined.nd rfl (by walk_at "o") (ZCS a0 (hr.mono (by decide)) ZAV (pv 3)))
  (ZAB (ZAO (i:=4) sc_joined.nd rfl (by walk_at "o") (ZBD (ZAT ZCX (pv 6) (pv 5) (ZAY _)) (ZAR ZAh (pv 4) ZAG) ZAG))
  (ZAB (ZAO (i:=5) sc_joined.nd rfl (by walk_at "o") (pv 6))
  (ZAH (ZBC (ZAT ZCX (pv 4) (ZBh rfl T.c_WINS_TO_LEAP) (ZAY _))
  (ZAB (ZAk (ZBJ U (hr.mono (by decide)) ZAV (pv 3) (ZAA (pv 6) ZAD)))
  (ZAH (ZAO (i:=4) sc_joined.nd rfl (by walk_at "o") ZAG))) ZAe))))))
  (ZAB (ZAk (ZBJ B (hr.mono (by decide)) ZAV (pv 3) (ZAA (ZBh rfl T.c_LEFT) ZAD)))
  (ZAB (ZAk (ZBJ B (hr.mono (by decide)) ZAV (pv 3) (ZAA (ZBh rfl T.c_RIGHT) ZAD)))
  (ZAH (ZAS (ZA0 ZBP rfl T.b_list PyProof.Rows.boot_list (ZAA (ZAQ (pv 3) rfl) ZAD)))))))))),?_⟩
 walk_at "rd"
 intro jn dj a7 aq am
 have ac:upd H dj (.own jn) jn=none:=by rw [ZAI (Ne.symm am)];exact a7
 have s1:Same H (upd (upd H dj (.own jn)) jn (.ins C_Join dj [])):=(ZAK aq _).trans (ZAK ac _)
 refine ⟨jn,dj,c.a,al,ar,ls,L,rfl,ZAF,s1 _ _ af,s1 _ _ ad,fun sd la ra tk pc H2 k2 ai as aj ae ah js=>⟨rfl,?_⟩⟩
 have u2:Same H H2:=fun b o h=>k2 b o (ZAE h a7) (s1 _ _ h)
 have ao:=st.mono u2
 have fH:∀ {b:Addr},upd (upd H dj (.own jn)) jn (.ins C_Join dj []) b=none->H b=none:=fun h=>s1.free h
 have nx:NX c jn sd la ra tk pc:=⟨⟨st.off a7,st.off (fH ai),st.off (fH as),st.off (fH aj),st.off (fH ae),st.off (fH ah)⟩⟩
 have ag:∀ {H':Hp},Fr [c.a,c.lg,c.tl,tk,pc] H2 H'->Fr c.S H H':=fun f b o n h=>f b o (fun z=>by
  rcases yAF.mp z with z | z
  .exact n (by rw [z];exact yAC)
  rcases yAF.mp z with z | z
  .exact n (by rw [z];exact yAD _ yAC)
  rcases yAF.mp z with z | z
  .exact n (by rw [z];exact yAD _ (yAD _ yAC))
  rcases yAF.mp z with z | z
  .exact ZAE h (fH ae) z
  .exact ZAE h (fH ah) (yAH.mp z)) (u2 _ _ h)
 refine ZBy (fun m σ H'=>∃ (i j w n:Nat) (s:Bool) (v6:Option V) (dn:List Nat) (pr':List A3),m=(ls.length-i)+(L.length-j) /\ σ=[some (.ref c.a),some (.ref al),some (.ref ar),some (.ref jn),some (.int w),some (.int (sv s)),v6] /\ i <= ls.length /\ j <= L.length /\ dn.length=i+j /\ (ls.length-i)+(L.length-j) <= n /\ Fr [c.a,c.lg,c.tl,tk,pc] H2 H' /\ SitR C_Asker C_AskedRule H' c pr' /\ JS C_Join H' true jn c.a sd la ra tk pc ls L i j dn /\ Wp c.n c.an (ZDC n s w (ls.drop i) (L.drop j) dn) pr' post) ⟨_,0,0,0,_,true,_,[],pr,rfl,rfl,yAJ _,yAJ _,rfl,yAB _,.refl,ao,js,w⟩ ?_
 rintro m σ H' ⟨i,j,w,n,s,v6,dn,pr',rfl,rfl,hi,hj,aw,hn,fr,s',Z,hw⟩
 walk_at "rd"
 apply onceP (¬ (i < ls.length /\ j < L.length))
 .intro a2
  refine Z.hj.meth (by walk_at "lk") ⟨true,jn,c.a,sd,la,ra,tk,pc,ls,L,i,j,dn,rfl,Z,?_⟩
  refine ⟨_,rfl,?_⟩
  by_cases hil:i < ls.length
  .rw [decide_eq_true hil,if_pos rfl]
   refine Z.hj.meth (by walk_at "lk") ⟨false,jn,c.a,sd,ra,la,tk,pc,L,ls,j,i,dn,rfl,Z.swap,?_⟩
   refine ⟨_,rfl,?_⟩
   by_cases hjr:j < L.length
   .rw [decide_eq_true hjr,if_pos rfl]
    refine ZBz ?_
    walk_at "rd"
    have hx:=yAI hil
    have hy:=yAI hjr
    generalize ls[i]=x at hx
    generalize L[j]=y at hy
    obtain ⟨n,rfl⟩:∃ n',n=n' + 1:=⟨n-1,by omega⟩
    rw [ZBw hx,ZBw hy,ZDC] at hw
    refine Z.hj.meth (by walk_at "lk") ⟨c,pr',jn,sd,la,ra,tk,pc,ls,L,dn,i,j,x,y,_,post,rfl,s',Z,nx,hx,hy,hk,by omega,by omega,hw,fun b H3 a5 f3 s3 Y w3=>?_⟩
    walk_at "rd"
    apply ZFk (fun (k:Int)=>k=((if b=s then w+1 else 1:Nat):Int))
    .intro a1
     by_cases hs:sv b=sv s
     .rw [if_pos hs]
      obtain ⟨k,aa⟩:∃ k:Int,k=w+1:=⟨_,rfl⟩
      rw [<- aa]
      refine a1 k ?_
      rw [aa,if_pos (sv_inj hs)]
      rfl
     .rw [if_neg hs]
      refine a1 1 ?_
      rw [if_neg (fun z=>hs (by rw [z]))]
      rfl
    rintro k rfl
    skip
    generalize (if b=s then w+1 else 1:Nat)=w' at w3
    have a6:(dn++[if b then x else y]).length=dn.length+1:=by rw [yAE];rfl
    by_cases h4:w'=4
    .rw [if_pos (by omega)]
     rw [if_pos h4] at w3
     cases b
     .rw [if_neg (by decide)] at w3
      refine Y.hj.meth (by walk_at "lk") ⟨c,a5,jn,sd,ra,la,tk,pc,false,L,ls,_,j+1,i,x,_,rfl,s3,Y.swap,nx.swap,hx,by omega,hk,by rw [a6];omega,w3.bind,fun k H4 a3 f4 s4 au O w4=>?_⟩
      have el:(L.drop (j+1)).length=L.length-(j+1):=yAU ..
      have ed:L.drop (j+1+k)=(L.drop (j+1)).drop k:=by rw [List.drop_drop]
      by_cases hz:j+1+k < L.length
      .rw [if_pos hz,if_pos hz] at O
       rw [if_pos (by omega)] at w4
       exact ⟨(ls.length-(i+1))+(L.length-(j+1+k)),by omega,i+1,j+1+k,0,n,false,_,_,a3,rfl,rfl,by omega,by omega,by simp;omega,by omega,(fr.trans f3).trans f4,s4,O.swap,by rw [ed];simpa using w4⟩
      .rw [if_neg hz,if_neg hz,yAY] at O
       rw [if_neg (by omega)] at w4
       exact ⟨(ls.length-i)+(L.length-(j+1+k)),by omega,i,j+1+k,0,n,false,_,_,a3,rfl,rfl,by omega,by omega,by simp;omega,by omega,(fr.trans f3).trans f4,s4,O.swap,by rw [ed,ZBw hx];simpa using w4⟩
     .rw [if_pos rfl] at w3
      refine Y.hj.meth (by walk_at "lk") ⟨c,a5,jn,sd,la,ra,tk,pc,true,ls,L,_,i+1,j,y,_,rfl,s3,Y,nx,hy,by omega,hk,by rw [a6];omega,w3.bind,fun k H4 a3 f4 s4 au O w4=>?_⟩
      have el:(ls.drop (i+1)).length=ls.length-(i+1):=yAU ..
      have ed:ls.drop (i+1+k)=(ls.drop (i+1)).drop k:=by rw [List.drop_drop]
      by_cases hz:i+1+k < ls.length
      .rw [if_pos hz,if_pos hz] at O
       rw [if_pos (by omega)] at w4
       exact ⟨(ls.length-(i+1+k))+(L.length-(j+1)),by omega,i+1+k,j+1,0,n,true,_,_,a3,rfl,rfl,by omega,by omega,by simp;omega,by omega,(fr.trans f3).trans f4,s4,O,by rw [ed];simpa using w4⟩
      .rw [if_neg hz,if_neg hz,yAY] at O
       rw [if_neg (by omega)] at w4
       exact ⟨(ls.length-(i+1+k))+(L.length-j),by omega,i+1+k,j,0,n,true,_,_,a3,rfl,rfl,by omega,by omega,by simp;omega,by omega,(fr.trans f3).trans f4,s4,O,by rw [ed,ZBw hy];simpa using w4⟩
    .rw [if_neg (by omega)]
     rw [if_neg h4] at w3
     cases b
     .rw [if_neg (by decide)] at w3
      exact ⟨(ls.length-i)+(L.length-(j+1)),by omega,i,j+1,w',n,false,_,_,a5,rfl,rfl,by omega,by omega,by rw [a6];omega,by omega,fr.trans f3,s3,Y,by rw [ZBw hx];exact w3⟩
     .rw [if_pos rfl] at w3
      exact ⟨(ls.length-(i+1))+(L.length-j),by omega,i+1,j,w',n,true,_,_,a5,rfl,rfl,by omega,by omega,by rw [a6];omega,by omega,fr.trans f3,s3,Y,by rw [ZBw hy];exact w3⟩
   .rw [decide_eq_false hjr,if_neg (by decide)]
    exact a2 (fun z=>hjr z.2)
  .rw [decide_eq_false hil,if_neg (by decide)]
   exact a2 (fun z=>hil z.1)
 intro a9
 have a8:post (dn++ls.drop i++L.drop j) pr':=join_end a9 hi hj hw
 refine Z.hj.meth (by walk_at "lk") ⟨true,jn,c.a,sd,la,ra,tk,pc,ls,L,i,j,dn,rfl,Z,hi,by omega,fun H3 f3 Y=>?_⟩
 have s3:=s'.tkpc Z nx f3
 refine Y.hj.meth (by walk_at "lk") ⟨false,jn,c.a,sd,ra,la,tk,pc,L,ls,j,ls.length,_,rfl,Y.swap,hj,by rw [yAE,yAU];omega,fun H4 f4 O=>?_⟩
 have s4:=s3.tkpc Y nx f4
 refine O.hj.get T.cl_Join T.n_Join_places (by walk_at "lk") ⟨pc,_,rfl,.inl (SqL.of O.hpc),fun l hl=>?_⟩
 have ab:Fr [c.a,c.lg,c.tl,tk,pc] H2 H4:=(fr.trans (fr5b f3)).trans (fr5b f4)
 exact q l _ _ pr' ((ag ab).trans (ZAK hl _).fr) (s4.free (ag ab) hl) ZAF (s4.mono (ZAK hl _)) a8
theorem ok_grade {f:Addr} {fd:FuncData} (F:Fun K "grade" "grade" ZDM f fd) (T:Bt K mg C_Join C_Pile C_Pour C_Asker C_AskedRule)
 :FnOk P w K mg base CX0 1 f fd ["many","first","middle","beyond"] (ZEt):=by
 refine F.ok sc_grade (fun vs H Q E h=>?_) (fun U A outer s H vs Q E Z h=>?_)
 .obtain ⟨m,a,b,c,rfl,h1,hm,ha,L,J,B,q⟩:=h
  rfl
 obtain ⟨m,a,b,c,rfl,h1,hm,ha,L,J,B,q⟩:=h
 refine ⟨_,(ZAB (ZAO (i:=4) sc_grade.nd rfl (by walk_at "o") (ZAR ZCT ZAG (ZAR ZAh (pv 1) (pv 2))))
  (ZAB (ZAO (i:=5) sc_grade.nd rfl (by walk_at "o") (ZAR ZCT ZAG (ZAR ZAh (pv 2) (pv 3))))
  (ZAB (ZAO (i:=6) sc_grade.nd rfl (by walk_at "o") ZAG)
  (ZAB (ZB1 PassesOwn.never (ZAT ZCX (ZAR op_fdivB (pv 4) (ZAR ZCT ZAG (pv 0))) (ZAR op_fdivB (pv 5) (ZAR ZCT ZAG (pv 0))) (ZAY _))
  (ZAB (ZAO (i:=4) sc_grade.nd rfl (by walk_at "o") (ZAR ZCT ZAG (pv 4)))
  (ZAB (ZAO (i:=5) sc_grade.nd rfl (by walk_at "o") (ZAR ZCT ZAG (pv 5)))
  (ZAH (ZE6 (i:=6) sc_grade.nd rfl (by walk_at "o") ZAG ZE9)))))
  (ZAH (ZAS (pv 6))))))),?_⟩
 walk_at "rd"
 refine ⟨.inl ⟨by decide,by decide⟩,.inl ⟨by decide,by decide⟩,?_⟩
 refine ZBy (fun n σ H'=>∃ p:Nat,n=240-p /\ H'=H /\ σ=[some (.int m),some (.int a),some (.int b),some (.int c),some (.int ((a+b) * 2 ^ p)),some (.int ((b+c) * 2 ^ p)),some (.int p)] /\ 1 <= p /\ p <= 240 /\ ∀ r,1 <= r->r < p->Gr.qt m (a+b) r=Gr.qt m (b+c) r) ⟨_,1,rfl,rfl,?_,yAB _,by decide,fun r h1 h2=>by omega⟩ ?_
 .rw [Int.pow_one,Int.mul_comm (a+b),Int.mul_comm (b+c)];rfl
 rintro n σ H' ⟨p,rfl,rfl,rfl,z,hp2,O⟩
 walk_at "rd"
 refine ⟨.inl ⟨by decide,by decide⟩,⟨by omega,by omega⟩,.inl ⟨by decide,by decide⟩,⟨by omega,by omega⟩,?_⟩
 split
 .rename_i he
  have Y:p < 240:=by
   rcases Nat.lt_or_ge p 240 with l | l
   .exact l
   .exact absurd he (Gr.qt_ne (by omega) (by omega) (pow240 hm l))
  refine ZBz ?_
  walk_at "rd"
  refine ⟨.inl ⟨by decide,by decide⟩,.inl ⟨by decide,by decide⟩,?_⟩
  walk_at "rd"
  refine ⟨_,?_,p+1,rfl,?_,by omega,by omega,fun r h1 h2=>?_⟩
  .omega
  .rw [dbl,dbl];rfl
  .rcases Nat.lt_or_ge r p with l | l
   .exact O r h1 l
   .obtain rfl:r=p:=by omega
    exact he
 .rename_i he
  exact q p ⟨z,O,he⟩ hp2
theorem ok_Pile_init {f:Addr} {fd:FuncData} {dv:List Value} (F:FunD K "__init__" "Pile.__init__" ZBf f fd dv) (T:Bt K mg C_Join C_Pile C_Pour C_Asker C_AskedRule)
  (J:Mt P w K mg base CX0 C_Asker "many" 1 ["self"] (ZDx C_Asker))
 :FnOk P w K mg base CX0 2 f fd ["self","asker","least","part"] (ZDG C_Asker C_Pile):=by
 refine F.ok sc_Pile_init (fun vs H Q E h=>?_) (fun ae A outer s H vs Q E hr h=>?_)
 .obtain ⟨x,dx,a,ls,s,e,pz,rfl,hx,Z,q⟩:=h
  rfl
 obtain ⟨x,dx,a,ls,s,e,pz,rfl,hx,Z,q⟩:=h
 refine ⟨_,(ZAB (ZA1 (pv 0) (pv 1) rfl)
  (ZAB (ZA1 (pv 0) (pv 2) rfl)
  (ZAB (ZA1 (pv 0) (ZBD (ZAT ZDS (pv 3) ZCD (ZAY _)) ZAG (ZAm ZBG (pv 3) ZAG (fun _ _=>rfl))) rfl)
  (ZAW
  (ZAB (ZA1 (pv 0) (ZBD (ZAT ZDS (pv 3) ZCD (ZAY _)) (ZCS J (hr.mono (by decide)) ZAV (pv 1)) (ZAm ZBG (pv 3) ZAG (fun _ _=>rfl))) rfl)
  (ZAW
  (ZAB (ZA1 (pv 0) (ZAQ (pv 0) rfl) rfl)
  (ZAB (ZA1 (pv 0) (ZBF ZAD) rfl)
  (ZAB (ZA1 (pv 0) (ZBF ZAD) rfl)
  (ZAH (ZA1 (pv 0) (ZBF ZAD) rfl))))))))))),?_⟩
 walk_at "rd"
 refine setX hx T.cl_Pile T.n_Pile_asker (by decide) fun H2 x2 k2=>?_
 walk_at "rd"
 refine setX x2 T.cl_Pile T.n_Pile_least ZFb fun H3 x3 k3=>?_
 walk_at "rd"
 have u3:∀ b o,b≠x->H b=some o->H3 b=some o:=fun b o n h=>by rw [k3 b n,k2 b n];exact h
 apply ZFk (fun H4:Hp=>H4 x=some (.ins C_Pile dx (putF "start" (.int s) (putF "least" (.int ls) (putF "asker" (.ref a) [])))) /\ ∀ b,b≠x->H4 b=H3 b)
 .intro B
  rcases Z with ⟨pt,U,L⟩ | ⟨U,a8,aa,rl,ru,m,n,tl,us,ha,Y,a7⟩
  .rw [if_neg (by rw [U];simp)]
   have a4:∀ {Q':VK},Q' (.int s) H3->rIxT K pz (.int 0) H3 Q':=fun h=>by rw [U];exact ZA9 (SqT.of (u3 _ _ (fun z=>by rw [z,hx] at L;cases L) L)) (ZAl (by decide) rfl) h
   exact a4 (setX x3 T.cl_Pile T.n_Pile_start ZFE fun H4 x4 k4=>B H4 ⟨x4,k4⟩)
  .rw [if_pos U]
   exact setX x3 T.cl_Pile T.n_Pile_start ZFE fun H4 x4 k4=>B H4 ⟨by rw [a8];exact x4,k4⟩
 rintro H4 ⟨x4,k4⟩
 refine ZAc ?_
 walk_at "rd"
 have u4:∀ b o,b≠x->H b=some o->H4 b=some o:=fun b o n h=>by rw [k4 b n];exact u3 b o n h
 apply ZFk (fun H5:Hp=>H5 x=some (.ins C_Pile dx (putF "end" (.int e) (putF "start" (.int s) (putF "least" (.int ls) (putF "asker" (.ref a) []))))) /\ ∀ b,b≠x->H5 b=H4 b)
 .intro B
  rcases Z with ⟨pt,U,L⟩ | ⟨U,a8,aa,rl,ru,m,n,tl,us,ha,Y,a7⟩
  .rw [if_neg (by rw [U];simp)]
   have a4:∀ {Q':VK},Q' (.int e) H4->rIxT K pz (.int 1) H4 Q':=fun h=>by rw [U];exact ZA9 (SqT.of (u4 _ _ (fun z=>by rw [z,hx] at L;cases L) L)) (ZAl (by decide) rfl) h
   exact a4 (setX x4 T.cl_Pile T.n_Pile_end ZFD fun H5 x5 k5=>B H5 ⟨x5,k5⟩)
  .rw [if_pos U]
   have ac:rl≠x:=fun z=>by rw [z,hx] at Y;cases Y
   have a6:Ins H4 a C_Asker (fA rl ru m n tl):=let ⟨d1,f1,e1,e2,e3⟩:=ha.ex;⟨d1,f1,u4 _ _ aa e1,e2,e3⟩
   refine a6.meth (by walk_at "lk") ⟨a,rl,ru,tl,m,n,us,rfl,a6,u4 _ _ ac Y,?_⟩
   rw [a7]
   exact setX x4 T.cl_Pile T.n_Pile_end ZFD fun H5 x5 k5=>B H5 ⟨x5,k5⟩
 clear Z
 rintro H5 ⟨x5,k5⟩
 have u5:∀ b o,b≠x->H b=some o->H5 b=some o:=fun b o n h=>by rw [k5 b n];exact u4 b o n h
 clear u3 u4 k2 k3 k4 k5 x2 x3 x4
 refine ZAc ?_
 walk_at "rd"
 refine getF_of x5 T.cl_Pile T.n_Pile_start (by simp only [ZAa,lkc];walk_at "lk") ?_
 refine setX x5 T.cl_Pile T.n_Pile_reached ZFy fun H6 x6 k6=>?_
 walk_at "rd"
 refine ⟨yAJ _,fun fs a2=>?_⟩
 obtain ⟨H7,e7,s7,h7⟩:=newH a2 (.lst [])
 rw [e7];clear e7
 refine setX (s7 _ _ x6) T.cl_Pile T.n_Pile_firsts ZGC fun H8 x8 k8=>?_
 walk_at "rd"
 refine ⟨yAJ _,fun od a1=>?_⟩
 obtain ⟨H9,e9,s9,h9⟩:=newH a1 (.lst [])
 rw [e9];clear e9
 refine setX (s9 _ _ x8) T.cl_Pile T.n_Pile_orders putL6 fun HA xA kA=>?_
 walk_at "rd"
 refine ⟨yAJ _,fun gr O=>?_⟩
 obtain ⟨HB,eB,sB,hB⟩:=newH O (.lst [])
 rw [eB];clear eB
 refine setX (sB _ _ xA) T.cl_Pile T.n_Pile_grades putL7 fun HC xC kC=>?_
 have a0:fs≠x:=Ne.symm (ZAE x6 a2)
 have a3:od≠x:=Ne.symm (ZAE x8 a1)
 have ab:gr≠x:=Ne.symm (ZAE xA O)
 have h8:H8 fs=some (.lst []):=by rw [k8 fs a0];exact h7
 have a5:HA fs=some (.lst []):=by rw [kA fs a0];exact s9 _ _ h8
 have a9:HA od=some (.lst []):=by rw [kA od a3];exact h9
 have f6:∀ b,b≠x->H6 b=none->H b=none:=fun b n e=>by
  cases eb:H b with
  | none=>rfl
  | some o=>have:=u5 b o n eb;rw [k6 b n,this] at e;cases e
 have f8:∀ b,b≠x->H8 b=none->H b=none:=fun b n e=>f6 b n (s7.free (by rw [<- k8 b n];exact e))
 have ad:∀ b,b≠x->HA b=none->H b=none:=fun b n e=>f8 b n (s9.free (by rw [<- kA b n];exact e))
 refine q fs od gr HC (fun b o n h=>?_) (f6 fs a0 a2) (f8 od a3 a1) (ad gr ab O) ⟨(Ins.of xC (yAK putL8 (by decide))).congr fun f=>by simp only [ZAa,lkc],by rw [kC fs a0];exact sB _ _ a5,by rw [kC od a3];exact sB _ _ a9,by rw [kC gr ab];exact hB,trivial,⟨ZAE h8 a1,ZAE a5 O,ZAE a9 O⟩,fun b hb=>by cases hb⟩
 rw [kC b n]
 refine sB _ _ ?_
 rw [kA b n]
 refine s9 _ _ ?_
 rw [k8 b n]
 refine s7 _ _ ?_
 rw [k6 b n]
 exact u5 b o n h
theorem ok_Pile_beyond_of {f:Addr} {fd:FuncData} (F:Fun K "beyond_of" "Pile.beyond_of" ZAt f fd) (T:Bt K mg C_Join C_Pile C_Pour C_Asker C_AskedRule)
 :FnOk P w K mg base CX0 1 f fd ["self","number"] (ZDI C_Pile):=by
 refine F.ok sc_Pile_beyond_of (fun vs H Q E h=>?_) (fun J A outer s H vs Q E L h=>?_)
 .obtain ⟨x,a,fs,od,gr,ls,s,e,r,oa,A,p,B,gs,rfl,z,q⟩:=h
  rfl
 obtain ⟨x,a,fs,od,gr,ls,s,e,r,oa,A,p,B,gs,rfl,z,q⟩:=h
 refine ⟨_,(ZAH (ZAS (ZBD (ZAT ZDP (ZAR ZAh (pv 1) ZAG) (ZAP ZAJ rfl T.b_len PySem.boot_len (ZAA (ZAQ (pv 0) rfl) ZAD)) (ZAY _)) (ZAm ZAg (ZAQ (pv 0) rfl) (ZAR ZAh (pv 1) ZAG) (fun _ _=>rfl)) (ZAQ (pv 0) rfl)))),?_⟩
 walk_at "rd"
 refine z.hp.get T.cl_Pile T.n_Pile_firsts (by walk_at "lk") ⟨fs,_,rfl,.inl (SqL.of z.hfs),?_⟩
 rw [yAA,yAA,yAE,yAG]
 cases B with
 | nil=>
  rw [if_neg (by rw [yBM];omega)]
  exact z.hp.get T.cl_Pile T.n_Pile_reached (by walk_at "lk") q
 | cons p2 B=>
  rw [if_pos (by rw [yAG];omega)]
  refine z.hp.get T.cl_Pile T.n_Pile_firsts (by walk_at "lk") ?_
  rw [show (A.length:Int)+1=((A.length+1:Nat):Int) by omega]
  exact ZAs (SqL.of z.hfs) (ZDs (by rw [yAM,ZDD];rfl)) q
theorem ok_Pile_is_due_beneath {f:Addr} {fd:FuncData} (F:Fun K "is_due_beneath" "Pile.is_due_beneath" ZAf f fd) (T:Bt K mg C_Join C_Pile C_Pour C_Asker C_AskedRule)
 :FnOk P w K mg base CX0 1 f fd ["self"] (ZGA C_Pile):=by
 refine F.ok sc_Pile_is_due_beneath (fun vs H Q E h=>?_) (fun O A outer s H vs Q E U h=>?_)
 .obtain ⟨x,a,fs,od,gr,ls,s,e,r,oa,ps,gs,rfl,B,q⟩:=h
  rfl
 obtain ⟨x,a,fs,od,gr,ls,s,e,r,oa,ps,gs,rfl,B,q⟩:=h
 refine ⟨_,(ZAH (ZAS (ZFi (ZDk ZFj (ZAP ZAJ rfl T.b_len PySem.boot_len (ZAA (ZAQ (pv 0) rfl) ZAD)) ZAG (ZAY _)) (ZFe (ZDk ZFj (ZAm ZAg (ZAQ (pv 0) rfl) (ZGD ZFK ZAG) (fun _ _=>rfl)) (ZAm ZAg (ZAQ (pv 0) rfl) (ZGD ZFK ZAG) (fun _ _=>rfl)) (ZAY _)))))),?_⟩
 walk_at "rd"
 refine B.hp.get T.cl_Pile T.n_Pile_grades (by walk_at "lk") ⟨gr,_,rfl,.inl (SqL.of B.hgr),?_⟩
 rw [yAA]
 by_cases h2:2 <= gs.length
 .rw [if_pos (by omega)]
  obtain ⟨G,J,z,rfl⟩:=two_last h2
  have L:=B.hgr
  rw [show nL (G++[J,z])=nL G++[.int (J:Nat),.int (z:Nat)] by unfold nL;rw [yAL];rfl] at L
  refine B.hp.get T.cl_Pile T.n_Pile_grades (by walk_at "lk") (ZAs (SqL.of L) atI_m2 ?_)
  refine B.hp.get T.cl_Pile T.n_Pile_grades (by walk_at "lk") ?_
  rw [show nL G++[V.int (J:Nat),V.int (z:Nat)]=(nL G++[.int (J:Nat)])++[.int (z:Nat)] by rw [yAV];rfl] at L
  refine ZAs (SqL.of L) atI_m1 ⟨_,_,rfl,rfl,?_⟩
  rw [dueB_two] at q
  have e:decide ((z:Int) < J)=decide (z < J):=by rw [decide_eq_decide];omega
  rw [<- e] at q
  exact q
 .rw [if_neg (by omega)]
  rw [dueB_no (by omega)] at q
  exact q
theorem ok_Pile_grade_on_top {f:Addr} {fd:FuncData} (F:Fun K "grade_on_top" "Pile.grade_on_top" ZAj f fd) (T:Bt K mg C_Join C_Pile C_Pour C_Asker C_AskedRule)
  (z:Fn P w K mg base CX0 "grade" 1 ["many","first","middle","beyond"] (ZEt))
 :FnOk P w K mg base CX0 2 f fd ["self","middle","beyond"] (ZEq C_Pile):=by
 refine F.ok sc_Pile_grade_on_top (fun vs H Q E h=>?_) (fun U A outer s H vs Q E O h=>?_)
 .obtain ⟨x,a,fs,od,gr,ls,s,e,r,oa,A,p,gs,m,b,rfl,B,h1,h2,h3,L,Y,q⟩:=h
  rfl
 obtain ⟨x,a,fs,od,gr,ls,s,e,r,oa,A,p,gs,m,b,rfl,B,h1,h2,h3,L,Y,q⟩:=h
 refine ⟨_,(ZAH (ZAS (ZAw z (O.mono (by decide)) rfl ZAV (ZAA (ZAR ZBW (ZAQ (pv 0) rfl) (ZAQ (pv 0) rfl)) (ZAA (ZAR ZBW (ZAm ZAg (ZAQ (pv 0) rfl) (ZGD ZFK ZAG) (fun _ _=>rfl)) (ZAQ (pv 0) rfl)) (ZAA (ZAR ZBW (pv 1) (ZAQ (pv 0) rfl)) (ZAA (ZAR ZBW (pv 2) (ZAQ (pv 0) rfl)) ZAD))))))),?_⟩
 walk_at "rd"
 have J:=B.hfs
 rw [yAL,show nL (A.map Prod.fst++[p].map Prod.fst)=nL (A.map Prod.fst)++[.int (p.1:Nat)] by unfold nL;rw [yAL];rfl] at J
 refine B.hp.get T.cl_Pile T.n_Pile_end (by walk_at "lk") (B.hp.get T.cl_Pile T.n_Pile_start (by walk_at "lk") ⟨_,_,rfl,rfl,?_⟩)
 refine B.hp.get T.cl_Pile T.n_Pile_firsts (by walk_at "lk") (ZAs (SqL.of J) atI_m1 (B.hp.get T.cl_Pile T.n_Pile_start (by walk_at "lk") ⟨_,_,rfl,rfl,?_⟩))
 refine B.hp.get T.cl_Pile T.n_Pile_start (by walk_at "lk") ⟨_,_,rfl,rfl,B.hp.get T.cl_Pile T.n_Pile_start (by walk_at "lk") ⟨_,_,rfl,rfl,?_⟩⟩
 exact ⟨_,_,_,_,rfl,by omega,by omega,by omega,by omega,by omega,by omega,q⟩
theorem ok_Pile_join_two {f:Addr} {fd:FuncData} (F:Fun K "join_two" "Pile.join_two" ZAy f fd) (T:Bt K mg C_Join C_Pile C_Pour C_Asker C_AskedRule)
  (a0:Fn P w K mg base CX0 "joined" 6 ["asker","left","right"] (ZDd C_Asker C_AskedRule))
  (J:Mt P w K mg base CX0 C_Pile "beyond_of" 1 ["self","number"] (ZDI C_Pile))
 :FnOk P w K mg base CX0 7 f fd ["self","lower"] (ZDH C_Asker C_AskedRule C_Pile):=by
 refine F.ok sc_Pile_join_two (fun vs H Q E h=>?_) (fun b6 A outer s H vs Q E hr h=>?_)
 .obtain ⟨c,pr,x,fs,od,gr,ls,s,e,i,r,oa,ps,gs,post,rfl,st,pa,px,pw,hi,he,hk,w,q⟩:=h
  rfl
 obtain ⟨c,pr,x,fs,od,gr,ls,s,e,i,r,oa,ps,gs,post,rfl,st,pa,px,pw,hi,he,hk,w,q⟩:=h
 refine ⟨_,(ZAB (ZAO (i:=2) sc_Pile_join_two.nd rfl (by walk_at "o") (ZAw a0 (hr.mono (by decide)) rfl ZAV (ZAA (ZAQ (pv 0) rfl) (ZAA (ZAm ZAg (ZAQ (pv 0) rfl) (pv 1) (fun _ _=>rfl)) (ZAA (ZAm ZAg (ZAQ (pv 0) rfl) (ZAR ZAh (pv 1) ZAG) (fun _ _=>rfl)) ZAD)))))
  (ZAW
  (ZAB (ZAO (i:=3) sc_Pile_join_two.nd rfl (by walk_at "o") (ZA3 (ZAA pe_str (ZAA (ZAm ZAg (ZAQ (pv 0) rfl) (pv 1) (fun _ _=>rfl)) (ZAA (ZAm ZAg (ZAQ (pv 0) rfl) (ZAR ZAh (pv 1) ZAG) (fun _ _=>rfl)) (ZAA (ZBJ J (hr.mono (by decide)) ZAV (pv 0) (ZAA (ZAR ZAh (pv 1) ZAG) ZAD)) ZAD))))))
  (ZAW
  (ZAB (ZFc (pv 2) (ZFd (ZAQ (pv 0) rfl) (pv 1) ZEA))
  (ZAB (ZAk (ZCU PySem.F.plainAttrs_list PySem.F.slot_list_pop PySem.F.type_list_pop ZDV (ZAQ (pv 0) rfl) (ZAA (ZAR ZAh (pv 1) ZAG) ZAD)))
  (ZAB (ZAk (ZCU PySem.F.plainAttrs_list PySem.F.slot_list_pop PySem.F.type_list_pop ZDV (ZAQ (pv 0) rfl) (ZAA (ZAR ZAh (pv 1) ZAG) ZAD)))
  (ZAB (ZAk (ZCU PySem.F.plainAttrs_list PySem.F.slot_list_pop PySem.F.type_list_pop ZDV (ZAQ (pv 0) rfl) (ZAA (pv 1) ZAD)))
  (ZAH (ZAS (pv 3))))))))))),?_⟩
 walk_at "rd"
 obtain ⟨A,p1,p2,B,rfl,rfl,e3,e4⟩:=drop_two hi
 obtain ⟨Y,o1⟩:=p1
 obtain ⟨v2,o2⟩:=p2
 unfold jnP at w
 dsimp only at w
 rw [e3,e4] at w
 dsimp only at w
 obtain ⟨L,b1,b2,OB,rfl,a1,b4,ap,b0,ao⟩:=pa.oat.two
 obtain ⟨mm,c1,c2,c3,c4,c5,c6⟩:=Cl.app.mp pw.cl
 dsimp only at c2 c3 c4 c5 c6
 have l1:=c1.le.1
 have l6:=c6.le.1
 have af:=pw.re
 have a2:=pw.gl
 dsimp only at l6 af a2
 rw [yAE,yAG,yAG] at a2
 replace a2:A.length < gs.length:=by omega
 have b7:(L.map V.ref).length <= 500:=by rw [yAA,a1];omega
 have m1:b1∈L++b1::b2::OB:=yAQ _ yAC
 have m2:b2∈L++b1::b2::OB:=yAQ _ (yAD _ yAC)
 refine pa.hp.get T.cl_Pile T.n_Pile_asker (by walk_at "lk") (pa.hp.get T.cl_Pile T.n_Pile_orders (by walk_at "lk") (ZAs (SqL.of pa.hod) (atI_refs (b:=b1) (by rw [<- a1];exact ZEH ..)) ?_))
 refine pa.hp.get T.cl_Pile T.n_Pile_orders (by walk_at "lk") ?_
 rw [show (A.length:Int)+1=((A.length+1:Nat):Int) by omega]
 refine ZAs (SqL.of pa.hod) (atI_refs (b:=b2) (by rw [<- a1];exact ZDD ..)) ?_
 refine ⟨c,pr,b1,b2,o1,o2,_,rfl,st,ap,b0,hk,by omega,(w.bind).also (joinedP_len o1 o2),fun l H1 o pr1 a6 a3 aw az hp=>?_⟩
 obtain ⟨am,hp⟩:=hp
 have U:=pa.frS px a6
 refine ZAc ?_
 walk_at "rd"
 refine U.hp.get T.cl_Pile T.n_Pile_firsts (by walk_at "lk") (ZAs (SqL.of U.hfs) (ZDs (o:=Y) (by rw [yAM,ZEH];rfl)) ?_)
 refine U.hp.get T.cl_Pile T.n_Pile_firsts (by walk_at "lk") ?_
 rw [show (A.length:Int)+1=((A.length+1:Nat):Int) by omega]
 refine ZAs (SqL.of U.hfs) (ZDs (o:=v2) (by rw [yAM,ZDD];rfl)) ?_
 refine U.hp.meth (by walk_at "lk") ⟨x,c.a,fs,od,gr,ls,s,e,r,_,A++[(Y,o1)],(v2,o2),B,gs,by rw [yAE];rfl,by rw [yAV];exact U,?_⟩
 refine ⟨ZAU (by decide),fun t ht=>?_⟩
 obtain ⟨H2,e2,s2,h2⟩:=newH ht (.tup [.str "join",.int (Y:Nat),.int (v2:Nat),.int (bB B r:Nat)])
 rw [e2];clear e2
 have O:=U.mono s2
 have ar:=az.mono s2
 refine ZAc ?_
 walk_at "rd"
 have a4:=O.xl
 have ax:x≠fs:=fun z=>a4 (by rw [z];exact yAC)
 have ah:x≠od:=fun z=>a4 (by rw [z];exact yAD _ yAC)
 have av:x≠gr:=fun z=>a4 (by rw [z];exact yAD _ (yAD _ yAC))
 obtain ⟨aj,ae,ad⟩:=pa.ne
 refine O.hp.get T.cl_Pile T.n_Pile_orders (by walk_at "lk") ⟨od,_,_,_,rfl,rfl,O.hod,ZFm (by omega) (by rw [yAA,yAE,yAG];omega),?_⟩
 rw [Int.toNat_natCast,yAL,yAS,yAS,show A.length=(L.map V.ref).length by rw [yAA,a1],set_mid]
 have b3:Ins (upd H2 od (.lst (L.map V.ref++.ref l::.ref b2::OB.map V.ref))) x C_Pile (fPl c.a ls s e r fs od gr):=O.hp.keep (ZAI ah)
 refine b3.get T.cl_Pile T.n_Pile_orders (by walk_at "lk") ?_
 walk_at "rd"
 refine ⟨.inl ⟨rfl,_,SqL.of ZAF⟩,od,_,_,(L.map V.ref).length+1,_,rfl,rfl,ZAF,by omega,by omega,?_,ZDD ..,?_⟩
 .rw [show ((L.map V.ref).length:Int)+1=(((L.map V.ref).length+1:Nat):Int) by omega]
  exact PySem.StrLaws.seqIndex_nonneg (by omega) (by rw [yAE,yAG,yAG];omega)
 rw [er_mid2,ZDa]
 have ag:Ins (upd H2 od (.lst (L.map V.ref++.ref l::OB.map V.ref))) x C_Pile (fPl c.a ls s e r fs od gr):=O.hp.keep (ZAI ah)
 have ai:upd H2 od (.lst (L.map V.ref++.ref l::OB.map V.ref)) fs=some (.lst (nL (A.map Prod.fst)++.int (Y:Nat)::.int (v2:Nat)::nL (B.map Prod.fst))):=by
  rw [ZAI aj,O.hfs,yAL];unfold nL;rw [yAL];rfl
 have la:(nL (A.map Prod.fst)).length=(L.map V.ref).length:=by rw [yAA,yAA,yAA,a1]
 refine ag.get T.cl_Pile T.n_Pile_firsts (by walk_at "lk") ?_
 walk_at "rd"
 refine ⟨.inl ⟨rfl,_,SqL.of ai⟩,fs,_,_,(nL (A.map Prod.fst)).length+1,_,rfl,rfl,ai,by omega,by omega,?_,ZDD ..,?_⟩
 .rw [<- la,show ((nL (A.map Prod.fst)).length:Int)+1=(((nL (A.map Prod.fst)).length+1:Nat):Int) by omega]
  exact PySem.StrLaws.seqIndex_nonneg (by omega) (by rw [yAE,yAG,yAG];omega)
 rw [er_mid2]
 have ac:Ins (upd (upd H2 od (.lst (L.map V.ref++.ref l::OB.map V.ref))) fs (.lst (nL (A.map Prod.fst)++.int (Y:Nat)::nL (B.map Prod.fst)))) x C_Pile (fPl c.a ls s e r fs od gr):=ag.keep (ZAI ax)
 have al:upd (upd H2 od (.lst (L.map V.ref++.ref l::OB.map V.ref))) fs (.lst (nL (A.map Prod.fst)++.int (Y:Nat)::nL (B.map Prod.fst))) gr=some (.lst (nL gs)):=by rw [ZAI (Ne.symm ae),ZAI (Ne.symm ad)];exact O.hgr
 refine ac.get T.cl_Pile T.n_Pile_grades (by walk_at "lk") ?_
 walk_at "rd"
 refine ⟨.inl ⟨rfl,_,SqL.of al⟩,gr,_,_,A.length,.int (gs[A.length]:Nat),rfl,rfl,al,by omega,by omega,?_,by rw [yAM,yAI a2];rfl,?_⟩
 .rw [show (L.map V.ref).length=A.length by rw [yAA,a1]]
  exact PySem.StrLaws.seqIndex_nonneg (by omega) (by rw [yAA];omega)
 rw [er_map]
 have F3:Fr [fs,od,gr] H2 (upd (upd (upd H2 od (.lst (L.map V.ref++.ref l::OB.map V.ref))) fs (.lst (nL (A.map Prod.fst)++.int (Y:Nat)::nL (B.map Prod.fst)))) gr (.lst (nL (gs.eraseIdx A.length)))):=((Fr.upd (yAD _ yAC)).trans (Fr.upd yAC)).trans (Fr.upd (yAD _ (yAD _ yAC)))
 have a7:Ins (upd (upd (upd H2 od (.lst (L.map V.ref++.ref l::OB.map V.ref))) fs (.lst (nL (A.map Prod.fst)++.int (Y:Nat)::nL (B.map Prod.fst)))) gr (.lst (nL (gs.eraseIdx A.length)))) x C_Pile (fPl c.a ls s e r fs od gr):=ac.keep (ZAI av)
 have ab:(upd (upd (upd H2 od (.lst (L.map V.ref++.ref l::OB.map V.ref))) fs (.lst (nL (A.map Prod.fst)++.int (Y:Nat)::nL (B.map Prod.fst)))) gr (.lst (nL (gs.eraseIdx A.length)))) fs=some (.lst (nL (A.map Prod.fst)++.int (Y:Nat)::nL (B.map Prod.fst))):=by rw [ZAI ae,ZAF]
 have aa:(upd (upd (upd H2 od (.lst (L.map V.ref++.ref l::OB.map V.ref))) fs (.lst (nL (A.map Prod.fst)++.int (Y:Nat)::nL (B.map Prod.fst)))) gr (.lst (nL (gs.eraseIdx A.length)))) od=some (.lst (L.map V.ref++.ref l::OB.map V.ref)):=by rw [ZAI ad,ZAI (Ne.symm aj),ZAF]
 have a9:(upd (upd (upd H2 od (.lst (L.map V.ref++.ref l::OB.map V.ref))) fs (.lst (nL (A.map Prod.fst)++.int (Y:Nat)::nL (B.map Prod.fst)))) gr (.lst (nL (gs.eraseIdx A.length)))) gr=some (.lst (nL (gs.eraseIdx A.length))):=ZAF
 generalize (upd (upd (upd H2 od (.lst (L.map V.ref++.ref l::OB.map V.ref))) fs (.lst (nL (A.map Prod.fst)++.int (Y:Nat)::nL (B.map Prod.fst)))) gr (.lst (nL (gs.eraseIdx A.length))))=H3 at F3 a7 ab aa a9 ⊢
 have a8:l∉[fs,od,gr]:=fun z=>by obtain ⟨y,hy⟩:=pa.lsts l z;rw [hy] at a3;cases a3
 have b5:t∉[fs,od,gr]:=fun z=>by obtain ⟨y,hy⟩:=U.lsts t z;rw [hy] at ht;cases ht
 have a5:∀ b∈L++l::OB,b∉[fs,od,gr] /\ b∉c.A /\ (b∈L++b1::b2::OB∨H b=none):=fun b Z=>by
  rcases yAX.mp Z with z | z
  .have m:=yBJ (b1::b2::OB) z
   exact ⟨pa.nb b m,px.n2 b m,.inl m⟩
  rcases yAF.mp z with z | z
  .rw [z];exact ⟨a8,st.off a3,.inr a3⟩
  .have m:b∈L++b1::b2::OB:=yAQ _ (yAD _ (yAD _ z))
   exact ⟨pa.nb b m,px.n2 b m,.inl m⟩
 have kp:∀ b∈L++b1::b2::OB,∀ o,H b=some o->H3 b=some o:=fun b Z o h=>F3 _ _ (pa.nb b Z) (s2 _ _ (a6 _ _ (Ad.SA (px.n2 b Z)) h))
 have au:H3 fs=some (.lst (nL ((A++(Y,o)::B).map Prod.fst))):=by rw [ab,yAL];unfold nL;rw [yAL];rfl
 have as:H3 od=some (.lst ((L++l::OB).map V.ref)):=by rw [aa,yAL];rfl
 have ay:OrdAt H3 (L++l::OB) (A++(Y,o)::B):=(b4.keep fun b Z=>kp b (yBJ _ Z)).app ⟨F3 _ _ a8 (s2 _ _ aw),ao.keep fun b Z=>kp b (yAQ _ (yAD _ (yAD _ Z)))⟩
 have aq:PW s e ⟨r,A++(Y,o)::B,gs.eraseIdx A.length⟩:=by
  refine ⟨Cl.app.mpr ⟨mm,c1,c2,by dsimp only;omega,?_⟩,af,?_⟩ <;> dsimp only
  .rw [am,<- Nat.add_assoc];exact c6
  .have:=pw.gl
   dsimp only at this
   rw [List.length_eraseIdx,if_pos a2,this]
   simp
 refine q t H3 ⟨r,A++(Y,o)::B,gs.eraseIdx A.length⟩ (L++l::OB) pr1 ⟨fun b o n h=>?_,fun b Z=>(a5 b Z).2.2,⟨a7,au,as,a9,ay,pa.ne,fun b Z=>(a5 b Z).1⟩,⟨px.n1,fun b Z=>(a5 b Z).2.1⟩,ar.three O px F3,aq⟩ rfl (by simp;omega) hp
 refine F3 _ _ (fun z=>n (yAD _ ?_)) (s2 _ _ (a6 _ _ (fun z=>n (yAD _ (yAD _ (yAD _ (yAD _ z))))) h))
 exact yBJ [c.a,c.lg,c.tl] z
theorem ok_Pile_lay {f:Addr} {fd:FuncData} (F:Fun K "lay" "Pile.lay" ZBr f fd) (T:Bt K mg C_Join C_Pile C_Pour C_Asker C_AskedRule)
  (a2:Fn P w K mg base CX0 "filled" 5 ["asker","first","least","end"] (ZEu C_Asker C_AskedRule))
  (J:Mt P w K mg base CX0 C_Pile "grade_on_top" 2 ["self","middle","beyond"] (ZEq C_Pile))
 :FnOk P w K mg base CX0 6 f fd ["self"] (ZFV C_Asker C_AskedRule C_Pile):=by
 refine F.ok sc_Pile_lay (fun vs H Q E h=>?_) (fun bc A outer s H vs Q E hr h=>?_)
 .obtain ⟨c,pr,x,fs,od,gr,ls,s,e,r,oa,ps,gs,post,rfl,st,pa,px,pw,ac,he,hk,w,q⟩:=h
  rfl
 obtain ⟨c,pr,x,fs,od,gr,ls,s,e,r,oa,ps,gs,post,rfl,st,pa,px,pw,ac,he,hk,w,q⟩:=h
 refine ⟨_,(ZAB (ZAO (i:=1) sc_Pile_lay.nd rfl (by walk_at "o") (ZAQ (pv 0) rfl))
  (ZAB (ZAO (i:=2) sc_Pile_lay.nd rfl (by walk_at "o") (ZAw a2 (hr.mono (by decide)) rfl ZAV (ZAA (ZAQ (pv 0) rfl) (ZAA (pv 1) (ZAA (ZAQ (pv 0) rfl) (ZAA (ZAQ (pv 0) rfl) ZAD))))))
  (ZAW
  (ZAB (ZAO (i:=3) sc_Pile_lay.nd rfl (by walk_at "o") (ZAR ZAh (pv 1) (ZAP ZAJ rfl T.b_len PySem.boot_len (ZAA (ZAm ZBG (pv 2) ZAG (fun _ _=>rfl)) ZAD))))
  (ZAW
  (ZAB (ZBC (pt_lst (ZAQ (pv 0) rfl))
  (ZAH (ZAk (ZCU PySem.F.plainAttrs_list PySem.F.slot_list_append PySem.F.type_list_append ZBV (ZAQ (pv 0) rfl) (ZAA (ZBJ J (hr.mono (by decide)) ZAV (pv 0) (ZAA (pv 1) (ZAA (pv 3) ZAD))) ZAD)))) ZAe)
  (ZAW
  (ZAB (ZAk (ZCU PySem.F.plainAttrs_list PySem.F.slot_list_append PySem.F.type_list_append ZBV (ZAQ (pv 0) rfl) (ZAA (pv 1) ZAD)))
  (ZAB (ZAk (ZCU PySem.F.plainAttrs_list PySem.F.slot_list_append PySem.F.type_list_append ZBV (ZAQ (pv 0) rfl) (ZAA (ZAm ZBG (pv 2) ZAG (fun _ _=>rfl)) ZAD)))
  (ZAB (ZA1 (pv 0) (pv 3) rfl)
  (ZAH (ZAS (ZA3 (ZAA pe_str (ZAA (pv 1) (ZAA (ZAm ZBG (pv 2) ZAG (fun _ _=>rfl)) (ZAA (pv 3) ZAD))))))))))))))))),?_⟩
 walk_at "rd"
 have b4:=pw.re
 have a1:=pw.gl
 have ad:=pw.cl.le.1
 dsimp only at b4 a1 ad
 unfold layP at w
 refine pa.hp.get T.cl_Pile T.n_Pile_reached (by walk_at "lk") (pa.hp.get T.cl_Pile T.n_Pile_asker (by walk_at "lk") (pa.hp.get T.cl_Pile T.n_Pile_least (by walk_at "lk") (pa.hp.get T.cl_Pile T.n_Pile_end (by walk_at "lk") ?_)))
 refine ⟨c,pr,r,ls,e,_,rfl,st,hk,ac,by omega,(w.bind).also (fillP_al2 ac),fun t ol H1 fj pr1 au a0 b5 ht a9 hp=>?_⟩
 obtain ⟨⟨ao,ay⟩,hp⟩:=hp
 obtain ⟨j,os⟩:=fj
 dsimp only at ao ay ht a9 hp
 have B:=pa.frS px au
 obtain ⟨v3,ag⟩:∃ v3,v3=r+os.length:=⟨_,rfl⟩
 rw [<- ag] at hp
 refine ZAc ?_
 walk_at "rd"
 refine ZA9 (SqT.of ht) (ZAl (by decide) rfl) ⟨ol,_,rfl,.inl (SqL.of a9),?_⟩
 rw [yAA]
 walk_at "rd"
 rw [show (r:Int)+(os.length:Int)=(v3:Nat) by omega]
 refine ZAc ?_
 walk_at "rd"
 have aa:t∉[fs,od,gr]:=fun z=>by obtain ⟨y,hy⟩:=B.lsts t z;rw [hy] at ht;cases ht
 have a3:ol∉[fs,od,gr]:=fun z=>by obtain ⟨y,hy⟩:=pa.lsts ol z;rw [hy] at a0;cases a0
 apply ZFk (fun X:Hp=>PileAt C_Pile X x c.a fs od gr ls s e r oa ps (if ps.isEmpty then gs else gs++[grd (e-s) (topF ps-s) (r-s) (v3-s)]) /\ Fr [fs,od,gr] H1 X)
 .intro a5
  refine B.hp.get T.cl_Pile T.n_Pile_firsts (by walk_at "lk") ⟨fs,_,rfl,SqL.of B.hfs,?_⟩
  by_cases U:ps≠[]
  .obtain ⟨A,p,rfl⟩:∃ A p,ps=A++[p]:=⟨ps.dropLast,ps.getLast U,(List.dropLast_concat_getLast _).symm⟩
   rw [if_pos (by simp)]
   obtain ⟨m,c1,c2,c3,c5⟩:=Cl.app.mp pw.cl
   have c5:m+p.2.length=r:=c5
   have bf:=c1.le.1
   rw [yAE,yBE] at a1 ad
   refine B.hp.get T.cl_Pile T.n_Pile_grades (by walk_at "lk") ?_
   walk_at "rd"
   refine ⟨.inl ⟨rfl,_,SqL.of B.hgr⟩,B.hp.meth (by walk_at "lk") ⟨x,c.a,fs,od,gr,ls,s,e,r,oa,A,p,gs,r,v3,rfl,B,by omega,by omega,by omega,by omega,by omega,fun gg ba be=>?_⟩⟩
   refine ⟨gr,_,_,rfl,rfl,B.hgr,ZAq (by rw [yAA];omega),?_⟩
   have F:Fr [fs,od,gr] H1 (upd H1 gr (.lst (nL gs++[.int (gg:Nat)]))):=Fr.upd (yAD _ (yAD _ yAC))
   have P:PileAt C_Pile (upd H1 gr (.lst (nL gs++[.int (gg:Nat)]))) x c.a fs od gr ls s e r oa (A++[p]) (gs++[gg]):=⟨ZB3 F B.xl B.hp,by rw [ZAI B.ne.2.1];exact B.hfs,by rw [ZAI B.ne.2.2];exact B.hod,by rw [ZAF];unfold nL;rw [yAL];rfl,B.oat.keep fun b hb o h=>F _ _ (B.nb b hb) h,B.ne,B.nb⟩
   generalize upd H1 gr (.lst (nL gs++[.int (gg:Nat)]))=X at F P ⊢
   refine a5 X ⟨?_,F⟩
   rw [if_neg (by simp),show topF (A++[p])=p.1 by unfold topF;simp,grd_of (a:=p.1-s) (b:=r-s) (c:=v3-s) (n:=e-s) ba (by omega) (by omega) (by omega)]
   exact P
  .have U:ps=[]:=Classical.byContradiction U
   rw [if_neg (by rw [U];simp)]
   refine a5 H1 ⟨?_,.refl⟩
   rw [U] at B ⊢
   exact B
 rintro X ⟨L,FX⟩
 obtain ⟨a4,av⟩:∃ a4,a4=(if ps.isEmpty then gs else gs++[grd (e-s) (topF ps-s) (r-s) (v3-s)]):=⟨_,rfl⟩
 rw [<- av] at L hp
 have ai:=FX _ _ aa ht
 have ar:=FX _ _ a3 a9
 have bb:=L.oat.len
 have a8:=L.xl
 have b3:x≠fs:=fun z=>a8 (by rw [z];exact yAC)
 have b7:x≠od:=fun z=>a8 (by rw [z];exact yAD _ yAC)
 have bd:x≠gr:=fun z=>a8 (by rw [z];exact yAD _ (yAD _ yAC))
 obtain ⟨aq,b2,b1⟩:=L.ne
 refine ZAc ?_
 walk_at "rd"
 refine L.hp.get T.cl_Pile T.n_Pile_firsts (by walk_at "lk") ?_
 walk_at "rd"
 refine ⟨.inl ⟨rfl,_,SqL.of L.hfs⟩,fs,_,_,rfl,rfl,L.hfs,ZAq (by rw [yAA,yAA];omega),?_⟩
 obtain ⟨us,aj⟩:∃ us,nL (ps.map Prod.fst)++[.int (r:Nat)]=us:=⟨_,rfl⟩
 rw [aj]
 have as:Ins (upd X fs (.lst us)) x C_Pile (fPl c.a ls s e r fs od gr):=L.hp.keep (ZAI b3)
 have a7:upd X fs (.lst us) od=some (.lst (oa.map V.ref)):=by rw [ZAI (Ne.symm aq)];exact L.hod
 refine as.get T.cl_Pile T.n_Pile_orders (by walk_at "lk") ?_
 walk_at "rd"
 refine ⟨.inl ⟨rfl,_,SqL.of a7⟩,ZA9 (SqT.of (by rw [ZAI (fun z=>aa (by rw [z];exact yAC))];exact ai)) (ZAl (by decide) rfl) ⟨od,_,_,rfl,rfl,a7,ZAq (by rw [yAA];omega),?_⟩⟩
 have F2:Fr [fs,od,gr] X (upd (upd X fs (.lst us)) od (.lst (oa.map V.ref++[.ref ol]))):=(Fr.upd yAC).trans (Fr.upd (yAD _ yAC))
 have a6:Ins (upd (upd X fs (.lst us)) od (.lst (oa.map V.ref++[.ref ol]))) x C_Pile (fPl c.a ls s e r fs od gr):=as.keep (ZAI b7)
 have am:(upd (upd X fs (.lst us)) od (.lst (oa.map V.ref++[.ref ol]))) fs=some (.lst us):=by rw [ZAI aq,ZAF]
 have al:(upd (upd X fs (.lst us)) od (.lst (oa.map V.ref++[.ref ol]))) od=some (.lst (oa.map V.ref++[.ref ol])):=ZAF
 have af:(upd (upd X fs (.lst us)) od (.lst (oa.map V.ref++[.ref ol]))) gr=some (.lst (nL a4)):=by rw [ZAI (Ne.symm b1),ZAI (Ne.symm b2)];exact L.hgr
 generalize (upd (upd X fs (.lst us)) od (.lst (oa.map V.ref++[.ref ol])))=Y at F2 a6 am al af ⊢
 refine a6.set T.cl_Pile T.n_Pile_reached (fun Z b9 kZ=>?_) ⟨_,by walk_at "lk"⟩
 have O:∀ {b:Addr} {us:List V},Y b=some (.lst us)->Z b=some (.lst us):=fun {b us} h=>by rw [kZ b (a6.ne h fun _ _ _ z=>by cases z)];exact h
 have ae:=F2 _ _ aa ai
 have az:Z t=some (.tup [.int (j:Nat),.ref ol]):=by rw [kZ t (a6.ne ae fun _ _ _ z=>by cases z)];exact ae
 walk_at "rd"
 refine ZA9 (SqT.of az) (ZAl (by decide) rfl) ⟨ZAU (by decide),fun t2 b8=>?_⟩
 obtain ⟨W,eW,sW,hW⟩:=newH b8 (.tup [.str "lay",.int (r:Nat),.int (j:Nat),.int (v3:Nat)])
 rw [eW];clear eW
 have FY:Fr [fs,od,gr] H1 Y:=FX.trans F2
 have ab:∀ b∈oa++[ol],b∉[fs,od,gr] /\ b∉c.A /\ (b∈oa∨H b=none):=fun b hb=>by
  rcases yAX.mp hb with z | z
  .exact ⟨pa.nb b z,px.n2 b z,.inl z⟩
  .rw [yAH.mp z];exact ⟨a3,st.off a0,.inr a0⟩
 have ap:OrdAt W (oa++[ol]) (ps++[(r,os)]):=by
  refine OrdAt.app ?_ ⟨sW _ _ (O (F2 _ _ a3 ar)),trivial⟩
  refine L.oat.keep fun b hb o h=>sW _ _ ?_
  obtain ⟨i,hi⟩:=yCN hb
  obtain ⟨p',_,ah⟩:=L.oat.get hi
  have e1:o=.lst (nL p'.2):=Option.some.inj (h.symm.trans ah)
  rw [e1]
  exact O (F2 _ _ (L.nb b hb) ah)
 obtain ⟨dx,fl,ax,_,_⟩:=a6.ex
 have b6:=b5.three B px FY
 have aw:SitR C_Asker C_AskedRule Z c pr1:=b6.apart (S:=[x]) (fun b o n h=>by rw [kZ b (fun z=>n (by rw [z];exact yAC))];exact h) (fun b hb=>by rw [yAH.mp hb];exact .inr (.inl ⟨_,_,_,ax⟩)) fun b hb=>by rw [yAH.mp hb];exact px.n1.1
 have b0:PW s e ⟨v3,ps++[(r,os)],a4⟩:=by
  refine ⟨Cl.app.mpr ⟨r,pw.cl,rfl,ao,ag.symm⟩,by dsimp only;omega,?_⟩
  dsimp only
  rw [yAE,yBE,av]
  cases U:ps with
  | nil=>rw [U] at a1;simpa using a1
  | cons p ps'=>rw [U] at a1;simp at a1 ⊢;omega
 refine q t2 W ⟨v3,ps++[(r,os)],a4⟩ (oa++[ol]) pr1 ⟨fun b o n h=>?_,fun b hb=>(ab b hb).2.2,⟨?_,?_,?_,?_,ap,L.ne,fun b hb=>(ab b hb).1⟩,⟨px.n1,fun b hb=>(ab b hb).2.1⟩,aw.mono sW,b0⟩ (by dsimp only;omega) (by simp) hp
 .refine sW _ _ ?_
  rw [kZ b (fun z=>n (by rw [z];exact yAC))]
  refine FY _ _ (fun z=>n (yAD _ (yBJ [c.a,c.lg,c.tl] z))) (au _ _ (fun z=>n (yAD _ (yAD _ (yAD _ (yAD _ z))))) h)
 .exact (b9.congr fPl_reached).mono sW
 .refine sW _ _ (O ?_)
  rw [am,<- aj,yAL];unfold nL;rw [yAL];rfl
 .refine sW _ _ (O ?_)
  rw [al,yAL];rfl
 .exact sW _ _ (O af)
theorem ok_Pile_step {f:Addr} {fd:FuncData} (F:Fun K "step" "Pile.step" ZBe f fd) (T:Bt K mg C_Join C_Pile C_Pour C_Asker C_AskedRule)
  (B:Mt P w K mg base CX0 C_Pile "is_due_beneath" 1 ["self"] (ZGA C_Pile))
  (z:Mt P w K mg base CX0 C_Pile "join_two" 7 ["self","lower"] (ZDH C_Asker C_AskedRule C_Pile))
  (L:Mt P w K mg base CX0 C_Pile "lay" 6 ["self"] (ZFV C_Asker C_AskedRule C_Pile))
 :FnOk P w K mg base CX0 8 f fd ["self"] (ZEm C_Asker C_AskedRule C_Pile):=by
 refine F.ok sc_Pile_step (fun vs H Q E h=>?_) (fun a4 A outer s H vs Q E hr h=>?_)
 .obtain ⟨c,pr,x,fs,od,gr,ls,s,e,r,oa,ps,gs,post,rfl,st,J,px,U,Z,hk,w,q0,q⟩:=h
  rfl
 obtain ⟨c,pr,x,fs,od,gr,ls,s,e,r,oa,ps,gs,post,rfl,st,J,px,U,Z,hk,w,q0,q⟩:=h
 refine ⟨_,(ZAB (ZBC (ZB0 (ZCS B (hr.mono (by decide)) ZAV (pv 0)))
  (ZAH (ZAS (ZBJ z (hr.mono (by decide)) ZAV (pv 0) (ZAA (ZAR ZBW (ZAP ZAJ rfl T.b_len PySem.boot_len (ZAA (ZAQ (pv 0) rfl) ZAD)) ZAG) ZAD)))) ZAe)
  (ZAB (ZBC (ZAT ZDP (ZAQ (pv 0) rfl) (ZAQ (pv 0) rfl) (ZAY _))
  (ZAH (ZAS (ZCS L (hr.mono (by decide)) ZAV (pv 0)))) ZAe)
  (ZAB (ZBC (ZAT ZFj (ZAP ZAJ rfl T.b_len PySem.boot_len (ZAA (ZAQ (pv 0) rfl) ZAD)) ZAG (ZAY _))
  (ZAH (ZAS (ZBJ z (hr.mono (by decide)) ZAV (pv 0) (ZAA (ZAR ZBW (ZAP ZAJ rfl T.b_len PySem.boot_len (ZAA (ZAQ (pv 0) rfl) ZAD)) ZAG) ZAD)))) ZAe)
  (ZAH (ZAS ZCD))))),?_⟩
 walk_at "rd"
 have a3:=J.oat.len
 have a2:=U.gl
 have a0:=U.cl.le.1
 have a1:=U.re
 dsimp only at a2 a0 a1
 unfold ZFQ at w
 dsimp only at w
 refine J.hp.meth (by walk_at "lk") ⟨x,c.a,fs,od,gr,ls,s,e,r,oa,ps,gs,rfl,J,_,rfl,?_⟩
 cases hd:dueB gs with
 | true=>
  rw [if_pos rfl]
  rw [if_pos hd] at w
  have h2:=ZEK hd
  refine J.hp.meth (by walk_at "lk") (J.hp.get T.cl_Pile T.n_Pile_orders (by walk_at "lk") ⟨od,_,rfl,.inl (SqL.of J.hod),?_⟩)
  refine ⟨c,pr,x,fs,od,gr,ls,s,e,ps.length-3,r,oa,ps,gs,post,?_,st,J,px,U,by omega,Z,hk,w,fun t H' t' O pr' Y e1 e2 hp=>?_⟩
  .rw [yAA];congr 3;omega
  .exact q t H' t' O pr' Y (by omega) hp
 | false=>
  rw [if_neg (by decide)]
  rw [if_neg (by rw [hd];decide)] at w
  refine J.hp.get T.cl_Pile T.n_Pile_reached (by walk_at "lk") (J.hp.get T.cl_Pile T.n_Pile_end (by walk_at "lk") ⟨_,_,rfl,rfl,_,rfl,?_⟩)
  by_cases hlt:r < e
  .rw [if_pos (decide_eq_true (by omega))]
   rw [if_pos hlt] at w
   refine J.hp.meth (by walk_at "lk") ⟨c,pr,x,fs,od,gr,ls,s,e,r,oa,ps,gs,post,rfl,st,J,px,U,hlt,Z,hk,w,fun t H' t' O pr' Y e1 e2 hp=>?_⟩
   have:=Y.2.2.2.2.2.re
   exact q t H' t' O pr' Y (by omega) hp
  .rw [if_neg (by simp;omega)]
   rw [if_neg hlt] at w
   refine J.hp.get T.cl_Pile T.n_Pile_orders (by walk_at "lk") ⟨od,_,rfl,.inl (SqL.of J.hod),?_⟩
   rw [yAA]
   by_cases h2:1 < ps.length
   .rw [if_pos (by omega)]
    rw [if_pos h2] at w
    refine J.hp.meth (by walk_at "lk") (J.hp.get T.cl_Pile T.n_Pile_orders (by walk_at "lk") ⟨od,_,rfl,.inl (SqL.of J.hod),?_⟩)
    refine ⟨c,pr,x,fs,od,gr,ls,s,e,ps.length-2,r,oa,ps,gs,post,?_,st,J,px,U,by omega,Z,hk,w,fun t H' t' O pr' Y e1 e2 hp=>?_⟩
    .rw [yAA];congr 3;omega
    .exact q t H' t' O pr' Y (by omega) hp
   .rw [if_neg (by omega)]
    rw [if_neg h2] at w
    exact q0 w
theorem ok_Pile_paper {f:Addr} {fd:FuncData} (F:Fun K "paper" "Pile.paper" ZBL f fd) (T:Bt K mg C_Join C_Pile C_Pour C_Asker C_AskedRule)
 :FnOk P w K mg base CX0 1 f fd ["self"] (ZEp C_Pile):=by
 refine F.ok sc_Pile_paper (fun vs H Q E h=>?_) (fun a4 A outer s H vs Q E hr h=>?_)
 .obtain ⟨x,a,fs,od,gr,ls,s,e,r,oa,ps,gs,rfl,B,U,a2,he,q⟩:=h
  rfl
 obtain ⟨x,a,fs,od,gr,ls,s,e,r,oa,ps,gs,rfl,B,U,a2,he,q⟩:=h
 refine ⟨_,(ZAB (ZAO (i:=1) sc_Pile_paper.nd rfl (by walk_at "o") (ZBF ZAD))
  (ZAB (ZB2 PassesOwn.never rfl (ZBU (ZAQ (pv 0) rfl)) (ZAd (i:=2) sc_Pile_paper.nd rfl (by walk_at "o"))
  (ZAH (ZAk (ZCU PySem.F.plainAttrs_list PySem.F.slot_list_extend PySem.F.type_list_extend mt_extend (pv 1) (ZAA (pv 2) ZAD)))))
  (ZAH (ZAS (ZAR ZE7 (pv 1) (ZA0 (call_list_rng rfl) rfl T.b_list PyProof.Rows.boot_list (ZAA (ZA0 call_rng2 rfl T.b_range PyProof.Rows.boot_range (ZAA (ZAQ (pv 0) rfl) (ZAA (ZAQ (pv 0) rfl) ZAD))) ZAD))))))),?_⟩
 walk_at "rd"
 refine ⟨yAJ _,fun p hp=>?_⟩
 obtain ⟨H1,L,s1,h1⟩:=newH hp (.lst [])
 rw [L];clear L
 have Z:=B.mono s1
 have a0:=B.oat.len
 refine Z.hp.get T.cl_Pile T.n_Pile_orders (by walk_at "lk") ?_
 refine ZCz (SqL.of Z.hod) (fun i σ X=>∃ v2,σ=[some (.ref x),some (.ref p),v2] /\ Same H X /\ X p=some (.lst (nL (flt (ps.take i))))) ⟨_,rfl,s1,h1⟩ (fun i σ X _ ⟨_,_,z,_⟩=>SqL.of (z _ _ B.hod)) ?_ ?_
 .rintro i y σ X O ⟨v2,rfl,z,J⟩
  obtain ⟨b,hb,rfl⟩:∃ b,oa[i]?=some b /\ y=.ref b:=by
   rw [yAM] at O
   cases hz:oa[i]? with
   | none=>rw [hz] at O;cases O
   | some b=>rw [hz] at O;exact ⟨b,rfl,(Option.some.inj O).symm⟩
  obtain ⟨p1,g1,g2⟩:=B.oat.get hb
  have L:flt (ps.take (i+1))=flt (ps.take i)++p1.2:=by
   rw [List.take_add_one,g1,flt_app]
   congr 1
   unfold flt
   simp
  have a3:(flt (ps.take i)).length+p1.2.length <= 500:=by
   have e2:flt ps=flt (ps.take (i+1))++flt (ps.drop (i+1)):=by rw [<- flt_app,yBO]
   rw [e2,L,yAE,yAE] at U
   omega
  walk_at "rd"
  refine ⟨.inl ⟨rfl,_,SqL.of J⟩,p,b,_,_,rfl,rfl,J,z _ _ g2,ZAU (by rw [yAA,yAA];omega),?_⟩
  refine ⟨_,rfl,z.upd hp,?_⟩
  rw [ZAF,L]
  unfold nL
  rw [yAL]
 rintro σ X ⟨v2,rfl,z,J⟩
 rw [yAA,a0,List.take_length] at J
 walk_at "rd"
 have Y:=B.mono z
 refine Y.hp.get T.cl_Pile T.n_Pile_reached (by walk_at "lk") (Y.hp.get T.cl_Pile T.n_Pile_end (by walk_at "lk") ⟨_,_,rfl,fun p2 hp2=>?_⟩)
 obtain ⟨H3,e3,s3,h3⟩:=newH hp2 (.rng r e)
 rw [e3];clear e3
 refine ⟨p2,r,e,rfl,h3,by omega,fun l2 a1=>?_⟩
 rw [rints_nat]
 obtain ⟨H4,e4,s4,h4⟩:=newH a1 (.lst (nL (List.range' r (e-r))))
 rw [e4];clear e4
 refine ⟨p,l2,_,_,rfl,rfl,s4 _ _ (s3 _ _ J),h4,ZAU (by rw [yAA,yAA,yCA];omega),fun l hl=>?_⟩
 refine q l _ (z.trans (s3.trans (s4.new hl))) ((z.trans (s3.trans s4)).free hl) ?_
 rw [ZAF]
 unfold nL
 rw [yAL]
theorem ok_by_pile {f:Addr} {fd:FuncData} {dv:List Value} (F:FunD K "by_pile" "by_pile" ZCB f fd dv) (T:Bt K mg C_Join C_Pile C_Pour C_Asker C_AskedRule)
  (B:Mt P w K mg base CX0 C_Pile "paper" 1 ["self"] (ZEp C_Pile))
  (J:Mt P w K mg base CX0 C_Pile "step" 8 ["self"] (ZEm C_Asker C_AskedRule C_Pile))
  (L:Kl P w K mg base CX0 "Pile" C_Pile 2 ["self","asker","least","part"] (ZDG C_Asker C_Pile))
 :FnOk P w K mg base CX0 9 f fd ["asker","least","part"] (ZC8 C_Asker C_AskedRule):=by
 refine F.ok sc_by_pile (fun vs H Q E h=>?_) (fun af A outer s H vs Q E hr h=>?_)
 .obtain ⟨c,pr,ls,s,e,pt,post,rfl,st,a6,a1,he,hk,w,q⟩:=h
  rfl
 obtain ⟨c,pr,ls,s,e,pt,post,rfl,st,a6,a1,he,hk,w,q⟩:=h
 refine ⟨_,(ZAB (ZAO (i:=3) sc_by_pile.nd rfl (by walk_at "o") (ZFf L (hr.mono (by decide)) rfl ZAV (ZAA (pv 0) (ZAA (pv 1) (ZAA (pv 2) ZAD)))))
  (ZAB (ZB1 PassesOwn.never (ZAT op_notN (ZCS J (hr.mono (by decide)) ZAV (pv 3)) ZCD (ZAY _))
  (ZAH (ps_pass)))
  (ZAH (ZAS (ZCS B (hr.mono (by decide)) ZAV (pv 3)))))),?_⟩
 walk_at "rd"
 intro x dx hx ac ae
 have a8:upd H dx (.own x) x=none:=by rw [ZAI (Ne.symm ae)];exact hx
 have O:Same H (upd (upd H dx (.own x)) x (.ins C_Pile dx [])):=(ZAK ac _).trans (ZAK a8 _)
 have hB:(upd (upd H dx (.own x)) x (.ins C_Pile dx [])) x=some (.ins C_Pile dx []):=ZAF
 generalize upd (upd H dx (.own x)) x (.ins C_Pile dx [])=HB at O hB ⊢
 refine ⟨x,dx,c.a,ls,s,e,.ref pt,rfl,hB,.inl ⟨pt,rfl,O _ _ a6⟩,fun fs od gr HC kC a3 a4 a5 a7=>⟨rfl,?_⟩⟩
 have kA:Same H HC:=fun b o h=>kC b o (ZAE h hx) (O _ _ h)
 have px:PXw c x fs od gr []:=⟨⟨st.off hx,st.off (O.free a3),st.off (O.free a4),st.off (O.free a5)⟩,fun b hb=>by cases hb⟩
 walk_at "rd"
 refine ZBy (fun n σ X=>∃ (t:PS) (m:Nat) (oa:List Addr) (pr':List A3),n=2 * (e-t.r)+t.ps.length /\ σ=[some (.ref c.a),some (.int ls),some (.ref pt),some (.ref x)] /\ 2 * (e-t.r)+t.ps.length < m /\ PW s e t /\ PileAt C_Pile X x c.a fs od gr ls s e t.r oa t.ps t.gs /\ PXw c x fs od gr oa /\ SitR C_Asker C_AskedRule X c pr' /\ Wp c.n c.an (ZFz grd ls s e m t) pr' post /\ Fr [x,fs,od,gr,c.a,c.lg,c.tl] HC X) ⟨_,⟨s,[],[]⟩,_,[],pr,rfl,rfl,by simp,⟨rfl,a1,rfl⟩,a7,px,st.mono kA,w,.refl⟩ ?_
 rintro n σ X ⟨t,m,oa,pr',rfl,rfl,hm,pw,pa,a9,U,wX,fX⟩
 obtain ⟨m,rfl⟩:∃ m',m=m' + 1:=⟨m-1,by omega⟩
 obtain ⟨r,ps,gs⟩:=t
 dsimp only at hm pa
 have a0:=pw.cl.le
 have a2:=pw.re
 dsimp only at a0 a2
 have fin:∀ {Z:Hp},Same X Z->Fr c.S H Z:=fun {Z} sZ b o n h=>sZ _ _ (fX _ _ (fun z=>by
  rcases yAF.mp z with z | z
  .exact ZAE h hx z
  rcases yAF.mp z with z | z
  .exact ZAE h (O.free a3) z
  rcases yAF.mp z with z | z
  .exact ZAE h (O.free a4) z
  rcases yAF.mp z with z | z
  .exact ZAE h (O.free a5) z
  .exact n z) (kA _ _ h))
 walk_at "rd"
 refine pa.hp.meth (by walk_at "lk") ⟨c,pr',x,fs,od,gr,ls,s,e,r,oa,ps,gs,_,rfl,U,pa,a9,pw,he,hk,wX.bind,fun hp=>?_,fun t2 Y t' ab pr2 lf ad hp=>?_⟩
 .refine pa.hp.meth (by walk_at "lk") ⟨x,c.a,fs,od,gr,ls,s,e,r,oa,ps,gs,rfl,pa,by rw [a0.2];omega,a2,he,fun l Z sZ aa hl=>?_⟩
  exact q l Z _ pr' (fin sZ) (U.free (fin (.refl _)) aa) hl (U.mono sZ) (by rw [yAE,a0.2,yCA];omega) hp
 .refine ZBz ?_
  walk_at "rd"
  obtain ⟨f1,f2,f4,f5,f6,f7⟩:=lf
  exact ⟨_,ad,t',m,ab,pr2,rfl,by omega,f7,f4,f5,f6,hp,fX.trans f1⟩
theorem ok_meetings_of {n:Nat} {f:Addr} {fd:FuncData} (F:Fun K "meetings_of" "meetings_of" ZBA f fd) (T:Bt K mg C_Join C_Pile C_Pour C_Asker C_AskedRule)
  (B:Fn P w K mg base CX0 "meetings_of" n ["first","beyond"] (ZBn n))
 :FnOk P w K mg base CX0 (n+1) f fd ["first","beyond"] (ZBn (n+1)):=by
 refine F.ok sc_meetings_of (fun vs H Q E h=>?_) (fun ad A outer s H vs Q E hr h=>?_)
 .obtain ⟨f,b,rfl,a9,a5,a4,L,q⟩:=h
  rfl
 obtain ⟨f,b,rfl,a9,a5,a4,L,q⟩:=h
 refine ⟨_,(ZAB (ZBC (ZAT ZDP (ZAR ZBW (pv 1) (pv 0)) ZAG (ZAY _))
  (ZAH (ZAS (ZBF ZAD))) ZAe)
  (ZAB (ZAO (i:=2) sc_meetings_of.nd rfl (by walk_at "o") (ZAR ZAh (pv 0) (ZAR ZBK (ZAR ZAh (ZAR ZBW (pv 1) (pv 0)) ZAG) ZAG)))
  (ZAH (ZAS (ZAR ZE7 (ZAR ZE7 (ZAw B (hr.mono (yAB _)) rfl ZAV (ZAA (pv 0) (ZAA (pv 2) ZAD))) (ZAw B (hr.mono (yAB _)) rfl ZAV (ZAA (pv 2) (ZAA (pv 1) ZAD)))) (ZBF (ZAA (ZA3 (ZAA (pv 0) (ZAA (pv 2) (ZAA (pv 1) ZAD)))) ZAD))))))),?_⟩
 walk_at "rd"
 by_cases hlt:(b:Int)-f < 2
 .rw [if_pos hlt]
  refine ⟨yAJ _,fun l hl=>q l _ [] (ZAK hl _) hl ZAF ?_⟩
  rw [Po.mts_leaf (by omega)]
  exact MsAt.nil
 rw [if_neg hlt]
 refine ⟨⟨by decide,by decide⟩,?_⟩
 have hm:=Po.mid_lt (f:=f) (b:=b) (by omega)
 have em:(f:Int)+((b:Int)-f+1) / 2=((Po.mid f b:Nat):Int):=by unfold Po.mid;omega
 rw [em]
 have a7:2 ^ (n+1-1)=2 ^ n:=by rw [Nat.add_sub_cancel]
 rw [a7] at L
 obtain ⟨k,rfl⟩:∃ k,n=k+1:=⟨n-1,by
  cases n with
  | zero=>rw [Nat.pow_zero] at L;omega
  | succ n=>rfl⟩
 rw [Nat.pow_succ] at L
 refine ⟨f,Po.mid f b,rfl,by omega,by omega,by omega,by rw [Nat.add_sub_cancel];unfold Po.mid at *;omega,fun l1 H1 U s1 ac a3 a0=>?_⟩
 refine ⟨Po.mid f b,b,rfl,by omega,by omega,by omega,by rw [Nat.add_sub_cancel];unfold Po.mid at *;omega,fun l2 H2 O s2 ab a6 a1=>?_⟩
 have Y:=a0.len
 have a2:=a1.len
 rw [Po.mts_len] at Y a2
 refine ⟨l1,l2,U,O,rfl,rfl,s2 _ _ a3,a6,ZAU (by omega),fun l3 a8=>?_⟩
 obtain ⟨H3,e3,s3,h3⟩:=newH a8 (.lst (U++O))
 rw [e3];clear e3
 refine ⟨ZAU (by decide),fun t ht=>?_⟩
 obtain ⟨H4,e4,s4,h4⟩:=newH ht (.tup [.int (f:Int),.int ((Po.mid f b:Nat):Int),.int (b:Int)])
 rw [e4];clear e4
 refine ⟨ZAU (by decide),fun l4 aa=>?_⟩
 obtain ⟨H5,e5,Z,h5⟩:=newH aa (.lst [.ref t])
 rw [e5];clear e5
 refine ⟨l3,l4,_,_,rfl,rfl,Z _ _ (s4 _ _ h3),h5,ZAU (by rw [yAE,yBE];omega),fun l6 J=>?_⟩
 have S5:=s1.trans (s2.trans (s3.trans (s4.trans Z)))
 refine q l6 _ _ (S5.trans (ZAK J _)) (S5.free J) ZAF ?_
 rw [Po.mts_node (by omega)]
 have up:∀ t x,H5 t=some (.tup x)->upd H5 l6 (.lst (U++O++[.ref t])) t=some (.tup x):=fun t x h=>ZAK J _ _ _ h
 exact ((a0.keep fun _ _ z=>ZAK J _ _ _ (Z _ _ (s4 _ _ (s3 _ _ (s2 _ _ z))))).app (a1.keep fun _ _ z=>ZAK J _ _ _ (Z _ _ (s4 _ _ (s3 _ _ z))))).app (MsAt.one (ZAK J _ _ _ (Z _ _ h4)))
theorem ok_Pour_front_of {f:Addr} {fd:FuncData} (F:Fun K "front_of" "Pour.front_of" ZAx f fd) (T:Bt K mg C_Join C_Pile C_Pour C_Asker C_AskedRule)
 :FnOk P w K mg base CX0 1 f fd ["self","piece","taken"] (ZC7 C_Pour):=by
 refine F.ok sc_Pour_front_of (fun vs H Q E h=>?_) (fun O A outer s H vs Q E Z h=>?_)
 .obtain ⟨p,ak,pl,tk,ml,wd,pls,pcs,i,t,xs,rfl,z,L,q⟩:=h
  rfl
 obtain ⟨p,ak,pl,tk,ml,wd,pls,pcs,i,t,xs,rfl,z,L,q⟩:=h
 refine ⟨_,(ZAB (ZAO (i:=3) sc_Pour_front_of.nd rfl (by walk_at "o") (ZAm ZAg (ZAQ (pv 0) rfl) (pv 1) (fun _ _=>rfl)))
  (ZAH (ZAS (ZBD (ZAT ZDP (pv 2) (ZAP ZAJ rfl T.b_len PySem.boot_len (ZAA (pv 3) ZAD)) (ZAY _)) (ZA3 (ZAA (ZAm ZAg (pv 3) (pv 2) (fun _ _=>rfl)) (ZAA (pv 1) ZAD))) ZCD)))),?_⟩
 walk_at "rd"
 obtain ⟨l,U,hl⟩:=z.at L
 refine z.hp.get T.cl_Pour T.n_Pour_pieces (by walk_at "lk") (ZAs (SqL.of z.hpl) (ZAl (v:=.ref l) (by omega) (by rw [Int.toNat_natCast,yAM,U];rfl)) ?_)
 walk_at "rd"
 refine ⟨l,_,rfl,.inl (SqL.of hl),?_⟩
 rw [yAA]
 by_cases hlt:(t:Int) < xs.length
 .rw [if_pos hlt]
  have Y:t < xs.length:=by omega
  have J:xs[t]?=some xs[t]:=yAI Y
  refine ZAs (SqL.of hl) (atI_nN J) ⟨ZAU (by decide),fun r B=>q _ _ (ZAK B _) ?_⟩
  unfold front
  rw [J]
  exact ⟨r,rfl,ZAF⟩
 .rw [if_neg hlt]
  refine q _ _ (.refl _) ?_
  unfold front
  rw [yBL (by omega)]
  rfl
theorem ok_Pour_goes_on {f:Addr} {fd:FuncData} (F:Fun K "goes_on" "Pour.goes_on" ZA5 f fd) (T:Bt K mg C_Join C_Pile C_Pour C_Asker C_AskedRule)
  (z:Mt P w K mg base CX0 C_Asker "ahead" 3 ["self","p","q"] (ZCV C_Asker C_AskedRule ZBS))
 :FnOk P w K mg base CX0 4 f fd ["self","p","q"] (ZDf C_Asker C_AskedRule C_Pour):=by
 refine F.ok sc_Pour_goes_on (fun vs H Q E h=>?_) (fun O A outer s H vs Q E L h=>?_)
 .obtain ⟨c,pr,p,pl,tk,ml,wd,x,y,k,post,rfl,st,J,B,w,q⟩:=h
  rfl
 obtain ⟨c,pr,p,pl,tk,ml,wd,x,y,k,post,rfl,st,J,B,w,q⟩:=h
 refine ⟨_,(ZAH (ZAS (ZBJ z (L.mono (by decide)) ZAV (ZAQ (pv 0) rfl) (ZAA (pv 1) (ZAA (pv 2) ZAD))))),?_⟩
 walk_at "rd"
 exact J.get T.cl_Pour T.n_Pour_asker (by walk_at "lk") (st.ha.meth (by walk_at "lk") (st.ahead B w q))
theorem ok_Pour_met {f:Addr} {fd:FuncData} (F:Fun K "met" "Pour.met" ZBq f fd) (T:Bt K mg C_Join C_Pile C_Pour C_Asker C_AskedRule)
  (B:Mt P w K mg base CX0 C_Pour "goes_on" 4 ["self","p","q"] (ZDf C_Asker C_AskedRule C_Pour))
 :FnOk P w K mg base CX0 5 f fd ["self","one","other"] (ZFT C_Asker C_AskedRule C_Pour):=by
 refine F.ok sc_Pour_met (fun vs H Q E h=>?_) (fun a0 A outer s H vs Q E hr h=>?_)
 .obtain ⟨c,pr,p,pl,tk,ml,wd,u1,Y,one,J,post,rfl,st,Z,h1,h2,hk,w,q⟩:=h
  rfl
 obtain ⟨c,pr,p,pl,tk,ml,wd,u1,Y,one,J,post,rfl,st,Z,h1,h2,hk,w,q⟩:=h
 refine ⟨_,(ZAB (ZBC (PW.pt (ZEw (ZAT ZDS (pv 1) ZCD (ZAY _)) (ZD1 (ZAT ZDS (pv 2) ZCD (ZAY _)))))
  (ZAH (ZAS (ZBD (ZAT ZDS (pv 1) ZCD (ZAY _)) (pv 2) (pv 1)))) ZAe)
  (ZAH (ZAS (ZBD (ZB0 (ZBJ B (hr.mono (by decide)) ZAV (pv 0) (ZAA (ZAm ZBG (pv 1) ZAG (fun _ _=>rfl)) (ZAA (ZAm ZBG (pv 2) ZAG (fun _ _=>rfl)) ZAD)))) (pv 1) (pv 2))))),?_⟩
 walk_at "rd"
 have nn:∀ t,V.ref t≠V.non:=fun _ z=>by cases z
 cases one with
 | none=>
  cases (show u1=V.non from h1)
  rw [if_pos rfl,if_pos rfl]
  exact q Y H J pr .refl st h2 w
 | some x=>
  obtain ⟨t1,rfl,L⟩:=h1
  rw [if_neg (nn _)]
  cases J with
  | none=>
   cases (show Y=V.non from h2)
   rw [if_pos rfl,if_neg (nn _)]
   exact q _ H (some x) pr .refl st ⟨t1,rfl,L⟩ w
  | some y=>
   obtain ⟨t2,rfl,O⟩:=h2
   rw [if_neg (nn _)]
   refine Z.meth (by walk_at "lk") (ZA9 (SqT.of L) (ZAl (by decide) rfl) (ZA9 (SqT.of O) (ZAl (by decide) rfl) ?_))
   have w:Wp c.n c.an (ahd x.1 y.1 fun b=>.ret (if b then some x else some y)) pr post:=w
   refine ⟨c,pr,p,pl,tk,ml,wd,x.1,y.1,_,post,rfl,st,Z,hk,w,fun b H2 pr2 U s2 w2=>⟨_,rfl,?_⟩⟩
   cases b
   .rw [if_neg (by decide)]
    exact q _ H2 (some y) pr2 U s2 ⟨t2,rfl,st.tup U O⟩ w2
   .rw [if_pos rfl]
    exact q _ H2 (some x) pr2 U s2 ⟨t1,rfl,st.tup U L⟩ w2
theorem ok_Pour_held {f:Addr} {fd:FuncData} (F:Fun K "held" "Pour.held" ZBd f fd) (T:Bt K mg C_Join C_Pile C_Pour C_Asker C_AskedRule)
  (O:Mt P w K mg base CX0 C_Pour "met" 5 ["self","one","other"] (ZFT C_Asker C_AskedRule C_Pour))
 :FnOk P w K mg base CX0 6 f fd ["self","meetings","went_on"] (ZD7 C_Asker C_AskedRule C_Pour):=by
 refine F.ok sc_Pour_held (fun vs H Q E h=>?_) (fun b4 A outer s H vs Q E hr h=>?_)
 .obtain ⟨c,pr,p,pl,tk,ml,wd,mt,wo,ax,ms,w0,B,k,kvs,post,rfl,st,hp,np,aa,a3,hM,am,af,dt,hB,a4,hk,w,a5,q⟩:=h
  rfl
 obtain ⟨c,pr,p,pl,tk,ml,wd,mt,wo,ax,ms,w0,B,k,kvs,post,rfl,st,hp,np,aa,a3,hM,am,af,dt,hB,a4,hk,w,a5,q⟩:=h
 refine ⟨_,(ZAB (ZAO (i:=3) sc_Pour_held.nd rfl (by walk_at "o") (ZA0 (call_dictC) rfl T.b_dict PyProof.Rows.boot_dict (ZAA (pv 2) ZAD)))
  (ZAB (ZB2 PassesOwn.never rfl (ZBU (pv 1)) (ZEV (n:=3) rfl (ZA8 (ZAd (i:=4) sc_Pour_held.nd rfl (by walk_at "o")) (ZA8 (ZAd (i:=5) sc_Pour_held.nd rfl (by walk_at "o")) (ZA8 (ZAd (i:=6) sc_Pour_held.nd rfl (by walk_at "o")) ZDO))))
  (ZAH (ZED (ZEZ hr) (pv 3) (ZA3 (ZAA (pv 4) (ZAA (pv 6) ZAD))) (ZBJ O (hr.mono (by decide)) ZAV (pv 0) (ZAA (pe_dget (ZEZ hr) (pv 3) (ZA3 (ZAA (pv 4) (ZAA (pv 5) ZAD))) (fun _ _=>rfl)) (ZAA (pe_dget (ZEZ hr) (pv 3) (ZA3 (ZAA (pv 5) (ZAA (pv 6) ZAD))) (fun _ _=>rfl)) ZAD))) rfl)))
  (ZAH (ZAS (pv 3))))),?_⟩
 walk_at "rd"
 refine ⟨wo,kvs,rfl,dt.hd,dt.sm,fun d hd=>?_⟩
 obtain ⟨H1,e1,s1,h1⟩:=newH hd (.dT kvs)
 rw [e1];clear e1
 have ay:DT H1 d w0 B kvs:=⟨h1,dt.sm,dt.len,(dt.mono s1).val⟩
 have a7:=st.off hd
 refine ZCz (SqL.of (s1 _ _ a3)) (fun i σ X=>∃ v4 v5 v6 wi kvi pr',σ=[some (.ref p),some (.ref mt),some (.ref wo),some (.ref d),v4,v5,v6] /\ DT X d wi (B+k * i) kvi /\ (k=1∨k=0 /\ ∀ m∈ms,(wi m.1 m.2.2).isSome=true) /\ SitR C_Asker C_AskedRule X c pr' /\ Fr c.S H X /\ Wp c.n c.an (ZBm (ms.drop i) wi) pr' post) ⟨_,_,_,w0,kvs,pr,rfl,by rw [Nat.mul_zero];exact ay,a4,st.mono s1,s1.fr,w⟩ (fun i σ X _ ⟨_,_,_,_,_,_,_,_,_,_,f,_⟩=>SqL.of (f _ _ aa a3)) ?_ ?_
 .rintro i x σ X hx ⟨v4,v5,v6,wi,kvi,pr',rfl,L,a2,a1,fi,J⟩
  have hi:=(yAR.mp hx).1
  rw [hM.len] at hi
  obtain ⟨m,hm⟩:∃ m,ms[i]?=some m:=⟨_,yAI hi⟩
  obtain ⟨t,a9,aw⟩:=hM.get i m hm
  rw [hx] at a9
  cases a9
  refine ZDR (SqT.of (st.tup fi aw)) rfl ?_
  walk_at "rd"
  rw [drop_consG hm,ZBm] at J
  have ab:=ZB3 fi np hp
  cases e1:wi m.1 m.2.1 with
  | none=>rw [e1] at J;exact absurd J (a5 _)
  | some x=>
  cases e2:wi m.2.1 m.2.2 with
  | none=>rw [e1,e2] at J;exact absurd J (a5 _)
  | some y=>
   rw [e1,e2] at J
   dsimp only at J
   obtain ⟨u1,az,ap⟩:=L.val _ _ _ e1
   obtain ⟨u2,as,al⟩:=L.val _ _ _ e2
   refine ab.meth (by walk_at "lk") ⟨ZAU (by decide),fun k1 ao=>?_⟩
   obtain ⟨X1,ad,a8,au⟩:=newH ao (.tup [.int (m.1:Int),.int (m.2.1:Int)])
   rw [ad];clear ad
   refine ⟨d,u1,rfl,by have:=DGet.t (k:=kQ m.1 m.2.1) (a8 _ _ L.hd) au;rw [az] at this;exact this,ZAU (by decide),fun k2 b1=>?_⟩
   obtain ⟨X2,ae,ar,b0⟩:=newH b1 (.tup [.int (m.2.1:Int),.int (m.2.2:Int)])
   rw [ae];clear ae
   have S2:=a8.trans ar
   refine ⟨d,u2,rfl,by have:=DGet.t (k:=kQ m.2.1 m.2.2) (S2 _ _ L.hd) b0;rw [as] at this;exact this,?_⟩
   have a0:=a1.mono S2
   refine ⟨c,pr',p,pl,tk,ml,wd,u1,u2,x,y,_,rfl,a0,ab.mono S2,ap.keep (fun _ _ z=>S2 _ _ z),al.keep (fun _ _ z=>S2 _ _ z),hk,J.bind,fun u Y v pr2 fY av ag ah=>⟨ZAU (by decide),fun k3 b2=>?_⟩⟩
   obtain ⟨Y2,a6,Z,aq⟩:=newH b2 (.tup [.int (m.1:Int),.int (m.2.2:Int)])
   rw [a6];clear a6
   have U:DT Y2 d wi (B+k * i) kvi:=((L.mono S2).fr fY (Ad.SA a7) (fun t z h=>Ad.SA (a0.tupS h (fun _ z=>by cases z) (fun _ _ _ z=>by cases z)))).mono Z
   have b3:k * i <= 400:=by
    rcases a4 with rfl | ⟨rfl,_⟩
    .omega
    .omega
   refine ⟨d,_,rfl,DPut.t (k:=kQ m.1 m.2.2) U.hd aq (ZAq (by have:=U.len;omega)),?_⟩
   have ac:=af m (yAO hm)
   have aj:k=1∨(wi m.1 m.2.2).isSome=true:=by
    rcases a2 with z | ⟨_,z⟩
    .exact .inl z
    .exact .inr (z m (yAO hm))
   refine ⟨_,_,_,Po.put wi m.1 m.2.2 v,putK kvi (kQ m.1 m.2.2) u,pr2,rfl,?_,a2.imp id fun z=>⟨z.1,fun m' ai=>ZC9 (z.2 m' ai)⟩,?_,?_,ah⟩
   .rw [Nat.mul_succ,<- Nat.add_assoc]
    exact U.put ac.1 ac.2 (ag.keep fun _ _ z=>Z _ _ z) aj
   .exact (av.mono Z).apart (S:=[d]) ZFq (fun b hb=>by rw [yAH.mp hb];exact .inr (.inr (.inl ⟨_,U.hd⟩))) fun b hb=>by rw [yAH.mp hb];exact a7
   .intro b o n hb
    rw [ZAI (ZAE hb hd)]
    exact Z _ _ (fY _ _ n (S2 _ _ (fi _ _ n hb)))
 rintro σ X ⟨v4,v5,v6,wi,kvi,pr',rfl,L,a2,a1,fi,J⟩
 rw [hM.len] at L J
 rw [List.drop_eq_nil_of_le (yAB _)] at J
 walk_at "rd"
 exact q d X wi kvi pr' fi hd L a1 J
theorem ok_Pour_top {f:Addr} {fd:FuncData} (F:Fun K "top" "Pour.top" ZBp f fd) (T:Bt K mg C_Join C_Pile C_Pour C_Asker C_AskedRule)
 :FnOk P w K mg base CX0 1 f fd ["self"] (ZF9 C_Pour):=by
 refine F.ok sc_Pour_top (fun vs H Q E h=>?_) (fun a0 A outer s H vs Q E Z h=>?_)
 .obtain ⟨p,ak,pl,tk,ml,wd,pls,pcs,w0,B,kvs,top,rfl,L,O,J,q⟩:=h
  rfl
 obtain ⟨p,ak,pl,tk,ml,wd,pls,pcs,w0,B,kvs,top,rfl,L,O,J,q⟩:=h
 refine ⟨_,(ZAH (ZAS (ZCU PySem.F.plainAttrs_dict PySem.F.slot_dict_get PySem.F.type_dict_get (mt_dget (ZEZ Z)) (ZAQ (pv 0) rfl) (ZAA (ZA3 (ZAA ZAG (ZAA (ZAP ZAJ rfl T.b_len PySem.boot_len (ZAA (ZAQ (pv 0) rfl) ZAD)) ZAD))) ZAD)))),?_⟩
 walk_at "rd"
 refine L.hp.get T.cl_Pour T.n_Pour_went_on (by walk_at "lk") ?_
 walk_at "rd"
 refine ⟨.inr (.inr (.inl ⟨rfl,.inr ⟨_,O.hd⟩⟩)),?_⟩
 refine L.hp.get T.cl_Pour T.n_Pour_pieces (by walk_at "lk") ?_
 walk_at "rd"
 refine ⟨pl,_,rfl,.inl (SqL.of L.hpl),ZAU (by decide),fun t ht=>?_⟩
 rw [yAA,L.len]
 obtain ⟨H1,U,s1,h1⟩:=newH ht (.tup [.int ((0:Nat):Int),.int (pcs.length:Int)])
 rw [show ((0:Nat):Int)=0 from rfl] at U
 rw [U];clear U
 refine ⟨wd,_,_,rfl,rfl,DGet.t (k:=kQ 0 pcs.length) (s1 _ _ O.hd) h1,?_⟩
 rcases J with Y | ⟨rfl,rfl⟩
 .obtain ⟨u,hu,fv⟩:=O.val _ _ _ Y
  rw [hu]
  exact q u H1 s1 (fv.keep fun _ _ z=>s1 _ _ z)
 .have:kvs=[]:=yBZ.mp (by have:=O.len;omega)
  rw [this]
  exact q _ H1 s1 rfl
theorem ok_Pour_left {f:Addr} {fd:FuncData} (F:Fun K "left" "Pour.left" ZBb f fd) (T:Bt K mg C_Join C_Pile C_Pour C_Asker C_AskedRule)
 :FnOk P w K mg base CX0 1 f fd ["self"] (ZFU C_Pour):=by
 refine F.ok sc_Pour_left (fun vs H Q E h=>?_) (fun a0 A outer s H vs Q E hr h=>?_)
 .obtain ⟨p,ak,pl,tk,ml,wd,pls,pcs,ts,rfl,z,htk,hpl,Y,L,O,q⟩:=h
  rfl
 obtain ⟨p,ak,pl,tk,ml,wd,pls,pcs,ts,rfl,z,htk,hpl,Y,L,O,q⟩:=h
 refine ⟨_,(ZAH (ZAS (ZAR ZBW (ZAP (call_sum rfl) rfl T.b_sum PyProof.Rows.boot_sum (ZAA (ZCw rfl (k:=1) (js:=[]) (N':=["piece"]) (by rfl) (ZBU (ZAQ (pv 0) rfl)) (fun _ _ _ _=>ZAd (i:=0) (show (["piece"]:List Str).Nodup by decide +kernel) rfl (by walk_at "o")) (fun _ _ _ _=>ZBT) (fun _ _ _ _=>(ZAP (call_len_seqK K) rfl T.b_len PySem.boot_len (ZAA (pv 0) ZAD)))) ZAD)) (ZAP (call_sum rfl) rfl T.b_sum PyProof.Rows.boot_sum (ZAA (ZAQ (pv 0) rfl) ZAD))))),?_⟩
 walk_at "rd"
 refine z.hp.get T.cl_Pour T.n_Pour_pieces (by walk_at "lk") ?_
 walk_at "rd"
 refine ZCq (SqL.of z.hpl) (by rw [yAA,z.len];omega) (fun i ys σ H'=>∃ v,σ=[v] /\ H'=H /\ ys=((pcs.take i).map fun xs=>((xs.length:Nat):Int)).map V.int) ⟨_,rfl,rfl,rfl⟩ (fun i ys σ H' _ ⟨_,_,e,U⟩=>⟨by rw [e];exact SqL.of z.hpl,by rw [U,yAA,yAA,yBA];omega⟩) ?_ ?_
 .rintro i ys x σ H' hi B ⟨v,rfl,rfl,rfl⟩
  rw [yAA,z.len] at hi
  obtain ⟨xs,J⟩:∃ xs,pcs[i]?=some xs:=⟨_,yAI hi⟩
  obtain ⟨l,el,hl⟩:=z.at J
  rw [yAM,el] at B
  cases B
  walk_at "rd"
  refine ⟨l,_,rfl,.inl (SqL.of hl),?_⟩
  refine Nxt.of (by rw [yAA,z.len];exact hi) ⟨_,rfl,rfl,?_⟩
  rw [List.take_add_one,J,yAL,yAL]
  show _=_++[V.int ((xs.length:Nat):Int)]
  rw [yAA]
 rintro ys σ H' ⟨v,rfl,rfl,rfl⟩ sl Z
 rw [yAA,z.len,yCH (yAB _)]
 obtain ⟨H1,e1,s1,h1⟩:=newH Z (.lst ((pcs.map fun xs=>((xs.length:Nat):Int)).map V.int))
 rw [e1];clear e1
 refine ⟨sl,_,rfl,SqL.of h1,⟨by rw [yAA];omega,fun x B=>by
  obtain ⟨xs,h2,rfl⟩:=yBN.mp B
  have:=L xs h2
  omega⟩,?_⟩
 refine (z.mono s1).hp.get T.cl_Pour T.n_Pour_taken (by walk_at "lk") ?_
 have U:nL ts=(ts.map fun (n:Nat)=>(n:Int)).map V.int:=by unfold nL;rw [List.map_map];rfl
 refine ⟨tk,_,rfl,SqL.of (by rw [<- U];exact s1 _ _ htk),⟨by rw [yAA];omega,fun x B=>by
  obtain ⟨t,h2,rfl⟩:=yBN.mp B
  have:=O t h2
  omega⟩,?_⟩
 rw [sum_nat,show (pcs.map fun xs=>((xs.length:Nat):Int))=(pcs.map List.length).map fun (n:Nat)=>(n:Int) by rw [List.map_map];rfl,sum_nat]
 exact q H1 s1
theorem ok_Pour_init {f:Addr} {fd:FuncData} (F:Fun K "__init__" "Pour.__init__" ZBc f fd) (T:Bt K mg C_Join C_Pile C_Pour C_Asker C_AskedRule)
  (O:Fn P w K mg base CX0 "meetings_of" 9 ["first","beyond"] (ZBn 9))
  (Z:Mt P w K mg base CX0 C_Pour "held" 6 ["self","meetings","went_on"] (ZD7 C_Asker C_AskedRule C_Pour))
  (J:Mt P w K mg base CX0 C_Pour "front_of" 1 ["self","piece","taken"] (ZC7 C_Pour))
 :FnOk P w K mg base CX0 10 f fd ["self","asker","pieces"] (ZCt C_Asker C_AskedRule C_Pour):=by
 refine F.ok sc_Pour_init (fun vs H Q E h=>?_) (fun d6 A outer s H vs Q E hr h=>?_)
 .obtain ⟨c,pr,x,dx,hl,cb,pcs,post,rfl,hx,st,ar,ai,b5,hn,nx,hk,w,c9,q⟩:=h
  rfl
 obtain ⟨c,pr,x,dx,hl,cb,pcs,post,rfl,hx,st,ar,ai,b5,hn,nx,hk,w,c9,q⟩:=h
 refine ⟨_,(ZAB (ZA1 (pv 0) (pv 1) rfl)
  (ZAB (ZA1 (pv 0) (ZCw rfl (k:=1) (js:=[]) (N':=["piece"]) (by rfl) (ZBU (pv 2)) (fun _ _ _ _=>ZAd (i:=0) (show (["piece"]:List Str).Nodup by decide +kernel) rfl (by walk_at "o")) (fun _ _ _ _=>ZBT) (fun _ _ _ _=>(ZA0 (call_list_ofK K) rfl T.b_list PyProof.Rows.boot_list (ZAA (pv 0) ZAD)))) rfl)
  (ZAW
  (ZAB (ZA1 (pv 0) (ZCw rfl (k:=1) (js:=[]) (N':=["piece"]) (by rfl) (ZBU (ZAQ (pv 0) rfl)) (fun _ _ _ _=>ZAd (i:=0) (show (["piece"]:List Str).Nodup by decide +kernel) rfl (by walk_at "o")) (fun _ _ _ _=>ZBT) (fun _ _ _ _=>ZAG)) rfl)
  (ZAW
  (ZAB (ZA1 (pv 0) (ZAw O (hr.mono (by decide)) rfl ZAV (ZAA ZAG (ZAA (ZAP ZAJ rfl T.b_len PySem.boot_len (ZAA (ZAQ (pv 0) rfl) ZAD)) ZAD))) rfl)
  (ZAW
  (ZAB (ZA1 (pv 0) pe_dnewT rfl)
  (ZAB (ZB2 PassesOwn.never rfl (ZDB rfl T.b_range (ZAA (ZAP ZAJ rfl T.b_len PySem.boot_len (ZAA (ZAQ (pv 0) rfl) ZAD)) ZAD)) (ZAd (i:=3) sc_Pour_init.nd rfl (by walk_at "o"))
  (ZAH (ZED (ZEZ hr) (ZAQ (pv 0) rfl) (ZA3 (ZAA (pv 3) (ZAA (ZAR ZAh (pv 3) ZAG) ZAD))) (ZBJ J (hr.mono (by decide)) ZAV (pv 0) (ZAA (pv 3) (ZAA ZAG ZAD))) rfl)))
  (ZAW
  (ZAH (ZA1 (pv 0) (ZBJ Z (hr.mono (by decide)) ZAV (pv 0) (ZAA (ZAQ (pv 0) rfl) (ZAA (ZAQ (pv 0) rfl) ZAD))) rfl)))))))))))),?_⟩
 walk_at "rd"
 have c4:hl≠x:=fun z=>by rw [z,hx] at ar;cases ar
 refine setX hx T.cl_Pour T.n_Pour_asker (by decide) fun H2 x2 k2=>?_
 walk_at "rd"
 have ae:∀ b o,b≠x->H b=some o->H2 b=some o:=fun b o n e=>by rw [k2 b n];exact e
 have c7:∀ (i:Nat) l ys,cb[i]?=some l->pcs[i]?=some ys->H2 l=some (.lst (nL ys)):=fun i l ys h1 h2=>by
  have h:=b5 i l ys h1 h2
  exact ae _ _ (fun z=>by rw [z,hx] at h;cases h) h
 refine ZCq (SqL.of (ae _ _ c4 ar)) (by rw [yAA];omega) (fun i ys σ H'=>∃ v ns,σ=[v] /\ Same H2 H' /\ ys=ns.map V.ref /\ ns.length=i /\ (∀ (j:Nat) l zs,ns[j]?=some l->pcs[j]?=some zs->H' l=some (.lst (nL zs))) /\ ∀ l∈ns,H2 l=none) ⟨_,[],rfl,.refl _,rfl,rfl,fun j l zs h=>by simp at h,fun l h=>by cases h⟩ (fun i ys σ H' _ ⟨_,ns,_,e,e2,e3,_⟩=>⟨SqL.of (e _ _ (ae _ _ c4 ar)),by rw [e2,yAA];omega⟩) ?_ ?_
 .rintro i ys u σ H' hi hu ⟨v,ns,rfl,sA,rfl,d0,d3,cr⟩
  rw [yAA] at hi
  have cx:i < pcs.length:=by omega
  obtain ⟨zs,aw⟩:∃ zs,pcs[i]?=some zs:=⟨_,yAI cx⟩
  rw [yAM,yAI hi] at hu
  cases hu
  have d1:=sA _ _ (c7 i _ zs (yAI hi) aw)
  walk_at "rd"
  refine ⟨_,_,rfl,.inl (SqL.of d1),fun l' bf=>?_⟩
  refine Nxt.of (by rw [yAA];exact hi) ⟨_,ns++[l'],rfl,sA.new bf,by rw [yAL];rfl,by rw [yAE,d0];rfl,fun j l cv h1 h2=>?_,fun l h=>?_⟩
  .by_cases z:j < ns.length
   .rw [yBD z] at h1
    exact ZAK bf _ _ _ (d3 j l cv h1 h2)
   .rw [yBC (by omega)] at h1
    cases hk:j-ns.length with
    | zero=>
     rw [hk] at h1
     cases h1
     rw [show j=i by omega,aw] at h2
     cases h2
     exact ZAF
    | succ m=>rw [hk] at h1;simp at h1
  .rcases yAX.mp h with h | h
   .exact cr l h
   .rw [yAH.mp h];exact sA.free bf
 rintro ys σ H3 ⟨v,pls,rfl,s3,rfl,am,b1,av⟩ pl au
 rw [yAA] at am
 obtain ⟨H4,e4,s4,h4⟩:=newH au (.lst (pls.map V.ref))
 rw [e4];clear e4
 have x4:=s4 _ _ (s3 _ _ x2)
 have a5:pl≠x:=Ne.symm (ZAE (s3 _ _ x2) au)
 refine setX x4 T.cl_Pour T.n_Pour_pieces ZFb fun H5 x5 k5=>?_
 walk_at "rd"
 have b0:∀ b o,b≠x->H4 b=some o->H5 b=some o:=fun b o n e=>by rw [k5 b n];exact e
 have L:=b0 _ _ a5 h4
 have a0:∀ l∈pls,l≠x:=fun l h z=>by have:=av l h;rw [z,x2] at this;cases this
 have a8:∀ (j:Nat) l zs,pls[j]?=some l->pcs[j]?=some zs->H5 l=some (.lst (nL zs)):=fun j l zs h1 h2=>b0 _ _ (a0 l (yAO h1)) (s4 _ _ (b1 j l zs h1 h2))
 refine ZAc ?_
 walk_at "rd"
 have i5:Ins H5 x C_Pour [("pieces",.ref pl),("asker",.ref c.a)]:=(Ins.of x5 (yAK ZFE (by decide))).congr fun f=>by simp only [ZAa,lkc]
 refine i5.get T.cl_Pour T.n_Pour_pieces (by walk_at "lk") ?_
 refine ZCq (SqL.of L) (by rw [yAA];omega) (fun i ys σ H'=>∃ v,σ=[v] /\ Same H5 H' /\ ys=nL (List.replicate i 0)) ⟨_,rfl,.refl _,rfl⟩ (fun i ys σ H' _ ⟨_,_,e,e2⟩=>⟨SqL.of (e _ _ L),by rw [e2,yAA,yBR];exact yAB _⟩) ?_ ?_
 .rintro i ys u σ H' hi hu ⟨v,rfl,sA,rfl⟩
  walk_at "rd"
  refine Nxt.of hi ⟨_,rfl,sA,?_⟩
  unfold nL
  rw [List.replicate_succ',yAL];rfl
 rintro ys σ H6 ⟨v,rfl,s6,rfl⟩ tk ad
 rw [yAA,am,ai]
 obtain ⟨H7,e7,s7,h7⟩:=newH ad (.lst (nL (List.replicate pcs.length 0)))
 rw [e7];clear e7
 have x7:=s7 _ _ (s6 _ _ x5)
 have a6:tk≠x:=Ne.symm (ZAE (s6 _ _ x5) ad)
 refine setX x7 T.cl_Pour T.n_Pour_taken ZFE fun H8 x8 k8=>?_
 walk_at "rd"
 have aq:∀ b o,b≠x->H5 b=some o->H8 b=some o:=fun b o n e=>by rw [k8 b n];exact s7 _ _ (s6 _ _ e)
 have ac:H8 tk=some (.lst (nL (List.replicate pcs.length 0))):=by rw [k8 tk a6];exact h7
 refine ZAc ?_
 walk_at "rd"
 have i8:Ins H8 x C_Pour [("taken",.ref tk),("pieces",.ref pl),("asker",.ref c.a)]:=(Ins.of x8 (yAK ZFD (by decide))).congr fun f=>by simp only [ZAa,lkc]
 refine i8.get T.cl_Pour T.n_Pour_pieces (by walk_at "lk") ⟨pl,_,rfl,.inl (SqL.of (aq _ _ a5 L)),?_⟩
 rw [yAA,am,ai]
 refine ⟨0,pcs.length,rfl,yAJ _,by omega,by decide,yAK (by omega:pcs.length-0 <= 256) (by decide),fun ml H9 ag s9 ay b6 ca=>?_⟩
 have x9:=s9 _ _ x8
 have ax:ml≠x:=Ne.symm (ZAE x8 ay)
 refine setX x9 T.cl_Pour T.n_Pour_meetings ZFD fun aj be ah=>?_
 walk_at "rd"
 have Y:∀ b o,b≠x->H8 b=some o->aj b=some o:=fun b o n e=>by rw [ah b n];exact s9 _ _ e
 refine ZAc ?_
 walk_at "rd"
 intro wd ab
 obtain ⟨d7,cg,ba,c0⟩:=newH ab (.dT [])
 rw [cg];clear cg
 have cc:=ba _ _ be
 have aa:wd≠x:=Ne.symm (ZAE be ab)
 refine setX cc T.cl_Pour T.n_Pour_went_on ZFy fun a1 co bm=>?_
 walk_at "rd"
 have a2:∀ b o,b≠x->aj b=some o->a1 b=some o:=fun b o n e=>by rw [bm b n];exact ba _ _ e
 have bd:Ins a1 x C_Pour (fP c.a pl tk ml wd):=(Ins.of co (yAK ZGC (by decide))).congr fun f=>by simp only [ZAa,lkc]
 have a9:aj ml=some (.lst ag):=by rw [ah ml ax];exact b6
 have b8:MsAt a1 ag (Po.mts 0 pcs.length):=ca.keep fun t z h=>by
  have n:t≠x:=fun e=>by rw [e,x9] at h;cases h
  exact a2 _ _ n (by rw [ah t n];exact h)
 have up:∀ b o,b≠x->H5 b=some o->a1 b=some o:=fun b o n e=>a2 _ _ n (Y _ _ n (aq _ _ n e))
 have bg:∀ b o,b≠x->H b=some o->a1 b=some o:=fun b o n e=>up _ _ n (b0 _ _ n (s4 _ _ (s3 _ _ (ae _ _ n e))))
 have B:PB C_Pour a1 x c.a pl tk ml wd pls pcs:=⟨bd,up _ _ a5 L,by omega,fun i l ys h1 h2=>up _ _ (a0 l (yAO h1)) (a8 i l ys h1 h2)⟩
 have bw:SitR C_Asker C_AskedRule a1 c pr:=st.apart (S:=[x]) (fun b o n h=>bg b o (fun z=>n (by rw [z];exact yAC)) h) (fun b hb=>by rw [yAH.mp hb];exact .inr (.inl ⟨_,_,_,hx⟩)) fun b hb=>by rw [yAH.mp hb];exact nx
 have fx:∀ b,H2 b=none->H b=none:=fun b h=>by
  cases e:H b with
  | none=>rfl
  | some o=>
   have n:b≠x:=fun z=>by rw [z,x2] at h;cases h
   rw [ae b o n e] at h;cases h
 have f5:∀ b,b≠x->H5 b=none->H b=none:=fun b n h=>fx b (s3.free (s4.free (by rw [<- k5 b n];exact h)))
 have f8:∀ b,b≠x->H8 b=none->H b=none:=fun b n h=>f5 b n (s6.free (s7.free (by rw [<- k8 b n];exact h)))
 have cf:∀ b,b≠x->aj b=none->H b=none:=fun b n h=>f8 b n (s9.free (by rw [<- ah b n];exact h))
 have c2:=fx pl (s3.free au)
 have bt:=f5 tk a6 (s6.free ad)
 have cd:=f8 ml ax ay
 have cj:=cf wd aa ab
 have b4:∀ l∈pls,H l=none:=fun l h=>fx l (av l h)
 have n5:∀ b o,H5 b=some o->b≠tk:=fun b o h=>ZAE (s6 _ _ h) ad
 have n8:∀ b o,H8 b=some o->b≠ml:=fun b o h=>ZAE h ay
 have al:∀ b o,aj b=some o->b≠wd:=fun b o h=>ZAE h ab
 have a7:a1 wd=some (.dT []):=by rw [bm wd aa];exact c0
 have bn:=a2 _ _ a6 (Y _ _ a6 ac)
 have bb:=a2 _ _ ax a9
 have ch:pl≠wd:=al _ _ (Y _ _ a5 (aq _ _ a5 L))
 have ct:tk≠wd:=al _ _ (Y _ _ a6 ac)
 have cu:ml≠wd:=al _ _ a9
 have as:∀ l∈pls,l≠wd /\ l≠tk:=fun l h=>by
  obtain ⟨j,hj,e⟩:=List.getElem_of_mem h
  have e1:pls[j]?=some l:=by rw [yAI hj,e]
  have h5:=a8 j l _ e1 (yAI (show j < pcs.length by omega))
  exact ⟨al _ _ (Y _ _ (a0 l h) (aq _ _ (a0 l h) h5)),n5 _ _ h5⟩
 have bh:tk≠pl:=Ne.symm (n5 _ _ L)
 have bj:tk≠ml:=n8 tk _ ac
 clear k2 k5 k8 ah bm x2 x4 x5 x7 x8 x9 be cc i5 i8 ae b0 aq Y a2 s3 s4 s6 s7 s9 ba ca h4 h7 c0 L a8 ac b6 a9 b1 av fx f5 f8 cf n5 n8 al c7 up
 refine bd.get T.cl_Pour T.n_Pour_pieces (by walk_at "lk") ⟨pl,_,rfl,.inl (SqL.of B.hpl),?_⟩
 rw [yAA,B.len]
 refine ZEJ (by omega) (ZEI (fun i σ X=>∃ v3 kvs,σ=[some (.ref x),some (.ref c.a),some (.ref hl),v3] /\ DT X wd (lvW pcs i) i kvs /\ ∀ b o,b≠wd->a1 b=some o->X b=some o) ⟨_,[],rfl,⟨a7,(fun kv h=>by cases h),yAB _,(fun a c v h=>by unfold lvW at h;rw [if_neg (by omega)] at h;cases h)⟩,fun b o _ h=>h⟩ ?_ ?_)
 .rintro i σ X hi ⟨v3,kvs,rfl,cy,kX⟩
  have c3:i < pcs.length:=by omega
  obtain ⟨zs,aw⟩:∃ zs,pcs[i]?=some zs:=⟨_,yAI c3⟩
  have ao:PB C_Pour X x c.a pl tk ml wd pls pcs:=⟨ZB3 (S:=[wd]) (fun b o n h=>kX b o (fun z=>n (by rw [z];exact yAC)) h) (fun z=>aa (yAH.mp z).symm) B.hp,kX _ _ ch B.hpl,B.len,fun j l ys h1 h2=>kX _ _ (as l (yAO h1)).1 (B.pc j l ys h1 h2)⟩
  walk_at "rd"
  rw [Int.zero_add]
  refine ao.hp.meth (by walk_at "lk") ⟨x,c.a,pl,tk,ml,wd,pls,pcs,i,0,zs,rfl,ao,aw,fun u X2 bo fv=>?_⟩
  refine (ao.mono bo).hp.get T.cl_Pour T.n_Pour_went_on (by walk_at "lk") ?_
  walk_at "rd"
  refine ⟨ZAU (by decide),fun k1 cw=>?_⟩
  obtain ⟨X3,e3,bc,cm⟩:=newH cw (.tup [.int (i:Int),.int ((i+1:Nat):Int)])
  rw [show (i:Int)+1=((i+1:Nat):Int) by omega,e3];clear e3
  have bi:=(cy.mono bo).mono bc
  refine ⟨wd,_,rfl,DPut.t (k:=kQ i (i+1)) bi.hd cm (ZAq (by have:=bi.len;omega)),?_⟩
  have ef:front zs 0 i=frW pcs (List.replicate pcs.length 0) i:=(frW_at aw (by rw [List.getElem?_replicate,if_pos c3])).symm
  have ce:=bi.put (a:=i) (c:=i+1) (k:=1) (by omega) (by omega) (fv.keep fun _ _ z=>bc _ _ z) (.inl rfl)
  rw [ef,lvW_put] at ce
  exact ⟨_,_,rfl,ce,fun b o n h=>by rw [ZAI n];exact bc _ _ (bo _ _ (kX b o n h))⟩
 rintro σ X ⟨v3,kvs,rfl,b7,kX⟩
 rw [Int.toNat_natCast] at b7
 walk_at "rd"
 refine ZAc ?_
 walk_at "rd"
 have iX:Ins X x C_Pour (fP c.a pl tk ml wd):=ZB3 (S:=[wd]) (fun b o n h=>kX b o (fun z=>n (by rw [z];exact yAC)) h) (fun z=>aa (yAH.mp z).symm) bd
 have cn:=st.off cj
 have br:SitR C_Asker C_AskedRule X c pr:=bw.apart (S:=[wd]) (fun b o n h=>kX b o (fun z=>n (by rw [z];exact yAC)) h) (fun b hb=>by rw [yAH.mp hb];exact .inr (.inr (.inl ⟨_,a7⟩))) fun b hb=>by rw [yAH.mp hb];exact cn
 have b3:=kX _ _ cu bb
 have b2:MsAt X ag (Po.mts 0 pcs.length):=b8.keep fun t z h=>kX _ _ (fun e=>by rw [e,a7] at h;cases h) h
 refine iX.meth (by walk_at "lk") (iX.get T.cl_Pour T.n_Pour_meetings (by walk_at "lk") (iX.get T.cl_Pour T.n_Pour_went_on (by walk_at "lk") ?_))
 have sM:=Ad.SA (st.off cd)
 refine ⟨c,pr,x,pl,tk,ml,wd,ml,wd,ag,Po.mts 0 pcs.length,lvW pcs pcs.length,pcs.length,1,kvs,_,rfl,br,iX,Ad.SA nx,sM,b3,b2,by rw [Po.mts_len];omega,fun m hm=>?_,b7,by omega,.inl rfl,hk,w.also (ZDo _ _ (lvW_ix pcs pcs.length (yAB _))),fun pr' z=>c9 pr' z.2,fun d bq w1 kvs' pr2 af U a4 c1 cp=>?_⟩
 .have:=Po.mts_mem (a:=m.1) (m:=m.2.1) (c:=m.2.2) _ _ hm
  omega
 obtain ⟨bp,b9⟩:=cp
 obtain ⟨c8,bp⟩:=bp w1 rfl
 have bv:=ZB3 af (Ad.SA nx) iX
 refine bv.set T.cl_Pour T.n_Pour_went_on (fun a3 cz d2=>?_) ⟨_,by walk_at "lk"⟩
 have ci:d≠x:=fun z=>by
  obtain ⟨_,_,e1,_⟩:=iX.ex
  rw [z,e1] at U;cases U
 have az:∀ b o,b≠x->bq b=some o->a3 b=some o:=fun b o n h=>by rw [d2 b n];exact h
 have ao:PB C_Pour X x c.a pl tk ml wd pls pcs:=⟨iX,kX _ _ ch B.hpl,B.len,fun j l ys h1 h2=>kX _ _ (as l (yAO h1)).1 (B.pc j l ys h1 h2)⟩
 have ap:=ao.fr af (Ad.SA nx) (Ad.SA (st.off c2)) fun l h=>Ad.SA (st.off (b4 l h))
 obtain ⟨d5,d4,c5,_⟩:=bv.ex
 have tX:∀ b o,bq b=some o->(∀ C d f,o≠.ins C d f)->a3 b=some o:=fun b o h n=>az b o (fun z=>by
  rw [z,c5] at h;exact n _ _ _ (Option.some.inj h).symm) h
 have cq:Ins a3 x C_Pour (fP c.a pl tk ml d):=cz.congr fun f=>by
  simp only [ZAa,lkc]
  by_cases z:f=Str.ofString "went_on"
  .rw [if_pos z,if_pos z]
  .rw [if_neg z,if_neg z,if_neg z]
 have ck:pcs.length+1 * (Po.mts 0 pcs.length).length=2 * pcs.length-1:=by rw [Po.mts_len];omega
 rw [ck] at a4
 have bx:DT a3 d w1 (2 * pcs.length-1) kvs':=⟨az d _ ci a4.hd,a4.sm,a4.len,fun a c v h=>let ⟨u,h1,h2⟩:=a4.val a c v h;⟨u,h1,h2.keep fun t z y=>tX _ _ y (fun _ _ _ z=>by cases z)⟩⟩
 have bu:PB C_Pour a3 x c.a pl tk ml d pls pcs:=⟨cq,tX _ _ ap.hpl (fun _ _ _ z=>by cases z),ap.len,fun j l ys h1 h2=>tX _ _ (ap.pc j l ys h1 h2) (fun _ _ _ z=>by cases z)⟩
 have c6:MsAt a3 ag (Po.mts 0 pcs.length):=(b2.keep fun t z h=>br.tup af h).keep fun t z h=>tX _ _ h (fun _ _ _ z=>by cases z)
 have bz:SitR C_Asker C_AskedRule a3 c pr2:=c1.apart (S:=[x]) (fun b o n h=>az b o (fun z=>n (by rw [z];exact yAC)) h) (fun b hb=>by rw [yAH.mp hb];exact .inr (.inl ⟨_,_,_,c5⟩)) fun b hb=>by rw [yAH.mp hb];exact nx
 have gd:H d=none:=by
  cases e:H d with
  | none=>rfl
  | some o=>
   have h1:=bg d o ci e
   by_cases z:d=wd
   .rw [z,b7.hd] at U;cases U
   .rw [kX d o z h1] at U;cases U
 refine q pl tk ml d pls w1 a3 kvs' pr2 (fun b o n1 n2 h=>?_) ⟨bu,tX _ _ (af _ _ (Ad.SA (st.off bt)) (kX _ _ ct bn)) (fun _ _ _ z=>by cases z),⟨ag,tX _ _ (af _ _ sM b3) (fun _ _ _ z=>by cases z),c6⟩,bx,by rw [yBR],⟨bh,bj,fun l h=>(as l h).2⟩⟩ bp (fun j hj=>c8 _ _ (by unfold lvW;rw [if_pos ⟨rfl,hj⟩];rfl)) ⟨c2,bt,cd,gd,b4⟩ bz b9
 have n3:b≠wd:=fun z=>by rw [z,cj] at h;cases h
 exact az b o n1 (af _ _ n2 (kX b o n3 (bg b o n1 h)))
theorem ok_Pour_take {f:Addr} {fd:FuncData} (F:Fun K "take" "Pour.take" ZBa f fd) (T:Bt K mg C_Join C_Pile C_Pour C_Asker C_AskedRule)
  (U:Mt P w K mg base CX0 C_Pour "top" 1 ["self"] (ZF9 C_Pour))
  (B:Mt P w K mg base CX0 C_Pour "front_of" 1 ["self","piece","taken"] (ZC7 C_Pour))
  (L:Mt P w K mg base CX0 C_Pour "held" 6 ["self","meetings","went_on"] (ZD7 C_Asker C_AskedRule C_Pour))
 :FnOk P w K mg base CX0 7 f fd ["self"] (ZEl C_Asker C_AskedRule C_Pour):=by
 refine F.ok sc_Pour_take (fun vs H Q E h=>?_) (fun bt A outer s H vs Q E hr h=>?_)
 .obtain ⟨c,pr,p,pl,tk,ml,wd,pls,pcs,ts,w0,kvs,rfl,st,O,px,dw,ad,hn,hk,a3⟩:=h
  rfl
 obtain ⟨c,pr,p,pl,tk,ml,wd,pls,pcs,ts,w0,kvs,rfl,st,O,px,dw,ad,hn,hk,a3⟩:=h
 refine ⟨_,(ZAB (ZAO (i:=1) sc_Pour_take.nd rfl (by walk_at "o") (ZCS U (hr.mono (by decide)) ZAV (pv 0)))
  (ZAB (ZBC (ZAT ZDS (pv 1) ZCD (ZAY _))
  (ZAH (ZAS ZCD)) ZAe)
  (ZAW
  (ZAB (ZAO (i:=2) sc_Pour_take.nd rfl (by walk_at "o") (ZAm ZBG (pv 1) ZAG (fun _ _=>rfl)))
  (ZAB (ZAO (i:=3) sc_Pour_take.nd rfl (by walk_at "o") (ZAR ZAh (ZAm ZAg (ZAQ (pv 0) rfl) (pv 2) (fun _ _=>rfl)) ZAG))
  (ZAW
  (ZAB (ZCC (i:=4) sc_Pour_take.nd rfl (Or.inl rfl) rfl (k:=1) (js:=[2]) (N':=["meeting","piece"]) (by rfl) (ZBU (ZAQ (pv 0) rfl)) (fun _ _ _ _=>ZAd (i:=0) (show (["meeting","piece"]:List Str).Nodup by decide +kernel) rfl (by walk_at "o")) (fun _ _ _ _=>(pifs_one (PW.pt (ZER (ZAT op_le (ZAm (ix_tupK K) (pv 0) ZAG (fun _ _=>rfl)) (pv 1) (ZAY _)) (ZDh (ZAT ZDP (pv 1) (ZAm (ix_tupK K) (pv 0) ZAG (fun _ _=>rfl)) (ZAY _))))))) (fun _ _ _ _=>(pv 0)))
  (ZAW
  (ZAB (ZAO (i:=5) sc_Pour_take.nd rfl (by walk_at "o") (ZA0 (call_dictC) rfl T.b_dict PyProof.Rows.boot_dict (ZAA (ZAQ (pv 0) rfl) ZAD)))
  (ZAW
  (ZAB (ZED (ZEZ hr) (pv 5) (ZA3 (ZAA (pv 2) (ZAA (ZAR ZAh (pv 2) ZAG) ZAD))) (ZBJ B (hr.mono (by decide)) ZAV (pv 0) (ZAA (pv 2) (ZAA (pv 3) ZAD))) rfl)
  (ZAW
  (ZAB (ZA1 (pv 0) (ZBJ L (hr.mono (by decide)) ZAV (pv 0) (ZAA (pv 4) (ZAA (pv 5) ZAD))) rfl)
  (ZAW
  (ZAB (ZFc (pv 3) (ZFd (ZAQ (pv 0) rfl) (pv 2) ZEA))
  (ZAH (ZAS (ZAm ZBG (pv 1) ZAG (fun _ _=>rfl))))))))))))))))))),?_⟩
 walk_at "rd"
 have af:w0 0 pcs.length=some (if 0 < pcs.length then ((w0 0 pcs.length).getD none) else none)∨2 * pcs.length-1=0 /\ (if 0 < pcs.length then ((w0 0 pcs.length).getD none) else none)=none:=by
  by_cases hz:0 < pcs.length
  .rw [if_pos hz]
   left
   have:(w0 0 pcs.length).isSome=true:=by
    by_cases z:pcs.length-0 < 2
    .have:=ad 0 hz
     rw [show 0+1=pcs.length by omega] at this
     exact this
    .exact dw.pr (0,Po.mid 0 pcs.length,pcs.length) (by rw [Po.mts_node z];exact yAQ _ yAC)
   obtain ⟨v,hv⟩:=Option.isSome_iff_exists.mp this
   rw [hv];rfl
  .rw [if_neg hz];exact .inr ⟨by omega,rfl⟩
 refine O.pb.hp.meth (by walk_at "lk") ⟨p,c.a,pl,tk,ml,wd,pls,pcs,w0,_,kvs,_,rfl,O.pb,O.hwd,af,fun u H1 s1 fv=>?_⟩
 walk_at "rd"
 rcases a3 with ⟨ap,q1⟩ | ⟨x,i,post,hz,az,w,bj,q2⟩
 .have e0:(if 0 < pcs.length then ((w0 0 pcs.length).getD none) else none:Po.Fr)=none:=by
   rcases ap with z | z
   .rw [if_neg (by omega)]
   .rw [z];split <;> rfl
  rw [e0] at fv
  cases (show u=V.non from fv)
  rw [if_pos rfl]
  exact q1 H1 s1
 rw [if_pos hz,az] at fv
 obtain ⟨t0,rfl,aa⟩:=fv
 dsimp only at aa
 rw [if_neg (fun z=>by cases z)]
 have a7:i < pcs.length:=dw.ix _ _ _ az
 obtain ⟨zs,b5⟩:∃ zs,pcs[i]?=some zs:=⟨_,yAI a7⟩
 obtain ⟨t,ht⟩:∃ t,ts[i]?=some t:=⟨_,yAI (show i < ts.length by rw [O.tlen];exact a7)⟩
 have a8:tkN ts i=ts.set i (t+1):=by
  unfold tkN
  rw [yBH,ht];rfl
 rw [a8] at w q2
 have bw:=st.mono s1
 have ac:=O.mono s1
 clear af
 refine ZAc ?_
 walk_at "rd"
 refine ZA9 (SqT.of aa) (ZAl (by decide) rfl) ?_
 walk_at "rd"
 refine ac.pb.hp.get T.cl_Pour T.n_Pour_taken (by walk_at "lk") (ZAs (SqL.of ac.htk) (atI_nN ht) ?_)
 walk_at "rd"
 rw [show (t:Int)+1=((t+1:Nat):Int) by omega]
 refine ZAc ?_
 walk_at "rd"
 obtain ⟨bz,ah,a6⟩:=ac.hml
 refine ac.pb.hp.get T.cl_Pour T.n_Pour_meetings (by walk_at "lk") ?_
 have b9:=a6.len
 rw [Po.mts_len] at b9
 refine ZCq (SqL.of ah) (by omega) (fun k ys σ H'=>∃ v,σ=[v,some (.int (i:Int))] /\ Same H1 H' /\ MsAt H' ys (((Po.mts 0 pcs.length).take k).filter (onW i))) ⟨_,rfl,.refl _,MsAt.nil⟩ (fun k ys σ H' _ ⟨_,_,e,hM⟩=>⟨SqL.of (e _ _ ah),by rw [hM.len];exact yAK (List.length_filter_le _ _) (by rw [yBA];omega)⟩) ?_ ?_
 .rintro k ys u σ H' hk hu ⟨v,rfl,sA,hM⟩
  obtain ⟨m,hm⟩:∃ m,(Po.mts 0 pcs.length)[k]?=some m:=⟨_,yAI (by rw [Po.mts_len];omega)⟩
  obtain ⟨tm,b3,bg⟩:=a6.get k m hm
  rw [hu] at b3
  cases b3
  have aj:=sA _ _ bg
  have a8:(Po.mts 0 pcs.length).take (k+1)=(Po.mts 0 pcs.length).take k++[m]:=by rw [List.take_add_one,hm];rfl
  walk_at "rd"
  refine ZA9 (SqT.of aj) (ZAl (by decide) rfl) ?_
  walk_at "rd"
  by_cases h1:(m.1:Int) <= i
  .rw [if_pos h1]
   refine ZA9 (SqT.of aj) (ZAl (by decide) rfl) ?_
   walk_at "rd"
   by_cases h2:(i:Int) < m.2.2
   .rw [if_pos h2]
    refine Nxt.of hk ⟨_,rfl,sA,?_⟩
    rw [a8,List.filter_append,List.filter_cons_of_pos (by unfold onW;rw [decide_eq_true (by omega),decide_eq_true (by omega)];rfl)]
    exact hM.app (MsAt.one aj)
   .rw [if_neg h2]
    refine Nxt.of hk ⟨_,rfl,sA,?_⟩
    rw [a8,List.filter_append,List.filter_cons_of_neg (by unfold onW;rw [decide_eq_false (show ¬ i < m.2.2 by omega),Bool.and_false];decide),List.filter_nil,yAY]
    exact hM
  .rw [if_neg h1]
   refine Nxt.of hk ⟨_,rfl,sA,?_⟩
   rw [a8,List.filter_append,List.filter_cons_of_neg (by unfold onW;rw [decide_eq_false (show ¬ m.1 <= i by omega),Bool.false_and];decide),List.filter_nil,yAY]
   exact hM
 rintro ys σ H2 ⟨v,rfl,s2,ay⟩ wy ae
 rw [a6.len,yCH (yAB _)] at ay
 obtain ⟨H3,e3,s3,h3⟩:=newH ae (.lst ys)
 rw [e3];clear e3
 have S3:=s1.trans (s2.trans s3)
 have ao:=O.mono S3
 refine ZAc ?_
 walk_at "rd"
 refine ao.pb.hp.get T.cl_Pour T.n_Pour_went_on (by walk_at "lk") ⟨wd,kvs,rfl,ao.hwd.hd,ao.hwd.sm,fun d2 b0=>?_⟩
 obtain ⟨H4,e4,s4,h4⟩:=newH b0 (.dT kvs)
 rw [e4];clear e4
 have S4:=S3.trans s4
 have a9:=O.mono S4
 have b7:DT H4 d2 w0 (2 * pcs.length-1) kvs:=⟨h4,a9.hwd.sm,a9.hwd.len,a9.hwd.val⟩
 refine ZAc ?_
 walk_at "rd"
 refine a9.pb.hp.meth (by walk_at "lk") ⟨p,c.a,pl,tk,ml,wd,pls,pcs,i,t+1,zs,rfl,a9.pb,b5,fun u H5 s5 fv=>?_⟩
 walk_at "rd"
 rw [show (i:Int)+1=((i+1:Nat):Int) by omega]
 refine ⟨ZAU (by decide),fun k1 b1=>?_⟩
 obtain ⟨H6,e6,s6,h6⟩:=newH b1 (.tup [.int (i:Int),.int ((i+1:Nat):Int)])
 rw [e6];clear e6
 have Y:=(b7.mono s5).mono s6
 have hB:2 * pcs.length-1 <= 400:=by omega
 refine ⟨d2,_,rfl,DPut.t (k:=kQ i (i+1)) Y.hd h6 (ZAq (by have:=Y.len;omega)),?_⟩
 have a5:=Y.put (a:=i) (c:=i+1) (k:=0) (by omega) (by omega) (fv.keep fun _ _ z=>s6 _ _ z) (.inr (ad i a7))
 rw [Nat.add_zero] at a5
 have S6:=S4.trans (s5.trans s6)
 have av:H d2=none:=S3.free b0
 have k7:∀ b o,b≠d2->H6 b=some o->upd H6 d2 (.dT (putK kvs (kQ i (i+1)) u)) b=some o:=fun b o n h=>by rw [ZAI n];exact h
 have S7:Same H (upd H6 d2 (.dT (putK kvs (kQ i (i+1)) u))):=fun b o h=>k7 b o (ZAE h av) (S6 _ _ h)
 have a1:=(s4.trans (s5.trans s6)) _ _ h3
 have ai:=k7 wy _ (fun z=>by rw [z,Y.hd] at a1;cases a1) a1
 have aw:=ay.keep fun b z h=>by
  have a0:=(s3.trans (s4.trans (s5.trans s6))) _ _ h
  exact k7 b _ (fun z=>by rw [z,Y.hd] at a0;cases a0) a0
 have bi:front zs (t+1) i=frW pcs (ts.set i (t+1)) i:=(frW_at b5 (by rw [List.getElem?_set,if_pos rfl,if_pos (by rw [O.tlen];exact a7)])).symm
 rw [bi] at a5
 have as:∀ b z,H1 b=some (.tup z)->upd H6 d2 (.dT (putK kvs (kQ i (i+1)) u)) b=some (.tup z):=fun b z h=>by
  have a0:=(s2.trans (s3.trans (s4.trans (s5.trans s6)))) _ _ h
  exact k7 b _ (fun z=>by rw [z,Y.hd] at a0;cases a0) a0
 generalize upd H6 d2 (.dT (putK kvs (kQ i (i+1)) u))=H7 at a5 S7 ai aw as ⊢
 generalize putK kvs (kQ i (i+1)) u=kv7 at a5
 have bc:∀ b z,H1 b=some (.tup z)->H7 b=some (.tup z):=fun b z h=>as b z h
 have b2:=st.mono S7
 have J:=O.mono S7
 have bx:=aa
 have bf:H wy=none:=(s1.trans s2).free ae
 clear k7 Y b7 s6 S6 a1 h6 b1
 refine ZAc ?_
 walk_at "rd"
 have bd:∀ a' c' x,Po.put w0 i (i+1) (frW pcs (ts.set i (t+1)) i) a' c'=some (some x)->x.2 < pcs.length:=put_ix dw.ix fun x hx=>by rw [(ZB4 hx).1];exact a7
 refine J.pb.hp.meth (by walk_at "lk") ⟨c,pr,p,pl,tk,ml,wd,wy,d2,ys,_,_,2 * pcs.length-1,0,kv7,_,rfl,b2,J.pb.hp,Ad.SA px.p,Ad.SA (st.off bf),ai,aw,yAK (List.length_filter_le _ _) (by rw [Po.mts_len];omega),fun m hm=>?_,a5,by omega,.inr ⟨rfl,fun m hm=>ZC9 (dw.pr m (List.mem_filter.mp hm).1)⟩,hk,w.also (ZDo _ _ bd),fun pr' z=>bj pr' z.2,fun d8 H8 w1 kv8 pr2 f8 ab a2 ba be=>?_⟩
 .have:=Po.mts_mem (a:=m.1) (m:=m.2.1) (c:=m.2.2) _ _ (List.mem_filter.mp hm).1
  omega
 obtain ⟨bq,al⟩:=be
 obtain ⟨ag,aq⟩:=bq w1 rfl
 have bn:Dw pcs.length (Po.mts 0 pcs.length) w1:=⟨fun m hm=>ag _ _ (ZC9 (dw.pr m hm)),aq.ix⟩
 have bh:∀ j,j < pcs.length->(w1 j (j+1)).isSome=true:=fun j hj=>ag _ _ (ZC9 (ad j hj))
 have i8:=ZB3 f8 (Ad.SA px.p) J.pb.hp
 refine i8.set T.cl_Pour T.n_Pour_went_on (fun H9 i9 k9=>?_) ⟨_,by walk_at "lk"⟩
 have am:Ins H9 p C_Pour (fP c.a pl tk ml d8):=i9.congr fun f=>by
  simp only [ZAa,lkc]
  by_cases z:f=Str.ofString "went_on"
  .rw [if_pos z,if_pos z]
  .rw [if_neg z,if_neg z,if_neg z]
 obtain ⟨bv,br,e8,_⟩:=i8.ex
 have e9:∀ b o,b≠p->H8 b=some o->H9 b=some o:=fun b o n h=>by rw [k9 b n];exact h
 have tX:∀ b o,H8 b=some o->(∀ C d f,o≠.ins C d f)->H9 b=some o:=fun b o h n=>e9 b o (fun z=>by rw [z,e8] at h;exact n _ _ _ (Option.some.inj h).symm) h
 have a4:=tX _ _ (f8 _ _ (Ad.SA px.tk) J.htk) (fun _ _ _ z=>by cases z)
 have bb:SitR C_Asker C_AskedRule H9 c pr2:=ba.apart (S:=[p]) (fun b o n h=>e9 b o (fun z=>n (by rw [z];exact yAC)) h) (fun b hb=>by rw [yAH.mp hb];exact .inr (.inl ⟨_,_,_,e8⟩)) fun b hb=>by rw [yAH.mp hb];exact px.p
 have bu:d8≠p:=fun z=>by
  obtain ⟨_,_,e1,_⟩:=J.pb.hp.ex
  rw [z,e1] at ab;cases ab
 have ar:d8≠tk:=fun z=>by rw [z,J.htk] at ab;cases ab
 refine ZAc ?_
 walk_at "rd"
 refine am.get T.cl_Pour T.n_Pour_taken (by walk_at "lk") ?_
 refine ⟨tk,_,_,_,rfl,rfl,a4,ZFm (by omega) (by rw [yAA,O.tlen];omega),?_⟩
 rw [Int.toNat_natCast]
 have Z:∀ b o,b≠tk->H9 b=some o->upd H9 tk (.lst ((nL ts).set i (.int ((t+1:Nat):Int)))) b=some o:=fun b o n h=>by rw [ZAI n];exact h
 have au:upd H9 tk (.lst ((nL ts).set i (.int ((t+1:Nat):Int)))) tk=some (.lst (nL (ts.set i (t+1)))):=by
  rw [ZAF];unfold nL;rw [List.map_set]
 generalize upd H9 tk (.lst ((nL ts).set i (.int ((t+1:Nat):Int))))=H10 at Z au ⊢
 have bo:p≠tk:=fun z=>by
  obtain ⟨_,_,e1,_⟩:=am.ex
  rw [z,a4] at e1;cases e1
 have up:∀ b o,b∉c.S->b≠tk->H7 b=some o->(∀ C d f,o≠.ins C d f)->H10 b=some o:=fun b o n1 n2 h n3=>Z b o n2 (tX _ _ (f8 _ _ n1 h) n3)
 have tS:∀ b z,H7 b=some (.tup z)->H10 b=some (.tup z):=fun b z h=>up b _ (Ad.SA (b2.tupS h (fun _ z=>by cases z) (fun _ _ _ z=>by cases z))) (fun y=>by rw [y,J.htk] at h;cases h) h (fun _ _ _ z=>by cases z)
 have bm:=tS _ _ (bc t0 _ aa)
 obtain ⟨bp,b6,b4⟩:=J.hml
 rw [yBS,Nat.add_zero] at a2
 have b8:PourAt C_Pour H10 p c.a pl tk ml d8 pls pcs (ts.set i (t+1)) w1 kv8:=⟨⟨ZB3 (S:=[tk]) (fun b o n h=>Z b o (fun z=>n (by rw [z];exact yAC)) h) (fun z=>bo (yAH.mp z)) am,up _ _ (Ad.SA px.pl) (Ne.symm O.ne.1) J.pb.hpl (fun _ _ _ z=>by cases z),O.pb.len,fun j l ys h1 h2=>up _ _ (Ad.SA (px.ls l (yAO h1))) (O.ne.2.2 l (yAO h1)) (J.pb.pc j l ys h1 h2) (fun _ _ _ z=>by cases z)⟩,au,⟨bp,up _ _ (Ad.SA px.ml) (Ne.symm O.ne.2.1) b6 (fun _ _ _ z=>by cases z),b4.keep tS⟩,⟨Z _ _ ar (tX _ _ a2.hd (fun _ _ _ z=>by cases z)),a2.sm,a2.len,fun b c v h=>let ⟨u,h1,h2⟩:=a2.val b c v h;⟨u,h1,h2.keep fun t z y=>Z _ _ (fun e=>by rw [e,f8 _ _ (Ad.SA px.tk) J.htk] at y;cases y) (tX _ _ y (fun _ _ _ z=>by cases z))⟩⟩,by rw [List.length_set];exact O.tlen,O.ne⟩
 have ax:SitR C_Asker C_AskedRule H10 c pr2:=bb.apart (S:=[tk]) (fun b o n h=>Z b o (fun z=>n (by rw [z];exact yAC)) h) (fun b hb=>by rw [yAH.mp hb];exact .inl ⟨_,a4⟩) fun b hb=>by rw [yAH.mp hb];exact px.tk
 walk_at "rd"
 refine ZA9 (SqT.of bm) (ZAl (by decide) rfl) ?_
 refine q2 d8 w1 H10 kv8 pr2 (fun b o n h=>?_) b8 bn bh ax al
 have m:∀ c',c'∈[p,tk,c.a,c.lg,c.tl]->b≠c':=fun c' hc z=>n (by rw [z];exact hc)
 exact Z b o (m tk (by simp)) (e9 b o (m p (by simp)) (f8 b o (fun z=>n (yAD _ (yAD _ z))) (S7 _ _ h)))
theorem ok_poured {f:Addr} {fd:FuncData} (F:Fun K "poured" "poured" ZCg f fd) (T:Bt K mg C_Join C_Pile C_Pour C_Asker C_AskedRule)
  (L:Mt P w K mg base CX0 C_Pour "take" 7 ["self"] (ZEl C_Asker C_AskedRule C_Pour))
  (J:Mt P w K mg base CX0 C_Pour "left" 1 ["self"] (ZFU C_Pour))
  (a5:Kl P w K mg base CX0 "Pour" C_Pour 10 ["self","asker","pieces"] (ZCt C_Asker C_AskedRule C_Pour))
 :FnOk P w K mg base CX0 12 f fd ["asker","pieces"] (ZDb C_Asker C_AskedRule):=by
 refine F.ok sc_poured (fun vs H Q E h=>?_) (fun b4 A outer s H vs Q E hr h=>?_)
 .obtain ⟨c,pr,hl,ag,pcs,post,rfl,st,ah,hP,hn,ht,hk,w,a3,q⟩:=h
  rfl
 obtain ⟨c,pr,hl,ag,pcs,post,rfl,st,ah,hP,hn,ht,hk,w,a3,q⟩:=h
 refine ⟨_,(ZAB (ZAO (i:=2) sc_poured.nd rfl (by walk_at "o") (ZFf a5 (hr.mono (by decide)) rfl ZAV (ZAA (pv 0) (ZAA (pv 1) ZAD))))
  (ZAH (ZAS (ZCw rfl (k:=1) (js:=[2]) (N':=["turn","pour"]) (by rfl) (ZDB rfl T.b_range (ZAA (ZCS J (hr.mono (by decide)) ZAV (pv 2)) ZAD)) (fun _ _ _ _=>ZAd (i:=0) (show (["turn","pour"]:List Str).Nodup by decide +kernel) rfl (by walk_at "o")) (fun _ _ _ _=>ZBT) (fun _ _ _ _=>(ZCS L (hr.mono (by decide)) ZAV (pv 1))))))),?_⟩
 walk_at "rd"
 intro U dp a2 as ap
 have ai:upd H dp (.own U) U=none:=by rw [ZAI (Ne.symm ap)];exact a2
 have Z:Same H (upd (upd H dp (.own U)) U (.ins C_Pour dp [])):=(ZAK as _).trans (ZAK ai _)
 have ad:(upd (upd H dp (.own U)) U (.ins C_Pour dp [])) U=some (.ins C_Pour dp []):=ZAF
 generalize upd (upd H dp (.own U)) U (.ins C_Pour dp [])=H16 at Z ad ⊢
 have ac:=st.off a2
 replace w:=w.also (pouredP_len pcs)
 replace a3:∀ pr',¬ ((∀ os,(none:Option (List Nat))=some os->os.length=tot pcs) /\ post none pr'):=fun pr' z=>a3 pr' z.2
 generalize hpst:(fun o pr'=>(∀ os,o=some os->os.length=tot pcs) /\ post o pr')=post2 at w
 have a0:∀ pr',¬ post2 none pr':=fun pr' z=>by rw [<- hpst] at z;exact a3 pr' z
 unfold ZDi at w
 refine ⟨c,pr,U,dp,hl,ag,pcs,_,rfl,ad,st.mono Z,Z _ _ ah,hP.len,fun j l zs h1 h2=>Z _ _ (hP.at' j l zs h1 h2),hn,ac,hk,w.bind,fun pr' z=>a0 pr' z,fun pl tk ml wd pls w1 H17 kvs pr1 b1 pa dw az O ae a4=>⟨rfl,?_⟩⟩
 have fr:∀ b,H16 b=none->H b=none:=fun b h=>Z.free h
 have px:PX c U pl tk ml pls:=⟨ac,st.off (fr _ O.1),st.off (fr _ O.2.1),st.off (fr _ O.2.2.1),fun l h=>st.off (fr _ (O.2.2.2.2 l h))⟩
 have ao:=fr _ O.2.1
 have am:Fr c.S H H17:=fun b o n h=>b1 b o (ZAE h a2) n (Z _ _ h)
 have hsz:∀ ys∈pcs,ys.length <= 500:=fun ys hy=>yAK (tot_mem hy) ht
 walk_at "rd"
 have tz:∀ t∈List.replicate pcs.length 0,t <= 500:=fun t h=>by rw [(List.mem_replicate.mp h).2];decide
 refine pa.pb.hp.meth (by walk_at "lk") ⟨U,c.a,pl,tk,ml,wd,pls,pcs,_,rfl,pa.pb,pa.htk,by omega,by rw [yBR];omega,hsz,tz,fun b5 aa=>?_⟩
 rw [show (List.replicate pcs.length 0).sum=0 by simp,Int.natCast_zero,Int.sub_zero]
 have a4:Wp c.n c.an (ZDj pcs (pcs.map List.length).sum (List.replicate pcs.length 0) w1 []) pr1 post2:=a4
 have b2:(pcs.map List.length).sum <= 500:=ht
 obtain ⟨m,hm⟩:∃ m,(pcs.map List.length).sum=m:=⟨_,rfl⟩
 rw [hm] at a4 b2 ⊢
 refine compR1_of (by omega) (fun k ys σ X=>∃ v wd w kvs ts B pr',σ=[v,some (.ref U)] /\ ys=nL B /\ B.length=k /\ k <= m /\ SitR C_Asker C_AskedRule X c pr' /\ PourAt C_Pour X U c.a pl tk ml wd pls pcs ts w kvs /\ Dw pcs.length (Po.mts 0 pcs.length) w /\ (∀ j,j < pcs.length->(w j (j+1)).isSome=true) /\ Fr [U,tk,c.a,c.lg,c.tl] H17 X /\ Wp c.n c.an (ZDj pcs (m-k) ts w B) pr' post2) ⟨_,wd,w1,kvs,_,[],pr1,rfl,rfl,rfl,yAJ _,ae.mono aa,pa.mono aa,dw,az,aa.fr,a4⟩ (fun k ys σ X ⟨_,_,_,_,_,_,_,_,e,e2,_⟩=>by rw [e,yAA,e2];exact yAB _) ?_ ?_
 .rintro k ys σ X b6 ⟨v,ab,w2,a7,ts,B,pr2,rfl,rfl,af,ar,a1,a9,al,a6,fX,wX⟩
  have b3:k < m:=by omega
  have hz:0 < pcs.length:=by
   cases pcs with
   | nil=>simp at hm;omega
   | cons p ps=>simp
  rw [show m-k=(m-(k+1))+1 by omega,ZDj] at wX
  walk_at "rd"
  split at wX
  .rename_i cc hcc
   obtain ⟨x,i⟩:=cc
   dsimp only at wX
   refine a9.pb.hp.meth (by walk_at "lk") ⟨c,pr2,U,pl,tk,ml,ab,pls,pcs,ts,w2,a7,rfl,a1,a9,px,al,a6,hn,hk,.inr ⟨x,i,_,hz,hcc,wX.bind,fun pr' z=>a0 pr' z,fun ay w' Y au aw fY aq av aj ax b0=>?_⟩⟩
   refine Nxt.of (by omega) ⟨_,ay,w',au,_,B++[x],aw,rfl,?_,by rw [yAE,af];rfl,by omega,ax,aq,av,aj,fX.trans fY,b0⟩
   unfold nL
   rw [yAL];rfl
  .exact absurd wX (a0 _)
 rintro ys σ X ⟨v,ab,w2,a7,ts,B,pr2,rfl,rfl,af,ar,a1,a9,al,a6,fX,wX⟩ l a8
 rw [Int.toNat_natCast,yBG] at wX
 have fH:Fr c.S H X:=fun b o n h=>by
  refine fX b o (fun z=>?_) (am b o n h)
  rcases yAF.mp z with z | z
  .exact ZAE h a2 z
  rcases yAF.mp z with z | z
  .exact ZAE h ao z
  .exact n z
 have wX:post2 (some B) pr2:=wX
 rw [<- hpst] at wX
 exact q l _ B pr2 (fH.trans (ZAK a8 _).fr) (a1.free fH a8) ZAF (a1.mono (ZAK a8 _)) (wX.1 B rfl) wX.2
theorem ok_one_round {f:Addr} {fd:FuncData} (F:Fun K "one_round" "one_round" ZBX f fd) (T:Bt K mg C_Join C_Pile C_Pour C_Asker C_AskedRule)
  (L:Fn P w K mg base CX0 "poured" 12 ["asker","pieces"] (ZDb C_Asker C_AskedRule))
 :FnOk P w K mg base CX0 13 f fd ["asker","pieces","mouths"] (ZCu C_Asker C_AskedRule):=by
 refine F.ok sc_one_round (fun vs H Q E h=>?_) (fun aj A outer s H vs Q E hr h=>?_)
 .obtain ⟨c,pr,hl,a3,pcs,d,post,rfl,st,a4,hP,a7,a1,hn,ht,hd,ah,hk,w,a8,q⟩:=h
  rfl
 obtain ⟨c,pr,hl,a3,pcs,d,post,rfl,st,a4,hP,a7,a1,hn,ht,hd,ah,hk,w,a8,q⟩:=h
 refine ⟨_,(ZAH (ZAS (ZCw rfl (k:=1) (js:=[0,1,2]) (N':=["first","asker","pieces","mouths"]) (by rfl) (pi_range3 rfl T.b_range (ZAA ZAG (ZAA (ZAP ZAJ rfl T.b_len PySem.boot_len (ZAA (pv 1) ZAD)) (ZAA (pv 2) ZAD)))) (fun _ _ _ _=>ZAd (i:=0) (show (["first","asker","pieces","mouths"]:List Str).Nodup by decide +kernel) rfl (by walk_at "o")) (fun _ _ _ _=>ZBT) (fun _ _ _ _=>(ZAw L (hr.mono (by decide)) rfl ZAV (ZAA (pv 1) (ZAA (ZCL (sl_listK K) (pv 2) (ZBu (pv 0)) (ZBu (ZAR ZAh (pv 0) (pv 3)))) ZAD))))))),?_⟩
 walk_at "rd"
 refine ⟨hl,_,rfl,.inl (SqL.of a4),?_⟩
 rw [yAA,hP.len]
 refine compR3_of (i:=((0:Nat):Int)) (by omega) (ZEv hd) (ZAU (by have:=ZEa (n:=pcs.length) hd;omega)) (fun k ys σ X=>∃ v ls B pr',σ=[v,some (.ref c.a),some (.ref hl),some (.int (d:Int))] /\ ys=ls.map V.ref /\ ls.length=k /\ PL X ls B /\ tot B+tot (pcs.drop (k * d))=tot pcs /\ SitR C_Asker C_AskedRule X c pr' /\ Fr c.S H X /\ (∀ l∈ls,H l=none) /\ Wp c.n c.an (oneP d (grpN pcs.length d-k) (pcs.drop (k * d)) B) pr' post) ⟨_,[],[],pr,rfl,rfl,rfl,.nil,by rw [yBS];show 0+tot pcs=tot pcs;omega,st,.refl,(fun l h=>by cases h),by rw [yBS];exact w⟩ (fun k ys σ X ⟨_,ls,_,_,_,e,e2,_⟩=>by rw [e,yAA,e2];exact yAB _) ?_ ?_
 .rintro k ys σ X ag ⟨v,ls,B,pr1,rfl,rfl,a2,Z,a9,O,fX,J,wX⟩
  walk_at "rd"
  have e0:((0:Nat):Int)+(k:Int) * (d:Int)=((k * d:Nat):Int):=by rw [Int.natCast_mul];omega
  rw [e0]
  refine ZDg (SqL.of (fX _ _ (Ad.SA a7) a4)) fun s1 aa=>?_
  rw [cutV_mid,<- yCG,<- yCF]
  obtain ⟨X1,e1,U,h1⟩:=newH aa (.lst (((a3.drop (k * d)).take d).map V.ref))
  rw [e1];clear e1
  have ad:PL X1 ((a3.drop (k * d)).take d) ((pcs.drop (k * d)).take d):=((hP.frk fX fun b hb=>Ad.SA (a1 b hb)).sl (k * d) d).mono U
  have ac:=tot_td (pcs.drop (k * d)) d
  rw [List.drop_drop] at ac
  rw [show grpN pcs.length d-k=(grpN pcs.length d-(k+1))+1 by omega,oneP,List.drop_drop] at wX
  walk_at "rd"
  refine ⟨c,pr1,s1,_,_,_,rfl,O.mono U,h1,ad,by rw [yBA,yAU];omega,by omega,hk,wX.bind,fun pr' z=>a8 pr' z,fun l Y os pr2 fY a0 ab ae ai af=>?_⟩
  have a6:X l=none:=U.free a0
  have a5:H l=none:=O.free fX a6
  refine Nxt.of ag ⟨_,ls++[l],B++[os],pr2,rfl,by rw [yAL];rfl,by rw [yAE,a2];rfl,?_,?_,ae,fX.trans (U.fr.trans fY),fun l' h=>?_,?_⟩
  .exact ((Z.mono U).frk fY fun b hb=>Ad.SA (st.off (J b hb))).snoc ab
  .rw [ZD4,yBT,show tot [os]=os.length by unfold tot;simp]
   omega
  .rcases yAX.mp h with h | h
   .exact J l' h
   .rw [yAH.mp h];exact a5
  .rw [yBT];exact af
 rintro ys σ X ⟨v,ls,B,pr1,rfl,rfl,a2,Z,a9,O,fX,J,wX⟩ l a0
 have sN:=ZAK a0 (.lst (ls.map V.ref))
 rw [yBG] at wX
 have e0:pcs.drop (grpN pcs.length d * d)=[]:=List.drop_eq_nil_of_le (ZFo hd)
 rw [e0] at a9
 have:tot ([]:List (List Nat))=0:=rfl
 exact q l _ ls B pr1 (fX.trans sN.fr) (O.free fX a0) ZAF (Z.mono sN) J (O.mono sN) (by rw [<- Z.len,a2]) (by omega) wX
theorem ok_in_rounds {f:Addr} {fd:FuncData} {dv:List Value} (F:FunD K "in_rounds" "in_rounds" ZBY f fd dv) (T:Bt K mg C_Join C_Pile C_Pour C_Asker C_AskedRule)
  (L:Fn P w K mg base CX0 "one_round" 13 ["asker","pieces","mouths"] (ZCu C_Asker C_AskedRule))
 :FnOk P w K mg base CX0 14 f fd ["asker","pieces","mouths"] (ZCH C_Asker C_AskedRule):=by
 refine F.ok sc_in_rounds (fun vs H Q E h=>?_) (fun bt A outer s H vs Q E hr h=>?_)
 .obtain ⟨c,pr,hl,be,pcs,d,post,rfl,st,aj,hP,hn,ht,aw,b6,hk,w,ax,q⟩:=h
  rfl
 obtain ⟨c,pr,hl,be,pcs,d,post,rfl,st,aj,hP,hn,ht,aw,b6,hk,w,ax,q⟩:=h
 refine ⟨_,(ZAB (ZCC (i:=3) sc_in_rounds.nd rfl (Or.inl rfl) rfl (k:=1) (js:=[]) (N':=["piece"]) (by rfl) (ZBU (pv 1)) (fun _ _ _ _=>ZAd (i:=0) (show (["piece"]:List Str).Nodup by decide +kernel) rfl (by walk_at "o")) (fun _ _ _ _=>ZBT) (fun _ _ _ _=>(ZA0 (call_list_ofK K) rfl T.b_list PyProof.Rows.boot_list (ZAA (pv 0) ZAD))))
  (ZAW
  (ZAB (ZAO (i:=4) sc_in_rounds.nd rfl (by walk_at "o") (ZBF ZAD))
  (ZAW
  (ZAB (ZB1 PassesOwn.never (ZAT ZFj (ZAP ZAJ rfl T.b_len PySem.boot_len (ZAA (pv 3) ZAD)) ZAG (ZAY _))
  (ZAB (ZAO (i:=3) sc_in_rounds.nd rfl (by walk_at "o") (ZAw L (hr.mono (by decide)) rfl ZAV (ZAA (pv 0) (ZAA (pv 3) (ZAA (pv 2) ZAD)))))
  (ZAH (ZAk (ZCU PySem.F.plainAttrs_list PySem.F.slot_list_append PySem.F.type_list_append ZBV (pv 4) (ZAA (ZAP ZAJ rfl T.b_len PySem.boot_len (ZAA (pv 3) ZAD)) ZAD))))))
  (ZAW
  (ZAH (ZAS (ZA3 (ZAA (ZBD (pt_lst (pv 3)) (ZAm ZAg (pv 3) ZAG (fun _ _=>rfl)) (ZBF ZAD)) (ZAA (pv 4) ZAD))))))))))),?_⟩
 walk_at "rd"
 have bu:=hP.len
 refine ZCq (SqL.of aj) (by rw [yAA];omega) (fun i ys σ H'=>∃ v ns,σ=[v] /\ Same H H' /\ ys=ns.map V.ref /\ ns.length=i /\ (∀ (j:Nat) l zs,ns[j]?=some l->pcs[j]?=some zs->H' l=some (.lst (nL zs))) /\ ∀ l∈ns,H l=none /\ ∃ z,H' l=some (.lst z)) ⟨_,[],rfl,.refl _,rfl,rfl,fun j l zs h=>by simp at h,fun l h=>by cases h⟩ (fun i ys σ H' _ ⟨_,ns,_,e,e2,e3,_⟩=>⟨SqL.of (e _ _ aj),by rw [e2,yAA];omega⟩) ?_ ?_
 .rintro i ys u σ H' hi hu ⟨v,ns,rfl,sA,rfl,ag,ab,b8⟩
  rw [yAA] at hi
  have bg:i < pcs.length:=by omega
  obtain ⟨zs,b0⟩:∃ zs,pcs[i]?=some zs:=⟨_,yAI bg⟩
  rw [yAM,yAI hi] at hu
  cases hu
  have bi:=sA _ _ (hP.at' i _ zs (yAI hi) b0)
  walk_at "rd"
  refine ⟨_,_,rfl,.inl (SqL.of bi),fun l' ae=>?_⟩
  refine Nxt.of (by rw [yAA];exact hi) ⟨_,ns++[l'],rfl,sA.new ae,by rw [yAL];rfl,by rw [yAE,ag];rfl,fun j l bc h1 h2=>?_,fun l h=>?_⟩
  .by_cases z:j < ns.length
   .rw [yBD z] at h1
    exact ZAK ae _ _ _ (ab j l bc h1 h2)
   .rw [yBC (by omega)] at h1
    cases hk:j-ns.length with
    | zero=>
     rw [hk] at h1
     cases h1
     rw [show j=i by omega,b0] at h2
     cases h2
     exact ZAF
    | succ m=>rw [hk] at h1;simp at h1
  .rcases yAX.mp h with h | h
   .obtain ⟨a1,z,a2⟩:=b8 l h
    exact ⟨a1,z,ZAK ae _ _ _ a2⟩
   .rw [yAH.mp h];exact ⟨sA.free ae,_,ZAF⟩
 rintro ys σ bm ⟨v,ab,rfl,b1,rfl,ag,au,b2⟩ ba hd0
 rw [yAA] at ag
 obtain ⟨bb,aq,az,b4⟩:=newH hd0 (.lst (ab.map V.ref))
 rw [aq];clear aq
 have b5:=b1.trans az
 have a6:PL bb ab pcs:=⟨by omega,fun j l zs h1 h2=>az _ _ (au j l zs h1 h2)⟩
 refine ZAc ?_
 walk_at "rd"
 refine ⟨yAJ _,fun nm a3=>?_⟩
 obtain ⟨bv,ao,ai,b9⟩:=newH a3 (.lst [])
 rw [ao];clear ao
 have ar:=b5.trans ai
 refine ZAc ?_
 walk_at "rd"
 refine ZBy (fun m σ X=>∃ cm ls J B f pr',m=J.length /\ σ=[some (.ref c.a),some (.ref hl),some (.int (d:Int)),some (.ref cm),some (.ref nm)] /\ SitR C_Asker C_AskedRule X c pr' /\ X cm=some (.lst (ls.map V.ref)) /\ PL X ls J /\ X nm=some (.lst (nL B)) /\ H cm=none /\ (∀ b∈ls,H b=none /\ b≠nm) /\ cm≠nm /\ B.length+J.length <= 200 /\ J.length <= f+1 /\ tot J=tot pcs /\ Fr c.S H X /\ Wp c.n c.an (ZBj d f J B) pr' post) ⟨_,ba,ab,pcs,[],_,pr,rfl,rfl,st.mono ar,ai _ _ b4,a6.mono ai,b9,b1.free hd0,fun b U=>⟨(b2 b U).1,fun z=>by obtain ⟨y,hy⟩:=a6.ex U;rw [z,a3] at hy;cases hy⟩,ZAE b4 a3,by simp;omega,yBF _,rfl,ar.fr,w⟩ ?_
 rintro m σ X ⟨cm,ls,J,B,f,pr1,rfl,rfl,O,ac,a7,ad,bh,av,bp,ag,br,aa,fX,wX⟩
 have a9:H nm=none:=b5.free a3
 walk_at "rd"
 refine ⟨cm,_,rfl,.inl (SqL.of ac),?_⟩
 rw [yAA,a7.len]
 by_cases hlt:(J.length:Int) > 1
 .rw [if_pos hlt]
  refine ZBz ?_
  walk_at "rd"
  obtain ⟨f,rfl⟩:∃ k,f=k+1:=⟨f-1,by omega⟩
  rw [ZBj,if_pos (by omega)] at wX
  have bq:=grp_lt (l:=J.length) aw (by omega)
  refine ⟨c,pr1,cm,ls,J,d,_,rfl,O,ac,a7,st.off bh,fun l hl=>st.off (av l hl).1,by omega,by omega,by omega,b6,hk,wX.bind,fun pr' z=>ax pr' z,fun l Y b7 a0 pr2 fY ah ay as a8 bf bn bo bj=>?_⟩
  have a5:=fY _ _ (Ad.SA (st.off a9)) ad
  walk_at "rd"
  refine ⟨.inl ⟨rfl,_,SqL.of a5⟩,l,_,rfl,.inl (SqL.of ay),nm,_,_,rfl,rfl,a5,ZAq (by rw [yAA];omega),?_⟩
  rw [yAA,as.len]
  have fZ:Fr [nm] Y (upd Y nm (.lst (nL B++[.int ((a0.length:Nat):Int)]))):=Fr.upd yAC
  have hZ:upd Y nm (.lst (nL B++[.int ((a0.length:Nat):Int)])) nm=some (.lst (nL (B++[a0.length]))):=by
   rw [ZAF];unfold nL;rw [yAL];rfl
  generalize upd Y nm (.lst (nL B++[.int ((a0.length:Nat):Int)]))=Z at fZ hZ ⊢
  have af:∀ b,X b=none->b≠nm:=fun b h=>Ne.symm (ZAE ad h)
  have am:∀ b,b≠nm->b∉[nm]:=fun b n z=>n (yAH.mp z)
  refine ⟨a0.length,by omega,l,b7,a0,B++[a0.length],f,pr2,rfl,rfl,?_,fZ _ _ (am _ (af l ah)) ay,as.frk fZ (fun b U=>am _ (af b (a8 b U))),hZ,O.free fX ah,fun b U=>⟨O.free fX (a8 b U),af b (a8 b U)⟩,af l ah,by rw [yAE,yBE];omega,by omega,by omega,fun b o n U=>fZ _ _ (am _ (ZAE U a9)) (fY _ _ n (fX b o n U)),bj⟩
  exact bf.apart fZ (fun b U=>by rw [yAH.mp U];exact .inl ⟨_,a5⟩) fun b U=>by rw [yAH.mp U];exact st.off a9
 .rw [if_neg hlt]
  have h1:J.length <= 1:=by omega
  have wE:post (some (J.headD [],B)) pr1:=by
   cases f with
   | zero=>exact wX
   | succ f=>rw [ZBj,if_neg (by omega)] at wX;exact wX
  refine ZAc ?_
  walk_at "rd"
  refine ⟨cm,_,rfl,SqL.of ac,?_⟩
  cases ls with
  | nil=>
   have ap:J=[]:=yBZ.mp (by have:=a7.len;rw [<- this];rfl)
   rw [if_neg (by simp)]
   refine ⟨yAJ _,fun e0 b3=>⟨ZAU (by decide),fun tt a4=>?_⟩⟩
   have s0:=ZAK b3 (.lst [])
   have S:=s0.trans (ZAK a4 (.tup [.ref e0,.ref nm]))
   refine q tt e0 nm _ _ pr1 (fX.trans S.fr) (O.free fX (s0.free a4)) (O.free fX b3) a9 ZAF ?_ (S _ _ ad) (O.mono S) ?_ wE
   .rw [ap]
    exact ZAK a4 _ _ _ ZAF
   .rw [ap] at aa ⊢;exact aa
  | cons b r=>
   obtain ⟨ys,al⟩:∃ ys,J=[ys]:=by
    have bd:=a7.len
    cases J with
    | nil=>simp at bd
    | cons y t=>
     cases t with
     | nil=>exact ⟨y,rfl⟩
     | cons z t=>simp at h1
   rw [if_pos (by simp)]
   refine ZAs (SqL.of ac) (ZAl (v:=.ref b) (by decide) rfl) ⟨ZAU (by decide),fun tt a4=>?_⟩
   have S:=ZAK a4 (.tup [.ref b,.ref nm])
   have U:=a7.at' 0 b ys rfl (by rw [al];rfl)
   refine q tt b nm _ _ pr1 (fX.trans S.fr) (O.free fX a4) (av b yAC).1 a9 ZAF ?_ (S _ _ ad) (O.mono S) ?_ wE
   .rw [al]
    exact S _ _ U
   .rw [al] at aa ⊢
    unfold tot at aa ⊢
    simpa using aa
theorem ZCY {f:Addr} {fd:FuncData} {dv:List Value} (F:FunD K "by_pieces" "by_pieces" ZBZ f fd dv) (T:Bt K mg C_Join C_Pile C_Pour C_Asker C_AskedRule)
  (Z:Fn P w K mg base CX0 "by_pile" 9 ["asker","least","part"] (ZC8 C_Asker C_AskedRule))
  (O:Fn P w K mg base CX0 "in_rounds" 14 ["asker","pieces","mouths"] (ZCH C_Asker C_AskedRule))
  (B:Mt P w K mg base CX0 C_Asker "many" 1 ["self"] (ZDx C_Asker))
 :FnOk P w K mg base CX0 15 f fd ["asker","wide","mouths","least"] (ZBI C_Asker C_AskedRule):=by
 refine F.ok sc_by_pieces (fun vs H Q E h=>?_) (fun au A outer s H vs Q E hr h=>?_)
 .obtain ⟨c,pr,wd,d,ls,post,rfl,st,a2,a8,a9,af,hn,w,aa,q⟩:=h
  rfl
 obtain ⟨c,pr,wd,d,ls,post,rfl,st,a2,a8,a9,af,hn,w,aa,q⟩:=h
 refine ⟨_,(ZAB (ZAO (i:=4) sc_by_pieces.nd rfl (by walk_at "o") (ZCS B (hr.mono (by decide)) ZAV (pv 0)))
  (ZAW
  (ZAB (ZCC (i:=5) sc_by_pieces.nd rfl (Or.inl rfl) rfl (k:=1) (js:=[0,3,1,4]) (N':=["first","asker","least","wide","many"]) (by rfl) (pi_range3 rfl T.b_range (ZAA ZAG (ZAA (pv 4) (ZAA (pv 1) ZAD)))) (fun _ _ _ _=>ZAd (i:=0) (show (["first","asker","least","wide","many"]:List Str).Nodup by decide +kernel) rfl (by walk_at "o")) (fun _ _ _ _=>ZBT) (fun _ _ _ _=>(ZAw Z (hr.mono (by decide)) rfl ZAV (ZAA (pv 1) (ZAA (pv 2) (ZAA (ZA3 (ZAA (pv 0) (ZAA (ZAP (ZBx rfl) rfl T.b_min PyProof.Rows.boot_min (ZAA (ZAR ZAh (pv 0) (pv 3)) (ZAA (pv 4) ZAD))) ZAD))) ZAD))))))
  (ZAW
  (ZAH (ZAS (ZAm ZBG (ZAw O (hr.mono (by decide)) rfl ZAV (ZAA (pv 0) (ZAA (pv 5) (ZAA (pv 2) ZAD)))) ZAG (fun _ _=>rfl)))))))),?_⟩
 walk_at "rd"
 refine st.ha.meth (by walk_at "lk") ⟨c.a,c.rl,c.ru,c.tl,.non,_,c.xs,rfl,st.ha,st.hrl,?_⟩
 rw [st.len]
 walk_at "rd"
 refine ZAc ?_
 walk_at "rd"
 have av:c.ks.length <= 200:=hn
 unfold ZCc at w
 have w:=w.bind
 unfold ZEe at w
 refine compR3_of (i:=((0:Nat):Int)) (by omega) (ZEv (n:=c.n) a2) (ZAU (by have:=ZEa (n:=c.n) a2;omega)) (fun k ys σ X=>∃ v J L pr',σ=[v,some (.ref c.a),some (.int (ls:Nat)),some (.int (wd:Nat)),some (.int (c.n:Nat))] /\ ys=J.map V.ref /\ J.length=k /\ PL X J L /\ tot L=min (k * wd) c.n /\ SitR C_Asker C_AskedRule X c pr' /\ Fr c.S H X /\ (∀ l∈J,H l=none) /\ Wp c.n c.an (pcsP grd ls wd c.n (grpN c.n wd-k) (k * wd) L) pr' fun pcs pr'=>Wp c.n c.an ((ZBj d pcs.length pcs []).bind fun o=>match o with
  | none=>.ret none
  | some r=>.ret (some r.1)) pr' post) ⟨_,[],[],pr,rfl,rfl,rfl,.nil,by rw [yBS,Nat.zero_min];rfl,st,.refl,(fun l h=>by cases h),by rw [yBS];exact w⟩ (fun k ys σ X ⟨_,ls,_,_,_,e,e2,_⟩=>by rw [e,yAA,e2];exact yAB _) ?_ ?_
 .rintro k ys σ X ae ⟨v,J,L,pr1,rfl,rfl,ab,a3,ad,a0,fX,a1,wX⟩
  walk_at "rd"
  have ai:=grp_in a2 ae
  have e0:((0:Nat):Int)+(k:Int) * (wd:Int)=((k * wd:Nat):Int):=by rw [Int.natCast_mul];omega
  rw [e0]
  generalize hkw:k * wd=s at wX ai ad
  refine ⟨_,_,rfl,?_⟩
  rw [ZEX,show min ((s:Int)+wd) (c.n:Nat)=((min (s+wd) c.n:Nat):Int) by omega]
  refine ⟨ZAU (by decide),fun pt al=>?_⟩
  obtain ⟨X1,e1,U,h1⟩:=newH al (.tup [.int (s:Int),.int ((min (s+wd) c.n:Nat):Int)])
  rw [e1];clear e1
  rw [show grpN c.n wd-k=(grpN c.n wd-(k+1))+1 by omega,pcsP] at wX
  refine ⟨c,pr1,ls,s,min (s+wd) c.n,pt,_,rfl,a0.mono U,h1,by omega,by omega,by omega,wX.bind,fun l Y os pr2 fY a4 ah a5 ap a6=>?_⟩
  have a7:X l=none:=U.free a4
  refine Nxt.of ae ⟨_,J++[l],L++[os],pr2,rfl,by rw [yAL];rfl,by rw [yAE,ab];rfl,((a3.mono U).frk fY fun b hb=>Ad.SA (st.off (a1 b hb))).snoc ah,?_,a5,fX.trans (U.fr.trans fY),fun l' h=>?_,?_⟩
  .rw [ZD4,yBT,hkw,show tot [os]=os.length by unfold tot;simp]
   omega
  .rcases yAX.mp h with h | h
   .exact a1 l' h
   .rw [yAH.mp h];exact a0.free fX a7
  .rw [yBT,hkw];exact a6
 rintro ys σ X ⟨v,J,L,pr1,rfl,rfl,ab,a3,ad,a0,fX,a1,wX⟩ pl ac
 rw [yBG] at wX
 have wX:Wp c.n c.an ((ZBj d L.length L []).bind _) pr1 post:=wX
 obtain ⟨X1,e1,U,h1⟩:=newH ac (.lst (J.map V.ref))
 rw [e1];clear e1
 have ar:=ZEa (n:=c.n) a2
 have aq:=a3.len
 refine ZAc ?_
 walk_at "rd"
 refine ⟨c,pr1,pl,J,L,d,_,rfl,a0.mono U,h1,a3.mono U,by omega,by omega,a9,af,by omega,wX.bind,fun pr' z=>aa pr' z,fun t l nm Y r pr2 fY as a4 ao ag aj am a5 hrl a6=>?_⟩
 refine ZA9 (SqT.of ag) (ZAl (by decide) rfl) ?_
 exact q l Y r.1 pr2 (fX.trans (U.fr.trans fY)) (a0.free fX (U.free a4)) aj a5 a6
theorem ok_told {f:Addr} {fd:FuncData} (F:Fun K "_law_told" "_law_told" ZDy f fd) (T:Bt K mg C_Join C_Pile C_Pour C_Asker C_AskedRule)
  (J:Fn P w K mg base CX0 "by_pieces" 15 ["asker","wide","mouths","least"] (ZBI C_Asker C_AskedRule))
  (z:FnD P w K mg base CX0 "by_pieces" 15 ["asker","wide","mouths","least"] (ZBI C_Asker C_AskedRule) [.int 2,.int 1])
  (B:FnD P w K mg base CX0 "by_pieces" 15 ["asker","wide","mouths","least"] (ZBI C_Asker C_AskedRule) [.int 1])
 :FnOk P w K mg base CX0 16 f fd ["_law_asker","_law_wide","_law_mouths","_law_least","_law_way"] (ZEk C_Asker C_AskedRule):=by
 refine F.ok sc_told (fun vs H Q E h=>?_) (fun a1 A outer s H vs Q E hr h=>?_)
 .obtain ⟨c,pr,wd,d,ls,wy,post,rfl,a0,st,U,L,O,Y,hn,w,Z,q⟩:=h
  rfl
 obtain ⟨c,pr,wd,d,ls,wy,post,rfl,a0,st,U,L,O,Y,hn,w,Z,q⟩:=h
 refine ⟨_,(ZAB (ZBC (ZAT ZCX (pv 4) ZAG (ZAY _))
  (ZAH (ZAS (pe_fnD z (hr.mono (by decide)) rfl ZAV (ZAA (pv 0) (ZAA (pv 1) ZAD))))) ZAe)
  (ZAB (ZBC (ZAT ZCX (pv 4) ZAG (ZAY _))
  (ZAH (ZAS (pe_fnD B (hr.mono (by decide)) rfl ZAV (ZAA (pv 0) (ZAA (pv 1) (ZAA (pv 2) ZAD)))))) ZAe)
  (ZAH (ZAS (ZAw J (hr.mono (by decide)) rfl ZAV (ZAA (pv 0) (ZAA (pv 1) (ZAA (pv 2) (ZAA (pv 3) ZAD))))))))),?_⟩
 walk_at "rd"
 rcases a0 with ⟨rfl,rfl,rfl⟩ | ⟨rfl,rfl⟩ | rfl
 .rw [if_pos (by decide)]
  exact ⟨c,pr,wd,2,1,post,rfl,st,U,L,O,Y,hn,w,Z,q⟩
 .rw [if_neg (by decide),if_pos (by decide)]
  exact ⟨c,pr,wd,d,1,post,rfl,st,U,L,O,Y,hn,w,Z,q⟩
 .rw [if_neg (by decide),if_neg (by decide)]
  exact ⟨c,pr,wd,d,ls,post,rfl,st,U,L,O,Y,hn,w,Z,q⟩
theorem ok_cell_at {f:Addr} {fd:FuncData} (F:Fun K "_law_cell_at" "_law_cell_at" ZCA f fd) (T:Bt K mg C_Join C_Pile C_Pour C_Asker C_AskedRule)
 :FnOk P w K mg base CX0 1 f fd ["_law_script","_law_k"] (ZEQ K):=by
 refine F.ok sc_cell_at (fun vs H Q E h=>?_) (fun L A outer s H vs Q E O h=>?_)
 .obtain ⟨a,ns,k,rfl,B,J,q⟩:=h
  rfl
 obtain ⟨a,ns,k,rfl,B,J,q⟩:=h
 refine ⟨_,(ZAB (ZBC (ZAT ZDP (pv 1) (ZAP ZAJ rfl T.b_len PySem.boot_len (ZAA (pv 0) ZAD)) (ZAY _))
  (ZAH (ZAS (ZAm ZAg (pv 0) (pv 1) (fun _ _=>rfl)))) ZAe)
  (ZAH (ZAS ZAG))),?_⟩
 walk_at "rd"
 refine ⟨a,_,rfl,.inl B,?_⟩
 walk_at "rd"
 rw [yAA]
 unfold cellOf at q
 split
 .rename_i hk
  rw [if_pos hk] at q
  have z:k.toNat < ns.length:=by omega
  refine ZAs B (ZEN J (yAI z)) ?_
  rw [yAI z] at q
  exact q
 .rename_i hk
  rw [if_neg hk] at q
  exact q
theorem ok_stream {f:Addr} {fd:FuncData} (F:Fun K "_law_stream" "_law_stream" ZCf f fd) (T:Bt K mg C_Join C_Pile C_Pour C_Asker C_AskedRule)
 :FnOk P w K mg base CX0 1 f fd ["_law_cell","_law_many"] (ZCd):=by
 refine F.ok sc_stream (fun vs H Q E h=>?_) (fun a0 A outer s H vs Q E hr h=>?_)
 .obtain ⟨c,m,rfl,O,J,q⟩:=h
  rfl
 obtain ⟨c,m,rfl,O,J,q⟩:=h
 refine ⟨_,(ZAB (ZAO (i:=2) sc_stream.nd rfl (by walk_at "o") (ZBF ZAD))
  (ZAB (ZAO (i:=3) sc_stream.nd rfl (by walk_at "o") (ZAR ZBH (pv 0) ZAG))
  (ZAB (ZB2 PassesOwn.never rfl (ZDB rfl T.b_range (ZAA (pv 1) ZAD)) (ZAd (i:=4) sc_stream.nd rfl (by walk_at "o"))
  (ZAB (ZAO (i:=3) sc_stream.nd rfl (by walk_at "o") (ZAR ZBH (ZAR ZAh (ZAR ZAh (ZAR ZAh (ZAR ZCT (pv 3) (pv 3)) (ZAR ZCT ZAG (pv 3))) (ZAR ZCT ZAG (pv 4))) ZAG) ZAG))
  (ZAH (ZAk (ZCU PySem.F.plainAttrs_list PySem.F.slot_list_append PySem.F.type_list_append ZBV (pv 2) (ZAA (pv 3) ZAD))))))
  (ZAH (ZAS (pv 2)))))),?_⟩
 walk_at "rd"
 refine ⟨yAJ _,fun l hl=>⟨by decide,?_⟩⟩
 have c0:=Int.emod_nonneg c (show (2147483629:Int)≠0 by decide)
 have c1:=Int.emod_lt_of_pos c (show (0:Int) < 2147483629 by decide)
 generalize c % 2147483629=U at c0 c1 ⊢
 refine ZEJ (by omega) (ZEI (fun i σ H'=>∃ (z:Int) (zs:List Int) (L:Option V),σ=[some (.int c),some (.int m),some (.ref l),some (.int z),L] /\ 0 <= z /\ z < 2147483629 /\ H'=upd H l (.lst (zs.map V.int)) /\ zs.length=i /\ ∀ x∈zs,0 <= x /\ x < 2 ^ 31) ⟨U,[],_,rfl,c0,c1,rfl,rfl,fun _ h=>nomatch h⟩ ?_ ?_)
 .rintro i σ H' hi ⟨z,zs,L,rfl,U,z1,rfl,hz,B⟩
  walk_at "rd"
  have Z:=Int.emod_nonneg (z * z+69621 * z+31 * (0+(i:Int))+5) (show (2147483629:Int)≠0 by decide)
  have Y:=Int.emod_lt_of_pos (z * z+69621 * z+31 * (0+(i:Int))+5) (show (0:Int) < 2147483629 by decide)
  refine ⟨.inl ⟨by omega,by omega⟩,.inl ⟨by decide,by decide⟩,.inl ⟨by decide,by decide⟩,by decide,.inl ⟨rfl,_,SqL.of ZAF⟩,l,zs.map V.int,_,rfl,rfl,ZAF,by rw [yAA];exact ZAq (by omega),?_⟩
  generalize (z * z+69621 * z+31 * (0+(i:Int))+5) % 2147483629=y at Z Y ⊢
  refine ⟨y,zs++[y],_,rfl,Z,Y,by rw [ZDa,yAL];rfl,by rw [yAE,hz];rfl,fun x hx=>?_⟩
  rcases yAX.mp hx with h | h
  .exact B x h
  .rw [yAH.mp h];omega
 .rintro σ H' ⟨z,zs,L,rfl,U,z1,rfl,hz,B⟩
  walk_at "rd"
  exact q l _ zs (ZAK hl _) hl ZAF (by omega) B
theorem ok_digits {f:Addr} {fd:FuncData} (F:Fun K "_law_digits" "_law_digits" ZCk f fd) (T:Bt K mg C_Join C_Pile C_Pour C_Asker C_AskedRule)
  (Z:Fn P w K mg base CX0 "_law_stream" 1 ["_law_cell","_law_many"] (ZCd))
  (B:Fn P w K mg base CX0 "_law_cell_at" 1 ["_law_script","_law_k"] (ZEQ K))
 :FnOk P w K mg base CX0 2 f fd ["_law_script","_law_k","_law_base"] (ZD9 K):=by
 refine F.ok sc_digits (fun vs H Q E h=>?_) (fun ae A outer s H vs Q E hr h=>?_)
 .obtain ⟨a,ns,k,b,rfl,hS,aa,hk,Y,a8,q⟩:=h
  rfl
 obtain ⟨a,ns,k,b,rfl,hS,aa,hk,Y,a8,q⟩:=h
 refine ⟨_,(ZAB (ZAO (i:=3) sc_digits.nd rfl (by walk_at "o") (ZAw Z (hr.mono (by decide)) rfl ZAV (ZAA (ZAR ZAh (ZAP ((call_sumB rfl)) rfl T.b_sum PyProof.Rows.boot_sum (ZAA (pv 0) ZAD)) (pv 1)) (ZAA ZAG ZAD))))
  (ZAB (ZAO (i:=4) sc_digits.nd rfl (by walk_at "o") (ZBF ZAD))
  (ZAB (ZB2 PassesOwn.never rfl (ZBU (ZBF (ZAA (ZAw B (hr.mono (by decide)) rfl ZAV (ZAA (pv 0) (ZAA (pv 1) ZAD))) (ZAA (ZAw B (hr.mono (by decide)) rfl ZAV (ZAA (pv 0) (ZAA (ZAR ZAh (pv 1) ZAG) ZAD))) ZAD)))) (ZAd (i:=5) sc_digits.nd rfl (by walk_at "o"))
  (ZAH (ZB2 PassesOwn.never rfl (ZDB rfl T.b_range (ZAA ZAG ZAD)) (ZAd (i:=6) sc_digits.nd rfl (by walk_at "o"))
  (ZAB (ZBC (ZAT ZDP (pv 5) ZAG (ZAY _))
  (ZAH (ZAO (i:=5) sc_digits.nd rfl (by walk_at "o") (ZAm ZAg (pv 3) (ZAP ZAJ rfl T.b_len PySem.boot_len (ZAA (pv 4) ZAD)) (fun _ _=>rfl)))) ZAe)
  (ZAB (ZAk (ZCU PySem.F.plainAttrs_list PySem.F.slot_list_append PySem.F.type_list_append ZBV (pv 4) (ZAA (ZAR ZBH (pv 5) (pv 2)) ZAD)))
  (ZAH (ZAO (i:=5) sc_digits.nd rfl (by walk_at "o") (ZAR ZBK (pv 5) (pv 2)))))))))
  (ZAH (ZAS (pv 4)))))),?_⟩
 walk_at "rd"
 refine ⟨a,ns,rfl,hS,_,120,rfl,by decide,by decide,fun sp H1 zs s1 af h1 hz ad=>⟨yAJ _,fun l hl=>?_⟩⟩
 obtain ⟨H2,e2,s2,h2⟩:=newH hl (.lst [])
 rw [e2];clear e2
 have S2:Same H H2:=s1.trans s2
 refine ⟨a,ns,k,rfl,S2.seq hS,hk,?_⟩
 generalize cellOf ns k=c1
 refine ⟨a,ns,k+1,rfl,S2.seq hS,by omega,?_⟩
 generalize cellOf ns (k+1)=c2
 refine ⟨ZAU (by decide),fun tw a5=>?_⟩
 obtain ⟨H3,e3,s3,h3⟩:=newH a5 (.lst [.int c1,.int c2])
 rw [e3];clear e3
 have a9:tw≠l:=Ne.symm (ZAE h2 a5)
 have ac:sp≠l:=ZAE h1 hl
 have a7:=s3 _ _ (s2 _ _ h1)
 refine ZCz (SqL.of h3) (fun i σ H'=>∃ (v5 v6:Option V) (us:List Int),σ=[some (.ref a),some (.int k),some (.int b),some (.ref sp),some (.ref l),v5,v6] /\ H' l=some (.lst (us.map V.int)) /\ (∀ c,c≠l->H' c=H3 c) /\ us.length=60 * i /\ ∀ z∈us,0 <= z /\ z < b) ⟨_,_,[],rfl,s3 _ _ h2,fun _ _=>rfl,rfl,fun _ h=>nomatch h⟩ (fun i σ H' _ ⟨v5,v6,us,_,_,h,_⟩=>SqL.of (by rw [h _ a9];exact h3)) ?_ ?_
 .rintro i x σ H' hx ⟨v5,v6,us,rfl,a3,a2,a1,O⟩
  obtain ⟨c,rfl,hi⟩:∃ c:Int,x=.int c /\ i < 2:=by
   match i,hx with
   | 0,hx=>exact ⟨c1,(Option.some.inj hx).symm,by decide⟩
   | 1,hx=>exact ⟨c2,(Option.some.inj hx).symm,by decide⟩
  walk_at "rd"
  refine ZEJ (by decide) (ZEI (fun t σ H''=>∃ (c:Int) (v6:Option V) (us:List Int),σ=[some (.ref a),some (.int k),some (.int b),some (.ref sp),some (.ref l),some (.int c),v6] /\ H'' l=some (.lst (us.map V.int)) /\ (∀ c,c≠l->H'' c=H3 c) /\ us.length=60 * i+t /\ ∀ z∈us,0 <= z /\ z < b) ⟨c,_,us,rfl,a3,a2,by omega,O⟩ ?_ ?_)
  .rintro t σ H4 ht ⟨c,v6,us,rfl,U,a0,J,L⟩
   have ag:t < 60:=ht
   walk_at "rd"
   have fin:∀ c:Int,∃ (c':Int) (v6:Option V) (a4:List Int),[some (V.ref a),some (V.int k),some (V.int b),some (V.ref sp),some (V.ref l),some (V.int (c / b)),some (V.int (0+(t:Int)))]=[some (V.ref a),some (V.int k),some (V.int b),some (V.ref sp),some (V.ref l),some (V.int c'),v6] /\ (upd H4 l (.lst (us.map V.int++[.int (c % b)]))) l=some (.lst (a4.map V.int)) /\ (∀ d,d≠l->upd H4 l (.lst (us.map V.int++[.int (c % b)])) d=H3 d) /\ a4.length=60 * i+(t+1) /\ ∀ z∈a4,0 <= z /\ z < b:=fun c=>by
    refine ⟨c / b,_,us++[c % b],rfl,by rw [ZAF,yAL];rfl,fun d hd=>by rw [ZAI hd];exact a0 d hd,by rw [yAE,J];rfl,fun z ab=>?_⟩
    rcases yAX.mp ab with h | h
    .exact L z h
    .rw [yAH.mp h]
     exact ⟨Int.emod_nonneg _ (by omega),Int.emod_lt_of_pos _ Y⟩
   by_cases hc:c < 1
   .rw [if_pos hc]
    refine ⟨l,_,rfl,.inl (SqL.of U),?_⟩
    rw [yAA,J]
    have a6:60 * i+t < zs.length:=by omega
    refine ZAs (SqL.of (by rw [a0 _ ac];exact a7)) (ZEN (v:=zs[60 * i+t]) (by omega) (by rw [Int.toNat_natCast];exact yAI a6)) ?_
    walk_at "rd"
    exact ⟨.inl ⟨rfl,_,SqL.of U⟩,Y,l,_,_,rfl,rfl,U,by rw [yAA];exact ZAq (by omega),⟨Y,by omega⟩,fin _⟩
   .rw [if_neg hc]
    exact ⟨.inl ⟨rfl,_,SqL.of U⟩,Y,l,_,_,rfl,rfl,U,by rw [yAA];exact ZAq (by omega),⟨Y,by omega⟩,fin _⟩
  .rintro σ H4 ⟨c,v6,us,rfl,U,a0,J,L⟩
   exact ⟨_,_,us,rfl,U,a0,by rw [J];show 60 * i+60=_;omega,L⟩
 .rintro σ H' ⟨v5,v6,us,rfl,a3,a2,a1,O⟩
  walk_at "rd"
  have S3:Same H H':=fun c o h=>by
   rw [a2 c (ZAE (s1 _ _ h) hl)]
   exact s3 _ _ (S2 _ _ h)
  exact q l _ us S3 (s1.free hl) a3 (by rw [a1];rfl) O
theorem ok_blocks {f:Addr} {fd:FuncData} (F:Fun K "_law_blocks" "_law_blocks" ZCl f fd) (T:Bt K mg C_Join C_Pile C_Pour C_Asker C_AskedRule)
  (J:Fn P w K mg base CX0 "_law_stream" 1 ["_law_cell","_law_many"] (ZCd))
 :FnOk P w K mg base CX0 2 f fd ["_law_keys_here","_law_cell"] (ZCI):=by
 refine F.ok sc_blocks (fun vs H Q E h=>?_) (fun a6 A outer s H vs Q E hr h=>?_)
 .obtain ⟨a,ks,c,rfl,ha,hk,q⟩:=h
  rfl
 obtain ⟨a,ks,c,rfl,ha,hk,q⟩:=h
 refine ⟨_,(ZAB (ZAO (i:=2) sc_blocks.nd rfl (by walk_at "o") (ZBF ZAD))
  (ZAB (ZB2 PassesOwn.never rfl (ZBU (ZAw J (hr.mono (by decide)) rfl ZAV (ZAA (pv 1) (ZAA (ZAP ZAJ rfl T.b_len PySem.boot_len (ZAA (pv 0) ZAD)) ZAD)))) (ZAd (i:=3) sc_blocks.nd rfl (by walk_at "o"))
  (ZAB (ZAO (i:=4) sc_blocks.nd rfl (by walk_at "o") (ZAP ZCR rfl T.b_sorted PyProof.Rows.boot_sorted (ZAA (ZCL ZCv (pv 0) (ZBu (ZAP ZAJ rfl T.b_len PySem.boot_len (ZAA (pv 2) ZAD))) (ZBu (ZAR ZAh (ZAR ZAh (ZAP ZAJ rfl T.b_len PySem.boot_len (ZAA (pv 2) ZAD)) ZAG) (ZAR ZBH (pv 3) ZAG)))) ZAD)))
  (ZAB (ZBC (ZAT ZCX (ZAR ZBH (ZAR ZBK (pv 3) ZAG) ZAG) ZAG (ZAY _))
  (ZAH (ZAk (ZFh PySem.F.plainAttrs_list PySem.F.slot_list_reverse PySem.F.type_list_reverse mt_reverse (pv 4)))) ZAe)
  (ZAH (ZAO (i:=2) sc_blocks.nd rfl (by walk_at "o") (ZAR ZE7 (pv 2) (pv 4)))))))
  (ZAH (ZAS (pv 2))))),?_⟩
 walk_at "rd"
 refine ⟨yAJ _,fun p hp=>⟨a,_,rfl,.inl (SqL.of (ZAK hp _ _ _ ha)),?_⟩⟩
 rw [yAA]
 refine ⟨c,ks.length,rfl,by omega,by omega,fun l H1 zs s1 hl h1 hz a3=>?_⟩
 refine ZCz (SqL.of h1) (fun i σ H'=>∃ (v3 v4:Option V) (r:Addr) (z:List Int),σ=[some (.ref a),some (.int c),some (.ref r),v3,v4] /\ H' l=some (.lst (zs.map V.int)) /\ H' r=some (.lst (z.map V.int)) /\ z.length <= ks.length /\ Same H H' /\ H r=none) ⟨_,_,p,[],rfl,h1,s1 _ _ ZAF,yAJ _,(ZAK hp _).trans s1,hp⟩ (fun i σ H' _ ⟨v3,v4,r,z,_,h,_⟩=>SqL.of h) ?_ ?_
 .rintro i x σ H' hx ⟨v3,v4,r,z,rfl,Z,B,a1,hs,hn⟩
  obtain ⟨n,a5,rfl⟩:=ZDE hx
  walk_at "rd"
  obtain ⟨z0,z1⟩:=a3 n (yAO a5)
  refine ⟨r,_,rfl,.inl (SqL.of B),r,_,rfl,.inl (SqL.of B),by decide,ZDg (SqL.of (hs _ _ ha)) fun p1 a4=>?_⟩
  rw [ZDq,yAA]
  have a2:((ks.drop (HT.sIx ks.length 0 (some (z.length:Int)))).take (HT.sIx ks.length ks.length (some ((z.length:Int)+1+n % 9))-HT.sIx ks.length 0 (some (z.length:Int)))).length+z.length <= ks.length:=by
   rw [yBA,yAU,HT.sIx_nat]
   omega
  generalize (ks.drop (HT.sIx ks.length 0 (some (z.length:Int)))).take (HT.sIx ks.length ks.length (some ((z.length:Int)+1+n % 9))-HT.sIx ks.length 0 (some (z.length:Int)))=ws at a2 ⊢
  obtain ⟨H2,e2,s2,h2⟩:=newH a4 (.lst (ws.map V.int))
  rw [e2];clear e2
  refine ⟨p1,ws,rfl,SqL.of h2,by omega,fun l2 ms U a0 _=>⟨⟨by decide,by decide⟩,by decide,?_⟩⟩
  have a7:=a0.length_eq
  have nr:r≠l2:=ZAE (s2 _ _ B) U
  have nl:l≠l2:=ZAE (s2 _ _ Z) U
  have fin:∀ us:List Int,us.length=ms.length->∀ Y,upd H2 l2 (.lst (us.map V.int)) Y=none->∃ (v3 v4:Option V) (r':Addr) (L:List Int),[some (V.ref a),some (.int c),some (.ref Y),some (.int n),some (.ref l2)]=[some (V.ref a),some (.int c),some (.ref r'),v3,v4] /\ (upd (upd H2 l2 (.lst (us.map V.int))) Y (.lst (z.map V.int++us.map V.int))) l=some (.lst (zs.map V.int)) /\ (upd (upd H2 l2 (.lst (us.map V.int))) Y (.lst (z.map V.int++us.map V.int))) r'=some (.lst (L.map V.int)) /\ L.length <= ks.length /\ Same H (upd (upd H2 l2 (.lst (us.map V.int))) Y (.lst (z.map V.int++us.map V.int))) /\ H r'=none:=fun us hu Y O=>by
   have S2:Same H (upd H2 l2 (.lst (us.map V.int))):=(hs.trans s2).new U
   have el:upd H2 l2 (.lst (us.map V.int)) l=some (.lst (zs.map V.int)):=by rw [ZAI nl];exact s2 _ _ Z
   exact ⟨_,_,Y,z++us,rfl,by rw [ZAI (ZAE el O)];exact el,by rw [ZAF,yAL],by rw [yAE];omega,S2.new O,S2.free O⟩
  split
  .refine ⟨.inl ⟨rfl,_,SqL.of ZAF⟩,l2,_,rfl,rfl,ZAF,?_⟩
   rw [ZDa,<- List.map_reverse]
   exact ⟨r,l2,_,_,rfl,rfl,by rw [ZAI nr];exact s2 _ _ B,ZAF,ZAU (by rw [yAA,yAA,yCE];omega),fin _ (yCE ..)⟩
  .exact ⟨r,l2,_,_,rfl,rfl,by rw [ZAI nr];exact s2 _ _ B,ZAF,ZAU (by rw [yAA,yAA];omega),fin _ rfl⟩
 .rintro σ H' ⟨v3,v4,r,z,rfl,Z,B,a1,hs,hn⟩
  walk_at "rd"
  exact q r _ z hs hn B (by omega)
theorem ok_nearly {f:Addr} {fd:FuncData} (F:Fun K "_law_nearly" "_law_nearly" ZCh f fd) (T:Bt K mg C_Join C_Pile C_Pour C_Asker C_AskedRule)
  (O:Fn P w K mg base CX0 "_law_stream" 1 ["_law_cell","_law_many"] (ZCd))
 :FnOk P w K mg base CX0 2 f fd ["_law_keys_here","_law_cell"] (ZCI):=by
 refine F.ok sc_nearly (fun vs H Q E h=>?_) (fun a8 A outer s H vs Q E hr h=>?_)
 .obtain ⟨a,ks,c,rfl,ha,hk,q⟩:=h
  rfl
 obtain ⟨a,ks,c,rfl,ha,hk,q⟩:=h
 refine ⟨_,(ZAB (ZAO (i:=2) sc_nearly.nd rfl (by walk_at "o") (ZAP ZCR rfl T.b_sorted PyProof.Rows.boot_sorted (ZAA (pv 0) ZAD)))
  (ZAB (ZB2 PassesOwn.never rfl (ZBU (ZAw O (hr.mono (by decide)) rfl ZAV (ZAA (pv 1) (ZAA (ZAR ZBH (pv 1) ZAG) ZAD)))) (ZAd (i:=3) sc_nearly.nd rfl (by walk_at "o"))
  (ZAH (ZBC (ZAT (op_neD hr.units) (pv 2) (ZBF ZAD) (ZAY _))
  (ZAB (ZAO (i:=4) sc_nearly.nd rfl (by walk_at "o") (ZAR ZBH (pv 3) (ZAP ZAJ rfl T.b_len PySem.boot_len (ZAA (pv 2) ZAD))))
  (ZAB (ZAO (i:=5) sc_nearly.nd rfl (by walk_at "o") (ZCU PySem.F.plainAttrs_list PySem.F.slot_list_pop PySem.F.type_list_pop ZDV (pv 2) (ZAA (pv 4) ZAD)))
  (ZAH (ZAk (ZCU PySem.F.plainAttrs_list PySem.F.slot_list_insert PySem.F.type_list_insert mt_insert (pv 2) (ZAA (ZAP (ZDr rfl) rfl T.b_max PyProof.Rows.boot_max (ZAA ZAG (ZAA (ZAR ZBW (ZAR ZBW (pv 4) ZAG) (ZAR ZBH (ZAR ZBK (pv 3) ZAG) ZAG)) ZAD))) (ZAA (pv 5) ZAD))))))) ZAe)))
  (ZAH (ZAS (pv 2))))),?_⟩
 walk_at "rd"
 refine ⟨a,ks,rfl,SqL.of ha,by omega,fun r ms a2 Z _=>⟨by decide,?_⟩⟩
 have aa:=Z.length_eq
 refine ⟨c,c % 6,rfl,Int.emod_nonneg _ (by decide),by have:=Int.emod_lt_of_pos c (show (0:Int) < 6 by decide);omega,fun l H1 zs s1 hl h1 hz a4=>?_⟩
 refine ZCz (SqL.of h1) (fun i σ H'=>∃ (v3 v4 v5:Option V) (B:List Int),σ=[some (.ref a),some (.int c),some (.ref r),v3,v4,v5] /\ H' l=some (.lst (zs.map V.int)) /\ H' r=some (.lst (B.map V.int)) /\ B.length=ms.length /\ Same H H') ⟨_,_,_,ms,rfl,h1,s1 _ _ ZAF,rfl,(ZAK a2 _).trans s1⟩ (fun i σ H' _ ⟨v3,v4,v5,B,_,h,_⟩=>SqL.of h) ?_ ?_
 .rintro i x σ H' hx ⟨v3,v4,v5,B,rfl,Y,J,U,hs⟩
  obtain ⟨n,a6,rfl⟩:=ZDE hx
  walk_at "rd"
  obtain ⟨z0,z1⟩:=a4 n (yAO a6)
  refine ⟨yAJ _,fun p1 a5=>?_⟩
  obtain ⟨H2,e2,s2,h2⟩:=newH a5 (.lst [])
  rw [e2];clear e2
  refine neD_of Enc.int.list (by decide) (a:=B) (b:=[]) (dp_ints (SqL.of (s2 _ _ J))) (dp_ints (xs:=[]) (SqL.of h2)) ⟨_,rfl,?_⟩
  by_cases hrn:B=[]
  .rw [if_neg (by simp [hrn])]
   exact ⟨_,_,_,B,rfl,s2 _ _ Y,s2 _ _ J,U,hs.trans s2⟩
  rw [if_pos (by simp [hrn])]
  have a7:0 < B.length:=List.length_pos_iff.mpr hrn
  refine ⟨r,_,rfl,.inl (SqL.of (s2 _ _ J)),?_⟩
  rw [yAA]
  have a0:=Int.emod_nonneg n (show (B.length:Int)≠0 by omega)
  have a1:=Int.emod_lt_of_pos n (show (0:Int) < B.length by omega)
  obtain ⟨k,ek⟩:∃ k:Nat,n % (B.length:Int)=k:=⟨(n % (B.length:Int)).toNat,by omega⟩
  rw [ek] at a0 a1 ⊢
  have a3:k < B.length:=by omega
  refine ⟨by omega,.inl ⟨rfl,_,SqL.of (s2 _ _ J)⟩,r,_,k,k,.int B[k],rfl,rfl,s2 _ _ J,by omega,by omega,?_,by rw [yAM,yAI a3];rfl,.inl ⟨rfl,_,SqL.of ZAF⟩,⟨by decide,by decide⟩,by decide,0,_,rfl,?_⟩
  .rw [yAA]
   exact PySem.StrLaws.seqIndex_nonneg (by omega) (by omega)
  rw [ZGG]
  have m0:=Int.emod_nonneg (n / 997) (show (4:Int)≠0 by decide)
  have m1:=Int.emod_lt_of_pos (n / 997) (show (0:Int) < 4 by decide)
  generalize (n / 997) % 4=w4 at m0 m1 ⊢
  refine ⟨r,_,_,_,rfl,rfl,ZAF,by rw [List.length_eraseIdx,yAA];exact ZAq (by split <;> omega),by omega,?_⟩
  rw [ZDa]
  obtain ⟨L,er,a9⟩:∃ L:List Int,insV ((B.map V.int).eraseIdx k) (max 0 ((k:Int)-1-w4)) (.int B[k])=L.map V.int /\ L.length=B.length:=by
   have e1:(B.map V.int).eraseIdx k=(B.eraseIdx k).map V.int:=by rw [List.eraseIdx_eq_take_drop_succ,List.eraseIdx_eq_take_drop_succ,yAL,yCF,yCG]
   rw [e1]
   unfold insV
   dsimp only
   generalize (if (max 0 ((k:Int)-1-w4)) < 0 then ((max 0 ((k:Int)-1-w4))+(((B.eraseIdx k).map V.int).length:Int)).toNat else min (max 0 ((k:Int)-1-w4)).toNat ((B.eraseIdx k).map V.int).length)=kk
   refine ⟨(B.eraseIdx k).take kk++B[k]::(B.eraseIdx k).drop kk,by rw [yAL,yAS,yCF,yCG],?_⟩
   rw [yAE,yAG,yBA,yAU,List.length_eraseIdx,if_pos a3]
   omega
  rw [er]
  have nl:l≠r:=fun z=>by
   rw [z] at hl
   rw [ZAF] at hl
   cases hl
  exact ⟨_,_,_,L,rfl,by rw [ZAI nl];exact s2 _ _ Y,ZAF,by omega,(hs.trans s2).upd a2⟩
 .rintro σ H' ⟨v3,v4,v5,B,rfl,Y,J,U,hs⟩
  walk_at "rd"
  exact q r _ B hs a2 J (by omega)
theorem ok_keys {f:Addr} {fd:FuncData} (F:Fun K "_law_keys" "_law_keys" ZD0 f fd) (T:Bt K mg C_Join C_Pile C_Pour C_Asker C_AskedRule)
  (z:Fn P w K mg base CX0 "_law_cell_at" 1 ["_law_script","_law_k"] (ZEQ K))
  (O:Fn P w K mg base CX0 "_law_blocks" 2 ["_law_keys_here","_law_cell"] (ZCI))
  (J:Fn P w K mg base CX0 "_law_nearly" 2 ["_law_keys_here","_law_cell"] (ZCI))
  (B:Fn P w K mg base CX0 "_law_digits" 2 ["_law_script","_law_k","_law_base"] (ZD9 K))
  (L:Fn P w K mg base CX0 "_law_stream" 1 ["_law_cell","_law_many"] (ZCd))
 :FnOk P w K mg base CX0 3 f fd ["_law_script","_law_most"] (ZFX K):=by
 refine F.ok sc_keys (fun vs H Q E h=>?_) (fun ab A outer s H vs Q E Z h=>?_)
 .obtain ⟨a,ns,rfl,hS,a3,q⟩:=h
  rfl
 obtain ⟨a,ns,rfl,hS,a3,q⟩:=h
 refine ⟨_,(ZAB (ZAO (i:=2) sc_keys.nd rfl (by walk_at "o") (ZAw z (Z.mono (by decide)) rfl ZAV (ZAA (pv 0) (ZAA ZAG ZAD))))
  (ZAB (ZAO (i:=3) sc_keys.nd rfl (by walk_at "o") (ZAw z (Z.mono (by decide)) rfl ZAV (ZAA (pv 0) (ZAA ZAG ZAD))))
  (ZAB (ZBC (ZAT ZCX (ZAR ZBH (ZAR ZBK (pv 2) ZAG) ZAG) ZAG (ZAY _))
  (ZAH (ZAS (ZCL ZCv (ZAw B (Z.mono (by decide)) rfl ZAV (ZAA (pv 0) (ZAA ZAG (ZAA ZAG ZAD)))) ZEx (ZBu (ZAR ZBH (ZAR ZBK (pv 2) ZAG) (ZAR ZCT ZAG (pv 1))))))) ZAe)
  (ZAB (ZAO (i:=4) sc_keys.nd rfl (by walk_at "o") (ZAm ZAg (ZBF (ZAA ZAG (ZAA ZAG (ZAA ZAG (ZAA (ZAR op_pow ZAG ZAG) ZAD))))) (ZAR ZBH (pv 2) ZAG) (fun _ _=>rfl)))
  (ZAB (ZCC (i:=5) sc_keys.nd rfl (Or.inl rfl) rfl (k:=1) (js:=[4]) (N':=["_law_cell","_law_width"]) (by rfl) (ZBU (ZCL ZCv (pv 0) (ZBu ZAG) (ZBu (ZAR ZAh ZAG (pv 1))))) (fun _ _ _ _=>ZAd (i:=0) (show (["_law_cell","_law_width"]:List Str).Nodup by decide +kernel) rfl (by walk_at "o")) (fun _ _ _ _=>ZBT) (fun _ _ _ _=>(ZAR ZBW (ZAR ZBH (pv 0) (pv 1)) (ZAR ZBK (pv 1) ZAG))))
  (ZAB (ZAO (i:=6) sc_keys.nd rfl (by walk_at "o") (ZAR ZBH (ZAR ZBK (pv 2) ZAG) ZAG))
  (ZAB (ZBC (PW.pt (ZEw (ZAT ZCX (pv 6) ZAG (ZAY _)) (ZD1 (ZAT ZCX (pv 6) ZAG (ZAY _)))))
  (ZAH (ZAS (ZAw O (Z.mono (by decide)) rfl ZAV (ZAA (pv 5) (ZAA (pv 3) ZAD))))) ZAe)
  (ZAB (ZBC (ZAT ZCX (pv 6) ZAG (ZAY _))
  (ZAH (ZAS (ZAP ZCR rfl T.b_sorted PyProof.Rows.boot_sorted (ZAA (pv 5) ZAD)))) ZAe)
  (ZAB (ZBC (ZAT ZCX (pv 6) ZAG (ZAY _))
  (ZAH (ZAS (pe_list_rev rfl rfl T.b_list rfl T.b_reversed (ZAA (ZAP ZCR rfl T.b_sorted PyProof.Rows.boot_sorted (ZAA (pv 5) ZAD)) ZAD)))) ZAe)
  (ZAB (ZBC (ZAT ZCX (pv 6) ZAG (ZAY _))
  (ZAH (ZAS (ZCw rfl (k:=1) (js:=[4]) (N':=["_law_number","_law_width"]) (by rfl) (ZBU (ZAw L (Z.mono (by decide)) rfl ZAV (ZAA (pv 3) (ZAA (ZAR ZBH (pv 3) (ZAR ZCT ZAG (pv 1))) ZAD)))) (fun _ _ _ _=>ZAd (i:=0) (show (["_law_number","_law_width"]:List Str).Nodup by decide +kernel) rfl (by walk_at "o")) (fun _ _ _ _=>ZBT) (fun _ _ _ _=>(ZAR ZBW (ZAR ZBH (pv 0) (pv 1)) (ZAR ZBK (pv 1) ZAG)))))) ZAe)
  (ZAB (ZBC (ZAT ZCX (pv 6) ZAG (ZAY _))
  (ZAH (ZAS (ZAw J (Z.mono (by decide)) rfl ZAV (ZAA (pv 5) (ZAA (pv 3) ZAD))))) ZAe)
  (ZAH (ZAS (pv 5)))))))))))))),?_⟩
 walk_at "rd"
 refine ⟨a,ns,0,rfl,hS,by decide,?_⟩
 generalize cellOf ns 0=md
 refine ⟨a,ns,1,rfl,hS,by decide,?_⟩
 generalize cellOf ns 1=mx
 walk_at "rd"
 refine ⟨⟨by decide,by decide⟩,by decide,?_⟩
 split
 .refine ⟨a,ns,4,120,rfl,hS,a3,by decide,by decide,by decide,fun l H1 zs s1 hl h1 hz _=>?_⟩
  walk_at "rd"
  have m0:=Int.emod_nonneg (md / 64) (show (2 * 60:Int)≠0 by decide)
  have m1:=Int.emod_lt_of_pos (md / 64) (show (0:Int) < 2 * 60 by decide)
  refine ⟨⟨by decide,by decide⟩,.inl ⟨by decide,by decide⟩,by decide,ZDg (SqL.of h1) fun p1 a4=>?_⟩
  rw [ZDq]
  refine q p1 _ _ (s1.new a4) (s1.free a4) ZAF ?_
  rw [yBA,HT.sIx_none]
  obtain ⟨mm,em⟩:∃ mm:Nat,md / 64 % (2 * 60)=mm:=⟨(md / 64 % (2 * 60)).toNat,by omega⟩
  rw [em,HT.sIx_nat]
  omega
 refine ⟨⟨by decide,by decide,by decide⟩,ZAU (by decide),fun wl a6=>⟨by decide,?_⟩⟩
 obtain ⟨H1,e1,s1,h1⟩:=newH a6 (.lst [.int 2,.int 5,.int 100,.int (10 ^ Int.toNat 60)])
 rw [e1];clear e1
 have hm:∃ m:Int,0 < m /\ atI [V.int 2,.int 5,.int 100,.int (10 ^ Int.toNat 60)] (md % 4)=some (.int m):=by
  have:md % 4=0∨md % 4=1∨md % 4=2∨md % 4=3:=by omega
  rcases this with e | e | e | e <;> rw [e]
  .exact ⟨2,by decide,ZAl (by decide) rfl⟩
  .exact ⟨5,by decide,ZAl (by decide) rfl⟩
  .exact ⟨100,by decide,ZAl (by decide) rfl⟩
  .exact ⟨10 ^ Int.toNat 60,by decide,ZAl (by decide) rfl⟩
 obtain ⟨m,a2,a7⟩:=hm
 refine ZAs (SqL.of h1) a7 ?_
 refine ZDg (s1.seq hS) fun sl a9=>?_
 rw [ZDq]
 have a8:((ns.drop (HT.sIx ns.length 0 (some 4))).take (HT.sIx ns.length ns.length (some (4+60))-HT.sIx ns.length 0 (some 4))).length <= 63:=by
  rw [yBA,yAU]
  omega
 generalize (ns.drop (HT.sIx ns.length 0 (some 4))).take (HT.sIx ns.length ns.length (some (4+60))-HT.sIx ns.length 0 (some 4))=ms at a8 ⊢
 obtain ⟨H2,e2,s2,h2⟩:=newH a9 (.lst (ms.map V.int))
 rw [e2];clear e2
 refine compI_gen (rest:=[some (.int m)]) (SqL.of h2) (by omega) rfl (fun _ _=>True) (fun c H' hc e Q' k=>?_) fun ks H3 kl ae _ s3 a5=>?_
 .walk_at "rd"
  exact ⟨a2,⟨by decide,by decide⟩,k _ _ (Same.refl _) trivial⟩
 obtain ⟨H4,e4,s4,h4⟩:=newH a5 (.lst (ks.map V.int))
 rw [e4];clear e4
 have S3:Same H H3:=fun b o h=>s3 _ _ (s2 _ _ (s1 _ _ h))
 have U:Same H H4:=S3.trans s4
 walk_at "rd"
 refine ⟨⟨by decide,by decide⟩,by decide,?_⟩
 generalize md / 4 % 8=wy
 have Y:ZCI [.ref kl,.int mx] H4 Q E0:=⟨kl,ks,mx,rfl,h4,by omega,fun l H' zs s hl h hz=>q l H' zs (U.trans s) (U.free hl) h (by omega)⟩
 split
 .exact Y
 split
 .exact Y
 split
 .exact ⟨kl,ks,rfl,SqL.of h4,by omega,fun l us hl hp _=>q l _ us (U.new hl) (U.free hl) ZAF (by have:=hp.length_eq;omega)⟩
 split
 .refine ⟨kl,ks,rfl,SqL.of h4,by omega,fun l us hl hp _=>⟨l,_,rfl,SqL.of ZAF,fun r a1=>?_⟩⟩
  rw [<- List.map_reverse]
  exact q r _ us.reverse ((U.new hl).new a1) ((U.new hl).free a1) ZAF (by have:=hp.length_eq;rw [yCE];omega)
 split
 .have ad:=Int.emod_lt_of_pos mx (show (0:Int) < 2 * 60 by decide)
  refine ⟨.inl ⟨by decide,by decide⟩,by decide,mx,mx % (2 * 60),rfl,Int.emod_nonneg _ (by decide),by omega,fun l H5 zs s5 hl h5 hz aa=>?_⟩
  refine compI_gen (rest:=[some (.int m)]) (SqL.of h5) (by omega) rfl (fun _ _=>True) (fun c H' hc e Q' k=>?_) fun us H6 l6 ac _ s6 a0=>?_
  .walk_at "rd"
   exact ⟨a2,⟨by decide,by decide⟩,k _ _ (Same.refl _) trivial⟩
  have S6:Same H H6:=fun b o h=>s6 _ _ (s5 _ _ (U _ _ h))
  exact q l6 _ us (S6.new a0) (S6.free a0) ZAF (by omega)
 split
 .exact Y
 exact q kl H4 ks U (S3.free a5) h4 (by omega)
theorem ok_whole {f:Addr} {fd:FuncData} (F:Fun K "_law_whole" "_law_whole" ZDK f fd) (T:Bt K mg C_Join C_Pile C_Pour C_Asker C_AskedRule)
 :FnOk P w K mg base CX0 1 f fd ["_law_found"] (ZEj):=by
 refine F.ok sc_whole (fun vs H Q E h=>?_) (fun z A outer s H vs Q E B h=>?_)
 .obtain ⟨i,rfl,q⟩:=h
  rfl
 obtain ⟨i,rfl,q⟩:=h
 refine ⟨_,(ZAH (ZAS (ZFi (ZAP ZC0 rfl T.b_isinstance PyProof.Rows.boot_isinstance (ZAA (pv 0) (ZAA (ZFg rfl T.b_int PyProof.Rows.boot_int) ZAD))) (ZFe (pe_not (ZAP ZC0 rfl T.b_isinstance PyProof.Rows.boot_isinstance (ZAA (pv 0) (ZAA (ZFg rfl T.b_bool PyProof.Rows.boot_bool) ZAD)))))))),?_⟩
 walk_at "rd"
 refine inst_int ?_
 walk_at "rd"
 refine inst_int_bl T.kit_int_bool ?_
 walk_at "rd"
 exact q
theorem ok_in_order {f:Addr} {fd:FuncData} (F:Fun K "_law_in_order" "_law_in_order" ZBo f fd) (T:Bt K mg C_Join C_Pile C_Pour C_Asker C_AskedRule)
  (J:Fn P w K mg base CX0 "_law_whole" 1 ["_law_found"] (ZEj))
 :FnOk P w K mg base CX0 2 f fd ["_law_order","_law_keys_here","_law_many"] (ZDe):=by
 refine F.ok sc_in_order (fun vs H Q E h=>?_) (fun a7 A outer s H vs Q E hr h=>?_)
 .obtain ⟨ol,ky,os,ks,rfl,B,a0,L,Z,q⟩:=h
  rfl
 obtain ⟨ol,ky,os,ks,rfl,B,a0,L,Z,q⟩:=h
 refine ⟨_,(ZAB (ZBC (PW.pt (ZEw (ZE5 (ZB0 (ZAP ZC0 rfl T.b_isinstance PyProof.Rows.boot_isinstance (ZAA (pv 0) (ZAA (ZFg rfl T.b_list PyProof.Rows.boot_list) ZAD))))) (ZD1 (ZAT op_ne (ZAP ZAJ rfl T.b_len PySem.boot_len (ZAA (pv 0) ZAD)) (pv 2) (ZAY _)))))
  (ZAH (ZAS ZDl)) ZAe)
  (ZAB (ZB2 PassesOwn.never rfl (ZBU (pv 0)) (ZAd (i:=3) sc_in_order.nd rfl (by walk_at "o"))
  (ZAH (ZBC (PW.pt (ZEw (ZE5 (ZB0 (ZAw J (hr.mono (by decide)) rfl ZAV (ZAA (pv 3) ZAD)))) (ZEw (ZAT ZDP (pv 3) ZAG (ZAY _)) (ZD1 (ZAT ZGE (pv 3) (ZAP ZAJ rfl T.b_len PySem.boot_len (ZAA (pv 1) ZAD)) (ZAY _))))))
  (ZAH (ZAS ZDl)) ZAe)))
  (ZAB (ZB2 PassesOwn.never rfl (pi_zip rfl T.b_zip (ZAA (pv 0) (ZAA (ZCL ZCv (pv 0) (ZBu ZAG) ZEx) ZAD))) (ZEV (n:=2) rfl (ZA8 (ZAd (i:=4) sc_in_order.nd rfl (by walk_at "o")) (ZA8 (ZAd (i:=5) sc_in_order.nd rfl (by walk_at "o")) ZDO)))
  (ZAH (ZBC (ZAT (op_geT hr.units) (ZA3 (ZAA (ZAm ZAg (pv 1) (pv 4) (fun _ _=>rfl)) (ZAA (pv 4) ZAD))) (ZA3 (ZAA (ZAm ZAg (pv 1) (pv 5) (fun _ _=>rfl)) (ZAA (pv 5) ZAD))) (ZAY _))
  (ZAH (ZAS ZDl)) ZAe)))
  (ZAH (ZAS ZDl))))),?_⟩
 walk_at "rd"
 have a3:∀ i:Nat,i < ks.length->atI (ks.map V.int) (i:Int)=some (.int (kat ks i)):=fun i h=>ZEN (by omega) (by rw [Int.toNat_natCast];unfold kat;rw [yAI h];rfl)
 refine inst_lst B ?_
 walk_at "rd"
 refine ⟨ol,_,rfl,.inl (SqL.of B),?_⟩
 rw [yAA,if_neg (fun z=>z rfl)]
 refine ZCz (SqL.of B) (fun i σ H'=>∃ v3 v4 v5,σ=[some (.ref ol),some (.ref ky),some (.int os.length),v3,v4,v5] /\ H'=H) ⟨_,_,_,rfl,rfl⟩ (fun i σ H' _ ⟨_,_,_,_,e⟩=>by rw [e];exact SqL.of B) ?_ ?_
 .rintro i x σ H' O ⟨v3,v4,v5,rfl,rfl⟩
  rw [yAM] at O
  obtain ⟨y,U,rfl⟩:=yBP.mp O
  have a8:=L y (yAO U)
  walk_at "rd"
  refine ⟨(y:Int),rfl,_,rfl,?_⟩
  rw [if_neg (by decide)]
  rw [if_neg (by omega)]
  refine ⟨ky,_,rfl,.inl (SqL.of a0),?_⟩
  rw [yAA,if_neg (by omega)]
  exact ⟨_,_,_,rfl,rfl⟩
 rintro σ H' ⟨v3,v4,v5,rfl,rfl⟩
 walk_at "rd"
 refine ZDg (SqL.of B) fun sl a6=>?_
 rw [cutV_tail]
 obtain ⟨H2,e2,s2,h2⟩:=newH a6 (.lst ((nL os).drop 1))
 rw [e2];clear e2
 refine forZ_of (SqL.of (s2 _ _ B)) (SqL.of h2) (fun i σ H'=>∃ v3 v4 v5,σ=[some (.ref ol),some (.ref ky),some (.int os.length),v3,v4,v5] /\ Same H2 H') ⟨_,_,_,rfl,.refl _⟩ (fun i σ H' _ ⟨_,_,_,_,e⟩=>⟨SqL.of (e _ _ (s2 _ _ B)),SqL.of (e _ _ h2)⟩) ?_ ?_
 .rintro i x y σ H' p O U ⟨v3,v4,v5,rfl,s3⟩ hp
  rw [yCO,Nat.add_comm] at U
  rw [yAM] at O U
  obtain ⟨x,a4,rfl⟩:=yBP.mp O
  obtain ⟨y,a5,rfl⟩:=yBP.mp U
  clear O U
  have O:=a4
  have U:=a5
  have Y:=ZAK hp (.tup [.int x,.int y]) _ _ (s3 _ _ (s2 _ _ a0))
  have s4:Same H2 (upd H' p (.tup [.int (x:Int),.int (y:Int)])):=s3.new hp
  refine ZDR (SqT.of ZAF) rfl ?_
  walk_at "rd"
  refine ZAs (SqL.of Y) (a3 x (L x (yAO O))) ⟨ZAU (by decide),fun t1 a1=>?_⟩
  refine ZAs (SqL.of (ZAK a1 _ _ _ Y)) (a3 y (L y (yAO U))) ⟨ZAU (by decide),fun t2 a2=>?_⟩
  refine ⟨t1,t2,[kat ks x,(x:Int)],[kat ks y,(y:Int)],rfl,rfl,SqT.of (ZAK a2 _ _ _ ZAF),SqT.of ZAF,_,rfl,?_⟩
  rw [Z i x y O U]
  rw [if_neg (by decide)]
  exact ⟨_,_,_,rfl,(s4.new a1).new a2⟩
 rintro σ H' ⟨v3,v4,v5,rfl,s3⟩
 walk_at "rd"
 exact q _ (s2.trans s3)
theorem ok_shown {f:Addr} {fd:FuncData} (F:Fun K "_law_shown" "_law_shown" ZDL f fd) (T:Bt K mg C_Join C_Pile C_Pour C_Asker C_AskedRule)
 :FnOk P w K mg base CX0 1 f fd ["_law_order","_law_log"] (ZEo):=by
 refine F.ok sc_shown (fun vs H Q E h=>?_) (fun ad A outer s H vs Q E hr h=>?_)
 .obtain ⟨ol,lg,os,ks,pr,ws,rfl,a0,a2,ht,L,Y,a5,q⟩:=h
  rfl
 obtain ⟨ol,lg,os,ks,pr,ws,rfl,a0,a2,ht,L,Y,a5,q⟩:=h
 refine ⟨_,(ZAB (ZAO (i:=2) sc_shown.nd rfl (by walk_at "o") pe_dnewT)
  (ZAB (ZB2 PassesOwn.never rfl (ZBU (pv 1)) (ZEV (n:=3) rfl (ZA8 (ZAd (i:=3) sc_shown.nd rfl (by walk_at "o")) (ZA8 (ZAd (i:=4) sc_shown.nd rfl (by walk_at "o")) (ZA8 (ZAd (i:=5) sc_shown.nd rfl (by walk_at "o")) ZDO))))
  (ZAB (ZBC (ZAT op_le (pv 3) (pv 4) (ZAY _))
  (ZAH (ZAS ZDl)) ZAe)
  (ZAH (ZED (ZEZ hr) (pv 2) (ZA3 (ZAA (pv 3) (ZAA (pv 4) ZAD))) ZDl rfl))))
  (ZAB (ZB2 PassesOwn.never rfl (pi_zip rfl T.b_zip (ZAA (pv 0) (ZAA (ZCL ZCv (pv 0) (ZBu ZAG) ZEx) ZAD))) (ZEV (n:=2) rfl (ZA8 (ZAd (i:=6) sc_shown.nd rfl (by walk_at "o")) (ZA8 (ZAd (i:=7) sc_shown.nd rfl (by walk_at "o")) ZDO)))
  (ZAH (ZBC (pt_cmp (pc_dnotin (ZEZ hr) (ZA3 (ZAA (ZAP (ZDr rfl) rfl T.b_max PyProof.Rows.boot_max (ZAA (pv 6) (ZAA (pv 7) ZAD))) (ZAA (ZAP (ZBx rfl) rfl T.b_min PyProof.Rows.boot_min (ZAA (pv 6) (ZAA (pv 7) ZAD))) ZAD))) (pv 2)))
  (ZAH (ZAS ZDl)) ZAe)))
  (ZAH (ZAS ZDl))))),?_⟩
 walk_at "rd"
 intro d hd
 obtain ⟨H1,e1,s1,h1⟩:=newH hd (.dT [])
 rw [e1];clear e1
 refine ZCz (SqL.of (s1 _ _ a2)) (fun i σ H'=>∃ v3 v4 v5 v6 v7 kvs,σ=[some (.ref ol),some (.ref lg),some (.ref d),v3,v4,v5,v6,v7] /\ H' d=some (.dT kvs) /\ kvs.length <= i /\ Same H H' /\ ∀ (j p q:Nat),j < i->pr[j]?=some (p,q)->(valV kvs (kP p q)).isSome=true) ⟨_,_,_,_,_,[],rfl,h1,yAB _,s1,fun j p q z=>by omega⟩ (fun i σ H' _ ⟨_,_,_,_,_,_,_,_,_,e,_⟩=>SqL.of (e _ _ a2)) ?_ ?_
 .rintro i x σ H' U ⟨v3,v4,v5,v6,v7,kvs,rfl,J,ab,s2,B⟩
  have hi:=(yAR.mp U).1
  rw [ht.len] at hi
  obtain ⟨⟨p,q'⟩,hp⟩:∃ c,pr[i]?=some c:=⟨_,yAI hi⟩
  obtain ⟨t,a4,a8⟩:=ht.get i p q' hp
  rw [U] at a4
  cases a4
  have a9:=L _ (yAO hp)
  walk_at "rd"
  refine ZDR (SqT.of (s2 _ _ a8)) rfl ?_
  walk_at "rd"
  rw [if_neg (by have:q' < p:=a9;omega)]
  refine ⟨ZAU (by decide),fun t3 Z=>?_⟩
  have nd:d≠t3:=ZAE J Z
  refine ⟨d,_,rfl,DPut.t (k:=kP p q') (kvs:=kvs) (ZAK Z _ _ _ J) ZAF (ZFY (by omega)),?_⟩
  refine ⟨_,_,_,_,_,putK kvs (kP p q') (.bl true),rfl,ZAF,yAK (ZCM _ _ _) (by omega),(s2.new Z).upd hd,fun j p2 q2 hj a1=>?_⟩
  rw [valV_put]
  split
  .rfl
  .rename_i hne
   by_cases z:j=i
   .rw [z,hp] at a1
    cases a1
    exact absurd rfl hne
   .exact B j p2 q2 (by omega) a1
 rintro σ H' ⟨v3,v4,v5,v6,v7,kvs,rfl,J,ab,s2,B⟩
 walk_at "rd"
 refine ZDg (SqL.of (s2 _ _ a0)) fun sl aa=>?_
 rw [cutV_tail]
 obtain ⟨H3,e3,s3,h3⟩:=newH aa (.lst ((nL os).drop 1))
 rw [e3];clear e3
 have O:=s3 _ _ (s2 _ _ a0)
 refine forZ_of (SqL.of O) (SqL.of h3) (fun i σ H'=>∃ v3 v4 v5 v6 v7,σ=[some (.ref ol),some (.ref lg),some (.ref d),v3,v4,v5,v6,v7] /\ Same H3 H') ⟨_,_,_,_,_,rfl,.refl _⟩ (fun i σ H' _ ⟨_,_,_,_,_,_,e⟩=>⟨SqL.of (e _ _ O),SqL.of (e _ _ h3)⟩) ?_ ?_
 .rintro i x y σ H' p U hy ⟨v3,v4,v5,v6,v7,rfl,s4⟩ hp
  rw [yCO,Nat.add_comm] at hy
  rw [yAM] at U hy
  obtain ⟨x,a6,rfl⟩:=yBP.mp U
  obtain ⟨y,a7,rfl⟩:=yBP.mp hy
  clear U hy
  have U:=a6
  have hy:=a7
  refine ZDR (SqT.of ZAF) rfl ?_
  walk_at "rd"
  refine ⟨_,_,rfl,_,_,rfl,?_⟩
  rw [ZGG,ZEX]
  refine ⟨ZAU (by decide),fun t5 a3=>?_⟩
  have hm:=Y i x y U hy
  obtain ⟨j,hj⟩:=yCN hm
  have hv:=B j _ _ (by have:=(yAR.mp hj).1;rw [ht.len];exact this) hj
  have ac:=ZAK a3 (.tup [.int (max (x:Int) y),.int (min (x:Int) y)]) _ _ (ZAK hp (.tup [.int x,.int y]) _ _ (s4 _ _ (s3 _ _ J)))
  refine ⟨d,_,rfl,DGet.t (k:=kP (max x y) (min x y)) ac (by rw [ZAF];show some _=some (HO.tup [.int ((max x y:Nat):Int),.int ((min x y:Nat):Int)]);rw [show ((max x y:Nat):Int)=max (x:Int) y by omega,show ((min x y:Nat):Int)=min (x:Int) y by omega]),?_⟩
  rw [hv,if_neg (by decide)]
  exact ⟨_,_,_,_,_,rfl,(s4.new hp).new a3⟩
 rintro σ H' ⟨v3,v4,v5,v6,v7,rfl,s4⟩
 walk_at "rd"
 exact q _ ((s2.trans s3).trans s4)
theorem ok_beside {f:Addr} {fd:FuncData} (F:Fun K "_law_beside" "_law_beside" ZCm f fd) (T:Bt K mg C_Join C_Pile C_Pour C_Asker C_AskedRule)
  (O:Fn P w K mg base CX0 "in_rounds" 14 ["asker","pieces","mouths"] (ZCH C_Asker C_AskedRule))
  (a7:Fn P w K mg base CX0 "_law_teller" 1 ["_law_log"] (ZEP Pt_teller (ZCa ZAN) "_law_teller_here" "_law_teller.<locals>._law_teller_here" (ZAM ZAN) (ZAL ZAN) (ZAC ZAN) ["_law_log"] [0] 1))
  (a5:Fn P w K mg base CX0 "by_pile" 9 ["asker","least","part"] (ZC8 C_Asker C_AskedRule))
  (a4:KlD P w K mg base CX0 "Asker" C_Asker 1 ["self","row","rule","most"] (ZCJ C_Asker) [.non])
  (J:Kl P w K mg base CX0 "AskedRule" C_AskedRule 1 ["self","teller"] (ZCe C_AskedRule))
 :FnOk P w K mg base CX0 15 f fd ["_law_keys_here","_law_wide","_law_mouths","_law_least"] (ZDJ Pt_teller):=by
 refine F.ok sc_beside (fun vs H Q E h=>?_) (fun cm A outer s H vs Q E hr h=>?_)
 .obtain ⟨ky,ks,wd,d,ls,rfl,af,c0,bd,a9,bp,b6,bn,q⟩:=h
  rfl
 obtain ⟨ky,ks,wd,d,ls,rfl,af,c0,bd,a9,bp,b6,bn,q⟩:=h
 refine ⟨_,(ZAB (ZCC (i:=4) sc_beside.nd rfl (Or.inl rfl) rfl (k:=2) (js:=[]) (N':=["_law_k","_law_key"]) (by rfl) (pi_enum rfl T.b_enumerate (ZAA (pv 0) ZAD)) (fun _ _ _ _=>pg_tupK (n:=2) K rfl (ZA8 (ZAd (i:=0) (show (["_law_k","_law_key"]:List Str).Nodup by decide +kernel) rfl (by walk_at "o")) (ZA8 (ZAd (i:=1) (show (["_law_k","_law_key"]:List Str).Nodup by decide +kernel) rfl (by walk_at "o")) ZDO))) (fun _ _ _ _=>ZBT) (fun _ _ _ _=>(ZA3 (ZAA (pv 1) (ZAA (pv 0) ZAD)))))
  (ZAW
  (ZAB (ZAO (i:=5) sc_beside.nd rfl (by walk_at "o") (ZBF ZAD))
  (ZAW
  (ZAB (ZAO (i:=6) sc_beside.nd rfl (by walk_at "o") (pe_mkD a4 (hr.mono (by decide)) rfl ZAV (ZAA (pv 4) (ZAA (ZFf J (hr.mono (by decide)) rfl ZAV (ZAA (ZAw a7 (hr.mono (by decide)) rfl ZAV (ZAA (pv 5) ZAD)) ZAD)) ZAD))))
  (ZAW
  (ZAB (ZAO (i:=7) sc_beside.nd rfl (by walk_at "o") (ZBF ZAD))
  (ZAW
  (ZAB (ZB2 PassesOwn.never rfl (pi_range3N rfl T.b_range (ZAA ZAG (ZAA (ZAP ZAJ rfl T.b_len PySem.boot_len (ZAA (pv 4) ZAD)) (ZAA (pv 1) ZAD)))) (ZAd (i:=8) sc_beside.nd rfl (by walk_at "o"))
  (ZAH (ZAk (ZCU PySem.F.plainAttrs_list PySem.F.slot_list_append PySem.F.type_list_append ZBV (pv 7) (ZAA (ZAw a5 (hr.mono (by decide)) rfl ZAV (ZAA (pv 6) (ZAA (pv 3) (ZAA (ZA3 (ZAA (pv 8) (ZAA (ZAP (ZBx rfl) rfl T.b_min PyProof.Rows.boot_min (ZAA (ZAR ZAh (pv 8) (pv 1)) (ZAA (ZAP ZAJ rfl T.b_len PySem.boot_len (ZAA (pv 4) ZAD)) ZAD))) ZAD))) ZAD)))) ZAD)))))
  (ZAW
  (ZAB (ZAk (ZAw O (hr.mono (by decide)) rfl ZAV (ZAA (pv 6) (ZAA (pv 7) (ZAA (pv 2) ZAD)))))
  (ZAH (ZAS (pv 5)))))))))))))),?_⟩
 walk_at "rd"
 have b0:=c0
 let HR:=H
 refine compE_of (SqL.of b0) (by rw [yAA];omega) (fun i ys σ H'=>∃ v w,σ=[v,w] /\ Same HR H' /\ ys.length=i /\ ∀ (j:Nat) k,j < i->ks[j]?=some k->∃ r,ys[j]?=some (V.ref r) /\ H' r=some (.tup [.int k,.int j])) ⟨_,_,rfl,.refl _,rfl,fun _ _ h=>by omega⟩ (fun i ys σ H' _ ⟨_,_,_,s,l,_⟩=>⟨SqL.of (s _ _ b0),yCD l⟩) ?_ ?_
 .rintro i ys x σ H' p hi hx ⟨v,w,rfl,s3,hl,aj⟩ hp
  obtain ⟨k,hk,rfl⟩:=ZDE hx
  walk_at "rd"
  refine ZDR (SqT.of ZAF) rfl ?_
  walk_at "rd"
  refine ⟨ZAU (by decide),fun t ht=>?_⟩
  refine Nxt.of hi ⟨_,_,rfl,(s3.new hp).new ht,by rw [yAE,hl];rfl,fun j k' hj b3=>?_⟩
  by_cases z:j < i
  .obtain ⟨r,a1,a2⟩:=aj j k' z b3
   exact ⟨r,by rw [yBD (by omega)];exact a1,ZAK ht _ _ _ (ZAK hp _ _ _ a2)⟩
  .have:j=i:=by omega
   subst this
   rw [hk] at b3;cases b3
   exact ⟨t,by rw [<- hl,yBC (yAB _),yBG];rfl,ZAF⟩
 rintro xs σ H3 ⟨v,w,rfl,s3,bu,aj⟩ xl bt
 rw [yAA] at bu aj
 obtain ⟨co,e4,bc,bm⟩:=newH bt (.lst xs)
 rw [e4];clear e4
 refine ZAc ?_
 walk_at "rd"
 refine ⟨yAJ _,fun lg hlg=>?_⟩
 obtain ⟨H4,e4,b7,av⟩:=newH hlg (.lst [])
 rw [e4];clear e4
 have S4:Same H H4:=s3.trans (bc.trans b7)
 have ao:TabSt H4 Pt_teller (ZCa ZAN) "_law_teller.<locals>._law_teller_here":=by
  obtain ⟨t,ht⟩:∃ t,H Pt_teller=some (.tbl t):=by
   rcases af with h | ⟨c',h,_⟩ <;> exact ⟨_,h⟩
  exact af.mono (by rw [S4 _ _ ht,ht]) S4.fz
 have h4:=b7 _ _ bm
 have ab:Things H4 ks xs:=⟨bu,fun i k hk=>by
  have hi:=(yAR.mp hk).1
  obtain ⟨r,a1,a2⟩:=aj i k (by omega) hk
  exact ⟨r,a1,b7 _ _ (bc _ _ a2)⟩⟩
 refine ZAc ?_
 walk_at "rd"
 obtain ⟨cj,ag⟩:∃ t,H4 Pt_teller=some (.tbl t):=by
  rcases ao with h | ⟨c',h,_⟩ <;> exact ⟨_,h⟩
 refine ⟨rfl,ao,fun g H5 md=>?_⟩
 have nP:∀ b o,H4 b=some o->(∀ t,o≠.tbl t)->b≠Pt_teller:=fun b o h n z=>by rw [z,ag] at h;exact n _ (Option.some.inj h).symm
 intro ru dr b2 be c6
 have aw:upd H5 dr (.own ru) ru=none:=by rw [ZAI (Ne.symm c6)];exact b2
 have s6:Same H5 (upd (upd H5 dr (.own ru)) ru (.ins C_AskedRule dr [])):=(ZAK be _).trans (ZAK aw _)
 refine ⟨ru,dr,g,rfl,ZAF,fun H7 k7 ir=>⟨rfl,?_⟩⟩
 have U:∀ b o,H5 b=some o->H7 b=some o:=fun b o h=>k7 b o (ZAE h b2) (s6 _ _ h)
 intro ak da a8 bi ca
 have ax:upd H7 da (.own ak) ak=none:=by rw [ZAI (Ne.symm ca)];exact a8
 have s8:Same H7 (upd (upd H7 da (.own ak)) ak (.ins C_Asker da [])):=(ZAK bi _).trans (ZAK ax _)
 have am:∃ t,H5 Pt_teller=some (.tbl t):=by
  rcases md.tab with h | ⟨c',h,_⟩
  .exact ⟨_,h⟩
  .exact ⟨_,h⟩
 have u7:∀ b o,H4 b=some o->(∀ t,o≠.tbl t)->H7 b=some o:=fun b o h n=>U _ _ (md.same b o (nP b o h n) h)
 have az:=u7 xl _ h4 fun _ z=>by cases z
 refine ⟨ak,da,xl,ru,.non,xs,rfl,ZAF,s8 _ _ az,fun rl tl HA k9 br b4 cb ia b5 bf=>⟨rfl,?_⟩⟩
 have u9:∀ b o,H7 b=some o->HA b=some o:=fun b o h=>k9 b o (ZAE h a8) (s8 _ _ h)
 have a6:=u7 lg _ av fun _ z=>by cases z
 have as:upd (upd H7 da (.own ak)) ak (.ins C_Asker da []) ak=some (.ins C_Asker da []):=ZAF
 obtain ⟨cn,ce,er,_,_⟩:=ir.ex
 have L:ru≠ak:=ZAE er a8
 have ar:=ZB3 (S:=[ak]) (fun b o n h=>k9 b o (fun z=>n (by rw [z];exact yAC)) (s8 _ _ h)) (fun z=>L (yAH.mp z)) ir
 have ap:=md.clo.mono (H':=HA) fun b o h=>u9 _ _ (U _ _ h)
 have ay:∀ (i:Nat) k,ks[i]?=some k->∃ r,xs[i]?=some (V.ref r) /\ HA r=some (.tup [.int k,.int i]):=fun i k hk=>by
  obtain ⟨r,a1,a2⟩:=ab.2 i k hk
  exact ⟨r,a1,u9 _ _ (u7 _ _ a2 fun _ z=>by cases z)⟩
 have st:SitR C_Asker C_AskedRule HA ⟨ks,xs,ak,rl,ru,tl,g,lg⟩ []:=⟨ia,b5,ar,ap,ab.1,ay,⟨[],u9 _ _ a6,rfl,fun j p q b h=>by simp at h⟩,⟨[],bf,rfl,fun j p q b h=>by simp at h⟩,ZAE (s8 _ _ a6) b4,ZFF (Ne.symm (ZAE as br)) (Ne.symm (ZAE (s8 _ _ a6) br)) cb,L⟩
 have b8:∀ b o,b≠Pt_teller->H4 b=some o->HA b=some o /\ (b≠lg->b∉[ak,lg,tl]):=fun b o n h=>by
  have h7:=U _ _ (md.same b o n h)
  exact ⟨u9 _ _ h7,fun nl=>ZFF (ZAE h7 a8) nl (ZAE (s8 _ _ h7) b4)⟩
 have c7:TabSt HA Pt_teller (ZCa ZAN) "_law_teller.<locals>._law_teller_here":=by
  rcases md.tab with h | ⟨c',h,hc⟩
  .exact .inl (u9 _ _ (U _ _ h))
  .exact .inr ⟨c',u9 _ _ (U _ _ h),hc.mono fun b o hb=>u9 _ _ (U _ _ hb)⟩
 have bw:Pt_teller∉[ak,lg,tl]:=by
  obtain ⟨t,ht⟩:=am
  exact ZFF (ZAE (U _ _ ht) a8) (fun z=>by rw [z,av] at ag;cases ag) (ZAE (s8 _ _ (U _ _ ht)) b4)
 obtain ⟨c,rfl,rfl,rfl,rfl,rfl,rfl,rfl,rfl,st⟩:∃ c:Ad,c.ks=ks /\ c.xs=xs /\ c.a=ak /\ c.rl=rl /\ c.ru=ru /\ c.tl=tl /\ c.g=g /\ c.lg=lg /\ SitR C_Asker C_AskedRule HA c []:=⟨⟨ks,xs,ak,rl,ru,tl,g,lg⟩,rfl,rfl,rfl,rfl,rfl,rfl,rfl,rfl,st⟩
 have bh:∀ b o,b≠Pt_teller->H b=some o->HA b=some o /\ b∉c.S:=fun b o n h=>by
  obtain ⟨a1,a2⟩:=b8 b o n (S4 _ _ h)
  exact ⟨a1,a2 (ZAE (bc _ _ (s3 _ _ h)) hlg)⟩
 have a3:=b8 xl _ (nP xl _ h4 fun _ z=>by cases z) h4
 have c1:xl∉c.S:=a3.2 (ZAE bm hlg)
 have a3:=a3.1
 have au:c.xs.length=c.ks.length:=ab.1
 have w:Wp c.n c.an (besP ls wd d c.n) [] _:=Wa.wp (anK c.ks) (besP_al (pr:=[]) a9 b6 bn (by show c.ks.length <= 120;omega) (by simp))
 clear u7 u9 k9 k7 U md s8 s6 nP am az a6 er as L ia b5 bf b2 aw a8 ax be bi b8 ar ap ay
 unfold besP ZEe at w
 replace w:=w.bind
 refine ZAc ?_
 walk_at "rd"
 refine ⟨yAJ _,fun pl ae=>?_⟩
 obtain ⟨HB,eB,sB,bo⟩:=newH ae (.lst [])
 rw [eB];clear eB
 have bx:=st.off ae
 refine ZAc ?_
 walk_at "rd"
 refine ⟨xl,_,rfl,.inl (SqL.of (sB _ _ a3)),?_⟩
 rw [au]
 refine forR3_of (i:=((0:Nat):Int)) (by omega) (ZEv (n:=c.ks.length) a9) (fun k σ X=>∃ v B a0 pr',σ=[some (.ref ky),some (.int wd),some (.int d),some (.int ls),some (.ref xl),some (.ref c.lg),some (.ref c.a),some (.ref pl),v] /\ X pl=some (.lst (B.map V.ref)) /\ B.length=k /\ PL X B a0 /\ tot a0=min (k * wd) c.n /\ SitR C_Asker C_AskedRule X c pr' /\ Fr c.S HA X /\ (∀ l∈B,HA l=none /\ l≠pl) /\ Wp c.n c.an (pcsP grd ls wd c.n (grpN c.n wd-k) (k * wd) a0) pr' _) ⟨_,[],[],[],rfl,bo,rfl,.nil,by rw [yBS,Nat.zero_min];rfl,st.mono sB,sB.fr,(fun l h=>by cases h),by rw [yBS];exact w⟩ ?_ ?_
 .rintro k σ X bz ⟨v,B,a0,pr1,rfl,Z,bq,ai,bv,ah,fX,ad,wX⟩
  have b9:=grp_in a9 bz
  have e0:((0:Nat):Int)+(k:Int) * (wd:Int)=((k * wd:Nat):Int):=by rw [Int.natCast_mul];omega
  rw [e0]
  generalize hkw:k * wd=s at wX b9 bv
  walk_at "rd"
  refine ⟨.inl ⟨rfl,_,SqL.of Z⟩,?_⟩
  refine ⟨xl,_,rfl,.inl (SqL.of (fX _ _ c1 a3)),?_⟩
  rw [au]
  refine ⟨_,_,rfl,?_⟩
  rw [ZEX,show min ((s:Int)+wd) (c.ks.length:Nat)=((min (s+wd) c.n:Nat):Int) by show _=((min (s+wd) c.ks.length:Nat):Int);omega]
  refine ⟨ZAU (by decide),fun pt cc=>?_⟩
  obtain ⟨X1,e1,aa,h1⟩:=newH cc (.tup [.int (s:Int),.int ((min (s+wd) c.n:Nat):Int)])
  rw [e1];clear e1
  have cq:k < grpN c.n wd:=bz
  have c3:c.n <= 119:=bd
  rw [show grpN c.n wd-k=(grpN c.n wd-(k+1))+1 by omega,pcsP] at wX
  have b9:s < c.n:=b9
  refine ⟨c,pr1,ls,s,min (s+wd) c.n,pt,_,rfl,ah.mono aa,h1,by omega,by omega,by omega,wX.bind,fun l Y os pr2 fY bj c8 ba cg bb=>?_⟩
  have aq:X l=none:=aa.free bj
  have c9:l≠pl:=Ne.symm (ZAE Z aq)
  have b1:=fY _ _ (Ad.SA bx) (aa _ _ Z)
  have c2:=ZEa (n:=c.n) a9
  refine ⟨pl,_,_,rfl,rfl,b1,ZAq (by rw [yAA];omega),?_⟩
  have c5:PL Y (B++[l]) (a0++[os]):=((ai.mono aa).frk fY fun b hb=>Ad.SA (st.off (ad b hb).1)).snoc c8
  have ac:∀ l'∈B++[l],HA l'=none /\ l'≠pl:=fun l' h=>by
   rcases yAX.mp h with h | h
   .exact ad l' h
   .rw [yAH.mp h];exact ⟨ah.free fX aq,c9⟩
  refine ⟨_,B++[l],a0++[os],pr2,rfl,by rw [ZAF,yAL];rfl,by rw [yAE,bq];rfl,c5.frk ZFq (fun b hb z=>(ac b hb).2 (yAH.mp z)),?_,ba.upd b1 bx,fun b o n h=>?_,ac,?_⟩
  .rw [ZD4,yBT,hkw,show tot [os]=os.length by unfold tot;simp]
   omega
  .rw [ZAI (ZAE h ae)]
   exact fY _ _ n (aa _ _ (fX _ _ n h))
  .rw [yBT,hkw];exact bb
 rintro σ X ⟨v,B,a0,pr1,rfl,Z,bq,ai,bv,ah,fX,ad,wX⟩
 have e0:grpN c.n wd-grpN c.ks.length wd=0:=yBG _
 rw [e0] at wX
 have c2:=ZEa (n:=c.ks.length) a9
 have ch:=ai.len
 have c3:c.n <= 119:=bd
 walk_at "rd"
 refine ZAc ?_
 walk_at "rd"
 refine ⟨c,pr1,pl,B,a0,d,_,rfl,ah,Z,ai,by omega,by omega,b6,by omega,by omega,wX,fun pr' z=>?_,fun t l nm Y r pr2 fY ck bj cf ci cp cd ba b5 bb=>?_⟩
 .obtain ⟨⟨r,hr⟩,_⟩:=z
  cases hr
 have c4:pr2=(runP66 c.ks ls wd d).2:=(congrArg Prod.snd bb.2).trans (bes_log c.ks ls wd d)
 obtain ⟨ws,bg,al⟩:=ba.hlg
 rw [c4] at al
 have F:Fr c.S HA Y:=fX.trans fY
 walk_at "rd"
 refine q c.lg Y ws (fun b o n h=>F _ _ (bh b o n h).2 (bh b o n h).1) ?_ bg al
 rcases c7 with h | ⟨c',h,hc⟩
 .exact .inl (F _ _ bw h)
 .exact .inr ⟨c',F _ _ bw h,hc.mono fun b o hb=>F _ _ (Ad.SA (st.tupS hb (fun _ z=>by cases z) (fun _ _ _ z=>by cases z))) hb⟩
theorem ok_law {f:Addr} {fd:FuncData} (F:Fun K "law" "law" ZEB f fd) (T:Bt K mg C_Join C_Pile C_Pour C_Asker C_AskedRule)
  (ap:Fn P w K mg base CX0 "_law_keys" 3 ["_law_script","_law_most"] (ZFX K))
  (a8:Fn P w K mg base CX0 "_law_told" 16 ["_law_asker","_law_wide","_law_mouths","_law_least","_law_way"] (ZEk C_Asker C_AskedRule))
  (B:Fn P w K mg base CX0 "_law_cell_at" 1 ["_law_script","_law_k"] (ZEQ K))
  (J:Fn P w K mg base CX0 "_law_in_order" 2 ["_law_order","_law_keys_here","_law_many"] (ZDe))
  (aa:Fn P w K mg base CX0 "_law_teller" 1 ["_law_log"] (ZEP Pt_teller (ZCa ZAN) "_law_teller_here" "_law_teller.<locals>._law_teller_here" (ZAM ZAN) (ZAL ZAN) (ZAC ZAN) ["_law_log"] [0] 1))
  (af:Fn P w K mg base CX0 "_law_shown" 1 ["_law_order","_law_log"] (ZEo))
  (ad:Fn P w K mg base CX0 "_law_beside" 15 ["_law_keys_here","_law_wide","_law_mouths","_law_least"] (ZDJ Pt_teller))
  (a4:KlD P w K mg base CX0 "Asker" C_Asker 1 ["self","row","rule","most"] (ZCJ C_Asker) [.non])
  (U:Kl P w K mg base CX0 "AskedRule" C_AskedRule 1 ["self","teller"] (ZCe C_AskedRule))
 :FnOk P w K mg base CX0 17 f fd ["_law_script"] (ZFW K [(cc_teller,Pt_teller)]):=by
 refine F.ok sc_law (fun vs H Q E h=>?_) (fun d6 A outer s H vs Q E hr h=>?_)
 .obtain ⟨a,ns,rfl,hS,c4,hT,q⟩:=h
  rfl
 obtain ⟨a,ns,rfl,hS,c4,hT,q⟩:=h
 refine ⟨_,(ZAB (ZAO (i:=1) sc_law.nd rfl (by walk_at "o") (ZAw ap (hr.mono (by decide)) rfl ZAV (ZAA (pv 0) (ZAA ZAG ZAD))))
  (ZAW
  (ZAB (ZAO (i:=2) sc_law.nd rfl (by walk_at "o") (ZAR ZAh ZAG (ZAR ZBH (ZAR ZBK (ZAw B (hr.mono (by decide)) rfl ZAV (ZAA (pv 0) (ZAA ZAG ZAD))) ZAG) ZAG)))
  (ZAB (ZBC (ZAT ZCX (ZAR ZBH (ZAw B (hr.mono (by decide)) rfl ZAV (ZAA (pv 0) (ZAA ZAG ZAD))) ZAG) ZAG (ZAY _))
  (ZAH (ZAO (i:=2) sc_law.nd rfl (by walk_at "o") (ZAR ZAh ZAG (ZAR ZBH (ZAR ZBK (ZAw B (hr.mono (by decide)) rfl ZAV (ZAA (pv 0) (ZAA ZAG ZAD))) ZAG) ZAG)))) ZAe)
  (ZAW
  (ZAB (ZAO (i:=3) sc_law.nd rfl (by walk_at "o") (ZAR ZBH (ZAw B (hr.mono (by decide)) rfl ZAV (ZAA (pv 0) (ZAA ZAG ZAD))) ZAG))
  (ZAW
  (ZAB (ZAO (i:=4) sc_law.nd rfl (by walk_at "o") (ZAm ZAg (ZBF (ZAA ZAG (ZAA (ZAR ZAh ZAG (ZAR ZBH (ZAR ZBK (ZAw B (hr.mono (by decide)) rfl ZAV (ZAA (pv 0) (ZAA ZAG ZAD))) ZAG) ZAG)) ZAD))) (ZAP (ZBx rfl) rfl T.b_min PyProof.Rows.boot_min (ZAA (pv 3) (ZAA ZAG ZAD))) (fun _ _=>rfl)))
  (ZAW
  (ZAB (ZAO (i:=5) sc_law.nd rfl (by walk_at "o") (ZAm ZAg (ZBF (ZAA ZAG (ZAA ZAG (ZAA (ZAR ZAh ZAG (ZAR ZBH (ZAR ZBK (ZAw B (hr.mono (by decide)) rfl ZAV (ZAA (pv 0) (ZAA ZAG ZAD))) ZAG) ZAG)) ZAD)))) (pv 3) (fun _ _=>rfl)))
  (ZAW
  (ZAB (ZAO (i:=6) sc_law.nd rfl (by walk_at "o") (ZBF ZAD))
  (ZAW
  (ZAB (ZAO (i:=7) sc_law.nd rfl (by walk_at "o") (pe_mkD a4 (hr.mono (by decide)) rfl ZAV (ZAA (ZCw rfl (k:=2) (js:=[]) (N':=["_law_k","_law_key"]) (by rfl) (pi_enum rfl T.b_enumerate (ZAA (pv 1) ZAD)) (fun _ _ _ _=>pg_tupK (n:=2) K rfl (ZA8 (ZAd (i:=0) (show (["_law_k","_law_key"]:List Str).Nodup by decide +kernel) rfl (by walk_at "o")) (ZA8 (ZAd (i:=1) (show (["_law_k","_law_key"]:List Str).Nodup by decide +kernel) rfl (by walk_at "o")) ZDO))) (fun _ _ _ _=>ZBT) (fun _ _ _ _=>(ZA3 (ZAA (pv 1) (ZAA (pv 0) ZAD))))) (ZAA (ZFf U (hr.mono (by decide)) rfl ZAV (ZAA (ZAw aa (hr.mono (by decide)) rfl ZAV (ZAA (pv 6) ZAD)) ZAD)) ZAD))))
  (ZAW
  (ZAB (ZAO (i:=8) sc_law.nd rfl (by walk_at "o") (ZAw a8 (hr.mono (by decide)) rfl ZAV (ZAA (pv 7) (ZAA (pv 2) (ZAA (pv 4) (ZAA (pv 5) (ZAA (pv 3) ZAD)))))))
  (ZAW
  (ZAB (ZBC (PW.pt (ZEw (ZE5 (ZB0 (ZAw J (hr.mono (by decide)) rfl ZAV (ZAA (pv 8) (ZAA (pv 1) (ZAA (ZAP ZAJ rfl T.b_len PySem.boot_len (ZAA (pv 1) ZAD)) ZAD)))))) (ZD1 (ZE5 (ZB0 (ZAw af (hr.mono (by decide)) rfl ZAV (ZAA (pv 8) (ZAA (pv 6) ZAD))))))))
  (ZAH (ZAS ZDl)) ZAe)
  (ZAW
  (ZAB (ZBC (PW.pt (ZEw (ZAT (op_neD hr.units) (pv 6) (ZAw ad (hr.mono (by decide)) rfl ZAV (ZAA (pv 1) (ZAA (pv 2) (ZAA (pv 4) (ZAA (pv 5) ZAD))))) (ZAY _)) (ZD1 (ZAT op_ne (ZAQ (pv 7) rfl) (ZAP ZAJ rfl T.b_len PySem.boot_len (ZAA (pv 6) ZAD)) (ZAY _)))))
  (ZAH (ZAS ZDl)) ZAe)
  (ZAW
  (ZAB (ZAO (i:=9) sc_law.nd rfl (by walk_at "o") (ZA0 ZBP rfl T.b_list PyProof.Rows.boot_list (ZAA (pv 8) ZAD)))
  (ZAW
  (ZAB (ZAk (ZFh PySem.F.plainAttrs_list PySem.F.slot_list_clear PySem.F.type_list_clear mt_clear (pv 8)))
  (ZAW
  (ZAB (ZAO (i:=10) sc_law.nd rfl (by walk_at "o") (ZAw a8 (hr.mono (by decide)) rfl ZAV (ZAA (pv 7) (ZAA (pv 2) (ZAA (pv 4) (ZAA (pv 5) (ZAA (pv 3) ZAD)))))))
  (ZAH (ZAS (ZFi (ZAw J (hr.mono (by decide)) rfl ZAV (ZAA (pv 10) (ZAA (pv 1) (ZAA (ZAP ZAJ rfl T.b_len PySem.boot_len (ZAA (pv 1) ZAD)) ZAD)))) (ZFe (ZDk (op_eqD hr.units) (pv 10) (pv 9) (ZAY _)))))))))))))))))))))))))))))))),?_⟩
 walk_at "rd"
 refine ⟨a,ns,rfl,hS,c4,fun ky Hk ks ci cy cg cj=>?_⟩
 have a6:=ci.seq hS
 refine ZAc ?_
 walk_at "rd"
 refine ⟨a,ns,2,rfl,a6,by decide,?_⟩
 walk_at "rd"
 apply ZFk (fun (k:Int)=>∃ wd:Nat,k=wd /\ 0 < wd /\ wd <= 130)
 .intro ah
  refine ⟨⟨by decide,by decide⟩,by decide,a,ns,2,rfl,a6,by decide,?_⟩
  walk_at "rd"
  refine ⟨by decide,?_⟩
  by_cases hp:cellOf ns 2 % 2=1
  .rw [if_pos hp]
   refine ⟨a,ns,2,rfl,a6,by decide,?_⟩
   walk_at "rd"
   refine ⟨⟨by decide,by decide⟩,by decide,?_⟩
   obtain ⟨k,hk⟩:∃ k:Int,1+cellOf ns 2 / 2 % 130=k:=⟨_,rfl⟩
   rw [hk]
   exact ah k ⟨k.toNat,by omega,by omega,by omega⟩
  .rw [if_neg hp]
   obtain ⟨k,hk⟩:∃ k:Int,1+cellOf ns 2 / 2 % 9=k:=⟨_,rfl⟩
   rw [hk]
   exact ah k ⟨k.toNat,by omega,by omega,by omega⟩
 rintro _ ⟨wd,rfl,ao,d1⟩
 refine ZAc ?_
 walk_at "rd"
 refine ⟨a,ns,3,rfl,a6,by decide,?_⟩
 walk_at "rd"
 refine ⟨by decide,?_⟩
 obtain ⟨L,cn,d0⟩:∃ L:Nat,cellOf ns 3 % 3=L /\ L <= 2:=⟨(cellOf ns 3 % 3).toNat,by omega,by omega⟩
 rw [cn]
 refine ZAc ?_
 walk_at "rd"
 refine ⟨a,ns,3,rfl,a6,by decide,?_⟩
 walk_at "rd"
 refine ⟨⟨by decide,by decide⟩,by decide,ZAU (by decide),fun l1 ca=>⟨_,_,rfl,?_⟩⟩
 rw [ZEX]
 obtain ⟨H1,e1,s1,h1⟩:=newH ca (.lst [.int 2,.int (2+cellOf ns 3 / 3 % 5)])
 rw [e1];clear e1
 obtain ⟨d,hd,ag,bj,hd0⟩:∃ d:Nat,(if L=0 then (2:Int) else 2+cellOf ns 3 / 3 % 5)=d /\ 2 <= d /\ d <= 9 /\ (L=0->d=2):=by
  by_cases z:L=0
  .exact ⟨2,by rw [if_pos z];rfl,by decide,by decide,fun _=>rfl⟩
  .exact ⟨(2+cellOf ns 3 / 3 % 5).toNat,by rw [if_neg z];omega,by omega,by omega,fun y=>absurd y z⟩
 refine ZAs (v:=.int d) (SqL.of h1) ?_ ?_
 .by_cases z:L=0
  .rw [if_pos z] at hd
   rw [z]
   exact ZAl (by decide) (by rw [<- hd];rfl)
  .rw [if_neg z] at hd
   rw [show min (L:Int) 1=1 by omega]
   exact ZAl (by decide) (by rw [<- hd];rfl)
 walk_at "rd"
 have bz:=s1.seq a6
 refine ZAc ?_
 walk_at "rd"
 refine ⟨a,ns,3,rfl,bz,by decide,?_⟩
 walk_at "rd"
 refine ⟨⟨by decide,by decide⟩,by decide,ZAU (by decide),fun l2 as=>?_⟩
 obtain ⟨H2,e2,s2,h2⟩:=newH as (.lst [.int 1,.int 1,.int (1+cellOf ns 3 / 15 % 12)])
 rw [e2];clear e2
 obtain ⟨ls,ab,cz,am⟩:∃ ls:Nat,(if L=2 then 1+cellOf ns 3 / 15 % 12 else (1:Int))=ls /\ ls <= 12 /\ (L≠2->ls=1):=by
  by_cases z:L=2
  .exact ⟨(1+cellOf ns 3 / 15 % 12).toNat,by rw [if_pos z];omega,by omega,fun y=>absurd z y⟩
  .exact ⟨1,by rw [if_neg z];rfl,by decide,fun _=>rfl⟩
 refine ZAs (v:=.int ls) (SqL.of h2) ?_ ?_
 .by_cases z:L=2
  .rw [if_pos z] at ab
   rw [z]
   exact ZAl (by decide) (by rw [<- ab];rfl)
  .rw [if_neg z] at ab
   rcases (show L=0∨L=1 by omega) with y | y <;> rw [y]
   .exact ZAl (by decide) (by rw [<- ab];rfl)
   .exact ZAl (by decide) (by rw [<- ab];rfl)
 walk_at "rd"
 have b9:(L=0 /\ d=2 /\ ls=1)∨(L=1 /\ ls=1)∨L=2:=by
  rcases (show L=0∨L=1∨L=2 by omega) with z | z | z
  .exact .inl ⟨z,hd0 z,am (by omega)⟩
  .exact .inr (.inl ⟨z,am (by omega)⟩)
  .exact .inr (.inr z)
 have SH:=ci.trans (s1.trans s2)
 have b2:=(s1.trans s2) _ _ cg
 clear a6 bz h1 h2 ca as hd ab cn hd0 am
 refine ZAc ?_
 walk_at "rd"
 refine ⟨yAJ _,fun lg hlg=>?_⟩
 obtain ⟨HR,eR,sR,c5⟩:=newH hlg (.lst [])
 rw [eR];clear eR
 have aj:=sR _ _ b2
 refine ZAc ?_
 walk_at "rd"
 refine compE_of (SqL.of aj) (by rw [yAA];omega) (fun i ys σ H'=>∃ v w,σ=[v,w] /\ Same HR H' /\ ys.length=i /\ ∀ (j:Nat) k,j < i->ks[j]?=some k->∃ r,ys[j]?=some (V.ref r) /\ H' r=some (.tup [.int k,.int j])) ⟨_,_,rfl,.refl _,rfl,fun _ _ h=>by omega⟩ (fun i ys σ H' _ ⟨_,_,_,s,l,_⟩=>⟨SqL.of (s _ _ aj),yCD l⟩) ?_ ?_
 .rintro i ys x σ H' p hi hx ⟨v,w,rfl,s3,hl,ar⟩ hp
  obtain ⟨k,hk,rfl⟩:=ZDE hx
  walk_at "rd"
  refine ZDR (SqT.of ZAF) rfl ?_
  walk_at "rd"
  refine ⟨ZAU (by decide),fun t ht=>?_⟩
  refine Nxt.of hi ⟨_,_,rfl,(s3.new hp).new ht,by rw [yAE,hl];rfl,fun j k' hj bh=>?_⟩
  by_cases z:j < i
  .obtain ⟨r,a1,a2⟩:=ar j k' z bh
   exact ⟨r,by rw [yBD (by omega)];exact a1,ZAK ht _ _ _ (ZAK hp _ _ _ a2)⟩
  .have:j=i:=by omega
   subst this
   rw [hk] at bh;cases bh
   exact ⟨t,by rw [<- hl,yBC (yAB _),yBG];rfl,ZAF⟩
 rintro xs σ H3 ⟨v,w,rfl,s3,cb,ar⟩ xl c8
 rw [yAA] at cb ar
 obtain ⟨H4,e4,s4,h4⟩:=newH c8 (.lst xs)
 rw [e4];clear e4
 have S4:Same H H4:=SH.trans (sR.trans (s3.trans s4))
 have O:H4 Pt_teller=some (.tbl #[]):=S4 _ _ (hT _ yAC)
 have ay:TabSt H4 Pt_teller (ZCa ZAN) "_law_teller.<locals>._law_teller_here":=.inl O
 have b6:=s4 _ _ (s3 _ _ c5)
 have b5:Things H4 ks xs:=⟨cb,fun i k hk=>by
  have hi:=(yAR.mp hk).1
  obtain ⟨r,a1,a2⟩:=ar i k (by omega) hk
  exact ⟨r,a1,s4 _ _ a2⟩⟩
 have bc:=s4 _ _ (s3 _ _ aj)
 clear O
 obtain ⟨d5,O⟩:∃ t,H4 Pt_teller=some (.tbl t):=by
  rcases ay with h | ⟨c',h,_⟩ <;> exact ⟨_,h⟩
 refine ⟨rfl,ay,fun g H5 md=>?_⟩
 have nP:∀ b o,H4 b=some o->(∀ t,o≠.tbl t)->b≠Pt_teller:=fun b o h n z=>by rw [z,O] at h;exact n _ (Option.some.inj h).symm
 intro ru dr bg bo cp
 have b8:upd H5 dr (.own ru) ru=none:=by rw [ZAI (Ne.symm cp)];exact bg
 have s6:Same H5 (upd (upd H5 dr (.own ru)) ru (.ins C_AskedRule dr [])):=(ZAK bo _).trans (ZAK b8 _)
 refine ⟨ru,dr,g,rfl,ZAF,fun H7 k7 ir=>⟨rfl,?_⟩⟩
 have Z:∀ b o,H5 b=some o->H7 b=some o:=fun b o h=>k7 b o (ZAE h bg) (s6 _ _ h)
 intro ak da ac bw cu
 have ba:upd H7 da (.own ak) ak=none:=by rw [ZAI (Ne.symm cu)];exact ac
 have s8:Same H7 (upd (upd H7 da (.own ak)) ak (.ins C_Asker da [])):=(ZAK bw _).trans (ZAK ba _)
 have av:∃ t,H5 Pt_teller=some (.tbl t):=by
  rcases md.tab with h | ⟨c',h,_⟩
  .exact ⟨_,h⟩
  .exact ⟨_,h⟩
 have u7:∀ b o,H4 b=some o->(∀ t,o≠.tbl t)->H7 b=some o:=fun b o h n=>Z _ _ (md.same b o (nP b o h n) h)
 have be:=u7 xl _ h4 fun _ z=>by cases z
 refine ⟨ak,da,xl,ru,.non,xs,rfl,ZAF,s8 _ _ be,fun rl tl HA k9 c6 bi cx ia c2 bt=>⟨rfl,?_⟩⟩
 have u9:∀ b o,H7 b=some o->HA b=some o:=fun b o h=>k9 b o (ZAE h ac) (s8 _ _ h)
 have a9:=u7 lg _ b6 fun _ z=>by cases z
 have b4:upd (upd H7 da (.own ak)) ak (.ins C_Asker da []) ak=some (.ins C_Asker da []):=ZAF
 obtain ⟨d8,d2,er,_,_⟩:=ir.ex
 have Y:ru≠ak:=ZAE er ac
 have b3:=ZB3 (S:=[ak]) (fun b o n h=>k9 b o (fun z=>n (by rw [z];exact yAC)) (s8 _ _ h)) (fun z=>Y (yAH.mp z)) ir
 have az:=md.clo.mono (H':=HA) fun b o h=>u9 _ _ (Z _ _ h)
 have bd:∀ (i:Nat) k,ks[i]?=some k->∃ r,xs[i]?=some (V.ref r) /\ HA r=some (.tup [.int k,.int i]):=fun i k hk=>by
  obtain ⟨r,a1,a2⟩:=b5.2 i k hk
  exact ⟨r,a1,u9 _ _ (u7 _ _ a2 fun _ z=>by cases z)⟩
 have st:SitR C_Asker C_AskedRule HA ⟨ks,xs,ak,rl,ru,tl,g,lg⟩ []:=⟨ia,c2,b3,az,b5.1,bd,⟨[],u9 _ _ a9,rfl,fun j p q b h=>by simp at h⟩,⟨[],bt,rfl,fun j p q b h=>by simp at h⟩,ZAE (s8 _ _ a9) bi,ZFF (Ne.symm (ZAE b4 c6)) (Ne.symm (ZAE (s8 _ _ a9) c6)) cx,Y⟩
 have c7:∀ b o,b≠Pt_teller->H4 b=some o->HA b=some o /\ (b≠lg->b∉[ak,lg,tl]):=fun b o n h=>by
  have h7:=Z _ _ (md.same b o n h)
  exact ⟨u9 _ _ h7,fun nl=>ZFF (ZAE h7 ac) nl (ZAE (s8 _ _ h7) bi)⟩
 have cq:TabSt HA Pt_teller (ZCa ZAN) "_law_teller.<locals>._law_teller_here":=by
  rcases md.tab with h | ⟨c',h,hc⟩
  .exact .inl (u9 _ _ (Z _ _ h))
  .exact .inr ⟨c',u9 _ _ (Z _ _ h),hc.mono fun b o hb=>u9 _ _ (Z _ _ hb)⟩
 have cd:Pt_teller∉[ak,lg,tl]:=by
  obtain ⟨t,ht⟩:=av
  exact ZFF (ZAE (Z _ _ ht) ac) (fun z=>by rw [z,b6] at O;cases O) (ZAE (s8 _ _ (Z _ _ ht)) bi)
 obtain ⟨c,rfl,rfl,rfl,rfl,rfl,rfl,rfl,rfl,st⟩:∃ c:Ad,c.ks=ks /\ c.xs=xs /\ c.a=ak /\ c.rl=rl /\ c.ru=ru /\ c.tl=tl /\ c.g=g /\ c.lg=lg /\ SitR C_Asker C_AskedRule HA c []:=⟨⟨ks,xs,ak,rl,ru,tl,g,lg⟩,rfl,rfl,rfl,rfl,rfl,rfl,rfl,rfl,st⟩
 have a3:=c7 ky _ (nP ky _ bc fun _ z=>by cases z) bc
 have c3:ky∉c.S:=a3.2 (ZAE b2 hlg)
 have a3:=a3.1
 clear u7 u9 k9 k7 Z md s8 s6 nP av be a9 er b4 Y ia c2 bt bg b8 ac ba bo bw c7 b3 az bd
 have hn:c.n <= 119:=cj
 have wa:∀ pr:List A3,pr.length <= 400000->Wa c.n (ZCc grd ls wd d c.n) pr _:=fun pr hp=>byPcsP_al (G:=grd) ao ag bj (by omega) hp
 obtain ⟨os,cf,or⟩:=or66 (ks:=c.ks) (ls:=ls) ao ag bj (by show c.n <= 120;omega)
 have w:Wp c.n c.an (ZCc grd ls wd d c.n) [] _:=Wa.wp (anK c.ks) (wa [] (by simp))
 refine ZAc ?_
 walk_at "rd"
 refine ⟨c,[],wd,d,ls,L,_,rfl,b9,st,ao,by omega,ag,by omega,by omega,w,fun pr' z=>?_,fun pl HX cr pr1 fX bx ae br bm=>?_⟩
 .obtain ⟨⟨y,e,_⟩,_⟩:=z
  cases e
 obtain ⟨_,bm⟩:=bm
 obtain ⟨eo,ep⟩:=Prod.mk.inj bm
 have eo:some cr=(runP66 c.ks ls wd d).1:=eo
 have ep:pr1=(runP66 c.ks ls wd d).2:=ep
 rw [cf] at eo
 cases eo
 subst ep
 refine ZAc ?_
 walk_at "rd"
 have a7:=fX _ _ c3 a3
 have bv:os.length=c.ks.length:=by rw [or.perm.length_eq,yCA]
 refine ⟨ky,_,rfl,.inl (SqL.of a7),?_⟩
 rw [yAA,<- bv]
 refine ⟨pl,ky,os,c.ks,rfl,ae,a7,or.in,or.ord,fun H5 s5=>⟨_,rfl,?_⟩⟩
 rw [if_neg (by decide)]
 obtain ⟨ws,c0,cm⟩:=br.hlg
 refine ⟨pl,c.lg,os,c.ks,_,ws,rfl,s5 _ _ ae,s5 _ _ c0,(cm.keep (fun _ _ z=>s5 _ _ z)).told or.an,fun e he=>?_,or.adj,by rw [yAA];have:=or.len;omega,fun H6 s6=>⟨_,rfl,?_⟩⟩
 .obtain ⟨e',h1,h2⟩:=yBN.mp he
  rw [<- h2];exact or.lt e' h1
 rw [if_neg (by decide)]
 have S6:=s5.trans s6
 have ck:=br.mono S6
 have F6:Fr c.S HA H6:=fX.trans S6.fr
 have aw:TabSt H6 Pt_teller (ZCa ZAN) "_law_teller.<locals>._law_teller_here":=by
  rcases cq with h | ⟨c',h,hc⟩
  .exact .inl (F6 _ _ cd h)
  .exact .inr ⟨c',F6 _ _ cd h,hc.mono fun b o hb=>F6 _ _ (Ad.SA (st.tupS hb (fun _ z=>by cases z) (fun _ _ _ z=>by cases z))) hb⟩
 obtain ⟨d3,b0⟩:∃ t,H6 Pt_teller=some (.tbl t):=by
  rcases aw with h | ⟨c',h,_⟩ <;> exact ⟨_,h⟩
 have c1:∀ b o,H6 b=some o->(∀ t,o≠.tbl t)->b≠Pt_teller:=fun b o h n z=>by rw [z,b0] at h;exact n _ (Option.some.inj h).symm
 have bp:=ck.tupS b0 (fun _ z=>by cases z) (fun _ _ _ z=>by cases z)
 refine ZAc ?_
 walk_at "rd"
 refine ⟨ky,c.ks,wd,d,ls,rfl,aw,S6 _ _ a7,cj,ao,by omega,ag,bj,fun l2 H7 d9 f7 dc as bu=>?_⟩
 have aq:SitR C_Asker C_AskedRule H7 c (runP66 c.ks ls wd d).2:=ck.but (fun b o m h=>f7 b o (fun z=>bp (by rw [<- z];exact m)) h) fun b o h _ _ _ n4=>f7 b o (c1 b o h n4) h
 have cc:∀ b l,H6 b=some (.lst l)->H7 b=some (.lst l):=fun b l h=>f7 b _ (c1 b _ h fun _ z=>by cases z) h
 obtain ⟨d4,b1,bb⟩:=aq.hlg
 refine neD_refl (d:=.list ((runP66 c.ks ls wd d).2.map a3D)) (ZEc (SqL.of b1) bb.dp) (ZEc (SqL.of as) bu.dp) (a3_lay _) (a3_dep2 _) ?_
 walk_at "rd"
 refine aq.ha.get T.cl_Asker T.n_Asker_asked (by walk_at "lk") ?_
 refine ⟨c.lg,_,rfl,.inl (SqL.of b1),?_⟩
 rw [bb.len]
 walk_at "rd"
 rw [if_neg (fun z=>z trivial)]
 have a0:=cc _ _ (S6 _ _ ae)
 have ce:=cc _ _ (S6 _ _ a7)
 have cw:pl∉c.A:=st.off bx
 have cv:ky≠pl:=ZAE a3 bx
 refine ZAc ?_
 walk_at "rd"
 refine ⟨pl,_,rfl,.inl (SqL.of a0),fun kp ai=>?_⟩
 obtain ⟨H8,e8,s8,h8⟩:=newH ai (.lst (nL os))
 rw [e8];clear e8
 have co:pl≠kp:=ZAE a0 ai
 refine ZAc ?_
 walk_at "rd"
 refine ⟨.inl ⟨rfl,_,SqL.of (s8 _ _ a0)⟩,pl,_,rfl,rfl,s8 _ _ a0,?_⟩
 have bq:=(aq.mono s8).upd (o:=.lst []) (s8 _ _ a0) cw
 have bf:upd H8 pl (.lst []) ky=some (.lst (c.ks.map V.int)):=by rw [ZAI cv];exact s8 _ _ ce
 have ax:upd H8 pl (.lst []) kp=some (.lst (nL os)):=by rw [ZAI (Ne.symm co)];exact h8
 generalize upd H8 pl (.lst [])=H9 at bq bf ax ⊢
 have w2:Wp c.n c.an (ZCc grd ls wd d c.n) (runP66 c.ks ls wd d).2 _:=Wa.wp (anK c.ks) (wa _ (by have:=or.len;omega))
 refine ZAc ?_
 walk_at "rd"
 refine ⟨c,_,wd,d,ls,L,_,rfl,b9,bq,ao,by omega,ag,by omega,by omega,w2,fun pr' z=>?_,fun al HY ch pr2 fY d7 au db bn=>?_⟩
 .obtain ⟨⟨y,e,_⟩,_⟩:=z
  cases e
 obtain ⟨_,bn⟩:=bn
 have a5:=congrArg Prod.fst bn
 have a5:some ch=((ZCc grd ls wd d c.ks.length).run (anK c.ks) (runP66 c.ks ls wd d).2.length).1:=a5
 rw [run_same (fun k k' p q=>rfl) _ (runP66 c.ks ls wd d).2.length 0] at a5
 have a5:some ch=(runP66 c.ks ls wd d).1:=a5
 rw [cf] at a5
 cases a5
 have b7:=fY _ _ c3 bf
 have ct:kp∉c.S:=Ad.SA (aq.off ai)
 have c9:=fY _ _ ct ax
 walk_at "rd"
 refine ⟨ky,_,rfl,.inl (SqL.of b7),?_⟩
 rw [yAA,<- bv]
 refine ⟨al,ky,os,c.ks,rfl,au,b7,or.in,or.ord,fun HZ sZ=>⟨_,rfl,?_⟩⟩
 rw [if_pos rfl]
 exact eqD_refl (d:=.list (os.map fun (x:Nat)=>PyData.int (x:Int))) (ZEc (SqL.of (sZ _ _ au)) (ZGF os)) (ZEc (SqL.of (sZ _ _ c9)) (ZGF os)) (no_lay os) (by show PyData.depthAll _+1 <= 64;rw [no_dep];decide) (q _)
end
theorem all_mk {l:PySem.W.OpenLaw} {w:World} {K:W.Frag} {h:Heap} {mg:Str->Option Value} {fa C_zbg cp bj cg cj bm b8 ch C_zbe co k4 be c0 c8 b9 cf c7 bv C_zbf cn bq ca c2 cc ba br bc C_zbd ci gp bh bt C_zbc cm c4 d3 gv dc cz dh jt d4 cv de dq hr dg dk d8 da h4 d2 gy dd db dm dt du cx di d5 d0 d9 df dj dv aa a8:Addr} {b4 b3 b5 b7 ae s6 j5 af:Tok} (X:K.In h) (G:h.Ns mainGlobals mg) (Hz:mg "law"=some (.ref fa))
  {oo vp:Option Addr} {ya:Array (Option Value)} {p5 vk r9 nb f8 rh:Value}
  {A6 zk:Option Addr} {qo:Array (Option Value)} {vf r2 s5 wj fw yt:Value}
  {sk kp:Option Addr} {ww:Array (Option Value)} {u2 z8 vy zx e8 t3:Value}
  {ud q5:Option Addr} {zp:Array (Option Value)} {zj s7 rb yn dy zi:Value}
  {me A4:Option Addr} {u7:Array (Option Value)} {kq qs z6 lh ff um:Value}
  {xh qg:Option Addr} {tp:Array (Option Value)} {n1 qv o1 rx eh q6:Value}
  {x7 z7:Option Addr} {qq:Array (Option Value)} {mt wy zg tq ei w3:Value}
  {ga:Value} {i1:Option Addr} {nl:Nat} {g9:Array (Option Value)}
  {yu zh:Option Addr} {t7:Array (Option Value)} {pz pn p1 xo fj qm:Value}
  {yv n3:Option Addr} {w0:Array (Option Value)} {se o2 m7 nn ej v2:Value}
  {ro ug:Option Addr} {p8:Array (Option Value)} {tn mc mq si eo ld:Value}
  {og oy:Option Addr} {ku:Array (Option Value)} {m4 nz so lm e5 o4:Value}
  {q2 qw:Option Addr} {xr:Array (Option Value)} {nq rl n2 n8 ek qj:Value}
  {v4 pi:Option Addr} {yb:Array (Option Value)} {oh zb sy m1 eu nv:Value}
  {pa mu:Option Addr} {ut:Array (Option Value)} {p3 qx wl zl el v5:Value}
  {xg wk:Option Addr} {rr:Array (Option Value)} {t9 yk xw n5 em oq:Value}
  {x4 vq:Option Addr} {tr:Array (Option Value)} {lp yw rf uu e0 qd:Value}
  {y3 uk:Option Addr} {yh:Array (Option Value)} {tf mo v8 pq fh x8:Value}
  {t8 l5:Option Addr} {vx:Array (Option Value)} {kw o3 qc op eb ye:Value}
  {ve qn:Option Addr} {l9:Array (Option Value)} {pe p0 xe xm f5 nj:Value}
  {o8 zd:Option Addr} {re:Array (Option Value)} {uh qr t1 q0 fk ry:Value}
  {t2 mx:Option Addr} {yl:Array (Option Value)} {yy sn wg p4 ec m5:Value}
  {q4 r8:Option Addr} {y5:Array (Option Value)} {my y0 y6 l0 fe lj:Value}
  {q8 r6:Option Addr} {r5:Array (Option Value)} {zn qz ru wo ee y7:Value}
  {ic:Value} {kd:Option Addr} {zm:Nat} {ge:Array (Option Value)}
  {l2 vh:Option Addr} {kv:Array (Option Value)} {xi tu vr wz e4 z5:Value}
  {z2 o5:Option Addr} {mb:Array (Option Value)} {vj ua zt oj fc y2:Value}
  {uf sm:Option Addr} {uq:Array (Option Value)} {sh xy zc xt fb oz:Value}
  {nk pj:Option Addr} {oi:Array (Option Value)} {nf w6 mn x5 fm l7:Value}
  {lb tm:Option Addr} {nw:Array (Option Value)} {qu no qe ol ed z3:Value}
  {ke:Value} {ik:Option Addr} {rv:Nat} {hd:Array (Option Value)}
  {l6 w9:Option Addr} {kn:Array (Option Value)} {sb wh lu qb f7 pf:Value}
  {vu v1:Option Addr} {m8:Array (Option Value)} {x0 va pp A0 f4 pw:Value}
  {p6 y1:Option Addr} {vc:Array (Option Value)} {su wq ng nr f2 rq:Value}
  {g7:Value} {h8:Option Addr} {rg:Nat} {g8:Array (Option Value)}
  {ko vv:Option Addr} {vt:Array (Option Value)} {l1 kx wf mh dz qy:Value}
  {yi lr:Option Addr} {s9:Array (Option Value)} {yc rm x6 li e9 ox:Value}
  {n7 mr:Option Addr} {t0:Array (Option Value)} {u6 xc ou qi e6 yr:Value}
  {m2 ky:Option Addr} {r3:Array (Option Value)} {z0 ll vn la fi wt:Value}
  {hj:Value} {gx:Option Addr} {r0:Nat} {ia:Array (Option Value)}
  {ws ri:Option Addr} {qh:Array (Option Value)} {zq vl o6 oc f6 wn:Value}
  {qf vd:Option Addr} {ml:Array (Option Value)} {y8 n4 z9 ue ea ns:Value}
  {nh A1:Option Addr} {z4:Array (Option Value)} {qp xn rz ul f9 ot:Value}
  {w5 xq:Option Addr} {lf:Array (Option Value)} {x1 lv qa xk dw ph:Value}
  {hs:Value} {k7:Option Addr} {u5:Nat} {kf:Array (Option Value)}
  {u8 zu:Option Addr} {s8:Array (Option Value)} {vo x9 rs m0 ef sq:Value}
  {gh:Value} {hp:Option Addr} {o9:Nat} {ie:Array (Option Value)}
  {p9 sf:Option Addr} {ze:Array (Option Value)} {kl vi zz zw ez lw:Value}
  {yz pg:Option Addr} {vz:Array (Option Value)} {np ni wm l4 ft yj:Value}
  {uv s0:Option Addr} {lq:Array (Option Value)} {zr q1 ss uy ey rp:Value}
  {oe tj:Option Addr} {u0:Array (Option Value)} {xp yq lz py e1 uj:Value}
  {x3 mw:Option Addr} {n6:Array (Option Value)} {sj ra pb mj et s3:Value}
  {z1 ux:Option Addr} {pu:Array (Option Value)} {r7 ov wb wc f3 tz:Value}
  {n0 sg:Option Addr} {kz:Array (Option Value)} {zv xf xz q9 ew sx:Value}
  {za u4:Option Addr} {pl:Array (Option Value)} {kt w8 u9 s4 eq mf:Value}
  {uc A5:Option Addr} {xj:Array (Option Value)} {lx mm r1 pd e2 w2:Value}
  {om A2:Option Addr} {ob:Array (Option Value)} {nd u1 y9 l8 fg km:Value}
  {wu xu:Option Addr} {ub:Array (Option Value)} {sw zy we mz fn tw:Value}
  {uz t5:Option Addr} {yd:Array (Option Value)} {nc v9 wa xa ev yf:Value}
  {t6 eg:Option Addr} {rn:Array (Option Value)} {yx ep fq er c6 en:Value}
  {ho:Value} {kj:Option Addr} {fv:Array Value} {ii:Array (Option Value)}
  {w1 xx:Option Addr} {m3:Array (Option Value)} {v6 p7 r4 na v7:Value}
  (jw:W.nsIn K mainGlobals "Join"=some (some (.ref C_zbg)))
  (rt:PySem.W.plainGet K C_zbg Str.empty=true)
  (yp:PySem.W.hasDictIn K C_zbg=true)
  (wd:PySem.W.plainOver K C_zbg=true)
  (po:W.findIn K (.ref C_zbg) "__setattr__"=some (some (.builtin "object.__setattr__")))
  (wx:PySem.W.makesIn K C_zbg=true)
  (tx:W.keepIn K (.ref C_zbg)=true)
  (bp:W.findIn K (.ref C_zbg) "asker"=some none)
  (ce:W.findIn K (.ref C_zbg) "sides"=some none)
  (bo:W.findIn K (.ref C_zbg) "taken"=some none)
  (av:W.findIn K (.ref C_zbg) "places"=some none)
  (Ae:W.findIn K (.ref C_zbg) "__init__"=some (some (.ref cp)))
  (Ax:PySem.W.isFn K (.ref cp)=true)
  (Ee:K.lookup cp=some ⟨p5,oo,.func (W.fnOf "__init__" "Join.__init__" (ZAM ZBg) (ZAL ZBg) (ZAC ZBg) .none vk r9 nb vp f8 rh),ya⟩)
  (Dr:W.codeIn K f8 "Join.__init__"=true)
  (He:W.keepIn K (.ref cp)=true)
  (Ev:W.findIn K (.ref C_zbg) "has_more"=some (some (.ref bj)))
  (Av:PySem.W.isFn K (.ref bj)=true)
  (F2:K.lookup bj=some ⟨vf,A6,.func (W.fnOf "has_more" "Join.has_more" (ZAM ZAz) (ZAL ZAz) (ZAC ZAz) .none r2 s5 wj zk fw yt),qo⟩)
  (G4:W.codeIn K fw "Join.has_more"=true)
  (hu:W.keepIn K (.ref bj)=true)
  (D3:W.findIn K (.ref C_zbg) "front"=some (some (.ref cg)))
  (A7:PySem.W.isFn K (.ref cg)=true)
  (Cs:K.lookup cg=some ⟨u2,sk,.func (W.fnOf "front" "Join.front" (ZAM ZBM) (ZAL ZBM) (ZAC ZBM) .none z8 vy zx kp e8 t3),ww⟩)
  (Ak:W.codeIn K e8 "Join.front"=true)
  (jg:W.keepIn K (.ref cg)=true)
  (D2:W.findIn K (.ref C_zbg) "take_on"=some (some (.ref cj)))
  (Dt:PySem.W.isFn K (.ref cj)=true)
  (Fp:K.lookup cj=some ⟨zj,ud,.func (W.fnOf "take_on" "Join.take_on" (ZAM ZA6) (ZAL ZA6) (ZAC ZA6) .none s7 rb yn q5 dy zi),zp⟩)
  (Cq:W.codeIn K dy "Join.take_on"=true)
  (hh:W.keepIn K (.ref cj)=true)
  (Ac:W.findIn K (.ref C_zbg) "take_rest"=some (some (.ref bm)))
  (C2:PySem.W.isFn K (.ref bm)=true)
  (Dd:K.lookup bm=some ⟨kq,me,.func (W.fnOf "take_rest" "Join.take_rest" (ZAM ZAu) (ZAL ZAu) (ZAC ZAu) .none qs z6 lh A4 ff um),u7⟩)
  (Ef:W.codeIn K ff "Join.take_rest"=true)
  (il:W.keepIn K (.ref bm)=true)
  (G8:W.findIn K (.ref C_zbg) "win"=some (some (.ref b8)))
  (Ar:PySem.W.isFn K (.ref b8)=true)
  (Do:K.lookup b8=some ⟨n1,xh,.func (W.fnOf "win" "Join.win" (ZAM ZBs) (ZAL ZBs) (ZAC ZBs) .none qv o1 rx qg eh q6),tp⟩)
  (Bb:W.codeIn K eh "Join.win"=true)
  (iw:W.keepIn K (.ref b8)=true)
  (Cg:W.findIn K (.ref C_zbg) "leap_on"=some (some (.ref ch)))
  (Bg:PySem.W.isFn K (.ref ch)=true)
  (D9:K.lookup ch=some ⟨mt,x7,.func (W.fnOf "leap_on" "Join.leap_on" (ZAM ZA7) (ZAL ZA7) (ZAC ZA7) .none wy zg tq z7 ei w3),qq⟩)
  (Ds:W.codeIn K ei "Join.leap_on"=true)
  (ju:W.keepIn K (.ref ch)=true)
  (k6:W.nsIn K mainGlobals "Pile"=some (some (.ref C_zbe)))
  (ow:PySem.W.plainGet K C_zbe Str.empty=true)
  (ur:PySem.W.hasDictIn K C_zbe=true)
  (u3:PySem.W.plainOver K C_zbe=true)
  (xb:W.findIn K (.ref C_zbe) "__setattr__"=some (some (.builtin "object.__setattr__")))
  (t4:PySem.W.makesIn K C_zbe=true)
  (vb:W.keepIn K (.ref C_zbe)=true)
  (bn:W.findIn K (.ref C_zbe) "asker"=some none)
  (bf:W.findIn K (.ref C_zbe) "least"=some none)
  (cd:W.findIn K (.ref C_zbe) "start"=some none)
  (d7:W.findIn K (.ref C_zbe) "end"=some none)
  (ao:W.findIn K (.ref C_zbe) "reached"=some none)
  (ay:W.findIn K (.ref C_zbe) "firsts"=some none)
  (as:W.findIn K (.ref C_zbe) "orders"=some none)
  (b1:W.findIn K (.ref C_zbe) "grades"=some none)
  (F9:W.findIn K (.ref C_zbe) "__init__"=some (some (.ref co)))
  (Bz:PySem.W.isFn K (.ref co)=true)
  (Fc:K.lookup co=some ⟨pz,yu,.func (W.fnOf "__init__" "Pile.__init__" (ZAM ZBf) (ZAL ZBf) (ZAC ZBf) (.ref k4) pn p1 xo zh fj qm),t7⟩)
  (Cf:W.codeIn K fj "Pile.__init__"=true)
  (Fa:K.lookup k4=some ⟨ga,i1,.seq ([.int 1 b4,.none]:List Value).toArray nl,g9⟩)
  (Gw:W.keepIn K (.ref co)=true)
  (H5:W.findIn K (.ref C_zbe) "beyond_of"=some (some (.ref be)))
  (Bf:PySem.W.isFn K (.ref be)=true)
  (Az:K.lookup be=some ⟨se,yv,.func (W.fnOf "beyond_of" "Pile.beyond_of" (ZAM ZAt) (ZAL ZAt) (ZAC ZAt) .none o2 m7 nn n3 ej v2),w0⟩)
  (Hl:W.codeIn K ej "Pile.beyond_of"=true)
  (jl:W.keepIn K (.ref be)=true)
  (Dz:W.findIn K (.ref C_zbe) "is_due_beneath"=some (some (.ref c0)))
  (H3:PySem.W.isFn K (.ref c0)=true)
  (Bu:K.lookup c0=some ⟨tn,ro,.func (W.fnOf "is_due_beneath" "Pile.is_due_beneath" (ZAM ZAf) (ZAL ZAf) (ZAC ZAf) .none mc mq si ug eo ld),p8⟩)
  (F6:W.codeIn K eo "Pile.is_due_beneath"=true)
  (h7:W.keepIn K (.ref c0)=true)
  (Cz:W.findIn K (.ref C_zbe) "grade_on_top"=some (some (.ref c8)))
  (Dy:PySem.W.isFn K (.ref c8)=true)
  (Dn:K.lookup c8=some ⟨m4,og,.func (W.fnOf "grade_on_top" "Pile.grade_on_top" (ZAM ZAj) (ZAL ZAj) (ZAC ZAj) .none nz so lm oy e5 o4),ku⟩)
  (Cp:W.codeIn K e5 "Pile.grade_on_top"=true)
  (jd:W.keepIn K (.ref c8)=true)
  (Cv:W.findIn K (.ref C_zbe) "join_two"=some (some (.ref b9)))
  (Bc:PySem.W.isFn K (.ref b9)=true)
  (G6:K.lookup b9=some ⟨nq,q2,.func (W.fnOf "join_two" "Pile.join_two" (ZAM ZAy) (ZAL ZAy) (ZAC ZAy) .none rl n2 n8 qw ek qj),xr⟩)
  (Eb:W.codeIn K ek "Pile.join_two"=true)
  (i8:W.keepIn K (.ref b9)=true)
  (Es:W.findIn K (.ref C_zbe) "lay"=some (some (.ref cf)))
  (B4:PySem.W.isFn K (.ref cf)=true)
  (Go:K.lookup cf=some ⟨oh,v4,.func (W.fnOf "lay" "Pile.lay" (ZAM ZBr) (ZAL ZBr) (ZAC ZBr) .none zb sy m1 pi eu nv),yb⟩)
  (Cb:W.codeIn K eu "Pile.lay"=true)
  (iv:W.keepIn K (.ref cf)=true)
  (Fw:W.findIn K (.ref C_zbe) "step"=some (some (.ref c7)))
  (G9:PySem.W.isFn K (.ref c7)=true)
  (Gx:K.lookup c7=some ⟨p3,pa,.func (W.fnOf "step" "Pile.step" (ZAM ZBe) (ZAL ZBe) (ZAC ZBe) .none qx wl zl mu el v5),ut⟩)
  (Fe:W.codeIn K el "Pile.step"=true)
  (ht:W.keepIn K (.ref c7)=true)
  (G7:W.findIn K (.ref C_zbe) "paper"=some (some (.ref bv)))
  (Cy:PySem.W.isFn K (.ref bv)=true)
  (Ah:K.lookup bv=some ⟨t9,xg,.func (W.fnOf "paper" "Pile.paper" (ZAM ZBL) (ZAL ZBL) (ZAC ZBL) .none yk xw n5 wk em oq),rr⟩)
  (Ck:W.codeIn K em "Pile.paper"=true)
  (g6:W.keepIn K (.ref bv)=true)
  (k8:W.nsIn K mainGlobals "Pour"=some (some (.ref C_zbf)))
  (yo:PySem.W.plainGet K C_zbf Str.empty=true)
  (mk:PySem.W.hasDictIn K C_zbf=true)
  (m9:PySem.W.plainOver K C_zbf=true)
  (kr:W.findIn K (.ref C_zbf) "__setattr__"=some (some (.builtin "object.__setattr__")))
  (ui:PySem.W.makesIn K C_zbf=true)
  (nx:W.keepIn K (.ref C_zbf)=true)
  (bg:W.findIn K (.ref C_zbf) "asker"=some none)
  (ax:W.findIn K (.ref C_zbf) "pieces"=some none)
  (bu:W.findIn K (.ref C_zbf) "taken"=some none)
  (ah:W.findIn K (.ref C_zbf) "meetings"=some none)
  (ap:W.findIn K (.ref C_zbf) "went_on"=some none)
  (C9:W.findIn K (.ref C_zbf) "front_of"=some (some (.ref cn)))
  (Ed:PySem.W.isFn K (.ref cn)=true)
  (Fb:K.lookup cn=some ⟨lp,x4,.func (W.fnOf "front_of" "Pour.front_of" (ZAM ZAx) (ZAL ZAx) (ZAC ZAx) .none yw rf uu vq e0 qd),tr⟩)
  (Gp:W.codeIn K e0 "Pour.front_of"=true)
  (i7:W.keepIn K (.ref cn)=true)
  (B9:W.findIn K (.ref C_zbf) "goes_on"=some (some (.ref bq)))
  (Ga:PySem.W.isFn K (.ref bq)=true)
  (Dl:K.lookup bq=some ⟨tf,y3,.func (W.fnOf "goes_on" "Pour.goes_on" (ZAM ZA5) (ZAL ZA5) (ZAC ZA5) .none mo v8 pq uk fh x8),yh⟩)
  (Am:W.codeIn K fh "Pour.goes_on"=true)
  (jj:W.keepIn K (.ref bq)=true)
  (Da:W.findIn K (.ref C_zbf) "met"=some (some (.ref ca)))
  (Bn:PySem.W.isFn K (.ref ca)=true)
  (H6:K.lookup ca=some ⟨kw,t8,.func (W.fnOf "met" "Pour.met" (ZAM ZBq) (ZAL ZBq) (ZAC ZBq) .none o3 qc op l5 eb ye),vx⟩)
  (C7:W.codeIn K eb "Pour.met"=true)
  (ji:W.keepIn K (.ref ca)=true)
  (Hn:W.findIn K (.ref C_zbf) "held"=some (some (.ref c2)))
  (Ex:PySem.W.isFn K (.ref c2)=true)
  (Bv:K.lookup c2=some ⟨pe,ve,.func (W.fnOf "held" "Pour.held" (ZAM ZBd) (ZAL ZBd) (ZAC ZBd) .none p0 xe xm qn f5 nj),l9⟩)
  (Dv:W.codeIn K f5 "Pour.held"=true)
  (j3:W.keepIn K (.ref c2)=true)
  (Em:W.findIn K (.ref C_zbf) "top"=some (some (.ref cc)))
  (A9:PySem.W.isFn K (.ref cc)=true)
  (Ct:K.lookup cc=some ⟨uh,o8,.func (W.fnOf "top" "Pour.top" (ZAM ZBp) (ZAL ZBp) (ZAC ZBp) .none qr t1 q0 zd fk ry),re⟩)
  (Hg:W.codeIn K fk "Pour.top"=true)
  (g1:W.keepIn K (.ref cc)=true)
  (Fi:W.findIn K (.ref C_zbf) "left"=some (some (.ref ba)))
  (Gh:PySem.W.isFn K (.ref ba)=true)
  (H8:K.lookup ba=some ⟨yy,t2,.func (W.fnOf "left" "Pour.left" (ZAM ZBb) (ZAL ZBb) (ZAC ZBb) .none sn wg p4 mx ec m5),yl⟩)
  (G0:W.codeIn K ec "Pour.left"=true)
  (gk:W.keepIn K (.ref ba)=true)
  (E9:W.findIn K (.ref C_zbf) "__init__"=some (some (.ref br)))
  (Gv:PySem.W.isFn K (.ref br)=true)
  (En:K.lookup br=some ⟨my,q4,.func (W.fnOf "__init__" "Pour.__init__" (ZAM ZBc) (ZAL ZBc) (ZAC ZBc) .none y0 y6 l0 r8 fe lj),y5⟩)
  (Bq:W.codeIn K fe "Pour.__init__"=true)
  (G2:W.keepIn K (.ref br)=true)
  (H9:W.findIn K (.ref C_zbf) "take"=some (some (.ref bc)))
  (B7:PySem.W.isFn K (.ref bc)=true)
  (Ba:K.lookup bc=some ⟨zn,q8,.func (W.fnOf "take" "Pour.take" (ZAM ZBa) (ZAL ZBa) (ZAC ZBa) .none qz ru wo r6 ee y7),r5⟩)
  (Ea:W.codeIn K ee "Pour.take"=true)
  (gq:W.keepIn K (.ref bc)=true)
  (h9:W.nsIn K mainGlobals "Asker"=some (some (.ref C_zbd)))
  (nu:PySem.W.plainGet K C_zbd Str.empty=true)
  (uw:PySem.W.hasDictIn K C_zbd=true)
  (sc:PySem.W.plainOver K C_zbd=true)
  (rj:W.findIn K (.ref C_zbd) "__setattr__"=some (some (.builtin "object.__setattr__")))
  (x2:PySem.W.makesIn K C_zbd=true)
  (pm:W.keepIn K (.ref C_zbd)=true)
  (dr:W.findIn K (.ref C_zbd) "row"=some none)
  (cq:W.findIn K (.ref C_zbd) "rule"=some none)
  (cu:W.findIn K (.ref C_zbd) "most"=some none)
  (c5:W.findIn K (.ref C_zbd) "asked"=some none)
  (cr:W.findIn K (.ref C_zbd) "told"=some none)
  (Eq:W.findIn K (.ref C_zbd) "__init__"=some (some (.ref ci)))
  (Er:PySem.W.isFn K (.ref ci)=true)
  (Au:K.lookup ci=some ⟨xi,l2,.func (W.fnOf "__init__" "Asker.__init__" (ZAM ZBO) (ZAL ZBO) (ZAC ZBO) (.ref gp) tu vr wz vh e4 z5),kv⟩)
  (Fq:W.codeIn K e4 "Asker.__init__"=true)
  (H4:K.lookup gp=some ⟨ic,kd,.seq ([.none]:List Value).toArray zm,ge⟩)
  (E1:W.keepIn K (.ref ci)=true)
  (Bh:W.findIn K (.ref C_zbd) "many"=some (some (.ref bh)))
  (Ei:PySem.W.isFn K (.ref bh)=true)
  (D0:K.lookup bh=some ⟨vj,z2,.func (W.fnOf "many" "Asker.many" (ZAM ZBN) (ZAL ZBN) (ZAC ZBN) .none ua zt oj o5 fc y2),mb⟩)
  (Fg:W.codeIn K fc "Asker.many"=true)
  (hf:W.keepIn K (.ref bh)=true)
  (Dx:W.findIn K (.ref C_zbd) "ahead"=some (some (.ref bt)))
  (Fz:PySem.W.isFn K (.ref bt)=true)
  (Hk:K.lookup bt=some ⟨sh,uf,.func (W.fnOf "ahead" "Asker.ahead" (ZAM ZBB) (ZAL ZBB) (ZAC ZBB) .none xy zc xt sm fb oz),uq⟩)
  (B5:W.codeIn K fb "Asker.ahead"=true)
  (g5:W.keepIn K (.ref bt)=true)
  (gd:W.nsIn K mainGlobals "AskedRule"=some (some (.ref C_zbc)))
  (w4:PySem.W.plainGet K C_zbc Str.empty=true)
  (o0:PySem.W.hasDictIn K C_zbc=true)
  (vg:PySem.W.plainOver K C_zbc=true)
  (wv:W.findIn K (.ref C_zbc) "__setattr__"=some (some (.builtin "object.__setattr__")))
  (w7:PySem.W.makesIn K C_zbc=true)
  (q3:W.keepIn K (.ref C_zbc)=true)
  (b0:W.findIn K (.ref C_zbc) "teller"=some none)
  (Cw:W.findIn K (.ref C_zbc) "__init__"=some (some (.ref cm)))
  (H0:PySem.W.isFn K (.ref cm)=true)
  (Co:K.lookup cm=some ⟨nf,nk,.func (W.fnOf "__init__" "AskedRule.__init__" (ZAM ZAv) (ZAL ZAv) (ZAC ZAv) .none w6 mn x5 pj fm l7),oi⟩)
  (A8:W.codeIn K fm "AskedRule.__init__"=true)
  (B1:W.keepIn K (.ref cm)=true)
  (Ha:W.findIn K (.ref C_zbc) "before"=some (some (.ref c4)))
  (As:PySem.W.isFn K (.ref c4)=true)
  (Dg:K.lookup c4=some ⟨qu,lb,.func (W.fnOf "before" "AskedRule.before" (ZAM ZAn) (ZAL ZAn) (ZAC ZAn) .none no qe ol tm ed z3),nw⟩)
  (Gb:W.codeIn K ed "AskedRule.before"=true)
  (gg:W.keepIn K (.ref c4)=true)
  (Et:W.nsIn K mainGlobals "stretch_from"=some (some (.ref d3)))
  (Hq:K.lookup d3=some ⟨sb,l6,.func (W.fnOf "stretch_from" "stretch_from" (ZAM ZA4) (ZAL ZA4) (ZAC ZA4) (.ref gv) wh lu qb w9 f7 pf),kn⟩)
  (C5:W.codeIn K f7 "stretch_from"=true)
  (Dk:K.lookup gv=some ⟨ke,ik,.seq ([.none]:List Value).toArray rv,hd⟩)
  (hk:W.keepIn K (.ref d3)=true)
  (E6:W.nsIn K mainGlobals "in_turn"=some (some (.ref dc)))
  (Bo:K.lookup dc=some ⟨x0,vu,.func (W.fnOf "in_turn" "in_turn" (ZAM ZB9) (ZAL ZB9) (ZAC ZB9) .none va pp A0 v1 f4 pw),m8⟩)
  (Gq:W.codeIn K f4 "in_turn"=true)
  (io:W.keepIn K (.ref dc)=true)
  (Hh:W.nsIn K mainGlobals "spot_of"=some (some (.ref cz)))
  (C8:K.lookup cz=some ⟨su,p6,.func (W.fnOf "spot_of" "spot_of" (ZAM ZB8) (ZAL ZB8) (ZAC ZB8) .none wq ng nr y1 f2 rq),vc⟩)
  (Bl:W.codeIn K f2 "spot_of"=true)
  (j8:W.keepIn K (.ref cz)=true)
  (F7:W.nsIn K mainGlobals "filled"=some (some (.ref dh)))
  (Hb:K.lookup dh=some ⟨l1,ko,.func (W.fnOf "filled" "filled" (ZAM ZCj) (ZAL ZCj) (ZAC ZCj) (.ref jt) kx wf mh vv dz qy),vt⟩)
  (Gt:W.codeIn K dz "filled"=true)
  (Br:K.lookup jt=some ⟨g7,h8,.seq ([.none]:List Value).toArray rg,g8⟩)
  (jk:W.keepIn K (.ref dh)=true)
  (Cr:W.nsIn K mainGlobals "leap"=some (some (.ref d4)))
  (Bs:K.lookup d4=some ⟨yc,yi,.func (W.fnOf "leap" "leap" (ZAM ZDz) (ZAL ZDz) (ZAC ZDz) .none rm x6 li lr e9 ox),s9⟩)
  (Bp:W.codeIn K e9 "leap"=true)
  (jb:W.keepIn K (.ref d4)=true)
  (Bk:W.nsIn K mainGlobals "joined"=some (some (.ref cv)))
  (C4:K.lookup cv=some ⟨u6,n7,.func (W.fnOf "joined" "joined" (ZAM ZCi) (ZAL ZCi) (ZAC ZCi) .none xc ou qi mr e6 yr),t0⟩)
  (Fh:W.codeIn K e6 "joined"=true)
  (g3:W.keepIn K (.ref cv)=true)
  (B0:W.nsIn K mainGlobals "grade"=some (some (.ref de)))
  (D5:K.lookup de=some ⟨z0,m2,.func (W.fnOf "grade" "grade" (ZAM ZDM) (ZAL ZDM) (ZAC ZDM) .none ll vn la ky fi wt),r3⟩)
  (B3:W.codeIn K fi "grade"=true)
  (k3:W.keepIn K (.ref de)=true)
  (Aj:W.nsIn K mainGlobals "by_pile"=some (some (.ref dq)))
  (Ai:K.lookup dq=some ⟨zq,ws,.func (W.fnOf "by_pile" "by_pile" (ZAM ZCB) (ZAL ZCB) (ZAC ZCB) (.ref hr) vl o6 oc ri f6 wn),qh⟩)
  (Du:W.codeIn K f6 "by_pile"=true)
  (Eh:K.lookup hr=some ⟨hj,gx,.seq ([.int 1 b3,.none]:List Value).toArray r0,ia⟩)
  (jp:W.keepIn K (.ref dq)=true)
  (Cu:W.nsIn K mainGlobals "meetings_of"=some (some (.ref dg)))
  (Cm:K.lookup dg=some ⟨y8,qf,.func (W.fnOf "meetings_of" "meetings_of" (ZAM ZBA) (ZAL ZBA) (ZAC ZBA) .none n4 z9 ue vd ea ns),ml⟩)
  (Ec:W.codeIn K ea "meetings_of"=true)
  (iu:W.keepIn K (.ref dg)=true)
  (B2:W.nsIn K mainGlobals "poured"=some (some (.ref dk)))
  (Gu:K.lookup dk=some ⟨qp,nh,.func (W.fnOf "poured" "poured" (ZAM ZCg) (ZAL ZCg) (ZAC ZCg) .none xn rz ul A1 f9 ot),z4⟩)
  (Ew:W.codeIn K f9 "poured"=true)
  (jm:W.keepIn K (.ref dk)=true)
  (Fu:W.nsIn K mainGlobals "one_round"=some (some (.ref d8)))
  (De:K.lookup d8=some ⟨x1,w5,.func (W.fnOf "one_round" "one_round" (ZAM ZBX) (ZAL ZBX) (ZAC ZBX) .none lv qa xk xq dw ph),lf⟩)
  (Hf:W.codeIn K dw "one_round"=true)
  (jx:W.keepIn K (.ref d8)=true)
  (Be:W.nsIn K mainGlobals "in_rounds"=some (some (.ref da)))
  (Gi:K.lookup da=some ⟨vo,u8,.func (W.fnOf "in_rounds" "in_rounds" (ZAM ZBY) (ZAL ZBY) (ZAC ZBY) (.ref h4) x9 rs m0 zu ef sq),s8⟩)
  (Dh:W.codeIn K ef "in_rounds"=true)
  (D7:K.lookup h4=some ⟨hs,k7,.seq ([.int 2 b5]:List Value).toArray u5,kf⟩)
  (i2:W.keepIn K (.ref da)=true)
  (d6:W.nsIn K mainGlobals "by_pieces"=some (some (.ref d2)))
  (F8:K.lookup d2=some ⟨kl,p9,.func (W.fnOf "by_pieces" "by_pieces" (ZAM ZBZ) (ZAL ZBZ) (ZAC ZBZ) (.ref gy) vi zz zw sf ez lw),ze⟩)
  (Bm:W.codeIn K ez "by_pieces"=true)
  (Bw:K.lookup gy=some ⟨gh,hp,.seq ([.int 2 b7,.int 1 ae]:List Value).toArray o9,ie⟩)
  (cb:W.keepIn K (.ref d2)=true)
  (Fx:W.nsIn K mainGlobals "_law_told"=some (some (.ref dd)))
  (Gk:K.lookup dd=some ⟨np,yz,.func (W.fnOf "_law_told" "_law_told" (ZAM ZDy) (ZAL ZDy) (ZAC ZDy) .none ni wm l4 pg ft yj),vz⟩)
  (Gy:W.codeIn K ft "_law_told"=true)
  (hb:W.keepIn K (.ref dd)=true)
  (E3:W.nsIn K mainGlobals "_law_cell_at"=some (some (.ref db)))
  (Ci:K.lookup db=some ⟨zr,uv,.func (W.fnOf "_law_cell_at" "_law_cell_at" (ZAM ZCA) (ZAL ZCA) (ZAC ZCA) .none q1 ss uy s0 ey rp),lq⟩)
  (Gs:W.codeIn K ey "_law_cell_at"=true)
  (hv:W.keepIn K (.ref db)=true)
  (Cj:W.nsIn K mainGlobals "_law_stream"=some (some (.ref dm)))
  (Ez:K.lookup dm=some ⟨xp,oe,.func (W.fnOf "_law_stream" "_law_stream" (ZAM ZCf) (ZAL ZCf) (ZAC ZCf) .none yq lz py tj e1 uj),u0⟩)
  (Ao:W.codeIn K e1 "_law_stream"=true)
  (jr:W.keepIn K (.ref dm)=true)
  (Ek:W.nsIn K mainGlobals "_law_digits"=some (some (.ref dt)))
  (Gc:K.lookup dt=some ⟨sj,x3,.func (W.fnOf "_law_digits" "_law_digits" (ZAM ZCk) (ZAL ZCk) (ZAC ZCk) .none ra pb mj mw et s3),n6⟩)
  (Ho:W.codeIn K et "_law_digits"=true)
  (hg:W.keepIn K (.ref dt)=true)
  (B8:W.nsIn K mainGlobals "_law_blocks"=some (some (.ref du)))
  (Hm:K.lookup du=some ⟨r7,z1,.func (W.fnOf "_law_blocks" "_law_blocks" (ZAM ZCl) (ZAL ZCl) (ZAC ZCl) .none ov wb wc ux f3 tz),pu⟩)
  (Fs:W.codeIn K f3 "_law_blocks"=true)
  (i4:W.keepIn K (.ref du)=true)
  (F4:W.nsIn K mainGlobals "_law_nearly"=some (some (.ref cx)))
  (Fy:K.lookup cx=some ⟨zv,n0,.func (W.fnOf "_law_nearly" "_law_nearly" (ZAM ZCh) (ZAL ZCh) (ZAC ZCh) .none xf xz q9 sg ew sx),kz⟩)
  (El:W.codeIn K ew "_law_nearly"=true)
  (j0:W.keepIn K (.ref cx)=true)
  (F5:W.nsIn K mainGlobals "_law_keys"=some (some (.ref di)))
  (C6:K.lookup di=some ⟨kt,za,.func (W.fnOf "_law_keys" "_law_keys" (ZAM ZD0) (ZAL ZD0) (ZAC ZD0) .none w8 u9 s4 u4 eq mf),pl⟩)
  (At:W.codeIn K eq "_law_keys"=true)
  (gf:W.keepIn K (.ref di)=true)
  (Ab:W.nsIn K mainGlobals "_law_whole"=some (some (.ref d5)))
  (Hi:K.lookup d5=some ⟨lx,uc,.func (W.fnOf "_law_whole" "_law_whole" (ZAM ZDK) (ZAL ZDK) (ZAC ZDK) .none mm r1 pd A5 e2 w2),xj⟩)
  (Aa:W.codeIn K e2 "_law_whole"=true)
  (k1:W.keepIn K (.ref d5)=true)
  (Bx:W.nsIn K mainGlobals "_law_in_order"=some (some (.ref d0)))
  (Cd:K.lookup d0=some ⟨nd,om,.func (W.fnOf "_law_in_order" "_law_in_order" (ZAM ZBo) (ZAL ZBo) (ZAC ZBo) .none u1 y9 l8 A2 fg km),ob⟩)
  (Eg:W.codeIn K fg "_law_in_order"=true)
  (kh:W.keepIn K (.ref d0)=true)
  (Aw:W.nsIn K mainGlobals "_law_shown"=some (some (.ref d9)))
  (Df:K.lookup d9=some ⟨sw,wu,.func (W.fnOf "_law_shown" "_law_shown" (ZAM ZDL) (ZAL ZDL) (ZAC ZDL) .none zy we mz xu fn tw),ub⟩)
  (D4:W.codeIn K fn "_law_shown"=true)
  (gi:W.keepIn K (.ref d9)=true)
  (Aq:W.nsIn K mainGlobals "_law_beside"=some (some (.ref df)))
  (Ff:K.lookup df=some ⟨nc,uz,.func (W.fnOf "_law_beside" "_law_beside" (ZAM ZCm) (ZAL ZCm) (ZAC ZCm) .none v9 wa xa t5 ev yf),yd⟩)
  (F1:W.codeIn K ev "_law_beside"=true)
  (jy:W.keepIn K (.ref df)=true)
  (E2:W.nsIn K mainGlobals "law"=some (some (.ref dj)))
  (Gg:K.lookup dj=some ⟨yx,t6,.func (W.fnOf "law" "law" (ZAM ZEB) (ZAL ZEB) (ZAC ZEB) .none ep fq er eg c6 en),rn⟩)
  (Dm:W.codeIn K c6 "law"=true)
  (D8:W.keepIn K (.ref dj)=true)
  (j6:W.nsIn K mainGlobals "_law_teller"=some (some (.ref dv)))
  (jq:K.lookup dv=some ⟨v6,w1,.func (W.fnOf "_law_teller" "_law_teller" (ZAM ZCK) (ZAL ZCK) (ZAC ZCK) .none p7 r4 na xx (.ref aa) v7),m3⟩)
  (Dj:W.codeIn K (.ref aa) "_law_teller"=true)
  (sr:K.lookup aa=some ⟨ho,kj,.fields fv,ii⟩)
  (qk:fv[11]?=some (.ref a8))
  (j4:W.keepIn K (.ref dv)=true)
  (xv:W.nsIn K mainGlobals "LEFT"=some (some (.int 0 s6)))
  (kg:W.nsIn K mainGlobals "RIGHT"=some (some (.int 1 j5)))
  (ag:W.nsIn K mainGlobals "WINS_TO_LEAP"=some (some (.int 4 af)))
  (Gm:W.nsIn K mainGlobals "len"=some none)
  (ka:W.nsIn K mainGlobals "range"=some none)
  (uo:W.nsIn K mainGlobals "list"=some none)
  (b2:W.nsIn K mainGlobals "isinstance"=some none)
  (rc:W.nsIn K mainGlobals "bool"=some none)
  (Ej:W.nsIn K mainGlobals "int"=some none)
  (Ch:W.nsIn K mainGlobals "max"=some none)
  (C3:W.nsIn K mainGlobals "min"=some none)
  (Bi:W.nsIn K mainGlobals "sum"=some none)
  (fy:W.nsIn K mainGlobals "sorted"=some none)
  (ct:W.nsIn K mainGlobals "reversed"=some none)
  (bb:W.nsIn K mainGlobals "enumerate"=some none)
  (Eo:W.nsIn K mainGlobals "zip"=some none)
  (rk:W.nsIn K mainGlobals "dict"=some none)
  (au:W.nsIn K mainGlobals "ValueError"=some none)
  (az:PySem.W.kitOne K (.type "int") (.type "bool")=some false)
  (nt:PySem.W.noTabs K=true) :
  ∃ (tabs:List (Addr×Addr)) (fd:FuncData),PySem.W.noTabs K=true /\ (∀ t∈tabs,∃ y∈(["_law_teller"]:List Str),PySem.W.tabIn K y=some t) /\ (∀ (s:Shared) (v:Value),BindsTo s fd ⟨[v],[]⟩ [("_law_script",v)]) /\ ∀ base:Heap,K.In base->base.Ns mainGlobals mg->(∀ t∈tabs,PySem.W.CodeHd base t.1 t.2)->ZEg mg base->FnOk l.prog w K mg base CX0 17 fa fd ["_law_script"] (ZFW K tabs):=by
 have e:=Hz.symm.trans (PySem.W.mg_of X G E2)
 cases e
 have a1:Cls K C_zbg:=⟨rt,yp,wd,po⟩
 have ij:=ZAb (st:=ZBg) Ee Dr He
 have H7:=ij.binds (ps:=["self","asker","left","right"]) fun _ _ _ _ _ _ us hl=>by obtain ⟨_,_,_,_,rfl⟩:=us4 hl;rfl
 have gt:=ZAb (st:=ZAz) F2 G4 hu
 have E5:=gt.binds (ps:=["self","side"]) fun _ _ _ _ _ _ us hl=>by obtain ⟨_,_,rfl⟩:=us2 hl;rfl
 have jh:=ZAb (st:=ZBM) Cs Ak jg
 have D6:=jh.binds (ps:=["self","side"]) fun _ _ _ _ _ _ us hl=>by obtain ⟨_,_,rfl⟩:=us2 hl;rfl
 have j7:=ZAb (st:=ZA6) Fp Cq hh
 have Fv:=j7.binds (ps:=["self","side","more"]) fun _ _ _ _ _ _ us hl=>by obtain ⟨_,_,_,rfl⟩:=us3 hl;rfl
 have ki:=ZAb (st:=ZAu) Dd Ef il
 have Dc:=ki.binds (ps:=["self","side"]) fun _ _ _ _ _ _ us hl=>by obtain ⟨_,_,rfl⟩:=us2 hl;rfl
 have iz:=ZAb (st:=ZBs) Do Bb iw
 have G5:=iz.binds (ps:=["self"]) fun _ _ _ _ _ _ us hl=>by obtain ⟨_,rfl⟩:=us1 hl;rfl
 have j2:=ZAb (st:=ZA7) D9 Ds ju
 have E4:=j2.binds (ps:=["self","side"]) fun _ _ _ _ _ _ us hl=>by obtain ⟨_,_,rfl⟩:=us2 hl;rfl
 have Z:Cls K C_zbe:=⟨ow,ur,u3,xb⟩
 have ck:=ZCy (st:=ZBf) Fc Cf Gw Fa
 have gb:=ck.binds (ps:=["self","asker","least","part"]) (ds:=[]) fun _ _ _ _ _ _ _ us hl=>by obtain ⟨_,_,_,_,rfl⟩:=us4 (ZBi (n:=4) hl rfl);exact ⟨_,rfl,rfl⟩
 have Hy:=ck.binds (ps:=["self","asker","least","part"]) (ds:=[.none]) fun _ _ _ _ _ _ _ us hl=>by obtain ⟨_,_,_,rfl⟩:=us3 (ZBi (n:=3) hl rfl);exact ⟨_,rfl,rfl⟩
 have Hv:=ck.binds (ps:=["self","asker","least","part"]) (ds:=[.int 1 b4,.none]) fun _ _ _ _ _ _ _ us hl=>by obtain ⟨_,_,rfl⟩:=us2 (ZBi (n:=2) hl rfl);exact ⟨_,rfl,rfl⟩
 have i6:=ZAb (st:=ZAt) Az Hl jl
 have Ap:=i6.binds (ps:=["self","number"]) fun _ _ _ _ _ _ us hl=>by obtain ⟨_,_,rfl⟩:=us2 hl;rfl
 have gm:=ZAb (st:=ZAf) Bu F6 h7
 have Hc:=gm.binds (ps:=["self"]) fun _ _ _ _ _ _ us hl=>by obtain ⟨_,rfl⟩:=us1 hl;rfl
 have je:=ZAb (st:=ZAj) Dn Cp jd
 have Af:=je.binds (ps:=["self","middle","beyond"]) fun _ _ _ _ _ _ us hl=>by obtain ⟨_,_,_,rfl⟩:=us3 hl;rfl
 have ir:=ZAb (st:=ZAy) G6 Eb i8
 have Db:=ir.binds (ps:=["self","lower"]) fun _ _ _ _ _ _ us hl=>by obtain ⟨_,_,rfl⟩:=us2 hl;rfl
 have i0:=ZAb (st:=ZBr) Go Cb iv
 have Gf:=i0.binds (ps:=["self"]) fun _ _ _ _ _ _ us hl=>by obtain ⟨_,rfl⟩:=us1 hl;rfl
 have kk:=ZAb (st:=ZBe) Gx Fe ht
 have Fk:=kk.binds (ps:=["self"]) fun _ _ _ _ _ _ us hl=>by obtain ⟨_,rfl⟩:=us1 hl;rfl
 have ja:=ZAb (st:=ZBL) Ah Ck g6
 have By:=ja.binds (ps:=["self"]) fun _ _ _ _ _ _ us hl=>by obtain ⟨_,rfl⟩:=us1 hl;rfl
 have O:Cls K C_zbf:=⟨yo,mk,m9,kr⟩
 have gw:=ZAb (st:=ZAx) Fb Gp i7
 have Hd:=gw.binds (ps:=["self","piece","taken"]) fun _ _ _ _ _ _ us hl=>by obtain ⟨_,_,_,rfl⟩:=us3 hl;rfl
 have ig:=ZAb (st:=ZA5) Dl Am jj
 have G1:=ig.binds (ps:=["self","p","q"]) fun _ _ _ _ _ _ us hl=>by obtain ⟨_,_,_,rfl⟩:=us3 hl;rfl
 have j1:=ZAb (st:=ZBq) H6 C7 ji
 have Gj:=j1.binds (ps:=["self","one","other"]) fun _ _ _ _ _ _ us hl=>by obtain ⟨_,_,_,rfl⟩:=us3 hl;rfl
 have jo:=ZAb (st:=ZBd) Bv Dv j3
 have C1:=jo.binds (ps:=["self","meetings","went_on"]) fun _ _ _ _ _ _ us hl=>by obtain ⟨_,_,_,rfl⟩:=us3 hl;rfl
 have gj:=ZAb (st:=ZBp) Ct Hg g1
 have F3:=gj.binds (ps:=["self"]) fun _ _ _ _ _ _ us hl=>by obtain ⟨_,rfl⟩:=us1 hl;rfl
 have h6:=ZAb (st:=ZBb) H8 G0 gk
 have C0:=h6.binds (ps:=["self"]) fun _ _ _ _ _ _ us hl=>by obtain ⟨_,rfl⟩:=us1 hl;rfl
 have he:=ZAb (st:=ZBc) En Bq G2
 have G3:=he.binds (ps:=["self","asker","pieces"]) fun _ _ _ _ _ _ us hl=>by obtain ⟨_,_,_,rfl⟩:=us3 hl;rfl
 have hx:=ZAb (st:=ZBa) Ba Ea gq
 have Ag:=hx.binds (ps:=["self"]) fun _ _ _ _ _ _ us hl=>by obtain ⟨_,rfl⟩:=us1 hl;rfl
 have c9:Cls K C_zbd:=⟨nu,uw,sc,rj⟩
 have cy:=ZCy (st:=ZBO) Au Fq E1 H4
 have Hu:=cy.binds (ps:=["self","row","rule","most"]) (ds:=[]) fun _ _ _ _ _ _ _ us hl=>by obtain ⟨_,_,_,_,rfl⟩:=us4 (ZBi (n:=4) hl rfl);exact ⟨_,rfl,rfl⟩
 have j9:=cy.binds (ps:=["self","row","rule","most"]) (ds:=[.none]) fun _ _ _ _ _ _ _ us hl=>by obtain ⟨_,_,_,rfl⟩:=us3 (ZBi (n:=3) hl rfl);exact ⟨_,rfl,rfl⟩
 have it:=ZAb (st:=ZBN) D0 Fg hf
 have Ay:=it.binds (ps:=["self"]) fun _ _ _ _ _ _ us hl=>by obtain ⟨_,rfl⟩:=us1 hl;rfl
 have h5:=ZAb (st:=ZBB) Hk B5 g5
 have Fd:=h5.binds (ps:=["self","p","q"]) fun _ _ _ _ _ _ us hl=>by obtain ⟨_,_,_,rfl⟩:=us3 hl;rfl
 have e7:Cls K C_zbc:=⟨w4,o0,vg,wv⟩
 have jc:=ZAb (st:=ZAv) Co A8 B1
 have Dq:=jc.binds (ps:=["self","teller"]) fun _ _ _ _ _ _ us hl=>by obtain ⟨_,_,rfl⟩:=us2 hl;rfl
 have g4:=ZAb (st:=ZAn) Dg Gb gg
 have Fj:=g4.binds (ps:=["self","x","y"]) fun _ _ _ _ _ _ us hl=>by obtain ⟨_,_,_,rfl⟩:=us3 hl;rfl
 have dl:=ZCy (st:=ZA4) Hq C5 hk Dk
 have jf:=dl.binds (ps:=["asker","first","end"]) (ds:=[]) fun _ _ _ _ _ _ _ us hl=>by obtain ⟨_,_,_,rfl⟩:=us3 (ZBi (n:=3) hl rfl);exact ⟨_,rfl,rfl⟩
 have Hx:=dl.binds (ps:=["asker","first","end"]) (ds:=[.none]) fun _ _ _ _ _ _ _ us hl=>by obtain ⟨_,_,rfl⟩:=us2 (ZBi (n:=2) hl rfl);exact ⟨_,rfl,rfl⟩
 have i5:=ZAb (st:=ZB9) Bo Gq io
 have Ge:=i5.binds (ps:=["first","beyond","falling"]) fun _ _ _ _ _ _ us hl=>by obtain ⟨_,_,_,rfl⟩:=us3 hl;rfl
 have go:=ZAb (st:=ZB8) C8 Bl j8
 have Ca:=go.binds (ps:=["asker","order","place"]) fun _ _ _ _ _ _ us hl=>by obtain ⟨_,_,_,rfl⟩:=us3 hl;rfl
 have cw:=ZCy (st:=ZCj) Hb Gt jk Br
 have ih:=cw.binds (ps:=["asker","first","least","end"]) (ds:=[]) fun _ _ _ _ _ _ _ us hl=>by obtain ⟨_,_,_,_,rfl⟩:=us4 (ZBi (n:=4) hl rfl);exact ⟨_,rfl,rfl⟩
 have Hs:=cw.binds (ps:=["asker","first","least","end"]) (ds:=[.none]) fun _ _ _ _ _ _ _ us hl=>by obtain ⟨_,_,_,rfl⟩:=us3 (ZBi (n:=3) hl rfl);exact ⟨_,rfl,rfl⟩
 have iy:=ZAb (st:=ZDz) Bs Bp jb
 have Fl:=iy.binds (ps:=["asker","order","first","place"]) fun _ _ _ _ _ _ us hl=>by obtain ⟨_,_,_,_,rfl⟩:=us4 hl;rfl
 have gc:=ZAb (st:=ZCi) C4 Fh g3
 have Eu:=gc.binds (ps:=["asker","left","right"]) fun _ _ _ _ _ _ us hl=>by obtain ⟨_,_,_,rfl⟩:=us3 hl;rfl
 have k0:=ZAb (st:=ZDM) D5 B3 k3
 have Bj:=k0.binds (ps:=["many","first","middle","beyond"]) fun _ _ _ _ _ _ us hl=>by obtain ⟨_,_,_,_,rfl⟩:=us4 hl;rfl
 have bx:=ZCy (st:=ZCB) Ai Du jp Eh
 have i3:=bx.binds (ps:=["asker","least","part"]) (ds:=[]) fun _ _ _ _ _ _ _ us hl=>by obtain ⟨_,_,_,rfl⟩:=us3 (ZBi (n:=3) hl rfl);exact ⟨_,rfl,rfl⟩
 have Hr:=bx.binds (ps:=["asker","least","part"]) (ds:=[.none]) fun _ _ _ _ _ _ _ us hl=>by obtain ⟨_,_,rfl⟩:=us2 (ZBi (n:=2) hl rfl);exact ⟨_,rfl,rfl⟩
 have Ht:=bx.binds (ps:=["asker","least","part"]) (ds:=[.int 1 b3,.none]) fun _ _ _ _ _ _ _ us hl=>by obtain ⟨_,rfl⟩:=us1 (ZBi (n:=1) hl rfl);exact ⟨_,rfl,rfl⟩
 have k5:=ZAb (st:=ZBA) Cm Ec iu
 have Di:=k5.binds (ps:=["first","beyond"]) fun _ _ _ _ _ _ us hl=>by obtain ⟨_,_,rfl⟩:=us2 hl;rfl
 have gz:=ZAb (st:=ZCg) Gu Ew jm
 have E7:=gz.binds (ps:=["asker","pieces"]) fun _ _ _ _ _ _ us hl=>by obtain ⟨_,_,rfl⟩:=us2 hl;rfl
 have gl:=ZAb (st:=ZBX) De Hf jx
 have B6:=gl.binds (ps:=["asker","pieces","mouths"]) fun _ _ _ _ _ _ us hl=>by obtain ⟨_,_,_,rfl⟩:=us3 hl;rfl
 have d1:=ZCy (st:=ZBY) Gi Dh i2 D7
 have ix:=d1.binds (ps:=["asker","pieces","mouths"]) (ds:=[]) fun _ _ _ _ _ _ _ us hl=>by obtain ⟨_,_,_,rfl⟩:=us3 (ZBi (n:=3) hl rfl);exact ⟨_,rfl,rfl⟩
 have Hw:=d1.binds (ps:=["asker","pieces","mouths"]) (ds:=[.int 2 b5]) fun _ _ _ _ _ _ _ us hl=>by obtain ⟨_,_,rfl⟩:=us2 (ZBi (n:=2) hl rfl);exact ⟨_,rfl,rfl⟩
 have ac:=ZCy (st:=ZBZ) F8 Bm cb Bw
 have hy:=ac.binds (ps:=["asker","wide","mouths","least"]) (ds:=[]) fun _ _ _ _ _ _ _ us hl=>by obtain ⟨_,_,_,_,rfl⟩:=us4 (ZBi (n:=4) hl rfl);exact ⟨_,rfl,rfl⟩
 have im:=ac.binds (ps:=["asker","wide","mouths","least"]) (ds:=[.int 1 ae]) fun _ _ _ _ _ _ _ us hl=>by obtain ⟨_,_,_,rfl⟩:=us3 (ZBi (n:=3) hl rfl);exact ⟨_,rfl,rfl⟩
 have hz:=ac.binds (ps:=["asker","wide","mouths","least"]) (ds:=[.int 2 b7,.int 1 ae]) fun _ _ _ _ _ _ _ us hl=>by obtain ⟨_,_,rfl⟩:=us2 (ZBi (n:=2) hl rfl);exact ⟨_,rfl,rfl⟩
 have gu:=ZAb (st:=ZDy) Gk Gy hb
 have F0:=gu.binds (ps:=["_law_asker","_law_wide","_law_mouths","_law_least","_law_way"]) fun _ _ _ _ _ _ us hl=>by obtain ⟨_,_,_,_,_,rfl⟩:=us5 hl;rfl
 have g2:=ZAb (st:=ZCA) Ci Gs hv
 have Ft:=g2.binds (ps:=["_law_script","_law_k"]) fun _ _ _ _ _ _ us hl=>by obtain ⟨_,_,rfl⟩:=us2 hl;rfl
 have gn:=ZAb (st:=ZCf) Ez Ao jr
 have E8:=gn.binds (ps:=["_law_cell","_law_many"]) fun _ _ _ _ _ _ us hl=>by obtain ⟨_,_,rfl⟩:=us2 hl;rfl
 have hq:=ZAb (st:=ZCk) Gc Ho hg
 have Gn:=hq.binds (ps:=["_law_script","_law_k","_law_base"]) fun _ _ _ _ _ _ us hl=>by obtain ⟨_,_,_,rfl⟩:=us3 hl;rfl
 have jz:=ZAb (st:=ZCl) Hm Fs i4
 have Ce:=jz.binds (ps:=["_law_keys_here","_law_cell"]) fun _ _ _ _ _ _ us hl=>by obtain ⟨_,_,rfl⟩:=us2 hl;rfl
 have i9:=ZAb (st:=ZCh) Fy El j0
 have Ep:=i9.binds (ps:=["_law_keys_here","_law_cell"]) fun _ _ _ _ _ _ us hl=>by obtain ⟨_,_,rfl⟩:=us2 hl;rfl
 have h0:=ZAb (st:=ZD0) C6 At gf
 have Fm:=h0.binds (ps:=["_law_script","_law_most"]) fun _ _ _ _ _ _ us hl=>by obtain ⟨_,_,rfl⟩:=us2 hl;rfl
 have h3:=ZAb (st:=ZDK) Hi Aa k1
 have Cc:=h3.binds (ps:=["_law_found"]) fun _ _ _ _ _ _ us hl=>by obtain ⟨_,rfl⟩:=us1 hl;rfl
 have kb:=ZAb (st:=ZBo) Cd Eg kh
 have Hj:=kb.binds (ps:=["_law_order","_law_keys_here","_law_many"]) fun _ _ _ _ _ _ us hl=>by obtain ⟨_,_,_,rfl⟩:=us3 hl;rfl
 have k9:=ZAb (st:=ZDL) Df D4 gi
 have Gz:=k9.binds (ps:=["_law_order","_law_log"]) fun _ _ _ _ _ _ us hl=>by obtain ⟨_,_,rfl⟩:=us2 hl;rfl
 have k2:=ZAb (st:=ZCm) Ff F1 jy
 have Ey:=k2.binds (ps:=["_law_keys_here","_law_wide","_law_mouths","_law_least"]) fun _ _ _ _ _ _ us hl=>by obtain ⟨_,_,_,_,rfl⟩:=us4 hl;rfl
 have kc:=ZAb (st:=ZEB) Gg Dm D8
 have I0:=kc.binds (ps:=["_law_script"]) fun _ _ _ _ _ _ us hl=>by obtain ⟨_,rfl⟩:=us1 hl;rfl
 have jv:=ZAb (st:=ZCK) jq Dj j4
 have D1:=jv.binds (ps:=["_law_log"]) fun _ _ _ _ _ _ us hl=>by obtain ⟨_,rfl⟩:=us1 hl;rfl
 have T:Bt K mg C_zbg C_zbe C_zbf C_zbd C_zbc:=⟨PySem.W.mg_none_of X G Gm,PySem.W.mg_none_of X G ka,PySem.W.mg_none_of X G uo,PySem.W.mg_none_of X G b2,PySem.W.mg_none_of X G rc,PySem.W.mg_none_of X G Ej,PySem.W.mg_none_of X G Ch,PySem.W.mg_none_of X G C3,PySem.W.mg_none_of X G Bi,PySem.W.mg_none_of X G fy,PySem.W.mg_none_of X G ct,PySem.W.mg_none_of X G bb,PySem.W.mg_none_of X G Eo,PySem.W.mg_none_of X G rk,PySem.W.mg_none_of X G au,⟨_,PySem.W.mg_of X G xv⟩,⟨_,PySem.W.mg_of X G kg⟩,⟨_,PySem.W.mg_of X G ag⟩,PySem.W.mg_of X G jw,a1,bp,ce,bo,av,PySem.W.mg_of X G k6,Z,bn,bf,cd,d7,ao,ay,as,b1,PySem.W.mg_of X G k8,O,bg,ax,bu,ah,ap,PySem.W.mg_of X G h9,c9,dr,cq,cu,c5,cr,PySem.W.mg_of X G gd,e7,b0,az⟩
 refine ⟨[(aa,a8)],W.fnOf "law" "law" (ZAM ZEB) (ZAL ZEB) (ZAC ZEB) .none ep fq er eg c6 en,nt,List.forall_mem_cons.mpr ⟨⟨"_law_teller",by simp,tabIn_of j6 jq rfl sr qk⟩,fun _ h=>nomatch h⟩,fun s v=>.of_eq rfl,fun base _ _ hC hB=>?_⟩
 have bi:Fn l.prog w K mg base CX0 "_law_cell_at" 1 ["_law_script","_law_k"] (ZEQ K):=⟨_,_,ok_cell_at g2 T ,Ft,hv,PySem.W.mg_of X G E3⟩
 have ai:Fn l.prog w K mg base CX0 "_law_stream" 1 ["_law_cell","_law_many"] (ZCd):=⟨_,_,ok_stream gn T ,E8,jr,PySem.W.mg_of X G Cj⟩
 have px:Fn l.prog w K mg base CX0 "_law_blocks" 2 ["_law_keys_here","_law_cell"] (ZCI):=⟨_,_,ok_blocks jz T ai,Ce,i4,PySem.W.mg_of X G B8⟩
 have md:Fn l.prog w K mg base CX0 "_law_nearly" 2 ["_law_keys_here","_law_cell"] (ZCI):=⟨_,_,ok_nearly i9 T ai,Ep,j0,PySem.W.mg_of X G F4⟩
 have o7:Fn l.prog w K mg base CX0 "_law_digits" 2 ["_law_script","_law_k","_law_base"] (ZD9 K):=⟨_,_,ok_digits hq T ai bi,Gn,hg,PySem.W.mg_of X G Ek⟩
 have lc:Fn l.prog w K mg base CX0 "_law_keys" 3 ["_law_script","_law_most"] (ZFX K):=⟨_,_,ok_keys h0 T bi px md o7 ai,Fm,gf,PySem.W.mg_of X G F5⟩
 have am:Mt l.prog w K mg base CX0 C_zbe "paper" 1 ["self"] (ZEp C_zbe):=⟨Z,_,_,ok_Pile_paper ja T ,By,G7,Cy,g6⟩
 have a0:Mt l.prog w K mg base CX0 C_zbe "is_due_beneath" 1 ["self"] (ZGA C_zbe):=⟨Z,_,_,ok_Pile_is_due_beneath gm T ,Hc,Dz,H3,h7⟩
 have L:Mt l.prog w K mg base CX0 C_zbg "take_on" 1 ["self","side","more"] (ZC5 C_zbg):=⟨a1,_,_,ok_Join_take_on j7 T ,Fv,D2,Dt,hh⟩
 have a7:Mt l.prog w K mg base CX0 C_zbg "take_rest" 2 ["self","side"] (ZDF C_zbg):=⟨a1,_,_,ok_Join_take_rest ki T L,Dc,Ac,C2,il⟩
 have Y:Mt l.prog w K mg base CX0 C_zbg "has_more" 1 ["self","side"] (ZC6 C_zbg):=⟨a1,_,_,ok_Join_has_more gt T ,E5,Ev,Av,hu⟩
 have c3:CloOk l.prog w K mg base 1 (ZBS):=clo_teller T
 have a3:Mt l.prog w K mg base CX0 C_zbc "before" 2 ["self","x","y"] (ZDT C_zbc ZBS):=⟨e7,_,_,ok_AskedRule_before g4 T c3,Fj,Ha,As,gg⟩
 have J:Mt l.prog w K mg base CX0 C_zbd "ahead" 3 ["self","p","q"] (ZCV C_zbd C_zbc ZBS):=⟨c9,_,_,ok_Asker_ahead h5 T a3,Fd,Dx,Fz,g5⟩
 have a4:Mt l.prog w K mg base CX0 C_zbg "front" 1 ["self","side"] (ZD8 C_zbg):=⟨a1,_,_,ok_Join_front jh T ,D6,D3,A7,jg⟩
 have bw:Mt l.prog w K mg base CX0 C_zbg "win" 4 ["self"] (ZFR C_zbd C_zbc C_zbg):=⟨a1,_,_,ok_Join_win iz T L J a4,G5,G8,Ar,iw⟩
 have vm:Fn l.prog w K mg base CX0 "leap" 4 ["asker","order","first","place"] (ZEr C_zbd C_zbc):=⟨_,_,ok_leap iy T J,Fl,jb,PySem.W.mg_of X G Cr⟩
 have ad:Mt l.prog w K mg base CX0 C_zbg "leap_on" 5 ["self","side"] (ZDc C_zbd C_zbc C_zbg):=⟨a1,_,_,ok_Join_leap_on j2 T vm L Y a4,E4,Cg,Bg,ju⟩
 have v0:Kl l.prog w K mg base CX0 "Join" C_zbg 1 ["self","asker","left","right"] (ZEs C_zbg):=⟨PySem.W.mg_of X G jw,_,_,ok_Join_init ij T ,H7,wx,Ae,Ax,tx⟩
 have mv:Fn l.prog w K mg base CX0 "joined" 6 ["asker","left","right"] (ZDd C_zbd C_zbc):=⟨_,_,ok_joined gc T a7 Y bw ad v0,Eu,g3,PySem.W.mg_of X G Bk⟩
 have a6:Mt l.prog w K mg base CX0 C_zbe "beyond_of" 1 ["self","number"] (ZDI C_zbe):=⟨Z,_,_,ok_Pile_beyond_of i6 T ,Ap,H5,Bf,jl⟩
 have a9:Mt l.prog w K mg base CX0 C_zbe "join_two" 7 ["self","lower"] (ZDH C_zbd C_zbc C_zbe):=⟨Z,_,_,ok_Pile_join_two ir T mv a6,Db,Cv,Bc,i8⟩
 have B:Mt l.prog w K mg base CX0 C_zbd "many" 1 ["self"] (ZDx C_zbd):=⟨c9,_,_,ok_Asker_many it T ,Ay,Bh,Ei,hf⟩
 have m6:Fn l.prog w K mg base CX0 "stretch_from" 4 ["asker","first","end"] (ZFS C_zbd C_zbc):=⟨_,_,ok_stretch_from dl T J B,jf,hk,PySem.W.mg_of X G Et⟩
 have q7:Fn l.prog w K mg base CX0 "in_turn" 1 ["first","beyond","falling"] (ZD6):=⟨_,_,ok_in_turn i5 T ,Ge,io,PySem.W.mg_of X G E6⟩
 have ln:Fn l.prog w K mg base CX0 "spot_of" 4 ["asker","order","place"] (ZEn C_zbd C_zbc):=⟨_,_,ok_spot_of go T J,Ca,j8,PySem.W.mg_of X G Hh⟩
 have ly:Fn l.prog w K mg base CX0 "filled" 5 ["asker","first","least","end"] (ZEu C_zbd C_zbc):=⟨_,_,ok_filled cw T m6 q7 ln B,ih,jk,PySem.W.mg_of X G F7⟩
 have ym:Fn l.prog w K mg base CX0 "grade" 1 ["many","first","middle","beyond"] (ZEt):=⟨_,_,ok_grade k0 T ,Bj,k3,PySem.W.mg_of X G B0⟩
 have a2:Mt l.prog w K mg base CX0 C_zbe "grade_on_top" 2 ["self","middle","beyond"] (ZEq C_zbe):=⟨Z,_,_,ok_Pile_grade_on_top je T ym,Af,Cz,Dy,jd⟩
 have bd:Mt l.prog w K mg base CX0 C_zbe "lay" 6 ["self"] (ZFV C_zbd C_zbc C_zbe):=⟨Z,_,_,ok_Pile_lay i0 T ly a2,Gf,Es,B4,iv⟩
 have ar:Mt l.prog w K mg base CX0 C_zbe "step" 8 ["self"] (ZEm C_zbd C_zbc C_zbe):=⟨Z,_,_,ok_Pile_step kk T a0 a9 bd,Fk,Fw,G9,ht⟩
 have v3:Kl l.prog w K mg base CX0 "Pile" C_zbe 2 ["self","asker","least","part"] (ZDG C_zbd C_zbe):=⟨PySem.W.mg_of X G k6,_,_,ok_Pile_init ck T B,gb,t4,F9,Bz,vb⟩
 have al:Fn l.prog w K mg base CX0 "by_pile" 9 ["asker","least","part"] (ZC8 C_zbd C_zbc):=⟨_,_,ok_by_pile bx T am ar v3,i3,jp,PySem.W.mg_of X G Aj⟩
 have bz:Mt l.prog w K mg base CX0 C_zbf "top" 1 ["self"] (ZF9 C_zbf):=⟨O,_,_,ok_Pour_top gj T ,F3,Em,A9,g1⟩
 have U:Mt l.prog w K mg base CX0 C_zbf "front_of" 1 ["self","piece","taken"] (ZC7 C_zbf):=⟨O,_,_,ok_Pour_front_of gw T ,Hd,C9,Ed,i7⟩
 have ab:Mt l.prog w K mg base CX0 C_zbf "goes_on" 4 ["self","p","q"] (ZDf C_zbd C_zbc C_zbf):=⟨O,_,_,ok_Pour_goes_on ig T J,G1,B9,Ga,jj⟩
 have c1:Mt l.prog w K mg base CX0 C_zbf "met" 5 ["self","one","other"] (ZFT C_zbd C_zbc C_zbf):=⟨O,_,_,ok_Pour_met j1 T ab,Gj,Da,Bn,ji⟩
 have a5:Mt l.prog w K mg base CX0 C_zbf "held" 6 ["self","meetings","went_on"] (ZD7 C_zbd C_zbc C_zbf):=⟨O,_,_,ok_Pour_held jo T c1,C1,Hn,Ex,j3⟩
 have aw:Mt l.prog w K mg base CX0 C_zbf "take" 7 ["self"] (ZEl C_zbd C_zbc C_zbf):=⟨O,_,_,ok_Pour_take hx T bz U a5,Ag,H9,B7,gq⟩
 have aq:Mt l.prog w K mg base CX0 C_zbf "left" 1 ["self"] (ZFU C_zbf):=⟨O,_,_,ok_Pour_left h6 T ,C0,Fi,Gh,gk⟩
 have zf:Fn l.prog w K mg base CX0 "meetings_of" 9 ["first","beyond"] (ZBn 9):=rec_fn (sp:=ZBn) (fun _ _ _ _ z=>spMeetings_no z) Di iu (PySem.W.mg_of X G Cu) (fun n h=>ok_meetings_of k5 T h) 9
 have mi:Kl l.prog w K mg base CX0 "Pour" C_zbf 10 ["self","asker","pieces"] (ZCt C_zbd C_zbc C_zbf):=⟨PySem.W.mg_of X G k8,_,_,ok_Pour_init he T zf a5 U,G3,ui,E9,Gv,nx⟩
 have sa:Fn l.prog w K mg base CX0 "poured" 12 ["asker","pieces"] (ZDb C_zbd C_zbc):=⟨_,_,ok_poured gz T aw aq mi,E7,jm,PySem.W.mg_of X G B2⟩
 have lg:Fn l.prog w K mg base CX0 "one_round" 13 ["asker","pieces","mouths"] (ZCu C_zbd C_zbc):=⟨_,_,ok_one_round gl T sa,B6,jx,PySem.W.mg_of X G Fu⟩
 have aj:Fn l.prog w K mg base CX0 "in_rounds" 14 ["asker","pieces","mouths"] (ZCH C_zbd C_zbc):=⟨_,_,ok_in_rounds d1 T lg,ix,i2,PySem.W.mg_of X G Be⟩
 have n9:Fn l.prog w K mg base CX0 "by_pieces" 15 ["asker","wide","mouths","least"] (ZBI C_zbd C_zbc):=⟨_,_,ZCY ac T al aj B,hy,cb,PySem.W.mg_of X G d6⟩
 have fx:FnD l.prog w K mg base CX0 "by_pieces" 15 ["asker","wide","mouths","least"] (ZBI C_zbd C_zbc) [.int 2,.int 1]:=⟨_,_,_,ZCY ac T al aj B,hz,(.cons ⟨_,rfl⟩ (.cons ⟨_,rfl⟩ .nil)),cb,PySem.W.mg_of X G d6⟩
 have g0:FnD l.prog w K mg base CX0 "by_pieces" 15 ["asker","wide","mouths","least"] (ZBI C_zbd C_zbc) [.int 1]:=⟨_,_,_,ZCY ac T al aj B,im,(.cons ⟨_,rfl⟩ .nil),cb,PySem.W.mg_of X G d6⟩
 have on:Fn l.prog w K mg base CX0 "_law_told" 16 ["_law_asker","_law_wide","_law_mouths","_law_least","_law_way"] (ZEk C_zbd C_zbc):=⟨_,_,ok_told gu T n9 fx g0,F0,hb,PySem.W.mg_of X G Fx⟩
 have yg:Fn l.prog w K mg base CX0 "_law_whole" 1 ["_law_found"] (ZEj):=⟨_,_,ok_whole h3 T ,Cc,k1,PySem.W.mg_of X G Ab⟩
 have ny:Fn l.prog w K mg base CX0 "_law_in_order" 2 ["_law_order","_law_keys_here","_law_many"] (ZDe):=⟨_,_,ok_in_order kb T yg,Hj,kh,PySem.W.mg_of X G Bx⟩
 have fu:Fn l.prog w K mg base CX0 "_law_teller" 1 ["_law_log"] (ZEP a8 (ZCa ZAN) "_law_teller_here" "_law_teller.<locals>._law_teller_here" (ZAM ZAN) (ZAL ZAN) (ZAC ZAN) ["_law_log"] [0] 1):=⟨_,_,ok_teller jv rfl (hC (aa,a8) (by simp)) hB,D1,j4,PySem.W.mg_of X G j6⟩
 have ql:Fn l.prog w K mg base CX0 "_law_shown" 1 ["_law_order","_law_log"] (ZEo):=⟨_,_,ok_shown k9 T ,Gz,gi,PySem.W.mg_of X G Aw⟩
 have b6:KlD l.prog w K mg base CX0 "Asker" C_zbd 1 ["self","row","rule","most"] (ZCJ C_zbd) [.non]:=⟨PySem.W.mg_of X G h9,_,_,_,ok_Asker_init cy T ,j9,(.cons rfl .nil),x2,Eq,Er,pm⟩
 have e3:Kl l.prog w K mg base CX0 "AskedRule" C_zbc 1 ["self","teller"] (ZCe C_zbc):=⟨PySem.W.mg_of X G gd,_,_,ok_AskedRule_init jc T ,Dq,w7,Cw,H0,q3⟩
 have y4:Fn l.prog w K mg base CX0 "_law_beside" 15 ["_law_keys_here","_law_wide","_law_mouths","_law_least"] (ZDJ a8):=⟨_,_,ok_beside k2 T aj fu al b6 e3,Ey,jy,PySem.W.mg_of X G Aq⟩
 exact ok_law kc T lc on bi ny fu ql y4 b6 e3
end Law
open PySem PySem.W PyProof.Rows
set_option maxRecDepth 100000 in
set_option maxHeartbeats 0 in
theorem PySem.Challenge.cw_sorthall_k66_whole_by_pieces_holds : PySem.Challenge.rw_sorthall_k66_whole_by_pieces.Holds := by
 refine L2.hd0 ?_
 k_fill
 refine L2.walk_ofT2 (l:=PySem.Challenge.rw_sorthall_k66_whole_by_pieces) (k:=17) (x:="_law_script") (names:=["_law_teller"]) rfl rfl ⟨rfl,by decide,by decide,rfl⟩ (fun w h Y=>PySem.W.km_in_of Y) (List.forall_mem_cons.mpr ⟨⟨_,rfl⟩,fun _ h=>nomatch h⟩) ?F
 case F=>
  intro w mg fa h KX G hmg
  refine' Law.all_mk KX G hmg ?a_zbg ?pg_zbg ?hd_zbg ?po_zbg ?sa_zbg ?mk_zbg ?kc_zbg ?n_zbg_asker ?n_zbg_sides ?n_zbg_taken ?n_zbg_places ?a_zax ?i_zax ?l_zax ?c_zax ?k_zax ?a_zai ?i_zai ?l_zai ?c_zai ?k_zai ?a_zar ?i_zar ?l_zar ?c_zar ?k_zar ?a_zaj ?i_zaj ?l_zaj ?c_zaj ?k_zaj ?a_zaf ?i_zaf ?l_zaf ?c_zaf ?k_zaf ?a_zaD ?i_zaD ?l_zaD ?c_zaD ?k_zaD ?a_zak ?i_zak ?l_zak ?c_zak ?k_zak ?a_zbe ?pg_zbe ?hd_zbe ?po_zbe ?sa_zbe ?mk_zbe ?kc_zbe ?n_zbe_asker ?n_zbe_least ?n_zbe_start ?n_zbe_end ?n_zbe_reached ?n_zbe_firsts ?n_zbe_orders ?n_zbe_grades ?a_zav ?i_zav ?l_zav ?c_zav ?d_zav ?k_zav ?a_zad ?i_zad ?l_zad ?c_zad ?k_zad ?a_zaa ?i_zaa ?l_zaa ?c_zaa ?k_zaa ?a_zab ?i_zab ?l_zab ?c_zab ?k_zab ?a_zah ?i_zah ?l_zah ?c_zah ?k_zah ?a_zaF ?i_zaF ?l_zaF ?c_zaF ?k_zaF ?a_zaB ?i_zaB ?l_zaB ?c_zaB ?k_zaB ?a_zap ?i_zap ?l_zap ?c_zap ?k_zap ?a_zbf ?pg_zbf ?hd_zbf ?po_zbf ?sa_zbf ?mk_zbf ?kc_zbf ?n_zbf_asker ?n_zbf_pieces ?n_zbf_taken ?n_zbf_meetings ?n_zbf_went_on ?a_zag ?i_zag ?l_zag ?c_zag ?k_zag ?a_zal ?i_zal ?l_zal ?c_zal ?k_zal ?a_zaG ?i_zaG ?l_zaG ?c_zaG ?k_zaG ?a_zaC ?i_zaC ?l_zaC ?c_zaC ?k_zaC ?a_zaE ?i_zaE ?l_zaE ?c_zaE ?k_zaE ?a_zaw ?i_zaw ?l_zaw ?c_zaw ?k_zaw ?a_zat ?i_zat ?l_zat ?c_zat ?k_zat ?a_zay ?i_zay ?l_zay ?c_zay ?k_zay ?a_zbd ?pg_zbd ?hd_zbd ?po_zbd ?sa_zbd ?mk_zbd ?kc_zbd ?n_zbd_row ?n_zbd_rule ?n_zbd_most ?n_zbd_asked ?n_zbd_told ?a_zas ?i_zas ?l_zas ?c_zas ?d_zas ?k_zas ?a_zaq ?i_zaq ?l_zaq ?c_zaq ?k_zaq ?a_zao ?i_zao ?l_zao ?c_zao ?k_zao ?a_zbc ?pg_zbc ?hd_zbc ?po_zbc ?sa_zbc ?mk_zbc ?kc_zbc ?n_zbc_teller ?a_zae ?i_zae ?l_zae ?c_zae ?k_zae ?a_zac ?i_zac ?l_zac ?c_zac ?k_zac ?a_zam ?l_zam ?c_zam ?d_zam ?k_zam ?a_zaI ?l_zaI ?c_zaI ?k_zaI ?a_zaJ ?l_zaJ ?c_zaJ ?k_zaJ ?a_zaM ?l_zaM ?c_zaM ?d_zaM ?k_zaM ?a_zaY ?l_zaY ?c_zaY ?k_zaY ?a_zaP ?l_zaP ?c_zaP ?k_zaP ?a_zaX ?l_zaX ?c_zaX ?k_zaX ?a_zaL ?l_zaL ?c_zaL ?d_zaL ?k_zaL ?a_zan ?l_zan ?c_zan ?k_zan ?a_zaN ?l_zaN ?c_zaN ?k_zaN ?a_zaA ?l_zaA ?c_zaA ?k_zaA ?a_zau ?l_zau ?c_zau ?d_zau ?k_zau ?a_zaz ?l_zaz ?c_zaz ?d_zaz ?k_zaz ?a_zaZ ?l_zaZ ?c_zaZ ?k_zaZ ?a_zaK ?l_zaK ?c_zaK ?k_zaK ?a_zaO ?l_zaO ?c_zaO ?k_zaO ?a_zaT ?l_zaT ?c_zaT ?k_zaT ?a_zaR ?l_zaR ?c_zaR ?k_zaR ?a_zaQ ?l_zaQ ?c_zaQ ?k_zaQ ?a_zba ?l_zba ?c_zba ?k_zba ?a_zaV ?l_zaV ?c_zaV ?k_zaV ?a_zaH ?l_zaH ?c_zaH ?k_zaH ?a_zaW ?l_zaW ?c_zaW ?k_zaW ?a_zaU ?l_zaU ?c_zaU ?k_zaU ?a_zbb ?l_zbb ?c_zbb ?k_zbb ?a_zaS ?l_zaS ?c_zaS ?lc_zaS ?tp_zaS ?k_zaS ?z_LEFT ?z_RIGHT ?z_WINS_TO_LEAP ?z_len ?z_range ?z_list ?z_isinstance ?z_bool ?z_int ?z_max ?z_min ?z_sum ?z_sorted ?z_reversed ?z_enumerate ?z_zip ?z_dict ?z_ValueError ?kit_int_bool ?nt
  (case a_zbg=>k_is)
  (case pg_zbg=>k_is)
  (case hd_zbg=>k_is)
  (case po_zbg=>k_is)
  (case sa_zbg=>k_is)
  (case mk_zbg=>k_is)
  (case kc_zbg=>k_is)
  (case n_zbg_asker=>k_is)
  (case n_zbg_sides=>k_is)
  (case n_zbg_taken=>k_is)
  (case n_zbg_places=>k_is)
  (case a_zax=>k_is)
  (case i_zax=>k_is)
  (case l_zax=>k_is)
  (case c_zax=>k_is)
  (case k_zax=>k_is)
  (case a_zai=>k_is)
  (case i_zai=>k_is)
  (case l_zai=>k_is)
  (case c_zai=>k_is)
  (case k_zai=>k_is)
  (case a_zar=>k_is)
  (case i_zar=>k_is)
  (case l_zar=>k_is)
  (case c_zar=>k_is)
  (case k_zar=>k_is)
  (case a_zaj=>k_is)
  (case i_zaj=>k_is)
  (case l_zaj=>k_is)
  (case c_zaj=>k_is)
  (case k_zaj=>k_is)
  (case a_zaf=>k_is)
  (case i_zaf=>k_is)
  (case l_zaf=>k_is)
  (case c_zaf=>k_is)
  (case k_zaf=>k_is)
  (case a_zaD=>k_is)
  (case i_zaD=>k_is)
  (case l_zaD=>k_is)
  (case c_zaD=>k_is)
  (case k_zaD=>k_is)
  (case a_zak=>k_is)
  (case i_zak=>k_is)
  (case l_zak=>k_is)
  (case c_zak=>k_is)
  (case k_zak=>k_is)
  (case a_zbe=>k_is)
  (case pg_zbe=>k_is)
  (case hd_zbe=>k_is)
  (case po_zbe=>k_is)
  (case sa_zbe=>k_is)
  (case mk_zbe=>k_is)
  (case kc_zbe=>k_is)
  (case n_zbe_asker=>k_is)
  (case n_zbe_least=>k_is)
  (case n_zbe_start=>k_is)
  (case n_zbe_end=>k_is)
  (case n_zbe_reached=>k_is)
  (case n_zbe_firsts=>k_is)
  (case n_zbe_orders=>k_is)
  (case n_zbe_grades=>k_is)
  (case a_zav=>k_is)
  (case i_zav=>k_is)
  (case l_zav=>k_is)
  (case c_zav=>k_is)
  (case d_zav=>k_is)
  (case k_zav=>k_is)
  (case a_zad=>k_is)
  (case i_zad=>k_is)
  (case l_zad=>k_is)
  (case c_zad=>k_is)
  (case k_zad=>k_is)
  (case a_zaa=>k_is)
  (case i_zaa=>k_is)
  (case l_zaa=>k_is)
  (case c_zaa=>k_is)
  (case k_zaa=>k_is)
  (case a_zab=>k_is)
  (case i_zab=>k_is)
  (case l_zab=>k_is)
  (case c_zab=>k_is)
  (case k_zab=>k_is)
  (case a_zah=>k_is)
  (case i_zah=>k_is)
  (case l_zah=>k_is)
  (case c_zah=>k_is)
  (case k_zah=>k_is)
  (case a_zaF=>k_is)
  (case i_zaF=>k_is)
  (case l_zaF=>k_is)
  (case c_zaF=>k_is)
  (case k_zaF=>k_is)
  (case a_zaB=>k_is)
  (case i_zaB=>k_is)
  (case l_zaB=>k_is)
  (case c_zaB=>k_is)
  (case k_zaB=>k_is)
  (case a_zap=>k_is)
  (case i_zap=>k_is)
  (case l_zap=>k_is)
  (case c_zap=>k_is)
  (case k_zap=>k_is)
  (case a_zbf=>k_is)
  (case pg_zbf=>k_is)
  (case hd_zbf=>k_is)
  (case po_zbf=>k_is)
  (case sa_zbf=>k_is)
  (case mk_zbf=>k_is)
  (case kc_zbf=>k_is)
  (case n_zbf_asker=>k_is)
  (case n_zbf_pieces=>k_is)
  (case n_zbf_taken=>k_is)
  (case n_zbf_meetings=>k_is)
  (case n_zbf_went_on=>k_is)
  (case a_zag=>k_is)
  (case i_zag=>k_is)
  (case l_zag=>k_is)
  (case c_zag=>k_is)
  (case k_zag=>k_is)
  (case a_zal=>k_is)
  (case i_zal=>k_is)
  (case l_zal=>k_is)
  (case c_zal=>k_is)
  (case k_zal=>k_is)
  (case a_zaG=>k_is)
  (case i_zaG=>k_is)
  (case l_zaG=>k_is)
  (case c_zaG=>k_is)
  (case k_zaG=>k_is)
  (case a_zaC=>k_is)
  (case i_zaC=>k_is)
  (case l_zaC=>k_is)
  (case c_zaC=>k_is)
  (case k_zaC=>k_is)
  (case a_zaE=>k_is)
  (case i_zaE=>k_is)
  (case l_zaE=>k_is)
  (case c_zaE=>k_is)
  (case k_zaE=>k_is)
  (case a_zaw=>k_is)
  (case i_zaw=>k_is)
  (case l_zaw=>k_is)
  (case c_zaw=>k_is)
  (case k_zaw=>k_is)
  (case a_zat=>k_is)
  (case i_zat=>k_is)
  (case l_zat=>k_is)
  (case c_zat=>k_is)
  (case k_zat=>k_is)
  (case a_zay=>k_is)
  (case i_zay=>k_is)
  (case l_zay=>k_is)
  (case c_zay=>k_is)
  (case k_zay=>k_is)
  (case a_zbd=>k_is)
  (case pg_zbd=>k_is)
  (case hd_zbd=>k_is)
  (case po_zbd=>k_is)
  (case sa_zbd=>k_is)
  (case mk_zbd=>k_is)
  (case kc_zbd=>k_is)
  (case n_zbd_row=>k_is)
  (case n_zbd_rule=>k_is)
  (case n_zbd_most=>k_is)
  (case n_zbd_asked=>k_is)
  (case n_zbd_told=>k_is)
  (case a_zas=>k_is)
  (case i_zas=>k_is)
  (case l_zas=>k_is)
  (case c_zas=>k_is)
  (case d_zas=>k_is)
  (case k_zas=>k_is)
  (case a_zaq=>k_is)
  (case i_zaq=>k_is)
  (case l_zaq=>k_is)
  (case c_zaq=>k_is)
  (case k_zaq=>k_is)
  (case a_zao=>k_is)
  (case i_zao=>k_is)
  (case l_zao=>k_is)
  (case c_zao=>k_is)
  (case k_zao=>k_is)
  (case a_zbc=>k_is)
  (case pg_zbc=>k_is)
  (case hd_zbc=>k_is)
  (case po_zbc=>k_is)
  (case sa_zbc=>k_is)
  (case mk_zbc=>k_is)
  (case kc_zbc=>k_is)
  (case n_zbc_teller=>k_is)
  (case a_zae=>k_is)
  (case i_zae=>k_is)
  (case l_zae=>k_is)
  (case c_zae=>k_is)
  (case k_zae=>k_is)
  (case a_zac=>k_is)
  (case i_zac=>k_is)
  (case l_zac=>k_is)
  (case c_zac=>k_is)
  (case k_zac=>k_is)
  (case a_zam=>k_is)
  (case l_zam=>k_is)
  (case c_zam=>k_is)
  (case d_zam=>k_is)
  (case k_zam=>k_is)
  (case a_zaI=>k_is)
  (case l_zaI=>k_is)
  (case c_zaI=>k_is)
  (case k_zaI=>k_is)
  (case a_zaJ=>k_is)
  (case l_zaJ=>k_is)
  (case c_zaJ=>k_is)
  (case k_zaJ=>k_is)
  (case a_zaM=>k_is)
  (case l_zaM=>k_is)
  (case c_zaM=>k_is)
  (case d_zaM=>k_is)
  (case k_zaM=>k_is)
  (case a_zaY=>k_is)
  (case l_zaY=>k_is)
  (case c_zaY=>k_is)
  (case k_zaY=>k_is)
  (case a_zaP=>k_is)
  (case l_zaP=>k_is)
  (case c_zaP=>k_is)
  (case k_zaP=>k_is)
  (case a_zaX=>k_is)
  (case l_zaX=>k_is)
  (case c_zaX=>k_is)
  (case k_zaX=>k_is)
  (case a_zaL=>k_is)
  (case l_zaL=>k_is)
  (case c_zaL=>k_is)
  (case d_zaL=>k_is)
  (case k_zaL=>k_is)
  (case a_zan=>k_is)
  (case l_zan=>k_is)
  (case c_zan=>k_is)
  (case k_zan=>k_is)
  (case a_zaN=>k_is)
  (case l_zaN=>k_is)
  (case c_zaN=>k_is)
  (case k_zaN=>k_is)
  (case a_zaA=>k_is)
  (case l_zaA=>k_is)
  (case c_zaA=>k_is)
  (case k_zaA=>k_is)
  (case a_zau=>k_is)
  (case l_zau=>k_is)
  (case c_zau=>k_is)
  (case d_zau=>k_is)
  (case k_zau=>k_is)
  (case a_zaz=>k_is)
  (case l_zaz=>k_is)
  (case c_zaz=>k_is)
  (case d_zaz=>k_is)
  (case k_zaz=>k_is)
  (case a_zaZ=>k_is)
  (case l_zaZ=>k_is)
  (case c_zaZ=>k_is)
  (case k_zaZ=>k_is)
  (case a_zaK=>k_is)
  (case l_zaK=>k_is)
  (case c_zaK=>k_is)
  (case k_zaK=>k_is)
  (case a_zaO=>k_is)
  (case l_zaO=>k_is)
  (case c_zaO=>k_is)
  (case k_zaO=>k_is)
  (case a_zaT=>k_is)
  (case l_zaT=>k_is)
  (case c_zaT=>k_is)
  (case k_zaT=>k_is)
  (case a_zaR=>k_is)
  (case l_zaR=>k_is)
  (case c_zaR=>k_is)
  (case k_zaR=>k_is)
  (case a_zaQ=>k_is)
  (case l_zaQ=>k_is)
  (case c_zaQ=>k_is)
  (case k_zaQ=>k_is)
  (case a_zba=>k_is)
  (case l_zba=>k_is)
  (case c_zba=>k_is)
  (case k_zba=>k_is)
  (case a_zaV=>k_is)
  (case l_zaV=>k_is)
  (case c_zaV=>k_is)
  (case k_zaV=>k_is)
  (case a_zaH=>k_is)
  (case l_zaH=>k_is)
  (case c_zaH=>k_is)
  (case k_zaH=>k_is)
  (case a_zaW=>k_is)
  (case l_zaW=>k_is)
  (case c_zaW=>k_is)
  (case k_zaW=>k_is)
  (case a_zaU=>k_is)
  (case l_zaU=>k_is)
  (case c_zaU=>k_is)
  (case k_zaU=>k_is)
  (case a_zbb=>k_is)
  (case l_zbb=>k_is)
  (case c_zbb=>k_is)
  (case k_zbb=>k_is)
  (case a_zaS=>k_is)
  (case l_zaS=>k_is)
  (case c_zaS=>k_is)
  (case lc_zaS=>k_is)
  (case tp_zaS=>rfl)
  (case k_zaS=>k_is)
  (case z_LEFT=>k_is)
  (case z_RIGHT=>k_is)
  (case z_WINS_TO_LEAP=>k_is)
  (case z_len=>k_is)
  (case z_range=>k_is)
  (case z_list=>k_is)
  (case z_isinstance=>k_is)
  (case z_bool=>k_is)
  (case z_int=>k_is)
  (case z_max=>k_is)
  (case z_min=>k_is)
  (case z_sum=>k_is)
  (case z_sorted=>k_is)
  (case z_reversed=>k_is)
  (case z_enumerate=>k_is)
  (case z_zip=>k_is)
  (case z_dict=>k_is)
  (case z_ValueError=>k_is)
  (case kit_int_bool=>kit_is)
  (case nt=>kernel_rfl)
