import PyProof.Rows.All
import Wide.All
import OpenK.AllK
import Wide.FinOn
import Lean
import PyProof.EqAt
import PyProof.EqKinds
import PyProof.TupleCall
import KE.KRevIter
import PyProof.CollectIter
import PyProof.SumWalkG
import KE.KDictOf
import PyProof.IsiH_list
import PyProof.RaisesAny
import PyProof.P3In
import PyProof.Rows.SortRuns
import PyProof.Rows.SortShell
import KE.KSortTup
import PySem.Challenge.RW_sorthall_k68_whole_whatever_is_told
local macro_rules | `(tactic| omega)=>`(tactic| first | with_reducible assumption | lia | omega (splitDisjunctions:=true))
set_option compiler.extract_closed false
set_option maxHeartbeats 4000000
set_option Elab.async false
set_option linter.all false
set_option maxRecDepth 100000
open List renaming length_map→yAA,length_append→yAC,mem_cons_self→yAD,mem_cons_of_mem→yAE,getElem?_eq_getElem→yAF,length_cons→yAG,mem_singleton→yAH,mem_cons→yAI,map_append→yAK,getElem?_map→yAM,append_assoc→yAN,getElem?_eq_some_iff→yAO,length_take→yAP,mem_of_getElem?→yAS,getElem?_append_right→yAT,size_toArray→yAU,prefix_refl→yAV,mem_append_right→yAW,length_drop→yAX,mem_append→yAY,map_cons→yAZ,append_nil→yBA,getElem?_append_left→yBB,length_singleton→yBD,not_mem_nil→yBE,getD_eq_getElem?_getD→yBI,take_append_drop→yBJ,take_of_length_le→yBL,length_nil→yBM,getElem?_eq_none→yBO,mem_map→yBP,mem_append_left→yBS,drop_eq_getElem_cons→yBT,length_eq_zero_iff→yBU,length_replicate→yBV,getElem?_of_mem→yBY,drop_eq_nil_of_le→yCE,filter_cons_of_neg→yCF,flatten_append→yCG,take_add_one→yCH,lookup_cons→yCI,filter_cons_of_pos→yCK,count_append→yCL,length_flatten→yCM,mem_filter→yCN,length_reverse→yCP,map_take→yCQ,map_drop→yCR,getElem?_drop→yCS,cons_append→yCT,drop_drop→yCU,extract_eq_drop_take→yCW,pairwise_iff_getElem→yCX,count_cons→yCZ,count_nil→yDA,length_range'→yDB,nodup_cons→yDC,getElem?_take_of_lt→yDD,length_set→yDE,ext_getElem?→yDG,find?_cons→yDH,perm_append_comm→yDI,filter_append→yDJ
open Nat renaming le_refl→yAB,zero_le→yAJ,le_trans→yAL,ne_of_lt→yAQ,lt_of_lt_of_le→yBC,le_succ→yBF,sub_self→yBG,zero_add→yBN,succ_mul→yBQ,lt_irrefl→yBR,min_eq_left→yBW,zero_mul→yCA,le_of_lt→yCB,lt_succ_self→yCC,le_of_eq→yCO,add_zero→yCY
open Array renaming length_toList→yAR,getElem?_toList→yBK,toList_append→yBZ,getElem?_eq_some_iff→yCD,toList_extract→yCV
open Bool renaming false_ne_true→yBH,and_eq_true→yBX,false_eq_true→yDF
open Option renaming map_some→yCJ
namespace L2
open PySem PySem.W
variable {α:Type}{p:Program}{g0:Bool}{loose:List Str}
theorem left_boot {q:Program}{Xt:Shared->Bool}{Yf:Shared->α}{Ya:World->α}{N:Nat}
  (J:∀ w:World,(fencedOpening treeTable p w N).map (λs=>(s.heap,s.gens,s.drawn,s.toks))=some (boot_heap w.params,Array.mk [],boot_drawn,boot_toks))
  (h:∀ (w:World) (os:OsState),(topFrom treeTable p w N ⟨boot_heap w.params,Array.mk [],boot_drawn,boot_toks,os⟩).map (λs=>(openSeen q loose (importedModules p.main.body) Xt g0 s,Yf s))=some (openGood q loose,Ya w)):LeftO p q loose Xt Yf Ya N g0:=λw=>by
 obtain ⟨⟨O,gs,d,k,os⟩,e,U⟩:=Option.map_eq_some_iff.mp (J w)
 obtain ⟨rfl,rfl,rfl,rfl⟩:O=boot_heap w.params /\ gs=Array.mk [] /\ d=boot_drawn /\ k=boot_toks:=by simpa using U
 unfold openEnds
 rw [e]
 exact h w os
theorem left_two {q:Program}{Xt:Shared->Bool}{Yf:Shared->α}{Ya:World->α}{N:Nat}
  (J:∀ w:World,(fencedOpening treeTable p w N).map (λs=>(s.heap,s.gens,s.drawn,s.toks))=some (boot_heap w.params,Array.mk [],boot_drawn,boot_toks))
  (h1:∀ (w:World) (os:OsState),(topFrom treeTable p w N ⟨boot_heap w.params,Array.mk [],boot_drawn,boot_toks,os⟩).map (λs=>openSeen q loose (importedModules p.main.body) Xt g0 s)=some (openGood q loose))
  (h2:∀ (w:World) (os:OsState),(topFrom treeTable p w N ⟨boot_heap w.params,Array.mk [],boot_drawn,boot_toks,os⟩).map (λs=>Yf s)=some (Ya w)):LeftO p q loose Xt Yf Ya N g0 :=
 left_boot J λw os=>by
  have a:=h1 w os
  have b:=h2 w os
  generalize topFrom treeTable p w N ⟨boot_heap w.params,Array.mk [],boot_drawn,boot_toks,os⟩=r at a b
  cases r with
  | none=>cases a
  | some s=>exact congrArg some (Prod.ext (Option.some.inj a) (Option.some.inj b))
noncomputable def s0B (w:World)(os:OsState):Shared:=⟨boot_heap w.params,Array.mk [],boot_drawn,boot_toks,os⟩
noncomputable def ofLB:List Obj->Nat->BT->BT
 | [],_,t=>t
 | o::r,n,t=>ofLB r (n+1) (t.ins n o)
noncomputable def sTB (w:World)(os:OsState):SharedT:=⟨ofLB (boot_heap w.params).objs.toList 0 .nil,(boot_heap w.params).objs.size,(boot_heap w.params).life,Array.mk [],boot_drawn,boot_toks,os⟩
noncomputable def topRunQ (p:Program)(w:World)(n₀:Nat)(ann:Option Value):Nat->SharedT->Thread->Option SharedT
 | 0,_,_=>none
 | n+1,s,t=>match through t with
  | true=>some s
  | false=>match PySem.W.Fast.tw6613529449190102663 n₀ ann t with
   | false=>none
   | true=>match PySem.W.Fast.tw10156331382660048174 (PySem.W.Fast.tw11892475500146522536 PySem.W.Fast.tw14364793385576792824) p w s t with
    | some (s',t')=>topRunQ p w n₀ ann n s' t'
    | none=>none
theorem topRunQ_spec {p:Program}{w:World}{J:Nat}{O:Option Value}:∀ {n:Nat} {s s':SharedT} {t:Thread},topRunQ p w J O n s t=some s'->topRun treeTable p w J O n s.abs t=some s'.abs
 | 0,_,_,_,h=>by cases h
 | n+1,s,s',t,h=>by
  unfold topRunQ at h
  rw [<- PySem.W.Fast.te6613529449190102663,<- PySem.W.Fast.te10156331382660048174,<- PySem.W.Fast.te11892475500146522536,<- PySem.W.Fast.te14364793385576792824] at h
  unfold topRun
  cases he:through t with
  | true=>rw [he] at h;cases h;rfl
  | false=>
   rw [he] at h
   cases hk:stepOk J O t with
   | false=>rw [hk] at h;cases h
   | true=>
    rw [hk] at h
    cases hs:stepT (denote treeTable) p w s t with
    | none=>rw [hs] at h;cases h
    | some r=>obtain ⟨s₂,U⟩:=r;rw [hs] at h;rw [stepT_spec hs];exact topRunQ_spec h
set_option maxHeartbeats 0 in
theorem sTB_abs:∀ (w:World) (os:OsState),(sTB w os).abs=s0B w os:=by
 intro w os
 kernel_rfl
set_option maxHeartbeats 0 in
theorem s0B_ns:∀ (w:World) (os:OsState),((s0B w os).heap.isNs mainGlobals && (s0B w os).gens.size == 0)=true:=by
 intro w os
 kernel_rfl
noncomputable def topOkB (p:Program)(s₀ s₁:Shared):Bool:=staticsOk (importedModules p.main.body) s₀.heap s₁.heap && namesBound p s₁.heap && gensDone s₁ && laidKept s₀.heap s₁.heap
theorem via_tree {N:Nat}{F:Shared->α}{G:α}(w:World)(os:OsState)
  (h:(topRunQ p w (s0B w os).heap.objs.size ((s0B w os).heap.nsMap mainGlobals "__annotations__") N (sTB w os) (topStub p)).map (λs=>(topOkB p (s0B w os) s.abs,F s.abs))=some (true,G)):(topFrom treeTable p w N ⟨boot_heap w.params,Array.mk [],boot_drawn,boot_toks,os⟩).map F=some G:=by
 obtain ⟨s',U,O⟩:=Option.map_eq_some_iff.mp h
 have r:=topRunQ_spec U
 rw [sTB_abs] at r
 obtain ⟨J,Y⟩:=Prod.mk.inj O
 show (topFrom treeTable p w N (s0B w os)).map F=some G
 unfold topFrom
 rw [s0B_ns w os]
 dsimp only
 rw [r,Option.bind_some]
 unfold topOkB at J
 rw [J]
 exact congrArg some Y
noncomputable def vw (p:Program)(ix:List Nat):Program:={ p with main:={ p.main with body:=ix.filterMap λi=>p.main.body[i]? } }
noncomputable def Vw:Program:=vw PySem.Challenge.pw_sorthall_k68_whole_whatever_is_told [0,2,4,5,6,7,8,11,13,16,18,21,22,23,25,29,30,32,34,35,37,38,39,40,41,42,43,44,45,46,47,48,49,50,51]
set_option maxHeartbeats 0 in
theorem seen1:∀ (w:World) (os:OsState),(topFrom treeTable PySem.Challenge.pw_sorthall_k68_whole_whatever_is_told w 7646 ⟨boot_heap w.params,Array.mk [],boot_drawn,boot_toks,os⟩).map (λs=>openSeen L2.Vw (["stretch_from","filled","by_pile","in_rounds","by_pieces"]:List Str) (importedModules PySem.Challenge.pw_sorthall_k68_whole_whatever_is_told.main.body) (λs=>xlAt L2.Vw [] s && recOk (RowW.records (OpenRow.toRowW (OpenLaw.row PySem.Challenge.rw_sorthall_k68_whole_whatever_is_told))) s) true s)=some (openGood L2.Vw (["stretch_from","filled","by_pile","in_rounds","by_pieces"]:List Str)):=by
 intro w os
 refine via_tree w os ?_
 rw [PySem.W.Fast.te4187177175401517315]
 kernel_rfl
local macro_rules | `(tactic| o_law)=>`(tactic| refine holds_law (by decide +kernel) fun said=>?_)
set_option hygiene false in
local macro_rules | `(tactic| o_head $H)=>`(tactic| (refine holds_open (q:=L2.Vw) (loose:=(["stretch_from","filled","by_pile","in_rounds","by_pieces"]:List Str)) (Xt:=fun s=>xlAt L2.Vw [] s && recOk (RowW.records _) s) (XP:=XL L2.Vw []) (Yf:=Hook.obs $H) (Ya:=Hook.val $H) (YP:=Hook.says $H) (N:=7646) ?hl (Hook.of $H) (Hook.keeps $H) (fun s e=>xl_of s (Bool.and_eq_true_iff.mp e).1) XL.keeps (by rfl) (by rfl) (by rfl) (fun s e=>recFacts_of (Bool.and_eq_true_iff.mp e).2) (by rfl) (by first | assumption | decide +kernel) (by decide +kernel) ⟨rfl,rfl,rfl,rfl,rfl,by decide +kernel⟩ ?hw ?hc;(case hl=>(refine L2.left_two (PySem.W.boot_open (by rfl) (by decide) (fun s=>rfl)) (fun w os=>?h1) (fun w os=>?h2);(case h1=>exact L2.seen1 w os);(case h2=>(refine L2.via_tree w os ?_;kernel_rfl))))))
set_option maxHeartbeats 0 in
open_top hd0 for PySem.Challenge.rw_sorthall_k68_whole_whatever_is_told
end L2
namespace L2
open PySem PySem.Spec PyProof.Rows
variable {P:Program}{lo:Int}{ps:List Str}{body:List Stmt}{C a b dx it:Addr}{E Q:Value->Shared->Prop}{u:Value}{w:World}{i k t':Nat}{J:CmpOp}{ch fp:List Addr}{pins:List (Addr×Obj)}{K:W.Frag}{pl:Sem Bool}{qual x:Str}{us:List Value}{pos pos':Pos}{c e tg:Expr}{scope:Scope}{base h:Heap}{outer:List Env}{s:Shared}
noncomputable abbrev Key:=Sum Int Str
noncomputable def ZE6:Key->Value->Bool
 | .inl k,v=>Value.isInt k v
 | .inr x,v=>Value.isStrOf x v
noncomputable def keyH (w:World):Key->Int
 | .inl k=>hashInt k
 | .inr x=>hashStr w x
theorem ZAw:∀ {k:Key} {v:Value},ZE6 k v=true->(∃ i t,k=Sum.inl i /\ v=Value.int i t)∨(∃ x t,k=Sum.inr x /\ v=Value.str x t)
 | .inl i,v,h=>by
  obtain ⟨t,e⟩:=Value.isInt_shape (k:=i) (v:=v) h
  exact .inl ⟨i,t,rfl,e⟩
 | .inr x,v,h=>by
  obtain ⟨t,e⟩:=Value.isStrOf_shape (x:=x) (v:=v) h
  exact .inr ⟨x,t,rfl,e⟩
theorem keyIs_int (i:Int)(t:Tok):ZE6 (.inl i) (.int i t)=true:=by simp [ZE6,Value.isInt]
theorem keyIs_str (x:Str)(t:Tok):ZE6 (.inr x) (.str x t)=true:=by simp [ZE6,Value.isStrOf]
theorem key_ll (a b:Int):decide ((Sum.inl a:Key)=Sum.inl b)=(a == b):=by
 by_cases e:a=b
 .subst e;simp
 .have h:¬ (Sum.inl a:Key)=Sum.inl b:=λq=>e (Sum.inl.inj q)
  rw [decide_eq_false h]
  exact (beq_eq_false_iff_ne.mpr e).symm
theorem key_rr (a b:Str):decide ((Sum.inr a:Key)=Sum.inr b)=decide (a=b):=by
 by_cases e:a=b
 .subst e;simp
 .have h:¬ (Sum.inr a:Key)=Sum.inr b:=λq=>e (Sum.inr.inj q)
  rw [decide_eq_false h,decide_eq_false e]
theorem key_lr (a:Int)(b:Str):decide ((Sum.inl a:Key)=Sum.inr b)=false:=decide_eq_false (λq=>nomatch q)
theorem key_rl (a:Str)(b:Int):decide ((Sum.inr a:Key)=Sum.inl b)=false:=decide_eq_false (λq=>nomatch q)
noncomputable def ZAa (prog:Program)(w:World):PySem.KeyKind prog w Key where
 is:=ZE6
 hash:=keyH w
 inj:=λv a b ha hb=>by
  rcases ZAw ha with ⟨i,t,rfl,rfl⟩ | ⟨x,t,rfl,rfl⟩
  .rcases ZAw hb with ⟨j,u,rfl,e⟩ | ⟨y,u,rfl,e⟩
   .injection e with e1 _;rw [e1]
   .exact nomatch e
  .rcases ZAw hb with ⟨j,u,rfl,e⟩ | ⟨y,u,rfl,e⟩
   .exact nomatch e
   .injection e with e1 _;rw [e1]
 byValue:=λk v h=>by
  rcases ZAw h with ⟨i,t,rfl,rfl⟩ | ⟨x,t,rfl,rfl⟩ <;> rfl
 pyHash:=λhv h=>by
  rcases ZAw hv with ⟨i,t,rfl,rfl⟩ | ⟨x,t,rfl,rfl⟩
  .exact wpAny_pyHash_int h
  .exact wpAny_pyHash_str h
 eqBool:=λhu hv h=>by
  rcases ZAw hu with ⟨i,t,rfl,rfl⟩ | ⟨x,t,rfl,rfl⟩
  .rcases ZAw hv with ⟨j,u,rfl,rfl⟩ | ⟨y,u,rfl,rfl⟩
   .rw [key_ll] at h;exact wpAny_eqBool_int h
   .rw [key_lr] at h;exact SeqAt.EqAt.int_str i t y u _ _ _ _ h
  .rcases ZAw hv with ⟨j,u,rfl,rfl⟩ | ⟨y,u,rfl,rfl⟩
   .rw [key_rl] at h;exact SeqAt.EqAt.str_int x t j u _ _ _ _ h
   .rw [key_rr] at h;exact wpAny_eqBool_str h
 «strs»:=λk x t v h=>by
  rcases ZAw h with ⟨i,u,rfl,e⟩ | ⟨y,u,rfl,e⟩
  .exact nomatch e
  .injection e with e1 _
   subst e1
   cases v <;> rfl
theorem mixKind_int (prog:Program)(w:World)(i:Int)(t:Tok):(ZAa prog w).is (.inl i) (.int i t)=true:=keyIs_int i t
theorem mixKind_str (prog:Program)(w:World)(x:Str)(t:Tok):(ZAa prog w).is (.inr x) (.str x t)=true:=keyIs_str x t
inductive V where
 | non | bl (b:Bool) | int (i:Int) | str (x:Str) | byt (b:Array UInt8) | flt (b:UInt64) | ref (a:Addr) | ty (n:String)
 deriving DecidableEq
variable {v y:V}{vs:List V}
def RelV:V->Value->Prop
 | .non,u=>u=Value.none
 | .bl b,u=>u=Value.bool b
 | .int i,u=>∃ t,u=Value.int i t
 | .str x,u=>∃ t,u=Value.str x t
 | .byt b,u=>∃ t,u=Value.bytes b t
 | .flt b,u=>∃ t,u=Value.float b t
 | .ref a,u=>u=Value.ref a
 | .ty n,u=>u=Value.type n
noncomputable abbrev Vals:List V->List Value->Prop:=Paired RelV
theorem Vals.length {xs:List V}(r:Vals xs us):xs.length=us.length:=Paired.length r
theorem Vals.get:∀ {xs:List V} {us:List Value} {i:Nat} {x:V},Vals xs us->xs[i]?=some x->∃ u,us[i]?=some u /\ RelV x u
 | _,_,_,_,.nil,e=>by simp at e
 | _,_,0,_,.cons r _,e=>by simp at e;subst e;exact ⟨_,rfl,r⟩
 | _,_,i+1,x,.cons _ t,e=>by
  obtain ⟨u,h1,h2⟩:=Vals.get (i:=i) (x:=x) t (by simpa using e)
  exact ⟨u,by simpa using h1,h2⟩
theorem Vals.set {x:V}{u:Value}(r:RelV x u):∀ {xs:List V} {us:List Value} (i:Nat),Vals xs us->Vals (xs.set i x) (us.set i u)
 | _,_,_,.nil=>.nil
 | _,_,0,.cons _ t=>.cons r t
 | _,_,i+1,.cons q t=>.cons q (Vals.set r i t)
theorem Vals.append:∀ {xs ys:List V} {us ws:List Value},Vals xs us->Vals ys ws->Vals (xs++ys) (us++ws)
 | _,_,_,_,.nil,s=>s
 | _,_,_,_,.cons r t,s=>.cons r (Vals.append t s)
theorem Vals.take:∀ {xs:List V} {us:List Value} (n:Nat),Vals xs us->Vals (xs.take n) (us.take n)
 | _,_,0,_=>.nil
 | _,_,_+1,.nil=>.nil
 | _,_,n+1,.cons r t=>.cons r (Vals.take n t)
theorem Vals.drop:∀ {xs:List V} {us:List Value} (n:Nat),Vals xs us->Vals (xs.drop n) (us.drop n)
 | _,_,0,r=>r
 | _,_,_+1,.nil=>.nil
 | _,_,n+1,.cons _ t=>Vals.drop n t
def RelO:Option V->Option Value->Prop
 | some v,some u=>RelV v u
 | none,none=>True
 | _,_=>False
def KV {κ:Type}:List (κ×V)->List (κ×Value)->Prop:=Paired λ(p:κ×V) (q:κ×Value)=>p.1=q.1 /\ RelV p.2 q.2
noncomputable def kV:Key->V
 | .inl i=>.int i
 | .inr x=>.str x
inductive HO where
 | lst (xs:List V)
 | tup (xs:List V)
 | dK (kvs:List (Key×V)) | dT (kvs:List (List Key×V))
 | set (S:Int->Bool) (n:Nat)
 | ins (C dx:Addr) (fs:List (Str×V))
 | own (x:Addr)
 | xd (fs:List (Str×V))
 | met (f x:Addr)
 | rng (lo hi:Int)
 | frz (o:Obj) (u:HO)
 | tbl (ps:Array Value)
 | ext (φ:Heap->Prop)
variable {o:HO}
noncomputable abbrev Hp:=Addr->Option HO
variable {H:Hp}
noncomputable def upd (H:Hp)(a:Addr)(o:HO):Hp:=λb=>if b=a then some o else H b
theorem ZAE:upd H a o a=some o:=by unfold upd;rw [if_pos rfl]
theorem ZAJ (h:b≠a):upd H a o b=H b:=by unfold upd;rw [if_neg h]
theorem ZDO {u:HO}:upd (upd H a o) a u=upd H a u:=by
 funext b;unfold upd;split <;> rfl
theorem ne_of {u:HO}(h:H a=some o)(h':H b=some u)(d:o≠u):a≠b:=by
 intro e;subst e;rw [h] at h';exact d (Option.some.inj h')
theorem ZAD (h:H a=some o)(h':H b=none):a≠b:=by
 intro e;subst e;rw [h] at h';cases h'
section
variable (P:Program)(w:World)
def ObjOk (H:Hp)(h:Heap)(a:Addr):HO->Prop
 | .lst xs=>xs.length <= sizeLine /\ ∃ (its:List Value) (n:Nat),Vals xs its /\ h.get? a=some { cls:=.type "list",data:=.seq its.toArray n }
 | .tup xs=>xs.length <= sizeLine /\ ∃ its:List Value,Vals xs its /\ IsTup h a its.toArray
 | .dK kvs=>kvs.length <= sizeLine /\ (a == sysModules)=false /\ ∃ vs,KV kvs vs /\ h.DictOf (ZAa P w) a vs
 | .dT kvs=>kvs.length <= sizeLine /\ (a == sysModules)=false /\ ∃ xs:List (List Key×Addr×Value),
   Paired (λ(p:List Key×V) (q:List Key×Addr×Value)=>p.1=q.1 /\ H q.2.1=some (.tup (p.1.map kV)) /\ RelV p.2 q.2.2) kvs xs /\
   ∃ o es ep,h.get? a=some o /\ o.ExactDict /\ o.data=.dict es ep /\ es.toList=xs.map (entryOfKey (tupleKind (ZAa P w))) /\ (xs.map (·.1)).Nodup
 | .set S n=>h.SetOf (intKind P w) a S n
 | .ins C dx fs=>H dx=some (.own a) /\ fs.length <= 1000 /\ dx≠a /\ h.get? a=some (PySem.W.instObj C dx) /\
   ∃ mA,h.Ns1 dx mA /\ (∀ f,RelO (fs.lookup f) (mA f)) /\ PySem.Within mA (fs.map (·.1))
 | .own _=>∃ o,h.get? a=some o
 | .xd fs=>∃ mA,h.Ns1 a mA /\ ∀ f,RelO (fs.lookup f) (mA f)
 | .rng lo hi=>∃ t u v,h.get? a=some { cls:=.type "range",data:=.fields #[.int lo t,.int hi u,.int 1 v] }
 | .frz o u=>h.get? a=some o /\ ObjOk H h a u
 | .tbl ps=>h.get? a=some { cls:=.none,data:=.fields ps }
 | .met f x=>h.get? a=some (PySem.W.methodObj (.ref f) (.ref x))
 | .ext φ=>φ h /\ (∃ o,h.get? a=some o) /\ ∀ h1 h2:Heap,φ h1->(∀ o,h1.get? a=some o->h2.get? a=some o)->φ h2
def HOk (H:Hp)(h:Heap):Prop:=∀ a o,H a=some o->ObjOk P w H h a o
end
section
variable {H':Hp}{h':Heap}
theorem ObjOk.lt (x:ObjOk P w H h a o):a < h.objs.size:=by
 cases o with
 | lst xs=>obtain ⟨_,_,_,_,e⟩:=x;exact Heap.lt_size e
 | tup xs=>obtain ⟨_,_,_,p⟩:=x;exact p.lt
 | dK kvs=>obtain ⟨_,_,_,_,o,_,_,e,_⟩:=x;exact Heap.lt_size e
 | dT kvs=>obtain ⟨_,_,_,_,o,_,_,e,_⟩:=x;exact Heap.lt_size e
 | set S n=>obtain ⟨o,_,_,_,e,_⟩:=x;exact Heap.lt_size e
 | ins C dx fs=>obtain ⟨_,_,_,e,_⟩:=x;exact Heap.lt_size e
 | own y=>obtain ⟨_,e⟩:=x;exact Heap.lt_size e
 | xd fs=>obtain ⟨_,⟨_,_,_,e,_⟩,_⟩:=x;exact Heap.lt_size e
 | rng lo hi=>obtain ⟨_,_,_,e⟩:=x;exact Heap.lt_size e
 | frz ob u=>obtain ⟨e,_⟩:=x;exact Heap.lt_size e
 | tbl ps=>exact Heap.lt_size (show h.get? a=some _ from x)
 | met f y=>exact Heap.lt_size (show h.get? a=some _ from x)
 | ext φ=>obtain ⟨_,⟨_,e⟩,_⟩:=x;exact Heap.lt_size e
theorem Paired.mapP {α J:Type}{F G:α->J->Prop}:∀ {l₁:List α} {l₂:List J},Paired F l₁ l₂->(∀ a b,F a b->G a b)->Paired G l₁ l₂
 | _,_,.nil,_=>.nil
 | _,_,.cons r t,f=>.cons (f _ _ r) (Paired.mapP t f)
theorem ObjOk.stay (x:ObjOk P w H h a o)(k:∀ b u,(b=a∨H b=some (.own a))->h.get? b=some u->h'.get? b=some u)
  (Y:∀ b,H b=some (.own a)->H' b=some (.own a)) (ht:∀ b xs,H b=some (.tup xs)->H' b=some (.tup xs)):ObjOk P w H' h' a o:=by
 induction o with
 | lst xs=>obtain ⟨z,its,n,r,e⟩:=x;exact ⟨z,its,n,r,k _ _ (.inl rfl) e⟩
 | tup xs=>obtain ⟨z,its,r,J,e,c⟩:=x;exact ⟨z,its,r,J,k _ _ (.inl rfl) e,c⟩
 | dK kvs=>obtain ⟨z,y,vs,r,J,es,O,e,c⟩:=x;exact ⟨z,y,vs,r,J,es,O,k _ _ (.inl rfl) e,c⟩
 | dT kvs=>
  obtain ⟨z,y,xs,r,J,es,O,e,c⟩:=x
  exact ⟨z,y,xs,Paired.mapP r λp q z=>⟨z.1,ht _ _ z.2.1,z.2.2⟩,J,es,O,k _ _ (.inl rfl) e,c⟩
 | set S n=>obtain ⟨J,es,O,t,e,c⟩:=x;exact ⟨J,es,O,t,k _ _ (.inl rfl) e,c⟩
 | ins C dx fs=>
  obtain ⟨d,z,ne,e,mA,⟨od,es,O,U,c⟩,r⟩:=x
  exact ⟨Y _ d,z,ne,k _ _ (.inl rfl) e,mA,⟨od,es,O,k _ _ (.inr d) U,c⟩,r⟩
 | own y=>obtain ⟨J,e⟩:=x;exact ⟨J,k _ _ (.inl rfl) e⟩
 | xd fs=>obtain ⟨mA,⟨od,es,O,e,c⟩,r⟩:=x;exact ⟨mA,⟨od,es,O,k _ _ (.inl rfl) e,c⟩,r⟩
 | rng lo hi=>obtain ⟨t,u,v,e⟩:=x;exact ⟨t,u,v,k _ _ (.inl rfl) e⟩
 | frz J u ih=>obtain ⟨e,q⟩:=x;exact ⟨k _ _ (.inl rfl) e,ih q⟩
 | tbl ps=>
  have e:h.get? a=some { cls:=.none,data:=.fields ps }:=x
  show h'.get? a=some { cls:=.none,data:=.fields ps }
  exact k a _ (.inl rfl) e
 | met f y=>
  have e:h.get? a=some (PySem.W.methodObj (.ref f) (.ref y)):=x
  show h'.get? a=some (PySem.W.methodObj (.ref f) (.ref y))
  exact k a _ (.inl rfl) e
 | ext φ=>obtain ⟨p,⟨o,e⟩,st⟩:=x;exact ⟨st _ _ p λo q=>k _ _ (.inl rfl) q,⟨o,k _ _ (.inl rfl) e⟩,st⟩
theorem HOk.lt (x:HOk P w H h)(e:H a=some o):a < h.objs.size:=(x a o e).lt
theorem HOk.fresh (x:HOk P w H h)(e:h.objs.size <= a):H a=none:=by
 cases q:H a with
 | none=>rfl
 | some u=>exact absurd (yBC (x.lt q) e) (yBR _)
theorem HOk.kept (x:HOk P w H h)(k:∀ b u,h.get? b=some u->h'.get? b=some u):HOk P w H h':=λa o e=>
 (x a o e).stay (λb u _ q=>k b u q) (λ_ q=>q) λ_ _ q=>q
theorem HOk.laid (x:HOk P w H h)(k:∀ b u,h.get? b=some u->h'.get? b=some u)(J:h.objs.size <= a)(new:ObjOk P w (upd H a o) h' a o):HOk P w (upd H a o) h':=λb u e=>by
 have hn:=x.fresh J
 by_cases hb:b=a
 .subst hb;rw [ZAE] at e;cases e;exact new
 .rw [ZAJ hb] at e
  exact (x b u e).stay (λc v _ q=>k c v q) (λc q=>by rw [ZAJ (ZAD q hn)];exact q) λc xs q=>by rw [ZAJ (ZAD q hn)];exact q
end
def Rd (H:Hp)(a:Addr)(u:HO):Prop:=H a=some u∨∃ o,H a=some (.frz o u)
theorem Rd.ok {u:HO}(r:Rd H a u)(x:HOk P w H h):ObjOk P w H h a u:=by
 rcases r with r | ⟨o,r⟩
 .exact x a u r
 .obtain ⟨_,q⟩:=x a _ r
  exact q
def Mut:Option HO->Prop
 | some (.lst _)=>True
 | some (.dK _)=>True
 | some (.dT _)=>True
 | some (.set _ _)=>True
 | some (.ins _ _ _)=>True
 | some (.ext _)=>True
 | _=>False
section
variable {h':Heap}{x e:Addr}{o':HO}
theorem HOk.write (ok:HOk P w H h)(U:Mut (H x))(he:e=x∨H e=some (.own x))(k:∀ b u,b≠e->h.get? b=some u->h'.get? b=some u)(Y:∃ u,h'.get? e=some u)
  (new:ObjOk P w (upd H x o') h' x o'):HOk P w (upd H x o') h':=λb u q=>by
 have J:∀ c y,H c=some (.own y)->c≠x:=λc y r z=>by subst z;rw [r] at U;exact U
 have O:∀ c xs,H c=some (.tup xs)->c≠x:=λc xs r z=>by subst z;rw [r] at U;exact U
 by_cases hb:b=x
 .subst hb;rw [ZAE] at q;cases q;exact new
 .rw [ZAJ hb] at q
  by_cases hbe:b=e
  .have q':H b=some (.own x):=by
    rcases he with z | z
    .exact absurd (hbe.trans z) hb
    .rw [hbe];exact z
   rw [q] at q';cases q'
   obtain ⟨v,hv⟩:=Y
   exact ⟨v,by rw [hbe];exact hv⟩
  .refine (ok b u q).stay (λc v hc r=>k c v ?_ r) (λc r=>by rw [ZAJ (J c b r)];exact r) λc xs r=>by rw [ZAJ (O c xs r)];exact r
   rcases hc with rfl | hc
   .exact hbe
   .rintro rfl
    rcases he with z | z
    .exact J c b hc z
    .rw [hc] at z;cases z;exact hb rfl
end
structure Un (fs ex:List Addr)(H H':Hp)(h h':Heap):Prop where
 keep:∀ b o,h.get? b=some o->H b=none->b∉fs->b∉ex->h'.get? b=some o
 slot:∀ b o,h.get? b=some o->H b=none->b∈fs->b∉ex->∃ sl,h'.get? b=some { o with slots:=sl }
 free:∀ b o,h.get? b=some o->H b=none->b∉ex->H' b=none
 there:∀ b o,h.get? b=some o->b∉ex->∃ o',h'.get? b=some o'
 tups:∀ b xs,H b=some (.tup xs)->H' b=some (.tup xs)
 frzs:∀ b o u,H b=some (.frz o u)->H' b=some (.frz o u)
 tbls:∀ b ps,H b=some (.tbl ps)->∃ more,H' b=some (.tbl (ps++more))
section
variable {fs fs' ex ex':List Addr}{H1 H2:Hp}{h1 h2 h':Heap}{x e:Addr}
theorem Un.any (u:Un fs ex H H1 h h1){J:Obj}(q:h.get? b=some J)(n:H b=none)(O:b∉ex):∃ sl,h1.get? b=some { J with slots:=sl }:=by
 by_cases hb:b∈fs
 .exact u.slot b J q n hb O
 .exact ⟨J.slots,u.keep b J q n hb O⟩
theorem Un.kept (k:∀ b u,h.get? b=some u->h'.get? b=some u):Un fs ex H H h h' :=
 ⟨λb J q _ _ _=>k b J q,λb J q _ _ _=>⟨J.slots,k b J q⟩,λ_ _ _ n _=>n,λb J q _=>⟨J,k b J q⟩,λ_ _ q=>q,λ_ _ _ q=>q,λ_ ps q=>⟨#[],by rw [q];simp⟩⟩
theorem Un.refl:Un fs ex H H h h:=Un.kept λ_ _ q=>q
theorem Un.laid (k:∀ b u,h.get? b=some u->h'.get? b=some u)(J:h.objs.size <= a)(hn:H a=none):Un fs ex H (upd H a o) h h' where
 keep:=λb u q _ _ _=>k b u q
 slot:=λb u q _ _ _=>⟨u.slots,k b u q⟩
 free:=λb u q n _=>by rw [ZAJ (yAQ (yBC (Heap.lt_size q) J))];exact n
 there:=λb u q _=>⟨u,k b u q⟩
 tups:=λb xs q=>by rw [ZAJ (ZAD q hn)];exact q
 frzs:=λb u xs q=>by rw [ZAJ (ZAD q hn)];exact q
 tbls:=λb ps q=>⟨#[],by rw [ZAJ (ZAD q hn),q];simp⟩
theorem Un.write (J:Mut (H x))(he:e=x∨H e=some (.own x))(k:∀ b u,b≠e->h.get? b=some u->h'.get? b=some u)(O:∃ u,h'.get? e=some u):Un fs ex H (upd H x o) h h':=by
 have U:∀ b,H b=none->b≠x:=λb n z=>by subst z;rw [n] at J;exact J
 have Y:∀ b,H b=none->b≠e:=λb n z=>by
  subst z
  rcases he with r | r
  .exact U b n r
  .rw [n] at r;cases r
 have hm:∀ b u,H b=some u->¬ Mut (some u)->b≠x:=λb u q nm z=>by subst z;rw [q] at J;exact nm J
 refine ⟨λb u q n _ _=>k b u (Y b n) q,λb u q n _ _=>⟨u.slots,k b u (Y b n) q⟩,λb u q n _=>by rw [ZAJ (U b n)];exact n,λb u q _=>?_,
  λb xs q=>by rw [ZAJ (hm b _ q λz=>z)];exact q,λb u xs q=>by rw [ZAJ (hm b _ q λz=>z)];exact q,λb ps q=>⟨#[],by rw [ZAJ (hm b _ q λz=>z),q];simp⟩⟩
 by_cases hbe:b=e
 .subst hbe;exact O
 .exact ⟨u,k b u hbe q⟩
end
noncomputable def trk (h:Heap)(H:Hp):List Addr:=(List.range h.objs.size).filter λa=>(H a).isSome
noncomputable def hidT (h:Heap)(H:Hp):Heap:=PySem.W.hideAll h (trk h H)
theorem hidT_size (h:Heap)(H:Hp):(hidT h H).objs.size=h.objs.size:=PySem.W.hideAll_size _ _
theorem hidT_get {o:Obj}(e:h.get? b=some o)(n:H b=none):(hidT h H).get? b=some o :=
 PySem.W.hideAll_get _ e λhm=>by
  have q:(H b).isSome=true:=(yCN.mp hm).2
  rw [n] at q;simp at q
theorem of_hidT {o:Obj}(e:(hidT h H).get? b=some o):h.get? b=some o /\ H b=none:=by
 have J:h.get? b=some o:=PySem.W.of_hideAll (trk h H) e
 refine ⟨J,?_⟩
 cases q:H b with
 | none=>rfl
 | some x=>
  have hm:b∈trk h H:=yCN.mpr ⟨List.mem_range.mpr (Heap.lt_size J),by simp [q]⟩
  have z:(hidT h H).get? b=none:=PySem.W.hideAll_none (trk h H) hm
  rw [z] at e;cases e
structure Mod (K:W.Frag)(mg:Str->Option Value)(base:Heap):Prop where
 kin:K.In base
 glob:base.Ns mainGlobals mg
 blt:∃ mb,base.Ns builtinsNs mb /\ ∀ x:Str,x≠"__name__"->mb x=bootBuiltins x
 nolimit:base.NoLimit
structure Cx where
 prog:Program
 w:World
 K:W.Frag
 mg:Str->Option Value
 base:Heap
 A:Around
 N:List Str
 s₀:Shared
 H₀:Hp
 env:Env
 outer:List Env
 stack:List Env
 ex:List Addr
 fn:Str->Bool
 calm:Bool
 pn:List (Addr×Obj)
 xe:Value->Shared->Prop
variable {X:Cx}
noncomputable def frs (l:List Env):List Addr:=l.filterMap (·.frame)
noncomputable abbrev Cx.fs (X:Cx):List Addr:=frs X.outer
def Vis (sc:Scope)(x:Str):Prop:=sc.names.lookup x=some .local∨sc.names.lookup x=some .cell∨sc.names.lookup x=some .free
def Loc (sc:Scope)(x:Str):Prop:=sc.names.lookup x=some .local∨sc.names.lookup x=some .cell
def Look (env:Env)(h:Heap)(m:Str->Option Value)(x:Str)(u:Value):Prop :=
 (env.kindOf x=some .local /\ m x=some u)∨((env.kindOf x=some .cell∨env.kindOf x=some .free) /\ ∃ c,env.cells.lookup x=some c /\ h.IsCell c (some u))
structure Cx.Ok (X:Cx):Prop where
 mod:Mod X.K X.mg X.base
 kind:X.env.scope.kind=.function
 glob:X.env.globals=mainGlobals
 blt:X.env.builtins=builtinsNs
 above:X.s₀.heap.objs.size <= X.env.locals
 inj:∀ x y c,X.env.cells.lookup x=some c->X.env.cells.lookup y=some c->x=y
 has:∀ x,(X.env.kindOf x=some .cell∨X.env.kindOf x=some .free)->∃ c,X.env.cells.lookup x=some c
 cab:∀ x c,X.fn x=true->X.env.cells.lookup x=some c->X.s₀.heap.objs.size <= c
 hd:X.calm=true->X.A.handled=none
 frames:X.A.frames=some X.stack
 stk:X.stack=X.outer∨(X.stack=X.env::X.outer /\ X.env.frame=some X.env.locals)
 exf:∀ b∈X.ex,b≠X.env.locals /\ ∀ x c,X.env.cells.lookup x=some c->c≠b
 bs:∀ b o,X.base.get? b=some o->X.s₀.heap.get? b=some o /\ X.H₀ b=none
 bsz:X.base.objs.size <= X.s₀.heap.objs.size
 noex:∀ b o,X.base.get? b=some o->b∉X.ex
 exfs:∀ b∈X.ex,b∉X.fs
 funs:X.s₀.heap.FunFrames X.base X.outer
 frf:∀ b∈X.fs,X.H₀ b=none
structure Inv (X:Cx)(pins:List (Addr×Obj))(σ:List (Option V))(H:Hp)(s:Shared):Prop where
 ok:X.Ok
 os:s.os=X.s₀.os
 bare:AllBare s.gens
 base:Un X.fs X.ex X.H₀ H X.s₀.heap s.heap
 loc:∃ m,s.heap.Ns X.env.locals m /\ ∀ (i:Nat) (x:Str) (v:V),X.N[i]?=some x->σ[i]?=some (some v)->Vis X.env.scope x->∃ u,RelV v u /\ Look X.env s.heap m x u
 cell:∀ x c,X.env.cells.lookup x=some c->∃ v,s.heap.IsCell c v
 free:H X.env.locals=none
 freeC:∀ x c,X.env.cells.lookup x=some c->H c=none
 pin:∀ p∈X.pn++pins,s.heap.get? p.1=some p.2 /\ H p.1=none /\ p.1≠X.env.locals /\ p.1∉X.fs /\ ∀ v,p.2.data≠.cell v
 hok:HOk X.prog X.w H s.heap
 len:σ.length=X.N.length
section
variable {σ:List (Option V)}{H':Hp}{h':Heap}
theorem Cx.Ok.nofr (ok:X.Ok){o:Obj}(e:X.base.get? b=some o):b∉X.fs:=λJ=>by
 have:=(ok.funs.mem J).1
 rw [e] at this;cases this
theorem Inv.bs (I:Inv X pins σ H s):∀ b o,X.base.get? b=some o->s.heap.get? b=some o /\ H b=none:=λb o e=>
 ⟨I.base.keep b o (I.ok.bs b o e).1 (I.ok.bs b o e).2 (I.ok.nofr e) (I.ok.noex b o e),I.base.free b o (I.ok.bs b o e).1 (I.ok.bs b o e).2 (I.ok.noex b o e)⟩
theorem Inv.bk (I:Inv X pins σ H s):∀ b o,X.base.get? b=some o->s.heap.get? b=some o:=λb o e=>(I.bs b o e).1
theorem Inv.mod (I:Inv X pins σ H s):Mod X.K X.mg X.base:=I.ok.mod
theorem Inv.kIn (I:Inv X pins σ H s):X.K.In s.heap:=I.ok.mod.kin.keeps I.bk
theorem Inv.lt (I:Inv X pins σ H s):X.env.locals < s.heap.objs.size:=let ⟨_,hn,_⟩:=I.loc;hn.lt
theorem Inv.sz (I:Inv X pins σ H s):X.s₀.heap.objs.size <= s.heap.objs.size:=yAL I.ok.above (yCB I.lt)
theorem Inv.nofs (I:Inv X pins σ H s)(h:s.heap.objs.size <= a):a∉X.fs:=λO=>by
 obtain ⟨_,o,J,_⟩:=I.ok.funs.mem O
 exact absurd (yBC (Heap.lt_size J) (yAL I.sz h)) (yBR _)
theorem Inv.cne (I:Inv X pins σ H s):∀ x c,X.env.cells.lookup x=some c->c≠X.env.locals:=λx c e z=>by
 obtain ⟨v,o,U,Y⟩:=I.cell x c e
 obtain ⟨m,⟨o',es,ep,J,O,_⟩,_⟩:=I.loc
 rw [z,J] at U;cases U;rw [O] at Y;cases Y
theorem Inv.funs (I:Inv X pins σ H s):s.heap.FunFrames X.base X.outer:=by
 have all:∀ (l:List Env),(∀ b∈frs l,b∈X.fs)->X.s₀.heap.FunFrames X.base l->s.heap.FunFrames X.base l:=by
  intro l
  induction l with
  | nil=>intro _ _;trivial
  | cons env r ih=>
   intro Y hl
   obtain ⟨hk,⟨L,o,J,hn,ho,hd⟩,hr⟩:=hl
   have O:L∈X.fs:=Y L (by unfold frs;rw [List.filterMap_cons,J];exact yAD)
   obtain ⟨sl,e⟩:=I.base.slot L o ho (I.ok.frf L O) O λz=>I.ok.exfs L z O
   exact ⟨hk,⟨L,_,J,hn,e,hd⟩,ih (λb U=>Y b (by unfold frs;rw [List.filterMap_cons,J];exact yAE _ U)) hr⟩
 exact all X.outer (λ_ U=>U) I.ok.funs
theorem Inv.stack (I:Inv X pins σ H s):s.heap.FunFrames X.base X.stack:=by
 rcases I.ok.stk with e | ⟨e,J⟩
 .rw [e];exact I.funs
 .rw [e]
  obtain ⟨m,hn,_⟩:=I.loc
  refine .cons (by rw [I.ok.kind];decide) J hn ?_ I.funs
  exact Heap.get?_none_of_le (yAL I.ok.bsz I.ok.above)
theorem Inv.stkSub (I:Inv X pins σ H s):∀ b∈frs X.stack,b∈X.env.locals::X.fs:=λb J=>by
 rcases I.ok.stk with e | ⟨e,O⟩
 .rw [e] at J;exact yAE _ J
 .rw [e] at J
  unfold frs at J
  rw [List.filterMap_cons,O] at J
  exact J
theorem Inv.stkFree (I:Inv X pins σ H s):∀ b∈frs X.stack,H b=none:=λb J=>by
 rcases yAI.mp (I.stkSub b J) with e | J
 .rw [e];exact I.free
 .obtain ⟨_,o,O,_⟩:=I.ok.funs.mem J
  exact I.base.free b o O (I.ok.frf b J) λz=>I.ok.exfs b z J
theorem Inv.step {g':Array GenState}{d':Drawn}(I:Inv X pins σ H s)
  (U:∀ b∈ch,(b∈X.ex∨X.s₀.heap.objs.size <= b) /\ b≠X.env.locals /\ (∀ x c,X.env.cells.lookup x=some c->c≠b) /\ ∀ p∈X.pn++pins,p.1≠b)
  (keep:∀ b o,b≠X.env.locals->b∉X.fs->b∉ch->s.heap.get? b=some o->H b=none->h'.get? b=some o)
  (slot:∀ b o,b≠X.env.locals->b∈X.fs->b∉ch->s.heap.get? b=some o->H b=none->∃ sl,h'.get? b=some { o with slots:=sl }) (free:∀ b o,b∉ch->s.heap.get? b=some o->H b=none->H' b=none)
  (there:∀ b o,b∉ch->s.heap.get? b=some o->∃ o',h'.get? b=some o')
  (tups:∀ b xs,H b=some (.tup xs)->H' b=some (.tup xs)) (frzs:∀ b o u,H b=some (.frz o u)->H' b=some (.frz o u)) (tbls:∀ b ps,H b=some (.tbl ps)->∃ more,H' b=some (.tbl (ps++more)))
  (ns:∀ m,s.heap.Ns X.env.locals m->h'.Ns X.env.locals m) (a3:HOk X.prog X.w H' h') (hg:AllBare g') :
  Inv X pins σ H' { s with heap:=h',gens:=g',drawn:=d',toks:=t' }:=by
 have a1:∀ b o,X.s₀.heap.get? b=some o->b≠X.env.locals:=λb o e=>yAQ (yBC (Heap.lt_size e) I.ok.above)
 have a0:∀ b o,X.s₀.heap.get? b=some o->b∉X.ex->b∉ch:=λb o e J hb=>by
  rcases (U b hb).1 with z | z
  .exact J z
  .exact absurd (yBC (Heap.lt_size e) z) (yBR _)
 have O:∀ x c,X.env.cells.lookup x=some c->∀ v,s.heap.IsCell c v->h'.IsCell c v:=λx c e v ⟨o,ho,hd⟩=>by
  have Y:c∉ch:=λz=>(U c z).2.2.1 x c e rfl
  by_cases hc:c∈X.fs
  .obtain ⟨sl,q⟩:=slot c o (I.cne x c e) hc Y ho (I.freeC x c e)
   exact ⟨_,q,hd⟩
  .exact ⟨o,keep c o (I.cne x c e) hc Y ho (I.freeC x c e),hd⟩
 refine ⟨I.ok,I.os,hg,⟨λb o e n hb J=>?_,λb o e n hb J=>?_,λb o e n J=>?_,λb o e J=>?_,λb xs e=>tups b xs (I.base.tups b xs e),λb o xs e=>frzs b o xs (I.base.frzs b o xs e),λb ps e=>?_⟩,?_,λx c e=>?_,?_,λx c e=>?_,λp hp=>?_,a3,I.len⟩
 .exact keep b o (a1 b o e) hb (a0 b o e J) (I.base.keep b o e n hb J) (I.base.free b o e n J)
 .obtain ⟨sl,e1⟩:=I.base.slot b o e n hb J
  obtain ⟨a2,e2⟩:=slot b _ (a1 b o e) hb (a0 b o e J) e1 (I.base.free b o e n J)
  exact ⟨a2,e2⟩
 .obtain ⟨o',e1⟩:=I.base.there b o e J
  exact free b o' (a0 b o e J) e1 (I.base.free b o e n J)
 .obtain ⟨o',e1⟩:=I.base.there b o e J
  exact there b o' (a0 b o e J) e1
 .obtain ⟨m1,e1⟩:=I.base.tbls b ps e
  obtain ⟨m2,e2⟩:=tbls b _ e1
  exact ⟨m1++m2,by rw [e2,Array.append_assoc]⟩
 .obtain ⟨m,hn,hl⟩:=I.loc
  refine ⟨m,ns m hn,λi x v e1 e2 e3=>?_⟩
  obtain ⟨u,r,l⟩:=hl i x v e1 e2 e3
  refine ⟨u,r,?_⟩
  rcases l with l | ⟨k,c,e,z⟩
  .exact .inl l
  .exact .inr ⟨k,c,e,O x c e _ z⟩
 .obtain ⟨v,z⟩:=I.cell x c e
  exact ⟨v,O x c e v z⟩
 .obtain ⟨m,⟨o,_,_,ho,_⟩,_⟩:=I.loc
  exact free _ o (λz=>(U _ z).2.1 rfl) ho I.free
 .obtain ⟨v,o,ho,hd⟩:=I.cell x c e
  exact free c o (λz=>(U c z).2.2.1 x c e rfl) ho (I.freeC x c e)
 .obtain ⟨e,n,ne,nf,d⟩:=I.pin p hp
  have Y:p.1∉ch:=λz=>(U p.1 z).2.2.2 p hp rfl
  exact ⟨keep p.1 p.2 ne nf Y e n,free p.1 p.2 Y e n,ne,nf,d⟩
theorem Inv.un (I:Inv X pins σ H s)(u:Un X.fs [] H H' s.heap h')(a0:HOk X.prog X.w H' h'):Inv X pins σ H' { s with heap:=h',toks:=t' }:=by
 obtain ⟨m,⟨o,es,ep,ho,r⟩,_⟩:=id I.loc
 obtain ⟨sl,hL⟩:=u.any ho I.free (by simp)
 exact I.step (g':=s.gens) (d':=s.drawn) (ch:=[]) (λ_ z=>nomatch z) (λb o _ Y _ e n=>u.keep b o e n Y (by simp)) (λb o _ Y _ e n=>u.slot b o e n Y (by simp)) (λb o _ e n=>u.free b o e n (by simp)) (λb o _ e=>u.there b o e (by simp)) u.tups u.frzs u.tbls (λm' hm=>by
  obtain ⟨o',O,U,J,r'⟩:=hm
  rw [ho] at J;cases J
  exact ⟨_,O,U,hL,r'⟩) a0 I.bare
theorem Inv.call {g':Array GenState}{d':Drawn}(I:Inv X pins σ H s)(u:Un (frs X.stack) ch H H' s.heap h')(a0:HOk X.prog X.w H' h')(hg:AllBare g')
  (J:∀ b∈ch,(b∈X.ex∨X.s₀.heap.objs.size <= b) /\ b≠X.env.locals /\ (∀ x c,X.env.cells.lookup x=some c->c≠b) /\ ∀ p∈X.pn++pins,p.1≠b) :
  Inv X pins σ H' { s with heap:=h',gens:=g',drawn:=d',toks:=t' }:=by
 obtain ⟨m,⟨o,es,ep,ho,r⟩,_⟩:=id I.loc
 obtain ⟨sl,hL⟩:=u.any ho I.free λz=>(J _ z).2.1 rfl
 exact I.step (ch:=ch) J (λb o hL hb hc e n=>u.keep b o e n (λz=>(yAI.mp (I.stkSub b z)).elim hL hb) hc) (λb o _ _ hc e n=>u.any e n hc) (λb o hc e n=>u.free b o e n hc) (λb o hc e=>u.there b o e hc) u.tups u.frzs u.tbls (λm' hm=>by
  obtain ⟨o',U,Y,O,r'⟩:=hm
  rw [ho] at O;cases O
  exact ⟨_,U,Y,hL,r'⟩) a0 hg
theorem Inv.turned (I:Inv X pins σ H s)(k:∀ b o,b≠it->s.heap.get? b=some o->h'.get? b=some o)(hn:H it=none)(O:it≠X.env.locals)
  (h1:it∈X.ex∨X.s₀.heap.objs.size <= it) (h2:∀ x c,X.env.cells.lookup x=some c->c≠it) (h3:∀ p∈X.pn++pins,p.1≠it):Inv X pins σ H { s with heap:=h',toks:=t' }:=by
 have J:∀ b u,H b=some u->b≠it:=λb u e z=>by rw [z,hn] at e;cases e
 refine I.step (g':=s.gens) (d':=s.drawn) (ch:=[it]) (λb hb=>?_) (λb o _ _ hc e _=>k b o (λz=>hc (by simp [z])) e) (λb o _ _ hc e _=>⟨o.slots,k b o (λz=>hc (by simp [z])) e⟩) (λ_ _ _ _ n=>n)
  (λb o hc e=>⟨o,k b o (λz=>hc (by simp [z])) e⟩) (λ_ _ e=>e) (λ_ _ _ e=>e) (λb ps e=>⟨#[],by rw [e];simp⟩) (λm hm=>?_) (λb u e=>?_) I.bare
 .have e:b=it:=by simpa using hb
  subst e
  exact ⟨h1,O,h2,h3⟩
 .obtain ⟨o,es,Y,U,r⟩:=hm
  exact ⟨o,es,Y,k _ o (Ne.symm O) U,r⟩
 .refine (I.hok b u e).stay (λc v hc q=>k c v ?_ q) (λ_ q=>q) λ_ _ q=>q
  rcases hc with z | z
  .rw [z];exact J b u e
  .exact J c _ z
theorem Inv.tok (I:Inv X pins σ H s)(t:Nat):Inv X pins σ H { s with toks:=t }:=I.un (h':=s.heap) (t':=t) Un.refl I.hok
theorem Inv.kept (I:Inv X pins σ H s)(k:∀ b u,s.heap.get? b=some u->h'.get? b=some u):Inv X pins σ H { s with heap:=h',toks:=t' }:=I.un (Un.kept k) (I.hok.kept k)
theorem Inv.laid (I:Inv X pins σ H s)(k:∀ b u,s.heap.get? b=some u->h'.get? b=some u)(J:s.heap.objs.size <= a)(new:ObjOk X.prog X.w (upd H a o) h' a o) :
  Inv X pins σ (upd H a o) { s with heap:=h',toks:=t' }:=I.un (Un.laid k J (I.hok.fresh J)) (I.hok.laid k J new)
theorem Inv.write {x e:Addr}(I:Inv X pins σ H s)(U:Mut (H x))(O:e=x∨H e=some (.own x))(k:∀ b u,b≠e->s.heap.get? b=some u->h'.get? b=some u)(J:∃ u,h'.get? e=some u)
  (new:ObjOk X.prog X.w (upd H x o) h' x o):Inv X pins σ (upd H x o) { s with heap:=h',toks:=t' }:=I.un (Un.write U O k J) (I.hok.write U O k J new)
theorem Inv.pins_of {J:List (Addr×Obj)}(I:Inv X pins σ H s)(h:∀ p∈J,s.heap.get? p.1=some p.2 /\ H p.1=none /\ p.1≠X.env.locals /\ p.1∉X.fs /\ ∀ v,p.2.data≠.cell v):Inv X J σ H s :=
 ⟨I.ok,I.os,I.bare,I.base,I.loc,I.cell,I.free,I.freeC,λp O=>(yAY.mp O).elim (λz=>I.pin p (yBS _ z)) (h p),I.hok,I.len⟩
theorem nodup_ix {N:List Str}(U:N.Nodup){j:Nat}(a:N[i]?=some x)(b:N[j]?=some x):i=j:=by
 obtain ⟨h1,O⟩:=yAO.mp a
 obtain ⟨h2,J⟩:=yAO.mp b
 exact (List.getElem_inj U).mp (O.trans J.symm)
theorem store_ok2 {M:Model}{A:Around}{Q:Unit->Shared->Prop}(I:Inv X pins σ H s)(hN:X.N.Nodup)(hi:X.N[i]?=some x)(Y:Loc X.env.scope x)(r:RelV v u)
  (h:∀ s',Inv X pins (σ.set i (some v)) H s'->(∃ a,Heap.SameBut a s.heap s'.heap /\ (a=X.env.locals∨X.env.cells.lookup x=some a))->Q () s') (hf:X.fn x=true∨X.env.scope.names.lookup x=some .local:=by first | exact .inl rfl | exact .inr rfl | assumption):wpAny M A (storeName X.env x u) Q E s:=by
 obtain ⟨m,hn,hl⟩:=id I.loc
 have a4:(X.env.scope.kind == .class || (X.env.scope.kind == .module && X.env.locals != X.env.globals))=false:=by rw [I.ok.kind];rfl
 have a1:i < σ.length:=by rw [I.len];exact (yAO.mp hi).1
 have cne:=I.cne
 have O:∀ {a:Addr} {h':Heap},(∃ o,s.heap.get? a=some o /\ H a=none)->Heap.SameBut a s.heap h'->HOk X.prog X.w H h':=fun {a h'} ha J b ob e=>by
  obtain ⟨_,_,a0⟩:=ha
  refine (I.hok b ob e).stay (λc w' hc q=>(J.2 c ?_).trans q) (λ_ q=>q) λ_ _ q=>q
  rintro rfl
  rcases hc with rfl | hc
  .rw [a0] at e;cases e
  .rw [a0] at hc;cases hc
 rcases Y with hk | hk
 .refine wpAny_storeName_local hk hn (λh' a7 J=>?_) a4
  obtain ⟨oL,_,_,a8,_⟩:=id hn
  refine h _ ⟨I.ok,I.os,I.bare,⟨λb o e n hb Y=>?_,λb o e n hb Y=>?_,I.base.free,λb o e Y=>?_,I.base.tups,I.base.frzs,I.base.tbls⟩,⟨_,a7,λj y v' U e2 e3=>?_⟩,λy c e=>?_,I.free,I.freeC,λp hp=>?_,O ⟨oL,a8,I.free⟩ J,by simpa using I.len⟩ ⟨_,J,.inl rfl⟩
  .exact (J.2 b (yAQ (yBC (Heap.lt_size e) I.ok.above))).trans (I.base.keep b o e n hb Y)
  .obtain ⟨sl,U⟩:=I.base.slot b o e n hb Y
   exact ⟨sl,(J.2 b (yAQ (yBC (Heap.lt_size e) I.ok.above))).trans U⟩
  .obtain ⟨o',U⟩:=I.base.there b o e Y
   exact ⟨o',(J.2 b (yAQ (yBC (Heap.lt_size e) I.ok.above))).trans U⟩
  .by_cases hj:j=i
   .subst hj
    rw [hi] at U;cases U
    rw [List.getElem?_set_self a1] at e2
    cases e2
    exact ⟨u,r,.inl ⟨hk,by simp⟩⟩
   .rw [List.getElem?_set_ne (Ne.symm hj)] at e2
    obtain ⟨u',r',q⟩:=hl j y v' U e2 e3
    refine ⟨u',r',?_⟩
    rcases q with ⟨k,e⟩ | ⟨k,c,e,z⟩
    .refine .inl ⟨k,?_⟩
     have:y≠x:=λe=>hj (nodup_ix hN U (e ▸ hi))
     simp [this,e]
    .exact .inr ⟨k,c,e,z.sameBut J (cne y c e)⟩
  .obtain ⟨w',z⟩:=I.cell y c e
   exact ⟨w',z.sameBut J (cne y c e)⟩
  .obtain ⟨e,n,ne,nf,d⟩:=I.pin p hp
   exact ⟨(J.2 p.1 ne).trans e,n,ne,nf,d⟩
 .have a2:X.fn x=true:=by
   rcases hf with z | z
   .exact z
   .rw [z] at hk;cases hk
  obtain ⟨c,hc⟩:=I.ok.has x (.inl hk)
  obtain ⟨w',z⟩:=I.cell x c hc
  refine wpAny_storeName_cell I.ok.kind hk hc z (λh' a6 J=>?_)
  obtain ⟨oc,a3,a5⟩:=id z
  refine h { s with heap:=h' } ⟨I.ok,I.os,I.bare,⟨λb o e n hb Y=>?_,λb o e n hb Y=>?_,I.base.free,λb o e Y=>?_,I.base.tups,I.base.frzs,I.base.tbls⟩,⟨m,hn.sameBut J (Ne.symm (cne x c hc)),λj y v' U e2 e3=>?_⟩,λy c' e=>?_,I.free,I.freeC,λp hp=>?_,O ⟨oc,a3,I.freeC x c hc⟩ J,by simpa using I.len⟩ ⟨c,J,.inr hc⟩
  .exact (J.2 b (yAQ (yBC (Heap.lt_size e) (I.ok.cab x c a2 hc)))).trans (I.base.keep b o e n hb Y)
  .obtain ⟨sl,U⟩:=I.base.slot b o e n hb Y
   exact ⟨sl,(J.2 b (yAQ (yBC (Heap.lt_size e) (I.ok.cab x c a2 hc)))).trans U⟩
  .obtain ⟨o',U⟩:=I.base.there b o e Y
   exact ⟨o',(J.2 b (yAQ (yBC (Heap.lt_size e) (I.ok.cab x c a2 hc)))).trans U⟩
  .by_cases hj:j=i
   .subst hj
    rw [hi] at U;cases U
    rw [List.getElem?_set_self a1] at e2
    cases e2
    exact ⟨u,r,.inr ⟨.inl hk,c,hc,a6⟩⟩
   .rw [List.getElem?_set_ne (Ne.symm hj)] at e2
    obtain ⟨u',r',q⟩:=hl j y v' U e2 e3
    refine ⟨u',r',?_⟩
    rcases q with q | ⟨k,c',e,z'⟩
    .exact .inl q
    .refine .inr ⟨k,c',e,z'.sameBut J ?_⟩
     rintro rfl
     exact hj (nodup_ix hN U (I.ok.inj _ _ _ e hc ▸ hi))
  .by_cases hcc:c'=c
   .subst hcc;exact ⟨_,a6⟩
   .obtain ⟨w2,z2⟩:=I.cell y c' e
    exact ⟨w2,z2.sameBut J hcc⟩
  .obtain ⟨e,n,ne,nf,d⟩:=I.pin p hp
   refine ⟨(J.2 p.1 ?_).trans e,n,ne,nf,d⟩
   intro q
   rw [q,a3] at e
   have q':oc=p.2:=Option.some.inj e
   exact d w' (by rw [<- q'];exact a5)
theorem ZCr {M:Model}{A:Around}{Q:Unit->Shared->Prop}(I:Inv X pins σ H s)(O:X.N.Nodup)(hi:X.N[i]?=some x)(J:Loc X.env.scope x)(r:RelV v u)
  (h:∀ s',Inv X pins (σ.set i (some v)) H s'->Q () s') (Y:X.fn x=true∨X.env.scope.names.lookup x=some .local:=by first | exact .inl rfl | exact .inr rfl | assumption):wpAny M A (storeName X.env x u) Q E s :=
 store_ok2 I O hi J r (λs' U _=>h s' U) Y
theorem Inv.call' {s':Shared}(I:Inv X pins σ H s)(U:s'.os=s.os)(u:Un (frs X.stack) ch H H' s.heap s'.heap)(J:HOk X.prog X.w H' s'.heap)(Y:AllBare s'.gens)
  (O:∀ b∈ch,(b∈X.ex∨X.s₀.heap.objs.size <= b) /\ b≠X.env.locals /\ (∀ x c,X.env.cells.lookup x=some c->c≠b) /\ ∀ p∈X.pn++pins,p.1≠b):Inv X pins σ H' s':=by
 obtain ⟨h',g',d',t',o'⟩:=s'
 have e:o'=s.os:=U
 subst e
 exact I.call (g':=g') (t':=t') (d':=d') u J Y O
end
noncomputable abbrev XK:=Value->Option Addr->Hp->Prop
noncomputable abbrev St:=List (Option V)
variable {σ:St}
noncomputable abbrev VK:=V->Hp->Prop
noncomputable abbrev TE:=St->Hp->VK->Prop
variable {te:TE}
noncomputable abbrev TT:=St->Hp->(Bool->Hp->Prop)->Prop
variable {tc:TT}
noncomputable abbrev TA:=St->Hp->(List V->Hp->Prop)->Prop
variable {ta:TA}
structure Ends where
 nx:St->Hp->Prop
 rt:VK
 bk:St->Hp->Prop:=λ_ _=>False
 ct:St->Hp->Prop:=λ_ _=>False
variable {D:Ends}
noncomputable abbrev TS:=Ends->St->Hp->Prop
variable {tb:TS}
def EP (X:Cx)(pins:List (Addr×Obj))(σ:St)(Q:VK)(u:Value)(s':Shared):Prop:=∃ v H',Inv X pins σ H' s' /\ RelV v u /\ Q v H'
def TP (X:Cx)(pins:List (Addr×Obj))(σ:St)(Q:Bool->Hp->Prop)(b:Bool)(s':Shared):Prop:=∃ H',Inv X pins σ H' s' /\ Q b H'
def AP (X:Cx)(pins:List (Addr×Obj))(σ:St)(Q:List V->Hp->Prop)(us:List Value)(s':Shared):Prop:=∃ vs H',Inv X pins σ H' s' /\ Vals vs us /\ Q vs H'
def SP (X:Cx)(pins:List (Addr×Obj))(D:Ends)(f:Flow)(s':Shared):Prop :=
 match f with
 | .next=>∃ σ' H',Inv X pins σ' H' s' /\ D.nx σ' H'
 | .brk=>∃ σ' H',Inv X pins σ' H' s' /\ D.bk σ' H'
 | .cont=>∃ σ' H',Inv X pins σ' H' s' /\ D.ct σ' H'
 | .ret u=>∃ v σ' H',Inv X pins σ' H' s' /\ RelV v u /\ D.rt v H'
def PE (X:Cx)(e:Expr)(t:TE):Prop :=
 ∀ (pins:List (Addr×Obj)) (s:Shared) (σ:St) (H:Hp) (Q:VK),Inv X pins σ H s->t σ H Q->wpAny (model X.prog X.w) X.A (eval e X.env) (EP X pins σ Q) X.xe s
def PT (X:Cx)(e:Expr)(t:TT):Prop :=
 ∀ (pins:List (Addr×Obj)) (s:Shared) (σ:St) (H:Hp) (Q:Bool->Hp->Prop),Inv X pins σ H s->t σ H Q->wpAny (model X.prog X.w) X.A (isTrue e X.env (eval e X.env)) (TP X pins σ Q) X.xe s
def PW (X:Cx)(e:Expr)(t:TT):Prop :=
 ∀ (whole:Sem Value) (pins:List (Addr×Obj)) (s:Shared) (σ:St) (H:Hp) (Q:Bool->Hp->Prop),Inv X pins σ H s->t σ H Q->wpAny (model X.prog X.w) X.A (isTrue e X.env whole) (TP X pins σ Q) X.xe s
theorem PW.pt {t:TT}(h:PW X e t):PT X e t:=h _
def PA (X:Cx)(es:List Expr)(t:TA):Prop :=
 ∀ (pos:Pos) (pins:List (Addr×Obj)) (s:Shared) (σ:St) (H:Hp) (Q:List V->Hp->Prop),Inv X pins σ H s->t σ H Q->wpAny (model X.prog X.w) X.A (spliced (backTo pos (starEach es X.env))) (AP X pins σ Q) X.xe s
def PS (X:Cx)(st:Stmt)(t:TS):Prop :=
 ∀ (pins:List (Addr×Obj)) (s:Shared) (σ:St) (H:Hp) (D:Ends),Inv X pins σ H s->t D σ H->wpAny (model X.prog X.w) X.A (exec st X.env) (SP X pins D) X.xe s
def PSs (X:Cx)(st:List Stmt)(t:TS):Prop :=
 ∀ (pins:List (Addr×Obj)) (s:Shared) (σ:St) (H:Hp) (D:Ends),Inv X pins σ H s->t D σ H->wpAny (model X.prog X.w) X.A (execs st X.env) (SP X pins D) X.xe s
theorem thn {α:Type}{t:Sem α}{Q Q':α->Shared->Prop}{M:Model}{A:Around}(h:wpAny M A t Q E s)(J:∀ a s,Q a s->Q' a s):wpAny M A t Q' E s:=wpAny_mono h J λ_ _ x=>x
section
def atV (P:V->Prop):St->Nat->Prop
 | a::_,0=>match a with
  | some v=>P v
  | none=>False
 | _::σ,i+1=>atV P σ i
 | [],_=>False
theorem atV_ex {P:V->Prop}:∀ {σ:St} {i:Nat},atV P σ i->∃ v,σ[i]?=some (some v) /\ P v:=by
 intro σ
 induction σ with
 | nil=>intro i h;cases i <;> exact h.elim
 | cons a σ ih=>
  intro i h
  cases i with
  | zero=>
   cases a with
   | none=>exact h.elim
   | some v=>exact ⟨v,rfl,h⟩
  | succ i=>exact ih h
theorem atV_of {P:V->Prop}:∀ {σ:St} {i:Nat},σ[i]?=some (some v)->P v->atV P σ i:=by
 intro σ
 induction σ with
 | nil=>intro i h;cases i <;> cases h
 | cons a σ ih=>
  intro i h q
  cases i with
  | zero=>cases h;exact q
  | succ i=>exact ih h q
def onI (x:V)(P:Int->Prop):Prop:=match x with
 | .int i=>P i
 | _=>False
theorem ZEs {x:V}{P:Int->Prop}(h:onI x P):∃ i,x=.int i /\ P i:=by
 cases x <;> first | exact ⟨_,rfl,h⟩ | exact h.elim
theorem onI2 {x:V}{P:Int->Int->Prop}(h:onI x λi=>onI y λj=>P i j):∃ i j,x=.int i /\ y=.int j /\ P i j:=by
 obtain ⟨i,e,h⟩:=ZEs h
 obtain ⟨j,J,h⟩:=ZEs h
 exact ⟨i,j,e,J,h⟩
def onB (x:V)(P:Bool->Prop):Prop:=match x with
 | .bl i=>P i
 | _=>False
theorem ZEt {x:V}{P:Bool->Prop}(h:onB x P):∃ i,x=.bl i /\ P i:=by
 cases x <;> first | exact ⟨_,rfl,h⟩ | exact h.elim
def tVar (i:Nat):TE:=λσ H Q=>atV (λv=>Q v H) σ i
def tC (v:V):TE:=λ_ H Q=>Q v H
theorem pe_var (hN:X.N[i]?=some x)(hv:Vis X.env.scope x)(Y:(x == ("__debug__":Str))=false:=by decide)(U:(x == ("__classdict__":Str))=false:=by decide):PE X (.Name x pos) (tVar i):=by
 intro pins s σ H Q I h
 obtain ⟨v,e,h⟩:=atV_ex h
 obtain ⟨m,hn,hl⟩:=I.loc
 obtain ⟨u,r,l⟩:=hl i x v hN e hv
 have fin:EP X pins σ Q u s:=⟨v,H,I,r,h⟩
 rcases l with ⟨O,hm⟩ | ⟨O,c,hc,J⟩
 .exact wpAny_Name (wpAny_loadName_local I.ok.kind O hn hm fin) Y
 .rcases O with O | O
  .exact wpAny_Name (wpAny_loadName_cell I.ok.kind O hc J fin) Y
  .exact wpAny_Name (wpAny_loadName_free I.ok.kind O hc J fin U) Y
theorem ZAF {i j pos}:PE X (.Constant (.int i) j pos) (tC (.int i)):=λ_ _ _ H _ I h=>wpAny_Constant_int ⟨.int i,H,I.tok _,⟨_,rfl⟩,h⟩
theorem ZEK {b j pos}:PE X (.Constant (.bool b) j pos) (tC (.bl b)):=λ_ _ _ H _ I h=>Constant_bool ⟨.bl b,H,I,rfl,h⟩
theorem ZA5 {j pos}:PE X (.Constant .none j pos) (tC .non):=λ_ _ _ H _ I h=>Constant_none ⟨.non,H,I,rfl,h⟩
theorem pe_str {x j pos}:PE X (.Constant (.str x) j pos) (tC (.str x)):=λ_ _ _ H _ I h=>Calls.Constant_str ⟨.str x,H,I.tok _,⟨_,rfl⟩,h⟩
def Gl (X:Cx)(x:Str):Prop:=X.env.kindOf x=some .globalImplicit
theorem ZEd (I:Inv X pins σ H s)(J:Gl X x)(hm:X.mg x=some u)(h:Q u s)
  (O:(x == ("__debug__":Str))=false:=by decide):wpAny (model X.prog X.w) X.A (eval (.Name x pos) X.env) Q E s :=
 Calls.Name_function_global I.ok.kind J (Calls.loadGlobal_global (by rw [I.ok.glob];exact I.mod.glob.keeps I.bk) hm h) O
theorem ZCw (I:Inv X pins σ H s)(J:Gl X x)(hm:X.mg x=none)(O:bootBuiltins x=some u)(h:Q u s)
  (hn:x≠"__name__":=by decide) (U:(x == ("__debug__":Str))=false:=by decide):wpAny (model X.prog X.w) X.A (eval (.Name x pos) X.env) Q E s:=by
 obtain ⟨Y,h1,h2⟩:=I.mod.blt
 exact Calls.Name_function_global I.ok.kind J (Calls.loadGlobal_builtin (by rw [I.ok.glob];exact I.mod.glob.keeps I.bk) hm (by rw [I.ok.blt];exact h1.keeps I.bk) ((h2 x hn).trans O) h) U
theorem pe_glob (J:Gl X x)(hm:X.mg x=some u)(r:RelV v u)(O:(x == ("__debug__":Str))=false:=by decide):PE X (.Name x pos) (tC v) :=
 λ_ _ _ H _ I h=>ZEd I J hm ⟨v,H,I,r,h⟩ O
theorem pe_bltn (J:Gl X x)(hm:X.mg x=none)(O:bootBuiltins x=some u)(r:RelV v u)(hn:x≠"__name__":=by decide)(U:(x == ("__debug__":Str))=false:=by decide):PE X (.Name x pos) (tC v) :=
 λ_ _ _ H _ I h=>ZCw I J hm O ⟨v,H,I,r,h⟩ hn U
variable {a b:Expr}{ta tb:TE}
def tB (t:TE):TT:=λσ H Q=>t σ H λx H1=>onB x λc=>Q c H1
theorem ZBP {t:TE}(h:PE X e t)(Y:∀ J,isTrue e X.env J=(do let v <- J;standAt e.pos;holding [v] (truthy v)):=by intro _;rfl):PT X e (tB t):=by
 intro pins s σ H Q I hw
 refine isTrue_plain (thn (h pins s σ H _ I hw) λv s1 zz=>?_) (Y _)
 obtain ⟨x,H1,O,r1,U⟩:=zz
 obtain ⟨d,rfl,q⟩:=ZEt U
 cases r1
 exact wpAny_truthy_bool ⟨H1,O,q⟩
variable {tA tB':TT}{rest:List Expr}
def tAnd (t u:TT):TT:=λσ H Q=>t σ H λc H1=>if c=true then u σ H1 Q else Q false H1
def tOr (t u:TT):TT:=λσ H Q=>t σ H λc H1=>if c=true then Q true H1 else u σ H1 Q
def tNot (t:TT):TT:=λσ H Q=>t σ H λc H1=>Q (!c) H1
theorem ZC7 (ha:PT X a tA):PW X (.BoolOp .And [a] pos) tA:=by
 intro J pins s σ H Q I h
 refine isTrue_and (thn (ha pins s σ H Q I h) λc s1 e=>?_)
 cases c with
 | true=>exact isTrue_and_nil e
 | false=>exact e
theorem ZDA (ha:PT X a tA):PW X (.BoolOp .Or [a] pos) tA:=by
 intro J pins s σ H Q I h
 refine isTrue_or (thn (ha pins s σ H Q I h) λc s1 e=>?_)
 cases c with
 | false=>exact isTrue_or_nil e
 | true=>exact e
theorem ZDV (ha:PT X a tA)(Y:PW X (.BoolOp .And (b::rest) pos) tB'):PW X (.BoolOp .And (a::b::rest) pos) (tAnd tA tB'):=by
 intro U pins s σ H Q I h
 refine isTrue_and (thn (ha pins s σ H _ I h) λc s1 ⟨H1,O,J⟩=>?_)
 cases c with
 | true=>exact Y U pins s1 σ H1 Q O J
 | false=>exact ⟨H1,O,J⟩
theorem ZD5 (ha:PT X a tA)(Y:PW X (.BoolOp .Or (b::rest) pos) tB'):PW X (.BoolOp .Or (a::b::rest) pos) (tOr tA tB'):=by
 intro U pins s σ H Q I h
 refine isTrue_or (thn (ha pins s σ H _ I h) λc s1 ⟨H1,O,J⟩=>?_)
 cases c with
 | true=>exact ⟨H1,O,J⟩
 | false=>exact Y U pins s1 σ H1 Q O J
theorem ZDp (ha:PT X a tA):PT X (.UnaryOp .Not a pos) (tNot tA):=by
 intro pins s σ H Q I h
 exact isTrue_not (ha pins s σ H (λc H1=>Q (!c) H1) I h)
def tAndV (ta tb:TE):TE:=λσ H Q=>ta σ H λx H1=>onB x λc=>if c=true then tb σ H1 Q else Q (.bl false) H1
def tOrV (ta tb:TE):TE:=λσ H Q=>ta σ H λx H1=>onB x λc=>if c=true then Q (.bl true) H1 else tb σ H1 Q
def tNotV (ta:TE):TE:=λσ H Q=>ta σ H λx H1=>onB x λc=>Q (.bl (!c)) H1
theorem ZFQ {op}{t:TE}(h:PE X a t):PE X (.BoolOp op [a] pos) t:=λpins s σ H Q I hw=>BoolOp_one (h pins s σ H Q I hw)
theorem ZEr (ha:PE X a ta)(Y:PE X (.BoolOp .And (b::rest) pos) tb):PE X (.BoolOp .And (a::b::rest) pos) (tAndV ta tb):=by
 intro pins s σ H Q I h
 refine BoolOp_and (thn (ha pins s σ H _ I h) λv s1 zz=>?_)
 obtain ⟨x,H1,O,U,J⟩:=zz
 obtain ⟨c,rfl,J⟩:=ZEt J
 cases U
 refine wpAny_truthy_bool ?_
 cases c with
 | true=>exact Y pins s1 σ H1 Q O J
 | false=>exact ⟨.bl false,H1,O,rfl,J⟩
theorem ZFR (ha:PE X a ta):PE X (.UnaryOp .Not a pos) (tNotV ta):=by
 intro pins s σ H Q I h
 refine UnaryOp_ (thn (ha pins s σ H _ I h) λv s1 zz=>?_)
 obtain ⟨x,H1,U,O,J⟩:=zz
 obtain ⟨c,rfl,J⟩:=ZEt J
 cases O
 exact not_of (wpAny_truthy_bool ⟨.bl (!c),H1,U,rfl,J⟩)
def tIf (t:TT)(ta tb:TE):TE:=λσ H Q=>t σ H λc H1=>if c=true then ta σ H1 Q else tb σ H1 Q
theorem ZAy (hc:PT X c tA)(ha:PE X a ta)(U:PE X b tb):PE X (.IfExp c a b pos) (tIf tA ta tb):=by
 intro pins s σ H Q I h
 refine wpAny_IfExp (thn (hc pins s σ H _ I h) λd s1 ⟨H1,O,J⟩=>?_)
 cases d with
 | true=>exact ha pins s1 σ H1 Q O J
 | false=>exact U pins s1 σ H1 Q O J
end
def SqL (K:W.Frag)(H:Hp)(a:Addr)(xs:List V):Prop :=
 Rd H a (.lst xs) ∨
  ∃ (o:Obj) (its:Array Value) (n:Nat),K.lookup a=some o /\ o.cls=.type "list" /\ o.dict=none /\ o.data=.seq its n /\ its.size <= sizeLine /\ Vals xs its.toList
def SqT (K:W.Frag)(H:Hp)(a:Addr)(xs:List V):Prop :=
 Rd H a (.tup xs) ∨
  ∃ (o:Obj) (its:Array Value) (n:Nat),K.lookup a=some o /\ o.cls=.type "tuple" /\ o.data=.seq its n /\ its.size <= sizeLine /\ Vals xs its.toList
noncomputable def absV:Value->Option V
 | .none=>some .non
 | .bool b=>some (.bl b)
 | .int i _=>some (.int i)
 | .str x _=>some (.str x)
 | .bytes b _=>some (.byt b)
 | .float b _=>some (.flt b)
 | .ref a=>some (.ref a)
 | .type n=>some (.ty n)
 | _=>none
theorem RelV.abs {x:V}(r:RelV x u):absV u=some x:=by
 cases x with
 | non=>cases r;rfl
 | bl _=>cases r;rfl
 | int _=>obtain ⟨t,rfl⟩:=r;rfl
 | str _=>obtain ⟨t,rfl⟩:=r;rfl
 | byt _=>obtain ⟨t,rfl⟩:=r;rfl
 | flt _=>obtain ⟨t,rfl⟩:=r;rfl
 | ref _=>cases r;rfl
 | ty _=>cases r;rfl
theorem RelV.inj {x:V}(r:RelV x u)(q:RelV y u):x=y:=Option.some.inj (r.abs.symm.trans q.abs)
theorem Vals.inj:∀ {xs ys:List V} {us:List Value},Vals xs us->Vals ys us->xs=ys
 | _,_,_,.nil,.nil=>rfl
 | _,_,_,.cons r t,.cons r' t'=>by rw [r.inj r',Vals.inj t t']
section
variable {xs ys:List V}
theorem SqL.of (h:H a=some (.lst xs)):SqL K H a xs:=.inl (.inl h)
theorem SqT.of (h:H a=some (.tup xs)):SqT K H a xs:=.inl (.inl h)
theorem Inv.list (I:Inv X pins σ H s)(h:SqL X.K H a xs):∃ its:List Value,Vals xs its /\ PlainL s.heap a its.toArray /\ xs.length <= sizeLine:=by
 rcases h with h | ⟨o,its,n,O,hc,U,J,Y,r⟩
 .obtain ⟨z,its,n,r,e⟩:=h.ok I.hok
  exact ⟨its,r,⟨_,n,e,rfl,rfl,rfl⟩,z⟩
 .refine ⟨its.toList,r,⟨o,n,I.kIn a o O,hc,U,by simpa using J⟩,?_⟩
  have e:=r.length
  simp only [yAR] at e
  omega
theorem Inv.tuple (I:Inv X pins σ H s)(h:SqT X.K H a xs):∃ its:List Value,Vals xs its /\ IsTup s.heap a its.toArray /\ xs.length <= sizeLine:=by
 rcases h with h | ⟨o,its,n,O,hc,J,U,r⟩
 .obtain ⟨z,its,r,p⟩:=h.ok I.hok
  exact ⟨its,r,p,z⟩
 .refine ⟨its.toList,r,⟨o,I.kIn a o O,hc,n,by simpa using J⟩,?_⟩
  have e:=r.length
  simp only [yAR] at e
  omega
theorem Inv.list_inj (I:Inv X pins σ H s)(h:SqL X.K H a xs)(h':SqL X.K H a ys):xs=ys:=by
 obtain ⟨its,r,⟨o,n,e,_,_,d⟩,_⟩:=I.list h
 obtain ⟨its',r',⟨o',O,J,_,_,d'⟩,_⟩:=I.list h'
 rw [e] at J;cases J
 rw [d] at d'
 injection d' with d1 _
 have:its=its':=by simpa using congrArg Array.toList d1
 subst this
 exact r.inj r'
end
noncomputable abbrev Cx.wish (X:Cx)(E:Value->Shared->Prop):Cx:={ X with xe:=E }
noncomputable abbrev Cx.nox (X:Cx):Cx:=X.wish λ_ _=>False
theorem Cx.Ok.wish (ok:X.Ok)(E:Value->Shared->Prop):(X.wish E).Ok :=
 ⟨ok.mod,ok.kind,ok.glob,ok.blt,ok.above,ok.inj,ok.has,ok.cab,ok.hd,ok.frames,ok.stk,ok.exf,ok.bs,ok.bsz,ok.noex,ok.exfs,ok.funs,ok.frf⟩
theorem Cx.Ok.unwish (ok:(X.wish E).Ok):X.Ok :=
 ⟨ok.mod,ok.kind,ok.glob,ok.blt,ok.above,ok.inj,ok.has,ok.cab,ok.hd,ok.frames,ok.stk,ok.exf,ok.bs,ok.bsz,ok.noex,ok.exfs,ok.funs,ok.frf⟩
section
theorem Inv.wish (I:Inv X pins σ H s)(E:Value->Shared->Prop):Inv (X.wish E) pins σ H s:=⟨I.ok.wish E,I.os,I.bare,I.base,I.loc,I.cell,I.free,I.freeC,I.pin,I.hok,I.len⟩
theorem Inv.unwish (I:Inv (X.wish E) pins σ H s):Inv X pins σ H s:=⟨I.ok.unwish,I.os,I.bare,I.base,I.loc,I.cell,I.free,I.freeC,I.pin,I.hok,I.len⟩
theorem SP.unwish {f:Flow}{s':Shared}(h:SP (X.wish E) pins D f s'):SP X pins D f s':=by
 cases f with
 | next=>obtain ⟨J,H',I,q⟩:=h;exact ⟨J,H',I.unwish,q⟩
 | brk=>obtain ⟨J,H',I,q⟩:=h;exact ⟨J,H',I.unwish,q⟩
 | cont=>obtain ⟨J,H',I,q⟩:=h;exact ⟨J,H',I.unwish,q⟩
 | ret u=>obtain ⟨v,J,H',I,r,q⟩:=h;exact ⟨v,J,H',I.unwish,r,q⟩
theorem PSs.nox {st:List Stmt}{t:TS}(h:PSs X.nox st t):PSs X st t:=λpins s σ H D I hw=>
 wpAny_mono (h pins s σ H D (I.wish _) hw) (λ_ _ q=>q.unwish) λ_ _ z=>False.elim z
end
section
variable {st:Stmt}{rest:List Stmt}{t u:TS}
def ZFv:TS:=λD σ H=>D.nx σ H
def tSeq (t u:TS):TS:=λD σ H=>t { D with nx:=u D } σ H
theorem ZAc:PSs X [] ZFv:=λ_ _ σ H _ I h=>wpAny_execs_nil ⟨σ,H,I,h⟩
theorem ZAB (h1:PS X st t)(h2:PSs X rest u):PSs X (st::rest) (tSeq t u):=by
 intro pins s σ H D I h
 refine wpAny_execs_cons (thn (h1 pins s σ H { D with nx:=u D } I h) λf s1 q=>?_)
 cases f with
 | next=>
  obtain ⟨J,H',O,q⟩:=q
  exact h2 pins s1 J H' D O q
 | ret v=>exact q
 | brk=>exact q
 | cont=>exact q
theorem ZAH (h1:PS X st t):PSs X [st] t:=by
 intro pins s σ H D I h
 refine wpAny_execs_cons (thn (h1 pins s σ H D I h) λf s1 q=>?_)
 cases f with
 | next=>exact wpAny_execs_nil q
 | ret v=>exact q
 | brk=>exact q
 | cont=>exact q
theorem ps_pass:PS X (.Pass pos) ZFv:=λ_ _ σ H _ I h=>wpAny_Pass ⟨σ,H,I,h⟩
theorem Inv.quiet (I:Inv X pins σ H s):interactive X.env=false:=by simp [interactive,I.ok.kind]
def tDrop (te:TE):TS:=λD σ H=>te σ H λ_ H1=>D.nx σ H1
theorem ZAh (O:PE X e te)(U:swapsWith e none pos.line X.env=pure false:=by rfl):PS X (.Expr e pos) (tDrop te):=by
 intro pins s σ H D I h
 exact wpAny_Expr_any (thn (O pins s σ H _ I h) λv s1 ⟨x,H1,Y,r1,J⟩=>⟨σ,H1,Y,J⟩) I.quiet U
def tRet (te:TE):TS:=λD σ H=>te σ H D.rt
theorem ZAQ (O:PE X e te):PS X (.Return (some e) pos) (tRet te):=by
 intro pins s σ H D I h
 exact wpAny_Return_some (thn (O pins s σ H _ I h) λv s1 ⟨x,H1,Y,U,J⟩=>⟨x,σ,H1,Y,U,J⟩)
def tRetN:TS:=λD _ H=>D.rt .non H
def tIfS (c:TT)(t u:TS):TS:=λD σ H=>c σ H λb H1=>if b=true then t D σ H1 else u D σ H1
theorem ZAx {a b:List Stmt}(hc:PT X c tc)(ha:PSs X a t)(U:PSs X b u):PS X (.If c a b pos) (tIfS tc t u):=by
 intro pins s σ H D I h
 refine wpAny_If (thn (hc pins s σ H _ I h) λd s1 ⟨H1,J,O⟩=>?_)
 cases d with
 | true=>exact ha pins s1 σ H1 D J O
 | false=>exact U pins s1 σ H1 D J O
def tNever:TS:=λ_ _ _=>False
theorem ps_never:PS X st tNever:=λ_ _ _ _ _ _ h=>h.elim
end
noncomputable abbrev TG:=V->St->Hp->(St->Hp->Prop)->Prop
variable {g:TG}
noncomputable abbrev TGs:=List V->St->Hp->(St->Hp->Prop)->Prop
def PG (X:Cx)(target:Expr)(t:TG):Prop :=
 ∀ (pins:List (Addr×Obj)) (s:Shared) (σ:St) (H:Hp) (v:V) (u:Value) (Q:St->Hp->Prop),Inv X pins σ H s->RelV v u->t v σ H Q ->
  wpAny (model X.prog X.w) X.A (assign target X.env u) (λ_ s'=>∃ σ' H',Inv X pins σ' H' s' /\ Q σ' H') X.xe s
def PGs (X:Cx)(ts:List Expr)(t:TGs):Prop :=
 ∀ (pins:List (Addr×Obj)) (s:Shared) (σ:St) (H:Hp) (vs:List V) (us:List Value) (Q:St->Hp->Prop),Inv X pins σ H s->Vals vs us->t vs σ H Q ->
  wpAny (model X.prog X.w) X.A (assignInOrder ((assignEach ts X.env).map (·.2)) us) (λ_ s'=>∃ σ' H',Inv X pins σ' H' s' /\ Q σ' H') X.xe s
noncomputable abbrev TSet:=V->V->V->Hp->(Hp->Prop)->Prop
def PSet (X:Cx)(t:TSet):Prop :=
 ∀ (pins:List (Addr×Obj)) (s:Shared) (σ:St) (H:Hp) (o i v:V) (ov iv u:Value) (Q:Hp->Prop),Inv X pins σ H s->RelV o ov->RelV i iv->RelV v u->t o i v H Q ->
  wpAny (model X.prog X.w) X.A (setItem ov iv u) (λ_ s'=>∃ H',Inv X pins σ H' s' /\ Q H') X.xe s
noncomputable abbrev TIp:=V->V->Hp->VK->Prop
def PIp (X:Cx)(op:Operator)(t:TIp):Prop :=
 ∀ (pins:List (Addr×Obj)) (s:Shared) (σ:St) (H:Hp) (x y:V) (v u:Value) (Q:VK),Inv X pins σ H s->RelV x v->RelV y u->t x y H Q ->
  wpAny (model X.prog X.w) X.A (inplaceOp op v u) (EP X pins σ Q) X.xe s
section
def ZEl (i:Nat):TG:=λv σ H Q=>Q (σ.set i (some v)) H
theorem ZAY (O:X.N.Nodup)(hi:X.N[i]?=some x)(J:Loc X.env.scope x)(Y:X.fn x=true∨X.env.scope.names.lookup x=some .local:=by first | exact .inl rfl | exact .inr rfl | assumption):PG X (.Name x pos) (ZEl i):=by
 intro pins s σ H v u Q I r h
 exact wpAny_assign_Name (ZCr I O hi J r (λs' U=>⟨_,H,U,h⟩) Y)
def gNil:TGs:=λvs σ H Q=>vs=[] /\ Q σ H
def ZF6 (t:TG)(u:TGs):TGs:=λvs σ H Q=>∃ v r,vs=v::r /\ t v σ H λσ' H'=>u r σ' H' Q
theorem ZEZ:PGs X [] gNil:=by
 intro pins s σ H vs us Q I r h
 obtain ⟨e,h⟩:=h
 subst e
 cases r
 exact assignInOrder_nil ⟨σ,H,I,h⟩
theorem ZBl {es:List Expr}{t:TG}{u:TGs}(h1:PG X e t)(h2:PGs X es u)
  (Y:(assignEach (e::es) X.env).map (·.2)=assign e X.env::(assignEach es X.env).map (·.2):=by rfl):PGs X (e::es) (ZF6 t u):=by
 intro pins s σ H vs us Q I r h
 obtain ⟨v,vr,e1,h⟩:=h
 subst e1
 cases r with
 | cons r rr=>
  rw [Y]
  refine assignInOrder_cons (thn (h1 pins s σ H _ _ _ I r h) λ_ s1 zz=>?_)
  obtain ⟨J,H1,O,U⟩:=zz
  exact h2 pins s1 J H1 _ _ Q O rr U
def gTup (K:W.Frag)(n:Nat)(t:TGs):TG:=λv σ H Q=>∃ a xs,v=.ref a /\ SqT K H a xs /\ xs.length=n /\ t xs σ H Q
theorem ZFO {es:List Expr}{t:TGs}{n:Nat}(hc:X.calm=true)(h:PGs X es t)
  (hn:(assignEach es X.env).length=n:=by rfl) (J:(assignEach es X.env).findIdx? (·.1)=none:=by rfl):PG X (.Tuple es k pos) (gTup X.K n t):=by
 intro pins s σ H v u Q I r hw
 obtain ⟨a,xs,e1,hq,hl,hw⟩:=hw
 subst e1
 cases r
 obtain ⟨its,O,ht,hz⟩:=I.tuple hq
 refine assign_Tuple_tuple (I.ok.hd hc) ht (by simp [hn,<- hl,O.length]) J λh' Y=>?_
 have U:Inv X pins σ H { s with heap:=h' }:=I.kept (t':=s.toks) λb o e=>Y b o (yAQ (Heap.lt_size e)) e
 exact h pins _ σ H xs _ Q U (by simpa using O) hw
def gSub (to ti:TE)(t:TSet):TG:=λv σ H Q=>to σ H λo H1=>ti σ H1 λi H2=>t o i v H2 λH3=>Q σ H3
theorem ZFP {o i:Expr}{to ti:TE}{t:TSet}(ho:PE X o to)(hi:PE X i ti)(hs:PSet X t)
  (ha:∀ v,assign (.Subscript o i pos) X.env v=(do
   let J <- holding [v] (eval o X.env)
   let O <- holding [v,J] (eval i X.env)
   standAt pos
   holding [v,J,O] (setItem J O v)
   release [v,J,O] []):=by intro _;rfl):PG X (.Subscript o i pos) (gSub to ti t):=by
 intro pins s σ H v u Q I r h
 rw [ha]
 refine wpAny_bind (wpAny_holding (thn (ho pins s σ H _ I h) λJ s1 zz=>?_))
 obtain ⟨x,H1,U,r1,q1⟩:=zz
 refine wpAny_bind (wpAny_holding (thn (hi pins s1 σ H1 _ U q1) λO s2 zz=>?_))
 obtain ⟨y,H2,I2,Y,q2⟩:=zz
 refine wpAny_bind (wpAny_standAt (wpAny_bind (wpAny_holding (thn (hs pins s2 σ H2 x y v J O u _ I2 r1 Y r q2) λ_ s3 ⟨H3,I3,q3⟩=>?_))))
 exact wpAny_release ⟨σ,H3,I3,q3⟩
def tAsg (te:TE)(g:TG):TS:=λD σ H=>te σ H λx H1=>g x σ H1 D.nx
theorem ZFN (Y:PE X e te)(J:PG X tg g)(hs:swapsWithSole [tg] e pos.line X.env=pure false:=by rfl)(hw:swappedStores [tg] e X.env=pure none:=by rfl)
  (h1:(assignEach [tg] X.env).map (·.2)=[assign tg X.env]:=by rfl):PS X (.Assign [tg] e pos) (tAsg te g):=by
 intro pins s σ H D I h
 refine wpAny_Assign_stores (thn (Y pins s σ H _ I h) λv s1 zz=>?_) hs hw
 obtain ⟨x,H1,O,r1,U⟩:=zz
 rw [h1]
 exact thn (J pins s1 σ H1 x v _ O r1 U) λ_ s2 q=>q
theorem ZAL (hN:X.N.Nodup)(hi:X.N[i]?=some x)(O:Loc X.env.scope x)(he:PE X e te)(hs:swapsWith e (some (.Name x pos')) pos.line X.env=pure false:=by rfl)(U:X.fn x=true∨X.env.scope.names.lookup x=some .local:=by first | exact .inl rfl | exact .inr rfl | assumption) :
  PS X (.Assign [.Name x pos'] e pos) (tAsg te (ZEl i)):=by
 intro pins s σ H D I h
 refine wpAny_Assign_Name (thn (he pins s σ H _ I h) λv s1 zz=>?_) hs
 obtain ⟨y,H1,J,r1,Y⟩:=zz
 exact ZCr J hN hi O r1 (λs2 I2=>⟨_,H1,I2,Y⟩) U
def tAug (i:Nat)(te:TE)(ti:TIp):TS:=λD σ H=>atV (λx=>te σ H λy H1=>ti x y H1 λz H2=>D.nx (σ.set i (some z)) H2) σ i
theorem ZEq {op:Operator}{ti:TIp}(hN:X.N.Nodup)(hi:X.N[i]?=some x)(hx:Loc X.env.scope x)(he:PE X e te)(ho:PIp X op ti)(hf:X.fn x=true∨X.env.scope.names.lookup x=some .local:=by first | exact .inl rfl | exact .inr rfl | assumption) :
  PS X (.AugAssign (.Name x pos') op e pos) (tAug i te ti):=by
 intro pins s σ H D I h
 obtain ⟨v,e1,h⟩:=atV_ex h
 obtain ⟨m,hn,hl⟩:=I.loc
 have Y:Vis X.env.scope x:=by rcases hx with k | k;exact .inl k;exact .inr (.inl k)
 obtain ⟨u,r,l⟩:=hl i x v hi e1 Y
 refine wpAny_AugAssign_Name ?_
 have go:wpAny (model X.prog X.w) X.A (eval e X.env) (λw s₂=>wpAny (model X.prog X.w) X.A (inplaceOp op u w) (λr U=>wpAny (model X.prog X.w) X.A (storeName X.env x r) (λ_=>SP X pins D .next) X.xe U) X.xe s₂) X.xe s:=by
  refine thn (he pins s σ H _ I h) λw s1 zz=>?_
  obtain ⟨y,H1,I1,r1,q1⟩:=zz
  refine thn (ho pins s1 σ H1 v y u w _ I1 r r1 q1) λz s2 zz=>?_
  obtain ⟨zv,H2,I2,r2,q2⟩:=zz
  exact ZCr I2 hN hi hx r2 (λs3 I3=>⟨_,H2,I3,q2⟩) hf
 rcases l with ⟨J,hm⟩ | ⟨J,c,hc,O⟩
 .exact wpAny_loadName_local I.ok.kind J hn hm go
 .rcases J with J | J
  .exact wpAny_loadName_cell I.ok.kind J hc O go
  .rcases hx with k | k
   .have:X.env.scope.names.lookup x=some .free:=J
    rw [k] at this;cases this
   .have:X.env.scope.names.lookup x=some .free:=J
    rw [k] at this;cases this
def ipI (f:Int->Int->Int):TIp:=λx y H Q=>onI x λi=>onI y λj=>Q (.int (f i j)) H
theorem ZEw:PIp X .Add (ipI λi j=>i+j):=by
 intro pins s σ H x y v u Q I U J h
 obtain ⟨i,j,Y,O,q⟩:=onI2 h
 subst Y;subst O
 obtain ⟨t,rfl⟩:=U
 obtain ⟨t',rfl⟩:=J
 exact iadd_int ⟨.int _,H,I.tok _,⟨_,rfl⟩,q⟩
end
section
def tWhile (c:TT)(tb:TS):TS:=λD σ H=>∃ W:Nat->St->Hp->Prop,(∃ m,W m σ H) /\ ∀ m σ H,W m σ H ->
 c σ H λb H1=>if b=true then ∃ N:St->Hp->Prop,(∀ σ' H',N σ' H'->∃ m',m' < m /\ W m' σ' H') /\ tb { D with nx:=N,ct:=N,bk:=D.nx } σ H1 else D.nx σ H1
theorem ZBY (hp:PassesOwn (model X.prog X.w) X.A X.env X.xe)(hc:PT X c tc)(hb:PSs X body tb):PS X (.While c body [] pos) (tWhile tc tb):=by
 intro pins s σ H D I h
 obtain ⟨W,⟨m0,w0⟩,turn⟩:=h
 refine wpAny_While (codeAny_whileLoop (λn s'=>∃ U H',Inv X pins U H' s' /\ W n U H') ?_ m0 ⟨σ,H,I,w0⟩)
 rintro n s1 ⟨O,H1,I1,w1⟩
 refine wpAny_passesOwn hp (thn (hc pins s1 O H1 _ I1 (turn n O H1 w1)) λb s2 ⟨H2,I2,Y⟩=>?_)
 cases b with
 | true=>
  obtain ⟨N,hN,Y⟩:=Y
  rw [if_pos rfl]
  refine wpAny_passesOwn hp (thn (hb pins s2 O H2 _ I2 Y) λf s3 q3=>?_)
  cases f with
  | next=>
   obtain ⟨J,H3,I3,n3⟩:=q3
   obtain ⟨m',hm,w3⟩:=hN J H3 n3
   exact ⟨m',hm,J,H3,I3,w3⟩
  | cont=>
   obtain ⟨J,H3,I3,n3⟩:=q3
   obtain ⟨m',hm,w3⟩:=hN J H3 n3
   exact ⟨m',hm,J,H3,I3,w3⟩
  | brk=>exact q3
  | ret v=>exact q3
 | false=>
  rw [if_neg yBH]
  exact wpAny_execs_nil ⟨O,H2,I2,Y⟩
end
structure It where
 go:Nat->Hp->Prop
 yld:Nat->Hp->V->Hp->Prop
 stop:Nat->Hp->Prop
def FpOk (X:Cx)(pins:List (Addr×Obj))(H:Hp)(b:Addr):Prop :=
 H b=none /\ b≠X.env.locals /\ b∉X.fs /\ (b∈X.ex∨X.s₀.heap.objs.size <= b) /\ (∀ x c,X.env.cells.lookup x=some c->c≠b) /\ ∀ p∈X.pn++pins,p.1≠b
theorem Inv.fpOk {H':Hp}(I:Inv X pins σ H s)(J:s.heap.objs.size <= b)(hn:H' b=none):FpOk X pins H' b:=by
 refine ⟨hn,Nat.ne_of_gt (yBC I.lt J),I.nofs J,.inr (yAL I.sz J),λx c e z=>?_,λp O z=>?_⟩
 .obtain ⟨v,q⟩:=I.cell x c e
  exact absurd (yBC q.lt (by rw [z];exact J)) (yBR _)
 .exact absurd (yBC (Heap.lt_size (I.pin p O).1) (by rw [z];exact J)) (yBR _)
structure Turn (P:Program)(w:World)(K:W.Frag)(tg:Expr)(J:It)(fp:List Addr)(it:Addr)(tn:Nat->Heap->Prop):Prop where
 mem:it∈fp
 obj:∀ i h,tn i h->∀ b∈fp,∃ o,h.get? b=some o /\ ∀ v,o.data≠.cell v
 keep:∀ i h h',tn i h->(∀ b∈fp,∀ o,h.get? b=some o->h'.get? b=some o)->tn i h'
 item:∀ (X:Cx),X.prog=P->X.w=w->X.K=K->X.calm=true->∀ (i:Nat) (pins:List (Addr×Obj)) (s:Shared) (σ:St) (H:Hp) (E:Value->Shared->Prop),Inv X pins σ H s->(∀ b∈fp,FpOk X pins H b)->tn i s.heap->J.go i H ->
  wpAny (model P w) X.A (pyNext (.ref it)) (λr s1=>∃ u,r=some u /\
   wpAny (model P w) X.A (letOwnedTupleGo tg (.ref it) u) (λ_ s2=>∃ x H',Inv X pins σ H' s2 /\ RelV x u /\ J.yld i H x H' /\ tn (i+1) s2.heap /\ ∀ b∈fp,H' b=none) E s1) E s
 done:∀ (X:Cx),X.prog=P->X.w=w->X.K=K->X.calm=true->∀ (i:Nat) (pins:List (Addr×Obj)) (s:Shared) (σ:St) (H:Hp) (E:Value->Shared->Prop),Inv X pins σ H s->(∀ b∈fp,FpOk X pins H b)->tn i s.heap->J.stop i H ->
  wpAny (model P w) X.A (pyNext (.ref it)) (λr s1=>r=none /\ Inv X pins σ H s1) E s
 self:∀ (A:Around) (i:Nat) (s:Shared) (Q:Value->Shared->Prop) (E:Value->Shared->Prop),tn i s.heap->Q (.ref it) s->wpAny (model P w) A (pyIter (.ref it)) Q E s
noncomputable abbrev TI:=St->Hp->(It->Hp->Prop)->Prop
def PIE (X:Cx)(pins:List (Addr×Obj))(σ:St)(tg:Expr)(R:It->Hp->Prop)(itv:Value)(s2:Shared):Prop :=
 ∃ (it:Addr) (fp:List Addr) (tn:Nat->Heap->Prop) (J:It) (H':Hp),itv=.ref it /\ Inv X pins σ H' s2 /\ Turn X.prog X.w X.K tg J fp it tn /\ tn 0 s2.heap /\ (∀ b∈fp,FpOk X pins H' b) /\ R J H'
def PI (X:Cx)(tg iter:Expr)(wi:TI):Prop :=
 ∀ (pins:List (Addr×Obj)) (s:Shared) (σ:St) (H:Hp) (R:It->Hp->Prop),Inv X pins σ H s->wi σ H R ->
  wpAny (model X.prog X.w) X.A (eval iter X.env) (λv s1=>wpAny (model X.prog X.w) X.A (pyIter v) (PIE X pins σ tg R) X.xe s1) X.xe s
theorem ZF5 {M:Model}{A:Around}{o:Obj}{n:String}{vs:Array Value}{Q:Unit->Shared->Prop}(O:s.heap.get? it=some o)(hc:o.cls=.type n)(U:o.data=.fields vs)
  (hn:["enumerate","zip","dict_itemiterator","dict_reverseitemiterator","odict_iterator","itertools.zip_longest","itertools.pairwise"].contains n=false) (J:Q () s):wpAny M A (letOwnedTupleGo tg (.ref it) u) Q E s:=by
 unfold letOwnedTupleGo
 cases tg <;> first
  | exact wpAny_pure J
  | (cases u <;> first
    | exact wpAny_pure J
    | (refine wpAny_bind (wpAny_load O ?_)
       rw [hc,U]
       show wpAny M A (if (["enumerate","zip","dict_itemiterator","dict_reverseitemiterator","odict_iterator","itertools.zip_longest","itertools.pairwise"].contains n && vs[0]? == some (rawInt _))=true then _ else _) Q E s
       rw [if_neg (by intro h;rw [hn,Bool.false_and] at h;cases h)]
       exact wpAny_pure J))
noncomputable def Itl (K:W.Frag)(a:Addr):It :=
 ⟨λi H=>∃ xs x,SqL K H a xs /\ xs[i]?=some x,λi H x H'=>H'=H /\ ∀ xs,SqL K H a xs->xs[i]?=some x,λi H=>∃ xs,SqL K H a xs /\ xs.length <= i⟩
noncomputable def Itr (lo:Int)(n:Nat):It:=⟨λi _=>i < n,λi H x H'=>H'=H /\ x=.int (lo+i),λi _=>n <= i⟩
theorem turn_list (a it:Addr):Turn P w K tg (Itl K a) [it] it (λi h=>h.IsListIter it a i) where
 mem:=by simp
 obj:=λi h st b J=>by
  have e:b=it:=by simpa using J
  subst e
  obtain ⟨o,e,c,d⟩:=st
  exact ⟨o,e,λv z=>by rw [d] at z;cases z⟩
 keep:=λi h h' st k=>st.at λo e=>k it (by simp) o e
 item:=by
  intro X hP hw hK hc i pins s σ H E I O st hg
  subst hP hw hK
  obtain ⟨xs,x,U,hx⟩:=hg
  obtain ⟨its,rv,p,hz⟩:=I.list U
  obtain ⟨u,hu,ru⟩:=rv.get hx
  obtain ⟨f0,f1,f2,f3,Y,f5⟩:=O it (by simp)
  refine wpAny_pyNext_list_item st p.isList (x:=u) (by simpa using hu) λh' st' sb=>?_
  have I1:Inv X pins σ H { s with heap:=h' }:=I.turned (t':=s.toks) (λb o J e=>(sb.2 b J).trans e) f0 f1 f3 Y f5
  obtain ⟨o,e,c,d⟩:=id st'
  exact ⟨u,rfl,ZF5 (s:={ s with heap:=h' }) e c d (by decide) ⟨x,H,I1,ru,⟨rfl,λys hy=>by rw [I.list_inj hy U];exact hx⟩,st',λb J=>(O b J).1⟩⟩
 done:=by
  intro X hP hw hK hc i pins s σ H E I O st hg
  subst hP hw hK
  obtain ⟨xs,U,hx⟩:=hg
  obtain ⟨its,rv,p,hz⟩:=I.list U
  obtain ⟨f0,f1,f2,f3,Y,f5⟩:=O it (by simp)
  have hl:=rv.length
  exact wpAny_pyNext_list_end (I.ok.hd hc) st p.isList (by simp;omega) λh' eb=>⟨rfl,I.turned (t':=s.toks) (λb o J e=>eb b o J e) f0 f1 f3 Y f5⟩
 self:=λ_ _ _ _ _ st h=>wpAny_pyIter_listiter st h
theorem turn_range (it:Addr)(lo:Int)(n:Nat):Turn P w K tg (Itr lo n) [it] it (λi h=>IsRangeIter h it (lo+(i:Nat) * 1) ((n:Int)-(i:Nat)) 1) where
 mem:=by simp
 obj:=λi h st b J=>by
  have e:b=it:=by simpa using J
  subst e
  exact ⟨_,st,λv z=>by
   have z':Data.fields _=Data.cell v:=z
   cases z'⟩
 keep:=λi h h' st k=>k it (by simp) _ st
 item:=by
  intro X hP hw hK hc i pins s σ H E I O st Y
  subst hP hw hK
  obtain ⟨f0,f1,f2,f3,U,f5⟩:=O it (by simp)
  have W:=Walks.range (prog:=X.prog) (w:=X.w) (I.ok.hd hc) it lo 1 n
  refine W.item i s _ _ Y st λv h' tk hv st' kk=>?_
  obtain ⟨t,rfl⟩:=hv
  have I1:Inv X pins σ H { s with heap:=h',toks:=tk }:=I.turned (λb o J e=>kk b o (by simpa using J) e) f0 f1 f3 U f5
  refine ⟨_,rfl,ZF5 (s:={ s with heap:=h',toks:=tk }) (n:="range_iterator") st' rfl rfl (by decide) ⟨.int (lo+i),H,I1,⟨t,?_⟩,⟨rfl,rfl⟩,st',λb J=>(O b J).1⟩⟩
  rw [Int.mul_one]
 done:=by
  intro X hP hw hK hc i pins s σ H E I O st Y
  subst hP hw hK
  obtain ⟨f0,f1,f2,f3,U,f5⟩:=O it (by simp)
  exact wpAny_pyNext_range_end (I.ok.hd hc) st (by have:n <= i:=Y;omega) λh' eb=>⟨rfl,I.turned (t':=s.toks) (λb o J e=>eb b o J e) f0 f1 f3 U f5⟩
 self:=λ_ _ _ _ _ st h=>wpAny_pyIter_rangeiter st h
section
def ZF3 (K:W.Frag)(tl:TE):TI:=λσ H R=>tl σ H λx H1=>∃ a,x=.ref a /\ (∃ xs,SqL K H1 a xs) /\ R (Itl K a) H1
theorem ZAq {l:Expr}{tl:TE}(hl:PE X l tl):PI X tg l (ZF3 X.K tl):=by
 intro pins s σ H R I h
 refine thn (hl pins s σ H _ I h) λv s1 zz=>?_
 obtain ⟨x,H1,J,Y,O⟩:=zz
 obtain ⟨a,e,⟨xs,U⟩,q⟩:=O
 subst e
 cases Y
 obtain ⟨its,rv,p,hz⟩:=J.list U
 refine wpAny_pyIter_list p.isList ?_
 refine ⟨s1.heap.objs.size,[s1.heap.objs.size],_,_,H1,rfl,J.kept (t':=s1.toks) λb o e=>Heap.get?_push_of_some _ e,turn_list a _,⟨_,Heap.get?_push_size _ rfl,rfl,rfl⟩,λb hb=>?_,q⟩
 have e:b=s1.heap.objs.size:=by simpa using hb
 subst e
 exact J.fpOk (yAB _) (J.hok.fresh (yAB _))
theorem range_it {R:It->Hp->Prop}{hi:Int}{t u v:Tok}{tk:Nat}(I:Inv X pins σ H s)(h1:-(2 ^ 62) <= lo)(h2:lo < 2 ^ 62)(h3:-(2 ^ 62) <= hi)(Y:hi < 2 ^ 62)
  (q:R (Itr lo (hi-lo).toNat) H):wpAny (model X.prog X.w) X.A (pyIter (.ref s.heap.objs.size)) (PIE X pins σ tg R) E { s with heap:=s.heap.push { cls:=.type "range",data:=.fields #[.int lo t,.int hi u,.int 1 v] },toks:=tk }:=by
 refine wpAny_pyIter_range (IsRange.new ..) (small_one h1 h2 h3 Y) ?_
 have J:Inv X pins σ H { s with heap:=s.heap.push { cls:=.type "range",data:=.fields #[.int lo t,.int hi u,.int 1 v] },toks:=tk }:=I.kept λb o e=>Heap.get?_push_of_some _ e
 refine ⟨(s.heap.push { cls:=.type "range",data:=.fields #[.int lo t,.int hi u,.int 1 v] }).objs.size,[(s.heap.push { cls:=.type "range",data:=.fields #[.int lo t,.int hi u,.int 1 v] }).objs.size],_,_,H,rfl,
  J.kept (t':=tk) λb o e=>Heap.get?_push_of_some _ e,turn_range _ lo (hi-lo).toNat,?_,λb U=>?_,q⟩
 .have e1:lo+((0:Nat):Int) * 1=lo:=by simp
  have O:(((hi-lo).toNat:Nat):Int)-((0:Nat):Int)=Builtin.Range.rangeSize lo hi 1:=by rw [rangeSize_one];split <;> omega
  show IsRangeIter _ _ (lo+((0:Nat):Int) * 1) ((((hi-lo).toNat:Nat):Int)-((0:Nat):Int)) 1
  rw [e1,O]
  exact Heap.get?_push_size _ rfl
 .have e:b=(s.heap.push { cls:=.type "range",data:=.fields #[.int lo t,.int hi u,.int 1 v] }).objs.size:=by simpa using U
  subst e
  exact J.fpOk (yAB _) (J.hok.fresh (yAB _))
def ZF2 (ta:TA):TI:=λσ H R=>ta σ H λvs H1=>∃ j:Int,vs=[.int j] /\ -(2 ^ 62) <= j /\ j < 2 ^ 62 /\ R (Itr 0 j.toNat) H1
def ZF1 (ta:TA):TI:=λσ H R=>ta σ H λvs H1=>∃ i j:Int,vs=[.int i,.int j] /\ (-(2 ^ 62) <= i /\ i < 2 ^ 62 /\ -(2 ^ 62) <= j /\ j < 2 ^ 62) /\ R (Itr i (j-i).toNat) H1
theorem ZBf {a:Expr}{p:Pos}(O:Gl X "range")(hm:X.mg "range"=none)(ha:PA X [a] ta)(Y:starEach [a] X.env=[(false,eval a X.env)]:=by rfl):PI X tg (.Call (.Name "range" p) [a] [] pos) (ZF2 ta):=by
 intro pins s σ H R I h
 refine Call_ (ZCw I O hm boot_range (PyProof.Rows.callWith_type1 (thn (ha pos pins s σ H _ I h) λus s1 zz=>?_) Y rfl))
 obtain ⟨vs,H1,U,r1,J⟩:=zz
 obtain ⟨j,e,J,q2,q⟩:=J
 subst e
 cases r1 with
 | cons r rr=>
  cases rr
  obtain ⟨t,rfl⟩:=r
  exact call_range_1 (range_it U (by omega) (by omega) J q2 (by simpa using q))
theorem pi_range2 {a b:Expr}{p:Pos}(U:Gl X "range")(hm:X.mg "range"=none)(ha:PA X [a,b] ta)(hs:starEach [a,b] X.env=[(false,eval a X.env),(false,eval b X.env)]:=by rfl)(J:starEach [b] X.env=[(false,eval b X.env)]:=by rfl) :
  PI X tg (.Call (.Name "range" p) [a,b] [] pos) (ZF1 ta):=by
 intro pins s σ H R I h
 refine Call_ (ZCw I U hm boot_range (PyProof.Rows.callWith_type1 (thn (ha pos pins s σ H _ I h) λus s1 zz=>?_) (by rw [hs,J]) (by rw [J];rfl)))
 obtain ⟨vs,H1,Y,r1,O⟩:=zz
 obtain ⟨i,j,e,⟨O,q2,q3,q4⟩,q⟩:=O
 subst e
 cases r1 with
 | cons r rr=>
  cases rr with
  | cons r' rr=>
   cases rr
   obtain ⟨t,rfl⟩:=r
   obtain ⟨t',rfl⟩:=r'
   exact call_range_2 (range_it Y O q2 q3 q4 q)
def tFor (wi:TI)(g:TG)(tb:TS):TS:=λD σ H=>wi σ H λJ H1=>∃ W:Nat->Nat->St->Hp->Prop,(∃ m,W 0 m σ H1) /\ ∀ i m σ H,W i m σ H ->
 (J.stop i H /\ D.nx σ H)∨(J.go i H /\ ∃ N:St->Hp->Prop,(∀ σ' H',N σ' H'->∃ m',m' < m /\ W (i+1) m' σ' H') /\ ∀ x H',J.yld i H x H'->g x σ H' λσ2 H2=>tb { D with nx:=N,ct:=N,bk:=D.nx } σ2 H2)
noncomputable def ZEI (fp:List Addr)(h:Heap):List (Addr×Obj):=fp.filterMap λb=>(h.get? b).map λo=>(b,o)
theorem ZCN {o:Obj}(J:b∈fp)(e:h.get? b=some o):(b,o)∈ZEI fp h:=List.mem_filterMap.mpr ⟨b,J,by rw [e];rfl⟩
theorem of_pinsAt {p:Addr×Obj}(J:p∈ZEI fp h):p.1∈fp /\ h.get? p.1=some p.2:=by
 obtain ⟨b,U,e⟩:=List.mem_filterMap.mp J
 cases q:h.get? b with
 | none=>rw [q] at e;cases e
 | some o=>
  rw [q] at e
  have O:(b,o)=p:=Option.some.inj e
  subst O
  exact ⟨U,q⟩
theorem Inv.pinned (I:Inv X pins σ H s)(U:∀ b∈fp,FpOk X pins H b)(ho:∀ b∈fp,∃ o,s.heap.get? b=some o /\ ∀ v,o.data≠.cell v):Inv X (pins++ZEI fp s.heap) σ H s :=
 I.pins_of λp hp=>(yAY.mp hp).elim (λz=>I.pin p (yAW _ z)) λz=>by
  obtain ⟨O,e⟩:=of_pinsAt z
  obtain ⟨f0,f1,Y,_⟩:=U p.1 O
  obtain ⟨o,J,d⟩:=ho p.1 O
  rw [e] at J;cases J
  exact ⟨e,f0,f1,Y,d⟩
theorem Inv.unpinned {pl:List (Addr×Obj)}(I:Inv X (pins++pl) σ H s):Inv X pins σ H s:=I.pins_of λp J=>I.pin p (yAW _ (yBS _ J))
theorem ZBk {iter:Expr}{wi:TI}(hp:PassesOwn (model X.prog X.w) X.A X.env X.xe)(hc:X.calm=true)(hi:PI X tg iter wi)(hg:PG X tg g)(hb:PSs X body tb)
  (hs:∀ x,foldedSetIterable iter X.env x=pure x:=by intro _;rfl):PS X (.For tg iter body [] pos) (tFor wi g tb):=by
 intro pins s σ H D I h
 refine wpAny_For (thn (hi pins s σ H _ I h) λv s1 h1=>thn h1 λa8 s2 h2=>?_) hs
 obtain ⟨it,fp,tn,J,H2,e,I2,T,st2,f2,W,⟨m0,w0⟩,turn⟩:=h2
 subst e
 have a1:∀ {H':Hp},(∀ b∈fp,H' b=none)->∀ b∈fp,FpOk X pins H' b:=λhn b hb=>⟨hn b hb,(f2 b hb).2⟩
 refine codeAny_forLoop_any (λn s'=>∃ i a2 H',Inv X pins a2 H' s' /\ tn i s'.heap /\ (∀ b∈fp,H' b=none) /\ W i n a2 H') ?_ m0 ⟨0,σ,H2,I2,st2,λb hb=>(f2 b hb).1,w0⟩
 rintro n s3 ⟨i,a0,H3,I3,st3,a4,w3⟩
 rcases turn i n a0 H3 w3 with ⟨stop,qn⟩ | ⟨go,N,hN,step⟩
 .refine wpAny_passesOwn hp (thn (T.done X rfl rfl rfl hc i pins s3 a0 H3 X.xe I3 (a1 a4) st3 stop) λr s4 ⟨hr,I4⟩=>?_)
  subst hr
  exact wpAny_execs_nil ⟨a0,H3,I4,qn⟩
 .refine wpAny_passesOwn hp (thn (T.item X rfl rfl rfl hc i pins s3 a0 H3 X.xe I3 (a1 a4) st3 go) λr s4 ⟨u,hr,h4⟩=>?_)
  subst hr
  refine wpAny_passesOwn hp (thn h4 λ_ s5 zz=>?_)
  obtain ⟨x,H5,I5,r5,y5,a3,a5⟩:=zz
  have a7:=I5.pinned (a1 a5) (T.obj _ _ a3)
  refine wpAny_passesOwn hp (thn (hg _ s5 a0 H5 x u _ a7 r5 (step x H5 y5)) λ_ s6 zz=>?_)
  obtain ⟨a6,H6,I6,q6⟩:=zz
  refine wpAny_passesOwn hp (thn (hb _ s6 a6 H6 _ I6 q6) λf s7 q7=>?_)
  have Y:∀ {O:St} {U:Hp},Inv X (pins++ZEI fp s5.heap) O U s7->N O U->∃ m,m < n /\ ∃ i a2 H',Inv X pins a2 H' s7 /\ tn i s7.heap /\ (∀ b∈fp,H' b=none) /\ W i m a2 H':=fun {O U} I7 n7=>by
   obtain ⟨m',hm,w7⟩:=hN O U n7
   refine ⟨m',hm,i+1,O,U,I7.unpinned,T.keep _ _ _ a3 λb hb o e=>(I7.pin (b,o) (yAW _ (yAW _ (ZCN hb e)))).1,λb hb=>?_,w7⟩
   obtain ⟨o,e,d⟩:=T.obj _ _ a3 b hb
   exact (I7.pin (b,o) (yAW _ (yAW _ (ZCN hb e)))).2.1
  cases f with
  | next=>obtain ⟨O,U,I7,n7⟩:=q7;exact Y I7 n7
  | cont=>obtain ⟨O,U,I7,n7⟩:=q7;exact Y I7 n7
  | brk=>obtain ⟨O,U,I7,q7⟩:=q7;exact ⟨O,U,I7.unpinned,q7⟩
  | ret v=>obtain ⟨x7,O,U,I7,r7,q7⟩:=q7;exact ⟨x7,O,U,I7.unpinned,r7,q7⟩
end
theorem for_list {xs:List V}(J:Nat->St->Hp->Prop)(h0:J 0 σ H)(hl:∀ i σ H,i <= xs.length->J i σ H->SqL K H a xs)
  (hs:∀ i x σ H,xs[i]?=some x->J i σ H->g x σ H λU H2=>tb { D with nx:=J (i+1),ct:=J (i+1),bk:=D.nx } U H2) (hd:∀ σ H,J xs.length σ H->D.nx σ H) :
  ∃ W:Nat->Nat->St->Hp->Prop,(∃ m,W 0 m σ H) /\ ∀ i m σ H,W i m σ H ->
   ((Itl K a).stop i H /\ D.nx σ H)∨((Itl K a).go i H /\ ∃ N:St->Hp->Prop,(∀ O H',N O H'->∃ Y,Y < m /\ W (i+1) Y O H') /\ ∀ x H',(Itl K a).yld i H x H'->g x σ H' λU H2=>tb { D with nx:=N,ct:=N,bk:=D.nx } U H2):=by
 refine ⟨λi m σ H=>m=xs.length-i /\ i <= xs.length /\ J i σ H,⟨xs.length,by simp,yAJ _,h0⟩,?_⟩
 rintro i m σ H ⟨rfl,hi,p⟩
 have q:=hl i σ H hi p
 by_cases hlt:i < xs.length
 .refine .inr ⟨⟨xs,xs[i],q,by simp [hlt]⟩,J (i+1),λO H' p'=>⟨xs.length-(i+1),by omega,rfl,hlt,p'⟩,λx H' y=>?_⟩
  obtain ⟨e,y⟩:=y
  subst e
  exact hs i x σ _ (y xs q) p
 .have e:i=xs.length:=by omega
  subst e
  exact .inl ⟨⟨xs,q,yAB _⟩,hd σ H p⟩
theorem for_range {n:Nat}(U:Nat->St->Hp->Prop)(h0:U 0 σ H)
  (hs:∀ i σ H,i < n->U i σ H->g (.int (lo+i)) σ H λO H2=>tb { D with nx:=U (i+1),ct:=U (i+1),bk:=D.nx } O H2) (hd:∀ σ H,U n σ H->D.nx σ H) :
  ∃ W:Nat->Nat->St->Hp->Prop,(∃ m,W 0 m σ H) /\ ∀ i m σ H,W i m σ H ->
   ((Itr lo n).stop i H /\ D.nx σ H)∨((Itr lo n).go i H /\ ∃ N:St->Hp->Prop,(∀ J H',N J H'->∃ Y,Y < m /\ W (i+1) Y J H') /\ ∀ x H',(Itr lo n).yld i H x H'->g x σ H' λO H2=>tb { D with nx:=N,ct:=N,bk:=D.nx } O H2):=by
 refine ⟨λi m σ H=>m=n-i /\ i <= n /\ U i σ H,⟨n,by simp,yAJ _,h0⟩,?_⟩
 rintro i m σ H ⟨rfl,hi,p⟩
 by_cases hlt:i < n
 .refine .inr ⟨hlt,U (i+1),λJ H' p'=>⟨n-(i+1),by omega,rfl,hlt,p'⟩,λx H' y=>?_⟩
  obtain ⟨e,y⟩:=y
  subst e y
  exact hs i σ _ hlt p
 .have e:i=n:=by omega
  subst e
  exact .inl ⟨yAB _,hd σ H p⟩
noncomputable abbrev R2:=V->V->Hp->VK->Prop
variable {r:R2}
def OpR (X:Cx)(f:Value->Value->Sem Value)(r:R2):Prop :=
 ∀ (pins:List (Addr×Obj)) (s:Shared) (σ:St) (H:Hp) (x y:V) (v u:Value) (Q:VK),Inv X pins σ H s->RelV x v->RelV y u->r x y H Q ->
  wpAny (model X.prog X.w) X.A (f v u) (EP X pins σ Q) X.xe s
def UnR (X:Cx)(f:Value->Sem Value)(r:V->Hp->VK->Prop):Prop :=
 ∀ (pins:List (Addr×Obj)) (s:Shared) (σ:St) (H:Hp) (x:V) (v:Value) (Q:VK),Inv X pins σ H s->RelV x v->r x H Q ->
  wpAny (model X.prog X.w) X.A (f v) (EP X pins σ Q) X.xe s
def ZCE (X:Cx)(f:Value)(r:List V->Hp->VK->Prop):Prop :=
 ∀ (pins:List (Addr×Obj)) (s:Shared) (σ:St) (H:Hp) (xs:List V) (us:List Value) (Q:VK),Inv X pins σ H s->Vals xs us->r xs H Q ->
  wpAny (model X.prog X.w) X.A (call f us) (EP X pins σ Q) X.xe s
def tOp (r:R2)(ta tb:TE):TE:=λσ H Q=>ta σ H λx H1=>tb σ H1 λy H2=>r x y H2 Q
def tUn (r:V->Hp->VK->Prop)(ta:TE):TE:=λσ H Q=>ta σ H λx H1=>r x H1 Q
def rI (C:Int->Int->Prop)(g:Int->Int->V):R2:=λx y H Q=>onI x λi=>onI y λj=>C i j /\ Q (g i j) H
def rI0 (g:Int->Int->V):R2:=λx y H Q=>onI x λi=>onI y λj=>Q (g i j) H
def rU (g:Int->V):V->Hp->VK->Prop:=λx H Q=>onI x λi=>Q (g i) H
section
variable {a b:Expr}{ta tb tc:TE}
theorem binT (ha:PE X a ta)(hb:PE X b tb){R:V->V->Hp->Prop}(I:Inv X pins σ H s)
  (h:ta σ H λx H1=>tb σ H1 λy H2=>R x y H2) {f:Value->Value->Sem Value}
  (U:∀ v u s2 x y H2,Inv X pins σ H2 s2->RelV x v->RelV y u->R x y H2->wpAny (model X.prog X.w) X.A (f v u) Q X.xe s2) :
  wpAny (model X.prog X.w) X.A (eval a X.env) (λv s₁=>wpAny (model X.prog X.w) X.A (eval b X.env) (λu s₂=>wpAny (model X.prog X.w) X.A (f v u) Q X.xe s₂) X.xe s₁) X.xe s:=by
 refine thn (ha pins s σ H _ I h) λv s1 zz=>?_
 obtain ⟨x,H1,J,r1,Y⟩:=zz
 refine thn (hb pins s1 σ H1 _ J Y) λu s2 zz=>?_
 obtain ⟨y,H2,I2,O,q2⟩:=zz
 exact U v u s2 x y H2 I2 r1 O q2
theorem ZAN {J:Operator}(U:OpR X (binaryOp J) r)(ha:PE X a ta)(Y:PE X b tb):PE X (.BinOp a J b pos) (tOp r ta tb):=by
 intro pins s σ H Q I h
 exact wpAny_BinOp (binT ha Y I h λv u s2 x y H2 I2 rx O q=>U pins s2 σ H2 x y v u Q I2 rx O q)
theorem ZFy {J:UnaryOp}{r:V->Hp->VK->Prop}(U:UnR X (unaryOp J) r)(ha:PE X a ta):PE X (.UnaryOp J a pos) (tUn r ta):=by
 intro pins s σ H Q I h
 exact UnaryOp_ (thn (ha pins s σ H _ I h) λv s1 ⟨x,H1,I1,Y,O⟩=>U pins s1 σ H1 x v Q I1 Y O)
theorem opI {f:Value->Value->Sem Value}{C:Int->Int->Prop}{g:Int->Int->Int}
  (J:∀ (i j:Int) (t u:Tok) (s:Shared) (Q:Value->Shared->Prop) (E:Value->Shared->Prop),C i j->Q (.int (g i j) s.toks) { s with toks:=s.toks+1 }->wpAny (model X.prog X.w) X.A (f (.int i t) (.int j u)) Q E s) :
  OpR X f (rI C λi j=>.int (g i j)):=by
 intro pins s σ H x y v u Q I U O h
 obtain ⟨i,j,rfl,rfl,hc,q⟩:=onI2 h
 obtain ⟨t,rfl⟩:=U
 obtain ⟨t',rfl⟩:=O
 exact J i j t t' s _ _ hc ⟨.int (g i j),H,I.tok _,⟨_,rfl⟩,q⟩
theorem opI0 {f:Value->Value->Sem Value}{g:Int->Int->Int}
  (J:∀ (i j:Int) (t u:Tok) (s:Shared) (Q:Value->Shared->Prop) (E:Value->Shared->Prop),Q (.int (g i j) s.toks) { s with toks:=s.toks+1 }->wpAny (model X.prog X.w) X.A (f (.int i t) (.int j u)) Q E s) :
  OpR X f (rI0 λi j=>.int (g i j)):=by
 intro pins s σ H x y v u Q I U O h
 obtain ⟨i,j,rfl,rfl,q⟩:=onI2 h
 obtain ⟨t,rfl⟩:=U
 obtain ⟨t',rfl⟩:=O
 exact J i j t t' s _ _ ⟨.int (g i j),H,I.tok _,⟨_,rfl⟩,q⟩
theorem opB0 {f:Value->Value->Sem Value}{g:Int->Int->Bool}
  (J:∀ (i j:Int) (t u:Tok) (s:Shared) (Q:Value->Shared->Prop) (E:Value->Shared->Prop),Q (.bool (g i j)) s->wpAny (model X.prog X.w) X.A (f (.int i t) (.int j u)) Q E s) :
  OpR X f (rI0 λi j=>.bl (g i j)):=by
 intro pins s σ H x y v u Q I U O h
 obtain ⟨i,j,rfl,rfl,q⟩:=onI2 h
 obtain ⟨t,rfl⟩:=U
 obtain ⟨t',rfl⟩:=O
 exact J i j t t' s _ _ ⟨.bl (g i j),H,I,rfl,q⟩
def CDiv (i j:Int):Prop:=0 < j /\ j < 1073741824
def CPow (i j:Int):Prop:=0 <= j /\ j <= 1000000 /\ i.natAbs < 2 ^ 64
def CMul (i j:Int):Prop:=(-(2 ^ 64) < i /\ i < 2 ^ 64)∨(-(2 ^ 64) < j /\ j < 2 ^ 64)
theorem CMul.ok {i j:Int}(h:CMul i j):IntMulOk i j:=by
 rcases h with ⟨h1,h2⟩ | ⟨h1,h2⟩
 .exact .of_left (intBits_le_64 h1 h2)
 .exact .of_right (intBits_le_64 h1 h2)
theorem ZAe:OpR X (binaryOp .Add) (rI0 λi j=>.int (i+j)):=opI0 λ_ _ _ _ _ _ _ q=>add_int q
theorem ZAv:OpR X (binaryOp .Sub) (rI0 λi j=>.int (i-j)):=opI0 λ_ _ _ _ _ _ _ q=>sub_int q
theorem ZBg:OpR X (binaryOp .Mult) (rI CMul λi j=>.int (i * j)):=opI λ_ _ _ _ _ _ _ hc q=>mul_int q hc.ok
theorem ZAn:OpR X (binaryOp .FloorDiv) (rI CDiv λi j=>.int (i / j)):=opI λi j _ _ _ _ _ hc q=>by
 have h1:(0:Int) < j:=hc.1
 have h2:j < 1073741824:=hc.2
 exact floordiv_int (by omega) (by rw [Int.fdiv_eq_ediv_of_nonneg i (by omega)];exact q) (.inl (PyProof.noPylong_small (by omega)))
theorem ZAt:OpR X (binaryOp .Mod) (rI (λ_ j=>0 < j) λi j=>.int (i % j)):=opI λi j _ _ _ _ _ hc q=>by
 have h1:(0:Int) < j:=hc
 exact mod_int' (by omega) (by rw [Int.fmod_eq_emod_of_nonneg i (by omega)];exact q)
theorem op_pow:OpR X (binaryOp .Pow) (rI CPow λi j=>.int (i ^ j.toNat)):=opI λ_ _ _ _ _ _ _ hc q=>pow_int_small hc.1 hc.2.1 hc.2.2 q
theorem unI {f:Value->Sem Value}{g:Int->Int}
  (J:∀ (i:Int) (t:Tok) (s:Shared) (Q:Value->Shared->Prop) (E:Value->Shared->Prop),Q (.int (g i) s.toks) { s with toks:=s.toks+1 }->wpAny (model X.prog X.w) X.A (f (.int i t)) Q E s) :
  UnR X f (rU λi=>.int (g i)):=by
 intro pins s σ H x v Q I O h
 obtain ⟨i,rfl,q⟩:=ZEs h
 obtain ⟨t,rfl⟩:=O
 exact J i t s _ _ ⟨.int (g i),H,I.tok _,⟨_,rfl⟩,q⟩
theorem ZFC:UnR X (unaryOp .USub) (rU λi=>.int (-i)):=unI λ_ _ _ _ _ q=>neg_int q
end
noncomputable def scal:V->V->Bool
 | .non,.non=>true | .non,.int _=>true | .int _,.non=>true | .non,.bl _=>true | .bl _,.non=>true | .non,.str _=>true | .str _,.non=>true
 | .int _,.int _=>true | .bl _,.bl _=>true | .str _,.str _=>true | .byt _,.byt _=>true
 | .int _,.str _=>true | .str _,.int _=>true | .bl _,.str _=>true | .str _,.bl _=>true
 | _,_=>false
def rEq:R2:=λx y H Q=>match x,y with
 | .int i,.int j=>Q (.bl (decide (i=j))) H
 | .bl i,.bl j=>Q (.bl (decide (i=j))) H
 | .str i,.str j=>Q (.bl (decide (i=j))) H
 | x,y=>scal x y=true /\ Q (.bl (decide (x=y))) H
theorem rEq_old {x:V}{Q:VK}(h:rEq x y H Q):scal x y=true /\ Q (.bl (decide (x=y))) H:=by
 cases x <;> cases y <;> first | exact h | exact ⟨rfl,by simpa [rEq] using h⟩
def rNe:R2:=λx y H Q=>match x,y with
 | .int i,.int j=>Q (.bl (!decide (i=j))) H
 | .bl i,.bl j=>Q (.bl (!decide (i=j))) H
 | .str i,.str j=>Q (.bl (!decide (i=j))) H
 | x,y=>scal x y=true /\ Q (.bl (!decide (x=y))) H
theorem rNe_old {x:V}{Q:VK}(h:rNe x y H Q):scal x y=true /\ Q (.bl (!decide (x=y))) H:=by
 cases x <;> cases y <;> first | exact h | exact ⟨rfl,by simpa [rNe] using h⟩
theorem dec_int {i j:Int}:decide (V.int i=V.int j)=(i == j):=by
 rw [Bool.eq_iff_iff]
 simp
theorem dec_bl {i j:Bool}:decide (V.bl i=V.bl j)=(i == j):=by
 rw [Bool.eq_iff_iff]
 simp
theorem dec_str {i j:Str}:decide (V.str i=V.str j)=(i == j):=by
 rw [Bool.eq_iff_iff]
 simp
theorem dec_byt {i j:Array UInt8}:decide (V.byt i=V.byt j)=(i.toList == j.toList):=by
 rw [Bool.eq_iff_iff]
 cases i
 cases j
 simp
section
variable {a b:Expr}{ta tb tc:TE}
theorem ZAm {Q:VK}{k k':Bool}(I:Inv X pins σ H s)(q:Q (.bl k) H)(e:k=k'):EP X pins σ Q (.bool k') s:=by
 subst e
 exact ⟨.bl k,H,I,rfl,q⟩
theorem ZBv:OpR X (compareOp .Eq) rEq:=by
 intro pins s σ H x y v u Q I U J h
 obtain ⟨O,q⟩:=rEq_old h
 cases x with
 | non=>
  cases U
  cases y with
  | non=>cases J;exact PySem.EqNone.eq_none_none (ZAm I q (by simp))
  | bl j=>cases J;exact PySem.EqNone.eq_none_bool (ZAm I q (by simp))
  | int j=>obtain ⟨t',rfl⟩:=J;exact PySem.EqNone.eq_none_int (ZAm I q (by simp))
  | str j=>obtain ⟨t',rfl⟩:=J;exact PySem.EqNone.eq_none_str (ZAm I q (by simp))
  | _=>exact absurd (show false=true from O) yBH
 | bl i=>
  cases U
  cases y with
  | non=>cases J;exact PySem.EqNone.eq_bool_none (ZAm I q (by simp))
  | bl j=>cases J;exact eq_bool (ZAm I q dec_bl)
  | str j=>obtain ⟨t',rfl⟩:=J;exact PySem.EqMixed.eq_bool_str (ZAm I q (by simp))
  | _=>exact absurd (show false=true from O) yBH
 | int i=>
  obtain ⟨t,rfl⟩:=U
  cases y with
  | non=>cases J;exact PySem.EqNone.eq_int_none (ZAm I q (by simp))
  | int j=>obtain ⟨t',rfl⟩:=J;exact eq_int (ZAm I q dec_int)
  | str j=>obtain ⟨t',rfl⟩:=J;exact PySem.EqMixed.eq_int_str (ZAm I q (by simp))
  | _=>exact absurd (show false=true from O) yBH
 | str i=>
  obtain ⟨t,rfl⟩:=U
  cases y with
  | non=>cases J;exact PySem.EqNone.eq_str_none (ZAm I q (by simp))
  | bl j=>cases J;exact PySem.EqMixed.eq_str_bool (ZAm I q (by simp))
  | int j=>obtain ⟨t',rfl⟩:=J;exact PySem.EqMixed.eq_str_int (ZAm I q (by simp))
  | str j=>obtain ⟨t',rfl⟩:=J;exact eq_str (ZAm I q dec_str)
  | _=>exact absurd (show false=true from O) yBH
 | byt i=>
  obtain ⟨t,rfl⟩:=U
  cases y with
  | byt j=>obtain ⟨t',rfl⟩:=J;exact PySem.W.eq_bytes (ZAm I q dec_byt)
  | _=>exact absurd (show false=true from O) yBH
 | _=>cases y <;> exact absurd (show false=true from O) yBH
theorem ZFn:OpR X (compareOp .NotEq) rNe:=by
 intro pins s σ H x y v u Q I U J h
 obtain ⟨O,q⟩:=rNe_old h
 cases x with
 | non=>
  cases U
  cases y with
  | non=>cases J;exact PySem.EqNone.ne_none_none (ZAm I q (by simp))
  | bl j=>cases J;exact PySem.EqNone.ne_none_bool (ZAm I q (by simp))
  | int j=>obtain ⟨t',rfl⟩:=J;exact PySem.EqNone.ne_none_int (ZAm I q (by simp))
  | str j=>obtain ⟨t',rfl⟩:=J;exact PySem.EqNone.ne_none_str (ZAm I q (by simp))
  | _=>exact absurd (show false=true from O) yBH
 | bl i=>
  cases U
  cases y with
  | non=>cases J;exact PySem.EqNone.ne_bool_none (ZAm I q (by simp))
  | bl j=>cases J;exact ne_bool (ZAm I q (congrArg not dec_bl))
  | str j=>obtain ⟨t',rfl⟩:=J;exact PySem.EqMixed.ne_bool_str (ZAm I q (by simp))
  | _=>exact absurd (show false=true from O) yBH
 | int i=>
  obtain ⟨t,rfl⟩:=U
  cases y with
  | non=>cases J;exact PySem.EqNone.ne_int_none (ZAm I q (by simp))
  | int j=>obtain ⟨t',rfl⟩:=J;exact ne_int (ZAm I q (congrArg not dec_int))
  | str j=>obtain ⟨t',rfl⟩:=J;exact PySem.EqMixed.ne_int_str (ZAm I q (by simp))
  | _=>exact absurd (show false=true from O) yBH
 | str i=>
  obtain ⟨t,rfl⟩:=U
  cases y with
  | non=>cases J;exact PySem.EqNone.ne_str_none (ZAm I q (by simp))
  | bl j=>cases J;exact PySem.EqMixed.ne_str_bool (ZAm I q (by simp))
  | int j=>obtain ⟨t',rfl⟩:=J;exact PySem.EqMixed.ne_str_int (ZAm I q (by simp))
  | str j=>obtain ⟨t',rfl⟩:=J;exact ne_str (ZAm I q (congrArg not dec_str))
  | _=>exact absurd (show false=true from O) yBH
 | byt i=>
  obtain ⟨t,rfl⟩:=U
  cases y with
  | byt j=>obtain ⟨t',rfl⟩:=J;exact PySem.W.ne_bytes (ZAm I q (congrArg not dec_byt))
  | _=>exact absurd (show false=true from O) yBH
 | _=>cases y <;> exact absurd (show false=true from O) yBH
theorem ZDE:OpR X (compareOp .Lt) (rI0 λi j=>.bl (decide (i < j))):=opB0 λ_ _ _ _ _ _ _ q=>lt_int q
theorem op_le:OpR X (compareOp .LtE) (rI0 λi j=>.bl (decide (i <= j))):=opB0 λ_ _ _ _ _ _ _ q=>le_int q
theorem ZDk:OpR X (compareOp .Gt) (rI0 λi j=>.bl (decide (j < i))):=opB0 λ_ _ _ _ _ _ _ q=>gt_int q
theorem op_ge:OpR X (compareOp .GtE) (rI0 λi j=>.bl (decide (j <= i))):=opB0 λ_ _ _ _ _ _ _ q=>ge_int q
theorem ZCT:OpR X (compareOp .Is) (λx y H Q=>y=.non /\ Q (.bl (decide (x=.non))) H):=by
 intro pins s σ H x y v u Q I J O h
 obtain ⟨rfl,q⟩:=h
 cases O
 refine is_none_gen (ZAm I q ?_)
 cases x <;> first
  | (cases J;rfl)
  | (obtain ⟨t,rfl⟩:=J;rfl)
theorem ZD6:OpR X (compareOp .IsNot) (λx y H Q=>y=.non /\ Q (.bl (!decide (x=.non))) H):=by
 intro pins s σ H x y v u Q I J O h
 obtain ⟨rfl,q⟩:=h
 cases O
 refine isnot_none_gen (ZAm I q ?_)
 cases x <;> first
  | (cases J;rfl)
  | (obtain ⟨t,rfl⟩:=J;rfl)
theorem ZAU (b:Expr)(h:J≠.In:=by decide)(h2:J≠.NotIn:=by decide):behindInMarks J b=false:=by
 have U:(J == CmpOp.In)=false:=by cases J <;> first | rfl | exact absurd rfl h
 have O:(J == CmpOp.NotIn)=false:=by cases J <;> first | rfl | exact absurd rfl h2
 cases b <;> simp [behindInMarks,U,O]
theorem ZCi (U:OpR X (compareOp J) r)(ha:PE X a ta)(Y:PE X b tb)(hm:behindInMarks J b=false):PE X (.Compare a [J] [b] pos) (tOp r ta tb):=by
 intro pins s σ H Q I h
 exact wpAny_Compare1 (binT ha Y I h λv u s2 x y H2 I2 rx O q=>U pins s2 σ H2 x y v u Q I2 rx O q) hm
def tTest (t:TE):TT:=λσ H Q=>t σ H λx H'=>onB x λk=>Q k H'
theorem ZAO (ho:OpR X (compareOp J) r)(ha:PE X a ta)(hb:PE X b tb)(hm:behindInMarks J b=false):PT X (.Compare a [J] [b] pos) (tTest (tOp r ta tb)):=by
 intro pins s σ H Q I h
 refine wpAny_isTrue_Compare1 (thn (ha pins s σ H _ I h) λv s1 ⟨x,H1,U,r1,q1⟩=>thn (hb pins s1 σ H1 _ U q1) λu s2 ⟨y,H2,I2,Y,q2⟩=>
  thn (ho pins s2 σ H2 x y v u _ I2 r1 Y q2) λc s3 ⟨z,H3,I3,r3,O⟩=>?_) hm
 obtain ⟨k,e,q3⟩:=ZEt O
 subst e
 cases r3
 exact wpAny_truthy_bool ⟨H3,I3,q3⟩
def tChain (r r':R2)(ta tb tc:TE):TE:=λσ H Q=>ta σ H λx H1=>tb σ H1 λy H2=>r x y H2 λz H3=>onB z λk=>
 (if k=true then tc σ H3 λw' H4=>r' y w' H4 Q else Q (.bl false) H3)
theorem ZEu:(sizeLine:Nat) < 2 ^ 63:=by rw [sizeLine_eq];decide
theorem ZC0 {x:V}(r:Vals [x] us):∃ u,us=[u] /\ RelV x u:=by
 cases r with
 | cons r1 r2=>cases r2;exact ⟨_,rfl,r1⟩
theorem ZE0 {x:V}(r:Vals [x,y] us):∃ u w',us=[u,w'] /\ RelV x u /\ RelV y w':=by
 cases r with
 | cons r1 r2=>
  cases r2 with
  | cons r3 r4=>cases r4;exact ⟨_,_,rfl,r1,r3⟩
theorem ZDg (hc:X.calm=true):ZCE X (.builtin "max") (λxs H Q=>∃ i j,xs=[.int i,.int j] /\ Q (.int (if j > i then j else i)) H):=by
 intro pins s σ H xs us Q I r h
 obtain ⟨i,j,rfl,q⟩:=h
 obtain ⟨u,w',rfl,⟨t,rfl⟩,⟨t',rfl⟩⟩:=ZE0 r
 refine max_two_ints (I.ok.hd hc) λh' tk k=>⟨_,H,I.kept k,?_,q⟩
 by_cases hj:j > i
 .rw [if_pos hj,if_pos hj];exact ⟨_,rfl⟩
 .rw [if_neg hj,if_neg hj];exact ⟨_,rfl⟩
theorem ZCM (hc:X.calm=true):ZCE X (.builtin "min") (λxs H Q=>∃ i j,xs=[.int i,.int j] /\ Q (.int (if j < i then j else i)) H):=by
 intro pins s σ H xs us Q I r h
 obtain ⟨i,j,rfl,q⟩:=h
 obtain ⟨u,w',rfl,⟨t,rfl⟩,⟨t',rfl⟩⟩:=ZE0 r
 refine min_two_ints (I.ok.hd hc) λh' tk k=>⟨_,H,I.kept k,?_,q⟩
 by_cases hj:j < i
 .rw [if_pos hj,if_pos hj];exact ⟨_,rfl⟩
 .rw [if_neg hj,if_neg hj];exact ⟨_,rfl⟩
end
structure ObjM (h:Heap)(x dx C:Addr)(mA:Str->Option Value):Prop where
 obj:h.get? x=some (PySem.W.instObj C dx)
 ns:h.Ns1 dx mA
 ne:dx≠x
theorem lookIn_ns {mA:Str->Option Value}(n:h.Ns1 dx mA):∃ od,h.get? dx=some od /\ ∀ name,PySem.W.lookIn name od=some (mA name):=by
 obtain ⟨o,es,ep,O,hd,Y,_,hm⟩:=n
 refine ⟨o,O,λname=>?_⟩
 have e:=hm name
 unfold nsFind findBy at e
 rw [<- Array.find?_toList] at e
 unfold PySem.W.lookIn
 rw [hd]
 dsimp only
 split
 .rename_i y q
  rw [q] at e
  exact congrArg some e
 .rename_i q
  rw [q] at e
  have a:es.toList.any (·.refKey)=false:=by
   rw [List.any_eq_false]
   intro y U
   obtain ⟨z,t,J⟩:=Y y (Array.mem_toList_iff.mp U)
   simp [DictEntry.refKey,J]
  have a':¬ es.toList.any (·.refKey)=true:=by rw [a];exact yBH
  rw [if_neg a']
  exact congrArg some e
theorem ObjM.look {x:Addr}{mA:Str->Option Value}(I:ObjM h x dx C mA):∃ od,PySem.W.InstAt h x (PySem.W.instObj C dx) C (some od) /\ ∀ name,PySem.W.lookIn name od=some (mA name) :=
 let ⟨od,ho,hl⟩:=lookIn_ns I.ns
 ⟨od,⟨I.obj,rfl,rfl,ho⟩,hl⟩
section
variable {prog:Program}{A:Around}{x f:Addr}{mA:Str->Option Value}{name:Str}{v:Value}
theorem get_map {O:Bool}(X:K.In s.heap)(I:ObjM s.heap x dx C mA)(Y:PySem.W.plainGet K C name=true)(hh:PySem.W.hasDictIn K C=true)
  (ha:W.findIn K (.ref C) name=some none) (hv:mA name=some v) (U:PySem.W.handedIn v=true) (h:Q v { s with toks:=s.toks+1 }) :
  wpAny (model prog w) A (getAttr (.ref x) name O) Q E s:=by
 obtain ⟨od,J,hl⟩:=I.look
 exact PySem.W.get_value X J (PySem.W.plainGet_of Y).1 (PySem.W.findObj_own hh ha rfl (by rw [hl,hv])) U h
theorem get_meth {Q:Value×List Value->Shared->Prop}(X:K.In s.heap)(I:ObjM s.heap x dx C mA)(O:PySem.W.plainGet K C name=true)
  (U:W.findIn K (.ref C) name=some (some (.ref f))) (ht:PySem.W.isFn K (.ref f)=true) (Y:mA name=none) (h:Q (.ref f,[.ref x]) s) :
  wpAny (model prog w) A (getMethod (.ref x) name pl) Q E s:=by
 obtain ⟨od,J,hl⟩:=I.look
 exact PySem.W.method_fn X J (PySem.W.plainGet_of O).1 (PySem.W.plainGet_of O).2 U (beq_iff_eq.mp ht) (by show (PySem.W.lookIn name od).map (·.isSome)=some false;rw [hl,Y];rfl) h
theorem set_map {ns:List Str}{Q:Unit->Shared->Prop}(X:K.In s.heap)(I:ObjM s.heap x dx C mA)
  (hs:W.findIn K (.ref C) "__setattr__"=some (some (.builtin "object.__setattr__"))) (hp:PySem.W.plainOver K C=true) (ht:PySem.W.takerIn K C name=some none) (hh:PySem.W.hasDictIn K C=true)
  (hw:PySem.Within mA ns) (hsz:ns.length <= sizeLine)
  (h:∀ h',ObjM h' x dx C (λy=>if y=name then some v else mA y)->Heap.SameBut dx s.heap h'->Q () { s with heap:=h',toks:=s.toks+2 }) :
  wpAny (model prog w) A (setAttr (.ref x) name v) Q E s:=by
 obtain ⟨od,J,hl⟩:=I.look
 refine PySem.W.set_plain X J hs (PySem.W.osa_open (s:={ s with toks:=s.toks+1 }) (r:=none) X J hp ht λb=>?_)
 obtain ⟨cd,hc,a0⟩:=PySem.W.any_some hh
 have hx:s.heap.get? x=some ⟨.ref C,some dx,.plain,#[]⟩:=I.obj
 refine wpAny_bind (wpAny_pure (wpAny_bind (wpAny_bind (wpAny_loadPart hx (wpAny_bind (PySem.W.Looks.here (s:={ s with toks:=s.toks+1 }) (PySem.W.looks_clsIn X hc) ?_))))))
 rw [a0]
 refine wpAny_pure (a:=some dx) (wpAny_bind (wpAny_pure (wpAny_bind ?_)))
 refine wpAny_nsSet1 (s:={ s with toks:=s.toks+1 }) I.ns λh' O U=>?_
 obtain ⟨oD,a3,a4,Y,a2,a1⟩:=O.count (PySem.Within.cons name v hw)
 refine wpAny_bind (wpAny_lookBehind Y (by rw [a2];exact pastItsLine_dict (yAL a1 (by rw [yAG];omega))) ?_)
 exact wpAny_pure (h _ ⟨(U.2 _ (Ne.symm I.ne)).trans I.obj,O,I.ne⟩ U)
theorem make_map {R:Result->Shared->Prop}{vs:List Value}{J:List (Str×Value)}(X:K.In s.heap)(hm:PySem.W.makesIn K C=true)
  (hi:W.findIn K (.ref C) "__init__"=some (some (.ref f))) (O:PySem.W.typeIn K (.ref f)=some (.type "function"))
  (h:codeAny (model prog w) (A.under (.builtin "type.__call__" ⟨.ref C::vs,J⟩)) (.call (.ref f) ⟨.ref (s.heap.objs.size+1)::vs,J⟩) (PySem.W.InitBack (s.heap.objs.size+1) R)
   { s with heap:=(s.heap.push PySem.W.emptyDict).push (PySem.W.instObj C s.heap.objs.size) }) :
  codeAny (model prog w) A (.call (.ref C) ⟨vs,J⟩) R s:=by
 obtain ⟨U,g,d,t,os⟩:=s
 exact PySem.W.make_core (PySem.W.makes_of X hm) (PySem.W.looks_findIn X hi) (λself=>PySem.W.bind_fn X self O) (.inl rfl) h
end
noncomputable def putF (f:Str)(v:V):List (Str×V)->List (Str×V)
 | []=>[(f,v)]
 | (g,x)::r=>if g=f then (g,v)::r else (g,x)::putF f v r
theorem ZAb (f g:Str)(v:V):∀ fs:List (Str×V),(putF f v fs).lookup g=if g=f then some v else fs.lookup g
 | []=>by
  show List.lookup g [(f,v)]=_
  by_cases h:g=f
  .have J:(g == f)=true:=beq_iff_eq.mpr h
   simp only [List.lookup,J,if_pos h]
  .have J:(g == f)=false:=beq_eq_false_iff_ne.mpr h
   simp only [List.lookup,J,if_neg h]
 | (k,x)::r=>by
  have O:=ZAb f g v r
  rw [show putF f v ((k,x)::r)=(if k=f then (k,v)::r else (k,x)::putF f v r) from rfl]
  by_cases hk:k=f
  .rw [if_pos hk]
   by_cases h:g=k
   .have J:(g == k)=true:=beq_iff_eq.mpr h
    simp only [List.lookup,J,if_pos (h.trans hk)]
   .have J:(g == k)=false:=beq_eq_false_iff_ne.mpr h
    simp only [List.lookup,J,if_neg (λe:g=f=>h (e.trans hk.symm))]
  .rw [if_neg hk]
   by_cases h:g=k
   .have J:(g == k)=true:=beq_iff_eq.mpr h
    simp only [List.lookup,J,if_neg (λe:g=f=>hk (h.symm.trans e))]
   .have J:(g == k)=false:=beq_eq_false_iff_ne.mpr h
    simp only [List.lookup,J]
    exact O
theorem ZDZ (f:Str)(v:V):∀ fs:List (Str×V),f∈(putF f v fs).map (·.1) /\ ∀ g,g∈fs.map (·.1)->g∈(putF f v fs).map (·.1)
 | []=>⟨by simp [putF],λg h=>by simp at h⟩
 | (k,x)::r=>by
  obtain ⟨J,O⟩:=ZDZ f v r
  rw [show putF f v ((k,x)::r)=(if k=f then (k,v)::r else (k,x)::putF f v r) from rfl]
  by_cases hk:k=f
  .rw [if_pos hk]
   subst hk
   exact ⟨by simp,λg h=>by simpa using h⟩
  .rw [if_neg hk]
   refine ⟨?_,λg h=>?_⟩
   .rw [yAZ]
    exact yAE _ J
   .rw [yAZ] at h ⊢
    rcases yAI.mp h with e | e
    .exact yAI.mpr (.inl e)
    .exact yAE _ (O g e)
theorem ZCl (f:Str)(v:V):∀ fs:List (Str×V),(putF f v fs).length <= fs.length+1
 | []=>by simp [putF]
 | (k,x)::r=>by
  have J:=ZCl f v r
  rw [show putF f v ((k,x)::r)=(if k=f then (k,v)::r else (k,x)::putF f v r) from rfl]
  by_cases hk:k=f
  .rw [if_pos hk,yAG,yAG];omega
  .rw [if_neg hk,yAG,yAG];omega
theorem RelO.some_of {o:Option Value}(r:RelO (some v) o):∃ u,o=some u /\ RelV v u:=by
 cases o with
 | none=>exact (show False from r).elim
 | some u=>exact ⟨u,rfl,r⟩
theorem RelO.none_of {o:Option Value}(r:RelO none o):o=none:=by
 cases o with
 | none=>rfl
 | some u=>exact (show False from r).elim
theorem handed_of (r:RelV v u):PySem.W.handedIn u=true:=by
 cases v with
 | non=>cases (show u=Value.none from r);rfl
 | bl b=>cases (show u=Value.bool b from r);rfl
 | int i=>obtain ⟨t,e⟩:=(show ∃ t,u=Value.int i t from r);cases e;rfl
 | str x=>obtain ⟨t,e⟩:=(show ∃ t,u=Value.str x t from r);cases e;rfl
 | byt b=>obtain ⟨t,e⟩:=(show ∃ t,u=Value.bytes b t from r);cases e;rfl
 | flt b=>obtain ⟨t,e⟩:=(show ∃ t,u=Value.float b t from r);cases e;rfl
 | ref a=>cases (show u=Value.ref a from r);rfl
 | ty n=>cases (show u=Value.type n from r);rfl
section
variable {H':Hp}{h':Heap}{fs fs':List (Str×V)}
theorem ZD9 (J:HOk P w H h)(e:H a=some (.ins C dx fs)):∃ mA,ObjM h a dx C mA /\ (∀ f,RelO (fs.lookup f) (mA f)) /\ PySem.Within mA (fs.map (·.1)) /\ fs.length <= 1000 /\ H dx=some (.own a):=by
 obtain ⟨d,z,ne,O,mA,n,r,q⟩:=(show ObjOk P w H h a (.ins C dx fs) from J a _ e)
 exact ⟨mA,⟨O,n,ne⟩,r,q,z,d⟩
end
structure Cls (K:W.Frag)(C:Addr):Prop where
 pg:PySem.W.plainGet K C Str.empty=true
 hd:PySem.W.hasDictIn K C=true
 po:PySem.W.plainOver K C=true
 sa:W.findIn K (.ref C) "__setattr__"=some (some (.builtin "object.__setattr__"))
theorem Cls.get (c:Cls K C)(f:Str):PySem.W.plainGet K C f=true:=c.pg
def NoAttr (K:W.Frag)(C:Addr)(f:Str):Prop:=W.findIn K (.ref C) f=some none
theorem NoAttr.taker {f:Str}(n:NoAttr K C f):PySem.W.takerIn K C f=some none:=by
 unfold PySem.W.takerIn
 rw [show W.findIn K (.ref C) f=some none from n]
 rfl
structure Meth (K:W.Frag)(C:Addr)(m:Str)(f:Addr):Prop where
 at_:W.findIn K (.ref C) m=some (some (.ref f))
 fn:PySem.W.isFn K (.ref f)=true
 kp:W.keepIn K (.ref f)=true
section
variable {fs:List (Str×V)}{f:Str}{A:Around}
theorem getattr_ok {b:Bool}(I:Inv X pins σ H s)(e:H a=some (.ins C dx fs))(c:Cls X.K C)(n:NoAttr X.K C f)(l:fs.lookup f=some v)
  (h:∀ u s',Inv X pins σ H s'->RelV v u->Q u s'):wpAny (model X.prog X.w) A (getAttr (.ref a) f b) Q E s:=by
 obtain ⟨mA,O,r,_,_,_⟩:=ZD9 I.hok e
 obtain ⟨u,J,ru⟩:=RelO.some_of (v:=v) (o:=mA f) (by rw [<- l];exact r f)
 exact get_map I.kIn O (c.get f) c.hd n J (handed_of ru) (h u _ (I.tok _) ru)
theorem getmeth_ok {m:Str}{g:Addr}{Q:Value×List Value->Shared->Prop}(I:Inv X pins σ H s)(e:H a=some (.ins C dx fs))(c:Cls X.K C)(k:Meth X.K C m g)(l:fs.lookup m=none)
  (h:Q (.ref g,[.ref a]) s):wpAny (model X.prog X.w) A (getMethod (.ref a) m pl) Q E s:=by
 obtain ⟨mA,O,r,_,_,_⟩:=ZD9 I.hok e
 have hn:mA m=none:=RelO.none_of (by rw [<- l];exact r m)
 exact get_meth I.kIn O (c.get m) k.at_ k.fn hn h
theorem setattr_ok {Q:Unit->Shared->Prop}(I:Inv X pins σ H s)(e:H a=some (.ins C dx fs))(c:Cls X.K C)(n:NoAttr X.K C f)(hl:fs.length < 1000)(ry:RelV y u)
  (h:∀ s',Inv X pins σ (upd H a (.ins C dx (putF f y fs))) s'->Q () s'):wpAny (model X.prog X.w) A (setAttr (.ref a) f u) Q E s:=by
 obtain ⟨mA,O,r,wi,_,U⟩:=ZD9 I.hok e
 have hz:(fs.map (·.1)).length <= sizeLine:=by rw [yAA,sizeLine_eq];omega
 refine set_map I.kIn O c.sa c.po n.taker c.hd wi hz λh' J sb=>h _ ?_
 have hd:∃ o,h'.get? dx=some o:=let ⟨o,_,_,e',_⟩:=J.ns;⟨o,e'⟩
 refine I.write (x:=a) (e:=dx) (by rw [e];exact True.intro) (.inr U) (λb q hb z=>(sb.2 b hb).trans z) hd ?_
 refine ⟨by rw [ZAJ O.ne];exact U,?_,O.ne,J.obj,_,J.ns,λg=>?_,λg Y=>?_⟩
 .have:=ZCl f y fs;omega
 .show RelO ((putF f y fs).lookup g) (if g=f then some u else mA g)
  rw [ZAb]
  by_cases q:g=f
  .rw [if_pos q,if_pos q];exact ry
  .rw [if_neg q,if_neg q];exact r g
 .by_cases q:g=f
  .rw [q];exact (ZDZ f y fs).1
  .refine (ZDZ f y fs).2 g (wi g λz=>Y ?_)
   show (if g=f then some u else mA g)=none
   rw [if_neg q];exact z
theorem Inv.made (I:Inv X pins σ H s):Inv X pins σ (upd (upd H s.heap.objs.size (.own (s.heap.objs.size+1))) (s.heap.objs.size+1) (.ins C s.heap.objs.size []))
  { s with heap:=(s.heap.push PySem.W.emptyDict).push (PySem.W.instObj C s.heap.objs.size) }:=by
 have J:(s.heap.push PySem.W.emptyDict).get? s.heap.objs.size=some PySem.W.emptyDict:=Heap.get?_push_size s.heap rfl
 have O:((s.heap.push PySem.W.emptyDict).push (PySem.W.instObj C s.heap.objs.size)).get? (s.heap.objs.size+1)=some (PySem.W.instObj C s.heap.objs.size):=by
  have:=Heap.get?_push_size (s.heap.push PySem.W.emptyDict) (o:=PySem.W.instObj C s.heap.objs.size) rfl
  rwa [Heap.size_push] at this
 have Y:(s.heap.push PySem.W.emptyDict).Ns s.heap.objs.size (λ_=>none):=⟨PySem.W.emptyDict,#[],_,J,rfl,(λe U=>absurd U (by simp)),λ_=>rfl⟩
 have I1:=I.laid (a:=s.heap.objs.size) (o:=.own (s.heap.objs.size+1)) (h':=s.heap.push PySem.W.emptyDict) (t':=s.toks) (λb u q=>Heap.get?_push_of_some _ q) (yAB _) ⟨_,J⟩
 refine I1.laid (a:=s.heap.objs.size+1) (o:=.ins C s.heap.objs.size []) (t':=s.toks) (λb u q=>Heap.get?_push_of_some _ q) (yCO (Heap.size_push _ _)) ?_
 have ne:s.heap.objs.size≠s.heap.objs.size+1:=yAQ (yCC _)
 refine ⟨by rw [ZAJ ne,ZAE],yAJ _,ne,O,λ_=>none,(Heap.Ns1.of_empty Y).at λo q=>Heap.get?_push_of_some _ q,λ_=>True.intro,λy hy=>absurd rfl hy⟩
theorem attr_of {prog:Program}{env:Env}{f:Str}(J:attributeBase e f env (eval e env)=eval e env)
  (h:wpAny (model prog w) A (eval e env) (λo s₁=>wpAny (model prog w) A (getAttr o f true) Q E s₁) E s):wpAny (model prog w) A (eval (.Attribute e f pos) env) Q E s :=
 Attribute_any_ h (by rw [arm_eval_Attribute,J])
end
def tFld (K:W.Frag)(ta:TE)(f:Str):TE:=λσ H Q=>ta σ H λx H1=>∃ a C dx fs v,x=.ref a /\ H1 a=some (.ins C dx fs) /\ Cls K C /\ NoAttr K C f /\ fs.lookup f=some v /\ Q v H1
def sFld (K:W.Frag)(ta tv:TE)(f:Str):TS:=λD σ H=>tv σ H λy H1=>ta σ H1 λx H2=>∃ a C dx fs,x=.ref a /\ H2 a=some (.ins C dx fs) /\ Cls K C /\ NoAttr K C f /\ fs.length < 1000 /\
 D.nx σ (upd H2 a (.ins C dx (putF f y fs)))
def InOp (X:Cx)(op:Operator)(rd:V->V->Hp->VK->Prop):Prop :=
 ∀ (pins:List (Addr×Obj)) (s:Shared) (σ:St) (H:Hp) (x y:V) (u v:Value) (Q:VK),Inv X pins σ H s->RelV x u->RelV y v->rd x y H Q->wpAny (model X.prog X.w) X.A (inplaceOp op u v) (EP X pins σ Q) X.xe s
def sFldAug (K:W.Frag)(ta tv:TE)(rd:V->V->Hp->VK->Prop)(f:Str):TS:=λD σ H=>ta σ H λx H1=>∃ a C dx fs v,x=.ref a /\ H1 a=some (.ins C dx fs) /\ Cls K C /\ NoAttr K C f /\ fs.lookup f=some v /\
 tv σ H1 λy H2=>rd v y H2 λz H3=>∃ dx' fs',H3 a=some (.ins C dx' fs') /\ fs'.length < 1000 /\ D.nx σ (upd H3 a (.ins C dx' (putF f z fs')))
section
variable {o value:Expr}{f:Str}{tpos:Pos}{ta tv:TE}
theorem ZAP (U:PE X e ta)(hb:attributeBase e f X.env (eval e X.env)=eval e X.env):PE X (.Attribute e f pos) (tFld X.K ta f):=by
 intro pins s σ H Q I h
 refine attr_of hb (thn (U pins s σ H _ I h) λu s1 zz=>?_)
 obtain ⟨x,H1,J,Y,a,C,dx,fs,v,ex,O,c,n,l,q⟩:=zz
 subst ex
 obtain rfl:u=Value.ref a:=Y
 exact getattr_ok J O c n l λu' s2 I2 ru=>⟨v,H1,I2,ru,q⟩
theorem ZAu (ha:PE X o ta)(hv:PE X value tv)(hs:swapsWith value (some (.Attribute o f pos')) pos.line X.env=pure false):PS X (.Assign [.Attribute o f pos'] value pos) (sFld X.K ta tv f):=by
 intro pins s σ H D I h
 refine plainObj_wpAny_Assign_Attribute (thn (hv pins s σ H _ I h) λu s1 ⟨y,H1,O,Y,q⟩=>thn (ha pins s1 σ H1 _ O q) λJ s2 zz=>?_) hs
 obtain ⟨x,H2,I2,rx,a,C,dx,fs,ex,U,c,n,l,q2⟩:=zz
 subst ex
 obtain rfl:J=Value.ref a:=rx
 exact setattr_ok I2 U c n l Y λs3 I3=>⟨σ,_,I3,q2⟩
theorem ps_fldaug {U:Operator}{rd:V->V->Hp->VK->Prop}(ha:PE X o ta)(hv:PE X value tv)(O:InOp X U rd):PS X (.AugAssign (.Attribute o f tpos) U value pos) (sFldAug X.K ta tv rd f):=by
 intro pins s σ H D I h
 refine wpAny_AugAssign_AttributeAny (thn (ha pins s σ H _ I h) λY s1 zz=>?_)
 obtain ⟨x,H1,I1,rx,a,C,dx,fs,v,ex,ea,c,n,l,q⟩:=zz
 subst ex
 obtain rfl:Y=Value.ref a:=rx
 refine getattr_ok I1 ea c n l λu s2 I2 ru=>thn (hv pins s2 σ H1 _ I2 q) λw3 s3 ⟨y,H2,I3,ry,q3⟩=>thn (O pins s3 σ H2 v y u w3 _ I3 ru ry q3) λw4 s4 zz=>?_
 obtain ⟨z,H3,I4,rz,a0,fs',J,l',q4⟩:=zz
 exact setattr_ok I4 J c n l' rz λs5 I5=>⟨σ,_,I5,q4⟩
def rAdd:V->V->Hp->VK->Prop:=λx y H Q=>∃ i j,x=.int i /\ y=.int j /\ Q (.int (i+j)) H
theorem in_add:InOp X .Add rAdd:=by
 rintro pins s σ H x y u v Q I O J ⟨i,j,rfl,rfl,q⟩
 obtain ⟨t,rfl⟩:=(show ∃ t,u=Value.int i t from O)
 obtain ⟨t',rfl⟩:=(show ∃ t',v=Value.int j t' from J)
 exact PyProof.Rows.iadd_int ⟨.int (i+j),H,I.tok _,⟨_,rfl⟩,q⟩
end
section
variable {A:Around}{c:Value}{b:Bool}
inductive TyOf (K:W.Frag)(H:Hp):V->Value->Prop where
 | non:TyOf K H .non (.type "NoneType")
 | bl (x:Bool):TyOf K H (.bl x) (.type "bool")
 | int (i:Int):TyOf K H (.int i) (.type "int")
 | str (x:Str):TyOf K H (.str x) (.type "str")
 | flt (x:UInt64):TyOf K H (.flt x) (.type "float")
 | lst {a:Addr} {xs:List V} (e:H a=some (.lst xs)):TyOf K H (.ref a) (.type "list")
 | frz {a:Addr} {o:Obj} {xs:List V} (e:H a=some (.frz o (.lst xs))):TyOf K H (.ref a) (.type "list")
 | tup {a:Addr} {xs:List V} (e:H a=some (.tup xs)):TyOf K H (.ref a) (.type "tuple")
 | dK {a:Addr} {kvs:List (Key×V)} (e:H a=some (.dK kvs)):TyOf K H (.ref a) (.type "dict")
 | dT {a:Addr} {kvs:List (List Key×V)} (e:H a=some (.dT kvs)):TyOf K H (.ref a) (.type "dict")
 | ins {a C dx:Addr} {fs:List (Str×V)} (e:H a=some (.ins C dx fs)) (cl:Cls K C) (ha:W.findIn K (.ref C) "__class__"=some (some (.builtin "object.__class__")))
   (hn:PySem.W.specialIn K (.builtin "object.__class__") "__get__"=some (some (.builtin "getset_descriptor.__get__"))) (htk:PySem.W.takesIn K (.builtin "object.__class__")=some true)
   (hm:PySem.W.mroIn K C (.type "object")=some true):TyOf K H (.ref a) (.ref C)
theorem isinst_ok {x:V}{t:Value}(I:Inv X pins σ H s)(U:RelV x u)(ty:TyOf X.K H x t)(e:PySem.W.kitOne X.K t c=some b)(h:∀ tk,Q (.bool b) { s with toks:=tk }) :
  wpAny (model X.prog X.w) A (call (.builtin "isinstance") [u,c]) Q E s:=by
 cases ty with
 | non=>cases (show u=Value.none from U);exact PySem.W.kia_one PySem.W.kitx_none I.kIn True.intro e (λz=>nomatch z) h
 | bl y=>cases (show u=Value.bool y from U);exact PySem.W.kia_one PySem.W.kitx_bool I.kIn True.intro e (λz=>nomatch z) h
 | int i=>obtain ⟨t,q⟩:=(show ∃ t,u=Value.int i t from U);cases q;exact PySem.W.kia_one PySem.W.kitx_int I.kIn True.intro e (λz=>nomatch z) h
 | str y=>obtain ⟨t,q⟩:=(show ∃ t,u=Value.str y t from U);cases q;exact PySem.W.kia_one PySem.W.kitx_str I.kIn True.intro e (λz=>nomatch z) h
 | flt y=>obtain ⟨t,q⟩:=(show ∃ t,u=Value.float y t from U);cases q;exact PySem.W.kia_one PySem.W.kitx_float I.kIn True.intro e (λz=>nomatch z) h
 | @lst a xs ea=>
  cases (show u=Value.ref a from U)
  obtain ⟨_,_,n,_,h1⟩:=(show ObjOk X.prog X.w H s.heap a (.lst xs) from I.hok a _ ea)
  exact PySem.W.kia_one PySem.W.kitx_list I.kIn ⟨_,h1,rfl⟩ e (λz=>nomatch z) h
 | @frz a ob xs ea=>
  cases (show u=Value.ref a from U)
  obtain ⟨_,_,_,n,_,h1⟩:=(show ObjOk X.prog X.w H s.heap a (.frz ob (.lst xs)) from I.hok a _ ea)
  exact PySem.W.kia_one PySem.W.kitx_list I.kIn ⟨_,h1,rfl⟩ e (λz=>nomatch z) h
 | @tup a xs ea=>
  cases (show u=Value.ref a from U)
  obtain ⟨_,_,_,p⟩:=(show ObjOk X.prog X.w H s.heap a (.tup xs) from I.hok a _ ea)
  obtain ⟨o,h1,h2,_⟩:=p
  exact PySem.W.kia_one PySem.W.kitx_tuple I.kIn ⟨o,h1,h2⟩ e (λz=>nomatch z) h
 | @dK a kvs ea=>
  cases (show u=Value.ref a from U)
  obtain ⟨_,_,vs,_,p⟩:=(show ObjOk X.prog X.w H s.heap a (.dK kvs) from I.hok a _ ea)
  obtain ⟨o,es,Y,h1,h2,_⟩:=p
  exact PySem.W.kia_one PySem.W.kitx_dict I.kIn ⟨o,h1,h2.1⟩ e (λz=>nomatch z) h
 | @dT a kvs ea=>
  cases (show u=Value.ref a from U)
  obtain ⟨_,_,xs,_,o,es,Y,h1,h2,_⟩:=(show ObjOk X.prog X.w H s.heap a (.dT kvs) from I.hok a _ ea)
  exact PySem.W.kia_one PySem.W.kitx_dict I.kIn ⟨o,h1,h2.1⟩ e (λz=>nomatch z) h
 | @ins a C dx fs ea cl ha hn htk hm=>
  cases (show u=Value.ref a from U)
  obtain ⟨mA,O,_⟩:=ZD9 I.hok ea
  obtain ⟨od,J,_⟩:=O.look
  exact PySem.W.kia_one (PySem.W.kitx_own (cl.get _) cl.hd ha hn htk hm) I.kIn J e (λz=>nomatch z) h
end
structure Room (k:Nat)(A:Around):Prop where
 hd:A.handled=none
 dp:A.depth+3 * k+5 < recursionLimit
 un:A.units+16 * k+200 < cLine
 gd:A.guards=some []
theorem Room.mono {j:Nat}{A:Around}(r:Room k A)(h:j <= k):Room j A:=⟨r.hd,by have:=r.dp;omega,by have:=r.un;omega,r.gd⟩
theorem Room.deeper {A:Around}(r:Room (k+1) A)(env:Env):Room k (A.deeper env) :=
 ⟨r.hd,by have:=r.dp;show A.depth+1+3 * k+5 < _;omega,by have:=r.un;show A.units+3+16 * k+200 < _;omega,r.gd⟩
theorem make_depth {A:Around}{J:List (Str×Value)}:(A.under (.builtin "type.__call__" ⟨.ref C::us,J⟩)).depth=A.depth+1:=by
 first | rfl | simp [Around.under,Code.weight,Code.isCreation,Code.isGuard,Code.isCaller,Code.frames,Code.isFrame,guardIds]
theorem make_units {A:Around}{J:List (Str×Value)}:(A.under (.builtin "type.__call__" ⟨.ref C::us,J⟩)).units=A.units+1:=by
 first | rfl | simp [Around.under,Code.cUnits,Code.frames,Code.isFrame]
theorem Room.make {A:Around}(r:Room (k+1) A)(C:Addr)(us:List Value)(J:List (Str×Value)):Room k (A.under (.builtin "type.__call__" ⟨.ref C::us,J⟩)) :=
 ⟨r.hd,by have:=r.dp;rw [make_depth];omega,by have:=r.un;rw [make_units];omega,by have:=r.gd;first | exact this | simp [Around.under,Code.guards,Code.isGuard,guardIds,this]⟩
theorem Room.depth {A:Around}(r:Room k A):A.depth < recursionLimit:=by have:=r.dp;omega
theorem Room.units {A:Around}(r:Room k A):A.units+64 < cLine:=by have:=r.un;omega
def tNil:TA:=λ_ H Q=>Q [] H
def ZC1 (ta:TE)(tr:TA):TA:=λσ H Q=>ta σ H λx H1=>tr σ H1 λxs H2=>Q (x::xs) H2
section
variable {es:List Expr}{t:TA}
theorem ZAC:PA X [] tNil:=λ_ _ _ _ H Q I h=>Calls.spliced_nil ⟨[],H,I,.nil,h⟩
theorem ZAA (ha:PE X e te)(hr:PA X es t)(Y:starEach (e::es) X.env=(false,eval e X.env)::starEach es X.env:=by rfl):PA X (e::es) (ZC1 te t):=by
 intro pos pins s σ H Q I h
 rw [Y]
 show wpAny _ _ (spliced ((false,eval e X.env)::backTo pos (starEach es X.env))) _ _ s
 refine Calls.spliced_cons (thn (ha pins s σ H _ I h) λu s1 zz=>?_)
 obtain ⟨x,H1,J,r1,U⟩:=zz
 exact thn (hr pos pins s1 σ H1 _ J U) λus s2 ⟨xs,H2,I2,O,q2⟩=>⟨x::xs,H2,I2,.cons r1 O,q2⟩
def tTup (t:TA):TE:=λσ H Q=>t σ H λxs H1=>xs.length <= sizeLine /\ ∀ p,H1 p=none->Q (.ref p) (upd H1 p (.tup xs))
def tLst (t:TA):TE:=λσ H Q=>t σ H λxs H1=>xs.length <= sizeLine /\ ∀ p,H1 p=none->Q (.ref p) (upd H1 p (.lst xs))
theorem ZBB {x1}(h:PA X es t):PE X (.Tuple es x1 pos) (tTup t):=by
 intro pins s σ H Q I U
 refine wpAny_Tuple_spliced (thn (h pos pins s σ H _ I U) λus s1 ⟨xs,H1,J,r,z,q⟩=>⟨by rw [<- r.length];exact z,?_⟩)
 have O:H1 s1.heap.objs.size=none:=J.hok.fresh (yAB _)
 refine ⟨.ref s1.heap.objs.size,upd H1 s1.heap.objs.size (.tup xs),J.laid (t':=s1.toks) (λb u e=>Heap.get?_push_of_some _ e) (yAB _) ?_,rfl,q _ O⟩
 exact ⟨z,us,r,⟨_,Heap.get?_push_size _ rfl,rfl,_,rfl⟩⟩
theorem ZA6 (h:PA X es t):PE X (.List es pos) (tLst t):=by
 intro pins s σ H Q I U
 refine wpAny_List_spliced (thn (h pos pins s σ H _ I U) λus s1 ⟨xs,H1,J,r,z,q⟩=>⟨by rw [<- r.length];exact z,?_⟩)
 have O:H1 s1.heap.objs.size=none:=J.hok.fresh (yAB _)
 refine ⟨.ref s1.heap.objs.size,upd H1 s1.heap.objs.size (.lst xs),J.laid (t':=s1.toks) (λb u e=>Heap.get?_push_of_some _ e) (yAB _) ?_,rfl,q _ O⟩
 exact ⟨z,us,0,r,Heap.get?_push_size _ rfl⟩
end
noncomputable abbrev Sp:=List V->Hp->VK->XK->Prop
noncomputable abbrev CXT:=List Env->Hp->Shared->XK->Value->Shared->Prop
variable {CX:CXT}
structure Env0 (P:Program)(w:World)(K:W.Frag)(mg:Str->Option Value)(base:Heap)(A:Around)(outer:List Env)(s:Shared)(H:Hp):Prop where
 frames:A.frames=some outer
 mod:Mod K mg base
 bs:∀ b o,base.get? b=some o->s.heap.get? b=some o /\ H b=none
 bsz:base.objs.size <= s.heap.objs.size
 funs:s.heap.FunFrames base outer
 frf:∀ b∈frs outer,H b=none
 hok:HOk P w H s.heap
 bare:AllBare s.gens
def CE (outer:List Env)(P:Program)(w:World)(H:Hp)(s:Shared)(Q:VK)(u:Value)(s':Shared):Prop :=
 ∃ v H',s'.os=s.os /\ AllBare s'.gens /\ Un (frs outer) [] H H' s.heap s'.heap /\ HOk P w H' s'.heap /\ RelV v u /\ Q v H'
def CR (CX:CXT)(outer:List Env)(P:Program)(w:World)(H:Hp)(s:Shared)(Q:VK)(E:XK)(r:Result)(s':Shared):Prop :=
 match r with
 | .ok (.ret u)=>CE outer P w H s Q u s'
 | .ok _=>False
 | .error e=>CX outer H s E e s'
structure FnOk (P:Program)(w:World)(K:W.Frag)(mg:Str->Option Value)(base:Heap)(CX:CXT)(k:Nat)(f:Addr)(fd:FuncData)(ps:List Str)(sp:Sp):Prop where
 len:∀ vs H Q E,sp vs H Q E->vs.length=ps.length
 run:∀ (A:Around) (outer:List Env) (s:Shared) (H:Hp) (args:Args) (us:List Value) (vs:List V) (Q:VK) (E:XK),Room k A->Env0 P w K mg base A outer s H->BindsTo s fd args (ps.zip us)->Vals vs us->sp vs H Q E ->
  codeAny (model P w) A (.call (.ref f) args) (CR CX outer P w H s Q E) s
theorem Env0.make {mg:Str->Option Value}{A:Around}(e:Env0 P w K mg base A outer s H)(C:Addr)(us:List Value)(J:List (Str×Value)) :
  Env0 P w K mg base (A.under (.builtin "type.__call__" ⟨.ref C::us,J⟩)) outer s H:=⟨by first | exact e.frames | (simpa [Around.under,Code.envs,Code.isFrame,pushEnvs] using e.frames),e.mod,e.bs,e.bsz,e.funs,e.frf,e.hok,e.bare⟩
section
variable {s':Shared}
theorem Inv.env0 (I:Inv X pins σ H s):Env0 X.prog X.w X.K X.mg X.base X.A X.stack s H :=
 ⟨I.ok.frames,I.ok.mod,I.bs,yAL I.ok.bsz I.sz,I.stack,I.stkFree,I.hok,I.bare⟩
theorem Inv.after {Q:VK}(I:Inv X pins σ H s)(h:CE X.stack X.prog X.w H s Q u s'):EP X pins σ Q u s':=by
 obtain ⟨v,H',os,J,un,U,r,q⟩:=h
 obtain ⟨Y,g,d,t,O⟩:=s'
 obtain rfl:O=s.os:=os
 exact ⟨v,H',I.call (h':=Y) (g':=g) (d':=d) (t':=t) (ch:=[]) un U J (λb z=>absurd z (by simp)),r,q⟩
end
def ZFw (sp:Sp)(dvs:List V)(E:XK)(t:TA):TE:=λσ H Q=>t σ H λvs H1=>sp (vs++dvs) H1 Q E
def ZFD (C:Addr)(m:Str)(sp:Sp)(dvs:List V)(E:XK)(ta:TE)(t:TA):TE:=λσ H Q=>ta σ H λx H1=>∃ a dx fs,x=.ref a /\ H1 a=some (.ins C dx fs) /\ fs.lookup m=none /\
 t σ H1 λvs H2=>sp (x::(vs++dvs)) H2 Q E
def ZFk (C:Addr)(sp:Sp)(dvs:List V)(E:XK)(t:TA):TE:=λσ H Q=>t σ H λvs H1=>∀ x dx,H1 x=none->H1 dx=none->dx≠x ->
 sp (.ref x::(vs++dvs)) (upd (upd H1 dx (.own x)) x (.ins C dx [])) (λv H2=>v=.non /\ Q (.ref x) H2) E
def Binds (K:W.Frag)(fd:FuncData)(ps:List Str)(ds:List Value):Prop :=
 ∀ (s:Shared) (us:List Value),K.In s.heap->(us++ds).length=ps.length->BindsTo s fd ⟨us,[]⟩ (ps.zip (us++ds))
theorem Binds.all {fd:FuncData}(h:∀ us:List Value,us.length=ps.length->bindArgs fd ⟨us,[]⟩=pure (ps.zip us)):Binds K fd ps []:=λs us _ hl=>by
 rw [yBA] at hl ⊢
 exact .of_eq (h us hl)
def ZCD (CX:CXT)(X:Cx)(E:XK):Prop:=∀ (pins:List (Addr×Obj)) (σ:St) (H:Hp) (s:Shared) (e:Value) (s':Shared),Inv X pins σ H s->CX X.stack H s E e s'->X.xe e s'
section
variable {f:Addr}{fd:FuncData}{sp:Sp}{dvs:List V}{ds:List Value}{E:XK}{m:Str}{p apos:Pos}{o:Expr}{es:List Expr}{ta:TE}{t:TA}
theorem ZFK {Q:VK}(F:FnOk X.prog X.w X.K X.mg X.base CX k f fd ps sp)(Y:Room k X.A)(hb:Binds X.K fd ps ds)(hd:Vals dvs ds)(U:ZCD CX X E)
  (I:Inv X pins σ H s) (r:Vals vs us) (h:sp (vs++dvs) H Q E):wpAny (model X.prog X.w) X.A (call (.ref f) us) (EP X pins σ Q) X.xe s:=by
 have O:Vals (vs++dvs) (us++ds):=r.append hd
 have hl:(us++ds).length=ps.length:=by rw [<- O.length];exact F.len _ _ _ _ h
 refine wpAny_call (codeAny_mono (F.run X.A X.stack s H ⟨us,[]⟩ (us++ds) (vs++dvs) Q E Y I.env0 (hb s us I.kIn hl) O h) λr s' J=>?_)
 cases r with
 | error e=>exact U pins σ H s e s' I J
 | ok fl=>
  cases fl with
  | ret u=>exact I.after J
  | next=>exact False.elim J
  | brk=>exact False.elim J
  | cont=>exact False.elim J
theorem pe_call (F:FnOk X.prog X.w X.K X.mg X.base CX k f fd ps sp)(hr:Room k X.A)(Y:Gl X x)(hm:X.mg x=some (.ref f))(hk:W.keepIn X.K (.ref f)=true)(hb:Binds X.K fd ps ds)(hd:Vals dvs ds)(hx:ZCD CX X E)
  (ha:PA X (e::es) t) (O:(x == ("__debug__":Str))=false:=by decide) (he:starEach (e::es) X.env=(false,eval e X.env)::starEach es X.env:=by rfl) (J:(backTo pos (starEach es X.env)).any (·.1)=false:=by rfl) :
  PE X (.Call (.Name x p) (e::es) [] pos) (ZFw sp dvs E t):=by
 intro pins s σ H Q I h
 refine wpAny_Call_Name_kw (ZEd I Y hm ?_ O)
 refine PySem.W.callWith_K (h₀:=X.base) I.ok.mod.kin hk (thn (ha pos pins s σ H _ I h) λus s1 ⟨vs,H1,U,r,q⟩=>⟨U.kIn,?_⟩) he J
 exact ZFK F hr hb hd hx U r q
theorem pe_meth (he:PE X o ta)(c:Cls X.K C)(hm:Meth X.K C m f)(F:FnOk X.prog X.w X.K X.mg X.base CX k f fd ps sp)(hr:Room k X.A)(hb:Binds X.K fd ps ds)(hd:Vals dvs ds)(hx:ZCD CX X E)(ha:PA X (e::es) t)
  (O:starEach (e::es) X.env=(false,eval e X.env)::starEach es X.env:=by rfl) (J:(backTo pos (starEach es X.env)).any (·.1)=false:=by rfl)
  (ht:eval (.Call (.Attribute o m apos) (e::es) [] pos) X.env=(do
   let ov <- eval o X.env
   standAt apos.atName
   let (f,first) <- holding [ov] (getMethod ov m pl)
   callWith pos f first (backTo pos (starEach (e::es) X.env)) (backToKw pos (keywordEach [] X.env))):=by rfl) :
  PE X (.Call (.Attribute o m apos) (e::es) [] pos) (ZFD C m sp dvs E ta t):=by
 intro pins s σ H Q I h
 refine PySem.W.methodCall_KW (pl:=pl) (thn (he pins s σ H _ I h) λu s1 zz=>?_) ht
 obtain ⟨x,H1,U,rx,a,dx,fs,ex,ea,l,q⟩:=zz
 subst ex
 obtain rfl:u=Value.ref a:=rx
 refine getmeth_ok U ea c hm l ?_
 refine PySem.W.callWith_K (first:=[.ref a]) (h₀:=X.base) I.ok.mod.kin hm.kp (thn (ha pos pins s1 σ H1 _ U q) λus s2 ⟨vs,H2,Y,r,q2⟩=>⟨Y.kIn,?_⟩) O J
 exact ZFK (us:=.ref a::us) (vs:=.ref a::vs) F hr hb hd hx Y (.cons rfl r) q2
theorem pe_meth0 (Y:PE X o ta)(c:Cls X.K C)(hm:Meth X.K C m f)(F:FnOk X.prog X.w X.K X.mg X.base CX k f fd ps sp)(hr:Room k X.A)(hb:Binds X.K fd ps ds)(hd:Vals dvs ds)(O:ZCD CX X E)
  (ht:eval (.Call (.Attribute o m apos) [] [] pos) X.env=(do
   let ov <- eval o X.env
   standAt apos.atName
   let (f,first) <- holding [ov] (getMethod ov m pl)
   callWith pos f first (backTo pos (starEach [] X.env)) (backToKw pos (keywordEach [] X.env))):=by rfl) :
  PE X (.Call (.Attribute o m apos) [] [] pos) (ZFD C m sp dvs E ta tNil):=by
 intro pins s σ H Q I h
 refine PySem.W.methodCall_KW (pl:=pl) (thn (Y pins s σ H _ I h) λu s1 zz=>?_) ht
 obtain ⟨x,H1,J,rx,a,dx,fs,ex,U,l,q⟩:=zz
 subst ex
 obtain rfl:u=Value.ref a:=rx
 refine getmeth_ok J U c hm l ?_
 exact PySem.W.callWith_K0 (first:=[.ref a]) J.kIn hm.kp (ZFK (us:=[.ref a]) (vs:=[.ref a]) F hr hb hd O J (.cons rfl .nil) q)
structure Mk (K:W.Frag)(C f:Addr):Prop where
 makes:PySem.W.makesIn K C=true
 init:W.findIn K (.ref C) "__init__"=some (some (.ref f))
 fn:PySem.W.isFn K (.ref f)=true
 kp:W.keepIn K (.ref C)=true
theorem run_make {Q:VK}(M:Mk X.K C f)(F:FnOk X.prog X.w X.K X.mg X.base CX k f fd ps sp)(hr:Room (k+1) X.A)(hb:Binds X.K fd ps ds)(hd:Vals dvs ds)
  (hx:ZCD CX X E) (I:Inv X pins σ H s) (r:Vals vs us)
  (h:∀ x dx,H x=none->H dx=none->dx≠x->sp (.ref x::(vs++dvs)) (upd (upd H dx (.own x)) x (.ins C dx [])) (λv H2=>v=.non /\ Q (.ref x) H2) E) :
  wpAny (model X.prog X.w) X.A (call (.ref C) us) (EP X pins σ Q) X.xe s:=by
 have Y:=h (s.heap.objs.size+1) s.heap.objs.size (I.hok.fresh (yBF _)) (I.hok.fresh (yAB _)) (yAQ (yCC _))
 have O:=Inv.made (C:=C) I
 have U:Vals (V.ref (s.heap.objs.size+1)::(vs++dvs)) (Value.ref (s.heap.objs.size+1)::(us++ds)):=.cons rfl (r.append hd)
 have hl:(Value.ref (s.heap.objs.size+1)::us++ds).length=ps.length:=by
  have e:=U.length
  rw [F.len _ _ _ _ Y] at e
  exact e.symm
 refine wpAny_call (make_map (f:=f) I.kIn M.makes M.init (beq_iff_eq.mp M.fn) (codeAny_mono (F.run _ X.stack _ _ ⟨Value.ref (s.heap.objs.size+1)::us,[]⟩ (Value.ref (s.heap.objs.size+1)::(us++ds)) _ _ E (hr.make C us [])
  (O.env0.make C us []) (hb _ (Value.ref (s.heap.objs.size+1)::us) O.kIn hl) U Y) λr s' J=>?_))
 cases r with
 | error e=>exact hx pins σ _ _ e s' O J
 | ok fl=>
  cases fl with
  | ret u=>
   obtain ⟨v,H',I3,rv,ev,q3⟩:=O.after J
   subst ev
   exact ⟨rv,⟨V.ref (s.heap.objs.size+1),H',I3,rfl,q3⟩⟩
  | next=>exact False.elim J
  | brk=>exact False.elim J
  | cont=>exact False.elim J
theorem pe_make (M:Mk X.K C f)(F:FnOk X.prog X.w X.K X.mg X.base CX k f fd ps sp)(hr:Room (k+1) X.A)(Y:Gl X x)(hm:X.mg x=some (.ref C))(hb:Binds X.K fd ps ds)(hd:Vals dvs ds)(hx:ZCD CX X E)
  (ha:PA X (e::es) t) (O:(x == ("__debug__":Str))=false:=by decide) (he:starEach (e::es) X.env=(false,eval e X.env)::starEach es X.env:=by rfl) (J:(backTo pos (starEach es X.env)).any (·.1)=false:=by rfl) :
  PE X (.Call (.Name x p) (e::es) [] pos) (ZFk C sp dvs E t):=by
 intro pins s σ H Q I h
 refine wpAny_Call_Name_kw (ZEd I Y hm ?_ O)
 refine PySem.W.callWith_K (h₀:=X.base) I.ok.mod.kin M.kp (thn (ha pos pins s σ H _ I h) λus s1 ⟨vs,H1,U,r,q⟩=>⟨U.kIn,?_⟩) he J
 exact run_make M F hr hb hd hx U r q
end
structure FnScope (N P:List Str)(sc:Scope):Prop where
 kind:sc.kind=.function
 co:sc.isCoroutine=false
 gen:sc.isGenerator=false
 nd:N.Nodup
 pre:N.take P.length=P
 par:∀ x∈P,sc.names.lookup x=some .local∨sc.names.lookup x=some .cell
 nofree:∀ y∈sc.names,y.2≠.free
theorem bindL_out {J:Str->Option NameKind}{x:Str}:∀ {binds:List (Str×Value)} {m:Str->Option Value},(∀ v,(x,v)∉binds)->bindL J binds m x=m x
 | [],_,_=>rfl
 | (n,v)::r,m,h=>by
  unfold bindL
  rw [bindL_out λw hw=>h w (yAE _ hw)]
  split
  .have:x≠n:=by rintro rfl;exact h v yAD
   simp [this]
  .rfl
theorem bindC_out {J:Str->Option NameKind}{x:Str}:∀ {binds:List (Str×Value)} {m:Str->Option Value},(∀ v,(x,v)∉binds)->bindC J binds m x=m x
 | [],_,_=>rfl
 | (n,v)::r,m,h=>by
  unfold bindC
  rw [bindC_out λw hw=>h w (yAE _ hw)]
  split
  .rfl
  .have:x≠n:=by rintro rfl;exact h v yAD
   simp [this]
theorem bindL_get {J:Str->Option NameKind}{x:Str}{v:Value}:∀ {P:List Str} {vs:List Value} {i:Nat} {m:Str->Option Value},P.Nodup->P[i]?=some x->vs[i]?=some v->J x=some .local ->
  bindL J (P.zip vs) m x=some v
 | [],_,_,_,_,h,_,_=>by simp at h
 | _::_,[],_,_,_,_,h,_=>by simp at h
 | p::P,w::vs,0,m,nd,h1,h2,hk=>by
  simp at h1 h2;subst h1;subst h2
  show bindL J ((p,w)::P.zip vs) m p=_
  unfold bindL
  rw [bindL_out λv O=>(yDC.mp nd).1 (List.of_mem_zip O).1,if_pos hk]
  simp
 | p::P,w::vs,i+1,m,nd,h1,h2,hk=>by
  show bindL J ((p,w)::P.zip vs) m x=_
  unfold bindL
  exact bindL_get (i:=i) (yDC.mp nd).2 (by simpa using h1) (by simpa using h2) hk
theorem bindC_get {J:Str->Option NameKind}{x:Str}{v:Value}:∀ {P:List Str} {vs:List Value} {i:Nat} {m:Str->Option Value},P.Nodup->P[i]?=some x->vs[i]?=some v->J x≠some .local ->
  bindC J (P.zip vs) m x=some v
 | [],_,_,_,_,h,_,_=>by simp at h
 | _::_,[],_,_,_,_,h,_=>by simp at h
 | p::P,w::vs,0,m,nd,h1,h2,hk=>by
  simp at h1 h2;subst h1;subst h2
  show bindC J ((p,w)::P.zip vs) m p=_
  unfold bindC
  rw [bindC_out λv O=>(yDC.mp nd).1 (List.of_mem_zip O).1,if_neg hk]
  simp
 | p::P,w::vs,i+1,m,nd,h1,h2,hk=>by
  show bindC J ((p,w)::P.zip vs) m x=_
  unfold bindC
  exact bindC_get (i:=i) (yDC.mp nd).2 (by simpa using h1) (by simpa using h2) hk
noncomputable def start (N:List Str)(vs:List V):St:=vs.map some++List.replicate (N.length-vs.length) none
noncomputable def cxOf (CX:CXT)(P:Program)(w:World)(K:W.Frag)(mg:Str->Option Value)(base:Heap)(N:List Str)(qual:Str)(scope:Scope)(f:Addr)(cd:Value)(A:Around)(outer:List Env)(s:Shared)(H:Hp)(E:XK):Cx where
 prog:=P
 w:=w
 K:=K
 mg:=mg
 base:=base
 A:=A.deeper (envOfC qual scope s.heap.objs.size f cd)
 N:=N
 s₀:=s
 H₀:=H
 env:=envOfC qual scope s.heap.objs.size f cd
 outer:=outer
 stack:=envOfC qual scope s.heap.objs.size f cd::outer
 ex:=[]
 calm:=true
 fn:=λ_=>true
 pn:=[]
 xe:=λe s'=>wpAny (model P w) (A.deeper (envOfC qual scope s.heap.objs.size f cd)) (leaving (envOfC qual scope s.heap.objs.size f cd) e) (λ_ s''=>CX outer H s E e s'') (λe' s''=>CX outer H s E e' s'') s'
theorem ZDM {sc:Scope}{n:Nat}(h:sc.names.lookup x=some .cell):∃ c,(cellsFrom n sc.names []).lookup x=some c:=by
 have q:=PySem.W.cellsFrom_some sc.names n [] (.inl h)
 exact Option.isSome_iff_exists.mp q
theorem inv_start {mg:Str->Option Value}{N:List Str}{f:Addr}{cd:Value}{A:Around}{s1:Shared}{E:XK}
  (S:FnScope N ps scope) (hd:A.handled=none) (J:Env0 P w K mg base A outer s H) (hl:vs.length=ps.length) (r:Vals vs us)
  (x:InCallC s s.heap.objs.size (bindL (envOfC qual scope s.heap.objs.size f cd).kindOf (ps.zip us) λ_=>none) (cellsFrom (s.heap.objs.size+1) scope.names []) (bindC (envOfC qual scope s.heap.objs.size f cd).kindOf (ps.zip us) λ_=>none) s1) :
  Inv (cxOf CX P w K mg base N qual scope f cd A outer s H E) [] (start N vs) H s1:=by
 have a0:ps.length <= N.length:=by have:=congrArg List.length S.pre;rw [yAP] at this;omega
 obtain ⟨h1,tk,rfl,hk⟩:=x.done
 have O:∀ b:Addr,b∉(cxOf CX P w K mg base N qual scope f cd A outer s H E).ex:=λb z=>absurd (show b∈([]:List Addr) from z) (by simp)
 refine ⟨⟨J.mod,S.kind,rfl,rfl,yAB _,λy z c h1 h2=>?_,λy U=>?_,λy c _ h=>?_,λ_=>hd,Around.frames_deeper J.frames,.inr ⟨rfl,rfl⟩,λb z=>absurd z (O b),J.bs,J.bsz,λb _ _=>O b,λb z=>absurd z (O b),J.funs,J.frf⟩,
  rfl,J.bare,Un.kept hk,⟨_,x.toInCall.ns,λi y v h1 h2 h3=>?_⟩,λy c h=>⟨_,x.cell y c h⟩,J.hok.fresh (yAB _),λy c h=>?_,λp hp=>absurd (show p∈([]:List (Addr×Obj)) from hp) (by simp),J.hok.kept hk,?_⟩
 .exact name_of_addr x.apart (PySem.mem_of_lookup h1) (PySem.mem_of_lookup h2)
 .have U:scope.names.lookup y=some .cell∨scope.names.lookup y=some .free:=U
  rcases U with U | U
  .exact ZDM U
  .exact absurd rfl (S.nofree _ (PySem.mem_of_lookup U))
 .exact yCB (x.above y c (PySem.mem_of_lookup h))
 .have hi:i < vs.length:=by
   unfold start at h2
   by_cases hi:i < vs.length
   .exact hi
   .rw [yAT (by simpa using hi)] at h2
    rw [List.getElem?_replicate] at h2
    split at h2 <;> cases h2
  have ha:vs[i]?=some v:=by
   unfold start at h2
   rw [yBB (by simpa using hi),yAM] at h2
   cases e:vs[i]? with
   | none=>rw [e] at h2;cases h2
   | some a=>rw [e] at h2;cases h2;rfl
  obtain ⟨u,hu,rv⟩:=r.get ha
  have hp:ps[i]?=some y:=by
   rw [<- S.pre,yDD (by omega)];exact h1
  have Y:ps.Nodup:=by rw [<- S.pre];exact S.nd.sublist (List.take_sublist _ _)
  refine ⟨u,rv,?_⟩
  rcases S.par y (yAS hp) with k | k
  .exact .inl ⟨k,bindL_get Y hp hu k⟩
  .obtain ⟨c,e⟩:=ZDM (n:=s.heap.objs.size+1) k
   refine .inr ⟨.inl k,c,e,?_⟩
   have q:=x.cell y c e
   rw [bindC_get Y hp hu (by show scope.names.lookup y≠_;rw [k];decide)] at q
   exact q
 .exact J.hok.fresh (yCB (x.above y c (PySem.mem_of_lookup h)))
 .unfold start
  show _=N.length
  rw [yAC,yAA,yBV]
  omega
theorem fn_of {mg:Str->Option Value}{f:Addr}{name:Str}{U:Arguments}{dV kV a3 pm O ct oc:Value}{an od:Option Addr}
  {a5:Array (Option Value)} {N:List Str} {sp:Sp} (lk:K.lookup f=some ⟨oc,od,.func (W.fnOf name qual U body scope dV kV a3 pm an O ct),a5⟩) (a6:W.codeIn K O qual=true) (S:FnScope N ps scope)
  (len:∀ vs H Q E,sp vs H Q E->vs.length=ps.length)
  (a0:∀ (A:Around) (outer:List Env) (s:Shared) (H:Hp) (vs:List V) (Q:VK) (E:XK),Room k (A.deeper (envOfC qual scope s.heap.objs.size f O))->sp vs H Q E ->
   ∃ t,PSs (cxOf CX P w K mg base N qual scope f O A outer s H E) body t /\ t { nx:=λ_ H'=>Q .non H',rt:=Q } (start N vs) H) :
  FnOk P w K mg base CX (k+1) f (W.fnOf name qual U body scope dV kV a3 pm an O ct) ps sp:=by
 refine ⟨len,λA outer s H args us vs Q E hr e0 hb r a2=>?_⟩
 have hl:=len _ _ _ _ a2
 have KX:K.In s.heap:=e0.mod.kin.keeps λb o e=>(e0.bs b o e).1
 have a4:s.heap.NoLimit:=e0.mod.nolimit.keeps λb o e=>(e0.bs b o e).1
 have a1:∀ y∈ps.zip us,scope.names.lookup y.1=some .local∨(scope.names.lookup y.1=some .cell /\ ((cellsFrom (s.heap.objs.size+1) scope.names []).lookup y.1).isSome=true):=λ⟨n,v⟩ hy=>by
  rcases S.par n (List.of_mem_zip hy).1 with q | q
  .exact .inl q
  .exact .inr ⟨q,PySem.W.cellsFrom_some _ _ _ (.inl q)⟩
 refine codeAny_call_function hr.depth (KX _ _ lk) rfl S.co S.gen rfl (PySem.W.codeRec_of KX a6) (hb _ _ _ _ ?_)
 refine wpAny_newFunctionEnv_cells S.kind a1 λenv he s1 x=>?_
 subst he
 refine ⟨a4.keeps x.toInCall.keep,codeAny_func ?_⟩
 obtain ⟨t,ht,hq⟩:=a0 A outer s H vs Q E (hr.deeper _) a2
 have I:Inv (cxOf CX P w K mg base N qual scope f O A outer s H E) [] (start N vs) H s1:=inv_start S hr.hd e0 hl r x
 refine wpAny_mono (ht [] s1 (start N vs) H _ I hq) (λfl s' hs=>?_) λe s' hs=>hs
 have fin:∀ {Y:St} {H':Hp} {v:V} {u:Value},Inv (cxOf CX P w K mg base N qual scope f O A outer s H E) [] Y H' s'->RelV v u->Q v H'->CE outer P w H s Q u s' :=
  fun {Y H' v u} J rv q=>⟨v,H',J.os,J.bare,J.base,J.hok,rv,q⟩
 cases fl with
 | ret u=>
  obtain ⟨v,Y,H',J,rv,q⟩:=hs
  exact fin J rv q
 | next=>
  obtain ⟨Y,H',J,q⟩:=hs
  exact fin (v:=V.non) (u:=Value.none) J rfl q
 | brk=>
  obtain ⟨_,_,_,q⟩:=hs
  exact False.elim q
 | cont=>
  obtain ⟨_,_,_,q⟩:=hs
  exact False.elim q
section
variable {p:Pos}{es:List Expr}{t:TA}{id T:String}{r:List V->Hp->VK->Prop}
def tCB (r:List V->Hp->VK->Prop)(t:TA):TE:=λσ H Q=>t σ H λvs H1=>r vs H1 Q
theorem ZAK (hc:ZCE X (.builtin id) r)(U:Gl X x)(hm:X.mg x=none)(hv:bootBuiltins x=some (.builtin id))(ha:PA X (e::es) t)(hn:x≠"__name__":=by decide)(O:(x == ("__debug__":Str))=false:=by decide)
  (he:starEach (e::es) X.env=(false,eval e X.env)::starEach es X.env:=by rfl) (J:(backTo pos (starEach es X.env)).any (·.1)=false:=by rfl):PE X (.Call (.Name x p) (e::es) [] pos) (tCB r t):=by
 intro pins s σ H Q I h
 refine wpAny_Call_Name_kw (ZCw I U hm hv ?_ hn O)
 exact PyProof.Rows.callWith_builtin1 (thn (ha pos pins s σ H _ I h) λus s1 ⟨vs,H1,Y,r1,q1⟩=>hc pins s1 σ H1 vs us Q Y r1 q1) he J
theorem ZAi (hc:ZCE X (.type T) r)(U:Gl X x)(hm:X.mg x=none)(hv:bootBuiltins x=some (.type T))(ha:PA X (e::es) t)(hn:x≠"__name__":=by decide)(O:(x == ("__debug__":Str))=false:=by decide)
  (he:starEach (e::es) X.env=(false,eval e X.env)::starEach es X.env:=by rfl) (J:(backTo pos (starEach es X.env)).any (·.1)=false:=by rfl):PE X (.Call (.Name x p) (e::es) [] pos) (tCB r t):=by
 intro pins s σ H Q I h
 refine wpAny_Call_Name_kw (ZCw I U hm hv ?_ hn O)
 exact PyProof.Rows.callWith_type1 (thn (ha pos pins s σ H _ I h) λus s1 ⟨vs,H1,Y,r1,q1⟩=>hc pins s1 σ H1 vs us Q Y r1 q1) he J
end
end L2
namespace HT
open PySem PyProof.Rows
section
variable {prog:Program}{w:World}{A:Around}{E:Value->Shared->Prop}{s:Shared}
noncomputable def sIx (n d:Nat):Option Int->Nat
 | none=>d
 | some v=>if v < 0 then (v+(n:Int)).toNat else min v.toNat n
theorem sIx_none (n d:Nat):sIx n d none=d:=rfl
theorem sIx_nat (n d k:Nat):sIx n d (some (k:Int))=min k n:=by
 show (if (k:Int) < 0 then ((k:Int)+(n:Int)).toNat else min (k:Int).toNat n)=min k n
 rw [if_neg (by omega),Int.toNat_natCast]
end
end HT
namespace L2
open PySem PySem.Spec PyProof.Rows
variable {H:Hp}{its us:List Value}{σ:St}{t':Nat}{x:V}
noncomputable abbrev TO:=St->Hp->(Option Int->Hp->Prop)->Prop
def PO (X:Cx)(e:Option Expr)(t:TO):Prop :=
 ∀ (pins:List (Addr×Obj)) (s:Shared) (σ:St) (H:Hp) (Q:Option Int->Hp->Prop),Inv X pins σ H s->t σ H Q ->
  wpAny (model X.prog X.w) X.A (evalPart e X.env) (λu s'=>∃ o H',Inv X pins σ H' s' /\ IsPart u o /\ Q o H') X.xe s
def tNoPart:TO:=λ_ H Q=>Q none H
def tPart (t:TE):TO:=λσ H Q=>t σ H λx H1=>onI x λi=>Q (some i) H1
theorem intsAre_of {ns:List Int}:∀ {us:List Value},Vals (ns.map V.int) us->IntsAre us ns:=by
 induction ns with
 | nil=>intro us r;rw [List.map_nil] at r;cases r;exact .nil
 | cons n ns ih=>
  intro us r
  rw [yAZ] at r
  cases r with
  | cons r1 r2=>
   obtain ⟨t,e⟩:=r1
   subst e
   exact .cons n t (ih r2)
section
variable {X:Cx}{e:Expr}{te:TE}{lo hi:Option Expr}{tl th:TO}{pos p2:Pos}
theorem po_none:PO X none tNoPart:=by
 intro pins s σ H Q I h
 rw [evalPart_none]
 exact wpAny_pure ⟨none,H,I,.none,h⟩
theorem ZB3 (h:PE X e te):PO X (some e) (tPart te):=by
 intro pins s σ H Q I hw
 rw [evalPart_some]
 refine thn (h pins s σ H _ I hw) λu s1 zz=>?_
 obtain ⟨x,H1,J,U,O⟩:=zz
 obtain ⟨i,rfl,q⟩:=ZEs O
 obtain ⟨t,rfl⟩:=U
 exact ⟨some i,H1,J,.int i t,q⟩
def SlR (X:Cx)(r:V->Option Int->Option Int->Hp->VK->Prop):Prop :=
 ∀ (pins:List (Addr×Obj)) (s:Shared) (σ:St) (H:Hp) (x:V) (v vl vu:Value) (lo hi:Option Int) (sl:Addr) (Q:VK),Inv X pins σ H s->RelV x v->s.heap.IsSliceOf sl vl vu .none->IsPart vl lo->IsPart vu hi->r x lo hi H Q ->
  ∃ T id,typeLookup (.type T) "__getitem__"=pure (some (.builtin id)) /\ s.TypeIs v T /\ wpAny (model X.prog X.w) X.A (getItem v (.ref sl)) (EP X pins σ Q) X.xe s
def tSl (r:V->Option Int->Option Int->Hp->VK->Prop)(te:TE)(tl th:TO):TE:=λσ H Q=>te σ H λx H1=>tl σ H1 λl H2=>th σ H2 λu H3=>r x l u H3 Q
theorem ZCv {r:V->Option Int->Option Int->Hp->VK->Prop}(hr:SlR X r)(he:PE X e te)(hl:PO X lo tl)(hu:PO X hi th):PE X (.Subscript e (.Slice lo hi none p2) pos) (tSl r te tl th):=by
 intro pins s σ H Q I h
 refine Subscript_ (thn (he pins s σ H _ I h) λv s1 zz=>?_)
 obtain ⟨x,H1,I1,r1,q1⟩:=zz
 refine wpAny_Slice (thn (hl pins s1 σ H1 _ I1 q1) λO s2 ⟨l,H2,I2,pl,q2⟩=>thn (hu pins s2 σ H2 _ I2 q2) λU J zz=>?_)
 obtain ⟨u,H3,I3,pu,q3⟩:=zz
 rw [evalPart_none]
 refine wpAny_pure ?_
 have I4:Inv X pins σ H3 { J with heap:=J.heap.push { cls:=.type "slice",data:=.fields #[O,U,.none] } }:=I3.kept (t':=J.toks) λb ob q=>Heap.get?_push_of_some _ q
 obtain ⟨T,id,hT,ht,Y⟩:=hr pins { J with heap:=J.heap.push { cls:=.type "slice",data:=.fields #[O,U,.none] } } σ H3 x v O U l u J.heap.objs.size Q I4 r1 (Heap.IsSliceOf.new ..) pl pu q3
 show wpAny (model X.prog X.w) X.A (subscriptTail e (.Slice lo hi none p2) v (.ref J.heap.objs.size)) (EP X pins σ Q) X.xe { J with heap:=J.heap.push { cls:=.type "slice",data:=.fields #[O,U,.none] } }
 exact tail_any (ops:=[.ref J.heap.objs.size,v]) ht hT Y (by with_unfolding_all rfl)
noncomputable def cutV (xs:List V)(lo hi:Option Int):List V:=(xs.drop (HT.sIx xs.length 0 lo)).take (HT.sIx xs.length xs.length hi-HT.sIx xs.length 0 lo)
theorem cutV_length (xs:List V)(lo hi:Option Int):(cutV xs lo hi).length <= xs.length:=by
 unfold cutV
 rw [yAP,yAX]
 omega
end
noncomputable def ixN (n:Nat)(i:Int):Option Nat:=if 0 <= i then (if i < n then some i.toNat else none) else if -(n:Int) <= i then some (i+n).toNat else none
noncomputable def atI {α:Type}(xs:List α)(i:Int):Option α:=(ixN xs.length i).bind λj=>xs[j]?
theorem ixN_seq {n:Nat}{i:Int}{j:Nat}(h:ixN n i=some j):seqIndex? i n=some j /\ j < n /\ -(n:Int) <= i /\ i < n:=by
 unfold ixN at h
 by_cases h0:0 <= i
 .rw [if_pos h0] at h
  by_cases h1:i < n
  .rw [if_pos h1] at h
   have e:i.toNat=j:=Option.some.inj h
   exact ⟨by rw [seqIndex_of h0 h1,e],by omega,by omega,h1⟩
  .rw [if_neg h1] at h;cases h
 .rw [if_neg h0] at h
  by_cases h1:-(n:Int) <= i
  .rw [if_pos h1] at h
   have e:(i+n).toNat=j:=Option.some.inj h
   exact ⟨by rw [seqIndex_neg (by omega) h1,e],by omega,h1,by omega⟩
  .rw [if_neg h1] at h;cases h
theorem atI_get {α:Type}{xs:List α}{i:Int}{v:α}(h:atI xs i=some v):∃ j,seqIndex? i xs.length=some j /\ xs[j]?=some v /\ j < xs.length /\ -(xs.length:Int) <= i /\ i < xs.length:=by
 unfold atI at h
 cases e:ixN xs.length i with
 | none=>rw [e] at h;cases h
 | some j=>
  rw [e] at h
  obtain ⟨h1,h2,h3,J⟩:=ixN_seq e
  exact ⟨j,h1,h,h2,h3,J⟩
theorem atI_nat {α:Type}{xs:List α}{j:Nat}{v:α}(h:xs[j]?=some v):atI xs (j:Int)=some v:=by
 have J:j < xs.length:=(yAO.mp h).1
 have e:ixN xs.length (j:Int)=some j:=by
  unfold ixN
  rw [if_pos (by omega),if_pos (by omega)];simp
 unfold atI;rw [e];exact h
def PlainIx (b:Expr):Prop:=∀ o i,subscripted b false o i=operate [o,i] (getItem o i)
def IxR (X:Cx)(r:R2):Prop :=
 ∀ (value slice:Expr) (pins:List (Addr×Obj)) (s:Shared) (σ:St) (H:Hp) (x y:V) (v u:Value) (Q:VK),Inv X pins σ H s->RelV x v->RelV y u->r x y H Q ->
  subscripted slice false v u=operate [v,u] (getItem v u)->wpAny (model X.prog X.w) X.A (subscriptTail value slice v u) (EP X pins σ Q) X.xe s
def MtR (X:Cx)(id:String)(r:V->List V->Hp->VK->Prop):Prop :=
 ∀ (pins:List (Addr×Obj)) (s:Shared) (σ:St) (H:Hp) (x:V) (xs:List V) (v:Value) (us:List Value) (Q:VK),Inv X pins σ H s->RelV x v->Vals xs us->r x xs H Q ->
  wpAny (model X.prog X.w) X.A (call (.builtin id) (v::us)) (EP X pins σ Q) X.xe s
section
variable {X:Cx}{a b:Expr}{ta tb:TE}{pos:Pos}
theorem ZAg {r:R2}(U:IxR X r)(ha:PE X a ta)(Y:PE X b tb)(O:PlainIx b):PE X (.Subscript a b pos) (tOp r ta tb):=by
 intro pins s σ H Q I h
 exact Subscript_ (binT ha Y I h λv u s2 x y H2 I2 rx J q=>U a b pins s2 σ H2 x y v u Q I2 rx J q (O _ _))
def rIxL (K:W.Frag):R2:=λx y H Q=>∃ p xs i v,x=.ref p /\ y=.int i /\ SqL K H p xs /\ atI xs i=some v /\ Q v H
def rIxT (K:W.Frag):R2:=λx y H Q=>∃ p xs i v,x=.ref p /\ y=.int i /\ SqT K H p xs /\ atI xs i=some v /\ Q v H
theorem ZAd:IxR X (rIxL X.K):=by
 intro value O pins s σ H x y v u Q I rx ry h hs
 obtain ⟨p,xs,i,z,rfl,rfl,hq,he,q⟩:=h
 cases rx
 obtain ⟨t,rfl⟩:=ry
 obtain ⟨its,r,pl,hz⟩:=I.list hq
 obtain ⟨j,h1,h2,h3,h4,h5⟩:=atI_get he
 obtain ⟨w,Y,U⟩:=r.get h2
 have hl:=r.length
 have hn:=ZEu
 have fin:EP X pins σ Q w s:=⟨z,H,I,U,q⟩
 by_cases h0:0 <= i
 .have J:i.toNat=j:=by
   rw [seqIndex_of h0 h5] at h1
   exact Option.some.inj h1
  exact item_listR pl.isList h0 (by omega) (by rw [J];simpa using Y) fin hs
 .have J:(i+(its.toArray.size:Int)).toNat=j:=by
   rw [seqIndex_neg (by omega) h4] at h1
   rw [yAU,<- hl]
   exact Option.some.inj h1
  exact subscriptTail_builtinR (x:=w) pl.isList.typeIs slot_list_getitem.lookup
   (wpAny_getItem_list_neg (Q:=λr s'=>r=w /\ EP X pins σ Q r s') pl.isList (by omega) (by rw [yAU] <;> omega) (by omega) (by rw [J];simpa using Y) ⟨rfl,fin⟩) hs
theorem ZA4:IxR X (rIxT X.K):=by
 intro value J pins s σ H x y v u Q I rx Y h hs
 obtain ⟨p,xs,i,z,rfl,rfl,hq,he,q⟩:=h
 cases rx
 obtain ⟨t,rfl⟩:=Y
 obtain ⟨its,r,pl,hz⟩:=I.tuple hq
 obtain ⟨j,h1,h2,h3,h4,h5⟩:=atI_get he
 obtain ⟨w,U,O⟩:=r.get h2
 have hl:=r.length
 have hn:=ZEu
 have fin:EP X pins σ Q w s:=⟨z,H,I,O,q⟩
 exact subscriptTail_builtinR (x:=w) pl.typeIs slot_tuple_getitem.lookup
  (getItem_tuple (j:=j) (Q:=λr s'=>r=w /\ EP X pins σ Q r s') pl (by omega) (by omega) (by rw [yAU,<- hl];exact h1) (by simpa using U) ⟨rfl,fin⟩) hs
theorem mapSeq_set (its:List Value)(n j:Nat)(u:Value):Obj.mapSeq (·.setIfInBounds j u) { cls:=.type "list",data:=.seq its.toArray n }={ cls:=.type "list",data:=.seq (its.set j u).toArray n }:=by
 simp [Obj.mapSeq]
theorem Inv.lst {pins:List (Addr×Obj)}{σ:St}{H:Hp}{s:Shared}{p:Addr}{xs:List V}(I:Inv X pins σ H s)(h:H p=some (.lst xs)) :
  ∃ (its:List Value) (n:Nat),Vals xs its /\ s.heap.get? p=some { cls:=.type "list",data:=.seq its.toArray n } /\ xs.length <= sizeLine:=by
 obtain ⟨z,its,n,r,e⟩:=I.hok p _ h
 exact ⟨its,n,r,e,z⟩
theorem Inv.lstUpd {pins:List (Addr×Obj)}{s:Shared}{p:Addr}{xs ys:List V}{its':List Value}{n J:Nat}{f:Obj->Obj}(I:Inv X pins σ H s)(h:H p=some (.lst xs))
  (U:s.heap.get? p=some { cls:=.type "list",data:=.seq its.toArray n }) (O:f { cls:=.type "list",data:=.seq its.toArray n }={ cls:=.type "list",data:=.seq its'.toArray J }) (r:Vals ys its') (hz:ys.length <= sizeLine) (t:Nat) :
  Inv X pins σ (upd H p (.lst ys)) { s with heap:=s.heap.update p f,toks:=t }:=by
 have e:(s.heap.update p f).get? p=some { cls:=.type "list",data:=.seq its'.toArray J }:=by
  rw [Heap.get?_update_self f U (by rw [O] <;> rfl),O]
 refine I.write (x:=p) (e:=p) (by rw [h];trivial) (.inl rfl) (λb u Y q=>(Heap.get?_update_other _ _ (Ne.symm Y)).trans q) ⟨_,e⟩ ?_
 exact ⟨hz,its',J,r,e⟩
inductive rSetL:V->V->V->Hp->(Hp->Prop)->Prop
 | mk {o_ i_ v_ Z N} (p xs k j:_):o_=.ref p->i_=.int k->Z p=some (.lst xs)->ixN xs.length k=some j->N (upd Z p (.lst (xs.set j v_)))->rSetL o_ i_ v_ Z N
theorem ZDu:PSet X rSetL:=by
 intro pins s σ H o i v ov iv u Q I ro ri rv h
 obtain ⟨p,xs,k,j,rfl,rfl,hp,hj,q⟩:=h
 cases ro
 obtain ⟨t,rfl⟩:=ri
 obtain ⟨its,n,r,J,hz⟩:=I.lst hp
 obtain ⟨h1,h2,h3,Y⟩:=ixN_seq hj
 have hl:=r.length
 have hn:=ZEu
 have U:Inv X pins σ (upd H p (.lst (xs.set j v))) { s with heap:=s.heap.update p (Obj.mapSeq (·.setIfInBounds j u)) } :=
  I.lstUpd hp J (mapSeq_set its n j u) (r.set rv j) (by rw [yDE];exact hz) s.toks
 by_cases h0:0 <= k
 .have O:k.toNat=j:=by
   rw [seqIndex_of h0 Y] at h1
   exact Option.some.inj h1
  exact PySem.W.ki_setAt J h0 (by omega) (by rw [yAU,<- hl];exact Y) (by rw [O];exact ⟨_,U,q⟩)
 .have O:(k+(its.toArray.size:Int)).toNat=j:=by
   rw [seqIndex_neg (by omega) h3] at h1
   rw [yAU,<- hl]
   exact Option.some.inj h1
  exact PySem.W.ki_setBack J (by omega) (by rw [yAU,<- hl];exact h3) (by omega) (by rw [O];exact ⟨_,U,q⟩)
theorem slice_bounds (lo hi:Option Int)(n:Nat):(sliceBounds lo hi none n).1=((HT.sIx n 0 lo:Nat):Int) /\ (sliceBounds lo hi none n).2.1=((HT.sIx n n hi:Nat):Int) /\ (sliceBounds lo hi none n).2.2=1:=by
 refine ⟨?_,?_,rfl⟩
 .cases lo with
  | none=>simp [sliceBounds,HT.sIx]
  | some i=>
   simp only [sliceBounds,HT.sIx,Option.getD_none,show (1:Int) > 0 by decide,if_true]
   by_cases h:i < 0
   .simp only [h,if_true] <;> omega
   .simp only [h,if_false] <;> omega
 .cases hi with
  | none=>simp [sliceBounds,HT.sIx]
  | some i=>
   simp only [sliceBounds,HT.sIx,Option.getD_none,show (1:Int) > 0 by decide,if_true]
   by_cases h:i < 0
   .simp only [h,if_true] <;> omega
   .simp only [h,if_false] <;> omega
theorem slicePick_cut (its:List Value)(lo hi:Option Int):slicePick its.toArray lo hi none=((its.drop (HT.sIx its.length 0 lo)).take (HT.sIx its.length its.length hi-HT.sIx its.length 0 lo)).toArray:=by
 obtain ⟨h1,h2,h3⟩:=slice_bounds lo hi its.toArray.size
 unfold slicePick
 rw [h1,h2,h3]
 simp only [sliceRange_one,pick_run,yAU] <;> rfl
def rSlL (K:W.Frag):V->Option Int->Option Int->Hp->VK->Prop:=λx lo hi H Q=>∃ a xs,x=.ref a /\ SqL K H a xs /\ ∀ p,H p=none->Q (.ref p) (upd H p (.lst (cutV xs lo hi)))
theorem ZDP:SlR X (rSlL X.K):=by
 intro pins s σ H x v vl vu lo hi sl Q I rx hs pl U h
 obtain ⟨a,xs,rfl,Y,q⟩:=h
 cases rx
 obtain ⟨its,r,O,hz⟩:=I.list Y
 have J:=r.length
 refine ⟨"list",_,slot_list_getitem.lookup,O.isList.typeIs,?_⟩
 refine wpAny_getItem_list_slice O.isList hs pl U .none (by simp) ?_ (by rw [yAU] <;> omega)
 rw [slicePick_cut,<- J]
 refine ⟨.ref s.heap.objs.size,_,I.laid (t':=s.toks) (o:=.lst (cutV xs lo hi)) (λb ob q=>Heap.get?_push_of_some _ q) (yAB _) ?_,rfl,q _ (I.hok.fresh (yAB _))⟩
 exact ⟨yAL (cutV_length xs lo hi) hz,_,0,(r.drop (HT.sIx xs.length 0 lo)).take (HT.sIx xs.length xs.length hi-HT.sIx xs.length 0 lo),Heap.get?_push_size _ rfl⟩
theorem ZAI:ZCE X (.builtin "len") (λxs H Q=>∃ p ys,xs=[.ref p] /\ (SqL X.K H p ys∨SqT X.K H p ys) /\ Q (.int ys.length) H):=by
 intro pins s σ H xs us Q I r h
 obtain ⟨p,ys,rfl,O,q⟩:=h
 obtain ⟨u,rfl,U⟩:=ZC0 r
 cases U
 have hn:=ZEu
 rcases O with O | O
 .obtain ⟨its,r',pl,Y⟩:=I.list O
  have J:=r'.length
  exact Calls.call_len_list pl.isList (by simp only [yAU] <;> omega) ⟨.int ys.length,H,I.tok _,⟨s.toks+1,by rw [yAU,J]⟩,q⟩
 .obtain ⟨its,r',pl,Y⟩:=I.tuple O
  have J:=r'.length
  exact len_tuple pl (by simp only [yAU] <;> omega) ⟨.int ys.length,H,I.tok _,⟨s.toks+1,by rw [yAU,J]⟩,q⟩
theorem ZBR:ZCE X (.type "list") (λxs H Q=>∃ p ys,xs=[.ref p] /\ (SqL X.K H p ys∨SqT X.K H p ys) /\ ∀ l,H l=none->Q (.ref l) (upd H l (.lst ys))):=by
 intro pins s σ H xs us Q I r h
 obtain ⟨p,ys,rfl,O,q⟩:=h
 obtain ⟨u,rfl,rx⟩:=ZC0 r
 cases rx
 have fin:∀ (its:List Value),Vals ys its->ys.length <= sizeLine->∀ (h':Heap) (c':Nat),(∀ b o',s.heap.get? b=some o'->h'.get? b=some o') ->
   h'.get? s.heap.objs.size=some { cls:=.type "list",dict:=none,data:=.seq its.toArray c',slots:=#[] }->EP X pins σ Q (.ref s.heap.objs.size) { s with heap:=h' }:=λits r' Y h' c' U e=>
  ⟨.ref s.heap.objs.size,_,I.laid (t':=s.toks) U (yAB _) (show ObjOk X.prog X.w _ h' _ (.lst ys) from ⟨Y,its,c',r',e⟩),rfl,q _ (I.hok.fresh (yAB _))⟩
 rcases O with O | O
 .obtain ⟨its,r',pl,Y⟩:=I.list O
  have J:=r'.length
  obtain ⟨o,ho,hc,n,hd⟩:=pl.isList
  exact call_list_seq p (.inl rfl) ho hc hd (λh' c' U e=>fin its r' Y h' c' U e) (by simp only [yAU] <;> omega)
 .obtain ⟨its,r',pl,Y⟩:=I.tuple O
  have J:=r'.length
  obtain ⟨o,ho,hc,n,hd⟩:=pl
  exact call_list_seq p (.inr rfl) ho hc hd (λh' c' U e=>fin its r' Y h' c' U e) (by simp only [yAU] <;> omega)
def tyV (K:W.Frag)(T:String)(x:V)(H:Hp):Prop:=match x with
 | .str _=>T="str"
 | .int _=>T="int"
 | .ref p=>(T="list" /\ ∃ xs,SqL K H p xs)∨(T="tuple" /\ ∃ o,K.lookup p=some o /\ o.cls=.type "tuple" /\ o.dict=none) ∨
   (T="dict" /\ ((∃ kvs,H p=some (.dK kvs))∨∃ kvs,H p=some (.dT kvs)))∨(T="set" /\ ∃ S n,H p=some (.set S n))
 | _=>False
theorem tyV_is {pins:List (Addr×Obj)}{s:Shared}{T:String}{v:Value}(I:Inv X pins σ H s)(r:RelV x v)(ty:tyV X.K T x H) :
  s.TypeIs v T /\ ∀ a,v=.ref a->∃ Y,s.heap.get? a=some Y /\ Y.dict=none:=by
 cases x with
 | str z=>
  obtain ⟨t,rfl⟩:=r
  cases (show T="str" from ty)
  exact ⟨typeIs_str s z t,λ_ e=>nomatch e⟩
 | int i=>
  obtain ⟨t,rfl⟩:=r
  cases (show T="int" from ty)
  exact ⟨typeIs_int s i t,λ_ e=>nomatch e⟩
 | ref p=>
  cases r
  rcases ty with ⟨rfl,xs,hq⟩ | ⟨rfl,o,J,hc,U⟩ | ⟨rfl,J⟩ | ⟨rfl,S,n,J⟩
  .obtain ⟨its,_,pl,_⟩:=I.list hq
   refine ⟨pl.isList.typeIs,λa e=>?_⟩
   cases e
   obtain ⟨o,n,e,c,U,_⟩:=pl
   exact ⟨o,e,U⟩
  .refine ⟨⟨o,I.kIn p o J,hc⟩,λa e=>?_⟩
   cases e
   exact ⟨o,I.kIn _ o J,U⟩
  .have z:∃ o,s.heap.get? p=some o /\ o.ExactDict:=by
    rcases J with ⟨kvs,J⟩ | ⟨kvs,J⟩
    .obtain ⟨_,_,_,_,o,_,_,e,ex,_⟩:=I.hok p _ J
     exact ⟨o,e,ex⟩
    .obtain ⟨_,_,_,_,o,_,_,e,ex,_⟩:=I.hok p _ J
     exact ⟨o,e,ex⟩
   obtain ⟨o,e,ex⟩:=z
   refine ⟨⟨o,e,ex.1⟩,λa O=>?_⟩
   cases O
   exact ⟨o,e,ex.2.1⟩
  .obtain ⟨o,_,_,_,e,ex,_⟩:=I.hok p _ J
   refine ⟨⟨o,e,ex.1⟩,λa O=>?_⟩
   cases O
   exact ⟨o,e,ex.2.1⟩
 | _=>exact False.elim ty
def tBM0 (K:W.Frag)(T:String)(r:V->List V->Hp->VK->Prop)(to:TE):TE:=λσ H Q=>to σ H λx H1=>tyV K T x H1 /\ r x [] H1 Q
def tBM (K:W.Frag)(T:String)(r:V->List V->Hp->VK->Prop)(to:TE)(t:TA):TE:=λσ H Q=>to σ H λx H1=>tyV K T x H1 /\ t σ H1 λxs H2=>r x xs H2 Q
variable {o e:Expr}{es:List Expr}{to:TE}{t:TA}{name:Str}{apos cpos:Pos}{T id:String}{r:V->List V->Hp->VK->Prop}
theorem ZEJ (pa:PlainAttrs T)(slot:Slot T name id)(U:typeOf (.builtin id)=pure (.type "method_descriptor"))(hm:MtR X id r)(ho:PE X o to)
  (O:attributeBase o name X.env (eval o X.env)=eval o X.env:=by rfl) (J:(apos.endLine == cpos.line)=true:=by rfl):PE X (.Call (.Attribute o name apos) [] [] cpos) (tBM0 X.K T r to):=by
 intro pins s σ H Q I h
 refine wpAny_Call_method0_late O J (thn (ho pins s σ H _ I h) λv s1 zz=>?_)
 obtain ⟨x,H1,Y,r1,ty,q1⟩:=zz
 obtain ⟨h1,h2⟩:=tyV_is Y r1 ty
 exact ⟨T,id,pa,slot,U,h1,h2,Calls.callWith_builtin rfl (PySem.evalArgs_none (hm pins s1 σ H1 x [] v [] Q Y r1 .nil q1))⟩
theorem ZB4 (pa:PlainAttrs T)(slot:Slot T name id)(a0:typeOf (.builtin id)=pure (.type "method_descriptor"))(hm:MtR X id r)(ho:PE X o to)(ha:PA X (e::es) t)
  (U:attributeBase o name X.env (eval o X.env)=eval o X.env:=by rfl)
  (Y:((backTo cpos (starEach (e::es) X.env)).all (λx=>!x.1) && (backToKw cpos (keywordEach [] X.env)).all (λx=>x.1.isSome)
   && decide ((e::es).length+([]:List Keyword).length+(if ([]:List Keyword).isEmpty then 0 else 1) < 30))=true:=by rfl)
  (O:(apos.endLine == cpos.line)=true:=by rfl) (hs:starEach (e::es) X.env=(false,eval e X.env)::starEach es X.env:=by rfl) (J:(backTo cpos (starEach es X.env)).any (·.1)=false:=by rfl) :
  PE X (.Call (.Attribute o name apos) (e::es) [] cpos) (tBM X.K T r to t):=by
 intro pins s σ H Q I h
 refine wpAny_Call_method_late U Y O rfl (thn (ho pins s σ H _ I h) λv s1 zz=>?_)
 obtain ⟨x,H1,I1,r1,ty,q1⟩:=zz
 obtain ⟨h1,h2⟩:=tyV_is I1 r1 ty
 refine ⟨T,id,pa,slot,a0,h1,h2,?_⟩
 have hA:=ha cpos pins s1 σ H1 _ I1 q1
 rw [hs] at hA ⊢
 refine Calls.callWith_builtin (by show (false || (backTo cpos (starEach es X.env)).any (·.1))=false;rw [J] <;> rfl) (Calls.evalArgs_plain ?_)
 exact thn hA λus s2 ⟨vs,H2,I2,r2,q2⟩=>hm pins s2 σ H2 x vs v us Q I2 r1 r2 q2
end
def MtM (X:Cx)(id:String)(r:V->List V->Hp->VK->Prop):Prop :=
 ∀ (pins:List (Addr×Obj)) (s:Shared) (σ:St) (H:Hp) (x:V) (xs:List V) (v:Value) (us:List Value) (Q:VK),Inv X pins σ H s->RelV x v->Vals xs us->r x xs H Q ->
  wpAny (model X.prog X.w) X.A (call (.builtin id) (v::us)) (EP X pins σ Q) X.xe s
theorem Vals.one (r:Vals [x] us):∃ u,us=[u] /\ RelV x u:=ZC0 r
theorem Vals.two {y:V}(r:Vals [x,y] us):∃ u v,us=[u,v] /\ RelV x u /\ RelV y v:=ZE0 r
theorem Vals.zero:∀ {us:List Value},Vals [] us->us=[]
 | _,.nil=>rfl
theorem Vals.eraseIdx:∀ {xs:List V} {us:List Value} (i:Nat),Vals xs us->Vals (xs.eraseIdx i) (us.eraseIdx i)
 | _,_,_,.nil=>.nil
 | _,_,0,.cons _ t=>t
 | _,_,i+1,.cons r t=>.cons r (Vals.eraseIdx i t)
theorem Vals.reverse {xs:List V}(h:Vals xs us):Vals xs.reverse us.reverse:=by
 induction h with
 | nil=>exact .nil
 | cons r t ih=>rw [List.reverse_cons,List.reverse_cons];exact Vals.append ih (.cons r .nil)
theorem len_erase {α:Type}:∀ (l:List α) (i:Nat),(l.eraseIdx i).length <= l.length
 | [],_=>yAB _
 | _::_,0=>yBF _
 | _::r,i+1=>Nat.succ_le_succ (len_erase r i)
section
variable {X:Cx}{pins:List (Addr×Obj)}{s:Shared}{l b:Addr}{xs ys zs:List V}
theorem Inv.lset {its':List Value}{n:Nat}{f:Array Value->Array Value}(I:Inv X pins σ H s)(hH:H l=some (.lst xs))
  (e:s.heap.get? l=some { cls:=.type "list",data:=.seq its.toArray n }) (U:f its.toArray=its'.toArray) (Y:Vals ys its') (hz:ys.length <= sizeLine) :
  Inv X pins σ (upd H l (.lst ys)) { s with heap:=s.heap.update l (Obj.mapSeq f),toks:=t' }:=by
 have q:=PySem.IsL.update e f
 rw [U] at q
 refine I.write (x:=l) (e:=l) (by rw [hH];exact trivial) (.inl rfl) (λb' u J O=>(Heap.get?_update_other s.heap (Obj.mapSeq f) (Ne.symm J)).trans O) ⟨_,q⟩ ?_
 exact ⟨hz,its',_,Y,q⟩
theorem Inv.lnew (I:Inv X pins σ H s)(J:Vals ys its)(O:ys.length <= sizeLine) :
  Inv X pins σ (upd H s.heap.objs.size (.lst ys)) { s with heap:=s.heap.push { cls:=.type "list",data:=.seq its.toArray },toks:=t' } :=
 I.laid (λ_ _ q=>Heap.get?_push_of_some _ q) (yAB _) ⟨O,its,0,J,Heap.get?_push_size _ rfl⟩
theorem Inv.fresh (I:Inv X pins σ H s):H s.heap.objs.size=none:=I.hok.fresh (yAB _)
theorem Inv.lstM (I:Inv X pins σ H s)(J:H l=some (.lst xs)):xs.length <= sizeLine /\ ∃ (its:List Value) (n:Nat),Vals xs its /\ xs.length=its.length /\ s.heap.get? l=some { cls:=.type "list",data:=.seq its.toArray n }:=by
 obtain ⟨z,its,n,r,e⟩:=I.hok l _ J
 exact ⟨z,its,n,r,r.length,e⟩
theorem notLongL {n:Nat}(h:n <= sizeLine):Builtin.List.listTooLong n=false:=by
 unfold Builtin.List.listTooLong
 exact decide_eq_false (by omega)
end
section
variable {X:Cx}
inductive rAppend:V->List V->Hp->VK->Prop
 | mk (l xs y:_):x_=.ref l->M=[y]->Z l=some (.lst xs)->xs.length < sizeLine->N .non (upd Z l (.lst (xs++[y])))->rAppend x_ M Z N
theorem ZA7:MtM X "list.append" rAppend:=by
 intro pins s σ H x vs v us Q I U O h
 obtain ⟨l,xs,y,rfl,rfl,J,Y,q⟩:=h
 cases U
 obtain ⟨u,rfl,ru⟩:=O.one
 obtain ⟨z,its,n,r,hl,e⟩:=I.lstM J
 refine call_meets F.slot_list_append ⟨_,e,rfl⟩ F.entry_list_append (F.args_list_append_2 _ _) (PySem.list_append l its.toArray n u (by rw [yAU];omega)) ⟨e,?_⟩
 refine ⟨.non,_,I.lset (its':=its++[u]) J e (by simp) (r.append (.cons ru .nil)) ?_,rfl,q⟩
 rw [yAC,yBD]
 omega
inductive rExtend:V->List V->Hp->VK->Prop
 | mk (l b xs zs:_):x_=.ref l->M=[.ref b]->Z l=some (.lst xs)->Z b=some (.lst zs)->xs.length+zs.length <= sizeLine->N .non (upd Z l (.lst (xs++zs)))->rExtend x_ M Z N
theorem mt_extend:MtM X "list.extend" rExtend:=by
 intro pins s σ H x vs v us Q I rx rv h
 obtain ⟨l,b,xs,zs,rfl,rfl,U,hB,hz,q⟩:=h
 cases rx
 obtain ⟨u,rfl,ru⟩:=rv.one
 cases ru
 obtain ⟨z,its,n,r,hl,e⟩:=I.lstM U
 obtain ⟨z2,J,n2,Y,a0,e2⟩:=I.lstM hB
 have hsz:its.toArray.size+J.toArray.size <= sizeLine:=by rw [yAU,yAU];omega
 have O:¬ (!its.toArray.isEmpty && Builtin.List.listTooLong (its.toArray.size+J.toArray.size))=true:=by
  rw [notLongL hsz,Bool.and_false]
  exact yBH
 refine call_meets F.slot_list_extend ⟨_,e,rfl⟩ F.entry_list_extend (F.args_list_extend_2 _ _)
  (AutoSeq1.list_extend_list_list_0 l its.toArray n b J.toArray n2 O (by rw [yAU];omega) (by omega)) ⟨e,e2,?_⟩
 refine ⟨.non,_,I.lset (its':=its++J) U e (by simp) (r.append Y) ?_,rfl,q⟩
 rw [yAC]
 omega
inductive rPopAt:V->List V->Hp->VK->Prop
 | mk (l xs i k y:_):x_=.ref l->M=[.int i]->Z l=some (.lst xs)->-(2 ^ 63) <= i->i < 2 ^ 63->seqIndex? i xs.length=some k->xs[k]?=some y->N y (upd Z l (.lst (xs.eraseIdx k)))->rPopAt x_ M Z N
theorem ZDG:MtM X "list.pop" rPopAt:=by
 intro pins s σ H x vs v us Q I rx U h
 obtain ⟨l,xs,i,k,y,rfl,rfl,O,h1,h2,hk,Y,q⟩:=h
 cases rx
 obtain ⟨u,rfl,ru⟩:=U.one
 obtain ⟨t,rfl⟩:=ru
 obtain ⟨z,its,n,r,hl,e⟩:=I.lstM O
 obtain ⟨w,hw,J⟩:=r.get Y
 refine call_meets F.slot_list_pop ⟨_,e,rfl⟩ F.entry_list_pop (F.args_list_pop_2 _ _)
  (MeetsSeq.list_pop_at l its.toArray n i t k w (fitsIndex_both h1 h2) (by rw [yAU,<- hl];exact hk) (by rw [<- yBK];exact hw) (by rw [yAU];omega)) ⟨e,?_⟩
 refine ⟨y,_,I.lset (its':=its.eraseIdx k) O e ?_ (r.eraseIdx k) ?_,J,q⟩
 .show its.toArray.eraseIdxIfInBounds k=(its.eraseIdx k).toArray
  rw [List.eraseIdxIfInBounds_toArray]
 .have:=len_erase xs k
  omega
inductive rReverse:V->List V->Hp->VK->Prop
 | mk (l xs:_):x_=.ref l->M=[]->Z l=some (.lst xs)->N .non (upd Z l (.lst xs.reverse))->rReverse x_ M Z N
theorem mt_reverse:MtM X "list.reverse" rReverse:=by
 intro pins s σ H x vs v us Q I Y U h
 obtain ⟨l,xs,rfl,rfl,O,q⟩:=h
 cases Y
 have J:=U.zero
 subst J
 obtain ⟨z,its,n,r,hl,e⟩:=I.lstM O
 refine call_meets F.slot_list_reverse ⟨_,e,rfl⟩ F.entry_list_reverse (F.args_list_reverse_1 _) (AutoSeq1.list_reverse_list_0 l its.toArray n (by rw [yAU];omega)) ⟨e,?_⟩
 refine ⟨.non,_,I.lset (its':=its.reverse) O e (by simp) r.reverse ?_,rfl,q⟩
 rw [yCP]
 omega
inductive rCat:V->V->Hp->VK->Prop
 | mk (l b xs zs:_):x_=.ref l->y_=.ref b->Z l=some (.lst xs)->Z b=some (.lst zs)->xs.length+zs.length <= sizeLine->(∀ p,Z p=none->N (.ref p) (upd Z p (.lst (xs++zs))))->rCat x_ y_ Z N
theorem ZEM:OpR X (binaryOp .Add) rCat:=by
 intro pins s σ H x y v u Q I rx Y h
 obtain ⟨l,b,xs,zs,rfl,rfl,hH,hB,hz,q⟩:=h
 cases rx
 cases Y
 obtain ⟨z,its,n,r,hl,e⟩:=I.lstM hH
 obtain ⟨z2,J,n2,O,a0,e2⟩:=I.lstM hB
 refine PySem.P.add_list e e2 ?_ (by rw [yAU,yAU];omega)
 have U:its.toArray++J.toArray=(its++J).toArray:=by simp
 rw [U]
 exact ⟨.ref _,_,I.lnew (t':=s.toks) (r.append O) (by rw [yAC];omega),rfl,q _ I.fresh⟩
end
end L2
namespace Att
open PySem PySem.W PySem.Calls PyProof.Rows
theorem ints_of_wellAll {P:Params}{h:Heap}:∀ (ns:List Int) (vs:List Value),WellAll P h vs (ns.map WData.int)->IntsAre vs ns:=by
 intro ns
 induction ns with
 | nil=>
  intro vs w
  rw [List.map_nil] at w
  cases w
  exact .nil
 | cons n ns ih=>
  intro vs w
  rw [yAZ] at w
  cases w with
  | cons a b=>
   cases a
   exact .cons _ _ (ih _ b)
theorem script_of {l:OpenLaw}{n:Nat}(hn:l.most=some n){P:Params}{h:Heap}{args:List WData}{J:List Value}
  (O:l.row.toRowW.claim.pre args=true) (a0:WellAll P h J args) :
  ∃ a vs ns,J=[Value.ref a] /\ args=[WData.list (ns.map WData.int)] /\ h.get? a=some { cls:=.type "list",data:=.seq vs.toArray } /\ IntsAre vs ns /\ ns.length <= n:=by
 have a1:WShape.hasAll [] args [.list .int]=true:=(pre_splitW O).1
 have hc:l.pre.holds [] { args:=args }=true:=(pre_splitW O).2
 obtain ⟨d,r,rfl,h1,h2⟩:=hasAllW_cons a1
 obtain rfl:=hasAllW_nil h2
 obtain ⟨xs,rfl,h3⟩:=hasW_list h1
 obtain ⟨ns,rfl⟩:=items_int h3
 have U:ns.length <= n:=by
  unfold OpenLaw.pre at hc
  have h4:(WTm.not (.lt (.lit (.int (n:Int))) (.len (.arg 0)))).holds [] { args:=[.list (ns.map .int)] }=true:=by
   have h4:=(holds_andW hc).1
   rw [hn] at h4
   exact h4
  have Y:=condW_of h4 (w_not (w_lt w_lit (w_len_list (w_arg rfl))))
  rw [yAA] at Y
  refine Nat.le_of_not_lt λq=>?_
  have q':(n:Int) < ((ns.length:Nat):Int):=by omega
  first
   | (rw [decide_eq_true q'] at Y;exact absurd Y (by decide))
   | (simp at Y;omega)
 cases a0 with
 | cons w1 w2=>
  cases w2
  cases w1 with
  | list ho hall=>exact ⟨_,_,ns,rfl,rfl,ho,ints_of_wellAll ns _ hall,U⟩
theorem post_true (l:OpenLaw)(args:List WData):l.row.toRowW.claim.post args (.bool true) args=true :=
 postW_of (r:=l.row.toRowW) (X:=(true == true))
  (show WShape.has [] (.bool true) .bool=true by first | rfl | decide | simp [WShape.has,WShape.arms,WShape.armsAll])
  (show (WTm.eq .res (.lit (.bool true))).value [] { args:=args,res:=some (.bool true),after:=args }=some (.bool (true == true)) from w_eq_bool (w_res rfl) w_lit) rfl
theorem attach_call {l:OpenLaw}{n:Nat}{q:Program}{loose:List Str}{XP:(Str->Option Value)->Heap->Prop}{YP:World->Heap->Prop}{d:DefRec}
  (hn:l.most=some n) (a2:d.params.defaults=[])
  (call:∀ (w:World) (s₀ s₁:Shared) (mg mb:Str->Option Value) (fa:Addr) (o:Obj) (pm cd O:Value) (a:Addr) (vs:List Value) (ns:List Int),
   Ground q loose [] XP w s₀ mg mb s₁.heap->YP w s₁.heap ->
   s₁.heap.get? fa=some o->o.data=.func (docDef d.name d.params d.body d.scope pm cd O)->s₁.heap.CodeRec cd d.name->mg d.name=some (.ref fa) ->
   s₁.heap.get? a=some { cls:=.type "list",data:=.seq vs.toArray }->IntsAre vs ns->ns.length <= n->s₁.gens=#[] ->
   codeAny (model l.prog w) callerA (.call (.ref fa) ⟨[.ref a],[]⟩) (λr s'=>r=.ok (.ret (.bool true)) /\ OldK s₁.heap s'.heap /\ s'.os=s₁.os /\ AllBare s'.gens) s₁) :
  WalkO q loose XP YP l.row.toRowW d [] (λf vs=>PySem.call f vs):=by
 intro w s₀ s₁ mg mb G Y fa o pm cd O dV kV ho hd a5 hD a4 hg args a6 as a1 a7 a8 a3 a9
 obtain rfl:dV=.none:=Dflts.none hD a2
 obtain rfl:kV=.none:=Dflts.noKw hD
 obtain ⟨a,vs,ns,rfl,rfl,U,J,a0⟩:=script_of hn a1 a3
 refine enter_call (codeAny_mono (call w s₀ s₁ mg mb fa o pm cd O a vs ns G Y ho (fd_plain hd) a5 a4 U J a0 hg) λr s' hq=>?_)
 obtain ⟨rfl,h2,h3,h4⟩:=hq
 exact ⟨.inl ⟨.bool true,.bool true,[],rfl,λ_=>rfl,.bool true,post_true l _,λ_=>⟨List.Pairwise.nil,λ_ hm=>(nomatch hm)⟩⟩,h2,h3,h4⟩
end Att
namespace L2
open PySem PySem.Spec PyProof.Rows
variable {P:Program}{J O f0 f1 f3 f5 f6 iname iq qual x:Str}{fd:FuncData}{od:Option Addr}{U Y v v0 v1 v2 v3 v4 y:V}{ta te tl tv:TE}{hi i j lo:Int}{pos tpos:Pos}{K:W.Frag}{X:Cx}{C Pt a b c dx f p:Addr}{σ σ0:St}{Q:VK}{H H' H1:Hp}{fl:List (Str×V)}{oc ty:Value}{D:Ends}{g:TG}{cs xs:List V}{ip:Arguments}{dv:List Value}{isc scope:Scope}{s:Shared}{js:List Nat}{env:Env}{o:HO}{mg:Str->Option Value}{sp:Sp}{CX:CXT}{ib:List Stmt}{outer:List Env}{k tk:Nat}{base h h':Heap}{cl:List (Str×Addr)}{tt:TT}{ps:List Str}{tb:TS}{w:World}
theorem ZCp:∀ {vs:List Value} {ns:List Int},IntsAre vs ns->Vals (ns.map V.int) vs
 | _,_,.nil=>.nil
 | _,_,.cons n t h=>.cons ⟨t,rfl⟩ (ZCp h)
noncomputable def ZAf (s:Stmt)(j:Nat):Stmt:=match s with
 | .ClassDef _ _ _ body _ _ _ _ _ _ _=>body.getD j (.Pass ⟨0,0,0,0⟩)
 | _=>.Pass ⟨0,0,0,0⟩
noncomputable def ZA1 (s:Stmt):Arguments:=match s with
 | .FunctionDef _ a _ _ _ _ _ _ _ _=>a
 | _=>{ posonlyargs:=[],args:=[],vararg:=none,kwonlyargs:=[],kw_defaults:=[],kwarg:=none,defaults:=[] }
noncomputable def ZAs (s:Stmt):List Stmt:=match s with
 | .FunctionDef _ _ b _ _ _ _ _ _ _=>b
 | _=>[]
noncomputable def ZAG (s:Stmt):Scope:=match s with
 | .FunctionDef _ _ _ _ _ _ sc _ _ _=>sc
 | _=>{ kind:=.function,names:=[],isGenerator:=false,isCoroutine:=false }
noncomputable abbrev CX0:CXT:=λ_ _ _ _ _ _=>False
noncomputable abbrev E0:XK:=λ_ _ _=>False
theorem ZAS:ZCD CX0 X E0:=λ_ _ _ _ _ _ _ h=>h.elim
structure Fun (K:W.Frag)(x qual:Str)(st:Stmt)(f:Addr)(fd:FuncData):Prop where
 ex:∃ (oc:Value) (od:Option Addr) (kV doc pm:Value) (an:Option Addr) (cdv ct:Value) (osl:Array (Option Value)),
  fd=W.fnOf x qual (ZA1 st) (ZAs st) (ZAG st) .none kV doc pm an cdv ct /\ K.lookup f=some ⟨oc,od,.func fd,osl⟩ /\ W.codeIn K cdv qual=true
 kp:W.keepIn K (.ref f)=true
section
theorem Fun.ok {st:Stmt}{N:List Str}(F:Fun K x qual st f fd)(S:FnScope N ps (ZAG st))(len:∀ vs H Q E,sp vs H Q E->vs.length=ps.length)
  (O:∀ (J:Value) (A:Around) (outer:List Env) (s:Shared) (H:Hp) (vs:List V) (Q:VK) (E:XK),Room k (A.deeper (envOfC qual (ZAG st) s.heap.objs.size f J))->sp vs H Q E ->
   ∃ t,PSs (cxOf CX0 P w K mg base N qual (ZAG st) f J A outer s H E).nox (ZAs st) t /\ t { nx:=λ_ H'=>Q .non H',rt:=Q } (start N vs) H):FnOk P w K mg base CX0 (k+1) f fd ps sp:=by
 obtain ⟨oc,od,kV,a1,pm,an,J,ct,a0,rfl,lk,Y⟩:=F.ex
 refine fn_of lk Y S len λA outer s H vs Q E hr U=>?_
 obtain ⟨t,h,q⟩:=O J A outer s H vs Q E hr U
 exact ⟨t,h.nox,q⟩
theorem Fun.binds {st:Stmt}(F:Fun K x qual st f fd)
  (h:∀ (kV J U:Value) (an:Option Addr) (O ct:Value) (us:List Value),us.length=ps.length->bindArgs (W.fnOf x qual (ZA1 st) (ZAs st) (ZAG st) .none kV J U an O ct) ⟨us,[]⟩=pure (ps.zip us)):Binds K fd ps []:=by
 obtain ⟨oc,od,kV,J,U,an,O,ct,Y,rfl,lk,a0⟩:=F.ex
 exact .all (h kV J U an O ct)
theorem ZAZ {st:Stmt}{an:Option Addr}{U:Array (Option Value)}{O Y J ct:Value}(l:K.lookup f=some ⟨oc,od,.func (W.fnOf x qual (ZA1 st) (ZAs st) (ZAG st) .none ty O Y an J ct),U⟩)
  (c:W.codeIn K J qual=true) (k:W.keepIn K (.ref f)=true):Fun K x qual st f (W.fnOf x qual (ZA1 st) (ZAs st) (ZAG st) .none ty O Y an J ct):=⟨⟨oc,od,ty,O,Y,an,J,ct,U,rfl,l,c⟩,k⟩
end
theorem ZE8 {A:Around}(J:Room k A):A.units+1 < cLine:=Nat.lt_of_le_of_lt (Nat.add_le_add_left (by decide:1 <= 64) _) J.units
theorem ZAk {n:Nat}(h:n <= 1000):n < sizeLine:=Nat.lt_of_le_of_lt h (by decide)
section
theorem pv (i:Nat)(O:X.N[i]?=some x:=by rfl)(Y:Vis X.env.scope x:=by first | exact Or.inl rfl | exact Or.inr (Or.inl rfl) | exact Or.inr (Or.inr rfl))(U:(x == ("__debug__":Str))=false:=by decide)
  (J:(x == ("__classdict__":Str))=false:=by decide):PE X (.Name x pos) (tVar i):=pe_var O Y U J
end
def Same (H H':Hp):Prop:=∀ b o,H b=some o->H' b=some o
theorem Same.refl (H:Hp):Same H H:=λ_ _ h=>h
theorem Same.trans {H2:Hp}(a:Same H H1)(b:Same H1 H2):Same H H2:=λc o h=>b c o (a c o h)
theorem Same.free (e:Same H H'){l:Addr}(h:H' l=Option.none):H l=Option.none:=by
 cases q:H l with
 | none=>rfl
 | some o=>
  rw [e l o q] at h
  cases h
theorem Same.seq (e:Same H H')(h:SqL K H a xs):SqL K H' a xs:=by
 rcases h with (h | ⟨o,h⟩) | h
 .exact .inl (.inl (e _ _ h))
 .exact .inl (.inr ⟨o,e _ _ h⟩)
 .exact .inr h
theorem natlt (h:a < b):@LT.lt Nat _ a b:=h
theorem ZDl {n:Nat}(h:a < n)(k:n <= b):a≠b:=yAQ (yBC h k)
theorem ZA3:∀ (names:List (Str×NameKind)) (n:Nat) (acc:List (Str×Addr)),cellsFrom n names acc=cellsFrom n names []++acc
 | [],_,_=>rfl
 | (x,k)::r,n,acc=>by
  unfold cellsFrom
  split
  .rw [ZA3 r (n+1) ((x,n)::acc),ZA3 r (n+1) [(x,n)],yAN];rfl
  .exact ZA3 r n acc
theorem ZCA:∀ (names:List (Str×NameKind)) (n:Nat) (acc:List (Str×Addr)) (y:Str) (c:Addr),(y,c)∈cellsFrom n names acc->(y,c)∈acc∨((y,NameKind.cell)∈names /\ n <= c)
 | [],_,_,_,_,h=>.inl h
 | (x,k)::r,n,acc,y,c,h=>by
  unfold cellsFrom at h
  split at h
  .rename_i hk
   have J:k=.cell:=by simpa using hk
   rcases ZCA r (n+1) _ y c h with h | ⟨h,l⟩
   .rcases yAI.mp h with e | h
    .cases e;subst J;exact .inr ⟨yAD,yAB _⟩
    .exact .inl h
   .exact .inr ⟨yAE _ h,Nat.le_of_succ_le l⟩
  .rcases ZCA r n _ y c h with h | ⟨h,l⟩
   .exact .inl h
   .exact .inr ⟨yAE _ h,l⟩
noncomputable def closFrom (cells:List (Str×Addr)):List (Str×NameKind)->List (Str×Addr)->List (Str×Addr)
 | [],acc=>acc
 | (x,k)::r,acc=>if k == .free then closFrom cells r ((x,(cells.lookup x).getD 0)::acc) else closFrom cells r acc
theorem ZBo {cells:List (Str×Addr)}:∀ (names:List (Str×NameKind)) (acc:List (Str×Addr)) (y:Str) (c:Addr),(y,c)∈closFrom cells names acc->(y,c)∈acc∨((y,NameKind.free)∈names /\ c=(cells.lookup y).getD 0)
 | [],_,_,_,h=>.inl h
 | (x,k)::r,acc,y,c,h=>by
  unfold closFrom at h
  split at h
  .rename_i hk
   have J:k=.free:=by simpa using hk
   rcases ZBo r _ y c h with h | ⟨h,l⟩
   .rcases yAI.mp h with e | h
    .cases e;subst J;exact .inr ⟨yAD,rfl⟩
    .exact .inl h
   .exact .inr ⟨yAE _ h,l⟩
  .rcases ZBo r _ y c h with h | ⟨h,l⟩
   .exact .inl h
   .exact .inr ⟨yAE _ h,l⟩
theorem ZCL {cells:List (Str×Addr)}:∀ (names:List (Str×NameKind)) (acc:List (Str×Addr)) (p:Str×Addr),p∈acc->p∈closFrom cells names acc
 | [],_,_,h=>h
 | (x,k)::r,acc,p,h=>by
  unfold closFrom
  split
  .exact ZCL r _ p (yAE _ h)
  .exact ZCL r _ p h
theorem ZBp {cells:List (Str×Addr)}:∀ (names:List (Str×NameKind)) (acc:List (Str×Addr)) (y:Str),(y,NameKind.free)∈names->(y,(cells.lookup y).getD 0)∈closFrom cells names acc
 | [],_,_,h=>nomatch h
 | (x,k)::r,acc,y,h=>by
  unfold closFrom
  rcases yAI.mp h with e | h
  .cases e
   rw [if_pos (by rfl)]
   exact ZCL r _ _ yAD
  .split
   .exact ZBp r _ y h
   .exact ZBp r _ y h
theorem ZBZ {α:Type}:∀ {l:List (Str×α)} {y:Str} {c:α},(y,c)∈l->∃ c',l.lookup y=some c'
 | (k,v)::r,y,c,h=>by
  rw [yCI]
  cases hb:y == k with
  | true=>exact ⟨v,rfl⟩
  | false=>
   rcases yAI.mp h with e | h
   .cases e;rw [beq_self_eq_true] at hb;cases hb
   .exact ZBZ h
theorem ZB9 {env:Env}(f:Str×NameKind->List (Str×Addr)->Sem (ForInStep (List (Str×Addr))))
  (J:∀ name kind cs,f (name,kind) cs=if kind == .free then (do let a <- cellOf env name;pure (.yield ((name,a)::cs))) else pure (.yield cs)) :
  ∀ (names:List (Str×NameKind)) (acc:List (Str×Addr)),(∀ x,(x,NameKind.free)∈names->∃ c,env.cells.lookup x=some c)->forIn names acc f=(pure (closFrom env.cells names acc):Sem (List (Str×Addr)))
 | [],acc,_=>by rw [List.forIn_nil];rfl
 | (x,k)::r,acc,h=>by
  have U:∀ x,(x,NameKind.free)∈r->∃ c,env.cells.lookup x=some c:=λy Y=>h y (yAE _ Y)
  rw [List.forIn_cons,J]
  unfold closFrom
  split
  .rename_i hk
   have O:k=.free:=by simpa using hk
   subst O
   obtain ⟨c,hc⟩:=h x yAD
   have e:cellOf env x=(pure c:Sem Addr):=by unfold cellOf;rw [hc]
   rw [e,hc]
   exact ZB9 f J r ((x,c)::acc) U
  .exact ZB9 f J r acc U
theorem closureFor_eq (h:∀ x,(x,NameKind.free)∈scope.names->∃ c,env.cells.lookup x=some c):closureFor scope env=pure (closFrom env.cells scope.names []):=by
 simp only [closureFor]
 rw [ZB9 _ (λname kind cs=>by cases hk:kind == NameKind.free <;> simp [hk]) scope.names [] h]
 rfl
section
variable {M:Model}{A:Around}{E:Value->Shared->Prop}
theorem newEnv_comp {globals:Addr}{Q:Env->Shared->Prop}
  (J:Q { scope:=scope,locals:=s.heap.objs.size,globals:=globals,cells:=cellsFrom (s.heap.objs.size+1) scope.names cl,qual:=qual,func:=none,code:=env.code,frame:=env.frame,builtins:=env.builtins }
   { s with heap:=pushCells (s.heap.push { cls:=.type "dict",data:=.dict #[] }) scope.names }) :
  wpAny M A (newFunctionEnv scope globals cl [] qual none .none (some env)) Q E s:=by
 simp only [newFunctionEnv,Option.isSome_some,if_true]
 refine wpAny_bind (wpAny_alloc ?_)
 refine wpAny_bind (wpAny_layCells _ (λname kind cells=>by cases hkc:kind == NameKind.cell <;> simp [hkc]) _ _ _ _ ?_)
 rw [show ({ s with heap:=s.heap.push { cls:=.type "dict",data:=.dict #[] } }:Shared).heap.objs.size=s.heap.objs.size+1 from Heap.size_push ..]
 rw [List.forIn_nil]
 exact wpAny_bind (wpAny_pure (wpAny_pure J))
end
theorem relabel_lookup (x:Str):(relabel scope env).names.lookup x=(scope.names.lookup x).map λk=>if (k == .free && env.scope.kind == .function && env.kindOf x == some .cell)=true then NameKind.cell else k:=by
 unfold relabel
 dsimp only
 generalize scope.names=names
 induction names with
 | nil=>rfl
 | cons p r ih=>
  obtain ⟨n,k⟩:=p
  rw [yAZ,yCI (as:=r)]
  cases hx:x == n with
  | true=>
   have e:x=n:=beq_iff_eq.mp hx
   subst e
   by_cases hc:(k == NameKind.free && env.scope.kind == .function && env.kindOf x == some .cell)=true
   .simp only [hc,if_true,yCI,hx,yCJ]
   .simp only [hc,yDF,if_false,yCI,hx,yCJ]
  | false=>
   by_cases hc:(k == NameKind.free && env.scope.kind == .function && env.kindOf n == some .cell)=true
   .simp only [hc,if_true,yCI,hx];exact ih
   .simp only [hc,yDF,if_false,yCI,hx];exact ih
noncomputable def ZDL (N:List Str)(osc:Scope)(k:Nat)(js:List Nat)(N':List Str)(sc:Scope):Bool :=
 decide (sc.kind=.function) && decide (N'.length=k+js.length) && decide N'.Nodup &&
 sc.names.all (λp=>decide (sc.names.lookup p.1=some p.2) && (decide (p.2≠.free) || decide (osc.names.lookup p.1=some .cell) || decide (osc.names.lookup p.1=some .free))) &&
 (List.range js.length).all (λi=>decide (js[i]?.bind (λj=>N[j]?)=N'[k+i]?) && decide ((N'[k+i]?).bind (λy=>sc.names.lookup y)=some .free))
structure CmpOk (N:List Str)(osc:Scope)(k:Nat)(js:List Nat)(N':List Str)(sc:Scope):Prop where
 kind:sc.kind=.function
 len:N'.length=k+js.length
 nd:N'.Nodup
 look:∀ p∈sc.names,sc.names.lookup p.1=some p.2
 fr:∀ y,(y,NameKind.free)∈sc.names->osc.names.lookup y=some .cell∨osc.names.lookup y=some .free
 js:∀ i j,js[i]?=some j->∃ y,N'[k+i]?=some y /\ N[j]?=some y /\ sc.names.lookup y=some .free
theorem cmpOk {N:List Str}{J:Scope}{N':List Str}{sc:Scope}(h:ZDL N J k js N' sc=true):CmpOk N J k js N' sc:=by
 unfold ZDL at h
 simp only [yBX,decide_eq_true_eq,List.all_eq_true,Bool.or_eq_true,List.mem_range] at h
 obtain ⟨⟨⟨⟨h1,h2⟩,h3⟩,U⟩,Y⟩:=h
 refine ⟨h1,h2,h3,λp hp=>(U p hp).1,λy hy=>?_,λi j O=>?_⟩
 .rcases (U _ hy).2 with (z | z) | z
  .exact absurd rfl z
  .exact .inl z
  .exact .inr z
 .have hi:i < js.length:=(yAO.mp O).1
  obtain ⟨a,b⟩:=Y i hi
  rw [O] at a
  cases e:N'[k+i]? with
  | none=>rw [e] at b;cases b
  | some y=>
   rw [e] at a b
   exact ⟨y,rfl,a,b⟩
noncomputable def ZEE (scope:Scope)(cl:List (Str×Addr))(C:Addr)(env:Env):Env :=
 { scope:=relabel scope env,locals:=C,globals:=env.globals,cells:=cellsFrom (C+1) scope.names cl,qual:=env.qual,func:=none,code:=env.code,frame:=env.frame,builtins:=env.builtins }
noncomputable def ZBy (X:Cx)(N':List Str)(scope:Scope)(C:Addr)(fp:List Addr)(s2:Shared)(H2:Hp):Cx where
 prog:=X.prog
 w:=X.w
 K:=X.K
 mg:=X.mg
 base:=X.base
 A:=X.A
 N:=N'
 s₀:=s2
 H₀:=H2
 env:=ZEE scope (closFrom X.env.cells scope.names []) C X.env
 outer:=X.stack
 stack:=X.stack
 ex:=fp
 fn:=λx=>decide (scope.names.lookup x=some .cell)
 calm:=X.calm
 pn:=[]
 xe:=λ_ _=>False
noncomputable def up (k:Nat)(js:List Nat)(σ:St):St:=List.replicate k none++js.map λj=>(σ[j]?).getD none
section
variable {pins:List (Addr×Obj)}{s2:Shared}{N':List Str}{fp:List Addr}
theorem comp_inv (hc:CmpOk X.N X.env.scope k js N' scope)(I:Inv X pins σ H s2)(a1:∀ b∈fp,FpOk X pins H b)(a5:∀ b∈fp,b < s2.heap.objs.size){h3:Heap}(hz:h3.objs.size=s2.heap.objs.size+1)(a8:∀ b o,s2.heap.get? b=some o->h3.get? b=some o) :
  Inv (ZBy X N' scope (s2.heap.objs.size+1) fp s2 H) [] (up k js σ) H { s2 with heap:=pushCells (h3.push { cls:=.type "dict",data:=.dict #[] }) scope.names }:=by
 have U:∀ y,(y,NameKind.free)∈scope.names->∃ c,X.env.cells.lookup y=some c:=λy hy=>I.ok.has y (hc.fr y hy)
 have a3:=cellsFrom_ok scope.names (h3.push { cls:=.type "dict",data:=.dict #[] }) (s2.heap.objs.size+2) [] ⟨λ_ _ hm=>(nomatch hm),List.Pairwise.nil⟩ (by rw [Heap.size_push,hz];exact yAB _)
 rw [Heap.size_push,hz] at a3
 have J:∀ y c,(ZEE scope (closFrom X.env.cells scope.names []) (s2.heap.objs.size+1) X.env).cells.lookup y=some c ->
   ((y,c)∈cellsFrom (s2.heap.objs.size+2) scope.names [] /\ (y,NameKind.cell)∈scope.names /\ s2.heap.objs.size+2 <= c)∨((y,NameKind.free)∈scope.names /\ X.env.cells.lookup y=some c):=λy c e=>by
  have m:=PySem.mem_of_lookup e
  change (y,c)∈cellsFrom (s2.heap.objs.size+1+1) scope.names _ at m
  rw [ZA3] at m
  rcases yAY.mp m with m | m
  .rcases ZCA _ _ _ _ _ m with z | ⟨z,l⟩
   .cases z
   .exact .inl ⟨m,z,l⟩
  .rcases ZBo _ _ _ _ m with z | ⟨z,l⟩
   .cases z
   .obtain ⟨c',e'⟩:=U y z
    rw [e'] at l
    exact .inr ⟨z,by rw [e'];exact congrArg some l.symm⟩
 have a7:∀ y c,X.env.cells.lookup y=some c->c < s2.heap.objs.size:=λy c e=>by
  obtain ⟨v,q⟩:=I.cell y c e
  exact q.lt
 have Y:∀ y,(y,NameKind.free)∈scope.names->∀ c,X.env.cells.lookup y=some c->(ZEE scope (closFrom X.env.cells scope.names []) (s2.heap.objs.size+1) X.env).cells.lookup y=some c:=λy hy c e=>by
  have m:(y,c)∈cellsFrom (s2.heap.objs.size+1+1) scope.names (closFrom X.env.cells scope.names []):=by
   rw [ZA3]
   have q:=ZBp (cells:=X.env.cells) scope.names [] y hy
   rw [e] at q
   exact yAW _ q
  obtain ⟨c',q⟩:=ZBZ m
  rcases J y c' q with ⟨_,z,_⟩ | ⟨_,z⟩
  .have z1:=hc.look _ z
   have z2:=hc.look _ hy
   rw [z1] at z2
   cases z2
  .rw [e] at z
   cases z
   exact q
 have O:∀ b o,s2.heap.get? b=some o->(pushCells (h3.push { cls:=.type "dict",data:=.dict #[] }) scope.names).get? b=some o:=λb o e=>pushCells_keeps _ _ b o (Heap.get?_push_of_some _ (a8 b o e))
 refine ⟨⟨I.ok.mod,hc.kind,I.ok.glob,I.ok.blt,yBF _,λy z c h1 h2=>?_,λy hy=>?_,λy c h1 h2=>?_,I.ok.hd,I.ok.frames,.inl rfl,λb hb=>⟨?_,λy c e=>?_⟩,I.bs,yAL I.ok.bsz I.sz,λb o e hb=>?_,λb hb hs=>?_,I.stack,I.stkFree⟩,
  rfl,I.bare,Un.kept O,⟨λ_=>none,?_,λi y v e1 e2 e3=>?_⟩,λy c e=>?_,I.hok.fresh (yBF _),λy c e=>?_,λp hp=>absurd (show p∈([]:List (Addr×Obj)) from hp) (by simp),I.hok.kept O,?_⟩
 .
  rcases J y c h1 with ⟨a,_,l⟩ | ⟨_,a⟩ <;> rcases J z c h2 with ⟨b,_,l'⟩ | ⟨_,b⟩
  .exact name_of_addr a3.apart a b
  .have:=natlt (a7 z c b);omega
  .have:=natlt (a7 y c a);omega
  .exact I.ok.inj y z c a b
 .
  have a0:(relabel scope X.env).names.lookup y=some .cell∨(relabel scope X.env).names.lookup y=some .free:=hy
  rw [relabel_lookup] at a0
  have q:scope.names.lookup y=some .cell∨scope.names.lookup y=some .free:=by
   cases e:scope.names.lookup y with
   | none=>rw [e] at a0;rcases a0 with z | z <;> cases z
   | some kk=>
    rw [e] at a0
    cases kk <;> first | exact .inl rfl | exact .inr rfl | (rcases a0 with z | z <;> simp at z)
  rcases q with q | q
  .obtain ⟨c,e⟩:=ZDM (n:=s2.heap.objs.size+1+1) q
   have m:(y,c)∈cellsFrom (s2.heap.objs.size+1+1) scope.names (closFrom X.env.cells scope.names []):=by
    rw [ZA3]
    exact yBS _ (PySem.mem_of_lookup e)
   exact ZBZ m
  .have m:=PySem.mem_of_lookup q
   obtain ⟨c,e⟩:=U y m
   exact ⟨c,Y y m c e⟩
 .
  have a9:scope.names.lookup y=some .cell:=of_decide_eq_true h1
  rcases J y c h2 with ⟨_,_,l⟩ | ⟨z,_⟩
  .show s2.heap.objs.size <= c
   omega
  .have:=hc.look _ z
   rw [a9] at this
   cases this
 .
  exact ZDl (a5 b hb) (yBF _)
 .rcases J y c e with ⟨_,_,l⟩ | ⟨_,z⟩
  .exact (ZDl (a5 b hb) (yAL (Nat.le_add_right _ 2) l)).symm
  .exact (a1 b hb).2.2.2.2.1 y c z
 .
  rcases (a1 b hb).2.2.2.1 with z | z
  .exact I.ok.noex b o e z
  .exact absurd (yBC (Heap.lt_size e) (yAL I.ok.bsz z)) (yBR _)
 .
  rcases yAI.mp (I.stkSub b hs) with z | z
  .exact (a1 b hb).2.1 z
  .exact (a1 b hb).2.2.1 z
 .
  have q:=(Heap.Ns.new h3 (.type "dict")).keeps (pushCells_keeps scope.names _)
  rw [hz] at q
  exact q
 .
  unfold up at e2
  have a4:k <= i:=by
   by_cases hi:i < k
   .rw [yBB (by simpa using hi),List.getElem?_replicate] at e2
    rw [if_pos hi] at e2
    cases e2
   .omega
  rw [yAT (by simpa using a4),yBV,yAM] at e2
  cases ej:js[i-k]? with
  | none=>rw [ej] at e2;cases e2
  | some j=>
   rw [ej] at e2
   have a2:(σ[j]?).getD none=some v:=Option.some.inj e2
   have e4:σ[j]?=some (some v):=by
    cases q:σ[j]? with
    | none=>rw [q] at a2;cases a2
    | some z=>rw [q] at a2;exact congrArg some a2
   obtain ⟨y',n1,n2,n3⟩:=hc.js _ _ ej
   rw [Nat.add_sub_cancel' a4] at n1
   have n0:N'[i]?=some y:=e1
   rw [n1] at n0
   cases n0
   have hm:=PySem.mem_of_lookup n3
   have a6:Vis X.env.scope y:=.inr (hc.fr y hm)
   obtain ⟨m,hn,hl⟩:=I.loc
   obtain ⟨u,r,l⟩:=hl j y v n2 e4 a6
   refine ⟨u,r,?_⟩
   rcases l with ⟨kk,_⟩ | ⟨kk,c,ec,ic⟩
   .have aa:X.env.scope.names.lookup y=some .local:=kk
    rcases hc.fr y hm with z | z <;> (rw [aa] at z;cases z)
   .refine .inr ⟨?_,c,Y y hm c ec,ic.keeps O⟩
    show (relabel scope X.env).names.lookup y=some .cell∨(relabel scope X.env).names.lookup y=some .free
    rw [relabel_lookup,n3]
    simp only [yCJ]
    split
    .exact .inl rfl
    .exact .inr rfl
 .
  rcases J y c e with ⟨a,_,_⟩ | ⟨_,a⟩
  .exact ⟨none,(a3.empty y c a).1⟩
  .obtain ⟨v,q⟩:=I.cell y c a
   exact ⟨v,q.keeps O⟩
 .rcases J y c e with ⟨_,_,l⟩ | ⟨_,a⟩
  .exact I.hok.fresh (by omega)
  .exact I.freeC y c a
 .unfold up
  show _=N'.length
  rw [yAC,yBV,yAA,hc.len]
theorem comp_end {a1:St}{s':Shared}{D:Addr}{its:List Value}{n:Nat}{ys:List V}(I:Inv X pins σ H s2)(a3:∀ b∈fp,FpOk X pins H b)(hC:s2.heap.objs.size <= C)(hD:s2.heap.objs.size <= D)(a2:D≠C)
  (I':Inv (ZBy X N' scope C fp s2 H) [(D,{ cls:=.type "list",data:=.seq its.toArray n })] a1 H' s') (hv:Vals ys its) (hz:ys.length <= sizeLine) :
  H' D=none /\ ∀ h',Heap.SameBut C s'.heap h'->Inv X pins σ (upd H' D (.lst ys)) { s' with heap:=h' }:=by
 obtain ⟨eD,nD,_,_,_⟩:=I'.pin (D,{ cls:=.type "list",data:=.seq its.toArray n }) (yAW _ yAD)
 dsimp only at eD nD
 have nC:H' C=none:=I'.free
 refine ⟨nD,λh' hs=>?_⟩
 have Y:∀ b o,s2.heap.get? b=some o->b≠C:=λb o e=>ZDl (Heap.lt_size e) hC
 have a4:∀ b o,s2.heap.get? b=some o->b≠D:=λb o e=>ZDl (Heap.lt_size e) hD
 have tr:∀ b u,H' b=some u->b≠D:=λb u e z=>by rw [z,nD] at e;cases e
 have a0:∀ b u,H' b=some u->b≠C:=λb u e z=>by rw [z,nC] at e;cases e
 have B:=I'.base
 refine I.call' (s':={ s' with heap:=h' }) (ch:=fp) I'.os ⟨λb o e nn J U=>?_,λb o e nn J U=>?_,λb o e nn U=>?_,λb o e U=>?_,λb xs e=>?_,λb o u e=>?_,λb ps e=>?_⟩ (λb u e=>?_) I'.bare λb J=>?_
 .exact (hs.2 b (Y b o e)).trans (B.keep b o e nn J U)
 .obtain ⟨sl,q⟩:=B.slot b o e nn J U
  exact ⟨sl,(hs.2 b (Y b o e)).trans q⟩
 .rw [ZAJ (a4 b o e)]
  exact B.free b o e nn U
 .obtain ⟨o',q⟩:=B.there b o e U
  exact ⟨o',(hs.2 b (Y b o e)).trans q⟩
 .have q:=B.tups b xs e
  rw [ZAJ (tr b _ q)]
  exact q
 .have q:=B.frzs b o u e
  rw [ZAJ (tr b _ q)]
  exact q
 .obtain ⟨more,q⟩:=B.tbls b ps e
  exact ⟨more,by rw [ZAJ (tr b _ q)];exact q⟩
 .by_cases J:b=D
  .subst J
   rw [ZAE] at e
   cases e
   exact ⟨hz,its,n,hv,(hs.2 b a2).trans eD⟩
  .rw [ZAJ J] at e
   refine (I'.hok b u e).stay (λc v O q=>(hs.2 c ?_).trans q) (λc q=>by rw [ZAJ (tr c _ q)];exact q) λc xs q=>by rw [ZAJ (tr c _ q)];exact q
   rcases O with rfl | O
   .exact a0 c _ e
   .exact a0 c _ O
 .obtain ⟨_,f1,_,f3,f4,f5⟩:=a3 b J
  exact ⟨f3,f1,f4,f5⟩
end
section
variable {prog:Program}{A:Around}{R:Result->Shared->Prop}
theorem codeAny_compLoop_any {elt J iter:Expr}{ifs:List Expr}{it a3:Value}(I:Nat->Shared->Prop)
  (turn:∀ n s,I n s->wpAny (model prog w) A (pyNext it) (λr s₁=>match r with
   | none=>R (.ok .next) s₁
   | some v=>wpAny (model prog w) A (letOwnedTupleGo J it v) (λ_ O=>wpAny (model prog w) A (assign J env v) (λ_ s₂=>
     wpAny (model prog w) A (forIn ifs true λc r=>if r=true then do let ok <- isTrue c env (eval c env);pure (ForInStep.yield ok) else pure (ForInStep.yield r)) (λok U=>
      if ok=true then wpAny (model prog w) A (eval elt env) (λx a2=>
       wpAny (model prog w) A (call (.builtin "list.append") [a3,x]) (λ_ Y=>∃ m,m < n /\ I m Y) (notedBy (model prog w) A env λe s'=>R (.error e) s') a2) (notedBy (model prog w) A env λe s'=>R (.error e) s') U
      else ∃ m,m < n /\ I m U) (notedBy (model prog w) A env λe s'=>R (.error e) s') s₂) (notedBy (model prog w) A env λe s'=>R (.error e) s') O) (notedBy (model prog w) A env λe s'=>R (.error e) s') s₁) (notedBy (model prog w) A env λe s'=>R (.error e) s') s)
  (n:Nat) (h:I n s) :
  codeAny (model prog w) A (.compLoop (.ListComp elt [⟨J,iter,ifs,0⟩] scope pos) 0 it a3 env) R s:=by
 refine codeAny_loop rfl I (λn s hI=>?_) n h
 show wpAny _ A ((compTurn (.ListComp elt [⟨J,iter,ifs,0⟩] scope pos) 0 it a3 env).onRaise (λx=>do noteFrame x env;theTreesLotGoes x)) _ _ s
 refine wpAny_noted ?_
 rw [compTurn_list]
 refine wpAny_bind (wpAny_standAt (wpAny_bind (wpAny_mono (turn n s hI) (λr s₁ a0=>?_) λ_ _ h'=>h')))
 cases r with
 | none=>exact wpAny_pure a0
 | some v=>
  refine wpAny_bind (wpAny_mono a0 (λ_ O a4=>?_) λ_ _ h'=>h')
  refine wpAny_bind (wpAny_mono a4 (λ_ s₂ a5=>wpAny_bind (wpAny_mono a5 (λok U a1=>?_) λ_ _ h'=>h')) λ_ _ h'=>h')
  cases ok with
  | false=>exact wpAny_pure ⟨rfl,a1⟩
  | true=>exact wpAny_bind (wpAny_bind (wpAny_mono a1 (λx a2 a6=>wpAny_bind (wpAny_mono a6 (λ_ Y a7=>wpAny_pure (wpAny_pure ⟨rfl,a7⟩)) λ_ _ h'=>h')) λ_ _ h'=>h'))
end
def PIfs (X:Cx)(ifs:List Expr)(t:TT):Prop :=
 ∀ (pins:List (Addr×Obj)) (s:Shared) (σ:St) (H:Hp) (Q:Bool->Hp->Prop),Inv X pins σ H s->t σ H Q ->
  wpAny (model X.prog X.w) X.A (forIn ifs true λc r=>if r=true then do let ok <- isTrue c X.env (eval c X.env);pure (ForInStep.yield ok) else pure (ForInStep.yield r)) (TP X pins σ Q) X.xe s
def tYes:TT:=λ_ H Q=>Q true H
theorem ZAp:PIfs X [] tYes:=λ_ _ _ H _ I h=>wpAny_tests_nil ⟨H,I,h⟩
theorem pifs_one {c:Expr}{t:TT}(hc:PT X c t):PIfs X [c] t:=λpins s σ H Q I h=>wpAny_tests_one (hc pins s σ H Q I h)
def ZEG (k:Nat)(js:List Nat)(wi:TI)(g:TG)(tt:TT)(te:TE):TE:=λσ H Q=>wi σ H λJ H1=>∃ W:Nat->Nat->List V->St->Hp->Prop,(∃ m,W 0 m [] (up k js σ) H1) /\ ∀ i m ys σ H,W i m ys σ H ->
 (J.stop i H /\ ys.length <= sizeLine /\ ∀ p,H p=none->Q (.ref p) (upd H p (.lst ys))) ∨
 (J.go i H /\ ys.length < sizeLine /\ ∀ x H',J.yld i H x H'->g x σ H' λσ2 H2=>tt σ2 H2 λb H3=>if b=true then te σ2 H3 λy H4=>∃ m',m' < m /\ W (i+1) m' (ys++[y]) σ2 H4 else ∃ m',m' < m /\ W (i+1) m' ys σ2 H3)
section
variable {N':List Str}{tg iter elt:Expr}{ifs:List Expr}{wi:TI}
theorem comp_core {use:Option (Value->Sem Unit)}{Q':Value->Shared->Prop}(ae:X.calm=true)(hc:CmpOk X.N X.env.scope k js N' scope)(hi:PI X tg iter wi)
  (hg:∀ C fp s2 H2,PG (ZBy X N' scope C fp s2 H2) tg g) (ht:∀ C fp s2 H2,PIfs (ZBy X N' scope C fp s2 H2) ifs tt) (he:∀ C fp s2 H2,PE (ZBy X N' scope C fp s2 H2) elt te)
  {pins:List (Addr×Obj)} (I:Inv X pins σ H s) (h:ZEG k js wi g tt te σ H Q)
  (fin:∀ (C D:Addr) (s':Shared) (m:Str->Option Value) (H':Hp) (ys:List V),s'.heap.Ns C m->C≠X.env.locals->C∉X.fs->D≠C->H' C=none->X.s₀.heap.objs.size <= C->(∀ x c,X.env.cells.lookup x=some c->c≠C)->(∀ p∈X.pn++pins,p.1≠C)->(∀ h',Heap.SameBut C s'.heap h'->Inv X pins σ (upd H' D (.lst ys)) { s' with heap:=h' })->Q (.ref D) (upd H' D (.lst ys)) ->
   compPost (model X.prog X.w) X.A X.xe use Q' (.ref D) C (.ok .next) s')
  (hs:∀ x,foldedSetIterable iter X.env x=pure x) (p':Pos) :
  wpAny (model X.prog X.w) X.A (comprehension (.ListComp elt [⟨tg,iter,ifs,0⟩] scope pos) scope X.env p' (newList []) false (eval iter X.env) use) Q' X.xe s:=by
 have ag:closureFor scope X.env=pure (closFrom X.env.cells scope.names []):=closureFor_eq λy hy=>I.ok.has y (hc.fr y hy)
 refine wpAny_comprehension_free (g:=⟨tg,iter,ifs,0⟩) (gs:=[]) rfl hs ag hc.kind (λx hx hl=>by rw [hc.look x hx,hl]) ?_
 refine thn (hi pins s σ H _ I h) λv s1 h1=>thn h1 λbg s2 h2=>?_
 obtain ⟨it,fp,tn,J,H2,e,I2,T,st2,f2,W,⟨m0,w0⟩,turn⟩:=h2
 subst e
 have ad:∀ b∈fp,b < s2.heap.objs.size:=λb Y=>by
  obtain ⟨o,e,_⟩:=T.obj _ _ st2 b Y
  exact Heap.lt_size e
 refine wpAny_newObj_type (newEnv_comp ?_)
 have b2:(s2.heap.push { cls:=.type "list",dict:=none,data:=.seq ([]:List Value).toArray }).objs.size=s2.heap.objs.size+1:=Heap.size_push ..
 have I3:=comp_inv (h3:=s2.heap.push { cls:=.type "list",dict:=none,data:=.seq ([]:List Value).toArray }) hc I2 f2 ad b2 (λb o e=>Heap.get?_push_of_some _ e)
 dsimp only
 rw [b2]
 generalize hS4:({ s2 with heap:=pushCells ((s2.heap.push { cls:=.type "list",dict:=none,data:=.seq ([]:List Value).toArray }).push { cls:=.type "dict",data:=.dict #[] }) scope.names }:Shared)=s4 at I3 ⊢
 have a4:∀ b o,s2.heap.get? b=some o->s4.heap.get? b=some o:=λb o e=>by
  rw [<- hS4]
  exact pushCells_keeps _ _ b o (Heap.get?_push_of_some _ (Heap.get?_push_of_some _ e))
 have aj:s4.heap.get? s2.heap.objs.size=some { cls:=.type "list",data:=.seq ([]:List Value).toArray 0 }:=by
  rw [<- hS4]
  exact pushCells_keeps _ _ _ _ (Heap.get?_push_of_some _ (Heap.get?_push_size _ rfl))
 generalize hX':ZBy X N' scope (s2.heap.objs.size+1) fp s2 H2=X' at I3
 have a5:X'.env.locals=s2.heap.objs.size+1:=by rw [<- hX'];rfl
 have a9:X'.fs=frs X.stack:=by rw [<- hX'];rfl
 have ai:∀ a,s2.heap.objs.size <= a->a∉frs X.stack:=λa ha Y=>by
  rcases yAI.mp (I2.stkSub a Y) with z | z
  .exact absurd z.symm (ZDl I2.lt ha)
  .exact I2.nofs ha z
 have af:∀ x c,X'.env.cells.lookup x=some c->c≠s2.heap.objs.size:=λx c e z=>by
  obtain ⟨v,o,ho,hd⟩:=I3.cell x c e
  rw [z,aj] at ho
  cases ho
  cases hd
 have aa:∀ {O:St} {H':Hp} {s':Shared} {its:List Value} {n:Nat},Inv X' [] O H' s'->s'.heap.get? s2.heap.objs.size=some { cls:=.type "list",data:=.seq its.toArray n }->H' s2.heap.objs.size=none ->
   Inv X' [(s2.heap.objs.size,{ cls:=.type "list",data:=.seq its.toArray n })] O H' s':=fun {O H' s' its n} J e nn=>J.pins_of λp hp=>by
  have e':p=(s2.heap.objs.size,{ cls:=.type "list",data:=.seq its.toArray n }):=by simpa using hp
  subst e'
  refine ⟨e,nn,?_,?_,λv z=>nomatch z⟩
  .rw [a5];exact yAQ (yCC _)
  .rw [a9];exact ai _ (yAB _)
 have I4:=aa I3 aj (I2.hok.fresh (yAB _))
 have a7:∀ {H':Hp} {o:Obj},(∀ b∈fp,H' b=none)->∀ b∈fp,FpOk X' [(s2.heap.objs.size,o)] H' b:=fun {H' o} hn b Y=>by
  have ap:=ad b Y
  refine ⟨hn b Y,?_,?_,.inl (by rw [<- hX'];exact Y),λx c e z=>?_,λp hp z=>?_⟩
  .rw [a5];exact ZDl ap (yBF _)
  .rw [a9]
   intro z
   rcases yAI.mp (I2.stkSub b z) with q | q
   .exact (f2 b Y).2.1 q
   .exact (f2 b Y).2.2.1 q
  .have q:=I3.ok.exf b (by rw [<- hX'];exact Y)
   exact q.2 x c e z
  .rw [show X'.pn=[] by rw [<- hX'];rfl] at hp
   have e':p=(s2.heap.objs.size,o):=by simpa using hp
   subst e'
   exact absurd ap (by rw [<- z];exact yBR _)
 have av:∀ {O:St} {H':Hp} {s':Shared} {its:List Value} {n:Nat} {ys:List V},Inv X' [(s2.heap.objs.size,{ cls:=.type "list",data:=.seq its.toArray n })] O H' s'->Vals ys its->ys.length <= sizeLine->(∀ p,H' p=none->Q (.ref p) (upd H' p (.lst ys))) ->
   compPost (model X.prog X.w) X.A X.xe use Q' (.ref s2.heap.objs.size) (s2.heap.objs.size+1) (.ok .next) s':=fun {O H' s' its n ys} J hv hz hq=>by
  obtain ⟨m,hn,_⟩:=id J.loc
  rw [a5] at hn
  have nC:H' (s2.heap.objs.size+1)=none:=by rw [<- a5];exact J.free
  have J':Inv (ZBy X N' scope (s2.heap.objs.size+1) fp s2 H2) [(s2.heap.objs.size,{ cls:=.type "list",data:=.seq its.toArray n })] O H' s':=by rw [hX'];exact J
  obtain ⟨nD,E⟩:=comp_end I2 f2 (yBF _) (yAB _) (yAQ (yCC _)) J' hv hz
  refine fin _ _ s' m H' ys hn ?_ (I2.nofs (yBF _)) (yAQ (yCC _)) nC (yAL I2.sz (yBF _)) (λx c e z=>?_) (λp hp z=>?_) E (hq _ nD)
  .exact (ZDl I2.lt (yBF _)).symm
  .obtain ⟨v,q⟩:=I2.cell x c e
   exact absurd z (ZDl q.lt (yBF _))
  .exact absurd z (ZDl (Heap.lt_size (I2.pin p hp).1) (yBF _))
 have U:X'.prog=X.prog:=by rw [<- hX'];rfl
 have hw:X'.w=X.w:=by rw [<- hX'];rfl
 have hK:X'.K=X.K:=by rw [<- hX'];rfl
 have a0:X'.calm=true:=by rw [<- hX'];exact ae
 have hA:X'.A=X.A:=by rw [<- hX'];rfl
 have aq:ZEE scope (closFrom X.env.cells scope.names []) (s2.heap.objs.size+1) X.env=X'.env:=by rw [<- hX'];rfl
 have ao:=hg (s2.heap.objs.size+1) fp s2 H2
 have b0:=ht (s2.heap.objs.size+1) fp s2 H2
 have ay:=he (s2.heap.objs.size+1) fp s2 H2
 rw [hX'] at ao b0 ay
 have ac:∀ e s',X'.xe e s'->False:=λe s' z=>by rw [<- hX'] at z;exact z
 have bf:X'.pn=[]:=by rw [<- hX'];rfl
 have bc:X'.s₀.heap.objs.size=s2.heap.objs.size:=by rw [<- hX'];rfl
 have ab:codeAny (model X.prog X.w) X.A (.compLoop (.ListComp elt [⟨tg,iter,ifs,0⟩] scope pos) 0 (.ref it) (.ref s2.heap.objs.size) X'.env) (compPost (model X.prog X.w) X.A X.xe use Q' (.ref s2.heap.objs.size) (s2.heap.objs.size+1)) s4:=by
  refine codeAny_compLoop_any (λn s'=>∃ i O H' its nn ys,Inv X' [(s2.heap.objs.size,{ cls:=.type "list",data:=.seq its.toArray nn })] O H' s' /\ tn i s'.heap /\ (∀ b∈fp,H' b=none) /\ Vals ys its /\ W i n ys O H') ?_ m0
   ⟨0,_,H2,[],0,[],I4,T.keep _ _ _ st2 (λb _ o e=>a4 b o e),λb Y=>(f2 b Y).1,.nil,w0⟩
  rintro n s5 ⟨i,a8,H5,its,nn,ys,I5,aw,am,hv,w5⟩
  rcases turn i n ys a8 H5 w5 with ⟨stop,hz,hq⟩ | ⟨go,hz,step⟩
  .have d:=T.done X' U hw hK a0 i _ s5 a8 H5 (λ_ _=>False) I5 (a7 am) aw stop
   rw [hA] at d
   refine wpAny_mono d (λr s6 ⟨hr,I6⟩=>?_) λ_ _ z=>z.elim
   subst hr
   exact av I6 hv hz hq
  .have d:=T.item X' U hw hK a0 i _ s5 a8 H5 (λ_ _=>False) I5 (a7 am) aw go
   rw [hA] at d
   refine wpAny_mono d (λr s6 ⟨u,hr,h6⟩=>?_) λ_ _ z=>z.elim
   subst hr
   refine wpAny_mono h6 (λ_ s7 zz=>?_) λ_ _ z=>z.elim
   obtain ⟨x,H7,I7,r7,y7,ah,b7⟩:=zz
   have b6:=I7.pinned (a7 b7) (T.obj _ _ ah)
   have a1:=ao _ s7 a8 H7 x u _ b6 r7 (step x H7 y7)
   rw [U,hw,hA] at a1
   refine wpAny_mono a1 (λ_ s8 zz=>?_) λ_ _ z=>(ac _ _ z).elim
   obtain ⟨a6,H8,I8,q8⟩:=zz
   have a2:=b0 _ s8 a6 H8 _ I8 q8
   rw [U,hw,hA] at a2
   refine wpAny_mono a2 (λok s9 ⟨H9,I9,q9⟩=>?_) λ_ _ z=>(ac _ _ z).elim
   have back:∀ {O:St} {H':Hp} {s':Shared},Inv X' ([(s2.heap.objs.size,({ cls:=.type "list",data:=.seq its.toArray nn }:Obj))]++ZEI fp s7.heap) O H' s'->tn (i+1) s'.heap /\ (∀ b∈fp,H' b=none):=fun {O H' s'} J=>by
    refine ⟨T.keep _ _ _ ah λb Y o e=>(J.pin (b,o) (yAW _ (yAW _ (ZCN Y e)))).1,λb Y=>?_⟩
    obtain ⟨o,e,d⟩:=T.obj _ _ ah b Y
    exact (J.pin (b,o) (yAW _ (yAW _ (ZCN Y e)))).2.1
   cases ok with
   | false=>
    rw [if_neg yBH] at q9 ⊢
    obtain ⟨m',hm,w9⟩:=q9
    obtain ⟨t9,f9⟩:=back I9
    exact ⟨m',hm,i+1,a6,H9,its,nn,ys,I9.unpinned,t9,f9,hv,w9⟩
   | true=>
    rw [if_pos rfl] at q9 ⊢
    have a3:=ay _ s9 a6 H9 _ I9 q9
    rw [U,hw,hA] at a3
    refine wpAny_mono a3 (λuy s10 zz=>?_) λ_ _ z=>(ac _ _ z).elim
    obtain ⟨y,ax,az,bb,m',hm,b8⟩:=zz
    obtain ⟨be,b5⟩:=back az
    have b1:=az.unpinned
    obtain ⟨eD,nD,_,_,_⟩:=b1.pin (s2.heap.objs.size,{ cls:=.type "list",data:=.seq its.toArray nn }) (yAW _ yAD)
    dsimp only at eD nD
    have hsz:its.length < sizeLine:=by rw [<- hv.length];exact hz
    refine wpAny_list_append_plain ⟨nn,eD⟩ (λh' bd au=>?_) (by rw [yAU];omega)
    obtain ⟨n',e'⟩:=bd
    have ba:h'.get? s2.heap.objs.size=some { cls:=.type "list",data:=.seq (its++[uy]).toArray n' }:=by rw [e'];simp
    have b4:Inv X' [] a6 ax s10:=b1.pins_of λp hp=>absurd hp (by simp)
    have b9:=b4.turned (h':=h') (t':=s10.toks) (it:=s2.heap.objs.size) (λb o Y e=>(au.2 b Y).trans e) nD (by rw [a5];exact yAQ (yCC _)) (.inr (by rw [bc];exact yAB _)) af (λp hp=>absurd hp (by rw [bf];simp))
    refine ⟨m',hm,i+1,a6,ax,its++[uy],n',ys++[y],aa b9 ba nD,T.keep _ _ _ be λb Y o e=>?_,b5,hv.append (.cons bb .nil),b8⟩
    exact (au.2 b (ZDl (ad b Y) (yAB _))).trans e
 have b3:codeAny (model X.prog X.w) X.A (.compStart (.ListComp elt [⟨tg,iter,ifs,0⟩] scope pos) 0 (.ref it) (.ref s2.heap.objs.size) X'.env) (compPost (model X.prog X.w) X.A X.xe use Q' (.ref s2.heap.objs.size) (s2.heap.objs.size+1)) s4 :=
  codeAny_compStart_list ab (T.self X.A 0 s4 _ _ (T.keep _ _ _ st2 (λb _ o e=>a4 b o e)) ab)
 rw [<- aq] at b3
 exact b3
theorem ZBM (J:X.calm=true)(hc:ZDL X.N X.env.scope k js N' scope=true)(hi:PI X tg iter wi)
  (U:∀ C fp s2 H2,PG (ZBy X N' scope C fp s2 H2) tg g) (ht:∀ C fp s2 H2,PIfs (ZBy X N' scope C fp s2 H2) ifs tt) (Y:∀ C fp s2 H2,PE (ZBy X N' scope C fp s2 H2) elt te)
  (hs:∀ x,foldedSetIterable iter X.env x=pure x:=by intro _;rfl):PE X (.ListComp elt [⟨tg,iter,ifs,0⟩] scope pos) (ZEG k js wi g tt te):=by
 intro pins s σ H Q I h
 rw [eval_ListComp]
 refine comp_core (use:=none) J (cmpOk hc) hi U ht Y I h (λC D s' m H' ys hn _ _ _ _ _ _ _ E q=>?_) hs _
 exact ⟨m,hn,λh' O=>⟨.ref D,_,E h' O,rfl,q⟩⟩
theorem ZBb {i:Nat}{px U:Pos}(hN:X.N.Nodup)(a0:X.N[i]?=some x)(hx:Loc X.env.scope x)(Y:X.calm=true)(hc:ZDL X.N X.env.scope k js N' scope=true)(hi:PI X tg iter wi)
  (hg:∀ C fp s2 H2,PG (ZBy X N' scope C fp s2 H2) tg g) (ht:∀ C fp s2 H2,PIfs (ZBy X N' scope C fp s2 H2) ifs tt) (he:∀ C fp s2 H2,PE (ZBy X N' scope C fp s2 H2) elt te)
  (hs:∀ x,foldedSetIterable iter X.env x=pure x:=by intro _;rfl) (a1:swapsWith (.ListComp elt [⟨tg,iter,ifs,0⟩] scope pos) (some (.Name x px)) U.line X.env=pure true:=by rfl)
  (hf:X.fn x=true∨X.env.scope.names.lookup x=some .local:=by first | exact .inl rfl | exact .inr rfl | assumption) :
  PS X (.Assign [.Name x px] (.ListComp elt [⟨tg,iter,ifs,0⟩] scope pos) U) (tAsg (ZEG k js wi g tt te) (ZEl i)):=by
 intro pins s σ H D I h
 rw [exec_Assign_Name_used _ _ _ _ a1]
 refine wpAny_bind (wpAny_standAt (wpAny_bind ?_))
 show wpAny _ X.A (do let _ <- comprehension (.ListComp elt [⟨tg,iter,ifs,0⟩] scope pos) scope X.env _ (newList []) false (eval iter X.env) (some (assign (.Name x px) X.env))) _ _ s
 refine wpAny_bind (wpAny_mono (comp_core (use:=some (assign (.Name x px) X.env)) (Q':=λ_ s'=>SP X pins D .next s') Y (cmpOk hc) hi hg ht he I h (λC Dd s' m H' ys hn c1 c2 c3 c4 c5 c6 c7 E q=>?_) hs _) (λ_ s' hq=>wpAny_pure (wpAny_pure hq)) λ_ _ e=>e)
 have J:=E s'.heap (.refl ..)
 obtain ⟨oC,es,ep,eC,dC,rC⟩:=id hn
 have J':Inv X (pins++[(C,oC)]) σ (upd H' Dd (.lst ys)) s':=J.pins_of λp hp=>by
  rcases yAY.mp hp with z | z
  .exact J.pin p (yAW _ z)
  .have e':p=(C,oC):=by simpa using z
   subst e'
   refine ⟨eC,?_,c1,c2,λv z=>?_⟩
   .show upd H' Dd _ C=none
    rw [ZAJ (Ne.symm c3)]
    exact c4
   .have z':oC.data=.cell v:=z
    rw [dC] at z'
    cases z'
 show wpAny _ X.A (assign (.Name x px) X.env (.ref Dd)) _ _ _
 refine wpAny_assign_Name (ZCr (Q:=λ_ O=>∃ m,O.heap.Ns C m /\ ∀ h',Heap.SameBut C O.heap h'->SP X pins D .next { O with heap:=h' }) J' hN a0 hx (v:=.ref Dd) (u:=.ref Dd) rfl (λO K'=>?_) hf)
 obtain ⟨e2,n2,_,_,_⟩:=K'.pin (C,oC) (yAW _ (yAW _ yAD))
 dsimp only at e2 n2
 refine ⟨m,⟨oC,es,ep,e2,dC,rC⟩,λh' a2=>⟨_,_,K'.unpinned.turned (it:=C) (t':=O.toks) (λb o hb e=>(a2.2 b hb).trans e) n2 c1 (.inr c5) c6 c7,q⟩⟩
end
mutual
def Dp (K:W.Frag)(H:Hp):PyData->V->Prop
 | .none,v=>v=.non
 | .bool b,v=>v=.bl b
 | .int i,v=>v=.int i
 | .str x,v=>v=.str x
 | .list ds,v=>∃ a xs,v=.ref a /\ SqL K H a xs /\ DpAll K H ds xs
 | .tuple ds,v=>∃ a xs,v=.ref a /\ SqT K H a xs /\ DpAll K H ds xs
 | .dict _,_=>False
def DpAll (K:W.Frag)(H:Hp):List PyData->List V->Prop
 | [],vs=>vs=[]
 | d::ds,vs=>∃ v r,vs=v::r /\ Dp K H d v /\ DpAll K H ds r
end
theorem DpAll.nil:DpAll K H [] []:=by unfold DpAll;rfl
theorem DpAll.cons {K:W.Frag}{H:Hp}{d:PyData}{ds:List PyData}{v:V}{vs:List V}(a:Dp K H d v)(t:DpAll K H ds vs):DpAll K H (d::ds) (v::vs):=by unfold DpAll;exact ⟨v,vs,rfl,a,t⟩
theorem DpAll.ints {K:W.Frag}{H:Hp}:∀ (ns:List Int),DpAll K H (ns.map PyData.int) (ns.map V.int)
 | []=>.nil
 | n::r=>.cons (by unfold Dp;rfl) (DpAll.ints r)
theorem dp_lst {ds:List PyData}(h:SqL K H a xs)(t:DpAll K H ds xs):Dp K H (.list ds) (.ref a):=by unfold Dp;exact ⟨a,xs,rfl,h,t⟩
section
variable {pins:List (Addr×Obj)}
mutual
theorem Inv.reads (I:Inv X pins σ H s):∀ {d:PyData} {v:V} {u:Value},Dp X.K H d v->RelV v u->∃ as,Reads s.heap u d as
 | .none,_,_,h,r=>by unfold Dp at h;subst h;cases (show _=Value.none from r);exact ⟨_,.none⟩
 | .bool b,_,_,h,r=>by unfold Dp at h;subst h;cases (show _=Value.bool b from r);exact ⟨_,.bool b⟩
 | .int i,_,_,h,r=>by unfold Dp at h;subst h;obtain ⟨t,q⟩:=(show ∃ t,_=Value.int i t from r);subst q;exact ⟨_,.int i t⟩
 | .str x,_,_,h,r=>by unfold Dp at h;subst h;obtain ⟨t,q⟩:=(show ∃ t,_=Value.str x t from r);subst q;exact ⟨_,.str x t⟩
 | .list ds,_,_,h,r=>by
  unfold Dp at h
  obtain ⟨a,xs,q,Y,t⟩:=h
  subst q
  cases (show _=Value.ref a from r)
  obtain ⟨its,rv,pl,_⟩:=I.list Y
  obtain ⟨as,ra⟩:=Inv.readsAll I t rv
  obtain ⟨o,n,O,J,_,U⟩:=pl
  exact ⟨_,.list O J U (by simpa using ra)⟩
 | .tuple ds,_,_,h,r=>by
  unfold Dp at h
  obtain ⟨a,xs,q,Y,t⟩:=h
  subst q
  cases (show _=Value.ref a from r)
  obtain ⟨its,rv,pl,_⟩:=I.tuple Y
  obtain ⟨as,ra⟩:=Inv.readsAll I t rv
  obtain ⟨o,O,J,n,U⟩:=pl
  exact ⟨_,.tuple O J U (by simpa using ra)⟩
 | .dict _,_,_,h,_=>by unfold Dp at h;exact h.elim
theorem Inv.readsAll (I:Inv X pins σ H s):∀ {ds:List PyData} {vs:List V} {us:List Value},DpAll X.K H ds vs->Vals vs us->∃ as,ReadsAll s.heap us ds as
 | [],_,_,h,r=>by unfold DpAll at h;subst h;cases r;exact ⟨_,.nil⟩
 | _::_,_,_,h,r=>by
  unfold DpAll at h
  obtain ⟨v,q,e,a,t⟩:=h
  subst e
  cases r with
  | cons r1 r2=>
   obtain ⟨as,h1⟩:=Inv.reads I a r1
   obtain ⟨bs,h2⟩:=Inv.readsAll I t r2
   exact ⟨_,.cons h1 h2⟩
end
inductive rEqD (K:W.Frag):V->V->Hp->VK->Prop
 | mk {x_ y_ Z N} (d e:_):Dp K Z d x_->Dp K Z e y_->d.canLay0=true->e.canLay0=true->d.depth <= 64->N (.bl (PyData.eqv d e)) Z->rEqD K x_ y_ Z N
inductive rNeD (K:W.Frag):V->V->Hp->VK->Prop
 | mk {x_ y_ Z N} (d e:_):Dp K Z d x_->Dp K Z e y_->d.canLay0=true->e.canLay0=true->d.depth <= 64->N (.bl (!PyData.eqv d e)) Z->rNeD K x_ y_ Z N
theorem op_eqD (hu:X.A.units+64 < cLine):OpR X (compareOp .Eq) (rEqD X.K):=by
 intro pins s σ H x y v u Q I Y O h
 obtain ⟨d,e,h1,h2,c1,J,dp,q⟩:=h
 obtain ⟨as,ra⟩:=I.reads h1 Y
 obtain ⟨bs,U⟩:=I.reads h2 O
 exact SeqAt.compareEq_reads ra U c1 J (by omega) ⟨.bl _,H,I,rfl,q⟩
theorem op_neD (hu:X.A.units+64 < cLine):OpR X (compareOp .NotEq) (rNeD X.K):=by
 intro pins s σ H x y v u Q I Y O h
 obtain ⟨d,e,h1,h2,c1,J,dp,q⟩:=h
 obtain ⟨as,ra⟩:=I.reads h1 Y
 obtain ⟨bs,U⟩:=I.reads h2 O
 exact SeqAt.compareNe_reads ra U c1 J (by omega) ⟨.bl _,H,I,rfl,q⟩
end
section
theorem ZBL {y:Int}(J:Gl X x)(h:∃ t,X.mg x=some (.int y t))(O:(x == ("__debug__":Str))=false:=by decide):PE X (.Name x pos) (tC (.int y)):=by
 obtain ⟨t,e⟩:=h
 exact pe_glob J e ⟨t,rfl⟩ O
theorem ZFT {n:String}(J:Gl X x)(hm:X.mg x=none)(U:bootBuiltins x=some (.type n))(hn:x≠"__name__":=by decide)(O:(x == ("__debug__":Str))=false:=by decide):PE X (.Name x pos) (tC (.ty n)):=pe_bltn J hm U rfl hn O
end
structure Fn (P:Program)(w:World)(K:W.Frag)(mg:Str->Option Value)(base:Heap)(CX:CXT)(x:Str)(k:Nat)(ps:List Str)(sp:Sp):Prop where
 ex:∃ f fd,FnOk P w K mg base CX k f fd ps sp /\ Binds K fd ps [] /\ W.keepIn K (.ref f)=true /\ mg x=some (.ref f)
structure Mt (P:Program)(w:World)(K:W.Frag)(mg:Str->Option Value)(base:Heap)(CX:CXT)(C:Addr)(m:Str)(k:Nat)(ps:List Str)(sp:Sp):Prop where
 cl:Cls K C
 ex:∃ f fd,FnOk P w K mg base CX k f fd ps sp /\ Binds K fd ps [] /\ Meth K C m f
structure Kl (P:Program)(w:World)(K:W.Frag)(mg:Str->Option Value)(base:Heap)(CX:CXT)(x:Str)(C:Addr)(k:Nat)(ps:List Str)(sp:Sp):Prop where
 mgC:mg x=some (.ref C)
 ex:∃ f fd,FnOk P w K mg base CX k f fd ps sp /\ Binds K fd ps [] /\ Mk K C f
section
variable {E:XK}{m:Str}{p apos:Pos}{e o:Expr}{es:List Expr}{t:TA}
theorem ZAl (F:Fn X.prog X.w X.K X.mg X.base CX x k ps sp)(hr:Room k X.A)(hg:Gl X x)(Y:ZCD CX X E)(ha:PA X (e::es) t)(J:(x == ("__debug__":Str))=false:=by decide)(U:starEach (e::es) X.env=(false,eval e X.env)::starEach es X.env:=by rfl)(O:(backTo pos (starEach es X.env)).any (·.1)=false:=by rfl) :
  PE X (.Call (.Name x p) (e::es) [] pos) (ZFw sp [] E t):=by
 obtain ⟨f,fd,h1,h2,h3,h4⟩:=F.ex
 exact pe_call h1 hr hg h4 h3 h2 .nil Y ha J U O
theorem ZBA {pl:Sem Bool}(F:Mt X.prog X.w X.K X.mg X.base CX C m k ps sp)(hr:Room k X.A)(Y:ZCD CX X E)(U:PE X o ta)(ha:PA X (e::es) t)
  (O:starEach (e::es) X.env=(false,eval e X.env)::starEach es X.env:=by rfl) (J:(backTo pos (starEach es X.env)).any (·.1)=false:=by rfl)
  (ht:eval (.Call (.Attribute o m apos) (e::es) [] pos) X.env=(do
   let ov <- eval o X.env
   standAt apos.atName
   let (f,first) <- holding [ov] (getMethod ov m pl)
   callWith pos f first (backTo pos (starEach (e::es) X.env)) (backToKw pos (keywordEach [] X.env))):=by rfl) :
  PE X (.Call (.Attribute o m apos) (e::es) [] pos) (ZFD C m sp [] E ta t):=by
 obtain ⟨f,fd,h1,h2,h3⟩:=F.ex
 exact pe_meth U F.cl h3 h1 hr h2 .nil Y ha O J ht
theorem ZBG {pl:Sem Bool}(F:Mt X.prog X.w X.K X.mg X.base CX C m k ps sp)(U:Room k X.A)(O:ZCD CX X E)(J:PE X o ta)
  (Y:eval (.Call (.Attribute o m apos) [] [] pos) X.env=(do
   let ov <- eval o X.env
   standAt apos.atName
   let (f,first) <- holding [ov] (getMethod ov m pl)
   callWith pos f first (backTo pos (starEach [] X.env)) (backToKw pos (keywordEach [] X.env))):=by rfl) :
  PE X (.Call (.Attribute o m apos) [] [] pos) (ZFD C m sp [] E ta tNil):=by
 obtain ⟨f,fd,h1,h2,h3⟩:=F.ex
 exact pe_meth0 J F.cl h3 h1 U h2 .nil O Y
theorem ZFS (F:Kl X.prog X.w X.K X.mg X.base CX x C k ps sp)(hr:Room (k+1) X.A)(hg:Gl X x)(Y:ZCD CX X E)(ha:PA X (e::es) t)(J:(x == ("__debug__":Str))=false:=by decide)(U:starEach (e::es) X.env=(false,eval e X.env)::starEach es X.env:=by rfl)(O:(backTo pos (starEach es X.env)).any (·.1)=false:=by rfl) :
  PE X (.Call (.Name x p) (e::es) [] pos) (ZFk C sp [] E t):=by
 obtain ⟨f,fd,h1,h2,h3⟩:=F.ex
 exact pe_make h3 h1 hr hg F.mgC h2 .nil Y ha J U O
end
noncomputable def ZE7:V->Bool
 | .ty _=>true
 | .ref _=>true
 | _=>false
noncomputable def cval:V->Value
 | .ty n=>.type n
 | .ref a=>.ref a
 | _=>.none
section
theorem ZCn:ZCE X (.builtin "isinstance") (λxs H Q=>∃ x c ty b,xs=[x,c] /\ ZE7 c=true /\ TyOf X.K H x ty /\ PySem.W.kitOne X.K ty (cval c)=some b /\ Q (.bl b) H):=by
 intro pins s σ H xs us Q I r h
 obtain ⟨x,c,ty,b,rfl,hc,J,e,q⟩:=h
 obtain ⟨u,w',rfl,Y,O⟩:=ZE0 r
 have U:w'=cval c:=by
  cases c <;> first | (cases hc;done) | exact O
 subst U
 exact isinst_ok I Y J e λtk=>⟨.bl b,H,I.tok tk,rfl,q⟩
end
theorem tVar_0:tVar 0 (some v::σ) H Q=Q v H:=rfl
theorem rI0_int {g:Int->Int->V}:rI0 g (.int i) (.int j) H Q=Q (g i j) H:=rfl
theorem rI_int {C:Int->Int->Prop}{g:Int->Int->V}:rI C g (.int i) (.int j) H Q=(C i j /\ Q (g i j) H):=rfl
theorem rU_int {g:Int->V}:rU g (.int i) H Q=Q (g i) H:=rfl
theorem rEq_int:rEq (.int i) (.int j) H Q=Q (.bl (decide (i=j))) H:=rfl
theorem rNe_int:rNe (.int i) (.int j) H Q=Q (.bl (!decide (i=j))) H:=rfl
theorem rEq_bl {i j:Bool}:rEq (.bl i) (.bl j) H Q=Q (.bl (decide (i=j))) H:=rfl
theorem rNe_bl {i j:Bool}:rNe (.bl i) (.bl j) H Q=Q (.bl (!decide (i=j))) H:=rfl
theorem rEq_str {i j:Str}:rEq (.str i) (.str j) H Q=Q (.bl (decide (i=j))) H:=rfl
theorem rNe_str {i j:Str}:rNe (.str i) (.str j) H Q=Q (.bl (!decide (i=j))) H:=rfl
theorem onB_bl {c:Bool}{Q:Bool->Prop}:onB (.bl c) Q=Q c:=rfl
theorem onI_int {c:Int}{Q:Int->Prop}:onI (.int c) Q=Q c:=rfl
theorem ex_bl {c:Bool}{Q:Bool->Prop}:(∃ k,V.bl c=V.bl k /\ Q k)=Q c:=by
 apply propext;simp
theorem ex_int {c:Int}{Q:Int->Prop}:(∃ k,V.int c=V.int k /\ Q k)=Q c:=by
 apply propext;simp
theorem ZAW {n:Nat}(h:n <= 1000):n <= sizeLine:=yCB (ZAk h)
theorem ZAM (h:H p=none)(o:HO):Same H (upd H p o):=λb u q=>by rw [ZAJ (ZAD q h)];exact q
def getF (K:W.Frag)(f:Str)(x:V)(H:Hp)(Q:VK):Prop:=∃ a C dx fs v,x=.ref a /\ H a=some (.ins C dx fs) /\ Cls K C /\ NoAttr K C f /\ fs.lookup f=some v /\ Q v H
theorem tFld_eq {f:Str}:tFld K ta f σ H Q=ta σ H (λx H1=>getF K f x H1 Q):=rfl
theorem getF_of {f:Str}(h:H a=some (.ins C dx fl))(cl:Cls K C)(n:NoAttr K C f)(l:fl.lookup f=some v)(q:Q v H):getF K f (.ref a) H Q:=⟨a,C,dx,fl,v,rfl,h,cl,n,l,q⟩
def setF (K:W.Frag)(f:Str)(x y:V)(H:Hp)(Q:Hp->Prop):Prop:=∃ a C dx fs,x=.ref a /\ H a=some (.ins C dx fs) /\ Cls K C /\ NoAttr K C f /\ fs.length < 1000 /\ Q (upd H a (.ins C dx (putF f y fs)))
theorem sFld_eq {f:Str}:sFld K ta tv f D σ H=tv σ H (λy H1=>ta σ H1 λx H2=>setF K f x y H2 (D.nx σ)):=rfl
theorem setF_of {f:Str}{Q:Hp->Prop}(h:H a=some (.ins C dx fl))(cl:Cls K C)(n:NoAttr K C f)(l:fl.length < 1000)(q:Q (upd H a (.ins C dx (putF f y fl)))):setF K f (.ref a) y H Q:=⟨a,C,dx,fl,rfl,h,cl,n,l,q⟩
theorem ZAo (h:SqL K H p xs)(e:atI xs i=some v)(q:Q v H):rIxL K (.ref p) (.int i) H Q:=⟨p,xs,i,v,rfl,rfl,h,e,q⟩
theorem ZAz (h:SqT K H p xs)(e:atI xs i=some v)(q:Q v H):rIxT K (.ref p) (.int i) H Q:=⟨p,xs,i,v,rfl,rfl,h,e,q⟩
theorem ZAj {α:Type}{xs:List α}{v:α}(J:0 <= i)(h:xs[i.toNat]?=some v):atI xs i=some v:=by
 have q:=atI_nat h
 rwa [Int.toNat_of_nonneg J] at q
theorem ZDN {xs:List Int}{v:Int}(J:0 <= i)(h:xs[i.toNat]?=some v):atI (xs.map V.int) i=some (.int v):=ZAj J (by rw [yAM,h];rfl)
def Nxt (P:Nat->List V->St->Hp->Prop)(n i:Nat)(ys:List V)(σ:St)(H:Hp):Prop:=∃ m',m' < n-i /\ m'=n-(i+1) /\ i+1 <= n /\ P (i+1) ys σ H
theorem Nxt.of {P:Nat->List V->St->Hp->Prop}{n i:Nat}{ys:List V}(h:i < n)(p:P (i+1) ys σ H):Nxt P n i ys σ H:=⟨n-(i+1),by omega,rfl,h,p⟩
theorem comp_list (P:Nat->List V->St->Hp->Prop)(U:P 0 [] σ0 H)(hl:∀ i ys σ H,i <= xs.length->P i ys σ H->SqL K H a xs /\ ys.length <= i)(hz:xs.length <= sizeLine)
  (Y:∀ i ys x σ H,i < xs.length->xs[i]?=some x->P i ys σ H->g x σ H λJ H2=>tt J H2 λb H3=>if b=true then te J H3 λy H4=>Nxt P xs.length i (ys++[y]) J H4 else Nxt P xs.length i ys J H3)
  (hd:∀ ys σ H,P xs.length ys σ H->∀ p,H p=none->Q (.ref p) (upd H p (.lst ys))) :
  ∃ W:Nat->Nat->List V->St->Hp->Prop,(∃ m,W 0 m [] σ0 H) /\ ∀ i m ys σ H,W i m ys σ H ->
   ((Itl K a).stop i H /\ ys.length <= sizeLine /\ ∀ p,H p=none->Q (.ref p) (upd H p (.lst ys))) ∨
   ((Itl K a).go i H /\ ys.length < sizeLine /\ ∀ x H',(Itl K a).yld i H x H'->g x σ H' λJ H2=>tt J H2 λb H3=>if b=true then te J H3 λy H4=>∃ O,O < m /\ W (i+1) O (ys++[y]) J H4 else ∃ O,O < m /\ W (i+1) O ys J H3):=by
 refine ⟨λi m ys σ H=>m=xs.length-i /\ i <= xs.length /\ P i ys σ H,⟨xs.length,by simp,yAJ _,U⟩,?_⟩
 rintro i m ys σ H ⟨rfl,hi,p⟩
 obtain ⟨q,ly⟩:=hl i ys σ H hi p
 by_cases hlt:i < xs.length
 .refine .inr ⟨⟨xs,xs[i],q,by simp [hlt]⟩,by omega,λx H' y=>?_⟩
  obtain ⟨e,y⟩:=y
  subst e
  exact Y i ys x σ _ hlt (y xs q) p
 .have e:i=xs.length:=by omega
  subst e
  exact .inl ⟨⟨xs,q,yAB _⟩,by omega,hd ys σ H p⟩
theorem comp_range {n:Nat}(P:Nat->List V->St->Hp->Prop)(U:P 0 [] σ0 H)(hl:∀ i ys σ H,P i ys σ H->ys.length <= i)(hz:n <= sizeLine)
  (Y:∀ i ys σ H,i < n->P i ys σ H->g (.int (lo+i)) σ H λJ H2=>tt J H2 λb H3=>if b=true then te J H3 λy H4=>Nxt P n i (ys++[y]) J H4 else Nxt P n i ys J H3)
  (hd:∀ ys σ H,P n ys σ H->∀ p,H p=none->Q (.ref p) (upd H p (.lst ys))) :
  ∃ W:Nat->Nat->List V->St->Hp->Prop,(∃ m,W 0 m [] σ0 H) /\ ∀ i m ys σ H,W i m ys σ H ->
   ((Itr lo n).stop i H /\ ys.length <= sizeLine /\ ∀ p,H p=none->Q (.ref p) (upd H p (.lst ys))) ∨
   ((Itr lo n).go i H /\ ys.length < sizeLine /\ ∀ x H',(Itr lo n).yld i H x H'->g x σ H' λJ H2=>tt J H2 λb H3=>if b=true then te J H3 λy H4=>∃ O,O < m /\ W (i+1) O (ys++[y]) J H4 else ∃ O,O < m /\ W (i+1) O ys J H3):=by
 refine ⟨λi m ys σ H=>m=n-i /\ i <= n /\ P i ys σ H,⟨n,by simp,yAJ _,U⟩,?_⟩
 rintro i m ys σ H ⟨rfl,hi,p⟩
 have ly:=hl i ys σ H p
 by_cases hlt:i < n
 .refine .inr ⟨hlt,by omega,λx H' y=>?_⟩
  obtain ⟨e,y⟩:=y
  subst e y
  exact Y i ys σ _ hlt p
 .have e:i=n:=by omega
  subst e
  exact .inl ⟨yAB _,by omega,hd ys σ H p⟩
theorem Same.upd {H H':Hp}{p:Addr}{o:HO}(e:Same H H')(h:H p=none):Same H (upd H' p o):=λb u q=>by rw [ZAJ (ZAD q h)];exact e b u q
theorem Same.new (e:Same H H')(h:H' p=none):Same H (L2.upd H' p o):=e.upd (e.free h)
theorem kit_same {t:Value}(h:(t == t)=true):PySem.W.kitOne K t t=some true:=by unfold PySem.W.kitOne;rw [if_pos h]
theorem ZDe (ns:List Int)(lo hi:Option Int):cutV (ns.map V.int) lo hi=(((ns.drop (HT.sIx ns.length 0 lo)).take (HT.sIx ns.length ns.length hi-HT.sIx ns.length 0 lo)).map V.int):=by
 unfold cutV
 rw [yAA,yCQ,yCR]
theorem ZCO {ns:List Int}{i:Nat}{x:V}(h:(ns.map V.int)[i]?=some x):∃ n,ns[i]?=some n /\ x=.int n:=by
 rw [yAM] at h
 cases e:ns[i]? with
 | none=>rw [e] at h;cases h
 | some n=>rw [e] at h;exact ⟨n,rfl,(Option.some.inj h).symm⟩
theorem ZFV {n:Nat}(J:0 <= i)(h:i < n):ixN n i=some i.toNat:=by unfold ixN;rw [if_pos J,if_pos h]
theorem ZEH {lo hi:Option Int}(h:SqL K H a xs)(q:∀ p,H p=none->Q (.ref p) (upd H p (.lst (cutV xs lo hi)))):rSlL K (.ref a) lo hi H Q:=⟨a,xs,rfl,h,q⟩
def forL (K:W.Frag)(g:TG)(tb:TS)(D:Ends)(σ:St)(x:V)(H1:Hp):Prop:=∃ a,x=.ref a /\ (∃ xs,SqL K H1 a xs) /\ ∃ W:Nat->Nat->St->Hp->Prop,(∃ m,W 0 m σ H1) /\ ∀ i m σ H,W i m σ H ->
 ((Itl K a).stop i H /\ D.nx σ H)∨((Itl K a).go i H /\ ∃ N:St->Hp->Prop,(∀ σ' H',N σ' H'->∃ m',m' < m /\ W (i+1) m' σ' H') /\ ∀ x H',(Itl K a).yld i H x H'->g x σ H' λσ2 H2=>tb { D with nx:=N,ct:=N,bk:=D.nx } σ2 H2)
theorem tForL_eq:tFor (ZF3 K tl) g tb D σ H=tl σ H (λx H1=>forL K g tb D σ x H1):=rfl
theorem ZB8 (h:SqL K H a xs)(J:Nat->St->Hp->Prop)(U:J 0 σ H)(hl:∀ i σ H,i <= xs.length->J i σ H->SqL K H a xs)
  (Y:∀ i x σ H,xs[i]?=some x->J i σ H->g x σ H λO H2=>tb { D with nx:=J (i+1),ct:=J (i+1),bk:=D.nx } O H2) (hd:∀ σ H,J xs.length σ H->D.nx σ H):forL K g tb D σ (.ref a) H :=
 ⟨a,rfl,⟨xs,h⟩,for_list J U hl Y hd⟩
def forR (lo:Int)(g:TG)(tb:TS)(D:Ends)(σ:St)(n:Nat)(H1:Hp):Prop:=∃ W:Nat->Nat->St->Hp->Prop,(∃ m,W 0 m σ H1) /\ ∀ i m σ H,W i m σ H ->
 ((Itr lo n).stop i H /\ D.nx σ H)∨((Itr lo n).go i H /\ ∃ N:St->Hp->Prop,(∀ σ' H',N σ' H'->∃ m',m' < m /\ W (i+1) m' σ' H') /\ ∀ x H',(Itr lo n).yld i H x H'->g x σ H' λσ2 H2=>tb { D with nx:=N,ct:=N,bk:=D.nx } σ2 H2)
def forR1 (g:TG)(tb:TS)(D:Ends)(σ:St)(x:V)(H1:Hp):Prop:=∃ j:Int,[x]=[.int j] /\ -(2 ^ 62) <= j /\ j < 2 ^ 62 /\ forR 0 g tb D σ j.toNat H1
def forR2 (g:TG)(tb:TS)(D:Ends)(σ:St)(x y:V)(H1:Hp):Prop:=∃ i j:Int,[x,y]=[.int i,.int j] /\ (-(2 ^ 62) <= i /\ i < 2 ^ 62 /\ -(2 ^ 62) <= j /\ j < 2 ^ 62) /\ forR i g tb D σ (j-i).toNat H1
theorem tForR1_eq {t:TE}:tFor (ZF2 (ZC1 t tNil)) g tb D σ H=t σ H (λx H1=>forR1 g tb D σ x H1):=rfl
theorem tForR2_eq {t u:TE}:tFor (ZF1 (ZC1 t (ZC1 u tNil))) g tb D σ H=t σ H (λx H1=>u σ H1 λy H2=>forR2 g tb D σ x y H2):=rfl
theorem ZDc {n:Nat}(J:Nat->St->Hp->Prop)(U:J 0 σ H)
  (Y:∀ i σ H,i < n->J i σ H->g (.int (lo+i)) σ H λO H2=>tb { D with nx:=J (i+1),ct:=J (i+1),bk:=D.nx } O H2) (hd:∀ σ H,J n σ H->D.nx σ H):forR lo g tb D σ n H:=for_range J U Y hd
theorem ZDK (h:-1000 <= j /\ j <= 1000)(q:forR 0 g tb D σ j.toNat H):forR1 g tb D σ (.int j) H:=⟨j,rfl,by omega,by omega,q⟩
theorem forR2_of (h:-1000 <= i /\ i <= 1000 /\ -1000 <= j /\ j <= 1000)(q:forR i g tb D σ (j-i).toNat H):forR2 g tb D σ (.int i) (.int j) H:=⟨i,j,rfl,by omega,q⟩
def ZFu (K:W.Frag)(g:TG)(tt:TT)(te:TE)(σ0:St)(Q:VK)(x:V)(H1:Hp):Prop:=∃ a,x=.ref a /\ (∃ xs,SqL K H1 a xs) /\ ∃ W:Nat->Nat->List V->St->Hp->Prop,(∃ m,W 0 m [] σ0 H1) /\ ∀ i m ys σ H,W i m ys σ H ->
 ((Itl K a).stop i H /\ ys.length <= sizeLine /\ ∀ p,H p=none->Q (.ref p) (upd H p (.lst ys))) ∨
 ((Itl K a).go i H /\ ys.length < sizeLine /\ ∀ x H',(Itl K a).yld i H x H'->g x σ H' λσ2 H2=>tt σ2 H2 λb H3=>if b=true then te σ2 H3 λy H4=>∃ m',m' < m /\ W (i+1) m' (ys++[y]) σ2 H4 else ∃ m',m' < m /\ W (i+1) m' ys σ2 H3)
theorem tCompL_eq:ZEG k js (ZF3 K tl) g tt te σ H Q=tl σ H (λx H1=>ZFu K g tt te (up k js σ) Q x H1):=rfl
theorem ZA8 (h:SqL K H a xs)(hz:xs.length <= 1000)(P:Nat->List V->St->Hp->Prop)(O:P 0 [] σ0 H)(hl:∀ i ys σ H,i <= xs.length->P i ys σ H->SqL K H a xs /\ ys.length <= i)
  (U:∀ i ys x σ H,i < xs.length->xs[i]?=some x->P i ys σ H->g x σ H λJ H2=>tt J H2 λb H3=>if b=true then te J H3 λy H4=>Nxt P xs.length i (ys++[y]) J H4 else Nxt P xs.length i ys J H3)
  (Y:∀ ys σ H,P xs.length ys σ H->∀ p,H p=none->Q (.ref p) (upd H p (.lst ys))):ZFu K g tt te σ0 Q (.ref a) H:=⟨a,rfl,⟨xs,h⟩,comp_list P O hl (ZAW hz) U Y⟩
def compR (lo:Int)(g:TG)(tt:TT)(te:TE)(σ0:St)(Q:VK)(n:Nat)(H1:Hp):Prop:=∃ W:Nat->Nat->List V->St->Hp->Prop,(∃ m,W 0 m [] σ0 H1) /\ ∀ i m ys σ H,W i m ys σ H ->
 ((Itr lo n).stop i H /\ ys.length <= sizeLine /\ ∀ p,H p=none->Q (.ref p) (upd H p (.lst ys))) ∨
 ((Itr lo n).go i H /\ ys.length < sizeLine /\ ∀ x H',(Itr lo n).yld i H x H'->g x σ H' λσ2 H2=>tt σ2 H2 λb H3=>if b=true then te σ2 H3 λy H4=>∃ m',m' < m /\ W (i+1) m' (ys++[y]) σ2 H4 else ∃ m',m' < m /\ W (i+1) m' ys σ2 H3)
def compR1 (g:TG)(tt:TT)(te:TE)(σ0:St)(Q:VK)(x:V)(H1:Hp):Prop:=∃ j:Int,[x]=[.int j] /\ -(2 ^ 62) <= j /\ j < 2 ^ 62 /\ compR 0 g tt te σ0 Q j.toNat H1
theorem tCompR1_eq {t:TE}:ZEG k js (ZF2 (ZC1 t tNil)) g tt te σ H Q=t σ H (λx H1=>compR1 g tt te (up k js σ) Q x H1):=rfl
theorem ZDf (h:-1000 <= j /\ j <= 1000)(P:Nat->List V->St->Hp->Prop)(O:P 0 [] σ0 H)(hl:∀ i ys σ H,P i ys σ H->ys.length <= i)
  (U:∀ i ys σ H,i < j.toNat->P i ys σ H->g (.int (0+i)) σ H λJ H2=>tt J H2 λb H3=>if b=true then te J H3 λy H4=>Nxt P j.toNat i (ys++[y]) J H4 else Nxt P j.toNat i ys J H3)
  (Y:∀ ys σ H,P j.toNat ys σ H->∀ p,H p=none->Q (.ref p) (upd H p (.lst ys))):compR1 g tt te σ0 Q (.int j) H:=⟨j,rfl,by omega,by omega,comp_range P O hl (ZAW (by omega)) U Y⟩
def CDivB (i j:Int):Prop:=0 < j /\ j < 2 ^ 250
section
theorem op_fdivB:OpR X (binaryOp .FloorDiv) (rI CDivB λi j=>.int (i / j)):=opI λi j _ _ _ _ _ hc q=>by
 have h1:(0:Int) < j:=hc.1
 have h2:j < 2 ^ 250:=hc.2
 have h3:j.natAbs < 2 ^ 250:=by
  have e:(j.natAbs:Int)=j:=Int.natAbs_of_nonneg (by omega)
  have J:((2 ^ 250:Nat):Int)=2 ^ 250:=by rfl
  omega
 have O:j.natAbs.log2 < 250:=(Nat.log2_lt (by omega)).mpr h3
 exact floordiv_int (by omega) (by rw [Int.fdiv_eq_ediv_of_nonneg i (by omega)];exact q) (.inl (PyProof.noPylong_of_log2 (by omega)))
end
theorem gCons_eq {t:TG}{u:TGs}{r:List V}{Q:St->Hp->Prop}:ZF6 t u (v::r) σ H Q=t v σ H (λJ H'=>u r J H' Q):=by
 apply propext;unfold ZF6;constructor
 .rintro ⟨O,r',e,q⟩;cases e;exact q
 .exact λq=>⟨v,r,rfl,q⟩
theorem gNil_eq {Q:St->Hp->Prop}:gNil [] σ H Q=Q σ H:=by
 apply propext;unfold gNil;simp
theorem ZEk {n:Nat}{t:TGs}{Q:St->Hp->Prop}(h:SqT K H a xs)(l:xs.length=n)(q:t xs σ H Q):gTup K n t (.ref a) σ H Q:=⟨a,xs,rfl,h,l,q⟩
section
variable {tg l e o:Expr}{es:List Expr}{to:TE}{t:TA}{apos cpos:Pos}{f:Str}
theorem ix_listK (K:W.Frag)(h:X.K=K:=by rfl):IxR X (rIxL K):=h ▸ ZAd
theorem ZEf (K:W.Frag)(h:X.K=K:=by rfl):IxR X (rIxT K):=h ▸ ZA4
theorem sl_listK (K:W.Frag)(h:X.K=K:=by rfl):SlR X (rSlL K):=h ▸ ZDP
theorem call_len_seqK (K:W.Frag)(h:X.K=K:=by rfl):ZCE X (.builtin "len") (λxs H Q=>∃ p ys,xs=[.ref p] /\ (SqL K H p ys∨SqT K H p ys) /\ Q (.int ys.length) H):=h ▸ ZAI
theorem ZBH (K:W.Frag)(h:X.K=K:=by rfl):ZCE X (.type "list") (λxs H Q=>∃ p ys,xs=[.ref p] /\ (SqL K H p ys∨SqT K H p ys) /\ ∀ l,H l=none->Q (.ref l) (upd H l (.lst ys))):=h ▸ ZBR
theorem pg_tupK (K:W.Frag){J:TGs}{n:Nat}(hc:X.calm=true)(U:PGs X es J)
  (hn:(assignEach es X.env).length=n:=by rfl) (O:(assignEach es X.env).findIdx? (·.1)=none:=by rfl) (h:X.K=K:=by rfl):PG X (.Tuple es k pos) (gTup K n J):=h ▸ ZFO hc U hn O
end
section
variable {X:Cx}
def rBits:V->List V->Hp->VK->Prop:=λx vs H Q=>∃ i,x=.int i /\ vs=[] /\ Q (.int (Builtin.Int.intBits i:Nat)) H
theorem ZDW:MtR X "int.bit_length" rBits:=by
 intro pins s σ H x vs v us Q I O J h
 obtain ⟨i,rfl,rfl,q⟩:=h
 obtain ⟨t,rfl⟩:=O
 cases J.zero
 refine call_gives F.slot_int_bit_length (typeIs_int s i t) F.entry_int_bit_length (F.args_int_bit_length_1 _) (PySem.AutoIntG2.int_bit_length_int_0 i t) ?_
 exact ⟨.int (Builtin.Int.intBits i:Nat),_,I.tok _,⟨_,rfl⟩,q⟩
theorem bits_nat (n:Nat)(h:n≠0):Builtin.Int.intBits (n:Int)=n.log2+1:=by
 unfold Builtin.Int.intBits
 rw [if_neg (by simpa using h)]
 rfl
theorem bits_le {n:Int}(J:0 <= n):Builtin.Int.intBits n <= k↔n < 2 ^ k:=by
 obtain ⟨m,rfl⟩:∃ m:Nat,n=m:=⟨n.toNat,by omega⟩
 rcases Nat.eq_zero_or_pos m with e | e
 .subst e
  have:(0:Int) < 2 ^ k:=Int.pow_pos (by decide)
  exact ⟨λ_=>this,λ_=>yAJ _⟩
 .rw [bits_nat _ (by omega),Nat.succ_le_iff,Nat.log2_lt (by omega)]
  have:((2 ^ k:Nat):Int)=2 ^ k:=by simp
  omega
theorem tAug_eq {i:Nat}{ti:TIp}:tAug i te ti D σ H=tVar i σ H (λx J=>te σ J λy H1=>ti x y H1 λz H2=>D.nx (σ.set i (some z)) H2):=rfl
theorem ipI_int {f:Int->Int->Int}:ipI f (.int i) (.int j) H Q=Q (.int (f i j)) H:=rfl
theorem cx_K {N:List Str}{J:Value}{A:Around}{E:XK}:(cxOf CX P w K mg base N qual scope f J A outer s H E).K=K:=rfl
def wBody (W:Nat->St->Hp->Prop)(m:Nat)(tb:TS)(D:Ends)(σ:St)(H1:Hp):Prop:=∃ N:St->Hp->Prop,(∀ σ' H',N σ' H'->∃ m',m' < m /\ W m' σ' H') /\ tb { D with nx:=N,ct:=N,bk:=D.nx } σ H1
theorem ZBX {W:Nat->St->Hp->Prop}{m:Nat}(h:tb { D with nx:=λJ H'=>∃ O,O < m /\ W O J H',ct:=λJ H'=>∃ O,O < m /\ W O J H',bk:=D.nx } σ H1):wBody W m tb D σ H1:=⟨_,λ_ _ q=>q,h⟩
theorem ZBW {c:TT}(W:Nat->St->Hp->Prop)(J:∃ m,W m σ H)(O:∀ m σ H,W m σ H->c σ H λb H1=>if b=true then wBody W m tb D σ H1 else D.nx σ H1):tWhile c tb D σ H:=⟨W,J,O⟩
noncomputable def insV (xs:List V)(i:Int)(y:V):List V:=let k:=if i < 0 then (i+(xs.length:Int)).toNat else min i.toNat xs.length;xs.take k++y::xs.drop k
inductive rInsert:V->List V->Hp->VK->Prop
 | mk (l xs i y:_):x_=.ref l->M=[.int i,y]->Z l=some (.lst xs)->xs.length < sizeLine->(-(2 ^ 62) <= i /\ i < 2 ^ 62)->N .non (upd Z l (.lst (insV xs i y)))->rInsert x_ M Z N
theorem ins_arr (its:List Value)(k:Nat)(u:Value)(J:k <= its.length):(its.toArray.extract 0 k).push u++its.toArray.extract k=(its.take k++u::its.drop k).toArray:=by
 apply Array.ext'
 simp
 exact yBL (by rw [yAX];exact yAB _)
theorem insV_length (xs:List V)(i:Int)(y:V):(insV xs i y).length=xs.length+1:=by
 unfold insV
 dsimp only
 rw [yAC,yAG,yAP,yAX]
 omega
theorem Vals.ins {xs:List V}{us:List Value}{y:V}{u:Value}(r:Vals xs us)(q:RelV y u)(k:Nat):Vals (xs.take k++y::xs.drop k) (us.take k++u::us.drop k):=(r.take k).append (.cons q (r.drop k))
theorem mt_insert:MtM X "list.insert" rInsert:=by
 intro pins s σ H x vs v us Q I rx Y h
 obtain ⟨l,xs,i,y,rfl,rfl,U,hz,hi,q⟩:=h
 cases rx
 obtain ⟨u,u2,rfl,ru,J⟩:=Y.two
 obtain ⟨t,rfl⟩:=ru
 obtain ⟨z,its,n,r,hl,e⟩:=I.lstM U
 have O:¬(!Builtin.List.listFitsIndex i)=true:=by
  unfold Builtin.List.listFitsIndex
  have:(decide (-(2 ^ 63:Int) <= i) && decide (i < 2 ^ 63))=true:=by
   rw [yBX];exact ⟨decide_eq_true (by omega),decide_eq_true (by omega)⟩
  simpa using this
 refine call_meets F.slot_list_insert ⟨_,e,rfl⟩ F.entry_list_insert (F.args_list_insert_3 _ _ _) (PySem.AutoListH.list_insert_list_int_val_1 l its.toArray n i t u2 O (by rw [yAU];omega)) ⟨e,?_⟩
 have hk:(if i < 0 then (i+(its.length:Int)).toNat else min i.toNat its.length) <= its.length:=by split <;> omega
 refine ⟨.non,_,I.lset (its':=its.take (if i < 0 then (i+(its.length:Int)).toNat else min i.toNat its.length)++u2::its.drop (if i < 0 then (i+(its.length:Int)).toNat else min i.toNat its.length)) U e ?_ (ys:=insV xs i y) ?_ ?_,rfl,q⟩
 .show (its.toArray.extract 0 _).push u2++its.toArray.extract _=_
  rw [yAU]
  exact ins_arr its _ u2 hk
 .unfold insV
  rw [hl]
  exact r.ins J _
 .rw [insV_length];omega
end
structure Enc {α:Type}[DecidableEq α](e:α->PyData)(n:Nat):Prop where
 eq:∀ a b,PyData.eqv (e a) (e b)=decide (a=b)
 lay:∀ a,(e a).canLay0=true
 dep:∀ a,(e a).depth <= n
theorem Enc.int:Enc PyData.int 0:=⟨λa b=>by unfold PyData.eqv;rw [Bool.eq_iff_iff];simp,λa=>by unfold PyData.canLay0;rfl,λa=>by unfold PyData.depth;exact yAB _⟩
section
variable {α β γ:Type}[DecidableEq α][DecidableEq β][DecidableEq γ]{e:α->PyData}{f:β->PyData}{g:γ->PyData}{n m:Nat}
theorem Enc.all (h:Enc e n):∀ xs ys:List α,PyData.eqvAll (xs.map e) (ys.map e)=decide (xs=ys)
 | [],[]=>by simp [PyData.eqvAll]
 | x::xs,[]=>by simp [PyData.eqvAll]
 | [],y::ys=>by simp [PyData.eqvAll]
 | x::xs,y::ys=>by
  rw [yAZ,yAZ]
  unfold PyData.eqvAll
  rw [h.eq,h.all xs ys,<- Bool.decide_and]
  exact decide_eq_decide.mpr (by rw [List.cons.injEq])
theorem Enc.layAll (h:Enc e n):∀ xs:List α,PyData.canLayAll0 (xs.map e)=true
 | []=>by simp [PyData.canLayAll0]
 | x::xs=>by rw [yAZ];unfold PyData.canLayAll0;rw [h.lay,h.layAll xs];rfl
theorem Enc.depAll (h:Enc e n):∀ xs:List α,PyData.depthAll (xs.map e) <= n
 | []=>by simp [PyData.depthAll]
 | x::xs=>by
  rw [yAZ];unfold PyData.depthAll
  have a:=h.dep x
  have b:=h.depAll xs
  omega
theorem Enc.list (h:Enc e n):Enc (λxs:List α=>PyData.list (xs.map e)) (n+1) :=
 ⟨λa b=>by unfold PyData.eqv;exact h.all a b,λa=>by unfold PyData.canLay0;exact h.layAll a,λa=>by unfold PyData.depth;have:=h.depAll a;omega⟩
theorem eqD_of {x:V}{a b:α}(h:Enc e n)(hn:n <= 64)(dx:Dp K H (e a) x)(J:Dp K H (e b) y)(q:Q (.bl (decide (a=b))) H):rEqD K x y H Q :=
 ⟨_,_,dx,J,h.lay a,h.lay b,yAL (h.dep a) hn,by rw [h.eq];exact q⟩
theorem neD_of {x:V}{a b:α}(h:Enc e n)(hn:n <= 64)(dx:Dp K H (e a) x)(J:Dp K H (e b) y)(q:Q (.bl (!decide (a=b))) H):rNeD K x y H Q :=
 ⟨_,_,dx,J,h.lay a,h.lay b,yAL (h.dep a) hn,by rw [h.eq];exact q⟩
end
theorem ZED {xs:List Int}(h:SqL K H a (xs.map V.int)):Dp K H (.list (xs.map PyData.int)) (.ref a):=dp_lst h (DpAll.ints xs)
section
variable {R:Bool->Prop}
theorem ZEg {x c:V}{b:Bool}(hc:ZE7 c=true)(t:TyOf K H x ty)(k:PySem.W.kitOne K ty (cval c)=some b)(q:R b):∃ J c' ty b,[x,c]=[J,c'] /\ ZE7 c'=true /\ TyOf K H J ty /\ PySem.W.kitOne K ty (cval c')=some b /\ R b:=⟨x,c,ty,b,rfl,hc,t,k,q⟩
theorem inst_int (q:R true):∃ J c' ty b,[V.int i,V.ty "int"]=[J,c'] /\ ZE7 c'=true /\ TyOf K H J ty /\ PySem.W.kitOne K ty (cval c')=some b /\ R b:=ZEg rfl (.int i) (kit_same rfl) q
theorem inst_int_bl (k:PySem.W.kitOne K (.type "int") (.type "bool")=some false)(q:R false):∃ J c' ty b,[V.int i,V.ty "bool"]=[J,c'] /\ ZE7 c'=true /\ TyOf K H J ty /\ PySem.W.kitOne K ty (cval c')=some b /\ R b:=ZEg rfl (.int i) k q
theorem inst_lst (h:H a=some (.lst xs))(q:R true):∃ J c' ty b,[V.ref a,V.ty "list"]=[J,c'] /\ ZE7 c'=true /\ TyOf K H J ty /\ PySem.W.kitOne K ty (cval c')=some b /\ R b:=ZEg rfl (.lst h) (kit_same rfl) q
end
structure FunD (K:W.Frag)(x qual:Str)(st:Stmt)(f:Addr)(fd:FuncData)(dv:List Value):Prop where
 ex:∃ (oc:Value) (od:Option Addr) (T:Addr) (kV doc pm:Value) (an:Option Addr) (cdv ct:Value) (osl:Array (Option Value)),
  fd=W.fnOf x qual (ZA1 st) (ZAs st) (ZAG st) (.ref T) kV doc pm an cdv ct /\ K.lookup f=some ⟨oc,od,.func fd,osl⟩ /\ W.codeIn K cdv qual=true /\ ∃ o n,K.lookup T=some o /\ o.data=.seq dv.toArray n
 kp:W.keepIn K (.ref f)=true
section
theorem FunD.ok {st:Stmt}{N:List Str}(F:FunD K x qual st f fd dv)(S:FnScope N ps (ZAG st))(len:∀ vs H Q E,sp vs H Q E->vs.length=ps.length)
  (O:∀ (J:Value) (A:Around) (outer:List Env) (s:Shared) (H:Hp) (vs:List V) (Q:VK) (E:XK),Room k (A.deeper (envOfC qual (ZAG st) s.heap.objs.size f J))->sp vs H Q E ->
   ∃ t,PSs (cxOf CX0 P w K mg base N qual (ZAG st) f J A outer s H E).nox (ZAs st) t /\ t { nx:=λ_ H'=>Q .non H',rt:=Q } (start N vs) H):FnOk P w K mg base CX0 (k+1) f fd ps sp:=by
 obtain ⟨oc,od,T,kV,a1,pm,an,J,ct,a0,rfl,lk,Y,_⟩:=F.ex
 refine fn_of lk Y S len λA outer s H vs Q E hr U=>?_
 obtain ⟨t,h,q⟩:=O J A outer s H vs Q E hr U
 exact ⟨t,h.nox,q⟩
theorem FunD.binds {st:Stmt}{ds:List Value}(F:FunD K x qual st f fd dv)
  (h:∀ (T:Addr) (kV J U:Value) (an:Option Addr) (O ct:Value) (us:List Value),(us++ds).length=ps.length->∃ k,bindArgs (W.fnOf x qual (ZA1 st) (ZAs st) (ZAG st) (.ref T) kV J U an O ct) ⟨us,[]⟩=seqItems? (.ref T) >>= k /\ k (some dv.toArray)=pure (ps.zip (us++ds))):Binds K fd ps ds:=by
 obtain ⟨oc,od,T,kV,J,U,an,O,ct,Y,rfl,lk,a0,o,n,hT,ho⟩:=F.ex
 intro s us KX hl
 obtain ⟨k,h1,h2⟩:=h T kV J U an O ct us hl
 exact PySem.W.binds_K KX rfl hT ho h1 h2
theorem ZCm {st:Stmt}{T:Addr}{an:Option Addr}{U:Array (Option Value)}{O pm J ct:Value}{a1:Value}{a0:Option Addr}{nT:Nat}{Y:Array (Option Value)}(l:K.lookup f=some ⟨oc,od,.func (W.fnOf x qual (ZA1 st) (ZAs st) (ZAG st) (.ref T) ty O pm an J ct),U⟩)
  (c:W.codeIn K J qual=true) (k:W.keepIn K (.ref f)=true) (t:K.lookup T=some ⟨a1,a0,.seq dv.toArray nT,Y⟩):FunD K x qual st f (W.fnOf x qual (ZA1 st) (ZAs st) (ZAG st) (.ref T) ty O pm an J ct) dv:=⟨⟨oc,od,T,ty,O,pm,an,J,ct,U,rfl,l,c,_,nT,t,rfl⟩,k⟩
end
structure KlD (P:Program)(w:World)(K:W.Frag)(mg:Str->Option Value)(base:Heap)(CX:CXT)(x:Str)(C:Addr)(k:Nat)(ps:List Str)(sp:Sp)(dvs:List V):Prop where
 mgC:mg x=some (.ref C)
 ex:∃ f fd ds,FnOk P w K mg base CX k f fd ps sp /\ Binds K fd ps ds /\ Vals dvs ds /\ Mk K C f
section
variable {dvs:List V}{E:XK}{m:Str}{p apos:Pos}{e o:Expr}{es:List Expr}{t:TA}
theorem pe_mkD (F:KlD X.prog X.w X.K X.mg X.base CX x C k ps sp dvs)(hr:Room (k+1) X.A)(hg:Gl X x)(Y:ZCD CX X E)(ha:PA X (e::es) t)(J:(x == ("__debug__":Str))=false:=by decide)(U:starEach (e::es) X.env=(false,eval e X.env)::starEach es X.env:=by rfl)(O:(backTo pos (starEach es X.env)).any (·.1)=false:=by rfl) :
  PE X (.Call (.Name x p) (e::es) [] pos) (ZFk C sp dvs E t):=by
 obtain ⟨f,fd,ds,h1,h2,hv,h3⟩:=F.ex
 exact pe_make h3 h1 hr hg F.mgC h2 hv Y ha J U O
end
section
theorem ZCu (ns:List Int):∀ n,n <= ns.length->preSum (λi=>ns.getD i 0) n=(ns.take n).sum
 | 0,_=>by simp [preSum]
 | n+1,h=>by
  show preSum (λi=>ns.getD i 0) n+ns.getD n 0=_
  rw [ZCu ns n (by omega),List.take_succ]
  rw [yBI,yAF (show n < ns.length by omega),List.sum_append]
  simp
def SumOk (ns:List Int):Prop:=ns.length <= 1000 /\ ∀ x∈ns,-1000000000 <= x /\ x <= 1000000000
theorem sum_bound:∀ (ns:List Int),(∀ x∈ns,-1000000000 <= x /\ x <= 1000000000)->-(ns.length * 1000000000:Int) <= ns.sum /\ ns.sum <= ns.length * 1000000000
 | [],_=>by simp
 | x::r,h=>by
  have a:=h x yAD
  have b:=sum_bound r λy J=>h y (yAE _ J)
  rw [List.sum_cons,yAG]
  omega
theorem call_sum (hc:X.calm=true):ZCE X (.builtin "sum") (λxs H Q=>∃ (p:Addr) (ns:List Int),xs=[.ref p] /\ SqL X.K H p (ns.map V.int) /\ SumOk ns /\ Q (.int ns.sum) H):=by
 intro pins s σ H xs us Q I r h
 obtain ⟨p,ns,rfl,hq,hs,q⟩:=h
 obtain ⟨u,rfl,rx⟩:=ZC0 r
 cases rx
 obtain ⟨its,r',pl,hz⟩:=I.list hq
 have J:=r'.length
 rw [yAA] at J
 have hh:X.A.handled=none:=I.ok.hd hc
 have hl:=pl.isList
 have Y:p < s.heap.objs.size:=by obtain ⟨_,e,_⟩:=hl;exact Heap.lt_size e
 refine call_sum_walk (wpAny_pyIter_list hl ⟨s.heap.objs.size,_,_,_,_,_,λi=>ns.getD i 0,rfl,Walks.list (A:=X.A.in1) hh s.heap.objs.size p (yAQ Y) its.toArray,⟨⟨_,Heap.get?_push_size _ rfl,rfl,rfl⟩,hl.push _⟩,λb hb=>?_,λi v hP=>?_,λj hj=>?_,λh' tk t' hk=>?_⟩)
 .have a0:b=s.heap.objs.size∨b=p:=by simpa using hb
  show b < (s.heap.push _).objs.size
  rw [Heap.size_push]
  rcases a0 with rfl | rfl
  .exact yCC _
  .exact Nat.lt_succ_of_lt Y
 .have U:its[i]?=some v:=by simpa using hP
  have hi:i < its.length:=(yAO.mp U).1
  obtain ⟨b,hb⟩:∃ b,ns[i]?=some b:=⟨_,yAF (by omega)⟩
  obtain ⟨u,hu,ru⟩:=r'.get (i:=i) (x:=.int b) (by rw [yAM,hb];rfl)
  rw [U] at hu
  cases hu
  obtain ⟨t,rfl⟩:=ru
  refine ⟨t,?_⟩
  show _=Value.int (ns.getD i 0) t
  rw [yBI,hb]
  rfl
 .have O:j < ns.length:=by simp at hj;omega
  have a1:ns.getD j 0∈ns:=by
   rw [yBI,yAF O]
   exact List.getElem_mem O
  have b1:=hs.2 _ a1
  have b2:=sum_bound (ns.take (j+1)) λy hy=>hs.2 y (List.mem_of_mem_take hy)
  have b3:(ns.take (j+1)).length <= 1000:=by rw [yAP];have:=hs.1;omega
  rw [ZCu ns (j+1) O]
  show (-(2 ^ 63) <= ns.getD j 0 /\ ns.getD j 0 < 2 ^ 63) /\ (-(2 ^ 63) <= (ns.take (j+1)).sum /\ (ns.take (j+1)).sum < 2 ^ 63)
  refine ⟨⟨by omega,by omega⟩,?_⟩
  omega
 .refine ⟨.int ns.sum,H,I.kept (t':=tk) (λb o e=>hk b o ?_ (Heap.get?_push_of_some _ e)),⟨t',?_⟩,q⟩
  .intro z
   have:b=s.heap.objs.size:=by simpa using z
   exact absurd (Heap.lt_size e) (by rw [this];exact yBR _)
  .have:its.toArray.size=ns.length:=by simp [J]
   rw [this,ZCu ns ns.length (yAB _),List.take_length]
theorem rng_ok {t u v:Tok}(e:h.get? a=some { cls:=.type "range",data:=.fields #[.int lo t,.int hi u,.int 1 v] }):ObjOk P w H h a (.rng lo hi):=⟨t,u,v,e⟩
theorem call_rng1:ZCE X (.type "range") (λxs H Q=>∃ n:Int,xs=[.int n] /\ ∀ p,H p=none->Q (.ref p) (upd H p (.rng 0 n))):=by
 intro pins s σ H xs us Q I r h
 obtain ⟨n,rfl,q⟩:=h
 obtain ⟨u,rfl,J⟩:=ZC0 r
 obtain ⟨t,rfl⟩:=J
 exact call_range_1 ⟨.ref s.heap.objs.size,_,I.laid (λb o e=>Heap.get?_push_of_some _ e) (yAB _) (rng_ok (Heap.get?_push_size _ rfl)),rfl,q _ (I.hok.fresh (yAB _))⟩
theorem call_rng2:ZCE X (.type "range") (λxs H Q=>∃ m n:Int,xs=[.int m,.int n] /\ ∀ p,H p=none->Q (.ref p) (upd H p (.rng m n))):=by
 intro pins s σ H xs us Q I r h
 obtain ⟨m,n,rfl,q⟩:=h
 obtain ⟨u,w',rfl,O,J⟩:=ZE0 r
 obtain ⟨t,rfl⟩:=O
 obtain ⟨t',rfl⟩:=J
 exact call_range_2 ⟨.ref s.heap.objs.size,_,I.laid (λb o e=>Heap.get?_push_of_some _ e) (yAB _) (rng_ok (Heap.get?_push_size _ rfl)),rfl,q _ (I.hok.fresh (yAB _))⟩
noncomputable def ZDC (lo hi:Int):List Int:=(List.range (hi-lo).toNat).map λi:Nat=>lo+(i:Int)
theorem ZCK (lo hi:Int):(ZDC lo hi).length=(hi-lo).toNat:=by unfold ZDC;rw [yAA,List.length_range]
theorem rints_get {i:Nat}(h:i < (hi-lo).toNat):(ZDC lo hi)[i]?=some (lo+i):=by unfold ZDC;rw [yAM,List.getElem?_range h];rfl
theorem ZCC (hc:X.calm=true):ZCE X (.type "list") (λxs H Q=>∃ (p:Addr) (lo hi:Int),xs=[.ref p] /\ H p=some (.rng lo hi) /\ (-1000 <= lo /\ lo <= 1000 /\ -1000 <= hi /\ hi <= 1000) /\ ∀ l,H l=none->Q (.ref l) (upd H l (.lst ((ZDC lo hi).map V.int)))):=by
 intro pins s σ H xs us Q I r h
 obtain ⟨p,lo,hi,rfl,hp,hb,q⟩:=h
 obtain ⟨u,rfl,rx⟩:=ZC0 r
 cases rx
 obtain ⟨t,u,v,e⟩:=I.hok p _ hp
 have hh:X.A.handled=none:=I.ok.hd hc
 refine call_list_range (n:=(hi-lo).toNat) hh e (small_one (by omega) (by omega) (by omega) (by omega)) (by rw [rangeSize_one];split <;> omega) (by omega) λh' tk J c' hk Y O=>?_
 have hz:(ZDC lo hi).length <= 1000 * 2:=by rw [ZCK];omega
 refine ⟨.ref s.heap.objs.size,_,I.laid (t':=tk) hk (yAB _) (o:=.lst ((ZDC lo hi).map V.int)) ⟨?_,J.toList,c',?_,by simpa using Y⟩,rfl,q _ (I.hok.fresh (yAB _))⟩
 .rw [yAA]
  exact yAL hz (by decide)
 .have hsz:J.size=(hi-lo).toNat:=O.1
  have U:∀ (vs:List Value) (k:Nat) (zs:List Int),vs.length=zs.length->(∀ (j:Nat) v z,vs[j]?=some v->zs[j]?=some z->∃ t,v=Value.int z t)->Vals (zs.map V.int) vs:=by
   intro vs
   induction vs with
   | nil=>intro k zs h1 _;cases zs with
    | nil=>exact .nil
    | cons _ _=>cases h1
   | cons v r ih=>intro k zs h1 h2;cases zs with
    | nil=>cases h1
    | cons z zr=>exact .cons (h2 0 v z rfl rfl) (ih 0 zr (by simpa using h1) λj v' z' a b=>h2 (j+1) v' z' (by simpa using a) (by simpa using b))
  refine U J.toList 0 (ZDC lo hi) (by rw [ZCK,yAR,hsz]) λj v z a b=>?_
  have a':J[j]?=some v:=by simpa using a
  obtain ⟨t,rfl⟩:=O.2 j v a'
  have hj:j < (hi-lo).toNat:=by have:=(yCD.mp a').1;omega
  rw [rints_get hj] at b
  cases b
  exact ⟨t,by rw [Int.mul_one]⟩
theorem ZCB:ZCE X (.builtin "sorted") (λxs H Q=>∃ (p:Addr) (ns:List Int),xs=[.ref p] /\ SqL X.K H p (ns.map V.int) /\ ns.length < 64 /\ ∀ (l:Addr) (ms:List Int),H l=none->ms.Perm ns->ms.Pairwise (· <= ·)->Q (.ref l) (upd H l (.lst (ms.map V.int)))):=by
 intro pins s σ H xs us Q I r h
 obtain ⟨p,ns,rfl,hq,hn,q⟩:=h
 obtain ⟨u,rfl,rx⟩:=ZC0 r
 cases rx
 obtain ⟨its,r',pl,hz⟩:=I.list hq
 have O:=r'.length
 rw [yAA] at O
 refine sorted_ints pl.isList (intsAre_of r') (by omega) λout J a1 U a3=>?_
 obtain ⟨e,he⟩:=sortedAll_at s.heap its out
 have Y:J.length=ns.length:=U.length_eq
 refine ⟨.ref (s.heap.objs.size+1),_,I.laid (t':=s.toks) (λb o e=>sortedAll_old e) (yBF _) (o:=.lst (J.map V.int)) ⟨?_,out.toList,e,ZCp a1,by simpa using he⟩,rfl,q _ J (I.hok.fresh (yBF _)) U a3⟩
 rw [yAA]
 exact yAL (show J.length <= 1000 by omega) (by decide)
end
theorem Same.get (s:Same H H')(h:H b=some o):H' b=some o:=s b o h
theorem newH (h:H p=none)(o:HO):∃ H',upd H p o=H' /\ Same H H' /\ H' p=some o:=⟨_,rfl,ZAM h o,ZAE⟩
section
variable {rest:St}
theorem compL_gen (h:SqL K H a xs)(hz:xs.length <= 1000)(e0:σ0=none::rest)(R:V->V->Hp->Prop)(mono:∀ x y H1 H2,Same H1 H2->R x y H1->R x y H2)
  (hs:∀ (i:Nat) x H',xs[i]?=some x->Same H H'->∀ Q':VK,(∀ y H4,Same H' H4->R x y H4->Q' y H4)->te (some x::rest) H' Q')
  (hd:∀ ys H' p,ys.length=xs.length->(∀ (j:Nat) x y,xs[j]?=some x->ys[j]?=some y->R x y H')->Same H H'->H' p=none->Q (.ref p) (upd H' p (.lst ys))):ZFu K (ZEl 0) tYes te σ0 Q (.ref a) H:=by
 subst e0
 refine ZA8 h hz (λi ys σ H'=>∃ v,σ=v::rest /\ Same H H' /\ ys.length=i /\ ∀ (j:Nat) x y,xs[j]?=some x->ys[j]?=some y->R x y H') ⟨_,rfl,.refl _,rfl,λj x y _ q=>by cases q⟩ ?_ ?_ ?_
 .rintro i ys σ H' _ ⟨v,rfl,e,hl,_⟩
  exact ⟨e.seq h,yCO hl⟩
 .rintro i ys x σ H' hi Y ⟨v,rfl,e,hl,U⟩
  show te (some x::rest) H' _
  refine hs i x H' Y e _ λy H4 q1 q2=>?_
  refine Nxt.of hi ⟨_,rfl,e.trans q1,by rw [yAC,hl];rfl,λj x' y' O J=>?_⟩
  by_cases hj:j < ys.length
  .rw [yBB hj] at J
   exact mono _ _ _ _ q1 (U j x' y' O J)
  .rw [yAT (by omega)] at J
   have:j-ys.length=0:=by
    rcases Nat.eq_zero_or_pos (j-ys.length) with z | z
    .exact z
    .rw [yBO (show [y].length <= j-ys.length from z)] at J
     cases J
   rw [this] at J
   cases J
   rw [show j=i by omega,Y] at O
   cases O
   exact q2
 .rintro ys σ H' ⟨v,rfl,e,hl,U⟩ p hp
  exact hd ys H' p hl U e hp
theorem compI_gen {ms:List Int}(h:SqL K H a (ms.map V.int))(U:ms.length <= 1000)(e0:σ0=none::rest)(R:Int->Int->Prop)
  (hs:∀ c H',c∈ms->Same H H'->∀ Q':VK,(∀ r H4,Same H' H4->R c r->Q' (.int r) H4)->te (some (.int c)::rest) H' Q')
  (hd:∀ (rs:List Int) (H':Hp) (p:Addr),rs.length=ms.length->(∀ (j:Nat) c r,ms[j]?=some c->rs[j]?=some r->R c r)->Same H H'->H' p=none->Q (.ref p) (upd H' p (.lst (rs.map V.int)))):ZFu K (ZEl 0) tYes te σ0 Q (.ref a) H:=by
 refine compL_gen h (by rw [yAA];exact U) e0 (λx y _=>∃ c r,x=.int c /\ y=.int r /\ R c r) (λ_ _ _ _ _ q=>q) (λi x H' hx e Q' k=>?_) λys H' p hl O e hp=>?_
 .obtain ⟨c,hc,rfl⟩:=ZCO hx
  exact hs c H' (yAS hc) e Q' λr H4 q1 q2=>k _ _ q1 ⟨c,r,rfl,rfl,q2⟩
 .have J:∀ y∈ys,∃ r,y=.int r:=λy J=>by
   obtain ⟨j,Y⟩:=yBY J
   have a0:j < ys.length:=(yAO.mp Y).1
   obtain ⟨c,r,_,e,_⟩:=O j _ y (yAF (by omega)) Y
   exact ⟨r,e⟩
  have:∃ rs:List Int,ys=rs.map V.int:=by
   clear hl O hp
   induction ys with
   | nil=>exact ⟨[],rfl⟩
   | cons y t ih=>
    obtain ⟨r,rfl⟩:=J y yAD
    obtain ⟨rs,rfl⟩:=ih λz U=>J z (yAE _ U)
    exact ⟨r::rs,rfl⟩
  obtain ⟨rs,rfl⟩:=this
  rw [yAA,yAA] at hl
  refine hd rs H' p hl (λj c r hc hr=>?_) e hp
  obtain ⟨c',r',e1,e2,q⟩:=O j (.int c) (.int r) (by rw [yAM,hc];rfl) (by rw [yAM,hr];rfl)
  cases e1
  cases e2
  exact q
end
section
variable {pins:List (Addr×Obj)}
theorem Inv.turn2 (I:Inv X pins σ H s){ch:List Addr}{t':Nat}(hf:∀ b∈ch,FpOk X pins H b)(k:∀ b J,b∉ch->s.heap.get? b=some J->h'.get? b=some J)
  (hp:s.heap.objs.size <= p) (new:ObjOk X.prog X.w (upd H p o) h' p o):Inv X pins σ (upd H p o) { s with heap:=h',toks:=t' }:=by
 have hn:H p=none:=I.hok.fresh hp
 have Y:∀ b u,H b=some u->b∉ch:=λb u e z=>by rw [(hf b z).1] at e;cases e
 refine I.call (g':=s.gens) (t':=t') (d':=s.drawn) (ch:=ch) ⟨λb J e n _ O=>k b J O e,λb J e n _ O=>⟨J.slots,k b J O e⟩,λb J e n _=>?_,λb J e O=>⟨J,k b J O e⟩,λb xs e=>?_,λb J u e=>?_,λb qs e=>⟨#[],?_⟩⟩ (λb u e=>?_) I.bare λb U=>?_
 .rw [ZAJ (yAQ (yBC (Heap.lt_size e) hp))];exact n
 .rw [ZAJ (ZAD e hn)];exact e
 .rw [ZAJ (ZAD e hn)];exact e
 .rw [ZAJ (ZAD e hn),e];simp
 .by_cases U:b=p
  .subst U;rw [ZAE] at e;cases e;exact new
  .rw [ZAJ U] at e
   refine (I.hok b u e).stay (λc v hc q=>k c v ?_ q) (λc q=>by rw [ZAJ (ZAD q hn)];exact q) λc xs q=>by rw [ZAJ (ZAD q hn)];exact q
   rcases hc with z | z
   .rw [z];exact Y b u e
   .exact Y c _ z
 .obtain ⟨a1,a2,a3,a4,a5,a6⟩:=hf b U
  exact ⟨a4,a2,a5,a6⟩
end
noncomputable def Ite (K:W.Frag)(a:Addr):It :=
 ⟨λi H=>∃ xs x,SqL K H a xs /\ xs[i]?=some x,λi H v H'=>∃ p x,H p=none /\ (∀ xs,SqL K H a xs->xs[i]?=some x) /\ H'=upd H p (.tup [.int i,x]) /\ v=.ref p,λi H=>∃ xs,SqL K H a xs /\ xs.length <= i⟩
theorem turn_enum {a2:List Expr}{x1}(a e it:Addr)(a1:e≠it):Turn P w K (.Tuple a2 x1 tpos) (Ite K a) [e,it] e (λi h=>(∃ J,IsEnum h e it ((i:Nat):Int) J) /\ h.IsListIter it a i) where
 mem:=by simp
 obj:=λi h st b hb=>by
  obtain ⟨⟨J,U⟩,o,e2,c,d⟩:=st
  have a0:b=e∨b=it:=by simpa using hb
  rcases a0 with rfl | rfl
  .exact ⟨_,U,λv z=>by cases z⟩
  .exact ⟨o,e2,λv z=>by rw [d] at z;cases z⟩
 keep:=λi h h' st k=>⟨let ⟨J,U⟩:=st.1;⟨J,k e (by simp) _ U⟩,st.2.at λo q=>k it (by simp) o q⟩
 item:=by
  intro X hP hw hK hc i pins s σ H E I hf st hg
  subst hP hw hK
  obtain ⟨xs,x,hq,hx⟩:=hg
  obtain ⟨its,rv,p,hz⟩:=I.list hq
  obtain ⟨u,hu,ru⟩:=rv.get hx
  obtain ⟨⟨J,U⟩,Y⟩:=st
  refine wpAny_pyNext_enum_item U Y p.isList (x:=u) (by simpa using hu) a1 λh1 ae a5 aa af a9=>⟨_,rfl,?_⟩
  refine wpAny_letOwnedTupleGo_enum ae λh2 ab O=>?_
  replace O:Heap.SameBut e h1 h2:=O
  have a4:e < s.heap.objs.size:=Heap.lt_size U
  have ad:h2.get? s.heap.objs.size=some { cls:=.type "tuple",data:=.seq #[.int i s.toks,u] }:=(O.2 _ (Nat.ne_of_gt a4)).trans aa
  have a6:H s.heap.objs.size=none:=I.hok.fresh (yAB _)
  refine ⟨.ref s.heap.objs.size,upd H s.heap.objs.size (.tup [.int i,x]),I.turn2 (ch:=[e,it]) (t':=s.toks+1) hf (λb ob hb q=>?_) (yAB _) ?_,rfl,⟨_,x,a6,λys hy=>by rw [I.list_inj hy hq];exact hx,rfl,rfl⟩,⟨⟨u,?_⟩,?_⟩,λb hb=>?_⟩
  .have a3:b≠e:=λz=>hb (by simp [z])
   have a8:b≠it:=λz=>hb (by simp [z])
   exact (O.2 b a3).trans (a9 b ob a3 a8 q)
  .exact ⟨ZAW (show 2 <= 1000 by decide),[.int i s.toks,u],.cons ⟨_,rfl⟩ (.cons ru .nil),_,ad,rfl,0,rfl⟩
  .have:((i+1:Nat):Int)=(i:Int)+1:=by push_cast;rfl
   rw [this];exact ab
  .exact a5.at λo q=>(O.2 it (Ne.symm a1)).trans q
  .have hn:=(hf b hb).1
   have a0:b=e∨b=it:=by simpa using hb
   obtain ⟨oi,ac,_⟩:=Y
   have a7:b < s.heap.objs.size:=by
    rcases a0 with rfl | rfl
    .exact a4
    .exact Heap.lt_size ac
   rw [ZAJ (yAQ a7)];exact hn
 done:=by
  intro X hP hw hK hc i pins s σ H E I hf st hg
  subst hP hw hK
  obtain ⟨xs,hq,hx⟩:=hg
  obtain ⟨its,rv,p,hz⟩:=I.list hq
  obtain ⟨⟨J,U⟩,Y⟩:=st
  obtain ⟨f0,f1,f2,f3,f4,f5⟩:=hf it (by simp)
  have hl:=rv.length
  exact wpAny_pyNext_enum_end (I.ok.hd hc) U Y p.isList (by rw [List.getElem?_toArray];exact yBO (by omega)) λh' eb=>⟨rfl,I.turned (t':=s.toks) (λb o hb e=>eb b o hb e) f0 f1 f3 f4 f5⟩
 self:=λ_ _ _ _ _ st h=>let ⟨_,U⟩:=st.1;wpAny_pyIter_enum U h
section
def ZF4 (K:W.Frag)(ta:TA):TI:=λσ H R=>ta σ H λvs H1=>∃ a,vs=[.ref a] /\ (∃ xs,SqL K H1 a xs) /\ R (Ite K a) H1
theorem pi_enum {J:List Expr}{x1}{l:Expr}{ta:TA}{p:Pos}(hg:Gl X "enumerate")(hm:X.mg "enumerate"=none)(ha:PA X [l] ta)(hs:starEach [l] X.env=[(false,eval l X.env)]:=by rfl) :
  PI X (.Tuple J x1 tpos) (.Call (.Name "enumerate" p) [l] [] pos) (ZF4 X.K ta):=by
 intro pins s σ H R I h
 refine Call_ (ZCw I hg hm boot_enumerate (PyProof.Rows.callWith_type1 (thn (ha pos pins s σ H _ I h) λus s1 zz=>?_) hs rfl))
 obtain ⟨vs,H1,U,r1,q1⟩:=zz
 obtain ⟨a,e,⟨xs,hq⟩,q⟩:=q1
 subst e
 obtain ⟨u,rfl,ru⟩:=ZC0 r1
 cases ru
 obtain ⟨its,rv,pl,hz⟩:=U.list hq
 refine call_enumerate_list pl.isList λh' he a0 hsz hk=>wpAny_pyIter_enum he ?_
 have I2:Inv X pins σ H1 { s1 with heap:=h' }:=U.kept (t':=s1.toks) hk
 refine ⟨s1.heap.objs.size+1,[s1.heap.objs.size+1,s1.heap.objs.size],_,Ite X.K a,H1,rfl,I2,turn_enum a _ _ (Nat.succ_ne_self _),⟨⟨_,he⟩,a0⟩,λb hb=>?_,q⟩
 have Y:b=s1.heap.objs.size+1∨b=s1.heap.objs.size:=by simpa using hb
 have O:s1.heap.objs.size <= b:=by
  rcases Y with rfl | rfl
  .exact yBF _
  .exact yAB _
 exact U.fpOk O (U.hok.fresh O)
end
section
def forE (K:W.Frag)(g:TG)(tb:TS)(D:Ends)(σ:St)(x:V)(H1:Hp):Prop:=∃ a,[x]=[.ref a] /\ (∃ xs,SqL K H1 a xs) /\ ∃ W:Nat->Nat->St->Hp->Prop,(∃ m,W 0 m σ H1) /\ ∀ i m σ H,W i m σ H ->
 ((Ite K a).stop i H /\ D.nx σ H)∨((Ite K a).go i H /\ ∃ N:St->Hp->Prop,(∀ σ' H',N σ' H'->∃ m',m' < m /\ W (i+1) m' σ' H') /\ ∀ x H',(Ite K a).yld i H x H'->g x σ H' λσ2 H2=>tb { D with nx:=N,ct:=N,bk:=D.nx } σ2 H2)
theorem tForE_eq {t:TE}:tFor (ZF4 K (ZC1 t tNil)) g tb D σ H=t σ H (λx H1=>forE K g tb D σ x H1):=rfl
def compE (K:W.Frag)(g:TG)(tt:TT)(te:TE)(σ0:St)(Q:VK)(x:V)(H1:Hp):Prop:=∃ a,[x]=[.ref a] /\ (∃ xs,SqL K H1 a xs) /\ ∃ W:Nat->Nat->List V->St->Hp->Prop,(∃ m,W 0 m [] σ0 H1) /\ ∀ i m ys σ H,W i m ys σ H ->
 ((Ite K a).stop i H /\ ys.length <= sizeLine /\ ∀ p,H p=none->Q (.ref p) (upd H p (.lst ys))) ∨
 ((Ite K a).go i H /\ ys.length < sizeLine /\ ∀ x H',(Ite K a).yld i H x H'->g x σ H' λσ2 H2=>tt σ2 H2 λb H3=>if b=true then te σ2 H3 λy H4=>∃ m',m' < m /\ W (i+1) m' (ys++[y]) σ2 H4 else ∃ m',m' < m /\ W (i+1) m' ys σ2 H3)
theorem tCompE_eq {t:TE}:ZEG k js (ZF4 K (ZC1 t tNil)) g tt te σ H Q=t σ H (λx H1=>compE K g tt te (up k js σ) Q x H1):=rfl
theorem compE_of (h:SqL K H a xs)(hz:xs.length <= 1000)(P:Nat->List V->St->Hp->Prop)(U:P 0 [] σ0 H)(hl:∀ i ys σ H,i <= xs.length->P i ys σ H->SqL K H a xs /\ ys.length <= i)
  (Y:∀ (i:Nat) ys x σ H p,i < xs.length->xs[i]?=some x->P i ys σ H->H p=none->g (.ref p) σ (upd H p (.tup [.int i,x])) λJ H2=>tt J H2 λb H3=>if b=true then te J H3 λy H4=>Nxt P xs.length i (ys++[y]) J H4 else Nxt P xs.length i ys J H3)
  (hd:∀ ys σ H,P xs.length ys σ H->∀ p,H p=none->Q (.ref p) (upd H p (.lst ys))):compE K g tt te σ0 Q (.ref a) H:=by
 have a0:=ZAW hz
 refine ⟨a,rfl,⟨xs,h⟩,λi m ys σ H=>m=xs.length-i /\ i <= xs.length /\ P i ys σ H,⟨xs.length,by simp,yAJ _,U⟩,?_⟩
 rintro i m ys σ H ⟨rfl,hi,p⟩
 obtain ⟨q,ly⟩:=hl i ys σ H hi p
 by_cases hlt:i < xs.length
 .refine .inr ⟨⟨xs,xs[i],q,by simp [hlt]⟩,by omega,λx H' y=>?_⟩
  obtain ⟨O,x',hn,y,rfl,rfl⟩:=y
  exact Y i ys x' σ _ O hlt (y xs q) p hn
 .have e:i=xs.length:=by omega
  subst e
  exact .inl ⟨⟨xs,q,yAB _⟩,by omega,hd ys σ H p⟩
end
noncomputable abbrev FZ (o:Obj):HO:=.frz o (.ext λ_=>True)
theorem ZFa {o:Obj}(e:h.get? a=some o):ObjOk P w H h a (FZ o):=⟨e,trivial,⟨o,e⟩,λ_ _ _ _=>trivial⟩
theorem ZDq {o:Obj}(x:HOk P w H h)(e:H a=some (FZ o)):h.get? a=some o:=(x a _ e).1
def CodeAt (H:Hp)(c:Addr)(qual:Str):Prop:=∃ oc vs t,H c=some (FZ oc) /\ oc.data=.fields vs /\ vs[1]?=some (.str qual t)
theorem CodeAt.rec (x:HOk P w H h)(k:CodeAt H c qual):h.CodeRec (.ref c) qual :=
 let ⟨oc,vs,t,e,d,v⟩:=k;⟨c,oc,vs,t,rfl,ZDq x e,d,v⟩
structure CloL (H:Hp)(g:Addr)(iname iq:Str)(ip:Arguments)(ib:List Stmt)(isc:Scope)(fr:List Str)(cs:List V)(cl:List (Str×Addr)):Prop where
 obj:∃ (doc pm ctv:Value) (c':Addr),H g=some (FZ (PySem.W.fnMade iname iq ip ib isc cl doc pm c' ctv)) /\ CodeAt H c' iq
 keys:∀ x c,cl.lookup x=some c->x∈fr
 inj:∀ x y c,cl.lookup x=some c->cl.lookup y=some c->x=y
 cell:∀ (i:Nat) (x:Str),fr[i]?=some x->∃ v c u o,cs[i]?=some v /\ cl.lookup x=some c /\ RelV v u /\ H c=some (FZ o) /\ o.data=.cell (some u)
 len:cs.length=fr.length
def Clo (H:Hp)(g:Addr)(iname iq:Str)(ip:Arguments)(ib:List Stmt)(isc:Scope)(fr:List Str)(cs:List V):Prop:=∃ cl,CloL H g iname iq ip ib isc fr cs cl
def ZEz (H H':Hp):Prop:=∀ b o,H b=some (FZ o)->H' b=some (FZ o)
theorem CodeAt.mono {q:Str}(e:ZEz H H')(k:CodeAt H c q):CodeAt H' c q:=let ⟨oc,vs,t,a,d,v⟩:=k;⟨oc,vs,t,e _ _ a,d,v⟩
theorem CloL.mono {g:Addr}{fr:List Str}(e:ZEz H H')(k:CloL H g iname iq ip ib isc fr cs cl):CloL H' g iname iq ip ib isc fr cs cl where
 obj:=let ⟨doc,pm,ctv,c',a,b⟩:=k.obj;⟨doc,pm,ctv,c',e _ _ a,b.mono e⟩
 keys:=k.keys
 inj:=k.inj
 cell:=λi x h=>let ⟨v,c,u,o,a1,a2,a3,a4,a5⟩:=k.cell i x h;⟨v,c,u,o,a1,a2,a3,e _ _ a4,a5⟩
 len:=k.len
theorem Clo.mono {g:Addr}{fr:List Str}(e:ZEz H H')(k:Clo H g iname iq ip ib isc fr cs):Clo H' g iname iq ip ib isc fr cs:=let ⟨cl,x⟩:=k;⟨cl,x.mono e⟩
theorem CloL.inj'  {g:Addr}{fr:List Str}{cs':List V}{cl':List (Str×Addr)}(k:CloL H g iname iq ip ib isc fr cs cl)(k':CloL H g iname iq ip ib isc fr cs' cl'):cs=cs':=by
 obtain ⟨d1,p1,t1,c1,e1,_⟩:=k.obj
 obtain ⟨d2,p2,t2,c2,U,_⟩:=k'.obj
 rw [e1] at U
 have J:cl=cl':=by
  have:=Option.some.inj U
  injection this with h1 h2
  injection h1 with h3 h4 h5
  injection h5 with h6
  injection h6
 subst J
 refine yDG λi=>?_
 by_cases hi:i < fr.length
 .obtain ⟨v,c,u,o,a1,a2,a3,a4,a5⟩:=k.cell i _ (yAF hi)
  obtain ⟨v',c',u',o',b1,O,b3,b4,Y⟩:=k'.cell i _ (yAF hi)
  rw [a2] at O
  cases O
  rw [a4] at b4
  have eo:o=o':=by
   have:=Option.some.inj b4
   injection this
  subst eo
  rw [a5] at Y
  have eu:u=u':=by injection Y with h;injection h
  subst eu
  rw [a1,b1,a3.inj b3]
 .rw [yBO (by rw [k.len];omega),yBO (by rw [k'.len];omega)]
open Classical in
noncomputable def hid (cl:List (Str×Addr))(H:Hp):Hp:=λb=>if ∃ x,cl.lookup x=some b then none else H b
open Classical in
noncomputable def back (cl:List (Str×Addr))(H H1:Hp):Hp:=λb=>if ∃ x,cl.lookup x=some b then H b else H1 b
theorem ZEi (h:cl.lookup x=some b):hid cl H b=none:=by unfold hid;rw [if_pos ⟨x,h⟩]
theorem ZDa (h:¬ ∃ x,cl.lookup x=some b):hid cl H b=H b:=by unfold hid;rw [if_neg h]
theorem ZDr (h:cl.lookup x=some b):back cl H H1 b=H b:=by unfold back;rw [if_pos ⟨x,h⟩]
theorem ZCU (h:¬ ∃ x,cl.lookup x=some b):back cl H H1 b=H1 b:=by unfold back;rw [if_neg h]
theorem hid_le (h:hid cl H b=some o):H b=some o:=by
 by_cases q:∃ x,cl.lookup x=some b
 .obtain ⟨x,q⟩:=q;rw [ZEi q] at h;cases h
 .rw [ZDa q] at h;exact h
def ZF9 (cl:List (Str×Addr))(H:Hp):Prop:=∀ x c,cl.lookup x=some c->∃ u o,H c=some (FZ o) /\ o.data=.cell u
theorem CloL.cells {g:Addr}{fr:List Str}(k:CloL H g iname iq ip ib isc fr cs cl):ZF9 cl H:=λx c h=>by
 obtain ⟨i,hi⟩:=yBY (k.keys x c h)
 obtain ⟨v,U,u,o,_,h2,_,O,J⟩:=k.cell i x hi
 rw [h] at h2
 cases h2
 exact ⟨_,o,O,J⟩
theorem ZBm (C:ZF9 cl H)(h:H b=some o)(n:∀ J,o≠FZ J):hid cl H b=some o:=by
 rw [ZDa,h]
 rintro ⟨x,q⟩
 obtain ⟨u,J,e,_⟩:=C x b q
 rw [h] at e
 exact n J (Option.some.inj e)
theorem hid_none (C:ZF9 cl H)(h:hid cl H b=none)(n:¬ ∃ x,cl.lookup x=some b):H b=none:=by rw [ZDa n] at h;exact h
theorem back_upd {l:Addr}(n:¬ ∃ x,cl.lookup x=some l):back cl H (upd H1 l o)=upd (back cl H H1) l o:=by
 funext b
 by_cases q:∃ x,cl.lookup x=some b
 .have:b≠l:=λe=>n (e ▸ q)
  obtain ⟨x,q⟩:=q
  rw [ZDr q,ZAJ this,ZDr q]
 .rw [ZCU q]
  by_cases e:b=l
  .subst e;rw [ZAE,ZAE]
  .rw [ZAJ e,ZAJ e,ZCU q]
theorem back_hid:back cl H (hid cl H)=H:=by
 funext b
 by_cases q:∃ x,cl.lookup x=some b
 .obtain ⟨x,q⟩:=q;rw [ZDr q]
 .rw [ZCU q,ZDa q]
def NoC (cl:List (Str×Addr))(H:Hp):Prop:=∀ x c,cl.lookup x=some c->H c=none
structure CloScope (N ps fr:List Str)(sc:Scope):Prop where
 kind:sc.kind=.function
 co:sc.isCoroutine=false
 gen:sc.isGenerator=false
 nd:N.Nodup
 pre:N.take ps.length=ps
 suf:N.drop (N.length-fr.length)=fr
 two:ps.length+fr.length <= N.length
 par:∀ x∈ps,sc.names.lookup x=some .local
 nocell:∀ y∈sc.names,y.2≠.cell
 free:∀ x∈fr,sc.names.lookup x=some .free
 only:∀ x,sc.names.lookup x=some .free->x∈fr
noncomputable def ZC8 (N:List Str)(vs cs:List V):St:=vs.map some++(List.replicate (N.length-vs.length-cs.length) none++cs.map some)
noncomputable def ZE9 (P:Program)(w:World)(K:W.Frag)(mg:Str->Option Value)(base:Heap)(N:List Str)(qual:Str)(scope:Scope)(f:Addr)(cd:Value)(cl:List (Str×Addr))(A:Around)(outer:List Env)(s:Shared)(H:Hp):Cx where
 prog:=P
 w:=w
 K:=K
 mg:=mg
 base:=base
 A:=A.deeper (PySem.W.envX qual scope s.heap.objs.size f cd cl)
 N:=N
 s₀:=s
 H₀:=H
 env:=PySem.W.envX qual scope s.heap.objs.size f cd cl
 outer:=outer
 stack:=PySem.W.envX qual scope s.heap.objs.size f cd cl::outer
 ex:=[]
 calm:=true
 fn:=λ_=>false
 pn:=[]
 xe:=λ_ _=>False
theorem startC_get {N:List Str}{vs:List V}{i:Nat}(hl:vs.length+cs.length <= N.length)(h:(ZC8 N vs cs)[i]?=some (some v)) :
  vs[i]?=some v∨(N.length-cs.length <= i /\ cs[i-(N.length-cs.length)]?=some v):=by
 unfold ZC8 at h
 by_cases h1:i < vs.length
 .rw [yBB (by simpa using h1),yAM] at h
  cases e:vs[i]? with
  | none=>rw [e] at h;cases h
  | some a=>rw [e] at h;cases h;exact .inl rfl
 .rw [yAT (by simpa using Nat.le_of_not_lt h1),yAA] at h
  by_cases h2:i-vs.length < N.length-vs.length-cs.length
  .rw [yBB (by simpa using h2),List.getElem?_replicate,if_pos h2] at h
   cases h
  .rw [yAT (by simpa using Nat.le_of_not_lt h2),yBV,yAM] at h
   right
   refine ⟨by omega,?_⟩
   rw [show i-(N.length-cs.length)=i-vs.length-(N.length-vs.length-cs.length) by omega]
   cases e:cs[i-vs.length-(N.length-vs.length-cs.length)]? with
   | none=>rw [e] at h;cases h
   | some a=>rw [e] at h;cases h;rfl
theorem zip_fst_sub:∀ (ps:List Str) (us:List Value),((ps.zip us).map (·.1)).Sublist ps
 | [],_=>by simp
 | p::ps,[]=>by simp
 | p::ps,u::us=>by rw [List.zip_cons_cons,yAZ];exact (zip_fst_sub ps us).cons₂ p
theorem lookup_nodup {α:Type}:∀ {cs:List (Str×α)} {n:Str} {c:α},(cs.map (·.1)).Nodup->(n,c)∈cs->cs.lookup n=some c
 | (m,d)::r,n,c,hn,h=>by
  rw [yAZ] at hn
  have J:=yDC.mp hn
  rw [yCI]
  rcases yAI.mp h with e | h
  .cases e;simp
  .have:n≠m:=λz=>J.1 (z ▸ List.mem_map_of_mem (f:=(·.1)) h)
   have:(n == m)=false:=by simpa using this
   rw [this]
   exact lookup_nodup J.2 h
theorem zip_lookup {us:List Value}(O:ps.Nodup){i:Nat}{u:Value}(h1:ps[i]?=some x)(h2:us[i]?=some u):((ps.zip us).reverse).lookup x=some u:=by
 have hm:(x,u)∈(ps.zip us).reverse:=by
  rw [List.mem_reverse]
  refine yAS (i:=i) ?_
  rw [List.getElem?_zip_eq_some]
  exact ⟨h1,h2⟩
 have J:((ps.zip us).reverse.map (·.1)).Nodup:=by
  rw [List.map_reverse]
  exact List.pairwise_reverse.mpr (List.Pairwise.imp (λh=>Ne.symm h) (O.sublist (zip_fst_sub ps us)))
 exact lookup_nodup J hm
section
variable {A:Around}{g:Addr}{N fr:List Str}{vs:List V}{us:List Value}
theorem clo_call (C:CloL H g iname iq ip ib isc fr cs cl)(S:CloScope N ps fr isc)(hr:Room (k+1) A)(e0:Env0 P w K mg base A outer s H)(hl:vs.length=ps.length)(r:Vals vs us)
  (a8:∀ (a0 pm a6:Value) (c':Addr),bindArgs (PySem.W.fnX iname iq ip ib isc cl .none .none a0 pm none (.ref c') a6) ⟨us,[]⟩=pure (ps.zip us))
  (a9:∀ (cd:Value) (A':Around),Room k A'->∃ t,PSs (ZE9 P w K mg base N iq isc g cd cl A outer s (hid cl H)) ib t /\ t { nx:=λ_ H'=>NoC cl H'->Q .non (back cl H H'),rt:=λv H'=>NoC cl H'->Q v (back cl H H') } (ZC8 N vs cs) (hid cl H)) :
  codeAny (model P w) A (.call (.ref g) ⟨us,[]⟩) (λr s'=>match r with | .ok (.ret u)=>CE outer P w H s Q u s' | _=>False) s:=by
 obtain ⟨a0,pm,a6,c',hg,hc⟩:=C.obj
 have ae:=ZDq e0.hok hg
 have ag:s.heap.NoLimit:=e0.mod.nolimit.keeps λb o e=>(e0.bs b o e).1
 have ai:ps.Nodup:=by rw [<- S.pre];exact S.nd.sublist (List.take_sublist _ _)
 refine codeAny_call_def (o:=PySem.W.fnMade iname iq ip ib isc cl a0 pm c' a6) (fd:=PySem.W.fnX iname iq ip ib isc cl .none .none a0 pm none (.ref c') a6) (body:=ib) (binds:=ps.zip us) hr.depth ae rfl ag (hc.rec e0.hok) rfl (.of_eq (a8 a0 pm a6 c')) S.nocell (λy hy=>S.par _ (List.of_mem_zip hy).1) (λac aj Y=>?_) S.co S.gen S.kind
 obtain ⟨t,ht,hq⟩:=a9 (.ref c') _ (hr.deeper (PySem.W.envX iq isc s.heap.objs.size g (.ref c') cl))
 have O:∀ x c,cl.lookup x=some c->∃ o u,H c=some (FZ o) /\ s.heap.get? c=some o /\ o.data=.cell u:=λx c h=>by
  obtain ⟨u,o,e,d⟩:=C.cells x c h
  exact ⟨o,u,e,ZDq e0.hok e,d⟩
 have ad:∀ x c,cl.lookup x=some c->c∉frs outer:=λx c h hb=>by
  obtain ⟨o,u,e,_⟩:=O x c h
  rw [e0.frf c hb] at e;cases e
 have am:ps.length <= N.length:=by have:=S.two;omega
 have I:Inv (ZE9 P w K mg base N iq isc g (.ref c') cl A outer s (hid cl H)) [] (ZC8 N vs cs) (hid cl H) { s with heap:=ac,toks:=s.toks+(ps.zip us).length }:=by
  refine ⟨⟨e0.mod,S.kind,rfl,rfl,yAB _,C.inj,λx hx=>?_,λy c h=>absurd h (by simp [ZE9]),λ_=>hr.hd,Around.frames_deeper e0.frames,.inr ⟨rfl,rfl⟩,λb z=>absurd (show b∈([]:List Addr) from z) (by simp),λb o e=>?_,e0.bsz,λb _ _ z=>absurd (show b∈([]:List Addr) from z) (by simp),λb z=>absurd (show b∈([]:List Addr) from z) (by simp),e0.funs,λb hb=>?_⟩,
   rfl,e0.bare,Un.kept Y,⟨_,aj,λi x v h1 h2 h3=>?_⟩,λx c h=>?_,?_,λx c h=>ZEi h,λp hp=>absurd (show p∈([]:List (Addr×Obj)) from hp) (by simp),?_,?_⟩
  .have hx:isc.names.lookup x=some .cell∨isc.names.lookup x=some .free:=hx
   rcases hx with hx | hx
   .exact absurd rfl (S.nocell _ (PySem.mem_of_lookup hx))
   .obtain ⟨i,hi⟩:=yBY (S.only x hx)
    obtain ⟨v,c,u,o,_,h2,_⟩:=C.cell i x hi
    exact ⟨c,h2⟩
  .refine ⟨(e0.bs b o e).1,?_⟩
   show hid cl H b=none
   by_cases q:∃ x,cl.lookup x=some b
   .obtain ⟨x,q⟩:=q;exact ZEi q
   .rw [ZDa q];exact (e0.bs b o e).2
  .show hid cl H b=none
   rw [ZDa]
   .exact e0.frf b hb
   .rintro ⟨x,q⟩;exact ad x b q hb
  .have h1:N[i]?=some x:=h1
   have ab:=C.len
   rcases startC_get (by rw [hl,ab];exact S.two) h2 with h4 | ⟨h4,h5⟩
   .obtain ⟨u,hu,rv⟩:=r.get h4
    have hi:i < vs.length:=(yAO.mp h4).1
    have hp:ps[i]?=some x:=by rw [<- S.pre,yDD (by omega)];exact h1
    exact ⟨u,rv,.inl ⟨S.par x (yAS hp),zip_lookup ai hp hu⟩⟩
   .have hf:fr[i-(N.length-cs.length)]?=some x:=by
     rw [<- S.suf,yCS,<- ab,show N.length-cs.length+(i-(N.length-cs.length))=i by omega]
     exact h1
    obtain ⟨v',c,u,o,a1,a2,a3,a4,a5⟩:=C.cell _ x hf
    rw [h5] at a1
    cases a1
    refine ⟨u,a3,.inr ⟨.inr (S.free x (yAS hf)),c,a2,o,Y _ _ (ZDq e0.hok a4),a5⟩⟩
  .obtain ⟨o,u,e,e2,d⟩:=O x c h
   exact ⟨u,o,Y _ _ e2,d⟩
  .show hid cl H s.heap.objs.size=none
   have hn:=e0.hok.fresh (yAB _)
   rw [ZDa]
   .exact hn
   .rintro ⟨x,q⟩
    obtain ⟨o,u,e,_⟩:=O x _ q
    rw [hn] at e;cases e
  .intro b o e
   have e':=hid_le e
   refine (e0.hok b o e').stay (λc v _ q=>Y c v q) (λc q=>?_) λc xs q=>?_
   .exact ZBm C.cells q (λob z=>by cases z)
   .exact ZBm C.cells q (λob z=>by cases z)
  .unfold ZC8
   show _=N.length
   have:=S.two
   have:=C.len
   simp only [yAC,yAA,yBV]
   omega
 refine wpAny_mono (ht [] _ (ZC8 N vs cs) (hid cl H) _ I hq) (λfl s' hs=>?_) λe s' hs=>False.elim hs
 have fin:∀ {a7:St} {H':Hp} {v:V} {u:Value},Inv (ZE9 P w K mg base N iq isc g (.ref c') cl A outer s (hid cl H)) [] a7 H' s'->RelV v u->(NoC cl H'->Q v (back cl H H'))->CE outer P w H s Q u s' :=
  fun {a7 H' v u} J rv q=>by
   have un:Un (frs outer) [] (hid cl H) H' s.heap s'.heap:=J.base
   have af:∀ b:Addr,b∉([]:List Addr):=λb=>by simp
   have aa:∀ x c o,cl.lookup x=some c->s.heap.get? c=some o->s'.heap.get? c=some o:=λx c o h e=>un.keep c o e (ZEi h) (ad x c h) (af c)
   have U:∀ x c,cl.lookup x=some c->H' c=none:=λx c h=>by
    obtain ⟨o,u,e,e2,d⟩:=O x c h
    exact un.free c o e2 (ZEi h) (af c)
   refine ⟨v,back cl H H',J.os,J.bare,⟨λb o e n hb hx=>?_,λb o e n hb hx=>?_,λb o e n hx=>?_,un.there,λb xs e=>?_,λb o u' e=>?_,λb ah e=>?_⟩,λb o e=>?_,rv,q U⟩
   .refine un.keep b o e ?_ hb hx
    by_cases q:∃ x,cl.lookup x=some b
    .obtain ⟨x,q⟩:=q;exact ZEi q
    .rw [ZDa q];exact n
   .refine un.slot b o e ?_ hb hx
    by_cases q:∃ x,cl.lookup x=some b
    .obtain ⟨x,q⟩:=q;exact ZEi q
    .rw [ZDa q];exact n
   .have nc:¬ ∃ x,cl.lookup x=some b:=by
     rintro ⟨x,q⟩
     obtain ⟨o,u,e,_⟩:=O x b q
     rw [n] at e;cases e
    rw [ZCU nc]
    exact un.free b o e (by rw [ZDa nc];exact n) hx
   .have e2:=un.tups b xs (ZBm C.cells e (λob z=>by cases z))
    rw [ZCU]
    .exact e2
    .rintro ⟨x,q⟩;rw [U x b q] at e2;cases e2
   .by_cases q:∃ x,cl.lookup x=some b
    .obtain ⟨x,q⟩:=q;rw [ZDr q];exact e
    .rw [ZCU q];exact un.frzs b o u' (by rw [ZDa q];exact e)
   .obtain ⟨more,e2⟩:=un.tbls b ah (ZBm C.cells e (λob z=>by cases z))
    refine ⟨more,?_⟩
    rw [ZCU]
    .exact e2
    .rintro ⟨x,q⟩;rw [U x b q] at e2;cases e2
   .have up:∀ c oc,H' c=some oc->back cl H H' c=some oc:=λc oc q=>by
     rw [ZCU]
     .exact q
     .rintro ⟨x,z⟩;rw [U x c z] at q;cases q
    by_cases q:∃ x,cl.lookup x=some b
    .obtain ⟨x,q⟩:=q
     rw [ZDr q] at e
     obtain ⟨o2,u2,e2,e3,d⟩:=O x b q
     rw [e] at e2
     cases e2
     exact ZFa (aa x b _ q e3)
    .rw [ZCU q] at e
     exact (J.hok b o e).stay (λc v _ q=>q) (λc q=>up c _ q) λc xs q=>up c _ q
 cases fl with
 | ret u=>
  obtain ⟨v,a7,H',J,rv,q⟩:=hs
  exact fin J rv q
 | next=>
  obtain ⟨a7,H',J,q⟩:=hs
  exact fin (v:=V.non) (u:=Value.none) J rfl q
 | brk=>
  obtain ⟨_,_,_,q⟩:=hs
  exact False.elim q
 | cont=>
  obtain ⟨_,_,_,q⟩:=hs
  exact False.elim q
end
def tCallV (r:V->List V->Hp->VK->Prop)(ta:TE)(t:TA):TE:=λσ H Q=>ta σ H λf H1=>(∃ g o,f=.ref g /\ H1 g=some (FZ o) /\ ∃ fd,o.data=.func fd) /\ t σ H1 λvs H2=>r f vs H2 Q
def CloR (X:Cx)(r:V->List V->Hp->VK->Prop):Prop :=
 ∀ (pins:List (Addr×Obj)) (s:Shared) (σ:St) (H:Hp) (f:Addr) (vs:List V) (us:List Value) (Q:VK),Inv X pins σ H s->Vals vs us->r (.ref f) vs H Q ->
  PySem.W.FnAt f s.heap /\ wpAny (model X.prog X.w) X.A (call (.ref f) us) (EP X pins σ Q) X.xe s
theorem fnAt_of {g:Addr}{o:Obj}(e:h.get? g=some o)(d:o.data=.func fd):PySem.W.FnAt g h:=by
 obtain ⟨oc,od,J,sl⟩:=o
 have d':J=.func fd:=d
 subst d'
 exact ⟨oc,od,fd,sl,e⟩
theorem pe_callV {p:Pos}{e:Expr}{es:List Expr}{t:TA}{r:V->List V->Hp->VK->Prop}(hc:CloR X r)(hx:PE X (.Name x p) ta)(ha:PA X (e::es) t)
  (he:starEach (e::es) X.env=(false,eval e X.env)::starEach es X.env:=by rfl) (J:(backTo pos (starEach es X.env)).any (·.1)=false:=by rfl):PE X (.Call (.Name x p) (e::es) [] pos) (tCallV r ta t):=by
 intro pins s σ H Q I h
 refine wpAny_Call_Name_kw (thn (hx pins s σ H _ I h) λv s1 zz=>?_)
 obtain ⟨f,H1,O,rf,⟨g,o,Y,U,fd,hd⟩,q⟩:=zz
 subst Y
 cases rf
 refine PySem.W.callWith_F (fnAt_of (ZDq O.hok U) hd) (thn (ha pos pins s1 σ H1 _ O q) λus s2 zz=>?_) he J
 obtain ⟨vs,H2,I2,r2,q2⟩:=zz
 exact hc pins s2 σ H2 g vs us Q I2 r2 q2
structure CloOk (P:Program)(w:World)(K:W.Frag)(mg:Str->Option Value)(base:Heap)(k:Nat)(r:V->List V->Hp->VK->Prop):Prop where
 run:∀ (A:Around) (outer:List Env) (s:Shared) (H:Hp) (f:Addr) (vs:List V) (us:List Value) (Q:VK),Room k A->Env0 P w K mg base A outer s H->Vals vs us->r (.ref f) vs H Q ->
  PySem.W.FnAt f s.heap /\ codeAny (model P w) A (.call (.ref f) ⟨us,[]⟩) (λr s'=>match r with | .ok (.ret u)=>CE outer P w H s Q u s' | _=>False) s
theorem CloOk.at {r:V->List V->Hp->VK->Prop}(C:CloOk X.prog X.w X.K X.mg X.base k r)(U:Room k X.A):CloR X r:=by
 intro pins s σ H f vs us Q I O h
 obtain ⟨h1,h2⟩:=C.run X.A X.stack s H f vs us Q U I.env0 O h
 refine ⟨h1,wpAny_call (codeAny_mono h2 λr s' J=>?_)⟩
 cases r with
 | error e=>exact False.elim J
 | ok fl=>
  cases fl with
  | ret u=>exact I.after J
  | next=>exact False.elim J
  | brk=>exact False.elim J
  | cont=>exact False.elim J
theorem Clo.fnAt {g:Addr}{fr:List Str}(x:HOk P w H h)(C:CloL H g iname iq ip ib isc fr cs cl):PySem.W.FnAt g h:=by
 obtain ⟨J,U,O,c',e,_⟩:=C.obj
 exact fnAt_of (ZDq x e) rfl
theorem clo_of {N fr:List Str}{r:V->List V->Hp->VK->Prop}(S:CloScope N ps fr isc)
  (a0:∀ f vs H Q,r f vs H Q->∃ g cs,f=.ref g /\ Clo H g iname iq ip ib isc fr cs) (len:∀ f vs H Q,r f vs H Q->vs.length=ps.length)
  (U:∀ (cl:List (Str×Addr)) (O pm Y:Value) (c':Addr) (us:List Value),us.length=ps.length->bindArgs (PySem.W.fnX iname iq ip ib isc cl .none .none O pm none (.ref c') Y) ⟨us,[]⟩=pure (ps.zip us))
  (J:∀ (g:Addr) (cs:List V) (cl:List (Str×Addr)) (cd:Value) (A:Around) (outer:List Env) (s:Shared) (H:Hp) (vs:List V) (Q:VK),Room k (A.deeper (PySem.W.envX iq isc s.heap.objs.size g cd cl))->CloL H g iname iq ip ib isc fr cs cl->r (.ref g) vs H Q ->
   ∃ t,PSs (ZE9 P w K mg base N iq isc g cd cl A outer s (hid cl H)) ib t /\ t { nx:=λ_ H'=>NoC cl H'->Q .non (back cl H H'),rt:=λv H'=>NoC cl H'->Q v (back cl H H') } (ZC8 N vs cs) (hid cl H)):CloOk P w K mg base (k+1) r:=by
 refine ⟨λA outer s H f vs us Q hr e0 rv h=>?_⟩
 obtain ⟨g,cs,eg,cl,C⟩:=a0 _ _ _ _ h
 cases eg
 have hl:=len _ _ _ _ h
 refine ⟨Clo.fnAt e0.hok C,clo_call (k:=k) C S hr e0 hl rv (λO pm Y c'=>U cl O pm Y c' us (by rw [<- rv.length];exact hl)) λcd A' a1=>?_⟩
 exact J f cs cl cd A outer s H vs Q (hr.deeper _) C h
theorem NoC.ne (n:NoC cl H)(h:H b=some o):¬ ∃ x,cl.lookup x=some b:=λ⟨x,e⟩=>by rw [n x b e] at h;cases h
def TabSt (H:Hp)(Pt:Addr)(pos:Pos)(iq:Str):Prop:=H Pt=some (.tbl #[])∨∃ c',H Pt=some (.tbl #[rawInt pos.line,rawInt pos.col,.ref c']) /\ CodeAt H c' iq
theorem TabSt.mono (e:H' Pt=H Pt)(f:ZEz H H')(k:TabSt H Pt pos iq):TabSt H' Pt pos iq:=by
 rcases k with k | ⟨c',k,q⟩
 .exact .inl (e.trans k)
 .exact .inr ⟨c',e.trans k,q.mono f⟩
def ZER (mg:Str->Option Value)(h:Heap):Prop:=∃ bm ob,mg "__builtins__"=some (.ref bm) /\ bm≠builtinsNs /\ h.get? bm=some ob /\ ob.cls=.type "module" /\ ob.dict=some builtinsNs /\ ob.data=.plain
structure MadeDef (H H':Hp)(Pt:Addr)(pos:Pos)(g:Addr)(iname iq:Str)(ip:Arguments)(ib:List Stmt)(isc:Scope)(fr:List Str)(cs:List V):Prop where
 same:∀ b o,b≠Pt->H b=some o->H' b=some o
 tab:TabSt H' Pt pos iq
 clo:Clo H' g iname iq ip ib isc fr cs
 fresh:H g=none
section
variable {pins:List (Addr×Obj)}
structure MadeMid (H H':Hp)(Pt:Addr)(pos:Pos)(g:Addr)(iname iq:Str)(ip:Arguments)(ib:List Stmt)(isc:Scope)(cl:List (Str×Addr)):Prop where
 same:∀ b o,b≠Pt->H b=some o->H' b=some o
 tab:TabSt H' Pt pos iq
 obj:∃ (doc pm ctv:Value) (c':Addr),H' g=some (FZ (PySem.W.fnMade iname iq ip ib isc cl doc pm c' ctv)) /\ CodeAt H' c' iq
 fresh:H g=none
theorem Inv.made3 (I:Inv X pins σ H s){c':Addr}{ps more:Array Value}{oc fo:Obj}(U:H Pt=some (.tbl ps))(hx:Heap.ExtBut Pt s.heap h')(O:s.heap.objs.size <= c')(Y:c' < h'.objs.size)(a1:h'.get? c'=some oc)
  (a0:h'.get? Pt=some (PySem.W.tabObj (ps++more))) (a2:fo.isFreed=false):Inv X pins σ (upd (upd (upd H Pt (.tbl (ps++more))) c' (FZ oc)) h'.objs.size (FZ fo)) { s with heap:=h'.push fo,toks:=tk }:=by
 have gn:∀ b o,s.heap.get? b=some o->b≠h'.objs.size /\ b≠c':=λb o e=>by
  have l:=Heap.lt_size e
  exact ⟨yAQ (Nat.lt_trans (yBC l O) Y),yAQ (yBC l O)⟩
 have gt:∀ b o,H b=some o->b≠h'.objs.size /\ b≠c':=λb o e=>by
  have l:=I.hok.lt e
  exact ⟨yAQ (Nat.lt_trans (yBC l O) Y),yAQ (yBC l O)⟩
 have np:∀ b,H b=none->b≠Pt:=λb n z=>by rw [z,U] at n;cases n
 have cg:c'≠h'.objs.size:=yAQ Y
 have J:∀ b o,b≠Pt->H b=some o->upd (upd (upd H Pt (.tbl (ps++more))) c' (FZ oc)) h'.objs.size (FZ fo) b=some o:=λb o n e=>by
  rw [ZAJ (gt b o e).1,ZAJ (gt b o e).2,ZAJ n];exact e
 have a3:upd (upd (upd H Pt (.tbl (ps++more))) c' (FZ oc)) h'.objs.size (FZ fo) Pt=some (.tbl (ps++more)):=by
  rw [ZAJ (gt Pt _ U).1,ZAJ (gt Pt _ U).2,ZAE]
 refine I.un (h':=h'.push fo) (t':=tk) ⟨λb o e n _ _=>?_,λb o e n _ _=>?_,λb o e n _=>?_,λb o e _=>?_,λb xs e=>?_,λb o u e=>?_,λb qs e=>?_⟩ λb o e=>?_
 .exact Heap.get?_push_of_some _ (hx b o (np b n) e)
 .exact ⟨o.slots,Heap.get?_push_of_some _ (hx b o (np b n) e)⟩
 .rw [ZAJ (gn b o e).1,ZAJ (gn b o e).2,ZAJ (np b n)];exact n
 .by_cases q:b=Pt
  .subst q;exact ⟨_,Heap.get?_push_of_some _ a0⟩
  .exact ⟨o,Heap.get?_push_of_some _ (hx b o q e)⟩
 .exact J b _ (λz=>by rw [z,U] at e;cases e) e
 .exact J b _ (λz=>by rw [z,U] at e;cases e) e
 .by_cases q:b=Pt
  .subst q
   rw [U] at e
   cases e
   exact ⟨more,a3⟩
  .exact ⟨#[],by rw [J b _ q e];simp⟩
 .by_cases q1:b=h'.objs.size
  .subst q1;rw [ZAE] at e;cases e;exact ZFa (Heap.get?_push_size _ a2)
  .rw [ZAJ q1] at e
   by_cases q2:b=c'
   .subst q2;rw [ZAE] at e;cases e;exact ZFa (Heap.get?_push_of_some _ a1)
   .rw [ZAJ q2] at e
    by_cases q3:b=Pt
    .subst q3;rw [ZAE] at e;cases e;exact Heap.get?_push_of_some _ a0
    .rw [ZAJ q3] at e
     refine (I.hok b o e).stay (λc u hc q=>?_) (λc q=>?_) λc xs q=>?_
     .refine Heap.get?_push_of_some _ (hx c u ?_ q)
      rcases hc with z | z
      .rw [z];exact q3
      .intro z2;rw [z2,U] at z;cases z
     .exact J c _ (λz=>by rw [z,U] at q;cases q) q
     .exact J c _ (λz=>by rw [z,U] at q;cases q) q
theorem Inv.made1 (I:Inv X pins σ H s){fo:Obj}(O:∀ b o,s.heap.get? b=some o->h'.get? b=some o)(hsz:s.heap.objs.size <= h'.objs.size)(J:fo.isFreed=false):Inv X pins σ (upd H h'.objs.size (FZ fo)) { s with heap:=h'.push fo,toks:=tk } :=
 I.laid (λb u q=>Heap.get?_push_of_some _ (O b u q)) hsz (ZFa (Heap.get?_push_size _ J))
def tDef (i:Nat)(Pt:Addr)(pos:Pos)(iname iq:Str)(ip:Arguments)(ib:List Stmt)(isc:Scope)(cl:List (Str×Addr)):TS:=λD σ H=>TabSt H Pt pos iq /\ ∀ g H',MadeMid H H' Pt pos g iname iq ip ib isc cl->D.nx (σ.set i (some (.ref g))) H'
theorem ps_def {i:Nat}(hN:X.N.Nodup)(hi:X.N[i]?=some iname)(hx:Loc X.env.scope iname)(hf:X.fn iname=true∨X.env.scope.names.lookup iname=some .local)
  (Y:X.env.code=.ref c) (C:PySem.W.CodeHd X.base c Pt) (B:ZER X.mg X.base) (hq:qualnameIn X.env iname iname=iq) (hd0:ip.defaults=[]) (af:ip.kw_defaults=[]) (ha:annTrees ip none X.env=[])
  (ae:∀ x,(x,NameKind.free)∈isc.names->∃ c,X.env.cells.lookup x=some c) :
  PS X (.FunctionDef iname ip ib [] none [] isc none iname pos) (tDef i Pt pos iname iq ip ib isc (closFrom X.env.cells isc.names [])):=by
 intro pins s σ H D I h
 obtain ⟨ht,h⟩:=h
 refine PySem.W.nestDef_K hd0 af ha ?_
 rw [hq]
 have a5:=I.ok.mod.glob.keeps I.bk
 have hC:=C.keeps I.bk
 have a7:=closureFor_eq (scope:=isc) (env:=X.env) ae
 obtain ⟨bm,ob,b1,b2,b3,b4,b5,b6⟩:=B
 have ab:bm≠mainGlobals:=λq=>by
  obtain ⟨o,es,ep,e,hd,_⟩:=I.ok.mod.glob
  rw [q,e] at b3;cases b3;rw [hd] at b6;cases b6
 have apart:∀ {qs:Array Value},s.heap.get? Pt=some (PySem.W.tabObj qs)->mainGlobals≠Pt /\ s.heap.BuiltinsAt X.mg Pt:=fun {qs} hm=>by
  refine ⟨λq=>?_,bm,ob,b1,b2,ab,λq=>?_,I.bk _ _ b3,b4,b5,b6⟩
  .obtain ⟨o,es,ep,e,hd,_⟩:=a5
   rw [q,hm] at e;cases e;cases hd
  .have e:=I.bk _ _ b3
   rw [q,hm] at e;cases e;cases b4
 have fin:∀ {g:Addr} {H':Hp} {s':Shared},Inv X pins σ H' s'->MadeMid H H' Pt pos g iname iq ip ib isc (closFrom X.env.cells isc.names []) ->
   wpAny (model X.prog X.w) X.A (storeName X.env iname (.ref g)) (λ_ a9=>SP X pins D .next a9) X.xe s':=fun {g H' s'} J M=>
  ZCr J hN hi hx (v:=.ref g) rfl (λa9 J'=>⟨_,H',J',h g H' M⟩) hf
 rcases ht with ht | ⟨c1,ht,ad⟩
 .have hP:s.heap.get? Pt=some (PySem.W.tabObj #[]):=I.hok Pt _ ht
  obtain ⟨a1,a2⟩:=apart hP
  refine PySem.W.makeFunction_K a7 I.ok.glob a5 Y hC hP trivial rfl a1 a2 λc' U O h' tk ag a4 a3 a8 aa=>?_
  obtain ⟨c2,oc,vs,t,e2,ac,hd,hv⟩:=a8
  cases e2
  have J:=I.made3 (tk:=tk) (fo:=PySem.W.fnMade iname iq ip ib isc (closFrom X.env.cells isc.names []) O ((X.mg "__name__").getD .none) c' U) ht ag a4 a3 ac aa rfl
  have gt:∀ b o,H b=some o->b≠h'.objs.size /\ b≠c':=λb o e=>by
   have l:=I.hok.lt e
   exact ⟨yAQ (Nat.lt_trans (yBC l a4) a3),yAQ (yBC l a4)⟩
  have a0:CodeAt (upd (upd (upd H Pt (.tbl (#[]++#[rawInt pos.line,rawInt pos.col,.ref c']))) c' (FZ oc)) h'.objs.size (FZ (PySem.W.fnMade iname iq ip ib isc (closFrom X.env.cells isc.names []) O ((X.mg "__name__").getD .none) c' U))) c' iq :=
   ⟨oc,vs,t,by rw [ZAJ (yAQ a3),ZAE],hd,hv⟩
  refine fin J ⟨λb o n e=>?_,.inr ⟨c',?_,a0⟩,⟨O,_,U,c',ZAE,a0⟩,?_⟩
  .rw [ZAJ (gt b o e).1,ZAJ (gt b o e).2,ZAJ n];exact e
  .rw [ZAJ (gt Pt _ ht).1,ZAJ (gt Pt _ ht).2,ZAE];rfl
  .exact I.hok.fresh (yAL a4 (yCB a3))
 .have hP:s.heap.get? Pt=some (PySem.W.tabObj #[rawInt pos.line,rawInt pos.col,.ref c1]):=I.hok Pt _ ht
  obtain ⟨a1,a2⟩:=apart hP
  refine PySem.W.makeFunction_hit (cv:=.ref c1) a7 I.ok.glob a5 Y hC hP trivial ?_ a2 λU O h' tk hk hsz=>?_
  .simp [codeAmong,rawInt]
  have J:=I.made1 (tk:=tk) (fo:=PySem.W.fnMade iname iq ip ib isc (closFrom X.env.cells isc.names []) O ((X.mg "__name__").getD .none) c1 U) hk hsz rfl
  have gt:∀ b o,H b=some o->b≠h'.objs.size:=λb o e=>yAQ (yBC (I.hok.lt e) hsz)
  have a6:∀ b o,H b=some o->upd H h'.objs.size (FZ (PySem.W.fnMade iname iq ip ib isc (closFrom X.env.cells isc.names []) O ((X.mg "__name__").getD .none) c1 U)) b=some o:=λb o e=>by rw [ZAJ (gt b o e)];exact e
  have a0:=ad.mono (H':=upd H h'.objs.size (FZ (PySem.W.fnMade iname iq ip ib isc (closFrom X.env.cells isc.names []) O ((X.mg "__name__").getD .none) c1 U))) λb o e=>a6 b _ e
  exact fin J ⟨λb o _ e=>a6 b o e,.inr ⟨c1,a6 _ _ ht,a0⟩,⟨O,_,U,c1,ZAE,a0⟩,I.hok.fresh hsz⟩
end
def ZEo (Pt:Addr)(pos:Pos)(iname iq:Str)(ip:Arguments)(ib:List Stmt)(isc:Scope)(fr:List Str)(ix:List Nat)(n:Nat):Sp:=λvs H Q _=>
 vs.length=n /\ TabSt H Pt pos iq /\ ∀ g H',MadeDef H H' Pt pos g iname iq ip ib isc fr (ix.map λi=>vs.getD i .non)->Q (.ref g) H'
theorem teller_ok {st:Stmt}{rp ag:Pos}{fr:List Str}{ix:List Nat}
  (F:Fun K x qual st f fd) (S:FnScope (ps++[iname]) ps (ZAG st)) (av:fd.code=.ref c) (C:PySem.W.CodeHd base c Pt) (B:ZER mg base)
  (hb:ZAs st=[.FunctionDef iname ip ib [] none [] isc none iname pos,.Return (some (.Name iname rp)) ag]) (ay:∀ L cd,qualnameIn (envOfC qual (ZAG st) L f cd) iname iname=iq) (hd0:ip.defaults=[]) (b1:ip.kw_defaults=[]) (ha:∀ L cd,annTrees ip none (envOfC qual (ZAG st) L f cd)=[])
  (a0:(ZAG st).names.lookup iname=some .local) (aw:(iname == ("__debug__":Str))=false) (ao:(iname == ("__classdict__":Str))=false)
  (a6:∀ y∈isc.names,y.2=.free->y.1∈fr) (aa:∀ y∈fr,(y,NameKind.free)∈isc.names) (a9:∀ y∈fr,(ZAG st).names.lookup y=some .cell) (b0:∀ (j:Nat) (y:Str),fr[j]?=some y->∃ i,ix[j]?=some i /\ ps[i]?=some y) (aj:ix.length=fr.length) :
  FnOk P w K mg base CX0 1 f fd ps (ZEo Pt pos iname iq ip ib isc fr ix ps.length):=by
 obtain ⟨oc,od,kV,b3,pm,an,a7,ct,b2,rfl,lk,ab⟩:=F.ex
 have ac:a7=.ref c:=av
 refine ⟨λvs H Q E h=>h.1,λA outer s H args us vs Q E hr e0 aq r au=>?_⟩
 obtain ⟨hl,hT,hQ⟩:=au
 have KX:K.In s.heap:=e0.mod.kin.keeps λb o e=>(e0.bs b o e).1
 have ap:s.heap.NoLimit:=e0.mod.nolimit.keeps λb o e=>(e0.bs b o e).1
 have a8:∀ y∈ps.zip us,(ZAG st).names.lookup y.1=some .local∨((ZAG st).names.lookup y.1=some .cell /\ ((cellsFrom (s.heap.objs.size+1) (ZAG st).names []).lookup y.1).isSome=true):=λ⟨n,v⟩ hy=>by
  rcases S.par n (List.of_mem_zip hy).1 with q | q
  .exact .inl q
  .exact .inr ⟨q,PySem.W.cellsFrom_some _ _ _ (.inl q)⟩
 refine codeAny_call_function hr.depth (KX _ _ lk) rfl S.co S.gen rfl (PySem.W.codeRec_of KX ab) (aq _ _ _ _ ?_)
 refine wpAny_newFunctionEnv_cells S.kind a8 λenv he s1 xx=>?_
 subst he
 refine ⟨ap.keeps xx.toInCall.keep,codeAny_func ?_⟩
 have I:Inv (cxOf CX0 P w K mg base (ps++[iname]) qual (ZAG st) f a7 A outer s H E).nox [] (start (ps++[iname]) vs) H s1:=(inv_start S hr.hd e0 hl r xx).wish _
 have O:∀ y∈fr,∃ cc,(cellsFrom (s.heap.objs.size+1) (ZAG st).names []).lookup y=some cc:=λy hy=>ZDM (a9 y hy)
 rw [hb]
 have ah:(ps++[iname])[ps.length]?=some iname:=by simp
 have d1:=ps_def (X:=(cxOf CX0 P w K mg base (ps++[iname]) qual (ZAG st) f a7 A outer s H E).nox) (i:=ps.length) (pos:=pos) (Pt:=Pt) (c:=c) (iq:=iq) (ip:=ip) (ib:=ib) (isc:=isc) S.nd ah (.inl a0) (.inr a0) ac C B (ay _ _) hd0 b1 (ha _ _) λy hy=>O y (a6 _ hy rfl)
 have ae:(start (ps++[iname]) vs).length=ps.length+1:=by
  unfold start
  simp only [yAC,yAA,yBV,yAG,yBM]
  omega
 have run:=d1 [] s1 (start (ps++[iname]) vs) H { nx:=λam H'=>∃ g,am=(start (ps++[iname]) vs).set ps.length (some (.ref g)) /\ MadeMid H H' Pt pos g iname iq ip ib isc (closFrom (cellsFrom (s.heap.objs.size+1) (ZAG st).names []) isc.names []),rt:=λ_ _=>False } I ⟨hT,λg H' M=>⟨g,rfl,M⟩⟩
 refine wpAny_execs_cons (wpAny_mono run (λfl s2 q=>?_) λe s' z=>z.elim)
 cases fl with
 | ret v=>obtain ⟨_,_,_,_,_,q⟩:=q;exact q.elim
 | brk=>obtain ⟨_,_,_,q⟩:=q;exact q.elim
 | cont=>obtain ⟨_,_,_,q⟩:=q;exact q.elim
 | next=>
  obtain ⟨am,H',J,g,rfl,M⟩:=q
  have v1:=pe_var (pos:=rp) (X:=(cxOf CX0 P w K mg base (ps++[iname]) qual (ZAG st) f a7 A outer s H E).nox) ah (.inl a0) aw ao [] s2 _ H' (λv H2=>v=.ref g /\ H2=H') J (atV_of (v:=.ref g) (by rw [List.getElem?_set_self (by rw [ae];omega)]) ⟨rfl,rfl⟩)
  refine wpAny_execs_cons (wpAny_Return_some (wpAny_mono v1 (λu s3 q=>?_) λe s' z=>z.elim))
  obtain ⟨v,H2,J2,rv,rfl,rfl⟩:=q
  cases rv
  have un:Un (frs outer) [] H H2 s.heap s3.heap:=J2.base
  have b4:∀ b:Addr,b∉([]:List Addr):=λb=>by simp
  have inj:=J2.ok.inj
  have ax:∀ (j:Nat) (y:Str),fr[j]?=some y->∃ v cc uu,(ix.map λi=>vs.getD i .non)[j]?=some v /\ (cellsFrom (s.heap.objs.size+1) (ZAG st).names []).lookup y=some cc /\ RelV v uu /\ s3.heap.IsCell cc (some uu):=λj y hj=>by
   obtain ⟨i,h1,h2⟩:=b0 j y hj
   have hi:i < ps.length:=(yAO.mp h2).1
   obtain ⟨v,hv⟩:∃ v,vs[i]?=some v:=⟨_,yAF (by omega)⟩
   obtain ⟨m,_,hm⟩:=J2.loc
   have hs:((start (ps++[iname]) vs).set ps.length (some (.ref g)))[i]?=some (some v):=by
    rw [List.getElem?_set_ne (by omega)]
    unfold start
    rw [yBB (by rw [yAA];omega),yAM,hv]
    rfl
   have hN:(ps++[iname])[i]?=some y:=by rw [yBB hi];exact h2
   obtain ⟨uu,ru,az⟩:=hm i y v hN hs (.inr (.inl (a9 y (yAS hj))))
   refine ⟨v,?_⟩
   rcases az with ⟨k1,_⟩ | ⟨_,cc,e1,e2⟩
   .have k2:(ZAG st).names.lookup y=some .local:=k1
    rw [a9 y (yAS hj)] at k2
    cases k2
   .refine ⟨cc,uu,?_,e1,ru,e2⟩
    rw [yAM,h1]
    show some (vs.getD i .non)=some v
    rw [yBI,hv]
    rfl
  have Y:∀ y cc,(closFrom (cellsFrom (s.heap.objs.size+1) (ZAG st).names []) isc.names []).lookup y=some cc->y∈fr /\ (cellsFrom (s.heap.objs.size+1) (ZAG st).names []).lookup y=some cc:=λy cc h=>by
   rcases ZBo _ _ y cc (PySem.mem_of_lookup h) with z | ⟨z1,z2⟩
   .cases z
   .have hy:=a6 _ z1 rfl
    obtain ⟨c3,h3⟩:=O y hy
    rw [h3] at z2
    exact ⟨hy,by rw [h3];exact congrArg some z2.symm⟩
  have af:∀ y cc,y∈fr->(cellsFrom (s.heap.objs.size+1) (ZAG st).names []).lookup y=some cc->(closFrom (cellsFrom (s.heap.objs.size+1) (ZAG st).names []) isc.names []).lookup y=some cc:=λy cc hy h=>by
   obtain ⟨c3,h3⟩:=ZBZ (ZBp (cells:=cellsFrom (s.heap.objs.size+1) (ZAG st).names []) isc.names [] y (aa y hy))
   have:=(Y y c3 h3).2
   rw [h] at this
   rw [h3,Option.some.inj this]
  have U:∀ y cc,(closFrom (cellsFrom (s.heap.objs.size+1) (ZAG st).names []) isc.names []).lookup y=some cc->s.heap.objs.size <= cc /\ H2 cc=none /\ ∃ o u,s3.heap.get? cc=some o /\ o.data=.cell u:=λy cc h=>by
   obtain ⟨hy,h2⟩:=Y y cc h
   obtain ⟨u,o,e1,e2⟩:=J2.cell y cc h2
   exact ⟨yCB (xx.above y cc (PySem.mem_of_lookup h2)),J2.freeC y cc h2,o,u,e1,e2⟩
  generalize closFrom (cellsFrom (s.heap.objs.size+1) (ZAG st).names []) isc.names []=cl at M Y af U
  have tr:∀ b,¬ (∃ y,cl.lookup y=some b)->back cl (λb=>(s3.heap.get? b).map FZ) H2 b=H2 b:=λb n=>ZCU n
  have tc:∀ y b o,cl.lookup y=some b->s3.heap.get? b=some o->back cl (λb=>(s3.heap.get? b).map FZ) H2 b=some (FZ o):=λy b o h e=>by rw [ZDr h,e];rfl
  have ad:∀ b,b < s.heap.objs.size->¬ ∃ y,cl.lookup y=some b:=λb hb ⟨y,z⟩=>absurd (U y b z).1 (Nat.not_le.mpr hb)
  have up:∀ b o,H2 b=some o->back cl (λb=>(s3.heap.get? b).map FZ) H2 b=some o:=λb o e=>by
   rw [tr b λ⟨y,z⟩=>by rw [(U y b z).2.1] at e;cases e];exact e
  refine ⟨.ref g,back cl (λb=>(s3.heap.get? b).map FZ) H2,J2.os,J2.bare,⟨un.keep,un.slot,λb o e n hx=>?_,un.there,λb xs e=>up _ _ (un.tups b xs e),λb o u e=>up _ _ (un.frzs b o u e),λb qs e=>?_⟩,λb o e=>?_,rfl,hQ g _ ⟨λb o n e=>up _ _ (M.same b o n e),?_,⟨cl,?_,λy cc h=>(Y y cc h).1,λy z cc h1 h2=>inj y z cc (Y y cc h1).2 (Y z cc h2).2,λj y hj=>?_,?_⟩,M.fresh⟩⟩
  .rw [tr b (ad b (Heap.lt_size e))];exact un.free b o e n hx
  .obtain ⟨more,e2⟩:=un.tbls b qs e
   exact ⟨more,up _ _ e2⟩
  .by_cases q:∃ y,cl.lookup y=some b
   .obtain ⟨y,q⟩:=q
    obtain ⟨_,_,o2,u2,e2,_⟩:=U y b q
    rw [tc y b o2 q e2] at e
    cases e
    exact ZFa e2
   .rw [tr b q] at e
    exact (J2.hok b o e).stay (λc v _ q=>q) (λc q=>up c _ q) λc xs q=>up c _ q
  .exact M.tab.mono (by
    rcases M.tab with z | ⟨_,z,_⟩
    .rw [z];exact up _ _ z
    .rw [z];exact up _ _ z) λb o e=>up b _ e
  .obtain ⟨d1,d2,d3,c3,e1,e2⟩:=M.obj
   exact ⟨d1,d2,d3,c3,up _ _ e1,e2.mono λb o e=>up b _ e⟩
  .obtain ⟨v,cc,uu,a1,a2,a3,o,a4,a5⟩:=ax j y hj
   have ai:=af y cc (yAS hj) a2
   exact ⟨v,cc,uu,o,a1,ai,a3,tc y cc o ai a4,a5⟩
  .rw [yAA];exact aj
def ZF7 (tabs:List (Addr×Addr))(H:Hp):Prop:=∀ q∈tabs,H q.2=some (.tbl #[])
theorem law_callT {mb:Str->Option Value}{fa:Addr}{s₁:Shared}{vs:List Value}{ns:List Int}{tabs:List (Addr×Addr)}
  (KX:K.In s₁.heap) (aa:s₁.heap.Ns mainGlobals mg) (Y:s₁.heap.Ns builtinsNs mb) (aj:∀ x:Str,x≠"__name__"->mb x=bootBuiltins x) (ad:s₁.heap.NoLimit) (hg:s₁.gens=#[])
  (ha:s₁.heap.get? a=some { cls:=.type "list",data:=.seq vs.toArray }) (hi:IntsAre vs ns) (hl:ns.length <= sizeLine) (hr:Room k callerA)
  (hT:∀ q∈tabs,PySem.W.CodeHd s₁.heap q.1 q.2 /\ s₁.heap.get? q.2=some (PySem.W.tabObj #[])) (nt:PySem.W.noTabs K=true) (am:ZER mg s₁.heap)
  (F:∀ base:Heap,K.In base->base.Ns mainGlobals mg->(∀ q∈tabs,PySem.W.CodeHd base q.1 q.2)->ZER mg base->FnOk P w K mg base CX k fa fd [x] sp) (a4:∀ (s:Shared) (u:Value),BindsTo s fd ⟨[u],[]⟩ [(x,u)])
  (ah:∀ H:Hp,ZF7 tabs H->SqL K H a (ns.map V.int)->sp [.ref a] H (λv _=>v=.bl true) λ_ _ _=>False)
  (ai:∀ H e s',CX [] H s₁ (λ_ _ _=>False) e s'->False) :
  codeAny (model P w) callerA (.call (.ref fa) ⟨[.ref a],[]⟩) (λr s'=>r=.ok (.ret (.bool true)) /\ OldK s₁.heap s'.heap /\ s'.os=s₁.os /\ AllBare s'.gens) s₁:=by
 have rv:=ZCp hi
 have af:=hi.length
 have a3:∀ H:Hp,SqL K H a (ns.map V.int)->HOk P w H s₁.heap->(∀ b o,H b=some o->(b=a /\ K.lookup a=none /\ ∃ ob xs,o=.frz ob (.lst xs))∨(o=.tbl #[] /\ ∃ q∈tabs,q.2=b))->ZF7 tabs H ->
   codeAny (model P w) callerA (.call (.ref fa) ⟨[.ref a],[]⟩) (λr s'=>r=.ok (.ret (.bool true)) /\ OldK s₁.heap s'.heap /\ s'.os=s₁.os /\ AllBare s'.gens) s₁:=by
  intro H hS ae hA hO
  have J:∀ {b:Addr} {o:Obj},s₁.heap.get? b=some o->H b=none->(hidT s₁.heap H).get? b=some o:=λe n=>hidT_get e n
  have a0:∀ {b:Addr} {o:Obj},s₁.heap.get? b=some o->(∀ a5 n',o.data≠.seq a5 n')->(o.cls=.none->∀ a5,o.data≠.fields a5)->H b=none:=fun {b o} e d1 d2=>by
   cases q:H b with
   | none=>rfl
   | some u=>
    rcases hA b u q with ⟨e',_⟩ | ⟨_,q',O,e'⟩
    .subst e'
     rw [ha] at e;cases e
     exact absurd rfl (d1 _ _)
    .subst e'
     rw [(hT q' O).2] at e;cases e
     exact absurd rfl (d2 rfl _)
  have a1:∀ {b:Addr} {m:Str->Option Value},s₁.heap.Ns b m->(hidT s₁.heap H).Ns b m:=fun {b m} ⟨o,es,ep,e,d,r⟩=>⟨o,es,ep,J e (a0 e (by rw [d];intro _ _ z;cases z) (λ_=>by rw [d];intro _ z;cases z)),d,r⟩
  have a7:K.In (hidT s₁.heap H):=λb o e=>J (KX b o e) (by
   cases q:H b with
   | none=>rfl
   | some u=>
    rcases hA b u q with ⟨e',n,_⟩ | ⟨_,q',O,e'⟩
    .subst e';rw [n] at e;cases e
    .subst e'
     have e2:=KX _ _ e
     rw [(hT q' O).2] at e2
     cases e2
     have h2:=List.all_eq_true.mp nt _ (PySem.W.mem_of_lookupK e)
     exact absurd (show false=true from h2) yBH)
  have hM:Mod K mg (hidT s₁.heap H):=⟨a7,a1 aa,⟨mb,a1 Y,aj⟩,let ⟨mc,h1,h2⟩:=ad;⟨mc,a1 h1,h2⟩⟩
  have e0:Env0 P w K mg (hidT s₁.heap H) callerA [] s₁ H:=⟨rfl,hM,λb o e=>of_hidT e,yCO (hidT_size _ _),trivial,λb Y=>absurd (show b∈([]:List Addr) from Y) (by simp),ae,.of_eq hg⟩
  have hC:∀ q∈tabs,PySem.W.CodeHd (hidT s₁.heap H) q.1 q.2:=λq O=>by
   obtain ⟨o,vs,a8,tf,a6,tg,ao,a9,tt,e1,e2,e3,r⟩:=(hT q O).1
   exact ⟨o,vs,a8,tf,a6,tg,ao,a9,tt,J e1 (a0 e1 (by rw [e3];intro _ _ z;cases z) (λz=>by rw [e2] at z;cases z)),e2,e3,r⟩
  have hB:ZER mg (hidT s₁.heap H):=by
   obtain ⟨bm,ob,b1,b2,b3,b4,b5,b6⟩:=am
   exact ⟨bm,ob,b1,b2,J b3 (a0 b3 (by rw [b6];intro _ _ z;cases z) (λz=>by rw [b4] at z;cases z)),b4,b5,b6⟩
  refine codeAny_mono ((F _ a7 (a1 aa) hC hB).run callerA [] s₁ H ⟨[.ref a],[]⟩ [.ref a] [.ref a] _ _ hr e0 (a4 s₁ (.ref a)) (.cons rfl .nil) (ah H hO hS)) λr s' h=>?_
  cases r with
  | error e=>exact (ai H e s' h).elim
  | ok fl=>
   cases fl with
   | next=>exact False.elim h
   | brk=>exact False.elim h
   | cont=>exact False.elim h
   | ret u=>
    obtain ⟨v,H',os,ac,un,a2,r',q⟩:=h
    have q':v=.bl true:=q
    subst q'
    obtain rfl:u=Value.bool true:=r'
    have ag:∀ b:Addr,b∉frs ([]:List Env):=λb z=>absurd (show b∈([]:List Addr) from z) (by simp)
    refine ⟨rfl,⟨λb o e=>?_,λb o e=>un.there b o e (by simp)⟩,os,ac⟩
    cases q:H b with
    | none=>exact .inl (un.keep b o e q (ag b) (by simp))
    | some u=>
     rcases hA b u q with ⟨_,_,ob,xs,z⟩ | ⟨z,q',O,e'⟩
     .subst z
      have z2:=un.frzs b ob _ q
      obtain ⟨e1,_⟩:=ae b _ q
      obtain ⟨e2,_⟩:=a2 b _ z2
      rw [e] at e1;cases e1
      exact .inl e2
     .subst z
      subst e'
      obtain ⟨more,z2⟩:=un.tbls _ _ q
      have e2:s'.heap.get? q'.2=some (PySem.W.tabObj (#[]++more)):=a2 _ _ z2
      have e3:=(hT q' O).2
      rw [e] at e3
      have e4:o=PySem.W.tabObj #[]:=Option.some.inj e3
      subst e4
      exact .inr (.inl ⟨((hT q' O).1.tab (hT q' O).2).isCodeTable,rfl,#[],more,rfl,e2⟩)
 have ab:∀ q∈tabs,q.2≠a:=λq O z=>by
  have e:=(hT q O).2
  rw [z,ha] at e;cases e
 cases hk:K.lookup a with
 | some o=>
  have e:=KX a o hk
  rw [ha] at e
  cases e
  refine a3 (λb=>if b∈tabs.map (·.2) then some (.tbl #[]) else none) (.inr ⟨_,vs.toArray,_,hk,rfl,rfl,rfl,by rw [yAU,af];exact hl,by simpa using rv⟩) (λb u z=>?_) (λb u z=>?_) λq O=>if_pos (List.mem_map_of_mem O)
  .by_cases Y:b∈tabs.map (·.2)
   .have U:=(if_pos Y).symm.trans z
    cases U
    obtain ⟨q,O,rfl⟩:=yBP.mp Y
    exact (hT q O).2
   .have U:=(if_neg Y).symm.trans z
    cases U
  .by_cases Y:b∈tabs.map (·.2)
   .have U:=(if_pos Y).symm.trans z
    cases U
    obtain ⟨q,O,e⟩:=yBP.mp Y
    exact .inr ⟨rfl,q,O,e⟩
   .have U:=(if_neg Y).symm.trans z
    cases U
 | none=>
  refine a3 (λb=>if b∈tabs.map (·.2) then some (.tbl #[]) else if b=a then some (.frz { cls:=.type "list",data:=.seq vs.toArray } (.lst (ns.map V.int))) else none) (.inl (.inr ⟨{ cls:=.type "list",data:=.seq vs.toArray },?_⟩)) (λb u z=>?_) (λb u z=>?_) λq O=>if_pos (List.mem_map_of_mem O)
  .dsimp only
   rw [if_neg,if_pos rfl]
   intro z
   obtain ⟨q,O,e⟩:=yBP.mp z
   exact ab q O e
  .by_cases Y:b∈tabs.map (·.2)
   .have U:=(if_pos Y).symm.trans z
    cases U
    obtain ⟨q,O,rfl⟩:=yBP.mp Y
    exact (hT q O).2
   .have U:=(if_neg Y).symm.trans z
    by_cases hba:b=a
    .have U:=(if_pos hba).symm.trans U
     cases U
     subst hba
     exact ⟨ha,by rw [yAA];exact hl,vs,_,rv,ha⟩
    .have U:=(if_neg hba).symm.trans U
     cases U
  .by_cases Y:b∈tabs.map (·.2)
   .have U:=(if_pos Y).symm.trans z
    cases U
    obtain ⟨q,O,e⟩:=yBP.mp Y
    exact .inr ⟨rfl,q,O,e⟩
   .have U:=(if_neg Y).symm.trans z
    by_cases hba:b=a
    .have U:=(if_pos hba).symm.trans U
     cases U
     exact .inl ⟨hba,hk,_,_,rfl⟩
    .have U:=(if_neg hba).symm.trans U
     cases U
def ZFF (K:W.Frag)(tabs:List (Addr×Addr)):Sp:=λvs H Q _=>∃ (a:Addr) (ns:List Int),vs=[.ref a] /\ SqL K H a (ns.map V.int) /\ ns.length <= 63 /\ ZF7 tabs H /\ ∀ H',Q (.bl true) H'
theorem tabIn_of {U:Value}{O:Option Addr}{sl J:Array (Option Value)}{vs:Array Value}(a:W.nsIn K mainGlobals x=some (some (.ref f)))(l:K.lookup f=some ⟨oc,od,.func fd,sl⟩)(hc:fd.code=.ref c)
  (Y:K.lookup c=some ⟨U,O,.fields vs,J⟩) (tp:vs[11]?=some (.ref Pt)):PySem.W.tabIn K x=some (c,Pt):=by
 unfold PySem.W.tabIn
 rw [a]
 dsimp only
 rw [l]
 dsimp only
 rw [hc]
 dsimp only
 rw [Y]
 dsimp only
 rw [tp]
theorem walk_ofT2 {l:PySem.W.OpenLaw}{q:Program}{loose:List Str}{XP:(Str->Option Value)->Heap->Prop}{YP:World->Heap->Prop}{d:DefRec}{K:Params->W.Frag}{names:List Str}
  (hn:l.most=some 63) (a1:d.params.defaults=[]) (hr:Room k callerA)
  (hY:∀ (w:World) (h:Heap),YP w h->(K w.params).In h) (a0:∀ y∈names,∃ dr,(recsOf q).find? (λe=>e.name == y)=some dr)
  (F:∀ (w:World) (mg:Str->Option Value) (fa:Addr) (h:Heap),(K w.params).In h->h.Ns mainGlobals mg->mg d.name=some (.ref fa) ->
   ∃ (tabs:List (Addr×Addr)) (fd:FuncData),PySem.W.noTabs (K w.params)=true /\ (∀ t∈tabs,∃ y∈names,PySem.W.tabIn (K w.params) y=some t) /\ (∀ (s:Shared) (u:Value),BindsTo s fd ⟨[u],[]⟩ [(x,u)]) /\
    ∀ base:Heap,(K w.params).In base->base.Ns mainGlobals mg->(∀ t∈tabs,PySem.W.CodeHd base t.1 t.2)->ZER mg base->FnOk l.prog w (K w.params) mg base CX0 k fa fd [x] (ZFF (K w.params) tabs)) :
  PySem.W.WalkO q loose XP YP l.row.toRowW d [] (λf vs=>PySem.call f vs):=by
 refine Att.attach_call hn a1 λw s₀ s₁ mg mb fa o pm cd a3 a vs ns G Y ho hd a4 a2 U O J hg=>?_
 have KX:=hY w _ Y
 obtain ⟨tabs,fd,nt,ht,hb,hF⟩:=F w mg fa _ KX G.T.g a2
 refine law_callT (tabs:=tabs) KX G.T.g G.T.b G.T.builtins G.T.nolimit hg U O (yAL J (by decide)) hr (λt h2=>?_) nt G.T.bmain hF hb (λH hO hS=>⟨a,ns,rfl,hS,J,hO,λ_=>rfl⟩) λH e s' z=>z
 obtain ⟨y,hy,e2⟩:=ht t h2
 obtain ⟨dr,e1⟩:=a0 y hy
 exact PySem.W.tab_of G.T KX e1 e2
theorem hix_of {J:List Nat}{fr:List Str}(h:J.map (λi=>ps[i]?)=fr.map some):∀ (j:Nat) (y:Str),fr[j]?=some y->∃ i,J[j]?=some i /\ ps[i]?=some y:=λj y e=>by
 have:=congrArg (λl=>l[j]?) h
 simp only [yAM,e,yCJ] at this
 cases q:J[j]? with
 | none=>rw [q] at this;cases this
 | some i=>rw [q] at this;exact ⟨i,rfl,by simpa using this⟩
noncomputable def inBody (s:Stmt)(j:Nat):Stmt:=(ZAs s).getD j (.Pass ⟨0,0,0,0⟩)
noncomputable def ZEO (s:Stmt):Pos:=match s with
 | .FunctionDef _ _ _ _ _ _ _ _ _ pos=>pos
 | _=>⟨0,0,0,0⟩
theorem cx_cloK {N:List Str}{J:Value}{A:Around}:(ZE9 P w K mg base N qual scope f J cl A outer s H).K=K:=rfl
theorem lkc {k k':Str}{r:List (Str×V)}:List.lookup k ((k',v)::r)=if k=k' then some v else List.lookup k r:=by
 rw [yCI]
 by_cases h:k=k'
 .subst h;simp
 .have:(k == k')=false:=by simpa using h
  rw [this,if_neg h]
theorem ZBu {f:Str}{v u:V}:∀ {fs:List (Str×V)},fs.lookup f=some u->(putF f v fs).length=fs.length
 | [],h=>by cases h
 | (g,w)::r,h=>by
  unfold putF
  by_cases e:g=f
  .rw [if_pos e];rfl
  .rw [if_neg e,yAG,yAG]
   rw [lkc,if_neg (λz=>e z.symm)] at h
   rw [ZBu h]
structure Ins (H:Hp)(a C:Addr)(fl:List (Str×V)):Prop where
 ex:∃ dx fs,H a=some (.ins C dx fs) /\ fs.length <= 50 /\ ∀ f,fs.lookup f=fl.lookup f
theorem Ins.of (h:H a=some (.ins C dx fl))(hl:fl.length <= 50):Ins H a C fl:=⟨dx,fl,h,hl,λ_=>rfl⟩
theorem Ins.congr {fl':List (Str×V)}(h:Ins H a C fl)(e:∀ f,fl.lookup f=fl'.lookup f):Ins H a C fl':=let ⟨dx,fs,h1,h2,h3⟩:=h.ex;⟨dx,fs,h1,h2,λf=>(h3 f).trans (e f)⟩
theorem Ins.mono (h:Ins H a C fl)(s:Same H H'):Ins H' a C fl:=let ⟨dx,fs,h1,h2,h3⟩:=h.ex;⟨dx,fs,s _ _ h1,h2,h3⟩
theorem Ins.keep (h:Ins H a C fl)(s:H' a=H a):Ins H' a C fl:=let ⟨dx,fs,h1,h2,h3⟩:=h.ex;⟨dx,fs,s.trans h1,h2,h3⟩
theorem Ins.ne (h:Ins H a C fl)(J:H b=some o)(n:∀ C dx fs,o≠.ins C dx fs):b≠a:=λz=>by
 obtain ⟨dx,fs,h1,_⟩:=h.ex
 rw [z,h1] at J
 exact n _ _ _ (Option.some.inj J).symm
theorem Ins.neN (h:Ins H a C fl)(J:H b=none):b≠a:=λz=>by
 obtain ⟨dx,fs,h1,_⟩:=h.ex
 rw [z,h1] at J;cases J
section
variable {f:Str}
theorem Ins.get (h:Ins H a C fl)(cl:Cls K C)(n:NoAttr K C f)(l:fl.lookup f=some v)(q:Q v H):getF K f (.ref a) H Q:=by
 obtain ⟨dx,fs,h1,h2,h3⟩:=h.ex
 exact getF_of h1 cl n ((h3 f).trans l) q
theorem Ins.set {Q:Hp->Prop}(h:Ins H a C fl)(cl:Cls K C)(n:NoAttr K C f)(q:∀ H',Ins H' a C (putF f v fl)->(∀ b,b≠a->H' b=H b)->Q H')(hl:∃ u,fl.lookup f=some u):setF K f (.ref a) v H Q:=by
 obtain ⟨dx,fs,h1,h2,h3⟩:=h.ex
 obtain ⟨u,J⟩:=hl
 refine setF_of h1 cl n (by omega) (q _ ⟨dx,_,ZAE,?_,λg=>?_⟩ λb O=>ZAJ O)
 .rw [ZBu ((h3 f).trans J)];exact h2
 .rw [ZAb,ZAb,h3]
theorem Ins.meth {m:Str}{R:Prop}(h:Ins H a C fl)(l:fl.lookup m=none)(q:R):∃ b dx fs,V.ref a=.ref b /\ H b=some (.ins C dx fs) /\ fs.lookup m=none /\ R:=by
 obtain ⟨dx,fs,h1,h2,h3⟩:=h.ex
 exact ⟨a,dx,fs,rfl,h1,(h3 m).trans l,q⟩
end
def augA (K:W.Frag)(tv:TE)(rd:V->V->Hp->VK->Prop)(f:Str)(D:Ends)(σ:St)(x:V)(H1:Hp):Prop:=∃ a C dx fs v,x=.ref a /\ H1 a=some (.ins C dx fs) /\ Cls K C /\ NoAttr K C f /\ fs.lookup f=some v /\
 tv σ H1 λy H2=>rd v y H2 λz H3=>∃ dx' fs',H3 a=some (.ins C dx' fs') /\ fs'.length < 1000 /\ D.nx σ (upd H3 a (.ins C dx' (putF f z fs')))
theorem sFldAug_eq {rd:V->V->Hp->VK->Prop}{f:Str}:sFldAug K ta tv rd f D σ H=ta σ H (λx H1=>augA K tv rd f D σ x H1):=rfl
theorem Ins.aug {f:Str}(h:Ins H a C fl)(cl:Cls K C)(n:NoAttr K C f)(l:fl.lookup f=some (.int i))
  (q:∀ H',Ins H' a C (putF f (.int (i+j)) fl)->(∀ b,b≠a->H' b=H b)->D.nx σ H'):augA K (tC (.int j)) rAdd f D σ (.ref a) H:=by
 obtain ⟨dx,fs,h1,h2,h3⟩:=h.ex
 refine ⟨a,C,dx,fs,_,rfl,h1,cl,n,(h3 f).trans l,i,j,rfl,rfl,dx,fs,h1,by omega,q _ ⟨dx,_,ZAE,?_,λg=>?_⟩ λb J=>ZAJ J⟩
 .rw [ZBu ((h3 f).trans l)];exact h2
 .rw [ZAb,ZAb,h3]
theorem setX {f:Str}{Q:Hp->Prop}(h:H a=some (.ins C dx fl))(cl:Cls K C)(n:NoAttr K C f)(hl:fl.length <= 20)(q:∀ H',H' a=some (.ins C dx (putF f v fl))->(∀ b,b≠a->H' b=H b)->Q H'):setF K f (.ref a) v H Q :=
 setF_of h cl n (by omega) (q _ ZAE λb J=>ZAJ J)
theorem ZAV {f:Str}{n:Nat}(h:fl.length <= n):(putF f v fl).length <= n+1:=yAL (ZCl f v fl) (Nat.succ_le_succ h)
theorem ZFM:(putF f0 v0 []).length <= 20:=yAL (ZAV (yAB 0)) (by decide)
theorem ZE3:(putF f1 v (putF f0 v0 [])).length <= 20:=yAL (ZAV (ZAV (yAB 0))) (by decide)
theorem ZE2:(putF J v (putF f1 U (putF f0 v0 []))).length <= 20:=yAL (ZAV (ZAV (ZAV (yAB 0)))) (by decide)
theorem ZFl:(putF x v3 (putF J v (putF f1 Y (putF f0 v0 [])))).length <= 20:=yAL (ZAV (ZAV (ZAV (ZAV (yAB 0))))) (by decide)
theorem ZFx:(putF O Y (putF f3 v3 (putF J U (putF f1 v1 (putF f0 v0 []))))).length <= 20:=yAL (ZAV (ZAV (ZAV (ZAV (ZAV (yAB 0)))))) (by decide)
theorem putL6:(putF f5 U (putF O v4 (putF f3 v3 (putF J Y (putF f1 v1 (putF f0 v0 [])))))).length <= 20:=yAL (ZAV (ZAV (ZAV (ZAV (ZAV (ZAV (yAB 0))))))) (by decide)
theorem putL7:(putF f6 U (putF f5 Y (putF O v4 (putF f3 v3 (putF J v2 (putF f1 v1 (putF f0 v0 []))))))).length <= 20:=yAL (ZAV (ZAV (ZAV (ZAV (ZAV (ZAV (ZAV (yAB 0)))))))) (by decide)
theorem putL8 {f7:Str}{v7:V}:(putF f7 v7 (putF f6 U (putF f5 Y (putF O v4 (putF f3 v3 (putF J v2 (putF f1 v1 (putF f0 v0 [])))))))).length <= 20:=yAL (ZAV (ZAV (ZAV (ZAV (ZAV (ZAV (ZAV (ZAV (yAB 0))))))))) (by decide)
theorem ZF0 (p q:Int):(if q > p then q else p)=max p q:=by split <;> omega
theorem ZE4 (p q:Int):(if q < p then q else p)=min p q:=by split <;> omega
theorem ZBO {us ds:List Value}{n:Nat}(h:(us++ds).length=ps.length)(e:n+ds.length=ps.length):us.length=n:=by
 rw [yAC] at h;omega
def Fr (S:List Addr)(H H':Hp):Prop:=∀ b o,b∉S->H b=some o->H' b=some o
theorem Fr.refl {S:List Addr}:Fr S H H:=λ_ _ _ h=>h
theorem Fr.trans {S:List Addr}{H'':Hp}(e:Fr S H H')(f:Fr S H' H''):Fr S H H'':=λb o n h=>f b o n (e b o n h)
theorem Same.fr {S:List Addr}(e:Same H H'):Fr S H H':=λb o _ h=>e b o h
theorem Fr.upd {S:List Addr}{H:Hp}{l:Addr}{o:HO}(h:l∈S):Fr S H (upd H l o):=λb o' n e=>by
 have z:b≠l:=λz=>n (by rw [z];exact h)
 rw [ZAJ z];exact e
end L2
namespace PySem
namespace F
theorem nolen_lri:typeLookup (.type "list_reverseiterator") "__len__"=pure none:=by rw [typeLookup_type,builtinLookup_eq_fast];kernel_rfl
theorem hint_lri:typeLookup (.type "list_reverseiterator") "__length_hint__"=pure (some (.builtin "list_reverseiterator.__length_hint__")):=by rw [typeLookup_type,builtinLookup_eq_fast];kernel_rfl
end F
section
variable {prog:Program}{w:World}{A:Around}{s:Shared}{R:Result->Shared->Prop}
variable {I:Addr}{fp wr:List Addr}{G:Array GenState->Array GenState->Prop}{n:Nat}{P:Nat->Value->Prop}{St:Nat->Shared->Prop}
theorem wpAny_extend_rev (W:WalksS prog w A.in1 I fp wr G n P St)(hT:∀ i s,St i s->s.TypeIs (.ref I) "list_reverseiterator")(S:Addr)(res:Value)(a0:Nat)(O:St 0 s)(Y:S∉fp)(hI:I∈fp)
  (hS:s.heap.get? S=some { cls:=.type "list",data:=.seq #[] a0 })
  (hR:∀ s' J c',Moved (S::wr) G s s'->s'.heap.get? S=some { cls:=.type "list",dict:=none,data:=.seq J c',slots:=#[] }->ItemsOf P J n->R (.ok (.ret res)) s') (hn:n <= sizeLine) :
  wpAny (model prog w) A.in1 (Builtin.List.listExtendWith (.ref S) (.ref I) res)
   (λfin s'=>match fin with | .done f=>R (.ok f) s' | .again c'=>c'.quiet=true /\ codeAny (model prog w) A c' R s') (λe s'=>R (.error e) s') s:=by
 have a2:S≠I:=λe=>Y (e ▸ hI)
 unfold Builtin.List.listExtendWith
 refine wpAny_bind (wpAny_typeOf (hT 0 _ O) ?_)
 have h1:Builtin.List.listSameRef (.ref S) (.ref I)=false:=by simp [Builtin.List.listSameRef,a2]
 rw [if_neg (by rw [h1];decide)]
 refine wpAny_bind (W.self 0 _ _ _ O ?_)
 refine wpAny_bind (wpAny_holding ?_)
 unfold Builtin.List.listLengthHint
 refine wpAny_bind (wpAny_specialOf (hT 0 _ O) F.nolen_lri ?_)
 show wpAny _ A.in1 (specialOf (Value.ref I) (Str.ofString "__length_hint__") >>= _) _ _ _
 refine wpAny_bind (wpAny_specialOf (hT 0 _ O) F.hint_lri ?_)
 (generalize hid:("list_reverseiterator.__length_hint__":String)=id0;(fail_if_success (clear hid id0));wp_delta;rw [show splitId id0=some ("list_reverseiterator","__length_hint__") from by subst hid;decide +kernel];subst hid)
 refine wpAny_bind (wpAny_isInstance (b:=true) (hT 0 _ O) (by rw [isSubtype_type];kernel_rfl) ?_)
 refine wpAny_pure ?_
 rw [if_neg (by decide)]
 refine wpAny_pure ⟨plainId_quiet F.plain_extend_loop _,codeAny_extend_loopS W hn _ Y _ n 0 _ _ _ rfl (yAJ _) O hS (ItemsOf.nil P) λs' J c' hm a1 U=>?_⟩
 exact hR s' J c' hm a1 U
theorem wpAny_list_init_rev (W:WalksS prog w A.in1 I fp wr G n P St)(hT:∀ i s,St i s->s.TypeIs (.ref I) "list_reverseiterator")(S:Addr)(a2:St 0 s)(Y:S∉fp)(hI:I∈fp)
  (hS:s.heap.get? S=some { cls:=.type "list",data:=.seq #[] })
  (hR:∀ s' J c',Moved (S::wr) G s s'->s'.heap.get? S=some { cls:=.type "list",dict:=none,data:=.seq J c',slots:=#[] }->ItemsOf P J n->R (.ok (.ret .none)) s') (hn:n <= sizeLine) :
  wpAny (model prog w) A.in1 (Builtin.«list.__init__» ⟨[.ref S,.ref I],[]⟩)
   (λfin s'=>match fin with | .done f=>R (.ok f) s' | .again c'=>c'.quiet=true /\ codeAny (model prog w) A c' R s') (λe s'=>R (.error e) s') s:=by
 show wpAny _ A.in1 (do let old <- Builtin.List.listItems (.ref S);Builtin.List.listUpdate (.ref S) (λ_=>#[]);letGo old.toList.reverse;Builtin.List.listExtendWith (.ref S) (.ref I) .none) _ _ s
 refine wpAny_bind ?_
 unfold Builtin.List.listItems
 refine wpAny_bind (wpAny_seqItems hS rfl (wpAny_pure ?_))
 show wpAny _ A.in1 (updateSeq S (λ_=>#[]) >>= λ_=>letGo (#[]:Array Value).toList.reverse >>= λ_=>Builtin.List.listExtendWith (.ref S) (.ref I) .none) _ _ s
 refine wpAny_bind (wpAny_updateSeq hS rfl ?_)
 have O:=Heap.get?_update_self (Obj.mapSeq (λ_=>(#[]:Array Value))) hS rfl
 have a0:∀ b o,b≠S->s.heap.get? b=some o->(s.heap.update S (Obj.mapSeq (λ_=>(#[]:Array Value)))).get? b=some o :=
  λb o hb e=>(Heap.get?_update_other _ _ (Ne.symm hb)).trans e
 refine wpAny_bind (wpAny_letGo ?_)
 refine wpAny_extend_rev (hn:=hn) W hT S .none _ (W.frame 0 s _ s.toks a2 (yAB _) λb hb o e=>a0 b o (λh=>Y (h ▸ hb)) e) Y hI O λs' J c' hm a1 U=>?_
 exact hR s' J c' (Moved.trans W.gtrans ((Moved.refl W.grefl).then_heap (yAB _) λb o hb e=>a0 b o (λh=>hb (h ▸ yAD)) e) hm) a1 U
end
section
variable {prog:Program}{w:World}{A:Around}{E:Value->Shared->Prop}{s:Shared}
variable {I:Addr}{fp wr:List Addr}{G:Array GenState->Array GenState->Prop}{n:Nat}{P:Nat->Value->Prop}{St:Nat->Shared->Prop}
theorem call_list_revW {Q:Value->Shared->Prop}(W:WalksS prog w A.in1.in1 I fp wr G n P St)(hT:∀ i s,St i s->s.TypeIs (.ref I) "list_reverseiterator")(a2:St 0 s)(Y:∀ b∈fp,b < s.heap.objs.size)(hI:I∈fp)
  (hQ:∀ s' J c',Moved (s.heap.objs.size::wr) G { s with heap:=s.heap.push { cls:=.type "list",data:=.seq #[] } } s' ->
   s'.heap.get? s.heap.objs.size=some { cls:=.type "list",dict:=none,data:=.seq J c',slots:=#[] }->ItemsOf P J n->Q (.ref s.heap.objs.size) s') (hn:n <= sizeLine) :
  wpAny (model prog w) A (call (.type "list") [.ref I]) Q E s:=by
 have a1:s.heap.objs.size∉fp:=λhm=>yBR _ (Y _ hm)
 refine callType_codes (Q₁:=λobj s₁=>obj=.ref s.heap.objs.size /\ s₁={ s with heap:=s.heap.push { cls:=.type "list",data:=.seq #[] } }) F.called_list (F.typeCall_list_1 _) F.entry_list_init
  (code_list_new _ ⟨rfl,rfl⟩) λobj s₁ U=>?_
 obtain ⟨rfl,rfl⟩:=U
 have hS:(s.heap.push { cls:=.type "list",data:=.seq #[] }).get? s.heap.objs.size=some { cls:=.type "list",data:=.seq #[] }:=Heap.get?_push_size _ rfl
 refine ⟨⟨_,hS,rfl⟩,F.args_list_init_2 _ _,wpAny_list_init_rev (hn:=hn) W hT _ (W.frame 0 s _ s.toks a2 (yAB _) λb _ o e=>Heap.get?_push_of_some _ e) a1 hI hS λs' J c' hm a0 O=>?_⟩
 exact ⟨rfl,hQ s' J c' hm a0 O⟩
end
end PySem
namespace L2
open PySem PySem.Spec PyProof.Rows
variable {o:Option V}{P:Program}{H H':Hp}{a b:Addr}{X:Cx}{σ:St}{kvs:List (List Key×V)}{y:V}{h':Heap}{u:Value}{w:World}
def tRevL (K:W.Frag)(t:TA):TE:=λσ H Q=>t σ H λvs H1=>∃ (l:Addr) (ys:List V),vs=[.ref l] /\ SqL K H1 l ys /\ ∀ r,H1 r=none->Q (.ref r) (upd H1 r (.lst ys.reverse))
section
variable {e:Expr}{ta:TA}{p p2 pos pos2:Pos}
theorem pe_list_rev (hc:X.calm=true)(hg:Gl X "list")(hm:X.mg "list"=none)(a7:Gl X "reversed")(a5:X.mg "reversed"=none)(ha:PA X [e] ta)
  (he:starEach [.Call (.Name "reversed" p2) [e] [] pos2] X.env=(false,eval (.Call (.Name "reversed" p2) [e] [] pos2) X.env)::starEach [] X.env:=by rfl) (a6:(backTo pos (starEach [] X.env)).any (·.1)=false:=by rfl)
  (a1:starEach [e] X.env=(false,eval e X.env)::starEach [] X.env:=by rfl) (a0:(backTo pos2 (starEach [] X.env)).any (·.1)=false:=by rfl) :
  PE X (.Call (.Name "list" p) [.Call (.Name "reversed" p2) [e] [] pos2] [] pos) (tRevL X.K ta):=by
 intro pins s σ H Q I h
 refine wpAny_Call_Name_kw (ZCw I hg hm PyProof.Rows.boot_list ?_ (by decide) (by decide))
 refine PyProof.Rows.callWith_type1 ?_ he a6
 rw [he]
 show wpAny _ _ (spliced ((false,eval (.Call (.Name "reversed" p2) [e] [] pos2) X.env)::backTo pos (starEach [] X.env))) _ _ s
 refine Calls.spliced_cons ?_
 refine wpAny_Call_Name_kw (ZCw I a7 a5 PyProof.Rows.boot_reversed ?_ (by decide) (by decide))
 refine PyProof.Rows.callWith_type1 (thn (ha pos2 pins s σ H _ I h) λus s1 zz=>?_) a1 a0
 obtain ⟨vs,H1,I1,r1,q1⟩:=zz
 obtain ⟨l,ys,rfl,hl,q⟩:=q1
 obtain ⟨u,rfl,rx⟩:=ZC0 r1
 cases rx
 obtain ⟨its,r',pl,hz⟩:=I1.list hl
 have a3:l < s1.heap.objs.size:=by obtain ⟨o,ho,_⟩:=pl.isList;exact Heap.lt_size ho
 refine call_reversed_list pl.isList ?_
 refine Calls.spliced_nil ?_
 have hh:X.A.handled=none:=I1.ok.hd hc
 have a4:l≠s1.heap.objs.size:=yAQ a3
 have W:=(Walks.listRev (prog:=X.prog) (w:=X.w) (A:=X.A.in1.in1) hh s1.heap.objs.size l a4 its.toArray).toS
 have hsz:its.toArray.size=its.length:=yAU ..
 have a8:=r'.length
 refine call_list_revW W (λi s st=>st.2.1.typeIs) ⟨yAJ _,⟨_,Heap.get?_push_size _ rfl,rfl,by simp [revObj]⟩,pl.isList.at λo e=>Heap.get?_push_of_some _ e⟩ (λb hb=>?_) yAD (λs' J c' hm a2 U=>?_) (by rw [hsz];omega)
 .rcases yAI.mp hb with z | z
  .rw [z];exact Heap.lt_size (Heap.get?_push_size _ rfl)
  .rw [yAH.mp z]
   obtain ⟨o,ho,_⟩:=pl.isList
   exact Heap.lt_size (Heap.get?_push_of_some _ ho)
 .rw [Moved.eq_with hm]
  have Y:s1.heap.objs.size <= (s1.heap.push (revObj l ((its.toArray.size:Int)-1))).objs.size:=yCB (Heap.lt_size (Heap.get?_push_size _ rfl))
  have e:J.toList=its.reverse:=by
   refine yDG λj=>?_
   have sz:J.toList.length=its.length:=by rw [yAR,U.1,hsz]
   by_cases hj:j < its.length
   .have h1:J.toList[j]?=some (J.toList[j]'(by omega)):=yAF (by omega)
    have h2:=U.2 j _ (by rw [<- yBK];exact h1)
    rw [h1,<- h2,List.getElem?_reverse hj,hsz]
    simp
   .rw [yBO (by omega),yBO (by rw [yCP];omega)]
  refine ⟨.ref _,_,I1.laid (h':=s'.heap) (t':=s'.toks) (o:=.lst ys.reverse) (a:=(s1.heap.push (revObj l ((its.toArray.size:Int)-1))).objs.size) (λb u hb=>hm.heap b u (λz=>?_) (Heap.get?_push_of_some _ (Heap.get?_push_of_some _ hb))) Y ⟨by rw [yCP];exact hz,J.toList,c',by rw [e];exact r'.reverse,by simpa using a2⟩,rfl,q _ (I1.hok.fresh Y)⟩
  have O:=Heap.lt_size hb
  rcases yAI.mp z with z | z
  .rw [z] at O;exact absurd O (Nat.not_lt.mpr Y)
  .rw [yAH.mp z] at O;exact yBR _ O
end
def compR2 (g:TG)(tt:TT)(te:TE)(σ0:St)(Q:VK)(x y:V)(H1:Hp):Prop:=∃ i j:Int,[x,y]=[.int i,.int j] /\ (-(2 ^ 62) <= i /\ i < 2 ^ 62 /\ -(2 ^ 62) <= j /\ j < 2 ^ 62) /\ compR i g tt te σ0 Q (j-i).toNat H1
theorem tCompR2_eq {k:Nat}{js:List Nat}{t u:TE}{g:TG}{tt:TT}{te:TE}{Q:VK}:ZEG k js (ZF1 (ZC1 t (ZC1 u tNil))) g tt te σ H Q=t σ H (λx H1=>u σ H1 λy H2=>compR2 g tt te (up k js σ) Q x y H2):=rfl
section
theorem call_sumB (hc:X.calm=true):ZCE X (.builtin "sum") (λxs H Q=>∃ (p:Addr) (ns:List Int),xs=[.ref p] /\ SqL X.K H p (ns.map V.int) /\ Q (.int ns.sum) H):=by
 intro pins s σ H xs us Q I r h
 obtain ⟨p,ns,rfl,hq,q⟩:=h
 obtain ⟨u,rfl,rx⟩:=ZC0 r
 cases rx
 obtain ⟨its,r',pl,hz⟩:=I.list hq
 have J:=r'.length
 rw [yAA] at J
 have hh:X.A.handled=none:=I.ok.hd hc
 have hl:=pl.isList
 have U:p < s.heap.objs.size:=by obtain ⟨_,e,_⟩:=hl;exact Heap.lt_size e
 refine call_sum_walkG (wpAny_pyIter_list hl ⟨s.heap.objs.size,_,_,_,_,_,λi=>ns.getD i 0,rfl,Walks.list (A:=X.A.in1) hh s.heap.objs.size p (yAQ U) its.toArray,⟨⟨_,Heap.get?_push_size _ rfl,rfl,rfl⟩,hl.push _⟩,λb Y=>?_,λi v hP=>?_,λh' tk t' hk=>?_⟩)
 .have a0:b=s.heap.objs.size∨b=p:=by simpa using Y
  show b < (s.heap.push _).objs.size
  rw [Heap.size_push]
  rcases a0 with rfl | rfl
  .exact yCC _
  .exact Nat.lt_succ_of_lt U
 .have O:its[i]?=some v:=by simpa using hP
  have hi:i < its.length:=(yAO.mp O).1
  obtain ⟨b,Y⟩:∃ b,ns[i]?=some b:=⟨_,yAF (by omega)⟩
  obtain ⟨u,hu,ru⟩:=r'.get (i:=i) (x:=.int b) (by rw [yAM,Y];rfl)
  rw [O] at hu
  cases hu
  obtain ⟨t,rfl⟩:=ru
  refine ⟨t,?_⟩
  show _=Value.int (ns.getD i 0) t
  rw [yBI,Y]
  rfl
 .refine ⟨.int ns.sum,H,I.kept (t':=tk) (λb o e=>hk b o ?_ (Heap.get?_push_of_some _ e)),⟨t',?_⟩,q⟩
  .intro z
   have:b=s.heap.objs.size:=by simpa using z
   exact absurd (Heap.lt_size e) (by rw [this];exact yBR _)
  .have:its.toArray.size=ns.length:=by simp [J]
   rw [this,ZCu ns ns.length (yAB _),List.take_length]
end
section
variable {κ:Type}[DecidableEq κ]
noncomputable def valV (kvs:List (κ×V))(k:κ):Option V:=(kvs.find? λkv=>decide (kv.1=k)).map (·.2)
noncomputable def putK (kvs:List (κ×V))(k:κ)(v:V):List (κ×V) :=
 if (kvs.any λkv=>decide (kv.1=k))=true then kvs.map (λkv=>if kv.1=k then (kv.1,v) else kv) else kvs++[(k,v)]
theorem ZBC {p:κ×V}{r:List (κ×V)}{k:κ}(e:p.1=k):valV (p::r) k=some p.2:=by simp [valV,yDH,e]
theorem ZBD {p:κ×V}{r:List (κ×V)}{k:κ}(e:¬ p.1=k):valV (p::r) k=valV r k:=by simp [valV,yDH,e]
theorem ZCq (k:κ):∀ kvs:List (κ×V),(kvs.any λJ=>decide (J.1=k))=(valV kvs k).isSome
 | []=>rfl
 | p::r=>by
  rw [List.any_cons]
  by_cases e:p.1=k
  .simp only [ZBC e,decide_eq_true e,Bool.true_or,Option.isSome_some]
  .rw [ZBD e,decide_eq_false e,Bool.false_or];exact ZCq k r
theorem valV_map (k j:κ)(y:V):∀ kvs:List (κ×V),valV (kvs.map λJ=>if J.1=k then (J.1,y) else J) j=(valV kvs j).map λx=>if j=k then y else x
 | []=>rfl
 | p::r=>by
  have O:=valV_map k j y r
  rw [yAZ]
  by_cases h:p.1=k
  .rw [if_pos h]
   by_cases e:p.1=j
   .rw [ZBC (p:=(p.1,y)) e,ZBC e,yCJ,if_pos (e.symm.trans h)]
   .rw [ZBD (p:=(p.1,y)) e,ZBD e,O]
  .rw [if_neg h]
   by_cases e:p.1=j
   .rw [ZBC (p:=p) e,ZBC e,yCJ,if_neg (λz=>h (e.trans z))]
   .rw [ZBD (p:=p) e,ZBD e,O]
theorem valV_snoc (k j:κ)(y:V):∀ kvs:List (κ×V),valV kvs k=none->valV (kvs++[(k,y)]) j=if j=k then some y else valV kvs j
 | [],_=>by
  by_cases e:k=j
  .rw [if_pos e.symm];exact ZBC (p:=(k,y)) e
  .rw [if_neg (λz=>e z.symm)];exact ZBD (p:=(k,y)) e
 | p::r,hn=>by
  rw [yCT]
  have J:¬ p.1=k:=λz=>by rw [ZBC z] at hn;cases hn
  rw [ZBD J] at hn
  have O:=valV_snoc k j y r hn
  by_cases e:p.1=j
  .rw [ZBC e,ZBC e,if_neg (λz=>J (e.trans z))]
  .rw [ZBD e,ZBD e,O]
theorem valV_put (kvs:List (κ×V))(k j:κ)(y:V):valV (putK kvs k y) j=if j=k then some y else valV kvs j:=by
 unfold putK
 by_cases a:(kvs.any λJ=>decide (J.1=k))=true
 .rw [if_pos a,valV_map]
  rw [ZCq] at a
  by_cases e:j=k
  .obtain ⟨x,O⟩:=Option.isSome_iff_exists.mp a
   rw [if_pos e,e,O,yCJ,if_pos rfl]
  .rw [if_neg e]
   cases valV kvs j with
   | none=>rfl
   | some x=>rw [yCJ,if_neg e]
 .rw [if_neg a]
  refine valV_snoc k j y kvs ?_
  rw [ZCq] at a
  cases q:valV kvs k with
  | none=>rfl
  | some x=>rw [q] at a;exact (a rfl).elim
theorem ZCk (kvs:List (κ×V))(k:κ)(v:V):(putK kvs k v).length <= kvs.length+1:=by
 unfold putK
 split
 .rw [yAA];omega
 .rw [yAC,yAG,yBM];omega
theorem RelO.isSome_eq {u:Option Value}(r:RelO o u):o.isSome=u.isSome:=by
 cases o with
 | none=>cases u with
  | none=>rfl
  | some _=>exact (show False from r).elim
 | some _=>cases u with
  | none=>exact (show False from r).elim
  | some _=>rfl
theorem RelO.getD {u:Option Value}{d:V}{d':Value}(r:RelO o u)(rd:RelV d d'):RelV (o.getD d) (u.getD d'):=by
 cases o with
 | none=>cases u with
  | none=>exact rd
  | some _=>exact (show False from r).elim
 | some _=>cases u with
  | none=>exact (show False from r).elim
  | some _=>exact r
theorem KV.val {kvs:List (κ×V)}{vs:List (κ×Value)}(r:KV kvs vs)(k:κ):RelO (valV kvs k) (valueAt vs k):=by
 unfold KV at r
 induction r with
 | nil=>exact True.intro
 | @cons p q ps qs h t ih=>
  obtain ⟨h1,h2⟩:=h
  by_cases e:p.1=k
  .have J:q.1=k:=h1.symm.trans e
   have b:valueAt (q::qs) k=some q.2:=by simp [valueAt,yDH,J]
   rw [ZBC e,b];exact h2
  .have J:¬ q.1=k:=λz=>e (h1.trans z)
   have b:valueAt (q::qs) k=valueAt qs k:=by simp [valueAt,yDH,J]
   rw [ZBD e,b];exact ih
theorem KV.any {kvs:List (κ×V)}{vs:List (κ×Value)}(r:KV kvs vs)(k:κ):(kvs.any λJ=>decide (J.1=k))=vs.any λJ=>decide (J.1=k):=by
 unfold KV at r
 induction r with
 | nil=>rfl
 | cons h t ih=>rw [List.any_cons,List.any_cons,ih,h.1]
theorem KV.repl {kvs:List (κ×V)}{vs:List (κ×Value)}(r:KV kvs vs)(k:κ)(O:RelV y u) :
  KV (kvs.map λJ=>if J.1=k then (J.1,y) else J) (vs.map λJ=>if J.1=k then (J.1,u) else J):=by
 unfold KV at r ⊢
 induction r with
 | nil=>exact .nil
 | @cons p q ps qs h t ih=>
  rw [yAZ,yAZ]
  refine .cons ?_ ih
  obtain ⟨h1,h2⟩:=h
  by_cases e:p.1=k
  .rw [if_pos e,if_pos (h1.symm.trans e)];exact ⟨h1,O⟩
  .rw [if_neg e,if_neg (λz=>e (h1.trans z))];exact ⟨h1,h2⟩
theorem KV.put {kvs:List (κ×V)}{vs:List (κ×Value)}(r:KV kvs vs)(k:κ)(J:RelV y u):KV (putK kvs k y) (stored vs k u):=by
 unfold putK stored
 rw [r.any k]
 by_cases e:(vs.any λO=>decide (O.1=k))=true
 .rw [if_pos e,if_pos e];exact r.repl k J
 .rw [if_neg e,if_neg e];exact Paired.snoc r ⟨rfl,J⟩
theorem KV.length {kvs:List (κ×V)}{vs:List (κ×Value)}(r:KV kvs vs):kvs.length=vs.length:=Paired.length r
end
theorem ZFq {k:Key}(r:RelV (kV k) u):(ZAa P w).is k u=true:=by
 cases k with
 | inl i=>obtain ⟨t,e⟩:=(show ∃ t,u=Value.int i t from r);subst e;exact mixKind_int P w i t
 | inr x=>obtain ⟨t,e⟩:=(show ∃ t,u=Value.str x t from r);subst e;exact mixKind_str P w x t
theorem items_are {P:Program}{w:World}:∀ {ks:List Key} {us:List Value},Vals (ks.map kV) us->ItemsAre (ZAa P w) ks us
 | [],_,r=>by rw [List.map_nil] at r;cases r;exact .nil
 | k::ks,_,r=>by
  rw [yAZ] at r
  cases r with
  | cons h t=>exact .cons (ZFq h) (items_are t)
noncomputable abbrev KT (H:Hp):List (List Key×V)->List (List Key×Addr×Value)->Prop:=Paired λp q=>p.1=q.1 /\ H q.2.1=some (.tup (p.1.map kV)) /\ RelV p.2 q.2.2
theorem KT.val {xs:List (List Key×Addr×Value)}(r:KT H kvs xs)(k:List Key):RelO (valV kvs k) ((atKey xs k).map (·.2)):=by
 induction r with
 | nil=>exact True.intro
 | @cons p q ps qs h t ih=>
  obtain ⟨h1,_,h2⟩:=h
  by_cases e:p.1=k
  .have J:q.1=k:=h1.symm.trans e
   have b:atKey (q::qs) k=some q.2:=by simp [atKey,yDH,J]
   rw [ZBC e,b];exact h2
  .have J:¬ q.1=k:=λz=>e (h1.trans z)
   have b:atKey (q::qs) k=atKey qs k:=by simp [atKey,yDH,J]
   rw [ZBD e,b];exact ih
theorem KT.repl {xs:List (List Key×Addr×Value)}(r:KT H kvs xs)(k:List Key)(O:RelV y u) :
  KT H (kvs.map λJ=>if J.1=k then (J.1,y) else J) (xs.map (putAt k u)):=by
 induction r with
 | nil=>exact .nil
 | @cons p q ps qs h t ih=>
  rw [yAZ,yAZ]
  refine .cons ?_ ih
  obtain ⟨h1,h2,h3⟩:=h
  unfold putAt
  by_cases e:p.1=k
  .rw [if_pos e,if_pos (h1.symm.trans e)];exact ⟨h1,h2,O⟩
  .rw [if_neg e,if_neg (λz=>e (h1.trans z))];exact ⟨h1,h2,h3⟩
theorem KT.put {xs:List (List Key×Addr×Value)}(r:KT H kvs xs)(k:List Key)(U:H b=some (.tup (k.map kV)))(J:RelV y u) :
  KT H (putK kvs k y) (storedH xs k b u):=by
 have e:(kvs.any λO=>decide (O.1=k))=(atKey xs k).isSome:=by
  rw [ZCq,(r.val k).isSome_eq,Option.isSome_map]
 unfold putK storedH
 rw [e]
 by_cases q:(atKey xs k).isSome=true
 .rw [if_pos q,if_pos q];exact r.repl k J
 .rw [if_neg q,if_neg q];exact Paired.snoc r ⟨rfl,U,J⟩
theorem KT.keeps {xs:List (List Key×Addr×Value)}(r:KT H kvs xs)(J:∀ b ys,H b=some (.tup ys)->H' b=some (.tup ys)):KT H' kvs xs :=
 Paired.mapP r λ_ _ z=>⟨z.1,J _ _ z.2.1,z.2.2⟩
section
variable {h:Heap}
theorem rd_of {u:HO}(ok:HOk P w H h)(e:Rd H a u):ObjOk P w H h a u:=e.ok ok
theorem ZFt {kvs:List (Key×V)}(ok:HOk P w H h)(e:Rd H a (.dK kvs)):kvs.length <= sizeLine /\ (a == sysModules)=false /\ ∃ vs,KV kvs vs /\ h.DictOf (ZAa P w) a vs :=
 show ObjOk P w H h a (.dK kvs) from rd_of ok e
theorem dk_of {kvs:List (Key×V)}(ok:HOk P w H h)(e:H a=some (.dK kvs)):kvs.length <= sizeLine /\ (a == sysModules)=false /\ ∃ vs,KV kvs vs /\ h.DictOf (ZAa P w) a vs:=ZFt ok (.inl e)
theorem ZEv {ks:List Key}(ok:HOk P w H h)(e:H a=some (.tup (ks.map kV))):(tupleKind (ZAa P w)).is h ks a:=by
 obtain ⟨_,its,r,o,h1,h2,n,h3⟩:=(show ObjOk P w H h a (.tup (ks.map kV)) from ok a _ e)
 exact ⟨o,its.toArray,n,h1,h2,h3,by simpa using items_are r⟩
theorem ZFs (ok:HOk P w H h)(e:Rd H a (.dT kvs)):kvs.length <= sizeLine /\ (a == sysModules)=false /\
  ∃ xs,KT H kvs xs /\ h.DictOfH (tupleKind (ZAa P w)) a xs:=by
 obtain ⟨z,y,xs,r,o,es,U,h1,h2,h3,Y,O⟩:=(show ObjOk P w H h a (.dT kvs) from rd_of ok e)
 refine ⟨z,y,xs,r,o,es,U,h1,h2,h3,Y,λx J=>?_,O⟩
 have all:∀ {l:List (List Key×V)} {m:List (List Key×Addr×Value)},KT H l m->∀ x∈m,(tupleKind (ZAa P w)).is h x.1 x.2.1:=by
  intro l m q
  induction q with
  | nil=>intro x J;exact nomatch J
  | @cons p q ps qs hq t ih=>
   intro x J
   rcases yAI.mp J with e | J
   .subst e
    exact ZEv ok (by rw [<- hq.1];exact hq.2.1)
   .exact ih x J
 exact all r x J
theorem dt_of (ok:HOk P w H h)(e:H a=some (.dT kvs)):kvs.length <= sizeLine /\ (a == sysModules)=false /\
  ∃ xs,KT H kvs xs /\ h.DictOfH (tupleKind (ZAa P w)) a xs:=ZFs ok (.inl e)
end
def DGet (H:Hp)(a:Addr)(y:V)(r:Option V):Prop :=
 (∃ kvs k,Rd H a (.dK kvs) /\ y=kV k /\ r=valV kvs k)∨∃ kvs k b,Rd H a (.dT kvs) /\ y=.ref b /\ H b=some (.tup (k.map kV)) /\ r=valV kvs k
def DPut (H:Hp)(a:Addr)(y v:V)(H':Hp):Prop :=
 (∃ kvs k,H a=some (.dK kvs) /\ y=kV k /\ kvs.length < sizeLine /\ H'=upd H a (.dK (putK kvs k v))) ∨
 ∃ kvs k b,H a=some (.dT kvs) /\ y=.ref b /\ H b=some (.tup (k.map kV)) /\ kvs.length < sizeLine /\ H'=upd H a (.dT (putK kvs k v))
theorem DGet.t {k:List Key}(e:H a=some (.dT kvs))(J:H b=some (.tup (k.map kV))):DGet H a (.ref b) (valV kvs k):=.inr ⟨kvs,k,b,.inl e,rfl,J,rfl⟩
theorem DPut.t {k:List Key}{v:V}(e:H a=some (.dT kvs))(J:H b=some (.tup (k.map kV)))(hl:kvs.length < sizeLine) :
  DPut H a (.ref b) v (upd H a (.dT (putK kvs k v))):=.inr ⟨kvs,k,b,e,rfl,J,hl,rfl⟩
section
variable {pins:List (Addr×Obj)}{s:Shared}{v:V}{r:Value}{A:Around}{E:Value->Shared->Prop}
theorem Inv.big (I:Inv X pins σ H s):sysModules < s.heap.objs.size:=by
 have h:mainGlobals < s.heap.objs.size:=(I.mod.glob.keeps I.bk).lt
 exact Nat.lt_trans (by decide) h
theorem d_getItem {Q:Value->Shared->Prop}(hu:A.units+1 < cLine)(I:Inv X pins σ H s)(g:DGet H a y (some v))(ry:RelV y u)(h:∀ w' s',Inv X pins σ H s'->RelV v w'->Q w' s') :
  wpAny (model X.prog X.w) A (getItem (.ref a) u) Q E s:=by
 rcases g with ⟨kvs,k,e,ey,l⟩ | ⟨kvs,k,b,e,ey,eb,l⟩
 .subst ey
  obtain ⟨z,hd,vs,J,Y⟩:=ZFt I.hok e
  obtain ⟨w',hw,O⟩:=RelO.some_of (v:=v) (o:=valueAt vs k) (by rw [l];exact J.val k)
  exact wpAny_getItem_of (ZFq ry) Y.mapOf hw (h w' _ (I.tok _) O)
 .subst ey
  cases (show u=Value.ref b from ry)
  obtain ⟨z,hd,xs,J,Y⟩:=ZFs I.hok e
  obtain ⟨w',hw,O⟩:=RelO.some_of (v:=v) (o:=(atKey xs k).map (·.2)) (by rw [l];exact J.val k)
  obtain ⟨p,hp,U⟩:=Option.map_eq_some_iff.mp hw
  refine wpAny_getItem_heap (tupleKind_room_in1 hu) (ZEv I.hok eb) Y hp ?_
  rw [U]
  exact h w' _ (I.tok _) O
theorem d_write {t':Nat}{J:HO}(I:Inv X pins σ H s)(mu:Mut (H a))(U:Heap.SameBut a s.heap h')(O:∃ q,h'.get? a=some q)(new:ObjOk X.prog X.w (upd H a J) h' a J) :
  Inv X pins σ (upd H a J) { s with heap:=h',toks:=t' } :=
 I.write (x:=a) (e:=a) mu (.inl rfl) (λb q Y z=>(U.2 b Y).trans z) O new
theorem dk_new {kvs:List (Key×V)}{vs:List (Key×Value)}(z:kvs.length <= sizeLine)(U:(a == sysModules)=false)(J:KV kvs vs)(O:h'.DictOf (ZAa P w) a vs) :
  ObjOk P w H' h' a (.dK kvs):=⟨z,U,vs,J,O⟩
theorem d_setItem {Q:Unit->Shared->Prop}(hu:A.units+1 < cLine)(I:Inv X pins σ H s)(g:DPut H a y v H')(ry:RelV y u)(rv:RelV v r)(h:∀ s',Inv X pins σ H' s'->Q () s') :
  wpAny (model X.prog X.w) A (setItem (.ref a) u r) Q E s:=by
 rcases g with ⟨kvs,k,e,ey,l,eH⟩ | ⟨kvs,k,b,e,ey,eb,l,eH⟩
 .subst ey eH
  obtain ⟨z,hd,vs,J,Y⟩:=dk_of I.hok e
  have hz:vs.length <= sizeLine:=by rw [<- J.length];exact z
  have hl:(putK kvs k v).length <= sizeLine:=by have:=ZCk kvs k v;omega
  refine wpAny_setItem_pairs (hsz:=hz) (ZFq ry) Y λh' O hs=>h _ ?_
  have he:∃ q,h'.get? a=some q:=let ⟨q,_,_,U,_⟩:=O;⟨q,U⟩
  exact d_write I (by rw [e];exact True.intro) hs he (dk_new hl hd (J.put k rv) O)
 .subst ey eH
  cases (show u=Value.ref b from ry)
  obtain ⟨z,hd,xs,J,Y⟩:=dt_of I.hok e
  have hz:xs.length <= sizeLine:=by rw [<- Paired.length J];exact z
  have hl:(putK kvs k v).length <= sizeLine:=by have:=ZCk kvs k v;omega
  refine wpAny_setItem_heap (hsz:=hz) (tupleKind_room_in1 hu) (ZEv I.hok eb) Y λh' O hs=>h _ ?_
  obtain ⟨q,es,ep,U,h2,h3,h4,_,h5⟩:=O
  refine d_write I (by rw [e];exact True.intro) hs ⟨q,U⟩ ⟨hl,hd,_,(J.put k eb rv).keeps λc ys ec=>?_,q,es,ep,U,h2,h3,h4,h5⟩
  rw [ZAJ (ne_of ec e (λz=>nomatch z))]
  exact ec
end
def NoSl (i:Expr):Prop:=∀ ov iv,subscripted i false ov iv=operate [ov,iv] (getItem ov iv)
theorem subD_of {prog:Program}{A:Around}{E:Value->Shared->Prop}{s:Shared}{env:Env}{value J:Expr}{pos:Pos}{T id:String}{Q:Value->Shared->Prop}
  (hl:typeLookup (.type T) "__getitem__"=pure (some (.builtin id))) (hs:NoSl J)
  (h:wpAny (model prog w) A (eval value env) (λo s₁=>wpAny (model prog w) A (eval J env) (λi s₂=>s₂.TypeIs o T /\ wpAny (model prog w) A (getItem o i) Q E s₂) E s₁) E s) :
  wpAny (model prog w) A (eval (.Subscript value J pos) env) Q E s:=by
 refine Subscript_ (wpAny_mono h (λo s₁ Y=>wpAny_mono Y (λi s₂ O=>?_) λ_ _ x=>x) λ_ _ x=>x)
 obtain ⟨hT,O⟩:=O
 unfold subscriptTail
 refine wpAny_bind ?_
 rw [getitemInPython_of_ne hT.not_modules]
 refine wpAny_bind (wpAny_specialOf hT hl ?_)
 have fin:wpAny (model prog w) A (subscripted J false o i) (λr U=>wpAny (model prog w) A (letTemporaryGo value o r >>= λ_=>pure r) Q E U) E s₂:=by
  rw [hs o i]
  exact wpAny_operating (wpAny_mono O (λr U a0=>wpAny_bind (wpAny_letTemporaryGo (wpAny_pure a0))) λ_ _ x=>x)
 first
  | exact wpAny_pure (wpAny_bind fin)
  | exact wpAny_bind (wpAny_pure (wpAny_bind fin))
  | exact wpAny_bind fin
theorem dict_typeIs {pins:List (Addr×Obj)}{s:Shared}(I:Inv X pins σ H s)(g:DGet H a y o):s.TypeIs (.ref a) "dict":=by
 rcases g with ⟨kvs,k,e,_,_⟩ | ⟨kvs,k,b,e,_,_,_⟩
 .obtain ⟨_,_,vs,_,J⟩:=ZFt I.hok e
  exact J.typeIs
 .obtain ⟨_,_,xs,_,J⟩:=ZFs I.hok e
  exact J.typeIs
def tDGet (td ty:TE):TE:=λσ H Q=>td σ H λx H1=>ty σ H1 λy H2=>∃ a v,x=.ref a /\ DGet H2 a y (some v) /\ Q v H2
def tDIn (ty td:TE):TE:=λσ H Q=>ty σ H λy H1=>td σ H1 λx H2=>∃ a o,x=.ref a /\ DGet H2 a y o /\ Q (.bl o.isSome) H2
def tDNotIn (ty td:TE):TE:=λσ H Q=>ty σ H λy H1=>td σ H1 λx H2=>∃ a o,x=.ref a /\ DGet H2 a y o /\ Q (.bl (!o.isSome)) H2
def sDPut (td ty tv:TE):TS:=λD σ H=>tv σ H λv H1=>td σ H1 λx H2=>ty σ H2 λy H3=>∃ a H4,x=.ref a /\ DPut H3 a y v H4 /\ D.nx σ H4
section
variable {o i e value:Expr}{pos pos' tpos:Pos}{td ty tv:TE}
theorem pe_dget (hu:X.A.units+1 < cLine)(ho:PE X o td)(hi:PE X i ty)(hs:NoSl i):PE X (.Subscript o i pos) (tDGet td ty):=by
 intro pins s σ H Q I h
 refine subD_of PySem.F.slot_dict_getitem.lookup hs (thn (ho pins s σ H _ I h) λu s1 ⟨x,H1,U,rx,q1⟩=>thn (hi pins s1 σ H1 _ U q1) λiv s2 ⟨y,H2,O,Y,a,v,ex,g,q2⟩=>?_)
 subst ex
 obtain rfl:u=Value.ref a:=rx
 exact ⟨dict_typeIs O g,d_getItem hu O g Y λw' s3 I3 J=>⟨v,H2,I3,J,q2⟩⟩
theorem ZEY (hu:X.A.units+1 < cLine)(ho:PE X o td)(hi:PE X i ty)(hv:PE X value tv)(hs:swapsWith value (some (.Subscript o i pos')) pos.line X.env=pure false) :
  PS X (.Assign [.Subscript o i pos'] value pos) (sDPut td ty tv):=by
 intro pins s σ H D I h
 refine wpAny_Assign_Subscript (thn (hv pins s σ H _ I h) λr s1 ⟨v,H1,J,rv,q1⟩=>thn (ho pins s1 σ H1 _ J q1) λu s2 ⟨x,H2,I2,rx,q2⟩=>thn (hi pins s2 σ H2 _ I2 q2) λiv s3 ⟨y,H3,Y,O,a,H4,ex,g,q3⟩=>?_) hs
 subst ex
 obtain rfl:u=Value.ref a:=rx
 exact d_setItem hu Y g O rv λs4 U=>⟨σ,H4,U,q3⟩
end
theorem dt_empty (h:Heap)(J:sysModules < h.objs.size):ObjOk P w H (h.push { cls:=.type "dict",data:=.dict #[] }) h.objs.size (.dT []) :=
 ⟨yAJ _,beq_eq_false_iff_ne.mpr (Ne.symm (yAQ J)),[],.nil,_,#[],0,Heap.get?_push_size _ rfl,⟨rfl,rfl,rfl⟩,rfl,rfl,List.nodup_nil⟩
def tDNewT:TE:=λ_ H Q=>∀ p,H p=none->Q (.ref p) (upd H p (.dT []))
section
variable {pos:Pos}
theorem pe_dnewT:PE X (.Dict [] [] pos) tDNewT:=λpins s σ H Q I h=>
 wpAny_Dict_empty ⟨.ref s.heap.objs.size,_,I.laid (a:=s.heap.objs.size) (o:=.dT []) (t':=s.toks) (λ_ _ q=>Heap.get?_push_of_some _ q) (yAB _) (dt_empty s.heap I.big),rfl,h _ (I.hok.fresh (yAB _))⟩
end
inductive rDGet:V->List V->Hp->VK->Prop
 | mk (a y o:_):x_=.ref a->M=[y]->DGet Z a y o->N (o.getD .non) Z->rDGet x_ M Z N
theorem mt_dget (hu:X.A.units+1 < cLine):MtR X "dict.get" rDGet:=by
 intro pins s σ H x vs v us Q I rx rv h
 obtain ⟨a,y,o,rfl,rfl,g,q⟩:=h
 cases rx
 obtain ⟨u,rfl,ry⟩:=rv.one
 rcases g with ⟨kvs,k,e,U,l⟩ | ⟨kvs,k,b,e,U,eb,l⟩
 .subst U
  obtain ⟨z,Y,vs,J,O⟩:=ZFt I.hok e
  refine call_meetsIn PySem.F.slot_dict_get O.typeIs PySem.F.entry_dict_get (PySem.F.args_dict_get_2 _ _) (meets_dict_get (ZAa X.prog X.w) a (ZFq ry) Y) ⟨_,O.mapOf,?_⟩
  subst l
  exact ⟨_,H,I.tok _,(J.val k).getD (d:=.non) (d':=.none) rfl,q⟩
 .subst U
  cases (show u=Value.ref b from ry)
  obtain ⟨z,Y,xs,J,O⟩:=ZFs I.hok e
  refine call_meetsIn PySem.F.slot_dict_get O.typeIs PySem.F.entry_dict_get (PySem.F.args_dict_get_2 _ _) (meetsH_dict_get (tupleKind (ZAa X.prog X.w)) a b Y) ⟨tupleKind_room_in1 hu,k,xs,ZEv I.hok eb,O,?_⟩
  subst l
  exact ⟨_,H,I.tok _,(J.val k).getD (d:=.non) (d':=.none) rfl,q⟩
theorem key_mono {h:Heap}{ks:List Key}(m:∀ b o,h.get? b=some o->h'.get? b=some o)(k:(tupleKind (ZAa P w)).is h ks a):(tupleKind (ZAa P w)).is h' ks a:=by
 obtain ⟨o,its,n,h1,r⟩:=k
 exact ⟨o,its,n,m _ _ h1,r⟩
end L2
namespace L2S
open PySem PyProof.Rows
variable {x:Keyed}{a a₀ xs ys:Array Keyed}{U α:Type}{l:List PT}{J base i j lo nrem v w:Nat}{f:Keyed->Int}{vs:List Value}
noncomputable def kn (f:Keyed->Int)(xs:Array Keyed)(i:Nat):Int:=((xs[i]?).map f).getD 0
theorem ZA2 (h:xs[i]?=ys[j]?):kn f xs i=kn f ys j:=by unfold kn;rw [h]
structure Asks (M:Model)(A:Around)(E:Value->Shared->Prop)(s:Shared)(κ:SortKind)(a₀:Array Keyed)(f:Keyed->Int):Prop where
 lt:∀ x y,x∈a₀.toList->y∈a₀.toList->∀ (st:SortSt) (Q:Option Bool->SortSt->Prop),kindOf st=κ->Q (some (decide (f x < f y))) st->wpS M A E s (lt' x y) Q st
structure SB (κ:SortKind)(a₀:Array Keyed)(st:SortSt):Prop where
 perm:(arrOf st).Perm a₀
 kind:kindOf st=κ
 fail:failedOf st=none
theorem SB.size {κ:SortKind}{st:SortSt}(h:SB κ a₀ st):(arrOf st).size=a₀.size:=h.perm.size_eq
theorem SB.arr {κ:SortKind}{st:SortSt}(h:SB κ a₀ st)(J:xs.Perm (arrOf st)):SB κ a₀ (setArr st xs):=⟨J.trans h.perm,h.kind,h.fail⟩
theorem SB.get {κ:SortKind}{st:SortSt}(h:SB κ a₀ st)(hi:i < a₀.size):∃ x,(arrOf st)[i]?=some x /\ x∈a₀.toList /\ kn f (arrOf st) i=f x:=by
 have J:i < (arrOf st).size:=by rw [h.size];exact hi
 refine ⟨(arrOf st)[i],getElem?_pos _ i J,(Array.perm_iff_toList_perm.mp h.perm).mem_iff.mp (by simp),?_⟩
 unfold kn
 rw [getElem?_pos _ i J]
 rfl
def Up (f:Keyed->Int)(xs:Array Keyed)(lo n:Nat):Prop:=∀ i j,lo <= i->i <= j->j < lo+n->kn f xs i <= kn f xs j
def Down (f:Keyed->Int)(xs:Array Keyed)(lo n:Nat):Prop:=∀ i j,lo <= i->i <= j->j < lo+n->kn f xs j <= kn f xs i
def Kept (lo:Nat)(xs ys:Array Keyed):Prop:=∀ i,i < lo->ys[i]?=xs[i]?
theorem Kept.refl:Kept lo xs xs:=λ_ _=>rfl
theorem Kept.trans {zs:Array Keyed}(a:Kept lo xs ys)(b:Kept lo ys zs):Kept lo xs zs:=λi h=>(b i h).trans (a i h)
theorem ZDY (J:j <= xs.size)(k:Nat):kn f (mirror xs i j ((j-i) / 2)) k=if i <= k /\ k < j then kn f xs (i+j-1-k) else kn f xs k:=by
 have e:=getElem?_mirror_all (i:=i) J k
 split
 .rename_i h;rw [if_pos h] at e;exact ZA2 e
 .rename_i h;rw [if_neg h] at e;exact ZA2 e
theorem ZB6 (J:j <= xs.size)(hi:lo <= i):Kept lo xs (mirror xs i j ((j-i) / 2)):=λk O=>by
 rw [getElem?_mirror_all J k,if_neg (by omega)]
theorem ZDX (O:j <= xs.size)(J:∀ k,i <= k->k < j->kn f xs k=kn f xs (j-1))(k:Nat):kn f (mirror xs i j ((j-i) / 2)) k=kn f xs k:=by
 rw [ZDY O]
 split
 .rename_i h;rw [J _ (by omega) (by omega),J k h.1 h.2]
 .rfl
section
variable {M:Model}{A:Around}{E:Value->Shared->Prop}{s:Shared}{κ:SortKind}
theorem ZEQ {st:SortSt}{Q:Option Bool->SortSt->Prop}(L:Asks M A E s κ a₀ f)(J:SB κ a₀ st)(hi:i < a₀.size)(hj:j < a₀.size)
  (h:Q (some (decide (kn f (arrOf st) i < kn f (arrOf st) j))) st):wpS M A E s (ltAt' i j) Q st:=by
 obtain ⟨x,U,m1,k1⟩:=J.get (f:=f) hi
 obtain ⟨y,O,m2,Y⟩:=J.get (f:=f) hj
 rw [ltAt'_eq]
 refine wpS_bind (wpS_get ?_)
 show wpS _ _ _ _ (elem' (arrOf st) i >>= λx=>elem' (arrOf st) j >>= λy=>lt' x y) Q st
 rw [elem'_eq,elem'_eq,U,O]
 refine wpS_bind (wpS_pure (wpS_bind (wpS_pure (L.lt x y m1 m2 st Q J.kind ?_))))
 rw [<- k1,<- Y]
 exact h
theorem ZEp {st:SortSt}{Q:Unit->SortSt->Prop}(h:Q () (setArr st (mirror (arrOf st) i j ((j-i) / 2)))):wpS M A E s (reverseSlice' i j) Q st:=by
 rw [reverseSlice'_eq]
 exact wpS_modify h
noncomputable def ZCR (lo a nrem:Nat):StateT SortSt Sem AscSt :=
 forIn [a:nrem] ((none,a):AscSt) λ_ c=>do
  let r <- ltAt' (lo+c.snd) (lo+c.snd-1)
  match r with
  | some b=>if b=true then pure (ForInStep.done (none,c.snd)) else pure (ForInStep.yield (none,c.snd+1))
  | _=>pure (ForInStep.done (some none,c.snd))
noncomputable def ZET (lo n nrem:Nat):StateT SortSt Sem (Option Nat):=do
 reverseSlice' lo (lo+n)
 let c <- ZCR lo n nrem
 match c.fst with
 | some r=>pure r
 | none=>pure (some c.snd)
noncomputable def ZCQ (lo n nrem:Nat):StateT SortSt Sem DescSt :=
 forIn [n:nrem] ((none,n,0):DescSt) λ_ c=>do
  let r <- ltAt' (lo+c.snd.fst) (lo+c.snd.fst-1)
  match r with
  | some b=>
   if b=true then
    if c.snd.snd > 0 then do
     reverseSlice' (lo+c.snd.fst-(c.snd.snd+1)) (lo+c.snd.fst)
     pure (ForInStep.yield (none,c.snd.fst+1,0))
    else pure (ForInStep.yield (none,c.snd.fst+1,0))
   else do
    let r2 <- ltAt' (lo+c.snd.fst-1) (lo+c.snd.fst)
    match r2 with
    | some b2=>
     if b2=true then pure (ForInStep.done (none,c.snd.fst,c.snd.snd))
     else pure (ForInStep.yield (none,c.snd.fst+1,c.snd.snd+1))
    | _=>pure (ForInStep.done (some none,c.snd.fst,c.snd.snd))
  | _=>pure (ForInStep.done (some none,c.snd.fst,c.snd.snd))
noncomputable def ZCz (lo n nrem:Nat):StateT SortSt Sem (Option Nat):=do
 liftM (rule "list.sort.descending-run")
 let c <- ZCQ lo (n+1) nrem
 match c.fst with
 | some r=>pure r
 | none=>
  if c.snd.snd > 0 then do
   reverseSlice' (lo+c.snd.fst-(c.snd.snd+1)) (lo+c.snd.fst)
   ZET lo c.snd.fst nrem
  else ZET lo c.snd.fst nrem
theorem bnd (m:StateT SortSt Sem α){g h:α->StateT SortSt Sem U}(e:∀ a,g a=h a):(m >>= g)=(m >>= h):=by rw [show g=h from funext e]
theorem count_eq (lo nrem:Nat):countRun' lo nrem=(do
  let c <- ZCR lo 1 nrem
  match c.fst with
  | some r=>pure r
  | none=>
   if (c.snd == nrem)=true then pure (some c.snd)
   else if c.snd > 1 then do
    let r <- ltAt' lo (lo+c.snd-1)
    match r with
    | some b=>if b=true then pure (some c.snd) else do
      reverseSlice' lo (lo+c.snd)
      ZCz lo c.snd nrem
    | _=>pure none
   else ZCz lo c.snd nrem):=by
 have tl:∀ n2:Nat,ZET lo n2 nrem=(reverseSlice' lo (lo+n2) >>= λ_=>ZCR lo n2 nrem >>= λc=>match c.fst with | some r=>pure r | none=>pure (some c.snd)):=λ_=>rfl
 rw [countRun'_eq]
 refine bnd (ZCR lo 1 nrem) λc=>?_
 obtain ⟨r,n⟩:=c
 cases r with
 | some r=>rfl
 | none=>
  have dn:∀ n1:Nat,(liftM (rule "list.sort.descending-run") >>= λ_=>ZCQ lo (n1+1) nrem >>= λc=>match c.fst with
    | some r=>pure r
    | none=>if c.snd.snd > 0 then (reverseSlice' (lo+c.snd.fst-(c.snd.snd+1)) (lo+c.snd.fst) >>= λ_=>ZET lo c.snd.fst nrem) else ZET lo c.snd.fst nrem)=ZCz lo n1 nrem:=λ_=>rfl
  dsimp only
  split
  .rfl
  .split
   .refine bnd (ltAt' lo (lo+n-1)) λx=>?_
    cases x with
    | none=>rfl
    | some rose=>
     dsimp only
     split
     .rfl
     .refine bnd _ λ_=>?_
      rw [<- dn]
      refine bnd _ λ_=>bnd (ZCQ lo (n+1) nrem) λs2=>?_
      obtain ⟨U,n2,q2⟩:=s2
      cases U with
      | some U=>rfl
      | none=>
       dsimp only
       split
       .refine bnd _ λ_=>?_
        rw [tl]
        refine bnd _ λ_=>bnd (ZCR lo n2 nrem) λO=>?_
        obtain ⟨J,Y⟩:=O
        cases J <;> rfl
       .rw [tl]
        refine bnd _ λ_=>bnd (ZCR lo n2 nrem) λO=>?_
        obtain ⟨J,Y⟩:=O
        cases J <;> rfl
   .rw [<- dn]
    refine bnd _ λ_=>bnd (ZCQ lo (n+1) nrem) λs2=>?_
    obtain ⟨U,n2,q2⟩:=s2
    cases U with
    | some U=>rfl
    | none=>
     dsimp only
     split
     .refine bnd _ λ_=>?_
      rw [tl]
      refine bnd _ λ_=>bnd (ZCR lo n2 nrem) λO=>?_
      obtain ⟨J,Y⟩:=O
      cases J <;> rfl
     .rw [tl]
      refine bnd _ λ_=>bnd (ZCR lo n2 nrem) λO=>?_
      obtain ⟨J,Y⟩:=O
      cases J <;> rfl
theorem up_one:Up f xs lo 1:=λi j h1 h2 h3=>by rw [show i=j by omega];exact Int.le_refl _
theorem up_loop {st:SortSt}{a:Nat}{Q:AscSt->SortSt->Prop}(L:Asks M A E s κ a₀ f)(hn:lo+nrem <= a₀.size)(ha:1 <= a)(O:a <= nrem)(hB:SB κ a₀ st)(Y:Up f (arrOf st) lo a)
  (h:∀ n,a <= n->n <= nrem->Up f (arrOf st) lo n->(n=nrem∨kn f (arrOf st) (lo+n) < kn f (arrOf st) (lo+n-1))->Q (none,n) st):wpS M A E s (ZCR lo a nrem) Q st:=by
 unfold ZCR
 refine wpS_forRange (I:=λx c st'=>st'=st /\ c=(none,x) /\ Up f (arrOf st) lo x) ?_ ?_ ⟨rfl,rfl,Y⟩
 .rintro x c st' U a0 ⟨rfl,rfl,J⟩
  dsimp only
  refine wpS_bind (ZEQ L hB (by omega) (by omega) ?_)
  by_cases hl:kn f (arrOf st') (lo+x) < kn f (arrOf st') (lo+x-1)
  .rw [decide_eq_true hl]
   exact wpS_pure (h x U (by omega) J (.inr hl))
  .rw [decide_eq_false hl]
   refine wpS_pure ⟨rfl,rfl,λi j h1 h2 h3=>?_⟩
   by_cases hj:j < lo+x
   .exact J i j h1 h2 hj
   .by_cases hi:i=j
    .rw [hi];exact Int.le_refl _
    .have e1:=J i (lo+x-1) h1 (by omega) (by omega)
     rw [show j=lo+x by omega]
     omega
 .rintro c st' ⟨rfl,rfl,J⟩
  rw [Nat.max_eq_right O] at J ⊢
  exact h nrem O (yAB _) J (.inl rfl)
noncomputable abbrev ZFh (κ:SortKind)(a₀:Array Keyed)(f:Keyed->Int)(lo nrem:Nat)(xs:Array Keyed)(pd:Array (Nat×Nat×Nat))(Q:Option Nat->SortSt->Prop):Prop :=
 ∀ m st',SB κ a₀ st'->1 <= m->m <= nrem->Up f (arrOf st') lo m->Kept lo xs (arrOf st')->pendingOf st'=pd->Q (some m) st'
theorem tail_l {st:SortSt}{n:Nat}{pd:Array (Nat×Nat×Nat)}{Q:Option Nat->SortSt->Prop}(L:Asks M A E s κ a₀ f)(hn:lo+nrem <= a₀.size)(h1:1 <= n)(Y:n <= nrem)(hB:SB κ a₀ st)
  (hs:Down f (arrOf st) lo n) (hk:Kept lo xs (arrOf st)) (hp:pendingOf st=pd) (h:ZFh κ a₀ f lo nrem xs pd Q):wpS M A E s (ZET lo n nrem) Q st:=by
 unfold ZET
 have hsz:lo+n <= (arrOf st).size:=by rw [hB.size];omega
 refine wpS_bind (ZEp ?_)
 have J:SB κ a₀ (setArr st (mirror (arrOf st) lo (lo+n) ((lo+n-lo) / 2))):=hB.arr (mirror_perm _ _ _ _)
 have U:Kept lo xs (mirror (arrOf st) lo (lo+n) ((lo+n-lo) / 2)):=hk.trans (ZB6 hsz (yAB _))
 refine wpS_bind (up_loop L hn h1 Y J (λi j z1 z2 z3=>?_) λm a1 a0 O _=>wpS_pure (h m _ J (by omega) a0 O U hp))
 show kn f (mirror (arrOf st) lo (lo+n) _) i <= kn f (mirror (arrOf st) lo (lo+n) _) j
 rw [ZDY hsz,ZDY hsz,if_pos (by omega),if_pos (by omega)]
 exact hs _ _ (by omega) (by omega) (by omega)
theorem down_loop {st:SortSt}{n:Nat}{pd:Array (Nat×Nat×Nat)}{Q:DescSt->SortSt->Prop}(L:Asks M A E s κ a₀ f)(hn:lo+nrem <= a₀.size)(h1:1 <= n)(a0:n <= nrem)(hB:SB κ a₀ st)
  (hs:Down f (arrOf st) lo n) (hk:Kept lo xs (arrOf st)) (hp:pendingOf st=pd)
  (h:∀ m q st',SB κ a₀ st'->n <= m->m <= nrem->Down f (arrOf st') lo m->q+1 <= m->(∀ i,lo+m-(q+1) <= i->i < lo+m->kn f (arrOf st') i=kn f (arrOf st') (lo+m-1))->Kept lo xs (arrOf st')->pendingOf st'=pd->Q (none,m,q) st') :
  wpS M A E s (ZCQ lo n nrem) Q st:=by
 unfold ZCQ
 refine wpS_forRange (I:=λx c st'=>∃ q,c=(none,x,q) /\ SB κ a₀ st' /\ Down f (arrOf st') lo x /\ q+1 <= x /\ (∀ i,lo+x-(q+1) <= i->i < lo+x->kn f (arrOf st') i=kn f (arrOf st') (lo+x-1)) /\ Kept lo xs (arrOf st') /\ pendingOf st'=pd) ?_ ?_
  ⟨0,rfl,hB,hs,by omega,λi z1 z2=>by rw [show i=lo+n-1 by omega],hk,hp⟩
 .rintro x c st' a1 a2 ⟨q,rfl,J,O,hq,he,Y,U⟩
  dsimp only
  have hsz:lo+x <= (arrOf st').size:=by rw [J.size];omega
  refine wpS_bind (ZEQ L J (by omega) (by omega) ?_)
  by_cases hl:kn f (arrOf st') (lo+x) < kn f (arrOf st') (lo+x-1)
  .rw [decide_eq_true hl]
   have more:∀ ys:Array Keyed,(∀ k,kn f ys k=kn f (arrOf st') k)->Down f ys lo (x+1):=λys hy i j z1 z2 z3=>by
    rw [hy,hy]
    by_cases hj:j < lo+x
    .exact O i j z1 z2 hj
    .by_cases hi:i=j
     .rw [hi];exact Int.le_refl _
     .have e1:=O i (lo+x-1) z1 (by omega) (by omega)
      rw [show j=lo+x by omega]
      omega
   dsimp only
   rw [if_pos rfl]
   by_cases hq0:q > 0
   .rw [if_pos hq0]
    refine wpS_bind (ZEp (wpS_pure ⟨0,rfl,J.arr (mirror_perm _ _ _ _),more _ (ZDX hsz he),by omega,λi z1 z2=>by rw [show i=lo+(x+1)-1 by omega],Y.trans (ZB6 hsz (by omega)),U⟩))
   .rw [if_neg hq0]
    exact wpS_pure ⟨0,rfl,J,more _ (λ_=>rfl),by omega,λi z1 z2=>by rw [show i=lo+(x+1)-1 by omega],Y,U⟩
  .rw [decide_eq_false hl]
   dsimp only
   rw [if_neg (by decide)]
   refine wpS_bind (ZEQ L J (by omega) (by omega) ?_)
   by_cases hg:kn f (arrOf st') (lo+x-1) < kn f (arrOf st') (lo+x)
   .rw [decide_eq_true hg]
    exact wpS_pure (h x q st' J a1 (by omega) O hq he Y U)
   .rw [decide_eq_false hg]
    have ex:kn f (arrOf st') (lo+x)=kn f (arrOf st') (lo+x-1):=by omega
    refine wpS_pure ⟨q+1,rfl,J,λi j z1 z2 z3=>?_,by omega,λi z1 z2=>?_,Y,U⟩
    .by_cases hj:j < lo+x
     .exact O i j z1 z2 hj
     .by_cases hi:i=j
      .rw [hi];exact Int.le_refl _
      .have e1:=O i (lo+x-1) z1 (by omega) (by omega)
       rw [show j=lo+x by omega]
       omega
    .rw [show lo+(x+1)-1=lo+x by omega]
     by_cases hi:i=lo+x
     .rw [hi]
     .rw [ex];exact he i (by omega) (by omega)
 .rintro c st' ⟨q,rfl,J,O,hq,he,Y,U⟩
  rw [Nat.max_eq_right a0] at O hq he ⊢
  exact h nrem q st' J a0 (yAB _) O hq he Y U
theorem down_part {st:SortSt}{n:Nat}{pd:Array (Nat×Nat×Nat)}{Q:Option Nat->SortSt->Prop}(L:Asks M A E s κ a₀ f)(hn:lo+nrem <= a₀.size)(a1:n+1 <= nrem)(hB:SB κ a₀ st)
  (hs:Down f (arrOf st) lo (n+1)) (hk:Kept lo xs (arrOf st)) (hp:pendingOf st=pd) (h:ZFh κ a₀ f lo nrem xs pd Q):wpS M A E s (ZCz lo n nrem) Q st:=by
 unfold ZCz
 refine wpS_bind (wpS_lift (wpAny_rule ⟨rfl,?_⟩))
 refine wpS_bind (down_loop L hn (by omega) a1 hB hs hk hp λm q st' J a2 a0 U hq he Y O=>?_)
 dsimp only
 have hsz:lo+m <= (arrOf st').size:=by rw [J.size];omega
 by_cases hq0:q > 0
 .rw [if_pos hq0]
  refine wpS_bind (ZEp (tail_l L hn (by omega) a0 (J.arr (mirror_perm _ _ _ _)) (λi j z1 z2 z3=>?_) (Y.trans (ZB6 hsz (by omega))) O h))
  show kn f (mirror (arrOf st') _ _ _) j <= kn f (mirror (arrOf st') _ _ _) i
  rw [ZDX hsz he,ZDX hsz he]
  exact U i j z1 z2 z3
 .rw [if_neg hq0]
  exact tail_l L hn (by omega) a0 J U Y O h
theorem count_run {st:SortSt}{Q:Option Nat->SortSt->Prop}(L:Asks M A E s κ a₀ f)(hn:lo+nrem <= a₀.size)(h1:1 <= nrem)(U:SB κ a₀ st)
  (h:ZFh κ a₀ f lo nrem (arrOf st) (pendingOf st) Q):wpS M A E s (countRun' lo nrem) Q st:=by
 rw [count_eq]
 refine wpS_bind (up_loop L hn (yAB 1) h1 U up_one λn a4 Y O a5=>?_)
 dsimp only
 by_cases hnn:n=nrem
 .rw [if_pos (by simpa using hnn)]
  exact wpS_pure (h n st U a4 Y O .refl rfl)
 rw [if_neg (by simpa using hnn)]
 have a0:=a5.resolve_left hnn
 by_cases hgt:n > 1
 .rw [if_pos hgt]
  refine wpS_bind (ZEQ L U (by omega) (by omega) ?_)
  by_cases hr:kn f (arrOf st) lo < kn f (arrOf st) (lo+n-1)
  .rw [decide_eq_true hr]
   exact wpS_pure (h n st U a4 Y O .refl rfl)
  rw [decide_eq_false hr]
  dsimp only
  rw [if_neg (by decide)]
  have hsz:lo+n <= (arrOf st).size:=by rw [U.size];omega
  have J:∀ k,lo <= k->k < lo+n->kn f (arrOf st) k=kn f (arrOf st) (lo+n-1):=λk k1 k2=>by
   have a1:=O lo k (yAB _) k1 k2
   have a2:=O k (lo+n-1) k1 (by omega) (by omega)
   omega
  refine wpS_bind (ZEp (down_part L hn (by omega) (U.arr (mirror_perm _ _ _ _)) (λi j z1 z2 z3=>?_) (ZB6 hsz (yAB _)) rfl h))
  show kn f (mirror (arrOf st) _ _ _) j <= kn f (mirror (arrOf st) _ _ _) i
  rw [ZDX hsz J,ZDX hsz J]
  by_cases hj:j < lo+n
  .rw [J i z1 (by omega),J j (by omega) hj];exact Int.le_refl _
  .by_cases hi:i=j
   .rw [hi];exact Int.le_refl _
   .rw [J i z1 (by omega),show j=lo+n by omega];exact Int.le_of_lt a0
 .rw [if_neg hgt]
  have a3:n=1:=by omega
  subst a3
  refine down_part L hn (by omega) U (λi j z1 z2 z3=>?_) .refl rfl h
  by_cases hi:i=j
  .rw [hi];exact Int.le_refl _
  .have e1:i=lo:=by omega
   have e2:j=lo+1:=by omega
   subst e1 e2
   exact Int.le_of_lt a0
theorem kn_bubble {d:Nat}(O:J < xs.size)(U:d <= J)(k:Nat):kn f (bubble xs J d) k=if k=J-d then kn f xs J else if J-d < k /\ k <= J then kn f xs (k-1) else kn f xs k:=by
 have e:=getElem?_bubble O d U k
 split
 .rename_i h;rw [if_pos h] at e;exact ZA2 e
 .rename_i h
  rw [if_neg h] at e
  split
  .rename_i h2;rw [if_pos h2] at e;exact ZA2 e
  .rename_i h2;rw [if_neg h2] at e;exact ZA2 e
theorem kept_bubble {d:Nat}(O:J < xs.size)(Y:lo+d <= J):Kept lo xs (bubble xs J d):=λk U=>by
 rw [getElem?_bubble O d (by omega) k,if_neg (by omega),if_neg (by omega)]
theorem bin_sort {st:SortSt}{n:Nat}{Q:Bool->SortSt->Prop}(L:Asks M A E s κ a₀ f)(hn:lo+n <= a₀.size)(ab:w <= n)(hB:SB κ a₀ st)(hs:Up f (arrOf st) lo w)
  (h:∀ st',SB κ a₀ st'->Up f (arrOf st') lo n->Kept lo (arrOf st) (arrOf st')->pendingOf st'=pendingOf st->Q true st'):wpS M A E s (binarySort' lo n w) Q st:=by
 rw [binarySort'_eq]
 refine wpS_bind (wpS_mono (wpS_forRange (I:=λk c st'=>c=(none,()) /\ SB κ a₀ st' /\ Up f (arrOf st') lo (min k n) /\ Kept lo (arrOf st) (arrOf st') /\ pendingOf st'=pendingOf st)
  (Q:=λc st'=>c=(none,()) /\ SB κ a₀ st' /\ Up f (arrOf st') lo n /\ Kept lo (arrOf st) (arrOf st') /\ pendingOf st'=pendingOf st) ?_ ?_ ?_) ?_)
 .rintro k c st' a8 a9 ⟨rfl,O,J,a1,a0⟩
  rw [show min k n=k by omega] at J
  have hk:lo+k < a₀.size:=by omega
  refine wpS_bind (wpS_mono (wpS_forRange (I:=λx c st2=>st2=st' /\ ∃ l r,c=(none,l,r) /\ l <= r /\ r <= k /\ r-l <= k-x /\
    (∀ i,i < l->kn f (arrOf st') (lo+i) <= kn f (arrOf st') (lo+k)) /\ (∀ i,r <= i->i < k->kn f (arrOf st') (lo+k) < kn f (arrOf st') (lo+i)))
   (Q:=λc st2=>st2=st' /\ ∃ l r,c=(none,l,r) /\ l <= k /\ (∀ i,i < l->kn f (arrOf st') (lo+i) <= kn f (arrOf st') (lo+k)) /\ (∀ i,l <= i->i < k->kn f (arrOf st') (lo+k) < kn f (arrOf st') (lo+i))) ?_ ?_ ?_) ?_)
  .rintro x c st2 _ aa ⟨rfl,l,r,rfl,a5,a2,hm,Y,U⟩
   dsimp only
   by_cases hge:l≥r
   .rw [if_pos hge]
    have:l=r:=by omega
    subst this
    exact wpS_pure ⟨rfl,l,l,rfl,a2,Y,U⟩
   rw [if_neg hge]
   refine wpS_bind (ZEQ L O hk (by omega) ?_)
   by_cases hl:kn f (arrOf st2) (lo+k) < kn f (arrOf st2) (lo+(l+r) / 2)
   .rw [decide_eq_true hl]
    refine wpS_pure ⟨rfl,l,(l+r) / 2,rfl,by omega,by omega,by omega,Y,λi z1 z2=>?_⟩
    exact Int.lt_of_lt_of_le hl (J _ _ (by omega) (by omega) (by omega))
   .rw [decide_eq_false hl]
    refine wpS_pure ⟨rfl,(l+r) / 2+1,r,rfl,by omega,by omega,by omega,λi z1=>?_,U⟩
    have e1:=J (lo+i) (lo+(l+r) / 2) (by omega) (by omega) (by omega)
    omega
  .rintro c st2 ⟨rfl,l,r,rfl,a5,a2,hm,Y,U⟩
   have:l=r:=by omega
   subst this
   exact ⟨rfl,l,l,rfl,a2,Y,U⟩
  .exact ⟨rfl,0,k,rfl,by omega,by omega,by omega,λi hi=>by omega,λi z1 z2=>by omega⟩
  .rintro c st2 ⟨rfl,l,r,rfl,ac,Y,U⟩
   show wpS _ _ _ _ (moveDown' (lo+k) (lo+l) >>= λ_=>pure (ForInStep.yield (none,()))) _ _
   rw [moveDown'_eq,show lo+k-(lo+l)=k-l by omega]
   have a4:lo+k < (arrOf st2).size:=by rw [O.size];exact hk
   refine wpS_bind (wpS_modify (wpS_pure ⟨rfl,O.arr (bubble_perm _ _ _),?_,a1.trans (kept_bubble a4 (by omega)),a0⟩))
   rw [show min (k+1) n=k+1 by omega]
   intro i j z1 z2 z3
   show kn f (bubble (arrOf st2) (lo+k) (k-l)) i <= kn f (bubble (arrOf st2) (lo+k) (k-l)) j
   have a3:∀ m,lo <= m->m < lo+k+1->kn f (bubble (arrOf st2) (lo+k) (k-l)) m=if m < lo+l then kn f (arrOf st2) m else if m=lo+l then kn f (arrOf st2) (lo+k) else kn f (arrOf st2) (m-1):=λm m1 m2=>by
    rw [kn_bubble a4 (by omega)]
    by_cases c1:m < lo+l
    .rw [if_pos c1,if_neg (by omega),if_neg (by omega)]
    .rw [if_neg c1]
     by_cases c2:m=lo+l
     .rw [if_pos c2,if_pos (by omega)]
     .rw [if_neg c2,if_neg (by omega),if_pos (by omega)]
   rw [a3 i z1 (by omega),a3 j (by omega) (by omega)]
   have a6:∀ m,lo <= m->m < lo+l->kn f (arrOf st2) m <= kn f (arrOf st2) (lo+k):=λm m1 m2=>by
    have:=Y (m-lo) (by omega)
    rw [show lo+(m-lo)=m by omega] at this
    exact this
   have a7:∀ m,lo+l <= m->m < lo+k->kn f (arrOf st2) (lo+k) < kn f (arrOf st2) m:=λm m1 m2=>by
    have:=U (m-lo) (by omega) (by omega)
    rw [show lo+(m-lo)=m by omega] at this
    exact this
   by_cases c1:j < lo+l
   .rw [if_pos c1,if_pos (by omega)]
    exact J i j z1 z2 (by omega)
   rw [if_neg c1]
   by_cases c2:j=lo+l
   .rw [if_pos c2]
    by_cases c3:i < lo+l
    .rw [if_pos c3];exact a6 i z1 c3
    .rw [if_neg c3,if_pos (by omega)];exact Int.le_refl _
   .rw [if_neg c2]
    by_cases c3:i < lo+l
    .rw [if_pos c3];exact J i (j-1) z1 (by omega) (by omega)
    .rw [if_neg c3]
     by_cases c4:i=lo+l
     .rw [if_pos c4];exact Int.le_of_lt (a7 (j-1) (by omega) (by omega))
     .rw [if_neg c4];exact J (i-1) (j-1) (by omega) (by omega) (by omega)
 .rintro c st' ⟨hc,O,J,a1,a0⟩
  rw [show min (max (max w 1) n) n=n by omega] at J
  exact ⟨hc,O,J,a1,a0⟩
 .refine ⟨rfl,hB,λi j z1 z2 z3=>?_,.refl,rfl⟩
  by_cases h1:w=0
  .rw [show i=j by omega];exact Int.le_refl _
  .exact hs i j z1 z2 (by omega)
 .rintro c st' ⟨rfl,O,J,a1,a0⟩
  exact wpS_pure (h st' O J a1 a0)
end
noncomputable def gal:Bool->Keyed->Array Keyed->Nat->Nat->Nat->StateT SortSt Sem (Option Nat):=sortPriv% PySem.Builtin.gallop
noncomputable def past (left:Bool)(key:Keyed)(arr:Array Keyed)(base i:Nat):StateT SortSt Sem (Option Bool):=do
 let y <- elem' arr (base+i)
 if left then lt' y key else return (<- lt' key y).map (!·)
theorem gal_eq (left:Bool)(O:Keyed)(arr:Array Keyed)(base n J:Nat):gal left O arr base n J=(do
 let mut o1:=0
 let mut o2:=1
 let mut p1:=0
 let mut p2:=0
 let some b0 <- past left O arr base J | return none
 if b0 then
  let mx:=n-J
  for _ in [0:n] do
   if o2≥mx then break
   let some b <- past left O arr base (J+o2) | return none
   if !b then break
   o1:=o2
   o2:=2 * o2+1
  p1:=J+o1+1
  p2:=J+min o2 mx
 else
  let mx:=J+1
  for _ in [0:n] do
   if o2≥mx then break
   let some b <- past left O arr base (J-o2) | return none
   if b then break
   o1:=o2
   o2:=2 * o2+1
  p1:=J+1-min o2 mx
  p2:=J-o1
 for _ in [0:n] do
  if p1≥p2 then break
  let m:=p1+(p2-p1) / 2
  let some b <- past left O arr base m | return none
  if b then p1:=m+1 else p2:=m
 return some p2):=rfl
section
variable {M:Model}{A:Around}{E:Value->Shared->Prop}{s:Shared}
theorem gal_ok {left:Bool}{a6:Keyed}{n:Nat}{st:SortSt}{Q:Option Nat->SortSt->Prop}(g:Nat->Bool)(hh:J < n)
  (hp:∀ i,i < n->∀ Q:Option Bool->SortSt->Prop,Q (some (g i)) st->wpS M A E s (past left a6 xs base i) Q st) (hm:∀ i j,i <= j->j < n->g j=true->g i=true)
  (h:∀ k,k <= n->(∀ i,i < k->g i=true)->(∀ i,k <= i->i < n->g i=false)->Q (some k) st):wpS M A E s (gal left a6 xs base n J) Q st:=by
 have a5:∀ i j,i <= j->j < n->g i=false->g j=false:=λi j z1 z2 z3=>by
  cases e:g j with
  | false=>rfl
  | true=>rw [hm i j z1 z2 e] at z3;cases z3
 have a0:∀ p1 p2:Nat,p1 <= p2->p2 <= n->(∀ i,i < p1->g i=true)->(∀ i,p2 <= i->i < n->g i=false) ->
   wpS M A E s (forIn [0:n] ((none,p1,p2):Option (Option Nat)×Nat×Nat) λ_ c=>if c.2.1≥c.2.2 then pure (ForInStep.done (none,c.2.1,c.2.2)) else do
    let r <- past left a6 xs base (c.2.1+(c.2.2-c.2.1) / 2)
    match r with
    | some b=>if b=true then pure (ForInStep.yield (none,c.2.1+(c.2.2-c.2.1) / 2+1,c.2.2)) else pure (ForInStep.yield (none,c.2.1,c.2.1+(c.2.2-c.2.1) / 2))
    | _=>pure (ForInStep.done (some none,c.2.1,c.2.2))) (λc st'=>∃ k,c=(none,k,k) /\ st'=st /\ k <= n /\ (∀ i,i < k->g i=true) /\ (∀ i,k <= i->i < n->g i=false)) st:=by
  intro p1 p2 a1 a2 a3 a4
  refine wpS_forRange (I:=λx c st'=>st'=st /\ ∃ p1 p2,c=(none,p1,p2) /\ p1 <= p2 /\ p2 <= n /\ p2-p1 <= n-x /\ (∀ i,i < p1->g i=true) /\ (∀ i,p2 <= i->i < n->g i=false)) ?_ ?_ ⟨rfl,p1,p2,rfl,a1,a2,by omega,a3,a4⟩
  .rintro x c st' _ hx ⟨rfl,p1,p2,rfl,Y,b2,U,O,b5⟩
   dsimp only
   by_cases hge:p1≥p2
   .rw [if_pos hge]
    have:p1=p2:=by omega
    subst this
    exact wpS_pure ⟨p1,rfl,rfl,b2,O,b5⟩
   rw [if_neg hge]
   refine wpS_bind (hp _ (by omega) _ ?_)
   cases e:g (p1+(p2-p1) / 2) with
   | true=>exact wpS_pure ⟨rfl,_,_,rfl,by omega,b2,by omega,λi hi=>hm i _ (by omega) (by omega) e,b5⟩
   | false=>exact wpS_pure ⟨rfl,_,_,rfl,by omega,by omega,by omega,O,λi i1 i2=>a5 _ i i1 i2 e⟩
  .rintro c st' ⟨rfl,p1,p2,rfl,Y,b2,U,O,b5⟩
   have:p1=p2:=by omega
   subst this
   exact ⟨p1,rfl,rfl,b2,O,b5⟩
 rw [gal_eq]
 refine wpS_bind (hp J hh _ ?_)
 cases e0:g J with
 | true=>
  refine wpS_bind (wpS_mono (wpS_forRange (I:=λx c st'=>st'=st /\ ∃ o1 o2,c=(none,o1,o2) /\ o1 < o2 /\ x+1 <= o2 /\ J+o1 < n /\ g (J+o1)=true)
   (Q:=λc st'=>st'=st /\ ∃ o1 o2,c=(none,o1,o2) /\ o1 < o2 /\ J+o1 < n /\ g (J+o1)=true /\ (o2≥n-J∨(J+o2 < n /\ g (J+o2)=false))) ?_ ?_ ⟨rfl,0,1,rfl,by omega,by omega,by omega,e0⟩) ?_)
  .rintro x c st' _ hx ⟨rfl,o1,o2,rfl,Y,b2,U,O⟩
   dsimp only
   by_cases hge:o2≥n-J
   .rw [if_pos hge]
    exact wpS_pure ⟨rfl,o1,o2,rfl,Y,U,O,.inl hge⟩
   rw [if_neg hge]
   refine wpS_bind (hp _ (by omega) _ ?_)
   cases e:g (J+o2) with
   | true=>exact wpS_pure ⟨rfl,_,_,rfl,by omega,by omega,by omega,e⟩
   | false=>exact wpS_pure ⟨rfl,_,_,rfl,Y,U,O,.inr ⟨by omega,e⟩⟩
  .rintro c st' ⟨rfl,o1,o2,rfl,Y,b2,U,O⟩
   exact ⟨rfl,o1,o2,rfl,Y,U,O,.inl (by omega)⟩
  .rintro c st' ⟨rfl,o1,o2,rfl,Y,U,O,b5⟩
   dsimp only
   refine wpS_bind (wpS_mono (a0 (J+o1+1) (J+min o2 (n-J)) (by omega) (by omega) (λi hi=>hm i _ (by omega) U O) λi i1 i2=>?_) ?_)
   .rcases b5 with z | ⟨z1,z2⟩
    .omega
    .exact a5 _ i (by omega) i2 z2
   .rintro c st' ⟨k,rfl,rfl,k1,k2,k3⟩
    exact wpS_pure (h k k1 k2 k3)
 | false=>
  refine wpS_bind (wpS_mono (wpS_forRange (I:=λx c st'=>st'=st /\ ∃ o1 o2,c=(none,o1,o2) /\ o1 < o2 /\ x+1 <= o2 /\ o1 <= J /\ g (J-o1)=false)
   (Q:=λc st'=>st'=st /\ ∃ o1 o2,c=(none,o1,o2) /\ o1 < o2 /\ o1 <= J /\ g (J-o1)=false /\ (o2≥J+1∨(o2 < J+1 /\ g (J-o2)=true))) ?_ ?_ ⟨rfl,0,1,rfl,by omega,by omega,by omega,e0⟩) ?_)
  .rintro x c st' _ hx ⟨rfl,o1,o2,rfl,Y,b2,U,O⟩
   dsimp only
   by_cases hge:o2≥J+1
   .rw [if_pos hge]
    exact wpS_pure ⟨rfl,o1,o2,rfl,Y,U,O,.inl hge⟩
   rw [if_neg hge]
   refine wpS_bind (hp _ (by omega) _ ?_)
   cases e:g (J-o2) with
   | true=>exact wpS_pure ⟨rfl,_,_,rfl,Y,U,O,.inr ⟨by omega,e⟩⟩
   | false=>exact wpS_pure ⟨rfl,_,_,rfl,by omega,by omega,by omega,e⟩
  .rintro c st' ⟨rfl,o1,o2,rfl,Y,b2,U,O⟩
   exact ⟨rfl,o1,o2,rfl,Y,U,O,.inl (by omega)⟩
  .rintro c st' ⟨rfl,o1,o2,rfl,Y,U,O,b5⟩
   dsimp only
   refine wpS_bind (wpS_mono (a0 (J+1-min o2 (J+1)) (J-o1) (by omega) (by omega) (λi hi=>?_) λi i1 i2=>a5 _ i i1 i2 O) ?_)
   .rcases b5 with z | ⟨z1,z2⟩
    .omega
    .exact hm i _ (by omega) (by omega) z2
   .rintro c st' ⟨k,rfl,rfl,k1,k2,k3⟩
    exact wpS_pure (h k k1 k2 k3)
end
noncomputable def mLo:Array Keyed->Array Keyed->StateT SortSt Sem (Array Keyed):=sortPriv% PySem.Builtin.mergeLo
noncomputable abbrev setG (st:SortSt)(g:Nat):SortSt:=SortSt.mk' (kindOf st) (arrOf st) (pendingOf st) g (failedOf st)
theorem mLo_eq (a b:Array Keyed):mLo a b=(do
 rule "list.sort.merge-lo"
 let tt:=a.size+b.size
 let dn (o:Array Keyed) (i j:Nat):=o++a.extract i a.size++b.extract j b.size
 let la (o:Array Keyed) (i j:Nat):=o++b.extract j b.size++a.extract i a.size
 let mut o:Array Keyed:=#[<- elem' b 0]
 let mut i:=0
 let mut j:=1
 if j == b.size then return dn o i j
 if i+1 == a.size then return la o i j
 let mut mg:=gallopOf (<- get)
 for _ in [0:tt] do
  let mut ac:=0
  let mut bc:=0
  for _ in [0:tt] do
   let some w <- lt' (<- elem' b j) (<- elem' a i) | return dn o i j
   if w then
    o:=o.push (<- elem' b j);j:=j+1;bc:=bc+1;ac:=0
    if j == b.size then return dn o i j
    if bc≥mg then break
   else
    o:=o.push (<- elem' a i);i:=i+1;ac:=ac+1;bc:=0
    if i+1 == a.size then return la o i j
    if ac≥mg then break
  rule "list.sort.gallop"
  mg:=mg+1
  for _ in [0:tt] do
   if mg > 1 then mg:=mg-1
   modify λst=>setG st mg
   let some k <- gal false (<- elem' b j) a i (a.size-i) 0 | return dn o i j
   ac:=k
   if k > 0 then
    o:=o++a.extract i (i+k);i:=i+k
    if i+1 == a.size then return la o i j
    if i == a.size then return dn o i j
   o:=o.push (<- elem' b j);j:=j+1
   if j == b.size then return dn o i j
   let some k <- gal true (<- elem' a i) b j (b.size-j) 0 | return dn o i j
   bc:=k
   if k > 0 then
    o:=o++b.extract j (j+k);j:=j+k
    if j == b.size then return dn o i j
   o:=o.push (<- elem' a i);i:=i+1
   if i+1 == a.size then return la o i j
   if ac < 7 && bc < 7 then break
  mg:=mg+1
  modify λst=>setG st mg
 unsupported "internal:list.sort.merge-bound"):=rfl
def leK (f:Keyed->Int)(x y:Keyed):Prop:=f x <= f y
structure Jm (f:Keyed->Int)(as bs o:List Keyed)(i j:Nat):Prop where
 perm:o.Perm (as.take i++bs.take j)
 sa:(o++as.drop i).Pairwise (leK f)
 sb:(o++bs.drop j).Pairwise (leK f)
def Good (f:Keyed->Int)(as bs r:List Keyed):Prop:=r.Perm (as++bs) /\ r.Pairwise (leK f)
theorem take_more (as:List Keyed)(i k:Nat):as.take (i+k)=as.take i++(as.drop i).take k:=List.take_add
theorem drop_more (as:List Keyed)(i k:Nat):as.drop i=(as.drop i).take k++as.drop (i+k):=by rw [<- yCU,yBJ]
section
variable {as bs o:List Keyed}
theorem Jm.swap (h:Jm f as bs o i j):Jm f bs as o j i:=⟨h.perm.trans yDI,h.sb,h.sa⟩
theorem Jm.chunk (h:Jm f as bs o i j)(k:Nat)(hc:∀ x∈(as.drop i).take k,∀ y∈bs.drop j,f x <= f y):Jm f as bs (o++(as.drop i).take k) (i+k) j:=by
 have sa:=h.sa
 rw [drop_more as i k,<- yAN] at sa
 refine ⟨?_,sa,?_⟩
 .rw [take_more]
  refine (List.Perm.append_right _ h.perm).trans ?_
  rw [yAN,yAN]
  exact List.Perm.append_left _ yDI
 .obtain ⟨p1,p2,Y⟩:=List.pairwise_append.mp h.sb
  obtain ⟨O,q2,q3⟩:=List.pairwise_append.mp sa
  refine List.pairwise_append.mpr ⟨O,p2,λx U y J=>?_⟩
  rcases yAY.mp U with z | z
  .exact Y x z y J
  .exact hc x z y J
theorem Jm.dn (h:Jm f as bs o i j)(e:as.drop i=[]∨bs.drop j=[]):Good f as bs (o++as.drop i++bs.drop j):=by
 refine ⟨?_,?_⟩
 .have p:(o++as.drop i++bs.drop j).Perm ((as.take i++bs.take j)++as.drop i++bs.drop j):=List.Perm.append_right _ (List.Perm.append_right _ h.perm)
  refine p.trans ?_
  have J:(as.take i++bs.take j++as.drop i++bs.drop j).Perm (as.take i++as.drop i++(bs.take j++bs.drop j)):=by
   rw [yAN,yAN,yAN]
   refine List.Perm.append_left _ ?_
   rw [<- yAN,<- yAN]
   exact List.Perm.append_right _ yDI
  rw [yBJ,yBJ] at J
  exact J
 .rcases e with e | e
  .rw [e,yBA];exact h.sb
  .rw [e,yBA];exact h.sa
theorem Jm.la (h:Jm f as bs o i j)(hl:∀ x∈as.drop i,∀ y∈bs.drop j,f y <= f x):Good f as bs (o++bs.drop j++as.drop i):=by
 have c:=h.swap.chunk (bs.length-j) (λx J y O=>hl y O x (List.mem_of_mem_take J))
 rw [yBL (by rw [yAX];exact yAB _)] at c
 have g:=c.dn (.inl (yCE (by omega)))
 rw [yCE (as:=bs) (i:=j+(bs.length-j)) (by omega),yBA] at g
 exact ⟨g.1.trans yDI,g.2⟩
end
theorem ZEB (a:Array Keyed)(i:Nat):(a.extract i a.size).toList=a.toList.drop i:=by
 rw [yCV,yCW]
 exact yBL (by rw [yAX];simp)
theorem ZEm (a:Array Keyed)(i k:Nat):(a.extract i (i+k)).toList=(a.toList.drop i).take k:=by
 rw [yCV,yCW,show i+k-i=k by omega]
theorem ZFU (h:a[i]?=some x):(a.toList.drop i).take 1=[x]:=by
 have hi:i < a.toList.length:=by
  rw [yAR]
  exact (yCD.mp h).1
 rw [yBT hi]
 have:a.toList[i]=x:=by
  rw [yCD] at h
  obtain ⟨_,e⟩:=h
  simpa using e
 rw [this]
 simp
structure Ev (st st':SortSt):Prop where
 k:kindOf st'=kindOf st
 a:arrOf st'=arrOf st
 p:pendingOf st'=pendingOf st
 f:failedOf st'=failedOf st
theorem Ev.refl {st:SortSt}:Ev st st:=⟨rfl,rfl,rfl,rfl⟩
theorem Ev.setG {st st':SortSt}(h:Ev st st')(g:Nat):Ev st (setG st' g):=⟨h.k,h.a,h.p,h.f⟩
section
variable {M:Model}{A:Around}{E:Value->Shared->Prop}{s:Shared}{κ:SortKind}
theorem ZAr {st:SortSt}{Q:Keyed->SortSt->Prop}(h:a[i]?=some x)(q:Q x st):wpS M A E s (elem' a i) Q st:=by
 rw [elem'_eq,h]
 exact wpS_pure q
def InA (a₀ a:Array Keyed):Prop:=∀ x∈a.toList,x∈a₀.toList
theorem InA.get (h:InA a₀ a)(e:a[i]?=some x):x∈a₀.toList:=h x (by rw [yCD] at e;obtain ⟨_,rfl⟩:=e;simp)
theorem ZBI (e:a[i]?=some x):kn f a i=f x:=by unfold kn;rw [e];rfl
theorem ZCo (h:i < a.size):∃ x,a[i]?=some x:=⟨_,getElem?_pos a i h⟩
theorem past_at {left:Bool}{J:Keyed}{st:SortSt}{Q:Option Bool->SortSt->Prop}(L:Asks M A E s κ a₀ f)(O:kindOf st=κ)(U:xs[base+i]?=some x)(h1:x∈a₀.toList)(h2:J∈a₀.toList)
  (q:Q (some (if left=true then decide (f x < f J) else !decide (f J < f x))) st):wpS M A E s (past left J xs base i) Q st:=by
 unfold past
 refine wpS_bind (ZAr U ?_)
 cases left with
 | true=>exact L.lt x J h1 h2 st _ O q
 | false=>
  refine wpS_bind (L.lt J x h2 h1 st _ O ?_)
  exact wpS_pure q
theorem ZFZ {J:Keyed}{n O:Nat}{st:SortSt}{Q:Option Nat->SortSt->Prop}(L:Asks M A E s κ a₀ f)(hk:kindOf st=κ)(hi:InA a₀ xs)(U:J∈a₀.toList)(hh:O < n)(hs:base+n <= xs.size)(hu:Up f xs base n)
  (h:∀ k,k <= n->(∀ i,i < k->kn f xs (base+i) <= f J)->(∀ i,k <= i->i < n->f J < kn f xs (base+i))->Q (some k) st):wpS M A E s (gal false J xs base n O) Q st:=by
 refine gal_ok (λi=>!decide (f J < kn f xs (base+i))) hh (λi a0 Q q=>?_) (λi j z1 z2 z3=>?_) λk k1 k2 k3=>h k k1 (λi z=>?_) λi z1 z2=>?_
 .obtain ⟨x,Y⟩:=ZCo (a:=xs) (i:=base+i) (by omega)
  refine past_at L hk Y (hi.get Y) U ?_
  rw [ZBI Y] at q
  exact q
 .have:=hu (base+i) (base+j) (by omega) (by omega) (by omega)
  simp at z3 ⊢
  omega
 .have:=k2 i z
  simp at this
  exact this
 .have:=k3 i z1 z2
  simp at this
  exact this
theorem ZEj {J:Keyed}{n O:Nat}{st:SortSt}{Q:Option Nat->SortSt->Prop}(L:Asks M A E s κ a₀ f)(hk:kindOf st=κ)(hi:InA a₀ xs)(U:J∈a₀.toList)(hh:O < n)(hs:base+n <= xs.size)(hu:Up f xs base n)
  (h:∀ k,k <= n->(∀ i,i < k->kn f xs (base+i) < f J)->(∀ i,k <= i->i < n->f J <= kn f xs (base+i))->Q (some k) st):wpS M A E s (gal true J xs base n O) Q st:=by
 refine gal_ok (λi=>decide (kn f xs (base+i) < f J)) hh (λi a0 Q q=>?_) (λi j z1 z2 z3=>?_) λk k1 k2 k3=>h k k1 (λi z=>?_) λi z1 z2=>?_
 .obtain ⟨x,Y⟩:=ZCo (a:=xs) (i:=base+i) (by omega)
  refine past_at L hk Y (hi.get Y) U ?_
  rw [ZBI Y] at q
  exact q
 .have:=hu (base+i) (base+j) (by omega) (by omega) (by omega)
  simp at z3 ⊢
  omega
 .have:=k2 i z
  simp at this
  exact this
 .have:=k3 i z1 z2
  simp at this
  exact this
theorem ZDH (h:x∈a.toList.drop i):∃ k,i <= k /\ k < a.size /\ kn f a k=f x /\ a[k]?=some x:=by
 obtain ⟨n,hn⟩:=yBY h
 rw [yCS] at hn
 rw [yBK] at hn
 exact ⟨i+n,by omega,(yCD.mp hn).1,ZBI hn,hn⟩
theorem mem_take {k:Nat}(h:x∈(a.toList.drop i).take k):∃ n,i <= n /\ n < i+k /\ n < a.size /\ kn f a n=f x:=by
 obtain ⟨n,hn⟩:=yBY h
 have hl:=(yAO.mp hn).1
 rw [yAP] at hl
 rw [yDD (by omega),yCS,yBK] at hn
 exact ⟨i+n,by omega,by omega,(yCD.mp hn).1,ZBI hn⟩
structure Two (a₀:Array Keyed)(f:Keyed->Int)(a b:Array Keyed):Prop where
 ia:InA a₀ a
 ib:InA a₀ b
 ua:Up f a 0 a.size
 ub:Up f b 0 b.size
 na:1 <= a.size
 nb:1 <= b.size
 lo:∀ i,i < a.size->kn f b 0 <= kn f a i
 hi:∀ j,j < b.size->kn f b j <= kn f a (a.size-1)
end
noncomputable abbrev C5:=Option (Array Keyed)×Array Keyed×Nat×Nat×Nat
noncomputable abbrev C6:=Option (Array Keyed)×Array Keyed×Nat×Nat×Nat×Nat
noncomputable abbrev C7:=Option (Array Keyed)×Array Keyed×Nat×Nat×Nat×Nat×Nat
noncomputable abbrev SM (α:Type):=StateT SortSt Sem α
noncomputable abbrev dnA (a b o:Array Keyed)(i j:Nat):Array Keyed:=o++a.extract i a.size++b.extract j b.size
noncomputable abbrev laA (a b o:Array Keyed)(i j:Nat):Array Keyed:=o++b.extract j b.size++a.extract i a.size
noncomputable def lo1 (a b:Array Keyed)(mg:Nat)(c:C6):SM (ForInStep C6):=do
 let y <- elem' b c.2.2.2.1
 let x <- elem' a c.2.2.1
 let r <- lt' y x
 match r with
 | some w=>
  if w=true then do
   let y <- elem' b c.2.2.2.1
   if (c.2.2.2.1+1 == b.size)=true then pure (.done (some (dnA a b (c.2.1.push y) c.2.2.1 (c.2.2.2.1+1)),c.2.1.push y,c.2.2.1,c.2.2.2.1+1,0,c.2.2.2.2.2+1))
   else if c.2.2.2.2.2+1≥mg then pure (.done (none,c.2.1.push y,c.2.2.1,c.2.2.2.1+1,0,c.2.2.2.2.2+1))
   else pure (.yield (none,c.2.1.push y,c.2.2.1,c.2.2.2.1+1,0,c.2.2.2.2.2+1))
  else do
   let x <- elem' a c.2.2.1
   if (c.2.2.1+1+1 == a.size)=true then pure (.done (some (laA a b (c.2.1.push x) (c.2.2.1+1) c.2.2.2.1),c.2.1.push x,c.2.2.1+1,c.2.2.2.1,c.2.2.2.2.1+1,0))
   else if c.2.2.2.2.1+1≥mg then pure (.done (none,c.2.1.push x,c.2.2.1+1,c.2.2.2.1,c.2.2.2.2.1+1,0))
   else pure (.yield (none,c.2.1.push x,c.2.2.1+1,c.2.2.2.1,c.2.2.2.2.1+1,0))
 | _=>pure (.done (some (dnA a b c.2.1 c.2.2.1 c.2.2.2.1),c.2.1,c.2.2.1,c.2.2.2.1,c.2.2.2.2.1,c.2.2.2.2.2))
noncomputable def lo4 (a b:Array Keyed)(g ac bc:Nat)(o:Array Keyed)(i j:Nat):SM (ForInStep C7):=do
 let x <- elem' a i
 if (i+1+1 == a.size)=true then pure (.done (some (laA a b (o.push x) (i+1) j),o.push x,i+1,j,g,ac,bc))
 else if (decide (ac < 7) && decide (bc < 7))=true then pure (.done (none,o.push x,i+1,j,g,ac,bc))
 else pure (.yield (none,o.push x,i+1,j,g,ac,bc))
noncomputable def lo3 (a b:Array Keyed)(g ac bc:Nat)(o:Array Keyed)(i j:Nat):SM (ForInStep C7):=do
 let y <- elem' b j
 if (j+1 == b.size)=true then pure (.done (some (dnA a b (o.push y) i (j+1)),o.push y,i,j+1,g,ac,bc))
 else do
  let x <- elem' a i
  let r <- gal true x b (j+1) (b.size-(j+1)) 0
  match r with
  | some k=>
   if k > 0 then
    if (j+1+k == b.size)=true then pure (.done (some (dnA a b (o.push y++b.extract (j+1) (j+1+k)) i (j+1+k)),o.push y++b.extract (j+1) (j+1+k),i,j+1+k,g,ac,k))
    else lo4 a b g ac k (o.push y++b.extract (j+1) (j+1+k)) i (j+1+k)
   else lo4 a b g ac k (o.push y) i (j+1)
  | _=>pure (.done (some (dnA a b (o.push y) i (j+1)),o.push y,i,j+1,g,ac,bc))
noncomputable def lo2 (a b:Array Keyed)(g ac bc:Nat)(o:Array Keyed)(i j:Nat):SM (ForInStep C7):=do
 modify λst=>setG st g
 let y <- elem' b j
 let r <- gal false y a i (a.size-i) 0
 match r with
 | some k=>
  if k > 0 then
   if (i+k+1 == a.size)=true then pure (.done (some (laA a b (o++a.extract i (i+k)) (i+k) j),o++a.extract i (i+k),i+k,j,g,k,bc))
   else if (i+k == a.size)=true then pure (.done (some (dnA a b (o++a.extract i (i+k)) (i+k) j),o++a.extract i (i+k),i+k,j,g,k,bc))
   else lo3 a b g k bc (o++a.extract i (i+k)) (i+k) j
  else lo3 a b g k bc o i j
 | _=>pure (.done (some (dnA a b o i j),o,i,j,g,ac,bc))
noncomputable def loB (a b:Array Keyed)(c:C7):SM (ForInStep C7) :=
 if c.2.2.2.2.1 > 1 then lo2 a b (c.2.2.2.2.1-1) c.2.2.2.2.2.1 c.2.2.2.2.2.2 c.2.1 c.2.2.1 c.2.2.2.1
 else lo2 a b c.2.2.2.2.1 c.2.2.2.2.2.1 c.2.2.2.2.2.2 c.2.1 c.2.2.1 c.2.2.2.1
noncomputable def loO (a b:Array Keyed)(c:C5):SM (ForInStep C5):=do
 let c1 <- forIn [0:a.size+b.size] ((none,c.2.1,c.2.2.1,c.2.2.2.1,0,0):C6) λ_ d=>lo1 a b c.2.2.2.2 d
 match c1.1 with
 | some r=>pure (.done (some r,c1.2.1,c1.2.2.1,c1.2.2.2.1,c.2.2.2.2))
 | none=>do
  liftM (rule "list.sort.gallop")
  let c2 <- forIn [0:a.size+b.size] ((none,c1.2.1,c1.2.2.1,c1.2.2.2.1,c.2.2.2.2+1,c1.2.2.2.2.1,c1.2.2.2.2.2):C7) λ_ d=>loB a b d
  match c2.1 with
  | some r=>pure (.done (some r,c2.2.1,c2.2.2.1,c2.2.2.2.1,c2.2.2.2.2.1))
  | none=>do
   modify λst=>setG st (c2.2.2.2.2.1+1)
   pure (.yield (none,c2.2.1,c2.2.2.1,c2.2.2.2.1,c2.2.2.2.2.1+1))
theorem bnd2 {m J:StateT SortSt Sem α}{g h:α->StateT SortSt Sem U}(O:m=J)(e:∀ a,g a=h a):(m >>= g)=(J >>= h):=by rw [O,show g=h from funext e]
theorem for2 {r:Std.Legacy.Range}{c:U}{g h:Nat->U->StateT SortSt Sem (ForInStep U)}(e:∀ x c,g x c=h x c):forIn r c g=forIn r c h:=by rw [show g=h from funext λx=>funext (e x)]
theorem if2 {c:Prop}[Decidable c]{x y O J:α}(Y:x=O)(U:y=J):(if c then x else y)=(if c then O else J):=by rw [Y,U]
theorem mLo_low (a b:Array Keyed):mLo a b=(do
 liftM (rule "list.sort.merge-lo")
 let y <- elem' b 0
 if (1 == b.size)=true then pure (dnA a b #[y] 0 1)
 else if (0+1 == a.size)=true then pure (laA a b #[y] 0 1)
 else do
  let st <- get
  let c <- forIn [0:a.size+b.size] ((none,#[y],0,1,gallopOf st):C5) λ_ d=>loO a b d
  match c.1 with
  | some r=>pure r
  | none=>liftM (unsupported "internal:list.sort.merge-bound":Sem (Array Keyed))):=by
 rw [mLo_eq]
 refine bnd _ λ_=>bnd _ λy=>?_
 refine if2 rfl (if2 rfl ?_)
 refine bnd _ λst=>bnd2 (for2 λ_ c=>?_) λc=>?_
 .unfold loO
  refine bnd2 (for2 λ_ d=>?_) λU=>?_
  .rfl
  .obtain ⟨r,o,i,j,ac,bc⟩:=U
   cases r with
   | some r=>rfl
   | none=>
    refine bnd2 rfl λ_=>bnd2 (for2 λ_ d=>?_) λJ=>?_
    .unfold loB
     refine if2 ?_ ?_
     all_goals
      unfold lo2
      refine bnd2 rfl λ_=>bnd2 rfl λy=>bnd2 rfl λr=>?_
      cases r with
      | none=>rfl
      | some k=>
       refine if2 (if2 rfl (if2 rfl ?_)) ?_
       all_goals
        unfold lo3
        refine bnd2 rfl λY=>if2 rfl (bnd2 rfl λx2=>bnd2 rfl λO=>?_)
        cases O with
        | none=>rfl
        | some k2=>
         refine if2 (if2 rfl ?_) ?_
         all_goals
          unfold lo4
          refine bnd2 rfl λx3=>if2 rfl (if2 rfl rfl)
    .obtain ⟨r,o,i,j,g,ac,bc⟩:=J
     cases r with
     | some r=>rfl
     | none=>rfl
 .obtain ⟨r,o,i,j,g⟩:=c
  cases r with
  | some r=>rfl
  | none=>rfl
section
variable {M:Model}{A:Around}{E:Value->Shared->Prop}{s:Shared}{κ:SortKind}{b o:Array Keyed}
theorem ZFj (h:Up f a 0 a.size):a.toList.Pairwise (leK f):=by
 rw [yCX]
 intro i j hi O J
 rw [yAR] at hi O
 have:=h i j (yAJ _) (yCB J) (by omega)
 rw [ZBI (getElem?_pos a i hi),ZBI (getElem?_pos a j O)] at this
 simpa [leK] using this
noncomputable abbrev JA (f:Keyed->Int)(a b o:Array Keyed)(i j:Nat):Prop:=Jm f a.toList b.toList o.toList i j
noncomputable abbrev Fin (f:Keyed->Int)(a b r:Array Keyed):Prop:=Good f a.toList b.toList r.toList
theorem JA.dn (h:JA f a b o i j)(e:a.size <= i∨b.size <= j):Fin f a b (dnA a b o i j):=by
 have g:=Jm.dn h (e.imp (λz=>yCE (by rw [yAR];exact z)) (λz=>yCE (by rw [yAR];exact z)))
 unfold Fin dnA
 rw [yBZ,yBZ,ZEB,ZEB]
 exact g
theorem JA.la (h:JA f a b o i j)(T:Two a₀ f a b)(e:i+1=a.size):Fin f a b (laA a b o i j):=by
 have g:=Jm.la h λx J y Y=>by
  obtain ⟨k,k1,k2,O,_⟩:=ZDH (f:=f) J
  obtain ⟨n,n1,n2,U,_⟩:=ZDH (f:=f) Y
  have:=T.hi n n2
  rw [show a.size-1=k by omega,O,U] at this
  exact this
 unfold Fin laA
 rw [yBZ,yBZ,ZEB,ZEB]
 exact g
theorem JA.pushA (h:JA f a b o i j)(J:a[i]?=some x)(hc:∀ n,j <= n->n < b.size->f x <= kn f b n):JA f a b (o.push x) (i+1) j:=by
 have g:=Jm.chunk h 1 λu O y U=>by
  rw [ZFU J,yAH] at O
  obtain ⟨n,n1,n2,Y,_⟩:=ZDH (f:=f) U
  rw [O,<- Y]
  exact hc n n1 n2
 rw [ZFU J] at g
 unfold JA
 rw [Array.toList_push]
 exact g
theorem JA.pushB (h:JA f a b o i j)(J:b[j]?=some x)(hc:∀ n,i <= n->n < a.size->f x <= kn f a n):JA f a b (o.push x) i (j+1) :=
 (JA.pushA (Jm.swap h) J hc).swap
theorem JA.chunkA (h:JA f a b o i j)(k:Nat)(hc:∀ n m,i <= n->n < i+k->n < a.size->j <= m->m < b.size->kn f a n <= kn f b m):JA f a b (o++a.extract i (i+k)) (i+k) j:=by
 have g:=Jm.chunk h k λu O y U=>by
  obtain ⟨n,n1,n2,Y,n4⟩:=mem_take (f:=f) O
  obtain ⟨m,m1,m2,J,_⟩:=ZDH (f:=f) U
  rw [<- n4,<- J]
  exact hc n m n1 n2 Y m1 m2
 unfold JA
 rw [yBZ,ZEm]
 exact g
theorem JA.chunkB (h:JA f a b o i j)(k:Nat)(hc:∀ n m,j <= n->n < j+k->n < b.size->i <= m->m < a.size->kn f b n <= kn f a m):JA f a b (o++b.extract j (j+k)) i (j+k) :=
 (JA.chunkA (Jm.swap h) k hc).swap
theorem Up.sub {n:Nat}(h:Up f xs 0 n){m:Nat}(e:lo+m <= n):Up f xs lo m:=λi j U J O=>h i j (yAJ _) J (by omega)
def R7 (f:Keyed->Int)(a b:Array Keyed)(st:SortSt)(x:Nat):ForInStep C7->SortSt->Prop
 | .done c,st'=>Ev st st' /\ ((∃ r z,c=(some r,z) /\ Fin f a b r)∨∃ o i j g ac bc,c=(none,o,i,j,g,ac,bc) /\ JA f a b o i j /\ i+1 < a.size /\ j < b.size /\ x+2 <= i+j)
 | .yield c,st'=>Ev st st' /\ ∃ o i j g ac bc,c=(none,o,i,j,g,ac,bc) /\ JA f a b o i j /\ i+1 < a.size /\ j < b.size /\ x+2 <= i+j
theorem mLo_ok {st:SortSt}{Q:Array Keyed->SortSt->Prop}(L:Asks M A E s κ a₀ f)(hk:kindOf st=κ)(T:Two a₀ f a b)(h:∀ r st',Ev st st'->Fin f a b r->Q r st'):wpS M A E s (mLo a b) Q st:=by
 have ta:=T.na
 have tb:=T.nb
 have ua:∀ n m,n <= m->m < a.size->kn f a n <= kn f a m:=λn m z1 z2=>T.ua n m (yAJ _) z1 (by omega)
 have ub:∀ n m,n <= m->m < b.size->kn f b n <= kn f b m:=λn m z1 z2=>T.ub n m (yAJ _) z1 (by omega)
 rw [mLo_low]
 refine wpS_bind (wpS_lift (wpAny_rule ⟨rfl,?_⟩))
 obtain ⟨y0,a2⟩:=ZCo (a:=b) (i:=0) (by omega)
 refine wpS_bind (ZAr a2 ?_)
 have J0:JA f a b #[y0] 0 1:=by
  have e:JA f a b #[] 0 0:=⟨by simp,by simpa using ZFj T.ua,by simpa using ZFj T.ub⟩
  have:=JA.pushB e a2 λn _ n2=>by rw [<- ZBI (f:=f) a2];exact T.lo n n2
  exact this
 by_cases c1:1=b.size
 .rw [if_pos (by simpa using c1)]
  exact wpS_pure (h _ st .refl (J0.dn (.inr (by omega))))
 rw [if_neg (by simpa using c1)]
 by_cases c2:0+1=a.size
 .rw [if_pos (by simpa using c2)]
  exact wpS_pure (h _ st .refl (J0.la T c2))
 rw [if_neg (by simpa using c2)]
 refine wpS_bind (wpS_get ?_)
 refine wpS_bind (wpS_mono (wpS_forRange (I:=λx c st'=>Ev st st' /\ ∃ o i j g,c=(none,o,i,j,g) /\ JA f a b o i j /\ i+1 < a.size /\ j < b.size /\ x+1 <= i+j) (Q:=λc st'=>Ev st st' /\ ∃ r z,c=(some r,z) /\ Fin f a b r) ?_ ?_ ⟨.refl,_,0,1,_,rfl,J0,by omega,by omega,by omega⟩) ?_)
 .rintro x c a1 _ hx ⟨e1,o,i,j,g,rfl,J,hi,Y,hp⟩
  unfold loO
  dsimp only
  refine wpS_bind (wpS_mono (wpS_forRange (I:=λy c st'=>Ev st st' /\ ∃ o i j ac bc,c=(none,o,i,j,ac,bc) /\ JA f a b o i j /\ i+1 < a.size /\ j < b.size /\ x+1+y <= i+j)
   (Q:=λc st'=>Ev st st' /\ ((∃ r z,c=(some r,z) /\ Fin f a b r)∨∃ o i j ac bc,c=(none,o,i,j,ac,bc) /\ JA f a b o i j /\ i+1 < a.size /\ j < b.size /\ x+2 <= i+j)) ?_ ?_ ⟨e1,o,i,j,0,0,rfl,J,hi,Y,by omega⟩) ?_)
  .rintro y c st2 _ hy ⟨e2,o,i,j,ac,bc,rfl,J,hi,Y,hp⟩
   unfold lo1
   dsimp only
   obtain ⟨yb,U⟩:=ZCo (a:=b) Y
   obtain ⟨xa,O⟩:=ZCo (a:=a) (i:=i) (by omega)
   refine wpS_bind (ZAr U ?_)
   refine wpS_bind (ZAr O ?_)
   refine wpS_bind (L.lt yb xa (T.ib.get U) (T.ia.get O) st2 _ (e2.k.trans hk) ?_)
   by_cases hw:f yb < f xa
   .rw [decide_eq_true hw]
    dsimp only
    rw [if_pos rfl]
    refine wpS_bind (ZAr U ?_)
    have J2:=J.pushB U λn n1 n2=>by
     have:=ua i n n1 n2
     rw [ZBI O] at this
     omega
    by_cases c3:j+1=b.size
    .rw [if_pos (by simpa using c3)]
     exact wpS_pure ⟨e2,.inl ⟨_,_,rfl,J2.dn (.inr (by omega))⟩⟩
    rw [if_neg (by simpa using c3)]
    split
    .exact wpS_pure ⟨e2,.inr ⟨_,_,_,_,_,rfl,J2,hi,by omega,by omega⟩⟩
    .exact wpS_pure ⟨e2,_,_,_,_,_,rfl,J2,hi,by omega,by omega⟩
   .rw [decide_eq_false hw]
    dsimp only
    rw [if_neg (by decide)]
    refine wpS_bind (ZAr O ?_)
    have J2:=J.pushA O λn n1 n2=>by
     have:=ub j n n1 n2
     rw [ZBI U] at this
     omega
    by_cases c3:i+1+1=a.size
    .rw [if_pos (by simpa using c3)]
     exact wpS_pure ⟨e2,.inl ⟨_,_,rfl,J2.la T c3⟩⟩
    rw [if_neg (by simpa using c3)]
    split
    .exact wpS_pure ⟨e2,.inr ⟨_,_,_,_,_,rfl,J2,by omega,Y,by omega⟩⟩
    .exact wpS_pure ⟨e2,_,_,_,_,_,rfl,J2,by omega,Y,by omega⟩
  .rintro c st2 ⟨e2,o,i,j,ac,bc,rfl,J,hi,Y,hp⟩
   exact ⟨e2,.inr ⟨_,_,_,_,_,rfl,J,hi,Y,by omega⟩⟩
  .rintro c st2 ⟨e2,⟨r,z,rfl,hr⟩ | ⟨o,i,j,ac,bc,rfl,J,hi,Y,hp⟩⟩
   .exact wpS_pure ⟨e2,r,_,rfl,hr⟩
   dsimp only
   refine wpS_bind (wpS_lift (wpAny_rule ⟨rfl,?_⟩))
   refine wpS_bind (wpS_mono (wpS_forRange (I:=λy c st'=>Ev st st' /\ ∃ o i j g ac bc,c=(none,o,i,j,g,ac,bc) /\ JA f a b o i j /\ i+1 < a.size /\ j < b.size /\ x+2 <= i+j)
    (Q:=λc st'=>Ev st st' /\ ((∃ r z,c=(some r,z) /\ Fin f a b r)∨∃ o i j g ac bc,c=(none,o,i,j,g,ac,bc) /\ JA f a b o i j /\ i+1 < a.size /\ j < b.size /\ x+2 <= i+j)) ?_ ?_ ⟨e2,o,i,j,_,ac,bc,rfl,J,hi,Y,hp⟩) ?_)
   .rintro y c st3 _ hy ⟨e3,o,i,j,g,ac,bc,rfl,J,hi,Y,hp⟩
    have a0:∀ (g ac bc:Nat) (o:Array Keyed) (i j:Nat) (st4:SortSt) (xa:Keyed),Ev st st4->JA f a b o i j->i+1 < a.size->j < b.size->x+2 <= i+j->a[i]?=some xa->(∀ n,j <= n->n < b.size->f xa <= kn f b n) ->
      wpS M A E s (lo4 a b g ac bc o i j) (R7 f a b st x) st4:=by
     intro g ac bc o i j st4 xa e4 J hi Y hp O a3
     unfold lo4
     refine wpS_bind (ZAr O ?_)
     have J2:=J.pushA O a3
     by_cases c3:i+1+1=a.size
     .rw [if_pos (by simpa using c3)]
      exact wpS_pure ⟨e4,.inl ⟨_,_,rfl,J2.la T c3⟩⟩
     rw [if_neg (by simpa using c3)]
     split
     .exact wpS_pure ⟨e4,.inr ⟨_,_,_,_,_,_,rfl,J2,by omega,Y,by omega⟩⟩
     .exact wpS_pure ⟨e4,_,_,_,_,_,_,rfl,J2,by omega,Y,by omega⟩
    have three:∀ (g ac bc:Nat) (o:Array Keyed) (i j:Nat) (st4:SortSt) (yb:Keyed),Ev st st4->JA f a b o i j->i+1 < a.size->j < b.size->x+2 <= i+j->b[j]?=some yb->(∀ n,i <= n->n < a.size->f yb <= kn f a n) ->
      wpS M A E s (lo3 a b g ac bc o i j) (R7 f a b st x) st4:=by
     intro g ac bc o i j st4 yb e4 J hi Y hp U a3
     unfold lo3
     refine wpS_bind (ZAr U ?_)
     have J2:=J.pushB U a3
     by_cases c3:j+1=b.size
     .rw [if_pos (by simpa using c3)]
      exact wpS_pure ⟨e4,.inl ⟨_,_,rfl,J2.dn (.inr (by omega))⟩⟩
     rw [if_neg (by simpa using c3)]
     obtain ⟨xa,O⟩:=ZCo (a:=a) (i:=i) (by omega)
     refine wpS_bind (ZAr O ?_)
     refine wpS_bind (ZEj L (e4.k.trans hk) T.ib (T.ia.get O) (by omega) (by omega) (T.ub.sub (by omega)) λk k1 k2 k3=>?_)
     dsimp only
     have rest:∀ n,j+1+k <= n->n < b.size->f xa <= kn f b n:=λn n1 n2=>by
      have:=k3 (n-(j+1)) (by omega) (by omega)
      rw [show j+1+(n-(j+1))=n by omega] at this
      exact this
     by_cases hk0:k > 0
     .rw [if_pos hk0]
      have J3:=J2.chunkB k λn m n1 n2 n3 m1 m2=>by
       have z:=k2 (n-(j+1)) (by omega)
       rw [show j+1+(n-(j+1))=n by omega] at z
       have z2:=ua i m m1 m2
       rw [ZBI O] at z2
       omega
      by_cases c4:j+1+k=b.size
      .rw [if_pos (by simpa using c4)]
       exact wpS_pure ⟨e4,.inl ⟨_,_,rfl,J3.dn (.inr (by omega))⟩⟩
      rw [if_neg (by simpa using c4)]
      exact a0 _ _ _ _ _ _ _ xa e4 J3 hi (by omega) (by omega) O rest
     .rw [if_neg hk0]
      have:k=0:=by omega
      subst this
      exact a0 _ _ _ _ _ _ _ xa e4 J2 hi (by omega) (by omega) O rest
    have two:∀ (g ac bc:Nat),wpS M A E s (lo2 a b g ac bc o i j) (R7 f a b st x) st3:=by
     intro g ac bc
     unfold lo2
     obtain ⟨yb,U⟩:=ZCo (a:=b) Y
     refine wpS_bind (wpS_modify ?_)
     have e4:=e3.setG g
     refine wpS_bind (ZAr U ?_)
     refine wpS_bind (ZFZ L (e4.k.trans hk) T.ia (T.ib.get U) (by omega) (by omega) (T.ua.sub (by omega)) λk k1 k2 k3=>?_)
     dsimp only
     have rest:∀ n,i+k <= n->n < a.size->f yb <= kn f a n:=λn n1 n2=>by
      have:=k3 (n-i) (by omega) (by omega)
      rw [show i+(n-i)=n by omega] at this
      omega
     by_cases hk0:k > 0
     .rw [if_pos hk0]
      have J3:=J.chunkA k λn m n1 n2 n3 m1 m2=>by
       have z:=k2 (n-i) (by omega)
       rw [show i+(n-i)=n by omega] at z
       have z2:=ub j m m1 m2
       rw [ZBI U] at z2
       omega
      by_cases c4:i+k+1=a.size
      .rw [if_pos (by simpa using c4)]
       exact wpS_pure ⟨e4,.inl ⟨_,_,rfl,J3.la T c4⟩⟩
      rw [if_neg (by simpa using c4)]
      by_cases c5:i+k=a.size
      .rw [if_pos (by simpa using c5)]
       exact wpS_pure ⟨e4,.inl ⟨_,_,rfl,J3.dn (.inl (by omega))⟩⟩
      rw [if_neg (by simpa using c5)]
      exact three _ _ _ _ _ _ _ yb e4 J3 (by omega) Y (by omega) U rest
     .rw [if_neg hk0]
      have:k=0:=by omega
      subst this
      exact three _ _ _ _ _ _ _ yb e4 J hi Y hp U rest
    unfold loB
    dsimp only
    split
    .exact wpS_mono (two _ _ _) λr st' z=>by cases r <;> exact z
    .exact wpS_mono (two _ _ _) λr st' z=>by cases r <;> exact z
   .rintro c st3 ⟨e3,o,i,j,g,ac,bc,rfl,J,hi,Y,hp⟩
    exact ⟨e3,.inr ⟨_,_,_,_,_,_,rfl,J,hi,Y,hp⟩⟩
   .rintro c st3 ⟨e3,⟨r,z,rfl,hr⟩ | ⟨o,i,j,g,ac,bc,rfl,J,hi,Y,hp⟩⟩
    .exact wpS_pure ⟨e3,r,_,rfl,hr⟩
    .dsimp only
     exact wpS_bind (wpS_modify (wpS_pure ⟨e3.setG _,_,_,_,_,rfl,J,hi,Y,by omega⟩))
 .rintro c a1 ⟨e1,o,i,j,g,rfl,J,hi,Y,hp⟩
  omega
 .rintro c a1 ⟨e1,r,z,rfl,hr⟩
  exact wpS_pure (h r a1 e1 hr)
end
noncomputable def mHi:Array Keyed->Array Keyed->StateT SortSt Sem (Array Keyed):=sortPriv% PySem.Builtin.mergeHi
theorem mHi_eq (a b:Array Keyed):mHi a b=(do
 rule "list.sort.merge-hi"
 let tt:=a.size+b.size
 let dn (o:Array Keyed) (i j:Nat):=a.extract 0 i++b.extract 0 j++o.reverse
 let fb (o:Array Keyed) (i j:Nat):=b.extract 0 j++a.extract 0 i++o.reverse
 let mut i:=a.size-1
 let mut j:=b.size
 let mut o:Array Keyed:=#[<- elem' a i]
 if i == 0 then return dn o i j
 if j == 1 then return fb o i j
 let mut mg:=gallopOf (<- get)
 for _ in [0:tt] do
  let mut ac:=0
  let mut bc:=0
  for _ in [0:tt] do
   let some w <- lt' (<- elem' b (j-1)) (<- elem' a (i-1)) | return dn o i j
   if w then
    i:=i-1;o:=o.push (<- elem' a i);ac:=ac+1;bc:=0
    if i == 0 then return dn o i j
    if ac≥mg then break
   else
    j:=j-1;o:=o.push (<- elem' b j);bc:=bc+1;ac:=0
    if j == 1 then return fb o i j
    if bc≥mg then break
  rule "list.sort.gallop"
  mg:=mg+1
  for _ in [0:tt] do
   if mg > 1 then mg:=mg-1
   modify λst=>setG st mg
   let some t <- gal false (<- elem' b (j-1)) a 0 i (i-1) | return dn o i j
   let k:=i-t
   ac:=k
   if k > 0 then
    o:=o++(a.extract t i).reverse;i:=t
    if i == 0 then return dn o i j
   j:=j-1;o:=o.push (<- elem' b j)
   if j == 1 then return fb o i j
   let some t <- gal true (<- elem' a (i-1)) b 0 j (j-1) | return dn o i j
   let k:=j-t
   bc:=k
   if k > 0 then
    o:=o++(b.extract t j).reverse;j:=t
    if j == 1 then return fb o i j
    if j == 0 then return dn o i j
   i:=i-1;o:=o.push (<- elem' a i)
   if i == 0 then return dn o i j
   if ac < 7 && bc < 7 then break
  mg:=mg+1
  modify λst=>setG st mg
 unsupported "internal:list.sort.merge-bound"):=rfl
noncomputable abbrev D5:=Option (Array Keyed)×Nat×Nat×Array Keyed×Nat
noncomputable abbrev D6:=Option (Array Keyed)×Nat×Nat×Array Keyed×Nat×Nat
noncomputable abbrev D7:=Option (Array Keyed)×Nat×Nat×Array Keyed×Nat×Nat×Nat
noncomputable abbrev dnH (a b o:Array Keyed)(i j:Nat):Array Keyed:=a.extract 0 i++b.extract 0 j++o.reverse
noncomputable abbrev fbH (a b o:Array Keyed)(i j:Nat):Array Keyed:=b.extract 0 j++a.extract 0 i++o.reverse
noncomputable def hi1 (a b:Array Keyed)(mg:Nat)(c:D6):SM (ForInStep D6):=do
 let y <- elem' b (c.2.2.1-1)
 let x <- elem' a (c.2.1-1)
 let r <- lt' y x
 match r with
 | some w=>
  if w=true then do
   let x <- elem' a (c.2.1-1)
   if (c.2.1-1 == 0)=true then pure (.done (some (dnH a b (c.2.2.2.1.push x) (c.2.1-1) c.2.2.1),c.2.1-1,c.2.2.1,c.2.2.2.1.push x,c.2.2.2.2.1+1,0))
   else if c.2.2.2.2.1+1≥mg then pure (.done (none,c.2.1-1,c.2.2.1,c.2.2.2.1.push x,c.2.2.2.2.1+1,0))
   else pure (.yield (none,c.2.1-1,c.2.2.1,c.2.2.2.1.push x,c.2.2.2.2.1+1,0))
  else do
   let y <- elem' b (c.2.2.1-1)
   if (c.2.2.1-1 == 1)=true then pure (.done (some (fbH a b (c.2.2.2.1.push y) c.2.1 (c.2.2.1-1)),c.2.1,c.2.2.1-1,c.2.2.2.1.push y,0,c.2.2.2.2.2+1))
   else if c.2.2.2.2.2+1≥mg then pure (.done (none,c.2.1,c.2.2.1-1,c.2.2.2.1.push y,0,c.2.2.2.2.2+1))
   else pure (.yield (none,c.2.1,c.2.2.1-1,c.2.2.2.1.push y,0,c.2.2.2.2.2+1))
 | _=>pure (.done (some (dnH a b c.2.2.2.1 c.2.1 c.2.2.1),c.2.1,c.2.2.1,c.2.2.2.1,c.2.2.2.2.1,c.2.2.2.2.2))
noncomputable def hi4 (a b:Array Keyed)(g ac bc:Nat)(o:Array Keyed)(i j:Nat):SM (ForInStep D7):=do
 let x <- elem' a (i-1)
 if (i-1 == 0)=true then pure (.done (some (dnH a b (o.push x) (i-1) j),i-1,j,o.push x,g,ac,bc))
 else if (decide (ac < 7) && decide (bc < 7))=true then pure (.done (none,i-1,j,o.push x,g,ac,bc))
 else pure (.yield (none,i-1,j,o.push x,g,ac,bc))
noncomputable def hi3 (a b:Array Keyed)(g ac bc:Nat)(o:Array Keyed)(i j:Nat):SM (ForInStep D7):=do
 let y <- elem' b (j-1)
 if (j-1 == 1)=true then pure (.done (some (fbH a b (o.push y) i (j-1)),i,j-1,o.push y,g,ac,bc))
 else do
  let x <- elem' a (i-1)
  let r <- gal true x b 0 (j-1) (j-1-1)
  match r with
  | some t=>
   if j-1-t > 0 then
    if (t == 1)=true then pure (.done (some (fbH a b (o.push y++(b.extract t (j-1)).reverse) i t),i,t,o.push y++(b.extract t (j-1)).reverse,g,ac,j-1-t))
    else if (t == 0)=true then pure (.done (some (dnH a b (o.push y++(b.extract t (j-1)).reverse) i t),i,t,o.push y++(b.extract t (j-1)).reverse,g,ac,j-1-t))
    else hi4 a b g ac (j-1-t) (o.push y++(b.extract t (j-1)).reverse) i t
   else hi4 a b g ac (j-1-t) (o.push y) i (j-1)
  | _=>pure (.done (some (dnH a b (o.push y) i (j-1)),i,j-1,o.push y,g,ac,bc))
noncomputable def hi2 (a b:Array Keyed)(g ac bc:Nat)(o:Array Keyed)(i j:Nat):SM (ForInStep D7):=do
 modify λst=>setG st g
 let y <- elem' b (j-1)
 let r <- gal false y a 0 i (i-1)
 match r with
 | some t=>
  if i-t > 0 then
   if (t == 0)=true then pure (.done (some (dnH a b (o++(a.extract t i).reverse) t j),t,j,o++(a.extract t i).reverse,g,i-t,bc))
   else hi3 a b g (i-t) bc (o++(a.extract t i).reverse) t j
  else hi3 a b g (i-t) bc o i j
 | _=>pure (.done (some (dnH a b o i j),i,j,o,g,ac,bc))
noncomputable def hiB (a b:Array Keyed)(c:D7):SM (ForInStep D7) :=
 if c.2.2.2.2.1 > 1 then hi2 a b (c.2.2.2.2.1-1) c.2.2.2.2.2.1 c.2.2.2.2.2.2 c.2.2.2.1 c.2.1 c.2.2.1
 else hi2 a b c.2.2.2.2.1 c.2.2.2.2.2.1 c.2.2.2.2.2.2 c.2.2.2.1 c.2.1 c.2.2.1
noncomputable def hiO (a b:Array Keyed)(c:D5):SM (ForInStep D5):=do
 let c1 <- forIn [0:a.size+b.size] ((none,c.2.1,c.2.2.1,c.2.2.2.1,0,0):D6) λ_ d=>hi1 a b c.2.2.2.2 d
 match c1.1 with
 | some r=>pure (.done (some r,c1.2.1,c1.2.2.1,c1.2.2.2.1,c.2.2.2.2))
 | none=>do
  liftM (rule "list.sort.gallop")
  let c2 <- forIn [0:a.size+b.size] ((none,c1.2.1,c1.2.2.1,c1.2.2.2.1,c.2.2.2.2+1,c1.2.2.2.2.1,c1.2.2.2.2.2):D7) λ_ d=>hiB a b d
  match c2.1 with
  | some r=>pure (.done (some r,c2.2.1,c2.2.2.1,c2.2.2.2.1,c2.2.2.2.2.1))
  | none=>do
   modify λst=>setG st (c2.2.2.2.2.1+1)
   pure (.yield (none,c2.2.1,c2.2.2.1,c2.2.2.2.1,c2.2.2.2.2.1+1))
theorem mHi_low (a b:Array Keyed):mHi a b=(do
 liftM (rule "list.sort.merge-hi")
 let x <- elem' a (a.size-1)
 if (a.size-1 == 0)=true then pure (dnH a b #[x] (a.size-1) b.size)
 else if (b.size == 1)=true then pure (fbH a b #[x] (a.size-1) b.size)
 else do
  let st <- get
  let c <- forIn [0:a.size+b.size] ((none,a.size-1,b.size,#[x],gallopOf st):D5) λ_ d=>hiO a b d
  match c.1 with
  | some r=>pure r
  | none=>liftM (unsupported "internal:list.sort.merge-bound":Sem (Array Keyed))):=by
 rw [mHi_eq]
 refine bnd _ λ_=>bnd _ λy=>?_
 refine if2 rfl (if2 rfl ?_)
 refine bnd _ λst=>bnd2 (for2 λ_ c=>?_) λc=>?_
 .unfold hiO
  refine bnd2 (for2 λ_ d=>?_) λU=>?_
  .rfl
  .obtain ⟨r,i,j,o,ac,bc⟩:=U
   cases r with
   | some r=>rfl
   | none=>
    refine bnd2 rfl λ_=>bnd2 (for2 λ_ d=>?_) λJ=>?_
    .unfold hiB
     refine if2 ?_ ?_
     all_goals
      unfold hi2
      refine bnd2 rfl λ_=>bnd2 rfl λy=>bnd2 rfl λr=>?_
      cases r with
      | none=>rfl
      | some k=>
       refine if2 (if2 rfl ?_) ?_
       all_goals
        unfold hi3
        refine bnd2 rfl λY=>if2 rfl (bnd2 rfl λx2=>bnd2 rfl λO=>?_)
        cases O with
        | none=>rfl
        | some k2=>
         refine if2 (if2 rfl (if2 rfl ?_)) ?_
         all_goals
          unfold hi4
          refine bnd2 rfl λx3=>if2 rfl (if2 rfl rfl)
    .obtain ⟨r,i,j,o,g,ac,bc⟩:=J
     cases r with
     | some r=>rfl
     | none=>rfl
 .obtain ⟨r,i,j,o,g⟩:=c
  cases r with
  | some r=>rfl
  | none=>rfl
section
variable {M:Model}{A:Around}{E:Value->Shared->Prop}{s:Shared}{κ:SortKind}{b o:Array Keyed}
noncomputable abbrev JH (f:Keyed->Int)(a b o:Array Keyed)(i j:Nat):Prop:=Jm (λx=>- f x) a.toList.reverse b.toList.reverse o.toList (a.size-i) (b.size-j)
theorem ZBj (h:i <= a.size):a.toList.reverse.drop (a.size-i)=(a.toList.take i).reverse:=by
 rw [List.drop_reverse,yAR,show a.size-(a.size-i)=i by omega]
theorem ZEy (a:Array Keyed)(i:Nat):(a.extract 0 i).toList=a.toList.take i:=by
 rw [yCV,yCW,Nat.sub_zero]
 rfl
theorem ZEc (h:i <= a.size)(J:x∈a.toList.reverse.drop (a.size-i)):∃ k,k < i /\ kn f a k=f x:=by
 rw [ZBj h,List.mem_reverse] at J
 obtain ⟨n,hn⟩:=yBY J
 have hl:=(yAO.mp hn).1
 rw [yAP] at hl
 rw [yDD (by omega),yBK] at hn
 exact ⟨n,by omega,ZBI hn⟩
theorem good_rev {as bs r:List Keyed}(h:Good (λx=>- f x) as.reverse bs.reverse r):Good f as bs r.reverse:=by
 refine ⟨?_,?_⟩
 .refine (List.reverse_perm r).trans (h.1.trans ?_)
  exact List.Perm.append (List.reverse_perm as) (List.reverse_perm bs)
 .rw [List.pairwise_reverse]
  refine h.2.imp fun {x y} z=>?_
  have w:- f x <= - f y:=z
  show f y <= f x
  omega
theorem JH.dn (h:JH f a b o i j)(hi:i <= a.size)(O:j <= b.size)(e:i=0∨j=0):Fin f a b (dnH a b o i j):=by
 have g:=Jm.dn (Jm.swap h) (e.symm.imp (λz=>by rw [ZBj O,z];rfl) (λz=>by rw [ZBj hi,z];rfl))
 have J:=good_rev g
 rw [ZBj hi,ZBj O,List.reverse_append,List.reverse_append,List.reverse_reverse,List.reverse_reverse,<- yAN] at J
 unfold Fin dnH
 rw [yBZ,yBZ,ZEy,ZEy,Array.toList_reverse]
 exact ⟨J.1.trans yDI,J.2⟩
theorem JH.fb (h:JH f a b o i j)(T:Two a₀ f a b)(hi:i <= a.size)(U:j <= b.size)(e:j=1):Fin f a b (fbH a b o i j):=by
 have g:=Jm.la (Jm.swap h) λx Y y hy=>by
  obtain ⟨k,k1,O⟩:=ZEc (f:=f) U Y
  obtain ⟨n,n1,n2⟩:=ZEc (f:=f) hi hy
  have:=T.lo n (by omega)
  rw [show k=0 by omega] at O
  rw [O,n2] at this
  show-f y <= - f x
  omega
 have J:=good_rev g
 rw [ZBj hi,ZBj U,List.reverse_append,List.reverse_append,List.reverse_reverse,List.reverse_reverse,<- yAN] at J
 unfold Fin fbH
 rw [yBZ,yBZ,ZEy,ZEy,Array.toList_reverse]
 exact ⟨J.1.trans yDI,J.2⟩
theorem JH.chunkA (h:JH f a b o i j){t:Nat}(ht:t <= i)(hi:i <= a.size)(O:j <= b.size)(hc:∀ n m,t <= n->n < i->m < j->kn f b m <= kn f a n):JH f a b (o++(a.extract t i).reverse) t j:=by
 have e:(a.toList.reverse.drop (a.size-i)).take (i-t)=(a.extract t i).reverse.toList:=by
  rw [ZBj hi,List.take_reverse,Array.toList_reverse,yCV,yCW,yAP,yAR,yBW hi,show i-(i-t)=t by omega,List.drop_take]
 have g:=Jm.chunk h (i-t) λu J y Y=>by
  obtain ⟨m,U,m2⟩:=ZEc (f:=f) O Y
  rw [e,Array.toList_reverse,List.mem_reverse,show i=t+(i-t) by omega,ZEm] at J
  obtain ⟨n,n1,n2,n3,n4⟩:=mem_take (f:=f) J
  have:=hc n m n1 (by omega) U
  show-f u <= - f y
  omega
 rw [e] at g
 unfold JH
 rw [yBZ,show a.size-t=a.size-i+(i-t) by omega]
 exact g
theorem JH.chunkB (h:JH f a b o i j){t:Nat}(O:t <= j)(hi:i <= a.size)(J:j <= b.size)(hc:∀ n m,t <= n->n < j->m < i->kn f a m <= kn f b n):JH f a b (o++(b.extract t j).reverse) i t :=
 (JH.chunkA (Jm.swap h) O J hi hc).swap
theorem one_rev (J:a[i-1]?=some x)(hi:1 <= i):(a.extract (i-1) i).reverse=#[x]:=by
 have e:(a.extract (i-1) i).toList=[x]:=by
  have:=ZEm a (i-1) 1
  rw [show i-1+1=i by omega] at this
  rw [this]
  exact ZFU J
 apply Array.toList_inj.mp
 rw [Array.toList_reverse,e]
 rfl
theorem JH.pushA (h:JH f a b o i j)(J:a[i-1]?=some x)(h1:1 <= i)(hi:i <= a.size)(O:j <= b.size)(hc:∀ m,m < j->kn f b m <= f x):JH f a b (o.push x) (i-1) j:=by
 have g:=JH.chunkA h (t:=i-1) (by omega) hi O λn m n1 n2 U=>by
  rw [show n=i-1 by omega,ZBI J]
  exact hc m U
 rw [one_rev J h1] at g
 rw [show o.push x=o++#[x] from rfl]
 exact g
theorem JH.pushB (h:JH f a b o i j)(J:b[j-1]?=some x)(h1:1 <= j)(hi:i <= a.size)(O:j <= b.size)(hc:∀ m,m < i->kn f a m <= f x):JH f a b (o.push x) i (j-1) :=
 (JH.pushA (Jm.swap h) J h1 O hi hc).swap
structure At (f:Keyed->Int)(a b:Array Keyed)(x:Nat)(i j:Nat)(o:Array Keyed):Prop where
 J:JH f a b o i j
 i1:1 <= i
 i2:i <= a.size
 j1:2 <= j
 j2:j <= b.size
 p:x+i+j <= a.size+b.size
def R7h (f:Keyed->Int)(a b:Array Keyed)(st:SortSt)(x:Nat):ForInStep D7->SortSt->Prop
 | .done c,st'=>Ev st st' /\ ((∃ r z,c=(some r,z) /\ Fin f a b r)∨∃ i j o g ac bc,c=(none,i,j,o,g,ac,bc) /\ At f a b x i j o)
 | .yield c,st'=>Ev st st' /\ ∃ i j o g ac bc,c=(none,i,j,o,g,ac,bc) /\ At f a b x i j o
theorem mHi_ok {st:SortSt}{Q:Array Keyed->SortSt->Prop}(L:Asks M A E s κ a₀ f)(hk:kindOf st=κ)(T:Two a₀ f a b)(h:∀ r st',Ev st st'->Fin f a b r->Q r st'):wpS M A E s (mHi a b) Q st:=by
 have ta:=T.na
 have tb:=T.nb
 have ua:∀ n m,n <= m->m < a.size->kn f a n <= kn f a m:=λn m z1 z2=>T.ua n m (yAJ _) z1 (by omega)
 have ub:∀ n m,n <= m->m < b.size->kn f b n <= kn f b m:=λn m z1 z2=>T.ub n m (yAJ _) z1 (by omega)
 have pr:∀ l:List Keyed,l.Pairwise (leK f)->l.reverse.Pairwise (leK λx=>- f x):=λl z=>by
  rw [List.pairwise_reverse]
  refine z.imp fun {x y} w=>?_
  have w':f x <= f y:=w
  show-f y <= - f x
  omega
 rw [mHi_low]
 refine wpS_bind (wpS_lift (wpAny_rule ⟨rfl,?_⟩))
 obtain ⟨x0,a2⟩:=ZCo (a:=a) (i:=a.size-1) (by omega)
 refine wpS_bind (ZAr a2 ?_)
 have J0:JH f a b #[x0] (a.size-1) b.size:=by
  have e:JH f a b #[] a.size b.size:=⟨by simp,by simpa using pr _ (ZFj T.ua),by simpa using pr _ (ZFj T.ub)⟩
  exact JH.pushA e a2 ta (yAB _) (yAB _) λm m1=>by rw [<- ZBI (f:=f) a2];exact T.hi m m1
 by_cases c1:a.size-1=0
 .rw [if_pos (by simpa using c1)]
  exact wpS_pure (h _ st .refl (J0.dn (by omega) (yAB _) (.inl c1)))
 rw [if_neg (by simpa using c1)]
 by_cases c2:b.size=1
 .rw [if_pos (by simpa using c2)]
  exact wpS_pure (h _ st .refl (J0.fb T (by omega) (yAB _) c2))
 rw [if_neg (by simpa using c2)]
 refine wpS_bind (wpS_get ?_)
 refine wpS_bind (wpS_mono (wpS_forRange (I:=λx c st'=>Ev st st' /\ ∃ i j o g,c=(none,i,j,o,g) /\ At f a b (x+1) i j o) (Q:=λc st'=>Ev st st' /\ ∃ r z,c=(some r,z) /\ Fin f a b r) ?_ ?_ ⟨.refl,_,_,_,_,rfl,J0,by omega,by omega,by omega,by omega,by omega⟩) ?_)
 .rintro x c a1 _ hx ⟨e1,i,j,o,g,rfl,W⟩
  unfold hiO
  dsimp only
  refine wpS_bind (wpS_mono (wpS_forRange (I:=λy c st'=>Ev st st' /\ ∃ i j o ac bc,c=(none,i,j,o,ac,bc) /\ At f a b (x+1+y) i j o)
   (Q:=λc st'=>Ev st st' /\ ((∃ r z,c=(some r,z) /\ Fin f a b r)∨∃ i j o ac bc,c=(none,i,j,o,ac,bc) /\ At f a b (x+2) i j o)) ?_ ?_ ⟨e1,i,j,o,0,0,rfl,W⟩) ?_)
  .rintro y c st2 _ hy ⟨e2,i,j,o,ac,bc,rfl,J,i1,Y,j1,j2,hp⟩
   unfold hi1
   dsimp only
   obtain ⟨yb,U⟩:=ZCo (a:=b) (i:=j-1) (by omega)
   obtain ⟨xa,O⟩:=ZCo (a:=a) (i:=i-1) (by omega)
   refine wpS_bind (ZAr U ?_)
   refine wpS_bind (ZAr O ?_)
   refine wpS_bind (L.lt yb xa (T.ib.get U) (T.ia.get O) st2 _ (e2.k.trans hk) ?_)
   by_cases hw:f yb < f xa
   .rw [decide_eq_true hw]
    dsimp only
    rw [if_pos rfl]
    refine wpS_bind (ZAr O ?_)
    have J2:=J.pushA O i1 Y j2 λm m1=>by
     have:=ub m (j-1) (by omega) (by omega)
     rw [ZBI U] at this
     omega
    by_cases c3:i-1=0
    .rw [if_pos (by simpa using c3)]
     exact wpS_pure ⟨e2,.inl ⟨_,_,rfl,J2.dn (by omega) j2 (.inl c3)⟩⟩
    rw [if_neg (by simpa using c3)]
    split
    .exact wpS_pure ⟨e2,.inr ⟨_,_,_,_,_,rfl,J2,by omega,by omega,j1,j2,by omega⟩⟩
    .exact wpS_pure ⟨e2,_,_,_,_,_,rfl,J2,by omega,by omega,j1,j2,by omega⟩
   .rw [decide_eq_false hw]
    dsimp only
    rw [if_neg (by decide)]
    refine wpS_bind (ZAr U ?_)
    have J2:=J.pushB U (by omega) Y j2 λm m1=>by
     have:=ua m (i-1) (by omega) (by omega)
     rw [ZBI O] at this
     omega
    by_cases c3:j-1=1
    .rw [if_pos (by simpa using c3)]
     exact wpS_pure ⟨e2,.inl ⟨_,_,rfl,J2.fb T Y (by omega) c3⟩⟩
    rw [if_neg (by simpa using c3)]
    split
    .exact wpS_pure ⟨e2,.inr ⟨_,_,_,_,_,rfl,J2,i1,Y,by omega,by omega,by omega⟩⟩
    .exact wpS_pure ⟨e2,_,_,_,_,_,rfl,J2,i1,Y,by omega,by omega,by omega⟩
  .rintro c st2 ⟨e2,i,j,o,ac,bc,rfl,J,i1,Y,j1,j2,hp⟩
   exact ⟨e2,.inr ⟨_,_,_,_,_,rfl,J,i1,Y,j1,j2,by omega⟩⟩
  .rintro c st2 ⟨e2,⟨r,z,rfl,hr⟩ | ⟨i,j,o,ac,bc,rfl,W⟩⟩
   .exact wpS_pure ⟨e2,r,_,rfl,hr⟩
   dsimp only
   refine wpS_bind (wpS_lift (wpAny_rule ⟨rfl,?_⟩))
   refine wpS_bind (wpS_mono (wpS_forRange (I:=λy c st'=>Ev st st' /\ ∃ i j o g ac bc,c=(none,i,j,o,g,ac,bc) /\ At f a b (x+2) i j o)
    (Q:=λc st'=>Ev st st' /\ ((∃ r z,c=(some r,z) /\ Fin f a b r)∨∃ i j o g ac bc,c=(none,i,j,o,g,ac,bc) /\ At f a b (x+2) i j o)) ?_ ?_ ⟨e2,i,j,o,_,ac,bc,rfl,W⟩) ?_)
   .rintro y c st3 _ hy ⟨e3,i,j,o,g,ac,bc,rfl,J,i1,Y,j1,j2,hp⟩
    have a0:∀ (g ac bc:Nat) (o:Array Keyed) (i j:Nat) (st4:SortSt) (xa:Keyed),Ev st st4->At f a b (x+2) i j o->a[i-1]?=some xa->(∀ n,n < j->kn f b n <= f xa)->wpS M A E s (hi4 a b g ac bc o i j) (R7h f a b st (x+2)) st4:=by
     rintro g ac bc o i j st4 xa e4 ⟨J,i1,Y,j1,j2,hp⟩ O a3
     unfold hi4
     refine wpS_bind (ZAr O ?_)
     have J2:=J.pushA O i1 Y j2 a3
     by_cases c3:i-1=0
     .rw [if_pos (by simpa using c3)]
      exact wpS_pure ⟨e4,.inl ⟨_,_,rfl,J2.dn (by omega) j2 (.inl c3)⟩⟩
     rw [if_neg (by simpa using c3)]
     split
     .exact wpS_pure ⟨e4,.inr ⟨_,_,_,_,_,_,rfl,J2,by omega,by omega,j1,j2,by omega⟩⟩
     .exact wpS_pure ⟨e4,_,_,_,_,_,_,rfl,J2,by omega,by omega,j1,j2,by omega⟩
    have three:∀ (g ac bc:Nat) (o:Array Keyed) (i j:Nat) (st4:SortSt) (yb:Keyed),Ev st st4->At f a b (x+2) i j o->b[j-1]?=some yb->(∀ n,n < i->kn f a n <= f yb)->wpS M A E s (hi3 a b g ac bc o i j) (R7h f a b st (x+2)) st4:=by
     rintro g ac bc o i j st4 yb e4 ⟨J,i1,Y,j1,j2,hp⟩ U a3
     unfold hi3
     refine wpS_bind (ZAr U ?_)
     have J2:=J.pushB U (by omega) Y j2 a3
     by_cases c3:j-1=1
     .rw [if_pos (by simpa using c3)]
      exact wpS_pure ⟨e4,.inl ⟨_,_,rfl,J2.fb T Y (by omega) c3⟩⟩
     rw [if_neg (by simpa using c3)]
     obtain ⟨xa,O⟩:=ZCo (a:=a) (i:=i-1) (by omega)
     refine wpS_bind (ZAr O ?_)
     refine wpS_bind (ZEj L (e4.k.trans hk) T.ib (T.ia.get O) (by omega) (by omega) (T.ub.sub (by omega)) λt k1 k2 k3=>?_)
     dsimp only
     have rest:∀ n,n < t->kn f b n <= f xa:=λn n1=>by
      have:=k2 n n1
      rw [yBN] at this
      omega
     by_cases hk0:j-1-t > 0
     .rw [if_pos hk0]
      have J3:=J2.chunkB k1 Y (by omega) λn m n1 n2 m1=>by
       have z:=k3 n n1 n2
       rw [yBN] at z
       have z2:=ua m (i-1) (by omega) (by omega)
       rw [ZBI O] at z2
       omega
      by_cases c4:t=1
      .rw [if_pos (by simpa using c4)]
       exact wpS_pure ⟨e4,.inl ⟨_,_,rfl,J3.fb T Y (by omega) c4⟩⟩
      rw [if_neg (by simpa using c4)]
      by_cases c5:t=0
      .rw [if_pos (by simpa using c5)]
       exact wpS_pure ⟨e4,.inl ⟨_,_,rfl,J3.dn Y (by omega) (.inr c5)⟩⟩
      rw [if_neg (by simpa using c5)]
      exact a0 _ _ _ _ _ _ _ xa e4 ⟨J3,i1,Y,by omega,by omega,by omega⟩ O rest
     .rw [if_neg hk0]
      have:t=j-1:=by omega
      subst this
      exact a0 _ _ _ _ _ _ _ xa e4 ⟨J2,i1,Y,by omega,by omega,by omega⟩ O rest
    have two:∀ (g ac bc:Nat),wpS M A E s (hi2 a b g ac bc o i j) (R7h f a b st (x+2)) st3:=by
     intro g ac bc
     unfold hi2
     obtain ⟨yb,U⟩:=ZCo (a:=b) (i:=j-1) (by omega)
     refine wpS_bind (wpS_modify ?_)
     have e4:=e3.setG g
     refine wpS_bind (ZAr U ?_)
     refine wpS_bind (ZFZ L (e4.k.trans hk) T.ia (T.ib.get U) (by omega) (by omega) (T.ua.sub (by omega)) λt k1 k2 k3=>?_)
     dsimp only
     have rest:∀ n,n < t->kn f a n <= f yb:=λn n1=>by
      have:=k2 n n1
      rw [yBN] at this
      exact this
     by_cases hk0:i-t > 0
     .rw [if_pos hk0]
      have J3:=J.chunkA k1 Y j2 λn m n1 n2 m1=>by
       have z:=k3 n n1 n2
       rw [yBN] at z
       have z2:=ub m (j-1) (by omega) (by omega)
       rw [ZBI U] at z2
       omega
      by_cases c4:t=0
      .rw [if_pos (by simpa using c4)]
       exact wpS_pure ⟨e4,.inl ⟨_,_,rfl,J3.dn (by omega) j2 (.inl c4)⟩⟩
      rw [if_neg (by simpa using c4)]
      exact three _ _ _ _ _ _ _ yb e4 ⟨J3,by omega,by omega,j1,j2,by omega⟩ U rest
     .rw [if_neg hk0]
      have:t=i:=by omega
      subst this
      exact three _ _ _ _ _ _ _ yb e4 ⟨J,i1,Y,j1,j2,hp⟩ U rest
    unfold hiB
    dsimp only
    split
    .exact wpS_mono (two _ _ _) λr st' z=>by cases r <;> exact z
    .exact wpS_mono (two _ _ _) λr st' z=>by cases r <;> exact z
   .rintro c st3 ⟨e3,i,j,o,g,ac,bc,rfl,W⟩
    exact ⟨e3,.inr ⟨_,_,_,_,_,_,rfl,W⟩⟩
   .rintro c st3 ⟨e3,⟨r,z,rfl,hr⟩ | ⟨i,j,o,g,ac,bc,rfl,W⟩⟩
    .exact wpS_pure ⟨e3,r,_,rfl,hr⟩
    .dsimp only
     exact wpS_bind (wpS_modify (wpS_pure ⟨e3.setG _,_,_,_,_,rfl,W⟩))
 .rintro c a1 ⟨e1,i,j,o,g,rfl,J,i1,Y,j1,j2,hp⟩
  omega
 .rintro c a1 ⟨e1,r,z,rfl,hr⟩
  exact wpS_pure (h r a1 e1 hr)
end
noncomputable abbrev PT:=Nat×Nat×Nat
noncomputable def ZDm (xs m:Array Keyed)(lo:Nat):Array Keyed:=m.toList.zipIdx.foldl (λa (p,j)=>a.setIfInBounds (lo+j) p) xs
theorem mAt_eq (i:Nat):mergeAt' i=(do
 let z <- get
 let (some (s1,n1,w1),some (s2,n2,_)):=((pendingOf z)[i]?,(pendingOf z)[i+1]?) | unsupported "internal:list.sort.pending"
 set (setPending z (((pendingOf z).setIfInBounds i (s1,n1+n2,w1)).eraseIdxIfInBounds (i+1)))
 let some k <- gal false (<- elem' (arrOf z) s2) (arrOf z) s1 n1 0 | return false
 let (s1,n1):=(s1+k,n1-k)
 if n1 == 0 then return true
 let some n2 <- gal true (<- elem' (arrOf z) (s1+n1-1)) (arrOf z) s2 n2 (n2-1) | return false
 if n2 == 0 then return true
 let x:=(arrOf z).extract s1 s2
 let y:=(arrOf z).extract s2 (s2+n2)
 let m <- if n1 <= n2 then mLo x y else mHi x y
 modify λz=>setArr z (ZDm (arrOf z) m s1)
 return (failedOf (<- get)).isNone):=rfl
theorem wpS_set {M:Model}{A:Around}{E:Value->Shared->Prop}{s:Shared}{σ:Type}{x:σ}{Q:PUnit->σ->Prop}{st:σ}(h:Q ⟨⟩ x):wpS M A E s (set x:StateT σ Sem PUnit) Q st:=by
 unfold wpS;rw [StateT.run_set];exact wpAny_pure ⟨rfl,h⟩
theorem lay_go (lo:Nat):∀ (l:List Keyed) (k:Nat) (xs:Array Keyed),lo+k+l.length <= xs.size ->
  (((l.zipIdx k).foldl (λa (p:Keyed×Nat)=>a.setIfInBounds (lo+p.2) p.1) xs).size=xs.size) /\ ∀ n,((l.zipIdx k).foldl (λa (p:Keyed×Nat)=>a.setIfInBounds (lo+p.2) p.1) xs)[n]?=if lo+k <= n /\ n < lo+k+l.length then l[n-(lo+k)]? else xs[n]?
 | [],k,xs,_=>by
  refine ⟨rfl,λn=>?_⟩
  rw [if_neg (λz=>by rw [yBM] at z;omega)]
  rfl
 | x::r,k,xs,h=>by
  rw [yAG] at h
  rw [List.zipIdx_cons,List.foldl_cons]
  obtain ⟨J,O⟩:=lay_go lo r (k+1) (xs.setIfInBounds (lo+k) x) (by rw [Array.size_setIfInBounds];omega)
  refine ⟨by rw [J,Array.size_setIfInBounds],λn=>?_⟩
  rw [O,yAG]
  by_cases c1:lo+(k+1) <= n /\ n < lo+(k+1)+r.length
  .rw [if_pos c1,if_pos (by omega),show n-(lo+k)=(n-(lo+(k+1)))+1 by omega,List.getElem?_cons_succ]
  .rw [if_neg c1,Array.getElem?_setIfInBounds]
   by_cases c2:lo+k=n
   .rw [if_pos c2,if_pos (by omega),if_pos (by omega),show n-(lo+k)=0 by omega]
    rfl
   .rw [if_neg c2,if_neg (by omega)]
theorem ZEe {m:Array Keyed}(h:lo+m.size <= xs.size)(n:Nat):(ZDm xs m lo)[n]?=if lo <= n /\ n < lo+m.size then m[n-lo]? else xs[n]?:=by
 have:=(lay_go lo m.toList 0 xs (by rw [yAR];omega)).2 n
 rw [yAR,yCY,yBK] at this
 exact this
theorem lay_list {m:Array Keyed}(h:lo+m.size <= xs.size):(ZDm xs m lo).toList=xs.toList.take lo++m.toList++xs.toList.drop (lo+m.size):=by
 refine yDG λn=>?_
 rw [yBK,ZEe h]
 by_cases c1:n < lo
 .rw [if_neg (by omega),yAN,yBB (by rw [yAP,yAR];omega),yDD c1,yBK]
 .by_cases c2:n < lo+m.size
  .rw [if_pos (by omega),yAN,yAT (by rw [yAP,yAR];omega),yAP,yAR,yBW (by omega),yBB (by rw [yAR];omega),yBK]
  .rw [if_neg (by omega),yAT (by rw [yAC,yAP,yAR,yAR];omega),yAC,yAP,yAR,yAR,yBW (by omega),yCS,yBK]
   congr 1
   omega
section
variable {M:Model}{A:Around}{E:Value->Shared->Prop}{s:Shared}{κ:SortKind}
theorem SB.inA {st:SortSt}(h:SB κ a₀ st):InA a₀ (arrOf st):=λx J=>(Array.perm_iff_toList_perm.mp h.perm).mem_iff.mp J
theorem ext_get {n:Nat}(h:j <= xs.size)(hn:n < j-i):(xs.extract i j)[n]?=xs[i+n]?:=by
 rw [Array.getElem?_extract]
 rw [if_pos (by omega)]
theorem merge_at {st:SortSt}{na nb:Nat}{Q:Bool->SortSt->Prop}(L:Asks M A E s κ a₀ f)(Y:SB κ a₀ st)(p1:(pendingOf st)[i]?=some (J,na,w))(p2:(pendingOf st)[i+1]?=some (J+na,nb,v))(aa:1 <= na)(a9:1 <= nb)(hz:J+na+nb <= a₀.size)
  (ua:Up f (arrOf st) J na) (ub:Up f (arrOf st) (J+na) nb)
  (h:∀ st',SB κ a₀ st'->pendingOf st'=((pendingOf st).setIfInBounds i (J,na+nb,w)).eraseIdxIfInBounds (i+1)->Up f (arrOf st') J (na+nb)->(∀ k,k < J∨J+na+nb <= k->(arrOf st')[k]?=(arrOf st)[k]?)->Q true st'):wpS M A E s (mergeAt' i) Q st:=by
 have hsz:=Y.size
 rw [mAt_eq]
 refine wpS_bind (wpS_get ?_)
 rw [p1,p2]
 dsimp only
 refine wpS_bind (wpS_set ?_)
 have U:SB κ a₀ (setPending st (((pendingOf st).setIfInBounds i (J,na+nb,w)).eraseIdxIfInBounds (i+1))):=⟨Y.perm,Y.kind,Y.fail⟩
 obtain ⟨b0,a2⟩:=ZCo (a:=arrOf st) (i:=J+na) (by omega)
 refine wpS_bind (ZAr a2 ?_)
 refine wpS_bind (ZFZ L U.kind Y.inA (Y.inA.get a2) (by omega) (by omega) ua λk k1 k2 k3=>?_)
 dsimp only
 have a1:∀ n,J <= n->n < J+k->kn f (arrOf st) n <= f b0:=λn n1 n2=>by
  have:=k2 (n-J) (by omega)
  rw [show J+(n-J)=n by omega] at this
  exact this
 have O:∀ n,J+na <= n->n < J+na+nb->f b0 <= kn f (arrOf st) n:=λn n1 n2=>by
  have:=ub (J+na) n (yAB _) n1 n2
  rw [ZBI a2] at this
  exact this
 by_cases c1:na-k=0
 .rw [if_pos (by simpa using c1)]
  refine wpS_pure (h _ U rfl (λn m n1 n2 n3=>?_) λ_ _=>rfl)
  by_cases d1:m < J+na
  .exact ua n m n1 n2 d1
  .by_cases d2:n < J+na
   .have z1:=a1 n n1 (by omega)
    have z2:=O m (by omega) (by omega)
    show kn f (arrOf st) n <= kn f (arrOf st) m
    omega
   .exact ub n m (by omega) n2 (by omega)
 rw [if_neg (by simpa using c1)]
 rw [show J+k+(na-k)-1=J+na-1 by omega]
 obtain ⟨aN,a3⟩:=ZCo (a:=arrOf st) (i:=J+na-1) (by omega)
 refine wpS_bind (ZAr a3 ?_)
 refine wpS_bind (ZEj L U.kind Y.inA (Y.inA.get a3) (by omega) (by omega) ub λt t1 t2 t3=>?_)
 dsimp only
 have a0:∀ n,J+na+t <= n->n < J+na+nb->f aN <= kn f (arrOf st) n:=λn n1 n2=>by
  have:=t3 (n-(J+na)) (by omega) (by omega)
  rw [show J+na+(n-(J+na))=n by omega] at this
  exact this
 have a6:∀ n,J <= n->n < J+na->kn f (arrOf st) n <= f aN:=λn n1 n2=>by
  have:=ua n (J+na-1) n1 (by omega) (by omega)
  rw [ZBI a3] at this
  exact this
 by_cases c2:t=0
 .rw [if_pos (by simpa using c2)]
  refine wpS_pure (h _ U rfl (λn m n1 n2 n3=>?_) λ_ _=>rfl)
  by_cases d1:m < J+na
  .exact ua n m n1 n2 d1
  .by_cases d2:n < J+na
   .have z1:=a6 n n1 d2
    have z2:=a0 m (by omega) (by omega)
    show kn f (arrOf st) n <= kn f (arrOf st) m
    omega
   .exact ub n m (by omega) n2 (by omega)
 rw [if_neg (by simpa using c2)]
 have x1:((arrOf st).extract (J+k) (J+na)).size=na-k:=by rw [Array.size_extract];omega
 have y1:((arrOf st).extract (J+na) (J+na+t)).size=t:=by rw [Array.size_extract];omega
 have xg:∀ n,n < na-k->kn f ((arrOf st).extract (J+k) (J+na)) n=kn f (arrOf st) (J+k+n):=λn hn=>ZA2 (ext_get (by omega) (by omega))
 have yg:∀ n,n < t->kn f ((arrOf st).extract (J+na) (J+na+t)) n=kn f (arrOf st) (J+na+n):=λn hn=>ZA2 (ext_get (by omega) (by omega))
 have a8:∀ n,J+k <= n->n < J+na->f b0 < kn f (arrOf st) n:=λn n1 n2=>by
  have:=k3 (n-J) (by omega) (by omega)
  rw [show J+(n-J)=n by omega] at this
  exact this
 have a4:∀ (lo hi:Nat),InA a₀ ((arrOf st).extract lo hi):=λlo hi x hx=>by
  rw [yCV,yCW] at hx
  exact Y.inA x (List.mem_of_mem_drop (List.mem_of_mem_take hx))
 have T:Two a₀ f ((arrOf st).extract (J+k) (J+na)) ((arrOf st).extract (J+na) (J+na+t)):={
  ia:=a4 _ _
  ib:=a4 _ _
  ua:=λn m _ n2 n3=>by
   rw [xg n (by omega),xg m (by omega)]
   exact ua _ _ (by omega) (by omega) (by omega)
  ub:=λn m _ n2 n3=>by
   rw [yg n (by omega),yg m (by omega)]
   exact ub _ _ (by omega) (by omega) (by omega)
  na:=by omega
  nb:=by omega
  lo:=λn hn=>by
   rw [xg n (by omega),yg 0 (by omega),yCY,ZBI a2]
   exact Int.le_of_lt (a8 _ (by omega) (by omega))
  hi:=λn hn=>by
   rw [x1,xg _ (by omega),yg n (by omega),show J+k+(na-k-1)=J+na-1 by omega,ZBI a3]
   exact Int.le_of_lt (t2 n (by omega)) }
 have fin:∀ m st',Ev (setPending st (((pendingOf st).setIfInBounds i (J,na+nb,w)).eraseIdxIfInBounds (i+1))) st'->Fin f ((arrOf st).extract (J+k) (J+na)) ((arrOf st).extract (J+na) (J+na+t)) m ->
   wpS M A E s (modify (λz=>setArr z (ZDm (arrOf z) m (J+k))) >>= λ_=>get >>= λz=>pure (failedOf z).isNone) Q st':=by
  intro m st' ev g
  have ea:arrOf st'=arrOf st:=ev.a
  have hm:m.size=na-k+t:=by
   have:=g.1.length_eq
   rw [yAR,yAC,yAR,yAR,x1,y1] at this
   exact this
  refine wpS_bind (wpS_modify (wpS_bind (wpS_get (wpS_pure ?_))))
  have hf:failedOf st'=none:=ev.f.trans Y.fail
  show Q (failedOf st').isNone _
  rw [hf]
  have hl:J+k+m.size <= (arrOf st).size:=by omega
  have a5:∀ n,n < m.size->∃ p,J+k <= p /\ p < J+na+t /\ kn f m n=kn f (arrOf st) p:=λn hn=>by
   obtain ⟨x,hx⟩:=ZCo (a:=m) hn
   have a7:x∈m.toList:=by
    rw [yCD] at hx
    obtain ⟨_,rfl⟩:=hx
    simp
   have:=g.1.mem_iff.mp a7
   rw [ZBI hx]
   rcases yAY.mp this with z | z
   .obtain ⟨q,q1⟩:=yBY z
    rw [yBK] at q1
    have q2:=(yCD.mp q1).1
    refine ⟨J+k+q,by omega,by omega,?_⟩
    rw [<- xg q (by omega),ZBI q1]
   .obtain ⟨q,q1⟩:=yBY z
    rw [yBK] at q1
    have q2:=(yCD.mp q1).1
    refine ⟨J+na+q,by omega,by omega,?_⟩
    rw [<- yg q (by omega),ZBI q1]
  have ms:∀ n q,n <= q->q < m.size->kn f m n <= kn f m q:=λn q n1 n2=>by
   by_cases e:n=q
   .rw [e];exact Int.le_refl _
   .have:=yCX.mp g.2 n q (by rw [yAR];omega) (by rw [yAR];omega) (by omega)
    rw [ZBI (getElem?_pos m n (by omega)),ZBI (getElem?_pos m q n2)]
    simpa [leK] using this
  have lk:∀ n,kn f (ZDm (arrOf st') m (J+k)) n=if J+k <= n /\ n < J+na+t then kn f m (n-(J+k)) else kn f (arrOf st) n:=λn=>by
   rw [ea]
   have:=ZEe hl n
   by_cases e:J+k <= n /\ n < J+na+t
   .rw [if_pos e]
    rw [if_pos (by omega)] at this
    exact ZA2 this
   .rw [if_neg e]
    rw [if_neg (by omega)] at this
    exact ZA2 this
  refine h (setArr st' (ZDm (arrOf st') m (J+k))) ⟨?_,ev.k.trans Y.kind,hf⟩ ev.p (λn q n1 n2 n3=>?_) λn hn=>?_
  .show (ZDm (arrOf st') m (J+k)).Perm a₀
   rw [ea]
   refine Array.Perm.trans ?_ Y.perm
   rw [Array.perm_iff_toList_perm,lay_list hl]
   have e1:(arrOf st).toList=(arrOf st).toList.take (J+k)++(((arrOf st).extract (J+k) (J+na)).toList++((arrOf st).extract (J+na) (J+na+t)).toList)++(arrOf st).toList.drop (J+k+m.size):=by
    rw [yCV,yCV,yCW,yCW]
    have s1:((arrOf st).toList.drop (J+k)).take (J+na-(J+k))++((arrOf st).toList.drop (J+na)).take (J+na+t-(J+na))=((arrOf st).toList.drop (J+k)).take m.size:=by
     rw [show m.size=(J+na-(J+k))+(J+na+t-(J+na)) by omega,List.take_add,yCU,show J+k+(J+na-(J+k))=J+na by omega]
    rw [s1,yAN,show (arrOf st).toList.drop (J+k+m.size)=((arrOf st).toList.drop (J+k)).drop m.size by rw [yCU],yBJ,yBJ]
   conv=>rhs;rw [e1]
   exact List.Perm.append_right _ (List.Perm.append_left _ g.1)
  .show kn f (ZDm (arrOf st') m (J+k)) n <= kn f (ZDm (arrOf st') m (J+k)) q
   rw [lk,lk]
   by_cases c3:J+k <= n /\ n < J+na+t
   .rw [if_pos c3]
    by_cases c4:J+k <= q /\ q < J+na+t
    .rw [if_pos c4]
     exact ms _ _ (by omega) (by omega)
    .rw [if_neg c4]
     obtain ⟨p,q1,q2,q3⟩:=a5 (n-(J+k)) (by omega)
     rw [q3]
     by_cases c5:p < J+na
     .have z1:=a6 p (by omega) c5
      have z2:=a0 q (by omega) (by omega)
      omega
     .exact ub p q (by omega) (by omega) (by omega)
   .rw [if_neg c3]
    by_cases c4:J+k <= q /\ q < J+na+t
    .rw [if_pos c4]
     obtain ⟨p,q1,q2,q3⟩:=a5 (q-(J+k)) (by omega)
     rw [q3]
     have z1:=a1 n n1 (by omega)
     by_cases c5:p < J+na
     .exact ua n p n1 (by omega) c5
     .have z2:=O p (by omega) (by omega)
      omega
    .rw [if_neg c4]
     by_cases c5:q < J+na
     .exact ua n q n1 n2 c5
     .by_cases c6:n < J+na
      .have z1:=a1 n n1 (by omega)
       have z2:=O q (by omega) (by omega)
       omega
      .exact ub n q (by omega) n2 (by omega)
  .show (ZDm (arrOf st') m (J+k))[n]?=(arrOf st)[n]?
   rw [ea,ZEe hl,if_neg (by omega)]
 by_cases c3:na-k <= t
 .rw [if_pos c3]
  exact wpS_bind (mLo_ok L U.kind T fin)
 .rw [if_neg c3]
  exact wpS_bind (mHi_ok L U.kind T fin)
end
section
variable {M:Model}{A:Around}{E:Value->Shared->Prop}{s:Shared}{κ:SortKind}
def Chn (f:Keyed->Int)(xs:Array Keyed):Nat->List PT->Nat->Prop
 | a,[],e=>a=e
 | a,(b,n,_)::r,e=>b=a /\ 1 <= n /\ Up f xs a n /\ Chn f xs (a+n) r e
theorem Chn.le:∀ {l:List PT} {a e:Nat},Chn f xs a l e->a+l.length <= e
 | [],a,e,h=>by have:a=e:=h;rw [yBM];omega
 | (b,n,w)::r,a,e,h=>by
  obtain ⟨_,h1,_,h2⟩:=h
  have:=h2.le
  rw [yAG]
  omega
theorem Chn.keep:∀ {l:List PT} {a e:Nat},Chn f xs a l e->(∀ k,a <= k->k < e->ys[k]?=xs[k]?)->Chn f ys a l e
 | [],a,e,h,_=>h
 | (b,n,w)::r,a,e,⟨h0,h1,h2,h3⟩,k=>by
  have hl:=h3.le
  refine ⟨h0,h1,λi j J O U=>?_,h3.keep λm m1 Y=>k m (by omega) Y⟩
  rw [ZA2 (k i J (by omega)),ZA2 (k j (by omega) (by omega))]
  exact h2 i j J O U
theorem Chn.app {xs:Array Keyed}:∀ {l m:List PT} {a e:Nat},Chn f xs a (l++m) e↔∃ c,Chn f xs a l c /\ Chn f xs c m e
 | [],m,a,e=>⟨λh=>⟨a,rfl,h⟩,λ⟨c,h1,h2⟩=>by have:a=c:=h1;rw [this];exact h2⟩
 | (b,n,w)::r,m,a,e=>by
  constructor
  .rintro ⟨J,h1,h2,h3⟩
   obtain ⟨c,O,U⟩:=Chn.app.mp h3
   exact ⟨c,⟨J,h1,h2,O⟩,U⟩
  .rintro ⟨c,⟨J,h1,h2,O⟩,U⟩
   exact ⟨J,h1,h2,Chn.app.mpr ⟨c,O,U⟩⟩
theorem two_of (h:i+1 < l.length):∃ J x y l2,l=J++x::y::l2 /\ J.length=i:=by
 refine ⟨l.take i,l[i],l[i+1],l.drop (i+2),?_,by rw [yAP];omega⟩
 rw [<- yBT (by omega),<- yBT (by omega),yBJ]
theorem join_of {l2:List PT}{x y v:PT}(h:l.length=i):((l++x::y::l2).set i v).eraseIdx (i+1)=l++v::l2:=by
 subst h
 rw [List.set_append_right _ _ (yAB _),yBG,List.set_cons_zero,List.eraseIdx_append_of_length_le (by omega),show l.length+1-l.length=1 by omega]
 rfl
theorem join_at {st:SortSt}{Q:Bool->SortSt->Prop}(L:Asks M A E s κ a₀ f)(hB:SB κ a₀ st)(hc:Chn f (arrOf st) 0 (pendingOf st).toList lo)(a2:lo <= a₀.size)(hi:i+1 < (pendingOf st).size)
  (h:∀ st',SB κ a₀ st'->Chn f (arrOf st') 0 (pendingOf st').toList lo->(pendingOf st').size+1=(pendingOf st).size->(∀ k,lo <= k->(arrOf st')[k]?=(arrOf st)[k]?)->Q true st'):wpS M A E s (mergeAt' i) Q st:=by
 obtain ⟨l1,⟨J,n1,w1⟩,⟨b2,n2,w2⟩,l2,O,hl⟩:=two_of (l:=(pendingOf st).toList) (i:=i) (by rw [yAR];exact hi)
 have U:=hc
 rw [O] at U
 obtain ⟨c,c1,rfl,c2,c3,rfl,c4,c5,c6⟩:=Chn.app.mp U
 have le:=c6.le
 have p1:(pendingOf st)[i]?=some (J,n1,w1):=by
  rw [<- yBK,O,yAT (by omega),hl,yBG]
  rfl
 have p2:(pendingOf st)[i+1]?=some (J+n1,n2,w2):=by
  rw [<- yBK,O,yAT (by omega),show i+1-l1.length=1 by omega]
  rfl
 refine merge_at L hB p1 p2 c2 c4 (by omega) c3 c5 λst' Y hp hu hk=>?_
 have e2:(pendingOf st').toList=l1++(J,n1+n2,w1)::l2:=by
  rw [hp,Array.toList_eraseIdxIfInBounds,Array.toList_setIfInBounds,O]
  exact join_of hl
 refine h st' Y ?_ ?_ λk a1=>hk k (.inr (by omega))
 .rw [e2]
  have a0:=c1.le
  refine Chn.app.mpr ⟨J,c1.keep λk k1 k2=>hk k (.inl k2),rfl,by omega,hu,?_⟩
  rw [show J+(n1+n2)=J+n1+n2 by omega]
  exact c6.keep λk k1 k2=>hk k (.inr k1)
 .have z1:=congrArg List.length e2
  have z2:=congrArg List.length O
  rw [yAR,yAC,yAG] at z1 z2
  rw [yAG] at z2
  omega
theorem Chn.pow {b n a e:Nat}(h:Chn f xs a (l++[(b,n,w)]) e):Chn f xs a (l++[(b,n,v)]) e:=by
 obtain ⟨c,Y,O,c3,U,J⟩:=Chn.app.mp h
 exact Chn.app.mpr ⟨c,Y,O,c3,U,J⟩
noncomputable def more (sz pw:Nat):SM (Option Unit×Unit):=forIn [0:sz] ((none,()):Option Unit×Unit) λ_ _=>do
 let z <- get
 match if (pendingOf z).size > 1 then (pendingOf z)[(pendingOf z).size-2]? else none with
 | some (_,_,old)=>
  if old <= pw then pure (ForInStep.done (none,()))
  else do
   let b <- mergeAt' ((pendingOf z).size-2)
   if (!b)=true then pure (ForInStep.done (some (),())) else pure (ForInStep.yield (none,()))
 | _=>pure (ForInStep.done (none,()))
noncomputable def pile (sz lo n:Nat):SM (ForInStep (Option Unit×Nat)):=do
 let z <- get
 match (pendingOf z).back? with
 | some (s1,n1,_)=>do
  let c <- more sz (power' sz (2 * s1+n1) (2 * s1+n1+n1+n) sz)
  match c.fst with
  | some r=>pure (ForInStep.done (some r,lo))
  | none=>do
   modify λz=>setPending z ((pendingOf z).modify ((pendingOf z).size-1) λx=>(x.fst,x.2.fst,power' sz (2 * s1+n1) (2 * s1+n1+n1+n) sz))
   modify λz=>setPending z ((pendingOf z).push (lo,n,0))
   pure (ForInStep.yield (none,lo+n))
 | _=>do
  modify λz=>setPending z ((pendingOf z).push (lo,n,0))
  pure (ForInStep.yield (none,lo+n))
noncomputable abbrev PQ (κ:SortKind)(a₀:Array Keyed)(f:Keyed->Int)(lo n:Nat)(st:SortSt):Prop:=SB κ a₀ st /\ Chn f (arrOf st) 0 (pendingOf st).toList lo /\ Up f (arrOf st) lo n
theorem more_ok {pw n:Nat}{st:SortSt}{Q:Option Unit×Unit->SortSt->Prop}(L:Asks M A E s κ a₀ f)(a1:lo <= a₀.size)(Y:PQ κ a₀ f lo n st)(h:∀ st',PQ κ a₀ f lo n st'->Q (none,()) st'):wpS M A E s (more w pw) Q st:=by
 unfold more
 refine wpS_forRange (I:=λx c st'=>c=(none,()) /\ PQ κ a₀ f lo n st') ?_ ?_ ⟨rfl,Y⟩
 .rintro x c J _ _ ⟨rfl,hB,hc,hu⟩
  refine wpS_bind (wpS_get ?_)
  by_cases h1:(pendingOf J).size > 1
  .rw [if_pos h1,getElem?_pos (pendingOf J) ((pendingOf J).size-2) (by omega)]
   dsimp only
   split
   .exact wpS_pure (h _ ⟨hB,hc,hu⟩)
   .refine wpS_bind (join_at L hB hc a1 (by omega) λst2 U a0 _ O=>?_)
    exact wpS_pure ⟨rfl,U,a0,λi j z1 z2 z3=>by rw [ZA2 (O i z1),ZA2 (O j (by omega))];exact hu i j z1 z2 z3⟩
  .rw [if_neg h1]
   exact wpS_pure (h _ ⟨hB,hc,hu⟩)
 .rintro c J ⟨rfl,Y⟩
  exact h _ Y
theorem modify_last {p:Array PT}{b n:Nat}(h:p.toList=l++[(b,n,v)]):(p.modify (p.size-1) λx=>(x.fst,x.2.fst,w)).toList=l++[(b,n,w)]:=by
 have J:p.size=l.length+1:=by rw [<- yAR,h,yAC];rfl
 refine yDG λi=>?_
 rw [yBK,Array.getElem?_modify]
 rw [<- yBK,h]
 by_cases c:p.size-1=i
 .rw [if_pos c,yAT (by omega),yAT (by omega),show i-l.length=0 by omega]
  rfl
 .rw [if_neg c]
  by_cases c2:i < l.length
  .rw [yBB c2,yBB c2]
  .rw [yBO (by rw [yAC,yBD];omega),yBO (by rw [yAC,yBD];omega)]
theorem pile_ok {n:Nat}{st:SortSt}{Q:ForInStep (Option Unit×Nat)->SortSt->Prop}(L:Asks M A E s κ a₀ f)(hn:1 <= n)(a3:lo+n <= a₀.size)(hq:PQ κ a₀ f lo n st)
  (h:∀ st',SB κ a₀ st'->Chn f (arrOf st') 0 (pendingOf st').toList (lo+n)->Q (.yield (none,lo+n)) st'):wpS M A E s (pile a₀.size lo n) Q st:=by
 have fin:∀ st3:SortSt,PQ κ a₀ f lo n st3->wpS M A E s (modify (λz=>setPending z ((pendingOf z).push (lo,n,0))) >>= λ_=>pure (ForInStep.yield ((none,lo+n):Option Unit×Nat))) Q st3:=by
  rintro st3 ⟨U,a2,a1⟩
  refine wpS_bind (wpS_modify (wpS_pure (h _ ⟨U.perm,U.kind,U.fail⟩ ?_)))
  show Chn f (arrOf st3) 0 ((pendingOf st3).push (lo,n,0)).toList (lo+n)
  rw [Array.toList_push]
  exact Chn.app.mpr ⟨lo,a2,rfl,hn,a1,rfl⟩
 unfold pile
 refine wpS_bind (wpS_get ?_)
 cases hb:(pendingOf st).back? with
 | none=>exact fin st hq
 | some t=>
  obtain ⟨s1,n1,w1⟩:=t
  dsimp only
  refine wpS_bind (more_ok L (by omega) hq λst2 Y=>?_)
  dsimp only
  refine wpS_bind (wpS_modify (fin _ ?_))
  obtain ⟨O,J,a0⟩:=Y
  refine ⟨⟨O.perm,O.kind,O.fail⟩,?_,a0⟩
  show Chn f (arrOf st2) 0 ((pendingOf st2).modify _ _).toList lo
  rcases List.eq_nil_or_concat (pendingOf st2).toList with e | ⟨l,⟨b,k,v⟩,e⟩
  .have:pendingOf st2=#[]:=by rw [<- Array.toList_inj,e]
   rw [this] at J ⊢
   exact J
  .rw [List.concat_eq_append] at e
   rw [modify_last e]
   rw [e] at J
   exact J.pow
theorem ite_less (c:Prop)[Decidable c](n:Nat):(if c then n-1 else n) <= n:=by split <;> omega
theorem wpS_cast {m J:SM α}{Q Q':α->SortSt->Prop}{st:SortSt}(e:m=J)(h:wpS M A E s J Q' st)(q:∀ a st',Q' a st'->Q a st'):wpS M A E s m Q st:=by rw [e];exact wpS_mono h q
theorem sort_runs {st:SortSt}{Q:Unit->SortSt->Prop}(L:Asks M A E s κ a₀ f)(hB:SB κ a₀ st)(hp:pendingOf st=#[])(h2:2 <= a₀.size)
  (h:∀ st',SB κ a₀ st'->Up f (arrOf st') 0 a₀.size->Q () st'):wpS M A E s sortRuns' Q st:=by
 rw [sortRuns'_eq]
 refine wpS_bind (wpS_get ?_)
 dsimp only
 rw [hB.size]
 generalize minRun' a₀.size a₀.size 0=mr
 refine wpS_bind (wpS_mono (wpS_forRange (I:=λx c st'=>∃ lo,c=(none,lo) /\ SB κ a₀ st' /\ Chn f (arrOf st') 0 (pendingOf st').toList lo /\ lo <= a₀.size /\ min x a₀.size <= lo)
  (Q:=λc st'=>c=(none,a₀.size) /\ SB κ a₀ st' /\ Chn f (arrOf st') 0 (pendingOf st').toList a₀.size) ?_ ?_ ⟨0,rfl,hB,by rw [hp];rfl,by omega,by omega⟩) ?_)
 .rintro x c a1 _ hx ⟨lo,rfl,Y,U,ae,a9⟩
  dsimp only
  by_cases hge:lo≥a₀.size
  .rw [if_pos hge]
   have:lo=a₀.size:=by omega
   subst this
   exact wpS_pure ⟨rfl,Y,U⟩
  rw [if_neg hge]
  refine wpS_bind (count_run L (by omega) (by omega) Y λm st2 O aa ah a3 a7 a5=>?_)
  dsimp only
  have J:Chn f (arrOf st2) 0 (pendingOf st2).toList lo:=by
   rw [a5]
   exact U.keep λk _ k2=>a7 k k2
  have done:∀ (n:Nat) (st3:SortSt),1 <= n->lo+n <= a₀.size->PQ κ a₀ f lo n st3->wpS M A E s (pile a₀.size lo n)
    (λr st'=>match r with | .done c'=>c'=(none,a₀.size) /\ SB κ a₀ st' /\ Chn f (arrOf st') 0 (pendingOf st').toList a₀.size | .yield c'=>∃ lo,c'=(none,lo) /\ SB κ a₀ st' /\ Chn f (arrOf st') 0 (pendingOf st').toList lo /\ lo <= a₀.size /\ min (x+1) a₀.size <= lo) st3 :=
   λn st3 hn a2 hq=>pile_ok L hn a2 hq λst' ab af=>⟨lo+n,rfl,ab,af,a2,by omega⟩
  by_cases hlt:m < mr
  .rw [if_pos hlt]
   refine wpS_bind (wpS_lift (wpAny_rule ⟨rfl,?_⟩))
   refine wpS_bind (bin_sort L (by omega) (by omega) O a3 λst3 a0 a8 a6 ad=>?_)
   rw [if_neg (by decide)]
   refine wpS_cast (by
    refine bnd _ λz=>?_
    cases (pendingOf z).back? with
    | none=>rfl
    | some t=>
     obtain ⟨s1,n1,w1⟩:=t
     refine bnd2 (for2 λ_ c=>bnd _ λz2=>?_) λc=>?_
     .generalize (if (pendingOf z2).size > 1 then (pendingOf z2)[(pendingOf z2).size-2]? else none)=t2
      cases t2 with
      | none=>rfl
      | some t2=>rfl
     .obtain ⟨r,u⟩:=c
      cases r with
      | none=>rfl
      | some r=>rfl) (done _ st3 (by omega) (by omega) ⟨a0,by rw [ad];exact J.keep λk _ k2=>a6 k k2,a8⟩) λr st' z=>by cases r <;> exact z
  .rw [if_neg hlt]
   refine wpS_cast (by
    refine bnd _ λz=>?_
    cases (pendingOf z).back? with
    | none=>rfl
    | some t=>
     obtain ⟨s1,n1,w1⟩:=t
     refine bnd2 (for2 λ_ c=>bnd _ λz2=>?_) λc=>?_
     .generalize (if (pendingOf z2).size > 1 then (pendingOf z2)[(pendingOf z2).size-2]? else none)=t2
      cases t2 with
      | none=>rfl
      | some t2=>rfl
     .obtain ⟨r,u⟩:=c
      cases r with
      | none=>rfl
      | some r=>rfl) (done m st2 aa (by omega) ⟨O,J,a3⟩) λr st' z=>by cases r <;> exact z
 .rintro c a1 ⟨lo,rfl,Y,U,ae,a9⟩
  have:lo=a₀.size:=by omega
  subst this
  exact ⟨rfl,Y,U⟩
 .rintro c a1 ⟨rfl,Y,U⟩
  dsimp only
  refine wpS_bind (wpS_mono (wpS_forRange (I:=λx c st'=>c=(none,()) /\ SB κ a₀ st' /\ Chn f (arrOf st') 0 (pendingOf st').toList a₀.size /\ ((pendingOf st').size+x <= a₀.size∨(pendingOf st').size <= 1))
   (Q:=λc st'=>c=(none,()) /\ SB κ a₀ st' /\ Chn f (arrOf st') 0 (pendingOf st').toList a₀.size /\ (pendingOf st').size <= 1) ?_ ?_ ?_) ?_)
  .rintro x c st2 _ hx ⟨rfl,O,J,a4⟩
   refine wpS_bind (wpS_get ?_)
   by_cases h1:(pendingOf st2).size <= 1
   .rw [if_pos h1]
    exact wpS_pure ⟨rfl,O,J,h1⟩
   rw [if_neg h1]
   have go:∀ i,i+1 < (pendingOf st2).size->wpS M A E s (mergeAt' i >>= λb=>if (!b)=true then pure (ForInStep.done (some (),())) else pure (ForInStep.yield ((none,()):Option Unit×Unit)))
     (λr st'=>match r with | .done c'=>c'=(none,()) /\ SB κ a₀ st' /\ Chn f (arrOf st') 0 (pendingOf st').toList a₀.size /\ (pendingOf st').size <= 1 | .yield c'=>c'=(none,()) /\ SB κ a₀ st' /\ Chn f (arrOf st') 0 (pendingOf st').toList a₀.size /\ ((pendingOf st').size+(x+1) <= a₀.size∨(pendingOf st').size <= 1)) st2:=λi hi=>by
    refine wpS_bind (join_at L O J (yAB _) hi λst3 a0 ac ag _=>?_)
    exact wpS_pure ⟨rfl,a0,ac,by omega⟩
   refine wpS_mono (go _ ?_) λr st' z=>by cases r <;> exact z
   exact Nat.lt_of_le_of_lt (Nat.add_le_add_right (ite_less _ _) 1) (by omega)
  .rintro c st2 ⟨rfl,O,J,a4⟩
   exact ⟨rfl,O,J,by omega⟩
  .refine ⟨rfl,Y,U,.inl ?_⟩
   have:=U.le
   rw [yAR] at this
   omega
  .rintro c st2 ⟨rfl,O,J,a4⟩
   refine wpS_pure (h st2 O ?_)
   cases e:(pendingOf st2).toList with
   | nil=>
    rw [e] at J
    have:0=a₀.size:=J
    omega
   | cons t r=>
    have hl:=congrArg List.length e
    rw [yAR,yAG] at hl
    have hr:r=[]:=yBU.mp (by omega)
    subst hr
    obtain ⟨b,n,w⟩:=t
    rw [e] at J
    obtain ⟨_,_,hu,hn⟩:=J
    have:0+n=a₀.size:=hn
    rw [yBN] at this
    rw [<- this]
    exact hu
end
noncomputable abbrev ZCj (h:Heap)(a:Addr)(vs:List Value):Heap:=((h.update a (Obj.mapSeq λ_=>#[])).push (seqObj "tuple" vs.toArray 0)).push (seqObj "list" #[] 0)
section
variable {prog:Program}{w:World}{A:Around}{E:Value->Shared->Prop}{s:Shared}
theorem mid_old {h:Heap}{a b:Addr}{o:Obj}(J:b≠a)(e:h.get? b=some o):(ZCj h a vs).get? b=some o:=by
 refine Heap.get?_push_of_some _ (Heap.get?_push_of_some _ ?_)
 exact (Heap.get?_update_other _ _ (Ne.symm J)).trans e
theorem sort_any {a:Addr}{n:Nat}{κ:SortKind}{P:PySem.Fin->Shared->Prop}(ho:s.heap.get? a=some (seqObj "list" vs.toArray n))(hz:vs.length <= 1000)
  (O:2 <= vs.length->∀ Q':SortKind->Shared->Prop,Q' κ { s with heap:=ZCj s.heap a vs }->wpAny (model prog w) A (keyKind' vs.toArray) Q' E { s with heap:=ZCj s.heap a vs })
  (Y:2 <= vs.length->Asks (model prog w) A E { s with heap:=ZCj s.heap a vs } κ (pairsOf vs) f)
  (h:∀ out:Array Keyed,out.Perm (pairsOf vs)->Up f out 0 vs.length->P (.done (.ret .none)) { s with heap:=sortedHeap s.heap a vs (out.map (·.2)) }):wpAny (model prog w) A (Builtin.«list.sort» ⟨[.ref a],[]⟩) P E s:=by
 rw [list_sort_plain]
 have ha:a < s.heap.objs.size:=Heap.lt_size ho
 refine wpAny_bind (listItems_at ho rfl ?_)
 refine wpAny_bind (listUpdate_at ho rfl ?_)
 obtain ⟨e1,U⟩:∃ e1,(s.heap.update a (Obj.mapSeq λ_=>#[])).get? a=some (seqObj "list" #[] e1):=⟨_,get?_update_seq ho (λ_=>#[])⟩
 refine wpAny_bind (seqEpoch_at U rfl ?_)
 refine wpAny_bind (wpAny_newTuple (wpAny_bind (wpAny_newList (wpAny_holding ?_))))
 have J:(ZCj s.heap a vs).get? a=some (seqObj "list" #[] e1):=Heap.get?_push_of_some _ (Heap.get?_push_of_some _ U)
 show wpAny (model prog w) A _ P E { s with heap:=ZCj s.heap a vs }
 dsimp only
 have hsz:vs.toArray.size=vs.length:=yAU ..
 have hl:vs.length <= sizeLine:=yAL hz (by decide)
 rw [hsz]
 by_cases h2:vs.length < 2
 .rw [if_pos h2,if_pos h2]
  refine wpAny_bind (wpAny_pure ?_)
  rw [StateT.run_pure]
  refine wpAny_bind (wpAny_pure ?_)
  dsimp only
  refine wpAny_bind (seqEpoch_at J rfl ?_)
  refine wpAny_bind (listUpdate_at J rfl ?_ (hsz2:=by rw [Array.size_map];show (pairsOf vs).size <= _;rw [pairsOf_size];omega))
  rw [if_neg (by simp)]
  exact wpAny_pure (h (pairsOf vs) (Array.Perm.refl _) λi j _ z2 z3=>by rw [show i=j by omega];exact Int.le_refl _)
 .rw [if_neg h2,if_neg h2]
  refine wpAny_bind (O (by omega) _ ?_)
  refine wpAny_bind (wpAny_mono (sort_runs (st:=SortSt.mk' κ (vs.toArray.zip vs.toArray) #[] 7 none) (Q:=λ_ st'=>SB κ (pairsOf vs) st' /\ Up f (arrOf st') 0 (pairsOf vs).size) (Y (by omega)) ⟨Array.Perm.refl _,rfl,rfl⟩ rfl (by rw [pairsOf_size];omega) λst' a1 a2=>⟨a1,a2⟩) ?_ λ_ _ e=>e)
  rintro ⟨⟨⟩,st'⟩ s' ⟨rfl,hB,hu⟩
  dsimp only
  refine wpAny_bind (seqEpoch_at J rfl ?_)
  have hs:(arrOf st').size=(pairsOf vs).size:=hB.size
  rw [pairsOf_size] at hs hu
  refine wpAny_bind (listUpdate_at J rfl ?_ (hsz2:=by rw [Array.size_map];omega))
  rw [hB.fail,if_neg (by simp)]
  exact wpAny_pure (h _ hB.perm hu)
theorem sorted_any {l:Addr}{κ:SortKind}{Q:Value->Shared->Prop}(hl:s.heap.IsList l vs.toArray)(hz:vs.length <= 1000)
  (J:∀ h':Heap,(∀ b o,s.heap.get? b=some o->h'.get? b=some o)->2 <= vs.length->∀ (U:Around) (E':Value->Shared->Prop) (Q':SortKind->Shared->Prop),U.units <= A.units+8->Q' κ { s with heap:=h' }->wpAny (model prog w) U (keyKind' vs.toArray) Q' E' { s with heap:=h' })
  (O:∀ h':Heap,(∀ b o,s.heap.get? b=some o->h'.get? b=some o)->2 <= vs.length->∀ (U:Around) (E':Value->Shared->Prop),U.units <= A.units+8->Asks (model prog w) U E' { s with heap:=h' } κ (pairsOf vs) f)
  (h:∀ out:Array Keyed,out.Perm (pairsOf vs)->Up f out 0 vs.length->Q (.ref (s.heap.objs.size+1)) { s with heap:=sortedAll s.heap vs (out.map (·.2)) }):wpAny (model prog w) A (call (.builtin "sorted") [.ref l]) Q E s:=by
 refine Calls.call_function_entry kind_sorted plain_sorted entry_sorted (args_sorted1 _) ?_
 unfold Builtin.«sorted»
 refine wpAny_bind (m:=checkCount "sorted" 1 1 _) (wpAny_pure ?_)
 refine wpAny_bind (collect_list hl ?_ (yAL hz (by decide)))
 refine wpAny_bind (wpAny_newList ?_)
 have z1:((s.heap.push (seqObj "list" #[] 0)).update s.heap.objs.size (Obj.mapSeq (·++vs.toArray))).objs.size=s.heap.objs.size+1:=(Heap.size_update ..).trans (size_push' ..)
 have g1:(((s.heap.push (seqObj "list" #[] 0)).update s.heap.objs.size (Obj.mapSeq (·++vs.toArray))).push (seqObj "list" vs.toArray 0)).get? (s.heap.objs.size+1)=some (seqObj "list" vs.toArray 0):=by
  rw [<- z1];exact Heap.get?_push_size _ rfl
 have Y:∀ b o,s.heap.get? b=some o->(ZCj (((s.heap.push (seqObj "list" #[] 0)).update s.heap.objs.size (Obj.mapSeq (·++vs.toArray))).push (seqObj "list" vs.toArray 0)) (s.heap.objs.size+1) vs).get? b=some o:=λb o e=>by
  have lt:=Heap.lt_size e
  refine mid_old (yAQ (Nat.lt_succ_of_lt lt)) (Heap.get?_push_of_some _ ?_)
  exact (Heap.get?_update_other _ _ (Nat.ne_of_gt lt)).trans (Heap.get?_push_of_some _ e)
 show wpAny _ _ _ _ _ { s with heap:=((s.heap.push (seqObj "list" #[] 0)).update s.heap.objs.size (Obj.mapSeq (·++vs.toArray))).push (seqObj "list" vs.toArray 0) }
 rw [z1]
 refine wpAny_bind (wpAny_holding (wpAny_call_entry slot_list_sort ⟨_,g1,rfl⟩ entry_list_sort (sort_any g1 hz (λh2 Q' q=>J _ Y h2 _ _ Q' ?_ q) (λh2=>O _ Y h2 _ _ ?_) λout a1 a2=>⟨_,rfl,?_⟩) (args_list_sort _)))
 .show A.units+1+1 <= A.units+8;omega
 .show A.units+1+1 <= A.units+8;omega
 .exact wpAny_pure ⟨_,rfl,h out a1 a2⟩
end
end L2S
namespace L2
open PySem PySem.Spec PyProof.Rows L2S
theorem kn_K {xs:Array Keyed}{i:Nat}:kn (λp=>numOf p.1) xs i=PyProof.Rows.K xs i:=by
 unfold kn PyProof.Rows.K
 cases xs[i]? <;> rfl
section
variable {prog:Program}{w:World}{A:Around}{E:Value->Shared->Prop}{s:Shared}
theorem asks_ints {a₀:Array Keyed}(J:IntKeys a₀):Asks (model prog w) A E s oneType' a₀ λp=>numOf p.1 where
 lt:=λx y U hy st Q Y q=>by
  obtain ⟨n,t,e1⟩:=J x U
  obtain ⟨m,u,O⟩:=J y hy
  rw [lt'_eq]
  refine wpS_bind (wpS_get ?_)
  rw [Y,keyLt'_oneType]
  rw [e1,O] at q ⊢
  exact wpS_bind (wpS_lift (wpAny_attempt (oneLt_int ⟨rfl,wpS_pure q⟩)))
theorem kind_of_ints {vs:List Value}{ns:List Int}(J:IntsAre vs ns)(h2:2 <= vs.length):keyKind' vs.toArray=pure oneType':=by
 cases vs with
 | nil=>exact absurd h2 (by simp)
 | cons v₁ r=>
  cases r with
  | nil=>exact absurd h2 (by simp)
  | cons v₂ r=>exact keyKind_ints J
theorem sorted_intsB {l:Addr}{vs:List Value}{ns:List Int}{Q:Value->Shared->Prop}(hl:s.heap.IsList l vs.toArray)(J:IntsAre vs ns)(hz:vs.length <= 1000)
  (h:∀ (out:Array Value) (ns':List Int),IntsAre out.toList ns'->ns'.Perm ns->ns'.Pairwise (· <= ·)->Q (.ref (s.heap.objs.size+1)) { s with heap:=sortedAll s.heap vs out }):wpAny (model prog w) A (call (.builtin "sorted") [.ref l]) Q E s:=by
 refine sorted_any (κ:=oneType') (f:=λp=>numOf p.1) hl hz (λh' _ h2 A' U Q' _ q=>?_) (λh' _ h2 A' U _=>asks_ints J.intKeys) λout hp hu=>?_
 .rw [kind_of_ints J h2]
  exact wpAny_pure q
 .obtain ⟨ns',Y,a2,O⟩:=sorted_out J hp (λi j z1 z2=>by
   rw [pairsOf_size] at z2
   have:=hu i j (yAJ _) z1 (by omega)
   rw [kn_K,kn_K] at this
   exact this)
  exact h _ ns' Y a2 O
end
section
variable {X:Cx}
theorem call_sortedB:ZCE X (.builtin "sorted") (λxs H Q=>∃ (p:Addr) (ns:List Int),xs=[.ref p] /\ SqL X.K H p (ns.map V.int) /\ ns.length <= 1000 /\ ∀ (l:Addr) (ms:List Int),H l=none->ms.Perm ns->ms.Pairwise (· <= ·)->Q (.ref l) (upd H l (.lst (ms.map V.int)))):=by
 intro pins s σ H xs us Q I r h
 obtain ⟨p,ns,rfl,hq,hn,q⟩:=h
 obtain ⟨u,rfl,rx⟩:=ZC0 r
 cases rx
 obtain ⟨its,r',pl,hz⟩:=I.list hq
 have O:=r'.length
 rw [yAA] at O
 refine sorted_intsB pl.isList (intsAre_of r') (by omega) λout J a1 U a3=>?_
 obtain ⟨e,he⟩:=sortedAll_at s.heap its out
 have Y:J.length=ns.length:=U.length_eq
 refine ⟨.ref (s.heap.objs.size+1),_,I.laid (t':=s.toks) (λb o e=>sortedAll_old e) (yBF _) (o:=.lst (J.map V.int)) ⟨?_,out.toList,e,ZCp a1,by simpa using he⟩,rfl,q _ J (I.hok.fresh (yBF _)) U a3⟩
 rw [yAA]
 exact ZAW (by omega)
end
open PySem PySem.Spec PyProof.Rows L2S
def lxP (x y:Int×Int):Prop:=x.1 < y.1∨(x.1=y.1 /\ x.2 < y.2)
noncomputable instance (x y:Int×Int):Decidable (lxP x y):=by unfold lxP;exact inferInstance
noncomputable abbrev PrA:=Addr×Int×Int
variable {zs:List PrA}
noncomputable def ZDj (zs:List PrA)(v:Int×Int):Nat:=zs.countP λz=>decide (lxP z.2 v)
theorem rank_lt {x:PrA}{v:Int×Int}(J:x∈zs):ZDj zs x.2 < ZDj zs v↔lxP x.2 v:=by
 have mono:∀ (l:List PrA) (a b:Int×Int),(∀ z:Int×Int,lxP z a->lxP z b)->l.countP (λz=>decide (lxP z.2 a)) <= l.countP (λz=>decide (lxP z.2 b)):=λl a b h=>
  List.countP_mono_left λz _ e=>decide_eq_true (h _ (of_decide_eq_true e))
 constructor
 .intro h
  by_cases e:lxP x.2 v
  .exact e
  .have:=mono zs v x.2 λz O=>by unfold lxP at *;omega
   unfold ZDj at h
   omega
 .intro h
  obtain ⟨s,t,rfl⟩:=List.append_of_mem J
  unfold ZDj
  rw [List.countP_append,List.countP_append,List.countP_cons,List.countP_cons]
  have m:∀ z:Int×Int,lxP z x.2->lxP z v:=λz O=>by unfold lxP at *;omega
  have h1:=mono s x.2 v m
  have h2:=mono t x.2 v m
  have h3:decide (lxP x.2 x.2)=false:=decide_eq_false (by unfold lxP;omega)
  rw [h3,decide_eq_true h]
  simp only [yDF,if_false,if_true]
  omega
section
variable {prog:Program}{w:World}{A:Around}{E:Value->Shared->Prop}{s:Shared}
def PairAt (h:Heap)(z:PrA):Prop:=∃ o t u n,h.get? z.1=some o /\ o.cls=.type "tuple" /\ o.data=.seq #[.int z.2.1 t,.int z.2.2 u] n
theorem PairAt.keep {h h':Heap}{z:PrA}(p:PairAt h z)(k:∀ b o,h.get? b=some o->h'.get? b=some o):PairAt h' z:=let ⟨o,t,u,n,a,b,c⟩:=p;⟨o,t,u,n,k _ _ a,b,c⟩
noncomputable def ZFi (zs:List PrA):Value->Int×Int
 | .ref a=>((zs.find? λz=>decide (z.1=a)).map (·.2)).getD (0,0)
 | _=>(0,0)
theorem ZFB {h:Heap}(Y:∀ z∈zs,PairAt h z){z:PrA}(hz:z∈zs):ZFi zs (.ref z.1)=z.2:=by
 show ((zs.find? λy=>decide (y.1=z.1)).map (·.2)).getD (0,0)=z.2
 cases e:zs.find? λy=>decide (y.1=z.1) with
 | none=>exact absurd (List.find?_eq_none.mp e z hz) (by simp)
 | some y=>
  have h1:y.1=z.1:=by simpa using List.find?_some e
  have h2:=List.mem_of_find?_eq_some e
  obtain ⟨o,t,u,n,U,_,O⟩:=Y y h2
  obtain ⟨o',t',u',n',b1,_,b3⟩:=Y z hz
  rw [h1,b1] at U
  cases U
  rw [b3] at O
  have e1:y.2=z.2:=by
   injection O with a4 a5
   have J:=congrArg Array.toList a4
   simp at J
   exact Prod.ext J.1.1.symm J.2.1.symm
  exact e1
theorem kat_ints {a b a' b':Int}{t u t' u':Tok}{Q:Bool->Shared->Prop}(h:Q (decide (lxP (a,b) (a',b'))) s):PySem.W.KatLex prog w A true false Q [(.int a t,.int a' t'),(.int b u,.int b' u')] 0 s:=by
 refine PySem.W.kat_cons (wpAny_eqBool_int ?_)
 by_cases e:a=a'
 .rw [show (a == a')=true by simpa using e]
  refine PySem.W.kat_yes (PySem.W.kat_cons (wpAny_eqBool_int ?_))
  by_cases e2:b=b'
  .rw [show (b == b')=true by simpa using e2]
   refine PySem.W.kat_yes (PySem.W.kat_nil ?_)
   rw [decide_eq_false (by unfold lxP;dsimp only;omega)] at h
   exact h
  .rw [show (b == b')=false by simpa using e2]
   refine PySem.W.kat_no (PySem.W.kat_one _ _ (lt_int ?_))
   have J:decide (lxP (a,b) (a',b'))=decide (b < b'):=by
    by_cases z:b < b'
    .rw [decide_eq_true z];exact decide_eq_true (by unfold lxP;dsimp only;omega)
    .rw [decide_eq_false z];exact decide_eq_false (by unfold lxP;dsimp only;omega)
   rw [J] at h
   exact h
 .rw [show (a == a')=false by simpa using e]
  refine PySem.W.kat_no ?_
  have J:decide (lxP (a,b) (a',b'))=decide (a < a'):=by
   by_cases z:a < a'
   .rw [decide_eq_true z];exact decide_eq_true (by unfold lxP;dsimp only;omega)
   .rw [decide_eq_false z];exact decide_eq_false (by unfold lxP;dsimp only;omega)
  rw [J] at h
  exact oneLt_int h
theorem asks_pairs (hp:∀ z∈zs,PairAt s.heap z):Asks (model prog w) A E s (tuples' true) (pairsOf (zs.map λz=>Value.ref z.1)) λp=>(ZDj zs (ZFi zs p.1):Int) where
 lt:=λx y hx hy st Q hk q=>by
  have of:∀ p:Keyed,p∈(pairsOf (zs.map λz=>Value.ref z.1)).toList->∃ z∈zs,p.1=.ref z.1:=λp U=>by
   rw [pairsOf_toList] at U
   obtain ⟨z,Y,e⟩:=yBP.mp (mem_zip_self U).2
   exact ⟨z,Y,e.symm⟩
  obtain ⟨z,Y,ez⟩:=of x hx
  obtain ⟨O,J,ey⟩:=of y hy
  rw [ez,ey,ZFB hp Y,ZFB hp J] at q
  have er:decide ((ZDj zs z.2:Int) < (ZDj zs O.2:Int))=decide (lxP z.2 O.2):=by
   have:=rank_lt (v:=O.2) Y
   by_cases e:lxP z.2 O.2
   .rw [decide_eq_true e];exact decide_eq_true (by have:=this.mpr e;omega)
   .rw [decide_eq_false e];exact decide_eq_false (λc=>e (this.mp (by omega)))
  rw [er] at q
  rw [lt'_eq]
  refine wpS_bind (wpS_get ?_)
  rw [hk,ez,ey]
  obtain ⟨o,t,u,n,a1,a2,a3⟩:=hp z Y
  obtain ⟨o',t',u',n',b1,b2,b3⟩:=hp O J
  exact wpS_bind (wpS_lift (wpAny_attempt (PySem.W.kat_lt a1 a3 b1 b3 (kat_ints ⟨rfl,wpS_pure q⟩))))
theorem tups_of {h:Heap}:∀ {zs:List PrA},(∀ z∈zs,PairAt h z)->∃ fs,PySem.W.KatTups h (zs.map λz=>Value.ref z.1) fs /\ fs.length=zs.length /\ ∀ v∈fs,∃ n t,v=Value.int n t
 | [],_=>⟨[],trivial,rfl,λv h=>by cases h⟩
 | z::r,hp=>by
  obtain ⟨fs,f1,J,O⟩:=tups_of (zs:=r) λy Y=>hp y (yAE _ Y)
  obtain ⟨o,t,u,n,a1,a2,U⟩:=hp z yAD
  refine ⟨.int z.2.1 t::fs,PySem.W.KatTups.cons a1 a2 U rfl f1,by rw [yAG,yAG,J],λv hv=>?_⟩
  rcases yAI.mp hv with e | e
  .exact ⟨_,_,e⟩
  .exact O v e
theorem perm_map {α J:Type}(g:α->J):∀ {l:List J} {zs:List α},l.Perm (zs.map g)->∃ ms:List α,ms.Perm zs /\ l=ms.map g
 | [],zs,h=>by
  have:zs=[]:=by
   have:=h.length_eq
   rw [yBM,yAA] at this
   exact yBU.mp this.symm
  subst this
  exact ⟨[],.nil,rfl⟩
 | x::r,zs,h=>by
  obtain ⟨z,Y,e⟩:=yBP.mp (h.mem_iff.mp yAD)
  obtain ⟨a,b,rfl⟩:=List.append_of_mem Y
  have h2:(x::r).Perm (x::(a++b).map g):=by
   refine h.trans ?_
   rw [yAK,yAZ,e,yAK]
   exact List.perm_middle
  obtain ⟨ms,O,U⟩:=perm_map g (List.Perm.cons_inv h2)
  exact ⟨z::ms,(O.cons z).trans List.perm_middle.symm,by rw [U,yAZ,e]⟩
theorem sorted_pairs {l:Addr}{Q:Value->Shared->Prop}(hl:s.heap.IsList l (zs.map λz=>Value.ref z.1).toArray)(hp:∀ z∈zs,PairAt s.heap z)(O:zs.length <= 1000)
  (h:∀ (ms:List PrA),ms.Perm zs->ms.Pairwise (λx y=>¬ lxP y.2 x.2)->Q (.ref (s.heap.objs.size+1)) { s with heap:=sortedAll s.heap (zs.map λz=>Value.ref z.1) (ms.map λz=>Value.ref z.1).toArray }):wpAny (model prog w) A (call (.builtin "sorted") [.ref l]) Q E s:=by
 refine sorted_any (κ:=tuples' true) (f:=λp=>(ZDj zs (ZFi zs p.1):Int)) hl (by rw [yAA];exact O) (λh' k h2 A' E' Q' _ q=>?_) (λh' k h2 A' E' _=>asks_pairs (s:={ s with heap:=h' }) λz O=>(hp z O).keep k) λout ho hu=>?_
 .obtain ⟨fs,f1,f2,f3⟩:=tups_of (h:=h') λz O=>(hp z O).keep k
  rw [yAA] at h2
  refine PySem.W.kat_kind (T:=.type "int") f1 (by omega) (λv hv=>?_) rfl q
  obtain ⟨n,t,rfl⟩:=f3 v hv
  exact .now
 .have a1:out.toList.Perm (zs.map λz=>((Value.ref z.1,Value.ref z.1):Keyed)):=by
   have:=Array.perm_iff_toList_perm.mp ho
   rw [pairsOf_toList] at this
   rw [show (zs.map λz=>((Value.ref z.1,Value.ref z.1):Keyed))=(zs.map λz=>Value.ref z.1).zip (zs.map λz=>Value.ref z.1) by rw [List.zip_map']]
   exact this
  obtain ⟨ms,U,m2⟩:=perm_map _ a1
  have e:out.map (·.2)=(ms.map λz=>Value.ref z.1).toArray:=by
   apply Array.toList_inj.mp
   rw [Array.toList_map,m2,List.map_map]
   rfl
  rw [e]
  refine h ms U ?_
  rw [yCX]
  intro i j hi hj a0 Y
  have a2:ms.length=zs.length:=U.length_eq
  have J:∀ k (hk:k < ms.length),kn (λp=>(ZDj zs (ZFi zs p.1):Int)) out k=ZDj zs ms[k].2:=λk hk=>by
   have:out[k]?=some ((Value.ref ms[k].1,Value.ref ms[k].1):Keyed):=by
    rw [<- yBK,m2,yAM,yAF hk]
    rfl
   rw [ZBI this]
   dsimp only
   rw [ZFB hp (U.mem_iff.mp (List.getElem_mem hk))]
  have z:=hu i j (yAJ _) (yCB a0) (by rw [yAA];omega)
  rw [J i hi,J j hj] at z
  have:=(rank_lt (zs:=zs) (v:=ms[i].2) (U.mem_iff.mp (List.getElem_mem hj))).mpr Y
  omega
end
theorem vals_refs:∀ {zs:List PrA} {its:List Value},Vals (zs.map λz=>V.ref z.1) its->its=zs.map λz=>Value.ref z.1
 | [],_,.nil=>rfl
 | z::r,_,.cons a b=>by
  have e:=vals_refs b
  cases a
  rw [e]
  rfl
theorem refs_vals:∀ ms:List PrA,Vals (ms.map λz=>V.ref z.1) (ms.map λz=>Value.ref z.1)
 | []=>.nil
 | _::r=>.cons rfl (refs_vals r)
section
variable {X:Cx}
theorem call_sortedT:ZCE X (.builtin "sorted") (λxs H Q=>∃ (p:Addr) (zs:List PrA),xs=[.ref p] /\ SqL X.K H p (zs.map λz=>V.ref z.1) /\ (∀ z∈zs,SqT X.K H z.1 [.int z.2.1,.int z.2.2]) /\ zs.length <= 1000 /\ ∀ (l:Addr) (ms:List PrA),H l=none->ms.Perm zs->ms.Pairwise (λx y=>¬ lxP y.2 x.2)->Q (.ref l) (upd H l (.lst (ms.map λz=>V.ref z.1)))):=by
 intro pins s σ H xs us Q I r h
 obtain ⟨p,zs,rfl,hq,hz,hn,q⟩:=h
 obtain ⟨u,rfl,rx⟩:=ZC0 r
 cases rx
 obtain ⟨its,r',pl,Y⟩:=I.list hq
 obtain rfl:=vals_refs r'
 have O:∀ z∈zs,PairAt s.heap z:=λz J=>by
  obtain ⟨it,rt,pt,_⟩:=I.tuple (hz z J)
  obtain ⟨a,b,rfl,⟨t,rfl⟩,⟨t',rfl⟩⟩:=ZE0 rt
  obtain ⟨o,ho,hc,n,hd⟩:=pt
  exact ⟨o,t,t',n,ho,hc,hd⟩
 refine sorted_pairs pl.isList O hn λms U m2=>?_
 obtain ⟨e,he⟩:=sortedAll_at s.heap (zs.map λz=>Value.ref z.1) (ms.map λz=>Value.ref z.1).toArray
 have a0:ms.length=zs.length:=U.length_eq
 refine ⟨.ref (s.heap.objs.size+1),_,I.laid (t':=s.toks) (λb o e=>sortedAll_old e) (yBF _) (o:=.lst (ms.map λz=>V.ref z.1)) ⟨?_,(ms.map λz=>Value.ref z.1),e,refs_vals ms,he⟩,rfl,q _ ms (I.hok.fresh (yBF _)) U m2⟩
 rw [yAA]
 exact ZAW (by omega)
end
end L2
namespace Po
variable {a a' b b' x y:Nat}
noncomputable def st (acc h:Nat):Nat:=(((acc+h * 14029467366897019727) % 2 ^ 64 * 2 ^ 31 % 2 ^ 64+(acc+h * 14029467366897019727) % 2 ^ 64 / 2 ^ 33) * 11400714785074694791) % 2 ^ 64
noncomputable def G (a:Nat):Nat:=st 2870177450012600261 a * 839798700976720815 % 2 ^ 64
theorem ZFL (x:Nat):x * 2 ^ 31 % 2 ^ 64=x % 2 ^ 33 * 2 ^ 31:=by
 rw [show (2:Nat) ^ 64=2 ^ 33 * 2 ^ 31 by decide,Nat.mul_mod_mul_right]
theorem rot_lt (J:x < 2 ^ 64):x * 2 ^ 31 % 2 ^ 64+x / 2 ^ 33 < 2 ^ 64:=by rw [ZFL];omega
theorem rot_inj (J:x < 2 ^ 64)(U:y < 2 ^ 64)(h:x * 2 ^ 31 % 2 ^ 64+x / 2 ^ 33=y * 2 ^ 31 % 2 ^ 64+y / 2 ^ 33):x=y:=by
 rw [ZFL,ZFL] at h
 have a1:=Nat.div_add_mod x (2 ^ 33)
 have a2:=Nat.div_add_mod y (2 ^ 33)
 have O:x / 2 ^ 33 < 2 ^ 31:=by omega
 have Y:y / 2 ^ 33 < 2 ^ 31:=by omega
 generalize x / 2 ^ 33=q at *
 generalize y / 2 ^ 33=q' at *
 generalize x % 2 ^ 33=r at *
 generalize y % 2 ^ 33=r' at *
 omega
theorem back {p i:Nat}(h:p * i % 2 ^ 64=1)(J:x < 2 ^ 64):x * p % 2 ^ 64 * i % 2 ^ 64=x:=by
 rw [Nat.mod_mul_mod,Nat.mul_assoc,Nat.mul_mod,h,Nat.mul_one,Nat.mod_mod,Nat.mod_eq_of_lt J]
theorem st_inj (h:st a b=st a' b'):(a+b * 14029467366897019727) % 2 ^ 64=(a' + b' * 14029467366897019727) % 2 ^ 64:=by
 unfold st at h
 have J:(a+b * 14029467366897019727) % 2 ^ 64 < 2 ^ 64:=Nat.mod_lt _ (by decide)
 have l2:(a' + b' * 14029467366897019727) % 2 ^ 64 < 2 ^ 64:=Nat.mod_lt _ (by decide)
 generalize (a+b * 14029467366897019727) % 2 ^ 64=x at *
 generalize (a' + b' * 14029467366897019727) % 2 ^ 64=y at *
 have hi:11400714785074694791 * 614540362697595703 % 2 ^ 64=1:=by decide
 have e:=congrArg (λz=>z * 614540362697595703 % 2 ^ 64) h
 rw [back hi (rot_lt J),back hi (rot_lt l2)] at e
 exact rot_inj J l2 e
theorem to_G (h:(st 2870177450012600261 a+b * 14029467366897019727) % 2 ^ 64=x % 2 ^ 64):(G a+b) % 2 ^ 64=x * 839798700976720815 % 2 ^ 64:=by
 have e:=congrArg (λz=>z * 839798700976720815 % 2 ^ 64) h
 rw [Nat.mod_mul_mod,Nat.mod_mul_mod,Nat.add_mul,Nat.mul_assoc,Nat.add_mod,Nat.mul_mod b,show 14029467366897019727 * 839798700976720815 % 2 ^ 64=1 by decide,Nat.mul_one,Nat.mod_mod] at e
 unfold G
 rw [<- e,Nat.add_mod,Nat.mod_mod]
noncomputable def far (x y:Nat):Bool:=decide (1000 < (x+2 ^ 64-y) % 2 ^ 64) && decide ((x+2 ^ 64-y) % 2 ^ 64 < 2 ^ 64-1000)
noncomputable def ZEN:List Nat->Bool
 | []=>true
 | x::r=>r.all (far x) && ZEN r
theorem ZCP:∀ {l:List Nat} {i j x y:Nat},ZEN l=true->i < j->l[i]?=some x->l[j]?=some y->far x y=true
 | x::r,0,j+1,a,b,h,hij,h1,h2=>by
  unfold ZEN at h
  rw [yBX,List.all_eq_true] at h
  cases h1
  exact h.1 b (yAS (by simpa using h2))
 | x::r,i+1,j+1,a,b,h,hij,h1,h2=>by
  unfold ZEN at h
  rw [yBX] at h
  exact ZCP (i:=i) (j:=j) h.2 (by omega) (by simpa using h1) (by simpa using h2)
 | [],i,j,a,b,h,hij,h1,h2=>by simp at h1
theorem farG:ZEN ((List.range 205).map G++[9148689060682678900 * 839798700976720815 % 2 ^ 64])=true:=by decide +kernel
theorem G_at (h:a < 205):((List.range 205).map G++[9148689060682678900 * 839798700976720815 % 2 ^ 64])[a]?=some (G a):=by
 rw [yBB (by rw [yAA,List.length_range];exact h),yAM,List.getElem?_range h];rfl
theorem ZFc (h:far x y=true)(U:x < 2 ^ 64)(Y:y < 2 ^ 64)(O:b <= 500)(J:b' <= 500):(x+b) % 2 ^ 64≠(y+b') % 2 ^ 64:=by
 unfold far at h
 rw [yBX,decide_eq_true_iff,decide_eq_true_iff] at h
 omega
theorem G_lt (a:Nat):G a < 2 ^ 64:=Nat.mod_lt _ (by decide)
noncomputable def th (a b:Nat):Nat:=st (st 2870177450012600261 a) b
theorem th_lt (a b:Nat):th a b < 2 ^ 64:=Nat.mod_lt _ (by decide)
theorem th_inj (ha:a < 205)(J:a' < 205)(hb:b <= 500)(O:b' <= 500)(h:th a b=th a' b'):a=a' /\ b=b':=by
 unfold th at h
 have e:=st_inj (a:=st 2870177450012600261 a) (b:=b) (a':=st 2870177450012600261 a') (b':=b') h
 have U:=to_G (a:=a) (b:=b) (x:=st 2870177450012600261 a' + b' * 14029467366897019727) e
 have Y:=to_G (a:=a') (b:=b') (x:=st 2870177450012600261 a' + b' * 14029467366897019727) (Eq.refl _)
 rw [<- Y] at U
 clear Y e h
 rcases Nat.lt_trichotomy a a' with z | z | z
 .exact absurd U (ZFc (ZCP farG z (G_at ha) (G_at J)) (G_lt _) (G_lt _) hb O)
 .subst z
  have:=G_lt a
  generalize G a=g at *
  exact ⟨rfl,by omega⟩
 .exact absurd U.symm (ZFc (ZCP farG z (G_at J) (G_at ha)) (G_lt _) (G_lt _) O hb)
theorem th_ne (ha:a < 205)(O:b <= 500):th a b≠15576566623696079691:=by
 intro h
 have e:st (st 2870177450012600261 a) b=st 9148689060682678900 0:=by
  rw [show st 9148689060682678900 0=15576566623696079691 by decide +kernel];exact h
 have J:=to_G (a:=a) (b:=b) (x:=9148689060682678900) (by
  have:=st_inj (a:=st 2870177450012600261 a) (b:=b) (a':=9148689060682678900) (b':=0) e
  rw [yCA,yCY] at this
  exact this)
 have f:=ZCP (i:=a) (j:=205) farG ha (G_at ha) (y:=9148689060682678900 * 839798700976720815 % 2 ^ 64) (by
  rw [yAT (by rw [yAA,List.length_range];exact yAB _),yAA,List.length_range,yBG,List.getElem?_cons_zero])
 have:=ZFc f (G_lt _) (Nat.mod_lt _ (by decide)) O (b':=0) (by decide)
 rw [yCY,Nat.mod_mod] at this
 exact this J
noncomputable def fin (acc:Nat):Int:=if (acc+2870177450013471924) % 2 ^ 64=2 ^ 64-1 then 1546275796 else if (acc+2870177450013471924) % 2 ^ 64 < 2 ^ 63 then (((acc+2870177450013471924) % 2 ^ 64:Nat):Int) else (((acc+2870177450013471924) % 2 ^ 64:Nat):Int)-2 ^ 64
theorem fin_of (J:x < 2 ^ 64)(nx:x≠15576566623696079691):fin x=(((x+2870177450013471924) % 2 ^ 64:Nat):Int) /\ (x+2870177450013471924) % 2 ^ 64 < 2 ^ 63∨fin x=(((x+2870177450013471924) % 2 ^ 64:Nat):Int)-2 ^ 64 /\ ¬ (x+2870177450013471924) % 2 ^ 64 < 2 ^ 63 /\ (x+2870177450013471924) % 2 ^ 64≠2 ^ 64-1:=by
 have h1:¬ (x+2870177450013471924) % 2 ^ 64=2 ^ 64-1:=by omega
 unfold fin
 rw [if_neg h1]
 by_cases h2:(x+2870177450013471924) % 2 ^ 64 < 2 ^ 63
 .rw [if_pos h2];exact .inl ⟨rfl,h2⟩
 .rw [if_neg h2];exact .inr ⟨rfl,h2,h1⟩
theorem fin_inj (Y:x < 2 ^ 64)(hy:y < 2 ^ 64)(nx:x≠15576566623696079691)(U:y≠15576566623696079691)(h:fin x=fin y):x=y:=by
 rcases fin_of Y nx with ⟨O,l1⟩ | ⟨O,l1,_⟩ <;> rcases fin_of hy U with ⟨J,l2⟩ | ⟨J,l2,_⟩ <;> rw [O,J] at h <;> omega
end Po
namespace L2
open PySem PySem.Spec PyProof.Rows
variable {H:Hp}{J O U Y a1 a2 a3 a4 a5 a8 a9:Option V}{u:TS}{v:V}{a b d:Int}{l:List Value}{g:TG}{σ:St}{te:TE}{Q:VK}{tt:TT}
theorem hash_small (n:Nat)(hn:n <= 500):hashInt (n:Int)=n:=by
 have e:rawHash (n:Int)=n:=by
  unfold rawHash
  dsimp only
  rw [Int.natAbs_natCast,if_neg (show ¬ (n:Int) < 0 by omega),show (n:Int) % ((2 ^ 61-1:Nat):Int)=n by omega,if_neg (λz=>by have:=eq_of_beq z;omega)]
 unfold hashInt
 rw [e,if_neg (λz=>by have:=eq_of_beq z;omega)]
noncomputable def stI (acc:Nat)(h:Int):Nat:=Po.st acc (h % ((2 ^ 64:Nat):Int)).toNat
theorem fold_eq (J:List Int):Builtin.Tuple.tupleHashOf J=(if (J.foldl stI 2870177450012600261+(J.length ^^^ (2870177450012600261 ^^^ 3527539))) % 2 ^ 64 == 2 ^ 64-1 then 1546275796 else if (J.foldl stI 2870177450012600261+(J.length ^^^ (2870177450012600261 ^^^ 3527539))) % 2 ^ 64 < 2 ^ 63 then (((J.foldl stI 2870177450012600261+(J.length ^^^ (2870177450012600261 ^^^ 3527539))) % 2 ^ 64:Nat):Int) else (((J.foldl stI 2870177450012600261+(J.length ^^^ (2870177450012600261 ^^^ 3527539))) % 2 ^ 64:Nat):Int)-((2 ^ 64:Nat):Int)):=by
 unfold Builtin.Tuple.tupleHashOf
 rfl
theorem pairH {a b:Nat}(ha:a < 205)(hb:b <= 500):Builtin.Tuple.tupleHashOf [(a:Int),(b:Int)]=Po.fin (Po.th a b):=by
 have O:((a:Int) % ((2 ^ 64:Nat):Int)).toNat=a:=by omega
 have J:((b:Int) % ((2 ^ 64:Nat):Int)).toNat=b:=by omega
 have U:([(a:Int),(b:Int)].length ^^^ (2870177450012600261 ^^^ 3527539))=2870177450013471924:=by
  show (2 ^^^ (2870177450012600261 ^^^ 3527539):Nat)=_
  decide +kernel
 have Y:[(a:Int),(b:Int)].foldl stI 2870177450012600261=Po.th a b:=by
  rw [List.foldl_cons,List.foldl_cons,List.foldl_nil]
  unfold stI Po.th
  rw [O,J]
 rw [fold_eq,U,Y]
 unfold Po.fin
 by_cases h:(Po.th a b+2870177450013471924) % 2 ^ 64=2 ^ 64-1
 .rw [if_pos h,if_pos (beq_iff_eq.mpr h)]
 .rw [if_neg h,if_neg (λz=>h (beq_iff_eq.mp z))]
  rfl
theorem hash_pair (P:Program)(w:World){a b:Nat}(ha:a < 205)(J:b <= 500):(tupleKind (ZAa P w)).hash [.inl (a:Int),.inl (b:Int)]=Po.fin (Po.th a b):=by
 show reduceHash (Builtin.Tuple.tupleHashOf [hashInt (a:Int),hashInt (b:Int)])=_
 rw [hash_small a (by omega),hash_small b J]
 have e:=pairH ha J
 rw [e]
 unfold reduceHash
 have:=Po.fin_of (Po.th_lt a b) (Po.th_ne ha J)
 have h1:-(2 ^ 63:Int) <= Po.fin (Po.th a b) /\ Po.fin (Po.th a b) < 2 ^ 63 /\ Po.fin (Po.th a b)≠-1:=by omega
 rw [if_pos (by rw [yBX,decide_eq_true_iff,decide_eq_true_iff];exact ⟨h1.1,h1.2.1⟩),if_neg (λz=>h1.2.2 (eq_of_beq z))]
def ZFg (kvs:List (List Key×V)):Prop:=∀ kv∈kvs,∃ a b:Nat,kv.1=[.inl (a:Int),.inl (b:Int)] /\ a < 205 /\ b <= 500
section
variable {X:Cx}{pins:List (Addr×Obj)}{A:Around}{E:Value->Shared->Prop}{s:Shared}
theorem hash_nodup {P:Program}{w:World}:∀ {kvs:List (List Key×V)} {xs:List (List Key×Addr×Value)},ZFg kvs->KT H kvs xs->(xs.map (·.1)).Nodup->xs.Pairwise (λx y=>(entryOfKey (tupleKind (ZAa P w)) x).hash≠(entryOfKey (tupleKind (ZAa P w)) y).hash):=by
 intro kvs xs hk kt nd
 have keys:∀ x∈xs,∃ a b:Nat,x.1=[.inl (a:Int),.inl (b:Int)] /\ a < 205 /\ b <= 500:=by
  intro x U
  obtain ⟨y,hy,e⟩:∃ y∈kvs,y.1=x.1:=by
   clear nd hk
   induction kt with
   | nil=>cases U
   | @cons p q ps qs hq t ih=>
    rcases yAI.mp U with e | U
    .subst e;exact ⟨p,yAD,hq.1⟩
    .obtain ⟨y,h1,h2⟩:=ih U;exact ⟨y,yAE _ h1,h2⟩
  obtain ⟨a,b,h1,h2,h3⟩:=hk y hy
  exact ⟨a,b,by rw [<- e,h1],h2,h3⟩
 rw [List.Nodup,List.pairwise_map] at nd
 refine nd.imp_of_mem fun {x y} U hy ne e=>?_
 obtain ⟨a,b,e1,h1,h2⟩:=keys x U
 obtain ⟨a',b',Y,J,O⟩:=keys y hy
 have e:(tupleKind (ZAa P w)).hash x.1=(tupleKind (ZAa P w)).hash y.1:=e
 rw [e1,Y,hash_pair P w h1 h2,hash_pair P w J O] at e
 have:=Po.th_inj h1 J h2 O (Po.fin_inj (Po.th_lt _ _) (Po.th_lt _ _) (Po.th_ne h1 h2) (Po.th_ne J O) e)
 exact ne (by rw [e1,Y,this.1,this.2])
theorem one_hash {α:Type}(f:α->Int)(x:α):∀ {l:List α},l.Pairwise (λa b=>f a≠f b)->(l.filter (λy=>f y == f x)).length <= 1
 | [],_=>yAJ _
 | a::r,h=>by
  obtain ⟨h1,h2⟩:=List.pairwise_cons.mp h
  by_cases e:f a=f x
  .rw [yCK (by simpa using e)]
   have:r.filter (λy=>f y == f x)=[]:=List.filter_eq_nil_iff.mpr λb J z=>h1 b J (by rw [e];exact (by simpa using z:f b=f x).symm)
   rw [this]
   exact yAB _
  .rw [yCF (by simpa using e)]
   exact one_hash f x h2
theorem entries_empty {id:String}{d:Addr}{o:Obj}{es ep}{kvs:List (List Key×V)}{xs:List (List Key×Addr×Value)}{Q:Array DictEntry->Shared->Prop}(ho:s.heap.get? d=some o)(hd:o.data=.dict es ep)
  (Y:es.toList=xs.map (entryOfKey (tupleKind (ZAa X.prog X.w)))) (hk:∀ x∈xs,(tupleKind (ZAa X.prog X.w)).is s.heap x.1 x.2.1) (hp:xs.Pairwise (λx y=>(entryOfKey (tupleKind (ZAa X.prog X.w)) x).hash≠(entryOfKey (tupleKind (ZAa X.prog X.w)) y).hash)) (h:Q es s) :
  wpAny (model X.prog X.w) A (Builtin.Dict.entriesForEmpty id d) Q E s:=by
 unfold Builtin.Dict.entriesForEmpty
 refine wpAny_bind (wpAny_dictEntries ho hd ?_)
 refine wpAny_bind ?_
 rw [<- Array.forIn_toList]
 refine wpAny_forIn_list _ (λrest _ s'=>s'=s /\ ∀ e∈rest,e∈es.toList) _ ?_ ?_ _ _ ⟨rfl,λe z=>z⟩
 .rintro e rest b s' ⟨U,J⟩
  rw [U]
  have hm:=J e yAD
  rw [Y] at hm
  obtain ⟨x,hx,rfl⟩:=yBP.mp hm
  have hT:Shared.TypeIs s (.ref x.2.1) "tuple":=IsTupleKey.typeIs (hk x hx)
  have hsz:¬ (es.filter (λO=>O.hash == (entryOfKey (tupleKind (ZAa X.prog X.w)) x).hash)).size > 1:=by
   have e1:(es.filter (λO=>O.hash == (entryOfKey (tupleKind (ZAa X.prog X.w)) x).hash)).size=(es.toList.filter (λO=>O.hash == (entryOfKey (tupleKind (ZAa X.prog X.w)) x).hash)).length:=by
    rw [<- Array.toList_filter,yAR]
   rw [e1,Y]
   have:=one_hash (λy=>(entryOfKey (tupleKind (ZAa X.prog X.w)) y).hash) x hp
   rw [List.filter_map,yAA]
   have this:(xs.filter (λy=>(entryOfKey (tupleKind (ZAa X.prog X.w)) y).hash == (entryOfKey (tupleKind (ZAa X.prog X.w)) x).hash)).length <= 1:=this
   exact Nat.not_lt.mpr this
  show wpAny _ _ (Builtin.Dict.quietEq (.ref x.2.1) >>= _) _ _ _
  refine wpAny_bind ?_
  unfold Builtin.Dict.quietEq
  refine wpAny_bind (wpAny_specialOf hT F.slot_tuple_eq.lookup (wpAny_pure ?_))
  rw [if_pos (by decide),if_neg hsz]
  exact wpAny_pure ⟨rfl,λe z=>J e (yAE _ z)⟩
 .rintro b s' ⟨rfl,_⟩
  exact wpAny_pure h
theorem merge_copy {nm:String}{d o:Addr}{kvs:List (List Key×V)}{xs:List (List Key×Addr×Value)}{Q:Unit->Shared->Prop}(a5:d≠o)(a3:(o == sysModules)=false)(hd:s.heap.get? d=some { cls:=.type "dict",data:=.dict #[] })
  (ho:s.heap.DictOfH (tupleKind (ZAa X.prog X.w)) o xs) (hp:xs.Pairwise (λx y=>(entryOfKey (tupleKind (ZAa X.prog X.w)) x).hash≠(entryOfKey (tupleKind (ZAa X.prog X.w)) y).hash)) (hsz:xs.length <= sizeLine)
  (hQ:∀ h',Heap.SameBut d s.heap h'->(∃ od es ep,h'.get? d=some od /\ od.ExactDict /\ od.data=.dict es ep /\ es.toList=xs.map (entryOfKey (tupleKind (ZAa X.prog X.w))))->Q () { s with heap:=h' }) :
  wpAny (model X.prog X.w) A (Builtin.Dict.mergeDict nm d o) Q E s:=by
 obtain ⟨oo,J,a7,a1,a9,O,Y,a2,a8⟩:=id ho
 unfold Builtin.Dict.mergeDict
 rw [if_neg (by simpa using a5)]
 unfold Builtin.Dict.showsAll
 rw [if_neg (by rw [a3];exact yBH)]
 refine wpAny_bind (wpAny_pure ?_)
 refine wpAny_bind (wpAny_dictEntries a1 O ?_)
 have a0:({ cls:=.type "dict",data:=.dict #[] }:Obj).data=.dict #[] 0:=rfl
 dsimp only
 cases xs with
 | nil=>
  have h0:J=#[]:=by
   have:J.toList=[]:=Y
   exact Array.toList_eq_nil_iff.mp this
  subst h0
  rw [if_neg (by rw [show (#[]:Array DictEntry).all (λe=>(keyPart e.key).isSome)=true by simp];simp)]
  refine wpAny_bind (wpAny_dictEpoch a1 O ?_)
  refine wpAny_bind (wpAny_dictEntries a1 O ?_)
  refine wpAny_bind ?_
  rw [Std.Legacy.Range.forIn_eq_forIn_range']
  refine wpAny_pure (wpAny_pure (hQ s.heap (Heap.SameBut.refl _ _) ⟨_,_,_,hd,⟨rfl,rfl,rfl⟩,a0,rfl⟩))
 | cons x r=>
  have a6:(J.all λe=>(keyPart e.key).isSome)=false:=by
   rw [<- Array.all_toList,Y]
   rfl
  rw [if_pos (by rw [a6,Bool.and_false];rfl)]
  refine wpAny_bind (wpAny_dictEntries hd a0 ?_)
  rw [if_pos (by rfl)]
  refine wpAny_bind (entries_empty (kvs:=kvs) a1 O Y a2 hp ?_)
  have U:J.size=(x::r).length:=by rw [<- yAR,Y,yAA]
  have a4:J.isEmpty=false:=by
   cases e0:J.isEmpty with
   | false=>rfl
   | true=>rw [Array.isEmpty_iff.mp e0] at U;cases U
  rw [if_pos (by rw [a4];rfl)]
  refine wpAny_bind (wpAny_updateDictKeysTo hd a0 (wpAny_pure (hQ _ (Heap.SameBut.update ..) ⟨_,J,0+1,Heap.get?_update_self _ hd (Obj.isFreed_of_dict (Obj.data_mapDictKeys a0 _)),(show Obj.ExactDict _ from ⟨rfl,rfl,rfl⟩).mapDictKeys _,Obj.data_mapDictKeys a0 _,Y⟩)) (by omega))
theorem call_dictC:ZCE X (.type "dict") (λxs H Q=>∃ (p:Addr) (kvs:List (List Key×V)),xs=[.ref p] /\ H p=some (.dT kvs) /\ ZFg kvs /\ ∀ d,H d=none->Q (.ref d) (upd H d (.dT kvs))):=by
 intro pins s σ H xs us Q I r h
 obtain ⟨p,kvs,rfl,ad,a9,q⟩:=h
 obtain ⟨u,rfl,rx⟩:=ZC0 r
 cases rx
 obtain ⟨z,a8,xs,kt,dd⟩:=dt_of I.hok ad
 have ao:xs.length=kvs.length:=(Paired.length kt).symm
 have Y:(xs.map (·.1)).Nodup:=let ⟨_,_,_,_,_,_,_,_,hn⟩:=dd;hn
 have ac:=hash_nodup (P:=X.prog) (w:=X.w) a9 kt Y
 refine callType_codes (Q₁:=λobj s₁=>obj=.ref s.heap.objs.size /\ s₁={ s with heap:=s.heap.push { cls:=.type "dict",data:=.dict #[] } }) F.kt_called_dict (F.kt_typeCall_dict_1 _) F.entry_dict_init (kt_code_dict_new _ ⟨rfl,rfl⟩) ?_
 rintro obj s₁ ⟨rfl,rfl⟩
 have a0:(s.heap.push { cls:=.type "dict",data:=.dict #[] }).get? s.heap.objs.size=some { cls:=.type "dict",data:=.dict #[] }:=Heap.get?_push_size _ rfl
 have J:∀ b o,s.heap.get? b=some o->(s.heap.push { cls:=.type "dict",data:=.dict #[] }).get? b=some o:=λb o hb=>Heap.get?_push_of_some _ hb
 have hT:Shared.TypeIs { s with heap:=s.heap.push { cls:=.type "dict",data:=.dict #[] } } (.ref s.heap.objs.size) "dict":=⟨_,a0,rfl⟩
 have U:(s.heap.push { cls:=.type "dict",data:=.dict #[] }).DictOfH (tupleKind (ZAa X.prog X.w)) p xs:=by
  obtain ⟨o,es,ep,a1,a2,a3,a4,a5,a6⟩:=dd
  exact ⟨o,es,ep,J _ _ a1,a2,a3,a4,λx hx=>key_mono J (a5 x hx),a6⟩
 obtain ⟨oo,ap,ai,af,ae,ag,aj,ah,am⟩:=id U
 have O:Shared.TypeIs { s with heap:=s.heap.push { cls:=.type "dict",data:=.dict #[] } } (.ref p) "dict":=⟨oo,af,ae.1⟩
 have ab:s.heap.objs.size≠p:=by
  obtain ⟨_,_,_,hg,_⟩:=dd
  exact λe=>absurd (Heap.lt_size hg) (by rw [e];exact yBR _)
 refine ⟨hT,F.args_dict_init_2 _ _,?_⟩
 unfold Builtin.«dict.__init__»
 refine wpAny_bind ?_
 unfold Builtin.Dict.selfAndRest
 refine wpAny_bind (wpAny_notOrdered_dict hT ?_)
 show wpAny _ _ (pure (s.heap.objs.size,[Value.ref p])) _ _ _
 refine wpAny_pure ?_
 show wpAny _ _ (Builtin.Dict.updateFrom "dict.__init__" s.heap.objs.size (.ref p) [] .none) _ _ _
 unfold Builtin.Dict.updateFrom
 refine wpAny_bind (wpAny_typeOf O ?_)
 rw [if_neg (by decide)]
 refine wpAny_bind ?_
 unfold Builtin.Dict.merge
 refine wpAny_bind ?_
 unfold Builtin.Dict.readDirectly
 refine wpAny_bind (wpAny_isInstance O isSubtype_dict_dict ?_)
 simp only [Bool.not_true,yDF,if_false]
 refine wpAny_bind (wpAny_specialOf O F.slot_dict_iter.lookup (wpAny_pure ?_))
 simp only [beq_self_eq_true,if_true]
 refine wpAny_bind (wpAny_pure ?_)
 refine merge_copy (kvs:=kvs) ab a8 a0 U ac (by omega) λh' a7 aa=>?_
 show wpAny _ _ (Builtin.Dict.addKeywords s.heap.objs.size [] >>= _) _ _ _
 refine wpAny_bind (wpAny_pure (wpAny_pure ⟨rfl,?_⟩))
 obtain ⟨od,es,ep,g1,g2,g3,g4⟩:=aa
 refine ⟨.ref s.heap.objs.size,_,I.laid (h':=h') (t':=s.toks) (o:=.dT kvs) (λb o hb=>(a7.2 b (yAQ (Heap.lt_size hb))).trans (J _ _ hb)) (yAB _) ⟨z,?_,xs,kt.keeps λc ys ec=>?_,od,es,ep,g1,g2,g3,g4,Y⟩,rfl,q _ (I.hok.fresh (yAB _))⟩
 .have:=I.big
  exact beq_eq_false_iff_ne.mpr (Nat.ne_of_gt this)
 .rw [ZAJ (ZAD ec (I.hok.fresh (yAB _)))]
  exact ec
end
theorem rec_fn {P:Program}{w:World}{K:W.Frag}{mg:Str->Option Value}{base:Heap}{x:Str}{f:Addr}{fd:FuncData}{ps:List Str}{sp:Nat->Sp}(J:∀ vs H Q E,sp 0 vs H Q E->False)(O:Binds K fd ps [])(U:W.keepIn K (.ref f)=true)(hm:mg x=some (.ref f))
  (step:∀ n,Fn P w K mg base CX0 x n ps (sp n)->FnOk P w K mg base CX0 (n+1) f fd ps (sp (n+1))):∀ n,Fn P w K mg base CX0 x n ps (sp n)
 | 0=>⟨f,fd,⟨λvs H Q E h=>(J vs H Q E h).elim,λA outer s H args us vs Q E _ _ _ _ h=>(J vs H Q E h).elim⟩,O,U,hm⟩
 | n+1=>⟨f,fd,step n (rec_fn J O U hm step n),O,U,hm⟩
open PySem
theorem ZBV {c:Bool}{Q:Bool->Prop}(h:Q c):onB (.bl c) Q:=h
theorem ZC9 {g:Int->Int->V}{i j:Int}(h:Q (g i j) H):rI0 g (.int i) (.int j) H Q:=h
theorem tVar_1:tVar 1 (J::some v::σ) H Q=Q v H:=rfl
theorem tVar_2:tVar 2 (J::O::some v::σ) H Q=Q v H:=rfl
theorem tVar_3:tVar 3 (J::O::U::some v::σ) H Q=Q v H:=rfl
theorem tVar_4:tVar 4 (J::U::Y::O::some v::σ) H Q=Q v H:=rfl
theorem tVar_5:tVar 5 (J::U::a2::O::Y::some v::σ) H Q=Q v H:=rfl
theorem tVar_6:tVar 6 (J::U::a2::O::Y::a5::some v::σ) H Q=Q v H:=rfl
theorem tVar_7:tVar 7 (O::Y::a2::U::a4::a5::J::some v::σ) H Q=Q v H:=rfl
theorem tVar_8:tVar 8 (U::a1::a2::Y::a4::a5::J::O::some v::σ) H Q=Q v H:=rfl
theorem tVar_9:tVar 9 (U::a1::a2::Y::a4::a5::J::O::a8::some v::σ) H Q=Q v H:=rfl
theorem tVar_10:tVar 10 (U::a1::a2::Y::a4::a5::J::O::a8::a9::some v::σ) H Q=Q v H:=rfl
theorem tVar_11:tVar 11 (Y::a1::a2::a3::a4::a5::O::U::a8::a9::J::some v::σ) H Q=Q v H:=rfl
theorem tVar_12 {a0:Option V}:tVar 12 (a0::a1::a2::a3::a4::a5::U::Y::a8::a9::J::O::some v::σ) H Q=Q v H:=rfl
theorem tVar_13 {a0 a7:Option V}:tVar 13 (a0::a1::a2::a3::a4::a5::Y::a7::a8::a9::J::O::U::some v::σ) H Q=Q v H:=rfl
open PySem
def Cut (t:TS):TS:=t
theorem ZAR {X:Cx}{rest:List Stmt}(h:PSs X rest u):PSs X rest (Cut u):=h
theorem ZAX {D:Ends}(h:u D σ H):Cut u D σ H:=h
theorem us0 (h:l.length=0):l=[]:=yBU.mp h
theorem us1 (h:l.length=1):∃ J,l=[J]:=by
 cases l with
 | nil=>cases h
 | cons a l=>
  obtain rfl:=us0 (l:=l) (Nat.succ.inj h)
  exact ⟨a,rfl⟩
theorem us2 (h:l.length=2):∃ J O,l=[J,O]:=by
 cases l with
 | nil=>cases h
 | cons a l=>
  obtain ⟨b0,rfl⟩:=us1 (l:=l) (Nat.succ.inj h)
  exact ⟨a,b0,rfl⟩
theorem us3 (h:l.length=3):∃ O U Y,l=[O,U,Y]:=by
 cases l with
 | nil=>cases h
 | cons a l=>
  obtain ⟨b0,J,rfl⟩:=us2 (l:=l) (Nat.succ.inj h)
  exact ⟨a,b0,J,rfl⟩
theorem us4 (h:l.length=4):∃ U a1 a2 Y,l=[U,a1,a2,Y]:=by
 cases l with
 | nil=>cases h
 | cons a l=>
  obtain ⟨b0,J,O,rfl⟩:=us3 (l:=l) (Nat.succ.inj h)
  exact ⟨a,b0,J,O,rfl⟩
def tEither (t u:TE):TE:=λσ H Q=>t σ H Q∨u σ H Q
noncomputable def Itr3 (lo d:Int)(n:Nat):It:=⟨λi _=>i < n,λi H x H'=>H'=H /\ x=.int (lo+i * d),λi _=>n <= i⟩
theorem turn_range3 {P:Program}{w:World}{K:W.Frag}{tg:Expr}(it:Addr)(lo d:Int)(n:Nat):Turn P w K tg (Itr3 lo d n) [it] it (λi h=>IsRangeIter h it (lo+(i:Nat) * d) ((n:Int)-(i:Nat)) d) where
 mem:=by simp
 obj:=λi h st b J=>by
  have e:b=it:=by simpa using J
  subst e
  exact ⟨_,st,λv z=>by
   have z':Data.fields _=Data.cell v:=z
   cases z'⟩
 keep:=λi h h' st k=>k it (by simp) _ st
 item:=by
  intro X hP hw hK hc i pins s σ H E I O st Y
  subst hP hw hK
  obtain ⟨f0,f1,f2,f3,U,f5⟩:=O it (by simp)
  have W:=Walks.range (prog:=X.prog) (w:=X.w) (I.ok.hd hc) it lo d n
  refine W.item i s _ _ Y st λv h' tk hv st' kk=>?_
  obtain ⟨t,rfl⟩:=hv
  have I1:Inv X pins σ H { s with heap:=h',toks:=tk }:=I.turned (λb o J e=>kk b o (by simpa using J) e) f0 f1 f3 U f5
  exact ⟨_,rfl,ZF5 (s:={ s with heap:=h',toks:=tk }) (n:="range_iterator") st' rfl rfl (by decide) ⟨.int (lo+i * d),H,I1,⟨t,rfl⟩,⟨rfl,rfl⟩,st',λb J=>(O b J).1⟩⟩
 done:=by
  intro X hP hw hK hc i pins s σ H E I O st Y
  subst hP hw hK
  obtain ⟨f0,f1,f2,f3,U,f5⟩:=O it (by simp)
  exact wpAny_pyNext_range_end (I.ok.hd hc) st (by have:n <= i:=Y;omega) λh' eb=>⟨rfl,I.turned (t':=s.toks) (λb o J e=>eb b o J e) f0 f1 f3 U f5⟩
 self:=λ_ _ _ _ _ st h=>wpAny_pyIter_rangeiter st h
theorem ZB2 (J:0 < d):Builtin.Range.rangeSize a b d=if a < b then (b-a-1) / d+1 else 0:=by
 unfold Builtin.Range.rangeSize
 rw [if_pos J]
theorem rangeSize_nonneg (J:0 < d):0 <= Builtin.Range.rangeSize a b d:=by
 rw [ZB2 J]
 split
 .have:0 <= (b-a-1) / d:=Int.ediv_nonneg (by omega) (by omega)
  omega
 .omega
theorem small3 (h1:0 <= a)(h2:a <= 1000)(h3:0 <= b)(Y:b <= 1000)(J:0 < d)(h6:d <= 1000):Builtin.Range.small a b d=true:=by
 unfold Builtin.Range.small
 rw [ZB2 J]
 simp only [Builtin.Range.rangeFitsLong,yBX,Bool.or_eq_true,decide_eq_true_eq,beq_iff_eq]
 have e1:(b-a-1) / d <= 1000:=by
  by_cases z:0 <= b-a-1
  .exact Int.le_trans (Int.ediv_le_self _ z) (by omega)
  .have:(b-a-1) / d <= 0:=by
    have:=Int.ediv_neg_of_neg_of_pos (show b-a-1 < 0 by omega) J
    omega
   omega
 have U:-1001 <= (b-a-1) / d:=Int.le_ediv_of_mul_le J (by omega)
 have O:a < b->0 <= (b-a-1) / d:=λh=>Int.ediv_nonneg (by omega) (by omega)
 split
 .rename_i h
  have:=O h
  refine ⟨by omega,.inr ?_⟩
  rw [yBX,decide_eq_true_iff,decide_eq_true_iff]
  omega
 .exact ⟨by omega,.inl rfl⟩
section
variable {X:Cx}{tg:Expr}
theorem range_it3 {pins:List (Addr×Obj)}{s:Shared}{R:It->Hp->Prop}{E:Value->Shared->Prop}{lo hi:Int}{t u v:Tok}{tk:Nat}(I:Inv X pins σ H s)(hd:0 < d)(U:Builtin.Range.small lo hi d=true)
  (q:R (Itr3 lo d (Builtin.Range.rangeSize lo hi d).toNat) H):wpAny (model X.prog X.w) X.A (pyIter (.ref s.heap.objs.size)) (PIE X pins σ tg R) E { s with heap:=s.heap.push { cls:=.type "range",data:=.fields #[.int lo t,.int hi u,.int d v] },toks:=tk }:=by
 refine wpAny_pyIter_range (IsRange.new ..) U ?_
 have J:Inv X pins σ H { s with heap:=s.heap.push { cls:=.type "range",data:=.fields #[.int lo t,.int hi u,.int d v] },toks:=tk }:=I.kept λb o e=>Heap.get?_push_of_some _ e
 refine ⟨(s.heap.push { cls:=.type "range",data:=.fields #[.int lo t,.int hi u,.int d v] }).objs.size,[(s.heap.push { cls:=.type "range",data:=.fields #[.int lo t,.int hi u,.int d v] }).objs.size],_,_,H,rfl,
  J.kept (t':=tk) λb o e=>Heap.get?_push_of_some _ e,turn_range3 _ lo d (Builtin.Range.rangeSize lo hi d).toNat,?_,λb Y=>?_,q⟩
 .have e1:lo+((0:Nat):Int) * d=lo:=by simp
  have O:(((Builtin.Range.rangeSize lo hi d).toNat:Nat):Int)-((0:Nat):Int)=Builtin.Range.rangeSize lo hi d:=by have:=rangeSize_nonneg (a:=lo) (b:=hi) hd;omega
  show IsRangeIter _ _ (lo+((0:Nat):Int) * d) ((((Builtin.Range.rangeSize lo hi d).toNat:Nat):Int)-((0:Nat):Int)) d
  rw [e1,O]
  exact Heap.get?_push_size _ rfl
 .have e:b=(s.heap.push { cls:=.type "range",data:=.fields #[.int lo t,.int hi u,.int d v] }).objs.size:=by simpa using Y
  subst e
  exact J.fpOk (yAB _) (J.hok.fresh (yAB _))
def iRng3 (ta:TA):TI:=λσ H R=>ta σ H λvs H1=>∃ i j d:Int,vs=[.int i,.int j,.int d] /\ (0 <= i /\ i <= 1000 /\ 0 <= j /\ j <= 1000 /\ 0 < d /\ d <= 1000) /\ R (Itr3 i d (Builtin.Range.rangeSize i j d).toNat) H1
theorem pi_range3 {a b c:Expr}{ta:TA}{p pos:Pos}(Y:Gl X "range")(hm:X.mg "range"=none)(ha:PA X [a,b,c] ta)(hs:starEach [a,b,c] X.env=(false,eval a X.env)::starEach [b,c] X.env:=by rfl)(J:(backTo pos (starEach [b,c] X.env)).any (·.1)=false:=by rfl) :
  PI X tg (.Call (.Name "range" p) [a,b,c] [] pos) (iRng3 ta):=by
 intro pins s σ H R I h
 refine Call_ (ZCw I Y hm boot_range (PyProof.Rows.callWith_type1 (thn (ha pos pins s σ H _ I h) λus s1 zz=>?_) hs J))
 obtain ⟨vs,H1,I1,r1,O⟩:=zz
 obtain ⟨i,j,d,e,⟨O,q2,q3,q4,U,q6⟩,q⟩:=O
 subst e
 cases r1 with
 | cons r rr=>
  cases rr with
  | cons r' rr=>
   cases rr with
   | cons r'' rr=>
    cases rr
    obtain ⟨t,rfl⟩:=r
    obtain ⟨t',rfl⟩:=r'
    obtain ⟨a0,rfl⟩:=r''
    exact call_range_3 (by omega) (range_it3 I1 U (small3 O q2 q3 q4 U q6) q) (.inl (PyProof.noPylong_small (by omega)))
end
def compR3 (g:TG)(tt:TT)(te:TE)(σ0:St)(Q:VK)(x y z:V)(H1:Hp):Prop:=∃ i j d:Int,[x,y,z]=[.int i,.int j,.int d] /\ (0 <= i /\ i <= 1000 /\ 0 <= j /\ j <= 1000 /\ 0 < d /\ d <= 1000) /\
 ∃ W:Nat->Nat->List V->St->Hp->Prop,(∃ m,W 0 m [] σ0 H1) /\ ∀ k m ys σ H,W k m ys σ H ->
   ((Itr3 i d (Builtin.Range.rangeSize i j d).toNat).stop k H /\ ys.length <= sizeLine /\ ∀ p,H p=none->Q (.ref p) (upd H p (.lst ys))) ∨
   ((Itr3 i d (Builtin.Range.rangeSize i j d).toNat).go k H /\ ys.length < sizeLine /\ ∀ x H',(Itr3 i d (Builtin.Range.rangeSize i j d).toNat).yld k H x H'->g x σ H' λσ2 H2=>tt σ2 H2 λb H3=>if b=true then te σ2 H3 λy H4=>∃ m',m' < m /\ W (k+1) m' (ys++[y]) σ2 H4 else ∃ m',m' < m /\ W (k+1) m' ys σ2 H3)
theorem tCompR3_eq {k:Nat}{js:List Nat}{t u v:TE}:ZEG k js (iRng3 (ZC1 t (ZC1 u (ZC1 v tNil)))) g tt te σ H Q=t σ H (λx H1=>u σ H1 λy H2=>v σ H2 λz H3=>compR3 g tt te (up k js σ) Q x y z H3):=rfl
theorem compR3_of {i j:Int}{n:Nat}{σ0:St}(h:0 <= i /\ i <= 1000 /\ 0 <= j /\ j <= 1000 /\ 0 < d /\ d <= 1000)(hn:(Builtin.Range.rangeSize i j d).toNat=n)(hz:n <= sizeLine)(P:Nat->List V->St->Hp->Prop)(O:P 0 [] σ0 H)(hl:∀ i ys σ H,P i ys σ H->ys.length <= i)
  (U:∀ k ys σ H,k < n->P k ys σ H->g (.int (i+k * d)) σ H λJ H2=>tt J H2 λb H3=>if b=true then te J H3 λy H4=>Nxt P n k (ys++[y]) J H4 else Nxt P n k ys J H3)
  (Y:∀ ys σ H,P n ys σ H->∀ p,H p=none->Q (.ref p) (upd H p (.lst ys))):compR3 g tt te σ0 Q (.int i) (.int j) (.int d) H:=by
 refine ⟨i,j,d,rfl,h,?_⟩
 rw [hn]
 refine ⟨λk m ys σ H=>m=n-k /\ k <= n /\ P k ys σ H,⟨n,by simp,yAJ _,O⟩,?_⟩
 rintro k m ys σ H ⟨rfl,hi,p⟩
 have ly:=hl k ys σ H p
 by_cases hlt:k < n
 .refine .inr ⟨hlt,by omega,λx H' y=>?_⟩
  obtain ⟨rfl,rfl⟩:=y
  exact U k ys σ _ hlt p
 .have e:k=n:=by omega
  subst e
  exact .inl ⟨yAB _,by omega,Y ys σ H p⟩
def tBL (K:W.Frag)(t:TE):TT:=λσ H Q=>t σ H λx H1=>∃ a xs,x=.ref a /\ SqL K H1 a xs /\ Q (!xs.isEmpty) H1
section
variable {X:Cx}
theorem pt_lst {e:Expr}{t:TE}(h:PE X e t)(he:∀ J,isTrue e X.env J=(do let v <- J;standAt e.pos;holding [v] (truthy v)):=by intro _;rfl):PT X e (tBL X.K t):=by
 intro pins s σ H Q I hw
 refine isTrue_plain (thn (h pins s σ H _ I hw) λv s1 zz=>?_) (he _)
 obtain ⟨x,H1,O,r1,U⟩:=zz
 obtain ⟨a,xs,rfl,Y,q⟩:=U
 cases r1
 obtain ⟨its,rv,p,hz⟩:=O.list Y
 have hl:=rv.length
 refine wpAny_truthy_list p.isList ?_ ?_
 .rw [yAU,<- hl]
  exact Int.lt_of_le_of_lt (Int.ofNat_le.mpr hz) (by decide)
 .refine ⟨H1,O.kept (t':=s1.toks+1+1) (λb o e=>e),?_⟩
  have:(!(its.toArray).isEmpty)=!xs.isEmpty:=by
   cases xs <;> cases its <;> first | rfl | cases hl
  rw [this];exact q
end
end L2
namespace Gr
noncomputable def qt (m a:Int)(p:Nat):Int:=a * 2 ^ p / (2 * m)
structure IsG (m a b:Int)(g:Nat):Prop where
 pos:1 <= g
 eq:∀ q,1 <= q->q < g->qt m a q=qt m b q
 ne:qt m a g≠qt m b g
theorem p2pos (p:Nat):(0:Int) < 2 ^ p:=Int.pow_pos (by decide)
theorem IsG.uniq {m a b:Int}{g h:Nat}(x:IsG m a b g)(y:IsG m a b h):g=h:=by
 rcases Nat.lt_trichotomy g h with l | l | l
 .exact absurd (y.eq g x.pos l) x.ne
 .exact l
 .exact absurd (x.eq h y.pos l) y.ne
theorem qt_ne {m a b:Int}{p:Nat}(hm:0 < m)(J:a+2 <= b)(O:m <= 2 ^ p):qt m a p≠qt m b p:=by
 unfold qt
 have h1:a * 2 ^ p+2 * m <= b * 2 ^ p:=by
  have:(a+2) * 2 ^ p <= b * 2 ^ p:=Int.mul_le_mul_of_nonneg_right J (Int.le_of_lt (p2pos p))
  rw [Int.add_mul] at this
  omega
 have h2:(a * 2 ^ p+2 * m) / (2 * m) <= b * 2 ^ p / (2 * m):=Int.ediv_le_ediv (by omega) h1
 rw [Int.add_ediv_of_dvd_right (Int.dvd_refl _),Int.ediv_self (by omega)] at h2
 omega
end Gr
namespace Pw
variable {B l os r:List Nat}{f k pl stop x y z:Nat}{fal:Bool}
noncomputable abbrev A3:=Nat×Nat×Bool
variable {pr':List A3}
inductive Pg (α:Type) where
 | ret (a:α):Pg α
 | ask (p q:Nat) (k:Bool->Pg α):Pg α
noncomputable def Pg.bind {α β:Type}(f:α->Pg β):Pg α->Pg β
 | .ret a=>f a
 | .ask p q k=>.ask p q λb=>(k b).bind f
noncomputable def ahd {α:Type}(p q:Nat)(k:Bool->Pg α):Pg α:=.ask (max p q) (min p q) λb=>k (if q < p then b else !b)
noncomputable def Pg.run {α:Type}(An:Nat->Nat->Nat->Bool):Nat->Pg α->α×List A3
 | _,.ret a=>(a,[])
 | n,.ask p q k=>(((k (An n p q)).run An (n+1)).1,(p,q,An n p q)::((k (An n p q)).run An (n+1)).2)
section
variable {α β:Type}{n:Nat}{An:Nat->Nat->Nat->Bool}
def Wp (n:Nat)(An:Nat->Nat->Nat->Bool):Pg α->List A3->(α->List A3->Prop)->Prop
 | .ret a,pr,post=>post a pr
 | .ask p q k,pr,post=>q < p /\ p < n /\ pr.length <= 800000 /\ Wp n An (k (An pr.length p q)) (pr++[(p,q,An pr.length p q)]) post
theorem Wp.imp {P Q:α->List A3->Prop}:∀ {x:Pg α} {pr:List A3},Wp n An x pr P->(∀ a pr',P a pr'->Q a pr')->Wp n An x pr Q
 | .ret a,pr,h,f=>f a pr h
 | .ask p q k,pr,h,f=>⟨h.1,h.2.1,h.2.2.1,h.2.2.2.imp f⟩
theorem Wp.bind {f:α->Pg β}{P:β->List A3->Prop}:∀ {x:Pg α} {pr:List A3},Wp n An (x.bind f) pr P->Wp n An x pr λa pr'=>Wp n An (f a) pr' P
 | .ret a,pr,h=>h
 | .ask p q k,pr,h=>⟨h.1,h.2.1,h.2.2.1,Wp.bind h.2.2.2⟩
def Pg.Al:Pg α->(α->Prop)->Prop
 | .ret a,P=>P a
 | .ask _ _ k,P=>∀ b,(k b).Al P
theorem Pg.Al.imp {P Q:α->Prop}:∀ {x:Pg α},x.Al P->(∀ a,P a->Q a)->x.Al Q
 | .ret a,h,f=>f a h
 | .ask _ _ k,h,f=>λb=>(h b).imp f
theorem Pg.Al.bind {f:α->Pg β}{P:β->Prop}:∀ {x:Pg α},(x.Al λa=>(f a).Al P)->(x.bind f).Al P
 | .ret a,h=>h
 | .ask _ _ k,h=>λb=>Pg.Al.bind (h b)
theorem Wp.also {P:α->List A3->Prop}{Q:α->Prop}:∀ {x:Pg α} {pr:List A3},Wp n An x pr P->x.Al Q->Wp n An x pr λa pr'=>Q a /\ P a pr'
 | .ret a,pr,h,g=>⟨g,h⟩
 | .ask p q k,pr,h,g=>⟨h.1,h.2.1,h.2.2.1,h.2.2.2.also (g _)⟩
def Wa (n:Nat):Pg α->List A3->(α->List A3->Prop)->Prop
 | .ret a,pr,post=>post a pr
 | .ask p q k,pr,post=>q < p /\ p < n /\ pr.length <= 800000 /\ ∀ b,Wa n (k b) (pr++[(p,q,b)]) post
theorem Wa.imp {P Q:α->List A3->Prop}:∀ {x:Pg α} {pr:List A3},Wa n x pr P->(∀ a pr',P a pr'->Q a pr')->Wa n x pr Q
 | .ret a,pr,h,f=>f a pr h
 | .ask p q k,pr,h,f=>⟨h.1,h.2.1,h.2.2.1,λb=>(h.2.2.2 b).imp f⟩
theorem Wa.bind {f:α->Pg β}{P:β->List A3->Prop}:∀ {x:Pg α} {pr:List A3},(Wa n x pr λa pr'=>Wa n (f a) pr' P)->Wa n (x.bind f) pr P
 | .ret a,pr,h=>h
 | .ask p q k,pr,h=>⟨h.1,h.2.1,h.2.2.1,λb=>Wa.bind (h.2.2.2 b)⟩
theorem Wa.wp (An:Nat->Nat->Nat->Bool){P:α->List A3->Prop}:∀ {x:Pg α} {pr:List A3},Wa n x pr P->Wp n An x pr λa pr'=>P a pr' /\ (a,pr')=((x.run An pr.length).1,pr++(x.run An pr.length).2)
 | .ret a,pr,h=>⟨h,by rw [Pg.run,yBA]⟩
 | .ask p q k,pr,h=>by
  refine ⟨h.1,h.2.1,h.2.2.1,(Wa.wp An (h.2.2.2 _)).imp λa pr' z=>⟨z.1,?_⟩⟩
  have e:(pr++[(p,q,An pr.length p q)]).length=pr.length+1:=by rw [yAC];rfl
  rw [z.2,Pg.run,e,yAN];rfl
end
def Td (pr:List A3)(p q:Nat):Prop:=∃ b,(max p q,min p q,b)∈pr /\ (if q < p then b else !b)=true
theorem Td.mono {pr:List A3}{p q:Nat}(h:Td pr p q)(f:pr <+: pr'):Td pr' p q:=let ⟨b,h1,h2⟩:=h;⟨b,f.subset h1,h2⟩
theorem Wa.ahd {α:Type}{n p q:Nat}{pr:List A3}{k:Bool->Pg α}{P:α->List A3->Prop}(J:p≠q)(U:p < n)(O:q < n)(hl:pr.length <= 800000)
  (h:∀ b pr',pr <+: pr'->pr'.length=pr.length+1->(b=true->Td pr' p q)->(b=false->Td pr' q p)->Wa n (k b) pr' P):Wa n (ahd p q k) pr P:=by
 refine ⟨by omega,by omega,hl,λb=>h _ _ (List.prefix_append _ _) (by rw [yAC];rfl) (λz=>⟨b,yAW _ yAD,z⟩) λz=>⟨b,yAW _ (by rw [show max q p=max p q by omega,show min q p=min p q by omega];exact yAD),?_⟩⟩
 by_cases c:q < p
 .rw [if_pos c] at z
  rw [if_neg (by omega),z];rfl
 .rw [if_neg c] at z
  rw [if_pos (by omega)]
  cases b
  .cases z
  .rfl
def Nb (R:Nat->Nat->Prop):List Nat->Prop
 | []=>True
 | [_]=>True
 | a::b::l=>R a b /\ Nb R (b::l)
theorem Nb.mono {R S:Nat->Nat->Prop}(f:∀ a b,R a b->S a b):∀ {l:List Nat},Nb R l->Nb S l
 | [],_=>trivial
 | [_],_=>trivial
 | _::_::_,h=>⟨f _ _ h.1,Nb.mono f h.2⟩
theorem Nb.split {R:Nat->Nat->Prop}{x:Nat}{r:List Nat}:∀ {l:List Nat},Nb R (l++x::r)↔Nb R (l++[x]) /\ Nb R (x::r)
 | []=>⟨λh=>⟨trivial,h⟩,λh=>h.2⟩
 | [a]=>⟨λh=>⟨⟨h.1,trivial⟩,h.2⟩,λh=>⟨h.1.1,h.2⟩⟩
 | a::b::l=>⟨λh=>⟨⟨h.1,(Nb.split (l:=b::l).mp h.2).1⟩,(Nb.split (l:=b::l).mp h.2).2⟩,λh=>⟨h.1.1,(Nb.split (l:=b::l)).mpr ⟨h.1.2,h.2⟩⟩⟩
theorem Nb.left {R:Nat->Nat->Prop}(h:Nb R (l++r)):Nb R l:=by
 induction l with
 | nil=>exact trivial
 | cons a l ih=>
  cases l with
  | nil=>exact trivial
  | cons b l=>exact ⟨h.1,ih h.2⟩
theorem Nb.right {R:Nat->Nat->Prop}{r:List Nat}:∀ {l:List Nat},Nb R (l++r)->Nb R r
 | [],h=>h
 | [a],h=>by
  cases r with
  | nil=>exact trivial
  | cons b r=>exact h.2
 | a::b::l,h=>Nb.right (l:=b::l) h.2
theorem Nb.two {R:Nat->Nat->Prop}:Nb R (l++x::y::r)↔Nb R (l++[x]) /\ R x y /\ Nb R (y::r):=Nb.split
theorem Nb.rev {R:Nat->Nat->Prop}:∀ {l:List Nat},Nb (λa b=>R b a) l->Nb R l.reverse
 | [],_=>trivial
 | [_],_=>trivial
 | a::b::l,h=>by
  have:=Nb.rev h.2
  rw [List.reverse_cons] at this
  rw [List.reverse_cons,List.reverse_cons,yAN]
  exact Nb.two.mpr ⟨this,h.1,trivial⟩
noncomputable abbrev Nt (pr:List A3):List Nat->Prop:=Nb (Td pr)
theorem Nt.mono {pr:List A3}(h:Nt pr l)(f:pr <+: pr'):Nt pr' l:=Nb.mono (λ_ _ z=>z.mono f) h
noncomputable def galP (os:List Nat)(pl:Nat):Nat->Nat->Nat->Pg (Nat×Nat)
 | 0,lo,hi=>.ret (lo,hi)
 | n+1,lo,hi=>if hi < os.length then ahd (os.getD hi 0) pl λb=>if b then galP os pl n (hi+1) (2 * hi+1) else .ret (lo,hi) else .ret (lo,hi)
noncomputable def binP (os:List Nat)(pl:Nat):Nat->Nat->Nat->Pg Nat
 | 0,_,hi=>.ret hi
 | n+1,lo,hi=>if lo < hi then ahd (os.getD ((lo+hi-1) / 2) 0) pl λb=>if b then binP os pl n ((lo+hi-1) / 2+1) hi else binP os pl n lo ((lo+hi-1) / 2) else .ret hi
noncomputable def ZE5 (os:List Nat)(pl:Nat):Pg Nat:=(galP os pl os.length 0 0).bind λr=>binP os pl os.length r.1 (min r.2 os.length)
noncomputable def ZCx:Nat->Bool->Nat->List Nat->List Nat->List Nat->Pg (List Nat)
 | n+1,s,w,x::l,y::r,acc=>ahd x y λb=>
  if (if b=s then w+1 else 1)=4 then
   if b then (ZE5 l y).bind λk=>if k < l.length then ZCx n b 0 (l.drop k) r (acc++x::l.take k++[y]) else ZCx n b 0 (l.drop k) (y::r) (acc++x::l.take k)
   else (ZE5 r x).bind λk=>if k < r.length then ZCx n b 0 l (r.drop k) (acc++y::r.take k++[x]) else ZCx n b 0 (x::l) (r.drop k) (acc++y::r.take k)
  else if b then ZCx n b (if b=s then w+1 else 1) l (y::r) (acc++[x]) else ZCx n b (if b=s then w+1 else 1) (x::l) r (acc++[y])
 | _,_,_,l,r,acc=>.ret (acc++l++r)
noncomputable def ZD8 (l r:List Nat):Pg (List Nat):=ZCx (l.length+r.length) true 0 l r []
noncomputable def hvP (os:List Nat)(pl:Nat):Nat->Nat->Nat->Pg Nat
 | 0,lo,_=>.ret lo
 | n+1,lo,hi=>if lo < hi then ahd (os.getD ((lo+hi) / 2) 0) pl λb=>if b then hvP os pl n ((lo+hi) / 2+1) hi else hvP os pl n lo ((lo+hi) / 2) else .ret lo
noncomputable def ZE1 (os:List Nat)(pl:Nat):Pg Nat:=hvP os pl os.length 0 os.length
noncomputable def insN (os:List Nat)(r x:Nat):List Nat:=os.take r++x::os.drop r
noncomputable def putP (sp:List Nat->Nat->Pg Nat):Nat->Nat->List Nat->Pg (List Nat)
 | 0,_,os=>.ret os
 | n+1,pl,os=>(sp os pl).bind λr=>putP sp n (pl+1) (insN os r pl)
noncomputable def runP (stop:Nat)(fal:Bool):Nat->Nat->Pg (Nat×Bool)
 | 0,by'=>.ret (by',fal)
 | n+1,by'=>if by' < stop then ahd by' (by' - 1) λb=>if b=fal then runP stop fal n (by' + 1) else .ret (by',fal) else .ret (by',fal)
noncomputable def strP (stop first:Nat):Pg (Nat×Bool):=if first+1 < stop then ahd (first+1) first λb=>runP stop b stop (first+2) else .ret (first+1,false)
noncomputable def turnN (a b:Nat)(f:Bool):List Nat:=if f then (List.range' a (b-a)).reverse else List.range' a (b-a)
noncomputable def ZFr (ls stop first:Nat):Pg (Nat×List Nat):=(strP stop first).bind λr=>(putP ZE1 (min (first+ls) stop-r.1) r.1 (turnN first r.1 r.2)).bind λos=>.ret (r.1,os)
section
variable {n:Nat}{pr:List A3}
def In (n:Nat)(os:List Nat)(pl:Nat):Prop:=∀ x∈os,x < n /\ x≠pl
theorem ZBn {i:Nat}(h:i < os.length):os[i]?=some (os.getD i 0) /\ os.getD i 0∈os:=by
 rw [yBI,yAF h]
 exact ⟨rfl,List.getElem_mem h⟩
structure Bd (pr:List A3)(os:List Nat)(pl lo hi:Nat):Prop where
 lo:lo=0∨Td pr (os.getD (lo-1) 0) pl
 hi:os.length <= hi∨Td pr pl (os.getD hi 0)
theorem galP_al {os:List Nat}{pl:Nat}(J:In n os pl)(O:pl < n):∀ (m lo hi:Nat) (pr:List A3),os.length <= m+hi->lo <= hi->hi <= 2 * lo->lo <= os.length->Bd pr os pl lo os.length->pr.length+2 * os.length <= 800000+lo->Wa n (galP os pl m lo hi) pr λr pr'=>pr <+: pr' /\ r.1 <= r.2 /\ r.2 <= 2 * r.1 /\ r.1 <= os.length /\ Bd pr' os pl r.1 r.2 /\ pr'.length+lo <= pr.length+r.1+1
 | 0,lo,hi,pr,hm,h1,h2,h3,b,c=>⟨yAV _,h1,h2,h3,⟨b.lo,.inl (by omega)⟩,by omega⟩
 | m+1,lo,hi,pr,hm,h1,h2,h3,b,c=>by
  rw [galP]
  by_cases z:hi < os.length
  .rw [if_pos z]
   obtain ⟨g1,U⟩:=ZBn z
   refine Wa.ahd (J _ U).2 (J _ U).1 O (by omega) λb' pr' f1 l1 Y t2=>?_
   cases b'
   .exact ⟨f1,h1,h2,h3,⟨b.lo.imp id λz=>z.mono f1,.inr (t2 rfl)⟩,by omega⟩
   .refine (galP_al J O m (hi+1) (2 * hi+1) pr' (by omega) (by omega) (by omega) (by omega) ⟨.inr (Y rfl),.inl (yAB _)⟩ (by omega)).imp λr pr2 h=>⟨f1.trans h.1,h.2.1,h.2.2.1,h.2.2.2.1,h.2.2.2.2.1,?_⟩
    have:=h.2.2.2.2.2
    omega
  .rw [if_neg z]
   exact ⟨yAV _,h1,h2,h3,⟨b.lo,.inl (by omega)⟩,by omega⟩
theorem ZEn {os:List Nat}{pl:Nat}(J:In n os pl)(O:pl < n):∀ (m lo hi:Nat) (pr:List A3),hi-lo <= m->lo <= hi->hi <= os.length->Bd pr os pl lo hi->pr.length+(hi-lo) <= 800000->Wa n (binP os pl m lo hi) pr λr pr'=>pr <+: pr' /\ lo <= r /\ r <= hi /\ Bd pr' os pl r r /\ pr'.length <= pr.length+(hi-lo)
 | 0,lo,hi,pr,hm,h1,h2,b,c=>by
  have:lo=hi:=by omega
  subst this
  exact ⟨yAV _,h1,h1,b,by omega⟩
 | m+1,lo,hi,pr,hm,h1,h2,b,c=>by
  rw [binP]
  by_cases z:lo < hi
  .rw [if_pos z]
   have U:lo <= (lo+hi-1) / 2:=by omega
   have Y:(lo+hi-1) / 2 < hi:=by omega
   generalize (lo+hi-1) / 2=mi at U Y
   obtain ⟨g1,g2⟩:=ZBn (os:=os) (i:=mi) (by omega)
   refine Wa.ahd (J _ g2).2 (J _ g2).1 O (by omega) λb' pr' f1 l1 t1 t2=>?_
   cases b'
   .refine (ZEn J O m lo mi pr' (by omega) (by omega) (by omega) ⟨b.lo.imp id λz=>z.mono f1,.inr (t2 rfl)⟩ (by omega)).imp λr pr2 h=>⟨f1.trans h.1,h.2.1,?_,h.2.2.2.1,?_⟩
    .have:=h.2.2.1;omega
    .have:=h.2.2.2.2;omega
   .refine (ZEn J O m (mi+1) hi pr' (by omega) (by omega) (by omega) ⟨.inr (t1 rfl),b.hi.imp id λz=>z.mono f1⟩ (by omega)).imp λr pr2 h=>⟨f1.trans h.1,?_,h.2.2.1,h.2.2.2.1,?_⟩
    .have:=h.2.1;omega
    .have:=h.2.2.2.2;omega
  .rw [if_neg z]
   have:lo=hi:=by omega
   subst this
   exact ⟨yAV _,h1,h1,b,by omega⟩
theorem leapP_al (J:In n os pl)(O:pl < n)(c:pr.length+3 * os.length+2 <= 800000):Wa n (ZE5 os pl) pr λk pr'=>pr <+: pr' /\ k <= os.length /\ Bd pr' os pl k k /\ pr'.length <= pr.length+2 * k+1:=by
 refine Wa.bind ((galP_al J O os.length 0 0 pr (by omega) (yAB _) (yAB _) (yAJ _) ⟨.inl rfl,.inl (yAB _)⟩ (by omega)).imp λr pr' h=>?_)
 obtain ⟨f1,h1,h2,h3,b,h4⟩:=h
 have U:Bd pr' os pl r.1 (min r.2 os.length):=⟨b.lo,by
  by_cases z:r.2 < os.length
  .rw [yBW (by omega)];exact b.hi
  .exact .inl (by omega)⟩
 refine (ZEn J O os.length r.1 (min r.2 os.length) pr' (by omega) (by omega) (by omega) U (by omega)).imp λk pr2 h=>⟨f1.trans h.1,?_,h.2.2.2.1,?_⟩
 .have:=h.2.2.1;omega
 .have Y:=h.2.2.2.2
  have g2:=h.2.1
  omega
theorem Nb.app {R:Nat->Nat->Prop}{A:List Nat}(h1:Nb R A)(h2:Nb R B)(h:∀ J z u O,A=J++[z]->B=u::O->R z u):Nb R (A++B):=by
 cases B with
 | nil=>rw [yBA];exact h1
 | cons u B=>
  rcases List.eq_nil_or_concat A with rfl | ⟨J,z,rfl⟩
  .exact h2
  .rw [List.concat_eq_append,yAN]
   rw [List.concat_eq_append] at h1 h
   exact Nb.two.mpr ⟨h1,h J z u B rfl rfl,h2⟩
theorem take_last {A:List Nat}(O:k <= os.length)(h:os.take k=A++[z]):0 < k /\ z=os.getD (k-1) 0:=by
 have e:=congrArg List.length h
 rw [yAP,yAC,yBD] at e
 refine ⟨by omega,?_⟩
 have J:(os.take k)[k-1]?=some z:=by rw [h,yAT (by omega),show k-1-A.length=0 by omega];rfl
 rw [List.getElem?_take,if_pos (by omega)] at J
 rw [yBI,J];rfl
theorem ZDd (h:os.drop k=z::B):k < os.length /\ z=os.getD k 0:=by
 have e:=congrArg List.length h
 rw [yAX,yAG] at e
 refine ⟨by omega,?_⟩
 have J:(os.drop k)[0]?=some z:=by rw [h];rfl
 rw [yCS,yCY] at J
 rw [yBI,J];rfl
theorem Nb.take {R:Nat->Nat->Prop}(h:Nb R os)(k:Nat):Nb R (os.take k):=Nb.left (r:=os.drop k) (by rw [yBJ];exact h)
theorem Nb.drop {R:Nat->Nat->Prop}(h:Nb R os)(k:Nat):Nb R (os.drop k):=Nb.right (l:=os.take k) (by rw [yBJ];exact h)
theorem ZDI {A:List Nat}(h:A++[y]=B++[z]):y=z:=by
 have:=congrArg List.getLast? h
 rw [List.getLast?_append,List.getLast?_append] at this
 exact Option.some.inj this
theorem leap_nt {J m t:List Nat}(h1:Nt pr (J++x::m))(h2:Nt pr (J++y::t))(Y:Td pr x y)(hk:k <= m.length)(b:Bd pr m y k k):Nt pr (J++x::m.take k++y::t) /\ (k < m.length->Nt pr (J++x::m.take k++[y]++m.drop k)):=by
 have e:J++x::m=(J++x::m.take k)++m.drop k:=by rw [yAN,yCT,yBJ]
 rw [e] at h1
 have hl:∀ t',Nt pr (y::t')->Nt pr (J++x::m.take k++y::t'):=λt' ht=>Nb.app h1.left ht λA z u B O e2=>by
  cases e2
  rcases List.eq_nil_or_concat (m.take k) with U | ⟨M,z',U⟩
  .rw [U] at O
   rw [<- ZDI O];exact Y
  .rw [List.concat_eq_append] at U
   obtain ⟨k0,e4⟩:=take_last hk U
   rw [U,<- yCT,<- yAN] at O
   rw [<- ZDI O,e4]
   rcases b.lo with z | z
   .omega
   .exact z
 refine ⟨hl t h2.right,λa0=>Nb.app (hl [] trivial) h1.right λA z u B O e2=>?_⟩
 rw [<- ZDI O,(ZDd e2).2]
 rcases b.hi with z | z
 .omega
 .exact z
theorem perm_count {A:List Nat}(h:∀ c,A.count c=B.count c):A.Perm B:=List.perm_iff_count.mpr h
theorem ZEP (l:List Nat)(k c:Nat):(l.take k).count c+(l.drop k).count c=l.count c:=by rw [<- yCL,yBJ]
structure Tw (n:Nat)(A B:List Nat):Prop where
 l:∀ x∈A,x < n
 r:∀ x∈B,x < n
 d:∀ x∈A,∀ y∈B,x≠y
theorem Tw.sub {J r':List Nat}(h:Tw n l r)(h1:∀ x∈J,x∈l)(h2:∀ x∈r',x∈r):Tw n J r':=⟨λx z=>h.l x (h1 x z),λx z=>h.r x (h2 x z),λx z y w=>h.d x (h1 x z) y (h2 y w)⟩
theorem ZB7:∀ (m:Nat) (s:Bool) (w:Nat) (l r J:List Nat) (pr:List A3),l.length+r.length <= m->w <= 3->Tw n l r->Nt pr (J++l)->Nt pr (J++r)->pr.length+5 * (l.length+r.length)+w <= 800000 ->
  Wa n (ZCx m s w l r J) pr λos pr'=>os.Perm (J++l++r) /\ Nt pr' os /\ pr <+: pr' /\ pr'.length <= pr.length+2 * (l.length+r.length)+w
 | 0,s,w,l,r,J,pr,hm,hw,t,n1,n2,c=>by
  have e1:l=[]:=yBU.mp (by omega)
  subst e1
  refine ⟨.refl _,?_,yAV _,by omega⟩
  rw [yBA];exact n2
 | m+1,s,w,[],r,J,pr,hm,hw,t,n1,n2,c=>by
  refine ⟨.refl _,?_,yAV _,by omega⟩
  rw [yBA];exact n2
 | m+1,s,w,x::l,[],J,pr,hm,hw,t,n1,n2,c=>by
  refine ⟨.refl _,?_,yAV _,by omega⟩
  rw [yBA];exact n1
 | m+1,s,w,x::l,y::r,J,pr,hm,hw,t,n1,n2,c=>by
  rw [ZCx]
  simp only [yAG] at hm c
  have a2:=t.d x yAD y yAD
  refine Wa.ahd a2 (t.l x yAD) (t.r y yAD) (by omega) λb pr1 f1 l1 t1 t2=>?_
  replace n1:=n1.mono f1
  replace n2:=n2.mono f1
  have Y:∀ (os A L R:List Nat) (pr2:List A3) (k:Nat),os.Perm (A++L++R)->(∀ c,(A++L++R).count c=(J++x::l++y::r).count c)->os.Perm (J++x::l++y::r):=λos A L R _ _ h1 h2=>h1.trans (perm_count h2)
  have a1:(if b=s then w+1 else 1) <= w+1:=by split <;> omega
  by_cases h4:(if b=s then w+1 else 1)=4
  .rw [if_pos h4]
   rw [h4] at a1
   cases b
   .rw [if_neg (by decide)]
    refine Wa.bind ((leapP_al (os:=r) (pl:=x) (pr:=pr1) (λu O=>⟨t.r u (yAE _ O),Ne.symm (t.d x yAD u (yAE _ O))⟩) (t.l x yAD) (by omega)).imp λk pr2 h=>?_)
    obtain ⟨f2,hk,bd,hc⟩:=h
    obtain ⟨g1,g2⟩:=leap_nt (n2.mono f2) (n1.mono f2) ((t2 rfl).mono f2) hk bd
    have hd:(r.drop k).length=r.length-k:=yAX ..
    have a0:=f1.trans f2
    have sub:∀ u∈r.drop k,u∈y::r:=λu O=>yAE _ (List.mem_of_mem_drop O)
    have e2:J++y::r.take k++r.drop k=J++y::r:=by rw [yAN,yCT,yBJ]
    by_cases hk2:k < r.length
    .rw [if_pos hk2]
     refine (ZB7 m false 0 l (r.drop k) _ pr2 (by omega) (by decide) (t.sub (λu O=>yAE _ O) sub) (by rw [yAN];exact g1) (g2 hk2) (by omega)).imp λos U h=>⟨Y os _ _ _ U 0 h.1 λc=>?_,h.2.1,a0.trans h.2.2.1,?_⟩
     .have:=ZEP r k c
      simp only [yCL,yCZ,yDA]
      omega
     .have:=h.2.2.2
      simp only [yAG]
      omega
    .rw [if_neg hk2]
     refine (ZB7 m false 0 (x::l) (r.drop k) _ pr2 (by rw [yAG];omega) (by decide) (t.sub (λu O=>O) sub) g1 (by rw [e2];exact n2.mono f2) (by rw [yAG];omega)).imp λos U h=>⟨Y os _ _ _ U 0 h.1 λc=>?_,h.2.1,a0.trans h.2.2.1,?_⟩
     .have:=ZEP r k c
      simp only [yCL,yCZ,yDA]
      omega
     .have:=h.2.2.2
      simp only [yAG] at *
      omega
   .rw [if_pos rfl]
    refine Wa.bind ((leapP_al (os:=l) (pl:=y) (pr:=pr1) (λu O=>⟨t.l u (yAE _ O),t.d u (yAE _ O) y yAD⟩) (t.r y yAD) (by omega)).imp λk pr2 h=>?_)
    obtain ⟨f2,hk,bd,hc⟩:=h
    obtain ⟨g1,g2⟩:=leap_nt (n1.mono f2) (n2.mono f2) ((t1 rfl).mono f2) hk bd
    have hd:(l.drop k).length=l.length-k:=yAX ..
    have a0:=f1.trans f2
    have sub:∀ u∈l.drop k,u∈x::l:=λu O=>yAE _ (List.mem_of_mem_drop O)
    have e2:J++x::l.take k++l.drop k=J++x::l:=by rw [yAN,yCT,yBJ]
    by_cases hk2:k < l.length
    .rw [if_pos hk2]
     refine (ZB7 m true 0 (l.drop k) r _ pr2 (by omega) (by decide) (t.sub sub (λu O=>yAE _ O)) (g2 hk2) (by rw [yAN];exact g1) (by omega)).imp λos U h=>⟨Y os _ _ _ U 0 h.1 λc=>?_,h.2.1,a0.trans h.2.2.1,?_⟩
     .have:=ZEP l k c
      simp only [yCL,yCZ,yDA]
      omega
     .have:=h.2.2.2
      simp only [yAG]
      omega
    .rw [if_neg hk2]
     refine (ZB7 m true 0 (l.drop k) (y::r) _ pr2 (by rw [yAG];omega) (by decide) (t.sub sub (λu O=>O)) (by rw [e2];exact n1.mono f2) g1 (by rw [yAG];omega)).imp λos U h=>⟨Y os _ _ _ U 0 h.1 λc=>?_,h.2.1,a0.trans h.2.2.1,?_⟩
     .have:=ZEP l k c
      simp only [yCL,yCZ,yDA]
      omega
     .have:=h.2.2.2
      simp only [yAG] at *
      omega
  .rw [if_neg h4]
   generalize (if b=s then w+1 else 1)=w' at h4 a1 ⊢
   cases b
   .rw [if_neg (by decide)]
    refine (ZB7 m false w' (x::l) r (J++[y]) pr1 (by rw [yAG];omega) (by omega) (t.sub (λu O=>O) λu O=>yAE _ O) ?_ (by rw [yAN];exact n2) (by rw [yAG];omega)).imp λos U h=>⟨Y os _ _ _ U 0 h.1 λc=>?_,h.2.1,f1.trans h.2.2.1,?_⟩
    .rw [yAN]
     exact Nb.two.mpr ⟨(Nb.split.mp n2).1,t2 rfl,(Nb.split.mp n1).2⟩
    .simp only [yCL,yCZ,yDA]
     omega
    .have:=h.2.2.2
     simp only [yAG] at *
     omega
   .rw [if_pos rfl]
    refine (ZB7 m true w' l (y::r) (J++[x]) pr1 (by rw [yAG];omega) (by omega) (t.sub (λu O=>yAE _ O) λu O=>O) (by rw [yAN];exact n1) ?_ (by rw [yAG];omega)).imp λos U h=>⟨Y os _ _ _ U 0 h.1 λc=>?_,h.2.1,f1.trans h.2.2.1,?_⟩
    .rw [yAN]
     exact Nb.two.mpr ⟨(Nb.split.mp n1).1,t1 rfl,(Nb.split.mp n2).2⟩
    .simp only [yCL,yCZ,yDA]
     omega
    .have:=h.2.2.2
     simp only [yAG] at *
     omega
theorem joinedP_al (t:Tw n l r)(n1:Nt pr l)(n2:Nt pr r)(c:pr.length+5 * (l.length+r.length) <= 800000):Wa n (ZD8 l r) pr λos pr'=>os.Perm (l++r) /\ Nt pr' os /\ pr <+: pr' /\ pr'.length <= pr.length+2 * (l.length+r.length) :=
 (ZB7 _ true 0 l r [] pr (yAB _) (by decide) t n1 n2 c).imp λ_ _ h=>h
theorem ZFW {os:List Nat}{pl:Nat}(J:In n os pl)(O:pl < n):∀ (m lo hi:Nat) (pr:List A3),hi-lo <= m->lo <= hi->hi <= os.length->Bd pr os pl lo hi->pr.length+(hi-lo) <= 800000->Wa n (hvP os pl m lo hi) pr λr pr'=>pr <+: pr' /\ r <= hi /\ Bd pr' os pl r r /\ pr'.length <= pr.length+(hi-lo)
 | 0,lo,hi,pr,hm,h1,h2,b,c=>by
  have:lo=hi:=by omega
  subst this
  exact ⟨yAV _,h1,b,by omega⟩
 | m+1,lo,hi,pr,hm,h1,h2,b,c=>by
  rw [hvP]
  by_cases z:lo < hi
  .rw [if_pos z]
   have U:lo <= (lo+hi) / 2:=by omega
   have Y:(lo+hi) / 2 < hi:=by omega
   generalize (lo+hi) / 2=mi at U Y
   obtain ⟨g1,g2⟩:=ZBn (os:=os) (i:=mi) (by omega)
   refine Wa.ahd (J _ g2).2 (J _ g2).1 O (by omega) λb' pr' f1 l1 t1 t2=>?_
   cases b'
   .refine (ZFW J O m lo mi pr' (by omega) (by omega) (by omega) ⟨b.lo.imp id λz=>z.mono f1,.inr (t2 rfl)⟩ (by omega)).imp λr pr2 h=>⟨f1.trans h.1,?_,h.2.2.1,?_⟩
    .have:=h.2.1;omega
    .have:=h.2.2.2;omega
   .refine (ZFW J O m (mi+1) hi pr' (by omega) (by omega) (by omega) ⟨.inr (t1 rfl),b.hi.imp id λz=>z.mono f1⟩ (by omega)).imp λr pr2 h=>⟨f1.trans h.1,h.2.1,h.2.2.1,?_⟩
    have:=h.2.2.2;omega
  .rw [if_neg z]
   have:lo=hi:=by omega
   subst this
   exact ⟨yAV _,h1,b,by omega⟩
theorem ins_nt {r:Nat}(h:Nt pr os)(U:r <= os.length)(b:Bd pr os pl r r):Nt pr (insN os r pl):=by
 refine Nb.app (h.take r) (B:=[pl]++os.drop r) (Nb.app trivial (h.drop r) λA z u B O J=>?_) λA z u B O J=>?_
 .cases A with
  | nil=>
   cases O
   rw [(ZDd J).2]
   have:=(ZDd J).1
   rcases b.hi with z | z
   .omega
   .exact z
  | cons a A=>simp at O
 .cases J
  obtain ⟨k0,Y⟩:=take_last U O
  rw [Y]
  rcases b.lo with z | z
  .omega
  .exact z
theorem insN_perm {r:Nat}:(insN os r x).Perm (os++[x]):=perm_count λc=>by
 unfold insN
 have:=ZEP os r c
 simp only [yCL,yCZ,yDA]
 omega
theorem ZBa (f k:Nat):List.range' f (k+1)=List.range' f k++[f+k]:=by rw [List.range'_concat];simp
theorem putP_al {f:Nat}:∀ (m pl:Nat) (os:List Nat) (pr:List A3),os.Perm (List.range' f (pl-f))->f <= pl->pl+m <= n->n-f <= 120->Nt pr os->pr.length+120 * m <= 800000->Wa n (putP ZE1 m pl os) pr λos' pr'=>os'.Perm (List.range' f (pl+m-f)) /\ Nt pr' os' /\ pr <+: pr' /\ pr'.length <= pr.length+120 * m
 | 0,pl,os,pr,hp,hf,hn,hk,h,c=>⟨hp,h,yAV _,by omega⟩
 | m+1,pl,os,pr,hp,hf,hn,hk,h,c=>by
  have hl:=hp.length_eq
  rw [yDB] at hl
  have J:In n os pl:=λx U=>by
   have:=List.mem_range'_1.mp (hp.mem_iff.mp U)
   omega
  refine Wa.bind ((ZFW J (by omega) os.length 0 os.length pr (by omega) (yAJ _) (yAB _) ⟨.inl rfl,.inl (yAB _)⟩ (by omega)).imp λr pr' g=>?_)
  obtain ⟨f1,O,Y,g3⟩:=g
  refine (putP_al m (pl+1) (insN os r pl) pr' ?_ (by omega) (by omega) hk (ins_nt (h.mono f1) O Y) (by omega)).imp λos' pr2 z=>⟨?_,z.2.1,f1.trans z.2.2.1,?_⟩
  .refine insN_perm.trans ?_
   rw [show pl+1-f=pl-f+1 by omega,ZBa,show f+(pl-f)=pl by omega]
   exact hp.append_right _
  .rw [show pl+(m+1)-f=pl+1+m-f by omega];exact z.1
  .have:=z.2.2.2;omega
def Sf (pr:List A3)(f j:Nat)(fal:Bool):Prop:=Nb (λa b=>if fal then Td pr b a else Td pr a b) (List.range' f (j-f))
theorem Sf.turn {j:Nat}(h:Sf pr f j fal):Nt pr (turnN f j fal):=by
 unfold turnN
 cases fal
 .exact h
 .exact Nb.rev h
theorem Sf.snoc {j:Nat}(h:Sf pr f j fal)(g:pr <+: pr')(J:f < j)(t:if fal then Td pr' j (j-1) else Td pr' (j-1) j):Sf pr' f (j+1) fal:=by
 unfold Sf
 rw [show j+1-f=(j-f-1)+1+1 by omega,ZBa,ZBa,yAN]
 have e:List.range' f (j-f)=List.range' f (j-f-1)++[f+(j-f-1)]:=by rw [<- ZBa,show j-f-1+1=j-f by omega]
 refine Nb.two.mpr ⟨?_,?_,trivial⟩
 .rw [<- e]
  refine Nb.mono (λa b z=>?_) h
  cases fal
  .exact Td.mono z g
  .exact Td.mono z g
 .rw [show f+(j-f-1)=j-1 by omega,show f+(j-f-1+1)=j by omega]
  exact t
theorem runP_al {stop f:Nat}(J:stop <= n)(fal:Bool):∀ (m j:Nat) (pr:List A3),stop <= m+j->f < j->j <= stop->Sf pr f j fal->pr.length+(stop-j) <= 800000->Wa n (runP stop fal m j) pr λr pr'=>pr <+: pr' /\ j <= r.1 /\ r.1 <= stop /\ Sf pr' f r.1 r.2 /\ pr'.length <= pr.length+(r.1-j)+1
 | 0,j,pr,hm,h1,h2,h3,c=>⟨yAV _,yAB _,h2,h3,by omega⟩
 | m+1,j,pr,hm,h1,h2,h3,c=>by
  rw [runP]
  by_cases z:j < stop
  .rw [if_pos z]
   refine Wa.ahd (by omega) (by omega) (by omega) (by omega) λb pr' f1 Y O U=>?_
   by_cases zb:b=fal
   .rw [if_pos zb]
    subst zb
    refine (runP_al J b m (j+1) pr' (by omega) (by omega) (by omega) (h3.snoc f1 h1 ?_) (by omega)).imp λr pr2 h=>⟨f1.trans h.1,Nat.le_of_succ_le h.2.1,h.2.2.1,h.2.2.2.1,?_⟩
    .cases b
     .exact U rfl
     .exact O rfl
    .have:=h.2.2.2.2
     have:=h.2.1
     omega
   .rw [if_neg zb]
    refine ⟨f1,yAB _,h2,?_,by omega⟩
    refine Nb.mono (λa b' z=>?_) h3
    cases fal
    .exact Td.mono z f1
    .exact Td.mono z f1
  .rw [if_neg z]
   exact ⟨yAV _,yAB _,h2,h3,by omega⟩
theorem strP_al (J:stop <= n)(hf:f < stop)(c:pr.length+(stop-f) <= 800000):Wa n (strP stop f) pr λr pr'=>pr <+: pr' /\ f < r.1 /\ r.1 <= stop /\ Nt pr' (turnN f r.1 r.2) /\ pr'.length <= pr.length+(r.1-f):=by
 unfold strP
 by_cases z:f+1 < stop
 .rw [if_pos z]
  refine Wa.ahd (by omega) (by omega) (by omega) (by omega) λb pr1 f1 Y O U=>?_
  refine (runP_al (f:=f) J b stop (f+2) pr1 (by omega) (by omega) (by omega) (Sf.snoc (pr:=pr1) (j:=f+1) ?_ (yAV _) (by omega) ?_) (by omega)).imp λr pr2 h=>⟨f1.trans h.1,?_,h.2.2.1,h.2.2.2.1.turn,?_⟩
  .unfold Sf
   rw [show f+1-f=0+1 by omega,ZBa]
   exact trivial
  .cases b
   .exact U rfl
   .exact O rfl
  .have:=h.2.1;omega
  .have:=h.2.2.2.2
   have:=h.2.1
   omega
 .rw [if_neg z]
  refine ⟨yAV _,by omega,by omega,?_,by omega⟩
  show Nt pr (turnN f (f+1) false)
  unfold turnN
  rw [show f+1-f=0+1 by omega,ZBa]
  exact trivial
theorem turnN_perm (a b:Nat)(f:Bool):(turnN a b f).Perm (List.range' a (b-a)):=by
 unfold turnN
 cases f
 .exact .refl _
 .exact List.reverse_perm _
theorem fillP_al {ls:Nat}(Y:stop <= n)(U:f < stop)(hn:n-f <= 120)(c:pr.length+122 * (stop-f) <= 800000):Wa n (ZFr ls stop f) pr λr pr'=>pr <+: pr' /\ r.2.Perm (List.range' f r.2.length) /\ 0 < r.2.length /\ f+r.2.length <= stop /\ Nt pr' r.2 /\ pr'.length <= pr.length+122 * r.2.length:=by
 refine Wa.bind ((strP_al Y U (by omega)).imp λr pr1 h=>?_)
 obtain ⟨f1,h1,h2,h3,h4⟩:=h
 refine Wa.bind ((putP_al (f:=f) (min (f+ls) stop-r.1) r.1 _ pr1 (turnN_perm ..) (by omega) (by omega) hn h3 (by omega)).imp λos pr2 g=>?_)
 obtain ⟨J,g2,O,g4⟩:=g
 have hl:=J.length_eq
 rw [yDB] at hl
 refine ⟨f1.trans O,?_,?_,?_,g2,?_⟩ <;> dsimp only
 .rw [hl];exact J
 .omega
 .omega
 .omega
end
end Pw
namespace Po
variable {b f:Nat}
noncomputable abbrev Fr:=Option (Nat×Nat)
noncomputable abbrev W:=Nat->Nat->Option Fr
noncomputable abbrev Mt:=Nat×Nat×Nat
noncomputable def mid (f b:Nat):Nat:=f+(b-f+1) / 2
theorem mid_lt (h:¬ b-f < 2):f < mid f b /\ mid f b < b:=by unfold mid;omega
noncomputable def mts (f b:Nat):List Mt:=if h:b-f < 2 then [] else mts f (mid f b)++mts (mid f b) b++[(f,mid f b,b)]
termination_by b-f
decreasing_by
 .have:=mid_lt h;omega
 .have:=mid_lt h;omega
theorem mts_leaf (h:b-f < 2):mts f b=[]:=by rw [mts,dif_pos h]
theorem mts_node (h:¬ b-f < 2):mts f b=mts f (mid f b)++mts (mid f b) b++[(f,mid f b,b)]:=by rw [mts,dif_neg h]
theorem tree {P:Nat->Nat->Prop}(h1:∀ f b,b-f < 2->P f b)(h2:∀ f b,¬ b-f < 2->P f (mid f b)->P (mid f b) b->P f b)(f b:Nat):P f b:=by
 suffices ∀ n f b,b-f <= n->P f b from this _ f b (yAB _)
 intro n
 induction n with
 | zero=>intro f b h;exact h1 f b (by omega)
 | succ n ih=>
  intro f b h
  by_cases z:b-f < 2
  .exact h1 f b z
  .have:=mid_lt z
   exact h2 f b z (ih _ _ (by omega)) (ih _ _ (by omega))
theorem mts_len (f b:Nat):(mts f b).length=b-f-1:=by
 refine tree (P:=λf b=>(mts f b).length=b-f-1) (λf b h=>?_) (λf b h h1 h2=>?_) f b
 .rw [mts_leaf h];simp;omega
 .have:=mid_lt h
  rw [mts_node h,yAC,yAC,h1,h2,yBD]
  omega
theorem mts_mem {a m c:Nat}(f b:Nat):(a,m,c)∈mts f b->m=mid a c /\ f <= a /\ c <= b /\ ¬ c-a < 2:=by
 refine tree (P:=λf b=>(a,m,c)∈mts f b->m=mid a c /\ f <= a /\ c <= b /\ ¬ c-a < 2) (λf b h=>?_) (λf b h h1 h2=>?_) f b
 .rw [mts_leaf h];intro z;cases z
 .have:=mid_lt h
  rw [mts_node h]
  intro z
  rcases yAY.mp z with z | z
  .rcases yAY.mp z with z | z
   .have:=h1 z;omega
   .have:=h2 z;omega
  .cases yAH.mp z
   exact ⟨rfl,yAB _,yAB _,h⟩
noncomputable def put (w:W)(a c:Nat)(v:Fr):W:=λa' c'=>if a'=a /\ c'=c then some v else w a' c'
end Po
namespace Pw
variable {w w':W}{b d f i ls wd:Nat}{u v:Fr}{pcs:List (List Nat)}{pr pr':List A3}
structure PS where
 r:Nat
 ps:List (Nat×List Nat)
 gs:List Nat
noncomputable def flt (ps:List (Nat×List Nat)):List Nat:=(ps.map Prod.snd).flatten
noncomputable def dueB (gs:List Nat):Bool:=match gs.reverse with
 | a::b::_=>decide (a < b)
 | _=>false
theorem dueB_two (G:List Nat)(O J:Nat):dueB (G++[O,J])=decide (J < O):=by unfold dueB;rw [List.reverse_append];rfl
theorem ZEC {gs:List Nat}(h:dueB gs=true):2 <= gs.length:=by
 unfold dueB at h
 rw [<- yCP]
 revert h
 generalize gs.reverse=l
 intro h
 match l,h with
 | a::b::l,_=>simp
noncomputable def topF (ps:List (Nat×List Nat)):Nat:=(ps.getLastD (0,[])).1
noncomputable def jnP (i:Nat)(t:PS):Pg (Option PS):=match t.ps.drop i with
 | p1::p2::B=>(ZD8 p1.2 p2.2).bind λo=>.ret (some ⟨t.r,t.ps.take i++(p1.1,o)::B,t.gs.eraseIdx i⟩)
 | _=>.ret none
noncomputable def layP (G:Nat->Nat->Nat->Nat->Nat)(ls s e:Nat)(t:PS):Pg (Option PS):=(ZFr ls e t.r).bind λf=>.ret (some ⟨t.r+f.2.length,t.ps++[(t.r,f.2)],if t.ps.isEmpty then t.gs else t.gs++[G (e-s) (topF t.ps-s) (t.r-s) (t.r+f.2.length-s)]⟩)
noncomputable def ZFE (G:Nat->Nat->Nat->Nat->Nat)(ls s e:Nat)(t:PS):Pg (Option PS) :=
 if dueB t.gs then jnP (t.ps.length-3) t else if t.r < e then layP G ls s e t else if 1 < t.ps.length then jnP (t.ps.length-2) t else .ret none
noncomputable def ZEL (e:Nat)(t:PS):List Nat:=flt t.ps++List.range' t.r (e-t.r)
noncomputable def ZFm (G:Nat->Nat->Nat->Nat->Nat)(ls s e:Nat):Nat->PS->Pg (List Nat)
 | 0,t=>.ret (ZEL e t)
 | m+1,t=>(ZFE G ls s e t).bind λo=>match o with
  | none=>.ret (ZEL e t)
  | some t'=>ZFm G ls s e m t'
noncomputable def bypP (G:Nat->Nat->Nat->Nat->Nat)(ls s e:Nat):Pg (List Nat):=ZFm G ls s e (2 * (e-s)+1) ⟨s,[],[]⟩
def Cn (pr:List A3):Nat->List (Nat×List Nat)->Nat->Prop
 | x,[],y=>x=y
 | x,p::ps,y=>p.1=x /\ 0 < p.2.length /\ p.2.Perm (List.range' x p.2.length) /\ Nt pr p.2 /\ Cn pr (x+p.2.length) ps y
theorem Cn.mono (f:pr <+: pr'):∀ {x y:Nat} {ps:List (Nat×List Nat)},Cn pr x ps y->Cn pr' x ps y
 | _,_,[],h=>h
 | _,_,_::_,h=>⟨h.1,h.2.1,h.2.2.1,h.2.2.2.1.mono f,h.2.2.2.2.mono f⟩
theorem Cn.app {pr:List A3}:∀ {x y:Nat} {A B:List (Nat×List Nat)},Cn pr x (A++B) y↔∃ m,Cn pr x A m /\ Cn pr m B y
 | x,y,[],B=>⟨λh=>⟨x,rfl,h⟩,λ⟨m,h1,h2⟩=>by cases h1;exact h2⟩
 | x,y,p::A,B=>⟨λh=>let ⟨m,a,b⟩:=Cn.app.mp h.2.2.2.2;⟨m,⟨h.1,h.2.1,h.2.2.1,h.2.2.2.1,a⟩,b⟩,λ⟨m,a,b⟩=>⟨a.1,a.2.1,a.2.2.1,a.2.2.2.1,Cn.app.mpr ⟨m,a.2.2.2.2,b⟩⟩⟩
theorem Cn.le:∀ {x y:Nat} {ps:List (Nat×List Nat)},Cn pr x ps y->x+ps.length <= y
 | _,_,[],h=>yCO h
 | x,y,p::ps,h=>by
  have:=h.2.2.2.2.le
  have:=h.2.1
  rw [yAG]
  omega
def Cl:Nat->List (Nat×List Nat)->Nat->Prop
 | x,[],y=>x=y
 | x,p::ps,y=>p.1=x /\ 0 < p.2.length /\ Cl (x+p.2.length) ps y
theorem Cl.app:∀ {x y:Nat} {A B:List (Nat×List Nat)},Cl x (A++B) y↔∃ m,Cl x A m /\ Cl m B y
 | x,y,[],B=>⟨λh=>⟨x,rfl,h⟩,λ⟨m,h1,h2⟩=>by cases h1;exact h2⟩
 | x,y,p::A,B=>⟨λh=>let ⟨m,a,b⟩:=Cl.app.mp h.2.2;⟨m,⟨h.1,h.2.1,a⟩,b⟩,λ⟨m,a,b⟩=>⟨a.1,a.2.1,Cl.app.mpr ⟨m,a.2.2,b⟩⟩⟩
theorem Cl.le:∀ {x y:Nat} {ps:List (Nat×List Nat)},Cl x ps y->x+ps.length <= y /\ (flt ps).length=y-x
 | _,_,[],h=>⟨yCO h,by cases h;rw [yBG];rfl⟩
 | x,y,p::ps,h=>by
  have h1:=h.2.2.le
  have h2:=h.2.1
  refine ⟨by rw [yAG];omega,?_⟩
  show (p.2++flt ps).length=_
  rw [yAC,h1.2]
  omega
structure PI (n s e:Nat)(pr:List A3)(t:PS):Prop where
 cn:Cn pr s t.ps t.r
 re:t.r <= e
 gl:t.gs.length=t.ps.length-1
theorem drop_two {α:Type}{l:List α}(h:i+2 <= l.length):∃ A x y B,l=A++x::y::B /\ A.length=i /\ l.drop i=x::y::B /\ l.take i=A:=by
 have h1:i < l.length:=by omega
 have h2:i+1 < l.length:=by omega
 refine ⟨l.take i,l[i],l[i+1],l.drop (i+2),?_,by rw [yAP];omega,?_,rfl⟩
 .rw [<- yBT h2,<- yBT h1,yBJ]
 .rw [<- yBT h2,<- yBT h1]
section
variable {n s e:Nat}{G:Nat->Nat->Nat->Nat->Nat}
def Sd (n s e:Nat)(pr:List A3)(t:PS)(o:Option PS)(pr':List A3):Prop:=pr <+: pr' /\ match o with
 | none=>t.r=e /\ t.ps.length <= 1 /\ pr'=pr
 | some t'=>PI n s e pr' t' /\ 2 * (e-t'.r)+t'.ps.length < 2 * (e-t.r)+t.ps.length /\ pr'.length+400 * (e-t'.r)+250 * t'.ps.length <= pr.length+400 * (e-t.r)+250 * t.ps.length
theorem jnP_al {t:PS}(h:PI n s e pr t)(hi:i+2 <= t.ps.length)(he:e <= n)(hn:n <= 120)(c:pr.length <= 790000):Wa n (jnP i t) pr (Sd n s e pr t):=by
 obtain ⟨A,p1,p2,B,e1,e2,e3,e4⟩:=drop_two hi
 have O:=h.cn
 rw [e1] at O
 obtain ⟨m,c1,c2⟩:=Cn.app.mp O
 obtain ⟨h1,h2,h3,h4,g1,g2,g3,g4,g5⟩:=c2
 have l1:=c1.le
 have l2:=g5.le
 have U:=h.re
 have m1:∀ x∈p1.2,m <= x /\ x < m+p1.2.length:=λx J=>List.mem_range'_1.mp (h3.mem_iff.mp J)
 have m2:∀ x∈p2.2,m+p1.2.length <= x /\ x < m+p1.2.length+p2.2.length:=λx J=>List.mem_range'_1.mp (g3.mem_iff.mp J)
 unfold jnP
 rw [e3]
 dsimp only
 refine Wa.bind ((joinedP_al (n:=n) (pr:=pr) (l:=p1.2) (r:=p2.2) ⟨λx J=>by have:=m1 x J;omega,λx J=>by have:=m2 x J;omega,λx J y hy=>by have:=m1 x J;have:=m2 y hy;omega⟩ h4 g4 (by omega)).imp λo pr' z=>?_)
 obtain ⟨z1,z2,Y,z4⟩:=z
 have hl:=z1.length_eq
 rw [yAC] at hl
 rw [e4]
 have e6:(A++(p1.1,o)::B).length+1=t.ps.length:=by rw [e1];simp;omega
 refine ⟨Y,⟨Cn.app.mpr ⟨m,c1.mono Y,h1,by dsimp only;omega,?_,z2,?_⟩,U,?_⟩,?_,?_⟩ <;> dsimp only
 .rw [hl]
  refine z1.trans ((h3.append g3).trans ?_)
  have:=List.range'_append (s:=m) (m:=p1.2.length) (n:=p2.2.length) (step:=1)
  rw [Nat.one_mul] at this
  rw [this]
 .rw [hl,<- Nat.add_assoc];exact g5.mono Y
 .rw [List.length_eraseIdx]
  have:=h.gl
  split <;> omega
 .omega
 .omega
theorem layP_al {t:PS}(h:PI n s e pr t)(hr:t.r < e)(O:e <= n)(hn:n <= 120)(c:pr.length <= 780000):Wa n (layP G ls s e t) pr (Sd n s e pr t):=by
 refine Wa.bind ((fillP_al (n:=n) (pr:=pr) (ls:=ls) O hr (by omega) (by omega)).imp λf pr' z=>?_)
 obtain ⟨J,U,Y,z4,z5,z6⟩:=z
 refine ⟨J,⟨Cn.app.mpr ⟨t.r,h.cn.mono J,rfl,Y,U,z5,rfl⟩,by dsimp only;omega,?_⟩,?_,?_⟩ <;> dsimp only
 .have:=h.gl
  rw [yAC,yBD]
  cases hp:t.ps with
  | nil=>rw [hp] at this;simpa using this
  | cons p q=>
   rw [hp] at this
   rw [if_neg (by simp),yAC,yBD,this,yAG]
   omega
 .rw [yAC,yBD];omega
 .rw [yAC,yBD];omega
theorem stepP_al {t:PS}(h:PI n s e pr t)(J:e <= n)(hn:n <= 120)(c:pr.length <= 780000):Wa n (ZFE G ls s e t) pr (Sd n s e pr t):=by
 unfold ZFE
 by_cases h1:dueB t.gs=true
 .rw [if_pos h1]
  have:=ZEC h1
  have:=h.gl
  exact jnP_al h (by omega) J hn (by omega)
 rw [if_neg h1]
 by_cases h2:t.r < e
 .rw [if_pos h2]
  exact layP_al h h2 J hn c
 rw [if_neg h2]
 by_cases h3:1 < t.ps.length
 .rw [if_pos h3]
  exact jnP_al h (by omega) J hn (by omega)
 rw [if_neg h3]
 have:=h.re
 exact ⟨yAV _,by omega,by omega,rfl⟩
theorem paper_end {t:PS}(h:PI n s e pr t)(h1:t.r=e)(h2:t.ps.length <= 1):(ZEL e t).Perm (List.range' s (e-s)) /\ Nt pr (ZEL e t):=by
 have hc:=h.cn
 unfold ZEL
 rw [h1,yBG,List.range'_zero,yBA]
 match hp:t.ps,h2 with
 | [],_=>
  rw [hp] at hc
  have:s=e:=by rw [<- h1];exact hc
  rw [this,yBG]
  exact ⟨.refl _,trivial⟩
 | [p],_=>
  rw [hp] at hc
  have O:s+p.2.length=t.r:=hc.2.2.2.2
  have J:flt [p]=p.2:=by unfold flt;simp
  rw [J,show e-s=p.2.length by omega]
  exact ⟨hc.2.2.1,hc.2.2.2.1⟩
theorem pileP_al (J:e <= n)(hn:n <= 120):∀ (m:Nat) (t:PS) (pr:List A3),PI n s e pr t->2 * (e-t.r)+t.ps.length <= m->pr.length+400 * (e-t.r)+250 * t.ps.length <= 780000 ->
  Wa n (ZFm G ls s e m t) pr λos pr'=>os.Perm (List.range' s (e-s)) /\ Nt pr' os /\ pr <+: pr' /\ pr'.length <= pr.length+400 * (e-t.r)+250 * t.ps.length
 | 0,t,pr,h,hm,c=>by
  have:=h.re
  have z:=paper_end h (by omega) (by omega)
  exact ⟨z.1,z.2,yAV _,by omega⟩
 | m+1,t,pr,h,hm,c=>by
  refine Wa.bind ((stepP_al h J hn (by omega)).imp λo pr1 z=>?_)
  cases o with
  | none=>
   obtain ⟨f,a,b,rfl⟩:=z
   have z:=paper_end h a b
   exact ⟨z.1,z.2,f,by omega⟩
  | some t'=>
   obtain ⟨f,a,b,c'⟩:=z
   refine (pileP_al J hn m t' pr1 a (by omega) (by omega)).imp λos pr2 y=>⟨y.1,y.2.1,f.trans y.2.2.1,?_⟩
   have:=y.2.2.2
   omega
theorem bypP_al (O:s <= e)(J:e <= n)(hn:n <= 120)(c:pr.length+400 * (e-s) <= 780000):Wa n (bypP G ls s e) pr λos pr'=>os.Perm (List.range' s (e-s)) /\ Nt pr' os /\ pr <+: pr' /\ pr'.length <= pr.length+400 * (e-s) :=
 pileP_al J hn _ ⟨s,[],[]⟩ pr ⟨rfl,O,rfl⟩ (by dsimp only [List.length];omega) (by dsimp only [List.length];omega)
end
open Po (Fr W Mt mts mid put mts_leaf mts_node mid_lt mts_len mts_mem)
noncomputable def metP:Fr->Fr->Pg Fr
 | none,o=>.ret o
 | some x,none=>.ret (some x)
 | some x,some y=>ahd x.1 y.1 λb=>.ret (if b then some x else some y)
noncomputable def ZBJ:List Mt->W->Pg (Option W)
 | [],w=>.ret (some w)
 | m::ms,w=>match w m.1 m.2.1,w m.2.1 m.2.2 with
  | some u,some v=>(metP u v).bind λx=>ZBJ ms (put w m.1 m.2.2 x)
  | _,_=>.ret none
noncomputable def frW (pcs:List (List Nat))(ts:List Nat)(i:Nat):Fr:=((pcs.getD i [])[ts.getD i 0]?).map λx=>(x,i)
noncomputable def onW (i:Nat)(m:Mt):Bool:=decide (m.1 <= i) && decide (i < m.2.2)
noncomputable def tkN (ts:List Nat)(i:Nat):List Nat:=ts.set i (ts.getD i 0+1)
noncomputable def ZCh (pcs:List (List Nat)):Nat->List Nat->W->List Nat->Pg (Option (List Nat))
 | 0,_,_,acc=>.ret (some acc)
 | k+1,ts,w,acc=>match w 0 pcs.length with
  | some (some c)=>(ZBJ ((mts 0 pcs.length).filter (onW c.2)) (put w c.2 (c.2+1) (frW pcs (tkN ts c.2) c.2))).bind λo=>match o with
   | none=>.ret none
   | some w'=>ZCh pcs k (tkN ts c.2) w' (acc++[c.1])
  | _=>.ret none
noncomputable def lvW (pcs:List (List Nat))(k:Nat):W:=λa c=>if c=a+1 /\ a < k then some (frW pcs (List.replicate pcs.length 0) a) else none
noncomputable def ZCg (pcs:List (List Nat)):Pg (Option (List Nat)):=(ZBJ (mts 0 pcs.length) (lvW pcs pcs.length)).bind λo=>match o with
 | none=>.ret none
 | some w=>ZCh pcs (pcs.map List.length).sum (List.replicate pcs.length 0) w []
def Me (pr:List A3):Fr->Fr->Fr->Prop
 | none,v,x=>x=v
 | some u,none,x=>x=some u
 | some u,some v,x=>(x=some u /\ Td pr u.1 v.1)∨(x=some v /\ Td pr v.1 u.1)
theorem Me.mono (f:pr <+: pr'):∀ {u v x:Fr},Me pr u v x->Me pr' u v x
 | none,_,_,h=>h
 | some _,none,_,h=>h
 | some _,some _,_,h=>h.imp (λz=>⟨z.1,z.2.mono f⟩) λz=>⟨z.1,z.2.mono f⟩
theorem Me.or:∀ {u v x:Fr},Me pr u v x->x=u∨x=v
 | none,_,_,h=>.inr h
 | some _,none,_,h=>.inl h
 | some _,some _,_,h=>h.imp (λz=>z.1) λz=>z.1
def Nd (pr:List A3)(w:W)(m:Mt):Prop:=∃ u v x,w m.1 m.2.1=some u /\ w m.2.1 m.2.2=some v /\ w m.1 m.2.2=some x /\ Me pr u v x
theorem Nd.congr {m:Mt}(h:Nd pr w m)(f:pr <+: pr')(O:w' m.1 m.2.1=w m.1 m.2.1)(J:w' m.2.1 m.2.2=w m.2.1 m.2.2)(U:w' m.1 m.2.2=w m.1 m.2.2):Nd pr' w' m :=
 let ⟨u,v,x,h1,h2,h3,h4⟩:=h;⟨u,v,x,by rw [O,h1],by rw [J,h2],by rw [U,h3],h4.mono f⟩
structure Tr (pr:List A3)(fr:Nat->Fr)(w:W)(f b:Nat):Prop where
 lf:∀ i,f <= i->i < b->w i (i+1)=some (fr i)
 nd:∀ m∈mts f b,Nd pr w m
section
variable {n:Nat}{fr:Nat->Fr}
theorem Tr.congr (h:Tr pr fr w f b)(g:pr <+: pr')(e:∀ a c,f <= a->c <= b->a < c->w' a c=w a c):Tr pr' fr w' f b :=
 ⟨λi h1 h2=>by rw [e i (i+1) h1 (by omega) (by omega)];exact h.lf i h1 h2,λm hm=>by
  obtain ⟨Y,O,U,J⟩:=mts_mem (a:=m.1) (m:=m.2.1) (c:=m.2.2) _ _ hm
  have:=mid_lt J
  exact (h.nd m hm).congr g (e _ _ (by omega) (by omega) (by omega)) (e _ _ (by omega) (by omega) (by omega)) (e _ _ (by omega) (by omega) (by omega))⟩
theorem Tr.top (h:Tr pr fr w f b)(J:f < b):∃ x,w f b=some x:=by
 by_cases z:b-f < 2
 .rw [show b=f+1 by omega];exact ⟨_,h.lf f (yAB _) J⟩
 .obtain ⟨u,v,x,_,_,e,_⟩:=h.nd (f,mid f b,b) (by rw [mts_node z];exact yAW _ yAD)
  exact ⟨x,e⟩
theorem Tr.down (z:¬ b-f < 2)(h:Tr pr fr w f b):Tr pr fr w f (mid f b) /\ Tr pr fr w (mid f b) b /\ Nd pr w (f,mid f b,b):=by
 have:=mid_lt z
 refine ⟨⟨λi h1 h2=>h.lf i h1 (by omega),λm hm=>h.nd m ?_⟩,⟨λi h1 h2=>h.lf i (by omega) h2,λm hm=>h.nd m ?_⟩,h.nd _ ?_⟩ <;> rw [mts_node z]
 .exact yBS _ (yBS _ hm)
 .exact yBS _ (yAW _ hm)
 .exact yAW _ yAD
theorem Tr.mem (f b:Nat):Tr pr fr w f b->f < b->∀ x,w f b=some (some x)->(∀ i y,fr i=some y->y.2=i)->f <= x.2 /\ x.2 < b /\ fr x.2=some x:=by
 refine Po.tree (P:=λf b=>Tr pr fr w f b->f < b->∀ x,w f b=some (some x)->(∀ i y,fr i=some y->y.2=i)->f <= x.2 /\ x.2 < b /\ fr x.2=some x) (λf b z h U x O hi=>?_) (λf b z i1 i2 h U x O hi=>?_) f b
 .have e:=h.lf f (yAB _) U
  rw [show f+1=b by omega,O] at e
  have e2:=Option.some.inj e
  rw [hi f x e2.symm]
  exact ⟨yAB _,U,e2.symm⟩
 .have:=mid_lt z
  obtain ⟨t1,t2,u,v,x',Y,a2,J,a4⟩:=h.down z
  dsimp only at Y a2 J
  rw [O] at J
  cases J
  rcases a4.or with e | e
  .have:=i1 t1 (by omega) x (by rw [Y,e]) hi
   exact ⟨this.1,by omega,this.2.2⟩
  .have:=i2 t2 (by omega) x (by rw [a2,e]) hi
   exact ⟨by omega,this.2.1,this.2.2⟩
theorem Tr.non (f b:Nat):Tr pr fr w f b->f < b->w f b=some none->∀ i,f <= i->i < b->fr i=none:=by
 refine Po.tree (P:=λf b=>Tr pr fr w f b->f < b->w f b=some none->∀ i,f <= i->i < b->fr i=none) (λf b z h hb O i h1 h2=>?_) (λf b z i1 i2 h hb O i h1 h2=>?_) f b
 .have e:=h.lf f (yAB _) hb
  rw [show f+1=b by omega,O] at e
  rw [show i=f by omega]
  exact (Option.some.inj e).symm
 .have:=mid_lt z
  obtain ⟨t1,t2,u,v,x',U,Y,J,a4⟩:=h.down z
  dsimp only at U Y J
  rw [O] at J
  cases J
  have e:u=none /\ v=none:=by
   cases u with
   | none=>exact ⟨rfl,Eq.symm a4⟩
   | some u=>
    cases v with
    | none=>cases a4
    | some v=>rcases a4 with ⟨z,_⟩ | ⟨z,_⟩ <;> cases z
  rw [e.1] at U
  rw [e.2] at Y
  by_cases hi:i < mid f b
  .exact i1 t1 (by omega) U i h1 hi
  .exact i2 t2 (by omega) Y i (by omega) h2
structure Fo (n:Nat)(fr:Nat->Fr):Prop where
 ix:∀ i y,fr i=some y->y.2=i
 lt:∀ i y,fr i=some y->y.1 < n
 ne:∀ i j x y,i≠j->fr i=some x->fr j=some y->x.1≠y.1
theorem ZEb {P:Fr->List A3->Prop}(U:∀ x,u=some x->x.1 < n)(Y:∀ x,v=some x->x.1 < n)(J:∀ x y,u=some x->v=some y->x.1≠y.1)(c:pr.length <= 800000)(h:∀ x pr',pr <+: pr'->pr'.length <= pr.length+1->Me pr' u v x->P x pr'):Wa n (metP u v) pr P:=by
 cases u with
 | none=>exact h v pr (yAV _) (by omega) rfl
 | some x=>
  cases v with
  | none=>exact h (some x) pr (yAV _) (by omega) rfl
  | some y=>
   show Wa n (ahd x.1 y.1 λb=>.ret (if b then some x else some y)) pr P
   refine Wa.ahd (J x y rfl rfl) (U x rfl) (Y y rfl) c λb pr' f l O t2=>?_
   cases b
   .exact h _ _ f (by omega) (.inr ⟨rfl,t2 rfl⟩)
   .exact h _ _ f (by omega) (.inl ⟨rfl,O rfl⟩)
theorem ZDo {a c:Nat}:put w a c v a c=some v:=by unfold Po.put;rw [if_pos ⟨rfl,rfl⟩]
theorem ZDn {a c a' c':Nat}(h:¬ (a'=a /\ c'=c)):put w a c v a' c'=w a' c':=by unfold Po.put;rw [if_neg h]
theorem Tr.up {x:Fr}(z:¬ b-f < 2)(O:Tr pr fr w f (mid f b))(U:Tr pr fr w (mid f b) b)(h1:w f (mid f b)=some u)(h2:w (mid f b) b=some v)(Y:Me pr u v x):Tr pr fr (put w f b x) f b:=by
 have hm:=mid_lt z
 have g:∀ a c,¬ (a=f /\ c=b)->put w f b x a c=w a c:=λa c h=>ZDn h
 refine ⟨λi h1 h2=>?_,λm J=>?_⟩
 .rw [g _ _ (by omega)]
  by_cases hi:i < mid f b
  .exact O.lf i h1 hi
  .exact U.lf i (by omega) h2
 .rw [mts_node z] at J
  rcases yAY.mp J with J | J
  .rcases yAY.mp J with J | J
   .exact (O.congr (yAV _) λa c _ _ _=>g _ _ (by omega)).nd m J
   .exact (U.congr (yAV _) λa c _ _ _=>g _ _ (by omega)).nd m J
  .cases yAH.mp J
   exact ⟨u,v,x,by rw [g _ _ (by dsimp only;omega)];exact h1,by rw [g _ _ (by dsimp only;omega)];exact h2,ZDo,Y⟩
theorem held_all (O:Fo n fr)(f b:Nat):f < b->∀ (w:W) (pr:List A3) (ms:List Mt) (P:Option W->List A3->Prop),(∀ i,f <= i->i < b->w i (i+1)=some (fr i))->pr.length+(b-f) <= 800000 ->
  (∀ w' pr',pr <+: pr'->(∀ a c,¬ (f <= a /\ c <= b /\ a+2 <= c)->w' a c=w a c)->Tr pr' fr w' f b->pr'.length+1 <= pr.length+(b-f)->Wa n (ZBJ ms w') pr' P)->Wa n (ZBJ (mts f b++ms) w) pr P:=by
 refine Po.tree (P:=λf b=>f < b->∀ (w:W) (pr:List A3) (ms:List Mt) (P:Option W->List A3->Prop),(∀ i,f <= i->i < b->w i (i+1)=some (fr i))->pr.length+(b-f) <= 800000 ->
  (∀ w' pr',pr <+: pr'->(∀ a c,¬ (f <= a /\ c <= b /\ a+2 <= c)->w' a c=w a c)->Tr pr' fr w' f b->pr'.length+1 <= pr.length+(b-f)->Wa n (ZBJ ms w') pr' P)->Wa n (ZBJ (mts f b++ms) w) pr P) (λf b z hb w pr ms P hl c k=>?_) (λf b z i1 i2 hb w pr ms P hl c k=>?_) f b
 .rw [mts_leaf z]
  exact k w pr (yAV _) (λ_ _ _=>rfl) ⟨hl,λm hm=>by rw [mts_leaf z] at hm;cases hm⟩ (by omega)
 .have hm:=mid_lt z
  rw [mts_node z,yAN,yAN]
  refine i1 (by omega) w pr _ P (λi h1 h2=>hl i h1 (by omega)) (by omega) λw1 pr1 f1 e1 t1 l1=>?_
  refine i2 (by omega) w1 pr1 _ P (λi h1 h2=>by rw [e1 _ _ (by omega)];exact hl i (by omega) h2) (by omega) λw2 pr2 f2 e2 t2 l2=>?_
  have J:Tr pr2 fr w2 f (mid f b):=t1.congr f2 λa c h1 h2 h3=>e2 a c (by omega)
  obtain ⟨u,hu⟩:=J.top (by omega)
  obtain ⟨v,hv⟩:=t2.top (by omega)
  have mu:∀ x,u=some x->f <= x.2 /\ x.2 < mid f b /\ fr x.2=some x:=λx e=>Tr.mem _ _ J (by omega) x (by rw [hu,e]) O.ix
  have mv:∀ x,v=some x->mid f b <= x.2 /\ x.2 < b /\ fr x.2=some x:=λx e=>Tr.mem _ _ t2 (by omega) x (by rw [hv,e]) O.ix
  show Wa n (ZBJ ((f,mid f b,b)::ms) w2) pr2 P
  rw [ZBJ]
  dsimp only
  rw [hu,hv]
  refine Wa.bind (ZEb (λx e=>O.lt _ _ (mu x e).2.2) (λx e=>O.lt _ _ (mv x e).2.2) (λx y ex ey=>O.ne x.2 y.2 x y (by have:=mu x ex;have:=mv y ey;omega) (mu x ex).2.2 (mv y ey).2.2) (by omega) λx Y U l3 me=>?_)
  refine k _ Y (f1.trans (f2.trans U)) (λa c h=>?_) (Tr.up z (J.congr U λ_ _ _ _ _=>rfl) (t2.congr U λ_ _ _ _ _=>rfl) hu hv me) (by omega)
  rw [ZDn (by omega),e2 _ _ (by omega),e1 _ _ (by omega)]
def Gd (pr:List A3)(x:Nat)(o:Option Fr):Prop:=∀ c,o=some (some c)->Td pr x c.1
theorem ZBx (h:¬ (f <= i /\ i < b)):(mts f b).filter (onW i)=[]:=by
 rw [List.filter_eq_nil_iff]
 intro m hm
 obtain ⟨_,J,O,_⟩:=mts_mem (a:=m.1) (m:=m.2.1) (c:=m.2.2) _ _ hm
 unfold onW
 intro z
 rw [yBX,decide_eq_true_eq,decide_eq_true_eq] at z
 omega
theorem filter_node (z:¬ b-f < 2)(h:f <= i /\ i < b):(mts f b).filter (onW i)=(mts f (mid f b)).filter (onW i)++((mts (mid f b) b).filter (onW i)++[(f,mid f b,b)]):=by
 rw [mts_node z,yDJ,yDJ,yAN,yCK (by unfold onW;rw [yBX,decide_eq_true_eq,decide_eq_true_eq];exact h)]
 rfl
theorem held_way (Z:Prop){fr':Nat->Fr}{w0:W}{x0:Nat}(ho:Fo n fr)(J:Fo n fr')(hf:∀ j,j≠i->fr' j=fr j)(f b:Nat):f <= i->i < b->∀ (w:W) (pr:List A3) (ms:List Mt) (P:Option W->List A3->Prop),Tr pr fr w0 f b->(∀ a c,f <= a->c <= b->a < c->¬ (a=i /\ c=i+1)->w a c=w0 a c)->w i (i+1)=some (fr' i)->(Z->∀ y,fr' i=some y->Td pr x0 y.1)->pr.length+(b-f) <= 800000 ->
  (∀ w' pr',pr <+: pr'->(∀ a c,¬ (f <= a /\ c <= b /\ a+2 <= c)->w' a c=w a c)->Tr pr' fr' w' f b->(Z->w0 f b=some (some (x0,i))->Gd pr' x0 (w' f b))->pr'.length+1 <= pr.length+(b-f)->Wa n (ZBJ ms w') pr' P)->Wa n (ZBJ ((mts f b).filter (onW i)++ms) w) pr P:=by
 refine Po.tree (P:=λf b=>f <= i->i < b->∀ (w:W) (pr:List A3) (ms:List Mt) (P:Option W->List A3->Prop),Tr pr fr w0 f b->(∀ a c,f <= a->c <= b->a < c->¬ (a=i /\ c=i+1)->w a c=w0 a c)->w i (i+1)=some (fr' i)->(Z->∀ y,fr' i=some y->Td pr x0 y.1)->pr.length+(b-f) <= 800000 ->
  (∀ w' pr',pr <+: pr'->(∀ a c,¬ (f <= a /\ c <= b /\ a+2 <= c)->w' a c=w a c)->Tr pr' fr' w' f b->(Z->w0 f b=some (some (x0,i))->Gd pr' x0 (w' f b))->pr'.length+1 <= pr.length+(b-f)->Wa n (ZBJ ms w') pr' P)->Wa n (ZBJ ((mts f b).filter (onW i)++ms) w) pr P) (λf b z h1 h2 w pr ms P t e hw hx c k=>?_) (λf b z i1 i2 h1 h2 w pr ms P t e hw hx c k=>?_) f b
 .rw [mts_leaf z]
  have e1:f=i:=by omega
  have e2:b=i+1:=by omega
  subst e1
  subst e2
  exact k w pr (yAV _) (λ_ _ _=>rfl) ⟨λj U Y=>by rw [show j=f by omega];exact hw,λm hm=>by rw [mts_leaf z] at hm;cases hm⟩ (λzz _ c hc=>hx zz c (by rw [hw] at hc;exact Option.some.inj hc)) (by omega)
 .have hm:=mid_lt z
  rw [filter_node z ⟨h1,h2⟩,yAN,yAN]
  obtain ⟨t1,t2,u0,v0,z0,a1,a2,a3,a4⟩:=t.down z
  dsimp only at a1 a2 a3
  by_cases hi:i < mid f b
  .rw [ZBx (f:=mid f b) (b:=b) (by omega),List.nil_append]
   refine i1 h1 hi w pr _ P t1 (λa c U Y=>e a c U (by omega)) hw hx (by omega) λw1 pr1 f1 e1 s1 gd l1=>?_
   have s2:Tr pr1 fr' w1 (mid f b) b:=by
    have s:=t2.congr f1 (w':=w1) λa c U Y g3=>by rw [e1 a c (by omega),e a c (by omega) Y g3 (by omega)]
    exact ⟨λj U Y=>by rw [hf j (by omega)];exact s.lf j U Y,s.nd⟩
   obtain ⟨u,hu⟩:=s1.top (by omega)
   have hv:w1 (mid f b) b=some v0:=by rw [e1 _ _ (by omega),e _ _ (by omega) (yAB _) (by omega) (by omega)];exact a2
   have mu:∀ x,u=some x->f <= x.2 /\ x.2 < mid f b /\ fr' x.2=some x:=λx q=>Tr.mem _ _ s1 (by omega) x (by rw [hu,q]) J.ix
   have mv:∀ x,v0=some x->mid f b <= x.2 /\ x.2 < b /\ fr' x.2=some x:=λx q=>Tr.mem _ _ s2 (by omega) x (by rw [hv,q]) J.ix
   show Wa n (ZBJ ((f,mid f b,b)::ms) w1) pr1 P
   rw [ZBJ]
   dsimp only
   rw [hu,hv]
   refine Wa.bind (ZEb (λx q=>J.lt _ _ (mu x q).2.2) (λx q=>J.lt _ _ (mv x q).2.2) (λx y ex ey=>J.ne x.2 y.2 x y (by have:=mu x ex;have:=mv y ey;omega) (mu x ex).2.2 (mv y ey).2.2) (by omega) λx a0 O l3 me=>?_)
   refine k _ a0 (f1.trans O) (λa c h=>?_) (Tr.up z (s1.congr O λ_ _ _ _ _=>rfl) (s2.congr O λ_ _ _ _ _=>rfl) hu hv me) (λzz h0 c hc=>?_) (by omega)
   .rw [ZDn (by omega),e1 _ _ (by omega)]
   .rw [ZDo] at hc
    have hc:=Option.some.inj hc
    rw [a3] at h0
    have h0:=Option.some.inj h0
    subst h0
    have ev:v0≠some (x0,i):=λq=>by have:=mv _ q;dsimp only at this;omega
    have eu:u0=some (x0,i):=by
     rcases a4.or with q | q
     .exact q.symm
     .exact absurd q.symm ev
    rcases me.or with q | q
    .rw [q] at hc
     exact (gd zz (by rw [a1,eu]) c (by rw [hu,hc])).mono O
    .rw [q] at hc
     rw [eu,hc] at a4
     rcases a4 with ⟨_,y⟩ | ⟨y,_⟩
     .exact y.mono (f1.trans O)
     .rw [hc] at ev;exact absurd y.symm ev
  .rw [ZBx (f:=f) (b:=mid f b) (by omega),List.nil_append]
   refine i2 (by omega) h2 w pr _ P t2 (λa c U Y=>e a c (by omega) Y) hw hx (by omega) λw1 pr1 f1 e1 s2 gd l1=>?_
   have s1:Tr pr1 fr' w1 f (mid f b):=by
    have s:=t1.congr f1 (w':=w1) λa c U Y g3=>by rw [e1 a c (by omega),e a c U (by omega) g3 (by omega)]
    exact ⟨λj U Y=>by rw [hf j (by omega)];exact s.lf j U Y,s.nd⟩
   obtain ⟨v,hv⟩:=s2.top (by omega)
   have hu:w1 f (mid f b)=some u0:=by rw [e1 _ _ (by omega),e _ _ (yAB _) (by omega) (by omega) (by omega)];exact a1
   have mu:∀ x,u0=some x->f <= x.2 /\ x.2 < mid f b /\ fr' x.2=some x:=λx q=>Tr.mem _ _ s1 (by omega) x (by rw [hu,q]) J.ix
   have mv:∀ x,v=some x->mid f b <= x.2 /\ x.2 < b /\ fr' x.2=some x:=λx q=>Tr.mem _ _ s2 (by omega) x (by rw [hv,q]) J.ix
   show Wa n (ZBJ ((f,mid f b,b)::ms) w1) pr1 P
   rw [ZBJ]
   dsimp only
   rw [hu,hv]
   refine Wa.bind (ZEb (λx q=>J.lt _ _ (mu x q).2.2) (λx q=>J.lt _ _ (mv x q).2.2) (λx y ex ey=>J.ne x.2 y.2 x y (by have:=mu x ex;have:=mv y ey;omega) (mu x ex).2.2 (mv y ey).2.2) (by omega) λx a0 O l3 me=>?_)
   refine k _ a0 (f1.trans O) (λa c h=>?_) (Tr.up z (s1.congr O λ_ _ _ _ _=>rfl) (s2.congr O λ_ _ _ _ _=>rfl) hu hv me) (λzz h0 c hc=>?_) (by omega)
   .rw [ZDn (by omega),e1 _ _ (by omega)]
   .rw [ZDo] at hc
    have hc:=Option.some.inj hc
    rw [a3] at h0
    have h0:=Option.some.inj h0
    subst h0
    have eu:u0≠some (x0,i):=λq=>by have:=mu _ q;dsimp only at this;omega
    have ev:v0=some (x0,i):=by
     rcases a4.or with q | q
     .exact absurd q.symm eu
     .exact q.symm
    rcases me.or with q | q
    .rw [q] at hc
     rw [ev,hc] at a4
     rcases a4 with ⟨y,_⟩ | ⟨_,y⟩
     .rw [hc] at eu;exact absurd y.symm eu
     .exact y.mono (f1.trans O)
    .rw [q] at hc
     exact (gd zz (by rw [a2,ev]) c (by rw [hv,hc])).mono O
end
theorem Nb.at {R:Nat->Nat->Prop}:∀ {l:List Nat} {i a b:Nat},Nb R l->l[i]?=some a->l[i+1]?=some b->R a b
 | [],i,a,b,_,h,_=>by simp at h
 | [x],i,a,b,_,_,h=>by simp at h
 | x::y::l,0,a,b,h,h1,h2=>by cases h1;cases h2;exact h.1
 | x::y::l,i+1,a,b,h,h1,h2=>Nb.at (l:=y::l) h.2 (by simpa using h1) (by simpa using h2)
noncomputable def rstW:List (List Nat)->List Nat->List Nat
 | p::ps,t::ts=>p.drop t++rstW ps ts
 | _,_=>[]
theorem ZDF:∀ {pcs:List (List Nat)} {ts:List Nat} {i t x:Nat} {p:List Nat},pcs[i]?=some p->ts[i]?=some t->p[t]?=some x->(rstW pcs ts).Perm (x::rstW pcs (ts.set i (t+1)))
 | [],_,_,_,_,_,h,_,_=>by simp at h
 | _::_,[],_,_,_,_,_,h,_=>by simp at h
 | q::ps,u::ts,0,t,x,p,h1,h2,h3=>by
  cases h1
  cases h2
  obtain ⟨hl,e⟩:=yAO.mp h3
  show (q.drop u++rstW ps ts).Perm (x::(q.drop (u+1)++rstW ps ts))
  rw [yBT hl,e]
  exact .refl _
 | q::ps,u::ts,i+1,t,x,p,h1,h2,h3=>by
  have:=ZDF (pcs:=ps) (ts:=ts) (i:=i) (by simpa using h1) (by simpa using h2) h3
  show (q.drop u++rstW ps ts).Perm (x::(q.drop u++rstW ps (ts.set i (t+1))))
  exact (this.append_left _).trans List.perm_middle
theorem ZEX:∀ {pcs:List (List Nat)} {ts:List Nat},(∀ i,i < pcs.length->(pcs.getD i [])[ts.getD i 0]?=none)->rstW pcs ts=[]
 | [],_,_=>rfl
 | _::_,[],_=>rfl
 | p::ps,t::ts,h=>by
  have O:=h 0 (by simp)
  have h1:=ZEX (pcs:=ps) (ts:=ts) λi hi=>by
   have:=h (i+1) (by simpa using hi)
   simpa using this
  show p.drop t++rstW ps ts=[]
  have J:p[t]?=none:=by simpa using O
  rw [h1,yBA,yCE (List.getElem?_eq_none_iff.mp J)]
theorem ZCs:∀ pcs:List (List Nat),rstW pcs (List.replicate pcs.length 0)=pcs.flatten
 | []=>rfl
 | p::ps=>by
  rw [yAG,List.replicate_succ]
  show p.drop 0++rstW ps (List.replicate ps.length 0)=_
  rw [ZCs ps];rfl
structure Pc (Z:Prop)(n:Nat)(pr:List A3)(pcs:List (List Nat)):Prop where
 nt:Z->∀ p∈pcs,Nt pr p
 nd:pcs.flatten.Nodup
 lt:∀ x∈pcs.flatten,x < n
theorem Pc.mono {Z:Prop}{n:Nat}(h:Pc Z n pr pcs)(f:pr <+: pr'):Pc Z n pr' pcs:=⟨λzz p J=>(h.nt zz p J).mono f,h.nd,h.lt⟩
theorem ZBN {ts:List Nat}{y:Nat×Nat}(h:frW pcs ts i=some y):y.2=i /\ ∃ p,pcs[i]?=some p /\ p[ts.getD i 0]?=some y.1:=by
 unfold frW at h
 obtain ⟨x,h1,h2⟩:=Option.map_eq_some_iff.mp h
 rw [<- h2]
 refine ⟨rfl,?_⟩
 rw [yBI] at h1
 cases e:pcs[i]? with
 | none=>rw [e] at h1;simp at h1
 | some p=>rw [e] at h1;exact ⟨p,rfl,h1⟩
theorem Pc.fo {Z:Prop}{n:Nat}(h:Pc Z n pr pcs)(ts:List Nat):Fo n (frW pcs ts):=by
 refine ⟨λi y J=>(ZBN J).1,λi y J=>?_,λi j x y U O J=>?_⟩
 .obtain ⟨_,p,h1,h2⟩:=ZBN J
  exact h.lt _ (List.mem_flatten.mpr ⟨p,yAS h1,yAS h2⟩)
 .obtain ⟨_,p,h1,h2⟩:=ZBN O
  obtain ⟨_,q,g1,g2⟩:=ZBN J
  have hd:=(List.pairwise_flatten.mp h.nd).2
  have O:=yAS h2
  have J:=yAS g2
  obtain ⟨a1,a2⟩:=yAO.mp h1
  obtain ⟨Y,b2⟩:=yAO.mp g1
  rcases Nat.lt_or_gt_of_ne U with z | z
  .exact yCX.mp hd i j a1 Y z x.1 (by rw [a2];exact O) y.1 (by rw [b2];exact J)
  .exact Ne.symm (yCX.mp hd j i Y a1 z y.1 (by rw [b2];exact J) x.1 (by rw [a2];exact O))
theorem tkN_ne {ts:List Nat}{j:Nat}(h:j≠i):frW pcs (tkN ts i) j=frW pcs ts j:=by
 unfold frW tkN
 rw [yBI (l:=ts.set i _),List.getElem?_set,if_neg (Ne.symm h),<- yBI]
section
variable {n:Nat}{Z:Prop}
theorem pourP_al {pcs:List (List Nat)}{D:Nat}(hD:pcs.length <= D)(hp:0 < pcs.length):∀ (k:Nat) (ts:List Nat) (w:W) (J:List Nat) (pr:List A3),Pc Z n pr pcs->ts.length=pcs.length->Tr pr (frW pcs ts) w 0 pcs.length->(rstW pcs ts).length=k->(Z->Nt pr J)->(Z->∀ A z,J=A++[z]->Gd pr z (w 0 pcs.length))->pr.length+D * k <= 800000 ->
  Wa n (ZCh pcs k ts w J) pr λo pr'=>∃ os,o=some os /\ os.Perm (J++rstW pcs ts) /\ (Z->Nt pr' os) /\ pr <+: pr' /\ pr'.length <= pr.length+D * k
 | 0,ts,w,J,pr,pc,tl,tr,hk,na,ga,c=>by
  refine ⟨J,rfl,?_,na,yAV _,by omega⟩
  rw [yBU.mp hk,yBA]
 | k+1,ts,w,J,pr,pc,tl,tr,hk,na,ga,c=>by
  have fo:=pc.fo ts
  obtain ⟨o,Y⟩:=tr.top hp
  cases o with
  | none=>
   exfalso
   have:=Tr.non _ _ tr hp Y
   rw [ZEX (λi hi=>by
    have:=this i (yAJ _) hi
    unfold frW at this
    exact Option.map_eq_none_iff.mp this)] at hk
   cases hk
  | some c'=>
   obtain ⟨_,hc,a2⟩:=Tr.mem _ _ tr hp c' Y fo.ix
   obtain ⟨_,p,O,U⟩:=ZBN a2
   have a3:D * (k+1)=D * k+D:=Nat.mul_succ ..
   have a1:ts[c'.2]?=some (ts.getD c'.2 0):=(ZBn (by omega)).1
   rw [ZCh,Y]
   dsimp only
   refine Wa.bind ?_
   rw [<- yBA ((mts 0 pcs.length).filter (onW c'.2))]
   refine held_way Z (fr:=frW pcs ts) (fr':=frW pcs (tkN ts c'.2)) (w0:=w) (i:=c'.2) (x0:=c'.1) fo (pc.fo _) (λj hj=>tkN_ne hj) 0 pcs.length (yAJ _) hc _ pr [] _ tr (λa c _ _ _ h=>ZDn h) ZDo (λzz y hy=>?_) (by omega) λw' pr1 f1 _ a0 gd l1=>?_
   .obtain ⟨_,q,q1,q2⟩:=ZBN hy
    rw [O] at q1
    cases q1
    have e:(tkN ts c'.2).getD c'.2 0=ts.getD c'.2 0+1:=by
     unfold tkN
     rw [yBI,List.getElem?_set,if_pos rfl,if_pos (by omega)];rfl
    rw [e] at q2
    exact (pc.nt zz p (yAS O)).at U q2
   .show Wa n (ZCh pcs k (tkN ts c'.2) w' (J++[c'.1])) pr1 _
    have pm:=ZDF O a1 U
    have hl:=pm.length_eq
    rw [yAG] at hl
    refine (pourP_al hD hp k (tkN ts c'.2) w' (J++[c'.1]) pr1 (pc.mono f1) (by unfold tkN;rw [yDE];exact tl) a0 (by unfold tkN;omega) (λzz=>?_) (λzz A z e=>?_) (by omega)).imp λo pr2 h=>?_
    .refine Nb.app ((na zz).mono f1) trivial λA z u B e1 e2=>?_
     cases e2
     exact (ga zz A z e1 c' Y).mono f1
    .rw [<- ZDI e]
     exact gd zz Y
    .obtain ⟨os,e,h1,h2,h3,h4⟩:=h
     refine ⟨os,e,?_,h2,f1.trans h3,by omega⟩
     rw [yAN] at h1
     exact h1.trans ((List.Perm.symm pm).append_left J)
theorem pouredP_al {D:Nat}(Y:pcs.length <= D)(pc:Pc Z n pr pcs)(c:pr.length+D * (pcs.flatten.length+1) <= 800000):Wa n (ZCg pcs) pr λo pr'=>∃ os,o=some os /\ os.Perm pcs.flatten /\ (Z->Nt pr' os) /\ pr <+: pr' /\ pr'.length <= pr.length+D * (pcs.flatten.length+1):=by
 have J:D * (pcs.flatten.length+1)=D * pcs.flatten.length+D:=Nat.mul_succ ..
 refine Wa.bind ?_
 by_cases hp:0 < pcs.length
 .rw [<- yBA (mts 0 pcs.length)]
  refine held_all (fr:=frW pcs (List.replicate pcs.length 0)) (pc.fo _) 0 pcs.length hp _ pr [] _ (λi _ hi=>by unfold lvW;rw [if_pos ⟨rfl,hi⟩]) (by omega) λw' pr1 f1 _ O l1=>?_
  show Wa n (ZCh pcs (pcs.map List.length).sum (List.replicate pcs.length 0) w' []) pr1 _
  refine (pourP_al Y hp _ _ w' [] pr1 (pc.mono f1) (yBV ..) O (by rw [ZCs,yCM]) (λ_=>trivial) (λ_ A z e=>by simp at e) (by rw [<- yCM];omega)).imp λo pr2 h=>?_
  obtain ⟨os,e,h1,h2,h3,U⟩:=h
  rw [<- yCM] at U
  refine ⟨os,e,by rw [ZCs] at h1;exact h1,h2,f1.trans h3,by omega⟩
 .have e:pcs=[]:=yBU.mp (by omega)
  subst e
  rw [mts_leaf (by decide)]
  exact ⟨[],rfl,.refl _,λ_=>trivial,yAV _,by omega⟩
noncomputable def oneP (d:Nat):Nat->List (List Nat)->List (List Nat)->Pg (Option (List (List Nat)))
 | 0,_,acc=>.ret (some acc)
 | k+1,pcs,acc=>(ZCg (pcs.take d)).bind λo=>match o with
  | none=>.ret none
  | some os=>oneP d k (pcs.drop d) (acc++[os])
theorem flat_td (l:List (List Nat))(d:Nat):(l.take d).flatten++(l.drop d).flatten=l.flatten:=by rw [<- yCG,yBJ]
theorem oneP_al {d:Nat}(hd:d <= 9):∀ (k:Nat) (pcs acc:List (List Nat)) (pr:List A3),Pc Z n pr (acc++pcs)->pcs.length <= k * d->pr.length+9 * (pcs.flatten.length+k) <= 800000 ->
  Wa n (oneP d k pcs acc) pr λo pr'=>∃ out,o=some out /\ out.flatten.Perm (acc++pcs).flatten /\ (Z->∀ p∈out,Nt pr' p) /\ out.length=acc.length+k /\ pr <+: pr' /\ pr'.length <= pr.length+9 * (pcs.flatten.length+k)
 | 0,pcs,acc,pr,pc,hl,c=>by
  rw [yCA] at hl
  have e:pcs=[]:=yBU.mp (by omega)
  subst e
  rw [yBA] at *
  exact ⟨acc,rfl,.refl _,pc.nt,rfl,yAV _,by omega⟩
 | k+1,pcs,acc,pr,pc,hl,c=>by
  have Y:=flat_td pcs d
  have fl:=congrArg List.length Y
  rw [yAC] at fl
  rw [yBQ] at hl
  have U:∀ x∈(pcs.take d).flatten,x∈(acc++pcs).flatten:=λx O=>by
   rw [yCG,<- Y]
   exact yAW _ (yBS _ O)
  have pt:Pc Z n pr (pcs.take d):=by
   refine ⟨λzz p J=>pc.nt zz p (yAW _ (List.mem_of_mem_take J)),?_,λx O=>pc.lt x (U x O)⟩
   have:=pc.nd
   rw [yCG,<- Y] at this
   exact (List.nodup_append.mp (List.nodup_append.mp this).2.1).1
  refine Wa.bind ((pouredP_al (D:=9) (by rw [yAP];omega) pt (by omega)).imp λo pr1 h=>?_)
  obtain ⟨os,rfl,h1,h2,h3,h4⟩:=h
  show Wa n (oneP d k (pcs.drop d) (acc++[os])) pr1 _
  have pm:(acc++[os]++pcs.drop d).flatten.Perm (acc++pcs).flatten:=by
   rw [yCG,yCG,yCG,<- Y,yAN]
   refine List.Perm.append_left _ ?_
   rw [show [os].flatten=os by simp]
   exact h1.append_right _
  refine (oneP_al hd k (pcs.drop d) (acc++[os]) pr1 ⟨λzz p J=>?_,pm.nodup_iff.mpr pc.nd,λx O=>pc.lt x (pm.mem_iff.mp O)⟩ (by rw [yAX];omega) (by omega)).imp λo pr2 g=>?_
  .rcases yAY.mp J with J | J
   .rcases yAY.mp J with J | J
    .exact (pc.nt zz p (yBS _ J)).mono h3
    .rw [yAH.mp J];exact h2 zz
   .exact (pc.nt zz p (yAW _ (List.mem_of_mem_drop J))).mono h3
  .obtain ⟨out,e,g1,g2,g3,g4,g5⟩:=g
   refine ⟨out,e,g1.trans pm,g2,?_,h3.trans g4,by omega⟩
   rw [g3,yAC,yBD];omega
noncomputable def grpN (l d:Nat):Nat:=(l+d-1) / d
theorem ZEx {l:Nat}(J:0 < d):l <= grpN l d * d:=by
 unfold grpN
 have h1:=Nat.div_add_mod (l+d-1) d
 have h2:=Nat.mod_lt (l+d-1) J
 rw [Nat.mul_comm] at h1
 omega
theorem ZFX {l:Nat}(J:2 <= d)(hl:2 <= l):grpN l d < l:=by
 unfold grpN
 refine Nat.div_lt_of_lt_mul ?_
 obtain ⟨a,rfl⟩:∃ a,d=a+2:=⟨d-2,by omega⟩
 obtain ⟨b,rfl⟩:∃ b,l=b+2:=⟨l-2,by omega⟩
 have:(a+2) * (b+2)=a * b+2 * a+2 * b+4:=by rw [Nat.add_mul,Nat.mul_add,Nat.mul_add];omega
 omega
noncomputable def ZBK (d:Nat):Nat->List (List Nat)->List Nat->Pg (Option (List Nat×List Nat))
 | 0,pcs,ns=>.ret (some (pcs.headD [],ns))
 | m+1,pcs,ns=>if 1 < pcs.length then (oneP d (grpN pcs.length d) pcs []).bind λo=>match o with
   | none=>.ret none
   | some out=>ZBK d m out (ns++[out.length])
  else .ret (some (pcs.headD [],ns))
theorem head_flat (h:pcs.length <= 1):pcs.headD []=pcs.flatten:=by
 match pcs,h with
 | [],_=>rfl
 | [p],_=>simp
theorem head_nt (pc:Pc Z n pr pcs)(h:pcs.length <= 1)(zz:Z):Nt pr pcs.flatten:=by
 match pcs,h with
 | [],_=>exact trivial
 | [p],_=>have:=pc.nt zz p yAD;simpa using this
theorem ZC6 {d:Nat}(U:2 <= d)(O:d <= 9):∀ (m:Nat) (pcs:List (List Nat)) (ns:List Nat) (pr:List A3),Pc Z n pr pcs->pcs.length <= m+1->pcs.flatten.length <= 120->pcs.length <= 120->pr.length+2200 * pcs.length <= 800000 ->
  Wa n (ZBK d m pcs ns) pr λo pr'=>∃ r,o=some r /\ r.1.Perm pcs.flatten /\ (Z->Nt pr' r.1) /\ pr <+: pr' /\ pr'.length <= pr.length+2200 * pcs.length
 | 0,pcs,ns,pr,pc,hm,hf,hl,c=>by
  refine ⟨_,rfl,?_,?_,yAV _,by omega⟩ <;> dsimp only <;> rw [head_flat (by omega)]
  exact λzz=>head_nt pc (by omega) zz
 | m+1,pcs,ns,pr,pc,hm,hf,hl,c=>by
  rw [ZBK]
  by_cases z:1 < pcs.length
  .rw [if_pos z]
   have h1:=ZEx (l:=pcs.length) (d:=d) (by omega)
   have h2:=ZFX (l:=pcs.length) U (by omega)
   refine Wa.bind ((oneP_al O _ pcs [] pr pc h1 (by omega)).imp λo pr1 h=>?_)
   obtain ⟨out,rfl,J,g2,Y,g4,g5⟩:=h
   have J:out.flatten.Perm pcs.flatten:=J
   show Wa n (ZBK d m out (ns++[out.length])) pr1 _
   rw [yBM,yBN] at Y
   have gl:=J.length_eq
   refine (ZC6 U O m out _ pr1 ⟨g2,J.nodup_iff.mpr pc.nd,λx hx=>pc.lt x (J.mem_iff.mp hx)⟩ (by omega) (by omega) (by omega) (by omega)).imp λo pr2 h=>?_
   obtain ⟨r,e,a1,a2,a3,a4⟩:=h
   exact ⟨r,e,a1.trans J,a2,g4.trans a3,by omega⟩
  .rw [if_neg z]
   refine ⟨_,rfl,?_,?_,yAV _,by omega⟩ <;> dsimp only <;> rw [head_flat (by omega)]
   exact λzz=>head_nt pc (by omega) zz
noncomputable def pcsP (G:Nat->Nat->Nat->Nat->Nat)(ls wd N:Nat):Nat->Nat->List (List Nat)->Pg (List (List Nat))
 | 0,_,acc=>.ret acc
 | k+1,f,acc=>(bypP G ls f (min (f+wd) N)).bind λos=>pcsP G ls wd N k (f+wd) (acc++[os])
theorem pcsP_al {G:Nat->Nat->Nat->Nat->Nat}{ls wd:Nat}(hw:0 < wd)(hn:n <= 120):∀ (k f:Nat) (acc:List (List Nat)) (pr:List A3),n <= f+k * wd->k * wd < n-f+wd->acc.flatten.Perm (List.range' 0 (min f n))->(∀ p∈acc,Nt pr p)->pr.length+400 * (n-f) <= 780000 ->
  Wa n (pcsP G ls wd n k f acc) pr λout pr'=>out.flatten.Perm (List.range' 0 n) /\ (∀ p∈out,Nt pr' p) /\ out.length=acc.length+k /\ pr <+: pr' /\ pr'.length <= pr.length+400 * (n-f)
 | 0,f,acc,pr,h1,h2,h3,h4,c=>by
  rw [yCA] at h1
  rw [Nat.min_eq_right (by omega)] at h3
  exact ⟨h3,h4,rfl,yAV _,by omega⟩
 | k+1,f,acc,pr,h1,h2,h3,h4,c=>by
  rw [yBQ] at h1 h2
  have hf:f < n:=by omega
  refine Wa.bind ((bypP_al (n:=n) (pr:=pr) (s:=f) (e:=min (f+wd) n) (by omega) (by omega) hn (by omega)).imp λos pr1 h=>?_)
  obtain ⟨Y,g2,O,g4⟩:=h
  refine (pcsP_al hw hn k (f+wd) (acc++[os]) pr1 (by omega) (by omega) ?_ (λp J=>?_) (by omega)).imp λout pr2 h=>?_
  .rw [yCG,show [os].flatten=os by simp]
   rw [yBW (by omega)] at h3
   refine (h3.append Y).trans ?_
   have:=List.range'_append (s:=0) (m:=f) (n:=min (f+wd) n-f) (step:=1)
   rw [Nat.one_mul,yBN] at this
   rw [this,show f+(min (f+wd) n-f)=min (f+wd) n by omega]
  .rcases yAY.mp J with J | J
   .exact (h4 p J).mono O
   .rw [yAH.mp J];exact g2
  .obtain ⟨a1,a2,U,a4,a5⟩:=h
   refine ⟨a1,a2,?_,O.trans a4,by omega⟩
   rw [U,yAC,yBD];omega
noncomputable def ZFe (G:Nat->Nat->Nat->Nat->Nat)(ls wd N:Nat):Pg (List (List Nat)):=pcsP G ls wd N (grpN N wd) 0 []
theorem allPcs_al (Z:Prop){G:Nat->Nat->Nat->Nat->Nat}(hw:0 < wd)(hn:n <= 120)(c:pr.length+400 * n <= 780000):Wa n (ZFe G ls wd n) pr λout pr'=>Pc Z n pr' out /\ out.flatten.Perm (List.range' 0 n) /\ out.length <= 120 /\ pr <+: pr' /\ pr'.length <= pr.length+400 * n:=by
 have h1:=ZEx (l:=n) (d:=wd) hw
 have h2:grpN n wd * wd < n-0+wd:=by
  unfold grpN
  have:=Nat.div_mul_le_self (n+wd-1) wd
  omega
 refine (pcsP_al hw hn (grpN n wd) 0 [] pr (by omega) h2 (by rw [Nat.zero_min];exact .refl _) (λp hp=>by cases hp) c).imp λout pr' h=>?_
 obtain ⟨J,a2,O,a4,Y⟩:=h
 refine ⟨⟨λ_=>a2,J.nodup_iff.mpr List.nodup_range',λx U=>?_⟩,J,?_,a4,Y⟩
 .have:=List.mem_range'_1.mp (J.mem_iff.mp U);omega
 .rw [O,yBM,yBN]
  unfold grpN at *
  by_cases z:wd <= n
  .have:(n+wd-1) / wd <= n:=by
    refine Nat.div_le_of_le_mul ?_
    obtain ⟨a,rfl⟩:∃ a,wd=a+1:=⟨wd-1,by omega⟩
    cases n with
    | zero=>omega
    | succ m=>
     have:(a+1) * (m+1)=a * m+a+m+1:=by rw [Nat.add_mul,Nat.mul_add];omega
     omega
   omega
  .have:(n+wd-1) / wd < 2:=Nat.div_lt_of_lt_mul (by omega)
   omega
noncomputable def ZFd (G:Nat->Nat->Nat->Nat->Nat)(ls wd d N:Nat):Pg (Option (List Nat)):=(ZFe G ls wd N).bind λpcs=>(ZBK d pcs.length pcs []).bind λo=>match o with
 | none=>.ret none
 | some r=>.ret (some r.1)
theorem byPcsP_al {G:Nat->Nat->Nat->Nat->Nat}(hw:0 < wd)(hd:2 <= d)(J:d <= 9)(hn:n <= 120)(c:pr.length <= 400000):Wa n (ZFd G ls wd d n) pr λo pr'=>∃ os,o=some os /\ os.Perm (List.range' 0 n) /\ Nt pr' os /\ pr <+: pr' /\ pr'.length <= pr.length+320000:=by
 refine Wa.bind ((allPcs_al True hw hn (by omega)).imp λpcs pr1 h=>?_)
 obtain ⟨a1,O,Y,a4,a5⟩:=h
 have hl:=O.length_eq
 rw [yDB] at hl
 refine Wa.bind ((ZC6 hd J pcs.length pcs [] pr1 a1 (by omega) (by omega) Y (by omega)).imp λo pr2 h=>?_)
 obtain ⟨r,rfl,U,b2,b3,b4⟩:=h
 exact ⟨r.1,rfl,U.trans O,b2 trivial,a4.trans b3,by omega⟩
end
def Pg.Ct {α:Type}:Pg α->(α->Nat->Prop)->Prop
 | .ret a,P=>P a 0
 | .ask _ _ k,P=>∀ b,(k b).Ct λa n=>P a (n+1)
section
variable {α β:Type}
theorem Pg.Ct.imp:∀ {x:Pg α} {P Q:α->Nat->Prop},x.Ct P->(∀ a n,P a n->Q a n)->x.Ct Q
 | .ret a,_,_,h,f=>f a 0 h
 | .ask _ _ k,_,_,h,f=>λb=>(h b).imp λa n z=>f a _ z
theorem Pg.Ct.bind {f:α->Pg β}:∀ {x:Pg α} {P:β->Nat->Prop},(x.Ct λa n=>(f a).Ct λb m=>P b (n+m))->(x.bind f).Ct P
 | .ret a,P,h=>(show (f a).Ct λb m=>P b (0+m) from h).imp λb m z=>by rw [yBN] at z;exact z
 | .ask _ _ k,P,h=>λb=>Pg.Ct.bind ((h b).imp λa n z=>z.imp λd m y=>by rw [show n+m+1=n+1+m by omega];exact y)
theorem ct_ahd {p q:Nat}{k:Bool->Pg α}{P:α->Nat->Prop}(h:∀ b,(k b).Ct λa n=>P a (n+1)):(ahd p q k).Ct P:=λb=>h _
theorem Wp.ct {n:Nat}{An:Nat->Nat->Nat->Bool}{P:α->List A3->Prop}:∀ {x:Pg α} {pr:List A3} {Q:α->Nat->Prop},Wp n An x pr P->x.Ct Q->Wp n An x pr λa pr'=>(∃ k,Q a k /\ pr'.length=pr.length+k) /\ P a pr'
 | .ret a,pr,Q,h,g=>⟨⟨0,g,rfl⟩,h⟩
 | .ask p q k,pr,Q,h,g=>⟨h.1,h.2.1,h.2.2.1,(h.2.2.2.ct (g _)).imp λa pr' z=>⟨by
  obtain ⟨⟨k,h1,h2⟩,_⟩:=z
  rw [yAC,yBD] at h2
  exact ⟨k+1,h1,by omega⟩,z.2⟩⟩
end
theorem metP_ct:∀ (u v:Fr),(metP u v).Ct λ_ k=>k <= 1
 | none,_=>yAJ _
 | some _,none=>yAJ _
 | some x,some y=>by
  show (ahd x.1 y.1 λb=>.ret (if b then some x else some y)).Ct _
  exact ct_ahd λb=>yAB _
theorem ZDJ:∀ (ms:List Mt) (w:W),(ZBJ ms w).Ct λ_ k=>k <= ms.length
 | [],w=>yAJ _
 | m::ms,w=>by
  rw [ZBJ]
  split
  .refine Pg.Ct.bind ((metP_ct _ _).imp λx n hn=>(ZDJ ms _).imp λo k J=>?_)
   rw [yAG];omega
  .exact yAJ _
theorem way_len (f b:Nat):∀ e,b-f <= 2 ^ e->((mts f b).filter (onW i)).length <= e:=by
 refine Po.tree (P:=λf b=>∀ e,b-f <= 2 ^ e->((mts f b).filter (onW i)).length <= e) (λf b z e h=>?_) (λf b z O Y e h=>?_) f b
 .rw [mts_leaf z];exact yAJ _
 .by_cases hi:f <= i /\ i < b
  .obtain ⟨e,rfl⟩:∃ U,e=U + 1:=⟨e-1,by
    cases e with
    | zero=>rw [Nat.pow_zero] at h;omega
    | succ e=>rfl⟩
   rw [Nat.pow_succ] at h
   rw [filter_node z hi,yAC,yAC,yBD]
   have hm:=mid_lt z
   have J:mid f b=f+(b-f+1) / 2:=rfl
   by_cases hm2:i < mid f b
   .rw [ZBx (f:=mid f b) (b:=b) (by omega)]
    have:=O e (by omega)
    rw [yBM];omega
   .rw [ZBx (f:=f) (b:=mid f b) (by omega)]
    have:=Y e (by omega)
    rw [yBM];omega
  .rw [ZBx hi];exact yAJ _
theorem pourP_ct {pcs:List (List Nat)}{e:Nat}(h:pcs.length <= 2 ^ e):∀ (k:Nat) (ts:List Nat) (w:W) (J:List Nat),(ZCh pcs k ts w J).Ct λ_ m=>m <= e * k
 | 0,ts,w,J=>yAJ _
 | k+1,ts,w,J=>by
  rw [ZCh]
  split
  .rename_i c _
   refine Pg.Ct.bind ((ZDJ _ _).imp λo n hn=>?_)
   have hw:=way_len (i:=c.2) 0 pcs.length e (by omega)
   have hm:e * (k+1)=e * k+e:=Nat.mul_succ ..
   cases o with
   | none=>exact yAL hn (by omega)
   | some w'=>exact (pourP_ct h k _ w' _).imp λo m O=>by omega
  .exact yAJ _
theorem pouredP_ct {e:Nat}(h:pcs.length <= 2 ^ e):(ZCg pcs).Ct λ_ m=>m <= (pcs.length-1)+e * (pcs.map List.length).sum:=by
 refine Pg.Ct.bind ((ZDJ _ _).imp λo n hn=>?_)
 rw [mts_len] at hn
 cases o with
 | none=>exact yAL hn (by omega)
 | some w=>exact (pourP_ct h _ _ w []).imp λo m hm=>by omega
noncomputable def totN (pcs:List (List Nat)):Nat:=(pcs.map List.length).sum
theorem totN_td (l:List (List Nat))(d:Nat):totN (l.take d)+totN (l.drop d)=totN l:=by
 unfold totN
 rw [<- List.sum_append,<- yAK,yBJ]
theorem oneP_ct {d e:Nat}:∀ (k:Nat) (pcs acc:List (List Nat)),k * d < pcs.length+d->min d pcs.length <= 2 ^ e->0 < d->(oneP d k pcs acc).Ct λ_ m=>m+k <= pcs.length+e * totN pcs
 | 0,pcs,acc,h1,h2,h3=>by show 0+0 <= _;omega
 | k+1,pcs,acc,h1,h2,h3=>by
  rw [yBQ] at h1
  have U:=totN_td pcs d
  have hl:(pcs.take d).length=min d pcs.length:=yAP ..
  have Y:(pcs.drop d).length=pcs.length-d:=yAX ..
  refine Pg.Ct.bind ((pouredP_ct (pcs:=pcs.take d) (e:=e) (by omega)).imp λo n hn=>?_)
  have hn:n <= (pcs.take d).length-1+e * totN (pcs.take d):=hn
  have hm:e * totN pcs=e * totN (pcs.take d)+e * totN (pcs.drop d):=by rw [<- U,Nat.mul_add]
  cases o with
  | none=>
   show n+0+(k+1) <= _
   have:k <= (pcs.drop d).length:=by
    have:k <= k * d:=Nat.le_mul_of_pos_right _ h3
    have J:k * d < pcs.length:=by omega
    rcases Nat.lt_or_ge pcs.length d with z | z
    .have:k=0:=by
      cases k with
      | zero=>rfl
      | succ k=>rw [yBQ] at J;omega
     omega
    .cases k with
     | zero=>omega
     | succ k=>
      rw [yBQ] at J
      have:k <= k * d:=Nat.le_mul_of_pos_right _ h3
      omega
   omega
  | some os=>
   refine (oneP_ct (e:=e) k (pcs.drop d) (acc++[os]) (by
    rcases Nat.lt_or_ge pcs.length d with z | z
    .have:k=0:=by
      cases k with
      | zero=>rfl
      | succ k=>rw [yBQ] at h1;omega
     subst this
     rw [yCA];omega
    .omega) (by omega) h3).imp λo m O=>?_
   omega
noncomputable def rmost (bt:Nat->Nat)(d tot:Nat):Nat->Nat->Nat
 | 0,_=>0
 | f+1,m=>if 1 < m then (m-grpN m d)+tot * bt (min m d-1)+rmost bt d tot f (grpN m d) else 0
theorem oneP_tot {d:Nat}:∀ (k:Nat) (pcs J:List (List Nat)),pcs.length <= k * d->(oneP d k pcs J).Al λo=>∀ out,o=some out->out.length=J.length+k /\ totN out=totN J+totN pcs
 | 0,pcs,J,h=>λout e=>by
  cases e
  rw [yCA] at h
  have:pcs=[]:=yBU.mp (by omega)
  subst this
  exact ⟨rfl,rfl⟩
 | k+1,pcs,J,h=>by
  rw [yBQ] at h
  refine Pg.Al.bind ((pouredP_tot (pcs.take d)).imp λo O=>?_)
  cases o with
  | none=>exact λout e=>by cases e
  | some os=>
   refine (oneP_tot k (pcs.drop d) (J++[os]) (by rw [yAX];omega)).imp λo g out e=>?_
   obtain ⟨U,Y⟩:=g out e
   have ht:=totN_td pcs d
   have h1:=O os rfl
   have:totN (J++[os])=totN J+os.length:=by unfold totN;simp
   refine ⟨by rw [U,yAC,yBD];omega,by omega⟩
where
 al_any {α:Type} {P:α->Prop} (h:∀ a,P a):∀ {x:Pg α},x.Al P
  | .ret a=>h a
  | .ask _ _ k=>λb=>al_any h
 pourP_tot {pcs:List (List Nat)}:∀ (k:Nat) (ts:List Nat) (w:W) (J:List Nat),(ZCh pcs k ts w J).Al λo=>∀ os,o=some os->os.length=J.length+k
  | 0,ts,w,J=>λos e=>by cases e;rfl
  | k+1,ts,w,J=>by
   rw [ZCh]
   split
   .refine Pg.Al.bind (al_any λo=>?_)
    cases o with
    | none=>exact λos e=>by cases e
    | some w'=>
     refine (pourP_tot k _ w' _).imp λo h os e=>?_
     rw [h os e,yAC,yBD];omega
   .exact λos e=>by cases e
 pouredP_tot (pcs:List (List Nat)):(ZCg pcs).Al λo=>∀ os,o=some os->os.length=totN pcs:=by
  refine Pg.Al.bind (al_any λo=>?_)
  cases o with
  | none=>exact λos e=>by cases e
  | some w=>
   refine (pourP_tot _ _ w []).imp λo h os e=>?_
   rw [h os e,yBM,yBN];rfl
theorem Pg.Ct.also {α:Type}:∀ {x:Pg α} {P:α->Nat->Prop} {Q:α->Prop},x.Ct P->x.Al Q->x.Ct λa n=>Q a /\ P a n
 | .ret a,_,_,h,g=>⟨g,h⟩
 | .ask _ _ k,_,_,h,g=>λb=>(h b).also (g b)
theorem roundsP_ct {O:Nat->Nat}(J:∀ n,n < 2 ^ O n){d:Nat}(hd:2 <= d):∀ (f:Nat) (pcs:List (List Nat)) (ns:List Nat),(ZBK d f pcs ns).Ct λ_ m=>m <= rmost O d (totN pcs) f pcs.length
 | 0,pcs,ns=>yAJ _
 | f+1,pcs,ns=>by
  rw [ZBK,rmost]
  by_cases z:1 < pcs.length
  .rw [if_pos z,if_pos z]
   have hg:=ZEx (l:=pcs.length) (d:=d) (by omega)
   have U:grpN pcs.length d * d < pcs.length+d:=by
    unfold grpN
    have:=Nat.div_mul_le_self (pcs.length+d-1) d
    omega
   have hb:=J (min pcs.length d-1)
   refine Pg.Ct.bind (((oneP_ct (e:=O (min pcs.length d-1)) _ pcs [] U (by omega) (by omega)).also (oneP_tot _ pcs [] hg)).imp λo n hn=>?_)
   obtain ⟨Y,hn⟩:=hn
   rw [Nat.mul_comm] at hn
   cases o with
   | none=>show n+0 <= _;omega
   | some out=>
    obtain ⟨h1,h2⟩:=Y out rfl
    have h2:totN out=totN pcs:=by rw [h2];show 0+totN pcs=_;omega
    rw [yBM,yBN] at h1
    refine (roundsP_ct J hd f out _).imp λo m hm=>?_
    rw [h1,h2] at hm
    omega
  .rw [if_neg z,if_neg z];exact yAJ _
noncomputable def ZDi (pcs:List (List Nat)):Nat->List Nat->W->List Nat->Pg (Option (List Nat×W))
 | 0,_,w,acc=>.ret (some (acc,w))
 | k+1,ts,w,acc=>match w 0 pcs.length with
  | some (some c)=>(ZBJ ((mts 0 pcs.length).filter (onW c.2)) (put w c.2 (c.2+1) (frW pcs (tkN ts c.2) c.2))).bind λo=>match o with
   | none=>.ret none
   | some w'=>ZDi pcs k (tkN ts c.2) w' (acc++[c.1])
  | _=>.ret none
noncomputable def wlkP (pcs:List (List Nat)):Pg (Option (List Nat×W)):=(ZBJ (mts 0 pcs.length) (lvW pcs pcs.length)).bind λo=>match o with
 | none=>.ret none
 | some w=>ZDi pcs (pcs.map List.length).sum (List.replicate pcs.length 0) w []
section
variable {n:Nat}
theorem walkP_al {pcs:List (List Nat)}{D:Nat}(hD:pcs.length <= D)(hp:0 < pcs.length):∀ (k:Nat) (ts:List Nat) (w:W) (J:List Nat) (pr:List A3),Pc False n pr pcs->ts.length=pcs.length->Tr pr (frW pcs ts) w 0 pcs.length->(rstW pcs ts).length=k->pr.length+D * k <= 800000 ->
  Wa n (ZDi pcs k ts w J) pr λo pr'=>∃ os w',o=some (os,w') /\ os.Perm (J++rstW pcs ts) /\ w' 0 pcs.length=some none /\ pr <+: pr' /\ pr'.length <= pr.length+D * k
 | 0,ts,w,J,pr,pc,tl,tr,hk,c=>by
  obtain ⟨o,ho⟩:=tr.top hp
  refine ⟨J,w,rfl,?_,?_,yAV _,by omega⟩
  .rw [yBU.mp hk,yBA]
  .cases o with
   | none=>exact ho
   | some c'=>
    obtain ⟨_,hc,U⟩:=Tr.mem _ _ tr hp c' ho (pc.fo ts).ix
    obtain ⟨_,p,Y,O⟩:=ZBN U
    have:=(ZDF Y (ZBn (by omega)).1 O).length_eq
    rw [hk,yAG] at this
    omega
 | k+1,ts,w,J,pr,pc,tl,tr,hk,c=>by
  have fo:=pc.fo ts
  obtain ⟨o,ho⟩:=tr.top hp
  cases o with
  | none=>
   exfalso
   have:=Tr.non _ _ tr hp ho
   rw [ZEX (λi hi=>by
    have:=this i (yAJ _) hi
    unfold frW at this
    exact Option.map_eq_none_iff.mp this)] at hk
   cases hk
  | some c'=>
   obtain ⟨_,hc,U⟩:=Tr.mem _ _ tr hp c' ho fo.ix
   obtain ⟨_,p,Y,O⟩:=ZBN U
   have a2:D * (k+1)=D * k+D:=Nat.mul_succ ..
   have a1:ts[c'.2]?=some (ts.getD c'.2 0):=(ZBn (by omega)).1
   rw [ZDi,ho]
   dsimp only
   refine Wa.bind ?_
   rw [<- yBA ((mts 0 pcs.length).filter (onW c'.2))]
   refine held_way False (fr:=frW pcs ts) (fr':=frW pcs (tkN ts c'.2)) (w0:=w) (i:=c'.2) (x0:=c'.1) fo (pc.fo _) (λj hj=>tkN_ne hj) 0 pcs.length (yAJ _) hc _ pr [] _ tr (λa c _ _ _ h=>ZDn h) ZDo (λz=>z.elim) (by omega) λw' pr1 f1 _ a0 gd l1=>?_
   show Wa n (ZDi pcs k (tkN ts c'.2) w' (J++[c'.1])) pr1 _
   have pm:=ZDF Y a1 O
   have hl:=pm.length_eq
   rw [yAG] at hl
   refine (walkP_al hD hp k (tkN ts c'.2) w' (J++[c'.1]) pr1 (pc.mono f1) (by unfold tkN;rw [yDE];exact tl) a0 (by unfold tkN;omega) (by omega)).imp λo pr2 h=>?_
   obtain ⟨os,w2,e,h1,h2,h3,h4⟩:=h
   refine ⟨os,w2,e,?_,h2,f1.trans h3,by omega⟩
   rw [yAN] at h1
   exact h1.trans ((List.Perm.symm pm).append_left J)
theorem wlkP_al {D:Nat}(hD:pcs.length <= D)(pc:Pc False n pr pcs)(c:pr.length+D * (pcs.flatten.length+1) <= 800000):Wa n (wlkP pcs) pr λo pr'=>∃ os w',o=some (os,w') /\ os.Perm pcs.flatten /\ (pcs.length=0∨w' 0 pcs.length=some none) /\ pr <+: pr' /\ pr'.length <= pr.length+D * (pcs.flatten.length+1):=by
 have J:D * (pcs.flatten.length+1)=D * pcs.flatten.length+D:=Nat.mul_succ ..
 refine Wa.bind ?_
 by_cases hp:0 < pcs.length
 .rw [<- yBA (mts 0 pcs.length)]
  refine held_all (fr:=frW pcs (List.replicate pcs.length 0)) (pc.fo _) 0 pcs.length hp _ pr [] _ (λi _ hi=>by unfold lvW;rw [if_pos ⟨rfl,hi⟩]) (by omega) λw' pr1 f1 _ O l1=>?_
  show Wa n (ZDi pcs (pcs.map List.length).sum (List.replicate pcs.length 0) w' []) pr1 _
  refine (walkP_al hD hp _ _ w' [] pr1 (pc.mono f1) (yBV ..) O (by rw [ZCs,yCM]) (by rw [<- yCM];omega)).imp λo pr2 h=>?_
  obtain ⟨os,U,e,h1,h2,h3,Y⟩:=h
  rw [<- yCM] at Y
  exact ⟨os,U,e,by rw [ZCs] at h1;exact h1,.inr h2,f1.trans h3,by omega⟩
 .have e:pcs=[]:=yBU.mp (by omega)
  subst e
  rw [mts_leaf (by decide)]
  exact ⟨[],_,rfl,.refl _,.inl rfl,yAV _,by omega⟩
end
end Pw
namespace Law
open PySem L2 Pw
variable {B e i j k ls m p q r:Nat}{CA CJ CP a ak d f gr jn l lg ma ml od pc pl rl ru sd ta tk tl wd:Addr}{H H':Hp}{fd:FuncData}{vs:List V}{D:Ends}{P:TS}{hls oa pls:List Addr}{u x y:V}{b:Bool}{o:HO}{gs os ts:List Nat}{v:Po.Fr}{kvs:List (List Key×V)}{pcs:List (List Nat)}{w:Po.W}{pr:List A3}{α:Type}{Q:VK}{dv:List Value}
local macro_rules | `(tactic| walk_at "o")=>`(tactic| first | exact Or.inl rfl | exact Or.inr rfl)
local macro_rules|`(tactic|walk_at "rd")=>do let f:=fun(s:String)=>((s.splitOn).map fun x=>Lean.mkIdent x.toName).toArray;let b:=f "ipI_int gCons_eq gNil_eq tVar_0 tVar_1 tVar_2 tVar_3 tVar_4 tVar_5 tVar_6 tVar_7 tVar_8 tVar_9 tVar_10 tVar_11 tVar_12 tVar_13 rI0_int rI_int rU_int rEq_int rNe_int rEq_bl rNe_bl rEq_str rNe_str ex_bl ex_int onB_bl onI_int ZEl List.set_cons_zero List.set_cons_succ yCT List.nil_append yBA true_and decide_eq_true_eq Bool.not_eq_true' decide_eq_false_iff_not yAZ List.map_nil yAG yBM Nat.reduceAdd Nat.reduceSub yBN yBG List.replicate_zero List.replicate_succ if_true if_false yDF Bool.true_eq_false Bool.not_true Bool.not_false";let a:=b++f "cx_K tDNewT tDNotIn tDIn tDGet sDPut tChain tRevL tCompR2_eq sFldAug_eq cx_cloK tCallV ZC8 tForE_eq tCompE_eq tAug_eq gSub tSeq tIfS tTest tB tOr tAnd tNot tOp tUn tC tEither tCompR3_eq tBL tAsg tRet tRetN tDrop ZFv tNever tAndV tOrV tNotV tIf ZFw ZFD ZC1 tNil tCB tFld_eq sFld_eq tForL_eq tForR1_eq tForR2_eq tCompL_eq tCompR1_eq tYes tBM tBM0 tLst tTup ZFk tSl tPart tNoPart L2.start";`(tactic|((try dsimp only[$[$a:ident],*]);(try simp only[$[$b:ident],*])))
local macro_rules | `(tactic| walk_at "up")=>`(tactic| first | assumption | (refine Same.get (by assumption) ?_;walk_at "up"))
local macro_rules | `(tactic| walk_at "lk")=>`(tactic| ((repeat (first | rw [lkc,if_pos rfl] | rw [lkc,if_neg (by decide +kernel)]));first | done | rfl))
noncomputable def top (i:Nat):Stmt:=PySem.Challenge.pw_sorthall_k68_whole_whatever_is_told.main.body.getD i (.Pass ⟨0,0,0,0⟩)
noncomputable abbrev ZFH:Stmt:=top 2
noncomputable abbrev ZCf:Stmt:=ZAf (top 7) 0
noncomputable abbrev ZBe:Stmt:=ZAf (top 7) 1
noncomputable abbrev ZCH:Stmt:=ZAf (top 7) 2
noncomputable abbrev ZBs:Stmt:=ZAf (top 7) 3
noncomputable abbrev ZBT:Stmt:=ZAf (top 7) 4
noncomputable abbrev ZC5:Stmt:=ZAf (top 7) 5
noncomputable abbrev ZBt:Stmt:=ZAf (top 7) 6
noncomputable abbrev ZD1:Stmt:=top 8
noncomputable abbrev ZBq:Stmt:=top 10
noncomputable abbrev ZDR:Stmt:=top 11
noncomputable abbrev ZDQ:Stmt:=top 13
noncomputable abbrev ZD2:Stmt:=top 14
noncomputable abbrev ZEV:Stmt:=top 16
noncomputable abbrev ZCe:Stmt:=ZAf (top 18) 0
noncomputable abbrev ZBS:Stmt:=ZAf (top 18) 1
noncomputable abbrev ZA0:Stmt:=ZAf (top 18) 2
noncomputable abbrev ZBd:Stmt:=ZAf (top 18) 3
noncomputable abbrev ZA9:Stmt:=ZAf (top 18) 4
noncomputable abbrev ZC4:Stmt:=ZAf (top 18) 5
noncomputable abbrev ZCd:Stmt:=ZAf (top 18) 6
noncomputable abbrev ZCG:Stmt:=ZAf (top 18) 8
noncomputable abbrev ZDT:Stmt:=top 19
noncomputable abbrev ZB0:Stmt:=top 21
noncomputable abbrev ZCb:Stmt:=ZAf (top 22) 0
noncomputable abbrev ZBc:Stmt:=ZAf (top 22) 1
noncomputable abbrev ZBr:Stmt:=ZAf (top 22) 2
noncomputable abbrev ZC3:Stmt:=ZAf (top 22) 3
noncomputable abbrev ZCc:Stmt:=ZAf (top 22) 4
noncomputable abbrev ZC2:Stmt:=ZAf (top 22) 5
noncomputable abbrev ZCF:Stmt:=ZAf (top 22) 6
noncomputable abbrev ZCZ:Stmt:=ZAf (top 22) 7
noncomputable abbrev ZCa:Stmt:=ZAf (top 22) 8
noncomputable abbrev ZDy:Stmt:=top 23
noncomputable abbrev ZCV:Stmt:=top 25
noncomputable abbrev ZCW:Stmt:=top 26
noncomputable abbrev ZCY:Stmt:=top 27
noncomputable abbrev ZCJ:Stmt:=ZAf (top 32) 0
noncomputable abbrev ZCI:Stmt:=ZAf (top 32) 1
noncomputable abbrev ZB1:Stmt:=ZAf (top 32) 2
noncomputable abbrev ZBU:Stmt:=ZAf (top 35) 0
noncomputable abbrev ZBE:Stmt:=ZAf (top 35) 1
noncomputable abbrev ZDS:Stmt:=top 37
noncomputable abbrev ZD3:Stmt:=top 38
noncomputable abbrev ZDx:Stmt:=top 39
noncomputable abbrev ZD4:Stmt:=top 40
noncomputable abbrev ZDz:Stmt:=top 41
noncomputable abbrev ZFI:Stmt:=top 42
noncomputable abbrev ZEU:Stmt:=top 43
noncomputable abbrev ZFJ:Stmt:=top 44
noncomputable abbrev ZBz:Stmt:=top 45
noncomputable abbrev ZEW:Stmt:=top 46
noncomputable abbrev ZCX:Stmt:=top 47
noncomputable abbrev ZDw:Stmt:=top 48
noncomputable abbrev ZDv:Stmt:=top 49
noncomputable abbrev ZFG:Stmt:=top 50
noncomputable abbrev ZD0:Stmt:=top 51
theorem Vc:FnScope ["asker","order","first","place","low","high","wide","middle"] ["asker","order","first","place"] (ZAG ZFH):=⟨rfl,rfl,rfl,by decide +kernel,rfl,by decide +kernel,by decide +kernel⟩
theorem sc_Join_init:FnScope ["self","asker","left","right"] ["self","asker","left","right"] (ZAG ZCf):=⟨rfl,rfl,rfl,by decide +kernel,rfl,by decide +kernel,by decide +kernel⟩
theorem sc_Join_has_more:FnScope ["self","side"] ["self","side"] (ZAG ZBe):=⟨rfl,rfl,rfl,by decide +kernel,rfl,by decide +kernel,by decide +kernel⟩
theorem sc_Join_front:FnScope ["self","side"] ["self","side"] (ZAG ZCH):=⟨rfl,rfl,rfl,by decide +kernel,rfl,by decide +kernel,by decide +kernel⟩
theorem sc_Join_take_on:FnScope ["self","side","more","start"] ["self","side","more"] (ZAG ZBs):=⟨rfl,rfl,rfl,by decide +kernel,rfl,by decide +kernel,by decide +kernel⟩
theorem sc_Join_take_rest:FnScope ["self","side"] ["self","side"] (ZAG ZBT):=⟨rfl,rfl,rfl,by decide +kernel,rfl,by decide +kernel,by decide +kernel⟩
theorem sc_Join_win:FnScope ["self","side"] ["self"] (ZAG ZC5):=⟨rfl,rfl,rfl,by decide +kernel,rfl,by decide +kernel,by decide +kernel⟩
theorem sc_Join_leap_on:FnScope ["self","side","other"] ["self","side"] (ZAG ZBt):=⟨rfl,rfl,rfl,by decide +kernel,rfl,by decide +kernel,by decide +kernel⟩
theorem Vd:FnScope ["asker","left","right","join","wins","winner","side"] ["asker","left","right"] (ZAG ZD1):=⟨rfl,rfl,rfl,by decide +kernel,rfl,by decide +kernel,by decide +kernel⟩
theorem Vh:FnScope ["asker","first","end","stop","beyond","falling"] ["asker","first","end"] (ZAG ZBq):=⟨rfl,rfl,rfl,by decide +kernel,rfl,by decide +kernel,by decide +kernel⟩
theorem Vx:FnScope ["first","beyond","falling","places"] ["first","beyond","falling"] (ZAG ZDR):=⟨rfl,rfl,rfl,by decide +kernel,rfl,by decide +kernel,by decide +kernel⟩
theorem Vg:FnScope ["asker","order","place","low","high","middle"] ["asker","order","place"] (ZAG ZDQ):=⟨rfl,rfl,rfl,by decide +kernel,rfl,by decide +kernel,by decide +kernel⟩
theorem Vj:FnScope ["asker","first","least","end","stop","part","found","order","place"] ["asker","first","least","end"] (ZAG ZD2):=⟨rfl,rfl,rfl,by decide +kernel,rfl,by decide +kernel,by decide +kernel⟩
theorem Vf:FnScope ["many","first","middle","beyond","lower","upper","found"] ["many","first","middle","beyond"] (ZAG ZEV):=⟨rfl,rfl,rfl,by decide +kernel,rfl,by decide +kernel,by decide +kernel⟩
theorem sc_Pile_init:FnScope ["self","asker","least","part"] ["self","asker","least","part"] (ZAG ZCe):=⟨rfl,rfl,rfl,by decide +kernel,rfl,by decide +kernel,by decide +kernel⟩
theorem sc_Pile_beyond_of:FnScope ["self","number"] ["self","number"] (ZAG ZBS):=⟨rfl,rfl,rfl,by decide +kernel,rfl,by decide +kernel,by decide +kernel⟩
theorem sc_Pile_is_due_beneath:FnScope ["self"] ["self"] (ZAG ZA0):=⟨rfl,rfl,rfl,by decide +kernel,rfl,by decide +kernel,by decide +kernel⟩
theorem sc_Pile_join_two:FnScope ["self","lower","order","deed"] ["self","lower"] (ZAG ZBd):=⟨rfl,rfl,rfl,by decide +kernel,rfl,by decide +kernel,by decide +kernel⟩
theorem sc_Pile_grade_on_top:FnScope ["self","middle","beyond"] ["self","middle","beyond"] (ZAG ZA9):=⟨rfl,rfl,rfl,by decide +kernel,rfl,by decide +kernel,by decide +kernel⟩
theorem sc_Pile_lay:FnScope ["self","first","found","beyond"] ["self"] (ZAG ZC4):=⟨rfl,rfl,rfl,by decide +kernel,rfl,by decide +kernel,by decide +kernel⟩
theorem sc_Pile_step:FnScope ["self"] ["self"] (ZAG ZCd):=⟨rfl,rfl,rfl,by decide +kernel,rfl,by decide +kernel,by decide +kernel⟩
theorem sc_Pile_paper:FnScope ["self","told","order"] ["self"] (ZAG ZCG):=⟨rfl,rfl,rfl,by decide +kernel,rfl,by decide +kernel,by decide +kernel⟩
theorem Vv:FnScope ["asker","least","part","pile"] ["asker","least","part"] (ZAG ZDT):=⟨rfl,rfl,rfl,by decide +kernel,rfl,by decide +kernel,by decide +kernel⟩
theorem Vu:FnScope ["first","beyond","middle"] ["first","beyond"] (ZAG ZB0):=⟨rfl,rfl,rfl,by decide +kernel,rfl,by decide +kernel,by decide +kernel⟩
theorem sc_Pour_init:FnScope ["self","asker","pieces","piece"] ["self","asker","pieces"] (ZAG ZCb):=⟨rfl,rfl,rfl,by decide +kernel,rfl,by decide +kernel,by decide +kernel⟩
theorem sc_Pour_front_of:FnScope ["self","piece","taken","places"] ["self","piece","taken"] (ZAG ZBc):=⟨rfl,rfl,rfl,by decide +kernel,rfl,by decide +kernel,by decide +kernel⟩
theorem sc_Pour_goes_on:FnScope ["self","p","q"] ["self","p","q"] (ZAG ZBr):=⟨rfl,rfl,rfl,by decide +kernel,rfl,by decide +kernel,by decide +kernel⟩
theorem sc_Pour_met:FnScope ["self","one","other"] ["self","one","other"] (ZAG ZC3):=⟨rfl,rfl,rfl,by decide +kernel,rfl,by decide +kernel,by decide +kernel⟩
theorem sc_Pour_held:FnScope ["self","meetings","went_on","told","first","middle","beyond"] ["self","meetings","went_on"] (ZAG ZCc):=⟨rfl,rfl,rfl,by decide +kernel,rfl,by decide +kernel,by decide +kernel⟩
theorem sc_Pour_top:FnScope ["self"] ["self"] (ZAG ZC2):=⟨rfl,rfl,rfl,by decide +kernel,rfl,by decide +kernel,by decide +kernel⟩
theorem sc_Pour_first:FnScope ["self","top"] ["self"] (ZAG ZCF):=⟨rfl,rfl,rfl,by decide +kernel,rfl,by decide +kernel,by decide +kernel⟩
theorem sc_Pour_take:FnScope ["self","top","piece","taken","way","went_on"] ["self"] (ZAG ZCZ):=⟨rfl,rfl,rfl,by decide +kernel,rfl,by decide +kernel,by decide +kernel⟩
theorem sc_Pour_left:FnScope ["self"] ["self"] (ZAG ZCa):=⟨rfl,rfl,rfl,by decide +kernel,rfl,by decide +kernel,by decide +kernel⟩
theorem Vs:FnScope ["asker","pieces","pour"] ["asker","pieces"] (ZAG ZDy):=⟨rfl,rfl,rfl,by decide +kernel,rfl,by decide +kernel,by decide +kernel⟩
theorem V2:FnScope ["asker","pieces","mouths"] ["asker","pieces","mouths"] (ZAG ZCV):=⟨rfl,rfl,rfl,by decide +kernel,rfl,by decide +kernel,by decide +kernel⟩
theorem Vq:FnScope ["asker","pieces","mouths","coming","numbers"] ["asker","pieces","mouths"] (ZAG ZCW):=⟨rfl,rfl,rfl,by decide +kernel,rfl,by decide +kernel,by decide +kernel⟩
theorem Vr:FnScope ["asker","wide","mouths","least","many","pieces"] ["asker","wide","mouths","least"] (ZAG ZCY):=⟨rfl,rfl,rfl,by decide +kernel,rfl,by decide +kernel,by decide +kernel⟩
theorem sc_Asker_init:FnScope ["self","row","rule","most"] ["self","row","rule","most"] (ZAG ZCJ):=⟨rfl,rfl,rfl,by decide +kernel,rfl,by decide +kernel,by decide +kernel⟩
theorem sc_Asker_many:FnScope ["self"] ["self"] (ZAG ZCI):=⟨rfl,rfl,rfl,by decide +kernel,rfl,by decide +kernel,by decide +kernel⟩
theorem sc_Asker_ahead:FnScope ["self","p","q","later","earlier","said"] ["self","p","q"] (ZAG ZB1):=⟨rfl,rfl,rfl,by decide +kernel,rfl,by decide +kernel,by decide +kernel⟩
theorem sc_AskedRule_init:FnScope ["self","teller"] ["self","teller"] (ZAG ZBU):=⟨rfl,rfl,rfl,by decide +kernel,rfl,by decide +kernel,by decide +kernel⟩
theorem sc_AskedRule_before:FnScope ["self","x","y","teller"] ["self","x","y"] (ZAG ZBE):=⟨rfl,rfl,rfl,by decide +kernel,rfl,by decide +kernel,by decide +kernel⟩
theorem V1:FnScope ["_law_script","_law_k"] ["_law_script","_law_k"] (ZAG ZDS):=⟨rfl,rfl,rfl,by decide +kernel,rfl,by decide +kernel,by decide +kernel⟩
theorem Ve:FnScope ["_law_script","_law_k","_law_base","_law_spare_ones","_law_found","_law_cell","_law_turn"] ["_law_script","_law_k","_law_base"] (ZAG ZD3):=⟨rfl,rfl,rfl,by decide +kernel,rfl,by decide +kernel,by decide +kernel⟩
theorem Vk:FnScope ["_law_cell","_law_many","_law_found","_law_number","_law_k"] ["_law_cell","_law_many"] (ZAG ZDx):=⟨rfl,rfl,rfl,by decide +kernel,rfl,by decide +kernel,by decide +kernel⟩
theorem Vl:FnScope ["_law_keys_here","_law_cell","_law_row","_law_number","_law_part"] ["_law_keys_here","_law_cell"] (ZAG ZD4):=⟨rfl,rfl,rfl,by decide +kernel,rfl,by decide +kernel,by decide +kernel⟩
theorem Vn:FnScope ["_law_keys_here","_law_cell","_law_row","_law_number","_law_at","_law_key"] ["_law_keys_here","_law_cell"] (ZAG ZDz):=⟨rfl,rfl,rfl,by decide +kernel,rfl,by decide +kernel,by decide +kernel⟩
theorem Vi:FnScope ["_law_script","_law_most_here","_law_mode","_law_mix","_law_width","_law_keys_here","_law_way"] ["_law_script","_law_most_here"] (ZAG ZFI):=⟨rfl,rfl,rfl,by decide +kernel,rfl,by decide +kernel,by decide +kernel⟩
theorem V0:FnScope ["_law_found"] ["_law_found"] (ZAG ZEU):=⟨rfl,rfl,rfl,by decide +kernel,rfl,by decide +kernel,by decide +kernel⟩
theorem Vy:FnScope ["_law_script","_law_mix"] ["_law_script","_law_mix"] (ZAG ZFJ):=⟨rfl,rfl,rfl,by decide +kernel,rfl,by decide +kernel,by decide +kernel⟩
theorem Vz:FnScope ["_law_log","_law_bits_here","_law_teller_here"] ["_law_log","_law_bits_here"] (ZAG ZBz):=⟨rfl,rfl,rfl,by decide +kernel,rfl,by decide +kernel,by decide +kernel⟩
theorem Vb:FnScope ["_law_keys_here","_law_script","_law_cell","_law_mix","_law_digits_here","_law_many","_law_pieces","_law_some","_law_place","_law_number"] ["_law_keys_here","_law_script"] (ZAG ZEW):=⟨rfl,rfl,rfl,by decide +kernel,rfl,by decide +kernel,by decide +kernel⟩
theorem Vt:FnScope ["_law_order","_law_every","_law_place"] ["_law_order","_law_every"] (ZAG ZCX):=⟨rfl,rfl,rfl,by decide +kernel,rfl,by decide +kernel,by decide +kernel⟩
theorem Vp:FnScope ["_law_log","_law_later","_law_earlier","_law_said"] ["_law_log"] (ZAG ZDw):=⟨rfl,rfl,rfl,by decide +kernel,rfl,by decide +kernel,by decide +kernel⟩
theorem Vo:FnScope ["_law_pour","_law_many","_law_log","_law_most_here","_law_order","_law_k","_law_made","_law_first"] ["_law_pour","_law_many","_law_log","_law_most_here"] (ZAG ZDv):=⟨rfl,rfl,rfl,by decide +kernel,rfl,by decide +kernel,by decide +kernel⟩
theorem Vm:FnScope ["_law_many","_law_mouths","_law_places","_law_most_here","_law_groups"] ["_law_many","_law_mouths","_law_places"] (ZAG ZFG):=⟨rfl,rfl,rfl,by decide +kernel,rfl,by decide +kernel,by decide +kernel⟩
theorem Va:FnScope ["_law_script","_law_keys_here","_law_pieces","_law_every","_law_piece","_law_mix","_law_log","_law_asker","_law_high","_law_order","_law_made","_law_found","_law_mouths","_law_paper"] ["_law_script"] (ZAG ZD0):=⟨rfl,rfl,rfl,by decide +kernel,rfl,by decide +kernel,by decide +kernel⟩
noncomputable abbrev ZAT:Stmt:=inBody ZBz 0
theorem csc_teller:CloScope ["_law_x","_law_y","_law_said","_law_bits_here","_law_log"] ["_law_x","_law_y"] ["_law_bits_here","_law_log"] (ZAG ZAT):=⟨rfl,rfl,rfl,by decide +kernel,rfl,rfl,by decide,by decide +kernel,by decide +kernel,by decide +kernel,λx h=>(show ∀ y∈(ZAG ZAT).names,y.2=.free->y.1∈(["_law_bits_here","_law_log"]:List Str) by decide +kernel) _ (PySem.mem_of_lookup h) rfl⟩
structure Bt (K:W.Frag)(mg:Str->Option Value)(Ce Cd Cc Ca Cb:Addr):Prop where
 b_len:mg "len"=none
 b_range:mg "range"=none
 b_list:mg "list"=none
 b_isinstance:mg "isinstance"=none
 b_bool:mg "bool"=none
 b_int:mg "int"=none
 b_max:mg "max"=none
 b_min:mg "min"=none
 b_sum:mg "sum"=none
 b_sorted:mg "sorted"=none
 b_reversed:mg "reversed"=none
 b_enumerate:mg "enumerate"=none
 b_dict:mg "dict"=none
 b_ValueError:mg "ValueError"=none
 c_LEFT:∃ t,mg "LEFT"=some (.int 0 t)
 c_RIGHT:∃ t,mg "RIGHT"=some (.int 1 t)
 c_WINS_TO_LEAP:∃ t,mg "WINS_TO_LEAP"=some (.int 4 t)
 m_Join:mg "Join"=some (.ref Ce)
 Dc:Cls K Ce
 Nr:NoAttr K Ce "asker"
 Nm:NoAttr K Ce "sides"
 Nf:NoAttr K Ce "taken"
 Nv:NoAttr K Ce "places"
 m_Pile:mg "Pile"=some (.ref Cd)
 Da:Cls K Cd
 Np:NoAttr K Cd "asker"
 Ny:NoAttr K Cd "least"
 Nh:NoAttr K Cd "start"
 Nk:NoAttr K Cd "end"
 Nj:NoAttr K Cd "reached"
 Nc:NoAttr K Cd "firsts"
 Na:NoAttr K Cd "orders"
 Nl:NoAttr K Cd "grades"
 m_Pour:mg "Pour"=some (.ref Cc)
 Db:Cls K Cc
 Nw:NoAttr K Cc "asker"
 Ng:NoAttr K Cc "pieces"
 No:NoAttr K Cc "taken"
 Nq:NoAttr K Cc "meetings"
 Ni:NoAttr K Cc "went_on"
 m_Asker:mg "Asker"=some (.ref Ca)
 De:Cls K Ca
 Nn:NoAttr K Ca "row"
 N0:NoAttr K Ca "rule"
 N1:NoAttr K Ca "most"
 Nu:NoAttr K Ca "asked"
 Nz:NoAttr K Ca "told"
 m_AskedRule:mg "AskedRule"=some (.ref Cb)
 Df:Cls K Cb
 Nx:NoAttr K Cb "teller"
 kit_int_bool:PySem.W.kitOne K (.type "int") (.type "bool")=some false
noncomputable def cellOf (ns:List Int)(k:Int):Int:=if k < (ns.length:Int) then (ns[k.toNat]?).getD 0 else 0
inductive spCell (K:W.Frag):List V->Hp->VK->XK->Prop
 | mk (a:Addr) (ns:List Int) (k:Int):M=[.ref a,.int k]->SqL K Z a (ns.map V.int)->0 <= k->N (.int (cellOf ns k)) Z->spCell K M Z N R
inductive spGrade:List V->Hp->VK->XK->Prop
 | mk {M Z N R} (m a b c:Int):M=[.int m,.int a,.int b,.int c]->1 < m->m < 2 ^ 240->0 <= a->a < b->b < c->c <= m->(∀ g:Nat,Gr.IsG m (a+b) (b+c) g->g <= 240->N (.int g) Z)->spGrade M Z N R
theorem pow240 {m:Int}(hm:m < 2 ^ 240)(J:240 <= p):m <= 2 ^ p:=by
 obtain ⟨d,rfl⟩:∃ d,p=240+d:=⟨p-240,by omega⟩
 have h1:(1:Int) <= 2 ^ d:=Gr.p2pos d
 rw [Int.pow_add]
 have h2:(2:Int) ^ 240 * 1 <= 2 ^ 240 * 2 ^ d:=Int.mul_le_mul_of_nonneg_left h1 (by decide)
 omega
theorem dbl (x:Int)(p:Nat):2 * (x * 2 ^ p)=x * 2 ^ (p+1):=by rw [Int.pow_succ,Int.mul_comm 2,Int.mul_assoc]
inductive spStream:List V->Hp->VK->XK->Prop
 | mk (c m:Int):M=[.int c,.int m]->0 <= m->m <= 900->(∀ l H' (zs:List Int),Same Z H'->Z l=none->H' l=some (.lst (zs.map V.int))->(zs.length:Int)=m->(∀ z∈zs,0 <= z /\ z < 2 ^ 31)->N (.ref l) H')->spStream M Z N R
inductive spBlocks:List V->Hp->VK->XK->Prop
 | mk (a:Addr) (ks:List Int) (c:Int):M=[.ref a,.int c]->Z a=some (.lst (ks.map V.int))->ks.length <= 63->(∀ l H' (zs:List Int),Same Z H'->Z l=none->H' l=some (.lst (zs.map V.int))->zs.length <= 63->N (.ref l) H')->spBlocks M Z N R
inductive spKeys (K:W.Frag):List V->Hp->VK->XK->Prop
 | mk (a:Addr) (ns:List Int):M=[.ref a,.int 60]->SqL K Z a (ns.map V.int)->ns.length <= 63->(∀ l H' (zs:List Int),Same Z H'->Z l=none->H' l=some (.lst (zs.map V.int))->zs.length <= 119->N (.ref l) H')->spKeys K M Z N R
inductive spDigits (K:W.Frag):List V->Hp->VK->XK->Prop
 | mk (a:Addr) (ns:List Int) (k b:Int):M=[.ref a,.int k,.int b]->SqL K Z a (ns.map V.int)->ns.length <= 63->0 <= k->0 < b->b <= 1000->(∀ l H' (zs:List Int),Same Z H'->Z l=none->H' l=some (.lst (zs.map V.int))->zs.length=120->(∀ z∈zs,0 <= z /\ z < b)->N (.ref l) H')->spDigits K M Z N R
theorem smallL {n:Nat}(h:n <= 900000):n < sizeLine:=Nat.lt_of_le_of_lt h (by decide)
noncomputable abbrev fA (rl ru:Addr)(m:V)(n:Int)(tl:Addr):List (Str×V):=[("told",.ref tl),("asked",.int n),("most",m),("rule",.ref ru),("row",.ref rl)]
noncomputable abbrev fR (g:Addr):List (Str×V):=[("teller",.ref g)]
inductive spAskerInit (CA:Addr):List V->Hp->VK->XK->Prop
 | mk (x dx r:Addr) (ru:Addr) (m:V) (xs:List V):M=[.ref x,.ref r,.ref ru,m]->Z x=some (.ins CA dx [])->Z r=some (.lst xs)->(∀ rl tl H',(∀ b o,b≠x->Z b=some o->H' b=some o)->Z rl=none->Z tl=none->rl≠tl->Ins H' x CA (fA rl ru m 0 tl)->H' rl=some (.lst xs)->H' tl=some (.lst [])->N .non H')->spAskerInit CA M Z N R
inductive spMany (CA:Addr):List V->Hp->VK->XK->Prop
 | mk (a rl ru tl:Addr) (m:V) (n:Int) (xs:List V):M=[.ref a]->Ins Z a CA (fA rl ru m n tl)->Z rl=some (.lst xs)->N (.int xs.length) Z->spMany CA M Z N R
inductive spRuleInit (CR:Addr):List V->Hp->VK->XK->Prop
 | mk (x dx g:Addr):M=[.ref x,.ref g]->Z x=some (.ins CR dx [])->(∀ H',(∀ b o,b≠x->Z b=some o->H' b=some o)->Ins H' x CR (fR g)->N .non H')->spRuleInit CR M Z N R
inductive spBefore (CR:Addr)(r:V->List V->Hp->VK->Prop):List V->Hp->VK->XK->Prop
 | mk (ru g:Addr) (x y:V):M=[.ref ru,x,y]->Ins Z ru CR (fR g)->(∃ o,Z g=some (FZ o) /\ ∃ fd,o.data=.func fd)->r (.ref g) [x,y] Z N->spBefore CR r M Z N R
inductive spAhead (CA CR:Addr)(r:V->List V->Hp->VK->Prop):List V->Hp->VK->XK->Prop
 | mk (a rl ru tl:Addr) (n p q:Int) (xs ts:List V) (x y:V):M=[.ref a,.int p,.int q]->Ins Z a CA (fA rl ru .non n tl)->Z rl=some (.lst xs)->p≠q->0 <= p->0 <= q->xs[(max p q).toNat]?=some x->xs[(min p q).toNat]?=some y->spBefore CR r [.ref ru,x,y] Z (λv H1=>∃ b,v=.bl b /\ Ins H1 a CA (fA rl ru .non n tl) /\ H1 tl=some (.lst ts) /\ ts.length <= 900000 /\ ∀ t H2,H1 t=none->Ins H2 a CA (fA rl ru .non (n+1) tl)->H2 tl=some (.lst (ts++[.ref t]))->H2 t=some (.tup [.int (max p q),.int (min p q),.bl b])->(∀ c,c≠a->c≠tl->c≠t->H2 c=H1 c)->N (.bl (if q < p then b else !b)) H2) E0->spAhead CA CR r M Z N R
theorem fA_canon {m:V}{n:Int}:∀ f,(putF "told" (.ref tl) (putF "asked" (.int n) (putF "most" m (putF "rule" (.ref ru) (putF "row" (.ref rl) []))))).lookup f=(fA rl ru m n tl).lookup f:=λf=>by
 simp only [ZAb,lkc]
theorem fA_asked {m:V}{n k:Int}:∀ f,(putF "asked" (.int k) (fA rl ru m n tl)).lookup f=(fA rl ru m k tl).lookup f:=λf=>by
 rw [ZAb]
 by_cases h:f=("asked":Str)
 .subst h
  rw [if_pos rfl]
  exact (show List.lookup _ (fA rl ru m k tl)=some (.int k) by walk_at "lk").symm
 .simp only [lkc,h,if_false]
noncomputable def kat (ks:List Int)(p:Nat):Int:=(ks[p]?).getD 0
theorem ZBw {S:List Addr}{C:Addr}{fl:List (Str×V)}(e:Fr S H H')(n:a∉S)(h:Ins H a C fl):Ins H' a C fl:=let ⟨dx,fs,h1,h2,h3⟩:=h.ex;⟨dx,fs,e _ _ n h1,h2,h3⟩
theorem once4 {α β γ δ:Type}{M:α->β->γ->δ->Prop}(P:α->β->γ->δ->Prop){G:Prop}(h:(∀ x y z u,P x y z u->M x y z u)->G)(t:∀ x y z u,P x y z u->M x y z u):G:=h t
theorem er_map {J:Type}(f:α->J)(l:List α)(k:Nat):(l.map f).eraseIdx k=(l.eraseIdx k).map f:=by
 rw [List.eraseIdx_eq_take_drop_succ,List.eraseIdx_eq_take_drop_succ,yAK,yCQ,yCR]
noncomputable def turnN (first j:Nat)(f:Bool):List Nat:=if f=true then (List.range' first (j-first)).reverse else List.range' first (j-first)
theorem turnN_len (first j:Nat)(f:Bool):(turnN first j f).length=j-first:=by unfold turnN;split <;> simp
noncomputable abbrev nL (l:List Nat):List V:=l.map λ(x:Nat)=>V.int (x:Int)
theorem ZEa (l:List Nat):nL l=(l.map λ(x:Nat)=>(x:Int)).map V.int:=by rw [List.map_map];rfl
theorem ZDU {lo hi:Nat}:(ZDC (lo:Int) (hi:Int)).map V.int=nL (List.range' lo (hi-lo)):=by
 refine yDG λi=>?_
 unfold nL
 rw [yAM,yAM]
 by_cases h:i < hi-lo
 .rw [List.getElem?_range' h,rints_get (by omega)]
  show some (V.int ((lo:Int)+i))=some (V.int ((lo+1 * i:Nat):Int))
  congr 2
  omega
 .rw [yBO (by rw [ZCK];omega),yBO (by rw [yDB];omega)]
  rfl
inductive spInTurn:List V->Hp->VK->XK->Prop
 | mk (first j:Nat) (f:Bool):M=[.int first,.int j,.bl f]->first <= 1000->j <= 1000->(∀ l H',Same Z H'->Z l=none->H' l=some (.lst (nL (turnN first j f)))->N (.ref l) H')->spInTurn M Z N R
noncomputable def bitB (bs:List Int)(n:Nat):Bool:=decide (bs.getD (n % bs.length) 0=1)
inductive rTB (iname iq:Str)(ip:Arguments)(ib:List Stmt)(isc:Scope):V->List V->Hp->VK->Prop
 | mk (g x y lg bl:Addr) (k k' i j:Int) (bs:List Int) (ws:List V):f_=.ref g->M=[.ref x,.ref y]->Clo Z g iname iq ip ib isc ["_law_bits_here","_law_log"] [.ref bl,.ref lg]->Z bl=some (.lst (bs.map V.int))->0 < bs.length->bs.length <= 1000->Z x=some (.tup [.int k,.int i])->Z y=some (.tup [.int k',.int j])->Z lg=some (.lst ws)->ws.length <= 900000->(∀ t,Z t=none->N (.bl (bitB bs ws.length)) (upd (upd Z t (.tup [.int i,.int j,.bl (bitB bs ws.length)])) lg (.lst (ws++[.ref t]))))->rTB iname iq ip ib isc f_ M Z N
theorem rT_mono {iname iq:Str}{ip:Arguments}{ib:List Stmt}{isc:Scope}{f:V}{Q':VK}(m:∀ v H,Q v H->Q' v H)(h:rTB iname iq ip ib isc f vs H Q):rTB iname iq ip ib isc f vs H Q' :=
 by obtain ⟨g,x,y,lg,bl,k,k',i,j,bs,ws,e1,Y,h1,O,U,b3,h2,h3,h4,J,q⟩:=h;exact ⟨g,x,y,lg,bl,k,k',i,j,bs,ws,e1,Y,h1,O,U,b3,h2,h3,h4,J,λt ht=>m _ _ (q t ht)⟩
noncomputable abbrev ZBF:V->List V->Hp->VK->Prop:=rTB "_law_teller_here" "_law_teller.<locals>._law_teller_here" (ZA1 ZAT) (ZAs ZAT) (ZAG ZAT)
structure ToldO (H:Hp)(pr:List (Nat×Nat×Bool))(ts:List V):Prop where
 len:ts.length=pr.length
 get:∀ (j p q:Nat) (b:Bool),pr[j]?=some (p,q,b)->∃ t,ts[j]?=some (V.ref t) /\ H t=some (.tup [.int p,.int q,.bl b])
theorem ToldO.keep {pr:List (Nat×Nat×Bool)}{ts:List V}(e:∀ t x,H t=some (.tup x)->H' t=some (.tup x))(h:ToldO H pr ts):ToldO H' pr ts :=
 ⟨h.len,λj p q b J=>by
  obtain ⟨t,a,b⟩:=h.get j p q b J
  exact ⟨t,a,e _ _ b⟩⟩
theorem ToldO.snoc {pr:List (Nat×Nat×Bool)}{ts:List V}{t:Addr}(h:ToldO H pr ts)(Y:H t=some (.tup [.int p,.int q,.bl b])):ToldO H (pr++[(p,q,b)]) (ts++[.ref t]):=by
 refine ⟨by rw [yAC,yAC,h.len];rfl,λj U q' b' J=>?_⟩
 by_cases hl:j < pr.length
 .rw [yBB hl] at J
  obtain ⟨t',a,b⟩:=h.get j U q' b' J
  exact ⟨t',by rw [yBB (by rw [h.len];exact hl)];exact a,b⟩
 .have e:=(yAO.mp J).1
  rw [yAC] at e
  have O:j=pr.length:=by have:([(p,q,b)]:List (Nat×Nat×Bool)).length=1:=rfl;omega
  subst O
  rw [yAT (yAB _),yBG] at J
  cases J
  exact ⟨t,by rw [<- h.len,yAT (yAB _),yBG];rfl,Y⟩
structure Ad where
 ks:List Int
 xs:List V
 a:Addr
 rl:Addr
 ru:Addr
 tl:Addr
 g:Addr
 lg:Addr
 bl:Addr
 bs:List Int
variable {c:Ad}
noncomputable abbrev Ad.S (c:Ad):List Addr:=[c.a,c.lg,c.tl]
noncomputable abbrev Ad.A (c:Ad):List Addr:=[c.a,c.lg,c.tl,c.rl,c.ru,c.bl]
noncomputable abbrev Ad.n (c:Ad):Nat:=c.ks.length
noncomputable def Ad.an (c:Ad)(k _ _:Nat):Bool:=bitB c.bs k
theorem Ad.SA {b:Addr}(h:b∉c.A):b∉c.S:=λz=>by
 rcases yAI.mp z with z | z
 .exact h (by rw [z];exact yAD)
 rcases yAI.mp z with z | z
 .exact h (by rw [z];exact yAE _ yAD)
 .exact h (by rw [yAH.mp z];exact yAE _ (yAE _ yAD))
structure SitR (CA CR:Addr)(H:Hp)(c:Ad)(pr:List A3):Prop where
 ha:Ins H c.a CA (fA c.rl c.ru .non pr.length c.tl)
 hrl:H c.rl=some (.lst c.xs)
 hru:Ins H c.ru CR (fR c.g)
 clo:Clo H c.g "_law_teller_here" "_law_teller.<locals>._law_teller_here" (ZA1 ZAT) (ZAs ZAT) (ZAG ZAT) ["_law_bits_here","_law_log"] [.ref c.bl,.ref c.lg]
 hbl:H c.bl=some (.lst (c.bs.map V.int))
 bsz:0 < c.bs.length /\ c.bs.length <= 1000
 len:c.xs.length=c.ks.length
 row:∀ (i:Nat) k,c.ks[i]?=some k->∃ r,c.xs[i]?=some (V.ref r) /\ H r=some (.tup [.int k,.int i])
 hlg:∃ ws,H c.lg=some (.lst ws) /\ ToldO H pr ws
 htl:∃ ts,H c.tl=some (.lst ts) /\ ToldO H pr ts
 ne:c.lg≠c.tl /\ c.rl∉c.S /\ c.ru≠c.a /\ c.bl∉c.S
section
variable {CA CR:Addr}{H H':Hp}{c:Ad}{pr:List A3}
theorem SitR.tupS (h:SitR CA CR H c pr){b:Addr}(J:H b=some o)(n1:∀ x,o≠.lst x)(n2:∀ C d f,o≠.ins C d f):b∉c.A:=by
 obtain ⟨ws,hlg,_⟩:=h.hlg
 obtain ⟨ts,htl,_⟩:=h.htl
 intro z
 rcases yAI.mp z with z | z
 .exact h.ha.ne J n2 z
 rcases yAI.mp z with z | z
 .rw [z,hlg] at J;exact n1 _ (Option.some.inj J).symm
 rcases yAI.mp z with z | z
 .rw [z,htl] at J;exact n1 _ (Option.some.inj J).symm
 rcases yAI.mp z with z | z
 .rw [z,h.hrl] at J;exact n1 _ (Option.some.inj J).symm
 rcases yAI.mp z with z | z
 .exact h.hru.ne J n2 z
 .rw [yAH.mp z,h.hbl] at J;exact n1 _ (Option.some.inj J).symm
theorem SitR.tup (h:SitR CA CR H c pr)(f:Fr c.S H H'){b:Addr}{x:List V}(J:H b=some (.tup x)):H' b=some (.tup x):=f _ _ (Ad.SA (h.tupS J (λ_ z=>by cases z) (λ_ _ _ z=>by cases z))) J
theorem SitR.ruS (h:SitR CA CR H c pr):c.ru∉c.S:=by
 obtain ⟨ws,hlg,_⟩:=h.hlg
 obtain ⟨ts,htl,_⟩:=h.htl
 obtain ⟨O,f1,J,_⟩:=h.hru.ex
 intro z
 rcases yAI.mp z with z | z
 .exact h.ne.2.2.1 z
 rcases yAI.mp z with z | z
 .rw [z,hlg] at J;cases J
 .rw [yAH.mp z,htl] at J;cases J
theorem SitR.off (h:SitR CA CR H c pr)(hl:H l=none):l∉c.A:=λz=>by
 obtain ⟨ws,hlg,_⟩:=h.hlg
 obtain ⟨ts,htl,_⟩:=h.htl
 rcases yAI.mp z with z | z
 .exact h.ha.neN hl z
 rcases yAI.mp z with z | z
 .rw [z,hlg] at hl;cases hl
 rcases yAI.mp z with z | z
 .rw [z,htl] at hl;cases hl
 rcases yAI.mp z with z | z
 .rw [z,h.hrl] at hl;cases hl
 rcases yAI.mp z with z | z
 .exact h.hru.neN hl z
 .rw [yAH.mp z,h.hbl] at hl;cases hl
theorem SitR.free {O:Hp}(h:SitR CA CR H' c pr)(f:Fr c.S O H')(J:H' d=none):O d=none:=by
 cases e:O d with
 | none=>rfl
 | some o=>rw [f _ _ (Ad.SA (h.off J)) e] at J;cases J
theorem SitR.but (h:SitR CA CR H c pr)(e:∀ b o,b∈c.A->H b=some o->H' b=some o)(t:∀ b o,H b=some o->(∀ x,o≠.lst x)->(∀ C d f,o≠.ins C d f)->(∀ k,o≠.dT k)->(∀ t,o≠.tbl t)->H' b=some o):SitR CA CR H' c pr:=by
 have Y:∀ {b C:Addr} {fl:List (Str×V)},b∈c.A->Ins H b C fl->Ins H' b C fl:=λm hi=>let ⟨dx,fs,h1,h2,h3⟩:=hi.ex;⟨dx,fs,e _ _ m h1,h2,h3⟩
 have O:∀ b x,H b=some (.tup x)->H' b=some (.tup x):=λb x U=>t _ _ U (λ_ z=>by cases z) (λ_ _ _ z=>by cases z) (λ_ z=>by cases z) (λ_ z=>by cases z)
 obtain ⟨ws,h4,h5⟩:=h.hlg
 obtain ⟨us,h6,h7⟩:=h.htl
 have J:=h.clo.mono (H':=H') (λb o U=>t _ _ U (λ_ z=>by cases z) (λ_ _ _ z=>by cases z) (λ_ z=>by cases z) (λ_ z=>by cases z))
 exact ⟨Y (by simp) h.ha,e _ _ (by simp) h.hrl,Y (by simp) h.hru,J,e _ _ (by simp) h.hbl,h.bsz,h.len,λi k hk=>let ⟨r,a1,a2⟩:=h.row i k hk;⟨r,a1,O _ _ a2⟩,⟨ws,e _ _ (by simp) h4,h5.keep O⟩,⟨us,e _ _ (by simp) h6,h7.keep O⟩,h.ne⟩
theorem SitR.mono (h:SitR CA CR H c pr)(e:Same H H'):SitR CA CR H' c pr:=h.but (λb o _ z=>e _ _ z) λb o z _ _ _ _=>e _ _ z
def Wr (H:Hp)(b:Addr):Prop:=(∃ l,H b=some (.lst l))∨(∃ C d f,H b=some (.ins C d f))∨(∃ k,H b=some (.dT k))∨H b=none
theorem SitR.apart (h:SitR CA CR H c pr){S:List Addr}(e:Fr S H H')(J:∀ b∈S,Wr H b)(n:∀ b∈S,b∉c.A):SitR CA CR H' c pr :=
 h.but (λb o m z=>e _ _ (λy=>n b y m) z) λb o z n1 n2 O _=>e _ _ (λy=>by
  rcases J b y with ⟨l,x⟩ | ⟨C,d,f,x⟩ | ⟨k,x⟩ | x
  .rw [x] at z;exact n1 _ (Option.some.inj z).symm
  .rw [x] at z;exact n2 _ _ _ (Option.some.inj z).symm
  .rw [x] at z;exact O _ (Option.some.inj z).symm
  .rw [x] at z;cases z) z
theorem ZFb:Fr [l] H (upd H l o):=λb o' n h=>by rw [ZAJ (λz=>n (by rw [z];exact yAD))];exact h
theorem SitR.upd (h:SitR CA CR H c pr){l:Addr}{us:List V}{o:HO}(hl:H l=some (.lst us))(n:l∉c.A):SitR CA CR (upd H l o) c pr :=
 h.apart (S:=[l]) ZFb (λb J=>by rw [yAH.mp J];exact .inl ⟨_,hl⟩) λb J=>by rw [yAH.mp J];exact n
theorem SitR.ahead (h:SitR CA CR H c pr)(hk:c.n <= 1000){k:Bool->Pg α}{post:α->List A3->Prop}(w:Wp c.n c.an (ahd p q k) pr post)
  (fin:∀ b H' pr',Fr c.S H H'->SitR CA CR H' c pr'->Wp c.n c.an (k b) pr' post->Q (.bl b) H'):spAhead CA CR ZBF [.ref c.a,.int p,.int q] H Q E0:=by
 obtain ⟨aq,O,ap,w⟩:=w
 have am:min p q < c.ks.length:=by show min p q < c.n;omega
 have O:max p q < c.ks.length:=O
 obtain ⟨ws,hlg,U⟩:=h.hlg
 obtain ⟨ts,htl,a5⟩:=h.htl
 obtain ⟨x,hx,tx⟩:=h.row (max p q) _ (yAF O)
 obtain ⟨y,hy,ty⟩:=h.row (min p q) _ (yAF am)
 have aj:(max (p:Int) q).toNat=max p q:=by omega
 have ah:(min (p:Int) q).toNat=min p q:=by omega
 refine ⟨c.a,c.rl,c.ru,c.tl,pr.length,p,q,c.xs,ts,.ref x,.ref y,rfl,h.ha,h.hrl,by omega,by omega,by omega,by rw [aj];exact hx,by rw [ah];exact hy,?_⟩
 obtain ⟨cl,C⟩:=h.clo
 obtain ⟨d1,d2,d3,d4,ho,_⟩:=C.obj
 refine ⟨c.ru,c.g,.ref x,.ref y,rfl,h.hru,⟨_,ho,_,rfl⟩,?_⟩
 refine ⟨c.g,x,y,c.lg,c.bl,_,_,_,_,c.bs,ws,rfl,rfl,h.clo,h.hbl,h.bsz.1,h.bsz.2,tx,ty,hlg,by rw [U.len];omega,λt ht=>?_⟩
 have eb:bitB c.bs ws.length=c.an pr.length (max p q) (min p q):=by rw [U.len];rfl
 rw [eb];clear eb
 generalize c.an pr.length (max p q) (min p q)=b at w ⊢
 have ab:t≠c.a:=h.ha.neN ht
 have a3:c.lg≠t:=ZAD hlg ht
 have a7:c.tl≠t:=ZAD htl ht
 have a8:c.lg≠c.tl:=h.ne.1
 have a6:c.lg≠c.a:=h.ha.ne hlg λ_ _ _ z=>by cases z
 refine ⟨_,rfl,h.ha.keep (by rw [ZAJ (Ne.symm a6),ZAJ (Ne.symm ab)]),by rw [ZAJ (Ne.symm a8),ZAJ a7];exact htl,by rw [a5.len];omega,λt2 H2 J af aa ai k2=>?_⟩
 have ae:t2≠c.lg:=λz=>by rw [z,ZAE] at J;cases J
 have ag:t2≠t:=λz=>by rw [z,ZAJ (Ne.symm a3),ZAE] at J;cases J
 have fr:Fr c.S H H2:=λd o n Y=>by
  have m1:d≠c.a:=λz=>n (by rw [z];exact yAD)
  have m2:d≠c.lg:=λz=>n (by rw [z];exact yAE _ yAD)
  have m3:d≠c.tl:=λz=>n (by rw [z];exact yAE _ (yAE _ yAD))
  have e1:(L2.upd (L2.upd H t (.tup [.int ((max p q:Nat):Int),.int ((min p q:Nat):Int),.bl b])) c.lg (.lst (ws++[.ref t]))) d=some o:=by rw [ZAJ m2,ZAJ (ZAD Y ht)];exact Y
  rw [k2 d m1 m3 (ZAD e1 J)]
  exact e1
 have tk:∀ b x,H b=some (.tup x)->H2 b=some (.tup x):=λb x Y=>h.tup fr Y
 have a9:H2 c.lg=some (.lst (ws++[.ref t])):=by rw [k2 c.lg a6 a8 (Ne.symm ae),ZAE]
 have ao:H2 t=some (.tup [.int ((max p q:Nat):Int),.int ((min p q:Nat):Int),.bl b]):=by rw [k2 t ab (Ne.symm a7) (Ne.symm ag),ZAJ (Ne.symm a3),ZAE]
 have ac:H2 t2=some (.tup [.int ((max p q:Nat):Int),.int ((min p q:Nat):Int),.bl b]):=by
  rw [show (((max p q:Nat):Int))=max (p:Int) q by omega,show (((min p q:Nat):Int))=min (p:Int) q by omega]
  exact ai
 have a0:=ZBw fr h.ruS h.hru
 have ad:=h.clo.mono (H':=H2) λb o Y=>fr _ _ (Ad.SA (h.tupS Y (λ_ z=>by cases z) (λ_ _ _ z=>by cases z))) Y
 have a4:∀ (i:Nat) k,c.ks[i]?=some k->∃ r,c.xs[i]?=some (V.ref r) /\ H2 r=some (.tup [.int k,.int i]):=λi k hk=>let ⟨r,a1,a2⟩:=h.row i k hk;⟨r,a1,tk _ _ a2⟩
 have st:SitR CA CR H2 c (pr++[(max p q,min p q,b)]):=⟨by rw [yAC];exact af,fr _ _ h.ne.2.1 h.hrl,a0,ad,fr _ _ h.ne.2.2.2 h.hbl,h.bsz,h.len,a4,⟨_,a9,(U.keep tk).snoc ao⟩,⟨_,aa,(a5.keep tk).snoc ac⟩,h.ne⟩
 have g':=fin _ H2 _ fr st w
 by_cases hlt:q < p
 .rw [if_pos hlt] at g'
  rw [if_pos (by omega)]
  exact g'
 .rw [if_neg hlt] at g'
  rw [if_neg (by omega)]
  exact g'
end
theorem ZDh {k:Bool->Pg α}{P:α->Prop}(h:∀ b,(k b).Al P):(ahd p q k).Al P:=λb=>h _
theorem ZAk {n:Nat}(h:n <= 1000):n < sizeLine:=Nat.lt_of_le_of_lt h (by decide)
theorem insV_nL {pl:Nat}(h:r <= os.length):insV (nL os) (r:Int) (.int pl)=nL (insN os r pl):=by
 unfold insV insN nL
 dsimp only
 rw [if_neg (by omega),Int.toNat_natCast,yAA,yBW h,yAK,yAZ,yCQ,yCR]
theorem ZDB {o:Nat}(h:os[m]?=some o):atI (nL os) (m:Int)=some (.int o):=ZAj (by omega) (by rw [Int.toNat_natCast,yAM,h];rfl)
theorem galP_al2 {os:List Nat}{pl:Nat}:∀ (m lo hi:Nat),lo <= os.length->(galP os pl m lo hi).Al λr=>r.1 <= os.length
 | 0,lo,hi,h=>h
 | m+1,lo,hi,h=>by
  rw [galP]
  by_cases z:hi < os.length
  .rw [if_pos z]
   refine ZDh λb=>?_
   split
   .exact galP_al2 m (hi+1) (2 * hi+1) (by omega)
   .exact h
  .rw [if_neg z];exact h
theorem ZEF {os:List Nat}{pl:Nat}:∀ (m lo hi:Nat),(binP os pl m lo hi).Al λr=>r <= hi
 | 0,lo,hi=>yAB _
 | m+1,lo,hi=>by
  rw [binP]
  by_cases z:lo < hi
  .rw [if_pos z]
   refine ZDh λb=>?_
   split
   .exact ZEF m _ hi
   .exact (ZEF m lo _).imp λa h=>by omega
  .rw [if_neg z];exact yAB _
theorem ZD7 (os:List Nat)(pl:Nat):(ZE5 os pl).Al λr=>r <= os.length :=
 Pg.Al.bind ((galP_al2 os.length 0 0 (yAJ _)).imp λr _=>(ZEF os.length r.1 (min r.2 os.length)).imp λa h=>by omega)
theorem ZEh {os:List Nat}{pl:Nat}:∀ (m lo hi:Nat),lo <= hi->(hvP os pl m lo hi).Al λr=>r <= hi
 | 0,lo,hi,h=>h
 | m+1,lo,hi,h=>by
  rw [hvP]
  by_cases z:lo < hi
  .rw [if_pos z]
   refine ZDh λb=>?_
   split
   .exact ZEh m _ hi (by omega)
   .exact (ZEh m lo _ (by omega)).imp λa h=>by omega
  .rw [if_neg z];exact h
theorem spotP_le (os:List Nat)(pl:Nat):(ZE1 os pl).Al λr=>r <= os.length:=ZEh _ _ _ (yAJ _)
inductive spLeapW (CA CR:Addr):List V->Hp->VK->XK->Prop
 | mk (c:Ad) (pr:List A3) (ol:Addr) (os:List Nat) (f pl:Nat) (post:Nat->List A3->Prop):M=[.ref c.a,.ref ol,.int f,.int pl]->SitR CA CR Z c pr->Z ol=some (.lst (nL os))->ol∉c.S->f <= os.length->c.n <= 1000->Wp c.n c.an (ZE5 (os.drop f) pl) pr post->(∀ r H' pr',Fr c.S Z H'->SitR CA CR H' c pr'->post r pr'->N (.int (r:Nat)) H')->spLeapW CA CR M Z N R
theorem get_drop {f:Nat}(h:i < (os.drop f).length):os[f+i]?=some ((os.drop f).getD i 0):=by
 have:=(ZBn h).1
 rw [yCS] at this
 exact this
inductive spSpotW (CA CR:Addr):List V->Hp->VK->XK->Prop
 | mk (c:Ad) (pr:List A3) (os:List Nat) (pl:Nat) (ol:Addr) (post:Nat->List A3->Prop):M=[.ref c.a,.ref ol,.int pl]->SitR CA CR Z c pr->Z ol=some (.lst (nL os))->ol∉c.S->c.n <= 1000->Wp c.n c.an (ZE1 os pl) pr post->(∀ r H' pr',Fr c.S Z H'->SitR CA CR H' c pr'->post r pr'->N (.int (r:Nat)) H')->spSpotW CA CR M Z N R
inductive spStrW (CA CR:Addr):List V->Hp->VK->XK->Prop
 | mk (c:Ad) (pr:List A3) (first stop:Nat) (post:Nat×Bool->List A3->Prop):M=[.ref c.a,.int first,.int stop]->SitR CA CR Z c pr->c.n <= 1000->Wp c.n c.an (strP stop first) pr post->(∀ t H' r pr',Fr c.S Z H'->SitR CA CR H' c pr'->H' t=some (.tup [.int (r.1:Nat),.bl r.2])->post r pr'->N (.ref t) H')->spStrW CA CR M Z N R
inductive spFillW (CA CR:Addr):List V->Hp->VK->XK->Prop
 | mk (c:Ad) (pr:List A3) (first ls stop:Nat) (post:Nat×List Nat->List A3->Prop):M=[.ref c.a,.int first,.int ls,.int stop]->SitR CA CR Z c pr->c.n <= 1000->first < stop->stop <= 600->Wp c.n c.an (ZFr ls stop first) pr post->(∀ t ol H' r pr',Fr c.S Z H'->Z ol=none->SitR CA CR H' c pr'->H' t=some (.tup [.int (r.1:Nat),.ref ol])->H' ol=some (.lst (nL r.2))->post r pr'->N (.ref t) H')->spFillW CA CR M Z N R
theorem runP_al2 {stop f:Nat}(fal:Bool):∀ (m j:Nat),f < j->j <= stop->(runP stop fal m j).Al λr=>f < r.1 /\ r.1 <= stop
 | 0,j,h1,h2=>⟨h1,h2⟩
 | m+1,j,h1,h2=>by
  rw [runP]
  by_cases z:j < stop
  .rw [if_pos z]
   refine ZDh λb=>?_
   split
   .exact runP_al2 fal m (j+1) (by omega) (by omega)
   .exact ⟨h1,h2⟩
  .rw [if_neg z];exact ⟨h1,h2⟩
theorem strP_al2 {stop f:Nat}(h:f < stop):(strP stop f).Al λr=>f < r.1 /\ r.1 <= stop:=by
 unfold strP
 by_cases z:f+1 < stop
 .rw [if_pos z]
  refine ZDh λb=>?_
  exact runP_al2 _ stop (f+2) (by omega) (by omega)
 .rw [if_neg z];exact ⟨yCC _,by omega⟩
theorem turn_eq (a b:Nat)(f:Bool):Pw.turnN a b f=turnN a b f:=rfl
theorem ZFo {M:α->Prop}(P:α->Prop){G:Prop}(h:(∀ x,P x->M x)->G)(t:∀ x,P x->M x):G:=h t
noncomputable abbrev fJ (ak sd tk pc:Addr):List (Str×V):=[("places",.ref pc),("taken",.ref tk),("sides",.ref sd),("asker",.ref ak)]
noncomputable def pk {α:Type}(b:Bool)(x y:α):List α:=if b then [x,y] else [y,x]
noncomputable def sv (b:Bool):Int:=if b then 0 else 1
theorem ZCS:atI (pk b x y) (sv b)=some x:=by cases b <;> exact ZAj (by decide) rfl
theorem pk_swap {x y:α}:pk (!b) y x=pk b x y:=by cases b <;> rfl
theorem pk_len {x y:α}:(pk b x y).length=2:=by cases b <;> rfl
theorem pk_set {z:V}:(pk b x y).set (sv b).toNat z=pk b z y:=by cases b <;> rfl
structure JS (CJ:Addr)(H:Hp)(b:Bool)(jn ak sd ma ta tk pc:Addr)(ms ts:List Nat)(i j:Nat)(dn:List Nat):Prop where
 hj:Ins H jn CJ (fJ ak sd tk pc)
 hsd:H sd=some (.tup (pk b (.ref ma) (.ref ta)))
 hma:H ma=some (.lst (nL ms))
 hta:H ta=some (.lst (nL ts))
 htk:H tk=some (.lst (pk b (.int i) (.int j)))
 hpc:H pc=some (.lst (nL dn))
 ne:tk≠pc /\ ma≠tk /\ ma≠pc /\ ta≠tk /\ ta≠pc
section
variable {ms:List Nat}{dn:List Nat}
theorem JS.swap (h:JS CJ H b jn ak sd ma ta tk pc ms ts i j dn):JS CJ H (!b) jn ak sd ta ma tk pc ts ms j i dn :=
 ⟨h.hj,by rw [pk_swap];exact h.hsd,h.hta,h.hma,by rw [pk_swap];exact h.htk,h.hpc,h.ne.1,h.ne.2.2.2.1,h.ne.2.2.2.2,h.ne.2.1,h.ne.2.2.1⟩
theorem JS.keep {J:Nat}{dn':List Nat}(h:JS CJ H b jn ak sd ma ta tk pc ms ts i j dn)(e:Fr [tk,pc] H H')(h1:H' tk=some (.lst (pk b (.int p) (.int J))))(h2:H' pc=some (.lst (nL dn'))):JS CJ H' b jn ak sd ma ta tk pc ms ts p J dn':=by
 have n2:∀ {x:Addr},x≠tk->x≠pc->x∉[tk,pc]:=λa b z=>(yAI.mp z).elim a λz=>b (yAH.mp z)
 have hj:jn∉[tk,pc]:=n2 (Ne.symm (h.hj.ne h.htk λ_ _ _ z=>by cases z)) (Ne.symm (h.hj.ne h.hpc λ_ _ _ z=>by cases z))
 have U:sd∉[tk,pc]:=n2 (λz=>by have:=h.hsd;rw [z,h.htk] at this;cases this) (λz=>by have:=h.hsd;rw [z,h.hpc] at this;cases this)
 exact ⟨ZBw e hj h.hj,e _ _ U h.hsd,e _ _ (n2 h.ne.2.1 h.ne.2.2.1) h.hma,e _ _ (n2 h.ne.2.2.2.1 h.ne.2.2.2.2) h.hta,h1,h2,h.ne⟩
theorem JS.fr {S:List Addr}(h:JS CJ H b jn ak sd ma ta tk pc ms ts i j dn)(e:Fr S H H')(n:jn∉S /\ sd∉S /\ ma∉S /\ ta∉S /\ tk∉S /\ pc∉S):JS CJ H' b jn ak sd ma ta tk pc ms ts i j dn :=
 ⟨ZBw e n.1 h.hj,e _ _ n.2.1 h.hsd,e _ _ n.2.2.1 h.hma,e _ _ n.2.2.2.1 h.hta,e _ _ n.2.2.2.2.1 h.htk,e _ _ n.2.2.2.2.2 h.hpc,h.ne⟩
theorem JS.mono (h:JS CJ H b jn ak sd ma ta tk pc ms ts i j dn)(e:Same H H'):JS CJ H' b jn ak sd ma ta tk pc ms ts i j dn :=
 h.fr (S:=[]) e.fr ⟨yBE,yBE,yBE,yBE,yBE,yBE⟩
end
inductive spJInit (CJ:Addr):List V->Hp->VK->XK->Prop
 | mk (x dx ak al ar:Addr) (ls rs:List Nat):M=[.ref x,.ref ak,.ref al,.ref ar]->Z x=some (.ins CJ dx [])->Z al=some (.lst (nL ls))->Z ar=some (.lst (nL rs))->(∀ sd la ra tk pc H',(∀ b o,b≠x->Z b=some o->H' b=some o)->Z sd=none->Z la=none->Z ra=none->Z tk=none->Z pc=none->JS CJ H' true x ak sd la ra tk pc ls rs 0 0 []->N .non H')->spJInit CJ M Z N R
inductive spHasMore (CJ:Addr):List V->Hp->VK->XK->Prop
 | mk (b:Bool) (jn ak sd ma ta tk pc:Addr) (ms ts:List Nat) (i j:Nat) (dn:List Nat):M=[.ref jn,.int (sv b)]->JS CJ Z b jn ak sd ma ta tk pc ms ts i j dn->N (.bl (decide (i < ms.length))) Z->spHasMore CJ M Z N R
inductive spFront (CJ:Addr):List V->Hp->VK->XK->Prop
 | mk (b:Bool) (jn ak sd ma ta tk pc:Addr) (ms ts:List Nat) (i j:Nat) (dn:List Nat) (x:Nat):M=[.ref jn,.int (sv b)]->JS CJ Z b jn ak sd ma ta tk pc ms ts i j dn->ms[i]?=some x->N (.int x) Z->spFront CJ M Z N R
inductive spTakeOn (CJ:Addr):List V->Hp->VK->XK->Prop
 | mk (b:Bool) (jn ak sd ma ta tk pc:Addr) (ms ts:List Nat) (i j:Nat) (dn:List Nat) (m:Nat):M=[.ref jn,.int (sv b),.int m]->JS CJ Z b jn ak sd ma ta tk pc ms ts i j dn->i+m <= ms.length->dn.length+ms.length <= 1000->(∀ H',Fr [tk,pc] Z H'->JS CJ H' b jn ak sd ma ta tk pc ms ts (i+m) j (dn++(ms.drop i).take m)->N .non H')->spTakeOn CJ M Z N R
inductive spTakeRest (CJ:Addr):List V->Hp->VK->XK->Prop
 | mk (b:Bool) (jn ak sd ma ta tk pc:Addr) (ms ts:List Nat) (i j:Nat) (dn:List Nat):M=[.ref jn,.int (sv b)]->JS CJ Z b jn ak sd ma ta tk pc ms ts i j dn->i <= ms.length->dn.length+ms.length <= 1000->(∀ H',Fr [tk,pc] Z H'->JS CJ H' b jn ak sd ma ta tk pc ms ts ms.length j (dn++ms.drop i)->N .non H')->spTakeRest CJ M Z N R
theorem fr_sub {S J:List Addr}(h:Fr S H H')(k:∀ b∈S,b∈J):Fr J H H':=λb o n O=>h b o (λm=>n (k b m)) O
theorem fr5a (h:Fr [a,lg,tl] H H'):Fr [a,lg,tl,tk,pc] H H':=fr_sub h λb J=>by
 rcases yAI.mp J with z | z
 .rw [z];exact yAD
 rcases yAI.mp z with z | z
 .rw [z];exact yAE _ yAD
 .rw [yAH.mp z];exact yAE _ (yAE _ yAD)
theorem fr5b (h:Fr [tk,pc] H H'):Fr [a,lg,tl,tk,pc] H H'  :=fr_sub h λb J=>yAE _ (yAE _ (yAE _ J))
structure NX (c:Ad)(jn sd ma ta tk pc:Addr):Prop where
 n1:jn∉c.A /\ sd∉c.A /\ ma∉c.A /\ ta∉c.A /\ tk∉c.A /\ pc∉c.A
theorem NX.swap (h:NX c jn sd ma ta tk pc):NX c jn sd ta ma tk pc:=⟨⟨h.n1.1,h.n1.2.1,h.n1.2.2.2.1,h.n1.2.2.1,h.n1.2.2.2.2⟩⟩
theorem JS.frS {ms:List Nat}(h:JS CJ H b jn ak sd ma ta tk pc ms ts i j os)(nx:NX c jn sd ma ta tk pc)(f:Fr c.S H H'):JS CJ H' b jn ak sd ma ta tk pc ms ts i j os :=
 h.fr f ⟨Ad.SA nx.n1.1,Ad.SA nx.n1.2.1,Ad.SA nx.n1.2.2.1,Ad.SA nx.n1.2.2.2.1,Ad.SA nx.n1.2.2.2.2.1,Ad.SA nx.n1.2.2.2.2.2⟩
theorem SitR.tkpc {ms:List Nat}(s:SitR CA a H c pr)(h:JS CJ H b jn ak sd ma ta tk pc ms ts i j os)(nx:NX c jn sd ma ta tk pc)(f:Fr [tk,pc] H H'):SitR CA a H' c pr :=
 s.apart f (λx J=>by
  rcases yAI.mp J with z | z
  .rw [z];exact .inl ⟨_,h.htk⟩
  .rw [yAH.mp z];exact .inl ⟨_,h.hpc⟩) λx J=>by
  rcases yAI.mp J with z | z
  .rw [z];exact nx.n1.2.2.2.2.1
  .rw [yAH.mp z];exact nx.n1.2.2.2.2.2
theorem ZBi {x:Nat}(h:os[i]?=some x):os.drop i=x::os.drop (i+1):=by
 obtain ⟨h1,h2⟩:=yAO.mp h
 rw [yBT h1,h2]
theorem ZDt {x:Nat}(h:os[i]?=some x):(os.drop i).take 1=[x]:=by
 rw [ZBi h];rfl
theorem cut_var {x y:Option V}{o1 o2:Int}{c:Prop}[Decidable c](h:∀ o:Int,(c /\ o=o1)∨(¬ c /\ o=o2)->Cut P D [x,y,some (.int o)] H):if c then Cut P D [x,y,some (.int o1)] H else Cut P D [x,y,some (.int o2)] H:=by
 split
 .rename_i h1;exact h o1 (.inl ⟨h1,rfl⟩)
 .rename_i h1;exact h o2 (.inr ⟨h1,rfl⟩)
theorem onceP (P:Prop){M G:Prop}(h:(P->M)->G)(t:P->M):G:=h t
inductive spWinW (CA CR CJ:Addr):List V->Hp->VK->XK->Prop
 | mk (c:Ad) (pr:List A3) (jn sd la ra tk pc:Addr) (ls rs dn:List Nat) (i j x y:Nat) (k:Bool->Pg (List Nat)) (post:List Nat->List A3->Prop):M=[.ref jn]->SitR CA CR Z c pr->JS CJ Z true jn c.a sd la ra tk pc ls rs i j dn->NX c jn sd la ra tk pc->ls[i]?=some x->rs[j]?=some y->c.n <= 1000->dn.length+ls.length <= 1000->dn.length+rs.length <= 1000->Wp c.n c.an (ahd x y k) pr post->(∀ b H' pr',Fr [c.a,c.lg,c.tl,tk,pc] Z H'->SitR CA CR H' c pr'->JS CJ H' true jn c.a sd la ra tk pc ls rs (if b then i+1 else i) (if b then j else j+1) (dn++[if b then x else y])->Wp c.n c.an (k b) pr' post->N (.int (sv b)) H')->spWinW CA CR CJ M Z N R
inductive spLeapOnW (CA CR CJ:Addr):List V->Hp->VK->XK->Prop
 | mk (c:Ad) (pr:List A3) (jn sd ma ta tk pc:Addr) (b:Bool) (ms ts dn:List Nat) (i j y:Nat) (post:Nat->List A3->Prop):M=[.ref jn,.int (sv b)]->SitR CA CR Z c pr->JS CJ Z b jn c.a sd ma ta tk pc ms ts i j dn->NX c jn sd ma ta tk pc->ts[j]?=some y->i <= ms.length->c.n <= 1000->dn.length+ms.length+ts.length <= 1000->Wp c.n c.an (ZE5 (ms.drop i) y) pr post->(∀ k H' pr',Fr [c.a,c.lg,c.tl,tk,pc] Z H'->SitR CA CR H' c pr'->i+k <= ms.length->JS CJ H' b jn c.a sd ma ta tk pc ms ts (i+k) (if i+k < ms.length then j+1 else j) (dn++(ms.drop i).take k++if i+k < ms.length then [y] else [])->post k pr'->N .non H')->spLeapOnW CA CR CJ M Z N R
inductive spJoinedW (CA CR:Addr):List V->Hp->VK->XK->Prop
 | mk (c:Ad) (pr:List A3) (al ar:Addr) (ls rs:List Nat) (post:List Nat->List A3->Prop):M=[.ref c.a,.ref al,.ref ar]->SitR CA CR Z c pr->Z al=some (.lst (nL ls))->Z ar=some (.lst (nL rs))->c.n <= 1000->ls.length+rs.length <= 500->Wp c.n c.an (ZD8 ls rs) pr post->(∀ l H' ps pr',Fr c.S Z H'->Z l=none->H' l=some (.lst (nL ps))->SitR CA CR H' c pr'->post ps pr'->N (.ref l) H')->spJoinedW CA CR M Z N R
theorem sv_inj {a:Bool}(h:sv a=sv b):a=b:=by revert h;cases a <;> cases b <;> intro h <;> first | rfl | cases h
theorem join_end {N:Nat}{An:Nat->Nat->Nat->Bool}{n w:Nat}{s:Bool}{ls rs:List Nat}{post:List Nat->List A3->Prop}(h:¬ (i < ls.length /\ j < rs.length))(hi:i <= ls.length)(J:j <= rs.length)(hw:Wp N An (ZCx n s w (ls.drop i) (rs.drop j) os) pr post):post (os++ls.drop i++rs.drop j) pr:=by
 by_cases z:i < ls.length
 .have e:rs.drop j=[]:=yCE (by omega)
  rw [e] at hw ⊢
  cases n with
  | zero=>exact hw
  | succ n=>
   cases e2:ls.drop i with
   | nil=>rw [e2] at hw;exact hw
   | cons x l=>rw [e2] at hw;exact hw
 .have e:ls.drop i=[]:=yCE (by omega)
  rw [e] at hw ⊢
  cases n with
  | zero=>exact hw
  | succ n=>exact hw
noncomputable abbrev fPl (a:Addr)(ls s e r:Int)(fs od gr:Addr):List (Str×V):=[("grades",.ref gr),("orders",.ref od),("firsts",.ref fs),("reached",.int r),("end",.int e),("start",.int s),("least",.int ls),("asker",.ref a)]
theorem fPl_reached {ls s e r r':Int}:∀ f,(putF "reached" (.int r') (fPl a ls s e r tk od gr)).lookup f=(fPl a ls s e r' tk od gr).lookup f:=λf=>by
 rw [ZAb]
 by_cases h:f=("reached":Str)
 .subst h
  rw [if_pos rfl]
  exact (show List.lookup _ (fPl a ls s e r' tk od gr)=some (.int r') by walk_at "lk").symm
 .simp only [lkc,h,if_false]
noncomputable def bB:List (Nat×List Nat)->Nat->Nat
 | [],r=>r
 | p::_,_=>p.1
theorem two_last {l:List α}(h:2 <= l.length):∃ A x y,l=A++[x,y]:=by
 refine ⟨l.take (l.length-2),l[l.length-2],l[l.length-1],?_⟩
 have J:l.drop (l.length-2)=[l[l.length-2],l[l.length-1]]:=by
  rw [yBT (by omega),show l.length-2+1=l.length-1 by omega,yBT (by omega),show l.length-1+1=l.length by omega,List.drop_length]
 rw [<- J,yBJ]
def OrdAt (H:Hp):List Addr->List (Nat×List Nat)->Prop
 | [],[]=>True
 | b::bs,p::ps=>H b=some (.lst (nL p.2)) /\ OrdAt H bs ps
 | _,_=>False
theorem OrdAt.len {H:Hp}:∀ {oa:List Addr} {ps:List (Nat×List Nat)},OrdAt H oa ps->oa.length=ps.length
 | [],[],_=>rfl
 | b::bs,p::ps,h=>by rw [yAG,yAG,OrdAt.len h.2]
 | [],p::ps,h=>h.elim
 | b::bs,[],h=>h.elim
theorem OrdAt.keep {H H':Hp}:∀ {oa:List Addr} {ps:List (Nat×List Nat)},OrdAt H oa ps->(∀ b∈oa,∀ o,H b=some o->H' b=some o)->OrdAt H' oa ps
 | [],[],_,_=>trivial
 | b::bs,p::ps,h,e=>⟨e b yAD _ h.1,OrdAt.keep h.2 λc hc=>e c (yAE _ hc)⟩
 | [],p::ps,h,_=>h.elim
 | b::bs,[],h,_=>h.elim
theorem OrdAt.split {H:Hp}:∀ {P:List (Nat×List Nat)} {oa:List Addr} {Q:List (Nat×List Nat)},OrdAt H oa (P++Q)->∃ A B,oa=A++B /\ A.length=P.length /\ OrdAt H A P /\ OrdAt H B Q
 | [],oa,Q,h=>⟨[],oa,rfl,rfl,trivial,h⟩
 | p::P,[],Q,h=>h.elim
 | p::P,b::bs,Q,h=>by
  obtain ⟨A,B,O,J,U,Y⟩:=OrdAt.split (P:=P) h.2
  exact ⟨b::A,B,by rw [O];rfl,by rw [yAG,yAG,J],⟨h.1,U⟩,Y⟩
theorem OrdAt.app {H:Hp}:∀ {P:List (Nat×List Nat)} {A B:List Addr} {Q:List (Nat×List Nat)},OrdAt H A P->OrdAt H B Q->OrdAt H (A++B) (P++Q)
 | [],[],B,Q,_,h=>h
 | p::P,[],B,Q,h,_=>h.elim
 | [],b::bs,B,Q,h,_=>h.elim
 | p::P,b::bs,B,Q,h,h'=>⟨h.1,OrdAt.app h.2 h'⟩
theorem OrdAt.get {H:Hp}:∀ {ps:List (Nat×List Nat)} {oa:List Addr} {i:Nat} {b:Addr},OrdAt H oa ps->oa[i]?=some b->∃ p,ps[i]?=some p /\ H b=some (.lst (nL p.2))
 | [],[],i,b,_,e=>by simp at e
 | p::P,[],i,b,h,_=>h.elim
 | [],c::bs,i,b,h,_=>h.elim
 | p::P,c::bs,0,b,h,e=>by cases e;exact ⟨p,rfl,h.1⟩
 | p::P,c::bs,i+1,b,h,e=>by
  obtain ⟨J,O,U⟩:=OrdAt.get (ps:=P) (oa:=bs) (i:=i) h.2 (by simpa using e)
  exact ⟨J,by simpa using O,U⟩
theorem OrdAt.two {A B:List (Nat×List Nat)}{p1 p2:Nat×List Nat}(h:OrdAt H oa (A++p1::p2::B)):∃ U O Y OB,oa=U++O::Y::OB /\ U.length=A.length /\ OrdAt H U A /\ H O=some (.lst (nL p1.2)) /\ H Y=some (.lst (nL p2.2)) /\ OrdAt H OB B:=by
 obtain ⟨U,R,e1,e2,e3,J⟩:=h.split
 match R,J with
 | O::Y::OB,J=>exact ⟨U,O,Y,OB,e1,e2,e3,J.1,J.2.1,J.2.2⟩
 | [O],J=>exact J.2.elim
 | [],J=>exact J.elim
theorem atI_refs {b:Addr}(h:oa[m]?=some b):atI (oa.map V.ref) (m:Int)=some (.ref b):=ZAj (by omega) (by rw [Int.toNat_natCast,yAM,h];rfl)
theorem ZEA (X:List α)(x:α)(Y:List α):(X++x::Y)[X.length]?=some x:=by rw [yAT (yAB _),yBG];rfl
theorem ZCy (X:List α)(x y:α)(Y:List α):(X++x::y::Y)[X.length+1]?=some y:=by rw [yAT (by omega),Nat.add_sub_cancel_left];rfl
theorem set_mid (X:List α)(x y:α)(Y:List α):(X++x::Y).set X.length y=X++y::Y:=by rw [List.set_append_right _ _ (yAB _),yBG];rfl
theorem er_mid2 (X:List α)(x y:α)(Y:List α):(X++x::y::Y).eraseIdx (X.length+1)=X++x::Y:=by rw [List.eraseIdx_append_of_length_le (by omega),Nat.add_sub_cancel_left];rfl
theorem atI_m2 {l:List V}:atI (l++[x,y]) (-2)=some x:=by
 unfold atI ixN
 rw [yAC,show ([x,y]:List V).length=2 from rfl,if_neg (by decide),if_pos (by omega),show ((-2:Int)+((l.length+2:Nat):Int)).toNat=l.length by omega]
 exact ZEA l x [y]
theorem atI_m1 {l:List V}:atI (l++[y]) (-1)=some y:=by
 unfold atI ixN
 rw [yAC,show ([y]:List V).length=1 from rfl,if_neg (by decide),if_pos (by omega),show ((-1:Int)+((l.length+1:Nat):Int)).toNat=l.length by omega]
 exact ZEA l y []
structure PileAt (CP:Addr)(H:Hp)(x a fs od gr:Addr)(ls s e r:Nat)(oa:List Addr)(ps:List (Nat×List Nat))(gs:List Nat):Prop where
 hp:Ins H x CP (fPl a ls s e r fs od gr)
 hfs:H fs=some (.lst (nL (ps.map Prod.fst)))
 hod:H od=some (.lst (oa.map V.ref))
 hgr:H gr=some (.lst (nL gs))
 oat:OrdAt H oa ps
 ne:fs≠od /\ fs≠gr /\ od≠gr
 nb:∀ b∈oa,b∉[fs,od,gr]
section
variable {x fs:Addr}{s:Nat}{ps:List (Nat×List Nat)}
theorem PileAt.fr {S:List Addr}(h:PileAt CP H x a fs od gr ls s e r oa ps gs)(f:Fr S H H')(n:x∉S /\ fs∉S /\ od∉S /\ gr∉S)(n2:∀ b∈oa,b∉S):PileAt CP H' x a fs od gr ls s e r oa ps gs :=
 ⟨ZBw f n.1 h.hp,f _ _ n.2.1 h.hfs,f _ _ n.2.2.1 h.hod,f _ _ n.2.2.2 h.hgr,h.oat.keep λb J o=>f b o (n2 b J),h.ne,h.nb⟩
theorem PileAt.mono (h:PileAt CP H x a fs od gr ls s e r oa ps gs)(f:Same H H'):PileAt CP H' x a fs od gr ls s e r oa ps gs:=h.fr (S:=[]) f.fr ⟨yBE,yBE,yBE,yBE⟩ λ_ _=>yBE
theorem PileAt.lsts (h:PileAt CP H x a fs od gr ls s e r oa ps gs):∀ c∈[fs,od,gr],∃ l,H c=some (.lst l):=λc hc=>by
 rcases yAI.mp hc with z | z
 .rw [z];exact ⟨_,h.hfs⟩
 rcases yAI.mp z with z | z
 .rw [z];exact ⟨_,h.hod⟩
 .rw [yAH.mp z];exact ⟨_,h.hgr⟩
theorem PileAt.xl (h:PileAt CP H x a fs od gr ls s e r oa ps gs):x∉[fs,od,gr]:=λz=>by
 obtain ⟨l,hl⟩:=h.lsts x z
 exact h.hp.ne hl (λ_ _ _ z=>by cases z) rfl
end
inductive spPileInit (CA CP:Addr):List V->Hp->VK->XK->Prop
 | mk (x dx a:Addr) (ls s e:Nat) (pz:V):M=[.ref x,.ref a,.int ls,pz]->Z x=some (.ins CP dx [])->((∃ pt,pz=.ref pt /\ Z pt=some (.tup [.int s,.int e]))∨(pz=.non /\ s=0 /\ a≠x /\ ∃ rl ru m n tl xs,Ins Z a CA (fA rl ru m n tl) /\ Z rl=some (.lst xs) /\ xs.length=e))->(∀ fs od gr H',(∀ b o,b≠x->Z b=some o->H' b=some o)->Z fs=none->Z od=none->Z gr=none->PileAt CP H' x a fs od gr ls s e s [] [] []->N .non H')->spPileInit CA CP M Z N R
inductive spBeyondOf (CP:Addr):List V->Hp->VK->XK->Prop
 | mk (x a fs od gr:Addr) (ls s e r:Nat) (oa:List Addr) (A:List (Nat×List Nat)) (p:Nat×List Nat) (B:List (Nat×List Nat)) (gs:List Nat):M=[.ref x,.int (A.length:Nat)]->PileAt CP Z x a fs od gr ls s e r oa (A++p::B) gs->N (.int (bB B r:Nat)) Z->spBeyondOf CP M Z N R
inductive spDue (CP:Addr):List V->Hp->VK->XK->Prop
 | mk (x a fs od gr:Addr) (ls s e r:Nat) (oa:List Addr) (ps:List (Nat×List Nat)) (gs:List Nat):M=[.ref x]->PileAt CP Z x a fs od gr ls s e r oa ps gs->N (.bl (dueB gs)) Z->spDue CP M Z N R
inductive spOnTop (CP:Addr):List V->Hp->VK->XK->Prop
 | mk (x a fs od gr:Addr) (ls s e r:Nat) (oa:List Addr) (A:List (Nat×List Nat)) (p:Nat×List Nat) (gs:List Nat) (m b:Nat):M=[.ref x,.int m,.int b]->PileAt CP Z x a fs od gr ls s e r oa (A++[p]) gs->s <= p.1->p.1 < m->m < b->b <= e->e <= 500->(∀ g:Nat,Gr.IsG ((e:Int)-s) (((p.1:Int)-s)+((m:Int)-s)) (((m:Int)-s)+((b:Int)-s)) g->g <= 240->N (.int g) Z)->spOnTop CP M Z N R
inductive spPaper (CP:Addr):List V->Hp->VK->XK->Prop
 | mk (x a fs od gr:Addr) (ls s e r:Nat) (oa:List Addr) (ps:List (Nat×List Nat)) (gs:List Nat):M=[.ref x]->PileAt CP Z x a fs od gr ls s e r oa ps gs->(flt ps).length <= 500->r <= e->e <= 500->(∀ l H',Same Z H'->Z l=none->H' l=some (.lst (nL (flt ps++List.range' r (e-r))))->N (.ref l) H')->spPaper CP M Z N R
theorem flt_app (A B:List (Nat×List Nat)):flt (A++B)=flt A++flt B:=by unfold flt;rw [yAK,yCG]
theorem dueB_no (h:gs.length <= 1):dueB gs=false:=by
 cases hd:dueB gs with
 | false=>rfl
 | true=>have:=ZEC hd;omega
noncomputable def grd (n a b c:Nat):Nat:=open Classical in if h:∃ g,Gr.IsG (n:Int) ((a:Int)+b) ((b:Int)+c) g then h.choose else 0
theorem grd_of {n a b c g:Nat}{N x y:Int}(h:Gr.IsG N x y g)(U:N=n)(O:x=(a:Int)+b)(Y:y=(b:Int)+c):grd n a b c=g:=by
 subst U O Y
 unfold grd
 have J:∃ g,Gr.IsG (n:Int) ((a:Int)+b) ((b:Int)+c) g:=⟨g,h⟩
 rw [dif_pos J]
 exact J.choose_spec.uniq h
theorem ZBh:∀ (m:Nat) (s:Bool) (w:Nat) (l r J:List Nat),(ZCx m s w l r J).Al λos=>os.length=J.length+l.length+r.length
 | 0,s,w,l,r,J=>by
  show (J++l++r).length=_
  rw [yAC,yAC]
 | m+1,s,w,[],r,J=>by
  show (J++[]++r).length=_
  rw [yAC,yAC]
 | m+1,s,w,x::l,[],J=>by
  show (J++x::l++[]).length=_
  rw [yAC,yAC]
 | m+1,s,w,x::l,y::r,J=>by
  rw [ZCx]
  refine ZDh λb=>?_
  have tk:∀ (L:List Nat) k,k <= L.length->(L.take k).length=k /\ (L.drop k).length=L.length-k:=λL k h=>⟨by rw [yAP];omega,yAX⟩
  by_cases h4:(if b=s then w+1 else 1)=4
  .rw [if_pos h4]
   cases b
   .rw [if_neg (by decide)]
    refine Pg.Al.bind ((ZD7 r x).imp λk O=>?_)
    have:=tk r k O
    split
    .exact (ZBh m _ _ _ _ _).imp λos h=>by simp at h ⊢;omega
    .exact (ZBh m _ _ _ _ _).imp λos h=>by simp at h ⊢;omega
   .rw [if_pos rfl]
    refine Pg.Al.bind ((ZD7 l y).imp λk O=>?_)
    have:=tk l k O
    split
    .exact (ZBh m _ _ _ _ _).imp λos h=>by simp at h ⊢;omega
    .exact (ZBh m _ _ _ _ _).imp λos h=>by simp at h ⊢;omega
  .rw [if_neg h4]
   split
   .exact (ZBh m _ _ _ _ _).imp λos h=>by simp at h ⊢;omega
   .exact (ZBh m _ _ _ _ _).imp λos h=>by simp at h ⊢;omega
theorem joinedP_len (l r:List Nat):(ZD8 l r).Al λos=>os.length=l.length+r.length:=(ZBh _ _ _ _ _ _).imp λos h=>by rw [h];simp
theorem putP_al2:∀ (m pl:Nat) (os:List Nat),(putP ZE1 m pl os).Al λJ=>J.length=os.length+m
 | 0,pl,os=>rfl
 | m+1,pl,os=>Pg.Al.bind ((spotP_le os pl).imp λr _=>(putP_al2 m (pl+1) _).imp λJ h=>by
  have:=(insN_perm (os:=os) (r:=r) (x:=pl)).length_eq
  rw [yAC,yBD] at this
  omega)
theorem fillP_al2 (h:r < e):(ZFr ls e r).Al λf=>0 < f.2.length /\ r+f.2.length <= e :=
 Pg.Al.bind ((strP_al2 h).imp λg O=>Pg.Al.bind ((putP_al2 _ _ _).imp λos J=>by
  have:=turnN_len r g.1 g.2
  rw [turn_eq] at J
  show 0 < os.length /\ r+os.length <= e
  omega))
structure PW (s e:Nat)(t:PS):Prop where
 cl:Cl s t.ps t.r
 re:t.r <= e
 gl:t.gs.length=t.ps.length-1
structure PXw (c:Ad)(x fs od gr:Addr)(oa:List Addr):Prop where
 n1:x∉c.A /\ fs∉c.A /\ od∉c.A /\ gr∉c.A
 n2:∀ b∈oa,b∉c.A
theorem PXw.l3 {x:Addr}(h:PXw c x f od gr oa):∀ b∈[f,od,gr],b∉c.A:=λb J=>by
 rcases yAI.mp J with z | z
 .rw [z];exact h.n1.2.1
 rcases yAI.mp z with z | z
 .rw [z];exact h.n1.2.2.1
 .rw [yAH.mp z];exact h.n1.2.2.2
theorem PileAt.frS {x:Addr}{s:Nat}{ps:List (Nat×List Nat)}(h:PileAt CP H x a tk od gr ls s e r oa ps gs)(J:PXw c x tk od gr oa)(f:Fr c.S H H'):PileAt CP H' x a tk od gr ls s e r oa ps gs :=
 h.fr f ⟨Ad.SA J.n1.1,Ad.SA J.n1.2.1,Ad.SA J.n1.2.2.1,Ad.SA J.n1.2.2.2⟩ λb O=>Ad.SA (J.n2 b O)
theorem SitR.three {x:Addr}{s:Nat}{ps:List (Nat×List Nat)}(st:SitR CA tk H c pr)(h:PileAt CP H x a ak od gr ls s e r oa ps gs)(O:PXw c x ak od gr oa)(f:Fr [ak,od,gr] H H'):SitR CA tk H' c pr:=st.apart f (λb J=>.inl (h.lsts b J)) O.l3
def ZF8 (CA CR CP:Addr)(H:Hp)(c:Ad)(x fs od gr:Addr)(ls s e:Nat)(oa oa':List Addr)(t:PS)(pr:List A3)(H':Hp):Prop :=
 Fr [x,fs,od,gr,c.a,c.lg,c.tl] H H' /\ (∀ b∈oa',b∈oa∨H b=none) /\ PileAt CP H' x c.a fs od gr ls s e t.r oa' t.ps t.gs /\ PXw c x fs od gr oa' /\ SitR CA CR H' c pr /\ PW s e t
inductive spJoinTwoW (CA CR CP:Addr):List V->Hp->VK->XK->Prop
 | mk (c:Ad) (pr:List A3) (x fs od gr:Addr) (ls s e i r:Nat) (oa:List Addr) (ps:List (Nat×List Nat)) (gs:List Nat) (post:Option PS->List A3->Prop):M=[.ref x,.int (i:Nat)]->SitR CA CR Z c pr->PileAt CP Z x c.a fs od gr ls s e r oa ps gs->PXw c x fs od gr oa->PW s e ⟨r,ps,gs⟩->i+2 <= ps.length->e <= 500->c.n <= 1000->Wp c.n c.an (jnP i ⟨r,ps,gs⟩) pr post->(∀ t H' t' oa' pr',ZF8 CA CR CP Z c x fs od gr ls s e oa oa' t' pr' H'->t'.r=r->t'.ps.length+1=ps.length->post (some t') pr'->N (.ref t) H')->spJoinTwoW CA CR CP M Z N R
inductive spLayW (CA CR CP:Addr):List V->Hp->VK->XK->Prop
 | mk (c:Ad) (pr:List A3) (x fs od gr:Addr) (ls s e r:Nat) (oa:List Addr) (ps:List (Nat×List Nat)) (gs:List Nat) (post:Option PS->List A3->Prop):M=[.ref x]->SitR CA CR Z c pr->PileAt CP Z x c.a fs od gr ls s e r oa ps gs->PXw c x fs od gr oa->PW s e ⟨r,ps,gs⟩->r < e->e <= 500->c.n <= 1000->Wp c.n c.an (layP grd ls s e ⟨r,ps,gs⟩) pr post->(∀ t H' t' oa' pr',ZF8 CA CR CP Z c x fs od gr ls s e oa oa' t' pr' H'->r < t'.r->t'.ps.length=ps.length+1->post (some t') pr'->N (.ref t) H')->spLayW CA CR CP M Z N R
inductive spStepW (CA CR CP:Addr):List V->Hp->VK->XK->Prop
 | mk (c:Ad) (pr:List A3) (x fs od gr:Addr) (ls s e r:Nat) (oa:List Addr) (ps:List (Nat×List Nat)) (gs:List Nat) (post:Option PS->List A3->Prop):M=[.ref x]->SitR CA CR Z c pr->PileAt CP Z x c.a fs od gr ls s e r oa ps gs->PXw c x fs od gr oa->PW s e ⟨r,ps,gs⟩->e <= 500->c.n <= 1000->Wp c.n c.an (ZFE grd ls s e ⟨r,ps,gs⟩) pr post->(post none pr->N .non Z)->(∀ t H' t' oa' pr',ZF8 CA CR CP Z c x fs od gr ls s e oa oa' t' pr' H'->2 * (e-t'.r)+t'.ps.length < 2 * (e-r)+ps.length->post (some t') pr'->N (.ref t) H')->spStepW CA CR CP M Z N R
inductive spByPileW (CA CR:Addr):List V->Hp->VK->XK->Prop
 | mk (c:Ad) (pr:List A3) (ls s e:Nat) (pt:Addr) (post:List Nat->List A3->Prop):M=[.ref c.a,.int ls,.ref pt]->SitR CA CR Z c pr->Z pt=some (.tup [.int s,.int e])->s <= e->e <= 500->c.n <= 1000->Wp c.n c.an (bypP grd ls s e) pr post->(∀ l H' os pr',Fr c.S Z H'->Z l=none->H' l=some (.lst (nL os))->SitR CA CR H' c pr'->os.length=e-s->post os pr'->N (.ref l) H')->spByPileW CA CR M Z N R
noncomputable abbrev fP (ak pl tk ml wd:Addr):List (Str×V):=[("went_on",.ref wd),("meetings",.ref ml),("taken",.ref tk),("pieces",.ref pl),("asker",.ref ak)]
theorem atI_nN {o:Nat}(h:os[m]?=some o):atI (nL os) (m:Int)=some (.int o):=ZAj (by omega) (by rw [Int.toNat_natCast,yAM,h];rfl)
noncomputable abbrev kQ (p q:Nat):List Key:=[Sum.inl (p:Int),Sum.inl (q:Int)]
theorem kQ_inj {J q':Nat}(h:kQ p q=kQ J q'):p=J /\ q=q':=by
 injection h with h1 h2
 injection h2 with h2 _
 injection h1 with h1
 injection h2 with h2
 omega
def FrV (H:Hp)(u:V):Po.Fr->Prop
 | none=>u=.non
 | some x=>∃ t,u=.ref t /\ H t=some (.tup [.int (x.1:Int),.int (x.2:Int)])
theorem FrV.keep (h:FrV H u v)(e:∀ t x,H t=some (.tup x)->H' t=some (.tup x)):FrV H' u v:=by
 cases v with
 | none=>exact h
 | some x=>obtain ⟨t,a,b⟩:=h;exact ⟨t,a,e _ _ b⟩
noncomputable def front (xs:List Nat)(t i:Nat):Po.Fr:=(xs[t]?).map λx=>(x,i)
structure PB (CP:Addr)(H:Hp)(p ak pl tk ml wd:Addr)(pls:List Addr)(pcs:List (List Nat)):Prop where
 hp:Ins H p CP (fP ak pl tk ml wd)
 hpl:H pl=some (.lst (pls.map V.ref))
 len:pls.length=pcs.length
 pc:∀ (i:Nat) l xs,pls[i]?=some l->pcs[i]?=some xs->H l=some (.lst (nL xs))
theorem PB.at {p:Addr}(h:PB CP H p ak pl tk ml wd pls pcs){xs:List Nat}(e:pcs[i]?=some xs):∃ l,pls[i]?=some l /\ H l=some (.lst (nL xs)):=by
 have hi:=(yAO.mp e).1
 have J:i < pls.length:=by rw [h.len];exact hi
 have O:pls[i]?=some pls[i]:=yAF J
 exact ⟨_,O,h.pc i _ xs O e⟩
theorem PB.fr {S:List Addr}{p:Addr}(h:PB CP H p ak pl tk ml wd pls pcs)(e:Fr S H H')(n1:p∉S)(n2:pl∉S)(J:∀ l∈pls,l∉S):PB CP H' p ak pl tk ml wd pls pcs :=
 ⟨ZBw e n1 h.hp,e _ _ n2 h.hpl,h.len,λi l xs a b=>e _ _ (J l (yAS a)) (h.pc i l xs a b)⟩
theorem PB.mono {p:Addr}(h:PB CP H p ak pl tk ml wd pls pcs)(e:Same H H'):PB CP H' p ak pl tk ml wd pls pcs :=
 h.fr (S:=[]) e.fr yBE yBE λ_ _=>yBE
structure MsAt (H:Hp)(vs:List V)(ms:List Po.Mt):Prop where
 len:vs.length=ms.length
 get:∀ (i:Nat) m,ms[i]?=some m->∃ t,vs[i]?=some (V.ref t) /\ H t=some (.tup [.int (m.1:Int),.int (m.2.1:Int),.int (m.2.2:Int)])
theorem MsAt.keep {ms:List Po.Mt}(h:MsAt H vs ms)(e:∀ t x,H t=some (.tup x)->H' t=some (.tup x)):MsAt H' vs ms:=⟨h.len,λi m hm=>let ⟨t,a,b⟩:=h.get i m hm;⟨t,a,e _ _ b⟩⟩
theorem MsAt.app {us:List V}{ms ns:List Po.Mt}(h:MsAt H vs ms)(g:MsAt H us ns):MsAt H (vs++us) (ms++ns):=by
 refine ⟨by rw [yAC,yAC,h.len,g.len],λj m J=>?_⟩
 by_cases hl:j < ms.length
 .rw [yBB hl] at J
  rw [yBB (by rw [h.len];exact hl)]
  exact h.get j m J
 .rw [yAT (by omega)] at J
  rw [yAT (by rw [h.len];omega),h.len]
  exact g.get _ m J
theorem MsAt.one {m:Po.Mt}{t:Addr}(O:H t=some (.tup [.int (m.1:Int),.int (m.2.1:Int),.int (m.2.2:Int)])):MsAt H [.ref t] [m]:=⟨rfl,λj a J=>by
 cases j with
 | zero=>cases J;exact ⟨t,rfl,O⟩
 | succ j=>simp at J⟩
theorem MsAt.nil:MsAt H [] []:=⟨rfl,λj a J=>by simp at J⟩
inductive spMeetings (n:Nat):List V->Hp->VK->XK->Prop
 | mk (f b:Nat):M=[.int f,.int b]->f <= b->b <= 600->0 < n->b-f <= 2 ^ (n-1)->(∀ l H' ws,Same Z H'->Z l=none->H' l=some (.lst ws)->MsAt H' ws (Po.mts f b)->N (.ref l) H')->spMeetings n M Z N R
theorem spMeetings_no {E:XK}(h:spMeetings 0 vs H Q E):False:=by
 obtain ⟨_,_,_,_,_,J,_⟩:=h
 omega
inductive spFrontOf (CP:Addr):List V->Hp->VK->XK->Prop
 | mk (p ak pl tk ml wd:Addr) (pls:List Addr) (pcs:List (List Nat)) (i t:Nat) (xs:List Nat):M=[.ref p,.int i,.int t]->PB CP Z p ak pl tk ml wd pls pcs->pcs[i]?=some xs->(∀ u H',Same Z H'->FrV H' u (front xs t i)->N u H')->spFrontOf CP M Z N R
structure DT (H:Hp)(d:Addr)(w:Po.W)(B:Nat)(kvs:List (List Key×V)):Prop where
 hd:H d=some (.dT kvs)
 sm:ZFg kvs
 len:kvs.length <= B
 val:∀ a c v,w a c=some v->∃ u,valV kvs (kQ a c)=some u /\ FrV H u v
theorem DT.fr {S:List Addr}(h:DT H d w B kvs)(e:Fr S H H')(n:d∉S)(t:∀ t x,H t=some (.tup x)->t∉S):DT H' d w B kvs :=
 ⟨e _ _ n h.hd,h.sm,h.len,λa c v z=>let ⟨u,x,y⟩:=h.val a c v z;⟨u,x,y.keep λb o q=>e _ _ (t _ _ q) q⟩⟩
theorem DT.mono (h:DT H d w B kvs)(e:Same H H'):DT H' d w B kvs:=h.fr (S:=[]) e.fr yBE λ_ _ _=>yBE
theorem mem_putK {k:List Key}{v:V}{J:List Key×V}(h:J∈putK kvs k v):J.1=k∨∃ kv'∈kvs,kv'.1=J.1:=by
 unfold putK at h
 split at h
 .obtain ⟨kv',h1,h2⟩:=yBP.mp h
  split at h2
  .rename_i e;rw [<- h2];exact .inl e
  .rw [<- h2];exact .inr ⟨kv',h1,rfl⟩
 .rcases yAY.mp h with h | h
  .exact .inr ⟨J,h,rfl⟩
  .rw [yAH.mp h];exact .inl rfl
theorem len_putK {k:List Key}{v:V}(h:valV kvs k=some u):(putK kvs k v).length=kvs.length:=by
 unfold putK
 rw [if_pos (by rw [ZCq,h];rfl),yAA]
theorem DT.put (h:DT H d w B kvs){a c:Nat}(ha:a < 205)(hc:c <= 500)(hu:FrV H u v)(hk:k=1∨(w a c).isSome=true):DT (upd H d (.dT (putK kvs (kQ a c) u))) d (Po.put w a c v) (B+k) (putK kvs (kQ a c) u):=by
 have e:∀ t x,H t=some (.tup x)->upd H d (.dT (putK kvs (kQ a c) u)) t=some (.tup x):=λt x Y=>by rw [ZAJ (λz=>by rw [z,h.hd] at Y;cases Y)];exact Y
 refine ⟨ZAE,λkv a0=>?_,?_,λa' c' v' J=>?_⟩
 .rcases mem_putK a0 with z | ⟨kv',h1,h2⟩
  .exact ⟨a,c,z,ha,hc⟩
  .rw [<- h2];exact h.sm kv' h1
 .have:=h.len
  rcases hk with rfl | z
  .exact yAL (ZCk _ _ _) (by omega)
  .obtain ⟨v0,O⟩:=Option.isSome_iff_exists.mp z
   obtain ⟨u0,U,_⟩:=h.val a c v0 O
   rw [len_putK U];omega
 .unfold Po.put at J
  rw [valV_put]
  by_cases z:a'=a /\ c'=c
  .rw [if_pos z] at J
   rw [if_pos (by rw [z.1,z.2])]
   cases J
   exact ⟨u,rfl,hu.keep e⟩
  .rw [if_neg z] at J
   rw [if_neg (λy=>z (kQ_inj y))]
   obtain ⟨u',x,y⟩:=h.val a' c' v' J
   exact ⟨u',x,y.keep e⟩
theorem drop_consG {os:List α}{x:α}(h:os[i]?=some x):os.drop i=x::os.drop (i+1):=by
 obtain ⟨h1,h2⟩:=yAO.mp h
 rw [yBT h1,h2]
inductive spTop (CP:Addr):List V->Hp->VK->XK->Prop
 | mk (p ak pl tk ml wd:Addr) (pls:List Addr) (pcs:List (List Nat)) (w:Po.W) (B:Nat) (kvs:List (List Key×V)) (top:Po.Fr):M=[.ref p]->PB CP Z p ak pl tk ml wd pls pcs->DT Z wd w B kvs->(w 0 pcs.length=some top∨B=0 /\ top=none)->(∀ u H',Same Z H'->FrV H' u top->N u H')->spTop CP M Z N R
inductive spFirst (CP:Addr):List V->Hp->VK->XK->Prop
 | mk (p ak pl tk ml wd:Addr) (pls:List Addr) (pcs:List (List Nat)) (w:Po.W) (B:Nat) (kvs:List (List Key×V)) (top:Po.Fr):M=[.ref p]->PB CP Z p ak pl tk ml wd pls pcs->DT Z wd w B kvs->(w 0 pcs.length=some top∨B=0 /\ top=none)->(∀ H',Same Z H'->N (match top with | none=>V.non | some x=>.int (x.1:Int)) H')->spFirst CP M Z N R
inductive spLeft (CP:Addr):List V->Hp->VK->XK->Prop
 | mk (p ak pl tk ml wd:Addr) (pls:List Addr) (pcs:List (List Nat)) (ts:List Nat):M=[.ref p]->PB CP Z p ak pl tk ml wd pls pcs->Z tk=some (.lst (nL ts))->pcs.length <= 500->ts.length <= 500->(∀ xs∈pcs,xs.length <= 500)->(∀ t∈ts,t <= 500)->(∀ H',Same Z H'->N (.int (((pcs.map List.length).sum:Nat)-(ts.sum:Nat))) H')->spLeft CP M Z N R
theorem sum_nat (l:List Nat):(l.map λ(n:Nat)=>(n:Int)).sum=((l.sum:Nat):Int):=by
 induction l with
 | nil=>rfl
 | cons a r ih=>rw [yAZ,List.sum_cons,List.sum_cons,ih];omega
theorem frW_at {t:Nat}{zs:List Nat}(h:pcs[i]?=some zs)(J:ts[i]?=some t):frW pcs ts i=front zs t i:=by
 unfold frW front
 rw [yBI,yBI,h,J];rfl
structure PourAt (CP:Addr)(H:Hp)(p ak pl tk ml wd:Addr)(pls:List Addr)(pcs:List (List Nat))(ts:List Nat)(w:Po.W)(kvs:List (List Key×V)):Prop where
 pb:PB CP H p ak pl tk ml wd pls pcs
 htk:H tk=some (.lst (nL ts))
 hml:∃ mvs,H ml=some (.lst mvs) /\ MsAt H mvs (Po.mts 0 pcs.length)
 hwd:DT H wd w (2 * pcs.length-1) kvs
 tlen:ts.length=pcs.length
 ne:tk≠pl /\ tk≠ml /\ ∀ l∈pls,l≠tk
theorem PourAt.fr {S:List Addr}{p:Addr}(h:PourAt CP H p ak pl tk ml wd pls pcs ts w kvs)(e:Fr S H H')(U:∀ b∈S,∃ l,H b=some (.lst l))(n:pl∉S /\ tk∉S /\ ml∉S /\ ∀ l∈pls,l∉S):PourAt CP H' p ak pl tk ml wd pls pcs ts w kvs:=by
 have J:∀ b o,H b=some o->(∀ l,o≠.lst l)->b∉S:=λb o O z m=>by
  obtain ⟨l,hl⟩:=U b m
  rw [hl] at O;exact z _ (Option.some.inj O).symm
 obtain ⟨dx,fs,Y,_⟩:=h.pb.hp.ex
 obtain ⟨mvs,h1,h2⟩:=h.hml
 exact ⟨h.pb.fr e (J _ _ Y λ_ z=>by cases z) n.1 n.2.2.2,e _ _ n.2.1 h.htk,⟨mvs,e _ _ n.2.2.1 h1,h2.keep λt z y=>e _ _ (J _ _ y λ_ z=>by cases z) y⟩,h.hwd.fr e (J _ _ h.hwd.hd λ_ z=>by cases z) (λt z y=>J _ _ y λ_ z=>by cases z),h.tlen,h.ne⟩
theorem PourAt.mono {p:Addr}(h:PourAt CP H p ak pl tk ml wd pls pcs ts w kvs)(e:Same H H'):PourAt CP H' p ak pl tk ml wd pls pcs ts w kvs :=
 h.fr (S:=[]) e.fr (λb z=>by cases z) ⟨yBE,yBE,yBE,λ_ _=>yBE⟩
structure Dw (n:Nat)(ms:List Po.Mt)(w:Po.W):Prop where
 pr:∀ m∈ms,(w m.1 m.2.2).isSome=true
 ix:∀ a c x,w a c=some (some x)->x.2 < n
theorem metP_al2 {P:Po.Fr->Prop}:∀ {u v:Po.Fr},P u->P v->(metP u v).Al P
 | none,_,_,h=>h
 | some _,none,h,_=>h
 | some x,some y,h,g=>by
  show (ahd x.1 y.1 λb=>.ret (if b then some x else some y)).Al P
  exact ZDh λb=>(by cases b <;> first | exact h | exact g)
theorem ZCt {a c a' c':Nat}(h:(w a' c').isSome=true):(Po.put w a c v a' c').isSome=true:=by
 unfold Po.put
 split
 .rfl
 .exact h
theorem put_ix {n:Nat}{a c:Nat}(h:∀ a c x,w a c=some (some x)->x.2 < n)(J:∀ x,v=some x->x.2 < n):∀ a' c' x,Po.put w a c v a' c'=some (some x)->x.2 < n:=λa' c' x e=>by
 unfold Po.put at e
 split at e
 .exact J x (Option.some.inj e)
 .exact h _ _ x e
theorem ZDb {n:Nat}:∀ (ms:List Po.Mt) (w:Po.W),(∀ a c x,w a c=some (some x)->x.2 < n)->(ZBJ ms w).Al λo=>∀ w',o=some w'->(∀ a c,(w a c).isSome=true->(w' a c).isSome=true) /\ Dw n ms w'
 | [],w,h=>λw' e=>by cases e;exact ⟨λ_ _ z=>z,⟨λm hm=>(by cases hm),h⟩⟩
 | m::ms,w,h=>by
  rw [ZBJ]
  cases e1:w m.1 m.2.1 with
  | none=>exact λw' e=>by cases e
  | some u=>
   cases e2:w m.2.1 m.2.2 with
   | none=>exact λw' e=>by cases e
   | some v=>
    refine Pg.Al.bind ((metP_al2 (P:=λx=>∀ y,x=some y->y.2 < n) (λy z=>h _ _ y (by rw [e1,z])) (λy z=>h _ _ y (by rw [e2,z]))).imp λx U=>(ZDb ms _ (put_ix h U)).imp λo g w' e=>?_)
    obtain ⟨J,O⟩:=g w' e
    refine ⟨λa c z=>J a c (ZCt z),⟨λY hm=>?_,O.ix⟩⟩
    rcases yAI.mp hm with z | z
    .rw [z];exact J _ _ (by rw [ZDo];rfl)
    .exact O.pr Y z
structure PX (c:Ad)(p pl tk ml:Addr)(pls:List Addr):Prop where
 p:p∉c.A
 pl:pl∉c.A
 tk:tk∉c.A
 ml:ml∉c.A
 ls:∀ l∈pls,l∉c.A
inductive spGoesOnW (CA CR CP:Addr):List V->Hp->VK->XK->Prop
 | mk (c:Ad) (pr:List A3) (p pl tk ml wd:Addr) (x y:Nat) (k:Bool->Pg Po.Fr) (post:Po.Fr->List A3->Prop):M=[.ref p,.int x,.int y]->SitR CA CR Z c pr->Ins Z p CP (fP c.a pl tk ml wd)->c.n <= 1000->Wp c.n c.an (ahd x y k) pr post->(∀ b H' pr',Fr c.S Z H'->SitR CA CR H' c pr'->Wp c.n c.an (k b) pr' post->N (.bl b) H')->spGoesOnW CA CR CP M Z N R
inductive spMetW (CA CR CP:Addr):List V->Hp->VK->XK->Prop
 | mk (c:Ad) (pr:List A3) (p pl tk ml wd:Addr) (u1 u2:V) (one other:Po.Fr) (post:Po.Fr->List A3->Prop):M=[.ref p,u1,u2]->SitR CA CR Z c pr->Ins Z p CP (fP c.a pl tk ml wd)->FrV Z u1 one->FrV Z u2 other->c.n <= 1000->Wp c.n c.an (metP one other) pr post->(∀ u H' x pr',Fr c.S Z H'->SitR CA CR H' c pr'->FrV H' u x->post x pr'->N u H')->spMetW CA CR CP M Z N R
inductive spHeldW (CA CR CP:Addr):List V->Hp->VK->XK->Prop
 | mk (c:Ad) (pr:List A3) (p pl tk ml wd mt wo:Addr) (mvs:List V) (ms:List Po.Mt) (w:Po.W) (B k:Nat) (kvs:List (List Key×V)) (post:Option Po.W->List A3->Prop):M=[.ref p,.ref mt,.ref wo]->SitR CA CR Z c pr->Ins Z p CP (fP c.a pl tk ml wd)->p∉c.S->mt∉c.S->Z mt=some (.lst mvs)->MsAt Z mvs ms->ms.length <= 400->(∀ m∈ms,m.1 < 205 /\ m.2.2 <= 500)->DT Z wo w B kvs->B <= 500->(k=1∨k=0 /\ ∀ m∈ms,(w m.1 m.2.2).isSome=true)->c.n <= 1000->Wp c.n c.an (ZBJ ms w) pr post->(∀ pr',¬ post none pr')->(∀ d H' w' kvs' pr',Fr c.S Z H'->Z d=none->DT H' d w' (B+k * ms.length) kvs'->SitR CA CR H' c pr'->post (some w') pr'->N (.ref d) H')->spHeldW CA CR CP M Z N R
inductive spPourInitW (CA CR CP:Addr):List V->Hp->VK->XK->Prop
 | mk (c:Ad) (pr:List A3) (x dx hl:Addr) (hls:List Addr) (pcs:List (List Nat)) (post:Option Po.W->List A3->Prop):M=[.ref x,.ref c.a,.ref hl]->Z x=some (.ins CP dx [])->SitR CA CR Z c pr->Z hl=some (.lst (hls.map V.ref))->hls.length=pcs.length->(∀ (i:Nat) l ys,hls[i]?=some l->pcs[i]?=some ys->Z l=some (.lst (nL ys)))->pcs.length <= 200->x∉c.A->c.n <= 1000->Wp c.n c.an (ZBJ (Po.mts 0 pcs.length) (lvW pcs pcs.length)) pr post->(∀ pr',¬ post none pr')->(∀ pl tk ml wd pls w H' kvs pr',(∀ b o,b≠x->b∉c.S->Z b=some o->H' b=some o)->PourAt CP H' x c.a pl tk ml wd pls pcs (List.replicate pcs.length 0) w kvs->Dw pcs.length (Po.mts 0 pcs.length) w->(∀ j,j < pcs.length->(w j (j+1)).isSome=true)->(Z pl=none /\ Z tk=none /\ Z ml=none /\ Z wd=none /\ ∀ l∈pls,Z l=none)->SitR CA CR H' c pr'->post (some w) pr'->N .non H')->spPourInitW CA CR CP M Z N R
theorem lvW_ix (pcs:List (List Nat))(k:Nat)(J:k <= pcs.length):∀ a c x,lvW pcs k a c=some (some x)->x.2 < pcs.length:=λa c x e=>by
 unfold lvW at e
 split at e
 .have:=(ZBN (Option.some.inj e)).1
  omega
 .cases e
theorem lvW_put (pcs:List (List Nat))(i:Nat):Po.put (lvW pcs i) i (i+1) (frW pcs (List.replicate pcs.length 0) i)=lvW pcs (i+1):=by
 funext a c
 unfold Po.put lvW
 by_cases h1:a=i /\ c=i+1
 .rw [if_pos h1,if_pos ⟨by omega,by omega⟩,h1.1]
 .rw [if_neg h1]
  by_cases h2:c=a+1 /\ a < i
  .rw [if_pos h2,if_pos ⟨h2.1,by omega⟩]
  .rw [if_neg h2,if_neg (by omega)]
inductive spTakeW (CA CR CP:Addr):List V->Hp->VK->XK->Prop
 | mk (c:Ad) (pr:List A3) (p pl tk ml wd:Addr) (pls:List Addr) (pcs:List (List Nat)) (ts:List Nat) (w:Po.W) (kvs:List (List Key×V)):M=[.ref p]->SitR CA CR Z c pr->PourAt CP Z p c.a pl tk ml wd pls pcs ts w kvs->PX c p pl tk ml pls->Dw pcs.length (Po.mts 0 pcs.length) w->(∀ j,j < pcs.length->(w j (j+1)).isSome=true)->pcs.length <= 200->c.n <= 1000->(((pcs.length=0∨w 0 pcs.length=some none) /\ ∀ H',Same Z H'->N .non H')∨∃ (x i:Nat) (post:Option Po.W->List A3->Prop),0 < pcs.length /\ w 0 pcs.length=some (some (x,i)) /\ Wp c.n c.an (ZBJ ((Po.mts 0 pcs.length).filter (onW i)) (Po.put w i (i+1) (frW pcs (tkN ts i) i))) pr post /\ (∀ pr',¬ post none pr') /\ ∀ wd' w' H' kvs' pr',Fr [p,tk,c.a,c.lg,c.tl] Z H'->PourAt CP H' p c.a pl tk ml wd' pls pcs (tkN ts i) w' kvs'->Dw pcs.length (Po.mts 0 pcs.length) w'->(∀ j,j < pcs.length->(w' j (j+1)).isSome=true)->SitR CA CR H' c pr'->post (some w') pr'->N (.int x) H')->spTakeW CA CR CP M Z N R
structure PL (H:Hp)(hls:List Addr)(pcs:List (List Nat)):Prop where
 len:hls.length=pcs.length
 at':∀ (i:Nat) l ys,hls[i]?=some l->pcs[i]?=some ys->H l=some (.lst (nL ys))
theorem PL.nil:PL H [] []:=⟨rfl,λi l ys h=>by simp at h⟩
theorem PL.sl (h:PL H hls pcs)(i d:Nat):PL H ((hls.drop i).take d) ((pcs.drop i).take d):=by
 refine ⟨by rw [yAP,yAP,yAX,yAX,h.len],λj l ys h1 h2=>?_⟩
 have J:j < d:=by have:=(yAO.mp h1).1;rw [yAP] at this;omega
 rw [yDD J,yCS] at h1 h2
 exact h.at' _ l ys h1 h2
theorem PL.frk {S:List Addr}(h:PL H hls pcs)(e:Fr S H H')(n:∀ b∈hls,b∉S):PL H' hls pcs:=⟨h.len,λi b ys h1 h2=>e _ _ (n b (yAS h1)) (h.at' i b ys h1 h2)⟩
theorem PL.mono (h:PL H hls pcs)(e:Same H H'):PL H' hls pcs:=h.frk (S:=[]) e.fr λ_ _=>yBE
theorem PL.ex (h:PL H hls pcs){b:Addr}(O:b∈hls):∃ z,H b=some (.lst z):=by
 obtain ⟨j,J,e⟩:=List.getElem_of_mem O
 exact ⟨_,h.at' j b _ (by rw [yAF J,e]) (yAF (show j < pcs.length by rw [<- h.len];exact J))⟩
theorem PL.snoc (h:PL H hls pcs)(hl:H l=some (.lst (nL os))):PL H (hls++[l]) (pcs++[os]):=by
 refine ⟨by rw [yAC,yAC,h.len];rfl,λj b ys h1 h2=>?_⟩
 by_cases z:j < hls.length
 .rw [yBB z] at h1
  rw [yBB (by rw [<- h.len];exact z)] at h2
  exact h.at' j b ys h1 h2
 .rw [yAT (by omega)] at h1
  rw [yAT (by rw [<- h.len];omega),<- h.len] at h2
  cases hk:j-hls.length with
  | zero=>rw [hk] at h1 h2;cases h1;cases h2;exact hl
  | succ m=>rw [hk] at h1;simp at h1
theorem rng_grp {n d:Nat}(O:0 < d):(Builtin.Range.rangeSize ((0:Nat):Int) (n:Int) (d:Int)).toNat=grpN n d:=by
 rw [ZB2 (by omega)]
 unfold grpN
 by_cases h:n=0
 .subst h
  rw [if_neg (by omega),Nat.div_eq_of_lt (by omega)];rfl
 .rw [if_pos (by omega)]
  have e:(n:Int)-((0:Nat):Int)-1=((n-1:Nat):Int):=by omega
  have J:(((n-1:Nat):Int) / (d:Int))=(((n-1) / d:Nat):Int):=by rw [Int.natCast_ediv]
  rw [e,J]
  rw [show n+d-1=(n-1)+d by omega,Nat.add_div_right _ O]
  generalize (n-1) / d=t
  omega
theorem ZFY {d n:Nat}(J:0 < d):grpN n d <= n:=by
 unfold grpN
 by_cases h:n=0
 .subst h;rw [Nat.div_eq_of_lt (by omega)];exact yAB _
 .refine Nat.le_of_lt_succ ((Nat.div_lt_iff_lt_mul J).mpr ?_)
  have:(n+1) * d=n * d+d:=yBQ ..
  have:n <= n * d:=Nat.le_mul_of_pos_right _ J
  show n+d-1 < (n+1) * d
  omega
theorem cutV_mid {xs:List V}{d:Nat}:cutV xs (some (i:Int)) (some ((i:Int)+d))=(xs.drop i).take d:=by
 unfold cutV
 rw [show ((i:Int)+d)=((i+d:Nat):Int) by omega,HT.sIx_nat,HT.sIx_nat]
 by_cases h:i <= xs.length
 .rw [yBW h]
  by_cases h2:i+d <= xs.length
  .rw [yBW h2,Nat.add_sub_cancel_left]
  .rw [Nat.min_eq_right (by omega),yBL (by rw [yAX];exact yAB _),yBL (by rw [yAX];omega)]
 .rw [Nat.min_eq_right (by omega),Nat.min_eq_right (by omega),List.drop_of_length_le (yAB _),List.drop_of_length_le (by omega)]
  simp
noncomputable def tot (pcs:List (List Nat)):Nat:=(pcs.map List.length).sum
theorem ZES (a b:List (List Nat)):tot (a++b)=tot a+tot b:=by unfold tot;rw [yAK,List.sum_append]
theorem tot_td (l:List (List Nat))(d:Nat):tot (l.take d)+tot (l.drop d)=tot l:=by rw [<- ZES,yBJ]
theorem ZDs {p:List Nat}:∀ {l:List (List Nat)},p∈l->p.length <= tot l
 | q::l,h=>by
  show p.length <= q.length+tot l
  rcases yAI.mp h with z | z
  .rw [z];omega
  .have:=ZDs z;omega
theorem ZFf {α:Type}{P:α->Prop}(h:∀ a,P a):∀ {x:Pg α},x.Al P
 | .ret a=>h a
 | .ask _ _ k=>λb=>ZFf h
theorem pourP_al2 {pcs:List (List Nat)}:∀ (k:Nat) (ts:List Nat) (w:Po.W) (J:List Nat),(ZCh pcs k ts w J).Al λo=>∀ os,o=some os->os.length=J.length+k
 | 0,ts,w,J=>λos e=>by cases e;rfl
 | k+1,ts,w,J=>by
  rw [ZCh]
  split
  .refine Pg.Al.bind (ZFf λo=>?_)
   cases o with
   | none=>exact λos e=>by cases e
   | some w'=>
    refine (pourP_al2 k _ w' _).imp λo h os e=>?_
    rw [h os e,yAC,yBD];omega
  .exact λos e=>by cases e
theorem pouredP_len (pcs:List (List Nat)):(ZCg pcs).Al λo=>∀ os,o=some os->os.length=tot pcs:=by
 refine Pg.Al.bind (ZFf λo=>?_)
 cases o with
 | none=>exact λos e=>by cases e
 | some w=>exact (pourP_al2 _ _ w []).imp λo h os e=>by rw [h os e,yBM,yBN];rfl
inductive spPouredW (CA CR:Addr):List V->Hp->VK->XK->Prop
 | mk (c:Ad) (pr:List A3) (hl:Addr) (hls:List Addr) (pcs:List (List Nat)) (post:Option (List Nat)->List A3->Prop):M=[.ref c.a,.ref hl]->SitR CA CR Z c pr->Z hl=some (.lst (hls.map V.ref))->PL Z hls pcs->pcs.length <= 200->tot pcs <= 500->c.n <= 1000->Wp c.n c.an (ZCg pcs) pr post->(∀ pr',¬ post none pr')->(∀ l H' os pr',Fr c.S Z H'->Z l=none->H' l=some (.lst (nL os))->SitR CA CR H' c pr'->os.length=tot pcs->post (some os) pr'->N (.ref l) H')->spPouredW CA CR M Z N R
inductive spOneRoundW (CA CR:Addr):List V->Hp->VK->XK->Prop
 | mk (c:Ad) (pr:List A3) (hl:Addr) (hls:List Addr) (pcs:List (List Nat)) (d:Nat) (post:Option (List (List Nat))->List A3->Prop):M=[.ref c.a,.ref hl,.int (d:Int)]->SitR CA CR Z c pr->Z hl=some (.lst (hls.map V.ref))->PL Z hls pcs->hl∉c.A->(∀ l∈hls,l∉c.A)->pcs.length <= 200->tot pcs <= 500->0 < d->d <= 1000->c.n <= 1000->Wp c.n c.an (oneP d (grpN pcs.length d) pcs []) pr post->(∀ pr',¬ post none pr')->(∀ l H' ls out pr',Fr c.S Z H'->Z l=none->H' l=some (.lst (ls.map V.ref))->PL H' ls out->(∀ b∈ls,Z b=none)->SitR CA CR H' c pr'->out.length=grpN pcs.length d->tot out=tot pcs->post (some out) pr'->N (.ref l) H')->spOneRoundW CA CR M Z N R
inductive spInRoundsW (CA CR:Addr):List V->Hp->VK->XK->Prop
 | mk (c:Ad) (pr:List A3) (hl:Addr) (hls:List Addr) (pcs:List (List Nat)) (d:Nat) (post:Option (List Nat×List Nat)->List A3->Prop):M=[.ref c.a,.ref hl,.int (d:Int)]->SitR CA CR Z c pr->Z hl=some (.lst (hls.map V.ref))->PL Z hls pcs->pcs.length <= 200->tot pcs <= 500->2 <= d->d <= 1000->c.n <= 1000->Wp c.n c.an (ZBK d pcs.length pcs []) pr post->(∀ pr',¬ post none pr')->(∀ t l nm H' r pr',Fr c.S Z H'->Z t=none->Z l=none->Z nm=none->H' t=some (.tup [.ref l,.ref nm])->H' l=some (.lst (nL r.1))->H' nm=some (.lst (nL r.2))->SitR CA CR H' c pr'->r.1.length=tot pcs->post (some r) pr'->N (.ref t) H')->spInRoundsW CA CR M Z N R
theorem grp_in {n d:Nat}(J:0 < d)(h:k < grpN n d):k * d < n:=by
 unfold grpN at h
 have:=(Nat.le_div_iff_mul_le J).mp (show k+1 <= (n+d-1) / d from h)
 rw [yBQ] at this
 omega
inductive spByPiecesW (CA CR:Addr):List V->Hp->VK->XK->Prop
 | mk (c:Ad) (pr:List A3) (wd d ls:Nat) (post:Option (List Nat)->List A3->Prop):M=[.ref c.a,.int (wd:Nat),.int (d:Nat),.int (ls:Nat)]->SitR CA CR Z c pr->0 < wd->wd <= 1000->2 <= d->d <= 1000->c.n <= 200->Wp c.n c.an (ZFd grd ls wd d c.n) pr post->(∀ pr',¬ post none pr')->(∀ l H' os pr',Fr c.S Z H'->Z l=none->H' l=some (.lst (nL os))->SitR CA CR H' c pr'->post (some os) pr'->N (.ref l) H')->spByPiecesW CA CR M Z N R
theorem ZFp {b:Addr}(n1:b≠a)(n2:b≠lg)(J:b≠tl):b∉[a,lg,tl]:=λz=>by
 rcases yAI.mp z with z | z
 .exact n1 z
 rcases yAI.mp z with z | z
 .exact n2 z
 .exact J (yAH.mp z)
def lx (ks:List Int)(x y:Nat):Prop:=kat ks x < kat ks y∨(kat ks x=kat ks y /\ x < y)
noncomputable instance (ks:List Int) (x y:Nat):Decidable (lx ks x y):=by unfold lx;exact inferInstance
def Things (H:Hp)(ks:List Int)(xs:List V):Prop:=xs.length=ks.length /\ ∀ (i:Nat) k,ks[i]?=some k->∃ r,xs[i]?=some (V.ref r) /\ H r=some (.tup [.int k,.int i])
theorem Things.zz {H:Hp}{ks:List Int}{xs:List V}(h:Things H ks xs):∃ zz:List PrA,xs=zz.map (λz=>V.ref z.1) /\ zz.length=ks.length /\ ∀ (i:Nat) z,zz[i]?=some z->z.2=(kat ks i,(i:Int)) /\ H z.1=some (.tup [.int (kat ks i),.int i]):=by
 have Y:∀ n,n <= ks.length->∃ zz:List PrA,xs.take n=zz.map (λz=>V.ref z.1) /\ zz.length=n /\ ∀ (i:Nat) z,zz[i]?=some z->z.2=(kat ks i,(i:Int)) /\ H z.1=some (.tup [.int (kat ks i),.int i]):=by
  intro n
  induction n with
  | zero=>intro _;exact ⟨[],rfl,rfl,λi z e=>by simp at e⟩
  | succ n ih=>
   intro hn
   obtain ⟨zz,J,U,O⟩:=ih (by omega)
   obtain ⟨r,b1,b2⟩:=h.2 n _ (yAF (show n < ks.length by omega))
   have ek:ks[n]=kat ks n:=by unfold kat;rw [yAF (show n < ks.length by omega)];rfl
   rw [ek] at b2
   refine ⟨zz++[(r,kat ks n,(n:Int))],?_,by rw [yAC,U];rfl,λi z e=>?_⟩
   .rw [yCH,b1,J,yAK]
    rfl
   .by_cases hi:i < zz.length
    .rw [yBB hi] at e
     exact O i z e
    .have h1:=(yAO.mp e).1
     rw [yAC,yBD] at h1
     have:i=n:=by omega
     subst this
     rw [yAT (by omega),show i-zz.length=0 by omega] at e
     cases e
     exact ⟨rfl,b2⟩
 obtain ⟨zz,J,U,O⟩:=Y ks.length (yAB _)
 rw [yBL (by rw [h.1];exact yAB _)] at J
 exact ⟨zz,J,U,O⟩
theorem onceS (σ:α->St)(p:α->Prop){G:Prop}(h:(∀ x,p x->Cut P D (σ x) H)->G)(t:∀ x,p x->Cut P D (σ x) H):G:=h t
structure PLd (H:Hp)(hls:List Addr)(pcs:List (List Nat)):Prop where
 len:hls.length=pcs.length
 at':∀ (i:Nat) l ys,hls[i]?=some l->pcs[i]?=some ys->H l=some (.lst (nL ys))
 nd:hls.Nodup
noncomputable def ZDD (n:Nat)(num:Nat->Nat)(os:List Nat):List (List Nat):=(List.range n).map λi=>os.filter λp=>decide (num p=i)
theorem ZBQ (n:Nat)(J:Nat->Nat)(os:List Nat):(ZDD n J os).length=n:=by unfold ZDD;rw [yAA,List.length_range]
theorem ZB5 {n:Nat}{J:Nat->Nat}(h:i < n):(ZDD n J os)[i]?=some (os.filter λp=>decide (J p=i)):=by
 unfold ZDD
 rw [yAM,List.getElem?_range h];rfl
theorem pcsOf_snoc {n:Nat}{J:Nat->Nat}:ZDD n J (os++[p])=if J p < n then (ZDD n J os).set (J p) ((os.filter λq=>decide (J q=J p))++[p]) else ZDD n J os:=by
 have O:∀ i,(os++[p]).filter (λq=>decide (J q=i))=if J p=i then (os.filter λq=>decide (J q=i))++[p] else os.filter λq=>decide (J q=i):=λi=>by
  rw [yDJ]
  by_cases e:J p=i
  .rw [if_pos e,yCK (by simpa using e)];rfl
  .rw [if_neg e,yCF (by simpa using e),List.filter_nil,yBA]
 refine yDG λi=>?_
 by_cases hi:i < n
 .rw [ZB5 hi,O]
  by_cases hp:J p < n
  .rw [if_pos hp,List.getElem?_set,ZBQ]
   by_cases e:J p=i
   .rw [if_pos e,if_pos e,if_pos (by omega),e]
   .rw [if_neg e,if_neg e,ZB5 hi]
  .rw [if_neg hp,if_neg (by omega),ZB5 hi]
 .rw [yBO (by rw [ZBQ];omega),yBO]
  split
  .rw [yDE,ZBQ];omega
  .rw [ZBQ];omega
theorem nd_inj {l:List Addr}(h:l.Nodup)(hi:i < l.length)(O:j < l.length)(e:l[i]=l[j]):i=j:=by
 have J:=yCX.mp h
 rcases Nat.lt_trichotomy i j with z | z | z
 .exact absurd e (J i j hi O z)
 .exact z
 .exact absurd e.symm (J j i O hi z)
theorem PLd.push {b:Addr}{ys:List Nat}(h:PLd H hls pcs)(J:hls[j]?=some b)(zs:List Nat):PLd (upd H b (.lst (nL zs))) hls (pcs.set j zs):=by
 refine ⟨by rw [yDE];exact h.len,λi l us h1 h2=>?_,h.nd⟩
 rw [List.getElem?_set] at h2
 have hj:=(yAO.mp J).1
 by_cases e:j=i
 .rw [if_pos e] at h2
  subst e
  rw [J] at h1
  cases h1
  split at h2
  .cases h2;exact ZAE
  .cases h2
 .rw [if_neg e] at h2
  have:l≠b:=λz=>by
   have hi:=(yAO.mp h1)
   have hk:=(yAO.mp J)
   obtain ⟨U,Y⟩:=hi
   obtain ⟨O,k2⟩:=hk
   rw [<- k2] at z
   rw [<- Y] at z
   exact e (nd_inj h.nd U O z).symm
  rw [ZAJ this]
  exact h.at' i l us h1 h2
theorem kat_gt {ks:List Int}(h:j < ks.length):ks[j]?=some (kat ks j):=by unfold kat;rw [yAF h];rfl
theorem onceX (σ:α->St)(X:α->Hp)(p:α->Prop){G:Prop}(h:(∀ x,p x->Cut P D (σ x) (X x))->G)(t:∀ x,p x->Cut P D (σ x) (X x)):G:=h t
theorem split_lt (J:Nat->Nat)(n:Nat):∀ os:List Nat,(os.filter λp=>decide (J p < n+1)).length=(os.filter λp=>decide (J p < n)).length+(os.filter λp=>decide (J p=n)).length
 | []=>rfl
 | a::r=>by
  have O:=split_lt J n r
  by_cases h1:J a < n
  .rw [yCK (by simp;omega),yCK (by simpa using h1),yCF (by simp;omega),yAG,yAG];omega
  .by_cases h2:J a=n
   .rw [yCK (by simp;omega),yCF (by simpa using h1),yCK (by simpa using h2),yAG,yAG];omega
   .rw [yCF (by simp;omega),yCF (by simpa using h1),yCF (by simpa using h2)];exact O
theorem pcs_sum (J:Nat->Nat)(os:List Nat):∀ n,((ZDD n J os).map List.length).sum=(os.filter λp=>decide (J p < n)).length
 | 0=>by
  unfold ZDD
  rw [List.filter_eq_nil_iff.mpr (by simp)];rfl
 | n+1=>by
  have O:=pcs_sum J os n
  unfold ZDD at O ⊢
  rw [List.range_succ,yAK,yAK,List.sum_append,O,split_lt]
  simp
inductive spDealt62 (K:W.Frag):List V->Hp->VK->XK->Prop
 | mk (ky a:Addr) (ks ns:List Int):M=[.ref ky,.ref a]->Z ky=some (.lst (ks.map V.int))->ks.length <= 119->SqL K Z a (ns.map V.int)->ns.length <= 63->(∀ l hls pcs H',Same Z H'->Z l=none->H' l=some (.lst (hls.map V.ref))->PLd H' hls pcs->(∀ b∈hls,Z b=none)->pcs.length <= 40->(∀ ys∈pcs,ys.Pairwise (lx ks) /\ (∀ y∈ys,y < ks.length) /\ ys.length <= 119)->(∀ (i j:Nat) xi xj y,i≠j->pcs[i]?=some xi->pcs[j]?=some xj->y∈xi->y∉xj)->(pcs.map List.length).sum <= 119->N (.ref l) H')->spDealt62 K M Z N R
theorem nd_flat:∀ {pcs:List (List Nat)},(∀ ys∈pcs,ys.Nodup)->(∀ (i j:Nat) xi xj y,i≠j->pcs[i]?=some xi->pcs[j]?=some xj->y∈xi->y∉xj)->pcs.flatten.Nodup
 | [],_,_=>List.nodup_nil
 | a::r,h,k=>by
  show (a++r.flatten).Nodup
  refine List.nodup_append.mpr ⟨h a yAD,nd_flat (λys J=>h ys (yAE _ J)) (λi j xi xj y e h1 h2=>k (i+1) (j+1) xi xj y (by omega) (by simpa using h1) (by simpa using h2)),λx U y J e=>?_⟩
  subst e
  obtain ⟨ys,h1,h2⟩:=List.mem_flatten.mp J
  obtain ⟨j,O⟩:=yBY h1
  exact k 0 (j+1) a ys x (by omega) rfl (by simpa using O) U h2
inductive spWhole:List V->Hp->VK->XK->Prop
 | mk {M Z N R} (i:Int):M=[.int i]->N (.bl true) Z->spWhole M Z N R
inductive spBits68 (K:W.Frag):List V->Hp->VK->XK->Prop
 | mk (a:Addr) (ns:List Int) (m:Int):M=[.ref a,.int m]->SqL K Z a (ns.map V.int)->ns.length <= 63->(∀ l H' (zs:List Int),Same Z H'->Z l=none->H' l=some (.lst (zs.map V.int))->0 < zs.length->zs.length <= 200->N (.ref l) H')->spBits68 K M Z N R
inductive spOnce68:List V->Hp->VK->XK->Prop
 | mk (l ev:Addr) (os:List Nat) (es:List Int):M=[.ref l,.ref ev]->Z l=some (.lst (nL os))->Z ev=some (.lst (es.map V.int))->(os.map λ(x:Nat)=>(x:Int)).Perm es->es.Pairwise (· <= ·)->os.length <= 500->(∀ H',Same Z H'->N (.bl true) H')->spOnce68 M Z N R
theorem srt_two {A B:List Int}(h:A.Perm B)(h1:A.Pairwise (· <= ·))(h2:B.Pairwise (· <= ·)):A=B:=List.Perm.eq_of_pairwise (λa b _ _ h1 h2=>Int.le_antisymm h1 h2) h1 h2 h
inductive spTurned68:List V->Hp->VK->XK->Prop
 | mk (lg:Addr) (ws:List V) (L:List A3):M=[.ref lg]->Z lg=some (.lst ws)->ToldO Z L ws->(∀ e∈L,e.2.1 < e.1)->N (.bl false) Z->spTurned68 M Z N R
noncomputable def btN (n:Nat):Nat:=Builtin.Int.intBits (n:Int)
theorem btN_lt (n:Nat):n < 2 ^ btN n:=by
 have:=(bits_le (n:=(n:Int)) (k:=btN n) (by omega)).mp (yAB _)
 have e:((2 ^ btN n:Nat):Int)=2 ^ btN n:=by push_cast;rfl
 omega
inductive spMost68:List V->Hp->VK->XK->Prop
 | mk {M Z N R} (m d p:Nat):M=[.int (m:Nat),.int (d:Nat),.int (p:Nat)]->m <= 200->2 <= d->d <= 1000->p <= 1000->N (.int (rmost btN d p m m:Nat)) Z->spMost68 M Z N R
inductive spWalk68 (CA CR CP:Addr):List V->Hp->VK->XK->Prop
 | mk (c:Ad) (pr:List A3) (po pl tk ml wd:Addr) (pls:List Addr) (pcs:List (List Nat)) (w:Po.W) (kvs:List (List Key×V)) (m e:Nat) (post:Option (List Nat×Po.W)->List A3->Prop):M=[.ref po,.int (m:Nat),.ref c.lg,.int (e:Nat)]->SitR CA CR Z c pr->PourAt CP Z po c.a pl tk ml wd pls pcs (List.replicate pcs.length 0) w kvs->PX c po pl tk ml pls->Dw pcs.length (Po.mts 0 pcs.length) w->(∀ j,j < pcs.length->(w j (j+1)).isSome=true)->pcs.length <= 200->c.n <= 1000->tot pcs=m->m <= 500->pcs.length <= 2 ^ e->Wp c.n c.an (ZDi pcs m (List.replicate pcs.length 0) w []) pr post->(∀ pr',¬ post none pr')->(∀ os w' pr',post (some (os,w')) pr'->pcs.length=0∨w' 0 pcs.length=some none)->(∀ l H' os w' pr',Fr [po,tk,c.a,c.lg,c.tl] Z H'->Z l=none->H' l=some (.lst (nL os))->SitR CA CR H' c pr'->post (some (os,w')) pr'->N (.ref l) H')->spWalk68 CA CR CP M Z N R
theorem sum_tk:∀ {ts:List Nat} {i:Nat},i < ts.length->(tkN ts i).sum=ts.sum+1
 | t::ts,0,_=>by unfold tkN;simp;omega
 | t::ts,i+1,h=>by
  have:=sum_tk (ts:=ts) (i:=i) (by simpa using h)
  unfold tkN at this ⊢
  simp at this ⊢
  omega
theorem tk_le (h:∀ t∈ts,t <= k):∀ t∈tkN ts i,t <= k+1:=λt J=>by
 unfold tkN at J
 rcases List.mem_or_eq_of_mem_set J with z | z
 .have:=h t z;omega
 .rw [z,yBI]
  cases e:ts[i]? with
  | none=>simp
  | some u=>have:=h u (yAS e);simpa using this
theorem ZFA {α:Type}{n:Nat}{An:Nat->Nat->Nat->Bool}{P:α->List A3->Prop}:∀ {x:Pg α} {pr:List A3},Wp n An x pr P->(∀ e∈pr,e.2.1 < e.1)->Wp n An x pr λa pr'=>(∀ e∈pr',e.2.1 < e.1) /\ P a pr'
 | .ret a,pr,h,g=>⟨g,h⟩
 | .ask p q k,pr,h,g=>⟨h.1,h.2.1,h.2.2.1,ZFA h.2.2.2 λe J=>by
  rcases yAY.mp J with z | z
  .exact g e z
  .rw [yAH.mp z];exact h.1⟩
theorem ZFz {ks:List Int}(h:∀ ys∈pcs,ys.Pairwise (lx ks) /\ (∀ y∈ys,y < ks.length) /\ ys.length <= 119)(k:∀ (i j:Nat) xi xj y,i≠j->pcs[i]?=some xi->pcs[j]?=some xj->y∈xi->y∉xj)(pr:List A3):Pc False ks.length pr pcs :=
 ⟨λz=>z.elim,nd_flat (λys O=>(h ys O).1.imp λh e=>by subst e;unfold lx at h;omega) k,λx J=>by
  obtain ⟨ys,h1,h2⟩:=List.mem_flatten.mp J
  exact (h ys h1).2.1 x h2⟩
section
variable {P:Program}{w:World}{K:W.Frag}{mg:Str->Option Value}{base:Heap}{Ce Cd Cc Ca Cb:Addr}{cc_teller Pt_teller:Addr}
theorem Ob (F:Fun K "_law_teller" "_law_teller" ZBz f fd)(J:fd.code=.ref cc_teller)(C:PySem.W.CodeHd base cc_teller Pt_teller)(B:ZER mg base):FnOk P w K mg base CX0 1 f fd ["_law_log","_law_bits_here"] (ZEo Pt_teller (ZEO ZAT) "_law_teller_here" "_law_teller.<locals>._law_teller_here" (ZA1 ZAT) (ZAs ZAT) (ZAG ZAT) ["_law_bits_here","_law_log"] [1,0] 2) :=
 teller_ok F Vz J C B rfl (λ_ _=>rfl) rfl rfl (λ_ _=>rfl) rfl (by decide) (by decide) (by decide +kernel) (by decide +kernel) (by decide +kernel) (hix_of rfl) rfl
theorem clo_teller (T:Bt K mg Ce Cd Cc Ca Cb):CloOk P w K mg base 1 (ZBF):=by
 refine clo_of (k:=0) (iname:="_law_teller_here") (iq:="_law_teller.<locals>._law_teller_here") (ip:=ZA1 ZAT) (ib:=ZAs ZAT) (isc:=ZAG ZAT) csc_teller (λf vs H Q h=>?_) (λf vs H Q h=>?_) (λcl a9 pm aa c' us hl=>match us,hl with | [_,_],_=>rfl) (λg cs cl cd A outer s H vs Q hr C h=>?_)
 .obtain ⟨g,x,y,lg,bl,k,k2,i,j,bs,ws,rfl,rfl,J,a0,Y,a4,hx,hy,a1,a3,q⟩:=h
  exact ⟨_,_,rfl,J⟩
 .obtain ⟨g,x,y,lg,bl,k,k2,i,j,bs,ws,rfl,rfl,J,a0,Y,a4,hx,hy,a1,a3,q⟩:=h
  rfl
 obtain ⟨g,x,y,lg,bl,k,k2,i,j,bs,ws,eg,rfl,J,a0,Y,a4,hx,hy,a1,a3,q⟩:=h
 cases eg
 obtain ⟨a8,C2⟩:=J
 obtain rfl:=C.inj' C2
 refine ⟨_,(ZAB (ZAL (i:=2) csc_teller.nd rfl (by walk_at "o") (ZCi ZBv (ZAg ZAd (pv 3) (ZAN ZAt (ZAK ZAI rfl T.b_len PySem.boot_len (ZAA (pv 4) ZAC)) (ZAK ZAI rfl T.b_len PySem.boot_len (ZAA (pv 3) ZAC))) (λ_ _=>rfl)) ZAF (ZAU _)))
  (ZAB (ZAh (ZB4 PySem.F.plainAttrs_list PySem.F.slot_list_append PySem.F.type_list_append ZA7 (pv 4) (ZAA (ZBB (ZAA (ZAg ZA4 (pv 0) ZAF (λ_ _=>rfl)) (ZAA (ZAg ZA4 (pv 1) ZAF (λ_ _=>rfl)) (ZAA (pv 2) ZAC)))) ZAC)))
  (ZAH (ZAQ (pv 2))))),?_⟩
 walk_at "rd"
 have cells:=C.cells
 have a6:hid cl H x=some (.tup [.int k,.int i]):=ZBm cells hx (by intro ob z;cases z)
 have a5:hid cl H y=some (.tup [.int k2,.int j]):=ZBm cells hy (by intro ob z;cases z)
 have O:hid cl H lg=some (.lst ws):=ZBm cells a1 (by intro ob z;cases z)
 have U:hid cl H bl=some (.lst (bs.map V.int)):=ZBm cells a0 (by intro ob z;cases z)
 refine ⟨lg,ws,rfl,.inl (SqL.of O),bl,_,rfl,.inl (SqL.of U),?_⟩
 rw [yAA]
 have a2:ws.length % bs.length < bs.length:=Nat.mod_lt _ Y
 have em:(ws.length:Int) % (bs.length:Int)=((ws.length % bs.length:Nat):Int):=by rw [Int.natCast_emod]
 rw [em]
 refine ⟨by omega,ZAo (SqL.of U) (ZAj (v:=.int bs[ws.length % bs.length]) (by omega) (by rw [Int.toNat_natCast,yAM,yAF a2];rfl)) ?_⟩
 walk_at "rd"
 rw [show decide (bs[ws.length % bs.length]=1)=bitB bs ws.length by unfold bitB;rw [yBI,yAF a2];rfl]
 generalize bitB bs ws.length=bv at q ⊢
 refine ⟨.inl ⟨rfl,_,SqL.of O⟩,ZAz (SqT.of a6) (ZAj (by decide) rfl) (ZAz (SqT.of a5) (ZAj (by decide) rfl) ⟨ZAW (by decide),λt ht=>?_⟩)⟩
 have a7:t≠lg:=λz=>by rw [z,O] at ht;cases ht
 refine ⟨lg,ws,_,rfl,rfl,ZAM ht _ _ _ O,smallL (by omega),λhn=>?_⟩
 have nt:=hn.ne (b:=t) (by rw [ZAJ a7,ZAE])
 have nl:=hn.ne (b:=lg) ZAE
 rw [back_upd nl,back_upd nt,back_hid]
 exact q t (hid_none cells ht nt)
theorem Oq (F:FunD K "__init__" "Asker.__init__" ZCJ f fd dv)(T:Bt K mg Ce Cd Cc Ca Cb)
 :FnOk P w K mg base CX0 1 f fd ["self","row","rule","most"] (spAskerInit Ca):=by
 refine F.ok sc_Asker_init (λvs H Q E h=>?_) (λa1 A outer s H vs Q E hr h=>?_)
 .obtain ⟨x,dx,r,ru,m,xs,rfl,hx,a0,q⟩:=h
  rfl
 obtain ⟨x,dx,r,ru,m,xs,rfl,hx,a0,q⟩:=h
 refine ⟨_,(ZAB (ZAu (pv 0) (ZAi ZBR rfl T.b_list PyProof.Rows.boot_list (ZAA (pv 1) ZAC)) rfl)
  (ZAB (ZAu (pv 0) (pv 2) rfl)
  (ZAB (ZAu (pv 0) (pv 3) rfl)
  (ZAB (ZAu (pv 0) ZAF rfl)
  (ZAH (ZAu (pv 0) (ZA6 ZAC) rfl)))))),?_⟩
 walk_at "rd"
 refine ⟨r,xs,rfl,.inl (SqL.of a0),λrl U=>?_⟩
 have O:x≠rl:=ZAD hx U
 obtain ⟨H1,e1,s1,h1⟩:=newH U (.lst xs)
 rw [e1];clear e1
 refine setX (s1 _ _ hx) T.De T.Nn (by decide) λH2 x2 k2=>?_
 walk_at "rd"
 refine setX x2 T.De T.N0 ZFM λH3 x3 k3=>?_
 walk_at "rd"
 refine setX x3 T.De T.N1 ZE3 λH4 x4 k4=>?_
 walk_at "rd"
 refine setX x4 T.De T.Nu ZE2 λH5 x5 k5=>?_
 walk_at "rd"
 refine ⟨ZAW (by decide),λtl J=>?_⟩
 obtain ⟨H6,e6,s6,h6⟩:=newH J (.lst [])
 rw [e6];clear e6
 have Y:x≠tl:=ZAD x5 J
 refine setX (s6 _ _ x5) T.De T.Nz ZFl λH7 x7 k7=>?_
 have up:∀ b o,b≠x->H b=some o->H5 b=some o:=λb o n e=>by rw [k5 b n,k4 b n,k3 b n,k2 b n];exact s1 b o e
 have h5:H5 rl=some (.lst xs):=by rw [k5 rl (Ne.symm O),k4 rl (Ne.symm O),k3 rl (Ne.symm O),k2 rl (Ne.symm O)];exact h1
 refine q rl tl H7 (λb o n e=>by rw [k7 b n];exact s6 _ _ (up b o n e)) U ?_ (ZAD h5 J) ((Ins.of x7 (yAL ZFx (by decide))).congr fA_canon) (by rw [k7 rl (Ne.symm O)];exact s6 _ _ h5) (by rw [k7 tl (Ne.symm Y)];exact h6)
 cases e:H tl with
 | none=>rfl
 | some o=>rw [up tl o (Ne.symm Y) e] at J;cases J
theorem Oe (F:Fun K "many" "Asker.many" ZCI f fd)(T:Bt K mg Ce Cd Cc Ca Cb)
 :FnOk P w K mg base CX0 1 f fd ["self"] (spMany Ca):=by
 refine F.ok sc_Asker_many (λvs H Q E h=>?_) (λO A outer s H vs Q E U h=>?_)
 .obtain ⟨a,rl,ru,tl,m,n,xs,rfl,ha,J,q⟩:=h
  rfl
 obtain ⟨a,rl,ru,tl,m,n,xs,rfl,ha,J,q⟩:=h
 refine ⟨_,(ZAH (ZAQ (ZAK ZAI rfl T.b_len PySem.boot_len (ZAA (ZAP (pv 0) rfl) ZAC)))),?_⟩
 walk_at "rd"
 refine ha.get T.De T.Nn (by walk_at "lk") ⟨rl,xs,rfl,.inl (SqL.of J),q⟩
theorem O7 (F:Fun K "__init__" "AskedRule.__init__" ZBU f fd)(T:Bt K mg Ce Cd Cc Ca Cb)
 :FnOk P w K mg base CX0 1 f fd ["self","teller"] (spRuleInit Cb):=by
 refine F.ok sc_AskedRule_init (λvs H Q E h=>?_) (λU A outer s H vs Q E hr h=>?_)
 .obtain ⟨x,dx,g,rfl,J,q⟩:=h
  rfl
 obtain ⟨x,dx,g,rfl,J,q⟩:=h
 refine ⟨_,(ZAH (ZAu (pv 0) (pv 1) rfl)),?_⟩
 walk_at "rd"
 refine setX J T.Df T.Nx (by decide) λH2 O Y=>?_
 exact q H2 (λb o n e=>by rw [Y b n];exact e) ((Ins.of O (yAL ZFM (by decide))).congr λf=>by simp only [ZAb,lkc])
theorem Og (F:Fun K "before" "AskedRule.before" ZBE f fd)(T:Bt K mg Ce Cd Cc Ca Cb)
  (clo_teller:CloOk P w K mg base 1 (ZBF))
 :FnOk P w K mg base CX0 2 f fd ["self","x","y"] (spBefore Cb ZBF):=by
 refine F.ok sc_AskedRule_before (λvs H Q E h=>?_) (λa0 A outer s H vs Q E Y h=>?_)
 .obtain ⟨ru,g,x,y,rfl,J,⟨o,U,O⟩,q⟩:=h
  rfl
 obtain ⟨ru,g,x,y,rfl,J,⟨o,U,O⟩,q⟩:=h
 refine ⟨_,(ZAB (ZAL (i:=3) sc_AskedRule_before.nd rfl (by walk_at "o") (ZAP (pv 0) rfl))
  (ZAH (ZAQ (pe_callV (clo_teller.at (Y.mono (by decide))) (pv 3) (ZAA (pv 1) (ZAA (pv 2) ZAC)))))),?_⟩
 walk_at "rd"
 refine J.get T.Df T.Nx (by walk_at "lk") ⟨⟨g,o,rfl,U,O⟩,?_⟩
 exact q
theorem Op (F:Fun K "ahead" "Asker.ahead" ZB1 f fd)(T:Bt K mg Ce Cd Cc Ca Cb)
  (J:Mt P w K mg base CX0 Cb "before" 2 ["self","x","y"] (spBefore Cb ZBF))
 :FnOk P w K mg base CX0 3 f fd ["self","p","q"] (spAhead Ca Cb ZBF):=by
 refine F.ok sc_Asker_ahead (λvs H Q E h=>?_) (λad A outer s H vs Q E hr h=>?_)
 .obtain ⟨a,rl,ru,tl,n,p,q,xs,ts,x,y,rfl,ha,a1,aa,a9,a7,hx,hy,hb⟩:=h
  rfl
 obtain ⟨a,rl,ru,tl,n,p,q,xs,ts,x,y,rfl,ha,a1,aa,a9,a7,hx,hy,hb⟩:=h
 refine ⟨_,(ZAB (ZAx (PW.pt (ZDV (ZAO ZD6 (ZAP (pv 0) rfl) ZA5 (ZAU _)) (ZC7 (ZAO op_ge (ZAP (pv 0) rfl) (ZAP (pv 0) rfl) (ZAU _)))))
  (ZAH (ps_never)) ZAc)
  (ZAR
  (ZAB (ZAL (i:=3) sc_Asker_ahead.nd rfl (by walk_at "o") (ZAK (ZDg rfl) rfl T.b_max PyProof.Rows.boot_max (ZAA (pv 1) (ZAA (pv 2) ZAC))))
  (ZAB (ZAL (i:=4) sc_Asker_ahead.nd rfl (by walk_at "o") (ZAK (ZCM rfl) rfl T.b_min PyProof.Rows.boot_min (ZAA (pv 1) (ZAA (pv 2) ZAC))))
  (ZAB (ZAL (i:=5) sc_Asker_ahead.nd rfl (by walk_at "o") (ZBA J (hr.mono (by decide)) ZAS (ZAP (pv 0) rfl) (ZAA (ZAg ZAd (ZAP (pv 0) rfl) (pv 3) (λ_ _=>rfl)) (ZAA (ZAg ZAd (ZAP (pv 0) rfl) (pv 4) (λ_ _=>rfl)) ZAC))))
  (ZAR
  (ZAB (ps_fldaug (pv 0) ZAF in_add)
  (ZAB (ZAh (ZB4 PySem.F.plainAttrs_list PySem.F.slot_list_append PySem.F.type_list_append ZA7 (ZAP (pv 0) rfl) (ZAA (ZBB (ZAA (pv 3) (ZAA (pv 4) (ZAA (pv 5) ZAC)))) ZAC)))
  (ZAH (ZAQ (ZAy (ZAO ZBv (pv 1) (pv 3) (ZAU _)) (pv 5) (ZFR (pv 5))))))))))))),?_⟩
 walk_at "rd"
 obtain ⟨ab,g,x',y',e,a2,ho,a6⟩:=hb
 cases e
 refine ha.get T.De T.N1 (by walk_at "lk") ?_
 rw [if_neg (by simp)]
 refine ZAX ?_
 walk_at "rd"
 refine ⟨p,q,rfl,p,q,rfl,ha.get T.De T.N0 (by walk_at "lk") (a2.meth (by walk_at "lk") ?_)⟩
 rw [ZF0,ZE4]
 refine ha.get T.De T.Nn (by walk_at "lk") (ZAo (SqL.of a1) (ZAj (by omega) hx) ?_)
 refine ha.get T.De T.Nn (by walk_at "lk") (ZAo (SqL.of a1) (ZAj (by omega) hy) ?_)
 refine ⟨ru,g,x,y,rfl,a2,ho,rT_mono (λv H1 h=>?_) a6⟩
 obtain ⟨b,rfl,a4,a0,ac,hq⟩:=h
 have a3:tl≠a:=a4.ne a0 λ_ _ _ z=>by cases z
 refine ZAX ?_
 walk_at "rd"
 refine a4.aug T.De T.Nu (by walk_at "lk") λH2 a5 k2=>?_
 have O:=a5.congr fA_asked
 have U:H2 tl=some (.lst ts):=by rw [k2 tl a3];exact a0
 walk_at "rd"
 refine O.get T.De T.Nz (by walk_at "lk") ?_
 walk_at "rd"
 refine ⟨.inl ⟨rfl,_,SqL.of U⟩,ZAW (by decide),λt ht=>?_⟩
 have a8:t≠tl:=λz=>by rw [z,U] at ht;cases ht
 have Y:t≠a:=O.neN ht
 refine ⟨tl,ts,_,rfl,rfl,ZAM ht _ _ _ U,smallL (by omega),?_⟩
 have fin:=hq t (upd (upd H2 t (.tup [.int (max p q),.int (min p q),.bl b])) tl (.lst (ts++[.ref t]))) (by rw [<- k2 t Y];exact ht) (O.keep (by rw [ZAJ (Ne.symm a3),ZAJ (Ne.symm Y)])) ZAE (by rw [ZAJ a8,ZAE]) (λc h1 h2 h3=>by rw [ZAJ h2,ZAJ h3,k2 c h1])
 by_cases hlt:q < p
 .rw [if_pos hlt] at fin
  show (if _ then _ else _)
  rw [if_pos (by omega)]
  exact fin
 .rw [if_neg hlt] at fin
  show (if _ then _ else _)
  rw [if_neg (by omega)]
  exact fin
theorem Ov (F:FunD K "stretch_from" "stretch_from" ZBq f fd dv)(T:Bt K mg Ce Cd Cc Ca Cb)
  (J:Mt P w K mg base CX0 Ca "ahead" 3 ["self","p","q"] (spAhead Ca Cb ZBF))
  (O:Mt P w K mg base CX0 Ca "many" 1 ["self"] (spMany Ca))
 :FnOk P w K mg base CX0 4 f fd ["asker","first","end"] (spStrW Ca Cb):=by
 refine F.ok Vh (λvs H Q E h=>?_) (λa1 A outer s H vs Q E hr h=>?_)
 .obtain ⟨c,pr,first,stop,post,rfl,st,hk,w,q⟩:=h
  rfl
 obtain ⟨c,pr,first,stop,post,rfl,st,hk,w,q⟩:=h
 refine ⟨_,(ZAB (ZAL (i:=3) Vh.nd rfl (by walk_at "o") (ZAy (ZAO ZCT (pv 2) ZA5 (ZAU _)) (ZBG O (hr.mono (by decide)) ZAS (pv 0)) (pv 2)))
  (ZAR
  (ZAB (ZAL (i:=4) Vh.nd rfl (by walk_at "o") (ZAN ZAe (pv 1) ZAF))
  (ZAB (ZAx (ZAO op_ge (pv 4) (pv 3) (ZAU _))
  (ZAH (ZAQ (ZBB (ZAA (pv 4) (ZAA ZEK ZAC))))) ZAc)
  (ZAB (ZAL (i:=5) Vh.nd rfl (by walk_at "o") (ZBA J (hr.mono (by decide)) ZAS (pv 0) (ZAA (pv 4) (ZAA (pv 1) ZAC))))
  (ZAB (ZEq (i:=4) Vh.nd rfl (by walk_at "o") ZAF ZEw)
  (ZAB (ZBY PassesOwn.never (PW.pt (ZDV (ZAO ZDE (pv 4) (pv 3) (ZAU _)) (ZC7 (ZAO ZBv (ZBA J (hr.mono (by decide)) ZAS (pv 0) (ZAA (pv 4) (ZAA (ZAN ZAv (pv 4) ZAF) ZAC))) (pv 5) (ZAU _)))))
  (ZAH (ZEq (i:=4) Vh.nd rfl (by walk_at "o") ZAF ZEw)))
  (ZAH (ZAQ (ZBB (ZAA (pv 4) (ZAA (pv 5) ZAC)))))))))))),?_⟩
 walk_at "rd"
 rw [if_neg (by simp)]
 walk_at "rd"
 refine ZAX ?_
 walk_at "rd"
 unfold strP at w
 by_cases h1:first+1 < stop
 .rw [if_pos h1] at w
  rw [if_neg (by omega)]
  refine st.ha.meth (by walk_at "lk") ?_
  rw [show ((first:Int)+1)=((first+1:Nat):Int) by omega]
  refine st.ahead hk w λb H1 pr1 f1 s1 w1=>?_
  refine ZBW (λm σ H'=>∃ (k n:Nat) (v2:Option V) (pr':List A3),m=stop-k /\ σ=[some (.ref c.a),some (.int first),v2,some (.int (stop:Nat)),some (.int k),some (.bl b)] /\ first+1 < k /\ stop <= k+n /\ Fr c.S H H' /\ SitR Ca Cb H' c pr' /\ Wp c.n c.an (runP stop b n k) pr' post) ⟨_,first+2,_,_,_,rfl,rfl,by omega,by omega,f1,s1,w1⟩ ?_
  rintro m σ H' ⟨k,n,v2,pr',rfl,rfl,a0,hn,fr,s,w⟩
  walk_at "rd"
  by_cases hks:k < stop
  .rw [if_pos (by omega)]
   obtain ⟨n,rfl⟩:∃ n',n=n' + 1:=⟨n-1,by omega⟩
   rw [runP,if_pos hks] at w
   refine s.ha.meth (by walk_at "lk") ?_
   rw [show ((k:Int)-1)=((k-1:Nat):Int) by omega]
   refine s.ahead hk w λd H2 pr2 f2 s2 Y=>?_
   walk_at "rd"
   by_cases hd:d=b
   .rw [if_pos hd]
    rw [if_pos hd] at Y
    refine ZBX ?_
    walk_at "rd"
    exact ⟨stop-(k+1),by omega,k+1,n,_,_,rfl,by rw [show ((k:Int)+1)=((k+1:Nat):Int) by omega],by omega,by omega,fr.trans f2,s2,Y⟩
   .rw [if_neg hd]
    rw [if_neg hd] at Y
    exact ⟨ZAW (by decide),λt U=>q t _ (k,b) _ (fr.trans (f2.trans (ZAM U _).fr)) (s2.mono (ZAM U _)) ZAE Y⟩
  .rw [if_neg (by omega)]
   walk_at "rd"
   refine ⟨ZAW (by decide),λt U=>q t _ (k,b) _ (fr.trans (ZAM U _).fr) (s.mono (ZAM U _)) ZAE ?_⟩
   cases n with
   | zero=>exact w
   | succ n=>rw [runP,if_neg hks] at w;exact w
 .rw [if_neg h1] at w
  rw [if_pos (by omega)]
  exact ⟨ZAW (by decide),λt U=>q t _ (first+1,false) _ (ZAM U _).fr (st.mono (ZAM U _)) ZAE w⟩
theorem Oc (F:Fun K "in_turn" "in_turn" ZDR f fd)(T:Bt K mg Ce Cd Cc Ca Cb)
 :FnOk P w K mg base CX0 1 f fd ["first","beyond","falling"] (spInTurn):=by
 refine F.ok Vx (λvs H Q E h=>?_) (λY A outer s H vs Q E hr h=>?_)
 .obtain ⟨first,j,f,rfl,U,O,q⟩:=h
  rfl
 obtain ⟨first,j,f,rfl,U,O,q⟩:=h
 refine ⟨_,(ZAB (ZAL (i:=3) Vx.nd rfl (by walk_at "o") (ZAi (ZCC rfl) rfl T.b_list PyProof.Rows.boot_list (ZAA (ZAi call_rng2 rfl T.b_range PyProof.Rows.boot_range (ZAA (pv 0) (ZAA (pv 1) ZAC))) ZAC)))
  (ZAB (ZAx (ZBP (pv 2))
  (ZAH (ZAh (ZEJ PySem.F.plainAttrs_list PySem.F.slot_list_reverse PySem.F.type_list_reverse mt_reverse (pv 3)))) ZAc)
  (ZAH (ZAQ (pv 3))))),?_⟩
 walk_at "rd"
 refine ⟨first,j,rfl,λp J=>⟨p,first,j,rfl,ZAE,by omega,λl hl=>?_⟩⟩
 have S:Same H (upd (upd H p (.rng first j)) l (.lst ((ZDC (first:Int) (j:Int)).map V.int))):=((Same.refl H).new J).new hl
 have hn:H l=none:=((Same.refl H).new J).free hl
 rw [ZDU] at S ⊢
 cases f with
 | true=>
  rw [if_pos rfl]
  refine ⟨.inl ⟨rfl,_,SqL.of ZAE⟩,l,_,rfl,rfl,ZAE,?_⟩
  rw [ZDO]
  refine q l _ (((Same.refl H).new J).new hl) hn ?_
  rw [ZAE]
  unfold turnN nL
  rw [if_pos rfl,List.map_reverse]
 | false=>
  rw [if_neg (by decide)]
  refine q l _ S hn ?_
  rw [ZAE]
  rfl
theorem Om (F:Fun K "spot_of" "spot_of" ZDQ f fd)(T:Bt K mg Ce Cd Cc Ca Cb)
  (O:Mt P w K mg base CX0 Ca "ahead" 3 ["self","p","q"] (spAhead Ca Cb ZBF))
 :FnOk P w K mg base CX0 4 f fd ["asker","order","place"] (spSpotW Ca Cb):=by
 refine F.ok Vg (λvs H Q E h=>?_) (λa4 A outer s H vs Q E hr h=>?_)
 .obtain ⟨c,pr,os,pl,ol,post,rfl,st,U,Y,hk,w,q⟩:=h
  rfl
 obtain ⟨c,pr,os,pl,ol,post,rfl,st,U,Y,hk,w,q⟩:=h
 refine ⟨_,(ZAB (ZAL (i:=3) Vg.nd rfl (by walk_at "o") ZAF)
  (ZAB (ZAL (i:=4) Vg.nd rfl (by walk_at "o") (ZAK ZAI rfl T.b_len PySem.boot_len (ZAA (pv 1) ZAC)))
  (ZAB (ZBY PassesOwn.never (ZAO ZDE (pv 3) (pv 4) (ZAU _))
  (ZAB (ZAL (i:=5) Vg.nd rfl (by walk_at "o") (ZAN ZAn (ZAN ZAe (pv 3) (pv 4)) ZAF))
  (ZAH (ZAx (ZBP (ZBA O (hr.mono (by decide)) ZAS (pv 0) (ZAA (ZAg ZAd (pv 1) (pv 5) (λ_ _=>rfl)) (ZAA (pv 2) ZAC))))
  (ZAH (ZAL (i:=3) Vg.nd rfl (by walk_at "o") (ZAN ZAe (pv 5) ZAF)))
  (ZAH (ZAL (i:=4) Vg.nd rfl (by walk_at "o") (pv 5)))))))
  (ZAH (ZAQ (pv 3)))))),?_⟩
 walk_at "rd"
 refine ⟨ol,_,rfl,.inl (SqL.of U),?_⟩
 rw [yAA]
 refine ZBW (λm σ H'=>∃ (J high n:Nat) (v5:Option V) (pr':List A3),m=high-J /\ σ=[some (.ref c.a),some (.ref ol),some (.int pl),some (.int J),some (.int high),v5] /\ high <= os.length /\ high-J <= n /\ Fr c.S H H' /\ SitR Ca Cb H' c pr' /\ Wp c.n c.an (hvP os pl n J high) pr' post) ⟨_,0,os.length,os.length,_,pr,rfl,rfl,yAB _,yAB _,.refl,st,w⟩ ?_
 rintro m σ H' ⟨J,high,n,v5,pr',rfl,rfl,a3,hn,fr,s,w⟩
 walk_at "rd"
 by_cases hlt:J < high
 .rw [if_pos (by omega)]
  refine ZBX ?_
  walk_at "rd"
  obtain ⟨n,rfl⟩:∃ n',n=n' + 1:=⟨n-1,by omega⟩
  rw [hvP,if_pos hlt] at w
  have a1:J <= (J+high) / 2:=by omega
  have a2:(J+high) / 2 < high:=by omega
  have a0:((J:Int)+high) / 2=((J+high) / 2:Nat):=by omega
  refine ⟨⟨by decide,by decide⟩,?_⟩
  rw [a0]
  generalize (J+high) / 2=mi at w a1 a2
  have ho:=(ZBn (os:=os) (i:=mi) (by omega)).1
  generalize os.getD mi 0=o at ho w
  refine s.ha.meth (by walk_at "lk") ?_
  refine ZAo (SqL.of (fr _ _ Y U)) (ZDB ho) ?_
  refine s.ahead hk w λb H2 pr2 f2 s2 w2=>?_
  refine ZBV ?_
  cases b
  .rw [if_neg (by decide)]
   exact ⟨mi-J,by omega,J,mi,n,_,pr2,rfl,rfl,by omega,by omega,fr.trans f2,s2,w2⟩
  .rw [if_pos rfl]
   exact ⟨high-(mi+1),by omega,mi+1,high,n,_,pr2,rfl,rfl,by omega,by omega,fr.trans f2,s2,w2⟩
 .rw [if_neg (by omega)]
  walk_at "rd"
  refine q J H' pr' fr s ?_
  cases n with
  | zero=>exact w
  | succ n=>rw [hvP,if_neg hlt] at w;exact w
theorem Oi (F:FunD K "filled" "filled" ZD2 f fd dv)(T:Bt K mg Ce Cd Cc Ca Cb)
  (J:Fn P w K mg base CX0 "stretch_from" 4 ["asker","first","end"] (spStrW Ca Cb))
  (a0:Fn P w K mg base CX0 "in_turn" 1 ["first","beyond","falling"] (spInTurn))
  (Y:Fn P w K mg base CX0 "spot_of" 4 ["asker","order","place"] (spSpotW Ca Cb))
  (O:Mt P w K mg base CX0 Ca "many" 1 ["self"] (spMany Ca))
 :FnOk P w K mg base CX0 5 f fd ["asker","first","least","end"] (spFillW Ca Cb):=by
 refine F.ok Vj (λvs H Q E h=>?_) (λah A outer s H vs Q E hr h=>?_)
 .obtain ⟨c,pr,first,ls,stop,post,rfl,st,hk,hf,hs,w,q⟩:=h
  rfl
 obtain ⟨c,pr,first,ls,stop,post,rfl,st,hk,hf,hs,w,q⟩:=h
 refine ⟨_,(ZAB (ZAL (i:=4) Vj.nd rfl (by walk_at "o") (ZAy (ZAO ZCT (pv 3) ZA5 (ZAU _)) (ZBG O (hr.mono (by decide)) ZAS (pv 0)) (pv 3)))
  (ZAR
  (ZAB (ZAL (i:=5) Vj.nd rfl (by walk_at "o") (ZAl J (hr.mono (by decide)) rfl ZAS (ZAA (pv 0) (ZAA (pv 1) (ZAA (pv 4) ZAC)))))
  (ZAB (ZAL (i:=6) Vj.nd rfl (by walk_at "o") (ZAg ZA4 (pv 5) ZAF (λ_ _=>rfl)))
  (ZAB (ZAL (i:=7) Vj.nd rfl (by walk_at "o") (ZAl a0 (hr.mono (by decide)) rfl ZAS (ZAA (pv 1) (ZAA (pv 6) (ZAA (ZAg ZA4 (pv 5) ZAF (λ_ _=>rfl)) ZAC)))))
  (ZAR
  (ZAB (ZBk PassesOwn.never rfl (pi_range2 rfl T.b_range (ZAA (pv 6) (ZAA (ZAK (ZCM rfl) rfl T.b_min PyProof.Rows.boot_min (ZAA (ZAN ZAe (pv 1) (pv 2)) (ZAA (pv 4) ZAC))) ZAC))) (ZAY (i:=8) Vj.nd rfl (by walk_at "o"))
  (ZAH (ZAh (ZB4 PySem.F.plainAttrs_list PySem.F.slot_list_insert PySem.F.type_list_insert mt_insert (pv 7) (ZAA (ZAl Y (hr.mono (by decide)) rfl ZAS (ZAA (pv 0) (ZAA (pv 7) (ZAA (pv 8) ZAC)))) (ZAA (pv 8) ZAC))))))
  (ZAH (ZAQ (ZBB (ZAA (pv 6) (ZAA (pv 7) ZAC)))))))))))),?_⟩
 walk_at "rd"
 rw [if_neg (by simp)]
 walk_at "rd"
 refine ZAX ?_
 walk_at "rd"
 refine ⟨c,pr,first,stop,_,rfl,st,hk,(w.bind).also (strP_al2 hf),λt H1 r pr1 a7 a3 ht hw=>?_⟩
 obtain ⟨⟨ac,a9⟩,w1⟩:=hw
 obtain ⟨j,f⟩:=r
 dsimp only at ac a9 ht w1
 refine ZAz (SqT.of ht) (ZAj (by decide) rfl) ?_
 refine ZAz (SqT.of ht) (ZAj (by decide) rfl) ⟨first,j,f,rfl,by omega,by omega,λol H2 s2 a2 ad=>?_⟩
 have st2:=a3.mono s2
 have a5:=a3.off a2
 have a8:H ol=none:=a3.free a7 a2
 rw [turn_eq] at w1
 refine ZAX ?_
 walk_at "rd"
 refine ⟨_,_,rfl,?_⟩
 rw [ZE4,show min ((first:Int)+ls) stop=(min (first+ls) stop:Nat) by omega]
 have af:=turnN_len first j f
 refine forR2_of (by omega) (ZDc (λi σ H'=>∃ (v3 v8:Option V) (os:List Nat) (pr':List A3),σ=[some (.ref c.a),some (.int first),some (.int ls),v3,some (.int stop),some (.ref t),some (.int j),some (.ref ol),v8] /\ H' ol=some (.lst (nL os)) /\ os.length=j+i-first /\ Fr c.S H H' /\ SitR Ca Cb H' c pr' /\ Wp c.n c.an (putP ZE1 (min (first+ls) stop-j-i) (j+i) os) pr' λab pr2=>post (j,ab) pr2) ⟨_,_,_,_,rfl,ad,by omega,a7.trans s2.fr,st2,w1.bind⟩ ?_ ?_)
 .rintro i σ H' hi ⟨v3,v8,os,pr',rfl,U,ho,fr,st',w'⟩
  walk_at "rd"
  have ag:j+i < min (first+ls) stop:=by omega
  rw [show min (first+ls) stop-j-i=(min (first+ls) stop-j-(i+1))+1 by omega,putP] at w'
  rw [show ((j:Int)+i)=((j+i:Nat):Int) by omega]
  refine ⟨.inl ⟨rfl,_,SqL.of U⟩,c,pr',os,j+i,ol,_,rfl,st',U,Ad.SA a5,hk,(w'.bind).also (spotP_le os (j+i)),λr H3 aa a6 st3 hp=>?_⟩
  obtain ⟨ae,w3⟩:=hp
  have a1:=a6 _ _ (Ad.SA a5) U
  refine ⟨ol,_,_,_,rfl,rfl,a1,ZAk (by rw [yAA];omega),by omega,?_⟩
  rw [insV_nL ae]
  refine ⟨_,_,insN os r (j+i),aa,rfl,ZAE,?_,λb o n h=>?_,st3.upd a1 a5,w3⟩
  .have:=insN_perm (os:=os) (r:=r) (x:=j+i) |>.length_eq
   rw [this,yAC,yBD];omega
  .rw [ZAJ (ZAD h a8)]
   exact a6 _ _ n (fr _ _ n h)
 rintro σ H' ⟨v3,v8,os,pr',rfl,U,ho,fr,st',w'⟩
 walk_at "rd"
 rw [show min (first+ls) stop-j-((min (first+ls) stop:Nat)-(j:Int)).toNat=0 by omega] at w'
 refine ⟨ZAW (by decide),λt2 a4=>?_⟩
 exact q t2 ol _ (j,os) pr' (fr.trans (ZAM a4 _).fr) a8 (st'.mono (ZAM a4 _)) ZAE (ZAM a4 _ _ _ U) w'
theorem Oah (F:Fun K "leap" "leap" ZFH f fd)(T:Bt K mg Ce Cd Cc Ca Cb)
  (J:Mt P w K mg base CX0 Ca "ahead" 3 ["self","p","q"] (spAhead Ca Cb ZBF))
 :FnOk P w K mg base CX0 4 f fd ["asker","order","first","place"] (spLeapW Ca Cb):=by
 refine F.ok Vc (λvs H Q E h=>?_) (λa8 A outer s H vs Q E hr h=>?_)
 .obtain ⟨c,pr,ol,os,f,pl,post,rfl,st,a0,Y,a4,hk,w,q⟩:=h
  rfl
 obtain ⟨c,pr,ol,os,f,pl,post,rfl,st,a0,Y,a4,hk,w,q⟩:=h
 refine ⟨_,(ZAB (ZAL (i:=4) Vc.nd rfl (by walk_at "o") (ZAN ZAv (pv 2) ZAF))
  (ZAB (ZAL (i:=5) Vc.nd rfl (by walk_at "o") (pv 2))
  (ZAB (ZAL (i:=6) Vc.nd rfl (by walk_at "o") ZAF)
  (ZAB (ZBY PassesOwn.never (PW.pt (ZDV (ZAO ZDE (pv 5) (ZAK ZAI rfl T.b_len PySem.boot_len (ZAA (pv 1) ZAC)) (ZAU _)) (ZC7 (ZBP (ZBA J (hr.mono (by decide)) ZAS (pv 0) (ZAA (ZAg ZAd (pv 1) (pv 5) (λ_ _=>rfl)) (ZAA (pv 3) ZAC)))))))
  (ZAB (ZAL (i:=4) Vc.nd rfl (by walk_at "o") (pv 5))
  (ZAB (ZEq (i:=5) Vc.nd rfl (by walk_at "o") (pv 6) ZEw)
  (ZAH (ZAL (i:=6) Vc.nd rfl (by walk_at "o") (ZAN ZBg (pv 6) ZAF))))))
  (ZAB (ZAL (i:=5) Vc.nd rfl (by walk_at "o") (ZAK (ZCM rfl) rfl T.b_min PyProof.Rows.boot_min (ZAA (pv 5) (ZAA (ZAK ZAI rfl T.b_len PySem.boot_len (ZAA (pv 1) ZAC)) ZAC))))
  (ZAR
  (ZAB (ZBY PassesOwn.never (ZAO ZDk (ZAN ZAv (pv 5) (pv 4)) ZAF (ZAU _))
  (ZAB (ZAL (i:=7) Vc.nd rfl (by walk_at "o") (ZAN ZAn (ZAN ZAe (pv 4) (pv 5)) ZAF))
  (ZAH (ZAx (ZBP (ZBA J (hr.mono (by decide)) ZAS (pv 0) (ZAA (ZAg ZAd (pv 1) (pv 7) (λ_ _=>rfl)) (ZAA (pv 3) ZAC))))
  (ZAH (ZAL (i:=4) Vc.nd rfl (by walk_at "o") (pv 7)))
  (ZAH (ZAL (i:=5) Vc.nd rfl (by walk_at "o") (pv 7)))))))
  (ZAH (ZAQ (ZAN ZAv (pv 5) (pv 2))))))))))),?_⟩
 walk_at "rd"
 have hd:(os.drop f).length=os.length-f:=yAX ..
 apply once4 (λ(lo hi:Nat) (_:Int) (H':Hp)=>∃ (n:Nat) (pr':List A3),hi-lo <= n /\ hi <= (os.drop f).length /\ Fr c.S H H' /\ SitR Ca Cb H' c pr' /\ Wp c.n c.an (binP (os.drop f) pl n lo hi) pr' post)
 .intro U
  refine ZBW (λm σ H'=>∃ (lo hi n:Nat) (pr':List A3),m=os.length+1-hi /\ σ=[some (.ref c.a),some (.ref ol),some (.int f),some (.int pl),some (.int ((f:Int)+lo-1)),some (.int ((f:Int)+hi)),some (.int ((hi:Int)+1)),none] /\ lo <= hi /\ (os.drop f).length <= n+hi /\ Fr c.S H H' /\ SitR Ca Cb H' c pr' /\ Wp c.n c.an (galP (os.drop f) pl n lo hi) pr' λr pr2=>Wp c.n c.an (binP (os.drop f) pl (os.drop f).length r.1 (min r.2 (os.drop f).length)) pr2 post) ⟨_,0,0,_,pr,rfl,by rw [Int.natCast_zero,Int.add_zero,Int.zero_add],yAB _,Nat.le_add_right _ _,.refl,st,w.bind⟩ ?_
  rintro m σ H' ⟨lo,hi,n,pr',rfl,rfl,a7,hn,fr,s,w⟩
  walk_at "rd"
  have O:=fr _ _ Y a0
  refine ⟨ol,_,rfl,.inl (SqL.of O),?_⟩
  rw [yAA]
  by_cases hf:hi < (os.drop f).length
  .rw [if_pos (by omega)]
   have ho:=get_drop hf
   obtain ⟨n,rfl⟩:∃ n',n=n' + 1:=⟨n-1,by omega⟩
   rw [galP,if_pos hf] at w
   generalize (os.drop f).getD hi 0=o at ho w
   refine s.ha.meth (by walk_at "lk") ?_
   refine ZAo (SqL.of O) (by rw [show (f:Int)+hi=((f+hi:Nat):Int) by omega];exact ZDB ho) ?_
   refine s.ahead hk w λb H2 pr2 f2 s2 w2=>?_
   refine ZBV ?_
   cases b
   .rw [if_neg (by decide)]
    refine ⟨ol,_,rfl,.inl (SqL.of (f2 _ _ Y O)),_,_,rfl,?_⟩
    rw [yAA,ZE4,show min ((f:Int)+hi) os.length=(f:Int)+(hi:Nat) by omega]
    have w3:Wp c.n c.an (binP (os.drop f) pl (os.drop f).length lo (min hi (os.drop f).length)) pr2 post:=w2
    rw [yBW (by omega)] at w3
    generalize (hi:Int)+1=wd
    exact U lo hi wd H2 ⟨_,pr2,by omega,by omega,fr.trans f2,s2,w3⟩
   .rw [if_pos rfl]
    refine ZBX ?_
    walk_at "rd"
    refine ⟨.inr ⟨by decide,by decide⟩,os.length+1-(2 * hi+1),by omega,hi+1,2 * hi+1,n,pr2,rfl,?_,by omega,by omega,fr.trans f2,s2,w2⟩
    rw [show (f:Int)+((hi+1:Nat):Int)-1=f+hi by omega,show (f:Int)+((2 * hi+1:Nat):Int)=f+hi+(hi+1) by omega,show ((2 * hi+1:Nat):Int)+1=((hi:Int)+1) * 2 by omega]
  .rw [if_neg (by omega)]
   refine ⟨ol,_,rfl,.inl (SqL.of O),_,_,rfl,?_⟩
   have w3:Wp c.n c.an (binP (os.drop f) pl (os.drop f).length lo (min hi (os.drop f).length)) pr' post:=by
    cases n with
    | zero=>exact w
    | succ n=>rw [galP,if_neg hf] at w;exact w
   rw [Nat.min_eq_right (by omega)] at w3
   rw [yAA,ZE4,show min ((f:Int)+hi) os.length=(f:Int)+((os.drop f).length:Nat) by omega]
   generalize (hi:Int)+1=wd
   have e5:Wp c.n c.an (binP (os.drop f) pl (os.drop f).length lo (os.drop f).length) pr' post /\ (os.drop f).length <= (os.drop f).length:=⟨w3,yAB _⟩
   generalize hdl:(os.drop f).length=h2 at e5 ⊢
   rw [hdl] at hd
   exact U lo h2 wd H' ⟨h2,pr',by omega,by omega,fr,s,e5.1⟩
 rintro lo hi wd H1 ⟨n,pr1,hn,a1,a2,a3,w1⟩
 refine ZAX ?_
 walk_at "rd"
 refine ZBW (λm σ H'=>∃ (lo hi n:Nat) (v7:Option V) (pr':List A3),m=hi-lo /\ σ=[some (.ref c.a),some (.ref ol),some (.int f),some (.int pl),some (.int ((f:Int)+lo-1)),some (.int ((f:Int)+hi)),some (.int wd),v7] /\ hi-lo <= n /\ hi <= (os.drop f).length /\ Fr c.S H H' /\ SitR Ca Cb H' c pr' /\ Wp c.n c.an (binP (os.drop f) pl n lo hi) pr' post) ⟨_,lo,hi,n,_,pr1,rfl,rfl,hn,a1,a2,a3,w1⟩ ?_
 clear hn a1 a2 a3 w1
 rintro m σ H' ⟨lo,hi,n,v7,pr',rfl,rfl,hn,a1,fr,s,w⟩
 walk_at "rd"
 by_cases hlt:lo < hi
 .rw [if_pos (by omega)]
  refine ZBX ?_
  walk_at "rd"
  refine ⟨⟨by decide,by decide⟩,?_⟩
  obtain ⟨n,rfl⟩:∃ n',n=n' + 1:=⟨n-1,by omega⟩
  rw [binP,if_pos hlt] at w
  have a5:lo <= (lo+hi-1) / 2:=by omega
  have a6:(lo+hi-1) / 2 < hi:=by omega
  rw [show ((f:Int)+lo-1+(f+hi)) / 2=((f+(lo+hi-1) / 2:Nat):Int) by omega]
  generalize (lo+hi-1) / 2=mi at w a5 a6
  have ho:=get_drop (os:=os) (f:=f) (i:=mi) (by omega)
  generalize (os.drop f).getD mi 0=o at ho w
  have O:=fr _ _ Y a0
  refine s.ha.meth (by walk_at "lk") ?_
  refine ZAo (SqL.of O) (ZDB ho) ?_
  refine s.ahead hk w λb H2 pr2 f2 s2 w2=>?_
  refine ZBV ?_
  cases b
  .rw [if_neg (by decide)]
   exact ⟨mi-lo,by omega,lo,mi,n,_,pr2,rfl,by rw [show ((f+mi:Nat):Int)=(f:Int)+mi by omega],by omega,by omega,fr.trans f2,s2,w2⟩
  .rw [if_pos rfl]
   exact ⟨hi-(mi+1),by omega,mi+1,hi,n,_,pr2,rfl,by rw [show (f:Int)+((mi+1:Nat):Int)-1=((f+mi:Nat):Int) by omega],by omega,by omega,fr.trans f2,s2,w2⟩
 .rw [if_neg (by omega)]
  walk_at "rd"
  have w4:post hi pr':=by
   cases n with
   | zero=>exact w
   | succ n=>rw [binP,if_neg hlt] at w;exact w
  rw [show (f:Int)+hi-f=((hi:Nat):Int) by omega]
  exact q hi H' pr' fr s w4
theorem Oae (F:Fun K "__init__" "Join.__init__" ZCf f fd)(T:Bt K mg Ce Cd Cc Ca Cb)
 :FnOk P w K mg base CX0 1 f fd ["self","asker","left","right"] (spJInit Ce):=by
 refine F.ok sc_Join_init (λvs H Q E h=>?_) (λaf A outer s H vs Q E hr h=>?_)
 .obtain ⟨x,dx,ak,al,ar,ls,rs,rfl,hx,U,a1,q⟩:=h
  rfl
 obtain ⟨x,dx,ak,al,ar,ls,rs,rfl,hx,U,a1,q⟩:=h
 refine ⟨_,(ZAB (ZAu (pv 0) (pv 1) rfl)
  (ZAB (ZAu (pv 0) (ZBB (ZAA (ZAi ZBR rfl T.b_list PyProof.Rows.boot_list (ZAA (pv 2) ZAC)) (ZAA (ZAi ZBR rfl T.b_list PyProof.Rows.boot_list (ZAA (pv 3) ZAC)) ZAC))) rfl)
  (ZAB (ZAu (pv 0) (ZA6 (ZAA ZAF (ZAA ZAF ZAC))) rfl)
  (ZAH (ZAu (pv 0) (ZA6 ZAC) rfl))))),?_⟩
 walk_at "rd"
 have ac:al≠x:=λz=>by rw [z,hx] at U;cases U
 have aa:ar≠x:=λz=>by rw [z,hx] at a1;cases a1
 refine setX hx T.Dc T.Nr (by decide) λH2 x2 k2=>?_
 walk_at "rd"
 refine ⟨al,_,rfl,.inl (SqL.of (by rw [k2 al ac];exact U)),λla a4=>?_⟩
 obtain ⟨H3,e3,s3,h3⟩:=newH a4 (.lst (nL ls))
 rw [e3];clear e3
 refine ⟨ar,_,rfl,.inl (SqL.of (s3 _ _ (by rw [k2 ar aa];exact a1))),λra O=>?_⟩
 obtain ⟨H4,e4,s4,h4⟩:=newH O (.lst (nL rs))
 rw [e4];clear e4
 refine ⟨ZAW (by decide),λsd a0=>?_⟩
 obtain ⟨H5,e5,s5,h5⟩:=newH a0 (.tup [.ref la,.ref ra])
 rw [e5];clear e5
 have x5:=s5 _ _ (s4 _ _ (s3 _ _ x2))
 refine setX x5 T.Dc T.Nm ZFM λH6 x6 k6=>?_
 walk_at "rd"
 refine ⟨ZAW (by decide),λtk htk=>?_⟩
 obtain ⟨H7,e7,s7,h7⟩:=newH htk (.lst [.int 0,.int 0])
 rw [e7];clear e7
 have x7:=s7 _ _ x6
 refine setX x7 T.Dc T.Nf ZE3 λH8 x8 k8=>?_
 walk_at "rd"
 refine ⟨ZAW (by decide),λpc J=>?_⟩
 obtain ⟨H9,e9,s9,h9⟩:=newH J (.lst [])
 rw [e9];clear e9
 have x9:=s9 _ _ x8
 refine setX x9 T.Dc T.Nv ZE2 λHA xA kA=>?_
 have Y:la≠x:=Ne.symm (ZAD x2 a4)
 have a3:ra≠x:=Ne.symm (ZAD (s3 _ _ x2) O)
 have a6:sd≠x:=Ne.symm (ZAD (s4 _ _ (s3 _ _ x2)) a0)
 have a5:tk≠x:=Ne.symm (ZAD x6 htk)
 have a7:pc≠x:=Ne.symm (ZAD x8 J)
 have a2:∀ b o,b≠x->H5 b=some o->HA b=some o:=λb o n e=>by
  rw [kA b n]
  refine s9 _ _ ?_
  rw [k8 b n]
  refine s7 _ _ ?_
  rw [k6 b n]
  exact e
 have up:∀ b o,b≠x->H b=some o->H5 b=some o:=λb o n e=>s5 _ _ (s4 _ _ (s3 _ _ (by rw [k2 b n];exact e)))
 have a9:=a2 la _ Y (s5 _ _ (s4 _ _ h3))
 have ab:=a2 ra _ a3 (s5 _ _ h4)
 have a8:=a2 sd _ a6 h5
 have g8:H8 tk=some (.lst [.int 0,.int 0]):=by rw [k8 tk a5];exact h7
 have ae:HA tk=some (.lst [.int 0,.int 0]):=by rw [kA tk a5];exact s9 _ _ g8
 have ad:HA pc=some (.lst []):=by rw [kA pc a7];exact h9
 have f6:∀ b,b≠x->H6 b=none->H b=none:=λb n e=>by
  cases eb:H b with
  | none=>rfl
  | some o=>have:=up b o n eb;rw [k6 b n,this] at e;cases e
 have f8:∀ b,b≠x->H8 b=none->H b=none:=λb n e=>f6 b n (s7.free (by rw [<- k8 b n];exact e))
 have l5:H6 la=some (.lst (nL ls)):=by rw [k6 la Y];exact s5 _ _ (s4 _ _ h3)
 have r5:H6 ra=some (.lst (nL rs)):=by rw [k6 ra a3];exact s5 _ _ h4
 have l8:H8 la=some (.lst (nL ls)):=by rw [k8 la Y];exact s7 _ _ l5
 have r8:H8 ra=some (.lst (nL rs)):=by rw [k8 ra a3];exact s7 _ _ r5
 refine q sd la ra tk pc HA (λb o n e=>a2 b o n (up b o n e)) ?_ ?_ ?_ (f6 tk a5 htk) (f8 pc a7 J) ⟨(Ins.of xA (yAL ZFl (by decide))).congr λf=>by simp only [ZAb,lkc],a8,a9,ab,ae,ad,ZAD g8 J,ZAD l5 htk,ZAD l8 J,ZAD r5 htk,ZAD r8 J⟩
 .cases eb:H sd with
  | none=>rfl
  | some o=>have:=s4 _ _ (s3 _ _ (by rw [k2 sd a6];exact eb));rw [this] at a0;cases a0
 .cases eb:H la with
  | none=>rfl
  | some o=>rw [k2 la Y,eb] at a4;cases a4
 .cases eb:H ra with
  | none=>rfl
  | some o=>have:=s3 ra o (by rw [k2 ra a3];exact eb);rw [this] at O;cases O
theorem Oj (F:Fun K "has_more" "Join.has_more" ZBe f fd)(T:Bt K mg Ce Cd Cc Ca Cb)
 :FnOk P w K mg base CX0 1 f fd ["self","side"] (spHasMore Ce):=by
 refine F.ok sc_Join_has_more (λvs H Q E h=>?_) (λJ A outer s H vs Q E O h=>?_)
 .obtain ⟨b,jn,ak,sd,ma,ta,tk,pc,ms,ts,i,j,dn,rfl,js,q⟩:=h
  rfl
 obtain ⟨b,jn,ak,sd,ma,ta,tk,pc,ms,ts,i,j,dn,rfl,js,q⟩:=h
 refine ⟨_,(ZAH (ZAQ (ZCi ZDE (ZAg ZAd (ZAP (pv 0) rfl) (pv 1) (λ_ _=>rfl)) (ZAK ZAI rfl T.b_len PySem.boot_len (ZAA (ZAg ZA4 (ZAP (pv 0) rfl) (pv 1) (λ_ _=>rfl)) ZAC)) (ZAU _)))),?_⟩
 walk_at "rd"
 refine js.hj.get T.Dc T.Nf (by walk_at "lk") (ZAo (SqL.of js.htk) ZCS ?_)
 refine js.hj.get T.Dc T.Nm (by walk_at "lk") (ZAz (SqT.of js.hsd) ZCS ⟨ma,_,rfl,.inl (SqL.of js.hma),?_⟩)
 rw [yAA]
 refine ZC9 ?_
 have e:decide ((i:Int) < ms.length)=decide (i < ms.length):=by rw [decide_eq_decide];omega
 rw [<- e] at q
 exact q
theorem O9 (F:Fun K "front" "Join.front" ZCH f fd)(T:Bt K mg Ce Cd Cc Ca Cb)
 :FnOk P w K mg base CX0 1 f fd ["self","side"] (spFront Ce):=by
 refine F.ok sc_Join_front (λvs H Q E h=>?_) (λO A outer s H vs Q E U h=>?_)
 .obtain ⟨b,jn,ak,sd,ma,ta,tk,pc,ms,ts,i,j,dn,x,rfl,js,J,q⟩:=h
  rfl
 obtain ⟨b,jn,ak,sd,ma,ta,tk,pc,ms,ts,i,j,dn,x,rfl,js,J,q⟩:=h
 refine ⟨_,(ZAH (ZAQ (ZAg ZAd (ZAg ZA4 (ZAP (pv 0) rfl) (pv 1) (λ_ _=>rfl)) (ZAg ZAd (ZAP (pv 0) rfl) (pv 1) (λ_ _=>rfl)) (λ_ _=>rfl)))),?_⟩
 walk_at "rd"
 refine js.hj.get T.Dc T.Nm (by walk_at "lk") (ZAz (SqT.of js.hsd) ZCS ?_)
 refine js.hj.get T.Dc T.Nf (by walk_at "lk") (ZAo (SqL.of js.htk) ZCS ?_)
 exact ZAo (SqL.of js.hma) (ZDB J) q
theorem O0 (F:Fun K "take_on" "Join.take_on" ZBs f fd)(T:Bt K mg Ce Cd Cc Ca Cb)
 :FnOk P w K mg base CX0 1 f fd ["self","side","more"] (spTakeOn Ce):=by
 refine F.ok sc_Join_take_on (λvs H Q E h=>?_) (λa0 A outer s H vs Q E hr h=>?_)
 .obtain ⟨b,jn,ak,sd,ma,ta,tk,pc,ms,ts,i,j,dn,m,rfl,js,hm,hl,q⟩:=h
  rfl
 obtain ⟨b,jn,ak,sd,ma,ta,tk,pc,ms,ts,i,j,dn,m,rfl,js,hm,hl,q⟩:=h
 refine ⟨_,(ZAB (ZAL (i:=3) sc_Join_take_on.nd rfl (by walk_at "o") (ZAg ZAd (ZAP (pv 0) rfl) (pv 1) (λ_ _=>rfl)))
  (ZAB (ZAh (ZB4 PySem.F.plainAttrs_list PySem.F.slot_list_extend PySem.F.type_list_extend mt_extend (ZAP (pv 0) rfl) (ZAA (ZCv ZDP (ZAg ZA4 (ZAP (pv 0) rfl) (pv 1) (λ_ _=>rfl)) (ZB3 (pv 3)) (ZB3 (ZAN ZAe (pv 3) (pv 2)))) ZAC)))
  (ZAH (ZFN (ZAN ZAe (pv 3) (pv 2)) (ZFP (ZAP (pv 0) rfl) (pv 1) ZDu))))),?_⟩
 walk_at "rd"
 refine js.hj.get T.Dc T.Nf (by walk_at "lk") (ZAo (SqL.of js.htk) ZCS ?_)
 walk_at "rd"
 refine js.hj.get T.Dc T.Nv (by walk_at "lk") ?_
 walk_at "rd"
 refine ⟨.inl ⟨rfl,_,SqL.of js.hpc⟩,?_⟩
 refine js.hj.get T.Dc T.Nm (by walk_at "lk") (ZAz (SqT.of js.hsd) ZCS ?_)
 walk_at "rd"
 refine ZEH (SqL.of js.hma) λc hc=>?_
 have ec:cutV (nL ms) (some (i:Int)) (some ((i:Int)+m))=nL ((ms.drop i).take m):=by
  unfold cutV
  rw [show (i:Int)+m=((i+m:Nat):Int) by omega,HT.sIx_nat,HT.sIx_nat,yAA,yBW (show i <= ms.length by omega),yBW (show i+m <= ms.length by omega),Nat.add_sub_cancel_left]
  unfold nL
  rw [<- yCR,<- yCQ]
 rw [ec]
 obtain ⟨H1,Y,s1,h1⟩:=newH hc (.lst (nL ((ms.drop i).take m)))
 rw [Y];clear Y
 have O:=js.mono s1
 refine ⟨pc,c,_,_,rfl,rfl,O.hpc,h1,ZAW (by rw [yAA,yAA,yAP,yAX];omega),?_⟩
 have U:tk≠pc:=js.ne.1
 have J:JS Ce (upd H1 pc (.lst (nL dn++nL ((ms.drop i).take m)))) b jn ak sd ma ta tk pc ms ts i j (dn++(ms.drop i).take m):=O.keep (Fr.upd (yAE _ yAD)) (by rw [ZAJ U];exact O.htk) (by rw [ZAE];unfold nL;rw [yAK])
 have f1:Fr [tk,pc] H (upd H1 pc (.lst (nL dn++nL ((ms.drop i).take m)))):=s1.fr.trans (Fr.upd (yAE _ yAD))
 generalize upd H1 pc (.lst (nL dn++nL ((ms.drop i).take m)))=H2 at J f1 ⊢
 refine J.hj.get T.Dc T.Nf (by walk_at "lk") ?_
 walk_at "rd"
 refine ⟨tk,_,_,_,rfl,rfl,J.htk,ZFV (by cases b <;> decide) (by rw [pk_len];cases b <;> decide),?_⟩
 rw [pk_set,show (i:Int)+m=((i+m:Nat):Int) by omega]
 refine q _ (f1.trans (Fr.upd yAD)) (J.keep (Fr.upd yAD) ZAE (by rw [ZAJ (Ne.symm U)];exact J.hpc))
theorem Oaw (F:Fun K "take_rest" "Join.take_rest" ZBT f fd)(T:Bt K mg Ce Cd Cc Ca Cb)
  (J:Mt P w K mg base CX0 Ce "take_on" 1 ["self","side","more"] (spTakeOn Ce))
 :FnOk P w K mg base CX0 2 f fd ["self","side"] (spTakeRest Ce):=by
 refine F.ok sc_Join_take_rest (λvs H Q E h=>?_) (λa0 A outer s H vs Q E Y h=>?_)
 .obtain ⟨b,jn,ak,sd,ma,ta,tk,pc,ms,ts,i,j,dn,rfl,js,hi,hl,q⟩:=h
  rfl
 obtain ⟨b,jn,ak,sd,ma,ta,tk,pc,ms,ts,i,j,dn,rfl,js,hi,hl,q⟩:=h
 refine ⟨_,(ZAH (ZAh (ZBA J (Y.mono (by decide)) ZAS (pv 0) (ZAA (pv 1) (ZAA (ZAN ZAv (ZAK ZAI rfl T.b_len PySem.boot_len (ZAA (ZAg ZA4 (ZAP (pv 0) rfl) (pv 1) (λ_ _=>rfl)) ZAC)) (ZAg ZAd (ZAP (pv 0) rfl) (pv 1) (λ_ _=>rfl))) ZAC))))),?_⟩
 walk_at "rd"
 refine js.hj.meth (by walk_at "lk") ?_
 refine js.hj.get T.Dc T.Nm (by walk_at "lk") (ZAz (SqT.of js.hsd) ZCS ⟨ma,_,rfl,.inl (SqL.of js.hma),?_⟩)
 refine js.hj.get T.Dc T.Nf (by walk_at "lk") (ZAo (SqL.of js.htk) ZCS ?_)
 walk_at "rd"
 rw [yAA,show (ms.length:Int)-i=((ms.length-i:Nat):Int) by omega]
 refine ⟨b,jn,ak,sd,ma,ta,tk,pc,ms,ts,i,j,dn,ms.length-i,rfl,js,by omega,hl,λH' U O=>?_⟩
 rw [show i+(ms.length-i)=ms.length by omega,yBL (by rw [yAX];exact yAB _)] at O
 exact q H' U O
theorem Oaf (F:Fun K "win" "Join.win" ZC5 f fd)(T:Bt K mg Ce Cd Cc Ca Cb)
  (O:Mt P w K mg base CX0 Ce "take_on" 1 ["self","side","more"] (spTakeOn Ce))
  (U:Mt P w K mg base CX0 Ca "ahead" 3 ["self","p","q"] (spAhead Ca Cb ZBF))
  (J:Mt P w K mg base CX0 Ce "front" 1 ["self","side"] (spFront Ce))
 :FnOk P w K mg base CX0 4 f fd ["self"] (spWinW Ca Cb Ce):=by
 refine F.ok sc_Join_win (λvs H Q E h=>?_) (λa3 A outer s H vs Q E hr h=>?_)
 .obtain ⟨c,pr,jn,sd,la,ra,tk,pc,ls,rs,dn,i,j,x,y,k,post,rfl,st,js,nx,hx,hy,hk,a1,a2,w,q⟩:=h
  rfl
 obtain ⟨c,pr,jn,sd,la,ra,tk,pc,ls,rs,dn,i,j,x,y,k,post,rfl,st,js,nx,hx,hy,hk,a1,a2,w,q⟩:=h
 refine ⟨_,(ZAB (ZAL (i:=1) sc_Join_win.nd rfl (by walk_at "o") (ZAy (ZBP (ZBA U (hr.mono (by decide)) ZAS (ZAP (pv 0) rfl) (ZAA (ZBA J (hr.mono (by decide)) ZAS (pv 0) (ZAA (ZBL rfl T.c_LEFT) ZAC)) (ZAA (ZBA J (hr.mono (by decide)) ZAS (pv 0) (ZAA (ZBL rfl T.c_RIGHT) ZAC)) ZAC)))) (ZBL rfl T.c_LEFT) (ZBL rfl T.c_RIGHT)))
  (ZAB (ZAh (ZBA O (hr.mono (by decide)) ZAS (pv 0) (ZAA (pv 1) (ZAA ZAF ZAC))))
  (ZAH (ZAQ (pv 1))))),?_⟩
 walk_at "rd"
 refine js.hj.get T.Dc T.Nr (by walk_at "lk") (st.ha.meth (by walk_at "lk") ?_)
 refine js.hj.meth (by walk_at "lk") ⟨true,jn,c.a,sd,la,ra,tk,pc,ls,rs,i,j,dn,x,rfl,js,hx,?_⟩
 refine js.hj.meth (by walk_at "lk") ⟨false,jn,c.a,sd,ra,la,tk,pc,rs,ls,j,i,dn,y,rfl,js.swap,hy,?_⟩
 refine st.ahead hk w λb H2 pr2 f2 s2 w2=>?_
 have Y:=js.frS nx f2
 have hi:=(yAO.mp hx).1
 have hj:=(yAO.mp hy).1
 refine ZBV ?_
 cases b
 .rw [if_neg (by decide)]
  walk_at "rd"
  refine Y.hj.meth (by walk_at "lk") ⟨false,jn,c.a,sd,ra,la,tk,pc,rs,ls,j,i,dn,1,rfl,Y.swap,by omega,by omega,λH3 f3 a0=>?_⟩
  rw [ZDt hy] at a0
  exact q false H3 pr2 ((fr5a f2).trans (fr5b f3)) (s2.tkpc Y nx f3) a0.swap w2
 .rw [if_pos rfl]
  walk_at "rd"
  refine Y.hj.meth (by walk_at "lk") ⟨true,jn,c.a,sd,la,ra,tk,pc,ls,rs,i,j,dn,1,rfl,Y,by omega,by omega,λH3 f3 a0=>?_⟩
  rw [ZDt hx] at a0
  exact q true H3 pr2 ((fr5a f2).trans (fr5b f3)) (s2.tkpc Y nx f3) a0 w2
theorem Ow (F:Fun K "leap_on" "Join.leap_on" ZBt f fd)(T:Bt K mg Ce Cd Cc Ca Cb)
  (a0:Fn P w K mg base CX0 "leap" 4 ["asker","order","first","place"] (spLeapW Ca Cb))
  (J:Mt P w K mg base CX0 Ce "take_on" 1 ["self","side","more"] (spTakeOn Ce))
  (O:Mt P w K mg base CX0 Ce "has_more" 1 ["self","side"] (spHasMore Ce))
  (U:Mt P w K mg base CX0 Ce "front" 1 ["self","side"] (spFront Ce))
 :FnOk P w K mg base CX0 5 f fd ["self","side"] (spLeapOnW Ca Cb Ce):=by
 refine F.ok sc_Join_leap_on (λvs H Q E h=>?_) (λa6 A outer s H vs Q E hr h=>?_)
 .obtain ⟨c,pr,jn,sd,ma,ta,tk,pc,b,ms,ts,dn,i,j,y,post,rfl,st,js,nx,hy,hi,hk,hd,w,q⟩:=h
  rfl
 obtain ⟨c,pr,jn,sd,ma,ta,tk,pc,b,ms,ts,dn,i,j,y,post,rfl,st,js,nx,hy,hi,hk,hd,w,q⟩:=h
 refine ⟨_,(ZAB (ZAL (i:=2) sc_Join_leap_on.nd rfl (by walk_at "o") (ZAy (ZAO ZBv (pv 1) (ZBL rfl T.c_LEFT) (ZAU _)) (ZBL rfl T.c_RIGHT) (ZBL rfl T.c_LEFT)))
  (ZAR
  (ZAB (ZAh (ZBA J (hr.mono (by decide)) ZAS (pv 0) (ZAA (pv 1) (ZAA (ZAl a0 (hr.mono (by decide)) rfl ZAS (ZAA (ZAP (pv 0) rfl) (ZAA (ZAg ZA4 (ZAP (pv 0) rfl) (pv 1) (λ_ _=>rfl)) (ZAA (ZAg ZAd (ZAP (pv 0) rfl) (pv 1) (λ_ _=>rfl)) (ZAA (ZBA U (hr.mono (by decide)) ZAS (pv 0) (ZAA (pv 2) ZAC)) ZAC))))) ZAC))))
  (ZAH (ZAx (ZBP (ZBA O (hr.mono (by decide)) ZAS (pv 0) (ZAA (pv 1) ZAC)))
  (ZAH (ZAh (ZBA J (hr.mono (by decide)) ZAS (pv 0) (ZAA (pv 2) (ZAA ZAF ZAC))))) ZAc))))),?_⟩
 walk_at "rd"
 have hj:=(yAO.mp hy).1
 refine cut_var λo ho=>?_
 obtain rfl:o=sv (!b):=by
  rcases ho with ⟨h,e⟩ | ⟨h,e⟩
  .revert h;cases b <;> intro h
   .cases h
   .exact e
  .revert h;cases b <;> intro h
   .exact e
   .exact absurd rfl h
 refine ZAX ?_
 walk_at "rd"
 refine js.hj.meth (by walk_at "lk") ?_
 refine js.hj.get T.Dc T.Nr (by walk_at "lk") ?_
 refine js.hj.get T.Dc T.Nm (by walk_at "lk") (ZAz (SqT.of js.hsd) ZCS ?_)
 refine js.hj.get T.Dc T.Nf (by walk_at "lk") (ZAo (SqL.of js.htk) ZCS ?_)
 refine js.hj.meth (by walk_at "lk") ⟨!b,jn,c.a,sd,ta,ma,tk,pc,ts,ms,j,i,dn,y,rfl,js.swap,hy,?_⟩
 refine ⟨c,pr,ma,ms,i,y,_,rfl,st,js.hma,Ad.SA nx.n1.2.2.1,hi,hk,w.also (ZD7 _ _),λk H2 pr2 f2 s2 hw=>?_⟩
 obtain ⟨a5,hp⟩:=hw
 rw [yAX] at a5
 have a2:=js.frS nx f2
 refine ⟨b,jn,c.a,sd,ma,ta,tk,pc,ms,ts,i,j,dn,k,rfl,a2,by omega,by omega,λH3 f3 Y=>?_⟩
 have s3:=s2.tkpc a2 nx f3
 have a3:=(fr5a f2 (tk:=tk) (pc:=pc)).trans (fr5b f3)
 refine Y.hj.meth (by walk_at "lk") ⟨b,jn,c.a,sd,ma,ta,tk,pc,ms,ts,i+k,j,_,rfl,Y,?_⟩
 refine ZBV ?_
 by_cases hz:i+k < ms.length
 .rw [decide_eq_true hz,if_pos rfl]
  walk_at "rd"
  refine Y.hj.meth (by walk_at "lk") ⟨!b,jn,c.a,sd,ta,ma,tk,pc,ts,ms,j,i+k,_,1,rfl,Y.swap,by omega,by rw [yAC,yAP,yAX];omega,λH4 f4 a4=>?_⟩
  have a1:=a4.swap
  rw [Bool.not_not,ZDt hy] at a1
  refine q k H4 pr2 (a3.trans (fr5b f4)) (s3.tkpc Y nx f4) (by omega) ?_ hp
  rw [if_pos hz,if_pos hz]
  exact a1
 .rw [decide_eq_false hz,if_neg (by decide)]
  refine q k H3 pr2 a3 s3 (by omega) ?_ hp
  rw [if_neg hz,if_neg hz,yBA]
  exact Y
theorem Of (F:Fun K "joined" "joined" ZD1 f fd)(T:Bt K mg Ce Cd Cc Ca Cb)
  (J:Mt P w K mg base CX0 Ce "take_rest" 2 ["self","side"] (spTakeRest Ce))
  (O:Mt P w K mg base CX0 Ce "has_more" 1 ["self","side"] (spHasMore Ce))
  (a2:Mt P w K mg base CX0 Ce "win" 4 ["self"] (spWinW Ca Cb Ce))
  (Y:Mt P w K mg base CX0 Ce "leap_on" 5 ["self","side"] (spLeapOnW Ca Cb Ce))
  (a8:Kl P w K mg base CX0 "Join" Ce 1 ["self","asker","left","right"] (spJInit Ce))
 :FnOk P w K mg base CX0 6 f fd ["asker","left","right"] (spJoinedW Ca Cb):=by
 refine F.ok Vd (λvs H Q E h=>?_) (λay A outer s H vs Q E hr h=>?_)
 .obtain ⟨c,pr,al,ar,ls,rs,post,rfl,st,ac,ad,hk,aw,w,q⟩:=h
  rfl
 obtain ⟨c,pr,al,ar,ls,rs,post,rfl,st,ac,ad,hk,aw,w,q⟩:=h
 refine ⟨_,(ZAB (ZAL (i:=3) Vd.nd rfl (by walk_at "o") (ZFS a8 (hr.mono (by decide)) rfl ZAS (ZAA (pv 0) (ZAA (pv 1) (ZAA (pv 2) ZAC)))))
  (ZAB (ZAL (i:=4) Vd.nd rfl (by walk_at "o") ZAF)
  (ZAB (ZAL (i:=5) Vd.nd rfl (by walk_at "o") (ZBL rfl T.c_LEFT))
  (ZAB (ZBY PassesOwn.never (PW.pt (ZDV (ZBP (ZBA O (hr.mono (by decide)) ZAS (pv 3) (ZAA (ZBL rfl T.c_LEFT) ZAC))) (ZC7 (ZBP (ZBA O (hr.mono (by decide)) ZAS (pv 3) (ZAA (ZBL rfl T.c_RIGHT) ZAC))))))
  (ZAB (ZAL (i:=6) Vd.nd rfl (by walk_at "o") (ZBG a2 (hr.mono (by decide)) ZAS (pv 3)))
  (ZAB (ZAL (i:=4) Vd.nd rfl (by walk_at "o") (ZAy (ZAO ZBv (pv 6) (pv 5) (ZAU _)) (ZAN ZAe (pv 4) ZAF) ZAF))
  (ZAB (ZAL (i:=5) Vd.nd rfl (by walk_at "o") (pv 6))
  (ZAH (ZAx (ZAO ZBv (pv 4) (ZBL rfl T.c_WINS_TO_LEAP) (ZAU _))
  (ZAB (ZAh (ZBA Y (hr.mono (by decide)) ZAS (pv 3) (ZAA (pv 6) ZAC)))
  (ZAH (ZAL (i:=4) Vd.nd rfl (by walk_at "o") ZAF))) ZAc))))))
  (ZAB (ZAh (ZBA J (hr.mono (by decide)) ZAS (pv 3) (ZAA (ZBL rfl T.c_LEFT) ZAC)))
  (ZAB (ZAh (ZBA J (hr.mono (by decide)) ZAS (pv 3) (ZAA (ZBL rfl T.c_RIGHT) ZAC)))
  (ZAH (ZAQ (ZAi ZBR rfl T.b_list PyProof.Rows.boot_list (ZAA (ZAP (pv 3) rfl) ZAC)))))))))),?_⟩
 walk_at "rd"
 intro jn dj aa ao au
 have ag:upd H dj (.own jn) jn=none:=by rw [ZAJ (Ne.symm au)];exact aa
 have s1:Same H (upd (upd H dj (.own jn)) jn (.ins Ce dj [])):=(ZAM ao _).trans (ZAM ag _)
 refine ⟨jn,dj,c.a,al,ar,ls,rs,rfl,ZAE,s1 _ _ ac,s1 _ _ ad,λsd la ra tk pc H2 k2 aq ap av ae ah js=>⟨rfl,?_⟩⟩
 have u2:Same H H2:=λb o h=>k2 b o (ZAD h aa) (s1 _ _ h)
 have st2:=st.mono u2
 have fH:∀ {b:Addr},upd (upd H dj (.own jn)) jn (.ins Ce dj []) b=none->H b=none:=λh=>s1.free h
 have nx:NX c jn sd la ra tk pc:=⟨⟨st.off aa,st.off (fH aq),st.off (fH ap),st.off (fH av),st.off (fH ae),st.off (fH ah)⟩⟩
 have ab:∀ {H':Hp},Fr [c.a,c.lg,c.tl,tk,pc] H2 H'->Fr c.S H H':=λf b o n h=>f b o (λz=>by
  rcases yAI.mp z with z | z
  .exact n (by rw [z];exact yAD)
  rcases yAI.mp z with z | z
  .exact n (by rw [z];exact yAE _ yAD)
  rcases yAI.mp z with z | z
  .exact n (by rw [z];exact yAE _ (yAE _ yAD))
  rcases yAI.mp z with z | z
  .exact ZAD h (fH ae) z
  .exact ZAD h (fH ah) (yAH.mp z)) (u2 _ _ h)
 refine ZBW (λm σ H'=>∃ (i j w n:Nat) (s:Bool) (v6:Option V) (dn:List Nat) (pr':List A3),m=(ls.length-i)+(rs.length-j) /\ σ=[some (.ref c.a),some (.ref al),some (.ref ar),some (.ref jn),some (.int w),some (.int (sv s)),v6] /\ i <= ls.length /\ j <= rs.length /\ dn.length=i+j /\ (ls.length-i)+(rs.length-j) <= n /\ Fr [c.a,c.lg,c.tl,tk,pc] H2 H' /\ SitR Ca Cb H' c pr' /\ JS Ce H' true jn c.a sd la ra tk pc ls rs i j dn /\ Wp c.n c.an (ZCx n s w (ls.drop i) (rs.drop j) dn) pr' post) ⟨_,0,0,0,_,true,_,[],pr,rfl,rfl,yAJ _,yAJ _,rfl,yAB _,.refl,st2,js,w⟩ ?_
 rintro m σ H' ⟨i,j,w,n,s,v6,dn,pr',rfl,rfl,hi,hj,ax,hn,fr,s',a1,hw⟩
 walk_at "rd"
 apply onceP (¬ (i < ls.length /\ j < rs.length))
 .intro a5
  refine a1.hj.meth (by walk_at "lk") ⟨true,jn,c.a,sd,la,ra,tk,pc,ls,rs,i,j,dn,rfl,a1,?_⟩
  refine ZBV ?_
  by_cases hil:i < ls.length
  .rw [decide_eq_true hil,if_pos rfl]
   refine a1.hj.meth (by walk_at "lk") ⟨false,jn,c.a,sd,ra,la,tk,pc,rs,ls,j,i,dn,rfl,a1.swap,?_⟩
   refine ZBV ?_
   by_cases hjr:j < rs.length
   .rw [decide_eq_true hjr,if_pos rfl]
    refine ZBX ?_
    walk_at "rd"
    have hx:=yAF hil
    have hy:=yAF hjr
    generalize ls[i]=x at hx
    generalize rs[j]=y at hy
    obtain ⟨n,rfl⟩:∃ n',n=n' + 1:=⟨n-1,by omega⟩
    rw [ZBi hx,ZBi hy,ZCx] at hw
    refine a1.hj.meth (by walk_at "lk") ⟨c,pr',jn,sd,la,ra,tk,pc,ls,rs,dn,i,j,x,y,_,post,rfl,s',a1,nx,hx,hy,hk,by omega,by omega,hw,λb H3 a6 f3 s3 a0 w3=>?_⟩
    walk_at "rd"
    apply ZFo (λ(k:Int)=>k=((if b=s then w+1 else 1:Nat):Int))
    .intro a3
     by_cases hs:sv b=sv s
     .rw [if_pos hs]
      obtain ⟨k,af⟩:∃ k:Int,k=w+1:=⟨_,rfl⟩
      rw [<- af]
      refine a3 k ?_
      rw [af,if_pos (sv_inj hs)]
      rfl
     .rw [if_neg hs]
      refine a3 1 ?_
      rw [if_neg (λz=>hs (by rw [z]))]
      rfl
    rintro k rfl
    skip
    generalize (if b=s then w+1 else 1:Nat)=w' at w3
    have a7:(dn++[if b then x else y]).length=dn.length+1:=by rw [yAC];rfl
    by_cases h4:w'=4
    .rw [if_pos (by omega)]
     rw [if_pos h4] at w3
     cases b
     .rw [if_neg (by decide)] at w3
      refine a0.hj.meth (by walk_at "lk") ⟨c,a6,jn,sd,ra,la,tk,pc,false,rs,ls,_,j+1,i,x,_,rfl,s3,a0.swap,nx.swap,hx,by omega,hk,by rw [a7];omega,w3.bind,λk H4 a4 f4 s4 am U w4=>?_⟩
      have el:(rs.drop (j+1)).length=rs.length-(j+1):=yAX ..
      have ed:rs.drop (j+1+k)=(rs.drop (j+1)).drop k:=by rw [yCU]
      by_cases hz:j+1+k < rs.length
      .rw [if_pos hz,if_pos hz] at U
       rw [if_pos (by omega)] at w4
       exact ⟨(ls.length-(i+1))+(rs.length-(j+1+k)),by omega,i+1,j+1+k,0,n,false,_,_,a4,rfl,rfl,by omega,by omega,by simp;omega,by omega,(fr.trans f3).trans f4,s4,U.swap,by rw [ed];simpa using w4⟩
      .rw [if_neg hz,if_neg hz,yBA] at U
       rw [if_neg (by omega)] at w4
       exact ⟨(ls.length-i)+(rs.length-(j+1+k)),by omega,i,j+1+k,0,n,false,_,_,a4,rfl,rfl,by omega,by omega,by simp;omega,by omega,(fr.trans f3).trans f4,s4,U.swap,by rw [ed,ZBi hx];simpa using w4⟩
     .rw [if_pos rfl] at w3
      refine a0.hj.meth (by walk_at "lk") ⟨c,a6,jn,sd,la,ra,tk,pc,true,ls,rs,_,i+1,j,y,_,rfl,s3,a0,nx,hy,by omega,hk,by rw [a7];omega,w3.bind,λk H4 a4 f4 s4 am U w4=>?_⟩
      have el:(ls.drop (i+1)).length=ls.length-(i+1):=yAX ..
      have ed:ls.drop (i+1+k)=(ls.drop (i+1)).drop k:=by rw [yCU]
      by_cases hz:i+1+k < ls.length
      .rw [if_pos hz,if_pos hz] at U
       rw [if_pos (by omega)] at w4
       exact ⟨(ls.length-(i+1+k))+(rs.length-(j+1)),by omega,i+1+k,j+1,0,n,true,_,_,a4,rfl,rfl,by omega,by omega,by simp;omega,by omega,(fr.trans f3).trans f4,s4,U,by rw [ed];simpa using w4⟩
      .rw [if_neg hz,if_neg hz,yBA] at U
       rw [if_neg (by omega)] at w4
       exact ⟨(ls.length-(i+1+k))+(rs.length-j),by omega,i+1+k,j,0,n,true,_,_,a4,rfl,rfl,by omega,by omega,by simp;omega,by omega,(fr.trans f3).trans f4,s4,U,by rw [ed,ZBi hy];simpa using w4⟩
    .rw [if_neg (by omega)]
     rw [if_neg h4] at w3
     cases b
     .rw [if_neg (by decide)] at w3
      exact ⟨(ls.length-i)+(rs.length-(j+1)),by omega,i,j+1,w',n,false,_,_,a6,rfl,rfl,by omega,by omega,by rw [a7];omega,by omega,fr.trans f3,s3,a0,by rw [ZBi hx];exact w3⟩
     .rw [if_pos rfl] at w3
      exact ⟨(ls.length-(i+1))+(rs.length-j),by omega,i+1,j,w',n,true,_,_,a6,rfl,rfl,by omega,by omega,by rw [a7];omega,by omega,fr.trans f3,s3,a0,by rw [ZBi hy];exact w3⟩
   .rw [decide_eq_false hjr,if_neg (by decide)]
    exact a5 (λz=>hjr z.2)
  .rw [decide_eq_false hil,if_neg (by decide)]
   exact a5 (λz=>hil z.1)
 intro ai
 have a9:post (dn++ls.drop i++rs.drop j) pr':=join_end ai hi hj hw
 refine a1.hj.meth (by walk_at "lk") ⟨true,jn,c.a,sd,la,ra,tk,pc,ls,rs,i,j,dn,rfl,a1,hi,by omega,λH3 f3 a0=>?_⟩
 have s3:=s'.tkpc a1 nx f3
 refine a0.hj.meth (by walk_at "lk") ⟨false,jn,c.a,sd,ra,la,tk,pc,rs,ls,j,ls.length,_,rfl,a0.swap,hj,by rw [yAC,yAX];omega,λH4 f4 U=>?_⟩
 have s4:=s3.tkpc a0 nx f4
 refine U.hj.get T.Dc T.Nv (by walk_at "lk") ⟨pc,_,rfl,.inl (SqL.of U.hpc),λl hl=>?_⟩
 have aj:Fr [c.a,c.lg,c.tl,tk,pc] H2 H4:=(fr.trans (fr5b f3)).trans (fr5b f4)
 exact q l _ _ pr' ((ab aj).trans (ZAM hl _).fr) (s4.free (ab aj) hl) ZAE (s4.mono (ZAM hl _)) a9
theorem Oat (F:Fun K "grade" "grade" ZEV f fd)(T:Bt K mg Ce Cd Cc Ca Cb)
 :FnOk P w K mg base CX0 1 f fd ["many","first","middle","beyond"] (spGrade):=by
 refine F.ok Vf (λvs H Q E h=>?_) (λa2 A outer s H vs Q E hr h=>?_)
 .obtain ⟨m,a,b,c,rfl,h1,hm,ha,U,O,a0,q⟩:=h
  rfl
 obtain ⟨m,a,b,c,rfl,h1,hm,ha,U,O,a0,q⟩:=h
 refine ⟨_,(ZAB (ZAL (i:=4) Vf.nd rfl (by walk_at "o") (ZAN ZBg ZAF (ZAN ZAe (pv 1) (pv 2))))
  (ZAB (ZAL (i:=5) Vf.nd rfl (by walk_at "o") (ZAN ZBg ZAF (ZAN ZAe (pv 2) (pv 3))))
  (ZAB (ZAL (i:=6) Vf.nd rfl (by walk_at "o") ZAF)
  (ZAB (ZBY PassesOwn.never (ZAO ZBv (ZAN op_fdivB (pv 4) (ZAN ZBg ZAF (pv 0))) (ZAN op_fdivB (pv 5) (ZAN ZBg ZAF (pv 0))) (ZAU _))
  (ZAB (ZAL (i:=4) Vf.nd rfl (by walk_at "o") (ZAN ZBg ZAF (pv 4)))
  (ZAB (ZAL (i:=5) Vf.nd rfl (by walk_at "o") (ZAN ZBg ZAF (pv 5)))
  (ZAH (ZEq (i:=6) Vf.nd rfl (by walk_at "o") ZAF ZEw)))))
  (ZAH (ZAQ (pv 6))))))),?_⟩
 walk_at "rd"
 refine ⟨.inl ⟨by decide,by decide⟩,.inl ⟨by decide,by decide⟩,?_⟩
 refine ZBW (λn σ H'=>∃ p:Nat,n=240-p /\ H'=H /\ σ=[some (.int m),some (.int a),some (.int b),some (.int c),some (.int ((a+b) * 2 ^ p)),some (.int ((b+c) * 2 ^ p)),some (.int p)] /\ 1 <= p /\ p <= 240 /\ ∀ r,1 <= r->r < p->Gr.qt m (a+b) r=Gr.qt m (b+c) r) ⟨_,1,rfl,rfl,?_,yAB _,by decide,λr h1 h2=>by omega⟩ ?_
 .rw [Int.pow_one,Int.mul_comm (a+b),Int.mul_comm (b+c)];rfl
 rintro n σ H' ⟨p,rfl,rfl,rfl,Y,J,hq⟩
 walk_at "rd"
 refine ⟨.inl ⟨by decide,by decide⟩,⟨by omega,by omega⟩,.inl ⟨by decide,by decide⟩,⟨by omega,by omega⟩,?_⟩
 split
 .rename_i he
  have a1:p < 240:=by
   rcases Nat.lt_or_ge p 240 with l | l
   .exact l
   .exact absurd he (Gr.qt_ne (by omega) (by omega) (pow240 hm l))
  refine ZBX ?_
  walk_at "rd"
  refine ⟨.inl ⟨by decide,by decide⟩,.inl ⟨by decide,by decide⟩,?_⟩
  walk_at "rd"
  refine ⟨_,?_,p+1,rfl,?_,by omega,by omega,λr h1 h2=>?_⟩
  .omega
  .rw [dbl,dbl];rfl
  .rcases Nat.lt_or_ge r p with l | l
   .exact hq r h1 l
   .obtain rfl:r=p:=by omega
    exact he
 .rename_i he
  exact q p ⟨Y,hq,he⟩ J
theorem Os (F:FunD K "__init__" "Pile.__init__" ZCe f fd dv)(T:Bt K mg Ce Cd Cc Ca Cb)
  (O:Mt P w K mg base CX0 Ca "many" 1 ["self"] (spMany Ca))
 :FnOk P w K mg base CX0 2 f fd ["self","asker","least","part"] (spPileInit Ca Cd):=by
 refine F.ok sc_Pile_init (λvs H Q E h=>?_) (λag A outer s H vs Q E hr h=>?_)
 .obtain ⟨x,dx,a,ls,s,e,pz,rfl,hx,a2,q⟩:=h
  rfl
 obtain ⟨x,dx,a,ls,s,e,pz,rfl,hx,a2,q⟩:=h
 refine ⟨_,(ZAB (ZAu (pv 0) (pv 1) rfl)
  (ZAB (ZAu (pv 0) (pv 2) rfl)
  (ZAB (ZAu (pv 0) (ZAy (ZAO ZCT (pv 3) ZA5 (ZAU _)) ZAF (ZAg ZA4 (pv 3) ZAF (λ_ _=>rfl))) rfl)
  (ZAR
  (ZAB (ZAu (pv 0) (ZAy (ZAO ZCT (pv 3) ZA5 (ZAU _)) (ZBG O (hr.mono (by decide)) ZAS (pv 1)) (ZAg ZA4 (pv 3) ZAF (λ_ _=>rfl))) rfl)
  (ZAR
  (ZAB (ZAu (pv 0) (ZAP (pv 0) rfl) rfl)
  (ZAB (ZAu (pv 0) (ZA6 ZAC) rfl)
  (ZAB (ZAu (pv 0) (ZA6 ZAC) rfl)
  (ZAH (ZAu (pv 0) (ZA6 ZAC) rfl))))))))))),?_⟩
 walk_at "rd"
 refine setX hx T.Da T.Np (by decide) λH2 x2 k2=>?_
 walk_at "rd"
 refine setX x2 T.Da T.Ny ZFM λH3 x3 k3=>?_
 walk_at "rd"
 have u3:∀ b o,b≠x->H b=some o->H3 b=some o:=λb o n h=>by rw [k3 b n,k2 b n];exact h
 apply ZFo (λH4:Hp=>H4 x=some (.ins Cd dx (putF "start" (.int s) (putF "least" (.int ls) (putF "asker" (.ref a) [])))) /\ ∀ b,b≠x->H4 b=H3 b)
 .intro J
  rcases a2 with ⟨pt,hz,U⟩ | ⟨hz,a8,a7,rl,ru,m,n,tl,us,ha,a3,ad⟩
  .rw [if_neg (by rw [hz];simp)]
   have a6:∀ {Q':VK},Q' (.int s) H3->rIxT K pz (.int 0) H3 Q':=λh=>by rw [hz];exact ZAz (SqT.of (u3 _ _ (λz=>by rw [z,hx] at U;cases U) U)) (ZAj (by decide) rfl) h
   exact a6 (setX x3 T.Da T.Nh ZE3 λH4 x4 k4=>J H4 ⟨x4,k4⟩)
  .rw [if_pos hz]
   exact setX x3 T.Da T.Nh ZE3 λH4 x4 k4=>J H4 ⟨by rw [a8];exact x4,k4⟩
 rintro H4 ⟨x4,k4⟩
 refine ZAX ?_
 walk_at "rd"
 have u4:∀ b o,b≠x->H b=some o->H4 b=some o:=λb o n h=>by rw [k4 b n];exact u3 b o n h
 apply ZFo (λH5:Hp=>H5 x=some (.ins Cd dx (putF "end" (.int e) (putF "start" (.int s) (putF "least" (.int ls) (putF "asker" (.ref a) []))))) /\ ∀ b,b≠x->H5 b=H4 b)
 .intro J
  rcases a2 with ⟨pt,hz,U⟩ | ⟨hz,a8,a7,rl,ru,m,n,tl,us,ha,a3,ad⟩
  .rw [if_neg (by rw [hz];simp)]
   have a6:∀ {Q':VK},Q' (.int e) H4->rIxT K pz (.int 1) H4 Q':=λh=>by rw [hz];exact ZAz (SqT.of (u4 _ _ (λz=>by rw [z,hx] at U;cases U) U)) (ZAj (by decide) rfl) h
   exact a6 (setX x4 T.Da T.Nk ZE2 λH5 x5 k5=>J H5 ⟨x5,k5⟩)
  .rw [if_pos hz]
   have af:rl≠x:=λz=>by rw [z,hx] at a3;cases a3
   have aa:Ins H4 a Ca (fA rl ru m n tl):=let ⟨d1,f1,e1,e2,e3⟩:=ha.ex;⟨d1,f1,u4 _ _ a7 e1,e2,e3⟩
   refine aa.meth (by walk_at "lk") ⟨a,rl,ru,tl,m,n,us,rfl,aa,u4 _ _ af a3,?_⟩
   rw [ad]
   exact setX x4 T.Da T.Nk ZE2 λH5 x5 k5=>J H5 ⟨x5,k5⟩
 clear a2
 rintro H5 ⟨x5,k5⟩
 have u5:∀ b o,b≠x->H b=some o->H5 b=some o:=λb o n h=>by rw [k5 b n];exact u4 b o n h
 clear u3 u4 k2 k3 k4 k5 x2 x3 x4
 refine ZAX ?_
 walk_at "rd"
 refine getF_of x5 T.Da T.Nh (by simp only [ZAb,lkc];walk_at "lk") ?_
 refine setX x5 T.Da T.Nj ZFl λH6 x6 k6=>?_
 walk_at "rd"
 refine ⟨yAJ _,λfs a4=>?_⟩
 obtain ⟨H7,e7,s7,h7⟩:=newH a4 (.lst [])
 rw [e7];clear e7
 refine setX (s7 _ _ x6) T.Da T.Nc ZFx λH8 x8 k8=>?_
 walk_at "rd"
 refine ⟨yAJ _,λod a0=>?_⟩
 obtain ⟨H9,e9,s9,h9⟩:=newH a0 (.lst [])
 rw [e9];clear e9
 refine setX (s9 _ _ x8) T.Da T.Na putL6 λHA xA kA=>?_
 walk_at "rd"
 refine ⟨yAJ _,λgr Y=>?_⟩
 obtain ⟨HB,eB,sB,hB⟩:=newH Y (.lst [])
 rw [eB];clear eB
 refine setX (sB _ _ xA) T.Da T.Nl putL7 λHC xC kC=>?_
 have a1:fs≠x:=Ne.symm (ZAD x6 a4)
 have a5:od≠x:=Ne.symm (ZAD x8 a0)
 have ac:gr≠x:=Ne.symm (ZAD xA Y)
 have h8:H8 fs=some (.lst []):=by rw [k8 fs a1];exact h7
 have a9:HA fs=some (.lst []):=by rw [kA fs a1];exact s9 _ _ h8
 have ab:HA od=some (.lst []):=by rw [kA od a5];exact h9
 have f6:∀ b,b≠x->H6 b=none->H b=none:=λb n e=>by
  cases eb:H b with
  | none=>rfl
  | some o=>have:=u5 b o n eb;rw [k6 b n,this] at e;cases e
 have f8:∀ b,b≠x->H8 b=none->H b=none:=λb n e=>f6 b n (s7.free (by rw [<- k8 b n];exact e))
 have ae:∀ b,b≠x->HA b=none->H b=none:=λb n e=>f8 b n (s9.free (by rw [<- kA b n];exact e))
 refine q fs od gr HC (λb o n h=>?_) (f6 fs a1 a4) (f8 od a5 a0) (ae gr ac Y) ⟨(Ins.of xC (yAL putL8 (by decide))).congr λf=>by simp only [ZAb,lkc],by rw [kC fs a1];exact sB _ _ a9,by rw [kC od a5];exact sB _ _ ab,by rw [kC gr ac];exact hB,trivial,⟨ZAD h8 a0,ZAD a9 Y,ZAD ab Y⟩,λb hb=>by cases hb⟩
 rw [kC b n]
 refine sB _ _ ?_
 rw [kA b n]
 refine s9 _ _ ?_
 rw [k8 b n]
 refine s7 _ _ ?_
 rw [k6 b n]
 exact u5 b o n h
theorem Ox (F:Fun K "beyond_of" "Pile.beyond_of" ZBS f fd)(T:Bt K mg Ce Cd Cc Ca Cb)
 :FnOk P w K mg base CX0 1 f fd ["self","number"] (spBeyondOf Cd):=by
 refine F.ok sc_Pile_beyond_of (λvs H Q E h=>?_) (λO A outer s H vs Q E U h=>?_)
 .obtain ⟨x,a,fs,od,gr,ls,s,e,r,oa,A,p,B,gs,rfl,J,q⟩:=h
  rfl
 obtain ⟨x,a,fs,od,gr,ls,s,e,r,oa,A,p,B,gs,rfl,J,q⟩:=h
 refine ⟨_,(ZAH (ZAQ (ZAy (ZAO ZDE (ZAN ZAe (pv 1) ZAF) (ZAK ZAI rfl T.b_len PySem.boot_len (ZAA (ZAP (pv 0) rfl) ZAC)) (ZAU _)) (ZAg ZAd (ZAP (pv 0) rfl) (ZAN ZAe (pv 1) ZAF) (λ_ _=>rfl)) (ZAP (pv 0) rfl)))),?_⟩
 walk_at "rd"
 refine J.hp.get T.Da T.Nc (by walk_at "lk") ⟨fs,_,rfl,.inl (SqL.of J.hfs),?_⟩
 rw [yAA,yAA,yAC,yAG]
 cases B with
 | nil=>
  rw [if_neg (by rw [yBM];omega)]
  exact J.hp.get T.Da T.Nj (by walk_at "lk") q
 | cons p2 B=>
  rw [if_pos (by rw [yAG];omega)]
  refine J.hp.get T.Da T.Nc (by walk_at "lk") ?_
  rw [show (A.length:Int)+1=((A.length+1:Nat):Int) by omega]
  exact ZAo (SqL.of J.hfs) (ZDB (by rw [yAM,ZCy];rfl)) q
theorem O6 (F:Fun K "is_due_beneath" "Pile.is_due_beneath" ZA0 f fd)(T:Bt K mg Ce Cd Cc Ca Cb)
 :FnOk P w K mg base CX0 1 f fd ["self"] (spDue Cd):=by
 refine F.ok sc_Pile_is_due_beneath (λvs H Q E h=>?_) (λa0 A outer s H vs Q E hr h=>?_)
 .obtain ⟨x,a,fs,od,gr,ls,s,e,r,oa,ps,gs,rfl,U,q⟩:=h
  rfl
 obtain ⟨x,a,fs,od,gr,ls,s,e,r,oa,ps,gs,rfl,U,q⟩:=h
 refine ⟨_,(ZAH (ZAQ (ZEr (ZCi ZDk (ZAK ZAI rfl T.b_len PySem.boot_len (ZAA (ZAP (pv 0) rfl) ZAC)) ZAF (ZAU _)) (ZFQ (ZCi ZDk (ZAg ZAd (ZAP (pv 0) rfl) (ZFy ZFC ZAF) (λ_ _=>rfl)) (ZAg ZAd (ZAP (pv 0) rfl) (ZFy ZFC ZAF) (λ_ _=>rfl)) (ZAU _)))))),?_⟩
 walk_at "rd"
 refine U.hp.get T.Da T.Nl (by walk_at "lk") ⟨gr,_,rfl,.inl (SqL.of U.hgr),?_⟩
 rw [yAA]
 by_cases h2:2 <= gs.length
 .rw [if_pos (by omega)]
  obtain ⟨G,J,O,rfl⟩:=two_last h2
  have Y:=U.hgr
  rw [show nL (G++[J,O])=nL G++[.int (J:Nat),.int (O:Nat)] by unfold nL;rw [yAK];rfl] at Y
  refine U.hp.get T.Da T.Nl (by walk_at "lk") (ZAo (SqL.of Y) atI_m2 ?_)
  refine U.hp.get T.Da T.Nl (by walk_at "lk") ?_
  rw [show nL G++[V.int (J:Nat),V.int (O:Nat)]=(nL G++[.int (J:Nat)])++[.int (O:Nat)] by rw [yAN];rfl] at Y
  refine ZAo (SqL.of Y) atI_m1 (ZC9 ?_)
  rw [dueB_two] at q
  have e:decide ((O:Int) < J)=decide (O < J):=by rw [decide_eq_decide];omega
  rw [<- e] at q
  exact q
 .rw [if_neg (by omega)]
  rw [dueB_no (by omega)] at q
  exact q
theorem Oau (F:Fun K "grade_on_top" "Pile.grade_on_top" ZA9 f fd)(T:Bt K mg Ce Cd Cc Ca Cb)
  (J:Fn P w K mg base CX0 "grade" 1 ["many","first","middle","beyond"] (spGrade))
 :FnOk P w K mg base CX0 2 f fd ["self","middle","beyond"] (spOnTop Cd):=by
 refine F.ok sc_Pile_grade_on_top (λvs H Q E h=>?_) (λa0 A outer s H vs Q E hr h=>?_)
 .obtain ⟨x,a,fs,od,gr,ls,s,e,r,oa,A,p,gs,m,b,rfl,O,h1,h2,h3,h4,Y,q⟩:=h
  rfl
 obtain ⟨x,a,fs,od,gr,ls,s,e,r,oa,A,p,gs,m,b,rfl,O,h1,h2,h3,h4,Y,q⟩:=h
 refine ⟨_,(ZAH (ZAQ (ZAl J (hr.mono (by decide)) rfl ZAS (ZAA (ZAN ZAv (ZAP (pv 0) rfl) (ZAP (pv 0) rfl)) (ZAA (ZAN ZAv (ZAg ZAd (ZAP (pv 0) rfl) (ZFy ZFC ZAF) (λ_ _=>rfl)) (ZAP (pv 0) rfl)) (ZAA (ZAN ZAv (pv 1) (ZAP (pv 0) rfl)) (ZAA (ZAN ZAv (pv 2) (ZAP (pv 0) rfl)) ZAC))))))),?_⟩
 walk_at "rd"
 have U:=O.hfs
 rw [yAK,show nL (A.map Prod.fst++[p].map Prod.fst)=nL (A.map Prod.fst)++[.int (p.1:Nat)] by unfold nL;rw [yAK];rfl] at U
 refine O.hp.get T.Da T.Nk (by walk_at "lk") (O.hp.get T.Da T.Nh (by walk_at "lk") (ZC9 ?_))
 refine O.hp.get T.Da T.Nc (by walk_at "lk") (ZAo (SqL.of U) atI_m1 (O.hp.get T.Da T.Nh (by walk_at "lk") (ZC9 ?_)))
 refine O.hp.get T.Da T.Nh (by walk_at "lk") (ZC9 (O.hp.get T.Da T.Nh (by walk_at "lk") (ZC9 ?_)))
 exact ⟨_,_,_,_,rfl,by omega,by omega,by omega,by omega,by omega,by omega,q⟩
theorem O2 (F:Fun K "join_two" "Pile.join_two" ZBd f fd)(T:Bt K mg Ce Cd Cc Ca Cb)
  (a0:Fn P w K mg base CX0 "joined" 6 ["asker","left","right"] (spJoinedW Ca Cb))
  (J:Mt P w K mg base CX0 Cd "beyond_of" 1 ["self","number"] (spBeyondOf Cd))
 :FnOk P w K mg base CX0 7 f fd ["self","lower"] (spJoinTwoW Ca Cb Cd):=by
 refine F.ok sc_Pile_join_two (λvs H Q E h=>?_) (λb9 A outer s H vs Q E hr h=>?_)
 .obtain ⟨c,pr,x,fs,od,gr,ls,s,e,i,r,oa,ps,gs,post,rfl,st,pa,px,pw,hi,he,hk,w,q⟩:=h
  rfl
 obtain ⟨c,pr,x,fs,od,gr,ls,s,e,i,r,oa,ps,gs,post,rfl,st,pa,px,pw,hi,he,hk,w,q⟩:=h
 refine ⟨_,(ZAB (ZAL (i:=2) sc_Pile_join_two.nd rfl (by walk_at "o") (ZAl a0 (hr.mono (by decide)) rfl ZAS (ZAA (ZAP (pv 0) rfl) (ZAA (ZAg ZAd (ZAP (pv 0) rfl) (pv 1) (λ_ _=>rfl)) (ZAA (ZAg ZAd (ZAP (pv 0) rfl) (ZAN ZAe (pv 1) ZAF) (λ_ _=>rfl)) ZAC)))))
  (ZAR
  (ZAB (ZAL (i:=3) sc_Pile_join_two.nd rfl (by walk_at "o") (ZBB (ZAA pe_str (ZAA (ZAg ZAd (ZAP (pv 0) rfl) (pv 1) (λ_ _=>rfl)) (ZAA (ZAg ZAd (ZAP (pv 0) rfl) (ZAN ZAe (pv 1) ZAF) (λ_ _=>rfl)) (ZAA (ZBA J (hr.mono (by decide)) ZAS (pv 0) (ZAA (ZAN ZAe (pv 1) ZAF) ZAC)) ZAC))))))
  (ZAR
  (ZAB (ZFN (pv 2) (ZFP (ZAP (pv 0) rfl) (pv 1) ZDu))
  (ZAB (ZAh (ZB4 PySem.F.plainAttrs_list PySem.F.slot_list_pop PySem.F.type_list_pop ZDG (ZAP (pv 0) rfl) (ZAA (ZAN ZAe (pv 1) ZAF) ZAC)))
  (ZAB (ZAh (ZB4 PySem.F.plainAttrs_list PySem.F.slot_list_pop PySem.F.type_list_pop ZDG (ZAP (pv 0) rfl) (ZAA (ZAN ZAe (pv 1) ZAF) ZAC)))
  (ZAB (ZAh (ZB4 PySem.F.plainAttrs_list PySem.F.slot_list_pop PySem.F.type_list_pop ZDG (ZAP (pv 0) rfl) (ZAA (pv 1) ZAC)))
  (ZAH (ZAQ (pv 3))))))))))),?_⟩
 walk_at "rd"
 obtain ⟨A,p1,p2,B,rfl,rfl,e3,e4⟩:=drop_two hi
 obtain ⟨v1,o1⟩:=p1
 obtain ⟨v2,o2⟩:=p2
 unfold jnP at w
 dsimp only at w
 rw [e3,e4] at w
 dsimp only at w
 obtain ⟨O,b1,b2,OB,rfl,a1,b3,aq,b6,ax⟩:=pa.oat.two
 obtain ⟨mm,c1,c2,c3,c4,c5,c6⟩:=Cl.app.mp pw.cl
 dsimp only at c2 c3 c4 c5 c6
 have l1:=c1.le.1
 have l6:=c6.le.1
 have aa:=pw.re
 have a2:=pw.gl
 dsimp only at l6 aa a2
 rw [yAC,yAG,yAG] at a2
 replace a2:A.length < gs.length:=by omega
 have b8:(O.map V.ref).length <= 500:=by rw [yAA,a1];omega
 have m1:b1∈O++b1::b2::OB:=yAW _ yAD
 have m2:b2∈O++b1::b2::OB:=yAW _ (yAE _ yAD)
 refine pa.hp.get T.Da T.Np (by walk_at "lk") (pa.hp.get T.Da T.Na (by walk_at "lk") (ZAo (SqL.of pa.hod) (atI_refs (b:=b1) (by rw [<- a1];exact ZEA ..)) ?_))
 refine pa.hp.get T.Da T.Na (by walk_at "lk") ?_
 rw [show (A.length:Int)+1=((A.length+1:Nat):Int) by omega]
 refine ZAo (SqL.of pa.hod) (atI_refs (b:=b2) (by rw [<- a1];exact ZCy ..)) ?_
 refine ⟨c,pr,b1,b2,o1,o2,_,rfl,st,aq,b6,hk,by omega,(w.bind).also (joinedP_len o1 o2),λl H1 o pr1 a4 a3 aw ao hp=>?_⟩
 obtain ⟨b4,hp⟩:=hp
 have U:=pa.frS px a4
 refine ZAX ?_
 walk_at "rd"
 refine U.hp.get T.Da T.Nc (by walk_at "lk") (ZAo (SqL.of U.hfs) (ZDB (o:=v1) (by rw [yAM,ZEA];rfl)) ?_)
 refine U.hp.get T.Da T.Nc (by walk_at "lk") ?_
 rw [show (A.length:Int)+1=((A.length+1:Nat):Int) by omega]
 refine ZAo (SqL.of U.hfs) (ZDB (o:=v2) (by rw [yAM,ZCy];rfl)) ?_
 refine U.hp.meth (by walk_at "lk") ⟨x,c.a,fs,od,gr,ls,s,e,r,_,A++[(v1,o1)],(v2,o2),B,gs,by rw [yAC];rfl,by rw [yAN];exact U,?_⟩
 refine ⟨ZAW (by decide),λt ht=>?_⟩
 obtain ⟨H2,e2,s2,h2⟩:=newH ht (.tup [.str "join",.int (v1:Nat),.int (v2:Nat),.int (bB B r:Nat)])
 rw [e2];clear e2
 have Y:=U.mono s2
 have st2:=ao.mono s2
 refine ZAX ?_
 walk_at "rd"
 have a5:=Y.xl
 have au:x≠fs:=λz=>a5 (by rw [z];exact yAD)
 have ag:x≠od:=λz=>a5 (by rw [z];exact yAE _ yAD)
 have av:x≠gr:=λz=>a5 (by rw [z];exact yAE _ (yAE _ yAD))
 obtain ⟨a9,ac,a7⟩:=pa.ne
 refine Y.hp.get T.Da T.Na (by walk_at "lk") ⟨od,_,_,_,rfl,rfl,Y.hod,ZFV (by omega) (by rw [yAA,yAC,yAG];omega),?_⟩
 rw [Int.toNat_natCast,yAK,yAZ,yAZ,show A.length=(O.map V.ref).length by rw [yAA,a1],set_mid]
 have b0:Ins (upd H2 od (.lst (O.map V.ref++.ref l::.ref b2::OB.map V.ref))) x Cd (fPl c.a ls s e r fs od gr):=Y.hp.keep (ZAJ ag)
 refine b0.get T.Da T.Na (by walk_at "lk") ?_
 walk_at "rd"
 refine ⟨.inl ⟨rfl,_,SqL.of ZAE⟩,od,_,_,(O.map V.ref).length+1,_,rfl,rfl,ZAE,by omega,by omega,?_,ZCy ..,?_⟩
 .rw [show ((O.map V.ref).length:Int)+1=(((O.map V.ref).length+1:Nat):Int) by omega]
  exact PySem.StrLaws.seqIndex_nonneg (by omega) (by rw [yAC,yAG,yAG];omega)
 rw [er_mid2,ZDO]
 have am:Ins (upd H2 od (.lst (O.map V.ref++.ref l::OB.map V.ref))) x Cd (fPl c.a ls s e r fs od gr):=Y.hp.keep (ZAJ ag)
 have ab:upd H2 od (.lst (O.map V.ref++.ref l::OB.map V.ref)) fs=some (.lst (nL (A.map Prod.fst)++.int (v1:Nat)::.int (v2:Nat)::nL (B.map Prod.fst))):=by
  rw [ZAJ a9,Y.hfs,yAK];unfold nL;rw [yAK];rfl
 have la:(nL (A.map Prod.fst)).length=(O.map V.ref).length:=by rw [yAA,yAA,yAA,a1]
 refine am.get T.Da T.Nc (by walk_at "lk") ?_
 walk_at "rd"
 refine ⟨.inl ⟨rfl,_,SqL.of ab⟩,fs,_,_,(nL (A.map Prod.fst)).length+1,_,rfl,rfl,ab,by omega,by omega,?_,ZCy ..,?_⟩
 .rw [<- la,show ((nL (A.map Prod.fst)).length:Int)+1=(((nL (A.map Prod.fst)).length+1:Nat):Int) by omega]
  exact PySem.StrLaws.seqIndex_nonneg (by omega) (by rw [yAC,yAG,yAG];omega)
 rw [er_mid2]
 have ad:Ins (upd (upd H2 od (.lst (O.map V.ref++.ref l::OB.map V.ref))) fs (.lst (nL (A.map Prod.fst)++.int (v1:Nat)::nL (B.map Prod.fst)))) x Cd (fPl c.a ls s e r fs od gr):=am.keep (ZAJ au)
 have a8:upd (upd H2 od (.lst (O.map V.ref++.ref l::OB.map V.ref))) fs (.lst (nL (A.map Prod.fst)++.int (v1:Nat)::nL (B.map Prod.fst))) gr=some (.lst (nL gs)):=by rw [ZAJ (Ne.symm ac),ZAJ (Ne.symm a7)];exact Y.hgr
 refine ad.get T.Da T.Nl (by walk_at "lk") ?_
 walk_at "rd"
 refine ⟨.inl ⟨rfl,_,SqL.of a8⟩,gr,_,_,A.length,.int (gs[A.length]:Nat),rfl,rfl,a8,by omega,by omega,?_,by rw [yAM,yAF a2];rfl,?_⟩
 .rw [show (O.map V.ref).length=A.length by rw [yAA,a1]]
  exact PySem.StrLaws.seqIndex_nonneg (by omega) (by rw [yAA];omega)
 rw [er_map]
 have F3:Fr [fs,od,gr] H2 (upd (upd (upd H2 od (.lst (O.map V.ref++.ref l::OB.map V.ref))) fs (.lst (nL (A.map Prod.fst)++.int (v1:Nat)::nL (B.map Prod.fst)))) gr (.lst (nL (gs.eraseIdx A.length)))):=((Fr.upd (yAE _ yAD)).trans (Fr.upd yAD)).trans (Fr.upd (yAE _ (yAE _ yAD)))
 have ae:Ins (upd (upd (upd H2 od (.lst (O.map V.ref++.ref l::OB.map V.ref))) fs (.lst (nL (A.map Prod.fst)++.int (v1:Nat)::nL (B.map Prod.fst)))) gr (.lst (nL (gs.eraseIdx A.length)))) x Cd (fPl c.a ls s e r fs od gr):=ad.keep (ZAJ av)
 have ah:(upd (upd (upd H2 od (.lst (O.map V.ref++.ref l::OB.map V.ref))) fs (.lst (nL (A.map Prod.fst)++.int (v1:Nat)::nL (B.map Prod.fst)))) gr (.lst (nL (gs.eraseIdx A.length)))) fs=some (.lst (nL (A.map Prod.fst)++.int (v1:Nat)::nL (B.map Prod.fst))):=by rw [ZAJ ac,ZAE]
 have ai:(upd (upd (upd H2 od (.lst (O.map V.ref++.ref l::OB.map V.ref))) fs (.lst (nL (A.map Prod.fst)++.int (v1:Nat)::nL (B.map Prod.fst)))) gr (.lst (nL (gs.eraseIdx A.length)))) od=some (.lst (O.map V.ref++.ref l::OB.map V.ref)):=by rw [ZAJ a7,ZAJ (Ne.symm a9),ZAE]
 have af:(upd (upd (upd H2 od (.lst (O.map V.ref++.ref l::OB.map V.ref))) fs (.lst (nL (A.map Prod.fst)++.int (v1:Nat)::nL (B.map Prod.fst)))) gr (.lst (nL (gs.eraseIdx A.length)))) gr=some (.lst (nL (gs.eraseIdx A.length))):=ZAE
 generalize (upd (upd (upd H2 od (.lst (O.map V.ref++.ref l::OB.map V.ref))) fs (.lst (nL (A.map Prod.fst)++.int (v1:Nat)::nL (B.map Prod.fst)))) gr (.lst (nL (gs.eraseIdx A.length))))=H3 at F3 ae ah ai af ⊢
 have aj:l∉[fs,od,gr]:=λz=>by obtain ⟨y,hy⟩:=pa.lsts l z;rw [hy] at a3;cases a3
 have b7:t∉[fs,od,gr]:=λz=>by obtain ⟨y,hy⟩:=U.lsts t z;rw [hy] at ht;cases ht
 have a6:∀ b∈O++l::OB,b∉[fs,od,gr] /\ b∉c.A /\ (b∈O++b1::b2::OB∨H b=none):=λb hb=>by
  rcases yAY.mp hb with z | z
  .have m:=yBS (b1::b2::OB) z
   exact ⟨pa.nb b m,px.n2 b m,.inl m⟩
  rcases yAI.mp z with z | z
  .rw [z];exact ⟨aj,st.off a3,.inr a3⟩
  .have m:b∈O++b1::b2::OB:=yAW _ (yAE _ (yAE _ z))
   exact ⟨pa.nb b m,px.n2 b m,.inl m⟩
 have kp:∀ b∈O++b1::b2::OB,∀ o,H b=some o->H3 b=some o:=λb hb o h=>F3 _ _ (pa.nb b hb) (s2 _ _ (a4 _ _ (Ad.SA (px.n2 b hb)) h))
 have b5:H3 fs=some (.lst (nL ((A++(v1,o)::B).map Prod.fst))):=by rw [ah,yAK];unfold nL;rw [yAK];rfl
 have az:H3 od=some (.lst ((O++l::OB).map V.ref)):=by rw [ai,yAK];rfl
 have ay:OrdAt H3 (O++l::OB) (A++(v1,o)::B):=(b3.keep λb hb=>kp b (yBS _ hb)).app ⟨F3 _ _ aj (s2 _ _ aw),ax.keep λb hb=>kp b (yAW _ (yAE _ (yAE _ hb)))⟩
 have ap:PW s e ⟨r,A++(v1,o)::B,gs.eraseIdx A.length⟩:=by
  refine ⟨Cl.app.mpr ⟨mm,c1,c2,by dsimp only;omega,?_⟩,aa,?_⟩ <;> dsimp only
  .rw [b4,<- Nat.add_assoc];exact c6
  .have:=pw.gl
   dsimp only at this
   rw [List.length_eraseIdx,if_pos a2,this]
   simp
 refine q t H3 ⟨r,A++(v1,o)::B,gs.eraseIdx A.length⟩ (O++l::OB) pr1 ⟨λb o n h=>?_,λb hb=>(a6 b hb).2.2,⟨ae,b5,az,af,ay,pa.ne,λb hb=>(a6 b hb).1⟩,⟨px.n1,λb hb=>(a6 b hb).2.1⟩,st2.three Y px F3,ap⟩ rfl (by simp;omega) hp
 refine F3 _ _ (λz=>n (yAE _ ?_)) (s2 _ _ (a4 _ _ (λz=>n (yAE _ (yAE _ (yAE _ (yAE _ z))))) h))
 exact yBS [c.a,c.lg,c.tl] z
theorem Oz (F:Fun K "lay" "Pile.lay" ZC4 f fd)(T:Bt K mg Ce Cd Cc Ca Cb)
  (a4:Fn P w K mg base CX0 "filled" 5 ["asker","first","least","end"] (spFillW Ca Cb))
  (O:Mt P w K mg base CX0 Cd "grade_on_top" 2 ["self","middle","beyond"] (spOnTop Cd))
 :FnOk P w K mg base CX0 6 f fd ["self"] (spLayW Ca Cb Cd):=by
 refine F.ok sc_Pile_lay (λvs H Q E h=>?_) (λbm A outer s H vs Q E hr h=>?_)
 .obtain ⟨c,pr,x,fs,od,gr,ls,s,e,r,oa,ps,gs,post,rfl,st,pa,px,pw,aa,he,hk,w,q⟩:=h
  rfl
 obtain ⟨c,pr,x,fs,od,gr,ls,s,e,r,oa,ps,gs,post,rfl,st,pa,px,pw,aa,he,hk,w,q⟩:=h
 refine ⟨_,(ZAB (ZAL (i:=1) sc_Pile_lay.nd rfl (by walk_at "o") (ZAP (pv 0) rfl))
  (ZAB (ZAL (i:=2) sc_Pile_lay.nd rfl (by walk_at "o") (ZAl a4 (hr.mono (by decide)) rfl ZAS (ZAA (ZAP (pv 0) rfl) (ZAA (pv 1) (ZAA (ZAP (pv 0) rfl) (ZAA (ZAP (pv 0) rfl) ZAC))))))
  (ZAR
  (ZAB (ZAL (i:=3) sc_Pile_lay.nd rfl (by walk_at "o") (ZAN ZAe (pv 1) (ZAK ZAI rfl T.b_len PySem.boot_len (ZAA (ZAg ZA4 (pv 2) ZAF (λ_ _=>rfl)) ZAC))))
  (ZAR
  (ZAB (ZAx (pt_lst (ZAP (pv 0) rfl))
  (ZAH (ZAh (ZB4 PySem.F.plainAttrs_list PySem.F.slot_list_append PySem.F.type_list_append ZA7 (ZAP (pv 0) rfl) (ZAA (ZBA O (hr.mono (by decide)) ZAS (pv 0) (ZAA (pv 1) (ZAA (pv 3) ZAC))) ZAC)))) ZAc)
  (ZAR
  (ZAB (ZAh (ZB4 PySem.F.plainAttrs_list PySem.F.slot_list_append PySem.F.type_list_append ZA7 (ZAP (pv 0) rfl) (ZAA (pv 1) ZAC)))
  (ZAB (ZAh (ZB4 PySem.F.plainAttrs_list PySem.F.slot_list_append PySem.F.type_list_append ZA7 (ZAP (pv 0) rfl) (ZAA (ZAg ZA4 (pv 2) ZAF (λ_ _=>rfl)) ZAC)))
  (ZAB (ZAu (pv 0) (pv 3) rfl)
  (ZAH (ZAQ (ZBB (ZAA pe_str (ZAA (pv 1) (ZAA (ZAg ZA4 (pv 2) ZAF (λ_ _=>rfl)) (ZAA (pv 3) ZAC))))))))))))))))),?_⟩
 walk_at "rd"
 have b7:=pw.re
 have a3:=pw.gl
 have ag:=pw.cl.le.1
 dsimp only at b7 a3 ag
 unfold layP at w
 refine pa.hp.get T.Da T.Nj (by walk_at "lk") (pa.hp.get T.Da T.Np (by walk_at "lk") (pa.hp.get T.Da T.Ny (by walk_at "lk") (pa.hp.get T.Da T.Nk (by walk_at "lk") ?_)))
 refine ⟨c,pr,r,ls,e,_,rfl,st,hk,aa,by omega,(w.bind).also (fillP_al2 aa),λt ol H1 fj pr1 ap a2 b1 ht ad hp=>?_⟩
 obtain ⟨⟨af,ba⟩,hp⟩:=hp
 obtain ⟨j,os⟩:=fj
 dsimp only at af ba ht ad hp
 have J:=pa.frS px ap
 obtain ⟨v3,aq⟩:∃ v3,v3=r+os.length:=⟨_,rfl⟩
 rw [<- aq] at hp
 refine ZAX ?_
 walk_at "rd"
 refine ZAz (SqT.of ht) (ZAj (by decide) rfl) ⟨ol,_,rfl,.inl (SqL.of ad),?_⟩
 rw [yAA]
 walk_at "rd"
 rw [show (r:Int)+(os.length:Int)=(v3:Nat) by omega]
 refine ZAX ?_
 walk_at "rd"
 have ab:t∉[fs,od,gr]:=λz=>by obtain ⟨y,hy⟩:=J.lsts t z;rw [hy] at ht;cases ht
 have a5:ol∉[fs,od,gr]:=λz=>by obtain ⟨y,hy⟩:=pa.lsts ol z;rw [hy] at a2;cases a2
 apply ZFo (λX:Hp=>PileAt Cd X x c.a fs od gr ls s e r oa ps (if ps.isEmpty then gs else gs++[grd (e-s) (topF ps-s) (r-s) (v3-s)]) /\ Fr [fs,od,gr] H1 X)
 .intro a7
  refine J.hp.get T.Da T.Nc (by walk_at "lk") ⟨fs,_,rfl,SqL.of J.hfs,?_⟩
  by_cases a1:ps≠[]
  .obtain ⟨A,p,rfl⟩:∃ A p,ps=A++[p]:=⟨ps.dropLast,ps.getLast a1,(List.dropLast_concat_getLast _).symm⟩
   rw [if_pos (by simp)]
   obtain ⟨m,c1,c2,c3,c5⟩:=Cl.app.mp pw.cl
   have c5:m+p.2.length=r:=c5
   have bj:=c1.le.1
   rw [yAC,yBD] at a3 ag
   refine J.hp.get T.Da T.Nl (by walk_at "lk") ?_
   walk_at "rd"
   refine ⟨.inl ⟨rfl,_,SqL.of J.hgr⟩,J.hp.meth (by walk_at "lk") ⟨x,c.a,fs,od,gr,ls,s,e,r,oa,A,p,gs,r,v3,rfl,J,by omega,by omega,by omega,by omega,by omega,λgg be bi=>?_⟩⟩
   refine ⟨gr,_,_,rfl,rfl,J.hgr,ZAk (by rw [yAA];omega),?_⟩
   have F:Fr [fs,od,gr] H1 (upd H1 gr (.lst (nL gs++[.int (gg:Nat)]))):=Fr.upd (yAE _ (yAE _ yAD))
   have P:PileAt Cd (upd H1 gr (.lst (nL gs++[.int (gg:Nat)]))) x c.a fs od gr ls s e r oa (A++[p]) (gs++[gg]):=⟨ZBw F J.xl J.hp,by rw [ZAJ J.ne.2.1];exact J.hfs,by rw [ZAJ J.ne.2.2];exact J.hod,by rw [ZAE];unfold nL;rw [yAK];rfl,J.oat.keep λb hb o h=>F _ _ (J.nb b hb) h,J.ne,J.nb⟩
   generalize upd H1 gr (.lst (nL gs++[.int (gg:Nat)]))=X at F P ⊢
   refine a7 X ⟨?_,F⟩
   rw [if_neg (by simp),show topF (A++[p])=p.1 by unfold topF;simp,grd_of (a:=p.1-s) (b:=r-s) (c:=v3-s) (n:=e-s) be (by omega) (by omega) (by omega)]
   exact P
  .have a1:ps=[]:=Classical.byContradiction a1
   rw [if_neg (by rw [a1];simp)]
   refine a7 H1 ⟨?_,.refl⟩
   rw [a1] at J ⊢
   exact J
 rintro X ⟨U,FX⟩
 obtain ⟨a6,ax⟩:∃ a6,a6=(if ps.isEmpty then gs else gs++[grd (e-s) (topF ps-s) (r-s) (v3-s)]):=⟨_,rfl⟩
 rw [<- ax] at U hp
 have ay:=FX _ _ ab ht
 have az:=FX _ _ a5 ad
 have bg:=U.oat.len
 have ac:=U.xl
 have b5:x≠fs:=λz=>ac (by rw [z];exact yAD)
 have bc:x≠od:=λz=>ac (by rw [z];exact yAE _ yAD)
 have bh:x≠gr:=λz=>ac (by rw [z];exact yAE _ (yAE _ yAD))
 obtain ⟨aj,b8,b4⟩:=U.ne
 refine ZAX ?_
 walk_at "rd"
 refine U.hp.get T.Da T.Nc (by walk_at "lk") ?_
 walk_at "rd"
 refine ⟨.inl ⟨rfl,_,SqL.of U.hfs⟩,fs,_,_,rfl,rfl,U.hfs,ZAk (by rw [yAA,yAA];omega),?_⟩
 obtain ⟨us,ai⟩:∃ us,nL (ps.map Prod.fst)++[.int (r:Nat)]=us:=⟨_,rfl⟩
 rw [ai]
 have aw:Ins (upd X fs (.lst us)) x Cd (fPl c.a ls s e r fs od gr):=U.hp.keep (ZAJ b5)
 have a9:upd X fs (.lst us) od=some (.lst (oa.map V.ref)):=by rw [ZAJ (Ne.symm aj)];exact U.hod
 refine aw.get T.Da T.Na (by walk_at "lk") ?_
 walk_at "rd"
 refine ⟨.inl ⟨rfl,_,SqL.of a9⟩,ZAz (SqT.of (by rw [ZAJ (λz=>ab (by rw [z];exact yAD))];exact ay)) (ZAj (by decide) rfl) ⟨od,_,_,rfl,rfl,a9,ZAk (by rw [yAA];omega),?_⟩⟩
 have F2:Fr [fs,od,gr] X (upd (upd X fs (.lst us)) od (.lst (oa.map V.ref++[.ref ol]))):=(Fr.upd yAD).trans (Fr.upd (yAE _ yAD))
 have a8:Ins (upd (upd X fs (.lst us)) od (.lst (oa.map V.ref++[.ref ol]))) x Cd (fPl c.a ls s e r fs od gr):=aw.keep (ZAJ bc)
 have au:(upd (upd X fs (.lst us)) od (.lst (oa.map V.ref++[.ref ol]))) fs=some (.lst us):=by rw [ZAJ aj,ZAE]
 have b0:(upd (upd X fs (.lst us)) od (.lst (oa.map V.ref++[.ref ol]))) od=some (.lst (oa.map V.ref++[.ref ol])):=ZAE
 have am:(upd (upd X fs (.lst us)) od (.lst (oa.map V.ref++[.ref ol]))) gr=some (.lst (nL a6)):=by rw [ZAJ (Ne.symm b4),ZAJ (Ne.symm b8)];exact U.hgr
 generalize (upd (upd X fs (.lst us)) od (.lst (oa.map V.ref++[.ref ol])))=Y at F2 a8 au b0 am ⊢
 refine a8.set T.Da T.Nj (λZ bb kZ=>?_) ⟨_,by walk_at "lk"⟩
 have a0:∀ {b:Addr} {us:List V},Y b=some (.lst us)->Z b=some (.lst us):=fun {b us} h=>by rw [kZ b (a8.ne h λ_ _ _ z=>by cases z)];exact h
 have ah:=F2 _ _ ab ay
 have b2:Z t=some (.tup [.int (j:Nat),.ref ol]):=by rw [kZ t (a8.ne ah λ_ _ _ z=>by cases z)];exact ah
 walk_at "rd"
 refine ZAz (SqT.of b2) (ZAj (by decide) rfl) ⟨ZAW (by decide),λt2 bd=>?_⟩
 obtain ⟨W,eW,sW,hW⟩:=newH bd (.tup [.str "lay",.int (r:Nat),.int (j:Nat),.int (v3:Nat)])
 rw [eW];clear eW
 have FY:Fr [fs,od,gr] H1 Y:=FX.trans F2
 have ae:∀ b∈oa++[ol],b∉[fs,od,gr] /\ b∉c.A /\ (b∈oa∨H b=none):=λb hb=>by
  rcases yAY.mp hb with z | z
  .exact ⟨pa.nb b z,px.n2 b z,.inl z⟩
  .rw [yAH.mp z];exact ⟨a5,st.off a2,.inr a2⟩
 have av:OrdAt W (oa++[ol]) (ps++[(r,os)]):=by
  refine OrdAt.app ?_ ⟨sW _ _ (a0 (F2 _ _ a5 az)),trivial⟩
  refine U.oat.keep λb hb o h=>sW _ _ ?_
  obtain ⟨i,hi⟩:=yBY hb
  obtain ⟨p',_,ao⟩:=U.oat.get hi
  have e1:o=.lst (nL p'.2):=Option.some.inj (h.symm.trans ao)
  rw [e1]
  exact a0 (F2 _ _ (U.nb b hb) ao)
 obtain ⟨dx,fl,b6,_,_⟩:=a8.ex
 have bf:=b1.three J px FY
 have b9:SitR Ca Cb Z c pr1:=bf.apart (S:=[x]) (λb o n h=>by rw [kZ b (λz=>n (by rw [z];exact yAD))];exact h) (λb hb=>by rw [yAH.mp hb];exact .inr (.inl ⟨_,_,_,b6⟩)) λb hb=>by rw [yAH.mp hb];exact px.n1.1
 have b3:PW s e ⟨v3,ps++[(r,os)],a6⟩:=by
  refine ⟨Cl.app.mpr ⟨r,pw.cl,rfl,af,aq.symm⟩,by dsimp only;omega,?_⟩
  dsimp only
  rw [yAC,yBD,ax]
  cases a1:ps with
  | nil=>rw [a1] at a3;simpa using a3
  | cons p ps'=>rw [a1] at a3;simp at a3 ⊢;omega
 refine q t2 W ⟨v3,ps++[(r,os)],a6⟩ (oa++[ol]) pr1 ⟨λb o n h=>?_,λb hb=>(ae b hb).2.2,⟨?_,?_,?_,?_,av,U.ne,λb hb=>(ae b hb).1⟩,⟨px.n1,λb hb=>(ae b hb).2.1⟩,b9.mono sW,b3⟩ (by dsimp only;omega) (by simp) hp
 .refine sW _ _ ?_
  rw [kZ b (λz=>n (by rw [z];exact yAD))]
  refine FY _ _ (λz=>n (yAE _ (yBS [c.a,c.lg,c.tl] z))) (ap _ _ (λz=>n (yAE _ (yAE _ (yAE _ (yAE _ z))))) h)
 .exact (bb.congr fPl_reached).mono sW
 .refine sW _ _ (a0 ?_)
  rw [au,<- ai,yAK];unfold nL;rw [yAK];rfl
 .refine sW _ _ (a0 ?_)
  rw [b0,yAK];rfl
 .exact sW _ _ (a0 am)
theorem Oa (F:Fun K "step" "Pile.step" ZCd f fd)(T:Bt K mg Ce Cd Cc Ca Cb)
  (O:Mt P w K mg base CX0 Cd "is_due_beneath" 1 ["self"] (spDue Cd))
  (J:Mt P w K mg base CX0 Cd "join_two" 7 ["self","lower"] (spJoinTwoW Ca Cb Cd))
  (Y:Mt P w K mg base CX0 Cd "lay" 6 ["self"] (spLayW Ca Cb Cd))
 :FnOk P w K mg base CX0 8 f fd ["self"] (spStepW Ca Cb Cd):=by
 refine F.ok sc_Pile_step (λvs H Q E h=>?_) (λa4 A outer s H vs Q E hr h=>?_)
 .obtain ⟨c,pr,x,fs,od,gr,ls,s,e,r,oa,ps,gs,post,rfl,st,U,px,pw,he,hk,w,q0,q⟩:=h
  rfl
 obtain ⟨c,pr,x,fs,od,gr,ls,s,e,r,oa,ps,gs,post,rfl,st,U,px,pw,he,hk,w,q0,q⟩:=h
 refine ⟨_,(ZAB (ZAx (ZBP (ZBG O (hr.mono (by decide)) ZAS (pv 0)))
  (ZAH (ZAQ (ZBA J (hr.mono (by decide)) ZAS (pv 0) (ZAA (ZAN ZAv (ZAK ZAI rfl T.b_len PySem.boot_len (ZAA (ZAP (pv 0) rfl) ZAC)) ZAF) ZAC)))) ZAc)
  (ZAB (ZAx (ZAO ZDE (ZAP (pv 0) rfl) (ZAP (pv 0) rfl) (ZAU _))
  (ZAH (ZAQ (ZBG Y (hr.mono (by decide)) ZAS (pv 0)))) ZAc)
  (ZAB (ZAx (ZAO ZDk (ZAK ZAI rfl T.b_len PySem.boot_len (ZAA (ZAP (pv 0) rfl) ZAC)) ZAF (ZAU _))
  (ZAH (ZAQ (ZBA J (hr.mono (by decide)) ZAS (pv 0) (ZAA (ZAN ZAv (ZAK ZAI rfl T.b_len PySem.boot_len (ZAA (ZAP (pv 0) rfl) ZAC)) ZAF) ZAC)))) ZAc)
  (ZAH (ZAQ ZA5))))),?_⟩
 walk_at "rd"
 have a3:=U.oat.len
 have a2:=pw.gl
 have a0:=pw.cl.le.1
 have a1:=pw.re
 dsimp only at a2 a0 a1
 unfold ZFE at w
 dsimp only at w
 refine U.hp.meth (by walk_at "lk") ⟨x,c.a,fs,od,gr,ls,s,e,r,oa,ps,gs,rfl,U,ZBV ?_⟩
 cases hd:dueB gs with
 | true=>
  rw [if_pos rfl]
  rw [if_pos hd] at w
  have h2:=ZEC hd
  refine U.hp.meth (by walk_at "lk") (U.hp.get T.Da T.Na (by walk_at "lk") ⟨od,_,rfl,.inl (SqL.of U.hod),?_⟩)
  refine ⟨c,pr,x,fs,od,gr,ls,s,e,ps.length-3,r,oa,ps,gs,post,?_,st,U,px,pw,by omega,he,hk,w,λt H' t' oa' pr' lf e1 e2 hp=>?_⟩
  .rw [yAA];congr 3;omega
  .exact q t H' t' oa' pr' lf (by omega) hp
 | false=>
  rw [if_neg (by decide)]
  rw [if_neg (by rw [hd];decide)] at w
  refine U.hp.get T.Da T.Nj (by walk_at "lk") (U.hp.get T.Da T.Nk (by walk_at "lk") (ZC9 (ZBV ?_)))
  by_cases hlt:r < e
  .rw [if_pos (decide_eq_true (by omega))]
   rw [if_pos hlt] at w
   refine U.hp.meth (by walk_at "lk") ⟨c,pr,x,fs,od,gr,ls,s,e,r,oa,ps,gs,post,rfl,st,U,px,pw,hlt,he,hk,w,λt H' t' oa' pr' lf e1 e2 hp=>?_⟩
   have:=lf.2.2.2.2.2.re
   exact q t H' t' oa' pr' lf (by omega) hp
  .rw [if_neg (by simp;omega)]
   rw [if_neg hlt] at w
   refine U.hp.get T.Da T.Na (by walk_at "lk") ⟨od,_,rfl,.inl (SqL.of U.hod),?_⟩
   rw [yAA]
   by_cases h2:1 < ps.length
   .rw [if_pos (by omega)]
    rw [if_pos h2] at w
    refine U.hp.meth (by walk_at "lk") (U.hp.get T.Da T.Na (by walk_at "lk") ⟨od,_,rfl,.inl (SqL.of U.hod),?_⟩)
    refine ⟨c,pr,x,fs,od,gr,ls,s,e,ps.length-2,r,oa,ps,gs,post,?_,st,U,px,pw,by omega,he,hk,w,λt H' t' oa' pr' lf e1 e2 hp=>?_⟩
    .rw [yAA];congr 3;omega
    .exact q t H' t' oa' pr' lf (by omega) hp
   .rw [if_neg (by omega)]
    rw [if_neg h2] at w
    exact q0 w
theorem Oo (F:Fun K "paper" "Pile.paper" ZCG f fd)(T:Bt K mg Ce Cd Cc Ca Cb)
 :FnOk P w K mg base CX0 1 f fd ["self"] (spPaper Cd):=by
 refine F.ok sc_Pile_paper (λvs H Q E h=>?_) (λa6 A outer s H vs Q E hr h=>?_)
 .obtain ⟨x,a,fs,od,gr,ls,s,e,r,oa,ps,gs,rfl,O,Y,a2,he,q⟩:=h
  rfl
 obtain ⟨x,a,fs,od,gr,ls,s,e,r,oa,ps,gs,rfl,O,Y,a2,he,q⟩:=h
 refine ⟨_,(ZAB (ZAL (i:=1) sc_Pile_paper.nd rfl (by walk_at "o") (ZA6 ZAC))
  (ZAB (ZBk PassesOwn.never rfl (ZAq (ZAP (pv 0) rfl)) (ZAY (i:=2) sc_Pile_paper.nd rfl (by walk_at "o"))
  (ZAH (ZAh (ZB4 PySem.F.plainAttrs_list PySem.F.slot_list_extend PySem.F.type_list_extend mt_extend (pv 1) (ZAA (pv 2) ZAC)))))
  (ZAH (ZAQ (ZAN ZEM (pv 1) (ZAi (ZCC rfl) rfl T.b_list PyProof.Rows.boot_list (ZAA (ZAi call_rng2 rfl T.b_range PyProof.Rows.boot_range (ZAA (ZAP (pv 0) rfl) (ZAA (ZAP (pv 0) rfl) ZAC))) ZAC))))))),?_⟩
 walk_at "rd"
 refine ⟨yAJ _,λp hp=>?_⟩
 obtain ⟨H1,e1,s1,h1⟩:=newH hp (.lst [])
 rw [e1];clear e1
 have a0:=O.mono s1
 have a3:=O.oat.len
 refine a0.hp.get T.Da T.Na (by walk_at "lk") ?_
 refine ZB8 (SqL.of a0.hod) (λi σ X=>∃ v2,σ=[some (.ref x),some (.ref p),v2] /\ Same H X /\ X p=some (.lst (nL (flt (ps.take i))))) ⟨_,rfl,s1,h1⟩ (λi σ X _ ⟨_,_,J,_⟩=>SqL.of (J _ _ O.hod)) ?_ ?_
 .rintro i y σ X hy ⟨v2,rfl,J,hX⟩
  obtain ⟨b,hb,rfl⟩:∃ b,oa[i]?=some b /\ y=.ref b:=by
   rw [yAM] at hy
   cases hz:oa[i]? with
   | none=>rw [hz] at hy;cases hy
   | some b=>rw [hz] at hy;exact ⟨b,rfl,(Option.some.inj hy).symm⟩
  obtain ⟨p1,g1,g2⟩:=O.oat.get hb
  have e1:flt (ps.take (i+1))=flt (ps.take i)++p1.2:=by
   rw [yCH,g1,flt_app]
   congr 1
   unfold flt
   simp
  have a5:(flt (ps.take i)).length+p1.2.length <= 500:=by
   have e2:flt ps=flt (ps.take (i+1))++flt (ps.drop (i+1)):=by rw [<- flt_app,yBJ]
   rw [e2,e1,yAC,yAC] at Y
   omega
  walk_at "rd"
  refine ⟨.inl ⟨rfl,_,SqL.of hX⟩,p,b,_,_,rfl,rfl,hX,J _ _ g2,ZAW (by rw [yAA,yAA];omega),?_⟩
  refine ⟨_,rfl,J.upd hp,?_⟩
  rw [ZAE,e1]
  unfold nL
  rw [yAK]
 rintro σ X ⟨v2,rfl,J,hX⟩
 rw [yAA,a3,List.take_length] at hX
 walk_at "rd"
 have U:=O.mono J
 refine U.hp.get T.Da T.Nj (by walk_at "lk") (U.hp.get T.Da T.Nk (by walk_at "lk") ⟨_,_,rfl,λp2 a1=>?_⟩)
 obtain ⟨H3,e3,s3,h3⟩:=newH a1 (.rng r e)
 rw [e3];clear e3
 refine ⟨p2,r,e,rfl,h3,by omega,λl2 a4=>?_⟩
 rw [ZDU]
 obtain ⟨H4,e4,s4,h4⟩:=newH a4 (.lst (nL (List.range' r (e-r))))
 rw [e4];clear e4
 refine ⟨p,l2,_,_,rfl,rfl,s4 _ _ (s3 _ _ hX),h4,ZAW (by rw [yAA,yAA,yDB];omega),λl hl=>?_⟩
 refine q l _ (J.trans (s3.trans (s4.new hl))) ((J.trans (s3.trans s4)).free hl) ?_
 rw [ZAE]
 unfold nL
 rw [yAK]
theorem O4 (F:FunD K "by_pile" "by_pile" ZDT f fd dv)(T:Bt K mg Ce Cd Cc Ca Cb)
  (J:Mt P w K mg base CX0 Cd "paper" 1 ["self"] (spPaper Cd))
  (O:Mt P w K mg base CX0 Cd "step" 8 ["self"] (spStepW Ca Cb Cd))
  (a0:Kl P w K mg base CX0 "Pile" Cd 2 ["self","asker","least","part"] (spPileInit Ca Cd))
 :FnOk P w K mg base CX0 9 f fd ["asker","least","part"] (spByPileW Ca Cb):=by
 refine F.ok Vv (λvs H Q E h=>?_) (λag A outer s H vs Q E hr h=>?_)
 .obtain ⟨c,pr,ls,s,e,pt,post,rfl,st,a6,a4,he,hk,w,q⟩:=h
  rfl
 obtain ⟨c,pr,ls,s,e,pt,post,rfl,st,a6,a4,he,hk,w,q⟩:=h
 refine ⟨_,(ZAB (ZAL (i:=3) Vv.nd rfl (by walk_at "o") (ZFS a0 (hr.mono (by decide)) rfl ZAS (ZAA (pv 0) (ZAA (pv 1) (ZAA (pv 2) ZAC)))))
  (ZAB (ZBY PassesOwn.never (ZAO ZD6 (ZBG O (hr.mono (by decide)) ZAS (pv 3)) ZA5 (ZAU _))
  (ZAH (ps_pass)))
  (ZAH (ZAQ (ZBG J (hr.mono (by decide)) ZAS (pv 3)))))),?_⟩
 walk_at "rd"
 intro x dx hx ad af
 have a9:upd H dx (.own x) x=none:=by rw [ZAJ (Ne.symm af)];exact hx
 have U:Same H (upd (upd H dx (.own x)) x (.ins Cd dx [])):=(ZAM ad _).trans (ZAM a9 _)
 have hB:(upd (upd H dx (.own x)) x (.ins Cd dx [])) x=some (.ins Cd dx []):=ZAE
 generalize upd (upd H dx (.own x)) x (.ins Cd dx [])=HB at U hB ⊢
 refine ⟨x,dx,c.a,ls,s,e,.ref pt,rfl,hB,.inl ⟨pt,rfl,U _ _ a6⟩,λfs od gr HC kC a3 a7 a8 ae=>⟨rfl,?_⟩⟩
 have kA:Same H HC:=λb o h=>kC b o (ZAD h hx) (U _ _ h)
 have px:PXw c x fs od gr []:=⟨⟨st.off hx,st.off (U.free a3),st.off (U.free a7),st.off (U.free a8)⟩,λb hb=>by cases hb⟩
 walk_at "rd"
 refine ZBW (λn σ X=>∃ (t:PS) (m:Nat) (oa:List Addr) (pr':List A3),n=2 * (e-t.r)+t.ps.length /\ σ=[some (.ref c.a),some (.int ls),some (.ref pt),some (.ref x)] /\ 2 * (e-t.r)+t.ps.length < m /\ PW s e t /\ PileAt Cd X x c.a fs od gr ls s e t.r oa t.ps t.gs /\ PXw c x fs od gr oa /\ SitR Ca Cb X c pr' /\ Wp c.n c.an (ZFm grd ls s e m t) pr' post /\ Fr [x,fs,od,gr,c.a,c.lg,c.tl] HC X) ⟨_,⟨s,[],[]⟩,_,[],pr,rfl,rfl,by simp,⟨rfl,a4,rfl⟩,ae,px,st.mono kA,w,.refl⟩ ?_
 rintro n σ X ⟨t,m,oa,pr',rfl,rfl,hm,pw,pa,ac,a2,wX,fX⟩
 obtain ⟨m,rfl⟩:∃ m',m=m' + 1:=⟨m-1,by omega⟩
 obtain ⟨r,ps,gs⟩:=t
 dsimp only at hm pa
 have a1:=pw.cl.le
 have a5:=pw.re
 dsimp only at a1 a5
 have fin:∀ {Z:Hp},Same X Z->Fr c.S H Z:=fun {Z} sZ b o n h=>sZ _ _ (fX _ _ (λz=>by
  rcases yAI.mp z with z | z
  .exact ZAD h hx z
  rcases yAI.mp z with z | z
  .exact ZAD h (U.free a3) z
  rcases yAI.mp z with z | z
  .exact ZAD h (U.free a7) z
  rcases yAI.mp z with z | z
  .exact ZAD h (U.free a8) z
  .exact n z) (kA _ _ h))
 walk_at "rd"
 refine pa.hp.meth (by walk_at "lk") ⟨c,pr',x,fs,od,gr,ls,s,e,r,oa,ps,gs,_,rfl,a2,pa,ac,pw,he,hk,wX.bind,λhp=>?_,λt2 Y t' oa' pr2 lf aa hp=>?_⟩
 .refine pa.hp.meth (by walk_at "lk") ⟨x,c.a,fs,od,gr,ls,s,e,r,oa,ps,gs,rfl,pa,by rw [a1.2];omega,a5,he,λl Z sZ ab hl=>?_⟩
  exact q l Z _ pr' (fin sZ) (a2.free (fin (.refl _)) ab) hl (a2.mono sZ) (by rw [yAC,a1.2,yDB];omega) hp
 .refine ZBX ?_
  walk_at "rd"
  obtain ⟨f1,f2,f4,f5,f6,f7⟩:=lf
  exact ⟨_,aa,t',m,oa',pr2,rfl,by omega,f7,f4,f5,f6,hp,fX.trans f1⟩
theorem Oav {n:Nat}(F:Fun K "meetings_of" "meetings_of" ZB0 f fd)(T:Bt K mg Ce Cd Cc Ca Cb)
  (J:Fn P w K mg base CX0 "meetings_of" n ["first","beyond"] (spMeetings n))
 :FnOk P w K mg base CX0 (n+1) f fd ["first","beyond"] (spMeetings (n+1)):=by
 refine F.ok Vu (λvs H Q E h=>?_) (λaf A outer s H vs Q E hr h=>?_)
 .obtain ⟨f,b,rfl,a5,a9,ac,U,q⟩:=h
  rfl
 obtain ⟨f,b,rfl,a5,a9,ac,U,q⟩:=h
 refine ⟨_,(ZAB (ZAx (ZAO ZDE (ZAN ZAv (pv 1) (pv 0)) ZAF (ZAU _))
  (ZAH (ZAQ (ZA6 ZAC))) ZAc)
  (ZAB (ZAL (i:=2) Vu.nd rfl (by walk_at "o") (ZAN ZAe (pv 0) (ZAN ZAn (ZAN ZAe (ZAN ZAv (pv 1) (pv 0)) ZAF) ZAF)))
  (ZAH (ZAQ (ZAN ZEM (ZAN ZEM (ZAl J (hr.mono (yAB _)) rfl ZAS (ZAA (pv 0) (ZAA (pv 2) ZAC))) (ZAl J (hr.mono (yAB _)) rfl ZAS (ZAA (pv 2) (ZAA (pv 1) ZAC)))) (ZA6 (ZAA (ZBB (ZAA (pv 0) (ZAA (pv 2) (ZAA (pv 1) ZAC)))) ZAC))))))),?_⟩
 walk_at "rd"
 by_cases hlt:(b:Int)-f < 2
 .rw [if_pos hlt]
  refine ⟨yAJ _,λl hl=>q l _ [] (ZAM hl _) hl ZAE ?_⟩
  rw [Po.mts_leaf (by omega)]
  exact MsAt.nil
 rw [if_neg hlt]
 refine ⟨⟨by decide,by decide⟩,?_⟩
 have hm:=Po.mid_lt (f:=f) (b:=b) (by omega)
 have em:(f:Int)+((b:Int)-f+1) / 2=((Po.mid f b:Nat):Int):=by unfold Po.mid;omega
 rw [em]
 have a7:2 ^ (n+1-1)=2 ^ n:=by rw [Nat.add_sub_cancel]
 rw [a7] at U
 obtain ⟨k,rfl⟩:∃ k,n=k+1:=⟨n-1,by
  cases n with
  | zero=>rw [Nat.pow_zero] at U;omega
  | succ n=>rfl⟩
 rw [Nat.pow_succ] at U
 refine ⟨f,Po.mid f b,rfl,by omega,by omega,by omega,by rw [Nat.add_sub_cancel];unfold Po.mid at *;omega,λl1 H1 a0 s1 ad aa a3=>?_⟩
 refine ⟨Po.mid f b,b,rfl,by omega,by omega,by omega,by rw [Nat.add_sub_cancel];unfold Po.mid at *;omega,λl2 H2 Y s2 ae ab a4=>?_⟩
 have a1:=a3.len
 have a2:=a4.len
 rw [Po.mts_len] at a1 a2
 refine ⟨l1,l2,a0,Y,rfl,rfl,s2 _ _ aa,ab,ZAW (by omega),λl3 a8=>?_⟩
 obtain ⟨H3,e3,s3,h3⟩:=newH a8 (.lst (a0++Y))
 rw [e3];clear e3
 refine ⟨ZAW (by decide),λt ht=>?_⟩
 obtain ⟨H4,e4,s4,h4⟩:=newH ht (.tup [.int (f:Int),.int ((Po.mid f b:Nat):Int),.int (b:Int)])
 rw [e4];clear e4
 refine ⟨ZAW (by decide),λl4 a6=>?_⟩
 obtain ⟨H5,e5,s5,h5⟩:=newH a6 (.lst [.ref t])
 rw [e5];clear e5
 refine ⟨l3,l4,_,_,rfl,rfl,s5 _ _ (s4 _ _ h3),h5,ZAW (by rw [yAC,yBD];omega),λl6 O=>?_⟩
 have S5:=s1.trans (s2.trans (s3.trans (s4.trans s5)))
 refine q l6 _ _ (S5.trans (ZAM O _)) (S5.free O) ZAE ?_
 rw [Po.mts_node (by omega)]
 have up:∀ t x,H5 t=some (.tup x)->upd H5 l6 (.lst (a0++Y++[.ref t])) t=some (.tup x):=λt x h=>ZAM O _ _ _ h
 exact ((a3.keep λ_ _ z=>ZAM O _ _ _ (s5 _ _ (s4 _ _ (s3 _ _ (s2 _ _ z))))).app (a4.keep λ_ _ z=>ZAM O _ _ _ (s5 _ _ (s4 _ _ (s3 _ _ z))))).app (MsAt.one (ZAM O _ _ _ (s5 _ _ h4)))
theorem O5 (F:Fun K "front_of" "Pour.front_of" ZBc f fd)(T:Bt K mg Ce Cd Cc Ca Cb)
 :FnOk P w K mg base CX0 1 f fd ["self","piece","taken"] (spFrontOf Cc):=by
 refine F.ok sc_Pour_front_of (λvs H Q E h=>?_) (λa0 A outer s H vs Q E hr h=>?_)
 .obtain ⟨p,ak,pl,tk,ml,wd,pls,pcs,i,t,xs,rfl,J,U,q⟩:=h
  rfl
 obtain ⟨p,ak,pl,tk,ml,wd,pls,pcs,i,t,xs,rfl,J,U,q⟩:=h
 refine ⟨_,(ZAB (ZAL (i:=3) sc_Pour_front_of.nd rfl (by walk_at "o") (ZAg ZAd (ZAP (pv 0) rfl) (pv 1) (λ_ _=>rfl)))
  (ZAH (ZAQ (ZAy (ZAO ZDE (pv 2) (ZAK ZAI rfl T.b_len PySem.boot_len (ZAA (pv 3) ZAC)) (ZAU _)) (ZBB (ZAA (ZAg ZAd (pv 3) (pv 2) (λ_ _=>rfl)) (ZAA (pv 1) ZAC))) ZA5)))),?_⟩
 walk_at "rd"
 obtain ⟨l,el,hl⟩:=J.at U
 refine J.hp.get T.Db T.Ng (by walk_at "lk") (ZAo (SqL.of J.hpl) (ZAj (v:=.ref l) (by omega) (by rw [Int.toNat_natCast,yAM,el];rfl)) ?_)
 walk_at "rd"
 refine ⟨l,_,rfl,.inl (SqL.of hl),?_⟩
 rw [yAA]
 by_cases hlt:(t:Int) < xs.length
 .rw [if_pos hlt]
  have ht:t < xs.length:=by omega
  have Y:xs[t]?=some xs[t]:=yAF ht
  refine ZAo (SqL.of hl) (atI_nN Y) ⟨ZAW (by decide),λr O=>q _ _ (ZAM O _) ?_⟩
  unfold front
  rw [Y]
  exact ⟨r,rfl,ZAE⟩
 .rw [if_neg hlt]
  refine q _ _ (.refl _) ?_
  unfold front
  rw [yBO (by omega)]
  rfl
theorem Ot (F:Fun K "goes_on" "Pour.goes_on" ZBr f fd)(T:Bt K mg Ce Cd Cc Ca Cb)
  (J:Mt P w K mg base CX0 Ca "ahead" 3 ["self","p","q"] (spAhead Ca Cb ZBF))
 :FnOk P w K mg base CX0 4 f fd ["self","p","q"] (spGoesOnW Ca Cb Cc):=by
 refine F.ok sc_Pour_goes_on (λvs H Q E h=>?_) (λa0 A outer s H vs Q E Y h=>?_)
 .obtain ⟨c,pr,p,pl,tk,ml,wd,x,y,k,post,rfl,st,U,O,w,q⟩:=h
  rfl
 obtain ⟨c,pr,p,pl,tk,ml,wd,x,y,k,post,rfl,st,U,O,w,q⟩:=h
 refine ⟨_,(ZAH (ZAQ (ZBA J (Y.mono (by decide)) ZAS (ZAP (pv 0) rfl) (ZAA (pv 1) (ZAA (pv 2) ZAC))))),?_⟩
 walk_at "rd"
 exact U.get T.Db T.Nw (by walk_at "lk") (st.ha.meth (by walk_at "lk") (st.ahead O w q))
theorem Oak (F:Fun K "met" "Pour.met" ZC3 f fd)(T:Bt K mg Ce Cd Cc Ca Cb)
  (J:Mt P w K mg base CX0 Cc "goes_on" 4 ["self","p","q"] (spGoesOnW Ca Cb Cc))
 :FnOk P w K mg base CX0 5 f fd ["self","one","other"] (spMetW Ca Cb Cc):=by
 refine F.ok sc_Pour_met (λvs H Q E h=>?_) (λa0 A outer s H vs Q E hr h=>?_)
 .obtain ⟨c,pr,p,pl,tk,ml,wd,u1,u2,one,other,post,rfl,st,hp,h1,h2,hk,w,q⟩:=h
  rfl
 obtain ⟨c,pr,p,pl,tk,ml,wd,u1,u2,one,other,post,rfl,st,hp,h1,h2,hk,w,q⟩:=h
 refine ⟨_,(ZAB (ZAx (PW.pt (ZD5 (ZAO ZCT (pv 1) ZA5 (ZAU _)) (ZDA (ZAO ZCT (pv 2) ZA5 (ZAU _)))))
  (ZAH (ZAQ (ZAy (ZAO ZCT (pv 1) ZA5 (ZAU _)) (pv 2) (pv 1)))) ZAc)
  (ZAH (ZAQ (ZAy (ZBP (ZBA J (hr.mono (by decide)) ZAS (pv 0) (ZAA (ZAg ZA4 (pv 1) ZAF (λ_ _=>rfl)) (ZAA (ZAg ZA4 (pv 2) ZAF (λ_ _=>rfl)) ZAC)))) (pv 1) (pv 2))))),?_⟩
 walk_at "rd"
 have nn:∀ t,V.ref t≠V.non:=λ_ z=>by cases z
 cases one with
 | none=>
  cases (show u1=V.non from h1)
  rw [if_pos rfl,if_pos rfl]
  exact q u2 H other pr .refl st h2 w
 | some x=>
  obtain ⟨t1,rfl,O⟩:=h1
  rw [if_neg (nn _)]
  cases other with
  | none=>
   cases (show u2=V.non from h2)
   rw [if_pos rfl,if_neg (nn _)]
   exact q _ H (some x) pr .refl st ⟨t1,rfl,O⟩ w
  | some y=>
   obtain ⟨t2,rfl,U⟩:=h2
   rw [if_neg (nn _)]
   refine hp.meth (by walk_at "lk") (ZAz (SqT.of O) (ZAj (by decide) rfl) (ZAz (SqT.of U) (ZAj (by decide) rfl) ?_))
   have w:Wp c.n c.an (ahd x.1 y.1 λb=>.ret (if b then some x else some y)) pr post:=w
   refine ⟨c,pr,p,pl,tk,ml,wd,x.1,y.1,_,post,rfl,st,hp,hk,w,λb H2 pr2 Y s2 w2=>ZBV ?_⟩
   cases b
   .rw [if_neg (by decide)]
    exact q _ H2 (some y) pr2 Y s2 ⟨t2,rfl,st.tup Y U⟩ w2
   .rw [if_pos rfl]
    exact q _ H2 (some x) pr2 Y s2 ⟨t1,rfl,st.tup Y O⟩ w2
theorem Oh (F:Fun K "held" "Pour.held" ZCc f fd)(T:Bt K mg Ce Cd Cc Ca Cb)
  (O:Mt P w K mg base CX0 Cc "met" 5 ["self","one","other"] (spMetW Ca Cb Cc))
 :FnOk P w K mg base CX0 6 f fd ["self","meetings","went_on"] (spHeldW Ca Cb Cc):=by
 refine F.ok sc_Pour_held (λvs H Q E h=>?_) (λb8 A outer s H vs Q E hr h=>?_)
 .obtain ⟨c,pr,p,pl,tk,ml,wd,mt,wo,mvs,ms,w0,B,k,kvs,post,rfl,st,hp,np,ac,a3,hM,am,ag,dt,hB,a5,hk,w,a6,q⟩:=h
  rfl
 obtain ⟨c,pr,p,pl,tk,ml,wd,mt,wo,mvs,ms,w0,B,k,kvs,post,rfl,st,hp,np,ac,a3,hM,am,ag,dt,hB,a5,hk,w,a6,q⟩:=h
 refine ⟨_,(ZAB (ZAL (i:=3) sc_Pour_held.nd rfl (by walk_at "o") (ZAi (call_dictC) rfl T.b_dict PyProof.Rows.boot_dict (ZAA (pv 2) ZAC)))
  (ZAB (ZBk PassesOwn.never rfl (ZAq (pv 1)) (ZFO (n:=3) rfl (ZBl (ZAY (i:=4) sc_Pour_held.nd rfl (by walk_at "o")) (ZBl (ZAY (i:=5) sc_Pour_held.nd rfl (by walk_at "o")) (ZBl (ZAY (i:=6) sc_Pour_held.nd rfl (by walk_at "o")) ZEZ))))
  (ZAH (ZEY (ZE8 hr) (pv 3) (ZBB (ZAA (pv 4) (ZAA (pv 6) ZAC))) (ZBA O (hr.mono (by decide)) ZAS (pv 0) (ZAA (pe_dget (ZE8 hr) (pv 3) (ZBB (ZAA (pv 4) (ZAA (pv 5) ZAC))) (λ_ _=>rfl)) (ZAA (pe_dget (ZE8 hr) (pv 3) (ZBB (ZAA (pv 5) (ZAA (pv 6) ZAC))) (λ_ _=>rfl)) ZAC))) rfl)))
  (ZAH (ZAQ (pv 3))))),?_⟩
 walk_at "rd"
 refine ⟨wo,kvs,rfl,dt.hd,dt.sm,λd hd=>?_⟩
 obtain ⟨H1,e1,s1,h1⟩:=newH hd (.dT kvs)
 rw [e1];clear e1
 have b1:DT H1 d w0 B kvs:=⟨h1,dt.sm,dt.len,(dt.mono s1).val⟩
 have af:=st.off hd
 refine ZB8 (SqL.of (s1 _ _ a3)) (λi σ X=>∃ v4 v5 v6 wi kvi pr',σ=[some (.ref p),some (.ref mt),some (.ref wo),some (.ref d),v4,v5,v6] /\ DT X d wi (B+k * i) kvi /\ (k=1∨k=0 /\ ∀ m∈ms,(wi m.1 m.2.2).isSome=true) /\ SitR Ca Cb X c pr' /\ Fr c.S H X /\ Wp c.n c.an (ZBJ (ms.drop i) wi) pr' post) ⟨_,_,_,w0,kvs,pr,rfl,by rw [Nat.mul_zero];exact b1,a5,st.mono s1,s1.fr,w⟩ (λi σ X _ ⟨_,_,_,_,_,_,_,_,_,_,f,_⟩=>SqL.of (f _ _ ac a3)) ?_ ?_
 .rintro i x σ X hx ⟨v4,v5,v6,wi,kvi,pr',rfl,U,a7,a4,fi,J⟩
  have hi:=(yAO.mp hx).1
  rw [hM.len] at hi
  obtain ⟨m,hm⟩:∃ m,ms[i]?=some m:=⟨_,yAF hi⟩
  obtain ⟨t,ad,az⟩:=hM.get i m hm
  rw [hx] at ad
  cases ad
  refine ZEk (SqT.of (st.tup fi az)) rfl ?_
  walk_at "rd"
  rw [drop_consG hm,ZBJ] at J
  have a8:=ZBw fi np hp
  cases e1:wi m.1 m.2.1 with
  | none=>rw [e1] at J;exact absurd J (a6 _)
  | some x=>
  cases e2:wi m.2.1 m.2.2 with
  | none=>rw [e1,e2] at J;exact absurd J (a6 _)
  | some y=>
   rw [e1,e2] at J
   dsimp only at J
   obtain ⟨u1,aw,ap⟩:=U.val _ _ _ e1
   obtain ⟨u2,b2,b6⟩:=U.val _ _ _ e2
   refine a8.meth (by walk_at "lk") ⟨ZAW (by decide),λk1 ao=>?_⟩
   obtain ⟨X1,aa,ah,av⟩:=newH ao (.tup [.int (m.1:Int),.int (m.2.1:Int)])
   rw [aa];clear aa
   refine ⟨d,u1,rfl,by have:=DGet.t (k:=kQ m.1 m.2.1) (ah _ _ U.hd) av;rw [aw] at this;exact this,ZAW (by decide),λk2 aj=>?_⟩
   obtain ⟨X2,ab,b3,b4⟩:=newH aj (.tup [.int (m.2.1:Int),.int (m.2.2:Int)])
   rw [ab];clear ab
   have S2:=ah.trans b3
   refine ⟨d,u2,rfl,by have:=DGet.t (k:=kQ m.2.1 m.2.2) (S2 _ _ U.hd) b4;rw [b2] at this;exact this,?_⟩
   have a2:=a4.mono S2
   refine ⟨c,pr',p,pl,tk,ml,wd,u1,u2,x,y,_,rfl,a2,a8.mono S2,ap.keep (λ_ _ z=>S2 _ _ z),b6.keep (λ_ _ z=>S2 _ _ z),hk,J.bind,λu Y v pr2 fY b5 ai b0=>⟨ZAW (by decide),λk3 aq=>?_⟩⟩
   obtain ⟨Y2,a9,a0,ay⟩:=newH aq (.tup [.int (m.1:Int),.int (m.2.2:Int)])
   rw [a9];clear a9
   have a1:DT Y2 d wi (B+k * i) kvi:=((U.mono S2).fr fY (Ad.SA af) (λt z h=>Ad.SA (a2.tupS h (λ_ z=>by cases z) (λ_ _ _ z=>by cases z)))).mono a0
   have b7:k * i <= 400:=by
    rcases a5 with rfl | ⟨rfl,_⟩
    .omega
    .omega
   refine ⟨d,_,rfl,DPut.t (k:=kQ m.1 m.2.2) a1.hd ay (ZAk (by have:=a1.len;omega)),?_⟩
   have ae:=ag m (yAS hm)
   have au:k=1∨(wi m.1 m.2.2).isSome=true:=by
    rcases a7 with z | ⟨_,z⟩
    .exact .inl z
    .exact .inr (z m (yAS hm))
   refine ⟨_,_,_,Po.put wi m.1 m.2.2 v,putK kvi (kQ m.1 m.2.2) u,pr2,rfl,?_,a7.imp id λz=>⟨z.1,λm' ax=>ZCt (z.2 m' ax)⟩,?_,?_,b0⟩
   .rw [Nat.mul_succ,<- Nat.add_assoc]
    exact a1.put ae.1 ae.2 (ai.keep λ_ _ z=>a0 _ _ z) au
   .exact (b5.mono a0).apart (S:=[d]) ZFb (λb hb=>by rw [yAH.mp hb];exact .inr (.inr (.inl ⟨_,a1.hd⟩))) λb hb=>by rw [yAH.mp hb];exact af
   .intro b o n hb
    rw [ZAJ (ZAD hb hd)]
    exact a0 _ _ (fY _ _ n (S2 _ _ (fi _ _ n hb)))
 rintro σ X ⟨v4,v5,v6,wi,kvi,pr',rfl,U,a7,a4,fi,J⟩
 rw [hM.len] at U J
 rw [yCE (yAB _)] at J
 walk_at "rd"
 exact q d X wi kvi pr' fi hd U a4 J
theorem Oy (F:Fun K "top" "Pour.top" ZC2 f fd)(T:Bt K mg Ce Cd Cc Ca Cb)
 :FnOk P w K mg base CX0 1 f fd ["self"] (spTop Cc):=by
 refine F.ok sc_Pour_top (λvs H Q E h=>?_) (λa0 A outer s H vs Q E hr h=>?_)
 .obtain ⟨p,ak,pl,tk,ml,wd,pls,pcs,w0,B,kvs,top,rfl,U,O,J,q⟩:=h
  rfl
 obtain ⟨p,ak,pl,tk,ml,wd,pls,pcs,w0,B,kvs,top,rfl,U,O,J,q⟩:=h
 refine ⟨_,(ZAH (ZAQ (ZB4 PySem.F.plainAttrs_dict PySem.F.slot_dict_get PySem.F.type_dict_get (mt_dget (ZE8 hr)) (ZAP (pv 0) rfl) (ZAA (ZBB (ZAA ZAF (ZAA (ZAK ZAI rfl T.b_len PySem.boot_len (ZAA (ZAP (pv 0) rfl) ZAC)) ZAC))) ZAC)))),?_⟩
 walk_at "rd"
 refine U.hp.get T.Db T.Ni (by walk_at "lk") ?_
 walk_at "rd"
 refine ⟨.inr (.inr (.inl ⟨rfl,.inr ⟨_,O.hd⟩⟩)),?_⟩
 refine U.hp.get T.Db T.Ng (by walk_at "lk") ?_
 walk_at "rd"
 refine ⟨pl,_,rfl,.inl (SqL.of U.hpl),ZAW (by decide),λt ht=>?_⟩
 rw [yAA,U.len]
 obtain ⟨H1,Y,s1,h1⟩:=newH ht (.tup [.int ((0:Nat):Int),.int (pcs.length:Int)])
 rw [show ((0:Nat):Int)=0 from rfl] at Y
 rw [Y];clear Y
 refine ⟨wd,_,_,rfl,rfl,DGet.t (k:=kQ 0 pcs.length) (s1 _ _ O.hd) h1,?_⟩
 rcases J with hv | ⟨rfl,rfl⟩
 .obtain ⟨u,hu,fv⟩:=O.val _ _ _ hv
  rw [hu]
  exact q u H1 s1 (fv.keep λ_ _ z=>s1 _ _ z)
 .have:kvs=[]:=yBU.mp (by have:=O.len;omega)
  rw [this]
  exact q _ H1 s1 rfl
theorem Oad (F:Fun K "first" "Pour.first" ZCF f fd)(T:Bt K mg Ce Cd Cc Ca Cb)
  (J:Mt P w K mg base CX0 Cc "top" 1 ["self"] (spTop Cc))
 :FnOk P w K mg base CX0 2 f fd ["self"] (spFirst Cc):=by
 refine F.ok sc_Pour_first (λvs H Q E h=>?_) (λa0 A outer s H vs Q E hr h=>?_)
 .obtain ⟨p,ak,pl,tk,ml,wd,pls,pcs,w0,B,kvs,top,rfl,U,dt,O,q⟩:=h
  rfl
 obtain ⟨p,ak,pl,tk,ml,wd,pls,pcs,w0,B,kvs,top,rfl,U,dt,O,q⟩:=h
 refine ⟨_,(ZAB (ZAL (i:=1) sc_Pour_first.nd rfl (by walk_at "o") (ZBG J (hr.mono (by decide)) ZAS (pv 0)))
  (ZAH (ZAQ (ZAy (ZAO ZCT (pv 1) ZA5 (ZAU _)) ZA5 (ZAg ZA4 (pv 1) ZAF (λ_ _=>rfl)))))),?_⟩
 walk_at "rd"
 refine U.hp.meth (by walk_at "lk") ⟨p,ak,pl,tk,ml,wd,pls,pcs,w0,B,kvs,top,rfl,U,dt,O,λu H1 s1 Y=>?_⟩
 walk_at "rd"
 cases top with
 | none=>
  cases (show u=V.non from Y)
  rw [if_pos rfl]
  exact q H1 s1
 | some x=>
  obtain ⟨t,rfl,ht⟩:=Y
  rw [if_neg (λz=>by cases z)]
  exact ZAz (SqT.of ht) (ZAj (by decide) rfl) (q H1 s1)
theorem O8 (F:Fun K "left" "Pour.left" ZCa f fd)(T:Bt K mg Ce Cd Cc Ca Cb)
 :FnOk P w K mg base CX0 1 f fd ["self"] (spLeft Cc):=by
 refine F.ok sc_Pour_left (λvs H Q E h=>?_) (λa3 A outer s H vs Q E hr h=>?_)
 .obtain ⟨p,ak,pl,tk,ml,wd,pls,pcs,ts,rfl,J,htk,hpl,a2,a0,U,q⟩:=h
  rfl
 obtain ⟨p,ak,pl,tk,ml,wd,pls,pcs,ts,rfl,J,htk,hpl,a2,a0,U,q⟩:=h
 refine ⟨_,(ZAH (ZAQ (ZAN ZAv (ZAK (call_sum rfl) rfl T.b_sum PyProof.Rows.boot_sum (ZAA (ZBM rfl (k:=1) (js:=[]) (N':=["piece"]) (by rfl) (ZAq (ZAP (pv 0) rfl)) (λ_ _ _ _=>ZAY (i:=0) (show (["piece"]:List Str).Nodup by decide +kernel) rfl (by walk_at "o")) (λ_ _ _ _=>ZAp) (λ_ _ _ _=>(ZAK (call_len_seqK K) rfl T.b_len PySem.boot_len (ZAA (pv 0) ZAC)))) ZAC)) (ZAK (call_sum rfl) rfl T.b_sum PyProof.Rows.boot_sum (ZAA (ZAP (pv 0) rfl) ZAC))))),?_⟩
 walk_at "rd"
 refine J.hp.get T.Db T.Ng (by walk_at "lk") ?_
 walk_at "rd"
 refine ZA8 (SqL.of J.hpl) (by rw [yAA,J.len];omega) (λi ys σ H'=>∃ v,σ=[v] /\ H'=H /\ ys=((pcs.take i).map λxs=>((xs.length:Nat):Int)).map V.int) ⟨_,rfl,rfl,rfl⟩ (λi ys σ H' _ ⟨_,_,e,e2⟩=>⟨by rw [e];exact SqL.of J.hpl,by rw [e2,yAA,yAA,yAP];omega⟩) ?_ ?_
 .rintro i ys x σ H' hi O ⟨v,rfl,rfl,rfl⟩
  rw [yAA,J.len] at hi
  obtain ⟨xs,Y⟩:∃ xs,pcs[i]?=some xs:=⟨_,yAF hi⟩
  obtain ⟨l,el,hl⟩:=J.at Y
  rw [yAM,el] at O
  cases O
  walk_at "rd"
  refine ⟨l,_,rfl,.inl (SqL.of hl),?_⟩
  refine Nxt.of (by rw [yAA,J.len];exact hi) ⟨_,rfl,rfl,?_⟩
  rw [yCH,Y,yAK,yAK]
  show _=_++[V.int ((xs.length:Nat):Int)]
  rw [yAA]
 rintro ys σ H' ⟨v,rfl,rfl,rfl⟩ sl a1
 rw [yAA,J.len,yBL (yAB _)]
 obtain ⟨H1,e1,s1,h1⟩:=newH a1 (.lst ((pcs.map λxs=>((xs.length:Nat):Int)).map V.int))
 rw [e1];clear e1
 refine ⟨sl,_,rfl,SqL.of h1,⟨by rw [yAA];omega,λx O=>by
  obtain ⟨xs,h2,rfl⟩:=yBP.mp O
  have:=a0 xs h2
  omega⟩,?_⟩
 refine (J.mono s1).hp.get T.Db T.No (by walk_at "lk") ?_
 have e2:nL ts=(ts.map λ(n:Nat)=>(n:Int)).map V.int:=by unfold nL;rw [List.map_map];rfl
 refine ⟨tk,_,rfl,SqL.of (by rw [<- e2];exact s1 _ _ htk),⟨by rw [yAA];omega,λx O=>by
  obtain ⟨t,h2,rfl⟩:=yBP.mp O
  have:=U t h2
  omega⟩,?_⟩
 rw [sum_nat,show (pcs.map λxs=>((xs.length:Nat):Int))=(pcs.map List.length).map λ(n:Nat)=>(n:Int) by rw [List.map_map];rfl,sum_nat]
 exact q H1 s1
theorem Oan (F:Fun K "__init__" "Pour.__init__" ZCb f fd)(T:Bt K mg Ce Cd Cc Ca Cb)
  (U:Fn P w K mg base CX0 "meetings_of" 9 ["first","beyond"] (spMeetings 9))
  (a4:Mt P w K mg base CX0 Cc "held" 6 ["self","meetings","went_on"] (spHeldW Ca Cb Cc))
  (O:Mt P w K mg base CX0 Cc "front_of" 1 ["self","piece","taken"] (spFrontOf Cc))
 :FnOk P w K mg base CX0 10 f fd ["self","asker","pieces"] (spPourInitW Ca Cb Cc):=by
 refine F.ok sc_Pour_init (λvs H Q E h=>?_) (λdb A outer s H vs Q E hr h=>?_)
 .obtain ⟨c,pr,x,dx,hl,hls,pcs,post,rfl,hx,st,am,aq,b9,hn,nx,hk,w,ch,q⟩:=h
  rfl
 obtain ⟨c,pr,x,dx,hl,hls,pcs,post,rfl,hx,st,am,aq,b9,hn,nx,hk,w,ch,q⟩:=h
 refine ⟨_,(ZAB (ZAu (pv 0) (pv 1) rfl)
  (ZAB (ZAu (pv 0) (ZBM rfl (k:=1) (js:=[]) (N':=["piece"]) (by rfl) (ZAq (pv 2)) (λ_ _ _ _=>ZAY (i:=0) (show (["piece"]:List Str).Nodup by decide +kernel) rfl (by walk_at "o")) (λ_ _ _ _=>ZAp) (λ_ _ _ _=>(ZAi (ZBH K) rfl T.b_list PyProof.Rows.boot_list (ZAA (pv 0) ZAC)))) rfl)
  (ZAR
  (ZAB (ZAu (pv 0) (ZBM rfl (k:=1) (js:=[]) (N':=["piece"]) (by rfl) (ZAq (ZAP (pv 0) rfl)) (λ_ _ _ _=>ZAY (i:=0) (show (["piece"]:List Str).Nodup by decide +kernel) rfl (by walk_at "o")) (λ_ _ _ _=>ZAp) (λ_ _ _ _=>ZAF)) rfl)
  (ZAR
  (ZAB (ZAu (pv 0) (ZAl U (hr.mono (by decide)) rfl ZAS (ZAA ZAF (ZAA (ZAK ZAI rfl T.b_len PySem.boot_len (ZAA (ZAP (pv 0) rfl) ZAC)) ZAC))) rfl)
  (ZAR
  (ZAB (ZAu (pv 0) pe_dnewT rfl)
  (ZAB (ZBk PassesOwn.never rfl (ZBf rfl T.b_range (ZAA (ZAK ZAI rfl T.b_len PySem.boot_len (ZAA (ZAP (pv 0) rfl) ZAC)) ZAC)) (ZAY (i:=3) sc_Pour_init.nd rfl (by walk_at "o"))
  (ZAH (ZEY (ZE8 hr) (ZAP (pv 0) rfl) (ZBB (ZAA (pv 3) (ZAA (ZAN ZAe (pv 3) ZAF) ZAC))) (ZBA O (hr.mono (by decide)) ZAS (pv 0) (ZAA (pv 3) (ZAA ZAF ZAC))) rfl)))
  (ZAR
  (ZAH (ZAu (pv 0) (ZBA a4 (hr.mono (by decide)) ZAS (pv 0) (ZAA (ZAP (pv 0) rfl) (ZAA (ZAP (pv 0) rfl) ZAC))) rfl)))))))))))),?_⟩
 walk_at "rd"
 have cb:hl≠x:=λz=>by rw [z,hx] at am;cases am
 refine setX hx T.Db T.Nw (by decide) λH2 x2 k2=>?_
 walk_at "rd"
 have ah:∀ b o,b≠x->H b=some o->H2 b=some o:=λb o n e=>by rw [k2 b n];exact e
 have c6:∀ (i:Nat) l ys,hls[i]?=some l->pcs[i]?=some ys->H2 l=some (.lst (nL ys)):=λi l ys h1 h2=>by
  have h:=b9 i l ys h1 h2
  exact ah _ _ (λz=>by rw [z,hx] at h;cases h) h
 refine ZA8 (SqL.of (ah _ _ cb am)) (by rw [yAA];omega) (λi ys σ H'=>∃ v ns,σ=[v] /\ Same H2 H' /\ ys=ns.map V.ref /\ ns.length=i /\ (∀ (j:Nat) l zs,ns[j]?=some l->pcs[j]?=some zs->H' l=some (.lst (nL zs))) /\ ∀ l∈ns,H2 l=none) ⟨_,[],rfl,.refl _,rfl,rfl,λj l zs h=>by simp at h,λl h=>by cases h⟩ (λi ys σ H' _ ⟨_,ns,_,e,e2,e3,_⟩=>⟨SqL.of (e _ _ (ah _ _ cb am)),by rw [e2,yAA];omega⟩) ?_ ?_
 .rintro i ys u σ H' hi hu ⟨v,ns,rfl,sA,rfl,cv,d5,d2⟩
  rw [yAA] at hi
  have hi2:i < pcs.length:=by omega
  obtain ⟨zs,b3⟩:∃ zs,pcs[i]?=some zs:=⟨_,yAF hi2⟩
  rw [yAM,yAF hi] at hu
  cases hu
  have d3:=sA _ _ (c6 i _ zs (yAF hi) b3)
  walk_at "rd"
  refine ⟨_,_,rfl,.inl (SqL.of d3),λl' bc=>?_⟩
  refine Nxt.of (by rw [yAA];exact hi) ⟨_,ns++[l'],rfl,sA.new bc,by rw [yAK];rfl,by rw [yAC,cv];rfl,λj l cp h1 h2=>?_,λl h=>?_⟩
  .by_cases z:j < ns.length
   .rw [yBB z] at h1
    exact ZAM bc _ _ _ (d5 j l cp h1 h2)
   .rw [yAT (by omega)] at h1
    cases hk:j-ns.length with
    | zero=>
     rw [hk] at h1
     cases h1
     rw [show j=i by omega,b3] at h2
     cases h2
     exact ZAE
    | succ m=>rw [hk] at h1;simp at h1
  .rcases yAY.mp h with h | h
   .exact d2 l h
   .rw [yAH.mp h];exact sA.free bc
 rintro ys σ H3 ⟨v,pls,rfl,s3,rfl,ax,b8,aj⟩ pl b0
 rw [yAA] at ax
 obtain ⟨H4,e4,s4,h4⟩:=newH b0 (.lst (pls.map V.ref))
 rw [e4];clear e4
 have x4:=s4 _ _ (s3 _ _ x2)
 have a6:pl≠x:=Ne.symm (ZAD (s3 _ _ x2) b0)
 refine setX x4 T.Db T.Ng ZFM λH5 x5 k5=>?_
 walk_at "rd"
 have b5:∀ b o,b≠x->H4 b=some o->H5 b=some o:=λb o n e=>by rw [k5 b n];exact e
 have Y:=b5 _ _ a6 h4
 have a2:∀ l∈pls,l≠x:=λl h z=>by have:=aj l h;rw [z,x2] at this;cases this
 have aa:∀ (j:Nat) l zs,pls[j]?=some l->pcs[j]?=some zs->H5 l=some (.lst (nL zs)):=λj l zs h1 h2=>b5 _ _ (a2 l (yAS h1)) (s4 _ _ (b8 j l zs h1 h2))
 refine ZAX ?_
 walk_at "rd"
 have i5:Ins H5 x Cc [("pieces",.ref pl),("asker",.ref c.a)]:=(Ins.of x5 (yAL ZE3 (by decide))).congr λf=>by simp only [ZAb,lkc]
 refine i5.get T.Db T.Ng (by walk_at "lk") ?_
 refine ZA8 (SqL.of Y) (by rw [yAA];omega) (λi ys σ H'=>∃ v,σ=[v] /\ Same H5 H' /\ ys=nL (List.replicate i 0)) ⟨_,rfl,.refl _,rfl⟩ (λi ys σ H' _ ⟨_,_,e,e2⟩=>⟨SqL.of (e _ _ Y),by rw [e2,yAA,yBV];exact yAB _⟩) ?_ ?_
 .rintro i ys u σ H' hi hu ⟨v,rfl,sA,rfl⟩
  walk_at "rd"
  refine Nxt.of hi ⟨_,rfl,sA,?_⟩
  unfold nL
  rw [List.replicate_succ',yAK];rfl
 rintro ys σ H6 ⟨v,rfl,s6,rfl⟩ tk ae
 rw [yAA,ax,aq]
 obtain ⟨H7,e7,s7,h7⟩:=newH ae (.lst (nL (List.replicate pcs.length 0)))
 rw [e7];clear e7
 have x7:=s7 _ _ (s6 _ _ x5)
 have a9:tk≠x:=Ne.symm (ZAD (s6 _ _ x5) ae)
 refine setX x7 T.Db T.No ZE3 λH8 x8 k8=>?_
 walk_at "rd"
 have ap:∀ b o,b≠x->H5 b=some o->H8 b=some o:=λb o n e=>by rw [k8 b n];exact s7 _ _ (s6 _ _ e)
 have af:H8 tk=some (.lst (nL (List.replicate pcs.length 0))):=by rw [k8 tk a9];exact h7
 refine ZAX ?_
 walk_at "rd"
 have i8:Ins H8 x Cc [("taken",.ref tk),("pieces",.ref pl),("asker",.ref c.a)]:=(Ins.of x8 (yAL ZE2 (by decide))).congr λf=>by simp only [ZAb,lkc]
 refine i8.get T.Db T.Ng (by walk_at "lk") ⟨pl,_,rfl,.inl (SqL.of (ap _ _ a6 Y)),?_⟩
 rw [yAA,ax,aq]
 refine ⟨0,pcs.length,rfl,yAJ _,by omega,by decide,yAL (by omega:pcs.length-0 <= 256) (by decide),λml H9 mvs s9 b2 b6 cf=>?_⟩
 have x9:=s9 _ _ x8
 have ay:ml≠x:=Ne.symm (ZAD x8 b2)
 refine setX x9 T.Db T.Nq ZE2 λaz bn av=>?_
 walk_at "rd"
 have a1:∀ b o,b≠x->H8 b=some o->az b=some o:=λb o n e=>by rw [av b n];exact s9 _ _ e
 refine ZAX ?_
 walk_at "rd"
 intro wd ad
 obtain ⟨da,cn,bj,ce⟩:=newH ad (.dT [])
 rw [cn];clear cn
 have ca:=bj _ _ bn
 have ag:wd≠x:=Ne.symm (ZAD bn ad)
 refine setX ca T.Db T.Ni ZFl λa3 cx bg=>?_
 walk_at "rd"
 have a8:∀ b o,b≠x->az b=some o->a3 b=some o:=λb o n e=>by rw [bg b n];exact bj _ _ e
 have bh:Ins a3 x Cc (fP c.a pl tk ml wd):=(Ins.of cx (yAL ZFx (by decide))).congr λf=>by simp only [ZAb,lkc]
 have ab:az ml=some (.lst mvs):=by rw [av ml ay];exact b6
 have bo:MsAt a3 mvs (Po.mts 0 pcs.length):=cf.keep λt z h=>by
  have n:t≠x:=λe=>by rw [e,x9] at h;cases h
  exact a8 _ _ n (by rw [av t n];exact h)
 have up:∀ b o,b≠x->H5 b=some o->a3 b=some o:=λb o n e=>a8 _ _ n (a1 _ _ n (ap _ _ n e))
 have bq:∀ b o,b≠x->H b=some o->a3 b=some o:=λb o n e=>up _ _ n (b5 _ _ n (s4 _ _ (s3 _ _ (ah _ _ n e))))
 have J:PB Cc a3 x c.a pl tk ml wd pls pcs:=⟨bh,up _ _ a6 Y,by omega,λi l ys h1 h2=>up _ _ (a2 l (yAS h1)) (aa i l ys h1 h2)⟩
 have cc:SitR Ca Cb a3 c pr:=st.apart (S:=[x]) (λb o n h=>bq b o (λz=>n (by rw [z];exact yAD)) h) (λb hb=>by rw [yAH.mp hb];exact .inr (.inl ⟨_,_,_,hx⟩)) λb hb=>by rw [yAH.mp hb];exact nx
 have fx:∀ b,H2 b=none->H b=none:=λb h=>by
  cases e:H b with
  | none=>rfl
  | some o=>
   have n:b≠x:=λz=>by rw [z,x2] at h;cases h
   rw [ah b o n e] at h;cases h
 have f5:∀ b,b≠x->H5 b=none->H b=none:=λb n h=>fx b (s3.free (s4.free (by rw [<- k5 b n];exact h)))
 have f8:∀ b,b≠x->H8 b=none->H b=none:=λb n h=>f5 b n (s6.free (s7.free (by rw [<- k8 b n];exact h)))
 have bz:∀ b,b≠x->az b=none->H b=none:=λb n h=>f8 b n (s9.free (by rw [<- av b n];exact h))
 have ci:=fx pl (s3.free b0)
 have cm:=f5 tk a9 (s6.free ae)
 have c5:=f8 ml ay b2
 have c4:=bz wd ag ad
 have ba:∀ l∈pls,H l=none:=λl h=>fx l (aj l h)
 have n5:∀ b o,H5 b=some o->b≠tk:=λb o h=>ZAD (s6 _ _ h) ae
 have n8:∀ b o,H8 b=some o->b≠ml:=λb o h=>ZAD h b2
 have b1:∀ b o,az b=some o->b≠wd:=λb o h=>ZAD h ad
 have ac:a3 wd=some (.dT []):=by rw [bg wd ag];exact ce
 have bp:=a8 _ _ a9 (a1 _ _ a9 af)
 have br:=a8 _ _ ay ab
 have bx:pl≠wd:=b1 _ _ (a1 _ _ a6 (ap _ _ a6 Y))
 have cw:tk≠wd:=b1 _ _ (a1 _ _ a9 af)
 have d4:ml≠wd:=b1 _ _ ab
 have aw:∀ l∈pls,l≠wd /\ l≠tk:=λl h=>by
  obtain ⟨j,hj,e⟩:=List.getElem_of_mem h
  have e1:pls[j]?=some l:=by rw [yAF hj,e]
  have h5:=aa j l _ e1 (yAF (show j < pcs.length by omega))
  exact ⟨b1 _ _ (a1 _ _ (a2 l h) (ap _ _ (a2 l h) h5)),n5 _ _ h5⟩
 have bm:tk≠pl:=Ne.symm (n5 _ _ Y)
 have be:tk≠ml:=n8 tk _ af
 clear k2 k5 k8 av bg x2 x4 x5 x7 x8 x9 bn ca i5 i8 ah b5 ap a1 a8 s3 s4 s6 s7 s9 bj cf h4 h7 ce Y aa af b6 ab b8 aj fx f5 f8 bz n5 n8 b1 c6 up
 refine bh.get T.Db T.Ng (by walk_at "lk") ⟨pl,_,rfl,.inl (SqL.of J.hpl),?_⟩
 rw [yAA,J.len]
 refine ZDK (by omega) (ZDc (λi σ X=>∃ v3 kvs,σ=[some (.ref x),some (.ref c.a),some (.ref hl),v3] /\ DT X wd (lvW pcs i) i kvs /\ ∀ b o,b≠wd->a3 b=some o->X b=some o) ⟨_,[],rfl,⟨ac,(λkv h=>by cases h),yAB _,(λa c v h=>by unfold lvW at h;rw [if_neg (by omega)] at h;cases h)⟩,λb o _ h=>h⟩ ?_ ?_)
 .rintro i σ X hi ⟨v3,kvs,rfl,d7,kX⟩
  have c7:i < pcs.length:=by omega
  obtain ⟨zs,b3⟩:∃ zs,pcs[i]?=some zs:=⟨_,yAF c7⟩
  have au:PB Cc X x c.a pl tk ml wd pls pcs:=⟨ZBw (S:=[wd]) (λb o n h=>kX b o (λz=>n (by rw [z];exact yAD)) h) (λz=>ag (yAH.mp z).symm) J.hp,kX _ _ bx J.hpl,J.len,λj l ys h1 h2=>kX _ _ (aw l (yAS h1)).1 (J.pc j l ys h1 h2)⟩
  walk_at "rd"
  rw [Int.zero_add]
  refine au.hp.meth (by walk_at "lk") ⟨x,c.a,pl,tk,ml,wd,pls,pcs,i,0,zs,rfl,au,b3,λu X2 bt fv=>?_⟩
  refine (au.mono bt).hp.get T.Db T.Ni (by walk_at "lk") ?_
  walk_at "rd"
  refine ⟨ZAW (by decide),λk1 cu=>?_⟩
  obtain ⟨X3,e3,bv,d1⟩:=newH cu (.tup [.int (i:Int),.int ((i+1:Nat):Int)])
  rw [show (i:Int)+1=((i+1:Nat):Int) by omega,e3];clear e3
  have bd:=(d7.mono bt).mono bv
  refine ⟨wd,_,rfl,DPut.t (k:=kQ i (i+1)) bd.hd d1 (ZAk (by have:=bd.len;omega)),?_⟩
  have ef:front zs 0 i=frW pcs (List.replicate pcs.length 0) i:=(frW_at b3 (by rw [List.getElem?_replicate,if_pos c7])).symm
  have c9:=bd.put (a:=i) (c:=i+1) (k:=1) (by omega) (by omega) (fv.keep λ_ _ z=>bv _ _ z) (.inl rfl)
  rw [ef,lvW_put] at c9
  exact ⟨_,_,rfl,c9,λb o n h=>by rw [ZAJ n];exact bv _ _ (bt _ _ (kX b o n h))⟩
 rintro σ X ⟨v3,kvs,rfl,bu,kX⟩
 rw [Int.toNat_natCast] at bu
 walk_at "rd"
 refine ZAX ?_
 walk_at "rd"
 have iX:Ins X x Cc (fP c.a pl tk ml wd):=ZBw (S:=[wd]) (λb o n h=>kX b o (λz=>n (by rw [z];exact yAD)) h) (λz=>ag (yAH.mp z).symm) bh
 have cr:=st.off c4
 have cg:SitR Ca Cb X c pr:=cc.apart (S:=[wd]) (λb o n h=>kX b o (λz=>n (by rw [z];exact yAD)) h) (λb hb=>by rw [yAH.mp hb];exact .inr (.inr (.inl ⟨_,ac⟩))) λb hb=>by rw [yAH.mp hb];exact cr
 have b7:=kX _ _ d4 br
 have bb:MsAt X mvs (Po.mts 0 pcs.length):=bo.keep λt z h=>kX _ _ (λe=>by rw [e,ac] at h;cases h) h
 refine iX.meth (by walk_at "lk") (iX.get T.Db T.Nq (by walk_at "lk") (iX.get T.Db T.Ni (by walk_at "lk") ?_))
 have sM:=Ad.SA (st.off c5)
 refine ⟨c,pr,x,pl,tk,ml,wd,ml,wd,mvs,Po.mts 0 pcs.length,lvW pcs pcs.length,pcs.length,1,kvs,_,rfl,cg,iX,Ad.SA nx,sM,b7,bb,by rw [Po.mts_len];omega,λm hm=>?_,bu,by omega,.inl rfl,hk,w.also (ZDb _ _ (lvW_ix pcs pcs.length (yAB _))),λpr' z=>ch pr' z.2,λd c0 w1 kvs' pr2 ai a0 a7 c8 d0=>?_⟩
 .have:=Po.mts_mem (a:=m.1) (m:=m.2.1) (c:=m.2.2) _ _ hm
  omega
 obtain ⟨bi,bf⟩:=d0
 obtain ⟨co,bi⟩:=bi w1 rfl
 have c1:=ZBw ai (Ad.SA nx) iX
 refine c1.set T.Db T.Ni (λa5 cy cq=>?_) ⟨_,by walk_at "lk"⟩
 have cj:d≠x:=λz=>by
  obtain ⟨_,_,e1,_⟩:=iX.ex
  rw [z,e1] at a0;cases a0
 have b4:∀ b o,b≠x->c0 b=some o->a5 b=some o:=λb o n h=>by rw [cq b n];exact h
 have au:PB Cc X x c.a pl tk ml wd pls pcs:=⟨iX,kX _ _ bx J.hpl,J.len,λj l ys h1 h2=>kX _ _ (aw l (yAS h1)).1 (J.pc j l ys h1 h2)⟩
 have ao:=au.fr ai (Ad.SA nx) (Ad.SA (st.off ci)) λl h=>Ad.SA (st.off (ba l h))
 obtain ⟨d9,d8,c3,_⟩:=c1.ex
 have tX:∀ b o,c0 b=some o->(∀ C d f,o≠.ins C d f)->a5 b=some o:=λb o h n=>b4 b o (λz=>by
  rw [z,c3] at h;exact n _ _ _ (Option.some.inj h).symm) h
 have d6:Ins a5 x Cc (fP c.a pl tk ml d):=cy.congr λf=>by
  simp only [ZAb,lkc]
  by_cases z:f=Str.ofString "went_on"
  .rw [if_pos z,if_pos z]
  .rw [if_neg z,if_neg z,if_neg z]
 have cz:pcs.length+1 * (Po.mts 0 pcs.length).length=2 * pcs.length-1:=by rw [Po.mts_len];omega
 rw [cz] at a7
 have bw:DT a5 d w1 (2 * pcs.length-1) kvs':=⟨b4 d _ cj a7.hd,a7.sm,a7.len,λa c v h=>let ⟨u,h1,h2⟩:=a7.val a c v h;⟨u,h1,h2.keep λt z y=>tX _ _ y (λ_ _ _ z=>by cases z)⟩⟩
 have cd:PB Cc a5 x c.a pl tk ml d pls pcs:=⟨d6,tX _ _ ao.hpl (λ_ _ _ z=>by cases z),ao.len,λj l ys h1 h2=>tX _ _ (ao.pc j l ys h1 h2) (λ_ _ _ z=>by cases z)⟩
 have ck:MsAt a5 mvs (Po.mts 0 pcs.length):=(bb.keep λt z h=>cg.tup ai h).keep λt z h=>tX _ _ h (λ_ _ _ z=>by cases z)
 have c2:SitR Ca Cb a5 c pr2:=c8.apart (S:=[x]) (λb o n h=>b4 b o (λz=>n (by rw [z];exact yAD)) h) (λb hb=>by rw [yAH.mp hb];exact .inr (.inl ⟨_,_,_,c3⟩)) λb hb=>by rw [yAH.mp hb];exact nx
 have gd:H d=none:=by
  cases e:H d with
  | none=>rfl
  | some o=>
   have h1:=bq d o cj e
   by_cases z:d=wd
   .rw [z,bu.hd] at a0;cases a0
   .rw [kX d o z h1] at a0;cases a0
 refine q pl tk ml d pls w1 a5 kvs' pr2 (λb o n1 n2 h=>?_) ⟨cd,tX _ _ (ai _ _ (Ad.SA (st.off cm)) (kX _ _ cw bp)) (λ_ _ _ z=>by cases z),⟨mvs,tX _ _ (ai _ _ sM b7) (λ_ _ _ z=>by cases z),ck⟩,bw,by rw [yBV],⟨bm,be,λl h=>(aw l h).2⟩⟩ bi (λj hj=>co _ _ (by unfold lvW;rw [if_pos ⟨rfl,hj⟩];rfl)) ⟨ci,cm,c5,gd,ba⟩ c2 bf
 have n3:b≠wd:=λz=>by rw [z,c4] at h;cases h
 exact b4 b o n1 (ai _ _ n2 (kX b o n3 (bq b o n1 h)))
theorem Oaq (F:Fun K "take" "Pour.take" ZCZ f fd)(T:Bt K mg Ce Cd Cc Ca Cb)
  (Y:Mt P w K mg base CX0 Cc "top" 1 ["self"] (spTop Cc))
  (J:Mt P w K mg base CX0 Cc "front_of" 1 ["self","piece","taken"] (spFrontOf Cc))
  (U:Mt P w K mg base CX0 Cc "held" 6 ["self","meetings","went_on"] (spHeldW Ca Cb Cc))
 :FnOk P w K mg base CX0 7 f fd ["self"] (spTakeW Ca Cb Cc):=by
 refine F.ok sc_Pour_take (λvs H Q E h=>?_) (λc3 A outer s H vs Q E hr h=>?_)
 .obtain ⟨c,pr,p,pl,tk,ml,wd,pls,pcs,ts,w0,kvs,rfl,st,pa,px,dw,ac,hn,hk,a7⟩:=h
  rfl
 obtain ⟨c,pr,p,pl,tk,ml,wd,pls,pcs,ts,w0,kvs,rfl,st,pa,px,dw,ac,hn,hk,a7⟩:=h
 refine ⟨_,(ZAB (ZAL (i:=1) sc_Pour_take.nd rfl (by walk_at "o") (ZBG Y (hr.mono (by decide)) ZAS (pv 0)))
  (ZAB (ZAx (ZAO ZCT (pv 1) ZA5 (ZAU _))
  (ZAH (ZAQ ZA5)) ZAc)
  (ZAR
  (ZAB (ZAL (i:=2) sc_Pour_take.nd rfl (by walk_at "o") (ZAg ZA4 (pv 1) ZAF (λ_ _=>rfl)))
  (ZAB (ZAL (i:=3) sc_Pour_take.nd rfl (by walk_at "o") (ZAN ZAe (ZAg ZAd (ZAP (pv 0) rfl) (pv 2) (λ_ _=>rfl)) ZAF))
  (ZAR
  (ZAB (ZBb (i:=4) sc_Pour_take.nd rfl (Or.inl rfl) rfl (k:=1) (js:=[2]) (N':=["meeting","piece"]) (by rfl) (ZAq (ZAP (pv 0) rfl)) (λ_ _ _ _=>ZAY (i:=0) (show (["meeting","piece"]:List Str).Nodup by decide +kernel) rfl (by walk_at "o")) (λ_ _ _ _=>(pifs_one (PW.pt (ZDV (ZAO op_le (ZAg (ZEf K) (pv 0) ZAF (λ_ _=>rfl)) (pv 1) (ZAU _)) (ZC7 (ZAO ZDE (pv 1) (ZAg (ZEf K) (pv 0) ZAF (λ_ _=>rfl)) (ZAU _))))))) (λ_ _ _ _=>(pv 0)))
  (ZAR
  (ZAB (ZAL (i:=5) sc_Pour_take.nd rfl (by walk_at "o") (ZAi (call_dictC) rfl T.b_dict PyProof.Rows.boot_dict (ZAA (ZAP (pv 0) rfl) ZAC)))
  (ZAR
  (ZAB (ZEY (ZE8 hr) (pv 5) (ZBB (ZAA (pv 2) (ZAA (ZAN ZAe (pv 2) ZAF) ZAC))) (ZBA J (hr.mono (by decide)) ZAS (pv 0) (ZAA (pv 2) (ZAA (pv 3) ZAC))) rfl)
  (ZAR
  (ZAB (ZAu (pv 0) (ZBA U (hr.mono (by decide)) ZAS (pv 0) (ZAA (pv 4) (ZAA (pv 5) ZAC))) rfl)
  (ZAR
  (ZAB (ZFN (pv 3) (ZFP (ZAP (pv 0) rfl) (pv 2) ZDu))
  (ZAH (ZAQ (ZAg ZA4 (pv 1) ZAF (λ_ _=>rfl))))))))))))))))))),?_⟩
 walk_at "rd"
 have ah:w0 0 pcs.length=some (if 0 < pcs.length then ((w0 0 pcs.length).getD none) else none)∨2 * pcs.length-1=0 /\ (if 0 < pcs.length then ((w0 0 pcs.length).getD none) else none)=none:=by
  by_cases hz:0 < pcs.length
  .rw [if_pos hz]
   left
   have:(w0 0 pcs.length).isSome=true:=by
    by_cases z:pcs.length-0 < 2
    .have:=ac 0 hz
     rw [show 0+1=pcs.length by omega] at this
     exact this
    .exact dw.pr (0,Po.mid 0 pcs.length,pcs.length) (by rw [Po.mts_node z];exact yAW _ yAD)
   obtain ⟨v,hv⟩:=Option.isSome_iff_exists.mp this
   rw [hv];rfl
  .rw [if_neg hz];exact .inr ⟨by omega,rfl⟩
 refine pa.pb.hp.meth (by walk_at "lk") ⟨p,c.a,pl,tk,ml,wd,pls,pcs,w0,_,kvs,_,rfl,pa.pb,pa.hwd,ah,λu H1 s1 fv=>?_⟩
 walk_at "rd"
 rcases a7 with ⟨ao,q1⟩ | ⟨x,i,post,hz,b5,w,bw,q2⟩
 .have e0:(if 0 < pcs.length then ((w0 0 pcs.length).getD none) else none:Po.Fr)=none:=by
   rcases ao with z | z
   .rw [if_neg (by omega)]
   .rw [z];split <;> rfl
  rw [e0] at fv
  cases (show u=V.non from fv)
  rw [if_pos rfl]
  exact q1 H1 s1
 rw [if_pos hz,b5] at fv
 obtain ⟨t0,rfl,ad⟩:=fv
 dsimp only at ad
 rw [if_neg (λz=>by cases z)]
 have a9:i < pcs.length:=dw.ix _ _ _ b5
 obtain ⟨zs,be⟩:∃ zs,pcs[i]?=some zs:=⟨_,yAF a9⟩
 obtain ⟨t,ht⟩:∃ t,ts[i]?=some t:=⟨_,yAF (show i < ts.length by rw [pa.tlen];exact a9)⟩
 have aa:tkN ts i=ts.set i (t+1):=by
  unfold tkN
  rw [yBI,ht];rfl
 rw [aa] at w q2
 have bx:=st.mono s1
 have ae:=pa.mono s1
 clear ah
 refine ZAX ?_
 walk_at "rd"
 refine ZAz (SqT.of ad) (ZAj (by decide) rfl) ?_
 walk_at "rd"
 refine ae.pb.hp.get T.Db T.No (by walk_at "lk") (ZAo (SqL.of ae.htk) (atI_nN ht) ?_)
 walk_at "rd"
 rw [show (t:Int)+1=((t+1:Nat):Int) by omega]
 refine ZAX ?_
 walk_at "rd"
 obtain ⟨mvs,aj,a8⟩:=ae.hml
 refine ae.pb.hp.get T.Db T.Nq (by walk_at "lk") ?_
 have b1:=a8.len
 rw [Po.mts_len] at b1
 refine ZA8 (SqL.of aj) (by omega) (λk ys σ H'=>∃ v,σ=[v,some (.int (i:Int))] /\ Same H1 H' /\ MsAt H' ys (((Po.mts 0 pcs.length).take k).filter (onW i))) ⟨_,rfl,.refl _,MsAt.nil⟩ (λk ys σ H' _ ⟨_,_,e,hM⟩=>⟨SqL.of (e _ _ aj),by rw [hM.len];exact yAL (List.length_filter_le _ _) (by rw [yAP];omega)⟩) ?_ ?_
 .rintro k ys u σ H' hk hu ⟨v,rfl,sA,hM⟩
  obtain ⟨m,hm⟩:∃ m,(Po.mts 0 pcs.length)[k]?=some m:=⟨_,yAF (by rw [Po.mts_len];omega)⟩
  obtain ⟨tm,ay,bg⟩:=a8.get k m hm
  rw [hu] at ay
  cases ay
  have au:=sA _ _ bg
  have aa:(Po.mts 0 pcs.length).take (k+1)=(Po.mts 0 pcs.length).take k++[m]:=by rw [yCH,hm];rfl
  walk_at "rd"
  refine ZAz (SqT.of au) (ZAj (by decide) rfl) ?_
  walk_at "rd"
  by_cases h1:(m.1:Int) <= i
  .rw [if_pos h1]
   refine ZAz (SqT.of au) (ZAj (by decide) rfl) ?_
   walk_at "rd"
   by_cases h2:(i:Int) < m.2.2
   .rw [if_pos h2]
    refine Nxt.of hk ⟨_,rfl,sA,?_⟩
    rw [aa,yDJ,yCK (by unfold onW;rw [decide_eq_true (by omega),decide_eq_true (by omega)];rfl)]
    exact hM.app (MsAt.one au)
   .rw [if_neg h2]
    refine Nxt.of hk ⟨_,rfl,sA,?_⟩
    rw [aa,yDJ,yCF (by unfold onW;rw [decide_eq_false (show ¬ i < m.2.2 by omega),Bool.and_false];decide),List.filter_nil,yBA]
    exact hM
  .rw [if_neg h1]
   refine Nxt.of hk ⟨_,rfl,sA,?_⟩
   rw [aa,yDJ,yCF (by unfold onW;rw [decide_eq_false (show ¬ m.1 <= i by omega),Bool.false_and];decide),List.filter_nil,yBA]
   exact hM
 rintro ys σ H2 ⟨v,rfl,s2,b8⟩ wy ai
 rw [a8.len,yBL (yAB _)] at b8
 obtain ⟨H3,e3,s3,h3⟩:=newH ai (.lst ys)
 rw [e3];clear e3
 have S3:=s1.trans (s2.trans s3)
 have aq:=pa.mono S3
 refine ZAX ?_
 walk_at "rd"
 refine aq.pb.hp.get T.Db T.Ni (by walk_at "lk") ⟨wd,kvs,rfl,aq.hwd.hd,aq.hwd.sm,λd2 b6=>?_⟩
 obtain ⟨H4,e4,s4,h4⟩:=newH b6 (.dT kvs)
 rw [e4];clear e4
 have S4:=S3.trans s4
 have a6:=pa.mono S4
 have b9:DT H4 d2 w0 (2 * pcs.length-1) kvs:=⟨h4,a6.hwd.sm,a6.hwd.len,a6.hwd.val⟩
 refine ZAX ?_
 walk_at "rd"
 refine a6.pb.hp.meth (by walk_at "lk") ⟨p,c.a,pl,tk,ml,wd,pls,pcs,i,t+1,zs,rfl,a6.pb,be,λu H5 s5 fv=>?_⟩
 walk_at "rd"
 rw [show (i:Int)+1=((i+1:Nat):Int) by omega]
 refine ⟨ZAW (by decide),λk1 b3=>?_⟩
 obtain ⟨H6,e6,s6,h6⟩:=newH b3 (.tup [.int (i:Int),.int ((i+1:Nat):Int)])
 rw [e6];clear e6
 have a1:=(b9.mono s5).mono s6
 have hB:2 * pcs.length-1 <= 400:=by omega
 refine ⟨d2,_,rfl,DPut.t (k:=kQ i (i+1)) a1.hd h6 (ZAk (by have:=a1.len;omega)),?_⟩
 have ab:=a1.put (a:=i) (c:=i+1) (k:=0) (by omega) (by omega) (fv.keep λ_ _ z=>s6 _ _ z) (.inr (ac i a9))
 rw [yCY] at ab
 have S6:=S4.trans (s5.trans s6)
 have bb:H d2=none:=S3.free b6
 have k7:∀ b o,b≠d2->H6 b=some o->upd H6 d2 (.dT (putK kvs (kQ i (i+1)) u)) b=some o:=λb o n h=>by rw [ZAJ n];exact h
 have S7:Same H (upd H6 d2 (.dT (putK kvs (kQ i (i+1)) u))):=λb o h=>k7 b o (ZAD h bb) (S6 _ _ h)
 have a3:=(s4.trans (s5.trans s6)) _ _ h3
 have ag:=k7 wy _ (λz=>by rw [z,a1.hd] at a3;cases a3) a3
 have aw:=b8.keep λb z h=>by
  have a2:=(s3.trans (s4.trans (s5.trans s6))) _ _ h
  exact k7 b _ (λz=>by rw [z,a1.hd] at a2;cases a2) a2
 have bh:front zs (t+1) i=frW pcs (ts.set i (t+1)) i:=(frW_at be (by rw [List.getElem?_set,if_pos rfl,if_pos (by rw [pa.tlen];exact a9)])).symm
 rw [bh] at ab
 have b2:∀ b z,H1 b=some (.tup z)->upd H6 d2 (.dT (putK kvs (kQ i (i+1)) u)) b=some (.tup z):=λb z h=>by
  have a2:=(s2.trans (s3.trans (s4.trans (s5.trans s6)))) _ _ h
  exact k7 b _ (λz=>by rw [z,a1.hd] at a2;cases a2) a2
 generalize upd H6 d2 (.dT (putK kvs (kQ i (i+1)) u))=H7 at ab S7 ag aw b2 ⊢
 generalize putK kvs (kQ i (i+1)) u=kv7 at ab
 have bf:∀ b z,H1 b=some (.tup z)->H7 b=some (.tup z):=λb z h=>b2 b z h
 have bc:=st.mono S7
 have O:=pa.mono S7
 have c0:=ad
 have bq:H wy=none:=(s1.trans s2).free ai
 clear k7 a1 b9 s6 S6 a3 h6 b3
 refine ZAX ?_
 walk_at "rd"
 have bv:∀ a' c' x,Po.put w0 i (i+1) (frW pcs (ts.set i (t+1)) i) a' c'=some (some x)->x.2 < pcs.length:=put_ix dw.ix λx hx=>by rw [(ZBN hx).1];exact a9
 refine O.pb.hp.meth (by walk_at "lk") ⟨c,pr,p,pl,tk,ml,wd,wy,d2,ys,_,_,2 * pcs.length-1,0,kv7,_,rfl,bc,O.pb.hp,Ad.SA px.p,Ad.SA (st.off bq),ag,aw,yAL (List.length_filter_le _ _) (by rw [Po.mts_len];omega),λm hm=>?_,ab,by omega,.inr ⟨rfl,λm hm=>ZCt (dw.pr m (yCN.mp hm).1)⟩,hk,w.also (ZDb _ _ bv),λpr' z=>bw pr' z.2,λd8 H8 w1 kv8 pr2 f8 af a5 br bo=>?_⟩
 .have:=Po.mts_mem (a:=m.1) (m:=m.2.1) (c:=m.2.2) _ _ (yCN.mp hm).1
  omega
 obtain ⟨bi,ap⟩:=bo
 obtain ⟨am,bd⟩:=bi w1 rfl
 have bm:Dw pcs.length (Po.mts 0 pcs.length) w1:=⟨λm hm=>am _ _ (ZCt (dw.pr m hm)),bd.ix⟩
 have bn:∀ j,j < pcs.length->(w1 j (j+1)).isSome=true:=λj hj=>am _ _ (ZCt (ac j hj))
 have i8:=ZBw f8 (Ad.SA px.p) O.pb.hp
 refine i8.set T.Db T.Ni (λH9 i9 k9=>?_) ⟨_,by walk_at "lk"⟩
 have av:Ins H9 p Cc (fP c.a pl tk ml d8):=i9.congr λf=>by
  simp only [ZAb,lkc]
  by_cases z:f=Str.ofString "went_on"
  .rw [if_pos z,if_pos z]
  .rw [if_neg z,if_neg z,if_neg z]
 obtain ⟨c1,c2,e8,_⟩:=i8.ex
 have e9:∀ b o,b≠p->H8 b=some o->H9 b=some o:=λb o n h=>by rw [k9 b n];exact h
 have tX:∀ b o,H8 b=some o->(∀ C d f,o≠.ins C d f)->H9 b=some o:=λb o h n=>e9 b o (λz=>by rw [z,e8] at h;exact n _ _ _ (Option.some.inj h).symm) h
 have a4:=tX _ _ (f8 _ _ (Ad.SA px.tk) O.htk) (λ_ _ _ z=>by cases z)
 have bj:SitR Ca Cb H9 c pr2:=br.apart (S:=[p]) (λb o n h=>e9 b o (λz=>n (by rw [z];exact yAD)) h) (λb hb=>by rw [yAH.mp hb];exact .inr (.inl ⟨_,_,_,e8⟩)) λb hb=>by rw [yAH.mp hb];exact px.p
 have bz:d8≠p:=λz=>by
  obtain ⟨_,_,e1,_⟩:=O.pb.hp.ex
  rw [z,e1] at af;cases af
 have b0:d8≠tk:=λz=>by rw [z,O.htk] at af;cases af
 refine ZAX ?_
 walk_at "rd"
 refine av.get T.Db T.No (by walk_at "lk") ?_
 refine ⟨tk,_,_,_,rfl,rfl,a4,ZFV (by omega) (by rw [yAA,pa.tlen];omega),?_⟩
 rw [Int.toNat_natCast]
 have a0:∀ b o,b≠tk->H9 b=some o->upd H9 tk (.lst ((nL ts).set i (.int ((t+1:Nat):Int)))) b=some o:=λb o n h=>by rw [ZAJ n];exact h
 have ba:upd H9 tk (.lst ((nL ts).set i (.int ((t+1:Nat):Int)))) tk=some (.lst (nL (ts.set i (t+1)))):=by
  rw [ZAE];unfold nL;rw [List.map_set]
 generalize upd H9 tk (.lst ((nL ts).set i (.int ((t+1:Nat):Int))))=H10 at a0 ba ⊢
 have bu:p≠tk:=λz=>by
  obtain ⟨_,_,e1,_⟩:=av.ex
  rw [z,a4] at e1;cases e1
 have up:∀ b o,b∉c.S->b≠tk->H7 b=some o->(∀ C d f,o≠.ins C d f)->H10 b=some o:=λb o n1 n2 h n3=>a0 b o n2 (tX _ _ (f8 _ _ n1 h) n3)
 have tS:∀ b z,H7 b=some (.tup z)->H10 b=some (.tup z):=λb z h=>up b _ (Ad.SA (bc.tupS h (λ_ z=>by cases z) (λ_ _ _ z=>by cases z))) (λy=>by rw [y,O.htk] at h;cases h) h (λ_ _ _ z=>by cases z)
 have bp:=tS _ _ (bf t0 _ ad)
 obtain ⟨bt,b7,ax⟩:=O.hml
 rw [yCA,yCY] at a5
 have az:PourAt Cc H10 p c.a pl tk ml d8 pls pcs (ts.set i (t+1)) w1 kv8:=⟨⟨ZBw (S:=[tk]) (λb o n h=>a0 b o (λz=>n (by rw [z];exact yAD)) h) (λz=>bu (yAH.mp z)) av,up _ _ (Ad.SA px.pl) (Ne.symm pa.ne.1) O.pb.hpl (λ_ _ _ z=>by cases z),pa.pb.len,λj l ys h1 h2=>up _ _ (Ad.SA (px.ls l (yAS h1))) (pa.ne.2.2 l (yAS h1)) (O.pb.pc j l ys h1 h2) (λ_ _ _ z=>by cases z)⟩,ba,⟨bt,up _ _ (Ad.SA px.ml) (Ne.symm pa.ne.2.1) b7 (λ_ _ _ z=>by cases z),ax.keep tS⟩,⟨a0 _ _ b0 (tX _ _ a5.hd (λ_ _ _ z=>by cases z)),a5.sm,a5.len,λb c v h=>let ⟨u,h1,h2⟩:=a5.val b c v h;⟨u,h1,h2.keep λt z y=>a0 _ _ (λe=>by rw [e,f8 _ _ (Ad.SA px.tk) O.htk] at y;cases y) (tX _ _ y (λ_ _ _ z=>by cases z))⟩⟩,by rw [yDE];exact pa.tlen,pa.ne⟩
 have b4:SitR Ca Cb H10 c pr2:=bj.apart (S:=[tk]) (λb o n h=>a0 b o (λz=>n (by rw [z];exact yAD)) h) (λb hb=>by rw [yAH.mp hb];exact .inl ⟨_,a4⟩) λb hb=>by rw [yAH.mp hb];exact px.tk
 walk_at "rd"
 refine ZAz (SqT.of bp) (ZAj (by decide) rfl) ?_
 refine q2 d8 w1 H10 kv8 pr2 (λb o n h=>?_) az bm bn b4 ap
 have m:∀ c',c'∈[p,tk,c.a,c.lg,c.tl]->b≠c':=λc' hc z=>n (by rw [z];exact hc)
 exact a0 b o (m tk (by simp)) (e9 b o (m p (by simp)) (f8 b o (λz=>n (yAE _ (yAE _ z))) (S7 _ _ h)))
theorem Oac (F:Fun K "poured" "poured" ZDy f fd)(T:Bt K mg Ce Cd Cc Ca Cb)
  (O:Mt P w K mg base CX0 Cc "take" 7 ["self"] (spTakeW Ca Cb Cc))
  (U:Mt P w K mg base CX0 Cc "left" 1 ["self"] (spLeft Cc))
  (a3:Kl P w K mg base CX0 "Pour" Cc 10 ["self","asker","pieces"] (spPourInitW Ca Cb Cc))
 :FnOk P w K mg base CX0 12 f fd ["asker","pieces"] (spPouredW Ca Cb):=by
 refine F.ok Vs (λvs H Q E h=>?_) (λb8 A outer s H vs Q E hr h=>?_)
 .obtain ⟨c,pr,hl,hls,pcs,post,rfl,st,ad,hP,hn,ht,hk,w,a6,q⟩:=h
  rfl
 obtain ⟨c,pr,hl,hls,pcs,post,rfl,st,ad,hP,hn,ht,hk,w,a6,q⟩:=h
 refine ⟨_,(ZAB (ZAL (i:=2) Vs.nd rfl (by walk_at "o") (ZFS a3 (hr.mono (by decide)) rfl ZAS (ZAA (pv 0) (ZAA (pv 1) ZAC))))
  (ZAH (ZAQ (ZBM rfl (k:=1) (js:=[2]) (N':=["turn","pour"]) (by rfl) (ZBf rfl T.b_range (ZAA (ZBG U (hr.mono (by decide)) ZAS (pv 2)) ZAC)) (λ_ _ _ _=>ZAY (i:=0) (show (["turn","pour"]:List Str).Nodup by decide +kernel) rfl (by walk_at "o")) (λ_ _ _ _=>ZAp) (λ_ _ _ _=>(ZBG O (hr.mono (by decide)) ZAS (pv 1))))))),?_⟩
 walk_at "rd"
 intro po dp a4 ap az
 have ao:upd H dp (.own po) po=none:=by rw [ZAJ (Ne.symm az)];exact a4
 have a1:Same H (upd (upd H dp (.own po)) po (.ins Cc dp [])):=(ZAM ap _).trans (ZAM ao _)
 have ai:(upd (upd H dp (.own po)) po (.ins Cc dp [])) po=some (.ins Cc dp []):=ZAE
 generalize upd (upd H dp (.own po)) po (.ins Cc dp [])=H16 at a1 ai ⊢
 have ae:=st.off a4
 replace w:=w.also (pouredP_len pcs)
 replace a6:∀ pr',¬ ((∀ os,(none:Option (List Nat))=some os->os.length=tot pcs) /\ post none pr'):=λpr' z=>a6 pr' z.2
 generalize hpst:(λo pr'=>(∀ os,o=some os->os.length=tot pcs) /\ post o pr')=post2 at w
 have a2:∀ pr',¬ post2 none pr':=λpr' z=>by rw [<- hpst] at z;exact a6 pr' z
 unfold ZCg at w
 refine ⟨c,pr,po,dp,hl,hls,pcs,_,rfl,ai,st.mono a1,a1 _ _ ad,hP.len,λj l zs h1 h2=>a1 _ _ (hP.at' j l zs h1 h2),hn,ae,hk,w.bind,λpr' z=>a2 pr' z,λpl tk ml wd pls w1 H17 kvs pr1 b4 pa dw au a0 ag a7=>⟨rfl,?_⟩⟩
 have fr:∀ b,H16 b=none->H b=none:=λb h=>a1.free h
 have px:PX c po pl tk ml pls:=⟨ae,st.off (fr _ a0.1),st.off (fr _ a0.2.1),st.off (fr _ a0.2.2.1),λl h=>st.off (fr _ (a0.2.2.2.2 l h))⟩
 have b2:=fr _ a0.2.1
 have aw:Fr c.S H H17:=λb o n h=>b4 b o (ZAD h a4) n (a1 _ _ h)
 have hsz:∀ ys∈pcs,ys.length <= 500:=λys hy=>yAL (ZDs hy) ht
 walk_at "rd"
 have tz:∀ t∈List.replicate pcs.length 0,t <= 500:=λt h=>by rw [(List.mem_replicate.mp h).2];decide
 refine pa.pb.hp.meth (by walk_at "lk") ⟨po,c.a,pl,tk,ml,wd,pls,pcs,_,rfl,pa.pb,pa.htk,by omega,by rw [yBV];omega,hsz,tz,λb5 ac=>?_⟩
 rw [show (List.replicate pcs.length 0).sum=0 by simp,Int.natCast_zero,Int.sub_zero]
 have a7:Wp c.n c.an (ZCh pcs (pcs.map List.length).sum (List.replicate pcs.length 0) w1 []) pr1 post2:=a7
 have b1:(pcs.map List.length).sum <= 500:=ht
 obtain ⟨m,hm⟩:∃ m,(pcs.map List.length).sum=m:=⟨_,rfl⟩
 rw [hm] at a7 b1 ⊢
 refine ZDf (by omega) (λk ys σ X=>∃ v wd w kvs ts J pr',σ=[v,some (.ref po)] /\ ys=nL J /\ J.length=k /\ k <= m /\ SitR Ca Cb X c pr' /\ PourAt Cc X po c.a pl tk ml wd pls pcs ts w kvs /\ Dw pcs.length (Po.mts 0 pcs.length) w /\ (∀ j,j < pcs.length->(w j (j+1)).isSome=true) /\ Fr [po,tk,c.a,c.lg,c.tl] H17 X /\ Wp c.n c.an (ZCh pcs (m-k) ts w J) pr' post2) ⟨_,wd,w1,kvs,_,[],pr1,rfl,rfl,rfl,yAJ _,ag.mono ac,pa.mono ac,dw,au,ac.fr,a7⟩ (λk ys σ X ⟨_,_,_,_,_,_,_,_,e,e2,_⟩=>by rw [e,yAA,e2];exact yAB _) ?_ ?_
 .rintro k ys σ X b6 ⟨v,af,w2,a8,ts,J,pr2,rfl,rfl,ah,b0,a5,ab,am,a9,fX,wX⟩
  have b7:k < m:=by omega
  have hz:0 < pcs.length:=by
   cases pcs with
   | nil=>simp at hm;omega
   | cons p ps=>simp
  rw [show m-k=(m-(k+1))+1 by omega,ZCh] at wX
  walk_at "rd"
  split at wX
  .rename_i cc hcc
   obtain ⟨x,i⟩:=cc
   dsimp only at wX
   refine ab.pb.hp.meth (by walk_at "lk") ⟨c,pr2,po,pl,tk,ml,af,pls,pcs,ts,w2,a8,rfl,a5,ab,px,am,a9,hn,hk,.inr ⟨x,i,_,hz,hcc,wX.bind,λpr' z=>a2 pr' z,λwd' w' Y kv' ay fY ax aq aj b3 av=>?_⟩⟩
   refine Nxt.of (by omega) ⟨_,wd',w',kv',_,J++[x],ay,rfl,?_,by rw [yAC,ah];rfl,by omega,b3,ax,aq,aj,fX.trans fY,av⟩
   unfold nL
   rw [yAK];rfl
  .exact absurd wX (a2 _)
 rintro ys σ X ⟨v,af,w2,a8,ts,J,pr2,rfl,rfl,ah,b0,a5,ab,am,a9,fX,wX⟩ l aa
 rw [Int.toNat_natCast,yBG] at wX
 have fH:Fr c.S H X:=λb o n h=>by
  refine fX b o (λz=>?_) (aw b o n h)
  rcases yAI.mp z with z | z
  .exact ZAD h a4 z
  rcases yAI.mp z with z | z
  .exact ZAD h b2 z
  .exact n z
 have wX:post2 (some J) pr2:=wX
 rw [<- hpst] at wX
 exact q l _ J pr2 (fH.trans (ZAM aa _).fr) (a5.free fH aa) ZAE (a5.mono (ZAM aa _)) (wX.1 J rfl) wX.2
theorem Oab (F:Fun K "one_round" "one_round" ZCV f fd)(T:Bt K mg Ce Cd Cc Ca Cb)
  (O:Fn P w K mg base CX0 "poured" 12 ["asker","pieces"] (spPouredW Ca Cb))
 :FnOk P w K mg base CX0 13 f fd ["asker","pieces","mouths"] (spOneRoundW Ca Cb):=by
 refine F.ok V2 (λvs H Q E h=>?_) (λam A outer s H vs Q E hr h=>?_)
 .obtain ⟨c,pr,hl,hls,pcs,d,post,rfl,st,a4,hP,a7,a3,hn,ht,hd,ab,hk,w,a9,q⟩:=h
  rfl
 obtain ⟨c,pr,hl,hls,pcs,d,post,rfl,st,a4,hP,a7,a3,hn,ht,hd,ab,hk,w,a9,q⟩:=h
 refine ⟨_,(ZAH (ZAQ (ZBM rfl (k:=1) (js:=[0,1,2]) (N':=["first","asker","pieces","mouths"]) (by rfl) (pi_range3 rfl T.b_range (ZAA ZAF (ZAA (ZAK ZAI rfl T.b_len PySem.boot_len (ZAA (pv 1) ZAC)) (ZAA (pv 2) ZAC)))) (λ_ _ _ _=>ZAY (i:=0) (show (["first","asker","pieces","mouths"]:List Str).Nodup by decide +kernel) rfl (by walk_at "o")) (λ_ _ _ _=>ZAp) (λ_ _ _ _=>(ZAl O (hr.mono (by decide)) rfl ZAS (ZAA (pv 1) (ZAA (ZCv (sl_listK K) (pv 2) (ZB3 (pv 0)) (ZB3 (ZAN ZAe (pv 0) (pv 3)))) ZAC))))))),?_⟩
 walk_at "rd"
 refine ⟨hl,_,rfl,.inl (SqL.of a4),?_⟩
 rw [yAA,hP.len]
 refine compR3_of (i:=((0:Nat):Int)) (by omega) (rng_grp hd) (ZAW (by have:=ZFY (n:=pcs.length) hd;omega)) (λk ys σ X=>∃ v ls out pr',σ=[v,some (.ref c.a),some (.ref hl),some (.int (d:Int))] /\ ys=ls.map V.ref /\ ls.length=k /\ PL X ls out /\ tot out+tot (pcs.drop (k * d))=tot pcs /\ SitR Ca Cb X c pr' /\ Fr c.S H X /\ (∀ l∈ls,H l=none) /\ Wp c.n c.an (oneP d (grpN pcs.length d-k) (pcs.drop (k * d)) out) pr' post) ⟨_,[],[],pr,rfl,rfl,rfl,.nil,by rw [yCA];show 0+tot pcs=tot pcs;omega,st,.refl,(λl h=>by cases h),by rw [yCA];exact w⟩ (λk ys σ X ⟨_,ls,_,_,_,e,e2,_⟩=>by rw [e,yAA,e2];exact yAB _) ?_ ?_
 .rintro k ys σ X ac ⟨v,ls,out,pr1,rfl,rfl,a5,a2,a8,U,fX,J,wX⟩
  walk_at "rd"
  have e0:((0:Nat):Int)+(k:Int) * (d:Int)=((k * d:Nat):Int):=by rw [Int.natCast_mul];omega
  rw [e0]
  refine ZEH (SqL.of (fX _ _ (Ad.SA a7) a4)) λs1 ah=>?_
  rw [cutV_mid,<- yCR,<- yCQ]
  obtain ⟨X1,e1,a0,h1⟩:=newH ah (.lst (((hls.drop (k * d)).take d).map V.ref))
  rw [e1];clear e1
  have ag:PL X1 ((hls.drop (k * d)).take d) ((pcs.drop (k * d)).take d):=((hP.frk fX λb hb=>Ad.SA (a3 b hb)).sl (k * d) d).mono a0
  have af:=tot_td (pcs.drop (k * d)) d
  rw [yCU] at af
  rw [show grpN pcs.length d-k=(grpN pcs.length d-(k+1))+1 by omega,oneP,yCU] at wX
  walk_at "rd"
  refine ⟨c,pr1,s1,_,_,_,rfl,U.mono a0,h1,ag,by rw [yAP,yAX];omega,by omega,hk,wX.bind,λpr' z=>a9 pr' z,λl Y os pr2 fY a1 ae ai aj ad=>?_⟩
  have a6:X l=none:=a0.free a1
  have aa:H l=none:=U.free fX a6
  refine Nxt.of ac ⟨_,ls++[l],out++[os],pr2,rfl,by rw [yAK];rfl,by rw [yAC,a5];rfl,?_,?_,ai,fX.trans (a0.fr.trans fY),λl' h=>?_,?_⟩
  .exact ((a2.mono a0).frk fY λb hb=>Ad.SA (st.off (J b hb))).snoc ae
  .rw [ZES,yBQ,show tot [os]=os.length by unfold tot;simp]
   omega
  .rcases yAY.mp h with h | h
   .exact J l' h
   .rw [yAH.mp h];exact aa
  .rw [yBQ];exact ad
 rintro ys σ X ⟨v,ls,out,pr1,rfl,rfl,a5,a2,a8,U,fX,J,wX⟩ l a1
 have sN:=ZAM a1 (.lst (ls.map V.ref))
 rw [yBG] at wX
 have e0:pcs.drop (grpN pcs.length d * d)=[]:=yCE (ZEx hd)
 rw [e0] at a8
 have:tot ([]:List (List Nat))=0:=rfl
 exact q l _ ls out pr1 (fX.trans sN.fr) (U.free fX a1) ZAE (a2.mono sN) J (U.mono sN) (by rw [<- a2.len,a5]) (by omega) wX
theorem Oap (F:FunD K "in_rounds" "in_rounds" ZCW f fd dv)(T:Bt K mg Ce Cd Cc Ca Cb)
  (U:Fn P w K mg base CX0 "one_round" 13 ["asker","pieces","mouths"] (spOneRoundW Ca Cb))
 :FnOk P w K mg base CX0 14 f fd ["asker","pieces","mouths"] (spInRoundsW Ca Cb):=by
 refine F.ok Vq (λvs H Q E h=>?_) (λbw A outer s H vs Q E hr h=>?_)
 .obtain ⟨c,pr,hl,hls,pcs,d,post,rfl,st,ai,hP,hn,ht,b1,au,hk,w,b4,q⟩:=h
  rfl
 obtain ⟨c,pr,hl,hls,pcs,d,post,rfl,st,ai,hP,hn,ht,b1,au,hk,w,b4,q⟩:=h
 refine ⟨_,(ZAB (ZBb (i:=3) Vq.nd rfl (Or.inl rfl) rfl (k:=1) (js:=[]) (N':=["piece"]) (by rfl) (ZAq (pv 1)) (λ_ _ _ _=>ZAY (i:=0) (show (["piece"]:List Str).Nodup by decide +kernel) rfl (by walk_at "o")) (λ_ _ _ _=>ZAp) (λ_ _ _ _=>(ZAi (ZBH K) rfl T.b_list PyProof.Rows.boot_list (ZAA (pv 0) ZAC))))
  (ZAR
  (ZAB (ZAL (i:=4) Vq.nd rfl (by walk_at "o") (ZA6 ZAC))
  (ZAR
  (ZAB (ZBY PassesOwn.never (ZAO ZDk (ZAK ZAI rfl T.b_len PySem.boot_len (ZAA (pv 3) ZAC)) ZAF (ZAU _))
  (ZAB (ZAL (i:=3) Vq.nd rfl (by walk_at "o") (ZAl U (hr.mono (by decide)) rfl ZAS (ZAA (pv 0) (ZAA (pv 3) (ZAA (pv 2) ZAC)))))
  (ZAH (ZAh (ZB4 PySem.F.plainAttrs_list PySem.F.slot_list_append PySem.F.type_list_append ZA7 (pv 4) (ZAA (ZAK ZAI rfl T.b_len PySem.boot_len (ZAA (pv 3) ZAC)) ZAC))))))
  (ZAR
  (ZAH (ZAQ (ZBB (ZAA (ZAy (pt_lst (pv 3)) (ZAg ZAd (pv 3) ZAF (λ_ _=>rfl)) (ZA6 ZAC)) (ZAA (pv 4) ZAC))))))))))),?_⟩
 walk_at "rd"
 have br:=hP.len
 refine ZA8 (SqL.of ai) (by rw [yAA];omega) (λi ys σ H'=>∃ v ns,σ=[v] /\ Same H H' /\ ys=ns.map V.ref /\ ns.length=i /\ (∀ (j:Nat) l zs,ns[j]?=some l->pcs[j]?=some zs->H' l=some (.lst (nL zs))) /\ ∀ l∈ns,H l=none /\ ∃ z,H' l=some (.lst z)) ⟨_,[],rfl,.refl _,rfl,rfl,λj l zs h=>by simp at h,λl h=>by cases h⟩ (λi ys σ H' _ ⟨_,ns,_,e,e2,e3,_⟩=>⟨SqL.of (e _ _ ai),by rw [e2,yAA];omega⟩) ?_ ?_
 .rintro i ys u σ H' hi hu ⟨v,ns,rfl,sA,rfl,ad,a9,bg⟩
  rw [yAA] at hi
  have hi2:i < pcs.length:=by omega
  obtain ⟨zs,b9⟩:∃ zs,pcs[i]?=some zs:=⟨_,yAF hi2⟩
  rw [yAM,yAF hi] at hu
  cases hu
  have bi:=sA _ _ (hP.at' i _ zs (yAF hi) b9)
  walk_at "rd"
  refine ⟨_,_,rfl,.inl (SqL.of bi),λl' ac=>?_⟩
  refine Nxt.of (by rw [yAA];exact hi) ⟨_,ns++[l'],rfl,sA.new ac,by rw [yAK];rfl,by rw [yAC,ad];rfl,λj l ba h1 h2=>?_,λl h=>?_⟩
  .by_cases z:j < ns.length
   .rw [yBB z] at h1
    exact ZAM ac _ _ _ (a9 j l ba h1 h2)
   .rw [yAT (by omega)] at h1
    cases hk:j-ns.length with
    | zero=>
     rw [hk] at h1
     cases h1
     rw [show j=i by omega,b9] at h2
     cases h2
     exact ZAE
    | succ m=>rw [hk] at h1;simp at h1
  .rcases yAY.mp h with h | h
   .obtain ⟨a1,z,a2⟩:=bg l h
    exact ⟨a1,z,ZAM ac _ _ _ a2⟩
   .rw [yAH.mp h];exact ⟨sA.free ac,_,ZAE⟩
 rintro ys σ bo ⟨v,a9,rfl,av,rfl,ad,ap,aq⟩ bj hd0
 rw [yAA] at ad
 obtain ⟨bb,ax,b7,aw⟩:=newH hd0 (.lst (a9.map V.ref))
 rw [ax];clear ax
 have b6:=av.trans b7
 have a5:PL bb a9 pcs:=⟨by omega,λj l zs h1 h2=>b7 _ _ (ap j l zs h1 h2)⟩
 refine ZAX ?_
 walk_at "rd"
 refine ⟨yAJ _,λnm a3=>?_⟩
 obtain ⟨bu,b3,aj,bf⟩:=newH a3 (.lst [])
 rw [b3];clear b3
 have az:=b6.trans aj
 refine ZAX ?_
 walk_at "rd"
 refine ZBW (λm σ X=>∃ cm ls O J f pr',m=O.length /\ σ=[some (.ref c.a),some (.ref hl),some (.int (d:Int)),some (.ref cm),some (.ref nm)] /\ SitR Ca Cb X c pr' /\ X cm=some (.lst (ls.map V.ref)) /\ PL X ls O /\ X nm=some (.lst (nL J)) /\ H cm=none /\ (∀ b∈ls,H b=none /\ b≠nm) /\ cm≠nm /\ J.length+O.length <= 200 /\ O.length <= f+1 /\ tot O=tot pcs /\ Fr c.S H X /\ Wp c.n c.an (ZBK d f O J) pr' post) ⟨_,bj,a9,pcs,[],_,pr,rfl,rfl,st.mono az,aj _ _ aw,a5.mono aj,bf,av.free hd0,λb hb=>⟨(aq b hb).1,λz=>by obtain ⟨y,hy⟩:=a5.ex hb;rw [z,a3] at hy;cases hy⟩,ZAD aw a3,by simp;omega,yBF _,rfl,az.fr,w⟩ ?_
 rintro m σ X ⟨cm,ls,O,J,f,pr1,rfl,rfl,a0,af,aa,ae,be,b8,bt,ad,bp,a7,fX,wX⟩
 have a8:H nm=none:=b6.free a3
 walk_at "rd"
 refine ⟨cm,_,rfl,.inl (SqL.of af),?_⟩
 rw [yAA,aa.len]
 by_cases hlt:(O.length:Int) > 1
 .rw [if_pos hlt]
  refine ZBX ?_
  walk_at "rd"
  obtain ⟨f,rfl⟩:∃ k,f=k+1:=⟨f-1,by omega⟩
  rw [ZBK,if_pos (by omega)] at wX
  have bn:=ZFX (l:=O.length) b1 (by omega)
  refine ⟨c,pr1,cm,ls,O,d,_,rfl,a0,af,aa,st.off be,λl hl=>st.off (b8 l hl).1,by omega,by omega,by omega,au,hk,wX.bind,λpr' z=>b4 pr' z,λl Y bc out pr2 fY ah b0 b5 ab bm bv bq bd=>?_⟩
  have a6:=fY _ _ (Ad.SA (st.off a8)) ae
  walk_at "rd"
  refine ⟨.inl ⟨rfl,_,SqL.of a6⟩,l,_,rfl,.inl (SqL.of b0),nm,_,_,rfl,rfl,a6,ZAk (by rw [yAA];omega),?_⟩
  rw [yAA,b5.len]
  have fZ:Fr [nm] Y (upd Y nm (.lst (nL J++[.int ((out.length:Nat):Int)]))):=Fr.upd yAD
  have hZ:upd Y nm (.lst (nL J++[.int ((out.length:Nat):Int)])) nm=some (.lst (nL (J++[out.length]))):=by
   rw [ZAE];unfold nL;rw [yAK];rfl
  generalize upd Y nm (.lst (nL J++[.int ((out.length:Nat):Int)]))=Z at fZ hZ ⊢
  have ag:∀ b,X b=none->b≠nm:=λb h=>Ne.symm (ZAD ae h)
  have am:∀ b,b≠nm->b∉[nm]:=λb n z=>n (yAH.mp z)
  refine ⟨out.length,by omega,l,bc,out,J++[out.length],f,pr2,rfl,rfl,?_,fZ _ _ (am _ (ag l ah)) b0,b5.frk fZ (λb hb=>am _ (ag b (ab b hb))),hZ,a0.free fX ah,λb hb=>⟨a0.free fX (ab b hb),ag b (ab b hb)⟩,ag l ah,by rw [yAC,yBD];omega,by omega,by omega,λb o n hb=>fZ _ _ (am _ (ZAD hb a8)) (fY _ _ n (fX b o n hb)),bd⟩
  exact bm.apart fZ (λb hb=>by rw [yAH.mp hb];exact .inl ⟨_,a6⟩) λb hb=>by rw [yAH.mp hb];exact st.off a8
 .rw [if_neg hlt]
  have h1:O.length <= 1:=by omega
  have wE:post (some (O.headD [],J)) pr1:=by
   cases f with
   | zero=>exact wX
   | succ f=>rw [ZBK,if_neg (by omega)] at wX;exact wX
  refine ZAX ?_
  walk_at "rd"
  refine ⟨cm,_,rfl,SqL.of af,?_⟩
  cases ls with
  | nil=>
   have ay:O=[]:=yBU.mp (by have:=aa.len;rw [<- this];rfl)
   rw [if_neg (by simp)]
   refine ⟨yAJ _,λe0 b2=>⟨ZAW (by decide),λtt a4=>?_⟩⟩
   have s0:=ZAM b2 (.lst [])
   have S:=s0.trans (ZAM a4 (.tup [.ref e0,.ref nm]))
   refine q tt e0 nm _ _ pr1 (fX.trans S.fr) (a0.free fX (s0.free a4)) (a0.free fX b2) a8 ZAE ?_ (S _ _ ae) (a0.mono S) ?_ wE
   .rw [ay]
    exact ZAM a4 _ _ _ ZAE
   .rw [ay] at a7 ⊢;exact a7
  | cons b r=>
   obtain ⟨ys,ao⟩:∃ ys,O=[ys]:=by
    have bh:=aa.len
    cases O with
    | nil=>simp at bh
    | cons y t=>
     cases t with
     | nil=>exact ⟨y,rfl⟩
     | cons z t=>simp at h1
   rw [if_pos (by simp)]
   refine ZAo (SqL.of af) (ZAj (v:=.ref b) (by decide) rfl) ⟨ZAW (by decide),λtt a4=>?_⟩
   have S:=ZAM a4 (.tup [.ref b,.ref nm])
   have hb:=aa.at' 0 b ys rfl (by rw [ao];rfl)
   refine q tt b nm _ _ pr1 (fX.trans S.fr) (a0.free fX a4) (b8 b yAD).1 a8 ZAE ?_ (S _ _ ae) (a0.mono S) ?_ wE
   .rw [ao]
    exact S _ _ hb
   .rw [ao] at a7 ⊢
    unfold tot at a7 ⊢
    simpa using a7
theorem Oaa (F:FunD K "by_pieces" "by_pieces" ZCY f fd dv)(T:Bt K mg Ce Cd Cc Ca Cb)
  (a1:Fn P w K mg base CX0 "by_pile" 9 ["asker","least","part"] (spByPileW Ca Cb))
  (O:Fn P w K mg base CX0 "in_rounds" 14 ["asker","pieces","mouths"] (spInRoundsW Ca Cb))
  (J:Mt P w K mg base CX0 Ca "many" 1 ["self"] (spMany Ca))
 :FnOk P w K mg base CX0 15 f fd ["asker","wide","mouths","least"] (spByPiecesW Ca Cb):=by
 refine F.ok Vr (λvs H Q E h=>?_) (λb0 A outer s H vs Q E hr h=>?_)
 .obtain ⟨c,pr,wd,d,ls,post,rfl,st,a2,ab,ac,a9,hn,w,ah,q⟩:=h
  rfl
 obtain ⟨c,pr,wd,d,ls,post,rfl,st,a2,ab,ac,a9,hn,w,ah,q⟩:=h
 refine ⟨_,(ZAB (ZAL (i:=4) Vr.nd rfl (by walk_at "o") (ZBG J (hr.mono (by decide)) ZAS (pv 0)))
  (ZAR
  (ZAB (ZBb (i:=5) Vr.nd rfl (Or.inl rfl) rfl (k:=1) (js:=[0,3,1,4]) (N':=["first","asker","least","wide","many"]) (by rfl) (pi_range3 rfl T.b_range (ZAA ZAF (ZAA (pv 4) (ZAA (pv 1) ZAC)))) (λ_ _ _ _=>ZAY (i:=0) (show (["first","asker","least","wide","many"]:List Str).Nodup by decide +kernel) rfl (by walk_at "o")) (λ_ _ _ _=>ZAp) (λ_ _ _ _=>(ZAl a1 (hr.mono (by decide)) rfl ZAS (ZAA (pv 1) (ZAA (pv 2) (ZAA (ZBB (ZAA (pv 0) (ZAA (ZAK (ZCM rfl) rfl T.b_min PyProof.Rows.boot_min (ZAA (ZAN ZAe (pv 0) (pv 3)) (ZAA (pv 4) ZAC))) ZAC))) ZAC))))))
  (ZAR
  (ZAH (ZAQ (ZAg ZA4 (ZAl O (hr.mono (by decide)) rfl ZAS (ZAA (pv 0) (ZAA (pv 5) (ZAA (pv 2) ZAC)))) ZAF (λ_ _=>rfl)))))))),?_⟩
 walk_at "rd"
 refine st.ha.meth (by walk_at "lk") ⟨c.a,c.rl,c.ru,c.tl,.non,_,c.xs,rfl,st.ha,st.hrl,?_⟩
 rw [st.len]
 walk_at "rd"
 refine ZAX ?_
 walk_at "rd"
 have ay:c.ks.length <= 200:=hn
 unfold ZFd at w
 have w:=w.bind
 unfold ZFe at w
 refine compR3_of (i:=((0:Nat):Int)) (by omega) (rng_grp (n:=c.n) a2) (ZAW (by have:=ZFY (n:=c.n) a2;omega)) (λk ys σ X=>∃ v U out pr',σ=[v,some (.ref c.a),some (.int (ls:Nat)),some (.int (wd:Nat)),some (.int (c.n:Nat))] /\ ys=U.map V.ref /\ U.length=k /\ PL X U out /\ tot out=min (k * wd) c.n /\ SitR Ca Cb X c pr' /\ Fr c.S H X /\ (∀ l∈U,H l=none) /\ Wp c.n c.an (pcsP grd ls wd c.n (grpN c.n wd-k) (k * wd) out) pr' λpcs pr'=>Wp c.n c.an ((ZBK d pcs.length pcs []).bind λo=>match o with
  | none=>.ret none
  | some r=>.ret (some r.1)) pr' post) ⟨_,[],[],pr,rfl,rfl,rfl,.nil,by rw [yCA,Nat.zero_min];rfl,st,.refl,(λl h=>by cases h),by rw [yCA];exact w⟩ (λk ys σ X ⟨_,ls,_,_,_,e,e2,_⟩=>by rw [e,yAA,e2];exact yAB _) ?_ ?_
 .rintro k ys σ X aa ⟨v,U,out,pr1,rfl,rfl,ae,a5,af,a3,fX,a4,wX⟩
  walk_at "rd"
  have ap:=grp_in a2 aa
  have e0:((0:Nat):Int)+(k:Int) * (wd:Int)=((k * wd:Nat):Int):=by rw [Int.natCast_mul];omega
  rw [e0]
  generalize hkw:k * wd=s at wX ap af
  refine ⟨_,_,rfl,?_⟩
  rw [ZE4,show min ((s:Int)+wd) (c.n:Nat)=((min (s+wd) c.n:Nat):Int) by omega]
  refine ⟨ZAW (by decide),λpt am=>?_⟩
  obtain ⟨X1,e1,a0,h1⟩:=newH am (.tup [.int (s:Int),.int ((min (s+wd) c.n:Nat):Int)])
  rw [e1];clear e1
  rw [show grpN c.n wd-k=(grpN c.n wd-(k+1))+1 by omega,pcsP] at wX
  refine ⟨c,pr1,ls,s,min (s+wd) c.n,pt,_,rfl,a3.mono a0,h1,by omega,by omega,by omega,wX.bind,λl Y os pr2 fY a6 aj a8 aw a7=>?_⟩
  have ad:X l=none:=a0.free a6
  refine Nxt.of aa ⟨_,U++[l],out++[os],pr2,rfl,by rw [yAK];rfl,by rw [yAC,ae];rfl,((a5.mono a0).frk fY λb hb=>Ad.SA (st.off (a4 b hb))).snoc aj,?_,a8,fX.trans (a0.fr.trans fY),λl' h=>?_,?_⟩
  .rw [ZES,yBQ,hkw,show tot [os]=os.length by unfold tot;simp]
   omega
  .rcases yAY.mp h with h | h
   .exact a4 l' h
   .rw [yAH.mp h];exact a3.free fX ad
  .rw [yBQ,hkw];exact a7
 rintro ys σ X ⟨v,U,out,pr1,rfl,rfl,ae,a5,af,a3,fX,a4,wX⟩ pl ag
 rw [yBG] at wX
 have wX:Wp c.n c.an ((ZBK d out.length out []).bind _) pr1 post:=wX
 obtain ⟨X1,e1,a0,h1⟩:=newH ag (.lst (U.map V.ref))
 rw [e1];clear e1
 have av:=ZFY (n:=c.n) a2
 have az:=a5.len
 refine ZAX ?_
 walk_at "rd"
 refine ⟨c,pr1,pl,U,out,d,_,rfl,a3.mono a0,h1,a5.mono a0,by omega,by omega,ac,a9,by omega,wX.bind,λpr' z=>ah pr' z,λt l nm Y r pr2 fY ax a6 au ai ao aq a8 hrl a7=>?_⟩
 refine ZAz (SqT.of ai) (ZAj (by decide) rfl) ?_
 exact q l Y r.1 pr2 (fX.trans (a0.fr.trans fY)) (a3.free fX (a0.free a6)) ao a8 a7
theorem Ol (F:Fun K "_law_cell_at" "_law_cell_at" ZDS f fd)(T:Bt K mg Ce Cd Cc Ca Cb)
 :FnOk P w K mg base CX0 1 f fd ["_law_script","_law_k"] (spCell K):=by
 refine F.ok V1 (λvs H Q E h=>?_) (λY A outer s H vs Q E hr h=>?_)
 .obtain ⟨a,ns,k,rfl,O,U,q⟩:=h
  rfl
 obtain ⟨a,ns,k,rfl,O,U,q⟩:=h
 refine ⟨_,(ZAB (ZAx (ZAO ZDE (pv 1) (ZAK ZAI rfl T.b_len PySem.boot_len (ZAA (pv 0) ZAC)) (ZAU _))
  (ZAH (ZAQ (ZAg ZAd (pv 0) (pv 1) (λ_ _=>rfl)))) ZAc)
  (ZAH (ZAQ ZAF))),?_⟩
 walk_at "rd"
 refine ⟨a,_,rfl,.inl O,?_⟩
 walk_at "rd"
 rw [yAA]
 unfold cellOf at q
 split
 .rename_i hk
  rw [if_pos hk] at q
  have J:k.toNat < ns.length:=by omega
  refine ZAo O (ZDN U (yAF J)) ?_
  rw [yAF J] at q
  exact q
 .rename_i hk
  rw [if_neg hk] at q
  exact q
theorem Ou (F:Fun K "_law_stream" "_law_stream" ZDx f fd)(T:Bt K mg Ce Cd Cc Ca Cb)
 :FnOk P w K mg base CX0 1 f fd ["_law_cell","_law_many"] (spStream):=by
 refine F.ok Vk (λvs H Q E h=>?_) (λa1 A outer s H vs Q E hr h=>?_)
 .obtain ⟨c,m,rfl,a0,Y,q⟩:=h
  rfl
 obtain ⟨c,m,rfl,a0,Y,q⟩:=h
 refine ⟨_,(ZAB (ZAL (i:=2) Vk.nd rfl (by walk_at "o") (ZA6 ZAC))
  (ZAB (ZAL (i:=3) Vk.nd rfl (by walk_at "o") (ZAN ZAt (pv 0) ZAF))
  (ZAB (ZBk PassesOwn.never rfl (ZBf rfl T.b_range (ZAA (pv 1) ZAC)) (ZAY (i:=4) Vk.nd rfl (by walk_at "o"))
  (ZAB (ZAL (i:=3) Vk.nd rfl (by walk_at "o") (ZAN ZAt (ZAN ZAe (ZAN ZAe (ZAN ZAe (ZAN ZBg (pv 3) (pv 3)) (ZAN ZBg ZAF (pv 3))) (ZAN ZBg ZAF (pv 4))) ZAF) ZAF))
  (ZAH (ZAh (ZB4 PySem.F.plainAttrs_list PySem.F.slot_list_append PySem.F.type_list_append ZA7 (pv 2) (ZAA (pv 3) ZAC))))))
  (ZAH (ZAQ (pv 2)))))),?_⟩
 walk_at "rd"
 refine ⟨yAJ _,λl hl=>⟨by decide,?_⟩⟩
 have c0:=Int.emod_nonneg c (show (2147483629:Int)≠0 by decide)
 have c1:=Int.emod_lt_of_pos c (show (0:Int) < 2147483629 by decide)
 generalize c % 2147483629=U at c0 c1 ⊢
 refine ZDK (by omega) (ZDc (λi σ H'=>∃ (z:Int) (zs:List Int) (O:Option V),σ=[some (.int c),some (.int m),some (.ref l),some (.int z),O] /\ 0 <= z /\ z < 2147483629 /\ H'=upd H l (.lst (zs.map V.int)) /\ zs.length=i /\ ∀ x∈zs,0 <= x /\ x < 2 ^ 31) ⟨U,[],_,rfl,c0,c1,rfl,rfl,λ_ h=>nomatch h⟩ ?_ ?_)
 .rintro i σ H' hi ⟨z,zs,O,rfl,U,z1,rfl,hz,J⟩
  walk_at "rd"
  have y0:=Int.emod_nonneg (z * z+69621 * z+31 * (0+(i:Int))+5) (show (2147483629:Int)≠0 by decide)
  have y1:=Int.emod_lt_of_pos (z * z+69621 * z+31 * (0+(i:Int))+5) (show (0:Int) < 2147483629 by decide)
  refine ⟨.inl ⟨by omega,by omega⟩,.inl ⟨by decide,by decide⟩,.inl ⟨by decide,by decide⟩,by decide,.inl ⟨rfl,_,SqL.of ZAE⟩,l,zs.map V.int,_,rfl,rfl,ZAE,by rw [yAA];exact ZAk (by omega),?_⟩
  generalize (z * z+69621 * z+31 * (0+(i:Int))+5) % 2147483629=y at y0 y1 ⊢
  refine ⟨y,zs++[y],_,rfl,y0,y1,by rw [ZDO,yAK];rfl,by rw [yAC,hz];rfl,λx hx=>?_⟩
  rcases yAY.mp hx with h | h
  .exact J x h
  .rw [yAH.mp h];omega
 .rintro σ H' ⟨z,zs,O,rfl,U,z1,rfl,hz,J⟩
  walk_at "rd"
  exact q l _ zs (ZAM hl _) hl ZAE (by omega) J
theorem Oas (F:Fun K "_law_digits" "_law_digits" ZD3 f fd)(T:Bt K mg Ce Cd Cc Ca Cb)
  (a2:Fn P w K mg base CX0 "_law_stream" 1 ["_law_cell","_law_many"] (spStream))
  (J:Fn P w K mg base CX0 "_law_cell_at" 1 ["_law_script","_law_k"] (spCell K))
 :FnOk P w K mg base CX0 2 f fd ["_law_script","_law_k","_law_base"] (spDigits K):=by
 refine F.ok Ve (λvs H Q E h=>?_) (λaj A outer s H vs Q E hr h=>?_)
 .obtain ⟨a,ns,k,b,rfl,hS,ad,hk,a1,ab,q⟩:=h
  rfl
 obtain ⟨a,ns,k,b,rfl,hS,ad,hk,a1,ab,q⟩:=h
 refine ⟨_,(ZAB (ZAL (i:=3) Ve.nd rfl (by walk_at "o") (ZAl a2 (hr.mono (by decide)) rfl ZAS (ZAA (ZAN ZAe (ZAK ((call_sumB rfl)) rfl T.b_sum PyProof.Rows.boot_sum (ZAA (pv 0) ZAC)) (pv 1)) (ZAA ZAF ZAC))))
  (ZAB (ZAL (i:=4) Ve.nd rfl (by walk_at "o") (ZA6 ZAC))
  (ZAB (ZBk PassesOwn.never rfl (ZAq (ZA6 (ZAA (ZAl J (hr.mono (by decide)) rfl ZAS (ZAA (pv 0) (ZAA (pv 1) ZAC))) (ZAA (ZAl J (hr.mono (by decide)) rfl ZAS (ZAA (pv 0) (ZAA (ZAN ZAe (pv 1) ZAF) ZAC))) ZAC)))) (ZAY (i:=5) Ve.nd rfl (by walk_at "o"))
  (ZAH (ZBk PassesOwn.never rfl (ZBf rfl T.b_range (ZAA ZAF ZAC)) (ZAY (i:=6) Ve.nd rfl (by walk_at "o"))
  (ZAB (ZAx (ZAO ZDE (pv 5) ZAF (ZAU _))
  (ZAH (ZAL (i:=5) Ve.nd rfl (by walk_at "o") (ZAg ZAd (pv 3) (ZAK ZAI rfl T.b_len PySem.boot_len (ZAA (pv 4) ZAC)) (λ_ _=>rfl)))) ZAc)
  (ZAB (ZAh (ZB4 PySem.F.plainAttrs_list PySem.F.slot_list_append PySem.F.type_list_append ZA7 (pv 4) (ZAA (ZAN ZAt (pv 5) (pv 2)) ZAC)))
  (ZAH (ZAL (i:=5) Ve.nd rfl (by walk_at "o") (ZAN ZAn (pv 5) (pv 2)))))))))
  (ZAH (ZAQ (pv 4)))))),?_⟩
 walk_at "rd"
 refine ⟨a,ns,rfl,hS,_,120,rfl,by decide,by decide,λsp H1 zs s1 ah h1 hz ag=>⟨yAJ _,λl hl=>?_⟩⟩
 obtain ⟨H2,e2,s2,h2⟩:=newH hl (.lst [])
 rw [e2];clear e2
 have S2:Same H H2:=s1.trans s2
 refine ⟨a,ns,k,rfl,S2.seq hS,hk,?_⟩
 generalize cellOf ns k=c1
 refine ⟨a,ns,k+1,rfl,S2.seq hS,by omega,?_⟩
 generalize cellOf ns (k+1)=c2
 refine ⟨ZAW (by decide),λtw aa=>?_⟩
 obtain ⟨H3,e3,s3,h3⟩:=newH aa (.lst [.int c1,.int c2])
 rw [e3];clear e3
 have ae:tw≠l:=Ne.symm (ZAD h2 aa)
 have af:sp≠l:=ZAD h1 hl
 have a8:=s3 _ _ (s2 _ _ h1)
 refine ZB8 (SqL.of h3) (λi σ H'=>∃ (v5 v6:Option V) (us:List Int),σ=[some (.ref a),some (.int k),some (.int b),some (.ref sp),some (.ref l),v5,v6] /\ H' l=some (.lst (us.map V.int)) /\ (∀ c,c≠l->H' c=H3 c) /\ us.length=60 * i /\ ∀ z∈us,0 <= z /\ z < b) ⟨_,_,[],rfl,s3 _ _ h2,λ_ _=>rfl,rfl,λ_ h=>nomatch h⟩ (λi σ H' _ ⟨v5,v6,us,_,_,h,_⟩=>SqL.of (by rw [h _ ae];exact h3)) ?_ ?_
 .rintro i x σ H' hx ⟨v5,v6,us,rfl,a5,a7,a4,U⟩
  obtain ⟨c,rfl,hi⟩:∃ c:Int,x=.int c /\ i < 2:=by
   match i,hx with
   | 0,hx=>exact ⟨c1,(Option.some.inj hx).symm,by decide⟩
   | 1,hx=>exact ⟨c2,(Option.some.inj hx).symm,by decide⟩
  walk_at "rd"
  refine ZDK (by decide) (ZDc (λt σ H''=>∃ (c:Int) (v6:Option V) (us:List Int),σ=[some (.ref a),some (.int k),some (.int b),some (.ref sp),some (.ref l),some (.int c),v6] /\ H'' l=some (.lst (us.map V.int)) /\ (∀ c,c≠l->H'' c=H3 c) /\ us.length=60 * i+t /\ ∀ z∈us,0 <= z /\ z < b) ⟨c,_,us,rfl,a5,a7,by omega,U⟩ ?_ ?_)
  .rintro t σ H4 ht ⟨c,v6,us,rfl,Y,a3,O,a0⟩
   have ai:t < 60:=ht
   walk_at "rd"
   have fin:∀ c:Int,∃ (c':Int) (v6:Option V) (a6:List Int),[some (V.ref a),some (V.int k),some (V.int b),some (V.ref sp),some (V.ref l),some (V.int (c / b)),some (V.int (0+(t:Int)))]=[some (V.ref a),some (V.int k),some (V.int b),some (V.ref sp),some (V.ref l),some (V.int c'),v6] /\ (upd H4 l (.lst (us.map V.int++[.int (c % b)]))) l=some (.lst (a6.map V.int)) /\ (∀ d,d≠l->upd H4 l (.lst (us.map V.int++[.int (c % b)])) d=H3 d) /\ a6.length=60 * i+(t+1) /\ ∀ z∈a6,0 <= z /\ z < b:=λc=>by
    refine ⟨c / b,_,us++[c % b],rfl,by rw [ZAE,yAK];rfl,λd hd=>by rw [ZAJ hd];exact a3 d hd,by rw [yAC,O];rfl,λz ac=>?_⟩
    rcases yAY.mp ac with h | h
    .exact a0 z h
    .rw [yAH.mp h]
     exact ⟨Int.emod_nonneg _ (by omega),Int.emod_lt_of_pos _ a1⟩
   by_cases hc:c < 1
   .rw [if_pos hc]
    refine ⟨l,_,rfl,.inl (SqL.of Y),?_⟩
    rw [yAA,O]
    have a9:60 * i+t < zs.length:=by omega
    refine ZAo (SqL.of (by rw [a3 _ af];exact a8)) (ZDN (v:=zs[60 * i+t]) (by omega) (by rw [Int.toNat_natCast];exact yAF a9)) ?_
    walk_at "rd"
    exact ⟨.inl ⟨rfl,_,SqL.of Y⟩,a1,l,_,_,rfl,rfl,Y,by rw [yAA];exact ZAk (by omega),⟨a1,by omega⟩,fin _⟩
   .rw [if_neg hc]
    exact ⟨.inl ⟨rfl,_,SqL.of Y⟩,a1,l,_,_,rfl,rfl,Y,by rw [yAA];exact ZAk (by omega),⟨a1,by omega⟩,fin _⟩
  .rintro σ H4 ⟨c,v6,us,rfl,Y,a3,O,a0⟩
   exact ⟨_,_,us,rfl,Y,a3,by rw [O];show 60 * i+60=_;omega,a0⟩
 .rintro σ H' ⟨v5,v6,us,rfl,a5,a7,a4,U⟩
  walk_at "rd"
  have S3:Same H H':=λc o h=>by
   rw [a7 c (ZAD (s1 _ _ h) hl)]
   exact s3 _ _ (S2 _ _ h)
  exact q l _ us S3 (s1.free hl) a5 (by rw [a4];rfl) U
theorem On (F:Fun K "_law_blocks" "_law_blocks" ZD4 f fd)(T:Bt K mg Ce Cd Cc Ca Cb)
  (U:Fn P w K mg base CX0 "_law_stream" 1 ["_law_cell","_law_many"] (spStream))
 :FnOk P w K mg base CX0 2 f fd ["_law_keys_here","_law_cell"] (spBlocks):=by
 refine F.ok Vl (λvs H Q E h=>?_) (λaa A outer s H vs Q E hr h=>?_)
 .obtain ⟨a,ks,c,rfl,ha,hk,q⟩:=h
  rfl
 obtain ⟨a,ks,c,rfl,ha,hk,q⟩:=h
 refine ⟨_,(ZAB (ZAL (i:=2) Vl.nd rfl (by walk_at "o") (ZA6 ZAC))
  (ZAB (ZBk PassesOwn.never rfl (ZAq (ZAl U (hr.mono (by decide)) rfl ZAS (ZAA (pv 1) (ZAA (ZAK ZAI rfl T.b_len PySem.boot_len (ZAA (pv 0) ZAC)) ZAC)))) (ZAY (i:=3) Vl.nd rfl (by walk_at "o"))
  (ZAB (ZAL (i:=4) Vl.nd rfl (by walk_at "o") (ZAK ZCB rfl T.b_sorted PyProof.Rows.boot_sorted (ZAA (ZCv ZDP (pv 0) (ZB3 (ZAK ZAI rfl T.b_len PySem.boot_len (ZAA (pv 2) ZAC))) (ZB3 (ZAN ZAe (ZAN ZAe (ZAK ZAI rfl T.b_len PySem.boot_len (ZAA (pv 2) ZAC)) ZAF) (ZAN ZAt (pv 3) ZAF)))) ZAC)))
  (ZAB (ZAx (ZAO ZBv (ZAN ZAt (ZAN ZAn (pv 3) ZAF) ZAF) ZAF (ZAU _))
  (ZAH (ZAh (ZEJ PySem.F.plainAttrs_list PySem.F.slot_list_reverse PySem.F.type_list_reverse mt_reverse (pv 4)))) ZAc)
  (ZAH (ZAL (i:=2) Vl.nd rfl (by walk_at "o") (ZAN ZEM (pv 2) (pv 4)))))))
  (ZAH (ZAQ (pv 2))))),?_⟩
 walk_at "rd"
 refine ⟨yAJ _,λp hp=>⟨a,_,rfl,.inl (SqL.of (ZAM hp _ _ _ ha)),?_⟩⟩
 rw [yAA]
 refine ⟨c,ks.length,rfl,by omega,by omega,λl H1 zs s1 hl h1 hz a4=>?_⟩
 refine ZB8 (SqL.of h1) (λi σ H'=>∃ (v3 v4:Option V) (r:Addr) (J:List Int),σ=[some (.ref a),some (.int c),some (.ref r),v3,v4] /\ H' l=some (.lst (zs.map V.int)) /\ H' r=some (.lst (J.map V.int)) /\ J.length <= ks.length /\ Same H H' /\ H r=none) ⟨_,_,p,[],rfl,h1,s1 _ _ ZAE,yAJ _,(ZAM hp _).trans s1,hp⟩ (λi σ H' _ ⟨v3,v4,r,J,_,h,_⟩=>SqL.of h) ?_ ?_
 .rintro i x σ H' hx ⟨v3,v4,r,J,rfl,a0,O,a5,hs,hn⟩
  obtain ⟨n,a7,rfl⟩:=ZCO hx
  walk_at "rd"
  obtain ⟨z0,z1⟩:=a4 n (yAS a7)
  refine ⟨r,_,rfl,.inl (SqL.of O),r,_,rfl,.inl (SqL.of O),by decide,ZEH (SqL.of (hs _ _ ha)) λp1 a8=>?_⟩
  rw [ZDe,yAA]
  have a6:((ks.drop (HT.sIx ks.length 0 (some (J.length:Int)))).take (HT.sIx ks.length ks.length (some ((J.length:Int)+1+n % 9))-HT.sIx ks.length 0 (some (J.length:Int)))).length+J.length <= ks.length:=by
   rw [yAP,yAX,HT.sIx_nat]
   omega
  generalize (ks.drop (HT.sIx ks.length 0 (some (J.length:Int)))).take (HT.sIx ks.length ks.length (some ((J.length:Int)+1+n % 9))-HT.sIx ks.length 0 (some (J.length:Int)))=ws at a6 ⊢
  obtain ⟨H2,e2,s2,h2⟩:=newH a8 (.lst (ws.map V.int))
  rw [e2];clear e2
  refine ⟨p1,ws,rfl,SqL.of h2,by omega,λl2 ms a2 a1 _=>⟨⟨by decide,by decide⟩,by decide,?_⟩⟩
  have a9:=a1.length_eq
  have nr:r≠l2:=ZAD (s2 _ _ O) a2
  have nl:l≠l2:=ZAD (s2 _ _ a0) a2
  have fin:∀ us:List Int,us.length=ms.length->∀ p4,upd H2 l2 (.lst (us.map V.int)) p4=none->∃ (v3 v4:Option V) (r':Addr) (Y:List Int),[some (V.ref a),some (.int c),some (.ref p4),some (.int n),some (.ref l2)]=[some (V.ref a),some (.int c),some (.ref r'),v3,v4] /\ (upd (upd H2 l2 (.lst (us.map V.int))) p4 (.lst (J.map V.int++us.map V.int))) l=some (.lst (zs.map V.int)) /\ (upd (upd H2 l2 (.lst (us.map V.int))) p4 (.lst (J.map V.int++us.map V.int))) r'=some (.lst (Y.map V.int)) /\ Y.length <= ks.length /\ Same H (upd (upd H2 l2 (.lst (us.map V.int))) p4 (.lst (J.map V.int++us.map V.int))) /\ H r'=none:=λus hu p4 a3=>by
   have S2:Same H (upd H2 l2 (.lst (us.map V.int))):=(hs.trans s2).new a2
   have el:upd H2 l2 (.lst (us.map V.int)) l=some (.lst (zs.map V.int)):=by rw [ZAJ nl];exact s2 _ _ a0
   exact ⟨_,_,p4,J++us,rfl,by rw [ZAJ (ZAD el a3)];exact el,by rw [ZAE,yAK],by rw [yAC];omega,S2.new a3,S2.free a3⟩
  split
  .refine ⟨.inl ⟨rfl,_,SqL.of ZAE⟩,l2,_,rfl,rfl,ZAE,?_⟩
   rw [ZDO,<- List.map_reverse]
   exact ⟨r,l2,_,_,rfl,rfl,by rw [ZAJ nr];exact s2 _ _ O,ZAE,ZAW (by rw [yAA,yAA,yCP];omega),fin _ (yCP ..)⟩
  .exact ⟨r,l2,_,_,rfl,rfl,by rw [ZAJ nr];exact s2 _ _ O,ZAE,ZAW (by rw [yAA,yAA];omega),fin _ rfl⟩
 .rintro σ H' ⟨v3,v4,r,J,rfl,a0,O,a5,hs,hn⟩
  walk_at "rd"
  exact q r _ J hs hn O (by omega)
theorem Oaj (F:Fun K "_law_nearly" "_law_nearly" ZDz f fd)(T:Bt K mg Ce Cd Cc Ca Cb)
  (Y:Fn P w K mg base CX0 "_law_stream" 1 ["_law_cell","_law_many"] (spStream))
 :FnOk P w K mg base CX0 2 f fd ["_law_keys_here","_law_cell"] (spBlocks):=by
 refine F.ok Vn (λvs H Q E h=>?_) (λad A outer s H vs Q E hr h=>?_)
 .obtain ⟨a,ks,c,rfl,ha,hk,q⟩:=h
  rfl
 obtain ⟨a,ks,c,rfl,ha,hk,q⟩:=h
 refine ⟨_,(ZAB (ZAL (i:=2) Vn.nd rfl (by walk_at "o") (ZAK ZCB rfl T.b_sorted PyProof.Rows.boot_sorted (ZAA (pv 0) ZAC)))
  (ZAB (ZBk PassesOwn.never rfl (ZAq (ZAl Y (hr.mono (by decide)) rfl ZAS (ZAA (pv 1) (ZAA (ZAN ZAt (pv 1) ZAF) ZAC)))) (ZAY (i:=3) Vn.nd rfl (by walk_at "o"))
  (ZAH (ZAx (ZAO (op_neD hr.units) (pv 2) (ZA6 ZAC) (ZAU _))
  (ZAB (ZAL (i:=4) Vn.nd rfl (by walk_at "o") (ZAN ZAt (pv 3) (ZAK ZAI rfl T.b_len PySem.boot_len (ZAA (pv 2) ZAC))))
  (ZAB (ZAL (i:=5) Vn.nd rfl (by walk_at "o") (ZB4 PySem.F.plainAttrs_list PySem.F.slot_list_pop PySem.F.type_list_pop ZDG (pv 2) (ZAA (pv 4) ZAC)))
  (ZAH (ZAh (ZB4 PySem.F.plainAttrs_list PySem.F.slot_list_insert PySem.F.type_list_insert mt_insert (pv 2) (ZAA (ZAK (ZDg rfl) rfl T.b_max PyProof.Rows.boot_max (ZAA ZAF (ZAA (ZAN ZAv (ZAN ZAv (pv 4) ZAF) (ZAN ZAt (ZAN ZAn (pv 3) ZAF) ZAF)) ZAC))) (ZAA (pv 5) ZAC))))))) ZAc)))
  (ZAH (ZAQ (pv 2))))),?_⟩
 walk_at "rd"
 refine ⟨a,ks,rfl,SqL.of ha,by omega,λr ms a5 a4 _=>⟨by decide,?_⟩⟩
 have ab:=a4.length_eq
 refine ⟨c,c % 6,rfl,Int.emod_nonneg _ (by decide),by have:=Int.emod_lt_of_pos c (show (0:Int) < 6 by decide);omega,λl H1 zs s1 hl h1 hz a6=>?_⟩
 refine ZB8 (SqL.of h1) (λi σ H'=>∃ (v3 v4 v5:Option V) (J:List Int),σ=[some (.ref a),some (.int c),some (.ref r),v3,v4,v5] /\ H' l=some (.lst (zs.map V.int)) /\ H' r=some (.lst (J.map V.int)) /\ J.length=ms.length /\ Same H H') ⟨_,_,_,ms,rfl,h1,s1 _ _ ZAE,rfl,(ZAM a5 _).trans s1⟩ (λi σ H' _ ⟨v3,v4,v5,J,_,h,_⟩=>SqL.of h) ?_ ?_
 .rintro i x σ H' hx ⟨v3,v4,v5,J,rfl,a3,O,a2,hs⟩
  obtain ⟨n,a8,rfl⟩:=ZCO hx
  walk_at "rd"
  obtain ⟨z0,z1⟩:=a6 n (yAS a8)
  refine ⟨yAJ _,λp1 a9=>?_⟩
  obtain ⟨H2,e2,s2,h2⟩:=newH a9 (.lst [])
  rw [e2];clear e2
  refine neD_of Enc.int.list (by decide) (a:=J) (b:=[]) (ZED (SqL.of (s2 _ _ O))) (ZED (xs:=[]) (SqL.of h2)) (ZBV ?_)
  by_cases hrn:J=[]
  .rw [if_neg (by simp [hrn])]
   exact ⟨_,_,_,J,rfl,s2 _ _ a3,s2 _ _ O,a2,hs.trans s2⟩
  rw [if_pos (by simp [hrn])]
  have aa:0 < J.length:=List.length_pos_iff.mpr hrn
  refine ⟨r,_,rfl,.inl (SqL.of (s2 _ _ O)),?_⟩
  rw [yAA]
  have a0:=Int.emod_nonneg n (show (J.length:Int)≠0 by omega)
  have a1:=Int.emod_lt_of_pos n (show (0:Int) < J.length by omega)
  obtain ⟨k,ek⟩:∃ k:Nat,n % (J.length:Int)=k:=⟨(n % (J.length:Int)).toNat,by omega⟩
  rw [ek] at a0 a1 ⊢
  have a7:k < J.length:=by omega
  refine ⟨by omega,.inl ⟨rfl,_,SqL.of (s2 _ _ O)⟩,r,_,k,k,.int J[k],rfl,rfl,s2 _ _ O,by omega,by omega,?_,by rw [yAM,yAF a7];rfl,.inl ⟨rfl,_,SqL.of ZAE⟩,⟨by decide,by decide⟩,by decide,0,_,rfl,?_⟩
  .rw [yAA]
   exact PySem.StrLaws.seqIndex_nonneg (by omega) (by omega)
  rw [ZF0]
  have m0:=Int.emod_nonneg (n / 997) (show (4:Int)≠0 by decide)
  have m1:=Int.emod_lt_of_pos (n / 997) (show (0:Int) < 4 by decide)
  generalize (n / 997) % 4=w4 at m0 m1 ⊢
  refine ⟨r,_,_,_,rfl,rfl,ZAE,by rw [List.length_eraseIdx,yAA];exact ZAk (by split <;> omega),by omega,?_⟩
  rw [ZDO]
  obtain ⟨U,er,ac⟩:∃ U:List Int,insV ((J.map V.int).eraseIdx k) (max 0 ((k:Int)-1-w4)) (.int J[k])=U.map V.int /\ U.length=J.length:=by
   have e1:(J.map V.int).eraseIdx k=(J.eraseIdx k).map V.int:=by rw [List.eraseIdx_eq_take_drop_succ,List.eraseIdx_eq_take_drop_succ,yAK,yCQ,yCR]
   rw [e1]
   unfold insV
   dsimp only
   generalize (if (max 0 ((k:Int)-1-w4)) < 0 then ((max 0 ((k:Int)-1-w4))+(((J.eraseIdx k).map V.int).length:Int)).toNat else min (max 0 ((k:Int)-1-w4)).toNat ((J.eraseIdx k).map V.int).length)=kk
   refine ⟨(J.eraseIdx k).take kk++J[k]::(J.eraseIdx k).drop kk,by rw [yAK,yAZ,yCQ,yCR],?_⟩
   rw [yAC,yAG,yAP,yAX,List.length_eraseIdx,if_pos a7]
   omega
  rw [er]
  have nl:l≠r:=λz=>by
   rw [z] at hl
   rw [ZAE] at hl
   cases hl
  exact ⟨_,_,_,U,rfl,by rw [ZAJ nl];exact s2 _ _ a3,ZAE,by omega,(hs.trans s2).upd a5⟩
 .rintro σ H' ⟨v3,v4,v5,J,rfl,a3,O,a2,hs⟩
  walk_at "rd"
  exact q r _ J hs a5 O (by omega)
theorem Od (F:Fun K "_law_keys" "_law_keys" ZFI f fd)(T:Bt K mg Ce Cd Cc Ca Cb)
  (J:Fn P w K mg base CX0 "_law_cell_at" 1 ["_law_script","_law_k"] (spCell K))
  (U:Fn P w K mg base CX0 "_law_blocks" 2 ["_law_keys_here","_law_cell"] (spBlocks))
  (a0:Fn P w K mg base CX0 "_law_nearly" 2 ["_law_keys_here","_law_cell"] (spBlocks))
  (Y:Fn P w K mg base CX0 "_law_digits" 2 ["_law_script","_law_k","_law_base"] (spDigits K))
  (O:Fn P w K mg base CX0 "_law_stream" 1 ["_law_cell","_law_many"] (spStream))
 :FnOk P w K mg base CX0 3 f fd ["_law_script","_law_most_here"] (spKeys K):=by
 refine F.ok Vi (λvs H Q E h=>?_) (λag A outer s H vs Q E hr h=>?_)
 .obtain ⟨a,ns,rfl,hS,a5,q⟩:=h
  rfl
 obtain ⟨a,ns,rfl,hS,a5,q⟩:=h
 refine ⟨_,(ZAB (ZAL (i:=2) Vi.nd rfl (by walk_at "o") (ZAl J (hr.mono (by decide)) rfl ZAS (ZAA (pv 0) (ZAA ZAF ZAC))))
  (ZAB (ZAL (i:=3) Vi.nd rfl (by walk_at "o") (ZAl J (hr.mono (by decide)) rfl ZAS (ZAA (pv 0) (ZAA ZAF ZAC))))
  (ZAB (ZAx (ZAO ZBv (ZAN ZAt (ZAN ZAn (pv 2) ZAF) ZAF) ZAF (ZAU _))
  (ZAH (ZAQ (ZCv ZDP (ZAl Y (hr.mono (by decide)) rfl ZAS (ZAA (pv 0) (ZAA ZAF (ZAA ZAF ZAC)))) po_none (ZB3 (ZAN ZAt (ZAN ZAn (pv 2) ZAF) (ZAN ZBg ZAF (pv 1))))))) ZAc)
  (ZAB (ZAL (i:=4) Vi.nd rfl (by walk_at "o") (ZAg ZAd (ZA6 (ZAA ZAF (ZAA ZAF (ZAA ZAF (ZAA (ZAN op_pow ZAF ZAF) ZAC))))) (ZAN ZAt (pv 2) ZAF) (λ_ _=>rfl)))
  (ZAB (ZBb (i:=5) Vi.nd rfl (Or.inl rfl) rfl (k:=1) (js:=[4]) (N':=["_law_cell","_law_width"]) (by rfl) (ZAq (ZCv ZDP (pv 0) (ZB3 ZAF) (ZB3 (ZAN ZAe ZAF (pv 1))))) (λ_ _ _ _=>ZAY (i:=0) (show (["_law_cell","_law_width"]:List Str).Nodup by decide +kernel) rfl (by walk_at "o")) (λ_ _ _ _=>ZAp) (λ_ _ _ _=>(ZAN ZAv (ZAN ZAt (pv 0) (pv 1)) (ZAN ZAn (pv 1) ZAF))))
  (ZAB (ZAL (i:=6) Vi.nd rfl (by walk_at "o") (ZAN ZAt (ZAN ZAn (pv 2) ZAF) ZAF))
  (ZAB (ZAx (PW.pt (ZD5 (ZAO ZBv (pv 6) ZAF (ZAU _)) (ZDA (ZAO ZBv (pv 6) ZAF (ZAU _)))))
  (ZAH (ZAQ (ZAl U (hr.mono (by decide)) rfl ZAS (ZAA (pv 5) (ZAA (pv 3) ZAC))))) ZAc)
  (ZAB (ZAx (ZAO ZBv (pv 6) ZAF (ZAU _))
  (ZAH (ZAQ (ZAK ZCB rfl T.b_sorted PyProof.Rows.boot_sorted (ZAA (pv 5) ZAC)))) ZAc)
  (ZAB (ZAx (ZAO ZBv (pv 6) ZAF (ZAU _))
  (ZAH (ZAQ (pe_list_rev rfl rfl T.b_list rfl T.b_reversed (ZAA (ZAK ZCB rfl T.b_sorted PyProof.Rows.boot_sorted (ZAA (pv 5) ZAC)) ZAC)))) ZAc)
  (ZAB (ZAx (ZAO ZBv (pv 6) ZAF (ZAU _))
  (ZAH (ZAQ (ZBM rfl (k:=1) (js:=[4]) (N':=["_law_number","_law_width"]) (by rfl) (ZAq (ZAl O (hr.mono (by decide)) rfl ZAS (ZAA (pv 3) (ZAA (ZAN ZAt (pv 3) (ZAN ZBg ZAF (pv 1))) ZAC)))) (λ_ _ _ _=>ZAY (i:=0) (show (["_law_number","_law_width"]:List Str).Nodup by decide +kernel) rfl (by walk_at "o")) (λ_ _ _ _=>ZAp) (λ_ _ _ _=>(ZAN ZAv (ZAN ZAt (pv 0) (pv 1)) (ZAN ZAn (pv 1) ZAF)))))) ZAc)
  (ZAB (ZAx (ZAO ZBv (pv 6) ZAF (ZAU _))
  (ZAH (ZAQ (ZAl a0 (hr.mono (by decide)) rfl ZAS (ZAA (pv 5) (ZAA (pv 3) ZAC))))) ZAc)
  (ZAH (ZAQ (pv 5)))))))))))))),?_⟩
 walk_at "rd"
 refine ⟨a,ns,0,rfl,hS,by decide,?_⟩
 generalize cellOf ns 0=md
 refine ⟨a,ns,1,rfl,hS,by decide,?_⟩
 generalize cellOf ns 1=mx
 walk_at "rd"
 refine ⟨⟨by decide,by decide⟩,by decide,?_⟩
 split
 .refine ⟨a,ns,4,120,rfl,hS,a5,by decide,by decide,by decide,λl H1 zs s1 hl h1 hz _=>?_⟩
  walk_at "rd"
  have m0:=Int.emod_nonneg (md / 64) (show (2 * 60:Int)≠0 by decide)
  have m1:=Int.emod_lt_of_pos (md / 64) (show (0:Int) < 2 * 60 by decide)
  refine ⟨⟨by decide,by decide⟩,.inl ⟨by decide,by decide⟩,by decide,ZEH (SqL.of h1) λp1 a7=>?_⟩
  rw [ZDe]
  refine q p1 _ _ (s1.new a7) (s1.free a7) ZAE ?_
  rw [yAP,HT.sIx_none]
  obtain ⟨mm,em⟩:∃ mm:Nat,md / 64 % (2 * 60)=mm:=⟨(md / 64 % (2 * 60)).toNat,by omega⟩
  rw [em,HT.sIx_nat]
  omega
 refine ⟨⟨by decide,by decide,by decide⟩,ZAW (by decide),λwl ab=>⟨by decide,?_⟩⟩
 obtain ⟨H1,e1,s1,h1⟩:=newH ab (.lst [.int 2,.int 5,.int 100,.int (10 ^ Int.toNat 60)])
 rw [e1];clear e1
 have hm:∃ m:Int,0 < m /\ atI [V.int 2,.int 5,.int 100,.int (10 ^ Int.toNat 60)] (md % 4)=some (.int m):=by
  have:md % 4=0∨md % 4=1∨md % 4=2∨md % 4=3:=by omega
  rcases this with e | e | e | e <;> rw [e]
  .exact ⟨2,by decide,ZAj (by decide) rfl⟩
  .exact ⟨5,by decide,ZAj (by decide) rfl⟩
  .exact ⟨100,by decide,ZAj (by decide) rfl⟩
  .exact ⟨10 ^ Int.toNat 60,by decide,ZAj (by decide) rfl⟩
 obtain ⟨m,a6,aa⟩:=hm
 refine ZAo (SqL.of h1) aa ?_
 refine ZEH (s1.seq hS) λsl a9=>?_
 rw [ZDe]
 have a8:((ns.drop (HT.sIx ns.length 0 (some 4))).take (HT.sIx ns.length ns.length (some (4+60))-HT.sIx ns.length 0 (some 4))).length <= 63:=by
  rw [yAP,yAX]
  omega
 generalize (ns.drop (HT.sIx ns.length 0 (some 4))).take (HT.sIx ns.length ns.length (some (4+60))-HT.sIx ns.length 0 (some 4))=ms at a8 ⊢
 obtain ⟨H2,e2,s2,h2⟩:=newH a9 (.lst (ms.map V.int))
 rw [e2];clear e2
 refine compI_gen (rest:=[some (.int m)]) (SqL.of h2) (by omega) rfl (λ_ _=>True) (λc H' hc e Q' k=>?_) λks H3 kl ae _ s3 a3=>?_
 .walk_at "rd"
  exact ⟨a6,⟨by decide,by decide⟩,k _ _ (Same.refl _) trivial⟩
 obtain ⟨H4,e4,s4,h4⟩:=newH a3 (.lst (ks.map V.int))
 rw [e4];clear e4
 have S3:Same H H3:=λb o h=>s3 _ _ (s2 _ _ (s1 _ _ h))
 have S4:Same H H4:=S3.trans s4
 walk_at "rd"
 refine ⟨⟨by decide,by decide⟩,by decide,?_⟩
 generalize md / 4 % 8=wy
 have a1:spBlocks [.ref kl,.int mx] H4 Q E0:=⟨kl,ks,mx,rfl,h4,by omega,λl H' zs s hl h hz=>q l H' zs (S4.trans s) (S4.free hl) h (by omega)⟩
 split
 .exact a1
 split
 .exact a1
 split
 .exact ⟨kl,ks,rfl,SqL.of h4,by omega,λl us hl hp _=>q l _ us (S4.new hl) (S4.free hl) ZAE (by have:=hp.length_eq;omega)⟩
 split
 .refine ⟨kl,ks,rfl,SqL.of h4,by omega,λl us hl hp _=>⟨l,_,rfl,SqL.of ZAE,λr a2=>?_⟩⟩
  rw [<- List.map_reverse]
  exact q r _ us.reverse ((S4.new hl).new a2) ((S4.new hl).free a2) ZAE (by have:=hp.length_eq;rw [yCP];omega)
 split
 .have af:=Int.emod_lt_of_pos mx (show (0:Int) < 2 * 60 by decide)
  refine ⟨.inl ⟨by decide,by decide⟩,by decide,mx,mx % (2 * 60),rfl,Int.emod_nonneg _ (by decide),by omega,λl H5 zs s5 hl h5 hz ac=>?_⟩
  refine compI_gen (rest:=[some (.int m)]) (SqL.of h5) (by omega) rfl (λ_ _=>True) (λc H' hc e Q' k=>?_) λus H6 l6 ad _ s6 a4=>?_
  .walk_at "rd"
   exact ⟨a6,⟨by decide,by decide⟩,k _ _ (Same.refl _) trivial⟩
  have S6:Same H H6:=λb o h=>s6 _ _ (s5 _ _ (S4 _ _ h))
  exact q l6 _ us (S6.new a4) (S6.free a4) ZAE (by omega)
 split
 .exact a1
 exact q kl H4 ks S4 (S3.free a3) h4 (by omega)
theorem Oag (F:Fun K "_law_whole" "_law_whole" ZEU f fd)(T:Bt K mg Ce Cd Cc Ca Cb)
 :FnOk P w K mg base CX0 1 f fd ["_law_found"] (spWhole):=by
 refine F.ok V0 (λvs H Q E h=>?_) (λJ A outer s H vs Q E O h=>?_)
 .obtain ⟨i,rfl,q⟩:=h
  rfl
 obtain ⟨i,rfl,q⟩:=h
 refine ⟨_,(ZAH (ZAQ (ZEr (ZAK ZCn rfl T.b_isinstance PyProof.Rows.boot_isinstance (ZAA (pv 0) (ZAA (ZFT rfl T.b_int PyProof.Rows.boot_int) ZAC))) (ZFQ (ZFR (ZAK ZCn rfl T.b_isinstance PyProof.Rows.boot_isinstance (ZAA (pv 0) (ZAA (ZFT rfl T.b_bool PyProof.Rows.boot_bool) ZAC)))))))),?_⟩
 walk_at "rd"
 refine inst_int ?_
 walk_at "rd"
 refine inst_int_bl T.kit_int_bool ?_
 walk_at "rd"
 exact q
theorem Oar (F:Fun K "_law_dealt" "_law_dealt" ZEW f fd)(T:Bt K mg Ce Cd Cc Ca Cb)
  (O:Fn P w K mg base CX0 "_law_cell_at" 1 ["_law_script","_law_k"] (spCell K))
  (ab:Fn P w K mg base CX0 "_law_digits" 2 ["_law_script","_law_k","_law_base"] (spDigits K))
  (a9:Fn P w K mg base CX0 "_law_stream" 1 ["_law_cell","_law_many"] (spStream))
 :FnOk P w K mg base CX0 3 f fd ["_law_keys_here","_law_script"] (spDealt62 K):=by
 refine F.ok Vb (λvs H Q E h=>?_) (λcr A outer s H vs Q E hr h=>?_)
 .obtain ⟨ky,a,ks,ns,rfl,ao,c3,hS,bu,q⟩:=h
  rfl
 obtain ⟨ky,a,ks,ns,rfl,ao,c3,hS,bu,q⟩:=h
 refine ⟨_,(ZAB (ZAL (i:=2) Vb.nd rfl (by walk_at "o") (ZAl O (hr.mono (by decide)) rfl ZAS (ZAA (pv 1) (ZAA ZAF ZAC))))
  (ZAB (ZAL (i:=3) Vb.nd rfl (by walk_at "o") (ZAl O (hr.mono (by decide)) rfl ZAS (ZAA (pv 1) (ZAA ZAF ZAC))))
  (ZAB (ZAL (i:=4) Vb.nd rfl (by walk_at "o") (ZCi ZBv (ZAN ZAt (ZAN ZAn (ZAl O (hr.mono (by decide)) rfl ZAS (ZAA (pv 1) (ZAA ZAF ZAC))) ZAF) ZAF) ZAF (ZAU _)))
  (ZAB (ZAL (i:=5) Vb.nd rfl (by walk_at "o") (ZAN ZAt (pv 2) ZAF))
  (ZAB (ZAx (ZAO ZBv (ZAN ZAt (ZAN ZAn (pv 2) ZAF) ZAF) ZAF (ZAU _))
  (ZAH (ZAL (i:=5) Vb.nd rfl (by walk_at "o") (ZAN ZAt (ZAN ZAn (pv 2) ZAF) ZAF))) ZAc)
  (ZAR
  (ZAB (ZBb (i:=6) Vb.nd rfl (Or.inl rfl) rfl (k:=1) (js:=[]) (N':=["_law_number"]) (by rfl) (ZBf rfl T.b_range (ZAA (pv 5) ZAC)) (λ_ _ _ _=>ZAY (i:=0) (show (["_law_number"]:List Str).Nodup by decide +kernel) rfl (by walk_at "o")) (λ_ _ _ _=>ZAp) (λ_ _ _ _=>(ZA6 ZAC)))
  (ZAR
  (ZAB (ZBb (i:=7) Vb.nd rfl (Or.inl rfl) rfl (k:=1) (js:=[]) (N':=["_law_number"]) (by rfl) (ZAq (ZAl a9 (hr.mono (by decide)) rfl ZAS (ZAA (ZAN ZAn (pv 3) ZAF) (ZAA (ZAK ZAI rfl T.b_len PySem.boot_len (ZAA (pv 0) ZAC)) ZAC)))) (λ_ _ _ _=>ZAY (i:=0) (show (["_law_number"]:List Str).Nodup by decide +kernel) rfl (by walk_at "o")) (λ_ _ _ _=>ZAp) (λ_ _ _ _=>(ZAN ZAn (pv 0) ZAF)))
  (ZAB (ZAx (ZBP (pv 4))
  (ZAH (ZAL (i:=7) Vb.nd rfl (by walk_at "o") (ZAl ab (hr.mono (by decide)) rfl ZAS (ZAA (pv 1) (ZAA ZAF (ZAA ZAF ZAC)))))) ZAc)
  (ZAR
  (ZAB (ZBk PassesOwn.never rfl (ZAq (ZBM rfl (k:=1) (js:=[]) (N':=["_law_pair"]) (by rfl) (ZAq (ZAK call_sortedT rfl T.b_sorted PyProof.Rows.boot_sorted (ZAA (ZBM rfl (k:=1) (js:=[0]) (N':=["_law_p","_law_keys_here"]) (by rfl) (ZBf rfl T.b_range (ZAA (ZAK ZAI rfl T.b_len PySem.boot_len (ZAA (pv 0) ZAC)) ZAC)) (λ_ _ _ _=>ZAY (i:=0) (show (["_law_p","_law_keys_here"]:List Str).Nodup by decide +kernel) rfl (by walk_at "o")) (λ_ _ _ _=>ZAp) (λ_ _ _ _=>(ZBB (ZAA (ZAg (ix_listK K) (pv 1) (pv 0) (λ_ _=>rfl)) (ZAA (pv 0) ZAC))))) ZAC))) (λ_ _ _ _=>ZAY (i:=0) (show (["_law_pair"]:List Str).Nodup by decide +kernel) rfl (by walk_at "o")) (λ_ _ _ _=>ZAp) (λ_ _ _ _=>(ZAg (ZEf K) (pv 0) ZAF (λ_ _=>rfl))))) (ZAY (i:=8) Vb.nd rfl (by walk_at "o"))
  (ZAB (ZAL (i:=9) Vb.nd rfl (by walk_at "o") (ZAN ZAt (ZAg ZAd (pv 7) (pv 8) (λ_ _=>rfl)) (ZAN ZAe (pv 5) ZAF)))
  (ZAB (ZAx (PW.pt (ZDV (ZAO ZDk (pv 5) ZAF (ZAU _)) (ZDV (ZAO ZBv (ZAN ZAt (pv 3) ZAF) ZAF (ZAU _)) (ZC7 (ZDp (ZBP (pv 4)))))))
  (ZAH (ZAL (i:=9) Vb.nd rfl (by walk_at "o") (ZAN ZAn (ZAN ZBg (pv 8) (pv 5)) (ZAK ZAI rfl T.b_len PySem.boot_len (ZAA (pv 0) ZAC))))) ZAc)
   (ZAR
  (ZAH (ZAx (ZAO ZDE (pv 9) (pv 5) (ZAU _))
  (ZAH (ZAh (ZB4 PySem.F.plainAttrs_list PySem.F.slot_list_append PySem.F.type_list_append ZA7 (ZAg ZAd (pv 6) (pv 9) (λ_ _=>rfl)) (ZAA (pv 8) ZAC)))) ZAc))))))
  (ZAR
  (ZAH (ZAQ (pv 6)))))))))))))))),?_⟩
 walk_at "rd"
 refine ⟨a,ns,2,rfl,hS,by decide,?_⟩
 walk_at "rd"
 refine ⟨a,ns,3,rfl,hS,by decide,?_⟩
 walk_at "rd"
 refine ⟨a,ns,0,rfl,hS,by decide,?_⟩
 walk_at "rd"
 generalize cellOf ns 2=c
 generalize cellOf ns 3=m
 generalize decide (cellOf ns 0 / 32 % 2=1)=dg
 refine ⟨⟨by decide,by decide⟩,by decide,by decide,⟨by decide,by decide⟩,by decide,?_⟩
 apply onceS (λn:Nat=>[some (.ref ky),some (.ref a),some (.int c),some (.int m),some (.bl dg),some (.int (n:Int)),none,none,none,none]) (λn=>n <= 40)
 .intro J
  by_cases h:c / 9 % 4=1
  .rw [if_pos h]
   refine ⟨⟨by decide,by decide⟩,by decide,?_⟩
   obtain ⟨k,hk⟩:∃ k:Nat,c / 36 % 41=k:=⟨(c / 36 % 41).toNat,by omega⟩
   rw [hk]
   exact J k (by omega)
  .rw [if_neg h]
   obtain ⟨k,hk⟩:∃ k:Nat,c % 9=k:=⟨(c % 9).toNat,by omega⟩
   rw [hk]
   exact J k (by omega)
 rintro n hn
 refine ZAX ?_
 walk_at "rd"
 refine ZDf (by omega) (λi ys σ H'=>∃ v hls,σ=[v] /\ Same H H' /\ ys=hls.map V.ref /\ hls.length=i /\ hls.Nodup /\ ∀ b∈hls,H' b=some (.lst []) /\ H b=none) ⟨_,[],rfl,.refl _,rfl,rfl,List.nodup_nil,λb h=>by cases h⟩ (λi ys σ H' ⟨_,hls,_,_,e,e2,_⟩=>by rw [e,yAA];omega) ?_ ?_
 .rintro i ys σ H' hi ⟨v,hls,rfl,sA,rfl,av,b9,a3⟩
  walk_at "rd"
  refine ⟨yAJ _,λb hb=>?_⟩
  refine Nxt.of hi ⟨_,hls++[b],rfl,sA.new hb,by rw [yAK];rfl,by rw [yAC,av];rfl,?_,λb' h=>?_⟩
  .refine List.nodup_append.mpr ⟨b9,yDC.mpr ⟨yBE,List.nodup_nil⟩,λx hx y hy=>?_⟩
   rw [yAH.mp hy]
   exact ZAD (a3 x hx).1 hb
  .rcases yAY.mp h with h | h
   .exact ⟨ZAM hb _ _ _ (a3 b' h).1,(a3 b' h).2⟩
   .rw [yAH.mp h];exact ⟨ZAE,sA.free hb⟩
 rintro ys σ H1 ⟨v,hls,rfl,s1,rfl,av,b9,a3⟩ l b5
 rw [Int.toNat_natCast] at av
 obtain ⟨H2,e2,s2,h2⟩:=newH b5 (.lst (hls.map V.ref))
 rw [e2];clear e2
 have S2:=s1.trans s2
 refine ZAX ?_
 walk_at "rd"
 refine ⟨⟨by decide,by decide⟩,ky,_,rfl,.inl (SqL.of (S2 _ _ ao)),?_⟩
 rw [yAA]
 refine ⟨m / 2,ks.length,rfl,by omega,by omega,λcp c9 b7 b8 b6 a5 af c1=>?_⟩
 refine ZA8 (SqL.of a5) (by rw [yAA];omega) (λi ys σ H'=>∃ v,σ=[v] /\ Same c9 H' /\ ys=((b7.take i).map λz=>z / 7).map V.int) ⟨_,rfl,.refl _,rfl⟩ (λi ys σ H' _ ⟨_,_,e,e2⟩=>⟨SqL.of (e _ _ a5),by rw [e2,yAA,yAA,yAP];omega⟩) ?_ ?_
 .rintro i ys x σ H' hi hx ⟨v,rfl,sA,rfl⟩
  obtain ⟨z,hz,rfl⟩:=ZCO hx
  walk_at "rd"
  refine ⟨⟨by decide,by decide⟩,?_⟩
  refine Nxt.of hi ⟨_,rfl,sA,?_⟩
  rw [yCH,hz,yAK,yAK];rfl
 rintro ys σ cn ⟨v,rfl,bd,rfl⟩ cd a8
 rw [yAA,yBL (yAB _)]
 obtain ⟨c5,bq,br,bn⟩:=newH a8 (.lst ((b7.map λz=>z / 7).map V.int))
 rw [bq];clear bq
 have ah:=b8.trans (bd.trans br)
 apply onceX (α:=Addr×List Int×Hp) (λx=>[some (.ref ky),some (.ref a),some (.int c),some (.int m),some (.bl dg),some (.int (n:Int)),some (.ref l),some (.ref x.1),none,none]) (λx=>x.2.2) (λx=>Same H2 x.2.2 /\ x.2.2 x.1=some (.lst (x.2.1.map V.int)) /\ ks.length <= x.2.1.length /\ H2 x.1=none)
 .intro J
  cases dg with
  | false=>
   rw [if_neg (by decide)]
   exact J (cd,b7.map (λz=>z / 7),c5) ⟨ah,bn,by rw [yAA];omega,(b8.trans bd).free a8⟩
  | true=>
   rw [if_pos rfl]
   exact ⟨a,ns,6,41,rfl,(S2.trans ah).seq hS,bu,by decide,by decide,by decide,λcb ci bg c4 bx cg cq _=>J (cb,bg,ci) ⟨ah.trans c4,cg,by show _ <= bg.length;omega,ah.free bx⟩⟩
 rintro ⟨sm,zs,H3⟩ ⟨s3,bf,cc,ae⟩
 dsimp only at s3 bf cc ae
 have S3:=S2.trans s3
 have ad:=S3 _ _ ao
 clear b6 a5 af c1 b8 bd br ah bn a8
 have a5:=ae
 refine ZAX ?_
 walk_at "rd"
 refine ⟨ky,_,rfl,.inl (SqL.of ad),?_⟩
 rw [yAA]
 refine ZDf (by omega) (λi ys σ H'=>∃ v,σ=[v,some (.ref ky)] /\ Same H3 H' /\ ys.length=i /\ ∀ (j:Nat) k,j < i->ks[j]?=some k->∃ r,ys[j]?=some (V.ref r) /\ H' r=some (.tup [.int k,.int j])) ⟨_,rfl,.refl _,rfl,λ_ _ h=>by omega⟩ (λi ys σ H' ⟨_,_,_,l,_⟩=>yCO l) ?_ ?_
 .rintro i ys σ H' hi ⟨v,rfl,sA,hl,aw⟩
  have bv:i < ks.length:=by omega
  walk_at "rd"
  rw [show (0+(i:Int))=i by omega]
  refine ZAo (SqL.of (sA _ _ ad)) (ZDN (by omega) (by rw [Int.toNat_natCast];exact kat_gt bv)) ⟨ZAW (by decide),λt ht=>?_⟩
  refine Nxt.of hi ⟨_,rfl,sA.new ht,by rw [yAC,hl];rfl,λj k' hj bb=>?_⟩
  by_cases z:j < i
  .obtain ⟨r,a1,a2⟩:=aw j k' z bb
   exact ⟨r,by rw [yBB (by omega)];exact a1,ZAM ht _ _ _ a2⟩
  .have:j=i:=by omega
   subst this
   rw [kat_gt bv] at bb;cases bb
   exact ⟨t,by rw [<- hl,yAT (yAB _),yBG];rfl,ZAE⟩
 rintro rs σ co ⟨v,rfl,bt,ce,ac⟩ zl af
 rw [Int.toNat_natCast] at ce ac
 obtain ⟨bz,bm,b3,ca⟩:=newH af (.lst rs)
 rw [bm];clear bm
 have aw:Things bz ks rs:=⟨by omega,λi k hk=>by
  have hi:=(yAO.mp hk).1
  obtain ⟨r,a1,a2⟩:=ac i k (by omega) hk
  exact ⟨r,a1,b3 _ _ a2⟩⟩
 obtain ⟨zz,c2,bh,ap⟩:=aw.zz
 have hz:∀ z∈zz,∃ q:Nat,z.2=(kat ks q,(q:Int)) /\ q < ks.length /\ bz z.1=some (.tup [.int (kat ks q),.int q]):=λz a7=>by
  obtain ⟨i,hi,e⟩:=List.getElem_of_mem a7
  obtain ⟨a1,a2⟩:=ap i z (by rw [yAF hi,e])
  exact ⟨i,a1,by omega,a2⟩
 have au:zz.Pairwise (λ(x y:PrA)=>x.2.2≠y.2.2):=by
  rw [yCX]
  intro i j hi hj cj
  have a1:=(ap i _ (yAF hi)).1
  have a2:=(ap j _ (yAF hj)).1
  rw [a1,a2]
  show (i:Int)≠j
  omega
 refine ⟨zl,zz,rfl,SqL.of (by rw [<- c2];exact ca),λz a7=>?_,by omega,λsl ms c7 Y a6=>?_⟩
 .obtain ⟨q,a1,_,a4⟩:=hz z a7
  rw [a1]
  exact SqT.of a4
 obtain ⟨HE,eE,sE,hE⟩:=newH c7 (.lst (ms.map λz=>V.ref z.1))
 rw [eE];clear eE
 have bi:ms.length=zz.length:=Y.length_eq
 have am:∀ z∈ms,∃ q:Nat,z.2=(kat ks q,(q:Int)) /\ q < ks.length /\ HE z.1=some (.tup [.int (kat ks q),.int q]):=λz a7=>by
  obtain ⟨q,a1,a2,a4⟩:=hz z (Y.mem_iff.mp a7)
  exact ⟨q,a1,a2,sE _ _ a4⟩
 have ax:ms.Pairwise (λ(x y:PrA)=>x.2.2≠y.2.2):=(Y.pairwise_iff fun {x y} z=>Ne.symm z).mpr au
 have bp:(ms.map λz=>z.2.2.toNat).Pairwise (lx ks):=by
  rw [List.pairwise_map]
  refine (a6.and ax).imp_of_mem fun {x y} hx hy z=>?_
  obtain ⟨q1,a1,_,_⟩:=am x hx
  obtain ⟨q2,b1,_,_⟩:=am y hy
  have z1:=z.1
  have z2:=z.2
  rw [a1,b1] at z1 z2
  rw [a1,b1]
  show lx ks (q1:Int).toNat (q2:Int).toNat
  rw [Int.toNat_natCast,Int.toNat_natCast]
  unfold lxP at z1
  dsimp only at z1 z2
  unfold lx
  omega
 have aj:∀ x∈ms.map (λz=>z.2.2.toNat),x < ks.length:=λx hx=>by
  obtain ⟨z,a7,rfl⟩:=yBP.mp hx
  obtain ⟨q,a1,a2,_⟩:=am z a7
  rw [a1]
  show (q:Int).toNat < _
  rw [Int.toNat_natCast]
  exact a2
 have b2:(ms.map λz=>z.2.2.toNat).length=ms.length:=yAA ..
 refine ZA8 (SqL.of hE) (by rw [yAA];omega) (λi ys σ H'=>∃ v,σ=[v] /\ Same HE H' /\ ys=nL ((ms.map λz=>z.2.2.toNat).take i)) ⟨_,rfl,.refl _,rfl⟩ (λi ys σ H' _ ⟨_,_,e,e2⟩=>⟨SqL.of (e _ _ hE),by rw [e2,yAA,yAP];omega⟩) ?_ ?_
 .rintro i ys x σ H' hi hx ⟨v,rfl,sA,rfl⟩
  rw [yAA] at hi
  rw [yAM,yAF hi] at hx
  cases hx
  obtain ⟨q,a1,a2,a4⟩:=am ms[i] (List.getElem_mem hi)
  walk_at "rd"
  refine ZAz (SqT.of (sA _ _ a4)) (ZAj (by decide) rfl) ?_
  refine Nxt.of (by rw [yAA];exact hi) ⟨_,rfl,sA,?_⟩
  rw [yCH,yAM,yAF hi]
  unfold nL
  rw [yAK]
  show _=_++[V.int ((ms[i].2.2.toNat:Nat):Int)]
  rw [a1]
  show _=_++[V.int (((q:Int).toNat:Nat):Int)]
  rw [Int.toNat_natCast]
 rintro ys σ HF ⟨v,rfl,sF,rfl⟩ od be
 rw [yAA,yBL (by rw [yAA];exact yAB _)]
 rw [bi,bh] at b2
 generalize (ms.map λz=>z.2.2.toNat)=os at bp aj b2 ⊢
 obtain ⟨H13,eO,sO,ai⟩:=newH be (.lst (nL os))
 rw [eO];clear eO
 have aq:Same H3 H13:=bt.trans (b3.trans (sE.trans (sF.trans sO)))
 clear am ax bi a6 Y au hz ap aw ac
 have SA:Same H1 H13:=(s2.trans s3).trans aq
 have b4:=aq _ _ ad
 have ba:=aq _ _ bf
 have az:=(s3.trans aq) _ _ h2
 have ag:∀ b∈hls,b≠l /\ b≠ky /\ b≠sm /\ b≠od:=λb hb=>by
  obtain ⟨h1,a0⟩:=a3 b hb
  exact ⟨ZAD h1 b5,(λz=>by rw [z,ao] at a0;cases a0),ZAD (s2 _ _ h1) a5,ZAD ((s2.trans (s3.trans (bt.trans (b3.trans (sE.trans sF))))) _ _ h1) be⟩
 obtain ⟨U,ay⟩:∃ U:Nat->Nat,∀ p,U p=if (0 < n /\ m % 2=1) /\ dg=false then p * n / ks.length else (zs.getD p 0 % ((n:Int)+1)).toNat:=⟨_,λ_=>rfl⟩
 refine ZB8 (SqL.of ai) (λi σ X=>∃ v6 v7,σ=[some (.ref ky),some (.ref a),some (.int c),some (.int m),some (.bl dg),some (.int (n:Int)),some (.ref l),some (.ref sm),v6,v7] /\ PLd X hls (ZDD n U (os.take i)) /\ ∀ b o,b∉hls->H13 b=some o->X b=some o) ⟨_,_,rfl,⟨by rw [ZBQ];exact av,λi b us h1 a0=>?_,b9⟩,λ_ _ _ h=>h⟩ (λi σ X _ ⟨_,_,_,_,e⟩=>SqL.of (e _ _ (λz=>(ag _ z).2.2.2 rfl) ai)) ?_ ?_
 .have hb:=yAS h1
  have hi:i < n:=by have:=(yAO.mp h1).1;omega
  rw [ZB5 hi] at a0
  cases a0
  exact SA _ _ (a3 b hb).1
 .rintro i x σ X hx ⟨v6,v7,rfl,aa,kX⟩
  have hi:=(yAO.mp hx).1
  rw [yAA] at hi
  obtain ⟨p,hp⟩:∃ p,os[i]?=some p:=⟨_,yAF hi⟩
  rw [yAM,hp] at hx
  cases hx
  have ck:=aj p (yAS hp)
  have c0:os.take (i+1)=os.take i++[p]:=by rw [yCH,hp];rfl
  have au:p < zs.length:=by omega
  have bj:=kX _ _ (λz=>(ag _ z).2.2.1 rfl) ba
  have cf:=kX _ _ (λz=>(ag _ z).1 rfl) az
  have bw:=kX _ _ (λz=>(ag _ z).2.1 rfl) b4
  walk_at "rd"
  refine ZAo (SqL.of bj) (show atI (zs.map V.int) (p:Int)=some (.int (zs.getD p 0)) from ZDN (by omega) (by rw [Int.toNat_natCast,yBI,yAF au];rfl)) ?_
  walk_at "rd"
  refine ⟨by omega,?_⟩
  apply onceS (λj:Nat=>[some (.ref ky),some (.ref a),some (.int c),some (.int m),some (.bl dg),some (.int (n:Int)),some (.ref l),some (.ref sm),some (.int (p:Int)),some (.int (j:Int))]) (λj=>j=U p)
  .intro J
   have cm:=Int.emod_nonneg (zs.getD p 0) (show ((n:Int)+1)≠0 by omega)
   obtain ⟨k,hk⟩:∃ k:Nat,zs.getD p 0 % ((n:Int)+1)=k:=⟨(zs.getD p 0 % ((n:Int)+1)).toNat,by omega⟩
   have bc:¬ ((0 < n /\ m % 2=1) /\ dg=false)->k=U p:=λz=>by rw [ay,if_neg z,hk,Int.toNat_natCast]
   rw [hk]
   by_cases h0:(0:Int) < n
   .rw [if_pos h0]
    refine ⟨by decide,?_⟩
    by_cases h1:m % 2=1
    .rw [if_pos h1]
     by_cases h2:dg=false
     .rw [if_pos h2]
      refine ⟨.inl ⟨by omega,by omega⟩,ky,_,rfl,.inl (SqL.of bw),⟨by rw [yAA];omega,by rw [yAA];omega⟩,?_⟩
      rw [yAA,show (p:Int) * n / (ks.length:Int)=((p * n / ks.length:Nat):Int) by rw [Int.natCast_ediv,Int.natCast_mul]]
      exact J _ (by rw [ay,if_pos ⟨⟨by omega,h1⟩,h2⟩])
     .rw [if_neg h2]
      exact J k (bc λz=>h2 z.2)
    .rw [if_neg h1]
     exact J k (bc λz=>h1 z.1.2)
   .rw [if_neg h0]
    exact J k (bc λz=>h0 (by omega))
  rintro j hj
  subst hj
  refine ZAX ?_
  walk_at "rd"
  by_cases hlt:((U p:Nat):Int) < n
  .rw [if_pos hlt]
   have b0:U p < n:=by omega
   obtain ⟨b,hb⟩:∃ b,hls[U p]?=some b:=⟨_,yAF (show U p < hls.length by omega)⟩
   have bo:=aa.at' _ b _ hb (ZB5 b0)
   refine ZAo (SqL.of cf) (show atI (hls.map V.ref) ((U p:Nat):Int)=some (.ref b) from ZAj (by omega) (by rw [Int.toNat_natCast,yAM,hb];rfl)) ?_
   walk_at "rd"
   refine ⟨.inl ⟨rfl,_,SqL.of bo⟩,b,_,_,rfl,rfl,bo,ZAk (by rw [yAA];exact yAL (List.length_filter_le _ _) (by rw [yAP];omega)),?_⟩
   refine ⟨_,_,rfl,?_,λb' o n' h=>?_⟩
   .rw [c0,pcsOf_snoc,if_pos b0]
    have:=aa.push (ys:=[]) hb (((os.take i).filter λq=>decide (U q=U p))++[p])
    unfold nL at this
    rw [yAK] at this
    exact this
   .rw [ZAJ (λz=>n' (by rw [z];exact yAS hb))]
    exact kX b' o n' h
  .rw [if_neg hlt]
   exact ⟨_,_,rfl,by rw [c0,pcsOf_snoc,if_neg (by omega)];exact aa,kX⟩
 rintro σ X ⟨v6,v7,rfl,aa,kX⟩
 rw [yAA,yBL (yAB _)] at aa
 walk_at "rd"
 refine ZAX ?_
 walk_at "rd"
 have ch:∀ ys∈ZDD n U os,∃ i,ys=os.filter λp=>decide (U p=i):=λys h=>by
  obtain ⟨i,_,e⟩:=yBP.mp h
  exact ⟨i,e.symm⟩
 have SX:Same H X:=λb o h=>kX b o (λz=>by rw [(a3 b z).2] at h;cases h) ((s1.trans SA) _ _ h)
 refine q l hls _ X SX (s1.free b5) (kX _ _ (λz=>(ag _ z).1 rfl) az) aa (λb h=>(a3 b h).2) (by rw [ZBQ];omega) (λys h=>?_) (λi j xi xj y cj h1 a0 c8 c6=>?_) (by rw [pcs_sum];exact yAL (List.length_filter_le _ _) (by omega))
 .obtain ⟨i,rfl⟩:=ch ys h
  exact ⟨bp.filter _,λy hy=>aj y (yCN.mp hy).1,yAL (List.length_filter_le _ _) (by omega)⟩
 .have hi:i < n:=by have:=(yAO.mp h1).1;rw [ZBQ] at this;exact this
  have hj:j < n:=by have:=(yAO.mp a0).1;rw [ZBQ] at this;exact this
  rw [ZB5 hi] at h1
  rw [ZB5 hj] at a0
  cases h1
  cases a0
  have a1:=of_decide_eq_true (yCN.mp c8).2
  have a2:=of_decide_eq_true (yCN.mp c6).2
  omega
theorem Oam (F:Fun K "_law_bits" "_law_bits" ZFJ f fd)(T:Bt K mg Ce Cd Cc Ca Cb)
  (U:Fn P w K mg base CX0 "_law_digits" 2 ["_law_script","_law_k","_law_base"] (spDigits K))
  (O:Fn P w K mg base CX0 "_law_stream" 1 ["_law_cell","_law_many"] (spStream))
  (J:Fn P w K mg base CX0 "_law_cell_at" 1 ["_law_script","_law_k"] (spCell K))
 :FnOk P w K mg base CX0 3 f fd ["_law_script","_law_mix"] (spBits68 K):=by
 refine F.ok Vy (λvs H Q E h=>?_) (λa5 A outer s H vs Q E hr h=>?_)
 .obtain ⟨a,ns,m,rfl,hS,a1,q⟩:=h
  rfl
 obtain ⟨a,ns,m,rfl,hS,a1,q⟩:=h
 refine ⟨_,(ZAB (ZAx (ZAO ZBv (ZAN ZAt (ZAN ZAn (ZAl J (hr.mono (by decide)) rfl ZAS (ZAA (pv 0) (ZAA ZAF ZAC))) ZAF) ZAF) ZAF (ZAU _))
  (ZAH (ZAQ (ZAl U (hr.mono (by decide)) rfl ZAS (ZAA (pv 0) (ZAA ZAF (ZAA ZAF ZAC)))))) ZAc)
  (ZAH (ZAQ (ZBM rfl (k:=1) (js:=[]) (N':=["_law_number"]) (by rfl) (ZAq (ZAl O (hr.mono (by decide)) rfl ZAS (ZAA (pv 1) (ZAA ZAF ZAC)))) (λ_ _ _ _=>ZAY (i:=0) (show (["_law_number"]:List Str).Nodup by decide +kernel) rfl (by walk_at "o")) (λ_ _ _ _=>ZAp) (λ_ _ _ _=>(ZAN ZAt (ZAN ZAn (pv 0) ZAF) ZAF)))))),?_⟩
 walk_at "rd"
 refine ⟨a,ns,0,rfl,hS,by decide,?_⟩
 walk_at "rd"
 refine ⟨⟨by decide,by decide⟩,by decide,?_⟩
 by_cases h:cellOf ns 0 / 32 % 2=1
 .rw [if_pos h]
  exact ⟨a,ns,8,2,rfl,hS,a1,by decide,by decide,by decide,λl1 H1 zs s1 a0 Y hz _=>q l1 H1 zs s1 a0 Y (by omega) (by omega)⟩
 .rw [if_neg h]
  refine ⟨_,64,rfl,by omega,by omega,λl1 H1 zs s1 a0 Y hz a4=>?_⟩
  refine ZA8 (SqL.of Y) (by rw [yAA];omega) (λi ys σ H'=>∃ v,σ=[v] /\ Same H1 H' /\ ys=((zs.take i).map λz=>z / 5 % 2).map V.int) ⟨_,rfl,.refl _,rfl⟩ (λi ys σ H' _ ⟨_,_,e,e2⟩=>⟨SqL.of (e _ _ Y),by rw [e2,yAA,yAA,yAP];omega⟩) ?_ ?_
  .rintro i ys x σ H' hi hx ⟨v,rfl,sA,rfl⟩
   obtain ⟨z,a3,rfl⟩:=ZCO hx
   walk_at "rd"
   refine ⟨⟨by decide,by decide⟩,by decide,?_⟩
   refine Nxt.of hi ⟨_,rfl,sA,?_⟩
   rw [yCH,a3,yAK,yAK];rfl
  rintro ys σ H2 ⟨v,rfl,s2,rfl⟩ l2 a2
  rw [yAA,yBL (yAB _)]
  exact q l2 _ (zs.map λz=>z / 5 % 2) (s1.trans (s2.new a2)) (s1.free (s2.free a2)) ZAE (by rw [yAA];omega) (by rw [yAA];omega)
theorem Oal (F:Fun K "_law_each_once" "_law_each_once" ZCX f fd)(T:Bt K mg Ce Cd Cc Ca Cb)
  (J:Fn P w K mg base CX0 "_law_whole" 1 ["_law_found"] (spWhole))
 :FnOk P w K mg base CX0 2 f fd ["_law_order","_law_every"] (spOnce68):=by
 refine F.ok Vt (λvs H Q E h=>?_) (λa1 A outer s H vs Q E hr h=>?_)
 .obtain ⟨l,ev,os,es,rfl,hl,a0,hp,hs,ho,q⟩:=h
  rfl
 obtain ⟨l,ev,os,es,rfl,hl,a0,hp,hs,ho,q⟩:=h
 refine ⟨_,(ZAB (ZAx (ZDp (ZBP (ZAK ZCn rfl T.b_isinstance PyProof.Rows.boot_isinstance (ZAA (pv 0) (ZAA (ZFT rfl T.b_list PyProof.Rows.boot_list) ZAC)))))
  (ZAH (ZAQ ZEK)) ZAc)
  (ZAB (ZBk PassesOwn.never rfl (ZAq (pv 0)) (ZAY (i:=2) Vt.nd rfl (by walk_at "o"))
  (ZAH (ZAx (ZDp (ZBP (ZAl J (hr.mono (by decide)) rfl ZAS (ZAA (pv 2) ZAC))))
  (ZAH (ZAQ ZEK)) ZAc)))
  (ZAH (ZAQ (ZCi (op_eqD hr.units) (ZAK call_sortedB rfl T.b_sorted PyProof.Rows.boot_sorted (ZAA (pv 0) ZAC)) (pv 1) (ZAU _)))))),?_⟩
 walk_at "rd"
 refine inst_lst hl ?_
 rw [if_neg (by decide)]
 refine ZB8 (SqL.of hl) (λi σ X=>∃ v2,σ=[some (.ref l),some (.ref ev),v2] /\ X=H) ⟨_,rfl,rfl⟩ (λi σ X _ ⟨_,_,e⟩=>by rw [e];exact SqL.of hl) ?_ ?_
 .rintro i x σ X hx ⟨v2,rfl,rfl⟩
  rw [yAM] at hx
  obtain ⟨y,_,rfl⟩:=Option.map_eq_some_iff.mp hx
  walk_at "rd"
  exact ⟨_,rfl,_,rfl,rfl⟩
 rintro σ X ⟨v2,rfl,rfl⟩
 walk_at "rd"
 refine ⟨l,os.map λ(x:Nat)=>(x:Int),rfl,SqL.of (by rw [hl,ZEa]),by rw [yAA];omega,λsl ms Y O U=>?_⟩
 have eM:=srt_two (O.trans hp) U hs
 subst eM
 exact eqD_of Enc.int.list (by decide) (ZED (SqL.of ZAE)) (ZED (SqL.of (ZAM Y _ _ _ a0))) (by rw [decide_eq_true rfl];exact q _ (ZAM Y _))
theorem Oao (F:Fun K "_law_turned" "_law_turned" ZDw f fd)(T:Bt K mg Ce Cd Cc Ca Cb)
 :FnOk P w K mg base CX0 1 f fd ["_law_log"] (spTurned68):=by
 refine F.ok Vp (λvs H Q E h=>?_) (λa2 A outer s H vs Q E hr h=>?_)
 .obtain ⟨lg,ws,L,rfl,O,ht,J,q⟩:=h
  rfl
 obtain ⟨lg,ws,L,rfl,O,ht,J,q⟩:=h
 refine ⟨_,(ZAB (ZBk PassesOwn.never rfl (ZAq (pv 0)) (ZFO (n:=3) rfl (ZBl (ZAY (i:=1) Vp.nd rfl (by walk_at "o")) (ZBl (ZAY (i:=2) Vp.nd rfl (by walk_at "o")) (ZBl (ZAY (i:=3) Vp.nd rfl (by walk_at "o")) ZEZ))))
  (ZAH (ZAx (ZAO op_le (pv 1) (pv 2) (ZAU _))
  (ZAH (ZAQ ZEK)) ZAc)))
  (ZAH (ZAQ ZEK))),?_⟩
 walk_at "rd"
 refine ZB8 (SqL.of O) (λi σ X=>∃ v1 Y v3,σ=[some (.ref lg),v1,Y,v3] /\ X=H) ⟨_,_,_,rfl,rfl⟩ (λi σ X _ ⟨_,_,_,_,e⟩=>by rw [e];exact SqL.of O) ?_ ?_
 .rintro i x σ X hx ⟨v1,Y,v3,rfl,rfl⟩
  have hi:=(yAO.mp hx).1
  rw [ht.len] at hi
  obtain ⟨⟨p,q',b⟩,hp⟩:∃ c,L[i]?=some c:=⟨_,yAF hi⟩
  obtain ⟨t,U,a0⟩:=ht.get i p q' b hp
  rw [hx] at U
  cases U
  have a1:q' < p:=J _ (yAS hp)
  refine ZEk (SqT.of a0) rfl ?_
  walk_at "rd"
  rw [if_neg (by omega)]
  exact ⟨_,_,_,rfl,trivial⟩
 rintro σ X ⟨v1,Y,v3,rfl,rfl⟩
 walk_at "rd"
 exact q
theorem Oai (F:Fun K "_law_most" "_law_most" ZFG f fd)(T:Bt K mg Ce Cd Cc Ca Cb)
 :FnOk P w K mg base CX0 1 f fd ["_law_many","_law_mouths","_law_places"] (spMost68):=by
 refine F.ok Vm (λvs H Q E h=>?_) (λa3 A outer s H vs Q E Y h=>?_)
 .obtain ⟨m,d,p,rfl,hm,U,a0,hp,q⟩:=h
  rfl
 obtain ⟨m,d,p,rfl,hm,U,a0,hp,q⟩:=h
 refine ⟨_,(ZAB (ZAL (i:=3) Vm.nd rfl (by walk_at "o") ZAF)
  (ZAB (ZBY PassesOwn.never (ZAO ZDk (pv 0) ZAF (ZAU _))
  (ZAB (ZAL (i:=4) Vm.nd rfl (by walk_at "o") (ZAN ZAn (ZAN ZAv (ZAN ZAe (pv 0) (pv 1)) ZAF) (pv 1)))
  (ZAB (ZAL (i:=3) Vm.nd rfl (by walk_at "o") (ZAN ZAe (ZAN ZAv (ZAN ZAe (pv 3) (pv 0)) (pv 4)) (ZAN ZBg (pv 2) (ZEJ PySem.F.plainAttrs_int PySem.F.slot_int_bit_length PySem.F.type_int_bit_length ZDW (ZAN ZAv (ZAK (ZCM rfl) rfl T.b_min PyProof.Rows.boot_min (ZAA (pv 0) (ZAA (pv 1) ZAC))) ZAF)))))
  (ZAH (ZAL (i:=0) Vm.nd rfl (by walk_at "o") (pv 4))))))
  (ZAH (ZAQ (pv 3))))),?_⟩
 walk_at "rd"
 refine ZBW (λk σ X=>∃ (J O f:Nat) (v4:Option V),k=J /\ σ=[some (.int (J:Nat)),some (.int d),some (.int p),some (.int (O:Nat)),v4] /\ X=H /\ J <= f /\ J <= 200 /\ O+rmost btN d p f J=rmost btN d p m m) ⟨_,m,0,m,_,rfl,rfl,rfl,yAB _,hm,yBN _⟩ ?_
 rintro k σ X ⟨J,O,f,v4,em,rfl,rfl,hf,a2,Y⟩
 walk_at "rd"
 by_cases hlt:1 < J
 .rw [if_pos (by omega)]
  refine ZBX ?_
  walk_at "rd"
  obtain ⟨f,rfl⟩:∃ f',f=f' + 1:=⟨f-1,by omega⟩
  rw [rmost,if_pos hlt] at Y
  have hg:=ZFX (l:=J) U (by omega)
  have eg:((J:Int)+d-1) / d=(grpN J d:Nat):=by
   unfold grpN
   rw [show (J:Int)+d-1=((J + d-1:Nat):Int) by omega,Int.natCast_ediv]
  refine ⟨⟨by omega,by omega⟩,?_⟩
  rw [eg]
  refine ⟨_,_,rfl,rfl,?_⟩
  rw [ZE4,show min (J:Int) d-1=((min J d-1:Nat):Int) by omega]
  refine ⟨_,rfl,rfl,?_⟩
  have hb:btN (min J d-1) <= 100:=by
   refine (bits_le (by omega)).mpr ?_
   have:(2:Int) ^ 100 > 1000:=by decide
   omega
  generalize hbe:p * btN (min J d-1)=pb at Y
  have a1:((p:Int) * (Builtin.Int.intBits (((min J d-1:Nat)):Int):Nat))=((pb:Nat):Int):=by rw [<- hbe,Int.natCast_mul];rfl
  refine ⟨.inl ⟨by omega,by omega⟩,ZC9 ?_⟩
  rw [a1]
  try dsimp only
  exact ⟨_,(by omega:grpN J d < k),grpN J d,O+(J - grpN J d)+pb,f,_,rfl,by rw [show (O:Int)+J - (grpN J d:Nat)+(pb:Nat)=((O+(J - grpN J d)+pb:Nat):Int) by omega],rfl,by omega,by omega,by omega⟩
 .rw [if_neg (by omega)]
  walk_at "rd"
  have:O=rmost btN d p m m:=by
   rw [<- Y]
   cases f with
   | zero=>rfl
   | succ f=>rw [rmost,if_neg hlt];rfl
  rw [this]
  exact q
theorem O3 (F:Fun K "_law_walked" "_law_walked" ZDv f fd)(T:Bt K mg Ce Cd Cc Ca Cb)
  (J:Mt P w K mg base CX0 Cc "first" 2 ["self"] (spFirst Cc))
  (a0:Mt P w K mg base CX0 Cc "take" 7 ["self"] (spTakeW Ca Cb Cc))
  (a1:Mt P w K mg base CX0 Cc "left" 1 ["self"] (spLeft Cc))
 :FnOk P w K mg base CX0 8 f fd ["_law_pour","_law_many","_law_log","_law_most_here"] (spWalk68 Ca Cb Cc):=by
 refine F.ok Vo (λvs H Q E h=>?_) (λbn A outer s H vs Q E hr h=>?_)
 .obtain ⟨c,pr,po,pl,tk,ml,wd,pls,pcs,w0,kvs,m,e,post,rfl,st,pa,px,dw,ax,hn,hk,a9,hm,he,w,av,ao,q⟩:=h
  rfl
 obtain ⟨c,pr,po,pl,tk,ml,wd,pls,pcs,w0,kvs,m,e,post,rfl,st,pa,px,dw,ax,hn,hk,a9,hm,he,w,av,ao,q⟩:=h
 refine ⟨_,(ZAB (ZAL (i:=4) Vo.nd rfl (by walk_at "o") (ZA6 ZAC))
  (ZAB (ZBk PassesOwn.never rfl (ZBf rfl T.b_range (ZAA (pv 1) ZAC)) (ZAY (i:=5) Vo.nd rfl (by walk_at "o"))
  (ZAB (ZAL (i:=6) Vo.nd rfl (by walk_at "o") (ZAK ZAI rfl T.b_len PySem.boot_len (ZAA (pv 2) ZAC)))
  (ZAB (ZAL (i:=7) Vo.nd rfl (by walk_at "o") (ZBG J (hr.mono (by decide)) ZAS (pv 0)))
  (ZAB (ZAx (PW.pt (ZD5 (ZAO ZFn (ZBG a1 (hr.mono (by decide)) ZAS (pv 0)) (ZAN ZAv (pv 1) (pv 5)) (ZAU _)) (ZDA (ZAO ZFn (ZAK ZAI rfl T.b_len PySem.boot_len (ZAA (pv 2) ZAC)) (pv 6) (ZAU _)))))
  (ZAH (ZAQ ZA5)) ZAc)
  (ZAB (ZAh (ZB4 PySem.F.plainAttrs_list PySem.F.slot_list_append PySem.F.type_list_append ZA7 (pv 4) (ZAA (ZBG a0 (hr.mono (by decide)) ZAS (pv 0)) ZAC)))
  (ZAH (ZAx (PW.pt (ZD5 (ZAO ZFn (ZAg ZAd (pv 4) (pv 5) (λ_ _=>rfl)) (pv 7) (ZAU _)) (ZDA (ZAO ZDk (ZAN ZAv (ZAK ZAI rfl T.b_len PySem.boot_len (ZAA (pv 2) ZAC)) (pv 6)) (pv 3) (ZAU _)))))
  (ZAH (ZAQ ZA5)) ZAc)))))))
  (ZAB (ZAx (PW.pt (ZD5 (ZAO ZD6 (ZBG J (hr.mono (by decide)) ZAS (pv 0)) ZA5 (ZAU _)) (ZD5 (ZAO ZD6 (ZBG a0 (hr.mono (by decide)) ZAS (pv 0)) ZA5 (ZAU _)) (ZDA (ZAO ZFn (ZBG a1 (hr.mono (by decide)) ZAS (pv 0)) ZAF (ZAU _))))))
  (ZAH (ZAQ ZA5)) ZAc)
  (ZAH (ZAQ (pv 4)))))),?_⟩
 walk_at "rd"
 refine ⟨yAJ _,λod O=>?_⟩
 obtain ⟨H1,e1,s1,h1⟩:=newH O (.lst [])
 rw [e1];clear e1
 have au:=st.off O
 have az:od≠tk:=Ne.symm (ZAD pa.htk O)
 refine ZDK (by omega) (ZDc (λk σ X=>∃ v5 v6 v7 wd w kvs ts U pr',σ=[some (.ref po),some (.int (m:Nat)),some (.ref c.lg),some (.int (e:Nat)),some (.ref od),v5,v6,v7] /\ X od=some (.lst (nL U)) /\ U.length=k /\ k <= m /\ ts.sum=k /\ (∀ t∈ts,t <= k) /\ SitR Ca Cb X c pr' /\ PourAt Cc X po c.a pl tk ml wd pls pcs ts w kvs /\ Dw pcs.length (Po.mts 0 pcs.length) w /\ (∀ j,j < pcs.length->(w j (j+1)).isSome=true) /\ Fr [po,tk,c.a,c.lg,c.tl] H X /\ Wp c.n c.an (ZDi pcs (m-k) ts w U) pr' post) ⟨_,_,_,wd,w0,kvs,_,[],pr,rfl,h1,rfl,yAJ _,by simp,(λt h=>by rw [(List.mem_replicate.mp h).2];exact yAB _),st.mono s1,pa.mono s1,dw,ax,s1.fr,w⟩ ?_ ?_)
 .rintro k σ X bj ⟨v5,v6,v7,a6,w2,a5,ts,U,pr1,rfl,a7,ag,bg,ab,aa,ae,a2,ai,ad,fX,wX⟩
  have bm:k < m:=by omega
  have hz:0 < pcs.length:=by
   cases pcs with
   | nil=>have:tot ([]:List (List Nat))=0:=rfl;omega
   | cons p ps=>simp
  rw [show m-k=(m-(k+1))+1 by omega,ZDi] at wX
  rw [Int.zero_add]
  walk_at "rd"
  split at wX
  case h_2=>exact absurd wX (av _)
  rename_i cc hcc
  obtain ⟨x,i⟩:=cc
  dsimp only at wX
  obtain ⟨ws,ap,b0⟩:=ae.hlg
  refine ⟨c.lg,_,rfl,.inl (SqL.of ap),?_⟩
  walk_at "rd"
  refine a2.pb.hp.meth (by walk_at "lk") ⟨po,c.a,pl,tk,ml,a6,pls,pcs,w2,_,a5,some (x,i),rfl,a2.pb,a2.hwd,.inl hcc,λX1 a8=>?_⟩
  walk_at "rd"
  have a3:=a2.mono a8
  have hsz:∀ ys∈pcs,ys.length <= 500:=λys hy=>yAL (ZDs hy) (by omega)
  refine a3.pb.hp.meth (by walk_at "lk") ⟨po,c.a,pl,tk,ml,a6,pls,pcs,ts,rfl,a3.pb,a3.htk,by omega,by rw [a2.tlen];omega,hsz,λt ht=>by have:=aa t ht;omega,λX2 ah=>?_⟩
  rw [ab,show (pcs.map List.length).sum=m from a9]
  have S2:=a8.trans ah
  have b6:=ae.mono S2
  have a4:=a2.mono S2
  walk_at "rd"
  rw [if_neg (λz=>z trivial)]
  refine ⟨c.lg,_,rfl,.inl (SqL.of (S2 _ _ ap)),?_⟩
  rw [if_neg (λz=>z rfl)]
  refine ⟨.inl ⟨rfl,_,SqL.of (S2 _ _ a7)⟩,a4.pb.hp.meth (by walk_at "lk") ⟨c,pr1,po,pl,tk,ml,a6,pls,pcs,ts,w2,a5,rfl,b6,a4,px,ai,ad,hn,hk,.inr ⟨x,i,_,hz,hcc,(wX.bind).ct (ZDJ _ _),λpr' z=>av pr' z.2,λwd' w' Y kv' bf fY bd bc b4 b8 aq=>?_⟩⟩⟩
  obtain ⟨⟨kk,ay,bi⟩,aq⟩:=aq
  have ay:=yAL ay (way_len 0 pcs.length e (by omega))
  have hi:i < ts.length:=by rw [a2.tlen];exact ai.ix _ _ _ hcc
  have bb:od≠po:=λz=>by
   obtain ⟨_,_,e1,_⟩:=pa.pb.hp.ex
   rw [z,e1] at O;cases O
  have nS:od∉[po,tk,c.a,c.lg,c.tl]:=λz=>by
   rcases yAI.mp z with z | z
   .exact bb z
   rcases yAI.mp z with z | z
   .exact az z
   .exact Ad.SA au z
  have ac:=fY _ _ nS (S2 _ _ a7)
  obtain ⟨be,b7,b2⟩:=b8.hlg
  refine ⟨od,_,_,rfl,rfl,ac,ZAk (by rw [yAA];omega),?_⟩
  have b1:=b8.upd (o:=.lst (nL U++[.int (x:Nat)])) ac au
  have b5:od≠pl:=λz=>by have:=pa.pb.hpl;rw [<- z,O] at this;cases this
  have b3:od≠ml:=λz=>by
   obtain ⟨_,h,_⟩:=pa.hml
   rw [<- z,O] at h;cases h
  have b9:∀ l∈pls,l≠od:=λl hl z=>by
   obtain ⟨j,hj,ej⟩:=List.getElem_of_mem hl
   have:=pa.pb.pc j l _ (by rw [yAF hj,ej]) (yAF (by rw [<- pa.pb.len];exact hj))
   rw [z,O] at this;cases this
  have ba:PourAt Cc (upd Y od (.lst (nL U++[.int (x:Nat)]))) po c.a pl tk ml wd' pls pcs (tkN ts i) w' kv':=bd.fr (S:=[od]) ZFb (λb hb=>by rw [yAH.mp hb];exact ⟨_,ac⟩) ⟨λz=>b5 (yAH.mp z).symm,λz=>az (yAH.mp z).symm,λz=>b3 (yAH.mp z).symm,λl hl z=>b9 l hl (yAH.mp z)⟩
  have af:upd Y od (.lst (nL U++[.int (x:Nat)])) od=some (.lst (nL (U++[x]))):=by
   rw [ZAE];unfold nL;rw [yAK];rfl
  have am:upd Y od (.lst (nL U++[.int (x:Nat)])) c.lg=some (.lst be):=by
   rw [ZAJ (λz=>Ad.SA au (by rw [<- z];exact yAE _ yAD))];exact b7
  have aw:Fr [po,tk,c.a,c.lg,c.tl] H (upd Y od (.lst (nL U++[.int (x:Nat)]))):=λb o n h=>by
   rw [ZAJ (ZAD h O)]
   exact fY _ _ n (S2 _ _ (fX _ _ n h))
  generalize upd Y od (.lst (nL U++[.int (x:Nat)]))=Z at b1 ba af am aw ⊢
  walk_at "rd"
  refine ZAo (SqL.of af) (ZDB (o:=x) (by rw [yAT (by omega),ag,yBG];rfl)) ?_
  walk_at "rd"
  rw [if_neg (λz=>z trivial)]
  refine ⟨c.lg,_,rfl,.inl (SqL.of am),?_⟩
  rw [if_neg (by rw [b2.len,b0.len];omega)]
  exact ⟨_,_,_,wd',w',kv',_,U++[x],bf,rfl,af,by rw [yAC,ag];rfl,by omega,by rw [sum_tk hi,ab],tk_le aa,b1,ba,bc,b4,aw,aq⟩
 rintro σ X ⟨v5,v6,v7,a6,w2,a5,ts,U,pr1,rfl,a7,ag,bg,ab,aa,ae,a2,ai,ad,fX,wX⟩
 rw [Int.toNat_natCast] at ag ab aa wX
 rw [yBG] at wX
 have wX:post (some (U,w2)) pr1:=wX
 have aj:=ao _ _ _ wX
 have hsz:∀ ys∈pcs,ys.length <= 500:=λys hy=>yAL (ZDs hy) (by omega)
 walk_at "rd"
 refine a2.pb.hp.meth (by walk_at "lk") ⟨po,c.a,pl,tk,ml,a6,pls,pcs,w2,_,a5,none,rfl,a2.pb,a2.hwd,aj.elim (λz=>.inr ⟨by omega,rfl⟩) .inl,λX1 a8=>?_⟩
 try dsimp only
 rw [if_neg (λz=>z rfl)]
 have a3:=a2.mono a8
 refine a3.pb.hp.meth (by walk_at "lk") ⟨c,pr1,po,pl,tk,ml,a6,pls,pcs,ts,w2,a5,rfl,ae.mono a8,a3,px,ai,ad,hn,hk,.inl ⟨aj,λX2 ah=>?_⟩⟩
 try dsimp only
 rw [if_neg (λz=>z rfl)]
 have a4:=a3.mono ah
 refine a4.pb.hp.meth (by walk_at "lk") ⟨po,c.a,pl,tk,ml,a6,pls,pcs,ts,rfl,a4.pb,a4.htk,by omega,by rw [a2.tlen];omega,hsz,λt ht=>by have:=aa t ht;omega,λX3 bh=>?_⟩
 rw [ab,show (pcs.map List.length).sum=m from a9,Int.sub_self]
 walk_at "rd"
 rw [if_neg (λz=>z trivial)]
 have S:=a8.trans (ah.trans bh)
 exact q od X3 U w2 pr1 (fX.trans S.fr) O (S _ _ a7) (ae.mono S) wX
theorem O1 (F:Fun K "law" "law" ZD0 f fd)(T:Bt K mg Ce Cd Cc Ca Cb)
  (bt:Fn P w K mg base CX0 "_law_keys" 3 ["_law_script","_law_most_here"] (spKeys K))
  (b6:Fn P w K mg base CX0 "_law_dealt" 3 ["_law_keys_here","_law_script"] (spDealt62 K))
  (aj:Fn P w K mg base CX0 "_law_cell_at" 1 ["_law_script","_law_k"] (spCell K))
  (b1:Fn P w K mg base CX0 "_law_walked" 8 ["_law_pour","_law_many","_law_log","_law_most_here"] (spWalk68 Ca Cb Cc))
  (ax:Fn P w K mg base CX0 "poured" 12 ["asker","pieces"] (spPouredW Ca Cb))
  (a8:Fn P w K mg base CX0 "in_rounds" 14 ["asker","pieces","mouths"] (spInRoundsW Ca Cb))
  (ac:Fn P w K mg base CX0 "by_pieces" 15 ["asker","wide","mouths","least"] (spByPiecesW Ca Cb))
  (J:Fn P w K mg base CX0 "_law_each_once" 2 ["_law_order","_law_every"] (spOnce68))
  (az:Fn P w K mg base CX0 "_law_teller" 1 ["_law_log","_law_bits_here"] (ZEo Pt_teller (ZEO ZAT) "_law_teller_here" "_law_teller.<locals>._law_teller_here" (ZA1 ZAT) (ZAs ZAT) (ZAG ZAT) ["_law_bits_here","_law_log"] [1,0] 2))
  (c1:Fn P w K mg base CX0 "_law_most" 1 ["_law_many","_law_mouths","_law_places"] (spMost68))
  (b0:Fn P w K mg base CX0 "_law_turned" 1 ["_law_log"] (spTurned68))
  (bn:Fn P w K mg base CX0 "_law_bits" 3 ["_law_script","_law_mix"] (spBits68 K))
  (ai:KlD P w K mg base CX0 "Asker" Ca 1 ["self","row","rule","most"] (spAskerInit Ca) [.non])
  (ab:Kl P w K mg base CX0 "AskedRule" Cb 1 ["self","teller"] (spRuleInit Cb))
  (bq:Kl P w K mg base CX0 "Pour" Cc 10 ["self","asker","pieces"] (spPourInitW Ca Cb Cc))
 :FnOk P w K mg base CX0 16 f fd ["_law_script"] (ZFF K [(cc_teller,Pt_teller)]):=by
 refine F.ok Va (λvs H Q E h=>?_) (λii A outer s H vs Q E hr h=>?_)
 .obtain ⟨a,ns,rfl,hS,bv,hT,q⟩:=h
  rfl
 obtain ⟨a,ns,rfl,hS,bv,hT,q⟩:=h
 refine ⟨_,(ZAB (ZAL (i:=1) Va.nd rfl (by walk_at "o") (ZAl bt (hr.mono (by decide)) rfl ZAS (ZAA (pv 0) (ZAA ZAF ZAC))))
  (ZAR
  (ZAB (ZAL (i:=2) Va.nd rfl (by walk_at "o") (ZAl b6 (hr.mono (by decide)) rfl ZAS (ZAA (pv 1) (ZAA (pv 0) ZAC))))
  (ZAR
  (ZAB (ZAL (i:=3) Va.nd rfl (by walk_at "o") (ZA6 ZAC))
  (ZAR
  (ZAB (ZBk PassesOwn.never rfl (ZAq (pv 2)) (ZAY (i:=4) Va.nd rfl (by walk_at "o"))
  (ZAH (ZAL (i:=3) Va.nd rfl (by walk_at "o") (ZAN ZEM (pv 3) (pv 4)))))
  (ZAR
  (ZAB (ZAL (i:=3) Va.nd rfl (by walk_at "o") (ZAK call_sortedB rfl T.b_sorted PyProof.Rows.boot_sorted (ZAA (pv 3) ZAC)))
  (ZAR
  (ZAB (ZAL (i:=5) Va.nd rfl (by walk_at "o") (ZAl aj (hr.mono (by decide)) rfl ZAS (ZAA (pv 0) (ZAA ZAF ZAC))))
  (ZAR
  (ZAB (ZAL (i:=6) Va.nd rfl (by walk_at "o") (ZA6 ZAC))
  (ZAR
  (ZAB (ZAL (i:=7) Va.nd rfl (by walk_at "o") (pe_mkD ai (hr.mono (by decide)) rfl ZAS (ZAA (ZBM rfl (k:=2) (js:=[]) (N':=["_law_k","_law_key"]) (by rfl) (pi_enum rfl T.b_enumerate (ZAA (pv 1) ZAC)) (λ_ _ _ _=>pg_tupK (n:=2) K rfl (ZBl (ZAY (i:=0) (show (["_law_k","_law_key"]:List Str).Nodup by decide +kernel) rfl (by walk_at "o")) (ZBl (ZAY (i:=1) (show (["_law_k","_law_key"]:List Str).Nodup by decide +kernel) rfl (by walk_at "o")) ZEZ))) (λ_ _ _ _=>ZAp) (λ_ _ _ _=>(ZBB (ZAA (pv 1) (ZAA (pv 0) ZAC))))) (ZAA (ZFS ab (hr.mono (by decide)) rfl ZAS (ZAA (ZAl az (hr.mono (by decide)) rfl ZAS (ZAA (pv 6) (ZAA (ZAl bn (hr.mono (by decide)) rfl ZAS (ZAA (pv 0) (ZAA (pv 5) ZAC))) ZAC))) ZAC)) ZAC))))
  (ZAR
  (ZAB (ZAL (i:=8) Va.nd rfl (by walk_at "o") (ZAK (ZDg rfl) rfl T.b_max PyProof.Rows.boot_max (ZAA ZAF (ZAA (ZAN ZAv (ZAK ZAI rfl T.b_len PySem.boot_len (ZAA (pv 2) ZAC)) ZAF) ZAC))))
  (ZAR
  (ZAB (ZAL (i:=9) Va.nd rfl (by walk_at "o") (ZAl b1 (hr.mono (by decide)) rfl ZAS (ZAA (ZFS bq (hr.mono (by decide)) rfl ZAS (ZAA (pv 7) (ZAA (ZBM rfl (k:=1) (js:=[]) (N':=["_law_piece"]) (by rfl) (ZAq (pv 2)) (λ_ _ _ _=>ZAY (i:=0) (show (["_law_piece"]:List Str).Nodup by decide +kernel) rfl (by walk_at "o")) (λ_ _ _ _=>ZAp) (λ_ _ _ _=>(ZAi (ZBH K) rfl T.b_list PyProof.Rows.boot_list (ZAA (pv 0) ZAC)))) ZAC))) (ZAA (ZAK ZAI rfl T.b_len PySem.boot_len (ZAA (pv 3) ZAC)) (ZAA (pv 6) (ZAA (ZEJ PySem.F.plainAttrs_int PySem.F.slot_int_bit_length PySem.F.type_int_bit_length ZDW (pv 8)) ZAC))))))
  (ZAR
  (ZAB (ZAx (PW.pt (ZD5 (ZAO ZCT (pv 9) ZA5 (ZAU _)) (ZDA (ZDp (ZBP (ZAl J (hr.mono (by decide)) rfl ZAS (ZAA (pv 9) (ZAA (pv 3) ZAC))))))))
  (ZAH (ZAQ ZEK)) ZAc)
  (ZAR
  (ZAB (ZAL (i:=10) Va.nd rfl (by walk_at "o") (ZAK ZAI rfl T.b_len PySem.boot_len (ZAA (pv 6) ZAC)))
  (ZAR
  (ZAB (ZAL (i:=11) Va.nd rfl (by walk_at "o") (ZAl ax (hr.mono (by decide)) rfl ZAS (ZAA (pv 7) (ZAA (ZBM rfl (k:=1) (js:=[]) (N':=["_law_piece"]) (by rfl) (ZAq (pv 2)) (λ_ _ _ _=>ZAY (i:=0) (show (["_law_piece"]:List Str).Nodup by decide +kernel) rfl (by walk_at "o")) (λ_ _ _ _=>ZAp) (λ_ _ _ _=>(ZAi (ZBH K) rfl T.b_list PyProof.Rows.boot_list (ZAA (pv 0) ZAC)))) ZAC))))
  (ZAR
  (ZAB (ZAx (PW.pt (ZD5 (ZDp (ZBP (ZAl J (hr.mono (by decide)) rfl ZAS (ZAA (pv 11) (ZAA (pv 3) ZAC))))) (ZDA (ZAO ZDk (ZAN ZAv (ZAK ZAI rfl T.b_len PySem.boot_len (ZAA (pv 6) ZAC)) (pv 10)) (ZAN ZAe (pv 8) (ZAN ZBg (ZAK ZAI rfl T.b_len PySem.boot_len (ZAA (pv 3) ZAC)) (ZEJ PySem.F.plainAttrs_int PySem.F.slot_int_bit_length PySem.F.type_int_bit_length ZDW (pv 8)))) (ZAU _)))))
  (ZAH (ZAQ ZEK)) ZAc)
  (ZAR
  (ZAB (ZAL (i:=10) Va.nd rfl (by walk_at "o") (ZAK ZAI rfl T.b_len PySem.boot_len (ZAA (pv 6) ZAC)))
  (ZAR
  (ZAB (ZAL (i:=12) Va.nd rfl (by walk_at "o") (ZAN ZAe ZAF (ZAN ZAt (ZAN ZAn (pv 5) ZAF) ZAF)))
  (ZAR
  (ZAB (ZAL (i:=11) Va.nd rfl (by walk_at "o") (ZAl a8 (hr.mono (by decide)) rfl ZAS (ZAA (pv 7) (ZAA (ZBM rfl (k:=1) (js:=[]) (N':=["_law_piece"]) (by rfl) (ZAq (pv 2)) (λ_ _ _ _=>ZAY (i:=0) (show (["_law_piece"]:List Str).Nodup by decide +kernel) rfl (by walk_at "o")) (λ_ _ _ _=>ZAp) (λ_ _ _ _=>(ZAi (ZBH K) rfl T.b_list PyProof.Rows.boot_list (ZAA (pv 0) ZAC)))) (ZAA (pv 12) ZAC)))))
  (ZAR
  (ZAB (ZAx (PW.pt (ZD5 (ZDp (ZBP (ZAl J (hr.mono (by decide)) rfl ZAS (ZAA (ZAg ZA4 (pv 11) ZAF (λ_ _=>rfl)) (ZAA (pv 3) ZAC))))) (ZDA (ZAO ZDk (ZAN ZAv (ZAK ZAI rfl T.b_len PySem.boot_len (ZAA (pv 6) ZAC)) (pv 10)) (ZAl c1 (hr.mono (by decide)) rfl ZAS (ZAA (ZAK ZAI rfl T.b_len PySem.boot_len (ZAA (pv 2) ZAC)) (ZAA (pv 12) (ZAA (ZAK ZAI rfl T.b_len PySem.boot_len (ZAA (pv 3) ZAC)) ZAC)))) (ZAU _)))))
  (ZAH (ZAQ ZEK)) ZAc)
  (ZAR
  (ZAB (ZAL (i:=13) Va.nd rfl (by walk_at "o") (ZAl ac (hr.mono (by decide)) rfl ZAS (ZAA (pv 7) (ZAA (ZAN ZAe ZAF (ZAN ZAt (ZAN ZAn (pv 5) ZAF) ZAF)) (ZAA (pv 12) (ZAA (ZAN ZAe ZAF (ZAN ZAt (ZAN ZAn (pv 5) ZAF) ZAF)) ZAC))))))
  (ZAR
  (ZAH (ZAQ (ZEr (ZAl J (hr.mono (by decide)) rfl ZAS (ZAA (pv 13) (ZAA (ZAi (ZCC rfl) rfl T.b_list PyProof.Rows.boot_list (ZAA (ZAi call_rng1 rfl T.b_range PyProof.Rows.boot_range (ZAA (ZAK ZAI rfl T.b_len PySem.boot_len (ZAA (pv 1) ZAC)) ZAC)) ZAC)) ZAC))) (ZEr (ZFR (ZAl b0 (hr.mono (by decide)) rfl ZAS (ZAA (pv 6) ZAC))) (ZFQ (ZCi ZBv (ZAP (pv 7) rfl) (ZAK ZAI rfl T.b_len PySem.boot_len (ZAA (pv 6) ZAC)) (ZAU _))))))))))))))))))))))))))))))))))))))))))))),?_⟩
 walk_at "rd"
 refine ⟨a,ns,rfl,hS,bv,λky Hk ks fe i4 ba ez=>?_⟩
 have gc:=fe.seq hS
 refine ZAX ?_
 walk_at "rd"
 refine ⟨ky,a,ks,ns,rfl,ba,ez,gc,bv,λc3 hls pcs Hd sD i1 b4 d8 i7 io e7 bm dm=>?_⟩
 have a7:PL Hd hls pcs:=⟨d8.len,d8.at'⟩
 have ht:tot pcs <= 119:=dm
 refine ZAX ?_
 walk_at "rd"
 refine ⟨yAJ _,λev f3=>?_⟩
 obtain ⟨He,ee,se,ho⟩:=newH f3 (.lst [])
 rw [ee];clear ee
 refine ZAX ?_
 walk_at "rd"
 have eh:∀ i,(pcs.take i).flatten.length <= 119:=λi=>by
  have h1:=tot_td pcs i
  rw [yCM]
  have h2:((pcs.take i).map List.length).sum=tot (pcs.take i):=rfl
  omega
 refine ZB8 (SqL.of (se _ _ b4)) (λi σ X=>∃ ev v,σ=[some (.ref a),some (.ref ky),some (.ref c3),some (.ref ev),v,none,none,none,none,none,none,none,none,none] /\ X ev=some (.lst (nL (pcs.take i).flatten)) /\ Same He X) ⟨ev,_,rfl,ho,.refl _⟩ (λi σ X _ ⟨_,_,_,_,e⟩=>SqL.of (e _ _ (se _ _ b4))) ?_ ?_
 .rintro i x σ X hx ⟨ev,v,rfl,f6,sX⟩
  have hi:=(yAO.mp hx).1
  rw [yAA] at hi
  rw [yAM,yAF hi] at hx
  cases hx
  have hi2:i < pcs.length:=by rw [<- a7.len];exact hi
  have gn:=sX _ _ (se _ _ (a7.at' i _ _ (yAF hi) (yAF hi2)))
  have gj:=eh (i+1)
  have et:(pcs.take (i+1)).flatten=(pcs.take i).flatten++pcs[i]:=by rw [yCH,yAF hi2,yCG];simp
  rw [et,yAC] at gj
  walk_at "rd"
  refine ⟨ev,_,_,_,rfl,rfl,f6,gn,ZAW (by rw [yAA,yAA];omega),λl3 ef=>?_⟩
  exact ⟨l3,_,rfl,by rw [ZAE,et];unfold nL;rw [yAK],sX.new ef⟩
 rintro σ Hf ⟨ev,v,rfl,d5,sF⟩
 rw [yAA,a7.len,yBL (yAB _)] at d5
 walk_at "rd"
 refine ZAX ?_
 walk_at "rd"
 have co:=eh pcs.length
 rw [yBL (yAB _)] at co
 refine ⟨ev,pcs.flatten.map λ(x:Nat)=>(x:Int),rfl,SqL.of (by rw [d5,ZEa]),by rw [yAA];omega,λao es dt c6 bg=>?_⟩
 obtain ⟨Hg,eg,sg,ej⟩:=newH dt (.lst (es.map V.int))
 rw [eg];clear eg
 have b3:es.length=tot pcs:=by rw [c6.length_eq,yAA,yCM];rfl
 walk_at "rd"
 have Sg:Same H Hg:=fe.trans (sD.trans (se.trans (sF.trans sg)))
 have b2:Same Hd Hg:=se.trans (sF.trans sg)
 refine ZAX ?_
 walk_at "rd"
 refine ⟨a,ns,1,rfl,Sg.seq hS,by decide,?_⟩
 walk_at "rd"
 generalize cellOf ns 1=mx
 refine ZAX ?_
 walk_at "rd"
 refine ⟨yAJ _,λlg hlg=>?_⟩
 obtain ⟨HR,eR,sR,dc⟩:=newH hlg (.lst [])
 rw [eR];clear eR
 have cw:=sR _ _ (b2 _ _ (sD _ _ ba))
 refine ZAX ?_
 walk_at "rd"
 refine compE_of (SqL.of cw) (by rw [yAA];omega) (λi ys σ H'=>∃ v w,σ=[v,w] /\ Same HR H' /\ ys.length=i /\ ∀ (j:Nat) k,j < i->ks[j]?=some k->∃ r,ys[j]?=some (V.ref r) /\ H' r=some (.tup [.int k,.int j])) ⟨_,_,rfl,.refl _,rfl,λ_ _ h=>by omega⟩ (λi ys σ H' _ ⟨_,_,_,s,l,_⟩=>⟨SqL.of (s _ _ cw),yCO l⟩) ?_ ?_
 .rintro i ys x σ H' p hi hx ⟨v,w,rfl,s3,hl,c5⟩ hp
  obtain ⟨k,hk,rfl⟩:=ZCO hx
  walk_at "rd"
  refine ZEk (SqT.of ZAE) rfl ?_
  walk_at "rd"
  refine ⟨ZAW (by decide),λt ht=>?_⟩
  refine Nxt.of hi ⟨_,_,rfl,(s3.new hp).new ht,by rw [yAC,hl];rfl,λj k' hj ea=>?_⟩
  by_cases z:j < i
  .obtain ⟨r,a1,a2⟩:=c5 j k' z ea
   exact ⟨r,by rw [yBB (by omega)];exact a1,ZAM ht _ _ _ (ZAM hp _ _ _ a2)⟩
  .have:j=i:=by omega
   subst this
   rw [hk] at ea;cases ea
   exact ⟨t,by rw [<- hl,yAT (yAB _),yBG];rfl,ZAE⟩
 rintro xs σ H3 ⟨v,w,rfl,s3,g9,c5⟩ xl f2
 rw [yAA] at g9 c5
 obtain ⟨H4a,e4,c2,gq⟩:=newH f2 (.lst xs)
 rw [e4];clear e4
 have ek:Same H H4a:=Sg.trans (sR.trans (s3.trans c2))
 refine ⟨a,ns,mx,rfl,ek.seq hS,bv,λbl H4 bs br ew fn i0 iw=>?_⟩
 have S4:Same H H4:=ek.trans br
 have em:Same HR H4:=s3.trans (c2.trans br)
 have a5:H4 Pt_teller=some (.tbl #[]):=S4 _ _ (hT _ yAD)
 have cr:TabSt H4 Pt_teller (ZEO ZAT) "_law_teller.<locals>._law_teller_here":=.inl a5
 have cc:=em _ _ dc
 have h4:=br _ _ gq
 have dy:bl≠lg:=Ne.symm (ZAD ((s3.trans c2) _ _ dc) ew)
 have f4:0 < bs.length /\ bs.length <= 1000:=⟨i0,by omega⟩
 have cn:Things H4 ks xs:=⟨g9,λi k hk=>by
  have hi:=(yAO.mp hk).1
  obtain ⟨r,a1,a2⟩:=c5 i k (by omega) hk
  exact ⟨r,a1,br _ _ (c2 _ _ a2)⟩⟩
 clear a5
 obtain ⟨ik,a5⟩:∃ t,H4 Pt_teller=some (.tbl t):=by
  rcases cr with h | ⟨c',h,_⟩ <;> exact ⟨_,h⟩
 refine ⟨rfl,cr,λg H5 md=>?_⟩
 have nP:∀ b o,H4 b=some o->(∀ t,o≠.tbl t)->b≠Pt_teller:=λb o h n z=>by rw [z,a5] at h;exact n _ (Option.some.inj h).symm
 intro ru dr di g6 gh
 have d2:upd H5 dr (.own ru) ru=none:=by rw [ZAJ (Ne.symm gh)];exact di
 have s6:Same H5 (upd (upd H5 dr (.own ru)) ru (.ins Cb dr [])):=(ZAM g6 _).trans (ZAM d2 _)
 refine ⟨ru,dr,g,rfl,ZAE,λH7 k7 ir=>⟨rfl,?_⟩⟩
 have aa:∀ b o,H5 b=some o->H7 b=some o:=λb o h=>k7 b o (ZAD h di) (s6 _ _ h)
 intro ak da ah ei i3
 have d4:upd H7 da (.own ak) ak=none:=by rw [ZAJ (Ne.symm i3)];exact ah
 have s8:Same H7 (upd (upd H7 da (.own ak)) ak (.ins Ca da [])):=(ZAM ei _).trans (ZAM d4 _)
 have d1:∃ t,H5 Pt_teller=some (.tbl t):=by
  rcases md.tab with h | ⟨c',h,_⟩
  .exact ⟨_,h⟩
  .exact ⟨_,h⟩
 have u7:∀ b o,H4 b=some o->(∀ t,o≠.tbl t)->H7 b=some o:=λb o h n=>aa _ _ (md.same b o (nP b o h n) h)
 have d0:=u7 xl _ h4 λ_ z=>by cases z
 refine ⟨ak,da,xl,ru,.non,xs,rfl,ZAE,s8 _ _ d0,λrl tl HA k9 fm bw gv ia eb ep=>⟨rfl,?_⟩⟩
 have u9:∀ b o,H7 b=some o->HA b=some o:=λb o h=>k9 b o (ZAD h ah) (s8 _ _ h)
 have av:=u7 lg _ cc λ_ z=>by cases z
 have dg:upd (upd H7 da (.own ak)) ak (.ins Ca da []) ak=some (.ins Ca da []):=ZAE
 obtain ⟨iu,ie,er,_,_⟩:=ir.ex
 have a9:ru≠ak:=ZAD er ah
 have cm:=ZBw (S:=[ak]) (λb o n h=>k9 b o (λz=>n (by rw [z];exact yAD)) (s8 _ _ h)) (λz=>a9 (yAH.mp z)) ir
 have cp:=md.clo.mono (H':=HA) λb o h=>u9 _ _ (aa _ _ h)
 have ck:∀ (i:Nat) k,ks[i]?=some k->∃ r,xs[i]?=some (V.ref r) /\ HA r=some (.tup [.int k,.int i]):=λi k hk=>by
  obtain ⟨r,a1,a2⟩:=cn.2 i k hk
  exact ⟨r,a1,u9 _ _ (u7 _ _ a2 λ_ z=>by cases z)⟩
 have aq:=u7 bl _ fn λ_ z=>by cases z
 have fy:bl∉[ak,lg,tl]:=ZFp (ZAD aq ah) dy (ZAD (s8 _ _ aq) bw)
 have st:SitR Ca Cb HA ⟨ks,xs,ak,rl,ru,tl,g,lg,bl,bs⟩ []:=⟨ia,eb,cm,cp,u9 _ _ aq,f4,cn.1,ck,⟨[],u9 _ _ av,rfl,λj p q b h=>by simp at h⟩,⟨[],ep,rfl,λj p q b h=>by simp at h⟩,ZAD (s8 _ _ av) bw,ZFp (Ne.symm (ZAD dg fm)) (Ne.symm (ZAD (s8 _ _ av) fm)) gv,a9,fy⟩
 have f9:∀ b o,b≠Pt_teller->H4 b=some o->HA b=some o /\ (b≠lg->b∉[ak,lg,tl]):=λb o n h=>by
  have h7:=aa _ _ (md.same b o n h)
  exact ⟨u9 _ _ h7,λnl=>ZFp (ZAD h7 ah) nl (ZAD (s8 _ _ h7) bw)⟩
 have iv:TabSt HA Pt_teller (ZEO ZAT) "_law_teller.<locals>._law_teller_here":=by
  rcases md.tab with h | ⟨c',h,hc⟩
  .exact .inl (u9 _ _ (aa _ _ h))
  .exact .inr ⟨c',u9 _ _ (aa _ _ h),hc.mono λb o hb=>u9 _ _ (aa _ _ hb)⟩
 have il:Pt_teller∉[ak,lg,tl]:=by
  obtain ⟨t,ht⟩:=d1
  exact ZFp (ZAD (aa _ _ ht) ah) (λz=>by rw [z,cc] at a5;cases a5) (ZAD (s8 _ _ (aa _ _ ht)) bw)
 obtain ⟨c,rfl,rfl,rfl,rfl,rfl,rfl,rfl,rfl,rfl,rfl,st⟩:∃ c:Ad,c.ks=ks /\ c.xs=xs /\ c.a=ak /\ c.rl=rl /\ c.ru=ru /\ c.tl=tl /\ c.g=g /\ c.lg=lg /\ c.bl=bl /\ c.bs=bs /\ SitR Ca Cb HA c []:=⟨⟨ks,xs,ak,rl,ru,tl,g,lg,bl,bs⟩,rfl,rfl,rfl,rfl,rfl,rfl,rfl,rfl,rfl,rfl,st⟩
 have kA:∀ b l,Hg b=some (.lst l)->HA b=some (.lst l) /\ b∉c.S:=λb l h=>by
  have h4:=em _ _ (sR _ _ h)
  obtain ⟨a1,a2⟩:=f9 b _ (nP b _ h4 λ_ z=>by cases z) h4
  exact ⟨a1,a2 (ZAD h hlg)⟩
 have am:=kA c3 _ (b2 _ _ b4)
 have O:=kA ao _ ej
 have bf:=kA ky _ (b2 _ _ (sD _ _ ba))
 have cq:∀ b∈hls,∃ l,HA b=some (.lst l) /\ b∉c.S:=λb hb=>by
  obtain ⟨z,hz⟩:=a7.ex hb
  exact ⟨z,kA b z (b2 _ _ hz)⟩
 have au:PL HA hls pcs:=⟨a7.len,λi l ys h1 h2=>(kA l _ (b2 _ _ (a7.at' i l ys h1 h2))).1⟩
 have fv:∀ b∈hls,b∉c.S:=λb hb=>let ⟨_,_,n⟩:=cq b hb;n
 have a4:=am.1
 have bi:=am.2
 clear u7 u9 k9 k7 aa md s8 s6 nP d1 d0 av aq fy er dg a9 ia eb ep di d2 ah d4 g6 ei f9 cm cp ck am cq kA
 have hn:c.n <= 119:=ez
 have eo:=au.len
 refine ZAX ?_
 walk_at "rd"
 refine ⟨c3,_,rfl,.inl (SqL.of a4),?_⟩
 rw [yAA,eo]
 refine ⟨_,_,rfl,?_⟩
 rw [ZF0,show max (0:Int) (pcs.length-1)=((pcs.length-1:Nat):Int) by omega]
 obtain ⟨e,he⟩:∃ e,e=btN (pcs.length-1):=⟨_,rfl⟩
 have g0:pcs.length <= 2 ^ e:=by have:=btN_lt (pcs.length-1);rw [<- he] at this;omega
 have h0:pcs.flatten.length <= 119:=co
 have e8:(pcs.flatten.map λ(x:Nat)=>(x:Int)).Perm es:=c6.symm
 have wA:=ZFA (Wa.wp c.an (wlkP_al (pr:=[]) (D:=41) (by omega) (ZFz e7 bm []) (by simp;omega))) (λe he=>by cases he)
 unfold wlkP at wA
 replace wA:=wA.bind
 refine ZAX ?_
 walk_at "rd"
 refine ZA8 (SqL.of a4) (by rw [yAA];omega) (λi ys σ H'=>∃ v ns,σ=[v] /\ Same HA H' /\ ys=ns.map V.ref /\ ns.length=i /\ (∀ (j:Nat) l zs,ns[j]?=some l->pcs[j]?=some zs->H' l=some (.lst (nL zs))) /\ ∀ l∈ns,HA l=none /\ ∃ z,H' l=some (.lst z)) ⟨_,[],rfl,.refl _,rfl,rfl,λj l zs h=>by simp at h,λl h=>by cases h⟩ (λi ys σ H' _ ⟨_,ns,_,e,e2,e3,_⟩=>⟨SqL.of (e _ _ a4),by rw [e2,yAA];omega⟩) ?_ ?_
 .rintro i ys u σ H' hi hu ⟨v,ns,rfl,sA,rfl,b8,ae,bc⟩
  rw [yAA] at hi
  have hi2:i < pcs.length:=by omega
  obtain ⟨zs,ag⟩:∃ zs,pcs[i]?=some zs:=⟨_,yAF hi2⟩
  rw [yAM,yAF hi] at hu
  cases hu
  have ay:=sA _ _ (au.at' i _ zs (yAF hi) ag)
  walk_at "rd"
  refine ⟨_,_,rfl,.inl (SqL.of ay),λl' U=>?_⟩
  refine Nxt.of (by rw [yAA];exact hi) ⟨_,ns++[l'],rfl,sA.new U,by rw [yAK];rfl,by rw [yAC,b8];rfl,λj l b5 h1 h2=>?_,λl h=>?_⟩
  .by_cases z:j < ns.length
   .rw [yBB z] at h1
    exact ZAM U _ _ _ (ae j l b5 h1 h2)
   .rw [yAT (by omega)] at h1
    cases hk:j-ns.length with
    | zero=>
     rw [hk] at h1
     cases h1
     rw [show j=i by omega,ag] at h2
     cases h2
     exact ZAE
    | succ m=>rw [hk] at h1;simp at h1
  .rcases yAY.mp h with h | h
   .obtain ⟨a1,z,a2⟩:=bc l h
    exact ⟨a1,z,ZAM U _ _ _ a2⟩
   .rw [yAH.mp h];exact ⟨sA.free U,_,ZAE⟩
 rintro ys σ i9 ⟨v,ae,rfl,g1,rfl,b8,du,gd⟩ gg el
 rw [yAA] at b8
 obtain ⟨a6,cd,cb,en⟩:=newH el (.lst (ae.map V.ref))
 rw [cd];clear cd
 have bd:=g1.trans cb
 have ap:PL a6 ae pcs:=⟨by omega,λj l zs h1 h2=>cb _ _ (du j l zs h1 h2)⟩
 intro po dp bx ed fw
 have cg:upd a6 dp (.own po) po=none:=by rw [ZAJ (Ne.symm fw)];exact bx
 have bh:Same a6 (upd (upd a6 dp (.own po)) po (.ins Cc dp [])):=(ZAM ed _).trans (ZAM cg _)
 have e6:(upd (upd a6 dp (.own po)) po (.ins Cc dp [])) po=some (.ins Cc dp []):=ZAE
 generalize upd (upd a6 dp (.own po)) po (.ins Cc dp [])=H16 at bh e6 ⊢
 have bp:=bd.trans bh
 have cy:=st.mono bp
 have dh:po∉c.A:=(st.mono bd).off bx
 refine ⟨c,[],po,dp,gg,ae,pcs,_,rfl,e6,cy,bh _ _ en,ap.len,λj l zs h1 h2=>bh _ _ (ap.at' j l zs h1 h2),by omega,dh,by omega,wA,λpr' z=>?_,λpl tk ml wd pls w1 H17 kvs pr1 ga pa dw fg a0 c9 bz=>⟨rfl,?_⟩⟩
 .obtain ⟨_,⟨y1,y2,e1,_⟩,_⟩:=z
  cases e1
 have a3:∀ b,H16 b=none->HA b=none:=λb h=>bp.free h
 have px:PX c po pl tk ml pls:=⟨dh,st.off (a3 _ a0.1),st.off (a3 _ a0.2.1),st.off (a3 _ a0.2.2.1),λl h=>st.off (a3 _ (a0.2.2.2.2 l h))⟩
 have fk:=a3 _ a0.2.1
 have dq:HA po=none:=bd.free bx
 have bj:∀ b o,b∉c.S->HA b=some o->H17 b=some o:=λb o n h=>ga b o (ZAD h dq) n (bp _ _ h)
 have bz:Wp c.n c.an (ZDi pcs (tot pcs) (List.replicate pcs.length 0) w1 []) pr1 _:=bz
 walk_at "rd"
 refine ⟨ao,_,rfl,.inl (SqL.of (bj _ _ O.2 O.1)),rfl,_,rfl,rfl,?_⟩
 rw [yAA,b3,show Builtin.Int.intBits (((pcs.length-1:Nat)):Int)=e by rw [he];rfl]
 refine ⟨c,pr1,po,pl,tk,ml,wd,pls,pcs,w1,kvs,tot pcs,e,_,rfl,c9,pa,px,dw,fg,by omega,by omega,rfl,by omega,g0,bz,λpr' z=>?_,λos w' pr' z=>?_,λod HX os w' bu fX gx d9 Y gu=>?_⟩
 .obtain ⟨_,⟨y1,y2,e1,_⟩,_⟩:=z
  cases e1
 .obtain ⟨_,⟨y1,y2,e1,_,h3,_⟩,_⟩:=z
  cases e1
  exact h3
 obtain ⟨gm,⟨y1,y2,e1,d3,_,_,cx⟩,_⟩:=gu
 cases e1
 have kX:∀ b o,b∉c.S->HA b=some o->HX b=some o:=λb o n h=>fX _ _ (λz=>by
  rcases yAI.mp z with z | z
  .exact ZAD h dq z
  rcases yAI.mp z with z | z
  .exact ZAD h fk z
  .exact n z) (bj b o n h)
 have cx:bu.length <= 5000:=by simp at cx;omega
 clear bx ed fw cg bh e6 bp cy a0 a3 px fk dq bj bz fX pa dw fg c9 ga dh
 refine ZAX ?_
 walk_at "rd"
 rw [if_neg (λz=>by cases z)]
 refine ⟨od,ao,os,es,rfl,d9,kX _ _ O.2 O.1,(d3.map _).trans e8,bg,by rw [d3.length_eq];omega,λHB sB=>ZBV ?_⟩
 rw [if_neg (by decide)]
 have kB:∀ b o,b∉c.S->HA b=some o->HB b=some o:=λb o n h=>sB _ _ (kX b o n h)
 have e9:=Y.mono sB
 have b7:=kB _ _ bi a4
 have cz:=au.frk kB fv
 clear kX Y sB d9 gx
 refine ZAX ?_
 walk_at "rd"
 obtain ⟨it,f8,fj⟩:=e9.hlg
 refine ⟨c.lg,_,rfl,.inl (SqL.of f8),?_⟩
 rw [fj.len]
 walk_at "rd"
 have wB:=(ZFA (Wa.wp c.an (pouredP_al (Z:=False) (D:=41) (pr:=bu) (by omega) (ZFz e7 bm bu) (by omega))) gm).ct (pouredP_ct g0)
 refine ZAX ?_
 walk_at "rd"
 refine ZA8 (SqL.of b7) (by rw [yAA];omega) (λi ys σ H'=>∃ v ns,σ=[v] /\ Same HB H' /\ ys=ns.map V.ref /\ ns.length=i /\ (∀ (j:Nat) l zs,ns[j]?=some l->pcs[j]?=some zs->H' l=some (.lst (nL zs))) /\ ∀ l∈ns,HB l=none /\ ∃ z,H' l=some (.lst z)) ⟨_,[],rfl,.refl _,rfl,rfl,λj l zs h=>by simp at h,λl h=>by cases h⟩ (λi ys σ H' _ ⟨_,ns,_,e,e2,e3,_⟩=>⟨SqL.of (e _ _ b7),by rw [e2,yAA];omega⟩) ?_ ?_
 .rintro i ys u σ H' hi hu ⟨v,ns,rfl,sA,rfl,b9,ad,bc⟩
  rw [yAA] at hi
  have hi2:i < pcs.length:=by omega
  obtain ⟨zs,ag⟩:∃ zs,pcs[i]?=some zs:=⟨_,yAF hi2⟩
  rw [yAM,yAF hi] at hu
  cases hu
  have ay:=sA _ _ (cz.at' i _ zs (yAF hi) ag)
  walk_at "rd"
  refine ⟨_,_,rfl,.inl (SqL.of ay),λl' U=>?_⟩
  refine Nxt.of (by rw [yAA];exact hi) ⟨_,ns++[l'],rfl,sA.new U,by rw [yAK];rfl,by rw [yAC,b9];rfl,λj l b5 h1 h2=>?_,λl h=>?_⟩
  .by_cases z:j < ns.length
   .rw [yBB z] at h1
    exact ZAM U _ _ _ (ad j l b5 h1 h2)
   .rw [yAT (by omega)] at h1
    cases hk:j-ns.length with
    | zero=>
     rw [hk] at h1
     cases h1
     rw [show j=i by omega,ag] at h2
     cases h2
     exact ZAE
    | succ m=>rw [hk] at h1;simp at h1
  .rcases yAY.mp h with h | h
   .obtain ⟨a1,z,a2⟩:=bc l h
    exact ⟨a1,z,ZAM U _ _ _ a2⟩
   .rw [yAH.mp h];exact ⟨sA.free U,_,ZAE⟩
 rintro ys σ i6 ⟨v,ad,rfl,fi,rfl,b9,dk,ge⟩ h6 g2
 rw [yAA] at b9
 obtain ⟨fx,cf,cj,eq⟩:=newH g2 (.lst (ad.map V.ref))
 rw [cf];clear cf
 have d6:=fi.trans cj
 have c4:PL fx ad pcs:=⟨by omega,λj l zs h1 h2=>cj _ _ (dk j l zs h1 h2)⟩
 refine ⟨c,bu,h6,ad,pcs,_,rfl,e9.mono d6,eq,c4,by omega,by omega,by omega,wB,λpr' z=>?_,λpd HX h9 bo fX hy ce Y ic gk=>?_⟩
 .obtain ⟨_,_,⟨y1,e1,_⟩,_⟩:=z
  cases e1
 obtain ⟨⟨k2,dz,ay⟩,hh,⟨y1,e1,cu,_,_,fc⟩,_⟩:=gk
 cases e1
 have kX:∀ b o,b∉c.S->HA b=some o->HX b=some o:=λb o n h=>fX _ _ n (d6 _ _ (kB b o n h))
 have fc:bo.length <= 10000:=by omega
 refine ZAX ?_
 walk_at "rd"
 refine ⟨pd,ao,h9,es,rfl,ce,kX _ _ O.2 O.1,(cu.map _).trans e8,bg,by rw [cu.length_eq];omega,λHC sC=>ZBV ?_⟩
 rw [if_neg (by decide)]
 have kC:∀ b o,b∉c.S->HA b=some o->HC b=some o:=λb o n h=>sC _ _ (kX b o n h)
 have e5:=Y.mono sC
 have be:=kC _ _ bi a4
 have df:=au.frk kC fv
 clear kX Y sC ce hy kB e9 b7 cz fX wB
 obtain ⟨im,c7,dd⟩:=e5.hlg
 refine ⟨c.lg,_,rfl,.inl (SqL.of c7),?_⟩
 rw [dd.len]
 refine ⟨ao,_,rfl,.inl (SqL.of (kC _ _ O.2 O.1)),rfl,_,rfl,rfl,?_⟩
 rw [yAA,b3,show Builtin.Int.intBits (((pcs.length-1:Nat)):Int)=e by rw [he];rfl]
 walk_at "rd"
 refine ⟨.inl ⟨by omega,by omega⟩,?_⟩
 have dz:k2 <= pcs.length-1+e * tot pcs:=dz
 have go:(tot pcs:Int) * (e:Nat)=((e * tot pcs:Nat):Int):=by rw [Int.natCast_mul,Int.mul_comm]
 rw [go]
 generalize e * tot pcs=pe at dz
 rw [if_neg (by omega)]
 refine ZAX ?_
 walk_at "rd"
 refine ⟨c.lg,_,rfl,.inl (SqL.of c7),?_⟩
 rw [dd.len]
 walk_at "rd"
 refine ZAX ?_
 walk_at "rd"
 refine ⟨⟨by decide,by decide⟩,by decide,?_⟩
 obtain ⟨d,hd,aw,ff⟩:∃ d:Nat,2+mx / 3 % 8=d /\ 2 <= d /\ d <= 9:=⟨(2+mx / 3 % 8).toNat,by omega,by omega,by omega⟩
 rw [hd]
 have wC:=(ZFA (Wa.wp c.an (ZC6 (Z:=False) aw ff pcs.length pcs [] bo (ZFz e7 bm bo) (by omega) (by omega) (by omega) (by omega))) hh).ct (roundsP_ct btN_lt aw pcs.length pcs [])
 refine ZAX ?_
 walk_at "rd"
 refine ZA8 (SqL.of be) (by rw [yAA];omega) (λi ys σ H'=>∃ v ns,σ=[v] /\ Same HC H' /\ ys=ns.map V.ref /\ ns.length=i /\ (∀ (j:Nat) l zs,ns[j]?=some l->pcs[j]?=some zs->H' l=some (.lst (nL zs))) /\ ∀ l∈ns,HC l=none /\ ∃ z,H' l=some (.lst z)) ⟨_,[],rfl,.refl _,rfl,rfl,λj l zs h=>by simp at h,λl h=>by cases h⟩ (λi ys σ H' _ ⟨_,ns,_,e,e2,e3,_⟩=>⟨SqL.of (e _ _ be),by rw [e2,yAA];omega⟩) ?_ ?_
 .rintro i ys u σ H' hi hu ⟨v,ns,rfl,sA,rfl,bb,af,bc⟩
  rw [yAA] at hi
  have hi2:i < pcs.length:=by omega
  obtain ⟨zs,ag⟩:∃ zs,pcs[i]?=some zs:=⟨_,yAF hi2⟩
  rw [yAM,yAF hi] at hu
  cases hu
  have ay:=sA _ _ (df.at' i _ zs (yAF hi) ag)
  walk_at "rd"
  refine ⟨_,_,rfl,.inl (SqL.of ay),λl' U=>?_⟩
  refine Nxt.of (by rw [yAA];exact hi) ⟨_,ns++[l'],rfl,sA.new U,by rw [yAK];rfl,by rw [yAC,bb];rfl,λj l b5 h1 h2=>?_,λl h=>?_⟩
  .by_cases z:j < ns.length
   .rw [yBB z] at h1
    exact ZAM U _ _ _ (af j l b5 h1 h2)
   .rw [yAT (by omega)] at h1
    cases hk:j-ns.length with
    | zero=>
     rw [hk] at h1
     cases h1
     rw [show j=i by omega,ag] at h2
     cases h2
     exact ZAE
    | succ m=>rw [hk] at h1;simp at h1
  .rcases yAY.mp h with h | h
   .obtain ⟨a1,z,a2⟩:=bc l h
    exact ⟨a1,z,ZAM U _ _ _ a2⟩
   .rw [yAH.mp h];exact ⟨sA.free U,_,ZAE⟩
 rintro ys σ i8 ⟨v,af,rfl,fh,rfl,bb,e0,gy⟩ gi eu
 rw [yAA] at bb
 obtain ⟨g3,ca,ch,fz⟩:=newH eu (.lst (af.map V.ref))
 rw [ca];clear ca
 have c8:=fh.trans ch
 have c0:PL g3 af pcs:=⟨by omega,λj l zs h1 h2=>ch _ _ (e0 j l zs h1 h2)⟩
 refine ⟨c,bo,gi,af,pcs,d,_,rfl,e5.mono c8,fz,c0,by omega,by omega,aw,by omega,by omega,wC,λpr' z=>?_,λt l nm HX r dj fX gt gl ih ey g8 ec Y eb i2=>?_⟩
 .obtain ⟨_,_,⟨y1,e1,_⟩,_⟩:=z
  cases e1
 obtain ⟨⟨k3,dl,ef⟩,hg,⟨y1,e1,ci,_,_,ft⟩,_⟩:=i2
 cases e1
 have kX:∀ b o,b∉c.S->HA b=some o->HX b=some o:=λb o n h=>fX _ _ n (c8 _ _ (kC b o n h))
 have ft:dj.length <= 100000:=by omega
 refine ZAX ?_
 walk_at "rd"
 refine ZAz (SqT.of ey) (ZAj (by decide) rfl) ?_
 refine ⟨l,ao,r.1,es,rfl,g8,kX _ _ O.2 O.1,(ci.map _).trans e8,bg,by rw [ci.length_eq];omega,λHD dv=>ZBV ?_⟩
 rw [if_neg (by decide)]
 have kD:∀ b o,b∉c.S->HA b=some o->HD b=some o:=λb o n h=>dv _ _ (kX b o n h)
 have fa:=Y.mono dv
 obtain ⟨ij,g7,gb⟩:=fa.hlg
 refine ⟨c.lg,_,rfl,.inl (SqL.of g7),?_⟩
 rw [gb.len]
 walk_at "rd"
 refine ⟨c3,_,rfl,.inl (SqL.of (kD _ _ bi a4)),?_⟩
 refine ⟨ao,_,rfl,.inl (SqL.of (kD _ _ O.2 O.1)),?_⟩
 rw [yAA,yAA,b3,eo]
 refine ⟨pcs.length,d,tot pcs,rfl,by omega,aw,by omega,by omega,?_⟩
 walk_at "rd"
 have dl:k3 <= rmost btN d (tot pcs) pcs.length pcs.length:=dl
 rw [if_neg (by omega)]
 clear kX Y dv g8 ey ec kC e5 be df fX wC dl
 refine ZAX ?_
 walk_at "rd"
 refine ⟨⟨by decide,by decide⟩,by decide,⟨by decide,by decide⟩,by decide,?_⟩
 obtain ⟨fq,f5,d7,g4⟩:∃ w:Nat,1+mx / 7 % 40=w /\ 0 < w /\ w <= 1000:=⟨(1+mx / 7 % 40).toNat,by omega,by omega,by omega⟩
 obtain ⟨ls,hls⟩:∃ w:Nat,1+mx / 24 % 12=w:=⟨(1+mx / 24 % 12).toNat,by omega⟩
 rw [f5,hls]
 have wD:=ZFA (Wa.wp c.an (byPcsP_al (G:=grd) (ls:=ls) (wd:=fq) (d:=d) (n:=c.n) (pr:=dj) d7 aw ff (by omega) (by omega))) hg
 refine ⟨c,dj,fq,d,ls,_,rfl,fa,d7,g4,aw,by omega,by omega,wD,λpr' z=>?_,λpp HX gw hq fX ig f7 Y h5=>?_⟩
 .obtain ⟨_,⟨y1,e1,_⟩,_⟩:=z
  cases e1
 obtain ⟨hf,⟨y1,e1,de,_,_,i5⟩,_⟩:=h5
 cases e1
 refine ZAX ?_
 walk_at "rd"
 have g5:=fX _ _ bf.2 (kD _ _ bf.2 bf.1)
 refine ⟨ky,_,rfl,.inl (SqL.of g5),?_⟩
 rw [yAA]
 refine ⟨_,rfl,λrg gp=>?_⟩
 obtain ⟨Z2,e2,gz,gf⟩:=newH gp (.rng 0 (c.ks.length:Int))
 rw [e2];clear e2
 refine ⟨rg,0,(c.ks.length:Int),rfl,gf,by omega,λr2 hs=>?_⟩
 obtain ⟨Z3,e3,hv,fu⟩:=newH hs (.lst ((ZDC 0 (c.ks.length:Int)).map V.int))
 rw [e3];clear e3
 have eR:(ZDC 0 (c.ks.length:Int)).map V.int=((List.range' 0 c.ks.length).map λ(x:Nat)=>(x:Int)).map V.int:=by
  have:=ZDU (lo:=0) (hi:=c.ks.length)
  rw [Nat.sub_zero,ZEa] at this
  exact this
 rw [eR] at fu
 have S3:=gz.trans hv
 refine ⟨pp,r2,gw,_,rfl,S3 _ _ f7,fu,de.map _,List.pairwise_map.mpr ((List.pairwise_lt_range' (s:=0) (n:=c.ks.length)).imp λh=>by omega),by rw [de.length_eq,yDB];omega,λHZ sZ=>ZBV ?_⟩
 rw [if_pos rfl]
 have SZ:=S3.trans sZ
 obtain ⟨h8,cv,db⟩:=(Y.mono SZ).hlg
 refine ⟨c.lg,h8,hq,rfl,cv,db,hf,ZBV ?_⟩
 rw [if_pos rfl]
 refine (Y.mono SZ).ha.get T.De T.Nu (by walk_at "lk") ⟨c.lg,_,rfl,.inl (SqL.of cv),?_⟩
 rw [db.len]
 walk_at "rd"
 exact q _
end
theorem all_mk {l:PySem.W.OpenLaw}{w:World}{K:W.Frag}{h:Heap}{mg:Str->Option Value}{fa C_zae ay a3 ag a8 a1 bc a7 C_zag ax a0 a4 ba aw af C_zaf a5 a6 bf b3 bd ah b1 b2 b0 C_zad ae ai aa C_zac a2 U ao cz d0 ep jl e8 gg d2 b5 e6 bz bo c0 d1 ek ec ea en j0 gd g8 ii bu er jr ew m2 lf dr fx:Addr}{c1 cu c3 c5 ap qv o5 f5:Tok}(X:K.In h)(G:h.Ns mainGlobals mg)(ry:mg "law"=some (.ref fa))
  {i2 e0 g5 ej d6 jh el hd d5 bj c7 de jk i3 gb db ef j9 gu jw fz h7 h9 i4 g1 g3 f9 d7 cb et kh kt m0 oi lq nq ke fq lh ht hf hx kx ld ln l9 m3 ny na n2 o8 h5 l8 p5 lb:FuncData} {q9 mh:Option Addr} {qp:Array (Option Value)} {q0 mu mq md iz mm:Value}
  {oc:Value} {p3:Option Addr} {mj:Array Value} {o2:Array (Option Value)}
  {ql r8:Option Addr} {re:Array (Option Value)} {qo qn qi qk rg:Value}
  (oz:W.nsIn K mainGlobals "Join"=some (some (.ref C_zae)))
  (qf:PySem.W.plainGet K C_zae Str.empty=true)
  (ph:PySem.W.hasDictIn K C_zae=true)
  (q6:PySem.W.plainOver K C_zae=true)
  (rh:W.findIn K (.ref C_zae) "__setattr__"=some (some (.builtin "object.__setattr__")))
  (r9:PySem.W.makesIn K C_zae=true)
  (qy:W.keepIn K (.ref C_zae)=true)
  (jv:W.findIn K (.ref C_zae) "asker"=some none)
  (iy:W.findIn K (.ref C_zae) "sides"=some none)
  (jq:W.findIn K (.ref C_zae) "taken"=some none)
  (hv:W.findIn K (.ref C_zae) "places"=some none)
  (im:W.findIn K (.ref C_zae) "__init__"=some (some (.ref ay)))
  (k2:PySem.W.isFn K (.ref ay)=true)
  (dd:Fun K "__init__" "Join.__init__" ZCf ay i2)
  (qu:W.keepIn K (.ref ay)=true)
  (eb:W.findIn K (.ref C_zae) "has_more"=some (some (.ref a3)))
  (ei:PySem.W.isFn K (.ref a3)=true)
  (bm:Fun K "has_more" "Join.has_more" ZBe a3 e0)
  (ee:W.keepIn K (.ref a3)=true)
  (gx:W.findIn K (.ref C_zae) "front"=some (some (.ref ag)))
  (hh:PySem.W.isFn K (.ref ag)=true)
  (cn:Fun K "front" "Join.front" ZCH ag g5)
  (ho:W.keepIn K (.ref ag)=true)
  (ft:W.findIn K (.ref C_zae) "take_on"=some (some (.ref a8)))
  (f8:PySem.W.isFn K (.ref a8)=true)
  (c4:Fun K "take_on" "Join.take_on" ZBs a8 ej)
  (fv:W.keepIn K (.ref a8)=true)
  (dm:W.findIn K (.ref C_zae) "take_rest"=some (some (.ref a1)))
  (di:PySem.W.isFn K (.ref a1)=true)
  (be:Fun K "take_rest" "Join.take_rest" ZBT a1 d6)
  (da:W.keepIn K (.ref a1)=true)
  (ki:W.findIn K (.ref C_zae) "win"=some (some (.ref bc)))
  (k9:PySem.W.isFn K (.ref bc)=true)
  (ez:Fun K "win" "Join.win" ZC5 bc jh)
  (kk:W.keepIn K (.ref bc)=true)
  (fn:W.findIn K (.ref C_zae) "leap_on"=some (some (.ref a7)))
  (fi:PySem.W.isFn K (.ref a7)=true)
  (c6:Fun K "leap_on" "Join.leap_on" ZBt a7 el)
  (fj:W.keepIn K (.ref a7)=true)
  (o0:W.nsIn K mainGlobals "Pile"=some (some (.ref C_zag)))
  (r3:PySem.W.plainGet K C_zag Str.empty=true)
  (pp:PySem.W.hasDictIn K C_zag=true)
  (px:PySem.W.plainOver K C_zag=true)
  (rc:W.findIn K (.ref C_zag) "__setattr__"=some (some (.builtin "object.__setattr__")))
  (qg:PySem.W.makesIn K C_zag=true)
  (rf:W.keepIn K (.ref C_zag)=true)
  (j1:W.findIn K (.ref C_zag) "asker"=some none)
  (io:W.findIn K (.ref C_zag) "least"=some none)
  (k3:W.findIn K (.ref C_zag) "start"=some none)
  (m6:W.findIn K (.ref C_zag) "end"=some none)
  (gj:W.findIn K (.ref C_zag) "reached"=some none)
  (h8:W.findIn K (.ref C_zag) "firsts"=some none)
  (gw:W.findIn K (.ref C_zag) "orders"=some none)
  (hs:W.findIn K (.ref C_zag) "grades"=some none)
  (j8:W.findIn K (.ref C_zag) "__init__"=some (some (.ref ax)))
  (k1:PySem.W.isFn K (.ref ax)=true)
  (az:FunD K "__init__" "Pile.__init__" ZCe ax hd [.int 1 c1,.none])
  (r1:W.keepIn K (.ref ax)=true)
  (dh:W.findIn K (.ref C_zag) "beyond_of"=some (some (.ref a0)))
  (dz:PySem.W.isFn K (.ref a0)=true)
  (b7:Fun K "beyond_of" "Pile.beyond_of" ZBS a0 d5)
  (d9:W.keepIn K (.ref a0)=true)
  (bv:W.findIn K (.ref C_zag) "is_due_beneath"=some (some (.ref f)))
  (bp:PySem.W.isFn K (.ref f)=true)
  (ab:Fun K "is_due_beneath" "Pile.is_due_beneath" ZA0 f bj)
  (bw:W.keepIn K (.ref f)=true)
  (cc:W.findIn K (.ref C_zag) "grade_on_top"=some (some (.ref a)))
  (cg:PySem.W.isFn K (.ref a)=true)
  (aj:Fun K "grade_on_top" "Pile.grade_on_top" ZA9 a c7)
  (ch:W.keepIn K (.ref a)=true)
  (eh:W.findIn K (.ref C_zag) "join_two"=some (some (.ref a4)))
  (e2:PySem.W.isFn K (.ref a4)=true)
  (bi:Fun K "join_two" "Pile.join_two" ZBd a4 de)
  (eg:W.keepIn K (.ref a4)=true)
  (kq:W.findIn K (.ref C_zag) "lay"=some (some (.ref ba)))
  (l2:PySem.W.isFn K (.ref ba)=true)
  (f2:Fun K "lay" "Pile.lay" ZC4 ba jk)
  (kp:W.keepIn K (.ref ba)=true)
  (iv:W.findIn K (.ref C_zag) "step"=some (some (.ref aw)))
  (jb:PySem.W.isFn K (.ref aw)=true)
  (dj:Fun K "step" "Pile.step" ZCd aw i3)
  (ji:W.keepIn K (.ref aw)=true)
  (hy:W.findIn K (.ref C_zag) "paper"=some (some (.ref af)))
  (gz:PySem.W.isFn K (.ref af)=true)
  (cq:Fun K "paper" "Pile.paper" ZCG af gb)
  (h3:W.keepIn K (.ref af)=true)
  (p0:W.nsIn K mainGlobals "Pour"=some (some (.ref C_zaf)))
  (qb:PySem.W.plainGet K C_zaf Str.empty=true)
  (pb:PySem.W.hasDictIn K C_zaf=true)
  (r0:PySem.W.plainOver K C_zaf=true)
  (qh:W.findIn K (.ref C_zaf) "__setattr__"=some (some (.builtin "object.__setattr__")))
  (pw:PySem.W.makesIn K C_zaf=true)
  (q2:W.keepIn K (.ref C_zaf)=true)
  (ix:W.findIn K (.ref C_zaf) "asker"=some none)
  (hr:W.findIn K (.ref C_zaf) "pieces"=some none)
  (j6:W.findIn K (.ref C_zaf) "taken"=some none)
  (fm:W.findIn K (.ref C_zaf) "meetings"=some none)
  (gh:W.findIn K (.ref C_zaf) "went_on"=some none)
  (e7:W.findIn K (.ref C_zaf) "front_of"=some (some (.ref a5)))
  (e5:PySem.W.isFn K (.ref a5)=true)
  (bh:Fun K "front_of" "Pour.front_of" ZBc a5 db)
  (e3:W.keepIn K (.ref a5)=true)
  (fc:W.findIn K (.ref C_zaf) "goes_on"=some (some (.ref a6)))
  (f6:PySem.W.isFn K (.ref a6)=true)
  (c2:Fun K "goes_on" "Pour.goes_on" ZBr a6 ef)
  (fu:W.keepIn K (.ref a6)=true)
  (kr:W.findIn K (.ref C_zaf) "met"=some (some (.ref bf)))
  (kj:PySem.W.isFn K (.ref bf)=true)
  (ey:Fun K "met" "Pour.met" ZC3 bf j9)
  (kd:W.keepIn K (.ref bf)=true)
  (jf:W.findIn K (.ref C_zaf) "held"=some (some (.ref b3)))
  (il:PySem.W.isFn K (.ref b3)=true)
  (dc:Fun K "held" "Pour.held" ZCc b3 gu)
  (ij:W.keepIn K (.ref b3)=true)
  (kc:W.findIn K (.ref C_zaf) "top"=some (some (.ref bd)))
  (l0:PySem.W.isFn K (.ref bd)=true)
  (f3:Fun K "top" "Pour.top" ZC2 bd jw)
  (ka:W.keepIn K (.ref bd)=true)
  (gy:W.findIn K (.ref C_zaf) "first"=some (some (.ref ah)))
  (h6:PySem.W.isFn K (.ref ah)=true)
  (cw:Fun K "first" "Pour.first" ZCF ah fz)
  (go:W.keepIn K (.ref ah)=true)
  (jy:W.findIn K (.ref C_zaf) "left"=some (some (.ref b1)))
  (ik:PySem.W.isFn K (.ref b1)=true)
  (dp:Fun K "left" "Pour.left" ZCa b1 h7)
  (jd:W.keepIn K (.ref b1)=true)
  (ju:W.findIn K (.ref C_zaf) "__init__"=some (some (.ref b2)))
  (jo:PySem.W.isFn K (.ref b2)=true)
  (dt:Fun K "__init__" "Pour.__init__" ZCb b2 h9)
  (pg:W.keepIn K (.ref b2)=true)
  (jm:W.findIn K (.ref C_zaf) "take"=some (some (.ref b0)))
  (j2:PySem.W.isFn K (.ref b0)=true)
  (dq:Fun K "take" "Pour.take" ZCZ b0 i4)
  (j3:W.keepIn K (.ref b0)=true)
  (oh:W.nsIn K mainGlobals "Asker"=some (some (.ref C_zad)))
  (r7:PySem.W.plainGet K C_zad Str.empty=true)
  (q8:PySem.W.hasDictIn K C_zad=true)
  (qc:PySem.W.plainOver K C_zad=true)
  (q1:W.findIn K (.ref C_zad) "__setattr__"=some (some (.builtin "object.__setattr__")))
  (qx:PySem.W.makesIn K C_zad=true)
  (qs:W.keepIn K (.ref C_zad)=true)
  (lv:W.findIn K (.ref C_zad) "row"=some none)
  (l5:W.findIn K (.ref C_zad) "rule"=some none)
  (kv:W.findIn K (.ref C_zad) "most"=some none)
  (k6:W.findIn K (.ref C_zad) "asked"=some none)
  (l4:W.findIn K (.ref C_zad) "told"=some none)
  (gq:W.findIn K (.ref C_zad) "__init__"=some (some (.ref ae)))
  (i0:PySem.W.isFn K (.ref ae)=true)
  (bg:FunD K "__init__" "Asker.__init__" ZCJ ae g1 [.none])
  (p8:W.keepIn K (.ref ae)=true)
  (hq:W.findIn K (.ref C_zad) "many"=some (some (.ref ai)))
  (he:PySem.W.isFn K (.ref ai)=true)
  (cr:Fun K "many" "Asker.many" ZCI ai g3)
  (gp:W.keepIn K (.ref ai)=true)
  (gl:W.findIn K (.ref C_zad) "ahead"=some (some (.ref aa)))
  (gc:PySem.W.isFn K (.ref aa)=true)
  (ce:Fun K "ahead" "Asker.ahead" ZB1 aa f9)
  (g7:W.keepIn K (.ref aa)=true)
  (p7:W.nsIn K mainGlobals "AskedRule"=some (some (.ref C_zac)))
  (pu:PySem.W.plainGet K C_zac Str.empty=true)
  (r4:PySem.W.hasDictIn K C_zac=true)
  (pd:PySem.W.plainOver K C_zac=true)
  (qa:W.findIn K (.ref C_zac) "__setattr__"=some (some (.builtin "object.__setattr__")))
  (pq:PySem.W.makesIn K C_zac=true)
  (pa:W.keepIn K (.ref C_zac)=true)
  (hb:W.findIn K (.ref C_zac) "teller"=some none)
  (du:W.findIn K (.ref C_zac) "__init__"=some (some (.ref a2)))
  (dl:PySem.W.isFn K (.ref a2)=true)
  (b9:Fun K "__init__" "AskedRule.__init__" ZBU a2 d7)
  (mf:W.keepIn K (.ref a2)=true)
  (cj:W.findIn K (.ref C_zac) "before"=some (some (.ref U)))
  (ck:PySem.W.isFn K (.ref U)=true)
  (au:Fun K "before" "AskedRule.before" ZBE U cb)
  (cm:W.keepIn K (.ref U)=true)
  (f4:W.nsIn K mainGlobals "stretch_from"=some (some (.ref ao)))
  (aq:FunD K "stretch_from" "stretch_from" ZBq ao et [.none])
  (fe:W.keepIn K (.ref ao)=true)
  (m1:W.nsIn K mainGlobals "in_turn"=some (some (.ref cz)))
  (g0:Fun K "in_turn" "in_turn" ZDR cz kh)
  (m9:W.keepIn K (.ref cz)=true)
  (lm:W.nsIn K mainGlobals "spot_of"=some (some (.ref d0)))
  (g6:Fun K "spot_of" "spot_of" ZDQ d0 kt)
  (lj:W.keepIn K (.ref d0)=true)
  (nl:W.nsIn K mainGlobals "filled"=some (some (.ref ep)))
  (eo:FunD K "filled" "filled" ZD2 ep m0 [.none])
  (nj:W.keepIn K (.ref ep)=true)
  (r2:W.nsIn K mainGlobals "leap"=some (some (.ref jl)))
  (me:Fun K "leap" "leap" ZFH jl oi)
  (r6:W.keepIn K (.ref jl)=true)
  (nu:W.nsIn K mainGlobals "joined"=some (some (.ref e8)))
  (i8:Fun K "joined" "joined" ZD1 e8 lq)
  (n4:W.keepIn K (.ref e8)=true)
  (ou:W.nsIn K mainGlobals "grade"=some (some (.ref gg)))
  (l6:Fun K "grade" "grade" ZEV gg nq)
  (o3:W.keepIn K (.ref gg)=true)
  (m8:W.nsIn K mainGlobals "by_pile"=some (some (.ref d2)))
  (bq:FunD K "by_pile" "by_pile" ZDT d2 ke [.int 1 cu,.none])
  (m7:W.keepIn K (.ref d2)=true)
  (gm:W.nsIn K mainGlobals "meetings_of"=some (some (.ref b5)))
  (c9:Fun K "meetings_of" "meetings_of" ZB0 b5 fq)
  (ge:W.keepIn K (.ref b5)=true)
  (ni:W.nsIn K mainGlobals "poured"=some (some (.ref e6)))
  (i6:Fun K "poured" "poured" ZDy e6 lh)
  (nd:W.keepIn K (.ref e6)=true)
  (ir:W.nsIn K mainGlobals "one_round"=some (some (.ref bz)))
  (dw:Fun K "one_round" "one_round" ZCV bz ht)
  (iu:W.keepIn K (.ref bz)=true)
  (iw:W.nsIn K mainGlobals "in_rounds"=some (some (.ref bo)))
  (bt:FunD K "in_rounds" "in_rounds" ZCW bo hf [.int 2 c3])
  (jt:W.keepIn K (.ref bo)=true)
  (ja:W.nsIn K mainGlobals "by_pieces"=some (some (.ref c0)))
  (av:FunD K "by_pieces" "by_pieces" ZCY c0 hx [.int 2 c5,.int 1 ap])
  (jj:W.keepIn K (.ref c0)=true)
  (m5:W.nsIn K mainGlobals "_law_cell_at"=some (some (.ref d1)))
  (gi:Fun K "_law_cell_at" "_law_cell_at" ZDS d1 kx)
  (m4:W.keepIn K (.ref d1)=true)
  (nh:W.nsIn K mainGlobals "_law_stream"=some (some (.ref ek)))
  (i7:Fun K "_law_stream" "_law_stream" ZDx ek ld)
  (mx:W.keepIn K (.ref ek)=true)
  (n3:W.nsIn K mainGlobals "_law_digits"=some (some (.ref ec)))
  (ic:Fun K "_law_digits" "_law_digits" ZD3 ec ln)
  (mw:W.keepIn K (.ref ec)=true)
  (mv:W.nsIn K mainGlobals "_law_blocks"=some (some (.ref ea)))
  (ie:Fun K "_law_blocks" "_law_blocks" ZD4 ea l9)
  (n5:W.keepIn K (.ref ea)=true)
  (no:W.nsIn K mainGlobals "_law_nearly"=some (some (.ref en)))
  (ia:Fun K "_law_nearly" "_law_nearly" ZDz en m3)
  (nw:W.keepIn K (.ref en)=true)
  (qe:W.nsIn K mainGlobals "_law_keys"=some (some (.ref j0)))
  (mb:Fun K "_law_keys" "_law_keys" ZFI j0 ny)
  (pn:W.keepIn K (.ref j0)=true)
  (op:W.nsIn K mainGlobals "_law_whole"=some (some (.ref gd)))
  (kl:Fun K "_law_whole" "_law_whole" ZEU gd na)
  (nz:W.keepIn K (.ref gd)=true)
  (ow:W.nsIn K mainGlobals "_law_dealt"=some (some (.ref g8)))
  (kb:Fun K "_law_dealt" "_law_dealt" ZEW g8 n2)
  (p1:W.keepIn K (.ref g8)=true)
  (q5:W.nsIn K mainGlobals "_law_bits"=some (some (.ref ii)))
  (mo:Fun K "_law_bits" "_law_bits" ZFJ ii o8)
  (r5:W.keepIn K (.ref ii)=true)
  (j7:W.nsIn K mainGlobals "_law_each_once"=some (some (.ref bu)))
  (d8:Fun K "_law_each_once" "_law_each_once" ZCX bu h5)
  (jc:W.keepIn K (.ref bu)=true)
  (n7:W.nsIn K mainGlobals "_law_turned"=some (some (.ref er)))
  (i9:Fun K "_law_turned" "_law_turned" ZDw er l8)
  (my:W.keepIn K (.ref er)=true)
  (qz:W.nsIn K mainGlobals "_law_most"=some (some (.ref jr)))
  (mn:Fun K "_law_most" "_law_most" ZFG jr p5)
  (pj:W.keepIn K (.ref jr)=true)
  (nf:W.nsIn K mainGlobals "_law_walked"=some (some (.ref ew)))
  (i5:Fun K "_law_walked" "_law_walked" ZDv ew lb)
  (n1:W.keepIn K (.ref ew)=true)
  (rr:W.nsIn K mainGlobals "law"=some (some (.ref m2)))
  (rm:K.lookup m2=some ⟨q0,q9,.func (W.fnOf "law" "law" (ZA1 ZD0) (ZAs ZD0) (ZAG ZD0) .none mu mq md mh iz mm),qp⟩)
  (ro:W.codeIn K iz "law"=true)
  (rp:W.keepIn K (.ref m2)=true)
  (ov:W.nsIn K mainGlobals "_law_teller"=some (some (.ref lf)))
  (oy:K.lookup lf=some ⟨qo,ql,.func (W.fnOf "_law_teller" "_law_teller" (ZA1 ZBz) (ZAs ZBz) (ZAG ZBz) .none qn qi qk r8 (.ref dr) rg),re⟩)
  (rk:W.codeIn K (.ref dr) "_law_teller"=true)
  (q3:K.lookup dr=some ⟨oc,p3,.fields mj,o2⟩)
  (rb:mj[11]?=some (.ref fx))
  (oe:W.keepIn K (.ref lf)=true)
  (qj:W.nsIn K mainGlobals "LEFT"=some (some (.int 0 qv)))
  (oq:W.nsIn K mainGlobals "RIGHT"=some (some (.int 1 o5)))
  (fh:W.nsIn K mainGlobals "WINS_TO_LEAP"=some (some (.int 4 f5)))
  (rt:W.nsIn K mainGlobals "len"=some none)
  (oo:W.nsIn K mainGlobals "range"=some none)
  (q7:W.nsIn K mainGlobals "list"=some none)
  (gv:W.nsIn K mainGlobals "isinstance"=some none)
  (py:W.nsIn K mainGlobals "bool"=some none)
  (rn:W.nsIn K mainGlobals "int"=some none)
  (rv:W.nsIn K mainGlobals "max"=some none)
  (rj:W.nsIn K mainGlobals "min"=some none)
  (rq:W.nsIn K mainGlobals "sum"=some none)
  (mz:W.nsIn K mainGlobals "sorted"=some none)
  (kw:W.nsIn K mainGlobals "reversed"=some none)
  (ih:W.nsIn K mainGlobals "enumerate"=some none)
  (qq:W.nsIn K mainGlobals "dict"=some none)
  (hp:W.nsIn K mainGlobals "ValueError"=some none)
  (hk:PySem.W.kitOne K (.type "int") (.type "bool")=some false)
  (nt:PySem.W.noTabs K=true) :
  ∃ (tabs:List (Addr×Addr)) (fd:FuncData),PySem.W.noTabs K=true /\ (∀ t∈tabs,∃ y∈(["_law_teller"]:List Str),PySem.W.tabIn K y=some t) /\ (∀ (s:Shared) (v:Value),BindsTo s fd ⟨[v],[]⟩ [("_law_script",v)]) /\ ∀ base:Heap,K.In base->base.Ns mainGlobals mg->(∀ t∈tabs,PySem.W.CodeHd base t.1 t.2)->ZER mg base->FnOk l.prog w K mg base CX0 16 fa fd ["_law_script"] (ZFF K tabs):=by
 have e:=ry.symm.trans (PySem.W.mg_of X G rr)
 cases e
 have bx:Cls K C_zae:=⟨qf,ph,q6,rh⟩
 have k4:=dd.binds (ps:=["self","asker","left","right"]) λ_ _ _ _ _ _ us hl=>by obtain ⟨_,_,_,_,rfl⟩:=us4 hl;rfl
 have e9:=bm.binds (ps:=["self","side"]) λ_ _ _ _ _ _ us hl=>by obtain ⟨_,_,rfl⟩:=us2 hl;rfl
 have h4:=cn.binds (ps:=["self","side"]) λ_ _ _ _ _ _ us hl=>by obtain ⟨_,_,rfl⟩:=us2 hl;rfl
 have ff:=c4.binds (ps:=["self","side","more"]) λ_ _ _ _ _ _ us hl=>by obtain ⟨_,_,_,rfl⟩:=us3 hl;rfl
 have dv:=be.binds (ps:=["self","side"]) λ_ _ _ _ _ _ us hl=>by obtain ⟨_,_,rfl⟩:=us2 hl;rfl
 have kz:=ez.binds (ps:=["self"]) λ_ _ _ _ _ _ us hl=>by obtain ⟨_,rfl⟩:=us1 hl;rfl
 have fk:=c6.binds (ps:=["self","side"]) λ_ _ _ _ _ _ us hl=>by obtain ⟨_,_,rfl⟩:=us2 hl;rfl
 have bb:Cls K C_zag:=⟨r3,pp,px,rc⟩
 have fy:=az.binds (ps:=["self","asker","least","part"]) (ds:=[]) λ_ _ _ _ _ _ _ us hl=>by obtain ⟨_,_,_,_,rfl⟩:=us4 (ZBO (n:=4) hl rfl);exact ⟨_,rfl,rfl⟩
 have on:=az.binds (ps:=["self","asker","least","part"]) (ds:=[.none]) λ_ _ _ _ _ _ _ us hl=>by obtain ⟨_,_,_,rfl⟩:=us3 (ZBO (n:=3) hl rfl);exact ⟨_,rfl,rfl⟩
 have ot:=az.binds (ps:=["self","asker","least","part"]) (ds:=[.int 1 c1,.none]) λ_ _ _ _ _ _ _ us hl=>by obtain ⟨_,_,rfl⟩:=us2 (ZBO (n:=2) hl rfl);exact ⟨_,rfl,rfl⟩
 have e1:=b7.binds (ps:=["self","number"]) λ_ _ _ _ _ _ us hl=>by obtain ⟨_,_,rfl⟩:=us2 hl;rfl
 have br:=ab.binds (ps:=["self"]) λ_ _ _ _ _ _ us hl=>by obtain ⟨_,rfl⟩:=us1 hl;rfl
 have ca:=aj.binds (ps:=["self","middle","beyond"]) λ_ _ _ _ _ _ us hl=>by obtain ⟨_,_,_,rfl⟩:=us3 hl;rfl
 have em:=bi.binds (ps:=["self","lower"]) λ_ _ _ _ _ _ us hl=>by obtain ⟨_,_,rfl⟩:=us2 hl;rfl
 have kf:=f2.binds (ps:=["self"]) λ_ _ _ _ _ _ us hl=>by obtain ⟨_,rfl⟩:=us1 hl;rfl
 have k7:=dj.binds (ps:=["self"]) λ_ _ _ _ _ _ us hl=>by obtain ⟨_,rfl⟩:=us1 hl;rfl
 have i1:=cq.binds (ps:=["self"]) λ_ _ _ _ _ _ us hl=>by obtain ⟨_,rfl⟩:=us1 hl;rfl
 have b4:Cls K C_zaf:=⟨qb,pb,r0,qh⟩
 have eq:=bh.binds (ps:=["self","piece","taken"]) λ_ _ _ _ _ _ us hl=>by obtain ⟨_,_,_,rfl⟩:=us3 hl;rfl
 have fg:=c2.binds (ps:=["self","p","q"]) λ_ _ _ _ _ _ us hl=>by obtain ⟨_,_,_,rfl⟩:=us3 hl;rfl
 have km:=ey.binds (ps:=["self","one","other"]) λ_ _ _ _ _ _ us hl=>by obtain ⟨_,_,_,rfl⟩:=us3 hl;rfl
 have k8:=dc.binds (ps:=["self","meetings","went_on"]) λ_ _ _ _ _ _ us hl=>by obtain ⟨_,_,_,rfl⟩:=us3 hl;rfl
 have ku:=f3.binds (ps:=["self"]) λ_ _ _ _ _ _ us hl=>by obtain ⟨_,rfl⟩:=us1 hl;rfl
 have hu:=cw.binds (ps:=["self"]) λ_ _ _ _ _ _ us hl=>by obtain ⟨_,rfl⟩:=us1 hl;rfl
 have jx:=dp.binds (ps:=["self"]) λ_ _ _ _ _ _ us hl=>by obtain ⟨_,rfl⟩:=us1 hl;rfl
 have ig:=dt.binds (ps:=["self","asker","pieces"]) λ_ _ _ _ _ _ us hl=>by obtain ⟨_,_,_,rfl⟩:=us3 hl;rfl
 have jz:=dq.binds (ps:=["self"]) λ_ _ _ _ _ _ us hl=>by obtain ⟨_,rfl⟩:=us1 hl;rfl
 have jg:Cls K C_zad:=⟨r7,q8,qc,q1⟩
 have nx:=bg.binds (ps:=["self","row","rule","most"]) (ds:=[]) λ_ _ _ _ _ _ _ us hl=>by obtain ⟨_,_,_,_,rfl⟩:=us4 (ZBO (n:=4) hl rfl);exact ⟨_,rfl,rfl⟩
 have fw:=bg.binds (ps:=["self","row","rule","most"]) (ds:=[.none]) λ_ _ _ _ _ _ _ us hl=>by obtain ⟨_,_,_,rfl⟩:=us3 (ZBO (n:=3) hl rfl);exact ⟨_,rfl,rfl⟩
 have hg:=cr.binds (ps:=["self"]) λ_ _ _ _ _ _ us hl=>by obtain ⟨_,rfl⟩:=us1 hl;rfl
 have g9:=ce.binds (ps:=["self","p","q"]) λ_ _ _ _ _ _ us hl=>by obtain ⟨_,_,_,rfl⟩:=us3 hl;rfl
 have mc:Cls K C_zac:=⟨pu,r4,pd,qa⟩
 have dg:=b9.binds (ps:=["self","teller"]) λ_ _ _ _ _ _ us hl=>by obtain ⟨_,_,rfl⟩:=us2 hl;rfl
 have ci:=au.binds (ps:=["self","x","y"]) λ_ _ _ _ _ _ us hl=>by obtain ⟨_,_,_,rfl⟩:=us3 hl;rfl
 have dk:=aq.binds (ps:=["asker","first","end"]) (ds:=[]) λ_ _ _ _ _ _ _ us hl=>by obtain ⟨_,_,_,rfl⟩:=us3 (ZBO (n:=3) hl rfl);exact ⟨_,rfl,rfl⟩
 have mr:=aq.binds (ps:=["asker","first","end"]) (ds:=[.none]) λ_ _ _ _ _ _ _ us hl=>by obtain ⟨_,_,rfl⟩:=us2 (ZBO (n:=2) hl rfl);exact ⟨_,rfl,rfl⟩
 have ll:=g0.binds (ps:=["first","beyond","falling"]) λ_ _ _ _ _ _ us hl=>by obtain ⟨_,_,_,rfl⟩:=us3 hl;rfl
 have ly:=g6.binds (ps:=["asker","order","place"]) λ_ _ _ _ _ _ us hl=>by obtain ⟨_,_,_,rfl⟩:=us3 hl;rfl
 have ko:=eo.binds (ps:=["asker","first","least","end"]) (ds:=[]) λ_ _ _ _ _ _ _ us hl=>by obtain ⟨_,_,_,_,rfl⟩:=us4 (ZBO (n:=4) hl rfl);exact ⟨_,rfl,rfl⟩
 have ri:=eo.binds (ps:=["asker","first","least","end"]) (ds:=[.none]) λ_ _ _ _ _ _ _ us hl=>by obtain ⟨_,_,_,rfl⟩:=us3 (ZBO (n:=3) hl rfl);exact ⟨_,rfl,rfl⟩
 have qw:=me.binds (ps:=["asker","order","first","place"]) λ_ _ _ _ _ _ us hl=>by obtain ⟨_,_,_,_,rfl⟩:=us4 hl;rfl
 have n9:=i8.binds (ps:=["asker","left","right"]) λ_ _ _ _ _ _ us hl=>by obtain ⟨_,_,_,rfl⟩:=us3 hl;rfl
 have oj:=l6.binds (ps:=["many","first","middle","beyond"]) λ_ _ _ _ _ _ us hl=>by obtain ⟨_,_,_,_,rfl⟩:=us4 hl;rfl
 have j5:=bq.binds (ps:=["asker","least","part"]) (ds:=[]) λ_ _ _ _ _ _ _ us hl=>by obtain ⟨_,_,_,rfl⟩:=us3 (ZBO (n:=3) hl rfl);exact ⟨_,rfl,rfl⟩
 have p9:=bq.binds (ps:=["asker","least","part"]) (ds:=[.none]) λ_ _ _ _ _ _ _ us hl=>by obtain ⟨_,_,rfl⟩:=us2 (ZBO (n:=2) hl rfl);exact ⟨_,rfl,rfl⟩
 have pi:=bq.binds (ps:=["asker","least","part"]) (ds:=[.int 1 cu,.none]) λ_ _ _ _ _ _ _ us hl=>by obtain ⟨_,rfl⟩:=us1 (ZBO (n:=1) hl rfl);exact ⟨_,rfl,rfl⟩
 have g2:=c9.binds (ps:=["first","beyond"]) λ_ _ _ _ _ _ us hl=>by obtain ⟨_,_,rfl⟩:=us2 hl;rfl
 have nv:=i6.binds (ps:=["asker","pieces"]) λ_ _ _ _ _ _ us hl=>by obtain ⟨_,_,rfl⟩:=us2 hl;rfl
 have jp:=dw.binds (ps:=["asker","pieces","mouths"]) λ_ _ _ _ _ _ us hl=>by obtain ⟨_,_,_,rfl⟩:=us3 hl;rfl
 have gn:=bt.binds (ps:=["asker","pieces","mouths"]) (ds:=[]) λ_ _ _ _ _ _ _ us hl=>by obtain ⟨_,_,_,rfl⟩:=us3 (ZBO (n:=3) hl rfl);exact ⟨_,rfl,rfl⟩
 have p6:=bt.binds (ps:=["asker","pieces","mouths"]) (ds:=[.int 2 c3]) λ_ _ _ _ _ _ _ us hl=>by obtain ⟨_,_,rfl⟩:=us2 (ZBO (n:=2) hl rfl);exact ⟨_,rfl,rfl⟩
 have gf:=av.binds (ps:=["asker","wide","mouths","least"]) (ds:=[]) λ_ _ _ _ _ _ _ us hl=>by obtain ⟨_,_,_,_,rfl⟩:=us4 (ZBO (n:=4) hl rfl);exact ⟨_,rfl,rfl⟩
 have o4:=av.binds (ps:=["asker","wide","mouths","least"]) (ds:=[.int 1 ap]) λ_ _ _ _ _ _ _ us hl=>by obtain ⟨_,_,_,rfl⟩:=us3 (ZBO (n:=3) hl rfl);exact ⟨_,rfl,rfl⟩
 have o1:=av.binds (ps:=["asker","wide","mouths","least"]) (ds:=[.int 2 c5,.int 1 ap]) λ_ _ _ _ _ _ _ us hl=>by obtain ⟨_,_,rfl⟩:=us2 (ZBO (n:=2) hl rfl);exact ⟨_,rfl,rfl⟩
 have li:=gi.binds (ps:=["_law_script","_law_k"]) λ_ _ _ _ _ _ us hl=>by obtain ⟨_,_,rfl⟩:=us2 hl;rfl
 have n6:=i7.binds (ps:=["_law_cell","_law_many"]) λ_ _ _ _ _ _ us hl=>by obtain ⟨_,_,rfl⟩:=us2 hl;rfl
 have nn:=ic.binds (ps:=["_law_script","_law_k","_law_base"]) λ_ _ _ _ _ _ us hl=>by obtain ⟨_,_,_,rfl⟩:=us3 hl;rfl
 have np:=ie.binds (ps:=["_law_keys_here","_law_cell"]) λ_ _ _ _ _ _ us hl=>by obtain ⟨_,_,rfl⟩:=us2 hl;rfl
 have nb:=ia.binds (ps:=["_law_keys_here","_law_cell"]) λ_ _ _ _ _ _ us hl=>by obtain ⟨_,_,rfl⟩:=us2 hl;rfl
 have qr:=mb.binds (ps:=["_law_script","_law_most_here"]) λ_ _ _ _ _ _ us hl=>by obtain ⟨_,_,rfl⟩:=us2 hl;rfl
 have ob:=kl.binds (ps:=["_law_found"]) λ_ _ _ _ _ _ us hl=>by obtain ⟨_,rfl⟩:=us1 hl;rfl
 have o9:=kb.binds (ps:=["_law_keys_here","_law_script"]) λ_ _ _ _ _ _ us hl=>by obtain ⟨_,_,rfl⟩:=us2 hl;rfl
 have pm:=mo.binds (ps:=["_law_script","_law_mix"]) λ_ _ _ _ _ _ us hl=>by obtain ⟨_,_,rfl⟩:=us2 hl;rfl
 have it:=d8.binds (ps:=["_law_order","_law_every"]) λ_ _ _ _ _ _ us hl=>by obtain ⟨_,_,rfl⟩:=us2 hl;rfl
 have ng:=i9.binds (ps:=["_law_log"]) λ_ _ _ _ _ _ us hl=>by obtain ⟨_,rfl⟩:=us1 hl;rfl
 have pe:=mn.binds (ps:=["_law_many","_law_mouths","_law_places"]) λ_ _ _ _ _ _ us hl=>by obtain ⟨_,_,_,rfl⟩:=us3 hl;rfl
 have nk:=i5.binds (ps:=["_law_pour","_law_many","_law_log","_law_most_here"]) λ_ _ _ _ _ _ us hl=>by obtain ⟨_,_,_,_,rfl⟩:=us4 hl;rfl
 have ox:=ZAZ (st:=ZD0) rm ro rp
 have rz:=ox.binds (ps:=["_law_script"]) λ_ _ _ _ _ _ us hl=>by obtain ⟨_,rfl⟩:=us1 hl;rfl
 have o7:=ZAZ (st:=ZBz) oy rk oe
 have rx:=o7.binds (ps:=["_law_log","_law_bits_here"]) λ_ _ _ _ _ _ us hl=>by obtain ⟨_,_,rfl⟩:=us2 hl;rfl
 have T:Bt K mg C_zae C_zag C_zaf C_zad C_zac:=⟨PySem.W.mg_none_of X G rt,PySem.W.mg_none_of X G oo,PySem.W.mg_none_of X G q7,PySem.W.mg_none_of X G gv,PySem.W.mg_none_of X G py,PySem.W.mg_none_of X G rn,PySem.W.mg_none_of X G rv,PySem.W.mg_none_of X G rj,PySem.W.mg_none_of X G rq,PySem.W.mg_none_of X G mz,PySem.W.mg_none_of X G kw,PySem.W.mg_none_of X G ih,PySem.W.mg_none_of X G qq,PySem.W.mg_none_of X G hp,⟨_,PySem.W.mg_of X G qj⟩,⟨_,PySem.W.mg_of X G oq⟩,⟨_,PySem.W.mg_of X G fh⟩,PySem.W.mg_of X G oz,bx,jv,iy,jq,hv,PySem.W.mg_of X G o0,bb,j1,io,k3,m6,gj,h8,gw,hs,PySem.W.mg_of X G p0,b4,ix,hr,j6,fm,gh,PySem.W.mg_of X G oh,jg,lv,l5,kv,k6,l4,PySem.W.mg_of X G p7,mc,hb,hk⟩
 refine ⟨[(dr,fx)],W.fnOf "law" "law" (ZA1 ZD0) (ZAs ZD0) (ZAG ZD0) .none mu mq md mh iz mm,nt,List.forall_mem_cons.mpr ⟨⟨"_law_teller",by simp,tabIn_of ov oy rfl q3 rb⟩,λ_ h=>nomatch h⟩,λs v=>.of_eq rfl,λbase _ _ hC hB=>?_⟩
 have am:Fn l.prog w K mg base CX0 "_law_cell_at" 1 ["_law_script","_law_k"] (spCell K):=⟨_,_,Ol gi T ,li,m4,PySem.W.mg_of X G m5⟩
 have ac:Fn l.prog w K mg base CX0 "_law_stream" 1 ["_law_cell","_law_many"] (spStream):=⟨_,_,Ou i7 T ,n6,mx,PySem.W.mg_of X G nh⟩
 have lu:Fn l.prog w K mg base CX0 "_law_blocks" 2 ["_law_keys_here","_law_cell"] (spBlocks):=⟨_,_,On ie T ac,np,n5,PySem.W.mg_of X G mv⟩
 have lr:Fn l.prog w K mg base CX0 "_law_nearly" 2 ["_law_keys_here","_law_cell"] (spBlocks):=⟨_,_,Oaj ia T ac,nb,nw,PySem.W.mg_of X G no⟩
 have cy:Fn l.prog w K mg base CX0 "_law_digits" 2 ["_law_script","_law_k","_law_base"] (spDigits K):=⟨_,_,Oas ic T ac am,nn,mw,PySem.W.mg_of X G n3⟩
 have o6:Fn l.prog w K mg base CX0 "_law_keys" 3 ["_law_script","_law_most_here"] (spKeys K):=⟨_,_,Od mb T am lu lr cy ac,qr,pn,PySem.W.mg_of X G qe⟩
 have nr:Fn l.prog w K mg base CX0 "_law_dealt" 3 ["_law_keys_here","_law_script"] (spDealt62 K):=⟨_,_,Oar kb T am cy ac,o9,p1,PySem.W.mg_of X G ow⟩
 have df:Mt l.prog w K mg base CX0 C_zaf "top" 1 ["self"] (spTop C_zaf):=⟨b4,_,_,Oy f3 T ,ku,kc,l0,ka⟩
 have g4:Mt l.prog w K mg base CX0 C_zaf "first" 2 ["self"] (spFirst C_zaf):=⟨b4,_,_,Oad cw T df,hu,gy,h6,go⟩
 have b6:Mt l.prog w K mg base CX0 C_zaf "front_of" 1 ["self","piece","taken"] (spFrontOf C_zaf):=⟨b4,_,_,O5 bh T ,eq,e7,e5,e3⟩
 have j4:CloOk l.prog w K mg base 1 (ZBF):=clo_teller T
 have cf:Mt l.prog w K mg base CX0 C_zac "before" 2 ["self","x","y"] (spBefore C_zac ZBF):=⟨mc,_,_,Og au T j4,ci,cj,ck,cm⟩
 have Y:Mt l.prog w K mg base CX0 C_zad "ahead" 3 ["self","p","q"] (spAhead C_zad C_zac ZBF):=⟨jg,_,_,Op ce T cf,g9,gl,gc,g7⟩
 have ed:Mt l.prog w K mg base CX0 C_zaf "goes_on" 4 ["self","p","q"] (spGoesOnW C_zad C_zac C_zaf):=⟨b4,_,_,Ot c2 T Y,fg,fc,f6,fu⟩
 have je:Mt l.prog w K mg base CX0 C_zaf "met" 5 ["self","one","other"] (spMetW C_zad C_zac C_zaf):=⟨b4,_,_,Oak ey T ed,km,kr,kj,kd⟩
 have cv:Mt l.prog w K mg base CX0 C_zaf "held" 6 ["self","meetings","went_on"] (spHeldW C_zad C_zac C_zaf):=⟨b4,_,_,Oh dc T je,k8,jf,il,ij⟩
 have co:Mt l.prog w K mg base CX0 C_zaf "take" 7 ["self"] (spTakeW C_zad C_zac C_zaf):=⟨b4,_,_,Oaq dq T df b6 cv,jz,jm,j2,j3⟩
 have cp:Mt l.prog w K mg base CX0 C_zaf "left" 1 ["self"] (spLeft C_zaf):=⟨b4,_,_,O8 dp T ,jx,jy,ik,jd⟩
 have lz:Fn l.prog w K mg base CX0 "_law_walked" 8 ["_law_pour","_law_many","_law_log","_law_most_here"] (spWalk68 C_zad C_zac C_zaf):=⟨_,_,O3 i5 T g4 co cp,nk,n1,PySem.W.mg_of X G nf⟩
 have f7:Fn l.prog w K mg base CX0 "meetings_of" 9 ["first","beyond"] (spMeetings 9):=rec_fn (sp:=spMeetings) (λ_ _ _ _ z=>spMeetings_no z) g2 ge (PySem.W.mg_of X G gm) (λn h=>Oav c9 T h) 9
 have mi:Kl l.prog w K mg base CX0 "Pour" C_zaf 10 ["self","asker","pieces"] (spPourInitW C_zad C_zac C_zaf):=⟨PySem.W.mg_of X G p0,_,_,Oan dt T f7 cv b6,ig,pw,ju,jo,q2⟩
 have ga:Fn l.prog w K mg base CX0 "poured" 12 ["asker","pieces"] (spPouredW C_zad C_zac):=⟨_,_,Oac i6 T co cp mi,nv,nd,PySem.W.mg_of X G ni⟩
 have hz:Fn l.prog w K mg base CX0 "one_round" 13 ["asker","pieces","mouths"] (spOneRoundW C_zad C_zac):=⟨_,_,Oab dw T ga,jp,iu,PySem.W.mg_of X G ir⟩
 have cx:Fn l.prog w K mg base CX0 "in_rounds" 14 ["asker","pieces","mouths"] (spInRoundsW C_zad C_zac):=⟨_,_,Oap bt T hz,gn,jt,PySem.W.mg_of X G iw⟩
 have gk:Mt l.prog w K mg base CX0 C_zag "paper" 1 ["self"] (spPaper C_zag):=⟨bb,_,_,Oo cq T ,i1,hy,gz,h3⟩
 have bn:Mt l.prog w K mg base CX0 C_zag "is_due_beneath" 1 ["self"] (spDue C_zag):=⟨bb,_,_,O6 ab T ,br,bv,bp,bw⟩
 have ad:Mt l.prog w K mg base CX0 C_zae "take_on" 1 ["self","side","more"] (spTakeOn C_zae):=⟨bx,_,_,O0 c4 T ,ff,ft,f8,fv⟩
 have d4:Mt l.prog w K mg base CX0 C_zae "take_rest" 2 ["self","side"] (spTakeRest C_zae):=⟨bx,_,_,Oaw be T ad,dv,dm,di,da⟩
 have b8:Mt l.prog w K mg base CX0 C_zae "has_more" 1 ["self","side"] (spHasMore C_zae):=⟨bx,_,_,Oj bm T ,e9,eb,ei,ee⟩
 have cd:Mt l.prog w K mg base CX0 C_zae "front" 1 ["self","side"] (spFront C_zae):=⟨bx,_,_,O9 cn T ,h4,gx,hh,ho⟩
 have k5:Mt l.prog w K mg base CX0 C_zae "win" 4 ["self"] (spWinW C_zad C_zac C_zae):=⟨bx,_,_,Oaf ez T ad Y cd,kz,ki,k9,kk⟩
 have p4:Fn l.prog w K mg base CX0 "leap" 4 ["asker","order","first","place"] (spLeapW C_zad C_zac):=⟨_,_,Oah me T Y,qw,r6,PySem.W.mg_of X G r2⟩
 have e4:Mt l.prog w K mg base CX0 C_zae "leap_on" 5 ["self","side"] (spLeapOnW C_zad C_zac C_zae):=⟨bx,_,_,Ow c6 T p4 ad b8 cd,fk,fn,fi,fj⟩
 have qm:Kl l.prog w K mg base CX0 "Join" C_zae 1 ["self","asker","left","right"] (spJInit C_zae):=⟨PySem.W.mg_of X G oz,_,_,Oae dd T ,k4,r9,im,k2,qy⟩
 have lp:Fn l.prog w K mg base CX0 "joined" 6 ["asker","left","right"] (spJoinedW C_zad C_zac):=⟨_,_,Of i8 T d4 b8 k5 e4 qm,n9,n4,PySem.W.mg_of X G nu⟩
 have d3:Mt l.prog w K mg base CX0 C_zag "beyond_of" 1 ["self","number"] (spBeyondOf C_zag):=⟨bb,_,_,Ox b7 T ,e1,dh,dz,d9⟩
 have dy:Mt l.prog w K mg base CX0 C_zag "join_two" 7 ["self","lower"] (spJoinTwoW C_zad C_zac C_zag):=⟨bb,_,_,O2 bi T lp d3,em,eh,e2,eg⟩
 have a9:Mt l.prog w K mg base CX0 C_zad "many" 1 ["self"] (spMany C_zad):=⟨jg,_,_,Oe cr T ,hg,hq,he,gp⟩
 have eu:Fn l.prog w K mg base CX0 "stretch_from" 4 ["asker","first","end"] (spStrW C_zad C_zac):=⟨_,_,Ov aq T Y a9,dk,fe,PySem.W.mg_of X G f4⟩
 have kg:Fn l.prog w K mg base CX0 "in_turn" 1 ["first","beyond","falling"] (spInTurn):=⟨_,_,Oc g0 T ,ll,m9,PySem.W.mg_of X G m1⟩
 have l7:Fn l.prog w K mg base CX0 "spot_of" 4 ["asker","order","place"] (spSpotW C_zad C_zac):=⟨_,_,Om g6 T Y,ly,lj,PySem.W.mg_of X G lm⟩
 have lw:Fn l.prog w K mg base CX0 "filled" 5 ["asker","first","least","end"] (spFillW C_zad C_zac):=⟨_,_,Oi eo T eu kg l7 a9,ko,nj,PySem.W.mg_of X G nl⟩
 have n0:Fn l.prog w K mg base CX0 "grade" 1 ["many","first","middle","beyond"] (spGrade):=⟨_,_,Oat l6 T ,oj,o3,PySem.W.mg_of X G ou⟩
 have c8:Mt l.prog w K mg base CX0 C_zag "grade_on_top" 2 ["self","middle","beyond"] (spOnTop C_zag):=⟨bb,_,_,Oau aj T n0,ca,cc,cg,ch⟩
 have k0:Mt l.prog w K mg base CX0 C_zag "lay" 6 ["self"] (spLayW C_zad C_zac C_zag):=⟨bb,_,_,Oz f2 T lw c8,kf,kq,l2,kp⟩
 have h0:Mt l.prog w K mg base CX0 C_zag "step" 8 ["self"] (spStepW C_zad C_zac C_zag):=⟨bb,_,_,Oa dj T bn dy k0,k7,iv,jb,ji⟩
 have q4:Kl l.prog w K mg base CX0 "Pile" C_zag 2 ["self","asker","least","part"] (spPileInit C_zad C_zag):=⟨PySem.W.mg_of X G o0,_,_,Os az T a9,fy,qg,j8,k1,rf⟩
 have l1:Fn l.prog w K mg base CX0 "by_pile" 9 ["asker","least","part"] (spByPileW C_zad C_zac):=⟨_,_,O4 bq T gk h0 q4,j5,m7,PySem.W.mg_of X G m8⟩
 have hj:Fn l.prog w K mg base CX0 "by_pieces" 15 ["asker","wide","mouths","least"] (spByPiecesW C_zad C_zac):=⟨_,_,Oaa av T l1 cx a9,gf,jj,PySem.W.mg_of X G ja⟩
 have nc:Fn l.prog w K mg base CX0 "_law_whole" 1 ["_law_found"] (spWhole):=⟨_,_,Oag kl T ,ob,nz,PySem.W.mg_of X G op⟩
 have gt:Fn l.prog w K mg base CX0 "_law_each_once" 2 ["_law_order","_law_every"] (spOnce68):=⟨_,_,Oal d8 T nc,it,jc,PySem.W.mg_of X G j7⟩
 have pf:Fn l.prog w K mg base CX0 "_law_teller" 1 ["_law_log","_law_bits_here"] (ZEo fx (ZEO ZAT) "_law_teller_here" "_law_teller.<locals>._law_teller_here" (ZA1 ZAT) (ZAs ZAT) (ZAG ZAT) ["_law_bits_here","_law_log"] [1,0] 2):=⟨_,_,Ob o7 rfl (hC (dr,fx) (by simp)) hB,rx,oe,PySem.W.mg_of X G ov⟩
 have om:Fn l.prog w K mg base CX0 "_law_most" 1 ["_law_many","_law_mouths","_law_places"] (spMost68):=⟨_,_,Oai mn T ,pe,pj,PySem.W.mg_of X G qz⟩
 have lc:Fn l.prog w K mg base CX0 "_law_turned" 1 ["_law_log"] (spTurned68):=⟨_,_,Oao i9 T ,ng,my,PySem.W.mg_of X G n7⟩
 have og:Fn l.prog w K mg base CX0 "_law_bits" 3 ["_law_script","_law_mix"] (spBits68 K):=⟨_,_,Oam mo T cy ac am,pm,r5,PySem.W.mg_of X G q5⟩
 have n8:KlD l.prog w K mg base CX0 "Asker" C_zad 1 ["self","row","rule","most"] (spAskerInit C_zad) [.non]:=⟨PySem.W.mg_of X G oh,_,_,_,Oq bg T ,fw,(.cons rfl .nil),qx,gq,i0,qs⟩
 have qd:Kl l.prog w K mg base CX0 "AskedRule" C_zac 1 ["self","teller"] (spRuleInit C_zac):=⟨PySem.W.mg_of X G p7,_,_,O7 b9 T ,dg,pq,du,dl,pa⟩
 exact O1 ox T o6 nr am lz ga cx hj gt pf om lc og n8 qd mi
end Law
open PySem PySem.W PyProof.Rows L2
set_option maxRecDepth 100000 in
set_option maxHeartbeats 0 in
theorem PySem.Challenge.cw_sorthall_k68_whole_whatever_is_told_holds : PySem.Challenge.rw_sorthall_k68_whole_whatever_is_told.Holds := by
 refine L2.hd0 ?_
 k_fill
 refine L2.walk_ofT2 (l:=PySem.Challenge.rw_sorthall_k68_whole_whatever_is_told) (k:=16) (x:="_law_script") (names:=["_law_teller"]) rfl rfl ⟨rfl,by decide,by decide,rfl⟩ (λw h Y=>PySem.W.km_in_of Y) (List.forall_mem_cons.mpr ⟨⟨_,rfl⟩,λ_ h=>nomatch h⟩) ?F
 case F=>
  intro w mg fa h KX G hmg
  refine' Law.all_mk KX G hmg ?_ ?_ ?_ ?_ ?_ ?_ ?_ ?_ ?_ ?_ ?_ ?_ ?_ ?_ ?_ ?_ ?_ ?_ ?_ ?_ ?_ ?_ ?_ ?_ ?_ ?_ ?_ ?_ ?_ ?_ ?_ ?_ ?_ ?_ ?_ ?_ ?_ ?_ ?_ ?_ ?_ ?_ ?_ ?_ ?_ ?_ ?_ ?_ ?_ ?_ ?_ ?_ ?_ ?_ ?_ ?_ ?_ ?_ ?_ ?_ ?_ ?_ ?_ ?_ ?_ ?_ ?_ ?_ ?_ ?_ ?_ ?_ ?_ ?_ ?_ ?_ ?_ ?_ ?_ ?_ ?_ ?_ ?_ ?_ ?_ ?_ ?_ ?_ ?_ ?_ ?_ ?_ ?_ ?_ ?_ ?_ ?_ ?_ ?_ ?_ ?_ ?_ ?_ ?_ ?_ ?_ ?_ ?_ ?_ ?_ ?_ ?_ ?_ ?_ ?_ ?_ ?_ ?_ ?_ ?_ ?_ ?_ ?_ ?_ ?_ ?_ ?_ ?_ ?_ ?_ ?_ ?_ ?_ ?_ ?_ ?_ ?_ ?_ ?_ ?_ ?_ ?_ ?_ ?_ ?_ ?_ ?_ ?_ ?_ ?_ ?_ ?_ ?_ ?_ ?_ ?_ ?_ ?_ ?_ ?_ ?_ ?_ ?_ ?_ ?_ ?_ ?_ ?_ ?_ ?_ ?_ ?_ ?_ ?_ ?_ ?_ ?_ ?_ ?_ ?_ ?_ ?_ ?_ ?_ ?_ ?_ ?_ ?_ ?_ ?_ ?_ ?_ ?_ ?_ ?_ ?_ ?_ ?_ ?_ ?_ ?_ ?_ ?_ ?_ ?_ ?_ ?_ ?_ ?_ ?_ ?_ ?_ ?_ ?_ ?_ ?_ ?_ ?_ ?_ ?_ ?_ ?_ ?_ ?_ ?_ ?_ ?_ ?_ ?_ ?_ ?_ ?_ ?_ ?_ ?_ ?_ ?_ ?_ ?_ ?_ ?_ ?_ ?_ ?_ ?_ ?_ ?_ ?_ ?_ ?_ ?_ ?_ ?_ ?_ ?_ ?_ ?_ ?_ ?_ ?_ ?_ ?_ ?_ ?_ ?_ ?_ ?_ ?_ ?_ ?_ ?_ ?_ ?_ ?_ ?_ ?_ ?_ ?_ ?_ ?_ ?_
  (all_goals try first | k_is | kit_is | (refine' ZAZ ?_ ?_ ?_;all_goals try k_is) | (refine' ZCm ?_ ?_ ?_ ?_;all_goals try k_is) | rfl | kernel_rfl)
