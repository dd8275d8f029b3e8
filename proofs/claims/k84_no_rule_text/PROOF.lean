import PyProof.Rows.All
import Wide.All
import OpenK.AllK
import Wide.FinOn
import Lean
import PyProof.EqAt
import PyProof.EqKinds
import PyProof.TupleCall
import KE.KRevIter
import PyProof.CollectIter
import PyProof.SumWalkG
import PyProof.Rows.FStrParts
import KE.KDictOf
import PyProof.IsiH_list
import PyProof.RaisesAny
import PyProof.P3In
import PyProof.Rows.StrWeight2
import PyProof.StrCalls
import PyProof.Rows.FinIter
import PyProof.StrCalls2
import PyProof.StrBlockH
import PyProof.StrLawsTight
import PyProof.StrLoop
import PyProof.StrWalks
import PyProof.SliceStr2
import PyProof.Conv_int
import PyProof.Rows.SortLt
import PyProof.Rows.Walk
import PyProof.FactsAll.str
import PySem.Builtin.Int.W0All
import PyProof.Rows.StrIntSpec
import PyProof.EnumIter
import PyProof.ZipIter
import PyProof.TupleIter
import PyProof.WalksMore
import PySem.Challenge.RW_sorthall_k84_no_rule_text
local macro_rules | `(tactic| omega)=>`(tactic| first | with_reducible assumption | lia | omega (splitDisjunctions:=true))
set_option Elab.async false
set_option linter.all false
set_option maxRecDepth 100000
open Nat renaming le_refl→yAA,le_trans→yAD,ne_of_lt→yAF,lt_of_lt_of_le→yAJ,le_succ→yAK,lt_irrefl→yAW,lt_succ_self→yBA,zero_le→yBC
open List renaming length_map→yAB,mem_cons→yAC,mem_cons_self→yAE,mem_append_right→yAG,mem_cons_of_mem→yAI,map_append→yAL,mem_of_getElem?→yAM,getElem?_eq_some_iff→yAN,length_append→yAO,size_toArray→yAP,take_add_one→yAQ,length_cons→yAR,map_cons→yAS,getElem?_eq_getElem→yAU,take_of_length_le→yAV,mem_append→yAX,getElem?_map→yAY,all_eq_true→yAZ,mem_singleton→yBB,length_take→yBE,mem_append_left→yBF,all_cons→yBG,lookup_cons→yBH,foldl_cons→yBI,not_mem_nil→yBK,getElem?_append_right→yBM,getElem?_append_left→yBN
open Bool renaming false_ne_true→yAH,and_eq_true→yAT,eq_iff_iff→yBD,false_eq_true→yBO
open Array renaming getElem?_eq_some_iff→yBJ
open Option renaming map_eq_some_iff→yBL
namespace L2
open PySem PySem.W
theorem left_boot {p q:Program} {loose:List Str} {Xt:Shared->Bool} {α:Type} {Yf:Shared->α} {Ya:World->α} {N:Nat} {g0:Bool}
  (open_:∀ w:World,(fencedOpening treeTable p w N).map (fun s=>(s.heap,s.gens,s.drawn,s.toks))=some (boot_heap w.params,Array.mk [],boot_drawn,boot_toks))
  (h:∀ (w:World) (os:OsState),(topFrom treeTable p w N ⟨boot_heap w.params,Array.mk [],boot_drawn,boot_toks,os⟩).map (fun s=>(openSeen q loose (importedModules p.main.body) Xt g0 s,Yf s))=some (openGood q loose,Ya w)):LeftO p q loose Xt Yf Ya N g0:=fun w=>by
 obtain ⟨⟨hh,gs,d,k,os⟩,e,e'⟩:=yBL.mp (open_ w)
 obtain ⟨rfl,rfl,rfl,rfl⟩:hh=boot_heap w.params /\ gs=Array.mk [] /\ d=boot_drawn /\ k=boot_toks:=by simpa using e'
 unfold openEnds
 rw [e]
 exact h w os
theorem left_two {p q:Program} {loose:List Str} {Xt:Shared->Bool} {α:Type} {Yf:Shared->α} {Ya:World->α} {N:Nat} {g0:Bool}
  (open_:∀ w:World,(fencedOpening treeTable p w N).map (fun s=>(s.heap,s.gens,s.drawn,s.toks))=some (boot_heap w.params,Array.mk [],boot_drawn,boot_toks))
  (h1:∀ (w:World) (os:OsState),(topFrom treeTable p w N ⟨boot_heap w.params,Array.mk [],boot_drawn,boot_toks,os⟩).map (fun s=>openSeen q loose (importedModules p.main.body) Xt g0 s)=some (openGood q loose))
  (h2:∀ (w:World) (os:OsState),(topFrom treeTable p w N ⟨boot_heap w.params,Array.mk [],boot_drawn,boot_toks,os⟩).map (fun s=>Yf s)=some (Ya w)):LeftO p q loose Xt Yf Ya N g0 :=
 left_boot open_ fun w os=>by
  have a:=h1 w os
  have b:=h2 w os
  generalize topFrom treeTable p w N ⟨boot_heap w.params,Array.mk [],boot_drawn,boot_toks,os⟩=r at a b
  cases r with
  | none=>cases a
  | some s=>exact congrArg some (Prod.ext (Option.some.inj a) (Option.some.inj b))
noncomputable def s0B (w:World) (os:OsState):Shared:=⟨boot_heap w.params,Array.mk [],boot_drawn,boot_toks,os⟩
noncomputable def ofLB:List Obj->Nat->BT->BT
 | [],_,t=>t
 | o::r,n,t=>ofLB r (n+1) (t.ins n o)
noncomputable def sTB (w:World) (os:OsState):SharedT:=⟨ofLB (boot_heap w.params).objs.toList 0 .nil,(boot_heap w.params).objs.size,(boot_heap w.params).life,Array.mk [],boot_drawn,boot_toks,os⟩
noncomputable def topRunQ (p:Program) (w:World) (n₀:Nat) (ann:Option Value):Nat->SharedT->Thread->Option SharedT
 | 0,_,_=>none
 | n+1,s,t=>match through t with
  | true=>some s
  | false=>match PySem.W.Fast.tw6613529449190102663 n₀ ann t with
   | false=>none
   | true=>match PySem.W.Fast.tw10156331382660048174 (PySem.W.Fast.tw11892475500146522536 PySem.W.Fast.tw14364793385576792824) p w s t with
    | some (s',t')=>topRunQ p w n₀ ann n s' t'
    | none=>none
theorem topRunQ_spec {p:Program} {w:World} {n₀:Nat} {ann:Option Value}:∀ {n:Nat} {s s':SharedT} {t:Thread},topRunQ p w n₀ ann n s t=some s'->topRun treeTable p w n₀ ann n s.abs t=some s'.abs
 | 0,_,_,_,h=>by cases h
 | n+1,s,s',t,h=>by
  unfold topRunQ at h
  rw [<- PySem.W.Fast.te6613529449190102663,<- PySem.W.Fast.te10156331382660048174,<- PySem.W.Fast.te11892475500146522536,<- PySem.W.Fast.te14364793385576792824] at h
  unfold topRun
  cases he:through t with
  | true=>rw [he] at h;cases h;rfl
  | false=>
   rw [he] at h
   cases hk:stepOk n₀ ann t with
   | false=>rw [hk] at h;cases h
   | true=>
    rw [hk] at h
    cases hs:stepT (denote treeTable) p w s t with
    | none=>rw [hs] at h;cases h
    | some r=>obtain ⟨s₂,t₂⟩:=r;rw [hs] at h;rw [stepT_spec hs];exact topRunQ_spec h
set_option maxHeartbeats 0 in
theorem sTB_abs:∀ (w:World) (os:OsState),(sTB w os).abs=s0B w os:=by
 intro w os
 kernel_rfl
set_option maxHeartbeats 0 in
theorem s0B_ns:∀ (w:World) (os:OsState),((s0B w os).heap.isNs mainGlobals && (s0B w os).gens.size == 0)=true:=by
 intro w os
 kernel_rfl
noncomputable def topOkB (p:Program) (s₀ s₁:Shared):Bool:=staticsOk (importedModules p.main.body) s₀.heap s₁.heap && namesBound p s₁.heap && gensDone s₁ && laidKept s₀.heap s₁.heap
theorem via_tree {α:Type} {p:Program} {N:Nat} {F:Shared->α} {G:α} (w:World) (os:OsState)
  (h:(topRunQ p w (s0B w os).heap.objs.size ((s0B w os).heap.nsMap mainGlobals "__annotations__") N (sTB w os) (topStub p)).map (fun s=>(topOkB p (s0B w os) s.abs,F s.abs))=some (true,G)):(topFrom treeTable p w N ⟨boot_heap w.params,Array.mk [],boot_drawn,boot_toks,os⟩).map F=some G:=by
 obtain ⟨s',e1,e2⟩:=yBL.mp h
 have r:=topRunQ_spec e1
 rw [sTB_abs] at r
 obtain ⟨e3,e4⟩:=Prod.mk.inj e2
 show (topFrom treeTable p w N (s0B w os)).map F=some G
 unfold topFrom
 rw [s0B_ns w os]
 dsimp only
 rw [r,Option.bind_some]
 unfold topOkB at e3
 rw [e3]
 exact congrArg some e4
noncomputable def vw (p:Program) (ix:List Nat):Program:={ p with main:={ p.main with body:=ix.filterMap fun i=>p.main.body[i]? } }
noncomputable def Vw:Program:=vw PySem.Challenge.pw_sorthall_k84_no_rule_text [1,2,3,4,5,6,7,8,9,11,12,14,15,16,17,18,19,20,21,22,23,24,25,27,28,29,30,31,32,33,34,35,37,38,39,40,41,42,43,44,45,46,47,48]
set_option maxHeartbeats 0 in
theorem seen1:∀ (w:World) (os:OsState),(topFrom treeTable PySem.Challenge.pw_sorthall_k84_no_rule_text w 9252 ⟨boot_heap w.params,Array.mk [],boot_drawn,boot_toks,os⟩).map (fun s=>openSeen L2.Vw [] (importedModules PySem.Challenge.pw_sorthall_k84_no_rule_text.main.body) (fun s=>xlAt L2.Vw [] s && recOk (RowW.records (OpenRow.toRowW (OpenLaw.row PySem.Challenge.rw_sorthall_k84_no_rule_text))) s) true s)=some (openGood L2.Vw []):=by
 intro w os
 refine via_tree w os ?_
 rw [PySem.W.Fast.te4187177175401517315]
 kernel_rfl
local macro_rules | `(tactic| o_law)=>`(tactic| refine holds_law (by decide +kernel) fun said=>?_)
set_option hygiene false in
local macro_rules | `(tactic| o_head $H)=>`(tactic| (refine holds_open (q:=L2.Vw) (loose:=[]) (Xt:=fun s=>xlAt L2.Vw [] s && recOk (RowW.records _) s) (XP:=XL L2.Vw []) (Yf:=Hook.obs $H) (Ya:=Hook.val $H) (YP:=Hook.says $H) (N:=9252) ?hl (Hook.of $H) (Hook.keeps $H) (fun s e=>xl_of s (Bool.and_eq_true_iff.mp e).1) XL.keeps (by rfl) (by rfl) (by rfl) (fun s e=>recFacts_of (Bool.and_eq_true_iff.mp e).2) (by rfl) (by first | assumption | decide +kernel) (by decide +kernel) ⟨rfl,rfl,rfl,rfl,rfl,by decide +kernel⟩ ?hw ?hc;(case hl=>(refine L2.left_two (PySem.W.boot_open (by rfl) (by decide) (fun s=>rfl)) (fun w os=>?h1) (fun w os=>?h2);(case h1=>exact L2.seen1 w os);(case h2=>(refine L2.via_tree w os ?_;kernel_rfl))))))
set_option maxHeartbeats 0 in
open_top hd0 for PySem.Challenge.rw_sorthall_k84_no_rule_text
end L2
namespace L2
open PySem PySem.Spec PyProof.Rows
noncomputable abbrev Key:=Sum Int Str
noncomputable def keyIs:Key->Value->Bool
 | .inl k,v=>Value.isInt k v
 | .inr x,v=>Value.isStrOf x v
noncomputable def keyH (w:World):Key->Int
 | .inl k=>hashInt k
 | .inr x=>hashStr w x
theorem ZAq:∀ {k:Key} {v:Value},keyIs k v=true->(∃ i t,k=Sum.inl i /\ v=Value.int i t)∨(∃ x t,k=Sum.inr x /\ v=Value.str x t)
 | .inl i,v,h=>by
  obtain ⟨t,e⟩:=Value.isInt_shape (k:=i) (v:=v) h
  exact .inl ⟨i,t,rfl,e⟩
 | .inr x,v,h=>by
  obtain ⟨t,e⟩:=Value.isStrOf_shape (x:=x) (v:=v) h
  exact .inr ⟨x,t,rfl,e⟩
theorem key_ll (a b:Int):decide ((Sum.inl a:Key)=Sum.inl b)=(a == b):=by
 by_cases e:a=b
 .subst e;simp
 .have h:¬ (Sum.inl a:Key)=Sum.inl b:=fun q=>e (Sum.inl.inj q)
  rw [decide_eq_false h]
  exact (beq_eq_false_iff_ne.mpr e).symm
theorem key_rr (a b:Str):decide ((Sum.inr a:Key)=Sum.inr b)=decide (a=b):=by
 by_cases e:a=b
 .subst e;simp
 .have h:¬ (Sum.inr a:Key)=Sum.inr b:=fun q=>e (Sum.inr.inj q)
  rw [decide_eq_false h,decide_eq_false e]
theorem key_lr (a:Int) (b:Str):decide ((Sum.inl a:Key)=Sum.inr b)=false:=decide_eq_false (fun q=>nomatch q)
theorem key_rl (a:Str) (b:Int):decide ((Sum.inr a:Key)=Sum.inl b)=false:=decide_eq_false (fun q=>nomatch q)
noncomputable def mixKind (prog:Program) (w:World):PySem.KeyKind prog w Key where
 is:=keyIs
 hash:=keyH w
 inj:=fun v a b ha hb=>by
  rcases ZAq ha with ⟨i,t,rfl,rfl⟩ | ⟨x,t,rfl,rfl⟩
  .rcases ZAq hb with ⟨j,u,rfl,e⟩ | ⟨y,u,rfl,e⟩
   .injection e with e1 _;rw [e1]
   .exact nomatch e
  .rcases ZAq hb with ⟨j,u,rfl,e⟩ | ⟨y,u,rfl,e⟩
   .exact nomatch e
   .injection e with e1 _;rw [e1]
 byValue:=fun k v h=>by
  rcases ZAq h with ⟨i,t,rfl,rfl⟩ | ⟨x,t,rfl,rfl⟩ <;> rfl
 pyHash:=fun hv h=>by
  rcases ZAq hv with ⟨i,t,rfl,rfl⟩ | ⟨x,t,rfl,rfl⟩
  .exact wpAny_pyHash_int h
  .exact wpAny_pyHash_str h
 eqBool:=fun hu hv h=>by
  rcases ZAq hu with ⟨i,t,rfl,rfl⟩ | ⟨x,t,rfl,rfl⟩
  .rcases ZAq hv with ⟨j,u,rfl,rfl⟩ | ⟨y,u,rfl,rfl⟩
   .rw [key_ll] at h;exact wpAny_eqBool_int h
   .rw [key_lr] at h;exact SeqAt.EqAt.int_str i t y u _ _ _ _ h
  .rcases ZAq hv with ⟨j,u,rfl,rfl⟩ | ⟨y,u,rfl,rfl⟩
   .rw [key_rl] at h;exact SeqAt.EqAt.str_int x t j u _ _ _ _ h
   .rw [key_rr] at h;exact wpAny_eqBool_str h
 «strs»:=fun k x t v h=>by
  rcases ZAq h with ⟨i,u,rfl,e⟩ | ⟨y,u,rfl,e⟩
  .exact nomatch e
  .injection e with e1 _
   subst e1
   cases v <;> rfl
inductive V where
 | non | bl (b:Bool) | int (i:Int) | str (x:Str) | byt (b:Array UInt8) | flt (b:UInt64) | ref (a:Addr) | ty (n:String)
 deriving DecidableEq
noncomputable def RelV:V->Value->Prop
 | .non,u=>u=Value.none
 | .bl b,u=>u=Value.bool b
 | .int i,u=>∃ t,u=Value.int i t
 | .str x,u=>∃ t,u=Value.str x t
 | .byt b,u=>∃ t,u=Value.bytes b t
 | .flt b,u=>∃ t,u=Value.float b t
 | .ref a,u=>u=Value.ref a
 | .ty n,u=>u=Value.type n
noncomputable abbrev Vals:List V->List Value->Prop:=Paired RelV
theorem Vals.length {xs:List V} {us:List Value} (r:Vals xs us):xs.length=us.length:=Paired.length r
theorem Vals.get:∀ {xs:List V} {us:List Value} {i:Nat} {x:V},Vals xs us->xs[i]?=some x->∃ u,us[i]?=some u /\ RelV x u
 | _,_,_,_,.nil,e=>by simp at e
 | _,_,0,_,.cons r _,e=>by simp at e;subst e;exact ⟨_,rfl,r⟩
 | _,_,i+1,x,.cons _ t,e=>by
  obtain ⟨u,h1,h2⟩:=Vals.get (i:=i) (x:=x) t (by simpa using e)
  exact ⟨u,by simpa using h1,h2⟩
theorem Vals.append:∀ {xs ys:List V} {us ws:List Value},Vals xs us->Vals ys ws->Vals (xs++ys) (us++ws)
 | _,_,_,_,.nil,s=>s
 | _,_,_,_,.cons r t,s=>.cons r (Vals.append t s)
noncomputable def RelO:Option V->Option Value->Prop
 | some v,some u=>RelV v u
 | none,none=>True
 | _,_=>False
noncomputable def KV {κ:Type}:List (κ×V)->List (κ×Value)->Prop:=Paired fun (p:κ×V) (q:κ×Value)=>p.1=q.1 /\ RelV p.2 q.2
noncomputable def kV:Key->V
 | .inl i=>.int i
 | .inr x=>.str x
inductive HO where
 | lst (xs:List V)
 | tup (xs:List V)
 | dK (kvs:List (Key×V)) | dT (kvs:List (List Key×V))
 | set (S:Int->Bool) (n:Nat)
 | ins (C dx:Addr) (fs:List (Str×V))
 | own (x:Addr)
 | xd (fs:List (Str×V))
 | met (f x:Addr)
 | rng (lo hi:Int)
 | frz (o:Obj) (u:HO)
 | tbl (ps:Array Value)
 | ext (φ:Heap->Prop)
noncomputable abbrev Hp:=Addr->Option HO
noncomputable def upd (H:Hp) (a:Addr) (o:HO):Hp:=fun b=>if b=a then some o else H b
theorem ZAI {H:Hp} {a:Addr} {o:HO}:upd H a o a=some o:=by unfold upd;rw [if_pos rfl]
theorem ZAS {H:Hp} {a b:Addr} {o:HO} (h:b≠a):upd H a o b=H b:=by unfold upd;rw [if_neg h]
theorem ZAU {H:Hp} {a b:Addr} {o:HO} (h:H a=some o) (h':H b=none):a≠b:=by
 intro e;subst e;rw [h] at h';cases h'
section
variable (P:Program) (w:World)
noncomputable def ObjOk (H:Hp) (h:Heap) (a:Addr):HO->Prop
 | .lst xs=>xs.length <= sizeLine /\ ∃ (its:List Value) (n:Nat),Vals xs its /\ h.get? a=some { cls:=.type "list",data:=.seq its.toArray n }
 | .tup xs=>xs.length <= sizeLine /\ ∃ its:List Value,Vals xs its /\ IsTup h a its.toArray
 | .dK kvs=>kvs.length <= sizeLine /\ (a == sysModules)=false /\ ∃ vs,KV kvs vs /\ h.DictOf (mixKind P w) a vs
 | .dT kvs=>kvs.length <= sizeLine /\ (a == sysModules)=false /\ ∃ xs:List (List Key×Addr×Value),
   Paired (fun (p:List Key×V) (q:List Key×Addr×Value)=>p.1=q.1 /\ H q.2.1=some (.tup (p.1.map kV)) /\ RelV p.2 q.2.2) kvs xs /\
   ∃ o es ep,h.get? a=some o /\ o.ExactDict /\ o.data=.dict es ep /\ es.toList=xs.map (entryOfKey (tupleKind (mixKind P w))) /\ (xs.map (·.1)).Nodup
 | .set S n=>h.SetOf (intKind P w) a S n
 | .ins C dx fs=>H dx=some (.own a) /\ fs.length <= 1000 /\ dx≠a /\ h.get? a=some (PySem.W.instObj C dx) /\
   ∃ mA,h.Ns1 dx mA /\ (∀ f,RelO (fs.lookup f) (mA f)) /\ PySem.Within mA (fs.map (·.1))
 | .own _=>∃ o,h.get? a=some o
 | .xd fs=>∃ mA,h.Ns1 a mA /\ ∀ f,RelO (fs.lookup f) (mA f)
 | .rng lo hi=>∃ t u v,h.get? a=some { cls:=.type "range",data:=.fields #[.int lo t,.int hi u,.int 1 v] }
 | .frz o u=>h.get? a=some o /\ ObjOk H h a u
 | .tbl ps=>h.get? a=some { cls:=.none,data:=.fields ps }
 | .met f x=>h.get? a=some (PySem.W.methodObj (.ref f) (.ref x))
 | .ext φ=>φ h /\ (∃ o,h.get? a=some o) /\ ∀ h1 h2:Heap,φ h1->(∀ o,h1.get? a=some o->h2.get? a=some o)->φ h2
noncomputable def HOk (H:Hp) (h:Heap):Prop:=∀ a o,H a=some o->ObjOk P w H h a o
end
section
variable {P:Program} {w:World} {H H':Hp} {h h':Heap} {a:Addr} {o:HO}
theorem ObjOk.lt (x:ObjOk P w H h a o):a < h.objs.size:=by
 cases o with
 | lst xs=>obtain ⟨_,_,_,_,e⟩:=x;exact Heap.lt_size e
 | tup xs=>obtain ⟨_,_,_,p⟩:=x;exact p.lt
 | dK kvs=>obtain ⟨_,_,_,_,o,_,_,e,_⟩:=x;exact Heap.lt_size e
 | dT kvs=>obtain ⟨_,_,_,_,o,_,_,e,_⟩:=x;exact Heap.lt_size e
 | set S n=>obtain ⟨o,_,_,_,e,_⟩:=x;exact Heap.lt_size e
 | ins C dx fs=>obtain ⟨_,_,_,e,_⟩:=x;exact Heap.lt_size e
 | own y=>obtain ⟨_,e⟩:=x;exact Heap.lt_size e
 | xd fs=>obtain ⟨_,⟨_,_,_,e,_⟩,_⟩:=x;exact Heap.lt_size e
 | rng lo hi=>obtain ⟨_,_,_,e⟩:=x;exact Heap.lt_size e
 | frz ob u=>obtain ⟨e,_⟩:=x;exact Heap.lt_size e
 | tbl ps=>exact Heap.lt_size (show h.get? a=some _ from x)
 | met f y=>exact Heap.lt_size (show h.get? a=some _ from x)
 | ext φ=>obtain ⟨_,⟨_,e⟩,_⟩:=x;exact Heap.lt_size e
theorem Paired.mapP {α β:Type} {F G:α->β->Prop}:∀ {l₁:List α} {l₂:List β},Paired F l₁ l₂->(∀ a b,F a b->G a b)->Paired G l₁ l₂
 | _,_,.nil,_=>.nil
 | _,_,.cons r t,f=>.cons (f _ _ r) (Paired.mapP t f)
theorem ObjOk.stay (x:ObjOk P w H h a o) (k:∀ b u,(b=a∨H b=some (.own a))->h.get? b=some u->h'.get? b=some u)
  (ho:∀ b,H b=some (.own a)->H' b=some (.own a)) (ht:∀ b xs,H b=some (.tup xs)->H' b=some (.tup xs)):ObjOk P w H' h' a o:=by
 induction o with
 | lst xs=>obtain ⟨z,its,n,r,e⟩:=x;exact ⟨z,its,n,r,k _ _ (.inl rfl) e⟩
 | tup xs=>obtain ⟨z,its,r,ob,e,c⟩:=x;exact ⟨z,its,r,ob,k _ _ (.inl rfl) e,c⟩
 | dK kvs=>obtain ⟨z,y,vs,r,ob,es,ep,e,c⟩:=x;exact ⟨z,y,vs,r,ob,es,ep,k _ _ (.inl rfl) e,c⟩
 | dT kvs=>
  obtain ⟨z,y,xs,r,ob,es,ep,e,c⟩:=x
  exact ⟨z,y,xs,Paired.mapP r fun p q z=>⟨z.1,ht _ _ z.2.1,z.2.2⟩,ob,es,ep,k _ _ (.inl rfl) e,c⟩
 | set S n=>obtain ⟨ob,es,ep,t,e,c⟩:=x;exact ⟨ob,es,ep,t,k _ _ (.inl rfl) e,c⟩
 | ins C dx fs=>
  obtain ⟨d,z,ne,e,mA,⟨od,es,ep,e2,c⟩,r⟩:=x
  exact ⟨ho _ d,z,ne,k _ _ (.inl rfl) e,mA,⟨od,es,ep,k _ _ (.inr d) e2,c⟩,r⟩
 | own y=>obtain ⟨ob,e⟩:=x;exact ⟨ob,k _ _ (.inl rfl) e⟩
 | xd fs=>obtain ⟨mA,⟨od,es,ep,e,c⟩,r⟩:=x;exact ⟨mA,⟨od,es,ep,k _ _ (.inl rfl) e,c⟩,r⟩
 | rng lo hi=>obtain ⟨t,u,v,e⟩:=x;exact ⟨t,u,v,k _ _ (.inl rfl) e⟩
 | frz ob u ih=>obtain ⟨e,q⟩:=x;exact ⟨k _ _ (.inl rfl) e,ih q⟩
 | tbl ps=>
  have e:h.get? a=some { cls:=.none,data:=.fields ps }:=x
  show h'.get? a=some { cls:=.none,data:=.fields ps }
  exact k a _ (.inl rfl) e
 | met f y=>
  have e:h.get? a=some (PySem.W.methodObj (.ref f) (.ref y)):=x
  show h'.get? a=some (PySem.W.methodObj (.ref f) (.ref y))
  exact k a _ (.inl rfl) e
 | ext φ=>obtain ⟨p,⟨o,e⟩,st⟩:=x;exact ⟨st _ _ p fun o q=>k _ _ (.inl rfl) q,⟨o,k _ _ (.inl rfl) e⟩,st⟩
theorem HOk.lt (x:HOk P w H h) (e:H a=some o):a < h.objs.size:=(x a o e).lt
theorem HOk.fresh (x:HOk P w H h) (e:h.objs.size <= a):H a=none:=by
 cases q:H a with
 | none=>rfl
 | some u=>exact absurd (yAJ (x.lt q) e) (yAW _)
theorem HOk.kept (x:HOk P w H h) (k:∀ b u,h.get? b=some u->h'.get? b=some u):HOk P w H h':=fun a o e=>
 (x a o e).stay (fun b u _ q=>k b u q) (fun _ q=>q) fun _ _ q=>q
theorem HOk.laid (x:HOk P w H h) (k:∀ b u,h.get? b=some u->h'.get? b=some u) (hp:h.objs.size <= a) (new:ObjOk P w (upd H a o) h' a o):HOk P w (upd H a o) h':=fun b u e=>by
 have hn:=x.fresh hp
 by_cases hb:b=a
 .subst hb;rw [ZAI] at e;cases e;exact new
 .rw [ZAS hb] at e
  exact (x b u e).stay (fun c v _ q=>k c v q) (fun c q=>by rw [ZAS (ZAU q hn)];exact q) fun c xs q=>by rw [ZAS (ZAU q hn)];exact q
end
noncomputable def Rd (H:Hp) (a:Addr) (u:HO):Prop:=H a=some u∨∃ o,H a=some (.frz o u)
theorem Rd.ok {P:Program} {w:World} {H:Hp} {h:Heap} {a:Addr} {u:HO} (r:Rd H a u) (x:HOk P w H h):ObjOk P w H h a u:=by
 rcases r with r | ⟨o,r⟩
 .exact x a u r
 .obtain ⟨_,q⟩:=x a _ r
  exact q
noncomputable def Mut:Option HO->Prop
 | some (.lst _)=>True
 | some (.dK _)=>True
 | some (.dT _)=>True
 | some (.set _ _)=>True
 | some (.ins _ _ _)=>True
 | some (.ext _)=>True
 | _=>False
section
variable {P:Program} {w:World} {H:Hp} {h h':Heap} {x e:Addr} {o':HO}
theorem HOk.write (ok:HOk P w H h) (mu:Mut (H x)) (he:e=x∨H e=some (.own x)) (k:∀ b u,b≠e->h.get? b=some u->h'.get? b=some u) (heo:∃ u,h'.get? e=some u)
  (new:ObjOk P w (upd H x o') h' x o'):HOk P w (upd H x o') h':=fun b u q=>by
 have nown:∀ c y,H c=some (.own y)->c≠x:=fun c y r z=>by subst z;rw [r] at mu;exact mu
 have ntup:∀ c xs,H c=some (.tup xs)->c≠x:=fun c xs r z=>by subst z;rw [r] at mu;exact mu
 by_cases hb:b=x
 .subst hb;rw [ZAI] at q;cases q;exact new
 .rw [ZAS hb] at q
  by_cases hbe:b=e
  .have q':H b=some (.own x):=by
    rcases he with z | z
    .exact absurd (hbe.trans z) hb
    .rw [hbe];exact z
   rw [q] at q';cases q'
   obtain ⟨v,hv⟩:=heo
   exact ⟨v,by rw [hbe];exact hv⟩
  .refine (ok b u q).stay (fun c v hc r=>k c v ?_ r) (fun c r=>by rw [ZAS (nown c b r)];exact r) fun c xs r=>by rw [ZAS (ntup c xs r)];exact r
   rcases hc with rfl | hc
   .exact hbe
   .rintro rfl
    rcases he with z | z
    .exact nown c b hc z
    .rw [hc] at z;cases z;exact hb rfl
end
structure Un (fs ex:List Addr) (H H':Hp) (h h':Heap):Prop where
 keep:∀ b o,h.get? b=some o->H b=none->b∉fs->b∉ex->h'.get? b=some o
 slot:∀ b o,h.get? b=some o->H b=none->b∈fs->b∉ex->∃ sl,h'.get? b=some { o with slots:=sl }
 free:∀ b o,h.get? b=some o->H b=none->b∉ex->H' b=none
 there:∀ b o,h.get? b=some o->b∉ex->∃ o',h'.get? b=some o'
 tups:∀ b xs,H b=some (.tup xs)->H' b=some (.tup xs)
 frzs:∀ b o u,H b=some (.frz o u)->H' b=some (.frz o u)
 tbls:∀ b ps,H b=some (.tbl ps)->∃ more,H' b=some (.tbl (ps++more))
section
variable {fs fs' ex ex':List Addr} {H H1 H2:Hp} {h h1 h2 h':Heap} {a x e:Addr} {o:HO}
theorem Un.any (u:Un fs ex H H1 h h1) {b:Addr} {ob:Obj} (q:h.get? b=some ob) (n:H b=none) (hx:b∉ex):∃ sl,h1.get? b=some { ob with slots:=sl }:=by
 by_cases hb:b∈fs
 .exact u.slot b ob q n hb hx
 .exact ⟨ob.slots,u.keep b ob q n hb hx⟩
theorem Un.kept (k:∀ b u,h.get? b=some u->h'.get? b=some u):Un fs ex H H h h' :=
 ⟨fun b ob q _ _ _=>k b ob q,fun b ob q _ _ _=>⟨ob.slots,k b ob q⟩,fun _ _ _ n _=>n,fun b ob q _=>⟨ob,k b ob q⟩,fun _ _ q=>q,fun _ _ _ q=>q,fun _ ps q=>⟨#[],by rw [q];simp⟩⟩
theorem Un.refl:Un fs ex H H h h:=Un.kept fun _ _ q=>q
theorem Un.laid (k:∀ b u,h.get? b=some u->h'.get? b=some u) (hp:h.objs.size <= a) (hn:H a=none):Un fs ex H (upd H a o) h h' where
 keep:=fun b u q _ _ _=>k b u q
 slot:=fun b u q _ _ _=>⟨u.slots,k b u q⟩
 free:=fun b u q n _=>by rw [ZAS (yAF (yAJ (Heap.lt_size q) hp))];exact n
 there:=fun b u q _=>⟨u,k b u q⟩
 tups:=fun b xs q=>by rw [ZAS (ZAU q hn)];exact q
 frzs:=fun b u xs q=>by rw [ZAS (ZAU q hn)];exact q
 tbls:=fun b ps q=>⟨#[],by rw [ZAS (ZAU q hn),q];simp⟩
theorem Un.write (mu:Mut (H x)) (he:e=x∨H e=some (.own x)) (k:∀ b u,b≠e->h.get? b=some u->h'.get? b=some u) (heo:∃ u,h'.get? e=some u):Un fs ex H (upd H x o) h h':=by
 have hx:∀ b,H b=none->b≠x:=fun b n z=>by subst z;rw [n] at mu;exact mu
 have hb:∀ b,H b=none->b≠e:=fun b n z=>by
  subst z
  rcases he with r | r
  .exact hx b n r
  .rw [n] at r;cases r
 have hm:∀ b u,H b=some u->¬ Mut (some u)->b≠x:=fun b u q nm z=>by subst z;rw [q] at mu;exact nm mu
 refine ⟨fun b u q n _ _=>k b u (hb b n) q,fun b u q n _ _=>⟨u.slots,k b u (hb b n) q⟩,fun b u q n _=>by rw [ZAS (hx b n)];exact n,fun b u q _=>?_,
  fun b xs q=>by rw [ZAS (hm b _ q fun z=>z)];exact q,fun b u xs q=>by rw [ZAS (hm b _ q fun z=>z)];exact q,fun b ps q=>⟨#[],by rw [ZAS (hm b _ q fun z=>z),q];simp⟩⟩
 by_cases hbe:b=e
 .subst hbe;exact heo
 .exact ⟨u,k b u hbe q⟩
end
noncomputable def trk (h:Heap) (H:Hp):List Addr:=(List.range h.objs.size).filter fun a=>(H a).isSome
noncomputable def hidT (h:Heap) (H:Hp):Heap:=PySem.W.hideAll h (trk h H)
theorem hidT_size (h:Heap) (H:Hp):(hidT h H).objs.size=h.objs.size:=PySem.W.hideAll_size _ _
theorem hidT_get {h:Heap} {H:Hp} {b:Addr} {o:Obj} (e:h.get? b=some o) (n:H b=none):(hidT h H).get? b=some o :=
 PySem.W.hideAll_get _ e fun hm=>by
  have q:(H b).isSome=true:=(List.mem_filter.mp hm).2
  rw [n] at q;simp at q
theorem of_hidT {h:Heap} {H:Hp} {b:Addr} {o:Obj} (e:(hidT h H).get? b=some o):h.get? b=some o /\ H b=none:=by
 have e':h.get? b=some o:=PySem.W.of_hideAll (trk h H) e
 refine ⟨e',?_⟩
 cases q:H b with
 | none=>rfl
 | some x=>
  have hm:b∈trk h H:=List.mem_filter.mpr ⟨List.mem_range.mpr (Heap.lt_size e'),by simp [q]⟩
  have z:(hidT h H).get? b=none:=PySem.W.hideAll_none (trk h H) hm
  rw [z] at e;cases e
structure Mod (K:W.Frag) (mg:Str->Option Value) (base:Heap):Prop where
 kin:K.In base
 glob:base.Ns mainGlobals mg
 blt:∃ mb,base.Ns builtinsNs mb /\ ∀ x:Str,x≠"__name__"->mb x=bootBuiltins x
 nolimit:base.NoLimit
structure Cx where
 prog:Program
 w:World
 K:W.Frag
 mg:Str->Option Value
 base:Heap
 A:Around
 N:List Str
 s₀:Shared
 H₀:Hp
 env:Env
 outer:List Env
 stack:List Env
 ex:List Addr
 fn:Str->Bool
 calm:Bool
 pn:List (Addr×Obj)
 xe:Value->Shared->Prop
noncomputable def frs (l:List Env):List Addr:=l.filterMap (·.frame)
noncomputable abbrev Cx.fs (X:Cx):List Addr:=frs X.outer
noncomputable def Vis (sc:Scope) (x:Str):Prop:=sc.names.lookup x=some .local∨sc.names.lookup x=some .cell∨sc.names.lookup x=some .free
noncomputable def Loc (sc:Scope) (x:Str):Prop:=sc.names.lookup x=some .local∨sc.names.lookup x=some .cell
noncomputable def Look (env:Env) (h:Heap) (m:Str->Option Value) (x:Str) (u:Value):Prop :=
 (env.kindOf x=some .local /\ m x=some u)∨((env.kindOf x=some .cell∨env.kindOf x=some .free) /\ ∃ c,env.cells.lookup x=some c /\ h.IsCell c (some u))
structure Cx.Ok (X:Cx):Prop where
 mod:Mod X.K X.mg X.base
 kind:X.env.scope.kind=.function
 glob:X.env.globals=mainGlobals
 blt:X.env.builtins=builtinsNs
 above:X.s₀.heap.objs.size <= X.env.locals
 inj:∀ x y c,X.env.cells.lookup x=some c->X.env.cells.lookup y=some c->x=y
 has:∀ x,(X.env.kindOf x=some .cell∨X.env.kindOf x=some .free)->∃ c,X.env.cells.lookup x=some c
 cab:∀ x c,X.fn x=true->X.env.cells.lookup x=some c->X.s₀.heap.objs.size <= c
 hd:X.calm=true->X.A.handled=none
 frames:X.A.frames=some X.stack
 stk:X.stack=X.outer∨(X.stack=X.env::X.outer /\ X.env.frame=some X.env.locals)
 exf:∀ b∈X.ex,b≠X.env.locals /\ ∀ x c,X.env.cells.lookup x=some c->c≠b
 bs:∀ b o,X.base.get? b=some o->X.s₀.heap.get? b=some o /\ X.H₀ b=none
 bsz:X.base.objs.size <= X.s₀.heap.objs.size
 noex:∀ b o,X.base.get? b=some o->b∉X.ex
 exfs:∀ b∈X.ex,b∉X.fs
 funs:X.s₀.heap.FunFrames X.base X.outer
 frf:∀ b∈X.fs,X.H₀ b=none
structure Inv (X:Cx) (pins:List (Addr×Obj)) (σ:List (Option V)) (H:Hp) (s:Shared):Prop where
 ok:X.Ok
 os:s.os=X.s₀.os
 bare:AllBare s.gens
 base:Un X.fs X.ex X.H₀ H X.s₀.heap s.heap
 loc:∃ m,s.heap.Ns X.env.locals m /\ ∀ (i:Nat) (x:Str) (v:V),X.N[i]?=some x->σ[i]?=some (some v)->Vis X.env.scope x->∃ u,RelV v u /\ Look X.env s.heap m x u
 cell:∀ x c,X.env.cells.lookup x=some c->∃ v,s.heap.IsCell c v
 free:H X.env.locals=none
 freeC:∀ x c,X.env.cells.lookup x=some c->H c=none
 pin:∀ p∈X.pn++pins,s.heap.get? p.1=some p.2 /\ H p.1=none /\ p.1≠X.env.locals /\ p.1∉X.fs /\ ∀ v,p.2.data≠.cell v
 hok:HOk X.prog X.w H s.heap
 len:σ.length=X.N.length
section
variable {X:Cx} {pins:List (Addr×Obj)} {σ:List (Option V)} {H H':Hp} {s:Shared} {h':Heap}
theorem Cx.Ok.nofr (ok:X.Ok) {b:Addr} {o:Obj} (e:X.base.get? b=some o):b∉X.fs:=fun hb=>by
 have:=(ok.funs.mem hb).1
 rw [e] at this;cases this
theorem Inv.bs (I:Inv X pins σ H s):∀ b o,X.base.get? b=some o->s.heap.get? b=some o /\ H b=none:=fun b o e=>
 ⟨I.base.keep b o (I.ok.bs b o e).1 (I.ok.bs b o e).2 (I.ok.nofr e) (I.ok.noex b o e),I.base.free b o (I.ok.bs b o e).1 (I.ok.bs b o e).2 (I.ok.noex b o e)⟩
theorem Inv.bk (I:Inv X pins σ H s):∀ b o,X.base.get? b=some o->s.heap.get? b=some o:=fun b o e=>(I.bs b o e).1
theorem Inv.mod (I:Inv X pins σ H s):Mod X.K X.mg X.base:=I.ok.mod
theorem Inv.kIn (I:Inv X pins σ H s):X.K.In s.heap:=I.ok.mod.kin.keeps I.bk
theorem Inv.lt (I:Inv X pins σ H s):X.env.locals < s.heap.objs.size:=let ⟨_,hn,_⟩:=I.loc;hn.lt
theorem Inv.sz (I:Inv X pins σ H s):X.s₀.heap.objs.size <= s.heap.objs.size:=yAD I.ok.above (Nat.le_of_lt I.lt)
theorem Inv.nofs (I:Inv X pins σ H s) {a:Addr} (h:s.heap.objs.size <= a):a∉X.fs:=fun hb=>by
 obtain ⟨_,o,ho,_⟩:=I.ok.funs.mem hb
 exact absurd (yAJ (Heap.lt_size ho) (yAD I.sz h)) (yAW _)
theorem Inv.cne (I:Inv X pins σ H s):∀ x c,X.env.cells.lookup x=some c->c≠X.env.locals:=fun x c e z=>by
 obtain ⟨v,o,ho,hd⟩:=I.cell x c e
 obtain ⟨m,⟨o',es,ep,ho',hd',_⟩,_⟩:=I.loc
 rw [z,ho'] at ho;cases ho;rw [hd'] at hd;cases hd
theorem Inv.funs (I:Inv X pins σ H s):s.heap.FunFrames X.base X.outer:=by
 have all:∀ (l:List Env),(∀ b∈frs l,b∈X.fs)->X.s₀.heap.FunFrames X.base l->s.heap.FunFrames X.base l:=by
  intro l
  induction l with
  | nil=>intro _ _;trivial
  | cons env r ih=>
   intro hs hl
   obtain ⟨hk,⟨L,o,hf,hn,ho,hd⟩,hr⟩:=hl
   have hL:L∈X.fs:=hs L (by unfold frs;rw [List.filterMap_cons,hf];exact yAE)
   obtain ⟨sl,e⟩:=I.base.slot L o ho (I.ok.frf L hL) hL fun z=>I.ok.exfs L z hL
   exact ⟨hk,⟨L,_,hf,hn,e,hd⟩,ih (fun b hb=>hs b (by unfold frs;rw [List.filterMap_cons,hf];exact yAI _ hb)) hr⟩
 exact all X.outer (fun _ hb=>hb) I.ok.funs
theorem Inv.stack (I:Inv X pins σ H s):s.heap.FunFrames X.base X.stack:=by
 rcases I.ok.stk with e | ⟨e,hf⟩
 .rw [e];exact I.funs
 .rw [e]
  obtain ⟨m,hn,_⟩:=I.loc
  refine .cons (by rw [I.ok.kind];decide) hf hn ?_ I.funs
  exact Heap.get?_none_of_le (yAD I.ok.bsz I.ok.above)
theorem Inv.stkSub (I:Inv X pins σ H s):∀ b∈frs X.stack,b∈X.env.locals::X.fs:=fun b hb=>by
 rcases I.ok.stk with e | ⟨e,hf⟩
 .rw [e] at hb;exact yAI _ hb
 .rw [e] at hb
  unfold frs at hb
  rw [List.filterMap_cons,hf] at hb
  exact hb
theorem Inv.stkFree (I:Inv X pins σ H s):∀ b∈frs X.stack,H b=none:=fun b hb=>by
 rcases yAC.mp (I.stkSub b hb) with e | hb
 .rw [e];exact I.free
 .obtain ⟨_,o,ho,_⟩:=I.ok.funs.mem hb
  exact I.base.free b o ho (I.ok.frf b hb) fun z=>I.ok.exfs b z hb
theorem Inv.step {g':Array GenState} {t':Nat} {d':Drawn} {ch:List Addr} (I:Inv X pins σ H s)
  (hch:∀ b∈ch,(b∈X.ex∨X.s₀.heap.objs.size <= b) /\ b≠X.env.locals /\ (∀ x c,X.env.cells.lookup x=some c->c≠b) /\ ∀ p∈X.pn++pins,p.1≠b)
  (keep:∀ b o,b≠X.env.locals->b∉X.fs->b∉ch->s.heap.get? b=some o->H b=none->h'.get? b=some o)
  (slot:∀ b o,b≠X.env.locals->b∈X.fs->b∉ch->s.heap.get? b=some o->H b=none->∃ sl,h'.get? b=some { o with slots:=sl }) (free:∀ b o,b∉ch->s.heap.get? b=some o->H b=none->H' b=none)
  (there:∀ b o,b∉ch->s.heap.get? b=some o->∃ o',h'.get? b=some o')
  (tups:∀ b xs,H b=some (.tup xs)->H' b=some (.tup xs)) (frzs:∀ b o u,H b=some (.frz o u)->H' b=some (.frz o u)) (tbls:∀ b ps,H b=some (.tbl ps)->∃ more,H' b=some (.tbl (ps++more)))
  (ns:∀ m,s.heap.Ns X.env.locals m->h'.Ns X.env.locals m) (hok:HOk X.prog X.w H' h') (hg:AllBare g') :
  Inv X pins σ H' { s with heap:=h',gens:=g',drawn:=d',toks:=t' }:=by
 have neL:∀ b o,X.s₀.heap.get? b=some o->b≠X.env.locals:=fun b o e=>yAF (yAJ (Heap.lt_size e) I.ok.above)
 have neC:∀ b o,X.s₀.heap.get? b=some o->b∉X.ex->b∉ch:=fun b o e hx hb=>by
  rcases (hch b hb).1 with z | z
  .exact hx z
  .exact absurd (yAJ (Heap.lt_size e) z) (yAW _)
 have cellK:∀ x c,X.env.cells.lookup x=some c->∀ v,s.heap.IsCell c v->h'.IsCell c v:=fun x c e v ⟨o,ho,hd⟩=>by
  have nch:c∉ch:=fun z=>(hch c z).2.2.1 x c e rfl
  by_cases hc:c∈X.fs
  .obtain ⟨sl,q⟩:=slot c o (I.cne x c e) hc nch ho (I.freeC x c e)
   exact ⟨_,q,hd⟩
  .exact ⟨o,keep c o (I.cne x c e) hc nch ho (I.freeC x c e),hd⟩
 refine ⟨I.ok,I.os,hg,⟨fun b o e n hb hx=>?_,fun b o e n hb hx=>?_,fun b o e n hx=>?_,fun b o e hx=>?_,fun b xs e=>tups b xs (I.base.tups b xs e),fun b o xs e=>frzs b o xs (I.base.frzs b o xs e),fun b ps e=>?_⟩,?_,fun x c e=>?_,?_,fun x c e=>?_,fun p hp=>?_,hok,I.len⟩
 .exact keep b o (neL b o e) hb (neC b o e hx) (I.base.keep b o e n hb hx) (I.base.free b o e n hx)
 .obtain ⟨sl,e1⟩:=I.base.slot b o e n hb hx
  obtain ⟨sl',e2⟩:=slot b _ (neL b o e) hb (neC b o e hx) e1 (I.base.free b o e n hx)
  exact ⟨sl',e2⟩
 .obtain ⟨o',e1⟩:=I.base.there b o e hx
  exact free b o' (neC b o e hx) e1 (I.base.free b o e n hx)
 .obtain ⟨o',e1⟩:=I.base.there b o e hx
  exact there b o' (neC b o e hx) e1
 .obtain ⟨m1,e1⟩:=I.base.tbls b ps e
  obtain ⟨m2,e2⟩:=tbls b _ e1
  exact ⟨m1++m2,by rw [e2,Array.append_assoc]⟩
 .obtain ⟨m,hn,hl⟩:=I.loc
  refine ⟨m,ns m hn,fun i x v e1 e2 e3=>?_⟩
  obtain ⟨u,r,l⟩:=hl i x v e1 e2 e3
  refine ⟨u,r,?_⟩
  rcases l with l | ⟨k,c,e,z⟩
  .exact .inl l
  .exact .inr ⟨k,c,e,cellK x c e _ z⟩
 .obtain ⟨v,z⟩:=I.cell x c e
  exact ⟨v,cellK x c e v z⟩
 .obtain ⟨m,⟨o,_,_,ho,_⟩,_⟩:=I.loc
  exact free _ o (fun z=>(hch _ z).2.1 rfl) ho I.free
 .obtain ⟨v,o,ho,hd⟩:=I.cell x c e
  exact free c o (fun z=>(hch c z).2.2.1 x c e rfl) ho (I.freeC x c e)
 .obtain ⟨e,n,ne,nf,d⟩:=I.pin p hp
  have nch:p.1∉ch:=fun z=>(hch p.1 z).2.2.2 p hp rfl
  exact ⟨keep p.1 p.2 ne nf nch e n,free p.1 p.2 nch e n,ne,nf,d⟩
theorem Inv.un {t':Nat} (I:Inv X pins σ H s) (u:Un X.fs [] H H' s.heap h') (hok:HOk X.prog X.w H' h'):Inv X pins σ H' { s with heap:=h',toks:=t' }:=by
 obtain ⟨m,⟨o,es,ep,ho,r⟩,_⟩:=id I.loc
 obtain ⟨sl,hL⟩:=u.any ho I.free (by simp)
 exact I.step (g':=s.gens) (d':=s.drawn) (ch:=[]) (fun _ z=>nomatch z) (fun b o _ hb _ e n=>u.keep b o e n hb (by simp)) (fun b o _ hb _ e n=>u.slot b o e n hb (by simp)) (fun b o _ e n=>u.free b o e n (by simp)) (fun b o _ e=>u.there b o e (by simp)) u.tups u.frzs u.tbls (fun m' hm=>by
  obtain ⟨o',es',ep',ho',r'⟩:=hm
  rw [ho] at ho';cases ho'
  exact ⟨_,es',ep',hL,r'⟩) hok I.bare
theorem Inv.call {g':Array GenState} {t':Nat} {d':Drawn} {ch:List Addr} (I:Inv X pins σ H s) (u:Un (frs X.stack) ch H H' s.heap h') (hok:HOk X.prog X.w H' h') (hg:AllBare g')
  (hch:∀ b∈ch,(b∈X.ex∨X.s₀.heap.objs.size <= b) /\ b≠X.env.locals /\ (∀ x c,X.env.cells.lookup x=some c->c≠b) /\ ∀ p∈X.pn++pins,p.1≠b) :
  Inv X pins σ H' { s with heap:=h',gens:=g',drawn:=d',toks:=t' }:=by
 obtain ⟨m,⟨o,es,ep,ho,r⟩,_⟩:=id I.loc
 obtain ⟨sl,hL⟩:=u.any ho I.free fun z=>(hch _ z).2.1 rfl
 exact I.step (ch:=ch) hch (fun b o hL hb hc e n=>u.keep b o e n (fun z=>(yAC.mp (I.stkSub b z)).elim hL hb) hc) (fun b o _ _ hc e n=>u.any e n hc) (fun b o hc e n=>u.free b o e n hc) (fun b o hc e=>u.there b o e hc) u.tups u.frzs u.tbls (fun m' hm=>by
  obtain ⟨o',es',ep',ho',r'⟩:=hm
  rw [ho] at ho';cases ho'
  exact ⟨_,es',ep',hL,r'⟩) hok hg
theorem Inv.turned {t':Nat} {it:Addr} (I:Inv X pins σ H s) (k:∀ b o,b≠it->s.heap.get? b=some o->h'.get? b=some o) (hn:H it=none) (hL:it≠X.env.locals)
  (h1:it∈X.ex∨X.s₀.heap.objs.size <= it) (h2:∀ x c,X.env.cells.lookup x=some c->c≠it) (h3:∀ p∈X.pn++pins,p.1≠it):Inv X pins σ H { s with heap:=h',toks:=t' }:=by
 have nit:∀ b u,H b=some u->b≠it:=fun b u e z=>by rw [z,hn] at e;cases e
 refine I.step (g':=s.gens) (d':=s.drawn) (ch:=[it]) (fun b hb=>?_) (fun b o _ _ hc e _=>k b o (fun z=>hc (by simp [z])) e) (fun b o _ _ hc e _=>⟨o.slots,k b o (fun z=>hc (by simp [z])) e⟩) (fun _ _ _ _ n=>n)
  (fun b o hc e=>⟨o,k b o (fun z=>hc (by simp [z])) e⟩) (fun _ _ e=>e) (fun _ _ _ e=>e) (fun b ps e=>⟨#[],by rw [e];simp⟩) (fun m hm=>?_) (fun b u e=>?_) I.bare
 .have e:b=it:=by simpa using hb
  subst e
  exact ⟨h1,hL,h2,h3⟩
 .obtain ⟨o,es,ep,ho,r⟩:=hm
  exact ⟨o,es,ep,k _ o (Ne.symm hL) ho,r⟩
 .refine (I.hok b u e).stay (fun c v hc q=>k c v ?_ q) (fun _ q=>q) fun _ _ q=>q
  rcases hc with z | z
  .rw [z];exact nit b u e
  .exact nit c _ z
theorem Inv.tok (I:Inv X pins σ H s) (t:Nat):Inv X pins σ H { s with toks:=t }:=I.un (h':=s.heap) (t':=t) Un.refl I.hok
theorem Inv.kept {t':Nat} (I:Inv X pins σ H s) (k:∀ b u,s.heap.get? b=some u->h'.get? b=some u):Inv X pins σ H { s with heap:=h',toks:=t' }:=I.un (Un.kept k) (I.hok.kept k)
theorem Inv.laid {a:Addr} {o:HO} {t':Nat} (I:Inv X pins σ H s) (k:∀ b u,s.heap.get? b=some u->h'.get? b=some u) (hp:s.heap.objs.size <= a) (new:ObjOk X.prog X.w (upd H a o) h' a o) :
  Inv X pins σ (upd H a o) { s with heap:=h',toks:=t' }:=I.un (Un.laid k hp (I.hok.fresh hp)) (I.hok.laid k hp new)
theorem Inv.write {x e:Addr} {o:HO} {t':Nat} (I:Inv X pins σ H s) (mu:Mut (H x)) (he:e=x∨H e=some (.own x)) (k:∀ b u,b≠e->s.heap.get? b=some u->h'.get? b=some u) (heo:∃ u,h'.get? e=some u)
  (new:ObjOk X.prog X.w (upd H x o) h' x o):Inv X pins σ (upd H x o) { s with heap:=h',toks:=t' }:=I.un (Un.write mu he k heo) (I.hok.write mu he k heo new)
theorem Inv.pins_of {pins':List (Addr×Obj)} (I:Inv X pins σ H s) (h:∀ p∈pins',s.heap.get? p.1=some p.2 /\ H p.1=none /\ p.1≠X.env.locals /\ p.1∉X.fs /\ ∀ v,p.2.data≠.cell v):Inv X pins' σ H s :=
 ⟨I.ok,I.os,I.bare,I.base,I.loc,I.cell,I.free,I.freeC,fun p hp=>(yAX.mp hp).elim (fun z=>I.pin p (yBF _ z)) (h p),I.hok,I.len⟩
theorem ZCo {N:List Str} (hN:N.Nodup) {i j:Nat} {x:Str} (a:N[i]?=some x) (b:N[j]?=some x):i=j:=by
 obtain ⟨h1,e1⟩:=yAN.mp a
 obtain ⟨h2,e2⟩:=yAN.mp b
 exact (List.getElem_inj hN).mp (e1.trans e2.symm)
theorem store_ok2 {M:Model} {A:Around} {E:Value->Shared->Prop} {i:Nat} {x:Str} {v:V} {u:Value} {Q:Unit->Shared->Prop} (I:Inv X pins σ H s) (hN:X.N.Nodup) (hi:X.N[i]?=some x) (hx:Loc X.env.scope x) (r:RelV v u)
  (h:∀ s',Inv X pins (σ.set i (some v)) H s'->(∃ a,Heap.SameBut a s.heap s'.heap /\ (a=X.env.locals∨X.env.cells.lookup x=some a))->Q () s') (hf:X.fn x=true∨X.env.scope.names.lookup x=some .local:=by first | exact .inl rfl | exact .inr rfl | assumption):wpAny M A (storeName X.env x u) Q E s:=by
 obtain ⟨m,hn,hl⟩:=id I.loc
 have hcls:(X.env.scope.kind == .class || (X.env.scope.kind == .module && X.env.locals != X.env.globals))=false:=by rw [I.ok.kind];rfl
 have hiσ:i < σ.length:=by rw [I.len];exact (yAN.mp hi).1
 have cne:=I.cne
 have tracked:∀ {a:Addr} {h':Heap},(∃ o,s.heap.get? a=some o /\ H a=none)->Heap.SameBut a s.heap h'->HOk X.prog X.w H h':=fun {a h'} ha hs b ob e=>by
  obtain ⟨_,_,hfree⟩:=ha
  refine (I.hok b ob e).stay (fun c w' hc q=>(hs.2 c ?_).trans q) (fun _ q=>q) fun _ _ q=>q
  rintro rfl
  rcases hc with rfl | hc
  .rw [hfree] at e;cases e
  .rw [hfree] at hc;cases hc
 rcases hx with hk | hk
 .refine wpAny_storeName_local hk hn (fun h' hn' hs=>?_) hcls
  obtain ⟨oL,_,_,hoL,_⟩:=id hn
  refine h _ ⟨I.ok,I.os,I.bare,⟨fun b o e n hb hx=>?_,fun b o e n hb hx=>?_,I.base.free,fun b o e hx=>?_,I.base.tups,I.base.frzs,I.base.tbls⟩,⟨_,hn',fun j y v' e1 e2 e3=>?_⟩,fun y c e=>?_,I.free,I.freeC,fun p hp=>?_,tracked ⟨oL,hoL,I.free⟩ hs,by simpa using I.len⟩ ⟨_,hs,.inl rfl⟩
  .exact (hs.2 b (yAF (yAJ (Heap.lt_size e) I.ok.above))).trans (I.base.keep b o e n hb hx)
  .obtain ⟨sl,e1⟩:=I.base.slot b o e n hb hx
   exact ⟨sl,(hs.2 b (yAF (yAJ (Heap.lt_size e) I.ok.above))).trans e1⟩
  .obtain ⟨o',e1⟩:=I.base.there b o e hx
   exact ⟨o',(hs.2 b (yAF (yAJ (Heap.lt_size e) I.ok.above))).trans e1⟩
  .by_cases hj:j=i
   .subst hj
    rw [hi] at e1;cases e1
    rw [List.getElem?_set_self hiσ] at e2
    cases e2
    exact ⟨u,r,.inl ⟨hk,by simp⟩⟩
   .rw [List.getElem?_set_ne (Ne.symm hj)] at e2
    obtain ⟨u',r',q⟩:=hl j y v' e1 e2 e3
    refine ⟨u',r',?_⟩
    rcases q with ⟨k,e⟩ | ⟨k,c,e,z⟩
    .refine .inl ⟨k,?_⟩
     have:y≠x:=fun e=>hj (ZCo hN e1 (e ▸ hi))
     simp [this,e]
    .exact .inr ⟨k,c,e,z.sameBut hs (cne y c e)⟩
  .obtain ⟨w',z⟩:=I.cell y c e
   exact ⟨w',z.sameBut hs (cne y c e)⟩
  .obtain ⟨e,n,ne,nf,d⟩:=I.pin p hp
   exact ⟨(hs.2 p.1 ne).trans e,n,ne,nf,d⟩
 .have hfn:X.fn x=true:=by
   rcases hf with z | z
   .exact z
   .rw [z] at hk;cases hk
  obtain ⟨c,hc⟩:=I.ok.has x (.inl hk)
  obtain ⟨w',z⟩:=I.cell x c hc
  refine wpAny_storeName_cell I.ok.kind hk hc z (fun h' hc' hs=>?_)
  obtain ⟨oc,hoc,hocd⟩:=id z
  refine h { s with heap:=h' } ⟨I.ok,I.os,I.bare,⟨fun b o e n hb hx=>?_,fun b o e n hb hx=>?_,I.base.free,fun b o e hx=>?_,I.base.tups,I.base.frzs,I.base.tbls⟩,⟨m,hn.sameBut hs (Ne.symm (cne x c hc)),fun j y v' e1 e2 e3=>?_⟩,fun y c' e=>?_,I.free,I.freeC,fun p hp=>?_,tracked ⟨oc,hoc,I.freeC x c hc⟩ hs,by simpa using I.len⟩ ⟨c,hs,.inr hc⟩
  .exact (hs.2 b (yAF (yAJ (Heap.lt_size e) (I.ok.cab x c hfn hc)))).trans (I.base.keep b o e n hb hx)
  .obtain ⟨sl,e1⟩:=I.base.slot b o e n hb hx
   exact ⟨sl,(hs.2 b (yAF (yAJ (Heap.lt_size e) (I.ok.cab x c hfn hc)))).trans e1⟩
  .obtain ⟨o',e1⟩:=I.base.there b o e hx
   exact ⟨o',(hs.2 b (yAF (yAJ (Heap.lt_size e) (I.ok.cab x c hfn hc)))).trans e1⟩
  .by_cases hj:j=i
   .subst hj
    rw [hi] at e1;cases e1
    rw [List.getElem?_set_self hiσ] at e2
    cases e2
    exact ⟨u,r,.inr ⟨.inl hk,c,hc,hc'⟩⟩
   .rw [List.getElem?_set_ne (Ne.symm hj)] at e2
    obtain ⟨u',r',q⟩:=hl j y v' e1 e2 e3
    refine ⟨u',r',?_⟩
    rcases q with q | ⟨k,c',e,z'⟩
    .exact .inl q
    .refine .inr ⟨k,c',e,z'.sameBut hs ?_⟩
     rintro rfl
     exact hj (ZCo hN e1 (I.ok.inj _ _ _ e hc ▸ hi))
  .by_cases hcc:c'=c
   .subst hcc;exact ⟨_,hc'⟩
   .obtain ⟨w2,z2⟩:=I.cell y c' e
    exact ⟨w2,z2.sameBut hs hcc⟩
  .obtain ⟨e,n,ne,nf,d⟩:=I.pin p hp
   refine ⟨(hs.2 p.1 ?_).trans e,n,ne,nf,d⟩
   intro q
   rw [q,hoc] at e
   have q':oc=p.2:=Option.some.inj e
   exact d w' (by rw [<- q'];exact hocd)
theorem ZCg {M:Model} {A:Around} {E:Value->Shared->Prop} {i:Nat} {x:Str} {v:V} {u:Value} {Q:Unit->Shared->Prop} (I:Inv X pins σ H s) (hN:X.N.Nodup) (hi:X.N[i]?=some x) (hx:Loc X.env.scope x) (r:RelV v u)
  (h:∀ s',Inv X pins (σ.set i (some v)) H s'->Q () s') (hf:X.fn x=true∨X.env.scope.names.lookup x=some .local:=by first | exact .inl rfl | exact .inr rfl | assumption):wpAny M A (storeName X.env x u) Q E s :=
 store_ok2 I hN hi hx r (fun s' I' _=>h s' I') hf
theorem Inv.call' {s':Shared} {ch:List Addr} (I:Inv X pins σ H s) (ho:s'.os=s.os) (u:Un (frs X.stack) ch H H' s.heap s'.heap) (hok:HOk X.prog X.w H' s'.heap) (hg:AllBare s'.gens)
  (hch:∀ b∈ch,(b∈X.ex∨X.s₀.heap.objs.size <= b) /\ b≠X.env.locals /\ (∀ x c,X.env.cells.lookup x=some c->c≠b) /\ ∀ p∈X.pn++pins,p.1≠b):Inv X pins σ H' s':=by
 obtain ⟨h',g',d',t',o'⟩:=s'
 have e:o'=s.os:=ho
 subst e
 exact I.call (g':=g') (t':=t') (d':=d') u hok hg hch
end
noncomputable abbrev XK:=Value->Option Addr->Hp->Prop
noncomputable abbrev St:=List (Option V)
noncomputable abbrev VK:=V->Hp->Prop
noncomputable abbrev TE:=St->Hp->VK->Prop
noncomputable abbrev TT:=St->Hp->(Bool->Hp->Prop)->Prop
noncomputable abbrev TA:=St->Hp->(List V->Hp->Prop)->Prop
structure Ends where
 nx:St->Hp->Prop
 rt:VK
 bk:St->Hp->Prop:=fun _ _=>False
 ct:St->Hp->Prop:=fun _ _=>False
noncomputable abbrev TS:=Ends->St->Hp->Prop
noncomputable def EP (X:Cx) (pins:List (Addr×Obj)) (σ:St) (Q:VK) (u:Value) (s':Shared):Prop:=∃ v H',Inv X pins σ H' s' /\ RelV v u /\ Q v H'
noncomputable def TP (X:Cx) (pins:List (Addr×Obj)) (σ:St) (Q:Bool->Hp->Prop) (b:Bool) (s':Shared):Prop:=∃ H',Inv X pins σ H' s' /\ Q b H'
noncomputable def AP (X:Cx) (pins:List (Addr×Obj)) (σ:St) (Q:List V->Hp->Prop) (us:List Value) (s':Shared):Prop:=∃ vs H',Inv X pins σ H' s' /\ Vals vs us /\ Q vs H'
noncomputable def SP (X:Cx) (pins:List (Addr×Obj)) (D:Ends) (f:Flow) (s':Shared):Prop :=
 match f with
 | .next=>∃ σ' H',Inv X pins σ' H' s' /\ D.nx σ' H'
 | .brk=>∃ σ' H',Inv X pins σ' H' s' /\ D.bk σ' H'
 | .cont=>∃ σ' H',Inv X pins σ' H' s' /\ D.ct σ' H'
 | .ret u=>∃ v σ' H',Inv X pins σ' H' s' /\ RelV v u /\ D.rt v H'
noncomputable def PE (X:Cx) (e:Expr) (t:TE):Prop :=
 ∀ (pins:List (Addr×Obj)) (s:Shared) (σ:St) (H:Hp) (Q:VK),Inv X pins σ H s->t σ H Q->wpAny (model X.prog X.w) X.A (eval e X.env) (EP X pins σ Q) X.xe s
noncomputable def PT (X:Cx) (e:Expr) (t:TT):Prop :=
 ∀ (pins:List (Addr×Obj)) (s:Shared) (σ:St) (H:Hp) (Q:Bool->Hp->Prop),Inv X pins σ H s->t σ H Q->wpAny (model X.prog X.w) X.A (isTrue e X.env (eval e X.env)) (TP X pins σ Q) X.xe s
noncomputable def PW (X:Cx) (e:Expr) (t:TT):Prop :=
 ∀ (whole:Sem Value) (pins:List (Addr×Obj)) (s:Shared) (σ:St) (H:Hp) (Q:Bool->Hp->Prop),Inv X pins σ H s->t σ H Q->wpAny (model X.prog X.w) X.A (isTrue e X.env whole) (TP X pins σ Q) X.xe s
theorem PW.pt {X:Cx} {e:Expr} {t:TT} (h:PW X e t):PT X e t:=h _
noncomputable def PA (X:Cx) (es:List Expr) (t:TA):Prop :=
 ∀ (pos:Pos) (pins:List (Addr×Obj)) (s:Shared) (σ:St) (H:Hp) (Q:List V->Hp->Prop),Inv X pins σ H s->t σ H Q->wpAny (model X.prog X.w) X.A (spliced (backTo pos (starEach es X.env))) (AP X pins σ Q) X.xe s
noncomputable def PS (X:Cx) (st:Stmt) (t:TS):Prop :=
 ∀ (pins:List (Addr×Obj)) (s:Shared) (σ:St) (H:Hp) (D:Ends),Inv X pins σ H s->t D σ H->wpAny (model X.prog X.w) X.A (exec st X.env) (SP X pins D) X.xe s
noncomputable def PSs (X:Cx) (st:List Stmt) (t:TS):Prop :=
 ∀ (pins:List (Addr×Obj)) (s:Shared) (σ:St) (H:Hp) (D:Ends),Inv X pins σ H s->t D σ H->wpAny (model X.prog X.w) X.A (execs st X.env) (SP X pins D) X.xe s
theorem thn {α:Type} {t:Sem α} {Q Q':α->Shared->Prop} {M:Model} {A:Around} {E:Value->Shared->Prop} {s:Shared} (h:wpAny M A t Q E s) (hQ:∀ a s,Q a s->Q' a s):wpAny M A t Q' E s:=wpAny_mono h hQ fun _ _ x=>x
section
variable {X:Cx}
noncomputable def tVar (i:Nat):TE:=fun σ H Q=>∃ v,σ[i]?=some (some v) /\ Q v H
noncomputable def tC (v:V):TE:=fun _ H Q=>Q v H
theorem pe_var {i:Nat} {x:Str} {pos:Pos} (hN:X.N[i]?=some x) (hv:Vis X.env.scope x) (hd:(x == ("__debug__":Str))=false:=by decide) (hcd:(x == ("__classdict__":Str))=false:=by decide):PE X (.Name x pos) (tVar i):=by
 intro pins s σ H Q I h
 obtain ⟨v,e,h⟩:=h
 obtain ⟨m,hn,hl⟩:=I.loc
 obtain ⟨u,r,l⟩:=hl i x v hN e hv
 have fin:EP X pins σ Q u s:=⟨v,H,I,r,h⟩
 rcases l with ⟨hk,hm⟩ | ⟨hk,c,hc,hcell⟩
 .exact wpAny_Name (wpAny_loadName_local I.ok.kind hk hn hm fin) hd
 .rcases hk with hk | hk
  .exact wpAny_Name (wpAny_loadName_cell I.ok.kind hk hc hcell fin) hd
  .exact wpAny_Name (wpAny_loadName_free I.ok.kind hk hc hcell fin hcd) hd
theorem ZAF {i j pos}:PE X (.Constant (.int i) j pos) (tC (.int i)):=fun _ _ _ H _ I h=>wpAny_Constant_int ⟨.int i,H,I.tok _,⟨_,rfl⟩,h⟩
theorem ZCF {b j pos}:PE X (.Constant (.bool b) j pos) (tC (.bl b)):=fun _ _ _ H _ I h=>Constant_bool ⟨.bl b,H,I,rfl,h⟩
theorem ZB0 {j pos}:PE X (.Constant .none j pos) (tC .non):=fun _ _ _ H _ I h=>Constant_none ⟨.non,H,I,rfl,h⟩
theorem ZAp {x j pos}:PE X (.Constant (.str x) j pos) (tC (.str x)):=fun _ _ _ H _ I h=>Calls.Constant_str ⟨.str x,H,I.tok _,⟨_,rfl⟩,h⟩
noncomputable def Gl (X:Cx) (x:Str):Prop:=X.env.kindOf x=some .globalImplicit
theorem ZCH {E:Value->Shared->Prop} {pins:List (Addr×Obj)} {s:Shared} {σ:St} {H:Hp} {x:Str} {u:Value} {pos:Pos} {Q:Value->Shared->Prop} (I:Inv X pins σ H s) (hg:Gl X x) (hm:X.mg x=some u) (h:Q u s)
  (hd:(x == ("__debug__":Str))=false:=by decide):wpAny (model X.prog X.w) X.A (eval (.Name x pos) X.env) Q E s :=
 Calls.Name_function_global I.ok.kind hg (Calls.loadGlobal_global (by rw [I.ok.glob];exact I.mod.glob.keeps I.bk) hm h) hd
theorem ZC1 {E:Value->Shared->Prop} {pins:List (Addr×Obj)} {s:Shared} {σ:St} {H:Hp} {x:Str} {u:Value} {pos:Pos} {Q:Value->Shared->Prop} (I:Inv X pins σ H s) (hg:Gl X x) (hm:X.mg x=none) (hv:bootBuiltins x=some u) (h:Q u s)
  (hn:x≠"__name__":=by decide) (hd:(x == ("__debug__":Str))=false:=by decide):wpAny (model X.prog X.w) X.A (eval (.Name x pos) X.env) Q E s:=by
 obtain ⟨mb,h1,h2⟩:=I.mod.blt
 exact Calls.Name_function_global I.ok.kind hg (Calls.loadGlobal_builtin (by rw [I.ok.glob];exact I.mod.glob.keeps I.bk) hm (by rw [I.ok.blt];exact h1.keeps I.bk) ((h2 x hn).trans hv) h) hd
theorem ZDB {x:Str} {v:V} {u:Value} {pos:Pos} (hg:Gl X x) (hm:X.mg x=some u) (r:RelV v u) (hd:(x == ("__debug__":Str))=false:=by decide):PE X (.Name x pos) (tC v) :=
 fun _ _ _ H _ I h=>ZCH I hg hm ⟨v,H,I,r,h⟩ hd
theorem pe_bltn {x:Str} {v:V} {u:Value} {pos:Pos} (hg:Gl X x) (hm:X.mg x=none) (hv:bootBuiltins x=some u) (r:RelV v u) (hn:x≠"__name__":=by decide) (hd:(x == ("__debug__":Str))=false:=by decide):PE X (.Name x pos) (tC v) :=
 fun _ _ _ H _ I h=>ZC1 I hg hm hv ⟨v,H,I,r,h⟩ hn hd
variable {a b:Expr} {ta tb:TE} {pos:Pos}
noncomputable def tB (t:TE):TT:=fun σ H Q=>t σ H fun x H1=>∃ c,x=.bl c /\ Q c H1
theorem ZCe {e:Expr} {t:TE} (h:PE X e t) (he:∀ whole,isTrue e X.env whole=(do let v <- whole;standAt e.pos;holding [v] (truthy v)):=by intro _;rfl):PT X e (tB t):=by
 intro pins s σ H Q I hw
 refine isTrue_plain (thn (h pins s σ H _ I hw) fun v s1 zz=>?_) (he _)
 obtain ⟨x,H1,I1,r1,q1⟩:=zz
 obtain ⟨d,rfl,q⟩:=q1
 cases r1
 exact wpAny_truthy_bool ⟨H1,I1,q⟩
variable {tA tB':TT} {rest:List Expr}
noncomputable def tAnd (t u:TT):TT:=fun σ H Q=>t σ H fun c H1=>if c=true then u σ H1 Q else Q false H1
noncomputable def tOr (t u:TT):TT:=fun σ H Q=>t σ H fun c H1=>if c=true then Q true H1 else u σ H1 Q
noncomputable def tNot (t:TT):TT:=fun σ H Q=>t σ H fun c H1=>Q (!c) H1
theorem ZBo (ha:PT X a tA):PW X (.BoolOp .And [a] pos) tA:=by
 intro wh pins s σ H Q I h
 refine isTrue_and (thn (ha pins s σ H Q I h) fun c s1 e=>?_)
 cases c with
 | true=>exact isTrue_and_nil e
 | false=>exact e
theorem ZCV (ha:PT X a tA):PW X (.BoolOp .Or [a] pos) tA:=by
 intro wh pins s σ H Q I h
 refine isTrue_or (thn (ha pins s σ H Q I h) fun c s1 e=>?_)
 cases c with
 | false=>exact isTrue_or_nil e
 | true=>exact e
theorem ZCJ (ha:PT X a tA) (hb:PW X (.BoolOp .And (b::rest) pos) tB'):PW X (.BoolOp .And (a::b::rest) pos) (tAnd tA tB'):=by
 intro wh pins s σ H Q I h
 refine isTrue_and (thn (ha pins s σ H _ I h) fun c s1 ⟨H1,I1,q1⟩=>?_)
 cases c with
 | true=>exact hb wh pins s1 σ H1 Q I1 q1
 | false=>exact ⟨H1,I1,q1⟩
theorem ZCw (ha:PT X a tA) (hb:PW X (.BoolOp .Or (b::rest) pos) tB'):PW X (.BoolOp .Or (a::b::rest) pos) (tOr tA tB'):=by
 intro wh pins s σ H Q I h
 refine isTrue_or (thn (ha pins s σ H _ I h) fun c s1 ⟨H1,I1,q1⟩=>?_)
 cases c with
 | true=>exact ⟨H1,I1,q1⟩
 | false=>exact hb wh pins s1 σ H1 Q I1 q1
theorem ZDG (ha:PT X a tA):PT X (.UnaryOp .Not a pos) (tNot tA):=by
 intro pins s σ H Q I h
 exact isTrue_not (ha pins s σ H (fun c H1=>Q (!c) H1) I h)
noncomputable def ZDs (ta tb:TE):TE:=fun σ H Q=>ta σ H fun x H1=>∃ c,x=.bl c /\ if c=true then tb σ H1 Q else Q (.bl false) H1
noncomputable def tOrV (ta tb:TE):TE:=fun σ H Q=>ta σ H fun x H1=>∃ c,x=.bl c /\ if c=true then Q (.bl true) H1 else tb σ H1 Q
noncomputable def ZDo (ta:TE):TE:=fun σ H Q=>ta σ H fun x H1=>∃ c,x=.bl c /\ Q (.bl (!c)) H1
theorem ZDa {op} {t:TE} (h:PE X a t):PE X (.BoolOp op [a] pos) t:=fun pins s σ H Q I hw=>BoolOp_one (h pins s σ H Q I hw)
theorem pe_and (ha:PE X a ta) (hb:PE X (.BoolOp .And (b::rest) pos) tb):PE X (.BoolOp .And (a::b::rest) pos) (ZDs ta tb):=by
 intro pins s σ H Q I h
 refine BoolOp_and (thn (ha pins s σ H _ I h) fun v s1 zz=>?_)
 obtain ⟨x,H1,I1,r1,q1⟩:=zz
 obtain ⟨c,rfl,q1⟩:=q1
 cases r1
 refine wpAny_truthy_bool ?_
 cases c with
 | true=>exact hb pins s1 σ H1 Q I1 q1
 | false=>exact ⟨.bl false,H1,I1,rfl,q1⟩
theorem pe_or (ha:PE X a ta) (hb:PE X (.BoolOp .Or (b::rest) pos) tb):PE X (.BoolOp .Or (a::b::rest) pos) (tOrV ta tb):=by
 intro pins s σ H Q I h
 refine BoolOp_or (thn (ha pins s σ H _ I h) fun v s1 zz=>?_)
 obtain ⟨x,H1,I1,r1,q1⟩:=zz
 obtain ⟨c,rfl,q1⟩:=q1
 cases r1
 refine wpAny_truthy_bool ?_
 cases c with
 | false=>exact hb pins s1 σ H1 Q I1 q1
 | true=>exact ⟨.bl true,H1,I1,rfl,q1⟩
theorem pe_not (ha:PE X a ta):PE X (.UnaryOp .Not a pos) (ZDo ta):=by
 intro pins s σ H Q I h
 refine UnaryOp_ (thn (ha pins s σ H _ I h) fun v s1 zz=>?_)
 obtain ⟨x,H1,I1,r1,q1⟩:=zz
 obtain ⟨c,rfl,q1⟩:=q1
 cases r1
 exact not_of (wpAny_truthy_bool ⟨.bl (!c),H1,I1,rfl,q1⟩)
noncomputable def tIf (t:TT) (ta tb:TE):TE:=fun σ H Q=>t σ H fun c H1=>if c=true then ta σ H1 Q else tb σ H1 Q
theorem pe_ifExp {c:Expr} (hc:PT X c tA) (ha:PE X a ta) (hb:PE X b tb):PE X (.IfExp c a b pos) (tIf tA ta tb):=by
 intro pins s σ H Q I h
 refine wpAny_IfExp (thn (hc pins s σ H _ I h) fun d s1 ⟨H1,I1,q1⟩=>?_)
 cases d with
 | true=>exact ha pins s1 σ H1 Q I1 q1
 | false=>exact hb pins s1 σ H1 Q I1 q1
end
noncomputable def SqL (K:W.Frag) (H:Hp) (a:Addr) (xs:List V):Prop :=
 Rd H a (.lst xs) ∨
  ∃ (o:Obj) (its:Array Value) (n:Nat),K.lookup a=some o /\ o.cls=.type "list" /\ o.dict=none /\ o.data=.seq its n /\ its.size <= sizeLine /\ Vals xs its.toList
noncomputable def SqT (K:W.Frag) (H:Hp) (a:Addr) (xs:List V):Prop :=
 Rd H a (.tup xs) ∨
  ∃ (o:Obj) (its:Array Value) (n:Nat),K.lookup a=some o /\ o.cls=.type "tuple" /\ o.data=.seq its n /\ its.size <= sizeLine /\ Vals xs its.toList
noncomputable def absV:Value->Option V
 | .none=>some .non
 | .bool b=>some (.bl b)
 | .int i _=>some (.int i)
 | .str x _=>some (.str x)
 | .bytes b _=>some (.byt b)
 | .float b _=>some (.flt b)
 | .ref a=>some (.ref a)
 | .type n=>some (.ty n)
 | _=>none
theorem RelV.abs {x:V} {u:Value} (r:RelV x u):absV u=some x:=by
 cases x with
 | non=>cases r;rfl
 | bl _=>cases r;rfl
 | int _=>obtain ⟨t,rfl⟩:=r;rfl
 | str _=>obtain ⟨t,rfl⟩:=r;rfl
 | byt _=>obtain ⟨t,rfl⟩:=r;rfl
 | flt _=>obtain ⟨t,rfl⟩:=r;rfl
 | ref _=>cases r;rfl
 | ty _=>cases r;rfl
theorem RelV.inj {x y:V} {u:Value} (r:RelV x u) (q:RelV y u):x=y:=Option.some.inj (r.abs.symm.trans q.abs)
theorem Vals.inj:∀ {xs ys:List V} {us:List Value},Vals xs us->Vals ys us->xs=ys
 | _,_,_,.nil,.nil=>rfl
 | _,_,_,.cons r t,.cons r' t'=>by rw [r.inj r',Vals.inj t t']
section
variable {X:Cx} {pins:List (Addr×Obj)} {σ:St} {H:Hp} {s:Shared} {a:Addr} {xs ys:List V}
theorem SqL.of {K:W.Frag} (h:H a=some (.lst xs)):SqL K H a xs:=.inl (.inl h)
theorem SqT.of {K:W.Frag} (h:H a=some (.tup xs)):SqT K H a xs:=.inl (.inl h)
theorem Inv.list (I:Inv X pins σ H s) (h:SqL X.K H a xs):∃ its:List Value,Vals xs its /\ PlainL s.heap a its.toArray /\ xs.length <= sizeLine:=by
 rcases h with h | ⟨o,its,n,hk,hc,hd,hs,hz,r⟩
 .obtain ⟨z,its,n,r,e⟩:=h.ok I.hok
  exact ⟨its,r,⟨_,n,e,rfl,rfl,rfl⟩,z⟩
 .refine ⟨its.toList,r,⟨o,n,I.kIn a o hk,hc,hd,by simpa using hs⟩,?_⟩
  have e:=r.length
  simp only [Array.length_toList] at e
  omega
theorem Inv.tuple (I:Inv X pins σ H s) (h:SqT X.K H a xs):∃ its:List Value,Vals xs its /\ IsTup s.heap a its.toArray /\ xs.length <= sizeLine:=by
 rcases h with h | ⟨o,its,n,hk,hc,hs,hz,r⟩
 .obtain ⟨z,its,r,p⟩:=h.ok I.hok
  exact ⟨its,r,p,z⟩
 .refine ⟨its.toList,r,⟨o,I.kIn a o hk,hc,n,by simpa using hs⟩,?_⟩
  have e:=r.length
  simp only [Array.length_toList] at e
  omega
theorem Inv.list_inj (I:Inv X pins σ H s) (h:SqL X.K H a xs) (h':SqL X.K H a ys):xs=ys:=by
 obtain ⟨its,r,⟨o,n,e,_,_,d⟩,_⟩:=I.list h
 obtain ⟨its',r',⟨o',n',e',_,_,d'⟩,_⟩:=I.list h'
 rw [e] at e';cases e'
 rw [d] at d'
 injection d' with d1 _
 have:its=its':=by simpa using congrArg Array.toList d1
 subst this
 exact r.inj r'
end
noncomputable abbrev Cx.wish (X:Cx) (E:Value->Shared->Prop):Cx:={ X with xe:=E }
noncomputable abbrev Cx.nox (X:Cx):Cx:=X.wish fun _ _=>False
theorem Cx.Ok.wish {X:Cx} (ok:X.Ok) (E:Value->Shared->Prop):(X.wish E).Ok :=
 ⟨ok.mod,ok.kind,ok.glob,ok.blt,ok.above,ok.inj,ok.has,ok.cab,ok.hd,ok.frames,ok.stk,ok.exf,ok.bs,ok.bsz,ok.noex,ok.exfs,ok.funs,ok.frf⟩
theorem Cx.Ok.unwish {X:Cx} {E:Value->Shared->Prop} (ok:(X.wish E).Ok):X.Ok :=
 ⟨ok.mod,ok.kind,ok.glob,ok.blt,ok.above,ok.inj,ok.has,ok.cab,ok.hd,ok.frames,ok.stk,ok.exf,ok.bs,ok.bsz,ok.noex,ok.exfs,ok.funs,ok.frf⟩
section
variable {X:Cx} {pins:List (Addr×Obj)} {σ:St} {H:Hp} {s:Shared} {E:Value->Shared->Prop}
theorem Inv.wish (I:Inv X pins σ H s) (E:Value->Shared->Prop):Inv (X.wish E) pins σ H s:=⟨I.ok.wish E,I.os,I.bare,I.base,I.loc,I.cell,I.free,I.freeC,I.pin,I.hok,I.len⟩
theorem Inv.unwish (I:Inv (X.wish E) pins σ H s):Inv X pins σ H s:=⟨I.ok.unwish,I.os,I.bare,I.base,I.loc,I.cell,I.free,I.freeC,I.pin,I.hok,I.len⟩
theorem SP.unwish {D:Ends} {f:Flow} {s':Shared} (h:SP (X.wish E) pins D f s'):SP X pins D f s':=by
 cases f with
 | next=>obtain ⟨σ',H',I,q⟩:=h;exact ⟨σ',H',I.unwish,q⟩
 | brk=>obtain ⟨σ',H',I,q⟩:=h;exact ⟨σ',H',I.unwish,q⟩
 | cont=>obtain ⟨σ',H',I,q⟩:=h;exact ⟨σ',H',I.unwish,q⟩
 | ret u=>obtain ⟨v,σ',H',I,r,q⟩:=h;exact ⟨v,σ',H',I.unwish,r,q⟩
theorem PSs.nox {st:List Stmt} {t:TS} (h:PSs X.nox st t):PSs X st t:=fun pins s σ H D I hw=>
 wpAny_mono (h pins s σ H D (I.wish _) hw) (fun _ _ q=>q.unwish) fun _ _ z=>False.elim z
end
section
variable {X:Cx} {st:Stmt} {rest:List Stmt} {t u:TS} {e:Expr} {te:TE} {pos:Pos}
noncomputable def ZDp:TS:=fun D σ H=>D.nx σ H
noncomputable def tSeq (t u:TS):TS:=fun D σ H=>t { D with nx:=u D } σ H
theorem ZAN:PSs X [] ZDp:=fun _ _ σ H _ I h=>wpAny_execs_nil ⟨σ,H,I,h⟩
theorem ZAC (h1:PS X st t) (h2:PSs X rest u):PSs X (st::rest) (tSeq t u):=by
 intro pins s σ H D I h
 refine wpAny_execs_cons (thn (h1 pins s σ H { D with nx:=u D } I h) fun f s1 q=>?_)
 cases f with
 | next=>
  obtain ⟨σ',H',I',q⟩:=q
  exact h2 pins s1 σ' H' D I' q
 | ret v=>exact q
 | brk=>exact q
 | cont=>exact q
theorem ZAE (h1:PS X st t):PSs X [st] t:=by
 intro pins s σ H D I h
 refine wpAny_execs_cons (thn (h1 pins s σ H D I h) fun f s1 q=>?_)
 cases f with
 | next=>exact wpAny_execs_nil q
 | ret v=>exact q
 | brk=>exact q
 | cont=>exact q
theorem Inv.quiet {pins:List (Addr×Obj)} {σ:St} {H:Hp} {s:Shared} (I:Inv X pins σ H s):interactive X.env=false:=by simp [interactive,I.ok.kind]
noncomputable def ZDr (te:TE):TS:=fun D σ H=>te σ H fun _ H1=>D.nx σ H1
theorem ZCX (he:PE X e te) (hs:swapsWith e none pos.line X.env=pure false:=by rfl):PS X (.Expr e pos) (ZDr te):=by
 intro pins s σ H D I h
 exact wpAny_Expr_any (thn (he pins s σ H _ I h) fun v s1 ⟨x,H1,I1,r1,q1⟩=>⟨σ,H1,I1,q1⟩) I.quiet hs
noncomputable def tRet (te:TE):TS:=fun D σ H=>te σ H D.rt
theorem ZAL (he:PE X e te):PS X (.Return (some e) pos) (tRet te):=by
 intro pins s σ H D I h
 exact wpAny_Return_some (thn (he pins s σ H _ I h) fun v s1 ⟨x,H1,I1,r1,q1⟩=>⟨x,σ,H1,I1,r1,q1⟩)
noncomputable def tRetN:TS:=fun D _ H=>D.rt .non H
noncomputable def tIfS (c:TT) (t u:TS):TS:=fun D σ H=>c σ H fun b H1=>if b=true then t D σ H1 else u D σ H1
theorem ZAx {c:Expr} {a b:List Stmt} {tc:TT} (hc:PT X c tc) (ha:PSs X a t) (hb:PSs X b u):PS X (.If c a b pos) (tIfS tc t u):=by
 intro pins s σ H D I h
 refine wpAny_If (thn (hc pins s σ H _ I h) fun d s1 ⟨H1,I1,q1⟩=>?_)
 cases d with
 | true=>exact ha pins s1 σ H1 D I1 q1
 | false=>exact hb pins s1 σ H1 D I1 q1
noncomputable def ZDS:TS:=fun _ _ _=>False
theorem ps_never:PS X st ZDS:=fun _ _ _ _ _ _ h=>h.elim
end
noncomputable abbrev TG:=V->St->Hp->(St->Hp->Prop)->Prop
noncomputable abbrev TGs:=List V->St->Hp->(St->Hp->Prop)->Prop
noncomputable def PG (X:Cx) (target:Expr) (t:TG):Prop :=
 ∀ (pins:List (Addr×Obj)) (s:Shared) (σ:St) (H:Hp) (v:V) (u:Value) (Q:St->Hp->Prop),Inv X pins σ H s->RelV v u->t v σ H Q ->
  wpAny (model X.prog X.w) X.A (assign target X.env u) (fun _ s'=>∃ σ' H',Inv X pins σ' H' s' /\ Q σ' H') X.xe s
noncomputable def PGs (X:Cx) (ts:List Expr) (t:TGs):Prop :=
 ∀ (pins:List (Addr×Obj)) (s:Shared) (σ:St) (H:Hp) (vs:List V) (us:List Value) (Q:St->Hp->Prop),Inv X pins σ H s->Vals vs us->t vs σ H Q ->
  wpAny (model X.prog X.w) X.A (assignInOrder ((assignEach ts X.env).map (·.2)) us) (fun _ s'=>∃ σ' H',Inv X pins σ' H' s' /\ Q σ' H') X.xe s
noncomputable abbrev TSet:=V->V->V->Hp->(Hp->Prop)->Prop
noncomputable abbrev TIp:=V->V->Hp->VK->Prop
section
variable {X:Cx} {pos:Pos}
noncomputable def ZCt (i:Nat):TG:=fun v σ H Q=>Q (σ.set i (some v)) H
theorem ZA1 {i:Nat} {x:Str} (hN:X.N.Nodup) (hi:X.N[i]?=some x) (hx:Loc X.env.scope x) (hf:X.fn x=true∨X.env.scope.names.lookup x=some .local:=by first | exact .inl rfl | exact .inr rfl | assumption):PG X (.Name x pos) (ZCt i):=by
 intro pins s σ H v u Q I r h
 exact wpAny_assign_Name (ZCg I hN hi hx r (fun s' I'=>⟨_,H,I',h⟩) hf)
noncomputable def gNil:TGs:=fun vs σ H Q=>vs=[] /\ Q σ H
noncomputable def ZDy (t:TG) (u:TGs):TGs:=fun vs σ H Q=>∃ v r,vs=v::r /\ t v σ H fun σ' H'=>u r σ' H' Q
theorem pgs_nil:PGs X [] gNil:=by
 intro pins s σ H vs us Q I r h
 obtain ⟨e,h⟩:=h
 subst e
 cases r
 exact assignInOrder_nil ⟨σ,H,I,h⟩
theorem ZCO {e:Expr} {es:List Expr} {t:TG} {u:TGs} (h1:PG X e t) (h2:PGs X es u)
  (hs:(assignEach (e::es) X.env).map (·.2)=assign e X.env::(assignEach es X.env).map (·.2):=by rfl):PGs X (e::es) (ZDy t u):=by
 intro pins s σ H vs us Q I r h
 obtain ⟨v,vr,e1,h⟩:=h
 subst e1
 cases r with
 | cons r rr=>
  rw [hs]
  refine assignInOrder_cons (thn (h1 pins s σ H _ _ _ I r h) fun _ s1 zz=>?_)
  obtain ⟨σ1,H1,I1,q1⟩:=zz
  exact h2 pins s1 σ1 H1 _ _ Q I1 rr q1
noncomputable def gTup (K:W.Frag) (n:Nat) (t:TGs):TG:=fun v σ H Q=>∃ a xs,v=.ref a /\ SqT K H a xs /\ xs.length=n /\ t xs σ H Q
theorem pg_tup {es:List Expr} {k:Nat} {t:TGs} {n:Nat} (hc:X.calm=true) (h:PGs X es t)
  (hn:(assignEach es X.env).length=n:=by rfl) (hst:(assignEach es X.env).findIdx? (·.1)=none:=by rfl):PG X (.Tuple es k pos) (gTup X.K n t):=by
 intro pins s σ H v u Q I r hw
 obtain ⟨a,xs,e1,hq,hl,hw⟩:=hw
 subst e1
 cases r
 obtain ⟨its,rv,ht,hz⟩:=I.tuple hq
 refine assign_Tuple_tuple (I.ok.hd hc) ht (by simp [hn,<- hl,rv.length]) hst fun h' hx=>?_
 have I1:Inv X pins σ H { s with heap:=h' }:=I.kept (t':=s.toks) fun b o e=>hx b o (yAF (Heap.lt_size e)) e
 exact h pins _ σ H xs _ Q I1 (by simpa using rv) hw
noncomputable def gSub (to ti:TE) (t:TSet):TG:=fun v σ H Q=>to σ H fun o H1=>ti σ H1 fun i H2=>t o i v H2 fun H3=>Q σ H3
noncomputable def tAsg (te:TE) (g:TG):TS:=fun D σ H=>te σ H fun x H1=>g x σ H1 D.nx
theorem ZAV {i:Nat} {x:Str} {e:Expr} {te:TE} {pos':Pos} (hN:X.N.Nodup) (hi:X.N[i]?=some x) (hx:Loc X.env.scope x) (he:PE X e te) (hs:swapsWith e (some (.Name x pos')) pos.line X.env=pure false:=by rfl) (hf:X.fn x=true∨X.env.scope.names.lookup x=some .local:=by first | exact .inl rfl | exact .inr rfl | assumption) :
  PS X (.Assign [.Name x pos'] e pos) (tAsg te (ZCt i)):=by
 intro pins s σ H D I h
 refine wpAny_Assign_Name (thn (he pins s σ H _ I h) fun v s1 zz=>?_) hs
 obtain ⟨y,H1,I1,r1,q1⟩:=zz
 exact ZCg I1 hN hi hx r1 (fun s2 I2=>⟨_,H1,I2,q1⟩) hf
noncomputable def tAug (i:Nat) (te:TE) (ti:TIp):TS:=fun D σ H=>∃ x,σ[i]?=some (some x) /\ te σ H fun y H1=>ti x y H1 fun z H2=>D.nx (σ.set i (some z)) H2
noncomputable def ipI (f:Int->Int->Int):TIp:=fun x y H Q=>∃ i j,x=.int i /\ y=.int j /\ Q (.int (f i j)) H
end
section
variable {X:Cx} {pos:Pos}
end
structure It where
 go:Nat->Hp->Prop
 yld:Nat->Hp->V->Hp->Prop
 stop:Nat->Hp->Prop
noncomputable def FpOk (X:Cx) (pins:List (Addr×Obj)) (H:Hp) (b:Addr):Prop :=
 H b=none /\ b≠X.env.locals /\ b∉X.fs /\ (b∈X.ex∨X.s₀.heap.objs.size <= b) /\ (∀ x c,X.env.cells.lookup x=some c->c≠b) /\ ∀ p∈X.pn++pins,p.1≠b
theorem Inv.fpOk {X:Cx} {pins:List (Addr×Obj)} {σ:St} {H H':Hp} {s:Shared} {b:Addr} (I:Inv X pins σ H s) (hb:s.heap.objs.size <= b) (hn:H' b=none):FpOk X pins H' b:=by
 refine ⟨hn,Nat.ne_of_gt (yAJ I.lt hb),I.nofs hb,.inr (yAD I.sz hb),fun x c e z=>?_,fun p hp z=>?_⟩
 .obtain ⟨v,q⟩:=I.cell x c e
  exact absurd (yAJ q.lt (by rw [z];exact hb)) (yAW _)
 .exact absurd (yAJ (Heap.lt_size (I.pin p hp).1) (by rw [z];exact hb)) (yAW _)
structure Turn (P:Program) (w:World) (K:W.Frag) (tg:Expr) (J:It) (fp:List Addr) (it:Addr) (tn:Nat->Heap->Prop):Prop where
 mem:it∈fp
 obj:∀ i h,tn i h->∀ b∈fp,∃ o,h.get? b=some o /\ ∀ v,o.data≠.cell v
 keep:∀ i h h',tn i h->(∀ b∈fp,∀ o,h.get? b=some o->h'.get? b=some o)->tn i h'
 item:∀ (X:Cx),X.prog=P->X.w=w->X.K=K->X.calm=true->∀ (i:Nat) (pins:List (Addr×Obj)) (s:Shared) (σ:St) (H:Hp) (E:Value->Shared->Prop),Inv X pins σ H s->(∀ b∈fp,FpOk X pins H b)->tn i s.heap->J.go i H ->
  wpAny (model P w) X.A (pyNext (.ref it)) (fun r s1=>∃ u,r=some u /\
   wpAny (model P w) X.A (letOwnedTupleGo tg (.ref it) u) (fun _ s2=>∃ x H',Inv X pins σ H' s2 /\ RelV x u /\ J.yld i H x H' /\ tn (i+1) s2.heap /\ ∀ b∈fp,H' b=none) E s1) E s
 done:∀ (X:Cx),X.prog=P->X.w=w->X.K=K->X.calm=true->∀ (i:Nat) (pins:List (Addr×Obj)) (s:Shared) (σ:St) (H:Hp) (E:Value->Shared->Prop),Inv X pins σ H s->(∀ b∈fp,FpOk X pins H b)->tn i s.heap->J.stop i H ->
  wpAny (model P w) X.A (pyNext (.ref it)) (fun r s1=>r=none /\ Inv X pins σ H s1) E s
 self:∀ (A:Around) (i:Nat) (s:Shared) (Q:Value->Shared->Prop) (E:Value->Shared->Prop),tn i s.heap->Q (.ref it) s->wpAny (model P w) A (pyIter (.ref it)) Q E s
noncomputable abbrev TI:=St->Hp->(It->Hp->Prop)->Prop
noncomputable def PIE (X:Cx) (pins:List (Addr×Obj)) (σ:St) (tg:Expr) (R:It->Hp->Prop) (itv:Value) (s2:Shared):Prop :=
 ∃ (it:Addr) (fp:List Addr) (tn:Nat->Heap->Prop) (J:It) (H':Hp),itv=.ref it /\ Inv X pins σ H' s2 /\ Turn X.prog X.w X.K tg J fp it tn /\ tn 0 s2.heap /\ (∀ b∈fp,FpOk X pins H' b) /\ R J H'
noncomputable def PI (X:Cx) (tg iter:Expr) (wi:TI):Prop :=
 ∀ (pins:List (Addr×Obj)) (s:Shared) (σ:St) (H:Hp) (R:It->Hp->Prop),Inv X pins σ H s->wi σ H R ->
  wpAny (model X.prog X.w) X.A (eval iter X.env) (fun v s1=>wpAny (model X.prog X.w) X.A (pyIter v) (PIE X pins σ tg R) X.xe s1) X.xe s
theorem ZDw {M:Model} {A:Around} {E:Value->Shared->Prop} {s:Shared} {tg:Expr} {it:Addr} {u:Value} {o:Obj} {n:String} {vs:Array Value} {Q:Unit->Shared->Prop} (ho:s.heap.get? it=some o) (hc:o.cls=.type n) (hd:o.data=.fields vs)
  (hn:["enumerate","zip","dict_itemiterator","dict_reverseitemiterator","odict_iterator","itertools.zip_longest","itertools.pairwise"].contains n=false) (hQ:Q () s):wpAny M A (letOwnedTupleGo tg (.ref it) u) Q E s:=by
 unfold letOwnedTupleGo
 cases tg <;> first
  | exact wpAny_pure hQ
  | (cases u <;> first
    | exact wpAny_pure hQ
    | (refine wpAny_bind (wpAny_load ho ?_)
       rw [hc,hd]
       show wpAny M A (if (["enumerate","zip","dict_itemiterator","dict_reverseitemiterator","odict_iterator","itertools.zip_longest","itertools.pairwise"].contains n && vs[0]? == some (rawInt _))=true then _ else _) Q E s
       rw [if_neg (by intro h;rw [hn,Bool.false_and] at h;cases h)]
       exact wpAny_pure hQ))
noncomputable def Itl (K:W.Frag) (a:Addr):It :=
 ⟨fun i H=>∃ xs x,SqL K H a xs /\ xs[i]?=some x,fun i H x H'=>H'=H /\ ∀ xs,SqL K H a xs->xs[i]?=some x,fun i H=>∃ xs,SqL K H a xs /\ xs.length <= i⟩
noncomputable def Itt (K:W.Frag) (a:Addr):It :=
 ⟨fun i H=>∃ xs x,SqT K H a xs /\ xs[i]?=some x,fun i H x H'=>H'=H /\ ∀ xs,SqT K H a xs->xs[i]?=some x,fun i H=>∃ xs,SqT K H a xs /\ xs.length <= i⟩
noncomputable def Itr (lo:Int) (n:Nat):It:=⟨fun i _=>i < n,fun i H x H'=>H'=H /\ x=.int (lo+i),fun i _=>n <= i⟩
theorem turn_list {P:Program} {w:World} {K:W.Frag} {tg:Expr} (a it:Addr):Turn P w K tg (Itl K a) [it] it (fun i h=>h.IsListIter it a i) where
 mem:=by simp
 obj:=fun i h st b hb=>by
  have e:b=it:=by simpa using hb
  subst e
  obtain ⟨o,e,c,d⟩:=st
  exact ⟨o,e,fun v z=>by rw [d] at z;cases z⟩
 keep:=fun i h h' st k=>st.at fun o e=>k it (by simp) o e
 item:=by
  intro X hP hw hK hc i pins s σ H E I hf st hg
  subst hP hw hK
  obtain ⟨xs,x,hq,hx⟩:=hg
  obtain ⟨its,rv,p,hz⟩:=I.list hq
  obtain ⟨u,hu,ru⟩:=rv.get hx
  obtain ⟨f0,f1,f2,f3,f4,f5⟩:=hf it (by simp)
  refine wpAny_pyNext_list_item st p.isList (x:=u) (by simpa using hu) fun h' st' sb=>?_
  have I1:Inv X pins σ H { s with heap:=h' }:=I.turned (t':=s.toks) (fun b o hb e=>(sb.2 b hb).trans e) f0 f1 f3 f4 f5
  obtain ⟨o,e,c,d⟩:=id st'
  exact ⟨u,rfl,ZDw (s:={ s with heap:=h' }) e c d (by decide) ⟨x,H,I1,ru,⟨rfl,fun ys hy=>by rw [I.list_inj hy hq];exact hx⟩,st',fun b hb=>(hf b hb).1⟩⟩
 done:=by
  intro X hP hw hK hc i pins s σ H E I hf st hg
  subst hP hw hK
  obtain ⟨xs,hq,hx⟩:=hg
  obtain ⟨its,rv,p,hz⟩:=I.list hq
  obtain ⟨f0,f1,f2,f3,f4,f5⟩:=hf it (by simp)
  have hl:=rv.length
  exact wpAny_pyNext_list_end (I.ok.hd hc) st p.isList (by simp;omega) fun h' eb=>⟨rfl,I.turned (t':=s.toks) (fun b o hb e=>eb b o hb e) f0 f1 f3 f4 f5⟩
 self:=fun _ _ _ _ _ st h=>wpAny_pyIter_listiter st h
theorem turn_range {P:Program} {w:World} {K:W.Frag} {tg:Expr} (it:Addr) (lo:Int) (n:Nat):Turn P w K tg (Itr lo n) [it] it (fun i h=>IsRangeIter h it (lo+(i:Nat) * 1) ((n:Int)-(i:Nat)) 1) where
 mem:=by simp
 obj:=fun i h st b hb=>by
  have e:b=it:=by simpa using hb
  subst e
  exact ⟨_,st,fun v z=>by
   have z':Data.fields _=Data.cell v:=z
   cases z'⟩
 keep:=fun i h h' st k=>k it (by simp) _ st
 item:=by
  intro X hP hw hK hc i pins s σ H E I hf st hg
  subst hP hw hK
  obtain ⟨f0,f1,f2,f3,f4,f5⟩:=hf it (by simp)
  have W:=Walks.range (prog:=X.prog) (w:=X.w) (I.ok.hd hc) it lo 1 n
  refine W.item i s _ _ hg st fun v h' tk hv st' kk=>?_
  obtain ⟨t,rfl⟩:=hv
  have I1:Inv X pins σ H { s with heap:=h',toks:=tk }:=I.turned (fun b o hb e=>kk b o (by simpa using hb) e) f0 f1 f3 f4 f5
  refine ⟨_,rfl,ZDw (s:={ s with heap:=h',toks:=tk }) (n:="range_iterator") st' rfl rfl (by decide) ⟨.int (lo+i),H,I1,⟨t,?_⟩,⟨rfl,rfl⟩,st',fun b hb=>(hf b hb).1⟩⟩
  rw [Int.mul_one]
 done:=by
  intro X hP hw hK hc i pins s σ H E I hf st hg
  subst hP hw hK
  obtain ⟨f0,f1,f2,f3,f4,f5⟩:=hf it (by simp)
  exact wpAny_pyNext_range_end (I.ok.hd hc) st (by have:n <= i:=hg;omega) fun h' eb=>⟨rfl,I.turned (t':=s.toks) (fun b o hb e=>eb b o hb e) f0 f1 f3 f4 f5⟩
 self:=fun _ _ _ _ _ st h=>wpAny_pyIter_rangeiter st h
section
variable {X:Cx} {tg:Expr}
noncomputable def ZDv (K:W.Frag) (tl:TE):TI:=fun σ H R=>tl σ H fun x H1=>∃ a,x=.ref a /\ (∃ xs,SqL K H1 a xs) /\ R (Itl K a) H1
noncomputable def iTup (K:W.Frag) (tl:TE):TI:=fun σ H R=>tl σ H fun x H1=>∃ a,x=.ref a /\ (∃ xs,SqT K H1 a xs) /\ R (Itt K a) H1
theorem ZBd {l:Expr} {tl:TE} (hl:PE X l tl):PI X tg l (ZDv X.K tl):=by
 intro pins s σ H R I h
 refine thn (hl pins s σ H _ I h) fun v s1 zz=>?_
 obtain ⟨x,H1,I1,r1,q1⟩:=zz
 obtain ⟨a,e,⟨xs,hq⟩,q⟩:=q1
 subst e
 cases r1
 obtain ⟨its,rv,p,hz⟩:=I1.list hq
 refine wpAny_pyIter_list p.isList ?_
 refine ⟨s1.heap.objs.size,[s1.heap.objs.size],_,_,H1,rfl,I1.kept (t':=s1.toks) fun b o e=>Heap.get?_push_of_some _ e,turn_list a _,⟨_,Heap.get?_push_size _ rfl,rfl,rfl⟩,fun b hb=>?_,q⟩
 have e:b=s1.heap.objs.size:=by simpa using hb
 subst e
 exact I1.fpOk (yAA _) (I1.hok.fresh (yAA _))
theorem range_it {pins:List (Addr×Obj)} {σ:St} {H:Hp} {s:Shared} {R:It->Hp->Prop} {E:Value->Shared->Prop} {lo hi:Int} {t u v:Tok} {tk:Nat} (I:Inv X pins σ H s) (h1:-(2 ^ 62) <= lo) (h2:lo < 2 ^ 62) (h3:-(2 ^ 62) <= hi) (h4:hi < 2 ^ 62)
  (q:R (Itr lo (hi-lo).toNat) H):wpAny (model X.prog X.w) X.A (pyIter (.ref s.heap.objs.size)) (PIE X pins σ tg R) E { s with heap:=s.heap.push { cls:=.type "range",data:=.fields #[.int lo t,.int hi u,.int 1 v] },toks:=tk }:=by
 refine wpAny_pyIter_range (IsRange.new ..) (small_one h1 h2 h3 h4) ?_
 have I1:Inv X pins σ H { s with heap:=s.heap.push { cls:=.type "range",data:=.fields #[.int lo t,.int hi u,.int 1 v] },toks:=tk }:=I.kept fun b o e=>Heap.get?_push_of_some _ e
 refine ⟨(s.heap.push { cls:=.type "range",data:=.fields #[.int lo t,.int hi u,.int 1 v] }).objs.size,[(s.heap.push { cls:=.type "range",data:=.fields #[.int lo t,.int hi u,.int 1 v] }).objs.size],_,_,H,rfl,
  I1.kept (t':=tk) fun b o e=>Heap.get?_push_of_some _ e,turn_range _ lo (hi-lo).toNat,?_,fun b hb=>?_,q⟩
 .have e1:lo+((0:Nat):Int) * 1=lo:=by simp
  have e2:(((hi-lo).toNat:Nat):Int)-((0:Nat):Int)=Builtin.Range.rangeSize lo hi 1:=by rw [rangeSize_one];split <;> omega
  show IsRangeIter _ _ (lo+((0:Nat):Int) * 1) ((((hi-lo).toNat:Nat):Int)-((0:Nat):Int)) 1
  rw [e1,e2]
  exact Heap.get?_push_size _ rfl
 .have e:b=(s.heap.push { cls:=.type "range",data:=.fields #[.int lo t,.int hi u,.int 1 v] }).objs.size:=by simpa using hb
  subst e
  exact I1.fpOk (yAA _) (I1.hok.fresh (yAA _))
noncomputable def ZDu (ta:TA):TI:=fun σ H R=>ta σ H fun vs H1=>∃ j:Int,vs=[.int j] /\ -(2 ^ 62) <= j /\ j < 2 ^ 62 /\ R (Itr 0 j.toNat) H1
noncomputable def iRng2 (ta:TA):TI:=fun σ H R=>ta σ H fun vs H1=>∃ i j:Int,vs=[.int i,.int j] /\ (-(2 ^ 62) <= i /\ i < 2 ^ 62 /\ -(2 ^ 62) <= j /\ j < 2 ^ 62) /\ R (Itr i (j-i).toNat) H1
theorem pi_range1 {a:Expr} {ta:TA} {p pos:Pos} (hg:Gl X "range") (hm:X.mg "range"=none) (ha:PA X [a] ta) (hs:starEach [a] X.env=[(false,eval a X.env)]:=by rfl):PI X tg (.Call (.Name "range" p) [a] [] pos) (ZDu ta):=by
 intro pins s σ H R I h
 refine Call_ (ZC1 I hg hm boot_range (PyProof.Rows.callWith_type1 (thn (ha pos pins s σ H _ I h) fun us s1 zz=>?_) hs rfl))
 obtain ⟨vs,H1,I1,r1,q1⟩:=zz
 obtain ⟨j,e,q1,q2,q⟩:=q1
 subst e
 cases r1 with
 | cons r rr=>
  cases rr
  obtain ⟨t,rfl⟩:=r
  exact call_range_1 (range_it I1 (by omega) (by omega) q1 q2 (by simpa using q))
noncomputable def tFor (wi:TI) (g:TG) (tb:TS):TS:=fun D σ H=>wi σ H fun J H1=>∃ W:Nat->Nat->St->Hp->Prop,(∃ m,W 0 m σ H1) /\ ∀ i m σ H,W i m σ H ->
 (J.stop i H /\ D.nx σ H)∨(J.go i H /\ ∃ N:St->Hp->Prop,(∀ σ' H',N σ' H'->∃ m',m' < m /\ W (i+1) m' σ' H') /\ ∀ x H',J.yld i H x H'->g x σ H' fun σ2 H2=>tb { D with nx:=N,ct:=N,bk:=D.nx } σ2 H2)
noncomputable def ZCf (fp:List Addr) (h:Heap):List (Addr×Obj):=fp.filterMap fun b=>(h.get? b).map fun o=>(b,o)
theorem ZBM {fp:List Addr} {h:Heap} {b:Addr} {o:Obj} (hb:b∈fp) (e:h.get? b=some o):(b,o)∈ZCf fp h:=List.mem_filterMap.mpr ⟨b,hb,by rw [e];rfl⟩
theorem of_pinsAt {fp:List Addr} {h:Heap} {p:Addr×Obj} (hp:p∈ZCf fp h):p.1∈fp /\ h.get? p.1=some p.2:=by
 obtain ⟨b,hb,e⟩:=List.mem_filterMap.mp hp
 cases q:h.get? b with
 | none=>rw [q] at e;cases e
 | some o=>
  rw [q] at e
  have e':(b,o)=p:=Option.some.inj e
  subst e'
  exact ⟨hb,q⟩
theorem Inv.pinned {pins:List (Addr×Obj)} {σ:St} {H:Hp} {s:Shared} {fp:List Addr} (I:Inv X pins σ H s) (hf:∀ b∈fp,FpOk X pins H b) (ho:∀ b∈fp,∃ o,s.heap.get? b=some o /\ ∀ v,o.data≠.cell v):Inv X (pins++ZCf fp s.heap) σ H s :=
 I.pins_of fun p hp=>(yAX.mp hp).elim (fun z=>I.pin p (yAG _ z)) fun z=>by
  obtain ⟨hb,e⟩:=of_pinsAt z
  obtain ⟨f0,f1,f2,_⟩:=hf p.1 hb
  obtain ⟨o,e',d⟩:=ho p.1 hb
  rw [e] at e';cases e'
  exact ⟨e,f0,f1,f2,d⟩
theorem Inv.unpinned {pins pl:List (Addr×Obj)} {σ:St} {H:Hp} {s:Shared} (I:Inv X (pins++pl) σ H s):Inv X pins σ H s:=I.pins_of fun p hp=>I.pin p (yAG _ (yBF _ hp))
theorem ZCx {iter:Expr} {body:List Stmt} {wi:TI} {g:TG} {tb:TS} {pos:Pos} (hp:PassesOwn (model X.prog X.w) X.A X.env X.xe) (hc:X.calm=true) (hi:PI X tg iter wi) (hg:PG X tg g) (hb:PSs X body tb)
  (hs:∀ x,foldedSetIterable iter X.env x=pure x:=by intro _;rfl):PS X (.For tg iter body [] pos) (tFor wi g tb):=by
 intro pins s σ H D I h
 refine wpAny_For (thn (hi pins s σ H _ I h) fun v s1 h1=>thn h1 fun itv s2 h2=>?_) hs
 obtain ⟨it,fp,tn,J,H2,e,I2,T,st2,f2,W,⟨m0,w0⟩,turn⟩:=h2
 subst e
 have stat:∀ {H':Hp},(∀ b∈fp,H' b=none)->∀ b∈fp,FpOk X pins H' b:=fun hn b hb=>⟨hn b hb,(f2 b hb).2⟩
 refine codeAny_forLoop_any (fun n s'=>∃ i σ' H',Inv X pins σ' H' s' /\ tn i s'.heap /\ (∀ b∈fp,H' b=none) /\ W i n σ' H') ?_ m0 ⟨0,σ,H2,I2,st2,fun b hb=>(f2 b hb).1,w0⟩
 rintro n s3 ⟨i,σ3,H3,I3,st3,fr3,w3⟩
 rcases turn i n σ3 H3 w3 with ⟨stop,qn⟩ | ⟨go,N,hN,step⟩
 .refine wpAny_passesOwn hp (thn (T.done X rfl rfl rfl hc i pins s3 σ3 H3 X.xe I3 (stat fr3) st3 stop) fun r s4 ⟨hr,I4⟩=>?_)
  subst hr
  exact wpAny_execs_nil ⟨σ3,H3,I4,qn⟩
 .refine wpAny_passesOwn hp (thn (T.item X rfl rfl rfl hc i pins s3 σ3 H3 X.xe I3 (stat fr3) st3 go) fun r s4 ⟨u,hr,h4⟩=>?_)
  subst hr
  refine wpAny_passesOwn hp (thn h4 fun _ s5 zz=>?_)
  obtain ⟨x,H5,I5,r5,y5,st5,fr5⟩:=zz
  have I5':=I5.pinned (stat fr5) (T.obj _ _ st5)
  refine wpAny_passesOwn hp (thn (hg _ s5 σ3 H5 x u _ I5' r5 (step x H5 y5)) fun _ s6 zz=>?_)
  obtain ⟨σ6,H6,I6,q6⟩:=zz
  refine wpAny_passesOwn hp (thn (hb _ s6 σ6 H6 _ I6 q6) fun f s7 q7=>?_)
  have again:∀ {σ7:St} {H7:Hp},Inv X (pins++ZCf fp s5.heap) σ7 H7 s7->N σ7 H7->∃ m,m < n /\ ∃ i σ' H',Inv X pins σ' H' s7 /\ tn i s7.heap /\ (∀ b∈fp,H' b=none) /\ W i m σ' H':=fun {σ7 H7} I7 n7=>by
   obtain ⟨m',hm,w7⟩:=hN σ7 H7 n7
   refine ⟨m',hm,i+1,σ7,H7,I7.unpinned,T.keep _ _ _ st5 fun b hb o e=>(I7.pin (b,o) (yAG _ (yAG _ (ZBM hb e)))).1,fun b hb=>?_,w7⟩
   obtain ⟨o,e,d⟩:=T.obj _ _ st5 b hb
   exact (I7.pin (b,o) (yAG _ (yAG _ (ZBM hb e)))).2.1
  cases f with
  | next=>obtain ⟨σ7,H7,I7,n7⟩:=q7;exact again I7 n7
  | cont=>obtain ⟨σ7,H7,I7,n7⟩:=q7;exact again I7 n7
  | brk=>obtain ⟨σ7,H7,I7,q7⟩:=q7;exact ⟨σ7,H7,I7.unpinned,q7⟩
  | ret v=>obtain ⟨x7,σ7,H7,I7,r7,q7⟩:=q7;exact ⟨x7,σ7,H7,I7.unpinned,r7,q7⟩
end
theorem for_list {K:W.Frag} {a:Addr} {xs:List V} {g:TG} {tb:TS} {D:Ends} {σ:St} {H:Hp} (Pv:Nat->St->Hp->Prop) (h0:Pv 0 σ H) (hl:∀ i σ H,i <= xs.length->Pv i σ H->SqL K H a xs)
  (hs:∀ i x σ H,xs[i]?=some x->Pv i σ H->g x σ H fun σ2 H2=>tb { D with nx:=Pv (i+1),ct:=Pv (i+1),bk:=D.nx } σ2 H2) (hd:∀ σ H,Pv xs.length σ H->D.nx σ H) :
  ∃ W:Nat->Nat->St->Hp->Prop,(∃ m,W 0 m σ H) /\ ∀ i m σ H,W i m σ H ->
   ((Itl K a).stop i H /\ D.nx σ H)∨((Itl K a).go i H /\ ∃ N:St->Hp->Prop,(∀ σ' H',N σ' H'->∃ m',m' < m /\ W (i+1) m' σ' H') /\ ∀ x H',(Itl K a).yld i H x H'->g x σ H' fun σ2 H2=>tb { D with nx:=N,ct:=N,bk:=D.nx } σ2 H2):=by
 refine ⟨fun i m σ H=>m=xs.length-i /\ i <= xs.length /\ Pv i σ H,⟨xs.length,by simp,yBC _,h0⟩,?_⟩
 rintro i m σ H ⟨rfl,hi,p⟩
 have q:=hl i σ H hi p
 by_cases hlt:i < xs.length
 .refine .inr ⟨⟨xs,xs[i],q,by simp [hlt]⟩,Pv (i+1),fun σ' H' p'=>⟨xs.length-(i+1),by omega,rfl,hlt,p'⟩,fun x H' y=>?_⟩
  obtain ⟨e,y⟩:=y
  subst e
  exact hs i x σ _ (y xs q) p
 .have e:i=xs.length:=by omega
  subst e
  exact .inl ⟨⟨xs,q,yAA _⟩,hd σ H p⟩
noncomputable abbrev R2:=V->V->Hp->VK->Prop
noncomputable def OpR (X:Cx) (f:Value->Value->Sem Value) (r:R2):Prop :=
 ∀ (pins:List (Addr×Obj)) (s:Shared) (σ:St) (H:Hp) (x y:V) (v u:Value) (Q:VK),Inv X pins σ H s->RelV x v->RelV y u->r x y H Q ->
  wpAny (model X.prog X.w) X.A (f v u) (EP X pins σ Q) X.xe s
noncomputable def UnR (X:Cx) (f:Value->Sem Value) (r:V->Hp->VK->Prop):Prop :=
 ∀ (pins:List (Addr×Obj)) (s:Shared) (σ:St) (H:Hp) (x:V) (v:Value) (Q:VK),Inv X pins σ H s->RelV x v->r x H Q ->
  wpAny (model X.prog X.w) X.A (f v) (EP X pins σ Q) X.xe s
noncomputable def ZCI (X:Cx) (f:Value) (r:List V->Hp->VK->Prop):Prop :=
 ∀ (pins:List (Addr×Obj)) (s:Shared) (σ:St) (H:Hp) (xs:List V) (us:List Value) (Q:VK),Inv X pins σ H s->Vals xs us->r xs H Q ->
  wpAny (model X.prog X.w) X.A (call f us) (EP X pins σ Q) X.xe s
noncomputable def tOp (r:R2) (ta tb:TE):TE:=fun σ H Q=>ta σ H fun x H1=>tb σ H1 fun y H2=>r x y H2 Q
noncomputable def tUn (r:V->Hp->VK->Prop) (ta:TE):TE:=fun σ H Q=>ta σ H fun x H1=>r x H1 Q
noncomputable def rI (C:Int->Int->Prop) (g:Int->Int->V):R2:=fun x y H Q=>∃ i j,x=.int i /\ y=.int j /\ C i j /\ Q (g i j) H
noncomputable def rI0 (g:Int->Int->V):R2:=fun x y H Q=>∃ i j,x=.int i /\ y=.int j /\ Q (g i j) H
noncomputable def rU (g:Int->V):V->Hp->VK->Prop:=fun x H Q=>∃ i,x=.int i /\ Q (g i) H
section
variable {X:Cx} {a b c:Expr} {ta tb tc:TE} {pos:Pos}
theorem binT (ha:PE X a ta) (hb:PE X b tb) {pins:List (Addr×Obj)} {s:Shared} {σ:St} {H:Hp} {R:V->V->Hp->Prop} (I:Inv X pins σ H s)
  (h:ta σ H fun x H1=>tb σ H1 fun y H2=>R x y H2) {Q:Value->Shared->Prop} {f:Value->Value->Sem Value}
  (hf:∀ v u s2 x y H2,Inv X pins σ H2 s2->RelV x v->RelV y u->R x y H2->wpAny (model X.prog X.w) X.A (f v u) Q X.xe s2) :
  wpAny (model X.prog X.w) X.A (eval a X.env) (fun v s₁=>wpAny (model X.prog X.w) X.A (eval b X.env) (fun u s₂=>wpAny (model X.prog X.w) X.A (f v u) Q X.xe s₂) X.xe s₁) X.xe s:=by
 refine thn (ha pins s σ H _ I h) fun v s1 zz=>?_
 obtain ⟨x,H1,I1,r1,q1⟩:=zz
 refine thn (hb pins s1 σ H1 _ I1 q1) fun u s2 zz=>?_
 obtain ⟨y,H2,I2,r2,q2⟩:=zz
 exact hf v u s2 x y H2 I2 r1 r2 q2
theorem ZAQ {op:Operator} {r:R2} (ho:OpR X (binaryOp op) r) (ha:PE X a ta) (hb:PE X b tb):PE X (.BinOp a op b pos) (tOp r ta tb):=by
 intro pins s σ H Q I h
 exact wpAny_BinOp (binT ha hb I h fun v u s2 x y H2 I2 rx ry q=>ho pins s2 σ H2 x y v u Q I2 rx ry q)
theorem ZDj {op:UnaryOp} {r:V->Hp->VK->Prop} (ho:UnR X (unaryOp op) r) (ha:PE X a ta):PE X (.UnaryOp op a pos) (tUn r ta):=by
 intro pins s σ H Q I h
 exact UnaryOp_ (thn (ha pins s σ H _ I h) fun v s1 ⟨x,H1,I1,r1,q1⟩=>ho pins s1 σ H1 x v Q I1 r1 q1)
theorem opI {f:Value->Value->Sem Value} {C:Int->Int->Prop} {g:Int->Int->Int}
  (rule:∀ (i j:Int) (t u:Tok) (s:Shared) (Q:Value->Shared->Prop) (E:Value->Shared->Prop),C i j->Q (.int (g i j) s.toks) { s with toks:=s.toks+1 }->wpAny (model X.prog X.w) X.A (f (.int i t) (.int j u)) Q E s) :
  OpR X f (rI C fun i j=>.int (g i j)):=by
 intro pins s σ H x y v u Q I rx ry h
 obtain ⟨i,j,rfl,rfl,hc,q⟩:=h
 obtain ⟨t,rfl⟩:=rx
 obtain ⟨t',rfl⟩:=ry
 exact rule i j t t' s _ _ hc ⟨.int (g i j),H,I.tok _,⟨_,rfl⟩,q⟩
theorem opI0 {f:Value->Value->Sem Value} {g:Int->Int->Int}
  (rule:∀ (i j:Int) (t u:Tok) (s:Shared) (Q:Value->Shared->Prop) (E:Value->Shared->Prop),Q (.int (g i j) s.toks) { s with toks:=s.toks+1 }->wpAny (model X.prog X.w) X.A (f (.int i t) (.int j u)) Q E s) :
  OpR X f (rI0 fun i j=>.int (g i j)):=by
 intro pins s σ H x y v u Q I rx ry h
 obtain ⟨i,j,rfl,rfl,q⟩:=h
 obtain ⟨t,rfl⟩:=rx
 obtain ⟨t',rfl⟩:=ry
 exact rule i j t t' s _ _ ⟨.int (g i j),H,I.tok _,⟨_,rfl⟩,q⟩
theorem opB0 {f:Value->Value->Sem Value} {g:Int->Int->Bool}
  (rule:∀ (i j:Int) (t u:Tok) (s:Shared) (Q:Value->Shared->Prop) (E:Value->Shared->Prop),Q (.bool (g i j)) s->wpAny (model X.prog X.w) X.A (f (.int i t) (.int j u)) Q E s) :
  OpR X f (rI0 fun i j=>.bl (g i j)):=by
 intro pins s σ H x y v u Q I rx ry h
 obtain ⟨i,j,rfl,rfl,q⟩:=h
 obtain ⟨t,rfl⟩:=rx
 obtain ⟨t',rfl⟩:=ry
 exact rule i j t t' s _ _ ⟨.bl (g i j),H,I,rfl,q⟩
noncomputable def CDiv (i j:Int):Prop:=0 < j /\ j < 1073741824
noncomputable def CPow (i j:Int):Prop:=0 <= j /\ j <= 1000000 /\ i.natAbs < 2 ^ 64
noncomputable def CMul (i j:Int):Prop:=(-(2 ^ 64) < i /\ i < 2 ^ 64)∨(-(2 ^ 64) < j /\ j < 2 ^ 64)
theorem CMul.ok {i j:Int} (h:CMul i j):IntMulOk i j:=by
 rcases h with ⟨h1,h2⟩ | ⟨h1,h2⟩
 .exact .of_left (intBits_le_64 h1 h2)
 .exact .of_right (intBits_le_64 h1 h2)
theorem ZCL:OpR X (binaryOp .Add) (rI0 fun i j=>.int (i+j)):=opI0 fun _ _ _ _ _ _ _ q=>add_int q
theorem ZDJ:OpR X (binaryOp .Sub) (rI0 fun i j=>.int (i-j)):=opI0 fun _ _ _ _ _ _ _ q=>sub_int q
theorem op_mul:OpR X (binaryOp .Mult) (rI CMul fun i j=>.int (i * j)):=opI fun _ _ _ _ _ _ _ hc q=>mul_int q hc.ok
theorem ZBS:OpR X (binaryOp .FloorDiv) (rI CDiv fun i j=>.int (i / j)):=opI fun i j _ _ _ _ _ hc q=>by
 have h1:(0:Int) < j:=hc.1
 have h2:j < 1073741824:=hc.2
 exact floordiv_int (by omega) (by rw [Int.fdiv_eq_ediv_of_nonneg i (by omega)];exact q) (.inl (PyProof.noPylong_small (by omega)))
theorem ZA3:OpR X (binaryOp .Mod) (rI (fun _ j=>0 < j) fun i j=>.int (i % j)):=opI fun i j _ _ _ _ _ hc q=>by
 have h1:(0:Int) < j:=hc
 exact mod_int' (by omega) (by rw [Int.fmod_eq_emod_of_nonneg i (by omega)];exact q)
theorem ZDK:OpR X (binaryOp .Pow) (rI CPow fun i j=>.int (i ^ j.toNat)):=opI fun _ _ _ _ _ _ _ hc q=>pow_int_small hc.1 hc.2.1 hc.2.2 q
theorem unI {f:Value->Sem Value} {g:Int->Int}
  (rule:∀ (i:Int) (t:Tok) (s:Shared) (Q:Value->Shared->Prop) (E:Value->Shared->Prop),Q (.int (g i) s.toks) { s with toks:=s.toks+1 }->wpAny (model X.prog X.w) X.A (f (.int i t)) Q E s) :
  UnR X f (rU fun i=>.int (g i)):=by
 intro pins s σ H x v Q I rx h
 obtain ⟨i,rfl,q⟩:=h
 obtain ⟨t,rfl⟩:=rx
 exact rule i t s _ _ ⟨.int (g i),H,I.tok _,⟨_,rfl⟩,q⟩
theorem ZDF:UnR X (unaryOp .USub) (rU fun i=>.int (-i)):=unI fun _ _ _ _ _ q=>neg_int q
end
noncomputable def scal:V->V->Bool
 | .non,.non=>true | .non,.int _=>true | .int _,.non=>true | .non,.bl _=>true | .bl _,.non=>true | .non,.str _=>true | .str _,.non=>true
 | .int _,.int _=>true | .bl _,.bl _=>true | .str _,.str _=>true | .byt _,.byt _=>true
 | .int _,.str _=>true | .str _,.int _=>true | .bl _,.str _=>true | .str _,.bl _=>true
 | _,_=>false
noncomputable def rEq:R2:=fun x y H Q=>scal x y=true /\ Q (.bl (decide (x=y))) H
noncomputable def rNe:R2:=fun x y H Q=>scal x y=true /\ Q (.bl (!decide (x=y))) H
theorem dec_int {i j:Int}:decide (V.int i=V.int j)=(i == j):=by
 rw [yBD]
 simp
theorem dec_bl {i j:Bool}:decide (V.bl i=V.bl j)=(i == j):=by
 rw [yBD]
 simp
theorem dec_str {i j:Str}:decide (V.str i=V.str j)=(i == j):=by
 rw [yBD]
 simp
theorem dec_byt {i j:Array UInt8}:decide (V.byt i=V.byt j)=(i.toList == j.toList):=by
 rw [yBD]
 cases i
 cases j
 simp
section
variable {X:Cx} {a b c:Expr} {ta tb tc:TE} {pos:Pos}
theorem ZAY {pins:List (Addr×Obj)} {σ:St} {H:Hp} {s:Shared} {Q:VK} {k k':Bool} (I:Inv X pins σ H s) (q:Q (.bl k) H) (e:k=k'):EP X pins σ Q (.bool k') s:=by
 subst e
 exact ⟨.bl k,H,I,rfl,q⟩
theorem ZBA:OpR X (compareOp .Eq) rEq:=by
 intro pins s σ H x y v u Q I rx ry h
 obtain ⟨hs,q⟩:=h
 cases x with
 | non=>
  cases rx
  cases y with
  | non=>cases ry;exact PySem.EqNone.eq_none_none (ZAY I q (by simp))
  | bl j=>cases ry;exact PySem.EqNone.eq_none_bool (ZAY I q (by simp))
  | int j=>obtain ⟨t',rfl⟩:=ry;exact PySem.EqNone.eq_none_int (ZAY I q (by simp))
  | str j=>obtain ⟨t',rfl⟩:=ry;exact PySem.EqNone.eq_none_str (ZAY I q (by simp))
  | _=>exact absurd (show false=true from hs) yAH
 | bl i=>
  cases rx
  cases y with
  | non=>cases ry;exact PySem.EqNone.eq_bool_none (ZAY I q (by simp))
  | bl j=>cases ry;exact eq_bool (ZAY I q dec_bl)
  | str j=>obtain ⟨t',rfl⟩:=ry;exact PySem.EqMixed.eq_bool_str (ZAY I q (by simp))
  | _=>exact absurd (show false=true from hs) yAH
 | int i=>
  obtain ⟨t,rfl⟩:=rx
  cases y with
  | non=>cases ry;exact PySem.EqNone.eq_int_none (ZAY I q (by simp))
  | int j=>obtain ⟨t',rfl⟩:=ry;exact eq_int (ZAY I q dec_int)
  | str j=>obtain ⟨t',rfl⟩:=ry;exact PySem.EqMixed.eq_int_str (ZAY I q (by simp))
  | _=>exact absurd (show false=true from hs) yAH
 | str i=>
  obtain ⟨t,rfl⟩:=rx
  cases y with
  | non=>cases ry;exact PySem.EqNone.eq_str_none (ZAY I q (by simp))
  | bl j=>cases ry;exact PySem.EqMixed.eq_str_bool (ZAY I q (by simp))
  | int j=>obtain ⟨t',rfl⟩:=ry;exact PySem.EqMixed.eq_str_int (ZAY I q (by simp))
  | str j=>obtain ⟨t',rfl⟩:=ry;exact eq_str (ZAY I q dec_str)
  | _=>exact absurd (show false=true from hs) yAH
 | byt i=>
  obtain ⟨t,rfl⟩:=rx
  cases y with
  | byt j=>obtain ⟨t',rfl⟩:=ry;exact PySem.W.eq_bytes (ZAY I q dec_byt)
  | _=>exact absurd (show false=true from hs) yAH
 | _=>cases y <;> exact absurd (show false=true from hs) yAH
theorem ZDC:OpR X (compareOp .NotEq) rNe:=by
 intro pins s σ H x y v u Q I rx ry h
 obtain ⟨hs,q⟩:=h
 cases x with
 | non=>
  cases rx
  cases y with
  | non=>cases ry;exact PySem.EqNone.ne_none_none (ZAY I q (by simp))
  | bl j=>cases ry;exact PySem.EqNone.ne_none_bool (ZAY I q (by simp))
  | int j=>obtain ⟨t',rfl⟩:=ry;exact PySem.EqNone.ne_none_int (ZAY I q (by simp))
  | str j=>obtain ⟨t',rfl⟩:=ry;exact PySem.EqNone.ne_none_str (ZAY I q (by simp))
  | _=>exact absurd (show false=true from hs) yAH
 | bl i=>
  cases rx
  cases y with
  | non=>cases ry;exact PySem.EqNone.ne_bool_none (ZAY I q (by simp))
  | bl j=>cases ry;exact ne_bool (ZAY I q (congrArg not dec_bl))
  | str j=>obtain ⟨t',rfl⟩:=ry;exact PySem.EqMixed.ne_bool_str (ZAY I q (by simp))
  | _=>exact absurd (show false=true from hs) yAH
 | int i=>
  obtain ⟨t,rfl⟩:=rx
  cases y with
  | non=>cases ry;exact PySem.EqNone.ne_int_none (ZAY I q (by simp))
  | int j=>obtain ⟨t',rfl⟩:=ry;exact ne_int (ZAY I q (congrArg not dec_int))
  | str j=>obtain ⟨t',rfl⟩:=ry;exact PySem.EqMixed.ne_int_str (ZAY I q (by simp))
  | _=>exact absurd (show false=true from hs) yAH
 | str i=>
  obtain ⟨t,rfl⟩:=rx
  cases y with
  | non=>cases ry;exact PySem.EqNone.ne_str_none (ZAY I q (by simp))
  | bl j=>cases ry;exact PySem.EqMixed.ne_str_bool (ZAY I q (by simp))
  | int j=>obtain ⟨t',rfl⟩:=ry;exact PySem.EqMixed.ne_str_int (ZAY I q (by simp))
  | str j=>obtain ⟨t',rfl⟩:=ry;exact ne_str (ZAY I q (congrArg not dec_str))
  | _=>exact absurd (show false=true from hs) yAH
 | byt i=>
  obtain ⟨t,rfl⟩:=rx
  cases y with
  | byt j=>obtain ⟨t',rfl⟩:=ry;exact PySem.W.ne_bytes (ZAY I q (congrArg not dec_byt))
  | _=>exact absurd (show false=true from hs) yAH
 | _=>cases y <;> exact absurd (show false=true from hs) yAH
theorem ZDQ:OpR X (compareOp .Lt) (rI0 fun i j=>.bl (decide (i < j))):=opB0 fun _ _ _ _ _ _ _ q=>lt_int q
theorem ZDt:OpR X (compareOp .Gt) (rI0 fun i j=>.bl (decide (j < i))):=opB0 fun _ _ _ _ _ _ _ q=>gt_int q
theorem op_in_str:OpR X (compareOp .In) (fun x y H Q=>∃ i j,x=.str i /\ y=.str j /\ Q (.bl (!(Builtin.Str.occurrences j i 0 j.length 1).isEmpty)) H):=by
 intro pins s σ H x y v u Q I rx ry h
 obtain ⟨i,j,rfl,rfl,q⟩:=h
 obtain ⟨t,rfl⟩:=rx
 obtain ⟨t',rfl⟩:=ry
 exact in_str (ZAY I q rfl)
theorem ZDb:OpR X (compareOp .Is) (fun x y H Q=>y=.non /\ Q (.bl (decide (x=.non))) H):=by
 intro pins s σ H x y v u Q I rx ry h
 obtain ⟨rfl,q⟩:=h
 cases ry
 refine is_none_gen (ZAY I q ?_)
 cases x <;> first
  | (cases rx;rfl)
  | (obtain ⟨t,rfl⟩:=rx;rfl)
theorem op_notin_str:OpR X (compareOp .NotIn) (fun x y H Q=>∃ i j,x=.str i /\ y=.str j /\ Q (.bl (!(!(Builtin.Str.occurrences j i 0 j.length 1).isEmpty))) H):=by
 intro pins s σ H x y v u Q I rx ry h
 obtain ⟨i,j,rfl,rfl,q⟩:=h
 obtain ⟨t,rfl⟩:=rx
 obtain ⟨t',rfl⟩:=ry
 exact notIn_str (ZAY I q rfl)
theorem ZAK (b:Expr) {op:CmpOp} (h:op≠.In:=by decide) (h2:op≠.NotIn:=by decide):behindInMarks op b=false:=by
 have e1:(op == CmpOp.In)=false:=by cases op <;> first | rfl | exact absurd rfl h
 have e2:(op == CmpOp.NotIn)=false:=by cases op <;> first | rfl | exact absurd rfl h2
 cases b <;> simp [behindInMarks,e1,e2]
theorem ZCZ {op:CmpOp} {r:R2} (ho:OpR X (compareOp op) r) (ha:PE X a ta) (hb:PE X b tb) (hm:behindInMarks op b=false):PE X (.Compare a [op] [b] pos) (tOp r ta tb):=by
 intro pins s σ H Q I h
 exact wpAny_Compare1 (binT ha hb I h fun v u s2 x y H2 I2 rx ry q=>ho pins s2 σ H2 x y v u Q I2 rx ry q) hm
noncomputable def ZDm (t:TE):TT:=fun σ H Q=>t σ H fun x H'=>∃ k,x=.bl k /\ Q k H'
theorem ZAG {op:CmpOp} {r:R2} (ho:OpR X (compareOp op) r) (ha:PE X a ta) (hb:PE X b tb) (hm:behindInMarks op b=false):PT X (.Compare a [op] [b] pos) (ZDm (tOp r ta tb)):=by
 intro pins s σ H Q I h
 refine wpAny_isTrue_Compare1 (thn (ha pins s σ H _ I h) fun v s1 ⟨x,H1,I1,r1,q1⟩=>thn (hb pins s1 σ H1 _ I1 q1) fun u s2 ⟨y,H2,I2,r2,q2⟩=>
  thn (ho pins s2 σ H2 x y v u _ I2 r1 r2 q2) fun c s3 ⟨z,H3,I3,r3,k,e,q3⟩=>?_) hm
 subst e
 cases r3
 exact wpAny_truthy_bool ⟨H3,I3,q3⟩
noncomputable def tChain (r r':R2) (ta tb tc:TE):TE:=fun σ H Q=>ta σ H fun x H1=>tb σ H1 fun y H2=>r x y H2 fun z H3=>∃ k,z=.bl k /\
 (if k=true then tc σ H3 fun w' H4=>r' y w' H4 Q else Q (.bl false) H3)
theorem ZDL:(sizeLine:Nat) < 2 ^ 63:=by rw [sizeLine_eq];decide
theorem ZCA {x:V} {us:List Value} (r:Vals [x] us):∃ u,us=[u] /\ RelV x u:=by
 cases r with
 | cons r1 r2=>cases r2;exact ⟨_,rfl,r1⟩
theorem ZDl {x y:V} {us:List Value} (r:Vals [x,y] us):∃ u w',us=[u,w'] /\ RelV x u /\ RelV y w':=by
 cases r with
 | cons r1 r2=>
  cases r2 with
  | cons r3 r4=>cases r4;exact ⟨_,_,rfl,r1,r3⟩
theorem call_max2 (hc:X.calm=true):ZCI X (.builtin "max") (fun xs H Q=>∃ i j,xs=[.int i,.int j] /\ Q (.int (if j > i then j else i)) H):=by
 intro pins s σ H xs us Q I r h
 obtain ⟨i,j,rfl,q⟩:=h
 obtain ⟨u,w',rfl,⟨t,rfl⟩,⟨t',rfl⟩⟩:=ZDl r
 refine max_two_ints (I.ok.hd hc) fun h' tk k=>⟨_,H,I.kept k,?_,q⟩
 by_cases hj:j > i
 .rw [if_pos hj,if_pos hj];exact ⟨_,rfl⟩
 .rw [if_neg hj,if_neg hj];exact ⟨_,rfl⟩
theorem call_int1:ZCI X (.type "int") (fun xs H Q=>(∃ i,xs=[.int i] /\ Q (.int i) H)∨∃ k,xs=[.bl k] /\ Q (.int (if k then 1 else 0)) H):=by
 intro pins s σ H xs us Q I r h
 rcases h with ⟨i,rfl,q⟩ | ⟨k,rfl,q⟩
 .obtain ⟨u,rfl,t,rfl⟩:=ZCA r
  exact call_int_int ⟨.int i,H,I,⟨_,rfl⟩,q⟩
 .obtain ⟨u,rfl,r1⟩:=ZCA r
  cases r1
  exact call_int_bool ⟨.int (if k then 1 else 0),H,I.tok _,⟨_,rfl⟩,q⟩
theorem call_str_int:ZCI X (.type "str") (fun xs H Q=>∃ i,xs=[.int i] /\ i.natAbs.log2 < 1920 /\ Q (.str (toString i)) H):=by
 intro pins s σ H xs us Q I r h
 obtain ⟨i,rfl,hz,q⟩:=h
 obtain ⟨u,rfl,t,rfl⟩:=ZCA r
 exact PySem.P.str_of_int hz ⟨.str _,H,I.tok _,⟨_,rfl⟩,q⟩
end
structure ObjM (h:Heap) (x dx C:Addr) (mA:Str->Option Value):Prop where
 obj:h.get? x=some (PySem.W.instObj C dx)
 ns:h.Ns1 dx mA
 ne:dx≠x
theorem lookIn_ns {h:Heap} {dx:Addr} {mA:Str->Option Value} (n:h.Ns1 dx mA):∃ od,h.get? dx=some od /\ ∀ name,PySem.W.lookIn name od=some (mA name):=by
 obtain ⟨o,es,ep,ho,hd,hk,_,hm⟩:=n
 refine ⟨o,ho,fun name=>?_⟩
 have e:=hm name
 unfold nsFind findBy at e
 rw [<- Array.find?_toList] at e
 unfold PySem.W.lookIn
 rw [hd]
 dsimp only
 split
 .rename_i y q
  rw [q] at e
  exact congrArg some e
 .rename_i q
  rw [q] at e
  have a:es.toList.any (·.refKey)=false:=by
   rw [List.any_eq_false]
   intro y hy
   obtain ⟨z,t,hkey⟩:=hk y (Array.mem_toList_iff.mp hy)
   simp [DictEntry.refKey,hkey]
  have a':¬ es.toList.any (·.refKey)=true:=by rw [a];exact yAH
  rw [if_neg a']
  exact congrArg some e
theorem ObjM.look {h:Heap} {x dx C:Addr} {mA:Str->Option Value} (I:ObjM h x dx C mA):∃ od,PySem.W.InstAt h x (PySem.W.instObj C dx) C (some od) /\ ∀ name,PySem.W.lookIn name od=some (mA name) :=
 let ⟨od,ho,hl⟩:=lookIn_ns I.ns
 ⟨od,⟨I.obj,rfl,rfl,ho⟩,hl⟩
section
variable {prog:Program} {w:World} {A:Around} {E:Value->Shared->Prop} {s:Shared} {K:W.Frag} {x dx C f:Addr} {mA:Str->Option Value} {name:Str} {v:Value}
theorem get_map {expr:Bool} {Q:Value->Shared->Prop} (X:K.In s.heap) (I:ObjM s.heap x dx C mA) (hg:PySem.W.plainGet K C name=true) (hh:PySem.W.hasDictIn K C=true)
  (ha:W.findIn K (.ref C) name=some none) (hv:mA name=some v) (hv':PySem.W.handedIn v=true) (h:Q v { s with toks:=s.toks+1 }) :
  wpAny (model prog w) A (getAttr (.ref x) name expr) Q E s:=by
 obtain ⟨od,J,hl⟩:=I.look
 exact PySem.W.get_value X J (PySem.W.plainGet_of hg).1 (PySem.W.findObj_own hh ha rfl (by rw [hl,hv])) hv' h
theorem get_meth {pl:Sem Bool} {Q:Value×List Value->Shared->Prop} (X:K.In s.heap) (I:ObjM s.heap x dx C mA) (hg:PySem.W.plainGet K C name=true)
  (hf:W.findIn K (.ref C) name=some (some (.ref f))) (ht:PySem.W.isFn K (.ref f)=true) (hv:mA name=none) (h:Q (.ref f,[.ref x]) s) :
  wpAny (model prog w) A (getMethod (.ref x) name pl) Q E s:=by
 obtain ⟨od,J,hl⟩:=I.look
 exact PySem.W.method_fn X J (PySem.W.plainGet_of hg).1 (PySem.W.plainGet_of hg).2 hf (beq_iff_eq.mp ht) (by show (PySem.W.lookIn name od).map (·.isSome)=some false;rw [hl,hv];rfl) h
theorem set_map {ns:List Str} {Q:Unit->Shared->Prop} (X:K.In s.heap) (I:ObjM s.heap x dx C mA)
  (hs:W.findIn K (.ref C) "__setattr__"=some (some (.builtin "object.__setattr__"))) (hp:PySem.W.plainOver K C=true) (ht:PySem.W.takerIn K C name=some none) (hh:PySem.W.hasDictIn K C=true)
  (hw:PySem.Within mA ns) (hsz:ns.length <= sizeLine)
  (h:∀ h',ObjM h' x dx C (fun y=>if y=name then some v else mA y)->Heap.SameBut dx s.heap h'->Q () { s with heap:=h',toks:=s.toks+2 }) :
  wpAny (model prog w) A (setAttr (.ref x) name v) Q E s:=by
 obtain ⟨od,J,hl⟩:=I.look
 refine PySem.W.set_plain X J hs (PySem.W.osa_open (s:={ s with toks:=s.toks+1 }) (r:=none) X J hp ht fun b=>?_)
 obtain ⟨cd,hc,hd'⟩:=PySem.W.any_some hh
 have hx:s.heap.get? x=some ⟨.ref C,some dx,.plain,#[]⟩:=I.obj
 refine wpAny_bind (wpAny_pure (wpAny_bind (wpAny_bind (wpAny_loadPart hx (wpAny_bind (PySem.W.Looks.here (s:={ s with toks:=s.toks+1 }) (PySem.W.looks_clsIn X hc) ?_))))))
 rw [hd']
 refine wpAny_pure (a:=some dx) (wpAny_bind (wpAny_pure (wpAny_bind ?_)))
 refine wpAny_nsSet1 (s:={ s with toks:=s.toks+1 }) I.ns fun h' hn2 hs2=>?_
 obtain ⟨oD,esD,epD,hoD,hdD,hcD⟩:=hn2.count (PySem.Within.cons name v hw)
 refine wpAny_bind (wpAny_lookBehind hoD (by rw [hdD];exact pastItsLine_dict (yAD hcD (by rw [yAR];omega))) ?_)
 exact wpAny_pure (h _ ⟨(hs2.2 _ (Ne.symm I.ne)).trans I.obj,hn2,I.ne⟩ hs2)
theorem make_map {R:Result->Shared->Prop} {vs:List Value} {kw:List (Str×Value)} (X:K.In s.heap) (hm:PySem.W.makesIn K C=true)
  (hi:W.findIn K (.ref C) "__init__"=some (some (.ref f))) (hf:PySem.W.typeIn K (.ref f)=some (.type "function"))
  (h:codeAny (model prog w) (A.under (.builtin "type.__call__" ⟨.ref C::vs,kw⟩)) (.call (.ref f) ⟨.ref (s.heap.objs.size+1)::vs,kw⟩) (PySem.W.InitBack (s.heap.objs.size+1) R)
   { s with heap:=(s.heap.push PySem.W.emptyDict).push (PySem.W.instObj C s.heap.objs.size) }) :
  codeAny (model prog w) A (.call (.ref C) ⟨vs,kw⟩) R s:=by
 obtain ⟨hh,g,d,t,os⟩:=s
 exact PySem.W.make_core (PySem.W.makes_of X hm) (PySem.W.looks_findIn X hi) (fun self=>PySem.W.bind_fn X self hf) (.inl rfl) h
end
noncomputable def putF (f:Str) (v:V):List (Str×V)->List (Str×V)
 | []=>[(f,v)]
 | (g,x)::r=>if g=f then (g,v)::r else (g,x)::putF f v r
theorem ZAv (f g:Str) (v:V):∀ fs:List (Str×V),(putF f v fs).lookup g=if g=f then some v else fs.lookup g
 | []=>by
  show List.lookup g [(f,v)]=_
  by_cases h:g=f
  .have hb:(g == f)=true:=beq_iff_eq.mpr h
   simp only [List.lookup,hb,if_pos h]
  .have hb:(g == f)=false:=beq_eq_false_iff_ne.mpr h
   simp only [List.lookup,hb,if_neg h]
 | (k,x)::r=>by
  have ih:=ZAv f g v r
  rw [show putF f v ((k,x)::r)=(if k=f then (k,v)::r else (k,x)::putF f v r) from rfl]
  by_cases hk:k=f
  .rw [if_pos hk]
   by_cases h:g=k
   .have hb:(g == k)=true:=beq_iff_eq.mpr h
    simp only [List.lookup,hb,if_pos (h.trans hk)]
   .have hb:(g == k)=false:=beq_eq_false_iff_ne.mpr h
    simp only [List.lookup,hb,if_neg (fun e:g=f=>h (e.trans hk.symm))]
  .rw [if_neg hk]
   by_cases h:g=k
   .have hb:(g == k)=true:=beq_iff_eq.mpr h
    simp only [List.lookup,hb,if_neg (fun e:g=f=>hk (h.symm.trans e))]
   .have hb:(g == k)=false:=beq_eq_false_iff_ne.mpr h
    simp only [List.lookup,hb]
    exact ih
theorem ZCb (f:Str) (v:V):∀ fs:List (Str×V),f∈(putF f v fs).map (·.1) /\ ∀ g,g∈fs.map (·.1)->g∈(putF f v fs).map (·.1)
 | []=>⟨by simp [putF],fun g h=>by simp at h⟩
 | (k,x)::r=>by
  obtain ⟨i1,i2⟩:=ZCb f v r
  rw [show putF f v ((k,x)::r)=(if k=f then (k,v)::r else (k,x)::putF f v r) from rfl]
  by_cases hk:k=f
  .rw [if_pos hk]
   subst hk
   exact ⟨by simp,fun g h=>by simpa using h⟩
  .rw [if_neg hk]
   refine ⟨?_,fun g h=>?_⟩
   .rw [yAS]
    exact yAI _ i1
   .rw [yAS] at h ⊢
    rcases yAC.mp h with e | e
    .exact yAC.mpr (.inl e)
    .exact yAI _ (i2 g e)
theorem ZB5 (f:Str) (v:V):∀ fs:List (Str×V),(putF f v fs).length <= fs.length+1
 | []=>by simp [putF]
 | (k,x)::r=>by
  have ih:=ZB5 f v r
  rw [show putF f v ((k,x)::r)=(if k=f then (k,v)::r else (k,x)::putF f v r) from rfl]
  by_cases hk:k=f
  .rw [if_pos hk,yAR,yAR];omega
  .rw [if_neg hk,yAR,yAR];omega
theorem RelO.some_of {v:V} {o:Option Value} (r:RelO (some v) o):∃ u,o=some u /\ RelV v u:=by
 cases o with
 | none=>exact (show False from r).elim
 | some u=>exact ⟨u,rfl,r⟩
theorem RelO.none_of {o:Option Value} (r:RelO none o):o=none:=by
 cases o with
 | none=>rfl
 | some u=>exact (show False from r).elim
theorem handed_of {v:V} {u:Value} (r:RelV v u):PySem.W.handedIn u=true:=by
 cases v with
 | non=>cases (show u=Value.none from r);rfl
 | bl b=>cases (show u=Value.bool b from r);rfl
 | int i=>obtain ⟨t,e⟩:=(show ∃ t,u=Value.int i t from r);cases e;rfl
 | str x=>obtain ⟨t,e⟩:=(show ∃ t,u=Value.str x t from r);cases e;rfl
 | byt b=>obtain ⟨t,e⟩:=(show ∃ t,u=Value.bytes b t from r);cases e;rfl
 | flt b=>obtain ⟨t,e⟩:=(show ∃ t,u=Value.float b t from r);cases e;rfl
 | ref a=>cases (show u=Value.ref a from r);rfl
 | ty n=>cases (show u=Value.type n from r);rfl
section
variable {P:Program} {w:World} {H H':Hp} {h h':Heap} {a C dx:Addr} {fs fs':List (Str×V)}
theorem ZCs (hok:HOk P w H h) (e:H a=some (.ins C dx fs)):∃ mA,ObjM h a dx C mA /\ (∀ f,RelO (fs.lookup f) (mA f)) /\ PySem.Within mA (fs.map (·.1)) /\ fs.length <= 1000 /\ H dx=some (.own a):=by
 obtain ⟨d,z,ne,ob,mA,n,r,q⟩:=(show ObjOk P w H h a (.ins C dx fs) from hok a _ e)
 exact ⟨mA,⟨ob,n,ne⟩,r,q,z,d⟩
end
structure Cls (K:W.Frag) (C:Addr):Prop where
 pg:PySem.W.plainGet K C Str.empty=true
 hd:PySem.W.hasDictIn K C=true
 po:PySem.W.plainOver K C=true
 sa:W.findIn K (.ref C) "__setattr__"=some (some (.builtin "object.__setattr__"))
theorem Cls.get {K:W.Frag} {C:Addr} (c:Cls K C) (f:Str):PySem.W.plainGet K C f=true:=c.pg
noncomputable def NoAttr (K:W.Frag) (C:Addr) (f:Str):Prop:=W.findIn K (.ref C) f=some none
theorem NoAttr.taker {K:W.Frag} {C:Addr} {f:Str} (n:NoAttr K C f):PySem.W.takerIn K C f=some none:=by
 unfold PySem.W.takerIn
 rw [show W.findIn K (.ref C) f=some none from n]
 rfl
structure Meth (K:W.Frag) (C:Addr) (m:Str) (f:Addr):Prop where
 at_:W.findIn K (.ref C) m=some (some (.ref f))
 fn:PySem.W.isFn K (.ref f)=true
 kp:W.keepIn K (.ref f)=true
section
variable {X:Cx} {pins:List (Addr×Obj)} {σ:St} {H:Hp} {s:Shared} {a C dx:Addr} {fs:List (Str×V)} {f:Str} {v:V} {A:Around} {E:Value->Shared->Prop}
theorem getattr_ok {b:Bool} {Q:Value->Shared->Prop} (I:Inv X pins σ H s) (e:H a=some (.ins C dx fs)) (c:Cls X.K C) (n:NoAttr X.K C f) (l:fs.lookup f=some v)
  (h:∀ u s',Inv X pins σ H s'->RelV v u->Q u s'):wpAny (model X.prog X.w) A (getAttr (.ref a) f b) Q E s:=by
 obtain ⟨mA,O,r,_,_,_⟩:=ZCs I.hok e
 obtain ⟨u,hu,ru⟩:=RelO.some_of (v:=v) (o:=mA f) (by rw [<- l];exact r f)
 exact get_map I.kIn O (c.get f) c.hd n hu (handed_of ru) (h u _ (I.tok _) ru)
theorem getmeth_ok {m:Str} {g:Addr} {pl:Sem Bool} {Q:Value×List Value->Shared->Prop} (I:Inv X pins σ H s) (e:H a=some (.ins C dx fs)) (c:Cls X.K C) (k:Meth X.K C m g) (l:fs.lookup m=none)
  (h:Q (.ref g,[.ref a]) s):wpAny (model X.prog X.w) A (getMethod (.ref a) m pl) Q E s:=by
 obtain ⟨mA,O,r,_,_,_⟩:=ZCs I.hok e
 have hn:mA m=none:=RelO.none_of (by rw [<- l];exact r m)
 exact get_meth I.kIn O (c.get m) k.at_ k.fn hn h
theorem setattr_ok {y:V} {u:Value} {Q:Unit->Shared->Prop} (I:Inv X pins σ H s) (e:H a=some (.ins C dx fs)) (c:Cls X.K C) (n:NoAttr X.K C f) (hl:fs.length < 1000) (ry:RelV y u)
  (h:∀ s',Inv X pins σ (upd H a (.ins C dx (putF f y fs))) s'->Q () s'):wpAny (model X.prog X.w) A (setAttr (.ref a) f u) Q E s:=by
 obtain ⟨mA,O,r,wi,_,ho⟩:=ZCs I.hok e
 have hz:(fs.map (·.1)).length <= sizeLine:=by rw [yAB,sizeLine_eq];omega
 refine set_map I.kIn O c.sa c.po n.taker c.hd wi hz fun h' O' sb=>h _ ?_
 have hd:∃ o,h'.get? dx=some o:=let ⟨o,_,_,e',_⟩:=O'.ns;⟨o,e'⟩
 refine I.write (x:=a) (e:=dx) (by rw [e];exact True.intro) (.inr ho) (fun b q hb z=>(sb.2 b hb).trans z) hd ?_
 refine ⟨by rw [ZAS O.ne];exact ho,?_,O.ne,O'.obj,_,O'.ns,fun g=>?_,fun g hg=>?_⟩
 .have:=ZB5 f y fs;omega
 .show RelO ((putF f y fs).lookup g) (if g=f then some u else mA g)
  rw [ZAv]
  by_cases q:g=f
  .rw [if_pos q,if_pos q];exact ry
  .rw [if_neg q,if_neg q];exact r g
 .by_cases q:g=f
  .rw [q];exact (ZCb f y fs).1
  .refine (ZCb f y fs).2 g (wi g fun z=>hg ?_)
   show (if g=f then some u else mA g)=none
   rw [if_neg q];exact z
theorem Inv.made (I:Inv X pins σ H s):Inv X pins σ (upd (upd H s.heap.objs.size (.own (s.heap.objs.size+1))) (s.heap.objs.size+1) (.ins C s.heap.objs.size []))
  { s with heap:=(s.heap.push PySem.W.emptyDict).push (PySem.W.instObj C s.heap.objs.size) }:=by
 have e1:(s.heap.push PySem.W.emptyDict).get? s.heap.objs.size=some PySem.W.emptyDict:=Heap.get?_push_size s.heap rfl
 have e2:((s.heap.push PySem.W.emptyDict).push (PySem.W.instObj C s.heap.objs.size)).get? (s.heap.objs.size+1)=some (PySem.W.instObj C s.heap.objs.size):=by
  have:=Heap.get?_push_size (s.heap.push PySem.W.emptyDict) (o:=PySem.W.instObj C s.heap.objs.size) rfl
  rwa [Heap.size_push] at this
 have e3:(s.heap.push PySem.W.emptyDict).Ns s.heap.objs.size (fun _=>none):=⟨PySem.W.emptyDict,#[],_,e1,rfl,(fun e he=>absurd he (by simp)),fun _=>rfl⟩
 have I1:=I.laid (a:=s.heap.objs.size) (o:=.own (s.heap.objs.size+1)) (h':=s.heap.push PySem.W.emptyDict) (t':=s.toks) (fun b u q=>Heap.get?_push_of_some _ q) (yAA _) ⟨_,e1⟩
 refine I1.laid (a:=s.heap.objs.size+1) (o:=.ins C s.heap.objs.size []) (t':=s.toks) (fun b u q=>Heap.get?_push_of_some _ q) (Nat.le_of_eq (Heap.size_push _ _)) ?_
 have ne:s.heap.objs.size≠s.heap.objs.size+1:=yAF (yBA _)
 refine ⟨by rw [ZAS ne,ZAI],yBC _,ne,e2,fun _=>none,(Heap.Ns1.of_empty e3).at fun o q=>Heap.get?_push_of_some _ q,fun _=>True.intro,fun y hy=>absurd rfl hy⟩
theorem attr_of {prog:Program} {w:World} {env:Env} {e:Expr} {f:Str} {pos:Pos} {s:Shared} {Q:Value->Shared->Prop} (hb:attributeBase e f env (eval e env)=eval e env)
  (h:wpAny (model prog w) A (eval e env) (fun o s₁=>wpAny (model prog w) A (getAttr o f true) Q E s₁) E s):wpAny (model prog w) A (eval (.Attribute e f pos) env) Q E s :=
 Attribute_any_ h (by rw [arm_eval_Attribute,hb])
end
noncomputable def tFld (K:W.Frag) (ta:TE) (f:Str):TE:=fun σ H Q=>ta σ H fun x H1=>∃ a C dx fs v,x=.ref a /\ H1 a=some (.ins C dx fs) /\ Cls K C /\ NoAttr K C f /\ fs.lookup f=some v /\ Q v H1
noncomputable def sFld (K:W.Frag) (ta tv:TE) (f:Str):TS:=fun D σ H=>tv σ H fun y H1=>ta σ H1 fun x H2=>∃ a C dx fs,x=.ref a /\ H2 a=some (.ins C dx fs) /\ Cls K C /\ NoAttr K C f /\ fs.length < 1000 /\
 D.nx σ (upd H2 a (.ins C dx (putF f y fs)))
noncomputable def sFldAug (K:W.Frag) (ta tv:TE) (rd:V->V->Hp->VK->Prop) (f:Str):TS:=fun D σ H=>ta σ H fun x H1=>∃ a C dx fs v,x=.ref a /\ H1 a=some (.ins C dx fs) /\ Cls K C /\ NoAttr K C f /\ fs.lookup f=some v /\
 tv σ H1 fun y H2=>rd v y H2 fun z H3=>∃ dx' fs',H3 a=some (.ins C dx' fs') /\ fs'.length < 1000 /\ D.nx σ (upd H3 a (.ins C dx' (putF f z fs')))
section
variable {X:Cx} {o e value:Expr} {f:Str} {pos pos' tpos:Pos} {ta tv:TE}
theorem ZCy (he:PE X e ta) (hb:attributeBase e f X.env (eval e X.env)=eval e X.env):PE X (.Attribute e f pos) (tFld X.K ta f):=by
 intro pins s σ H Q I h
 refine attr_of hb (thn (he pins s σ H _ I h) fun u s1 zz=>?_)
 obtain ⟨x,H1,I1,rx,a,C,dx,fs,v,ex,ea,c,n,l,q⟩:=zz
 subst ex
 obtain rfl:u=Value.ref a:=rx
 exact getattr_ok I1 ea c n l fun u' s2 I2 ru=>⟨v,H1,I2,ru,q⟩
theorem ZCW (ha:PE X o ta) (hv:PE X value tv) (hs:swapsWith value (some (.Attribute o f pos')) pos.line X.env=pure false):PS X (.Assign [.Attribute o f pos'] value pos) (sFld X.K ta tv f):=by
 intro pins s σ H D I h
 refine plainObj_wpAny_Assign_Attribute (thn (hv pins s σ H _ I h) fun u s1 ⟨y,H1,I1,ry,q⟩=>thn (ha pins s1 σ H1 _ I1 q) fun ov s2 zz=>?_) hs
 obtain ⟨x,H2,I2,rx,a,C,dx,fs,ex,ea,c,n,l,q2⟩:=zz
 subst ex
 obtain rfl:ov=Value.ref a:=rx
 exact setattr_ok I2 ea c n l ry fun s3 I3=>⟨σ,_,I3,q2⟩
end
section
variable {X:Cx} {pins:List (Addr×Obj)} {σ:St} {H:Hp} {s:Shared} {A:Around} {E:Value->Shared->Prop} {Q:Value->Shared->Prop} {c:Value} {b:Bool}
inductive TyOf (K:W.Frag) (H:Hp):V->Value->Prop where
 | non:TyOf K H .non (.type "NoneType")
 | bl (x:Bool):TyOf K H (.bl x) (.type "bool")
 | int (i:Int):TyOf K H (.int i) (.type "int")
 | str (x:Str):TyOf K H (.str x) (.type "str")
 | flt (x:UInt64):TyOf K H (.flt x) (.type "float")
 | lst {a:Addr} {xs:List V} (e:H a=some (.lst xs)):TyOf K H (.ref a) (.type "list")
 | frz {a:Addr} {o:Obj} {xs:List V} (e:H a=some (.frz o (.lst xs))):TyOf K H (.ref a) (.type "list")
 | tup {a:Addr} {xs:List V} (e:H a=some (.tup xs)):TyOf K H (.ref a) (.type "tuple")
 | dK {a:Addr} {kvs:List (Key×V)} (e:H a=some (.dK kvs)):TyOf K H (.ref a) (.type "dict")
 | dT {a:Addr} {kvs:List (List Key×V)} (e:H a=some (.dT kvs)):TyOf K H (.ref a) (.type "dict")
 | ins {a C dx:Addr} {fs:List (Str×V)} (e:H a=some (.ins C dx fs)) (cl:Cls K C) (ha:W.findIn K (.ref C) "__class__"=some (some (.builtin "object.__class__")))
   (hn:PySem.W.specialIn K (.builtin "object.__class__") "__get__"=some (some (.builtin "getset_descriptor.__get__"))) (htk:PySem.W.takesIn K (.builtin "object.__class__")=some true)
   (hm:PySem.W.mroIn K C (.type "object")=some true):TyOf K H (.ref a) (.ref C)
theorem isinst_ok {x:V} {u t:Value} (I:Inv X pins σ H s) (rx:RelV x u) (ty:TyOf X.K H x t) (e:PySem.W.kitOne X.K t c=some b) (h:∀ tk,Q (.bool b) { s with toks:=tk }) :
  wpAny (model X.prog X.w) A (call (.builtin "isinstance") [u,c]) Q E s:=by
 cases ty with
 | non=>cases (show u=Value.none from rx);exact PySem.W.kia_one PySem.W.kitx_none I.kIn True.intro e (fun z=>nomatch z) h
 | bl y=>cases (show u=Value.bool y from rx);exact PySem.W.kia_one PySem.W.kitx_bool I.kIn True.intro e (fun z=>nomatch z) h
 | int i=>obtain ⟨t,q⟩:=(show ∃ t,u=Value.int i t from rx);cases q;exact PySem.W.kia_one PySem.W.kitx_int I.kIn True.intro e (fun z=>nomatch z) h
 | str y=>obtain ⟨t,q⟩:=(show ∃ t,u=Value.str y t from rx);cases q;exact PySem.W.kia_one PySem.W.kitx_str I.kIn True.intro e (fun z=>nomatch z) h
 | flt y=>obtain ⟨t,q⟩:=(show ∃ t,u=Value.float y t from rx);cases q;exact PySem.W.kia_one PySem.W.kitx_float I.kIn True.intro e (fun z=>nomatch z) h
 | @lst a xs ea=>
  cases (show u=Value.ref a from rx)
  obtain ⟨_,_,n,_,h1⟩:=(show ObjOk X.prog X.w H s.heap a (.lst xs) from I.hok a _ ea)
  exact PySem.W.kia_one PySem.W.kitx_list I.kIn ⟨_,h1,rfl⟩ e (fun z=>nomatch z) h
 | @frz a ob xs ea=>
  cases (show u=Value.ref a from rx)
  obtain ⟨_,_,_,n,_,h1⟩:=(show ObjOk X.prog X.w H s.heap a (.frz ob (.lst xs)) from I.hok a _ ea)
  exact PySem.W.kia_one PySem.W.kitx_list I.kIn ⟨_,h1,rfl⟩ e (fun z=>nomatch z) h
 | @tup a xs ea=>
  cases (show u=Value.ref a from rx)
  obtain ⟨_,_,_,p⟩:=(show ObjOk X.prog X.w H s.heap a (.tup xs) from I.hok a _ ea)
  obtain ⟨o,h1,h2,_⟩:=p
  exact PySem.W.kia_one PySem.W.kitx_tuple I.kIn ⟨o,h1,h2⟩ e (fun z=>nomatch z) h
 | @dK a kvs ea=>
  cases (show u=Value.ref a from rx)
  obtain ⟨_,_,vs,_,p⟩:=(show ObjOk X.prog X.w H s.heap a (.dK kvs) from I.hok a _ ea)
  obtain ⟨o,es,ep,h1,h2,_⟩:=p
  exact PySem.W.kia_one PySem.W.kitx_dict I.kIn ⟨o,h1,h2.1⟩ e (fun z=>nomatch z) h
 | @dT a kvs ea=>
  cases (show u=Value.ref a from rx)
  obtain ⟨_,_,xs,_,o,es,ep,h1,h2,_⟩:=(show ObjOk X.prog X.w H s.heap a (.dT kvs) from I.hok a _ ea)
  exact PySem.W.kia_one PySem.W.kitx_dict I.kIn ⟨o,h1,h2.1⟩ e (fun z=>nomatch z) h
 | @ins a C dx fs ea cl ha hn htk hm=>
  cases (show u=Value.ref a from rx)
  obtain ⟨mA,O,_⟩:=ZCs I.hok ea
  obtain ⟨od,J,_⟩:=O.look
  exact PySem.W.kia_one (PySem.W.kitx_own (cl.get _) cl.hd ha hn htk hm) I.kIn J e (fun z=>nomatch z) h
end
structure Room (k:Nat) (A:Around):Prop where
 hd:A.handled=none
 dp:A.depth+3 * k+5 < recursionLimit
 un:A.units+16 * k+200 < cLine
 gd:A.guards=some []
theorem Room.mono {j k:Nat} {A:Around} (r:Room k A) (h:j <= k):Room j A:=⟨r.hd,by have:=r.dp;omega,by have:=r.un;omega,r.gd⟩
theorem Room.deeper {k:Nat} {A:Around} (r:Room (k+1) A) (env:Env):Room k (A.deeper env) :=
 ⟨r.hd,by have:=r.dp;show A.depth+1+3 * k+5 < _;omega,by have:=r.un;show A.units+3+16 * k+200 < _;omega,r.gd⟩
theorem make_depth {A:Around} {C:Addr} {us:List Value} {kw:List (Str×Value)}:(A.under (.builtin "type.__call__" ⟨.ref C::us,kw⟩)).depth=A.depth+1:=by
 first | rfl | simp [Around.under,Code.weight,Code.isCreation,Code.isGuard,Code.isCaller,Code.frames,Code.isFrame,guardIds]
theorem make_units {A:Around} {C:Addr} {us:List Value} {kw:List (Str×Value)}:(A.under (.builtin "type.__call__" ⟨.ref C::us,kw⟩)).units=A.units+1:=by
 first | rfl | simp [Around.under,Code.cUnits,Code.frames,Code.isFrame]
theorem Room.make {k:Nat} {A:Around} (r:Room (k+1) A) (C:Addr) (us:List Value) (kw:List (Str×Value)):Room k (A.under (.builtin "type.__call__" ⟨.ref C::us,kw⟩)) :=
 ⟨r.hd,by have:=r.dp;rw [make_depth];omega,by have:=r.un;rw [make_units];omega,by have:=r.gd;first | exact this | simp [Around.under,Code.guards,Code.isGuard,guardIds,this]⟩
theorem Room.depth {k:Nat} {A:Around} (r:Room k A):A.depth < recursionLimit:=by have:=r.dp;omega
theorem Room.units {k:Nat} {A:Around} (r:Room k A):A.units+64 < cLine:=by have:=r.un;omega
noncomputable def tNil:TA:=fun _ H Q=>Q [] H
noncomputable def ZBC (ta:TE) (tr:TA):TA:=fun σ H Q=>ta σ H fun x H1=>tr σ H1 fun xs H2=>Q (x::xs) H2
section
variable {X:Cx} {e:Expr} {es:List Expr} {te:TE} {t:TA} {pos:Pos}
theorem ZAD:PA X [] tNil:=fun _ _ _ _ H Q I h=>Calls.spliced_nil ⟨[],H,I,.nil,h⟩
theorem ZAA (ha:PE X e te) (hr:PA X es t) (hs:starEach (e::es) X.env=(false,eval e X.env)::starEach es X.env:=by rfl):PA X (e::es) (ZBC te t):=by
 intro pos pins s σ H Q I h
 rw [hs]
 show wpAny _ _ (spliced ((false,eval e X.env)::backTo pos (starEach es X.env))) _ _ s
 refine Calls.spliced_cons (thn (ha pins s σ H _ I h) fun u s1 zz=>?_)
 obtain ⟨x,H1,I1,r1,q1⟩:=zz
 exact thn (hr pos pins s1 σ H1 _ I1 q1) fun us s2 ⟨xs,H2,I2,r2,q2⟩=>⟨x::xs,H2,I2,.cons r1 r2,q2⟩
noncomputable def tTup (t:TA):TE:=fun σ H Q=>t σ H fun xs H1=>xs.length <= sizeLine /\ ∀ p,H1 p=none->Q (.ref p) (upd H1 p (.tup xs))
noncomputable def tLst (t:TA):TE:=fun σ H Q=>t σ H fun xs H1=>xs.length <= sizeLine /\ ∀ p,H1 p=none->Q (.ref p) (upd H1 p (.lst xs))
theorem pe_tup {x1} (h:PA X es t):PE X (.Tuple es x1 pos) (tTup t):=by
 intro pins s σ H Q I hq
 refine wpAny_Tuple_spliced (thn (h pos pins s σ H _ I hq) fun us s1 ⟨xs,H1,I1,r,z,q⟩=>⟨by rw [<- r.length];exact z,?_⟩)
 have hf:H1 s1.heap.objs.size=none:=I1.hok.fresh (yAA _)
 refine ⟨.ref s1.heap.objs.size,upd H1 s1.heap.objs.size (.tup xs),I1.laid (t':=s1.toks) (fun b u e=>Heap.get?_push_of_some _ e) (yAA _) ?_,rfl,q _ hf⟩
 exact ⟨z,us,r,⟨_,Heap.get?_push_size _ rfl,rfl,_,rfl⟩⟩
theorem ZBI (h:PA X es t):PE X (.List es pos) (tLst t):=by
 intro pins s σ H Q I hq
 refine wpAny_List_spliced (thn (h pos pins s σ H _ I hq) fun us s1 ⟨xs,H1,I1,r,z,q⟩=>⟨by rw [<- r.length];exact z,?_⟩)
 have hf:H1 s1.heap.objs.size=none:=I1.hok.fresh (yAA _)
 refine ⟨.ref s1.heap.objs.size,upd H1 s1.heap.objs.size (.lst xs),I1.laid (t':=s1.toks) (fun b u e=>Heap.get?_push_of_some _ e) (yAA _) ?_,rfl,q _ hf⟩
 exact ⟨z,us,0,r,Heap.get?_push_size _ rfl⟩
end
noncomputable abbrev Sp:=List V->Hp->VK->XK->Prop
noncomputable abbrev CXT:=List Env->Hp->Shared->XK->Value->Shared->Prop
structure Env0 (P:Program) (w:World) (K:W.Frag) (mg:Str->Option Value) (base:Heap) (A:Around) (outer:List Env) (s:Shared) (H:Hp):Prop where
 frames:A.frames=some outer
 mod:Mod K mg base
 bs:∀ b o,base.get? b=some o->s.heap.get? b=some o /\ H b=none
 bsz:base.objs.size <= s.heap.objs.size
 funs:s.heap.FunFrames base outer
 frf:∀ b∈frs outer,H b=none
 hok:HOk P w H s.heap
 bare:AllBare s.gens
noncomputable def CE (outer:List Env) (P:Program) (w:World) (H:Hp) (s:Shared) (Q:VK) (u:Value) (s':Shared):Prop :=
 ∃ v H',s'.os=s.os /\ AllBare s'.gens /\ Un (frs outer) [] H H' s.heap s'.heap /\ HOk P w H' s'.heap /\ RelV v u /\ Q v H'
noncomputable def CR (CX:CXT) (outer:List Env) (P:Program) (w:World) (H:Hp) (s:Shared) (Q:VK) (E:XK) (r:Result) (s':Shared):Prop :=
 match r with
 | .ok (.ret u)=>CE outer P w H s Q u s'
 | .ok _=>False
 | .error e=>CX outer H s E e s'
structure FnOk (P:Program) (w:World) (K:W.Frag) (mg:Str->Option Value) (base:Heap) (CX:CXT) (k:Nat) (f:Addr) (fd:FuncData) (ps:List Str) (sp:Sp):Prop where
 len:∀ vs H Q E,sp vs H Q E->vs.length=ps.length
 run:∀ (A:Around) (outer:List Env) (s:Shared) (H:Hp) (args:Args) (us:List Value) (vs:List V) (Q:VK) (E:XK),Room k A->Env0 P w K mg base A outer s H->BindsTo s fd args (ps.zip us)->Vals vs us->sp vs H Q E ->
  codeAny (model P w) A (.call (.ref f) args) (CR CX outer P w H s Q E) s
theorem Env0.make {P:Program} {w:World} {K:W.Frag} {mg:Str->Option Value} {base:Heap} {A:Around} {outer:List Env} {s:Shared} {H:Hp} (e:Env0 P w K mg base A outer s H) (C:Addr) (us:List Value) (kw:List (Str×Value)) :
  Env0 P w K mg base (A.under (.builtin "type.__call__" ⟨.ref C::us,kw⟩)) outer s H:=⟨by first | exact e.frames | (simpa [Around.under,Code.envs,Code.isFrame,pushEnvs] using e.frames),e.mod,e.bs,e.bsz,e.funs,e.frf,e.hok,e.bare⟩
section
variable {X:Cx} {pins:List (Addr×Obj)} {σ:St} {H:Hp} {s s':Shared}
theorem Inv.env0 (I:Inv X pins σ H s):Env0 X.prog X.w X.K X.mg X.base X.A X.stack s H :=
 ⟨I.ok.frames,I.ok.mod,I.bs,yAD I.ok.bsz I.sz,I.stack,I.stkFree,I.hok,I.bare⟩
theorem Inv.after {Q:VK} {u:Value} (I:Inv X pins σ H s) (h:CE X.stack X.prog X.w H s Q u s'):EP X pins σ Q u s':=by
 obtain ⟨v,H',os,bare,un,hok,r,q⟩:=h
 obtain ⟨hh,g,d,t,os'⟩:=s'
 obtain rfl:os'=s.os:=os
 exact ⟨v,H',I.call (h':=hh) (g':=g) (d':=d) (t':=t) (ch:=[]) un hok bare (fun b z=>absurd z (by simp)),r,q⟩
end
noncomputable def ZDg (sp:Sp) (dvs:List V) (E:XK) (t:TA):TE:=fun σ H Q=>t σ H fun vs H1=>sp (vs++dvs) H1 Q E
noncomputable def ZDe (C:Addr) (m:Str) (sp:Sp) (dvs:List V) (E:XK) (ta:TE) (t:TA):TE:=fun σ H Q=>ta σ H fun x H1=>∃ a dx fs,x=.ref a /\ H1 a=some (.ins C dx fs) /\ fs.lookup m=none /\
 t σ H1 fun vs H2=>sp (x::(vs++dvs)) H2 Q E
noncomputable def ZDf (C:Addr) (sp:Sp) (dvs:List V) (E:XK) (t:TA):TE:=fun σ H Q=>t σ H fun vs H1=>∀ x dx,H1 x=none->H1 dx=none->dx≠x ->
 sp (.ref x::(vs++dvs)) (upd (upd H1 dx (.own x)) x (.ins C dx [])) (fun v H2=>v=.non /\ Q (.ref x) H2) E
noncomputable def Binds (K:W.Frag) (fd:FuncData) (ps:List Str) (ds:List Value):Prop :=
 ∀ (s:Shared) (us:List Value),K.In s.heap->(us++ds).length=ps.length->BindsTo s fd ⟨us,[]⟩ (ps.zip (us++ds))
theorem Binds.all {K:W.Frag} {fd:FuncData} {ps:List Str} (h:∀ us:List Value,us.length=ps.length->bindArgs fd ⟨us,[]⟩=pure (ps.zip us)):Binds K fd ps []:=fun s us _ hl=>by
 rw [List.append_nil] at hl ⊢
 exact .of_eq (h us hl)
noncomputable def ZBR (CX:CXT) (X:Cx) (E:XK):Prop:=∀ (pins:List (Addr×Obj)) (σ:St) (H:Hp) (s:Shared) (e:Value) (s':Shared),Inv X pins σ H s->CX X.stack H s E e s'->X.xe e s'
section
variable {X:Cx} {CX:CXT} {k:Nat} {f C:Addr} {fd:FuncData} {ps:List Str} {sp:Sp} {dvs:List V} {ds:List Value} {E:XK} {x m:Str} {p pos apos:Pos} {e o:Expr} {es:List Expr} {ta:TE} {t:TA}
theorem run_fn {pins:List (Addr×Obj)} {σ:St} {H:Hp} {s:Shared} {Q:VK} {us:List Value} {vs:List V} (F:FnOk X.prog X.w X.K X.mg X.base CX k f fd ps sp) (hr:Room k X.A) (hb:Binds X.K fd ps ds) (hd:Vals dvs ds) (hx:ZBR CX X E)
  (I:Inv X pins σ H s) (r:Vals vs us) (h:sp (vs++dvs) H Q E):wpAny (model X.prog X.w) X.A (call (.ref f) us) (EP X pins σ Q) X.xe s:=by
 have r2:Vals (vs++dvs) (us++ds):=r.append hd
 have hl:(us++ds).length=ps.length:=by rw [<- r2.length];exact F.len _ _ _ _ h
 refine wpAny_call (codeAny_mono (F.run X.A X.stack s H ⟨us,[]⟩ (us++ds) (vs++dvs) Q E hr I.env0 (hb s us I.kIn hl) r2 h) fun r s' hq=>?_)
 cases r with
 | error e=>exact hx pins σ H s e s' I hq
 | ok fl=>
  cases fl with
  | ret u=>exact I.after hq
  | next=>exact False.elim hq
  | brk=>exact False.elim hq
  | cont=>exact False.elim hq
theorem pe_call (F:FnOk X.prog X.w X.K X.mg X.base CX k f fd ps sp) (hr:Room k X.A) (hg:Gl X x) (hm:X.mg x=some (.ref f)) (hk:W.keepIn X.K (.ref f)=true) (hb:Binds X.K fd ps ds) (hd:Vals dvs ds) (hx:ZBR CX X E)
  (ha:PA X (e::es) t) (hdb:(x == ("__debug__":Str))=false:=by decide) (he:starEach (e::es) X.env=(false,eval e X.env)::starEach es X.env:=by rfl) (hpl:(backTo pos (starEach es X.env)).any (·.1)=false:=by rfl) :
  PE X (.Call (.Name x p) (e::es) [] pos) (ZDg sp dvs E t):=by
 intro pins s σ H Q I h
 refine wpAny_Call_Name_kw (ZCH I hg hm ?_ hdb)
 refine PySem.W.callWith_K (h₀:=X.base) I.ok.mod.kin hk (thn (ha pos pins s σ H _ I h) fun us s1 ⟨vs,H1,I1,r,q⟩=>⟨I1.kIn,?_⟩) he hpl
 exact run_fn F hr hb hd hx I1 r q
theorem pe_meth0 {pl:Sem Bool} (he:PE X o ta) (c:Cls X.K C) (hm:Meth X.K C m f) (F:FnOk X.prog X.w X.K X.mg X.base CX k f fd ps sp) (hr:Room k X.A) (hb:Binds X.K fd ps ds) (hd:Vals dvs ds) (hx:ZBR CX X E)
  (ht:eval (.Call (.Attribute o m apos) [] [] pos) X.env=(do
   let ov <- eval o X.env
   standAt apos.atName
   let (f,first) <- holding [ov] (getMethod ov m pl)
   callWith pos f first (backTo pos (starEach [] X.env)) (backToKw pos (keywordEach [] X.env))):=by rfl) :
  PE X (.Call (.Attribute o m apos) [] [] pos) (ZDe C m sp dvs E ta tNil):=by
 intro pins s σ H Q I h
 refine PySem.W.methodCall_KW (pl:=pl) (thn (he pins s σ H _ I h) fun u s1 zz=>?_) ht
 obtain ⟨x,H1,I1,rx,a,dx,fs,ex,ea,l,q⟩:=zz
 subst ex
 obtain rfl:u=Value.ref a:=rx
 refine getmeth_ok I1 ea c hm l ?_
 exact PySem.W.callWith_K0 (first:=[.ref a]) I1.kIn hm.kp (run_fn (us:=[.ref a]) (vs:=[.ref a]) F hr hb hd hx I1 (.cons rfl .nil) q)
structure Mk (K:W.Frag) (C f:Addr):Prop where
 makes:PySem.W.makesIn K C=true
 init:W.findIn K (.ref C) "__init__"=some (some (.ref f))
 fn:PySem.W.isFn K (.ref f)=true
 kp:W.keepIn K (.ref C)=true
theorem run_make {pins:List (Addr×Obj)} {σ:St} {H:Hp} {s:Shared} {Q:VK} {us:List Value} {vs:List V} (M:Mk X.K C f) (F:FnOk X.prog X.w X.K X.mg X.base CX k f fd ps sp) (hr:Room (k+1) X.A) (hb:Binds X.K fd ps ds) (hd:Vals dvs ds)
  (hx:ZBR CX X E) (I:Inv X pins σ H s) (r:Vals vs us)
  (h:∀ x dx,H x=none->H dx=none->dx≠x->sp (.ref x::(vs++dvs)) (upd (upd H dx (.own x)) x (.ins C dx [])) (fun v H2=>v=.non /\ Q (.ref x) H2) E) :
  wpAny (model X.prog X.w) X.A (call (.ref C) us) (EP X pins σ Q) X.xe s:=by
 have hq:=h (s.heap.objs.size+1) s.heap.objs.size (I.hok.fresh (yAK _)) (I.hok.fresh (yAA _)) (yAF (yBA _))
 have I2:=Inv.made (C:=C) I
 have r2:Vals (V.ref (s.heap.objs.size+1)::(vs++dvs)) (Value.ref (s.heap.objs.size+1)::(us++ds)):=.cons rfl (r.append hd)
 have hl:(Value.ref (s.heap.objs.size+1)::us++ds).length=ps.length:=by
  have e:=r2.length
  rw [F.len _ _ _ _ hq] at e
  exact e.symm
 refine wpAny_call (make_map (f:=f) I.kIn M.makes M.init (beq_iff_eq.mp M.fn) (codeAny_mono (F.run _ X.stack _ _ ⟨Value.ref (s.heap.objs.size+1)::us,[]⟩ (Value.ref (s.heap.objs.size+1)::(us++ds)) _ _ E (hr.make C us [])
  (I2.env0.make C us []) (hb _ (Value.ref (s.heap.objs.size+1)::us) I2.kIn hl) r2 hq) fun r s' hq'=>?_))
 cases r with
 | error e=>exact hx pins σ _ _ e s' I2 hq'
 | ok fl=>
  cases fl with
  | ret u=>
   obtain ⟨v,H',I3,rv,ev,q3⟩:=I2.after hq'
   subst ev
   exact ⟨rv,⟨V.ref (s.heap.objs.size+1),H',I3,rfl,q3⟩⟩
  | next=>exact False.elim hq'
  | brk=>exact False.elim hq'
  | cont=>exact False.elim hq'
theorem pe_make (M:Mk X.K C f) (F:FnOk X.prog X.w X.K X.mg X.base CX k f fd ps sp) (hr:Room (k+1) X.A) (hg:Gl X x) (hm:X.mg x=some (.ref C)) (hb:Binds X.K fd ps ds) (hd:Vals dvs ds) (hx:ZBR CX X E)
  (ha:PA X (e::es) t) (hdb:(x == ("__debug__":Str))=false:=by decide) (he:starEach (e::es) X.env=(false,eval e X.env)::starEach es X.env:=by rfl) (hpl:(backTo pos (starEach es X.env)).any (·.1)=false:=by rfl) :
  PE X (.Call (.Name x p) (e::es) [] pos) (ZDf C sp dvs E t):=by
 intro pins s σ H Q I h
 refine wpAny_Call_Name_kw (ZCH I hg hm ?_ hdb)
 refine PySem.W.callWith_K (h₀:=X.base) I.ok.mod.kin M.kp (thn (ha pos pins s σ H _ I h) fun us s1 ⟨vs,H1,I1,r,q⟩=>⟨I1.kIn,?_⟩) he hpl
 exact run_make M F hr hb hd hx I1 r q
end
noncomputable def PK (X:Cx) (kws:List Keyword) (t:TA):Prop :=
 ∀ (pos:Pos) (pins:List (Addr×Obj)) (s:Shared) (σ:St) (H:Hp) (Q:List V->Hp->Prop),Inv X pins σ H s->t σ H Q->wpAny (model X.prog X.w) X.A (evalAll ((backToKw pos (keywordEach kws X.env)).map (·.2))) (AP X pins σ Q) X.xe s
section
variable {X:Cx} {CX:CXT} {k:Nat} {f C:Addr} {fd:FuncData} {ps ks:List Str} {sp:Sp} {E:XK} {x m:Str} {p pos apos kpos:Pos} {e o:Expr} {es:List Expr} {kws:List Keyword} {te ta:TE} {t tk:TA} {nm:Option Str}
theorem pk_nil:PK X [] tNil:=fun _ _ _ _ H Q I h=>wpAny_evalAll_nil ⟨[],H,I,.nil,h⟩
theorem pk_cons (ha:PE X e te) (hr:PK X kws t):PK X (⟨nm,e,kpos⟩::kws) (ZBC te t):=by
 intro pos pins s σ H Q I h
 show wpAny _ _ (evalAll ((do let v <- eval e X.env;standAt pos;pure v)::(backToKw pos (keywordEach kws X.env)).map (·.2))) _ _ s
 refine wpAny_evalAll_cons (wpAny_bind (thn (ha pins s σ H _ I h) fun u s1 ⟨x,H1,I1,r1,q1⟩=>wpAny_bind (wpAny_standAt (wpAny_pure ?_))))
 exact thn (hr pos pins s1 σ H1 _ I1 q1) fun us s2 ⟨xs,H2,I2,r2,q2⟩=>⟨x::xs,H2,I2,.cons r1 r2,q2⟩
variable {g:List Value->List Value->List Value} {gV:List V->List V->List V}
end
structure FnScope (N P:List Str) (sc:Scope):Prop where
 kind:sc.kind=.function
 co:sc.isCoroutine=false
 gen:sc.isGenerator=false
 nd:N.Nodup
 pre:N.take P.length=P
 par:∀ x∈P,sc.names.lookup x=some .local∨sc.names.lookup x=some .cell
 nofree:∀ y∈sc.names,y.2≠.free
theorem bindL_out {kindOf:Str->Option NameKind} {x:Str}:∀ {binds:List (Str×Value)} {m:Str->Option Value},(∀ v,(x,v)∉binds)->bindL kindOf binds m x=m x
 | [],_,_=>rfl
 | (n,v)::r,m,h=>by
  unfold bindL
  rw [bindL_out fun w hw=>h w (yAI _ hw)]
  split
  .have:x≠n:=by rintro rfl;exact h v yAE
   simp [this]
  .rfl
theorem bindC_out {kindOf:Str->Option NameKind} {x:Str}:∀ {binds:List (Str×Value)} {m:Str->Option Value},(∀ v,(x,v)∉binds)->bindC kindOf binds m x=m x
 | [],_,_=>rfl
 | (n,v)::r,m,h=>by
  unfold bindC
  rw [bindC_out fun w hw=>h w (yAI _ hw)]
  split
  .rfl
  .have:x≠n:=by rintro rfl;exact h v yAE
   simp [this]
theorem bindL_get {kindOf:Str->Option NameKind} {x:Str} {v:Value}:∀ {P:List Str} {vs:List Value} {i:Nat} {m:Str->Option Value},P.Nodup->P[i]?=some x->vs[i]?=some v->kindOf x=some .local ->
  bindL kindOf (P.zip vs) m x=some v
 | [],_,_,_,_,h,_,_=>by simp at h
 | _::_,[],_,_,_,_,h,_=>by simp at h
 | p::P,w::vs,0,m,nd,h1,h2,hk=>by
  simp at h1 h2;subst h1;subst h2
  show bindL kindOf ((p,w)::P.zip vs) m p=_
  unfold bindL
  rw [bindL_out fun v hv=>(List.nodup_cons.mp nd).1 (List.of_mem_zip hv).1,if_pos hk]
  simp
 | p::P,w::vs,i+1,m,nd,h1,h2,hk=>by
  show bindL kindOf ((p,w)::P.zip vs) m x=_
  unfold bindL
  exact bindL_get (i:=i) (List.nodup_cons.mp nd).2 (by simpa using h1) (by simpa using h2) hk
theorem bindC_get {kindOf:Str->Option NameKind} {x:Str} {v:Value}:∀ {P:List Str} {vs:List Value} {i:Nat} {m:Str->Option Value},P.Nodup->P[i]?=some x->vs[i]?=some v->kindOf x≠some .local ->
  bindC kindOf (P.zip vs) m x=some v
 | [],_,_,_,_,h,_,_=>by simp at h
 | _::_,[],_,_,_,_,h,_=>by simp at h
 | p::P,w::vs,0,m,nd,h1,h2,hk=>by
  simp at h1 h2;subst h1;subst h2
  show bindC kindOf ((p,w)::P.zip vs) m p=_
  unfold bindC
  rw [bindC_out fun v hv=>(List.nodup_cons.mp nd).1 (List.of_mem_zip hv).1,if_neg hk]
  simp
 | p::P,w::vs,i+1,m,nd,h1,h2,hk=>by
  show bindC kindOf ((p,w)::P.zip vs) m x=_
  unfold bindC
  exact bindC_get (i:=i) (List.nodup_cons.mp nd).2 (by simpa using h1) (by simpa using h2) hk
noncomputable def start (N:List Str) (vs:List V):St:=vs.map some++List.replicate (N.length-vs.length) none
noncomputable def cxOf (CX:CXT) (P:Program) (w:World) (K:W.Frag) (mg:Str->Option Value) (base:Heap) (N:List Str) (qual:Str) (scope:Scope) (f:Addr) (cd:Value) (A:Around) (outer:List Env) (s:Shared) (H:Hp) (E:XK):Cx where
 prog:=P
 w:=w
 K:=K
 mg:=mg
 base:=base
 A:=A.deeper (envOfC qual scope s.heap.objs.size f cd)
 N:=N
 s₀:=s
 H₀:=H
 env:=envOfC qual scope s.heap.objs.size f cd
 outer:=outer
 stack:=envOfC qual scope s.heap.objs.size f cd::outer
 ex:=[]
 calm:=true
 fn:=fun _=>true
 pn:=[]
 xe:=fun e s'=>wpAny (model P w) (A.deeper (envOfC qual scope s.heap.objs.size f cd)) (leaving (envOfC qual scope s.heap.objs.size f cd) e) (fun _ s''=>CX outer H s E e s'') (fun e' s''=>CX outer H s E e' s'') s'
theorem ZCv {sc:Scope} {n:Nat} {x:Str} (h:sc.names.lookup x=some .cell):∃ c,(cellsFrom n sc.names []).lookup x=some c:=by
 have q:=PySem.W.cellsFrom_some sc.names n [] (.inl h)
 exact Option.isSome_iff_exists.mp q
theorem inv_start {CX:CXT} {P:Program} {w:World} {K:W.Frag} {mg:Str->Option Value} {base:Heap} {N ps:List Str} {qual:Str} {scope:Scope} {f:Addr} {cd:Value} {A:Around} {outer:List Env} {s s1:Shared} {H:Hp} {E:XK} {us:List Value} {vs:List V}
  (S:FnScope N ps scope) (hd:A.handled=none) (e0:Env0 P w K mg base A outer s H) (hl:vs.length=ps.length) (r:Vals vs us)
  (x:InCallC s s.heap.objs.size (bindL (envOfC qual scope s.heap.objs.size f cd).kindOf (ps.zip us) fun _=>none) (cellsFrom (s.heap.objs.size+1) scope.names []) (bindC (envOfC qual scope s.heap.objs.size f cd).kindOf (ps.zip us) fun _=>none) s1) :
  Inv (cxOf CX P w K mg base N qual scope f cd A outer s H E) [] (start N vs) H s1:=by
 have hpl:ps.length <= N.length:=by have:=congrArg List.length S.pre;rw [yBE] at this;omega
 obtain ⟨h1,tk,rfl,hk⟩:=x.done
 have noA:∀ b:Addr,b∉(cxOf CX P w K mg base N qual scope f cd A outer s H E).ex:=fun b z=>absurd (show b∈([]:List Addr) from z) (by simp)
 refine ⟨⟨e0.mod,S.kind,rfl,rfl,yAA _,fun y z c h1 h2=>?_,fun y hy=>?_,fun y c _ h=>?_,fun _=>hd,Around.frames_deeper e0.frames,.inr ⟨rfl,rfl⟩,fun b z=>absurd z (noA b),e0.bs,e0.bsz,fun b _ _=>noA b,fun b z=>absurd z (noA b),e0.funs,e0.frf⟩,
  rfl,e0.bare,Un.kept hk,⟨_,x.toInCall.ns,fun i y v h1 h2 h3=>?_⟩,fun y c h=>⟨_,x.cell y c h⟩,e0.hok.fresh (yAA _),fun y c h=>?_,fun p hp=>absurd (show p∈([]:List (Addr×Obj)) from hp) (by simp),e0.hok.kept hk,?_⟩
 .exact name_of_addr x.apart (PySem.mem_of_lookup h1) (PySem.mem_of_lookup h2)
 .have hy:scope.names.lookup y=some .cell∨scope.names.lookup y=some .free:=hy
  rcases hy with hy | hy
  .exact ZCv hy
  .exact absurd rfl (S.nofree _ (PySem.mem_of_lookup hy))
 .exact Nat.le_of_lt (x.above y c (PySem.mem_of_lookup h))
 .have hi:i < vs.length:=by
   unfold start at h2
   by_cases hi:i < vs.length
   .exact hi
   .rw [yBM (by simpa using hi)] at h2
    rw [List.getElem?_replicate] at h2
    split at h2 <;> cases h2
  have ha:vs[i]?=some v:=by
   unfold start at h2
   rw [yBN (by simpa using hi),yAY] at h2
   cases e:vs[i]? with
   | none=>rw [e] at h2;cases h2
   | some a=>rw [e] at h2;cases h2;rfl
  obtain ⟨u,hu,rv⟩:=r.get ha
  have hp:ps[i]?=some y:=by
   rw [<- S.pre,List.getElem?_take_of_lt (by omega)];exact h1
  have ndP:ps.Nodup:=by rw [<- S.pre];exact S.nd.sublist (List.take_sublist _ _)
  refine ⟨u,rv,?_⟩
  rcases S.par y (yAM hp) with k | k
  .exact .inl ⟨k,bindL_get ndP hp hu k⟩
  .obtain ⟨c,e⟩:=ZCv (n:=s.heap.objs.size+1) k
   refine .inr ⟨.inl k,c,e,?_⟩
   have q:=x.cell y c e
   rw [bindC_get ndP hp hu (by show scope.names.lookup y≠_;rw [k];decide)] at q
   exact q
 .exact e0.hok.fresh (Nat.le_of_lt (x.above y c (PySem.mem_of_lookup h)))
 .unfold start
  show _=N.length
  rw [yAO,yAB,List.length_replicate]
  omega
theorem fn_of {CX:CXT} {P:Program} {w:World} {K:W.Frag} {mg:Str->Option Value} {base:Heap} {k:Nat} {f:Addr} {name qual:Str} {params:Arguments} {body:List Stmt} {scope:Scope} {dV kV doc pm cdv ct oc:Value} {an od:Option Addr}
  {osl:Array (Option Value)} {N ps:List Str} {sp:Sp} (lk:K.lookup f=some ⟨oc,od,.func (W.fnOf name qual params body scope dV kV doc pm an cdv ct),osl⟩) (hcd:W.codeIn K cdv qual=true) (S:FnScope N ps scope)
  (len:∀ vs H Q E,sp vs H Q E->vs.length=ps.length)
  (hbody:∀ (A:Around) (outer:List Env) (s:Shared) (H:Hp) (vs:List V) (Q:VK) (E:XK),Room k (A.deeper (envOfC qual scope s.heap.objs.size f cdv))->sp vs H Q E ->
   ∃ t,PSs (cxOf CX P w K mg base N qual scope f cdv A outer s H E) body t /\ t { nx:=fun _ H'=>Q .non H',rt:=Q } (start N vs) H) :
  FnOk P w K mg base CX (k+1) f (W.fnOf name qual params body scope dV kV doc pm an cdv ct) ps sp:=by
 refine ⟨len,fun A outer s H args us vs Q E hr e0 hb r hsp=>?_⟩
 have hl:=len _ _ _ _ hsp
 have KX:K.In s.heap:=e0.mod.kin.keeps fun b o e=>(e0.bs b o e).1
 have lim:s.heap.NoLimit:=e0.mod.nolimit.keeps fun b o e=>(e0.bs b o e).1
 have hkind:∀ y∈ps.zip us,scope.names.lookup y.1=some .local∨(scope.names.lookup y.1=some .cell /\ ((cellsFrom (s.heap.objs.size+1) scope.names []).lookup y.1).isSome=true):=fun ⟨n,v⟩ hy=>by
  rcases S.par n (List.of_mem_zip hy).1 with q | q
  .exact .inl q
  .exact .inr ⟨q,PySem.W.cellsFrom_some _ _ _ (.inl q)⟩
 refine codeAny_call_function hr.depth (KX _ _ lk) rfl S.co S.gen rfl (PySem.W.codeRec_of KX hcd) (hb _ _ _ _ ?_)
 refine wpAny_newFunctionEnv_cells S.kind hkind fun env he s1 x=>?_
 subst he
 refine ⟨lim.keeps x.toInCall.keep,codeAny_func ?_⟩
 obtain ⟨t,ht,hq⟩:=hbody A outer s H vs Q E (hr.deeper _) hsp
 have I:Inv (cxOf CX P w K mg base N qual scope f cdv A outer s H E) [] (start N vs) H s1:=inv_start S hr.hd e0 hl r x
 refine wpAny_mono (ht [] s1 (start N vs) H _ I hq) (fun fl s' hs=>?_) fun e s' hs=>hs
 have fin:∀ {σ':St} {H':Hp} {v:V} {u:Value},Inv (cxOf CX P w K mg base N qual scope f cdv A outer s H E) [] σ' H' s'->RelV v u->Q v H'->CE outer P w H s Q u s' :=
  fun {σ' H' v u} J rv q=>⟨v,H',J.os,J.bare,J.base,J.hok,rv,q⟩
 cases fl with
 | ret u=>
  obtain ⟨v,σ',H',J,rv,q⟩:=hs
  exact fin J rv q
 | next=>
  obtain ⟨σ',H',J,q⟩:=hs
  exact fin (v:=V.non) (u:=Value.none) J rfl q
 | brk=>
  obtain ⟨_,_,_,q⟩:=hs
  exact False.elim q
 | cont=>
  obtain ⟨_,_,_,q⟩:=hs
  exact False.elim q
section
variable {X:Cx} {x:Str} {p pos:Pos} {e:Expr} {es:List Expr} {t:TA} {id T:String} {r:List V->Hp->VK->Prop}
noncomputable def tCB (r:List V->Hp->VK->Prop) (t:TA):TE:=fun σ H Q=>t σ H fun vs H1=>r vs H1 Q
theorem ZAP (hc:ZCI X (.builtin id) r) (hg:Gl X x) (hm:X.mg x=none) (hv:bootBuiltins x=some (.builtin id)) (ha:PA X (e::es) t) (hn:x≠"__name__":=by decide) (hdb:(x == ("__debug__":Str))=false:=by decide)
  (he:starEach (e::es) X.env=(false,eval e X.env)::starEach es X.env:=by rfl) (hpl:(backTo pos (starEach es X.env)).any (·.1)=false:=by rfl):PE X (.Call (.Name x p) (e::es) [] pos) (tCB r t):=by
 intro pins s σ H Q I h
 refine wpAny_Call_Name_kw (ZC1 I hg hm hv ?_ hn hdb)
 exact PyProof.Rows.callWith_builtin1 (thn (ha pos pins s σ H _ I h) fun us s1 ⟨vs,H1,I1,r1,q1⟩=>hc pins s1 σ H1 vs us Q I1 r1 q1) he hpl
theorem ZA9 (hc:ZCI X (.type T) r) (hg:Gl X x) (hm:X.mg x=none) (hv:bootBuiltins x=some (.type T)) (ha:PA X (e::es) t) (hn:x≠"__name__":=by decide) (hdb:(x == ("__debug__":Str))=false:=by decide)
  (he:starEach (e::es) X.env=(false,eval e X.env)::starEach es X.env:=by rfl) (hpl:(backTo pos (starEach es X.env)).any (·.1)=false:=by rfl):PE X (.Call (.Name x p) (e::es) [] pos) (tCB r t):=by
 intro pins s σ H Q I h
 refine wpAny_Call_Name_kw (ZC1 I hg hm hv ?_ hn hdb)
 exact PyProof.Rows.callWith_type1 (thn (ha pos pins s σ H _ I h) fun us s1 ⟨vs,H1,I1,r1,q1⟩=>hc pins s1 σ H1 vs us Q I1 r1 q1) he hpl
end
end L2
namespace HT
open PySem PyProof.Rows
section
open PySem.SeqAt
open PySem.AutoSeq1 (wpAny_loadPart')
open PySem.MeetsSeq PySem.MeetsSeq2 PySem.MeetsSeq3
end
section
variable {prog:Program} {w:World} {A:Around} {E:Value->Shared->Prop} {s:Shared}
end
end HT
namespace L2
open PySem PySem.Spec PyProof.Rows
noncomputable abbrev TO:=St->Hp->(Option Int->Hp->Prop)->Prop
noncomputable def PO (X:Cx) (e:Option Expr) (t:TO):Prop :=
 ∀ (pins:List (Addr×Obj)) (s:Shared) (σ:St) (H:Hp) (Q:Option Int->Hp->Prop),Inv X pins σ H s->t σ H Q ->
  wpAny (model X.prog X.w) X.A (evalPart e X.env) (fun u s'=>∃ o H',Inv X pins σ H' s' /\ IsPart u o /\ Q o H') X.xe s
noncomputable def ZC3:TO:=fun _ H Q=>Q none H
noncomputable def ZDn (t:TE):TO:=fun σ H Q=>t σ H fun x H1=>∃ i,x=.int i /\ Q (some i) H1
theorem intsAre_of {ns:List Int}:∀ {us:List Value},Vals (ns.map V.int) us->IntsAre us ns:=by
 induction ns with
 | nil=>intro us r;rw [List.map_nil] at r;cases r;exact .nil
 | cons n ns ih=>
  intro us r
  rw [yAS] at r
  cases r with
  | cons r1 r2=>
   obtain ⟨t,e⟩:=r1
   subst e
   exact .cons n t (ih r2)
section
variable {X:Cx} {e:Expr} {te:TE} {lo hi:Option Expr} {tl th:TO} {pos p2:Pos}
theorem ZBE:PO X none ZC3:=by
 intro pins s σ H Q I h
 rw [evalPart_none]
 exact wpAny_pure ⟨none,H,I,.none,h⟩
theorem ZBD (h:PE X e te):PO X (some e) (ZDn te):=by
 intro pins s σ H Q I hw
 rw [evalPart_some]
 refine thn (h pins s σ H _ I hw) fun u s1 zz=>?_
 obtain ⟨x,H1,I1,r1,q1⟩:=zz
 obtain ⟨i,rfl,q⟩:=q1
 obtain ⟨t,rfl⟩:=r1
 exact ⟨some i,H1,I1,.int i t,q⟩
noncomputable def SlR (X:Cx) (r:V->Option Int->Option Int->Hp->VK->Prop):Prop :=
 ∀ (pins:List (Addr×Obj)) (s:Shared) (σ:St) (H:Hp) (x:V) (v vl vu:Value) (lo hi:Option Int) (sl:Addr) (Q:VK),Inv X pins σ H s->RelV x v->s.heap.IsSliceOf sl vl vu .none->IsPart vl lo->IsPart vu hi->r x lo hi H Q ->
  ∃ T id,typeLookup (.type T) "__getitem__"=pure (some (.builtin id)) /\ s.TypeIs v T /\ wpAny (model X.prog X.w) X.A (getItem v (.ref sl)) (EP X pins σ Q) X.xe s
noncomputable def tSl (r:V->Option Int->Option Int->Hp->VK->Prop) (te:TE) (tl th:TO):TE:=fun σ H Q=>te σ H fun x H1=>tl σ H1 fun l H2=>th σ H2 fun u H3=>r x l u H3 Q
theorem ZAz {r:V->Option Int->Option Int->Hp->VK->Prop} (hr:SlR X r) (he:PE X e te) (hl:PO X lo tl) (hu:PO X hi th):PE X (.Subscript e (.Slice lo hi none p2) pos) (tSl r te tl th):=by
 intro pins s σ H Q I h
 refine Subscript_ (thn (he pins s σ H _ I h) fun v s1 zz=>?_)
 obtain ⟨x,H1,I1,r1,q1⟩:=zz
 refine wpAny_Slice (thn (hl pins s1 σ H1 _ I1 q1) fun vl s2 ⟨l,H2,I2,pl,q2⟩=>thn (hu pins s2 σ H2 _ I2 q2) fun vu s3 zz=>?_)
 obtain ⟨u,H3,I3,pu,q3⟩:=zz
 rw [evalPart_none]
 refine wpAny_pure ?_
 have I4:Inv X pins σ H3 { s3 with heap:=s3.heap.push { cls:=.type "slice",data:=.fields #[vl,vu,.none] } }:=I3.kept (t':=s3.toks) fun b ob q=>Heap.get?_push_of_some _ q
 obtain ⟨T,id,hT,ht,hg⟩:=hr pins { s3 with heap:=s3.heap.push { cls:=.type "slice",data:=.fields #[vl,vu,.none] } } σ H3 x v vl vu l u s3.heap.objs.size Q I4 r1 (Heap.IsSliceOf.new ..) pl pu q3
 show wpAny (model X.prog X.w) X.A (subscriptTail e (.Slice lo hi none p2) v (.ref s3.heap.objs.size)) (EP X pins σ Q) X.xe { s3 with heap:=s3.heap.push { cls:=.type "slice",data:=.fields #[vl,vu,.none] } }
 exact tail_any (ops:=[.ref s3.heap.objs.size,v]) ht hT hg (by with_unfolding_all rfl)
end
noncomputable def ixN (n:Nat) (i:Int):Option Nat:=if 0 <= i then (if i < n then some i.toNat else none) else if -(n:Int) <= i then some (i+n).toNat else none
noncomputable def atI {α:Type} (xs:List α) (i:Int):Option α:=(ixN xs.length i).bind fun j=>xs[j]?
theorem ixN_seq {n:Nat} {i:Int} {j:Nat} (h:ixN n i=some j):seqIndex? i n=some j /\ j < n /\ -(n:Int) <= i /\ i < n:=by
 unfold ixN at h
 by_cases h0:0 <= i
 .rw [if_pos h0] at h
  by_cases h1:i < n
  .rw [if_pos h1] at h
   have e:i.toNat=j:=Option.some.inj h
   exact ⟨by rw [seqIndex_of h0 h1,e],by omega,by omega,h1⟩
  .rw [if_neg h1] at h;cases h
 .rw [if_neg h0] at h
  by_cases h1:-(n:Int) <= i
  .rw [if_pos h1] at h
   have e:(i+n).toNat=j:=Option.some.inj h
   exact ⟨by rw [seqIndex_neg (by omega) h1,e],by omega,h1,by omega⟩
  .rw [if_neg h1] at h;cases h
theorem atI_get {α:Type} {xs:List α} {i:Int} {v:α} (h:atI xs i=some v):∃ j,seqIndex? i xs.length=some j /\ xs[j]?=some v /\ j < xs.length /\ -(xs.length:Int) <= i /\ i < xs.length:=by
 unfold atI at h
 cases e:ixN xs.length i with
 | none=>rw [e] at h;cases h
 | some j=>
  rw [e] at h
  obtain ⟨h1,h2,h3,h4⟩:=ixN_seq e
  exact ⟨j,h1,h,h2,h3,h4⟩
theorem atI_nat {α:Type} {xs:List α} {j:Nat} {v:α} (h:xs[j]?=some v):atI xs (j:Int)=some v:=by
 have hj:j < xs.length:=(yAN.mp h).1
 have e:ixN xs.length (j:Int)=some j:=by
  unfold ixN
  rw [if_pos (by omega),if_pos (by omega)];simp
 unfold atI;rw [e];exact h
noncomputable def PlainIx (b:Expr):Prop:=∀ o i,subscripted b false o i=operate [o,i] (getItem o i)
noncomputable def IxR (X:Cx) (r:R2):Prop :=
 ∀ (value slice:Expr) (pins:List (Addr×Obj)) (s:Shared) (σ:St) (H:Hp) (x y:V) (v u:Value) (Q:VK),Inv X pins σ H s->RelV x v->RelV y u->r x y H Q ->
  subscripted slice false v u=operate [v,u] (getItem v u)->wpAny (model X.prog X.w) X.A (subscriptTail value slice v u) (EP X pins σ Q) X.xe s
noncomputable def MtR (X:Cx) (id:String) (r:V->List V->Hp->VK->Prop):Prop :=
 ∀ (pins:List (Addr×Obj)) (s:Shared) (σ:St) (H:Hp) (x:V) (xs:List V) (v:Value) (us:List Value) (Q:VK),Inv X pins σ H s->RelV x v->Vals xs us->r x xs H Q ->
  wpAny (model X.prog X.w) X.A (call (.builtin id) (v::us)) (EP X pins σ Q) X.xe s
section
variable {X:Cx} {a b:Expr} {ta tb:TE} {pos:Pos}
theorem ZBF {r:R2} (hr:IxR X r) (ha:PE X a ta) (hb:PE X b tb) (hs:PlainIx b):PE X (.Subscript a b pos) (tOp r ta tb):=by
 intro pins s σ H Q I h
 exact Subscript_ (binT ha hb I h fun v u s2 x y H2 I2 rx ry q=>hr a b pins s2 σ H2 x y v u Q I2 rx ry q (hs _ _))
noncomputable def rIxL (K:W.Frag):R2:=fun x y H Q=>∃ p xs i v,x=.ref p /\ y=.int i /\ SqL K H p xs /\ atI xs i=some v /\ Q v H
noncomputable def rIxS:R2:=fun x y H Q=>∃ z i c,x=.str z /\ y=.int i /\ z.length <= sizeLine /\ atI z.cps.toList i=some c /\ Q (.str ⟨#[c]⟩) H
theorem ZAd:IxR X (rIxL X.K):=by
 intro value slice pins s σ H x y v u Q I rx ry h hs
 obtain ⟨p,xs,i,z,rfl,rfl,hq,he,q⟩:=h
 cases rx
 obtain ⟨t,rfl⟩:=ry
 obtain ⟨its,r,pl,hz⟩:=I.list hq
 obtain ⟨j,h1,h2,h3,h4,h5⟩:=atI_get he
 obtain ⟨w,ew,rw'⟩:=r.get h2
 have hl:=r.length
 have hn:=ZDL
 have fin:EP X pins σ Q w s:=⟨z,H,I,rw',q⟩
 by_cases h0:0 <= i
 .have hj:i.toNat=j:=by
   rw [seqIndex_of h0 h5] at h1
   exact Option.some.inj h1
  exact item_listR pl.isList h0 (by omega) (by rw [hj];simpa using ew) fin hs
 .have hj:(i+(its.toArray.size:Int)).toNat=j:=by
   rw [seqIndex_neg (by omega) h4] at h1
   rw [yAP,<- hl]
   exact Option.some.inj h1
  exact subscriptTail_builtinR (x:=w) pl.isList.typeIs slot_list_getitem.lookup
   (wpAny_getItem_list_neg (Q:=fun r s'=>r=w /\ EP X pins σ Q r s') pl.isList (by omega) (by rw [yAP] <;> omega) (by omega) (by rw [hj];simpa using ew) ⟨rfl,fin⟩) hs
theorem ix_str:IxR X rIxS:=by
 intro value slice pins s σ H x y v u Q I rx ry h hs
 obtain ⟨z,i,c,rfl,rfl,hz,he,q⟩:=h
 obtain ⟨t,rfl⟩:=rx
 obtain ⟨t',rfl⟩:=ry
 obtain ⟨j,h1,h2,h3,h4,h5⟩:=atI_get he
 have hl:z.cps.toList.length=z.length:=by simp [Str.length]
 rw [hl] at h1 h4 h5
 have hn:=ZDL
 exact tail_any (typeIs_str s z t) slot_str_getitem.lookup (getItem_str (c:=c) (by
  have e1:decide (i < -(2 ^ 63:Int))=false:=decide_eq_false (by omega)
  have e2:decide (i≥2 ^ 63)=false:=decide_eq_false (by omega)
  rw [e1,e2,Bool.or_false]) (by rw [h1];simpa using h2) ⟨.str ⟨#[c]⟩,H,I.tok _,⟨_,rfl⟩,q⟩) hs
noncomputable def ZC2:V->Bool
 | .non=>true
 | .bl _=>true
 | .int _=>true
 | .str _=>true
 | _=>false
noncomputable def eqV:V->V->Bool
 | .non,.non=>true
 | .bl a,.bl b=>a == b
 | .bl a,.int b=>(if a then 1 else 0) == b
 | .int a,.bl b=>a == (if b then 1 else 0)
 | .int a,.int b=>a == b
 | .str a,.str b=>a == b
 | _,_=>false
theorem eqAt_V {A:Around} {s:Shared} {y x:V} {u v:Value} (ry:RelV y u) (rx:RelV x v) (fy:ZC2 y=true) (fx:ZC2 x=true):SeqAt.EqAt A s u v (eqV y x):=by
 cases y with
 | non=>
  cases ry
  cases x with
  | non=>cases rx;exact SeqAt.EqAt.same _
  | bl b=>cases rx;exact SeqAt.EqAt.none_bool b
  | int b=>obtain ⟨t,rfl⟩:=rx;exact SeqAt.EqAt.none_int b t
  | str b=>obtain ⟨t,rfl⟩:=rx;exact SeqAt.EqAt.none_str b t
  | _=>exact absurd (show false=true from fx) yAH
 | bl a=>
  cases ry
  cases x with
  | non=>cases rx;exact SeqAt.EqAt.bool_none a
  | bl b=>cases rx;exact SeqAt.EqAt.bool_bool a b
  | int b=>obtain ⟨t,rfl⟩:=rx;exact SeqAt.EqAt.bool_int a b t
  | str b=>obtain ⟨t,rfl⟩:=rx;exact SeqAt.EqAt.bool_str a b t
  | _=>exact absurd (show false=true from fx) yAH
 | int a=>
  obtain ⟨t',rfl⟩:=ry
  cases x with
  | non=>cases rx;exact SeqAt.EqAt.int_none a t'
  | bl b=>cases rx;exact SeqAt.EqAt.int_bool a t' b
  | int b=>obtain ⟨t,rfl⟩:=rx;exact SeqAt.EqAt.int_int a t' b t
  | str b=>obtain ⟨t,rfl⟩:=rx;exact SeqAt.EqAt.int_str a t' b t
  | _=>exact absurd (show false=true from fx) yAH
 | str a=>
  obtain ⟨t',rfl⟩:=ry
  cases x with
  | non=>cases rx;exact SeqAt.EqAt.str_none a t'
  | bl b=>cases rx;exact SeqAt.EqAt.str_bool a t' b
  | int b=>obtain ⟨t,rfl⟩:=rx;exact SeqAt.EqAt.str_int a t' b t
  | str b=>obtain ⟨t,rfl⟩:=rx;exact SeqAt.EqAt.str_str a t' b t
  | _=>exact absurd (show false=true from fx) yAH
 | _=>exact absurd (show false=true from fy) yAH
noncomputable def eqU (x:V) (u:Value):Bool:=match u with
 | .none=>eqV .non x
 | .bool b=>eqV (.bl b) x
 | .int i _=>eqV (.int i) x
 | .str z _=>eqV (.str z) x
 | _=>false
theorem eqU_of {x y:V} {u:Value} (r:RelV y u) (f:ZC2 y=true):eqU x u=eqV y x:=by
 cases y with
 | non=>cases r;rfl
 | bl b=>cases r;rfl
 | int i=>obtain ⟨t,rfl⟩:=r;rfl
 | str z=>obtain ⟨t,rfl⟩:=r;rfl
 | _=>exact absurd (show false=true from f) yAH
theorem ZDE {x:V}:∀ {xs:List V} {us:List Value},Vals xs us->xs.all ZC2=true->us.any (eqU x)=xs.any fun y=>eqV y x
 | _,_,.nil,_=>rfl
 | y::xs,u::us,.cons r t,f=>by
  rw [yBG,yAT] at f
  rw [List.any_cons,List.any_cons,eqU_of r f.1,ZDE t f.2]
theorem ZCp {A:Around} {s:Shared} {x:V} {v:Value} (rx:RelV x v) (fx:ZC2 x=true):∀ {xs:List V} {us:List Value},Vals xs us->xs.all ZC2=true->∀ u∈us,SeqAt.EqAt A s u v (eqU x u)
 | _,_,.nil,_=>fun u hu=>by cases hu
 | y::xs,u::us,.cons r t,f=>fun u' hu=>by
  rw [yBG,yAT] at f
  rcases yAC.mp hu with rfl | hu
  .rw [eqU_of r f.1];exact eqAt_V r rx f.1 fx
  .exact ZCp rx fx t f.2 u' hu
noncomputable def inV (x:V) (xs:List V):Bool:=xs.any fun y=>eqV y x
noncomputable def rIn (K:W.Frag) (neg:Bool):R2:=fun x y H Q=>∃ p xs,y=.ref p /\ (SqL K H p xs∨SqT K H p xs) /\ ZC2 x=true /\ xs.all ZC2=true /\ Q (.bl (if neg then !inV x xs else inV x xs)) H
theorem op_notIn_seq:OpR X (compareOp .NotIn) (rIn X.K true):=by
 intro pins s σ H x y v u Q I rx ry h
 obtain ⟨p,xs,rfl,hq,fx,fs,q⟩:=h
 cases ry
 rcases hq with hq | hq
 .obtain ⟨its,r,pl,hz⟩:=I.list hq
  refine SeqAt.notIn_listAt (eqU x) pl.isList (fun w hw=>ZCp rx fx r fs w (by simpa using hw)) ⟨.bl _,H,I,rfl,?_⟩
  rw [show its.toArray.any (eqU x)=its.any (eqU x) by simp,ZDE r fs]
  exact q
 .obtain ⟨its,r,pl,hz⟩:=I.tuple hq
  refine SeqAt.notIn_tupleAt (eqU x) pl (fun w hw=>ZCp rx fx r fs w (by simpa using hw)) ⟨.bl _,H,I,rfl,?_⟩
  rw [show its.toArray.any (eqU x)=its.any (eqU x) by simp,ZDE r fs]
  exact q
theorem ZA2:ZCI X (.builtin "len") (fun xs H Q=>∃ p ys,xs=[.ref p] /\ (SqL X.K H p ys∨SqT X.K H p ys) /\ Q (.int ys.length) H):=by
 intro pins s σ H xs us Q I r h
 obtain ⟨p,ys,rfl,hq,q⟩:=h
 obtain ⟨u,rfl,rx⟩:=ZCA r
 cases rx
 have hn:=ZDL
 rcases hq with hq | hq
 .obtain ⟨its,r',pl,hz⟩:=I.list hq
  have hlen:=r'.length
  exact Calls.call_len_list pl.isList (by simp only [yAP] <;> omega) ⟨.int ys.length,H,I.tok _,⟨s.toks+1,by rw [yAP,hlen]⟩,q⟩
 .obtain ⟨its,r',pl,hz⟩:=I.tuple hq
  have hlen:=r'.length
  exact len_tuple pl (by simp only [yAP] <;> omega) ⟨.int ys.length,H,I.tok _,⟨s.toks+1,by rw [yAP,hlen]⟩,q⟩
theorem ZBB:ZCI X (.builtin "len") (fun xs H Q=>∃ z,xs=[.str z] /\ z.length <= sizeLine /\ Q (.int z.length) H):=by
 intro pins s σ H xs us Q I r h
 obtain ⟨z,rfl,hz,q⟩:=h
 obtain ⟨u,rfl,t,rfl⟩:=ZCA r
 have hn:=ZDL
 exact len_str (by omega) ⟨.int z.length,H,I.tok _,⟨_,rfl⟩,q⟩
theorem ZBw:ZCI X (.type "list") (fun xs H Q=>∃ p ys,xs=[.ref p] /\ (SqL X.K H p ys∨SqT X.K H p ys) /\ ∀ l,H l=none->Q (.ref l) (upd H l (.lst ys))):=by
 intro pins s σ H xs us Q I r h
 obtain ⟨p,ys,rfl,hq,q⟩:=h
 obtain ⟨u,rfl,rx⟩:=ZCA r
 cases rx
 have fin:∀ (its:List Value),Vals ys its->ys.length <= sizeLine->∀ (h':Heap) (c':Nat),(∀ b o',s.heap.get? b=some o'->h'.get? b=some o') ->
   h'.get? s.heap.objs.size=some { cls:=.type "list",dict:=none,data:=.seq its.toArray c',slots:=#[] }->EP X pins σ Q (.ref s.heap.objs.size) { s with heap:=h' }:=fun its r' hz h' c' kp e=>
  ⟨.ref s.heap.objs.size,_,I.laid (t':=s.toks) kp (yAA _) (show ObjOk X.prog X.w _ h' _ (.lst ys) from ⟨hz,its,c',r',e⟩),rfl,q _ (I.hok.fresh (yAA _))⟩
 rcases hq with hq | hq
 .obtain ⟨its,r',pl,hz⟩:=I.list hq
  have hlen:=r'.length
  obtain ⟨o,ho,hc,n,hd⟩:=pl.isList
  exact call_list_seq p (.inl rfl) ho hc hd (fun h' c' kp e=>fin its r' hz h' c' kp e) (by simp only [yAP] <;> omega)
 .obtain ⟨its,r',pl,hz⟩:=I.tuple hq
  have hlen:=r'.length
  obtain ⟨o,ho,hc,n,hd⟩:=pl
  exact call_list_seq p (.inr rfl) ho hc hd (fun h' c' kp e=>fin its r' hz h' c' kp e) (by simp only [yAP] <;> omega)
noncomputable def tyV (K:W.Frag) (T:String) (x:V) (H:Hp):Prop:=match x with
 | .str _=>T="str"
 | .int _=>T="int"
 | .ref p=>(T="list" /\ ∃ xs,SqL K H p xs)∨(T="tuple" /\ ∃ o,K.lookup p=some o /\ o.cls=.type "tuple" /\ o.dict=none) ∨
   (T="dict" /\ ((∃ kvs,H p=some (.dK kvs))∨∃ kvs,H p=some (.dT kvs)))∨(T="set" /\ ∃ S n,H p=some (.set S n))
 | _=>False
theorem tyV_is {pins:List (Addr×Obj)} {σ:St} {H:Hp} {s:Shared} {T:String} {x:V} {v:Value} (I:Inv X pins σ H s) (r:RelV x v) (ty:tyV X.K T x H) :
  s.TypeIs v T /\ ∀ a,v=.ref a->∃ ob,s.heap.get? a=some ob /\ ob.dict=none:=by
 cases x with
 | str z=>
  obtain ⟨t,rfl⟩:=r
  cases (show T="str" from ty)
  exact ⟨typeIs_str s z t,fun _ e=>nomatch e⟩
 | int i=>
  obtain ⟨t,rfl⟩:=r
  cases (show T="int" from ty)
  exact ⟨typeIs_int s i t,fun _ e=>nomatch e⟩
 | ref p=>
  cases r
  rcases ty with ⟨rfl,xs,hq⟩ | ⟨rfl,o,hk,hc,hd⟩ | ⟨rfl,hk⟩ | ⟨rfl,S,n,hk⟩
  .obtain ⟨its,_,pl,_⟩:=I.list hq
   refine ⟨pl.isList.typeIs,fun a e=>?_⟩
   cases e
   obtain ⟨o,n,e,c,hd,_⟩:=pl
   exact ⟨o,e,hd⟩
  .refine ⟨⟨o,I.kIn p o hk,hc⟩,fun a e=>?_⟩
   cases e
   exact ⟨o,I.kIn _ o hk,hd⟩
  .have z:∃ o,s.heap.get? p=some o /\ o.ExactDict:=by
    rcases hk with ⟨kvs,hk⟩ | ⟨kvs,hk⟩
    .obtain ⟨_,_,_,_,o,_,_,e,ex,_⟩:=I.hok p _ hk
     exact ⟨o,e,ex⟩
    .obtain ⟨_,_,_,_,o,_,_,e,ex,_⟩:=I.hok p _ hk
     exact ⟨o,e,ex⟩
   obtain ⟨o,e,ex⟩:=z
   refine ⟨⟨o,e,ex.1⟩,fun a e2=>?_⟩
   cases e2
   exact ⟨o,e,ex.2.1⟩
  .obtain ⟨o,_,_,_,e,ex,_⟩:=I.hok p _ hk
   refine ⟨⟨o,e,ex.1⟩,fun a e2=>?_⟩
   cases e2
   exact ⟨o,e,ex.2.1⟩
 | _=>exact False.elim ty
noncomputable def tBM0 (K:W.Frag) (T:String) (r:V->List V->Hp->VK->Prop) (to:TE):TE:=fun σ H Q=>to σ H fun x H1=>tyV K T x H1 /\ r x [] H1 Q
noncomputable def tBM (K:W.Frag) (T:String) (r:V->List V->Hp->VK->Prop) (to:TE) (t:TA):TE:=fun σ H Q=>to σ H fun x H1=>tyV K T x H1 /\ t σ H1 fun xs H2=>r x xs H2 Q
variable {o e:Expr} {es:List Expr} {to:TE} {t:TA} {name:Str} {apos cpos:Pos} {T id:String} {r:V->List V->Hp->VK->Prop}
theorem ZCN (pa:PlainAttrs T) (slot:Slot T name id) (hty:typeOf (.builtin id)=pure (.type "method_descriptor")) (hm:MtR X id r) (ho:PE X o to) (ha:PA X (e::es) t)
  (hbase:attributeBase o name X.env (eval o X.env)=eval o X.env:=by rfl)
  (hfew:((backTo cpos (starEach (e::es) X.env)).all (fun x=>!x.1) && (backToKw cpos (keywordEach [] X.env)).all (fun x=>x.1.isSome)
   && decide ((e::es).length+([]:List Keyword).length+(if ([]:List Keyword).isEmpty then 0 else 1) < 30))=true:=by rfl)
  (hline:(apos.endLine == cpos.line)=true:=by rfl) (hs:starEach (e::es) X.env=(false,eval e X.env)::starEach es X.env:=by rfl) (hplain:(backTo cpos (starEach es X.env)).any (·.1)=false:=by rfl) :
  PE X (.Call (.Attribute o name apos) (e::es) [] cpos) (tBM X.K T r to t):=by
 intro pins s σ H Q I h
 refine wpAny_Call_method_late hbase hfew hline rfl (thn (ho pins s σ H _ I h) fun v s1 zz=>?_)
 obtain ⟨x,H1,I1,r1,ty,q1⟩:=zz
 obtain ⟨h1,h2⟩:=tyV_is I1 r1 ty
 refine ⟨T,id,pa,slot,hty,h1,h2,?_⟩
 have hA:=ha cpos pins s1 σ H1 _ I1 q1
 rw [hs] at hA ⊢
 refine Calls.callWith_builtin (by show (false || (backTo cpos (starEach es X.env)).any (·.1))=false;rw [hplain] <;> rfl) (Calls.evalArgs_plain ?_)
 exact thn hA fun us s2 ⟨vs,H2,I2,r2,q2⟩=>hm pins s2 σ H2 x vs v us Q I2 r1 r2 q2
end
section
variable {X:Cx} {pins:List (Addr×Obj)} {σ:St} {H:Hp} {s:Shared} {l b:Addr} {xs ys zs:List V}
theorem Inv.lnew {its:List Value} {t':Nat} (I:Inv X pins σ H s) (hv:Vals ys its) (hz:ys.length <= sizeLine) :
  Inv X pins σ (upd H s.heap.objs.size (.lst ys)) { s with heap:=s.heap.push { cls:=.type "list",data:=.seq its.toArray },toks:=t' } :=
 I.laid (fun _ _ q=>Heap.get?_push_of_some _ q) (yAA _) ⟨hz,its,0,hv,Heap.get?_push_size _ rfl⟩
theorem Inv.fresh (I:Inv X pins σ H s):H s.heap.objs.size=none:=I.hok.fresh (yAA _)
theorem Inv.lstM (I:Inv X pins σ H s) (hH:H l=some (.lst xs)):xs.length <= sizeLine /\ ∃ (its:List Value) (n:Nat),Vals xs its /\ xs.length=its.length /\ s.heap.get? l=some { cls:=.type "list",data:=.seq its.toArray n }:=by
 obtain ⟨z,its,n,r,e⟩:=I.hok l _ hH
 exact ⟨z,its,n,r,r.length,e⟩
end
section
variable {X:Cx}
noncomputable def rCat:R2:=fun x y H Q=>∃ l b xs zs,x=.ref l /\ y=.ref b /\ H l=some (.lst xs) /\ H b=some (.lst zs) /\ xs.length+zs.length <= sizeLine /\ ∀ p,H p=none->Q (.ref p) (upd H p (.lst (xs++zs)))
theorem ZC0:OpR X (binaryOp .Add) rCat:=by
 intro pins s σ H x y v u Q I rx ry h
 obtain ⟨l,b,xs,zs,rfl,rfl,hH,hB,hz,q⟩:=h
 cases rx
 cases ry
 obtain ⟨z,its,n,r,hl,e⟩:=I.lstM hH
 obtain ⟨z2,its2,n2,r2,hl2,e2⟩:=I.lstM hB
 refine PySem.P.add_list e e2 ?_ (by rw [yAP,yAP];omega)
 have ea:its.toArray++its2.toArray=(its++its2).toArray:=by simp
 rw [ea]
 exact ⟨.ref _,_,I.lnew (t':=s.toks) (r.append r2) (by rw [yAO];omega),rfl,q _ I.fresh⟩
end
section
variable {prog:Program} {w:World} {A:Around} {E:Value->Shared->Prop} {s:Shared}
set_option maxRecDepth 100000 in
end
section
variable {X:Cx}
end
end L2
namespace Att
open PySem PySem.W PySem.Calls PyProof.Rows
theorem ints_of_wellAll {P:Params} {h:Heap}:∀ (ns:List Int) (vs:List Value),WellAll P h vs (ns.map WData.int)->IntsAre vs ns:=by
 intro ns
 induction ns with
 | nil=>
  intro vs w
  rw [List.map_nil] at w
  cases w
  exact .nil
 | cons n ns ih=>
  intro vs w
  rw [yAS] at w
  cases w with
  | cons a b=>
   cases a
   exact .cons _ _ (ih _ b)
theorem script_of {l:OpenLaw} {n:Nat} (hn:l.most=some n) {P:Params} {h:Heap} {args:List WData} {vals:List Value}
  (hpre:l.row.toRowW.claim.pre args=true) (hwl:WellAll P h vals args) :
  ∃ a vs ns,vals=[Value.ref a] /\ args=[WData.list (ns.map WData.int)] /\ h.get? a=some { cls:=.type "list",data:=.seq vs.toArray } /\ IntsAre vs ns /\ ns.length <= n:=by
 have hsh:WShape.hasAll [] args [.list .int]=true:=(pre_splitW hpre).1
 have hc:l.pre.holds [] { args:=args }=true:=(pre_splitW hpre).2
 obtain ⟨d,r,rfl,h1,h2⟩:=hasAllW_cons hsh
 obtain rfl:=hasAllW_nil h2
 obtain ⟨xs,rfl,h3⟩:=hasW_list h1
 obtain ⟨ns,rfl⟩:=items_int h3
 have hlen:ns.length <= n:=by
  unfold OpenLaw.pre at hc
  have h4:(WTm.not (.lt (.lit (.int (n:Int))) (.len (.arg 0)))).holds [] { args:=[.list (ns.map .int)] }=true:=by
   have h4:=(holds_andW hc).1
   rw [hn] at h4
   exact h4
  have h5:=condW_of h4 (w_not (w_lt w_lit (w_len_list (w_arg rfl))))
  rw [yAB] at h5
  refine Nat.le_of_not_lt fun q=>?_
  have q':(n:Int) < ((ns.length:Nat):Int):=by omega
  first
   | (rw [decide_eq_true q'] at h5;exact absurd h5 (by decide))
   | (simp at h5;omega)
 cases hwl with
 | cons w1 w2=>
  cases w2
  cases w1 with
  | list ho hall=>exact ⟨_,_,ns,rfl,rfl,ho,ints_of_wellAll ns _ hall,hlen⟩
theorem post_true (l:OpenLaw) (args:List WData):l.row.toRowW.claim.post args (.bool true) args=true :=
 postW_of (r:=l.row.toRowW) (X:=(true == true))
  (show WShape.has [] (.bool true) .bool=true by first | rfl | decide | simp [WShape.has,WShape.arms,WShape.armsAll])
  (show (WTm.eq .res (.lit (.bool true))).value [] { args:=args,res:=some (.bool true),after:=args }=some (.bool (true == true)) from w_eq_bool (w_res rfl) w_lit) rfl
theorem attach_call {l:OpenLaw} {n:Nat} {q:Program} {loose:List Str} {XP:(Str->Option Value)->Heap->Prop} {YP:World->Heap->Prop} {d:DefRec}
  (hn:l.most=some n) (hdf:d.params.defaults=[])
  (call:∀ (w:World) (s₀ s₁:Shared) (mg mb:Str->Option Value) (fa:Addr) (o:Obj) (pm cd doc:Value) (a:Addr) (vs:List Value) (ns:List Int),
   Ground q loose [] XP w s₀ mg mb s₁.heap->YP w s₁.heap ->
   s₁.heap.get? fa=some o->o.data=.func (docDef d.name d.params d.body d.scope pm cd doc)->s₁.heap.CodeRec cd d.name->mg d.name=some (.ref fa) ->
   s₁.heap.get? a=some { cls:=.type "list",data:=.seq vs.toArray }->IntsAre vs ns->ns.length <= n->s₁.gens=#[] ->
   codeAny (model l.prog w) callerA (.call (.ref fa) ⟨[.ref a],[]⟩) (fun r s'=>r=.ok (.ret (.bool true)) /\ OldK s₁.heap s'.heap /\ s'.os=s₁.os /\ AllBare s'.gens) s₁) :
  WalkO q loose XP YP l.row.toRowW d [] (fun f vs=>PySem.call f vs):=by
 intro w s₀ s₁ mg mb G Y fa o pm cd doc dV kV ho hd hcd hD hmg hg args vals as hpre hlay hrd hwl hlo
 obtain rfl:dV=.none:=Dflts.none hD hdf
 obtain rfl:kV=.none:=Dflts.noKw hD
 obtain ⟨a,vs,ns,rfl,rfl,hobj,hints,hlen⟩:=script_of hn hpre hwl
 refine enter_call (codeAny_mono (call w s₀ s₁ mg mb fa o pm cd doc a vs ns G Y ho (fd_plain hd) hcd hmg hobj hints hlen hg) fun r s' hq=>?_)
 obtain ⟨rfl,h2,h3,h4⟩:=hq
 exact ⟨.inl ⟨.bool true,.bool true,[],rfl,fun _=>rfl,.bool true,post_true l _,fun _=>⟨List.Pairwise.nil,fun _ hm=>(nomatch hm)⟩⟩,h2,h3,h4⟩
section
variable {prog:Program} {w:World} {A:Around} {E:Value->Shared->Prop} {s:Shared} {K:Frag}
end
end Att
namespace L2
open PySem PySem.Spec PyProof.Rows
theorem vals_ints:∀ {vs:List Value} {ns:List Int},IntsAre vs ns->Vals (ns.map V.int) vs
 | _,_,.nil=>.nil
 | _,_,.cons n t h=>.cons ⟨t,rfl⟩ (vals_ints h)
noncomputable def Only (H:Hp):Prop:=∀ b,H b=none∨∃ o xs,H b=some (.frz o (.lst xs))
theorem law_call {P:Program} {w:World} {K:W.Frag} {mg mb:Str->Option Value} {CX:CXT} {k:Nat} {fa a:Addr} {fd:FuncData} {x:Str} {sp:Sp} {s₁:Shared} {vs:List Value} {ns:List Int}
  (KX:K.In s₁.heap) (hns:s₁.heap.Ns mainGlobals mg) (hb:s₁.heap.Ns builtinsNs mb) (hbb:∀ x:Str,x≠"__name__"->mb x=bootBuiltins x) (hlim:s₁.heap.NoLimit) (hg:s₁.gens=#[])
  (ha:s₁.heap.get? a=some { cls:=.type "list",data:=.seq vs.toArray }) (hi:IntsAre vs ns) (hl:ns.length <= sizeLine) (hr:Room k callerA)
  (F:∀ base:Heap,K.In base->base.Ns mainGlobals mg->FnOk P w K mg base CX k fa fd [x] sp) (hbind:∀ (s:Shared) (u:Value),BindsTo s fd ⟨[u],[]⟩ [(x,u)])
  (hsp:∀ H:Hp,Only H->SqL K H a (ns.map V.int)->sp [.ref a] H (fun v _=>v=.bl true) fun _ _ _=>False)
  (hCX:∀ H e s',CX [] H s₁ (fun _ _ _=>False) e s'->False) :
  codeAny (model P w) callerA (.call (.ref fa) ⟨[.ref a],[]⟩) (fun r s'=>r=.ok (.ret (.bool true)) /\ OldK s₁.heap s'.heap /\ s'.os=s₁.os /\ AllBare s'.gens) s₁:=by
 have rv:=vals_ints hi
 have lenV:=hi.length
 have core:∀ H:Hp,Only H->SqL K H a (ns.map V.int)->HOk P w H s₁.heap->(∀ b,H b≠none->b=a)->(H a≠none->K.lookup a=none) ->
   codeAny (model P w) callerA (.call (.ref fa) ⟨[.ref a],[]⟩) (fun r s'=>r=.ok (.ret (.bool true)) /\ OldK s₁.heap s'.heap /\ s'.os=s₁.os /\ AllBare s'.gens) s₁:=by
  intro H hO hS hok hA hK
  have base_of:∀ {b:Addr} {o:Obj},s₁.heap.get? b=some o->H b=none->(hidT s₁.heap H).get? b=some o:=fun e n=>hidT_get e n
  have noA:∀ {b:Addr} {o:Obj} {es:Array DictEntry} {ep:Nat},s₁.heap.get? b=some o->o.data=.dict es ep->H b=none:=fun {b o es ep} e d=>by
   cases q:H b with
   | none=>rfl
   | some u=>
    have e':b=a:=hA b (by rw [q];simp)
    subst e'
    rw [ha] at e;cases e
    have d':Data.seq vs.toArray _=Data.dict es ep:=d
    cases d'
  have nsK:∀ {b:Addr} {m:Str->Option Value},s₁.heap.Ns b m->(hidT s₁.heap H).Ns b m:=fun {b m} ⟨o,es,ep,e,d,r⟩=>⟨o,es,ep,base_of e (noA e d),d,r⟩
  have hKb:K.In (hidT s₁.heap H):=fun b o e=>base_of (KX b o e) (by
   cases q:H b with
   | none=>rfl
   | some u=>
    have e':b=a:=hA b (by rw [q];simp)
    subst e'
    rw [hK (by rw [q];simp)] at e;cases e)
  have hM:Mod K mg (hidT s₁.heap H):=⟨hKb,nsK hns,⟨mb,nsK hb,hbb⟩,let ⟨mc,h1,h2⟩:=hlim;⟨mc,nsK h1,h2⟩⟩
  have e0:Env0 P w K mg (hidT s₁.heap H) callerA [] s₁ H:=⟨rfl,hM,fun b o e=>of_hidT e,Nat.le_of_eq (hidT_size _ _),trivial,fun b hb=>absurd (show b∈([]:List Addr) from hb) (by simp),hok,.of_eq hg⟩
  refine codeAny_mono ((F _ hKb (nsK hns)).run callerA [] s₁ H ⟨[.ref a],[]⟩ [.ref a] [.ref a] _ _ hr e0 (hbind s₁ (.ref a)) (.cons rfl .nil) (hsp H hO hS)) fun r s' h=>?_
  cases r with
  | error e=>exact (hCX H e s' h).elim
  | ok fl=>
   cases fl with
   | next=>exact False.elim h
   | brk=>exact False.elim h
   | cont=>exact False.elim h
   | ret u=>
    obtain ⟨v,H',os,bare,un,hok',r',q⟩:=h
    have q':v=.bl true:=q
    subst q'
    obtain rfl:u=Value.bool true:=r'
    refine ⟨rfl,OldK.of_keep fun b o e=>?_,os,bare⟩
    cases q:H b with
    | none=>exact un.keep b o e q (by intro z;exact absurd (show b∈([]:List Addr) from z) (by simp)) (by simp)
    | some u=>
     rcases hO b with z | ⟨ob,xs,z⟩
     .rw [q] at z;cases z
     .have z2:=un.frzs b ob _ z
      obtain ⟨e1,_⟩:=hok b _ z
      obtain ⟨e2,_⟩:=hok' b _ z2
      rw [e] at e1;cases e1
      exact e2
 cases hk:K.lookup a with
 | some o=>
  have e:=KX a o hk
  rw [ha] at e
  cases e
  refine core (fun _=>none) (fun _=>.inl rfl) (.inr ⟨_,vs.toArray,_,hk,rfl,rfl,rfl,by rw [yAP,lenV];exact hl,by simpa using rv⟩) (fun b u z=>by have z':(none:Option HO)=some u:=z;cases z') (fun b z=>absurd rfl z) fun z=>absurd rfl z
 | none=>
  refine core (fun b=>if b=a then some (.frz { cls:=.type "list",data:=.seq vs.toArray } (.lst (ns.map V.int))) else none) (fun b=>?_) (.inl (.inr ⟨{ cls:=.type "list",data:=.seq vs.toArray },if_pos rfl⟩)) (fun b u z=>?_) (fun b z=>?_) fun _=>hk
  .by_cases hb:b=a
   .exact .inr ⟨_,_,if_pos hb⟩
   .exact .inl (if_neg hb)
  .by_cases hb:b=a
   .have z':=(if_pos hb).symm.trans z
    cases z'
    subst hb
    exact ⟨ha,by rw [yAB];exact hl,vs,_,rv,ha⟩
   .have z':=(if_neg hb).symm.trans z
    cases z'
  .by_cases hb:b=a
   .exact hb
   .exact absurd (if_neg hb) z
theorem walk_of {l:PySem.W.OpenLaw} {n k:Nat} {q:Program} {loose:List Str} {XP:(Str->Option Value)->Heap->Prop} {YP:World->Heap->Prop} {d:DefRec} {K:Params->W.Frag} {CX:World->CXT} {sp:World->Sp} {x:Str}
  (hn:l.most=some n) (hn2:n <= sizeLine) (hdf:d.params.defaults=[]) (hr:Room k callerA)
  (hY:∀ (w:World) (h:Heap),YP w h->(K w.params).In h)
  (F:∀ (w:World) (mg:Str->Option Value) (fa:Addr) (h:Heap),(K w.params).In h->h.Ns mainGlobals mg->mg d.name=some (.ref fa) ->
   ∃ fd:FuncData,(∀ (s:Shared) (u:Value),BindsTo s fd ⟨[u],[]⟩ [(x,u)]) /\
    ∀ base:Heap,(K w.params).In base->base.Ns mainGlobals mg->FnOk l.prog w (K w.params) mg base (CX w) k fa fd [x] (sp w))
  (hsp:∀ (w:World) (H:Hp) (a:Addr) (ns:List Int),ns.length <= n->Only H->SqL (K w.params) H a (ns.map V.int)->sp w [.ref a] H (fun v _=>v=.bl true) fun _ _ _=>False)
  (hCX:∀ (w:World) (H:Hp) (s:Shared) (e:Value) (s':Shared),CX w [] H s (fun _ _ _=>False) e s'->False) :
  PySem.W.WalkO q loose XP YP l.row.toRowW d [] (fun f vs=>PySem.call f vs):=by
 refine Att.attach_call hn hdf fun w s₀ s₁ mg mb fa o pm cd doc a vs ns G Y ho hd hcd hmg hobj hints hlen hg=>?_
 have KX:=hY w _ Y
 obtain ⟨fd,hb,hF⟩:=F w mg fa _ KX G.T.g hmg
 exact law_call KX G.T.g G.T.b G.T.builtins G.T.nolimit hg hobj hints (yAD hlen hn2) hr hF hb (fun H hO hS=>hsp w H a ns hlen hO hS) fun H e s'=>hCX w H s₁ e s'
end L2
namespace L2
open PySem PySem.Spec PyProof.Rows
noncomputable def ZBT (s:Stmt) (j:Nat):Stmt:=match s with
 | .ClassDef _ _ _ body _ _ _ _ _ _ _=>body.getD j (.Pass ⟨0,0,0,0⟩)
 | _=>.Pass ⟨0,0,0,0⟩
noncomputable def ZAJ (s:Stmt):Arguments:=match s with
 | .FunctionDef _ a _ _ _ _ _ _ _ _=>a
 | _=>{ posonlyargs:=[],args:=[],vararg:=none,kwonlyargs:=[],kw_defaults:=[],kwarg:=none,defaults:=[] }
noncomputable def ZAH (s:Stmt):List Stmt:=match s with
 | .FunctionDef _ _ b _ _ _ _ _ _ _=>b
 | _=>[]
noncomputable def ZAB (s:Stmt):Scope:=match s with
 | .FunctionDef _ _ _ _ _ _ sc _ _ _=>sc
 | _=>{ kind:=.function,names:=[],isGenerator:=false,isCoroutine:=false }
noncomputable abbrev CX0:CXT:=fun _ _ _ _ _ _=>False
noncomputable abbrev E0:XK:=fun _ _ _=>False
theorem ZAo {X:Cx}:ZBR CX0 X E0:=fun _ _ _ _ _ _ _ h=>h.elim
structure Fun (K:W.Frag) (x qual:Str) (st:Stmt) (f:Addr) (fd:FuncData):Prop where
 ex:∃ (oc:Value) (od:Option Addr) (kV doc pm:Value) (an:Option Addr) (cdv ct:Value) (osl:Array (Option Value)),
  fd=W.fnOf x qual (ZAJ st) (ZAH st) (ZAB st) .none kV doc pm an cdv ct /\ K.lookup f=some ⟨oc,od,.func fd,osl⟩ /\ W.codeIn K cdv qual=true
 kp:W.keepIn K (.ref f)=true
section
variable {P:Program} {w:World} {K:W.Frag} {mg:Str->Option Value} {base:Heap}
theorem Fun.ok {x qual:Str} {st:Stmt} {f:Addr} {fd:FuncData} {N ps:List Str} {k:Nat} {sp:Sp} (F:Fun K x qual st f fd) (S:FnScope N ps (ZAB st)) (len:∀ vs H Q E,sp vs H Q E->vs.length=ps.length)
  (hbody:∀ (cdv:Value) (A:Around) (outer:List Env) (s:Shared) (H:Hp) (vs:List V) (Q:VK) (E:XK),Room k (A.deeper (envOfC qual (ZAB st) s.heap.objs.size f cdv))->sp vs H Q E ->
   ∃ t,PSs (cxOf CX0 P w K mg base N qual (ZAB st) f cdv A outer s H E).nox (ZAH st) t /\ t { nx:=fun _ H'=>Q .non H',rt:=Q } (start N vs) H):FnOk P w K mg base CX0 (k+1) f fd ps sp:=by
 obtain ⟨oc,od,kV,doc,pm,an,cdv,ct,osl,rfl,lk,hcd⟩:=F.ex
 refine fn_of lk hcd S len fun A outer s H vs Q E hr hsp=>?_
 obtain ⟨t,h,q⟩:=hbody cdv A outer s H vs Q E hr hsp
 exact ⟨t,h.nox,q⟩
theorem Fun.binds {x qual:Str} {st:Stmt} {f:Addr} {fd:FuncData} {ps:List Str} (F:Fun K x qual st f fd)
  (h:∀ (kV doc pm:Value) (an:Option Addr) (cdv ct:Value) (us:List Value),us.length=ps.length->bindArgs (W.fnOf x qual (ZAJ st) (ZAH st) (ZAB st) .none kV doc pm an cdv ct) ⟨us,[]⟩=pure (ps.zip us)):Binds K fd ps []:=by
 obtain ⟨oc,od,kV,doc,pm,an,cdv,ct,osl,rfl,lk,hcd⟩:=F.ex
 exact .all (h kV doc pm an cdv ct)
theorem ZAe {x qual:Str} {st:Stmt} {f:Addr} {oc:Value} {od an:Option Addr} {osl:Array (Option Value)} {kV doc pm cdv ct:Value} (l:K.lookup f=some ⟨oc,od,.func (W.fnOf x qual (ZAJ st) (ZAH st) (ZAB st) .none kV doc pm an cdv ct),osl⟩)
  (c:W.codeIn K cdv qual=true) (k:W.keepIn K (.ref f)=true):Fun K x qual st f (W.fnOf x qual (ZAJ st) (ZAH st) (ZAB st) .none kV doc pm an cdv ct):=⟨⟨oc,od,kV,doc,pm,an,cdv,ct,osl,rfl,l,c⟩,k⟩
end
theorem small1000 {n:Nat} (h:n <= 1000):n < sizeLine:=Nat.lt_of_le_of_lt h (by decide)
section
variable {X:Cx}
theorem pv (i:Nat) {x:Str} {pos:Pos} (hN:X.N[i]?=some x:=by rfl) (hv:Vis X.env.scope x:=by first | exact Or.inl rfl | exact Or.inr (Or.inl rfl) | exact Or.inr (Or.inr rfl)) (hd:(x == ("__debug__":Str))=false:=by decide)
  (hcd:(x == ("__classdict__":Str))=false:=by decide):PE X (.Name x pos) (tVar i):=pe_var hN hv hd hcd
end
noncomputable def Same (H H':Hp):Prop:=∀ b o,H b=some o->H' b=some o
theorem Same.refl (H:Hp):Same H H:=fun _ _ h=>h
theorem Same.trans {H H1 H2:Hp} (a:Same H H1) (b:Same H1 H2):Same H H2:=fun c o h=>b c o (a c o h)
theorem Same.free {H H':Hp} (e:Same H H') {l:Addr} (h:H' l=Option.none):H l=Option.none:=by
 cases q:H l with
 | none=>rfl
 | some o=>
  rw [e l o q] at h
  cases h
theorem Same.seq {K:W.Frag} {H H':Hp} {a:Addr} {xs:List V} (e:Same H H') (h:SqL K H a xs):SqL K H' a xs:=by
 rcases h with (h | ⟨o,h⟩) | h
 .exact .inl (.inl (e _ _ h))
 .exact .inl (.inr ⟨o,e _ _ h⟩)
 .exact .inr h
end L2
set_option maxHeartbeats 4000000
namespace L2
open PySem PySem.Spec PyProof.Rows
theorem natlt {a b:Addr} (h:a < b):@LT.lt Nat _ a b:=h
theorem ZBk {a b:Addr} {n:Nat} (h:a < n) (k:n <= b):a≠b:=yAF (yAJ h k)
theorem ZAy:∀ (names:List (Str×NameKind)) (n:Nat) (acc:List (Str×Addr)),cellsFrom n names acc=cellsFrom n names []++acc
 | [],_,_=>rfl
 | (x,k)::r,n,acc=>by
  unfold cellsFrom
  split
  .rw [ZAy r (n+1) ((x,n)::acc),ZAy r (n+1) [(x,n)],List.append_assoc];rfl
  .exact ZAy r n acc
theorem ZBi:∀ (names:List (Str×NameKind)) (n:Nat) (acc:List (Str×Addr)) (y:Str) (c:Addr),(y,c)∈cellsFrom n names acc->(y,c)∈acc∨((y,NameKind.cell)∈names /\ n <= c)
 | [],_,_,_,_,h=>.inl h
 | (x,k)::r,n,acc,y,c,h=>by
  unfold cellsFrom at h
  split at h
  .rename_i hk
   have hk':k=.cell:=by simpa using hk
   rcases ZBi r (n+1) _ y c h with h | ⟨h,l⟩
   .rcases yAC.mp h with e | h
    .cases e;subst hk';exact .inr ⟨yAE,yAA _⟩
    .exact .inl h
   .exact .inr ⟨yAI _ h,Nat.le_of_succ_le l⟩
  .rcases ZBi r n _ y c h with h | ⟨h,l⟩
   .exact .inl h
   .exact .inr ⟨yAI _ h,l⟩
noncomputable def ZAT (cells:List (Str×Addr)):List (Str×NameKind)->List (Str×Addr)->List (Str×Addr)
 | [],acc=>acc
 | (x,k)::r,acc=>if k == .free then ZAT cells r ((x,(cells.lookup x).getD 0)::acc) else ZAT cells r acc
theorem ZBt {cells:List (Str×Addr)}:∀ (names:List (Str×NameKind)) (acc:List (Str×Addr)) (y:Str) (c:Addr),(y,c)∈ZAT cells names acc->(y,c)∈acc∨((y,NameKind.free)∈names /\ c=(cells.lookup y).getD 0)
 | [],_,_,_,h=>.inl h
 | (x,k)::r,acc,y,c,h=>by
  unfold ZAT at h
  split at h
  .rename_i hk
   have hk':k=.free:=by simpa using hk
   rcases ZBt r _ y c h with h | ⟨h,l⟩
   .rcases yAC.mp h with e | h
    .cases e;subst hk';exact .inr ⟨yAE,rfl⟩
    .exact .inl h
   .exact .inr ⟨yAI _ h,l⟩
  .rcases ZBt r _ y c h with h | ⟨h,l⟩
   .exact .inl h
   .exact .inr ⟨yAI _ h,l⟩
theorem ZBv {cells:List (Str×Addr)}:∀ (names:List (Str×NameKind)) (acc:List (Str×Addr)) (p:Str×Addr),p∈acc->p∈ZAT cells names acc
 | [],_,_,h=>h
 | (x,k)::r,acc,p,h=>by
  unfold ZAT
  split
  .exact ZBv r _ p (yAI _ h)
  .exact ZBv r _ p h
theorem ZBu {cells:List (Str×Addr)}:∀ (names:List (Str×NameKind)) (acc:List (Str×Addr)) (y:Str),(y,NameKind.free)∈names->(y,(cells.lookup y).getD 0)∈ZAT cells names acc
 | [],_,_,h=>nomatch h
 | (x,k)::r,acc,y,h=>by
  unfold ZAT
  rcases yAC.mp h with e | h
  .cases e
   rw [if_pos (by rfl)]
   exact ZBv r _ _ yAE
  .split
   .exact ZBu r _ y h
   .exact ZBu r _ y h
theorem ZBg {α:Type}:∀ {l:List (Str×α)} {y:Str} {c:α},(y,c)∈l->∃ c',l.lookup y=some c'
 | (k,v)::r,y,c,h=>by
  rw [yBH]
  cases hb:y == k with
  | true=>exact ⟨v,rfl⟩
  | false=>
   rcases yAC.mp h with e | h
   .cases e;rw [beq_self_eq_true] at hb;cases hb
   .exact ZBg h
theorem ZBh {env:Env} (f:Str×NameKind->List (Str×Addr)->Sem (ForInStep (List (Str×Addr))))
  (hf:∀ name kind cs,f (name,kind) cs=if kind == .free then (do let a <- cellOf env name;pure (.yield ((name,a)::cs))) else pure (.yield cs)) :
  ∀ (names:List (Str×NameKind)) (acc:List (Str×Addr)),(∀ x,(x,NameKind.free)∈names->∃ c,env.cells.lookup x=some c)->forIn names acc f=(pure (ZAT env.cells names acc):Sem (List (Str×Addr)))
 | [],acc,_=>by rw [List.forIn_nil];rfl
 | (x,k)::r,acc,h=>by
  have hr:∀ x,(x,NameKind.free)∈r->∃ c,env.cells.lookup x=some c:=fun y hy=>h y (yAI _ hy)
  rw [List.forIn_cons,hf]
  unfold ZAT
  split
  .rename_i hk
   have hk':k=.free:=by simpa using hk
   subst hk'
   obtain ⟨c,hc⟩:=h x yAE
   have e:cellOf env x=(pure c:Sem Addr):=by unfold cellOf;rw [hc]
   rw [e,hc]
   exact ZBh f hf r ((x,c)::acc) hr
  .exact ZBh f hf r acc hr
theorem closureFor_eq {scope:Scope} {env:Env} (h:∀ x,(x,NameKind.free)∈scope.names->∃ c,env.cells.lookup x=some c):closureFor scope env=pure (ZAT env.cells scope.names []):=by
 simp only [closureFor]
 rw [ZBh _ (fun name kind cs=>by cases hk:kind == NameKind.free <;> simp [hk]) scope.names [] h]
 rfl
section
variable {M:Model} {A:Around} {E:Value->Shared->Prop} {s:Shared}
theorem newEnv_comp {scope:Scope} {globals:Addr} {cl:List (Str×Addr)} {qual:Str} {env:Env} {Q:Env->Shared->Prop}
  (hQ:Q { scope:=scope,locals:=s.heap.objs.size,globals:=globals,cells:=cellsFrom (s.heap.objs.size+1) scope.names cl,qual:=qual,func:=none,code:=env.code,frame:=env.frame,builtins:=env.builtins }
   { s with heap:=pushCells (s.heap.push { cls:=.type "dict",data:=.dict #[] }) scope.names }) :
  wpAny M A (newFunctionEnv scope globals cl [] qual none .none (some env)) Q E s:=by
 simp only [newFunctionEnv,Option.isSome_some,if_true]
 refine wpAny_bind (wpAny_alloc ?_)
 refine wpAny_bind (wpAny_layCells _ (fun name kind cells=>by cases hkc:kind == NameKind.cell <;> simp [hkc]) _ _ _ _ ?_)
 rw [show ({ s with heap:=s.heap.push { cls:=.type "dict",data:=.dict #[] } }:Shared).heap.objs.size=s.heap.objs.size+1 from Heap.size_push ..]
 rw [List.forIn_nil]
 exact wpAny_bind (wpAny_pure (wpAny_pure hQ))
end
theorem relabel_lookup {scope:Scope} {env:Env} (x:Str):(relabel scope env).names.lookup x=(scope.names.lookup x).map fun k=>if (k == .free && env.scope.kind == .function && env.kindOf x == some .cell)=true then NameKind.cell else k:=by
 unfold relabel
 dsimp only
 generalize scope.names=names
 induction names with
 | nil=>rfl
 | cons p r ih=>
  obtain ⟨n,k⟩:=p
  rw [yAS,yBH (as:=r)]
  cases hx:x == n with
  | true=>
   have e:x=n:=beq_iff_eq.mp hx
   subst e
   by_cases hc:(k == NameKind.free && env.scope.kind == .function && env.kindOf x == some .cell)=true
   .simp only [hc,if_true,yBH,hx,Option.map_some]
   .simp only [hc,yBO,if_false,yBH,hx,Option.map_some]
  | false=>
   by_cases hc:(k == NameKind.free && env.scope.kind == .function && env.kindOf n == some .cell)=true
   .simp only [hc,if_true,yBH,hx];exact ih
   .simp only [hc,yBO,if_false,yBH,hx];exact ih
noncomputable def ZB9 (N:List Str) (osc:Scope) (k:Nat) (js:List Nat) (N':List Str) (sc:Scope):Bool :=
 decide (sc.kind=.function) && decide (N'.length=k+js.length) && decide N'.Nodup &&
 sc.names.all (fun p=>decide (sc.names.lookup p.1=some p.2) && (decide (p.2≠.free) || decide (osc.names.lookup p.1=some .cell) || decide (osc.names.lookup p.1=some .free))) &&
 (List.range js.length).all (fun i=>decide (js[i]?.bind (fun j=>N[j]?)=N'[k+i]?) && decide ((N'[k+i]?).bind (fun y=>sc.names.lookup y)=some .free))
structure CmpOk (N:List Str) (osc:Scope) (k:Nat) (js:List Nat) (N':List Str) (sc:Scope):Prop where
 kind:sc.kind=.function
 len:N'.length=k+js.length
 nd:N'.Nodup
 look:∀ p∈sc.names,sc.names.lookup p.1=some p.2
 fr:∀ y,(y,NameKind.free)∈sc.names->osc.names.lookup y=some .cell∨osc.names.lookup y=some .free
 js:∀ i j,js[i]?=some j->∃ y,N'[k+i]?=some y /\ N[j]?=some y /\ sc.names.lookup y=some .free
theorem ZD1 {N:List Str} {osc:Scope} {k:Nat} {js:List Nat} {N':List Str} {sc:Scope} (h:ZB9 N osc k js N' sc=true):CmpOk N osc k js N' sc:=by
 unfold ZB9 at h
 simp only [yAT,decide_eq_true_eq,yAZ,Bool.or_eq_true,List.mem_range] at h
 obtain ⟨⟨⟨⟨h1,h2⟩,h3⟩,h4⟩,h5⟩:=h
 refine ⟨h1,h2,h3,fun p hp=>(h4 p hp).1,fun y hy=>?_,fun i j hj=>?_⟩
 .rcases (h4 _ hy).2 with (z | z) | z
  .exact absurd rfl z
  .exact .inl z
  .exact .inr z
 .have hi:i < js.length:=(yAN.mp hj).1
  obtain ⟨a,b⟩:=h5 i hi
  rw [hj] at a
  cases e:N'[k+i]? with
  | none=>rw [e] at b;cases b
  | some y=>
   rw [e] at a b
   exact ⟨y,rfl,a,b⟩
noncomputable def ZBs (scope:Scope) (cl:List (Str×Addr)) (C:Addr) (env:Env):Env :=
 { scope:=relabel scope env,locals:=C,globals:=env.globals,cells:=cellsFrom (C+1) scope.names cl,qual:=env.qual,func:=none,code:=env.code,frame:=env.frame,builtins:=env.builtins }
noncomputable def ZAn (X:Cx) (N':List Str) (scope:Scope) (C:Addr) (fp:List Addr) (s2:Shared) (H2:Hp):Cx where
 prog:=X.prog
 w:=X.w
 K:=X.K
 mg:=X.mg
 base:=X.base
 A:=X.A
 N:=N'
 s₀:=s2
 H₀:=H2
 env:=ZBs scope (ZAT X.env.cells scope.names []) C X.env
 outer:=X.stack
 stack:=X.stack
 ex:=fp
 fn:=fun x=>decide (scope.names.lookup x=some .cell)
 calm:=X.calm
 pn:=[]
 xe:=fun _ _=>False
noncomputable def up (k:Nat) (js:List Nat) (σ:St):St:=List.replicate k none++js.map fun j=>(σ[j]?).getD none
section
variable {X:Cx} {pins:List (Addr×Obj)} {σ:St} {H:Hp} {s2:Shared} {k:Nat} {js:List Nat} {N':List Str} {scope:Scope} {fp:List Addr}
theorem comp_inv (hc:CmpOk X.N X.env.scope k js N' scope) (I:Inv X pins σ H s2) (hfp:∀ b∈fp,FpOk X pins H b) (hlt:∀ b∈fp,b < s2.heap.objs.size) {h3:Heap} (hz:h3.objs.size=s2.heap.objs.size+1) (hk3:∀ b o,s2.heap.get? b=some o->h3.get? b=some o) :
  Inv (ZAn X N' scope (s2.heap.objs.size+1) fp s2 H) [] (up k js σ) H { s2 with heap:=pushCells (h3.push { cls:=.type "dict",data:=.dict #[] }) scope.names }:=by
 have frLook:∀ y,(y,NameKind.free)∈scope.names->∃ c,X.env.cells.lookup y=some c:=fun y hy=>I.ok.has y (hc.fr y hy)
 have ok0:=cellsFrom_ok scope.names (h3.push { cls:=.type "dict",data:=.dict #[] }) (s2.heap.objs.size+2) [] ⟨fun _ _ hm=>(nomatch hm),List.Pairwise.nil⟩ (by rw [Heap.size_push,hz];exact yAA _)
 rw [Heap.size_push,hz] at ok0
 have parts:∀ y c,(ZBs scope (ZAT X.env.cells scope.names []) (s2.heap.objs.size+1) X.env).cells.lookup y=some c ->
   ((y,c)∈cellsFrom (s2.heap.objs.size+2) scope.names [] /\ (y,NameKind.cell)∈scope.names /\ s2.heap.objs.size+2 <= c)∨((y,NameKind.free)∈scope.names /\ X.env.cells.lookup y=some c):=fun y c e=>by
  have m:=PySem.mem_of_lookup e
  change (y,c)∈cellsFrom (s2.heap.objs.size+1+1) scope.names _ at m
  rw [ZAy] at m
  rcases yAX.mp m with m | m
  .rcases ZBi _ _ _ _ _ m with z | ⟨z,l⟩
   .cases z
   .exact .inl ⟨m,z,l⟩
  .rcases ZBt _ _ _ _ m with z | ⟨z,l⟩
   .cases z
   .obtain ⟨c',e'⟩:=frLook y z
    rw [e'] at l
    exact .inr ⟨z,by rw [e'];exact congrArg some l.symm⟩
 have old:∀ y c,X.env.cells.lookup y=some c->c < s2.heap.objs.size:=fun y c e=>by
  obtain ⟨v,q⟩:=I.cell y c e
  exact q.lt
 have freeAt:∀ y,(y,NameKind.free)∈scope.names->∀ c,X.env.cells.lookup y=some c->(ZBs scope (ZAT X.env.cells scope.names []) (s2.heap.objs.size+1) X.env).cells.lookup y=some c:=fun y hy c e=>by
  have m:(y,c)∈cellsFrom (s2.heap.objs.size+1+1) scope.names (ZAT X.env.cells scope.names []):=by
   rw [ZAy]
   have q:=ZBu (cells:=X.env.cells) scope.names [] y hy
   rw [e] at q
   exact yAG _ q
  obtain ⟨c',q⟩:=ZBg m
  rcases parts y c' q with ⟨_,z,_⟩ | ⟨_,z⟩
  .have z1:=hc.look _ z
   have z2:=hc.look _ hy
   rw [z1] at z2
   cases z2
  .rw [e] at z
   cases z
   exact q
 have keepAll:∀ b o,s2.heap.get? b=some o->(pushCells (h3.push { cls:=.type "dict",data:=.dict #[] }) scope.names).get? b=some o:=fun b o e=>pushCells_keeps _ _ b o (Heap.get?_push_of_some _ (hk3 b o e))
 refine ⟨⟨I.ok.mod,hc.kind,I.ok.glob,I.ok.blt,yAK _,fun y z c h1 h2=>?_,fun y hy=>?_,fun y c h1 h2=>?_,I.ok.hd,I.ok.frames,.inl rfl,fun b hb=>⟨?_,fun y c e=>?_⟩,I.bs,yAD I.ok.bsz I.sz,fun b o e hb=>?_,fun b hb hs=>?_,I.stack,I.stkFree⟩,
  rfl,I.bare,Un.kept keepAll,⟨fun _=>none,?_,fun i y v e1 e2 e3=>?_⟩,fun y c e=>?_,I.hok.fresh (yAK _),fun y c e=>?_,fun p hp=>absurd (show p∈([]:List (Addr×Obj)) from hp) (by simp),I.hok.kept keepAll,?_⟩
 .
  rcases parts y c h1 with ⟨a,_,l⟩ | ⟨_,a⟩ <;> rcases parts z c h2 with ⟨b,_,l'⟩ | ⟨_,b⟩
  .exact name_of_addr ok0.apart a b
  .have:=natlt (old z c b);omega
  .have:=natlt (old y c a);omega
  .exact I.ok.inj y z c a b
 .
  have hy':(relabel scope X.env).names.lookup y=some .cell∨(relabel scope X.env).names.lookup y=some .free:=hy
  rw [relabel_lookup] at hy'
  have q:scope.names.lookup y=some .cell∨scope.names.lookup y=some .free:=by
   cases e:scope.names.lookup y with
   | none=>rw [e] at hy';rcases hy' with z | z <;> cases z
   | some kk=>
    rw [e] at hy'
    cases kk <;> first | exact .inl rfl | exact .inr rfl | (rcases hy' with z | z <;> simp at z)
  rcases q with q | q
  .obtain ⟨c,e⟩:=ZCv (n:=s2.heap.objs.size+1+1) q
   have m:(y,c)∈cellsFrom (s2.heap.objs.size+1+1) scope.names (ZAT X.env.cells scope.names []):=by
    rw [ZAy]
    exact yBF _ (PySem.mem_of_lookup e)
   exact ZBg m
  .have m:=PySem.mem_of_lookup q
   obtain ⟨c,e⟩:=frLook y m
   exact ⟨c,freeAt y m c e⟩
 .
  have h1':scope.names.lookup y=some .cell:=of_decide_eq_true h1
  rcases parts y c h2 with ⟨_,_,l⟩ | ⟨z,_⟩
  .show s2.heap.objs.size <= c
   omega
  .have:=hc.look _ z
   rw [h1'] at this
   cases this
 .
  exact ZBk (hlt b hb) (yAK _)
 .rcases parts y c e with ⟨_,_,l⟩ | ⟨_,z⟩
  .exact (ZBk (hlt b hb) (yAD (Nat.le_add_right _ 2) l)).symm
  .exact (hfp b hb).2.2.2.2.1 y c z
 .
  rcases (hfp b hb).2.2.2.1 with z | z
  .exact I.ok.noex b o e z
  .exact absurd (yAJ (Heap.lt_size e) (yAD I.ok.bsz z)) (yAW _)
 .
  rcases yAC.mp (I.stkSub b hs) with z | z
  .exact (hfp b hb).2.1 z
  .exact (hfp b hb).2.2.1 z
 .
  have q:=(Heap.Ns.new h3 (.type "dict")).keeps (pushCells_keeps scope.names _)
  rw [hz] at q
  exact q
 .
  unfold up at e2
  have hik:k <= i:=by
   by_cases hi:i < k
   .rw [yBN (by simpa using hi),List.getElem?_replicate] at e2
    rw [if_pos hi] at e2
    cases e2
   .omega
  rw [yBM (by simpa using hik),List.length_replicate,yAY] at e2
  cases ej:js[i-k]? with
  | none=>rw [ej] at e2;cases e2
  | some j=>
   rw [ej] at e2
   have e2':(σ[j]?).getD none=some v:=Option.some.inj e2
   have e4:σ[j]?=some (some v):=by
    cases q:σ[j]? with
    | none=>rw [q] at e2';cases e2'
    | some z=>rw [q] at e2';exact congrArg some e2'
   obtain ⟨y',n1,n2,n3⟩:=hc.js _ _ ej
   rw [Nat.add_sub_cancel' hik] at n1
   have n0:N'[i]?=some y:=e1
   rw [n1] at n0
   cases n0
   have hm:=PySem.mem_of_lookup n3
   have hvis:Vis X.env.scope y:=.inr (hc.fr y hm)
   obtain ⟨m,hn,hl⟩:=I.loc
   obtain ⟨u,r,l⟩:=hl j y v n2 e4 hvis
   refine ⟨u,r,?_⟩
   rcases l with ⟨kk,_⟩ | ⟨kk,c,ec,ic⟩
   .have kk':X.env.scope.names.lookup y=some .local:=kk
    rcases hc.fr y hm with z | z <;> (rw [kk'] at z;cases z)
   .refine .inr ⟨?_,c,freeAt y hm c ec,ic.keeps keepAll⟩
    show (relabel scope X.env).names.lookup y=some .cell∨(relabel scope X.env).names.lookup y=some .free
    rw [relabel_lookup,n3]
    simp only [Option.map_some]
    split
    .exact .inl rfl
    .exact .inr rfl
 .
  rcases parts y c e with ⟨a,_,_⟩ | ⟨_,a⟩
  .exact ⟨none,(ok0.empty y c a).1⟩
  .obtain ⟨v,q⟩:=I.cell y c a
   exact ⟨v,q.keeps keepAll⟩
 .rcases parts y c e with ⟨_,_,l⟩ | ⟨_,a⟩
  .exact I.hok.fresh (by omega)
  .exact I.freeC y c a
 .unfold up
  show _=N'.length
  rw [yAO,List.length_replicate,yAB,hc.len]
theorem comp_end {σ':St} {H':Hp} {s':Shared} {C D:Addr} {its:List Value} {n:Nat} {ys:List V} (I:Inv X pins σ H s2) (hfp:∀ b∈fp,FpOk X pins H b) (hC:s2.heap.objs.size <= C) (hD:s2.heap.objs.size <= D) (hDC:D≠C)
  (I':Inv (ZAn X N' scope C fp s2 H) [(D,{ cls:=.type "list",data:=.seq its.toArray n })] σ' H' s') (hv:Vals ys its) (hz:ys.length <= sizeLine) :
  H' D=none /\ ∀ h',Heap.SameBut C s'.heap h'->Inv X pins σ (upd H' D (.lst ys)) { s' with heap:=h' }:=by
 obtain ⟨eD,nD,_,_,_⟩:=I'.pin (D,{ cls:=.type "list",data:=.seq its.toArray n }) (yAG _ yAE)
 dsimp only at eD nD
 have nC:H' C=none:=I'.free
 refine ⟨nD,fun h' hs=>?_⟩
 have neC:∀ b o,s2.heap.get? b=some o->b≠C:=fun b o e=>ZBk (Heap.lt_size e) hC
 have neD:∀ b o,s2.heap.get? b=some o->b≠D:=fun b o e=>ZBk (Heap.lt_size e) hD
 have tr:∀ b u,H' b=some u->b≠D:=fun b u e z=>by rw [z,nD] at e;cases e
 have trC:∀ b u,H' b=some u->b≠C:=fun b u e z=>by rw [z,nC] at e;cases e
 have B:=I'.base
 refine I.call' (s':={ s' with heap:=h' }) (ch:=fp) I'.os ⟨fun b o e nn hb hx=>?_,fun b o e nn hb hx=>?_,fun b o e nn hx=>?_,fun b o e hx=>?_,fun b xs e=>?_,fun b o u e=>?_,fun b ps e=>?_⟩ (fun b u e=>?_) I'.bare fun b hb=>?_
 .exact (hs.2 b (neC b o e)).trans (B.keep b o e nn hb hx)
 .obtain ⟨sl,q⟩:=B.slot b o e nn hb hx
  exact ⟨sl,(hs.2 b (neC b o e)).trans q⟩
 .rw [ZAS (neD b o e)]
  exact B.free b o e nn hx
 .obtain ⟨o',q⟩:=B.there b o e hx
  exact ⟨o',(hs.2 b (neC b o e)).trans q⟩
 .have q:=B.tups b xs e
  rw [ZAS (tr b _ q)]
  exact q
 .have q:=B.frzs b o u e
  rw [ZAS (tr b _ q)]
  exact q
 .obtain ⟨more,q⟩:=B.tbls b ps e
  exact ⟨more,by rw [ZAS (tr b _ q)];exact q⟩
 .by_cases hb:b=D
  .subst hb
   rw [ZAI] at e
   cases e
   exact ⟨hz,its,n,hv,(hs.2 b hDC).trans eD⟩
  .rw [ZAS hb] at e
   refine (I'.hok b u e).stay (fun c v hcc q=>(hs.2 c ?_).trans q) (fun c q=>by rw [ZAS (tr c _ q)];exact q) fun c xs q=>by rw [ZAS (tr c _ q)];exact q
   rcases hcc with rfl | hcc
   .exact trC c _ e
   .exact trC c _ hcc
 .obtain ⟨_,f1,_,f3,f4,f5⟩:=hfp b hb
  exact ⟨f3,f1,f4,f5⟩
end
section
variable {prog:Program} {w:World} {A:Around} {R:Result->Shared->Prop} {s:Shared}
theorem codeAny_compLoop_any {elt target iter:Expr} {ifs:List Expr} {scope:Scope} {pos:Pos} {it acc:Value} {env:Env} (I:Nat->Shared->Prop)
  (turn:∀ n s,I n s->wpAny (model prog w) A (pyNext it) (fun r s₁=>match r with
   | none=>R (.ok .next) s₁
   | some v=>wpAny (model prog w) A (letOwnedTupleGo target it v) (fun _ s₁'=>wpAny (model prog w) A (assign target env v) (fun _ s₂=>
     wpAny (model prog w) A (forIn ifs true fun c r=>if r=true then do let ok <- isTrue c env (eval c env);pure (ForInStep.yield ok) else pure (ForInStep.yield r)) (fun ok s₃=>
      if ok=true then wpAny (model prog w) A (eval elt env) (fun x s₄=>
       wpAny (model prog w) A (call (.builtin "list.append") [acc,x]) (fun _ s₅=>∃ m,m < n /\ I m s₅) (notedBy (model prog w) A env fun e s'=>R (.error e) s') s₄) (notedBy (model prog w) A env fun e s'=>R (.error e) s') s₃
      else ∃ m,m < n /\ I m s₃) (notedBy (model prog w) A env fun e s'=>R (.error e) s') s₂) (notedBy (model prog w) A env fun e s'=>R (.error e) s') s₁') (notedBy (model prog w) A env fun e s'=>R (.error e) s') s₁) (notedBy (model prog w) A env fun e s'=>R (.error e) s') s)
  (n:Nat) (h:I n s) :
  codeAny (model prog w) A (.compLoop (.ListComp elt [⟨target,iter,ifs,0⟩] scope pos) 0 it acc env) R s:=by
 refine codeAny_loop rfl I (fun n s hI=>?_) n h
 show wpAny _ A ((compTurn (.ListComp elt [⟨target,iter,ifs,0⟩] scope pos) 0 it acc env).onRaise (fun x=>do noteFrame x env;theTreesLotGoes x)) _ _ s
 refine wpAny_noted ?_
 rw [compTurn_list]
 refine wpAny_bind (wpAny_standAt (wpAny_bind (wpAny_mono (turn n s hI) (fun r s₁ h₁=>?_) fun _ _ h'=>h')))
 cases r with
 | none=>exact wpAny_pure h₁
 | some v=>
  refine wpAny_bind (wpAny_mono h₁ (fun _ s₁' h₁'=>?_) fun _ _ h'=>h')
  refine wpAny_bind (wpAny_mono h₁' (fun _ s₂ h₂=>wpAny_bind (wpAny_mono h₂ (fun ok s₃ h₃=>?_) fun _ _ h'=>h')) fun _ _ h'=>h')
  cases ok with
  | false=>exact wpAny_pure ⟨rfl,h₃⟩
  | true=>exact wpAny_bind (wpAny_bind (wpAny_mono h₃ (fun x s₄ h₄=>wpAny_bind (wpAny_mono h₄ (fun _ s₅ h₅=>wpAny_pure (wpAny_pure ⟨rfl,h₅⟩)) fun _ _ h'=>h')) fun _ _ h'=>h'))
end
noncomputable def PIfs (X:Cx) (ifs:List Expr) (t:TT):Prop :=
 ∀ (pins:List (Addr×Obj)) (s:Shared) (σ:St) (H:Hp) (Q:Bool->Hp->Prop),Inv X pins σ H s->t σ H Q ->
  wpAny (model X.prog X.w) X.A (forIn ifs true fun c r=>if r=true then do let ok <- isTrue c X.env (eval c X.env);pure (ForInStep.yield ok) else pure (ForInStep.yield r)) (TP X pins σ Q) X.xe s
noncomputable def tYes:TT:=fun _ H Q=>Q true H
theorem ZBQ {X:Cx}:PIfs X [] tYes:=fun _ _ _ H _ I h=>wpAny_tests_nil ⟨H,I,h⟩
noncomputable def ZCM (k:Nat) (js:List Nat) (wi:TI) (g:TG) (tt:TT) (te:TE):TE:=fun σ H Q=>wi σ H fun J H1=>∃ W:Nat->Nat->List V->St->Hp->Prop,(∃ m,W 0 m [] (up k js σ) H1) /\ ∀ i m ys σ H,W i m ys σ H ->
 (J.stop i H /\ ys.length <= sizeLine /\ ∀ p,H p=none->Q (.ref p) (upd H p (.lst ys))) ∨
 (J.go i H /\ ys.length < sizeLine /\ ∀ x H',J.yld i H x H'->g x σ H' fun σ2 H2=>tt σ2 H2 fun b H3=>if b=true then te σ2 H3 fun y H4=>∃ m',m' < m /\ W (i+1) m' (ys++[y]) σ2 H4 else ∃ m',m' < m /\ W (i+1) m' ys σ2 H3)
section
variable {X:Cx} {k:Nat} {js:List Nat} {N':List Str} {scope:Scope} {tg iter elt:Expr} {ifs:List Expr} {wi:TI} {g:TG} {tt:TT} {te:TE} {pos:Pos}
theorem comp_core {use:Option (Value->Sem Unit)} {Q':Value->Shared->Prop} (hcalm:X.calm=true) (hc:CmpOk X.N X.env.scope k js N' scope) (hi:PI X tg iter wi)
  (hg:∀ C fp s2 H2,PG (ZAn X N' scope C fp s2 H2) tg g) (ht:∀ C fp s2 H2,PIfs (ZAn X N' scope C fp s2 H2) ifs tt) (he:∀ C fp s2 H2,PE (ZAn X N' scope C fp s2 H2) elt te)
  {pins:List (Addr×Obj)} {s:Shared} {σ:St} {H:Hp} {Q:VK} (I:Inv X pins σ H s) (h:ZCM k js wi g tt te σ H Q)
  (fin:∀ (C D:Addr) (s':Shared) (m:Str->Option Value) (H':Hp) (ys:List V),s'.heap.Ns C m->C≠X.env.locals->C∉X.fs->D≠C->H' C=none->X.s₀.heap.objs.size <= C->(∀ x c,X.env.cells.lookup x=some c->c≠C)->(∀ p∈X.pn++pins,p.1≠C)->(∀ h',Heap.SameBut C s'.heap h'->Inv X pins σ (upd H' D (.lst ys)) { s' with heap:=h' })->Q (.ref D) (upd H' D (.lst ys)) ->
   compPost (model X.prog X.w) X.A X.xe use Q' (.ref D) C (.ok .next) s')
  (hs:∀ x,foldedSetIterable iter X.env x=pure x) (p':Pos) :
  wpAny (model X.prog X.w) X.A (comprehension (.ListComp elt [⟨tg,iter,ifs,0⟩] scope pos) scope X.env p' (newList []) false (eval iter X.env) use) Q' X.xe s:=by
 have hclos:closureFor scope X.env=pure (ZAT X.env.cells scope.names []):=closureFor_eq fun y hy=>I.ok.has y (hc.fr y hy)
 refine wpAny_comprehension_free (g:=⟨tg,iter,ifs,0⟩) (gs:=[]) rfl hs hclos hc.kind (fun x hx hl=>by rw [hc.look x hx,hl]) ?_
 refine thn (hi pins s σ H _ I h) fun v s1 h1=>thn h1 fun itv s2 h2=>?_
 obtain ⟨it,fp,tn,J,H2,e,I2,T,st2,f2,W,⟨m0,w0⟩,turn⟩:=h2
 subst e
 have hlt:∀ b∈fp,b < s2.heap.objs.size:=fun b hb=>by
  obtain ⟨o,e,_⟩:=T.obj _ _ st2 b hb
  exact Heap.lt_size e
 refine wpAny_newObj_type (newEnv_comp ?_)
 have hz3:(s2.heap.push { cls:=.type "list",dict:=none,data:=.seq ([]:List Value).toArray }).objs.size=s2.heap.objs.size+1:=Heap.size_push ..
 have I3:=comp_inv (h3:=s2.heap.push { cls:=.type "list",dict:=none,data:=.seq ([]:List Value).toArray }) hc I2 f2 hlt hz3 (fun b o e=>Heap.get?_push_of_some _ e)
 dsimp only
 rw [hz3]
 generalize hS4:({ s2 with heap:=pushCells ((s2.heap.push { cls:=.type "list",dict:=none,data:=.seq ([]:List Value).toArray }).push { cls:=.type "dict",data:=.dict #[] }) scope.names }:Shared)=s4 at I3 ⊢
 have keep4:∀ b o,s2.heap.get? b=some o->s4.heap.get? b=some o:=fun b o e=>by
  rw [<- hS4]
  exact pushCells_keeps _ _ b o (Heap.get?_push_of_some _ (Heap.get?_push_of_some _ e))
 have eD4:s4.heap.get? s2.heap.objs.size=some { cls:=.type "list",data:=.seq ([]:List Value).toArray 0 }:=by
  rw [<- hS4]
  exact pushCells_keeps _ _ _ _ (Heap.get?_push_of_some _ (Heap.get?_push_size _ rfl))
 generalize hX':ZAn X N' scope (s2.heap.objs.size+1) fp s2 H2=X' at I3
 have hC':X'.env.locals=s2.heap.objs.size+1:=by rw [<- hX'];rfl
 have hfs':X'.fs=frs X.stack:=by rw [<- hX'];rfl
 have nofsD:∀ a,s2.heap.objs.size <= a->a∉frs X.stack:=fun a ha hb=>by
  rcases yAC.mp (I2.stkSub a hb) with z | z
  .exact absurd z.symm (ZBk I2.lt ha)
  .exact I2.nofs ha z
 have cellD:∀ x c,X'.env.cells.lookup x=some c->c≠s2.heap.objs.size:=fun x c e z=>by
  obtain ⟨v,o,ho,hd⟩:=I3.cell x c e
  rw [z,eD4] at ho
  cases ho
  cases hd
 have pinD:∀ {σ':St} {H':Hp} {s':Shared} {its:List Value} {n:Nat},Inv X' [] σ' H' s'->s'.heap.get? s2.heap.objs.size=some { cls:=.type "list",data:=.seq its.toArray n }->H' s2.heap.objs.size=none ->
   Inv X' [(s2.heap.objs.size,{ cls:=.type "list",data:=.seq its.toArray n })] σ' H' s':=fun {σ' H' s' its n} J e nn=>J.pins_of fun p hp=>by
  have e':p=(s2.heap.objs.size,{ cls:=.type "list",data:=.seq its.toArray n }):=by simpa using hp
  subst e'
  refine ⟨e,nn,?_,?_,fun v z=>nomatch z⟩
  .rw [hC'];exact yAF (yBA _)
  .rw [hfs'];exact nofsD _ (yAA _)
 have I4:=pinD I3 eD4 (I2.hok.fresh (yAA _))
 have stat:∀ {H':Hp} {o:Obj},(∀ b∈fp,H' b=none)->∀ b∈fp,FpOk X' [(s2.heap.objs.size,o)] H' b:=fun {H' o} hn b hb=>by
  have hb':=hlt b hb
  refine ⟨hn b hb,?_,?_,.inl (by rw [<- hX'];exact hb),fun x c e z=>?_,fun p hp z=>?_⟩
  .rw [hC'];exact ZBk hb' (yAK _)
  .rw [hfs']
   intro z
   rcases yAC.mp (I2.stkSub b z) with q | q
   .exact (f2 b hb).2.1 q
   .exact (f2 b hb).2.2.1 q
  .have q:=I3.ok.exf b (by rw [<- hX'];exact hb)
   exact q.2 x c e z
  .rw [show X'.pn=[] by rw [<- hX'];rfl] at hp
   have e':p=(s2.heap.objs.size,o):=by simpa using hp
   subst e'
   exact absurd hb' (by rw [<- z];exact yAW _)
 have hfin:∀ {σ':St} {H':Hp} {s':Shared} {its:List Value} {n:Nat} {ys:List V},Inv X' [(s2.heap.objs.size,{ cls:=.type "list",data:=.seq its.toArray n })] σ' H' s'->Vals ys its->ys.length <= sizeLine->(∀ p,H' p=none->Q (.ref p) (upd H' p (.lst ys))) ->
   compPost (model X.prog X.w) X.A X.xe use Q' (.ref s2.heap.objs.size) (s2.heap.objs.size+1) (.ok .next) s':=fun {σ' H' s' its n ys} J hv hz hq=>by
  obtain ⟨m,hn,_⟩:=id J.loc
  rw [hC'] at hn
  have nC:H' (s2.heap.objs.size+1)=none:=by rw [<- hC'];exact J.free
  have J':Inv (ZAn X N' scope (s2.heap.objs.size+1) fp s2 H2) [(s2.heap.objs.size,{ cls:=.type "list",data:=.seq its.toArray n })] σ' H' s':=by rw [hX'];exact J
  obtain ⟨nD,E⟩:=comp_end I2 f2 (yAK _) (yAA _) (yAF (yBA _)) J' hv hz
  refine fin _ _ s' m H' ys hn ?_ (I2.nofs (yAK _)) (yAF (yBA _)) nC (yAD I2.sz (yAK _)) (fun x c e z=>?_) (fun p hp z=>?_) E (hq _ nD)
  .exact (ZBk I2.lt (yAK _)).symm
  .obtain ⟨v,q⟩:=I2.cell x c e
   exact absurd z (ZBk q.lt (yAK _))
  .exact absurd z (ZBk (Heap.lt_size (I2.pin p hp).1) (yAK _))
 have hprog:X'.prog=X.prog:=by rw [<- hX'];rfl
 have hw:X'.w=X.w:=by rw [<- hX'];rfl
 have hK:X'.K=X.K:=by rw [<- hX'];rfl
 have hcalm':X'.calm=true:=by rw [<- hX'];exact hcalm
 have hA:X'.A=X.A:=by rw [<- hX'];rfl
 have henv:ZBs scope (ZAT X.env.cells scope.names []) (s2.heap.objs.size+1) X.env=X'.env:=by rw [<- hX'];rfl
 have hgX:=hg (s2.heap.objs.size+1) fp s2 H2
 have htX:=ht (s2.heap.objs.size+1) fp s2 H2
 have heX:=he (s2.heap.objs.size+1) fp s2 H2
 rw [hX'] at hgX htX heX
 have hxe:∀ e s',X'.xe e s'->False:=fun e s' z=>by rw [<- hX'] at z;exact z
 have hXA:X'.pn=[]:=by rw [<- hX'];rfl
 have hs0:X'.s₀.heap.objs.size=s2.heap.objs.size:=by rw [<- hX'];rfl
 have loop:codeAny (model X.prog X.w) X.A (.compLoop (.ListComp elt [⟨tg,iter,ifs,0⟩] scope pos) 0 (.ref it) (.ref s2.heap.objs.size) X'.env) (compPost (model X.prog X.w) X.A X.xe use Q' (.ref s2.heap.objs.size) (s2.heap.objs.size+1)) s4:=by
  refine codeAny_compLoop_any (fun n s'=>∃ i σ' H' its nn ys,Inv X' [(s2.heap.objs.size,{ cls:=.type "list",data:=.seq its.toArray nn })] σ' H' s' /\ tn i s'.heap /\ (∀ b∈fp,H' b=none) /\ Vals ys its /\ W i n ys σ' H') ?_ m0
   ⟨0,_,H2,[],0,[],I4,T.keep _ _ _ st2 (fun b _ o e=>keep4 b o e),fun b hb=>(f2 b hb).1,.nil,w0⟩
  rintro n s5 ⟨i,σ5,H5,its,nn,ys,I5,st5,fr5,hv,w5⟩
  rcases turn i n ys σ5 H5 w5 with ⟨stop,hz,hq⟩ | ⟨go,hz,step⟩
  .have d:=T.done X' hprog hw hK hcalm' i _ s5 σ5 H5 (fun _ _=>False) I5 (stat fr5) st5 stop
   rw [hA] at d
   refine wpAny_mono d (fun r s6 ⟨hr,I6⟩=>?_) fun _ _ z=>z.elim
   subst hr
   exact hfin I6 hv hz hq
  .have d:=T.item X' hprog hw hK hcalm' i _ s5 σ5 H5 (fun _ _=>False) I5 (stat fr5) st5 go
   rw [hA] at d
   refine wpAny_mono d (fun r s6 ⟨u,hr,h6⟩=>?_) fun _ _ z=>z.elim
   subst hr
   refine wpAny_mono h6 (fun _ s7 zz=>?_) fun _ _ z=>z.elim
   obtain ⟨x,H7,I7,r7,y7,st7,fr7⟩:=zz
   have I7':=I7.pinned (stat fr7) (T.obj _ _ st7)
   have a1:=hgX _ s7 σ5 H7 x u _ I7' r7 (step x H7 y7)
   rw [hprog,hw,hA] at a1
   refine wpAny_mono a1 (fun _ s8 zz=>?_) fun _ _ z=>(hxe _ _ z).elim
   obtain ⟨σ8,H8,I8,q8⟩:=zz
   have a2:=htX _ s8 σ8 H8 _ I8 q8
   rw [hprog,hw,hA] at a2
   refine wpAny_mono a2 (fun ok s9 ⟨H9,I9,q9⟩=>?_) fun _ _ z=>(hxe _ _ z).elim
   have back:∀ {σ':St} {H':Hp} {s':Shared},Inv X' ([(s2.heap.objs.size,({ cls:=.type "list",data:=.seq its.toArray nn }:Obj))]++ZCf fp s7.heap) σ' H' s'->tn (i+1) s'.heap /\ (∀ b∈fp,H' b=none):=fun {σ' H' s'} J=>by
    refine ⟨T.keep _ _ _ st7 fun b hb o e=>(J.pin (b,o) (yAG _ (yAG _ (ZBM hb e)))).1,fun b hb=>?_⟩
    obtain ⟨o,e,d⟩:=T.obj _ _ st7 b hb
    exact (J.pin (b,o) (yAG _ (yAG _ (ZBM hb e)))).2.1
   cases ok with
   | false=>
    rw [if_neg yAH] at q9 ⊢
    obtain ⟨m',hm,w9⟩:=q9
    obtain ⟨t9,f9⟩:=back I9
    exact ⟨m',hm,i+1,σ8,H9,its,nn,ys,I9.unpinned,t9,f9,hv,w9⟩
   | true=>
    rw [if_pos rfl] at q9 ⊢
    have a3:=heX _ s9 σ8 H9 _ I9 q9
    rw [hprog,hw,hA] at a3
    refine wpAny_mono a3 (fun uy s10 zz=>?_) fun _ _ z=>(hxe _ _ z).elim
    obtain ⟨y,H10,I10,r10,m',hm,w10⟩:=zz
    obtain ⟨t10,f10⟩:=back I10
    have I11:=I10.unpinned
    obtain ⟨eD,nD,_,_,_⟩:=I11.pin (s2.heap.objs.size,{ cls:=.type "list",data:=.seq its.toArray nn }) (yAG _ yAE)
    dsimp only at eD nD
    have hsz:its.length < sizeLine:=by rw [<- hv.length];exact hz
    refine wpAny_list_append_plain ⟨nn,eD⟩ (fun h' hpl hsb=>?_) (by rw [yAP];omega)
    obtain ⟨n',e'⟩:=hpl
    have e'':h'.get? s2.heap.objs.size=some { cls:=.type "list",data:=.seq (its++[uy]).toArray n' }:=by rw [e'];simp
    have I12:Inv X' [] σ8 H10 s10:=I11.pins_of fun p hp=>absurd hp (by simp)
    have I13:=I12.turned (h':=h') (t':=s10.toks) (it:=s2.heap.objs.size) (fun b o hb e=>(hsb.2 b hb).trans e) nD (by rw [hC'];exact yAF (yBA _)) (.inr (by rw [hs0];exact yAA _)) cellD (fun p hp=>absurd hp (by rw [hXA];simp))
    refine ⟨m',hm,i+1,σ8,H10,its++[uy],n',ys++[y],pinD I13 e'' nD,T.keep _ _ _ t10 fun b hb o e=>?_,f10,hv.append (.cons r10 .nil),w10⟩
    exact (hsb.2 b (ZBk (hlt b hb) (yAA _))).trans e
 have hst:codeAny (model X.prog X.w) X.A (.compStart (.ListComp elt [⟨tg,iter,ifs,0⟩] scope pos) 0 (.ref it) (.ref s2.heap.objs.size) X'.env) (compPost (model X.prog X.w) X.A X.xe use Q' (.ref s2.heap.objs.size) (s2.heap.objs.size+1)) s4 :=
  codeAny_compStart_list loop (T.self X.A 0 s4 _ _ (T.keep _ _ _ st2 (fun b _ o e=>keep4 b o e)) loop)
 rw [<- henv] at hst
 exact hst
theorem ZCY (hcalm:X.calm=true) (hc:ZB9 X.N X.env.scope k js N' scope=true) (hi:PI X tg iter wi)
  (hg:∀ C fp s2 H2,PG (ZAn X N' scope C fp s2 H2) tg g) (ht:∀ C fp s2 H2,PIfs (ZAn X N' scope C fp s2 H2) ifs tt) (he:∀ C fp s2 H2,PE (ZAn X N' scope C fp s2 H2) elt te)
  (hs:∀ x,foldedSetIterable iter X.env x=pure x:=by intro _;rfl):PE X (.ListComp elt [⟨tg,iter,ifs,0⟩] scope pos) (ZCM k js wi g tt te):=by
 intro pins s σ H Q I h
 rw [eval_ListComp]
 refine comp_core (use:=none) hcalm (ZD1 hc) hi hg ht he I h (fun C D s' m H' ys hn _ _ _ _ _ _ _ E q=>?_) hs _
 exact ⟨m,hn,fun h' hsb=>⟨.ref D,_,E h' hsb,rfl,q⟩⟩
theorem ps_setComp {i:Nat} {x:Str} {px spos:Pos} (hN:X.N.Nodup) (hix:X.N[i]?=some x) (hx:Loc X.env.scope x) (hcalm:X.calm=true) (hc:ZB9 X.N X.env.scope k js N' scope=true) (hi:PI X tg iter wi)
  (hg:∀ C fp s2 H2,PG (ZAn X N' scope C fp s2 H2) tg g) (ht:∀ C fp s2 H2,PIfs (ZAn X N' scope C fp s2 H2) ifs tt) (he:∀ C fp s2 H2,PE (ZAn X N' scope C fp s2 H2) elt te)
  (hs:∀ x,foldedSetIterable iter X.env x=pure x:=by intro _;rfl) (hsw:swapsWith (.ListComp elt [⟨tg,iter,ifs,0⟩] scope pos) (some (.Name x px)) spos.line X.env=pure true:=by rfl)
  (hf:X.fn x=true∨X.env.scope.names.lookup x=some .local:=by first | exact .inl rfl | exact .inr rfl | assumption) :
  PS X (.Assign [.Name x px] (.ListComp elt [⟨tg,iter,ifs,0⟩] scope pos) spos) (tAsg (ZCM k js wi g tt te) (ZCt i)):=by
 intro pins s σ H D I h
 rw [exec_Assign_Name_used _ _ _ _ hsw]
 refine wpAny_bind (wpAny_standAt (wpAny_bind ?_))
 show wpAny _ X.A (do let _ <- comprehension (.ListComp elt [⟨tg,iter,ifs,0⟩] scope pos) scope X.env _ (newList []) false (eval iter X.env) (some (assign (.Name x px) X.env))) _ _ s
 refine wpAny_bind (wpAny_mono (comp_core (use:=some (assign (.Name x px) X.env)) (Q':=fun _ s'=>SP X pins D .next s') hcalm (ZD1 hc) hi hg ht he I h (fun C Dd s' m H' ys hn c1 c2 c3 c4 c5 c6 c7 E q=>?_) hs _) (fun _ s' hq=>wpAny_pure (wpAny_pure hq)) fun _ _ e=>e)
 have J:=E s'.heap (.refl ..)
 obtain ⟨oC,es,ep,eC,dC,rC⟩:=id hn
 have J':Inv X (pins++[(C,oC)]) σ (upd H' Dd (.lst ys)) s':=J.pins_of fun p hp=>by
  rcases yAX.mp hp with z | z
  .exact J.pin p (yAG _ z)
  .have e':p=(C,oC):=by simpa using z
   subst e'
   refine ⟨eC,?_,c1,c2,fun v z=>?_⟩
   .show upd H' Dd _ C=none
    rw [ZAS (Ne.symm c3)]
    exact c4
   .have z':oC.data=.cell v:=z
    rw [dC] at z'
    cases z'
 show wpAny _ X.A (assign (.Name x px) X.env (.ref Dd)) _ _ _
 refine wpAny_assign_Name (ZCg (Q:=fun _ s''=>∃ m,s''.heap.Ns C m /\ ∀ h',Heap.SameBut C s''.heap h'->SP X pins D .next { s'' with heap:=h' }) J' hN hix hx (v:=.ref Dd) (u:=.ref Dd) rfl (fun s'' K'=>?_) hf)
 obtain ⟨e2,n2,_,_,_⟩:=K'.pin (C,oC) (yAG _ (yAG _ yAE))
 dsimp only at e2 n2
 refine ⟨m,⟨oC,es,ep,e2,dC,rC⟩,fun h' hsb=>⟨_,_,K'.unpinned.turned (it:=C) (t':=s''.toks) (fun b o hb e=>(hsb.2 b hb).trans e) n2 c1 (.inr c5) c6 c7,q⟩⟩
end
mutual
noncomputable def Dp (K:W.Frag) (H:Hp):PyData->V->Prop
 | .none,v=>v=.non
 | .bool b,v=>v=.bl b
 | .int i,v=>v=.int i
 | .str x,v=>v=.str x
 | .list ds,v=>∃ a xs,v=.ref a /\ SqL K H a xs /\ DpAll K H ds xs
 | .tuple ds,v=>∃ a xs,v=.ref a /\ SqT K H a xs /\ DpAll K H ds xs
 | .dict _,_=>False
noncomputable def DpAll (K:W.Frag) (H:Hp):List PyData->List V->Prop
 | [],vs=>vs=[]
 | d::ds,vs=>∃ v r,vs=v::r /\ Dp K H d v /\ DpAll K H ds r
end
theorem Same.seqT {K:W.Frag} {H H':Hp} {a:Addr} {xs:List V} (e:Same H H') (h:SqT K H a xs):SqT K H' a xs:=by
 rcases h with (h | ⟨o,h⟩) | h
 .exact .inl (.inl (e _ _ h))
 .exact .inl (.inr ⟨o,e _ _ h⟩)
 .exact .inr h
mutual
theorem Dp.mono {K:W.Frag} {H H':Hp} (e:Same H H'):∀ {d:PyData} {v:V},Dp K H d v->Dp K H' d v
 | .none,_,h=>h
 | .bool _,_,h=>h
 | .int _,_,h=>h
 | .str _,_,h=>h
 | .list ds,_,h=>by
  unfold Dp at h ⊢
  obtain ⟨a,xs,r,q,t⟩:=h
  exact ⟨a,xs,r,e.seq q,DpAll.mono e t⟩
 | .tuple ds,_,h=>by
  unfold Dp at h ⊢
  obtain ⟨a,xs,r,q,t⟩:=h
  exact ⟨a,xs,r,e.seqT q,DpAll.mono e t⟩
 | .dict _,_,h=>by unfold Dp at h;exact h.elim
theorem DpAll.mono {K:W.Frag} {H H':Hp} (e:Same H H'):∀ {ds:List PyData} {vs:List V},DpAll K H ds vs->DpAll K H' ds vs
 | [],_,h=>h
 | _::_,_,h=>by
  unfold DpAll at h ⊢
  obtain ⟨v,r,q,a,t⟩:=h
  exact ⟨v,r,q,Dp.mono e a,DpAll.mono e t⟩
end
theorem DpAll.length {K:W.Frag} {H:Hp}:∀ {ds:List PyData} {vs:List V},DpAll K H ds vs->vs.length=ds.length
 | [],_,h=>by unfold DpAll at h;subst h;rfl
 | _::_,_,h=>by
  unfold DpAll at h
  obtain ⟨v,r,q,a,t⟩:=h
  subst q
  rw [yAR,yAR,DpAll.length t]
theorem DpAll.get {K:W.Frag} {H:Hp}:∀ {ds:List PyData} {vs:List V} {i:Nat} {d:PyData},DpAll K H ds vs->ds[i]?=some d->∃ v,vs[i]?=some v /\ Dp K H d v
 | [],_,_,_,_,e=>by simp at e
 | _::_,_,0,_,h,e=>by
  unfold DpAll at h
  obtain ⟨v,r,q,a,t⟩:=h
  subst q
  simp at e
  subst e
  exact ⟨v,rfl,a⟩
 | _::_,_,i+1,_,h,e=>by
  unfold DpAll at h
  obtain ⟨v,r,q,a,t⟩:=h
  subst q
  simp at e
  obtain ⟨u,h1,h2⟩:=DpAll.get t e
  exact ⟨u,by simpa using h1,h2⟩
theorem DpAll.of_get {K:W.Frag} {H:Hp} {ds:List PyData} {vs:List V} {i:Nat} {v:V} (h:DpAll K H ds vs) (e:vs[i]?=some v):∃ d,ds[i]?=some d /\ Dp K H d v:=by
 have hi:i < ds.length:=by rw [<- h.length];exact (yAN.mp e).1
 obtain ⟨u,h1,h2⟩:=h.get (yAU hi)
 rw [e] at h1
 cases h1
 exact ⟨_,yAU hi,h2⟩
theorem DpAll.nil {K:W.Frag} {H:Hp}:DpAll K H [] []:=by unfold DpAll;rfl
theorem DpAll.cons {K:W.Frag} {H:Hp} {d:PyData} {ds:List PyData} {v:V} {vs:List V} (a:Dp K H d v) (t:DpAll K H ds vs):DpAll K H (d::ds) (v::vs):=by unfold DpAll;exact ⟨v,vs,rfl,a,t⟩
theorem DpAll.one {K:W.Frag} {H:Hp} {d:PyData} {v:V} (a:Dp K H d v):DpAll K H [d] [v]:=.cons a .nil
theorem DpAll.two {K:W.Frag} {H:Hp} {d e:PyData} {v u:V} (a:Dp K H d v) (b:Dp K H e u):DpAll K H [d,e] [v,u]:=.cons a (.cons b .nil)
theorem dp_int {K:W.Frag} {H:Hp} (i:Int):Dp K H (.int i) (.int i):=by unfold Dp;rfl
theorem dp_str {K:W.Frag} {H:Hp} (i:Str):Dp K H (.str i) (.str i):=by unfold Dp;rfl
theorem dp_bl {K:W.Frag} {H:Hp} (i:Bool):Dp K H (.bool i) (.bl i):=by unfold Dp;rfl
theorem dp_lst {K:W.Frag} {H:Hp} {a:Addr} {xs:List V} {ds:List PyData} (h:SqL K H a xs) (t:DpAll K H ds xs):Dp K H (.list ds) (.ref a):=by unfold Dp;exact ⟨a,xs,rfl,h,t⟩
theorem dp_tup {K:W.Frag} {H:Hp} {a:Addr} {xs:List V} {ds:List PyData} (h:SqT K H a xs) (t:DpAll K H ds xs):Dp K H (.tuple ds) (.ref a):=by unfold Dp;exact ⟨a,xs,rfl,h,t⟩
theorem Dp.asT {K:W.Frag} {H:Hp} {v:V} {ds:List PyData} (h:Dp K H (.tuple ds) v):∃ a xs,v=.ref a /\ SqT K H a xs /\ DpAll K H ds xs:=by unfold Dp at h;exact h
theorem Dp.asI {K:W.Frag} {H:Hp} {v:V} {i:Int} (h:Dp K H (.int i) v):v=.int i:=by unfold Dp at h;exact h
theorem Dp.asS {K:W.Frag} {H:Hp} {v:V} {i:Str} (h:Dp K H (.str i) v):v=.str i:=by unfold Dp at h;exact h
section
variable {X:Cx} {pins:List (Addr×Obj)} {σ:St} {H:Hp} {s:Shared}
mutual
theorem Inv.reads (I:Inv X pins σ H s):∀ {d:PyData} {v:V} {u:Value},Dp X.K H d v->RelV v u->∃ as,Reads s.heap u d as
 | .none,_,_,h,r=>by unfold Dp at h;subst h;cases (show _=Value.none from r);exact ⟨_,.none⟩
 | .bool b,_,_,h,r=>by unfold Dp at h;subst h;cases (show _=Value.bool b from r);exact ⟨_,.bool b⟩
 | .int i,_,_,h,r=>by unfold Dp at h;subst h;obtain ⟨t,q⟩:=(show ∃ t,_=Value.int i t from r);subst q;exact ⟨_,.int i t⟩
 | .str x,_,_,h,r=>by unfold Dp at h;subst h;obtain ⟨t,q⟩:=(show ∃ t,_=Value.str x t from r);subst q;exact ⟨_,.str x t⟩
 | .list ds,_,_,h,r=>by
  unfold Dp at h
  obtain ⟨a,xs,q,sq,t⟩:=h
  subst q
  cases (show _=Value.ref a from r)
  obtain ⟨its,rv,pl,_⟩:=I.list sq
  obtain ⟨as,ra⟩:=Inv.readsAll I t rv
  obtain ⟨o,n,e1,e2,_,e3⟩:=pl
  exact ⟨_,.list e1 e2 e3 (by simpa using ra)⟩
 | .tuple ds,_,_,h,r=>by
  unfold Dp at h
  obtain ⟨a,xs,q,sq,t⟩:=h
  subst q
  cases (show _=Value.ref a from r)
  obtain ⟨its,rv,pl,_⟩:=I.tuple sq
  obtain ⟨as,ra⟩:=Inv.readsAll I t rv
  obtain ⟨o,e1,e2,n,e3⟩:=pl
  exact ⟨_,.tuple e1 e2 e3 (by simpa using ra)⟩
 | .dict _,_,_,h,_=>by unfold Dp at h;exact h.elim
theorem Inv.readsAll (I:Inv X pins σ H s):∀ {ds:List PyData} {vs:List V} {us:List Value},DpAll X.K H ds vs->Vals vs us->∃ as,ReadsAll s.heap us ds as
 | [],_,_,h,r=>by unfold DpAll at h;subst h;cases r;exact ⟨_,.nil⟩
 | _::_,_,_,h,r=>by
  unfold DpAll at h
  obtain ⟨v,q,e,a,t⟩:=h
  subst e
  cases r with
  | cons r1 r2=>
   obtain ⟨as,h1⟩:=Inv.reads I a r1
   obtain ⟨bs,h2⟩:=Inv.readsAll I t r2
   exact ⟨_,.cons h1 h2⟩
end
noncomputable def rEqD (K:W.Frag):R2:=fun x y H Q=>∃ d e,Dp K H d x /\ Dp K H e y /\ d.canLay0=true /\ e.canLay0=true /\ d.depth <= 64 /\ Q (.bl (PyData.eqv d e)) H
theorem op_eqD (hu:X.A.units+64 < cLine):OpR X (compareOp .Eq) (rEqD X.K):=by
 intro pins s σ H x y v u Q I rx ry h
 obtain ⟨d,e,h1,h2,c1,c2,dp,q⟩:=h
 obtain ⟨as,ra⟩:=I.reads h1 rx
 obtain ⟨bs,rb⟩:=I.reads h2 ry
 exact SeqAt.compareEq_reads ra rb c1 c2 (by omega) ⟨.bl _,H,I,rfl,q⟩
end
section
variable {X:Cx} {x:Str} {pos:Pos}
theorem ZBp {y:Str} (hg:Gl X x) (h:∃ t,X.mg x=some (.str y t)) (hd:(x == ("__debug__":Str))=false:=by decide):PE X (.Name x pos) (tC (.str y)):=by
 obtain ⟨t,e⟩:=h
 exact ZDB hg e ⟨t,rfl⟩ hd
theorem pe_gint {y:Int} (hg:Gl X x) (h:∃ t,X.mg x=some (.int y t)) (hd:(x == ("__debug__":Str))=false:=by decide):PE X (.Name x pos) (tC (.int y)):=by
 obtain ⟨t,e⟩:=h
 exact ZDB hg e ⟨t,rfl⟩ hd
theorem ZBe {C:Addr} (hg:Gl X x) (h:X.mg x=some (.ref C)) (hd:(x == ("__debug__":Str))=false:=by decide):PE X (.Name x pos) (tC (.ref C)):=ZDB hg h rfl hd
theorem ZDI {n:String} (hg:Gl X x) (hm:X.mg x=none) (hv:bootBuiltins x=some (.type n)) (hn:x≠"__name__":=by decide) (hd:(x == ("__debug__":Str))=false:=by decide):PE X (.Name x pos) (tC (.ty n)):=pe_bltn hg hm hv rfl hn hd
end
structure Fn (P:Program) (w:World) (K:W.Frag) (mg:Str->Option Value) (base:Heap) (CX:CXT) (x:Str) (k:Nat) (ps:List Str) (sp:Sp):Prop where
 ex:∃ f fd,FnOk P w K mg base CX k f fd ps sp /\ Binds K fd ps [] /\ W.keepIn K (.ref f)=true /\ mg x=some (.ref f)
structure Mt (P:Program) (w:World) (K:W.Frag) (mg:Str->Option Value) (base:Heap) (CX:CXT) (C:Addr) (m:Str) (k:Nat) (ps:List Str) (sp:Sp):Prop where
 cl:Cls K C
 ex:∃ f fd,FnOk P w K mg base CX k f fd ps sp /\ Binds K fd ps [] /\ Meth K C m f
structure Kl (P:Program) (w:World) (K:W.Frag) (mg:Str->Option Value) (base:Heap) (CX:CXT) (x:Str) (C:Addr) (k:Nat) (ps:List Str) (sp:Sp):Prop where
 mgC:mg x=some (.ref C)
 ex:∃ f fd,FnOk P w K mg base CX k f fd ps sp /\ Binds K fd ps [] /\ Mk K C f
section
variable {X:Cx} {CX:CXT} {k:Nat} {ps:List Str} {sp:Sp} {E:XK} {x m:Str} {C:Addr} {p pos apos:Pos} {e o:Expr} {es:List Expr} {ta:TE} {t:TA}
theorem ZAu (F:Fn X.prog X.w X.K X.mg X.base CX x k ps sp) (hr:Room k X.A) (hg:Gl X x) (hx:ZBR CX X E) (ha:PA X (e::es) t) (hdb:(x == ("__debug__":Str))=false:=by decide) (he:starEach (e::es) X.env=(false,eval e X.env)::starEach es X.env:=by rfl) (hpl:(backTo pos (starEach es X.env)).any (·.1)=false:=by rfl) :
  PE X (.Call (.Name x p) (e::es) [] pos) (ZDg sp [] E t):=by
 obtain ⟨f,fd,h1,h2,h3,h4⟩:=F.ex
 exact pe_call h1 hr hg h4 h3 h2 .nil hx ha hdb he hpl
theorem ZCK {pl:Sem Bool} (F:Mt X.prog X.w X.K X.mg X.base CX C m k ps sp) (hr:Room k X.A) (hx:ZBR CX X E) (he:PE X o ta)
  (ht:eval (.Call (.Attribute o m apos) [] [] pos) X.env=(do
   let ov <- eval o X.env
   standAt apos.atName
   let (f,first) <- holding [ov] (getMethod ov m pl)
   callWith pos f first (backTo pos (starEach [] X.env)) (backToKw pos (keywordEach [] X.env))):=by rfl) :
  PE X (.Call (.Attribute o m apos) [] [] pos) (ZDe C m sp [] E ta tNil):=by
 obtain ⟨f,fd,h1,h2,h3⟩:=F.ex
 exact pe_meth0 he F.cl h3 h1 hr h2 .nil hx ht
theorem ZDP (F:Kl X.prog X.w X.K X.mg X.base CX x C k ps sp) (hr:Room (k+1) X.A) (hg:Gl X x) (hx:ZBR CX X E) (ha:PA X (e::es) t) (hdb:(x == ("__debug__":Str))=false:=by decide) (he:starEach (e::es) X.env=(false,eval e X.env)::starEach es X.env:=by rfl) (hpl:(backTo pos (starEach es X.env)).any (·.1)=false:=by rfl) :
  PE X (.Call (.Name x p) (e::es) [] pos) (ZDf C sp [] E t):=by
 obtain ⟨f,fd,h1,h2,h3⟩:=F.ex
 exact pe_make h3 h1 hr hg F.mgC h2 .nil hx ha hdb he hpl
end
noncomputable def ZCr:V->Bool
 | .ty _=>true
 | .ref _=>true
 | _=>false
noncomputable def cval:V->Value
 | .ty n=>.type n
 | .ref a=>.ref a
 | _=>.none
section
variable {X:Cx}
theorem ZB6:ZCI X (.builtin "isinstance") (fun xs H Q=>∃ x c ty b,xs=[x,c] /\ ZCr c=true /\ TyOf X.K H x ty /\ PySem.W.kitOne X.K ty (cval c)=some b /\ Q (.bl b) H):=by
 intro pins s σ H xs us Q I r h
 obtain ⟨x,c,ty,b,rfl,hc,hty,e,q⟩:=h
 obtain ⟨u,w',rfl,r1,r2⟩:=ZDl r
 have e2:w'=cval c:=by
  cases c <;> first | (cases hc;done) | exact r2
 subst e2
 exact isinst_ok I r1 hty e fun tk=>⟨.bl b,H,I.tok tk,rfl,q⟩
end
theorem ZAZ {v:V} {σ:St} {H:Hp} {Q:VK}:tVar 0 (some v::σ) H Q=Q v H:=by
 apply propext;unfold tVar;simp
theorem ZAf {i:Nat} {a:Option V} {σ:St} {H:Hp} {Q:VK}:tVar (i+1) (a::σ) H Q=tVar i σ H Q:=by
 apply propext;unfold tVar;simp
theorem rI0_int {g:Int->Int->V} {i j:Int} {H:Hp} {Q:VK}:rI0 g (.int i) (.int j) H Q=Q (g i j) H:=by
 apply propext;unfold rI0;simp
theorem rI_int {C:Int->Int->Prop} {g:Int->Int->V} {i j:Int} {H:Hp} {Q:VK}:rI C g (.int i) (.int j) H Q=(C i j /\ Q (g i j) H):=by
 apply propext;unfold rI;simp
theorem rU_int {g:Int->V} {i:Int} {H:Hp} {Q:VK}:rU g (.int i) H Q=Q (g i) H:=by
 apply propext;unfold rU;simp
theorem rEq_int {i j:Int} {H:Hp} {Q:VK}:rEq (.int i) (.int j) H Q=Q (.bl (decide (i=j))) H:=by
 exact propext ⟨fun h=>by simpa using h.2,fun h=>⟨rfl,by simpa using h⟩⟩
theorem rNe_int {i j:Int} {H:Hp} {Q:VK}:rNe (.int i) (.int j) H Q=Q (.bl (!decide (i=j))) H:=by
 exact propext ⟨fun h=>by simpa using h.2,fun h=>⟨rfl,by simpa using h⟩⟩
theorem rEq_bl {i j:Bool} {H:Hp} {Q:VK}:rEq (.bl i) (.bl j) H Q=Q (.bl (decide (i=j))) H:=by
 exact propext ⟨fun h=>by simpa using h.2,fun h=>⟨rfl,by simpa using h⟩⟩
theorem rNe_bl {i j:Bool} {H:Hp} {Q:VK}:rNe (.bl i) (.bl j) H Q=Q (.bl (!decide (i=j))) H:=by
 exact propext ⟨fun h=>by simpa using h.2,fun h=>⟨rfl,by simpa using h⟩⟩
theorem rEq_str {i j:Str} {H:Hp} {Q:VK}:rEq (.str i) (.str j) H Q=Q (.bl (decide (i=j))) H:=by
 exact propext ⟨fun h=>by simpa using h.2,fun h=>⟨rfl,by simpa using h⟩⟩
theorem rNe_str {i j:Str} {H:Hp} {Q:VK}:rNe (.str i) (.str j) H Q=Q (.bl (!decide (i=j))) H:=by
 exact propext ⟨fun h=>by simpa using h.2,fun h=>⟨rfl,by simpa using h⟩⟩
theorem ex_bl {c:Bool} {Q:Bool->Prop}:(∃ k,V.bl c=V.bl k /\ Q k)=Q c:=by
 apply propext;simp
theorem ex_int {c:Int} {Q:Int->Prop}:(∃ k,V.int c=V.int k /\ Q k)=Q c:=by
 apply propext;simp
theorem ZAM {n:Nat} (h:n <= 1000):n <= sizeLine:=Nat.le_of_lt (small1000 h)
theorem ZAi {H:Hp} {p:Addr} (h:H p=none) (o:HO):Same H (upd H p o):=fun b u q=>by rw [ZAS (ZAU q h)];exact q
theorem ZCP {H:Hp} {p a:Addr} {o u:HO} (h:H p=none) (e:H a=some u):upd H p o a=some u:=by rw [ZAS (ZAU e h)];exact e
noncomputable def getF (K:W.Frag) (f:Str) (x:V) (H:Hp) (Q:VK):Prop:=∃ a C dx fs v,x=.ref a /\ H a=some (.ins C dx fs) /\ Cls K C /\ NoAttr K C f /\ fs.lookup f=some v /\ Q v H
theorem tFld_eq {K:W.Frag} {ta:TE} {f:Str} {σ:St} {H:Hp} {Q:VK}:tFld K ta f σ H Q=ta σ H (fun x H1=>getF K f x H1 Q):=rfl
theorem getF_of {K:W.Frag} {f:Str} {a C dx:Addr} {fs:List (Str×V)} {v:V} {H:Hp} {Q:VK} (h:H a=some (.ins C dx fs)) (cl:Cls K C) (n:NoAttr K C f) (l:fs.lookup f=some v) (q:Q v H):getF K f (.ref a) H Q:=⟨a,C,dx,fs,v,rfl,h,cl,n,l,q⟩
noncomputable def setF (K:W.Frag) (f:Str) (x y:V) (H:Hp) (Q:Hp->Prop):Prop:=∃ a C dx fs,x=.ref a /\ H a=some (.ins C dx fs) /\ Cls K C /\ NoAttr K C f /\ fs.length < 1000 /\ Q (upd H a (.ins C dx (putF f y fs)))
theorem sFld_eq {K:W.Frag} {ta tv:TE} {f:Str} {D:Ends} {σ:St} {H:Hp}:sFld K ta tv f D σ H=tv σ H (fun y H1=>ta σ H1 fun x H2=>setF K f x y H2 (D.nx σ)):=rfl
theorem setF_of {K:W.Frag} {f:Str} {a C dx:Addr} {fs:List (Str×V)} {y:V} {H:Hp} {Q:Hp->Prop} (h:H a=some (.ins C dx fs)) (cl:Cls K C) (n:NoAttr K C f) (l:fs.length < 1000) (q:Q (upd H a (.ins C dx (putF f y fs)))):setF K f (.ref a) y H Q:=⟨a,C,dx,fs,rfl,h,cl,n,l,q⟩
theorem ZAm {K:W.Frag} {p:Addr} {xs:List V} {i:Int} {v:V} {H:Hp} {Q:VK} (h:SqL K H p xs) (e:atI xs i=some v) (q:Q v H):rIxL K (.ref p) (.int i) H Q:=⟨p,xs,i,v,rfl,rfl,h,e,q⟩
theorem ZBJ {α:Type} {xs:List α} {i:Int} {v:α} (h0:0 <= i) (h:xs[i.toNat]?=some v):atI xs i=some v:=by
 have q:=atI_nat h
 rwa [Int.toNat_of_nonneg h0] at q
theorem atI_ints {xs:List Int} {i:Int} {v:Int} (h0:0 <= i) (h:xs[i.toNat]?=some v):atI (xs.map V.int) i=some (.int v):=ZBJ h0 (by rw [yAY,h];rfl)
noncomputable def Nxt (P:Nat->List V->St->Hp->Prop) (n i:Nat) (ys:List V) (σ:St) (H:Hp):Prop:=∃ m',m' < n-i /\ m'=n-(i+1) /\ i+1 <= n /\ P (i+1) ys σ H
theorem Nxt.of {P:Nat->List V->St->Hp->Prop} {n i:Nat} {ys:List V} {σ:St} {H:Hp} (h:i < n) (p:P (i+1) ys σ H):Nxt P n i ys σ H:=⟨n-(i+1),by omega,rfl,h,p⟩
theorem comp_list {K:W.Frag} {a:Addr} {xs:List V} {g:TG} {tt:TT} {te:TE} {Q:VK} {σ0:St} {H:Hp} (P:Nat->List V->St->Hp->Prop) (h0:P 0 [] σ0 H) (hl:∀ i ys σ H,i <= xs.length->P i ys σ H->SqL K H a xs /\ ys.length <= i) (hz:xs.length <= sizeLine)
  (hs:∀ i ys x σ H,i < xs.length->xs[i]?=some x->P i ys σ H->g x σ H fun σ2 H2=>tt σ2 H2 fun b H3=>if b=true then te σ2 H3 fun y H4=>Nxt P xs.length i (ys++[y]) σ2 H4 else Nxt P xs.length i ys σ2 H3)
  (hd:∀ ys σ H,P xs.length ys σ H->∀ p,H p=none->Q (.ref p) (upd H p (.lst ys))) :
  ∃ W:Nat->Nat->List V->St->Hp->Prop,(∃ m,W 0 m [] σ0 H) /\ ∀ i m ys σ H,W i m ys σ H ->
   ((Itl K a).stop i H /\ ys.length <= sizeLine /\ ∀ p,H p=none->Q (.ref p) (upd H p (.lst ys))) ∨
   ((Itl K a).go i H /\ ys.length < sizeLine /\ ∀ x H',(Itl K a).yld i H x H'->g x σ H' fun σ2 H2=>tt σ2 H2 fun b H3=>if b=true then te σ2 H3 fun y H4=>∃ m',m' < m /\ W (i+1) m' (ys++[y]) σ2 H4 else ∃ m',m' < m /\ W (i+1) m' ys σ2 H3):=by
 refine ⟨fun i m ys σ H=>m=xs.length-i /\ i <= xs.length /\ P i ys σ H,⟨xs.length,by simp,yBC _,h0⟩,?_⟩
 rintro i m ys σ H ⟨rfl,hi,p⟩
 obtain ⟨q,ly⟩:=hl i ys σ H hi p
 by_cases hlt:i < xs.length
 .refine .inr ⟨⟨xs,xs[i],q,by simp [hlt]⟩,by omega,fun x H' y=>?_⟩
  obtain ⟨e,y⟩:=y
  subst e
  exact hs i ys x σ _ hlt (y xs q) p
 .have e:i=xs.length:=by omega
  subst e
  exact .inl ⟨⟨xs,q,yAA _⟩,by omega,hd ys σ H p⟩
theorem comp_range {lo:Int} {n:Nat} {g:TG} {tt:TT} {te:TE} {Q:VK} {σ0:St} {H:Hp} (P:Nat->List V->St->Hp->Prop) (h0:P 0 [] σ0 H) (hl:∀ i ys σ H,P i ys σ H->ys.length <= i) (hz:n <= sizeLine)
  (hs:∀ i ys σ H,i < n->P i ys σ H->g (.int (lo+i)) σ H fun σ2 H2=>tt σ2 H2 fun b H3=>if b=true then te σ2 H3 fun y H4=>Nxt P n i (ys++[y]) σ2 H4 else Nxt P n i ys σ2 H3)
  (hd:∀ ys σ H,P n ys σ H->∀ p,H p=none->Q (.ref p) (upd H p (.lst ys))) :
  ∃ W:Nat->Nat->List V->St->Hp->Prop,(∃ m,W 0 m [] σ0 H) /\ ∀ i m ys σ H,W i m ys σ H ->
   ((Itr lo n).stop i H /\ ys.length <= sizeLine /\ ∀ p,H p=none->Q (.ref p) (upd H p (.lst ys))) ∨
   ((Itr lo n).go i H /\ ys.length < sizeLine /\ ∀ x H',(Itr lo n).yld i H x H'->g x σ H' fun σ2 H2=>tt σ2 H2 fun b H3=>if b=true then te σ2 H3 fun y H4=>∃ m',m' < m /\ W (i+1) m' (ys++[y]) σ2 H4 else ∃ m',m' < m /\ W (i+1) m' ys σ2 H3):=by
 refine ⟨fun i m ys σ H=>m=n-i /\ i <= n /\ P i ys σ H,⟨n,by simp,yBC _,h0⟩,?_⟩
 rintro i m ys σ H ⟨rfl,hi,p⟩
 have ly:=hl i ys σ H p
 by_cases hlt:i < n
 .refine .inr ⟨hlt,by omega,fun x H' y=>?_⟩
  obtain ⟨e,y⟩:=y
  subst e y
  exact hs i ys σ _ hlt p
 .have e:i=n:=by omega
  subst e
  exact .inl ⟨yAA _,by omega,hd ys σ H p⟩
theorem Same.upd {H H':Hp} {p:Addr} {o:HO} (e:Same H H') (h:H p=none):Same H (upd H' p o):=fun b u q=>by rw [ZAS (ZAU q h)];exact e b u q
theorem Same.new {H H':Hp} {p:Addr} {o:HO} (e:Same H H') (h:H' p=none):Same H (L2.upd H' p o):=e.upd (e.free h)
theorem kit_same {K:W.Frag} {t:Value} (h:(t == t)=true):PySem.W.kitOne K t t=some true:=by unfold PySem.W.kitOne;rw [if_pos h]
theorem get_ints {ns:List Int} {i:Nat} {x:V} (h:(ns.map V.int)[i]?=some x):∃ n,ns[i]?=some n /\ x=.int n:=by
 rw [yAY] at h
 cases e:ns[i]? with
 | none=>rw [e] at h;cases h
 | some n=>rw [e] at h;exact ⟨n,rfl,(Option.some.inj h).symm⟩
noncomputable def forL (K:W.Frag) (g:TG) (tb:TS) (D:Ends) (σ:St) (x:V) (H1:Hp):Prop:=∃ a,x=.ref a /\ (∃ xs,SqL K H1 a xs) /\ ∃ W:Nat->Nat->St->Hp->Prop,(∃ m,W 0 m σ H1) /\ ∀ i m σ H,W i m σ H ->
 ((Itl K a).stop i H /\ D.nx σ H)∨((Itl K a).go i H /\ ∃ N:St->Hp->Prop,(∀ σ' H',N σ' H'->∃ m',m' < m /\ W (i+1) m' σ' H') /\ ∀ x H',(Itl K a).yld i H x H'->g x σ H' fun σ2 H2=>tb { D with nx:=N,ct:=N,bk:=D.nx } σ2 H2)
theorem tForL_eq {K:W.Frag} {tl:TE} {g:TG} {tb:TS} {D:Ends} {σ:St} {H:Hp}:tFor (ZDv K tl) g tb D σ H=tl σ H (fun x H1=>forL K g tb D σ x H1):=rfl
theorem ZCu {K:W.Frag} {g:TG} {tb:TS} {D:Ends} {σ:St} {H:Hp} {a:Addr} {xs:List V} (h:SqL K H a xs) (Pv:Nat->St->Hp->Prop) (h0:Pv 0 σ H) (hl:∀ i σ H,i <= xs.length->Pv i σ H->SqL K H a xs)
  (hs:∀ i x σ H,xs[i]?=some x->Pv i σ H->g x σ H fun σ2 H2=>tb { D with nx:=Pv (i+1),ct:=Pv (i+1),bk:=D.nx } σ2 H2) (hd:∀ σ H,Pv xs.length σ H->D.nx σ H):forL K g tb D σ (.ref a) H :=
 ⟨a,rfl,⟨xs,h⟩,for_list Pv h0 hl hs hd⟩
noncomputable def forR (lo:Int) (g:TG) (tb:TS) (D:Ends) (σ:St) (n:Nat) (H1:Hp):Prop:=∃ W:Nat->Nat->St->Hp->Prop,(∃ m,W 0 m σ H1) /\ ∀ i m σ H,W i m σ H ->
 ((Itr lo n).stop i H /\ D.nx σ H)∨((Itr lo n).go i H /\ ∃ N:St->Hp->Prop,(∀ σ' H',N σ' H'->∃ m',m' < m /\ W (i+1) m' σ' H') /\ ∀ x H',(Itr lo n).yld i H x H'->g x σ H' fun σ2 H2=>tb { D with nx:=N,ct:=N,bk:=D.nx } σ2 H2)
noncomputable def forR1 (g:TG) (tb:TS) (D:Ends) (σ:St) (x:V) (H1:Hp):Prop:=∃ j:Int,[x]=[.int j] /\ -(2 ^ 62) <= j /\ j < 2 ^ 62 /\ forR 0 g tb D σ j.toNat H1
noncomputable def forR2 (g:TG) (tb:TS) (D:Ends) (σ:St) (x y:V) (H1:Hp):Prop:=∃ i j:Int,[x,y]=[.int i,.int j] /\ (-(2 ^ 62) <= i /\ i < 2 ^ 62 /\ -(2 ^ 62) <= j /\ j < 2 ^ 62) /\ forR i g tb D σ (j-i).toNat H1
theorem tForR1_eq {t:TE} {g:TG} {tb:TS} {D:Ends} {σ:St} {H:Hp}:tFor (ZDu (ZBC t tNil)) g tb D σ H=t σ H (fun x H1=>forR1 g tb D σ x H1):=rfl
theorem tForR2_eq {t u:TE} {g:TG} {tb:TS} {D:Ends} {σ:St} {H:Hp}:tFor (iRng2 (ZBC t (ZBC u tNil))) g tb D σ H=t σ H (fun x H1=>u σ H1 fun y H2=>forR2 g tb D σ x y H2):=rfl
noncomputable def ZD0 (K:W.Frag) (g:TG) (tt:TT) (te:TE) (σ0:St) (Q:VK) (x:V) (H1:Hp):Prop:=∃ a,x=.ref a /\ (∃ xs,SqL K H1 a xs) /\ ∃ W:Nat->Nat->List V->St->Hp->Prop,(∃ m,W 0 m [] σ0 H1) /\ ∀ i m ys σ H,W i m ys σ H ->
 ((Itl K a).stop i H /\ ys.length <= sizeLine /\ ∀ p,H p=none->Q (.ref p) (upd H p (.lst ys))) ∨
 ((Itl K a).go i H /\ ys.length < sizeLine /\ ∀ x H',(Itl K a).yld i H x H'->g x σ H' fun σ2 H2=>tt σ2 H2 fun b H3=>if b=true then te σ2 H3 fun y H4=>∃ m',m' < m /\ W (i+1) m' (ys++[y]) σ2 H4 else ∃ m',m' < m /\ W (i+1) m' ys σ2 H3)
theorem tCompL_eq {k:Nat} {js:List Nat} {K:W.Frag} {tl:TE} {g:TG} {tt:TT} {te:TE} {σ:St} {H:Hp} {Q:VK}:ZCM k js (ZDv K tl) g tt te σ H Q=tl σ H (fun x H1=>ZD0 K g tt te (up k js σ) Q x H1):=rfl
theorem compL_of {K:W.Frag} {a:Addr} {xs:List V} {g:TG} {tt:TT} {te:TE} {Q:VK} {σ0:St} {H:Hp} (h:SqL K H a xs) (hz:xs.length <= 1000) (P:Nat->List V->St->Hp->Prop) (h0:P 0 [] σ0 H) (hl:∀ i ys σ H,i <= xs.length->P i ys σ H->SqL K H a xs /\ ys.length <= i)
  (hs:∀ i ys x σ H,i < xs.length->xs[i]?=some x->P i ys σ H->g x σ H fun σ2 H2=>tt σ2 H2 fun b H3=>if b=true then te σ2 H3 fun y H4=>Nxt P xs.length i (ys++[y]) σ2 H4 else Nxt P xs.length i ys σ2 H3)
  (hd:∀ ys σ H,P xs.length ys σ H->∀ p,H p=none->Q (.ref p) (upd H p (.lst ys))):ZD0 K g tt te σ0 Q (.ref a) H:=⟨a,rfl,⟨xs,h⟩,comp_list P h0 hl (ZAM hz) hs hd⟩
noncomputable def compR (lo:Int) (g:TG) (tt:TT) (te:TE) (σ0:St) (Q:VK) (n:Nat) (H1:Hp):Prop:=∃ W:Nat->Nat->List V->St->Hp->Prop,(∃ m,W 0 m [] σ0 H1) /\ ∀ i m ys σ H,W i m ys σ H ->
 ((Itr lo n).stop i H /\ ys.length <= sizeLine /\ ∀ p,H p=none->Q (.ref p) (upd H p (.lst ys))) ∨
 ((Itr lo n).go i H /\ ys.length < sizeLine /\ ∀ x H',(Itr lo n).yld i H x H'->g x σ H' fun σ2 H2=>tt σ2 H2 fun b H3=>if b=true then te σ2 H3 fun y H4=>∃ m',m' < m /\ W (i+1) m' (ys++[y]) σ2 H4 else ∃ m',m' < m /\ W (i+1) m' ys σ2 H3)
noncomputable def compR1 (g:TG) (tt:TT) (te:TE) (σ0:St) (Q:VK) (x:V) (H1:Hp):Prop:=∃ j:Int,[x]=[.int j] /\ -(2 ^ 62) <= j /\ j < 2 ^ 62 /\ compR 0 g tt te σ0 Q j.toNat H1
theorem tCompR1_eq {k:Nat} {js:List Nat} {t:TE} {g:TG} {tt:TT} {te:TE} {σ:St} {H:Hp} {Q:VK}:ZCM k js (ZDu (ZBC t tNil)) g tt te σ H Q=t σ H (fun x H1=>compR1 g tt te (up k js σ) Q x H1):=rfl
theorem compR1_of {j:Int} {g:TG} {tt:TT} {te:TE} {Q:VK} {σ0:St} {H:Hp} (h:-1000 <= j /\ j <= 1000) (P:Nat->List V->St->Hp->Prop) (h0:P 0 [] σ0 H) (hl:∀ i ys σ H,P i ys σ H->ys.length <= i)
  (hs:∀ i ys σ H,i < j.toNat->P i ys σ H->g (.int (0+i)) σ H fun σ2 H2=>tt σ2 H2 fun b H3=>if b=true then te σ2 H3 fun y H4=>Nxt P j.toNat i (ys++[y]) σ2 H4 else Nxt P j.toNat i ys σ2 H3)
  (hd:∀ ys σ H,P j.toNat ys σ H->∀ p,H p=none->Q (.ref p) (upd H p (.lst ys))):compR1 g tt te σ0 Q (.int j) H:=⟨j,rfl,by omega,by omega,comp_range P h0 hl (ZAM (by omega)) hs hd⟩
section
variable {X:Cx}
end
theorem gCons_eq {t:TG} {u:TGs} {v:V} {r:List V} {σ:St} {H:Hp} {Q:St->Hp->Prop}:ZDy t u (v::r) σ H Q=t v σ H (fun σ' H'=>u r σ' H' Q):=by
 apply propext;unfold ZDy;constructor
 .rintro ⟨v',r',e,q⟩;cases e;exact q
 .exact fun q=>⟨v,r,rfl,q⟩
theorem gNil_eq {σ:St} {H:Hp} {Q:St->Hp->Prop}:gNil [] σ H Q=Q σ H:=by
 apply propext;unfold gNil;simp
theorem gTup_of {K:W.Frag} {n:Nat} {t:TGs} {a:Addr} {xs:List V} {σ:St} {H:Hp} {Q:St->Hp->Prop} (h:SqT K H a xs) (l:xs.length=n) (q:t xs σ H Q):gTup K n t (.ref a) σ H Q:=⟨a,xs,rfl,h,l,q⟩
section
variable {X:Cx} {tg l e o:Expr} {es:List Expr} {tl te to:TE} {t:TA} {pos apos cpos:Pos} {f:Str}
theorem pg_tupK (K:W.Frag) {k:Nat} {tgs:TGs} {n:Nat} (hc:X.calm=true) (hg:PGs X es tgs)
  (hn:(assignEach es X.env).length=n:=by rfl) (hst:(assignEach es X.env).findIdx? (·.1)=none:=by rfl) (h:X.K=K:=by rfl):PG X (.Tuple es k pos) (gTup K n tgs):=h ▸ pg_tup hc hg hn hst
end
section
variable {X:Cx}
theorem tAug_eq {i:Nat} {te:TE} {ti:TIp} {D:Ends} {σ:St} {H:Hp}:tAug i te ti D σ H=tVar i σ H (fun x H0=>te σ H0 fun y H1=>ti x y H1 fun z H2=>D.nx (σ.set i (some z)) H2):=rfl
theorem ipI_int {f:Int->Int->Int} {i j:Int} {H:Hp} {Q:VK}:ipI f (.int i) (.int j) H Q=Q (.int (f i j)) H:=by
 refine propext ⟨?_,fun q=>⟨i,j,rfl,rfl,q⟩⟩
 rintro ⟨a,b,e1,e2,q⟩
 cases e1;cases e2;exact q
theorem cx_K {CX:CXT} {P:Program} {w:World} {K:W.Frag} {mg:Str->Option Value} {base:Heap} {N:List Str} {qual:Str} {scope:Scope} {f:Addr} {cd:Value} {A:Around} {outer:List Env} {s:Shared} {H:Hp} {E:XK}:(cxOf CX P w K mg base N qual scope f cd A outer s H E).K=K:=rfl
end
structure Enc {α:Type} [DecidableEq α] (e:α->PyData) (n:Nat):Prop where
 eq:∀ a b,PyData.eqv (e a) (e b)=decide (a=b)
 lay:∀ a,(e a).canLay0=true
 dep:∀ a,(e a).depth <= n
theorem Enc.bl:Enc PyData.bool 0:=⟨fun a b=>by unfold PyData.eqv;rw [yBD];simp,fun a=>by unfold PyData.canLay0;rfl,fun a=>by unfold PyData.depth;exact yAA _⟩
section
variable {α β γ:Type} [DecidableEq α] [DecidableEq β] [DecidableEq γ] {e:α->PyData} {f:β->PyData} {g:γ->PyData} {n m k:Nat}
theorem Enc.all (h:Enc e n):∀ xs ys:List α,PyData.eqvAll (xs.map e) (ys.map e)=decide (xs=ys)
 | [],[]=>by simp [PyData.eqvAll]
 | x::xs,[]=>by simp [PyData.eqvAll]
 | [],y::ys=>by simp [PyData.eqvAll]
 | x::xs,y::ys=>by
  rw [yAS,yAS]
  unfold PyData.eqvAll
  rw [h.eq,h.all xs ys,<- Bool.decide_and]
  exact decide_eq_decide.mpr (by rw [List.cons.injEq])
theorem Enc.layAll (h:Enc e n):∀ xs:List α,PyData.canLayAll0 (xs.map e)=true
 | []=>by simp [PyData.canLayAll0]
 | x::xs=>by rw [yAS];unfold PyData.canLayAll0;rw [h.lay,h.layAll xs];rfl
theorem Enc.depAll (h:Enc e n):∀ xs:List α,PyData.depthAll (xs.map e) <= n
 | []=>by simp [PyData.depthAll]
 | x::xs=>by
  rw [yAS];unfold PyData.depthAll
  have a:=h.dep x
  have b:=h.depAll xs
  omega
theorem Enc.list (h:Enc e n):Enc (fun xs:List α=>PyData.list (xs.map e)) (n+1) :=
 ⟨fun a b=>by unfold PyData.eqv;exact h.all a b,fun a=>by unfold PyData.canLay0;exact h.layAll a,fun a=>by unfold PyData.depth;have:=h.depAll a;omega⟩
theorem eqD_of {K:W.Frag} {H:Hp} {x y:V} {a b:α} {Q:VK} (h:Enc e n) (hn:n <= 64) (dx:Dp K H (e a) x) (dy:Dp K H (e b) y) (q:Q (.bl (decide (a=b))) H):rEqD K x y H Q :=
 ⟨_,_,dx,dy,h.lay a,h.lay b,yAD (h.dep a) hn,by rw [h.eq];exact q⟩
end
section
variable {K:W.Frag} {H:Hp} {R:Bool->Prop}
theorem inst_of {x c:V} {ty:Value} {b:Bool} (hc:ZCr c=true) (t:TyOf K H x ty) (k:PySem.W.kitOne K ty (cval c)=some b) (q:R b):∃ x' c' ty b,[x,c]=[x',c'] /\ ZCr c'=true /\ TyOf K H x' ty /\ PySem.W.kitOne K ty (cval c')=some b /\ R b:=⟨x,c,ty,b,rfl,hc,t,k,q⟩
theorem inst_int {i:Int} (q:R true):∃ x' c' ty b,[V.int i,V.ty "int"]=[x',c'] /\ ZCr c'=true /\ TyOf K H x' ty /\ PySem.W.kitOne K ty (cval c')=some b /\ R b:=inst_of rfl (.int i) (kit_same rfl) q
theorem inst_int_bl {i:Int} (k:PySem.W.kitOne K (.type "int") (.type "bool")=some false) (q:R false):∃ x' c' ty b,[V.int i,V.ty "bool"]=[x',c'] /\ ZCr c'=true /\ TyOf K H x' ty /\ PySem.W.kitOne K ty (cval c')=some b /\ R b:=inst_of rfl (.int i) k q
end
section
variable {P:Program} {w:World} {K:W.Frag} {mg:Str->Option Value} {base:Heap}
end
section
variable {X:Cx} {CX:CXT} {k:Nat} {ps:List Str} {sp:Sp} {dvs:List V} {E:XK} {x m:Str} {C:Addr} {p pos apos:Pos} {e o:Expr} {es:List Expr} {ta:TE} {t:TA}
end
section
variable {X:Cx}
theorem all_range {bs:List Bool}:(List.range bs.length).all (fun i=>bs.getD i true)=bs.all id:=by
 induction bs with
 | nil=>rfl
 | cons b r ih=>
  rw [yAR,List.range_succ_eq_map,yBG,List.all_map,yBG]
  show (b && (List.range r.length).all fun i=>r.getD i true)=_
  rw [ih]
  rfl
theorem call_all (hc:X.calm=true):ZCI X (.builtin "all") (fun xs H Q=>∃ (p:Addr) (bs:List Bool),xs=[.ref p] /\ SqL X.K H p (bs.map V.bl) /\ Q (.bl (bs.all id)) H):=by
 intro pins s σ H xs us Q I r h
 obtain ⟨p,bs,rfl,hq,q⟩:=h
 obtain ⟨u,rfl,rx⟩:=ZCA r
 cases rx
 obtain ⟨its,r',pl,hz⟩:=I.list hq
 have hlen:=r'.length
 rw [yAB] at hlen
 have hh:X.A.handled=none:=I.ok.hd hc
 have hl:=pl.isList
 have hlt:p < s.heap.objs.size:=by obtain ⟨_,e,_⟩:=hl;exact Heap.lt_size e
 refine call_all_walk (wpAny_pyIter_list hl ⟨s.heap.objs.size,_,_,_,_,_,fun i=>bs.getD i true,rfl,Walks.list (A:=X.A.in1) hh s.heap.objs.size p (yAF hlt) its.toArray,⟨⟨_,Heap.get?_push_size _ rfl,rfl,rfl⟩,hl.push _⟩,?_,fun h' tk hk=>?_⟩)
 .intro i v s' Q' E' hP hQ
  have hP':its[i]?=some v:=by simpa using hP
  have hi:i < its.length:=(yAN.mp hP').1
  obtain ⟨b,hb⟩:∃ b,bs[i]?=some b:=⟨_,yAU (by omega)⟩
  obtain ⟨u,hu,ru⟩:=r'.get (i:=i) (x:=.bl b) (by rw [yAY,hb];rfl)
  rw [hP'] at hu
  cases hu
  cases ru
  have hQ':Q' b s':=by
   have e:bs.getD i true=b:=by rw [List.getD_eq_getElem?_getD,hb];rfl
   rw [<- e];exact hQ
  exact wpAny_truthy_bool hQ'
 .refine ⟨.bl (bs.all id),H,I.kept (t':=tk) (fun b o e=>hk b o ?_ (Heap.get?_push_of_some _ e)),?_,q⟩
  .intro z
   have:b=s.heap.objs.size:=by simpa using z
   exact absurd (Heap.lt_size e) (by rw [this];exact yAW _)
  .have:its.toArray.size=bs.length:=by simp [hlen]
   rw [this,all_range]
   rfl
end
theorem Same.get {H H':Hp} {b:Addr} {o:HO} (s:Same H H') (h:H b=some o):H' b=some o:=s b o h
theorem newH {H:Hp} {p:Addr} (h:H p=none) (o:HO):∃ H',upd H p o=H' /\ Same H H' /\ H' p=some o:=⟨_,rfl,ZAi h o,ZAI⟩
section
variable {K:W.Frag} {a:Addr} {xs:List V} {te:TE} {Q:VK} {σ0 rest:St} {H:Hp}
end
section
variable {X:Cx} {pins:List (Addr×Obj)} {σ:St} {H:Hp} {s:Shared}
end
noncomputable def Ite (K:W.Frag) (a:Addr):It :=
 ⟨fun i H=>∃ xs x,SqL K H a xs /\ xs[i]?=some x,fun i H v H'=>∃ p x,H p=none /\ (∀ xs,SqL K H a xs->xs[i]?=some x) /\ H'=upd H p (.tup [.int i,x]) /\ v=.ref p,fun i H=>∃ xs,SqL K H a xs /\ xs.length <= i⟩
section
variable {X:Cx}
noncomputable def iEnum (K:W.Frag) (ta:TA):TI:=fun σ H R=>ta σ H fun vs H1=>∃ a,vs=[.ref a] /\ (∃ xs,SqL K H1 a xs) /\ R (Ite K a) H1
end
section
variable {K:W.Frag} {a:Addr} {xs:List V} {g:TG} {tb:TS} {D:Ends} {σ:St} {H:Hp}
noncomputable def forE (K:W.Frag) (g:TG) (tb:TS) (D:Ends) (σ:St) (x:V) (H1:Hp):Prop:=∃ a,[x]=[.ref a] /\ (∃ xs,SqL K H1 a xs) /\ ∃ W:Nat->Nat->St->Hp->Prop,(∃ m,W 0 m σ H1) /\ ∀ i m σ H,W i m σ H ->
 ((Ite K a).stop i H /\ D.nx σ H)∨((Ite K a).go i H /\ ∃ N:St->Hp->Prop,(∀ σ' H',N σ' H'->∃ m',m' < m /\ W (i+1) m' σ' H') /\ ∀ x H',(Ite K a).yld i H x H'->g x σ H' fun σ2 H2=>tb { D with nx:=N,ct:=N,bk:=D.nx } σ2 H2)
theorem tForE_eq {t:TE}:tFor (iEnum K (ZBC t tNil)) g tb D σ H=t σ H (fun x H1=>forE K g tb D σ x H1):=rfl
variable {tt:TT} {te:TE} {Q:VK} {σ0:St}
noncomputable def compE (K:W.Frag) (g:TG) (tt:TT) (te:TE) (σ0:St) (Q:VK) (x:V) (H1:Hp):Prop:=∃ a,[x]=[.ref a] /\ (∃ xs,SqL K H1 a xs) /\ ∃ W:Nat->Nat->List V->St->Hp->Prop,(∃ m,W 0 m [] σ0 H1) /\ ∀ i m ys σ H,W i m ys σ H ->
 ((Ite K a).stop i H /\ ys.length <= sizeLine /\ ∀ p,H p=none->Q (.ref p) (upd H p (.lst ys))) ∨
 ((Ite K a).go i H /\ ys.length < sizeLine /\ ∀ x H',(Ite K a).yld i H x H'->g x σ H' fun σ2 H2=>tt σ2 H2 fun b H3=>if b=true then te σ2 H3 fun y H4=>∃ m',m' < m /\ W (i+1) m' (ys++[y]) σ2 H4 else ∃ m',m' < m /\ W (i+1) m' ys σ2 H3)
theorem tCompE_eq {k:Nat} {js:List Nat} {t:TE}:ZCM k js (iEnum K (ZBC t tNil)) g tt te σ H Q=t σ H (fun x H1=>compE K g tt te (up k js σ) Q x H1):=rfl
end
noncomputable abbrev FZ (o:Obj):HO:=.frz o (.ext fun _=>True)
open Classical in
noncomputable def hid (cl:List (Str×Addr)) (H:Hp):Hp:=fun b=>if ∃ x,cl.lookup x=some b then none else H b
open Classical in
noncomputable def back (cl:List (Str×Addr)) (H H1:Hp):Hp:=fun b=>if ∃ x,cl.lookup x=some b then H b else H1 b
noncomputable def startC (N:List Str) (vs cs:List V):St:=vs.map some++(List.replicate (N.length-vs.length-cs.length) none++cs.map some)
noncomputable def cxClo (P:Program) (w:World) (K:W.Frag) (mg:Str->Option Value) (base:Heap) (N:List Str) (qual:Str) (scope:Scope) (f:Addr) (cd:Value) (cl:List (Str×Addr)) (A:Around) (outer:List Env) (s:Shared) (H:Hp):Cx where
 prog:=P
 w:=w
 K:=K
 mg:=mg
 base:=base
 A:=A.deeper (PySem.W.envX qual scope s.heap.objs.size f cd cl)
 N:=N
 s₀:=s
 H₀:=H
 env:=PySem.W.envX qual scope s.heap.objs.size f cd cl
 outer:=outer
 stack:=PySem.W.envX qual scope s.heap.objs.size f cd cl::outer
 ex:=[]
 calm:=true
 fn:=fun _=>false
 pn:=[]
 xe:=fun _ _=>False
section
variable {P:Program} {w:World} {K:W.Frag} {mg:Str->Option Value} {base:Heap} {A:Around} {outer:List Env} {s:Shared} {H:Hp} {g:Addr} {iname iq:Str} {ip:Arguments} {ib:List Stmt} {isc:Scope} {N ps fr:List Str} {cs vs:List V} {us:List Value} {cl:List (Str×Addr)} {k:Nat}
end
noncomputable def tCallV (r:V->List V->Hp->VK->Prop) (ta:TE) (t:TA):TE:=fun σ H Q=>ta σ H fun f H1=>(∃ g o,f=.ref g /\ H1 g=some (FZ o) /\ ∃ fd,o.data=.func fd) /\ t σ H1 fun vs H2=>r f vs H2 Q
section
variable {X:Cx} {pins:List (Addr×Obj)} {σ:St} {H:Hp} {s:Shared}
end
theorem cx_cloK {P:Program} {w:World} {K:W.Frag} {mg:Str->Option Value} {base:Heap} {N:List Str} {qual:Str} {scope:Scope} {f:Addr} {cd:Value} {cl:List (Str×Addr)} {A:Around} {outer:List Env} {s:Shared} {H:Hp}:(cxClo P w K mg base N qual scope f cd cl A outer s H).K=K:=rfl
section
variable {prog:Program} {w:World} {A:Around} {R:Result->Shared->Prop} {I:Addr} {fp wr:List Addr} {n:Nat} {P:Nat->Value->Prop} {St:Nat->Heap->Prop}
theorem maxd_loop {kw:List (Str×Value)} (W:Walks prog w A.in1 I fp wr n P St) (bt:Nat->Nat->Bool) (hcmp:CmpOf prog w A.in1 .Gt P bt) (S:Addr) (hSf:S∉fp) :
  ∀ (k j:Nat) (s:Shared) (vb:Value) (c:Nat),n-(j+1)=k->j+1 <= n->St (j+1) s.heap->P (argBest bt j) vb ->
  s.heap.get? S=some { cls:=.type "list",dict:=none,data:=.seq #[vb,vb] c,slots:=#[] } ->
  (∀ v h' tk,P (argBest bt (n-1)) v->(∀ b o,b∉wr->b≠S->s.heap.get? b=some o->h'.get? b=some o)->R (.ok (.ret v)) { s with heap:=h',toks:=tk }) ->
  codeAny (model prog w) A (.builtin "max.loop" ⟨[.ref I,.none,.ref S],kw⟩) R s:=by
 have hSw:S∉wr:=fun h=>hSf (W.sub _ h)
 have hname:(toString "max"++toString ".loop":String)="max.loop":=by decide
 intro k
 induction k with
 | zero=>
  intro j s vb c hk hj hst hPb hS hR
  have hin:j+1=n:=by omega
  refine codeAny_builtin F.entry_max_loop ?_
  rw [Around.under_plainId F.plain_max_loop _]
  show wpAny _ A.in1 (seqItems? (.ref S) >>= _) _ _ s
  refine wpAny_bind (wpAny_seqItems hS rfl ?_)
  show wpAny _ A.in1 (tryCatch (pyNext (.ref I)) _ >>= _) _ _ s
  refine wpAny_bind (wpAny_tryCatch (W.done s _ _ (hin ▸ hst) fun h' tk hk'=>?_))
  have hS':=hk' S _ hSw hS
  show wpAny _ A.in1 (updateSeq S (fun _=>#[]) >>= _) _ _ _
  refine wpAny_bind ?_
  refine wpAny_updateSeq hS' rfl (wpAny_bind (wpAny_letGo (wpAny_pure ?_)))
  refine hR vb _ tk (by rw [<- hin];exact hPb) fun b o hbw hbS e=>(Heap.get?_update_other _ _ (Ne.symm hbS)).trans (hk' b o hbw e)
 | succ k ih=>
  intro j s vb c hk hj hst hPb hS hR
  have hlt:j+1 < n:=by omega
  refine codeAny_builtin F.entry_max_loop ?_
  rw [Around.under_plainId F.plain_max_loop _]
  show wpAny _ A.in1 (seqItems? (.ref S) >>= _) _ _ s
  refine wpAny_bind (wpAny_seqItems hS rfl ?_)
  show wpAny _ A.in1 (tryCatch (pyNext (.ref I)) _ >>= _) _ _ s
  refine wpAny_bind (wpAny_tryCatch (W.item (j+1) s _ _ hlt hst fun v h' tk hP hst' hk'=>?_))
  have hS':=hk' S _ hSw hS
  show wpAny _ A.in1 (tryCatch (holding [v,v] (richCompare .Gt v vb >>= _)) _ >>= _) _ _ _
  refine wpAny_bind (wpAny_tryCatch (wpAny_holding (wpAny_bind (hcmp (j+1) (argBest bt j) v vb _ _ _ hP hPb ?_))))
  refine wpAny_bind (wpAny_holding (wpAny_truthy_bool ?_))
  refine wpAny_bind (wpAny_letGo (wpAny_pure ?_))
  cases hb:bt (j+1) (argBest bt j) with
  | true=>
   simp only [if_true]
   refine wpAny_bind ?_
   refine wpAny_updateSeq hS' rfl (wpAny_bind (wpAny_letGo ?_))
   rw [hname]
   refine wpAny_pure ⟨plainId_quiet F.plain_max_loop _,ih (j+1) _ v _ (by omega) hlt (W.frame _ _ _ hst' fun b hbf o e=>?_) (by simp only [argBest,hb,if_true];exact hP) (Heap.get?_update_self _ hS' rfl)
    fun v' h'' tk'' hP' hk''=>?_⟩
   .exact (Heap.get?_update_other _ _ (fun h:S=b=>hSf (by rw [h];exact hbf))).trans e
   .exact hR v' h'' tk'' hP' fun b o hbw hbS e=>hk'' b o hbw hbS ((Heap.get?_update_other _ _ (Ne.symm hbS)).trans (hk' b o hbw e))
  | false=>
   simp only [yBO,if_false]
   refine wpAny_bind (wpAny_letGo ?_)
   rw [hname]
   refine wpAny_pure ⟨plainId_quiet F.plain_max_loop _,ih (j+1) _ vb c (by omega) hlt hst' (by simp only [argBest,hb,yBO,if_false];exact hPb) hS' fun v' h'' tk'' hP' hk''=>?_⟩
   exact hR v' h'' tk'' hP' fun b o hbw hbS e=>hk'' b o hbw hbS (hk' b o hbw e)
theorem maxd_first {kw:List (Str×Value)} (W:Walks prog w A.in1 I fp wr n P St) (bt:Nat->Nat->Bool) (hcmp:CmpOf prog w A.in1 .Gt P bt) (S:Addr) (hSf:S∉fp) (hn:0 < n) {s:Shared} {c:Nat} (hst:St 0 s.heap)
  (hS:s.heap.get? S=some { cls:=.type "list",dict:=none,data:=.seq #[] c,slots:=#[] })
  (hR:∀ v h' tk,P (argBest bt (n-1)) v->(∀ b o,b∉wr->b≠S->s.heap.get? b=some o->h'.get? b=some o)->R (.ok (.ret v)) { s with heap:=h',toks:=tk }) :
  codeAny (model prog w) A (.builtin "max.loop" ⟨[.ref I,.none,.ref S],kw⟩) R s:=by
 have hSw:S∉wr:=fun h=>hSf (W.sub _ h)
 have hname:(toString "max"++toString ".loop":String)="max.loop":=by decide
 refine codeAny_builtin F.entry_max_loop ?_
 rw [Around.under_plainId F.plain_max_loop _]
 show wpAny _ A.in1 (seqItems? (.ref S) >>= _) _ _ s
 refine wpAny_bind (wpAny_seqItems hS rfl ?_)
 show wpAny _ A.in1 (tryCatch (pyNext (.ref I)) _ >>= _) _ _ s
 refine wpAny_bind (wpAny_tryCatch (W.item 0 s _ _ hn hst fun v h' tk hP hst' hk'=>?_))
 have hS':=hk' S _ hSw hS
 show wpAny _ A.in1 (updateSeq S (fun _=>#[v,v]) >>= _) _ _ _
 refine wpAny_bind ?_
 refine wpAny_updateSeq hS' rfl ?_
 rw [hname]
 refine wpAny_pure ⟨plainId_quiet F.plain_max_loop _,maxd_loop W bt hcmp S hSf _ 0 _ v _ rfl hn (W.frame _ _ _ hst' fun b hbf o e=>?_) hP (Heap.get?_update_self _ hS' rfl) fun v' h'' tk'' hP' hk''=>?_⟩
 .exact (Heap.get?_update_other _ _ (fun h:S=b=>hSf (by rw [h];exact hbf))).trans e
 .exact hR v' h'' tk'' hP' fun b o hbw hbS e=>hk'' b o hbw hbS ((Heap.get?_update_other _ _ (Ne.symm hbS)).trans (hk' b o hbw e))
theorem maxd_none {d:Value} (W:Walks prog w A.in1 I fp wr 0 P St) (S:Addr) (hSf:S∉fp) {s:Shared} {c:Nat} (hst:St 0 s.heap)
  (hS:s.heap.get? S=some { cls:=.type "list",dict:=none,data:=.seq #[] c,slots:=#[] })
  (hR:∀ h' tk,(∀ b o,b∉wr->b≠S->s.heap.get? b=some o->h'.get? b=some o)->R (.ok (.ret d)) { s with heap:=h',toks:=tk }) :
  codeAny (model prog w) A (.builtin "max.loop" ⟨[.ref I,.none,.ref S],[("default",d)]⟩) R s:=by
 have hSw:S∉wr:=fun h=>hSf (W.sub _ h)
 refine codeAny_builtin F.entry_max_loop ?_
 rw [Around.under_plainId F.plain_max_loop _]
 show wpAny _ A.in1 (seqItems? (.ref S) >>= _) _ _ s
 refine wpAny_bind (wpAny_seqItems hS rfl ?_)
 show wpAny _ A.in1 (tryCatch (pyNext (.ref I)) _ >>= _) _ _ s
 refine wpAny_bind (wpAny_tryCatch (W.done s _ _ hst fun h' tk hk'=>?_))
 exact wpAny_bind (wpAny_rule (wpAny_pure (hR h' tk fun b o hbw _ e=>hk' b o hbw e)))
end
theorem args_maxd (a v:Value):argsOk "max" ⟨[a],[(Str.ofString "default",v)]⟩:=by unfold argsOk;kernel_rfl
section
variable {prog:Program} {w:World} {A:Around} {E:Value->Shared->Prop} {s:Shared} {l:Addr}
theorem maxd_ints {d:Value} {its:List Value} {ns:List Int} {Q:Value->Shared->Prop} (hh:A.handled=none) (hl:s.heap.IsList l its.toArray) (hi:IntsAre its ns)
  (h0:ns=[]->∀ h' tk,(∀ b o,s.heap.get? b=some o->h'.get? b=some o)->Q d { s with heap:=h',toks:=tk })
  (h1:∀ M t h' tk,M∈ns->(∀ a∈ns,a <= M)->(∀ b o,s.heap.get? b=some o->h'.get? b=some o)->Q (.int M t) { s with heap:=h',toks:=tk }) :
  wpAny (model prog w) A (call (.builtin "max") [.ref l] [("default",d)]) Q E s:=by
 have hname:(toString "max"++toString ".loop":String)="max.loop":=by decide
 obtain ⟨xs,e⟩:=hi.allInts.items
 have hns:ns=xs.toList.map (·.1):=by
  rw [<- hi.numsOf,<- nums_intItems,<- e]
 rw [e] at hl
 refine PyProof.Rows.kmb_tree F.kind_max F.plain_max F.entry_max (args_maxd _ _) ?_
 show wpAny _ A.in1 (Builtin.Builtins.bindParams "max" ["key","default"] 0 ⟨[],[("default",d)]⟩ >>= _) _ _ s
 refine wpAny_bind (wpAny_of_eq (show Builtin.Builtins.bindParams "max" ["key","default"] 0 ⟨[],[("default",d)]⟩=pure [none,some d] from rfl) ?_)
 refine wpAny_bind (wpAny_pure ?_)
 refine wpAny_bind (iter_intList hl fun s₂ e st hfp hlI=>?_)
 subst e
 refine wpAny_bind (wpAny_newObj_type ?_)
 rw [hname]
 have W:=Walks.list (prog:=prog) (w:=w) (A:=A.in1) hh _ l hlI (intItems xs)
 have hSf:∀ {z:Nat} {f:List Addr},(∀ b∈f,b < z)->z∉f:=fun h hm=>yAW _ (h _ hm)
 by_cases hz:xs.size=0
 .have hz':(intItems xs).size=0:=by simpa [intItems] using hz
  rw [hz'] at W
  refine wpAny_pure ⟨plainId_quiet F.plain_max_loop _,maxd_none W _ (hSf hfp) (W.frame _ _ _ st fun b _ o e=>Heap.get?_push_of_some _ e) (Heap.get?_push_size _ rfl) fun h' tk hk=>?_⟩
  refine h0 (by rw [hns,List.map_eq_nil_iff,<- Array.toList_empty];exact congrArg Array.toList (Array.eq_empty_of_size_eq_zero hz)) h' tk ?_
  exact old_kept fun b o hbw e=>hk b o hbw (yAF (Heap.lt_size e)) (Heap.get?_push_of_some _ e)
 .refine wpAny_pure ⟨plainId_quiet F.plain_max_loop _,maxd_first W _ (CmpOf.ints_gt (numAt xs) (fun _ _=>intItems_at)) _ (hSf hfp) (by simp [intItems];omega) (W.frame _ _ _ st fun b _ o e=>Heap.get?_push_of_some _ e) (Heap.get?_push_size _ rfl) fun v h' tk hP hk=>?_⟩
  have hP':(intItems xs)[argBest (fun i j=>decide (numAt xs i > numAt xs j)) (xs.size-1)]?=some v:=by simpa [intItems] using hP
  obtain ⟨t,rfl⟩:=intItems_at hP'
  obtain ⟨g1,g2⟩:=argBest_gt (numAt xs) (xs.size-1)
  refine h1 _ t h' tk ?_ (fun a ha=>?_) (old_kept fun b o hbw e=>hk b o hbw (yAF (Heap.lt_size e)) (Heap.get?_push_of_some _ e))
  .rw [hns,numAt_eq];exact getD_mem (by rw [yAB,Array.length_toList];omega)
  .rw [hns] at ha
   obtain ⟨j,hj,rfl⟩:=mem_getD ha
   rw [yAB,Array.length_toList] at hj
   rw [<- numAt_eq];exact g2 j (by omega)
end
noncomputable def maxD (d:Int):List Int->Int
 | []=>d
 | x::r=>r.foldl (fun m y=>if m < y then y else m) x
theorem ZCa:∀ (r:List Int) (x:Int),(r.foldl (fun m y=>if m < y then y else m) x=x∨r.foldl (fun m y=>if m < y then y else m) x∈r) /\ x <= r.foldl (fun m y=>if m < y then y else m) x /\ ∀ y∈r,y <= r.foldl (fun m y=>if m < y then y else m) x
 | [],x=>⟨.inl rfl,Int.le_refl _,fun _ h=>(nomatch h)⟩
 | y::r,x=>by
  rw [yBI]
  by_cases hxy:x < y
  .rw [if_pos hxy]
   obtain ⟨a,b,c⟩:=ZCa r y
   refine ⟨?_,by omega,fun z hz=>?_⟩
   .rcases a with a | a
    .rw [a]
     exact .inr yAE
    .exact .inr (yAI _ a)
   .rcases yAC.mp hz with e | hz
    .subst e
     exact b
    .exact c z hz
  .rw [if_neg hxy]
   obtain ⟨a,b,c⟩:=ZCa r x
   refine ⟨?_,b,fun z hz=>?_⟩
   .rcases a with a | a
    .exact .inl a
    .exact .inr (yAI _ a)
   .rcases yAC.mp hz with e | hz
    .subst e
     omega
    .exact c z hz
theorem maxD_eq {d:Int} {ns:List Int} {M:Int} (h1:M∈ns) (h2:∀ a∈ns,a <= M):maxD d ns=M:=by
 cases ns with
 | nil=>cases h1
 | cons x r=>
  obtain ⟨a,b,c⟩:=ZCa r x
  show r.foldl (fun m y=>if m < y then y else m) x=M
  have h3:=h2 _ yAE
  have h4:r.foldl (fun m y=>if m < y then y else m) x <= M:=by
   rcases a with a | a
   .rw [a];exact h3
   .exact h2 _ (yAI _ a)
  rcases yAC.mp h1 with e | e
  .omega
  .have:=c M e
   omega
section
variable {X:Cx} {e d:Expr} {te td:TE} {p pos:Pos} {kpos:Pos}
noncomputable def ZDq (K:W.Frag) (te td:TE):TE:=fun σ H Q=>te σ H fun x H1=>td σ H1 fun y H2=>∃ a ns dd,x=.ref a /\ y=.int dd /\ SqL K H2 a (ns.map V.int) /\ Q (.int (maxD dd ns)) H2
theorem ZDA (hc:X.calm=true) (he:PE X e te) (hd:PE X d td) (hg:Gl X "max") (hm:X.mg "max"=none)
  (h1:starEach [e] X.env=(false,eval e X.env)::starEach [] X.env:=by rfl) (h2:backTo pos (starEach [e] X.env)=(false,eval e X.env)::backTo pos (starEach [] X.env):=by rfl)
  (h3:(backTo pos (starEach [e] X.env)).any (·.1)=false:=by rfl) (h4:(backToKw pos (keywordEach [⟨some "default",d,kpos⟩] X.env)).all (·.1.isSome)=true:=by rfl)
  (h5:(backToKw pos (keywordEach [⟨some "default",d,kpos⟩] X.env)).any (·.1.isNone)=false:=by rfl) :
  PE X (.Call (.Name "max" p) [e] [⟨some "default",d,kpos⟩] pos) (ZDq X.K te td):=by
 intro pins s σ H Q I h
 refine wpAny_Call_Name_kw (ZC1 I hg hm PyProof.Rows.boot_max ?_ (by decide) (by decide))
 refine PyProof.Rows.callWith_kw ?_ h2 h3 h4 h5
 rw [h1]
 show wpAny _ _ (spliced ((false,eval e X.env)::backTo pos (starEach [] X.env))) _ _ s
 refine Calls.spliced_cons (thn (he pins s σ H _ I h) fun u s1 zz=>?_)
 obtain ⟨x,H1,I1,r1,q1⟩:=zz
 refine Calls.spliced_nil ?_
 have q1':ZBC td tNil σ H1 (fun zs H2=>match zs with | [y]=>∃ a ns dd,x=.ref a /\ y=.int dd /\ SqL X.K H2 a (ns.map V.int) /\ Q (.int (maxD dd ns)) H2 | _=>False):=q1
 refine thn (pk_cons (nm:=some "default") (kpos:=kpos) hd (pk_nil (X:=X)) pos pins s1 σ H1 _ I1 q1') fun kvs s2 zz=>?_
 obtain ⟨zs,H2,I2,r2,q2⟩:=zz
 match zs,r2,q2 with
 | [y],.cons ry .nil,⟨a,ns,dd,ex,ey,hS,q⟩=>
  subst ex ey
  cases r1
  obtain ⟨t,rfl⟩:=ry
  obtain ⟨its,rv,pl,_⟩:=I2.list hS
  obtain ⟨o,n,e1,e2,_,e3⟩:=pl
  have hi:=intsAre_of rv
  refine maxd_ints (I2.ok.hd hc) ⟨o,e1,e2,n,e3⟩ hi (fun hn h' tk k=>?_) (fun M t' h' tk m1 m2 k=>?_)
  .subst hn
   exact ⟨.int dd,H2,I2.kept k,⟨_,rfl⟩,q⟩
  .refine ⟨.int M,H2,I2.kept k,⟨_,rfl⟩,?_⟩
   rw [<- maxD_eq (d:=dd) m1 m2]
   exact q
end
theorem lkc {k k':Str} {v:V} {r:List (Str×V)}:List.lookup k ((k',v)::r)=if k=k' then some v else List.lookup k r:=by
 rw [yBH]
 by_cases h:k=k'
 .subst h;simp
 .have:(k == k')=false:=by simpa using h
  rw [this,if_neg h]
structure Ins (H:Hp) (a C:Addr) (fl:List (Str×V)):Prop where
 ex:∃ dx fs,H a=some (.ins C dx fs) /\ fs.length <= 50 /\ ∀ f,fs.lookup f=fl.lookup f
theorem Ins.of {H:Hp} {a C dx:Addr} {fl:List (Str×V)} (h:H a=some (.ins C dx fl)) (hl:fl.length <= 50):Ins H a C fl:=⟨dx,fl,h,hl,fun _=>rfl⟩
theorem Ins.congr {H:Hp} {a C:Addr} {fl fl':List (Str×V)} (h:Ins H a C fl) (e:∀ f,fl.lookup f=fl'.lookup f):Ins H a C fl':=let ⟨dx,fs,h1,h2,h3⟩:=h.ex;⟨dx,fs,h1,h2,fun f=>(h3 f).trans (e f)⟩
theorem Ins.mono {H H':Hp} {a C:Addr} {fl:List (Str×V)} (h:Ins H a C fl) (s:Same H H'):Ins H' a C fl:=let ⟨dx,fs,h1,h2,h3⟩:=h.ex;⟨dx,fs,s _ _ h1,h2,h3⟩
section
variable {K:W.Frag} {f:Str} {a C:Addr} {fl:List (Str×V)} {v:V} {H:Hp}
theorem Ins.get {Q:VK} (h:Ins H a C fl) (cl:Cls K C) (n:NoAttr K C f) (l:fl.lookup f=some v) (q:Q v H):getF K f (.ref a) H Q:=by
 obtain ⟨dx,fs,h1,h2,h3⟩:=h.ex
 exact getF_of h1 cl n ((h3 f).trans l) q
theorem Ins.meth {m:Str} {R:Prop} (h:Ins H a C fl) (l:fl.lookup m=none) (q:R):∃ b dx fs,V.ref a=.ref b /\ H b=some (.ins C dx fs) /\ fs.lookup m=none /\ R:=by
 obtain ⟨dx,fs,h1,h2,h3⟩:=h.ex
 exact ⟨a,dx,fs,rfl,h1,(h3 m).trans l,q⟩
end
noncomputable def augA (K:W.Frag) (tv:TE) (rd:V->V->Hp->VK->Prop) (f:Str) (D:Ends) (σ:St) (x:V) (H1:Hp):Prop:=∃ a C dx fs v,x=.ref a /\ H1 a=some (.ins C dx fs) /\ Cls K C /\ NoAttr K C f /\ fs.lookup f=some v /\
 tv σ H1 fun y H2=>rd v y H2 fun z H3=>∃ dx' fs',H3 a=some (.ins C dx' fs') /\ fs'.length < 1000 /\ D.nx σ (upd H3 a (.ins C dx' (putF f z fs')))
theorem sFldAug_eq {K:W.Frag} {ta tv:TE} {rd:V->V->Hp->VK->Prop} {f:Str} {D:Ends} {σ:St} {H:Hp}:sFldAug K ta tv rd f D σ H=ta σ H (fun x H1=>augA K tv rd f D σ x H1):=rfl
theorem setX {K:W.Frag} {f:Str} {a C dx:Addr} {fs:List (Str×V)} {v:V} {H:Hp} {Q:Hp->Prop} (h:H a=some (.ins C dx fs)) (cl:Cls K C) (n:NoAttr K C f) (hl:fs.length <= 20) (q:∀ H',H' a=some (.ins C dx (putF f v fs))->(∀ b,b≠a->H' b=H b)->Q H'):setF K f (.ref a) v H Q :=
 setF_of h cl n (by omega) (q _ ZAI fun b hb=>ZAS hb)
theorem ZCn {f:Str} {v:V} {fs:List (Str×V)} {n:Nat} (h:fs.length <= n):(putF f v fs).length <= n+1:=yAD (ZB5 f v fs) (Nat.succ_le_succ h)
theorem ZDi {f0:Str} {v0:V}:(putF f0 v0 []).length <= 20:=yAD (ZCn (yAA 0)) (by decide)
theorem putL2 {f0 f1:Str} {v0 v1:V}:(putF f1 v1 (putF f0 v0 [])).length <= 20:=yAD (ZCn (ZCn (yAA 0))) (by decide)
section
variable {X:Cx}
end
end L2
namespace PySem
namespace F
end F
section
variable {prog:Program} {w:World} {A:Around} {s:Shared} {R:Result->Shared->Prop}
variable {I:Addr} {fp wr:List Addr} {G:Array GenState->Array GenState->Prop} {n:Nat} {P:Nat->Value->Prop} {St:Nat->Shared->Prop}
end
section
variable {prog:Program} {w:World} {A:Around} {E:Value->Shared->Prop} {s:Shared}
variable {I:Addr} {fp wr:List Addr} {G:Array GenState->Array GenState->Prop} {n:Nat} {P:Nat->Value->Prop} {St:Nat->Shared->Prop}
end
end PySem
namespace L2
open PySem PySem.Spec PyProof.Rows
noncomputable def tRevL (K:W.Frag) (t:TA):TE:=fun σ H Q=>t σ H fun vs H1=>∃ (l:Addr) (ys:List V),vs=[.ref l] /\ SqL K H1 l ys /\ ∀ r,H1 r=none->Q (.ref r) (upd H1 r (.lst ys.reverse))
section
variable {X:Cx} {e:Expr} {ta:TA} {p p2 pos pos2:Pos}
end
noncomputable def compR2 (g:TG) (tt:TT) (te:TE) (σ0:St) (Q:VK) (x y:V) (H1:Hp):Prop:=∃ i j:Int,[x,y]=[.int i,.int j] /\ (-(2 ^ 62) <= i /\ i < 2 ^ 62 /\ -(2 ^ 62) <= j /\ j < 2 ^ 62) /\ compR i g tt te σ0 Q (j-i).toNat H1
theorem tCompR2_eq {k:Nat} {js:List Nat} {t u:TE} {g:TG} {tt:TT} {te:TE} {σ:St} {H:Hp} {Q:VK}:ZCM k js (iRng2 (ZBC t (ZBC u tNil))) g tt te σ H Q=t σ H (fun x H1=>u σ H1 fun y H2=>compR2 g tt te (up k js σ) Q x y H2):=rfl
section
variable {X:Cx}
end
noncomputable def Itz (K:W.Frag) (a b:Addr):It :=
 ⟨fun i H=>∃ xs x ys y,SqL K H a xs /\ xs[i]?=some x /\ SqL K H b ys /\ ys[i]?=some y,fun i H v H'=>∃ p x y,H p=none /\ (∀ xs,SqL K H a xs->xs[i]?=some x) /\ (∀ ys,SqL K H b ys->ys[i]?=some y) /\ H'=upd H p (.tup [x,y]) /\ v=.ref p,fun i H=>∃ xs ys,SqL K H a xs /\ SqL K H b ys /\ (xs.length <= i∨ys.length <= i)⟩
section
variable {X:Cx}
noncomputable def iZip (K:W.Frag) (ta:TA):TI:=fun σ H R=>ta σ H fun vs H1=>∃ a b,vs=[.ref a,.ref b] /\ (∃ xs,SqL K H1 a xs) /\ (∃ xs,SqL K H1 b xs) /\ R (Itz K a b) H1
end
section
variable {K:W.Frag} {a b:Addr} {xs ys:List V} {g:TG} {tb:TS} {D:Ends} {σ:St} {H:Hp}
noncomputable def forZ (K:W.Frag) (g:TG) (tb:TS) (D:Ends) (σ:St) (x y:V) (H1:Hp):Prop:=∃ a b,[x,y]=[.ref a,.ref b] /\ (∃ xs,SqL K H1 a xs) /\ (∃ xs,SqL K H1 b xs) /\ ∃ W:Nat->Nat->St->Hp->Prop,(∃ m,W 0 m σ H1) /\ ∀ i m σ H,W i m σ H ->
 ((Itz K a b).stop i H /\ D.nx σ H)∨((Itz K a b).go i H /\ ∃ N:St->Hp->Prop,(∀ σ' H',N σ' H'->∃ m',m' < m /\ W (i+1) m' σ' H') /\ ∀ x H',(Itz K a b).yld i H x H'->g x σ H' fun σ2 H2=>tb { D with nx:=N,ct:=N,bk:=D.nx } σ2 H2)
theorem tForZ_eq {t u:TE}:tFor (iZip K (ZBC t (ZBC u tNil))) g tb D σ H=t σ H (fun x H1=>u σ H1 fun y H2=>forZ K g tb D σ x y H2):=rfl
end
section
open PySem.SeqAt
open PySem.AutoSeq1 (wpAny_loadPart')
open PySem.MeetsSeq PySem.MeetsSeq2 PySem.MeetsSeq3 HT
end
section
variable {prog:Program} {w:World} {A:Around} {E:Value->Shared->Prop} {s:Shared}
end
section
variable {X:Cx}
end
open PySem
theorem tVar_1 {v:V} {a0:Option V} {σ:St} {H:Hp} {Q:VK}:tVar 1 (a0::some v::σ) H Q=Q v H:=by
 simp only [ZAf,ZAZ]
theorem tVar_2 {v:V} {a0 a1:Option V} {σ:St} {H:Hp} {Q:VK}:tVar 2 (a0::a1::some v::σ) H Q=Q v H:=by
 simp only [ZAf,ZAZ]
theorem tVar_3 {v:V} {a0 a1 a2:Option V} {σ:St} {H:Hp} {Q:VK}:tVar 3 (a0::a1::a2::some v::σ) H Q=Q v H:=by
 simp only [ZAf,ZAZ]
theorem tVar_4 {v:V} {a0 a1 a2 a3:Option V} {σ:St} {H:Hp} {Q:VK}:tVar 4 (a0::a1::a2::a3::some v::σ) H Q=Q v H:=by
 simp only [ZAf,ZAZ]
theorem tVar_5 {v:V} {a0 a1 a2 a3 a4:Option V} {σ:St} {H:Hp} {Q:VK}:tVar 5 (a0::a1::a2::a3::a4::some v::σ) H Q=Q v H:=by
 simp only [ZAf,ZAZ]
theorem tVar_6 {v:V} {a0 a1 a2 a3 a4 a5:Option V} {σ:St} {H:Hp} {Q:VK}:tVar 6 (a0::a1::a2::a3::a4::a5::some v::σ) H Q=Q v H:=by
 simp only [ZAf,ZAZ]
theorem tVar_7 {v:V} {a0 a1 a2 a3 a4 a5 a6:Option V} {σ:St} {H:Hp} {Q:VK}:tVar 7 (a0::a1::a2::a3::a4::a5::a6::some v::σ) H Q=Q v H:=by
 simp only [ZAf,ZAZ]
theorem tVar_8 {v:V} {a0 a1 a2 a3 a4 a5 a6 a7:Option V} {σ:St} {H:Hp} {Q:VK}:tVar 8 (a0::a1::a2::a3::a4::a5::a6::a7::some v::σ) H Q=Q v H:=by
 simp only [ZAf,ZAZ]
theorem tVar_9 {v:V} {a0 a1 a2 a3 a4 a5 a6 a7 a8:Option V} {σ:St} {H:Hp} {Q:VK}:tVar 9 (a0::a1::a2::a3::a4::a5::a6::a7::a8::some v::σ) H Q=Q v H:=by
 simp only [ZAf,ZAZ]
theorem tVar_10 {v:V} {a0 a1 a2 a3 a4 a5 a6 a7 a8 a9:Option V} {σ:St} {H:Hp} {Q:VK}:tVar 10 (a0::a1::a2::a3::a4::a5::a6::a7::a8::a9::some v::σ) H Q=Q v H:=by
 simp only [ZAf,ZAZ]
theorem tVar_11 {v:V} {a0 a1 a2 a3 a4 a5 a6 a7 a8 a9 a10:Option V} {σ:St} {H:Hp} {Q:VK}:tVar 11 (a0::a1::a2::a3::a4::a5::a6::a7::a8::a9::a10::some v::σ) H Q=Q v H:=by
 simp only [ZAf,ZAZ]
theorem tVar_12 {v:V} {a0 a1 a2 a3 a4 a5 a6 a7 a8 a9 a10 a11:Option V} {σ:St} {H:Hp} {Q:VK}:tVar 12 (a0::a1::a2::a3::a4::a5::a6::a7::a8::a9::a10::a11::some v::σ) H Q=Q v H:=by
 simp only [ZAf,ZAZ]
theorem tVar_13 {v:V} {a0 a1 a2 a3 a4 a5 a6 a7 a8 a9 a10 a11 a12:Option V} {σ:St} {H:Hp} {Q:VK}:tVar 13 (a0::a1::a2::a3::a4::a5::a6::a7::a8::a9::a10::a11::a12::some v::σ) H Q=Q v H:=by
 simp only [ZAf,ZAZ]
theorem tVar_14 {v:V} {a0 a1 a2 a3 a4 a5 a6 a7 a8 a9 a10 a11 a12 a13:Option V} {σ:St} {H:Hp} {Q:VK}:tVar 14 (a0::a1::a2::a3::a4::a5::a6::a7::a8::a9::a10::a11::a12::a13::some v::σ) H Q=Q v H:=by
 simp only [ZAf,ZAZ]
theorem tVar_15 {v:V} {a0 a1 a2 a3 a4 a5 a6 a7 a8 a9 a10 a11 a12 a13 a14:Option V} {σ:St} {H:Hp} {Q:VK}:tVar 15 (a0::a1::a2::a3::a4::a5::a6::a7::a8::a9::a10::a11::a12::a13::a14::some v::σ) H Q=Q v H:=by
 simp only [ZAf,ZAZ]
theorem tVar_16 {v:V} {a0 a1 a2 a3 a4 a5 a6 a7 a8 a9 a10 a11 a12 a13 a14 a15:Option V} {σ:St} {H:Hp} {Q:VK}:tVar 16 (a0::a1::a2::a3::a4::a5::a6::a7::a8::a9::a10::a11::a12::a13::a14::a15::some v::σ) H Q=Q v H:=by
 simp only [ZAf,ZAZ]
theorem tVar_17 {v:V} {a0 a1 a2 a3 a4 a5 a6 a7 a8 a9 a10 a11 a12 a13 a14 a15 a16:Option V} {σ:St} {H:Hp} {Q:VK}:tVar 17 (a0::a1::a2::a3::a4::a5::a6::a7::a8::a9::a10::a11::a12::a13::a14::a15::a16::some v::σ) H Q=Q v H:=by
 simp only [ZAf,ZAZ]
theorem tVar_18 {v:V} {a0 a1 a2 a3 a4 a5 a6 a7 a8 a9 a10 a11 a12 a13 a14 a15 a16 a17:Option V} {σ:St} {H:Hp} {Q:VK}:tVar 18 (a0::a1::a2::a3::a4::a5::a6::a7::a8::a9::a10::a11::a12::a13::a14::a15::a16::a17::some v::σ) H Q=Q v H:=by
 simp only [ZAf,ZAZ]
theorem tVar_19 {v:V} {a0 a1 a2 a3 a4 a5 a6 a7 a8 a9 a10 a11 a12 a13 a14 a15 a16 a17 a18:Option V} {σ:St} {H:Hp} {Q:VK}:tVar 19 (a0::a1::a2::a3::a4::a5::a6::a7::a8::a9::a10::a11::a12::a13::a14::a15::a16::a17::a18::some v::σ) H Q=Q v H:=by
 simp only [ZAf,ZAZ]
theorem tVar_20 {v:V} {a0 a1 a2 a3 a4 a5 a6 a7 a8 a9 a10 a11 a12 a13 a14 a15 a16 a17 a18 a19:Option V} {σ:St} {H:Hp} {Q:VK}:tVar 20 (a0::a1::a2::a3::a4::a5::a6::a7::a8::a9::a10::a11::a12::a13::a14::a15::a16::a17::a18::a19::some v::σ) H Q=Q v H:=by
 simp only [ZAf,ZAZ]
theorem tVar_21 {v:V} {a0 a1 a2 a3 a4 a5 a6 a7 a8 a9 a10 a11 a12 a13 a14 a15 a16 a17 a18 a19 a20:Option V} {σ:St} {H:Hp} {Q:VK}:tVar 21 (a0::a1::a2::a3::a4::a5::a6::a7::a8::a9::a10::a11::a12::a13::a14::a15::a16::a17::a18::a19::a20::some v::σ) H Q=Q v H:=by
 simp only [ZAf,ZAZ]
theorem tVar_22 {v:V} {a0 a1 a2 a3 a4 a5 a6 a7 a8 a9 a10 a11 a12 a13 a14 a15 a16 a17 a18 a19 a20 a21:Option V} {σ:St} {H:Hp} {Q:VK}:tVar 22 (a0::a1::a2::a3::a4::a5::a6::a7::a8::a9::a10::a11::a12::a13::a14::a15::a16::a17::a18::a19::a20::a21::some v::σ) H Q=Q v H:=by
 simp only [ZAf,ZAZ]
theorem tVar_23 {v:V} {a0 a1 a2 a3 a4 a5 a6 a7 a8 a9 a10 a11 a12 a13 a14 a15 a16 a17 a18 a19 a20 a21 a22:Option V} {σ:St} {H:Hp} {Q:VK}:tVar 23 (a0::a1::a2::a3::a4::a5::a6::a7::a8::a9::a10::a11::a12::a13::a14::a15::a16::a17::a18::a19::a20::a21::a22::some v::σ) H Q=Q v H:=by
 simp only [ZAf,ZAZ]
theorem tVar_24 {v:V} {a0 a1 a2 a3 a4 a5 a6 a7 a8 a9 a10 a11 a12 a13 a14 a15 a16 a17 a18 a19 a20 a21 a22 a23:Option V} {σ:St} {H:Hp} {Q:VK}:tVar 24 (a0::a1::a2::a3::a4::a5::a6::a7::a8::a9::a10::a11::a12::a13::a14::a15::a16::a17::a18::a19::a20::a21::a22::a23::some v::σ) H Q=Q v H:=by
 simp only [ZAf,ZAZ]
theorem tVar_25 {v:V} {a0 a1 a2 a3 a4 a5 a6 a7 a8 a9 a10 a11 a12 a13 a14 a15 a16 a17 a18 a19 a20 a21 a22 a23 a24:Option V} {σ:St} {H:Hp} {Q:VK}:tVar 25 (a0::a1::a2::a3::a4::a5::a6::a7::a8::a9::a10::a11::a12::a13::a14::a15::a16::a17::a18::a19::a20::a21::a22::a23::a24::some v::σ) H Q=Q v H:=by
 simp only [ZAf,ZAZ]
theorem tVar_26 {v:V} {a0 a1 a2 a3 a4 a5 a6 a7 a8 a9 a10 a11 a12 a13 a14 a15 a16 a17 a18 a19 a20 a21 a22 a23 a24 a25:Option V} {σ:St} {H:Hp} {Q:VK}:tVar 26 (a0::a1::a2::a3::a4::a5::a6::a7::a8::a9::a10::a11::a12::a13::a14::a15::a16::a17::a18::a19::a20::a21::a22::a23::a24::a25::some v::σ) H Q=Q v H:=by
 simp only [ZAf,ZAZ]
theorem tVar_27 {v:V} {a0 a1 a2 a3 a4 a5 a6 a7 a8 a9 a10 a11 a12 a13 a14 a15 a16 a17 a18 a19 a20 a21 a22 a23 a24 a25 a26:Option V} {σ:St} {H:Hp} {Q:VK}:tVar 27 (a0::a1::a2::a3::a4::a5::a6::a7::a8::a9::a10::a11::a12::a13::a14::a15::a16::a17::a18::a19::a20::a21::a22::a23::a24::a25::a26::some v::σ) H Q=Q v H:=by
 simp only [ZAf,ZAZ]
theorem tVar_28 {v:V} {a0 a1 a2 a3 a4 a5 a6 a7 a8 a9 a10 a11 a12 a13 a14 a15 a16 a17 a18 a19 a20 a21 a22 a23 a24 a25 a26 a27:Option V} {σ:St} {H:Hp} {Q:VK}:tVar 28 (a0::a1::a2::a3::a4::a5::a6::a7::a8::a9::a10::a11::a12::a13::a14::a15::a16::a17::a18::a19::a20::a21::a22::a23::a24::a25::a26::a27::some v::σ) H Q=Q v H:=by
 simp only [ZAf,ZAZ]
theorem tVar_29 {v:V} {a0 a1 a2 a3 a4 a5 a6 a7 a8 a9 a10 a11 a12 a13 a14 a15 a16 a17 a18 a19 a20 a21 a22 a23 a24 a25 a26 a27 a28:Option V} {σ:St} {H:Hp} {Q:VK}:tVar 29 (a0::a1::a2::a3::a4::a5::a6::a7::a8::a9::a10::a11::a12::a13::a14::a15::a16::a17::a18::a19::a20::a21::a22::a23::a24::a25::a26::a27::a28::some v::σ) H Q=Q v H:=by
 simp only [ZAf,ZAZ]
theorem tVar_30 {v:V} {a0 a1 a2 a3 a4 a5 a6 a7 a8 a9 a10 a11 a12 a13 a14 a15 a16 a17 a18 a19 a20 a21 a22 a23 a24 a25 a26 a27 a28 a29:Option V} {σ:St} {H:Hp} {Q:VK}:tVar 30 (a0::a1::a2::a3::a4::a5::a6::a7::a8::a9::a10::a11::a12::a13::a14::a15::a16::a17::a18::a19::a20::a21::a22::a23::a24::a25::a26::a27::a28::a29::some v::σ) H Q=Q v H:=by
 simp only [ZAf,ZAZ]
open PySem
noncomputable def Cut (t:TS):TS:=t
theorem ZAO {X:Cx} {rest:List Stmt} {u:TS} (h:PSs X rest u):PSs X rest (Cut u):=h
theorem ZAR {u:TS} {D:Ends} {σ:St} {H:Hp} (h:u D σ H):Cut u D σ H:=h
theorem us0 {l:List Value} (h:l.length=0):l=[]:=List.length_eq_zero_iff.mp h
theorem us1 {l:List Value} (h:l.length=1):∃ a0,l=[a0]:=by
 cases l with
 | nil=>cases h
 | cons a l=>
  obtain rfl:=us0 (l:=l) (Nat.succ.inj h)
  exact ⟨a,rfl⟩
theorem us2 {l:List Value} (h:l.length=2):∃ a0 a1,l=[a0,a1]:=by
 cases l with
 | nil=>cases h
 | cons a l=>
  obtain ⟨b0,rfl⟩:=us1 (l:=l) (Nat.succ.inj h)
  exact ⟨a,b0,rfl⟩
theorem us3 {l:List Value} (h:l.length=3):∃ a0 a1 a2,l=[a0,a1,a2]:=by
 cases l with
 | nil=>cases h
 | cons a l=>
  obtain ⟨b0,b1,rfl⟩:=us2 (l:=l) (Nat.succ.inj h)
  exact ⟨a,b0,b1,rfl⟩
noncomputable def tMakeN (C:Addr):TE:=fun σ H Q=>∀ x dx,H x=none->H dx=none->dx≠x->Q (.ref x) (upd (upd H dx (.own x)) x (.ins C dx []))
noncomputable def ZC4 (t u:TE):TE:=fun σ H Q=>t σ H Q∨u σ H Q
theorem ZBq {X:Cx} {e:Expr} {t u:TE} (h:PE X e t) (k:PE X e u):PE X e (ZC4 t u):=fun pins s σ H Q I z=>z.elim (h pins s σ H Q I) (k pins s σ H Q I)
end L2
namespace PySem
open Sem (wp)
theorem dict_mapFieldsD (o : Obj) (f) : (o.mapFields f).dict = o.dict := by
  unfold Obj.mapFields
  split <;> rfl
structure Kpo (o o' : Obj) : Prop where
  fr : o'.isFreed = o.isFreed
  di : o'.dict = o.dict
theorem Kpo.refl (o : Obj) : Kpo o o := ⟨rfl, rfl⟩
theorem Kpo.set (i : Nat) (v : Value) (o : Obj) : Kpo o (o.mapFields (·.setIfInBounds i v)) := by
  unfold Obj.mapFields
  split
  · exact ⟨rfl, rfl⟩
  · exact .refl _
def Kph (h h' : Heap) : Prop := ∀ b o, h.get? b = some o → ∃ u, h'.get? b = some u ∧ Kpo o u
theorem Kph.trans {h h' k : Heap} (x : Kph h h') (y : Kph h' k) : Kph h k := fun b o e => by
  obtain ⟨u, e1, q1⟩ := x b o e
  obtain ⟨w, e2, q2⟩ := y b u e1
  exact ⟨w, e2, q2.fr.trans q1.fr, q2.di.trans q1.di⟩
theorem Kph.upd (h : Heap) (a : Addr) {f : Obj → Obj} (hf : ∀ o, Kpo o (f o)) : Kph h (h.update a f) := fun b o e => by
  by_cases q : a = b
  · subst q
    exact ⟨_, Heap.get?_update_self f e ((hf o).fr.trans (Heap.get?_some_iff.mp e).2), hf o⟩
  · exact ⟨o, (Heap.get?_update_other h f q).trans e, .refl o⟩
inductive Tame {α : Type} : Sem α → Prop
  | pure (a) : Tame (.pure a)
  | no (w) : Tame (.unsupported w)
  | load {a p k} : (∀ o, Tame (k o)) → Tame (.load a p k)
  | upd {a p f k} : (∀ o, Kpo o (f o)) → Tame (k ()) → Tame (.update a p f k)
  | new {o k} : (∀ a, Tame (k a)) → Tame (.alloc o k)
  | stack {k} : (∀ l, Tame (k l)) → Tame (.stack k)
section
variable {α β : Type} {M : Model} {Γ : Ctx} {A : Around} {E : Value → Shared → Prop} {s : Shared}
theorem Tame.wp {t : Sem α} (T : Tame t) {Q : α → Pos → Shared → Prop} {E : Value → Pos → Shared → Prop} {p : Pos} : ∀ {s : Shared}, wp M Γ t Q E p s → wp M Γ t (fun a p z => Q a p z ∧ Kph s.heap z.heap) E p s := by
  have go : ∀ {t : Sem α} {s s1 : Shared}, Kph s.heap s1.heap → (∀ {s : Shared}, Sem.wp M Γ t Q E p s → Sem.wp M Γ t (fun a p z => Q a p z ∧ Kph s.heap z.heap) E p s) → Sem.wp M Γ t Q E p s1 → Sem.wp M Γ t (fun a p z => Q a p z ∧ Kph s.heap z.heap) E p s1 :=
    fun k ih h => Sem.wp_mono M Γ _ (fun _ _ _ z => ⟨z.1, k.trans z.2⟩) (fun _ _ _ z => z) _ _ (ih h)
  induction T with
  | pure => exact fun h => ⟨h, fun b o e => ⟨o, e, .refl o⟩⟩
  | no => exact id
  | load _ ih => exact fun ⟨o, e, h⟩ => ⟨o, e, ih o h⟩
  | upd f _ ih => exact fun ⟨e, h⟩ => ⟨e, go (Kph.upd _ _ f) ih h⟩
  | @new o k _ ih => exact fun {s} h => go (t := k s.heap.objs.size) (s1 := { s with heap := s.heap.push o }) (fun b u e => ⟨u, Heap.get?_push_of_some _ e, .refl u⟩) (ih _) h
  | stack _ ih => exact fun h => ih _ h
theorem Tame.any {t : Sem α} (T : Tame t) {Q : α → Shared → Prop} (h : wpAny M A t Q E s) : wpAny M A t (fun a z => Q a z ∧ Kph s.heap z.heap) E s := fun Γ p hΓ => T.wp (h Γ p hΓ)
theorem Tame.bind {m : Sem α} {f : α → Sem β} (x : Tame m) (y : ∀ a, Tame (f a)) : Tame (m >>= f) := by
  show Tame (m.bind f)
  induction x with
  | pure a => exact y a
  | no w => exact .no w
  | load _ ih => exact .load ih
  | upd h _ ih => exact .upd h ih
  | new _ ih => exact .new ih
  | stack _ ih => exact .stack ih
theorem Tame.ite {c : Prop} [Decidable c] {x y : Sem α} (hx : Tame x) (hy : Tame y) : Tame (if c then x else y) := by split <;> assumption
theorem tame_field (v : Value) (i : Nat) : Tame (field v i) := by
  refine .bind (m := fieldsOf v) ?_ fun a => ?_
  · unfold fieldsOf
    split
    · refine .bind (.load fun o => .pure o) fun o => ?_
      split
      · exact .pure _
      · exact .no _
    · exact .no _
  · split
    · exact .pure _
    · exact .no _
theorem tame_setField (i : Nat) (v x : Value) : Tame (setField v i x) := by
  unfold setField
  split
  · unfold updateField
    refine .bind (.load fun o => .pure o) fun o => ?_
    split
    · exact .ite (.upd (Kpo.set i x) (.pure _)) (.no _)
    · exact .no _
  · exact .no _
theorem tame_ready (l : List Env) : Tame (readyFrames l) := by
  induction l with
  | nil => exact .pure _
  | cons env r ih =>
    unfold readyFrames
    split
    next f hf =>
      refine .bind (.load fun o => .pure o) fun o => .ite (.pure _) (.bind ?_ fun b => .bind ?_ fun c => .bind (.upd (fun o => ⟨by cases o with | mk a b d c => cases d <;> rfl, rfl⟩) (.pure _)) fun _ => ih)
      · unfold behindIsImport
        exact .ite (.pure _) (.ite (.pure _) (.bind (tame_field _ _) fun _ => .pure _))
      · unfold keptBack
        split
        · exact .ite (.pure _) (.bind (.bind (.stack fun l => .pure l) fun _ => .pure _) fun _ => .pure _)
        · exact .pure _
    · exact .no _
theorem tame_note (e : Value) (env : Env) : Tame (noteFrame e env) := by
  unfold noteFrame
  split
  next f hf =>
    have rest : ∀ head b, Tame (do setField e 1 (← EntryCells.newEntry head (← frameOf env) .none (rawInt f) .none (← entryPlaceOf f b))) := fun head b => by
      refine .bind ?_ fun a => .bind ?_ fun pl => .bind ?_ fun n => tame_setField _ _ _
      · unfold frameOf
        refine .bind (.bind (.stack fun l => .pure l) fun _ => .pure _) fun l => .bind ?_ fun o => ?_
        · unfold frameObject
          split
          · exact .pure _
          · exact .bind (tame_ready _) fun _ => .pure _
        · split
          · exact .pure _
          · exact .no _
      · unfold entryPlaceOf
        refine .bind (.stack fun l => .pure l) fun l => ?_
        split <;> exact .pure _
      · unfold EntryCells.newEntry newFields newObj
        exact .ite (.bind (.no _) fun _ => .bind (.new fun a => .pure a) fun a => .pure _) (.bind (.new fun a => .pure a) fun a => .pure _)
    refine .bind (tame_field _ _) fun head => .ite (.bind (tame_field _ _) fun y => .ite (.pure _) (.bind (tame_setField _ _ _) fun _ => rest _ _)) (rest _ _)
  · exact .no _
theorem tame_flight (e : Value) (o : Option Addr) : Tame (setFlight e o) := .bind (tame_field _ _) fun _ => .ite (tame_setField _ _ _) (.pure _)
theorem tame_leaving (env : Env) (e : Value) : Tame (leaving env e) := .bind (tame_note _ _) fun _ => tame_flight _ _
def Heap.Dx (h : Heap) (e : Addr) (d : Option Addr) : Prop := ∃ o, h.get? e = some o ∧ o.dict = d
theorem Heap.Dx.kept {h h' : Heap} {e : Addr} {d : Option Addr} (x : h.Dx e d) (k : Kph h h') : h'.Dx e d := by
  obtain ⟨o, h1, h3⟩ := x
  obtain ⟨u, h5, q⟩ := k e o h1
  exact ⟨u, h5, q.di.trans h3⟩
def Heap.TracedAtD (h base : Heap) (e : Addr) (cls : Value) (a0 : Value × Option Addr) (fl : Value) : Prop := h.TracedAtW base e cls a0.1 fl ∧ h.Dx e a0.2
abbrev Heap.TracedD (h base : Heap) (e : Addr) (cls : Value) (a0 : Value × Option Addr) : Prop := h.TracedAtD base e cls a0 .none
abbrev Heap.FlyD (base : Heap) (l : List Env) (e : Addr) (cls : Value) (a0 : Value × Option Addr) (fl : Value) (h : Heap) : Prop := base.StaysIn h ∧ base.get? e = none ∧ h.FunFrames base l ∧ h.TracedAtD base e cls a0 fl
abbrev Heap.FlyingD (base : Heap) (l : List Env) (e : Addr) (cls : Value) (a0 : Value × Option Addr) (h : Heap) : Prop := Heap.FlyD base l e cls a0 .none h
abbrev Heap.HeldD (base : Heap) (l : List Env) (e : Addr) (cls : Value) (a0 : Value × Option Addr) (L : Addr) (h : Heap) : Prop := Heap.FlyD base l e cls a0 (rawInt L) h
theorem Heap.FlyingD.thereD {base h : Heap} {l : List Env} {e : Addr} {cls : Value} {a0 : Value × Option Addr} (x : Heap.FlyingD base l e cls a0 h) : ∃ ob, h.get? e = some ob ∧ ob.cls = cls ∧ ob.dict = a0.2 ∧ ∃ vs, ob.data = .fields vs := by
  obtain ⟨_, _, _, ⟨oe, vs, _, _, _, he, hc, hd, _⟩, o, h1, h2⟩ := x
  rw [he] at h1
  cases h1
  exact ⟨oe, he, hc.1, h2, vs, hd⟩
theorem Heap.FlyingD.there {base h : Heap} {l : List Env} {e : Addr} {cls : Value} {a0 : Value × Option Addr} (x : Heap.FlyingD base l e cls a0 h) : ∃ ob, h.get? e = some ob ∧ ob.cls = cls :=
  let ⟨ob, h1, h2, _⟩ := Heap.FlyingD.thereD x
  ⟨ob, h1, h2⟩
variable {base : Heap} {env : Env} {l outer : List Env} {L e : Addr} {cls : Value} {a0 : Value × Option Addr} {Q : Unit → Shared → Prop}
theorem Tame.go {t : Sem Unit} (T : Tame t) {P : Heap → Prop} (w : wpAny M A t (fun _ z => ∃ h', z = { s with heap := h' } ∧ P h') E s) (hQ : ∀ h', P h' → Kph s.heap h' → Q () { s with heap := h' }) : wpAny M A t Q E s :=
  wpAny_mono (T.any w) (fun _ _ z => by
    obtain ⟨⟨h', rfl, p⟩, k⟩ := z
    exact hQ h' p k) fun _ _ z => z
theorem wpAny_leaves_onD (hfr : A.frames = some (env :: outer)) (hf : env.frame = some L) (x : Heap.FlyingD base (env :: outer) e cls a0 s.heap) (hQ : ∀ h', Heap.FlyingD base outer e cls a0 h' → s.heap.UpToSlots h' → Q () { s with heap := h' }) : wpAny M A (leaving env (.ref e)) Q E s := by
  obtain ⟨f1, f2, f3, f4, d⟩ := x
  refine (tame_leaving _ _).go (P := fun h' => Heap.FlyingW base outer e cls a0.1 h' ∧ s.heap.UpToSlots h') (wpAny_leaves_onW hfr hf ⟨f1, f2, f3, f4⟩ fun h' y u => ⟨h', rfl, y, u⟩) fun h' ⟨⟨y1, y2, y3, y4⟩, u⟩ k => hQ h' ⟨y1, y2, y3, y4, d.kept k⟩ u
theorem wpAny_looks_onD (hfr : A.frames = some (env :: outer)) (hf : env.frame = some L) (x : Heap.FlyingD base (env :: outer) e cls a0 s.heap) (hQ : ∀ h', Heap.HeldD base (env :: outer) e cls a0 L h' → s.heap.UpToSlots h' → Q () { s with heap := h' }) : wpAny M A (noteFrame (.ref e) env) Q E s := by
  obtain ⟨f1, f2, f3, f4, d⟩ := x
  refine (tame_note _ _).go (P := fun h' => Heap.HeldW base (env :: outer) e cls a0.1 L h' ∧ s.heap.UpToSlots h') (wpAny_looks_onW hfr hf ⟨f1, f2, f3, f4⟩ fun h' y u => ⟨h', rfl, y, u⟩) fun h' ⟨⟨y1, y2, y3, y4⟩, u⟩ k => hQ h' ⟨y1, y2, y3, y4, d.kept k⟩ u
theorem wpAny_noteFrame_againD (hf : env.frame = some L) (x : s.heap.TracedAtD base e cls a0 (rawInt L)) (h : Q () s) : wpAny M A (noteFrame (.ref e) env) Q E s := wpAny_noteFrame_againW hf x.1 h
theorem flightD_ {fl : Value} (o : Option Addr) (f1 : base.StaysIn s.heap) (f3 : s.heap.FunFrames base l) (f4 : s.heap.TracedAtD base e cls a0 fl)
    (hQ : ∀ h', base.StaysIn h' → h'.FunFrames base l → h'.TracedAtD base e cls a0 (o.elim .none fun f => rawInt f) → (∀ b o, s.heap.get? b = some o → (∀ vs, o.data ≠ .fields vs) → h'.get? b = some o) → Q () { s with heap := h' }) : wpAny M A (setFlight (.ref e) o) Q E s := by
  obtain ⟨⟨oe, vs, T, oT, ts, he, hc, hd, h1, hnT, hTe, hT, hdT, h3⟩, d⟩ := f4
  refine (tame_flight _ _).go (P := fun h' => h' = s.heap.update T (Obj.mapFields (·.setIfInBounds 3 (o.elim .none fun f => rawInt f)))) ?_ fun h' z k => ?_
  · refine wpAny_bind (wpAny_field he hd h1 ?_)
    show wpAny M A (setField (.ref T) 3 _) _ E s
    exact wpAny_setField hT hdT (Array.getElem?_eq_some_iff.mp h3).1 ⟨_, rfl, rfl⟩
  · subst z
    have ot : ∀ b u, s.heap.get? b = some u → b ≠ T → (s.heap.update T (Obj.mapFields (·.setIfInBounds 3 (o.elim .none fun f => rawInt f)))).get? b = some u := fun b u h n => (Heap.get?_update_other _ _ (Ne.symm n)).trans h
    have nt : ∀ b u, s.heap.get? b = some u → (∀ vs, u.data ≠ .fields vs) → b ≠ T := fun b u h n z => by
      subst z
      rw [hT] at h
      cases h
      exact n ts hdT
    exact hQ _ (fun b u h => ot b u (f1 b u h) (fun z => by subst z; rw [hnT] at h; cases h)) (f3.of_keeps fun b u h n => ⟨u, ot b u h (nt b u h n), rfl⟩)
      ⟨⟨oe, vs, T, _, _, ot e oe he (Ne.symm hTe), hc, hd, h1, hnT, hTe, Heap.get?_update_self _ hT (Obj.isFreed_of_fields (Obj.data_mapFields hdT _)), Obj.data_mapFields hdT _, by
        have := (Array.getElem?_eq_some_iff.mp h3).1
        simp [this]⟩, d.kept k⟩ fun b u h n => ot b u h (nt b u h n)
theorem wpAny_landsD (hh : Heap.HeldD base l e cls a0 L s.heap) (hQ : ∀ h', Heap.FlyingD base l e cls a0 h' → s.heap.UpToSlots h' → Q () { s with heap := h' }) : wpAny M A (setFlight (.ref e) none) Q E s :=
  flightD_ none hh.1 hh.2.2.1 hh.2.2.2 fun h' k1 k2 k3 k4 => hQ h' ⟨k1, hh.2.1, k2, k3⟩ fun b o y n => ⟨o.slots, k4 b o y n⟩
theorem LANDS2_ (hh : Heap.FlyingD base l e cls a0 s.heap) (hQ : ∀ h', Heap.FlyingD base l e cls a0 h' → s.heap.UpToSlots h' → Q () { s with heap := h' }) : wpAny M A (setFlight (.ref e) none) Q E s :=
  flightD_ none hh.1 hh.2.2.1 hh.2.2.2 fun h' k1 k2 k3 k4 => hQ h' ⟨k1, hh.2.1, k2, k3⟩ fun b o y n => ⟨o.slots, k4 b o y n⟩
theorem wpAny_setFlight_someD {fl : Value} (hkb : base.StaysIn s.heap) (hl : s.heap.FunFrames base l) (ht : s.heap.TracedAtD base e cls a0 fl)
    (h : ∀ h', base.StaysIn h' → h'.FunFrames base l → h'.TracedAtD base e cls a0 (rawInt L) → (∀ b o, s.heap.get? b = some o → (∀ vs, o.data ≠ .fields vs) → h'.get? b = some o) → Q () { s with heap := h' }) : wpAny M A (setFlight (.ref e) (some L)) Q E s := flightD_ (some L) hkb hl ht h
theorem wpAny_leaving_firstD {oe : Obj} {vs : Array Value} (hfr : A.frames = some (env :: outer)) (hl : s.heap.FunFrames base (env :: outer)) (hf : env.frame = some L) (he : s.heap.get? e = some oe) (hkb : base.StaysIn s.heap) (hen : base.get? e = none) (hd : oe.data = .fields vs) (h1 : vs[1]? = some .none)
    (h0 : vs[0]? = some a0.1 ∧ oe.dict = a0.2) (hQ : ∀ h', (base.StaysIn h' ∧ h'.FunFrames base (env :: outer) ∧ h'.TracedD base e oe.cls a0 ∧ s.heap.UpToSlots h') → Q () { s with heap := h' }) : wpAny M A (leaving env (.ref e)) Q E s :=
  (tame_leaving _ _).go (P := fun h' => Heap.LeftW base (env :: outer) e oe.cls a0.1 s.heap h') (wpAny_leaving_firstW hfr hl hf he hkb hen hd h1 h0.1 fun h' y => ⟨h', rfl, y⟩) fun h' ⟨y1, y2, y3, y4⟩ k => hQ h' ⟨y1, y2, ⟨y3, Heap.Dx.kept ⟨oe, he, h0.2⟩ k⟩, y4⟩
end
end PySem
namespace L2
open PySem PySem.Spec PyProof.Rows
noncomputable def Fly (l:List Env) (H:Hp) (h0:Heap) (e:Addr) (cls:Value) (dd:Option Addr) (h:Heap):Prop :=
 ∃ B a0,Heap.FlyingD B l e cls (a0,dd) h /\ H e=none /\ h0.get? e=none /\ ∀ b o,h.get? b=some o->b∉frs l->(H b≠none∨∃ o0,h0.get? b=some o0)->B.get? b=some o
noncomputable def CXE (P:Program) (w:World):CXT:=fun outer H s E e s'=>
 ∃ ea cls dd H',e=.ref ea /\ s'.os=s.os /\ AllBare s'.gens /\ Un (frs outer) [] H H' s.heap s'.heap /\ HOk P w H' s'.heap /\ Fly outer H' s.heap ea cls dd s'.heap /\ E cls dd H'
theorem passE {P:Program} {w:World} {X:Cx}:ZBR (CXE P w) X E0:=fun _ _ _ _ _ _ _ z=>by
 obtain ⟨_,_,_,_,_,_,_,_,_,_,h⟩:=z
 exact h.elim
section
variable {P:Program} {w:World} {l:List Env} {H H':Hp} {h h1 h2 B base:Heap}
theorem Un.fly (u:Un (frs l) [] H H' h h1) (hB:∀ b o,h1.get? b=some o->b∉frs l->(H' b≠none∨∃ o0,h.get? b=some o0)->B.get? b=some o) (st:B.StaysIn h2) (up:h1.UpToSlots h2) (hf:h1.FunFrames base l):Un (frs l) [] H H' h h2 where
 keep b o e n hb hx:=st b o (hB b o (u.keep b o e n hb hx) hb (.inr ⟨o,e⟩))
 slot b o e n hb hx:=by
  obtain ⟨sl,e1⟩:=u.slot b o e n hb hx
  obtain ⟨_,o',ho',hd⟩:=hf.mem hb
  rw [e1] at ho'
  cases ho'
  obtain ⟨sl2,e2⟩:=up b _ e1 hd
  exact ⟨sl2,e2⟩
 free:=u.free
 there b o e hx:=by
  obtain ⟨o',e1⟩:=u.there b o e hx
  by_cases hb:b∈frs l
  .obtain ⟨_,o2,ho2,hd⟩:=hf.mem hb
   rw [e1] at ho2
   cases ho2
   obtain ⟨sl,e2⟩:=up b _ e1 hd
   exact ⟨_,e2⟩
  .exact ⟨o',st b o' (hB b o' e1 hb (.inr ⟨o,e⟩))⟩
 tups:=u.tups
 frzs:=u.frzs
 tbls:=u.tbls
theorem HOk.fly (x:HOk P w H' h1) (hB:∀ b o,h1.get? b=some o->b∉frs l->(H' b≠none∨∃ o0,h.get? b=some o0)->B.get? b=some o) (st:B.StaysIn h2) (hn:∀ b∈frs l,H' b=none):HOk P w H' h2:=fun a o e=>by
 have k:∀ b o,H' b=some o->b∉frs l:=fun b o z m=>by rw [hn b m] at z;cases z
 refine (x a o e).stay (fun b v hc q=>?_) (fun _ q=>q) fun _ _ q=>q
 rcases hc with z | z
 .exact st b v (hB b v q (by rw [z];exact k _ _ e) (.inl (by rw [z,e];exact fun y=>nomatch y)))
 .exact st b v (hB b v q (k _ _ z) (.inl (by rw [z];exact fun y=>nomatch y)))
theorem Inv.stkFree2 {X:Cx} {pins:List (Addr×Obj)} {σ:St} {s:Shared} (I:Inv X pins σ H s) (u:Un (frs X.stack) [] H H' s.heap h1):∀ b∈frs X.stack,H' b=none:=fun b hb=>by
 obtain ⟨_,o,ho,_⟩:=I.stack.mem hb
 exact u.free b o ho (I.stkFree b hb) yBK
end
section
variable {P:Program} {w:World} {K:W.Frag} {mg:Str->Option Value} {base:Heap} {N:List Str} {qual:Str} {scope:Scope} {f:Addr} {cd:Value} {A:Around} {outer:List Env} {s:Shared} {H:Hp} {E:XK}
theorem ZDN {pins:List (Addr×Obj)} {σ:St} {H1 H':Hp} {s1 s2:Shared} {hm h' B B':Heap} {ea:Addr} {cls a0:Value} {dd:Option Addr} (I:Inv (cxOf (CXE P w) P w K mg base N qual scope f cd A outer s H E) pins σ H1 s1)
  (un:Un (frs (cxOf (CXE P w) P w K mg base N qual scope f cd A outer s H E).stack) [] H1 H' s1.heap hm) (hok:HOk P w H' hm)
  (hB:∀ b o,hm.get? b=some o->b∉frs (cxOf (CXE P w) P w K mg base N qual scope f cd A outer s H E).stack->(H' b≠none∨∃ o0,s1.heap.get? b=some o0)->B.get? b=some o)
  (ff:hm.FunFrames B' (cxOf (CXE P w) P w K mg base N qual scope f cd A outer s H E).stack) (up:hm.UpToSlots h') (fl:Heap.FlyingD B outer ea cls (a0,dd) h') (hout:H' ea=none) (hnew:s1.heap.get? ea=none) (os:s2.os=s1.os) (bare:AllBare s2.gens) (hE:E cls dd H') :
  CXE P w outer H s E (.ref ea) { s2 with heap:=h' }:=by
 have fr:=I.stkFree2 un
 have un2:=un.fly hB fl.1 up ff
 have hok2:=hok.fly hB fl.1 fr
 have I2:=I.call' (s':={ s2 with heap:=h' }) os un2 hok2 bare fun b z=>nomatch z
 have old:∀ b o,s.heap.get? b=some o->∃ o1,s1.heap.get? b=some o1:=fun b o q=>I.base.there b o q (fun z=>nomatch z)
 refine ⟨ea,cls,dd,H',rfl,I2.os,bare,I2.base,hok2,⟨B,a0,fl,hout,?_,fun b o ho hb hor=>?_⟩,hE⟩
 .cases q:s.heap.get? ea with
  | none=>rfl
  | some o=>
   obtain ⟨o1,h1⟩:=old ea o q
   rw [hnew] at h1;cases h1
 .have hb2:b∉frs (cxOf (CXE P w) P w K mg base N qual scope f cd A outer s H E).stack:=fun m=>by
   rcases yAC.mp (I2.stkSub b m) with z | z
   .rcases hor with y | ⟨o0,y⟩
    .exact y (by rw [z];exact I2.free)
    .exact absurd (yAJ (Heap.lt_size y) I.ok.above) (by rw [z];exact yAW _)
   .exact hb z
  have:∃ o1,hm.get? b=some o1 /\ (H' b≠none∨∃ o0,s1.heap.get? b=some o0):=by
   rcases hor with y | ⟨o0,y⟩
   .obtain ⟨u,hu⟩:=Option.ne_none_iff_exists'.mp y
    have:=(hok b u hu).lt
    cases z:hm.get? b with
    | some o1=>exact ⟨o1,rfl,.inl y⟩
    | none=>
     exfalso
     have st2:=hok b u hu
     cases u with
     | lst xs=>obtain ⟨_,_,_,_,e⟩:=st2;rw [z] at e;cases e
     | tup xs=>obtain ⟨_,_,_,ob,e,_⟩:=st2;rw [z] at e;cases e
     | dK kvs=>obtain ⟨_,_,_,_,ob,es,ep,e,_⟩:=st2;rw [z] at e;cases e
     | dT kvs=>obtain ⟨_,_,_,_,ob,es,ep,e,_⟩:=st2;rw [z] at e;cases e
     | set S n=>obtain ⟨ob,es,ep,t,e,_⟩:=st2;rw [z] at e;cases e
     | ins C dx fs=>obtain ⟨_,_,_,e,_⟩:=st2;rw [z] at e;cases e
     | own y=>obtain ⟨_,e⟩:=st2;rw [z] at e;cases e
     | xd fs=>obtain ⟨_,⟨_,_,_,e,_⟩,_⟩:=st2;rw [z] at e;cases e
     | rng lo hi=>obtain ⟨_,_,_,e⟩:=st2;rw [z] at e;cases e
     | frz ob u=>obtain ⟨e,_⟩:=st2;rw [z] at e;cases e
     | tbl ps=>have e:hm.get? b=some _:=st2;rw [z] at e;cases e
     | met f y=>have e:hm.get? b=some _:=st2;rw [z] at e;cases e
     | ext φ=>obtain ⟨_,⟨_,e⟩,_⟩:=st2;rw [z] at e;cases e
   .obtain ⟨o1,h1⟩:=old b o0 y
    obtain ⟨o2,h2⟩:=un.there b o1 h1 (fun z=>nomatch z)
    exact ⟨o2,h2,.inr ⟨o1,h1⟩⟩
  obtain ⟨o1,q1,q2⟩:=this
  have q3:=hB b o1 q1 hb2 q2
  have q4:=fl.1 b o1 q3
  rw [ho] at q4
  cases q4
  exact q3
theorem ZCz:ZBR (CXE P w) (cxOf (CXE P w) P w K mg base N qual scope f cd A outer s H E) E:=by
 intro pins σ H1 s1 e s2 I hc
 obtain ⟨ea,cls,dd,H',rfl,os,bare,un,hok,⟨B,a0,fl,hout,hnew,hB⟩,hE⟩:=hc
 refine wpAny_leaves_onD (base:=B) I.ok.frames rfl fl fun h' fl' up=>?_
 exact ZDN I un hok hB fl.2.2.1 up fl' hout hnew os bare hE
theorem raisedD {pins:List (Addr×Obj)} {σ:St} {H1 H2:Hp} {s1 s2:Shared} {ea:Addr} {oe:Obj} {vs:Array Value} {cls a0:Value} {dd:Option Addr} (I:Inv (cxOf (CXE P w) P w K mg base N qual scope f cd A outer s H E) pins σ H1 s1)
  (un:Un (frs (cxOf (CXE P w) P w K mg base N qual scope f cd A outer s H E).stack) [] H1 H2 s1.heap s2.heap) (hok:HOk P w H2 s2.heap) (os:s2.os=s1.os) (bare:AllBare s2.gens) (hnew:s1.heap.get? ea=none) (hout:H2 ea=none)
  (he:s2.heap.get? ea=some oe) (hc:oe.cls=cls) (hd:oe.dict=dd) (hv:oe.data=.fields vs) (h1:vs[1]?=some .none) (h0:vs[0]?=some a0) (hE:E cls dd H2) :
  (cxOf (CXE P w) P w K mg base N qual scope f cd A outer s H E).xe (.ref ea) s2:=by
 have I2:=I.call' (s':=s2) os un hok bare fun b z=>nomatch z
 have hin:∀ env∈(cxOf (CXE P w) P w K mg base N qual scope f cd A outer s H E).stack,∀ b,env.frame=some b->b∈ea::frs (cxOf (CXE P w) P w K mg base N qual scope f cd A outer s H E).stack:=fun env he b hb=>yAI _ (List.mem_filterMap.mpr ⟨env,he,hb⟩)
 subst hc
 have eh:∀ b∈ea::frs (cxOf (CXE P w) P w K mg base N qual scope f cd A outer s H E).stack,(PySem.W.hideAll s2.heap (ea::frs (cxOf (CXE P w) P w K mg base N qual scope f cd A outer s H E).stack)).get? b=none:=fun b hb=>by
  exact PySem.W.hideAll_none _ hb
 refine wpAny_leaving_firstD (a0:=(a0,dd)) (base:=PySem.W.hideAll s2.heap (ea::frs (cxOf (CXE P w) P w K mg base N qual scope f cd A outer s H E).stack)) I.ok.frames (PySem.W.funFrames_hide I2.stack hin) rfl he (fun b o q=>PySem.W.of_hideAll _ q) (eh ea yAE) hv h1 ⟨h0,hd⟩ fun h' hL=>?_
 obtain ⟨k1,⟨_,_,k2⟩,k3,k4⟩:=hL
 refine ZDN (s2:=s2) (B:=PySem.W.hideAll s2.heap (ea::frs (cxOf (CXE P w) P w K mg base N qual scope f cd A outer s H E).stack)) I un hok (fun b o q nb hor=>PySem.W.hideAll_get _ q fun z=>?_) I2.stack k4 ⟨k1,eh ea yAE,k2,k3⟩ hout hnew os bare hE
 rcases yAC.mp z with z | z
 .subst z
  rcases hor with y | ⟨o0,y⟩
  .exact y hout
  .rw [hnew] at y;cases y
 .exact nb z
theorem raisedX {pins:List (Addr×Obj)} {σ:St} {H1:Hp} {s1:Shared} {h1:Heap} {ea:Addr} {cls:Value} (I:Inv (cxOf (CXE P w) P w K mg base N qual scope f cd A outer s H E) pins σ H1 s1) (hx:Heap.MadeExcOf s1.heap h1 ea cls []) (hE:E cls none H1) :
  (cxOf (CXE P w) P w K mg base N qual scope f cd A outer s H E).xe (.ref ea) { s1 with heap:=h1 }:=by
 obtain ⟨t,he,_⟩:=hx.there
 refine raisedD (s2:={ s1 with heap:=h1 }) I (Un.kept hx.keeps) (I.hok.kept hx.keeps) rfl I.bare hx.new ?_ he rfl rfl rfl rfl rfl hE
 cases q:H1 ea with
 | none=>rfl
 | some o=>
  exfalso
  have x:=I.hok ea o q
  have e:=hx.new
  cases o with
  | lst xs=>obtain ⟨_,_,_,_,z⟩:=x;rw [e] at z;cases z
  | tup xs=>obtain ⟨_,_,_,ob,z,_⟩:=x;rw [e] at z;cases z
  | dK kvs=>obtain ⟨_,_,_,_,ob,es,ep,z,_⟩:=x;rw [e] at z;cases z
  | dT kvs=>obtain ⟨_,_,_,_,ob,es,ep,z,_⟩:=x;rw [e] at z;cases z
  | set S n=>obtain ⟨ob,es,ep,t,z,_⟩:=x;rw [e] at z;cases z
  | ins C dx fs=>obtain ⟨_,_,_,z,_⟩:=x;rw [e] at z;cases z
  | own y=>obtain ⟨_,z⟩:=x;rw [e] at z;cases z
  | xd fs=>obtain ⟨_,⟨_,_,_,z,_⟩,_⟩:=x;rw [e] at z;cases z
  | rng lo hi=>obtain ⟨_,_,_,z⟩:=x;rw [e] at z;cases z
  | frz ob u=>obtain ⟨z,_⟩:=x;rw [e] at z;cases z
  | tbl ps=>have z:s1.heap.get? ea=some _:=x;rw [e] at z;cases z
  | met f y=>have z:s1.heap.get? ea=some _:=x;rw [e] at z;cases z
  | ext φ=>obtain ⟨_,⟨_,z⟩,_⟩:=x;rw [e] at z;cases z
end
open PySem PySem.Spec PySem.W PySem.Calls PyProof.Rows Builtin.Getset_descriptor Builtin.ObjectAttr
structure ExcC (K:W.Frag) (C:Addr):Prop where
 ga:W.findIn K (.ref C) "__getattribute__"=some (some (.builtin "BaseException.__getattribute__"))
 gt:W.findIn K (.ref C) "__getattr__"=some none
 ca:W.findIn K (.ref C) "__class__"=some (some (.builtin "object.__class__"))
 sg:PySem.W.specialIn K (.builtin "object.__class__") "__get__"=some (some (.builtin "getset_descriptor.__get__"))
 tk:PySem.W.takesIn K (.builtin "object.__class__")=some true
 mo:PySem.W.mroIn K C (.type "object")=some true
 mb:PySem.W.mroIn K C (.type "BaseException")=some true
section
variable {prog:Program} {w:World} {A:Around} {E:Value->Shared->Prop} {K:W.Frag} {a C:Addr} {o:Obj} {h:Heap} {g:Array GenState} {d:Drawn} {t:Nat} {os:OsState}
theorem ZDM {M:Model} (hx:h.get? a=some o) (hc:o.cls=.ref C):Looks M h (typeOf (.ref a)) (.ref C):=hc ▸ (Looks.ld hx).andThen .now
theorem exc_get {R:Result->Shared->Prop} (X:K.In h) (F:ExcC K C) (hx:h.get? a=some o) (hc:o.cls=.ref C) (hq:R (.ok (.ret (.ref C))) ⟨h,g,d,t,os⟩) :
  codeAny (model prog w) A (.call (.builtin "getset_descriptor.__get__") ⟨[.builtin "object.__class__",.ref a,.ref C],[]⟩) R ⟨h,g,d,t,os⟩:=by
 have y0:=ZDM (M:=model prog w) hx hc
 have y1:=looks_mroIn (M:=model prog w) X F.mo
 refine codeAny_call_builtin KF.slot_gs.plain KF.entry_gs (KF.slot_gs.check _ _ _ _ _ _ _ _ KF.type_class (KF.args_gs _ _ _) ?_)
 simp only [Builtin.«getset_descriptor.__get__»,descrGet]
 rw [dga_obj]
 refine wpAny_bind (wpAny_pure ?_)
 simp only [descrGetter,descrCheckInstance,descrNameAndClass,isInstance,KF.owner_class]
 repeat lk
 refine ⟨Code.quiet_builtin _ (by decide +kernel),codeAny_builtin KF.entry_class ?_⟩
 simp only [Builtin.«object.__class__»,shownTypeOf]
 repeat lk
 exact hq
theorem exc_ga_check {M:Model} {nameV:Value} {Q:Unit->Shared->Prop} (X:K.In h) (F:ExcC K C) (hx:h.get? a=some o) (hc:o.cls=.ref C) (hq:Q () ⟨h,g,d,t,os⟩) :
  wpAny M A (checkBuiltinCall "BaseException.__getattribute__" ⟨[.ref a,nameV],[]⟩) Q E ⟨h,g,d,t,os⟩:=by
 have y0:=ZDM (M:=M) hx hc
 have y1:=looks_mroIn (M:=M) X F.mb
 have k1:builtinKind "BaseException.__getattribute__"=some .slot:=by decide +kernel
 have k2:splitId "BaseException.__getattribute__"=some ("BaseException","__getattribute__"):=by decide +kernel
 have k3:=PySem.F.args_bexc_ga (.ref a) nameV
 simp only [checkBuiltinCall,k1,k2]
 refine wpAny_bind ?_
 unfold isInstance
 repeat lk
 exact hq
theorem exc_class {Q:Option Value->Shared->Prop} (X:K.In h) (F:ExcC K C) (hx:h.get? a=some o) (hc:o.cls=.ref C) (hq:Q (some (.ref C)) ⟨h,g,d,t+1,os⟩) :
  wpAny (model prog w) A (getAttr? (.ref a) "__class__") Q E ⟨h,g,d,t,os⟩:=by
 have y0:=ZDM (M:=model prog w) hx hc
 have y1:=looks_findIn (M:=model prog w) X F.ga
 have y2:=looks_findIn (M:=model prog w) X F.gt
 have y3:=looks_findIn (M:=model prog w) X F.ca
 have y4:=looks_specialIn (M:=model prog w) X F.sg
 have y5:=looks_takesIn (M:=model prog w) X F.tk
 have bd:=PySem.F.attr_ValueError.ga.bind (.ref a)
 simp only [getAttr?,getAttrBy?,getAttrBy]
 refine wpAny_bind (wpAny_mkText (wpAny_bind (wpAny_attempt (wpAny_holding (wpAny_bind (y0.at (wpAny_bind (y1.at ?_))))))))
 show wpAny _ _ (getAttrByItsOwn _ _ _ _ _ _) _ _ _
 unfold getAttrByItsOwn
 refine wpAny_bind ?_
 show wpAny _ _ (typeLookup (.ref C) "__getattr__") _ _ _
 refine y2.at (wpAny_bind (wpAny_attempt (wpAny_holding ?_)))
 show wpAny _ _ (boundAndCalled _ _ _) _ _ _
 unfold boundAndCalled
 rw [bd]
 refine wpAny_bind (wpAny_pure (wpAny_call (codeAny_call_builtin PySem.F.attr_ValueError.ga.plain PySem.F.entry_bexc_ga (exc_ga_check X F hx hc ?_))))
 unfold Builtin.«object.__getattribute__»
 refine wpAny_bind (wpAny_pure (wpAny_bind (wpAny_pure (wpAny_bind (y0.at (wpAny_bind ?_))))))
 unfold find
 refine wpAny_bind (y3.at (wpAny_bind ?_))
 show wpAny _ _ (specialOf (.builtin "object.__class__") "__get__") _ _ _
 refine y4.at (wpAny_bind ?_)
 unfold dataDescriptor?
 refine wpAny_bind (y5.at ?_)
 rw [if_pos rfl]
 refine wpAny_pure (wpAny_bind (wpAny_rule (wpAny_pure ?_)))
 show wpAny _ _ (holding [_] (call (.builtin "getset_descriptor.__get__") [.builtin "object.__class__",.ref a,.ref C]) >>= ret) _ _ _
 refine wpAny_bind (wpAny_holding (wpAny_call (exc_get X F hx hc ?_)))
 exact wpAny_pure (handed_on rfl (wpAny_pure hq))
theorem kitx_exc {D:Addr} (F:ExcC K D) (hdct:hasDictIn K D=true):KitX K (.ref a) (.ref D) (fun h=>∃ o,h.get? a=some o /\ o.cls=.ref D) where
 ty:=fun _ _ _ ⟨_,h1,h2⟩=>ZDM h1 h2
 it:=fun _ _ X _=>by
  obtain ⟨cdD,hcD,_⟩:=any_some hdct
  unfold clsIn at hcD
  split at hcD
  .rename_i z
   intro A1 Q1 E1 s1 k1 q1
   simp only [isType,loadHead]
   exact wpAny_bind (wpAny_loadPart (k1 _ _ (X _ _ z)) (wpAny_pure q1))
  .cases hcD
 ne:=fun h tp dd its n sl X htp=>by
  obtain ⟨cdD,hcD,_⟩:=any_some hdct
  refine Bool.eq_false_iff.mpr fun q=>?_
  cases Value.ref.inj (beq_iff_eq.mp q)
  unfold clsIn at hcD
  split at hcD
  .rename_i z
   have y:=(X _ _ z).symm.trans htp
   cases y
  .cases hcD
 ca:=fun {_ _ _ _ _ s} X ⟨_,h1,h2⟩ k=>by
  obtain ⟨hh,g,d,t,os⟩:=s
  exact exc_class X F h1 h2 k
end
noncomputable def excO (a:Addr) (cls:Value) (dd:Option Addr):HO:=.ext fun h=>∃ o,h.get? a=some o /\ o.cls=cls /\ o.dict=dd /\ ∃ vs,o.data=.fields vs
section
variable {X:Cx}
theorem call_isExc:ZCI X (.builtin "isinstance") (fun xs H Q=>∃ a C c b dd,xs=[.ref a,c] /\ ZCr c=true /\ H a=some (excO a (.ref C) dd) /\ ExcC X.K C /\ PySem.W.hasDictIn X.K C=true /\ PySem.W.kitOne X.K (.ref C) (cval c)=some b /\ Q (.bl b) H):=by
 intro pins s σ H xs us Q I r h
 obtain ⟨a,C,c,b,dd,rfl,hc,ha,F,hd,e,q⟩:=h
 obtain ⟨u,w',rfl,r1,r2⟩:=ZDl r
 have e2:w'=cval c:=by
  cases c <;> first | (cases hc;done) | exact r2
 subst e2
 cases (show u=Value.ref a from r1)
 obtain ⟨⟨o,z1,z2,_⟩,_,_⟩:=(show ObjOk X.prog X.w H s.heap a (excO a (.ref C) dd) from I.hok a _ ha)
 have z:∃ o,s.heap.get? a=some o /\ o.cls=.ref C:=⟨o,z1,z2⟩
 exact kia_one (kitx_exc F hd) I.kIn z e (fun z=>nomatch z) fun tk=>⟨.bl b,H,I.tok tk,rfl,q⟩
end
open PySem PySem.Spec PySem.W PySem.Calls PyProof.Rows
theorem boot_ValueError:bootBuiltins "ValueError"=some (.type "ValueError"):=by decide +kernel
theorem ZAr {X:Cx} (K:W.Frag) (h:X.K=K:=by rfl):ZCI X (.builtin "isinstance") (fun xs H Q=>∃ a C c b dd,xs=[.ref a,c] /\ ZCr c=true /\ H a=some (excO a (.ref C) dd) /\ ExcC K C /\ PySem.W.hasDictIn K C=true /\ PySem.W.kitOne K (.ref C) (cval c)=some b /\ Q (.bl b) H):=h ▸ call_isExc
section
variable {X:Cx}
end
abbrev bmV:List Value:=[.type "ValueError",.type "Exception",.type "BaseException",.type "object"]
theorem exc_obj {K:W.Frag} {h:Heap} {C:Addr} {bmB:List Value} {newId:String} (X:K.In h) (q:excIn K C bmB newId=true):∃ bm N nm qn bs hdct sn sub ab col dd k0 k1 k2 k3 k5 mN,
  h.get? C=some (excClassObj nm qn C N bs bm hdct sn sub ab col dd k0 k1 k2 k3 k5 newId) /\ h.Ns N mN /\ mN "__init__"=none /\ OwnTail h bmB bm:=by
 unfold excIn at q
 split at q
 next dd cd sl ho=>
  split at q
  next C1 bm k0 k1 k2 k3 n1 k5 hm hs=>
   simp only [yAT,beq_iff_eq,Bool.not_eq_true'] at q
   obtain ⟨⟨⟨⟨⟨y1,y2⟩,y3⟩,y4⟩,y5⟩,y6⟩:=q
   subst y1 y2
   obtain ⟨nm,bs,mro,ns,qn,hd,sn,sub,ab,col,del⟩:=cd
   dsimp only at hm y3 y5 y6
   subst hm y3
   have z:sl=#[k0,k1,k2,k3,some (.builtin n1),k5]:=by
    cases sl
    simp only at hs
    rw [hs]
   subst z
   exact ⟨bm,ns,nm,qn,bs,hd,sn,sub,ab,col,dd,k0,k1,k2,k3,k5,_,X _ _ ho,.of_isNs (isNs_of_in X y5),nsMap_none_of_in X y5 y6,tail_of_in X y4⟩
  next=>cases q
 next=>cases q
noncomputable def ZDR (E:XK) (C:Addr):TS:=fun _ _ H=>E (.ref C) none H
section
variable {P:Program} {w:World} {K:W.Frag} {mg:Str->Option Value} {base:Heap} {N:List Str} {qual:Str} {scope:Scope} {f:Addr} {cd:Value} {A:Around} {outer:List Env} {s:Shared} {H:Hp} {E:XK}
theorem ZBb {x:Str} {C:Addr} {np cpos pos:Pos} (hq:excIn K C bmV "ValueError.__new__"=true) (hm:mg x=some (.ref C)) (hg:Gl (cxOf (CXE P w) P w K mg base N qual scope f cd A outer s H E) x) (hdb:(x == ("__debug__":Str))=false:=by decide) :
  PS (cxOf (CXE P w) P w K mg base N qual scope f cd A outer s H E) (.Raise (some (.Call (.Name x np) [] [] cpos)) none pos) (ZDR E C):=by
 intro pins s1 σ H1 D I hE
 obtain ⟨bm,N',nm,qn,bs,hdct,sn,sub,ab,col,dd,k0,k1,k2,k3,k5,mN,hC,hN,hni,T⟩:=exc_obj I.kIn hq
 refine wpAny_Raise_call_subU (C:=C) (N:=N') (nm:=nm) (q:=qn) (bs:=bs) (bm:=bm) (hdct:=hdct) (sn:=sn) (sub:=sub) (ab:=ab) (col:=col) (dd:=dd) (k0:=k0) (k1:=k1) (k2:=k2) (k3:=k3) (k5:=k5) (mN:=mN)
  PySem.F.excBase_ValueError PySem.F.excBase_ValueError.hasB PySem.F.excBase_ValueError (T.hasType PySem.F.excBase_ValueError.hasBase) (I.ok.hd rfl) rfl hni (ZCH I hg hm ⟨rfl,?_⟩ hdb)
 exact evalArgs_empty ⟨rfl,yBC _,hC,hN,T,fun h' e hx=>raisedX I hx hE⟩
theorem Fun.okX {x:Str} {st:Stmt} {fd:FuncData} {ps:List Str} {k:Nat} {sp:Sp} (F:Fun K x qual st f fd) (S:FnScope N ps (ZAB st)) (len:∀ vs H Q E,sp vs H Q E->vs.length=ps.length)
  (hbody:∀ (cdv:Value) (A:Around) (outer:List Env) (s:Shared) (H:Hp) (vs:List V) (Q:VK) (E:XK),Room k (A.deeper (envOfC qual (ZAB st) s.heap.objs.size f cdv))->sp vs H Q E ->
   ∃ t,PSs (cxOf (CXE P w) P w K mg base N qual (ZAB st) f cdv A outer s H E) (ZAH st) t /\ t { nx:=fun _ H'=>Q .non H',rt:=Q } (start N vs) H):FnOk P w K mg base (CXE P w) (k+1) f fd ps sp:=by
 obtain ⟨oc,od,kV,doc,pm,an,cdv,ct,osl,rfl,lk,hcd⟩:=F.ex
 exact fn_of lk hcd S len fun A outer s H vs Q E hr hsp=>hbody cdv A outer s H vs Q E hr hsp
end
theorem PS.nox {X:Cx} {st:Stmt} {t:TS} (h:PS X.nox st t):PS X st t:=fun pins s σ H D I hw=>
 wpAny_mono (h pins s σ H D (I.wish _) hw) (fun _ _ q=>q.unwish) fun _ _ z=>False.elim z
noncomputable def PassesS (CX:CXT) (X:Cx) (E:St->XK):Prop:=∀ (pins:List (Addr×Obj)) (σ:St) (H:Hp) (s:Shared) (e:Value) (s':Shared),Inv X pins σ H s->CX X.stack H s (E σ) e s'->X.xe e s'
noncomputable def ZDT (sp:Sp) (dvs:List V) (E:St->XK) (t:TA):TE:=fun σ H Q=>t σ H fun vs H1=>sp (vs++dvs) H1 Q (E σ)
section
variable {X:Cx} {CX:CXT} {k:Nat} {f:Addr} {fd:FuncData} {ps:List Str} {sp:Sp} {dvs:List V} {ds:List Value} {E:St->XK} {x:Str} {p pos:Pos} {e:Expr} {es:List Expr} {t:TA}
theorem run_fnS {pins:List (Addr×Obj)} {σ:St} {H:Hp} {s:Shared} {Q:VK} {E:XK} {us:List Value} {vs:List V} (F:FnOk X.prog X.w X.K X.mg X.base CX k f fd ps sp) (hr:Room k X.A) (hb:Binds X.K fd ps ds) (hd:Vals dvs ds) (hx:∀ e s',CX X.stack H s E e s'->X.xe e s')
  (I:Inv X pins σ H s) (r:Vals vs us) (h:sp (vs++dvs) H Q E):wpAny (model X.prog X.w) X.A (call (.ref f) us) (EP X pins σ Q) X.xe s:=by
 have r2:Vals (vs++dvs) (us++ds):=r.append hd
 have hl:(us++ds).length=ps.length:=by rw [<- r2.length];exact F.len _ _ _ _ h
 refine wpAny_call (codeAny_mono (F.run X.A X.stack s H ⟨us,[]⟩ (us++ds) (vs++dvs) Q E hr I.env0 (hb s us I.kIn hl) r2 h) fun r s' hq=>?_)
 cases r with
 | error e=>exact hx e s' hq
 | ok fl=>
  cases fl with
  | ret u=>exact I.after hq
  | next=>exact False.elim hq
  | brk=>exact False.elim hq
  | cont=>exact False.elim hq
theorem pe_fnS (F:Fn X.prog X.w X.K X.mg X.base CX x k ps sp) (hr:Room k X.A) (hg:Gl X x) (hx:PassesS CX X E)
  (ha:PA X (e::es) t) (hdb:(x == ("__debug__":Str))=false:=by decide) (he:starEach (e::es) X.env=(false,eval e X.env)::starEach es X.env:=by rfl) (hpl:(backTo pos (starEach es X.env)).any (·.1)=false:=by rfl) :
  PE X (.Call (.Name x p) (e::es) [] pos) (ZDT sp [] E t):=by
 obtain ⟨f,fd,h1,h2,h3,h4⟩:=F.ex
 intro pins s σ H Q I h
 refine wpAny_Call_Name_kw (ZCH I hg h4 ?_ hdb)
 refine PySem.W.callWith_K (h₀:=X.base) I.ok.mod.kin h3 (thn (ha pos pins s σ H _ I h) fun us s1 ⟨vs,H1,I1,r,q⟩=>⟨I1.kIn,?_⟩) he hpl
 exact run_fnS h1 hr h2 .nil (fun e s' z=>hx pins σ H1 s1 e s' I1 z) I1 r q
end
noncomputable abbrev Cx.tries (X:Cx) (pn:List (Addr×Obj)) (xe:Value->Shared->Prop):Cx:={ X with pn:=pn,xe:=xe }
noncomputable abbrev Cx.handles (X:Cx) (e:Addr):Cx:={ X with A:=X.A.mark (some (.ref e)),calm:=false,xe:=fun _ _=>False }
section
variable {X:Cx} {pins pins':List (Addr×Obj)} {σ:St} {H:Hp} {s:Shared} {xe:Value->Shared->Prop} {e:Addr}
theorem Inv.toTry (I:Inv X pins σ H s):Inv (X.tries (X.pn++pins) xe) [] σ H s :=
 ⟨⟨I.ok.mod,I.ok.kind,I.ok.glob,I.ok.blt,I.ok.above,I.ok.inj,I.ok.has,I.ok.cab,I.ok.hd,I.ok.frames,I.ok.stk,I.ok.exf,I.ok.bs,I.ok.bsz,I.ok.noex,I.ok.exfs,I.ok.funs,I.ok.frf⟩,I.os,I.bare,I.base,I.loc,I.cell,I.free,I.freeC,fun p hp=>I.pin p (by simpa using hp),I.hok,I.len⟩
theorem Inv.ofTry (I:Inv (X.tries (X.pn++pins) xe) pins' σ H s):Inv X pins σ H s :=
 ⟨⟨I.ok.mod,I.ok.kind,I.ok.glob,I.ok.blt,I.ok.above,I.ok.inj,I.ok.has,I.ok.cab,I.ok.hd,I.ok.frames,I.ok.stk,I.ok.exf,I.ok.bs,I.ok.bsz,I.ok.noex,I.ok.exfs,I.ok.funs,I.ok.frf⟩,I.os,I.bare,I.base,I.loc,I.cell,I.free,I.freeC,fun p hp=>I.pin p (yBF _ hp),I.hok,I.len⟩
theorem Inv.toH (I:Inv X pins σ H s) (e:Addr):Inv (X.handles e) pins σ H s :=
 ⟨⟨I.ok.mod,I.ok.kind,I.ok.glob,I.ok.blt,I.ok.above,I.ok.inj,I.ok.has,I.ok.cab,(fun z=>nomatch z),I.ok.frames,I.ok.stk,I.ok.exf,I.ok.bs,I.ok.bsz,I.ok.noex,I.ok.exfs,I.ok.funs,I.ok.frf⟩,I.os,I.bare,I.base,I.loc,I.cell,I.free,I.freeC,I.pin,I.hok,I.len⟩
theorem Inv.ofH (I:Inv (X.handles e) pins σ H s) (ok:X.Ok):Inv X pins σ H s:=⟨ok,I.os,I.bare,I.base,I.loc,I.cell,I.free,I.freeC,I.pin,I.hok,I.len⟩
theorem SP.ofTry {D:Ends} {f:Flow} (h:SP (X.tries (X.pn++pins) xe) pins' D f s):SP X pins D f s:=by
 cases f with
 | next=>obtain ⟨σ',H',I,q⟩:=h;exact ⟨σ',H',I.ofTry,q⟩
 | brk=>obtain ⟨σ',H',I,q⟩:=h;exact ⟨σ',H',I.ofTry,q⟩
 | cont=>obtain ⟨σ',H',I,q⟩:=h;exact ⟨σ',H',I.ofTry,q⟩
 | ret u=>obtain ⟨v,σ',H',I,r,q⟩:=h;exact ⟨v,σ',H',I.ofTry,r,q⟩
theorem Inv.track {o:HO} (I:Inv X pins σ H s) (h0:X.s₀.heap.get? e=none) (hL:e≠X.env.locals) (hC:∀ x c,X.env.cells.lookup x=some c->c≠e) (hp:∀ p∈X.pn++pins,p.1≠e) (hn:H e=none) (new:ObjOk X.prog X.w (upd H e o) s.heap e o):Inv X pins σ (upd H e o) s:=by
 have k:∀ b u,H b=some u->upd H e o b=some u:=fun b u q=>by rw [ZAS (ZAU q hn)];exact q
 refine ⟨I.ok,I.os,I.bare,⟨I.base.keep,I.base.slot,fun b ob q n hx=>?_,I.base.there,fun b xs q=>k _ _ (I.base.tups b xs q),fun b ob u q=>k _ _ (I.base.frzs b ob u q),fun b ps q=>?_⟩,I.loc,I.cell,?_,fun x c q=>?_,fun p hp'=>?_,fun b u q=>?_,I.len⟩
 .rw [ZAS (fun z=>by rw [z,h0] at q;cases q)]
  exact I.base.free b ob q n hx
 .obtain ⟨m,hm⟩:=I.base.tbls b ps q
  exact ⟨m,k _ _ hm⟩
 .rw [ZAS (Ne.symm hL)];exact I.free
 .rw [ZAS (hC x c q)];exact I.freeC x c q
 .obtain ⟨q1,q2,q3,q4,q5⟩:=I.pin p hp'
  exact ⟨q1,by rw [ZAS (hp p hp')];exact q2,q3,q4,q5⟩
 .by_cases z:b=e
  .subst z
   rw [ZAI] at q
   cases q
   exact new
  .rw [ZAS z] at q
   exact (I.hok b u q).stay (fun _ _ _ y=>y) (fun c y=>k _ _ y) fun c xs y=>k _ _ y
theorem Inv.gone {i t':Nat} {x:Str} {m:Str->Option Value} {v:Option Value} {h':Heap} (I:Inv X pins σ H s) (hN:X.N.Nodup) (hi:X.N[i]?=some x) (hn:s.heap.Ns X.env.locals m) (hn':h'.Ns X.env.locals (fun y=>if y=x then v else m y)) (hs:Heap.SameBut X.env.locals s.heap h') :
  Inv X pins (σ.set i none) H { s with heap:=h',toks:=t' }:=by
 obtain ⟨m0,hn0,hl⟩:=I.loc
 obtain ⟨oL,_,_,hoL,_⟩:=id hn
 have hm:m0=m:=by
  obtain ⟨o1,es1,ep1,ho1,hd1,_,hf1⟩:=hn0
  obtain ⟨o2,es2,ep2,ho2,hd2,_,hf2⟩:=hn
  rw [ho1] at ho2
  cases ho2
  rw [hd1] at hd2
  cases hd2
  funext y
  rw [<- hf1 y,<- hf2 y]
 subst hm
 have nL:∀ b ob,X.s₀.heap.get? b=some ob->b≠X.env.locals:=fun b ob q=>yAF (yAJ (Heap.lt_size q) I.ok.above)
 refine ⟨I.ok,I.os,I.bare,⟨fun b o q n hb hx=>(hs.2 b (nL b o q)).trans (I.base.keep b o q n hb hx),fun b o q n hb hx=>?_,I.base.free,fun b o q hx=>?_,I.base.tups,I.base.frzs,I.base.tbls⟩,⟨_,hn',fun j y v' q1 q2 q3=>?_⟩,fun y c q=>?_,I.free,I.freeC,fun p hp=>?_,fun b u q=>?_,by simpa using I.len⟩
 .obtain ⟨sl,q1⟩:=I.base.slot b o q n hb hx
  exact ⟨sl,(hs.2 b (nL b o q)).trans q1⟩
 .obtain ⟨o',q1⟩:=I.base.there b o q hx
  exact ⟨o',(hs.2 b (nL b o q)).trans q1⟩
 .by_cases hj:j=i
  .subst hj
   by_cases hlen:j < σ.length
   .rw [List.getElem?_set_self hlen] at q2;cases q2
   .rw [List.getElem?_eq_none (by rw [List.length_set];omega)] at q2;cases q2
  .rw [List.getElem?_set_ne (Ne.symm hj)] at q2
   obtain ⟨u',r',q⟩:=hl j y v' q1 q2 q3
   refine ⟨u',r',?_⟩
   rcases q with ⟨k,q⟩ | ⟨k,c,q,z⟩
   .have:y≠x:=fun z=>hj (ZCo hN q1 (z ▸ hi))
    exact .inl ⟨k,by simp [this,q]⟩
   .exact .inr ⟨k,c,q,z.sameBut hs (I.cne y c q)⟩
 .obtain ⟨w',z⟩:=I.cell y c q
  exact ⟨w',z.sameBut hs (I.cne y c q)⟩
 .obtain ⟨q,n,ne,nf,d⟩:=I.pin p hp
  exact ⟨(hs.2 p.1 ne).trans q,n,ne,nf,d⟩
 .refine (I.hok b u q).stay (fun c w' hc z=>(hs.2 c ?_).trans z) (fun _ z=>z) fun _ _ z=>z
  rintro rfl
  rcases hc with y | y
  .rw [<- y,I.free] at q;cases q
  .rw [I.free] at y;cases y
end
noncomputable def Ehit (K:W.Frag) (HC:Addr) (i:Nat) (ts:TS) (D:Ends):St->XK:=fun σ cls dd H'=>exmOne K cls (.ref HC)=some true /\ ∀ ea,H' ea=none ->
 ts { nx:=fun σ' H''=>D.nx (σ'.set i none) H'',rt:=D.rt,bk:=fun σ' H''=>D.bk (σ'.set i none) H'',ct:=fun σ' H''=>D.ct (σ'.set i none) H'' } (σ.set i (some (.ref ea))) (upd H' ea (excO ea cls dd))
noncomputable def tTry (K:W.Frag) (HC:Addr) (i:Nat) (tb:(St->XK)->TS) (ts:TS):TS:=fun D σ H=>tb (Ehit K HC i ts D) D σ H
theorem ps_try {X:Cx} {body suite:List Stmt} {b₀:Stmt} {x n:Str} {i:Nat} {HC:Addr} {np hpos pos:Pos} {tb:(St->XK)->TS} {ts:TS} (hstk:X.stack=X.env::X.outer /\ X.env.frame=some X.env.locals) (hex:X.ex=[]) (hg:Gl X x) (hm:X.mg x=some (.ref HC))
  (hN:X.N.Nodup) (hi:X.N[i]?=some n) (hl:X.env.scope.names.lookup n=some .local)
  (hb:∀ (pn:List (Addr×Obj)) (xe:Value->Shared->Prop) (E:St->XK),PassesS (CXE X.prog X.w) (X.tries pn xe) E->PSs (X.tries pn xe) body (tb E)) (hs:∀ e,PSs (X.handles e) (b₀::suite) ts) (hdb:(x == ("__debug__":Str))=false:=by decide) :
  PS X (.Try body [.ExceptHandler (some (.Name x np)) (some n) (b₀::suite) hpos] [] [] pos) (tTry X.K HC i tb ts):=by
 intro pins s σ H D I hw
 refine wpAny_Try_except ?_
 refine wpAny_mono (hb (X.pn++pins) _ (Ehit X.K HC i ts D) ?_ [] s σ H D I.toTry hw) (fun f s1 q=>?_) fun e s1 q=>q
 .intro pins' σ1 H1 s1 e s2 I1 hc
  obtain ⟨ea,cls,dd,H',rfl,os,bare,un,hok,⟨B,a0,fl,hout,hnew,hB⟩,hmt,hE⟩:=hc
  have J:Inv X pins σ1 H1 s1:=I1.ofTry
  obtain ⟨e1,e2⟩:=hstk
  have un:Un (frs X.stack) [] H1 H' s1.heap s2.heap:=un
  have fr:=J.stkFree2 un
  have af:X.A.frames=some (X.env::X.outer):=by rw [<- e1];exact J.ok.frames
  have fl:Heap.FlyingD B (X.env::X.outer) ea cls (a0,dd) s2.heap:=by rw [<- e1];exact fl
  have ff:s2.heap.FunFrames B X.stack:=by rw [e1];exact fl.2.2.1
  have nx:∀ h5,Heap.FlyingD B (X.env::X.outer) ea cls (a0,dd) h5->s2.heap.UpToSlots h5->Inv X pins σ1 H' { s2 with heap:=h5 }:=fun h5 f5 u5=>J.call' os (un.fly hB f5.1 u5 ff) (hok.fly hB f5.1 fr) bare fun b z=>nomatch z
  refine wpAny_looks_onD af e2 fl fun h3 held up3=>?_
  refine wpAny_landsD held fun h4 fl4 up4=>?_
  have I4:=nx h4 fl4 (up3.trans up4)
  obtain ⟨ob,hob,hcl⟩:=fl4.there
  refine wpAny_handleBy_cons (codeAny_handlers_test ?_) (by intro q;cases q)
  refine ZCH (X:=X.handles ea) (I4.toH ea) hg hm ?_ hdb
  refine (exm_one I4.kIn (hcl ▸ (Looks.ld hob).andThen .now) hmt).here ?_
  refine codeAny_handlers_suite_as ?_
  refine PySem.LANDS2_ fl4 fun h6 fl6 up6=>?_
  have I6:=nx h6 fl6 ((up3.trans up4).trans up6)
  obtain ⟨ob6,hob6,hcl6,hdd6⟩:=fl6.thereD
  refine store_ok2 I6 hN hi (.inl hl) (show RelV (.ref ea) (.ref ea) from rfl) (fun s7 I7 hsb=>?_) (.inr hl)
  have nL:ea≠X.env.locals:=fun z=>by
   obtain ⟨m,⟨o,_,_,ho,_⟩,_⟩:=J.loc
   rw [<- z,hnew] at ho;cases ho
  have nC:∀ x c,X.env.cells.lookup x=some c->c≠ea:=fun x c q z=>by
   obtain ⟨v,o,ho,_⟩:=J.cell x c q
   rw [z,hnew] at ho;cases ho
  have hob7:s7.heap.get? ea=some ob6:=by
   obtain ⟨a,sb,z⟩:=hsb
   refine (sb.2 ea ?_).trans hob6
   rcases z with z | z
   .rw [z];exact nL
   .exact Ne.symm (nC _ _ z)
  have I8:=(I7.track (e:=ea) (o:=excO ea cls dd) (by
   cases q:X.s₀.heap.get? ea with
   | none=>rfl
   | some o=>
    obtain ⟨o1,z⟩:=J.base.there ea o q (by rw [hex];exact yBK)
    rw [hnew] at z;cases z) nL nC (fun p hp z=>by
   have:=(J.pin p hp).1
   rw [z,hnew] at this;cases this) hout ⟨⟨ob6,hob7,hcl6,hdd6⟩,⟨ob6,hob7⟩,fun g1 g2 ⟨o,z1,z2⟩ k=>⟨o,k o z1,z2⟩⟩).toH ea
  refine wpAny_mono (hs ea pins s7 _ _ _ I8 (hE ea hout)) (fun f s8 q8=>?_) fun _ _ z=>z.elim
  have kd:(X.env.scope.kind == .class || (X.env.scope.kind == .module && X.env.locals != X.env.globals))=false:=by rw [J.ok.kind];rfl
  cases f with
  | next=>
   obtain ⟨σ',H'',I',q⟩:=q8
   have I':=I'.ofH J.ok
   obtain ⟨m,hn,_⟩:=I'.loc
   exact wpAny_nameGoes_keeps hl hn kd fun h9 v hn9 sb9=>⟨_,_,I'.gone hN hi hn hn9 sb9,q⟩
  | brk=>
   obtain ⟨σ',H'',I',q⟩:=q8
   have I':=I'.ofH J.ok
   obtain ⟨m,hn,_⟩:=I'.loc
   exact wpAny_nameGoes_keeps hl hn kd fun h9 v hn9 sb9=>⟨_,_,I'.gone hN hi hn hn9 sb9,q⟩
  | cont=>
   obtain ⟨σ',H'',I',q⟩:=q8
   have I':=I'.ofH J.ok
   obtain ⟨m,hn,_⟩:=I'.loc
   exact wpAny_nameGoes_keeps hl hn kd fun h9 v hn9 sb9=>⟨_,_,I'.gone hN hi hn hn9 sb9,q⟩
  | ret u=>
   obtain ⟨v',σ',H'',I',r,q⟩:=q8
   have I':=I'.ofH J.ok
   obtain ⟨m,hn,_⟩:=I'.loc
   exact wpAny_nameGoes_keeps hl hn kd fun h9 v hn9 sb9=>⟨_,_,_,I'.gone hN hi hn hn9 sb9,r,q⟩
 .have q':SP X pins D f s1:=q.ofTry
  cases f with
  | next=>exact wpAny_execs_nil q'
  | brk=>exact q'
  | cont=>exact q'
  | ret u=>exact q'
open PySem PySem.Spec PySem.W PySem.Calls PyProof.Rows Builtin.Getset_descriptor Builtin.ObjectAttr
section
variable {prog:Program} {w:World} {A:Around} {E:Value->Shared->Prop} {K:W.Frag} {a C:Addr} {o:Obj} {h:Heap} {g:Array GenState} {d:Drawn} {t:Nat} {os:OsState}
end
open PySem PySem.Spec PySem.W PySem.Calls PyProof.Rows
section
variable {prog:Program} {w:World} {A:Around} {E:Value->Shared->Prop} {h:Heap} {g:Array GenState} {d:Drawn} {t:Nat} {os:OsState}
variable {nm q:Str} {C N:Addr} {bs bm bmB:List Value} {hdct:Bool} {sn:List Str} {sub:List Value} {ab:Bool} {col:Option Bool} {dd:Option Addr} {k0 k1 k2 k3 k5:Option Value} {B Bn newId nid initId inN:String} {bmN:List Value}
end
section
variable {M:Model} {A:Around} {E:Value->Shared->Prop} {env:Env}
variable {nm q:Str} {C N:Addr} {bs bm:List Value} {hdct:Bool} {sn:List Str} {sub:List Value} {ab:Bool} {col:Option Bool} {dd:Option Addr} {k0 k1 k2 k3 k5:Option Value} {newId:String}
end
open PySem PySem.Spec PySem.W PySem.Calls PyProof.Rows Builtin.Getset_descriptor Builtin.ObjectAttr
noncomputable def excM (a:Addr) (cls:Value) (dd:Option Addr):HO:=.ext fun h=>∃ o,h.get? a=some o /\ o.cls=cls /\ o.dict=dd /\ ∃ vs,o.data=.fields vs /\ vs[1]?=some .none /\ ∃ a0,vs[0]?=some a0
section
variable {X:Cx}
end
section
variable {X:Cx} {x name:Str} {C:Addr} {np apos pos:Pos} {e:Expr} {es:List Expr} {t:TA} {r:List V->Hp->VK->Prop} {id:String}
end
noncomputable def tFS (te:TE):TE:=fun σ H Q=>te σ H fun x H1=>∃ i:Int,x=.int i /\ i.natAbs.log2 < 1920 /\ ∀ y,Q (.str y) H1
section
variable {X:Cx} {v c1 c2:Expr} {s1 s2:Str} {te:TE} {p pos:Pos}
end
noncomputable def overTail:List Value->Bool
 | .ref c::r=>overTail r
 | l=>l == bmV
noncomputable def excOver (K:Frag) (C:Addr):Bool:=(clsIn K C).any fun cd=>overTail cd.mro
section
variable {prog:Program} {w:World} {A:Around} {R:Result->Shared->Prop} {s:Shared} {K:Frag} {x C:Addr}
end
noncomputable def xdM (d:Addr) (fs:List (Str×V)):HO:=.ext fun h=>∃ mA,h.Ns1 d mA /\ ∀ f,RelO (fs.lookup f) (mA f)
structure XCls (K:Frag) (C:Addr):Prop where
 hd:hasDictIn K C=true
 ov:excOver K C=true
 sa:findIn K (.ref C) "__setattr__"=some (some (.builtin "object.__setattr__"))
section
variable {X:Cx} {pins:List (Addr×Obj)} {σ:St} {H:Hp} {s:Shared} {A:Around} {E:Value->Shared->Prop} {a C:Addr} {f:Str}
end
noncomputable def sXFld (K:Frag) (ta tv:TE) (f:Str):TS:=fun D σ H=>tv σ H fun y H1=>ta σ H1 fun x H2=>∃ a C dd,x=.ref a /\ H2 a=some (excM a (.ref C) dd) /\ XCls K C /\ NoAttr K C f /\
 ((dd=none /\ ∀ d,H2 d=none->d≠a->D.nx σ (upd (upd H2 d (xdM d [(f,y)])) a (excM a (.ref C) (some d))))∨∃ d fs,dd=some d /\ d≠a /\ H2 d=some (xdM d fs) /\ fs.length < 1000 /\ D.nx σ (upd H2 d (xdM d (putF f y fs))))
section
variable {X:Cx} {CX:CXT} {k:Nat} {f C:Addr} {fd:FuncData} {ps:List Str} {sp:Sp} {x:Str} {p pos:Pos} {e:Expr} {es:List Expr} {t:TA} {E:XK}
noncomputable def tXMk (C:Addr) (sp:Sp) (E:XK) (t:TA):TE:=fun σ H Q=>t σ H fun vs H1=>vs.length <= 1000 /\ ∀ x,H1 x=none->sp (.ref x::vs) (upd H1 x (excM x (.ref C) none)) (fun v H2=>v=.non /\ Q (.ref x) H2) E
end
noncomputable def forget (H:Hp) (a:Addr):Hp:=fun b=>if b=a then none else H b
noncomputable def tRaiseX (E:XK) (C:Addr) (sp:Sp) (t:TA):TS:=fun _ σ H=>t σ H fun vs H1=>vs.length <= 1000 /\ ∀ x,H1 x=none->sp (.ref x::vs) (upd H1 x (excM x (.ref C) none)) (fun v H2=>v=.non /\ ∃ dd,H2 x=some (excM x (.ref C) dd) /\ E (.ref C) dd (forget H2 x)) E0
section
variable {P:Program} {w:World} {K:W.Frag} {mg:Str->Option Value} {base:Heap} {N:List Str} {qual:Str} {scope:Scope} {f:Addr} {cd:Value} {A:Around} {outer:List Env} {s:Shared} {H:Hp} {E:XK}
variable {CX:CXT} {k:Nat} {fI C:Addr} {fd:FuncData} {ps:List Str} {sp:Sp} {x:Str} {np cpos pos:Pos} {e:Expr} {es:List Expr} {t:TA}
end
section
variable {κ:Type} [DecidableEq κ]
end
section
variable {P:Program} {w:World} {H:Hp} {h:Heap} {a:Addr}
end
section
variable {X:Cx} {pins:List (Addr×Obj)} {σ:St} {H:Hp} {s:Shared} {a:Addr} {y v:V} {u r:Value} {o:Option V} {A:Around} {E:Value->Shared->Prop}
end
section
variable {X:Cx} {pins:List (Addr×Obj)} {σ:St} {H:Hp} {s:Shared} {a:Addr} {kvs:List (Key×V)} {k:Key} {u:Value} {A:Around} {E:Value->Shared->Prop}
end
section
variable {X:Cx} {o i e value:Expr} {pos pos' tpos:Pos} {td ty tv:TE}
end
section
variable {X:Cx} {pos:Pos}
end
end L2
namespace PySem
open Sem (wp)
namespace F
end F
section
variable {α:Type} {prog:Program} {w:World} {A:Around} {E:Value->Shared->Prop} {s:Shared}
end
section
variable {prog:Program} {w:World} {A:Around} {E:Value->Shared->Prop} {h:Heap} {g:Array GenState} {d:Drawn} {t:Nat} {os:OsState} {a:Addr} {its:Array Value} {n:Nat}
end
end PySem
namespace PySem
namespace F
end F
end PySem
namespace L2
open PySem PySem.Spec PyProof.Rows
section
variable {X:Cx} {pins:List (Addr×Obj)} {σ:St} {H:Hp} {s1:Shared} {A:Around}
end
end L2
namespace PySem
section
variable {prog:Program} {w:World} {A:Around} {E:Value->Shared->Prop} {s:Shared} {zo ti to:Addr} {f0 f1:Value}
end
end PySem
namespace L2
open PySem PySem.Spec PyProof.Rows
section
variable {X:Cx}
end
section
variable {K:W.Frag} {a b:Addr} {xs ys:List V} {g:TG} {σ:St} {H:Hp} {tt:TT} {te:TE} {Q:VK} {σ0:St}
end
section
variable {X:Cx}
end
section
variable {X:Cx}
end
section
variable {X:Cx}
end
open PySem PySem.Spec PySem.W PySem.Calls PyProof.Rows Builtin.Getset_descriptor Builtin.ObjectAttr
section
variable {X:Cx} {CX:CXT} {k:Nat} {ps:List Str} {sp:Sp} {E:XK} {x m:Str} {C:Addr} {p np pos apos:Pos} {e o:Expr} {es:List Expr} {ta:TE} {t:TA}
end
section
variable {P:Program} {w:World} {K:W.Frag} {mg:Str->Option Value} {base:Heap} {N:List Str} {qual:Str} {scope:Scope} {f:Addr} {cd:Value} {A:Around} {outer:List Env} {s:Shared} {H:Hp} {E:XK}
variable {CX:CXT} {k:Nat} {C:Addr} {ps:List Str} {sp:Sp} {x:Str} {np cpos pos:Pos} {e:Expr} {es:List Expr} {t:TA}
end
noncomputable def tMethS (C:Addr) (m:Str) (sp:Sp) (E:St->XK) (ta:TE) (t:TA):TE:=fun σ H Q=>ta σ H fun x H1=>∃ a dx fs,x=.ref a /\ H1 a=some (.ins C dx fs) /\ fs.lookup m=none /\ t σ H1 fun vs H2=>sp (x::vs) H2 Q (E σ)
section
variable {X:Cx} {CX:CXT} {k:Nat} {ps:List Str} {sp:Sp} {E:St->XK} {x m:Str} {C:Addr} {p pos apos:Pos} {e o:Expr} {es:List Expr} {ta:TE} {t:TA}
end
section
variable {P:Program} {w:World} {K:W.Frag} {mg:Str->Option Value} {base:Heap} {N ps:List Str} {qual:Str} {scope:Scope} {f:Addr} {cd:Value} {A:Around} {outer:List Env} {s s1:Shared} {H:Hp} {E:XK} {us:List Value} {vs:List V}
end
section
variable {X:Cx} {k:Nat} {ps:List Str} {sp:Sp} {x:Str} {p pos:Pos} {e:Expr} {es:List Expr} {t:TA}
end
noncomputable def tXFldM (K:W.Frag) (ta:TE) (f:Str):TE:=fun σ H Q=>ta σ H fun x H1=>∃ a C d fs v,x=.ref a /\ (H1 a=some (excO a (.ref C) (some d))∨H1 a=some (excM a (.ref C) (some d))) /\ H1 d=some (xdM d fs) /\ ExcC K C /\ PySem.W.hasDictIn K C=true /\ W.findIn K (.ref C) f=some none /\ fs.lookup f=some v /\ Q v H1
end L2
namespace PySem
section
variable {M:Model} {A:Around} {E:Value->Shared->Prop} {s:Shared}
end
end PySem
namespace L2
open PySem PySem.Spec PySem.W PySem.Calls PyProof.Rows
theorem ObjOk.ex {P:Program} {w:World} {H:Hp} {h:Heap} {a:Addr} {o:HO} (x:ObjOk P w H h a o):∃ ob,h.get? a=some ob:=by
 cases o with
 | lst xs=>obtain ⟨_,_,_,_,e⟩:=x;exact ⟨_,e⟩
 | tup xs=>obtain ⟨_,_,_,ob,e,_⟩:=x;exact ⟨_,e⟩
 | dK kvs=>obtain ⟨_,_,_,_,ob,es,ep,e,_⟩:=x;exact ⟨_,e⟩
 | dT kvs=>obtain ⟨_,_,_,_,ob,es,ep,e,_⟩:=x;exact ⟨_,e⟩
 | set S n=>obtain ⟨ob,es,ep,t,e,_⟩:=x;exact ⟨_,e⟩
 | ins C dx fs=>obtain ⟨_,_,_,e,_⟩:=x;exact ⟨_,e⟩
 | own y=>obtain ⟨_,e⟩:=x;exact ⟨_,e⟩
 | xd fs=>obtain ⟨_,⟨_,_,_,e,_⟩,_⟩:=x;exact ⟨_,e⟩
 | rng lo hi=>obtain ⟨_,_,_,e⟩:=x;exact ⟨_,e⟩
 | frz ob u=>obtain ⟨e,_⟩:=x;exact ⟨_,e⟩
 | tbl ps=>exact ⟨_,(show h.get? a=some _ from x)⟩
 | met f y=>exact ⟨_,(show h.get? a=some _ from x)⟩
 | ext φ=>obtain ⟨_,⟨_,e⟩,_⟩:=x;exact ⟨_,e⟩
noncomputable def XF (X:Cx) (E:XK):Value->Shared->Prop:=fun e s'=>∃ (pins:List (Addr×Obj)) (σ:St) (H1:Hp) (s1:Shared) (ea:Addr) (cls:Value) (dd:Option Addr) (H':Hp) (B:Heap) (a0:Value) (fl:Value),
 e=.ref ea /\ Inv X pins σ H1 s1 /\ s'.os=s1.os /\ AllBare s'.gens /\ Un (frs X.stack) [] H1 H' s1.heap s'.heap /\ HOk X.prog X.w H' s'.heap /\ H' ea=none /\ s1.heap.get? ea=none /\
 (fl=.none∨fl=rawInt X.env.locals) /\ B.StaysIn s'.heap /\ B.get? ea=none /\ s'.heap.FunFrames B X.stack /\ s'.heap.TracedAtD B ea cls (a0,dd) fl /\
 (∀ b o,s'.heap.get? b=some o->b∉frs X.stack->(H' b≠none∨∃ o0,s1.heap.get? b=some o0)->B.get? b=some o) /\ E cls dd H'
section
variable {X:Cx} {E:XK}
theorem XF.next {pins:List (Addr×Obj)} {σ:St} {H1 H':Hp} {s1 s':Shared} {h2:Heap} {ea:Addr} {cls:Value} {dd:Option Addr} {B:Heap} {a0 fl:Value} (I:Inv X pins σ H1 s1) (os:s'.os=s1.os) (bare:AllBare s'.gens) (un:Un (frs X.stack) [] H1 H' s1.heap s'.heap) (hok:HOk X.prog X.w H' s'.heap) (hout:H' ea=none) (hnew:s1.heap.get? ea=none)
  (ff:s'.heap.FunFrames B X.stack) (hB:∀ b o,s'.heap.get? b=some o->b∉frs X.stack->(H' b≠none∨∃ o0,s1.heap.get? b=some o0)->B.get? b=some o) (hE:E cls dd H') (hfl:fl=.none∨fl=rawInt X.env.locals)
  (up:s'.heap.UpToSlots h2) (k1:B.StaysIn h2) (k2:B.get? ea=none) (k3:h2.FunFrames B X.stack) (k4:h2.TracedAtD B ea cls (a0,dd) fl):XF X E (.ref ea) { s' with heap:=h2 }:=by
 refine ⟨pins,σ,H1,s1,ea,cls,dd,H',B,a0,fl,rfl,I,os,bare,un.fly hB k1 up ff,hok.fly hB k1 (I.stkFree2 un),hout,hnew,hfl,k1,k2,k3,k4,fun b o ho nb hor=>?_,hE⟩
 have:∃ o1,s'.heap.get? b=some o1:=by
  rcases hor with y | ⟨o0,y⟩
  .obtain ⟨u,hu⟩:=Option.ne_none_iff_exists'.mp y
   exact (hok b u hu).ex
  .exact un.there b o0 y (fun z=>nomatch z)
 obtain ⟨o1,h1⟩:=this
 have h3:=hB b o1 h1 nb hor
 have h4:=k1 b o1 h3
 rw [ho] at h4
 cases h4
 exact h3
end
section
variable {P:Program} {w:World} {K:W.Frag} {mg:Str->Option Value} {base:Heap} {N:List Str} {qual:Str} {scope:Scope} {f:Addr} {cd:Value} {A:Around} {outer:List Env} {s:Shared} {H:Hp} {E:XK}
theorem XF.xe {e:Value} {s':Shared} (hx:XF (cxOf (CXE P w) P w K mg base N qual scope f cd A outer s H E) E e s'):(cxOf (CXE P w) P w K mg base N qual scope f cd A outer s H E).xe e s':=by
 obtain ⟨pins,σ,H1,s1,ea,cls,dd,H',B,a0,fl,rfl,I,os,bare,un,hok,hout,hnew,hfl,f1,f2,f3,f4,hB,hE⟩:=hx
 rcases hfl with rfl | rfl
 .exact wpAny_leaves_onD (base:=B) I.ok.frames rfl ⟨f1,f2,f3,f4⟩ fun h' fl' up=>ZDN I un hok hB f3 up fl' hout hnew os bare hE
 .show wpAny _ _ (leaving _ _) _ _ _
  unfold leaving
  refine wpAny_bind (wpAny_noteFrame_againD rfl f4 ?_)
  refine wpAny_landsD (L:=(cxOf (CXE P w) P w K mg base N qual scope f cd A outer s H E).env.locals) ⟨f1,f2,f3,f4⟩ fun h' hfl up=>?_
  obtain ⟨k1,k2,⟨_,_,k3⟩,k4⟩:=hfl
  exact ZDN I un hok hB f3 up ⟨k1,k2,k3,k4⟩ hout hnew os bare hE
theorem PS.inX {st:Stmt} {t:TS} (h:PS ((cxOf (CXE P w) P w K mg base N qual scope f cd A outer s H E).wish (XF (cxOf (CXE P w) P w K mg base N qual scope f cd A outer s H E) E)) st t):PS (cxOf (CXE P w) P w K mg base N qual scope f cd A outer s H E) st t:=fun pins s1 σ H1 D I hw=>
 wpAny_mono (h pins s1 σ H1 D (I.wish _) hw) (fun _ _ q=>q.unwish) fun _ _ z=>z.xe
end
noncomputable def Ehit0 (K:W.Frag) (HC:Addr) (ts:TS) (D:Ends):St->XK:=fun σ cls dd H'=>exmOne K cls (.ref HC)=some true /\ ts D σ H'
noncomputable def tTry0 (K:W.Frag) (HC:Addr) (tb:(St->XK)->TS) (ts:TS):TS:=fun D σ H=>tb (Ehit0 K HC ts D) D σ H
section
variable {X:Cx} {CX:CXT} {k:Nat} {ps:List Str} {sp:Sp} {E:St->XK} {m:Str} {C:Addr} {pos apos:Pos} {o:Expr} {ta:TE}
end
end L2
namespace PySem
section
variable {M:Model} {A:Around} {E:Value->Shared->Prop} {s:Shared}
end
end PySem
namespace L2
open PySem PySem.Spec PySem.W PySem.Calls PyProof.Rows
section
variable {X:Cx} {E:XK}
end
section
variable {P:Program} {w:World} {K:W.Frag} {mg:Str->Option Value} {base:Heap} {N:List Str} {qual:Str} {scope:Scope} {f:Addr} {cd:Value} {A:Around} {outer:List Env} {s:Shared} {H:Hp} {E:XK}
end
section
variable {X:Cx} {E:XK} {CX:CXT} {k:Nat} {C:Addr} {ps:List Str} {sp:Sp} {x:Str} {np cpos pos:Pos} {e:Expr} {es:List Expr} {t:TA}
end
open PySem PySem.Spec PyProof.Rows
section
variable {X:Cx}
theorem ZBG:OpR X (binaryOp .Add) (fun x y H Q=>∃ i j,x=.str i /\ y=.str j /\ i.length+j.length <= 2000000 /\ Q (.str (i++j)) H):=by
 intro pins s σ H x y v u Q I rx ry h
 obtain ⟨i,j,rfl,rfl,hz,q⟩:=h
 obtain ⟨t,rfl⟩:=rx
 obtain ⟨t',rfl⟩:=ry
 exact SB.add (fun t' k=>⟨.str (i++j),H,I.tok _,⟨_,rfl⟩,q⟩) (by rw [sizeLine_eq];omega)
theorem strs_of:∀ {ys:List Str} {us:List Value},Vals (ys.map V.str) us->StrsAre us ys
 | [],_,r=>by cases r;exact .nil
 | y::ys,_,r=>by
  rw [yAS] at r
  cases r with
  | cons r1 r2=>
   obtain ⟨t,rfl⟩:=r1
   exact .cons y t (strs_of r2)
theorem mt_join:MtR X "str.join" (fun x vs H Q=>∃ (z:Str) (l:Addr) (ys:List Str),x=.str z /\ vs=[.ref l] /\ SqL X.K H l (ys.map V.str) /\ z.length <= 16 /\ (ys.map (·.length)).sum+ys.length <= 1048576 /\ Q (.str (Str.join z ys)) H):=by
 intro pins s σ H x vs v us Q I rx rv h
 obtain ⟨z,l,ys,rfl,rfl,hl,hz,hw,q⟩:=h
 obtain ⟨t,rfl⟩:=rx
 obtain ⟨u,rfl,ry⟩:=ZCA rv
 cases (show u=Value.ref l from ry)
 obtain ⟨its,r',pl,_⟩:=I.list hl
 exact join_listW pl.isList (by simpa using strs_of r') hz hw fun t' k=>⟨.str (Str.join z ys),H,I.tok _,⟨_,by rw [show Txt.join z ys=Str.join z ys from StrLaws.glued_eq_join z ys]⟩,q⟩
end
noncomputable def forT (K:W.Frag) (g:TG) (tb:TS) (D:Ends) (σ:St) (x:V) (H1:Hp):Prop:=∃ a,x=.ref a /\ (∃ xs,SqT K H1 a xs) /\ ∃ W:Nat->Nat->St->Hp->Prop,(∃ m,W 0 m σ H1) /\ ∀ i m σ H,W i m σ H ->
 ((Itt K a).stop i H /\ D.nx σ H)∨((Itt K a).go i H /\ ∃ N:St->Hp->Prop,(∀ σ' H',N σ' H'->∃ m',m' < m /\ W (i+1) m' σ' H') /\ ∀ x H',(Itt K a).yld i H x H'->g x σ H' fun σ2 H2=>tb { D with nx:=N,ct:=N,bk:=D.nx } σ2 H2)
theorem tForT_eq {K:W.Frag} {tl:TE} {g:TG} {tb:TS} {D:Ends} {σ:St} {H:Hp}:tFor (iTup K tl) g tb D σ H=tl σ H (fun x H1=>forT K g tb D σ x H1):=rfl
noncomputable def compT (K:W.Frag) (g:TG) (tt:TT) (te:TE) (σ0:St) (Q:VK) (x:V) (H1:Hp):Prop:=∃ a,x=.ref a /\ (∃ xs,SqT K H1 a xs) /\ ∃ W:Nat->Nat->List V->St->Hp->Prop,(∃ m,W 0 m [] σ0 H1) /\ ∀ i m ys σ H,W i m ys σ H ->
 ((Itt K a).stop i H /\ ys.length <= sizeLine /\ ∀ p,H p=none->Q (.ref p) (upd H p (.lst ys))) ∨
 ((Itt K a).go i H /\ ys.length < sizeLine /\ ∀ x H',(Itt K a).yld i H x H'->g x σ H' fun σ2 H2=>tt σ2 H2 fun b H3=>if b=true then te σ2 H3 fun y H4=>∃ m',m' < m /\ W (i+1) m' (ys++[y]) σ2 H4 else ∃ m',m' < m /\ W (i+1) m' ys σ2 H3)
theorem tCompT_eq {k:Nat} {js:List Nat} {K:W.Frag} {tl:TE} {g:TG} {tt:TT} {te:TE} {σ:St} {H:Hp} {Q:VK}:ZCM k js (iTup K tl) g tt te σ H Q=tl σ H (fun x H1=>compT K g tt te (up k js σ) Q x H1):=rfl
section
variable {X:Cx}
theorem ZBf:MtR X "str.startswith" (fun x vs H Q=>∃ (z y:Str),x=.str z /\ vs=[.str y] /\ Q (.bl (Txt.startswith z y)) H):=by
 intro pins s σ H x vs v us Q I rx rv h
 obtain ⟨z,y,rfl,rfl,q⟩:=h
 obtain ⟨t,rfl⟩:=rx
 obtain ⟨u,rfl,ry⟩:=ZCA rv
 obtain ⟨t',rfl⟩:=(show ∃ t,u=Value.str y t from ry)
 exact SC.startswith ⟨.bl _,H,I,rfl,q⟩
theorem vals_strs:∀ (l:List (Str×Tok)),Vals ((l.map (·.1)).map V.str) (strValues l)
 | []=>.nil
 | p::l=>.cons ⟨p.2,rfl⟩ (vals_strs l)
theorem split_len (z:Str) (c:Nat):(Builtin.Str.partsBetween z (Builtin.Str.occurrences z ⟨#[c]⟩ 0 z.length (z.length+1)) (⟨#[c]⟩:Str).length).length <= z.length+2:=by
 have h:=StrLaws.occ_length_le z ⟨#[c]⟩ 0 z.length (z.length+1)
 unfold Builtin.Str.partsBetween
 rw [yAB,List.length_zip,yAR,yAB,yAO]
 have:([z.length]:List Nat).length=1:=rfl
 omega
theorem ZBK {pins:List (Addr×Obj)} {s:Shared} {σ:St} {H:Hp} {Q:VK} (I:Inv X pins σ H s) (l:List (Str×Tok)) (ys:List Str) (tk:Nat) (e:l.map (·.1)=ys) (hz:ys.length <= sizeLine) (q:∀ l,H l=none->Q (.ref l) (upd H l (.lst (ys.map V.str)))) :
  EP X pins σ Q (.ref s.heap.objs.size) { s with heap:=s.heap.push { cls:=.type "list",data:=.seq (strValues l).toArray },toks:=tk } :=
 ⟨.ref s.heap.objs.size,_,I.laid (t':=tk) (o:=.lst (ys.map V.str)) (fun b ob q=>Heap.get?_push_of_some _ q) (yAA _) ⟨by rw [yAB];exact hz,strValues l,0,by rw [<- e];exact vals_strs l,Heap.get?_push_size _ rfl⟩,rfl,q _ (I.hok.fresh (yAA _))⟩
theorem mt_split:MtR X "str.split" (fun x vs H Q=>∃ (z:Str) (c:Nat),x=.str z /\ vs=[.str ⟨#[c]⟩] /\ z.length <= 1000000 /\ ∀ l,H l=none->Q (.ref l) (upd H l (.lst ((Txt.split z ⟨#[c]⟩).map V.str)))):=by
 intro pins s σ H x vs v us Q I rx rv h
 obtain ⟨z,c,rfl,rfl,hz,q⟩:=h
 obtain ⟨t,rfl⟩:=rx
 obtain ⟨u,rfl,ry⟩:=ZCA rv
 obtain ⟨u,rfl⟩:=(show ∃ t,u=Value.str ⟨#[c]⟩ t from ry)
 have hl:=split_len z c
 have hz1:z.length <= sizeLine:=by rw [sizeLine_eq];omega
 have hz2:=yAD hl (show z.length+2 <= sizeLine by rw [sizeLine_eq];omega)
 have hy:((⟨#[c]⟩:Str).length == 0)=false:=rfl
 have one:([z]:List Str).length <= sizeLine:=ZAM (show 1 <= 1000 by decide)
 cases h1:(decide (z.length < (⟨#[c]⟩:Str).length) || decide (Builtin.Str.strKind z < Builtin.Str.strKind ⟨#[c]⟩))
 .cases hf:(Builtin.Str.occurrences z ⟨#[c]⟩ 0 z.length (z.length+1)).isEmpty
  .have es:Txt.split z ⟨#[c]⟩=Builtin.Str.partsBetween z (Builtin.Str.occurrences z ⟨#[c]⟩ 0 z.length (z.length+1)) (⟨#[c]⟩:Str).length:=(if_neg (ne_true_of_eq_false h1)).trans (if_neg (ne_true_of_eq_false hf))
   refine call_meets F.slot_str_split (typeIs_str _ _ _) F.entry_str_split (F.args_str_split_2 _ _) (meets_str_split_sep z ⟨#[c]⟩ t u h1 hy hf hz1 hz2) ?_
   show wants (EP X pins σ Q) X.xe _ { s with toks:=_,heap:=s.heap.push { cls:=.type "list",data:=.seq (strsFrom s.toks (Builtin.Str.partsBetween z (Builtin.Str.occurrences z ⟨#[c]⟩ 0 z.length (z.length+1)) (⟨#[c]⟩:Str).length)).toArray } }
   rw [strsFrom_eq]
   exact ZBK I (numbered s.toks _) _ _ ((numbered_texts _ _).trans es.symm) (by rw [es];exact hz2) q
  .have es:Txt.split z ⟨#[c]⟩=[z]:=(if_neg (ne_true_of_eq_false h1)).trans (if_pos hf)
   exact call_meets F.slot_str_split (typeIs_str _ _ _) F.entry_str_split (F.args_str_split_2 _ _) (meets_str_split_not_found z ⟨#[c]⟩ t u h1 hy hf) (ZBK I [(z,t)] _ _ es.symm (by rw [es];exact one) q)
 .have es:Txt.split z ⟨#[c]⟩=[z]:=if_pos h1
  exact call_meets F.slot_str_split (typeIs_str _ _ _) F.entry_str_split (F.args_str_split_2 _ _) (meets_str_split_cannot_occur z ⟨#[c]⟩ t u h1) (ZBK I [(z,t)] _ _ es.symm (by rw [es];exact one) q)
theorem ZBj:SlR X (fun x lo hi H Q=>∃ z:Str,x=.str z /\ z.length <= 1000000 /\ Q (.str (Txt.slice z lo hi)) H):=by
 intro pins s σ H x v vl vu lo hi sl Q I rx hs pl pu h
 obtain ⟨z,rfl,hz,q⟩:=h
 obtain ⟨t,rfl⟩:=rx
 have hl:∃ l:Option (Int×Tok),vl=partValue l /\ l.map (·.1)=lo:=by
  cases pl with
  | none=>exact ⟨none,rfl,rfl⟩
  | int i t=>exact ⟨some (i,t),rfl,rfl⟩
 have hu:∃ l:Option (Int×Tok),vu=partValue l /\ l.map (·.1)=hi:=by
  cases pu with
  | none=>exact ⟨none,rfl,rfl⟩
  | int i t=>exact ⟨some (i,t),rfl,rfl⟩
 obtain ⟨l,rfl,rfl⟩:=hl
 obtain ⟨u,rfl,rfl⟩:=hu
 refine ⟨"str",_,F.slot_str_getitem.lookup,typeIs_str _ _ _,wpAny_getItem_str_slice (l:=l) (u:=u) (st:=none) hs rfl (post_val_or_str ⟨yAD (Txt.slice_le z _ _) (by rw [sizeLine_eq];omega),fun t' k=>⟨.str _,H,I.tok _,⟨_,rfl⟩,q⟩⟩)⟩
noncomputable def Its (z:Str):It where
 go:=fun i _=>i < z.length
 yld:=fun i H v H'=>H'=H /\ ∃ c,z.cps[i]?=some c /\ v=.str ⟨#[c]⟩
 stop:=fun i _=>i=z.length
theorem turn_str {P:Program} {w:World} {K:W.Frag} {tg:Expr} (z:Str) (t:Tok) (it:Addr):Turn P w K tg (Its z) [it] it (fun i h=>h.IsStrIter it "str_ascii_iterator" z t i) where
 mem:=by simp
 obj:=fun i h st b hb=>by
  have e:b=it:=by simpa using hb
  subst e
  obtain ⟨o,e,c,d⟩:=st
  exact ⟨o,e,fun v z=>by rw [d] at z;cases z⟩
 keep:=fun i h h' st k=>let ⟨o,ho,r⟩:=st;⟨o,k it (by simp) o ho,r⟩
 item:=by
  intro X hP hw hK hc i pins s σ H E I hf st hg
  subst hP hw hK
  obtain ⟨f0,f1,f2,f3,f4,f5⟩:=hf it (by simp)
  have W:=Walks.strAscii (prog:=X.prog) (w:=X.w) (I.ok.hd hc) it z t
  refine W.item i s _ _ hg st fun v h' tk hv st' kk=>?_
  obtain ⟨c,u,h1,rfl⟩:=hv
  have I1:Inv X pins σ H { s with heap:=h',toks:=tk }:=I.turned (fun b o hb e=>kk b o (by simpa using hb) e) f0 f1 f3 f4 f5
  obtain ⟨o,e,c',d⟩:=id st'
  exact ⟨_,rfl,ZDw (s:={ s with heap:=h',toks:=tk }) e c' d (by decide) ⟨.str ⟨#[c]⟩,H,I1,⟨u,rfl⟩,⟨rfl,c,h1,rfl⟩,st',fun b hb=>(hf b hb).1⟩⟩
 done:=by
  intro X hP hw hK hc i pins s σ H E I hf st hg
  subst hP hw hK
  obtain ⟨f0,f1,f2,f3,f4,f5⟩:=hf it (by simp)
  have W:=Walks.strAscii (prog:=X.prog) (w:=X.w) (I.ok.hd hc) it z t
  have e:i=z.length:=hg
  subst e
  exact W.done s _ _ st fun h' tk kk=>⟨rfl,I.turned (fun b o hb e=>kk b o (by simpa using hb) e) f0 f1 f3 f4 f5⟩
 self:=fun _ _ _ _ _ st h=>wpAny_pyIter_striter_ascii st h
noncomputable def iStr (tl:TE):TI:=fun σ H R=>tl σ H fun x H1=>∃ z:Str,x=.str z /\ z.cps.all (· < 128)=true /\ R (Its z) H1
theorem pi_str {tg l:Expr} {tl:TE} (hl:PE X l tl):PI X tg l (iStr tl):=by
 intro pins s σ H R I h
 refine thn (hl pins s σ H _ I h) fun v s1 zz=>?_
 obtain ⟨x,H1,I1,r1,q1⟩:=zz
 obtain ⟨z,e,ha,q⟩:=q1
 subst e
 obtain ⟨t,rfl⟩:=r1
 refine wpAny_pyIter_ascii ha ?_
 refine ⟨s1.heap.objs.size,[s1.heap.objs.size],_,_,H1,rfl,I1.kept (t':=s1.toks) fun b o e=>Heap.get?_push_of_some _ e,turn_str z t _,⟨_,Heap.get?_push_size _ rfl,rfl,rfl⟩,fun b hb=>?_,q⟩
 have e:b=s1.heap.objs.size:=by simpa using hb
 subst e
 exact I1.fpOk (yAA _) (I1.hok.fresh (yAA _))
end
theorem comp_str {z:Str} {g:TG} {tt:TT} {te:TE} {Q:VK} {σ0:St} {H:Hp} (P:Nat->List V->St->Hp->Prop) (h0:P 0 [] σ0 H) (hl:∀ i ys σ H,i <= z.length->P i ys σ H->ys.length <= i) (hz:z.length <= sizeLine)
  (hs:∀ i ys c σ H,i < z.length->z.cps[i]?=some c->P i ys σ H->g (.str ⟨#[c]⟩) σ H fun σ2 H2=>tt σ2 H2 fun b H3=>if b=true then te σ2 H3 fun y H4=>Nxt P z.length i (ys++[y]) σ2 H4 else Nxt P z.length i ys σ2 H3)
  (hd:∀ ys σ H,P z.length ys σ H->∀ p,H p=none->Q (.ref p) (upd H p (.lst ys))) :
  ∃ W:Nat->Nat->List V->St->Hp->Prop,(∃ m,W 0 m [] σ0 H) /\ ∀ i m ys σ H,W i m ys σ H ->
   ((Its z).stop i H /\ ys.length <= sizeLine /\ ∀ p,H p=none->Q (.ref p) (upd H p (.lst ys))) ∨
   ((Its z).go i H /\ ys.length < sizeLine /\ ∀ x H',(Its z).yld i H x H'->g x σ H' fun σ2 H2=>tt σ2 H2 fun b H3=>if b=true then te σ2 H3 fun y H4=>∃ m',m' < m /\ W (i+1) m' (ys++[y]) σ2 H4 else ∃ m',m' < m /\ W (i+1) m' ys σ2 H3):=by
 refine ⟨fun i m ys σ H=>m=z.length-i /\ i <= z.length /\ P i ys σ H,⟨z.length,by simp,yBC _,h0⟩,?_⟩
 rintro i m ys σ H ⟨rfl,hi,p⟩
 have ly:=hl i ys σ H hi p
 by_cases hlt:i < z.length
 .refine .inr ⟨hlt,by omega,fun x H' y=>?_⟩
  obtain ⟨e,c,h1,e2⟩:=y
  subst e
  subst e2
  exact hs i ys c σ _ hlt h1 p
 .have e:i=z.length:=by omega
  subst e
  exact .inl ⟨rfl,by omega,hd ys σ H p⟩
noncomputable def compS (g:TG) (tt:TT) (te:TE) (σ0:St) (Q:VK) (x:V) (H1:Hp):Prop:=∃ z:Str,x=.str z /\ z.cps.all (· < 128)=true /\ ∃ W:Nat->Nat->List V->St->Hp->Prop,(∃ m,W 0 m [] σ0 H1) /\ ∀ i m ys σ H,W i m ys σ H ->
 ((Its z).stop i H /\ ys.length <= sizeLine /\ ∀ p,H p=none->Q (.ref p) (upd H p (.lst ys))) ∨
 ((Its z).go i H /\ ys.length < sizeLine /\ ∀ x H',(Its z).yld i H x H'->g x σ H' fun σ2 H2=>tt σ2 H2 fun b H3=>if b=true then te σ2 H3 fun y H4=>∃ m',m' < m /\ W (i+1) m' (ys++[y]) σ2 H4 else ∃ m',m' < m /\ W (i+1) m' ys σ2 H3)
theorem tCompS_eq {k:Nat} {js:List Nat} {tl:TE} {g:TG} {tt:TT} {te:TE} {σ:St} {H:Hp} {Q:VK}:ZCM k js (iStr tl) g tt te σ H Q=tl σ H (fun x H1=>compS g tt te (up k js σ) Q x H1):=rfl
theorem compS_of {z:Str} {g:TG} {tt:TT} {te:TE} {Q:VK} {σ0:St} {H:Hp} (ha:z.cps.all (· < 128)=true) (hz:z.length <= 1000) (P:Nat->List V->St->Hp->Prop) (h0:P 0 [] σ0 H) (hl:∀ i ys σ H,i <= z.length->P i ys σ H->ys.length <= i)
  (hs:∀ i ys c σ H,i < z.length->z.cps[i]?=some c->P i ys σ H->g (.str ⟨#[c]⟩) σ H fun σ2 H2=>tt σ2 H2 fun b H3=>if b=true then te σ2 H3 fun y H4=>Nxt P z.length i (ys++[y]) σ2 H4 else Nxt P z.length i ys σ2 H3)
  (hd:∀ ys σ H,P z.length ys σ H->∀ p,H p=none->Q (.ref p) (upd H p (.lst ys))):compS g tt te σ0 Q (.str z) H:=⟨z,rfl,ha,comp_str P h0 hl (ZAM hz) hs hd⟩
open PySem
section
local macro_rules | `(sortPriv% $n:ident)=>return Lean.mkCIdent (Lean.mkPrivateNameCore `PySem.Builtin.Int.W0All n.getId)
local macro_rules | `(tactic| walk_at "rn")=>do let x:=Lean.mkCIdent (Lean.mkPrivateNameCore `PySem.Builtin.Int.W0All `PySem.Builtin.readNumeral);`(tactic| unfold $x:ident)
noncomputable def dgs (n:Nat):List Nat:=(Nat.toDigits 10 n).map Char.toNat
theorem dgs_dig {n c:Nat} (h:c∈dgs n):48 <= c /\ c <= 57:=by
 obtain ⟨d,hd,rfl⟩:=List.mem_map.mp h
 have:=Nat.isDigit_of_mem_toDigits (by decide) (by decide) hd
 unfold Char.isDigit at this
 rw [yAT,decide_eq_true_iff,decide_eq_true_iff] at this
 obtain ⟨a,b⟩:=this
 exact ⟨a,b⟩
theorem int_cps (n:Int):(Str.ofString (toString n)).cps.toList=if 0 <= n then dgs n.toNat else 45::dgs (-n).toNat:=by
 rw [Str.ofString_eq_toList]
 show (toString n).toList.map Char.toNat=_
 rw [show toString n=n.repr from rfl,Int.repr_eq_if]
 by_cases h:0 <= n
 .rw [if_pos h,if_pos h,Nat.toList_repr];rfl
 .rw [if_neg h,if_neg h,String.toList_append,Nat.toList_repr,yAL];rfl
theorem foldM_push {F:Array Nat×Bool->Nat->Option (Array Nat×Bool)} (hF:∀ s c,48 <= c /\ c <= 57->F s c=some (s.1.push (c-48),true)):∀ (L:List Nat) (s:Array Nat×Bool),(∀ c∈L,48 <= c /\ c <= 57)->(s.2=true∨L≠[])->L.foldlM F s=some (s.1++(L.map (· - 48)).toArray,true)
 | [],s,_,h=>by
  rcases h with h | h
  .show some s=_
   rw [<- h];simp
  .exact absurd rfl h
 | c::L,s,h,_=>by
  rw [List.foldlM_cons,hF s c (h c yAE)]
  refine (foldM_push hF L (s.1.push (c-48),true) (fun d hd=>h d (yAI _ hd)) (.inl rfl)).trans ?_
  simp
theorem dv_dig {c:Nat} (h:48 <= c /\ c <= 57):(sortPriv% PySem.Builtin.digitValue?) c=some (c-48) :=
 if_pos (by rw [decide_eq_true h.1,decide_eq_true h.2];rfl)
theorem nd_dgs (L:List Nat) (h:∀ c∈L,48 <= c /\ c <= 57) (hn:L≠[]):(sortPriv% PySem.Builtin.numeralDigits?) 10 L=some (L.map (· - 48)).toArray:=by
 have e:(sortPriv% PySem.Builtin.numeralDigits?) 10 L=(L.foldlM _ ((#[]:Array Nat),false) >>= _):=rfl
 rw [e,foldM_push (fun s c hc=>?_) L _ h (.inr hn)]
 .show some _=some _
  simp
 .show (if (c == 95)=true then _ else _)=_
  rw [if_neg (by simp;omega)]
  show (match (sortPriv% PySem.Builtin.digitValue?) c with | some d=>if d < 10 then some (s.1.push d,true) else none | none=>none)=_
  rw [dv_dig hc]
  exact if_pos (by omega)
theorem blank_dig {c:Nat} (h:48 <= c /\ c <= 57∨c=45):(sortPriv% PySem.Builtin.isBlank) c=false:=by
 show (c == 32 || (decide (9 <= c) && decide (c <= 13)))=false
 rw [Bool.or_eq_false_iff,Bool.and_eq_false_iff]
 refine ⟨by simp;omega,.inr (by simp;omega)⟩
theorem drop_dig (L:List Nat) (h:∀ c∈L,(48 <= c /\ c <= 57)∨c=45):L.dropWhile (sortPriv% PySem.Builtin.isBlank)=L:=by
 cases L with
 | nil=>rfl
 | cons c L=>rw [List.dropWhile_cons,blank_dig (h c yAE)];rfl
theorem pb_dig (L:List Nat) (h:∀ c∈L,48 <= c /\ c <= 57):(sortPriv% PySem.Builtin.prefixBase?) L=none:=by
 rcases L with _ | ⟨a,_ | ⟨b,L⟩⟩
 .rfl
 .by_cases e:a=48
  .subst e;rfl
  .have ha:=h a (by simp)
   obtain rfl | rfl | rfl | rfl | rfl | rfl | rfl | rfl | rfl:a=49∨a=50∨a=51∨a=52∨a=53∨a=54∨a=55∨a=56∨a=57:=by omega
   all_goals rfl
 .have hb:=h b (by simp)
  by_cases e:a=48
  .subst e
   show (if (b == 120 || b == 88)=true then _ else if (b == 111 || b == 79)=true then _ else if (b == 98 || b == 66)=true then _ else _)=_
   rw [if_neg (by simp;omega),if_neg (by simp;omega),if_neg (by simp;omega)]
  .have ha:=h a (by simp)
   obtain rfl | rfl | rfl | rfl | rfl | rfl | rfl | rfl | rfl:a=49∨a=50∨a=51∨a=52∨a=53∨a=54∨a=55∨a=56∨a=57:=by omega
   all_goals rfl
theorem rev_dig (L:List Nat) (h:∀ c∈L,48 <= c /\ c <= 57):(L.reverse.dropWhile (sortPriv% PySem.Builtin.isBlank)).reverse=L:=by
 rw [drop_dig L.reverse fun c hc=>.inl (h c (List.mem_reverse.mp hc)),List.reverse_reverse]
theorem rn_dgs (L M:List Nat) (neg:Bool) (hM:M=if neg then 45::L else L) (h:∀ c∈L,48 <= c /\ c <= 57) (hn:L≠[]) (hl:L.length <= 640):(sortPriv% PySem.Builtin.readNumeral) 0 10 M=(sortPriv% PySem.Builtin.Numeral.value) (if neg then -((L.foldl (fun a c=>a * 10+(c-48)) 0:Nat):Int) else (L.foldl (fun a c=>a * 10+(c-48)) 0:Nat)):=by
 have hd:∀ c∈M,(48 <= c /\ c <= 57)∨c=45:=fun c hc=>by
  rw [hM] at hc
  cases neg with
  | true=>
   rcases yAC.mp hc with z | z
   .exact .inr z
   .exact .inl (h c z)
  | false=>exact .inl (h c hc)
 walk_at "rn"
 dsimp (config:={iota:=false,proj:=false,etaStruct:=.none}) only
 rw [drop_dig _ hd]
 split
 rename_i a negative t e
 have et:negative=neg /\ t=L:=by
  cases neg with
  | true=>rw [hM] at e;cases e;exact ⟨rfl,rfl⟩
  | false=>
   rw [if_neg yAH] at hM
   subst hM
   split at e
   .have:=h 45 yAE;omega
   .have:=h 43 yAE;omega
   .cases e;exact ⟨rfl,rfl⟩
 obtain ⟨rfl,rfl⟩:=et
 clear e
 split
 rename_i a2 b z t2 e
 rw [pb_dig t h] at e
 cases e
 rw [rev_dig t h,nd_dgs t h hn]
 dsimp only
 rw [if_neg (by simp),if_neg (by simp;omega),if_neg (by simp)]
 rw [List.foldl_toArray,List.foldl_map]
theorem ni_int:typeLookup (.type "str") "__int__"=pure none:=by rw [typeLookup_type,builtinLookup_eq_fast];kernel_rfl
theorem ni_index:typeLookup (.type "str") "__index__"=pure none:=by rw [typeLookup_type,builtinLookup_eq_fast];kernel_rfl
theorem ni_trunc:typeLookup (.type "str") "__trunc__"=pure none:=by rw [typeLookup_type,builtinLookup_eq_fast];kernel_rfl
theorem int_text (x:Str) (t:Tok) (i:Int) (ha:x.cps.all (· < 128)=true) (h0:x.cps.toList.takeWhile (· != 0)=x.cps.toList) (hl:x.cps.toList.length <= 640) (hr:(sortPriv% PySem.Builtin.readNumeral) 0 10 x.cps.toList=(sortPriv% PySem.Builtin.Numeral.value) i):Meets (Builtin.«int.__new__» ⟨[.type "int",.str x t],[]⟩) (Made.int i).spec :=
 Meets.of_wp fun prog w A R s hs=>by
  obtain ⟨hp,g,d,tk,os⟩:=s
  have f1:=F.conv_sub_int
  have f2:=F.madeHere_int
  have hT:(⟨hp,g,d,tk,os⟩:Shared).TypeIs (.str x t) "str":=rfl
  have f3:=ni_int
  have f4:=ni_index
  have f5:=ni_trunc
  repeat (any_goals (first | assumption | wp_step))
  rw [if_pos ha,h0,if_pos hl]
  refine wpAny_bind (wpAny_pure ?_)
  simp only [hr,beq_self_eq_true,if_true]
  repeat (any_goals (first | assumption | wp_step))
  all_goals exact ⟨_,rfl,hs⟩
end
theorem tw_all {p:Nat->Bool}:∀ {M:List Nat},(∀ c∈M,p c=true)->M.takeWhile p=M
 | [],_=>rfl
 | c::M,h=>by rw [List.takeWhile_cons,if_pos (h c yAE),tw_all fun d hd=>h d (yAI _ hd)]
theorem int_txt {L M:List Nat} {neg:Bool} (hM:M=if neg then 45::L else L) (h:∀ c∈L,48 <= c /\ c <= 57):(M.all (· < 128)=true) /\ M.takeWhile (· != 0)=M:=by
 have hd:∀ c∈M,(48 <= c /\ c <= 57)∨c=45:=fun c hc=>by
  rw [hM] at hc
  cases neg with
  | true=>
   rcases yAC.mp hc with z | z
   .exact .inr z
   .exact .inl (h c z)
  | false=>exact .inl (h c hc)
 refine ⟨yAZ.mpr fun c hc=>decide_eq_true (by have:=hd c hc;omega),?_⟩
 refine tw_all fun c hc=>?_
 have:=hd c hc
 simp
 omega
open PySem.Spec PyProof.Rows
noncomputable def vlD (L:List Nat):Nat:=L.foldl (fun a c=>a * 10+(c-48)) 0
theorem call_intS {X:Cx}:ZCI X (.type "int") (fun xs H Q=>∃ (z:Str) (L:List Nat) (neg:Bool),xs=[.str z] /\ z.cps.toList=(if neg then 45::L else L) /\ (∀ c∈L,48 <= c /\ c <= 57) /\ L≠[] /\ L.length <= 600 /\ Q (.int (if neg then -(vlD L:Int) else vlD L)) H):=by
 intro pins s σ H xs us Q I rv h
 obtain ⟨z,L,neg,rfl,hz,hd,hn,hl,q⟩:=h
 obtain ⟨u,rfl,ry⟩:=ZCA rv
 obtain ⟨t,rfl⟩:=(show ∃ t,u=Value.str z t from ry)
 obtain ⟨h1,h2⟩:=int_txt hz hd
 have hlen:z.cps.toList.length <= 640:=by rw [hz];cases neg <;> simp <;> omega
 exact call_int_1 (int_text z t _ (by rw [<- Array.all_toList];exact h1) h2 hlen (rn_dgs L _ neg hz hd hn (by omega))) (show (Made.int _).post _ s from ⟨rfl,⟨.int _,H,I.tok _,⟨_,rfl⟩,q⟩⟩)
theorem mt_find {X:Cx}:MtR X "str.find" (fun x vs H Q=>∃ (z y:Str),x=.str z /\ vs=[.str y] /\ Q (.int (Txt.find z y)) H):=by
 intro pins s σ H x vs v us Q I rx rv h
 obtain ⟨z,y,rfl,rfl,q⟩:=h
 obtain ⟨t,rfl⟩:=rx
 obtain ⟨u,rfl,ry⟩:=ZCA rv
 obtain ⟨t',rfl⟩:=(show ∃ t,u=Value.str y t from ry)
 exact SC.find ⟨.int _,H,I.tok _,⟨_,rfl⟩,q⟩
noncomputable def forS (g:TG) (tb:TS) (D:Ends) (σ:St) (x:V) (H1:Hp):Prop:=∃ z:Str,x=.str z /\ z.cps.all (· < 128)=true /\ ∃ W:Nat->Nat->St->Hp->Prop,(∃ m,W 0 m σ H1) /\ ∀ i m σ H,W i m σ H ->
 ((Its z).stop i H /\ D.nx σ H)∨((Its z).go i H /\ ∃ N:St->Hp->Prop,(∀ σ' H',N σ' H'->∃ m',m' < m /\ W (i+1) m' σ' H') /\ ∀ x H',(Its z).yld i H x H'->g x σ H' fun σ2 H2=>tb { D with nx:=N,ct:=N,bk:=D.nx } σ2 H2)
theorem tForS_eq {tl:TE} {g:TG} {tb:TS} {D:Ends} {σ:St} {H:Hp}:tFor (iStr tl) g tb D σ H=tl σ H (fun x H1=>forS g tb D σ x H1):=rfl
theorem forS_of {z:Str} {g:TG} {tb:TS} {D:Ends} {σ:St} {H:Hp} (ha:z.cps.all (· < 128)=true) (Pv:Nat->St->Hp->Prop) (h0:Pv 0 σ H)
  (hs:∀ i c σ H,i < z.length->z.cps.toList[i]?=some c->Pv i σ H->g (.str ⟨#[c]⟩) σ H fun σ2 H2=>tb { D with nx:=Pv (i+1),ct:=Pv (i+1),bk:=D.nx } σ2 H2) (hd:∀ σ H,Pv z.length σ H->D.nx σ H):forS g tb D σ (.str z) H:=by
 refine ⟨z,rfl,ha,fun i m σ H=>m=z.length-i /\ i <= z.length /\ Pv i σ H,⟨z.length,by simp,yBC _,h0⟩,?_⟩
 rintro i m σ H ⟨rfl,hi,p⟩
 by_cases hlt:i < z.length
 .refine .inr ⟨hlt,Pv (i+1),fun σ' H' p'=>⟨z.length-(i+1),by omega,rfl,hlt,p'⟩,fun x H' y=>?_⟩
  obtain ⟨e,c,h1,e2⟩:=y
  subst e
  subst e2
  exact hs i c σ _ hlt (by rw [Array.getElem?_toList];exact h1) p
 .have e:i=z.length:=by omega
  subst e
  exact .inl ⟨rfl,hd σ H p⟩
end L2
namespace PySem
section
variable {prog:Program} {w:World} {A:Around} {E:Value->Shared->Prop} {s:Shared}
end
section
variable {prog:Program} {w:World} {A:Around} {E:Value->Shared->Prop} {s:Shared}
end
end PySem
namespace L2
open PySem PySem.Spec PyProof.Rows
noncomputable def ItzT (K:W.Frag) (a b:Addr):It :=
 ⟨fun i H=>∃ xs x ys y,SqT K H a xs /\ xs[i]?=some x /\ SqT K H b ys /\ ys[i]?=some y,fun i H v H'=>∃ p x y,H p=none /\ (∀ xs,SqT K H a xs->xs[i]?=some x) /\ (∀ ys,SqT K H b ys->ys[i]?=some y) /\ H'=upd H p (.tup [x,y]) /\ v=.ref p,fun i H=>∃ xs ys,SqT K H a xs /\ SqT K H b ys /\ (xs.length <= i∨ys.length <= i)⟩
section
variable {X:Cx}
noncomputable def iZipT (K:W.Frag) (ta:TA):TI:=fun σ H R=>ta σ H fun vs H1=>∃ a b,vs=[.ref a,.ref b] /\ (∃ xs,SqT K H1 a xs) /\ (∃ xs,SqT K H1 b xs) /\ R (ItzT K a b) H1
end
section
variable {K:W.Frag} {a b:Addr} {xs ys:List V} {g:TG} {tb:TS} {D:Ends} {σ:St} {H:Hp}
noncomputable def forZT (K:W.Frag) (g:TG) (tb:TS) (D:Ends) (σ:St) (x y:V) (H1:Hp):Prop:=∃ a b,[x,y]=[.ref a,.ref b] /\ (∃ xs,SqT K H1 a xs) /\ (∃ xs,SqT K H1 b xs) /\ ∃ W:Nat->Nat->St->Hp->Prop,(∃ m,W 0 m σ H1) /\ ∀ i m σ H,W i m σ H ->
 ((ItzT K a b).stop i H /\ D.nx σ H)∨((ItzT K a b).go i H /\ ∃ N:St->Hp->Prop,(∀ σ' H',N σ' H'->∃ m',m' < m /\ W (i+1) m' σ' H') /\ ∀ x H',(ItzT K a b).yld i H x H'->g x σ H' fun σ2 H2=>tb { D with nx:=N,ct:=N,bk:=D.nx } σ2 H2)
theorem tForZ_eqT {t u:TE}:tFor (iZipT K (ZBC t (ZBC u tNil))) g tb D σ H=t σ H (fun x H1=>u σ H1 fun y H2=>forZT K g tb D σ x y H2):=rfl
end
noncomputable def Itr3 (lo d:Int) (n:Nat):It:=⟨fun i _=>i < n,fun i H x H'=>H'=H /\ x=.int (lo+i * d),fun i _=>n <= i⟩
section
variable {X:Cx} {tg:Expr}
noncomputable def iRng3 (ta:TA):TI:=fun σ H R=>ta σ H fun vs H1=>∃ i j d:Int,vs=[.int i,.int j,.int d] /\ (0 <= i /\ i <= 1000 /\ 0 <= j /\ j <= 1000 /\ 0 < d /\ d <= 1000) /\ R (Itr3 i d (Builtin.Range.rangeSize i j d).toNat) H1
end
noncomputable def compR3 (g:TG) (tt:TT) (te:TE) (σ0:St) (Q:VK) (x y z:V) (H1:Hp):Prop:=∃ i j d:Int,[x,y,z]=[.int i,.int j,.int d] /\ (0 <= i /\ i <= 1000 /\ 0 <= j /\ j <= 1000 /\ 0 < d /\ d <= 1000) /\
 ∃ W:Nat->Nat->List V->St->Hp->Prop,(∃ m,W 0 m [] σ0 H1) /\ ∀ k m ys σ H,W k m ys σ H ->
   ((Itr3 i d (Builtin.Range.rangeSize i j d).toNat).stop k H /\ ys.length <= sizeLine /\ ∀ p,H p=none->Q (.ref p) (upd H p (.lst ys))) ∨
   ((Itr3 i d (Builtin.Range.rangeSize i j d).toNat).go k H /\ ys.length < sizeLine /\ ∀ x H',(Itr3 i d (Builtin.Range.rangeSize i j d).toNat).yld k H x H'->g x σ H' fun σ2 H2=>tt σ2 H2 fun b H3=>if b=true then te σ2 H3 fun y H4=>∃ m',m' < m /\ W (k+1) m' (ys++[y]) σ2 H4 else ∃ m',m' < m /\ W (k+1) m' ys σ2 H3)
theorem tCompR3_eq {k:Nat} {js:List Nat} {t u v:TE} {g:TG} {tt:TT} {te:TE} {σ:St} {H:Hp} {Q:VK}:ZCM k js (iRng3 (ZBC t (ZBC u (ZBC v tNil)))) g tt te σ H Q=t σ H (fun x H1=>u σ H1 fun y H2=>v σ H2 fun z H3=>compR3 g tt te (up k js σ) Q x y z H3):=rfl
noncomputable def tBL (K:W.Frag) (t:TE):TT:=fun σ H Q=>t σ H fun x H1=>∃ a xs,x=.ref a /\ SqL K H1 a xs /\ Q (!xs.isEmpty) H1
section
variable {X:Cx}
end
section
variable {X:Cx} {tg:Expr}
noncomputable def iRng3N (ta:TA):TI:=fun σ H R=>ta σ H fun vs H1=>∃ i j d:Int,vs=[.int i,.int j,.int d] /\ (0 <= i /\ i <= 1000 /\ -1000 <= j /\ j <= 1000 /\ 0 < d /\ d <= 1000) /\ R (Itr3 i d (Builtin.Range.rangeSize i j d).toNat) H1
end
noncomputable def forR3 (g:TG) (tb:TS) (D:Ends) (σ:St) (x y z:V) (H1:Hp):Prop:=∃ i j d:Int,[x,y,z]=[.int i,.int j,.int d] /\ (0 <= i /\ i <= 1000 /\ -1000 <= j /\ j <= 1000 /\ 0 < d /\ d <= 1000) /\ ∃ W:Nat->Nat->St->Hp->Prop,(∃ m,W 0 m σ H1) /\ ∀ k m σ H,W k m σ H ->
 ((Itr3 i d (Builtin.Range.rangeSize i j d).toNat).stop k H /\ D.nx σ H)∨((Itr3 i d (Builtin.Range.rangeSize i j d).toNat).go k H /\ ∃ N:St->Hp->Prop,(∀ σ' H',N σ' H'->∃ m',m' < m /\ W (k+1) m' σ' H') /\ ∀ x H',(Itr3 i d (Builtin.Range.rangeSize i j d).toNat).yld k H x H'->g x σ H' fun σ2 H2=>tb { D with nx:=N,ct:=N,bk:=D.nx } σ2 H2)
theorem tForR3_eq {t u v:TE} {g:TG} {tb:TS} {D:Ends} {σ:St} {H:Hp}:tFor (iRng3N (ZBC t (ZBC u (ZBC v tNil)))) g tb D σ H=t σ H (fun x H1=>u σ H1 fun y H2=>v σ H2 fun z H3=>forR3 g tb D σ x y z H3):=rfl
section
variable {X:Cx}
theorem split_lenN (z y:Str):(Builtin.Str.partsBetween z (Builtin.Str.occurrences z y 0 z.length (z.length+1)) y.length).length <= z.length+2:=by
 have h:=StrLaws.occ_length_le z y 0 z.length (z.length+1)
 unfold Builtin.Str.partsBetween
 rw [yAB,List.length_zip,yAR,yAB,yAO]
 have:([z.length]:List Nat).length=1:=rfl
 omega
theorem ZB7:MtR X "str.split" (fun x vs H Q=>∃ (z y:Str),x=.str z /\ vs=[.str y] /\ (y.length == 0)=false /\ z.length <= 1000000 /\ ∀ l,H l=none->Q (.ref l) (upd H l (.lst ((Txt.split z y).map V.str)))):=by
 intro pins s σ H x vs v us Q I rx rv h
 obtain ⟨z,y,rfl,rfl,hy,hz,q⟩:=h
 obtain ⟨t,rfl⟩:=rx
 obtain ⟨u,rfl,ry⟩:=ZCA rv
 obtain ⟨u,rfl⟩:=(show ∃ t,u=Value.str y t from ry)
 have hl:=split_lenN z y
 have hz1:z.length <= sizeLine:=by rw [sizeLine_eq];omega
 have hz2:=yAD hl (show z.length+2 <= sizeLine by rw [sizeLine_eq];omega)
 have one:([z]:List Str).length <= sizeLine:=ZAM (show 1 <= 1000 by decide)
 cases h1:(decide (z.length < y.length) || decide (Builtin.Str.strKind z < Builtin.Str.strKind y))
 .cases hf:(Builtin.Str.occurrences z y 0 z.length (z.length+1)).isEmpty
  .have es:Txt.split z y=Builtin.Str.partsBetween z (Builtin.Str.occurrences z y 0 z.length (z.length+1)) y.length:=(if_neg (ne_true_of_eq_false h1)).trans (if_neg (ne_true_of_eq_false hf))
   refine call_meets F.slot_str_split (typeIs_str _ _ _) F.entry_str_split (F.args_str_split_2 _ _) (meets_str_split_sep z y t u h1 hy hf hz1 hz2) ?_
   show wants (EP X pins σ Q) X.xe _ { s with toks:=_,heap:=s.heap.push { cls:=.type "list",data:=.seq (strsFrom s.toks (Builtin.Str.partsBetween z (Builtin.Str.occurrences z y 0 z.length (z.length+1)) y.length)).toArray } }
   rw [strsFrom_eq]
   exact ZBK I (numbered s.toks _) _ _ ((numbered_texts _ _).trans es.symm) (by rw [es];exact hz2) q
  .have es:Txt.split z y=[z]:=(if_neg (ne_true_of_eq_false h1)).trans (if_pos hf)
   exact call_meets F.slot_str_split (typeIs_str _ _ _) F.entry_str_split (F.args_str_split_2 _ _) (meets_str_split_not_found z y t u h1 hy hf) (ZBK I [(z,t)] _ _ es.symm (by rw [es];exact one) q)
 .have es:Txt.split z y=[z]:=if_pos h1
  exact call_meets F.slot_str_split (typeIs_str _ _ _) F.entry_str_split (F.args_str_split_2 _ _) (meets_str_split_cannot_occur z y t u h1) (ZBK I [(z,t)] _ _ es.symm (by rw [es];exact one) q)
end
theorem ZBr {X:Cx} {x:Str} {j:Nat} {pos:Pos} {es:List Expr} {t:TA} (h:PA X es t):PA X (.Constant (.str x) j pos::es) (ZBC (tC (.str x)) t):=ZAA ZAp h rfl
noncomputable def cst (x:Str×Nat×Pos):Expr:=.Constant (.str x.1) x.2.1 x.2.2
noncomputable def ZBl:List (Str×Nat×Pos)->TA
 | []=>tNil
 | x::r=>ZBC (tC (.str x.1)) (ZBl r)
theorem ZCG {X:Cx}:∀ xs:List (Str×Nat×Pos),PA X (xs.map cst) (ZBl xs)
 | []=>ZAD
 | x::r=>ZBr (ZCG r)
theorem pe_strs {X:Cx} (xs:List (Str×Nat×Pos)) {es:List Expr} {pos:Pos} (e:xs.map cst=es):PE X (.List es pos) (tLst (ZBl xs)):=e ▸ ZBI (ZCG xs)
open StrLaws Builtin Builtin.Str
theorem join_consN (y p q:Str) (r:List Str):(Str.join y (p::q::r)).cps.toList=p.cps.toList++y.cps.toList++(Str.join y (q::r)).cps.toList:=by
 show (p++y++Str.join y (q::r)).cps.toList=_
 rw [PySem.Str.cps_append,PySem.Str.cps_append,Array.toList_append,Array.toList_append]
end L2
namespace PySem
open Sem (wp)
section
variable {M:Model} {A:Around} {E:Value->Shared->Prop} {s:Shared} {env:Env}
/-- as a comprehension ends: by the library's word where it ends well; an exception is handed on with the names let go, the frame being known -/
def ZBP (F : Option Addr) (M : Model) (A : Around) (E : Value → Shared → Prop) (use : Option (Value → Sem Unit)) (Q : Value → Shared → Prop) (acc : Value) (C : Addr) (r : Result) (s' : Shared) : Prop :=
  match r with
  | .ok f => compPost M A E use Q acc C (.ok f) s'
  | .error x => ∃ m, s'.heap.Ns C m ∧ ∀ h' m', h'.Ns C m' → Heap.SameBut C s'.heap h' → ∀ c : Env, c.locals = C → c.frame = F → wpAny M A (passOn "comprehension.variables-let-go" x c : Sem Value) (fun _ _ => False) E { s' with heap := h' }
theorem comprehension_x {e : Expr} {scope : Scope} {pos : Pos} {newAcc first : Sem Value} {g : Comprehension} {gs : List Comprehension} {cl : List (Str × Addr)} {use : Option (Value → Sem Unit)} {Q : Value → Shared → Prop}
    (hcl : clausesOf e = g :: gs) (hs : ∀ x, foldedSetIterable g.iter env x = pure x) (hclos : closureFor scope env = pure cl) (hkind : scope.kind = .function) (hnames : ∀ x ∈ scope.names, x.2 = .local → scope.names.lookup x.1 = some .local)
    (h : wpAny M A first (fun x s1 => wpAny M A (pyIter x) (fun it s2 => wpAny M A newAcc (fun acc s3 => wpAny M A (newFunctionEnv scope env.globals cl [] env.qual none .none (some env)) (fun c s4 => c.frame = env.frame ∧
      codeAny M A (.compStart e 0 it acc { c with scope := relabel scope env }) (ZBP env.frame M A E use Q acc c.locals) s4) E s3) E s2) E s1) E s) :
    wpAny M A (comprehension e scope env pos newAcc false first use) Q E s := by
  have keep : ∀ {α : Type} {t : Sem α} {P P' : α → Shared → Prop} {s : Shared}, wpAny M A t P E s → (∀ a z, P a z → P' a z) → wpAny M A t P' E s := fun x y => wpAny_mono x y fun _ _ z => z
  unfold comprehension
  rw [hclos, hcl]
  refine wpAny_bind (keep h fun x s1 h1 => ?_)
  refine wpAny_bind (wpAny_standAt (wpAny_bind (wpAny_of_eq (hs x) ?_)))
  refine wpAny_bind (wpAny_holding (keep h1 fun it s2 h2 => ?_))
  refine wpAny_standIf (wpAny_bind (keep h2 fun acc s3 h3 => ?_))
  refine wpAny_bind (wpAny_pure (wpAny_bind (keep h3 fun c s4 h4 => ?_)))
  obtain ⟨hf, h4⟩ := h4
  dsimp only
  have own : ∀ l : List (Str × NameKind), (∀ x ∈ l, x ∈ scope.names) → ∀ x ∈ l, x.2 = .local → Env.kindOf { c with scope := relabel scope env } x.1 = some .local := fun l hl x hx z => lookup_relabel_local (hnames x (hl x hx) z)
  refine wpAny_holding (wpAny_bind (wpAny_attempt (wpAny_holding (wpAny_run (codeAny_mono h4 fun r s5 h5 => ?_)))))
  match r, h5 with
  | .error x, h5 =>
    obtain ⟨m, hn, h6⟩ := h5
    exact wpAny_bind (wpAny_holding (wpAny_comp_letGo (cenv := { c with scope := relabel scope env }) hkind _ s5 m (own _ fun y hy => (List.mem_filter.mp (List.mem_reverse.mp hy)).1) hn fun h' m' hn' sb => wpAny_mono (h6 h' m' hn' sb _ rfl hf) (fun _ _ z => z.elim) fun _ _ z => z))
  | .ok f, h5 =>
    cases use with
    | none =>
      obtain ⟨m, hn, h6⟩ := h5
      exact wpAny_bind (wpAny_holding (wpAny_comp_letGo (cenv := { c with scope := relabel scope env }) hkind _ s5 m (own _ fun y hy => (List.mem_filter.mp (List.mem_reverse.mp hy)).1) hn fun h' _ _ sb => wpAny_pure (h6 h' sb)))
    | some u =>
      refine wpAny_bind (wpAny_rule (wpAny_bind (wpAny_holding (keep h5 fun _ s6 h6 => ?_))))
      obtain ⟨m, hn, h7⟩ := h6
      refine wpAny_bind (wpAny_comp_letGo (cenv := { c with scope := relabel scope env }) hkind _ s6 m (own _ fun y hy => ?_) hn fun h' _ _ sb => wpAny_pure (h7 h' sb))
      have : y ∈ (scope.names.filter fun x => (x.2 == .local || x.2 == .cell) && x.1 != (".0" : Str)).reverse := (List.mem_append.mp hy).elim List.mem_of_mem_drop List.mem_of_mem_take
      exact (List.mem_filter.mp (List.mem_reverse.mp this)).1
end
end PySem
namespace L2
open PySem PySem.Spec PySem.W PySem.Calls PyProof.Rows
theorem note_frame {env env2:Env} (h:env.frame=env2.frame) (x:Value):noteFrame x env=noteFrame x env2:=by
 unfold PySem.noteFrame PySem.frameOf
 rw [h]
theorem Un.but {fs:List Addr} {H H':Hp} {h h2 h' h2':Heap} {C:Addr} {oh:Obj} (u:Un fs [] H H' h h2) (s1:Heap.SameBut C h h') (s2:Heap.SameBut C h2 h2') (e1:h'.get? C=some oh) (e2:h2'.get? C=some oh) (n':H' C=none) (nf:C∉fs):Un fs [] H H' h' h2' where
 keep b o e n hb hx:=by
  by_cases z:b=C
  .subst z;rw [e1] at e;cases e;exact e2
  .exact (s2.2 b z).trans (u.keep b o ((s1.2 b z).symm.trans e) n hb hx)
 slot b o e n hb hx:=by
  have z:b≠C:=fun z=>nf (z ▸ hb)
  obtain ⟨sl,q⟩:=u.slot b o ((s1.2 b z).symm.trans e) n hb hx
  exact ⟨sl,(s2.2 b z).trans q⟩
 free b o e n hx:=by
  by_cases z:b=C
  .subst z;exact n'
  .exact u.free b o ((s1.2 b z).symm.trans e) n hx
 there b o e hx:=by
  by_cases z:b=C
  .subst z;exact ⟨_,e2⟩
  .obtain ⟨o',q⟩:=u.there b o ((s1.2 b z).symm.trans e) hx
   exact ⟨o',(s2.2 b z).trans q⟩
 tups:=u.tups
 frzs:=u.frzs
 tbls:=u.tbls
section
variable {X:Cx} {pins:List (Addr×Obj)} {σ:St} {H:Hp} {s2:Shared} {k:Nat} {js:List Nat} {N':List Str} {scope:Scope} {fp:List Addr}
theorem comp_out {pins':List (Addr×Obj)} {σ':St} {H':Hp} {s':Shared} {C:Addr} (I:Inv X pins σ H s2) (hfp:∀ b∈fp,FpOk X pins H b) (hC:s2.heap.objs.size <= C)
  (I':Inv (ZAn X N' scope C fp s2 H) pins' σ' H' s') {h':Heap} (hs:Heap.SameBut C s'.heap h'):Inv X pins σ H' { s' with heap:=h' }:=by
 have nC:H' C=none:=I'.free
 have neC:∀ b o,s2.heap.get? b=some o->b≠C:=fun b o e=>ZBk (Heap.lt_size e) hC
 have trC:∀ b u,H' b=some u->b≠C:=fun b u e z=>by rw [z,nC] at e;cases e
 have B:=I'.base
 refine I.call' (s':={ s' with heap:=h' }) (ch:=fp) I'.os ⟨fun b o e nn hb hx=>?_,fun b o e nn hb hx=>?_,fun b o e nn hx=>?_,fun b o e hx=>?_,fun b xs e=>?_,fun b o u e=>?_,fun b ps e=>?_⟩ (fun b u e=>?_) I'.bare fun b hb=>?_
 .exact (hs.2 b (neC b o e)).trans (B.keep b o e nn hb hx)
 .obtain ⟨sl,q⟩:=B.slot b o e nn hb hx
  exact ⟨sl,(hs.2 b (neC b o e)).trans q⟩
 .exact B.free b o e nn hx
 .obtain ⟨o',q⟩:=B.there b o e hx
  exact ⟨o',(hs.2 b (neC b o e)).trans q⟩
 .exact B.tups b xs e
 .exact B.frzs b o u e
 .exact B.tbls b ps e
 .refine (I'.hok b u e).stay (fun c v hcc q=>(hs.2 c ?_).trans q) (fun c q=>q) fun c xs q=>q
  rcases hcc with rfl | hcc
  .exact trC c _ e
  .exact trC c _ hcc
 .obtain ⟨_,f1,_,f3,f4,f5⟩:=hfp b hb
  exact ⟨f3,f1,f4,f5⟩
theorem comp_raise {E:XK} {use:Option (Value->Sem Unit)} {Q':Value->Shared->Prop} {D C:Addr} {pins5:List (Addr×Obj)} {σ5:St} {H5:Hp} {s5 s':Shared} {e:Value} (hstk:X.stack=X.env::X.outer /\ X.env.frame=some X.env.locals) (hx:∀ e s',XF X E e s'->X.xe e s')
  (I:Inv X pins σ H s2) (hfp:∀ b∈fp,FpOk X pins H b) (hC:s2.heap.objs.size <= C) (I5:Inv (ZAn X N' scope C fp s2 H) pins5 σ5 H5 s5) (hc:CXE X.prog X.w X.stack H5 s5 E e s') :
  notedBy (model X.prog X.w) X.A (ZBs scope (ZAT X.env.cells scope.names []) C X.env) (fun e s'=>ZBP X.env.frame (model X.prog X.w) X.A X.xe use Q' (.ref D) C (.error e) s') e s':=by
 obtain ⟨ea,cls,dd,H',rfl,os,bare,un,hok,⟨B,a0,⟨f1,f2,f3,f4⟩,hout,hnew,hB⟩,hE⟩:=hc
 obtain ⟨m,hns,_⟩:=id I5.loc
 have hns:s5.heap.Ns C m:=hns
 obtain ⟨oC,es,ep,eC,dC,rC⟩:=id hns
 have nC5:H5 C=none:=I5.free
 have nCf:C∉frs X.stack:=fun z=>by
  rcases yAC.mp (I.stkSub C z) with q | q
  .exact absurd q.symm (ZBk I.lt hC)
  .exact I.nofs hC q
 have nC':H' C=none:=un.free C oC eC nC5 (fun z=>nomatch z)
 have eC':s'.heap.get? C=some oC:=un.keep C oC eC nC5 nCf (fun z=>nomatch z)
 have hea:ea≠C:=fun z=>by rw [z,eC] at hnew;cases hnew
 have af:X.A.frames=some (X.env::X.outer):=by rw [<- hstk.1];exact I.ok.frames
 have hBC:B.get? C=some oC:=hB C oC eC' nCf (.inr ⟨oC,eC⟩)
 show wpAny _ _ (noteFrame (.ref ea) (ZBs scope (ZAT X.env.cells scope.names []) C X.env)) _ _ s'
 rw [note_frame (show (ZBs scope (ZAT X.env.cells scope.names []) C X.env).frame=X.env.frame from rfl)]
 have ff:Heap.FlyingD B (X.env::X.outer) ea cls (a0,dd) s'.heap:=⟨f1,f2,by rw [<- hstk.1];exact f3,f4⟩
 refine wpAny_looks_onD af hstk.2 ff fun h2 hH up=>?_
 obtain ⟨k1,_,k3,k4⟩:=hH
 rw [<- hstk.1] at k3
 have eC2:h2.get? C=some oC:=k1 C oC hBC
 refine ⟨m,⟨oC,es,ep,eC2,dC,rC⟩,fun h' m' hn' hsb cenv hcl hcf=>?_⟩
 obtain ⟨oh,es',ep',eh,dh,rh⟩:=id hn'
 have nfo:oh.isFreed=false:=(Heap.get?_some_iff.mp eh).2
 have upd1:∀ (hp:Heap) (o:Obj),hp.get? C=some o->(hp.update C fun _=>oh).get? C=some oh:=fun hp o e0=>Heap.get?_update_self _ e0 nfo
 have sb:∀ hp:Heap,Heap.SameBut C hp (hp.update C fun _=>oh):=fun hp=>.update hp C _
 obtain ⟨⟨oe,vs,T,oT,ts,he,hcls,hd,h1,hnT,hTe,hT,hdT,h3⟩,od,d1,d2⟩:=id k4
 have hTC:T≠C:=fun z=>by rw [z,hBC] at hnT;cases hnT
 have he':h'.get? ea=some oe:=(hsb.2 ea hea).trans he
 have hT':h'.get? T=some oT:=(hsb.2 T hTC).trans hT
 have k1':(B.update C fun _=>oh).StaysIn h':=fun b o hb=>by
  by_cases z:b=C
  .subst z;rw [upd1 B oC hBC] at hb;cases hb;exact eh
  .exact (hsb.2 b z).trans (k1 b o (((sb B).2 b z).symm.trans hb))
 have frames:∀ l:List Env,(∀ env∈l,∀ L,env.frame=some L->L≠C)->h2.FunFrames B l->h'.FunFrames (B.update C fun _=>oh) l:=fun l=>by
  induction l with
  | nil=>intro _ _;trivial
  | cons env r ih=>
   intro hl hf
   obtain ⟨a1,⟨L,o,b1,b2,b3,b4⟩,a3⟩:=hf
   have hLC:=hl env yAE L b1
   exact ⟨a1,⟨L,o,b1,((sb B).2 L hLC).trans b2,(hsb.2 L hLC).trans b3,b4⟩,ih (fun e he=>hl e (yAI _ he)) a3⟩
 have k3':h'.FunFrames (B.update C fun _=>oh) X.stack:=frames _ (fun env he L hL z=>nCf (by
  rw [<- z]
  exact List.mem_filterMap.mpr ⟨env,he,hL⟩)) k3
 have k4':h'.TracedAtD (B.update C fun _=>oh) ea cls (a0,dd) (rawInt X.env.locals):=⟨⟨oe,vs,T,oT,ts,he',hcls,hd,h1,((sb B).2 T hTC).trans hnT,hTe,hT',hdT,h3⟩,od,(hsb.2 ea hea).trans d1,d2⟩
 unfold PySem.passOn
 refine wpAny_bind (wpAny_field he' hd h1 ?_)
 rw [if_neg (show ¬ ((Value.ref T == Value.none)=true) from by simp),hcf,hstk.2]
 refine wpAny_bind (wpAny_setFlight_someD k1' k3' k4' fun hh m1 m2 m3 m4=>?_)
 refine wpAny_throw (hx _ _ ?_)
 have J:Inv X pins σ H5 { s5 with heap:=s5.heap.update C fun _=>oh }:=comp_out I hfp hC I5 (sb _)
 have hBu:∀ b o,s'.heap.get? b=some o->b∉frs X.stack->(H' b≠none∨∃ o0,s5.heap.get? b=some o0)->B.get? b=some o:=hB
 have un2:Un (frs X.stack) [] H5 H' s5.heap h2:=un.fly hB k1 up f3
 have un3:Un (frs X.stack) [] H5 H' (s5.heap.update C fun _=>oh) h':=un2.but (sb _) hsb (upd1 _ _ eC) eh nC' nCf
 have hok2:HOk X.prog X.w H' h2:=hok.fly hB k1 (I5.stkFree2 un)
 have trC:∀ b u,H' b=some u->b≠C:=fun b u e z=>by rw [z,nC'] at e;cases e
 have hok3:HOk X.prog X.w H' h':=fun b u e=>(hok2 b u e).stay (fun c v hcc q=>(hsb.2 c (by
  rcases hcc with rfl | hcc
  .exact trC c _ e
  .exact trC c _ hcc)).trans q) (fun c q=>q) fun c xs q=>q
 have hB3:∀ b o,h'.get? b=some o->b∉frs X.stack->(H' b≠none∨∃ o0,(s5.heap.update C fun _=>oh).get? b=some o0)->(B.update C fun _=>oh).get? b=some o:=fun b o e nb hor=>by
  by_cases z:b=C
  .subst z;rw [eh] at e;cases e;exact upd1 B oC hBC
  .have hor2:H' b≠none∨∃ o0,s5.heap.get? b=some o0:=hor.imp id fun ⟨o0,q⟩=>⟨o0,((sb s5.heap).2 b z).symm.trans q⟩
   have e2:h2.get? b=some o:=(hsb.2 b z).symm.trans e
   have:∃ o1,s'.heap.get? b=some o1:=by
    rcases hor2 with y | ⟨o0,y⟩
    .obtain ⟨u,hu⟩:=Option.ne_none_iff_exists'.mp y
     exact (hok b u hu).ex
    .exact un.there b o0 y (fun z=>nomatch z)
   obtain ⟨o1,q1⟩:=this
   have q2:=hB b o1 q1 nb hor2
   have q3:=k1 b o1 q2
   rw [e2] at q3
   cases q3
   exact ((sb B).2 b z).trans q2
 have up2:Heap.UpToSlots h' hh:=fun b o hb hn=>⟨o.slots,m4 b o hb hn⟩
 exact XF.next (s':={ s' with heap:=h' }) (h2:=hh) J os bare un3 hok3 hout (((sb s5.heap).2 ea hea).trans hnew) k3' hB3 hE (.inr rfl) up2 m1 (((sb B).2 ea hea).trans f2) m2 m3
end
section
variable {X:Cx} {k:Nat} {js:List Nat} {N':List Str} {scope:Scope} {tg iter elt:Expr} {ifs:List Expr} {wi:TI} {g:TG} {tt:TT} {te:TE} {pos:Pos}
theorem comp_coreX {E:XK} (hstk:X.stack=X.env::X.outer /\ X.env.frame=some X.env.locals) (hx:∀ e s',XF X E e s'->X.xe e s') {use:Option (Value->Sem Unit)} {Q':Value->Shared->Prop} (hcalm:X.calm=true) (hc:CmpOk X.N X.env.scope k js N' scope) (hi:PI X tg iter wi)
  (hg:∀ C fp s2 H2,PG (ZAn X N' scope C fp s2 H2) tg g) (ht:∀ C fp s2 H2,PIfs (ZAn X N' scope C fp s2 H2) ifs tt) (he:∀ C fp s2 H2 xe,ZBR (CXE X.prog X.w) ((ZAn X N' scope C fp s2 H2).wish xe) E->PE ((ZAn X N' scope C fp s2 H2).wish xe) elt te)
  {pins:List (Addr×Obj)} {s:Shared} {σ:St} {H:Hp} {Q:VK} (I:Inv X pins σ H s) (h:ZCM k js wi g tt te σ H Q)
  (fin:∀ (C D:Addr) (s':Shared) (m:Str->Option Value) (H':Hp) (ys:List V),s'.heap.Ns C m->C≠X.env.locals->C∉X.fs->D≠C->H' C=none->X.s₀.heap.objs.size <= C->(∀ x c,X.env.cells.lookup x=some c->c≠C)->(∀ p∈X.pn++pins,p.1≠C)->(∀ h',Heap.SameBut C s'.heap h'->Inv X pins σ (upd H' D (.lst ys)) { s' with heap:=h' })->Q (.ref D) (upd H' D (.lst ys)) ->
   ZBP X.env.frame (model X.prog X.w) X.A X.xe use Q' (.ref D) C (.ok .next) s')
  (hs:∀ x,foldedSetIterable iter X.env x=pure x) (p':Pos) :
  wpAny (model X.prog X.w) X.A (comprehension (.ListComp elt [⟨tg,iter,ifs,0⟩] scope pos) scope X.env p' (newList []) false (eval iter X.env) use) Q' X.xe s:=by
 have hclos:closureFor scope X.env=pure (ZAT X.env.cells scope.names []):=closureFor_eq fun y hy=>I.ok.has y (hc.fr y hy)
 refine comprehension_x (g:=⟨tg,iter,ifs,0⟩) (gs:=[]) rfl hs hclos hc.kind (fun x hx hl=>by rw [hc.look x hx,hl]) ?_
 refine thn (hi pins s σ H _ I h) fun v s1 h1=>thn h1 fun itv s2 h2=>?_
 obtain ⟨it,fp,tn,J,H2,e,I2,T,st2,f2,W,⟨m0,w0⟩,turn⟩:=h2
 subst e
 have hlt:∀ b∈fp,b < s2.heap.objs.size:=fun b hb=>by
  obtain ⟨o,e,_⟩:=T.obj _ _ st2 b hb
  exact Heap.lt_size e
 refine wpAny_newObj_type (newEnv_comp ?_)
 have hz3:(s2.heap.push { cls:=.type "list",dict:=none,data:=.seq ([]:List Value).toArray }).objs.size=s2.heap.objs.size+1:=Heap.size_push ..
 have I3:=comp_inv (h3:=s2.heap.push { cls:=.type "list",dict:=none,data:=.seq ([]:List Value).toArray }) hc I2 f2 hlt hz3 (fun b o e=>Heap.get?_push_of_some _ e)
 refine ⟨rfl,?_⟩
 dsimp only
 rw [hz3]
 generalize hS4:({ s2 with heap:=pushCells ((s2.heap.push { cls:=.type "list",dict:=none,data:=.seq ([]:List Value).toArray }).push { cls:=.type "dict",data:=.dict #[] }) scope.names }:Shared)=s4 at I3 ⊢
 have keep4:∀ b o,s2.heap.get? b=some o->s4.heap.get? b=some o:=fun b o e=>by
  rw [<- hS4]
  exact pushCells_keeps _ _ b o (Heap.get?_push_of_some _ (Heap.get?_push_of_some _ e))
 have eD4:s4.heap.get? s2.heap.objs.size=some { cls:=.type "list",data:=.seq ([]:List Value).toArray 0 }:=by
  rw [<- hS4]
  exact pushCells_keeps _ _ _ _ (Heap.get?_push_of_some _ (Heap.get?_push_size _ rfl))
 generalize hX':ZAn X N' scope (s2.heap.objs.size+1) fp s2 H2=X' at I3
 have hC':X'.env.locals=s2.heap.objs.size+1:=by rw [<- hX'];rfl
 have hfs':X'.fs=frs X.stack:=by rw [<- hX'];rfl
 have nofsD:∀ a,s2.heap.objs.size <= a->a∉frs X.stack:=fun a ha hb=>by
  rcases yAC.mp (I2.stkSub a hb) with z | z
  .exact absurd z.symm (ZBk I2.lt ha)
  .exact I2.nofs ha z
 have cellD:∀ x c,X'.env.cells.lookup x=some c->c≠s2.heap.objs.size:=fun x c e z=>by
  obtain ⟨v,o,ho,hd⟩:=I3.cell x c e
  rw [z,eD4] at ho
  cases ho
  cases hd
 have pinD:∀ {σ':St} {H':Hp} {s':Shared} {its:List Value} {n:Nat},Inv X' [] σ' H' s'->s'.heap.get? s2.heap.objs.size=some { cls:=.type "list",data:=.seq its.toArray n }->H' s2.heap.objs.size=none ->
   Inv X' [(s2.heap.objs.size,{ cls:=.type "list",data:=.seq its.toArray n })] σ' H' s':=fun {σ' H' s' its n} J e nn=>J.pins_of fun p hp=>by
  have e':p=(s2.heap.objs.size,{ cls:=.type "list",data:=.seq its.toArray n }):=by simpa using hp
  subst e'
  refine ⟨e,nn,?_,?_,fun v z=>nomatch z⟩
  .rw [hC'];exact yAF (yBA _)
  .rw [hfs'];exact nofsD _ (yAA _)
 have I4:=pinD I3 eD4 (I2.hok.fresh (yAA _))
 have stat:∀ {H':Hp} {o:Obj},(∀ b∈fp,H' b=none)->∀ b∈fp,FpOk X' [(s2.heap.objs.size,o)] H' b:=fun {H' o} hn b hb=>by
  have hb':=hlt b hb
  refine ⟨hn b hb,?_,?_,.inl (by rw [<- hX'];exact hb),fun x c e z=>?_,fun p hp z=>?_⟩
  .rw [hC'];exact ZBk hb' (yAK _)
  .rw [hfs']
   intro z
   rcases yAC.mp (I2.stkSub b z) with q | q
   .exact (f2 b hb).2.1 q
   .exact (f2 b hb).2.2.1 q
  .have q:=I3.ok.exf b (by rw [<- hX'];exact hb)
   exact q.2 x c e z
  .rw [show X'.pn=[] by rw [<- hX'];rfl] at hp
   have e':p=(s2.heap.objs.size,o):=by simpa using hp
   subst e'
   exact absurd hb' (by rw [<- z];exact yAW _)
 have hfin:∀ {σ':St} {H':Hp} {s':Shared} {its:List Value} {n:Nat} {ys:List V},Inv X' [(s2.heap.objs.size,{ cls:=.type "list",data:=.seq its.toArray n })] σ' H' s'->Vals ys its->ys.length <= sizeLine->(∀ p,H' p=none->Q (.ref p) (upd H' p (.lst ys))) ->
   ZBP X.env.frame (model X.prog X.w) X.A X.xe use Q' (.ref s2.heap.objs.size) (s2.heap.objs.size+1) (.ok .next) s':=fun {σ' H' s' its n ys} J hv hz hq=>by
  obtain ⟨m,hn,_⟩:=id J.loc
  rw [hC'] at hn
  have nC:H' (s2.heap.objs.size+1)=none:=by rw [<- hC'];exact J.free
  have J':Inv (ZAn X N' scope (s2.heap.objs.size+1) fp s2 H2) [(s2.heap.objs.size,{ cls:=.type "list",data:=.seq its.toArray n })] σ' H' s':=by rw [hX'];exact J
  obtain ⟨nD,E⟩:=comp_end I2 f2 (yAK _) (yAA _) (yAF (yBA _)) J' hv hz
  refine fin _ _ s' m H' ys hn ?_ (I2.nofs (yAK _)) (yAF (yBA _)) nC (yAD I2.sz (yAK _)) (fun x c e z=>?_) (fun p hp z=>?_) E (hq _ nD)
  .exact (ZBk I2.lt (yAK _)).symm
  .obtain ⟨v,q⟩:=I2.cell x c e
   exact absurd z (ZBk q.lt (yAK _))
  .exact absurd z (ZBk (Heap.lt_size (I2.pin p hp).1) (yAK _))
 have hprog:X'.prog=X.prog:=by rw [<- hX'];rfl
 have hw:X'.w=X.w:=by rw [<- hX'];rfl
 have hK:X'.K=X.K:=by rw [<- hX'];rfl
 have hcalm':X'.calm=true:=by rw [<- hX'];exact hcalm
 have hA:X'.A=X.A:=by rw [<- hX'];rfl
 have henv:ZBs scope (ZAT X.env.cells scope.names []) (s2.heap.objs.size+1) X.env=X'.env:=by rw [<- hX'];rfl
 have hgX:=hg (s2.heap.objs.size+1) fp s2 H2
 have htX:=ht (s2.heap.objs.size+1) fp s2 H2
 rw [hX'] at hgX htX
 have hxe:∀ e s',X'.xe e s'->False:=fun e s' z=>by rw [<- hX'] at z;exact z
 have hXA:X'.pn=[]:=by rw [<- hX'];rfl
 have hs0:X'.s₀.heap.objs.size=s2.heap.objs.size:=by rw [<- hX'];rfl
 have loop:codeAny (model X.prog X.w) X.A (.compLoop (.ListComp elt [⟨tg,iter,ifs,0⟩] scope pos) 0 (.ref it) (.ref s2.heap.objs.size) X'.env) (ZBP X.env.frame (model X.prog X.w) X.A X.xe use Q' (.ref s2.heap.objs.size) (s2.heap.objs.size+1)) s4:=by
  refine codeAny_compLoop_any (fun n s'=>∃ i σ' H' its nn ys,Inv X' [(s2.heap.objs.size,{ cls:=.type "list",data:=.seq its.toArray nn })] σ' H' s' /\ tn i s'.heap /\ (∀ b∈fp,H' b=none) /\ Vals ys its /\ W i n ys σ' H') ?_ m0
   ⟨0,_,H2,[],0,[],I4,T.keep _ _ _ st2 (fun b _ o e=>keep4 b o e),fun b hb=>(f2 b hb).1,.nil,w0⟩
  rintro n s5 ⟨i,σ5,H5,its,nn,ys,I5,st5,fr5,hv,w5⟩
  rcases turn i n ys σ5 H5 w5 with ⟨stop,hz,hq⟩ | ⟨go,hz,step⟩
  .have d:=T.done X' hprog hw hK hcalm' i _ s5 σ5 H5 (fun _ _=>False) I5 (stat fr5) st5 stop
   rw [hA] at d
   refine wpAny_mono d (fun r s6 ⟨hr,I6⟩=>?_) fun _ _ z=>z.elim
   subst hr
   exact hfin I6 hv hz hq
  .have d:=T.item X' hprog hw hK hcalm' i _ s5 σ5 H5 (fun _ _=>False) I5 (stat fr5) st5 go
   rw [hA] at d
   refine wpAny_mono d (fun r s6 ⟨u,hr,h6⟩=>?_) fun _ _ z=>z.elim
   subst hr
   refine wpAny_mono h6 (fun _ s7 zz=>?_) fun _ _ z=>z.elim
   obtain ⟨x,H7,I7,r7,y7,st7,fr7⟩:=zz
   have I7':=I7.pinned (stat fr7) (T.obj _ _ st7)
   have a1:=hgX _ s7 σ5 H7 x u _ I7' r7 (step x H7 y7)
   rw [hprog,hw,hA] at a1
   refine wpAny_mono a1 (fun _ s8 zz=>?_) fun _ _ z=>(hxe _ _ z).elim
   obtain ⟨σ8,H8,I8,q8⟩:=zz
   have a2:=htX _ s8 σ8 H8 _ I8 q8
   rw [hprog,hw,hA] at a2
   refine wpAny_mono a2 (fun ok s9 ⟨H9,I9,q9⟩=>?_) fun _ _ z=>(hxe _ _ z).elim
   have back:∀ {σ':St} {H':Hp} {s':Shared},Inv X' ([(s2.heap.objs.size,({ cls:=.type "list",data:=.seq its.toArray nn }:Obj))]++ZCf fp s7.heap) σ' H' s'->tn (i+1) s'.heap /\ (∀ b∈fp,H' b=none):=fun {σ' H' s'} J=>by
    refine ⟨T.keep _ _ _ st7 fun b hb o e=>(J.pin (b,o) (yAG _ (yAG _ (ZBM hb e)))).1,fun b hb=>?_⟩
    obtain ⟨o,e,d⟩:=T.obj _ _ st7 b hb
    exact (J.pin (b,o) (yAG _ (yAG _ (ZBM hb e)))).2.1
   cases ok with
   | false=>
    rw [if_neg yAH] at q9 ⊢
    obtain ⟨m',hm,w9⟩:=q9
    obtain ⟨t9,f9⟩:=back I9
    exact ⟨m',hm,i+1,σ8,H9,its,nn,ys,I9.unpinned,t9,f9,hv,w9⟩
   | true=>
    rw [if_pos rfl] at q9 ⊢
    have hps:ZBR (CXE X.prog X.w) ((ZAn X N' scope (s2.heap.objs.size+1) fp s2 H2).wish (notedBy (model X.prog X.w) X.A X'.env fun e s'=>ZBP X.env.frame (model X.prog X.w) X.A X.xe use Q' (.ref s2.heap.objs.size) (s2.heap.objs.size+1) (.error e) s')) E:=fun pins5 σ5 H5 s5 e s' I5 hc5=>by
     rw [<- henv]
     exact comp_raise hstk hx I2 f2 (yAK _) I5.unwish hc5
    have I9':=I9
    rw [<- hX'] at I9'
    have a3:=he (s2.heap.objs.size+1) fp s2 H2 _ hps _ s9 σ8 H9 _ (I9'.wish _) q9
    have a3:wpAny (model X.prog X.w) X.A (eval elt (ZAn X N' scope (s2.heap.objs.size+1) fp s2 H2).env) _ _ s9:=a3
    rw [hX'] at a3
    refine wpAny_mono a3 (fun uy s10 zz=>?_) fun _ _ z=>z
    obtain ⟨y,H10,I10,r10,m',hm,w10⟩:=zz
    have I10:=I10.unwish
    obtain ⟨t10,f10⟩:=back I10
    have I11:=I10.unpinned
    obtain ⟨eD,nD,_,_,_⟩:=I11.pin (s2.heap.objs.size,{ cls:=.type "list",data:=.seq its.toArray nn }) (yAG _ yAE)
    dsimp only at eD nD
    have hsz:its.length < sizeLine:=by rw [<- hv.length];exact hz
    refine wpAny_list_append_plain ⟨nn,eD⟩ (fun h' hpl hsb=>?_) (by rw [yAP];omega)
    obtain ⟨n',e'⟩:=hpl
    have e'':h'.get? s2.heap.objs.size=some { cls:=.type "list",data:=.seq (its++[uy]).toArray n' }:=by rw [e'];simp
    have I12:Inv X' [] σ8 H10 s10:=I11.pins_of fun p hp=>absurd hp (by simp)
    have I13:=I12.turned (h':=h') (t':=s10.toks) (it:=s2.heap.objs.size) (fun b o hb e=>(hsb.2 b hb).trans e) nD (by rw [hC'];exact yAF (yBA _)) (.inr (by rw [hs0];exact yAA _)) cellD (fun p hp=>absurd hp (by rw [hXA];simp))
    refine ⟨m',hm,i+1,σ8,H10,its++[uy],n',ys++[y],pinD I13 e'' nD,T.keep _ _ _ t10 fun b hb o e=>?_,f10,hv.append (.cons r10 .nil),w10⟩
    exact (hsb.2 b (ZBk (hlt b hb) (yAA _))).trans e
 have hst:codeAny (model X.prog X.w) X.A (.compStart (.ListComp elt [⟨tg,iter,ifs,0⟩] scope pos) 0 (.ref it) (.ref s2.heap.objs.size) X'.env) (ZBP X.env.frame (model X.prog X.w) X.A X.xe use Q' (.ref s2.heap.objs.size) (s2.heap.objs.size+1)) s4 :=
  codeAny_compStart_list loop (T.self X.A 0 s4 _ _ (T.keep _ _ _ st2 (fun b _ o e=>keep4 b o e)) loop)
 rw [<- henv] at hst
 exact hst
theorem pe_compX {E:XK} (hstk:X.stack=X.env::X.outer /\ X.env.frame=some X.env.locals) (hx:∀ e s',XF X E e s'->X.xe e s') (hcalm:X.calm=true) (hc:ZB9 X.N X.env.scope k js N' scope=true) (hi:PI X tg iter wi)
  (hg:∀ C fp s2 H2,PG (ZAn X N' scope C fp s2 H2) tg g) (ht:∀ C fp s2 H2,PIfs (ZAn X N' scope C fp s2 H2) ifs tt) (he:∀ C fp s2 H2 xe,ZBR (CXE X.prog X.w) ((ZAn X N' scope C fp s2 H2).wish xe) E->PE ((ZAn X N' scope C fp s2 H2).wish xe) elt te)
  (hs:∀ x,foldedSetIterable iter X.env x=pure x:=by intro _;rfl):PE X (.ListComp elt [⟨tg,iter,ifs,0⟩] scope pos) (ZCM k js wi g tt te):=by
 intro pins s σ H Q I h
 rw [eval_ListComp]
 refine comp_coreX hstk hx (use:=none) hcalm (ZD1 hc) hi hg ht he I h (fun C D s' m H' ys hn _ _ _ _ _ _ _ E q=>?_) hs _
 exact ⟨m,hn,fun h' hsb=>⟨.ref D,_,E h' hsb,rfl,q⟩⟩
theorem XF.unwish {E:XK} {E':Value->Shared->Prop} {e:Value} {s':Shared} (h:XF (X.wish E') E e s'):XF X E e s':=by
 obtain ⟨pins,σ,H1,s1,ea,cls,dd,H',B,a0,fl,rfl,I,r⟩:=h
 exact ⟨pins,σ,H1,s1,ea,cls,dd,H',B,a0,fl,rfl,I.unwish,r⟩
end
end L2
namespace Pap
end Pap
namespace Law
open PySem L2
local macro_rules | `(tactic| walk_at "o")=>`(tactic| first | exact Or.inl rfl | exact Or.inr rfl)
set_option hygiene false in
local macro_rules | `(tactic| walk_at "rd")=>`(tactic| ((try dsimp only [cx_K,tChain,tForZ_eq,tRevL,tCompR2_eq,sFldAug_eq,cx_cloK,tCallV,startC,tForE_eq,tCompE_eq,ZDq,tAug_eq,ipI_int,gSub,gCons_eq,gNil_eq,tSeq,tIfS,ZDm,tB,tOr,tAnd,tNot,tOp,tUn,tC,ZAZ,tTry,ZDT,ZDR,tMethS,tRaiseX,tXMk,tFS,sXFld,tXFldM,tTry0,tForT_eq,tCompT_eq,tCompS_eq,tForS_eq,tForZ_eqT,tForR3_eq,ZBl,ZC4,tMakeN,tCompR3_eq,tBL,tVar_1,tVar_2,tVar_3,tVar_4,tVar_5,tVar_6,tVar_7,tVar_8,tVar_9,tVar_10,tVar_11,tVar_12,tVar_13,tVar_14,tVar_15,tVar_16,tVar_17,tVar_18,tVar_19,tVar_20,tVar_21,tVar_22,tVar_23,tVar_24,tVar_25,tVar_26,tVar_27,tVar_28,tVar_29,tVar_30,rI0_int,rI_int,rU_int,rEq_int,rNe_int,rEq_bl,rNe_bl,rEq_str,rNe_str,ex_bl,ex_int,tAsg,ZCt,tRet,tRetN,ZDr,ZDp,ZDS,ZDs,tOrV,ZDo,tIf,List.set_cons_zero,List.set_cons_succ,ZDg,ZDe,ZBC,tNil,List.cons_append,List.nil_append,List.append_nil,tCB,tFld_eq,sFld_eq,tForL_eq,tForR1_eq,tForR2_eq,tCompL_eq,tCompR1_eq,tYes,tBM,tBM0,tLst,tTup,ZDf,true_and,tSl,ZDn,ZC3,decide_eq_true_eq,Bool.not_eq_true',decide_eq_false_iff_not,L2.start,yAS,List.map_nil,yAR,List.length_nil,Nat.reduceAdd,Nat.reduceSub,Nat.zero_add,Nat.sub_self,List.replicate_zero,List.replicate_succ,if_true,if_false,yBO,Bool.true_eq_false,Bool.not_true,Bool.not_false]);(try simp only [cx_K,tChain,tForZ_eq,tRevL,tCompR2_eq,sFldAug_eq,cx_cloK,tCallV,startC,tForE_eq,tCompE_eq,ZDq,tAug_eq,ipI_int,gSub,gCons_eq,gNil_eq,tSeq,tIfS,ZDm,tB,tOr,tAnd,tNot,tOp,tUn,tC,ZAZ,tTry,ZDT,ZDR,tMethS,tRaiseX,tXMk,tFS,sXFld,tXFldM,tTry0,tForT_eq,tCompT_eq,tCompS_eq,tForS_eq,tForZ_eqT,tForR3_eq,ZBl,ZC4,tMakeN,tCompR3_eq,tBL,tVar_1,tVar_2,tVar_3,tVar_4,tVar_5,tVar_6,tVar_7,tVar_8,tVar_9,tVar_10,tVar_11,tVar_12,tVar_13,tVar_14,tVar_15,tVar_16,tVar_17,tVar_18,tVar_19,tVar_20,tVar_21,tVar_22,tVar_23,tVar_24,tVar_25,tVar_26,tVar_27,tVar_28,tVar_29,tVar_30,rI0_int,rI_int,rU_int,rEq_int,rNe_int,rEq_bl,rNe_bl,rEq_str,rNe_str,ex_bl,ex_int,tAsg,ZCt,tRet,tRetN,ZDr,ZDp,ZDS,ZDs,tOrV,ZDo,tIf,List.set_cons_zero,List.set_cons_succ,ZDg,ZDe,ZBC,tNil,List.cons_append,List.nil_append,List.append_nil,tCB,tFld_eq,sFld_eq,tForL_eq,tForR1_eq,tForR2_eq,tCompL_eq,tCompR1_eq,tYes,tBM,tBM0,tLst,tTup,ZDf,true_and,tSl,ZDn,ZC3,decide_eq_true_eq,Bool.not_eq_true',decide_eq_false_iff_not,L2.start,yAS,List.map_nil,yAR,List.length_nil,Nat.reduceAdd,Nat.reduceSub,Nat.zero_add,Nat.sub_self,List.replicate_zero,List.replicate_succ,if_true,if_false,yBO,Bool.true_eq_false,Bool.not_true,Bool.not_false])))
local macro_rules | `(tactic| walk_at "up")=>`(tactic| first | assumption | (refine Same.get (by assumption) ?_;walk_at "up"))
local macro_rules | `(tactic| walk_at "lk")=>`(tactic| ((repeat (first | rw [lkc,if_pos rfl] | rw [lkc,if_neg (by decide +kernel)]));first | done | rfl))
noncomputable def top (i:Nat):Stmt:=PySem.Challenge.pw_sorthall_k84_no_rule_text.main.body.getD i (.Pass ⟨0,0,0,0⟩)
noncomputable abbrev ZAW:Stmt:=top 12
noncomputable abbrev ZBL:Stmt:=top 17
noncomputable abbrev ZAs:Stmt:=top 18
noncomputable abbrev ZA0:Stmt:=top 19
noncomputable abbrev ZAt:Stmt:=ZBT (top 21) 0
noncomputable abbrev ZAg:Stmt:=ZBT (top 21) 2
noncomputable abbrev ZAl:Stmt:=ZBT (top 22) 0
noncomputable abbrev ZAc:Stmt:=ZBT (top 22) 2
noncomputable abbrev ZAk:Stmt:=ZBT (top 23) 0
noncomputable abbrev ZAb:Stmt:=ZBT (top 23) 2
noncomputable abbrev ZAj:Stmt:=ZBT (top 24) 0
noncomputable abbrev ZAa:Stmt:=ZBT (top 24) 2
noncomputable abbrev ZAh:Stmt:=ZBT (top 25) 0
noncomputable abbrev ZAX:Stmt:=ZBT (top 25) 2
noncomputable abbrev ZBZ:Stmt:=top 31
noncomputable abbrev ZA4:Stmt:=top 32
noncomputable abbrev ZAw:Stmt:=top 33
noncomputable abbrev ZA6:Stmt:=top 34
noncomputable abbrev ZA5:Stmt:=top 35
noncomputable abbrev ZBa:Stmt:=top 37
noncomputable abbrev ZCD:Stmt:=top 38
noncomputable abbrev ZCE:Stmt:=top 39
noncomputable abbrev ZCd:Stmt:=top 40
noncomputable abbrev ZC8:Stmt:=top 41
noncomputable abbrev ZBX:Stmt:=top 42
noncomputable abbrev ZBz:Stmt:=top 43
noncomputable abbrev ZDO:Stmt:=top 44
noncomputable abbrev ZA7:Stmt:=top 45
noncomputable abbrev ZBy:Stmt:=top 46
noncomputable abbrev ZBY:Stmt:=top 47
noncomputable abbrev ZCm:Stmt:=top 48
theorem sc_is_written_number:FnScope ["text","figures"] ["text"] (ZAB ZAW):=⟨rfl,rfl,rfl,by decide +kernel,rfl,by decide +kernel,by decide +kernel⟩
theorem sc_check_at:FnScope ["at"] ["at"] (ZAB ZBL):=⟨rfl,rfl,rfl,by decide +kernel,rfl,by decide +kernel,by decide +kernel⟩
theorem sc_check_column:FnScope ["at","way"] ["at","way"] (ZAB ZAs):=⟨rfl,rfl,rfl,by decide +kernel,rfl,by decide +kernel,by decide +kernel⟩
theorem sc_widest_of:FnScope ["rules"] ["rules"] (ZAB ZA0):=⟨rfl,rfl,rfl,by decide +kernel,rfl,by decide +kernel,by decide +kernel⟩
theorem sc_KeyRule_init:FnScope ["self","columns","at","way"] ["self","columns"] (ZAB ZAt):=⟨rfl,rfl,rfl,by decide +kernel,rfl,by decide +kernel,by decide +kernel⟩
theorem sc_KeyRule_widest:FnScope ["self"] ["self"] (ZAB ZAg):=⟨rfl,rfl,rfl,by decide +kernel,rfl,by decide +kernel,by decide +kernel⟩
theorem sc_NearRule_init:FnScope ["self","at","gap"] ["self","at","gap"] (ZAB ZAl):=⟨rfl,rfl,rfl,by decide +kernel,rfl,by decide +kernel,by decide +kernel⟩
theorem sc_NearRule_widest:FnScope ["self"] ["self"] (ZAB ZAc):=⟨rfl,rfl,rfl,by decide +kernel,rfl,by decide +kernel,by decide +kernel⟩
theorem sc_RingRule_init:FnScope ["self","at","size"] ["self","at","size"] (ZAB ZAk):=⟨rfl,rfl,rfl,by decide +kernel,rfl,by decide +kernel,by decide +kernel⟩
theorem sc_RingRule_widest:FnScope ["self"] ["self"] (ZAB ZAb):=⟨rfl,rfl,rfl,by decide +kernel,rfl,by decide +kernel,by decide +kernel⟩
theorem sc_VoteRule_init:FnScope ["self","rules"] ["self","rules"] (ZAB ZAj):=⟨rfl,rfl,rfl,by decide +kernel,rfl,by decide +kernel,by decide +kernel⟩
theorem sc_VoteRule_widest:FnScope ["self"] ["self"] (ZAB ZAa):=⟨rfl,rfl,rfl,by decide +kernel,rfl,by decide +kernel,by decide +kernel⟩
theorem sc_ChainRule_init:FnScope ["self","rules"] ["self","rules"] (ZAB ZAh):=⟨rfl,rfl,rfl,by decide +kernel,rfl,by decide +kernel,by decide +kernel⟩
theorem sc_ChainRule_widest:FnScope ["self"] ["self"] (ZAB ZAX):=⟨rfl,rfl,rfl,by decide +kernel,rfl,by decide +kernel,by decide +kernel⟩
theorem sc_read_at:FnScope ["text"] ["text"] (ZAB ZBZ):=⟨rfl,rfl,rfl,by decide +kernel,rfl,by decide +kernel,by decide +kernel⟩
theorem sc_read_size:FnScope ["text"] ["text"] (ZAB ZA4):=⟨rfl,rfl,rfl,by decide +kernel,rfl,by decide +kernel,by decide +kernel⟩
theorem sc_read_single:FnScope ["text","words"] ["text"] (ZAB ZAw):=⟨rfl,rfl,rfl,by decide +kernel,rfl,by decide +kernel,by decide +kernel⟩
theorem sc_read_part:FnScope ["text","singles"] ["text"] (ZAB ZA6):=⟨rfl,rfl,rfl,by decide +kernel,rfl,by decide +kernel,by decide +kernel⟩
theorem sc_read_rule:FnScope ["text"] ["text"] (ZAB ZA5):=⟨rfl,rfl,rfl,by decide +kernel,rfl,by decide +kernel,by decide +kernel⟩
theorem sc_cell_at:FnScope ["_law_script","_law_k"] ["_law_script","_law_k"] (ZAB ZBa):=⟨rfl,rfl,rfl,by decide +kernel,rfl,by decide +kernel,by decide +kernel⟩
theorem sc_whole:FnScope ["_law_found"] ["_law_found"] (ZAB ZCD):=⟨rfl,rfl,rfl,by decide +kernel,rfl,by decide +kernel,by decide +kernel⟩
theorem sc_plain:FnScope ["_law_cell","_law_word","_law_text","_law_number_here"] ["_law_cell"] (ZAB ZCE):=⟨rfl,rfl,rfl,by decide +kernel,rfl,by decide +kernel,by decide +kernel⟩
theorem sc_part:FnScope ["_law_cell"] ["_law_cell"] (ZAB ZCd):=⟨rfl,rfl,rfl,by decide +kernel,rfl,by decide +kernel,by decide +kernel⟩
theorem sc_odd:FnScope ["_law_cell","_law_some"] ["_law_cell"] (ZAB ZC8):=⟨rfl,rfl,rfl,by decide +kernel,rfl,by decide +kernel,by decide +kernel⟩
theorem sc_spoiled:FnScope ["_law_text","_law_cells","_law_cell","_law_at","_law_sign"] ["_law_text","_law_cells"] (ZAB ZBX):=⟨rfl,rfl,rfl,by decide +kernel,rfl,by decide +kernel,by decide +kernel⟩
theorem sc_number:FnScope ["_law_word","_law_figures","_law_number_here","_law_sign"] ["_law_word"] (ZAB ZBz):=⟨rfl,rfl,rfl,by decide +kernel,rfl,by decide +kernel,by decide +kernel⟩
theorem sc_key:FnScope ["_law_word"] ["_law_word"] (ZAB ZDO):=⟨rfl,rfl,rfl,by decide +kernel,rfl,by decide +kernel,by decide +kernel⟩
theorem sc_plain_key:FnScope ["_law_text","_law_words","_law_number_here"] ["_law_text"] (ZAB ZA7):=⟨rfl,rfl,rfl,by decide +kernel,rfl,by decide +kernel,by decide +kernel⟩
theorem sc_widest:FnScope ["_law_text","_law_widest_here","_law_part_here","_law_plains","_law_plain_here","_law_key_here"] ["_law_text"] (ZAB ZBy):=⟨rfl,rfl,rfl,by decide +kernel,rfl,by decide +kernel,by decide +kernel⟩
theorem sc_refused:FnScope ["_law_text","_law_kinds","e"] ["_law_text"] (ZAB ZBY):=⟨rfl,rfl,rfl,by decide +kernel,rfl,by decide +kernel,by decide +kernel⟩
theorem sc_law:FnScope ["_law_script","_law_parts","_law_text","_law_many","_law_due","_law_found"] ["_law_script"] (ZAB ZCm):=⟨rfl,rfl,rfl,by decide +kernel,rfl,by decide +kernel,by decide +kernel⟩
structure Bt (K:W.Frag) (mg:Str->Option Value) (C_KeyRule C_NearRule C_RingRule C_VoteRule C_ChainRule C_HallError C_NoRule C_NoPaper C_NoPlace C_NoKey C_NoRow C_NoOrder C_TooFar C_Spent A_ATS:Addr):Prop where
 b_len:mg "len"=none
 b_range:mg "range"=none
 b_list:mg "list"=none
 b_isinstance:mg "isinstance"=none
 b_bool:mg "bool"=none
 b_int:mg "int"=none
 b_str:mg "str"=none
 b_max:mg "max"=none
 b_all:mg "all"=none
 b_ValueError:mg "ValueError"=none
 c_MOST_FIGURES:∃ t,mg "MOST_FIGURES"=some (.int 60 t)
 c_GREATEST_AT:∃ t,mg "GREATEST_AT"=some (.int 7 t)
 c_UP:∃ t,mg "UP"=some (.str "up" t)
 c_DOWN:∃ t,mg "DOWN"=some (.str "down" t)
 c_NEAR:∃ t,mg "NEAR"=some (.str "near" t)
 c_RING:∃ t,mg "RING"=some (.str "ring" t)
 c_VOTES_AND_BLANK:∃ t,mg "VOTES_AND_BLANK"=some (.str "votes " t)
 c_ATS:mg "ATS"=some (.ref A_ATS)
 q_ATS:∀ H:Hp,SqT K H A_ATS ([.str (Str.ofString "0"),.str (Str.ofString "1"),.str (Str.ofString "2"),.str (Str.ofString "3"),.str (Str.ofString "4"),.str (Str.ofString "5"),.str (Str.ofString "6"),.str (Str.ofString "7")]:List V)
 m_KeyRule:mg "KeyRule"=some (.ref C_KeyRule)
 cl_KeyRule:Cls K C_KeyRule
 n_KeyRule_columns:NoAttr K C_KeyRule "columns"
 m_NearRule:mg "NearRule"=some (.ref C_NearRule)
 cl_NearRule:Cls K C_NearRule
 n_NearRule_at:NoAttr K C_NearRule "at"
 n_NearRule_gap:NoAttr K C_NearRule "gap"
 m_RingRule:mg "RingRule"=some (.ref C_RingRule)
 cl_RingRule:Cls K C_RingRule
 n_RingRule_at:NoAttr K C_RingRule "at"
 n_RingRule_size:NoAttr K C_RingRule "size"
 m_VoteRule:mg "VoteRule"=some (.ref C_VoteRule)
 cl_VoteRule:Cls K C_VoteRule
 n_VoteRule_rules:NoAttr K C_VoteRule "rules"
 m_ChainRule:mg "ChainRule"=some (.ref C_ChainRule)
 cl_ChainRule:Cls K C_ChainRule
 n_ChainRule_rules:NoAttr K C_ChainRule "rules"
 m_HallError:mg "HallError"=some (.ref C_HallError)
 m_NoRule:mg "NoRule"=some (.ref C_NoRule)
 m_NoPaper:mg "NoPaper"=some (.ref C_NoPaper)
 m_NoPlace:mg "NoPlace"=some (.ref C_NoPlace)
 m_NoKey:mg "NoKey"=some (.ref C_NoKey)
 m_NoRow:mg "NoRow"=some (.ref C_NoRow)
 m_NoOrder:mg "NoOrder"=some (.ref C_NoOrder)
 m_TooFar:mg "TooFar"=some (.ref C_TooFar)
 m_Spent:mg "Spent"=some (.ref C_Spent)
 xq_NoRule:PySem.W.excIn K C_NoRule bmV "ValueError.__new__"=true
 xc_NoRule:ExcC K C_NoRule
 xd_NoRule:PySem.W.hasDictIn K C_NoRule=true
 xm_NoRule_HallError:PySem.W.exmOne K (.ref C_NoRule) (.ref C_HallError)=some true
 kit_int_bool:PySem.W.kitOne K (.type "int") (.type "bool")=some false
 kit_str_str:PySem.W.kitOne K (.type "str") (.type "str")=some true
 kit_int_str:PySem.W.kitOne K (.type "int") (.type "str")=some false
 kit_bool_str:PySem.W.kitOne K (.type "bool") (.type "str")=some false
 kit_NoneType_str:PySem.W.kitOne K (.type "NoneType") (.type "str")=some false
 kit_list_str:PySem.W.kitOne K (.type "list") (.type "str")=some false
 kit_tuple_str:PySem.W.kitOne K (.type "tuple") (.type "str")=some false
 kit_NoRule_ValueError:PySem.W.kitOne K (.ref C_NoRule) (.type "ValueError")=some true
 kit_NoRule_NoRow:PySem.W.kitOne K (.ref C_NoRule) (.ref C_NoRow)=some false
 kit_NoRule_NoRule:PySem.W.kitOne K (.ref C_NoRule) (.ref C_NoRule)=some true
 kit_NoRule_NoPlace:PySem.W.kitOne K (.ref C_NoRule) (.ref C_NoPlace)=some false
 kit_NoRule_NoKey:PySem.W.kitOne K (.ref C_NoRule) (.ref C_NoKey)=some false
 kit_NoRule_NoPaper:PySem.W.kitOne K (.ref C_NoRule) (.ref C_NoPaper)=some false
 kit_NoRule_NoOrder:PySem.W.kitOne K (.ref C_NoRule) (.ref C_NoOrder)=some false
 kit_NoRule_TooFar:PySem.W.kitOne K (.ref C_NoRule) (.ref C_TooFar)=some false
 kit_NoRule_Spent:PySem.W.kitOne K (.ref C_NoRule) (.ref C_Spent)=some false
noncomputable def ZDh (K:W.Frag):Sp:=fun vs H Q _=>∃ (a:Addr) (ns:List Int),vs=[.ref a] /\ SqL K H a (ns.map V.int) /\ ns.length <= 63 /\ ∀ H',Q (.bl true) H'
noncomputable def cellOf (ns:List Int) (k:Int):Int:=if k < (ns.length:Int) then (ns[k.toNat]?).getD 0 else 0
noncomputable def ZDZ (K:W.Frag):Sp:=fun vs H Q _=>∃ (a:Addr) (ns:List Int) (k:Int),vs=[.ref a,.int k] /\ SqL K H a (ns.map V.int) /\ 0 <= k /\ Q (.int (cellOf ns k)) H
noncomputable def wayS (u:Bool):Str:=if u=true then "up" else "down"
noncomputable def colD (c:Int×Bool):PyData:=.tuple [.int c.1,.str (wayS c.2)]
theorem wayS_ok (u:Bool):wayS u=("up":Str)∨wayS u=("down":Str):=by
 cases u
 .exact .inr rfl
 .exact .inl rfl
theorem dp_col {K:W.Frag} {H:Hp} {c:Int×Bool} {v:V} (h:Dp K H (colD c) v):∃ t,v=.ref t /\ SqT K H t [.int c.1,.str (wayS c.2)]:=by
 unfold colD at h
 obtain ⟨t,xs,rfl,hs,hd⟩:=h.asT
 unfold DpAll at hd
 obtain ⟨v1,r1,rfl,d1,hd⟩:=hd
 unfold DpAll at hd
 obtain ⟨v2,r2,rfl,d2,hd⟩:=hd
 unfold DpAll at hd
 subst hd
 rw [d1.asI,d2.asS] at hs
 exact ⟨t,rfl,hs⟩
theorem col_at {K:W.Frag} {H:Hp} {cols:List (Int×Bool)} {xs:List V} {i:Nat} {v:V} (h:DpAll K H (cols.map colD) xs) (e:xs[i]?=some v):∃ c t,cols[i]?=some c /\ v=.ref t /\ SqT K H t [.int c.1,.str (wayS c.2)]:=by
 obtain ⟨d,hd,dd⟩:=h.of_get e
 rw [yAY] at hd
 cases ec:cols[i]? with
 | none=>rw [ec] at hd;cases hd
 | some c=>
  rw [ec] at hd
  have hd':colD c=d:=Option.some.inj hd
  subst hd'
  obtain ⟨t,rfl,ht⟩:=dp_col dd
  exact ⟨c,t,rfl,rfl,ht⟩
noncomputable def ZCU:Sp:=fun vs H Q _=>∃ i:Int,vs=[.int i] /\ 0 <= i /\ i <= 7 /\ Q .non H
noncomputable def ZCC:Sp:=fun vs H Q _=>∃ (i:Int) (u:Bool),vs=[.int i,.str (wayS u)] /\ 0 <= i /\ i <= 7 /\ Q .non H
noncomputable def ZBn (K:W.Frag) (C:Addr):Sp:=fun vs H Q _=>∃ (p dx c:Addr) (xs:List V) (cols:List (Int×Bool)),vs=[.ref p,.ref c] /\ H p=some (.ins C dx []) /\ SqL K H c xs /\ DpAll K H (cols.map colD) xs /\ (∀ c∈cols,0 <= c.1 /\ c.1 <= 7) /\
 ∀ l,H l=none->Q .non (upd (upd H l (.lst xs)) p (.ins C dx (putF "columns" (.ref l) [])))
theorem putF1 {f:Str} {v:V}:(putF f v []).lookup f=some v:=by rw [ZAv,if_pos rfl]
theorem putF1n {f g:Str} {v:V} (h:¬ g=f):(putF f v []).lookup g=none:=by
 rw [ZAv,if_neg h]
 rfl
noncomputable def ZCB:Sp:=fun vs H Q _=>∃ i:Int,vs=[.int i] /\ Q (.bl true) H
theorem ZDD {α:Type} {P:TS} {D:Ends} (σ:α->St) (X:α->Hp) (p:α->Prop) {G:Prop} (h:(∀ x,p x->Cut P D (σ x) (X x))->G) (t:∀ x,p x->Cut P D (σ x) (X x)):G:=h t
noncomputable def tx (n:Int):Str:=Str.ofString (toString n)
noncomputable def Sm (n:Int):Prop:=n.natAbs.log2 < 200
theorem Sm.big {n:Int} (h:Sm n):n.natAbs.log2 < 1920:=Nat.lt_trans h (by decide)
theorem tx_len {n:Int} (h:Sm n):(tx n).length <= 201:=by
 unfold tx
 rw [PySem.ofString_length]
 exact int_text_length_le (by decide) h
theorem Sm.of {n:Int} (h:n.natAbs < 2 ^ 200):Sm n:=by
 unfold Sm
 by_cases z:n.natAbs=0
 .rw [z];decide
 .exact (Nat.log2_lt z).mpr h
theorem ZCq {R:Bool->Prop} {K:W.Frag} {H:Hp} {ea C:Addr} {c:V} {b:Bool} {dd:Option Addr} (h:H ea=some (excO ea (.ref C) dd)) (x:ExcC K C) (hd:PySem.W.hasDictIn K C=true) (k:PySem.W.kitOne K (.ref C) (cval c)=some b) (hc:ZCr c=true) (q:R b) :
  ∃ a C' c' b' dd',[V.ref ea,c]=[.ref a,c'] /\ ZCr c'=true /\ H a=some (excO a (.ref C') dd') /\ ExcC K C' /\ PySem.W.hasDictIn K C'=true /\ PySem.W.kitOne K (.ref C') (cval c')=some b' /\ R b':=⟨ea,C,c,b,dd,rfl,hc,h,x,hd,k,q⟩
noncomputable def N60 (n:Int):Prop:=n.natAbs < 10 ^ 60
theorem tx_cps (n:Int):(tx n).cps.toList=if 0 <= n then dgs n.toNat else 45::dgs (-n).toNat:=int_cps n
noncomputable def fgs (n:Int):List Nat:=dgs n.natAbs
theorem tx_eq (n:Int):(tx n).cps.toList=if decide (n < 0) then 45::fgs n else fgs n:=by
 rw [tx_cps]
 by_cases h:0 <= n
 .rw [if_pos h,if_neg (by simp;omega)];unfold fgs;congr 1;omega
 .rw [if_neg h,if_pos (by simp;omega)];unfold fgs;congr 2;omega
theorem tx_chars {n:Int} {c:Nat} (h:c∈(tx n).cps.toList):(48 <= c /\ c <= 57)∨c=45:=by
 rw [tx_eq] at h
 split at h
 .rcases yAC.mp h with z | z
  .exact .inr z
  .exact .inl (dgs_dig z)
 .exact .inl (dgs_dig h)
theorem ZCQ {a b:Str} (h:a.cps.toList=b.cps.toList):a=b:=PySem.Str.ext' (Array.toList_inj.mp h)
theorem join_cons2 (c:Nat) (p q:Str) (r:List Str):(Str.join ⟨#[c]⟩ (p::q::r)).cps.toList=p.cps.toList++c::(Str.join ⟨#[c]⟩ (q::r)).cps.toList:=by
 show (p++⟨#[c]⟩++Str.join ⟨#[c]⟩ (q::r)).cps.toList=_
 rw [PySem.Str.cps_append,PySem.Str.cps_append,Array.toList_append,Array.toList_append,List.append_assoc];rfl
theorem sw_one (x:Str) (c:Nat):Txt.startswith x ⟨#[c]⟩=decide (x.cps.toList[0]?=some c):=by
 unfold Txt.startswith
 rw [yBD,yAT,decide_eq_true_iff,decide_eq_true_iff]
 exact StrLaws.subAt_one x c 0
noncomputable def fig (L:List Nat):List Nat:=if L[0]?=some 45 then L.drop 1 else L
noncomputable def dgB (c:Nat):Bool:=decide (48 <= c) && decide (c <= 57)
theorem dgB_iff {c:Nat}:dgB c=true↔48 <= c /\ c <= 57:=by unfold dgB;rw [yAT,decide_eq_true_iff,decide_eq_true_iff]
noncomputable def wrB (L:List Nat):Bool:=decide (fig L≠[]) && decide ((fig L).length <= 60) && (fig L).all dgB && (decide (L=[48]) || !decide ((fig L)[0]?=some 48))
noncomputable def wv (L:List Nat):Int:=if L[0]?=some 45 then -(vlD (fig L):Int) else vlD (fig L)
noncomputable def wrS (z:Str):Bool:=wrB z.cps.toList
noncomputable def wvS (z:Str):Int:=wv z.cps.toList
noncomputable def Asc (z:Str):Prop:=∀ c∈z.cps.toList,c < 128
noncomputable def figS (z:Str):Str:=⟨(fig z.cps.toList).toArray⟩
theorem sl_one {z:Str} (h:z.cps.toList[0]?=some 45):Txt.slice z (some 1) none=figS z:=by
 have e:Txt.slice z (some 1) none=StrLaws.sliceText z (some 1) none:=rfl
 have hl:0 < z.cps.toList.length:=(yAN.mp h).1
 rw [e,StrLaws.sliceText_from (by omega)]
 apply ZCQ
 unfold figS fig
 rw [if_pos h]
 show (List.drop 1 z.cps.toList).take _=_
 exact yAV (by rw [List.length_drop];omega)
theorem ZCc {z:Str} (h:z.cps.toList[0]?≠some 45):figS z=z:=ZCQ (by unfold figS fig;rw [if_neg h])
theorem fig_sub {L:List Nat} {c:Nat} (h:c∈fig L):c∈L:=by
 unfold fig at h
 split at h
 .exact List.mem_of_mem_drop h
 .exact h
theorem ZB1 {z:Str} {L:List Nat} {y:Str} (h:y.cps.toList=L):(z=y)↔z.cps.toList=L:=⟨fun e=>by rw [e,h],fun e=>ZCQ (by rw [e,h])⟩
theorem in_figs2 (c:Nat):(!(Builtin.Str.occurrences (Str.ofString "0123456789") ⟨#[c]⟩ 0 (Str.ofString "0123456789").length 1).isEmpty)=dgB c:=by
 rw [StrLaws.found_one,show (Str.ofString "0123456789").cps.toList=[48,49,50,51,52,53,54,55,56,57] by decide,yBD,decide_eq_true_iff,dgB_iff]
 simp only [yAC,yBK,or_false]
 omega
theorem fig_len (L:List Nat):(fig L).length <= L.length:=by
 unfold fig
 split
 .rw [List.length_drop];omega
 .exact yAA _
noncomputable def ZDU:Sp:=fun vs H Q _=>∃ z:Str,vs=[.str z] /\ Asc z /\ z.length <= 100000 /\ ∀ H',Same H H'->Q (.bl (wrS z)) H'
noncomputable def wordsOf (l:Str):List Str:=Txt.split l ⟨#[32]⟩
theorem join_has (c:Nat):∀ {A:List Str} {p:Str} {d:Nat},p∈A->d∈p.cps.toList->d∈(Str.join ⟨#[c]⟩ A).cps.toList
 | [a],p,d,h,hd=>by rw [yBB.mp h] at hd;exact hd
 | a::b::A,p,d,h,hd=>by
  rw [join_cons2]
  rcases yAC.mp h with z | z
  .rw [z] at hd;exact yBF _ hd
  .exact yAG _ (yAI _ (join_has c z hd))
theorem split_mem {z p:Str} {c:Nat} (h:p∈Txt.split z ⟨#[c]⟩) {d:Nat} (hd:d∈p.cps.toList):d∈z.cps.toList:=by
 rw [<- StrLaws.join_split z ⟨#[c]⟩]
 exact join_has c h hd
theorem Asc.split {z p:Str} {c:Nat} (h:Asc z) (hp:p∈Txt.split z ⟨#[c]⟩):Asc p:=fun d hd=>h d (split_mem hp hd)
theorem wr_lit {z:Str} (h:wrS z=true):fig z.cps.toList≠[] /\ (fig z.cps.toList).length <= 60 /\ ∀ c∈fig z.cps.toList,48 <= c /\ c <= 57:=by
 unfold wrS wrB at h
 rw [yAT,yAT,yAT,decide_eq_true_iff,decide_eq_true_iff,yAZ] at h
 exact ⟨h.1.1.1,h.1.1.2,fun c hc=>dgB_iff.mp (h.1.2 c hc)⟩
theorem fig_lit (L:List Nat):L=if decide (L[0]?=some 45)=true then 45::fig L else fig L:=by
 unfold fig
 by_cases h:L[0]?=some 45
 .rw [if_pos (decide_eq_true h),if_pos h]
  cases L with
  | nil=>cases h
  | cons c r=>cases h;rfl
 .rw [if_neg (by simpa using h),if_neg h]
theorem slice_sub {z:Str} {lo hi:Option Int} {c:Nat} (h:c∈(Txt.slice z lo hi).cps.toList):c∈z.cps.toList:=by
 unfold Txt.slice at h
 split at h
 .exact h
 .obtain ⟨i,_,e⟩:=List.mem_filterMap.mp (show c∈List.filterMap _ _ from h)
  exact yAM (by rw [Array.getElem?_toList];exact e)
theorem sl_first (z:Str):Txt.slice z none (some 1)=Str.ofString "-"↔z.cps.toList[0]?=some 45:=by
 rw [show Str.ofString "-"=⟨#[45]⟩ by decide,ZB1 (L:=[45]) rfl]
 by_cases hl:1 <= z.cps.toList.length
 .rw [show Txt.slice z none (some 1)=StrLaws.sliceText z none (some 1) from rfl,StrLaws.sliceText_to (by omega)]
  show List.take 1 (List.drop 0 z.cps.toList)=[45]↔_
  rcases z.cps.toList with _ | ⟨c,r⟩
  .simp
  .simp
 .have e:z.cps.toList=[]:=List.length_eq_zero_iff.mp (by omega)
  rw [e]
  refine ⟨fun h=>?_,fun h=>by cases h⟩
  have:(45:Nat)∈z.cps.toList:=slice_sub (lo:=none) (hi:=some 1) (by rw [h];exact yBB.mpr rfl)
  rw [e] at this
  cases this
theorem vl_snoc (l:List Nat) (c:Nat):vlD (l++[c])=vlD l * 10+(c-48):=by unfold vlD;rw [List.foldl_append];rfl
theorem find_dig {c:Nat} (h:48 <= c /\ c <= 57):Txt.find (Str.ofString "0123456789") ⟨#[c]⟩=((c-48:Nat):Int):=by
 obtain rfl | rfl | rfl | rfl | rfl | rfl | rfl | rfl | rfl | rfl:c=48∨c=49∨c=50∨c=51∨c=52∨c=53∨c=54∨c=55∨c=56∨c=57:=by omega
 all_goals decide +kernel
theorem figS_ne (z:Str):figS z≠z↔z.cps.toList[0]?=some 45:=by
 refine ⟨fun h=>Classical.byContradiction fun h'=>h (ZCc h'),fun h e=>?_⟩
 have h1:(fig z.cps.toList).length=z.cps.toList.length:=congrArg (fun s:Str=>s.cps.toList.length) e
 have h2:0 < z.cps.toList.length:=(yAN.mp h).1
 unfold fig at h1
 rw [if_pos h,List.length_drop] at h1
 omega
noncomputable def ZDX:Sp:=fun vs H Q _=>∃ z:Str,vs=[.str z] /\ Asc z /\ z.length <= 100000 /\ Q (if wrS z=true then .int (wvS z) else .non) H
theorem tx_asc (n:Int):Asc (tx n):=fun c hc=>by rcases tx_chars hc with h | h <;> omega
structure Tl (ys:List Str) (n B:Nat):Prop where
 len:ys.length=n
 asc:∀ y∈ys,Asc y
 sum:(ys.map (·.length)).sum <= B
theorem Tl.nil:Tl [] 0 0:=⟨rfl,(fun y h=>by cases h),yAA _⟩
theorem Tl.snoc {ys:List Str} {n B b:Nat} {y:Str} (h:Tl ys n B) (hA:Asc y) (hb:y.length <= b):Tl (ys++[y]) (n+1) (B+b) :=
 ⟨by rw [yAO,h.len];rfl,fun z hz=>by
  rcases yAX.mp hz with e | e
  .exact h.asc z e
  .rw [yBB.mp e];exact hA,by
  rw [yAL,List.sum_append]
  have:=h.sum
  show _+(y.length+0) <= _
  omega⟩
theorem slice_asc {z:Str} {lo hi:Option Int} (h:Asc z):Asc (Txt.slice z lo hi):=fun c hc=>h c (slice_sub hc)
theorem ZBH {x y:Str} (h:Asc x) (h':Asc y):Asc (x++y):=fun c hc=>by
 rw [PySem.Str.cps_append,Array.toList_append] at hc
 rcases yAX.mp hc with z | z
 .exact h c z
 .exact h' c z
theorem ZBW (z:Str) (lo hi:Option Int):(Txt.slice z lo hi).length <= z.length:=Txt.slice_le z lo hi
noncomputable def ZCR:Sp:=fun vs H Q _=>∃ (z:Str) (l:Addr) (ms:List Int),vs=[.str z,.ref l] /\ H l=some (.lst (ms.map V.int)) /\ ms.length <= 3 /\ Asc z /\ z.length <= 11700 /\ ∀ z':Str,Asc z'->z'.length <= 94000->Q (.str z') H
theorem ZDd {K:W.Frag} {H:Hp}:∀ bs:List Bool,DpAll K H (bs.map PyData.bool) (bs.map V.bl)
 | []=>.nil
 | b::bs=>.cons (dp_bl b) (ZDd bs)
structure Pl where
 kd:Nat
 key:Nat
 num:Int
noncomputable def wrd (k:Nat):Str:=if k=0 then "up" else if k=1 then "down" else if k=2 then "near" else "ring"
structure Pl.Ok (p:Pl):Prop where
 kd:p.kd < 4
 key:p.key < 8
 n0:0 <= p.num
 n1:p.kd=3->1 <= p.num
 nn:N60 p.num
theorem wrd_wayS {p:Pl} (h:p.kd < 2):wrd p.kd=wayS (decide (p.kd=0)):=by
 unfold wrd wayS
 by_cases z:p.kd=0
 .rw [if_pos z,decide_eq_true z,if_pos rfl]
 .rw [if_neg z,decide_eq_false z,if_pos (show p.kd=1 by omega)];rfl
noncomputable abbrev fN (a gp:Int):List (Str×V):=[("gap",.int gp),("at",.int a)]
noncomputable abbrev fR (a sz:Int):List (Str×V):=[("size",.int sz),("at",.int a)]
noncomputable abbrev fV (l:Addr):List (Str×V):=[("rules",.ref l)]
noncomputable def ZBx (K:W.Frag) (C:Addr):Sp:=fun vs H Q _=>∃ (p dx c:Addr) (xs:List V) (cols:List (Int×Bool)),vs=[.ref p] /\ H p=some (.ins C dx (putF "columns" (.ref c) [])) /\ SqL K H c xs /\ DpAll K H (cols.map colD) xs /\ cols.length <= 8 /\ ∀ H',Same H H'->Q (.int (maxD (-1) (cols.map (·.1)))) H'
noncomputable def ZBV (C:Addr):Sp:=fun vs H Q _=>∃ (p:Addr) (a gp:Int),vs=[.ref p] /\ Ins H p C (fN a gp) /\ Q (.int a) H
noncomputable def ZBU (C:Addr):Sp:=fun vs H Q _=>∃ (p:Addr) (a gp:Int),vs=[.ref p] /\ Ins H p C (fR a gp) /\ Q (.int a) H
noncomputable def SgAt (K:W.Frag) (CK CN CR:Addr) (H:Hp) (r:Addr) (p:Pl):Prop :=
 (p.kd < 2 /\ ∃ dx c xs,H r=some (.ins CK dx (putF "columns" (.ref c) [])) /\ SqL K H c xs /\ DpAll K H ([((p.key:Int),decide (p.kd=0))].map colD) xs)∨(p.kd=2 /\ Ins H r CN (fN p.key p.num))∨(p.kd=3 /\ Ins H r CR (fR p.key p.num))
theorem SgAt.mono {K:W.Frag} {CK CN CR:Addr} {H H':Hp} {r:Addr} {p:Pl} (e:Same H H') (h:SgAt K CK CN CR H r p):SgAt K CK CN CR H' r p:=by
 rcases h with ⟨h0,dx,c,xs,h1,h2,h3⟩ | ⟨h0,h1⟩ | ⟨h0,h1⟩
 .exact .inl ⟨h0,dx,c,xs,e _ _ h1,e.seq h2,h3.mono e⟩
 .exact .inr (.inl ⟨h0,h1.mono e⟩)
 .exact .inr (.inr ⟨h0,h1.mono e⟩)
noncomputable abbrev MtO (C r:Addr) (m:Str) (H:Hp) (R:Prop):Prop:=∃ b dx fs,V.ref r=.ref b /\ H b=some (.ins C dx fs) /\ fs.lookup m=none /\ R
theorem sg_wid {K:W.Frag} {CK CN CR:Addr} {H:Hp} {r:Addr} {p:Pl} {Q:VK} {E:XK} (h:SgAt K CK CN CR H r p) (q:∀ H',Same H H'->Q (.int p.key) H') :
  MtO CK r (Str.ofString "widest") H (ZBx K CK [.ref r] H Q E)∨MtO CN r (Str.ofString "widest") H (ZBV CN [.ref r] H Q E)∨MtO CR r (Str.ofString "widest") H (ZBU CR [.ref r] H Q E):=by
 rcases h with ⟨h0,dx,c,xs,h1,h2,h3⟩ | ⟨h0,h1⟩ | ⟨h0,h1⟩
 .exact .inl ⟨r,dx,_,rfl,h1,putF1n (by decide +kernel),r,dx,c,xs,_,rfl,h1,h2,h3,Nat.le_add_left 1 7,fun H' s=>q H' s⟩
 .exact .inr (.inl (h1.meth (by walk_at "lk") ⟨r,_,_,rfl,h1,q _ (.refl _)⟩))
 .exact .inr (.inr (h1.meth (by walk_at "lk") ⟨r,_,_,rfl,h1,q _ (.refl _)⟩))
structure Sgs (K:W.Frag) (CK CN CR:Addr) (H:Hp) (xs:List V) (ps:List Pl):Prop where
 len:xs.length=ps.length
 get:∀ (i:Nat) p,ps[i]?=some p->∃ r,xs[i]?=some (V.ref r) /\ SgAt K CK CN CR H r p
theorem Sgs.mono {K:W.Frag} {CK CN CR:Addr} {H H':Hp} {xs:List V} {ps:List Pl} (e:Same H H') (h:Sgs K CK CN CR H xs ps):Sgs K CK CN CR H' xs ps:=⟨h.len,fun i p hp=>by
 obtain ⟨r,a,b⟩:=h.get i p hp
 exact ⟨r,a,b.mono e⟩⟩
theorem Sgs.at {K:W.Frag} {CK CN CR:Addr} {H:Hp} {xs:List V} {ps:List Pl} {i:Nat} {x:V} (h:Sgs K CK CN CR H xs ps) (hx:xs[i]?=some x):∃ p r,ps[i]?=some p /\ x=.ref r /\ SgAt K CK CN CR H r p:=by
 have hi:i < ps.length:=by rw [<- h.len];exact (yAN.mp hx).1
 obtain ⟨r,a,b⟩:=h.get i ps[i] (yAU hi)
 rw [hx] at a
 cases a
 exact ⟨_,r,yAU hi,rfl,b⟩
noncomputable abbrev Prt:=Bool×List Pl
noncomputable def wq (q:Prt):Int:=maxD (-1) (q.2.map fun p=>(p.key:Int))
noncomputable def wR (ps:List Prt):Int:=maxD (-1) (ps.map wq)
noncomputable def VtAt (K:W.Frag) (CK CN CR CV:Addr) (H:Hp) (r:Addr) (ps:List Pl):Prop:=∃ l xs,Ins H r CV (fV l) /\ H l=some (.lst xs) /\ Sgs K CK CN CR H xs ps
noncomputable def PrAt (K:W.Frag) (CK CN CR CV:Addr) (H:Hp) (r:Addr) (q:Prt):Prop:=(q.1=false /\ ∃ p,q.2=[p] /\ SgAt K CK CN CR H r p)∨(q.1=true /\ VtAt K CK CN CR CV H r q.2)
theorem VtAt.mono {K:W.Frag} {CK CN CR CV:Addr} {H H':Hp} {r:Addr} {ps:List Pl} (e:Same H H') (h:VtAt K CK CN CR CV H r ps):VtAt K CK CN CR CV H' r ps:=by
 obtain ⟨l,xs,a,b,c⟩:=h
 exact ⟨l,xs,a.mono e,e _ _ b,c.mono e⟩
theorem VtAt.meth {K:W.Frag} {CK CN CR CV:Addr} {H:Hp} {r:Addr} {ps:List Pl} {m:Str} {R:Prop} (h:VtAt K CK CN CR CV H r ps) (hm:m=Str.ofString "before"∨m=Str.ofString "widest") (q:R):MtO CV r m H R:=by
 obtain ⟨l,xs,a,b,c⟩:=h
 rcases hm with rfl | rfl
 .exact a.meth (by walk_at "lk") q
 .exact a.meth (by walk_at "lk") q
theorem PrAt.mono {K:W.Frag} {CK CN CR CV:Addr} {H H':Hp} {r:Addr} {q:Prt} (e:Same H H') (h:PrAt K CK CN CR CV H r q):PrAt K CK CN CR CV H' r q:=by
 rcases h with ⟨h0,p,a,b⟩ | ⟨h0,a⟩
 .exact .inl ⟨h0,p,a,b.mono e⟩
 .exact .inr ⟨h0,a.mono e⟩
structure Prs (K:W.Frag) (CK CN CR CV:Addr) (H:Hp) (xs:List V) (ps:List Prt):Prop where
 len:xs.length=ps.length
 get:∀ (i:Nat) q,ps[i]?=some q->∃ r,xs[i]?=some (V.ref r) /\ PrAt K CK CN CR CV H r q
theorem Prs.mono {K:W.Frag} {CK CN CR CV:Addr} {H H':Hp} {xs:List V} {ps:List Prt} (e:Same H H') (h:Prs K CK CN CR CV H xs ps):Prs K CK CN CR CV H' xs ps:=⟨h.len,fun i p hp=>by
 obtain ⟨r,a,b⟩:=h.get i p hp
 exact ⟨r,a,b.mono e⟩⟩
theorem Prs.at {K:W.Frag} {CK CN CR CV:Addr} {H:Hp} {xs:List V} {ps:List Prt} {i:Nat} {x:V} (h:Prs K CK CN CR CV H xs ps) (hx:xs[i]?=some x):∃ p r,ps[i]?=some p /\ x=.ref r /\ PrAt K CK CN CR CV H r p:=by
 have hi:i < ps.length:=by rw [<- h.len];exact (yAN.mp hx).1
 obtain ⟨r,a,b⟩:=h.get i ps[i] (yAU hi)
 rw [hx] at a
 cases a
 exact ⟨_,r,yAU hi,rfl,b⟩
noncomputable def ChAt (K:W.Frag) (CK CN CR CV CC:Addr) (H:Hp) (r:Addr) (ps:List Prt):Prop:=∃ l xs,Ins H r CC (fV l) /\ H l=some (.lst xs) /\ Prs K CK CN CR CV H xs ps
theorem ChAt.meth {K:W.Frag} {CK CN CR CV CC:Addr} {H:Hp} {r:Addr} {ps:List Prt} {m:Str} {R:Prop} (h:ChAt K CK CN CR CV CC H r ps) (hm:m=Str.ofString "before"∨m=Str.ofString "widest") (q:R):MtO CC r m H R:=by
 obtain ⟨l,xs,a,b,c⟩:=h
 rcases hm with rfl | rfl
 .exact a.meth (by walk_at "lk") q
 .exact a.meth (by walk_at "lk") q
noncomputable def ZB2 (C:Addr):Sp:=fun vs H Q _=>∃ (p dx c:Addr) (xs:List V),vs=[.ref p,.ref c] /\ H p=some (.ins C dx []) /\ H c=some (.lst xs) /\ ∀ l H',H l=none->l≠p->(∀ b o,b≠p->H b=some o->H' b=some o)->H' l=some (.lst xs)->Ins H' p C (fV l)->Q .non H'
theorem wrd_chars (k c:Nat) (h:c∈(wrd k).cps.toList):97 <= c /\ c <= 122:=by
 unfold wrd at h
 split at h
 .exact (show ∀ c∈("up":Str).cps.toList,97 <= c /\ c <= 122 by decide) c h
 .split at h
  .exact (show ∀ c∈("down":Str).cps.toList,97 <= c /\ c <= 122 by decide) c h
  .split at h
   .exact (show ∀ c∈("near":Str).cps.toList,97 <= c /\ c <= 122 by decide) c h
   .exact (show ∀ c∈("ring":Str).cps.toList,97 <= c /\ c <= 122 by decide) c h
theorem join_charsN (c:Nat) (cs:List Nat):∀ {A:List Str} {d:Nat},d∈(Str.join ⟨(c::cs).toArray⟩ A).cps.toList->d∈c::cs∨∃ p∈A,d∈p.cps.toList
 | [],d,h=>by cases h
 | [a],d,h=>.inr ⟨a,yAE,h⟩
 | a::b::A,d,h=>by
  rw [join_consN] at h
  rcases yAX.mp h with z | z
  .rcases yAX.mp z with z | z
   .exact .inr ⟨a,yAE,z⟩
   .exact .inl z
  .rcases join_charsN c cs z with z | ⟨p,hp,z⟩
   .exact .inl z
   .exact .inr ⟨p,yAI _ hp,z⟩
theorem lit_com:(", ":Str)=⟨[44,32].toArray⟩:=by decide
theorem sw_eq (x y:Str):Txt.startswith x y=(x.cps.toList.take y.length == y.cps.toList):=by
 unfold Txt.startswith
 rw [StrLaws.subAt_eq,List.drop_zero,yBD,yAT]
 refine ⟨fun h=>h.2,fun h=>⟨?_,h⟩⟩
 have e:=congrArg List.length (eq_of_beq h)
 rw [yBE] at e
 have e1:x.cps.toList.length=x.length:=by show _=Array.size _;simp
 have e2:y.cps.toList.length=y.length:=by show _=Array.size _;simp
 rw [e1,e2] at e
 exact decide_eq_true (by omega)
theorem wrd_len (k:Nat):(wrd k).length <= 4:=by
 unfold wrd
 split
 .decide
 .split
  .decide
  .split <;> decide
theorem atW4 (c:Int):atI [V.str (Str.ofString "up"),V.str (Str.ofString "down"),V.str (Str.ofString "near"),V.str (Str.ofString "ring")] (c % 4)=some (.str (wrd (c % 4).toNat)):=by
 have:c % 4=0∨c % 4=1∨c % 4=2∨c % 4=3:=by omega
 rcases this with e | e | e | e <;> rw [e] <;> exact ZBJ (by decide) rfl
noncomputable def fm (m y:Int):Int:=if m < y then y else m
theorem fm_assoc (a b c:Int):fm (fm a b) c=fm a (fm b c):=by
 unfold fm
 by_cases h1:a < b <;> by_cases h2:b < c <;> by_cases h3:a < c <;> simp [h1,h2,h3] <;> omega
theorem fold_fm:∀ (r:List Int) (a x:Int),r.foldl fm (fm a x)=fm a (r.foldl fm x)
 | [],_,_=>rfl
 | y::r,a,x=>by rw [yBI,yBI,fm_assoc,fold_fm r a (fm x y)]
theorem fold_maxD (ks:List Int) {W:Int} (hW:-1 <= W):ks.foldl fm W=fm W (maxD (-1) ks):=by
 cases ks with
 | nil=>show W=fm W (-1);unfold fm;rw [if_neg (by omega)]
 | cons x r=>rw [yBI,fold_fm];rfl
theorem fold_ge:∀ (r:List Int) (x:Int),x <= r.foldl fm x
 | [],_=>Int.le_refl _
 | y::r,x=>by rw [yBI];exact Int.le_trans (by unfold fm;split <;> omega) (fold_ge r _)
theorem maxD_ge {ks:List Int} (h:∀ k∈ks,-1 <= k):-1 <= maxD (-1) ks:=by
 cases ks with
 | nil=>exact Int.le_refl _
 | cons x r=>exact Int.le_trans (h x yAE) (fold_ge r x)
theorem maxD_fm {ks:List Int} (h:∀ k∈ks,-1 <= k):ks.foldl fm (-1)=maxD (-1) ks:=by
 rw [fold_maxD ks (Int.le_refl _)]
 have:=maxD_ge h
 unfold fm
 split <;> omega
theorem Sgs.snoc {K:W.Frag} {CK CN CR:Addr} {H:Hp} {xs:List V} {ps:List Pl} {r:Addr} {p:Pl} (h:Sgs K CK CN CR H xs ps) (hr:SgAt K CK CN CR H r p):Sgs K CK CN CR H (xs++[.ref r]) (ps++[p]):=by
 refine ⟨by rw [yAO,yAO,h.len];rfl,fun i ms hi=>?_⟩
 by_cases z:i < ps.length
 .rw [yBN z] at hi
  obtain ⟨t',a,b⟩:=h.get i ms hi
  exact ⟨t',by rw [yBN (by rw [h.len];exact z)];exact a,b⟩
 .have e:=(yAN.mp hi).1
  rw [yAO] at e
  have e1:i=ps.length:=by have:[p].length=1:=rfl;omega
  subst e1
  rw [yBM (yAA _),Nat.sub_self] at hi
  cases hi
  exact ⟨r,by rw [<- h.len,yBM (yAA _),Nat.sub_self];rfl,hr⟩
theorem Prs.snoc {K:W.Frag} {CK CN CR CV:Addr} {H:Hp} {xs:List V} {ps:List Prt} {r:Addr} {p:Prt} (h:Prs K CK CN CR CV H xs ps) (hr:PrAt K CK CN CR CV H r p):Prs K CK CN CR CV H (xs++[.ref r]) (ps++[p]):=by
 refine ⟨by rw [yAO,yAO,h.len];rfl,fun i ms hi=>?_⟩
 by_cases z:i < ps.length
 .rw [yBN z] at hi
  obtain ⟨t',a,b⟩:=h.get i ms hi
  exact ⟨t',by rw [yBN (by rw [h.len];exact z)];exact a,b⟩
 .have e:=(yAN.mp hi).1
  rw [yAO] at e
  have e1:i=ps.length:=by have:[p].length=1:=rfl;omega
  subst e1
  rw [yBM (yAA _),Nat.sub_self] at hi
  cases hi
  exact ⟨r,by rw [<- h.len,yBM (yAA _),Nat.sub_self];rfl,hr⟩
theorem ZBO {G:Hp} {x dx C:Addr} (hx:G x=none) (hdx:G dx=none):Same G (upd (upd G dx (.own x)) x (.ins C dx [])):=fun b o e=>by
 rw [ZAS (ZAU e hx),ZAS (ZAU e hdx)];exact e
theorem ZDk {C:Addr} {G:Hp} {p2 x dx:Addr} {ys:List V} {Q:VK} {E:XK} (h:G p2=some (.lst ys)) (hx:G x=none) (hdx:G dx=none) (q:∀ l H',Same G H'->H' l=some (.lst ys)->Ins H' x C (fV l)->Q (.ref x) H'):ZB2 C [.ref x,.ref p2] (upd (upd G dx (.own x)) x (.ins C dx [])) (fun v H2=>v=.non /\ Q (.ref x) H2) E :=
 ⟨x,dx,p2,ys,rfl,ZAI,ZBO hx hdx _ _ h,fun l H' hl hlp k hl' hI=>⟨rfl,q l H' (fun b o e=>k b o (ZAU e hx) (ZBO hx hdx _ _ e)) hl' hI⟩⟩
theorem kmade {K:W.Frag} {CK CN CR:Addr} {G:Hp} {x dx p1 t:Addr} {p:Pl} {Q:VK} {E:XK} (ok:p.Ok) (hk:p.kd < 2) (hx:G x=none) (hdx:G dx=none) (h1:G p1=some (.lst [.ref t])) (ht:G t=some (.tup [.int p.key,.str (wrd p.kd)])) (q:∀ H',Same G H'->SgAt K CK CN CR H' x p->Q (.ref x) H'):ZBn K CK [.ref x,.ref p1] (upd (upd G dx (.own x)) x (.ins CK dx [])) (fun v H2=>v=.non /\ Q (.ref x) H2) E:=by
 have S:=ZBO (C:=CK) hx hdx
 have hd:∀ H',Same G H'->DpAll K H' ([((p.key:Int),decide (p.kd=0))].map colD) [V.ref t]:=fun H' s=>.one (by
  have:=s _ _ ht
  rw [wrd_wayS hk] at this
  exact dp_tup (SqT.of this) (.two (dp_int _) (dp_str _)))
 refine ⟨x,dx,p1,[.ref t],_,rfl,ZAI,SqL.of (S _ _ h1),hd _ S,fun c' hc=>?_,fun l hl=>⟨rfl,?_⟩⟩
 .rw [yBB.mp hc]
  have:=ok.key
  exact ⟨by show (0:Int) <= (p.key:Int);omega,by show (p.key:Int) <= 7;omega⟩
 .have hlx:l≠x:=fun z=>by rw [z,ZAI] at hl;cases hl
  have s2:Same G (upd (upd (upd (upd G dx (.own x)) x (.ins CK dx [])) l (.lst [V.ref t])) x (.ins CK dx (putF "columns" (.ref l) []))):=(S.new hl).upd hx
  exact q _ s2 (.inl ⟨hk,dx,l,_,ZAI,SqL.of (by rw [ZAS hlx,ZAI]),hd _ s2⟩)
noncomputable def hdW (w:Str):Nat:=(w.cps.toList[0]?).getD 0
noncomputable def dK (w:Str):Bool:=decide (w.cps.toList.length=1) && decide (48 <= hdW w) && decide (hdW w <= 55)
theorem dK_iff {w:Str}:dK w=true↔∃ c,w=⟨#[c]⟩ /\ 48 <= c /\ c <= 55:=by
 unfold dK hdW
 rw [yAT,yAT,decide_eq_true_iff,decide_eq_true_iff,decide_eq_true_iff]
 constructor
 .rintro ⟨⟨h1,h2⟩,h3⟩
  rcases e:w.cps.toList with _ | ⟨c,_ | ⟨d,r⟩⟩
  .rw [e] at h1;cases h1
  .rw [e] at h2 h3
   exact ⟨c,ZCQ (by rw [e]),h2,h3⟩
  .rw [e] at h1;simp at h1
 .rintro ⟨c,rfl,h2,h3⟩
  exact ⟨⟨rfl,h2⟩,h3⟩
noncomputable def keyW (w:Str):Option Nat:=if dK w=true then some (hdW w-48) else none
theorem eqS {x w:Str} (e:eqV (.str x) (.str w)=true):w=x:=(of_decide_eq_true e).symm
theorem inATS (w:Str):inV (V.str w) [.str (Str.ofString "0"),.str (Str.ofString "1"),.str (Str.ofString "2"),.str (Str.ofString "3"),.str (Str.ofString "4"),.str (Str.ofString "5"),.str (Str.ofString "6"),.str (Str.ofString "7")]=dK w:=by
 rw [yBD,dK_iff]
 unfold inV
 rw [List.any_eq_true]
 constructor
 .rintro ⟨y,hy,e⟩
  simp only [yAC,yBK,or_false] at hy
  rcases hy with rfl | rfl | rfl | rfl | rfl | rfl | rfl | rfl
  .exact ⟨48,(eqS e).trans (by decide),by decide,by decide⟩
  .exact ⟨49,(eqS e).trans (by decide),by decide,by decide⟩
  .exact ⟨50,(eqS e).trans (by decide),by decide,by decide⟩
  .exact ⟨51,(eqS e).trans (by decide),by decide,by decide⟩
  .exact ⟨52,(eqS e).trans (by decide),by decide,by decide⟩
  .exact ⟨53,(eqS e).trans (by decide),by decide,by decide⟩
  .exact ⟨54,(eqS e).trans (by decide),by decide,by decide⟩
  .exact ⟨55,(eqS e).trans (by decide),by decide,by decide⟩
 .rintro ⟨c,rfl,h1,h2⟩
  have:c=48∨c=49∨c=50∨c=51∨c=52∨c=53∨c=54∨c=55:=by omega
  rcases this with rfl | rfl | rfl | rfl | rfl | rfl | rfl | rfl
  .exact ⟨_,yAE,by decide +kernel⟩
  .exact ⟨.str (Str.ofString "1"),by simp,by decide +kernel⟩
  .exact ⟨.str (Str.ofString "2"),by simp,by decide +kernel⟩
  .exact ⟨.str (Str.ofString "3"),by simp,by decide +kernel⟩
  .exact ⟨.str (Str.ofString "4"),by simp,by decide +kernel⟩
  .exact ⟨.str (Str.ofString "5"),by simp,by decide +kernel⟩
  .exact ⟨.str (Str.ofString "6"),by simp,by decide +kernel⟩
  .exact ⟨.str (Str.ofString "7"),by simp,by decide +kernel⟩
noncomputable def isUD (w:Str):Bool:=decide (w=Str.ofString "up") || decide (w=Str.ofString "down")
noncomputable def pkW (ws:List Str):Option Nat :=
 if ws.length=2 /\ isUD (ws.getD 0 Str.empty)=true then keyW (ws.getD 1 Str.empty)
 else if ws.length=3 /\ ((ws.getD 0 Str.empty=Str.ofString "near" /\ wrS (ws.getD 2 Str.empty)=true /\ 0 <= wvS (ws.getD 2 Str.empty))∨(ws.getD 0 Str.empty=Str.ofString "ring" /\ wrS (ws.getD 2 Str.empty)=true /\ 1 <= wvS (ws.getD 2 Str.empty))) then keyW (ws.getD 1 Str.empty)
 else none
noncomputable def pkey (l:Str):Option Nat:=pkW (wordsOf l)
noncomputable def gd (l:Str):Bool:=(pkey l).isSome
noncomputable def kvL (l:Str):Int:=((pkey l).getD 0:Nat)
noncomputable def plT (t:Str):List Str:=if Txt.startswith t (Str.ofString "votes ")=true then Txt.split (Txt.slice t (some 6) none) (Str.ofString " | ") else [t]
noncomputable def partsT (z:Str):List Str:=if z=Str.ofString "" then [] else Txt.split z (Str.ofString ", ")
noncomputable def gdP (t:Str):Bool:=(plT t).all gd
noncomputable def gdZ (z:Str):Bool:=(partsT z).all gdP
noncomputable def wdP (t:Str):Int:=maxD (-1) ((plT t).map kvL)
noncomputable def wdZ (z:Str):Int:=maxD (-1) ((partsT z).map wdP)
theorem split_lenN2 (z y:Str):(Txt.split z y).length <= z.length+2:=by
 unfold Txt.split
 split
 .exact Nat.le_add_left _ _
 .split
  .exact Nat.le_add_left _ _
  .exact split_lenN z y
theorem join_hasN (y:Str):∀ {A:List Str} {p:Str} {d:Nat},p∈A->d∈p.cps.toList->d∈(Str.join y A).cps.toList
 | [a],p,d,h,hd=>by rw [yBB.mp h] at hd;exact hd
 | a::b::A,p,d,h,hd=>by
  rw [join_consN]
  rcases yAC.mp h with z | z
  .rw [z] at hd;exact yBF _ (yBF _ hd)
  .exact yAG _ (join_hasN y z hd)
theorem Asc.splitN {z p y:Str} (h:Asc z) (hp:p∈Txt.split z y):Asc p:=fun d hd=>h d (by
 rw [<- StrLaws.join_split z y]
 exact join_hasN y hp hd)
theorem split_mem_len {z p y:Str} (hp:p∈Txt.split z y):p.length <= z.length:=by
 have:=join_mem_le y _ _ hp
 rwa [show Str.join y (Txt.split z y)=z from StrLaws.join_split z y] at this
theorem plT_sub {t l:Str} (hA:Asc t) (h:l∈plT t):Asc l /\ l.length <= t.length:=by
 unfold plT at h
 split at h
 .exact ⟨(slice_asc hA).splitN h,yAD (split_mem_len h) (ZBW _ _ _)⟩
 .rw [yBB.mp h];exact ⟨hA,yAA _⟩
theorem partsT_sub {z t:Str} (hA:Asc z) (h:t∈partsT z):Asc t /\ t.length <= z.length:=by
 unfold partsT at h
 split at h
 .cases h
 .exact ⟨hA.splitN h,split_mem_len h⟩
theorem ZC9 (t:Str):(plT t).length <= t.length+2:=by
 unfold plT
 split
 .exact yAD (split_lenN2 _ _) (Nat.add_le_add_right (ZBW _ _ _) 2)
 .exact Nat.le_add_left _ _
theorem partsT_len (t:Str):(partsT t).length <= t.length+2:=by
 unfold partsT
 split
 .exact yBC _
 .exact split_lenN2 _ _
theorem kvL_ge (l:Str):-1 <= kvL l:=by unfold kvL;omega
theorem ZB8 {K:W.Frag} {a:Addr} {xs:List V} {g:TG} {tt:TT} {te:TE} {Q:VK} {σ0:St} {H:Hp} (h:SqL K H a xs) (hz:xs.length <= 200000) (P:Nat->List V->St->Hp->Prop) (h0:P 0 [] σ0 H) (hl:∀ i ys σ H,i <= xs.length->P i ys σ H->SqL K H a xs /\ ys.length <= i)
  (hs:∀ i ys x σ H,i < xs.length->xs[i]?=some x->P i ys σ H->g x σ H fun σ2 H2=>tt σ2 H2 fun b H3=>if b=true then te σ2 H3 fun y H4=>Nxt P xs.length i (ys++[y]) σ2 H4 else Nxt P xs.length i ys σ2 H3)
  (hd:∀ ys σ H,P xs.length ys σ H->∀ p,H p=none->Q (.ref p) (upd H p (.lst ys))):ZD0 K g tt te σ0 Q (.ref a) H:=⟨a,rfl,⟨xs,h⟩,comp_list P h0 hl (by rw [sizeLine_eq];omega) hs hd⟩
noncomputable def NoS (H:Hp) (v:V):Prop:=v=.non∨(∃ i,v=.int i)∨(∃ b,v=.bl b)∨(∃ a xs,v=.ref a /\ H a=some (.lst xs))∨(∃ a xs,v=.ref a /\ H a=some (.tup xs))
noncomputable def ZCl (C CE:Addr):Sp:=fun vs H Q E=>∃ (x dx:Addr) (a gp:Int),vs=[.ref x,.int a,.int gp] /\ H x=some (.ins C dx []) /\ 0 <= a /\ a <= 7 /\ (0 <= gp->∀ H',(∀ b o,b≠x->H b=some o->H' b=some o)->Ins H' x C (fN a gp)->Q .non H') /\ (gp < 0->E (.ref CE) none H)
noncomputable def ZCi (C CE:Addr):Sp:=fun vs H Q E=>∃ (x dx:Addr) (a gp:Int),vs=[.ref x,.int a,.int gp] /\ H x=some (.ins C dx []) /\ 0 <= a /\ a <= 7 /\ (1 <= gp->∀ H',(∀ b o,b≠x->H b=some o->H' b=some o)->Ins H' x C (fR a gp)->Q .non H') /\ (gp < 1->E (.ref CE) none H)
noncomputable def ZCS (CE:Addr):Sp:=fun vs H Q E=>∃ w:Str,vs=[.str w] /\ (dK w=true->Q (.int ((hdW w-48:Nat):Int)) H) /\ (dK w=false->E (.ref CE) none H)
noncomputable def ZB3 (CE:Addr):Sp:=fun vs H Q E=>∃ w:Str,vs=[.str w] /\ Asc w /\ w.length <= 94000 /\ ∀ H',Same H H'->(wrS w=true->Q (.int (wvS w)) H') /\ (wrS w=false->E (.ref CE) none H')
noncomputable def ZBc (K:W.Frag) (CK CN CR CE:Addr):Sp:=fun vs H Q E=>∃ l:Str,vs=[.str l] /\ Asc l /\ l.length <= 94000 /\ (∀ k,pkey l=some k->∀ r H' p,Same H H'->SgAt K CK CN CR H' r p->p.key=k->Q (.ref r) H') /\ (pkey l=none->∀ H',Same H H'->E (.ref CE) none H')
noncomputable def ZB4 (K:W.Frag) (CK CN CR CV CE:Addr):Sp:=fun vs H Q E=>∃ t:Str,vs=[.str t] /\ Asc t /\ t.length <= 94000 /\ (gdP t=true->∀ r H' q,Same H H'->PrAt K CK CN CR CV H' r q->q.2.map (fun p=>(p.key:Int))=(plT t).map kvL->Q (.ref r) H') /\ (gdP t=false->∀ H',Same H H'->E (.ref CE) none H')
noncomputable def ZBN (K:W.Frag) (CK CN CR CV CC CE:Addr):Sp:=fun vs H Q E=>∃ v:V,vs=[v] /\ (∀ z,v=.str z->Asc z /\ z.length <= 94000 /\ (gdZ z=true->∀ r H' ps,Same H H'->ChAt K CK CN CR CV CC H' r ps->ps.map wq=(partsT z).map wdP->(∀ q∈ps,q.2.length <= 100000)->ps.length <= 100000->Q (.ref r) H') /\ (gdZ z=false->∀ H',Same H H'->E (.ref CE) none H')) /\ ((∃ z,v=.str z)∨(NoS H v /\ E (.ref CE) none H))
noncomputable def ZC6 (K:W.Frag) (CK CN CR:Addr):Sp:=fun vs H Q _=>∃ (l:Addr) (xs:List V) (ps:List Pl),vs=[.ref l] /\ H l=some (.lst xs) /\ Sgs K CK CN CR H xs ps /\ ps.length <= 100000 /\ ∀ H',Same H H'->Q (.int (maxD (-1) (ps.map fun p=>(p.key:Int)))) H'
noncomputable def ZCh (K:W.Frag) (CK CN CR CV:Addr):Sp:=fun vs H Q _=>∃ (r:Addr) (ps:List Pl),vs=[.ref r] /\ VtAt K CK CN CR CV H r ps /\ ps.length <= 100000 /\ ∀ H',Same H H'->Q (.int (maxD (-1) (ps.map fun p=>(p.key:Int)))) H'
noncomputable def ZC5 (K:W.Frag) (CK CN CR CV:Addr):Sp:=fun vs H Q _=>∃ (l:Addr) (xs:List V) (ps:List Prt),vs=[.ref l] /\ H l=some (.lst xs) /\ Prs K CK CN CR CV H xs ps /\ (∀ q∈ps,q.2.length <= 100000) /\ ps.length <= 100000 /\ ∀ H',Same H H'->Q (.int (wR ps)) H'
noncomputable def ZC7 (K:W.Frag) (CK CN CR CV CC:Addr):Sp:=fun vs H Q _=>∃ (r:Addr) (ps:List Prt),vs=[.ref r] /\ ChAt K CK CN CR CV CC H r ps /\ (∀ q∈ps,q.2.length <= 100000) /\ ps.length <= 100000 /\ ∀ H',Same H H'->Q (.int (wR ps)) H'
theorem pr_widB {K:W.Frag} {CK CN CR CV:Addr} {H:Hp} {r:Addr} {q:Prt} {Q:VK} {E:XK} (h:PrAt K CK CN CR CV H r q) (ok:q.2.length <= 100000) (k:∀ H',Same H H'->Q (.int (wq q)) H') :
  MtO CK r (Str.ofString "widest") H (ZBx K CK [.ref r] H Q E)∨MtO CN r (Str.ofString "widest") H (ZBV CN [.ref r] H Q E)∨MtO CR r (Str.ofString "widest") H (ZBU CR [.ref r] H Q E)∨MtO CV r (Str.ofString "widest") H (ZCh K CK CN CR CV [.ref r] H Q E):=by
 rcases h with ⟨h0,p,e,b⟩ | ⟨h0,b⟩
 .rcases sg_wid (E:=E) (Q:=Q) b (fun H' s=>by have:=k H' s;unfold wq at this;rw [e] at this;exact this) with z | z | z
  .exact .inl z
  .exact .inr (.inl z)
  .exact .inr (.inr (.inl z))
 .exact .inr (.inr (.inr (VtAt.meth b (.inr rfl) ⟨r,q.2,rfl,b,ok,k⟩)))
noncomputable def oV:Option Nat->V
 | some k=>.int k
 | none=>.non
noncomputable def ZCT:Sp:=fun vs H Q _=>∃ c:Int,vs=[.int c] /\ ∀ z H',Same H H'->Asc z->z.length <= 410->Q (.str z) H'
noncomputable def ZCk:Sp:=fun vs H Q _=>∃ c:Int,vs=[.int c] /\ ∀ z H',Same H H'->Asc z->z.length <= 830->Q (.str z) H'
noncomputable def ZBm:Sp:=fun vs H Q _=>∃ c:Int,vs=[.int c] /\ ∀ z H',Same H H'->Asc z->z.length <= 30->Q (.str z) H'
noncomputable def ZDY:Sp:=fun vs H Q _=>∃ z:Str,vs=[.str z] /\ z.length <= 100000 /\ Q (oV (keyW z)) H
noncomputable def ZDW:Sp:=fun vs H Q _=>∃ z:Str,vs=[.str z] /\ Asc z /\ z.length <= 94000 /\ ∀ H',Same H H'->Q (oV (pkey z)) H'
noncomputable def ZDV:Sp:=fun vs H Q _=>∃ z:Str,vs=[.str z] /\ Asc z /\ z.length <= 94000 /\ ∀ H',Same H H'->Q (if gdZ z=true then .int (wdZ z) else .non) H'
noncomputable def ZCj:Sp:=fun vs H Q _=>∃ v:V,vs=[v] /\ ((∃ z,v=.str z /\ Asc z /\ z.length <= 94000 /\ gdZ z=false)∨NoS H v) /\ ∀ H',Same H H'->Q (.bl true) H'
theorem ZDH {w0 w1:Str} {r:List Str} (h:dK w1=false):pkW (w0::w1::r)=none:=by
 have:keyW w1=none:=by unfold keyW;rw [h];rfl
 unfold pkW
 split
 .exact this
 .split
  .exact this
  .rfl
theorem pk_len {ws:List Str} (h2:ws.length≠2) (h3:ws.length≠3):pkW ws=none:=by
 unfold pkW
 rw [if_neg (fun z=>h2 z.1),if_neg (fun z=>h3 z.1)]
theorem pk_two {w0 w1:Str} (h:isUD w0=true) (hd:dK w1=true):pkW [w0,w1]=some (hdW w1-48):=by
 unfold pkW
 rw [if_pos ⟨rfl,h⟩]
 unfold keyW
 rw [show ([w0,w1]:List Str).getD 1 Str.empty=w1 from rfl,if_pos hd]
theorem pk_two_no {w0 w1:Str} (h:isUD w0=false):pkW [w0,w1]=none:=by
 unfold pkW
 rw [if_neg (fun z=>by have e:isUD w0=true:=z.2;rw [h] at e;cases e),if_neg (fun z=>by cases z.1)]
theorem pk_three {w0 w1 w2:Str} (h:(w0=Str.ofString "near" /\ wrS w2=true /\ 0 <= wvS w2)∨(w0=Str.ofString "ring" /\ wrS w2=true /\ 1 <= wvS w2)) (hd:dK w1=true):pkW [w0,w1,w2]=some (hdW w1-48):=by
 unfold pkW
 rw [if_neg (fun z=>by cases z.1),if_pos ⟨rfl,h⟩]
 unfold keyW
 rw [show ([w0,w1,w2]:List Str).getD 1 Str.empty=w1 from rfl,if_pos hd]
theorem ZA8 {w0 w1 w2:Str} (h:¬ ((w0=Str.ofString "near" /\ wrS w2=true /\ 0 <= wvS w2)∨(w0=Str.ofString "ring" /\ wrS w2=true /\ 1 <= wvS w2))):pkW [w0,w1,w2]=none:=by
 unfold pkW
 rw [if_neg (fun z=>by cases z.1),if_neg (fun z=>h z.2)]
theorem near_ring:Str.ofString "near"≠Str.ofString "ring":=by decide +kernel
theorem ZDz {w:Str} (h:dK w=true):hdW w-48 < 8:=by
 obtain ⟨c,e,h1,h2⟩:=dK_iff.mp h
 have:hdW w=c:=by rw [e];rfl
 omega
theorem nmadeX {K:W.Frag} {CK CN CR CE:Addr} {G:Hp} {x dx:Addr} {p:Pl} {Q:VK} {E:XK} (hk:p.kd=2) (h8:p.key < 8) (hx:G x=none) (hdx:G dx=none) (q1:0 <= p.num->∀ H',Same G H'->SgAt K CK CN CR H' x p->Q (.ref x) H') (q2:p.num < 0->∀ H',Same G H'->E (.ref CE) none H'):ZCl CN CE [.ref x,.int p.key,.int p.num] (upd (upd G dx (.own x)) x (.ins CN dx [])) (fun v H2=>v=.non /\ Q (.ref x) H2) E :=
 ⟨x,dx,_,_,rfl,ZAI,by omega,by omega,fun hg H' k hI=>⟨rfl,q1 hg H' (fun b o e=>k b o (ZAU e hx) (ZBO hx hdx _ _ e)) (.inr (.inl ⟨hk,hI⟩))⟩,fun hg=>q2 hg _ (ZBO hx hdx)⟩
theorem rmadeX {K:W.Frag} {CK CN CR CE:Addr} {G:Hp} {x dx:Addr} {p:Pl} {Q:VK} {E:XK} (hk:p.kd=3) (h8:p.key < 8) (hx:G x=none) (hdx:G dx=none) (q1:1 <= p.num->∀ H',Same G H'->SgAt K CK CN CR H' x p->Q (.ref x) H') (q2:p.num < 1->∀ H',Same G H'->E (.ref CE) none H'):ZCi CR CE [.ref x,.int p.key,.int p.num] (upd (upd G dx (.own x)) x (.ins CR dx [])) (fun v H2=>v=.non /\ Q (.ref x) H2) E :=
 ⟨x,dx,_,_,rfl,ZAI,by omega,by omega,fun hg H' k hI=>⟨rfl,q1 hg H' (fun b o e=>k b o (ZAU e hx) (ZBO hx hdx _ _ e)) (.inr (.inr ⟨hk,hI⟩))⟩,fun hg=>q2 hg _ (ZBO hx hdx)⟩
theorem ZDc {l:Str} {k:Nat} (h:pkey l=some k):gd l=true /\ kvL l=k:=by
 unfold gd kvL
 rw [h]
 exact ⟨rfl,rfl⟩
theorem ZDx {l:Str} (h:pkey l=none):gd l=false:=by unfold gd;rw [h];rfl
theorem plOk {k0:Nat} {w1:Str} (h:k0 < 2) (hd:dK w1=true):Pl.Ok ⟨k0,hdW w1-48,0⟩:=⟨by show k0 < 4;omega,ZDz hd,Int.le_refl _,(fun z=>by have:k0=3:=z;omega),(show N60 0 by unfold N60;decide)⟩
theorem sl_six (t:Str):Txt.slice t none (some 6)=Str.ofString "votes "↔Txt.startswith t (Str.ofString "votes ")=true:=by
 rw [sw_eq,show (Str.ofString "votes ").length=6 by decide]
 by_cases hl:6 <= t.cps.toList.length
 .rw [ZB1 (L:=(Str.ofString "votes ").cps.toList) rfl,show Txt.slice t none (some 6)=StrLaws.sliceText t none (some 6) from rfl,StrLaws.sliceText_to (by omega)]
  show List.take 6 (List.drop 0 t.cps.toList)=_↔_
  rw [List.drop_zero]
  exact ⟨fun h=>by rw [h];exact beq_self_eq_true _,fun h=>eq_of_beq h⟩
 .have e1:t.cps.toList.length=t.length:=by show _=Array.size _;simp
  refine ⟨fun h=>?_,fun h=>?_⟩
  .have:=ZBW t none (some 6)
   rw [h,show (Str.ofString "votes ").length=6 by decide] at this
   omega
  .have:=congrArg List.length (eq_of_beq h)
   rw [yBE,show (Str.ofString "votes ").cps.toList.length=6 by decide] at this
   omega
theorem wrd_asc (k:Nat):Asc (wrd k):=fun c hc=>by have:=wrd_chars k c hc;omega
theorem sp_asc:Asc (Str.ofString " "):=show ∀ c∈(Str.ofString " ").cps.toList,c < 128 by decide
theorem find_key {c:Nat} (h:48 <= c /\ c <= 55):Txt.find (Str.ofString "01234567") ⟨#[c]⟩=((c-48:Nat):Int):=by
 obtain rfl | rfl | rfl | rfl | rfl | rfl | rfl | rfl:c=48∨c=49∨c=50∨c=51∨c=52∨c=53∨c=54∨c=55:=by omega
 all_goals decide +kernel
theorem in_key (c:Nat):(Builtin.Str.occurrences (Str.ofString "01234567") ⟨#[c]⟩ 0 (Str.ofString "01234567").length 1).isEmpty=false↔48 <= c /\ c <= 55:=by
 have h:=StrLaws.found_one (Str.ofString "01234567") c
 rw [show (Str.ofString "01234567").cps.toList=[48,49,50,51,52,53,54,55] by decide] at h
 constructor
 .intro e
  rw [e] at h
  have:c∈[48,49,50,51,52,53,54,55]:=of_decide_eq_true h.symm
  simp only [yAC,yBK,or_false] at this
  omega
 .intro e
  rw [decide_eq_true (show c∈[48,49,50,51,52,53,54,55] by simp only [yAC,yBK,or_false];omega)] at h
  exact (Bool.not_eq_true' _).mp h
noncomputable def wZ (ls:List (List Str)):Int:=ls.foldl (fun W q=>(q.map kvL).foldl fm W) (-1)
theorem wZ_eq (ls:List (List Str)):wZ ls=maxD (-1) (ls.map fun q=>maxD (-1) (q.map kvL)):=by
 have ge:∀ q:List Str,-1 <= maxD (-1) (q.map kvL):=fun q=>maxD_ge fun k hk=>by obtain ⟨p,_,rfl⟩:=List.mem_map.mp hk;exact kvL_ge p
 rw [<- maxD_fm fun k hk=>by obtain ⟨q,_,rfl⟩:=List.mem_map.mp hk;exact ge q]
 unfold wZ
 have key:∀ (ps:List (List Str)) (W:Int),-1 <= W->ps.foldl (fun W q=>(q.map kvL).foldl fm W) W=(ps.map fun q=>maxD (-1) (q.map kvL)).foldl fm W:=by
  intro ps
  induction ps with
  | nil=>intro W _;rfl
  | cons q r ih=>
   intro W hW
   rw [yBI,yAS,yBI,fold_maxD _ hW]
   exact ih _ (by unfold fm;split <;> omega)
 exact key ls _ (Int.le_refl _)
theorem oV_key (z:Str):oV (keyW z)=if dK z=true then .int ((hdW z-48:Nat):Int) else .non:=by
 unfold keyW
 split <;> rfl
theorem NoS.mono {H H':Hp} {v:V} (s:Same H H') (h:NoS H v):NoS H' v:=by
 rcases h with h | h | h | ⟨a,xs,h,ha⟩ | ⟨a,xs,h,ha⟩
 .exact .inl h
 .exact .inr (.inl h)
 .exact .inr (.inr (.inl h))
 .exact .inr (.inr (.inr (.inl ⟨a,xs,h,s _ _ ha⟩)))
 .exact .inr (.inr (.inr (.inr ⟨a,xs,h,s _ _ ha⟩)))
theorem NoS.no {H:Hp} {z:Str} (h:NoS H (.str z)):False:=by
 rcases h with h | ⟨_,h⟩ | ⟨_,h⟩ | ⟨_,_,h,_⟩ | ⟨_,_,h,_⟩ <;> cases h
theorem refu_of {K:W.Frag} {CK CN CR CV CC CE:Addr} {H H1:Hp} {v:V} {Q:VK} {E:XK} (s1:Same H H1) (hv:(∃ z,v=.str z /\ Asc z /\ z.length <= 94000 /\ gdZ z=false)∨NoS H v) (fin:∀ H',Same H1 H'->E (.ref CE) none H'):ZBN K CK CN CR CV CC CE [v] H1 Q E:=by
 rcases hv with ⟨z,rfl,hA,hz,hg⟩ | hn
 .exact ⟨_,rfl,fun z' e=>by cases e;exact ⟨hA,hz,(fun h=>by rw [hg] at h;cases h),fun _ H' s=>fin H' s⟩,.inl ⟨z,rfl⟩⟩
 .exact ⟨v,rfl,fun z' e=>by rw [e] at hn;exact hn.no.elim,.inr ⟨hn.mono s1,fin _ (.refl _)⟩⟩
noncomputable def oL1 (x1 x2 x3 x4 x5 x6 x7 x8 x9 x10 x11:Str):List Expr:=[ (PySem.Expr.Constant (PySem.Const.str x1) 0 ⟨187,17,187,21⟩),(PySem.Expr.Constant (PySem.Const.str x2) 0 ⟨187,23,187,28⟩),(PySem.Expr.Constant (PySem.Const.str x3) 0 ⟨187,30,187,36⟩),(PySem.Expr.Constant (PySem.Const.str x4) 0 ⟨187,38,187,45⟩),(PySem.Expr.Constant (PySem.Const.str x5) 0 ⟨187,47,187,54⟩),(PySem.Expr.Constant (PySem.Const.str x6) 0 ⟨187,56,187,63⟩),(PySem.Expr.Constant (PySem.Const.str x7) 0 ⟨187,65,187,72⟩),(PySem.Expr.Constant (PySem.Const.str x8) 0 ⟨187,74,187,80⟩),(PySem.Expr.Constant (PySem.Const.str x9) 0 ⟨187,82,187,89⟩),(PySem.Expr.Constant (PySem.Const.str x10) 0 ⟨187,91,187,104⟩),(PySem.Expr.Constant (PySem.Const.str x11) 0 ⟨187,106,187,121⟩)]
theorem pa_oL1 {X:Cx} {x1 x2 x3 x4 x5 x6 x7 x8 x9 x10 x11:Str}:PA X (oL1 x1 x2 x3 x4 x5 x6 x7 x8 x9 x10 x11) (ZBl [(x1,0,⟨187,17,187,21⟩),(x2,0,⟨187,23,187,28⟩),(x3,0,⟨187,30,187,36⟩),(x4,0,⟨187,38,187,45⟩),(x5,0,⟨187,47,187,54⟩),(x6,0,⟨187,56,187,63⟩),(x7,0,⟨187,65,187,72⟩),(x8,0,⟨187,74,187,80⟩),(x9,0,⟨187,82,187,89⟩),(x10,0,⟨187,91,187,104⟩),(x11,0,⟨187,106,187,121⟩)]):=Eq.subst (motive:=fun z=>PA X z (ZBl [(x1,0,⟨187,17,187,21⟩),(x2,0,⟨187,23,187,28⟩),(x3,0,⟨187,30,187,36⟩),(x4,0,⟨187,38,187,45⟩),(x5,0,⟨187,47,187,54⟩),(x6,0,⟨187,56,187,63⟩),(x7,0,⟨187,65,187,72⟩),(x8,0,⟨187,74,187,80⟩),(x9,0,⟨187,82,187,89⟩),(x10,0,⟨187,91,187,104⟩),(x11,0,⟨187,106,187,121⟩)])) (show List.map cst [(x1,0,⟨187,17,187,21⟩),(x2,0,⟨187,23,187,28⟩),(x3,0,⟨187,30,187,36⟩),(x4,0,⟨187,38,187,45⟩),(x5,0,⟨187,47,187,54⟩),(x6,0,⟨187,56,187,63⟩),(x7,0,⟨187,65,187,72⟩),(x8,0,⟨187,74,187,80⟩),(x9,0,⟨187,82,187,89⟩),(x10,0,⟨187,91,187,104⟩),(x11,0,⟨187,106,187,121⟩)]=oL1 x1 x2 x3 x4 x5 x6 x7 x8 x9 x10 x11 by kernel_rfl) (ZCG _)
noncomputable def oL2 (x12 x13 x14 x15 x16 x17 x18:Str):List Expr:=[ (PySem.Expr.Constant (PySem.Const.str x12) 0 ⟨188,29,188,37⟩),(PySem.Expr.Constant (PySem.Const.str x13) 0 ⟨188,39,188,47⟩),(PySem.Expr.Constant (PySem.Const.str x14) 0 ⟨188,49,188,57⟩),(PySem.Expr.Constant (PySem.Const.str x15) 0 ⟨188,59,188,66⟩),(PySem.Expr.Constant (PySem.Const.str x16) 0 ⟨188,68,188,76⟩),(PySem.Expr.Constant (PySem.Const.str x17) 0 ⟨188,78,188,96⟩),(PySem.Expr.Constant (PySem.Const.str x18) 0 ⟨188,98,188,112⟩)]
theorem pa_oL2 {X:Cx} {x12 x13 x14 x15 x16 x17 x18:Str}:PA X (oL2 x12 x13 x14 x15 x16 x17 x18) (ZBl [(x12,0,⟨188,29,188,37⟩),(x13,0,⟨188,39,188,47⟩),(x14,0,⟨188,49,188,57⟩),(x15,0,⟨188,59,188,66⟩),(x16,0,⟨188,68,188,76⟩),(x17,0,⟨188,78,188,96⟩),(x18,0,⟨188,98,188,112⟩)]):=Eq.subst (motive:=fun z=>PA X z (ZBl [(x12,0,⟨188,29,188,37⟩),(x13,0,⟨188,39,188,47⟩),(x14,0,⟨188,49,188,57⟩),(x15,0,⟨188,59,188,66⟩),(x16,0,⟨188,68,188,76⟩),(x17,0,⟨188,78,188,96⟩),(x18,0,⟨188,98,188,112⟩)])) (show List.map cst [(x12,0,⟨188,29,188,37⟩),(x13,0,⟨188,39,188,47⟩),(x14,0,⟨188,49,188,57⟩),(x15,0,⟨188,59,188,66⟩),(x16,0,⟨188,68,188,76⟩),(x17,0,⟨188,78,188,96⟩),(x18,0,⟨188,98,188,112⟩)]=oL2 x12 x13 x14 x15 x16 x17 x18 by kernel_rfl) (ZCG _)
noncomputable def oL3 (x19:Str):List Expr:=[(PySem.Expr.Constant (PySem.Const.str x19) 0 ⟨189,29,189,46⟩)]
theorem pa_oL3 {X:Cx} {x19:Str}:PA X (oL3 x19) (ZBl [(x19,0,⟨189,29,189,46⟩)]):=Eq.subst (motive:=fun z=>PA X z (ZBl [(x19,0,⟨189,29,189,46⟩)])) (show List.map cst [(x19,0,⟨189,29,189,46⟩)]=oL3 x19 by kernel_rfl) (ZCG _)
noncomputable def oL4 (x20 x21 x22 x23 x24:Str):List Expr:=[ (PySem.Expr.Constant (PySem.Const.str x20) 0 ⟨190,29,190,37⟩),(PySem.Expr.Constant (PySem.Const.str x21) 0 ⟨190,39,190,50⟩),(PySem.Expr.Constant (PySem.Const.str x22) 0 ⟨190,52,190,63⟩),(PySem.Expr.Constant (PySem.Const.str x23) 0 ⟨190,65,190,76⟩),(PySem.Expr.Constant (PySem.Const.str x24) 0 ⟨190,78,190,85⟩)]
theorem pa_oL4 {X:Cx} {x20 x21 x22 x23 x24:Str}:PA X (oL4 x20 x21 x22 x23 x24) (ZBl [(x20,0,⟨190,29,190,37⟩),(x21,0,⟨190,39,190,50⟩),(x22,0,⟨190,52,190,63⟩),(x23,0,⟨190,65,190,76⟩),(x24,0,⟨190,78,190,85⟩)]):=Eq.subst (motive:=fun z=>PA X z (ZBl [(x20,0,⟨190,29,190,37⟩),(x21,0,⟨190,39,190,50⟩),(x22,0,⟨190,52,190,63⟩),(x23,0,⟨190,65,190,76⟩),(x24,0,⟨190,78,190,85⟩)])) (show List.map cst [(x20,0,⟨190,29,190,37⟩),(x21,0,⟨190,39,190,50⟩),(x22,0,⟨190,52,190,63⟩),(x23,0,⟨190,65,190,76⟩),(x24,0,⟨190,78,190,85⟩)]=oL4 x20 x21 x22 x23 x24 by kernel_rfl) (ZCG _)
noncomputable def oddB (x1 x2 x3 x4 x5 x6 x7 x8 x9 x10 x11 x12 x13 x14 x15 x16 x17 x18 x19 x20 x21 x22 x23 x24:Str):List Stmt:=[ (PySem.Stmt.Assign (targets:=[(PySem.Expr.Name "_law_some" ⟨187,4,187,13⟩)]) (value:=(PySem.Expr.List (elts:=(oL1 x1 x2 x3 x4 x5 x6 x7 x8 x9 x10 x11)) (pos:=⟨187,16,187,122⟩))) (pos:=⟨187,4,187,122⟩)),(PySem.Stmt.Assign (targets:=[(PySem.Expr.Name "_law_some" ⟨188,4,188,13⟩)]) (value:=(PySem.Expr.BinOp (left:=(PySem.Expr.Name "_law_some" ⟨188,16,188,25⟩)) (op:=PySem.Operator.Add) (right:=(PySem.Expr.List (elts:=(oL2 x12 x13 x14 x15 x16 x17 x18)) (pos:=⟨188,28,188,113⟩))) (pos:=⟨188,16,188,113⟩))) (pos:=⟨188,4,188,113⟩)),(PySem.Stmt.Assign (targets:=[(PySem.Expr.Name "_law_some" ⟨189,4,189,13⟩)]) (value:=(PySem.Expr.BinOp (left:=(PySem.Expr.Name "_law_some" ⟨189,16,189,25⟩)) (op:=PySem.Operator.Add) (right:=(PySem.Expr.List (elts:=(oL3 x19)) (pos:=⟨189,28,189,47⟩))) (pos:=⟨189,16,189,47⟩))) (pos:=⟨189,4,189,47⟩)),(PySem.Stmt.Assign (targets:=[(PySem.Expr.Name "_law_some" ⟨190,4,190,13⟩)]) (value:=(PySem.Expr.BinOp (left:=(PySem.Expr.Name "_law_some" ⟨190,16,190,25⟩)) (op:=PySem.Operator.Add) (right:=(PySem.Expr.List (elts:=(oL4 x20 x21 x22 x23 x24)) (pos:=⟨190,28,190,86⟩))) (pos:=⟨190,16,190,86⟩))) (pos:=⟨190,4,190,86⟩)),(PySem.Stmt.Return (value:=(some (PySem.Expr.Subscript (value:=(PySem.Expr.Name "_law_some" ⟨191,11,191,20⟩)) (slice:=(PySem.Expr.BinOp (left:=(PySem.Expr.Name "_law_cell" ⟨191,21,191,30⟩)) (op:=PySem.Operator.Mod) (right:=(PySem.Expr.Constant (PySem.Const.int 24) 0 ⟨191,33,191,35⟩)) (pos:=⟨191,21,191,35⟩))) (pos:=⟨191,11,191,36⟩)))) (pos:=⟨191,4,191,36⟩))]
noncomputable def oddL:List Str:=[Str.ofString "up",Str.ofString "up ",Str.ofString "Up 0",Str.ofString "up 00",Str.ofString "up 0 ",Str.ofString " up 0",Str.ofString "up  0",Str.ofString "up 8",Str.ofString "up -1",Str.ofString "up 0,down 1",Str.ofString "up 0,  down 1",Str.ofString "up 0, ",Str.ofString ", up 0",Str.ofString "up 0\n",Str.ofString "votes",Str.ofString "votes ",Str.ofString "votes votes up 0",Str.ofString "votes up 0 |",Str.ofString "votes up 0|up 1",Str.ofString "near 0",Str.ofString "near 0 -0",Str.ofString "near 0 +1",Str.ofString "ring 0 01",Str.ofString "key 0"]
theorem oddL_ok:∀ z∈oddL,Asc z /\ z.length <= 30:=by
 unfold Asc oddL
 decide +kernel
theorem odd_body:ZAH ZC8=oddB (Str.ofString "up") (Str.ofString "up ") (Str.ofString "Up 0") (Str.ofString "up 00") (Str.ofString "up 0 ") (Str.ofString " up 0") (Str.ofString "up  0") (Str.ofString "up 8") (Str.ofString "up -1") (Str.ofString "up 0,down 1") (Str.ofString "up 0,  down 1") (Str.ofString "up 0, ") (Str.ofString ", up 0") (Str.ofString "up 0\n") (Str.ofString "votes") (Str.ofString "votes ") (Str.ofString "votes votes up 0") (Str.ofString "votes up 0 |") (Str.ofString "votes up 0|up 1") (Str.ofString "near 0") (Str.ofString "near 0 -0") (Str.ofString "near 0 +1") (Str.ofString "ring 0 01") (Str.ofString "key 0"):=by kernel_rfl
section
variable {P:Program} {w:World} {K:W.Frag} {mg:Str->Option Value} {base:Heap} {C_KeyRule C_NearRule C_RingRule C_VoteRule C_ChainRule C_HallError C_NoRule C_NoPaper C_NoPlace C_NoKey C_NoRow C_NoOrder C_TooFar C_Spent A_ATS:Addr}
theorem ok_cell_at {f:Addr} {fd:FuncData} (F:Fun K "_law_cell_at" "_law_cell_at" ZBa f fd) (T:Bt K mg C_KeyRule C_NearRule C_RingRule C_VoteRule C_ChainRule C_HallError C_NoRule C_NoPaper C_NoPlace C_NoKey C_NoRow C_NoOrder C_TooFar C_Spent A_ATS)
 :FnOk P w K mg base CX0 1 f fd ["_law_script","_law_k"] (ZDZ K):=by
 refine F.ok sc_cell_at (fun vs H Q E h=>?_) (fun cdv A outer s H vs Q E hr h=>?_)
 .obtain ⟨a,ns,k,rfl,hS,h0,q⟩:=h
  rfl
 obtain ⟨a,ns,k,rfl,hS,h0,q⟩:=h
 refine ⟨_,(ZAC (ZAx (ZAG ZDQ (pv 1) (ZAP ZA2 rfl T.b_len PySem.boot_len (ZAA (pv 0) ZAD)) (ZAK _))
  (ZAE (ZAL (ZBF ZAd (pv 0) (pv 1) (fun _ _=>rfl)))) ZAN)
  (ZAE (ZAL ZAF))),?_⟩
 walk_at "rd"
 refine ⟨a,_,rfl,.inl hS,?_⟩
 walk_at "rd"
 rw [yAB]
 unfold cellOf at q
 split
 .rename_i hk
  rw [if_pos hk] at q
  have hk':k.toNat < ns.length:=by omega
  refine ZAm hS (atI_ints h0 (yAU hk')) ?_
  rw [yAU hk'] at q
  exact q
 .rename_i hk
  rw [if_neg hk] at q
  exact q
theorem ok_whole {f:Addr} {fd:FuncData} (F:Fun K "_law_whole" "_law_whole" ZCD f fd) (T:Bt K mg C_KeyRule C_NearRule C_RingRule C_VoteRule C_ChainRule C_HallError C_NoRule C_NoPaper C_NoPlace C_NoKey C_NoRow C_NoOrder C_TooFar C_Spent A_ATS)
 :FnOk P w K mg base CX0 1 f fd ["_law_found"] (ZCB):=by
 refine F.ok sc_whole (fun vs H Q E h=>?_) (fun cdv A outer s H vs Q E hr h=>?_)
 .obtain ⟨i,rfl,q⟩:=h
  rfl
 obtain ⟨i,rfl,q⟩:=h
 refine ⟨_,(ZAE (ZAL (pe_and (ZAP ZB6 rfl T.b_isinstance PyProof.Rows.boot_isinstance (ZAA (pv 0) (ZAA (ZDI rfl T.b_int PyProof.Rows.boot_int) ZAD))) (ZDa (pe_not (ZAP ZB6 rfl T.b_isinstance PyProof.Rows.boot_isinstance (ZAA (pv 0) (ZAA (ZDI rfl T.b_bool PyProof.Rows.boot_bool) ZAD)))))))),?_⟩
 walk_at "rd"
 refine inst_int ?_
 walk_at "rd"
 refine inst_int_bl T.kit_int_bool ?_
 walk_at "rd"
 exact q
theorem ok_check_at {f:Addr} {fd:FuncData} (F:Fun K "check_at" "check_at" ZBL f fd) (T:Bt K mg C_KeyRule C_NearRule C_RingRule C_VoteRule C_ChainRule C_HallError C_NoRule C_NoPaper C_NoPlace C_NoKey C_NoRow C_NoOrder C_TooFar C_Spent A_ATS)
 :FnOk P w K mg base CX0 1 f fd ["at"] (ZCU):=by
 refine F.ok sc_check_at (fun vs H Q E h=>?_) (fun cdv A outer s H vs Q E hr h=>?_)
 .obtain ⟨i,rfl,h0,h7,q⟩:=h
  rfl
 obtain ⟨i,rfl,h0,h7,q⟩:=h
 refine ⟨_,(ZAE (ZAx (PW.pt (ZCw (ZAG ZDQ (pv 0) ZAF (ZAK _)) (ZCV (ZAG ZDt (pv 0) (pe_gint rfl T.c_GREATEST_AT) (ZAK _)))))
  (ZAE (ps_never)) ZAN)),?_⟩
 walk_at "rd"
 rw [if_neg (by omega),if_neg (by omega)]
 exact q
theorem ok_check_column {f:Addr} {fd:FuncData} (F:Fun K "check_column" "check_column" ZAs f fd) (T:Bt K mg C_KeyRule C_NearRule C_RingRule C_VoteRule C_ChainRule C_HallError C_NoRule C_NoPaper C_NoPlace C_NoKey C_NoRow C_NoOrder C_TooFar C_Spent A_ATS)
  (f_check_at:Fn P w K mg base CX0 "check_at" 1 ["at"] (ZCU))
 :FnOk P w K mg base CX0 2 f fd ["at","way"] (ZCC):=by
 refine F.ok sc_check_column (fun vs H Q E h=>?_) (fun cdv A outer s H vs Q E hr h=>?_)
 .obtain ⟨i,u,rfl,h0,h7,q⟩:=h
  rfl
 obtain ⟨i,u,rfl,h0,h7,q⟩:=h
 refine ⟨_,(ZAC (ZCX (ZAu f_check_at (hr.mono (by decide)) rfl ZAo (ZAA (pv 0) ZAD)))
  (ZAE (ZAx (PW.pt (ZCJ (ZAG ZDC (pv 1) (ZBp rfl T.c_UP) (ZAK _)) (ZBo (ZAG ZDC (pv 1) (ZBp rfl T.c_DOWN) (ZAK _)))))
  (ZAE (ps_never)) ZAN))),?_⟩
 walk_at "rd"
 refine ⟨i,rfl,h0,h7,?_⟩
 walk_at "rd"
 split
 .rename_i h1
  rw [if_neg (fun h2=>(wayS_ok u).elim h1 h2)]
  exact q
 .exact q
theorem ok_KeyRule_init {f:Addr} {fd:FuncData} (F:Fun K "__init__" "KeyRule.__init__" ZAt f fd) (T:Bt K mg C_KeyRule C_NearRule C_RingRule C_VoteRule C_ChainRule C_HallError C_NoRule C_NoPaper C_NoPlace C_NoKey C_NoRow C_NoOrder C_TooFar C_Spent A_ATS)
  (f_check_column:Fn P w K mg base CX0 "check_column" 2 ["at","way"] (ZCC))
 :FnOk P w K mg base CX0 3 f fd ["self","columns"] (ZBn K C_KeyRule):=by
 refine F.ok sc_KeyRule_init (fun vs H Q E h=>?_) (fun cdv A outer s H vs Q E hr h=>?_)
 .obtain ⟨p,dx,c,xs,cols,rfl,hp,hc,hd,hb,q⟩:=h
  rfl
 obtain ⟨p,dx,c,xs,cols,rfl,hp,hc,hd,hb,q⟩:=h
 refine ⟨_,(ZAC (ZCx PassesOwn.never rfl (ZBd (pv 1)) (pg_tup (n:=2) rfl (ZCO (ZA1 (i:=2) sc_KeyRule_init.nd rfl (by walk_at "o")) (ZCO (ZA1 (i:=3) sc_KeyRule_init.nd rfl (by walk_at "o")) pgs_nil)))
  (ZAE (ZCX (ZAu f_check_column (hr.mono (by decide)) rfl ZAo (ZAA (pv 2) (ZAA (pv 3) ZAD))))))
  (ZAE (ZCW (pv 0) (ZA9 ZBw rfl T.b_list PyProof.Rows.boot_list (ZAA (pv 1) ZAD)) rfl))),?_⟩
 walk_at "rd"
 refine ZCu hc (fun i σ H'=>H'=H /\ ∃ v2 v3,σ=[some (.ref p),some (.ref c),v2,v3]) ⟨rfl,_,_,rfl⟩ (fun i σ H' _ h=>by rw [h.1];exact hc) ?_ ?_
 .rintro i x σ H' hx ⟨rfl,v2,v3,rfl⟩
  obtain ⟨c',t,ec,rfl,ht⟩:=col_at hd hx
  have hb':=hb c' (yAM ec)
  refine gTup_of ht rfl ?_
  walk_at "rd"
  exact ⟨c'.1,c'.2,rfl,hb'.1,hb'.2,rfl,_,_,rfl⟩
 .rintro σ H' ⟨rfl,v2,v3,rfl⟩
  walk_at "rd"
  refine ⟨c,xs,rfl,.inl hc,fun l hl=>?_⟩
  exact setF_of (ZCP hl hp) T.cl_KeyRule T.n_KeyRule_columns (by decide) (q l hl)
theorem ok_KeyRule_widest {f:Addr} {fd:FuncData} (F:Fun K "widest" "KeyRule.widest" ZAg f fd) (T:Bt K mg C_KeyRule C_NearRule C_RingRule C_VoteRule C_ChainRule C_HallError C_NoRule C_NoPaper C_NoPlace C_NoKey C_NoRow C_NoOrder C_TooFar C_Spent A_ATS)
 :FnOk P w K mg base CX0 1 f fd ["self"] (ZBx K C_KeyRule):=by
 refine F.ok sc_KeyRule_widest (fun vs H Q E h=>?_) (fun cdv A outer s H vs Q E hr h=>?_)
 .obtain ⟨p,dx,c,xs,cols,rfl,hp,hc,hd,hl8,q⟩:=h
  rfl
 obtain ⟨p,dx,c,xs,cols,rfl,hp,hc,hd,hl8,q⟩:=h
 refine ⟨_,(ZAE (ZAL (ZDA rfl (ZCY rfl (k:=2) (js:=[]) (N':=["at","way"]) (by rfl) (ZBd (ZCy (pv 0) rfl)) (fun _ _ _ _=>pg_tupK (n:=2) K rfl (ZCO (ZA1 (i:=0) (show (["at","way"]:List Str).Nodup by decide +kernel) rfl (by walk_at "o")) (ZCO (ZA1 (i:=1) (show (["at","way"]:List Str).Nodup by decide +kernel) rfl (by walk_at "o")) pgs_nil))) (fun _ _ _ _=>ZBQ) (fun _ _ _ _=>(pv 0))) (ZDj ZDF ZAF) rfl T.b_max))),?_⟩
 walk_at "rd"
 refine getF_of hp T.cl_KeyRule T.n_KeyRule_columns putF1 ?_
 have hxl:xs.length=cols.length:=by rw [hd.length,yAB]
 refine compL_of hc (by omega) (fun i ys σ X=>∃ v w,σ=[v,w] /\ X=H /\ ys=((cols.take i).map (·.1)).map V.int) ⟨_,_,rfl,rfl,rfl⟩ (fun i ys σ X _ z=>?_) (fun i ys x σ X hi hx z=>?_) fun ys σ X z p2 hp2=>?_
 .obtain ⟨v,w,_,e,e2⟩:=z
  rw [e,e2,yAB,yAB,yBE]
  exact ⟨hc,by omega⟩
 .obtain ⟨v,w,rfl,rfl,rfl⟩:=z
  obtain ⟨c',t,ec,rfl,ht⟩:=col_at hd hx
  refine gTup_of ht rfl ?_
  walk_at "rd"
  exact .of hi ⟨_,_,rfl,rfl,by rw [yAQ,ec,yAL,yAL];rfl⟩
 .obtain ⟨v,w,rfl,rfl,rfl⟩:=z
  rw [hxl,yAV (yAA _)]
  exact ⟨p2,cols.map (·.1),_,rfl,rfl,SqL.of ZAI,q _ (ZAi hp2 _)⟩
theorem ok_NearRule_init {f:Addr} {fd:FuncData} (F:Fun K "__init__" "NearRule.__init__" ZAl f fd) (T:Bt K mg C_KeyRule C_NearRule C_RingRule C_VoteRule C_ChainRule C_HallError C_NoRule C_NoPaper C_NoPlace C_NoKey C_NoRow C_NoOrder C_TooFar C_Spent A_ATS)
  (f_check_at:Fn P w K mg base CX0 "check_at" 1 ["at"] (ZCU))
 :FnOk P w K mg base (CXE P w) 2 f fd ["self","at","gap"] (ZCl C_NearRule C_NoRule):=by
 refine F.okX sc_NearRule_init (fun vs H Q E h=>?_) (fun cdv A outer s H vs Q E hr h=>?_)
 .obtain ⟨x,dx,a,gp,rfl,hx,h0,h7,q1,q2⟩:=h
  rfl
 obtain ⟨x,dx,a,gp,rfl,hx,h0,h7,q1,q2⟩:=h
 refine ⟨_,(ZAC (PS.nox (ZCX (ZAu f_check_at (hr.mono (by decide)) rfl ZAo (ZAA (pv 1) ZAD))))
  (ZAC (ZAx (ZAG ZDQ (pv 2) ZAF (ZAK _))
  (ZAE (ZBb T.xq_NoRule T.m_NoRule rfl)) ZAN)
  (ZAC (PS.nox (ZCW (pv 0) (pv 1) rfl))
  (ZAE (PS.nox (ZCW (pv 0) (pv 2) rfl)))))),?_⟩
 walk_at "rd"
 refine ⟨a,rfl,h0,h7,?_⟩
 dsimp only
 by_cases hg:0 <= gp
 .rw [if_neg (by omega)]
  refine setX hx T.cl_NearRule T.n_NearRule_at (by decide) fun H2 x2 k2=>?_
  walk_at "rd"
  refine setX x2 T.cl_NearRule T.n_NearRule_gap ZDi fun H3 x3 k3=>?_
  exact q1 hg H3 (fun b o n e=>by rw [k3 b n,k2 b n];exact e) ((Ins.of x3 (yAD putL2 (by decide))).congr fun f=>by simp only [ZAv,lkc])
 .rw [if_pos (by omega)]
  exact q2 (by omega)
theorem ok_NearRule_widest {f:Addr} {fd:FuncData} (F:Fun K "widest" "NearRule.widest" ZAc f fd) (T:Bt K mg C_KeyRule C_NearRule C_RingRule C_VoteRule C_ChainRule C_HallError C_NoRule C_NoPaper C_NoPlace C_NoKey C_NoRow C_NoOrder C_TooFar C_Spent A_ATS)
 :FnOk P w K mg base CX0 1 f fd ["self"] (ZBV C_NearRule):=by
 refine F.ok sc_NearRule_widest (fun vs H Q E h=>?_) (fun cdv A outer s H vs Q E hr h=>?_)
 .obtain ⟨p,a,gp,rfl,hp,q⟩:=h
  rfl
 obtain ⟨p,a,gp,rfl,hp,q⟩:=h
 refine ⟨_,(ZAE (ZAL (ZCy (pv 0) rfl))),?_⟩
 walk_at "rd"
 exact hp.get T.cl_NearRule T.n_NearRule_at (by walk_at "lk") q
theorem ok_RingRule_init {f:Addr} {fd:FuncData} (F:Fun K "__init__" "RingRule.__init__" ZAk f fd) (T:Bt K mg C_KeyRule C_NearRule C_RingRule C_VoteRule C_ChainRule C_HallError C_NoRule C_NoPaper C_NoPlace C_NoKey C_NoRow C_NoOrder C_TooFar C_Spent A_ATS)
  (f_check_at:Fn P w K mg base CX0 "check_at" 1 ["at"] (ZCU))
 :FnOk P w K mg base (CXE P w) 2 f fd ["self","at","size"] (ZCi C_RingRule C_NoRule):=by
 refine F.okX sc_RingRule_init (fun vs H Q E h=>?_) (fun cdv A outer s H vs Q E hr h=>?_)
 .obtain ⟨x,dx,a,gp,rfl,hx,h0,h7,q1,q2⟩:=h
  rfl
 obtain ⟨x,dx,a,gp,rfl,hx,h0,h7,q1,q2⟩:=h
 refine ⟨_,(ZAC (PS.nox (ZCX (ZAu f_check_at (hr.mono (by decide)) rfl ZAo (ZAA (pv 1) ZAD))))
  (ZAC (ZAx (ZAG ZDQ (pv 2) ZAF (ZAK _))
  (ZAE (ZBb T.xq_NoRule T.m_NoRule rfl)) ZAN)
  (ZAC (PS.nox (ZCW (pv 0) (pv 1) rfl))
  (ZAE (PS.nox (ZCW (pv 0) (pv 2) rfl)))))),?_⟩
 walk_at "rd"
 refine ⟨a,rfl,h0,h7,?_⟩
 dsimp only
 by_cases hg:1 <= gp
 .rw [if_neg (by omega)]
  refine setX hx T.cl_RingRule T.n_RingRule_at (by decide) fun H2 x2 k2=>?_
  walk_at "rd"
  refine setX x2 T.cl_RingRule T.n_RingRule_size ZDi fun H3 x3 k3=>?_
  exact q1 hg H3 (fun b o n e=>by rw [k3 b n,k2 b n];exact e) ((Ins.of x3 (yAD putL2 (by decide))).congr fun f=>by simp only [ZAv,lkc])
 .rw [if_pos (by omega)]
  exact q2 (by omega)
theorem ok_RingRule_widest {f:Addr} {fd:FuncData} (F:Fun K "widest" "RingRule.widest" ZAb f fd) (T:Bt K mg C_KeyRule C_NearRule C_RingRule C_VoteRule C_ChainRule C_HallError C_NoRule C_NoPaper C_NoPlace C_NoKey C_NoRow C_NoOrder C_TooFar C_Spent A_ATS)
 :FnOk P w K mg base CX0 1 f fd ["self"] (ZBU C_RingRule):=by
 refine F.ok sc_RingRule_widest (fun vs H Q E h=>?_) (fun cdv A outer s H vs Q E hr h=>?_)
 .obtain ⟨p,a,gp,rfl,hp,q⟩:=h
  rfl
 obtain ⟨p,a,gp,rfl,hp,q⟩:=h
 refine ⟨_,(ZAE (ZAL (ZCy (pv 0) rfl))),?_⟩
 walk_at "rd"
 exact hp.get T.cl_RingRule T.n_RingRule_at (by walk_at "lk") q
theorem ok_is_written_number {f:Addr} {fd:FuncData} (F:Fun K "is_written_number" "is_written_number" ZAW f fd) (T:Bt K mg C_KeyRule C_NearRule C_RingRule C_VoteRule C_ChainRule C_HallError C_NoRule C_NoPaper C_NoPlace C_NoKey C_NoRow C_NoOrder C_TooFar C_Spent A_ATS)
 :FnOk P w K mg base CX0 1 f fd ["text"] (ZDU):=by
 refine F.ok sc_is_written_number (fun vs H Q E h=>?_) (fun cdv A outer s H vs Q E hr h=>?_)
 .obtain ⟨z,rfl,hA,hz,q⟩:=h
  rfl
 obtain ⟨z,rfl,hA,hz,q⟩:=h
 refine ⟨_,(ZAC (ZAV (i:=1) sc_is_written_number.nd rfl (by walk_at "o") (pe_ifExp (ZCe (ZCN PySem.F.plainAttrs_str PySem.F.slot_str_startswith PySem.F.type_str_startswith ZBf (pv 0) (ZBr ZAD))) (ZAz ZBj (pv 0) (ZBD ZAF) ZBE) (pv 0)))
  (ZAO
  (ZAC (ZAx (PW.pt (ZCw (ZAG ZBA (pv 1) ZAp (ZAK _)) (ZCV (ZAG ZDt (ZAP ZBB rfl T.b_len PySem.boot_len (ZAA (pv 1) ZAD)) (pe_gint rfl T.c_MOST_FIGURES) (ZAK _)))))
  (ZAE (ZAL ZCF)) ZAN)
  (ZAO
  (ZAC (ZAx (ZDG (ZCe (ZAP (call_all rfl) rfl T.b_all PyProof.Rows.boot_all (ZAA (ZCY rfl (k:=1) (js:=[]) (N':=["sign"]) (by rfl) (pi_str (pv 1)) (fun _ _ _ _=>ZA1 (i:=0) (show (["sign"]:List Str).Nodup by decide +kernel) rfl (by walk_at "o")) (fun _ _ _ _=>ZBQ) (fun _ _ _ _=>(ZCZ op_in_str (pv 0) ZAp rfl))) ZAD))))
  (ZAE (ZAL ZCF)) ZAN)
  (ZAO
  (ZAE (ZAL (pe_or (ZCZ ZBA (pv 0) ZAp (ZAK _)) (ZDa (pe_not (ZCN PySem.F.plainAttrs_str PySem.F.slot_str_startswith PySem.F.type_str_startswith ZBf (pv 1) (ZBr ZAD))))))))))))),?_⟩
 walk_at "rd"
 apply ZDD (fun _:Unit=>[some (.str z),some (.str (figS z))]) (fun _=>H) (fun _=>True)
 .intro rest
  refine ⟨rfl,z,_,rfl,rfl,?_⟩
  rw [show Str.ofString "-"=⟨#[45]⟩ by decide,sw_one]
  by_cases h:z.cps.toList[0]?=some 45
  .rw [if_pos (decide_eq_true h)]
   refine ⟨z,rfl,by omega,?_⟩
   rw [sl_one h]
   exact rest () trivial
  .rw [if_neg (by simpa using h)]
   have r:=rest () trivial
   rw [ZCc h] at r
   exact r
 intro _ _
 refine ZAR ?_
 walk_at "rd"
 by_cases h0:figS z=Str.ofString ""
 .rw [if_pos h0]
  have:wrS z=false:=by
   have:fig z.cps.toList=[]:=(ZB1 (z:=figS z) (L:=[]) rfl).mp h0
   unfold wrS wrB
   rw [this];rfl
  rw [<- this]
  exact q _ (.refl _)
 rw [if_neg h0]
 have hf0:fig z.cps.toList≠[]:=fun e=>h0 ((ZB1 (z:=figS z) (L:=[]) rfl).mpr e)
 have hfl:(figS z).length <= 100000:=yAD (fig_len z.cps.toList) hz
 refine ⟨_,rfl,by rw [sizeLine_eq];omega,?_⟩
 by_cases h60:60 < ((figS z).length:Int)
 .rw [if_pos h60]
  have:wrS z=false:=by
   unfold wrS wrB
   rw [decide_eq_false (show ¬ (fig z.cps.toList).length <= 60 from fun h=>by have:(figS z).length <= 60:=h;omega),Bool.and_false];rfl
  rw [<- this]
  exact q _ (.refl _)
 rw [if_neg h60]
 have h60'':(figS z).length <= 60:=by omega
 have h60':(fig z.cps.toList).length <= 60:=h60''
 refine ZAR ?_
 walk_at "rd"
 have hsz:(figS z).length=(fig z.cps.toList).length:=rfl
 refine compS_of (by rw [<- Array.all_toList];exact yAZ.mpr fun c hc=>decide_eq_true (hA c (fig_sub hc))) (by omega) (fun i ys σ X=>∃ v,σ=[v] /\ X=H /\ ys=(((fig z.cps.toList).take i).map dgB).map V.bl) ⟨_,rfl,rfl,rfl⟩ (fun i ys σ X _ z=>?_) (fun i ys c σ X hi hx z=>?_) fun ys σ X z' p hp=>?_
 .obtain ⟨v,_,_,e⟩:=z
  rw [e,yAB,yAB,yBE];omega
 .obtain ⟨v,rfl,rfl,rfl⟩:=z
  walk_at "rd"
  refine ⟨_,_,rfl,rfl,?_⟩
  rw [in_figs2]
  exact .of hi ⟨_,rfl,rfl,by rw [yAQ,show (fig _)[i]?=some c from by rw [<- hx,<- Array.getElem?_toList];rfl,yAL,yAL];rfl⟩
 obtain ⟨v,rfl,rfl,rfl⟩:=z'
 rw [hsz,yAV (yAA _)]
 refine ⟨p,(fig z.cps.toList).map dgB,rfl,SqL.of ZAI,?_⟩
 have ea:((fig z.cps.toList).map dgB).all id=(fig z.cps.toList).all dgB:=by rw [List.all_map];rfl
 rw [ea]
 walk_at "rd"
 by_cases ha:(fig z.cps.toList).all dgB=false
 .rw [if_pos ha]
  have:wrS z=false:=by unfold wrS wrB;rw [ha,Bool.and_false];rfl
  rw [<- this]
  exact q _ (ZAi hp _)
 rw [if_neg ha]
 have hw:wrS z=(decide (z.cps.toList=[48]) || !decide ((fig z.cps.toList)[0]?=some 48)):=by
  unfold wrS wrB
  rw [decide_eq_true hf0,decide_eq_true h60',(Bool.not_eq_false _).mp ha]
  rfl
 rw [hw] at q
 refine ZAR ?_
 walk_at "rd"
 by_cases e0:z=Str.ofString "0"
 .rw [if_pos e0]
  rw [decide_eq_true ((ZB1 (L:=[48]) rfl).mp e0)] at q
  exact q _ (ZAi hp _)
 .rw [if_neg e0]
  refine ⟨rfl,_,_,rfl,rfl,?_⟩
  rw [show Str.ofString "0"=⟨#[48]⟩ by decide,sw_one]
  rw [decide_eq_false (fun h=>e0 ((ZB1 (L:=[48]) rfl).mpr h))] at q
  exact q _ (ZAi hp _)
theorem ok_read_at {f:Addr} {fd:FuncData} (F:Fun K "read_at" "read_at" ZBZ f fd) (T:Bt K mg C_KeyRule C_NearRule C_RingRule C_VoteRule C_ChainRule C_HallError C_NoRule C_NoPaper C_NoPlace C_NoKey C_NoRow C_NoOrder C_TooFar C_Spent A_ATS)
 :FnOk P w K mg base (CXE P w) 1 f fd ["text"] (ZCS C_NoRule):=by
 refine F.okX sc_read_at (fun vs H Q E h=>?_) (fun cdv A outer s H vs Q E hr h=>?_)
 .obtain ⟨w,rfl,q1,q2⟩:=h
  rfl
 obtain ⟨w,rfl,q1,q2⟩:=h
 refine ⟨_,(ZAC (ZAx (ZAG op_notIn_seq (pv 0) (ZBe rfl T.c_ATS) rfl)
  (ZAE (ZBb T.xq_NoRule T.m_NoRule rfl)) ZAN)
  (ZAE (PS.nox (ZAL (ZA9 call_intS rfl T.b_int PyProof.Rows.boot_int (ZAA (pv 0) ZAD)))))),?_⟩
 walk_at "rd"
 refine ⟨A_ATS,_,rfl,.inr (T.q_ATS H),rfl,rfl,?_⟩
 rw [inATS]
 cases hd:dK w
 .refine ⟨_,rfl,?_⟩
  rw [if_pos rfl]
  exact q2 hd
 .refine ⟨_,rfl,?_⟩
  rw [if_neg (by decide)]
  obtain ⟨c,e,h1,h2⟩:=dK_iff.mp hd
  have q1:=q1 hd
  subst e
  walk_at "rd"
  refine ⟨_,[c],false,rfl,rfl,fun d hd=>by rw [yBB.mp hd];omega,List.cons_ne_nil _ _,Nat.le_add_left 1 599,?_⟩
  rw [if_neg (by decide)]
  rw [show (vlD [c]:Int)=((hdW ⟨#[c]⟩ - 48:Nat):Int) from congrArg Nat.cast (show vlD [c]=c-48 by unfold vlD;simp)]
  exact q1
theorem ok_read_size {f:Addr} {fd:FuncData} (F:Fun K "read_size" "read_size" ZA4 f fd) (T:Bt K mg C_KeyRule C_NearRule C_RingRule C_VoteRule C_ChainRule C_HallError C_NoRule C_NoPaper C_NoPlace C_NoKey C_NoRow C_NoOrder C_TooFar C_Spent A_ATS)
  (f_is_written_number:Fn P w K mg base CX0 "is_written_number" 1 ["text"] (ZDU))
 :FnOk P w K mg base (CXE P w) 2 f fd ["text"] (ZB3 C_NoRule):=by
 refine F.okX sc_read_size (fun vs H Q E h=>?_) (fun cdv A outer s H vs Q E hr h=>?_)
 .obtain ⟨w,rfl,hA,hz,q⟩:=h
  rfl
 obtain ⟨w,rfl,hA,hz,q⟩:=h
 refine ⟨_,(ZAC (ZAx (ZDG (ZCe (ZAu f_is_written_number (hr.mono (by decide)) rfl ZAo (ZAA (pv 0) ZAD))))
  (ZAE (ZBb T.xq_NoRule T.m_NoRule rfl)) ZAN)
  (ZAE (PS.nox (ZAL (ZA9 call_intS rfl T.b_int PyProof.Rows.boot_int (ZAA (pv 0) ZAD)))))),?_⟩
 walk_at "rd"
 refine ⟨w,rfl,hA,by omega,fun H' s=>?_⟩
 obtain ⟨q1,q2⟩:=q H' s
 cases hw:wrS w
 .refine ⟨_,rfl,?_⟩
  exact q2 hw
 .refine ⟨_,rfl,?_⟩
  rw [if_neg (by decide)]
  walk_at "rd"
  obtain ⟨l1,l2,l3⟩:=wr_lit hw
  refine ⟨w,fig w.cps.toList,decide (w.cps.toList[0]?=some 45),rfl,fig_lit _,l3,l1,by omega,?_⟩
  have:=q1 hw
  unfold wvS wv at this
  by_cases h:w.cps.toList[0]?=some 45
  .rw [if_pos (decide_eq_true h)];rw [if_pos h] at this;exact this
  .rw [if_neg (by simpa using h)];rw [if_neg h] at this;exact this
theorem ok_read_single {f:Addr} {fd:FuncData} (F:Fun K "read_single" "read_single" ZAw f fd) (T:Bt K mg C_KeyRule C_NearRule C_RingRule C_VoteRule C_ChainRule C_HallError C_NoRule C_NoPaper C_NoPlace C_NoKey C_NoRow C_NoOrder C_TooFar C_Spent A_ATS)
  (f_read_at:Fn P w K mg base (CXE P w) "read_at" 1 ["text"] (ZCS C_NoRule))
  (f_read_size:Fn P w K mg base (CXE P w) "read_size" 2 ["text"] (ZB3 C_NoRule))
  (k_KeyRule:Kl P w K mg base CX0 "KeyRule" C_KeyRule 3 ["self","columns"] (ZBn K C_KeyRule))
  (k_NearRule:Kl P w K mg base (CXE P w) "NearRule" C_NearRule 2 ["self","at","gap"] (ZCl C_NearRule C_NoRule))
  (k_RingRule:Kl P w K mg base (CXE P w) "RingRule" C_RingRule 2 ["self","at","size"] (ZCi C_RingRule C_NoRule))
 :FnOk P w K mg base (CXE P w) 5 f fd ["text"] (ZBc K C_KeyRule C_NearRule C_RingRule C_NoRule):=by
 refine F.okX sc_read_single (fun vs H Q E h=>?_) (fun cdv A outer s H vs Q E hr h=>?_)
 .obtain ⟨l,rfl,hA,hz,q1,q2⟩:=h
  rfl
 obtain ⟨l,rfl,hA,hz,q1,q2⟩:=h
 refine ⟨_,(ZAC (PS.nox (ZAV (i:=1) sc_read_single.nd rfl (by walk_at "o") (ZCN PySem.F.plainAttrs_str PySem.F.slot_str_split PySem.F.type_str_split mt_split (pv 0) (ZBr ZAD))))
  (ZAC (ZAx (PW.pt (ZCJ (ZAG ZBA (ZAP ZA2 rfl T.b_len PySem.boot_len (ZAA (pv 1) ZAD)) ZAF (ZAK _)) (ZBo (PW.pt (ZCw (ZAG ZBA (ZBF ZAd (pv 1) ZAF (fun _ _=>rfl)) (ZBp rfl T.c_UP) (ZAK _)) (ZCV (ZAG ZBA (ZBF ZAd (pv 1) ZAF (fun _ _=>rfl)) (ZBp rfl T.c_DOWN) (ZAK _))))))))
  (ZAE (ZAL (ZDP k_KeyRule (hr.mono (by decide)) rfl ZAo (ZAA (ZBI (ZAA (pe_tup (ZAA (ZAu f_read_at (hr.mono (by decide)) rfl ZCz (ZAA (ZBF ZAd (pv 1) ZAF (fun _ _=>rfl)) ZAD)) (ZAA (ZBF ZAd (pv 1) ZAF (fun _ _=>rfl)) ZAD))) ZAD)) ZAD)))) ZAN)
  (ZAO
  (ZAC (ZAx (PW.pt (ZCJ (ZAG ZBA (ZAP ZA2 rfl T.b_len PySem.boot_len (ZAA (pv 1) ZAD)) ZAF (ZAK _)) (ZBo (ZAG ZBA (ZBF ZAd (pv 1) ZAF (fun _ _=>rfl)) (ZBp rfl T.c_NEAR) (ZAK _)))))
  (ZAE (ZAL (ZDP k_NearRule (hr.mono (by decide)) rfl ZCz (ZAA (ZAu f_read_at (hr.mono (by decide)) rfl ZCz (ZAA (ZBF ZAd (pv 1) ZAF (fun _ _=>rfl)) ZAD)) (ZAA (ZAu f_read_size (hr.mono (by decide)) rfl ZCz (ZAA (ZBF ZAd (pv 1) ZAF (fun _ _=>rfl)) ZAD)) ZAD))))) ZAN)
  (ZAO
  (ZAC (ZAx (PW.pt (ZCJ (ZAG ZBA (ZAP ZA2 rfl T.b_len PySem.boot_len (ZAA (pv 1) ZAD)) ZAF (ZAK _)) (ZBo (ZAG ZBA (ZBF ZAd (pv 1) ZAF (fun _ _=>rfl)) (ZBp rfl T.c_RING) (ZAK _)))))
  (ZAE (ZAL (ZDP k_RingRule (hr.mono (by decide)) rfl ZCz (ZAA (ZAu f_read_at (hr.mono (by decide)) rfl ZCz (ZAA (ZBF ZAd (pv 1) ZAF (fun _ _=>rfl)) ZAD)) (ZAA (ZAu f_read_size (hr.mono (by decide)) rfl ZCz (ZAA (ZBF ZAd (pv 1) ZAF (fun _ _=>rfl)) ZAD)) ZAD))))) ZAN)
  (ZAO
  (ZAE (ZBb T.xq_NoRule T.m_NoRule rfl))))))))),?_⟩
 walk_at "rd"
 refine ⟨rfl,_,32,rfl,rfl,by omega,fun p hp=>?_⟩
 rw [show Txt.split l ⟨#[32]⟩=wordsOf l from rfl]
 have pk:pkey l=pkW (wordsOf l):=rfl
 rw [pk] at q1 q2
 have hwA:∀ w∈wordsOf l,Asc w /\ w.length <= 94000:=fun w hw=>⟨hA.split hw,by have:=join_mem_le ⟨#[32]⟩ _ _ hw;rw [show Str.join ⟨#[32]⟩ (wordsOf l)=l from StrLaws.join_split l _] at this;omega⟩
 clear pk
 generalize wordsOf l=ws at q1 q2 hwA ⊢
 obtain ⟨H1,e1,s1,h1⟩:=newH hp (.lst (ws.map V.str))
 rw [e1];clear e1
 by_cases n2:ws.length=2
 .obtain ⟨w0,w1,rfl⟩:∃ w0 w1,ws=[w0,w1]:=by
   rcases ws with _ | ⟨w0,_ | ⟨w1,_ | ⟨w2,r⟩⟩⟩
   .cases n2
   .cases n2
   .exact ⟨w0,w1,rfl⟩
   .simp at n2
  have i0:atI ([w0,w1].map V.str) 0=some (.str w0):=ZBJ (by decide) rfl
  have i1:atI ([w0,w1].map V.str) 1=some (.str w1):=ZBJ (by decide) rfl
  have hl2:(((List.map V.str [w0,w1]).length:Nat):Int)=2:=rfl
  have fin:∀ k0:Nat,k0 < 2->wrd k0=w0->dK w1=true->isUD w0=true->∀ (pt:Addr),H1 pt=none->∀ (pl:Addr),upd H1 pt (.tup [.int ((hdW w1-48:Nat):Int),.str w0]) pl=none->∀ (x dx:Addr),upd (upd H1 pt (.tup [.int ((hdW w1-48:Nat):Int),.str w0])) pl (.lst [.ref pt]) x=none->upd (upd H1 pt (.tup [.int ((hdW w1-48:Nat):Int),.str w0])) pl (.lst [.ref pt]) dx=none->ZBn K C_KeyRule [.ref x,.ref pl] (upd (upd (upd (upd H1 pt (.tup [.int ((hdW w1-48:Nat):Int),.str w0])) pl (.lst [.ref pt])) dx (.own x)) x (.ins C_KeyRule dx [])) (fun v H2=>v=.non /\ Q (.ref x) H2) E0:=fun k0 hk hw hd hu pt hpt pl hpl x dx hx hdx=>kmade (p:=⟨k0,hdW w1-48,0⟩) (plOk hk hd) hk hx hdx ZAI (by rw [show wrd (Pl.mk k0 (hdW w1-48) 0).kd=w0 from hw];exact ZAi hpl _ _ _ ZAI) fun H' s h=>q1 _ (pk_two hu hd) x H' _ (s1.trans (((ZAi hpt _).trans (ZAi hpl _)).trans s)) h rfl
  refine ⟨p,_,rfl,.inl (SqL.of h1),?_⟩
  rw [if_pos hl2]
  refine ZAm (SqL.of h1) i0 ?_
  walk_at "rd"
  by_cases k0:w0=Str.ofString "up"
  .rw [if_pos k0]
   have hu:isUD w0=true:=by unfold isUD;rw [decide_eq_true k0];rfl
   refine ZAm (SqL.of h1) i1 ⟨w1,rfl,fun hd=>?_,fun hd=>q2 (ZDH hd) _ s1⟩
   exact ZAm (SqL.of h1) i0 ⟨ZAM (by decide),fun pt hpt=>⟨ZAM (by decide),fun pl hpl x dx hx hdx _=>fin 0 (by decide) k0.symm hd hu pt hpt pl hpl x dx hx hdx⟩⟩
  rw [if_neg k0]
  refine ZAm (SqL.of h1) i0 ?_
  walk_at "rd"
  by_cases k1:w0=Str.ofString "down"
  .rw [if_pos k1]
   have hu:isUD w0=true:=by unfold isUD;rw [decide_eq_true k1,Bool.or_true]
   refine ZAm (SqL.of h1) i1 ⟨w1,rfl,fun hd=>?_,fun hd=>q2 (ZDH hd) _ s1⟩
   exact ZAm (SqL.of h1) i0 ⟨ZAM (by decide),fun pt hpt=>⟨ZAM (by decide),fun pl hpl x dx hx hdx _=>fin 1 (by decide) k1.symm hd hu pt hpt pl hpl x dx hx hdx⟩⟩
  rw [if_neg k1]
  have hu:isUD w0=false:=by unfold isUD;rw [decide_eq_false k0,decide_eq_false k1];rfl
  refine ZAR ?_
  walk_at "rd"
  refine ⟨p,_,rfl,.inl (SqL.of h1),?_⟩
  rw [hl2,if_neg (by decide)]
  refine ZAR ?_
  walk_at "rd"
  refine ⟨p,_,rfl,.inl (SqL.of h1),?_⟩
  rw [hl2,if_neg (by decide)]
  refine ZAR ?_
  walk_at "rd"
  exact q2 (pk_two_no hu) _ s1
 have hl2:¬ (((List.map V.str ws).length:Nat):Int)=2:=by rw [yAB];omega
 refine ⟨p,_,rfl,.inl (SqL.of h1),?_⟩
 rw [if_neg hl2]
 refine ZAR ?_
 walk_at "rd"
 refine ⟨p,_,rfl,.inl (SqL.of h1),?_⟩
 by_cases n3:ws.length=3
 .obtain ⟨w0,w1,w2,rfl⟩:∃ w0 w1 w2,ws=[w0,w1,w2]:=by
   rcases ws with _ | ⟨w0,_ | ⟨w1,_ | ⟨w2,_ | ⟨w3,r⟩⟩⟩⟩
   .cases n3
   .cases n3
   .cases n3
   .exact ⟨w0,w1,w2,rfl⟩
   .simp at n3
  have i0:atI ([w0,w1,w2].map V.str) 0=some (.str w0):=ZBJ (by decide) rfl
  have i1:atI ([w0,w1,w2].map V.str) 1=some (.str w1):=ZBJ (by decide) rfl
  have i2:atI ([w0,w1,w2].map V.str) 2=some (.str w2):=ZBJ (by decide) rfl
  have hl3:(((List.map V.str [w0,w1,w2]).length:Nat):Int)=3:=rfl
  obtain ⟨A2,L2'⟩:=hwA w2 (by simp)
  rw [if_pos hl3]
  refine ZAm (SqL.of h1) i0 ?_
  walk_at "rd"
  by_cases k0:w0=Str.ofString "near"
  .rw [if_pos k0]
   have nr:¬ w0=Str.ofString "ring":=fun z=>near_ring (k0.symm.trans z)
   refine ZAm (SqL.of h1) i1 ⟨w1,rfl,fun hd=>?_,fun hd=>q2 (ZDH hd) _ s1⟩
   refine ZAm (SqL.of h1) i2 ⟨w2,rfl,A2,L2',fun H2 s2=>⟨fun hw x dx hx hdx _=>?_,fun hw=>q2 (ZA8 fun z=>?_) _ (s1.trans s2)⟩⟩
   .exact nmadeX (p:=⟨2,hdW w1-48,wvS w2⟩) rfl (ZDz hd) hx hdx (fun hg H' s h=>q1 _ (pk_three (.inl ⟨k0,hw,hg⟩) hd) x H' _ (s1.trans (s2.trans s)) h rfl) fun hg H' s=>q2 (ZA8 fun z=>by
     rcases z with ⟨_,_,z⟩ | ⟨z,_⟩
     .have hg':wvS w2 < 0:=hg
      omega
     .exact nr z) H' (s1.trans (s2.trans s))
   .rcases z with ⟨_,z,_⟩ | ⟨_,z,_⟩ <;> (rw [hw] at z;cases z)
  rw [if_neg k0]
  refine ZAR ?_
  walk_at "rd"
  refine ⟨p,_,rfl,.inl (SqL.of h1),?_⟩
  rw [if_pos hl3]
  refine ZAm (SqL.of h1) i0 ?_
  walk_at "rd"
  by_cases k1:w0=Str.ofString "ring"
  .rw [if_pos k1]
   refine ZAm (SqL.of h1) i1 ⟨w1,rfl,fun hd=>?_,fun hd=>q2 (ZDH hd) _ s1⟩
   refine ZAm (SqL.of h1) i2 ⟨w2,rfl,A2,L2',fun H2 s2=>⟨fun hw x dx hx hdx _=>?_,fun hw=>q2 (ZA8 fun z=>?_) _ (s1.trans s2)⟩⟩
   .exact rmadeX (p:=⟨3,hdW w1-48,wvS w2⟩) rfl (ZDz hd) hx hdx (fun hg H' s h=>q1 _ (pk_three (.inr ⟨k1,hw,hg⟩) hd) x H' _ (s1.trans (s2.trans s)) h rfl) fun hg H' s=>q2 (ZA8 fun z=>by
     rcases z with ⟨z,_⟩ | ⟨_,_,z⟩
     .exact k0 z
     .have hg':wvS w2 < 1:=hg
      omega) H' (s1.trans (s2.trans s))
   .rcases z with ⟨_,z,_⟩ | ⟨_,z,_⟩ <;> (rw [hw] at z;cases z)
  rw [if_neg k1]
  refine ZAR ?_
  walk_at "rd"
  exact q2 (ZA8 fun z=>z.elim (fun y=>k0 y.1) fun y=>k1 y.1) _ s1
 have hl3:¬ (((List.map V.str ws).length:Nat):Int)=3:=by rw [yAB];omega
 rw [if_neg hl3]
 refine ZAR ?_
 walk_at "rd"
 refine ⟨p,_,rfl,.inl (SqL.of h1),?_⟩
 rw [if_neg hl3]
 refine ZAR ?_
 walk_at "rd"
 exact q2 (pk_len n2 n3) _ s1
theorem ok_VoteRule_init {f:Addr} {fd:FuncData} (F:Fun K "__init__" "VoteRule.__init__" ZAj f fd) (T:Bt K mg C_KeyRule C_NearRule C_RingRule C_VoteRule C_ChainRule C_HallError C_NoRule C_NoPaper C_NoPlace C_NoKey C_NoRow C_NoOrder C_TooFar C_Spent A_ATS)
 :FnOk P w K mg base CX0 1 f fd ["self","rules"] (ZB2 C_VoteRule):=by
 refine F.ok sc_VoteRule_init (fun vs H Q E h=>?_) (fun cdv A outer s H vs Q E hr h=>?_)
 .obtain ⟨p,dx,c,xs,rfl,hp,hc,q⟩:=h
  rfl
 obtain ⟨p,dx,c,xs,rfl,hp,hc,q⟩:=h
 refine ⟨_,(ZAE (ZCW (pv 0) (ZA9 ZBw rfl T.b_list PyProof.Rows.boot_list (ZAA (pv 1) ZAD)) rfl)),?_⟩
 walk_at "rd"
 refine ⟨c,xs,rfl,.inl (SqL.of hc),fun l hl=>?_⟩
 refine setX (ZCP hl hp) T.cl_VoteRule T.n_VoteRule_rules (by decide) fun H2 x2 k2=>?_
 have hlp:l≠p:=fun z=>by rw [z,hp] at hl;cases hl
 exact q l H2 hl hlp (fun b o n e=>by rw [k2 b n,ZAS (ZAU e hl)];exact e) (by rw [k2 l hlp,ZAI]) ((Ins.of x2 (yAD ZDi (by decide))).congr fun f=>by simp only [ZAv,lkc])
theorem ok_widest_of {f:Addr} {fd:FuncData} (F:Fun K "widest_of" "widest_of" ZA0 f fd) (T:Bt K mg C_KeyRule C_NearRule C_RingRule C_VoteRule C_ChainRule C_HallError C_NoRule C_NoPaper C_NoPlace C_NoKey C_NoRow C_NoOrder C_TooFar C_Spent A_ATS)
  (t_KeyRule_widest:Mt P w K mg base CX0 C_KeyRule "widest" 1 ["self"] (ZBx K C_KeyRule))
  (t_NearRule_widest:Mt P w K mg base CX0 C_NearRule "widest" 1 ["self"] (ZBV C_NearRule))
  (t_RingRule_widest:Mt P w K mg base CX0 C_RingRule "widest" 1 ["self"] (ZBU C_RingRule))
 :FnOk P w K mg base CX0 2 f fd ["rules"] (ZC6 K C_KeyRule C_NearRule C_RingRule):=by
 refine F.ok sc_widest_of (fun vs H Q E h=>?_) (fun cdv A outer s H vs Q E hr h=>?_)
 .obtain ⟨l,xs,ps,rfl,hl,hs,hps,q⟩:=h
  rfl
 obtain ⟨l,xs,ps,rfl,hl,hs,hps,q⟩:=h
 refine ⟨_,(ZAE (ZAL (ZDA rfl (ZCY rfl (k:=1) (js:=[]) (N':=["rule"]) (by rfl) (ZBd (pv 0)) (fun _ _ _ _=>ZA1 (i:=0) (show (["rule"]:List Str).Nodup by decide +kernel) rfl (by walk_at "o")) (fun _ _ _ _=>ZBQ) (fun _ _ _ _=>(ZBq (ZCK t_KeyRule_widest (hr.mono (by decide)) ZAo (pv 0)) (ZBq (ZCK t_NearRule_widest (hr.mono (by decide)) ZAo (pv 0)) (ZCK t_RingRule_widest (hr.mono (by decide)) ZAo (pv 0)))))) (ZDj ZDF ZAF) rfl T.b_max))),?_⟩
 walk_at "rd"
 have hxl:=hs.len
 refine ZB8 (SqL.of hl) (by omega) (fun i ys σ X=>∃ v,σ=[v] /\ Same H X /\ ys=((ps.take i).map fun p=>(p.key:Int)).map V.int) ⟨_,rfl,.refl _,rfl⟩ (fun i ys σ X _ z=>?_) (fun i ys u σ X hi hu z=>?_) fun ys σ X z p hp=>?_
 .obtain ⟨v,_,e,e2⟩:=z
  rw [e2,yAB,yAB,yBE]
  exact ⟨SqL.of (e _ _ hl),by omega⟩
 .obtain ⟨v,rfl,sX,rfl⟩:=z
  obtain ⟨p,a,hp,rfl,ha⟩:=(hs.mono sX).at hu
  walk_at "rd"
  refine sg_wid ha fun X2 s2=>.of hi ⟨_,rfl,sX.trans s2,?_⟩
  rw [yAQ,hp,yAL,yAL];rfl
 obtain ⟨v,rfl,sX,rfl⟩:=z
 rw [hxl,yAV (yAA _)]
 exact ⟨p,_,_,rfl,rfl,SqL.of ZAI,q _ (sX.trans (ZAi hp _))⟩
theorem ok_VoteRule_widest {f:Addr} {fd:FuncData} (F:Fun K "widest" "VoteRule.widest" ZAa f fd) (T:Bt K mg C_KeyRule C_NearRule C_RingRule C_VoteRule C_ChainRule C_HallError C_NoRule C_NoPaper C_NoPlace C_NoKey C_NoRow C_NoOrder C_TooFar C_Spent A_ATS)
  (f_widest_of:Fn P w K mg base CX0 "widest_of" 2 ["rules"] (ZC6 K C_KeyRule C_NearRule C_RingRule))
 :FnOk P w K mg base CX0 3 f fd ["self"] (ZCh K C_KeyRule C_NearRule C_RingRule C_VoteRule):=by
 refine F.ok sc_VoteRule_widest (fun vs H Q E h=>?_) (fun cdv A outer s H vs Q E hr h=>?_)
 .obtain ⟨r,ps,rfl,hv,hps,q⟩:=h
  rfl
 obtain ⟨r,ps,rfl,hv,hps,q⟩:=h
 refine ⟨_,(ZAE (ZAL (ZAu f_widest_of (hr.mono (by decide)) rfl ZAo (ZAA (ZCy (pv 0) rfl) ZAD)))),?_⟩
 walk_at "rd"
 obtain ⟨l,xs,hI,hl,hs⟩:=hv
 refine hI.get T.cl_VoteRule T.n_VoteRule_rules (by walk_at "lk") ?_
 exact ⟨l,xs,ps,rfl,hl,hs,hps,q⟩
theorem ok_ChainRule_init {f:Addr} {fd:FuncData} (F:Fun K "__init__" "ChainRule.__init__" ZAh f fd) (T:Bt K mg C_KeyRule C_NearRule C_RingRule C_VoteRule C_ChainRule C_HallError C_NoRule C_NoPaper C_NoPlace C_NoKey C_NoRow C_NoOrder C_TooFar C_Spent A_ATS)
 :FnOk P w K mg base CX0 1 f fd ["self","rules"] (ZB2 C_ChainRule):=by
 refine F.ok sc_ChainRule_init (fun vs H Q E h=>?_) (fun cdv A outer s H vs Q E hr h=>?_)
 .obtain ⟨p,dx,c,xs,rfl,hp,hc,q⟩:=h
  rfl
 obtain ⟨p,dx,c,xs,rfl,hp,hc,q⟩:=h
 refine ⟨_,(ZAE (ZCW (pv 0) (ZA9 ZBw rfl T.b_list PyProof.Rows.boot_list (ZAA (pv 1) ZAD)) rfl)),?_⟩
 walk_at "rd"
 refine ⟨c,xs,rfl,.inl (SqL.of hc),fun l hl=>?_⟩
 refine setX (ZCP hl hp) T.cl_ChainRule T.n_ChainRule_rules (by decide) fun H2 x2 k2=>?_
 have hlp:l≠p:=fun z=>by rw [z,hp] at hl;cases hl
 exact q l H2 hl hlp (fun b o n e=>by rw [k2 b n,ZAS (ZAU e hl)];exact e) (by rw [k2 l hlp,ZAI]) ((Ins.of x2 (yAD ZDi (by decide))).congr fun f=>by simp only [ZAv,lkc])
theorem ok_widest_of_2 {f:Addr} {fd:FuncData} (F:Fun K "widest_of" "widest_of" ZA0 f fd) (T:Bt K mg C_KeyRule C_NearRule C_RingRule C_VoteRule C_ChainRule C_HallError C_NoRule C_NoPaper C_NoPlace C_NoKey C_NoRow C_NoOrder C_TooFar C_Spent A_ATS)
  (t_KeyRule_widest:Mt P w K mg base CX0 C_KeyRule "widest" 1 ["self"] (ZBx K C_KeyRule))
  (t_NearRule_widest:Mt P w K mg base CX0 C_NearRule "widest" 1 ["self"] (ZBV C_NearRule))
  (t_RingRule_widest:Mt P w K mg base CX0 C_RingRule "widest" 1 ["self"] (ZBU C_RingRule))
  (t_VoteRule_widest:Mt P w K mg base CX0 C_VoteRule "widest" 3 ["self"] (ZCh K C_KeyRule C_NearRule C_RingRule C_VoteRule))
 :FnOk P w K mg base CX0 4 f fd ["rules"] (ZC5 K C_KeyRule C_NearRule C_RingRule C_VoteRule):=by
 refine F.ok sc_widest_of (fun vs H Q E h=>?_) (fun cdv A outer s H vs Q E hr h=>?_)
 .obtain ⟨l,xs,ps,rfl,hl,hs,ok,hps,q⟩:=h
  rfl
 obtain ⟨l,xs,ps,rfl,hl,hs,ok,hps,q⟩:=h
 refine ⟨_,(ZAE (ZAL (ZDA rfl (ZCY rfl (k:=1) (js:=[]) (N':=["rule"]) (by rfl) (ZBd (pv 0)) (fun _ _ _ _=>ZA1 (i:=0) (show (["rule"]:List Str).Nodup by decide +kernel) rfl (by walk_at "o")) (fun _ _ _ _=>ZBQ) (fun _ _ _ _=>(ZBq (ZCK t_KeyRule_widest (hr.mono (by decide)) ZAo (pv 0)) (ZBq (ZCK t_NearRule_widest (hr.mono (by decide)) ZAo (pv 0)) (ZBq (ZCK t_RingRule_widest (hr.mono (by decide)) ZAo (pv 0)) (ZCK t_VoteRule_widest (hr.mono (by decide)) ZAo (pv 0))))))) (ZDj ZDF ZAF) rfl T.b_max))),?_⟩
 walk_at "rd"
 have hxl:=hs.len
 refine ZB8 (SqL.of hl) (by omega) (fun i ys σ X=>∃ v,σ=[v] /\ Same H X /\ ys=((ps.take i).map wq).map V.int) ⟨_,rfl,.refl _,rfl⟩ (fun i ys σ X _ z=>?_) (fun i ys u σ X hi hu z=>?_) fun ys σ X z p hp=>?_
 .obtain ⟨v,_,e,e2⟩:=z
  rw [e2,yAB,yAB,yBE]
  exact ⟨SqL.of (e _ _ hl),by omega⟩
 .obtain ⟨v,rfl,sX,rfl⟩:=z
  obtain ⟨p,a,hp,rfl,ha⟩:=(hs.mono sX).at hu
  walk_at "rd"
  refine pr_widB ha (ok p (yAM hp)) fun X2 s2=>.of hi ⟨_,rfl,sX.trans s2,?_⟩
  rw [yAQ,hp,yAL,yAL];rfl
 obtain ⟨v,rfl,sX,rfl⟩:=z
 rw [hxl,yAV (yAA _)]
 exact ⟨p,_,_,rfl,rfl,SqL.of ZAI,q _ (sX.trans (ZAi hp _))⟩
theorem ok_ChainRule_widest {f:Addr} {fd:FuncData} (F:Fun K "widest" "ChainRule.widest" ZAX f fd) (T:Bt K mg C_KeyRule C_NearRule C_RingRule C_VoteRule C_ChainRule C_HallError C_NoRule C_NoPaper C_NoPlace C_NoKey C_NoRow C_NoOrder C_TooFar C_Spent A_ATS)
  (f_widest_of_2:Fn P w K mg base CX0 "widest_of" 4 ["rules"] (ZC5 K C_KeyRule C_NearRule C_RingRule C_VoteRule))
 :FnOk P w K mg base CX0 5 f fd ["self"] (ZC7 K C_KeyRule C_NearRule C_RingRule C_VoteRule C_ChainRule):=by
 refine F.ok sc_ChainRule_widest (fun vs H Q E h=>?_) (fun cdv A outer s H vs Q E hr h=>?_)
 .obtain ⟨r,ps,rfl,hv,ok,hps,q⟩:=h
  rfl
 obtain ⟨r,ps,rfl,hv,ok,hps,q⟩:=h
 refine ⟨_,(ZAE (ZAL (ZAu f_widest_of_2 (hr.mono (by decide)) rfl ZAo (ZAA (ZCy (pv 0) rfl) ZAD)))),?_⟩
 walk_at "rd"
 obtain ⟨l,xs,hI,hl,hs⟩:=hv
 refine hI.get T.cl_ChainRule T.n_ChainRule_rules (by walk_at "lk") ?_
 exact ⟨l,xs,ps,rfl,hl,hs,ok,hps,q⟩
theorem ok_read_part {f:Addr} {fd:FuncData} (F:Fun K "read_part" "read_part" ZA6 f fd) (T:Bt K mg C_KeyRule C_NearRule C_RingRule C_VoteRule C_ChainRule C_HallError C_NoRule C_NoPaper C_NoPlace C_NoKey C_NoRow C_NoOrder C_TooFar C_Spent A_ATS)
  (f_read_single:Fn P w K mg base (CXE P w) "read_single" 5 ["text"] (ZBc K C_KeyRule C_NearRule C_RingRule C_NoRule))
  (k_VoteRule:Kl P w K mg base CX0 "VoteRule" C_VoteRule 1 ["self","rules"] (ZB2 C_VoteRule))
 :FnOk P w K mg base (CXE P w) 6 f fd ["text"] (ZB4 K C_KeyRule C_NearRule C_RingRule C_VoteRule C_NoRule):=by
 refine F.okX sc_read_part (fun vs H Q E h=>?_) (fun cdv A outer s H vs Q E hr h=>?_)
 .obtain ⟨t,rfl,hA,hz,q1,q2⟩:=h
  rfl
 obtain ⟨t,rfl,hA,hz,q1,q2⟩:=h
 refine ⟨_,(ZAC (PS.inX (ZAx (ZCe (ZCN PySem.F.plainAttrs_str PySem.F.slot_str_startswith PySem.F.type_str_startswith ZBf (pv 0) (ZAA (ZBp rfl T.c_VOTES_AND_BLANK) ZAD)))
  (ZAC (ZAV (i:=1) sc_read_part.nd rfl (by walk_at "o") (ZCN PySem.F.plainAttrs_str PySem.F.slot_str_split PySem.F.type_str_split ZB7 (ZAz ZBj (pv 0) (ZBD (ZAP ZBB rfl T.b_len PySem.boot_len (ZAA (ZBp rfl T.c_VOTES_AND_BLANK) ZAD))) ZBE) (ZBr ZAD)))
  (ZAE (ZAL (ZDP k_VoteRule (hr.mono (by decide)) rfl ZAo (ZAA (pe_compX (E:=E) ⟨rfl,rfl⟩ (fun _ _ z=>z.unwish) rfl (k:=1) (js:=[]) (N':=["single"]) (by rfl) (ZBd (pv 1)) (fun _ _ _ _=>ZA1 (i:=0) (show (["single"]:List Str).Nodup by decide +kernel) rfl (by walk_at "o")) (fun _ _ _ _=>ZBQ) (fun _ _ _ _ _ hp=>(ZAu f_read_single (hr.mono (by decide)) rfl hp (ZAA (pv 0) ZAD)))) ZAD))))) ZAN))
  (ZAE (ZAL (ZAu f_read_single (hr.mono (by decide)) rfl ZCz (ZAA (pv 0) ZAD))))),?_⟩
 walk_at "rd"
 refine ⟨rfl,_,_,rfl,rfl,?_⟩
 by_cases hsw:Txt.startswith t (Str.ofString "votes ")=true
 .have hpl:plT t=Txt.split (Txt.slice t (some 6) none) (Str.ofString " | "):=by unfold plT;rw [if_pos hsw]
  have hlen:=ZC9 t
  have hsub:∀ l∈plT t,Asc l /\ l.length <= t.length:=fun l hl=>plT_sub hA hl
  rw [if_pos hsw]
  refine ⟨_,rfl,ZAM (by decide),_,rfl,by omega,?_⟩
  have hsl:=ZBW t (some 6) none
  rw [show (((Str.ofString "votes ").length:Nat):Int)=6 by decide]
  refine ⟨rfl,_,_,rfl,rfl,rfl,by omega,fun l hl=>?_⟩
  rw [<- hpl]
  have gall:gdP t=(plT t).all gd:=rfl
  rw [gall] at q1 q2
  generalize plT t=ls at hlen hsub q1 q2 ⊢
  clear gall hpl
  obtain ⟨H1,e1,s1,h1⟩:=newH hl (.lst (ls.map V.str))
  rw [e1];clear e1
  refine ZB8 (SqL.of h1) (by rw [yAB];omega) (fun i ys σ X=>∃ v ps,σ=[v] /\ Same H1 X /\ Sgs K C_KeyRule C_NearRule C_RingRule X ys ps /\ ps.map (fun p=>(p.key:Int))=(ls.take i).map kvL /\ (ls.take i).all gd=true) ⟨_,[],rfl,.refl _,⟨rfl,fun i p h=>by simp at h⟩,rfl,rfl⟩ (fun i ys σ X _ z=>?_) (fun i ys u σ X hi hu z=>?_) fun ys σ X z p2 hp2=>?_
  .obtain ⟨v,ps,_,e,e2,e3,_⟩:=z
   have:=congrArg List.length e3
   rw [yAB,yAB,yBE] at this
   rw [e2.len]
   exact ⟨SqL.of (e _ _ h1),by omega⟩
  .obtain ⟨v,ps,rfl,sX,hS,hm,hg⟩:=z
   rw [yAY] at hu
   obtain ⟨l',hl',rfl⟩:=yBL.mp hu
   obtain ⟨a1,a2⟩:=hsub l' (yAM hl')
   walk_at "rd"
   refine ⟨l',rfl,a1,by omega,fun k hk r X2 p s2 h2 hpk=>.of hi ⟨_,ps++[p],rfl,sX.trans s2,(hS.mono s2).snoc h2,?_,?_⟩,fun hk X2 s2=>q2 ?_ _ (s1.trans (sX.trans s2))⟩
   .rw [yAQ,hl',yAL,yAL,hm]
    show _++[(p.key:Int)]=_++[kvL l']
    rw [(ZDc hk).2,hpk]
   .rw [yAQ,hl',List.all_append,hg]
    show (true && [l'].all gd)=true
    rw [yBG,(ZDc hk).1];rfl
   .refine Bool.eq_false_iff.mpr fun z=>?_
    have:=yAZ.mp z l' (yAM hl')
    rw [ZDx hk] at this;cases this
  obtain ⟨v,ps,rfl,sX,hS,hm,hg⟩:=z
  rw [yAB,yAV (yAA _)] at hm hg
  intro x dx hx hdx _
  have sA:=ZAi hp2 (.lst ys)
  exact ZDk ZAI hx hdx fun l2 H' s h hI=>q1 hg x H' (true,ps) (s1.trans (sX.trans (sA.trans s))) (.inr ⟨rfl,l2,ys,hI,h,hS.mono (sA.trans s)⟩) hm
 .have hpl:plT t=[t]:=by unfold plT;rw [if_neg hsw]
  have gall:gdP t=gd t:=by unfold gdP;rw [hpl];simp
  rw [gall] at q1 q2
  rw [hpl] at q1
  rw [if_neg hsw]
  refine ⟨t,rfl,hA,hz,fun k hk r H' p s h hpk=>q1 (ZDc hk).1 r H' (false,[p]) s (.inl ⟨rfl,p,rfl,h⟩) ?_,fun hk H' s=>q2 (ZDx hk) H' s⟩
  show [(p.key:Int)]=[kvL t]
  rw [(ZDc hk).2,hpk]
theorem ok_read_rule {f:Addr} {fd:FuncData} (F:Fun K "read_rule" "read_rule" ZA5 f fd) (T:Bt K mg C_KeyRule C_NearRule C_RingRule C_VoteRule C_ChainRule C_HallError C_NoRule C_NoPaper C_NoPlace C_NoKey C_NoRow C_NoOrder C_TooFar C_Spent A_ATS)
  (f_read_part:Fn P w K mg base (CXE P w) "read_part" 6 ["text"] (ZB4 K C_KeyRule C_NearRule C_RingRule C_VoteRule C_NoRule))
  (k_ChainRule:Kl P w K mg base CX0 "ChainRule" C_ChainRule 1 ["self","rules"] (ZB2 C_ChainRule))
 :FnOk P w K mg base (CXE P w) 7 f fd ["text"] (ZBN K C_KeyRule C_NearRule C_RingRule C_VoteRule C_ChainRule C_NoRule):=by
 refine F.okX sc_read_rule (fun vs H Q E h=>?_) (fun cdv A outer s H vs Q E hr h=>?_)
 .obtain ⟨v,rfl,hs,hv⟩:=h
  rfl
 obtain ⟨v,rfl,hs,hv⟩:=h
 refine ⟨_,(ZAC (ZAx (ZDG (ZCe (ZAP ZB6 rfl T.b_isinstance PyProof.Rows.boot_isinstance (ZAA (pv 0) (ZAA (ZDI rfl T.b_str PyProof.Rows.boot_str) ZAD)))))
  (ZAE (ZBb T.xq_NoRule T.m_NoRule rfl)) ZAN)
  (ZAC (PS.nox (ZAx (ZAG ZBA (pv 0) ZAp (ZAK _))
  (ZAE (ZAL (ZDP k_ChainRule (hr.mono (by decide)) rfl ZAo (ZAA (ZBI ZAD) ZAD)))) ZAN))
  (ZAE (PS.inX (ZAL (ZDP k_ChainRule (hr.mono (by decide)) rfl ZAo (ZAA (pe_compX (E:=E) ⟨rfl,rfl⟩ (fun _ _ z=>z.unwish) rfl (k:=1) (js:=[]) (N':=["part"]) (by rfl) (ZBd (ZCN PySem.F.plainAttrs_str PySem.F.slot_str_split PySem.F.type_str_split ZB7 (pv 0) (ZBr ZAD))) (fun _ _ _ _=>ZA1 (i:=0) (show (["part"]:List Str).Nodup by decide +kernel) rfl (by walk_at "o")) (fun _ _ _ _=>ZBQ) (fun _ _ _ _ _ hp=>(ZAu f_read_part (hr.mono (by decide)) rfl hp (ZAA (pv 0) ZAD)))) ZAD))))))),?_⟩
 walk_at "rd"
 rcases hv with ⟨z,rfl⟩ | ⟨hn,he⟩
 .obtain ⟨hA,hz,q1,q2⟩:=hs z rfl
  clear hs
  refine ⟨_,_,_,true,rfl,rfl,.str _,T.kit_str_str,?_⟩
  rw [if_neg (by decide)]
  walk_at "rd"
  have gall:gdZ z=(partsT z).all gdP:=rfl
  rw [gall] at q1 q2
  by_cases h0:z=Str.ofString ""
  .rw [if_pos h0]
   have hp0:partsT z=[]:=by unfold partsT;rw [if_pos h0]
   rw [hp0] at q1
   refine ⟨ZAM (by decide),fun p hp x dx hx hdx hne=>?_⟩
   exact ZDk ZAI hx hdx fun l2 H' s h hI=>q1 rfl x H' [] ((ZAi hp _).trans s) ⟨l2,[],hI,h,⟨rfl,fun i p h=>by simp at h⟩⟩ rfl (fun q hq=>by cases hq) (yBC _)
  rw [if_neg h0]
  have hpl:partsT z=Txt.split z (Str.ofString ", "):=by unfold partsT;rw [if_neg h0]
  have hlen:=partsT_len z
  have hsub:∀ l∈partsT z,Asc l /\ l.length <= z.length:=fun l hl=>partsT_sub hA hl
  refine ⟨rfl,_,_,rfl,rfl,rfl,by omega,fun l hl=>?_⟩
  rw [<- hpl]
  generalize partsT z=ls at hlen hsub q1 q2 ⊢
  clear gall hpl
  obtain ⟨H1,e1,s1,h1⟩:=newH hl (.lst (ls.map V.str))
  rw [e1];clear e1
  refine ZB8 (SqL.of h1) (by rw [yAB];omega) (fun i ys σ X=>∃ v ps,σ=[v] /\ Same H1 X /\ Prs K C_KeyRule C_NearRule C_RingRule C_VoteRule X ys ps /\ ps.map wq=(ls.take i).map wdP /\ (∀ q∈ps,q.2.length <= 100000) /\ (ls.take i).all gdP=true) ⟨_,[],rfl,.refl _,⟨rfl,fun i p h=>by simp at h⟩,rfl,(fun q hq=>by cases hq),rfl⟩ (fun i ys σ X _ z=>?_) (fun i ys u σ X hi hu z=>?_) fun ys σ X z p2 hp2=>?_
  .obtain ⟨v,ps,_,e,e2,e3,_⟩:=z
   have:=congrArg List.length e3
   rw [yAB,yAB,yBE] at this
   rw [e2.len]
   exact ⟨SqL.of (e _ _ h1),by omega⟩
  .obtain ⟨v,ps,rfl,sX,hS,hm,hb,hg⟩:=z
   rw [yAY] at hu
   obtain ⟨l',hl',rfl⟩:=yBL.mp hu
   obtain ⟨a1,a2⟩:=hsub l' (yAM hl')
   walk_at "rd"
   refine ⟨l',rfl,a1,by omega,fun hk r X2 p s2 h2 hpk=>.of hi ⟨_,ps++[p],rfl,sX.trans s2,(hS.mono s2).snoc h2,?_,?_,?_⟩,fun hk X2 s2=>q2 ?_ _ (s1.trans (sX.trans s2))⟩
   .rw [yAQ,hl',yAL,yAL,hm]
    show _++[wq p]=_++[wdP l']
    unfold wq wdP
    rw [hpk]
   .intro q hq
    rcases yAX.mp hq with z | z
    .exact hb q z
    .rw [yBB.mp z]
     have e1:=congrArg List.length hpk
     rw [yAB,yAB] at e1
     have e2:=ZC9 l'
     omega
   .rw [yAQ,hl',List.all_append,hg]
    show (true && [l'].all gdP)=true
    rw [yBG,hk];rfl
   .refine Bool.eq_false_iff.mpr fun z=>?_
    have:=yAZ.mp z l' (yAM hl')
    rw [hk] at this;cases this
  obtain ⟨v,ps,rfl,sX,hS,hm,hb,hg⟩:=z
  rw [yAB,yAV (yAA _)] at hm hg
  have hpsl:=congrArg List.length hm
  rw [yAB,yAB] at hpsl
  intro x dx hx hdx _
  have sA:=ZAi hp2 (.lst ys)
  exact ZDk ZAI hx hdx fun l2 H' s h hI=>q1 hg x H' ps (s1.trans (sX.trans (sA.trans s))) ⟨l2,ys,hI,h,hS.mono (sA.trans s)⟩ hm hb (by omega)
 .obtain ⟨ty,h1,h2⟩:∃ ty,TyOf K H v ty /\ PySem.W.kitOne K ty (cval (.ty "str"))=some false:=by
   rcases hn with rfl | ⟨i,rfl⟩ | ⟨b,rfl⟩ | ⟨a,xs,rfl,ha⟩ | ⟨a,xs,rfl,ha⟩
   .exact ⟨_,.non,T.kit_NoneType_str⟩
   .exact ⟨_,.int _,T.kit_int_str⟩
   .exact ⟨_,.bl _,T.kit_bool_str⟩
   .exact ⟨_,.lst ha,T.kit_list_str⟩
   .exact ⟨_,.tup ha,T.kit_tuple_str⟩
  exact ⟨_,_,ty,false,rfl,rfl,h1,h2,by rw [if_pos rfl];exact he⟩
theorem ok_plain {f:Addr} {fd:FuncData} (F:Fun K "_law_plain" "_law_plain" ZCE f fd) (T:Bt K mg C_KeyRule C_NearRule C_RingRule C_VoteRule C_ChainRule C_HallError C_NoRule C_NoPaper C_NoPlace C_NoKey C_NoRow C_NoOrder C_TooFar C_Spent A_ATS)
 :FnOk P w K mg base CX0 1 f fd ["_law_cell"] (ZCT):=by
 refine F.ok sc_plain (fun vs H Q E h=>?_) (fun cdv A outer s H vs Q E hr h=>?_)
 .obtain ⟨c,rfl,q⟩:=h
  rfl
 obtain ⟨c,rfl,q⟩:=h
 refine ⟨_,(ZAC (ZAV (i:=1) sc_plain.nd rfl (by walk_at "o") (ZBF ZAd (pe_strs [(Str.ofString "up",0,⟨174,17,174,21⟩),(Str.ofString "down",0,⟨174,23,174,29⟩),(Str.ofString "near",0,⟨174,31,174,37⟩),(Str.ofString "ring",0,⟨174,39,174,45⟩)] (by kernel_rfl)) (ZAQ ZA3 (pv 0) ZAF) (fun _ _=>rfl)))
  (ZAC (ZAV (i:=2) sc_plain.nd rfl (by walk_at "o") (ZAQ ZBG (ZAQ ZBG (pv 1) ZAp) (ZA9 call_str_int rfl T.b_str PyProof.Rows.boot_str (ZAA (ZAQ ZA3 (ZAQ ZBS (pv 0) ZAF) ZAF) ZAD))))
  (ZAO
  (ZAC (ZAx (ZAG ZDQ (ZAQ ZA3 (pv 0) ZAF) ZAF (ZAK _))
  (ZAE (ZAL (pv 2))) ZAN)
  (ZAO
  (ZAC (ZAV (i:=3) sc_plain.nd rfl (by walk_at "o") (ZAQ ZDJ (ZAQ ZA3 (ZAQ ZBS (pv 0) ZAF) ZAF) ZAF))
  (ZAC (ZAx (ZAG ZBA (ZAQ ZA3 (ZAQ ZBS (pv 0) ZAF) ZAF) ZAF (ZAK _))
  (ZAE (ZAV (i:=3) sc_plain.nd rfl (by walk_at "o") (ZBF ZAd (ZBI (ZAA (ZAQ ZCL (ZAQ ZDK ZAF ZAF) (ZAQ ZA3 (pv 0) ZAF)) (ZAA (ZAQ ZDJ (ZAQ ZDK ZAF ZAF) ZAF) (ZAA (ZAQ ZDK ZAF ZAF) (ZAA (ZAQ ZDJ ZAF (ZAQ ZDK ZAF ZAF)) ZAD))))) (ZAQ ZA3 (ZAQ ZBS (pv 0) ZAF) ZAF) (fun _ _=>rfl)))) ZAN)
  (ZAO
  (ZAE (ZAL (ZAQ ZBG (ZAQ ZBG (pv 2) ZAp) (ZA9 call_str_int rfl T.b_str PyProof.Rows.boot_str (ZAA (pv 3) ZAD))))))))))))),?_⟩
 walk_at "rd"
 refine ⟨ZAM (by decide),fun p hp=>⟨by decide,ZAm (SqL.of ZAI) (atW4 c) ?_⟩⟩
 obtain ⟨H1,e1,s1,h1⟩:=newH hp (.lst [V.str (Str.ofString "up"),V.str (Str.ofString "down"),V.str (Str.ofString "near"),V.str (Str.ofString "ring")])
 rw [e1];clear e1
 have hk:Sm (c / 4 % 10):=Sm.of (yAJ (show (c / 4 % 10).natAbs < 10 by omega) (by decide))
 have hw:=wrd_len (c % 4).toNat
 have hx:=tx_len hk
 have hs:(Str.ofString " ").length=1:=by decide
 refine ⟨_,_,rfl,rfl,by omega,⟨by decide,by decide⟩,by decide,_,rfl,hk.big,_,_,rfl,rfl,by rw [PySem.Str.length_append];have h2:=hx;unfold tx at h2;omega,?_⟩
 have hA:Asc (wrd (c % 4).toNat++Str.ofString " "++tx (c / 4 % 10)):=ZBH (ZBH (wrd_asc _) sp_asc) (tx_asc _)
 have hL:(wrd (c % 4).toNat++Str.ofString " "++tx (c / 4 % 10)).length <= 206:=by rw [PySem.Str.length_append,PySem.Str.length_append];omega
 rw [show Str.ofString (toString (c / 4 % 10))=tx (c / 4 % 10) from rfl]
 generalize wrd (c % 4).toNat++Str.ofString " "++tx (c / 4 % 10)=y at hA hL ⊢
 refine ZAR ?_
 walk_at "rd"
 refine ⟨by decide,?_⟩
 by_cases h2:c % 4 < 2
 .rw [if_pos h2]
  exact q _ _ s1 hA (by omega)
 rw [if_neg h2]
 refine ZAR ?_
 walk_at "rd"
 refine ⟨⟨by decide,by decide⟩,by decide,⟨by decide,by decide⟩,by decide,?_⟩
 have hP:CPow 10 60:=⟨by decide,by decide,by decide⟩
 have hP8:CPow 10 58:=⟨by decide,by decide,by decide⟩
 have hP9:CPow 10 59:=⟨by decide,by decide,by decide⟩
 have key:∀ x∈[10 ^ Int.toNat 58+c % 7,10 ^ Int.toNat 60-1,10 ^ Int.toNat 60,0-10 ^ Int.toNat 59],Sm x:=by
  have e:((10:Int) ^ Int.toNat 60)=((10 ^ 60:Nat):Int):=by decide
  have e':((10:Int) ^ Int.toNat 58)=((10 ^ 58:Nat):Int):=by decide
  have e9:((10:Int) ^ Int.toNat 59)=((10 ^ 59:Nat):Int):=by decide
  have h1:(10:Nat) ^ 60=100 * 10 ^ 58:=by decide
  have h19:(10:Nat) ^ 59=10 * 10 ^ 58:=by decide
  have h2:100 <= (10:Nat) ^ 58:=by decide
  have h3:(10:Nat) ^ 60+10 < 2 ^ 200:=by decide
  intro x hx
  refine Sm.of ?_
  rw [e,e',e9] at hx
  generalize (2 ^ 200:Nat)=B at h3 ⊢
  rw [h1,h19] at hx
  rw [h1] at h3
  generalize (10 ^ 58:Nat)=D at h2 h3 hx
  simp only [yAC,yBK,or_false] at hx
  rcases hx with rfl | rfl | rfl | rfl <;> omega
 obtain ⟨x,hx'⟩:∃ x,[10 ^ Int.toNat 58+c % 7,10 ^ Int.toNat 60-1,10 ^ Int.toNat 60,0-10 ^ Int.toNat 59][(c / 1600 % 4).toNat]?=some x:=⟨_,yAU (show (c / 1600 % 4).toNat < 4 by omega)⟩
 have hxs:=key x (yAM hx')
 have hix:=atI_ints (xs:=[10 ^ Int.toNat 58+c % 7,10 ^ Int.toNat 60-1,10 ^ Int.toNat 60,0-10 ^ Int.toNat 59]) (i:=c / 1600 % 4) (by omega) hx'
 have hsm:Sm (c / 40 % 10-2):=Sm.of (yAJ (show (c / 40 % 10-2).natAbs < 10 by omega) (by decide))
 apply ZDD (fun u:Hp×Int=>[some (.int c),some (.str (wrd (c % 4).toNat)),some (.str y),some (.int u.2)]) (fun u=>u.1) (fun u=>Same H u.1 /\ Sm u.2)
 .intro rest
  by_cases h4:c / 400 % 4=1
  .rw [if_pos h4]
   exact ⟨hP8,by decide,hP,hP,hP9,ZAM (by decide),fun p2 hp2=>⟨⟨by decide,by decide⟩,by decide,ZAm (SqL.of ZAI) hix (rest (_,x) ⟨s1.trans (ZAi hp2 _),hxs⟩)⟩⟩
  .rw [if_neg h4]
   exact rest (H1,_) ⟨s1,hsm⟩
 intro u hu
 refine ZAR ?_
 walk_at "rd"
 have hy:=tx_len hu.2
 refine ⟨_,_,rfl,rfl,by omega,_,rfl,hu.2.big,_,_,rfl,rfl,by rw [PySem.Str.length_append];have h2:=hy;unfold tx at h2;omega,?_⟩
 exact q _ _ hu.1 (ZBH (ZBH hA sp_asc) (tx_asc u.2)) (by rw [PySem.Str.length_append,PySem.Str.length_append];have h2:=hy;unfold tx at h2;omega)
theorem ok_part {f:Addr} {fd:FuncData} (F:Fun K "_law_part" "_law_part" ZCd f fd) (T:Bt K mg C_KeyRule C_NearRule C_RingRule C_VoteRule C_ChainRule C_HallError C_NoRule C_NoPaper C_NoPlace C_NoKey C_NoRow C_NoOrder C_TooFar C_Spent A_ATS)
  (f_plain:Fn P w K mg base CX0 "_law_plain" 1 ["_law_cell"] (ZCT))
 :FnOk P w K mg base CX0 2 f fd ["_law_cell"] (ZCk):=by
 refine F.ok sc_part (fun vs H Q E h=>?_) (fun cdv A outer s H vs Q E hr h=>?_)
 .obtain ⟨c,rfl,q⟩:=h
  rfl
 obtain ⟨c,rfl,q⟩:=h
 refine ⟨_,(ZAC (ZAx (ZAG ZBA (ZAQ ZA3 (pv 0) ZAF) ZAF (ZAK _))
  (ZAE (ZAL (ZAQ ZBG (ZAQ ZBG (ZAQ ZBG ZAp (ZAu f_plain (hr.mono (by decide)) rfl ZAo (ZAA (ZAQ ZBS (pv 0) ZAF) ZAD))) ZAp) (ZAu f_plain (hr.mono (by decide)) rfl ZAo (ZAA (ZAQ ZBS (pv 0) ZAF) ZAD))))) ZAN)
  (ZAE (ZAL (ZAu f_plain (hr.mono (by decide)) rfl ZAo (ZAA (ZAQ ZBS (pv 0) ZAF) ZAD))))),?_⟩
 walk_at "rd"
 refine ⟨by decide,?_⟩
 by_cases h3:c % 4=3
 .rw [if_pos h3]
  refine ⟨⟨by decide,by decide⟩,_,rfl,fun z1 H1 s1 a1 l1=>?_⟩
  have hv:(Str.ofString "votes ").length=6:=by decide
  have hb:(Str.ofString " | ").length=3:=by decide
  refine ⟨_,_,rfl,rfl,by omega,_,_,rfl,rfl,by rw [PySem.Str.length_append];omega,⟨by decide,by decide⟩,_,rfl,fun z2 H2 s2 a2 l2=>?_⟩
  refine ⟨_,_,rfl,rfl,by rw [PySem.Str.length_append,PySem.Str.length_append];omega,q _ _ (s1.trans s2) ?_ (by rw [PySem.Str.length_append,PySem.Str.length_append,PySem.Str.length_append];omega)⟩
  exact ZBH (ZBH (ZBH (show ∀ c∈(Str.ofString "votes ").cps.toList,c < 128 by decide) a1) (show ∀ c∈(Str.ofString " | ").cps.toList,c < 128 by decide)) a2
 .rw [if_neg h3]
  exact ⟨⟨by decide,by decide⟩,_,rfl,fun z1 H1 s1 a1 l1=>q _ _ s1 a1 (by omega)⟩
theorem ok_odd {f:Addr} {fd:FuncData} (F:Fun K "_law_odd" "_law_odd" ZC8 f fd) (T:Bt K mg C_KeyRule C_NearRule C_RingRule C_VoteRule C_ChainRule C_HallError C_NoRule C_NoPaper C_NoPlace C_NoKey C_NoRow C_NoOrder C_TooFar C_Spent A_ATS)
 :FnOk P w K mg base CX0 1 f fd ["_law_cell"] (ZBm):=by
 refine F.ok sc_odd (fun vs H Q E h=>?_) (fun cdv A outer s H vs Q E hr h=>?_)
 .obtain ⟨c,rfl,q⟩:=h
  rfl
 obtain ⟨c,rfl,q⟩:=h
 rw [odd_body]
 have hall:=oddL_ok
 unfold oddL at hall
 generalize Str.ofString "up"=x1 at hall ⊢
 generalize Str.ofString "up "=x2 at hall ⊢
 generalize Str.ofString "Up 0"=x3 at hall ⊢
 generalize Str.ofString "up 00"=x4 at hall ⊢
 generalize Str.ofString "up 0 "=x5 at hall ⊢
 generalize Str.ofString " up 0"=x6 at hall ⊢
 generalize Str.ofString "up  0"=x7 at hall ⊢
 generalize Str.ofString "up 8"=x8 at hall ⊢
 generalize Str.ofString "up -1"=x9 at hall ⊢
 generalize Str.ofString "up 0,down 1"=x10 at hall ⊢
 generalize Str.ofString "up 0,  down 1"=x11 at hall ⊢
 generalize Str.ofString "up 0, "=x12 at hall ⊢
 generalize Str.ofString ", up 0"=x13 at hall ⊢
 generalize Str.ofString "up 0\n"=x14 at hall ⊢
 generalize Str.ofString "votes"=x15 at hall ⊢
 generalize Str.ofString "votes "=x16 at hall ⊢
 generalize Str.ofString "votes votes up 0"=x17 at hall ⊢
 generalize Str.ofString "votes up 0 |"=x18 at hall ⊢
 generalize Str.ofString "votes up 0|up 1"=x19 at hall ⊢
 generalize Str.ofString "near 0"=x20 at hall ⊢
 generalize Str.ofString "near 0 -0"=x21 at hall ⊢
 generalize Str.ofString "near 0 +1"=x22 at hall ⊢
 generalize Str.ofString "ring 0 01"=x23 at hall ⊢
 generalize Str.ofString "key 0"=x24 at hall ⊢
 unfold oddB
 refine ⟨tSeq (tAsg (tLst (ZBl [(x1,0,⟨187,17,187,21⟩),(x2,0,⟨187,23,187,28⟩),(x3,0,⟨187,30,187,36⟩),(x4,0,⟨187,38,187,45⟩),(x5,0,⟨187,47,187,54⟩),(x6,0,⟨187,56,187,63⟩),(x7,0,⟨187,65,187,72⟩),(x8,0,⟨187,74,187,80⟩),(x9,0,⟨187,82,187,89⟩),(x10,0,⟨187,91,187,104⟩),(x11,0,⟨187,106,187,121⟩)])) (ZCt 1)) (Cut (tSeq (tAsg (tOp rCat (tVar 1) (tLst (ZBl [(x12,0,⟨188,29,188,37⟩),(x13,0,⟨188,39,188,47⟩),(x14,0,⟨188,49,188,57⟩),(x15,0,⟨188,59,188,66⟩),(x16,0,⟨188,68,188,76⟩),(x17,0,⟨188,78,188,96⟩),(x18,0,⟨188,98,188,112⟩)]))) (ZCt 1)) (Cut (tSeq (tAsg (tOp rCat (tVar 1) (tLst (ZBl [(x19,0,⟨189,29,189,46⟩)]))) (ZCt 1)) (Cut (tSeq (tAsg (tOp rCat (tVar 1) (tLst (ZBl [(x20,0,⟨190,29,190,37⟩),(x21,0,⟨190,39,190,50⟩),(x22,0,⟨190,52,190,63⟩),(x23,0,⟨190,65,190,76⟩),(x24,0,⟨190,78,190,85⟩)]))) (ZCt 1)) (Cut (tRet (tOp (rIxL K) (tVar 1) (tOp (rI (fun _ j=>0 < j) fun i j=>.int (i % j)) (tVar 0) (tC (.int 24)))))))))))),?_,?_⟩
 .refine ZAC ?_ ?_
  .refine ZAV (i:=1) ?_ ?_ ?_ ?_ ?_ ?_
   .exact sc_odd.nd
   .rfl
   .exact Or.inl rfl
   .refine ZBI ?_
    exact pa_oL1
   .kernel_rfl
   .exact .inr rfl
  refine ZAO ?_
  refine ZAC ?_ ?_
  .refine ZAV (i:=1) ?_ ?_ ?_ ?_ ?_ ?_
   .exact sc_odd.nd
   .rfl
   .exact Or.inl rfl
   .refine ZAQ ?_ ?_ ?_
    .exact ZC0
    .exact pv 1
    .refine ZBI ?_
     exact pa_oL2
   .kernel_rfl
   .exact .inr rfl
  refine ZAO ?_
  refine ZAC ?_ ?_
  .refine ZAV (i:=1) ?_ ?_ ?_ ?_ ?_ ?_
   .exact sc_odd.nd
   .rfl
   .exact Or.inl rfl
   .refine ZAQ ?_ ?_ ?_
    .exact ZC0
    .exact pv 1
    .refine ZBI ?_
     exact pa_oL3
   .kernel_rfl
   .exact .inr rfl
  refine ZAO ?_
  refine ZAC ?_ ?_
  .refine ZAV (i:=1) ?_ ?_ ?_ ?_ ?_ ?_
   .exact sc_odd.nd
   .rfl
   .exact Or.inl rfl
   .refine ZAQ ?_ ?_ ?_
    .exact ZC0
    .exact pv 1
    .refine ZBI ?_
     exact pa_oL4
   .kernel_rfl
   .exact .inr rfl
  refine ZAO ?_
  refine ZAE ?_
  refine ZAL ?_
  refine ZBF ?_ ?_ ?_ ?_
  .exact ZAd
  .exact pv 1
  .refine ZAQ ?_ ?_ ?_
   .exact ZA3
   .exact pv 0
   .exact ZAF
  .exact fun _ _=>rfl
 walk_at "rd"
 refine ⟨ZAM (by decide),fun p hp=>?_⟩
 obtain ⟨H1,e1,s1,h1⟩:=newH hp (.lst ([x1,x2,x3,x4,x5,x6,x7,x8,x9,x10,x11].map V.str))
 rw [show upd H p (HO.lst [V.str x1,V.str x2,V.str x3,V.str x4,V.str x5,V.str x6,V.str x7,V.str x8,V.str x9,V.str x10,V.str x11])=H1 from e1];clear e1
 refine ZAR ?_
 walk_at "rd"
 refine ⟨ZAM (by decide),fun p2 hp2=>?_⟩
 obtain ⟨H2,e2,s2,h2⟩:=newH hp2 (.lst ([x12,x13,x14,x15,x16,x17,x18].map V.str))
 rw [show upd H1 p2 (HO.lst [V.str x12,V.str x13,V.str x14,V.str x15,V.str x16,V.str x17,V.str x18])=H2 from e2];clear e2
 refine ⟨p,p2,_,_,rfl,rfl,s2 _ _ h1,h2,ZAM (Nat.le_of_ble_eq_true rfl),fun p3 hp3=>?_⟩
 obtain ⟨H3,e3,s3,h3⟩:=newH hp3 (.lst (List.map V.str [x1,x2,x3,x4,x5,x6,x7,x8,x9,x10,x11]++List.map V.str [x12,x13,x14,x15,x16,x17,x18]))
 rw [e3];clear e3
 refine ZAR ?_
 walk_at "rd"
 refine ⟨ZAM (by decide),fun p4 hp4=>?_⟩
 obtain ⟨H4,e4,s4,h4⟩:=newH hp4 (.lst [V.str x19])
 rw [e4];clear e4
 refine ⟨p3,p4,_,_,rfl,rfl,s4 _ _ h3,h4,ZAM (Nat.le_of_ble_eq_true rfl),fun p5 hp5=>?_⟩
 obtain ⟨H5,e5,s5,h5⟩:=newH hp5 (.lst (List.map V.str [x1,x2,x3,x4,x5,x6,x7,x8,x9,x10,x11]++List.map V.str [x12,x13,x14,x15,x16,x17,x18]++[V.str x19]))
 rw [e5];clear e5
 refine ZAR ?_
 walk_at "rd"
 refine ⟨ZAM (by decide),fun p6 hp6=>?_⟩
 obtain ⟨H6,e6,s6,h6⟩:=newH hp6 (.lst ([x20,x21,x22,x23,x24].map V.str))
 rw [show upd H5 p6 (HO.lst [V.str x20,V.str x21,V.str x22,V.str x23,V.str x24])=H6 from e6];clear e6
 refine ⟨p5,p6,_,_,rfl,rfl,s6 _ _ h5,h6,ZAM (Nat.le_of_ble_eq_true rfl),fun p7 hp7=>?_⟩
 refine ZAR ?_
 walk_at "rd"
 refine ⟨by decide,?_⟩
 have S:=s1.trans (s2.trans (s3.trans (s4.trans (s5.trans (s6.trans (ZAi hp7 (.lst (List.map V.str [x1,x2,x3,x4,x5,x6,x7,x8,x9,x10,x11]++List.map V.str [x12,x13,x14,x15,x16,x17,x18]++[V.str x19]++List.map V.str [x20,x21,x22,x23,x24]))))))))
 obtain ⟨x,hx⟩:∃ x,([x1,x2,x3,x4,x5,x6,x7,x8,x9,x10,x11]++[x12,x13,x14,x15,x16,x17,x18]++[x19]++[x20,x21,x22,x23,x24])[(c % 24).toNat]?=some x:=⟨_,yAU (show (c % 24).toNat < 24 by omega)⟩
 have hok:=hall x (yAM hx)
 exact ZAm (SqL.of ZAI) (ZBJ (by omega) (show (List.map V.str ([x1,x2,x3,x4,x5,x6,x7,x8,x9,x10,x11]++[x12,x13,x14,x15,x16,x17,x18]++[x19]++[x20,x21,x22,x23,x24]))[(c % 24).toNat]?=some (.str x) by rw [yAY,hx];rfl)) (q x _ S hok.1 hok.2)
theorem ok_spoiled {f:Addr} {fd:FuncData} (F:Fun K "_law_spoiled" "_law_spoiled" ZBX f fd) (T:Bt K mg C_KeyRule C_NearRule C_RingRule C_VoteRule C_ChainRule C_HallError C_NoRule C_NoPaper C_NoPlace C_NoKey C_NoRow C_NoOrder C_TooFar C_Spent A_ATS)
 :FnOk P w K mg base CX0 1 f fd ["_law_text","_law_cells"] (ZCR):=by
 refine F.ok sc_spoiled (fun vs H Q E h=>?_) (fun cdv A outer s H vs Q E hr h=>?_)
 .obtain ⟨z,l,ms,rfl,hl,hms,hA,hz,q⟩:=h
  rfl
 obtain ⟨z,l,ms,rfl,hl,hms,hA,hz,q⟩:=h
 refine ⟨_,(ZAC (ZCx PassesOwn.never rfl (ZBd (pv 1)) (ZA1 (i:=2) sc_spoiled.nd rfl (by walk_at "o"))
  (ZAC (ZAV (i:=3) sc_spoiled.nd rfl (by walk_at "o") (ZAQ ZA3 (ZAQ ZBS (pv 2) ZAF) (ZAQ ZCL (ZAP ZBB rfl T.b_len PySem.boot_len (ZAA (pv 0) ZAD)) ZAF)))
  (ZAC (ZAV (i:=4) sc_spoiled.nd rfl (by walk_at "o") (ZBF ix_str ZAp (ZAQ ZA3 (ZAQ ZA3 (ZAQ op_mul (pv 2) ZAF) ZAF) ZAF) (fun _ _=>rfl)))
  (ZAE (ZAx (ZAG ZBA (ZAQ ZA3 (pv 2) ZAF) ZAF (ZAK _))
  (ZAE (ZAV (i:=0) sc_spoiled.nd rfl (by walk_at "o") (ZAQ ZBG (ZAQ ZBG (ZAz ZBj (pv 0) ZBE (ZBD (pv 3))) (pv 4)) (ZAz ZBj (pv 0) (ZBD (pv 3)) ZBE))))
  (ZAE (ZAx (ZAG ZBA (ZAQ ZA3 (pv 2) ZAF) ZAF (ZAK _))
  (ZAE (ZAV (i:=0) sc_spoiled.nd rfl (by walk_at "o") (ZAQ ZBG (ZAz ZBj (pv 0) ZBE (ZBD (pv 3))) (ZAz ZBj (pv 0) (ZBD (ZAQ ZCL (pv 3) ZAF)) ZBE))))
  (ZAE (ZAV (i:=0) sc_spoiled.nd rfl (by walk_at "o") (ZAQ ZBG (ZAQ ZBG (ZAz ZBj (pv 0) ZBE (ZBD (pv 3))) (pv 4)) (ZAz ZBj (pv 0) (ZBD (ZAQ ZCL (pv 3) ZAF)) ZBE)))))))))))
  (ZAE (ZAL (pv 0)))),?_⟩
 walk_at "rd"
 refine ZCu (SqL.of hl) (fun i σ X=>∃ (z':Str) (v2 v3 v4:Option V),σ=[some (.str z'),some (.ref l),v2,v3,v4] /\ X=H /\ Asc z' /\ z'.length+1 <= 11701 * 2 ^ i) ⟨z,_,_,_,rfl,rfl,hA,by omega⟩ (fun i σ X _ z=>?_) (fun i x σ X hx z'=>?_) fun σ X z'=>?_
 .obtain ⟨_,_,_,_,_,e,_⟩:=z
  rw [e];exact SqL.of hl
 .obtain ⟨y,v2,v3,v4,rfl,rfl,yA,yz⟩:=z'
  obtain ⟨c,hc,rfl⟩:=get_ints hx
  have hi3:i < 3:=by have:=(yAN.mp hc).1;omega
  have h8:2 ^ i <= 8:=yAD (Nat.pow_le_pow_right (by decide) (show i <= 3 by omega)) (by decide)
  rw [Nat.pow_succ]
  generalize 2 ^ i=P2 at yz h8 ⊢
  walk_at "rd"
  refine ⟨⟨by decide,by decide⟩,y,rfl,by rw [sizeLine_eq];omega,by omega,.inr ⟨by decide,by decide⟩,by decide,by decide,?_⟩
  have hk0:=Int.emod_nonneg (c * 48271 % 65521) (show (13:Int)≠0 by decide)
  have hk1:=Int.emod_lt_of_pos (c * 48271 % 65521) (show (0:Int) < 13 by decide)
  generalize c * 48271 % 65521 % 13=kk at hk0 hk1 ⊢
  obtain ⟨sg,hsg⟩:∃ sg,(Str.ofString "0179-, |upr._").cps.toList[kk.toNat]?=some sg:=⟨_,yAU (show kk.toNat < 13 by omega)⟩
  have hsA:Asc ⟨#[sg]⟩:=fun d hd=>by
   rw [yBB.mp hd]
   exact (show ∀ d∈(Str.ofString "0179-, |upr._").cps.toList,d < 128 by decide) sg (yAM hsg)
  refine ⟨_,_,sg,rfl,rfl,ZAM (by decide),ZBJ hk0 hsg,?_⟩
  generalize c / 3 % ((y.length:Int)+1)=pl
  have l1:∀ lo hi,(Txt.slice y lo hi).length <= y.length:=ZBW y
  have a1:∀ lo hi,Asc (Txt.slice y lo hi):=fun lo hi=>slice_asc yA
  have lA:=l1 none (some pl)
  have lB:=l1 (some pl) none
  have lC:=l1 (some (pl+1)) none
  have ls:(⟨#[sg]⟩:Str).length=1:=rfl
  refine ⟨by decide,?_⟩
  split
  .exact ⟨y,rfl,by omega,_,_,rfl,rfl,by omega,y,rfl,by omega,_,_,rfl,rfl,by rw [PySem.Str.length_append];omega,_,_,_,_,rfl,rfl,ZBH (ZBH (a1 _ _) hsA) (a1 _ _),by rw [PySem.Str.length_append,PySem.Str.length_append];omega⟩
  refine ⟨by decide,?_⟩
  split
  .exact ⟨y,rfl,by omega,y,rfl,by omega,_,_,rfl,rfl,by omega,_,_,_,_,rfl,rfl,ZBH (a1 _ _) (a1 _ _),by rw [PySem.Str.length_append];omega⟩
  .exact ⟨y,rfl,by omega,_,_,rfl,rfl,by omega,y,rfl,by omega,_,_,rfl,rfl,by rw [PySem.Str.length_append];omega,_,_,_,_,rfl,rfl,ZBH (ZBH (a1 _ _) hsA) (a1 _ _),by rw [PySem.Str.length_append,PySem.Str.length_append];omega⟩
 obtain ⟨y,v2,v3,v4,rfl,rfl,yA,yz⟩:=z'
 rw [yAB] at yz
 have h8:2 ^ ms.length <= 8:=yAD (Nat.pow_le_pow_right (by decide) hms) (by decide)
 walk_at "rd"
 exact q y yA (by omega)
theorem ok_number {f:Addr} {fd:FuncData} (F:Fun K "_law_number" "_law_number" ZBz f fd) (T:Bt K mg C_KeyRule C_NearRule C_RingRule C_VoteRule C_ChainRule C_HallError C_NoRule C_NoPaper C_NoPlace C_NoKey C_NoRow C_NoOrder C_TooFar C_Spent A_ATS)
 :FnOk P w K mg base CX0 1 f fd ["_law_word"] (ZDX):=by
 refine F.ok sc_number (fun vs H Q E h=>?_) (fun cdv A outer s H vs Q E hr h=>?_)
 .obtain ⟨z,rfl,hA,hz,q⟩:=h
  rfl
 obtain ⟨z,rfl,hA,hz,q⟩:=h
 refine ⟨_,(ZAC (ZAV (i:=1) sc_number.nd rfl (by walk_at "o") (pv 0))
  (ZAC (ZAx (ZAG ZBA (ZAz ZBj (pv 0) ZBE (ZBD ZAF)) ZAp (ZAK _))
  (ZAE (ZAV (i:=1) sc_number.nd rfl (by walk_at "o") (ZAz ZBj (pv 0) (ZBD ZAF) ZBE))) ZAN)
  (ZAO
  (ZAC (ZAx (PW.pt (ZCw (ZAG ZBA (pv 1) ZAp (ZAK _)) (ZCw (ZAG ZDt (ZAP ZBB rfl T.b_len PySem.boot_len (ZAA (pv 1) ZAD)) ZAF (ZAK _)) (ZCV (PW.pt (ZCJ (ZAG ZBA (ZBF ix_str (pv 1) ZAF (fun _ _=>rfl)) ZAp (ZAK _)) (ZBo (ZAG ZDC (pv 0) ZAp (ZAK _)))))))))
  (ZAE (ZAL ZB0)) ZAN)
  (ZAO
  (ZAC (ZAV (i:=2) sc_number.nd rfl (by walk_at "o") ZAF)
  (ZAO
  (ZAC (ZCx PassesOwn.never rfl (pi_str (pv 1)) (ZA1 (i:=3) sc_number.nd rfl (by walk_at "o"))
  (ZAC (ZAx (ZAG op_notin_str (pv 3) ZAp rfl)
  (ZAE (ZAL ZB0)) ZAN)
  (ZAE (ZAV (i:=2) sc_number.nd rfl (by walk_at "o") (ZAQ ZCL (ZAQ op_mul ZAF (pv 2)) (ZCN PySem.F.plainAttrs_str PySem.F.slot_str_find PySem.F.type_str_find mt_find ZAp (ZAA (pv 3) ZAD)))))))
  (ZAO
  (ZAC (ZAx (ZAG ZDC (pv 1) (pv 0) (ZAK _))
  (ZAE (ZAL (ZAQ ZDJ ZAF (pv 2)))) ZAN)
  (ZAO
  (ZAE (ZAL (pv 2)))))))))))))),?_⟩
 walk_at "rd"
 apply ZDD (fun _:Unit=>[some (.str z),some (.str (figS z)),none,none]) (fun _=>H) (fun _=>True)
 .intro rest
  refine ⟨z,rfl,by omega,?_⟩
  by_cases h:z.cps.toList[0]?=some 45
  .rw [if_pos ((sl_first z).mpr h)]
   refine ⟨z,rfl,by omega,?_⟩
   rw [sl_one h]
   exact rest () trivial
  .rw [if_neg (fun e=>h ((sl_first z).mp e))]
   have r:=rest () trivial
   rw [ZCc h] at r
   exact r
 intro _ _
 refine ZAR ?_
 walk_at "rd"
 have bad:wrS z=false->Q .non H:=fun h=>by rw [h,if_neg yAH] at q;exact q
 have wE:wrS z=(decide (fig z.cps.toList≠[]) && decide ((fig z.cps.toList).length <= 60) && (fig z.cps.toList).all dgB && (decide (z.cps.toList=[48]) || !decide ((fig z.cps.toList)[0]?=some 48))):=rfl
 by_cases h0:figS z=Str.ofString ""
 .rw [if_pos h0]
  exact bad (by rw [wE,show fig z.cps.toList=[] from (ZB1 (z:=figS z) (L:=[]) rfl).mp h0];rfl)
 rw [if_neg h0]
 have hf0:fig z.cps.toList≠[]:=fun e=>h0 ((ZB1 (z:=figS z) (L:=[]) rfl).mpr e)
 have hfl:(figS z).length <= 100000:=yAD (fig_len z.cps.toList) hz
 refine ⟨_,rfl,by rw [sizeLine_eq];omega,?_⟩
 by_cases h60:60 < ((figS z).length:Int)
 .rw [if_pos h60]
  refine bad ?_
  rw [wE,decide_eq_false (show ¬ (fig z.cps.toList).length <= 60 from fun h=>by have:(figS z).length <= 60:=h;omega),Bool.and_false];rfl
 rw [if_neg h60]
 have h60'':(figS z).length <= 60:=by omega
 have h60':(fig z.cps.toList).length <= 60:=h60''
 obtain ⟨c0,r0,e0⟩:=List.exists_cons_of_ne_nil hf0
 refine ⟨figS z,0,c0,rfl,rfl,by rw [sizeLine_eq];omega,ZBJ (by decide) (by show (fig z.cps.toList)[0]?=_;rw [e0];rfl),?_⟩
 have eA:((⟨#[c0]⟩:Str)=Str.ofString "0")↔c0=48:=by
  rw [ZB1 (L:=[48]) (by decide)]
  exact ⟨fun h=>by cases h;rfl,fun h=>by rw [h]⟩
 have eB:(z=Str.ofString "0")↔z.cps.toList=[48]:=ZB1 (by decide)
 apply ZDD (fun _:Unit=>[some (.str z),some (.str (figS z)),none,none]) (fun _=>H) (fun _=>decide (z.cps.toList=[48]) || !decide ((fig z.cps.toList)[0]?=some 48))
 .intro rest
  walk_at "rd"
  by_cases h1:(⟨#[c0]⟩:Str)=Str.ofString "0"
  .rw [if_pos h1]
   by_cases h2:z=Str.ofString "0"
   .rw [if_neg (fun h=>h h2)]
    exact rest () (by rw [decide_eq_true (eB.mp h2)];rfl)
   .rw [if_pos h2]
    refine bad ?_
    rw [wE,decide_eq_false (fun h=>h2 (eB.mpr h)),e0,eA.mp h1,decide_eq_true (show (48::r0)[0]?=some 48 from rfl)]
    simp
  .rw [if_neg h1]
   exact rest () (by rw [e0,decide_eq_false (show ¬ (c0::r0)[0]?=some 48 from fun h=>h1 (eA.mpr (Option.some.inj h)))];simp)
 intro _ hL
 have hL:(decide (z.cps.toList=[48]) || !decide ((fig z.cps.toList)[0]?=some 48))=true:=hL
 refine ZAR ?_
 walk_at "rd"
 refine ZAR ?_
 walk_at "rd"
 refine forS_of (by rw [<- Array.all_toList];exact yAZ.mpr fun c hc=>decide_eq_true (hA c (fig_sub hc))) (fun i σ X=>∃ v3,σ=[some (.str z),some (.str (figS z)),some (.int (vlD ((fig z.cps.toList).take i))),v3] /\ X=H /\ ∀ c∈(fig z.cps.toList).take i,dgB c=true) ⟨_,rfl,rfl,fun c h=>by cases h⟩ (fun i c σ X hi hc z'=>?_) fun σ X z'=>?_
 .obtain ⟨v3,rfl,rfl,hd⟩:=z'
  have hc:(fig z.cps.toList)[i]?=some c:=hc
  walk_at "rd"
  refine ⟨_,_,rfl,rfl,?_⟩
  rw [in_figs2]
  by_cases hdc:dgB c=true
  .rw [hdc]
   walk_at "rd"
   refine ⟨.inl ⟨by decide,by decide⟩,rfl,_,_,rfl,rfl,?_⟩
   rw [find_dig (dgB_iff.mp hdc)]
   refine ⟨some (.str ⟨#[c]⟩),?_,fun d hd'=>?_⟩
   .rw [yAQ,hc,show (some c).toList=[c] from rfl,vl_snoc]
    push_cast
    rw [Int.mul_comm]
   .rw [yAQ,hc] at hd'
    rcases yAX.mp hd' with h | h
    .exact hd d h
    .rw [yBB.mp h];exact hdc
  .rw [(Bool.not_eq_true _).mp hdc]
   walk_at "rd"
   refine bad ?_
   have:(fig z.cps.toList).all dgB=false:=by
    rw [<- Bool.not_eq_true,yAZ]
    exact fun h=>hdc (h c (yAM hc))
   rw [wE,this,Bool.and_false];rfl
 obtain ⟨v3,rfl,rfl,hd⟩:=z'
 rw [yAV (show (fig z.cps.toList).length <= (figS z).length from yAA _)] at hd ⊢
 have hw:wrS z=true:=by
  rw [wE,decide_eq_true hf0,decide_eq_true h60',hL,yAZ.mpr hd];rfl
 rw [hw,if_pos rfl] at q
 walk_at "rd"
 refine ZAR ?_
 walk_at "rd"
 by_cases h1:figS z≠z
 .rw [if_pos h1]
  have e:wvS z=0-(vlD (fig z.cps.toList):Int):=by unfold wvS wv;rw [if_pos ((figS_ne z).mp h1)];omega
  rw [<- e]
  exact q
 .rw [if_neg h1]
  refine ZAR ?_
  walk_at "rd"
  have e:wvS z=(vlD (fig z.cps.toList):Int):=by unfold wvS wv;rw [if_neg (fun h=>h1 ((figS_ne z).mpr h))]
  rw [<- e]
  exact q
theorem ok_key {f:Addr} {fd:FuncData} (F:Fun K "_law_key" "_law_key" ZDO f fd) (T:Bt K mg C_KeyRule C_NearRule C_RingRule C_VoteRule C_ChainRule C_HallError C_NoRule C_NoPaper C_NoPlace C_NoKey C_NoRow C_NoOrder C_TooFar C_Spent A_ATS)
 :FnOk P w K mg base CX0 1 f fd ["_law_word"] (ZDY):=by
 refine F.ok sc_key (fun vs H Q E h=>?_) (fun cdv A outer s H vs Q E hr h=>?_)
 .obtain ⟨z,rfl,hz,q⟩:=h
  rfl
 obtain ⟨z,rfl,hz,q⟩:=h
 refine ⟨_,(ZAC (ZAx (PW.pt (ZCJ (ZAG ZBA (ZAP ZBB rfl T.b_len PySem.boot_len (ZAA (pv 0) ZAD)) ZAF (ZAK _)) (ZBo (ZAG op_in_str (pv 0) ZAp rfl))))
  (ZAE (ZAL (ZCN PySem.F.plainAttrs_str PySem.F.slot_str_find PySem.F.type_str_find mt_find ZAp (ZAA (pv 0) ZAD)))) ZAN)
  (ZAE (ZAL ZB0))),?_⟩
 walk_at "rd"
 rw [oV_key] at q
 refine ⟨z,rfl,by rw [sizeLine_eq];omega,?_⟩
 have e1:z.cps.toList.length=z.length:=by show _=Array.size _;simp
 by_cases hl:(z.length:Int)=1
 .rw [if_pos hl]
  obtain ⟨c,rfl⟩:∃ c,z=⟨#[c]⟩:=by
   rcases e:z.cps.toList with _ | ⟨c,_ | ⟨d,r⟩⟩
   .rw [e] at e1;simp at e1;omega
   .exact ⟨c,ZCQ (by rw [e])⟩
   .rw [e] at e1;simp at e1;omega
  refine ⟨_,_,rfl,rfl,?_⟩
  by_cases hc:48 <= c /\ c <= 55
  .rw [if_pos ((in_key c).mpr hc)]
   have hd:dK ⟨#[c]⟩=true:=dK_iff.mpr ⟨c,rfl,hc⟩
   rw [if_pos hd] at q
   refine ⟨rfl,_,_,rfl,rfl,?_⟩
   rw [find_key hc]
   exact q
  .rw [if_neg (fun h=>hc ((in_key c).mp h))]
   rw [if_neg (fun h=>by
    obtain ⟨d,e,h1⟩:=dK_iff.mp h
    have:c=d:=by have:=congrArg (fun s:Str=>s.cps.toList) e;simpa using this
    exact hc (this ▸ h1))] at q
   exact q
 .rw [if_neg hl]
  rw [if_neg (fun h=>by
   obtain ⟨d,e,h1⟩:=dK_iff.mp h
   exact hl (by rw [e];rfl))] at q
  exact q
theorem ok_plain_key {f:Addr} {fd:FuncData} (F:Fun K "_law_plain_key" "_law_plain_key" ZA7 f fd) (T:Bt K mg C_KeyRule C_NearRule C_RingRule C_VoteRule C_ChainRule C_HallError C_NoRule C_NoPaper C_NoPlace C_NoKey C_NoRow C_NoOrder C_TooFar C_Spent A_ATS)
  (f_number:Fn P w K mg base CX0 "_law_number" 1 ["_law_word"] (ZDX))
  (f_key:Fn P w K mg base CX0 "_law_key" 1 ["_law_word"] (ZDY))
 :FnOk P w K mg base CX0 2 f fd ["_law_text"] (ZDW):=by
 refine F.ok sc_plain_key (fun vs H Q E h=>?_) (fun cdv A outer s H vs Q E hr h=>?_)
 .obtain ⟨z,rfl,hA,hz,q⟩:=h
  rfl
 obtain ⟨z,rfl,hA,hz,q⟩:=h
 refine ⟨_,(ZAC (ZAV (i:=1) sc_plain_key.nd rfl (by walk_at "o") (ZCN PySem.F.plainAttrs_str PySem.F.slot_str_split PySem.F.type_str_split mt_split (pv 0) (ZBr ZAD)))
  (ZAC (ZAx (PW.pt (ZCJ (ZAG ZBA (ZAP ZA2 rfl T.b_len PySem.boot_len (ZAA (pv 1) ZAD)) ZAF (ZAK _)) (ZBo (PW.pt (ZCw (ZAG ZBA (ZBF ZAd (pv 1) ZAF (fun _ _=>rfl)) ZAp (ZAK _)) (ZCV (ZAG ZBA (ZBF ZAd (pv 1) ZAF (fun _ _=>rfl)) ZAp (ZAK _))))))))
  (ZAE (ZAL (ZAu f_key (hr.mono (by decide)) rfl ZAo (ZAA (ZBF ZAd (pv 1) ZAF (fun _ _=>rfl)) ZAD)))) ZAN)
  (ZAO
  (ZAC (ZAx (PW.pt (ZCw (ZAG ZDC (ZAP ZA2 rfl T.b_len PySem.boot_len (ZAA (pv 1) ZAD)) ZAF (ZAK _)) (ZCV (PW.pt (ZCJ (ZAG ZDC (ZBF ZAd (pv 1) ZAF (fun _ _=>rfl)) ZAp (ZAK _)) (ZBo (ZAG ZDC (ZBF ZAd (pv 1) ZAF (fun _ _=>rfl)) ZAp (ZAK _))))))))
  (ZAE (ZAL ZB0)) ZAN)
  (ZAO
  (ZAC (ZAV (i:=2) sc_plain_key.nd rfl (by walk_at "o") (ZAu f_number (hr.mono (by decide)) rfl ZAo (ZAA (ZBF ZAd (pv 1) ZAF (fun _ _=>rfl)) ZAD)))
  (ZAO
  (ZAC (ZAx (PW.pt (ZCw (ZAG ZDb (pv 2) ZB0 (ZAK _)) (ZCV (ZAG ZDQ (pv 2) (ZA9 call_int1 rfl T.b_int PyProof.Rows.boot_int (ZAA (ZCZ ZBA (ZBF ZAd (pv 1) ZAF (fun _ _=>rfl)) ZAp (ZAK _)) ZAD)) (ZAK _)))))
  (ZAE (ZAL ZB0)) ZAN)
  (ZAO
  (ZAE (ZAL (ZAu f_key (hr.mono (by decide)) rfl ZAo (ZAA (ZBF ZAd (pv 1) ZAF (fun _ _=>rfl)) ZAD))))))))))))),?_⟩
 walk_at "rd"
 refine ⟨rfl,_,32,rfl,rfl,by omega,fun p hp=>?_⟩
 rw [show Txt.split z ⟨#[32]⟩=wordsOf z from rfl]
 rw [show pkey z=pkW (wordsOf z) from rfl] at q
 have hwA:∀ w∈wordsOf z,Asc w /\ w.length <= 94000:=fun w hw=>⟨hA.split hw,by have:=join_mem_le ⟨#[32]⟩ _ _ hw;rw [show Str.join ⟨#[32]⟩ (wordsOf z)=z from StrLaws.join_split z _] at this;omega⟩
 generalize wordsOf z=ws at q hwA ⊢
 obtain ⟨H1,e1,s1,h1⟩:=newH hp (.lst (ws.map V.str))
 rw [e1];clear e1
 have q:=fun H' (s:Same H1 H')=>q H' (s1.trans s)
 by_cases n2:ws.length=2
 .obtain ⟨w0,w1,rfl⟩:∃ w0 w1,ws=[w0,w1]:=by
   rcases ws with _ | ⟨w0,_ | ⟨w1,_ | ⟨w2,r⟩⟩⟩
   .cases n2
   .cases n2
   .exact ⟨w0,w1,rfl⟩
   .simp at n2
  have i0:atI ([w0,w1].map V.str) 0=some (.str w0):=ZBJ (by decide) rfl
  have i1:atI ([w0,w1].map V.str) 1=some (.str w1):=ZBJ (by decide) rfl
  have hl2:(((List.map V.str [w0,w1]).length:Nat):Int)=2:=rfl
  obtain ⟨_,L1⟩:=hwA w1 (by simp)
  have fin:isUD w0=true->Q (oV (keyW w1)) H1:=fun hu=>by
   have:=q H1 (.refl _)
   rw [show pkW [w0,w1]=keyW w1 by unfold pkW;rw [if_pos ⟨rfl,hu⟩];rfl] at this
   exact this
  refine ⟨p,_,rfl,.inl (SqL.of h1),?_⟩
  rw [if_pos hl2]
  refine ZAm (SqL.of h1) i0 ?_
  walk_at "rd"
  by_cases k0:w0=Str.ofString "up"
  .rw [if_pos k0]
   exact ZAm (SqL.of h1) i1 ⟨w1,rfl,by omega,fin (by unfold isUD;rw [decide_eq_true k0];rfl)⟩
  rw [if_neg k0]
  refine ZAm (SqL.of h1) i0 ?_
  walk_at "rd"
  by_cases k1:w0=Str.ofString "down"
  .rw [if_pos k1]
   exact ZAm (SqL.of h1) i1 ⟨w1,rfl,by omega,fin (by unfold isUD;rw [decide_eq_true k1,Bool.or_true])⟩
  rw [if_neg k1]
  refine ZAR ?_
  walk_at "rd"
  refine ⟨p,_,rfl,.inl (SqL.of h1),?_⟩
  rw [hl2,if_pos (by decide)]
  have:=q H1 (.refl _)
  rw [pk_two_no (show isUD w0=false by unfold isUD;rw [decide_eq_false k0,decide_eq_false k1];rfl)] at this
  exact this
 have hl2:¬ (((List.map V.str ws).length:Nat):Int)=2:=by rw [yAB];omega
 refine ⟨p,_,rfl,.inl (SqL.of h1),?_⟩
 rw [if_neg hl2]
 refine ZAR ?_
 walk_at "rd"
 refine ⟨p,_,rfl,.inl (SqL.of h1),?_⟩
 by_cases n3:ws.length=3
 .obtain ⟨w0,w1,w2,rfl⟩:∃ w0 w1 w2,ws=[w0,w1,w2]:=by
   rcases ws with _ | ⟨w0,_ | ⟨w1,_ | ⟨w2,_ | ⟨w3,r⟩⟩⟩⟩
   .cases n3
   .cases n3
   .cases n3
   .exact ⟨w0,w1,w2,rfl⟩
   .simp at n3
  have i0:atI ([w0,w1,w2].map V.str) 0=some (.str w0):=ZBJ (by decide) rfl
  have i1:atI ([w0,w1,w2].map V.str) 1=some (.str w1):=ZBJ (by decide) rfl
  have i2:atI ([w0,w1,w2].map V.str) 2=some (.str w2):=ZBJ (by decide) rfl
  have hl3:(((List.map V.str [w0,w1,w2]).length:Nat):Int)=3:=rfl
  obtain ⟨A2,L2'⟩:=hwA w2 (by simp)
  obtain ⟨_,L1⟩:=hwA w1 (by simp)
  rw [if_neg (fun z=>z hl3)]
  have qno:¬ ((w0=Str.ofString "near" /\ wrS w2=true /\ 0 <= wvS w2)∨(w0=Str.ofString "ring" /\ wrS w2=true /\ 1 <= wvS w2))->Q .non H1:=fun h=>by
   have:=q H1 (.refl _)
   rw [ZA8 h] at this
   exact this
  have qyes:((w0=Str.ofString "near" /\ wrS w2=true /\ 0 <= wvS w2)∨(w0=Str.ofString "ring" /\ wrS w2=true /\ 1 <= wvS w2))->Q (oV (keyW w1)) H1:=fun h=>by
   have:=q H1 (.refl _)
   rw [show pkW [w0,w1,w2]=keyW w1 by unfold pkW;rw [if_neg (fun z=>by cases z.1),if_pos ⟨rfl,h⟩];rfl] at this
   exact this
  refine ZAm (SqL.of h1) i0 ?_
  walk_at "rd"
  apply ZDD (fun _:Unit=>[some (.str z),some (.ref p),none]) (fun _=>H1) (fun _=>w0=Str.ofString "near"∨w0=Str.ofString "ring")
  .intro rest
   by_cases k0:w0=Str.ofString "near"
   .rw [if_neg (fun z=>z k0)]
    exact rest () (.inl k0)
   rw [if_pos k0]
   refine ZAm (SqL.of h1) i0 ?_
   walk_at "rd"
   by_cases k1:w0=Str.ofString "ring"
   .rw [if_neg (fun z=>z k1)]
    exact rest () (.inr k1)
   rw [if_pos k1]
   exact qno fun z=>z.elim (fun y=>k0 y.1) fun y=>k1 y.1
  intro _ hnr
  refine ZAR ?_
  walk_at "rd"
  refine ZAm (SqL.of h1) i2 ⟨w2,rfl,A2,by omega,?_⟩
  cases hw:wrS w2
  .rw [if_neg (by decide)]
   refine ZAR ?_
   walk_at "rd"
   exact qno fun z=>by rcases z with ⟨_,z,_⟩ | ⟨_,z,_⟩ <;> (rw [hw] at z;cases z)
  rw [if_pos rfl]
  refine ZAR ?_
  walk_at "rd"
  rw [if_neg (show ¬ (V.int (wvS w2)=.non) from fun z=>by cases z)]
  refine ZAm (SqL.of h1) i0 ?_
  walk_at "rd"
  refine .inr ⟨_,rfl,?_⟩
  walk_at "rd"
  by_cases k1:w0=Str.ofString "ring"
  .rw [if_pos k1]
   by_cases hg:wvS w2 < 1
   .rw [if_pos hg]
    exact qno fun z=>by
     rcases z with ⟨z,_⟩ | ⟨_,_,z⟩
     .exact near_ring (z.symm.trans k1)
     .omega
   rw [if_neg hg]
   refine ZAR ?_
   walk_at "rd"
   exact ZAm (SqL.of h1) i1 ⟨w1,rfl,by omega,qyes (.inr ⟨k1,hw,by omega⟩)⟩
  .have k0:w0=Str.ofString "near":=hnr.elim id fun z=>absurd z k1
   rw [if_neg k1]
   by_cases hg:wvS w2 < 0
   .rw [if_pos hg]
    exact qno fun z=>by
     rcases z with ⟨_,_,z⟩ | ⟨z,_⟩
     .omega
     .exact k1 z
   rw [if_neg hg]
   refine ZAR ?_
   walk_at "rd"
   exact ZAm (SqL.of h1) i1 ⟨w1,rfl,by omega,qyes (.inl ⟨k0,hw,by omega⟩)⟩
 have hl3:¬ (((List.map V.str ws).length:Nat):Int)=3:=by rw [yAB];omega
 rw [if_pos hl3]
 have:=q H1 (.refl _)
 rw [pk_len n2 n3] at this
 exact this
theorem ok_widest {f:Addr} {fd:FuncData} (F:Fun K "_law_widest" "_law_widest" ZBy f fd) (T:Bt K mg C_KeyRule C_NearRule C_RingRule C_VoteRule C_ChainRule C_HallError C_NoRule C_NoPaper C_NoPlace C_NoKey C_NoRow C_NoOrder C_TooFar C_Spent A_ATS)
  (f_plain_key:Fn P w K mg base CX0 "_law_plain_key" 2 ["_law_text"] (ZDW))
 :FnOk P w K mg base CX0 3 f fd ["_law_text"] (ZDV):=by
 refine F.ok sc_widest (fun vs H Q E h=>?_) (fun cdv A outer s H vs Q E hr h=>?_)
 .obtain ⟨z,rfl,hA,hz,q⟩:=h
  rfl
 obtain ⟨z,rfl,hA,hz,q⟩:=h
 refine ⟨_,(ZAC (ZAV (i:=1) sc_widest.nd rfl (by walk_at "o") (ZDj ZDF ZAF))
  (ZAC (ZAx (ZAG ZBA (pv 0) ZAp (ZAK _))
  (ZAE (ZAL (pv 1))) ZAN)
  (ZAC (ZCx PassesOwn.never rfl (ZBd (ZCN PySem.F.plainAttrs_str PySem.F.slot_str_split PySem.F.type_str_split ZB7 (pv 0) (ZBr ZAD))) (ZA1 (i:=2) sc_widest.nd rfl (by walk_at "o"))
  (ZAC (ZAV (i:=3) sc_widest.nd rfl (by walk_at "o") (ZBI (ZAA (pv 2) ZAD)))
  (ZAC (ZAx (ZAG ZBA (ZAz ZBj (pv 2) ZBE (ZBD ZAF)) ZAp (ZAK _))
  (ZAE (ZAV (i:=3) sc_widest.nd rfl (by walk_at "o") (ZCN PySem.F.plainAttrs_str PySem.F.slot_str_split PySem.F.type_str_split ZB7 (ZAz ZBj (pv 2) (ZBD ZAF) ZBE) (ZBr ZAD)))) ZAN)
   (ZAO
  (ZAE (ZCx PassesOwn.never rfl (ZBd (pv 3)) (ZA1 (i:=4) sc_widest.nd rfl (by walk_at "o"))
  (ZAC (ZAV (i:=5) sc_widest.nd rfl (by walk_at "o") (ZAu f_plain_key (hr.mono (by decide)) rfl ZAo (ZAA (pv 4) ZAD)))
  (ZAC (ZAx (ZAG ZDb (pv 5) ZB0 (ZAK _))
  (ZAE (ZAL ZB0)) ZAN)
  (ZAE (ZAV (i:=1) sc_widest.nd rfl (by walk_at "o") (ZAP (call_max2 rfl) rfl T.b_max PyProof.Rows.boot_max (ZAA (pv 1) (ZAA (pv 5) ZAD)))))))))))))
  (ZAE (ZAL (pv 1)))))),?_⟩
 walk_at "rd"
 by_cases h0:z=Str.ofString ""
 .rw [if_pos h0]
  have hp0:partsT z=[]:=by unfold partsT;rw [if_pos h0]
  have:=q H (.refl _)
  rw [show gdZ z=true by unfold gdZ;rw [hp0];rfl,if_pos rfl,show wdZ z=-1 by unfold wdZ;rw [hp0];rfl] at this
  exact this
 rw [if_neg h0]
 have hpl:partsT z=Txt.split z (Str.ofString ", "):=by unfold partsT;rw [if_neg h0]
 have hlen:=partsT_len z
 have hsub:∀ l∈partsT z,Asc l /\ l.length <= z.length:=fun l hl=>partsT_sub hA hl
 rw [show gdZ z=(partsT z).all gdP from rfl,show wdZ z=wZ ((partsT z).map plT) by rw [wZ_eq,List.map_map];rfl] at q
 refine ⟨rfl,_,_,rfl,rfl,rfl,by omega,fun l hl=>?_⟩
 rw [<- hpl]
 generalize partsT z=ls at hlen hsub q ⊢
 clear hpl
 obtain ⟨H1,e1,s1,h1⟩:=newH hl (.lst (ls.map V.str))
 rw [e1];clear e1
 refine ZCu (SqL.of h1) (fun i σ X=>∃ v2 v3 v4 v5,σ=[some (.str z),some (.int (wZ ((ls.take i).map plT))),v2,v3,v4,v5] /\ Same H1 X /\ (ls.take i).all gdP=true) ⟨_,_,_,_,rfl,.refl _,rfl⟩ (fun i σ X _ z=>?_) (fun i u σ X hu z'=>?_) fun σ X z'=>?_
 .obtain ⟨_,_,_,_,_,e,_⟩:=z
  exact SqL.of (e _ _ h1)
 .obtain ⟨v2,v3,v4,v5,rfl,sX,hg⟩:=z'
  rw [yAY] at hu
  obtain ⟨t,ht,rfl⟩:=yBL.mp hu
  obtain ⟨tA,tL⟩:=hsub t (yAM ht)
  have hpt:plT t=if Txt.slice t none (some 6)=Str.ofString "votes " then Txt.split (Txt.slice t (some 6) none) (Str.ofString " | ") else [t]:=by
   unfold plT
   by_cases hs:Txt.startswith t (Str.ofString "votes ")=true
   .rw [if_pos hs,if_pos ((sl_six t).mpr hs)]
   .rw [if_neg hs,if_neg (fun z=>hs ((sl_six t).mp z))]
  have hpn:=ZC9 t
  have hps:∀ l∈plT t,Asc l /\ l.length <= t.length:=fun l hl=>plT_sub tA hl
  have hsl:=ZBW t (some 6) none
  walk_at "rd"
  refine ⟨ZAM (by decide),fun p2 hp2=>?_⟩
  obtain ⟨X1,e1,t1,g1⟩:=newH hp2 (.lst [V.str t])
  rw [e1];clear e1
  apply ZDD (fun w:Hp×Addr=>[some (.str z),some (.int (wZ ((ls.take i).map plT))),some (.str t),some (.ref w.2),v4,v5]) (fun w=>w.1) (fun w=>Same H1 w.1 /\ w.1 w.2=some (.lst ((plT t).map V.str)))
  .intro rest
   refine ⟨t,rfl,by omega,?_⟩
   by_cases hs:Txt.slice t none (some 6)=Str.ofString "votes "
   .rw [if_pos hs] at hpt ⊢
    refine ⟨t,rfl,by omega,rfl,_,_,rfl,rfl,rfl,by omega,fun p3 hp3=>rest (upd X1 p3 (.lst ((Txt.split (Txt.slice t (some 6) none) (Str.ofString " | ")).map V.str)),p3) ⟨sX.trans (t1.trans (ZAi hp3 _)),(show upd X1 p3 (.lst ((Txt.split (Txt.slice t (some 6) none) (Str.ofString " | ")).map V.str)) p3=some (.lst ((plT t).map V.str)) by rw [ZAI,hpt])⟩⟩
   .rw [if_neg hs] at hpt ⊢
    exact rest (X1,p2) ⟨sX.trans t1,by rw [hpt];exact g1⟩
  intro w hw
  obtain ⟨sW,hw2⟩:=hw
  refine ZAR ?_
  walk_at "rd"
  clear hpt hsl
  have hgt:gdP t=(plT t).all gd:=rfl
  have hnx:wZ ((ls.take (i+1)).map plT)=((plT t).map kvL).foldl fm (wZ ((ls.take i).map plT)):=by unfold wZ;rw [yAQ,ht,yAL,List.foldl_append];rfl
  have hgx:(ls.take (i+1)).all gdP=gdP t:=by rw [yAQ,ht,List.all_append,hg];show (true && [t].all gdP)=_;simp
  have hbad:gdP t=false->∀ H',Same H1 H'->Q .non H':=fun hb H' s=>by
   have:=q H' (s1.trans s)
   rw [if_neg (fun z=>by have:=yAZ.mp z t (yAM ht);rw [hb] at this;cases this)] at this
   exact this
  rw [hgt] at hgx hbad
  generalize plT t=pl at hpn hps hw2 hnx hgx hbad ⊢
  refine ZCu (SqL.of hw2) (fun j σ Y=>∃ v4 v5,σ=[some (.str z),some (.int (((pl.take j).map kvL).foldl fm (wZ ((ls.take i).map plT)))),some (.str t),some (.ref w.2),v4,v5] /\ Same w.1 Y /\ (pl.take j).all gd=true) ⟨_,_,rfl,.refl _,rfl⟩ (fun j σ Y _ z=>?_) (fun j u σ Y hu z'=>?_) fun σ Y z'=>?_
  .obtain ⟨_,_,_,e,_⟩:=z
   exact SqL.of (e _ _ hw2)
  .obtain ⟨v4,v5,rfl,sY,hgj⟩:=z'
   rw [yAY] at hu
   obtain ⟨l',hl',rfl⟩:=yBL.mp hu
   obtain ⟨a1,a2⟩:=hps l' (yAM hl')
   walk_at "rd"
   refine ⟨l',rfl,a1,by omega,fun Y2 s2=>?_⟩
   cases hk:pkey l' with
   | none=>
    have hno:pl.all gd=false:=Bool.eq_false_iff.mpr fun z=>by have:=yAZ.mp z l' (yAM hl');rw [ZDx hk] at this;cases this
    walk_at "rd"
    rw [if_pos (show oV none=.non from rfl)]
    exact hbad hno _ (sW.trans (sY.trans s2))
   | some k=>
    obtain ⟨g1',g2'⟩:=ZDc hk
    walk_at "rd"
    rw [if_neg (show ¬ oV (some k)=.non from fun z=>by cases z)]
    have eF:((pl.take (j+1)).map kvL).foldl fm (wZ ((ls.take i).map plT))=fm (((pl.take j).map kvL).foldl fm (wZ ((ls.take i).map plT))) k:=by
     rw [yAQ,hl',yAL,List.foldl_append]
     show fm _ (kvL l')=_
     rw [g2']
    have eG:(pl.take (j+1)).all gd=true:=by
     rw [yAQ,hl',List.all_append,hgj]
     show (true && [l'].all gd)=true
     rw [yBG,g1'];rfl
    rw [eF]
    exact ⟨_,_,rfl,_,_,rfl,sY.trans s2,eG⟩
  .obtain ⟨v4,v5,rfl,sY,hgj⟩:=z'
   rw [yAB,yAV (yAA _)] at hgj
   rw [yAB,yAV (yAA _)]
   rw [hnx]
   exact ⟨_,_,_,_,rfl,sW.trans sY,by rw [hgx];exact hgj⟩
 .obtain ⟨v2,v3,v4,v5,rfl,sX,hg⟩:=z'
  rw [yAB,yAV (yAA _)] at hg
  rw [yAB,yAV (yAA _)]
  walk_at "rd"
  have:=q _ (s1.trans sX)
  rw [if_pos hg] at this
  exact this
theorem ok_refused {f:Addr} {fd:FuncData} (F:Fun K "_law_refused" "_law_refused" ZBY f fd) (T:Bt K mg C_KeyRule C_NearRule C_RingRule C_VoteRule C_ChainRule C_HallError C_NoRule C_NoPaper C_NoPlace C_NoKey C_NoRow C_NoOrder C_TooFar C_Spent A_ATS)
  (f_read_rule:Fn P w K mg base (CXE P w) "read_rule" 7 ["text"] (ZBN K C_KeyRule C_NearRule C_RingRule C_VoteRule C_ChainRule C_NoRule))
 :FnOk P w K mg base CX0 8 f fd ["_law_text"] (ZCj):=by
 refine F.ok sc_refused (fun vs H Q E h=>?_) (fun cdv A outer s H vs Q E hr h=>?_)
 .obtain ⟨v,rfl,hv,q⟩:=h
  rfl
 obtain ⟨v,rfl,hv,q⟩:=h
 refine ⟨_,(ZAC (ZAV (i:=1) sc_refused.nd rfl (by walk_at "o") (ZBI ZAD))
  (ZAC (ps_try (i:=2) ⟨rfl,rfl⟩ rfl rfl T.m_HallError sc_refused.nd rfl rfl (fun pn xe E hp=>
  (ZAE (ZCX (pe_fnS f_read_rule (hr.mono (by decide)) rfl hp (ZAA (pv 0) ZAD))))) (fun e=>
  (ZAC (ZAV (i:=1) sc_refused.nd rfl (by walk_at "o") (ZBI (ZAA (ZAP (ZAr K) rfl T.b_isinstance PyProof.Rows.boot_isinstance (ZAA (pv 2) (ZAA (ZDI rfl T.b_ValueError L2.boot_ValueError) ZAD))) (ZAA (ZAP (ZAr K) rfl T.b_isinstance PyProof.Rows.boot_isinstance (ZAA (pv 2) (ZAA (ZBe rfl T.m_NoRule) ZAD))) (ZAA (ZAP (ZAr K) rfl T.b_isinstance PyProof.Rows.boot_isinstance (ZAA (pv 2) (ZAA (ZBe rfl T.m_NoRow) ZAD))) (ZAA (ZAP (ZAr K) rfl T.b_isinstance PyProof.Rows.boot_isinstance (ZAA (pv 2) (ZAA (ZBe rfl T.m_NoPlace) ZAD))) ZAD))))))
  (ZAC (ZAV (i:=1) sc_refused.nd rfl (by walk_at "o") (ZAQ ZC0 (pv 1) (ZBI (ZAA (ZAP (ZAr K) rfl T.b_isinstance PyProof.Rows.boot_isinstance (ZAA (pv 2) (ZAA (ZBe rfl T.m_NoKey) ZAD))) (ZAA (ZAP (ZAr K) rfl T.b_isinstance PyProof.Rows.boot_isinstance (ZAA (pv 2) (ZAA (ZBe rfl T.m_NoPaper) ZAD))) (ZAA (ZAP (ZAr K) rfl T.b_isinstance PyProof.Rows.boot_isinstance (ZAA (pv 2) (ZAA (ZBe rfl T.m_NoOrder) ZAD))) ZAD))))))
  (ZAE (ZAV (i:=1) sc_refused.nd rfl (by walk_at "o") (ZAQ ZC0 (pv 1) (ZBI (ZAA (ZAP (ZAr K) rfl T.b_isinstance PyProof.Rows.boot_isinstance (ZAA (pv 2) (ZAA (ZBe rfl T.m_TooFar) ZAD))) (ZAA (ZAP (ZAr K) rfl T.b_isinstance PyProof.Rows.boot_isinstance (ZAA (pv 2) (ZAA (ZBe rfl T.m_Spent) ZAD))) ZAD))))))))))
  (ZAE (ZAL (ZCZ (op_eqD hr.units) (pv 1) (ZBI (ZAA ZCF (ZAA ZCF (ZAA ZCF (ZAA ZCF (ZAA ZCF (ZAA ZCF (ZAA ZCF (ZAA ZCF (ZAA ZCF ZAD)))))))))) (ZAK _)))))),?_⟩
 walk_at "rd"
 refine ⟨ZAM (by decide),fun p hp=>?_⟩
 obtain ⟨H1,e1,s1,h1⟩:=newH hp (.lst [])
 rw [e1];clear e1
 refine refu_of s1 hv fun H' s'=>?_
 refine ⟨T.xm_NoRule_HallError,fun ea hea=>?_⟩
 obtain ⟨H2,e2,s2,h2⟩:=newH hea (excO ea (.ref C_NoRule) none)
 rw [e2];clear e2
 have S2:=s1.trans (s'.trans s2)
 clear s1 s' s2 hea h1
 walk_at "rd"
 refine ZCq h2 T.xc_NoRule T.xd_NoRule T.kit_NoRule_ValueError rfl ?_
 refine ZCq h2 T.xc_NoRule T.xd_NoRule T.kit_NoRule_NoRule rfl ?_
 refine ZCq h2 T.xc_NoRule T.xd_NoRule T.kit_NoRule_NoRow rfl ?_
 refine ZCq h2 T.xc_NoRule T.xd_NoRule T.kit_NoRule_NoPlace rfl ?_
 refine ⟨ZAM (by decide),fun p1 hp1=>?_⟩
 obtain ⟨H3,e3,s3,h3⟩:=newH hp1 (.lst [.bl true,.bl true,.bl false,.bl false])
 rw [e3];clear e3
 have h2:=s3 _ _ h2
 refine ZCq h2 T.xc_NoRule T.xd_NoRule T.kit_NoRule_NoKey rfl ?_
 refine ZCq h2 T.xc_NoRule T.xd_NoRule T.kit_NoRule_NoPaper rfl ?_
 refine ZCq h2 T.xc_NoRule T.xd_NoRule T.kit_NoRule_NoOrder rfl ?_
 refine ⟨ZAM (by decide),fun p2 hp2=>?_⟩
 obtain ⟨H4,e4,s4,h4⟩:=newH hp2 (.lst [.bl false,.bl false,.bl false])
 rw [e4];clear e4
 refine ⟨p1,p2,_,_,rfl,rfl,s4 _ _ h3,h4,ZAM (by decide),fun p3 hp3=>?_⟩
 obtain ⟨H5,e5,s5,h5⟩:=newH hp3 (.lst [.bl true,.bl true,.bl false,.bl false,.bl false,.bl false,.bl false])
 rw [show upd H4 p3 (HO.lst ([V.bl true,V.bl true,V.bl false,V.bl false]++[V.bl false,V.bl false,V.bl false]))=H5 from e5];clear e5
 have h2:=s5 _ _ (s4 _ _ h2)
 refine ZCq h2 T.xc_NoRule T.xd_NoRule T.kit_NoRule_TooFar rfl ?_
 refine ZCq h2 T.xc_NoRule T.xd_NoRule T.kit_NoRule_Spent rfl ?_
 refine ⟨ZAM (by decide),fun p4 hp4=>?_⟩
 obtain ⟨H6,e6,s6,h6⟩:=newH hp4 (.lst [.bl false,.bl false])
 rw [e6];clear e6
 refine ⟨p3,p4,_,_,rfl,rfl,s6 _ _ h5,h6,ZAM (by decide),fun p5 hp5=>?_⟩
 obtain ⟨H7,e7,s7,h7⟩:=newH hp5 (.lst ([true,true,false,false,false,false,false,false,false].map V.bl))
 rw [show upd H6 p5 (HO.lst ([V.bl true,V.bl true,V.bl false,V.bl false,V.bl false,V.bl false,V.bl false]++[V.bl false,V.bl false]))=H7 from e7];clear e7
 refine ⟨ZAM (by decide),fun p6 hp6=>?_⟩
 obtain ⟨H8,e8,s8,h8⟩:=newH hp6 (.lst ([true,true,false,false,false,false,false,false,false].map V.bl))
 rw [show upd H7 p6 (HO.lst [V.bl true,V.bl true,V.bl false,V.bl false,V.bl false,V.bl false,V.bl false,V.bl false,V.bl false])=H8 from e8];clear e8
 have S8:=S2.trans (s3.trans (s4.trans (s5.trans (s6.trans (s7.trans s8)))))
 refine eqD_of Enc.bl.list (by decide) (a:=[true,true,false,false,false,false,false,false,false]) (b:=[true,true,false,false,false,false,false,false,false]) (dp_lst (SqL.of (s8 _ _ h7)) (ZDd _)) (dp_lst (SqL.of h8) (ZDd _)) ?_
 exact q _ S8
theorem ok_law {f:Addr} {fd:FuncData} (F:Fun K "law" "law" ZCm f fd) (T:Bt K mg C_KeyRule C_NearRule C_RingRule C_VoteRule C_ChainRule C_HallError C_NoRule C_NoPaper C_NoPlace C_NoKey C_NoRow C_NoOrder C_TooFar C_Spent A_ATS)
  (f_spoiled:Fn P w K mg base CX0 "_law_spoiled" 1 ["_law_text","_law_cells"] (ZCR))
  (f_widest:Fn P w K mg base CX0 "_law_widest" 3 ["_law_text"] (ZDV))
  (f_part:Fn P w K mg base CX0 "_law_part" 2 ["_law_cell"] (ZCk))
  (f_cell_at:Fn P w K mg base CX0 "_law_cell_at" 1 ["_law_script","_law_k"] (ZDZ K))
  (f_odd:Fn P w K mg base CX0 "_law_odd" 1 ["_law_cell"] (ZBm))
  (f_refused:Fn P w K mg base CX0 "_law_refused" 8 ["_law_text"] (ZCj))
  (f_whole:Fn P w K mg base CX0 "_law_whole" 1 ["_law_found"] (ZCB))
  (f_read_rule:Fn P w K mg base (CXE P w) "read_rule" 7 ["text"] (ZBN K C_KeyRule C_NearRule C_RingRule C_VoteRule C_ChainRule C_NoRule))
  (t_ChainRule_widest:Mt P w K mg base CX0 C_ChainRule "widest" 5 ["self"] (ZC7 K C_KeyRule C_NearRule C_RingRule C_VoteRule C_ChainRule))
 :FnOk P w K mg base CX0 9 f fd ["_law_script"] (ZDh K):=by
 refine F.ok sc_law (fun vs H Q E h=>?_) (fun cdv A outer s H vs Q E hr h=>?_)
 .obtain ⟨a,ns,rfl,hS,h63,q⟩:=h
  rfl
 obtain ⟨a,ns,rfl,hS,h63,q⟩:=h
 refine ⟨_,(ZAC (ps_setComp (i:=1) sc_law.nd rfl (Or.inl rfl) rfl (k:=1) (js:=[0]) (N':=["_law_k","_law_script"]) (by rfl) (pi_range1 rfl T.b_range (ZAA (ZAQ ZCL ZAF (ZAQ ZA3 (ZAu f_cell_at (hr.mono (by decide)) rfl ZAo (ZAA (pv 0) (ZAA ZAF ZAD))) ZAF)) ZAD)) (fun _ _ _ _=>ZA1 (i:=0) (show (["_law_k","_law_script"]:List Str).Nodup by decide +kernel) rfl (by walk_at "o")) (fun _ _ _ _=>ZBQ) (fun _ _ _ _=>(ZAu f_part (hr.mono (by decide)) rfl ZAo (ZAA (ZAu f_cell_at (hr.mono (by decide)) rfl ZAo (ZAA (pv 1) (ZAA (ZAQ ZCL ZAF (pv 0)) ZAD))) ZAD))))
  (ZAO
  (ZAC (ZAV (i:=2) sc_law.nd rfl (by walk_at "o") (ZCN PySem.F.plainAttrs_str PySem.F.slot_str_join PySem.F.type_str_join mt_join ZAp (ZAA (pv 1) ZAD)))
  (ZAO
  (ZAC (ZAV (i:=3) sc_law.nd rfl (by walk_at "o") (ZAQ ZA3 (ZAu f_cell_at (hr.mono (by decide)) rfl ZAo (ZAA (pv 0) (ZAA ZAF ZAD))) ZAF))
  (ZAO
  (ZAC (ZAV (i:=2) sc_law.nd rfl (by walk_at "o") (ZAu f_spoiled (hr.mono (by decide)) rfl ZAo (ZAA (pv 2) (ZAA (ZCY rfl (k:=1) (js:=[0]) (N':=["_law_k","_law_script"]) (by rfl) (pi_range1 rfl T.b_range (ZAA (pv 3) ZAD)) (fun _ _ _ _=>ZA1 (i:=0) (show (["_law_k","_law_script"]:List Str).Nodup by decide +kernel) rfl (by walk_at "o")) (fun _ _ _ _=>ZBQ) (fun _ _ _ _=>(ZAu f_cell_at (hr.mono (by decide)) rfl ZAo (ZAA (pv 1) (ZAA (ZAQ ZCL ZAF (pv 0)) ZAD))))) ZAD))))
  (ZAO
  (ZAC (ZAx (ZAG ZBA (ZAQ ZA3 (ZAQ ZBS (ZAu f_cell_at (hr.mono (by decide)) rfl ZAo (ZAA (pv 0) (ZAA ZAF ZAD))) ZAF) ZAF) ZAF (ZAK _))
  (ZAE (ZAV (i:=2) sc_law.nd rfl (by walk_at "o") (ZAu f_odd (hr.mono (by decide)) rfl ZAo (ZAA (ZAu f_cell_at (hr.mono (by decide)) rfl ZAo (ZAA (pv 0) (ZAA ZAF ZAD))) ZAD)))) ZAN)
  (ZAO
  (ZAC (ZAx (ZDG (ZCe (ZAu f_refused (hr.mono (by decide)) rfl ZAo (ZAA (ZBF ZAd (ZBI (ZAA ZB0 (ZAA ZAF (ZAA (ZBI (ZBr ZAD)) (ZAA ZCF (ZAA (pe_tup (ZBr (ZAA ZAF ZAD))) ZAD)))))) (ZAQ ZA3 (ZAQ ZBS (ZAu f_cell_at (hr.mono (by decide)) rfl ZAo (ZAA (pv 0) (ZAA ZAF ZAD))) ZAF) ZAF) (fun _ _=>rfl)) ZAD))))
  (ZAE (ZAL ZCF)) ZAN)
  (ZAO
  (ZAC (ZAV (i:=4) sc_law.nd rfl (by walk_at "o") (ZAu f_widest (hr.mono (by decide)) rfl ZAo (ZAA (pv 2) ZAD)))
  (ZAO
  (ZAC (ZAx (ZAG ZDb (pv 4) ZB0 (ZAK _))
  (ZAE (ZAL (ZAu f_refused (hr.mono (by decide)) rfl ZAo (ZAA (pv 2) ZAD)))) ZAN)
  (ZAO
  (ZAC (ZAV (i:=5) sc_law.nd rfl (by walk_at "o") (ZCK t_ChainRule_widest (hr.mono (by decide)) ZAo (ZAu f_read_rule (hr.mono (by decide)) rfl passE (ZAA (pv 2) ZAD))))
  (ZAO
  (ZAE (ZAL (pe_and (ZAu f_whole (hr.mono (by decide)) rfl ZAo (ZAA (pv 5) ZAD)) (ZDa (ZCZ ZBA (pv 5) (pv 4) (ZAK _)))))))))))))))))))))))),?_⟩
 walk_at "rd"
 refine ⟨a,ns,0,rfl,hS,by decide,?_⟩
 walk_at "rd"
 refine ⟨by decide,?_⟩
 have hc3:0 <= cellOf ns 0 % 3 /\ cellOf ns 0 % 3 < 3:=by omega
 refine compR1_of (by omega) (fun j ys σ Y=>∃ v zs,σ=[v,some (.ref a)] /\ Same H Y /\ ys=List.map V.str zs /\ Tl zs j (j * 830)) ⟨_,[],rfl,.refl _,rfl,by rw [Nat.zero_mul];exact Tl.nil⟩ (fun j ys σ Y z=>?_) (fun j ys σ Y hj z=>?_) fun ys σ Y z p hp=>?_
 .obtain ⟨v,zs,_,_,e,e2⟩:=z
  rw [e,yAB,e2.len];exact yAA _
 .obtain ⟨v,zs,rfl,sY,rfl,e2⟩:=z
  walk_at "rd"
  refine ⟨a,ns,_,rfl,sY.seq hS,by omega,?_⟩
  refine ⟨_,rfl,fun z1 Y1 s1 a1 l1=>.of hj ⟨_,zs++[z1],rfl,sY.trans s1,by rw [yAL];rfl,?_⟩⟩
  rw [Nat.succ_mul]
  exact e2.snoc a1 l1
 obtain ⟨v,zs,rfl,sY,rfl,hT⟩:=z
 obtain ⟨H1,e1,s1,h1⟩:=newH hp (.lst (zs.map V.str))
 rw [e1];clear e1
 have S1:=sY.trans s1
 clear sY s1 hp
 have hn3:(1+cellOf ns 0 % 3).toNat <= 3:=by omega
 generalize (1+cellOf ns 0 % 3).toNat=n3 at hT hn3
 have hsum:=hT.sum
 have hzl:=hT.len
 refine ZAR ?_
 walk_at "rd"
 refine ⟨rfl,_,p,zs,rfl,rfl,SqL.of h1,by decide,by omega,?_⟩
 have hL:(Str.join (Str.ofString ", ") zs).length <= 11700:=by
  have:=StrLaws.join_length_le (Str.ofString ", ") zs
  rw [show (Str.ofString ", ").length=2 by decide] at this
  omega
 have hA:Asc (Str.join (Str.ofString ", ") zs):=fun d hd=>by
  rw [show Str.ofString ", "=⟨[44,32].toArray⟩ from lit_com] at hd
  rcases join_charsN 44 [32] hd with z | ⟨w,hw,z⟩
  .exact (show ∀ d∈[44,32],d < 128 by decide) d z
  .exact hT.asc w hw d z
 generalize Str.join (Str.ofString ", ") zs=tx0 at hL hA ⊢
 clear hT hsum hzl h1
 have hS1:=S1.seq hS
 refine ZAR ?_
 walk_at "rd"
 refine ⟨a,ns,1,rfl,hS1,by decide,?_⟩
 walk_at "rd"
 refine ⟨by decide,?_⟩
 obtain ⟨mn,hm1,hm2⟩:∃ mn:Nat,cellOf ns 1 % 4=(mn:Int) /\ mn <= 3:=⟨(cellOf ns 1 % 4).toNat,by omega,by omega⟩
 rw [hm1]
 refine ZAR ?_
 walk_at "rd"
 refine compR1_of (by omega) (fun i ys σ X=>∃ v zs,σ=[v,some (.ref a)] /\ X=H1 /\ ys=List.map V.int zs /\ zs.length=i) ⟨_,[],rfl,rfl,rfl,rfl⟩ (fun i ys σ X z=>?_) (fun i ys σ X hi z=>?_) fun ys σ X z' p2 hp2=>?_
 .obtain ⟨v,zs,_,_,e,e2⟩:=z
  rw [e,yAB,e2];exact yAA _
 .obtain ⟨v,zs,rfl,rfl,rfl,e2⟩:=z
  walk_at "rd"
  exact ⟨a,ns,_,rfl,hS1,by omega,.of hi ⟨_,zs++[_],rfl,rfl,by rw [yAL];rfl,by rw [yAO,e2];rfl⟩⟩
 obtain ⟨v,zs,rfl,rfl,rfl,e2⟩:=z'
 rw [Int.toNat_natCast] at e2
 refine ⟨tx0,p2,zs,rfl,ZAI,by omega,hA,hL,fun y yA yz=>?_⟩
 obtain ⟨H2,e2',s2,h2⟩:=newH hp2 (.lst (zs.map V.int))
 rw [e2'];clear e2'
 have S2:=S1.trans s2
 have hS2:=S2.seq hS
 clear hA hL h2 hp2 s2
 refine ZAR ?_
 walk_at "rd"
 refine ⟨a,ns,0,rfl,hS2,by decide,?_⟩
 walk_at "rd"
 apply ZDD (fun u:Hp×Str=>[some (.ref a),some (.ref p),some (.str u.2),some (.int mn),none,none]) (fun u=>u.1) (fun u=>Same H u.1 /\ Asc u.2 /\ u.2.length <= 94000)
 .intro rest
  refine ⟨⟨by decide,by decide⟩,by decide,?_⟩
  by_cases h4:cellOf ns 0 / 3 % 4=1
  .rw [if_pos h4]
   refine ⟨a,ns,5,rfl,hS2,by decide,?_⟩
   exact ⟨_,rfl,fun z3 H3 s3 a3 l3=>rest (H3,z3) ⟨S2.trans s3,a3,by show z3.length <= 94000;omega⟩⟩
  .rw [if_neg h4]
   exact rest (H2,y) ⟨S2,yA,yz⟩
 intro u hu
 obtain ⟨sU,uA,uz⟩:=hu
 have hSU:=sU.seq hS
 refine ZAR ?_
 walk_at "rd"
 refine ⟨ZAM (by decide),fun q1 hq1=>?_⟩
 obtain ⟨G1,e1,t1,g1⟩:=newH hq1 (.lst [V.str (Str.ofString "up 0")])
 rw [e1];clear e1
 refine ⟨ZAM (by decide),fun q2 hq2=>?_⟩
 obtain ⟨G2,e2,t2,g2⟩:=newH hq2 (.tup [V.str (Str.ofString "up"),V.int 0])
 rw [e2];clear e2
 refine ⟨ZAM (by decide),fun q3 hq3=>?_⟩
 obtain ⟨G3,e3,t3,g3⟩:=newH hq3 (.lst [V.non,V.int 7,V.ref q1,V.bl true,V.ref q2])
 rw [e3];clear e3
 have SG:=sU.trans (t1.trans (t2.trans t3))
 refine ⟨a,ns,5,rfl,SG.seq hS,by decide,?_⟩
 walk_at "rd"
 refine ⟨⟨by decide,by decide⟩,by decide,?_⟩
 have hk:0 <= cellOf ns 5 / 24 % 5 /\ cellOf ns 5 / 24 % 5 < 5:=by omega
 generalize cellOf ns 5 / 24 % 5=kk at hk ⊢
 obtain ⟨v,hv,hN⟩:∃ v,[V.non,V.int 7,V.ref q1,V.bl true,V.ref q2][kk.toNat]?=some v /\ NoS G3 v:=by
  have:kk.toNat=0∨kk.toNat=1∨kk.toNat=2∨kk.toNat=3∨kk.toNat=4:=by omega
  rcases this with e | e | e | e | e <;> rw [e]
  .exact ⟨_,rfl,.inl rfl⟩
  .exact ⟨_,rfl,.inr (.inl ⟨7,rfl⟩)⟩
  .exact ⟨_,rfl,.inr (.inr (.inr (.inl ⟨q1,_,rfl,t3 _ _ (t2 _ _ g1)⟩)))⟩
  .exact ⟨_,rfl,.inr (.inr (.inl ⟨true,rfl⟩))⟩
  .exact ⟨_,rfl,.inr (.inr (.inr (.inr ⟨q2,_,rfl,t3 _ _ g2⟩)))⟩
 refine ZAm (SqL.of g3) (ZBJ hk.1 hv) ⟨v,rfl,.inr hN,fun H4 s4=>⟨_,rfl,?_⟩⟩
 rw [if_neg (by decide)]
 refine ZAR ?_
 walk_at "rd"
 refine ⟨u.2,rfl,uA,uz,fun H5 s5=>?_⟩
 cases hg:gdZ u.2
 .rw [if_neg (by decide)]
  refine ZAR ?_
  walk_at "rd"
  exact ⟨_,rfl,.inl ⟨u.2,rfl,uA,uz,hg⟩,fun H6 s6=>q _⟩
 rw [if_pos rfl]
 refine ZAR ?_
 walk_at "rd"
 rw [if_neg (show ¬ (V.int (wdZ u.2)=.non) from fun z=>by cases z)]
 refine ZAR ?_
 walk_at "rd"
 refine ⟨_,rfl,?_,.inl ⟨_,rfl⟩⟩
 intro z e
 cases e
 refine ⟨uA,uz,fun _ r H6 ps s6 hr' hm hb hl=>?_,fun h=>by rw [hg] at h;cases h⟩
 refine hr'.meth (.inr rfl) ⟨r,ps,rfl,hr',hb,hl,fun H7 s7=>?_⟩
 rw [show wR ps=wdZ u.2 by unfold wR wdZ;rw [hm]]
 refine ZAR ?_
 walk_at "rd"
 refine ⟨_,rfl,?_⟩
 walk_at "rd"
 exact q _
end
theorem all_mk {l:PySem.W.OpenLaw} {w:World} {K:W.Frag} {h:Heap} {mg:Str->Option Value} {fa C_zaJ f_zal f_zaf C_zaH f_zaj f_zac C_zaI f_zai f_zae C_zaG f_zah f_zad C_zaF f_zag f_zab C_HallError C_NoRule C_NoPaper C_NoPlace C_NoKey C_NoRow C_NoOrder C_TooFar C_Spent f_zat f_zaA f_zas f_zak f_zaa f_zau f_zao f_zam f_zan f_zaq f_zar f_zaz f_zaB f_zaC f_zav f_zax f_zaE f_zap f_zay f_zaw f_zaD A_ATS:Addr} {t_MOST_FIGURES t_GREATEST_AT t_UP t_DOWN t_NEAR t_RING t_VOTES_AND_BLANK tA_ATS_0 tA_ATS_1 tA_ATS_2 tA_ATS_3 tA_ATS_4 tA_ATS_5 tA_ATS_6 tA_ATS_7:Tok} (X:K.In h) (G:h.Ns mainGlobals mg) (hfa:mg "law"=some (.ref fa))
  {od_zal an_zal:Option Addr} {sl_zal:Array (Option Value)} {oc_zal kV_zal dc_zal pm_zal cd_zal ct_zal:Value}
  {od_zaf an_zaf:Option Addr} {sl_zaf:Array (Option Value)} {oc_zaf kV_zaf dc_zaf pm_zaf cd_zaf ct_zaf:Value}
  {od_zaj an_zaj:Option Addr} {sl_zaj:Array (Option Value)} {oc_zaj kV_zaj dc_zaj pm_zaj cd_zaj ct_zaj:Value}
  {od_zac an_zac:Option Addr} {sl_zac:Array (Option Value)} {oc_zac kV_zac dc_zac pm_zac cd_zac ct_zac:Value}
  {od_zai an_zai:Option Addr} {sl_zai:Array (Option Value)} {oc_zai kV_zai dc_zai pm_zai cd_zai ct_zai:Value}
  {od_zae an_zae:Option Addr} {sl_zae:Array (Option Value)} {oc_zae kV_zae dc_zae pm_zae cd_zae ct_zae:Value}
  {od_zah an_zah:Option Addr} {sl_zah:Array (Option Value)} {oc_zah kV_zah dc_zah pm_zah cd_zah ct_zah:Value}
  {od_zad an_zad:Option Addr} {sl_zad:Array (Option Value)} {oc_zad kV_zad dc_zad pm_zad cd_zad ct_zad:Value}
  {od_zag an_zag:Option Addr} {sl_zag:Array (Option Value)} {oc_zag kV_zag dc_zag pm_zag cd_zag ct_zag:Value}
  {od_zab an_zab:Option Addr} {sl_zab:Array (Option Value)} {oc_zab kV_zab dc_zab pm_zab cd_zab ct_zab:Value}
  {od_zat an_zat:Option Addr} {sl_zat:Array (Option Value)} {oc_zat kV_zat dc_zat pm_zat cd_zat ct_zat:Value}
  {od_zaA an_zaA:Option Addr} {sl_zaA:Array (Option Value)} {oc_zaA kV_zaA dc_zaA pm_zaA cd_zaA ct_zaA:Value}
  {od_zas an_zas:Option Addr} {sl_zas:Array (Option Value)} {oc_zas kV_zas dc_zas pm_zas cd_zas ct_zas:Value}
  {od_zak an_zak:Option Addr} {sl_zak:Array (Option Value)} {oc_zak kV_zak dc_zak pm_zak cd_zak ct_zak:Value}
  {od_zaa an_zaa:Option Addr} {sl_zaa:Array (Option Value)} {oc_zaa kV_zaa dc_zaa pm_zaa cd_zaa ct_zaa:Value}
  {od_zau an_zau:Option Addr} {sl_zau:Array (Option Value)} {oc_zau kV_zau dc_zau pm_zau cd_zau ct_zau:Value}
  {od_zao an_zao:Option Addr} {sl_zao:Array (Option Value)} {oc_zao kV_zao dc_zao pm_zao cd_zao ct_zao:Value}
  {od_zam an_zam:Option Addr} {sl_zam:Array (Option Value)} {oc_zam kV_zam dc_zam pm_zam cd_zam ct_zam:Value}
  {od_zan an_zan:Option Addr} {sl_zan:Array (Option Value)} {oc_zan kV_zan dc_zan pm_zan cd_zan ct_zan:Value}
  {od_zaq an_zaq:Option Addr} {sl_zaq:Array (Option Value)} {oc_zaq kV_zaq dc_zaq pm_zaq cd_zaq ct_zaq:Value}
  {od_zar an_zar:Option Addr} {sl_zar:Array (Option Value)} {oc_zar kV_zar dc_zar pm_zar cd_zar ct_zar:Value}
  {od_zaz an_zaz:Option Addr} {sl_zaz:Array (Option Value)} {oc_zaz kV_zaz dc_zaz pm_zaz cd_zaz ct_zaz:Value}
  {od_zaB an_zaB:Option Addr} {sl_zaB:Array (Option Value)} {oc_zaB kV_zaB dc_zaB pm_zaB cd_zaB ct_zaB:Value}
  {od_zaC an_zaC:Option Addr} {sl_zaC:Array (Option Value)} {oc_zaC kV_zaC dc_zaC pm_zaC cd_zaC ct_zaC:Value}
  {od_zav an_zav:Option Addr} {sl_zav:Array (Option Value)} {oc_zav kV_zav dc_zav pm_zav cd_zav ct_zav:Value}
  {od_zax an_zax:Option Addr} {sl_zax:Array (Option Value)} {oc_zax kV_zax dc_zax pm_zax cd_zax ct_zax:Value}
  {od_zaE an_zaE:Option Addr} {sl_zaE:Array (Option Value)} {oc_zaE kV_zaE dc_zaE pm_zaE cd_zaE ct_zaE:Value}
  {od_zap an_zap:Option Addr} {sl_zap:Array (Option Value)} {oc_zap kV_zap dc_zap pm_zap cd_zap ct_zap:Value}
  {od_zay an_zay:Option Addr} {sl_zay:Array (Option Value)} {oc_zay kV_zay dc_zay pm_zay cd_zay ct_zay:Value}
  {od_zaw an_zaw:Option Addr} {sl_zaw:Array (Option Value)} {oc_zaw kV_zaw dc_zaw pm_zaw cd_zaw ct_zaw:Value}
  {od_zaD an_zaD:Option Addr} {sl_zaD:Array (Option Value)} {oc_zaD kV_zaD dc_zaD pm_zaD cd_zaD ct_zaD:Value}
  {odA_ATS:Option Addr} {nA_ATS:Nat} {slA_ATS:Array (Option Value)}
  (a_zaJ:W.nsIn K mainGlobals "KeyRule"=some (some (.ref C_zaJ)))
  (pg_zaJ:PySem.W.plainGet K C_zaJ Str.empty=true)
  (hd_zaJ:PySem.W.hasDictIn K C_zaJ=true)
  (po_zaJ:PySem.W.plainOver K C_zaJ=true)
  (sa_zaJ:W.findIn K (.ref C_zaJ) "__setattr__"=some (some (.builtin "object.__setattr__")))
  (mk_zaJ:PySem.W.makesIn K C_zaJ=true)
  (kc_zaJ:W.keepIn K (.ref C_zaJ)=true)
  (n_zaJ_columns:W.findIn K (.ref C_zaJ) "columns"=some none)
  (a_zal:W.findIn K (.ref C_zaJ) "__init__"=some (some (.ref f_zal)))
  (i_zal:PySem.W.isFn K (.ref f_zal)=true)
  (l_zal:K.lookup f_zal=some ⟨oc_zal,od_zal,.func (W.fnOf "__init__" "KeyRule.__init__" (ZAJ ZAt) (ZAH ZAt) (ZAB ZAt) .none kV_zal dc_zal pm_zal an_zal cd_zal ct_zal),sl_zal⟩)
  (c_zal:W.codeIn K cd_zal "KeyRule.__init__"=true)
  (k_zal:W.keepIn K (.ref f_zal)=true)
  (a_zaf:W.findIn K (.ref C_zaJ) "widest"=some (some (.ref f_zaf)))
  (i_zaf:PySem.W.isFn K (.ref f_zaf)=true)
  (l_zaf:K.lookup f_zaf=some ⟨oc_zaf,od_zaf,.func (W.fnOf "widest" "KeyRule.widest" (ZAJ ZAg) (ZAH ZAg) (ZAB ZAg) .none kV_zaf dc_zaf pm_zaf an_zaf cd_zaf ct_zaf),sl_zaf⟩)
  (c_zaf:W.codeIn K cd_zaf "KeyRule.widest"=true)
  (k_zaf:W.keepIn K (.ref f_zaf)=true)
  (a_zaH:W.nsIn K mainGlobals "NearRule"=some (some (.ref C_zaH)))
  (pg_zaH:PySem.W.plainGet K C_zaH Str.empty=true)
  (hd_zaH:PySem.W.hasDictIn K C_zaH=true)
  (po_zaH:PySem.W.plainOver K C_zaH=true)
  (sa_zaH:W.findIn K (.ref C_zaH) "__setattr__"=some (some (.builtin "object.__setattr__")))
  (mk_zaH:PySem.W.makesIn K C_zaH=true)
  (kc_zaH:W.keepIn K (.ref C_zaH)=true)
  (n_zaH_at:W.findIn K (.ref C_zaH) "at"=some none)
  (n_zaH_gap:W.findIn K (.ref C_zaH) "gap"=some none)
  (a_zaj:W.findIn K (.ref C_zaH) "__init__"=some (some (.ref f_zaj)))
  (i_zaj:PySem.W.isFn K (.ref f_zaj)=true)
  (l_zaj:K.lookup f_zaj=some ⟨oc_zaj,od_zaj,.func (W.fnOf "__init__" "NearRule.__init__" (ZAJ ZAl) (ZAH ZAl) (ZAB ZAl) .none kV_zaj dc_zaj pm_zaj an_zaj cd_zaj ct_zaj),sl_zaj⟩)
  (c_zaj:W.codeIn K cd_zaj "NearRule.__init__"=true)
  (k_zaj:W.keepIn K (.ref f_zaj)=true)
  (a_zac:W.findIn K (.ref C_zaH) "widest"=some (some (.ref f_zac)))
  (i_zac:PySem.W.isFn K (.ref f_zac)=true)
  (l_zac:K.lookup f_zac=some ⟨oc_zac,od_zac,.func (W.fnOf "widest" "NearRule.widest" (ZAJ ZAc) (ZAH ZAc) (ZAB ZAc) .none kV_zac dc_zac pm_zac an_zac cd_zac ct_zac),sl_zac⟩)
  (c_zac:W.codeIn K cd_zac "NearRule.widest"=true)
  (k_zac:W.keepIn K (.ref f_zac)=true)
  (a_zaI:W.nsIn K mainGlobals "RingRule"=some (some (.ref C_zaI)))
  (pg_zaI:PySem.W.plainGet K C_zaI Str.empty=true)
  (hd_zaI:PySem.W.hasDictIn K C_zaI=true)
  (po_zaI:PySem.W.plainOver K C_zaI=true)
  (sa_zaI:W.findIn K (.ref C_zaI) "__setattr__"=some (some (.builtin "object.__setattr__")))
  (mk_zaI:PySem.W.makesIn K C_zaI=true)
  (kc_zaI:W.keepIn K (.ref C_zaI)=true)
  (n_zaI_at:W.findIn K (.ref C_zaI) "at"=some none)
  (n_zaI_size:W.findIn K (.ref C_zaI) "size"=some none)
  (a_zai:W.findIn K (.ref C_zaI) "__init__"=some (some (.ref f_zai)))
  (i_zai:PySem.W.isFn K (.ref f_zai)=true)
  (l_zai:K.lookup f_zai=some ⟨oc_zai,od_zai,.func (W.fnOf "__init__" "RingRule.__init__" (ZAJ ZAk) (ZAH ZAk) (ZAB ZAk) .none kV_zai dc_zai pm_zai an_zai cd_zai ct_zai),sl_zai⟩)
  (c_zai:W.codeIn K cd_zai "RingRule.__init__"=true)
  (k_zai:W.keepIn K (.ref f_zai)=true)
  (a_zae:W.findIn K (.ref C_zaI) "widest"=some (some (.ref f_zae)))
  (i_zae:PySem.W.isFn K (.ref f_zae)=true)
  (l_zae:K.lookup f_zae=some ⟨oc_zae,od_zae,.func (W.fnOf "widest" "RingRule.widest" (ZAJ ZAb) (ZAH ZAb) (ZAB ZAb) .none kV_zae dc_zae pm_zae an_zae cd_zae ct_zae),sl_zae⟩)
  (c_zae:W.codeIn K cd_zae "RingRule.widest"=true)
  (k_zae:W.keepIn K (.ref f_zae)=true)
  (a_zaG:W.nsIn K mainGlobals "VoteRule"=some (some (.ref C_zaG)))
  (pg_zaG:PySem.W.plainGet K C_zaG Str.empty=true)
  (hd_zaG:PySem.W.hasDictIn K C_zaG=true)
  (po_zaG:PySem.W.plainOver K C_zaG=true)
  (sa_zaG:W.findIn K (.ref C_zaG) "__setattr__"=some (some (.builtin "object.__setattr__")))
  (mk_zaG:PySem.W.makesIn K C_zaG=true)
  (kc_zaG:W.keepIn K (.ref C_zaG)=true)
  (n_zaG_rules:W.findIn K (.ref C_zaG) "rules"=some none)
  (a_zah:W.findIn K (.ref C_zaG) "__init__"=some (some (.ref f_zah)))
  (i_zah:PySem.W.isFn K (.ref f_zah)=true)
  (l_zah:K.lookup f_zah=some ⟨oc_zah,od_zah,.func (W.fnOf "__init__" "VoteRule.__init__" (ZAJ ZAj) (ZAH ZAj) (ZAB ZAj) .none kV_zah dc_zah pm_zah an_zah cd_zah ct_zah),sl_zah⟩)
  (c_zah:W.codeIn K cd_zah "VoteRule.__init__"=true)
  (k_zah:W.keepIn K (.ref f_zah)=true)
  (a_zad:W.findIn K (.ref C_zaG) "widest"=some (some (.ref f_zad)))
  (i_zad:PySem.W.isFn K (.ref f_zad)=true)
  (l_zad:K.lookup f_zad=some ⟨oc_zad,od_zad,.func (W.fnOf "widest" "VoteRule.widest" (ZAJ ZAa) (ZAH ZAa) (ZAB ZAa) .none kV_zad dc_zad pm_zad an_zad cd_zad ct_zad),sl_zad⟩)
  (c_zad:W.codeIn K cd_zad "VoteRule.widest"=true)
  (k_zad:W.keepIn K (.ref f_zad)=true)
  (a_zaF:W.nsIn K mainGlobals "ChainRule"=some (some (.ref C_zaF)))
  (pg_zaF:PySem.W.plainGet K C_zaF Str.empty=true)
  (hd_zaF:PySem.W.hasDictIn K C_zaF=true)
  (po_zaF:PySem.W.plainOver K C_zaF=true)
  (sa_zaF:W.findIn K (.ref C_zaF) "__setattr__"=some (some (.builtin "object.__setattr__")))
  (mk_zaF:PySem.W.makesIn K C_zaF=true)
  (kc_zaF:W.keepIn K (.ref C_zaF)=true)
  (n_zaF_rules:W.findIn K (.ref C_zaF) "rules"=some none)
  (a_zag:W.findIn K (.ref C_zaF) "__init__"=some (some (.ref f_zag)))
  (i_zag:PySem.W.isFn K (.ref f_zag)=true)
  (l_zag:K.lookup f_zag=some ⟨oc_zag,od_zag,.func (W.fnOf "__init__" "ChainRule.__init__" (ZAJ ZAh) (ZAH ZAh) (ZAB ZAh) .none kV_zag dc_zag pm_zag an_zag cd_zag ct_zag),sl_zag⟩)
  (c_zag:W.codeIn K cd_zag "ChainRule.__init__"=true)
  (k_zag:W.keepIn K (.ref f_zag)=true)
  (a_zab:W.findIn K (.ref C_zaF) "widest"=some (some (.ref f_zab)))
  (i_zab:PySem.W.isFn K (.ref f_zab)=true)
  (l_zab:K.lookup f_zab=some ⟨oc_zab,od_zab,.func (W.fnOf "widest" "ChainRule.widest" (ZAJ ZAX) (ZAH ZAX) (ZAB ZAX) .none kV_zab dc_zab pm_zab an_zab cd_zab ct_zab),sl_zab⟩)
  (c_zab:W.codeIn K cd_zab "ChainRule.widest"=true)
  (k_zab:W.keepIn K (.ref f_zab)=true)
  (a_HallError:W.nsIn K mainGlobals "HallError"=some (some (.ref C_HallError)))
  (a_NoRule:W.nsIn K mainGlobals "NoRule"=some (some (.ref C_NoRule)))
  (a_NoPaper:W.nsIn K mainGlobals "NoPaper"=some (some (.ref C_NoPaper)))
  (a_NoPlace:W.nsIn K mainGlobals "NoPlace"=some (some (.ref C_NoPlace)))
  (a_NoKey:W.nsIn K mainGlobals "NoKey"=some (some (.ref C_NoKey)))
  (a_NoRow:W.nsIn K mainGlobals "NoRow"=some (some (.ref C_NoRow)))
  (a_NoOrder:W.nsIn K mainGlobals "NoOrder"=some (some (.ref C_NoOrder)))
  (a_TooFar:W.nsIn K mainGlobals "TooFar"=some (some (.ref C_TooFar)))
  (a_Spent:W.nsIn K mainGlobals "Spent"=some (some (.ref C_Spent)))
  (xq_NoRule:PySem.W.excIn K C_NoRule bmV "ValueError.__new__"=true)
  (xg_NoRule:W.findIn K (.ref C_NoRule) "__getattribute__"=some (some (.builtin "BaseException.__getattribute__")))
  (xh_NoRule:W.findIn K (.ref C_NoRule) "__getattr__"=some none)
  (xa_NoRule:W.findIn K (.ref C_NoRule) "__class__"=some (some (.builtin "object.__class__")))
  (xs_NoRule:PySem.W.specialIn K (.builtin "object.__class__") "__get__"=some (some (.builtin "getset_descriptor.__get__")))
  (xt_NoRule:PySem.W.takesIn K (.builtin "object.__class__")=some true)
  (xo_NoRule:PySem.W.mroIn K C_NoRule (.type "object")=some true)
  (xb_NoRule:PySem.W.mroIn K C_NoRule (.type "BaseException")=some true)
  (xd_NoRule:PySem.W.hasDictIn K C_NoRule=true)
  (xm_NoRule_HallError:PySem.W.exmOne K (.ref C_NoRule) (.ref C_HallError)=some true)
  (a_zat:W.nsIn K mainGlobals "_law_cell_at"=some (some (.ref f_zat)))
  (l_zat:K.lookup f_zat=some ⟨oc_zat,od_zat,.func (W.fnOf "_law_cell_at" "_law_cell_at" (ZAJ ZBa) (ZAH ZBa) (ZAB ZBa) .none kV_zat dc_zat pm_zat an_zat cd_zat ct_zat),sl_zat⟩)
  (c_zat:W.codeIn K cd_zat "_law_cell_at"=true)
  (k_zat:W.keepIn K (.ref f_zat)=true)
  (a_zaA:W.nsIn K mainGlobals "_law_whole"=some (some (.ref f_zaA)))
  (l_zaA:K.lookup f_zaA=some ⟨oc_zaA,od_zaA,.func (W.fnOf "_law_whole" "_law_whole" (ZAJ ZCD) (ZAH ZCD) (ZAB ZCD) .none kV_zaA dc_zaA pm_zaA an_zaA cd_zaA ct_zaA),sl_zaA⟩)
  (c_zaA:W.codeIn K cd_zaA "_law_whole"=true)
  (k_zaA:W.keepIn K (.ref f_zaA)=true)
  (a_zas:W.nsIn K mainGlobals "check_at"=some (some (.ref f_zas)))
  (l_zas:K.lookup f_zas=some ⟨oc_zas,od_zas,.func (W.fnOf "check_at" "check_at" (ZAJ ZBL) (ZAH ZBL) (ZAB ZBL) .none kV_zas dc_zas pm_zas an_zas cd_zas ct_zas),sl_zas⟩)
  (c_zas:W.codeIn K cd_zas "check_at"=true)
  (k_zas:W.keepIn K (.ref f_zas)=true)
  (a_zak:W.nsIn K mainGlobals "check_column"=some (some (.ref f_zak)))
  (l_zak:K.lookup f_zak=some ⟨oc_zak,od_zak,.func (W.fnOf "check_column" "check_column" (ZAJ ZAs) (ZAH ZAs) (ZAB ZAs) .none kV_zak dc_zak pm_zak an_zak cd_zak ct_zak),sl_zak⟩)
  (c_zak:W.codeIn K cd_zak "check_column"=true)
  (k_zak:W.keepIn K (.ref f_zak)=true)
  (a_zaa:W.nsIn K mainGlobals "is_written_number"=some (some (.ref f_zaa)))
  (l_zaa:K.lookup f_zaa=some ⟨oc_zaa,od_zaa,.func (W.fnOf "is_written_number" "is_written_number" (ZAJ ZAW) (ZAH ZAW) (ZAB ZAW) .none kV_zaa dc_zaa pm_zaa an_zaa cd_zaa ct_zaa),sl_zaa⟩)
  (c_zaa:W.codeIn K cd_zaa "is_written_number"=true)
  (k_zaa:W.keepIn K (.ref f_zaa)=true)
  (a_zau:W.nsIn K mainGlobals "read_at"=some (some (.ref f_zau)))
  (l_zau:K.lookup f_zau=some ⟨oc_zau,od_zau,.func (W.fnOf "read_at" "read_at" (ZAJ ZBZ) (ZAH ZBZ) (ZAB ZBZ) .none kV_zau dc_zau pm_zau an_zau cd_zau ct_zau),sl_zau⟩)
  (c_zau:W.codeIn K cd_zau "read_at"=true)
  (k_zau:W.keepIn K (.ref f_zau)=true)
  (a_zao:W.nsIn K mainGlobals "read_size"=some (some (.ref f_zao)))
  (l_zao:K.lookup f_zao=some ⟨oc_zao,od_zao,.func (W.fnOf "read_size" "read_size" (ZAJ ZA4) (ZAH ZA4) (ZAB ZA4) .none kV_zao dc_zao pm_zao an_zao cd_zao ct_zao),sl_zao⟩)
  (c_zao:W.codeIn K cd_zao "read_size"=true)
  (k_zao:W.keepIn K (.ref f_zao)=true)
  (a_zam:W.nsIn K mainGlobals "read_single"=some (some (.ref f_zam)))
  (l_zam:K.lookup f_zam=some ⟨oc_zam,od_zam,.func (W.fnOf "read_single" "read_single" (ZAJ ZAw) (ZAH ZAw) (ZAB ZAw) .none kV_zam dc_zam pm_zam an_zam cd_zam ct_zam),sl_zam⟩)
  (c_zam:W.codeIn K cd_zam "read_single"=true)
  (k_zam:W.keepIn K (.ref f_zam)=true)
  (a_zan:W.nsIn K mainGlobals "widest_of"=some (some (.ref f_zan)))
  (l_zan:K.lookup f_zan=some ⟨oc_zan,od_zan,.func (W.fnOf "widest_of" "widest_of" (ZAJ ZA0) (ZAH ZA0) (ZAB ZA0) .none kV_zan dc_zan pm_zan an_zan cd_zan ct_zan),sl_zan⟩)
  (c_zan:W.codeIn K cd_zan "widest_of"=true)
  (k_zan:W.keepIn K (.ref f_zan)=true)
  (a_zaq:W.nsIn K mainGlobals "read_part"=some (some (.ref f_zaq)))
  (l_zaq:K.lookup f_zaq=some ⟨oc_zaq,od_zaq,.func (W.fnOf "read_part" "read_part" (ZAJ ZA6) (ZAH ZA6) (ZAB ZA6) .none kV_zaq dc_zaq pm_zaq an_zaq cd_zaq ct_zaq),sl_zaq⟩)
  (c_zaq:W.codeIn K cd_zaq "read_part"=true)
  (k_zaq:W.keepIn K (.ref f_zaq)=true)
  (a_zar:W.nsIn K mainGlobals "read_rule"=some (some (.ref f_zar)))
  (l_zar:K.lookup f_zar=some ⟨oc_zar,od_zar,.func (W.fnOf "read_rule" "read_rule" (ZAJ ZA5) (ZAH ZA5) (ZAB ZA5) .none kV_zar dc_zar pm_zar an_zar cd_zar ct_zar),sl_zar⟩)
  (c_zar:W.codeIn K cd_zar "read_rule"=true)
  (k_zar:W.keepIn K (.ref f_zar)=true)
  (a_zaz:W.nsIn K mainGlobals "_law_plain"=some (some (.ref f_zaz)))
  (l_zaz:K.lookup f_zaz=some ⟨oc_zaz,od_zaz,.func (W.fnOf "_law_plain" "_law_plain" (ZAJ ZCE) (ZAH ZCE) (ZAB ZCE) .none kV_zaz dc_zaz pm_zaz an_zaz cd_zaz ct_zaz),sl_zaz⟩)
  (c_zaz:W.codeIn K cd_zaz "_law_plain"=true)
  (k_zaz:W.keepIn K (.ref f_zaz)=true)
  (a_zaB:W.nsIn K mainGlobals "_law_part"=some (some (.ref f_zaB)))
  (l_zaB:K.lookup f_zaB=some ⟨oc_zaB,od_zaB,.func (W.fnOf "_law_part" "_law_part" (ZAJ ZCd) (ZAH ZCd) (ZAB ZCd) .none kV_zaB dc_zaB pm_zaB an_zaB cd_zaB ct_zaB),sl_zaB⟩)
  (c_zaB:W.codeIn K cd_zaB "_law_part"=true)
  (k_zaB:W.keepIn K (.ref f_zaB)=true)
  (a_zaC:W.nsIn K mainGlobals "_law_odd"=some (some (.ref f_zaC)))
  (l_zaC:K.lookup f_zaC=some ⟨oc_zaC,od_zaC,.func (W.fnOf "_law_odd" "_law_odd" (ZAJ ZC8) (ZAH ZC8) (ZAB ZC8) .none kV_zaC dc_zaC pm_zaC an_zaC cd_zaC ct_zaC),sl_zaC⟩)
  (c_zaC:W.codeIn K cd_zaC "_law_odd"=true)
  (k_zaC:W.keepIn K (.ref f_zaC)=true)
  (a_zav:W.nsIn K mainGlobals "_law_spoiled"=some (some (.ref f_zav)))
  (l_zav:K.lookup f_zav=some ⟨oc_zav,od_zav,.func (W.fnOf "_law_spoiled" "_law_spoiled" (ZAJ ZBX) (ZAH ZBX) (ZAB ZBX) .none kV_zav dc_zav pm_zav an_zav cd_zav ct_zav),sl_zav⟩)
  (c_zav:W.codeIn K cd_zav "_law_spoiled"=true)
  (k_zav:W.keepIn K (.ref f_zav)=true)
  (a_zax:W.nsIn K mainGlobals "_law_number"=some (some (.ref f_zax)))
  (l_zax:K.lookup f_zax=some ⟨oc_zax,od_zax,.func (W.fnOf "_law_number" "_law_number" (ZAJ ZBz) (ZAH ZBz) (ZAB ZBz) .none kV_zax dc_zax pm_zax an_zax cd_zax ct_zax),sl_zax⟩)
  (c_zax:W.codeIn K cd_zax "_law_number"=true)
  (k_zax:W.keepIn K (.ref f_zax)=true)
  (a_zaE:W.nsIn K mainGlobals "_law_key"=some (some (.ref f_zaE)))
  (l_zaE:K.lookup f_zaE=some ⟨oc_zaE,od_zaE,.func (W.fnOf "_law_key" "_law_key" (ZAJ ZDO) (ZAH ZDO) (ZAB ZDO) .none kV_zaE dc_zaE pm_zaE an_zaE cd_zaE ct_zaE),sl_zaE⟩)
  (c_zaE:W.codeIn K cd_zaE "_law_key"=true)
  (k_zaE:W.keepIn K (.ref f_zaE)=true)
  (a_zap:W.nsIn K mainGlobals "_law_plain_key"=some (some (.ref f_zap)))
  (l_zap:K.lookup f_zap=some ⟨oc_zap,od_zap,.func (W.fnOf "_law_plain_key" "_law_plain_key" (ZAJ ZA7) (ZAH ZA7) (ZAB ZA7) .none kV_zap dc_zap pm_zap an_zap cd_zap ct_zap),sl_zap⟩)
  (c_zap:W.codeIn K cd_zap "_law_plain_key"=true)
  (k_zap:W.keepIn K (.ref f_zap)=true)
  (a_zay:W.nsIn K mainGlobals "_law_widest"=some (some (.ref f_zay)))
  (l_zay:K.lookup f_zay=some ⟨oc_zay,od_zay,.func (W.fnOf "_law_widest" "_law_widest" (ZAJ ZBy) (ZAH ZBy) (ZAB ZBy) .none kV_zay dc_zay pm_zay an_zay cd_zay ct_zay),sl_zay⟩)
  (c_zay:W.codeIn K cd_zay "_law_widest"=true)
  (k_zay:W.keepIn K (.ref f_zay)=true)
  (a_zaw:W.nsIn K mainGlobals "_law_refused"=some (some (.ref f_zaw)))
  (l_zaw:K.lookup f_zaw=some ⟨oc_zaw,od_zaw,.func (W.fnOf "_law_refused" "_law_refused" (ZAJ ZBY) (ZAH ZBY) (ZAB ZBY) .none kV_zaw dc_zaw pm_zaw an_zaw cd_zaw ct_zaw),sl_zaw⟩)
  (c_zaw:W.codeIn K cd_zaw "_law_refused"=true)
  (k_zaw:W.keepIn K (.ref f_zaw)=true)
  (a_zaD:W.nsIn K mainGlobals "law"=some (some (.ref f_zaD)))
  (l_zaD:K.lookup f_zaD=some ⟨oc_zaD,od_zaD,.func (W.fnOf "law" "law" (ZAJ ZCm) (ZAH ZCm) (ZAB ZCm) .none kV_zaD dc_zaD pm_zaD an_zaD cd_zaD ct_zaD),sl_zaD⟩)
  (c_zaD:W.codeIn K cd_zaD "law"=true)
  (k_zaD:W.keepIn K (.ref f_zaD)=true)
  (z_MOST_FIGURES:W.nsIn K mainGlobals "MOST_FIGURES"=some (some (.int 60 t_MOST_FIGURES)))
  (z_GREATEST_AT:W.nsIn K mainGlobals "GREATEST_AT"=some (some (.int 7 t_GREATEST_AT)))
  (z_UP:W.nsIn K mainGlobals "UP"=some (some (.str "up" t_UP)))
  (z_DOWN:W.nsIn K mainGlobals "DOWN"=some (some (.str "down" t_DOWN)))
  (z_NEAR:W.nsIn K mainGlobals "NEAR"=some (some (.str "near" t_NEAR)))
  (z_RING:W.nsIn K mainGlobals "RING"=some (some (.str "ring" t_RING)))
  (z_VOTES_AND_BLANK:W.nsIn K mainGlobals "VOTES_AND_BLANK"=some (some (.str "votes " t_VOTES_AND_BLANK)))
  (z_ATS:W.nsIn K mainGlobals "ATS"=some (some (.ref A_ATS)))
  (lt_ATS:K.lookup A_ATS=some ⟨.type "tuple",odA_ATS,.seq ([.str "0" tA_ATS_0,.str "1" tA_ATS_1,.str "2" tA_ATS_2,.str "3" tA_ATS_3,.str "4" tA_ATS_4,.str "5" tA_ATS_5,.str "6" tA_ATS_6,.str "7" tA_ATS_7]:List Value).toArray nA_ATS,slA_ATS⟩)
  (z_len:W.nsIn K mainGlobals "len"=some none)
  (z_range:W.nsIn K mainGlobals "range"=some none)
  (z_list:W.nsIn K mainGlobals "list"=some none)
  (z_isinstance:W.nsIn K mainGlobals "isinstance"=some none)
  (z_bool:W.nsIn K mainGlobals "bool"=some none)
  (z_int:W.nsIn K mainGlobals "int"=some none)
  (z_str:W.nsIn K mainGlobals "str"=some none)
  (z_max:W.nsIn K mainGlobals "max"=some none)
  (z_all:W.nsIn K mainGlobals "all"=some none)
  (z_ValueError:W.nsIn K mainGlobals "ValueError"=some none)
  (kit_int_bool:PySem.W.kitOne K (.type "int") (.type "bool")=some false)
  (kit_str_str:PySem.W.kitOne K (.type "str") (.type "str")=some true)
  (kit_int_str:PySem.W.kitOne K (.type "int") (.type "str")=some false)
  (kit_bool_str:PySem.W.kitOne K (.type "bool") (.type "str")=some false)
  (kit_NoneType_str:PySem.W.kitOne K (.type "NoneType") (.type "str")=some false)
  (kit_list_str:PySem.W.kitOne K (.type "list") (.type "str")=some false)
  (kit_tuple_str:PySem.W.kitOne K (.type "tuple") (.type "str")=some false)
  (kit_NoRule_ValueError:PySem.W.kitOne K (.ref C_NoRule) (.type "ValueError")=some true)
  (kit_NoRule_NoRow:PySem.W.kitOne K (.ref C_NoRule) (.ref C_NoRow)=some false)
  (kit_NoRule_NoRule:PySem.W.kitOne K (.ref C_NoRule) (.ref C_NoRule)=some true)
  (kit_NoRule_NoPlace:PySem.W.kitOne K (.ref C_NoRule) (.ref C_NoPlace)=some false)
  (kit_NoRule_NoKey:PySem.W.kitOne K (.ref C_NoRule) (.ref C_NoKey)=some false)
  (kit_NoRule_NoPaper:PySem.W.kitOne K (.ref C_NoRule) (.ref C_NoPaper)=some false)
  (kit_NoRule_NoOrder:PySem.W.kitOne K (.ref C_NoRule) (.ref C_NoOrder)=some false)
  (kit_NoRule_TooFar:PySem.W.kitOne K (.ref C_NoRule) (.ref C_TooFar)=some false)
  (kit_NoRule_Spent:PySem.W.kitOne K (.ref C_NoRule) (.ref C_Spent)=some false) :
  ∃ fd:FuncData,(∀ (s:Shared) (v:Value),BindsTo s fd ⟨[v],[]⟩ [("_law_script",v)]) /\ ∀ base:Heap,K.In base->base.Ns mainGlobals mg->FnOk l.prog w K mg base CX0 9 fa fd ["_law_script"] (ZDh K):=by
 have e:=hfa.symm.trans (PySem.W.mg_of X G a_zaD)
 cases e
 have cl_zaJ:Cls K C_zaJ:=⟨pg_zaJ,hd_zaJ,po_zaJ,sa_zaJ⟩
 have F_zal:=ZAe (st:=ZAt) l_zal c_zal k_zal
 have b_zal:=F_zal.binds (ps:=["self","columns"]) fun _ _ _ _ _ _ us hl=>by obtain ⟨_,_,rfl⟩:=us2 hl;rfl
 have F_zaf:=ZAe (st:=ZAg) l_zaf c_zaf k_zaf
 have b_zaf:=F_zaf.binds (ps:=["self"]) fun _ _ _ _ _ _ us hl=>by obtain ⟨_,rfl⟩:=us1 hl;rfl
 have cl_zaH:Cls K C_zaH:=⟨pg_zaH,hd_zaH,po_zaH,sa_zaH⟩
 have F_zaj:=ZAe (st:=ZAl) l_zaj c_zaj k_zaj
 have b_zaj:=F_zaj.binds (ps:=["self","at","gap"]) fun _ _ _ _ _ _ us hl=>by obtain ⟨_,_,_,rfl⟩:=us3 hl;rfl
 have F_zac:=ZAe (st:=ZAc) l_zac c_zac k_zac
 have b_zac:=F_zac.binds (ps:=["self"]) fun _ _ _ _ _ _ us hl=>by obtain ⟨_,rfl⟩:=us1 hl;rfl
 have cl_zaI:Cls K C_zaI:=⟨pg_zaI,hd_zaI,po_zaI,sa_zaI⟩
 have F_zai:=ZAe (st:=ZAk) l_zai c_zai k_zai
 have b_zai:=F_zai.binds (ps:=["self","at","size"]) fun _ _ _ _ _ _ us hl=>by obtain ⟨_,_,_,rfl⟩:=us3 hl;rfl
 have F_zae:=ZAe (st:=ZAb) l_zae c_zae k_zae
 have b_zae:=F_zae.binds (ps:=["self"]) fun _ _ _ _ _ _ us hl=>by obtain ⟨_,rfl⟩:=us1 hl;rfl
 have cl_zaG:Cls K C_zaG:=⟨pg_zaG,hd_zaG,po_zaG,sa_zaG⟩
 have F_zah:=ZAe (st:=ZAj) l_zah c_zah k_zah
 have b_zah:=F_zah.binds (ps:=["self","rules"]) fun _ _ _ _ _ _ us hl=>by obtain ⟨_,_,rfl⟩:=us2 hl;rfl
 have F_zad:=ZAe (st:=ZAa) l_zad c_zad k_zad
 have b_zad:=F_zad.binds (ps:=["self"]) fun _ _ _ _ _ _ us hl=>by obtain ⟨_,rfl⟩:=us1 hl;rfl
 have cl_zaF:Cls K C_zaF:=⟨pg_zaF,hd_zaF,po_zaF,sa_zaF⟩
 have F_zag:=ZAe (st:=ZAh) l_zag c_zag k_zag
 have b_zag:=F_zag.binds (ps:=["self","rules"]) fun _ _ _ _ _ _ us hl=>by obtain ⟨_,_,rfl⟩:=us2 hl;rfl
 have F_zab:=ZAe (st:=ZAX) l_zab c_zab k_zab
 have b_zab:=F_zab.binds (ps:=["self"]) fun _ _ _ _ _ _ us hl=>by obtain ⟨_,rfl⟩:=us1 hl;rfl
 have F_zat:=ZAe (st:=ZBa) l_zat c_zat k_zat
 have b_zat:=F_zat.binds (ps:=["_law_script","_law_k"]) fun _ _ _ _ _ _ us hl=>by obtain ⟨_,_,rfl⟩:=us2 hl;rfl
 have F_zaA:=ZAe (st:=ZCD) l_zaA c_zaA k_zaA
 have b_zaA:=F_zaA.binds (ps:=["_law_found"]) fun _ _ _ _ _ _ us hl=>by obtain ⟨_,rfl⟩:=us1 hl;rfl
 have F_zas:=ZAe (st:=ZBL) l_zas c_zas k_zas
 have b_zas:=F_zas.binds (ps:=["at"]) fun _ _ _ _ _ _ us hl=>by obtain ⟨_,rfl⟩:=us1 hl;rfl
 have F_zak:=ZAe (st:=ZAs) l_zak c_zak k_zak
 have b_zak:=F_zak.binds (ps:=["at","way"]) fun _ _ _ _ _ _ us hl=>by obtain ⟨_,_,rfl⟩:=us2 hl;rfl
 have F_zaa:=ZAe (st:=ZAW) l_zaa c_zaa k_zaa
 have b_zaa:=F_zaa.binds (ps:=["text"]) fun _ _ _ _ _ _ us hl=>by obtain ⟨_,rfl⟩:=us1 hl;rfl
 have F_zau:=ZAe (st:=ZBZ) l_zau c_zau k_zau
 have b_zau:=F_zau.binds (ps:=["text"]) fun _ _ _ _ _ _ us hl=>by obtain ⟨_,rfl⟩:=us1 hl;rfl
 have F_zao:=ZAe (st:=ZA4) l_zao c_zao k_zao
 have b_zao:=F_zao.binds (ps:=["text"]) fun _ _ _ _ _ _ us hl=>by obtain ⟨_,rfl⟩:=us1 hl;rfl
 have F_zam:=ZAe (st:=ZAw) l_zam c_zam k_zam
 have b_zam:=F_zam.binds (ps:=["text"]) fun _ _ _ _ _ _ us hl=>by obtain ⟨_,rfl⟩:=us1 hl;rfl
 have F_zan:=ZAe (st:=ZA0) l_zan c_zan k_zan
 have b_zan:=F_zan.binds (ps:=["rules"]) fun _ _ _ _ _ _ us hl=>by obtain ⟨_,rfl⟩:=us1 hl;rfl
 have F_zaq:=ZAe (st:=ZA6) l_zaq c_zaq k_zaq
 have b_zaq:=F_zaq.binds (ps:=["text"]) fun _ _ _ _ _ _ us hl=>by obtain ⟨_,rfl⟩:=us1 hl;rfl
 have F_zar:=ZAe (st:=ZA5) l_zar c_zar k_zar
 have b_zar:=F_zar.binds (ps:=["text"]) fun _ _ _ _ _ _ us hl=>by obtain ⟨_,rfl⟩:=us1 hl;rfl
 have F_zaz:=ZAe (st:=ZCE) l_zaz c_zaz k_zaz
 have b_zaz:=F_zaz.binds (ps:=["_law_cell"]) fun _ _ _ _ _ _ us hl=>by obtain ⟨_,rfl⟩:=us1 hl;rfl
 have F_zaB:=ZAe (st:=ZCd) l_zaB c_zaB k_zaB
 have b_zaB:=F_zaB.binds (ps:=["_law_cell"]) fun _ _ _ _ _ _ us hl=>by obtain ⟨_,rfl⟩:=us1 hl;rfl
 have F_zaC:=ZAe (st:=ZC8) l_zaC c_zaC k_zaC
 have b_zaC:=F_zaC.binds (ps:=["_law_cell"]) fun _ _ _ _ _ _ us hl=>by obtain ⟨_,rfl⟩:=us1 hl;rfl
 have F_zav:=ZAe (st:=ZBX) l_zav c_zav k_zav
 have b_zav:=F_zav.binds (ps:=["_law_text","_law_cells"]) fun _ _ _ _ _ _ us hl=>by obtain ⟨_,_,rfl⟩:=us2 hl;rfl
 have F_zax:=ZAe (st:=ZBz) l_zax c_zax k_zax
 have b_zax:=F_zax.binds (ps:=["_law_word"]) fun _ _ _ _ _ _ us hl=>by obtain ⟨_,rfl⟩:=us1 hl;rfl
 have F_zaE:=ZAe (st:=ZDO) l_zaE c_zaE k_zaE
 have b_zaE:=F_zaE.binds (ps:=["_law_word"]) fun _ _ _ _ _ _ us hl=>by obtain ⟨_,rfl⟩:=us1 hl;rfl
 have F_zap:=ZAe (st:=ZA7) l_zap c_zap k_zap
 have b_zap:=F_zap.binds (ps:=["_law_text"]) fun _ _ _ _ _ _ us hl=>by obtain ⟨_,rfl⟩:=us1 hl;rfl
 have F_zay:=ZAe (st:=ZBy) l_zay c_zay k_zay
 have b_zay:=F_zay.binds (ps:=["_law_text"]) fun _ _ _ _ _ _ us hl=>by obtain ⟨_,rfl⟩:=us1 hl;rfl
 have F_zaw:=ZAe (st:=ZBY) l_zaw c_zaw k_zaw
 have b_zaw:=F_zaw.binds (ps:=["_law_text"]) fun _ _ _ _ _ _ us hl=>by obtain ⟨_,rfl⟩:=us1 hl;rfl
 have F_zaD:=ZAe (st:=ZCm) l_zaD c_zaD k_zaD
 have b_zaD:=F_zaD.binds (ps:=["_law_script"]) fun _ _ _ _ _ _ us hl=>by obtain ⟨_,rfl⟩:=us1 hl;rfl
 have T:Bt K mg C_zaJ C_zaH C_zaI C_zaG C_zaF C_HallError C_NoRule C_NoPaper C_NoPlace C_NoKey C_NoRow C_NoOrder C_TooFar C_Spent A_ATS:=⟨PySem.W.mg_none_of X G z_len,PySem.W.mg_none_of X G z_range,PySem.W.mg_none_of X G z_list,PySem.W.mg_none_of X G z_isinstance,PySem.W.mg_none_of X G z_bool,PySem.W.mg_none_of X G z_int,PySem.W.mg_none_of X G z_str,PySem.W.mg_none_of X G z_max,PySem.W.mg_none_of X G z_all,PySem.W.mg_none_of X G z_ValueError,⟨_,PySem.W.mg_of X G z_MOST_FIGURES⟩,⟨_,PySem.W.mg_of X G z_GREATEST_AT⟩,⟨_,PySem.W.mg_of X G z_UP⟩,⟨_,PySem.W.mg_of X G z_DOWN⟩,⟨_,PySem.W.mg_of X G z_NEAR⟩,⟨_,PySem.W.mg_of X G z_RING⟩,⟨_,PySem.W.mg_of X G z_VOTES_AND_BLANK⟩,PySem.W.mg_of X G z_ATS,fun H=>.inr ⟨_,_,_,lt_ATS,rfl,rfl,ZAM (Nat.le_of_ble_eq_true rfl),(.cons ⟨_,rfl⟩ (.cons ⟨_,rfl⟩ (.cons ⟨_,rfl⟩ (.cons ⟨_,rfl⟩ (.cons ⟨_,rfl⟩ (.cons ⟨_,rfl⟩ (.cons ⟨_,rfl⟩ (.cons ⟨_,rfl⟩ .nil))))))))⟩,PySem.W.mg_of X G a_zaJ,cl_zaJ,n_zaJ_columns,PySem.W.mg_of X G a_zaH,cl_zaH,n_zaH_at,n_zaH_gap,PySem.W.mg_of X G a_zaI,cl_zaI,n_zaI_at,n_zaI_size,PySem.W.mg_of X G a_zaG,cl_zaG,n_zaG_rules,PySem.W.mg_of X G a_zaF,cl_zaF,n_zaF_rules,PySem.W.mg_of X G a_HallError,PySem.W.mg_of X G a_NoRule,PySem.W.mg_of X G a_NoPaper,PySem.W.mg_of X G a_NoPlace,PySem.W.mg_of X G a_NoKey,PySem.W.mg_of X G a_NoRow,PySem.W.mg_of X G a_NoOrder,PySem.W.mg_of X G a_TooFar,PySem.W.mg_of X G a_Spent,xq_NoRule,⟨xg_NoRule,xh_NoRule,xa_NoRule,xs_NoRule,xt_NoRule,xo_NoRule,xb_NoRule⟩,xd_NoRule,xm_NoRule_HallError,kit_int_bool,kit_str_str,kit_int_str,kit_bool_str,kit_NoneType_str,kit_list_str,kit_tuple_str,kit_NoRule_ValueError,kit_NoRule_NoRow,kit_NoRule_NoRule,kit_NoRule_NoPlace,kit_NoRule_NoKey,kit_NoRule_NoPaper,kit_NoRule_NoOrder,kit_NoRule_TooFar,kit_NoRule_Spent⟩
 refine ⟨W.fnOf "law" "law" (ZAJ ZCm) (ZAH ZCm) (ZAB ZCm) .none kV_zaD dc_zaD pm_zaD an_zaD cd_zaD ct_zaD,fun s v=>.of_eq rfl,fun base _ _=>?_⟩
 have f_zav':Fn l.prog w K mg base CX0 "_law_spoiled" 1 ["_law_text","_law_cells"] (ZCR):=⟨_,_,ok_spoiled F_zav T ,b_zav,k_zav,PySem.W.mg_of X G a_zav⟩
 have f_zax':Fn l.prog w K mg base CX0 "_law_number" 1 ["_law_word"] (ZDX):=⟨_,_,ok_number F_zax T ,b_zax,k_zax,PySem.W.mg_of X G a_zax⟩
 have f_zaE':Fn l.prog w K mg base CX0 "_law_key" 1 ["_law_word"] (ZDY):=⟨_,_,ok_key F_zaE T ,b_zaE,k_zaE,PySem.W.mg_of X G a_zaE⟩
 have f_zap':Fn l.prog w K mg base CX0 "_law_plain_key" 2 ["_law_text"] (ZDW):=⟨_,_,ok_plain_key F_zap T f_zax' f_zaE',b_zap,k_zap,PySem.W.mg_of X G a_zap⟩
 have f_zay':Fn l.prog w K mg base CX0 "_law_widest" 3 ["_law_text"] (ZDV):=⟨_,_,ok_widest F_zay T f_zap',b_zay,k_zay,PySem.W.mg_of X G a_zay⟩
 have f_zaz':Fn l.prog w K mg base CX0 "_law_plain" 1 ["_law_cell"] (ZCT):=⟨_,_,ok_plain F_zaz T ,b_zaz,k_zaz,PySem.W.mg_of X G a_zaz⟩
 have f_zaB':Fn l.prog w K mg base CX0 "_law_part" 2 ["_law_cell"] (ZCk):=⟨_,_,ok_part F_zaB T f_zaz',b_zaB,k_zaB,PySem.W.mg_of X G a_zaB⟩
 have f_zat':Fn l.prog w K mg base CX0 "_law_cell_at" 1 ["_law_script","_law_k"] (ZDZ K):=⟨_,_,ok_cell_at F_zat T ,b_zat,k_zat,PySem.W.mg_of X G a_zat⟩
 have f_zaC':Fn l.prog w K mg base CX0 "_law_odd" 1 ["_law_cell"] (ZBm):=⟨_,_,ok_odd F_zaC T ,b_zaC,k_zaC,PySem.W.mg_of X G a_zaC⟩
 have f_zau':Fn l.prog w K mg base (CXE l.prog w) "read_at" 1 ["text"] (ZCS C_NoRule):=⟨_,_,ok_read_at F_zau T ,b_zau,k_zau,PySem.W.mg_of X G a_zau⟩
 have f_zaa':Fn l.prog w K mg base CX0 "is_written_number" 1 ["text"] (ZDU):=⟨_,_,ok_is_written_number F_zaa T ,b_zaa,k_zaa,PySem.W.mg_of X G a_zaa⟩
 have f_zao':Fn l.prog w K mg base (CXE l.prog w) "read_size" 2 ["text"] (ZB3 C_NoRule):=⟨_,_,ok_read_size F_zao T f_zaa',b_zao,k_zao,PySem.W.mg_of X G a_zao⟩
 have f_zas':Fn l.prog w K mg base CX0 "check_at" 1 ["at"] (ZCU):=⟨_,_,ok_check_at F_zas T ,b_zas,k_zas,PySem.W.mg_of X G a_zas⟩
 have f_zak':Fn l.prog w K mg base CX0 "check_column" 2 ["at","way"] (ZCC):=⟨_,_,ok_check_column F_zak T f_zas',b_zak,k_zak,PySem.W.mg_of X G a_zak⟩
 have k_zaJ':Kl l.prog w K mg base CX0 "KeyRule" C_zaJ 3 ["self","columns"] (ZBn K C_zaJ):=⟨PySem.W.mg_of X G a_zaJ,_,_,ok_KeyRule_init F_zal T f_zak',b_zal,mk_zaJ,a_zal,i_zal,kc_zaJ⟩
 have k_zaH':Kl l.prog w K mg base (CXE l.prog w) "NearRule" C_zaH 2 ["self","at","gap"] (ZCl C_zaH C_NoRule):=⟨PySem.W.mg_of X G a_zaH,_,_,ok_NearRule_init F_zaj T f_zas',b_zaj,mk_zaH,a_zaj,i_zaj,kc_zaH⟩
 have k_zaI':Kl l.prog w K mg base (CXE l.prog w) "RingRule" C_zaI 2 ["self","at","size"] (ZCi C_zaI C_NoRule):=⟨PySem.W.mg_of X G a_zaI,_,_,ok_RingRule_init F_zai T f_zas',b_zai,mk_zaI,a_zai,i_zai,kc_zaI⟩
 have f_zam':Fn l.prog w K mg base (CXE l.prog w) "read_single" 5 ["text"] (ZBc K C_zaJ C_zaH C_zaI C_NoRule):=⟨_,_,ok_read_single F_zam T f_zau' f_zao' k_zaJ' k_zaH' k_zaI',b_zam,k_zam,PySem.W.mg_of X G a_zam⟩
 have k_zaG':Kl l.prog w K mg base CX0 "VoteRule" C_zaG 1 ["self","rules"] (ZB2 C_zaG):=⟨PySem.W.mg_of X G a_zaG,_,_,ok_VoteRule_init F_zah T ,b_zah,mk_zaG,a_zah,i_zah,kc_zaG⟩
 have f_zaq':Fn l.prog w K mg base (CXE l.prog w) "read_part" 6 ["text"] (ZB4 K C_zaJ C_zaH C_zaI C_zaG C_NoRule):=⟨_,_,ok_read_part F_zaq T f_zam' k_zaG',b_zaq,k_zaq,PySem.W.mg_of X G a_zaq⟩
 have k_zaF':Kl l.prog w K mg base CX0 "ChainRule" C_zaF 1 ["self","rules"] (ZB2 C_zaF):=⟨PySem.W.mg_of X G a_zaF,_,_,ok_ChainRule_init F_zag T ,b_zag,mk_zaF,a_zag,i_zag,kc_zaF⟩
 have f_zar':Fn l.prog w K mg base (CXE l.prog w) "read_rule" 7 ["text"] (ZBN K C_zaJ C_zaH C_zaI C_zaG C_zaF C_NoRule):=⟨_,_,ok_read_rule F_zar T f_zaq' k_zaF',b_zar,k_zar,PySem.W.mg_of X G a_zar⟩
 have f_zaw':Fn l.prog w K mg base CX0 "_law_refused" 8 ["_law_text"] (ZCj):=⟨_,_,ok_refused F_zaw T f_zar',b_zaw,k_zaw,PySem.W.mg_of X G a_zaw⟩
 have f_zaA':Fn l.prog w K mg base CX0 "_law_whole" 1 ["_law_found"] (ZCB):=⟨_,_,ok_whole F_zaA T ,b_zaA,k_zaA,PySem.W.mg_of X G a_zaA⟩
 have t_KeyRule_widest':Mt l.prog w K mg base CX0 C_zaJ "widest" 1 ["self"] (ZBx K C_zaJ):=⟨cl_zaJ,_,_,ok_KeyRule_widest F_zaf T ,b_zaf,a_zaf,i_zaf,k_zaf⟩
 have t_NearRule_widest':Mt l.prog w K mg base CX0 C_zaH "widest" 1 ["self"] (ZBV C_zaH):=⟨cl_zaH,_,_,ok_NearRule_widest F_zac T ,b_zac,a_zac,i_zac,k_zac⟩
 have t_RingRule_widest':Mt l.prog w K mg base CX0 C_zaI "widest" 1 ["self"] (ZBU C_zaI):=⟨cl_zaI,_,_,ok_RingRule_widest F_zae T ,b_zae,a_zae,i_zae,k_zae⟩
 have f_zan':Fn l.prog w K mg base CX0 "widest_of" 2 ["rules"] (ZC6 K C_zaJ C_zaH C_zaI):=⟨_,_,ok_widest_of F_zan T t_KeyRule_widest' t_NearRule_widest' t_RingRule_widest',b_zan,k_zan,PySem.W.mg_of X G a_zan⟩
 have t_VoteRule_widest':Mt l.prog w K mg base CX0 C_zaG "widest" 3 ["self"] (ZCh K C_zaJ C_zaH C_zaI C_zaG):=⟨cl_zaG,_,_,ok_VoteRule_widest F_zad T f_zan',b_zad,a_zad,i_zad,k_zad⟩
 have f_zan_2':Fn l.prog w K mg base CX0 "widest_of" 4 ["rules"] (ZC5 K C_zaJ C_zaH C_zaI C_zaG):=⟨_,_,ok_widest_of_2 F_zan T t_KeyRule_widest' t_NearRule_widest' t_RingRule_widest' t_VoteRule_widest',b_zan,k_zan,PySem.W.mg_of X G a_zan⟩
 have t_ChainRule_widest':Mt l.prog w K mg base CX0 C_zaF "widest" 5 ["self"] (ZC7 K C_zaJ C_zaH C_zaI C_zaG C_zaF):=⟨cl_zaF,_,_,ok_ChainRule_widest F_zab T f_zan_2',b_zab,a_zab,i_zab,k_zab⟩
 exact ok_law F_zaD T f_zav' f_zay' f_zaB' f_zat' f_zaC' f_zaw' f_zaA' f_zar' t_ChainRule_widest'
theorem walk {l:PySem.W.OpenLaw} {q:Program} {loose:List Str} {XP:(Str->Option Value)->Heap->Prop} {YP:World->Heap->Prop} {d:DefRec} {K:Params->W.Frag} (hn:l.most=some 63) (hdf:d.params.defaults=[])
  (hY:∀ (w:World) (h:Heap),YP w h->(K w.params).In h)
  (F:∀ (w:World) (mg:Str->Option Value) (fa:Addr) (h:Heap),(K w.params).In h->h.Ns mainGlobals mg->mg d.name=some (.ref fa) ->
   ∃ fd:FuncData,(∀ (s:Shared) (u:Value),BindsTo s fd ⟨[u],[]⟩ [("_law_script",u)]) /\ ∀ base:Heap,(K w.params).In base->base.Ns mainGlobals mg->FnOk l.prog w (K w.params) mg base CX0 9 fa fd ["_law_script"] (ZDh (K w.params))) :
  PySem.W.WalkO q loose XP YP l.row.toRowW d [] (fun f vs=>PySem.call f vs) :=
 L2.walk_of (n:=63) (k:=9) (x:="_law_script") (CX:=fun _=>CX0) (sp:=fun w=>ZDh (K w.params)) hn (by decide) hdf ⟨rfl,by decide,by decide,rfl⟩ hY F (fun _ _ a ns hl _ hS=>⟨a,ns,rfl,hS,hl,fun _=>rfl⟩) fun _ _ _ _ _ z=>z
end Law
open PySem PySem.W PyProof.Rows
set_option maxRecDepth 100000 in
set_option maxHeartbeats 0 in
theorem PySem.Challenge.cw_sorthall_k84_no_rule_text_holds : PySem.Challenge.rw_sorthall_k84_no_rule_text.Holds := by
 refine L2.hd0 ?_
 k_fill
 refine Law.walk (l:=PySem.Challenge.rw_sorthall_k84_no_rule_text) rfl rfl (fun w h Y=>PySem.W.kIn_of Y) ?F
 case F=>
  intro w mg fa h KX G hmg
  refine' Law.all_mk KX G hmg ?a_zaJ ?pg_zaJ ?hd_zaJ ?po_zaJ ?sa_zaJ ?mk_zaJ ?kc_zaJ ?n_zaJ_columns ?a_zal ?i_zal ?l_zal ?c_zal ?k_zal ?a_zaf ?i_zaf ?l_zaf ?c_zaf ?k_zaf ?a_zaH ?pg_zaH ?hd_zaH ?po_zaH ?sa_zaH ?mk_zaH ?kc_zaH ?n_zaH_at ?n_zaH_gap ?a_zaj ?i_zaj ?l_zaj ?c_zaj ?k_zaj ?a_zac ?i_zac ?l_zac ?c_zac ?k_zac ?a_zaI ?pg_zaI ?hd_zaI ?po_zaI ?sa_zaI ?mk_zaI ?kc_zaI ?n_zaI_at ?n_zaI_size ?a_zai ?i_zai ?l_zai ?c_zai ?k_zai ?a_zae ?i_zae ?l_zae ?c_zae ?k_zae ?a_zaG ?pg_zaG ?hd_zaG ?po_zaG ?sa_zaG ?mk_zaG ?kc_zaG ?n_zaG_rules ?a_zah ?i_zah ?l_zah ?c_zah ?k_zah ?a_zad ?i_zad ?l_zad ?c_zad ?k_zad ?a_zaF ?pg_zaF ?hd_zaF ?po_zaF ?sa_zaF ?mk_zaF ?kc_zaF ?n_zaF_rules ?a_zag ?i_zag ?l_zag ?c_zag ?k_zag ?a_zab ?i_zab ?l_zab ?c_zab ?k_zab ?a_HallError ?a_NoRule ?a_NoPaper ?a_NoPlace ?a_NoKey ?a_NoRow ?a_NoOrder ?a_TooFar ?a_Spent ?xq_NoRule ?xg_NoRule ?xh_NoRule ?xa_NoRule ?xs_NoRule ?xt_NoRule ?xo_NoRule ?xb_NoRule ?xd_NoRule ?xm_NoRule_HallError ?a_zat ?l_zat ?c_zat ?k_zat ?a_zaA ?l_zaA ?c_zaA ?k_zaA ?a_zas ?l_zas ?c_zas ?k_zas ?a_zak ?l_zak ?c_zak ?k_zak ?a_zaa ?l_zaa ?c_zaa ?k_zaa ?a_zau ?l_zau ?c_zau ?k_zau ?a_zao ?l_zao ?c_zao ?k_zao ?a_zam ?l_zam ?c_zam ?k_zam ?a_zan ?l_zan ?c_zan ?k_zan ?a_zaq ?l_zaq ?c_zaq ?k_zaq ?a_zar ?l_zar ?c_zar ?k_zar ?a_zaz ?l_zaz ?c_zaz ?k_zaz ?a_zaB ?l_zaB ?c_zaB ?k_zaB ?a_zaC ?l_zaC ?c_zaC ?k_zaC ?a_zav ?l_zav ?c_zav ?k_zav ?a_zax ?l_zax ?c_zax ?k_zax ?a_zaE ?l_zaE ?c_zaE ?k_zaE ?a_zap ?l_zap ?c_zap ?k_zap ?a_zay ?l_zay ?c_zay ?k_zay ?a_zaw ?l_zaw ?c_zaw ?k_zaw ?a_zaD ?l_zaD ?c_zaD ?k_zaD ?z_MOST_FIGURES ?z_GREATEST_AT ?z_UP ?z_DOWN ?z_NEAR ?z_RING ?z_VOTES_AND_BLANK ?z_ATS ?lt_ATS ?z_len ?z_range ?z_list ?z_isinstance ?z_bool ?z_int ?z_str ?z_max ?z_all ?z_ValueError ?kit_int_bool ?kit_str_str ?kit_int_str ?kit_bool_str ?kit_NoneType_str ?kit_list_str ?kit_tuple_str ?kit_NoRule_ValueError ?kit_NoRule_NoRow ?kit_NoRule_NoRule ?kit_NoRule_NoPlace ?kit_NoRule_NoKey ?kit_NoRule_NoPaper ?kit_NoRule_NoOrder ?kit_NoRule_TooFar ?kit_NoRule_Spent
  (case a_zaJ=>k_is)
  (case pg_zaJ=>k_is)
  (case hd_zaJ=>k_is)
  (case po_zaJ=>k_is)
  (case sa_zaJ=>k_is)
  (case mk_zaJ=>k_is)
  (case kc_zaJ=>k_is)
  (case n_zaJ_columns=>k_is)
  (case a_zal=>k_is)
  (case i_zal=>k_is)
  (case l_zal=>k_is)
  (case c_zal=>k_is)
  (case k_zal=>k_is)
  (case a_zaf=>k_is)
  (case i_zaf=>k_is)
  (case l_zaf=>k_is)
  (case c_zaf=>k_is)
  (case k_zaf=>k_is)
  (case a_zaH=>k_is)
  (case pg_zaH=>k_is)
  (case hd_zaH=>k_is)
  (case po_zaH=>k_is)
  (case sa_zaH=>k_is)
  (case mk_zaH=>k_is)
  (case kc_zaH=>k_is)
  (case n_zaH_at=>k_is)
  (case n_zaH_gap=>k_is)
  (case a_zaj=>k_is)
  (case i_zaj=>k_is)
  (case l_zaj=>k_is)
  (case c_zaj=>k_is)
  (case k_zaj=>k_is)
  (case a_zac=>k_is)
  (case i_zac=>k_is)
  (case l_zac=>k_is)
  (case c_zac=>k_is)
  (case k_zac=>k_is)
  (case a_zaI=>k_is)
  (case pg_zaI=>k_is)
  (case hd_zaI=>k_is)
  (case po_zaI=>k_is)
  (case sa_zaI=>k_is)
  (case mk_zaI=>k_is)
  (case kc_zaI=>k_is)
  (case n_zaI_at=>k_is)
  (case n_zaI_size=>k_is)
  (case a_zai=>k_is)
  (case i_zai=>k_is)
  (case l_zai=>k_is)
  (case c_zai=>k_is)
  (case k_zai=>k_is)
  (case a_zae=>k_is)
  (case i_zae=>k_is)
  (case l_zae=>k_is)
  (case c_zae=>k_is)
  (case k_zae=>k_is)
  (case a_zaG=>k_is)
  (case pg_zaG=>k_is)
  (case hd_zaG=>k_is)
  (case po_zaG=>k_is)
  (case sa_zaG=>k_is)
  (case mk_zaG=>k_is)
  (case kc_zaG=>k_is)
  (case n_zaG_rules=>k_is)
  (case a_zah=>k_is)
  (case i_zah=>k_is)
  (case l_zah=>k_is)
  (case c_zah=>k_is)
  (case k_zah=>k_is)
  (case a_zad=>k_is)
  (case i_zad=>k_is)
  (case l_zad=>k_is)
  (case c_zad=>k_is)
  (case k_zad=>k_is)
  (case a_zaF=>k_is)
  (case pg_zaF=>k_is)
  (case hd_zaF=>k_is)
  (case po_zaF=>k_is)
  (case sa_zaF=>k_is)
  (case mk_zaF=>k_is)
  (case kc_zaF=>k_is)
  (case n_zaF_rules=>k_is)
  (case a_zag=>k_is)
  (case i_zag=>k_is)
  (case l_zag=>k_is)
  (case c_zag=>k_is)
  (case k_zag=>k_is)
  (case a_zab=>k_is)
  (case i_zab=>k_is)
  (case l_zab=>k_is)
  (case c_zab=>k_is)
  (case k_zab=>k_is)
  (case a_HallError=>k_is)
  (case a_NoRule=>k_is)
  (case a_NoPaper=>k_is)
  (case a_NoPlace=>k_is)
  (case a_NoKey=>k_is)
  (case a_NoRow=>k_is)
  (case a_NoOrder=>k_is)
  (case a_TooFar=>k_is)
  (case a_Spent=>k_is)
  (case xq_NoRule=>k_exc)
  (case xg_NoRule=>k_is)
  (case xh_NoRule=>k_is)
  (case xa_NoRule=>k_is)
  (case xs_NoRule=>k_is)
  (case xt_NoRule=>k_is)
  (case xo_NoRule=>k_is)
  (case xb_NoRule=>k_is)
  (case xd_NoRule=>k_is)
  (case xm_NoRule_HallError=>kts_exm)
  (case a_zat=>k_is)
  (case l_zat=>k_is)
  (case c_zat=>k_is)
  (case k_zat=>k_is)
  (case a_zaA=>k_is)
  (case l_zaA=>k_is)
  (case c_zaA=>k_is)
  (case k_zaA=>k_is)
  (case a_zas=>k_is)
  (case l_zas=>k_is)
  (case c_zas=>k_is)
  (case k_zas=>k_is)
  (case a_zak=>k_is)
  (case l_zak=>k_is)
  (case c_zak=>k_is)
  (case k_zak=>k_is)
  (case a_zaa=>k_is)
  (case l_zaa=>k_is)
  (case c_zaa=>k_is)
  (case k_zaa=>k_is)
  (case a_zau=>k_is)
  (case l_zau=>k_is)
  (case c_zau=>k_is)
  (case k_zau=>k_is)
  (case a_zao=>k_is)
  (case l_zao=>k_is)
  (case c_zao=>k_is)
  (case k_zao=>k_is)
  (case a_zam=>k_is)
  (case l_zam=>k_is)
  (case c_zam=>k_is)
  (case k_zam=>k_is)
  (case a_zan=>k_is)
  (case l_zan=>k_is)
  (case c_zan=>k_is)
  (case k_zan=>k_is)
  (case a_zaq=>k_is)
  (case l_zaq=>k_is)
  (case c_zaq=>k_is)
  (case k_zaq=>k_is)
  (case a_zar=>k_is)
  (case l_zar=>k_is)
  (case c_zar=>k_is)
  (case k_zar=>k_is)
  (case a_zaz=>k_is)
  (case l_zaz=>k_is)
  (case c_zaz=>k_is)
  (case k_zaz=>k_is)
  (case a_zaB=>k_is)
  (case l_zaB=>k_is)
  (case c_zaB=>k_is)
  (case k_zaB=>k_is)
  (case a_zaC=>k_is)
  (case l_zaC=>k_is)
  (case c_zaC=>k_is)
  (case k_zaC=>k_is)
  (case a_zav=>k_is)
  (case l_zav=>k_is)
  (case c_zav=>k_is)
  (case k_zav=>k_is)
  (case a_zax=>k_is)
  (case l_zax=>k_is)
  (case c_zax=>k_is)
  (case k_zax=>k_is)
  (case a_zaE=>k_is)
  (case l_zaE=>k_is)
  (case c_zaE=>k_is)
  (case k_zaE=>k_is)
  (case a_zap=>k_is)
  (case l_zap=>k_is)
  (case c_zap=>k_is)
  (case k_zap=>k_is)
  (case a_zay=>k_is)
  (case l_zay=>k_is)
  (case c_zay=>k_is)
  (case k_zay=>k_is)
  (case a_zaw=>k_is)
  (case l_zaw=>k_is)
  (case c_zaw=>k_is)
  (case k_zaw=>k_is)
  (case a_zaD=>k_is)
  (case l_zaD=>k_is)
  (case c_zaD=>k_is)
  (case k_zaD=>k_is)
  (case z_MOST_FIGURES=>k_is)
  (case z_GREATEST_AT=>k_is)
  (case z_UP=>k_is)
  (case z_DOWN=>k_is)
  (case z_NEAR=>k_is)
  (case z_RING=>k_is)
  (case z_VOTES_AND_BLANK=>k_is)
  (case z_ATS=>k_is)
  (case lt_ATS=>k_is)
  (case z_len=>k_is)
  (case z_range=>k_is)
  (case z_list=>k_is)
  (case z_isinstance=>k_is)
  (case z_bool=>k_is)
  (case z_int=>k_is)
  (case z_str=>k_is)
  (case z_max=>k_is)
  (case z_all=>k_is)
  (case z_ValueError=>k_is)
  (case kit_int_bool=>kit_is)
  (case kit_str_str=>kit_is)
  (case kit_int_str=>kit_is)
  (case kit_bool_str=>kit_is)
  (case kit_NoneType_str=>kit_is)
  (case kit_list_str=>kit_is)
  (case kit_tuple_str=>kit_is)
  (case kit_NoRule_ValueError=>kit_is)
  (case kit_NoRule_NoRow=>kit_is)
  (case kit_NoRule_NoRule=>kit_is)
  (case kit_NoRule_NoPlace=>kit_is)
  (case kit_NoRule_NoKey=>kit_is)
  (case kit_NoRule_NoPaper=>kit_is)
  (case kit_NoRule_NoOrder=>kit_is)
  (case kit_NoRule_TooFar=>kit_is)
  (case kit_NoRule_Spent=>kit_is)
